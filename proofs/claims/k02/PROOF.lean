import PyProof.Rows.All
import KE.RegKIsAll
import KE.KSortTup
import KE.KFromBytes
import KE.KIsAll
import KE.KStateDown
import Wide.FinOn
import PySem.Challenge.RW_rowsorder_k02_pairs_closed
set_option Elab.async false
set_option linter.all false
set_option maxRecDepth 100000
set_option maxHeartbeats 1000000
def Hq:=@List.getElem?_eq_getElem
def Hr:=@PySem.wpAny_bind
def Hs:=@if_pos
def Ht:=@if_neg
def Hu:=@PySem.W.kasC_bind
def Hv:=@Nat.le_refl
def Hw:=@PySem.W.kasC_pure
def Hx:=@PySem.Heap.get?_push_of_some
def Hy:=@PySem.wpAny_pure
def Hz:=@List.mem_cons_of_mem
def HA:=@List.mem_cons
def HB:=@decide_eq_true
def HC:=@List.mem_cons_self
def HE:=@List.getElem?_eq_some_iff
def HF:=@PySem.Heap.lt_size
def HG:=@List.mem_of_getElem?
def HH:=@List.getElem?_map
def HI:=@List.getElem?_set_self
def HJ:=@List.size_toArray
def HK:=@List.mem_map
def HL:=@List.getElem?_set_ne
def HM:=@Bool.false_eq_true
def HN:=@decide_eq_false
def HP:=@List.mem_append
def HQ:=@List.length_cons
def HR:=@PySem.Heap.get?_push_size
def HS:=@List.length_map
def HU:=@Bool.false_ne_true
def HV:=@Array.getD_eq_getD_getElem?
def HW:=@Array.length_toList
def HX:=@List.mem_range
def HY:=@Array.toList_append
def HZ:=@Nat.lt_of_lt_of_le
def Ia:=@List.append_assoc
def Ic:=@Nat.lt_irrefl
def Ie:=@Nat.lt_or_ge
def Ig:=@Array.getElem?_eq_getElem
def Ih:=@Nat.ne_of_lt
def Ij:=@Nat.zero_le
def Ik:=@PySem.sizeLine_eq
def Il:=@Array.toList_push
def Im:=@List.length_range'
def Ip:=@List.mem_iff_getElem
def Iq:=@List.mem_append_right
def Ir:=@Bool.and_eq_true
def Iu:=@List.length_append
def Iv:=@List.getElem?_append_right
def Iw:=@PySem.W.mg_of
def Iy:=@if_false
def Iz:=@Array.getElem?_toList
def IA:=@List.getElem?_append_left
def IB:=@List.pairwise_append
def IC:=@List.mem_singleton
def ID:=@PySem.W.kia_one
def IE:=@Array.getElem?_eq_some_iff
def IF:=@Nat.le_trans
def IG:=@Int.toNat_natCast
def IH:=@PySem.wpAny_setState_of
def II:=@List.pairwise_iff_getElem
def IJ:=@Nat.zero_add
def IK:=@PySem.W.kasC_range
def IL:=@PySem.Heap.get?_update_self
def IM:=@List.take_append_drop
def IP:=@List.perm_append_comm
def IQ:=@List.map_cons
def IS:=@List.getD_eq_getElem?_getD
def IT:=@PySem.wpAny_mono
def IU:=@List.length_take
def IV:=@PySem.Heap.get?_update_other
def IW:=@List.take_of_length_le
def IX:=@if_true
def IY:=@PySem.mem_of_lookup
def IZ:=@List.pairwise_map
def I0:=@List.Perm.append_left
def Ja:=@List.nodup_cons
def Jb:=@List.length_set
def Jc:=@List.getElem_mem
def Jd:=@PySem.W.kasC_cons
def Je:=@of_decide_eq_true
def Jf:=@Bool.eq_iff_iff
def Jg:=@List.mem_of_mem_take
def Jh:=@List.getElem?_replicate
def Ji:=@PySem.wpAny_truthy_bool
def Jj:=@List.take_add_one
def Jk:=@List.toList_toArray
def Jl:=@PySem.wpAny_holding
def Jm:=@Array.perm_iff_toList_perm
def Jn:=@List.mem_filterMap
def Jo:=@List.length_replicate
def Jp:=@PySem.Heap.size_push
def Jq:=@Array.size_extract
def Jr:=@List.mem_append_left
def Js:=@List.length_nil
def Jt:=@List.append_nil
def Ju:=@Option.isSome_iff_exists
def Jv:=@List.Pairwise.imp_of_mem
def Jw:=@Int.lt_trans
def Jx:=@List.set_eq_of_length_le
def Jy:=@List.eq_of_mem_replicate
def Jz:=@PySem.Value.isInt_shape
def JA:=@PySem.F.plainAttrs_list
def JB:=@List.map_congr_left
def JC:=@List.pairwise_cons
def JD:=@PyProof.Rows.F.plain_set_update_loop
def JE:=@PySem.wpAny_passesOwn
def JF:=@List.length_singleton
def JG:=@List.getElem?_eq_none
def JH:=@PySem.W.kasC_get
def JI:=@PySem.wpAny_newObj_type
def JJ:=@decide_eq_true_eq
def JK:=@Array.mem_toList_iff
def JL:=@List.extract_eq_take_drop
def JM:=@PySem.Around.under_plainId
def JN:=@Array.toList_reverse
def JO:=@PySem.W.kasC_modify
def JP:=@PySem.boot_len
def JQ:=@List.not_mem_nil
def JR:=@List.all_eq_true
def JS:=@Nat.lt_trans
def JT:=@List.nodup_range
def JU:=@PySem.F.called_set
def JV:=@List.lookup_cons
def JW:=@List.replicate_succ
def JX:=@Bool.not_true
def JY:=@PySem.codeAny_builtin
def JZ:=@List.map_append
def J0:=@Nat.lt_or_eq_of_le
def J1:=@PySem.W.cellsFrom_some
def J2:=@Array.getElem?_eq_none
def J3:=@List.drop_eq_nil_of_le
def J4:=@PySem.wpAny_pyIter_list
def J5:=@List.take_sublist
def J6:=@List.length_range
def J8:=@Nat.le_of_lt
def J9:=@PySem.codeAny_mono
def Ka:=@PySem.wpAny_setField
def Kb:=@List.map_map
def Kc:=@List.length_filter_le
def Kd:=@List.mem_iff_getElem?
def Ke:=@PySem.wpAny_rule
def Kf:=@Array.toList_extract
def Kg:=@PySem.wpAny_askSetting
def Kh:=@PySem.wpAny_call_entry
def Ki:=@List.filterMap_cons
def Kj:=@List.mem_filter
def Kk:=@PySem.wpAny_execs_nil
def Kl:=@List.foldl_cons
def Km:=@List.drop_eq_getElem_cons
def Kn:=@PySem.wpAny_Call_Name_kw
def Ko:=@List.length_erase_of_mem
def Kq:=@List.getElem?_drop
def Kr:=@PySem.call_meets
def Ks:=@PySem.isSubtype_type
def Kv:=@Nat.mul_le_mul
def Kw:=@List.flatten_cons
def Kx:=@Bool.not_eq_true'
def Ky:=@Nat.lt_trichotomy
def Kz:=@List.ext_getElem?
open List (of_mem_zip all_cons any_cons set_set)
open PySem.W (Frag)
open PySem.PyData (int)
namespace HD
open PySem PySem.W
noncomputable abbrev xw:=@PySem.W.Fast.tw10156331382660048174
noncomputable abbrev Cw:=@PySem.W.Fast.tw11892475500146522536
noncomputable abbrev GH:=@PySem.W.Fast.tw6613529449190102663
noncomputable abbrev Cg:=@PySem.W.Fast.tw14364793385576792824
noncomputable abbrev Bu:=@PySem.W.Fast.tw17154629097778926822
noncomputable abbrev wX:=@PySem.W.Fast.tw12822647523644345616
noncomputable def qy (p:Program):Thread:=
 ⟨do
  let code <-Bu p.main
  let frame <-wX code mainNs mainNs
  let _ <-run (.body (behindTheImports p) {scope:=p.main.scope,locals:=mainNs,globals:=mainNs,cells:=[],code,frame:=some frame})
  ret .none,
  .builtin "claim.caller" {},default,[]⟩
def xU (p:Program):topStub p=qy p:=by
 unfold topStub qy Bu wX
 rw[<-PySem.W.Fast.te17154629097778926822,<-PySem.W.Fast.te12822647523644345616]
noncomputable def hU (p:Program)(w:World)(n₀:Nat)(ann:Option Value):Nat->SharedT->Thread->Option SharedT
 | 0,_,_=>none
 |n + 1,s,t=>match through t with
  |true=>some s
  |false=>match GH n₀ ann t with
   |false=>none
   |true=>match xw (Cw Cg) p w s t with
    |some (s',t')=>hU p w n₀ ann n s' t'
    |none=>none
theorem ml {p:Program}{w:World}{n₀:Nat}{ann:Option Value}:∀{n:Nat} {s s':SharedT} {t:Thread},hU p w n₀ ann n s t=some s'->topRun treeTable p w n₀ ann n s.abs t=some s'.abs
 | 0,_,_,_,h=>by cases h
 |n + 1,s,s',t,h=>by
  unfold hU at h
  unfold topRun
  cases ht:through t with
  |true=>rw[ht] at h;cases h;rfl
  |false=>
   rw[ht] at h
   have hq:GH n₀ ann t=stepOk n₀ ann t:=by unfold GH;rw[<-PySem.W.Fast.te6613529449190102663]
   dsimp only at h
   rw[hq] at h
   cases hk:stepOk n₀ ann t with
   |false=>rw[hk] at h;cases h
   |true=>
    rw[hk] at h
    have hq:xw (Cw Cg) p w s t=stepT (denote treeTable) p w s t:=by unfold xw Cw Cg;rw[<-PySem.W.Fast.te10156331382660048174,<-PySem.W.Fast.te11892475500146522536,<-PySem.W.Fast.te14364793385576792824]
    dsimp only at h
    rw[hq] at h
    cases hs:stepT (denote treeTable) p w s t with
    |none=>rw[hs] at h;cases h
    |some r=>obtain⟨s₂,t₂⟩:=r;rw[hs] at h;rw[stepT_spec hs];exact ml h
def treeOf (l:List Obj):BT:=(l.foldl (λ(x:BT×Nat) o=>(x.1.ins x.2 o,x.2 + 1)) (.nil,0)).1
noncomputable def y1 (P:Params):BT:=treeOf (boot_heap P).objs.toList
abbrev kZ:Nat:=11
abbrev xq:Life:={}
def boot_abs (P:Params):absHeap (y1 P) kZ xq=boot_heap P:=by kernel_rfl
def vJ (w:World):((boot_heap w.params).isNs mainGlobals && (Array.mk ([]:List GenState)).size == 0,(boot_heap w.params).objs.size,(boot_heap w.params).nsMap mainGlobals "__annotations__")=(true,kZ,some (.ref 6)):=by kernel_rfl
noncomputable def nV (w:World)(os:OsState):SharedT:=⟨y1 w.params,kZ,xq,Array.mk [],boot_drawn,boot_toks,os⟩
noncomputable def uJ (p:Program)(w:World)(s:Shared):Bool:=staticsOk (importedModules p.main.body) (boot_heap w.params) s.heap && namesBound p s.heap && gensDone s && laidKept (boot_heap w.params) s.heap
def z7 {p q:Program}{loose:List Str}{Xt:Shared->Bool}{α:Type}{Yf:Shared->α}{Ya:World->α}{N:Nat}{g0:Bool}
  (e:opening p=plainProg p.main.scope.names) (hN:Nat.ble 600 N=true) (f:∀s,fenceModules? p s=some s)
  (run:∀(w:World) (os:OsState),(hU p w kZ (some (.ref 6)) N (nV w os) (qy p)).map (λs=>(uJ p w s.abs,openSeen q loose (importedModules p.main.body) Xt g0 s.abs,Yf s.abs))=some (true,openGood q loose,Ya w)):LeftO p q loose Xt Yf Ya N g0:=λw=>by
 obtain⟨⟨h,gs,d,k,os⟩,e,e'⟩:=Option.map_eq_some_iff.mp (boot_open e hN f w)
 obtain⟨rfl,rfl,rfl,rfl⟩:h=boot_heap w.params/\gs=Array.mk []/\d=boot_drawn/\k=boot_toks:=by simpa using e'
 obtain⟨z1,z2,z3⟩:_/\_/\_:=by simpa only [Prod.mk.injEq] using vJ w
 obtain⟨s',r,ls⟩:=Option.map_eq_some_iff.mp (run w os)
 obtain⟨l1,l2,l3⟩:_/\_/\_:=by simpa only [Prod.mk.injEq] using ls
 have r:=ml r
 have ha:(nV w os).abs=⟨boot_heap w.params,Array.mk [],boot_drawn,boot_toks,os⟩:=by
  show Shared.mk (absHeap (y1 w.params) kZ xq) _ _ _ _=_
  rw[boot_abs]
  rfl
 rw[ha,<-xU] at r
 have t:topFrom treeTable p w N ⟨boot_heap w.params,Array.mk [],boot_drawn,boot_toks,os⟩=some s'.abs:=by
  unfold topFrom
  dsimp only
  rw[z1,z2,z3,r]
  show (match uJ p w s'.abs with |true=>_ |false=>_)=_
  rw[l1]
 unfold openEnds
 rw[e]
 show (topFrom treeTable p w N _).map _=_
 rw[t]
 exact congrArg some (Prod.ext l2 l3)
theorem map_two {α β γ:Type}{o:Option α}{f:α->β}{g:α->γ}{b:β}{c:γ}(h:o.map f=some b)(k:o.map g=some c):o.map (λs=>(f s,g s))=some (b,c):=by
 cases o with
 |none=>cases h
 |some x=>cases h;cases k;rfl
noncomputable abbrev xC (p:Program)(N:Nat)(w:World)(os:OsState):Option SharedT:=hU p w kZ (some (.ref 6)) N (nV w os) (qy p)
def AN {p q:Program}{loose:List Str}{Xt:Shared->Bool}{α:Type}{Yf:Shared->α}{Ya:World->α}{N:Nat}{g0:Bool}
  (e:opening p=plainProg p.main.scope.names) (hN:Nat.ble 600 N=true) (f:∀s,fenceModules? p s=some s)
  (r1:∀w os,(xC p N w os).map (λs=>(uJ p w s.abs,(openSeen q loose (importedModules p.main.body) Xt g0 s.abs).1,Yf s.abs))=some (true,(openGood q loose).1,Ya w))
  (r2:∀w os,(xC p N w os).map (λs=>(openSeen q loose (importedModules p.main.body) Xt g0 s.abs).2)=some (openGood q loose).2):LeftO p q loose Xt Yf Ya N g0:=
 z7 e hN f λw os=>by
  have h:=map_two (r1 w os) (r2 w os)
  unfold xC at h
  cases z:hU p w kZ (some (.ref 6)) N (nV w os) (qy p) with
  |none=>rw[z] at h;cases h
  |some x=>
   rw[z] at h
   simp only[Option.map_some,Option.some.injEq,Prod.mk.injEq] at h ⊢
   exact⟨h.1.1,Prod.ext h.1.2.1 h.2,h.1.2.2⟩
end HD
namespace L2
open PySem PySem.Spec PyProof.Rows
section
variable {P:Program}{w:World}{κ:Type}[DecidableEq κ]
def Hf (kd:HeapKind P w κ)(h:Heap)(d:Addr)(xs:List (κ×Addr×Value))(ep:Nat):Prop:=
 ∃o es,h.get? d=some o/\o.ExactDict/\o.data=.dict es ep/\es.toList=xs.map (entryOfKey kd)/\(xs.map (·.1)).Nodup
variable {kd:HeapKind P w κ}{A:Around}{E:Value->Shared->Prop}{s:Shared}
end
end L2
section
set_option Elab.async false
namespace L2
open PySem PySem.Spec PyProof.Rows
abbrev Key:=Sum Int Str
def lF:Key->Value->Bool
 | .inl k,v=>Value.isInt k v
 | .inr x,v=>Value.isStrOf x v
def FK (w:World):Key->Int
 | .inl k=>hashInt k
 | .inr x=>hashStr w x
theorem aS:∀{k:Key} {v:Value},lF k v=true->(∃i t,k=Sum.inl i/\v=Value.int i t)\/(∃x t,k=Sum.inr x/\v=Value.str x t)
 | .inl i,v,h=>by
  obtain⟨t,e⟩:=Jz (k:=i) (v:=v) h
  exact .inl ⟨i,t,rfl,e⟩
 | .inr x,v,h=>by
  obtain⟨t,e⟩:=Value.isStrOf_shape (x:=x) (v:=v) h
  exact .inr ⟨x,t,rfl,e⟩
def v5 (i:Int)(t:Tok):lF (.inl i) (.int i t)=true:=by simp[lF,Value.isInt]
def vG (x:Str)(t:Tok):lF (.inr x) (.str x t)=true:=by simp[lF,Value.isStrOf]
def Dl (a b:Int):decide ((Sum.inl a:Key)=Sum.inl b)=(a == b):=by
 by_cases e:a=b
 ·subst e;simp
 ·have h:¬(Sum.inl a:Key)=Sum.inl b:=λq=>e (Sum.inl.inj q)
  rw[HN h]
  exact (beq_eq_false_iff_ne.mpr e).symm
def Du (a b:Str):decide ((Sum.inr a:Key)=Sum.inr b)=decide (a=b):=by
 by_cases e:a=b
 ·subst e;simp
 ·have h:¬(Sum.inr a:Key)=Sum.inr b:=λq=>e (Sum.inr.inj q)
  rw[HN h,HN e]
def B7 (a:Int)(b:Str):decide ((Sum.inl a:Key)=Sum.inr b)=false:=HN (λq=>nomatch q)
def Dh (a:Str)(b:Int):decide ((Sum.inr a:Key)=Sum.inl b)=false:=HN (λq=>nomatch q)
def b4 (prog:Program)(w:World):PySem.KeyKind prog w Key where
 is:=lF
 hash:=FK w
 inj:=λv a b ha hb=>by
  rcases aS ha with⟨i,t,rfl,rfl⟩ | ⟨x,t,rfl,rfl⟩
  ·rcases aS hb with⟨j,u,rfl,e⟩ | ⟨y,u,rfl,e⟩
   ·injection e with e1 _;rw[e1]
   ·exact nomatch e
  ·rcases aS hb with⟨j,u,rfl,e⟩ | ⟨y,u,rfl,e⟩
   ·exact nomatch e
   ·injection e with e1 _;rw[e1]
 byValue:=λk v h=>by
  rcases aS h with⟨i,t,rfl,rfl⟩ | ⟨x,t,rfl,rfl⟩ <;> rfl
 pyHash:=λhv h=>by
  rcases aS hv with⟨i,t,rfl,rfl⟩ | ⟨x,t,rfl,rfl⟩
  ·exact wpAny_pyHash_int h
  ·exact wpAny_pyHash_str h
 eqBool:=λhu hv h=>by
  rcases aS hu with⟨i,t,rfl,rfl⟩ | ⟨x,t,rfl,rfl⟩
  ·rcases aS hv with⟨j,u,rfl,rfl⟩ | ⟨y,u,rfl,rfl⟩
   ·rw[Dl] at h;exact wpAny_eqBool_int h
   ·rw[B7] at h;exact SeqAt.EqAt.int_str i t y u _ _ _ _ h
  ·rcases aS hv with⟨j,u,rfl,rfl⟩ | ⟨y,u,rfl,rfl⟩
   ·rw[Dh] at h;exact SeqAt.EqAt.str_int x t j u _ _ _ _ h
   ·rw[Du] at h;exact wpAny_eqBool_str h
 «strs»:=λk x t v h=>by
  rcases aS h with⟨i,u,rfl,e⟩ | ⟨y,u,rfl,e⟩
  ·exact nomatch e
  ·injection e with e1 _
   subst e1
   cases v <;> rfl
def qP (prog:Program)(w:World)(i:Int)(t:Tok):(b4 prog w).is (.inl i) (.int i t)=true:=v5 i t
def p9 (prog:Program)(w:World)(x:Str)(t:Tok):(b4 prog w).is (.inr x) (.str x t)=true:=vG x t
inductive V where
 |non |bl (b:Bool) |int (i:Int) |str (x:Str) |byt (b:Array UInt8) |flt (b:UInt64) |ref (a:Addr) |ty (n:String)
 deriving DecidableEq
def RelV:V->Value->Prop
 | .non,u=>u=Value.none
 | .bl b,u=>u=Value.bool b
 | .int i,u=>∃t,u=Value.int i t
 | .str x,u=>∃t,u=Value.str x t
 | .byt b,u=>∃t,u=Value.bytes b t
 | .flt b,u=>∃t,u=Value.float b t
 | .ref a,u=>u=Value.ref a
 | .ty n,u=>u=Value.type n
abbrev Vals:List V->List Value->Prop:=Paired RelV
def Vals.length {xs:List V}{us:List Value}(r:Vals xs us):xs.length=us.length:=Paired.length r
theorem Vals.get:∀{xs:List V} {us:List Value} {i:Nat} {x:V},Vals xs us->xs[i]? =some x->∃u,us[i]? =some u/\RelV x u
 |_,_,_,_,.nil,e=>by simp at e
 |_,_,0,_,.cons r _,e=>by simp at e;subst e;exact⟨_,rfl,r⟩
 |_,_,i + 1,x,.cons _ t,e=>by
  obtain⟨u,h1,h2⟩:=Vals.get (i:=i) (x:=x) t (by simpa using e)
  exact⟨u,by simpa using h1,h2⟩
theorem Vals.set {x:V}{u:Value}(r:RelV x u):∀{xs:List V} {us:List Value} (i:Nat),Vals xs us->Vals (xs.set i x) (us.set i u)
 |_,_,_,.nil=>.nil
 |_,_,0,.cons _ t=>.cons r t
 |_,_,i + 1,.cons q t=>.cons q (Vals.set r i t)
theorem Vals.append:∀{xs ys:List V} {us ws:List Value},Vals xs us->Vals ys ws->Vals (xs ++ ys) (us ++ ws)
 |_,_,_,_,.nil,s=>s
 |_,_,_,_,.cons r t,s=>.cons r (Vals.append t s)
theorem Vals.take:∀{xs:List V} {us:List Value} (n:Nat),Vals xs us->Vals (xs.take n) (us.take n)
 |_,_,0,_=>.nil
 |_,_,_ + 1,.nil=>.nil
 |_,_,n + 1,.cons r t=>.cons r (Vals.take n t)
theorem Vals.drop:∀{xs:List V} {us:List Value} (n:Nat),Vals xs us->Vals (xs.drop n) (us.drop n)
 |_,_,0,r=>r
 |_,_,_ + 1,.nil=>.nil
 |_,_,n + 1,.cons _ t=>Vals.drop n t
def CN:Option V->Option Value->Prop
 |some v,some u=>RelV v u
 |none,none=>True
 |_,_=>False
def KV {κ:Type}:List (κ×V)->List (κ×Value)->Prop:=Paired λ(p:κ×V) (q:κ×Value)=>p.1=q.1/\RelV p.2 q.2
def kV:Key->V
 | .inl i=>.int i
 | .inr x=>.str x
inductive HO where
 |lst (xs:List V)
 |tup (xs:List V)
 |dK (kvs:List (Key×V)) |dT (kvs:List (List Key×V)) (ep:Nat)
 |set (S:Int->Bool) (n:Nat)
 |ins (C dx:Addr) (fs:List (Str×V))
 |own (x:Addr)
 |xd (fs:List (Str×V))
 |met (f x:Addr)
 |lX (lo hi:Int)
 |aJ (o:Obj) (u:HO)
 |tbl (ps:Array Value)
 |ext (φ:Heap->Prop)
abbrev Hp:=Addr->Option HO
def upd (H:Hp)(a:Addr)(o:HO):Hp:=λb=>if b=a then some o else H b
def ah {H:Hp}{a:Addr}{o:HO}:upd H a o a=some o:=by unfold upd;rw[Hs rfl]
def ao {H:Hp}{a b:Addr}{o:HO}(h:b≠a):upd H a o b=H b:=by unfold upd;rw[Ht h]
def A8 {H:Hp}{a:Addr}{o u:HO}:upd (upd H a o) a u=upd H a u:=by
 funext b;unfold upd;split <;> rfl
def Bv {H:Hp}{a b:Addr}{o u:HO}(h:H a=some o)(h':H b=some u)(d:o≠u):a≠b:=by
 intro e;subst e;rw[h] at h';exact d (Option.some.inj h')
def ar {H:Hp}{a b:Addr}{o:HO}(h:H a=some o)(h':H b=none):a≠b:=by
 intro e;subst e;rw[h] at h';cases h'
section
variable (P:Program)(w:World)
def sP (h:Heap)(a:Addr)(items:Array Value):Prop:=∃o,h.get? a=some o/\o.cls=.type "tuple"/\∃n,o.data=.seq items n/\o.dict=none
def sP.isTup {h:Heap}{a:Addr}{items:Array Value}(x:sP h a items):IsTup h a items:=let ⟨o,e,c,n,d,_⟩:=x;⟨o,e,c,n,d⟩
def sP.new (h:Heap)(items:Array Value):sP (h.push {cls:=.type "tuple",data:=.seq items}) h.objs.size items:=⟨_,HR _ rfl,rfl,_,rfl,rfl⟩
def aU (H:Hp)(h:Heap)(a:Addr):HO->Prop
 | .lst xs=>xs.length<=sizeLine/\∃(its:List Value) (n:Nat),Vals xs its/\h.get? a=some {cls:=.type "list",data:=.seq its.toArray n}
 | .tup xs=>xs.length<=sizeLine/\∃its:List Value,Vals xs its/\sP h a its.toArray
 | .dK kvs=>kvs.length<=sizeLine/\(a == sysModules)=false/\∃vs,KV kvs vs/\h.DictOf (b4 P w) a vs
 | .dT kvs ep=>kvs.length<=sizeLine/\(a == sysModules)=false/\∃xs:List (List Key×Addr×Value),
   Paired (λ(p:List Key×V) (q:List Key×Addr×Value)=>p.1=q.1/\(H q.2.1=some (.tup (p.1.map kV))\/∃o,H q.2.1=some (.aJ o (.tup (p.1.map kV))))/\RelV p.2 q.2.2) kvs xs/\
   Hf (tupleKind (b4 P w)) h a xs ep
 | .set S n=>h.SetOf (intKind P w) a S n
 | .ins C dx fs=>H dx=some (.own a)/\fs.length<=1000/\dx≠a/\h.get? a=some (PySem.W.instObj C dx)/\
   ∃mA,h.Ns1 dx mA/\(∀f,CN (fs.lookup f) (mA f))/\PySem.Within mA (fs.map (·.1))
 | .own _=>∃o,h.get? a=some o
 | .xd fs=>∃mA,h.Ns1 a mA/\∀f,CN (fs.lookup f) (mA f)
 | .lX lo hi=>∃t u v,h.get? a=some {cls:=.type "range",data:=.fields #[.int lo t,.int hi u,.int 1 v]}
 | .aJ o u=>h.get? a=some o/\aU H h a u
 | .tbl ps=>h.get? a=some {cls:=.none,data:=.fields ps}
 | .met f x=>h.get? a=some (PySem.W.methodObj (.ref f) (.ref x))
 | .ext φ=>φ h/\(∃o,h.get? a=some o)/\∀h1 h2:Heap,φ h1->(∀o,h1.get? a=some o->h2.get? a=some o)->φ h2
def gx (H:Hp)(h:Heap):Prop:=∀a o,H a=some o->aU P w H h a o
end
section
variable {P:Program}{w:World}{H H':Hp}{h h':Heap}{a:Addr}{o:HO}
theorem aU.lt (x:aU P w H h a o):a < h.objs.size:=by
 cases o with
 |lst xs=>obtain⟨_,_,_,_,e⟩:=x;exact HF e
 |tup xs=>obtain⟨_,_,_,p⟩:=x;exact p.isTup.lt
 |dK kvs=>obtain⟨_,_,_,_,o,_,_,e,_⟩:=x;exact HF e
 |dT kvs ep=>obtain⟨_,_,_,_,o,_,e,_⟩:=x;exact HF e
 |set S n=>obtain⟨o,_,_,_,e,_⟩:=x;exact HF e
 |ins C dx fs=>obtain⟨_,_,_,e,_⟩:=x;exact HF e
 |own y=>obtain⟨_,e⟩:=x;exact HF e
 |xd fs=>obtain⟨_,⟨_,_,_,e,_⟩,_⟩:=x;exact HF e
 |lX lo hi=>obtain⟨_,_,_,e⟩:=x;exact HF e
 |aJ ob u=>obtain⟨e,_⟩:=x;exact HF e
 |tbl ps=>exact HF (show h.get? a=some _ from x)
 |met f y=>exact HF (show h.get? a=some _ from x)
 |ext φ=>obtain⟨_,⟨_,e⟩,_⟩:=x;exact HF e
theorem Paired.mapP {α β:Type}{F G:α->β->Prop}:∀{l₁:List α} {l₂:List β},Paired F l₁ l₂->(∀a b,F a b->G a b)->Paired G l₁ l₂
 |_,_,.nil,_=>.nil
 |_,_,.cons r t,f=>.cons (f _ _ r) (Paired.mapP t f)
theorem aU.stay (x:aU P w H h a o)(k:∀b u,(b=a\/H b=some (.own a))->h.get? b=some u->h'.get? b=some u)
  (ho:∀b,H b=some (.own a)->H' b=some (.own a)) (ht:∀b xs,(H b=some (.tup xs)\/∃o,H b=some (.aJ o (.tup xs)))->(H' b=some (.tup xs)\/∃o,H' b=some (.aJ o (.tup xs)))):aU P w H' h' a o:=by
 induction o with
 |lst xs=>obtain⟨z,its,n,r,e⟩:=x;exact⟨z,its,n,r,k _ _ (.inl rfl) e⟩
 |tup xs=>obtain⟨z,its,r,ob,e,c⟩:=x;exact⟨z,its,r,ob,k _ _ (.inl rfl) e,c⟩
 |dK kvs=>obtain⟨z,y,vs,r,ob,es,ep,e,c⟩:=x;exact⟨z,y,vs,r,ob,es,ep,k _ _ (.inl rfl) e,c⟩
 |dT kvs ep=>
  obtain⟨z,y,xs,r,ob,es,e,c⟩:=x
  exact⟨z,y,xs,Paired.mapP r λp q z=>⟨z.1,ht _ _ z.2.1,z.2.2⟩,ob,es,k _ _ (.inl rfl) e,c⟩
 |set S n=>obtain⟨ob,es,ep,t,e,c⟩:=x;exact⟨ob,es,ep,t,k _ _ (.inl rfl) e,c⟩
 |ins C dx fs=>
  obtain⟨d,z,ne,e,mA,⟨od,es,ep,e2,c⟩,r⟩:=x
  exact⟨ho _ d,z,ne,k _ _ (.inl rfl) e,mA,⟨od,es,ep,k _ _ (.inr d) e2,c⟩,r⟩
 |own y=>obtain⟨ob,e⟩:=x;exact⟨ob,k _ _ (.inl rfl) e⟩
 |xd fs=>obtain⟨mA,⟨od,es,ep,e,c⟩,r⟩:=x;exact⟨mA,⟨od,es,ep,k _ _ (.inl rfl) e,c⟩,r⟩
 |lX lo hi=>obtain⟨t,u,v,e⟩:=x;exact⟨t,u,v,k _ _ (.inl rfl) e⟩
 |aJ ob u ih=>obtain⟨e,q⟩:=x;exact⟨k _ _ (.inl rfl) e,ih q⟩
 |tbl ps=>
  have e:h.get? a=some {cls:=.none,data:=.fields ps}:=x
  show h'.get? a=some {cls:=.none,data:=.fields ps}
  exact k a _ (.inl rfl) e
 |met f y=>
  have e:h.get? a=some (PySem.W.methodObj (.ref f) (.ref y)):=x
  show h'.get? a=some (PySem.W.methodObj (.ref f) (.ref y))
  exact k a _ (.inl rfl) e
 |ext φ=>obtain⟨p,⟨o,e⟩,st⟩:=x;exact⟨st _ _ p λo q=>k _ _ (.inl rfl) q,⟨o,k _ _ (.inl rfl) e⟩,st⟩
def gx.lt (x:gx P w H h)(e:H a=some o):a < h.objs.size:=(x a o e).lt
theorem gx.fresh (x:gx P w H h)(e:h.objs.size<=a):H a=none:=by
 cases q:H a with
 |none=>rfl
 |some u=>exact absurd (HZ (x.lt q) e) (Ic _)
def gx.kept (x:gx P w H h)(k:∀b u,h.get? b=some u->h'.get? b=some u):gx P w H h':=λa o e=>
 (x a o e).stay (λb u _ q=>k b u q) (λ_ q=>q) λ_ _ q=>q
def gx.laid (x:gx P w H h)(k:∀b u,h.get? b=some u->h'.get? b=some u)(hp:h.objs.size<=a)(new:aU P w (upd H a o) h' a o):gx P w (upd H a o) h':=λb u e=>by
 have hn:=x.fresh hp
 by_cases hb:b=a
 ·subst hb;rw[ah] at e;cases e;exact new
 ·rw[ao hb] at e
  exact (x b u e).stay (λc v _ q=>k c v q) (λc q=>by rw[ao (ar q hn)];exact q) λc xs q=>q.imp (λq=>by rw[ao (ar q hn)];exact q) λ⟨o,q⟩=>⟨o,by rw[ao (ar q hn)];exact q⟩
end
def Rd (H:Hp)(a:Addr)(u:HO):Prop:=H a=some u\/∃o,H a=some (.aJ o u)
def Rd.ok {P:Program}{w:World}{H:Hp}{h:Heap}{a:Addr}{u:HO}(r:Rd H a u)(x:gx P w H h):aU P w H h a u:=by
 rcases r with r | ⟨o,r⟩
 ·exact x a u r
 ·obtain⟨_,q⟩:=x a _ r
  exact q
def Ek:Option HO->Prop
 |some (.lst _)=>True
 |some (.dK _)=>True
 |some (.dT _ _)=>True
 |some (.set _ _)=>True
 |some (.ins _ _ _)=>True
 |some (.ext _)=>True
 |_=>False
section
variable {P:Program}{w:World}{H:Hp}{h h':Heap}{x e:Addr}{o':HO}
def gx.write (ok:gx P w H h)(mu:Ek (H x))(he:e=x\/H e=some (.own x))(k:∀b u,b≠e->h.get? b=some u->h'.get? b=some u)(heo:∃u,h'.get? e=some u)
  (new:aU P w (upd H x o') h' x o'):gx P w (upd H x o') h':=λb u q=>by
 have nown:∀c y,H c=some (.own y)->c≠x:=λc y r z=>by subst z;rw[r] at mu;exact mu
 have ntup:∀c xs,H c=some (.tup xs)->c≠x:=λc xs r z=>by subst z;rw[r] at mu;exact mu
 by_cases hb:b=x
 ·subst hb;rw[ah] at q;cases q;exact new
 ·rw[ao hb] at q
  by_cases hbe:b=e
  ·have q':H b=some (.own x):=by
    rcases he with z |z
    ·exact absurd (hbe.trans z) hb
    ·rw[hbe];exact z
   rw[q] at q';cases q'
   obtain⟨v,hv⟩:=heo
   exact⟨v,by rw[hbe];exact hv⟩
  ·refine (ok b u q).stay (λc v hc r=>k c v ?_ r) (λc r=>by rw[ao (nown c b r)];exact r) λc xs r=>r.imp (λr=>by rw[ao (ntup c xs r)];exact r) λ⟨o,r⟩=>⟨o,by rw[ao (λz=>by subst z;rw[r] at mu;exact mu)];exact r⟩
   rcases hc with rfl |hc
   ·exact hbe
   ·rintro rfl
    rcases he with z |z
    ·exact nown c b hc z
    ·rw[hc] at z;cases z;exact hb rfl
end
structure Un (fs ex:List Addr)(H H':Hp)(h h':Heap):Prop where
 keep:∀b o,h.get? b=some o->H b=none->b∉fs->b∉ex->h'.get? b=some o
 slot:∀b o,h.get? b=some o->H b=none->b∈fs->b∉ex->∃sl,h'.get? b=some {o with slots:=sl}
 free:∀b o,h.get? b=some o->H b=none->b∉ex->H' b=none
 there:∀b o,h.get? b=some o->b∉ex->∃o',h'.get? b=some o'
 tups:∀b xs,H b=some (.tup xs)->H' b=some (.tup xs)
 frzs:∀b o u,H b=some (.aJ o u)->H' b=some (.aJ o u)
 tbls:∀b ps,H b=some (.tbl ps)->∃more,H' b=some (.tbl (ps ++ more))
section
variable {fs fs' ex ex':List Addr}{H H1 H2:Hp}{h h1 h2 h':Heap}{a x e:Addr}{o:HO}
def Un.any (u:Un fs ex H H1 h h1){b:Addr}{ob:Obj}(q:h.get? b=some ob)(n:H b=none)(hx:b∉ex):∃sl,h1.get? b=some {ob with slots:=sl}:=by
 by_cases hb:b∈fs
 ·exact u.slot b ob q n hb hx
 ·exact⟨ob.slots,u.keep b ob q n hb hx⟩
def Un.kept (k:∀b u,h.get? b=some u->h'.get? b=some u):Un fs ex H H h h':=
 ⟨λb ob q _ _ _=>k b ob q,λb ob q _ _ _=>⟨ob.slots,k b ob q⟩,λ_ _ _ n _=>n,λb ob q _=>⟨ob,k b ob q⟩,λ_ _ q=>q,λ_ _ _ q=>q,λ_ ps q=>⟨#[],by rw[q];simp⟩⟩
def Un.refl:Un fs ex H H h h:=Un.kept λ_ _ q=>q
def Un.laid (k:∀b u,h.get? b=some u->h'.get? b=some u)(hp:h.objs.size<=a)(hn:H a=none):Un fs ex H (upd H a o) h h' where
 keep:=λb u q _ _ _=>k b u q
 slot:=λb u q _ _ _=>⟨u.slots,k b u q⟩
 free:=λb u q n _=>by rw[ao (Ih (HZ (HF q) hp))];exact n
 there:=λb u q _=>⟨u,k b u q⟩
 tups:=λb xs q=>by rw[ao (ar q hn)];exact q
 frzs:=λb u xs q=>by rw[ao (ar q hn)];exact q
 tbls:=λb ps q=>⟨#[],by rw[ao (ar q hn),q];simp⟩
def Un.write (mu:Ek (H x))(he:e=x\/H e=some (.own x))(k:∀b u,b≠e->h.get? b=some u->h'.get? b=some u)(heo:∃u,h'.get? e=some u):Un fs ex H (upd H x o) h h':=by
 have hx:∀b,H b=none->b≠x:=λb n z=>by subst z;rw[n] at mu;exact mu
 have hb:∀b,H b=none->b≠e:=λb n z=>by
  subst z
  rcases he with r |r
  ·exact hx b n r
  ·rw[n] at r;cases r
 have hm:∀b u,H b=some u->¬Ek (some u)->b≠x:=λb u q nm z=>by subst z;rw[q] at mu;exact nm mu
 refine⟨λb u q n _ _=>k b u (hb b n) q,λb u q n _ _=>⟨u.slots,k b u (hb b n) q⟩,λb u q n _=>by rw[ao (hx b n)];exact n,λb u q _=>?_,
  λb xs q=>by rw[ao (hm b _ q λz=>z)];exact q,λb u xs q=>by rw[ao (hm b _ q λz=>z)];exact q,λb ps q=>⟨#[],by rw[ao (hm b _ q λz=>z),q];simp⟩⟩
 by_cases hbe:b=e
 ·subst hbe;exact heo
 ·exact⟨u,k b u hbe q⟩
end
def Fb (h:Heap)(H:Hp):List Addr:=(List.range h.objs.size).filter λa=>(H a).isSome
def oE (h:Heap)(H:Hp):Heap:=PySem.W.hideAll h (Fb h H)
def vN (h:Heap)(H:Hp):(oE h H).objs.size=h.objs.size:=PySem.W.hideAll_size _ _
def wH {h:Heap}{H:Hp}{b:Addr}{o:Obj}(e:h.get? b=some o)(n:H b=none):(oE h H).get? b=some o:=
 PySem.W.hideAll_get _ e λhm=>by
  have q:(H b).isSome=true:=(Kj.mp hm).2
  rw[n] at q;simp at q
theorem zY {h:Heap}{H:Hp}{b:Addr}{o:Obj}(e:(oE h H).get? b=some o):h.get? b=some o/\H b=none:=by
 have e':h.get? b=some o:=PySem.W.of_hideAll (Fb h H) e
 refine⟨e',?_⟩
 cases q:H b with
 |none=>rfl
 |some x=>
  have hm:b∈Fb h H:=Kj.mpr ⟨HX.mpr (HF e'),by simp[q]⟩
  have z:(oE h H).get? b=none:=PySem.W.hideAll_none (Fb h H) hm
  rw[z] at e;cases e
def Ao (g h:Heap)(L:Addr):List (Addr×Obj):=(List.range h.objs.size).filterMap λa=>if a=L\/(g.get? a).isSome=true then none else (h.get? a).map λo=>(a,o)
def rest (g h:Heap)(L d:Addr):List (Addr×Obj):=(Ao g h L).filter λp=>decide (p.1≠d)
structure Mod (K:Frag)(mg:Str->Option Value)(base:Heap):Prop where
 kin:K.In base
 glob:base.Ns mainGlobals mg
 blt:∃mb,base.Ns builtinsNs mb/\∀x:Str,x≠"__name__"->mb x=bootBuiltins x
 nolimit:base.NoLimit
 sys:∃mm,base.Ns sysModules mm
structure Cx where
 prog:Program
 w:World
 K:Frag
 mg:Str->Option Value
 base:Heap
 A:Around
 N:List Str
 s₀:Shared
 H₀:Hp
 env:Env
 outer:List Env
 stack:List Env
 ex:List Addr
 fn:Str->Bool
 calm:Bool
 pn:List (Addr×Obj)
 xe:Value->Shared->Prop
def cx (l:List Env):List Addr:=l.filterMap (·.frame)
abbrev Cx.fs (X:Cx):List Addr:=cx X.outer
def u7 (sc:Scope)(x:Str):Prop:=sc.names.lookup x=some .local\/sc.names.lookup x=some .cell\/sc.names.lookup x=some .free
def Loc (sc:Scope)(x:Str):Prop:=sc.names.lookup x=some .local\/sc.names.lookup x=some .cell
def Look (env:Env)(h:Heap)(m:Str->Option Value)(x:Str)(u:Value):Prop:=
 (env.kindOf x=some .local/\m x=some u)\/((env.kindOf x=some .cell\/env.kindOf x=some .free)/\∃c,env.cells.lookup x=some c/\h.IsCell c (some u))
structure Cx.Ok (X:Cx):Prop where
 mod:Mod X.K X.mg X.base
 kind:X.env.scope.kind=.function
 glob:X.env.globals=mainGlobals
 blt:X.env.builtins=builtinsNs
 above:X.s₀.heap.objs.size<=X.env.locals
 inj:∀x y c,X.env.cells.lookup x=some c->X.env.cells.lookup y=some c->x=y
 has:∀x,(X.env.kindOf x=some .cell\/X.env.kindOf x=some .free)->∃c,X.env.cells.lookup x=some c
 cab:∀x c,X.fn x=true->X.env.cells.lookup x=some c->X.s₀.heap.objs.size<=c
 hd:X.calm=true->X.A.handled=none
 frames:X.A.frames=some X.stack
 stk:X.stack=X.outer\/(X.stack=X.env :: X.outer/\X.env.frame=some X.env.locals)
 exf:∀b∈X.ex,b≠X.env.locals/\∀x c,X.env.cells.lookup x=some c->c≠b
 bs:∀b o,X.base.get? b=some o->X.s₀.heap.get? b=some o/\X.H₀ b=none
 bsz:X.base.objs.size<=X.s₀.heap.objs.size
 noex:∀b o,X.base.get? b=some o->b∉X.ex
 exfs:∀b∈X.ex,b∉X.fs
 funs:X.s₀.heap.FunFrames X.base X.outer
 frf:∀b∈X.fs,X.H₀ b=none
structure Inv (X:Cx)(pins:List (Addr×Obj))(σ:List (Option V))(H:Hp)(s:Shared):Prop where
 ok:X.Ok
 os:s.os=X.s₀.os
 bare:AllBare s.gens
 base:Un X.fs X.ex X.H₀ H X.s₀.heap s.heap
 loc:∃m,s.heap.Ns X.env.locals m/\∀(i:Nat) (x:Str) (v:V),X.N[i]? =some x->σ[i]? =some (some v)->u7 X.env.scope x->∃u,RelV v u/\Look X.env s.heap m x u
 cell:∀x c,X.env.cells.lookup x=some c->∃v,s.heap.IsCell c v
 free:H X.env.locals=none
 freeC:∀x c,X.env.cells.lookup x=some c->H c=none
 pin:∀p∈X.pn ++ pins,s.heap.get? p.1=some p.2/\H p.1=none/\p.1≠X.env.locals/\p.1∉X.fs/\∀v,p.2.data≠.cell v
 hok:gx X.prog X.w H s.heap
 len:σ.length=X.N.length
section
variable {X:Cx}{pins:List (Addr×Obj)}{σ:List (Option V)}{H H':Hp}{s:Shared}{h':Heap}
def Cx.Ok.nofr (ok:X.Ok){b:Addr}{o:Obj}(e:X.base.get? b=some o):b∉X.fs:=λhb=>by
 have:=(ok.funs.mem hb).1
 rw[e] at this;cases this
def Inv.bs (I:Inv X pins σ H s):∀b o,X.base.get? b=some o->s.heap.get? b=some o/\H b=none:=λb o e=>
 ⟨I.base.keep b o (I.ok.bs b o e).1 (I.ok.bs b o e).2 (I.ok.nofr e) (I.ok.noex b o e),I.base.free b o (I.ok.bs b o e).1 (I.ok.bs b o e).2 (I.ok.noex b o e)⟩
def Inv.bk (I:Inv X pins σ H s):∀b o,X.base.get? b=some o->s.heap.get? b=some o:=λb o e=>(I.bs b o e).1
def Inv.mod (I:Inv X pins σ H s):Mod X.K X.mg X.base:=I.ok.mod
def Inv.kIn (I:Inv X pins σ H s):X.K.In s.heap:=I.ok.mod.kin.keeps I.bk
def Inv.lt (I:Inv X pins σ H s):X.env.locals < s.heap.objs.size:=let ⟨_,hn,_⟩:=I.loc;hn.lt
def Inv.sz (I:Inv X pins σ H s):X.s₀.heap.objs.size<=s.heap.objs.size:=IF I.ok.above (J8 I.lt)
def Inv.nofs (I:Inv X pins σ H s){a:Addr}(h:s.heap.objs.size<=a):a∉X.fs:=λhb=>by
 obtain⟨_,o,ho,_⟩:=I.ok.funs.mem hb
 exact absurd (HZ (HF ho) (IF I.sz h)) (Ic _)
def Inv.cne (I:Inv X pins σ H s):∀x c,X.env.cells.lookup x=some c->c≠X.env.locals:=λx c e z=>by
 obtain⟨v,o,ho,hd⟩:=I.cell x c e
 obtain⟨m,⟨o',es,ep,ho',hd',_⟩,_⟩:=I.loc
 rw[z,ho'] at ho;cases ho;rw[hd'] at hd;cases hd
def Inv.funs (I:Inv X pins σ H s):s.heap.FunFrames X.base X.outer:=by
 have all:∀(l:List Env),(∀b∈cx l,b∈X.fs)->X.s₀.heap.FunFrames X.base l->s.heap.FunFrames X.base l:=by
  intro l
  induction l with
  |nil=>intro _ _;trivial
  |cons env r ih=>
   intro hs hl
   obtain⟨hk,⟨L,o,hf,hn,ho,hd⟩,hr⟩:=hl
   have hL:L∈X.fs:=hs L (by unfold cx;rw[Ki,hf];exact HC)
   obtain⟨sl,e⟩:=I.base.slot L o ho (I.ok.frf L hL) hL λz=>I.ok.exfs L z hL
   exact⟨hk,⟨L,_,hf,hn,e,hd⟩,ih (λb hb=>hs b (by unfold cx;rw[Ki,hf];exact Hz _ hb)) hr⟩
 exact all X.outer (λ_ hb=>hb) I.ok.funs
def Inv.stack (I:Inv X pins σ H s):s.heap.FunFrames X.base X.stack:=by
 rcases I.ok.stk with e | ⟨e,hf⟩
 ·rw[e];exact I.funs
 ·rw[e]
  obtain⟨m,hn,_⟩:=I.loc
  refine .cons (by rw[I.ok.kind];decide) hf hn ?_ I.funs
  exact Heap.get?_none_of_le (IF I.ok.bsz I.ok.above)
def Inv.stkSub (I:Inv X pins σ H s):∀b∈cx X.stack,b∈X.env.locals :: X.fs:=λb hb=>by
 rcases I.ok.stk with e | ⟨e,hf⟩
 ·rw[e] at hb;exact Hz _ hb
 ·rw[e] at hb
  unfold cx at hb
  rw[Ki,hf] at hb
  exact hb
def Inv.stkFree (I:Inv X pins σ H s):∀b∈cx X.stack,H b=none:=λb hb=>by
 rcases HA.mp (I.stkSub b hb) with e |hb
 ·rw[e];exact I.free
 ·obtain⟨_,o,ho,_⟩:=I.ok.funs.mem hb
  exact I.base.free b o ho (I.ok.frf b hb) λz=>I.ok.exfs b z hb
def Inv.step {g':Array GenState}{t':Nat}{d':Drawn}{ch:List Addr}(I:Inv X pins σ H s)
  (hch:∀b∈ch,(b∈X.ex\/X.s₀.heap.objs.size<=b)/\b≠X.env.locals/\(∀x c,X.env.cells.lookup x=some c->c≠b)/\∀p∈X.pn ++ pins,p.1≠b)
  (keep:∀b o,b≠X.env.locals->b∉X.fs->b∉ch->s.heap.get? b=some o->H b=none->h'.get? b=some o)
  (slot:∀b o,b≠X.env.locals->b∈X.fs->b∉ch->s.heap.get? b=some o->H b=none->∃sl,h'.get? b=some {o with slots:=sl}) (free:∀b o,b∉ch->s.heap.get? b=some o->H b=none->H' b=none)
  (there:∀b o,b∉ch->s.heap.get? b=some o->∃o',h'.get? b=some o')
  (tups:∀b xs,H b=some (.tup xs)->H' b=some (.tup xs)) (frzs:∀b o u,H b=some (.aJ o u)->H' b=some (.aJ o u)) (tbls:∀b ps,H b=some (.tbl ps)->∃more,H' b=some (.tbl (ps ++ more)))
  (ns:∀m,s.heap.Ns X.env.locals m->h'.Ns X.env.locals m) (hok:gx X.prog X.w H' h') (hg:AllBare g') :
  Inv X pins σ H' {s with heap:=h',gens:=g',drawn:=d',toks:=t'}:=by
 have neL:∀b o,X.s₀.heap.get? b=some o->b≠X.env.locals:=λb o e=>Ih (HZ (HF e) I.ok.above)
 have neC:∀b o,X.s₀.heap.get? b=some o->b∉X.ex->b∉ch:=λb o e hx hb=>by
  rcases (hch b hb).1 with z |z
  ·exact hx z
  ·exact absurd (HZ (HF e) z) (Ic _)
 have cellK:∀x c,X.env.cells.lookup x=some c->∀v,s.heap.IsCell c v->h'.IsCell c v:=λx c e v ⟨o,ho,hd⟩=>by
  have nch:c∉ch:=λz=>(hch c z).2.2.1 x c e rfl
  by_cases hc:c∈X.fs
  ·obtain⟨sl,q⟩:=slot c o (I.cne x c e) hc nch ho (I.freeC x c e)
   exact⟨_,q,hd⟩
  ·exact⟨o,keep c o (I.cne x c e) hc nch ho (I.freeC x c e),hd⟩
 refine⟨I.ok,I.os,hg,⟨λb o e n hb hx=>?_,λb o e n hb hx=>?_,λb o e n hx=>?_,λb o e hx=>?_,λb xs e=>tups b xs (I.base.tups b xs e),λb o xs e=>frzs b o xs (I.base.frzs b o xs e),λb ps e=>?_⟩,?_,λx c e=>?_,?_,λx c e=>?_,λp hp=>?_,hok,I.len⟩
 ·exact keep b o (neL b o e) hb (neC b o e hx) (I.base.keep b o e n hb hx) (I.base.free b o e n hx)
 ·obtain⟨sl,e1⟩:=I.base.slot b o e n hb hx
  obtain⟨sl',e2⟩:=slot b _ (neL b o e) hb (neC b o e hx) e1 (I.base.free b o e n hx)
  exact⟨sl',e2⟩
 ·obtain⟨o',e1⟩:=I.base.there b o e hx
  exact free b o' (neC b o e hx) e1 (I.base.free b o e n hx)
 ·obtain⟨o',e1⟩:=I.base.there b o e hx
  exact there b o' (neC b o e hx) e1
 ·obtain⟨m1,e1⟩:=I.base.tbls b ps e
  obtain⟨m2,e2⟩:=tbls b _ e1
  exact⟨m1 ++ m2,by rw[e2,Array.append_assoc]⟩
 ·obtain⟨m,hn,hl⟩:=I.loc
  refine⟨m,ns m hn,λi x v e1 e2 e3=>?_⟩
  obtain⟨u,r,l⟩:=hl i x v e1 e2 e3
  refine⟨u,r,?_⟩
  rcases l with l | ⟨k,c,e,z⟩
  ·exact .inl l
  ·exact .inr ⟨k,c,e,cellK x c e _ z⟩
 ·obtain⟨v,z⟩:=I.cell x c e
  exact⟨v,cellK x c e v z⟩
 ·obtain⟨m,⟨o,_,_,ho,_⟩,_⟩:=I.loc
  exact free _ o (λz=>(hch _ z).2.1 rfl) ho I.free
 ·obtain⟨v,o,ho,hd⟩:=I.cell x c e
  exact free c o (λz=>(hch c z).2.2.1 x c e rfl) ho (I.freeC x c e)
 ·obtain⟨e,n,ne,nf,d⟩:=I.pin p hp
  have nch:p.1∉ch:=λz=>(hch p.1 z).2.2.2 p hp rfl
  exact⟨keep p.1 p.2 ne nf nch e n,free p.1 p.2 nch e n,ne,nf,d⟩
def Inv.un {t':Nat}(I:Inv X pins σ H s)(u:Un X.fs [] H H' s.heap h')(hok:gx X.prog X.w H' h'):Inv X pins σ H' {s with heap:=h',toks:=t'}:=by
 obtain⟨m,⟨o,es,ep,ho,r⟩,_⟩:=id I.loc
 obtain⟨sl,hL⟩:=u.any ho I.free (by simp)
 exact I.step (g':=s.gens) (d':=s.drawn) (ch:=[]) (λ_ z=>nomatch z) (λb o _ hb _ e n=>u.keep b o e n hb (by simp)) (λb o _ hb _ e n=>u.slot b o e n hb (by simp)) (λb o _ e n=>u.free b o e n (by simp)) (λb o _ e=>u.there b o e (by simp)) u.tups u.frzs u.tbls (λm' hm=>by
  obtain⟨o',es',ep',ho',r'⟩:=hm
  rw[ho] at ho';cases ho'
  exact⟨_,es',ep',hL,r'⟩) hok I.bare
def Inv.call {g':Array GenState}{t':Nat}{d':Drawn}{ch:List Addr}(I:Inv X pins σ H s)(u:Un (cx X.stack) ch H H' s.heap h')(hok:gx X.prog X.w H' h')(hg:AllBare g')
  (hch:∀b∈ch,(b∈X.ex\/X.s₀.heap.objs.size<=b)/\b≠X.env.locals/\(∀x c,X.env.cells.lookup x=some c->c≠b)/\∀p∈X.pn ++ pins,p.1≠b) :
  Inv X pins σ H' {s with heap:=h',gens:=g',drawn:=d',toks:=t'}:=by
 obtain⟨m,⟨o,es,ep,ho,r⟩,_⟩:=id I.loc
 obtain⟨sl,hL⟩:=u.any ho I.free λz=>(hch _ z).2.1 rfl
 exact I.step (ch:=ch) hch (λb o hL hb hc e n=>u.keep b o e n (λz=>(HA.mp (I.stkSub b z)).elim hL hb) hc) (λb o _ _ hc e n=>u.any e n hc) (λb o hc e n=>u.free b o e n hc) (λb o hc e=>u.there b o e hc) u.tups u.frzs u.tbls (λm' hm=>by
  obtain⟨o',es',ep',ho',r'⟩:=hm
  rw[ho] at ho';cases ho'
  exact⟨_,es',ep',hL,r'⟩) hok hg
def Inv.turned {t':Nat}{it:Addr}(I:Inv X pins σ H s)(k:∀b o,b≠it->s.heap.get? b=some o->h'.get? b=some o)(hn:H it=none)(hL:it≠X.env.locals)
  (h1:it∈X.ex\/X.s₀.heap.objs.size<=it) (h2:∀x c,X.env.cells.lookup x=some c->c≠it) (h3:∀p∈X.pn ++ pins,p.1≠it):Inv X pins σ H {s with heap:=h',toks:=t'}:=by
 have nit:∀b u,H b=some u->b≠it:=λb u e z=>by rw[z,hn] at e;cases e
 refine I.step (g':=s.gens) (d':=s.drawn) (ch:=[it]) (λb hb=>?_) (λb o _ _ hc e _=>k b o (λz=>hc (by simp[z])) e) (λb o _ _ hc e _=>⟨o.slots,k b o (λz=>hc (by simp[z])) e⟩) (λ_ _ _ _ n=>n)
  (λb o hc e=>⟨o,k b o (λz=>hc (by simp[z])) e⟩) (λ_ _ e=>e) (λ_ _ _ e=>e) (λb ps e=>⟨#[],by rw[e];simp⟩) (λm hm=>?_) (λb u e=>?_) I.bare
 ·have e:b=it:=by simpa using hb
  subst e
  exact⟨h1,hL,h2,h3⟩
 ·obtain⟨o,es,ep,ho,r⟩:=hm
  exact⟨o,es,ep,k _ o (Ne.symm hL) ho,r⟩
 ·refine (I.hok b u e).stay (λc v hc q=>k c v ?_ q) (λ_ q=>q) λ_ _ q=>q
  rcases hc with z |z
  ·rw[z];exact nit b u e
  ·exact nit c _ z
def Inv.tok (I:Inv X pins σ H s)(t:Nat):Inv X pins σ H {s with toks:=t}:=I.un (h':=s.heap) (t':=t) Un.refl I.hok
def Inv.kept {t':Nat}(I:Inv X pins σ H s)(k:∀b u,s.heap.get? b=some u->h'.get? b=some u):Inv X pins σ H {s with heap:=h',toks:=t'}:=I.un (Un.kept k) (I.hok.kept k)
def Inv.laid {a:Addr}{o:HO}{t':Nat}(I:Inv X pins σ H s)(k:∀b u,s.heap.get? b=some u->h'.get? b=some u)(hp:s.heap.objs.size<=a)(new:aU X.prog X.w (upd H a o) h' a o) :
  Inv X pins σ (upd H a o) {s with heap:=h',toks:=t'}:=I.un (Un.laid k hp (I.hok.fresh hp)) (I.hok.laid k hp new)
def Inv.write {x e:Addr}{o:HO}{t':Nat}(I:Inv X pins σ H s)(mu:Ek (H x))(he:e=x\/H e=some (.own x))(k:∀b u,b≠e->s.heap.get? b=some u->h'.get? b=some u)(heo:∃u,h'.get? e=some u)
  (new:aU X.prog X.w (upd H x o) h' x o):Inv X pins σ (upd H x o) {s with heap:=h',toks:=t'}:=I.un (Un.write mu he k heo) (I.hok.write mu he k heo new)
def Inv.pins_of {pins':List (Addr×Obj)}(I:Inv X pins σ H s)(h:∀p∈pins',s.heap.get? p.1=some p.2/\H p.1=none/\p.1≠X.env.locals/\p.1∉X.fs/\∀v,p.2.data≠.cell v):Inv X pins' σ H s:=
 ⟨I.ok,I.os,I.bare,I.base,I.loc,I.cell,I.free,I.freeC,λp hp=>(HP.mp hp).elim (λz=>I.pin p (Jr _ z)) (h p),I.hok,I.len⟩
def kO {N:List Str}(hN:N.Nodup){i j:Nat}{x:Str}(a:N[i]? =some x)(b:N[j]? =some x):i=j:=by
 obtain⟨h1,e1⟩:=HE.mp a
 obtain⟨h2,e2⟩:=HE.mp b
 exact (List.getElem_inj hN).mp (e1.trans e2.symm)
def wo {M:Model}{A:Around}{E:Value->Shared->Prop}{i:Nat}{x:Str}{v:V}{u:Value}{Q:Unit->Shared->Prop}(I:Inv X pins σ H s)(hN:X.N.Nodup)(hi:X.N[i]? =some x)(hx:Loc X.env.scope x)(r:RelV v u)
  (h:∀s',Inv X pins (σ.set i (some v)) H s'->(∃a,Heap.SameBut a s.heap s'.heap/\(a=X.env.locals\/X.env.cells.lookup x=some a))->Q () s') (hf:X.fn x=true\/X.env.scope.names.lookup x=some .local:=by first |exact .inl rfl |exact .inr rfl |assumption):wpAny M A (storeName X.env x u) Q E s:=by
 obtain⟨m,hn,hl⟩:=id I.loc
 have hcls:(X.env.scope.kind == .class || (X.env.scope.kind == .module && X.env.locals != X.env.globals))=false:=by rw[I.ok.kind];rfl
 have hiσ:i < σ.length:=by rw[I.len];exact (HE.mp hi).1
 have cne:=I.cne
 have tracked:∀{a:Addr} {h':Heap},(∃o,s.heap.get? a=some o/\H a=none)->Heap.SameBut a s.heap h'->gx X.prog X.w H h':=λ{a h'} ha hs b ob e=>by
  obtain⟨_,_,hfree⟩:=ha
  refine (I.hok b ob e).stay (λc w' hc q=>(hs.2 c ?_).trans q) (λ_ q=>q) λ_ _ q=>q
  rintro rfl
  rcases hc with rfl |hc
  ·rw[hfree] at e;cases e
  ·rw[hfree] at hc;cases hc
 rcases hx with hk |hk
 ·refine wpAny_storeName_local hk hn (λh' hn' hs=>?_) hcls
  obtain⟨oL,_,_,hoL,_⟩:=id hn
  refine h _ ⟨I.ok,I.os,I.bare,⟨λb o e n hb hx=>?_,λb o e n hb hx=>?_,I.base.free,λb o e hx=>?_,I.base.tups,I.base.frzs,I.base.tbls⟩,⟨_,hn',λj y v' e1 e2 e3=>?_⟩,λy c e=>?_,I.free,I.freeC,λp hp=>?_,tracked ⟨oL,hoL,I.free⟩ hs,by simpa using I.len⟩ ⟨_,hs,.inl rfl⟩
  ·exact (hs.2 b (Ih (HZ (HF e) I.ok.above))).trans (I.base.keep b o e n hb hx)
  ·obtain⟨sl,e1⟩:=I.base.slot b o e n hb hx
   exact⟨sl,(hs.2 b (Ih (HZ (HF e) I.ok.above))).trans e1⟩
  ·obtain⟨o',e1⟩:=I.base.there b o e hx
   exact⟨o',(hs.2 b (Ih (HZ (HF e) I.ok.above))).trans e1⟩
  ·by_cases hj:j=i
   ·subst hj
    rw[hi] at e1;cases e1
    rw[HI hiσ] at e2
    cases e2
    exact⟨u,r,.inl ⟨hk,by simp⟩⟩
   ·rw[HL (Ne.symm hj)] at e2
    obtain⟨u',r',q⟩:=hl j y v' e1 e2 e3
    refine⟨u',r',?_⟩
    rcases q with⟨k,e⟩ | ⟨k,c,e,z⟩
    ·refine .inl ⟨k,?_⟩
     have:y≠x:=λe=>hj (kO hN e1 (e▸hi))
     simp[this,e]
    ·exact .inr ⟨k,c,e,z.sameBut hs (cne y c e)⟩
  ·obtain⟨w',z⟩:=I.cell y c e
   exact⟨w',z.sameBut hs (cne y c e)⟩
  ·obtain⟨e,n,ne,nf,d⟩:=I.pin p hp
   exact⟨(hs.2 p.1 ne).trans e,n,ne,nf,d⟩
 ·have hfn:X.fn x=true:=by
   rcases hf with z |z
   ·exact z
   ·rw[z] at hk;cases hk
  obtain⟨c,hc⟩:=I.ok.has x (.inl hk)
  obtain⟨w',z⟩:=I.cell x c hc
  refine wpAny_storeName_cell I.ok.kind hk hc z (λh' hc' hs=>?_)
  obtain⟨oc,hoc,hocd⟩:=id z
  refine h {s with heap:=h'} ⟨I.ok,I.os,I.bare,⟨λb o e n hb hx=>?_,λb o e n hb hx=>?_,I.base.free,λb o e hx=>?_,I.base.tups,I.base.frzs,I.base.tbls⟩,⟨m,hn.sameBut hs (Ne.symm (cne x c hc)),λj y v' e1 e2 e3=>?_⟩,λy c' e=>?_,I.free,I.freeC,λp hp=>?_,tracked ⟨oc,hoc,I.freeC x c hc⟩ hs,by simpa using I.len⟩ ⟨c,hs,.inr hc⟩
  ·exact (hs.2 b (Ih (HZ (HF e) (I.ok.cab x c hfn hc)))).trans (I.base.keep b o e n hb hx)
  ·obtain⟨sl,e1⟩:=I.base.slot b o e n hb hx
   exact⟨sl,(hs.2 b (Ih (HZ (HF e) (I.ok.cab x c hfn hc)))).trans e1⟩
  ·obtain⟨o',e1⟩:=I.base.there b o e hx
   exact⟨o',(hs.2 b (Ih (HZ (HF e) (I.ok.cab x c hfn hc)))).trans e1⟩
  ·by_cases hj:j=i
   ·subst hj
    rw[hi] at e1;cases e1
    rw[HI hiσ] at e2
    cases e2
    exact⟨u,r,.inr ⟨.inl hk,c,hc,hc'⟩⟩
   ·rw[HL (Ne.symm hj)] at e2
    obtain⟨u',r',q⟩:=hl j y v' e1 e2 e3
    refine⟨u',r',?_⟩
    rcases q with q | ⟨k,c',e,z'⟩
    ·exact .inl q
    ·refine .inr ⟨k,c',e,z'.sameBut hs ?_⟩
     rintro rfl
     exact hj (kO hN e1 (I.ok.inj _ _ _ e hc▸hi))
  ·by_cases hcc:c'=c
   ·subst hcc;exact⟨_,hc'⟩
   ·obtain⟨w2,z2⟩:=I.cell y c' e
    exact⟨w2,z2.sameBut hs hcc⟩
  ·obtain⟨e,n,ne,nf,d⟩:=I.pin p hp
   refine⟨(hs.2 p.1 ?_).trans e,n,ne,nf,d⟩
   intro q
   rw[q,hoc] at e
   have q':oc=p.2:=Option.some.inj e
   exact d w' (by rw[<-q'];exact hocd)
def fo {M:Model}{A:Around}{E:Value->Shared->Prop}{i:Nat}{x:Str}{v:V}{u:Value}{Q:Unit->Shared->Prop}(I:Inv X pins σ H s)(hN:X.N.Nodup)(hi:X.N[i]? =some x)(hx:Loc X.env.scope x)(r:RelV v u)
  (h:∀s',Inv X pins (σ.set i (some v)) H s'->Q () s') (hf:X.fn x=true\/X.env.scope.names.lookup x=some .local:=by first |exact .inl rfl |exact .inr rfl |assumption):wpAny M A (storeName X.env x u) Q E s:=
 wo I hN hi hx r (λs' I' _=>h s' I') hf
def Inv.call' {s':Shared}{ch:List Addr}(I:Inv X pins σ H s)(ho:s'.os=s.os)(u:Un (cx X.stack) ch H H' s.heap s'.heap)(hok:gx X.prog X.w H' s'.heap)(hg:AllBare s'.gens)
  (hch:∀b∈ch,(b∈X.ex\/X.s₀.heap.objs.size<=b)/\b≠X.env.locals/\(∀x c,X.env.cells.lookup x=some c->c≠b)/\∀p∈X.pn ++ pins,p.1≠b):Inv X pins σ H' s':=by
 obtain⟨h',g',d',t',o'⟩:=s'
 have e:o'=s.os:=ho
 subst e
 exact I.call (g':=g') (t':=t') (d':=d') u hok hg hch
end
abbrev XK:=Value->Option Addr->Hp->Prop
abbrev St:=List (Option V)
abbrev VK:=V->Hp->Prop
abbrev TE:=St->Hp->VK->Prop
abbrev TT:=St->Hp->(Bool->Hp->Prop)->Prop
abbrev TA:=St->Hp->(List V->Hp->Prop)->Prop
structure Ends where
 nx:St->Hp->Prop
 rt:VK
 bk:St->Hp->Prop:=λ_ _=>False
 ct:St->Hp->Prop:=λ_ _=>False
abbrev TS:=Ends->St->Hp->Prop
def EP (X:Cx)(pins:List (Addr×Obj))(σ:St)(Q:VK)(u:Value)(s':Shared):Prop:=∃v H',Inv X pins σ H' s'/\RelV v u/\Q v H'
def TP (X:Cx)(pins:List (Addr×Obj))(σ:St)(Q:Bool->Hp->Prop)(b:Bool)(s':Shared):Prop:=∃H',Inv X pins σ H' s'/\Q b H'
def AP (X:Cx)(pins:List (Addr×Obj))(σ:St)(Q:List V->Hp->Prop)(us:List Value)(s':Shared):Prop:=∃vs H',Inv X pins σ H' s'/\Vals vs us/\Q vs H'
def SP (X:Cx)(pins:List (Addr×Obj))(D:Ends)(f:Flow)(s':Shared):Prop:=
 match f with
 | .next=>∃σ' H',Inv X pins σ' H' s'/\D.nx σ' H'
 | .brk=>∃σ' H',Inv X pins σ' H' s'/\D.bk σ' H'
 | .cont=>∃σ' H',Inv X pins σ' H' s'/\D.ct σ' H'
 | .ret u=>∃v σ' H',Inv X pins σ' H' s'/\RelV v u/\D.rt v H'
def PE (X:Cx)(e:Expr)(t:TE):Prop:=
 ∀(pins:List (Addr×Obj)) (s:Shared) (σ:St) (H:Hp) (Q:VK),Inv X pins σ H s->t σ H Q->wpAny (model X.prog X.w) X.A (eval e X.env) (EP X pins σ Q) X.xe s
def PT (X:Cx)(e:Expr)(t:TT):Prop:=
 ∀(pins:List (Addr×Obj)) (s:Shared) (σ:St) (H:Hp) (Q:Bool->Hp->Prop),Inv X pins σ H s->t σ H Q->wpAny (model X.prog X.w) X.A (isTrue e X.env (eval e X.env)) (TP X pins σ Q) X.xe s
def PW (X:Cx)(e:Expr)(t:TT):Prop:=
 ∀(whole:Sem Value) (pins:List (Addr×Obj)) (s:Shared) (σ:St) (H:Hp) (Q:Bool->Hp->Prop),Inv X pins σ H s->t σ H Q->wpAny (model X.prog X.w) X.A (isTrue e X.env whole) (TP X pins σ Q) X.xe s
def PW.pt {X:Cx}{e:Expr}{t:TT}(h:PW X e t):PT X e t:=h _
def PA (X:Cx)(es:List Expr)(t:TA):Prop:=
 ∀(pos:Pos) (pins:List (Addr×Obj)) (s:Shared) (σ:St) (H:Hp) (Q:List V->Hp->Prop),Inv X pins σ H s->t σ H Q->wpAny (model X.prog X.w) X.A (spliced (backTo pos (starEach es X.env))) (AP X pins σ Q) X.xe s
def PS (X:Cx)(st:Stmt)(t:TS):Prop:=
 ∀(pins:List (Addr×Obj)) (s:Shared) (σ:St) (H:Hp) (D:Ends),Inv X pins σ H s->t D σ H->wpAny (model X.prog X.w) X.A (exec st X.env) (SP X pins D) X.xe s
def jU (X:Cx)(st:List Stmt)(t:TS):Prop:=
 ∀(pins:List (Addr×Obj)) (s:Shared) (σ:St) (H:Hp) (D:Ends),Inv X pins σ H s->t D σ H->wpAny (model X.prog X.w) X.A (execs st X.env) (SP X pins D) X.xe s
def bB {α:Type}{t:Sem α}{Q Q':α->Shared->Prop}{M:Model}{A:Around}{E:Value->Shared->Prop}{s:Shared}(h:wpAny M A t Q E s)(hQ:∀a s,Q a s->Q' a s):wpAny M A t Q' E s:=IT h hQ λ_ _ x=>x
section
variable {X:Cx}
def bin {a b:Expr}{ta tb:TE}(ha:PE X a ta)(hb:PE X b tb){pins:List (Addr×Obj)}{s:Shared}{σ:St}{H:Hp}{R:V->V->Hp->Prop}(I:Inv X pins σ H s)(h:ta σ H λx H1=>tb σ H1 λy H2=>R x y H2)
  {α:Type} {Q:α->Shared->Prop} {f:Value->Value->Sem α}
  (hf:∀v u s2 x y H2,Inv X pins σ H2 s2->RelV x v->RelV y u->R x y H2->wpAny (model X.prog X.w) X.A (f v u) Q X.xe s2) :
  wpAny (model X.prog X.w) X.A (eval a X.env) (λv s₁=>wpAny (model X.prog X.w) X.A (eval b X.env) (λu s₂=>wpAny (model X.prog X.w) X.A (f v u) Q X.xe s₂) X.xe s₁) X.xe s:=by
 refine bB (ha pins s σ H _ I h) λv s1 ⟨x,H1,I1,r1,q1⟩=>?_
 refine bB (hb pins s1 σ H1 _ I1 q1) λu s2 ⟨y,H2,I2,r2,q2⟩=>?_
 exact hf v u s2 x y H2 I2 r1 r2 q2
def zW (i:Nat):TE:=λσ H Q=>∃v,σ[i]? =some (some v)/\Q v H
def tC (v:V):TE:=λ_ H Q=>Q v H
def fB {i:Nat}{x:Str}{pos:Pos}(hN:X.N[i]? =some x)(hv:u7 X.env.scope x)(hd:(x == ("__debug__":Str))=false:=by decide)(hcd:(x == ("__classdict__":Str))=false:=by decide):PE X (.Name x pos) (zW i):=by
 intro pins s σ H Q I h
 obtain⟨v,e,h⟩:=h
 obtain⟨m,hn,hl⟩:=I.loc
 obtain⟨u,r,l⟩:=hl i x v hN e hv
 have fin:EP X pins σ Q u s:=⟨v,H,I,r,h⟩
 rcases l with⟨hk,hm⟩ | ⟨hk,c,hc,hcell⟩
 ·exact wpAny_Name (wpAny_loadName_local I.ok.kind hk hn hm fin) hd
 ·rcases hk with hk |hk
  ·exact wpAny_Name (wpAny_loadName_cell I.ok.kind hk hc hcell fin) hd
  ·exact wpAny_Name (wpAny_loadName_free I.ok.kind hk hc hcell fin hcd) hd
def kR {i j pos}:PE X (.Constant (.int i) j pos) (tC (.int i)):=λ_ _ _ H _ I h=>wpAny_Constant_int ⟨.int i,H,I.tok _,⟨_,rfl⟩,h⟩
def mS {b j pos}:PE X (.Constant (.bool b) j pos) (tC (.bl b)):=λ_ _ _ H _ I h=>Constant_bool ⟨.bl b,H,I,rfl,h⟩
def BO {j pos}:PE X (.Constant .none j pos) (tC .non):=λ_ _ _ H _ I h=>Constant_none ⟨.non,H,I,rfl,h⟩
def kh {x j pos}:PE X (.Constant (.str x) j pos) (tC (.str x)):=λ_ _ _ H _ I h=>Calls.Constant_str ⟨.str x,H,I.tok _,⟨_,rfl⟩,h⟩
def Gl (X:Cx)(x:Str):Prop:=X.env.kindOf x=some .globalImplicit
def jg {E:Value->Shared->Prop}{pins:List (Addr×Obj)}{s:Shared}{σ:St}{H:Hp}{x:Str}{u:Value}{pos:Pos}{Q:Value->Shared->Prop}(I:Inv X pins σ H s)(hg:Gl X x)(hm:X.mg x=some u)(h:Q u s)
  (hd:(x == ("__debug__":Str))=false:=by decide):wpAny (model X.prog X.w) X.A (eval (.Name x pos) X.env) Q E s:=
 Calls.Name_function_global I.ok.kind hg (Calls.loadGlobal_global (by rw[I.ok.glob];exact I.mod.glob.keeps I.bk) hm h) hd
def nI {E:Value->Shared->Prop}{pins:List (Addr×Obj)}{s:Shared}{σ:St}{H:Hp}{x:Str}{u:Value}{pos:Pos}{Q:Value->Shared->Prop}(I:Inv X pins σ H s)(hg:Gl X x)(hm:X.mg x=none)(hv:bootBuiltins x=some u)(h:Q u s)
  (hn:x≠"__name__":=by decide) (hd:(x == ("__debug__":Str))=false:=by decide):wpAny (model X.prog X.w) X.A (eval (.Name x pos) X.env) Q E s:=by
 obtain⟨mb,h1,h2⟩:=I.mod.blt
 exact Calls.Name_function_global I.ok.kind hg (Calls.loadGlobal_builtin (by rw[I.ok.glob];exact I.mod.glob.keeps I.bk) hm (by rw[I.ok.blt];exact h1.keeps I.bk) ((h2 x hn).trans hv) h) hd
def bJ {x:Str}{v:V}{u:Value}{pos:Pos}(hg:Gl X x)(hm:X.mg x=some u)(r:RelV v u)(hd:(x == ("__debug__":Str))=false:=by decide):PE X (.Name x pos) (tC v):=
 λ_ _ _ H _ I h=>jg I hg hm ⟨v,H,I,r,h⟩ hd
def uN {x:Str}{v:V}{u:Value}{pos:Pos}(hg:Gl X x)(hm:X.mg x=none)(hv:bootBuiltins x=some u)(r:RelV v u)(hn:x≠"__name__":=by decide)(hd:(x == ("__debug__":Str))=false:=by decide):PE X (.Name x pos) (tC v):=
 λ_ _ _ H _ I h=>nI I hg hm hv ⟨v,H,I,r,h⟩ hn hd
variable {a b:Expr}{ta tb:TE}{pos:Pos}
def PC (X:Cx)(op:CmpOp)(a b:Expr)(t:TE):Prop:=
 ∀(pins:List (Addr×Obj)) (s:Shared) (σ:St) (H:Hp) (Q:VK),Inv X pins σ H s->t σ H Q->
  wpAny (model X.prog X.w) X.A (eval a X.env) (λv s₁=>wpAny (model X.prog X.w) X.A (eval b X.env) (λu s₂=>wpAny (model X.prog X.w) X.A (compareOp op v u) (EP X pins σ Q) X.xe s₂) X.xe s₁) X.xe s
def tB (t:TE):TT:=λσ H Q=>t σ H λx H1=>∃c,x=.bl c/\Q c H1
def FI {op:CmpOp}{t:TE}(h:PC X op a b t)(h1:behindInMarks op b=false:=by first |exact nobehind _ (by decide) (by decide) |rfl):PT X (.Compare a [op] [b] pos) (tB t):=by
 intro pins s σ H Q I hw
 refine wpAny_isTrue_Compare1 (bB (h pins s σ H _ I hw) λv s1 h1=>bB h1 λu s2 h2=>bB h2 λc s3 ⟨x,H1,I1,r1,q1⟩=>?_) h1
 obtain⟨d,rfl,q⟩:=q1
 cases r1
 exact Ji ⟨H1,I1,q⟩
def lJ {e:Expr}{t:TE}(h:PE X e t)(he:∀whole,isTrue e X.env whole=(do let v <-whole;standAt e.pos;holding [v] (truthy v)):=by intro _;rfl):PT X e (tB t):=by
 intro pins s σ H Q I hw
 refine isTrue_plain (bB (h pins s σ H _ I hw) λv s1 ⟨x,H1,I1,r1,q1⟩=>?_) (he _)
 obtain⟨d,rfl,q⟩:=q1
 cases r1
 exact Ji ⟨H1,I1,q⟩
variable {tA tB':TT}{rest:List Expr}
def Gg (t u:TT):TT:=λσ H Q=>t σ H λc H1=>if c=true then u σ H1 Q else Q false H1
def He (t u:TT):TT:=λσ H Q=>t σ H λc H1=>if c=true then Q true H1 else u σ H1 Q
def Fy (t:TT):TT:=λσ H Q=>t σ H λc H1=>Q (!c) H1
theorem zS (ha:PT X a tA):PW X (.BoolOp .And [a] pos) tA:=by
 intro wh pins s σ H Q I h
 refine isTrue_and (bB (ha pins s σ H Q I h) λc s1 e=>?_)
 cases c with
 |true=>exact isTrue_and_nil e
 |false=>exact e
theorem xc (ha:PT X a tA):PW X (.BoolOp .Or [a] pos) tA:=by
 intro wh pins s σ H Q I h
 refine isTrue_or (bB (ha pins s σ H Q I h) λc s1 e=>?_)
 cases c with
 |false=>exact isTrue_or_nil e
 |true=>exact e
theorem Cn (ha:PT X a tA)(hb:PW X (.BoolOp .And (b :: rest) pos) tB'):PW X (.BoolOp .And (a :: b :: rest) pos) (Gg tA tB'):=by
 intro wh pins s σ H Q I h
 refine isTrue_and (bB (ha pins s σ H _ I h) λc s1 ⟨H1,I1,q1⟩=>?_)
 cases c with
 |true=>exact hb wh pins s1 σ H1 Q I1 q1
 |false=>exact⟨H1,I1,q1⟩
theorem A9 (ha:PT X a tA)(hb:PW X (.BoolOp .Or (b :: rest) pos) tB'):PW X (.BoolOp .Or (a :: b :: rest) pos) (He tA tB'):=by
 intro wh pins s σ H Q I h
 refine isTrue_or (bB (ha pins s σ H _ I h) λc s1 ⟨H1,I1,q1⟩=>?_)
 cases c with
 |true=>exact⟨H1,I1,q1⟩
 |false=>exact hb wh pins s1 σ H1 Q I1 q1
def tu (ha:PT X a tA):PT X (.UnaryOp .Not a pos) (Fy tA):=by
 intro pins s σ H Q I h
 exact isTrue_not (ha pins s σ H (λc H1=>Q (!c) H1) I h)
def EA (ta tb:TE):TE:=λσ H Q=>ta σ H λx H1=>∃c,x=.bl c/\if c=true then tb σ H1 Q else Q (.bl false) H1
def Ew (ta:TE):TE:=λσ H Q=>ta σ H λx H1=>∃c,x=.bl c/\Q (.bl (!c)) H1
def BY {op}{t:TE}(h:PE X a t):PE X (.BoolOp op [a] pos) t:=λpins s σ H Q I hw=>BoolOp_one (h pins s σ H Q I hw)
theorem Ca (ha:PE X a ta)(hb:PE X (.BoolOp .And (b :: rest) pos) tb):PE X (.BoolOp .And (a :: b :: rest) pos) (EA ta tb):=by
 intro pins s σ H Q I h
 refine BoolOp_and (bB (ha pins s σ H _ I h) λv s1 ⟨x,H1,I1,r1,q1⟩=>?_)
 obtain⟨c,rfl,q1⟩:=q1
 cases r1
 refine Ji ?_
 cases c with
 |true=>exact hb pins s1 σ H1 Q I1 q1
 |false=>exact⟨.bl false,H1,I1,rfl,q1⟩
def Dm (ha:PE X a ta):PE X (.UnaryOp .Not a pos) (Ew ta):=by
 intro pins s σ H Q I h
 refine UnaryOp_ (bB (ha pins s σ H _ I h) λv s1 ⟨x,H1,I1,r1,q1⟩=>?_)
 obtain⟨c,rfl,q1⟩:=q1
 cases r1
 exact not_of (Ji ⟨.bl (!c),H1,I1,rfl,q1⟩)
end
def dI (K:Frag)(H:Hp)(a:Addr)(xs:List V):Prop:=
 Rd H a (.lst xs)\/
  ∃(o:Obj) (its:Array Value) (n:Nat),K.lookup a=some o/\o.cls=.type "list"/\o.dict=none/\o.data=.seq its n/\its.size<=sizeLine/\Vals xs its.toList
def eB (K:Frag)(H:Hp)(a:Addr)(xs:List V):Prop:=
 Rd H a (.tup xs)\/
  ∃(o:Obj) (its:Array Value) (n:Nat),K.lookup a=some o/\o.cls=.type "tuple"/\o.data=.seq its n/\its.size<=sizeLine/\Vals xs its.toList/\o.dict=none
def Gb:Value->Option V
 | .none=>some .non
 | .bool b=>some (.bl b)
 | .int i _=>some (.int i)
 | .str x _=>some (.str x)
 | .bytes b _=>some (.byt b)
 | .float b _=>some (.flt b)
 | .ref a=>some (.ref a)
 | .type n=>some (.ty n)
 |_=>none
theorem RelV.abs {x:V}{u:Value}(r:RelV x u):Gb u=some x:=by
 cases x with
 |non=>cases r;rfl
 |bl _=>cases r;rfl
 |int _=>obtain⟨t,rfl⟩:=r;rfl
 |str _=>obtain⟨t,rfl⟩:=r;rfl
 |byt _=>obtain⟨t,rfl⟩:=r;rfl
 |flt _=>obtain⟨t,rfl⟩:=r;rfl
 |ref _=>cases r;rfl
 |ty _=>cases r;rfl
def RelV.inj {x y:V}{u:Value}(r:RelV x u)(q:RelV y u):x=y:=Option.some.inj (r.abs.symm.trans q.abs)
theorem Vals.inj:∀{xs ys:List V} {us:List Value},Vals xs us->Vals ys us->xs=ys
 |_,_,_,.nil,.nil=>rfl
 |_,_,_,.cons r t,.cons r' t'=>by rw[r.inj r',Vals.inj t t']
section
variable {X:Cx}{pins:List (Addr×Obj)}{σ:St}{H:Hp}{s:Shared}{a:Addr}{xs ys:List V}
def Inv.list (I:Inv X pins σ H s)(h:dI X.K H a xs):∃its:List Value,Vals xs its/\PlainL s.heap a its.toArray/\xs.length<=sizeLine:=by
 rcases h with h | ⟨o,its,n,hk,hc,hd,hs,hz,r⟩
 ·obtain⟨z,its,n,r,e⟩:=h.ok I.hok
  exact⟨its,r,⟨_,n,e,rfl,rfl,rfl⟩,z⟩
 ·refine⟨its.toList,r,⟨o,n,I.kIn a o hk,hc,hd,by simpa using hs⟩,?_⟩
  have e:=r.length
  simp only[HW] at e
  omega
def Inv.tuple (I:Inv X pins σ H s)(h:eB X.K H a xs):∃its:List Value,Vals xs its/\IsTup s.heap a its.toArray/\xs.length<=sizeLine:=by
 rcases h with h | ⟨o,its,n,hk,hc,hs,hz,r,_⟩
 ·obtain⟨z,its,r,p⟩:=h.ok I.hok
  exact⟨its,r,p.isTup,z⟩
 ·refine⟨its.toList,r,⟨o,I.kIn a o hk,hc,n,by simpa using hs⟩,?_⟩
  have e:=r.length
  simp only[HW] at e
  omega
def Inv.list_inj (I:Inv X pins σ H s)(h:dI X.K H a xs)(h':dI X.K H a ys):xs=ys:=by
 obtain⟨its,r,⟨o,n,e,_,_,d⟩,_⟩:=I.list h
 obtain⟨its',r',⟨o',n',e',_,_,d'⟩,_⟩:=I.list h'
 rw[e] at e';cases e'
 rw[d] at d'
 injection d' with d1 _
 have:its=its':=by simpa using congrArg Array.toList d1
 subst this
 exact r.inj r'
def Inv.tuple_inj (I:Inv X pins σ H s)(h:eB X.K H a xs)(h':eB X.K H a ys):xs=ys:=by
 obtain⟨its,r,⟨o,e,_,n,d⟩,_⟩:=I.tuple h
 obtain⟨its',r',⟨o',e',_,n',d'⟩,_⟩:=I.tuple h'
 rw[e] at e';cases e'
 rw[d] at d'
 injection d' with d1 _
 have:its=its':=by simpa using congrArg Array.toList d1
 subst this
 exact r.inj r'
end
abbrev Cx.wish (X:Cx)(E:Value->Shared->Prop):Cx:={X with xe:=E}
abbrev Cx.nox (X:Cx):Cx:=X.wish λ_ _=>False
def Cx.Ok.wish {X:Cx}(ok:X.Ok)(E:Value->Shared->Prop):(X.wish E).Ok:=
 ⟨ok.mod,ok.kind,ok.glob,ok.blt,ok.above,ok.inj,ok.has,ok.cab,ok.hd,ok.frames,ok.stk,ok.exf,ok.bs,ok.bsz,ok.noex,ok.exfs,ok.funs,ok.frf⟩
def Cx.Ok.unwish {X:Cx}{E:Value->Shared->Prop}(ok:(X.wish E).Ok):X.Ok:=
 ⟨ok.mod,ok.kind,ok.glob,ok.blt,ok.above,ok.inj,ok.has,ok.cab,ok.hd,ok.frames,ok.stk,ok.exf,ok.bs,ok.bsz,ok.noex,ok.exfs,ok.funs,ok.frf⟩
section
variable {X:Cx}{pins:List (Addr×Obj)}{σ:St}{H:Hp}{s:Shared}{E:Value->Shared->Prop}
def Inv.wish (I:Inv X pins σ H s)(E:Value->Shared->Prop):Inv (X.wish E) pins σ H s:=⟨I.ok.wish E,I.os,I.bare,I.base,I.loc,I.cell,I.free,I.freeC,I.pin,I.hok,I.len⟩
def Inv.unwish (I:Inv (X.wish E) pins σ H s):Inv X pins σ H s:=⟨I.ok.unwish,I.os,I.bare,I.base,I.loc,I.cell,I.free,I.freeC,I.pin,I.hok,I.len⟩
theorem SP.unwish {D:Ends}{f:Flow}{s':Shared}(h:SP (X.wish E) pins D f s'):SP X pins D f s':=by
 cases f with
 |next=>obtain⟨σ',H',I,q⟩:=h;exact⟨σ',H',I.unwish,q⟩
 |brk=>obtain⟨σ',H',I,q⟩:=h;exact⟨σ',H',I.unwish,q⟩
 |cont=>obtain⟨σ',H',I,q⟩:=h;exact⟨σ',H',I.unwish,q⟩
 |ret u=>obtain⟨v,σ',H',I,r,q⟩:=h;exact⟨v,σ',H',I.unwish,r,q⟩
def jU.nox {st:List Stmt}{t:TS}(h:jU X.nox st t):jU X st t:=λpins s σ H D I hw=>
 IT (h pins s σ H D (I.wish _) hw) (λ_ _ q=>q.unwish) λ_ _ z=>False.elim z
end
section
variable {X:Cx}{st:Stmt}{rest:List Stmt}{t u:TS}{e:Expr}{te:TE}{pos:Pos}
def EW:TS:=λD σ H=>D.nx σ H
def FJ (t u:TS):TS:=λD σ H=>t {D with nx:=u D} σ H
def j8:jU X [] EW:=λ_ _ σ H _ I h=>Kk ⟨σ,H,I,h⟩
theorem bq (h1:PS X st t)(h2:jU X rest u):jU X (st :: rest) (FJ t u):=by
 intro pins s σ H D I h
 refine wpAny_execs_cons (bB (h1 pins s σ H {D with nx:=u D} I h) λf s1 q=>?_)
 cases f with
 |next=>
  obtain⟨σ',H',I',q⟩:=q
  exact h2 pins s1 σ' H' D I' q
 |ret v=>exact q
 |brk=>exact q
 |cont=>exact q
theorem b6 (h1:PS X st t):jU X [st] t:=by
 intro pins s σ H D I h
 refine wpAny_execs_cons (bB (h1 pins s σ H D I h) λf s1 q=>?_)
 cases f with
 |next=>exact Kk q
 |ret v=>exact q
 |brk=>exact q
 |cont=>exact q
def Inv.quiet {pins:List (Addr×Obj)}{σ:St}{H:Hp}{s:Shared}(I:Inv X pins σ H s):interactive X.env=false:=by simp[interactive,I.ok.kind]
def DX (te:TE):TS:=λD σ H=>te σ H λ_ H1=>D.nx σ H1
def tS (he:PE X e te)(hs:swapsWith e none pos.line X.env=pure false:=by rfl):PS X (.Expr e pos) (DX te):=by
 intro pins s σ H D I h
 exact wpAny_Expr_any (bB (he pins s σ H _ I h) λv s1 ⟨x,H1,I1,r1,q1⟩=>⟨σ,H1,I1,q1⟩) I.quiet hs
def GG (te:TE):TS:=λD σ H=>te σ H D.rt
def eS (he:PE X e te):PS X (.Return (some e) pos) (GG te):=by
 intro pins s σ H D I h
 exact wpAny_Return_some (bB (he pins s σ H _ I h) λv s1 ⟨x,H1,I1,r1,q1⟩=>⟨x,σ,H1,I1,r1,q1⟩)
def F0 (c:TT)(t u:TS):TS:=λD σ H=>c σ H λb H1=>if b=true then t D σ H1 else u D σ H1
theorem uB {c:Expr}{a b:List Stmt}{tc:TT}(hc:PT X c tc)(ha:jU X a t)(hb:jU X b u):PS X (.If c a b pos) (F0 tc t u):=by
 intro pins s σ H D I h
 refine wpAny_If (bB (hc pins s σ H _ I h) λd s1 ⟨H1,I1,q1⟩=>?_)
 cases d with
 |true=>exact ha pins s1 σ H1 D I1 q1
 |false=>exact hb pins s1 σ H1 D I1 q1
end
abbrev TG:=V->St->Hp->(St->Hp->Prop)->Prop
abbrev C3:=List V->St->Hp->(St->Hp->Prop)->Prop
def PG (X:Cx)(target:Expr)(t:TG):Prop:=
 ∀(pins:List (Addr×Obj)) (s:Shared) (σ:St) (H:Hp) (v:V) (u:Value) (Q:St->Hp->Prop),Inv X pins σ H s->RelV v u->t v σ H Q->
  wpAny (model X.prog X.w) X.A (assign target X.env u) (λ_ s'=>∃σ' H',Inv X pins σ' H' s'/\Q σ' H') X.xe s
def Ft (X:Cx)(ts:List Expr)(t:C3):Prop:=
 ∀(pins:List (Addr×Obj)) (s:Shared) (σ:St) (H:Hp) (vs:List V) (us:List Value) (Q:St->Hp->Prop),Inv X pins σ H s->Vals vs us->t vs σ H Q->
  wpAny (model X.prog X.w) X.A (assignInOrder ((assignEach ts X.env).map (·.2)) us) (λ_ s'=>∃σ' H',Inv X pins σ' H' s'/\Q σ' H') X.xe s
abbrev Cb:=V->V->V->Hp->(Hp->Prop)->Prop
def nG (X:Cx)(t:Cb):Prop:=
 ∀(pins:List (Addr×Obj)) (s:Shared) (σ:St) (H:Hp) (o i v:V) (ov iv u:Value) (Q:Hp->Prop),Inv X pins σ H s->RelV o ov->RelV i iv->RelV v u->t o i v H Q->
  wpAny (model X.prog X.w) X.A (setItem ov iv u) (λ_ s'=>∃H',Inv X pins σ H' s'/\Q H') X.xe s
section
variable {X:Cx}{pos:Pos}
def h9 (i:Nat):TG:=λv σ H Q=>Q (σ.set i (some v)) H
def bI {i:Nat}{x:Str}(hN:X.N.Nodup)(hi:X.N[i]? =some x)(hx:Loc X.env.scope x)(hf:X.fn x=true\/X.env.scope.names.lookup x=some .local:=by first |exact .inl rfl |exact .inr rfl |assumption):PG X (.Name x pos) (h9 i):=by
 intro pins s σ H v u Q I r h
 exact wpAny_assign_Name (fo I hN hi hx r (λs' I'=>⟨_,H,I',h⟩) hf)
def A0:C3:=λvs σ H Q=>vs= []/\Q σ H
def kY (t:TG)(u:C3):C3:=λvs σ H Q=>∃v r,vs=v :: r/\t v σ H λσ' H'=>u r σ' H' Q
def i9:Ft X [] A0:=by
 intro pins s σ H vs us Q I r h
 obtain⟨e,h⟩:=h
 subst e
 cases r
 exact assignInOrder_nil ⟨σ,H,I,h⟩
theorem bX {e:Expr}{es:List Expr}{t:TG}{u:C3}(h1:PG X e t)(h2:Ft X es u)
  (hs:(assignEach (e :: es) X.env).map (·.2)=assign e X.env :: (assignEach es X.env).map (·.2):=by rfl):Ft X (e :: es) (kY t u):=by
 intro pins s σ H vs us Q I r h
 obtain⟨v,vr,e1,h⟩:=h
 subst e1
 cases r with
 |cons r rr=>
  rw[hs]
  refine assignInOrder_cons (bB (h1 pins s σ H _ _ _ I r h) λ_ s1 ⟨σ1,H1,I1,q1⟩=>?_)
  exact h2 pins s1 σ1 H1 _ _ Q I1 rr q1
def Az (K:Frag)(n:Nat)(t:C3):TG:=λv σ H Q=>∃a xs,v=.ref a/\eB K H a xs/\xs.length=n/\t xs σ H Q
def kP {es:List Expr}{k:Nat}{t:C3}{n:Nat}(hc:X.calm=true)(h:Ft X es t)
  (hn:(assignEach es X.env).length=n:=by rfl) (hst:(assignEach es X.env).findIdx? (·.1)=none:=by rfl):PG X (.Tuple es k pos) (Az X.K n t):=by
 intro pins s σ H v u Q I r hw
 obtain⟨a,xs,e1,hq,hl,hw⟩:=hw
 subst e1
 cases r
 obtain⟨its,rv,ht,hz⟩:=I.tuple hq
 refine assign_Tuple_tuple (I.ok.hd hc) ht (by simp[hn,<-hl,rv.length]) hst λh' hx=>?_
 have I1:Inv X pins σ H {s with heap:=h'}:=I.kept (t':=s.toks) λb o e=>hx b o (Ih (HF e)) e
 exact h pins _ σ H xs _ Q I1 (by simpa using rv) hw
def Fv (to ti:TE)(t:Cb):TG:=λv σ H Q=>to σ H λo H1=>ti σ H1 λi H2=>t o i v H2 λH3=>Q σ H3
def rJ {o i:Expr}{to ti:TE}{t:Cb}(ho:PE X o to)(hi:PE X i ti)(hs:nG X t)
  (ha:∀v,assign (.Subscript o i pos) X.env v=(do
   let ov <-holding [v] (eval o X.env)
   let iv <-holding [v,ov] (eval i X.env)
   standAt pos
   holding [v,ov,iv] (setItem ov iv v)
   release [v,ov,iv] []):=by intro _;rfl):PG X (.Subscript o i pos) (Fv to ti t):=by
 intro pins s σ H v u Q I r h
 rw[ha]
 refine Hr (Jl (bB (ho pins s σ H _ I h) λov s1 ⟨x,H1,I1,r1,q1⟩=>?_))
 refine Hr (Jl (bB (hi pins s1 σ H1 _ I1 q1) λiv s2 ⟨y,H2,I2,r2,q2⟩=>?_))
 refine Hr (wpAny_standAt (Hr (Jl (bB (hs pins s2 σ H2 x y v ov iv u _ I2 r1 r2 r q2) λ_ s3 ⟨H3,I3,q3⟩=>?_))))
 exact wpAny_release ⟨σ,H3,I3,q3⟩
def Eo (te:TE)(g:TG):TS:=λD σ H=>te σ H λx H1=>g x σ H1 D.nx
def o8 {tg e:Expr}{te:TE}{g:TG}(he:PE X e te)(hg:PG X tg g)(hs:swapsWithSole [tg] e pos.line X.env=pure false:=by rfl)(hw:swappedStores [tg] e X.env=pure none:=by rfl)
  (h1:(assignEach [tg] X.env).map (·.2)= [assign tg X.env]:=by rfl):PS X (.Assign [tg] e pos) (Eo te g):=by
 intro pins s σ H D I h
 refine wpAny_Assign_stores (bB (he pins s σ H _ I h) λv s1 ⟨x,H1,I1,r1,q1⟩=>?_) hs hw
 rw[h1]
 exact bB (hg pins s1 σ H1 x v _ I1 r1 q1) λ_ s2 q=>q
def gf {i:Nat}{x:Str}{e:Expr}{te:TE}{pos':Pos}(hN:X.N.Nodup)(hi:X.N[i]? =some x)(hx:Loc X.env.scope x)(he:PE X e te)(hs:swapsWith e (some (.Name x pos')) pos.line X.env=pure false:=by rfl)(hf:X.fn x=true\/X.env.scope.names.lookup x=some .local:=by first |exact .inl rfl |exact .inr rfl |assumption) :
  PS X (.Assign [.Name x pos'] e pos) (Eo te (h9 i)):=by
 intro pins s σ H D I h
 refine wpAny_Assign_Name (bB (he pins s σ H _ I h) λv s1 ⟨y,H1,I1,r1,q1⟩=>?_) hs
 exact fo I1 hN hi hx r1 (λs2 I2=>⟨_,H1,I2,q1⟩) hf
def Gm (i j:Nat)(ta:TA):TS:=λD σ H=>ta σ H λvs H1=>∃v w,vs= [v,w]/\D.nx ((σ.set i (some v)).set j (some w)) H1
def Cv {i j:Nat}{x y:Str}{a b:Expr}{ta:TA}{px py pt:Pos}{kt k2 pt2}(hc:X.calm=true)(hN:X.N.Nodup)(hi:X.N[i]? =some x)(hj:X.N[j]? =some y)(hij:i≠j)
  (hx:X.env.scope.names.lookup x=some .local) (hy:X.env.scope.names.lookup y=some .local) (ha:PA X [a,b] ta)
  (hw:swappedStores [.Tuple [.Name x px,.Name y py] kt pt] (.Tuple [a,b] k2 pt2) X.env=pure (some [x,y]))
  (hs:swapsWithSole [.Tuple [.Name x px,.Name y py] kt pt] (.Tuple [a,b] k2 pt2) pos.line X.env=pure false:=by rfl) :
  PS X (.Assign [.Tuple [.Name x px,.Name y py] kt pt] (.Tuple [a,b] k2 pt2) pos) (Gm i j ta):=by
 intro pins s σ H D I h
 rw[exec_Assign_arm]
 refine Hr (wpAny_standAt ?_)
 rw[hs]
 refine Hr (Hy ?_)
 rw[Ht (by decide)]
 refine Hr (Tuple_ (bB (ha _ pins s σ H _ I h) λus s1 ⟨vs,H1,I1,r1,q1⟩=>?_))
 obtain⟨v,w,e1,q1⟩:=q1
 subst e1
 obtain⟨u1,u2,rfl,rv,rw'⟩:∃u1 u2,us= [u1,u2]/\RelV v u1/\RelV w u2:=by
  cases r1 with
  |cons p q=>
   cases q with
   |cons p' q'=>
    cases q'
    exact⟨_,_,rfl,p,p'⟩
 refine JI ?_ (by show 2<=sizeLine;decide)
 have I2:Inv X pins σ H1 {s1 with heap:=s1.heap.push {cls:=.type "tuple",data:=.seq [u1,u2].toArray}}:=I1.kept (t':=s1.toks) λb o e=>Hx _ e
 rw[hw]
 refine Hr (Hy ?_)
 show wpAny (model X.prog X.w) X.A (do rule "assign.swapped-stores";let items <-unpackItems (.ref s1.heap.objs.size) 2 none;assignInOrder [λv=>bindName X.env y v,λv=>bindName X.env x v] items.reverse;pure Flow.next) _ _ _
 refine Hr (Ke (Hr (unpackItems_tuple (items:=#[u1,u2]) (I.ok.hd hc) (IsTup.new s1.heap _) λh' hx'=>?_)))
 have I3:=I2.kept (h':=h') (t':=s1.toks) λb o e=>hx' b o (Ih (HF e)) e
 show wpAny _ _ (assignInOrder [λv=>bindName X.env y v,λv=>bindName X.env x v] [u2,u1] >>= λ_=>pure Flow.next) _ _ _
 refine Hr (assignInOrder_cons (wpAny_bindName (fo I3 hN hj (.inl hy) rw' (λs2 I4=>?_) (.inr hy))))
 refine assignInOrder_cons (wpAny_bindName (fo I4 hN hi (.inl hx) rv (λs3 I5=>assignInOrder_nil (Hy ?_)) (.inr hx)))
 rw[List.set_comm _ _ (Ne.symm hij)] at I5
 exact⟨_,H1,I5,q1⟩
end
section
variable {X:Cx}{pos:Pos}
def BR (c:TT)(tb:TS):TS:=λD σ H=>∃W:Nat->St->Hp->Prop,(∃m,W m σ H)/\∀m σ H,W m σ H->
 c σ H λb H1=>if b=true then ∃N:St->Hp->Prop,(∀σ' H',N σ' H'->∃m',m' < m/\W m' σ' H')/\tb {D with nx:=N,ct:=N,bk:=D.nx} σ H1 else D.nx σ H1
theorem xu {c:Expr}{body:List Stmt}{tc:TT}{tb:TS}(hp:PassesOwn (model X.prog X.w) X.A X.env X.xe)(hc:PT X c tc)(hb:jU X body tb):PS X (.While c body [] pos) (BR tc tb):=by
 intro pins s σ H D I h
 obtain⟨W,⟨m0,w0⟩,turn⟩:=h
 refine wpAny_While (codeAny_whileLoop (λn s'=>∃σ' H',Inv X pins σ' H' s'/\W n σ' H') ?_ m0 ⟨σ,H,I,w0⟩)
 rintro n s1 ⟨σ1,H1,I1,w1⟩
 refine JE hp (bB (hc pins s1 σ1 H1 _ I1 (turn n σ1 H1 w1)) λb s2 ⟨H2,I2,q2⟩=>?_)
 cases b with
 |true=>
  obtain⟨N,hN,q2⟩:=q2
  rw[Hs rfl]
  refine JE hp (bB (hb pins s2 σ1 H2 _ I2 q2) λf s3 q3=>?_)
  cases f with
  |next=>
   obtain⟨σ3,H3,I3,n3⟩:=q3
   obtain⟨m',hm,w3⟩:=hN σ3 H3 n3
   exact⟨m',hm,σ3,H3,I3,w3⟩
  |cont=>
   obtain⟨σ3,H3,I3,n3⟩:=q3
   obtain⟨m',hm,w3⟩:=hN σ3 H3 n3
   exact⟨m',hm,σ3,H3,I3,w3⟩
  |brk=>exact q3
  |ret v=>exact q3
 |false=>
  rw[Ht HU]
  exact Kk ⟨σ1,H2,I2,q2⟩
end
structure It where
 go:Nat->Hp->Prop
 yld:Nat->Hp->V->Hp->Prop
 stop:Nat->Hp->Prop
def lW (X:Cx)(pins:List (Addr×Obj))(H:Hp)(b:Addr):Prop:=
 H b=none/\b≠X.env.locals/\b∉X.fs/\(b∈X.ex\/X.s₀.heap.objs.size<=b)/\(∀x c,X.env.cells.lookup x=some c->c≠b)/\∀p∈X.pn ++ pins,p.1≠b
def Inv.fpOk {X:Cx}{pins:List (Addr×Obj)}{σ:St}{H H':Hp}{s:Shared}{b:Addr}(I:Inv X pins σ H s)(hb:s.heap.objs.size<=b)(hn:H' b=none):lW X pins H' b:=by
 refine⟨hn,Nat.ne_of_gt (HZ I.lt hb),I.nofs hb,.inr (IF I.sz hb),λx c e z=>?_,λp hp z=>?_⟩
 ·obtain⟨v,q⟩:=I.cell x c e
  exact absurd (HZ q.lt (by rw[z];exact hb)) (Ic _)
 ·exact absurd (HZ (HF (I.pin p hp).1) (by rw[z];exact hb)) (Ic _)
structure Turn (P:Program)(w:World)(K:Frag)(tg:Expr)(J:It)(fp:List Addr)(it:Addr)(tn:Nat->Heap->Prop):Prop where
 mem:it∈fp
 obj:∀i h,tn i h->∀b∈fp,∃o,h.get? b=some o/\∀v,o.data≠.cell v
 keep:∀i h h',tn i h->(∀b∈fp,∀o,h.get? b=some o->h'.get? b=some o)->tn i h'
 item:∀(X:Cx),X.prog=P->X.w=w->X.K=K->X.calm=true->∀(i:Nat) (pins:List (Addr×Obj)) (s:Shared) (σ:St) (H:Hp) (E:Value->Shared->Prop),Inv X pins σ H s->(∀b∈fp,lW X pins H b)->tn i s.heap->J.go i H->
  wpAny (model P w) X.A (pyNext (.ref it)) (λr s1=>∃u,r=some u/\
   wpAny (model P w) X.A (letOwnedTupleGo tg (.ref it) u) (λ_ s2=>∃x H',Inv X pins σ H' s2/\RelV x u/\J.yld i H x H'/\tn (i + 1) s2.heap/\∀b∈fp,H' b=none) E s1) E s
 done:∀(X:Cx),X.prog=P->X.w=w->X.K=K->X.calm=true->∀(i:Nat) (pins:List (Addr×Obj)) (s:Shared) (σ:St) (H:Hp) (E:Value->Shared->Prop),Inv X pins σ H s->(∀b∈fp,lW X pins H b)->tn i s.heap->J.stop i H->
  wpAny (model P w) X.A (pyNext (.ref it)) (λr s1=>r=none/\Inv X pins σ H s1) E s
 self:∀(A:Around) (i:Nat) (s:Shared) (Q:Value->Shared->Prop) (E:Value->Shared->Prop),tn i s.heap->Q (.ref it) s->wpAny (model P w) A (pyIter (.ref it)) Q E s
abbrev TI:=St->Hp->(It->Hp->Prop)->Prop
def GV (X:Cx)(pins:List (Addr×Obj))(σ:St)(tg:Expr)(R:It->Hp->Prop)(itv:Value)(s2:Shared):Prop:=
 ∃(it:Addr) (fp:List Addr) (tn:Nat->Heap->Prop) (J:It) (H':Hp),itv=.ref it/\Inv X pins σ H' s2/\Turn X.prog X.w X.K tg J fp it tn/\tn 0 s2.heap/\(∀b∈fp,lW X pins H' b)/\R J H'
def PI (X:Cx)(tg iter:Expr)(wi:TI):Prop:=
 ∀(pins:List (Addr×Obj)) (s:Shared) (σ:St) (H:Hp) (R:It->Hp->Prop),Inv X pins σ H s->wi σ H R->
  wpAny (model X.prog X.w) X.A (eval iter X.env) (λv s1=>wpAny (model X.prog X.w) X.A (pyIter v) (GV X pins σ tg R) X.xe s1) X.xe s
def xa {M:Model}{A:Around}{E:Value->Shared->Prop}{s:Shared}{tg:Expr}{it:Addr}{u:Value}{o:Obj}{n:String}{vs:Array Value}{Q:Unit->Shared->Prop}(ho:s.heap.get? it=some o)(hc:o.cls=.type n)(hd:o.data=.fields vs)
  (hn: ["enumerate","zip","dict_itemiterator","dict_reverseitemiterator","odict_iterator","itertools.zip_longest","itertools.pairwise"].contains n=false) (hQ:Q () s):wpAny M A (letOwnedTupleGo tg (.ref it) u) Q E s:=by
 unfold letOwnedTupleGo
 cases tg <;> first
  |exact Hy hQ
  | (cases u <;> first
    |exact Hy hQ
    | (refine Hr (wpAny_load ho ?_)
       rw[hc,hd]
       show wpAny M A (if (["enumerate","zip","dict_itemiterator","dict_reverseitemiterator","odict_iterator","itertools.zip_longest","itertools.pairwise"].contains n && vs[0]? == some (rawInt _))=true then _ else _) Q E s
       rw[Ht (by intro h;rw[hn,Bool.false_and] at h;cases h)]
       exact Hy hQ))
def vY (K:Frag)(a:Addr):It:=
 ⟨λi H=>∃xs x,dI K H a xs/\xs[i]? =some x,λi H x H'=>H'=H/\∀xs,dI K H a xs->xs[i]? =some x,λi H=>∃xs,dI K H a xs/\xs.length<=i⟩
def BF (K:Frag)(a:Addr):It:=
 ⟨λi H=>∃xs x,eB K H a xs/\xs[i]? =some x,λi H x H'=>H'=H/\∀xs,eB K H a xs->xs[i]? =some x,λi H=>∃xs,eB K H a xs/\xs.length<=i⟩
def xJ (lo:Int)(n:Nat):It:=⟨λi _=>i < n,λi H x H'=>H'=H/\x=.int (lo + i),λi _=>n<=i⟩
def jB {P:Program}{w:World}{K:Frag}{tg:Expr}(a it:Addr):Turn P w K tg (vY K a) [it] it (λi h=>h.IsListIter it a i) where
 mem:=by simp
 obj:=λi h st b hb=>by
  have e:b=it:=by simpa using hb
  subst e
  obtain⟨o,e,c,d⟩:=st
  exact⟨o,e,λv z=>by rw[d] at z;cases z⟩
 keep:=λi h h' st k=>st.at λo e=>k it (by simp) o e
 item:=by
  intro X hP hw hK hc i pins s σ H E I hf st hg
  subst hP hw hK
  obtain⟨xs,x,hq,hx⟩:=hg
  obtain⟨its,rv,p,hz⟩:=I.list hq
  obtain⟨u,hu,ru⟩:=rv.get hx
  obtain⟨f0,f1,f2,f3,f4,f5⟩:=hf it (by simp)
  refine wpAny_pyNext_list_item st p.isList (x:=u) (by simpa using hu) λh' st' sb=>?_
  have I1:Inv X pins σ H {s with heap:=h'}:=I.turned (t':=s.toks) (λb o hb e=>(sb.2 b hb).trans e) f0 f1 f3 f4 f5
  obtain⟨o,e,c,d⟩:=id st'
  exact⟨u,rfl,xa (s:={s with heap:=h'}) e c d (by decide) ⟨x,H,I1,ru,⟨rfl,λys hy=>by rw[I.list_inj hy hq];exact hx⟩,st',λb hb=>(hf b hb).1⟩⟩
 done:=by
  intro X hP hw hK hc i pins s σ H E I hf st hg
  subst hP hw hK
  obtain⟨xs,hq,hx⟩:=hg
  obtain⟨its,rv,p,hz⟩:=I.list hq
  obtain⟨f0,f1,f2,f3,f4,f5⟩:=hf it (by simp)
  have hl:=rv.length
  exact wpAny_pyNext_list_end (I.ok.hd hc) st p.isList (by simp;omega) λh' eb=>⟨rfl,I.turned (t':=s.toks) (λb o hb e=>eb b o hb e) f0 f1 f3 f4 f5⟩
 self:=λ_ _ _ _ _ st h=>wpAny_pyIter_listiter st h
def kq {P:Program}{w:World}{K:Frag}{tg:Expr}(a it:Addr):Turn P w K tg (BF K a) [it] it (λi h=>h.IsTupleIter it a i) where
 mem:=by simp
 obj:=λi h st b hb=>by
  have e:b=it:=by simpa using hb
  subst e
  obtain⟨o,e,c,d⟩:=st
  exact⟨o,e,λv z=>by rw[d] at z;cases z⟩
 keep:=λi h h' st k=>st.at λo e=>k it (by simp) o e
 item:=by
  intro X hP hw hK hc i pins s σ H E I hf st hg
  subst hP hw hK
  obtain⟨xs,x,hq,hx⟩:=hg
  obtain⟨its,rv,p,hz⟩:=I.tuple hq
  obtain⟨u,hu,ru⟩:=rv.get hx
  obtain⟨f0,f1,f2,f3,f4,f5⟩:=hf it (by simp)
  refine wpAny_pyNext_tuple_item st (show s.heap.IsTuple a its.toArray from p) (x:=u) (by simpa using hu) λh' st' sb=>?_
  have I1:Inv X pins σ H {s with heap:=h'}:=I.turned (t':=s.toks) (λb o hb e=>(sb.2 b hb).trans e) f0 f1 f3 f4 f5
  obtain⟨o,e,c,d⟩:=id st'
  exact⟨u,rfl,xa (s:={s with heap:=h'}) e c d (by decide) ⟨x,H,I1,ru,⟨rfl,λys hy=>by rw[I.tuple_inj hy hq];exact hx⟩,st',λb hb=>(hf b hb).1⟩⟩
 done:=by
  intro X hP hw hK hc i pins s σ H E I hf st hg
  subst hP hw hK
  obtain⟨xs,hq,hx⟩:=hg
  obtain⟨its,rv,p,hz⟩:=I.tuple hq
  obtain⟨f0,f1,f2,f3,f4,f5⟩:=hf it (by simp)
  have hl:=rv.length
  exact wpAny_pyNext_tuple_end (I.ok.hd hc) st (show s.heap.IsTuple a its.toArray from p) (by simp;omega) λh' eb=>⟨rfl,I.turned (t':=s.toks) (λb o hb e=>eb b o hb e) f0 f1 f3 f4 f5⟩
 self:=λ_ _ _ _ _ st h=>wpAny_pyIter_tupleiter st h
def sR {P:Program}{w:World}{K:Frag}{tg:Expr}(it:Addr)(lo:Int)(n:Nat):Turn P w K tg (xJ lo n) [it] it (λi h=>IsRangeIter h it (lo + (i:Nat) * 1) ((n:Int) - (i:Nat)) 1) where
 mem:=by simp
 obj:=λi h st b hb=>by
  have e:b=it:=by simpa using hb
  subst e
  exact⟨_,st,λv z=>by
   have z':Data.fields _=Data.cell v:=z
   cases z'⟩
 keep:=λi h h' st k=>k it (by simp) _ st
 item:=by
  intro X hP hw hK hc i pins s σ H E I hf st hg
  subst hP hw hK
  obtain⟨f0,f1,f2,f3,f4,f5⟩:=hf it (by simp)
  have W:=Walks.range (prog:=X.prog) (w:=X.w) (I.ok.hd hc) it lo 1 n
  refine W.item i s _ _ hg st λv h' tk hv st' kk=>?_
  obtain⟨t,rfl⟩:=hv
  have I1:Inv X pins σ H {s with heap:=h',toks:=tk}:=I.turned (λb o hb e=>kk b o (by simpa using hb) e) f0 f1 f3 f4 f5
  refine⟨_,rfl,xa (s:={s with heap:=h',toks:=tk}) (n:="range_iterator") st' rfl rfl (by decide) ⟨.int (lo + i),H,I1,⟨t,?_⟩,⟨rfl,rfl⟩,st',λb hb=>(hf b hb).1⟩⟩
  rw[Int.mul_one]
 done:=by
  intro X hP hw hK hc i pins s σ H E I hf st hg
  subst hP hw hK
  obtain⟨f0,f1,f2,f3,f4,f5⟩:=hf it (by simp)
  exact wpAny_pyNext_range_end (I.ok.hd hc) st (by have:n<=i:=hg;omega) λh' eb=>⟨rfl,I.turned (t':=s.toks) (λb o hb e=>eb b o hb e) f0 f1 f3 f4 f5⟩
 self:=λ_ _ _ _ _ st h=>wpAny_pyIter_rangeiter st h
section
variable {X:Cx}{tg:Expr}
def EI (K:Frag)(tl:TE):TI:=λσ H R=>tl σ H λx H1=>∃a,x=.ref a/\(∃xs,dI K H1 a xs)/\R (vY K a) H1
def tH {l:Expr}{tl:TE}(hl:PE X l tl):PI X tg l (EI X.K tl):=by
 intro pins s σ H R I h
 refine bB (hl pins s σ H _ I h) λv s1 ⟨x,H1,I1,r1,q1⟩=>?_
 obtain⟨a,e,⟨xs,hq⟩,q⟩:=q1
 subst e
 cases r1
 obtain⟨its,rv,p,hz⟩:=I1.list hq
 refine J4 p.isList ?_
 refine⟨s1.heap.objs.size,[s1.heap.objs.size],_,_,H1,rfl,I1.kept (t':=s1.toks) λb o e=>Hx _ e,jB a _,⟨_,HR _ rfl,rfl,rfl⟩,λb hb=>?_,q⟩
 have e:b=s1.heap.objs.size:=by simpa using hb
 subst e
 exact I1.fpOk (Hv _) (I1.hok.fresh (Hv _))
def yM {pins:List (Addr×Obj)}{σ:St}{H:Hp}{s:Shared}{R:It->Hp->Prop}{E:Value->Shared->Prop}{lo hi:Int}{t u v:Tok}{tk:Nat}(I:Inv X pins σ H s)(h1: -(2 ^ 62)<=lo)(h2:lo < 2 ^ 62)(h3: -(2 ^ 62)<=hi)(h4:hi < 2 ^ 62)
  (q:R (xJ lo (hi - lo).toNat) H):wpAny (model X.prog X.w) X.A (pyIter (.ref s.heap.objs.size)) (GV X pins σ tg R) E {s with heap:=s.heap.push {cls:=.type "range",data:=.fields #[.int lo t,.int hi u,.int 1 v]},toks:=tk}:=by
 refine wpAny_pyIter_range (IsRange.new ..) (small_one h1 h2 h3 h4) ?_
 have I1:Inv X pins σ H {s with heap:=s.heap.push {cls:=.type "range",data:=.fields #[.int lo t,.int hi u,.int 1 v]},toks:=tk}:=I.kept λb o e=>Hx _ e
 refine⟨(s.heap.push {cls:=.type "range",data:=.fields #[.int lo t,.int hi u,.int 1 v]}).objs.size,[(s.heap.push {cls:=.type "range",data:=.fields #[.int lo t,.int hi u,.int 1 v]}).objs.size],_,_,H,rfl,
  I1.kept (t':=tk) λb o e=>Hx _ e,sR _ lo (hi - lo).toNat,?_,λb hb=>?_,q⟩
 ·have e1:lo + ((0:Nat):Int) * 1=lo:=by simp
  have e2:(((hi - lo).toNat:Nat):Int) - ((0:Nat):Int)=Builtin.Range.rangeSize lo hi 1:=by rw[rangeSize_one];split <;> omega
  show IsRangeIter _ _ (lo + ((0:Nat):Int) * 1) ((((hi - lo).toNat:Nat):Int) - ((0:Nat):Int)) 1
  rw[e1,e2]
  exact HR _ rfl
 ·have e:b=(s.heap.push {cls:=.type "range",data:=.fields #[.int lo t,.int hi u,.int 1 v]}).objs.size:=by simpa using hb
  subst e
  exact I1.fpOk (Hv _) (I1.hok.fresh (Hv _))
def Ez (ta:TA):TI:=λσ H R=>ta σ H λvs H1=>∃j:Int,vs= [.int j]/\ -(2 ^ 62)<=j/\j < 2 ^ 62/\R (xJ 0 j.toNat) H1
theorem g7 {a:Expr}{ta:TA}{p pos:Pos}(hg:Gl X "range")(hm:X.mg "range"=none)(ha:PA X [a] ta)(hs:starEach [a] X.env= [(false,eval a X.env)]:=by rfl):PI X tg (.Call (.Name "range" p) [a] [] pos) (Ez ta):=by
 intro pins s σ H R I h
 refine Call_ (nI I hg hm boot_range (PyProof.Rows.callWith_type1 (bB (ha pos pins s σ H _ I h) λus s1 ⟨vs,H1,I1,r1,q1⟩=>?_) hs rfl))
 obtain⟨j,e,q1,q2,q⟩:=q1
 subst e
 cases r1 with
 |cons r rr=>
  cases rr
  obtain⟨t,rfl⟩:=r
  exact call_range_1 (yM I1 (by omega) (by omega) q1 q2 (by simpa using q))
def FF (wi:TI)(g:TG)(tb:TS):TS:=λD σ H=>wi σ H λJ H1=>∃W:Nat->Nat->St->Hp->Prop,(∃m,W 0 m σ H1)/\∀i m σ H,W i m σ H->
 (J.stop i H/\D.nx σ H)\/(J.go i H/\∃N:St->Hp->Prop,(∀σ' H',N σ' H'->∃m',m' < m/\W (i + 1) m' σ' H')/\∀x H',J.yld i H x H'->g x σ H' λσ2 H2=>tb {D with nx:=N,ct:=N,bk:=D.nx} σ2 H2)
def kJ (fp:List Addr)(h:Heap):List (Addr×Obj):=fp.filterMap λb=>(h.get? b).map λo=>(b,o)
def fN {fp:List Addr}{h:Heap}{b:Addr}{o:Obj}(hb:b∈fp)(e:h.get? b=some o):(b,o)∈kJ fp h:=Jn.mpr ⟨b,hb,by rw[e];rfl⟩
theorem vR {fp:List Addr}{h:Heap}{p:Addr×Obj}(hp:p∈kJ fp h):p.1∈fp/\h.get? p.1=some p.2:=by
 obtain⟨b,hb,e⟩:=Jn.mp hp
 cases q:h.get? b with
 |none=>rw[q] at e;cases e
 |some o=>
  rw[q] at e
  have e':(b,o)=p:=Option.some.inj e
  subst e'
  exact⟨hb,q⟩
def Inv.pinned {pins:List (Addr×Obj)}{σ:St}{H:Hp}{s:Shared}{fp:List Addr}(I:Inv X pins σ H s)(hf:∀b∈fp,lW X pins H b)(ho:∀b∈fp,∃o,s.heap.get? b=some o/\∀v,o.data≠.cell v):Inv X (pins ++ kJ fp s.heap) σ H s:=
 I.pins_of λp hp=>(HP.mp hp).elim (λz=>I.pin p (Iq _ z)) λz=>by
  obtain⟨hb,e⟩:=vR z
  obtain⟨f0,f1,f2,_⟩:=hf p.1 hb
  obtain⟨o,e',d⟩:=ho p.1 hb
  rw[e] at e';cases e'
  exact⟨e,f0,f1,f2,d⟩
def Inv.unpinned {pins pl:List (Addr×Obj)}{σ:St}{H:Hp}{s:Shared}(I:Inv X (pins ++ pl) σ H s):Inv X pins σ H s:=I.pins_of λp hp=>I.pin p (Iq _ (Jr _ hp))
def oG {iter:Expr}{body:List Stmt}{wi:TI}{g:TG}{tb:TS}{pos:Pos}(hp:PassesOwn (model X.prog X.w) X.A X.env X.xe)(hc:X.calm=true)(hi:PI X tg iter wi)(hg:PG X tg g)(hb:jU X body tb)
  (hs:∀x,foldedSetIterable iter X.env x=pure x:=by intro _;rfl):PS X (.For tg iter body [] pos) (FF wi g tb):=by
 intro pins s σ H D I h
 refine wpAny_For (bB (hi pins s σ H _ I h) λv s1 h1=>bB h1 λitv s2 h2=>?_) hs
 obtain⟨it,fp,tn,J,H2,e,I2,T,st2,f2,W,⟨m0,w0⟩,turn⟩:=h2
 subst e
 have stat:∀{H':Hp},(∀b∈fp,H' b=none)->∀b∈fp,lW X pins H' b:=λhn b hb=>⟨hn b hb,(f2 b hb).2⟩
 refine codeAny_forLoop_any (λn s'=>∃i σ' H',Inv X pins σ' H' s'/\tn i s'.heap/\(∀b∈fp,H' b=none)/\W i n σ' H') ?_ m0 ⟨0,σ,H2,I2,st2,λb hb=>(f2 b hb).1,w0⟩
 rintro n s3 ⟨i,σ3,H3,I3,st3,fr3,w3⟩
 rcases turn i n σ3 H3 w3 with⟨stop,qn⟩ | ⟨go,N,hN,step⟩
 ·refine JE hp (bB (T.done X rfl rfl rfl hc i pins s3 σ3 H3 X.xe I3 (stat fr3) st3 stop) λr s4 ⟨hr,I4⟩=>?_)
  subst hr
  exact Kk ⟨σ3,H3,I4,qn⟩
 ·refine JE hp (bB (T.item X rfl rfl rfl hc i pins s3 σ3 H3 X.xe I3 (stat fr3) st3 go) λr s4 ⟨u,hr,h4⟩=>?_)
  subst hr
  refine JE hp (bB h4 λ_ s5 ⟨x,H5,I5,r5,y5,st5,fr5⟩=>?_)
  have I5':=I5.pinned (stat fr5) (T.obj _ _ st5)
  refine JE hp (bB (hg _ s5 σ3 H5 x u _ I5' r5 (step x H5 y5)) λ_ s6 ⟨σ6,H6,I6,q6⟩=>?_)
  refine JE hp (bB (hb _ s6 σ6 H6 _ I6 q6) λf s7 q7=>?_)
  have again:∀{σ7:St} {H7:Hp},Inv X (pins ++ kJ fp s5.heap) σ7 H7 s7->N σ7 H7->∃m,m < n/\∃i σ' H',Inv X pins σ' H' s7/\tn i s7.heap/\(∀b∈fp,H' b=none)/\W i m σ' H':=λ{σ7 H7} I7 n7=>by
   obtain⟨m',hm,w7⟩:=hN σ7 H7 n7
   refine⟨m',hm,i + 1,σ7,H7,I7.unpinned,T.keep _ _ _ st5 λb hb o e=>(I7.pin (b,o) (Iq _ (Iq _ (fN hb e)))).1,λb hb=>?_,w7⟩
   obtain⟨o,e,d⟩:=T.obj _ _ st5 b hb
   exact (I7.pin (b,o) (Iq _ (Iq _ (fN hb e)))).2.1
  cases f with
  |next=>obtain⟨σ7,H7,I7,n7⟩:=q7;exact again I7 n7
  |cont=>obtain⟨σ7,H7,I7,n7⟩:=q7;exact again I7 n7
  |brk=>obtain⟨σ7,H7,I7,q7⟩:=q7;exact⟨σ7,H7,I7.unpinned,q7⟩
  |ret v=>obtain⟨x7,σ7,H7,I7,r7,q7⟩:=q7;exact⟨x7,σ7,H7,I7.unpinned,r7,q7⟩
end
def qg {K:Frag}{a:Addr}{xs:List V}{g:TG}{tb:TS}{D:Ends}{σ:St}{H:Hp}(Pv:Nat->St->Hp->Prop)(h0:Pv 0 σ H)(hl:∀i σ H,i<=xs.length->Pv i σ H->dI K H a xs)
  (hs:∀i x σ H,xs[i]? =some x->Pv i σ H->g x σ H λσ2 H2=>tb {D with nx:=Pv (i + 1),ct:=Pv (i + 1),bk:=D.nx} σ2 H2) (hd:∀σ H,Pv xs.length σ H->D.nx σ H) :
  ∃W:Nat->Nat->St->Hp->Prop,(∃m,W 0 m σ H)/\∀i m σ H,W i m σ H->
   ((vY K a).stop i H/\D.nx σ H)\/((vY K a).go i H/\∃N:St->Hp->Prop,(∀σ' H',N σ' H'->∃m',m' < m/\W (i + 1) m' σ' H')/\∀x H',(vY K a).yld i H x H'->g x σ H' λσ2 H2=>tb {D with nx:=N,ct:=N,bk:=D.nx} σ2 H2):=by
 refine⟨λi m σ H=>m=xs.length - i/\i<=xs.length/\Pv i σ H,⟨xs.length,by simp,Ij _,h0⟩,?_⟩
 rintro i m σ H ⟨rfl,hi,p⟩
 have q:=hl i σ H hi p
 by_cases hlt:i < xs.length
 ·refine .inr ⟨⟨xs,xs[i],q,by simp[hlt]⟩,Pv (i + 1),λσ' H' p'=>⟨xs.length - (i + 1),by omega,rfl,hlt,p'⟩,λx H' y=>?_⟩
  obtain⟨e,y⟩:=y
  subst e
  exact hs i x σ _ (y xs q) p
 ·have e:i=xs.length:=by omega
  subst e
  exact .inl ⟨⟨xs,q,Hv _⟩,hd σ H p⟩
def zG {K:Frag}{a:Addr}{xs:List V}{g:TG}{tb:TS}{D:Ends}{σ:St}{H:Hp}(Pv:Nat->St->Hp->Prop)(h0:Pv 0 σ H)(hl:∀i σ H,i<=xs.length->Pv i σ H->eB K H a xs)
  (hs:∀i x σ H,xs[i]? =some x->Pv i σ H->g x σ H λσ2 H2=>tb {D with nx:=Pv (i + 1),ct:=Pv (i + 1),bk:=D.nx} σ2 H2) (hd:∀σ H,Pv xs.length σ H->D.nx σ H) :
  ∃W:Nat->Nat->St->Hp->Prop,(∃m,W 0 m σ H)/\∀i m σ H,W i m σ H->
   ((BF K a).stop i H/\D.nx σ H)\/((BF K a).go i H/\∃N:St->Hp->Prop,(∀σ' H',N σ' H'->∃m',m' < m/\W (i + 1) m' σ' H')/\∀x H',(BF K a).yld i H x H'->g x σ H' λσ2 H2=>tb {D with nx:=N,ct:=N,bk:=D.nx} σ2 H2):=by
 refine⟨λi m σ H=>m=xs.length - i/\i<=xs.length/\Pv i σ H,⟨xs.length,by simp,Ij _,h0⟩,?_⟩
 rintro i m σ H ⟨rfl,hi,p⟩
 have q:=hl i σ H hi p
 by_cases hlt:i < xs.length
 ·refine .inr ⟨⟨xs,xs[i],q,by simp[hlt]⟩,Pv (i + 1),λσ' H' p'=>⟨xs.length - (i + 1),by omega,rfl,hlt,p'⟩,λx H' y=>?_⟩
  obtain⟨e,y⟩:=y
  subst e
  exact hs i x σ _ (y xs q) p
 ·have e:i=xs.length:=by omega
  subst e
  exact .inl ⟨⟨xs,q,Hv _⟩,hd σ H p⟩
def v9 {lo:Int}{n:Nat}{g:TG}{tb:TS}{D:Ends}{σ:St}{H:Hp}(Pv:Nat->St->Hp->Prop)(h0:Pv 0 σ H)
  (hs:∀i σ H,i < n->Pv i σ H->g (.int (lo + i)) σ H λσ2 H2=>tb {D with nx:=Pv (i + 1),ct:=Pv (i + 1),bk:=D.nx} σ2 H2) (hd:∀σ H,Pv n σ H->D.nx σ H) :
  ∃W:Nat->Nat->St->Hp->Prop,(∃m,W 0 m σ H)/\∀i m σ H,W i m σ H->
   ((xJ lo n).stop i H/\D.nx σ H)\/((xJ lo n).go i H/\∃N:St->Hp->Prop,(∀σ' H',N σ' H'->∃m',m' < m/\W (i + 1) m' σ' H')/\∀x H',(xJ lo n).yld i H x H'->g x σ H' λσ2 H2=>tb {D with nx:=N,ct:=N,bk:=D.nx} σ2 H2):=by
 refine⟨λi m σ H=>m=n - i/\i<=n/\Pv i σ H,⟨n,by simp,Ij _,h0⟩,?_⟩
 rintro i m σ H ⟨rfl,hi,p⟩
 by_cases hlt:i < n
 ·refine .inr ⟨hlt,Pv (i + 1),λσ' H' p'=>⟨n - (i + 1),by omega,rfl,hlt,p'⟩,λx H' y=>?_⟩
  obtain⟨e,y⟩:=y
  subst e y
  exact hs i σ _ hlt p
 ·have e:i=n:=by omega
  subst e
  exact .inl ⟨Hv _,hd σ H p⟩
abbrev R2:=V->V->Hp->VK->Prop
def jz (X:Cx)(f:Value->Value->Sem Value)(r:R2):Prop:=
 ∀(pins:List (Addr×Obj)) (s:Shared) (σ:St) (H:Hp) (x y:V) (v u:Value) (Q:VK),Inv X pins σ H s->RelV x v->RelV y u->r x y H Q->
  wpAny (model X.prog X.w) X.A (f v u) (EP X pins σ Q) X.xe s
def Fi (X:Cx)(f:Value->Sem Value)(r:V->Hp->VK->Prop):Prop:=
 ∀(pins:List (Addr×Obj)) (s:Shared) (σ:St) (H:Hp) (x:V) (v:Value) (Q:VK),Inv X pins σ H s->RelV x v->r x H Q->
  wpAny (model X.prog X.w) X.A (f v) (EP X pins σ Q) X.xe s
def bQ (X:Cx)(f:Value)(r:List V->Hp->VK->Prop):Prop:=
 ∀(pins:List (Addr×Obj)) (s:Shared) (σ:St) (H:Hp) (xs:List V) (us:List Value) (Q:VK),Inv X pins σ H s->Vals xs us->r xs H Q->
  wpAny (model X.prog X.w) X.A (call f us) (EP X pins σ Q) X.xe s
def FP (X:Cx)(r:V->Hp->(Bool->Hp->Prop)->Prop):Prop:=
 ∀(pins:List (Addr×Obj)) (s:Shared) (σ:St) (H:Hp) (x:V) (v:Value) (Q:Bool->Hp->Prop),Inv X pins σ H s->RelV x v->r x H Q->
  wpAny (model X.prog X.w) X.A (truthy v) (TP X pins σ Q) X.xe s
def Fg (r:R2)(ta tb:TE):TE:=λσ H Q=>ta σ H λx H1=>tb σ H1 λy H2=>r x y H2 Q
def Hk (r:V->Hp->VK->Prop)(ta:TE):TE:=λσ H Q=>ta σ H λx H1=>r x H1 Q
def rI (C:Int->Int->Prop)(g:Int->Int->V):R2:=λx y H Q=>∃i j,x=.int i/\y=.int j/\C i j/\Q (g i j) H
def xr (g:Int->Int->V):R2:=λx y H Q=>∃i j,x=.int i/\y=.int j/\Q (g i j) H
def rU (g:Int->V):V->Hp->VK->Prop:=λx H Q=>∃i,x=.int i/\Q (g i) H
section
variable {X:Cx}{a b c:Expr}{ta tb tc:TE}{pos:Pos}
def Cm (ha:PE X a ta)(hb:PE X b tb){pins:List (Addr×Obj)}{s:Shared}{σ:St}{H:Hp}{R:V->V->Hp->Prop}(I:Inv X pins σ H s)
  (h:ta σ H λx H1=>tb σ H1 λy H2=>R x y H2) {Q:Value->Shared->Prop} {f:Value->Value->Sem Value}
  (hf:∀v u s2 x y H2,Inv X pins σ H2 s2->RelV x v->RelV y u->R x y H2->wpAny (model X.prog X.w) X.A (f v u) Q X.xe s2) :
  wpAny (model X.prog X.w) X.A (eval a X.env) (λv s₁=>wpAny (model X.prog X.w) X.A (eval b X.env) (λu s₂=>wpAny (model X.prog X.w) X.A (f v u) Q X.xe s₂) X.xe s₁) X.xe s:=by
 refine bB (ha pins s σ H _ I h) λv s1 ⟨x,H1,I1,r1,q1⟩=>?_
 refine bB (hb pins s1 σ H1 _ I1 q1) λu s2 ⟨y,H2,I2,r2,q2⟩=>?_
 exact hf v u s2 x y H2 I2 r1 r2 q2
def lC {op:Operator}{r:R2}(ho:jz X (binaryOp op) r)(ha:PE X a ta)(hb:PE X b tb):PE X (.BinOp a op b pos) (Fg r ta tb):=by
 intro pins s σ H Q I h
 exact wpAny_BinOp (Cm ha hb I h λv u s2 x y H2 I2 rx ry q=>ho pins s2 σ H2 x y v u Q I2 rx ry q)
def ET {op:UnaryOp}{r:V->Hp->VK->Prop}(ho:Fi X (unaryOp op) r)(ha:PE X a ta):PE X (.UnaryOp op a pos) (Hk r ta):=by
 intro pins s σ H Q I h
 exact UnaryOp_ (bB (ha pins s σ H _ I h) λv s1 ⟨x,H1,I1,r1,q1⟩=>ho pins s1 σ H1 x v Q I1 r1 q1)
def Fq {f:Value->Value->Sem Value}{C:Int->Int->Prop}{g:Int->Int->Int}
  (rule:∀(i j:Int) (t u:Tok) (s:Shared) (Q:Value->Shared->Prop) (E:Value->Shared->Prop),C i j->Q (.int (g i j) s.toks) {s with toks:=s.toks + 1}->wpAny (model X.prog X.w) X.A (f (.int i t) (.int j u)) Q E s) :
  jz X f (rI C λi j=>.int (g i j)):=by
 intro pins s σ H x y v u Q I rx ry h
 obtain⟨i,j,rfl,rfl,hc,q⟩:=h
 obtain⟨t,rfl⟩:=rx
 obtain⟨t',rfl⟩:=ry
 exact rule i j t t' s _ _ hc ⟨.int (g i j),H,I.tok _,⟨_,rfl⟩,q⟩
def FG {f:Value->Value->Sem Value}{g:Int->Int->Int}
  (rule:∀(i j:Int) (t u:Tok) (s:Shared) (Q:Value->Shared->Prop) (E:Value->Shared->Prop),Q (.int (g i j) s.toks) {s with toks:=s.toks + 1}->wpAny (model X.prog X.w) X.A (f (.int i t) (.int j u)) Q E s) :
  jz X f (xr λi j=>.int (g i j)):=by
 intro pins s σ H x y v u Q I rx ry h
 obtain⟨i,j,rfl,rfl,q⟩:=h
 obtain⟨t,rfl⟩:=rx
 obtain⟨t',rfl⟩:=ry
 exact rule i j t t' s _ _ ⟨.int (g i j),H,I.tok _,⟨_,rfl⟩,q⟩
def Cu {f:Value->Value->Sem Value}{g:Int->Int->Bool}
  (rule:∀(i j:Int) (t u:Tok) (s:Shared) (Q:Value->Shared->Prop) (E:Value->Shared->Prop),Q (.bool (g i j)) s->wpAny (model X.prog X.w) X.A (f (.int i t) (.int j u)) Q E s) :
  jz X f (xr λi j=>.bl (g i j)):=by
 intro pins s σ H x y v u Q I rx ry h
 obtain⟨i,j,rfl,rfl,q⟩:=h
 obtain⟨t,rfl⟩:=rx
 obtain⟨t',rfl⟩:=ry
 exact rule i j t t' s _ _ ⟨.bl (g i j),H,I,rfl,q⟩
def Ab (i j:Int):Prop:=0 < j/\j < 1073741824
def CD (i j:Int):Prop:=0<=j/\j<=1000000/\i.natAbs < 2 ^ 64
def xR (i j:Int):Prop:=(-(2 ^ 64) < i/\i < 2 ^ 64)\/(-(2 ^ 64) < j/\j < 2 ^ 64)
def xR.ok {i j:Int}(h:xR i j):IntMulOk i j:=by
 rcases h with⟨h1,h2⟩ | ⟨h1,h2⟩
 ·exact .of_left (intBits_le_64 h1 h2)
 ·exact .of_right (intBits_le_64 h1 h2)
def ig:jz X (binaryOp .Add) (xr λi j=>.int (i + j)):=FG λ_ _ _ _ _ _ _ q=>add_int q
def gz:jz X (binaryOp .Mult) (rI xR λi j=>.int (i * j)):=Fq λ_ _ _ _ _ _ _ hc q=>mul_int q hc.ok
def jc:jz X (binaryOp .FloorDiv) (rI Ab λi j=>.int (i / j)):=Fq λi j _ _ _ _ _ hc q=>by
 have h1:(0:Int) < j:=hc.1
 have h2:j < 1073741824:=hc.2
 exact floordiv_int (by omega) (by rw[Int.fdiv_eq_ediv_of_nonneg i (by omega)];exact q) (.inl (PyProof.noPylong_small (by omega)))
def iC:jz X (binaryOp .Mod) (rI (λ_ j=>0 < j) λi j=>.int (i % j)):=Fq λi j _ _ _ _ _ hc q=>by
 have h1:(0:Int) < j:=hc
 exact mod_int' (by omega) (by rw[Int.fmod_eq_emod_of_nonneg i (by omega)];exact q)
def CF:jz X (binaryOp .Pow) (rI CD λi j=>.int (i ^ j.toNat)):=Fq λ_ _ _ _ _ _ _ hc q=>pow_int_small hc.1 hc.2.1 hc.2.2 q
def Hm {f:Value->Sem Value}{g:Int->Int}
  (rule:∀(i:Int) (t:Tok) (s:Shared) (Q:Value->Shared->Prop) (E:Value->Shared->Prop),Q (.int (g i) s.toks) {s with toks:=s.toks + 1}->wpAny (model X.prog X.w) X.A (f (.int i t)) Q E s) :
  Fi X f (rU λi=>.int (g i)):=by
 intro pins s σ H x v Q I rx h
 obtain⟨i,rfl,q⟩:=h
 obtain⟨t,rfl⟩:=rx
 exact rule i t s _ _ ⟨.int (g i),H,I.tok _,⟨_,rfl⟩,q⟩
def yn:Fi X (unaryOp .USub) (rU λi=>.int (-i)):=Hm λ_ _ _ _ _ q=>neg_int q
end
def Gr:V->V->Bool
 | .non,.non=>true | .non,.int _=>true | .int _,.non=>true | .non,.bl _=>true | .bl _,.non=>true | .non,.str _=>true | .str _,.non=>true
 | .int _,.int _=>true | .bl _,.bl _=>true | .str _,.str _=>true | .byt _,.byt _=>true
 | .int _,.str _=>true | .str _,.int _=>true | .bl _,.str _=>true | .str _,.bl _=>true
 |_,_=>false
def GQ:R2:=λx y H Q=>Gr x y=true/\Q (.bl (!decide (x=y))) H
def AZ {i j:Int}:decide (V.int i=V.int j)=(i == j):=by
 rw[Jf]
 simp
def B9 {i j:Bool}:decide (V.bl i=V.bl j)=(i == j):=by
 rw[Jf]
 simp
def A1 {i j:Str}:decide (V.str i=V.str j)=(i == j):=by
 rw[Jf]
 simp
def zx {i j:Array UInt8}:decide (V.byt i=V.byt j)=(i.toList == j.toList):=by
 rw[Jf]
 cases i
 cases j
 simp
section
variable {X:Cx}{a b c:Expr}{ta tb tc:TE}{pos:Pos}
def cf {pins:List (Addr×Obj)}{σ:St}{H:Hp}{s:Shared}{Q:VK}{k k':Bool}(I:Inv X pins σ H s)(q:Q (.bl k) H)(e:k=k'):EP X pins σ Q (.bool k') s:=by
 subst e
 exact⟨.bl k,H,I,rfl,q⟩
theorem BC:jz X (compareOp .NotEq) GQ:=by
 intro pins s σ H x y v u Q I rx ry h
 obtain⟨hs,q⟩:=h
 cases x with
 |non=>
  cases rx
  cases y with
  |non=>cases ry;exact PySem.EqNone.ne_none_none (cf I q (by simp))
  |bl j=>cases ry;exact PySem.EqNone.ne_none_bool (cf I q (by simp))
  |int j=>obtain⟨t',rfl⟩:=ry;exact PySem.EqNone.ne_none_int (cf I q (by simp))
  |str j=>obtain⟨t',rfl⟩:=ry;exact PySem.EqNone.ne_none_str (cf I q (by simp))
  |_=>exact absurd (show false=true from hs) HU
 |bl i=>
  cases rx
  cases y with
  |non=>cases ry;exact PySem.EqNone.ne_bool_none (cf I q (by simp))
  |bl j=>cases ry;exact ne_bool (cf I q (congrArg not B9))
  |str j=>obtain⟨t',rfl⟩:=ry;exact PySem.EqMixed.ne_bool_str (cf I q (by simp))
  |_=>exact absurd (show false=true from hs) HU
 |int i=>
  obtain⟨t,rfl⟩:=rx
  cases y with
  |non=>cases ry;exact PySem.EqNone.ne_int_none (cf I q (by simp))
  |int j=>obtain⟨t',rfl⟩:=ry;exact ne_int (cf I q (congrArg not AZ))
  |str j=>obtain⟨t',rfl⟩:=ry;exact PySem.EqMixed.ne_int_str (cf I q (by simp))
  |_=>exact absurd (show false=true from hs) HU
 |str i=>
  obtain⟨t,rfl⟩:=rx
  cases y with
  |non=>cases ry;exact PySem.EqNone.ne_str_none (cf I q (by simp))
  |bl j=>cases ry;exact PySem.EqMixed.ne_str_bool (cf I q (by simp))
  |int j=>obtain⟨t',rfl⟩:=ry;exact PySem.EqMixed.ne_str_int (cf I q (by simp))
  |str j=>obtain⟨t',rfl⟩:=ry;exact ne_str (cf I q (congrArg not A1))
  |_=>exact absurd (show false=true from hs) HU
 |byt i=>
  obtain⟨t,rfl⟩:=rx
  cases y with
  |byt j=>obtain⟨t',rfl⟩:=ry;exact PySem.W.ne_bytes (cf I q (congrArg not zx))
  |_=>exact absurd (show false=true from hs) HU
 |_=>cases y <;> exact absurd (show false=true from hs) HU
def Bs:jz X (compareOp .Lt) (xr λi j=>.bl (decide (i < j))):=Cu λ_ _ _ _ _ _ _ q=>lt_int q
def yk:jz X (compareOp .LtE) (xr λi j=>.bl (decide (i<=j))):=Cu λ_ _ _ _ _ _ _ q=>le_int q
def DY:jz X (compareOp .Gt) (xr λi j=>.bl (decide (j < i))):=Cu λ_ _ _ _ _ _ _ q=>gt_int q
def bG (b:Expr){op:CmpOp}(h:op≠.In:=by decide)(h2:op≠.NotIn:=by decide):behindInMarks op b=false:=by
 have e1:(op == CmpOp.In)=false:=by cases op <;> first |rfl |exact absurd rfl h
 have e2:(op == CmpOp.NotIn)=false:=by cases op <;> first |rfl |exact absurd rfl h2
 cases b <;> simp[behindInMarks,e1,e2]
def AH {op:CmpOp}{r:R2}(ho:jz X (compareOp op) r)(ha:PE X a ta)(hb:PE X b tb)(hm:behindInMarks op b=false):PE X (.Compare a [op] [b] pos) (Fg r ta tb):=by
 intro pins s σ H Q I h
 exact wpAny_Compare1 (Cm ha hb I h λv u s2 x y H2 I2 rx ry q=>ho pins s2 σ H2 x y v u Q I2 rx ry q) hm
def ES (t:TE):TT:=λσ H Q=>t σ H λx H'=>∃k,x=.bl k/\Q k H'
def uF {op:CmpOp}{r:R2}(ho:jz X (compareOp op) r)(ha:PE X a ta)(hb:PE X b tb)(hm:behindInMarks op b=false):PT X (.Compare a [op] [b] pos) (ES (Fg r ta tb)):=by
 intro pins s σ H Q I h
 refine wpAny_isTrue_Compare1 (bB (ha pins s σ H _ I h) λv s1 ⟨x,H1,I1,r1,q1⟩=>bB (hb pins s1 σ H1 _ I1 q1) λu s2 ⟨y,H2,I2,r2,q2⟩=>
  bB (ho pins s2 σ H2 x y v u _ I2 r1 r2 q2) λc s3 ⟨z,H3,I3,r3,k,e,q3⟩=>?_) hm
 subst e
 cases r3
 exact Ji ⟨H3,I3,q3⟩
def Cd (r r':R2)(ta tb tc:TE):TE:=λσ H Q=>ta σ H λx H1=>tb σ H1 λy H2=>r x y H2 λz H3=>∃k,z=.bl k/\
 (if k=true then tc σ H3 λw' H4=>r' y w' H4 Q else Q (.bl false) H3)
theorem xA {op op':CmpOp}{r r':R2}(ho:jz X (compareOp op) r)(ho':jz X (compareOp op') r')(ha:PE X a ta)(hb:PE X b tb)(hc:PE X c tc)
  (hm:lastMarks [op,op'] [b,c]=false:=by with_unfolding_all rfl):PE X (.Compare a [op,op'] [b,c] pos) (Cd r r' ta tb tc):=by
 intro pins s σ H Q I h
 refine Compare_chain (bB (ha pins s σ H _ I h) λv s1 ⟨x,H1,I1,r1,q1⟩=>chain_link (bB (hb pins s1 σ H1 _ I1 q1) λu s2 ⟨y,H2,I2,r2,q2⟩=>
  bB (ho pins s2 σ H2 x y v u _ I2 r1 r2 q2) λd s3 ⟨z,H3,I3,r3,k,e,q3⟩=>?_)) hm
 subst e
 cases r3
 refine Ji ?_
 cases k with
 |false=>exact ite_ff ⟨.bl false,H3,I3,rfl,q3⟩
 |true=>exact ite_tt (chain_last (bB (hc pins s3 σ H3 _ I3 q3) λw' s4 ⟨z',H4,I4,r4,q4⟩=>ho' pins s4 σ H4 y z' u w' Q I4 r2 r4 q4))
def E6 (K:Frag)(x:V)(H:Hp)(k:Bool):Prop:=
 match x with
 | .non=>k=false
 | .bl b=>k=b
 | .int i=>k=(i != 0)
 | .str y=>y.length<=sizeLine/\k=((y.length:Int) != 0)
 | .byt y=>y.size<=sizeLine/\k=((y.size:Int) != 0)
 | .ref p=>(∃xs,dI K H p xs/\k= !xs.isEmpty)\/(∃xs,eB K H p xs/\k= !xs.isEmpty)\/∃kvs,H p=some (.dK kvs)/\k= !kvs.isEmpty
 |_=>False
def sk {κ:Type}{kvs:List (κ×V)}{vs:List (κ×Value)}(r:KV kvs vs):(!vs.isEmpty)= !kvs.isEmpty:=by
 cases r <;> rfl
def kX {xs:List V}{its:List Value}(r:Vals xs its):(!its.toArray.isEmpty)= !xs.isEmpty:=by
 cases r <;> simp
def jq:(sizeLine:Nat) < 2 ^ 63:=by rw[Ik];decide
theorem DD:FP X (λx H Q=>∃k,E6 X.K x H k/\Q k H):=by
 intro pins s σ H x v Q I rx h
 obtain⟨k,e,q⟩:=h
 have hl:=jq
 have hs:sizeLine=16777216:=Ik
 cases x with
 |non=>
  cases rx
  have e':k=false:=e
  subst e'
  exact truthy_none ⟨H,I,q⟩
 |bl b=>
  cases rx
  have e':k=b:=e
  subst e'
  exact Ji ⟨H,I,q⟩
 |int i=>
  obtain⟨t,rfl⟩:=rx
  have e':k=(i != 0):=e
  subst e'
  exact PySem.P.truthy_int ⟨H,I,q⟩
 |str y=>
  obtain⟨t,rfl⟩:=rx
  obtain⟨hy,e'⟩:y.length<=sizeLine/\k=((y.length:Int) != 0):=e
  subst e'
  exact PySem.P.truthy_str (by omega) ⟨H,I.tok _,q⟩
 |byt y=>
  obtain⟨t,rfl⟩:=rx
  obtain⟨hy,e'⟩:y.size<=sizeLine/\k=((y.size:Int) != 0):=e
  subst e'
  exact PySem.W.truthy_bytes (by omega) ⟨H,I.tok _,q⟩
 |ref p=>
  cases rx
  have e':(∃xs,dI X.K H p xs/\k= !xs.isEmpty)\/(∃xs,eB X.K H p xs/\k= !xs.isEmpty)\/∃kvs,H p=some (.dK kvs)/\k= !kvs.isEmpty:=e
  rcases e' with⟨xs,hx,e'⟩ | ⟨xs,hx,e'⟩ | ⟨kvs,hx,e'⟩
  ·subst e'
   obtain⟨its,r,pl,hz⟩:=I.list hx
   have hlen:=r.length
   exact wpAny_truthy_list pl.isList (by simp only[HJ];omega) ⟨H,I.tok _,by rw[kX r];exact q⟩
  ·subst e'
   obtain⟨its,r,pl,hz⟩:=I.tuple hx
   have hlen:=r.length
   exact truthy_tuple pl (by simp only[HJ];omega) ⟨H,I.tok _,by rw[kX r];exact q⟩
  ·subst e'
   obtain⟨hz,hS,vs,r,m⟩:kvs.length<=sizeLine/\(p == sysModules)=false/\∃vs,KV kvs vs/\s.heap.DictOf (b4 X.prog X.w) p vs:=I.hok p _ hx
   have hlen:kvs.length=vs.length:=Paired.length r
   exact wpAny_truthy_dict hS m (by omega) ⟨H,I.tok _,by rw[sk r];exact q⟩
 |_=>exact (show False from e).elim
def ya (ha:PE X a ta)(he:∀whole,isTrue a X.env whole=(do let v <-whole;standAt a.pos;holding [v] (truthy v))) :
  PT X a (λσ H Q=>ta σ H λx H'=>∃k,E6 X.K x H' k/\Q k H'):=by
 intro pins s σ H Q I h
 exact isTrue_plain (bB (ha pins s σ H _ I h) λv s1 ⟨x,H1,I1,r1,q1⟩=>DD pins s1 σ H1 x v Q I1 r1 q1) (he _)
theorem vals1 {x:V}{us:List Value}(r:Vals [x] us):∃u,us= [u]/\RelV x u:=by
 cases r with
 |cons r1 r2=>cases r2;exact⟨_,rfl,r1⟩
theorem vals2 {x y:V}{us:List Value}(r:Vals [x,y] us):∃u w',us= [u,w']/\RelV x u/\RelV y w':=by
 cases r with
 |cons r1 r2=>
  cases r2 with
  |cons r3 r4=>cases r4;exact⟨_,_,rfl,r1,r3⟩
def xp:bQ X (.builtin "abs") (λxs H Q=>∃i,xs= [.int i]/\Q (.int (if i < 0 then -i else i)) H):=by
 intro pins s σ H xs us Q I r h
 obtain⟨i,rfl,q⟩:=h
 obtain⟨u,rfl,t,rfl⟩:=vals1 r
 exact call_abs_int λu tk=>⟨.int (if i < 0 then -i else i),H,I.tok _,⟨_,rfl⟩,q⟩
def nv (hc:X.calm=true):bQ X (.builtin "max") (λxs H Q=>∃i j,xs= [.int i,.int j]/\Q (.int (if j > i then j else i)) H):=by
 intro pins s σ H xs us Q I r h
 obtain⟨i,j,rfl,q⟩:=h
 obtain⟨u,w',rfl,⟨t,rfl⟩,⟨t',rfl⟩⟩:=vals2 r
 refine max_two_ints (I.ok.hd hc) λh' tk k=>⟨_,H,I.kept k,?_,q⟩
 by_cases hj:j > i
 ·rw[Hs hj,Hs hj];exact⟨_,rfl⟩
 ·rw[Ht hj,Ht hj];exact⟨_,rfl⟩
def mM (hc:X.calm=true):bQ X (.builtin "min") (λxs H Q=>∃i j,xs= [.int i,.int j]/\Q (.int (if j < i then j else i)) H):=by
 intro pins s σ H xs us Q I r h
 obtain⟨i,j,rfl,q⟩:=h
 obtain⟨u,w',rfl,⟨t,rfl⟩,⟨t',rfl⟩⟩:=vals2 r
 refine min_two_ints (I.ok.hd hc) λh' tk k=>⟨_,H,I.kept k,?_,q⟩
 by_cases hj:j < i
 ·rw[Hs hj,Hs hj];exact⟨_,rfl⟩
 ·rw[Ht hj,Ht hj];exact⟨_,rfl⟩
def Eu (K:Frag)(x:V)(H:Hp)(n:Nat):Prop:=
 match x with
 | .str y=>y.length<=sizeLine/\n=y.length
 | .byt y=>y.size<=sizeLine/\n=y.size
 | .ref p=>(∃xs,dI K H p xs/\n=xs.length)\/∃xs,eB K H p xs/\n=xs.length
 |_=>False
theorem dz:bQ X (.builtin "len") (λxs H Q=>∃x n,xs= [x]/\Eu X.K x H n/\Q (.int n) H):=by
 intro pins s σ H xs us Q I r h
 obtain⟨x,n,rfl,e,q⟩:=h
 obtain⟨u,rfl,rx⟩:=vals1 r
 have hl:=jq
 have hs:sizeLine=16777216:=Ik
 cases x with
 |str y=>
  obtain⟨t,rfl⟩:=rx
  obtain⟨hy,e'⟩:y.length<=sizeLine/\n=y.length:=e
  subst e'
  exact len_str (by omega) ⟨.int _,H,I.tok _,⟨_,rfl⟩,q⟩
 |byt y=>
  obtain⟨t,rfl⟩:=rx
  obtain⟨hy,e'⟩:y.size<=sizeLine/\n=y.size:=e
  subst e'
  exact PySem.W.len_bytes (by omega) ⟨.int _,H,I.tok _,⟨_,rfl⟩,q⟩
 |ref p=>
  cases rx
  have e':(∃xs,dI X.K H p xs/\n=xs.length)\/∃xs,eB X.K H p xs/\n=xs.length:=e
  rcases e' with⟨xs,hx,e'⟩ | ⟨xs,hx,e'⟩
  ·subst e'
   obtain⟨its,r',pl,hz⟩:=I.list hx
   have hlen:=r'.length
   exact Calls.call_len_list pl.isList (by simp only[HJ];omega) ⟨.int xs.length,H,I.tok _,⟨_,by simp only[HJ];rw[hlen]⟩,q⟩
  ·subst e'
   obtain⟨its,r',pl,hz⟩:=I.tuple hx
   have hlen:=r'.length
   exact len_tuple pl (by simp only[HJ];omega) ⟨.int xs.length,H,I.tok _,⟨_,by simp only[HJ];rw[hlen]⟩,q⟩
 |_=>exact (show False from e).elim
def pS:bQ X (.builtin "divmod") (λxs H Q=>∃i j,xs= [.int i,.int j]/\Ab i j/\∀p,H p=none->Q (.ref p) (upd H p (.tup [.int (i / j),.int (i % j)]))):=by
 intro pins s σ H xs us Q I r h
 obtain⟨i,j,rfl,⟨h1,h2⟩,q⟩:=h
 obtain⟨u,w',rfl,⟨t,rfl⟩,⟨t',rfl⟩⟩:=vals2 r
 refine divmod_int (by omega) ?_ (.inl (PyProof.noPylong_small (by omega)))
 rw[Int.fdiv_eq_ediv_of_nonneg i (by omega),Int.fmod_eq_emod_of_nonneg i (by omega)]
 have hn:H s.heap.objs.size=none:=I.hok.fresh (Hv _)
 refine⟨.ref s.heap.objs.size,_,?_,rfl,q _ hn⟩
 refine I.laid (λb o e=>Hx _ e) (Hv _) ⟨by simp only[HQ,Js];rw[Ik];decide,[.int (i / j) s.toks,.int (i % j) (s.toks + 1)],.cons ⟨_,rfl⟩ (.cons ⟨_,rfl⟩ .nil),?_⟩
 exact⟨_,HR s.heap rfl,rfl,0,rfl,rfl⟩
end
structure DA (h:Heap)(x dx C:Addr)(mA:Str->Option Value):Prop where
 obj:h.get? x=some (PySem.W.instObj C dx)
 ns:h.Ns1 dx mA
 ne:dx≠x
def vm {h:Heap}{dx:Addr}{mA:Str->Option Value}(n:h.Ns1 dx mA):∃od,h.get? dx=some od/\∀name,PySem.W.lookIn name od=some (mA name):=by
 obtain⟨o,es,ep,ho,hd,hk,_,hm⟩:=n
 refine⟨o,ho,λname=>?_⟩
 have e:=hm name
 unfold nsFind findBy at e
 rw[<-Array.find?_toList] at e
 unfold PySem.W.lookIn
 rw[hd]
 dsimp only
 split
 ·rename_i y q
  rw[q] at e
  exact congrArg some e
 ·rename_i q
  rw[q] at e
  have a:es.toList.any (·.refKey)=false:=by
   rw[List.any_eq_false]
   intro y hy
   obtain⟨z,t,hkey⟩:=hk y (JK.mp hy)
   simp[DictEntry.refKey,hkey]
  have a':¬es.toList.any (·.refKey)=true:=by rw[a];exact HU
  rw[Ht a']
  exact congrArg some e
def DA.look {h:Heap}{x dx C:Addr}{mA:Str->Option Value}(I:DA h x dx C mA):∃od,PySem.W.InstAt h x (PySem.W.instObj C dx) C (some od)/\∀name,PySem.W.lookIn name od=some (mA name):=
 let ⟨od,ho,hl⟩:=vm I.ns
 ⟨od,⟨I.obj,rfl,rfl,ho⟩,hl⟩
section
variable {P:Program}{w:World}{H H':Hp}{h h':Heap}{a C dx:Addr}{fs fs':List (Str×V)}
def zH (hok:gx P w H h)(e:H a=some (.ins C dx fs)):∃mA,DA h a dx C mA/\(∀f,CN (fs.lookup f) (mA f))/\PySem.Within mA (fs.map (·.1))/\fs.length<=1000/\H dx=some (.own a):=by
 obtain⟨d,z,ne,ob,mA,n,r,q⟩:=(show aU P w H h a (.ins C dx fs) from hok a _ e)
 exact⟨mA,⟨ob,n,ne⟩,r,q,z,d⟩
end
structure Gv (K:Frag)(C:Addr):Prop where
 pg:PySem.W.plainGet K C Str.empty=true
 hd:PySem.W.hasDictIn K C=true
 po:PySem.W.plainOver K C=true
 sa:PySem.W.findIn K (.ref C) "__setattr__"=some (some (.builtin "object.__setattr__"))
def Gv.get {K:Frag}{C:Addr}(c:Gv K C)(f:Str):PySem.W.plainGet K C f=true:=c.pg
section
variable {X:Cx}{pins:List (Addr×Obj)}{σ:St}{H:Hp}{s:Shared}{A:Around}{E:Value->Shared->Prop}{Q:Value->Shared->Prop}{c:Value}{b:Bool}
inductive jQ (K:Frag)(H:Hp):V->Value->Prop where
 |non:jQ K H .non (.type "NoneType")
 |bl (x:Bool):jQ K H (.bl x) (.type "bool")
 |int (i:Int):jQ K H (.int i) (.type "int")
 |str (x:Str):jQ K H (.str x) (.type "str")
 |flt (x:UInt64):jQ K H (.flt x) (.type "float")
 |lst {a:Addr} {xs:List V} (e:H a=some (.lst xs)):jQ K H (.ref a) (.type "list")
 |aJ {a:Addr} {o:Obj} {xs:List V} (e:H a=some (.aJ o (.lst xs))):jQ K H (.ref a) (.type "list")
 |tup {a:Addr} {xs:List V} (e:H a=some (.tup xs)):jQ K H (.ref a) (.type "tuple")
 |dK {a:Addr} {kvs:List (Key×V)} (e:H a=some (.dK kvs)):jQ K H (.ref a) (.type "dict")
 |dT {a:Addr} {kvs:List (List Key×V)} {ep:Nat} (e:H a=some (.dT kvs ep)):jQ K H (.ref a) (.type "dict")
 |ins {a C dx:Addr} {fs:List (Str×V)} (e:H a=some (.ins C dx fs)) (cl:Gv K C) (ha:PySem.W.findIn K (.ref C) "__class__"=some (some (.builtin "object.__class__")))
   (hn:PySem.W.specialIn K (.builtin "object.__class__") "__get__"=some (some (.builtin "getset_descriptor.__get__"))) (htk:PySem.W.takesIn K (.builtin "object.__class__")=some true)
   (hm:PySem.W.mroIn K C (.type "object")=some true):jQ K H (.ref a) (.ref C)
theorem fg {x:V}{u t:Value}(I:Inv X pins σ H s)(rx:RelV x u)(ty:jQ X.K H x t)(e:PySem.W.kitOne X.K t c=some b)(h:∀tk,Q (.bool b) {s with toks:=tk}) :
  wpAny (model X.prog X.w) A (call (.builtin "isinstance") [u,c]) Q E s:=by
 cases ty with
 |non=>cases (show u=Value.none from rx);exact ID PySem.W.kitx_none I.kIn True.intro e (λz=>nomatch z) h
 |bl y=>cases (show u=Value.bool y from rx);exact ID PySem.W.kitx_bool I.kIn True.intro e (λz=>nomatch z) h
 |int i=>obtain⟨t,q⟩:=(show ∃t,u=Value.int i t from rx);cases q;exact ID PySem.W.kitx_int I.kIn True.intro e (λz=>nomatch z) h
 |str y=>obtain⟨t,q⟩:=(show ∃t,u=Value.str y t from rx);cases q;exact ID PySem.W.kitx_str I.kIn True.intro e (λz=>nomatch z) h
 |flt y=>obtain⟨t,q⟩:=(show ∃t,u=Value.float y t from rx);cases q;exact ID PySem.W.kitx_float I.kIn True.intro e (λz=>nomatch z) h
 | @lst a xs ea=>
  cases (show u=Value.ref a from rx)
  obtain⟨_,_,n,_,h1⟩:=(show aU X.prog X.w H s.heap a (.lst xs) from I.hok a _ ea)
  exact ID PySem.W.kitx_list I.kIn ⟨_,h1,rfl⟩ e (λz=>nomatch z) h
 | @aJ a ob xs ea=>
  cases (show u=Value.ref a from rx)
  obtain⟨_,_,_,n,_,h1⟩:=(show aU X.prog X.w H s.heap a (.aJ ob (.lst xs)) from I.hok a _ ea)
  exact ID PySem.W.kitx_list I.kIn ⟨_,h1,rfl⟩ e (λz=>nomatch z) h
 | @tup a xs ea=>
  cases (show u=Value.ref a from rx)
  obtain⟨_,_,_,p⟩:=(show aU X.prog X.w H s.heap a (.tup xs) from I.hok a _ ea)
  obtain⟨o,h1,h2,_⟩:=p
  exact ID PySem.W.kitx_tuple I.kIn ⟨o,h1,h2⟩ e (λz=>nomatch z) h
 | @dK a kvs ea=>
  cases (show u=Value.ref a from rx)
  obtain⟨_,_,vs,_,p⟩:=(show aU X.prog X.w H s.heap a (.dK kvs) from I.hok a _ ea)
  obtain⟨o,es,ep,h1,h2,_⟩:=p
  exact ID PySem.W.kitx_dict I.kIn ⟨o,h1,h2.1⟩ e (λz=>nomatch z) h
 | @dT a kvs ep ea=>
  cases (show u=Value.ref a from rx)
  obtain⟨_,_,xs,_,o,es,h1,h2,_⟩:=(show aU X.prog X.w H s.heap a (.dT kvs ep) from I.hok a _ ea)
  exact ID PySem.W.kitx_dict I.kIn ⟨o,h1,h2.1⟩ e (λz=>nomatch z) h
 | @ins a C dx fs ea cl ha hn htk hm=>
  cases (show u=Value.ref a from rx)
  obtain⟨mA,O,_⟩:=zH I.hok ea
  obtain⟨od,J,_⟩:=O.look
  exact ID (PySem.W.kitx_own (cl.get _) cl.hd ha hn htk hm) I.kIn J e (λz=>nomatch z) h
end
structure cA (k:Nat)(A:Around):Prop where
 hd:A.handled=none
 dp:A.depth + 3 * k + 5 < recursionLimit
 un:A.units + 16 * k + 200 < cLine
 gd:A.guards=some []
def cA.mono {j k:Nat}{A:Around}(r:cA k A)(h:j<=k):cA j A:=⟨r.hd,by have:=r.dp;omega,by have:=r.un;omega,r.gd⟩
def cA.deeper {k:Nat}{A:Around}(r:cA (k + 1) A)(env:Env):cA k (A.deeper env):=
 ⟨r.hd,by have:=r.dp;show A.depth + 1 + 3 * k + 5 < _;omega,by have:=r.un;show A.units + 3 + 16 * k + 200 < _;omega,r.gd⟩
def cA.depth {k:Nat}{A:Around}(r:cA k A):A.depth < recursionLimit:=by have:=r.dp;omega
def cA.units {k:Nat}{A:Around}(r:cA k A):A.units + 64 < cLine:=by have:=r.un;omega
def FQ:TA:=λ_ H Q=>Q [] H
def EH (ta:TE)(tr:TA):TA:=λσ H Q=>ta σ H λx H1=>tr σ H1 λxs H2=>Q (x :: xs) H2
section
variable {X:Cx}{e:Expr}{es:List Expr}{te:TE}{t:TA}{pos:Pos}
def az:PA X [] FQ:=λ_ _ _ _ H Q I h=>Calls.spliced_nil ⟨[],H,I,.nil,h⟩
def ag (ha:PE X e te)(hr:PA X es t)(hs:starEach (e :: es) X.env=(false,eval e X.env) :: starEach es X.env:=by rfl):PA X (e :: es) (EH te t):=by
 intro pos pins s σ H Q I h
 rw[hs]
 show wpAny _ _ (spliced ((false,eval e X.env) :: backTo pos (starEach es X.env))) _ _ s
 refine Calls.spliced_cons (bB (ha pins s σ H _ I h) λu s1 ⟨x,H1,I1,r1,q1⟩=>?_)
 exact bB (hr pos pins s1 σ H1 _ I1 q1) λus s2 ⟨xs,H2,I2,r2,q2⟩=>⟨x :: xs,H2,I2,.cons r1 r2,q2⟩
def Gy (t:TA):TE:=λσ H Q=>t σ H λxs H1=>xs.length<=sizeLine/\∀p,H1 p=none->Q (.ref p) (upd H1 p (.tup xs))
def Gf (t:TA):TE:=λσ H Q=>t σ H λxs H1=>xs.length<=sizeLine/\∀p,H1 p=none->Q (.ref p) (upd H1 p (.lst xs))
def rP {x1}(h:PA X es t):PE X (.Tuple es x1 pos) (Gy t):=by
 intro pins s σ H Q I hq
 refine wpAny_Tuple_spliced (bB (h pos pins s σ H _ I hq) λus s1 ⟨xs,H1,I1,r,z,q⟩=>⟨by rw[<-r.length];exact z,?_⟩)
 have hf:H1 s1.heap.objs.size=none:=I1.hok.fresh (Hv _)
 refine⟨.ref s1.heap.objs.size,upd H1 s1.heap.objs.size (.tup xs),I1.laid (t':=s1.toks) (λb u e=>Hx _ e) (Hv _) ?_,rfl,q _ hf⟩
 exact⟨z,us,r,sP.new _ _⟩
def jw (h:PA X es t):PE X (.List es pos) (Gf t):=by
 intro pins s σ H Q I hq
 refine wpAny_List_spliced (bB (h pos pins s σ H _ I hq) λus s1 ⟨xs,H1,I1,r,z,q⟩=>⟨by rw[<-r.length];exact z,?_⟩)
 have hf:H1 s1.heap.objs.size=none:=I1.hok.fresh (Hv _)
 refine⟨.ref s1.heap.objs.size,upd H1 s1.heap.objs.size (.lst xs),I1.laid (t':=s1.toks) (λb u e=>Hx _ e) (Hv _) ?_,rfl,q _ hf⟩
 exact⟨z,us,0,r,HR _ rfl⟩
end
abbrev Sp:=List V->Hp->VK->XK->Prop
abbrev pH:=List Env->Hp->Shared->XK->Value->Shared->Prop
structure rF (P:Program)(w:World)(K:Frag)(mg:Str->Option Value)(base:Heap)(A:Around)(outer:List Env)(s:Shared)(H:Hp):Prop where
 frames:A.frames=some outer
 mod:Mod K mg base
 bs:∀b o,base.get? b=some o->s.heap.get? b=some o/\H b=none
 bsz:base.objs.size<=s.heap.objs.size
 funs:s.heap.FunFrames base outer
 frf:∀b∈cx outer,H b=none
 hok:gx P w H s.heap
 bare:AllBare s.gens
def CE (outer:List Env)(P:Program)(w:World)(H:Hp)(s:Shared)(Q:VK)(u:Value)(s':Shared):Prop:=
 ∃v H',s'.os=s.os/\AllBare s'.gens/\Un (cx outer) [] H H' s.heap s'.heap/\gx P w H' s'.heap/\RelV v u/\Q v H'
def CR (CX:pH)(outer:List Env)(P:Program)(w:World)(H:Hp)(s:Shared)(Q:VK)(E:XK)(r:Result)(s':Shared):Prop:=
 match r with
 | .ok (.ret u)=>CE outer P w H s Q u s'
 | .ok _=>False
 | .error e=>CX outer H s E e s'
structure cP (P:Program)(w:World)(K:Frag)(mg:Str->Option Value)(base:Heap)(CX:pH)(k:Nat)(f:Addr)(fd:FuncData)(ps:List Str)(sp:Sp):Prop where
 len:∀vs H Q E,sp vs H Q E->vs.length=ps.length
 run:∀(A:Around) (outer:List Env) (s:Shared) (H:Hp) (args:Args) (us:List Value) (vs:List V) (Q:VK) (E:XK),cA k A->rF P w K mg base A outer s H->BindsTo s fd args (ps.zip us)->Vals vs us->sp vs H Q E->
  codeAny (model P w) A (.call (.ref f) args) (CR CX outer P w H s Q E) s
def cP.mono {P:Program}{w:World}{K:Frag}{mg:Str->Option Value}{base:Heap}{CX:pH}{j k:Nat}{f:Addr}{fd:FuncData}{ps:List Str}{sp:Sp}(F:cP P w K mg base CX j f fd ps sp)(h:j<=k) :
  cP P w K mg base CX k f fd ps sp:=⟨F.len,λA outer s H args us vs Q E hr=>F.run A outer s H args us vs Q E (hr.mono h)⟩
def cP.imp {P:Program}{w:World}{K:Frag}{mg:Str->Option Value}{base:Heap}{CX:pH}{k:Nat}{f:Addr}{fd:FuncData}{ps:List Str}{sp sp':Sp}(F:cP P w K mg base CX k f fd ps sp)
  (h:∀vs H Q E,sp' vs H Q E->sp vs H Q E):cP P w K mg base CX k f fd ps sp':=
 ⟨λvs H Q E q=>F.len vs H Q E (h _ _ _ _ q),λA outer s H args us vs Q E hr he hb hv hs=>F.run A outer s H args us vs Q E hr he hb hv (h _ _ _ _ hs)⟩
section
variable {X:Cx}{pins:List (Addr×Obj)}{σ:St}{H:Hp}{s s':Shared}
def Inv.env0 (I:Inv X pins σ H s):rF X.prog X.w X.K X.mg X.base X.A X.stack s H:=
 ⟨I.ok.frames,I.ok.mod,I.bs,IF I.ok.bsz I.sz,I.stack,I.stkFree,I.hok,I.bare⟩
def Inv.after {Q:VK}{u:Value}(I:Inv X pins σ H s)(h:CE X.stack X.prog X.w H s Q u s'):EP X pins σ Q u s':=by
 obtain⟨v,H',os,bare,un,hok,r,q⟩:=h
 obtain⟨hh,g,d,t,os'⟩:=s'
 obtain rfl:os'=s.os:=os
 exact⟨v,H',I.call (h':=hh) (g':=g) (d':=d) (t':=t) (ch:=[]) un hok bare (λb z=>absurd z (by simp)),r,q⟩
end
def BJ (sp:Sp)(dvs:List V)(E:XK)(t:TA):TE:=λσ H Q=>t σ H λvs H1=>sp (vs ++ dvs) H1 Q E
def Binds (K:Frag)(fd:FuncData)(ps:List Str)(ds:List Value):Prop:=
 ∀(s:Shared) (us:List Value),K.In s.heap->(us ++ ds).length=ps.length->BindsTo s fd ⟨us,[]⟩ (ps.zip (us ++ ds))
def Binds.all {K:Frag}{fd:FuncData}{ps:List Str}(h:∀us:List Value,us.length=ps.length->bindArgs fd ⟨us,[]⟩=pure (ps.zip us)):Binds K fd ps []:=λs us _ hl=>by
 rw[Jt] at hl ⊢
 exact .of_eq (h us hl)
def Passes (CX:pH)(X:Cx)(E:XK):Prop:=∀(pins:List (Addr×Obj)) (σ:St) (H:Hp) (s:Shared) (e:Value) (s':Shared),Inv X pins σ H s->CX X.stack H s E e s'->X.xe e s'
section
variable {X:Cx}{CX:pH}{k:Nat}{f C:Addr}{fd:FuncData}{ps:List Str}{sp:Sp}{dvs:List V}{ds:List Value}{E:XK}{x m:Str}{p pos apos:Pos}{e o:Expr}{es:List Expr}{ta:TE}{t:TA}
theorem CI {pins:List (Addr×Obj)}{σ:St}{H:Hp}{s:Shared}{Q:VK}{us:List Value}{vs:List V}(F:cP X.prog X.w X.K X.mg X.base CX k f fd ps sp)(hr:cA k X.A)(hb:Binds X.K fd ps ds)(hd:Vals dvs ds)(hx:Passes CX X E)
  (I:Inv X pins σ H s) (r:Vals vs us) (h:sp (vs ++ dvs) H Q E):wpAny (model X.prog X.w) X.A (call (.ref f) us) (EP X pins σ Q) X.xe s:=by
 have r2:Vals (vs ++ dvs) (us ++ ds):=r.append hd
 have hl:(us ++ ds).length=ps.length:=by rw[<-r2.length];exact F.len _ _ _ _ h
 refine wpAny_call (J9 (F.run X.A X.stack s H ⟨us,[]⟩ (us ++ ds) (vs ++ dvs) Q E hr I.env0 (hb s us I.kIn hl) r2 h) λr s' hq=>?_)
 cases r with
 |error e=>exact hx pins σ H s e s' I hq
 |ok fl=>
  cases fl with
  |ret u=>exact I.after hq
  |next=>exact False.elim hq
  |brk=>exact False.elim hq
  |cont=>exact False.elim hq
def j5 (F:cP X.prog X.w X.K X.mg X.base CX k f fd ps sp)(hr:cA k X.A)(hg:Gl X x)(hm:X.mg x=some (.ref f))(hk:PySem.W.keepIn X.K (.ref f)=true)(hb:Binds X.K fd ps ds)(hd:Vals dvs ds)(hx:Passes CX X E)
  (ha:PA X (e :: es) t) (hdb:(x == ("__debug__":Str))=false:=by decide) (he:starEach (e :: es) X.env=(false,eval e X.env) :: starEach es X.env:=by rfl) (hpl:(backTo pos (starEach es X.env)).any (·.1)=false:=by rfl) :
  PE X (.Call (.Name x p) (e :: es) [] pos) (BJ sp dvs E t):=by
 intro pins s σ H Q I h
 refine Kn (jg I hg hm ?_ hdb)
 refine PySem.W.callWith_K (h₀:=X.base) I.ok.mod.kin hk (bB (ha pos pins s σ H _ I h) λus s1 ⟨vs,H1,I1,r,q⟩=>⟨I1.kIn,?_⟩) he hpl
 exact CI F hr hb hd hx I1 r q
end
structure aI (N P:List Str)(sc:Scope):Prop where
 kind:sc.kind=.function
 co:sc.isCoroutine=false
 gen:sc.isGenerator=false
 nd:N.Nodup
 pre:N.take P.length=P
 par:∀x∈P,sc.names.lookup x=some .local\/sc.names.lookup x=some .cell
 nofree:∀y∈sc.names,y.2≠.free
theorem mD {kindOf:Str->Option NameKind}{x:Str}:∀{binds:List (Str×Value)} {m:Str->Option Value},(∀v,(x,v)∉binds)->bindL kindOf binds m x=m x
 | [],_,_=>rfl
 | (n,v) :: r,m,h=>by
  unfold bindL
  rw[mD λw hw=>h w (Hz _ hw)]
  split
  ·have:x≠n:=by rintro rfl;exact h v HC
   simp[this]
  ·rfl
theorem mq {kindOf:Str->Option NameKind}{x:Str}:∀{binds:List (Str×Value)} {m:Str->Option Value},(∀v,(x,v)∉binds)->bindC kindOf binds m x=m x
 | [],_,_=>rfl
 | (n,v) :: r,m,h=>by
  unfold bindC
  rw[mq λw hw=>h w (Hz _ hw)]
  split
  ·rfl
  ·have:x≠n:=by rintro rfl;exact h v HC
   simp[this]
theorem mL {kindOf:Str->Option NameKind}{x:Str}{v:Value}:∀{P:List Str} {vs:List Value} {i:Nat} {m:Str->Option Value},P.Nodup->P[i]? =some x->vs[i]? =some v->kindOf x=some .local->
  bindL kindOf (P.zip vs) m x=some v
 | [],_,_,_,_,h,_,_=>by simp at h
 |_ :: _,[],_,_,_,_,h,_=>by simp at h
 |p :: P,w :: vs,0,m,nd,h1,h2,hk=>by
  simp at h1 h2;subst h1;subst h2
  show bindL kindOf ((p,w) :: P.zip vs) m p=_
  unfold bindL
  rw[mD λv hv=>(Ja.mp nd).1 (of_mem_zip hv).1,Hs hk]
  simp
 |p :: P,w :: vs,i + 1,m,nd,h1,h2,hk=>by
  show bindL kindOf ((p,w) :: P.zip vs) m x=_
  unfold bindL
  exact mL (i:=i) (Ja.mp nd).2 (by simpa using h1) (by simpa using h2) hk
theorem mX {kindOf:Str->Option NameKind}{x:Str}{v:Value}:∀{P:List Str} {vs:List Value} {i:Nat} {m:Str->Option Value},P.Nodup->P[i]? =some x->vs[i]? =some v->kindOf x≠some .local->
  bindC kindOf (P.zip vs) m x=some v
 | [],_,_,_,_,h,_,_=>by simp at h
 |_ :: _,[],_,_,_,_,h,_=>by simp at h
 |p :: P,w :: vs,0,m,nd,h1,h2,hk=>by
  simp at h1 h2;subst h1;subst h2
  show bindC kindOf ((p,w) :: P.zip vs) m p=_
  unfold bindC
  rw[mq λv hv=>(Ja.mp nd).1 (of_mem_zip hv).1,Ht hk]
  simp
 |p :: P,w :: vs,i + 1,m,nd,h1,h2,hk=>by
  show bindC kindOf ((p,w) :: P.zip vs) m x=_
  unfold bindC
  exact mX (i:=i) (Ja.mp nd).2 (by simpa using h1) (by simpa using h2) hk
def start (N:List Str)(vs:List V):St:=vs.map some ++ List.replicate (N.length - vs.length) none
def gC (CX:pH)(P:Program)(w:World)(K:Frag)(mg:Str->Option Value)(base:Heap)(N:List Str)(qual:Str)(scope:Scope)(f:Addr)(cd:Value)(A:Around)(outer:List Env)(s:Shared)(H:Hp)(E:XK):Cx where
 prog:=P
 w:=w
 K:=K
 mg:=mg
 base:=base
 A:=A.deeper (envOfC qual scope s.heap.objs.size f cd)
 N:=N
 s₀:=s
 H₀:=H
 env:=envOfC qual scope s.heap.objs.size f cd
 outer:=outer
 stack:=envOfC qual scope s.heap.objs.size f cd :: outer
 ex:=[]
 calm:=true
 fn:=λ_=>true
 pn:=[]
 xe:=λe s'=>wpAny (model P w) (A.deeper (envOfC qual scope s.heap.objs.size f cd)) (leaving (envOfC qual scope s.heap.objs.size f cd) e) (λ_ s''=>CX outer H s E e s'') (λe' s''=>CX outer H s E e' s'') s'
def pC {sc:Scope}{n:Nat}{x:Str}(h:sc.names.lookup x=some .cell):∃c,(cellsFrom n sc.names []).lookup x=some c:=by
 have q:=J1 sc.names n [] (.inl h)
 exact Ju.mp q
def mr {CX:pH}{P:Program}{w:World}{K:Frag}{mg:Str->Option Value}{base:Heap}{N ps:List Str}{qual:Str}{scope:Scope}{f:Addr}{cd:Value}{A:Around}{outer:List Env}{s s1:Shared}{H:Hp}{E:XK}{us:List Value}{vs:List V}
  (S:aI N ps scope) (hd:A.handled=none) (e0:rF P w K mg base A outer s H) (hl:vs.length=ps.length) (r:Vals vs us)
  (x:InCallC s s.heap.objs.size (bindL (envOfC qual scope s.heap.objs.size f cd).kindOf (ps.zip us) λ_=>none) (cellsFrom (s.heap.objs.size + 1) scope.names []) (bindC (envOfC qual scope s.heap.objs.size f cd).kindOf (ps.zip us) λ_=>none) s1) :
  Inv (gC CX P w K mg base N qual scope f cd A outer s H E) [] (start N vs) H s1:=by
 have hpl:ps.length<=N.length:=by have:=congrArg List.length S.pre;rw[IU] at this;omega
 obtain⟨h1,tk,rfl,hk⟩:=x.done
 have noA:∀b:Addr,b∉(gC CX P w K mg base N qual scope f cd A outer s H E).ex:=λb z=>absurd (show b∈([]:List Addr) from z) (by simp)
 refine⟨⟨e0.mod,S.kind,rfl,rfl,Hv _,λy z c h1 h2=>?_,λy hy=>?_,λy c _ h=>?_,λ_=>hd,Around.frames_deeper e0.frames,.inr ⟨rfl,rfl⟩,λb z=>absurd z (noA b),e0.bs,e0.bsz,λb _ _=>noA b,λb z=>absurd z (noA b),e0.funs,e0.frf⟩,
  rfl,e0.bare,Un.kept hk,⟨_,x.toInCall.ns,λi y v h1 h2 h3=>?_⟩,λy c h=>⟨_,x.cell y c h⟩,e0.hok.fresh (Hv _),λy c h=>?_,λp hp=>absurd (show p∈([]:List (Addr×Obj)) from hp) (by simp),e0.hok.kept hk,?_⟩
 ·exact name_of_addr x.apart (IY h1) (IY h2)
 ·have hy:scope.names.lookup y=some .cell\/scope.names.lookup y=some .free:=hy
  rcases hy with hy |hy
  ·exact pC hy
  ·exact absurd rfl (S.nofree _ (IY hy))
 ·exact J8 (x.above y c (IY h))
 ·have hi:i < vs.length:=by
   unfold start at h2
   by_cases hi:i < vs.length
   ·exact hi
   ·rw[Iv (by simpa using hi)] at h2
    rw[Jh] at h2
    split at h2 <;> cases h2
  have ha:vs[i]? =some v:=by
   unfold start at h2
   rw[IA (by simpa using hi),HH] at h2
   cases e:vs[i]? with
   |none=>rw[e] at h2;cases h2
   |some a=>rw[e] at h2;cases h2;rfl
  obtain⟨u,hu,rv⟩:=r.get ha
  have hp:ps[i]? =some y:=by
   rw[<-S.pre,List.getElem?_take_of_lt (by omega)];exact h1
  have ndP:ps.Nodup:=by rw[<-S.pre];exact S.nd.sublist (J5 _ _)
  refine⟨u,rv,?_⟩
  rcases S.par y (HG hp) with k |k
  ·exact .inl ⟨k,mL ndP hp hu k⟩
  ·obtain⟨c,e⟩:=pC (n:=s.heap.objs.size + 1) k
   refine .inr ⟨.inl k,c,e,?_⟩
   have q:=x.cell y c e
   rw[mX ndP hp hu (by show scope.names.lookup y≠_;rw[k];decide)] at q
   exact q
 ·exact e0.hok.fresh (J8 (x.above y c (IY h)))
 ·unfold start
  show _=N.length
  rw[Iu,HS,Jo]
  omega
theorem Bo {CX:pH}{P:Program}{w:World}{K:Frag}{mg:Str->Option Value}{base:Heap}{k:Nat}{f:Addr}{name qual:Str}{params:Arguments}{body:List Stmt}{scope:Scope}{dV kV doc pm cdv ct oc:Value}{an od:Option Addr}
  {osl:Array (Option Value)} {N ps:List Str} {sp:Sp} (lk:K.lookup f=some ⟨oc,od,.func (PySem.W.fnOf name qual params body scope dV kV doc pm an cdv ct),osl⟩) (hcd:PySem.W.codeIn K cdv qual=true) (S:aI N ps scope)
  (len:∀vs H Q E,sp vs H Q E->vs.length=ps.length)
  (hbody:∀(A:Around) (outer:List Env) (s:Shared) (H:Hp) (vs:List V) (Q:VK) (E:XK),cA k (A.deeper (envOfC qual scope s.heap.objs.size f cdv))->sp vs H Q E->
   ∃t,jU (gC CX P w K mg base N qual scope f cdv A outer s H E) body t/\t {nx:=λ_ H'=>Q .non H',rt:=Q} (start N vs) H) :
  cP P w K mg base CX (k + 1) f (PySem.W.fnOf name qual params body scope dV kV doc pm an cdv ct) ps sp:=by
 refine⟨len,λA outer s H args us vs Q E hr e0 hb r hsp=>?_⟩
 have hl:=len _ _ _ _ hsp
 have KX:K.In s.heap:=e0.mod.kin.keeps λb o e=>(e0.bs b o e).1
 have lim:s.heap.NoLimit:=e0.mod.nolimit.keeps λb o e=>(e0.bs b o e).1
 have hkind:∀y∈ps.zip us,scope.names.lookup y.1=some .local\/(scope.names.lookup y.1=some .cell/\((cellsFrom (s.heap.objs.size + 1) scope.names []).lookup y.1).isSome=true):=λ⟨n,v⟩ hy=>by
  rcases S.par n (of_mem_zip hy).1 with q |q
  ·exact .inl q
  ·exact .inr ⟨q,J1 _ _ _ (.inl q)⟩
 refine codeAny_call_function hr.depth (KX _ _ lk) rfl S.co S.gen rfl (PySem.W.codeRec_of KX hcd) (hb _ _ _ _ ?_)
 refine wpAny_newFunctionEnv_cells S.kind hkind λenv he s1 x=>?_
 subst he
 refine⟨lim.keeps x.toInCall.keep,codeAny_func ?_⟩
 obtain⟨t,ht,hq⟩:=hbody A outer s H vs Q E (hr.deeper _) hsp
 have I:Inv (gC CX P w K mg base N qual scope f cdv A outer s H E) [] (start N vs) H s1:=mr S hr.hd e0 hl r x
 refine IT (ht [] s1 (start N vs) H _ I hq) (λfl s' hs=>?_) λe s' hs=>hs
 have fin:∀{σ':St} {H':Hp} {v:V} {u:Value},Inv (gC CX P w K mg base N qual scope f cdv A outer s H E) [] σ' H' s'->RelV v u->Q v H'->CE outer P w H s Q u s':=
  λ{σ' H' v u} J rv q=>⟨v,H',J.os,J.bare,J.base,J.hok,rv,q⟩
 cases fl with
 |ret u=>
  obtain⟨v,σ',H',J,rv,q⟩:=hs
  exact fin J rv q
 |next=>
  obtain⟨σ',H',J,q⟩:=hs
  exact fin (v:=V.non) (u:=Value.none) J rfl q
 |brk=>
  obtain⟨_,_,_,q⟩:=hs
  exact False.elim q
 |cont=>
  obtain⟨_,_,_,q⟩:=hs
  exact False.elim q
section
variable {X:Cx}{x:Str}{p pos:Pos}{e:Expr}{es:List Expr}{t:TA}{id T:String}{r:List V->Hp->VK->Prop}
def GY (r:List V->Hp->VK->Prop)(t:TA):TE:=λσ H Q=>t σ H λvs H1=>r vs H1 Q
def aL (hc:bQ X (.builtin id) r)(hg:Gl X x)(hm:X.mg x=none)(hv:bootBuiltins x=some (.builtin id))(ha:PA X (e :: es) t)(hn:x≠"__name__":=by decide)(hdb:(x == ("__debug__":Str))=false:=by decide)
  (he:starEach (e :: es) X.env=(false,eval e X.env) :: starEach es X.env:=by rfl) (hpl:(backTo pos (starEach es X.env)).any (·.1)=false:=by rfl):PE X (.Call (.Name x p) (e :: es) [] pos) (GY r t):=by
 intro pins s σ H Q I h
 refine Kn (nI I hg hm hv ?_ hn hdb)
 exact PyProof.Rows.callWith_builtin1 (bB (ha pos pins s σ H _ I h) λus s1 ⟨vs,H1,I1,r1,q1⟩=>hc pins s1 σ H1 vs us Q I1 r1 q1) he hpl
def e9 (hc:bQ X (.type T) r)(hg:Gl X x)(hm:X.mg x=none)(hv:bootBuiltins x=some (.type T))(ha:PA X (e :: es) t)(hn:x≠"__name__":=by decide)(hdb:(x == ("__debug__":Str))=false:=by decide)
  (he:starEach (e :: es) X.env=(false,eval e X.env) :: starEach es X.env:=by rfl) (hpl:(backTo pos (starEach es X.env)).any (·.1)=false:=by rfl):PE X (.Call (.Name x p) (e :: es) [] pos) (GY r t):=by
 intro pins s σ H Q I h
 refine Kn (nI I hg hm hv ?_ hn hdb)
 exact PyProof.Rows.callWith_type1 (bB (ha pos pins s σ H _ I h) λus s1 ⟨vs,H1,I1,r1,q1⟩=>hc pins s1 σ H1 vs us Q I1 r1 q1) he hpl
end
end L2
namespace HT
open PySem PyProof.Rows
section
open PySem.SeqAt
open PySem.AutoSeq1 (wpAny_loadPart')
open PySem.MeetsSeq PySem.MeetsSeq2 PySem.MeetsSeq3
end
section
variable {prog:Program}{w:World}{A:Around}{E:Value->Shared->Prop}{s:Shared}
def nq (n d:Nat):Option Int->Nat
 |none=>d
 |some v=>if v < 0 then (v + (n:Int)).toNat else min v.toNat n
def qN (n d:Nat):nq n d none=d:=rfl
def uH (n d k:Nat):nq n d (some (k:Int))=min k n:=by
 show (if (k:Int) < 0 then ((k:Int) + (n:Int)).toNat else min (k:Int).toNat n)=min k n
 rw[Ht (by omega),IG]
end
end HT
namespace L2
open PySem PySem.Spec PyProof.Rows
abbrev TO:=St->Hp->(Option Int->Hp->Prop)->Prop
def PO (X:Cx)(e:Option Expr)(t:TO):Prop:=
 ∀(pins:List (Addr×Obj)) (s:Shared) (σ:St) (H:Hp) (Q:Option Int->Hp->Prop),Inv X pins σ H s->t σ H Q->
  wpAny (model X.prog X.w) X.A (evalPart e X.env) (λu s'=>∃o H',Inv X pins σ H' s'/\IsPart u o/\Q o H') X.xe s
def Ad:TO:=λ_ H Q=>Q none H
def EF (t:TE):TO:=λσ H Q=>t σ H λx H1=>∃i,x=.int i/\Q (some i) H1
section
variable {X:Cx}{e:Expr}{te:TE}{lo hi:Option Expr}{tl th:TO}{pos p2:Pos}
def AV:PO X none Ad:=by
 intro pins s σ H Q I h
 rw[evalPart_none]
 exact Hy ⟨none,H,I,.none,h⟩
def zy (h:PE X e te):PO X (some e) (EF te):=by
 intro pins s σ H Q I hw
 rw[evalPart_some]
 refine bB (h pins s σ H _ I hw) λu s1 ⟨x,H1,I1,r1,q1⟩=>?_
 obtain⟨i,rfl,q⟩:=q1
 obtain⟨t,rfl⟩:=r1
 exact⟨some i,H1,I1,.int i t,q⟩
def G7 (X:Cx)(r:V->Option Int->Option Int->Hp->VK->Prop):Prop:=
 ∀(pins:List (Addr×Obj)) (s:Shared) (σ:St) (H:Hp) (x:V) (v vl vu:Value) (lo hi:Option Int) (sl:Addr) (Q:VK),Inv X pins σ H s->RelV x v->s.heap.IsSliceOf sl vl vu .none->IsPart vl lo->IsPart vu hi->r x lo hi H Q->
  ∃T id,typeLookup (.type T) "__getitem__"=pure (some (.builtin id))/\s.TypeIs v T/\wpAny (model X.prog X.w) X.A (getItem v (.ref sl)) (EP X pins σ Q) X.xe s
def Ha (r:V->Option Int->Option Int->Hp->VK->Prop)(te:TE)(tl th:TO):TE:=λσ H Q=>te σ H λx H1=>tl σ H1 λl H2=>th σ H2 λu H3=>r x l u H3 Q
def yK {r:V->Option Int->Option Int->Hp->VK->Prop}(hr:G7 X r)(he:PE X e te)(hl:PO X lo tl)(hu:PO X hi th):PE X (.Subscript e (.Slice lo hi none p2) pos) (Ha r te tl th):=by
 intro pins s σ H Q I h
 refine Subscript_ (bB (he pins s σ H _ I h) λv s1 ⟨x,H1,I1,r1,q1⟩=>?_)
 refine wpAny_Slice (bB (hl pins s1 σ H1 _ I1 q1) λvl s2 ⟨l,H2,I2,pl,q2⟩=>bB (hu pins s2 σ H2 _ I2 q2) λvu s3 ⟨u,H3,I3,pu,q3⟩=>?_)
 rw[evalPart_none]
 refine Hy ?_
 have I4:Inv X pins σ H3 {s3 with heap:=s3.heap.push {cls:=.type "slice",data:=.fields #[vl,vu,.none]}}:=I3.kept (t':=s3.toks) λb ob q=>Hx _ q
 obtain⟨T,id,hT,ht,hg⟩:=hr pins {s3 with heap:=s3.heap.push {cls:=.type "slice",data:=.fields #[vl,vu,.none]}} σ H3 x v vl vu l u s3.heap.objs.size Q I4 r1 (Heap.IsSliceOf.new ..) pl pu q3
 show wpAny (model X.prog X.w) X.A (subscriptTail e (.Slice lo hi none p2) v (.ref s3.heap.objs.size)) (EP X pins σ Q) X.xe {s3 with heap:=s3.heap.push {cls:=.type "slice",data:=.fields #[vl,vu,.none]}}
 exact tail_any (ops:=[.ref s3.heap.objs.size,v]) ht hT hg (by with_unfolding_all rfl)
def sr (xs:List V)(lo hi:Option Int):List V:=(xs.drop (HT.nq xs.length 0 lo)).take (HT.nq xs.length xs.length hi - HT.nq xs.length 0 lo)
def qq (xs:List V)(lo hi:Option Int):(sr xs lo hi).length<=xs.length:=by
 unfold sr
 rw[IU,List.length_drop]
 omega
end
def wA (n:Nat)(i:Int):Option Nat:=if 0<=i then (if i < n then some i.toNat else none) else if -(n:Int)<=i then some (i + n).toNat else none
def ji {α:Type}(xs:List α)(i:Int):Option α:=(wA xs.length i).bind λj=>xs[j]?
def ua {n:Nat}{i:Int}{j:Nat}(h:wA n i=some j):seqIndex? i n=some j/\j < n/\ -(n:Int)<=i/\i < n:=by
 unfold wA at h
 by_cases h0:0<=i
 ·rw[Hs h0] at h
  by_cases h1:i < n
  ·rw[Hs h1] at h
   have e:i.toNat=j:=Option.some.inj h
   exact⟨by rw[seqIndex_of h0 h1,e],by omega,by omega,h1⟩
  ·rw[Ht h1] at h;cases h
 ·rw[Ht h0] at h
  by_cases h1: -(n:Int)<=i
  ·rw[Hs h1] at h
   have e:(i + n).toNat=j:=Option.some.inj h
   exact⟨by rw[seqIndex_neg (by omega) h1,e],by omega,h1,by omega⟩
  ·rw[Ht h1] at h;cases h
theorem nM {α:Type}{xs:List α}{i:Int}{v:α}(h:ji xs i=some v):∃j,seqIndex? i xs.length=some j/\xs[j]? =some v/\j < xs.length/\ -(xs.length:Int)<=i/\i < xs.length:=by
 unfold ji at h
 cases e:wA xs.length i with
 |none=>rw[e] at h;cases h
 |some j=>
  rw[e] at h
  obtain⟨h1,h2,h3,h4⟩:=ua e
  exact⟨j,h1,h,h2,h3,h4⟩
def oX {α:Type}{xs:List α}{j:Nat}{v:α}(h:xs[j]? =some v):ji xs (j:Int)=some v:=by
 have hj:j < xs.length:=(HE.mp h).1
 have e:wA xs.length (j:Int)=some j:=by
  unfold wA
  rw[Hs (by omega),Hs (by omega)];simp
 unfold ji;rw[e];exact h
def ur (b:Expr):Prop:=∀o i,subscripted b false o i=operate [o,i] (getItem o i)
def xQ (X:Cx)(r:R2):Prop:=
 ∀(value slice:Expr) (pins:List (Addr×Obj)) (s:Shared) (σ:St) (H:Hp) (x y:V) (v u:Value) (Q:VK),Inv X pins σ H s->RelV x v->RelV y u->r x y H Q->
  subscripted slice false v u=operate [v,u] (getItem v u)->wpAny (model X.prog X.w) X.A (subscriptTail value slice v u) (EP X pins σ Q) X.xe s
def Hh (X:Cx)(id:String)(r:V->List V->Hp->VK->Prop):Prop:=
 ∀(pins:List (Addr×Obj)) (s:Shared) (σ:St) (H:Hp) (x:V) (xs:List V) (v:Value) (us:List Value) (Q:VK),Inv X pins σ H s->RelV x v->Vals xs us->r x xs H Q->
  wpAny (model X.prog X.w) X.A (call (.builtin id) (v :: us)) (EP X pins σ Q) X.xe s
section
variable {X:Cx}{a b:Expr}{ta tb:TE}{pos:Pos}
def xQ.or {r r':R2}(h:xQ X r)(h':xQ X r'):xQ X (λx y H Q=>r x y H Q\/r' x y H Q):=by
 intro value slice pins s σ H x y v u Q I rx ry q hs
 rcases q with q |q
 ·exact h value slice pins s σ H x y v u Q I rx ry q hs
 ·exact h' value slice pins s σ H x y v u Q I rx ry q hs
def gy {r:R2}(hr:xQ X r)(ha:PE X a ta)(hb:PE X b tb)(hs:ur b):PE X (.Subscript a b pos) (Fg r ta tb):=by
 intro pins s σ H Q I h
 exact Subscript_ (Cm ha hb I h λv u s2 x y H2 I2 rx ry q=>hr a b pins s2 σ H2 x y v u Q I2 rx ry q (hs _ _))
def B3 (K:Frag):R2:=λx y H Q=>∃p xs i v,x=.ref p/\y=.int i/\dI K H p xs/\ji xs i=some v/\Q v H
def E3 (K:Frag):R2:=λx y H Q=>∃p xs i v,x=.ref p/\y=.int i/\eB K H p xs/\ji xs i=some v/\Q v H
def E4:R2:=λx y H Q=>∃z i c,x=.str z/\y=.int i/\z.length<=sizeLine/\ji z.cps.toList i=some c/\Q (.str ⟨#[c]⟩) H
def cN:xQ X (B3 X.K):=by
 intro value slice pins s σ H x y v u Q I rx ry h hs
 obtain⟨p,xs,i,z,rfl,rfl,hq,he,q⟩:=h
 cases rx
 obtain⟨t,rfl⟩:=ry
 obtain⟨its,r,pl,hz⟩:=I.list hq
 obtain⟨j,h1,h2,h3,h4,h5⟩:=nM he
 obtain⟨w,ew,rw'⟩:=r.get h2
 have hl:=r.length
 have hn:=jq
 have fin:EP X pins σ Q w s:=⟨z,H,I,rw',q⟩
 by_cases h0:0<=i
 ·have hj:i.toNat=j:=by
   rw[seqIndex_of h0 h5] at h1
   exact Option.some.inj h1
  exact item_listR pl.isList h0 (by omega) (by rw[hj];simpa using ew) fin hs
 ·have hj:(i + (its.toArray.size:Int)).toNat=j:=by
   rw[seqIndex_neg (by omega) h4] at h1
   rw[HJ,<-hl]
   exact Option.some.inj h1
  exact subscriptTail_builtinR (x:=w) pl.isList.typeIs slot_list_getitem.lookup
   (wpAny_getItem_list_neg (Q:=λr s'=>r=w/\EP X pins σ Q r s') pl.isList (by omega) (by rw[HJ] <;> omega) (by omega) (by rw[hj];simpa using ew) ⟨rfl,fin⟩) hs
def Di:xQ X (E3 X.K):=by
 intro value slice pins s σ H x y v u Q I rx ry h hs
 obtain⟨p,xs,i,z,rfl,rfl,hq,he,q⟩:=h
 cases rx
 obtain⟨t,rfl⟩:=ry
 obtain⟨its,r,pl,hz⟩:=I.tuple hq
 obtain⟨j,h1,h2,h3,h4,h5⟩:=nM he
 obtain⟨w,ew,rw'⟩:=r.get h2
 have hl:=r.length
 have hn:=jq
 have fin:EP X pins σ Q w s:=⟨z,H,I,rw',q⟩
 exact subscriptTail_builtinR (x:=w) pl.typeIs slot_tuple_getitem.lookup
  (getItem_tuple (j:=j) (Q:=λr s'=>r=w/\EP X pins σ Q r s') pl (by omega) (by omega) (by rw[HJ,<-hl];exact h1) (by simpa using ew) ⟨rfl,fin⟩) hs
def Cy:xQ X E4:=by
 intro value slice pins s σ H x y v u Q I rx ry h hs
 obtain⟨z,i,c,rfl,rfl,hz,he,q⟩:=h
 obtain⟨t,rfl⟩:=rx
 obtain⟨t',rfl⟩:=ry
 obtain⟨j,h1,h2,h3,h4,h5⟩:=nM he
 have hl:z.cps.toList.length=z.length:=by simp[Str.length]
 rw[hl] at h1 h4 h5
 have hn:=jq
 exact tail_any (typeIs_str s z t) slot_str_getitem.lookup (getItem_str (c:=c) (by
  have e1:decide (i < -(2 ^ 63:Int))=false:=HN (by omega)
  have e2:decide (i>=2 ^ 63)=false:=HN (by omega)
  rw[e1,e2,Bool.or_false]) (by rw[h1];simpa using h2) ⟨.str ⟨#[c]⟩,H,I.tok _,⟨_,rfl⟩,q⟩) hs
def GW (K:Frag):R2:=λx y H Q=>B3 K x y H Q\/E3 K x y H Q\/E4 x y H Q
def fE:xQ X (GW X.K):=cN.or (Di.or Cy)
def rN (its:List Value)(n j:Nat)(u:Value):Obj.mapSeq (·.setIfInBounds j u) {cls:=.type "list",data:=.seq its.toArray n}={cls:=.type "list",data:=.seq (its.set j u).toArray n}:=by
 simp[Obj.mapSeq]
def Inv.lst {pins:List (Addr×Obj)}{σ:St}{H:Hp}{s:Shared}{p:Addr}{xs:List V}(I:Inv X pins σ H s)(h:H p=some (.lst xs)) :
  ∃(its:List Value) (n:Nat),Vals xs its/\s.heap.get? p=some {cls:=.type "list",data:=.seq its.toArray n}/\xs.length<=sizeLine:=by
 obtain⟨z,its,n,r,e⟩:=I.hok p _ h
 exact⟨its,n,r,e,z⟩
def Inv.lstUpd {pins:List (Addr×Obj)}{σ:St}{H:Hp}{s:Shared}{p:Addr}{xs ys:List V}{its its':List Value}{n n':Nat}{f:Obj->Obj}(I:Inv X pins σ H s)(h:H p=some (.lst xs))
  (ho:s.heap.get? p=some {cls:=.type "list",data:=.seq its.toArray n}) (hf:f {cls:=.type "list",data:=.seq its.toArray n}={cls:=.type "list",data:=.seq its'.toArray n'}) (r:Vals ys its') (hz:ys.length<=sizeLine) (t:Nat) :
  Inv X pins σ (upd H p (.lst ys)) {s with heap:=s.heap.update p f,toks:=t}:=by
 have e:(s.heap.update p f).get? p=some {cls:=.type "list",data:=.seq its'.toArray n'}:=by
  rw[IL f ho (by rw[hf] <;> rfl),hf]
 refine I.write (x:=p) (e:=p) (by rw[h];trivial) (.inl rfl) (λb u hb q=>(IV _ _ (Ne.symm hb)).trans q) ⟨_,e⟩ ?_
 exact⟨hz,its',n',r,e⟩
def EO:V->V->V->Hp->(Hp->Prop)->Prop:=λo i v H Q=>∃p xs k j,o=.ref p/\i=.int k/\H p=some (.lst xs)/\wA xs.length k=some j/\Q (upd H p (.lst (xs.set j v)))
def set_list:nG X EO:=by
 intro pins s σ H o i v ov iv u Q I ro ri rv h
 obtain⟨p,xs,k,j,rfl,rfl,hp,hj,q⟩:=h
 cases ro
 obtain⟨t,rfl⟩:=ri
 obtain⟨its,n,r,ho,hz⟩:=I.lst hp
 obtain⟨h1,h2,h3,h4⟩:=ua hj
 have hl:=r.length
 have hn:=jq
 have I':Inv X pins σ (upd H p (.lst (xs.set j v))) {s with heap:=s.heap.update p (Obj.mapSeq (·.setIfInBounds j u))}:=
  I.lstUpd hp ho (rN its n j u) (r.set rv j) (by rw[Jb];exact hz) s.toks
 by_cases h0:0<=k
 ·have hk:k.toNat=j:=by
   rw[seqIndex_of h0 h4] at h1
   exact Option.some.inj h1
  exact PySem.W.ki_setAt ho h0 (by omega) (by rw[HJ,<-hl];exact h4) (by rw[hk];exact⟨_,I',q⟩)
 ·have hk:(k + (its.toArray.size:Int)).toNat=j:=by
   rw[seqIndex_neg (by omega) h3] at h1
   rw[HJ,<-hl]
   exact Option.some.inj h1
  exact PySem.W.ki_setBack ho (by omega) (by rw[HJ,<-hl];exact h3) (by omega) (by rw[hk];exact⟨_,I',q⟩)
def nO (lo hi:Option Int)(n:Nat):(sliceBounds lo hi none n).1=((HT.nq n 0 lo:Nat):Int)/\(sliceBounds lo hi none n).2.1=((HT.nq n n hi:Nat):Int)/\(sliceBounds lo hi none n).2.2=1:=by
 refine⟨?_,?_,rfl⟩
 ·cases lo with
  |none=>simp[sliceBounds,HT.nq]
  |some i=>
   simp only[sliceBounds,HT.nq,Option.getD_none,show (1:Int) > 0 by decide,IX]
   by_cases h:i < 0
   ·simp only[h,IX] <;> omega
   ·simp only[h,Iy] <;> omega
 ·cases hi with
  |none=>simp[sliceBounds,HT.nq]
  |some i=>
   simp only[sliceBounds,HT.nq,Option.getD_none,show (1:Int) > 0 by decide,IX]
   by_cases h:i < 0
   ·simp only[h,IX] <;> omega
   ·simp only[h,Iy] <;> omega
def mh (its:List Value)(lo hi:Option Int):slicePick its.toArray lo hi none=((its.drop (HT.nq its.length 0 lo)).take (HT.nq its.length its.length hi - HT.nq its.length 0 lo)).toArray:=by
 obtain⟨h1,h2,h3⟩:=nO lo hi its.toArray.size
 unfold slicePick
 rw[h1,h2,h3]
 simp only[sliceRange_one,pick_run,HJ] <;> rfl
def GD (K:Frag):V->Option Int->Option Int->Hp->VK->Prop:=λx lo hi H Q=>∃a xs,x=.ref a/\dI K H a xs/\∀p,H p=none->Q (.ref p) (upd H p (.lst (sr xs lo hi)))
def AA:G7 X (GD X.K):=by
 intro pins s σ H x v vl vu lo hi sl Q I rx hs pl pu h
 obtain⟨a,xs,rfl,hx,q⟩:=h
 cases rx
 obtain⟨its,r,ht,hz⟩:=I.list hx
 have hlen:=r.length
 refine⟨"list",_,slot_list_getitem.lookup,ht.isList.typeIs,?_⟩
 refine wpAny_getItem_list_slice ht.isList hs pl pu .none (by simp) ?_ (by rw[HJ] <;> omega)
 rw[mh,<-hlen]
 refine⟨.ref s.heap.objs.size,_,I.laid (t':=s.toks) (o:=.lst (sr xs lo hi)) (λb ob q=>Hx _ q) (Hv _) ?_,rfl,q _ (I.hok.fresh (Hv _))⟩
 exact⟨IF (qq xs lo hi) hz,_,0,(r.drop (HT.nq xs.length 0 lo)).take (HT.nq xs.length xs.length hi - HT.nq xs.length 0 lo),HR _ rfl⟩
def i6:bQ X (.type "list") (λxs H Q=>∃p ys,xs= [.ref p]/\(dI X.K H p ys\/eB X.K H p ys)/\∀l,H l=none->Q (.ref l) (upd H l (.lst ys))):=by
 intro pins s σ H xs us Q I r h
 obtain⟨p,ys,rfl,hq,q⟩:=h
 obtain⟨u,rfl,rx⟩:=vals1 r
 cases rx
 have fin:∀(its:List Value),Vals ys its->ys.length<=sizeLine->∀(h':Heap) (c':Nat),(∀b o',s.heap.get? b=some o'->h'.get? b=some o')->
   h'.get? s.heap.objs.size=some {cls:=.type "list",dict:=none,data:=.seq its.toArray c',slots:=#[]}->EP X pins σ Q (.ref s.heap.objs.size) {s with heap:=h'}:=λits r' hz h' c' kp e=>
  ⟨.ref s.heap.objs.size,_,I.laid (t':=s.toks) kp (Hv _) (show aU X.prog X.w _ h' _ (.lst ys) from⟨hz,its,c',r',e⟩),rfl,q _ (I.hok.fresh (Hv _))⟩
 rcases hq with hq |hq
 ·obtain⟨its,r',pl,hz⟩:=I.list hq
  have hlen:=r'.length
  obtain⟨o,ho,hc,n,hd⟩:=pl.isList
  exact call_list_seq p (.inl rfl) ho hc hd (λh' c' kp e=>fin its r' hz h' c' kp e) (by simp only[HJ] <;> omega)
 ·obtain⟨its,r',pl,hz⟩:=I.tuple hq
  have hlen:=r'.length
  obtain⟨o,ho,hc,n,hd⟩:=pl
  exact call_list_seq p (.inr rfl) ho hc hd (λh' c' kp e=>fin its r' hz h' c' kp e) (by simp only[HJ] <;> omega)
def eJ:bQ X (.type "tuple") (λxs H Q=>∃p ys,xs= [.ref p]/\((dI X.K H p ys/\∀l,H l=none->Q (.ref l) (upd H l (.tup ys)))\/(eB X.K H p ys/\Q (.ref p) H))):=by
 intro pins s σ H xs us Q I r h
 obtain⟨p,ys,rfl,h⟩:=h
 obtain⟨u,rfl,rx⟩:=vals1 r
 cases rx
 rcases h with⟨hq,q⟩ | ⟨hq,q⟩
 ·obtain⟨its,r',pl,hz⟩:=I.list hq
  have hlen:=r'.length
  refine call_tuple_list pl.isList (λh' kp=>?_) (by simp only[HJ] <;> omega)
  have I1:Inv X pins σ H {s with heap:=h'}:=I.kept (t':=s.toks) kp
  have I2:Inv X pins σ (upd H h'.objs.size (.tup ys)) {s with heap:=h'.push {cls:=.type "tuple",data:=.seq its.toArray}}:=
   I1.laid (t':=s.toks) (λb o e=>Hx _ e) (Hv _) (show aU X.prog X.w _ _ _ (.tup ys) from⟨hz,its,r',sP.new _ _⟩)
  exact⟨.ref h'.objs.size,_,I2,rfl,q _ (I1.hok.fresh (Hv _))⟩
 ·obtain⟨its,r',pl,hz⟩:=I.tuple hq
  exact call_tuple_same pl ⟨.ref p,H,I,rfl,q⟩
def GO (K:Frag)(T:String)(x:V)(H:Hp):Prop:=match x with
 | .str _=>T="str"
 | .int _=>T="int"
 | .ref p=>(T="list"/\∃xs,dI K H p xs)\/(T="tuple"/\∃o,K.lookup p=some o/\o.cls=.type "tuple"/\o.dict=none)\/
   (T="dict"/\((∃kvs,H p=some (.dK kvs))\/∃kvs ep,H p=some (.dT kvs ep)))\/(T="set"/\∃S n,H p=some (.set S n))
 |_=>False
theorem Dw {pins:List (Addr×Obj)}{σ:St}{H:Hp}{s:Shared}{T:String}{x:V}{v:Value}(I:Inv X pins σ H s)(r:RelV x v)(ty:GO X.K T x H) :
  s.TypeIs v T/\∀a,v=.ref a->∃ob,s.heap.get? a=some ob/\ob.dict=none:=by
 cases x with
 |str z=>
  obtain⟨t,rfl⟩:=r
  cases (show T="str" from ty)
  exact⟨typeIs_str s z t,λ_ e=>nomatch e⟩
 |int i=>
  obtain⟨t,rfl⟩:=r
  cases (show T="int" from ty)
  exact⟨typeIs_int s i t,λ_ e=>nomatch e⟩
 |ref p=>
  cases r
  rcases ty with⟨rfl,xs,hq⟩ | ⟨rfl,o,hk,hc,hd⟩ | ⟨rfl,hk⟩ | ⟨rfl,S,n,hk⟩
  ·obtain⟨its,_,pl,_⟩:=I.list hq
   refine⟨pl.isList.typeIs,λa e=>?_⟩
   cases e
   obtain⟨o,n,e,c,hd,_⟩:=pl
   exact⟨o,e,hd⟩
  ·refine⟨⟨o,I.kIn p o hk,hc⟩,λa e=>?_⟩
   cases e
   exact⟨o,I.kIn _ o hk,hd⟩
  ·have z:∃o,s.heap.get? p=some o/\o.ExactDict:=by
    rcases hk with⟨kvs,hk⟩ | ⟨kvs,_,hk⟩
    ·obtain⟨_,_,_,_,o,_,_,e,ex,_⟩:=I.hok p _ hk
     exact⟨o,e,ex⟩
    ·obtain⟨_,_,_,_,o,_,e,ex,_⟩:=I.hok p _ hk
     exact⟨o,e,ex⟩
   obtain⟨o,e,ex⟩:=z
   refine⟨⟨o,e,ex.1⟩,λa e2=>?_⟩
   cases e2
   exact⟨o,e,ex.2.1⟩
  ·obtain⟨o,_,_,_,e,ex,_⟩:=I.hok p _ hk
   refine⟨⟨o,e,ex.1⟩,λa e2=>?_⟩
   cases e2
   exact⟨o,e,ex.2.1⟩
 |_=>exact False.elim ty
def Hi (K:Frag)(T:String)(r:V->List V->Hp->VK->Prop)(to:TE)(t:TA):TE:=λσ H Q=>to σ H λx H1=>GO K T x H1/\t σ H1 λxs H2=>r x xs H2 Q
variable {o e:Expr}{es:List Expr}{to:TE}{t:TA}{name:Str}{apos cpos:Pos}{T id:String}{r:V->List V->Hp->VK->Prop}
def qO (pa:PlainAttrs T)(slot:Slot T name id)(hty:typeOf (.builtin id)=pure (.type "method_descriptor"))(hm:Hh X id r)(ho:PE X o to)(ha:PA X (e :: es) t)
  (hbase:attributeBase o name X.env (eval o X.env)=eval o X.env:=by rfl)
  (hfew:((backTo cpos (starEach (e :: es) X.env)).all (λx=> !x.1) && (backToKw cpos (keywordEach [] X.env)).all (λx=>x.1.isSome)
   && decide ((e :: es).length + ([]:List Keyword).length + (if ([]:List Keyword).isEmpty then 0 else 1) < 30))=true:=by rfl)
  (hline:(apos.endLine == cpos.line)=true:=by rfl) (hs:starEach (e :: es) X.env=(false,eval e X.env) :: starEach es X.env:=by rfl) (hplain:(backTo cpos (starEach es X.env)).any (·.1)=false:=by rfl) :
  PE X (.Call (.Attribute o name apos) (e :: es) [] cpos) (Hi X.K T r to t):=by
 intro pins s σ H Q I h
 refine wpAny_Call_method_late hbase hfew hline rfl (bB (ho pins s σ H _ I h) λv s1 ⟨x,H1,I1,r1,ty,q1⟩=>?_)
 obtain⟨h1,h2⟩:=Dw I1 r1 ty
 refine⟨T,id,pa,slot,hty,h1,h2,?_⟩
 have hA:=ha cpos pins s1 σ H1 _ I1 q1
 rw[hs] at hA ⊢
 refine Calls.callWith_builtin (by show (false || (backTo cpos (starEach es X.env)).any (·.1))=false;rw[hplain] <;> rfl) (Calls.evalArgs_plain ?_)
 exact bB hA λus s2 ⟨vs,H2,I2,r2,q2⟩=>hm pins s2 σ H2 x vs v us Q I2 r1 r2 q2
end
def ED (X:Cx)(id:String)(r:V->List V->Hp->VK->Prop):Prop:=
 ∀(pins:List (Addr×Obj)) (s:Shared) (σ:St) (H:Hp) (x:V) (xs:List V) (v:Value) (us:List Value) (Q:VK),Inv X pins σ H s->RelV x v->Vals xs us->r x xs H Q->
  wpAny (model X.prog X.w) X.A (call (.builtin id) (v :: us)) (EP X pins σ Q) X.xe s
theorem Vals.one:∀{x:V} {us:List Value},Vals [x] us->∃u,us= [u]/\RelV x u
 |_,_,.cons r .nil=>⟨_,rfl,r⟩
theorem Vals.eraseIdx:∀{xs:List V} {us:List Value} (i:Nat),Vals xs us->Vals (xs.eraseIdx i) (us.eraseIdx i)
 |_,_,_,.nil=>.nil
 |_,_,0,.cons _ t=>t
 |_,_,i + 1,.cons r t=>.cons r (Vals.eraseIdx i t)
theorem Vals.rep {xs:List V}{us:List Value}(h:Vals xs us):∀k:Nat,Vals (List.replicate k xs).flatten (List.replicate k us).flatten
 | 0=>.nil
 |k + 1=>by
  rw[JW,JW,Kw,Kw]
  exact Vals.append h (Vals.rep h k)
theorem mJ {α:Type}:∀(l:List α) (i:Nat),(l.eraseIdx i).length<=l.length
 | [],_=>Hv _
 |_ :: _,0=>Nat.le_succ _
 |_ :: r,i + 1=>Nat.succ_le_succ (mJ r i)
theorem foldl_rep (its:List Value):∀(k:Nat) (acc:List Value),
  List.foldl (λx1 x2=>x1 ++ x2) acc.toArray (List.replicate k its.toArray)=(acc ++ (List.replicate k its).flatten).toArray
 | 0,acc=>by simp
 |k + 1,acc=>by
  have e:acc.toArray ++ its.toArray=(acc ++ its).toArray:=by simp
  have e2:(acc ++ its) ++ (List.replicate k its).flatten=acc ++ (List.replicate (k + 1) its).flatten:=by
   rw[JW,Kw,Ia]
  rw[<-e2,<-foldl_rep its k (acc ++ its),<-e,JW,Kl]
section
variable {X:Cx}{pins:List (Addr×Obj)}{σ:St}{H:Hp}{s:Shared}{l b:Addr}{xs ys zs:List V}
def Inv.lset {its its':List Value}{n:Nat}{f:Array Value->Array Value}{t':Nat}(I:Inv X pins σ H s)(hH:H l=some (.lst xs))
  (e:s.heap.get? l=some {cls:=.type "list",data:=.seq its.toArray n}) (hf:f its.toArray=its'.toArray) (hv:Vals ys its') (hz:ys.length<=sizeLine) :
  Inv X pins σ (upd H l (.lst ys)) {s with heap:=s.heap.update l (Obj.mapSeq f),toks:=t'}:=by
 have q:=PySem.IsL.update e f
 rw[hf] at q
 refine I.write (x:=l) (e:=l) (by rw[hH];exact trivial) (.inl rfl) (λb' u hb hu=>(IV s.heap (Obj.mapSeq f) (Ne.symm hb)).trans hu) ⟨_,q⟩ ?_
 exact⟨hz,its',_,hv,q⟩
def Inv.lnew {its:List Value}{t':Nat}(I:Inv X pins σ H s)(hv:Vals ys its)(hz:ys.length<=sizeLine) :
  Inv X pins σ (upd H s.heap.objs.size (.lst ys)) {s with heap:=s.heap.push {cls:=.type "list",data:=.seq its.toArray},toks:=t'}:=
 I.laid (λ_ _ q=>Hx _ q) (Hv _) ⟨hz,its,0,hv,HR _ rfl⟩
def Inv.fresh (I:Inv X pins σ H s):H s.heap.objs.size=none:=I.hok.fresh (Hv _)
def Inv.lstM (I:Inv X pins σ H s)(hH:H l=some (.lst xs)):xs.length<=sizeLine/\∃(its:List Value) (n:Nat),Vals xs its/\xs.length=its.length/\s.heap.get? l=some {cls:=.type "list",data:=.seq its.toArray n}:=by
 obtain⟨z,its,n,r,e⟩:=I.hok l _ hH
 exact⟨z,its,n,r,r.length,e⟩
def qX {n:Nat}(h:n<=sizeLine):Builtin.List.listTooLong n=false:=by
 unfold Builtin.List.listTooLong
 exact HN (by omega)
end
section
variable {X:Cx}
def z9:V->List V->Hp->VK->Prop:=λx vs H Q=>∃l xs y,x=.ref l/\vs= [y]/\H l=some (.lst xs)/\xs.length < sizeLine/\Q .non (upd H l (.lst (xs ++ [y])))
def js:ED X "list.append" z9:=by
 intro pins s σ H x vs v us Q I rx rv h
 obtain⟨l,xs,y,rfl,rfl,hH,hz,q⟩:=h
 cases rx
 obtain⟨u,rfl,ru⟩:=rv.one
 obtain⟨z,its,n,r,hl,e⟩:=I.lstM hH
 refine Kr F.slot_list_append ⟨_,e,rfl⟩ F.entry_list_append (F.args_list_append_2 _ _) (PySem.list_append l its.toArray n u (by rw[HJ];omega)) ⟨e,?_⟩
 refine⟨.non,_,I.lset (its':=its ++ [u]) hH e (by simp) (r.append (.cons ru .nil)) ?_,rfl,q⟩
 rw[Iu,JF]
 omega
def Ai:V->List V->Hp->VK->Prop:=λx vs H Q=>∃l b xs zs,x=.ref l/\vs= [.ref b]/\H l=some (.lst xs)/\H b=some (.lst zs)/\xs.length + zs.length<=sizeLine/\Q .non (upd H l (.lst (xs ++ zs)))
def DK:ED X "list.extend" Ai:=by
 intro pins s σ H x vs v us Q I rx rv h
 obtain⟨l,b,xs,zs,rfl,rfl,hH,hB,hz,q⟩:=h
 cases rx
 obtain⟨u,rfl,ru⟩:=rv.one
 cases ru
 obtain⟨z,its,n,r,hl,e⟩:=I.lstM hH
 obtain⟨z2,its2,n2,r2,hl2,e2⟩:=I.lstM hB
 have hsz:its.toArray.size + its2.toArray.size<=sizeLine:=by rw[HJ,HJ];omega
 have hlong:¬(!its.toArray.isEmpty && Builtin.List.listTooLong (its.toArray.size + its2.toArray.size))=true:=by
  rw[qX hsz,Bool.and_false]
  exact HU
 refine Kr F.slot_list_extend ⟨_,e,rfl⟩ F.entry_list_extend (F.args_list_extend_2 _ _)
  (AutoSeq1.list_extend_list_list_0 l its.toArray n b its2.toArray n2 hlong (by rw[HJ];omega) (by omega)) ⟨e,e2,?_⟩
 refine⟨.non,_,I.lset (its':=its ++ its2) hH e (by simp) (r.append r2) ?_,rfl,q⟩
 rw[Iu]
 omega
def Cj:V->List V->Hp->VK->Prop:=λx vs H Q=>∃l xs i k y,x=.ref l/\vs= [.int i]/\H l=some (.lst xs)/\ -(2 ^ 63)<=i/\i < 2 ^ 63/\seqIndex? i xs.length=some k/\xs[k]? =some y/\Q y (upd H l (.lst (xs.eraseIdx k)))
def wY:ED X "list.pop" Cj:=by
 intro pins s σ H x vs v us Q I rx rv h
 obtain⟨l,xs,i,k,y,rfl,rfl,hH,h1,h2,hk,hy,q⟩:=h
 cases rx
 obtain⟨u,rfl,ru⟩:=rv.one
 obtain⟨t,rfl⟩:=ru
 obtain⟨z,its,n,r,hl,e⟩:=I.lstM hH
 obtain⟨w,hw,rw'⟩:=r.get hy
 refine Kr F.slot_list_pop ⟨_,e,rfl⟩ F.entry_list_pop (F.args_list_pop_2 _ _)
  (MeetsSeq.list_pop_at l its.toArray n i t k w (fitsIndex_both h1 h2) (by rw[HJ,<-hl];exact hk) (by rw[<-Iz];exact hw) (by rw[HJ];omega)) ⟨e,?_⟩
 refine⟨y,_,I.lset (its':=its.eraseIdx k) hH e ?_ (r.eraseIdx k) ?_,rw',q⟩
 ·show its.toArray.eraseIdxIfInBounds k=(its.eraseIdx k).toArray
  rw[List.eraseIdxIfInBounds_toArray]
 ·have:=mJ xs k
  omega
def Gw:R2:=λx y H Q=>∃l b xs zs,x=.ref l/\y=.ref b/\H l=some (.lst xs)/\H b=some (.lst zs)/\xs.length + zs.length<=sizeLine/\∀p,H p=none->Q (.ref p) (upd H p (.lst (xs ++ zs)))
def xG:jz X (binaryOp .Add) Gw:=by
 intro pins s σ H x y v u Q I rx ry h
 obtain⟨l,b,xs,zs,rfl,rfl,hH,hB,hz,q⟩:=h
 cases rx
 cases ry
 obtain⟨z,its,n,r,hl,e⟩:=I.lstM hH
 obtain⟨z2,its2,n2,r2,hl2,e2⟩:=I.lstM hB
 refine PySem.P.add_list e e2 ?_ (by rw[HJ,HJ];omega)
 have ea:its.toArray ++ its2.toArray=(its ++ its2).toArray:=by simp
 rw[ea]
 exact⟨.ref _,_,I.lnew (t':=s.toks) (r.append r2) (by rw[Iu];omega),rfl,q _ I.fresh⟩
def FA:R2:=λx y H Q=>∃l k xs,x=.ref l/\y=.int k/\H l=some (.lst xs)/\ -(2 ^ 63)<=k/\k < 2 ^ 63/\xs.length * k.toNat<=sizeLine/\
 ∀p,H p=none->Q (.ref p) (upd H p (.lst (List.replicate k.toNat xs).flatten))
theorem len_rep {α:Type}(xs:List α)(k:Nat):(List.replicate k xs).flatten.length=k * xs.length:=by
 induction k with
 |zero=>simp
 |succ k ih=>rw[JW,Kw,Iu,ih,Nat.succ_mul,Nat.add_comm]
def Ck:jz X (binaryOp .Mult) FA:=by
 intro pins s σ H x y v u Q I rx ry h
 obtain⟨l,k,xs,rfl,rfl,hH,h1,h2,hz,q⟩:=h
 cases rx
 obtain⟨t,rfl⟩:=ry
 obtain⟨z,its,n,r,hl,e⟩:=I.lstM hH
 have hlen:its.toArray.size * k.toNat<=sizeLine:=by rw[HJ,<-hl];exact hz
 have hcap:¬its.toArray.size * k.toNat > (2 ^ 63 - 1) / 8:=by
  have:(sizeLine:Nat)<=(2 ^ 63 - 1) / 8:=by decide
  omega
 have hfit:¬(!Builtin.List.listFitsIndex k)=true:=by
  rw[fitsIndex_both h1 h2]
  exact HU
 have hlong:¬Builtin.List.listTooLong (its.toArray.size * k.toNat)=true:=by
  rw[qX hlen]
  exact HU
 have hnew:List.foldl (λx1 x2=>x1 ++ x2) #[] (List.replicate (if its.toArray.isEmpty=true then 0 else k.toNat) its.toArray)=(List.replicate k.toNat its).flatten.toArray:=by
  have f0:∀m:Nat,List.foldl (λx1 x2=>x1 ++ x2) #[] (List.replicate m its.toArray)=(List.replicate m its).flatten.toArray:=λm=>by
   have:=foldl_rep its m []
   rw[List.nil_append] at this
   exact this
  rw[f0]
  cases its with
  |nil=>simp
  |cons a r'=>rw[Ht (by simp)]
 refine wpAny_binaryOp_repeat_ref (T:="list") (U:="int") (by decide) ⟨_,e,rfl⟩ (λs'=>typeIs_int s' k t) noFill_list_mul F.fills_int_mul F.slot_int_rmul repeat_list F.slot_int_index.lookup
  (Kr F.slot_int_rmul (typeIs_int s k t) F.entry_int_rmul (F.args_int_rmul_2 _ _) (int___rmul___int_list k t l its.toArray n)
   ⟨e,rfl,⟨_,e,rfl⟩,Kr F.slot_list_mul ⟨_,e,rfl⟩ F.entry_list_mul (F.args_list_mul_2 _ _) (AutoListH.list___mul___list_int_3 l its.toArray n k t hfit hcap hlong) ⟨e,?_⟩⟩)
 rw[hnew]
 exact⟨.ref _,_,I.lnew (t':=s.toks) (r.rep k.toNat) (by rw[len_rep,Nat.mul_comm];exact hz),rfl,q _ I.fresh⟩
end
end L2
namespace Att
open PySem PySem.W PySem.Calls PyProof.Rows
theorem jS {P:Params}{h:Heap}:∀(ns:List Int) (vs:List Value),WellAll P h vs (ns.map WData.int)->IntsAre vs ns:=by
 intro ns
 induction ns with
 |nil=>
  intro vs w
  rw[List.map_nil] at w
  cases w
  exact .nil
 |cons n ns ih=>
  intro vs w
  rw[IQ] at w
  cases w with
  |cons a b=>
   cases a
   exact .cons _ _ (ih _ b)
theorem vg {l:OpenLaw}{n:Nat}(hn:l.most=some n){P:Params}{h:Heap}{args:List WData}{vals:List Value}
  (hpre:l.row.toRowW.claim.pre args=true) (hwl:WellAll P h vals args) :
  ∃a vs ns,vals= [Value.ref a]/\args= [WData.list (ns.map WData.int)]/\h.get? a=some {cls:=.type "list",data:=.seq vs.toArray}/\IntsAre vs ns/\ns.length<=n:=by
 have hsh:WShape.hasAll [] args [.list .int]=true:=(pre_splitW hpre).1
 have hc:l.pre.holds [] {args:=args}=true:=(pre_splitW hpre).2
 obtain⟨d,r,rfl,h1,h2⟩:=hasAllW_cons hsh
 obtain rfl:=hasAllW_nil h2
 obtain⟨xs,rfl,h3⟩:=hasW_list h1
 obtain⟨ns,rfl⟩:=items_int h3
 have hlen:ns.length<=n:=by
  unfold OpenLaw.pre at hc
  have h4:(WTm.not (.lt (.lit (.int (n:Int))) (.len (.arg 0)))).holds [] {args:=[.list (ns.map .int)]}=true:=by
   have h4:=(holds_andW hc).1
   rw[hn] at h4
   exact h4
  have h5:=condW_of h4 (w_not (w_lt w_lit (w_len_list (w_arg rfl))))
  rw[HS] at h5
  refine Nat.le_of_not_lt λq=>?_
  have q':(n:Int) < ((ns.length:Nat):Int):=by omega
  first
   | (rw[HB q'] at h5;exact absurd h5 (by decide))
   | (simp at h5;omega)
 cases hwl with
 |cons w1 w2=>
  cases w2
  cases w1 with
  |list ho hall=>exact⟨_,_,ns,rfl,rfl,ho,jS ns _ hall,hlen⟩
def vA (l:OpenLaw)(args:List WData):l.row.toRowW.claim.post args (.bool true) args=true:=
 postW_of (r:=l.row.toRowW) (X:=(true == true))
  (show WShape.has [] (.bool true) .bool=true by first |rfl |decide |simp[WShape.has,WShape.arms,WShape.armsAll])
  (show (WTm.eq .res (.lit (.bool true))).value [] {args:=args,res:=some (.bool true),after:=args}=some (.bool (true == true)) from w_eq_bool (w_res rfl) w_lit) rfl
def pB {l:OpenLaw}{n:Nat}{q:Program}{loose:List Str}{XP:(Str->Option Value)->Heap->Prop}{YP:World->Heap->Prop}{d:DefRec}
  (hn:l.most=some n) (hdf:d.params.defaults= [])
  (call:∀(w:World) (s₀ s₁:Shared) (mg mb:Str->Option Value) (fa:Addr) (o:Obj) (pm cd doc:Value) (a:Addr) (vs:List Value) (ns:List Int),
   Ground q loose [] XP w s₀ mg mb s₁.heap->YP w s₁.heap->
   s₁.heap.get? fa=some o->o.data=.func (docDef d.name d.params d.body d.scope pm cd doc)->s₁.heap.CodeRec cd d.name->mg d.name=some (.ref fa)->
   s₁.heap.get? a=some {cls:=.type "list",data:=.seq vs.toArray}->IntsAre vs ns->ns.length<=n->s₁.gens=#[]->
   codeAny (model l.prog w) callerA (.call (.ref fa) ⟨[.ref a],[]⟩) (λr s'=>r=.ok (.ret (.bool true))/\OldK s₁.heap s'.heap/\s'.os=s₁.os/\AllBare s'.gens) s₁) :
  WalkO q loose XP YP l.row.toRowW d [] (λf vs=>PySem.call f vs):=by
 intro w s₀ s₁ mg mb G Y fa o pm cd doc dV kV ho hd hcd hD hmg hg args vals as hpre hlay hrd hwl hlo
 obtain rfl:dV=.none:=Dflts.none hD hdf
 obtain rfl:kV=.none:=Dflts.noKw hD
 obtain⟨a,vs,ns,rfl,rfl,hobj,hints,hlen⟩:=vg hn hpre hwl
 refine enter_call (J9 (call w s₀ s₁ mg mb fa o pm cd doc a vs ns G Y ho (fd_plain hd) hcd hmg hobj hints hlen hg) λr s' hq=>?_)
 obtain⟨rfl,h2,h3,h4⟩:=hq
 exact⟨.inl ⟨.bool true,.bool true,[],rfl,λ_=>rfl,.bool true,vA l _,λ_=>⟨List.Pairwise.nil,λ_ hm=>(nomatch hm)⟩⟩,h2,h3,h4⟩
end Att
namespace L2
open PySem PySem.Spec PyProof.Rows
theorem mT:∀{vs:List Value} {ns:List Int},IntsAre vs ns->Vals (ns.map V.int) vs
 |_,_,.nil=>.nil
 |_,_,.cons n t h=>.cons ⟨t,rfl⟩ (mT h)
def CG (H:Hp):Prop:=∀b,H b=none\/∃o xs,H b=some (.aJ o (.lst xs))
theorem wG {P:Program}{w:World}{K:Frag}{mg mb:Str->Option Value}{CX:pH}{k:Nat}{fa a:Addr}{fd:FuncData}{x:Str}{sp:Sp}{s₁:Shared}{vs:List Value}{ns:List Int}
  (KX:K.In s₁.heap) (hns:s₁.heap.Ns mainGlobals mg) (hb:s₁.heap.Ns builtinsNs mb) (hbb:∀x:Str,x≠"__name__"->mb x=bootBuiltins x) (hlim:s₁.heap.NoLimit) (hsys:∃mm,s₁.heap.Ns sysModules mm) (hg:s₁.gens=#[])
  (ha:s₁.heap.get? a=some {cls:=.type "list",data:=.seq vs.toArray}) (hi:IntsAre vs ns) (hl:ns.length<=sizeLine) (hr:cA k callerA)
  (F:∀base:Heap,K.In base->base.Ns mainGlobals mg->cP P w K mg base CX k fa fd [x] sp) (hbind:∀(s:Shared) (u:Value),BindsTo s fd ⟨[u],[]⟩ [(x,u)])
  (hsp:∀H:Hp,CG H->dI K H a (ns.map V.int)->sp [.ref a] H (λv _=>v=.bl true) λ_ _ _=>False)
  (hCX:∀H e s',CX [] H s₁ (λ_ _ _=>False) e s'->False) :
  codeAny (model P w) callerA (.call (.ref fa) ⟨[.ref a],[]⟩) (λr s'=>r=.ok (.ret (.bool true))/\OldK s₁.heap s'.heap/\s'.os=s₁.os/\AllBare s'.gens) s₁:=by
 have rv:=mT hi
 have lenV:=hi.length
 have core:∀H:Hp,CG H->dI K H a (ns.map V.int)->gx P w H s₁.heap->(∀b,H b≠none->b=a)->(H a≠none->K.lookup a=none)->
   codeAny (model P w) callerA (.call (.ref fa) ⟨[.ref a],[]⟩) (λr s'=>r=.ok (.ret (.bool true))/\OldK s₁.heap s'.heap/\s'.os=s₁.os/\AllBare s'.gens) s₁:=by
  intro H hO hS hok hA hK
  have base_of:∀{b:Addr} {o:Obj},s₁.heap.get? b=some o->H b=none->(oE s₁.heap H).get? b=some o:=λe n=>wH e n
  have noA:∀{b:Addr} {o:Obj} {es:Array DictEntry} {ep:Nat},s₁.heap.get? b=some o->o.data=.dict es ep->H b=none:=λ{b o es ep} e d=>by
   cases q:H b with
   |none=>rfl
   |some u=>
    have e':b=a:=hA b (by rw[q];simp)
    subst e'
    rw[ha] at e;cases e
    have d':Data.seq vs.toArray _=Data.dict es ep:=d
    cases d'
  have nsK:∀{b:Addr} {m:Str->Option Value},s₁.heap.Ns b m->(oE s₁.heap H).Ns b m:=λ{b m} ⟨o,es,ep,e,d,r⟩=>⟨o,es,ep,base_of e (noA e d),d,r⟩
  have hKb:K.In (oE s₁.heap H):=λb o e=>base_of (KX b o e) (by
   cases q:H b with
   |none=>rfl
   |some u=>
    have e':b=a:=hA b (by rw[q];simp)
    subst e'
    rw[hK (by rw[q];simp)] at e;cases e)
  have hM:Mod K mg (oE s₁.heap H):=⟨hKb,nsK hns,⟨mb,nsK hb,hbb⟩,let ⟨mc,h1,h2⟩:=hlim;⟨mc,nsK h1,h2⟩,let ⟨mm,h1⟩:=hsys;⟨mm,nsK h1⟩⟩
  have e0:rF P w K mg (oE s₁.heap H) callerA [] s₁ H:=⟨rfl,hM,λb o e=>zY e,Nat.le_of_eq (vN _ _),trivial,λb hb=>absurd (show b∈([]:List Addr) from hb) (by simp),hok,.of_eq hg⟩
  refine J9 ((F _ hKb (nsK hns)).run callerA [] s₁ H ⟨[.ref a],[]⟩ [.ref a] [.ref a] _ _ hr e0 (hbind s₁ (.ref a)) (.cons rfl .nil) (hsp H hO hS)) λr s' h=>?_
  cases r with
  |error e=>exact (hCX H e s' h).elim
  |ok fl=>
   cases fl with
   |next=>exact False.elim h
   |brk=>exact False.elim h
   |cont=>exact False.elim h
   |ret u=>
    obtain⟨v,H',os,bare,un,hok',r',q⟩:=h
    have q':v=.bl true:=q
    subst q'
    obtain rfl:u=Value.bool true:=r'
    refine⟨rfl,OldK.of_keep λb o e=>?_,os,bare⟩
    cases q:H b with
    |none=>exact un.keep b o e q (by intro z;exact absurd (show b∈([]:List Addr) from z) (by simp)) (by simp)
    |some u=>
     rcases hO b with z | ⟨ob,xs,z⟩
     ·rw[q] at z;cases z
     ·have z2:=un.frzs b ob _ z
      obtain⟨e1,_⟩:=hok b _ z
      obtain⟨e2,_⟩:=hok' b _ z2
      rw[e] at e1;cases e1
      exact e2
 cases hk:K.lookup a with
 |some o=>
  have e:=KX a o hk
  rw[ha] at e
  cases e
  refine core (λ_=>none) (λ_=>.inl rfl) (.inr ⟨_,vs.toArray,_,hk,rfl,rfl,rfl,by rw[HJ,lenV];exact hl,by simpa using rv⟩) (λb u z=>by have z':(none:Option HO)=some u:=z;cases z') (λb z=>absurd rfl z) λz=>absurd rfl z
 |none=>
  refine core (λb=>if b=a then some (.aJ {cls:=.type "list",data:=.seq vs.toArray} (.lst (ns.map V.int))) else none) (λb=>?_) (.inl (.inr ⟨{cls:=.type "list",data:=.seq vs.toArray},Hs rfl⟩)) (λb u z=>?_) (λb z=>?_) λ_=>hk
  ·by_cases hb:b=a
   ·exact .inr ⟨_,_,Hs hb⟩
   ·exact .inl (Ht hb)
  ·by_cases hb:b=a
   ·have z':=(Hs hb).symm.trans z
    cases z'
    subst hb
    exact⟨ha,by rw[HS];exact hl,vs,_,rv,ha⟩
   ·have z':=(Ht hb).symm.trans z
    cases z'
  ·by_cases hb:b=a
   ·exact hb
   ·exact absurd (Ht hb) z
def AE {l:PySem.W.OpenLaw}{n k:Nat}{q:Program}{loose:List Str}{XP:(Str->Option Value)->Heap->Prop}{YP:World->Heap->Prop}{d:DefRec}{K:Params->Frag}{CX:World->pH}{sp:World->Sp}{x:Str}
  (hn:l.most=some n) (hn2:n<=sizeLine) (hdf:d.params.defaults= []) (hi:PyProof.Rows.importsNone q=true) (hr:cA k callerA)
  (hY:∀(w:World) (h:Heap),YP w h->(K w.params).In h)
  (F:∀(w:World) (mg:Str->Option Value) (fa:Addr) (h:Heap),(K w.params).In h->h.Ns mainGlobals mg->mg d.name=some (.ref fa)->
   ∃fd:FuncData,(∀(s:Shared) (u:Value),BindsTo s fd ⟨[u],[]⟩ [(x,u)])/\
    ∀base:Heap,(K w.params).In base->base.Ns mainGlobals mg->cP l.prog w (K w.params) mg base (CX w) k fa fd [x] (sp w))
  (hsp:∀(w:World) (H:Hp) (a:Addr) (ns:List Int),ns.length<=n->CG H->dI (K w.params) H a (ns.map V.int)->sp w [.ref a] H (λv _=>v=.bl true) λ_ _ _=>False)
  (hCX:∀(w:World) (H:Hp) (s:Shared) (e:Value) (s':Shared),CX w [] H s (λ_ _ _=>False) e s'->False) :
  PySem.W.WalkO q loose XP YP l.row.toRowW d [] (λf vs=>PySem.call f vs):=by
 refine Att.pB hn hdf λw s₀ s₁ mg mb fa o pm cd doc a vs ns G Y ho hd hcd hmg hobj hints hlen hg=>?_
 have KX:=hY w _ Y
 obtain⟨fd,hb,hF⟩:=F w mg fa _ KX G.T.g hmg
 exact wG KX G.T.g G.T.b G.T.builtins G.T.nolimit (let ⟨mm,h1,_⟩:=(G.T.seer hi).mods;⟨mm,h1⟩) hg hobj hints (IF hlen hn2) hr hF hb (λH hO hS=>hsp w H a ns hlen hO hS) λH e s'=>hCX w H s₁ e s'
def dP (s:Stmt):Arguments:=match s with
 | .FunctionDef _ a _ _ _ _ _ _ _ _=>a
 |_=>{posonlyargs:=[],args:=[],vararg:=none,kwonlyargs:=[],kw_defaults:=[],kwarg:=none,defaults:=[]}
def aY (s:Stmt):List Stmt:=match s with
 | .FunctionDef _ _ b _ _ _ _ _ _ _=>b
 |_=>[]
def aq (s:Stmt):Scope:=match s with
 | .FunctionDef _ _ _ _ _ _ sc _ _ _=>sc
 |_=>{kind:=.function,names:=[],isGenerator:=false,isCoroutine:=false}
abbrev rQ:pH:=λ_ _ _ _ _ _=>False
abbrev E0:XK:=λ_ _ _=>False
def Bb {X:Cx}:Passes rQ X E0:=λ_ _ _ _ _ _ _ h=>h.elim
structure wC (K:Frag)(x qual:Str)(st:Stmt)(f:Addr)(fd:FuncData):Prop where
 ex:∃(oc:Value) (od:Option Addr) (kV doc pm:Value) (an:Option Addr) (cdv ct:Value) (osl:Array (Option Value)),
  fd=PySem.W.fnOf x qual (dP st) (aY st) (aq st) .none kV doc pm an cdv ct/\K.lookup f=some ⟨oc,od,.func fd,osl⟩/\PySem.W.codeIn K cdv qual=true
 kp:PySem.W.keepIn K (.ref f)=true
section
variable {P:Program}{w:World}{K:Frag}{mg:Str->Option Value}{base:Heap}
def wC.ok {x qual:Str}{st:Stmt}{f:Addr}{fd:FuncData}{N ps:List Str}{k:Nat}{sp:Sp}(F:wC K x qual st f fd)(S:aI N ps (aq st))(len:∀vs H Q E,sp vs H Q E->vs.length=ps.length)
  (hbody:∀(cdv:Value) (A:Around) (outer:List Env) (s:Shared) (H:Hp) (vs:List V) (Q:VK) (E:XK),cA k (A.deeper (envOfC qual (aq st) s.heap.objs.size f cdv))->sp vs H Q E->
   ∃t,jU (gC rQ P w K mg base N qual (aq st) f cdv A outer s H E).nox (aY st) t/\t {nx:=λ_ H'=>Q .non H',rt:=Q} (start N vs) H):cP P w K mg base rQ (k + 1) f fd ps sp:=by
 obtain⟨oc,od,kV,doc,pm,an,cdv,ct,osl,rfl,lk,hcd⟩:=F.ex
 refine Bo lk hcd S len λA outer s H vs Q E hr hsp=>?_
 obtain⟨t,h,q⟩:=hbody cdv A outer s H vs Q E hr hsp
 exact⟨t,h.nox,q⟩
def wC.binds {x qual:Str}{st:Stmt}{f:Addr}{fd:FuncData}{ps:List Str}(F:wC K x qual st f fd)
  (h:∀(kV doc pm:Value) (an:Option Addr) (cdv ct:Value) (us:List Value),us.length=ps.length->bindArgs (PySem.W.fnOf x qual (dP st) (aY st) (aq st) .none kV doc pm an cdv ct) ⟨us,[]⟩=pure (ps.zip us)):Binds K fd ps []:=by
 obtain⟨oc,od,kV,doc,pm,an,cdv,ct,osl,rfl,lk,hcd⟩:=F.ex
 exact .all (h kV doc pm an cdv ct)
def sD {x qual:Str}{st:Stmt}{f:Addr}{oc:Value}{od an:Option Addr}{osl:Array (Option Value)}{kV doc pm cdv ct:Value}(l:K.lookup f=some ⟨oc,od,.func (PySem.W.fnOf x qual (dP st) (aY st) (aq st) .none kV doc pm an cdv ct),osl⟩)
  (c:PySem.W.codeIn K cdv qual=true) (k:PySem.W.keepIn K (.ref f)=true):wC K x qual st f (PySem.W.fnOf x qual (dP st) (aY st) (aq st) .none kV doc pm an cdv ct):=⟨⟨oc,od,kV,doc,pm,an,cdv,ct,osl,rfl,l,c⟩,k⟩
end
section
variable {X:Cx}
def pv (i:Nat){x:Str}{pos:Pos}(hN:X.N[i]? =some x:=by rfl)(hv:u7 X.env.scope x:=by first |exact Or.inl rfl |exact Or.inr (Or.inl rfl) |exact Or.inr (Or.inr rfl))(hd:(x == ("__debug__":Str))=false:=by decide)
  (hcd:(x == ("__classdict__":Str))=false:=by decide):PE X (.Name x pos) (zW i):=fB hN hv hd hcd
end
def lY {A B:Prop}(h:B):if false=true then A else B:=by
 rw[Ht HU]
 exact h
def rX {A B:Prop}(h:A):if true=true then A else B:=by
 rw[Hs rfl]
 exact h
def FD (o:Obj):Prop:=∃vs q t,o.data=.fields vs/\vs[1]? =some (.str q t)
def DB:List Value->Prop
 | []=>True
 | .int _ _ :: .int _ _ :: .ref _ :: r=>DB r
 |_=>False
theorem DB.app:∀{l m:List Value},DB l->DB m->DB (l ++ m)
 | [],_,_,h=>h
 | .int _ _ :: .int _ _ :: .ref _ :: r,_,h,k=>DB.app (l:=r) h k
def Kt (H:Hp)(b:Addr):HO->Prop
 | .tbl ps=>∃more:Array Value,H b=some (.tbl (ps ++ more))/\DB more.toList/\∀c,Value.ref c∈more.toList->∃o,H c=some (.aJ o (.own 0))/\FD o
 |o=>H b=some o
theorem Kt.of {H:Hp}{b:Addr}{o:HO}(h:H b=some o):Kt H b o:=by
 cases o with
 |tbl ps=>exact⟨#[],by rw[h];simp,trivial,λc hc=>by simp at hc⟩
 |_=>exact h
def af (H H':Hp):Prop:=∀b o,H b=some o->Kt H' b o
def af.refl (H:Hp):af H H:=λ_ _ h=>Kt.of h
theorem Kt.some {H:Hp}{b:Addr}{o:HO}(h:Kt H b o):∃u,H b=Option.some u/\((∀ps,o≠.tbl ps)->u=o)/\((∃ps,o=.tbl ps)->∃ps,u=.tbl ps):=by
 cases o with
 |tbl ps=>obtain⟨m,e,_⟩:=h;exact⟨_,e,λz=>absurd rfl (z ps),λ_=>⟨_,rfl⟩⟩
 |_=>exact⟨_,h,λ_=>rfl,λ⟨ps,z⟩=>by cases z⟩
theorem Kt.step {H H':Hp}{b:Addr}{o:HO}(h:Kt H b o)(s:af H H'):Kt H' b o:=by
 cases o with
 |tbl ps=>
  obtain⟨m,e,t1,k⟩:=h
  obtain⟨m2,e2,t2,k2⟩:=s b _ e
  refine⟨m ++ m2,by rw[e2,Array.append_assoc],by rw[HY];exact t1.app t2,λc hc=>?_⟩
  rw[HY,HP] at hc
  rcases hc with hc |hc
  ·obtain⟨o,eo,io⟩:=k c hc;exact⟨o,s c _ eo,io⟩
  ·exact k2 c hc
 |lst xs=>exact s b _ h
 |tup xs=>exact s b _ h
 |dK xs=>exact s b _ h
 |dT xs ep=>exact s b _ h
 |set S n=>exact s b _ h
 |ins C dx fs=>exact s b _ h
 |own x=>exact s b _ h
 |xd fs=>exact s b _ h
 |met f x=>exact s b _ h
 |lX lo hi=>exact s b _ h
 |aJ o u=>exact s b _ h
 |ext φ=>exact s b _ h
def af.trans {H H1 H2:Hp}(a:af H H1)(b:af H1 H2):af H H2:=λc o h=>(a c o h).step b
theorem af.free {H H':Hp}(e:af H H'){l:Addr}(h:H' l=Option.none):H l=Option.none:=by
 cases q:H l with
 |none=>rfl
 |some o=>
  obtain⟨u,z,_⟩:=(e l o q).some
  rw[z] at h
  cases h
def af.seq {K:Frag}{H H':Hp}{a:Addr}{xs:List V}(e:af H H')(h:dI K H a xs):dI K H' a xs:=by
 rcases h with (h | ⟨o,h⟩) |h
 ·exact .inl (.inl (e _ _ h))
 ·exact .inl (.inr ⟨o,e _ _ h⟩)
 ·exact .inr h
end L2
end
section
namespace RQ
open PySem L2
def top (i:Nat):Stmt:=PySem.Challenge.pw_rowsorder_k02_pairs_closed.main.body.getD i (.Pass ⟨0,0,0,0⟩)
abbrev fY:Stmt:=top 2
abbrev fR:Stmt:=top 3
abbrev g8:Stmt:=top 4
abbrev gX:Stmt:=top 5
abbrev cw:Stmt:=top 6
abbrev fA:Stmt:=top 24
abbrev fG:Stmt:=top 22
abbrev dR:Stmt:=top 26
abbrev cH:Stmt:=top 27
abbrev fH:Stmt:=top 28
abbrev dY:Stmt:=top 29
abbrev bZ:Stmt:=top 30
abbrev cM:Stmt:=top 31
abbrev eH:Stmt:=top 33
abbrev dk:Stmt:=top 34
abbrev ie:Stmt:=top 35
end RQ
namespace RO
open PySem L2
abbrev fy:Stmt:=RQ.cw
abbrev iF:Stmt:=RQ.top 23
abbrev gJ:Stmt:=RQ.top 32
end RO
end
namespace L2
open PySem PySem.Spec PyProof.Rows
def Rc (h:Heap)(e:Addr)(cls:Value)(T:Addr)(fl:Value):Prop:=∃oe vs oT ts,h.get? e=some oe/\oe.cls=cls/\oe.dict=none/\oe.data=.fields vs/\vs[1]? =some (.ref T)/\vs[2]? =some .none/\T≠e/\h.get? T=some oT/\oT.data=.fields ts/\ts[3]? =some fl
abbrev Keeps (F:List Addr)(ch:List Addr)(h h':Heap):Prop:=∀b o,h.get? b=some o->b∉F->b∉ch->h'.get? b=some o
abbrev Slots (F:List Addr)(h h':Heap):Prop:=∀b o,h.get? b=some o->b∈F->∃sl,h'.get? b=some {o with slots:=sl}
section
variable {M:Model}{A:Around}{E:Value->Shared->Prop}{s:Shared}{base:Heap}{env:Env}{outer:List Env}{L e:Addr}{cls:Value}{Q:Unit->Shared->Prop}
def wV {oe:Obj}{vs:Array Value}{head:Value}{hadNext:Bool}(hfr:A.frames=some (env :: outer))(hl:s.heap.FunFrames base (env :: outer))(hf:env.frame=some L)(he:s.heap.get? e=some oe)(hc:oe.cls=cls)(hdd:oe.dict=none)(hd:oe.data=.fields vs)(hsz:1 < vs.size)(h2:vs[2]? =some .none)
  (h:∀h' T,Keeps (cx (env :: outer)) [e] s.heap h'->Slots (cx (env :: outer)) s.heap h'->s.heap.get? T=none->Rc h' e cls T (rawInt L)->Q () {s with heap:=h'}) :
  wpAny M A (do let a <-frameOf env;let pl <-entryPlaceOf L hadNext;let b <-EntryCells.newEntry head a .none (rawInt L) .none pl;setField (.ref e) 1 b) Q E s:=by
 have eF:e∉cx (env :: outer):=λz=>by
  obtain⟨_,o,q,n⟩:=hl.mem z
  rw[he] at q;cases q;exact n _ hd
 refine Hr (wpAny_frameOf_fun hfr hl hf λh1 s1=>?_)
 refine Hr (wpAny_entryPlaceOf λpl hpl=>?_)
 unfold EntryCells.newEntry newFields
 refine Hr (JI ?_ (hpl.sizeOk5 _ _ _ _ _))
 have e1:h1.get? e=some oe:=(s1.2.1 e eF).trans he
 have e2:=Hx (h:=h1) {cls:=.type "traceback",dict:=none,data:=.fields ([head,.ref L,.none,rawInt L,.none] ++ (if pl.isEmpty then List.replicate 6 Value.none else pl)).toArray} e1
 have tn:h1.objs.size≠e:=Nat.ne_of_gt (HF e1)
 refine Ka e2 hd hsz (h _ h1.objs.size (λb o q hb hn=>?_) (λb o q hb=>?_) ?_ ?_)
 ·have hbe:b≠e:=by simpa using hn
  have q1:h1.get? b=some o:=(s1.2.1 b hb).trans q
  rw[IV _ _ (Ne.symm hbe)]
  exact Hx _ q1
 ·obtain⟨sl,q1⟩:=s1.2.2 b o q
  have hbe:b≠e:=λz=>eF (z▸hb)
  refine⟨sl,?_⟩
  rw[IV _ _ (Ne.symm hbe)]
  exact Hx _ q1
 ·cases q:s.heap.get? h1.objs.size with
  |none=>rfl
  |some o=>obtain⟨sl,q1⟩:=s1.2.2 _ o q;exact absurd (HF q1) (Ic _)
 ·have d3:=Obj.data_mapFields hd (·.setIfInBounds 1 (Value.ref h1.objs.size))
  have e3:=IL (Obj.mapFields (·.setIfInBounds 1 (Value.ref h1.objs.size))) e2 (Obj.isFreed_of_fields d3)
  refine⟨_,_,_,_,e3,(Obj.cls_mapFields _ _).trans hc,?_,d3,by simp[hsz],by rw[Array.getElem?_setIfInBounds_ne (by omega)];exact h2,tn,(IV _ _ (Ne.symm tn)).trans (HR h1 rfl),rfl,?_⟩
  ·unfold Obj.mapFields
   split <;> exact hdd
  ·rcases hpl with rfl | ⟨_,_,_,_,_,_,_,rfl⟩ <;> simp
def tx {oe:Obj}{vs:Array Value}(hfr:A.frames=some (env :: outer))(hl:s.heap.FunFrames base (env :: outer))(hf:env.frame=some L)(he:s.heap.get? e=some oe)(hc:oe.cls=cls)(hdd:oe.dict=none)(hd:oe.data=.fields vs)(h1:vs[1]? =some .none)(h2:vs[2]? =some .none)
  (h:∀h' T,Keeps (cx (env :: outer)) [e] s.heap h'->Slots (cx (env :: outer)) s.heap h'->s.heap.get? T=none->Rc h' e cls T (rawInt L)->Q () {s with heap:=h'}):wpAny M A (noteFrame (.ref e) env) Q E s:=by
 unfold noteFrame
 simp only[hf]
 refine Hr (wpAny_field he hd h1 ?_)
 rw[Ht (by decide)]
 exact wV hfr hl hf he hc hdd hd (IE.mp h1).1 h2 h
def nA {T0:Addr}(hfr:A.frames=some (env :: outer))(hl:s.heap.FunFrames base (env :: outer))(hf:env.frame=some L)(r:Rc s.heap e cls T0 .none)
  (h:∀h' T,Keeps (cx (env :: outer)) [e,T0] s.heap h'->Slots (cx (env :: outer)) s.heap h'->(s.heap.get? T=none\/T=T0)->Rc h' e cls T (rawInt L)->Q () {s with heap:=h'}):wpAny M A (noteFrame (.ref e) env) Q E s:=by
 obtain⟨oe,vs,oT,ts,he,hc,hdd,hd,h1,h2,hTe,hT,hdT,h3⟩:=r
 have tF:T0∉cx (env :: outer):=λz=>by
  obtain⟨_,o,q,n⟩:=hl.mem z
  rw[hT] at q;cases q;exact n _ hdT
 unfold noteFrame
 simp only[hf]
 refine Hr (wpAny_field he hd h1 ?_)
 rw[Hs (show (Value.ref T0 != Value.none)=true from by simp)]
 refine Hr (wpAny_field hT hdT h3 ?_)
 rw[Ht (show ¬((Value.none == rawInt L)=true) from by simp[rawInt])]
 refine Hr (Ka hT hdT (IE.mp h3).1 ?_)
 have oth:∀b,b≠T0->(s.heap.update T0 (Obj.mapFields (·.setIfInBounds 3 Value.none))).get? b=s.heap.get? b:=λb hb=>IV _ _ (Ne.symm hb)
 have nf:∀b o,s.heap.get? b=some o->(∀ws,o.data≠.fields ws)->b≠T0:=λb o q n z=>by
  rw[z,hT] at q;cases q;exact n _ hdT
 refine wV (base:=base) hfr (hl.of_keeps λb o q n=>⟨o,(oth b (nf b o q n)).trans q,rfl⟩) hf ((oth e (Ne.symm hTe)).trans he) hc hdd hd (IE.mp h1).1 h2 λh' T kp sl tn rc=>?_
 refine h h' T (λb o q hb hn=>?_) (λb o q hb=>?_) ?_ rc
 ·simp only[HA,JQ,or_false,not_or] at hn
  exact kp b o ((oth b hn.2).trans q) hb (by simp[hn.1])
 ·exact sl b o ((oth b λz=>tF (z▸hb)).trans q) hb
 ·by_cases z:T=T0
  ·exact .inr z
  ·exact .inl ((oth T z).symm.trans tn)
def kf {T:Addr}{fl:Value}(r:Rc s.heap e cls T fl)(h:∀h',Keeps [] [T] s.heap h'->Rc h' e cls T .none->Q () {s with heap:=h'}):wpAny M A (setFlight (.ref e) none) Q E s:=by
 obtain⟨oe,vs,oT,ts,he,hc,hdd,hd,h1,h2,hTe,hT,hdT,h3⟩:=r
 have sz:3 < ts.size:=(IE.mp h3).1
 unfold setFlight
 refine Hr (wpAny_field he hd h1 ?_)
 rw[Hs (show (Value.ref T != Value.none)=true from by simp)]
 refine Ka hT hdT sz (h _ (λb o q _ hn=>?_) ?_)
 ·have hb:b≠T:=by simpa using hn
  exact (IV _ _ (Ne.symm hb)).trans q
 ·have d3:=Obj.data_mapFields hdT (·.setIfInBounds 3 ((none:Option Addr).elim Value.none λf=>rawInt f))
  exact⟨oe,vs,_,_,(IV _ _ hTe).trans he,hc,hdd,hd,h1,h2,hTe,IL _ hT (Obj.isFreed_of_fields d3),d3,by simp[sz]⟩
end
section
variable {P:Program}{w:World}
theorem aU.there {H:Hp}{h:Heap}{a:Addr}{o:HO}(x:aU P w H h a o):∃u,h.get? a=some u:=by
 cases o with
 |lst xs=>obtain⟨_,_,_,_,e⟩:=x;exact⟨_,e⟩
 |tup xs=>obtain⟨_,_,_,u,e,_⟩:=x;exact⟨u,e⟩
 |dK kvs=>obtain⟨_,_,_,_,o,_,_,e,_⟩:=x;exact⟨_,e⟩
 |dT kvs ep=>obtain⟨_,_,_,_,o,_,e,_⟩:=x;exact⟨_,e⟩
 |set S n=>obtain⟨o,_,_,_,e,_⟩:=x;exact⟨_,e⟩
 |ins C dx fs=>obtain⟨_,_,_,e,_⟩:=x;exact⟨_,e⟩
 |own y=>obtain⟨_,e⟩:=x;exact⟨_,e⟩
 |xd fs=>obtain⟨_,⟨_,_,_,e,_⟩,_⟩:=x;exact⟨_,e⟩
 |lX lo hi=>obtain⟨_,_,_,e⟩:=x;exact⟨_,e⟩
 |aJ ob u=>obtain⟨e,_⟩:=x;exact⟨_,e⟩
 |tbl ps=>exact⟨_,show h.get? a=some _ from x⟩
 |met f y=>exact⟨_,show h.get? a=some _ from x⟩
 |ext φ=>obtain⟨_,⟨_,e⟩,_⟩:=x;exact⟨_,e⟩
end
structure Lies (h₀:Heap)(H:Hp)(h:Heap)(e:Addr)(cls:Value):Prop where
 free:H e=none
 new:h₀.get? e=none
 ob:∃T,Rc h e cls T .none/\H T=none/\h₀.get? T=none
def i7 (P:Program)(w:World):pH:=λouter H s E e s'=>∃ea cls H',e=.ref ea/\s'.os=s.os/\AllBare s'.gens/\Un (cx outer) [] H H' s.heap s'.heap/\gx P w H' s'.heap/\Lies s.heap H' s'.heap ea cls/\E cls none H'
section
variable {P:Program}{w:World}{M:Model}{A:Around}{E':Value->Shared->Prop}{s:Shared}{env:Env}{outer:List Env}{L e:Addr}{cls:Value}{base h₀:Heap}{H:Hp}{Q:Unit->Shared->Prop}
def iL {h h':Heap}(hok:gx P w H h)(k:∀b o,h.get? b=some o->(∃u,H b=some u)->h'.get? b=some o):gx P w H h':=λa o ha=>
 (hok a o ha).stay (λb u hb q=>k b u q (hb.elim (λz=>⟨o,by rw[z];exact ha⟩) λz=>⟨_,z⟩)) (λ_ q=>q) λ_ _ q=>q
def yZ (hfr:A.frames=some (env :: outer))(hf:env.frame=some L)(hfn:s.heap.FunFrames base (env :: outer))(hok:gx P w H s.heap)(hff:∀b∈cx (env :: outer),H b=none)(Ly:Lies h₀ H s.heap e cls)(hex:∀b o,h₀.get? b=some o->∃o',s.heap.get? b=some o')
  (hQ:∀h',(∀b o,s.heap.get? b=some o->b∉cx (env :: outer)->((∃o0,h₀.get? b=some o0)\/∃u,H b=some u)->h'.get? b=some o)->(∀b o,s.heap.get? b=some o->b∈cx (env :: outer)->∃sl,h'.get? b=some {o with slots:=sl})->Lies h₀ H h' e cls->gx P w H h'->Q () {s with heap:=h'}) :
  wpAny M A (leaving env (.ref e)) Q E' s:=by
 obtain⟨fr,nw,T0,rc,hHT,hnT⟩:=Ly
 obtain⟨oe,vs,oT,ts,he,hc,hdd,hd,h1,h2,hTe,hT,hdT,h3⟩:=id rc
 have tF:T0∉cx (env :: outer):=λz=>by
  obtain⟨_,o,q,n⟩:=hfn.mem z
  rw[hT] at q;cases q;exact n _ hdT
 unfold leaving
 refine Hr (nA hfr hfn hf rc λh4 T kp sl tn rc4=>kf rc4 λh5 kp5 rc5=>?_)
 have nT:∀b o,s.heap.get? b=some o->b≠T0->b≠T:=λb o q n z=>by
  rcases tn with tn |tn
  ·rw[z,tn] at q;cases q
  ·exact n (z.trans tn)
 have kept:∀b o,s.heap.get? b=some o->b∉cx (env :: outer)->((∃o0,h₀.get? b=some o0)\/∃u,H b=some u)->h5.get? b=some o:=λb o q hb hor=>by
  have be:b≠e:=λz=>by subst z;rcases hor with⟨_,z⟩ | ⟨_,z⟩ <;> simp_all
  have bT:b≠T0:=λz=>by subst z;rcases hor with⟨_,z⟩ | ⟨_,z⟩ <;> simp_all
  exact kp5 b o (kp b o q hb (by simp[be,bT])) (by simp) (by simp[nT b o q bT])
 have slot:∀b o,s.heap.get? b=some o->b∈cx (env :: outer)->∃sl,h5.get? b=some {o with slots:=sl}:=λb o q hb=>by
  obtain⟨x,q4⟩:=sl b o q hb
  exact⟨x,kp5 b _ q4 (by simp) (by simp[nT b o q λz=>tF (z▸hb)])⟩
 have fresh:H T=none/\h₀.get? T=none:=by
  rcases tn with tn |tn
  ·refine⟨?_,?_⟩
   ·cases q:H T with
    |none=>rfl
    |some u=>obtain⟨o,qo⟩:=(hok T u q).there;rw[tn] at qo;cases qo
   ·cases q:h₀.get? T with
    |none=>rfl
    |some u=>obtain⟨o,qo⟩:=hex T u q;rw[tn] at qo;cases qo
  ·rw[tn];exact⟨hHT,hnT⟩
 refine hQ h5 kept slot ⟨fr,nw,T,rc5,fresh.1,fresh.2⟩ (iL hok λb o q hu=>kept b o q (λz=>?_) (.inr hu))
 obtain⟨u,hu⟩:=hu
 rw[hff b z] at hu;cases hu
def rK {h:Heap}{args:List Value}(hfr:A.frames=some (env :: outer))(hf:env.frame=some L)(hfn:h.FunFrames base (env :: outer))(hok:gx P w H h)(hff:∀b∈cx (env :: outer),H b=none)(hex:∀b o,h₀.get? b=some o->∃o',h.get? b=some o')(hx:Heap.MadeExcOf h s.heap e cls args)
  (hQ:∀h',(∀b o,h.get? b=some o->b∉cx (env :: outer)->h'.get? b=some o)->(∀b o,h.get? b=some o->b∈cx (env :: outer)->∃sl,h'.get? b=some {o with slots:=sl})->Lies h₀ H h' e cls->gx P w H h'->Q () {s with heap:=h'}) :
  wpAny M A (leaving env (.ref e)) Q E' s:=by
 obtain⟨t,he,_,_⟩:=hx.there
 unfold leaving
 refine Hr (tx (cls:=cls) hfr (hfn.of_keeps λb o q _=>⟨o,hx.keeps b o q,rfl⟩) hf he rfl rfl rfl rfl rfl λh4 T kp sl tn rc4=>kf rc4 λh5 kp5 rc5=>?_)
 have ne:∀b o,h.get? b=some o->b≠e:=λb o q z=>by rw[z,hx.new] at q;cases q
 have nT:∀b o,h.get? b=some o->b≠T:=λb o q z=>by
  have:=hx.keeps b o q
  rw[z,tn] at this;cases this
 have kept:∀b o,h.get? b=some o->b∉cx (env :: outer)->h5.get? b=some o:=λb o q hb=>kp5 b o (kp b o (hx.keeps b o q) hb (by simp[ne b o q])) (by simp) (by simp[nT b o q])
 have slot:∀b o,h.get? b=some o->b∈cx (env :: outer)->∃sl,h5.get? b=some {o with slots:=sl}:=λb o q hb=>by
  obtain⟨x,q4⟩:=sl b o (hx.keeps b o q) hb
  exact⟨x,kp5 b _ q4 (by simp) (by simp[nT b o q])⟩
 have fresh:∀{b:Addr},h.get? b=none->H b=none/\h₀.get? b=none:=λ{b} hb=>by
  refine⟨?_,?_⟩
  ·cases q:H b with
   |none=>rfl
   |some u=>obtain⟨o,qo⟩:=(hok b u q).there;rw[hb] at qo;cases qo
  ·cases q:h₀.get? b with
   |none=>rfl
   |some u=>obtain⟨o,qo⟩:=hex b u q;rw[hb] at qo;cases qo
 have no:h.get? T=none:=by
  cases q:h.get? T with
  |none=>rfl
  |some o=>exact absurd rfl (nT T o q)
 obtain⟨f1,f2⟩:=fresh hx.new
 obtain⟨g1,g2⟩:=fresh no
 refine hQ h5 kept slot ⟨f1,f2,T,rc5,g1,g2⟩ (iL hok λb o q hu=>kept b o q λz=>?_)
 obtain⟨u,hu⟩:=hu
 rw[hff b z] at hu;cases hu
end
section
variable {P:Program}{w:World}{K:Frag}{mg:Str->Option Value}{base:Heap}{N:List Str}{qual:Str}{scope:Scope}{f:Addr}{cd:Value}{A:Around}{outer:List Env}{s0:Shared}{H0:Hp}{E:XK}
def bu:Passes (i7 P w) (gC (i7 P w) P w K mg base N qual scope f cd A outer s0 H0 E) E:=by
 intro pins σ H s e s' I hcx
 obtain⟨ea,cls,H',rfl,os,bare,un,hok,Ly,q⟩:=hcx
 have I':=I.call' os un hok bare (λb hb=>absurd hb (by simp))
 have old:∀{b:Addr},s.heap.get? b=none->s0.heap.get? b=none:=λ{b} hb=>by
  cases z:s0.heap.get? b with
  |none=>rfl
  |some o=>obtain⟨o',z'⟩:=I.base.there b o z (show b∉([]:List Addr) by simp);rw[hb] at z';cases z'
 have Ly0:Lies s0.heap H' s'.heap ea cls:=by
  obtain⟨fr,nw,T,rc,hHT,hnT⟩:=Ly
  exact⟨fr,old nw,T,rc,hHT,old hnT⟩
 have above:s0.heap.objs.size<=(envOfC qual scope s0.heap.objs.size f cd).locals:=I.ok.above
 refine yZ (base:=base) (h₀:=s0.heap) I'.ok.frames rfl I'.stack I'.hok I'.stkFree Ly0 (λb o z=>I'.base.there b o z (show b∉([]:List Addr) by simp)) λh' kept slot Ly' hok'=>?_
 have nL:∀{b:Addr} {o:Obj},s0.heap.get? b=some o->b∉cx outer->b∉cx (envOfC qual scope s0.heap.objs.size f cd :: outer):=λ{b o} z hb hm=>by
  rcases HA.mp (I'.stkSub b hm) with e |e
  ·have:=HF z
   rw[e] at this
   exact absurd (HZ this above) (Ic _)
  ·exact hb e
 have inn:∀{b:Addr},b∈cx outer->b∈cx (envOfC qual scope s0.heap.objs.size f cd :: outer):=λ{b} hb=>by
  obtain⟨en,h1,h2⟩:=Jn.mp hb
  exact Jn.mpr ⟨en,Hz _ h1,h2⟩
 refine⟨ea,cls,H',rfl,os.trans I.os,bare,⟨λb o z n hb _=>?_,λb o z n hb _=>?_,λb o z n _=>I'.base.free b o z n (show b∉([]:List Addr) by simp),λb o z _=>?_,I'.base.tups,I'.base.frzs,I'.base.tbls⟩,hok',Ly',q⟩
 ·exact kept b o (I'.base.keep b o z n hb (show b∉([]:List Addr) by simp)) (nL z hb) (.inl ⟨o,z⟩)
 ·obtain⟨sl,z1⟩:=I'.base.slot b o z n hb (show b∉([]:List Addr) by simp)
  obtain⟨sl2,z2⟩:=slot b _ z1 (inn hb)
  exact⟨sl2,z2⟩
 ·obtain⟨o',z1⟩:=I'.base.there b o z (show b∉([]:List Addr) by simp)
  by_cases hb:b∈cx (envOfC qual scope s0.heap.objs.size f cd :: outer)
  ·obtain⟨sl,z2⟩:=slot b o' z1 hb
   exact⟨_,z2⟩
  ·exact⟨o',kept b o' z1 hb (.inl ⟨o,z⟩)⟩
def Ds (C:Addr)(E:XK)(t:TA):TS:=λ_ σ H=>t σ H λvs H1=>vs.length<=sizeLine/\E (.ref C) none H1
def y9 {x:Str}{C:Addr}{np cpos pos:Pos}{e0:Expr}{es:List Expr}{t:TA}{Bn newId initId:String}{bmB:List Value}(FB:ExcBaseFacts Bn newId initId bmB)(hbb:bmB.contains (.type "BaseException")=true)(q:PySem.W.excIn K C bmB newId=true)
  (hg:Gl (gC (i7 P w) P w K mg base N qual scope f cd A outer s0 H0 E) x) (hm:mg x=some (.ref C)) (ha:PA (gC (i7 P w) P w K mg base N qual scope f cd A outer s0 H0 E) (e0 :: es) t)
  (he:starEach (e0 :: es) (envOfC qual scope s0.heap.objs.size f cd)=(false,eval e0 (envOfC qual scope s0.heap.objs.size f cd)) :: starEach es (envOfC qual scope s0.heap.objs.size f cd):=by rfl)
  (hpl:(backTo cpos (starEach es (envOfC qual scope s0.heap.objs.size f cd))).any (·.1)=false:=by rfl) (hdb:(x == ("__debug__":Str))=false:=by decide) :
  PS (gC (i7 P w) P w K mg base N qual scope f cd A outer s0 H0 E) (.Raise (some (.Call (.Name x np) (e0 :: es) [] cpos)) none pos) (Ds C E t):=by
 intro pins s σ H D I h
 have own:∀{hh:Heap},K.In hh->∃bm Nn nm qn bs hdct sn sub ab col dd k0 k1 k2 k3 k5 mN,hh.get? C=some (excClassObj nm qn C Nn bs bm hdct sn sub ab col dd k0 k1 k2 k3 k5 newId)/\hh.Ns Nn mN/\mN "__init__"=none/\OwnTail hh bmB bm:=λ{hh} X=>by
  have q:=q
  unfold PySem.W.excIn at q
  split at q
  ·rename_i dd cdd sl ho
   split at q
   ·rename_i C' bm k0 k1 k2 k3 n k5 hm hs
    simp only[Ir,beq_iff_eq,Kx] at q
    obtain⟨⟨⟨⟨⟨rfl,rfl⟩,hdel⟩,ht⟩,hok⟩,hni⟩:=q
    obtain⟨nm,bs,mro,ns,qn,hd,sn,sub,ab,col,del⟩:=cdd
    dsimp only at hm hdel hok hni
    subst hm hdel
    have hsl:sl=#[k0,k1,k2,k3,some (.builtin n),k5]:=by
     obtain⟨l⟩:=sl
     simp only at hs
     rw[hs]
    subst hsl
    exact⟨bm,ns,nm,qn,bs,hd,sn,sub,ab,col,dd,k0,k1,k2,k3,k5,_,X _ _ ho,.of_isNs (PySem.W.isNs_of_in X hok),PySem.W.nsMap_none_of_in X hok hni,PySem.W.tail_of_in X ht⟩
   ·cases q
  ·cases q
 obtain⟨bm,Nn,nm,qn,bs,hdct,sn,sub,ab,col,dd,k0,k1,k2,k3,k5,mN,hC,hN,hni,TL⟩:=own I.ok.mod.kin
 have hA:=ha cpos pins s σ H _ I h
 refine wpAny_Raise_call_subT (C:=C) (nm:=nm) (q:=qn) (N:=Nn) (bs:=bs) (bm:=bm) (hdct:=hdct) (sn:=sn) (sub:=sub) (ab:=ab) (col:=col) (dd:=dd) (k0:=k0) (k1:=k1) (k2:=k2) (k3:=k3) (k5:=k5) FB (mN:=mN) (TL.hasType hbb) (I.ok.hd rfl) ?_ hni (jg I hg hm ⟨rfl,?_⟩ hdb)
 ·show (backTo cpos (starEach (e0 :: es) (envOfC qual scope s0.heap.objs.size f cd))).any (·.1)=false
  rw[he]
  show (false || (backTo cpos (starEach es (envOfC qual scope s0.heap.objs.size f cd))).any (·.1))=false
  rw[hpl];rfl
 have hA:wpAny _ _ (spliced (backTo cpos (starEach (e0 :: es) (envOfC qual scope s0.heap.objs.size f cd)))) _ _ s:=hA
 show wpAny _ _ (evalArgs (.ref C) true (backTo cpos (starEach (e0 :: es) (envOfC qual scope s0.heap.objs.size f cd))) []) _ _ s
 rw[he] at hA ⊢
 refine Calls.evalArgs_plain (bB hA λus s2 ⟨vs,H2,I2,r2,hl2,q2⟩=>⟨rfl,by show us.length<=_;rw[<-r2.length];exact hl2,I2.bk _ _ hC,hN.keeps I2.bk,TL.keeps I2.bk,λh' e hx=>?_⟩)
 have above:s0.heap.objs.size<=(envOfC qual scope s0.heap.objs.size f cd).locals:=I2.ok.above
 have nil:∀b:Addr,b∉([]:List Addr):=λb=>by simp
 refine rK (s:={s2 with heap:=h'}) (h:=s2.heap) (base:=base) (h₀:=s0.heap) I2.ok.frames rfl I2.stack I2.hok I2.stkFree (λb o z=>I2.base.there b o z (nil b)) hx λh2 kept slot Ly hok=>?_
 have nL:∀{b:Addr} {o:Obj},s0.heap.get? b=some o->b∉cx outer->b∉cx (envOfC qual scope s0.heap.objs.size f cd :: outer):=λ{b o} z hb hm=>by
  rcases HA.mp (I2.stkSub b hm) with e |e
  ·have:=HF z
   rw[e] at this
   exact absurd (HZ this above) (Ic _)
  ·exact hb e
 have inn:∀{b:Addr},b∈cx outer->b∈cx (envOfC qual scope s0.heap.objs.size f cd :: outer):=λ{b} hb=>by
  obtain⟨en,h1,h2⟩:=Jn.mp hb
  exact Jn.mpr ⟨en,Hz _ h1,h2⟩
 refine⟨e,.ref C,H2,rfl,I2.os,I2.bare,⟨λb o z n hb _=>?_,λb o z n hb _=>?_,λb o z n _=>I2.base.free b o z n (nil b),λb o z _=>?_,I2.base.tups,I2.base.frzs,I2.base.tbls⟩,hok,Ly,q2⟩
 ·exact kept b o (I2.base.keep b o z n hb (nil b)) (nL z hb)
 ·obtain⟨sl,z1⟩:=I2.base.slot b o z n hb (nil b)
  obtain⟨sl2,z2⟩:=slot b _ z1 (inn hb)
  exact⟨sl2,z2⟩
 ·obtain⟨o',z1⟩:=I2.base.there b o z (nil b)
  by_cases hb:b∈cx (envOfC qual scope s0.heap.objs.size f cd :: outer)
  ·obtain⟨sl,z2⟩:=slot b o' z1 hb
   exact⟨_,z2⟩
  ·exact⟨o',kept b o' z1 hb⟩
end
section
variable {X:Cx}{pins:List (Addr×Obj)}{σ:St}{H:Hp}{s:Shared}{h':Heap}{e T:Addr}{oe oT:Obj}{vs ts:Array Value}
def Inv.exc {tk:Nat}(I:Inv X pins σ H s)(hex:X.ex= [])(he:s.heap.get? e=some oe)(hd:oe.data=.fields vs)(hT:s.heap.get? T=some oT)(hdT:oT.data=.fields ts)(n1:X.s₀.heap.get? e=none)(n2:X.s₀.heap.get? T=none)(pn:∀p∈X.pn ++ pins,p.1≠e/\p.1≠T)
  (kept:∀b o,s.heap.get? b=some o->b∉cx X.stack->b≠e->b≠T->h'.get? b=some o) (slot:∀b o,s.heap.get? b=some o->b∈cx X.stack->∃sl,h'.get? b=some {o with slots:=sl}) (hok:gx X.prog X.w H h') :
  Inv X pins σ H {s with heap:=h',toks:=tk}:=by
 have nil:∀b:Addr,b∉X.ex:=λb=>by rw[hex];simp
 have any:∀b o,s.heap.get? b=some o->(∀ws,o.data≠.fields ws)->∃sl,h'.get? b=some {o with slots:=sl}:=λb o q n=>by
  by_cases hb:b∈cx X.stack
  ·exact slot b o q hb
  ·refine⟨o.slots,kept b o q hb (λz=>?_) λz=>?_⟩
   ·rw[z,he] at q;cases q;exact n _ hd
   ·rw[z,hT] at q;cases q;exact n _ hdT
 have cellK:∀{c:Addr} {v:Option Value},s.heap.IsCell c v->h'.IsCell c v:=λ{c v} ⟨o,ho,hdc⟩=>by
  obtain⟨sl,q⟩:=any c o ho λws z=>by rw[hdc] at z;cases z
  exact⟨_,q,hdc⟩
 have nsub:∀{b:Addr},b≠X.env.locals->b∉X.fs->b∉cx X.stack:=λ{b} h1 h2 hb=>(HA.mp (I.stkSub b hb)).elim h1 h2
 have neL:∀b o,X.s₀.heap.get? b=some o->b≠X.env.locals:=λb o q=>Ih (HZ (HF q) I.ok.above)
 have ne2:∀b o,X.s₀.heap.get? b=some o->b≠e/\b≠T:=λb o q=>⟨λz=>by (rw[z,n1] at q;cases q),λz=>by (rw[z,n2] at q;cases q)⟩
 refine⟨I.ok,I.os,I.bare,⟨λb o q n hb hx=>?_,λb o q n hb hx=>?_,I.base.free,λb o q hx=>?_,I.base.tups,I.base.frzs,I.base.tbls⟩,?_,λx c q=>?_,I.free,I.freeC,λp hp=>?_,hok,I.len⟩
 ·exact kept b o (I.base.keep b o q n hb hx) (nsub (neL b o q) hb) (ne2 b o q).1 (ne2 b o q).2
 ·obtain⟨sl,q1⟩:=I.base.slot b o q n hb hx
  by_cases hs:b∈cx X.stack
  ·obtain⟨sl2,q2⟩:=slot b _ q1 hs
   exact⟨sl2,q2⟩
  ·exact⟨sl,kept b _ q1 hs (ne2 b o q).1 (ne2 b o q).2⟩
 ·obtain⟨o',q1⟩:=I.base.there b o q hx
  by_cases hs:b∈cx X.stack
  ·obtain⟨sl2,q2⟩:=slot b _ q1 hs
   exact⟨_,q2⟩
  ·exact⟨o',kept b _ q1 hs (ne2 b o q).1 (ne2 b o q).2⟩
 ·obtain⟨m,⟨o,es,ep,ho,hdd,r⟩,hl⟩:=I.loc
  obtain⟨sl,q⟩:=any _ o ho λws z=>by rw[hdd] at z;cases z
  refine⟨m,⟨_,es,ep,q,hdd,r⟩,λi x v e1 e2 e3=>?_⟩
  obtain⟨u,r',l⟩:=hl i x v e1 e2 e3
  refine⟨u,r',?_⟩
  rcases l with l | ⟨k,c,q,z⟩
  ·exact .inl l
  ·exact .inr ⟨k,c,q,cellK z⟩
 ·obtain⟨v,z⟩:=I.cell x c q
  exact⟨v,cellK z⟩
 ·obtain⟨q,n,ne,nf,d⟩:=I.pin p hp
  exact⟨kept p.1 p.2 q (nsub ne nf) (pn p hp).1 (pn p hp).2,n,ne,nf,d⟩
def fm (e:Addr)(cls:Value)(h:Heap):Prop:=∃o vs,h.get? e=some o/\o.cls=cls/\o.dict=none/\o.data=.fields vs/\vs[2]? =some .none
def Rc.isExc {h:Heap}{e T:Addr}{cls fl:Value}(r:Rc h e cls T fl):fm e cls h:=let ⟨oe,vs,_,_,a,b,c,d,_,f,_⟩:=r;⟨oe,vs,a,b,c,d,f⟩
def Inv.track {cls:Value}(I:Inv X pins σ H s)(he:fm e cls s.heap)(hn:H e=none)(n1:X.s₀.heap.get? e=none)(hL:e≠X.env.locals)(hc:∀x c,X.env.cells.lookup x=some c->c≠e)(pn:∀p∈X.pn ++ pins,p.1≠e) :
  Inv X pins σ (upd H e (.ext (fm e cls))) s:=by
 have un:∀{b:Addr},b≠e->upd H e (.ext (fm e cls)) b=H b:=λ{b} z=>ao z
 have keepT:∀{b:Addr} {o:HO},H b=some o->upd H e (.ext (fm e cls)) b=some o:=λ{b o} q=>by rw[un (ar q hn)];exact q
 refine⟨I.ok,I.os,I.bare,⟨I.base.keep,I.base.slot,λb o q n hx=>?_,I.base.there,λb xs q=>keepT (I.base.tups b xs q),λb o u q=>keepT (I.base.frzs b o u q),λb ps q=>?_⟩,I.loc,I.cell,?_,λx c q=>?_,λp hp=>?_,λa o ha=>?_,I.len⟩
 ·rw[un (λz=>by rw[z,n1] at q;cases q)];exact I.base.free b o q n hx
 ·obtain⟨m,q1⟩:=I.base.tbls b ps q
  exact⟨m,keepT q1⟩
 ·rw[un hL.symm];exact I.free
 ·rw[un (hc x c q)];exact I.freeC x c q
 ·obtain⟨q,n,ne,nf,d⟩:=I.pin p hp
  exact⟨q,by rw[un (pn p hp)];exact n,ne,nf,d⟩
 ·by_cases z:a=e
  ·subst z
   rw[ah] at ha
   cases ha
   obtain⟨o,vs,q,c⟩:=he
   exact⟨⟨o,vs,q,c⟩,⟨o,q⟩,λh1 h2 ⟨o1,v1,q1,c1⟩ k=>⟨o1,v1,k o1 q1,c1⟩⟩
  ·rw[un z] at ha
   exact (I.hok a o ha).stay (λb u _ q=>q) (λb q=>keepT q) λb xs q=>q.imp keepT λ⟨o,q⟩=>⟨o,keepT q⟩
def we {M:Model}{A:Around}{E:Value->Shared->Prop}{i:Nat}{x:Str}{v:V}{Q:Unit->Shared->Prop}(I:Inv X pins σ H s)(hN:X.N.Nodup)(hi:X.N[i]? =some x)(hk:X.env.scope.names.lookup x=some .local)(hv:σ[i]? =some (some v))
  (h:∀s',Inv X pins (σ.set i none) H s'->Q () s'):wpAny M A (unbindName X.env x) Q E s:=by
 obtain⟨m,hn,hl⟩:=id I.loc
 have hcls:(X.env.scope.kind == .class || (X.env.scope.kind == .module && X.env.locals != X.env.globals))=false:=by rw[I.ok.kind];rfl
 obtain⟨u,_,look⟩:=hl i x v hi hv (.inl hk)
 have hm:m x=some u:=by
  rcases look with⟨_,q⟩ | ⟨k,_⟩
  ·exact q
  ·have hk':X.env.kindOf x=some .local:=hk
   rw[hk'] at k
   rcases k with k |k <;> cases k
 refine wpAny_unbindName_local hk hn hm hcls λh' u' hn' hs=>?_
 obtain⟨oL,_,_,hoL,_⟩:=id hn
 have same:∀{b:Addr} {o:Obj},b≠X.env.locals->s.heap.get? b=some o->h'.get? b=some o:=λ{b o} z q=>(hs.2 b z).trans q
 have neL:∀{b:Addr} {o:Obj},X.s₀.heap.get? b=some o->b≠X.env.locals:=λ{b o} q=>Ih (HZ (HF q) I.ok.above)
 have hok:gx X.prog X.w H h':=iL I.hok λb o q hu=>same (λz=>by obtain⟨w',hw⟩:=hu;rw[z,I.free] at hw;cases hw) q
 refine h _ ⟨I.ok,I.os,I.bare,⟨λb o q n hb hx=>same (neL q) (I.base.keep b o q n hb hx),λb o q n hb hx=>?_,I.base.free,λb o q hx=>?_,I.base.tups,I.base.frzs,I.base.tbls⟩,⟨_,hn',λj y v' e1 e2 e3=>?_⟩,λy c q=>?_,I.free,I.freeC,λp hp=>?_,hok,by simpa using I.len⟩
 ·obtain⟨sl,q1⟩:=I.base.slot b o q n hb hx
  exact⟨sl,same (neL q) q1⟩
 ·obtain⟨o',q1⟩:=I.base.there b o q hx
  exact⟨o',same (neL q) q1⟩
 ·by_cases hj:j=i
  ·subst hj
   rw[HI (by rw[I.len];exact (HE.mp hi).1)] at e2
   cases e2
  ·rw[HL (Ne.symm hj)] at e2
   obtain⟨u2,r',q⟩:=hl j y v' e1 e2 e3
   refine⟨u2,r',?_⟩
   rcases q with⟨k,q⟩ | ⟨k,c,q,z⟩
   ·have:y≠x:=λz=>hj (kO hN e1 (z▸hi))
    exact .inl ⟨k,by simp[this,q]⟩
   ·exact .inr ⟨k,c,q,z.sameBut hs (I.cne y c q)⟩
 ·obtain⟨w',z⟩:=I.cell y c q
  exact⟨w',z.sameBut hs (I.cne y c q)⟩
 ·obtain⟨q,n,ne,nf,d⟩:=I.pin p hp
  exact⟨same ne q,n,ne,nf,d⟩
end
def so (bmB:List Value)(newId:String)(C:Addr)(bm:List Value)(h:Heap):Prop:=∃Nn nm qn bs hdct sn sub ab col dd k0 k1 k2 k3 k5,h.get? C=some (excClassObj nm qn C Nn bs bm hdct sn sub ab col dd k0 k1 k2 k3 k5 newId)/\OwnTail h bmB bm
def mroIn (K:Frag)(C:Addr):List Value:=match K.lookup C with
 |some ⟨_,_,.cls cd,_⟩=>cd.mro
 |_=>[]
def tW {K:Frag}{C:Addr}{bmB:List Value}{newId:String}(q:PySem.W.excIn K C bmB newId=true):∃bm,mroIn K C=.ref C :: bm/\∀{h:Heap},K.In h->so bmB newId C bm h:=by
 have q0:=q
 unfold PySem.W.excIn at q
 split at q
 ·rename_i dd cdd sl ho
  split at q
  ·rename_i C' bm k0 k1 k2 k3 n k5 hm hs
   simp only[Ir,beq_iff_eq,Kx] at q
   obtain⟨⟨⟨⟨⟨rfl,rfl⟩,hdel⟩,ht⟩,hok⟩,hni⟩:=q
   refine⟨bm,by unfold mroIn;rw[ho];exact hm,λ{h} X=>?_⟩
   obtain⟨nm,bs,mro,ns,qn,hd,sn,sub,ab,col,del⟩:=cdd
   dsimp only at hm hdel hok hni
   subst hm hdel
   have hsl:sl=#[k0,k1,k2,k3,some (.builtin n),k5]:=by
    obtain⟨l⟩:=sl
    simp only at hs
    rw[hs]
   subst hsl
   exact⟨ns,nm,qn,bs,hd,sn,sub,ab,col,dd,k0,k1,k2,k3,k5,X _ _ ho,PySem.W.tail_of_in X ht⟩
  ·cases q
 ·cases q
def yv {M:Model}{A:Around}{E:Value->Shared->Prop}{s:Shared}{Q:Bool->Shared->Prop}{C D e:Addr}{oe:Obj}{bm bmD bmB bmB2:List Value}{nC nD:String}(oC:so bmB nC C bm s.heap)(oD:so bmB2 nD D bmD s.heap)(he:s.heap.get? e=some oe)(hcls:oe.cls=.ref C)
  (hb:bmB2.contains (.type "BaseException")=true) (hup:(Value.ref C :: bm).contains (.ref D)=true) (hq:Q true s):wpAny M A (excMatches (.ref e) (.ref D)) Q E s:=by
 obtain⟨N1,nm1,qn1,bs1,hd1,sn1,sub1,ab1,col1,dd1,a0,a1,a2,a3,a5,hC,TC⟩:=oC
 obtain⟨N2,nm2,qn2,bs2,hd2,sn2,sub2,ab2,col2,dd2,b0,b1,b2,b3,b5,hD,TD⟩:=oD
 have hcB:(Value.ref D :: bmD).contains (.type "BaseException")=true:=by rw[List.contains_cons,TD.hasType hb,Bool.or_true]
 have f:=tc_notTuple
 obtain⟨h,g,d,t,os⟩:=s
 unfold excMatches
 repeat (first
  | (with_reducible refine wpAny_loadPart_at he ?_;rw[hcls])
  |with_reducible refine wpAny_loadPart_at hD ?_
  | (with_reducible refine wpAny_isSubtype_exc hD ?_;rw[hcB])
  | (with_reducible refine wpAny_isSubtype_exc hC ?_;rw[hup])
  |wp_step)
 exact hq
def Mt (K:Frag)(cls:Value)(D:Addr):Prop:=∀{M:Model} {A:Around} {E:Value->Shared->Prop} {s:Shared} {Q:Bool->Shared->Prop} {e:Addr} {oe:Obj},K.In s.heap->s.heap.get? e=some oe->oe.cls=cls->Q true s->wpAny M A (excMatches (.ref e) (.ref D)) Q E s
def wW {K:Frag}{C D:Addr}{bmB bmB2:List Value}{nC nD:String}(qC:PySem.W.excIn K C bmB nC=true)(qD:PySem.W.excIn K D bmB2 nD=true)(hb:bmB2.contains (.type "BaseException")=true)(hup:(mroIn K C).contains (.ref D)=true):Mt K (.ref C) D:=by
 intro M A E s Q e oe X he hc hq
 obtain⟨bm,e1,o1⟩:=tW qC
 obtain⟨bmD,e2,o2⟩:=tW qD
 rw[e1] at hup
 exact yv (o1 X) (o2 X) he hc hb hup hq
abbrev Cx.inTry (X:Cx)(Ex:Value->Shared->Prop)(pn:List (Addr×Obj)):Cx:={X with xe:=Ex,pn:=pn}
abbrev Cx.inEx (X:Cx)(e:Addr):Cx:={X with A:=X.A.mark (some (.ref e)),calm:=false,xe:=λ_ _=>False}
section
variable {X:Cx}{pins:List (Addr×Obj)}{σ:St}{H:Hp}{s:Shared}
def Inv.toTry (I:Inv X pins σ H s)(Ex:Value->Shared->Prop):Inv (X.inTry Ex (X.pn ++ pins)) [] σ H s:=
 ⟨⟨I.ok.mod,I.ok.kind,I.ok.glob,I.ok.blt,I.ok.above,I.ok.inj,I.ok.has,I.ok.cab,I.ok.hd,I.ok.frames,I.ok.stk,I.ok.exf,I.ok.bs,I.ok.bsz,I.ok.noex,I.ok.exfs,I.ok.funs,I.ok.frf⟩,I.os,I.bare,I.base,I.loc,I.cell,I.free,I.freeC,λp hp=>I.pin p (by simpa using hp),I.hok,I.len⟩
def Inv.ofTry {Ex:Value->Shared->Prop}{pins2:List (Addr×Obj)}(I:Inv (X.inTry Ex (X.pn ++ pins)) pins2 σ H s):Inv X pins σ H s:=
 ⟨⟨I.ok.mod,I.ok.kind,I.ok.glob,I.ok.blt,I.ok.above,I.ok.inj,I.ok.has,I.ok.cab,I.ok.hd,I.ok.frames,I.ok.stk,I.ok.exf,I.ok.bs,I.ok.bsz,I.ok.noex,I.ok.exfs,I.ok.funs,I.ok.frf⟩,I.os,I.bare,I.base,I.loc,I.cell,I.free,I.freeC,λp hp=>I.pin p (Jr _ hp),I.hok,I.len⟩
def Inv.toEx (I:Inv X pins σ H s)(e:Addr):Inv (X.inEx e) pins σ H s:=
 ⟨⟨I.ok.mod,I.ok.kind,I.ok.glob,I.ok.blt,I.ok.above,I.ok.inj,I.ok.has,I.ok.cab,λz=>absurd z HU,I.ok.frames,I.ok.stk,I.ok.exf,I.ok.bs,I.ok.bsz,I.ok.noex,I.ok.exfs,I.ok.funs,I.ok.frf⟩,I.os,I.bare,I.base,I.loc,I.cell,I.free,I.freeC,I.pin,I.hok,I.len⟩
def Inv.ofEx {e:Addr}(ok:X.Ok)(I:Inv (X.inEx e) pins σ H s):Inv X pins σ H s:=
 ⟨ok,I.os,I.bare,I.base,I.loc,I.cell,I.free,I.freeC,I.pin,I.hok,I.len⟩
theorem SP.ofTry {Ex:Value->Shared->Prop}{D:Ends}{f:Flow}{s':Shared}(h:SP (X.inTry Ex (X.pn ++ pins)) [] D f s'):SP X pins D f s':=by
 cases f with
 |next=>obtain⟨σ',H',I,q⟩:=h;exact⟨σ',H',I.ofTry,q⟩
 |brk=>obtain⟨σ',H',I,q⟩:=h;exact⟨σ',H',I.ofTry,q⟩
 |cont=>obtain⟨σ',H',I,q⟩:=h;exact⟨σ',H',I.ofTry,q⟩
 |ret u=>obtain⟨v,σ',H',I,r,q⟩:=h;exact⟨v,σ',H',I.ofTry,r,q⟩
end
def Bi (i:Nat)(D:Ends):Ends:={nx:=λσ H=>D.nx ((σ.set i (some .non)).set i none) H,rt:=D.rt,bk:=λσ H=>D.bk ((σ.set i (some .non)).set i none) H,ct:=λσ H=>D.ct ((σ.set i (some .non)).set i none) H}
def GK (K:Frag)(Dc:Addr)(i len:Nat)(tb:XK->TS)(th:Addr->TS):TS:=λD σ H=>∃Eb:XK,tb Eb D σ H/\∀cls d H',Eb cls d H'->Mt K cls Dc/\∀(ea:Addr) (σ':St),H' ea=none->σ'.length=len->th ea (Bi i D) (σ'.set i (some (.ref ea))) (upd H' ea (.ext (fm ea cls)))
section
variable {X:Cx}
def BZ {n x:Str}{i:Nat}{Dc:Addr}{np hpos pos:Pos}{body suite:List Stmt}{b0:Stmt}{tb:XK->TS}{th:Addr->TS}(hst:X.stack=X.env :: X.outer)(hfr:X.env.frame=some X.env.locals)(hex:X.ex= [])
  (hb:∀Eb Ex pn,Passes (i7 X.prog X.w) (X.inTry Ex pn) Eb->jU (X.inTry Ex pn) body (tb Eb)) (hs:∀e,jU (X.inEx e) (b0 :: suite) (th e)) (hg:Gl X x) (hm:X.mg x=some (.ref Dc)) (hN:X.N.Nodup) (hi:X.N[i]? =some n) (hk:X.env.scope.names.lookup n=some .local)
  (hdb:(x == ("__debug__":Str))=false:=by decide) :
  PS X (.Try body [.ExceptHandler (some (.Name x np)) (some n) (b0 :: suite) hpos] [] [] pos) (GK X.K Dc i X.N.length tb th):=by
 intro pins s σ H D I h
 obtain⟨Eb,h1,h2⟩:=h
 refine wpAny_Try_except ?_
 refine IT (hb Eb (λe s₁=>wpAny (model X.prog X.w) X.A (noteFrame e X.env) (λ_ s₂=>wpAny (model X.prog X.w) X.A (setFlight e none) (λ_ s₃=>wpAny (model X.prog X.w) X.A (handleBy e X.env [.ExceptHandler (some (.Name x np)) (some n) (b0 :: suite) hpos]) (SP X pins D) X.xe s₃) X.xe s₂) X.xe s₁) (X.pn ++ pins) ?_ [] s σ H D (I.toTry _) h1) (λf s1 q=>?_) λe s1 q=>q
 ·intro pins2 σ2 H2 s2 e s3 I2 hcx
  obtain⟨ea,cls,H',rfl,os,bare,un,hok,Ly,q⟩:=hcx
  have I3:Inv X pins σ2 H' s3:=(I2.call' os un hok bare (λb hb=>absurd hb (by simp))).ofTry
  have I2':Inv X pins σ2 H2 s2:=I2.ofTry
  have nil:∀b:Addr,b∉X.ex:=λb=>by rw[hex];simp
  obtain⟨mt,hth⟩:=h2 cls none H' q
  obtain⟨fr,nw,T,rc,hHT,hnT⟩:=Ly
  obtain⟨oe,vs,oT,ts,he,hc,hdd,hd,hv1,hv2,hTe,hT,hdT,hv3⟩:=id rc
  have old:∀{b:Addr},s2.heap.get? b=none->X.s₀.heap.get? b=none:=λ{b} hb=>by
   cases z:X.s₀.heap.get? b with
   |none=>rfl
   |some o=>obtain⟨o',z'⟩:=I2'.base.there b o z (nil b);rw[hb] at z';cases z'
  have hpn:∀p∈X.pn ++ pins,p.1≠ea/\p.1≠T:=λp hp=>by
   have:=(I2'.pin p hp).1
   exact⟨λz=>by (rw[z,nw] at this;cases this),λz=>by (rw[z,hnT] at this;cases this)⟩
  have hfn:=I3.stack
  have mem:∀{b:Addr},b∈cx X.stack->∃o,s3.heap.get? b=some o/\∀ws,o.data≠.fields ws:=λ{b} hb=>(hfn.mem hb).2
  have tF:T∉cx X.stack:=λz=>by
   obtain⟨o,q,n⟩:=mem z
   rw[hT] at q;cases q;exact n _ hdT
  have hfn':s3.heap.FunFrames X.base (X.env :: X.outer):=by rw[<-hst];exact hfn
  have step:∀{h':Heap} {tk:Nat},Keeps (cx X.stack) [ea,T] s3.heap h'->Slots (cx X.stack) s3.heap h'->Inv X pins σ2 H' {s3 with heap:=h',toks:=tk}:=λ{h' tk} kp sl=>by
   have kept:∀b o,s3.heap.get? b=some o->b∉cx X.stack->b≠ea->b≠T->h'.get? b=some o:=λb o q hb n1 n2=>kp b o q hb (by simp[n1,n2])
   refine I3.exc hex he hd hT hdT (old nw) (old hnT) hpn kept sl (iL I3.hok λb o q hu=>?_)
   obtain⟨u,hu⟩:=hu
   refine kept b o q (λz=>?_) (λz=>?_) λz=>?_
   ·rw[I3.stkFree b z] at hu;cases hu
   ·rw[z,fr] at hu;cases hu
   ·rw[z,hHT] at hu;cases hu
  have hfr':X.A.frames=some (X.env :: X.outer):=by rw[<-hst];exact I3.ok.frames
  have more:∀{h4 h5:Heap} {T2:Addr},(s3.heap.get? T2=none\/T2=T)->Keeps [] [T2] h4 h5->Keeps (cx X.stack) [ea,T] s3.heap h4->Slots (cx X.stack) s3.heap h4->Keeps (cx X.stack) [ea,T] s3.heap h5/\Slots (cx X.stack) s3.heap h5:=λ{h4 h5 T2} tn k5 kp sl=>by
   have nT:∀b o,s3.heap.get? b=some o->b≠T->b≠T2:=λb o q n z=>by
    rcases tn with tn |tn
    ·rw[z,tn] at q;cases q
    ·exact n (z.trans tn)
   refine⟨λb o q hb hn=>k5 b o (kp b o q hb hn) (by simp) ?_,λb o q hb=>?_⟩
   ·simp only[HA,JQ,or_false,not_or] at hn
    simp[nT b o q hn.2]
   ·obtain⟨x,q4⟩:=sl b o q hb
    exact⟨x,k5 b _ q4 (by simp) (by simp[nT b o q λz=>tF (z▸hb)])⟩
  have key:∀{h5:Heap} {T2:Addr},(s3.heap.get? T2=none\/T2=T)->Rc h5 ea cls T2 .none->Keeps (cx X.stack) [ea,T] s3.heap h5->Slots (cx X.stack) s3.heap h5->wpAny (model X.prog X.w) X.A (handleBy (.ref ea) X.env [.ExceptHandler (some (.Name x np)) (some n) (b0 :: suite) hpos]) (SP X pins D) X.xe {s3 with heap:=h5}:=λ{h5 T2} tn rc5 kp5 sl5=>by
   have I5:Inv X pins σ2 H' {s3 with heap:=h5}:=step (tk:=s3.toks) kp5 sl5
   obtain⟨oe5,vs5,he5,hc5,_,_⟩:=rc5.isExc
   refine wpAny_handleBy_cons (codeAny_handlers_test (jg (X:=X.inEx ea) (I5.toEx ea) hg hm ?_ hdb)) (by intro q;cases q)
   refine mt I5.kIn he5 hc5 ?_
   refine codeAny_handlers_suite_as (kf (s:={s3 with heap:=h5}) rc5 λh6 k6 rc6=>?_)
   obtain⟨kp6,sl6⟩:=more tn k6 kp5 sl5
   have I6:Inv X pins σ2 H' {s3 with heap:=h6}:=step (tk:=s3.toks) kp6 sl6
   have eL:ea≠X.env.locals:=λz=>by
    obtain⟨m,⟨o,es,ep,ho,hdd,r⟩,_⟩:=I3.loc
    rw[<-z,he] at ho;cases ho
    rw[hd] at hdd;cases hdd
   have eC:∀y c,X.env.cells.lookup y=some c->c≠ea:=λy c q z=>by
    obtain⟨v,o,ho,hdd⟩:=I3.cell y c q
    rw[z,he] at ho;cases ho
    rw[hd] at hdd;cases hdd
   have I7:=I6.track (cls:=cls) rc6.isExc fr (old nw) eL eC λp hp=>(hpn p hp).1
   refine fo I7 hN hi (.inl hk) (v:=.ref ea) rfl (λs8 I8=>?_) (.inr hk)
   refine IT (hs ea pins s8 _ _ (Bi i D) (I8.toEx ea) (hth ea σ2 fr I3.len)) (λf s9 q9=>?_) λ_ _ z=>z.elim
   have back:∀{σ9:St} {H9:Hp} {Q:Unit->Shared->Prop},Inv (X.inEx ea) pins σ9 H9 s9->(∀s',Inv X pins ((σ9.set i (some .non)).set i none) H9 s'->Q () s')->wpAny (model X.prog X.w) X.A (do bindName X.env n .none;unbindBehindTheSuite X.env n hpos) Q X.xe s9:=λ{σ9 H9 Q} I9 hQ=>by
    refine Hr (wpAny_bindName (fo (I9.ofEx I.ok) hN hi (.inl hk) (v:=.non) rfl (λs10 I10=>?_) (.inr hk)))
    have hl:i < σ9.length:=by rw[I9.len];exact (HE.mp hi).1
    exact wpAny_onRaise (we (v:=.non) I10 hN hi hk (by rw[HI hl]) hQ)
   cases f with
   |next=>obtain⟨σ9,H9,I9,q⟩:=q9;exact back I9 λs' I'=>⟨_,H9,I',q⟩
   |brk=>obtain⟨σ9,H9,I9,q⟩:=q9;exact back I9 λs' I'=>⟨_,H9,I',q⟩
   |cont=>obtain⟨σ9,H9,I9,q⟩:=q9;exact back I9 λs' I'=>⟨_,H9,I',q⟩
   |ret u=>obtain⟨v,σ9,H9,I9,r,q⟩:=q9;exact back I9 λs' I'=>⟨v,_,H9,I',r,q⟩
  refine nA hfr' hfn' hfr rc λh4 T2 kp4 sl4 tn rc4=>kf (s:={s3 with heap:=h4}) rc4 λh5 k5 rc5=>?_
  rw[<-hst] at kp4 sl4
  obtain⟨kp5,sl5⟩:=more tn k5 kp4 sl4
  exact key tn rc5 kp5 sl5
 ·cases f with
  |next=>exact Kk (SP.ofTry q)
  |brk=>exact SP.ofTry q
  |cont=>exact SP.ofTry q
  |ret u=>exact SP.ofTry q
end
structure lU (K:Frag)(mg:Str->Option Value)(x:Str)(st:Stmt)(ps:List Str)(f:Addr)(fd:FuncData):Prop where
 mg:mg x=some (.ref f)
 F:wC K x x st f fd
 b:Binds K fd ps []
structure Exc (K:Frag)(mg:Str->Option Value)(ca:Str->Addr)(x:Str):Prop where
 mg:mg x=some (.ref (ca x))
 ex:PySem.W.excIn K (ca x) [.type "ValueError",.type "Exception",.type "BaseException",.type "object"] "ValueError.__new__"=true
def Exc.ca {K:Frag}{mg:Str->Option Value}{ca:Str->Addr}{x:Str}(h:Exc K mg ca x):ca x=ca x:=rfl
structure l4 (mg:Str->Option Value):Prop where
 len:mg "len"=none
 range:mg "range"=none
 enumerate:mg "enumerate"=none
 zip:mg "zip"=none
 min:mg "min"=none
 max:mg "max"=none
 sum:mg "sum"=none
 abs:mg "abs"=none
 sorted:mg "sorted"=none
 reversed:mg "reversed"=none
 int:mg "int"=none
 str:mg "str"=none
 bool:mg "bool"=none
 list:mg "list"=none
 tuple:mg "tuple"=none
 dict:mg "dict"=none
 set:mg "set"=none
 isinstance:mg "isinstance"=none
 repr:mg "repr"=none
 any:mg "any"=none
 all:mg "all"=none
 divmod:mg "divmod"=none
end L2
namespace L2
open PySem
section
variable {K:Frag}{h:Heap}{mg:Str->Option Value}
theorem C2 {α:Type}{P:List α->Prop}(q:∀a,P [a]):∀us:List α,us.length=1->P us
 | [a],_=>q a
theorem ln2 {α:Type}{P:List α->Prop}(q:∀a b,P [a,b]):∀us:List α,us.length=2->P us
 | [a,b],_=>q a b
def bH (x:Str)(st:Stmt)(ps:List Str):Prop:=∀(kV doc pm:Value) (an:Option Addr) (cdv ct:Value) (us:List Value),us.length=ps.length->bindArgs (PySem.W.fnOf x x (dP st) (aY st) (aq st) .none kV doc pm an cdv ct) ⟨us,[]⟩=pure (ps.zip us)
structure Fo (K:Frag)(mg:Str->Option Value)(x:Str)(st:Stmt)(ps:List Str):Prop where
 ex:∃f fd,lU K mg x st ps f fd
def cO {x:Str}{st:Stmt}{ps:List Str}{f:Addr}{oc:Value}{od an:Option Addr}{sl:Array (Option Value)}{kV doc pm cdv ct:Value}(X:K.In h)(G:h.Ns mainGlobals mg)(b:bH x st ps)(a:PySem.W.nsIn K mainGlobals x=some (some (.ref f)))
  (l:K.lookup f=some ⟨oc,od,.func (PySem.W.fnOf x x (dP st) (aY st) (aq st) .none kV doc pm an cdv ct),sl⟩) (c:PySem.W.codeIn K cdv x=true) (k:PySem.W.keepIn K (.ref f)=true):Fo K mg x st ps:=
 ⟨⟨f,_,Iw X G a,sD l c k,(sD l c k).binds b⟩⟩
def Gq:List Str:=["len","range","enumerate","zip","min","max","sum","abs","sorted","reversed","int","str","bool","list","tuple","dict","set","isinstance","repr","any","all","divmod"]
def Gi (K:Frag):Bool:=Gq.all λx=>match PySem.W.nsIn K mainGlobals x with
 |some none=>true
 |_=>false
def Dk (q:Gi K=true){x:Str}(hx:x∈Gq):PySem.W.nsIn K mainGlobals x=some none:=by
 have:=JR.mp q x hx
 split at this
 ·assumption
 ·cases this
def Et (X:K.In h)(G:h.Ns mainGlobals mg)(q:Gi K=true):l4 mg:=by
 have key:∀{x:Str},x∈Gq->mg x=none:=λhx=>PySem.W.mg_none_of X G (Dk q hx)
 constructor <;> exact key (by decide)
end
end L2
section
set_option Elab.async false
namespace RO
open PySem L2
def uY (K:Frag):Sp:=λvs H Q _=>∃(a:Addr) (ns:List Int),vs= [.ref a]/\dI K H a (ns.map V.int)/\∀H',af H H'->Q (.bl true) H'
def oV:bH "_law_marks" gJ ["e"]:=λ_ _ _ _ _ _=>C2 λ_=>rfl
def rq:bH "is_whole" RQ.fY ["thing"]:=λ_ _ _ _ _ _=>C2 λ_=>rfl
def sf:bH "is_below" RQ.fR ["thing","bound"]:=λ_ _ _ _ _ _=>ln2 λ_ _=>rfl
def vU:bH "is_many" RQ.g8 ["thing"]:=λ_ _ _ _ _ _=>C2 λ_=>rfl
def vK:bH "is_pair" RQ.gX ["thing","many"]:=λ_ _ _ _ _ _=>ln2 λ_ _=>rfl
def ot:bH "every_pair" RQ.cw ["many"]:=λ_ _ _ _ _ _=>C2 λ_=>rfl
def x9:bH "closed" iF ["many","pairs"]:=λ_ _ _ _ _ _=>ln2 λ_ _=>rfl
def sh:bH "has_ring" RQ.fA ["pairs"]:=λ_ _ _ _ _ _=>C2 λ_=>rfl
def sC:bH "order_of" RQ.fG ["many","pairs"]:=λ_ _ _ _ _ _=>ln2 λ_ _=>rfl
def pG:bH "_law_cell" RQ.dR ["script","k"]:=λ_ _ _ _ _ _=>ln2 λ_ _=>rfl
def sV:bH "_law_mix" RQ.cH ["cell","k"]:=λ_ _ _ _ _ _=>ln2 λ_ _=>rfl
def rW:bH "_law_box" RQ.fH ["script","k"]:=λ_ _ _ _ _ _=>ln2 λ_ _=>rfl
def qw:bH "_law_take" RQ.dY ["box","many"]:=λ_ _ _ _ _ _=>ln2 λ_ _=>rfl
def jV:bH "_law_mixed_up" RQ.bZ ["box","some"]:=λ_ _ _ _ _ _=>ln2 λ_ _=>rfl
def lZ:bH "_law_closed" RQ.cM ["pairs"]:=λ_ _ _ _ _ _=>C2 λ_=>rfl
def qh:bH "_law_said" RQ.eH ["many","pairs"]:=λ_ _ _ _ _ _=>ln2 λ_ _=>rfl
def nX:bH "_law_drawn" RQ.dk ["box","many"]:=λ_ _ _ _ _ _=>ln2 λ_ _=>rfl
def Bk:Prop:=∀{l:PySem.W.OpenLaw} {w:World} {K:Frag} {h:Heap} {mg:Str->Option Value} {fa f18 R q0 q1 q2 q3 q4 q5 q6 q7 q8 q9 q10 q11:Addr} (X:K.In h) (G:h.Ns mainGlobals mg) (hfa:mg "law"=some (.ref fa))
  {od18 an18:Option Addr} {sl18:Array (Option Value)} {oc18 kV18 dc18 pm18 cd18 ct18:Value} {tMOST_THINGS:Tok}
  (F1:Fo K mg "_law_marks" gJ ["e"])
  (F2:Fo K mg "is_whole" RQ.fY ["thing"])
  (F3:Fo K mg "is_below" RQ.fR ["thing","bound"])
  (F4:Fo K mg "is_many" RQ.g8 ["thing"])
  (F5:Fo K mg "is_pair" RQ.gX ["thing","many"])
  (F6:Fo K mg "every_pair" RQ.cw ["many"])
  (F7:Fo K mg "closed" iF ["many","pairs"])
  (F8:Fo K mg "has_ring" RQ.fA ["pairs"])
  (F9:Fo K mg "order_of" RQ.fG ["many","pairs"])
  (F10:Fo K mg "_law_cell" RQ.dR ["script","k"])
  (F11:Fo K mg "_law_mix" RQ.cH ["cell","k"])
  (F12:Fo K mg "_law_box" RQ.fH ["script","k"])
  (F13:Fo K mg "_law_take" RQ.dY ["box","many"])
  (F14:Fo K mg "_law_mixed_up" RQ.bZ ["box","some"])
  (F15:Fo K mg "_law_closed" RQ.cM ["pairs"])
  (F16:Fo K mg "_law_said" RQ.eH ["many","pairs"])
  (F17:Fo K mg "_law_drawn" RQ.dk ["box","many"])
  (a18:PySem.W.nsIn K mainGlobals "law"=some (some (.ref f18))) (l18:K.lookup f18=some ⟨oc18,od18,.func (PySem.W.fnOf "law" "law" (dP RQ.ie) (aY RQ.ie) (aq RQ.ie) .none kV18 dc18 pm18 an18 cd18 ct18),sl18⟩) (c18:PySem.W.codeIn K cd18 "law"=true) (k18:PySem.W.keepIn K (.ref f18)=true)
  (zB:Gi K=true)
  (yMOST_THINGS:PySem.W.nsIn K mainGlobals "MOST_THINGS"=some (some (.int 8 tMOST_THINGS)))
  (mR:PySem.W.nsIn K mainGlobals "RankError"=some (some (.ref R)))
  (n0:PySem.W.nsIn K mainGlobals "NoOrder"=some (some (.ref q0)))
  (n1:PySem.W.nsIn K mainGlobals "NoMany"=some (some (.ref q1)))
  (n2:PySem.W.nsIn K mainGlobals "NoPairs"=some (some (.ref q2)))
  (n3:PySem.W.nsIn K mainGlobals "Ring"=some (some (.ref q3)))
  (n4:PySem.W.nsIn K mainGlobals "NoThing"=some (some (.ref q4)))
  (n5:PySem.W.nsIn K mainGlobals "NoRow"=some (some (.ref q5)))
  (n6:PySem.W.nsIn K mainGlobals "NoRows"=some (some (.ref q6)))
  (n7:PySem.W.nsIn K mainGlobals "NoNumber"=some (some (.ref q7)))
  (n8:PySem.W.nsIn K mainGlobals "NoChain"=some (some (.ref q8)))
  (n9:PySem.W.nsIn K mainGlobals "NoTurns"=some (some (.ref q9)))
  (n10:PySem.W.nsIn K mainGlobals "NoPoints"=some (some (.ref q10)))
  (n11:PySem.W.nsIn K mainGlobals "NoText"=some (some (.ref q11)))
  (zV:PySem.W.nsIn K mainGlobals "ValueError"=some none)
  (eR:PySem.W.excIn K R [.type "ValueError",.type "Exception",.type "BaseException",.type "object"] "ValueError.__new__"=true)
  (e0:PySem.W.excIn K q1 [.type "ValueError",.type "Exception",.type "BaseException",.type "object"] "ValueError.__new__"=true)
  (e1:PySem.W.excIn K q2 [.type "ValueError",.type "Exception",.type "BaseException",.type "object"] "ValueError.__new__"=true)
  (e2:PySem.W.excIn K q3 [.type "ValueError",.type "Exception",.type "BaseException",.type "object"] "ValueError.__new__"=true)
  (up1:(L2.mroIn K q1).contains (.ref R)=true)
  (g1_1:(PySem.W.clsIn K q1).isSome=true)
  (g2_1:PySem.W.findIn K (.ref q1) "__getattribute__"=some (some (.builtin "BaseException.__getattribute__")))
  (g3_1:PySem.W.findIn K (.ref q1) "__getattr__"=some none)
  (g4_1:PySem.W.findIn K (.ref q1) "__class__"=some (some (.builtin "object.__class__")))
  (g7_1:PySem.W.mroIn K q1 (.type "object")=some true)
  (g8_1:PySem.W.mroIn K q1 (.type "BaseException")=some true)
  (kR1:PySem.W.kitOne K (.ref q1) (.ref R)=some true)
  (kV1:PySem.W.kitOne K (.ref q1) (.type "ValueError")=some true)
  (kt1_0:PySem.W.kitOne K (.ref q1) (.ref q0)=some false)
  (kt1_1:PySem.W.kitOne K (.ref q1) (.ref q1)=some true)
  (kt1_2:PySem.W.kitOne K (.ref q1) (.ref q2)=some false)
  (kt1_3:PySem.W.kitOne K (.ref q1) (.ref q3)=some false)
  (kt1_4:PySem.W.kitOne K (.ref q1) (.ref q4)=some false)
  (kt1_5:PySem.W.kitOne K (.ref q1) (.ref q5)=some false)
  (kt1_6:PySem.W.kitOne K (.ref q1) (.ref q6)=some false)
  (kt1_7:PySem.W.kitOne K (.ref q1) (.ref q7)=some false)
  (kt1_8:PySem.W.kitOne K (.ref q1) (.ref q8)=some false)
  (kt1_9:PySem.W.kitOne K (.ref q1) (.ref q9)=some false)
  (kt1_10:PySem.W.kitOne K (.ref q1) (.ref q10)=some false)
  (kt1_11:PySem.W.kitOne K (.ref q1) (.ref q11)=some false)
  (up2:(L2.mroIn K q2).contains (.ref R)=true)
  (g1_2:(PySem.W.clsIn K q2).isSome=true)
  (g2_2:PySem.W.findIn K (.ref q2) "__getattribute__"=some (some (.builtin "BaseException.__getattribute__")))
  (g3_2:PySem.W.findIn K (.ref q2) "__getattr__"=some none)
  (g4_2:PySem.W.findIn K (.ref q2) "__class__"=some (some (.builtin "object.__class__")))
  (g7_2:PySem.W.mroIn K q2 (.type "object")=some true)
  (g8_2:PySem.W.mroIn K q2 (.type "BaseException")=some true)
  (kR2:PySem.W.kitOne K (.ref q2) (.ref R)=some true)
  (kV2:PySem.W.kitOne K (.ref q2) (.type "ValueError")=some true)
  (kt2_0:PySem.W.kitOne K (.ref q2) (.ref q0)=some false)
  (kt2_1:PySem.W.kitOne K (.ref q2) (.ref q1)=some false)
  (kt2_2:PySem.W.kitOne K (.ref q2) (.ref q2)=some true)
  (kt2_3:PySem.W.kitOne K (.ref q2) (.ref q3)=some false)
  (kt2_4:PySem.W.kitOne K (.ref q2) (.ref q4)=some false)
  (kt2_5:PySem.W.kitOne K (.ref q2) (.ref q5)=some false)
  (kt2_6:PySem.W.kitOne K (.ref q2) (.ref q6)=some false)
  (kt2_7:PySem.W.kitOne K (.ref q2) (.ref q7)=some false)
  (kt2_8:PySem.W.kitOne K (.ref q2) (.ref q8)=some false)
  (kt2_9:PySem.W.kitOne K (.ref q2) (.ref q9)=some false)
  (kt2_10:PySem.W.kitOne K (.ref q2) (.ref q10)=some false)
  (kt2_11:PySem.W.kitOne K (.ref q2) (.ref q11)=some false)
  (up3:(L2.mroIn K q3).contains (.ref R)=true)
  (g1_3:(PySem.W.clsIn K q3).isSome=true)
  (g2_3:PySem.W.findIn K (.ref q3) "__getattribute__"=some (some (.builtin "BaseException.__getattribute__")))
  (g3_3:PySem.W.findIn K (.ref q3) "__getattr__"=some none)
  (g4_3:PySem.W.findIn K (.ref q3) "__class__"=some (some (.builtin "object.__class__")))
  (g7_3:PySem.W.mroIn K q3 (.type "object")=some true)
  (g8_3:PySem.W.mroIn K q3 (.type "BaseException")=some true)
  (kR3:PySem.W.kitOne K (.ref q3) (.ref R)=some true)
  (kV3:PySem.W.kitOne K (.ref q3) (.type "ValueError")=some true)
  (kt3_0:PySem.W.kitOne K (.ref q3) (.ref q0)=some false)
  (kt3_1:PySem.W.kitOne K (.ref q3) (.ref q1)=some false)
  (kt3_2:PySem.W.kitOne K (.ref q3) (.ref q2)=some false)
  (kt3_3:PySem.W.kitOne K (.ref q3) (.ref q3)=some true)
  (kt3_4:PySem.W.kitOne K (.ref q3) (.ref q4)=some false)
  (kt3_5:PySem.W.kitOne K (.ref q3) (.ref q5)=some false)
  (kt3_6:PySem.W.kitOne K (.ref q3) (.ref q6)=some false)
  (kt3_7:PySem.W.kitOne K (.ref q3) (.ref q7)=some false)
  (kt3_8:PySem.W.kitOne K (.ref q3) (.ref q8)=some false)
  (kt3_9:PySem.W.kitOne K (.ref q3) (.ref q9)=some false)
  (kt3_10:PySem.W.kitOne K (.ref q3) (.ref q10)=some false)
  (kt3_11:PySem.W.kitOne K (.ref q3) (.ref q11)=some false)
  (g5:PySem.W.specialIn K (.builtin "object.__class__") "__get__"=some (some (.builtin "getset_descriptor.__get__")))
  (g6:PySem.W.takesIn K (.builtin "object.__class__")=some true),∃fd:FuncData,(∀(s:Shared) (v:Value),BindsTo s fd ⟨[v],[]⟩ [("script",v)])/\∀base:Heap,K.In base->base.Ns mainGlobals mg->cP l.prog w K mg base (i7 l.prog w) 6 fa fd ["script"] (uY K)
def walk {l:PySem.W.OpenLaw}{q:Program}{loose:List Str}{XP:(Str->Option Value)->Heap->Prop}{YP:World->Heap->Prop}{d:DefRec}{K:Params->Frag}(hn:l.most=some 63)(hdf:d.params.defaults= [])(hi:PyProof.Rows.importsNone q=true)
  (hY:∀(w:World) (h:Heap),YP w h->(K w.params).In h)
  (F:∀(w:World) (mg:Str->Option Value) (fa:Addr) (h:Heap),(K w.params).In h->h.Ns mainGlobals mg->mg d.name=some (.ref fa)->
   ∃fd:FuncData,(∀(s:Shared) (u:Value),BindsTo s fd ⟨[u],[]⟩ [("script",u)])/\∀base:Heap,(K w.params).In base->base.Ns mainGlobals mg->cP l.prog w (K w.params) mg base (i7 l.prog w) 6 fa fd ["script"] (uY (K w.params))) :
  PySem.W.WalkO q loose XP YP l.row.toRowW d [] (λf vs=>PySem.call f vs):=
 L2.AE (n:=63) (k:=6) (x:="script") (CX:=λw=>i7 l.prog w) (sp:=λw=>uY (K w.params)) hn (by decide) hdf hi ⟨rfl,by decide,by decide,rfl⟩ hY F (λ_ _ a ns hl _ hS=>⟨a,ns,rfl,hS,λ_ _=>rfl⟩) λ_ _ _ _ _ z=>by
  obtain⟨_,_,_,_,_,_,_,_,_,z⟩:=z
  exact z
end RO
namespace HD
noncomputable def vw:PySem.Program:=PySem.W.view PySem.Challenge.pw_rowsorder_k02_pairs_closed [1,2,3,4,5,6,8,9,10,11,12,13,14,15,16,17,18,19,20,22,23,24,26,27,28,29,30,31,32,33,34,35]
def zw:PySem.Challenge.rw_rowsorder_k02_pairs_closed.wellSaid=true:=by kernel_rfl
end HD
section
set_option hygiene false in
local macro_rules | `(tactic|o_head $H)=>`(tactic|exact h)
set_option maxHeartbeats 0 in
theorem HD.d (h:PySem.Challenge.rw_rowsorder_k02_pairs_closed.row.Holds):PySem.Challenge.rw_rowsorder_k02_pairs_closed.Holds:=by
 w_on;(refine PySem.W.holds_law HD.zw λzw=>?_);k_head
end
abbrev HD.aa:List Nat:=[2,3,15,17,18,20,21,22,24,25,27,28,29,31,32,34,35,36,38,39,41,42,43,46,47,48,55,56,57,58,61,68,69,70,73,80,81,82,85,92,93,94,97,104,105,106,109,116,117,118,121,128,129,130,133,140,141,142,145,152,153,154,157,164,165,166,169,176,177,178,181,188,189,190,193,200,202,203,205,206,207,208,209,212,215,216,217,220,221,222,225,226,227,229,230,232,233,234,236,237,239,240,241,243,244,246,247,248,250,251,253,254,255,257,258,260,261,262,265,266,267,269,270,272,273,274,276,277,279,280,281,283,284,286,287,288,291,292]
def HD.ke:∀P,HD.aa=(HD.d.heap_1 P).map (·.1):=λ_=>by kernel_rfl
def HD.l1:∀w os,(HD.xC PySem.Challenge.rw_rowsorder_k02_pairs_closed.row.prog 6826 w os).map (λs=>(HD.uJ PySem.Challenge.rw_rowsorder_k02_pairs_closed.row.prog w s.abs,(PySem.W.openSeen HD.vw [] (PySem.importedModules PySem.Challenge.rw_rowsorder_k02_pairs_closed.row.prog.main.body) (λs=>PySem.W.xlAt HD.vw [] s && PySem.W.recOk PySem.Challenge.rw_rowsorder_k02_pairs_closed.row.records s) true s.abs).1,(PySem.W.kHook HD.d.heap_1 HD.aa HD.ke).obs s.abs))=some (true,(PySem.W.openGood HD.vw []).1,(PySem.W.kHook HD.d.heap_1 HD.aa HD.ke).val w):=λw os=>by kernel_rfl
def HD.l2:∀w os,(HD.xC PySem.Challenge.rw_rowsorder_k02_pairs_closed.row.prog 6826 w os).map (λs=>(PySem.W.openSeen HD.vw [] (PySem.importedModules PySem.Challenge.rw_rowsorder_k02_pairs_closed.row.prog.main.body) (λs=>PySem.W.xlAt HD.vw [] s && PySem.W.recOk PySem.Challenge.rw_rowsorder_k02_pairs_closed.row.records s) true s.abs).2)=some (PySem.W.openGood HD.vw []).2:=λw os=>by kernel_rfl
def HD.left:PySem.W.LeftO PySem.Challenge.rw_rowsorder_k02_pairs_closed.row.prog HD.vw [] (λs=>PySem.W.xlAt HD.vw [] s && PySem.W.recOk PySem.Challenge.rw_rowsorder_k02_pairs_closed.row.records s) (PySem.W.kHook HD.d.heap_1 HD.aa HD.ke).obs (PySem.W.kHook HD.d.heap_1 HD.aa HD.ke).val 6826:=
 HD.AN (by kernel_rfl) (by kernel_rfl) (λs=>by kernel_rfl) HD.l1 HD.l2
open PySem PySem.W PyProof.Rows L2
set_option maxRecDepth 100000 in
set_option maxHeartbeats 0 in
theorem RO.head (hA:RO.Bk):PySem.Challenge.rw_rowsorder_k02_pairs_closed.Holds:=by
 w_on;(refine PySem.W.holds_law HD.zw λzw=>?_)
 refine PySem.W.holds_open (q:=HD.vw) (loose:=[]) (Xt:=λs=>PySem.W.xlAt HD.vw [] s && PySem.W.recOk (PySem.W.RowW.records _) s) (XP:=PySem.W.XL HD.vw []) (Yf:=PySem.W.Hook.obs (kHook HD.d.heap_1 HD.aa HD.ke)) (Ya:=PySem.W.Hook.val (kHook HD.d.heap_1 HD.aa HD.ke)) (YP:=PySem.W.Hook.says (kHook HD.d.heap_1 HD.aa HD.ke)) (N:=6826) HD.left (PySem.W.Hook.of (kHook HD.d.heap_1 HD.aa HD.ke)) (PySem.W.Hook.keeps (kHook HD.d.heap_1 HD.aa HD.ke)) (λs e=>PySem.W.xl_of s (Bool.and_eq_true_iff.mp e).1) PySem.W.XL.keeps (by rfl) (by rfl) (by rfl) (λs e=>PySem.W.recFacts_of (Bool.and_eq_true_iff.mp e).2) (by rfl) (by first |assumption |decide +kernel) (by decide +kernel) ⟨rfl,rfl,rfl,rfl,rfl,by decide +kernel⟩ ?hw ?hc
 (case hw=>w_witness2)
 k_fill
 refine RO.walk (l:=PySem.Challenge.rw_rowsorder_k02_pairs_closed) rfl rfl ?hi (λw h Y=>PySem.W.kIn_of Y) ?F
 case hi=>kernel_rfl
 case F=>
  intro w mg fa h KX G hmg
  refine' hA KX G hmg ?F1 ?F2 ?F3 ?F4 ?F5 ?F6 ?F7 ?F8 ?F9 ?F10 ?F11 ?F12 ?F13 ?F14 ?F15 ?F16 ?F17 ?a18 ?l18 ?c18 ?k18 ?zB ?yMOST_THINGS ?mR ?n0 ?n1 ?n2 ?n3 ?n4 ?n5 ?n6 ?n7 ?n8 ?n9 ?n10 ?n11 ?zV ?eR ?e0 ?e1 ?e2 ?up1 ?g1_1 ?g2_1 ?g3_1 ?g4_1 ?g7_1 ?g8_1 ?kR1 ?kV1 ?kt1_0 ?kt1_1 ?kt1_2 ?kt1_3 ?kt1_4 ?kt1_5 ?kt1_6 ?kt1_7 ?kt1_8 ?kt1_9 ?kt1_10 ?kt1_11 ?up2 ?g1_2 ?g2_2 ?g3_2 ?g4_2 ?g7_2 ?g8_2 ?kR2 ?kV2 ?kt2_0 ?kt2_1 ?kt2_2 ?kt2_3 ?kt2_4 ?kt2_5 ?kt2_6 ?kt2_7 ?kt2_8 ?kt2_9 ?kt2_10 ?kt2_11 ?up3 ?g1_3 ?g2_3 ?g3_3 ?g4_3 ?g7_3 ?g8_3 ?kR3 ?kV3 ?kt3_0 ?kt3_1 ?kt3_2 ?kt3_3 ?kt3_4 ?kt3_5 ?kt3_6 ?kt3_7 ?kt3_8 ?kt3_9 ?kt3_10 ?kt3_11 ?g5 ?g6
  case F1=>refine' cO KX G RO.oV ?a ?l ?c ?k;(case a=>k_is);(case l=>k_is);(case c=>k_is);(case k=>k_is)
  case F2=>refine' cO KX G RO.rq ?a ?l ?c ?k;(case a=>k_is);(case l=>k_is);(case c=>k_is);(case k=>k_is)
  case F3=>refine' cO KX G RO.sf ?a ?l ?c ?k;(case a=>k_is);(case l=>k_is);(case c=>k_is);(case k=>k_is)
  case F4=>refine' cO KX G RO.vU ?a ?l ?c ?k;(case a=>k_is);(case l=>k_is);(case c=>k_is);(case k=>k_is)
  case F5=>refine' cO KX G RO.vK ?a ?l ?c ?k;(case a=>k_is);(case l=>k_is);(case c=>k_is);(case k=>k_is)
  case F6=>refine' cO KX G RO.ot ?a ?l ?c ?k;(case a=>k_is);(case l=>k_is);(case c=>k_is);(case k=>k_is)
  case F7=>refine' cO KX G RO.x9 ?a ?l ?c ?k;(case a=>k_is);(case l=>k_is);(case c=>k_is);(case k=>k_is)
  case F8=>refine' cO KX G RO.sh ?a ?l ?c ?k;(case a=>k_is);(case l=>k_is);(case c=>k_is);(case k=>k_is)
  case F9=>refine' cO KX G RO.sC ?a ?l ?c ?k;(case a=>k_is);(case l=>k_is);(case c=>k_is);(case k=>k_is)
  case F10=>refine' cO KX G RO.pG ?a ?l ?c ?k;(case a=>k_is);(case l=>k_is);(case c=>k_is);(case k=>k_is)
  case F11=>refine' cO KX G RO.sV ?a ?l ?c ?k;(case a=>k_is);(case l=>k_is);(case c=>k_is);(case k=>k_is)
  case F12=>refine' cO KX G RO.rW ?a ?l ?c ?k;(case a=>k_is);(case l=>k_is);(case c=>k_is);(case k=>k_is)
  case F13=>refine' cO KX G RO.qw ?a ?l ?c ?k;(case a=>k_is);(case l=>k_is);(case c=>k_is);(case k=>k_is)
  case F14=>refine' cO KX G RO.jV ?a ?l ?c ?k;(case a=>k_is);(case l=>k_is);(case c=>k_is);(case k=>k_is)
  case F15=>refine' cO KX G RO.lZ ?a ?l ?c ?k;(case a=>k_is);(case l=>k_is);(case c=>k_is);(case k=>k_is)
  case F16=>refine' cO KX G RO.qh ?a ?l ?c ?k;(case a=>k_is);(case l=>k_is);(case c=>k_is);(case k=>k_is)
  case F17=>refine' cO KX G RO.nX ?a ?l ?c ?k;(case a=>k_is);(case l=>k_is);(case c=>k_is);(case k=>k_is)
  case a18=>k_is
  case l18=>k_is
  case c18=>k_is
  case k18=>k_is
  case zB=>kernel_rfl
  case yMOST_THINGS=>k_is
  case mR=>k_is
  case n0=>k_is
  case n1=>k_is
  case n2=>k_is
  case n3=>k_is
  case n4=>k_is
  case n5=>k_is
  case n6=>k_is
  case n7=>k_is
  case n8=>k_is
  case n9=>k_is
  case n10=>k_is
  case n11=>k_is
  case zV=>k_is
  case eR=>kernel_rfl
  case e0=>kernel_rfl
  case e1=>kernel_rfl
  case e2=>kernel_rfl
  case up1=>kernel_rfl
  case g1_1=>kernel_rfl
  case g2_1=>kernel_rfl
  case g3_1=>kernel_rfl
  case g4_1=>kernel_rfl
  case g7_1=>kernel_rfl
  case g8_1=>kernel_rfl
  case kR1=>kit_is
  case kV1=>kit_is
  case kt1_0=>kit_is
  case kt1_1=>kit_is
  case kt1_2=>kit_is
  case kt1_3=>kit_is
  case kt1_4=>kit_is
  case kt1_5=>kit_is
  case kt1_6=>kit_is
  case kt1_7=>kit_is
  case kt1_8=>kit_is
  case kt1_9=>kit_is
  case kt1_10=>kit_is
  case kt1_11=>kit_is
  case up2=>kernel_rfl
  case g1_2=>kernel_rfl
  case g2_2=>kernel_rfl
  case g3_2=>kernel_rfl
  case g4_2=>kernel_rfl
  case g7_2=>kernel_rfl
  case g8_2=>kernel_rfl
  case kR2=>kit_is
  case kV2=>kit_is
  case kt2_0=>kit_is
  case kt2_1=>kit_is
  case kt2_2=>kit_is
  case kt2_3=>kit_is
  case kt2_4=>kit_is
  case kt2_5=>kit_is
  case kt2_6=>kit_is
  case kt2_7=>kit_is
  case kt2_8=>kit_is
  case kt2_9=>kit_is
  case kt2_10=>kit_is
  case kt2_11=>kit_is
  case up3=>kernel_rfl
  case g1_3=>kernel_rfl
  case g2_3=>kernel_rfl
  case g3_3=>kernel_rfl
  case g4_3=>kernel_rfl
  case g7_3=>kernel_rfl
  case g8_3=>kernel_rfl
  case kR3=>kit_is
  case kV3=>kit_is
  case kt3_0=>kit_is
  case kt3_1=>kit_is
  case kt3_2=>kit_is
  case kt3_3=>kit_is
  case kt3_4=>kit_is
  case kt3_5=>kit_is
  case kt3_6=>kit_is
  case kt3_7=>kit_is
  case kt3_8=>kit_is
  case kt3_9=>kit_is
  case kt3_10=>kit_is
  case kt3_11=>kit_is
  case g5=>kernel_rfl
  case g6=>kernel_rfl
end
namespace HD
open PySem PySem.W PyProof.Rows
section
variable (q:Program)(loose mods:List Str)(Xt:Shared->Bool)(g0:Bool)(s:Shared)
noncomputable abbrev o1:=seen ((recsOf q).map (·.name)) (ownsOf q) [] {s with gens:=Array.mk []}
end
end HD
namespace L2.ST
open PySem PySem.SetTable
abbrev fF (xs:Array Nat):Prop:=xs.toList.Pairwise (· < ·)
def dW {xs:Array Nat}(h:fF xs){i k d:Nat}(hik:i < k)(hk:k < xs.size):xs.getD i d < xs.getD k d:=by
 have hi:i < xs.size:=JS hik hk
 have:=II.mp h i k (by simpa using hi) (by simpa using hk) hik
 simpa[Array.getD,hi,hk] using this
theorem yD {xs:Array Nat}{j:Nat}(h:fF xs):∀(fuel lo hi:Nat),lo<=hi->hi<=xs.size->hi - lo<=fuel->
  (∀i,i < lo->xs.getD i j < j)->(∀i,hi<=i->i < xs.size->j<=xs.getD i j)->
  below.go xs j fuel lo hi<=xs.size/\(∀i,i < below.go xs j fuel lo hi->xs.getD i j < j)/\(∀i,below.go xs j fuel lo hi<=i->i < xs.size->j<=xs.getD i j):=by
 intro fuel
 induction fuel with
 |zero=>
  intro lo hi h1 h2 h3 h4 h5
  have:lo=hi:=by omega
  subst this
  exact⟨h2,h4,h5⟩
 |succ fuel ih=>
  intro lo hi h1 h2 h3 h4 h5
  unfold below.go
  by_cases hlt:lo < hi
  ·rw[Hs hlt]
   dsimp only
   by_cases hm:xs.getD ((lo + hi) / 2) j < j
   ·rw[Hs hm]
    refine ih _ _ (by omega) h2 (by omega) (λi hi'=>?_) h5
    by_cases e:i=(lo + hi) / 2
    ·rw[e];exact hm
    ·exact JS (dW h (show i < (lo + hi) / 2 by omega) (by omega)) hm
   ·rw[Ht hm]
    refine ih _ _ (by omega) (by omega) (by omega) h4 (λi hi' hs=>?_)
    by_cases e:i=(lo + hi) / 2
    ·rw[e];omega
    ·have:=dW (d:=j) h (show (lo + hi) / 2 < i by omega) hs
     omega
  ·rw[Ht hlt]
   have:lo=hi:=by omega
   subst this
   exact⟨h2,h4,h5⟩
def b9 {xs:Array Nat}(h:fF xs)(j:Nat) :
  below xs j<=xs.size/\(∀i,i < below xs j->xs.getD i j < j)/\(∀i,below xs j<=i->i < xs.size->j<=xs.getD i j):=
 yD h xs.size 0 xs.size (Ij _) (Hv _) (by omega) (λi hi=>by omega) (λi h1 h2=>by omega)
def vE {xs:Array Nat}(h:fF xs){i j:Nat}(hi:xs[i]? =some j):below xs j=i:=by
 obtain⟨b1,b2,b3⟩:=b9 h j
 have hs:i < xs.size:=(IE.mp hi).1
 have hv:xs.getD i j=j:=by rw[HV,hi];rfl
 rcases Ky i (below xs j) with c |c |c
 ·have:=b2 i c;omega
 ·exact c.symm
 ·have hb:below xs j < xs.size:=by omega
  have q:=b3 (below xs j) (Hv _) hb
  have:=dW (d:=j) h c hs
  omega
def uv (j:Nat):has #[] j=false:=by
 unfold has
 simp
def nr {t:SetTable}(h:fF t.place){i j:Nat}(hi:t.place[i]? =some j):t.slot j=.live i:=by
 unfold slot
 dsimp only
 rw[vE h hi,Hs (by simp[hi])]
def se {t:SetTable}(hd:t.dummies=#[]){j:Nat}(hj:j∉t.place):t.slot j=.empty:=by
 unfold slot
 dsimp only
 have:¬(t.place[below t.place j]? == some j)=true:=by
  intro e
  have e':t.place[below t.place j]? =some j:=by simpa using e
  obtain⟨h1,h2⟩:=IE.mp e'
  exact hj (Array.mem_iff_getElem.mpr ⟨_,h1,h2⟩)
 rw[Ht this,hd,uv]
 rfl
def rf (mask:Nat)(p:Probe):Probe:=
 if p.more > 0 then {p with j:=p.j + 1,more:=p.more - 1} else
 {p with j:=(leap mask p.i p.perturb).1,more:=runEnd mask (leap mask p.i p.perturb).1 - (leap mask p.i p.perturb).1,i:=(leap mask p.i p.perturb).1,perturb:=(leap mask p.i p.perturb).2}
def vX (mask i perturb:Nat):Probe:={j:=i,more:=runEnd mask i - i,i,perturb,dummy:=none}
def st (mask:Nat)(h:Int):Probe:=vX mask (bits h % (mask + 1)) (bits h)
def wJ (t:SetTable)(p:Probe):t.advance p=rf t.mask p:=rfl
def Bh (t:SetTable)(h:Int):t.probeStart h=st t.mask h:=rfl
def cD (mask:Nat):Nat->Probe->Probe
 | 0,p=>p
 |n + 1,p=>cD mask n (rf mask p)
theorem gM (mask:Nat):∀(n m:Nat) (p:Probe),cD mask (n + m) p=cD mask m (cD mask n p)
 | 0,m,p=>by rw[IJ];rfl
 |n + 1,m,p=>by rw[Nat.add_right_comm];exact gM mask n m (rf mask p)
def wI {mask:Nat}{p:Probe}(h:p.dummy=none):(rf mask p).dummy=none:=by
 unfold rf;split <;> exact h
def fj {mask i:Nat}(h:i<=mask):i<=runEnd mask i/\runEnd mask i<=mask/\runEnd mask i - i<=9:=by
 unfold runEnd;split <;> omega
def In (mask:Nat)(p:Probe):Prop:=p.j + p.more<=mask/\p.more<=9
def C7 {mask i q:Nat}(h:i<=mask):In mask (vX mask i q):=by
 have:=fj h
 unfold In vX;dsimp only;omega
def iH (mask i q:Nat):(leap mask i q).1<=mask:=by
 unfold leap;exact Nat.lt_succ_iff.mp (Nat.mod_lt _ (Nat.succ_pos _))
def Dg {mask:Nat}{p:Probe}(h:In mask p):In mask (rf mask p):=by
 unfold rf
 by_cases hm:p.more > 0
 ·rw[Hs hm];unfold In at *;dsimp only;omega
 ·rw[Ht hm]
  have:=fj (iH mask p.i p.perturb)
  unfold In;dsimp only;omega
theorem uT {mask:Nat}:∀(n:Nat) {p:Probe},In mask p->In mask (cD mask n p)
 | 0,_,h=>h
 |n + 1,_,h=>uT n (Dg h)
def Ee (mask:Nat)(h:Int):In mask (st mask h):=C7 (Nat.lt_succ_iff.mp (Nat.mod_lt _ (Nat.succ_pos _)))
theorem pN (mask:Nat):∀(k:Nat) (p:Probe),p.more=k->cD mask (k + 1) p={p with j:=(leap mask p.i p.perturb).1,more:=runEnd mask (leap mask p.i p.perturb).1 - (leap mask p.i p.perturb).1,i:=(leap mask p.i p.perturb).1,perturb:=(leap mask p.i p.perturb).2}
 | 0,p,h=>by
  show rf mask p=_
  unfold rf
  rw[Ht (by omega)]
 |k + 1,p,h=>by
  have e:rf mask p={p with j:=p.j + 1,more:=p.more - 1}:=by unfold rf;rw[Hs (by omega)]
  show cD mask (k + 1) (rf mask p)=_
  rw[e,pN mask k _ (by dsimp only;omega)]
def jv (mask i q:Nat):cD mask (runEnd mask i - i + 1) (vX mask i q)=vX mask (leap mask i q).1 (leap mask i q).2:=by
 exact pN mask _ (vX mask i q) rfl
theorem fT (mask i q:Nat):∀(k:Nat),k<=runEnd mask i - i->(cD mask k (vX mask i q))={vX mask i q with j:=i + k,more:=runEnd mask i - i - k}
 | 0,_=>rfl
 |k + 1,h=>by
  rw[gM mask k 1,fT mask i q k (by omega)]
  show rf mask _=_
  unfold rf
  rw[Hs (by dsimp only;omega)]
  simp only[Probe.mk.injEq]
  refine⟨by omega,by omega,?_⟩
  trivial
def cR (mask:Nat):Nat->Nat×Nat->Nat×Nat
 | 0,x=>x
 |k + 1,x=>cR mask k (leap mask x.1 x.2)
theorem jG (mask:Nat):∀(k i q:Nat),i<=mask->∃n,n<=10 * k/\cD mask n (vX mask i q)=vX mask (cR mask k (i,q)).1 (cR mask k (i,q)).2
 | 0,i,q,_=>⟨0,Hv _,rfl⟩
 |k + 1,i,q,h=>by
  obtain⟨n,hn,e⟩:=jG mask k (leap mask i q).1 (leap mask i q).2 (iH _ _ _)
  have:=fj h
  refine⟨(runEnd mask i - i + 1) + n,by omega,?_⟩
  rw[gM,jv,e]
  rfl
theorem mW (mask:Nat):∀(a b:Nat) (x:Nat×Nat),cR mask (a + b) x=cR mask b (cR mask a x)
 | 0,b,x=>by rw[IJ];rfl
 |a + 1,b,x=>by rw[Nat.add_right_comm];exact mW mask a b (leap mask x.1 x.2)
theorem pA (mask:Nat):∀(k:Nat) (x:Nat×Nat),x.1<=mask->(cR mask k x).1<=mask
 | 0,_,h=>h
 |k + 1,x,_=>pA mask k _ (iH mask x.1 x.2)
theorem hZ (mask:Nat):∀(k:Nat) (x:Nat×Nat),(cR mask k x).2=x.2 / 32 ^ k
 | 0,x=>by simp[cR]
 |k + 1,x=>by
  show (cR mask k (leap mask x.1 x.2)).2=_
  rw[hZ mask k,Nat.pow_succ,Nat.mul_comm,<-Nat.div_div_eq_div_mul]
  rfl
def nx (mask i:Nat):Nat:=(i * 5 + 1) % (mask + 1)
def wx (mask:Nat):Nat->Nat->Nat
 | 0,i=>i
 |k + 1,i=>wx mask k (nx mask i)
theorem kc (mask:Nat):∀(a b i:Nat),wx mask (a + b) i=wx mask b (wx mask a i)
 | 0,b,i=>by rw[IJ];rfl
 |a + 1,b,i=>by rw[Nat.add_right_comm];exact kc mask a b (nx mask i)
theorem ko (mask:Nat):∀(k i:Nat),cR mask k (i,0)=(wx mask k i,0)
 | 0,_=>rfl
 |k + 1,i=>by
  show cR mask k (leap mask i 0)=_
  have:leap mask i 0=(nx mask i,0):=by simp[leap,nx]
  rw[this,ko mask k]
  rfl
def yg (mask:Nat):Prop:=mask=7\/mask=31\/mask=127
def EL (mask:Nat)(hm:yg mask):wx mask (mask + 1) 0=0/\∀j,j<=mask->∃k,k<=mask/\wx mask k 0=j:=by
 have h7:∀j:Nat,j < 8->∃k,k < 8/\wx 7 k 0=j:=by decide +kernel
 have h31:∀j:Nat,j < 32->∃k,k < 32/\wx 31 k 0=j:=by decide +kernel
 have h127:∀j:Nat,j < 128->∃k,k < 128/\wx 127 k 0=j:=by decide +kernel
 rcases hm with rfl |rfl |rfl
 ·exact⟨by decide +kernel,λj hj=>let ⟨k,a,b⟩:=h7 j (by omega);⟨k,by omega,b⟩⟩
 ·exact⟨by decide +kernel,λj hj=>let ⟨k,a,b⟩:=h31 j (by omega);⟨k,by omega,b⟩⟩
 ·exact⟨by decide +kernel,λj hj=>let ⟨k,a,b⟩:=h127 j (by omega);⟨k,by omega,b⟩⟩
def EX {mask:Nat}(hm:yg mask){i j:Nat}(hi:i<=mask)(hj:j<=mask):∃k,k<=mask/\wx mask k i=j:=by
 obtain⟨z,o⟩:=EL mask hm
 obtain⟨a,ha,ea⟩:=o i hi
 obtain⟨b,hb,eb⟩:=o j hj
 have back:wx mask (mask + 1 - a) i=0:=by
  rw[<-ea,<-kc,show a + (mask + 1 - a)=mask + 1 by omega];exact z
 by_cases hab:a<=b
 ·refine⟨b - a,by omega,?_⟩
  rw[<-ea,<-kc,show a + (b - a)=b by omega];exact eb
 ·refine⟨mask + 1 - a + b,by omega,?_⟩
  rw[kc,back];exact eb
def kr {mask:Nat}(hm:yg mask){i q j:Nat}(hi:i<=mask)(hq:q < 2 ^ 64)(hj:j<=mask):∃k,k<=mask + 13/\(cR mask k (i,q)).1=j:=by
 have hz:(cR mask 13 (i,q)).2=0:=by
  rw[hZ]
  exact Nat.div_eq_of_lt (HZ hq (by decide))
 obtain⟨k,hk,e⟩:=EX hm (pA mask 13 (i,q) hi) hj
 refine⟨13 + k,by omega,?_⟩
 rw[mW]
 have:cR mask 13 (i,q)=((cR mask 13 (i,q)).1,0):=Prod.ext rfl hz
 rw[this,ko]
 exact e
def tZ (h:Int):bits h < 2 ^ 64:=by
 unfold bits
 have:=Int.emod_lt_of_pos h (show (0:Int) < 2 ^ 64 by decide)
 have:=Int.emod_nonneg h (show (2 ^ 64:Int)≠0 by decide)
 omega
def yd {mask:Nat}(hm:yg mask)(h:Int){j:Nat}(hj:j<=mask):∃n,n < 10 * turns mask/\(cD mask n (st mask h)).j=j:=by
 have hi:bits h % (mask + 1)<=mask:=Nat.lt_succ_iff.mp (Nat.mod_lt _ (Nat.succ_pos _))
 obtain⟨k,hk,e⟩:=kr hm hi (tZ h) hj
 obtain⟨n,hn,q⟩:=jG mask k (bits h % (mask + 1)) (bits h) hi
 refine⟨n,by unfold turns;omega,?_⟩
 show (cD mask n (vX mask _ _)).j=j
 rw[q];exact e
theorem yr {t:SetTable}{hashAt:Nat->Int}{h:Int}:∀(n fuel:Nat) (p:Probe),n < fuel->p.dummy=none->
  (∀m,m < n->∃i,t.slot (cD t.mask m p).j=.live i/\hashAt i≠h)->t.slot (cD t.mask n p).j=.empty->
  probe.go t hashAt h fuel p=some (.empty (cD t.mask n p).j none):=by
 intro n
 induction n with
 |zero=>
  intro fuel p hf hd _ he
  obtain⟨f,rfl⟩:∃f,fuel=f + 1:=⟨fuel - 1,by omega⟩
  unfold probe.go
  have he':t.slot p.j=.empty:=he
  rw[he',hd]
  rfl
 |succ n ih=>
  intro fuel p hf hd hl he
  obtain⟨f,rfl⟩:∃f,fuel=f + 1:=⟨fuel - 1,by omega⟩
  unfold probe.go
  obtain⟨i,e,ne⟩:=hl 0 (by omega)
  have e':t.slot p.j=.live i:=e
  rw[e']
  dsimp only
  rw[Ht (by simpa using ne),wJ]
  exact ih f (rf t.mask p) (by omega) (wI hd) (λm hm=>hl (m + 1) (by omega)) he
theorem zi {t:SetTable}{hashAt:Nat->Int}{h:Int}:∀(n fuel:Nat) (p:Probe),n < fuel->
  (∀m,m<=n->∃i,t.slot (cD t.mask m p).j=.live i)->(∃i,t.slot (cD t.mask n p).j=.live i/\hashAt i=h)->
  ∃j i next,probe.go t hashAt h fuel p=some (.candidate j i next)/\t.slot j=.live i/\hashAt i=h:=by
 intro n
 induction n with
 |zero=>
  intro fuel p hf _ he
  obtain⟨f,rfl⟩:∃f,fuel=f + 1:=⟨fuel - 1,by omega⟩
  obtain⟨i,e,eh⟩:=he
  have e':t.slot p.j=.live i:=e
  unfold probe.go
  rw[e']
  dsimp only
  rw[Hs (by simpa using eh)]
  exact⟨p.j,i,_,rfl,e',eh⟩
 |succ n ih=>
  intro fuel p hf hl he
  obtain⟨f,rfl⟩:∃f,fuel=f + 1:=⟨fuel - 1,by omega⟩
  obtain⟨i,e⟩:=hl 0 (by omega)
  have e':t.slot p.j=.live i:=e
  unfold probe.go
  rw[e']
  dsimp only
  by_cases hh:hashAt i=h
  ·rw[Hs (by simpa using hh)]
   exact⟨p.j,i,_,rfl,e',hh⟩
  ·rw[Ht (by simpa using hh),wJ]
   exact ih f (rf t.mask p) (by omega) (λm hm=>hl (m + 1) (by omega)) he
def Reach (mask:Nat)(L:Nat->Prop)(h:Int)(j:Nat):Prop:=∃n,n < 10 * turns mask/\(cD mask n (st mask h)).j=j/\∀m,m < n->L (cD mask m (st mask h)).j
def Reach.mono {mask:Nat}{L L':Nat->Prop}{h:Int}{j:Nat}(r:Reach mask L h j)(k:∀x,L x->L' x):Reach mask L' h j:=
 let ⟨n,a,b,c⟩:=r;⟨n,a,b,λm hm=>k _ (c m hm)⟩
structure Tab (t:SetTable)(hs:List Int):Prop where
 mask:yg t.mask
 dum:t.dummies=#[]
 rise:fF t.place
 le:∀j,j∈t.place->j<=t.mask
 size:t.place.size=hs.length
 load:t.place.size * 5 < t.mask * 3
 reach:∀(i j:Nat) (h:Int),t.place[i]? =some j->hs[i]? =some h->Reach t.mask (· ∈t.place) h j
 plain:t.plain=true
theorem bo {α:Type}[DecidableEq α]:∀{l m:List α},l.Nodup->(∀x,x∈l->x∈m)->l.length<=m.length
 | [],_,_,_=>Ij _
 |a :: l,m,hn,hs=>by
  have ha:=hs a (HC ..)
  have hl:=Ja.mp hn
  have:=bo (l:=l) (m:=m.erase a) hl.2 λx hx=>by
   refine (List.mem_erase_of_ne ?_).mpr (hs x (Hz _ hx))
   rintro rfl;exact hl.1 hx
  rw[Ko ha] at this
  have:0 < m.length:=List.length_pos_of_mem ha
  simp only[HQ];omega
def rH {mask:Nat}{xs:Array Nat}(hl:xs.size<=mask):∃j,j<=mask/\j∉xs:=by
 refine Classical.byContradiction λhc=>?_
 have all:∀j,j∈List.range (mask + 1)->j∈xs.toList:=λj hj=>by
  have:=HX.mp hj
  refine Classical.byContradiction λhn=>hc ⟨j,by omega,λz=>hn (by simpa using z)⟩
 have:=bo JT all
 simp at this
 omega
theorem nJ {P:Nat->Prop}(h:∃n,P n):∃n,P n/\∀m,m < n->¬P m:=by
 obtain⟨n,hn⟩:=h
 induction n using Nat.strongRecOn with
 |_ n ih=>
  by_cases hc:∃m,m < n/\P m
  ·obtain⟨m,hm,hp⟩:=hc
   exact ih m hm hp
  ·exact⟨n,hn,λm hm hp=>hc ⟨m,hm,hp⟩⟩
section
variable {t:SetTable}{hs:List Int}
def Tab.load' (T:Tab t hs):t.place.size<=t.mask:=by have:=T.load;omega
def Tab.slotL (T:Tab t hs){j:Nat}(hj:j∈t.place):∃i,t.slot j=.live i/\t.place[i]? =some j:=by
 obtain⟨i,hi,e⟩:=Array.mem_iff_getElem.mp hj
 have q:t.place[i]? =some j:=by rw[Ig hi,e]
 exact⟨i,nr T.rise q,q⟩
def Tab.slotE (T:Tab t hs){j:Nat}(hj:j∉t.place):t.slot j=.empty:=se T.dum hj
def Tab.first (T:Tab t hs)(h:Int):∃n,n < 10 * turns t.mask/\(cD t.mask n (st t.mask h)).j∉t.place/\∀m,m < n->(cD t.mask m (st t.mask h)).j∈t.place:=by
 obtain⟨j,hj,hn⟩:=rH T.load'
 obtain⟨n,h1,h2⟩:=yd T.mask h hj
 obtain⟨k,hk,hlt⟩:=nJ (P:=λn=>(cD t.mask n (st t.mask h)).j∉t.place) ⟨n,by rw[h2];exact hn⟩
 refine⟨k,?_,hk,λm hm=>Classical.byContradiction λz=>hlt m hm z⟩
 rcases Ie n k with c |c
 ·exact absurd (show (cD t.mask n (st t.mask h)).j∉t.place by rw[h2];exact hn) (hlt n c)
 ·omega
def Tab.absent (T:Tab t hs){hashAt:Nat->Int}(ha:∀i,i < hs.length->some (hashAt i)=hs[i]?){h:Int}(hn:h∉hs) :
  ∃j,t.probe hashAt h (t.probeStart h)=some (.empty j none)/\j∉t.place/\j<=t.mask/\Reach t.mask (· ∈t.place) h j:=by
 obtain⟨n,h1,h2,h3⟩:=T.first h
 refine⟨(cD t.mask n (st t.mask h)).j,?_,h2,?_,⟨n,h1,rfl,h3⟩⟩
 ·unfold probe
  rw[Bh]
  refine yr n _ _ h1 rfl (λm hm=>?_) (T.slotE h2)
  obtain⟨i,e,q⟩:=T.slotL (h3 m hm)
  refine⟨i,e,λz=>hn ?_⟩
  have hi:i < hs.length:=by rw[<-T.size];exact (IE.mp q).1
  have:=ha i hi
  rw[z] at this
  exact HG this.symm
 ·have:=uT n (Ee t.mask h)
  unfold In at this;omega
def Tab.present (T:Tab t hs){hashAt:Nat->Int}(ha:∀i,i < hs.length->some (hashAt i)=hs[i]?){h:Int}(hm:h∈hs) :
  ∃j i next,t.probe hashAt h (t.probeStart h)=some (.candidate j i next)/\t.slot j=.live i/\i < hs.length/\hs[i]? =some h:=by
 obtain⟨i,hi,e⟩:=Ip.mp hm
 have hi':hs[i]? =some h:=by rw[Hq hi,e]
 have hp:i < t.place.size:=by rw[T.size];exact hi
 obtain⟨n,h1,h2,h3⟩:=T.reach i t.place[i] h (Ig hp) hi'
 have hj:(cD t.mask n (st t.mask h)).j∈t.place:=by rw[h2];exact Array.getElem_mem hp
 obtain⟨j',i',nx,g1,g2,g3⟩:=zi (t:=t) (hashAt:=hashAt) (h:=h) n (10 * turns t.mask) (st t.mask h) h1 (λm hm=>by
   rcases Ie m n with c |c
   ·obtain⟨i,e,_⟩:=T.slotL (h3 m c);exact⟨i,e⟩
   ·have:m=n:=by omega
    subst this
    obtain⟨i,e,_⟩:=T.slotL hj;exact⟨i,e⟩)
  ⟨i,by rw[h2];exact nr T.rise (Ig hp),by
   have:=ha i hi
   rw[hi'] at this
   exact Option.some.inj this⟩
 have hi2:i' < t.place.size:=by
  unfold slot at g2
  dsimp only at g2
  split at g2
  ·rename_i c
   have c':t.place[below t.place j']? =some j':=by simpa using c
   cases g2
   exact (IE.mp c').1
  ·split at g2 <;> cases g2
 refine⟨j',i',nx,by unfold probe;rw[Bh];exact g1,g2,by rw[<-T.size];exact hi2,?_⟩
 have:=ha i' (by rw[<-T.size];exact hi2)
 rw[g3] at this
 exact this.symm
end
def a8 {α:Type}(xs:Array α)(p:Nat)(x:α)(_:p<=xs.size):(insertAt xs p x).toList=xs.toList.take p ++ x :: xs.toList.drop p:=by
 unfold insertAt
 simp[Kf,JL]
 rw[IW (by simp)]
def ni (t:SetTable)(j:Nat)(hd:t.dummies=#[]):(t.put j).1={t with place:=insertAt t.place (below t.place j) j}/\(t.put j).2=below t.place j:=by
 unfold put
 dsimp only
 rw[hd,uv]
 exact⟨by simp,rfl⟩
section
variable {t:SetTable}{hs:List Int}
def iI {α:Type}{xs:Array α}{p:Nat}{x y:α}(hp:p<=xs.size):y∈insertAt xs p x↔y∈xs\/y=x:=by
 rw[<-JK,a8 xs p x hp,HP,HA,<-JK]
 have:y∈xs.toList↔y∈xs.toList.take p\/y∈xs.toList.drop p:=by
  conv=>lhs;rw[<-IM p xs.toList]
  exact HP
 rw[this]
 constructor
 ·rintro (a |a |a)
  ·exact .inl (.inl a)
  ·exact .inr a
  ·exact .inl (.inr a)
 ·rintro ((a |a) |a)
  ·exact .inl a
  ·exact .inr (.inr a)
  ·exact .inr (.inl a)
def mf {xs:Array Nat}(h:fF xs){j:Nat}(hj:j∉xs):fF (insertAt xs (below xs j) j):=by
 obtain⟨b1,b2,b3⟩:=b9 h j
 unfold fF
 rw[a8 _ _ _ b1]
 have hl:∀y,y∈xs.toList.take (below xs j)->y < j:=λy hy=>by
  obtain⟨i,hi,e⟩:=Ip.mp hy
  have hi1:i < below xs j:=by simp at hi;omega
  have hi2:i < xs.size:=by omega
  have:=b2 i hi1
  rw[HV,Ig hi2] at this
  simp at e this
  omega
 have hr:∀y,y∈xs.toList.drop (below xs j)->j < y:=λy hy=>by
  obtain⟨i,hi,e⟩:=Ip.mp hy
  have hi2:below xs j + i < xs.size:=by simp at hi;omega
  have:=b3 (below xs j + i) (by omega) hi2
  rw[HV,Ig hi2] at this
  simp at e this
  rcases Ie j y with c |c
  ·exact c
  ·have:j=y:=by omega
   exact absurd (by rw[this,<-e];exact Array.getElem_mem _) hj
 refine IB.mpr ⟨List.Pairwise.sublist (J5 ..) h,JC.mpr ⟨λy hy=>hr y hy,List.Pairwise.sublist (List.drop_sublist ..) h⟩,λa ha b hb=>?_⟩
 rcases HA.mp hb with rfl |hb
 ·exact hl a ha
 ·exact JS (hl a ha) (hr b hb)
def qp {α:Type}(l:List α)(p:Nat)(x:α)(hp:p<=l.length)(i:Nat):(l.take p ++ x :: l.drop p)[i]? =if i < p then l[i]? else if i=p then some x else l[i - 1]?:=by
 rcases Ky i p with c |c |c
 ·rw[Hs c,IA (by simp;omega),List.getElem?_take_of_lt c]
 ·subst c
  rw[Ht (Ic _),Hs rfl,Iv (by simp;omega),IU,Nat.min_eq_left hp,Nat.sub_self]
  rfl
 ·rw[Ht (by omega),Ht (by omega),Iv (by simp;omega),IU,Nat.min_eq_left hp]
  obtain⟨k,rfl⟩:∃k,i=p + 1 + k:=⟨i - (p + 1),by omega⟩
  rw[show p + 1 + k - p=k + 1 by omega,List.getElem?_cons_succ,Kq]
  congr 1
  omega
def Tab.put (T:Tab t hs){j:Nat}{h:Int}(hj:j∉t.place)(hm:j<=t.mask)(r:Reach t.mask (· ∈t.place) h j)(hf:(t.place.size + 1) * 5 < t.mask * 3) :
  Tab (t.put j).1 (hs.take (t.put j).2 ++ h :: hs.drop (t.put j).2)/\(t.put j).2<=hs.length:=by
 obtain⟨e1,e2⟩:=ni t j T.dum
 obtain⟨b1,b2,b3⟩:=b9 T.rise j
 have hsz:(insertAt t.place (below t.place j) j).size=t.place.size + 1:=by
  rw[<-HW,a8 _ _ _ b1]
  simp;omega
 have hl:below t.place j<=hs.length:=by rw[<-T.size];exact b1
 rw[e1,e2]
 refine⟨⟨T.mask,T.dum,mf T.rise hj,λy hy=>?_,?_,?_,λi y g hy hg=>?_,T.plain⟩,hl⟩
 ·rcases (iI b1).mp hy with z |z
  ·exact T.le y z
  ·rw[z];exact hm
 ·show (insertAt t.place _ j).size=_
  rw[hsz,T.size];simp;omega
 ·show (insertAt t.place _ j).size * 5 < t.mask * 3
  rw[hsz];exact hf
 ·show Reach t.mask (· ∈insertAt t.place (below t.place j) j) g y
  have hy':(t.place.toList.take (below t.place j) ++ j :: t.place.toList.drop (below t.place j))[i]? =some y:=by
   rw[<-a8 _ _ _ b1,Iz];exact hy
  rw[qp _ _ _ (by simpa using b1)] at hy'
  rw[qp _ _ _ hl] at hg
  have old:∀{g y},Reach t.mask (· ∈t.place) g y->Reach t.mask (· ∈insertAt t.place (below t.place j) j) g y:=λr=>r.mono λx hx=>(iI b1).mpr (.inl hx)
  split at hy'
  ·rename_i c
   rw[Hs c] at hg
   exact old (T.reach i y g (by simpa using hy') hg)
  ·rename_i c
   rw[Ht c] at hg
   split at hy'
   ·rename_i c2
    rw[Hs c2] at hg
    cases hg;cases hy'
    exact old r
   ·rename_i c2
    rw[Ht c2] at hg
    exact old (T.reach (i - 1) y g (by simpa using hy') hg)
end
abbrev own (o:Array (Option Nat))(j:Nat):Option Nat:=o.getD j none
theorem wb {mask:Nat}{o:Array (Option Nat)}(hsz:o.size=mask + 1):∀(fuel i q:Nat) (j:Nat),i<=mask->layClean.free mask o fuel i q=some j->
  ∃n,n < 10 * fuel/\(cD mask n (vX mask i q)).j=j/\(∀m,m < n->(own o (cD mask m (vX mask i q)).j).isSome=true)/\own o j=none/\j<=mask:=by
 intro fuel
 induction fuel with
 |zero=>intro i q j _ h;unfold layClean.free at h;cases h
 |succ fuel ih=>
  intro i q j hi h
  unfold layClean.free at h
  have hr:=fj hi
  have ind:∀k,k<=runEnd mask i - i->o.getD (i + k) (some 0)=own o (i + k):=λk hk=>by
   have:i + k < o.size:=by omega
   simp[own,Array.getD,this]
  cases hf:(List.range (runEnd mask i + 1 - i)).find? λk=>(o.getD (i + k) (some 0)).isNone with
  |some k=>
   rw[hf] at h
   dsimp only at h
   have hk:=List.find?_eq_some_iff_getElem.mp hf
   obtain⟨hn,ix,hix,eix,hbef⟩:=hk
   have ek:ix=k:=by simpa using eix
   subst ek
   have hix':ix < runEnd mask i + 1 - i:=by simpa using hix
   cases h
   refine⟨ix,by omega,?_,λm hm=>?_,?_,by omega⟩
   ·rw[fT mask i q ix (by omega)]
   ·rw[fT mask i q m (by omega)]
    have:=hbef m hm
    simp only[List.getElem_range] at this
    rw[ind m (by omega)] at this
    dsimp only
    cases e:own o (i + m) with
    |none=>rw[e] at this;simp at this
    |some _=>rfl
   ·rw[ind ix (by omega)] at hn
    cases e:own o (i + ix) with
    |none=>rfl
    |some _=>rw[e] at hn;simp at hn
  |none=>
   rw[hf] at h
   dsimp only at h
   obtain⟨n,h1,h2,h3,h4,h5⟩:=ih _ _ j (iH mask i q) h
   have hnone:=List.find?_eq_none.mp hf
   refine⟨(runEnd mask i - i + 1) + n,by omega,?_,λm hm=>?_,h4,h5⟩
   ·rw[gM,jv];exact h2
   ·rcases Ie m (runEnd mask i - i + 1) with c |c
    ·rw[fT mask i q m (by omega)]
     have:=hnone m (HX.mpr (by omega))
     rw[ind m (by omega)] at this
     dsimp only
     cases e:own o (i + m) with
     |none=>rw[e] at this;simp at this
     |some _=>rfl
    ·obtain⟨k,rfl⟩:∃k,m=(runEnd mask i - i + 1) + k:=⟨m - (runEnd mask i - i + 1),by omega⟩
     rw[gM,jv]
     exact h3 k (by omega)
theorem vZ {mask:Nat}{o:Array (Option Nat)}(hsz:o.size=mask + 1):∀(fuel i q k:Nat),i<=mask->k < fuel->own o (cR mask k (i,q)).1=none->∃j,layClean.free mask o fuel i q=some j:=by
 intro fuel
 induction fuel with
 |zero=>intro i q k _ hk;omega
 |succ fuel ih=>
  intro i q k hi hk hn
  unfold layClean.free
  cases hf:(List.range (runEnd mask i + 1 - i)).find? λk=>(o.getD (i + k) (some 0)).isNone with
  |some k=>exact⟨_,rfl⟩
  |none=>
   dsimp only
   cases k with
   |zero=>
    have hr:=fj hi
    have:=List.find?_eq_none.mp hf 0 (HX.mpr (by omega))
    have e:own o i=none:=hn
    have hi2:i < o.size:=by omega
    simp[own,Array.getD,hi2] at e this
    rw[e] at this;simp at this
   |succ k=>exact ih _ _ k (iH mask i q) (by omega) hn
structure Lay (mask:Nat)(o:Array (Option Nat))(hs:List Int):Prop where
 size:o.size=mask + 1
 all:∀k h,hs[k]? =some h->∃j,own o j=some k/\Reach mask (λx=>(own o x).isSome=true) h j
 one:∀j j' k,own o j=some k->own o j'=some k->j=j'
 le:∀j k,own o j=some k->j<=mask/\k < hs.length
def je {o:Array (Option Nat)}{j x k:Nat}(hj:j < o.size):own (o.setIfInBounds j (some k)) x=if x=j then some k else own o x:=by
 unfold own
 rw[HV,HV,Array.getElem?_setIfInBounds]
 by_cases e:x=j
 ·subst e;simp[hj]
 ·rw[Ht e,Ht (λz=>e z.symm)]
def xM {mask:Nat}(hm:yg mask){o:Array (Option Nat)}{hs:List Int}(L:Lay mask o hs)(h:Int)(hl:hs.length<=mask) :
  ∃j,layClean.free mask o (turns mask) (bits h % (mask + 1)) (bits h)=some j/\Lay mask (o.setIfInBounds j (some hs.length)) (hs ++ [h]):=by
 have hi:bits h % (mask + 1)<=mask:=Nat.lt_succ_iff.mp (Nat.mod_lt _ (Nat.succ_pos _))
 have hfree:∃j,j<=mask/\own o j=none:=by
  refine Classical.byContradiction λhc=>?_
  have hall:∀j,j<=mask->∃k,own o j=some k:=λj hj=>by
   cases e:own o j with
   |none=>exact absurd ⟨j,hj,e⟩ hc
   |some k=>exact⟨k,rfl⟩
  have nd:((List.range (mask + 1)).map λj=>(own o j).getD 0).Nodup:=by
   refine IZ.mpr ?_
   refine Jv ?_ JT
   intro a b ha hb hab e
   obtain⟨ka,ea⟩:=hall a (by have:=HX.mp ha;omega)
   obtain⟨kb,eb⟩:=hall b (by have:=HX.mp hb;omega)
   rw[ea,eb] at e
   simp at e
   subst e
   exact hab (L.one a b ka ea eb)
  have:=bo (m:=List.range hs.length) nd λx hx=>by
   obtain⟨j,hj,rfl⟩:=HK.mp hx
   obtain⟨k,e⟩:=hall j (by have:=HX.mp hj;omega)
   rw[e]
   exact HX.mpr (L.le j k e).2
  simp at this
  omega
 obtain⟨j0,hj0,hn0⟩:=hfree
 obtain⟨k,hk,ek⟩:=kr hm hi (tZ h) hj0
 obtain⟨j,hj⟩:=vZ L.size (turns mask) _ (bits h) k hi (by unfold turns;omega) (by rw[ek];exact hn0)
 refine⟨j,hj,?_⟩
 obtain⟨n,h1,h2,h3,h4,h5⟩:=wb L.size _ _ _ _ hi hj
 have hjs:j < o.size:=by rw[L.size];omega
 have grow:∀x,(own o x).isSome=true->(own (o.setIfInBounds j (some hs.length)) x).isSome=true:=λx hx=>by
  rw[je hjs];split
  ·rfl
  ·exact hx
 refine⟨by rw[Array.size_setIfInBounds];exact L.size,λk g hg=>?_,λa b c ea eb=>?_,λa c ea=>?_⟩
 ·rcases Ie k hs.length with c |c
  ·rw[IA c] at hg
   obtain⟨x,ex,rx⟩:=L.all k g hg
   refine⟨x,?_,rx.mono grow⟩
   rw[je hjs,Ht (λz=>?_)]
   ·exact ex
   ·subst z;rw[ex] at h4;cases h4
  ·rw[Iv c] at hg
   have:k=hs.length:=by
    have:=(HE.mp hg).1
    simp at this;omega
   subst this
   simp at hg
   subst hg
   exact⟨j,by rw[je hjs,Hs rfl],n,h1,h2,λm hm=>grow _ (h3 m hm)⟩
 ·rw[je hjs] at ea eb
  split at ea
  ·cases ea
   split at eb
   ·omega
   ·have:=(L.le _ _ eb).2;omega
  ·split at eb
   ·cases eb
    have:=(L.le _ _ ea).2;omega
   ·exact L.one _ _ _ ea eb
 ·rw[je hjs] at ea
  rw[Iu]
  split at ea
  ·cases ea;simp;omega
  ·have:=L.le _ _ ea;simp;omega
theorem uw {mask:Nat}(hm:yg mask):∀(rest hs:List Int) (o:Array (Option Nat)),Lay mask o hs->hs.length + rest.length<=mask->
  ∃o',rest.foldl (init:=some (o,hs.length)) (λacc h=>do
   let (owner,k) <-acc
   let j <-layClean.free mask owner (turns mask) (bits h % (mask + 1)) (bits h)
   pure (owner.setIfInBounds j (some k),k + 1))=some (o',hs.length + rest.length)/\Lay mask o' (hs ++ rest)
 | [],hs,o,L,_=>⟨o,rfl,by rw[Jt];exact L⟩
 |h :: rest,hs,o,L,hl=>by
  simp only[HQ] at hl
  obtain⟨j,e,L'⟩:=xM hm L h (by omega)
  obtain⟨o',e',L2⟩:=uw hm rest (hs ++ [h]) _ L' (by simp;omega)
  refine⟨o',?_,by rw[Ia] at L2;exact L2⟩
  rw[Kl]
  simp only[Option.bind_eq_bind,Option.bind_some,e,Option.pure_def]
  have el:(hs ++ [h]).length=hs.length + 1:=by simp
  rw[el] at e'
  simp only[Option.bind_eq_bind,Option.pure_def] at e'
  rw[e']
  simp;omega
def tL (n j:Nat):own (Array.replicate n none) j=none:=by
 unfold own
 rw[HV,Array.getElem?_replicate]
 split <;> rfl
def Ae (mask:Nat):Lay mask (Array.replicate (mask + 1) none) []:=
 ⟨by simp,λk h e=>by simp at e,λj j' k e _=>by (rw[tL] at e;cases e),λj k e=>by (rw[tL] at e;cases e)⟩
def vV {mask:Nat}(hm:yg mask)(hs:Array Int)(hl:hs.size * 5 < mask * 3)(finger moves:Nat)(led:Bool) :
  ∃t order,laid mask finger moves led true hs=some (t,order)/\t.led=led/\t.mask=mask/\order.toList.Nodup/\(∀k,k∈order.toList↔k < hs.size)/\
   Tab t (order.toList.map λk=>hs.toList.getD k 0):=by
 obtain⟨o,e,L⟩:=uw hm hs.toList [] _ (Ae mask) (by simp;omega)
 simp only[List.nil_append] at L
 have ec:layClean mask hs=some o:=by
  unfold layClean
  rw[<-Array.foldl_toList]
  simp only[Js] at e
  rw[e];rfl
 have hlive:∀j k,(j,k)∈((List.range (mask + 1)).filterMap λj=>(o.getD j none).map (j, ·))↔own o j=some k:=λj k=>by
  rw[Jn]
  constructor
  ·rintro⟨x,_,q⟩
   cases ex:o.getD x none with
   |none=>rw[ex] at q;cases q
   |some y=>rw[ex] at q;simp at q;rw[<-q.1,<-q.2];exact ex
  ·intro q
   refine⟨j,HX.mpr (by have:=(L.le j k q).1;omega),?_⟩
   have:o.getD j none=some k:=q
   rw[this];rfl
 have hpw:((List.range (mask + 1)).filterMap λj=>(o.getD j none).map (j, ·)).Pairwise (λa b=>a.1 < b.1):=by
  refine List.pairwise_filterMap.mpr ?_
  refine List.Pairwise.imp ?_ List.pairwise_lt_range
  intro a b hab x hx y hy
  cases ea:o.getD a none with
  |none=>rw[ea] at hx;cases hx
  |some u=>
   cases eb:o.getD b none with
   |none=>rw[eb] at hy;cases hy
   |some v=>
    rw[ea] at hx;rw[eb] at hy
    simp at hx hy
    rw[<-hx,<-hy];exact hab
 generalize hlv:((List.range (mask + 1)).filterMap λj=>(o.getD j none).map (j, ·))=live at hlive hpw
 refine⟨{mask,place:=(live.map (·.1)).toArray,dummies:=#[],finger,led,moves,plain:=true},(live.map (·.2)).toArray,?_,rfl,rfl,?_,λk=>?_,?_⟩
 ·unfold laid
  rw[ec]
  simp only[Option.bind_eq_bind,Option.bind_some,Option.pure_def,hlv]
 ·have:(live.map (·.2)).Nodup:=by
   refine IZ.mpr (Jv ?_ hpw)
   intro a b ha hb hab ee
   have h1:=(hlive a.1 a.2).mp ha
   have h2:=(hlive b.1 b.2).mp hb
   rw[ee] at h1
   have:=L.one _ _ _ h1 h2
   omega
  simpa using this
 ·rw[HK]
  constructor
  ·rintro⟨x,hx,rfl⟩
   have:=(L.le x.1 x.2 ((hlive x.1 x.2).mp hx)).2
   simpa using this
  ·intro hk
   have hk':k < hs.toList.length:=by simpa using hk
   obtain⟨j,ej,_⟩:=L.all k _ (Hq hk')
   exact⟨(j,k),(hlive j k).mpr ej,rfl⟩
 ·have hord:live.length=hs.size:=by
   have a1:(live.map (·.2)).Nodup:=by
    refine IZ.mpr (Jv ?_ hpw)
    intro a b ha hb hab ee
    have h1:=(hlive a.1 a.2).mp ha
    have h2:=(hlive b.1 b.2).mp hb
    rw[ee] at h1
    have:=L.one _ _ _ h1 h2
    omega
   have b1:=bo (m:=List.range hs.size) a1 λx hx=>by
    obtain⟨y,hy,rfl⟩:=HK.mp hx
    have:=(L.le y.1 y.2 ((hlive y.1 y.2).mp hy)).2
    exact HX.mpr (by simpa using this)
   have b2:=bo (l:=List.range hs.size) (m:=live.map (·.2)) JT λx hx=>by
    have hk':x < hs.toList.length:=by simpa using HX.mp hx
    obtain⟨j,ej,_⟩:=L.all x _ (Hq hk')
    exact HK.mpr ⟨(j,x),(hlive j x).mpr ej,rfl⟩
   simp at b1 b2
   omega
  refine⟨hm,rfl,?_,λj hj=>?_,?_,?_,λi j h hi hh=>?_,rfl⟩
  ·show (live.map (·.1)).toArray.toList.Pairwise _
   rw[Jk]
   exact IZ.mpr hpw
  ·have:j∈live.map (·.1):=by simpa using hj
   obtain⟨x,hx,rfl⟩:=HK.mp this
   exact (L.le x.1 x.2 ((hlive x.1 x.2).mp hx)).1
  ·simp
  ·show (live.map (·.1)).toArray.size * 5 < mask * 3
   simp[hord];exact hl
  ·have hi':(live.map (·.1))[i]? =some j:=by simpa using hi
   have hh':((live.map (·.2)).map λk=>hs.toList.getD k 0)[i]? =some h:=by simpa using hh
   rw[HH] at hi'
   rw[HH,HH] at hh'
   cases ex:live[i]? with
   |none=>rw[ex] at hi';cases hi'
   |some x=>
    rw[ex] at hi' hh'
    simp at hi' hh'
    have hxl:=(hlive x.1 x.2).mp (HG ex)
    have hk:=(L.le _ _ hxl).2
    have hk2:x.2 < hs.size:=by simpa using hk
    obtain⟨j2,ej2,r⟩:=L.all x.2 h (by
     rw[Hq hk]
     simp[hk2] at hh'
     simpa using hh')
    have:j2=j:=by rw[<-hi'];exact L.one _ _ _ ej2 hxl
    subst this
    refine r.mono λy hy=>?_
    show y∈(live.map (·.1)).toArray
    cases ey:own o y with
    |none=>rw[ey] at hy;cases hy
    |some k=>
     have:y∈live.map (·.1):=HK.mpr ⟨(y,k),(hlive y k).mpr ey,rfl⟩
     simpa using this
abbrev Pr:=Int×Int
def hp (p:Pr):Int:=reduceHash (Builtin.Tuple.tupleHashOf [hashInt p.1,hashInt p.2])
def Sm (p:Pr):Prop:=(0<=p.1/\p.1 < 8)/\(0<=p.2/\p.2 < 8)
def kM:List Pr:=(List.range 64).map λk=>(((k / 8:Nat):Int),((k % 8:Nat):Int))
def iB {p:Pr}(h:Sm p):p∈kM:=by
 unfold kM
 obtain⟨⟨a,b⟩,c,d⟩:=h
 refine HK.mpr ⟨p.1.toNat * 8 + p.2.toNat,HX.mpr (by omega),?_⟩
 refine Prod.ext ?_ ?_ <;> dsimp only <;> omega
def yc:(kM.map hp).Nodup:=by decide +kernel
theorem iW {α β:Type}{f:α->β}:∀{l:List α},(l.map f).Nodup->∀a b,a∈l->b∈l->f a=f b->a=b
 | [],_,_,_,h,_,_=>by cases h
 |x :: l,hn,a,b,ha,hb,e=>by
  have hn':=Ja.mp hn
  rcases HA.mp ha with ea |ha
  ·rcases HA.mp hb with eb |hb
   ·rw[ea,eb]
   ·exact absurd (HK.mpr ⟨b,hb,by rw[<-e,ea]⟩) hn'.1
  ·rcases HA.mp hb with eb |hb
   ·exact absurd (HK.mpr ⟨a,ha,by rw[e,eb]⟩) hn'.1
   ·exact iW hn'.2 a b ha hb e
def B6 {p q:Pr}(hp1:Sm p)(hq:Sm q)(e:hp p=hp q):p=q:=iW yc p q (iB hp1) (iB hq) e
def rT {l:List Pr}(hn:l.Nodup)(h:∀p,p∈l->Sm p):l.length<=64:=by
 have:=bo (m:=kM) hn λx hx=>iB (h x hx)
 simpa[kM] using this
section
variable {prog:Program}{w:World}{A:Around}{E:Value->Shared->Prop}{s:Shared}
abbrev aQ (prog:Program)(w:World)(h:Heap)(p:Pr)(a:Addr):Prop:=IsTupleKey (intKind prog w) h [p.1,p.2] a
def aQ.inj {h:Heap}{p q:Pr}{a:Addr}(x:aQ prog w h p a)(y:aQ prog w h q a):p=q:=by
 have:=IsTupleKey.inj x y
 simp at this
 exact Prod.ext this.1 this.2
structure nG (f:Pr->Int)(prog:Program)(w:World)(led:Bool)(h:Heap)(S:Addr)(ps:List (Addr×Pr)):Prop where
 ex:∃o ep t,h.get? S=some o/\o.ExactSet/\o.data=.set (ps.map λq=>(f q.2,Value.ref q.1)).toArray ep t/\Tab t (ps.map λq=>f q.2)/\t.led=led
 at':∀q,q∈ps->aQ prog w h q.2 q.1/\Sm q.2
 nd:(ps.map (·.2)).Nodup
def lD {t:SetTable}{hs:List Int}(T:Tab t hs){n:Nat}(e:n=hs.length):t.fits n=true:=by
 unfold SetTable.fits SetTable.fill
 have:=T.load'
 simp[T.size,T.dum,e]
 rw[T.size] at this;exact this
def yB (a:Addr)(wanted:Nat):setRelay a wanted=(do
  let (es,_,t) <-setState a
  if SetTable.sizeAbove wanted > sizeLine then unsupported "set:memory"
  let (es,t) <-(do
   let some (t,order):=t.relaid (es.map (·.1)) wanted |unsupported "internal:set-table-without-room"
   let es':=order.filterMap (es[·]?)
   if es'.size != es.size then unsupported "internal:set-table-lost-an-element"
   pure (es',t))
  storeSet a es t):=rfl
def vO (a:Addr)(x:Value)(h:Int)(fuel:Nat):setSearchFrom a x h true (fuel + 1) none=(do
  let (es,_,t) <-setState a
  if t.gaveWay then unsupported "set:on-a-table-that-gave-way"
  let some met:=t.probe (λi=>(es[i]?.map (·.1)).getD 0) h (t.probeStart h) |unsupported "internal:set-table-without-an-empty-slot"
  match met with
  | .empty j dummy=>
   match dummy with
   |none=>return .free j false
   |some d=>
    if true && t.slot d != .dummy then rule "set.search.the-dummy-was-taken";return <-setSearchFrom a x h true fuel none
    return .free d true
  | .candidate j i next=>
   if !t.led then
    if <-searchCouldBeSeen x ((es.filter (·.1 == h)).toList.map (·.2)) then unsupported "set:the-search-would-show-the-table"
   let some (_,y):=es[i]? |unsupported "internal:set-entry"
   let equal <-holding [y] (eqBool y x)
   let (es',_,t') <-setState a
   if true && equal then return .there none
   let some same:=t'.sameMemory t.moves t.mask |unsupported "set.changed-during-lookup:is-the-new-block-at-the-old-address"
   let still <-match (if same then t'.slot j else .empty) with
    | .live i'=>match es'[i']? with
     |some (_,y')=>do pure (if <-isSame y' y then some i' else none)
     |none=>pure none
    |_=>pure none
   match still with
   |none=>rule "set.search.anew";setSearchFrom a x h true fuel none
   |some i'=>if equal then return .there (some i') else setSearchFrom a x h true fuel (some next)):=rfl
theorem p5 (n:Nat){v:Value}(h:carriedByValue v=true):ofAClassStatement n v=pure false:=by
 cases v with
 |ref a=>simp[carriedByValue] at h
 |_=>first |rfl | (unfold ofAClassStatement;rfl)
def r9 (n:Nat){v:Value}{k:Int}(h:(intKind prog w).is k v=true):hashByValue n v=pure true:=by
 obtain⟨t,rfl⟩:=Jz h
 cases n <;> rfl
def iX {p:Pr}{a:Addr}{Q:Bool->Shared->Prop}(hk:aQ prog w s.heap p a)(h:Q false s):wpAny (model prog w) A (ofAClassStatement 8 (.ref a)) Q E s:=by
 have hT:=hk.typeIs
 obtain⟨o,items,n,ho,hc,hd,hi⟩:=hk
 unfold ofAClassStatement
 refine Hr (wpAny_typeOf hT ?_)
 dsimp only
 rw[Hs (by decide)]
 refine Hr (Hy ?_)
 simp only[JX,HM,Iy]
 refine Hr (wpAny_seqItems ho hd ?_)
 dsimp only
 refine Hr ?_
 rw[<-Array.forIn_toList]
 refine wpAny_forIn_list _ (λrest r s'=>r.1=none/\s'=s/\∀v∈rest,carriedByValue v=true) _ ?_ ?_ _ _ ⟨rfl,rfl,hi.byValue⟩
 ·rintro v rest r s' ⟨hr,rfl,hall⟩
  rw[p5 _ (hall v HC)]
  refine Hr (Hy ?_)
  simp only[HM,Iy]
  exact Hy ⟨rfl,rfl,λu hu'=>hall u (Hz _ hu')⟩
 ·rintro⟨r1,r2⟩ s' ⟨hr,rfl,_⟩
  simp only at hr
  subst hr
  exact Hy h
def qF {p:Pr}{a:Addr}{Q:Bool->Shared->Prop}(hk:aQ prog w s.heap p a)(h:Q true s):wpAny (model prog w) A (hashByValue 8 (.ref a)) Q E s:=by
 have hT:=hk.typeIs
 obtain⟨o,items,n,ho,hc,hd,hi⟩:=hk
 unfold hashByValue
 refine Hr (wpAny_specialOf hT F.slot_tuple_hash.lookup ?_)
 dsimp only
 refine Hr (wpAny_seqItems ho hd ?_)
 simp only[Option.getD_some]
 refine Hr ?_
 rw[<-Array.forIn_toList]
 refine wpAny_forIn_list _ (λrest r s'=>r.1=none/\s'=s/\∀v∈rest,∃k,(intKind prog w).is k v=true) _ ?_ ?_ _ _ ⟨rfl,rfl,λv hv=>?_⟩
 ·rintro v rest r s' ⟨hr,rfl,hall⟩
  obtain⟨k,hk⟩:=hall v HC
  rw[r9 _ hk]
  refine Hr (Hy ?_)
  simp only[JX,HM,Iy]
  exact Hy ⟨rfl,rfl,λu hu'=>hall u (Hz _ hu')⟩
 ·rintro⟨r1,r2⟩ s' ⟨hr,rfl,_⟩
  simp only at hr
  subst hr
  exact Hy h
 ·generalize items.toList=l at *
  cases hi with
  |cons h1 hi=>
   cases hi with
   |cons h2 hi=>
    cases hi
    rcases HA.mp hv with rfl |hv
    ·exact⟨_,h1⟩
    ·rcases HA.mp hv with rfl |hv
     ·exact⟨_,h2⟩
     ·cases hv
def sW {p:Pr}{a:Addr}(hk:aQ prog w s.heap p a):∀(l:List Value) {Q:Bool->Shared->Prop},(∀v∈l,∃q b,v=.ref b/\aQ prog w s.heap q b)->Q false s->wpAny (model prog w) A (searchCouldBeSeen (.ref a) l) Q E s:=by
 intro l Q hl h
 unfold searchCouldBeSeen
 refine Hr ?_
 refine wpAny_forIn_list _ (λrest r s'=>r.1=none/\s'=s/\∀v∈rest,∃q b,v=.ref b/\aQ prog w s.heap q b) _ ?_ ?_ _ _ ⟨rfl,rfl,hl⟩
 ·rintro v rest r s' ⟨hr,rfl,hall⟩
  obtain⟨q,b,rfl,hb⟩:=hall v HC
  have hrest:=λu hu'=>hall u (Hz _ hu')
  dsimp only
  split
  ·exact Hy ⟨rfl,rfl,hrest⟩
  ·refine Hr (wpAny_eqIsQuiet_tuple hk ?_)
   simp only[JX,HM,Iy]
   refine Hr (wpAny_eqIsQuiet_tuple hb ?_)
   simp only[JX,HM,Iy]
   refine Hr (iX hk ?_)
   simp only[HM,Iy]
   refine Hr (iX hb ?_)
   simp only[HM,Iy]
   exact Hy ⟨rfl,rfl,hrest⟩
 ·rintro⟨r1,r2⟩ s' ⟨hr,rfl,_⟩
  simp only at hr
  subst hr
  exact Hy h
end
section
variable {prog:Program}{w:World}{A:Around}{E:Value->Shared->Prop}{s:Shared}
def qt (t:SetTable)(hs:Array Int)(wanted:Nat)(hp:t.plain=true):t.relaid hs wanted=laid (sizeAbove wanted - 1) t.finger (t.movedTo (sizeAbove wanted - 1)) t.led true hs:=by
 unfold relaid;rw[hp]
def BK:sizeAbove (grown 5)=32/\sizeAbove (grown 19)=128:=by decide +kernel
theorem filterMap_get {α:Type}(es:Array α):∀(order:List Nat),(∀k,k∈order->k < es.size)->∃l:List α,order.filterMap (λi=>es[i]?)=l/\l.length=order.length/\(∀(i k:Nat),order[i]? =some k->l[i]? =es[k]?)/\∀x,x∈l->∃k,k∈order/\es[k]? =some x
 | [],_=>⟨[],rfl,rfl,λi k h=>by simp at h,λx hx=>by cases hx⟩
 |k :: r,h=>by
  obtain⟨l,e1,e2,e3,e4⟩:=filterMap_get es r λx hx=>h x (Hz _ hx)
  have hk:=h k (HC ..)
  refine⟨es[k] :: l,by rw[Ki,Ig hk,e1],by simp[e2],λi x hi=>?_,λx hx=>?_⟩
  ·cases i with
   |zero=>simp at hi;subst hi;simp[hk]
   |succ i=>simp at hi;simpa using e3 i x hi
  ·rcases HA.mp hx with rfl |hx
   ·exact⟨k,HC ..,by simp[hk]⟩
   ·obtain⟨y,hy,q⟩:=e4 x hx
    exact⟨y,Hz _ hy,q⟩
abbrev cn (f:Pr->Int)(q:Addr×Pr):Int×Value:=(f q.2,Value.ref q.1)
def nY (f:Pr->Int){mask:Nat}(hm:yg mask){ps:List (Addr×Pr)}(hl:ps.length * 5 < mask * 3)(finger moves:Nat)(led:Bool) :
  ∃(t:SetTable) (order:Array Nat) (ps':List (Addr×Pr)),laid mask finger moves led true ((ps.map (cn f)).toArray.map (·.1))=some (t,order)/\order.filterMap (λi=>(ps.map (cn f)).toArray[i]?)=(ps'.map (cn f)).toArray/\ps'.length=ps.length/\
   (∀q,q∈ps'↔q∈ps)/\Tab t (ps'.map λq=>f q.2)/\t.led=led:=by
 obtain⟨t,order,e,el,em,nd,mem,T⟩:=vV hm ((ps.map (cn f)).toArray.map (·.1)) (by simpa using hl) finger moves led
 have hsz:((ps.map (cn f)).toArray.map (·.1)).size=ps.length:=by simp
 obtain⟨ps',f1,f2,f3,f4⟩:=filterMap_get ps.toArray order.toList λk hk=>by
  have:=(mem k).mp hk;rw[hsz] at this;simpa using this
 have hlen:order.toList.length=ps.length:=by
  have a1:=bo (m:=List.range ps.length) nd λx hx=>HX.mpr (by have:=(mem x).mp hx;rwa [hsz] at this)
  have a2:=bo (l:=List.range ps.length) (m:=order.toList) JT λx hx=>(mem x).mpr (by rw[hsz];exact HX.mp hx)
  simp at a1 a2 ⊢;omega
 refine⟨t,order,ps',e,?_,by omega,λq=>⟨λhq=>?_,λhq=>?_⟩,?_,el⟩
 ·apply Array.toList_inj.mp
  rw[Array.toList_filterMap,<-f1]
  simp only[Jk]
  rw[List.map_filterMap]
  congr 1
  funext i
  simp
 ·obtain⟨k,_,q2⟩:=f4 q hq
  rw[List.getElem?_toArray] at q2
  exact HG q2
 ·obtain⟨k,hk,q2⟩:=Ip.mp hq
  have hko:k∈order.toList:=(mem k).mpr (by rw[hsz];exact hk)
  obtain⟨i,hi,e2⟩:=Ip.mp hko
  have:=f3 i k (by rw[Hq hi,e2])
  rw[List.getElem?_toArray,Hq hk,q2] at this
  exact HG this
 ·have:(order.toList.map λk=>((ps.map (cn f)).toArray.map (·.1)).toList.getD k 0)=ps'.map λq=>f q.2:=by
   apply Kz
   intro i
   rw[HH,HH]
   cases hi:order.toList[i]? with
   |none=>
    have:ps'[i]? =none:=List.getElem?_eq_none_iff.mpr (by rw[f2];exact List.getElem?_eq_none_iff.mp hi)
    rw[this];rfl
   |some k=>
    have hk:k < ps.length:=by have:=(mem k).mp (HG hi);rwa [hsz] at this
    have:=f3 i k hi
    rw[List.getElem?_toArray,Hq hk] at this
    rw[this]
    simp[hk]
  rw[<-this];exact T
theorem jM:∀{l m:List Int},m.Nodup->(∀x,x∈m->x∈l)->l.length<=m.length->l.Nodup
 | [],_,_,_,_=>List.nodup_nil
 |a :: l,m,hn,hs,hl=>by
  by_cases ha:a∈m
  ·have hnot:a∉l:=λz=>by
    have:=bo (m:=l) hn λx hx=>by
     rcases HA.mp (hs x hx) with e |e
     ·rw[e];exact z
     ·exact e
    simp only[HQ] at hl;omega
   refine Ja.mpr ⟨hnot,jM (m:=m.erase a) (hn.erase a) (λx hx=>?_) ?_⟩
   ·have:=(hn.mem_erase_iff).mp hx
    rcases HA.mp (hs x this.2) with e |e
    ·exact absurd e this.1
    ·exact e
   ·rw[Ko ha];simp only[HQ] at hl;omega
  ·have:=bo (m:=l) hn λx hx=>by
    rcases HA.mp (hs x hx) with e |e
    ·exact absurd (e▸hx) ha
    ·exact e
   simp only[HQ] at hl;omega
def oP (a:Addr)(es:Array (Int×Value)):byScan (.ref a) es=false:=by unfold byScan Value.scannable;simp
def si {t:SetTable}(h:yg t.mask):t.gaveWay=false:=by
 unfold SetTable.gaveWay
 rcases h with e |e |e <;> rw[e] <;> decide
def nG.add {f:Pr->Int}(hinj:∀p q,Sm p->Sm q->f p=f q->p=q){led:Bool}{S a:Addr}{ps:List (Addr×Pr)}{p:Pr}{Q:Bool->Shared->Prop}(P:nG f prog w led s.heap S ps)(hk:aQ prog w s.heap p a)(hs:Sm p)(hu:A.units < cLine)
  (h:∀(b:Bool) (h':Heap) (ps':List (Addr×Pr)),Heap.SameBut S s.heap h'->nG f prog w led h' S ps'->(∀q,q∈ps'->q∈ps\/q=(a,p))->(∀q,q∈ps->q∈ps')->(∃q,q∈ps'/\q.2=p)->Q b {s with heap:=h'}) :
  wpAny (model prog w) A (setAddHashed S (.ref a) (f p)) Q E s:=by
 obtain⟨o,ep,t,ho,hex,hd,T,hled⟩:=P.ex
 have hfit:t.fits (ps.map (cn f)).toArray.size=true:=lD T (by simp)
 have ha:∀i,i < (ps.map λq=>f q.2).length->some ((((ps.map (cn f)).toArray)[i]?.map (·.1)).getD 0)=(ps.map λq=>f q.2)[i]?:=λi hi=>by
  have hi':i < ps.length:=by simpa using hi
  simp[hi']
 unfold setAddHashed
 refine Jl ?_
 unfold setAddHashedIn
 refine Hr (IH ho hd hfit ?_)
 dsimp only
 rw[oP]
 simp only[HM,Iy]
 unfold setSearch
 rw[vO]
 refine Hr (Hr (IH ho hd hfit ?_))
 dsimp only
 rw[si T.mask]
 simp only[HM,Iy]
 by_cases hm:f p∈ps.map λq=>f q.2
 ·
  obtain⟨j,i,nx,e1,e2,e3,e4⟩:=T.present ha hm
  rw[e1]
  dsimp only
  have hi:i < ps.length:=by simpa using e3
  have e5:f (ps[i].2)=f p:=by
   rw[HH,Hq hi] at e4
   simpa using e4
  have hq:=P.at' ps[i] (Jc hi)
  have e6:ps[i].2=p:=hinj _ _ hq.2 hs e5
  have hget:((ps.map (cn f)).toArray)[i]? =some (f ps[i].2,.ref ps[i].1):=by simp[hi]
  have rest:wpAny (model prog w) A (do
    let some (_,y):=((ps.map (cn f)).toArray)[i]? |unsupported "internal:set-entry"
    let equal <-holding [y] (eqBool y (.ref a))
    let (es',_,t') <-setState S
    if true && equal then return SetFound.there none
    let some same:=t'.sameMemory t.moves t.mask |unsupported "set.changed-during-lookup:is-the-new-block-at-the-old-address"
    let still <-match (if same then t'.slot j else .empty) with
     | .live i'=>match es'[i']? with
      |some (_,y')=>do pure (if <-isSame y' y then some i' else none)
      |none=>pure none
     |_=>pure none
    match still with
    |none=>rule "set.search.anew";setSearchFrom S (.ref a) (f p) true 99999 none
    |some i'=>if equal then return .there (some i') else setSearchFrom S (.ref a) (f p) true 99999 (some nx))
    (λr s'=>s'=s/\r=.there none) E s:=by
   rw[hget]
   dsimp only
   refine Hr (Jl (wpAny_eqBool_tuple hu hq.1 hk ?_))
   rw[HB (by rw[e6])]
   refine Hr (IH ho hd hfit ?_)
   dsimp only
   simp only[Bool.and_self,IX]
   exact Hy ⟨rfl,rfl⟩
  have fin:∀r s',s'=s/\r=SetFound.there none->wpAny (model prog w) A (match r with
    | .free slot wasDummy=>(do
     let (es,_,t) <-setState S
     let (t,p'):=t.put slot
     let byValue <-if t.plain then hashByValue 8 (.ref a) else pure true
     let t:=if byValue then t else {t with plain:=false}
     storeSet S (SetTable.insertAt es p' (f p,.ref a)) t
     if !wasDummy && t.tooFull then setRelay S (SetTable.grown (es.size + 1))
     return true)
    |_=>pure false) Q E s':=by
   rintro r s' ⟨rfl,rfl⟩
   exact Hy (h false s'.heap ps (Heap.SameBut.refl ..) P (λq hq=>.inl hq) (λq hq=>hq) ⟨ps[i],Jc hi,e6⟩)
  cases hl:led with
  |true=>
   rw[hled,hl]
   simp only[JX,HM,Iy]
   exact IT rest (λr s' hr=>fin r s' hr) λ_ _ x=>x
  |false=>
   rw[hled,hl]
   simp only[Bool.not_false,IX]
   refine Hr (sW hk _ (λv hv=>?_) ?_)
   ·obtain⟨x,hx,rfl⟩:=HK.mp hv
    have hx':x∈(ps.map (cn f)).toArray:=(Array.mem_filter.mp (JK.mp hx)).1
    have hx2:x∈ps.map (cn f):=by simpa using hx'
    obtain⟨q,hq,rfl⟩:=HK.mp hx2
    exact⟨q.2,q.1,rfl,(P.at' q hq).1⟩
   ·simp only[HM,Iy]
    exact IT rest (λr s' hr=>fin r s' hr) λ_ _ x=>x
 ·
  obtain⟨j,e1,e2,e3,e4⟩:=T.absent ha hm
  rw[e1]
  dsimp only
  refine Hy ?_
  dsimp only
  refine Hr (IH ho hd hfit ?_)
  dsimp only
  obtain⟨q1,q2⟩:=ni t j T.dum
  have hpl:(t.put j).1.plain=true:=by rw[q1];exact T.plain
  rw[hpl]
  simp only[IX]
  refine Hr (qF hk ?_)
  simp only[IX]
  have hb:(t.put j).2<=ps.length:=by
   rw[q2]
   have:=(b9 T.rise j).1
   rw[T.size] at this;simpa using this
  have hins:insertAt (ps.map (cn f)).toArray (t.put j).2 (f p,Value.ref a)=((ps.take (t.put j).2 ++ (a,p) :: ps.drop (t.put j).2).map (cn f)).toArray:=by
   apply Array.toList_inj.mp
   rw[a8 _ _ _ (by simpa using hb)]
   simp[List.map_take,List.map_drop]
  rw[hins]
  generalize hps':ps.take (t.put j).2 ++ (a,p) :: ps.drop (t.put j).2=ps1
  have mem1:∀q,q∈ps1↔q∈ps\/q=(a,p):=λq=>by
   rw[<-hps',HP,HA]
   conv=>rhs;rw[<-IM (t.put j).2 ps,HP]
   constructor
   ·rintro (z |z |z)
    ·exact .inl (.inl z)
    ·exact .inr z
    ·exact .inl (.inr z)
   ·rintro ((z |z) |z)
    ·exact .inl z
    ·exact .inr (.inr z)
    ·exact .inr (.inl z)
  have len1:ps1.length=ps.length + 1:=by rw[<-hps'];simp;omega
  have nd1:(ps1.map (·.2)).Nodup:=by
   have hnot:p∉ps.map (·.2):=λz=>by
    obtain⟨q,hq,e⟩:=HK.mp z
    exact hm (HK.mpr ⟨q,hq,by rw[e]⟩)
   have perm:(ps1.map (·.2)).Perm (p :: ps.map (·.2)):=by
    rw[<-hps']
    have:(ps.take (t.put j).2 ++ (a,p) :: ps.drop (t.put j).2).Perm ((a,p) :: ps):=by
     refine List.perm_middle.trans ?_
     rw[IM]
    exact this.map (·.2)
   exact perm.nodup_iff.mpr (Ja.mpr ⟨hnot,P.nd⟩)
  have ne:∀b q,aQ prog w s.heap q b->b≠S:=λb q ⟨o',_,_,ho',_,hd',_⟩ e=>by
   subst e
   rw[ho] at ho';cases ho'
   rw[hd] at hd';cases hd'
  have at1:∀{h':Heap},Heap.SameBut S s.heap h'->∀q,q∈ps1->aQ prog w h' q.2 q.1/\Sm q.2:=λ{h'} hsb q hq=>by
   have key:∀{b:Addr} {q:Pr},aQ prog w s.heap q b->aQ prog w h' q b:=λ{b q} hb=>by
    have hne:=ne b q hb
    obtain⟨o',i',n',ho',r'⟩:=hb
    exact⟨o',i',n',(hsb.2 b hne).trans ho',r'⟩
   rcases (mem1 q).mp hq with z |z
   ·exact⟨key (P.at' q z).1,(P.at' q z).2⟩
   ·subst z;exact⟨key hk,hs⟩
  have hlen64:ps1.length<=64:=by
   have:=rT nd1 λx hx=>by
    obtain⟨q,hq,rfl⟩:=HK.mp hx
    exact (at1 (Heap.SameBut.refl ..) q hq).2
   simpa using this
  have hsize:((ps1.map (cn f)).toArray).size<=sizeLine:=by rw[Ik];simp;omega
  refine Hr (wpAny_storeSet_of ho hd ?_ hsize)
  have ho1:(s.heap.update S (Obj.putSet (ps1.map (cn f)).toArray (t.put j).1)).get? S=some {o with data:=.set (ps1.map (cn f)).toArray (ep + 1) (t.put j).1}:=by
   have:=IL (Obj.putSet (ps1.map (cn f)).toArray (t.put j).1) ho (by rw[putSet_of _ _ hd];rfl)
   rw[putSet_of _ _ hd] at this;exact this
  have sb1:=Heap.SameBut.update s.heap S (Obj.putSet (ps1.map (cn f)).toArray (t.put j).1)
  have hex1:({o with data:=.set (ps1.map (cn f)).toArray (ep + 1) (t.put j).1}:Obj).ExactSet:=hex
  have psz:(t.put j).1.place.size=ps.length + 1:=by
   rw[q1]
   show (insertAt t.place (below t.place j) j).size=_
   rw[<-HW,a8 _ _ _ (b9 T.rise j).1]
   have:=T.size
   simp at this ⊢
   have:=(b9 T.rise j).1
   omega
  have dum1:(t.put j).1.dummies=#[]:=by rw[q1];exact T.dum
  have mask1:(t.put j).1.mask=t.mask:=by rw[q1]
  have tsz:t.place.size=ps.length:=by simpa using T.size
  simp only[Bool.not_false,Bool.true_and]
  cases htf:(t.put j).1.tooFull with
  |false=>
   simp only[HM,Iy]
   have hload:(t.place.size + 1) * 5 < t.mask * 3:=by
    unfold SetTable.tooFull SetTable.fill at htf
    rw[psz,dum1,mask1] at htf
    simp at htf
    rw[tsz];exact htf
   obtain⟨T1,_⟩:=T.put e2 e3 e4 hload
   refine Hr (Hy (Hy (h true _ ps1 sb1 ⟨⟨_,ep + 1,_,ho1,hex1,rfl,?_,?_⟩,at1 sb1,nd1⟩ (λq hq=>(mem1 q).mp hq) (λq hq=>(mem1 q).mpr (.inl hq)) ⟨(a,p),(mem1 _).mpr (.inr rfl),rfl⟩)))
   ·rw[<-hps']
    simpa[List.map_take,List.map_drop] using T1
   ·rw[q1];exact hled
  |true=>
   simp only[IX]
   have hfull:t.mask * 3<=(ps.length + 1) * 5:=by
    unfold SetTable.tooFull SetTable.fill at htf
    rw[psz,dum1,mask1] at htf
    simpa using htf
   have hload:=T.load
   rw[tsz] at hload
   have hcase:∃mask',yg mask'/\sizeAbove (grown (ps.length + 1)) - 1=mask'/\sizeAbove (grown (ps.length + 1))<=sizeLine/\(ps.length + 1) * 5 < mask' * 3:=by
    rcases T.mask with e |e |e
    ·have:ps.length + 1=5:=by rw[e] at hfull hload;omega
     rw[this,BK.1]
     exact⟨31,.inr (.inl rfl),rfl,by rw[Ik];decide,by decide⟩
    ·have:ps.length + 1=19:=by rw[e] at hfull hload;omega
     rw[this,BK.2]
     exact⟨127,.inr (.inr rfl),rfl,by rw[Ik];decide,by decide⟩
    ·rw[e] at hfull;omega
   obtain⟨mask',hm3,em,hline,hl2⟩:=hcase
   have hes:(ps.map (cn f)).toArray.size + 1=ps.length + 1:=by simp
   rw[hes,yB]
   have hfit1:(t.put j).1.fits ((ps1.map (cn f)).toArray).size=true:=by
    unfold SetTable.fits SetTable.fill
    have hpl2:ps.length + 1<=t.mask:=by
     rcases T.mask with e |e |e <;> rw[e] at hload ⊢ <;> omega
    rw[psz,dum1,mask1]
    simp[len1,hpl2]
   refine Hr (Hr (IH ho1 rfl hfit1 ?_))
   dsimp only
   rw[Ht (by omega)]
   rw[qt _ _ _ hpl,em]
   obtain⟨t2,order,ps2,g1,g2,g3,g4,g5,g6⟩:=nY f hm3 (ps:=ps1) (by rw[len1];exact hl2) (t.put j).1.finger ((t.put j).1.movedTo mask') (t.put j).1.led
   rw[g1]
   simp only[bind_pure_comp,pure_bind]
   rw[g2]
   have hne:((ps2.map (cn f)).toArray.size != (ps1.map (cn f)).toArray.size)=false:=by simp[g3]
   rw[hne]
   simp only[HM,Iy]
   have hsize2:((ps2.map (cn f)).toArray).size<=sizeLine:=by rw[Ik];simp;omega
   refine Hr (Hy ?_)
   refine wpAny_storeSet_of ho1 rfl ?_ hsize2
   have ho2:((s.heap.update S (Obj.putSet (ps1.map (cn f)).toArray (t.put j).1)).update S (Obj.putSet (ps2.map (cn f)).toArray t2)).get? S=some {o with data:=.set (ps2.map (cn f)).toArray (ep + 1 + 1) t2}:=by
    have:=IL (Obj.putSet (ps2.map (cn f)).toArray t2) ho1 (by rw[putSet_of (ep:=ep + 1) _ _ rfl];rfl)
    rw[putSet_of (ep:=ep + 1) _ _ rfl] at this;exact this
   have sb2:=sb1.trans (Heap.SameBut.update _ S (Obj.putSet (ps2.map (cn f)).toArray t2))
   have nd2:(ps2.map (·.2)).Nodup:=by
    have hmem:∀q,q∈ps2.map (·.2)↔q∈ps1.map (·.2):=λq=>by
     rw[HK,HK]
     exact⟨λ⟨x,hx,e⟩=>⟨x,(g4 x).mp hx,e⟩,λ⟨x,hx,e⟩=>⟨x,(g4 x).mpr hx,e⟩⟩
    have hnd:(ps2.map λq=>f q.2).Nodup:=by
     refine jM (m:=ps1.map λq=>f q.2) ?_ (λx hx=>?_) (by simp[g3])
     ·have:(ps1.map λq=>f q.2)=(ps1.map (·.2)).map f:=by simp
      rw[this]
      refine IZ.mpr (Jv ?_ nd1)
      intro x y hx hy hxy e
      obtain⟨q,hq,rfl⟩:=HK.mp hx
      obtain⟨r,hr,rfl⟩:=HK.mp hy
      exact hxy (hinj _ _ (at1 sb1 q hq).2 (at1 sb1 r hr).2 e)
     ·obtain⟨q,hq,rfl⟩:=HK.mp hx
      exact HK.mpr ⟨q,(g4 q).mpr hq,rfl⟩
    have:(ps2.map λq=>f q.2)=(ps2.map (·.2)).map f:=by simp
    rw[this] at hnd
    exact (IZ.mp hnd).imp λhxy e=>hxy (by rw[e])
   refine Hy (h true _ ps2 sb2 ⟨⟨_,ep + 1 + 1,t2,ho2,hex,rfl,g5,?_⟩,λq hq=>at1 sb2 q ((g4 q).mp hq),nd2⟩ (λq hq=>(mem1 q).mp ((g4 q).mp hq)) (λq hq=>(g4 q).mpr ((mem1 q).mpr (.inl hq))) ⟨(a,p),(g4 _).mpr ((mem1 _).mpr (.inr rfl)),rfl⟩)
   rw[g6,q1];exact hled
end
def fJ (w:World):Bool:= !(w.params.followText "set-order")
def wz (prog:Program)(w:World)(p:Pr):Int:=tupleKeyHash (intKind prog w) [p.1,p.2]
def AY (prog:Program)(w:World):∀p q,Sm p->Sm q->wz prog w p=wz prog w q->p=q:=λp q h1 h2 e=>B6 h1 h2 e
section
variable {prog:Program}{w:World}{A:Around}{E:Value->Shared->Prop}{s:Shared}{R:Result->Shared->Prop}{I:Addr}{fp wr:List Addr}{n:Nat}{P:Nat->Value->Prop}{St:Nat->Heap->Prop}
def bM (prog:Program)(w:World)(h:Heap)(vs:List Value)(ps:List Pr):Prop:=vs.length=ps.length/\∀(i:Nat) (v:Value) (p:Pr),vs[i]? =some v->ps[i]? =some p->∃a,v=.ref a/\aQ prog w h p a/\Sm p
abbrev j7 (prog:Program)(w:World)(h:Heap)(S:Addr)(vs:List Value)(ps:List Pr)(k:Nat):Prop:=∃qs:List (Addr×Pr),nG (wz prog w) prog w (fJ w) h S qs/\
 (∀q,q∈qs->Value.ref q.1∈vs.take k/\q.2∈ps.take k)/\∀p,p∈ps.take k->p∈qs.map (·.2)
theorem iY (W:Walks prog w A.in1 I fp wr n P St)(S:Addr)(hSf:S∉fp){vs:List Value}{ps:List Pr}(hn:vs.length=n)(hP:∀i v,P i v->vs[i]? =some v)(hu:A.in1.units < cLine)(h₀:Heap)
  (hps:bM prog w h₀ vs ps) (hwr:∀b o,b∈S :: wr->h₀.get? b=some o->False):∀(k i:Nat) (s:Shared),n - i=k->i<=n->St i s.heap->(∀b o,h₀.get? b=some o->s.heap.get? b=some o)->j7 prog w s.heap S vs ps i->
   (∀h' tk,(∀b o,b∉S :: wr->s.heap.get? b=some o->h'.get? b=some o)->j7 prog w h' S vs ps n->R (.ok (.ret .none)) {s with heap:=h',toks:=tk})->
   codeAny (model prog w) A (.builtin "set.update.loop" ⟨[.ref S,.ref I],[]⟩) R s:=by
 have nw:S∉wr:=λh=>hSf (W.sub _ h)
 intro k
 induction k with
 |zero=>
  intro i s hk hi hst hk0 hF hR
  obtain rfl:i=n:=by omega
  refine JY PyProof.Rows.F.entry_set_update_loop ?_
  rw[JM JD _]
  show wpAny _ A.in1 (pyNext (.ref I) >>= λr=>_) _ _ s
  refine Hr (W.done s _ _ hst λh' tk hm=>?_)
  show wpAny _ A.in1 (ret Value.none) _ _ _
  refine Hy (hR h' tk (λb o hb e=>hm b o (λz=>hb (Hz _ z)) e) ?_)
  obtain⟨qs,Q1,Q2,Q3⟩:=hF
  obtain⟨o,ep,t,ho,r⟩:=Q1.ex
  refine⟨qs,⟨⟨o,ep,t,hm S o nw ho,r⟩,λq hq=>⟨?_,(Q1.at' q hq).2⟩,Q1.nd⟩,Q2,Q3⟩
  obtain⟨m,hm1,hm2⟩:=Ip.mp (Jg (Q2 q hq).1)
  have hm1':m < ps.length:=by rw[<-hps.1];exact hm1
  obtain⟨a,ea,ha,_⟩:=hps.2 m vs[m] ps[m] (Hq hm1) (Hq hm1')
  rw[hm2] at ea
  cases ea
  obtain⟨o',it',n',ho',r'⟩:=(Q1.at' q hq).1
  obtain⟨o2,it2,n2,ho2,r2⟩:=ha
  have:o'=o2:=Option.some.inj (ho'.symm.trans (hk0 _ _ ho2))
  subst this
  exact⟨o',it',n',hm _ _ (λz=>hwr _ _ (Hz _ z) ho2) ho',r'⟩
 |succ k ih=>
  intro i s hk hi hst hk0 hF hR
  have hlt:i < n:=by omega
  refine JY PyProof.Rows.F.entry_set_update_loop ?_
  rw[JM JD _]
  show wpAny _ A.in1 (pyNext (.ref I) >>= λr=>_) _ _ s
  refine Hr (W.item i s _ _ hlt hst λv h1 tk1 hv hst1 hm=>?_)
  have hvi:=hP i v hv
  have hip:i < ps.length:=by rw[<-hps.1,hn];exact hlt
  obtain⟨a,rfl,ha,hsm⟩:=hps.2 i v ps[i] hvi (Hq hip)
  have k1:∀b o,h₀.get? b=some o->h1.get? b=some o:=λb o e=>hm b o (λz=>hwr b o (Hz _ z) e) (hk0 b o e)
  obtain⟨qs,Q1,Q2,Q3⟩:=hF
  have old:∀{q:Addr×Pr} {h:Heap},q∈qs->(∀b o,h₀.get? b=some o->h.get? b=some o)->aQ prog w h q.2 q.1:=λ{q h} hq kk=>by
   obtain⟨m,hm1,hm2⟩:=Ip.mp (Jg (Q2 q hq).1)
   have hm1':m < ps.length:=by rw[<-hps.1];exact hm1
   obtain⟨a,ea,ha,_⟩:=hps.2 m vs[m] ps[m] (Hq hm1) (Hq hm1')
   rw[hm2] at ea
   cases ea
   obtain⟨o',it',n',ho',r'⟩:=(Q1.at' q hq).1
   obtain⟨o2,it2,n2,ho2,r2⟩:=ha
   have:o'=o2:=Option.some.inj (ho'.symm.trans (hk0 _ _ ho2))
   subst this
   exact⟨o',it',n',kk _ _ ho2,r'⟩
  have P1:nG (wz prog w) prog w (fJ w) h1 S qs:=by
   obtain⟨o,ep,t,ho,r⟩:=Q1.ex
   exact⟨⟨o,ep,t,hm S o nw ho,r⟩,λq hq=>⟨old hq k1,(Q1.at' q hq).2⟩,Q1.nd⟩
  have ha1:aQ prog w h1 ps[i] a:=by
   obtain⟨o',it',n',ho',r'⟩:=ha
   exact⟨o',it',n',k1 _ _ ho',r'⟩
  show wpAny _ A.in1 (holding [Value.ref a] (setAdd S (.ref a)) >>= λ_=>_) _ _ _
  refine Hr (Jl ?_)
  unfold setAdd
  refine Jl (Hr (wpAny_pyHash_tuple hu ha1 ?_))
  refine nG.add (AY prog w) (s:={s with heap:=h1,toks:=tk1 + ([ps[i].1,ps[i].2].length + 1)}) P1 ha1 hsm hu λb h2 qs' sb P2 m1 m2 m3=>?_
  have sbS:∀b o,h₀.get? b=some o->h2.get? b=some o:=λb o e=>(sb.2 b (λz=>hwr b o (by rw[z];exact HC) e)).trans (k1 b o e)
  refine Hy ⟨plainId_quiet JD _,ih (i + 1) _ (by omega) hlt (W.frame _ _ _ hst1 λb hb o e=>?_) sbS ⟨qs',P2,λq hq=>?_,λp hp=>?_⟩ λh' tk hm' F'=>?_⟩
  ·rw[sb.2 b λz=>hSf (by rw[<-z];exact hb)];exact e
  ·have htk:∀{α:Type} {l:List α} {x:α},x∈l.take i->x∈l.take (i + 1):=λ{α l x} hx=>by
    rw[Jj];exact Jr _ hx
   rcases m1 q hq with z |z
   ·exact⟨htk (Q2 q z).1,htk (Q2 q z).2⟩
   ·subst z
    refine⟨?_,?_⟩
    ·rw[Jj,hvi];exact Iq _ (by simp)
    ·rw[Jj,Hq hip];exact Iq _ (by simp)
  ·rw[Jj,Hq hip] at hp
   rcases HP.mp hp with z |z
   ·obtain⟨q,hq,rfl⟩:=HK.mp (Q3 p z)
    exact HK.mpr ⟨q,m2 q hq,rfl⟩
   ·have:p=ps[i]:=by simpa using z
    obtain⟨q,hq,e⟩:=m3
    exact HK.mpr ⟨q,hq,by rw[e,this]⟩
  ·refine hR h' tk (λb o hb e=>hm' b o hb ?_) F'
   show h2.get? b=some o
   rw[sb.2 b λz=>hb (by rw[z];exact HC)]
   exact hm b o (λz=>hb (Hz _ z)) e
def qf (a:Value){Q1:Value->Shared->Prop}
  (h:Q1 (.ref s.heap.objs.size) {s with heap:=s.heap.push {cls:=.type "set",dict:=none,data:=.set #[] 0 (.fresh 0 0 (fJ w))}}) :
  codeAny (model prog w) A (.call (.builtin "set.__new__") ⟨[.type "set",a],[]⟩) (wants Q1 E) s:=by
 refine codeAny_of_tree ?_
 show wpAny _ A.in1 (do (checkBuiltinCall "set.__new__" ⟨[.type "set",a],[]⟩);again (.builtin "set.__new__" ⟨[.type "set",a],[]⟩)) _ _ s
 refine Hr (wpAny_of_eq (F.newCall_set_1 a) (Hy ⟨plainId_quiet F.plain_set_new _,JY F.entry_set_new ?_⟩))
 rw[JM F.plain_set_new _]
 (unfold Builtin.«set.__new__» Builtin.Frozenset.newClass)
 have hsub0:=sub_set_self
 obtain⟨hp0,g0,d0,tk0,os0⟩:=s
 dsimp only
 wp_walk
 (refine Kg (Hy ?_))
 dsimp only
 simp only[newObj]
 (refine Hr (wpAny_alloc (Hy ?_)))
 exact Hy h
def vP (led:Bool):Tab (.fresh 0 0 led) []:=
 ⟨.inl rfl,rfl,List.Pairwise.nil,λj h=>(by cases (JK.mpr h)),rfl,(by show (0:Nat) * 5 < 7 * 3;decide),λi j h e=>(by simp[SetTable.fresh] at e),rfl⟩
structure Src (prog:Program)(w:World)(h:Heap)(l:Addr)(vs:List Value)(T:String)(itO:Obj)(St:Addr->Nat->Heap->Prop):Prop where
 ty:∃o,h.get? l=some o/\o.cls=.type T
 ns:isSubtype (.type T) (.type "set")=pure false
 nf:isSubtype (.type T) (.type "frozenset")=pure false
 nd:(Value.type T == Value.type "dict")=false
 it:∀(A:Around) (s1:Shared) (Q:Value->Shared->Prop) (E:Value->Shared->Prop),(∀b o,h.get? b=some o->s1.heap.get? b=some o)->Q (.ref s1.heap.objs.size) {s1 with heap:=s1.heap.push itO}->wpAny (model prog w) A (pyIter (.ref l)) Q E s1
 st:∀(h1:Heap),(∀b o,h.get? b=some o->h1.get? b=some o)->St h1.objs.size 0 (h1.push itO)
 wk:∀(A:Around) (I:Addr),A.handled=none->l≠I->Walks prog w A I [I,l] [I] vs.length (λi v=>vs[i]? =some v) (St I)
def Src.list {h:Heap}{l:Addr}{vs:List Value}(hl:h.IsList l vs.toArray):Src prog w h l vs "list" {cls:=.type "list_iterator",data:=.fields #[.ref l,.int 0 0]} (λI i h'=>h'.IsListIter I l i/\h'.IsList l vs.toArray):=by
 obtain⟨o,ho,hc,n,hd⟩:=id hl
 refine⟨⟨o,ho,hc⟩,F.sub_list_set,F.sub_list_frozenset,by decide,λA s1 Q E k hQ=>J4 ⟨o,k _ _ ho,hc,n,hd⟩ hQ,λh1 k=>⟨⟨_,HR _ rfl,rfl,rfl⟩,⟨o,Hx _ (k _ _ ho),hc,n,hd⟩⟩,λA I hh hne=>?_⟩
 have:=Walks.list (prog:=prog) (w:=w) hh I l hne vs.toArray
 simpa using this
def sub_tuple_set:isSubtype (.type "tuple") (.type "set")=pure false:=by rw[Ks];kernel_rfl
def sub_tuple_frozenset:isSubtype (.type "tuple") (.type "frozenset")=pure false:=by rw[Ks];kernel_rfl
def Src.tuple {h:Heap}{l:Addr}{vs:List Value}(hl:h.IsTuple l vs.toArray):Src prog w h l vs "tuple" {cls:=.type "tuple_iterator",data:=.fields #[.ref l,.int 0 0]} (λI i h'=>h'.IsTupleIter I l i/\h'.IsTuple l vs.toArray):=by
 obtain⟨o,ho,hc,n,hd⟩:=id hl
 refine⟨⟨o,ho,hc⟩,sub_tuple_set,sub_tuple_frozenset,by decide,λA s1 Q E k hQ=>wpAny_pyIter_tuple ⟨o,k _ _ ho,hc,n,hd⟩ hQ,λh1 k=>⟨⟨_,HR _ rfl,rfl,rfl⟩,⟨o,Hx _ (k _ _ ho),hc,n,hd⟩⟩,λA I hh hne=>?_⟩
 have:=Walks.tuple (prog:=prog) (w:=w) hh I l hne vs.toArray
 simpa using this
set_option maxHeartbeats 3200000 in
theorem kB {l:Addr}{vs:List Value}{ps:List Pr}{T:String}{itO:Obj}{St:Addr->Nat->Heap->Prop}{Q:Value->Shared->Prop}(X:Src prog w s.heap l vs T itO St)(hh:A.handled=none)(hu:A.units + 64 < cLine)(hps:bM prog w s.heap vs ps)
  (h:∀(h':Heap) (tk:Nat),j7 prog w h' s.heap.objs.size vs ps vs.length->(∀b o,s.heap.get? b=some o->h'.get? b=some o)->Q (.ref s.heap.objs.size) {s with heap:=h',toks:=tk}) :
  wpAny (model prog w) A (call (.type "set") [.ref l]) Q E s:=by
 obtain⟨c0,tl0,hmro0⟩:=JU.mro
 have hmade0:=JU.made
 have hsub0:=JU.sub
 refine wpAny_call (codeAny_of_tree ?_)
 show wpAny _ _ (callAny (.type "set") ⟨[.ref l],[]⟩) _ _ _
 refine Hy ⟨Code.quiet_builtin _ (by decide +kernel),JY F.entry_type_call ?_⟩
 (rw[Around.under_plain (weight_type_call_type "set" [.ref l] []) rfl])
 have g1:=JU.notType
 have g2:=JU.canCreate
 have g3:=F.typeCall_set_1 (.ref l)
 repeat (any_goals (first |assumption |wp_step))
 refine J9 (qf (.ref l) (E:=E) (Q1:=λobj s1=>obj=.ref s.heap.objs.size/\s1={s with heap:=s.heap.push {cls:=.type "set",dict:=none,data:=.set #[] 0 (.fresh 0 0 (fJ w))}}) ⟨rfl,rfl⟩) λr s1 hr=>?_
 cases r with
 |error e=>exact hr
 |ok fl=>
  cases fl with
  |ret obj=>
   obtain⟨rfl,rfl⟩:=hr
   generalize hO:({cls:=.type "set",dict:=none,data:=.set #[] 0 (.fresh 0 0 (fJ w))}:Obj)=O
   have hS0:(s.heap.push O).get? s.heap.objs.size=some O:=HR _ (by rw[<-hO];rfl)
   have hT0:Shared.TypeIs {s with heap:=s.heap.push O} (.ref s.heap.objs.size) "set":=⟨_,hS0,by rw[<-hO]⟩
   have g4:=JU.init.lookup
   have g5:=JU.init.bind (.ref s.heap.objs.size)
   repeat (any_goals (first |assumption |wp_step))
   refine J9 (codeAny_call_builtin (R:=wants (λr s2=>r=.none/\∃h' tk,s2={s with heap:=h',toks:=tk}/\j7 prog w h' s.heap.objs.size vs ps vs.length/\(∀b o,s.heap.get? b=some o->h'.get? b=some o)) E)
    JU.init.plain F.entry_set_init (check_set_init_1 hT0 ?_)) λr2 s2 hr2=>?_
   ·obtain⟨ol,hol,hcl⟩:=X.ty
    have hol':(s.heap.push O).get? l=some ol:=Hx _ hol
    have e1:=X.ns
    have e2:=X.nf
    have e3:=X.nd
    have hTl:Shared.TypeIs {s with heap:=s.heap.push O} (.ref l) T:=⟨ol,hol',hcl⟩
    have hdat:O.data=.set #[] 0 (.fresh 0 0 (fJ w)):=by rw[<-hO]
    (unfold Builtin.«set.__init__» noKeywords Builtin.Frozenset.updateFrom)
    subst hO
    obtain⟨oc,od,odt,osl⟩:=ol
    simp only at hcl
    subst hcl
    (generalize hPI0:pyIter=PI0)
    wp_walk
    subst hPI0
    have kp:∀b o,s.heap.get? b=some o->(s.heap.push {cls:=.type "set",dict:=none,data:=.set #[] 0 (.fresh 0 0 (fJ w))}).get? b=some o:=λb o e=>Hx _ e
    refine X.it _ _ _ _ kp ?_
    refine Hr (wpAny_runValue ?_)
    have hlS:l < s.heap.objs.size:=HF hol
    have hh3:A.in1.in1.in1.handled=none:=by simp[hh]
    have hneI:l≠(s.heap.push {cls:=.type "set",dict:=none,data:=.set #[] 0 (.fresh 0 0 (fJ w))}).objs.size:=by
     rw[Jp];exact Ih (Nat.lt_succ_of_lt hlS)
    have hSf:s.heap.objs.size∉ [(s.heap.push {cls:=.type "set",dict:=none,data:=.set #[] 0 (.fresh 0 0 (fJ w))}).objs.size,l]:=by
     rw[Jp]
     intro z
     rcases HA.mp z with e |z
     ·exact absurd e (Ih (Nat.lt_succ_self _))
     ·exact absurd (IC.mp z) (Nat.ne_of_gt hlS)
    refine iY (X.wk _ _ hh3 hneI) s.heap.objs.size hSf rfl (λi v e=>e) (by simp;omega) s.heap hps (λb o hb e=>?_) (vs.length - 0) 0 _ (by omega) (Ij _) (X.st _ kp) (λb o e=>Hx _ (kp b o e)) ?_ ?_
    ·have hlt:=HF e
     rw[Jp] at hb
     rcases HA.mp hb with z |z
     ·exact absurd hlt (by rw[z];exact Ic _)
     ·rw[IC.mp z] at hlt
      exact absurd hlt (Nat.not_lt.mpr (Nat.le_succ _))
    ·refine⟨[],⟨⟨_,0,_,Hx _ hS0,⟨rfl,rfl,rfl⟩,rfl,vP _,rfl⟩,λq hq=>(by cases hq),List.nodup_nil⟩,λq hq=>(by cases hq),λp hp=>(by simp at hp)⟩
    ·intro h' tk hm F'
     show wpAny _ _ _ _ _ _
     refine Hy ?_
     show wpAny _ _ (ret Value.none) _ _ _
     refine Hy ⟨rfl,h',tk,rfl,F',λb o e=>hm b o (λz=>?_) (Hx _ (kp b o e))⟩
     have hlt:=HF e
     rw[Jp] at z
     rcases HA.mp z with z |z
     ·exact absurd hlt (by rw[z];exact Ic _)
     ·rw[IC.mp z] at hlt
      exact absurd hlt (Nat.not_lt.mpr (Nat.le_succ _))
   ·cases r2 with
    |error e=>exact hr2
    |ok fl2=>
     cases fl2 with
     |ret r=>
      obtain⟨rfl,h',tk,rfl,hF,hk⟩:=hr2
      repeat (any_goals (first |assumption |wp_step))
      exact h _ _ hF hk
     |_=>exact hr2.elim
  |_=>exact hr.elim
end
end L2.ST
namespace L2.SO
open PySem PySem.W PyProof.Rows
def gr {α:Type}(lt:Nat->Nat->Bool):KasT α->α
 | .ret a=>a
 | .ask i j k=>gr lt (k (lt i j))
theorem cB {α β:Type}(lt:Nat->Nat->Bool)(f:α->KasT β):∀t:KasT α,gr lt (t.bind f)=gr lt (f (gr lt t))
 | .ret _=>rfl
 | .ask i j k=>cB lt f (k (lt i j))
def pz {α:Type}(n:Nat)(lt:Nat->Nat->Bool):KasT α->Prop
 | .ret _=>True
 | .ask i j k=>i < n/\j < n/\pz n lt (k (lt i j))
theorem dB {α β:Type}{n:Nat}{lt:Nat->Nat->Bool}{f:α->KasT β}:∀{t:KasT α},pz n lt t->pz n lt (f (gr lt t))->pz n lt (t.bind f)
 | .ret _,_,h=>h
 | .ask i j k,h,h'=>⟨h.1,h.2.1,dB h.2.2 h'⟩
section
variable {n:Nat}{key:Nat->Int}
abbrev jo (key:Nat->Int)(i j:Nat):Bool:=decide (key i < key j)
abbrev Kp (key:Nat->Int)(p:Array Nat)(k:Nat):Int:=key (p.getD k 0)
structure Pm (n:Nat)(p:Array Nat):Prop where
 sz:p.size=n
 nd:p.toList.Nodup
 lt:∀x,x∈p->x < n
def Pm.at {p:Array Nat}(P:Pm n p){k:Nat}(hk:k < n):p.getD k 0 < n:=by
 have h:k < p.size:=by rw[P.sz];exact hk
 simp only[Array.getD,h,dif_pos]
 exact P.lt _ (Array.getElem_mem h)
def Pm.ne {p:Array Nat}(P:Pm n p){i k:Nat}(hi:i < n)(hk:k < n)(hne:i≠k):p.getD i 0≠p.getD k 0:=by
 have h1:i < p.toList.length:=by simpa using (by rw[P.sz];exact hi:i < p.size)
 have h2:k < p.toList.length:=by simpa using (by rw[P.sz];exact hk:k < p.size)
 have h1':i < p.size:=by rw[P.sz];exact hi
 have h2':k < p.size:=by rw[P.sz];exact hk
 have a1:p.getD i 0=p.toList[i]:=by simp[Array.getD,h1']
 have a2:p.getD k 0=p.toList[k]:=by simp[Array.getD,h2']
 rw[a1,a2]
 have q:=II.mp P.nd
 rcases Ie i k with c |c
 ·exact q i k h1 h2 c
 ·exact (q k i h2 h1 (by omega)).symm
def Pm.perm {p q:Array Nat}(P:Pm n p)(h:q.Perm p):Pm n q:=by
 have h':=Jm.mp h
 exact⟨by rw[h.size_eq];exact P.sz,h'.nodup_iff.mpr P.nd,λx hx=>P.lt x (by simpa using h'.mem_iff.mp (by simpa using hx))⟩
def qI (n:Nat):Pm n (List.toArray (List.range n)):=⟨by simp,by simpa using JT,λx hx=>by simpa using hx⟩
def Inj (n:Nat)(key:Nat->Int):Prop:=∀i j,i < n->j < n->key i=key j->i=j
def Pm.tri {p:Array Nat}(P:Pm n p)(hi:Inj n key){i k:Nat}(h1:i < n)(h2:k < n)(hne:i≠k):Kp key p i < Kp key p k\/Kp key p k < Kp key p i:=by
 have:Kp key p i≠Kp key p k:=λe=>P.ne h1 h2 hne (hi _ _ (P.at h1) (P.at h2) e)
 omega
def Up (key:Nat->Int)(p:Array Nat)(m:Nat):Prop:=∀i j,i < j->j < m->Kp key p i < Kp key p j
def Dn (key:Nat->Int)(p:Array Nat)(m:Nat):Prop:=∀i j,i < j->j < m->Kp key p j < Kp key p i
def Up.snoc {p:Array Nat}{m:Nat}(U:Up key p m)(h1:1<=m)(h:Kp key p (m - 1) < Kp key p m):Up key p (m + 1):=λi j hij hj=>by
 rcases Ie j m with c |c
 ·exact U i j hij c
 ·have:j=m:=by omega
  subst this
  rcases Ie i (j - 1) with d |d
  ·exact Jw (U i (j - 1) d (by omega)) h
  ·have:i=j - 1:=by omega
   rw[this];exact h
def Dn.snoc {p:Array Nat}{m:Nat}(U:Dn key p m)(h1:1<=m)(h:Kp key p m < Kp key p (m - 1)):Dn key p (m + 1):=λi j hij hj=>by
 rcases Ie j m with c |c
 ·exact U i j hij c
 ·have:j=m:=by omega
  subst this
  rcases Ie i (j - 1) with d |d
  ·exact Jw h (U i (j - 1) d (by omega))
  ·have:i=j - 1:=by omega
   rw[this];exact h
theorem lK {p:Array Nat}(P:Pm n p)(hi:Inj n key):∀(f m:Nat),1<=m->m + f<=n->Up key p m->
  ∃r,(gr (jo key) (kas_asc p f m)=r/\pz n (jo key) (kas_asc p f m))/\m<=r/\r<=m + f/\Up key p r/\(r < m + f->Kp key p r < Kp key p (r - 1))
 | 0,m,_,_,U=>⟨m,⟨rfl,trivial⟩,Hv _,Hv _,U,λh=>absurd h (Ic _)⟩
 |f + 1,m,h1,hn,U=>by
  have b1:p.getD m 0 < n:=P.at (by omega)
  have b2:p.getD (m - 1) 0 < n:=P.at (by omega)
  unfold kas_asc gr pz
  by_cases c:Kp key p m < Kp key p (m - 1)
  ·rw[show jo key (p.getD m 0) (p.getD (m - 1) 0)=true from HB c]
   simp only[IX]
   exact⟨m,⟨rfl,b1,b2,trivial⟩,Hv _,by omega,U,λ_=>c⟩
  ·rw[show jo key (p.getD m 0) (p.getD (m - 1) 0)=false from HN c]
   simp only[HM,Iy]
   have up:Kp key p (m - 1) < Kp key p m:=(P.tri hi (by omega) (by omega) (by omega)).resolve_right c
   obtain⟨r,⟨e,o⟩,a,b,u,d⟩:=lK P hi f (m + 1) (by omega) (by omega) (U.snoc h1 up)
   exact⟨r,⟨e,b1,b2,o⟩,by omega,by omega,u,λh=>d (by omega)⟩
theorem mV {p:Array Nat}(P:Pm n p)(hi:Inj n key):∀(f m:Nat),1<=m->m + f<=n->Dn key p m->
  ∃r,(gr (jo key) (kas_desc f p m 0)=(p,r,0)/\pz n (jo key) (kas_desc f p m 0))/\m<=r/\r<=m + f/\Dn key p r
 | 0,m,_,_,U=>⟨m,⟨rfl,trivial⟩,Hv _,Hv _,U⟩
 |f + 1,m,h1,hn,U=>by
  have b1:p.getD m 0 < n:=P.at (by omega)
  have b2:p.getD (m - 1) 0 < n:=P.at (by omega)
  unfold kas_desc gr pz
  by_cases c:Kp key p m < Kp key p (m - 1)
  ·rw[show jo key (p.getD m 0) (p.getD (m - 1) 0)=true from HB c]
   simp only[IX,Ic,gt_iff_lt,Iy]
   obtain⟨r,⟨e,o⟩,a,b,u⟩:=mV P hi f (m + 1) (by omega) (by omega) (U.snoc h1 c)
   exact⟨r,⟨e,b1,b2,o⟩,by omega,by omega,u⟩
  ·rw[show jo key (p.getD m 0) (p.getD (m - 1) 0)=false from HN c]
   simp only[HM,Iy]
   unfold gr pz
   have up:Kp key p (m - 1) < Kp key p m:=(P.tri hi (by omega) (by omega) (by omega)).resolve_right c
   rw[show jo key (p.getD (m - 1) 0) (p.getD m 0)=true from HB up]
   simp only[IX]
   exact⟨m,⟨rfl,b1,b2,b2,b1,trivial⟩,Hv _,by omega,U⟩
def ye {p:Array Nat}{j k:Nat}(hj:j<=p.size)(hk:k < j):(kas_rev p 0 j).getD k 0=p.getD (j - 1 - k) 0:=by
 unfold kas_rev
 rw[HV,getElem?_mirror_all hj k,Hs ⟨Ij _,hk⟩,HV]
 congr 2
 omega
def BV {p:Array Nat}{m:Nat}(hm:m<=p.size)(D:Dn key p m):Up key (kas_rev p 0 m) m:=λi j hij hj=>by
 unfold Kp
 rw[ye hm (by omega),ye hm hj]
 exact D (m - 1 - j) (m - 1 - i) (by omega) (by omega)
def Pm.rev {p:Array Nat}(P:Pm n p)(j:Nat):Pm n (kas_rev p 0 j):=P.perm (mirror_perm ..)
def sd {p:Array Nat}(P:Pm n p)(hi:Inj n key)(h1:1<=n) :
  ∃m q,(gr (jo key) (kas_count n p)=(m,q)/\pz n (jo key) (kas_count n p))/\Pm n q/\1<=m/\m<=n/\Up key q m:=by
 obtain⟨r,⟨e,o⟩,a,b,u,d⟩:=lK P hi (n - 1) 1 (Hv _) (by omega) (λi j hij hj=>by omega)
 have rest:∃m q,(gr (jo key) (if (r == n)=true then KasT.ret (r,p) else if r > 1 then .ask (p.getD 0 0) (p.getD (r - 1) 0) λc=>if c=true then .ret (r,p) else kas_descPart r n (kas_rev p 0 r) else kas_descPart r n p)=(m,q)/\
   pz n (jo key) (if (r == n)=true then KasT.ret (r,p) else if r > 1 then .ask (p.getD 0 0) (p.getD (r - 1) 0) λc=>if c=true then .ret (r,p) else kas_descPart r n (kas_rev p 0 r) else kas_descPart r n p))/\Pm n q/\1<=m/\m<=n/\Up key q m:=by
  by_cases c:(r == n)=true
  ·rw[Hs c]
   exact⟨r,p,⟨rfl,trivial⟩,P,a,by omega,u⟩
  ·rw[Ht c]
   have hrn:r≠n:=by simpa using c
   have dd:=d (by omega)
   by_cases c2:r > 1
   ·rw[Hs c2]
    unfold gr pz
    rw[show jo key (p.getD 0 0) (p.getD (r - 1) 0)=true from HB (u 0 (r - 1) (by omega) (by omega))]
    simp only[IX]
    exact⟨r,p,⟨rfl,P.at (by omega),P.at (by omega),trivial⟩,P,a,by omega,u⟩
   ·rw[Ht c2]
    have hr1:r=1:=by omega
    subst hr1
    unfold kas_descPart
    rw[cB]
    have D2:Dn key p 2:=λi j hij hj=>by
     have e1:i=0:=by omega
     have e2:j=1:=by omega
     rw[e1,e2];exact dd
    obtain⟨x,⟨e2,o2⟩,a2,b2,u2⟩:=mV P hi (n - 2) 2 (by omega) (by omega) D2
    obtain⟨y,⟨e3,o3⟩,a3,b3,u3,_⟩:=lK (P.rev x) hi (n - x) x (by omega) (by omega) (BV (by rw[P.sz];omega) u2)
    rw[show n - (1 + 1)=n - 2 from rfl,show (1 + 1:Nat)=2 from rfl]
    have t3:pz n (jo key) (kas_tail3 x n p):=by
     unfold kas_tail3
     exact dB o3 trivial
    refine⟨y,kas_rev p 0 x,⟨?_,dB o2 ?_⟩,P.rev x,by omega,by omega,u3⟩
    ·rw[e2]
     simp only[Ic,gt_iff_lt,Iy]
     unfold kas_tail3
     rw[cB,e3]
     rfl
    ·rw[e2]
     simp only[Ic,gt_iff_lt,Iy]
     exact t3
 obtain⟨m,q,⟨f1,f2⟩,f3⟩:=rest
 refine⟨m,q,⟨?_,?_⟩,f3⟩
 ·unfold kas_count
  rw[cB,e]
  exact f1
 ·unfold kas_count
  refine dB o ?_
  rw[e]
  exact f2
theorem place_spec {p:Array Nat}{k:Nat}(P:Pm n p)(hi:Inj n key)(hk:k < n)(U:Up key p k):∀(f l r:Nat),l<=r->r<=k->r - l<=f->(∀i,i < l->Kp key p i < Kp key p k)->(∀i,r<=i->i < k->Kp key p k < Kp key p i)->
  ∃x,(gr (jo key) (kas_place p k f l r)=x/\pz n (jo key) (kas_place p k f l r))/\x<=k/\(∀i,i < x->Kp key p i < Kp key p k)/\(∀i,x<=i->i < k->Kp key p k < Kp key p i)
 | 0,l,r,h1,h2,h3,a,b=>⟨l,⟨rfl,trivial⟩,by omega,a,λi hi=>b i (by omega)⟩
 |f + 1,l,r,h1,h2,h3,a,b=>by
  unfold kas_place
  by_cases c:l>=r
  ·rw[Hs c]
   exact⟨l,⟨rfl,trivial⟩,by omega,a,λi hi=>b i (by omega)⟩
  ·rw[Ht c]
   have b1:p.getD k 0 < n:=P.at hk
   have b2:p.getD ((l + r) / 2) 0 < n:=P.at (by omega)
   unfold gr pz
   by_cases d:Kp key p k < Kp key p ((l + r) / 2)
   ·rw[show jo key (p.getD k 0) (p.getD ((l + r) / 2) 0)=true from HB d]
    simp only[IX]
    have side:∀i,(l + r) / 2<=i->i < k->Kp key p k < Kp key p i:=λi h1 h2=>by
     rcases Ie ((l + r) / 2) i with z |z
     ·exact Jw d (U _ _ z h2)
     ·have:i=(l + r) / 2:=by omega
      rw[this];exact d
    obtain⟨x,⟨e1,e2⟩,e3⟩:=place_spec P hi hk U f l ((l + r) / 2) (by omega) (by omega) (by omega) a side
    exact⟨x,⟨e1,b1,b2,e2⟩,e3⟩
   ·rw[show jo key (p.getD k 0) (p.getD ((l + r) / 2) 0)=false from HN d]
    simp only[HM,Iy]
    have d':Kp key p ((l + r) / 2) < Kp key p k:=(P.tri hi (by omega) hk (by omega)).resolve_right d
    have side:∀i,i < (l + r) / 2 + 1->Kp key p i < Kp key p k:=λi h=>by
     rcases Ie i ((l + r) / 2) with z |z
     ·exact Jw (U _ _ z (by omega)) d'
     ·have:i=(l + r) / 2:=by omega
      rw[this];exact d'
    obtain⟨x,⟨e1,e2⟩,e3⟩:=place_spec P hi hk U f ((l + r) / 2 + 1) r (by omega) h2 (by omega) side b
    exact⟨x,⟨e1,b1,b2,e2⟩,e3⟩
def yC {p:Array Nat}{k l j:Nat}(hk:k < p.size)(hl:l<=k):(bubble p k (k - l)).getD j 0=if j=l then p.getD k 0 else if l < j/\j<=k then p.getD (j - 1) 0 else p.getD j 0:=by
 rw[HV,getElem?_bubble hk (k - l) (by omega) j,show k - (k - l)=l by omega]
 simp only[HV]
 split
 ·rfl
 ·split <;> rfl
theorem pZ (hi:Inj n key):∀(f k:Nat) (p:Array Nat),Pm n p->1<=k->k + f=n->Up key p k->∃q,(gr (jo key) (kas_bin f p k)=q/\pz n (jo key) (kas_bin f p k))/\Pm n q/\Up key q n
 | 0,k,p,P,_,e,U=>⟨p,⟨rfl,trivial⟩,P,by rw[<-e];exact U⟩
 |f + 1,k,p,P,h1,e,U=>by
  have hk:k < n:=by omega
  obtain⟨l,⟨el,ol⟩,hl,a,b⟩:=place_spec P hi hk U k 0 k (Ij _) (Hv _) (by omega) (λi h=>by omega) (λi h h'=>by omega)
  have side:Up key (bubble p k (k - l)) (k + 1):=λi j hij hj=>by
   have hks:k < p.size:=by rw[P.sz];exact hk
   unfold Kp
   rw[yC hks hl,yC hks hl]
   by_cases i1:i=l
   ·rw[Hs i1,Ht (by omega)]
    by_cases j2:l < j/\j<=k
    ·rw[Hs j2];exact b _ (by omega) (by omega)
    ·omega
   ·rw[Ht i1]
    by_cases i2:l < i/\i<=k
    ·rw[Hs i2,Ht (by omega),Hs (by omega)]
     exact U _ _ (by omega) (by omega)
    ·rw[Ht i2]
     by_cases j1:j=l
     ·rw[Hs j1];exact a _ (by omega)
     ·rw[Ht j1]
      by_cases j2:l < j/\j<=k
      ·rw[Hs j2]
       rcases Ie i (j - 1) with z |z
       ·exact U _ _ z (by omega)
       ·omega
      ·rw[Ht j2];exact U _ _ hij (by omega)
  obtain⟨q,⟨q1,q2⟩,q3⟩:=pZ hi f (k + 1) (bubble p k (k - l)) (P.perm (bubble_perm ..)) (by omega) (by omega) side
  refine⟨q,⟨?_,?_⟩,q3⟩
  ·unfold kas_bin;rw[cB,el];exact q1
  ·unfold kas_bin;refine dB ol ?_;rw[el];exact q2
def mn (hi:Inj n key)(h2:2<=n):∃q,(gr (jo key) (kas_sort n)=q/\pz n (jo key) (kas_sort n))/\Pm n q/\Up key q n:=by
 obtain⟨m,q,⟨e,o⟩,P,a,b,u⟩:=sd (qI n) hi (by omega)
 by_cases c:m < n
 ·obtain⟨q',⟨e1,o1⟩,r⟩:=pZ hi (n - m) m q P a (by omega) u
  refine⟨q',⟨?_,?_⟩,r⟩
  ·unfold kas_sort;rw[cB,e];dsimp only;rw[Hs c,Nat.max_eq_left a];exact e1
  ·unfold kas_sort;refine dB o ?_;rw[e];dsimp only;rw[Hs c,Nat.max_eq_left a];exact o1
 ·refine⟨q,⟨?_,?_⟩,P,λi j hij hj=>u i j hij (by omega)⟩
  ·unfold kas_sort;rw[cB,e];dsimp only;rw[Ht c];rfl
  ·unfold kas_sort;refine dB o ?_;rw[e];dsimp only;rw[Ht c];trivial
theorem wp_run {α:Type}{n:Nat}{lt:Nat->Nat->Bool}{cmp:Nat->Nat->(Bool->Shared->Prop)->Shared->Prop}{Q:α->Shared->Prop}{s:Shared} :
  ∀(t:KasT α),(∀i j C,i < n->j < n->C (lt i j) s->cmp i j C s)->pz n lt t->Q (gr lt t) s->t.kasWp cmp Q s
 | .ret a,_,_,h=>h
 | .ask i j k,hc,ho,h=>hc i j _ ho.1 ho.2.1 (wp_run (k (lt i j)) hc ho.2.2 h)
end
end L2.SO
namespace L2.ST
open PySem PySem.SetTable PySem.W PyProof.Rows
def code (p:Pr):Int:=p.1 * 8 + p.2
def uy {p q:Pr}(h1:Sm p)(h2:Sm q):code p < code q↔p.1 < q.1\/(p.1=q.1/\p.2 < q.2):=by
 unfold code Sm at *;omega
def code_inj {p q:Pr}(h1:Sm p)(h2:Sm q)(e:code p=code q):p=q:=by
 unfold code Sm at *
 refine Prod.ext ?_ ?_ <;> omega
section
variable {prog:Program}{w:World}{A:Around}{E:Value->Shared->Prop}{s:Shared}
abbrev jW (ps:List Pr)(i:Nat):Int:=code (ps.getD i (0,0))
def ym {ps:List Pr}(nd:ps.Nodup)(hs:∀p,p∈ps->Sm p):L2.SO.Inj ps.length (jW ps):=λi j hi hj e=>by
 have a1:ps.getD i (0,0)=ps[i]:=by simp[hi]
 have a2:ps.getD j (0,0)=ps[j]:=by simp[hj]
 unfold jW at e
 rw[a1,a2] at e
 have e':=code_inj (hs _ (Jc hi)) (hs _ (Jc hj)) e
 have q:=II.mp nd
 rcases Ky i j with c |c |c
 ·exact absurd e' (q i j hi hj c)
 ·exact c
 ·exact absurd e'.symm (q j i hj hi c)
theorem Ah {a b:Addr}{p q:Pr}{Q:Bool->Shared->Prop}(ha:aQ prog w s.heap p a)(hb:aQ prog w s.heap q b)(hp:Sm p)(hq:Sm q)(h:Q (decide (code p < code q)) s) :
  wpAny (model prog w) A (keyLt' (tuples' true) (.ref a) (.ref b)) Q E s:=by
 obtain⟨oa,ia,na,hoa,hca,hda,hia⟩:=ha
 obtain⟨ob,ib,nb,hob,hcb,hdb,hib⟩:=hb
 obtain⟨l1,rfl⟩:∃l,ia=List.toArray l:=⟨ia.toList,by simp⟩
 obtain⟨l2,rfl⟩:∃l,ib=List.toArray l:=⟨ib.toList,by simp⟩
 simp only[Jk] at hia hib
 cases hia with
 | @cons _ v1 _ _ h1 hia=>
  cases hia with
  | @cons _ v2 _ _ h2 hia=>
   cases hia
   cases hib with
   | @cons _ u1 _ _ g1 hib=>
    cases hib with
    | @cons _ u2 _ _ g2 hib=>
     cases hib
     obtain⟨t1,rfl⟩:=Jz h1
     obtain⟨t2,rfl⟩:=Jz h2
     obtain⟨t3,rfl⟩:=Jz g1
     obtain⟨t4,rfl⟩:=Jz g2
     refine kat_lt hoa hda hob hdb ?_
     have hc:=uy hp hq
     refine kat_cons (wpAny_eqBool_int ?_)
     by_cases e1:p.1=q.1
     ·rw[show (p.1 == q.1)=true by simpa using e1]
      refine kat_yes (kat_cons (wpAny_eqBool_int ?_))
      by_cases e2:p.2=q.2
      ·rw[show (p.2 == q.2)=true by simpa using e2]
       refine kat_yes (kat_nil ?_)
       have:decide (code p < code q)=false:=HN (by rw[hc];omega)
       rw[this] at h
       simpa using h
      ·rw[show (p.2 == q.2)=false by simpa using e2]
       refine kat_no ?_
       show wpAny _ _ (oneLt' false _ _) _ _ _
       refine kat_one _ _ (lt_int ?_)
       have:decide (code p < code q)=decide (p.2 < q.2):=by
        by_cases z:p.2 < q.2
        ·rw[HB z];exact HB (hc.mpr (.inr ⟨e1,z⟩))
        ·rw[HN z];exact HN (by rw[hc];omega)
       rw[this] at h;exact h
     ·rw[show (p.1 == q.1)=false by simpa using e1]
      refine kat_no ?_
      show wpAny _ _ (oneLt' true _ _) _ _ _
      refine oneLt_int ?_
      have:decide (code p < code q)=decide (p.1 < q.1):=by
       by_cases z:p.1 < q.1
       ·rw[HB z];exact HB (hc.mpr (.inl z))
       ·rw[HN z];exact HN (by rw[hc];omega)
      rw[this] at h;exact h
theorem ui:∀{vs:List Value} {ps:List Pr},bM prog w s.heap vs ps->∃fs,KatTups s.heap vs fs/\fs.length=vs.length/\∀v∈fs,∃(i:Int) (t:Tok),v=.int i t
 | [],ps,_=>⟨[],KatTups.nil,rfl,λv hv=>by cases hv⟩
 |v :: vs,[],h=>by have:=h.1;simp at this
 |v :: vs,p :: ps,h=>by
  obtain⟨a,rfl,⟨o,items,n,ho,hc,hd,hi⟩,_⟩:=h.2 0 v p rfl rfl
  obtain⟨fs,k,e,f⟩:=ui (vs:=vs) (ps:=ps) ⟨by simpa using h.1,λi v p h1 h2=>h.2 (i + 1) v p (by simpa using h1) (by simpa using h2)⟩
  obtain⟨l1,rfl⟩:∃l,items=List.toArray l:=⟨items.toList,by simp⟩
  simp only[Jk] at hi
  cases hi with
  | @cons _ v1 _ _ h1 hi=>
   obtain⟨t1,rfl⟩:=Jz h1
   exact⟨_ :: fs,KatTups.cons ho hc hd rfl k,by simp[e],λv hv=>by
    rcases HA.mp hv with z |z
    ·exact⟨_,_,z⟩
    ·exact f v z⟩
def iG (n:Nat):Prop:=n<=64/\∀(prog:Program) (w:World) (A:Around) (E:Value->Shared->Prop) (s:Shared) (κ:SortKind) (vs:List Value) (key:Nat->Int) (Q:SortSt->Shared->Prop),vs.length=n->2<=n->L2.SO.Inj n key->
 (∀i j,i < n->j < n->vs.getD i Value.none=vs.getD j Value.none->i=j)->(∀i j C,i < n->j < n->C (L2.SO.jo key i j) s->kas_ask prog w A κ vs i j C s)->
 (∀ix st,L2.SO.Pm n ix->L2.SO.Up key ix n->arrOf st=ix.map (kas_item (vs.toArray.zip vs.toArray))->failedOf st=none->Q st s)->
 wpAny (model prog w) A ((sortRuns').run (SortSt.mk' κ (vs.toArray.zip vs.toArray) #[] 7 none)) (λr s'=>Q r.2 s') E s
def vc {n:Nat}(h:n < 64):iG n:=⟨by omega,λprog w A E s κ vs key Q hn h2 hi _ hc hQ=>by
 subst hn
 obtain⟨ix,⟨er,ok⟩,P1,U1⟩:=L2.SO.mn hi h2
 exact kat_run (ks:=vs) (G:=λp s'=>p=ix/\s'=s) rfl h2 h (λp st s' _ a2 a3 a4=>by obtain⟨rfl,rfl⟩:=a4;exact hQ _ st P1 U1 a2 a3) (L2.SO.wp_run (n:=vs.length) (lt:=L2.SO.jo key) _ hc ok ⟨er,rfl⟩)⟩
def pR {a:Addr}{vs:List Value}{ps:List Pr}{n:Nat}{P:PySem.Fin->Shared->Prop}(ho:s.heap.get? a=some (seqObj "list" vs.toArray n))(hps:bM prog w s.heap vs ps)(nd:ps.Nodup)(h64:iG vs.length)
  (h:∀(h':Heap) (c:Nat) (ix:Array Nat),L2.SO.Pm vs.length ix->L2.SO.Up (jW ps) ix vs.length->(∀b o,b≠a->s.heap.get? b=some o->h'.get? b=some o)->
   h'.get? a=some (seqObj "list" (ix.toList.map λi=>vs.getD i Value.none).toArray c)->P (.done (.ret .none)) {s with heap:=h'}) :
  wpAny (model prog w) A (Builtin.«list.sort» ⟨[.ref a],[]⟩) P E s:=by
 have ha:a < s.heap.objs.size:=HF ho
 obtain⟨e1,ho1⟩:∃e1,(s.heap.update a (Obj.mapSeq λ_=>(#[]:Array Value))).get? a=some (seqObj "list" #[] e1):=⟨_,get?_update_seq ho λ_=>#[]⟩
 generalize hH1:(s.heap.update a (Obj.mapSeq λ_=>(#[]:Array Value)))=H1 at ho1
 have sb1:Heap.SameBut a s.heap H1:=by rw[<-hH1];exact Heap.SameBut.update ..
 have kp2:∀b o,H1.get? b=some o->((H1.push (seqObj "tuple" vs.toArray 0)).push (seqObj "list" #[] 0)).get? b=some o:=λb o e=>Hx _ (Hx _ e)
 generalize hH2:((H1.push (seqObj "tuple" vs.toArray 0)).push (seqObj "list" #[] 0))=H2 at kp2
 have kp:∀b o,b≠a->s.heap.get? b=some o->H2.get? b=some o:=λb o hb e=>kp2 b o ((sb1.2 b hb).trans e)
 have ho2:=kp2 _ _ ho1
 have hps2:bM prog w H2 vs ps:=⟨hps.1,λi v p h1 h2=>by
  obtain⟨b,e,⟨o,it,m,hb,hc,hd,r⟩,hs⟩:=hps.2 i v p h1 h2
  refine⟨b,e,⟨o,it,m,kp b o (λz=>?_) hb,hc,hd,r⟩,hs⟩
  subst z
  rw[ho] at hb;cases hb
  exact absurd hc (by simp[seqObj])⟩
 have hz:vs.length<=sizeLine:=by have:=h64.1;rw[Ik];omega
 rw[list_sort_plain]
 refine Hr (listItems_at ho rfl (Hr (listUpdate_at ho rfl ?_ (by simpa using hz) (Ij _))))
 rw[hH1]
 refine Hr (seqEpoch_at (s:={s with heap:=H1}) ho1 rfl (Hr (wpAny_newTuple ?_ (by simpa using hz))))
 refine Hr (wpAny_newList ?_ (Ij _))
 refine Jl ?_
 show wpAny (model prog w) A _ P E {s with heap:=(H1.push (seqObj "tuple" vs.toArray 0)).push (seqObj "list" #[] 0)}
 rw[hH2]
 have fin:∀(ix:Array Nat) (st:SortSt),L2.SO.Pm vs.length ix->L2.SO.Up (jW ps) ix vs.length->(arrOf st).map (·.2)=List.toArray (ix.toList.map λi=>vs.getD i Value.none)->failedOf st=none->
   wpAny (model prog w) A (do
    let sorted:=(arrOf st).map (·.2)
    let touched:=(<-seqEpoch a) != e1
    Builtin.List.listUpdate (.ref a) λ_=>sorted
    if let some e:=failedOf st then rule "list.sort.comparison-raised";throw e
    if touched then rule "list.sort.modified";raiseError "ValueError" "list modified during sort"
    ret .none) P E {s with heap:=H2}:=λix st P1 U1 hout hf=>by
  dsimp only
  rw[hout]
  have hsz:(List.toArray (ix.toList.map λi=>vs.getD i Value.none)).size=vs.length:=by simp[P1.sz]
  refine Hr (seqEpoch_at (s:={s with heap:=H2}) ho2 rfl ?_)
  refine Hr (listUpdate_at (s:={s with heap:=H2}) ho2 rfl ?_ (Ij _) (IF (Nat.le_of_eq hsz) (Nat.le_succ_of_le hz)))
  rw[hf]
  simp only[bne_self_eq_false,HM,Iy]
  obtain⟨c2,hc2⟩:∃c2,(H2.update a (Obj.mapSeq λ_=>List.toArray (ix.toList.map λi=>vs.getD i Value.none))).get? a=some (seqObj "list" (List.toArray (ix.toList.map λi=>vs.getD i Value.none)) c2):=⟨_,get?_update_seq ho2 λ_=>List.toArray (ix.toList.map λi=>vs.getD i Value.none)⟩
  exact Hy (h _ c2 ix P1 U1 (λb o hb e=>((Heap.SameBut.update H2 a _).2 b hb).trans (kp b o hb e)) hc2)
 by_cases h2:vs.length < 2
 ·have h2':vs.toArray.size < 2:=by simpa using h2
  dsimp only
  rw[Hs h2',Hs h2']
  refine Hr (Hy ?_)
  rw[StateT.run_pure]
  refine Hr (Hy ?_)
  refine fin (List.toArray (List.range vs.length)) (SortSt.mk' general' (vs.toArray.zip vs.toArray) #[] 7 none) (L2.SO.qI _) (λi j hij hj=>by omega) ?_ rfl
  have:∀{l:List Value},l.length < 2->((l.toArray.zip l.toArray).map (·.2))=List.toArray ((List.range l.length).map λi=>l.getD i Value.none):=λ{l} hl=>by
   match l,hl with
   | [],_=>simp
   | [x],_=>simp
  exact (this h2).trans (by simp)
 ·have h2':¬vs.toArray.size < 2:=by simpa using h2
  dsimp only
  rw[Ht h2',Ht h2']
  obtain⟨fs,kt,fl,ff⟩:=ui (s:={s with heap:=H2}) hps2
  refine Hr (kat_kind (s:={s with heap:=H2}) (T:=.type "int") kt (by omega) (λv hv=>?_) (by decide) ?_)
  ·obtain⟨i,t,rfl⟩:=ff v hv
   exact .now
  ·rw[show ((Value.type "int" != Value.type "tuple"):Bool)=true by decide]
   have hinj:L2.SO.Inj vs.length (jW ps):=by
    rw[hps.1]
    refine ym nd λp hp=>?_
    obtain⟨i,hi,e⟩:=Ip.mp hp
    have hi':i < vs.length:=by rw[hps.1];exact hi
    obtain⟨_,_,_,hs⟩:=hps.2 i vs[i] p (Hq hi') (by rw[Hq hi,e])
    exact hs
   refine Hr (IT (h64.2 prog w A E {s with heap:=H2} (tuples' true) vs (jW ps) (λst s'=>s'={s with heap:=H2}/\∃ix,L2.SO.Pm vs.length ix/\L2.SO.Up (jW ps) ix vs.length/\arrOf st=ix.map (kas_item (vs.toArray.zip vs.toArray))/\failedOf st=none)
    rfl (by omega) hinj (λi j hi hj e=>?_) (λi j C hi hj hC=>?_) λix st a b c d=>⟨rfl,ix,a,b,c,d⟩) ?_ λ_ _ x=>x)
   ·have hi':i < ps.length:=by rw[<-hps.1];exact hi
    have hj':j < ps.length:=by rw[<-hps.1];exact hj
    obtain⟨b1,eb1,hb1,s1⟩:=hps2.2 i vs[i] ps[i] (Hq hi) (Hq hi')
    obtain⟨b2,eb2,hb2,s2⟩:=hps2.2 j vs[j] ps[j] (Hq hj) (Hq hj')
    simp only[IS,Hq hi,Hq hj,Option.getD_some] at e
    rw[eb1,eb2] at e
    cases e
    refine hinj i j hi hj ?_
    unfold jW
    simp only[IS,Hq hi',Hq hj',Option.getD_some]
    rw[aQ.inj hb1 hb2]
   ·unfold kas_ask
    have hi':i < ps.length:=by rw[<-hps.1];exact hi
    have hj':j < ps.length:=by rw[<-hps.1];exact hj
    obtain⟨b1,eb1,hb1,s1⟩:=hps2.2 i vs[i] ps[i] (Hq hi) (Hq hi')
    obtain⟨b2,eb2,hb2,s2⟩:=hps2.2 j vs[j] ps[j] (Hq hj) (Hq hj')
    have e1:vs.getD i Value.none=.ref b1:=by rw[<-eb1];simp[hi]
    have e2:vs.getD j Value.none=.ref b2:=by rw[<-eb2];simp[hj]
    rw[e1,e2]
    refine Ah (s:={s with heap:=H2}) hb1 hb2 s1 s2 ?_
    have:L2.SO.jo (jW ps) i j=decide (code ps[i] < code ps[j]):=by
     unfold L2.SO.jo jW;simp[hi',hj']
    rw[<-this];exact hC
   ·rintro⟨⟨⟩,st⟩ s' ⟨rfl,ix,P1,U1,har,hf⟩
    exact fin ix st P1 U1 (kat_snds rfl har) hf
end
def a7:Slot "set_iterator" "__next__" "set_iterator.__next__":=
 Slot.of (owner:="set_iterator") (n:="__next__") (by rw[typeLookup_type,builtinLookup_eq_fast];kernel_rfl) (by decide +kernel) (by decide +kernel) (by decide +kernel) (by first |exact .inl (by decide +kernel) |exact .inr (by decide +kernel)) (by rw[Ks];kernel_rfl)
def e7:entryFor table "set_iterator.__next__"=some Builtin.«set_iterator.__next__»:=entryFor_of_tree (by kernel_rfl)
def gp (a:Value):argsOk "set_iterator.__next__" ⟨[a],[]⟩:=by unfold argsOk;kernel_rfl
def kQ:entryFor table "set.__iter__"=some Builtin.«frozenset.__iter__»:=entryFor_alias (id':="frozenset.__iter__") (by kernel_rfl) rfl (by decide +kernel) (by kernel_rfl)
def gq:Slot "set_iterator" "__iter__" "set_iterator.__iter__":=
 Slot.of (owner:="set_iterator") (n:="__iter__") (by rw[typeLookup_type,builtinLookup_eq_fast];kernel_rfl) (by decide +kernel) (by decide +kernel) (by decide +kernel) (by first |exact .inl (by decide +kernel) |exact .inr (by decide +kernel)) (by rw[Ks];kernel_rfl)
def jD:entryFor table "set_iterator.__iter__"=some Builtin.«dict_keyiterator.__iter__»:=entryFor_alias (id':="dict_keyiterator.__iter__") (by kernel_rfl) rfl (by decide +kernel) (by kernel_rfl)
def jX (a:Value):argsOk "set_iterator.__iter__" ⟨[a],[]⟩:=by unfold argsOk;kernel_rfl
def zX (a:Addr)(slot given ep0:Nat):setNext a slot given ep0=(do
  let (es,epoch,t) <-setState a
  if (<-ask).params.followText "set-order" then
   if epoch != ep0 then unsupported "set_iterator.__next__:elements-changed"
   return ((<-setWalk a)[given]?).map λe=>(e.2,slot)
  if !t.plain && es.size > 1 then unsupported "set_iterator.__next__:the-table-is-plain-no-more"
  let u:Unit <-(show Sem Unit from do if !t.led && !es.isEmpty then unsupported "set:maker-not-led")
  let i:=SetTable.below t.place slot
  return match es[i]?,t.place[i]? with
   |some (_,x),some j=>some (x,j + 1)
   |_,_=>none):=by
 unfold setNext setsByText
 simp only[bind_assoc,pure_bind]
 rfl
def Ak (a:Addr):setWalk a=(do
  let (es,epoch,t) <-setState a
  if (<-ask).params.followText "set-order" then return pickOrder ((<-ask).params.setOrder a epoch) es
  if !t.plain && es.size > 1 then return (<-drawOrder es.size es.toList).toArray
  let u:Unit <-(show Sem Unit from do if !t.led && es.size > 1 then unsupported "set:maker-not-led")
  return es):=by
 unfold setWalk setsByText
 simp only[bind_assoc,pure_bind]
 rfl
def yp (a:Addr):setDrawn a=(do
  let (es,_,t) <-setState a
  let byText <-(do return (<-ask).params.followText "set-order")
  return !byText && (!t.plain && es.size > 1)):=rfl
theorem dC {α:Type}:∀(l:List α) (i:Nat) (h:i < l.length),(l[i] :: l.eraseIdx i).Perm l
 |a :: l,0,_=>List.Perm.refl _
 |a :: l,i + 1,h=>by
  have hi:i < l.length:=by simpa using h
  show (l[i] :: a :: l.eraseIdx i).Perm (a :: l)
  exact (List.Perm.swap ..).trans ((dC l i hi).cons a)
theorem mI {α:Type}(next:Nat->Nat):∀(fuel k:Nat) (left:List α) (out:Array α),left.length=fuel->(pickOrder.go next fuel k left out).toList.Perm (out.toList ++ left)
 | 0,k,left,out,h=>by
  have:left= []:=List.length_eq_zero_iff.mp h
  subst this
  unfold pickOrder.go
  simp
 |fuel + 1,k,left,out,h=>by
  unfold pickOrder.go
  have hlt:next k % left.length < left.length:=Nat.mod_lt _ (by omega)
  rw[Hq hlt]
  dsimp only
  refine (mI next fuel (k + 1) _ _ (by rw[List.length_eraseIdx_of_lt hlt];omega)).trans ?_
  rw[Il,Ia]
  refine I0 _ ?_
  exact dC left _ hlt
def gS {α:Type}(next:Nat->Nat)(xs:Array α):(pickOrder next xs).toList.Perm xs.toList:=by
 have:=mI next xs.size 0 xs.toList #[] (by simp)
 simpa[pickOrder] using this
section
variable {prog:Program}{w:World}{A:Around}{E:Value->Shared->Prop}{s:Shared}
def told (w:World)(S:Addr)(ep:Nat)(es:Array (Int×Value)):Array (Int×Value):=if w.params.followText "set-order" then pickOrder (w.params.setOrder S ep) es else es
def mC (w:World)(S:Addr)(ep:Nat)(es:Array (Int×Value)):(told w S ep es).toList.Perm es.toList:=by
 unfold told;split
 ·exact gS _ _
 ·exact List.Perm.refl _
abbrev qJ (S:Addr)(slot k n ep:Nat):Obj:={cls:=.type "set_iterator",data:=.fields #[.int (slot:Int) 0,.int (k:Int) 0,.ref S,.int (n:Int) 0,.int (ep:Int) 0]}
structure iM (w:World)(S:Addr)(o:Obj)(es:Array (Int×Value))(ep:Nat)(t:SetTable)(I:Addr)(k:Nat)(h:Heap):Prop where
 set:h.get? S=some o
 data:o.data=.set es ep t
 cls:o.cls=.type "set"
 tab:Tab t (es.toList.map (·.1))
 led:t.led=fJ w
 it:∃slot,h.get? I=some (qJ S slot k es.size ep)/\(fJ w=true->slot=if k=0 then 0 else t.place.getD (k - 1) 0 + 1)
def iM.fits {S I:Addr}{o:Obj}{es:Array (Int×Value)}{ep k:Nat}{t:SetTable}{h:Heap}(X:iM w S o es ep t I k h):t.fits es.size=true:=lD X.tab (by simp)
theorem tG {S I:Addr}{o:Obj}{es:Array (Int×Value)}{ep k slot:Nat}{t:SetTable}{Q:Option (Value×Nat)->Shared->Prop}(X:iM w S o es ep t I k s.heap)(hk:k<=es.size)(hs:fJ w=true->slot=if k=0 then 0 else t.place.getD (k - 1) 0 + 1)
  (h:∀(r:Option (Value×Nat)),(k < es.size->∃x nx,r=some (x,nx)/\(told w S ep es)[k]?.map (·.2)=some x/\(fJ w=true->nx=t.place.getD k 0 + 1))->(k=es.size->r=none)->Q r s) :
  wpAny (model prog w) A (setNext S slot k ep) Q E s:=by
 rw[zX]
 refine Hr (IH X.set X.data X.fits ?_)
 dsimp only
 refine Hr (Kg ?_)
 dsimp only
 cases hb:w.params.followText "set-order" with
 |true=>
  rw[Hs (show (model prog w).w.params.followText "set-order"=true from hb)]
  simp only[bne_self_eq_false,HM,Iy]
  rw[Ak]
  refine Hr (Hr (IH X.set X.data X.fits ?_))
  dsimp only
  refine Hr (Kg ?_)
  dsimp only
  rw[Hs (show (model prog w).w.params.followText "set-order"=true from hb)]
  refine Hr (Kg (Hy (Hy ?_)))
  have et:told w S ep es=pickOrder (w.params.setOrder S ep) es:=by unfold told;rw[Hs hb]
  have hsz:(pickOrder (w.params.setOrder S ep) es).size=es.size:=by
   have:=(gS (w.params.setOrder S ep) es).length_eq;simpa using this
  refine h _ (λhlt=>?_) (λe=>?_)
  ·have hlt':k < (pickOrder (w.params.setOrder S ep) es).size:=by rw[hsz];exact hlt
   refine⟨(pickOrder (w.params.setOrder S ep) es)[k].2,slot,?_,?_,λz=>?_⟩
   ·show Option.map _ (pickOrder (w.params.setOrder S ep) es)[k]? =_
    rw[Ig hlt'];rfl
   ·rw[et,Ig hlt'];rfl
   ·unfold fJ at z;rw[hb] at z;cases z
  ·show Option.map _ (pickOrder (w.params.setOrder S ep) es)[k]? =_
   rw[J2 (by rw[hsz];omega)];rfl
 |false=>
  rw[Ht (show ¬(model prog w).w.params.followText "set-order"=true by intro z;rw[show (model prog w).w.params.followText "set-order"=false from hb] at z;cases z)]
  have hl:fJ w=true:=by unfold fJ;rw[hb];rfl
  rw[X.tab.plain,X.led,hl]
  simp only[JX,Bool.false_and,HM,Iy]
  have et:told w S ep es=es:=by unfold told;rw[hb];simp
  have hps:t.place.size=es.size:=by simpa using X.tab.size
  have hbl:below t.place slot=k:=by
   rw[hs hl]
   obtain⟨b1,b2,b3⟩:=b9 X.tab.rise (if k=0 then 0 else t.place.getD (k - 1) 0 + 1)
   by_cases k0:k=0
   ·subst k0
    simp only[IX] at b1 b2 b3 ⊢
    rcases Nat.eq_zero_or_pos (below t.place 0) with z |z
    ·exact z
    ·have:=b2 0 z;omega
   ·rw[Ht k0] at b1 b2 b3 ⊢
    have hk1:k - 1 < t.place.size:=by omega
    rcases Ky (below t.place (t.place.getD (k - 1) 0 + 1)) k with z |z |z
    ·have q:=b3 (k - 1) (by omega) hk1
     have e:t.place.getD (k - 1) (t.place.getD (k - 1) 0 + 1)=t.place.getD (k - 1) 0:=by simp[Array.getD,hk1]
     omega
    ·exact z
    ·have hks:k < t.place.size:=by omega
     have q:=b2 k z
     have e:t.place.getD k (t.place.getD (k - 1) 0 + 1)=t.place.getD k 0:=by simp[Array.getD,hks]
     have:=dW (d:=0) X.tab.rise (show k - 1 < k by omega) hks
     omega
  refine Hy ?_
  rw[hbl]
  refine h _ (λhlt=>?_) (λe=>?_)
  ·have hlt2:k < t.place.size:=by omega
   refine⟨es[k].2,t.place[k] + 1,?_,?_,λ_=>?_⟩
   ·rw[Ig hlt,Ig hlt2]
   ·rw[et,Ig hlt];rfl
   ·simp[Array.getD,hlt2]
  ·rw[J2 (by omega)]
def ve {S I:Addr}{o:Obj}{es:Array (Int×Value)}{ep:Nat}{t:SetTable}(hh:A.handled=none)(hne:S≠I) :
  Walks prog w A I [I,S] [I] es.size (λi v=>(told w S ep es)[i]?.map (·.2)=some v) (λi h=>iM w S o es ep t I i h) where
 sub:=λb hb=>HA.mpr (.inl (IC.mp hb))
 frame:=λi h h' X k=>by
  obtain⟨slot,e,r⟩:=X.it
  exact⟨k S (by simp) _ X.set,X.data,X.cls,X.tab,X.led,slot,k I (by simp) _ e,r⟩
 item:=λi s Q E hi X hQ=>by
  obtain⟨slot,e,r⟩:=X.it
  have hT:s.TypeIs (.ref I) "set_iterator":=⟨_,e,rfl⟩
  unfold pyNext
  refine Hr (wpAny_attempt (wpAny_callSpecial?_slot (name:=Str.ofString "__next__") hT a7 (Kh a7 hT e7 ?_ (gp _))))
  unfold Builtin.«set_iterator.__next__»
  refine Hr (m:=slotArgs "__next__" 0 _) (Hy ?_)
  dsimp only
  unfold fieldsOf
  refine Hr (Hr (wpAny_load e (Hy ?_)))
  dsimp only
  unfold setEntries
  refine Hr (Hr (IH X.set X.data X.fits (Hy ?_)))
  dsimp only
  rw[Ht (by simp)]
  refine Hr ?_
  simp only[IG]
  refine tG X (J8 hi) r λrr h1 _=>?_
  obtain⟨x,nx,rfl,h2,h3⟩:=h1 hi
  dsimp only
  refine Hr (Ka e rfl (by simp) ?_)
  have e2:=IL (Obj.mapFields λvs=>vs.setIfInBounds 0 (rawInt (nx:Int))) e rfl
  refine Hr (Ka e2 rfl (by simp) ?_)
  refine Hy ⟨x,rfl,Hy ?_⟩
  have sb:=(Heap.SameBut.update s.heap I (Obj.mapFields λvs=>vs.setIfInBounds 0 (rawInt (nx:Int)))).trans (Heap.SameBut.update _ I (Obj.mapFields λvs=>vs.setIfInBounds 1 (rawInt ((i:Int) + 1))))
  refine hQ x _ _ h2 ⟨(sb.2 S hne).trans X.set,X.data,X.cls,X.tab,X.led,nx,?_,λz=>?_⟩ λb o hb eb=>(sb.2 b (by simpa using hb)).trans eb
  ·exact IL (Obj.mapFields λvs=>vs.setIfInBounds 1 (rawInt ((i:Int) + 1))) e2 rfl
  ·rw[Ht (by omega)];exact h3 z
 done:=λs Q E X hQ=>by
  obtain⟨slot,e,r⟩:=X.it
  have hT:s.TypeIs (.ref I) "set_iterator":=⟨_,e,rfl⟩
  unfold pyNext
  refine Hr (wpAny_attempt (wpAny_callSpecial?_slot (name:=Str.ofString "__next__") hT a7 (Kh a7 hT e7 ?_ (gp _))))
  unfold Builtin.«set_iterator.__next__»
  refine Hr (m:=slotArgs "__next__" 0 _) (Hy ?_)
  dsimp only
  unfold fieldsOf
  refine Hr (Hr (wpAny_load e (Hy ?_)))
  dsimp only
  unfold setEntries
  refine Hr (Hr (IH X.set X.data X.fits (Hy ?_)))
  dsimp only
  rw[Ht (by simp)]
  refine Hr ?_
  simp only[IG]
  refine tG X (Hv _) r λrr _ h1=>?_
  rw[h1 rfl]
  dsimp only
  refine Hr (Ka e rfl (by simp) ?_)
  (show wpAny _ _ (newExc (.type "StopIteration") [] >>= λx=>raiseNew x) _ _ _)
  refine Hr ?_
  simp only[newExc,newTuple]
  (refine Hr (JI ?_ (by size_fits)))
  (refine Hr (m:=firstArgMember _ _) (wpAny_of_eq (a:=Value.none) (by first |rfl | (simp only[firstArgMember];rfl)) ?_))
  (refine JI ?_ (by size_fits))
  simp only[raiseNew]
  refine Hr (wpAny_handled ?_)
  (rw[show A.in1.handled=none from hh])
  refine Hr (Hy (wpAny_throw ?_))
  refine Hr (wpAny_isInstance (T:="StopIteration") (b:=true) ⟨_,HR _ rfl,rfl⟩ isSubtype_stop (Hy (hQ _ _ λb o hb eb=>?_)))
  exact Hx _ (Hx _ (((Heap.SameBut.update ..).2 b (by simpa using hb)).trans eb))
 self:=λi s Q E X hQ=>by
  obtain⟨slot,e,r⟩:=X.it
  have hT:s.TypeIs (.ref I) "set_iterator":=⟨_,e,rfl⟩
  refine wpAny_pyIter_slot hT gq (Kh gq hT jD ?_ (jX _))
  show wpAny _ _ (ret (.ref I)) _ _ s
  exact Hy ⟨_,rfl,"set_iterator",_,hT,a7.lookup,hQ⟩
def y7 {S:Addr}{o:Obj}{es:Array (Int×Value)}{ep:Nat}{t:SetTable}{Q:Value->Shared->Prop}(ho:s.heap.get? S=some o)(hd:o.data=.set es ep t)(hc:o.cls=.type "set")(T:Tab t (es.toList.map (·.1)))(hl:t.led=fJ w)
  (h:Q (.ref s.heap.objs.size) {s with heap:=s.heap.push (qJ S 0 0 es.size ep)}):wpAny (model prog w) A (pyIter (.ref S)) Q E s:=by
 have hT:s.TypeIs (.ref S) "set":=⟨o,ho,hc⟩
 have hf:t.fits es.size=true:=lD T (by simp)
 refine wpAny_pyIter_slot hT F.slot_set_iter (Kh F.slot_set_iter hT kQ ?_ (F.args_set_iter_1 _))
 unfold Builtin.«frozenset.__iter__» Builtin.Frozenset.slot0
 refine Hr (Hr (m:=slotArgs "__iter__" 0 _) (Hy (Hy ?_)))
 unfold Builtin.Frozenset.sizeOf setEntries
 refine Hr (Hr (Hr (IH ho hd hf (Hy (Hy ?_)))))
 rw[yp]
 refine Hr (Hr (IH ho hd hf ?_))
 dsimp only
 refine Hr (Hr (Kg (Hy (Hy ?_))))
 rw[T.plain]
 simp only[JX,Bool.false_and,Bool.and_false,HM,Iy]
 refine Hr (Hy ?_)
 unfold setEpoch
 refine Hr (Hr (IH ho hd hf (Hy ?_)))
 refine Hr (JI (Hy ⟨_,rfl,"set_iterator",_,⟨_,HR _ rfl,rfl⟩,a7.lookup,h⟩))
def pY {S:Addr}{o:Obj}{es:Array (Int×Value)}{ep:Nat}{t:SetTable}{Q:List Value->Shared->Prop}(hh:A.handled=none)(ho:s.heap.get? S=some o)(hd:o.data=.set es ep t)(hc:o.cls=.type "set")(T:Tab t (es.toList.map (·.1)))(hl:t.led=fJ w)
  (hn:es.size<=64) (h:∀h' tk vs,vs=(told w S ep es).toList.map (·.2)->(∀b o,s.heap.get? b=some o->h'.get? b=some o)->Q vs {s with heap:=h',toks:=tk}):wpAny (model prog w) A (collect (.ref S)) Q E s:=by
 have hz:es.size<=sizeLine:=by rw[Ik];omega
 unfold collect
 (refine Hr (wpAny_runValue (JY F.entry_proto_collect ?_)))
 (rw[JM F.plain_proto_collect _])
 show wpAny _ A.in1 (newList [] >>= λl=>again (.builtin "list.__iadd__" ⟨[l,.ref S],[]⟩)) _ _ s
 refine Hr (JI ?_)
 (refine Hy ⟨plainId_quiet F.plain_list_iadd _,JY F.entry_list_iadd ?_⟩)
 (rw[JM F.plain_list_iadd _])
 show wpAny _ A.in1 (Builtin.List.listExtendWith (.ref s.heap.objs.size) (.ref S) (.ref s.heap.objs.size)) _ _ {s with heap:=s.heap.push (seqObj "list" #[] 0)}
 generalize hH:s.heap.push (seqObj "list" #[] 0)=H1
 have kp1:∀b o,s.heap.get? b=some o->H1.get? b=some o:=λb o e=>by rw[<-hH];exact Hx _ e
 have hD:H1.get? s.heap.objs.size=some (seqObj "list" #[] 0):=by rw[<-hH];exact HR _ rfl
 have hHs:H1.objs.size=s.heap.objs.size + 1:=by rw[<-hH];exact Jp ..
 have hSD:S≠s.heap.objs.size:=Ih (HF ho)
 have hT:Shared.TypeIs {s with heap:=H1} (.ref S) "set":=⟨o,kp1 _ _ ho,hc⟩
 unfold Builtin.List.listExtendWith
 refine Hr (wpAny_typeOf hT ?_)
 have h1:Builtin.List.listSameRef (.ref s.heap.objs.size) (.ref S)=false:=by simp[Builtin.List.listSameRef,Ne.symm hSD]
 have h2:(Value.type "set" == Value.type "list")=false:=by decide
 have h3:(Value.type "set" == Value.type "tuple")=false:=by decide
 rw[h1,h2,h3]
 simp only[Bool.or_false,HM,Iy]
 refine Hr (y7 (s:={s with heap:=H1}) (kp1 _ _ ho) hd hc T hl ?_)
 refine Hr (Jl ?_)
 unfold Builtin.List.listLengthHint
 have hT2:Shared.TypeIs {s with heap:=H1.push (qJ S 0 0 es.size ep)} (.ref S) "set":=⟨o,Hx _ (kp1 _ _ ho),hc⟩
 refine Hr (wpAny_specialOf hT2 F.slot_set_len.lookup ?_)
 wp_delta
 refine Hr (wpAny_isInstance hT2 (b:=true) (by rw[Ks];kernel_rfl) ?_)
 show wpAny _ A.in1 (typeOf (Value.ref S) >>= λ_=>_) _ _ _
 refine Hr (wpAny_typeOf hT2 ?_)
 refine Hy ?_
 show wpAny _ A.in1 (rule "list.extend.makes-room" >>= λ_=>Builtin.List.listTouch (.ref s.heap.objs.size) >>= λ_=>again (.builtin "list.extend.loop" ⟨[.ref s.heap.objs.size,.ref H1.objs.size,.ref s.heap.objs.size],[]⟩)) _ _ _
 refine Hr (Ke (Hr ?_))
 generalize hH2:H1.push (qJ S 0 0 es.size ep)=H2
 have kp2:∀b o,H1.get? b=some o->H2.get? b=some o:=λb o e=>by rw[<-hH2];exact Hx _ e
 have hI:H2.get? H1.objs.size=some (qJ S 0 0 es.size ep):=by rw[<-hH2];exact HR _ rfl
 have hS0:=kp2 _ _ hD
 show wpAny _ A.in1 (updateSeq s.heap.objs.size (·.push .none) >>= λ_=>updateSeq s.heap.objs.size (·.pop)) _ _ _
 refine Hr (wpAny_updateSeq (s:={s with heap:=H2}) hS0 rfl ?_)
 have hS2:=IL (Obj.mapSeq (·.push Value.none)) hS0 rfl
 refine wpAny_updateSeq (hz:=by seq_fits) hS2 rfl ?_
 have hS3:=IL (Obj.mapSeq (·.pop)) hS2 rfl
 have oth:∀b o,b≠s.heap.objs.size->H2.get? b=some o->((H2.update s.heap.objs.size (Obj.mapSeq (·.push Value.none))).update s.heap.objs.size (Obj.mapSeq (·.pop))).get? b=some o:=λb o hb e=>
  ((Heap.SameBut.update _ s.heap.objs.size (Obj.mapSeq (·.pop))).2 b hb).trans (((Heap.SameBut.update H2 s.heap.objs.size (Obj.mapSeq (·.push Value.none))).2 b hb).trans e)
 have hIS:S≠H1.objs.size:=by rw[hHs];exact Ih (Nat.lt_succ_of_lt (HF ho))
 have hID:H1.objs.size≠s.heap.objs.size:=by rw[hHs];exact Nat.succ_ne_self _
 have hDf:s.heap.objs.size∉ [H1.objs.size,S]:=λz=>by
  rcases HA.mp z with e |z
  ·exact hID e.symm
  ·exact hSD (IC.mp z).symm
 have X0:iM w S o es ep t H1.objs.size 0 ((H2.update s.heap.objs.size (Obj.mapSeq (·.push Value.none))).update s.heap.objs.size (Obj.mapSeq (·.pop))):=
  ⟨oth _ _ hSD (kp2 _ _ (kp1 _ _ ho)),hd,hc,T,hl,0,oth _ _ hID hI,λ_=>rfl⟩
 refine Hy ⟨plainId_quiet F.plain_extend_loop _,codeAny_extend_loopS (ve (A:=A.in1) (o:=o) (t:=t) hh hIS).toS hz _ hDf _ es.size 0 _ _ _ rfl (Ij _) X0 hS3 (ItemsOf.nil _) λs' acc' c' hm hS' hacc=>?_⟩
 show wpAny _ A (load s.heap.objs.size >>= λ_=>_) _ _ s'
 refine Hr (wpAny_load hS' (Hy ?_))
 obtain⟨h',g',d',tk',os'⟩:=s'
 have eg:g'=s.gens:=hm.gens
 have ed:d'=s.drawn:=hm.drawn
 have eo:os'=s.os:=hm.os
 subst eg ed eo
 refine h h' tk' acc'.toList ?_ λb ob e=>hm.heap b ob (λhb=>?_) (oth b ob (Ih (HF e)) (kp2 _ _ (kp1 _ _ e)))
 ·have hts:(told w S ep es).size=es.size:=by have:=(mC w S ep es).length_eq;simpa using this
  apply Kz
  intro i
  rw[HH]
  by_cases hi:i < es.size
  ·have hi1:i < acc'.size:=by rw[hacc.1];exact hi
   have q:=hacc.2 i acc'[i] (Ig hi1)
   rw[Iz,Iz,Ig hi1]
   exact q.symm
  ·rw[Iz,Iz,J2 (by rw[hacc.1];omega),J2 (by omega)];rfl
 ·have hlt:=HF e
  rcases HA.mp hb with z |z
  ·rw[z] at hlt;exact Ic _ hlt
  ·rw[IC.mp z,hHs] at hlt;exact absurd hlt (Nat.not_lt.mpr (Nat.le_succ _))
end
end L2.ST
namespace OM
abbrev Pr:=Int×Int
def BL (p q:Pr):Prop:=p.1 < q.1\/(p.1=q.1/\p.2 < q.2)
def fx (p:Pr):¬BL p p:=by unfold BL;omega
def wg {p q r:Pr}(a:BL p q)(b:BL q r):BL p r:=by unfold BL at *;omega
abbrev sg (l:List Pr):Prop:=l.Pairwise BL
theorem i8:∀{l m:List Pr},sg l->sg m->(∀x,x∈l↔x∈m)->l=m
 | [],[],_,_,_=>rfl
 | [],b :: m,_,_,h=>absurd ((h b).mpr (HC ..)) (by simp)
 |a :: l,[],_,_,h=>absurd ((h a).mp (HC ..)) (by simp)
 |a :: l,b :: m,hl,hm,h=>by
  have hl':=JC.mp hl
  have hm':=JC.mp hm
  have e:a=b:=by
   rcases HA.mp ((h a).mp (HC ..)) with e |e
   ·exact e
   ·rcases HA.mp ((h b).mpr (HC ..)) with e' |e'
    ·exact e'.symm
    ·exact absurd (wg (hm'.1 a e) (hl'.1 b e')) (fx _)
  subst e
  congr 1
  refine i8 hl'.2 hm'.2 λx=>⟨λhx=>?_,λhx=>?_⟩
  ·rcases HA.mp ((h x).mp (Hz _ hx)) with e |e
   ·subst e;exact absurd (hl'.1 x hx) (fx _)
   ·exact e
  ·rcases HA.mp ((h x).mpr (Hz _ hx)) with e |e
   ·subst e;exact absurd (hm'.1 x hx) (fx _)
   ·exact e
def gY {l:List Pr}(h:sg l):l.Nodup:=h.imp λ{a b} hab e=>by subst e;exact fx _ hab
def sY {l:List Pr}(p:Pr->Bool)(h:sg l):sg (l.filter p):=h.sublist List.filter_sublist
def dH (n:Nat):List Pr:=(List.range (n * n)).map λk=>(((k / n:Nat):Int),((k % n:Nat):Int))
def iK {n:Nat}{p:Pr}:p∈dH n↔(0<=p.1/\p.1 < n)/\(0<=p.2/\p.2 < n):=by
 unfold dH
 rw[HK]
 constructor
 ·rintro⟨k,hk,rfl⟩
  have hk:=HX.mp hk
  have hn:0 < n:=by
   rcases Nat.eq_zero_or_pos n with e |e
   ·subst e;omega
   ·exact e
  have h1:k / n < n:=Nat.div_lt_of_lt_mul hk
  have h2:k % n < n:=Nat.mod_lt _ hn
  generalize k / n=q at h1
  generalize k % n=r at h2
  exact⟨⟨Int.natCast_nonneg _,by dsimp only;omega⟩,⟨Int.natCast_nonneg _,by dsimp only;omega⟩⟩
 ·rintro⟨⟨a0,a1⟩,⟨b0,b1⟩⟩
  have hn:0 < n:=by omega
  refine⟨p.1.toNat * n + p.2.toNat,HX.mpr ?_,?_⟩
  ·have h1:p.1.toNat + 1<=n:=by omega
   have h2:p.2.toNat < n:=by omega
   have:=Nat.mul_le_mul_right n h1
   rw[Nat.add_mul] at this
   omega
  ·have h2:p.2.toNat < n:=by omega
   have e1:(p.1.toNat * n + p.2.toNat) / n=p.1.toNat:=by
    rw[Nat.mul_comm,Nat.mul_add_div hn,Nat.div_eq_of_lt h2];rfl
   have e2:(p.1.toNat * n + p.2.toNat) % n=p.2.toNat:=by
    rw[Nat.mul_comm,Nat.mul_add_mod,Nat.mod_eq_of_lt h2]
   rw[e1,e2]
   refine Prod.ext ?_ ?_ <;> dsimp only <;> omega
def zg (n:Nat):sg (dH n):=by
 unfold dH
 refine IZ.mpr (Jv ?_ List.pairwise_lt_range)
 intro a b ha hb hab
 have ha:=HX.mp ha
 have hb:=HX.mp hb
 have hn:0 < n:=by
  rcases Nat.eq_zero_or_pos n with e |e
  ·subst e;omega
  ·exact e
 have h1:a / n<=b / n:=Nat.div_le_div_right (J8 hab)
 have e1:=Nat.div_add_mod a n
 have e2:=Nat.div_add_mod b n
 unfold BL
 dsimp only
 rcases Ie (a / n) (b / n) with c |c
 ·left;omega
 ·right
  have e:a / n=b / n:=by omega
  rw[e] at e1
  omega
open Classical in
noncomputable def bt (n:Nat)(R:Int->Int->Prop):List Pr:=(dH n).filter λp=>decide (R p.1 p.2)
def bp {n:Nat}{R:Int->Int->Prop}{p:Pr}:p∈bt n R↔((0<=p.1/\p.1 < n)/\(0<=p.2/\p.2 < n))/\R p.1 p.2:=by
 unfold bt
 rw[Kj,iK]
 simp
def fk (n:Nat)(R:Int->Int->Prop):sg (bt n R):=sY _ (zg n)
def Wn (n:Nat)(l:List Pr):Prop:=∀p,p∈l->(0<=p.1/\p.1 < n)/\(0<=p.2/\p.2 < n)
abbrev Mem (l:List Pr)(a b:Int):Prop:=(a,b)∈l
def uQ (n:Nat)(R:Int->Int->Prop):Wn n (bt n R):=λ_ h=>(bp.mp h).1
inductive Tr (R:Int->Int->Prop):Int->Int->Prop
 |one {a b}:R a b->Tr R a b
 |more {a b c}:R a b->Tr R b c->Tr R a c
theorem Tr.trans {R:Int->Int->Prop}{a b c:Int}(h:Tr R a b)(k:Tr R b c):Tr R a c:=by
 induction h with
 |one r=>exact .more r k
 |more r _ ih=>exact .more r (ih k)
theorem Tr.least {R S:Int->Int->Prop}(f:∀a b,R a b->S a b)(t:∀a b c,S a b->S b c->S a c){a b:Int}(h:Tr R a b):S a b:=by
 induction h with
 |one r=>exact f _ _ r
 |more r _ ih=>exact t _ _ _ (f _ _ r) ih
theorem dc {l m:List Pr}(hl:l.Nodup)(h:∀x,x∈l->x∈m):l.length<=m.length:=by
 induction l generalizing m with
 |nil=>exact Ij _
 |cons a l ih=>
  have ha:=h a (HC ..)
  have hl':=Ja.mp hl
  have:=ih (m:=m.erase a) hl'.2 λx hx=>by
   refine (List.mem_erase_of_ne ?_).mpr (h x (Hz _ hx))
   rintro rfl;exact hl'.1 hx
  rw[Ko ha] at this
  have:0 < m.length:=List.length_pos_of_mem ha
  simp only[HQ];omega
def sub_eq {l m:List Pr}(hl:sg l)(hm:sg m)(h:∀x,x∈l->x∈m)(e:l.length=m.length):l=m:=by
 refine i8 hl hm λx=>⟨h x,λhx=>Classical.byContradiction λhn=>?_⟩
 have:=dc (l:=x :: l) (m:=m) (Ja.mpr ⟨hn,gY hl⟩) λy hy=>by
  rcases HA.mp hy with e |e
  ·subst e;exact hx
  ·exact h y e
 simp only[HQ] at this
 omega
def more (l:List Pr):List Pr:=l.flatMap λp=>(l.filter λq=>decide (q.1=p.2)).map λq=>(p.1,q.2)
def lj {l:List Pr}{x:Pr}:x∈more l↔∃b,(x.1,b)∈l/\(b,x.2)∈l:=by
 unfold more
 rw[List.mem_flatMap]
 constructor
 ·rintro⟨p,hp,hx⟩
  obtain⟨q,hq,rfl⟩:=HK.mp hx
  obtain⟨hq,e⟩:=Kj.mp hq
  have e:q.1=p.2:=by simpa using e
  exact⟨p.2,hp,by rw[<-e];exact hq⟩
 ·rintro⟨b,h1,h2⟩
  exact⟨(x.1,b),h1,HK.mpr ⟨(b,x.2),Kj.mpr ⟨h2,by simp⟩,rfl⟩⟩
noncomputable def gQ (n:Nat)(l:List Pr):List Pr:=bt n (Mem (l ++ more l))
structure Be (n:Nat)(ps l:List Pr):Prop where
 wn:Wn n l
 ris:sg l
 sub:∀x,x∈ps->x∈l
 sup:∀x,x∈l->Tr (Mem ps) x.1 x.2
def va {n:Nat}{ps:List Pr}(w:Wn n ps):Be n ps (bt n (Mem ps)):=
 ⟨uQ n _,fk n _,λx hx=>bp.mpr ⟨w x hx,hx⟩,λ_ hx=>.one (bp.mp hx).2⟩
def yR {n:Nat}{ps l:List Pr}(B:Be n ps l):Wn n (l ++ more l):=λx hx=>by
 rcases HP.mp hx with h |h
 ·exact B.wn x h
 ·obtain⟨b,h1,h2⟩:=lj.mp h
  exact⟨(B.wn _ h1).1,(B.wn _ h2).2⟩
def qi {n:Nat}{ps l:List Pr}(B:Be n ps l):Be n ps (gQ n l)/\∀x,x∈l->x∈gQ n l:=by
 have hs:∀x,x∈l->x∈gQ n l:=λx hx=>bp.mpr ⟨B.wn x hx,Jr _ hx⟩
 refine⟨⟨uQ n _,fk n _,λx hx=>hs x (B.sub x hx),λx hx=>?_⟩,hs⟩
 rcases HP.mp (bp.mp hx).2 with h |h
 ·exact B.sup _ h
 ·obtain⟨b,h1,h2⟩:=lj.mp h
  exact (B.sup _ h1).trans (B.sup _ h2)
def zm {n:Nat}{ps l:List Pr}(B:Be n ps l)(e:(gQ n l).length=l.length):gQ n l=bt n (Tr (Mem ps)):=by
 obtain⟨B2,hs⟩:=qi B
 have q:l=gQ n l:=sub_eq B.ris B2.ris hs e.symm
 refine i8 B2.ris (fk n _) λx=>⟨λh=>bp.mpr ⟨B2.wn x h,B2.sup x h⟩,λh=>?_⟩
 rw[<-q]
 have tr:∀a b c:Int,(a,b)∈l->(b,c)∈l->(a,c)∈l:=λa b c h1 h2=>by
  rw[q]
  exact bp.mpr ⟨⟨(B.wn _ h1).1,(B.wn _ h2).2⟩,Iq _ (lj.mpr ⟨b,h1,h2⟩)⟩
 exact (bp.mp h).2.least (S:=Mem l) (λa b r=>B.sub _ r) tr
abbrev Tb:=Nat->Nat->Bool
def Tb.set (M:Tb)(a b:Nat):Tb:=λx y=>if x=a/\y=b then true else M x y
def AS (M:Tb)(m:Nat):Prop:=∀k a b,k < m->M a k=true->M k b=true->M a b=true
def Phase (M0 M:Tb)(m:Nat)(D:Nat->Nat->Prop):Prop:=∀a b,M a b=true↔M0 a b=true\/(D a b/\M0 a m=true/\M0 m b=true)
def Phase.start (M:Tb)(m:Nat):Phase M M m λ_ _=>False:=λa b=>by simp
def Phase.row {M0 M:Tb}{m:Nat}{D:Nat->Nat->Prop}(P:Phase M0 M m D)(a:Nat):M a m=true↔M0 a m=true:=by
 rw[P]
 exact⟨λh=>h.elim id λh=>h.2.1,.inl⟩
def Phase.col {M0 M:Tb}{m:Nat}{D:Nat->Nat->Prop}(P:Phase M0 M m D)(b:Nat):M m b=true↔M0 m b=true:=by
 rw[P]
 exact⟨λh=>h.elim id λh=>h.2.2,.inl⟩
def Phase.step {M0 M:Tb}{m:Nat}{D:Nat->Nat->Prop}(P:Phase M0 M m D)(x y:Nat) :
  Phase M0 (if M x m=true/\M m y=true then M.set x y else M) m (λa b=>D a b\/(a=x/\b=y)):=λa b=>by
 have r:=P.row x
 have c:=P.col y
 by_cases h:M x m=true/\M m y=true
 ·rw[Hs h]
  unfold Tb.set
  by_cases e:a=x/\b=y
  ·rw[Hs e]
   obtain⟨rfl,rfl⟩:=e
   simp only[true_iff]
   exact .inr ⟨.inr (by simp),r.mp h.1,c.mp h.2⟩
  ·rw[Ht e,P]
   constructor
   ·rintro (q | ⟨d,q⟩)
    ·exact .inl q
    ·exact .inr ⟨.inl d,q⟩
   ·rintro (q | ⟨d |d,q⟩)
    ·exact .inl q
    ·exact .inr ⟨d,q⟩
    ·exact absurd d e
 ·rw[Ht h,P]
  constructor
  ·rintro (q | ⟨d,q⟩)
   ·exact .inl q
   ·exact .inr ⟨.inl d,q⟩
  ·rintro (q | ⟨d | ⟨rfl,rfl⟩,q1,q2⟩)
   ·exact .inl q
   ·exact .inr ⟨d,q1,q2⟩
   ·exact absurd ⟨r.mpr q1,c.mpr q2⟩ h
def Phase.done {M0 M:Tb}{m n:Nat}{D:Nat->Nat->Prop}(P:Phase M0 M m D)(hD:∀a b,a < n->b < n->D a b)(hM:∀a b,M0 a b=true->a < n/\b < n)(T:AS M0 m) :
  AS M (m + 1)/\∀a b,M a b=true->a < n/\b < n:=by
 have hM':∀a b,M a b=true->a < n/\b < n:=λa b h=>by
  rcases (P a b).mp h with q | ⟨_,q1,q2⟩
  ·exact hM a b q
  ·exact⟨(hM _ _ q1).1,(hM _ _ q2).2⟩
 have put:∀a b,M0 a m=true->M0 m b=true->M a b=true:=λa b h1 h2=>(P a b).mpr (.inr ⟨hD a b (hM _ _ h1).1 (hM _ _ h2).2,h1,h2⟩)
 refine⟨λk a b hk h1 h2=>?_,hM'⟩
 rcases Ie k m with c |c
 ·rcases (P a k).mp h1 with q1 | ⟨_,q1,q1'⟩
  ·rcases (P k b).mp h2 with q2 | ⟨_,q2,q2'⟩
   ·exact (P a b).mpr (.inl (T k a b c q1 q2))
   ·exact put a b (T k a m c q1 q2) q2'
  ·rcases (P k b).mp h2 with q2 | ⟨_,q2,q2'⟩
   ·exact put a b q1 (T k m b c q1' q2)
   ·exact put a b q1 q2'
 ·have e:k=m:=by omega
  subst e
  exact put a b ((P.row a).mp h1) ((P.col b).mp h2)
structure Tab (n:Nat)(ps:List Pr)(M:Tb):Prop where
 inn:∀a b,M a b=true->a < n/\b < n
 sub:∀a b:Nat,((a:Int),(b:Int))∈ps->M a b=true
 sup:∀a b:Nat,M a b=true->Tr (Mem ps) a b
def Tab.phase {n:Nat}{ps:List Pr}{M0 M:Tb}{m:Nat}{D:Nat->Nat->Prop}(T:Tab n ps M0)(P:Phase M0 M m D):Tab n ps M:=
 ⟨λa b h=>by
  rcases (P a b).mp h with q | ⟨_,q1,q2⟩
  ·exact T.inn a b q
  ·exact⟨(T.inn _ _ q1).1,(T.inn _ _ q2).2⟩,
  λa b h=>(P a b).mpr (.inl (T.sub a b h)),
  λa b h=>by
  rcases (P a b).mp h with q | ⟨_,q1,q2⟩
  ·exact T.sup a b q
  ·exact (T.sup _ _ q1).trans (T.sup _ _ q2)⟩
def Tab.all {n:Nat}{ps:List Pr}{M:Tb}(w:Wn n ps)(T:Tab n ps M)(H:AS M n)(a b:Nat):M a b=true↔Tr (Mem ps) a b:=by
 refine⟨T.sup a b,λh=>?_⟩
 have key:∀{x y:Int},Tr (Mem ps) x y->M x.toNat y.toNat=true:=λ{x y} h=>by
  induction h with
  | @one x y r=>
   have:=w _ r
   refine T.sub _ _ ?_
   have e1:((x.toNat:Nat):Int)=x:=by simp only at this;omega
   have e2:((y.toNat:Nat):Int)=y:=by simp only at this;omega
   rw[e1,e2];exact r
  | @more x y z r _ ih=>
   have:=w _ r
   have e1:((x.toNat:Nat):Int)=x:=by simp only at this;omega
   have e2:((y.toNat:Nat):Int)=y:=by simp only at this;omega
   have q:M x.toNat y.toNat=true:=T.sub _ _ (by rw[e1,e2];exact r)
   exact H y.toNat _ _ (T.inn _ _ q).2 q ih
 have:=key h
 simpa using this
end OM
namespace L2.ST
open PySem PySem.SetTable PySem.W PyProof.Rows
section
variable {prog:Program}{w:World}{A:Around}{E:Value->Shared->Prop}{s:Shared}
def Cf {ps:List Pr}(hs:∀p,p∈ps->Sm p){ix:Array Nat}(P:L2.SO.Pm ps.length ix)(U:L2.SO.Up (jW ps) ix ps.length):OM.sg (ix.toList.map λi=>ps.getD i (0,0)):=by
 refine IZ.mpr (II.mpr λi j hi hj hij=>?_)
 have hi':i < ix.size:=by simpa using hi
 have hj':j < ix.size:=by simpa using hj
 have q:=U i j hij (by rw[<-P.sz];exact hj')
 unfold L2.SO.Kp jW at q
 have ei:ix.getD i 0=ix.toList[i]:=by simp[Array.getD,hi']
 have ej:ix.getD j 0=ix.toList[j]:=by simp[Array.getD,hj']
 rw[ei,ej] at q
 have ai:ix.toList[i] < ps.length:=P.lt _ (by simp)
 have aj:ix.toList[j] < ps.length:=P.lt _ (by simp)
 have bi:Sm (ps.getD ix.toList[i] (0,0)):=by rw[IS,Hq ai];exact hs _ (Jc ai)
 have bj:Sm (ps.getD ix.toList[j] (0,0)):=by rw[IS,Hq aj];exact hs _ (Jc aj)
 exact (uy bi bj).mp q
def yf {n:Nat}{ix:Array Nat}(P:L2.SO.Pm n ix){k:Nat}(hk:k < n):k∈ix.toList:=by
 refine Classical.byContradiction λhn=>?_
 have:=bo (l:=k :: ix.toList) (m:=List.range n) (Ja.mpr ⟨hn,P.nd⟩) λx hx=>by
  rcases HA.mp hx with e |e
  ·rw[e];exact HX.mpr hk
  ·exact HX.mpr (P.lt x (by simpa using e))
 simp[P.sz] at this
 omega
theorem D5 {h:Heap}{vs:List Value}{ps:List Pr}(hps:bM prog w h vs ps){ix:Array Nat}(P:L2.SO.Pm vs.length ix) :
  bM prog w h (ix.toList.map λi=>vs.getD i Value.none) (ix.toList.map λi=>ps.getD i (0,0)):=by
 refine⟨by simp,λi v p h1 h2=>?_⟩
 rw[HH] at h1 h2
 cases e:ix.toList[i]? with
 |none=>rw[e] at h1;cases h1
 |some k=>
  rw[e] at h1 h2
  have hk:k < vs.length:=P.lt k (by simpa using HG e)
  have hk':k < ps.length:=by rw[<-hps.1];exact hk
  simp[hk,hk'] at h1 h2
  exact hps.2 k v p (by rw[Hq hk,h1]) (by rw[Hq hk',h2])
def vL {v:Value}{vs:List Value}{ps:List Pr}{Q:Value->Shared->Prop}(hps:bM prog w s.heap vs ps)(nd:ps.Nodup)(h64:iG vs.length)
  (hcol:∀(Q':List Value->Shared->Prop),(∀h' tk,(∀b o,s.heap.get? b=some o->h'.get? b=some o)->Q' vs {s with heap:=h',toks:=tk})->wpAny (model prog w) A.in1 (collect v) Q' (λe s'=>E e s') s)
  (h:∀(h1 h':Heap) (tk:Nat) (D:Addr) (out:List Value) (qs:List Pr) (c:Nat),(∀b o,s.heap.get? b=some o->h1.get? b=some o)->D=h1.objs.size->(∀b o,h1.get? b=some o->h'.get? b=some o)->h'.get? D=some (seqObj "list" out.toArray c)->bM prog w h' out qs->(∀u,u∈out->u∈vs)->OM.sg qs->(∀p,p∈qs↔p∈ps)->
   Q (.ref D) {s with heap:=h',toks:=tk}):wpAny (model prog w) A (call (.builtin "sorted") [v]) Q E s:=by
 have hsm:∀p,p∈ps->Sm p:=λp hp=>by
  obtain⟨i,hi,e⟩:=Ip.mp hp
  have hi':i < vs.length:=by rw[hps.1];exact hi
  obtain⟨_,_,_,hs⟩:=hps.2 i vs[i] p (Hq hi') (by rw[Hq hi,e])
  exact hs
 (refine Calls.call_function_entry kind_sorted plain_sorted entry_sorted (args_sorted1 _) ?_)
 unfold Builtin.«sorted»
 refine Hr (m:=checkCount "sorted" 1 1 ([v]:List Value).length) (Hy ?_)
 refine Hr (hcol _ λh1 tk1 k1=>?_)
 have hz:vs.length<=sizeLine:=by have:=h64.1;rw[Ik];omega
 refine Hr (wpAny_newList ?_ hz)
 show wpAny _ _ _ _ _ {s with heap:=h1.push (seqObj "list" vs.toArray 0),toks:=tk1}
 have hoL:(h1.push (seqObj "list" vs.toArray 0)).get? h1.objs.size=some (seqObj "list" vs.toArray 0):=HR _ rfl
 have kp:∀b o,s.heap.get? b=some o->(h1.push (seqObj "list" vs.toArray 0)).get? b=some o:=λb o e=>Hx _ (k1 b o e)
 have hp1:bM prog w (h1.push (seqObj "list" vs.toArray 0)) vs ps:=⟨hps.1,λi v p a b=>by
  obtain⟨c,e,⟨o,it,n,ho,r⟩,hs⟩:=hps.2 i v p a b
  exact⟨c,e,⟨o,it,n,kp _ _ ho,r⟩,hs⟩⟩
 have hne:∀b o,s.heap.get? b=some o->b≠h1.objs.size:=λb o e=>Ih (HF (k1 b o e))
 refine Hr (Jl (Kh slot_list_sort ⟨_,hoL,rfl⟩ entry_list_sort ?_ (args_list_sort _)))
 refine pR (s:={s with heap:=h1.push (seqObj "list" vs.toArray 0),toks:=tk1}) hoL hp1 nd h64 λh' c ix P U hk ho=>?_
 refine⟨_,rfl,Hy ⟨_,rfl,?_⟩⟩
 have kk:∀b o,s.heap.get? b=some o->h'.get? b=some o:=λb o e=>hk b o (hne b o e) (kp b o e)
 have P':L2.SO.Pm ps.length ix:=by rw[<-hps.1];exact P
 have k2:∀b o,h1.get? b=some o->h'.get? b=some o:=λb o e=>hk b o (Ih (HF e)) (Hx _ e)
 refine h h1 h' tk1 h1.objs.size _ (ix.toList.map λi=>ps.getD i (0,0)) c k1 rfl k2 ho (D5 ⟨hps.1,λi v p a b=>?_⟩ P) (λu hu=>?_) (Cf hsm P' (by rw[<-hps.1];exact U)) λp=>⟨λhp=>?_,λhp=>?_⟩
 ·obtain⟨c,e,⟨o,it,n,ho,r⟩,hs⟩:=hps.2 i v p a b
  exact⟨c,e,⟨o,it,n,kk _ _ ho,r⟩,hs⟩
 ·obtain⟨i,hi,rfl⟩:=HK.mp hu
  have:i < vs.length:=P.lt i (by simpa using hi)
  rw[IS,Hq this]
  exact Jc this
 ·obtain⟨i,hi,rfl⟩:=HK.mp hp
  have:i < ps.length:=P'.lt i (by simpa using hi)
  rw[IS,Hq this]
  exact Jc this
 ·obtain⟨i,hi,e⟩:=Ip.mp hp
  refine HK.mpr ⟨i,yf P' hi,?_⟩
  rw[IS,Hq hi,e];rfl
end
end L2.ST
namespace L2
open PySem PySem.Spec PyProof.Rows
abbrev Pr:=Int×Int
abbrev Sm:=L2.ST.Sm
section
variable {X:Cx}{pins:List (Addr×Obj)}{σ:St}{H H':Hp}{s:Shared}
def dM (H H':Hp):Prop:=(∀b xs,H b=some (.tup xs)->H' b=some (.tup xs))/\∀b o u,H b=some (.aJ o u)->H' b=some (.aJ o u)
def dM.trans {H H1 H2:Hp}(a:dM H H1)(b:dM H1 H2):dM H H2:=⟨λc xs h=>b.1 c xs (a.1 c xs h),λc o u h=>b.2 c o u (a.2 c o u h)⟩
def af.grow {H H':Hp}(e:af H H'):dM H H':=⟨λb xs h=>e b _ h,λb o u h=>e b _ h⟩
def dM.new {H:Hp}{l:Addr}{o:HO}(h:H l=none):dM H (upd H l o):=⟨λb xs e=>by rw[ao (ar e h)];exact e,λb o' u e=>by rw[ao (ar e h)];exact e⟩
def af.new {H:Hp}{l:Addr}{o:HO}(h:H l=none):af H (upd H l o):=λb u e=>Kt.of (by rw[ao (ar e h)];exact e)
def eB.grow {K:Frag}{a:Addr}{xs:List V}(h:eB K H a xs)(g:dM H H'):eB K H' a xs:=by
 rcases h with (h | ⟨o,h⟩) |h
 ·exact .inl (.inl (g.1 _ _ h))
 ·exact .inl (.inr ⟨o,g.2 _ _ _ h⟩)
 ·exact .inr h
def dM.list {a:Addr}{ys:List V}{o:HO}(h:H a=some (.lst ys)):dM H (upd H a o):=
 ⟨λb xs e=>by rw[ao (Bv e h (by intro z;cases z))];exact e,λb o' u e=>by rw[ao (Bv e h (by intro z;cases z))];exact e⟩
theorem l5 {α β:Type}{f:α->β}:∀{l:List α} {m:List β},m.Perm (l.map f)->∃l':List α,m=l'.map f/\l'.Perm l:=by
 intro l m h
 generalize hk:l.map f=k at h
 induction h generalizing l with
 |nil=>
  have:l= []:=by simpa using hk
  exact⟨[],rfl,by rw[this]⟩
 | @cons x m1 m2 _ ih=>
  cases l with
  |nil=>cases hk
  |cons a l=>
   simp only[IQ,List.cons.injEq] at hk
   obtain⟨l',e,p⟩:=ih hk.2
   exact⟨a :: l',by rw[IQ,hk.1,e],p.cons a⟩
 |swap x y m1=>
  cases l with
  |nil=>cases hk
  |cons a l=>
   cases l with
   |nil=>simp at hk
   |cons b l=>
    simp only[IQ,List.cons.injEq] at hk
    exact⟨b :: a :: l,by rw[IQ,IQ,hk.1,hk.2.1,hk.2.2],List.Perm.swap ..⟩
 |trans _ _ ih1 ih2=>
  obtain⟨l1,e1,p1⟩:=ih2 hk
  obtain⟨l2,e2,p2⟩:=ih1 e1.symm
  exact⟨l2,e2,p2.trans p1⟩
def aB (K:Frag)(H:Hp):List V->List Pr->Prop:=Paired λv p=>∃a,v=.ref a/\eB K H a [.int p.1,.int p.2]
def aB.grow {K:Frag}{vs:List V}{ps:List Pr}(h:aB K H vs ps)(g:dM H H'):aB K H' vs ps:=Paired.mapP h λv p ⟨a,e,q⟩=>⟨a,e,q.grow g⟩
theorem Paired.getP {α β:Type}{F:α->β->Prop}:∀{l:List α} {m:List β} {i:Nat} {x:α},Paired F l m->l[i]? =some x->∃y,m[i]? =some y/\F x y
 |_,_,_,_,.nil,e=>by simp at e
 |_,_,0,_,.cons r _,e=>by simp at e;subst e;exact⟨_,rfl,r⟩
 |_,_,i + 1,x,.cons _ t,e=>by
  obtain⟨u,h1,h2⟩:=Paired.getP (i:=i) (x:=x) t (by simpa using e)
  exact⟨u,by simpa using h1,h2⟩
theorem Paired.getQ {α β:Type}{F:α->β->Prop}:∀{l:List α} {m:List β} {i:Nat} {y:β},Paired F l m->m[i]? =some y->∃x,l[i]? =some x/\F x y
 |_,_,_,_,.nil,e=>by simp at e
 |_,_,0,_,.cons r _,e=>by simp at e;subst e;exact⟨_,rfl,r⟩
 |_,_,i + 1,x,.cons _ t,e=>by
  obtain⟨u,h1,h2⟩:=Paired.getQ (i:=i) (y:=x) t (by simpa using e)
  exact⟨u,by simpa using h1,h2⟩
theorem ph (I:Inv X pins σ H s){a:Addr}{p:Pr}(h:eB X.K H a [.int p.1,.int p.2]):L2.ST.aQ X.prog X.w s.heap p a:=by
 obtain⟨its,r,⟨o,ho,hc,n,hd⟩,_⟩:=I.tuple h
 cases r with
 |cons r1 r=>
  cases r with
  |cons r2 r=>
   cases r
   obtain⟨t1,rfl⟩:=r1
   obtain⟨t2,rfl⟩:=r2
   exact⟨o,_,n,ho,hc,hd,.cons (intKind_is ..) (.cons (intKind_is ..) .nil)⟩
def pairs_at (I:Inv X pins σ H s){vs:List V}{us:List Value}{ps:List Pr}(hv:Vals vs us)(h:aB X.K H vs ps)(hs:∀p,p∈ps->Sm p):L2.ST.bM X.prog X.w s.heap us ps:=by
 refine⟨by rw[<-hv.length];exact Paired.length h,λi u p e1 e2=>?_⟩
 obtain⟨v,ev,a,rfl,q⟩:=Paired.getQ h e2
 obtain⟨u',eu,ru⟩:=hv.get ev
 rw[e1] at eu;cases eu
 cases ru
 exact⟨a,rfl,ph I q,hs p (HG e2)⟩
theorem kl (I:Inv X pins σ H s){vs:List V}{us:List Value}{ps:List Pr}(hv:Vals vs us)(h:aB X.K H vs ps){h':Heap}(k:∀b o,s.heap.get? b=some o->h'.get? b=some o):∀{out:List Value} {qs:List Pr},
  (∀u,u∈out->u∈us)->L2.ST.bM X.prog X.w h' out qs->∃ws,Vals ws out/\aB X.K H ws qs
 | [],[],_,_=>⟨[],.nil,.nil⟩
 | [],_ :: _,_,hp=>by have:=hp.1;simp at this
 |_ :: _,[],_,hp=>by have:=hp.1;simp at this
 |u :: out,q :: qs,hm,hp=>by
  obtain⟨ws,a1,a2⟩:=kl I hv h k (out:=out) (qs:=qs) (λx hx=>hm x (Hz _ hx)) ⟨by have:=hp.1;simpa using this,λi v p e1 e2=>hp.2 (i + 1) v p (by simpa using e1) (by simpa using e2)⟩
  obtain⟨i,hi,e⟩:=Ip.mp (hm u (HC ..))
  have hi':i < vs.length:=by rw[hv.length];exact hi
  obtain⟨u',eu,ru⟩:=hv.get (Hq hi')
  rw[Hq hi,e] at eu
  cases eu
  obtain⟨p,ep,a,ea,qa⟩:=Paired.getP h (Hq hi')
  rw[ea] at ru
  cases ru
  obtain⟨b,eb,hb,_⟩:=hp.2 0 (.ref a) q rfl rfl
  cases eb
  have pa:L2.ST.aQ X.prog X.w h' p a:=by
   obtain⟨o,it,n,ho,r⟩:=ph I qa
   exact⟨o,it,n,k _ _ ho,r⟩
  have:p=q:=L2.ST.aQ.inj pa hb
  subst this
  exact⟨.ref a :: ws,.cons rfl a1,.cons ⟨a,rfl,qa⟩ a2⟩
def rE (I:Inv X pins σ H s){vs:List V}{us:List Value}{ps:List Pr}(hv:Vals vs us)(hp:aB X.K H vs ps)(hlen:ps.length<=64){Q:VK}
  (q:∀l ws qs,H l=none->aB X.K H ws qs->OM.sg qs->(∀p,p∈qs↔p∈ps)->Q (.ref l) (upd H l (.lst ws)))
  {h1 h':Heap} {tk:Nat} {D:Addr} {out:List Value} {qs:List Pr} {c:Nat} (k1:∀b o,s.heap.get? b=some o->h1.get? b=some o) (eD:D=h1.objs.size) (k2:∀b o,h1.get? b=some o->h'.get? b=some o)
  (ho:h'.get? D=some (seqObj "list" out.toArray c)) (hpq:L2.ST.bM X.prog X.w h' out qs) (hm:∀u,u∈out->u∈us) (hr:OM.sg qs) (hmem:∀p,p∈qs↔p∈ps):EP X pins σ Q (.ref D) {s with heap:=h',toks:=tk}:=by
 obtain⟨ws,r1,r2⟩:=kl I hv hp (λb o e=>k2 b o (k1 b o e)) hm hpq
 have I1:Inv X pins σ H {s with heap:=h1,toks:=tk}:=I.kept k1
 have hf:H D=none:=by rw[eD];exact I1.hok.fresh (Hv _)
 have hz:ws.length<=sizeLine:=by
  have e1:=r1.length
  have e2:out.length=qs.length:=hpq.1
  have e3:=OM.dc (OM.gY hr) λx hx=>(hmem x).mp hx
  rw[Ik];omega
 have I2:Inv X pins σ (upd H D (.lst ws)) {s with heap:=h',toks:=tk}:=I1.laid (t':=tk) k2 (by rw[eD];exact Hv _) (show aU X.prog X.w _ h' _ (.lst ws) from⟨hz,out,c,r1,ho⟩)
 exact⟨.ref D,_,I2,rfl,q D ws qs hf r2 hr hmem⟩
abbrev vq (qs:List (Addr×Pr)):List V:=qs.map λq=>V.ref q.1
abbrev pq (qs:List (Addr×Pr)):List Pr:=qs.map (·.2)
def Bz (prog:Program)(w:World)(S:Addr)(qs:List (Addr×Pr))(h:Heap):Prop:=∃o ep t,h.get? S=some o/\o.ExactSet/\o.data=.set (qs.map λq=>(L2.ST.wz prog w q.2,Value.ref q.1)).toArray ep t/\L2.ST.Tab t (qs.map λq=>L2.ST.wz prog w q.2)/\t.led=L2.ST.fJ w
def vh (prog:Program)(w:World)(S:Addr)(qs:List (Addr×Pr)):HO:=.ext (Bz prog w S qs)
def DQ (P:Program)(w:World)(K:Frag):List V->Hp->VK->Prop:=λxs H Q=>∃a vs ps,xs= [.ref a]/\(dI K H a vs\/eB K H a vs)/\aB K H vs ps/\(∀p,p∈ps->Sm p)/\
 ∀S qs,H S=none->aB K H (vq qs) (pq qs)->(pq qs).Nodup->(∀p,p∈pq qs↔p∈ps)->Q (.ref S) (upd H S (vh P w S qs))
def zh (hc:X.calm=true)(hu:X.A.units + 64 < cLine):bQ X (.type "set") (DQ X.prog X.w X.K):=by
 intro pins s σ H xs us Q I r h
 obtain⟨a,vs,ps,rfl,hq,hp,hs,q⟩:=h
 obtain⟨u,rfl,rx⟩:=vals1 r
 cases rx
 have hh:=I.ok.hd hc
 have core:∀{its:List Value} {T:String} {itO:Obj} {St:Addr->Nat->Heap->Prop},Vals vs its->L2.ST.Src X.prog X.w s.heap a its T itO St->wpAny (model X.prog X.w) X.A (call (.type "set") [.ref a]) (EP X pins σ Q) X.xe s:=λ{its T itO St} rv src=>by
  refine L2.ST.kB src hh hu (pairs_at I rv hp hs) λh' tk F k=>?_
  obtain⟨qs,P1,P2,P3⟩:=F
  have hlen:its.length=vs.length:=rv.length.symm
  have back:∀qv:Addr×Pr,qv∈qs->∃b,b=qv.1/\eB X.K H b [.int qv.2.1,.int qv.2.2]:=λqv hqv=>by
   obtain⟨i,hi,e⟩:=Ip.mp (Jg (P2 qv hqv).1)
   have hi':i < vs.length:=by rw[<-hlen];exact hi
   obtain⟨u',eu,ru⟩:=rv.get (Hq hi')
   rw[Hq hi,e] at eu
   cases eu
   obtain⟨p,ep,b,eb,qb⟩:=Paired.getP hp (Hq hi')
   rw[eb] at ru
   cases ru
   have pa:L2.ST.aQ X.prog X.w h' p qv.1:=by
    obtain⟨o,it,n,ho,r⟩:=ph I qb
    exact⟨o,it,n,k _ _ ho,r⟩
   have:p=qv.2:=L2.ST.aQ.inj pa (P1.at' qv hqv).1
   subst this
   exact⟨_,rfl,qb⟩
  have hpv:∀{l:List (Addr×Pr)},(∀x,x∈l->x∈qs)->aB X.K H (vq l) (pq l):=λ{l}=>by
   induction l with
   |nil=>intro _;exact .nil
   |cons y l ih=>
    intro hl
    obtain⟨b,eb,qb⟩:=back y (hl y (HC ..))
    subst eb
    exact .cons ⟨_,rfl,qb⟩ (ih λx hx=>hl x (Hz _ hx))
  have hmem:∀p,p∈pq qs↔p∈ps:=λp=>by
   have hpl:ps.length=its.length:=by rw[hlen];exact (Paired.length hp).symm
   constructor
   ·intro hx
    obtain⟨qv,hqv,rfl⟩:=HK.mp hx
    exact Jg (P2 qv hqv).2
   ·intro hx
    exact P3 p (by rw[<-hpl,IW (Hv _)];exact hx)
  have hf:H s.heap.objs.size=none:=I.hok.fresh (Hv _)
  obtain⟨o,ep,t,ho,r1⟩:=P1.ex
  have new:aU X.prog X.w (upd H s.heap.objs.size (vh X.prog X.w s.heap.objs.size qs)) h' s.heap.objs.size (vh X.prog X.w s.heap.objs.size qs):=
   ⟨⟨o,ep,t,ho,r1⟩,⟨o,ho⟩,λh1 h2 ⟨o1,ep1,t1,g1,g2⟩ kk=>⟨o1,ep1,t1,kk _ g1,g2⟩⟩
  exact⟨.ref _,_,I.laid (t':=tk) k (Hv _) new,rfl,q _ qs hf (hpv λx hx=>hx) P1.nd hmem⟩
 rcases hq with hq |hq
 ·obtain⟨its,rv,pl,hz⟩:=I.list hq
  exact core rv (L2.ST.Src.list pl.isList)
 ·obtain⟨its,rv,pl,hz⟩:=I.tuple hq
  exact core rv (L2.ST.Src.tuple pl)
def ra (P:Program)(w:World)(K:Frag):List V->Hp->VK->Prop:=λxs H Q=>∃S qs,xs= [.ref S]/\H S=some (vh P w S qs)/\aB K H (vq qs) (pq qs)/\(∀p,p∈pq qs->Sm p)/\(pq qs).Nodup/\L2.ST.iG qs.length/\
 ∀l ws rs,H l=none->aB K H ws rs->OM.sg rs->(∀p,p∈rs↔p∈pq qs)->Q (.ref l) (upd H l (.lst ws))
def oy (hc:X.calm=true):bQ X (.builtin "sorted") (ra X.prog X.w X.K):=by
 intro pins s σ H xs us Q I r h
 obtain⟨S,qs,rfl,hS,hp,hs,nd,hl,q⟩:=h
 obtain⟨u,rfl,rx⟩:=vals1 r
 cases rx
 have hh:=I.ok.hd hc
 obtain⟨⟨o,ep,t,ho,hex,hd,T,hled⟩,_,_⟩:Bz X.prog X.w S qs s.heap/\_:=I.hok S _ hS
 have T':L2.ST.Tab t ((qs.map λq=>(L2.ST.wz X.prog X.w q.2,Value.ref q.1)).toArray.toList.map (·.1)):=by
  rw[Jk,Kb];exact T
 have htp:=L2.ST.mC X.w S ep (qs.map λq=>(L2.ST.wz X.prog X.w q.2,Value.ref q.1)).toArray
 have hmem:∀x,x∈(L2.ST.told X.w S ep (qs.map λq=>(L2.ST.wz X.prog X.w q.2,Value.ref q.1)).toArray).toList->∃q,q∈qs/\x=(L2.ST.wz X.prog X.w q.2,Value.ref q.1):=λx hx=>by
  have:=htp.mem_iff.mp hx
  simp only[Jk] at this
  obtain⟨q,hq,e⟩:=HK.mp this
  exact⟨q,hq,e.symm⟩
 obtain⟨q2,e2,p2⟩:∃q2:List (Addr×Pr),(L2.ST.told X.w S ep (qs.map λq=>(L2.ST.wz X.prog X.w q.2,Value.ref q.1)).toArray).toList=q2.map (λq=>(L2.ST.wz X.prog X.w q.2,Value.ref q.1))/\q2.Perm qs:=by
  have:=htp
  simp only[Jk] at this
  exact l5 this
 have hp2:aB X.K H (vq q2) (pq q2):=by
  have key:∀{l:List (Addr×Pr)},(∀x,x∈l->x∈qs)->aB X.K H (vq l) (pq l):=λ{l}=>by
   induction l with
   |nil=>intro _;exact .nil
   |cons y l ih=>
    intro hl
    obtain⟨i,hi,e⟩:=Ip.mp (hl y (HC ..))
    obtain⟨p,ep',a,ea,qa⟩:=Paired.getP (l:=vq qs) (m:=pq qs) (i:=i) (x:=.ref y.1) hp (by simp[hi,e])
    have:p=y.2:=by simp[hi,e] at ep';exact ep'.symm
    subst this
    exact .cons ⟨a,ea,qa⟩ (ih λx hx=>hl x (Hz _ hx))
  exact key λx hx=>p2.mem_iff.mp hx
 have hv2:Vals (vq q2) (q2.map λq=>Value.ref q.1):=by
  induction q2 with
  |nil=>exact .nil
  |cons y l ih=>exact .cons rfl (by
    clear ih e2 p2 hp2
    induction l with
    |nil=>exact .nil
    |cons z l ih2=>exact .cons rfl ih2)
 have hm2:∀p,p∈pq q2↔p∈pq qs:=λp=>(p2.map (·.2)).mem_iff
 have hpa:=pairs_at I hv2 hp2 λp hpp=>hs p ((hm2 p).mp hpp)
 have hl2:L2.ST.iG q2.length:=by rw[p2.length_eq];exact hl
 have hl3:=hl2.1
 refine L2.ST.vL (v:=.ref S) hpa ((p2.map (·.2)).nodup_iff.mpr nd) (by simpa using hl2) (λQ' hQ'=>L2.ST.pY (by simpa using hh) ho hd hex.1 T' hled (by have:=hl.1;simp;omega) λh' tk vs ev k=>?_) λh1 h' tk D out qs' c k1 eD k2 ho' hpq hm hr hmem'=>?_
 ·rw[ev,e2]
  rw[Kb]
  exact hQ' h' tk k
 ·exact rE I hv2 hp2 (by simpa using hl3) (λl ws rs a1 a2 a3 a4=>q l ws rs a1 a2 a3 λp=>(a4 p).trans (hm2 p)) k1 eD k2 ho' hpq hm hr hmem'
end
def jn (cells:List (Str×Addr)):List (Str×NameKind)->List (Str×Addr)->List (Str×Addr)
 | [],cs=>cs
 | (n,k) :: r,cs=>jn cells r (if k == .free then (n,(cells.lookup n).getD 0) :: cs else cs)
def rC {scope:Scope}{env:Env}(h:∀y∈scope.names,y.2=.free->∃c,env.cells.lookup y.1=some c):closureFor scope env=pure (jn env.cells scope.names []):=by
 unfold closureFor
 have key:∀(l:List (Str×NameKind)) (cs:List (Str×Addr)),(∀y∈l,y.2=.free->∃c,env.cells.lookup y.1=some c)->
   (forIn l cs (λ(x:Str×NameKind) (r:List (Str×Addr))=>if (x.2 == NameKind.free)=true then (do let a <-cellOf env x.1;pure (ForInStep.yield ((x.1,a) :: r)):Sem _) else pure (ForInStep.yield r)):Sem (List (Str×Addr)))=pure (jn env.cells l cs):=by
  intro l
  induction l with
  |nil=>intro cs _;rfl
  |cons y l ih=>
   intro cs hy
   obtain⟨n,k⟩:=y
   rw[List.forIn_cons]
   unfold jn
   by_cases hk:(k == NameKind.free)=true
   ·have hk':k=.free:=by simpa using hk
    obtain⟨c,hc⟩:=hy (n,k) (HC ..) hk'
    have hce:cellOf env n=pure c:=by unfold cellOf;rw[hc]
    simp only[hk,IX]
    have hc':env.cells.lookup n=some c:=hc
    rw[hce,hc']
    simp only[pure_bind,Option.getD_some]
    exact ih _ λz hz=>hy z (Hz _ hz)
   ·simp only[hk,Iy,HM]
    simp only[pure_bind]
    exact ih _ λz hz=>hy z (Hz _ hz)
 have:=key scope.names [] h
 simp only[bind_pure_comp] at this ⊢
 first
  |exact this
  | (rw[this];rfl)
  | (simpa using this)
theorem mF {cells:List (Str×Addr)}{x:Str}:∀{l:List (Str×NameKind)} {cs:List (Str×Addr)},((x,NameKind.free)∈l\/cs.lookup x=some ((cells.lookup x).getD 0))->(jn cells l cs).lookup x=some ((cells.lookup x).getD 0)
 | [],cs,h=>by
  rcases h with h |h
  ·cases h
  ·exact h
 | (n,k) :: r,cs,h=>by
  unfold jn
  refine mF ?_
  by_cases hk:(k == NameKind.free)=true
  ·rw[Hs hk]
   by_cases hx:x=n
   ·subst hx;right;simp
   ·rcases h with h |h
    ·rcases HA.mp h with e |e
     ·injection e with e1 _;exact absurd e1 hx
     ·exact .inl e
    ·right
     rw[JV,show (x == n)=false by simpa using hx]
     exact h
  ·rw[Ht hk]
   rcases h with h |h
   ·rcases HA.mp h with e |e
    ·injection e with _ e2;exact absurd (by rw[<-e2];rfl) hk
    ·exact .inl e
   ·exact .inr h
theorem jj {cells:List (Str×Addr)}{x:Str}{c:Addr}:∀{l:List (Str×NameKind)} {cs:List (Str×Addr)},(jn cells l cs).lookup x=some c->((x,NameKind.free)∈l/\c=(cells.lookup x).getD 0)\/cs.lookup x=some c
 | [],cs,h=>.inr h
 | (n,k) :: r,cs,h=>by
  unfold jn at h
  rcases jj h with⟨a,b⟩ |a
  ·exact .inl ⟨Hz _ a,b⟩
  ·by_cases hk:(k == NameKind.free)=true
   ·rw[Hs hk,JV] at a
    by_cases hx:x=n
    ·subst hx
     simp at a
     have:k=.free:=by simpa using hk
     subst this
     exact .inl ⟨HC ..,a.symm⟩
    ·rw[show (x == n)=false by simpa using hx] at a
     exact .inr a
   ·rw[Ht hk] at a
    exact .inr a
theorem jH {f:Str->NameKind->NameKind}{x:Str}:∀(l:List (Str×NameKind)),(l.map λy=>(y.1,f y.1 y.2)).lookup x=(l.lookup x).map (f x)
 | []=>rfl
 | (n,k) :: l=>by
  rw[IQ,JV,JV]
  by_cases hx:x=n
  ·subst hx;simp
  ·have hb:(x == n)=false:=by simpa using hx
   simp only[hb]
   exact jH l
def lQ (scope:Scope)(env:Env)(x:Str):(relabel scope env).names.lookup x=(scope.names.lookup x).map λk=>if (k == .free && env.scope.kind == .function && env.kindOf x == some .cell) then .cell else k:=by
 have e:(relabel scope env).names=scope.names.map λy=>(y.1,if (y.2 == .free && env.scope.kind == .function && env.kindOf y.1 == some .cell) then .cell else y.2):=by
  unfold relabel
  dsimp only
  refine JB λy _=>?_
  obtain⟨n,k⟩:=y
  dsimp only
  split <;> rfl
 rw[e]
 exact jH (f:=λn k=>if (k == .free && env.scope.kind == .function && env.kindOf n == some .cell) then .cell else k) scope.names
theorem iz:∀(l:List (Str×NameKind)) (n:Nat) (acc:List (Str×Addr)),cellsFrom n l acc=cellsFrom n l [] ++ acc
 | [],_,_=>rfl
 | (x,k) :: r,n,acc=>by
  unfold cellsFrom
  split
  ·rw[iz r (n + 1) ((x,n) :: acc),iz r (n + 1) [(x,n)],Ia];rfl
  ·exact iz r n acc
theorem lG:∀{l:List (Str×NameKind)} {n:Nat} {x:Str} {c:Addr},(x,c)∈cellsFrom n l []->n<=c/\(x,NameKind.cell)∈l
 | [],_,_,_,h=>by cases h
 | (y,k) :: r,n,x,c,h=>by
  unfold cellsFrom at h
  split at h
  ·rename_i hk
   have hk:k=.cell:=by simpa using hk
   rw[iz] at h
   rcases HP.mp h with h |h
   ·have:=lG h;exact⟨by omega,Hz _ this.2⟩
   ·rw[IC] at h;cases h;subst hk;exact⟨Hv _,HC ..⟩
  ·have:=lG h;exact⟨this.1,Hz _ this.2⟩
abbrev Ag (X:Cx)(scope:Scope)(C:Addr):List (Str×Addr):=cellsFrom (C + 1) scope.names (jn X.env.cells scope.names [])
def AI {M:Model}{A:Around}{E:Value->Shared->Prop}{s:Shared}{scope:Scope}{g:Addr}{cl:List (Str×Addr)}{qual:Str}{env:Env}{Q:Env->Shared->Prop}
  (h:∀h',h'.Ns s.heap.objs.size (λ_=>none)->(∀b o,s.heap.get? b=some o->h'.get? b=some o)->CellsOk h' (s.heap.objs.size + 1) (cellsFrom (s.heap.objs.size + 1) scope.names [])->Q (newEnv scope s.heap.objs.size g (cellsFrom (s.heap.objs.size + 1) scope.names cl) qual none .none (some env) builtinsNs) {s with heap:=h'}) :
  wpAny M A (newFunctionEnv scope g cl [] qual none .none (some env)) Q E s:=by
 simp only[newFunctionEnv,Option.isSome_some,IX]
 refine Hr (wpAny_alloc ?_)
 refine Hr (wpAny_layCells _ (λname kind cells=>by cases hkc:kind == NameKind.cell <;> simp[hkc]) _ _ _ _ ?_)
 have ok:=cellsFrom_ok scope.names (s.heap.push {cls:=.type "dict",data:=.dict #[]}) (s.heap.objs.size + 1) [] ⟨λ_ _ hm=>(nomatch hm),List.Pairwise.nil⟩ (by rw[Jp];exact Hv _)
 rw[Jp] at ok
 rw[show ({s with heap:=s.heap.push {cls:=.type "dict",data:=.dict #[]}}:Shared).heap.objs.size=s.heap.objs.size + 1 from Jp ..]
 rw[List.forIn_nil]
 exact Hr (Hy (Hy (h _ ((Heap.Ns.new s.heap (.type "dict")).keeps (pushCells_keeps _ _)) (λb o e=>pushCells_keeps _ _ b o (Hx _ e)) ok)))
def hV (X:Cx)(NB:List Str)(scope:Scope)(C:Addr)(ex:List Addr)(s3:Shared)(H3:Hp)(pn:List (Addr×Obj)):Cx:=
 {X with N:=NB,s₀:=s3,H₀:=H3,env:=compEnvC scope (Ag X scope C) C X.env,outer:=X.stack,ex:=ex,fn:=λx=>scope.names.lookup x == some .cell,pn:=pn,xe:=λ_ _=>False}
def o4 (own:Nat)(ixs:List Nat)(σ:St):St:=List.replicate own none ++ ixs.map λi=>(σ[i]?).join
structure cL (X:Cx)(NB:List Str)(own:Nat)(ixs:List Nat)(scope:Scope):Prop where
 kind:scope.kind=.function
 names:∀y∈scope.names,scope.names.lookup y.1=some y.2
 frees:∀y∈scope.names,y.2=.free->X.env.kindOf y.1=some .cell\/X.env.kindOf y.1=some .free
 nd:NB.Nodup
 len:NB.length=own + ixs.length
 at':∀k,k < ixs.length->NB[own + k]? =X.N[ixs.getD k 0]?/\∀x,NB[own + k]? =some x->(x,NameKind.free)∈scope.names
section
variable {X:Cx}{NB:List Str}{own:Nat}{ixs:List Nat}{scope:Scope}{pins:List (Addr×Obj)}{σ:St}{H:Hp}{s:Shared}
def vp (S:cL X NB own ixs scope)(I:Inv X pins σ H s){fp:List Addr}(hfp:∀b∈fp,lW X pins H b)(hob:∀b∈fp,∃o,s.heap.get? b=some o){h1:Heap}{tk:Nat}
  (hn:h1.Ns s.heap.objs.size (λ_=>none)) (hk:∀b o,s.heap.get? b=some o->h1.get? b=some o) (hcl:CellsOk h1 (s.heap.objs.size + 1) (cellsFrom (s.heap.objs.size + 1) scope.names [])) :
  Inv (hV X NB scope s.heap.objs.size fp s H (X.pn ++ pins)) [] (o4 own ixs σ) H {s with heap:=h1,toks:=tk}:=by
 have stk:=I.stack
 have frees:∀{x:Str},(x,NameKind.free)∈scope.names->∃c,X.env.cells.lookup x=some c:=λ{x} hx=>I.ok.has x (S.frees _ hx rfl)
 have clE:∀{x:Str} {c:Addr},(Ag X scope s.heap.objs.size).lookup x=some c->((x,c)∈cellsFrom (s.heap.objs.size + 1) scope.names []/\s.heap.objs.size < c)\/((x,NameKind.free)∈scope.names/\X.env.cells.lookup x=some c):=λ{x c} h=>by
  unfold Ag at h
  rw[iz,List.lookup_append] at h
  cases q:(cellsFrom (s.heap.objs.size + 1) scope.names []).lookup x with
  |some c'=>
   rw[q] at h
   cases h
   have hm:=IY q
   exact .inl ⟨hm,(lG hm).1⟩
  |none=>
   rw[q] at h
   have h:(jn X.env.cells scope.names []).lookup x=some c:=h
   rcases jj h with⟨a,b⟩ |a
   ·obtain⟨c',e⟩:=frees a
    rw[e] at b
    exact .inr ⟨a,by rw[e,b];rfl⟩
   ·simp at a
 have clF:∀{x:Str},(x,NameKind.free)∈scope.names->(Ag X scope s.heap.objs.size).lookup x=some ((X.env.cells.lookup x).getD 0):=λ{x} hm=>by
  unfold Ag
  rw[iz,List.lookup_append]
  cases q:(cellsFrom (s.heap.objs.size + 1) scope.names []).lookup x with
  |some c'=>
   have h1:=S.names _ (lG (IY q)).2
   have h2:=S.names _ hm
   dsimp only at h1 h2
   rw[h1] at h2
   cases h2
  |none=>exact mF (.inl hm)
 have kindB:∀x,(hV X NB scope s.heap.objs.size fp s H (X.pn ++ pins)).env.kindOf x=(scope.names.lookup x).map λk=>if (k == .free && X.env.scope.kind == .function && X.env.kindOf x == some .cell) then .cell else k:=λx=>lQ scope X.env x
 have isFree:∀{x:Str},((hV X NB scope s.heap.objs.size fp s H (X.pn ++ pins)).env.kindOf x=some .cell\/(hV X NB scope s.heap.objs.size fp s H (X.pn ++ pins)).env.kindOf x=some .free)->(x,NameKind.free)∈scope.names\/scope.names.lookup x=some .cell:=λ{x} h=>by
  rw[kindB] at h
  cases e:scope.names.lookup x with
  |none=>rw[e] at h;simp at h
  |some k=>
   have hm:=IY e
   cases k with
   |free=>exact .inl hm
   |cell=>exact .inr rfl
   |_=>rw[e] at h;simp at h
 have neN:∀b o,s.heap.get? b=some o->b≠s.heap.objs.size:=λb o e=>Ih (HF e)
 have cellN:∀{x:Str} {c:Addr},X.env.cells.lookup x=some c->c < s.heap.objs.size:=λ{x c} e=>by
  obtain⟨v,o,ho,_⟩:=I.cell x c e
  exact HF ho
 have ok:(hV X NB scope s.heap.objs.size fp s H (X.pn ++ pins)).Ok:=by
  refine⟨I.ok.mod,S.kind,I.ok.glob,I.ok.blt,Hv _,λx y c h1 h2=>?_,λx hx=>?_,λx c h hc=>?_,I.ok.hd,I.ok.frames,.inl rfl,λb hb=>?_,I.bs,IF I.ok.bsz I.sz,λb o e hb=>?_,λb hb hs=>?_,stk,I.stkFree⟩
  ·rcases clE h1 with⟨a,l1⟩ | ⟨a,l1⟩
   ·rcases clE h2 with⟨b,l2⟩ | ⟨b,l2⟩
    ·exact name_of_addr hcl.apart a b
    ·exact absurd (JS l1 (cellN l2)) (Ic _)
   ·rcases clE h2 with⟨b,l2⟩ | ⟨b,l2⟩
    ·exact absurd (JS l2 (cellN l1)) (Ic _)
    ·exact I.ok.inj x y c l1 l2
  ·rcases isFree hx with hm |hm
   ·exact⟨_,clF hm⟩
   ·obtain⟨c,hc⟩:=Ju.mp (J1 scope.names (s.heap.objs.size + 1) (jn X.env.cells scope.names []) (.inl hm))
    exact⟨c,hc⟩
  ·rcases clE hc with⟨a,l1⟩ | ⟨a,l1⟩
   ·exact J8 l1
   ·have h1:=S.names _ a
    dsimp only at h1
    have h:(scope.names.lookup x == some NameKind.cell)=true:=h
    rw[h1] at h
    cases h
  ·obtain⟨_,f1,f2,f3,f4,f5⟩:=hfp b hb
   obtain⟨o,ho⟩:=hob b hb
   refine⟨neN b o ho,λx c h z=>?_⟩
   rcases clE h with⟨a,l1⟩ | ⟨a,l1⟩
   ·rw[z] at l1
    exact Ic _ (JS l1 (HF ho))
   ·exact f4 x c l1 z
  ·obtain⟨_,f1,f2,f3,f4,f5⟩:=hfp b hb
   rcases f3 with f3 |f3
   ·exact I.ok.noex b o e f3
   ·exact absurd (HZ (HF e) (IF I.ok.bsz f3)) (Ic _)
  ·obtain⟨_,f1,f2,f3,f4,f5⟩:=hfp b hb
   rcases HA.mp (I.stkSub b hs) with z |z
   ·exact f1 z
   ·exact f2 z
 refine⟨ok,rfl,I.bare,Un.kept hk,⟨_,hn,λi x v h1' h2' h3'=>?_⟩,λx c h=>?_,I.hok.fresh (Hv _),λx c h=>?_,λp hp=>?_,I.hok.kept hk,?_⟩
 ·
  have h1':NB[i]? =some x:=h1'
  have hown:own<=i:=by
   refine Classical.byContradiction λhc=>?_
   have hlt:i < own:=Nat.lt_of_not_le hc
   unfold o4 at h2'
   rw[IA (by simpa using hlt),Jh,Hs hlt] at h2'
   cases h2'
  obtain⟨k,rfl⟩:∃k,i=own + k:=⟨i - own,by omega⟩
  have hk':k < ixs.length:=by
   have:=(HE.mp h1').1
   rw[S.len] at this;omega
  obtain⟨e1,e2⟩:=S.at' k hk'
  have hm:=e2 x h1'
  unfold o4 at h2'
  rw[Iv (by simp),Jo,Nat.add_sub_cancel_left,HH,Hq hk'] at h2'
  simp only[Option.map_some,Option.some.injEq] at h2'
  have hix:ixs.getD k 0=ixs[k]:=by simp[hk']
  have hσ:σ[ixs[k]]? =some (some v):=by
   cases e:σ[ixs[k]]? with
   |none=>rw[e] at h2';cases h2'
   |some o=>rw[e] at h2';simp at h2';rw[h2']
  rw[e1,hix] at h1'
  have hkind:=S.frees _ hm rfl
  have hvis:u7 X.env.scope x:=hkind.elim (λz=>.inr (.inl z)) (λz=>.inr (.inr z))
  obtain⟨m,hm',hl⟩:=I.loc
  obtain⟨u,r,look⟩:=hl _ x v h1' hσ hvis
  refine⟨u,r,.inr ⟨?_,?_⟩⟩
  ·rw[kindB]
   have hfr:scope.names.lookup x=some .free:=S.names _ hm
   rw[hfr]
   simp only[Option.map_some]
   split
   ·exact .inl rfl
   ·exact .inr rfl
  ·rcases look with⟨z,_⟩ | ⟨_,c,hc,hcell⟩
   ·rcases hkind with q |q
    ·rw[q] at z;cases z
    ·rw[q] at z;cases z
   ·refine⟨c,?_,?_⟩
    ·have:=clF hm
     rw[hc] at this
     exact this
    ·obtain⟨o,ho,hd⟩:=hcell
     exact⟨o,hk _ _ ho,hd⟩
 ·rcases clE h with⟨a,_⟩ | ⟨_,l1⟩
  ·exact⟨_,(hcl.empty _ _ a).1⟩
  ·obtain⟨v,o,ho,hd⟩:=I.cell x c l1
   exact⟨v,o,hk _ _ ho,hd⟩
 ·rcases clE h with⟨_,l1⟩ | ⟨_,l1⟩
  ·exact I.hok.fresh (J8 l1)
  ·exact I.freeC x c l1
 ·have hp':p∈X.pn ++ pins:=by
   rcases HP.mp hp with z |z
   ·exact z
   ·cases z
  obtain⟨e,n,ne,nf,d⟩:=I.pin p hp'
  refine⟨hk _ _ e,n,neN _ _ e,λz=>?_,d⟩
  rcases HA.mp (I.stkSub _ z) with q |q
  ·exact ne q
  ·exact nf q
 ·show (o4 own ixs σ).length=NB.length
  unfold o4
  rw[S.len];simp
end
abbrev tO (ifs:List Expr)(env:Env):Sem Bool:=forIn ifs true λc r=>if r=true then do let ok <-isTrue c env (eval c env);pure (ForInStep.yield ok) else pure (ForInStep.yield r)
theorem vH {prog:Program}{w:World}{A:Around}{R:Result->Shared->Prop}{s:Shared}{elt target iter:Expr}{ifs:List Expr}{scope:Scope}{pos:Pos}{it acc:Value}{env:Env}(I:Nat->Shared->Prop)
  (turn:∀n s,I n s->wpAny (model prog w) A (pyNext it) (λr s1=>match r with
   |none=>R (.ok .next) s1
   |some v=>wpAny (model prog w) A (letOwnedTupleGo target it v) (λ_ s1'=>wpAny (model prog w) A (assign target env v) (λ_ s2=>
     wpAny (model prog w) A (tO ifs env) (λok s3=>
      if ok=true then wpAny (model prog w) A (eval elt env) (λx s4=>wpAny (model prog w) A (call (.builtin "list.append") [acc,x]) (λ_ s5=>∃m,m < n/\I m s5) (λ_ _=>False) s4) (λ_ _=>False) s3
      else ∃m,m < n/\I m s3) (λ_ _=>False) s2) (λ_ _=>False) s1') (λ_ _=>False) s1) (λ_ _=>False) s)
  (n:Nat) (h:I n s):codeAny (model prog w) A (.compLoop (.ListComp elt [⟨target,iter,ifs,0⟩] scope pos) 0 it acc env) R s:=by
 refine codeAny_loop rfl I (λn s hI=>?_) n h
 (show wpAny _ A ((compTurn (.ListComp elt [⟨target,iter,ifs,0⟩] scope pos) 0 it acc env).onRaise (λx=>do (noteFrame x env);theTreesLotGoes x)) _ _ s)
 refine wpAny_noted ?_
 rw[compTurn_list]
 refine Hr (wpAny_standAt (Hr (IT (turn n s hI) (λr s1 h1=>?_) λ_ _ z=>z.elim)))
 cases r with
 |none=>exact Hy h1
 |some v=>
  refine Hr (IT h1 (λ_ s1' h1'=>?_) λ_ _ z=>z.elim)
  refine Hr (IT h1' (λ_ s2 h2=>Hr (IT h2 (λok s3 h3=>?_) λ_ _ z=>z.elim)) λ_ _ z=>z.elim)
  cases ok with
  |false=>exact Hy ⟨rfl,h3⟩
  |true=>exact Hr (Hr (IT h3 (λx s4 h4=>Hr (IT h4 (λ_ s5 h5=>Hy (Hy ⟨rfl,h5⟩)) λ_ _ z=>z.elim)) λ_ _ z=>z.elim))
def zE (X:Cx)(ifs:List Expr)(t:TT):Prop:=
 ∀(pins:List (Addr×Obj)) (s:Shared) (σ:St) (H:Hp) (Q:Bool->Hp->Prop),Inv X pins σ H s->t σ H Q->wpAny (model X.prog X.w) X.A (tO ifs X.env) (TP X pins σ Q) X.xe s
def Ci:TT:=λ_ H Q=>Q true H
def oo {X:Cx}:zE X [] Ci:=λpins s σ H Q I h=>Hy ⟨H,I,h⟩
def tK {X:Cx}{c:Expr}{t:TT}(h:PT X c t):zE X [c] t:=λpins s σ H Q I q=>wpAny_tests_one (h pins s σ H Q I q)
def wF (own:Nat)(ixs:List Nat)(wi:TI)(g:TG)(tt:TT)(te:TE)(σ:St)(H:Hp)(Q:VK):Prop:=wi σ H λJ H1=>∀D,H1 D=none->∃W:Nat->Nat->St->Hp->Prop,(∃m,W 0 m (o4 own ixs σ) (upd H1 D (.lst [])))/\∀i m σ' H',W i m σ' H'->
 (J.stop i H'/\(∃acc,H' D=some (.lst acc))/\Q (.ref D) H')\/
 (J.go i H'/\∃N:St->Hp->Prop,(∀σ2 H2,N σ2 H2->∃m',m' < m/\W (i + 1) m' σ2 H2)/\∀x H2,J.yld i H' x H2->g x σ' H2 λσ3 H3=>tt σ3 H3 λb H4=>
  if b=true then te σ3 H4 λv H5=>∃acc,H5 D=some (.lst acc)/\acc.length < sizeLine/\N σ3 (upd H5 D (.lst (acc ++ [v]))) else N σ3 H4)
section
variable {X:Cx}{NB:List Str}{own:Nat}{ixs:List Nat}{scope:Scope}{elt tg iter:Expr}{ifs:List Expr}{pos:Pos}{wi:TI}{g:TG}{tt:TT}{te:TE}
def wd (hc:X.calm=true)(S:cL X NB own ixs scope)
  (hg:∀C ex s3 H3 pn,PG (hV X NB scope C ex s3 H3 pn) tg g) (ht:∀C ex s3 H3 pn,zE (hV X NB scope C ex s3 H3 pn) ifs tt) (he:∀C ex s3 H3 pn,PE (hV X NB scope C ex s3 H3 pn) elt te)
  {pins:List (Addr×Obj)} {σ:St} {H1:Hp} {s2:Shared} {it:Addr} {fp:List Addr} {tn:Nat->Heap->Prop} {J:It} {Q:VK} (I2:Inv X pins σ H1 s2) (T:Turn X.prog X.w X.K tg J fp it tn) (st2:tn 0 s2.heap) (f2:∀b∈fp,lW X pins H1 b)
  (hQ:∀D,H1 D=none->∃W:Nat->Nat->St->Hp->Prop,(∃m,W 0 m (o4 own ixs σ) (upd H1 D (.lst [])))/\∀i m σ' H',W i m σ' H'->
   (J.stop i H'/\(∃acc,H' D=some (.lst acc))/\Q (.ref D) H')\/
   (J.go i H'/\∃N:St->Hp->Prop,(∀σ2 H2,N σ2 H2->∃m',m' < m/\W (i + 1) m' σ2 H2)/\∀x H2,J.yld i H' x H2->g x σ' H2 λσ3 H3=>tt σ3 H3 λb H4=>
    if b=true then te σ3 H4 λv H5=>∃acc,H5 D=some (.lst acc)/\acc.length < sizeLine/\N σ3 (upd H5 D (.lst (acc ++ [v]))) else N σ3 H4))
  {E:Value->Shared->Prop} {RR:Value->Addr->Result->Shared->Prop}
  (fin:∀D C H' s' m,Inv X pins σ H' s'->Q (.ref D) H'->s'.heap.Ns C m->H' C=none->C≠X.env.locals->(∀x c,X.env.cells.lookup x=some c->c≠C)->X.s₀.heap.objs.size<=C->(∀p∈X.pn ++ pins,p.1≠C)->RR (.ref D) C (.ok .next) s') :
  wpAny (model X.prog X.w) X.A (newList []) (λacc s3=>wpAny (model X.prog X.w) X.A (newFunctionEnv scope X.env.globals (jn X.env.cells scope.names []) [] X.env.qual none .none (some X.env)) (λcenv s4=>
   codeAny (model X.prog X.w) X.A (.compStart (.ListComp elt [⟨tg,iter,ifs,0⟩] scope pos) 0 (.ref it) acc {cenv with scope:=relabel scope X.env}) (RR acc cenv.locals) s4) E s3) E s2:=by
 refine wpAny_newList ?_ (Ij _)
 have hD:H1 s2.heap.objs.size=none:=I2.hok.fresh (Hv _)
 obtain⟨W,⟨m0,w0⟩,turn⟩:=hQ s2.heap.objs.size hD
 generalize hs3:({s2 with heap:=s2.heap.push (seqObj "list" ([]:List Value).toArray 0)}:Shared)=s3
 have I3:Inv X pins σ (upd H1 s2.heap.objs.size (.lst [])) s3:=by
  rw[<-hs3]
  exact I2.lnew (ys:=[]) (its:=[]) (t':=s2.toks) .nil (Ij _)
 have k3:∀b o,s2.heap.get? b=some o->s3.heap.get? b=some o:=λb o e=>by rw[<-hs3];exact Hx _ e
 have sz3:s3.heap.objs.size=s2.heap.objs.size + 1:=by rw[<-hs3];exact Jp ..
 have ob2:∀b∈fp,∃o,s2.heap.get? b=some o:=λb hb=>let ⟨o,e,_⟩:=T.obj 0 _ st2 b hb;⟨o,e⟩
 have neD:∀b∈fp,b≠s2.heap.objs.size:=λb hb=>let ⟨o,e⟩:=ob2 b hb;Ih (HF e)
 have f3:∀b∈fp,lW X pins (upd H1 s2.heap.objs.size (.lst [])) b:=λb hb=>by
  obtain⟨a1,a2⟩:=f2 b hb
  exact⟨by rw[ao (neD b hb)];exact a1,a2⟩
 have st3:tn 0 s3.heap:=T.keep _ _ _ st2 λb _ o e=>k3 b o e
 refine AI λh4 hn4 k4 ok4=>?_
 have I4:Inv (hV X NB scope s3.heap.objs.size fp s3 (upd H1 s2.heap.objs.size (.lst [])) (X.pn ++ pins)) [] (o4 own ixs σ) (upd H1 s2.heap.objs.size (.lst [])) {s3 with heap:=h4}:=
  vp S I3 f3 (λb hb=>let ⟨o,e⟩:=ob2 b hb;⟨o,k3 _ _ e⟩) hn4 k4 ok4
 have st4:tn 0 h4:=T.keep _ _ _ st3 λb _ o e=>k4 b o e
 generalize hB:hV X NB scope s3.heap.objs.size fp s3 (upd H1 s2.heap.objs.size (.lst [])) (X.pn ++ pins)=B at I4
 have hgB:PG B tg g:=by rw[<-hB];exact hg _ _ _ _ _
 have htB:zE B ifs tt:=by rw[<-hB];exact ht _ _ _ _ _
 have heB:PE B elt te:=by rw[<-hB];exact he _ _ _ _ _
 have eP:B.prog=X.prog:=by rw[<-hB];rfl
 have eW:B.w=X.w:=by rw[<-hB];rfl
 have eK:B.K=X.K:=by rw[<-hB];rfl
 have eA:B.A=X.A:=by rw[<-hB];rfl
 have eC:B.calm=true:=by rw[<-hB];exact hc
 have eX:B.xe=λ_ _=>False:=by rw[<-hB];rfl
 have eE:B.env=compEnvC scope (Ag X scope s3.heap.objs.size) s3.heap.objs.size X.env:=by rw[<-hB];rfl
 have ex:B.ex=fp:=by rw[<-hB];rfl
 have eL:B.env.locals=s3.heap.objs.size:=by rw[eE];rfl
 have stat:∀{H':Hp},(∀b∈fp,H' b=none)->∀b∈fp,lW B [] H' b:=λ{H'} hn b hb=>by
  obtain⟨a1,a2,a3,a4,a5,a6⟩:=f3 b hb
  obtain⟨o,eo⟩:=ob2 b hb
  refine⟨hn b hb,?_,λz=>?_,.inl (by rw[ex];exact hb),λx c e z=>?_,λp hp z=>?_⟩
  ·rw[eL];exact Ih (HF (k3 _ _ eo))
  ·have hz:b∈cx X.stack:=by rw[<-hB] at z;exact z
   rcases HA.mp (I3.stkSub b hz) with q |q
   ·exact a2 q
   ·exact a3 q
  ·rw[eE] at e
   have e:(Ag X scope s3.heap.objs.size).lookup x=some c:=e
   unfold Ag at e
   rw[iz,List.lookup_append] at e
   cases q:(cellsFrom (s3.heap.objs.size + 1) scope.names []).lookup x with
   |some c'=>
    rw[q] at e
    cases e
    have l1:=(lG (IY q)).1
    rw[z] at l1
    exact Ic _ (JS l1 (HF (k3 _ _ eo)))
   |none=>
    rw[q] at e
    have e:(jn X.env.cells scope.names []).lookup x=some c:=e
    rcases jj e with⟨m1,m2⟩ |m1
    ·obtain⟨c',e'⟩:=I3.ok.has x (S.frees _ m1 rfl)
     rw[e'] at m2
     exact a5 x c' e' (by rw[<-z,m2];rfl)
    ·simp at m1
  ·have hp':p∈X.pn ++ pins:=by
    rw[<-hB] at hp
    rcases HP.mp hp with q |q
    ·exact q
    ·cases q
   exact a6 p hp' z
 have back:∀{σ':St} {H':Hp} {s':Shared},Inv B [] σ' H' s'->Inv X pins σ H' s':=λ{σ' H' s'} J'=>by
  have u:=J'.base
  have os:=J'.os
  have bare:=J'.bare
  have hok:=J'.hok
  subst hB
  exact I3.call' (ch:=fp) os u hok bare λb hb=>by
   obtain⟨a1,a2,a3,a4,a5,a6⟩:=f3 b hb
   exact⟨a4,a2,a5,a6⟩
 have loop:∀s5:Shared,s5={s3 with heap:=h4}->
   codeAny (model X.prog X.w) X.A (.compLoop (.ListComp elt [⟨tg,iter,ifs,0⟩] scope pos) 0 (.ref it) (.ref s2.heap.objs.size) (compEnvC scope (Ag X scope s3.heap.objs.size) s3.heap.objs.size X.env)) (RR (.ref s2.heap.objs.size) s3.heap.objs.size) s5:=by
  rintro s5 rfl
  refine vH (λn s'=>∃i σ' H',Inv B [] σ' H' s'/\tn i s'.heap/\(∀b∈fp,H' b=none)/\W i n σ' H') ?_ m0 ⟨0,_,_,I4,st4,λb hb=>(f3 b hb).1,w0⟩
  rintro n s6 ⟨i,σ6,H6,I6,st6,fr6,w6⟩
  rcases turn i n σ6 H6 w6 with⟨stop,⟨acc,hacc⟩,qn⟩ | ⟨go,N,hN,step⟩
  ·have:=T.done B eP eW eK eC i [] s6 σ6 H6 (λ_ _=>False) I6 (stat fr6) st6 stop
   rw[eA] at this
   refine bB this λr s7 ⟨hr,I7⟩=>?_
   subst hr
   obtain⟨m7,hn7,_⟩:=I7.loc
   rw[eL] at hn7
   have J7:=back I7
   refine fin _ _ H6 s7 m7 J7 qn hn7 (by rw[<-eL];exact I7.free) (λz=>?_) (λx c e z=>?_) ?_ λp hp z=>?_
   ·have:=I3.lt
    rw[<-z] at this
    exact Ic _ this
   ·obtain⟨v,o,ho,_⟩:=I3.cell x c e
    exact absurd (HF ho) (by rw[z];exact Ic _)
   ·exact I3.sz
   ·have:=HF (I3.pin p hp).1
    rw[z] at this
    exact Ic _ this
  ·have hitem:=T.item B eP eW eK eC i [] s6 σ6 H6 (λ_ _=>False) I6 (stat fr6) st6 go
   rw[eA] at hitem
   refine bB hitem λr s7 ⟨u,hr,h7⟩=>?_
   subst hr
   refine bB h7 λ_ s8 ⟨x,H8,I8,r8,y8,st8,fr8⟩=>?_
   have I8':=I8.pinned (stat fr8) (T.obj _ _ st8)
   have ha:=hgB _ s8 σ6 H8 x u _ I8' r8 (step x H8 y8)
   rw[eP,eW,eA,eE,eX] at ha
   refine bB ha λ_ s9 ⟨σ9,H9,I9,q9⟩=>?_
   have hb:=htB _ s9 σ9 H9 _ I9 q9
   rw[eP,eW,eA,eE,eX] at hb
   refine bB hb λok s10 ⟨H10,I10,q10⟩=>?_
   have again:∀{σ7:St} {H7:Hp} {s7:Shared},Inv B ([] ++ kJ fp s8.heap) σ7 H7 s7->N σ7 H7->∃m,m < n/\∃i σ' H',Inv B [] σ' H' s7/\tn i s7.heap/\(∀b∈fp,H' b=none)/\W i m σ' H':=λ{σ7 H7 s7} I7 n7=>by
    obtain⟨m',hm,w7⟩:=hN σ7 H7 n7
    refine⟨m',hm,i + 1,σ7,H7,I7.unpinned,T.keep _ _ _ st8 λb hb o e=>(I7.pin (b,o) (Iq _ (Iq _ (fN hb e)))).1,λb hb=>?_,w7⟩
    obtain⟨o,e,d⟩:=T.obj _ _ st8 b hb
    exact (I7.pin (b,o) (Iq _ (Iq _ (fN hb e)))).2.1
   cases ok with
   |false=>
    simp only[HM,Iy] at q10 ⊢
    exact again I10 q10
   |true=>
    simp only[IX] at q10 ⊢
    have hv:=heB _ s10 σ9 H10 _ I10 q10
    rw[eP,eW,eA,eE,eX] at hv
    refine bB hv λy s11 ⟨v,H11,I11,r11,acc,hacc,hz,q11⟩=>?_
    have hap:=js (X:=B) _ s11 σ9 H11 (.ref s2.heap.objs.size) [v] (.ref s2.heap.objs.size) [y] (λz H'=>z=.non/\N σ9 H') I11 rfl (.cons r11 .nil) ⟨_,acc,v,rfl,rfl,hacc,hz,rfl,q11⟩
    rw[eP,eW,eA,eX] at hap
    exact bB hap λ_ s12 ⟨_,H12,I12,_,_,q12⟩=>again I12 q12
 exact codeAny_compStart_list (loop _ rfl) (T.self X.A 0 _ _ _ st4 (loop _ rfl))
def pD (hc:X.calm=true)(S:cL X NB own ixs scope)(hi:PI X tg iter wi)
  (hg:∀C ex s3 H3 pn,PG (hV X NB scope C ex s3 H3 pn) tg g) (ht:∀C ex s3 H3 pn,zE (hV X NB scope C ex s3 H3 pn) ifs tt) (he:∀C ex s3 H3 pn,PE (hV X NB scope C ex s3 H3 pn) elt te)
  (hs:∀x,foldedSetIterable iter X.env x=pure x:=by intro _;rfl) :
  PE X (.ListComp elt [⟨tg,iter,ifs,0⟩] scope pos) (wF own ixs wi g tt te):=by
 intro pins s σ H Q I h
 rw[eval_ListComp]
 refine wpAny_comprehension_free (use:=none) rfl hs (rC λy hy e=>I.ok.has _ (S.frees y hy e)) S.kind (λy hy e=>by rw[S.names y hy,e]) ?_
 refine bB (hi pins s σ H _ I h) λv s1 h1=>bB h1 λitv s2 h2=>?_
 obtain⟨it,fp,tn,J,H2,e,I2,T,st2,f2,q2⟩:=h2
 subst e
 refine wd hc S hg ht he I2 T st2 f2 q2 (RR:=λacc C=>compPost (model X.prog X.w) X.A X.xe none (EP X pins σ Q) acc C) λD C H' s' m J' q hn hC n1 n2 n3 n4=>?_
 refine⟨m,hn,λh'' sb=>⟨.ref D,H',?_,rfl,q⟩⟩
 exact J'.turned (t':=s'.toks) (it:=C) (λb o hb e=>sb.extBut b o hb e) hC n1 (.inr n3) n2 n4
end
section
variable {own:Nat}{ixs:List Nat}{g:TG}{tt:TT}{te:TE}{σ:St}{H:Hp}{Q:VK}{K:Frag}{D a:Addr}{xs:List V}
abbrev cy (g:TG)(tt:TT)(te:TE)(D:Addr)(x:V)(σ:St)(H:Hp)(N:St->Hp->Prop):Prop:=g x σ H λσ3 H3=>tt σ3 H3 λb H4=>
  if b=true then te σ3 H4 λv H5=>∃acc,H5 D=some (.lst acc)/\acc.length < sizeLine/\N σ3 (upd H5 D (.lst (acc ++ [v]))) else N σ3 H4
def v7 (Pv:Nat->St->Hp->Prop)(h0:Pv 0 (o4 own ixs σ) (upd H D (.lst [])))(hl:∀i σ H,i<=xs.length->Pv i σ H->dI K H a xs)
  (hs:∀i x σ H,xs[i]? =some x->Pv i σ H->cy g tt te D x σ H (Pv (i + 1))) (hd:∀σ H,Pv xs.length σ H->(∃acc,H D=some (.lst acc))/\Q (.ref D) H) :
  ∃W:Nat->Nat->St->Hp->Prop,(∃m,W 0 m (o4 own ixs σ) (upd H D (.lst [])))/\∀i m σ' H',W i m σ' H'->
   ((vY K a).stop i H'/\(∃acc,H' D=some (.lst acc))/\Q (.ref D) H')\/
   ((vY K a).go i H'/\∃N:St->Hp->Prop,(∀σ2 H2,N σ2 H2->∃m',m' < m/\W (i + 1) m' σ2 H2)/\∀x H2,(vY K a).yld i H' x H2->cy g tt te D x σ' H2 N):=by
 refine⟨λi m σ H=>m=xs.length - i/\i<=xs.length/\Pv i σ H,⟨xs.length,by simp,Ij _,h0⟩,?_⟩
 rintro i m σ H ⟨rfl,hi,p⟩
 have q:=hl i σ H hi p
 by_cases hlt:i < xs.length
 ·refine .inr ⟨⟨xs,xs[i],q,by simp[hlt]⟩,Pv (i + 1),λσ' H' p'=>⟨xs.length - (i + 1),by omega,rfl,hlt,p'⟩,λx H' y=>?_⟩
  obtain⟨e,y⟩:=y
  subst e
  exact hs i x σ _ (y xs q) p
 ·have e:i=xs.length:=by omega
  subst e
  exact .inl ⟨⟨xs,q,Hv _⟩,hd σ H p⟩
def tf {lo:Int}{n:Nat}(Pv:Nat->St->Hp->Prop)(h0:Pv 0 (o4 own ixs σ) (upd H D (.lst [])))
  (hs:∀i σ H,i < n->Pv i σ H->cy g tt te D (.int (lo + i)) σ H (Pv (i + 1))) (hd:∀σ H,Pv n σ H->(∃acc,H D=some (.lst acc))/\Q (.ref D) H) :
  ∃W:Nat->Nat->St->Hp->Prop,(∃m,W 0 m (o4 own ixs σ) (upd H D (.lst [])))/\∀i m σ' H',W i m σ' H'->
   ((xJ lo n).stop i H'/\(∃acc,H' D=some (.lst acc))/\Q (.ref D) H')\/
   ((xJ lo n).go i H'/\∃N:St->Hp->Prop,(∀σ2 H2,N σ2 H2->∃m',m' < m/\W (i + 1) m' σ2 H2)/\∀x H2,(xJ lo n).yld i H' x H2->cy g tt te D x σ' H2 N):=by
 refine⟨λi m σ H=>m=n - i/\i<=n/\Pv i σ H,⟨n,by simp,Ij _,h0⟩,?_⟩
 rintro i m σ H ⟨rfl,hi,p⟩
 by_cases hlt:i < n
 ·refine .inr ⟨hlt,Pv (i + 1),λσ' H' p'=>⟨n - (i + 1),by omega,rfl,hlt,p'⟩,λx H' y=>?_⟩
  obtain⟨e,y⟩:=y
  subst e y
  exact hs i σ _ hlt p
 ·have e:i=n:=by omega
  subst e
  exact .inl ⟨Hv _,hd σ H p⟩
end
mutual
inductive Rep (K:Frag)(H:Hp):V->PyData->Prop
 |non:Rep K H .non .none
 |bl (b:Bool):Rep K H (.bl b) (.bool b)
 |int (i:Int):Rep K H (.int i) (.int i)
 |str (x:Str):Rep K H (.str x) (.str x)
 |tup {a:Addr} {xs:List V} {ds:List PyData}:eB K H a xs->kn K H xs ds->Rep K H (.ref a) (.tuple ds)
 |lst {a:Addr} {xs:List V} {ds:List PyData}:dI K H a xs->kn K H xs ds->Rep K H (.ref a) (.list ds)
inductive kn (K:Frag)(H:Hp):List V->List PyData->Prop
 |nil:kn K H [] []
 |cons {x:V} {xs:List V} {d:PyData} {ds:List PyData}:Rep K H x d->kn K H xs ds->kn K H (x :: xs) (d :: ds)
end
section
variable {X:Cx}{pins:List (Addr×Obj)}{σ:St}{H H':Hp}{s:Shared}
mutual
theorem Rep.reads (I:Inv X pins σ H s):∀{x:V} {d:PyData} {u:Value},Rep X.K H x d->RelV x u->∃as,Reads s.heap u d as
 |_,_,_,.non,r=>by cases r;exact⟨_,.none⟩
 |_,_,_,.bl b,r=>by cases r;exact⟨_,.bool b⟩
 |_,_,_,.int i,r=>by obtain⟨t,rfl⟩:=r;exact⟨_,.int i t⟩
 |_,_,_,.str x,r=>by obtain⟨t,rfl⟩:=r;exact⟨_,.str x t⟩
 |_,_,_,.tup h hs,r=>by
  cases r
  obtain⟨its,rv,⟨o,ho,hc,n,hd⟩,_⟩:=I.tuple h
  obtain⟨as,q⟩:=kn.reads I hs rv
  exact⟨_,.tuple ho hc hd (by simpa using q)⟩
 |_,_,_,.lst h hs,r=>by
  cases r
  obtain⟨its,rv,pl,_⟩:=I.list h
  obtain⟨o,ho,hc,n,hd⟩:=pl.isList
  obtain⟨as,q⟩:=kn.reads I hs rv
  exact⟨_,.list ho hc hd (by simpa using q)⟩
theorem kn.reads (I:Inv X pins σ H s):∀{xs:List V} {ds:List PyData} {us:List Value},kn X.K H xs ds->Vals xs us->∃as,ReadsAll s.heap us ds as
 |_,_,_,.nil,r=>by cases r;exact⟨_,.nil⟩
 |_,_,_,.cons h hs,r=>by
  cases r with
  |cons r1 r2=>
   obtain⟨as,q⟩:=Rep.reads I h r1
   obtain⟨bs,q'⟩:=kn.reads I hs r2
   exact⟨_,.cons q q'⟩
end
def Dt (K:Frag)(neg:Bool):R2:=λx y H Q=>∃d e,Rep K H x d/\Rep K H y e/\SeqAt.shaped d=true/\SeqAt.shaped e=true/\Q (.bl (if neg then !PyData.eqv d e else PyData.eqv d e)) H
def kI (hu:X.A.units + 64 < cLine):jz X (compareOp .Eq) (Dt X.K false):=by
 intro pins s σ H x y v u Q I rx ry h
 obtain⟨d,e,h1,h2,s1,s2,q⟩:=h
 obtain⟨as,r1⟩:=h1.reads I rx
 obtain⟨bs,r2⟩:=h2.reads I ry
 exact SeqAt.compareEq_shaped r1 r2 s1 s2 hu ⟨.bl _,H,I,rfl,q⟩
def fK (hu:X.A.units + 64 < cLine):jz X (compareOp .NotEq) (Dt X.K true):=by
 intro pins s σ H x y v u Q I rx ry h
 obtain⟨d,e,h1,h2,s1,s2,q⟩:=h
 obtain⟨as,r1⟩:=h1.reads I rx
 obtain⟨bs,r2⟩:=h2.reads I ry
 exact SeqAt.compareNe_shaped r1 r2 s1 s2 hu ⟨.bl _,H,I,rfl,q⟩
inductive zv (K:Frag)(H:Hp):V->String->Prop
 |non:zv K H .non "NoneType"
 |bl (b:Bool):zv K H (.bl b) "bool"
 |int (i:Int):zv K H (.int i) "int"
 |str (x:Str):zv K H (.str x) "str"
 |tup {a:Addr} {xs:List V}:eB K H a xs->zv K H (.ref a) "tuple"
 |lst {a:Addr} {xs:List V}:dI K H a xs->zv K H (.ref a) "list"
 |dic {a:Addr} {kvs:List (Key×V)}:H a=some (.dK kvs)->zv K H (.ref a) "dict"
def Gj (K:Frag):List V->Hp->VK->Prop:=λxs H Q=>∃x T t b,xs= [x,.ty T]/\zv K H x t/\PySem.W.kitOne K (.type t) (.type T)=some b/\Q (.bl b) H
theorem wN:bQ X (.builtin "isinstance") (Gj X.K):=by
 intro pins s σ H xs us Q I r h
 obtain⟨x,T,t,b,rfl,ty,e,q⟩:=h
 obtain⟨u,c,rfl,rx,rc⟩:=vals2 r
 cases rc
 have fin:∀tk,EP X pins σ Q (.bool b) {s with toks:=tk}:=λtk=>⟨.bl b,H,I.tok tk,rfl,q⟩
 cases ty with
 |non=>exact fg I rx .non e fin
 |bl b=>exact fg I rx (.bl b) e fin
 |int i=>exact fg I rx (.int i) e fin
 |str z=>exact fg I rx (.str z) e fin
 |dic hk=>exact fg I rx (.dK hk) e fin
 |tup hq=>
  cases rx
  obtain⟨its,rv,⟨o,h1,h2,_⟩,_⟩:=I.tuple hq
  exact ID PySem.W.kitx_tuple I.kIn ⟨o,h1,h2⟩ e (λz=>nomatch z) fin
 |lst hq=>
  cases rx
  obtain⟨its,rv,pl,_⟩:=I.list hq
  obtain⟨o,h1,h2,_⟩:=pl.isList
  exact ID PySem.W.kitx_list I.kIn ⟨o,h1,h2⟩ e (λz=>nomatch z) fin
def qW {A:Around}{its:List Value}{bs:List Bool}(hv:Vals (bs.map V.bl) its):TruthOf X.prog X.w A (λi v=>its[i]? =some v) (λi=>bs.getD i false):=λi v s Q E hi hq=>by
 have hl:=hv.length
 have hi2:i < bs.length:=by
  have:=(HE.mp hi).1
  rw[<-hl] at this;simpa using this
 obtain⟨u,eu,ru⟩:=hv.get (i:=i) (x:=.bl bs[i]) (by simp[hi2])
 rw[hi] at eu;cases eu
 cases ru
 refine Ji ?_
 have:bs.getD i false=bs[i]:=by simp[hi2]
 rw[<-this];exact hq
theorem range_all (bs:List Bool):(List.range bs.length).all (λi=>bs.getD i false)=bs.all id:=by
 induction bs with
 |nil=>rfl
 |cons b bs ih=>
  rw[HQ,List.range_succ_eq_map,all_cons,List.all_map,all_cons,<-ih]
  rfl
theorem range_any (bs:List Bool):(List.range bs.length).any (λi=>bs.getD i false)=bs.any id:=by
 induction bs with
 |nil=>rfl
 |cons b bs ih=>
  rw[HQ,List.range_succ_eq_map,any_cons,List.any_map,any_cons,<-ih]
  rfl
def rZ (K:Frag)(f:List Bool->Bool):List V->Hp->VK->Prop:=λxs H Q=>∃a bs,xs= [.ref a]/\dI K H a (bs.map V.bl)/\Q (.bl (f bs)) H
def km (hc:X.calm=true){a:Addr}{bs:List Bool}{Q:VK}(I:Inv X pins σ H s)(hq:dI X.K H a (bs.map V.bl)){f:List Bool->Bool}{g:(Nat->Bool)->Nat->Bool}(hfg:g (λi=>bs.getD i false) bs.length=f bs)(q:Q (.bl (f bs)) H) :
  wpAny (model X.prog X.w) X.A.in1 (pyIter (.ref a)) (λit s2=>∃Ii fp wr n P St tr,it=.ref Ii/\Walks X.prog X.w X.A.in1 Ii fp wr n P St/\St 0 s2.heap/\TruthOf X.prog X.w X.A.in1 P tr/\
   ∀h' tk,(∀b o,b∉wr->s2.heap.get? b=some o->h'.get? b=some o)->EP X pins σ Q (.bool (g tr n)) {s2 with heap:=h',toks:=tk}) X.xe s:=by
 obtain⟨its,rv,pl,hz⟩:=I.list hq
 have hh:X.A.in1.handled=none:=I.ok.hd hc
 have hlen:its.length=bs.length:=by rw[<-rv.length];simp
 obtain⟨o,ho,_⟩:=id pl.isList
 refine J4 pl.isList ?_
 have W:=Walks.list (prog:=X.prog) (w:=X.w) hh s.heap.objs.size a (Ih (HF ho)) its.toArray
 refine⟨s.heap.objs.size,_,_,_,_,_,λi=>bs.getD i false,rfl,W,⟨⟨_,HR _ rfl,rfl,rfl⟩,pl.isList.push _⟩,?_,λh' tk k=>?_⟩
 ·have:=qW (X:=X) (A:=X.A.in1) rv
  simpa using this
 ·have e:its.toArray.size=bs.length:=by simpa using hlen
  rw[e,hfg]
  have I1:Inv X pins σ H {s with heap:=s.heap.push {cls:=.type "list_iterator",data:=.fields #[.ref a,.int 0 0]}}:=I.kept (t':=s.toks) λb o e=>Hx _ e
  have hf:H s.heap.objs.size=none:=I.hok.fresh (Hv _)
  have fp:=I.fpOk (H':=H) (b:=s.heap.objs.size) (Hv _) hf
  refine⟨.bl _,H,I1.turned (it:=s.heap.objs.size) (t':=tk) (λb o hb e=>k b o (by simpa using hb) e) hf fp.2.1 fp.2.2.2.1 fp.2.2.2.2.1 fp.2.2.2.2.2,rfl,q⟩
def yW (hc:X.calm=true):bQ X (.builtin "all") (rZ X.K λbs=>bs.all id):=by
 intro pins s σ H xs us Q I r h
 obtain⟨a,bs,rfl,hq,q⟩:=h
 obtain⟨u,rfl,rx⟩:=vals1 r
 cases rx
 exact call_all_walk (km hc I hq (f:=λbs=>bs.all id) (g:=λtr n=>(List.range n).all tr) (range_all bs) q)
def yI (hc:X.calm=true):bQ X (.builtin "any") (rZ X.K λbs=>bs.any id):=by
 intro pins s σ H xs us Q I r h
 obtain⟨a,bs,rfl,hq,q⟩:=h
 obtain⟨u,rfl,rx⟩:=vals1 r
 cases rx
 exact call_any_walk (km hc I hq (f:=λbs=>bs.any id) (g:=λtr n=>(List.range n).any tr) (range_any bs) q)
def xh:bQ X (.type "range") (λxs H Q=>∃n:Int,xs= [.int n]/\∀p,H p=none->Q (.ref p) (upd H p (.lX 0 n))):=by
 intro pins s σ H xs us Q I r h
 obtain⟨n,rfl,q⟩:=h
 obtain⟨u,rfl,rx⟩:=vals1 r
 obtain⟨t,rfl⟩:=rx
 refine call_range_1 ⟨.ref s.heap.objs.size,upd H s.heap.objs.size (.lX 0 n),?_,rfl,q _ (I.hok.fresh (Hv _))⟩
 exact I.laid (λb o e=>Hx _ e) (Hv _) ⟨_,_,_,HR _ rfl⟩
def mi (hc:X.calm=true):bQ X (.type "list") (λxs H Q=>∃p n,xs= [.ref p]/\H p=some (.lX 0 n)/\0<=n/\n<=1000/\∀l,H l=none->Q (.ref l) (upd H l (.lst ((List.range n.toNat).map λ(i:Nat)=>V.int (i:Int))))):=by
 intro pins s σ H xs us Q I r h
 obtain⟨p,n,rfl,hp,h0,h1,q⟩:=h
 obtain⟨u,rfl,rx⟩:=vals1 r
 cases rx
 obtain⟨t,u,v,hr⟩:∃t u v,s.heap.get? p=some {cls:=.type "range",data:=.fields #[.int 0 t,.int n u,.int 1 v]}:=I.hok p _ hp
 have hsz:Builtin.Range.rangeSize 0 n 1=(n.toNat:Int):=by rw[rangeSize_one];split <;> omega
 refine call_list_range (I.ok.hd hc) hr (small_one (by omega) (by omega) (by omega) (by omega)) hsz (by omega) λh' tk acc c k hS hacc=>?_
 have hv:Vals ((List.range n.toNat).map λ(i:Nat)=>V.int (i:Int)) acc.toList:=by
  have key:∀(m:Nat) (us:List Value) (j:Nat),us.length=m->(∀(i:Nat) (v:Value),us[i]? =some v->∃t,v=Value.int ((j + i:Nat):Int) t)->Vals ((List.range' j m).map λ(i:Nat)=>V.int (i:Int)) us:=by
   intro m
   induction m with
   |zero=>intro us j hl _;cases us with
    |nil=>exact .nil
    |cons a b=>simp at hl
   |succ m ih=>
    intro us j hl hh
    cases us with
    |nil=>simp at hl
    |cons u us=>
     rw[List.range'_succ,IQ]
     refine .cons (by have:=hh 0 u rfl;simp at this;exact this) (ih us (j + 1) (by simpa using hl) λi v hi=>?_)
     obtain⟨t,e⟩:=hh (i + 1) v (by simpa using hi)
     exact⟨t,by rw[e];congr 2;omega⟩
  have:=key n.toNat acc.toList 0 (by simpa using hacc.1) λi v hi=>by
   obtain⟨t,e⟩:=hacc.2 i v (by simpa using hi)
   exact⟨t,by rw[e];simp⟩
  rw[List.range_eq_range'];exact this
 refine⟨.ref s.heap.objs.size,_,I.laid (t':=tk) k (Hv _) (show aU X.prog X.w _ h' _ (.lst _) from⟨by simp;rw[Ik];omega,acc.toList,c,hv,by simpa using hS⟩),rfl,q _ (I.hok.fresh (Hv _))⟩
end
structure jL (k:Nat)(A:Around):Prop where
 dp:A.depth + 3 * k + 5 < recursionLimit
 un:A.units + 16 * k + 200 < cLine
 gd:A.guards=some []
def cA.mark {k:Nat}{A:Around}(r:cA k A)(v:Option Value):jL k (A.mark v):=⟨r.dp,r.un,r.gd⟩
def jL.deeper {k:Nat}{A:Around}(r:jL (k + 1) A)(env:Env):jL k (A.deeper env):=
 ⟨by have:=r.dp;show A.depth + 1 + 3 * k + 5 < _;omega,by have:=r.un;show A.units + 3 + 16 * k + 200 < _;omega,r.gd⟩
structure nt (P:Program)(w:World)(K:Frag)(mg:Str->Option Value)(base:Heap)(CX:pH)(k:Nat)(f:Addr)(fd:FuncData)(ps:List Str)(sp:Sp):Prop where
 len:∀vs H Q E,sp vs H Q E->vs.length=ps.length
 run:∀(A:Around) (outer:List Env) (s:Shared) (H:Hp) (args:Args) (us:List Value) (vs:List V) (Q:VK) (E:XK),jL k A->rF P w K mg base A outer s H->BindsTo s fd args (ps.zip us)->Vals vs us->sp vs H Q E->
  codeAny (model P w) A (.call (.ref f) args) (CR CX outer P w H s Q E) s
abbrev uk (CX:pH)(P:Program)(w:World)(K:Frag)(mg:Str->Option Value)(base:Heap)(N:List Str)(qual:Str)(scope:Scope)(f:Addr)(cd:Value)(A:Around)(outer:List Env)(s:Shared)(H:Hp)(E:XK):Cx:=
 {gC CX P w K mg base N qual scope f cd A outer s H E with calm:=false}
def td {CX:pH}{P:Program}{w:World}{K:Frag}{mg:Str->Option Value}{base:Heap}{N ps:List Str}{qual:Str}{scope:Scope}{f:Addr}{cd:Value}{A:Around}{outer:List Env}{s s1:Shared}{H:Hp}{E:XK}{us:List Value}{vs:List V}
  (S:aI N ps scope) (e0:rF P w K mg base A outer s H) (hl:vs.length=ps.length) (r:Vals vs us)
  (x:InCallC s s.heap.objs.size (bindL (envOfC qual scope s.heap.objs.size f cd).kindOf (ps.zip us) λ_=>none) (cellsFrom (s.heap.objs.size + 1) scope.names []) (bindC (envOfC qual scope s.heap.objs.size f cd).kindOf (ps.zip us) λ_=>none) s1) :
  Inv (uk CX P w K mg base N qual scope f cd A outer s H E) [] (start N vs) H s1:=by
 have e1:rF P w K mg base {A with handled:=none} outer s H:=⟨e0.frames,e0.mod,e0.bs,e0.bsz,e0.funs,e0.frf,e0.hok,e0.bare⟩
 have I:=mr (CX:=CX) (E:=E) (A:={A with handled:=none}) S rfl e1 hl r x
 exact⟨⟨I.ok.mod,I.ok.kind,I.ok.glob,I.ok.blt,I.ok.above,I.ok.inj,I.ok.has,I.ok.cab,λz=>absurd z HU,Around.frames_deeper e0.frames,I.ok.stk,I.ok.exf,I.ok.bs,I.ok.bsz,I.ok.noex,I.ok.exfs,I.ok.funs,I.ok.frf⟩,I.os,I.bare,I.base,I.loc,I.cell,I.free,I.freeC,I.pin,I.hok,I.len⟩
section
variable {P:Program}{w:World}{K:Frag}{mg:Str->Option Value}{base:Heap}
theorem wC.okH {x qual:Str}{st:Stmt}{f:Addr}{fd:FuncData}{N ps:List Str}{k:Nat}{sp:Sp}(F:wC K x qual st f fd)(S:aI N ps (aq st))(len:∀vs H Q E,sp vs H Q E->vs.length=ps.length)
  (hbody:∀(cdv:Value) (A:Around) (outer:List Env) (s:Shared) (H:Hp) (vs:List V) (Q:VK) (E:XK),jL k (A.deeper (envOfC qual (aq st) s.heap.objs.size f cdv))->sp vs H Q E->
   ∃t,jU (uk rQ P w K mg base N qual (aq st) f cdv A outer s H E).nox (aY st) t/\t {nx:=λ_ H'=>Q .non H',rt:=Q} (start N vs) H):nt P w K mg base rQ (k + 1) f fd ps sp:=by
 obtain⟨oc,od,kV,doc,pm,an,cdv,ct,osl,rfl,lk,hcd⟩:=F.ex
 refine⟨len,λA outer s H args us vs Q E hr e0 hb r hsp=>?_⟩
 have hl:=len _ _ _ _ hsp
 have KX:K.In s.heap:=e0.mod.kin.keeps λb o e=>(e0.bs b o e).1
 have lim:s.heap.NoLimit:=e0.mod.nolimit.keeps λb o e=>(e0.bs b o e).1
 have hkind:∀y∈ps.zip us,(aq st).names.lookup y.1=some .local\/((aq st).names.lookup y.1=some .cell/\((cellsFrom (s.heap.objs.size + 1) (aq st).names []).lookup y.1).isSome=true):=λ⟨n,v⟩ hy=>by
  rcases S.par n (of_mem_zip hy).1 with q |q
  ·exact .inl q
  ·exact .inr ⟨q,J1 _ _ _ (.inl q)⟩
 have hdep:A.depth < recursionLimit:=by have:=hr.dp;omega
 refine codeAny_call_function hdep (KX _ _ lk) rfl S.co S.gen rfl (PySem.W.codeRec_of KX hcd) (hb _ _ _ _ ?_)
 refine wpAny_newFunctionEnv_cells S.kind hkind λenv he s1 x=>?_
 subst he
 refine⟨lim.keeps x.toInCall.keep,codeAny_func ?_⟩
 obtain⟨t,ht,hq⟩:=hbody cdv A outer s H vs Q E (hr.deeper _) hsp
 have I:Inv (uk rQ P w K mg base N qual (aq st) f cdv A outer s H E) [] (start N vs) H s1:=td S e0 hl r x
 refine IT (ht.nox [] s1 (start N vs) H _ I hq) (λfl s' hs=>?_) λe s' hs=>hs
 have fin:∀{σ':St} {H':Hp} {v:V} {u:Value},Inv (uk rQ P w K mg base N qual (aq st) f cdv A outer s H E) [] σ' H' s'->RelV v u->Q v H'->CE outer P w H s Q u s':=
  λ{σ' H' v u} J rv q=>⟨v,H',J.os,J.bare,J.base,J.hok,rv,q⟩
 cases fl with
 |ret u=>
  obtain⟨v,σ',H',J,rv,q⟩:=hs
  exact fin J rv q
 |next=>
  obtain⟨σ',H',J,q⟩:=hs
  exact fin (v:=V.non) (u:=Value.none) J rfl q
 |brk=>
  obtain⟨_,_,_,q⟩:=hs
  exact False.elim q
 |cont=>
  obtain⟨_,_,_,q⟩:=hs
  exact False.elim q
def wC.BD {x qual:Str}{st:Stmt}{f:Addr}{fd:FuncData}{N ps:List Str}{k:Nat}{sp:Sp}(F:wC K x qual st f fd)(S:aI N ps (aq st))(len:∀vs H Q E,sp vs H Q E->vs.length=ps.length)
  (hbody:∀(cdv:Value) (A:Around) (outer:List Env) (s:Shared) (H:Hp) (vs:List V) (Q:VK) (E:XK),cA k (A.deeper (envOfC qual (aq st) s.heap.objs.size f cdv))->sp vs H Q E->
   ∃t,jU (gC (i7 P w) P w K mg base N qual (aq st) f cdv A outer s H E) (aY st) t/\t {nx:=λ_ H'=>Q .non H',rt:=Q} (start N vs) H):cP P w K mg base (i7 P w) (k + 1) f fd ps sp:=by
 obtain⟨oc,od,kV,doc,pm,an,cdv,ct,osl,rfl,lk,hcd⟩:=F.ex
 exact Bo lk hcd S len λA outer s H vs Q E hr hsp=>hbody cdv A outer s H vs Q E hr hsp
end
section
variable {X:Cx}{CX:pH}{k:Nat}{f:Addr}{fd:FuncData}{ps:List Str}{sp:Sp}{dvs:List V}{ds:List Value}{E:XK}{x:Str}{p pos:Pos}{e:Expr}{es:List Expr}{t:TA}
theorem zf (F:nt X.prog X.w X.K X.mg X.base CX k f fd ps sp)(hr:jL k X.A)(hg:Gl X x)(hm:X.mg x=some (.ref f))(hk:PySem.W.keepIn X.K (.ref f)=true)(hb:Binds X.K fd ps ds)(hd:Vals dvs ds)(hx:Passes CX X E)
  (ha:PA X (e :: es) t) (hdb:(x == ("__debug__":Str))=false:=by decide) (he:starEach (e :: es) X.env=(false,eval e X.env) :: starEach es X.env:=by rfl) (hpl:(backTo pos (starEach es X.env)).any (·.1)=false:=by rfl) :
  PE X (.Call (.Name x p) (e :: es) [] pos) (BJ sp dvs E t):=by
 intro pins s σ H Q I h
 refine Kn (jg I hg hm ?_ hdb)
 refine PySem.W.callWith_K (h₀:=X.base) I.ok.mod.kin hk (bB (ha pos pins s σ H _ I h) λus s1 ⟨vs,H1,I1,r,q⟩=>⟨I1.kIn,?_⟩) he hpl
 have r2:Vals (vs ++ dvs) (us ++ ds):=r.append hd
 have hl:(us ++ ds).length=ps.length:=by rw[<-r2.length];exact F.len _ _ _ _ q
 refine wpAny_call (J9 (F.run X.A X.stack s1 H1 ⟨us,[]⟩ (us ++ ds) (vs ++ dvs) Q E hr I1.env0 (hb s1 us I1.kIn hl) r2 q) λr s' hq=>?_)
 cases r with
 |error e=>exact hx pins σ H1 s1 e s' I1 hq
 |ok fl=>
  cases fl with
  |ret u=>exact I1.after hq
  |next=>exact False.elim hq
  |brk=>exact False.elim hq
  |cont=>exact False.elim hq
end
section
variable {prog:Program}{w:World}{A:Around}{E:Value->Shared->Prop}{s:Shared}{K:Frag}{x D:Addr}{ox:Obj}
structure pL (K:Frag)(D:Addr):Prop where
 cl:(PySem.W.clsIn K D).isSome=true
 ga:PySem.W.findIn K (.ref D) "__getattribute__"=some (some (.builtin "BaseException.__getattribute__"))
 gn:PySem.W.findIn K (.ref D) "__getattr__"=some none
 cls:PySem.W.findIn K (.ref D) "__class__"=some (some (.builtin "object.__class__"))
 get:PySem.W.specialIn K (.builtin "object.__class__") "__get__"=some (some (.builtin "getset_descriptor.__get__"))
 tk:PySem.W.takesIn K (.builtin "object.__class__")=some true
 ob:PySem.W.mroIn K D (.type "object")=some true
 be:PySem.W.mroIn K D (.type "BaseException")=some true
def wO (e:pL K D):PySem.W.findObj K D none "__class__"=some (.bind (.builtin "getset_descriptor.__get__") (.builtin "object.__class__")):=by
 obtain⟨cd,hc⟩:=Ju.mp e.cl
 unfold PySem.W.findObj
 rw[hc,Option.bind_some,e.cls,Option.bind_some]
 simp[e.get,e.tk]
def vB {M:Model}{nameV:Value}{Q:Unit->Shared->Prop}(e:pL K D)(X:K.In s.heap)(I:PySem.W.InstAt s.heap x ox D none)(hq:Q () s):wpAny M A (checkBuiltinCall "BaseException.__getattribute__" ⟨[.ref x,nameV],[]⟩) Q E s:=by
 have hk:builtinKind "BaseException.__getattribute__"=some .slot:=by decide +kernel
 have hsp:splitId "BaseException.__getattribute__"=some ("BaseException","__getattribute__"):=by decide +kernel
 have ha:=F.args_bexc_ga (.ref x) nameV
 have L0:=I.type (M:=M)
 have L1:=PySem.W.looks_mroIn (M:=M) X e.be
 simp only[checkBuiltinCall,hk,hsp]
 obtain⟨hh,g,d,t,os⟩:=s
 refine Hr ?_
 unfold isInstance
 repeat (first
  |with_reducible refine L0.at ?_
  |with_reducible refine L1.at ?_
  |wp_step)
 exact hq
def zC {tk:Tok}{Q:Fin->Shared->Prop}(e:pL K D)(X:K.In s.heap)(I:PySem.W.InstAt s.heap x ox D none)(hq:Q (.done (.ret (.ref D))) s):wpAny (model prog w) A (Builtin.«object.__getattribute__» ⟨[.ref x,.str "__class__" tk],[]⟩) Q E s:=by
 have L0:=I.type (M:=model prog w)
 have L1:=PySem.W.looks_find (M:=model prog w) X I (wO e)
 obtain⟨hh,g,d,t,os⟩:=s
 repeat (any_goals (first
  |assumption
  |with_reducible refine L0.at ?_
  |with_reducible refine L1.at ?_
  |wp_step))
 exact PySem.W.class_get X I e.ob (Hy hq)
def DC {tk:Tok}{Q:Value->Shared->Prop}(FB:ExcAttrFacts "ValueError")(e:pL K D)(X:K.In s.heap)(I:PySem.W.InstAt s.heap x ox D none)(hq:Q (.ref D) s):wpAny (model prog w) A (getAttrBy (.ref x) (.str "__class__" tk) false) Q E s:=by
 have f3:=FB.ga.bind (.ref x)
 have hx2:(Value.builtin "BaseException.__getattribute__" == Value.builtin "object.__getattribute__")=false:=by decide +kernel
 have hx1:(onTheHeap (Value.ref D) && Value.builtin "BaseException.__getattribute__" == Value.builtin "object.__getattribute__")=false:=by rw[hx2];rfl
 have L0:=I.type (M:=model prog w)
 have L1:=PySem.W.looks_findIn (M:=model prog w) X e.ga
 have L2:=PySem.W.looks_findIn (M:=model prog w) X e.gn
 obtain⟨hh,g,d,t,os⟩:=s
 repeat (any_goals (first
  |assumption
  |with_reducible refine L0.at ?_
  |with_reducible refine L1.at ?_
  |with_reducible refine L2.at ?_
  |wp_step))
 exact codeAny_call_builtin FB.ga.plain F.entry_bexc_ga (vB e X I (zC e X I (PySem.W.handed_on rfl hq)))
def xE {Q:Option Value->Shared->Prop}(FB:ExcAttrFacts "ValueError")(e:pL K D)(X:K.In s.heap)(I:PySem.W.InstAt s.heap x ox D none)(hq:Q (some (.ref D)) {s with toks:=s.toks + 1}):wpAny (model prog w) A (getAttr? (.ref x) "__class__") Q E s:=by
 unfold getAttr? getAttrBy?
 exact Hr (wpAny_mkText (Hr (wpAny_attempt (DC FB e X I (Hy hq)))))
def fm.inst {h:Heap}(i:fm x (.ref D) h):∃ox,PySem.W.InstAt h x ox D none:=by
 obtain⟨o,vs,a,b,c,d,_⟩:=i
 exact⟨o,a,b,by unfold PySem.W.notCls;rw[d],by rw[c];trivial⟩
def xP (e:pL K D):PySem.W.KitX K (.ref x) (.ref D) (fm x (.ref D)) where
 ty:=λ_ _ _ i=>let ⟨_,I⟩:=i.inst;I.type
 it:=λ_ _ X _=>by
  obtain⟨cdD,hcD⟩:=Ju.mp e.cl
  unfold PySem.W.clsIn at hcD
  split at hcD
  ·rename_i c' d' cd' sl' ho
   intro A' Q' E' s' k q
   unfold isType loadHead
   exact Hr (wpAny_loadPart (k _ _ (X _ _ ho)) (Hy q))
  ·cases hcD
 ne:=λh tp dd its n sl X htp=>by
  obtain⟨cdD,hcD⟩:=Ju.mp e.cl
  refine Bool.eq_false_iff.mpr λq=>?_
  have e:D=tp:=Value.ref.inj (beq_iff_eq.mp q)
  subst e
  unfold PySem.W.clsIn at hcD
  split at hcD
  ·rename_i c' d' cd' sl' ho
   have z:=(X _ _ ho).symm.trans htp
   cases z
  ·cases hcD
 ca:=λX i k=>let ⟨_,I⟩:=i.inst;xE F.excAttr_ValueError e X I k
end
end L2
namespace L2
open PySem PySem.SeqAt PySem.Spec PyProof.Rows
section
variable {X:Cx}
def Eg (K:Frag):List V->Hp->VK->Prop:=λxs H Q=>∃(x D:Addr) (c:V) (C:Value) (b:Bool),xs= [.ref x,c]/\(∀u,RelV c u->u=C)/\H x=some (.ext (fm x (.ref D)))/\pL K D/\PySem.W.kitOne K (.ref D) C=some b/\Q (.bl b) H
def aP:bQ X (.builtin "isinstance") (Eg X.K):=by
 intro pins s σ H xs us Q I r h
 obtain⟨x,D,c,C,b,rfl,hc,hx,e,k,q⟩:=h
 obtain⟨u,v,rfl,rx,rc⟩:=vals2 r
 cases rx
 rw[hc v rc]
 obtain⟨p,_,_⟩:=(show aU X.prog X.w H s.heap x (.ext (fm x (.ref D))) from I.hok x _ hx)
 exact ID (xP e) I.kIn p k (λz=>nomatch z) λtk=>⟨.bl b,H,I.tok tk,rfl,q⟩
theorem ip:∀{bs:List Bool} {us:List Value},Vals (bs.map V.bl) us->us=bs.map Value.bool
 | [],_,.nil=>rfl
 |b :: bs,_,.cons r rs=>by rw[ip rs];cases r;rfl
def pO {bs:List Bool}(k:Bool)(A:Around)(s:Shared)(y:Value)(hy:y∈bs.map Value.bool):EqAt A s y (.bool k) (isBoolOf k y):=by
 obtain⟨b,_,rfl⟩:=HK.mp hy
 exact EqAt.bool_bool b k
theorem nN (k:Bool)(bs:List Bool):(bs.map Value.bool).countP (isBoolOf k)=bs.count k:=by
 induction bs with
 |nil=>rfl
 |cons b bs ih=>rw[IQ,List.countP_cons,List.count_cons,ih];cases b <;> cases k <;> rfl
def AU (K:Frag):V->List V->Hp->VK->Prop:=λx vs H Q=>∃(a:Addr) (bs:List Bool) (k:Bool),x=.ref a/\vs= [.bl k]/\dI K H a (bs.map V.bl)/\Q (.int (bs.count k:Nat)) H
def vt:ED X "list.count" (AU X.K):=by
 intro pins s σ H x vs v us Q I rx rv h
 obtain⟨a,bs,k,rfl,rfl,hq,q⟩:=h
 cases rx
 obtain⟨u,rfl,ru⟩:=vals1 rv
 cases ru
 obtain⟨its,rs,pl,hz⟩:=I.list hq
 have hits:=ip rs
 subst hits
 obtain⟨⟨cls,dd,data,sl⟩,ho,hc,n,hd⟩:=id pl.isList
 simp only at hc hd
 subst hc hd
 refine Kr PySem.F.slot_list_count ⟨_,ho,rfl⟩ PySem.F.entry_list_count (PySem.F.args_list_count_2 _ _) (list_countAt a (bs.map Value.bool).toArray n dd sl (.bool k) (isBoolOf k)) ⟨ho,λy hy=>pO k _ _ y (by simpa using hy),?_⟩
 rw[show (bs.map Value.bool).toArray.toList=bs.map Value.bool from rfl,nN]
 exact⟨.int (bs.count k:Nat),H,I.tok _,⟨_,rfl⟩,q⟩
def zD (K:Frag):V->List V->Hp->VK->Prop:=λx vs H Q=>∃(a:Addr) (bs:List Bool) (k:Bool),x=.ref a/\vs= [.bl k]/\dI K H a (bs.map V.bl)/\k∈bs/\Q (.int (bs.idxOf k:Nat)) H
def vW:ED X "list.index" (zD X.K):=by
 intro pins s σ H x vs v us Q I rx rv h
 obtain⟨a,bs,k,rfl,rfl,hq,hk,q⟩:=h
 cases rx
 obtain⟨u,rfl,ru⟩:=vals1 rv
 cases ru
 obtain⟨its,rs,pl,hz⟩:=I.list hq
 have hits:=ip rs
 subst hits
 obtain⟨⟨cls,dd,data,sl⟩,ho,hc,n,hd⟩:=id pl.isList
 simp only at hc hd
 subst hc hd
 have hj:bs.idxOf k < bs.length:=List.idxOf_lt_length_iff.mpr hk
 have hsz:(sizeLine:Int) < 2 ^ 63 - 1:=by decide +kernel
 rw[HS] at hz
 refine Kr PySem.F.slot_list_index ⟨_,ho,rfl⟩ PySem.F.entry_list_index (PySem.F.args_list_index_2 _ _)
  (list_indexAt a (bs.map Value.bool).toArray n dd sl (.bool k) (isBoolOf k) (bs.idxOf k) (by simpa using hj) (by omega) ?_ ?_) ⟨ho,λy hy=>pO k _ _ y (by simpa using hy),?_⟩
 ·simp[isBoolOf,List.getElem_idxOf hj]
 ·intro m hm hlt
  have hm':m < bs.length:=by simpa using hm
  have hne:bs[m]≠k:=λz=>by
   have:=List.not_of_lt_findIdx (p:=(· == k)) hlt
   simp[z] at this
  simpa[isBoolOf] using hne
 ·exact⟨.int (bs.idxOf k:Nat),H,I.tok _,⟨_,rfl⟩,q⟩
end
end L2
namespace L2
open PySem PySem.Spec PyProof.Rows
abbrev D:=PyData
def kD:Key->D
 | .inl i=>.int i
 | .inr x=>.str x
mutual
inductive Rp (K:Frag)(G:Hp):V->D->Prop
 |non:Rp K G .non .none
 |bl (b:Bool):Rp K G (.bl b) (.bool b)
 |int (i:Int):Rp K G (.int i) (.int i)
 |str (x:Str):Rp K G (.str x) (.str x)
 |tup {a:Addr} {xs:List V} {ds:List D}:eB K G a xs->bw K G xs ds->Rp K G (.ref a) (.tuple ds)
 |lst {a:Addr} {xs:List V} {ds:List D}:G a=some (.lst xs)->bw K G xs ds->Rp K G (.ref a) (.list ds)
 |scr {a:Addr} {ns:List Int}:dI K G a (ns.map V.int)->Rp K G (.ref a) (.dict [(.none,.list (ns.map int))])
 |dK {a:Addr} {kvs:List (Key×V)} {ds:List (D×D)}:G a=some (.dK kvs)->rz K G kvs ds->Rp K G (.ref a) (.dict ds)
 |dT {a:Addr} {kvs:List (List Key×V)} {ep:Nat} {ds:List (D×D)}:G a=some (.dT kvs ep)->wu K G kvs ds->Rp K G (.ref a) (.dict ds)
inductive bw (K:Frag)(G:Hp):List V->List D->Prop
 |nil:bw K G [] []
 |cons {x:V} {xs:List V} {d:D} {ds:List D}:Rp K G x d->bw K G xs ds->bw K G (x :: xs) (d :: ds)
inductive rz (K:Frag)(G:Hp):List (Key×V)->List (D×D)->Prop
 |one {k:Key} {x:V} {d:D}:Rp K G x d->rz K G [(k,x)] [(kD k,d)]
 |cons {k:Key} {x:V} {xs:List (Key×V)} {d:D} {ds:List (D×D)}:Rp K G x d->rz K G xs ds->rz K G ((k,x) :: xs) ((kD k,d) :: ds)
inductive wu (K:Frag)(G:Hp):List (List Key×V)->List (D×D)->Prop
 |nil:wu K G [] []
 |cons {k:List Key} {x:V} {xs:List (List Key×V)} {d:D} {ds:List (D×D)}:Rp K G x d->wu K G xs ds->wu K G ((k,x) :: xs) ((.tuple (k.map kD),d) :: ds)
end
section
variable {K:Frag}{G G' H H':Hp}
def E8 {b:Addr}{o:HO}(h:Kt H b o)(hu:∀ps,o≠.tbl ps):H b=some o:=by
 obtain⟨u,e,k,_⟩:=h.some
 rw[e,k hu]
theorem gE {a b:Addr}{o u:HO}(h:Kt H b u)(hb:b≠a)(ha:∀x y,H a≠some (.aJ x y)):Kt (upd H a o) b u:=by
 cases u with
 |tbl ps=>
  obtain⟨m,e,t,k⟩:=h
  refine⟨m,by rw[ao hb];exact e,t,λc hc=>?_⟩
  obtain⟨x,ex,ix⟩:=k c hc
  exact⟨x,by rw[ao (λz=>ha x _ (z▸ex))];exact ex,ix⟩
 |_=>exact (ao hb).trans h
def Rd.mono {a:Addr}{u:HO}(h:Rd G a u)(s:af G G')(hu:∀ps,u≠.tbl ps:=by intro _ z;cases z):Rd G' a u:=h.elim (λe=>.inl (E8 (s _ _ e) hu)) λ⟨o,e⟩=>.inr ⟨o,s _ _ e⟩
mutual
theorem Rp.mono (s:af G G'):∀{x:V} {d:D},Rp K G x d->Rp K G' x d
 |_,_,.non=>.non
 |_,_,.bl b=>.bl b
 |_,_,.int i=>.int i
 |_,_,.str x=>.str x
 |_,_,.tup h hs=>.tup (h.grow s.grow) (bw.mono s hs)
 |_,_,.lst h hs=>.lst (s _ _ h) (bw.mono s hs)
 |_,_,.scr h=>.scr (s.seq h)
 |_,_,.dK h hs=>.dK (s _ _ h) (rz.mono s hs)
 |_,_,.dT h hs=>.dT (s _ _ h) (wu.mono s hs)
theorem bw.mono (s:af G G'):∀{xs:List V} {ds:List D},bw K G xs ds->bw K G' xs ds
 |_,_,.nil=>.nil
 |_,_,.cons h hs=>.cons (Rp.mono s h) (bw.mono s hs)
theorem rz.mono (s:af G G'):∀{xs:List (Key×V)} {ds:List (D×D)},rz K G xs ds->rz K G' xs ds
 |_,_,.one h=>.one (Rp.mono s h)
 |_,_,.cons h hs=>.cons (Rp.mono s h) (rz.mono s hs)
theorem wu.mono (s:af G G'):∀{xs:List (List Key×V)} {ds:List (D×D)},wu K G xs ds->wu K G' xs ds
 |_,_,.nil=>.nil
 |_,_,.cons h hs=>.cons (Rp.mono s h) (wu.mono s hs)
end
theorem bw.len:∀{xs:List V} {ds:List D},bw K G xs ds->xs.length=ds.length
 |_,_,.nil=>rfl
 |_,_,.cons _ t=>by simp[bw.len t]
theorem bw.at:∀{xs:List V} {ds:List D} {i:Nat} {d:D},bw K G xs ds->ds[i]? =some d->∃x,xs[i]? =some x/\Rp K G x d
 |_,_,_,_,.nil,e=>by simp at e
 |_,_,0,_,.cons r _,e=>by simp at e;subst e;exact⟨_,rfl,r⟩
 |_,_,i + 1,x,.cons _ t,e=>by
  obtain⟨u,h1,h2⟩:=bw.at (i:=i) (d:=x) t (by simpa using e)
  exact⟨u,by simpa using h1,h2⟩
theorem bw.at':∀{xs:List V} {ds:List D} {i:Nat} {x:V},bw K G xs ds->xs[i]? =some x->∃d,ds[i]? =some d/\Rp K G x d
 |_,_,_,_,.nil,e=>by simp at e
 |_,_,0,_,.cons r _,e=>by simp at e;subst e;exact⟨_,rfl,r⟩
 |_,_,i + 1,x,.cons _ t,e=>by
  obtain⟨u,h1,h2⟩:=bw.at' (i:=i) (x:=x) t (by simpa using e)
  exact⟨u,by simpa using h1,h2⟩
theorem bw.append:∀{xs ys:List V} {ds es:List D},bw K G xs ds->bw K G ys es->bw K G (xs ++ ys) (ds ++ es)
 |_,_,_,_,.nil,s=>s
 |_,_,_,_,.cons r t,s=>.cons r (bw.append t s)
def bw.snoc {xs:List V}{ds:List D}{x:V}{d:D}(h:bw K G xs ds)(q:Rp K G x d):bw K G (xs ++ [x]) (ds ++ [d]):=h.append (.cons q .nil)
theorem bw.take:∀{xs:List V} {ds:List D} (n:Nat),bw K G xs ds->bw K G (xs.take n) (ds.take n)
 |_,_,0,_=>.nil
 |_,_,_ + 1,.nil=>.nil
 |_,_,n + 1,.cons r t=>.cons r (bw.take n t)
theorem bw.drop:∀{xs:List V} {ds:List D} (n:Nat),bw K G xs ds->bw K G (xs.drop n) (ds.drop n)
 |_,_,0,r=>r
 |_,_,_ + 1,.nil=>.nil
 |_,_,n + 1,.cons _ t=>bw.drop n t
mutual
def wB:D->Bool
 | .dict _=>false
 | .list ds=>qS ds
 | .tuple ds=>qS ds
 |_=>true
def qS:List D->Bool
 | []=>true
 |d :: ds=>wB d && qS ds
end
mutual
theorem Rp.rep:∀{x:V} {d:D},Rp K G x d->wB d=true->Rep K G x d
 |_,_,.non,_=>.non
 |_,_,.bl b,_=>.bl b
 |_,_,.int i,_=>.int i
 |_,_,.str x,_=>.str x
 |_,_,.tup h hs,e=>.tup h (bw.reps hs (by simpa[wB] using e))
 |_,_,.lst h hs,e=>.lst (.inl (.inl h)) (bw.reps hs (by simpa[wB] using e))
 |_,_,.scr _,e=>by simp[wB] at e
 |_,_,.dK _ _,e=>by simp[wB] at e
 |_,_,.dT _ _,e=>by simp[wB] at e
theorem bw.reps:∀{xs:List V} {ds:List D},bw K G xs ds->qS ds=true->kn K G xs ds
 |_,_,.nil,_=>.nil
 |_,_,.cons h hs,e=>.cons (Rp.rep h (by simp[qS] at e;exact e.1)) (bw.reps hs (by simp[qS] at e;exact e.2))
end
def Own (K:Frag)(G H:Hp)(a:Addr):D->Prop
 | .list ds=>∃xs,H a=some (.lst xs)/\bw K G xs ds
 | .dict ds=>(∃kvs,H a=some (.dK kvs)/\rz K G kvs ds)\/∃q:List (List Key×V)×Nat,H a=some (.dT q.1 q.2)/\wu K G q.1 ds
 |_=>False
def Own.obj {a:Addr}{d:D}(h:Own K G H a d):∃o,H a=some o:=by
 cases d <;> first |exact h.elim |skip
 ·obtain⟨xs,e,_⟩:=h;exact⟨_,e⟩
 ·rcases h with⟨_,e,_⟩ | ⟨_,e,_⟩ <;> exact⟨_,e⟩
def Own.mono {a:Addr}{d:D}(h:Own K G H a d)(s:af G G')(m:∀o,H a=some o->Kt H' a o):Own K G' H' a d:=by
 cases d <;> first |exact h.elim |skip
 ·obtain⟨xs,e,r⟩:=h;exact⟨xs,m _ e,r.mono s⟩
 ·rcases h with⟨k,e,r⟩ | ⟨k,e,r⟩
  ·exact .inl ⟨k,m _ e,r.mono s⟩
  ·exact .inr ⟨k,m _ e,r.mono s⟩
def Own.rp {a:Addr}{d:D}(h:Own K G H a d)(n:G a=none){G':Hp}(s:af G G')(e:∀o,H a=some o->G' a=some o):Rp K G' (.ref a) d:=by
 cases d <;> first |exact h.elim |skip
 ·obtain⟨xs,q,r⟩:=h;exact .lst (e _ q) (r.mono s)
 ·rcases h with⟨k,q,r⟩ | ⟨k,q,r⟩
  ·exact .dK (e _ q) (r.mono s)
  ·exact .dT (e _ q) (r.mono s)
def il (K:Frag)(B:Option Addr)(G H:Hp)(v:V)(d:D):Prop:=Rp K G v d\/∃a,v=.ref a/\B≠some a/\Own K G H a d
def dG (B:Option Addr)(H H':Hp):Prop:=(∀b o,H b=some o->B≠some b->Kt H' b o)/\∀b o u,H b=some (.aJ o u)->H' b=some (.aJ o u)
def dG.refl (B:Option Addr)(H:Hp):dG B H H:=⟨λ_ _ h _=>Kt.of h,λ_ _ _ h=>h⟩
theorem rA {B:Option Addr}{b:Addr}{o:HO}(h1:Kt H b o)(y:dG B H H')(n:B≠some b):Kt H' b o:=by
 cases o with
 |tbl ps=>
  obtain⟨m,e,t,k⟩:=h1
  obtain⟨m2,e2,t2,k2⟩:=y.1 b _ e n
  refine⟨m ++ m2,by rw[e2,Array.append_assoc],by rw[HY];exact t.app t2,λc hc=>?_⟩
  rw[HY,HP] at hc
  rcases hc with hc |hc
  ·obtain⟨o,eo,io⟩:=k c hc;exact⟨o,y.2 c _ _ eo,io⟩
  ·exact k2 c hc
 |_=>exact y.1 b _ h1 n
def dG.trans {B:Option Addr}{H1:Hp}(x:dG B H H1)(y:dG B H1 H'):dG B H H':=⟨λb o h n=>rA (x.1 b o h n) y n,λb o u h=>y.2 b o u (x.2 b o u h)⟩
def af.mov (s:af H H')(B:Option Addr):dG B H H':=⟨λb o h _=>s b o h,λb o u h=>s b _ h⟩
def il.mono {B:Option Addr}{v:V}{d:D}(h:il K B G H v d)(s:af G G')(m:dG B H H'):il K B G' H' v d:=by
 rcases h with h | ⟨a,e,n,h⟩
 ·exact .inl (h.mono s)
 ·exact .inr ⟨a,e,n,h.mono s λo q=>m.1 a o q n⟩
def il.rpH {B:Option Addr}{v:V}{d:D}(h:il K B G H v d)(s:af G H):Rp K H v d:=by
 rcases h with h | ⟨a,rfl,n,h⟩
 ·exact h.mono s
 ·cases d <;> first |exact h.elim |skip
  ·obtain⟨xs,q,r⟩:=h;exact .lst q (r.mono s)
  ·rcases h with⟨k,q,r⟩ | ⟨k,q,r⟩
   ·exact .dK q (r.mono s)
   ·exact .dT q (r.mono s)
def il.list {B:Option Addr}{v:V}{ds:List D}(h:il K B G H v (.list ds))(s:af G H):∃a xs,v=.ref a/\Rd H a (.lst xs)/\bw K G xs ds:=by
 rcases h with h | ⟨a,rfl,n,xs,q,r⟩
 ·cases h with
  |lst h r=>exact⟨_,_,rfl,.inl (s _ _ h),r⟩
 ·exact⟨a,xs,rfl,.inl q,r⟩
def il.tuple {B:Option Addr}{v:V}{ds:List D}(h:il K B G H v (.tuple ds))(s:af G H):∃a xs,v=.ref a/\eB K H a xs/\bw K G xs ds:=by
 rcases h with h | ⟨a,rfl,n,h⟩
 ·cases h with
  |tup h r=>exact⟨_,_,rfl,h.grow s.grow,r⟩
 ·exact h.elim
def il.int {B:Option Addr}{v:V}{i:Int}(h:il K B G H v (.int i)):v=.int i:=by
 rcases h with h | ⟨a,rfl,n,h⟩
 ·cases h;rfl
 ·exact h.elim
def il.bool {B:Option Addr}{v:V}{b:Bool}(h:il K B G H v (.bool b)):v=.bl b:=by
 rcases h with h | ⟨a,rfl,n,h⟩
 ·cases h;rfl
 ·exact h.elim
def il.str {B:Option Addr}{v:V}{x:Str}(h:il K B G H v (.str x)):v=.str x:=by
 rcases h with h | ⟨a,rfl,n,h⟩
 ·cases h;rfl
 ·exact h.elim
def il.none {B:Option Addr}{v:V}(h:il K B G H v .none):v=.non:=by
 rcases h with h | ⟨a,rfl,n,h⟩
 ·cases h;rfl
 ·exact h.elim
end
def Fz:HO->Prop
 | .tup _=>True
 | .aJ _ _=>True
 |_=>False
def Mx (H:Hp)(b:Addr):Prop:=H b≠none/\∀o,H b=some o->¬Fz o
def Mx.lst {H:Hp}{b:Addr}{xs:List V}(h:H b=some (.lst xs)):Mx H b:=⟨by rw[h];simp,λys z=>by rw[h] at z;cases z;exact λy=>y⟩
theorem Mx.same {H H':Hp}{b:Addr}(h:Mx H b)(m:∀o,H b=some o->Kt H' b o):Mx H' b:=by
 obtain⟨h1,h2⟩:=h
 cases e:H b with
 |none=>exact absurd e h1
 |some o=>
  obtain⟨u,eu,k1,k2⟩:=(m o e).some
  refine⟨by rw[eu];simp,λxs z=>?_⟩
  rw[eu] at z
  cases z
  by_cases c:∃ps,o=.tbl ps
  ·obtain⟨ps,e⟩:=k2 c;rw[e];exact λy=>y
  ·rw[k1 λps e=>c ⟨ps,e⟩];exact h2 o e
def Own.mx {K:Frag}{G H:Hp}{a:Addr}{d:D}(h:Own K G H a d):Mx H a:=by
 cases d <;> first |exact h.elim |skip
 ·obtain⟨xs,e,_⟩:=h;exact Mx.lst e
 ·rcases h with⟨k,e,_⟩ | ⟨k,e,_⟩ <;> exact⟨by rw[e];simp,λys z=>by rw[e] at z;cases z;exact λy=>y⟩
open Classical in
noncomputable def jx (G H:Hp):Hp:=λb=>match G b with
 |some o=>some o
 |none=>match H b with
  |some o=>if Fz o then some o else none
  |none=>none
def nu {G H:Hp}:af G (jx G H):=λb o e=>Kt.of (by unfold jx;rw[e])
theorem uP {G H:Hp}(s:af G H){b:Addr}{o:HO}(e:H b=some o)(f:Fz o):jx G H b=some o:=by
 unfold jx
 cases q:G b with
 |some u=>
  obtain⟨u',eu,k1,k2⟩:=(s b u q).some
  rw[e] at eu
  cases eu
  by_cases c:∃ps,u=.tbl ps
  ·obtain⟨ps,z⟩:=k2 c;subst z;exact f.elim
  ·rw[k1 λps z=>c ⟨ps,z⟩]
 |none=>simp only[e];rw[Hs f]
theorem p0 {G H:Hp}(s:af G H):af (jx G H) H:=λb o e=>by
 unfold jx at e
 cases q:G b with
 |some u=>rw[q] at e;cases e;exact s b _ q
 |none=>
  rw[q] at e
  cases q2:H b with
  |none=>rw[q2] at e;cases e
  |some u=>
   rw[q2] at e
   dsimp only at e
   split at e
   ·cases e;exact Kt.of q2
   ·cases e
theorem uK {G H H':Hp}(hh:af H H'){b:Addr}(m:Mx H b):jx G H' b=G b:=by
 unfold jx
 cases q:G b with
 |some u=>rfl
 |none=>
  obtain⟨h1,h2⟩:=m
  cases e:H b with
  |none=>exact absurd e h1
  |some o=>
   have hm:=(show Mx H b from⟨h1,h2⟩).same (hh b)
   cases e2:H' b with
   |none=>rfl
   |some u=>simp only;rw[Ht (hm.2 u e2)]
def kN {K:Frag}{G H:Hp}(s:af G H){a:Addr}{xs:List V}(h:eB K H a xs):eB K (jx G H) a xs:=by
 rcases h with (h | ⟨o,h⟩) |h
 ·exact .inl (.inl (uP s h trivial))
 ·exact .inl (.inr ⟨o,uP s h trivial⟩)
 ·exact .inr h
structure Fx where
 K:Frag
 H0:Hp
 G0:Hp
 par:List Addr
 ca:Str->Addr
 br:Nat->Bool
 bx:Option Addr
inductive Sl where
 |no |fz (d:D) |ow (d:D) |bx |br (d:D)
abbrev En:=List Sl
inductive Nv where
 |no |da (d:D) |bx
def Sl.val:Sl->Nv
 | .no=>.no
 | .fz d=>.da d
 | .ow d=>.da d
 | .br d=>.da d
 | .bx=>.bx
def vl (env:En):List Nv:=env.map Sl.val
def Gd (Γ:Fx)(B:Option Addr)(G H:Hp)(i:Nat)(o:Option (Option V)):Sl->Prop
 | .no=>True
 | .fz d=>∃v,o=some (some v)/\Rp Γ.K G v d
 | .ow d=>∃a,o=some (some (.ref a))/\Γ.H0 a=none/\G a=none/\B≠some a/\Own Γ.K G H a d
 | .bx=>∃a,o=some (some (.ref a))/\B=some a
 | .br d=>Γ.br i=true/\∃a,o=some (some (.ref a))/\B≠some a/\a∉Γ.par/\Own Γ.K G H a d
structure SR (Γ:Fx)(B:Option Addr)(G H:Hp)(σ:St)(env:En)(β:Int):Prop where
 sub:af G H
 old:af Γ.G0 G
 new:∀b,Mx Γ.H0 b->Γ.G0 b=none->G b=none
 keep:∀b o,Γ.H0 b=some o->b∉Γ.par->Kt H b o
 pin:∀b,b∈Γ.par->Mx H b
 fix:∀b,Γ.bx=some b->B=some b
 box:∀b,B=some b->H b=some (.lst [.int β])/\G b=none/\(b∈Γ.par\/Γ.H0 b=none)
 len:σ.length=env.length
 slot:∀(i:Nat) (s:Sl),env[i]? =some s->Gd Γ B G H i (σ[i]?) s
 sep:∀(i j:Nat) (a:Addr) (d e:D),env[i]? =some (.ow d)->env[j]? =some (.ow e)->σ[i]? =some (some (.ref a))->σ[j]? =some (some (.ref a))->i=j
structure Ext (G H G' H':Hp):Prop where
 hh:af H H'
 gg:af G G'
 gh:af G' H'
 on:∀b,Mx H b->G' b=G b
def Ext.refl {G H:Hp}(s:af G H):Ext G H G H:=⟨af.refl _,af.refl _,s,λ_ _=>rfl⟩
def Ext.tups {G H H':Hp}(s:af G H)(hh:af H H'):Ext G H (jx G H') H':=⟨hh,nu,p0 (s.trans hh),λ_ m=>uK hh m⟩
def Ext.new {G H:Hp}(s:af G H){p:Addr}{o:HO}(h:H p=none):Ext G H (upd G p o) (upd H p o):=by
 refine⟨af.new h,af.new (s.free h),λb u e=>?_,λb hb=>?_⟩
 ·by_cases z:b=p
  ·subst z;rw[ah] at e;exact Kt.of (by rw[ah];exact e)
  ·rw[ao z] at e;exact gE (s b u e) z (λx y w=>by rw[h] at w;cases w)
 ·exact ao (λz=>hb.1 (by rw[z];exact h))
def Ext.own {G H:Hp}(s:af G H){p:Addr}{o:HO}(h:H p=none):Ext G H G (upd H p o):=
 ⟨af.new h,af.refl _,s.trans (af.new h),λ_ _=>rfl⟩
def Ext.trans {G H G1 H1 G2 H2:Hp}(x:Ext G H G1 H1)(y:Ext G1 H1 G2 H2):Ext G H G2 H2:=by
 refine⟨x.hh.trans y.hh,x.gg.trans y.gg,y.gh,λb hb=>?_⟩
 rw[y.on b (hb.same λo e=>x.hh b o e),x.on b hb]
section
variable {Γ:Fx}{B:Option Addr}{G H G' H':Hp}{σ:St}{env:En}{β:Int}
def SR.there (I:SR Γ B G H σ env β){b:Addr}(h:Γ.H0 b≠none):H b≠none:=by
 by_cases hp:b∈Γ.par
 ·exact (I.pin b hp).1
 ·cases e:Γ.H0 b with
  |none=>exact absurd e h
  |some o=>obtain⟨u,eu,_⟩:=(I.keep b o e hp).some;rw[eu];simp
def SR.thereM (I:SR Γ B G H σ env β){b:Addr}(h:Mx Γ.H0 b):Mx H b:=by
 by_cases hp:b∈Γ.par
 ·exact I.pin b hp
 ·exact h.same λo e=>I.keep b o e hp
def SR.ext (I:SR Γ B G H σ env β)(x:Ext G H G' H'):SR Γ B G' H' σ env β:=by
 refine⟨x.gh,I.old.trans x.gg,λb h1 h2=>?_,λb o h1 h2=>(I.keep b o h1 h2).step x.hh,λb hb=>?_,I.fix,λb e=>?_,I.len,λi s e=>?_,I.sep⟩
 ·rw[x.on b (I.thereM h1)];exact I.new b h1 h2
 ·exact (I.pin b hb).same λo e=>x.hh b o e
 ·obtain⟨h1,h2,h3⟩:=I.box b e
  exact⟨x.hh b _ h1,by rw[x.on b (Mx.lst h1)];exact h2,h3⟩
 ·have q:=I.slot i s e
  cases s with
  |no=>trivial
  |fz d=>obtain⟨v,h1,h2⟩:=q;exact⟨v,h1,h2.mono x.gg⟩
  |ow d=>
   obtain⟨a,h1,h2,h3,h4,h5⟩:=q
   exact⟨a,h1,h2,by rw[x.on a h5.mx];exact h3,h4,h5.mono x.gg λo q=>x.hh a o q⟩
  |bx=>exact q
  |br d=>obtain⟨b1,a,h1,h4,hp,h5⟩:=q;exact⟨b1,a,h1,h4,hp,h5.mono x.gg λo q=>x.hh a o q⟩
def eZ (env:En)(i:Nat):En:=match env[i]? with
 |some (.ow d)=>env.set i (.fz d)
 |_=>env
def aJ (L:List Nat)(env:En):En:=L.foldl eZ env
def cv (L M:List Nat)(env:En):aJ (L ++ M) env=aJ M (aJ L env):=by unfold aJ;rw[List.foldl_append]
def rl (env:En)(i:Nat)(s:Sl)(h:∀t,env[i]? =some t->t.val=s.val):vl (env.set i s)=vl env:=by
 unfold vl
 apply Kz
 intro j
 rw[HH,HH,List.getElem?_set]
 by_cases e:i=j
 ·subst e
  by_cases hi:i < env.length
  ·simp only[IX,hi]
   have:=h _ (Hq hi)
   simp[Hq hi,this]
  ·simp only[IX,hi,Iy]
   rw[JG (by omega)]
 ·simp[e]
def Ap (env:En)(i:Nat):vl (eZ env i)=vl env:=by
 unfold eZ
 split
 ·rename_i d e
  exact rl _ _ _ λt ht=>by rw[e] at ht;cases ht;rfl
 ·rfl
theorem fL (L:List Nat)(env:En):vl (aJ L env)=vl env:=by
 unfold aJ
 induction L generalizing env with
 |nil=>rfl
 |cons i L ih=>rw[Kl,ih,Ap]
theorem BA {i:Nat}{d:D}(h:(vl env)[i]? =some (.da d)):env[i]? =some (.fz d)\/env[i]? =some (.ow d)\/env[i]? =some (.br d):=by
 unfold vl at h
 rw[HH] at h
 cases e:env[i]? with
 |none=>rw[e] at h;simp at h
 |some s=>
  rw[e] at h
  cases s with
  |no=>simp[Sl.val] at h
  |fz d'=>simp[Sl.val] at h;subst h;exact .inl rfl
  |ow d'=>simp[Sl.val] at h;subst h;exact .inr (.inl rfl)
  |bx=>simp[Sl.val] at h
  |br d'=>simp[Sl.val] at h;subst h;exact .inr (.inr rfl)
theorem EK {i:Nat}(h:(vl env)[i]? =some .bx):env[i]? =some .bx:=by
 unfold vl at h
 rw[HH] at h
 cases e:env[i]? with
 |none=>rw[e] at h;simp at h
 |some s=>
  rw[e] at h
  cases s with
  |bx=>rfl
  |_=>simp[Sl.val] at h
def SR.freeze (I:SR Γ B G H σ env β)(i:Nat)(hb:Γ.br i=false){d:D}(h:(vl env)[i]? =some (.da d)):∃G' v,SR Γ B G' H σ (eZ env i) β/\af G G'/\σ[i]? =some (some v)/\Rp Γ.K G' v d:=by
 rcases BA h with e |e |e
 ·obtain⟨v,h1,h2⟩:=I.slot i _ e
  exact⟨G,v,by unfold eZ;rw[e];exact I,af.refl _,h1,h2⟩
 rotate_left
 ·obtain⟨z,_⟩:=I.slot i _ e
  rw[hb] at z;cases z
 ·obtain⟨a,h1,h2,h3,h4,h5⟩:=I.slot i _ e
  obtain⟨o,ho⟩:=h5.obj
  have sG:af G (upd G a o):=af.new h3
  have hi:i < env.length:=(HE.mp e).1
  have hr:Rp Γ.K (upd G a o) (.ref a) d:=h5.rp h3 sG λo' q=>by rw[ho] at q;cases q;exact ah
  refine⟨upd G a o,.ref a,?_,sG,h1,hr⟩
  unfold eZ
  rw[e]
  refine⟨λb u q=>?_,I.old.trans sG,λb n1 n2=>?_,I.keep,I.pin,I.fix,λb q=>?_,by rw[Jb];exact I.len,λj s q=>?_,λj k c d1 d2 q1 q2 q3 q4=>?_⟩
  ·by_cases z:b=a
   ·subst z;rw[ah] at q;cases q;exact Kt.of ho
   ·rw[ao z] at q;exact I.sub b u q
  ·rw[ao (λz=>n1.1 (by rw[z];exact h2))];exact I.new b n1 n2
  ·obtain⟨k1,k2,k3⟩:=I.box b q
   exact⟨k1,by rw[ao (λz=>h4 (by rw[<-z];exact q))];exact k2,k3⟩
  ·by_cases z:j=i
   ·subst z
    rw[HI hi] at q
    cases q
    exact⟨.ref a,h1,hr⟩
   ·rw[HL (Ne.symm z)] at q
    have w:=I.slot j s q
    cases s with
    |no=>trivial
    |fz d'=>obtain⟨v,w1,w2⟩:=w;exact⟨v,w1,w2.mono sG⟩
    |ow d'=>
     obtain⟨c,w1,w2,w3,w4,w5⟩:=w
     have ca:c≠a:=λz2=>z (I.sep j i c d' d q e w1 (by rw[z2];exact h1))
     exact⟨c,w1,w2,by rw[ao ca];exact w3,w4,w5.mono sG λo q=>Kt.of q⟩
    |bx=>exact w
    |br d'=>obtain⟨b1,c,w1,w4,wp,w5⟩:=w;exact⟨b1,c,w1,w4,wp,w5.mono sG λo q=>Kt.of q⟩
  ·have ne:∀{j:Nat} {d':D},(env.set i (Sl.fz d))[j]? =some (.ow d')->env[j]? =some (.ow d'):=λ{j d'} q=>by
    by_cases z:j=i
    ·subst z;rw[HI hi] at q;cases q
    ·rw[HL (Ne.symm z)] at q;exact q
   exact I.sep j k c d1 d2 (ne q1) (ne q2) q3 q4
theorem SR.aJ (I:SR Γ B G H σ env β)(L:List Nat)(hb:∀i,i∈L->Γ.br i=false):∃G',SR Γ B G' H σ (aJ L env) β/\af G G':=by
 induction L generalizing env G with
 |nil=>exact⟨G,I,af.refl _⟩
 |cons i L ih=>
  show ∃G',SR Γ B G' H σ (L2.aJ L (eZ env i)) β/\af G G'
  have key:∃G1,SR Γ B G1 H σ (eZ env i) β/\af G G1:=by
   cases e:env[i]? with
   |none=>exact⟨G,by unfold eZ;rw[e];exact I,af.refl _⟩
   |some s=>
    cases s with
    |ow d=>
     obtain⟨G1,v,h1,h2,_⟩:=I.freeze i (hb i (HC ..)) (d:=d) (by unfold vl;rw[HH,e];rfl)
     exact⟨G1,h1,h2⟩
    |_=>exact⟨G,by unfold eZ;rw[e];exact I,af.refl _⟩
  obtain⟨G1,I1,s1⟩:=key
  obtain⟨G2,I2,s2⟩:=ih I1 λj hj=>hb j (Hz _ hj)
  exact⟨G2,I2,s1.trans s2⟩
def SR.set (I:SR Γ B G H σ env β){i:Nat}(hi:i < env.length){v:V}{d:D}(h:Rp Γ.K G v d):SR Γ B G H (σ.set i (some v)) (env.set i (.fz d)) β:=by
 have hs:i < σ.length:=by rw[I.len];exact hi
 refine⟨I.sub,I.old,I.new,I.keep,I.pin,I.fix,I.box,by rw[Jb,Jb];exact I.len,λj s q=>?_,λj k c d1 d2 q1 q2 q3 q4=>?_⟩
 ·by_cases z:j=i
  ·subst z
   rw[HI hi] at q
   cases q
   exact⟨v,by rw[HI hs],h⟩
  ·rw[HL (Ne.symm z)] at q ⊢
   exact I.slot j s q
 ·have ne:∀{j:Nat} {d':D},(env.set i (Sl.fz d))[j]? =some (.ow d')->j≠i/\env[j]? =some (.ow d'):=λ{j d'} q=>by
   by_cases z:j=i
   ·subst z;rw[HI hi] at q;cases q
   ·rw[HL (Ne.symm z)] at q;exact⟨z,q⟩
  obtain⟨n1,e1⟩:=ne q1
  obtain⟨n2,e2⟩:=ne q2
  rw[HL (Ne.symm n1)] at q3
  rw[HL (Ne.symm n2)] at q4
  exact I.sep j k c d1 d2 e1 e2 q3 q4
def SR.setOw (I:SR Γ B G H σ env β){i:Nat}(hi:i < env.length){a:Addr}{d:D}(h0:Γ.H0 a=none)(hg:G a=none)(hb:B≠some a)(h:Own Γ.K G H a d)(hn:∀(j:Nat) (d':D),env[j]? =some (.ow d')->j≠i->σ[j]?≠some (some (.ref a))):SR Γ B G H (σ.set i (some (.ref a))) (env.set i (.ow d)) β:=by
 have hs:i < σ.length:=by rw[I.len];exact hi
 refine⟨I.sub,I.old,I.new,I.keep,I.pin,I.fix,I.box,by rw[Jb,Jb];exact I.len,λj s q=>?_,λj k c d1 d2 q1 q2 q3 q4=>?_⟩
 ·by_cases z:j=i
  ·subst z
   rw[HI hi] at q
   cases q
   exact⟨a,by rw[HI hs],h0,hg,hb,h⟩
  ·rw[HL (Ne.symm z)] at q ⊢
   exact I.slot j s q
 ·by_cases z1:j=i
  ·by_cases z2:k=i
   ·rw[z1,z2]
   ·subst z1
    rw[HL (Ne.symm z2)] at q2 q4
    rw[HI hs] at q3
    cases q3
    exact absurd q4 (hn k d2 q2 z2)
  ·by_cases z2:k=i
   ·subst z2
    rw[HL (Ne.symm z1)] at q1 q3
    rw[HI hs] at q4
    cases q4
    exact absurd q3 (hn j d1 q1 z1)
   ·rw[HL (Ne.symm z1)] at q1 q3
    rw[HL (Ne.symm z2)] at q2 q4
    exact I.sep j k c d1 d2 q1 q2 q3 q4
def SR.fresh (I:SR Γ B G H σ env β){a:Addr}(h:H a=none):Γ.H0 a=none/\G a=none/\B≠some a/\∀(j:Nat) (d:D),env[j]? =some (.ow d)->σ[j]?≠some (some (.ref a)):=by
 have hB:B≠some a:=λz=>by rw[(I.box a z).1] at h;cases h
 refine⟨?_,I.sub.free h,hB,λj d e z=>?_⟩
 ·cases e:Γ.H0 a with
  |none=>rfl
  |some o=>exact absurd h (I.there (by rw[e];simp))
 ·obtain⟨c,h1,_,_,_,h5⟩:=I.slot j _ e
  rw[z] at h1
  cases h1
  obtain⟨o,ho⟩:=h5.obj
  rw[h] at ho;cases ho
def SR.write (I:SR Γ B G H σ env β)(hb:∀j,Γ.br j=false){i:Nat}{a:Addr}{d d':D}{o:HO}(e:env[i]? =some (.ow d))(ea:σ[i]? =some (some (.ref a)))(h:∀H',H' a=some o->af G H'->Own Γ.K G H' a d'):SR Γ B G (upd H a o) σ (env.set i (.ow d')) β:=by
 obtain⟨a',h1,h2,h3,h4,h5⟩:=I.slot i _ e
 rw[ea] at h1;cases h1
 have hi:i < env.length:=(HE.mp e).1
 have ha:∀x y,H a≠some (.aJ x y):=λx y w=>h5.mx.2 _ w trivial
 have sub:af G (upd H a o):=λb u q=>gE (I.sub b u q) (λz=>by rw[z,h3] at q;cases q) ha
 refine⟨sub,I.old,I.new,λb u q n=>?_,λb q=>?_,I.fix,λb q=>?_,by rw[Jb];exact I.len,λj s q=>?_,λj k c d1 d2 q1 q2 q3 q4=>?_⟩
 ·exact gE (I.keep b u q n) (λz=>by rw[z,h2] at q;cases q) ha
 ·by_cases z:b=a
  ·subst z;exact (h _ ah sub).mx
  ·exact (I.pin b q).same λo e=>Kt.of (by rw[ao z];exact e)
 ·obtain⟨k1,k2,k3⟩:=I.box b q
  exact⟨by rw[ao (λz=>h4 (by rw[<-z];exact q))];exact k1,k2,k3⟩
 ·by_cases z:j=i
  ·subst z
   rw[HI hi] at q
   cases q
   exact⟨a,ea,h2,h3,h4,h _ ah sub⟩
  ·rw[HL (Ne.symm z)] at q
   have w:=I.slot j s q
   cases s with
   |no=>trivial
   |fz d1=>exact w
   |ow d1=>
    obtain⟨c,w1,w2,w3,w4,w5⟩:=w
    have ca:c≠a:=λz2=>z (I.sep j i c d1 d q e w1 (by rw[z2];exact ea))
    exact⟨c,w1,w2,w3,w4,w5.mono (af.refl _) λo q=>Kt.of (by rw[ao ca];exact q)⟩
   |bx=>exact w
   |br d1=>obtain⟨b1,_⟩:=w;rw[hb j] at b1;cases b1
 ·have back:∀{j:Nat} {d1:D},(env.set i (Sl.ow d'))[j]? =some (.ow d1)->∃d2,env[j]? =some (.ow d2):=λ{j d1} q=>by
   by_cases z:j=i
   ·subst z;exact⟨d,e⟩
   ·rw[HL (Ne.symm z)] at q;exact⟨d1,q⟩
  obtain⟨_,b1⟩:=back q1
  obtain⟨_,b2⟩:=back q2
  exact I.sep j k c _ _ b1 b2 q3 q4
end
inductive R (α:Type) where
 |ok (a:α) (β:Int)
 |exc (c:Str)
 |bad
def R.bnd {α γ:Type}(r:R α)(k:α->Int->R γ):R γ:=match r with
 | .ok a β=>k a β
 | .exc c=>.exc c
 | .bad=>.bad
def R.of {α:Type}(o:Option α)(β:Int):R α:=match o with
 |some a=>.ok a β
 |none=>.bad
abbrev VF (α:Type):=List Nv->Int->R α
def Kp (Γ:Fx)(H':Hp):Prop:=∀b o,Γ.H0 b=some o->b∉Γ.par->Kt H' b o
def Out {α:Type}(Γ:Fx)(E:XK)(r:R α)(P:α->Int->Prop):Prop:=match r with
 | .ok a β=>P a β
 | .exc c=>∀H',Kp Γ H'->E (.ref (Γ.ca c)) none H'
 | .bad=>False
section
variable {α γ:Type}{Γ:Fx}{E:XK}
theorem Out.bnd {r:R α}{k:α->Int->R γ}{P:γ->Int->Prop}(h:Out Γ E (r.bnd k) P):Out Γ E r λa β=>Out Γ E (k a β) P:=by
 cases r with
 |ok a β=>exact h
 |exc c=>exact h
 |bad=>exact h
theorem Out.imp {r:R α}{P P':α->Int->Prop}(h:Out Γ E r P)(i:∀a β,P a β->P' a β):Out Γ E r P':=by
 cases r with
 |ok a β=>exact i a β h
 |exc c=>exact h
 |bad=>exact h
theorem Out.of {o:Option α}{β:Int}{P:α->Int->Prop}(h:Out Γ E (R.of o β) P):∃a,o=some a/\P a β:=by
 cases o with
 |none=>exact h.elim
 |some a=>exact⟨a,rfl,h⟩
end
inductive Md where
 |b |v |w
def VO (K:Frag)(B:Option Addr)(H G' H':Hp):Md->D->V->Prop
 | .b,d,v=>il K B G' H' v d
 | .v,d,v=>Rp K G' v d
 | .w,d,v=>∃a,v=.ref a/\H a=none/\G' a=none/\Own K G' H' a d
def pT (Γ:Fx)(E:XK)(f:VF D)(L:List Nat)(md:Md):TE:=λσ H Q=>∃env G B β,SR Γ B G H σ env β/\
 Out Γ E (f (vl env) β) λd β'=>∀v G' H',SR Γ B G' H' σ (aJ L env) β'->af G G'->dG B H H'->VO Γ.K B H G' H' md d v->Q v H'
def SE (X:Cx)(Γ:Fx)(E:XK)(e:Expr)(f:VF D)(L:List Nat)(md:Md):Prop:=PE X e (pT Γ E f L md)
def qT (Γ:Fx)(E:XK)(f:VF Bool)(L:List Nat):TT:=λσ H Q=>∃env G B β,SR Γ B G H σ env β/\
 Out Γ E (f (vl env) β) λc β'=>∀G' H',SR Γ B G' H' σ (aJ L env) β'->af G G'->dG B H H'->Q c H'
def zr (X:Cx)(Γ:Fx)(E:XK)(e:Expr)(f:VF Bool)(L:List Nat):Prop:=PT X e (qT Γ E f L)
def zo (X:Cx)(Γ:Fx)(E:XK)(e:Expr)(f:VF Bool)(L:List Nat):Prop:=PW X e (qT Γ E f L)
def aT (Γ:Fx)(E:XK)(f:VF (List D))(L:List Nat):TA:=λσ H Q=>∃env G B β,SR Γ B G H σ env β/\
 Out Γ E (f (vl env) β) λds β'=>∀vs G' H',SR Γ B G' H' σ (aJ L env) β'->af G G'->dG B H H'->bw Γ.K G' vs ds->Q vs H'
def SA (X:Cx)(Γ:Fx)(E:XK)(es:List Expr)(f:VF (List D))(L:List Nat):Prop:=PA X es (aT Γ E f L)
def PE.post' {X:Cx}{e:Expr}{t u:TE}(h:PE X e t)(m:∀σ H Q,u σ H Q->t σ H Q):PE X e u:=λpins s σ H Q I q=>h pins s σ H Q I (m σ H Q q)
def PT.post {X:Cx}{e:Expr}{t u:TT}(h:PT X e t)(m:∀σ H Q,u σ H Q->t σ H Q):PT X e u:=λpins s σ H Q I q=>h pins s σ H Q I (m σ H Q q)
def PW.post {X:Cx}{e:Expr}{t u:TT}(h:PW X e t)(m:∀σ H Q,u σ H Q->t σ H Q):PW X e u:=λwh pins s σ H Q I q=>h wh pins s σ H Q I (m σ H Q q)
def PA.post {X:Cx}{es:List Expr}{t u:TA}(h:PA X es t)(m:∀σ H Q,u σ H Q->t σ H Q):PA X es u:=λpos pins s σ H Q I q=>h pos pins s σ H Q I (m σ H Q q)
def PS.post {X:Cx}{st:Stmt}{t u:TS}(h:PS X st t)(m:∀D σ H,u D σ H->t D σ H):PS X st u:=λpins s σ H D I q=>h pins s σ H D I (m D σ H q)
def dat:Option Nv->Option D
 |some (.da d)=>some d
 |_=>none
def gv (i:Nat):VF D:=λvs β=>R.of (dat vs[i]?) β
def cst (d:D):VF D:=λ_ β=>.ok d β
section
variable {X:Cx}{Γ:Fx}{E:XK}{e a b c:Expr}{f fa fb fc:VF D}{L La Lb Lc:List Nat}{md ma mb mc:Md}{pos:Pos}
theorem join_some {o:Option Nv}{d:D}(h:dat o=some d):o=some (.da d):=by
 cases o with
 |none=>cases h
 |some o=>cases o with
  |da x=>cases h;rfl
  |_=>cases h
def SR.letIn {B:Option Addr}{G H:Hp}{σ:St}{env:En}{β:Int}(I:SR Γ B G H σ env β){p:Addr}{d:D}(h0:Γ.H0 p=none)(hg:G p=none)(hb:B≠some p)(hn:∀(j:Nat) (d':D),env[j]? =some (.ow d')->σ[j]?≠some (some (.ref p)))(h:Own Γ.K G H p d) :
  ∃G',SR Γ B G' H σ env β/\af G G'/\Rp Γ.K G' (.ref p) d:=by
 obtain⟨o,ho⟩:=h.obj
 have sG:af G (upd G p o):=af.new hg
 refine⟨upd G p o,⟨λb u q=>?_,I.old.trans sG,λb n1 n2=>?_,I.keep,I.pin,I.fix,λb q=>?_,I.len,λj s q=>?_,I.sep⟩,sG,h.rp hg sG λo' q=>by rw[ho] at q;cases q;exact ah⟩
 ·by_cases z:b=p
  ·subst z;rw[ah] at q;cases q;exact Kt.of ho
  ·rw[ao z] at q;exact I.sub b u q
 ·rw[ao (λz=>n1.1 (by rw[z];exact h0))];exact I.new b n1 n2
 ·obtain⟨k1,k2,k3⟩:=I.box b q
  exact⟨k1,by rw[ao (λz=>hb (by rw[<-z];exact q))];exact k2,k3⟩
 ·have w:=I.slot j s q
  cases s with
  |no=>trivial
  |fz d'=>obtain⟨v,w1,w2⟩:=w;exact⟨v,w1,w2.mono sG⟩
  |ow d'=>
   obtain⟨c,w1,w2,w3,w4,w5⟩:=w
   have ca:c≠p:=λz2=>hn j d' q (by rw[<-z2];exact w1)
   exact⟨c,w1,w2,by rw[ao ca];exact w3,w4,w5.mono sG λo q=>Kt.of q⟩
  |bx=>exact w
  |br d'=>obtain⟨b1,c,w1,w4,wp,w5⟩:=w;exact⟨b1,c,w1,w4,wp,w5.mono sG λo q=>Kt.of q⟩
def tY {env:En}{i j:Nat}{d:D}(h:(eZ env i)[j]? =some (.ow d)):env[j]? =some (.ow d):=by
 unfold eZ at h
 split at h
 ·rename_i d' e
  by_cases z:i=j
  ·subst z
   rw[HI (HE.mp e).1] at h;cases h
  ·rw[HL z] at h;exact h
 ·exact h
theorem ou {L:List Nat}{env:En}{j:Nat}{d:D}(h:(aJ L env)[j]? =some (.ow d)):env[j]? =some (.ow d):=by
 unfold aJ at h
 induction L generalizing env with
 |nil=>exact h
 |cons i L ih=>exact tY (ih h)
def SR.letW {B:Option Addr}{G H G' H':Hp}{σ:St}{env:En}{β β':Int}{L:List Nat}{d:D}{v:V}(I:SR Γ B G H σ env β)(I':SR Γ B G' H' σ (L2.aJ L env) β')(h:VO Γ.K B H G' H' .w d v):∃G2,SR Γ B G2 H' σ (L2.aJ L env) β'/\af G' G2/\Rp Γ.K G2 v d:=by
 obtain⟨p,rfl,h1,h2,h3⟩:=h
 obtain⟨q1,q2,q3,q4⟩:=I.fresh h1
 exact I'.letIn q1 h2 q3 (λj d' e=>q4 j d' (ou e)) h3
def SE.wv (h:SE X Γ E e f L .w):SE X Γ E e f L .v:=by
 refine PE.post' h λσ H Q ⟨env,G,B,β,I,o⟩=>⟨env,G,B,β,I,o.imp λd β' k v G' H' I' s m vo=>?_⟩
 obtain⟨G2,I2,s2,r⟩:=I.letW I' vo
 exact k v G2 H' I2 (s.trans s2) m r
theorem VO.brw {B:Option Addr}{H G' H':Hp}{d:D}{v:V}{K:Frag}(h:VO K B H G' H' md d v)(hB:∀x,B=some x->H x≠none):il K B G' H' v d:=by
 cases md with
 |b=>exact h
 |v=>exact .inl h
 |w=>
  obtain⟨p,rfl,h1,h2,h3⟩:=h
  exact .inr ⟨p,rfl,λz=>hB p z h1,h3⟩
def SR.boxThere {B:Option Addr}{G H:Hp}{σ:St}{env:En}{β:Int}(I:SR Γ B G H σ env β):∀x,B=some x->H x≠none:=λx e=>by rw[(I.box x e).1];simp
def au (i:Nat){x:Str}(hN:X.N[i]? =some x:=by rfl)(hv:u7 X.env.scope x:=by first |exact Or.inl rfl |exact Or.inr (Or.inl rfl) |exact Or.inr (Or.inr rfl))(hd:(x == ("__debug__":Str))=false:=by decide)
  (hcd:(x == ("__classdict__":Str))=false:=by decide):SE X Γ E (.Name x pos) (gv i) [] .b:=by
 refine PE.post' (fB hN hv hd hcd) λσ H Q ⟨env,G,B,β,I,o⟩=>?_
 obtain⟨d,e,k⟩:=o.of
 have e:=join_some e
 rcases BA e with q |q |q
 ·obtain⟨v,h1,h2⟩:=I.slot i _ q
  exact⟨v,h1,k v G H I (af.refl _) (dG.refl _ _) (.inl h2)⟩
 ·obtain⟨p,h1,h2,h3,h4,h5⟩:=I.slot i _ q
  exact⟨.ref p,h1,k _ G H I (af.refl _) (dG.refl _ _) (.inr ⟨p,rfl,h4,h5⟩)⟩
 ·obtain⟨_,p,h1,h4,_,h5⟩:=I.slot i _ q
  exact⟨.ref p,h1,k _ G H I (af.refl _) (dG.refl _ _) (.inr ⟨p,rfl,h4,h5⟩)⟩
def aM (i:Nat)(hb:Γ.br i=false){x:Str}(hN:X.N[i]? =some x:=by rfl)(hv:u7 X.env.scope x:=by first |exact Or.inl rfl |exact Or.inr (Or.inl rfl) |exact Or.inr (Or.inr rfl))(hd:(x == ("__debug__":Str))=false:=by decide)
  (hcd:(x == ("__classdict__":Str))=false:=by decide):SE X Γ E (.Name x pos) (gv i) [i] .v:=by
 refine PE.post' (fB hN hv hd hcd) λσ H Q ⟨env,G,B,β,I,o⟩=>?_
 obtain⟨d,e,k⟩:=o.of
 obtain⟨G',v,I',s,h1,h2⟩:=I.freeze i hb (join_some e)
 exact⟨v,h1,k v G' H I' s (dG.refl _ _) h2⟩
def yq {v:V}{d:D}(h:PE X e (tC v))(r:∀G,Rp Γ.K G v d):SE X Γ E e (cst d) [] .v:=by
 refine PE.post' h λσ H Q ⟨env,G,B,β,I,o⟩=>?_
 exact o v G H I (af.refl _) (dG.refl _ _) (r G)
def aC {i:Int}{j}:SE X Γ E (.Constant (.int i) j pos) (cst (.int i)) [] .v:=yq kR λ_=>.int i
def mU {i:Bool}{j}:SE X Γ E (.Constant (.bool i) j pos) (cst (.bool i)) [] .v:=yq mS λ_=>.bl i
def rL {j}:SE X Γ E (.Constant .none j pos) (cst .none) [] .v:=yq BO λ_=>.non
def fM {x:Str}{j}:SE X Γ E (.Constant (.str x) j pos) (cst (.str x)) [] .v:=yq kh λ_=>.str x
def zQ {x:Str}{i:Int}{t:Tok}(hg:Gl X x)(hm:X.mg x=some (.int i t))(hd:(x == ("__debug__":Str))=false:=by decide):SE X Γ E (.Name x pos) (cst (.int i)) [] .v:=yq (bJ hg hm (show RelV (.int i) _ from⟨_,rfl⟩) hd) λ_=>.int i
def two {W:V->V->Hp->Prop}{B:Option Addr}{G H:Hp}{σ:St}{env:En}{β:Int}(I:SR Γ B G H σ env β)
  (h:Out Γ E (fa (vl env) β) λd1 β1=>Out Γ E (fb (vl env) β1) λd2 β2=>∀x y G2 H2,SR Γ B G2 H2 σ (aJ (La ++ Lb) env) β2->af G G2->dG B H H2->il Γ.K B G2 H2 x d1->il Γ.K B G2 H2 y d2->W x y H2) :
  pT Γ E fa La ma σ H λx H1=>pT Γ E fb Lb mb σ H1 λy H2=>W x y H2:=by
 refine⟨env,G,B,β,I,h.imp λd1 β1 h x G1 H1 I1 s1 m1 vx=>⟨aJ La env,G1,B,β1,I1,?_⟩⟩
 rw[fL]
 refine h.imp λd2 β2 k y G2 H2 I2 s2 m2 vy=>?_
 refine k x y G2 H2 (by rw[cv];exact I2) (s1.trans s2) (m1.trans m2) ((vx.brw I.boxThere).mono s2 m2) (vy.brw I1.boxThere)
def j3 (K:Frag)(r:R2)(g:D->D->Option D)(md:Md):Prop:=∀(B:Option Addr) (G H:Hp) (x y:V) (dx dy d:D) (Q:VK),af G H->(∀x,B=some x->H x≠none)->il K B G H x dx->il K B G H y dy->g dx dy=some d->
 (∀v G' H',Ext G H G' H'->VO K B H G' H' md d v->Q v H')->r x y H Q
def f2 (fa fb:VF D)(g:D->D->Option D):VF D:=λvs β=>(fa vs β).bnd λx β1=>(fb vs β1).bnd λy β2=>R.of (g x y) β2
theorem dt {B:Option Addr}{H H2:Hp}(m:dG B H H2)(hB:∀x,B=some x->H2 x≠none){p:Addr}(h:H2 p=none):H p=none:=by
 cases e:H p with
 |none=>rfl
 |some o=>obtain⟨u,eu,_⟩:=(m.1 p o e λz=>hB p z h).some;rw[eu] at h;cases h
theorem VO.back {K:Frag}{B:Option Addr}{H H2 G' H':Hp}{d:D}{v:V}(h:VO K B H2 G' H' md d v)(m:dG B H H2)(hB:∀x,B=some x->H2 x≠none):VO K B H G' H' md d v:=by
 cases md with
 |b=>exact h
 |v=>exact h
 |w=>obtain⟨p,e,h1,h2,h3⟩:=h;exact⟨p,e,dt m hB h1,h2,h3⟩
def iN {r:R2}{g:D->D->Option D}{Q:VK}(pr:j3 Γ.K r g md){B:Option Addr}{G H:Hp}{σ:St}{env:En}{β:Int}(I:SR Γ B G H σ env β)
  (h:Out Γ E (f2 fa fb g (vl env) β) λd β'=>∀v G' H',SR Γ B G' H' σ (aJ (La ++ Lb) env) β'->af G G'->dG B H H'->VO Γ.K B H G' H' md d v->Q v H') :
  pT Γ E fa La ma σ H λx H1=>pT Γ E fb Lb mb σ H1 λy H2=>r x y H2 Q:=by
 refine two I (h.bnd.imp λd1 β1 h=>h.bnd.imp λd2 β2 h x y G2 H2 I2 s2 m2 bx by'=>?_)
 obtain⟨d,e,k⟩:=h.of
 refine pr B G2 H2 x y d1 d2 d Q I2.sub I2.boxThere bx by' e λv G' H' x' vo=>?_
 exact k v G' H' (I2.ext x') (s2.trans x'.gg) (m2.trans (x'.hh.mov B)) (vo.back m2 I2.boxThere)
def ba {op:Operator}{r:R2}{g:D->D->Option D}(ho:jz X (binaryOp op) r)(pr:j3 Γ.K r g md)(ha:SE X Γ E a fa La ma)(hb:SE X Γ E b fb Lb mb):SE X Γ E (.BinOp a op b pos) (f2 fa fb g) (La ++ Lb) md:=
 PE.post' (lC ho ha hb) λσ H Q ⟨env,G,B,β,I,o⟩=>iN pr I o
def CU {op:CmpOp}{r:R2}{g:D->D->Option D}(ho:jz X (compareOp op) r)(pr:j3 Γ.K r g md)(ha:SE X Γ E a fa La ma)(hb:SE X Γ E b fb Lb mb)(hm:behindInMarks op b=false):SE X Γ E (.Compare a [op] [b] pos) (f2 fa fb g) (La ++ Lb) md:=
 PE.post' (AH ho ha hb hm) λσ H Q ⟨env,G,B,β,I,o⟩=>iN pr I o
def iQ {r:R2}{g:D->D->Option D}(hr:xQ X r)(pr:j3 Γ.K r g md)(ha:SE X Γ E a fa La ma)(hb:SE X Γ E b fb Lb mb)(hs:ur b):SE X Γ E (.Subscript a b pos) (f2 fa fb g) (La ++ Lb) md:=
 PE.post' (gy hr ha hb hs) λσ H Q ⟨env,G,B,β,I,o⟩=>iN pr I o
def yw (K:Frag)(r:V->Hp->VK->Prop)(g:D->Option D)(md:Md):Prop:=∀(B:Option Addr) (G H:Hp) (x:V) (dx d:D) (Q:VK),af G H->(∀x,B=some x->H x≠none)->il K B G H x dx->g dx=some d->
 (∀v G' H',Ext G H G' H'->VO K B H G' H' md d v->Q v H')->r x H Q
def f1 (fa:VF D)(g:D->Option D):VF D:=λvs β=>(fa vs β).bnd λx β1=>R.of (g x) β1
def fV {r:V->Hp->VK->Prop}{g:D->Option D}{Q:VK}(pr:yw Γ.K r g md){B:Option Addr}{G H:Hp}{σ:St}{env:En}{β:Int}(I:SR Γ B G H σ env β)
  (h:Out Γ E (f1 fa g (vl env) β) λd β'=>∀v G' H',SR Γ B G' H' σ (aJ La env) β'->af G G'->dG B H H'->VO Γ.K B H G' H' md d v->Q v H') :
  pT Γ E fa La ma σ H λx H1=>r x H1 Q:=by
 refine⟨env,G,B,β,I,h.bnd.imp λd1 β1 h x G1 H1 I1 s1 m1 vx=>?_⟩
 obtain⟨d,e,k⟩:=h.of
 refine pr B G1 H1 x d1 d Q I1.sub I1.boxThere (vx.brw I.boxThere) e λv G' H' x' vo=>?_
 exact k v G' H' (I1.ext x') (s1.trans x'.gg) (m1.trans (x'.hh.mov B)) (vo.back m1 I1.boxThere)
def BE {op:UnaryOp}{r:V->Hp->VK->Prop}{g:D->Option D}(ho:Fi X (unaryOp op) r)(pr:yw Γ.K r g md)(ha:SE X Γ E a fa La ma):SE X Γ E (.UnaryOp op a pos) (f1 fa g) La md:=
 PE.post' (ET ho ha) λσ H Q ⟨env,G,B,β,I,o⟩=>fV pr I o
def bD {id:String}{r:List V->Hp->VK->Prop}{g:D->Option D}{x:Str}{p:Pos}(hc:bQ X (.builtin id) r)(pr:yw Γ.K (λx=>r [x]) g md)(hg:Gl X x)(hm:X.mg x=none)(hv:bootBuiltins x=some (.builtin id))(ha:SE X Γ E a fa La ma)(hn:x≠"__name__":=by decide)(hdb:(x == ("__debug__":Str))=false:=by decide)
  (he:starEach [a] X.env=(false,eval a X.env) :: starEach [] X.env:=by rfl):SE X Γ E (.Call (.Name x p) [a] [] pos) (f1 fa g) La md:=
 PE.post' (aL hc hg hm hv (ag ha az he) hn hdb he) λσ H Q ⟨env,G,B,β,I,o⟩=>fV (r:=λx=>r [x]) pr I o
def iS {id:String}{r:List V->Hp->VK->Prop}{g:D->Option D}{x:Str}{p:Pos}(hc:bQ X (.type id) r)(pr:yw Γ.K (λx=>r [x]) g md)(hg:Gl X x)(hm:X.mg x=none)(hv:bootBuiltins x=some (.type id))(ha:SE X Γ E a fa La ma)(hn:x≠"__name__":=by decide)(hdb:(x == ("__debug__":Str))=false:=by decide)
  (he:starEach [a] X.env=(false,eval a X.env) :: starEach [] X.env:=by rfl):SE X Γ E (.Call (.Name x p) [a] [] pos) (f1 fa g) La md:=
 PE.post' (e9 hc hg hm hv (ag ha az he) hn hdb he) λσ H Q ⟨env,G,B,β,I,o⟩=>fV (r:=λx=>r [x]) pr I o
def jd {id:String}{r:List V->Hp->VK->Prop}{g:D->D->Option D}{x:Str}{p:Pos}(hc:bQ X (.builtin id) r)(pr:j3 Γ.K (λx y=>r [x,y]) g md)(hg:Gl X x)(hm:X.mg x=none)(hv:bootBuiltins x=some (.builtin id))(ha:SE X Γ E a fa La ma)(hb:SE X Γ E b fb Lb mb)(hn:x≠"__name__":=by decide)(hdb:(x == ("__debug__":Str))=false:=by decide)
  (he:starEach [a,b] X.env=(false,eval a X.env) :: starEach [b] X.env:=by rfl) (he2:starEach [b] X.env=(false,eval b X.env) :: starEach [] X.env:=by rfl) (hpl:(backTo pos (starEach [b] X.env)).any (·.1)=false:=by rfl):SE X Γ E (.Call (.Name x p) [a,b] [] pos) (f2 fa fb g) (La ++ Lb) md:=
 PE.post' (aL hc hg hm hv (ag ha (ag hb az he2) he) hn hdb he hpl) λσ H Q ⟨env,G,B,β,I,o⟩=>iN (r:=λx y=>r [x,y]) pr I o
def jA (fa fb:VF D):VF D:=λvs β=>(fa vs β).bnd λx β1=>match x with
 | .bool true=>fb vs β1
 | .bool false=>.ok (.bool false) β1
 |_=>.bad
def nQ {op}(h:SE X Γ E a fa La md):SE X Γ E (.BoolOp op [a] pos) fa La md:=BY h
theorem nP {rest:List Expr}(ha:SE X Γ E a fa La ma)(hb:SE X Γ E (.BoolOp .And (b :: rest) pos) fb Lb .v)(hbr:∀i,i∈Lb->Γ.br i=false):SE X Γ E (.BoolOp .And (a :: b :: rest) pos) (jA fa fb) (La ++ Lb) .v:=by
 refine PE.post' (Ca ha hb) λσ H Q ⟨env,G,B,β,I,o⟩=>?_
 refine⟨env,G,B,β,I,o.bnd.imp λd1 β1 h x G1 H1 I1 s1 m1 vx=>?_⟩
 have bx:=vx.brw I.boxThere
 cases d1 with
 |bool c=>
  obtain rfl:=bx.bool
  refine⟨c,rfl,?_⟩
  cases c with
  |true=>exact rX ⟨_,G1,B,β1,I1,by rw[fL];exact h.imp λd β' k v G' H' I' s' m' vo=>k v G' H' (by rw[cv];exact I') (s1.trans s') (m1.trans m') vo⟩
  |false=>
   obtain⟨G2,I2,s2⟩:=I1.aJ Lb hbr
   exact lY (h _ G2 H1 (by rw[cv];exact I2) (s1.trans s2) m1 (.bl false))
 |_=>exact h.elim
def Ct:D->Option D
 | .bool c=>some (.bool (!c))
 |_=>none
theorem C0 (ha:SE X Γ E a fa La ma):SE X Γ E (.UnaryOp .Not a pos) (f1 fa Ct) La .v:=by
 refine PE.post' (Dm ha) λσ H Q ⟨env,G,B,β,I,o⟩=>?_
 refine fV (r:=λx H1 Q=>∃c,x=.bl c/\Q (.bl (!c)) H1) ?_ I o
 intro B G H x dx d Q s hB bx e k
 cases dx with
 |bool c=>
  obtain rfl:=bx.bool
  cases e
  exact⟨c,rfl,k _ G H (Ext.refl s) (.bl _)⟩
 |_=>cases e
def CA:D->Option Bool
 | .none=>some false
 | .bool b=>some b
 | .int i=>some (i != 0)
 | .str y=>if y.length<=sizeLine then some ((y.length:Int) != 0) else none
 | .list ds=>some (!ds.isEmpty)
 | .tuple ds=>some (!ds.isEmpty)
 | .dict _=>none
def zp (fa:VF D):VF Bool:=λvs β=>(fa vs β).bnd λx β1=>R.of (CA x) β1
def jP {K:Frag}{G:Hp}{xs:List V}{ds:List D}(r:bw K G xs ds):(!ds.isEmpty)= !xs.isEmpty:=by cases r <;> rfl
theorem lM (hK:X.K=Γ.K)(ha:SE X Γ E a fa La ma)(he:∀whole,isTrue a X.env whole=(do let v <-whole;standAt a.pos;holding [v] (truthy v)):=by intro _;rfl):zr X Γ E a (zp fa) La:=by
 refine PT.post (ya ha he) λσ H Q ⟨env,G,B,β,I,o⟩=>?_
 refine⟨env,G,B,β,I,o.bnd.imp λd1 β1 h x G1 H1 I1 s1 m1 vx=>?_⟩
 obtain⟨c,e,k⟩:=h.of
 have bx:=vx.brw I.boxThere
 refine⟨c,?_,k G1 H1 I1 s1 m1⟩
 rw[hK]
 cases d1 with
 |none=>obtain rfl:=bx.none;cases e;rfl
 |bool b=>obtain rfl:=bx.bool;cases e;rfl
 |int i=>obtain rfl:=bx.int;cases e;rfl
 |str y=>
  obtain rfl:=bx.str
  simp only[CA] at e
  split at e
  ·cases e;exact⟨by assumption,rfl⟩
  ·cases e
 |list ds=>obtain⟨p,xs,rfl,hq,r⟩:=bx.list I1.sub;cases e;exact .inl ⟨xs,.inl hq,jP r⟩
 |tuple ds=>obtain⟨p,xs,rfl,hq,r⟩:=bx.tuple I1.sub;cases e;exact .inr (.inl ⟨xs,hq,jP r⟩)
 |dict ds=>cases e
def dU (fa:VF D):VF Bool:=λvs β=>(fa vs β).bnd λx β1=>match x with
 | .bool c=>.ok c β1
 |_=>.bad
theorem bR {op:CmpOp}{r:R2}{g:D->D->Option D}(ho:jz X (compareOp op) r)(pr:j3 Γ.K r g .v)(ha:SE X Γ E a fa La ma)(hb:SE X Γ E b fb Lb mb)(hm:behindInMarks op b=false):zr X Γ E (.Compare a [op] [b] pos) (dU (f2 fa fb g)) (La ++ Lb):=by
 refine PT.post (uF ho ha hb hm) λσ H Q ⟨env,G,B,β,I,o⟩=>?_
 refine iN pr I (o.bnd.imp λd β' h v G' H' I' s' m' vo=>?_)
 cases d with
 |bool c=>cases vo;exact⟨c,rfl,h G' H' I' s' m'⟩
 |_=>exact h.elim
def BH (t:VF Bool):VF Bool:=λvs β=>(t vs β).bnd λc β1=>.ok (!c) β1
def Hl (t u:VF Bool):VF Bool:=λvs β=>(t vs β).bnd λc β1=>if c=true then u vs β1 else .ok false β1
def kK (t u:VF Bool):VF Bool:=λvs β=>(t vs β).bnd λc β1=>if c=true then .ok true β1 else u vs β1
variable {ta tb tc:VF Bool}
def oh (ha:zr X Γ E a ta La):zr X Γ E (.UnaryOp .Not a pos) (BH ta) La:=by
 refine PT.post (tu ha) λσ H Q ⟨env,G,B,β,I,o⟩=>?_
 exact⟨env,G,B,β,I,o.bnd.imp λc β1 h=>h⟩
def zo.t (h:zo X Γ E e ta La):zr X Γ E e ta La:=PW.pt h
def kH (ha:zr X Γ E a ta La):zo X Γ E (.BoolOp .Or [a] pos) ta La:=xc ha
theorem qZ {rest:List Expr}(ha:zr X Γ E a ta La)(hb:zo X Γ E (.BoolOp .Or (b :: rest) pos) tb Lb)(hbr:∀i,i∈Lb->Γ.br i=false):zo X Γ E (.BoolOp .Or (a :: b :: rest) pos) (kK ta tb) (La ++ Lb):=by
 refine PW.post (A9 ha hb) λσ H Q ⟨env,G,B,β,I,o⟩=>?_
 refine⟨env,G,B,β,I,o.bnd.imp λc β1 h G1 H1 I1 s1 m1=>?_⟩
 cases c with
 |true=>
  obtain⟨G2,I2,s2⟩:=I1.aJ Lb hbr
  exact rX (h G2 H1 (by rw[cv];exact I2) (s1.trans s2) m1)
 |false=>exact lY ⟨_,G1,B,β1,I1,by rw[fL];exact Out.imp h λd β' k G' H' I' s' m'=>k G' H' (by rw[cv];exact I') (s1.trans s') (m1.trans m')⟩
def G9 (t:VF Bool)(fa fb:VF D):VF D:=λvs β=>(t vs β).bnd λc β1=>if c=true then fa vs β1 else fb vs β1
def av:VF (List D):=λ_ β=>.ok [] β
def ae (fa:VF D)(fr:VF (List D)):VF (List D):=λvs β=>(fa vs β).bnd λx β1=>(fr vs β1).bnd λxs β2=>.ok (x :: xs) β2
variable {fr:VF (List D)}{es:List Expr}
def ay:SA X Γ E [] av []:=PA.post az λσ H Q ⟨env,G,B,β,I,o⟩=>o [] G H I (af.refl _) (dG.refl _ _) .nil
def ak (ha:SE X Γ E a fa La .v)(hr:SA X Γ E es fr Lb)(hs:starEach (a :: es) X.env=(false,eval a X.env) :: starEach es X.env:=by rfl):SA X Γ E (a :: es) (ae fa fr) (La ++ Lb):=by
 refine PA.post (ag ha hr hs) λσ H Q ⟨env,G,B,β,I,o⟩=>?_
 refine⟨env,G,B,β,I,o.bnd.imp λd1 β1 h x G1 H1 I1 s1 m1 vx=>⟨aJ La env,G1,B,β1,I1,?_⟩⟩
 rw[fL]
 refine h.bnd.imp λds β2 k xs G2 H2 I2 s2 m2 r=>?_
 exact k (x :: xs) G2 H2 (by rw[cv];exact I2) (s1.trans s2) (m1.trans m2) (.cons (vx.mono s2) r)
def bV (fr:VF (List D)):VF D:=λvs β=>(fr vs β).bnd λds β1=>if ds.length<=sizeLine then .ok (.tuple ds) β1 else .bad
def bW (fr:VF (List D)):VF D:=λvs β=>(fr vs β).bnd λds β1=>if ds.length<=sizeLine then .ok (.list ds) β1 else .bad
def jk {x1}(h:SA X Γ E es fr L):SE X Γ E (.Tuple es x1 pos) (bV fr) L .v:=by
 refine PE.post' (rP h) λσ H Q ⟨env,G,B,β,I,o⟩=>?_
 refine⟨env,G,B,β,I,o.bnd.imp λds β1 k xs G1 H1 I1 s1 m1 r=>?_⟩
 by_cases hz:ds.length<=sizeLine
 ·rw[Hs hz] at k
  refine⟨by rw[r.len];exact hz,λp hp=>?_⟩
  have x:=Ext.new I1.sub (o:=.tup xs) hp
  exact k _ _ _ (I1.ext x) (s1.trans x.gg) (m1.trans (x.hh.mov B)) (.tup (.inl (.inl ah)) (r.mono x.gg))
 ·rw[Ht hz] at k;exact k.elim
def df (h:SA X Γ E es fr L):SE X Γ E (.List es pos) (bW fr) L .w:=by
 refine PE.post' (jw h) λσ H Q ⟨env,G,B,β,I,o⟩=>?_
 refine⟨env,G,B,β,I,o.bnd.imp λds β1 k xs G1 H1 I1 s1 m1 r=>?_⟩
 by_cases hz:ds.length<=sizeLine
 ·rw[Hs hz] at k
  refine⟨by rw[r.len];exact hz,λp hp=>?_⟩
  have x:=Ext.own I1.sub (o:=.lst xs) hp
  exact k _ _ _ (I1.ext x) s1 (m1.trans (x.hh.mov B)) ⟨p,rfl,dt m1 I1.boxThere hp,I1.sub.free hp,xs,ah,r⟩
 ·rw[Ht hz] at k;exact k.elim
inductive FR where
 |ok (d:D) (fresh:Bool)
 |exc (c:Str)
 |bad
def FV (K:Frag)(H G' H':Hp)(fr:Bool)(d:D)(v:V):Prop:=if fr=true then ∃a,v=.ref a/\H a=none/\G' a=none/\Own K G' H' a d else Rp K G' v d
def zq (K:Frag)(ca:Str->Addr)(n:Nat)(F:List D->FR):Sp:=λvs H Q E=>∃G ds,af G H/\ds.length=n/\bw K G vs ds/\match F ds with
 | .ok d fr=>∀v G' H',af H H'->af G G'->af G' H'->(∀b,Mx H b->G b=none->G' b=none)->FV K H G' H' fr d v->Q v H'
 | .exc c=>∀H',af H H'->E (.ref (ca c)) none H'
 | .bad=>False
structure ij (P:Program)(w:World)(K:Frag)(mg:Str->Option Value)(base:Heap)(ca:Str->Addr)(x:Str)(ps:List Str)(k:Nat)(F:List D->FR):Prop where
 ex:∃f fd,mg x=some (.ref f)/\PySem.W.keepIn K (.ref f)=true/\Binds K fd ps []/\cP P w K mg base (i7 P w) k f fd ps (zq K ca ps.length F)
 len:∀ds,F ds≠.bad->ds.length=ps.length
def aO (F:List D->FR)(fr:VF (List D)):VF D:=λvs β=>(fr vs β).bnd λds β1=>match F ds with
 | .ok d _=>.ok d β1
 | .exc c=>.exc c
 | .bad=>.bad
def pX (F:List D->FR)(fr:VF (List D)):VF D:=λvs β=>(fr vs β).bnd λds β1=>match F ds with
 | .ok d true=>.ok d β1
 | .ok _ false=>.bad
 | .exc c=>.exc c
 | .bad=>.bad
def SR.called {B:Option Addr}{G1 H1 G2 H2:Hp}{σ:St}{env:En}{β:Int}(I1:SR Γ B G1 H1 σ env β)(h:af H1 H2)(g:af G1 G2)(s:af G2 H2)(n:∀b,Mx H1 b->G1 b=none->G2 b=none):SR Γ B G2 H2 σ env β/\dG B H1 H2:=by
 refine⟨⟨s,I1.old.trans g,λb n1 n2=>?_,λb o e np=>(I1.keep b o e np).step h,λb hb=>?_,I1.fix,λb e=>?_,I1.len,λi t e=>?_,I1.sep⟩,h.mov B⟩
 ·exact n b (I1.thereM n1) (I1.new b n1 n2)
 ·exact (I1.pin b hb).same λo e=>h b o e
 ·obtain⟨h1,h2,h3⟩:=I1.box b e
  exact⟨h b _ h1,n b (Mx.lst h1) h2,h3⟩
 ·have q:=I1.slot i t e
  cases t with
  |no=>trivial
  |fz d=>obtain⟨v,h1,h2⟩:=q;exact⟨v,h1,h2.mono g⟩
  |ow d=>
   obtain⟨p,h1,h2,h3,h4,h5⟩:=q
   exact⟨p,h1,h2,n p h5.mx h3,h4,h5.mono g λo q=>h p o q⟩
  |bx=>exact q
  |br d=>obtain⟨b1,p,h1,h4,hp,h5⟩:=q;exact⟨b1,p,h1,h4,hp,h5.mono g λo q=>h p o q⟩
def SR.kp {B:Option Addr}{G H H':Hp}{σ:St}{env:En}{β:Int}(I:SR Γ B G H σ env β)(h:af H H'):Kp Γ H':=λb o e n=>(I.keep b o e n).step h
theorem mP {F:List D->FR}{ps:List Str}{Q:VK}{B:Option Addr}{G H:Hp}{σ:St}{env:En}{β:Int}(I:SR Γ B G H σ env β)(hK:X.K=Γ.K){wv:Bool}
  (h:Out Γ E (if wv=true then pX F fr (vl env) β else aO F fr (vl env) β) λd β'=>∀v G' H',SR Γ B G' H' σ (aJ L env) β'->af G G'->dG B H H'->VO Γ.K B H G' H' (if wv=true then .w else .v) d v->Q v H') (hl:∀ds,F ds≠.bad->ds.length=ps.length) :
  aT Γ E fr L σ H λvs H1=>zq X.K Γ.ca ps.length F vs H1 Q E:=by
 refine⟨env,G,B,β,I,?_⟩
 have h:Out Γ E (fr (vl env) β) λds β1=>Out Γ E (match F ds with
   | .ok d true=>.ok d β1
   | .ok d false=>if wv=true then .bad else .ok d β1
   | .exc c=>.exc c
   | .bad=>.bad) λd β'=>∀v G' H',SR Γ B G' H' σ (aJ L env) β'->af G G'->dG B H H'->VO Γ.K B H G' H' (if wv=true then .w else .v) d v->Q v H':=by
  cases wv with
  |true=>
   simp only[IX] at h ⊢
   refine h.bnd.imp λds β1 h=>?_
   cases q:F ds with
   |ok d b=>rw[q] at h;cases b <;> exact h
   |exc c=>rw[q] at h;exact h
   |bad=>rw[q] at h;exact h
  |false=>
   simp only[HM,Iy] at h ⊢
   refine h.bnd.imp λds β1 h=>?_
   cases q:F ds with
   |ok d b=>rw[q] at h;cases b <;> exact h
   |exc c=>rw[q] at h;exact h
   |bad=>rw[q] at h;exact h
 refine h.imp λds β1 k vs G1 H1 I1 s1 m1 r=>?_
 refine⟨G1,ds,I1.sub,?_,by rw[hK];exact r,?_⟩
 ·exact hl ds λz=>by rw[z] at k;exact k
 cases q:F ds with
 |bad=>rw[q] at k;exact k
 |exc c=>rw[q] at k;exact λH' s=>k H' (I1.kp s)
 |ok d b=>
  rw[q] at k
  intro v G' H' hh hg hs hn fv
  obtain⟨I2,m2⟩:=I1.called hh hg hs hn
  cases b with
  |true=>
   obtain⟨p,rfl,p1,p2,p3⟩:∃a,v=.ref a/\H1 a=none/\G' a=none/\Own X.K G' H' a d:=fv
   rw[hK] at p3
   have hp:=dt m1 I1.boxThere p1
   cases wv with
   |true=>exact k _ G' H' I2 (s1.trans hg) (m1.trans m2) ⟨p,rfl,hp,p2,p3⟩
   |false=>
    obtain⟨q1,q2,q3,q4⟩:=I1.fresh p1
    obtain⟨G3,I3,s3,r3⟩:=I2.letIn q1 p2 q3 q4 p3
    exact k _ G3 H' I3 ((s1.trans hg).trans s3) (m1.trans m2) r3
  |false=>
   cases wv with
   |true=>exact k.elim
   |false=>
    have fv:Rp X.K G' v d:=fv
    rw[hK] at fv
    exact k _ G' H' I2 (s1.trans hg) (m1.trans m2) fv
def bh {x:Str}{ps:List Str}{k:Nat}{F:List D->FR}{p:Pos}(hf:ij X.prog X.w X.K X.mg X.base Γ.ca x ps k F)(hr:cA k X.A)(hx:Passes (i7 X.prog X.w) X E)(hK:X.K=Γ.K)(hg:Gl X x)(ha:SA X Γ E (a :: es) fr L)(hdb:(x == ("__debug__":Str))=false:=by decide)
  (he:starEach (a :: es) X.env=(false,eval a X.env) :: starEach es X.env:=by rfl) (hpl:(backTo pos (starEach es X.env)).any (·.1)=false:=by rfl):SE X Γ E (.Call (.Name x p) (a :: es) [] pos) (aO F fr) L .v:=by
 obtain⟨f,fd,hm,hk,hb,hF⟩:=hf.ex
 refine PE.post' (j5 (dvs:=[]) hF hr hg hm hk hb .nil hx ha hdb he hpl) λσ H Q ⟨env,G,B,β,I,o⟩=>?_
 show aT Γ E fr L σ H λvs H1=>zq X.K Γ.ca ps.length F (vs ++ []) H1 Q E
 have:=mP (Q:=Q) (wv:=false) (ps:=ps) I hK o hf.len
 simpa using this
def yj {x:Str}{ps:List Str}{k:Nat}{F:List D->FR}{p:Pos}(hf:ij X.prog X.w X.K X.mg X.base Γ.ca x ps k F)(hr:cA k X.A)(hx:Passes (i7 X.prog X.w) X E)(hK:X.K=Γ.K)(hg:Gl X x)(ha:SA X Γ E (a :: es) fr L)(hdb:(x == ("__debug__":Str))=false:=by decide)
  (he:starEach (a :: es) X.env=(false,eval a X.env) :: starEach es X.env:=by rfl) (hpl:(backTo pos (starEach es X.env)).any (·.1)=false:=by rfl):SE X Γ E (.Call (.Name x p) (a :: es) [] pos) (pX F fr) L .w:=by
 obtain⟨f,fd,hm,hk,hb,hF⟩:=hf.ex
 refine PE.post' (j5 (dvs:=[]) hF hr hg hm hk hb .nil hx ha hdb he hpl) λσ H Q ⟨env,G,B,β,I,o⟩=>?_
 show aT Γ E fr L σ H λvs H1=>zq X.K Γ.ca ps.length F (vs ++ []) H1 Q E
 have:=mP (Q:=Q) (wv:=true) (ps:=ps) I hK o hf.len
 simpa using this
end
inductive SO where
 |nx (env:En) (β:Int)
 |bk (env:En) (β:Int)
 |ct (env:En) (β:Int)
 |rt (d:D) (fr:Bool) (β:Int)
 |exc (c:Str)
 |bad
abbrev SF:=En->Int->SO
def RV (Γ:Fx)(G' H':Hp)(fr:Bool)(d:D)(v:V):Prop:=if fr=true then ∃a,v=.ref a/\Γ.H0 a=none/\G' a=none/\Own Γ.K G' H' a d else Rp Γ.K G' v d
def l0 (Γ:Fx)(E:XK)(G:Hp)(N:Ends):SO->Prop
 | .nx env β=>∀B G' H' σ,SR Γ B G' H' σ env β->af G G'->N.nx σ H'
 | .bk env β=>∀B G' H' σ,SR Γ B G' H' σ env β->af G G'->N.bk σ H'
 | .ct env β=>∀B G' H' σ,SR Γ B G' H' σ env β->af G G'->N.ct σ H'
 | .rt d fr β=>∀B G' H' σ env v,SR Γ B G' H' σ env β->af G G'->RV Γ G' H' fr d v->N.rt v H'
 | .exc c=>∀H',Kp Γ H'->E (.ref (Γ.ca c)) none H'
 | .bad=>False
def sT (Γ:Fx)(E:XK)(m:SF):TS:=λN σ H=>∃env G B β,SR Γ B G H σ env β/\l0 Γ E G N (m env β)
def SS (X:Cx)(Γ:Fx)(E:XK)(st:Stmt)(m:SF):Prop:=PS X st (sT Γ E m)
def wy (X:Cx)(Γ:Fx)(E:XK)(st:List Stmt)(m:SF):Prop:=jU X st (sT Γ E m)
def jU.post {X:Cx}{st:List Stmt}{t u:TS}(h:jU X st t)(m:∀D σ H,u D σ H->t D σ H):jU X st u:=λpins s σ H D I q=>h pins s σ H D I (m D σ H q)
def aF (m m':SF):SF:=λenv β=>match m env β with
 | .nx env' β'=>m' env' β'
 |r=>r
def pj:SF:=λenv β=>.nx env β
section
variable {X:Cx}{Γ:Fx}{E:XK}{e a b c:Expr}{f fa fb:VF D}{L La Lb:List Nat}{md ma mb:Md}{pos:Pos}{st:Stmt}{sts:List Stmt}{m m':SF}{ta:VF Bool}
theorem l0.weak {G G1:Hp}{N:Ends}{r:SO}(h:l0 Γ E G N r)(s:af G G1):l0 Γ E G1 N r:=by
 cases r with
 |nx env β=>exact λB G' H' σ I s'=>h B G' H' σ I (s.trans s')
 |bk env β=>exact λB G' H' σ I s'=>h B G' H' σ I (s.trans s')
 |ct env β=>exact λB G' H' σ I s'=>h B G' H' σ I (s.trans s')
 |rt d fr β=>exact λB G' H' σ env v I s'=>h B G' H' σ env v I (s.trans s')
 |exc c=>exact h
 |bad=>exact h
def cY:wy X Γ E [] pj:=jU.post j8 λN σ H ⟨env,G,B,β,I,o⟩=>o B G H σ I (af.refl _)
theorem ax (h:SS X Γ E st m)(h':wy X Γ E sts m'):wy X Γ E (st :: sts) (aF m m'):=by
 refine jU.post (bq h h') λN σ H ⟨env,G,B,β,I,o⟩=>?_
 refine⟨env,G,B,β,I,?_⟩
 unfold aF at o
 cases q:m env β with
 |nx env' β'=>rw[q] at o;exact λB' G' H' σ' I' s'=>⟨env',G',B',β',I',o.weak s'⟩
 |bk env' β'=>rw[q] at o;exact o
 |ct env' β'=>rw[q] at o;exact o
 |rt d fr β'=>rw[q] at o;exact o
 |exc c=>rw[q] at o;exact o
 |bad=>rw[q] at o;exact o
def aG (h:SS X Γ E st m):wy X Γ E [st] m:=b6 h
def toS {α:Type}(r:R α)(k:α->Int->SO):SO:=match r with
 | .ok x β=>k x β
 | .exc c=>.exc c
 | .bad=>.bad
theorem bO {α:Type}{G:Hp}{N:Ends}{r:R α}{k:α->Int->SO}{P:α->Int->Prop}(h:l0 Γ E G N (toS r k))(i:∀x β,l0 Γ E G N (k x β)->P x β):Out Γ E r P:=by
 cases r with
 |ok x β=>exact i x β h
 |exc c=>exact h
 |bad=>exact h
def SR.set' {B:Option Addr}{G H:Hp}{σ:St}{env:En}{β:Int}(I:SR Γ B G H σ env β)(i:Nat){v:V}{d:D}(h:Rp Γ.K G v d):SR Γ B G H (σ.set i (some v)) (env.set i (.fz d)) β:=by
 by_cases hi:i < env.length
 ·exact I.set hi h
 ·have h1:env.set i (.fz d)=env:=Jx (by omega)
  have h2:σ.set i (some v)=σ:=Jx (by rw[I.len];omega)
  rw[h1,h2];exact I
def SR.setOw' {B:Option Addr}{G H:Hp}{σ:St}{env:En}{β:Int}(I:SR Γ B G H σ env β)(i:Nat){a:Addr}{d:D}(h0:Γ.H0 a=none)(hg:G a=none)(hb:B≠some a)(h:Own Γ.K G H a d)(hn:∀(j:Nat) (d':D),env[j]? =some (.ow d')->σ[j]?≠some (some (.ref a))):SR Γ B G H (σ.set i (some (.ref a))) (env.set i (.ow d)) β:=by
 by_cases hi:i < env.length
 ·exact I.setOw hi h0 hg hb h λj d' e _=>hn j d' e
 ·have h1:env.set i (.ow d)=env:=Jx (by omega)
  have h2:σ.set i (some (.ref a))=σ:=Jx (by rw[I.len];omega)
  rw[h1,h2];exact I
def bF (i:Nat)(L:List Nat)(f:VF D):SF:=λenv β=>toS (f (vl env) β) λd β'=>.nx ((aJ L env).set i (.fz d)) β'
def aX {i:Nat}{x:Str}{pos':Pos}(he:SE X Γ E e f L .v)(hN:X.N.Nodup)(hi:X.N[i]? =some x:=by rfl)(hx:Loc X.env.scope x:=by first |exact Or.inl rfl |exact Or.inr rfl)(hs:swapsWith e (some (.Name x pos')) pos.line X.env=pure false:=by rfl)(hf:X.fn x=true\/X.env.scope.names.lookup x=some .local:=by first |exact .inl rfl |exact .inr rfl |assumption) :
  SS X Γ E (.Assign [.Name x pos'] e pos) (bF i L f):=by
 refine PS.post (gf hN hi hx he hs hf) λN σ H ⟨env,G,B,β,I,o⟩=>?_
 refine⟨env,G,B,β,I,bO o λd β' k v G' H' I' s' m' vo=>?_⟩
 exact k B G' H' _ (I'.set' i vo) s'
def kG (i:Nat)(L:List Nat)(f:VF D):SF:=λenv β=>toS (f (vl env) β) λd β'=>.nx ((aJ L env).set i (.ow d)) β'
def og {i:Nat}{x:Str}{pos':Pos}(he:SE X Γ E e f L .w)(hN:X.N.Nodup)(hi:X.N[i]? =some x:=by rfl)(hx:Loc X.env.scope x:=by first |exact Or.inl rfl |exact Or.inr rfl)(hs:swapsWith e (some (.Name x pos')) pos.line X.env=pure false:=by rfl)(hf:X.fn x=true\/X.env.scope.names.lookup x=some .local:=by first |exact .inl rfl |exact .inr rfl |assumption) :
  SS X Γ E (.Assign [.Name x pos'] e pos) (kG i L f):=by
 refine PS.post (gf hN hi hx he hs hf) λN σ H ⟨env,G,B,β,I,o⟩=>?_
 refine⟨env,G,B,β,I,bO o λd β' k v G' H' I' s' m' vo=>?_⟩
 obtain⟨p,rfl,h1,h2,h3⟩:=vo
 obtain⟨q1,q2,q3,q4⟩:=I.fresh h1
 exact k B G' H' _ (I'.setOw' i q1 h2 q3 h3 λj d' z=>q4 j d' (ou z)) s'
def EJ (L:List Nat)(f:VF D):SF:=λenv β=>toS (f (vl env) β) λ_ β'=>.nx (aJ L env) β'
def cQ (f:VF D):SF:=λenv β=>toS (f (vl env) β) λd β'=>.rt d false β'
def bS (he:SE X Γ E e f L .v):SS X Γ E (.Return (some e) pos) (cQ f):=by
 refine PS.post (eS he) λN σ H ⟨env,G,B,β,I,o⟩=>?_
 exact⟨env,G,B,β,I,bO o λd β' k v G' H' I' s' m' vo=>k B G' H' σ _ v I' s' vo⟩
def qL (f:VF D):SF:=λenv β=>toS (f (vl env) β) λd β'=>.rt d true β'
def oz (he:SE X Γ E e f L .w):SS X Γ E (.Return (some e) pos) (qL f):=by
 refine PS.post (eS he) λN σ H ⟨env,G,B,β,I,o⟩=>?_
 refine⟨env,G,B,β,I,bO o λd β' k v G' H' I' s' m' vo=>?_⟩
 obtain⟨p,rfl,h1,h2,h3⟩:=vo
 obtain⟨q1,_⟩:=I.fresh h1
 exact k B G' H' σ _ _ I' s' ⟨p,rfl,q1,h2,h3⟩
def uf (i:Nat):SF:=λenv β=>match env[i]? with
 |some (.fz d)=>.rt d false β
 |some (.ow d)=>.rt d true β
 |_=>.bad
theorem uC (i:Nat){x:Str}{p:Pos}(hN:X.N[i]? =some x:=by rfl)(hv:u7 X.env.scope x:=by first |exact Or.inl rfl |exact Or.inr (Or.inl rfl) |exact Or.inr (Or.inr rfl))(hd:(x == ("__debug__":Str))=false:=by decide)
  (hcd:(x == ("__classdict__":Str))=false:=by decide):SS X Γ E (.Return (some (.Name x p)) pos) (uf i):=by
 refine PS.post (eS (fB hN hv hd hcd)) λN σ H ⟨env,G,B,β,I,o⟩=>?_
 unfold uf at o
 cases q:env[i]? with
 |none=>rw[q] at o;exact o.elim
 |some s=>
  rw[q] at o
  cases s with
  |no=>exact o.elim
  |bx=>exact o.elim
  |br d=>exact o.elim
  |fz d=>
   obtain⟨v,h1,h2⟩:=I.slot i _ q
   exact⟨v,h1,o B G H σ env v I (af.refl _) h2⟩
  |ow d=>
   obtain⟨p,h1,h2,h3,h4,h5⟩:=I.slot i _ q
   exact⟨_,h1,o B G H σ env _ I (af.refl _) ⟨p,rfl,h2,h3,h5⟩⟩
def jI (L:List Nat)(t:VF Bool)(m m':SF):SF:=λenv β=>toS (t (vl env) β) λc β'=>if c=true then m (aJ L env) β' else m' (aJ L env) β'
theorem gj {x y:List Stmt}(hc:zr X Γ E c ta L)(ha:wy X Γ E x m)(hb:wy X Γ E y m'):SS X Γ E (.If c x y pos) (jI L ta m m'):=by
 refine PS.post (uB hc ha hb) λN σ H ⟨env,G,B,β,I,o⟩=>?_
 refine⟨env,G,B,β,I,bO o λd β' k G' H' I' s' m'=>?_⟩
 cases d with
 |true=>exact rX ⟨_,G',B,β',I',l0.weak k s'⟩
 |false=>exact lY ⟨_,G',B,β',I',l0.weak k s'⟩
def fZ (L:List Nat)(t:VF Bool)(m:SF):Nat->SF
 | 0=>λ_ _=>.bad
 |n + 1=>λenv β=>toS (t (vl env) β) λc β'=>if c=true then (match m (aJ L env) β' with
   | .nx env2 β2=>fZ L t m n env2 β2
   | .ct env2 β2=>fZ L t m n env2 β2
   | .bk env2 β2=>.nx env2 β2
   |r=>r) else .nx (aJ L env) β'
theorem qk {x:List Stmt}(n:Nat)(hp:PassesOwn (model X.prog X.w) X.A X.env X.xe)(hc:zr X Γ E c ta L)(hb:wy X Γ E x m):SS X Γ E (.While c x [] pos) (fZ L ta m n):=by
 refine PS.post (xu hp hc hb) λN σ H ⟨env,G,B,β,I,o⟩=>?_
 refine⟨λk σ H=>∃env G1 B β,SR Γ B G1 H σ env β/\af G G1/\l0 Γ E G1 N (fZ L ta m k env β),⟨n,env,G,B,β,I,af.refl _,o⟩,?_⟩
 rintro k σ H ⟨env,G1,B,β,I,sG,o⟩
 cases k with
 |zero=>exact o.elim
 |succ k=>
  refine⟨env,G1,B,β,I,bO o λd β' q G' H' I' s' m'=>?_⟩
  cases d with
  |false=>exact lY (q B G' H' σ I' s')
  |true=>
   refine rX ⟨λσ H=>∃env G1 B β,SR Γ B G1 H σ env β/\af G G1/\l0 Γ E G1 N (fZ L ta m k env β),λσ' H' h=>⟨k,Nat.lt_succ_self k,h⟩,aJ L env,G',B,β',I',?_⟩
   rw[Hs rfl] at q
   cases r:m (aJ L env) β' with
   |nx env2 β2=>rw[r] at q;exact λB2 G2 H2 σ2 I2 s2=>⟨env2,G2,B2,β2,I2,(sG.trans s').trans s2,l0.weak q (s'.trans s2)⟩
   |ct env2 β2=>rw[r] at q;exact λB2 G2 H2 σ2 I2 s2=>⟨env2,G2,B2,β2,I2,(sG.trans s').trans s2,l0.weak q (s'.trans s2)⟩
   |bk env2 β2=>rw[r] at q;exact λB2 G2 H2 σ2 I2 s2=>q B2 G2 H2 σ2 I2 (s'.trans s2)
   |rt d fr β2=>rw[r] at q;exact l0.weak q s'
   |exc c=>rw[r] at q;exact q
   |bad=>rw[r] at q;exact q
def Walk (K:Frag)(B:Option Addr)(G H1:Hp)(ds:List D)(J:It):Prop:=∀Gc H (i:Nat),af G Gc->af Gc H->dG B H1 H->
 (i < ds.length->J.go i H/\∀x H',J.yld i H x H'->∃G' d,Ext Gc H G' H'/\ds[i]? =some d/\Rp K G' x d)/\(ds.length<=i->J.stop i H)
def iT (Γ:Fx)(E:XK)(f:VF (List D))(L:List Nat)(md:Md):TI:=λσ H Rr=>∃env G B β,SR Γ B G H σ env β/\
 Out Γ E (f (vl env) β) λds β'=>∀J G' H',SR Γ B G' H' σ (aJ L env) β'->af G G'->dG B H H'->Walk Γ.K B G' (match md with | .b=>H' |_=>λ_=>none) ds J->Rr J H'
def SI (X:Cx)(Γ:Fx)(E:XK)(tg e:Expr)(f:VF (List D))(L:List Nat)(md:Md):Prop:=PI X tg e (iT Γ E f L md)
def PI.post {X:Cx}{tg e:Expr}{t u:TI}(h:PI X tg e t)(m:∀σ H Q,u σ H Q->t σ H Q):PI X tg e u:=λpins s σ H Q I q=>h pins s σ H Q I (m σ H Q q)
variable {tg:Expr}
def jT:D->Option (List D)
 | .list ds=>some ds
 | .tuple ds=>some ds
 |_=>none
def dJ (fa:VF D):VF (List D):=λvs β=>(fa vs β).bnd λx β1=>R.of (jT x) β1
end
def Hj (K:Frag)(tl:TE):TI:=λσ H R=>tl σ H λx H1=>∃a xs,x=.ref a/\((dI K H1 a xs/\R (vY K a) H1)\/(eB K H1 a xs/\R (BF K a) H1))
section
variable {X:Cx}{tg l:Expr}{tl:TE}
def Bc (hl:PE X l tl):PI X tg l (Hj X.K tl):=by
 intro pins s σ H R I h
 refine bB (hl pins s σ H _ I h) λv s1 ⟨x,H1,I1,r1,q1⟩=>?_
 obtain⟨a,xs,e,q⟩:=q1
 subst e
 cases r1
 rcases q with⟨hq,q⟩ | ⟨hq,q⟩
 ·obtain⟨its,rv,p,hz⟩:=I1.list hq
  refine J4 p.isList ?_
  refine⟨s1.heap.objs.size,[s1.heap.objs.size],_,_,H1,rfl,I1.kept (t':=s1.toks) λb o e=>Hx _ e,jB a _,⟨_,HR _ rfl,rfl,rfl⟩,λb hb=>?_,q⟩
  have e:b=s1.heap.objs.size:=by simpa using hb
  subst e
  exact I1.fpOk (Hv _) (I1.hok.fresh (Hv _))
 ·obtain⟨its,rv,p,hz⟩:=I1.tuple hq
  refine wpAny_pyIter_tuple (show s1.heap.IsTuple a its.toArray from p) ?_
  refine⟨s1.heap.objs.size,[s1.heap.objs.size],_,_,H1,rfl,I1.kept (t':=s1.toks) λb o e=>Hx _ e,kq a _,⟨_,HR _ rfl,rfl,rfl⟩,λb hb=>?_,q⟩
  have e:b=s1.heap.objs.size:=by simpa using hb
  subst e
  exact I1.fpOk (Hv _) (I1.hok.fresh (Hv _))
end
section
variable {X:Cx}{Γ:Fx}{E:XK}{e a b c:Expr}{f fa fb:VF D}{L La Lb:List Nat}{md ma mb:Md}{pos:Pos}{st:Stmt}{sts:List Stmt}{m m':SF}{ta:VF Bool}{tg:Expr}
def jm {K:Frag}{B:Option Addr}{G H1:Hp}{p:Addr}{xs:List V}{ds:List D}(h:∀Gc H,af G Gc->af Gc H->dG B H1 H->dI K H p xs)(r:bw K G xs ds):Walk K B G H1 ds (vY K p):=λGc H i s1 s2 m=>by
 have hq:=h Gc H s1 s2 m
 refine⟨λhi=>⟨?_,λx H' y=>?_⟩,λhi=>⟨xs,hq,by rw[r.len];exact hi⟩⟩
 ·have hi':i < xs.length:=by rw[r.len];exact hi
  exact⟨xs,xs[i],hq,by simp[hi']⟩
 ·obtain⟨rfl,y⟩:=y
  obtain⟨d,e,q⟩:=r.at' (y xs hq)
  exact⟨Gc,d,Ext.refl s2,e,q.mono s1⟩
def ql {K:Frag}{B:Option Addr}{G H1:Hp}{p:Addr}{xs:List V}{ds:List D}(h:∀Gc H,af G Gc->af Gc H->dG B H1 H->eB K H p xs)(r:bw K G xs ds):Walk K B G H1 ds (BF K p):=λGc H i s1 s2 m=>by
 have hq:=h Gc H s1 s2 m
 refine⟨λhi=>⟨?_,λx H' y=>?_⟩,λhi=>⟨xs,hq,by rw[r.len];exact hi⟩⟩
 ·have hi':i < xs.length:=by rw[r.len];exact hi
  exact⟨xs,xs[i],hq,by simp[hi']⟩
 ·obtain⟨rfl,y⟩:=y
  obtain⟨d,e,q⟩:=r.at' (y xs hq)
  exact⟨Gc,d,Ext.refl s2,e,q.mono s1⟩
theorem E2 (hK:X.K=Γ.K)(ha:SE X Γ E a fa La .v):SI X Γ E tg a (dJ fa) La .v:=by
 refine PI.post (Bc ha) λσ H Q ⟨env,G,B,β,I,o⟩=>?_
 refine⟨env,G,B,β,I,o.bnd.imp λd1 β1 h x G1 H1 I1 s1 m1 vx=>?_⟩
 obtain⟨ds,e,k⟩:=h.of
 rw[hK]
 have vx:Rp Γ.K G1 x d1:=vx
 cases d1 with
 |list l=>
  cases e
  cases vx with
  | @lst p xs _ hq r=>exact⟨p,xs,rfl,.inl ⟨.inl (Rd.mono (.inl hq) I1.sub),k _ G1 H1 I1 s1 m1 (jm (λGc H t1 t2 _=>.inl (Rd.mono (.inl hq) (t1.trans t2))) r)⟩⟩
 |tuple l=>
  cases e
  cases vx with
  | @tup p xs _ hq r=>exact⟨p,xs,rfl,.inr ⟨hq.grow I1.sub.grow,k _ G1 H1 I1 s1 m1 (ql (λGc H t1 t2 _=>hq.grow (t1.trans t2).grow) r)⟩⟩
 |_=>cases e
theorem A3 (hK:X.K=Γ.K)(ha:SE X Γ E a fa La ma):SI X Γ E tg a (dJ fa) La .b:=by
 refine PI.post (Bc ha) λσ H Q ⟨env,G,B,β,I,o⟩=>?_
 refine⟨env,G,B,β,I,o.bnd.imp λd1 β1 h x G1 H1 I1 s1 m1 vx=>?_⟩
 obtain⟨ds,e,k⟩:=h.of
 rw[hK]
 have vx:=vx.brw I.boxThere
 cases d1 with
 |list l=>
  cases e
  rcases vx with vx | ⟨p,rfl,hb,xs,q,r⟩
  ·cases vx with
   | @lst p xs _ hq r=>exact⟨p,xs,rfl,.inl ⟨.inl (Rd.mono (.inl hq) I1.sub),k _ G1 H1 I1 s1 m1 (jm (λGc H t1 t2 _=>.inl (Rd.mono (.inl hq) (t1.trans t2))) r)⟩⟩
  ·exact⟨p,xs,rfl,.inl ⟨.inl (.inl q),k _ G1 H1 I1 s1 m1 (jm (λGc H t1 t2 mv=>.inl (.inl (mv.1 p _ q hb))) r)⟩⟩
 |tuple l=>
  cases e
  rcases vx with vx | ⟨p,rfl,hb,q⟩
  ·cases vx with
   | @tup p xs _ hq r=>exact⟨p,xs,rfl,.inr ⟨hq.grow I1.sub.grow,k _ G1 H1 I1 s1 m1 (ql (λGc H t1 t2 _=>hq.grow (t1.trans t2).grow) r)⟩⟩
  ·exact q.elim
 |_=>cases e
def dv (lo:Int)(n:Nat):List D:=(List.range n).map λ(k:Nat)=>int (lo + k)
def mZ (lo:Int)(n:Nat):(dv lo n).length=n:=by unfold dv;simp
def y2 {K:Frag}{B:Option Addr}{G H1:Hp}(lo:Int)(n:Nat):Walk K B G H1 (dv lo n) (xJ lo n):=λGc H i s1 s2 m=>by
 rw[mZ]
 refine⟨λhi=>⟨hi,λx H' y=>?_⟩,λhi=>hi⟩
 obtain⟨rfl,rfl⟩:=y
 refine⟨Gc,.int (lo + i),Ext.refl s2,?_,.int _⟩
 unfold dv
 rw[HH,List.getElem?_range hi];rfl
def BD (j:Int):Bool:=Nat.ble j.natAbs 1000000
def yt {j:Int}(h:BD j=true): -(2 ^ 62)<=j/\j < 2 ^ 62:=by
 have:=Nat.le_of_ble_eq_true h
 omega
def vT {j:Int}(h: -1000<=j)(h2:j<=10000):BD j=true:=Nat.ble_eq_true_of_le (by omega)
def jO (fa:VF D):VF (List D):=λvs β=>(fa vs β).bnd λx β1=>match x with
 | .int j=>if BD j=true then .ok (dv 0 j.toNat) β1 else .bad
 |_=>.bad
theorem uZ {p:Pos}(hg:Gl X "range")(hm:X.mg "range"=none)(ha:SE X Γ E a fa La ma)(hs:starEach [a] X.env= [(false,eval a X.env)]:=by rfl)(hs':starEach [a] X.env=(false,eval a X.env) :: starEach [] X.env:=by rfl):SI X Γ E tg (.Call (.Name "range" p) [a] [] pos) (jO fa) La md:=by
 refine PI.post (g7 hg hm (ag ha az hs') hs) λσ H Q ⟨env,G,B,β,I,o⟩=>?_
 refine⟨env,G,B,β,I,o.bnd.imp λd1 β1 h x G1 H1 I1 s1 m1 vx=>?_⟩
 have vx:=vx.brw I.boxThere
 cases d1 with
 |int j=>
  obtain rfl:=vx.int
  dsimp only at h
  by_cases hj:BD j=true
  ·rw[Hs hj] at h
   exact⟨j,rfl,(yt hj).1,(yt hj).2,h _ G1 H1 I1 s1 m1 (y2 0 _)⟩
  ·rw[Ht hj] at h;exact h.elim
 |_=>exact h.elim
inductive Tg where
 |nm (i:Nat)
 |two (i j:Nat)
def pairD:D->Option (D×D)
 | .tuple [x,y]=>some (x,y)
 |_=>none
def yb {d x y:D}(h:pairD d=some (x,y)):d=.tuple [x,y]:=by
 unfold pairD at h
 split at h
 ·cases h;rfl
 ·cases h
def dF:Tg->D->En->Option En
 | .nm i,d,env=>some (env.set i (.fz d))
 | .two i j,d,env=>(pairD d).map λp=>(env.set i (.fz p.1)).set j (.fz p.2)
def jE:Tg->D->List Nv->Option (List Nv)
 | .nm i,d,vs=>some (vs.set i (.da d))
 | .two i j,d,vs=>(pairD d).map λp=>(vs.set i (.da p.1)).set j (.da p.2)
def sM (env:En)(i:Nat)(s:Sl):vl (env.set i s)=(vl env).set i s.val:=by unfold vl;rw[List.map_set]
theorem zu (t:Tg)(d:D)(env:En):(dF t d env).map vl=jE t d (vl env):=by
 cases t with
 |nm i=>show some (vl _)=some _;rw[sM];rfl
 |two i j=>
  show ((pairD d).map _).map vl=(pairD d).map _
  cases pairD d with
  |none=>rfl
  |some p=>show some (vl _)=some _;rw[sM,sM];rfl
def gT (Γ:Fx)(t:Tg):TG:=λv σ H Q=>∃env G B β d env',SR Γ B G H σ env β/\Rp Γ.K G v d/\dF t d env=some env'/\∀σ',SR Γ B G H σ' env' β->Q σ' H
def SG (X:Cx)(Γ:Fx)(tg:Expr)(t:Tg):Prop:=PG X tg (gT Γ t)
def PG.post {X:Cx}{tg:Expr}{t u:TG}(h:PG X tg t)(m:∀v σ H Q,u v σ H Q->t v σ H Q):PG X tg u:=λpins s σ H v uu Q I r q=>h pins s σ H v uu Q I r (m v σ H Q q)
def mO {i:Nat}{x:Str}(hN:X.N.Nodup)(hi:X.N[i]? =some x:=by rfl)(hx:Loc X.env.scope x:=by first |exact Or.inl rfl |exact Or.inr rfl)(hf:X.fn x=true\/X.env.scope.names.lookup x=some .local:=by first |exact .inl rfl |exact .inr rfl |assumption):SG X Γ (.Name x pos) (.nm i):=by
 refine PG.post (bI hN hi hx hf) λv σ H Q ⟨env,G,B,β,d,env',I,r,e,k⟩=>?_
 cases e
 exact k _ (I.set' i r)
theorem pe {i j:Nat}{x y:Str}{px py:Pos}{n:Nat}(hN:X.N.Nodup)(hc:X.calm=true:=by rfl)(hK:X.K=Γ.K:=by rfl)(hi:X.N[i]? =some x:=by rfl)(hj:X.N[j]? =some y:=by rfl)(hx:Loc X.env.scope x:=by first |exact Or.inl rfl |exact Or.inr rfl)(hy:Loc X.env.scope y:=by first |exact Or.inl rfl |exact Or.inr rfl)
  (hf:X.fn x=true\/X.env.scope.names.lookup x=some .local:=by first |exact .inl rfl |exact .inr rfl |assumption) (hf':X.fn y=true\/X.env.scope.names.lookup y=some .local:=by first |exact .inl rfl |exact .inr rfl |assumption):SG X Γ (.Tuple [.Name x px,.Name y py] n pos) (.two i j):=by
 refine PG.post (kP (n:=2) hc (bX (bI hN hi hx hf) (bX (bI hN hj hy hf') i9))) λv σ H Q ⟨env,G,B,β,d,env',I,r,e,k⟩=>?_
 rw[hK]
 have e:(pairD d).map (λp=>(env.set i (.fz p.1)).set j (.fz p.2))=some env':=e
 cases q:pairD d with
 |none=>rw[q] at e;cases e
 |some p=>
  obtain⟨dx,dy⟩:=p
  rw[q] at e
  cases e
  obtain rfl:=yb q
  cases r with
  | @tup p xs _ hq r=>
   cases r with
   |cons r1 r=>
    cases r with
    |cons r2 r=>
     cases r
     exact⟨p,_,rfl,hq.grow I.sub.grow,rfl,_,_,rfl,_,_,rfl,rfl,k _ ((I.set' i r1).set' j r2)⟩
def oQ (t:Tg)(m:SF):List D->SF
 | []=>λenv β=>.nx env β
 |d :: ds=>λenv β=>match dF t d env with
  |none=>.bad
  |some env1=>match m env1 β with
   | .nx env2 β2=>oQ t m ds env2 β2
   | .ct env2 β2=>oQ t m ds env2 β2
   | .bk env2 β2=>.nx env2 β2
   |r=>r
def gA (t:Tg)(L:List Nat)(fi:VF (List D))(m:SF):SF:=λenv β=>toS (fi (vl env) β) λds β'=>oQ t m ds (aJ L env) β'
def lr {t:Tg}{fi:VF (List D)}{x:List Stmt}(hp:PassesOwn (model X.prog X.w) X.A X.env X.xe)(hc:X.calm=true)(hi:SI X Γ E tg e fi L .v)(hg:SG X Γ tg t)(hb:wy X Γ E x m)(hs:∀x,foldedSetIterable e X.env x=pure x:=by intro _;rfl):SS X Γ E (.For tg e x [] pos) (gA t L fi m):=by
 refine PS.post (oG hp hc hi hg hb hs) λN σ H ⟨env,G,B,β,I,o⟩=>?_
 refine⟨env,G,B,β,I,bO o λds β' q J G' H' I' s' m' w=>?_⟩
 have w:Walk Γ.K B G' (λ_=>none) ds J:=w
 refine⟨λi n σ H=>n=ds.length - i/\i<=ds.length/\∃env G1 B β,SR Γ B G1 H σ env β/\af G' G1/\l0 Γ E G1 N (oQ t m (ds.drop i) env β),⟨ds.length,by simp,Ij _,aJ L env,G',B,β',I',af.refl _,by rw[List.drop_zero];exact l0.weak q s'⟩,?_⟩
 rintro i n σ H ⟨rfl,hi,env,G1,B1,β1,I1,s1,q⟩
 obtain⟨w1,w2⟩:=w G1 H i s1 I1.sub ⟨(λb o e=>by cases e),λb o u e=>by cases e⟩
 by_cases hlt:i < ds.length
 ·obtain⟨go,yl⟩:=w1 hlt
  refine .inr ⟨go,λσ H=>∃env G2 B β,SR Γ B G2 H σ env β/\af G' G2/\l0 Γ E G2 N (oQ t m (ds.drop (i + 1)) env β),λσ2 H2 h=>⟨ds.length - (i + 1),by omega,rfl,hlt,h⟩,λx H2 y=>?_⟩
  obtain⟨G2,d,x2,ed,rd⟩:=yl x H2 y
  have I2:=I1.ext x2
  have q:=l0.weak q x2.gg
  rw[Km hlt] at q
  have ed':ds[i]=d:=by rw[Hq hlt] at ed;exact Option.some.inj ed
  rw[ed'] at q
  unfold oQ at q
  cases eb:dF t d env with
  |none=>rw[eb] at q;exact q.elim
  |some env1=>
   rw[eb] at q
   refine⟨env,G2,B1,β1,d,env1,I2,rd,eb,λσ3 I3=>⟨env1,G2,B1,β1,I3,?_⟩⟩
   have s2:=s1.trans x2.gg
   dsimp only at q
   cases r:m env1 β1 with
   |nx env2 β2=>rw[r] at q;exact λB2 G3 H3 σ2 I2 s3=>⟨env2,G3,B2,β2,I2,s2.trans s3,l0.weak q s3⟩
   |ct env2 β2=>rw[r] at q;exact λB2 G3 H3 σ2 I2 s3=>⟨env2,G3,B2,β2,I2,s2.trans s3,l0.weak q s3⟩
   |bk env2 β2=>rw[r] at q;exact λB2 G3 H3 σ2 I2 s3=>q B2 G3 H3 σ2 I2 s3
   |rt d fr β2=>rw[r] at q;exact q
   |exc c=>rw[r] at q;exact q
   |bad=>rw[r] at q;exact q
 ·have e:i=ds.length:=by omega
  subst e
  rw[List.drop_length] at q
  exact .inl ⟨w2 (Hv _),q B1 G1 H σ I1 (af.refl _)⟩
end
abbrev Fx.hV (Γ:Fx)(H0 G0:Hp)(par:List Addr)(br:Nat->Bool)(bx:Option Addr):Fx:=⟨Γ.K,H0,G0,par,Γ.ca,br,bx⟩
def dg (own:Nat)(ixs:List Nat)(vs:List Nv):List Nv:=List.replicate own .no ++ ixs.map λi=>(vs[i]?).getD .no
def DV:Option Sl->Sl
 |some (.ow d)=>.br d
 |some s=>s
 |none=>.no
def benv (own:Nat)(ixs:List Nat)(env:En):En:=List.replicate own .no ++ ixs.map λi=>DV env[i]?
theorem zO (o:Option Sl):(DV o).val=(o.map Sl.val).getD .no:=by
 cases o with
 |none=>rfl
 |some s=>cases s <;> rfl
def zN (own:Nat)(ixs:List Nat)(env:En):vl (benv own ixs env)=dg own ixs (vl env):=by
 unfold vl benv dg
 rw[JZ,List.map_replicate,Kb]
 congr 1
 refine JB λi _=>?_
 show (DV env[i]?).val=_
 rw[zO,HH]
def sN (env:En):Prop:=∀(i:Nat) (d:D),env[i]?≠some (.ow d)
theorem qM {env:En}(h:sN env)(L:List Nat):aJ L env=env:=by
 unfold aJ
 induction L with
 |nil=>rfl
 |cons i L ih=>
  rw[Kl]
  have:eZ env i=env:=by
   unfold eZ
   split
   ·rename_i d e;exact absurd e (h i d)
   ·rfl
  rw[this];exact ih
def mK (own:Nat)(ixs:List Nat)(env:En):sN (benv own ixs env):=λi d e=>by
 unfold benv at e
 have hm:=HG e
 rcases HP.mp hm with h |h
 ·have:=Jy h;cases this
 ·obtain⟨k,_,hk⟩:=HK.mp h
  cases q:env[k]? with
  |none=>rw[q] at hk;cases hk
  |some s=>rw[q] at hk;cases s <;> cases hk
def kU {env:En}(h:sN env)(i:Nat)(d:D):sN (env.set i (.fz d)):=λj d' e=>by
 by_cases z:i=j
 ·subst z
  by_cases hi:i < env.length
  ·rw[HI hi] at e;cases e
  ·rw[Jx (by omega)] at e;exact h _ _ e
 ·rw[HL z] at e;exact h _ _ e
theorem vC {env env1:En}{t:Tg}{d:D}(h:sN env)(e:dF t d env=some env1):sN env1:=by
 cases t with
 |nm i=>cases e;exact kU h i d
 |two i j=>
  have e:(pairD d).map _=some env1:=e
  cases q:pairD d with
  |none=>rw[q] at e;cases e
  |some p=>rw[q] at e;cases e;exact kU (kU h _ _) _ _
theorem wc {env env1:En}{t:Tg}{d:D}(e:dF t d env=some env1)(d':D):dF t d' env1=dF t d' env:=by
 cases t with
 |nm i=>cases e;show some _=some _;rw[set_set]
 |two i j=>
  have e:(pairD d).map _=some env1:=e
  cases q:pairD d with
  |none=>rw[q] at e;cases e
  |some p=>
   rw[q] at e;cases e
   show (pairD d').map _=(pairD d').map _
   cases pairD d' with
   |none=>rfl
   |some p'=>
    show some _=some _
    congr 1
    dsimp only
    by_cases z:i=j
    ·subst z;simp[set_set]
    ·rw[List.set_comm _ _ (Ne.symm z),set_set,set_set]
def Ext.mov {G H G' H':Hp}(x:Ext G H G' H')(B:Option Addr):dG B H H':=x.hh.mov B
section
variable {Γ:Fx}{B:Option Addr}{G H G1 H1 Gc Hc:Hp}{σ σ':St}{env envb:En}{β β':Int}{own:Nat}{ixs:List Nat}{Da:Addr}{acc:List V}
def rh (envb:En):Nat->Bool:=λj=>match envb[j]? with
 |some (.br _)=>true
 |_=>false
def SR.block (I:SR Γ B G H σ env β)(own:Nat)(ixs:List Nat)(hD:H Da=none):SR (Γ.hV (upd H Da (.lst [])) G (Da :: B.toList) (rh (benv own ixs env)) B) B G (upd H Da (.lst [])) (o4 own ixs σ) (benv own ixs env) β:=by
 obtain⟨q1,q2,q3,q4⟩:=I.fresh hD
 have nB:∀b,B=some b->b≠Da:=λb e z=>q3 (by rw[<-z];exact e)
 refine⟨I.sub.trans (af.new hD),af.refl _,λb _ h=>h,λb o h _=>Kt.of h,λb hb=>?_,λb e=>e,λb e=>?_,?_,λi s e=>?_,λi j c d d' e=>absurd e (mK own ixs env i d)⟩
 ·rcases HA.mp hb with z |z
  ·subst z;exact Mx.lst ah
  ·have z':B=some b:=by simpa using z
   exact Mx.lst (by rw[ao (nB b z')];exact (I.box b z').1)
 ·obtain⟨h1,h2,_⟩:=I.box b e
  exact⟨by rw[ao (nB b e)];exact h1,h2,.inl (Hz _ (by simpa using e))⟩
 ·unfold o4 benv;simp
 ·by_cases hi:i < own
  ·unfold benv at e
   rw[IA (by simpa using hi),Jh,Hs hi] at e
   cases e;trivial
  ·have e0:=e
   unfold benv at e
   rw[Iv (by simpa using hi),Jo,HH] at e
   cases ek:ixs[i - own]? with
   |none=>rw[ek] at e;cases e
   |some k=>
    rw[ek] at e
    have e:DV env[k]? =s:=Option.some.inj e
    have es:(o4 own ixs σ)[i]? =some ((σ[k]?).join):=by
     unfold o4
     rw[Iv (by simpa using hi),Jo,HH,ek];rfl
    rw[es]
    cases q:env[k]? with
    |none=>rw[q] at e;subst e;trivial
    |some t=>
     rw[q] at e
     have w:=I.slot k t q
     cases t with
     |no=>subst e;trivial
     |fz d=>subst e;obtain⟨v,h1,h2⟩:=w;exact⟨v,by rw[h1];rfl,h2⟩
     |bx=>subst e;obtain⟨a,h1,h2⟩:=w;exact⟨a,by rw[h1];rfl,h2⟩
     |ow d=>
      subst e
      obtain⟨a,h1,h2,h3,h4,h5⟩:=w
      obtain⟨o,ho⟩:=h5.obj
      have aD:a≠Da:=ar ho hD
      refine⟨by show rh _ i=true;unfold rh;rw[e0];rfl,a,by rw[h1];rfl,h4,?_,h5.mono (af.refl _) λo q=>Kt.of (by rw[ao aD];exact q)⟩
      intro hm
      rcases HA.mp hm with z |z
      ·exact aD z
      ·exact h4 (by simpa using z)
     |br d=>
      subst e
      obtain⟨b1,a,h1,h4,hp,h5⟩:=w
      obtain⟨o,ho⟩:=h5.obj
      have aD:a≠Da:=ar ho hD
      refine⟨by show rh _ i=true;unfold rh;rw[e0];rfl,a,by rw[h1];rfl,h4,?_,h5.mono (af.refl _) λo q=>Kt.of (by rw[ao aD];exact q)⟩
      intro hm
      rcases HA.mp hm with z |z
      ·exact aD z
      ·exact h4 (by simpa using z)
def SR.unblock (I:SR Γ B G H σ env β){br:Nat->Bool}(hD:H Da=none)(J:SR (Γ.hV (upd H Da (.lst [])) G (Da :: B.toList) br B) B Gc Hc σ' envb β'):SR Γ B Gc Hc σ env β'/\dG B H Hc/\Gc Da=none:=by
 obtain⟨q1,q2,q3,q4⟩:=I.fresh hD
 have up:∀{b:Addr},Mx H b->Mx (upd H Da (.lst [])) b:=λ{b} h=>h.same λo e=>Kt.of (by rw[ao (ar e hD)];exact e)
 have mv0:∀b o,H b=some o->B≠some b->Kt Hc b o:=λb o e n=>J.keep b o (show upd H Da (.lst []) b=some o by rw[ao (ar e hD)];exact e) λhm=>by
  rcases HA.mp hm with z |z
  ·rw[z,hD] at e;cases e
  ·exact n (by simpa using z)
 have mv:dG B H Hc:=⟨mv0,λb o u e=>mv0 b _ e λz=>by rw[(I.box b z).1] at e;cases e⟩
 refine⟨⟨J.sub,I.old.trans J.old,λb h1 h2=>J.new b (up (I.thereM h1)) (I.new b h1 h2),λb o h1 h2=>rA (I.keep b o h1 h2) mv λz=>?_,λb hb=>J.thereM (up (I.pin b hb)),I.fix,λb e=>?_,I.len,λi s e=>?_,I.sep⟩,mv,J.new Da (Mx.lst (show upd H Da (.lst []) Da=some (.lst []) from ah)) q2⟩
 ·obtain⟨_,_,h3⟩:=I.box b z
  rcases h3 with h3 |h3
  ·exact h2 h3
  ·rw[h1] at h3;cases h3
 ·obtain⟨j1,j2,_⟩:=J.box b e
  exact⟨j1,j2,(I.box b e).2.2⟩
 ·have w:=I.slot i s e
  cases s with
  |no=>trivial
  |fz d=>obtain⟨v,h1,h2⟩:=w;exact⟨v,h1,h2.mono J.old⟩
  |bx=>exact w
  |ow d=>
   obtain⟨a,h1,h2,h3,h4,h5⟩:=w
   exact⟨a,h1,h2,J.new a (up h5.mx) h3,h4,h5.mono J.old λo q=>mv.1 a o q h4⟩
  |br d=>
   obtain⟨b1,a,h1,h4,hp,h5⟩:=w
   exact⟨b1,a,h1,h4,hp,h5.mono J.old λo q=>mv.1 a o q h4⟩
def SR.updD {ys:List V}(J:SR Γ B G H σ env β)(hp:Da∈Γ.par)(h0:Mx Γ.H0 Da)(g0:Γ.G0 Da=none)(hB:B≠some Da):SR Γ B G (upd H Da (.lst ys)) σ env β:=by
 have gD:=J.new Da h0 g0
 have ha:∀x y,H Da≠some (.aJ x y):=λx y w=>(J.pin Da hp).2 _ w trivial
 refine⟨λb u q=>gE (J.sub b u q) (λz=>by rw[z,gD] at q;cases q) ha,J.old,J.new,λb u q n=>gE (J.keep b u q n) (λz=>n (by rw[z];exact hp)) ha,λb hb=>?_,J.fix,λb e=>?_,J.len,λi s e=>?_,J.sep⟩
 ·by_cases z:b=Da
  ·subst z;exact Mx.lst ah
  ·exact (J.pin b hb).same λo e=>Kt.of (by rw[ao z];exact e)
 ·obtain⟨h1,h2⟩:=J.box b e
  exact⟨by rw[ao (λz=>hB (by rw[<-z];exact e))];exact h1,h2⟩
 ·have w:=J.slot i s e
  cases s with
  |no=>trivial
  |fz d=>exact w
  |bx=>exact w
  |ow d=>
   obtain⟨a,h1,h2,h3,h4,h5⟩:=w
   have aD:a≠Da:=λz=>h0.1 (by rw[<-z];exact h2)
   exact⟨a,h1,h2,h3,h4,h5.mono (af.refl _) λo q=>Kt.of (by rw[ao aD];exact q)⟩
  |br d=>
   obtain⟨b1,a,h1,h4,hpa,h5⟩:=w
   have aD:a≠Da:=λz=>hpa (by rw[z];exact hp)
   exact⟨b1,a,h1,h4,hpa,h5.mono (af.refl _) λo q=>Kt.of (by rw[ao aD];exact q)⟩
end
def R.okb {α γ:Type}(r:R α)(k:α->Int->R γ):R γ:=match r with
 | .ok a β=>k a β
 |_=>.bad
def dE (t:Tg)(ft:VF Bool)(fe:VF D)(vs:List Nv):List D->Int->R (List D)
 | [],β=>.ok [] β
 |d :: ds,β=>match jE t d vs with
  |none=>.bad
  |some vs1=>(ft vs1 β).okb λc β1=>if c=true then (fe vs1 β1).okb λx β2=>(dE t ft fe vs ds β2).okb λxs β3=>.ok (x :: xs) β3 else dE t ft fe vs ds β1
def bC (own:Nat)(ixs:List Nat)(t:Tg)(fi:VF (List D))(ft:VF Bool)(fe:VF D):VF D:=λvs β=>(fi vs β).bnd λds β1=>if ds.length<=sizeLine then (dE t ft fe (dg own ixs vs) ds β1).okb λxs β2=>.ok (.list xs) β2 else .bad
def zl:VF Bool:=λ_ β=>.ok true β
def DH (own:Nat)(ixs Lc:List Nat)(j:Nat):Bool:=decide (j < own) || (match ixs[j - own]? with
 |some i=>Lc.contains i
 |none=>false)
theorem Ac {α γ:Type}{Γ:Fx}{E:XK}{r:R α}{k:α->Int->R γ}{P:γ->Int->Prop}(h:Out Γ E (r.okb k) P):∃a β,r=.ok a β/\Out Γ E (k a β) P:=by
 cases r with
 |ok a β=>exact⟨a,β,rfl,h⟩
 |exc c=>exact h.elim
 |bad=>exact h.elim
section
variable {X:Cx}{Γ:Fx}{E:XK}{tg iter elt:Expr}{ifs:List Expr}{scope:Scope}{NB:List Str}{own:Nat}{ixs Li Lc Lt Le:List Nat}{t:Tg}{fi:VF (List D)}{ft:VF Bool}{fe:VF D}{pos:Pos}
def pk {X:Cx}{Γ:Fx}{E:XK}:zE X [] (qT Γ E zl []):=λpins s σ H Q I ⟨env,G,B,β,J,o⟩=>oo pins s σ H Q I (o G H J (af.refl _) (dG.refl _ _))
def uc {X:Cx}{Γ:Fx}{E:XK}{c:Expr}{ta:VF Bool}{L:List Nat}(h:zr X Γ E c ta L):zE X [c] (qT Γ E ta L):=tK h
def E7 {NB:List Str}{scope:Scope}{C:Addr}{ex:List Addr}{s3:Shared}{H3:Hp}{pn:List (Addr×Obj)}{P:Program}{w:World}:Passes (i7 P w) (hV X NB scope C ex s3 H3 pn) E0:=λpins σ H s e s' I h=>by
 obtain⟨_,_,_,_,_,_,_,_,_,q⟩:=h
 exact q.elim
abbrev gU (Γ:Fx)(t:Tg):TG:=λv σ H Q=>∃H0 G0 par br bx,gT (Γ.hV H0 G0 par br bx) t v σ H Q
abbrev tU (Γ:Fx)(own:Nat)(ixs Lc:List Nat)(ft:VF Bool)(Lt:List Nat):TT:=λσ H Q=>∃H0 G0 par br bx,(∀j,DH own ixs Lc j=true->br j=false)/\qT (Γ.hV H0 G0 par br bx) E0 ft Lt σ H Q
abbrev eU (Γ:Fx)(own:Nat)(ixs Lc:List Nat)(fe:VF D)(Le:List Nat):TE:=λσ H Q=>∃H0 G0 par br bx,(∀j,DH own ixs Lc j=true->br j=false)/\pT (Γ.hV H0 G0 par br bx) E0 fe Le .v σ H Q
def Ed {σ:St}{H:Hp}{Q:VK}(hLc:∀i,i∈Lc->Γ.br i=false)(h:pT Γ E (bC own ixs t fi ft fe) (Li ++ Lc) .w σ H Q):wF own ixs (iT Γ E fi Li .b) (gU Γ t) (tU Γ own ixs Lc ft Lt) (eU Γ own ixs Lc fe Le) σ H Q:=by
 obtain⟨env,G,B,β,I,o⟩:=h
 refine⟨env,G,B,β,I,o.bnd.imp λds β1 h J G1 H1 I1 s1 m1 wk Da hD=>?_⟩
 have wk:Walk Γ.K B G1 H1 ds J:=wk
 by_cases hz:ds.length<=sizeLine
 case neg=>rw[Ht hz] at h;exact h.elim
 rw[Hs hz] at h
 obtain⟨xs0,β0,e0,h⟩:=Ac h
 have h:∀v G' H',SR Γ B G' H' σ (aJ (Li ++ Lc) env) β0->af G G'->dG B H H'->VO Γ.K B H G' H' .w (.list xs0) v->Q v H':=h
 obtain⟨G2,I2,s2⟩:=I1.aJ Lc hLc
 rw[<-cv] at I2
 obtain⟨q1,q2,q3,q4⟩:=I2.fresh hD
 have Ib0:=I2.block own ixs hD
 generalize hbr:rh (benv own ixs (aJ (Li ++ Lc) env))=br at Ib0
 have hbo:∀j,DH own ixs Lc j=true->br j=false:=by
  intro j hj
  rw[<-hbr]
  unfold rh
  split
  ·rename_i d e
   exfalso
   unfold benv at e
   by_cases hjo:j < own
   ·rw[IA (by simpa using hjo),Jh,Hs hjo] at e;cases e
   ·rw[Iv (by simpa using hjo),Jo,HH] at e
    unfold DH at hj
    rw[HN hjo,Bool.false_or] at hj
    cases ek:ixs[j - own]? with
    |none=>rw[ek] at hj;cases hj
    |some k=>
     rw[ek] at hj e
     have hk:k∈Lc:=by simpa using hj
     have e:DV (aJ (Li ++ Lc) env)[k]? =.br d:=Option.some.inj e
     cases q:(aJ (Li ++ Lc) env)[k]? with
     |none=>rw[q] at e;cases e
     |some s=>
      rw[q] at e
      cases s with
      |no=>cases e
      |fz _=>cases e
      |bx=>cases e
      |br d'=>
       obtain⟨b1,_⟩:=I2.slot k _ q
       rw[hLc k hk] at b1;cases b1
      |ow d'=>
       rw[cv] at q
       have key:∀(M:List Nat) (en:En),k∈M->∀d',(aJ M en)[k]?≠some (.ow d'):=by
        intro M
        induction M with
        |nil=>intro en hm;cases hm
        |cons i M ih=>
         intro en hm d' z
         rcases HA.mp hm with y |y
         ·subst y
          have z1:(eZ en k)[k]? =some (.ow d'):=ou (L:=M) z
          have z2:=tY z1
          unfold eZ at z1
          rw[z2] at z1
          dsimp only at z1
          rw[HI (HE.mp z2).1] at z1;cases z1
         ·exact ih (eZ en i) y d' z
       exact key Lc _ hk d' q
  ·rfl
 have evb:vl (benv own ixs (aJ (Li ++ Lc) env))=dg own ixs (vl env):=by rw[zN,fL]
 refine⟨λi n σ' H'=>n=ds.length - i/\i<=ds.length/\∃envb Gc β' acc accd,SR (Γ.hV (upd H1 Da (.lst [])) G2 (Da :: B.toList) br B) B Gc H' σ' envb β'/\(envb=benv own ixs (aJ (Li ++ Lc) env)\/∃d,dF t d (benv own ixs (aJ (Li ++ Lc) env))=some envb)/\
   H' Da=some (.lst acc)/\bw Γ.K Gc acc accd/\accd.length<=i/\∃xs,dE t ft fe (dg own ixs (vl env)) (ds.drop i) β'=.ok xs β0/\accd ++ xs=xs0,
  ⟨ds.length,by simp,Ij _,_,G2,β1,[],[],Ib0,.inl rfl,ah,.nil,Ij _,xs0,by rw[List.drop_zero];exact e0,rfl⟩,?_⟩
 rintro i n σ' H' ⟨rfl,hi',envb,Gc,β',acc,accd,Ib,eb,hacc,racc,lacc,xs,ec,exs⟩
 obtain⟨Io,mv,gD⟩:=I2.unblock hD Ib
 obtain⟨w1,w2⟩:=wk Gc H' i (s2.trans Ib.old) Ib.sub mv
 by_cases hlt:i < ds.length
 ·obtain⟨go,yl⟩:=w1 hlt
  refine .inr ⟨go,λσ' H'=>∃envb Gc β' acc accd,SR (Γ.hV (upd H1 Da (.lst [])) G2 (Da :: B.toList) br B) B Gc H' σ' envb β'/\(envb=benv own ixs (aJ (Li ++ Lc) env)\/∃d,dF t d (benv own ixs (aJ (Li ++ Lc) env))=some envb)/\
   H' Da=some (.lst acc)/\bw Γ.K Gc acc accd/\accd.length<=i + 1/\∃xs,dE t ft fe (dg own ixs (vl env)) (ds.drop (i + 1)) β'=.ok xs β0/\accd ++ xs=xs0,λσ2 H2 hh=>⟨ds.length - (i + 1),by omega,rfl,hlt,hh⟩,λx H2 y=>?_⟩
  obtain⟨G3,d,x3,ed,rd⟩:=yl x H2 y
  have I3:=Ib.ext x3
  have ed':ds[i]=d:=by rw[Hq hlt] at ed;exact Option.some.inj ed
  rw[Km hlt,ed'] at ec
  unfold dE at ec
  cases ebv:jE t d (dg own ixs (vl env)) with
  |none=>rw[ebv] at ec;cases ec
  |some vs1=>
   rw[ebv] at ec
   dsimp only at ec
   obtain⟨env1,eb1,ev1⟩:∃env1,dF t d (benv own ixs (aJ (Li ++ Lc) env))=some env1/\vl env1=vs1:=by
    have:=zu t d (benv own ixs (aJ (Li ++ Lc) env))
    rw[evb,ebv] at this
    cases q:dF t d (benv own ixs (aJ (Li ++ Lc) env)) with
    |none=>rw[q] at this;cases this
    |some env1=>rw[q] at this;exact⟨env1,rfl,Option.some.inj this⟩
   have eb2:dF t d envb=some env1:=by
    rcases eb with rfl | ⟨d0,eb⟩
    ·exact eb1
    ·rw[wc eb];exact eb1
   have no1:sN env1:=vC (mK _ _ _) eb1
   have a2:H2 Da=some (.lst acc):=x3.hh _ _ hacc
   refine⟨_,_,_,_,_,envb,G3,B,β',d,env1,I3,rd,eb2,λσ3 I4=>?_⟩
   refine⟨_,_,_,_,_,hbo,env1,G3,B,β',I4,?_⟩
   rw[ev1]
   cases et:ft vs1 β' with
   |exc c=>rw[et] at ec;cases ec
   |bad=>rw[et] at ec;cases ec
   |ok c β2=>
    rw[et] at ec
    intro G4 H4 I5 s4 m4
    rw[qM no1] at I5
    have a4:H4 Da=some (.lst acc):=m4.1 _ _ a2 q3
    cases c with
    |false=>
     refine lY ⟨env1,G4,β2,acc,accd,I5,.inr ⟨d,eb1⟩,a4,racc.mono (x3.gg.trans s4),by omega,xs,?_,exs⟩
     exact ec
    |true=>
     refine rX ⟨_,_,_,_,_,hbo,env1,G4,B,β2,I5,?_⟩
     rw[ev1]
     have ec:((fe vs1 β2).okb λx β3=>(dE t ft fe (dg own ixs (vl env)) (ds.drop (i + 1)) β3).okb λxs β4=>R.ok (x :: xs) β4)=R.ok xs β0:=ec
     cases ee:fe vs1 β2 with
     |exc c=>rw[ee] at ec;cases ec
     |bad=>rw[ee] at ec;cases ec
     |ok dx β3=>
      rw[ee] at ec
      intro v G5 H5 I6 s5 m5 vo
      rw[qM no1] at I6
      have a5:H5 Da=some (.lst acc):=m5.1 _ _ a4 q3
      have ec:((dE t ft fe (dg own ixs (vl env)) (ds.drop (i + 1)) β3).okb λxs β4=>R.ok (dx :: xs) β4)=R.ok xs β0:=ec
      cases er:dE t ft fe (dg own ixs (vl env)) (ds.drop (i + 1)) β3 with
      |exc c=>rw[er] at ec;cases ec
      |bad=>rw[er] at ec;cases ec
      |ok ys β4=>
       rw[er] at ec
       cases ec
       refine⟨acc,a5,by rw[racc.len];omega,env1,G5,β3,acc ++ [v],accd ++ [dx],?_,.inr ⟨d,eb1⟩,ah,(racc.mono ((x3.gg.trans s4).trans s5)).snoc vo,by rw[Iu];simp;omega,ys,er,by rw[<-exs,Ia];rfl⟩
       refine I6.updD (HC ..) (Mx.lst (show upd H1 Da (.lst []) Da=some (.lst []) from ah)) (I2.sub.free hD) q3
 ·have e:i=ds.length:=by omega
  subst e
  rw[List.drop_length] at ec
  cases ec
  rw[Jt] at exs
  subst exs
  refine .inl ⟨w2 (Hv _),⟨acc,hacc⟩,h _ Gc H' Io ((s1.trans s2).trans Ib.old) (m1.trans mv) ⟨Da,rfl,dt m1 I1.boxThere hD,gD,acc,hacc,racc⟩⟩
def bU (hg:∀H0 G0 par br bx C ex s3 H3 pn,SG (hV X NB scope C ex s3 H3 pn) (Γ.hV H0 G0 par br bx) tg t)(C:Addr)(ex:List Addr)(s3:Shared)(H3:Hp)(pn:List (Addr×Obj)):PG (hV X NB scope C ex s3 H3 pn) tg (gU Γ t):=by
 rintro pins s σ H v u Q I r ⟨H0,G0,par,br,bx,q⟩
 exact hg H0 G0 par br bx C ex s3 H3 pn pins s σ H v u Q I r q
def i4 (Lc:List Nat)(hc:X.calm=true)(S:cL X NB own ixs scope)(hLc:∀i,i∈Lc->Γ.br i=false)(hi:SI X Γ E tg iter fi Li .b)
  (hg:∀H0 G0 par br bx C ex s3 H3 pn,SG (hV X NB scope C ex s3 H3 pn) (Γ.hV H0 G0 par br bx) tg t)
  (ht:∀H0 G0 par br bx C ex s3 H3 pn,(∀j,DH own ixs Lc j=true->br j=false)->zE (hV X NB scope C ex s3 H3 pn) ifs (qT (Γ.hV H0 G0 par br bx) E0 ft Lt))
  (he:∀H0 G0 par br bx C ex s3 H3 pn,(∀j,DH own ixs Lc j=true->br j=false)->SE (hV X NB scope C ex s3 H3 pn) (Γ.hV H0 G0 par br bx) E0 elt fe Le .v)
  (hs:∀x,foldedSetIterable iter X.env x=pure x:=by intro _;rfl) :
  SE X Γ E (.ListComp elt [⟨tg,iter,ifs,0⟩] scope pos) (bC own ixs t fi ft fe) (Li ++ Lc) .w:=by
 refine PE.post' (pD (g:=gU Γ t) (tt:=tU Γ own ixs Lc ft Lt) (te:=eU Γ own ixs Lc fe Le) hc S hi (bU hg) (λC ex s3 H3 pn=>?_) (λC ex s3 H3 pn=>?_) hs) λσ H Q h=>Ed hLc h
 ·rintro pins s σ H Q I ⟨H0,G0,par,br,bx,b,q⟩
  exact ht H0 G0 par br bx C ex s3 H3 pn b pins s σ H Q I q
 ·rintro pins s σ H Q I ⟨H0,G0,par,br,bx,b,q⟩
  exact he H0 G0 par br bx C ex s3 H3 pn b pins s σ H Q I q
end
def fin:SO->FR
 | .nx _ _=>.ok .none false
 | .rt d fr _=>.ok d fr
 | .exc c=>.exc c
 |_=>.bad
def vI (n:Nat)(ds:List D):En:=ds.map Sl.fz ++ List.replicate (n - ds.length) .no
def cq (n p:Nat)(m:SF):List D->FR:=λds=>if ds.length=p then fin (m (vI n ds) 0) else .bad
abbrev Fx.fn (K:Frag)(H G:Hp)(ca:Str->Addr):Fx:=⟨K,H,G,[],ca,λ_=>false,none⟩
def SR.start {K:Frag}{H G:Hp}{ca:Str->Addr}{N:List Str}{vs:List V}{ds:List D}(s:af G H)(r:bw K G vs ds)(hn:ds.length<=N.length):SR (Fx.fn K H G ca) none G H (start N vs) (vI N.length ds) 0:=by
 have hl:=r.len
 refine⟨s,af.refl _,λb _ h=>h,λb o h _=>Kt.of h,λb h=>(by cases h),λb h=>(by cases h),λb h=>(by cases h),?_,λi t e=>?_,λi j a d e h=>?_⟩
 ·unfold L2.start vI;simp;omega
 ·unfold vI at e
  by_cases hi:i < ds.length
  ·rw[IA (by simpa using hi),HH,Hq hi] at e
   cases e
   obtain⟨x,hx,rx⟩:=r.at (Hq hi)
   refine⟨x,?_,rx⟩
   unfold L2.start
   rw[IA (by simpa[hl] using hi),HH,hx];rfl
  ·rw[Iv (by simpa using hi),Jh] at e
   split at e
   ·cases e;trivial
   ·cases e
 ·unfold vI at h
  have hm:=HG h
  rcases HP.mp hm with z |z
  ·obtain⟨_,_,z⟩:=HK.mp z;cases z
  ·have:=Jy z;cases this
section
variable {P:Program}{w:World}{K:Frag}{mg:Str->Option Value}{base:Heap}{ca:Str->Addr}
def bP {x qual:Str}{st:Stmt}{f:Addr}{fd:FuncData}{N ps:List Str}{k:Nat}{m:SF}(F:wC K x qual st f fd)(S:aI N ps (aq st))
  (hbody:∀(cdv:Value) (A:Around) (outer:List Env) (s:Shared) (H G:Hp) (E:XK),cA k (A.deeper (envOfC qual (aq st) s.heap.objs.size f cdv))->wy (gC (i7 P w) P w K mg base N qual (aq st) f cdv A outer s H E) (Fx.fn K H G ca) E (aY st) m) :
  cP P w K mg base (i7 P w) (k + 1) f fd ps (zq K ca ps.length (cq N.length ps.length m)):=by
 have hpn:ps.length<=N.length:=by have:=congrArg List.length S.pre;rw[IU] at this;omega
 refine F.BD S (λvs H Q E h=>?_) (λcdv A outer s H vs Q E hr h=>?_)
 ·obtain⟨G,ds,sG,hl,r,_⟩:=h
  rw[r.len];exact hl
 ·obtain⟨G,ds,sG,hl,r,h⟩:=h
  refine⟨_,hbody cdv A outer s H G E hr,?_⟩
  have I:=SR.start (ca:=ca) (N:=N) sG r (by omega)
  refine⟨_,G,none,0,I,?_⟩
  unfold cq at h
  rw[Hs hl] at h
  have fin':∀{B G' H' σ env β},SR (Fx.fn K H G ca) B G' H' σ env β->af H H':=λJ b o e=>J.keep b o e (λz=>by cases z)
  cases q:m (vI N.length ds) 0 with
  |nx env β=>rw[q] at h;exact λB G' H' σ J s'=>h .non G' H' (fin' J) s' J.sub (λb h1 h2=>J.new b h1 h2) Rp.non
  |bk env β=>rw[q] at h;exact h.elim
  |ct env β=>rw[q] at h;exact h.elim
  |rt d fr β=>
   rw[q] at h
   refine λB G' H' σ env v J s' rv=>h v G' H' (fin' J) s' J.sub (λb h1 h2=>J.new b h1 h2) ?_
   cases fr with
   |true=>exact rv
   |false=>exact rv
  |exc c=>rw[q] at h;exact λH' kp=>h H' λb o e=>kp b o e (λz=>by cases z)
  |bad=>rw[q] at h;exact h.elim
def zJ {n:Nat}{F F':List D->FR}(h:∀ds,ds.length=n->F' ds≠.bad->F ds=F' ds){vs:List V}{H:Hp}{Q:VK}{E:XK}(q:zq K ca n F' vs H Q E):zq K ca n F vs H Q E:=by
 obtain⟨G,ds,s,hl,r,q⟩:=q
 refine⟨G,ds,s,hl,r,?_⟩
 by_cases hb:F' ds=.bad
 ·rw[hb] at q;exact q.elim
 ·rw[h ds hl hb];exact q
def ij.imp {x:Str}{ps:List Str}{k:Nat}{F F':List D->FR}(h:ij P w K mg base ca x ps k F)(i:∀ds,F' ds≠.bad->F ds=F' ds):ij P w K mg base ca x ps k F':=by
 obtain⟨f,fd,a,b,c,d⟩:=h.ex
 exact⟨⟨f,fd,a,b,c,d.imp λvs H Q E q=>zJ (λds _=>i ds) q⟩,λds hn=>h.len ds (by rw[i ds hn];exact hn)⟩
def bA {n p:Nat}{m:SF}(ds:List D)(h:cq n p m ds≠.bad):ds.length=p:=by
 unfold cq at h
 by_cases hl:ds.length=p
 ·exact hl
 ·rw[Ht hl] at h;exact absurd rfl h
def lg {N:List Str}{qual:Str}{scope:Scope}{f:Addr}{cd:Value}{A:Around}{outer:List Env}{s0:Shared}{H0:Hp}{E:XK}{Γ:Fx}{x:Str}{C:Addr}{np cpos pos:Pos}{e0:Expr}{es:List Expr}{fr:VF (List D)}{L:List Nat}(q:PySem.W.excIn K C [.type "ValueError",.type "Exception",.type "BaseException",.type "object"] "ValueError.__new__"=true)(hca:Γ.ca x=C)
  (hg:Gl (gC (i7 P w) P w K mg base N qual scope f cd A outer s0 H0 E) x) (hm:mg x=some (.ref C)) (ha:SA (gC (i7 P w) P w K mg base N qual scope f cd A outer s0 H0 E) Γ E (e0 :: es) fr L)
  (he:starEach (e0 :: es) (envOfC qual scope s0.heap.objs.size f cd)=(false,eval e0 (envOfC qual scope s0.heap.objs.size f cd)) :: starEach es (envOfC qual scope s0.heap.objs.size f cd):=by rfl)
  (hpl:(backTo cpos (starEach es (envOfC qual scope s0.heap.objs.size f cd))).any (·.1)=false:=by rfl) (hdb:(x == ("__debug__":Str))=false:=by decide) :
  SS (gC (i7 P w) P w K mg base N qual scope f cd A outer s0 H0 E) Γ E (.Raise (some (.Call (.Name x np) (e0 :: es) [] cpos)) none pos) (λenv β=>toS (fr (vl env) β) λds _=>if ds.length<=sizeLine then .exc x else .bad):=by
 refine PS.post (y9 PySem.F.excBase_ValueError (by decide +kernel) q hg hm ha he hpl hdb) λD σ H ⟨env,G,B,β,I,o⟩=>?_
 refine⟨env,G,B,β,I,bO o λds β' k vs G' H' I' s' m' r=>?_⟩
 by_cases hz:ds.length<=sizeLine
 ·rw[Hs hz] at k
  refine⟨by rw[r.len];exact hz,?_⟩
  have:=k H' (I'.kp (af.refl _))
  rw[hca] at this
  exact this
 ·rw[Ht hz] at k;exact k.elim
end
section
variable {X:Cx}{Γ:Fx}{E:XK}{e a b c:Expr}{f fa fb:VF D}{L La Lb:List Nat}{md ma mb:Md}{pos apos cpos np:Pos}
def sH:Option Sl->Bool
 |some (.ow (.list _))=>true
 |_=>false
theorem nH {o:Option Sl}(h:sH o=true):∃ds,o=some (.ow (.list ds)):=by
 cases o with
 |none=>cases h
 |some s=>
  cases s with
  |ow d=>cases d with
   |list ds=>exact⟨ds,rfl⟩
   |_=>cases h
  |_=>cases h
def DJ (i:Nat)(env:En)(β:Int)(g:List D->Option (List D)):SO:=match env[i]? with
 |some (.ow (.list ds))=>(match g ds with
  |some es=>.nx (env.set i (.ow (.list es))) β
  |none=>.bad)
 |_=>.bad
def rM (i:Nat)(L:List Nat)(f:VF D):SF:=λenv β=>if sH env[i]? =true then toS (f (vl env) β) λd β'=>DJ i (aJ L env) β' λds=>if ds.length < sizeLine then some (ds ++ [d]) else none else .bad
def uo {Γ:Fx}{E:XK}{G:Hp}{N:Ends}{i:Nat}{env:En}{β:Int}{g:List D->Option (List D)}(h:l0 Γ E G N (DJ i env β g)):∃ds es,env[i]? =some (.ow (.list ds))/\g ds=some es/\l0 Γ E G N (.nx (env.set i (.ow (.list es))) β):=by
 unfold DJ at h
 split at h
 ·rename_i ds q
  cases e:g ds with
  |none=>rw[e] at h;exact h.elim
  |some es=>rw[e] at h;exact⟨ds,es,q,e,h⟩
 ·exact h.elim
def vb (i:Nat){x:Str}(hb:∀j,Γ.br j=false)(he:SE X Γ E e f L .v)(hN:X.N[i]? =some x:=by rfl)(hv:u7 X.env.scope x:=by first |exact Or.inl rfl |exact Or.inr (Or.inl rfl) |exact Or.inr (Or.inr rfl))(hd:(x == ("__debug__":Str))=false:=by decide)
  (hcd:(x == ("__classdict__":Str))=false:=by decide)
  (hbase:attributeBase (.Name x np) "append" X.env (eval (.Name x np) X.env)=eval (.Name x np) X.env:=by rfl)
  (hfew:((backTo cpos (starEach [e] X.env)).all (λx=> !x.1) && (backToKw cpos (keywordEach [] X.env)).all (λx=>x.1.isSome)
   && decide ([e].length + ([]:List Keyword).length + (if ([]:List Keyword).isEmpty then 0 else 1) < 30))=true:=by rfl)
  (hline:(apos.endLine == cpos.line)=true:=by rfl) (hs:starEach [e] X.env=(false,eval e X.env) :: starEach [] X.env:=by rfl)
  (hsw:swapsWith (.Call (.Attribute (.Name x np) "append" apos) [e] [] cpos) none pos.line X.env=pure false:=by rfl) :
  SS X Γ E (.Expr (.Call (.Attribute (.Name x np) "append" apos) [e] [] cpos) pos) (rM i L f):=by
 refine PS.post (tS (qO JA PySem.F.slot_list_append PySem.F.type_list_append js (fB hN hv hd hcd) (ag he az hs) hbase hfew hline hs rfl) hsw) λN σ H ⟨env,G,B,β,I,o⟩=>?_
 unfold rM at o
 by_cases hO:sH env[i]? =true
 case neg=>rw[Ht hO] at o;exact o.elim
 rw[Hs hO] at o
 obtain⟨ds0,q0⟩:=nH hO
 obtain⟨p,h1,_,_,_,xs,h5,_⟩:=I.slot i _ q0
 refine⟨_,h1,.inl ⟨rfl,xs,.inl (.inl h5)⟩,?_⟩
 refine⟨env,G,B,β,I,bO o λd β' k v G' H' I' s' m' vo=>?_⟩
 obtain⟨ds,es,q,eg,k⟩:=uo k
 by_cases hz:ds.length < sizeLine
 case neg=>rw[Ht hz] at eg;cases eg
 rw[Hs hz] at eg
 cases eg
 obtain⟨p',g1,_,_,_,ys,g5,g6⟩:=I'.slot i _ q
 rw[h1] at g1;cases g1
 refine⟨p,ys,v,rfl,rfl,g5,by rw[g6.len];exact hz,?_⟩
 exact k B G' _ σ (I'.write hb q h1 λH2 e2 s2=>⟨_,e2,g6.snoc vo⟩) s'
def Inv.lstR {pins:List (Addr×Obj)}{σ:St}{H:Hp}{s:Shared}{l:Addr}{xs:List V}(I:Inv X pins σ H s)(hH:Rd H l (.lst xs)):xs.length<=sizeLine/\∃(its:List Value) (n:Nat),Vals xs its/\xs.length=its.length/\s.heap.get? l=some {cls:=.type "list",data:=.seq its.toArray n}:=by
 obtain⟨z,its,n,r,e⟩:=hH.ok I.hok
 exact⟨z,its,n,r,r.length,e⟩
end
section
variable {K:Frag}{X:Cx}
def uW {g:Int->Int->V}{gd:D->D->Option D}(h:∀dx dy d,gd dx dy=some d->∃i j,dx=.int i/\dy=.int j/\∀G,Rp K G (g i j) d):j3 K (xr g) gd .v:=by
 intro B G H x y dx dy d Q s hB bx by' e k
 obtain⟨i,j,rfl,rfl,r⟩:=h _ _ _ e
 obtain rfl:=bx.int
 obtain rfl:=by'.int
 exact⟨i,j,rfl,rfl,k _ G H (Ext.refl s) (r G)⟩
def u5 {C:Int->Int->Prop}{g:Int->Int->V}{gd:D->D->Option D}(h:∀dx dy d,gd dx dy=some d->∃i j,dx=.int i/\dy=.int j/\C i j/\∀G,Rp K G (g i j) d):j3 K (rI C g) gd .v:=by
 intro B G H x y dx dy d Q s hB bx by' e k
 obtain⟨i,j,rfl,rfl,c,r⟩:=h _ _ _ e
 obtain rfl:=bx.int
 obtain rfl:=by'.int
 exact⟨i,j,rfl,rfl,c,k _ G H (Ext.refl s) (r G)⟩
def gI (c:Int->Int->Bool)(g:Int->Int->D):D->D->Option D
 | .int i,.int j=>if c i j=true then some (g i j) else none
 |_,_=>none
def rg (g:Int->Int->D):D->D->Option D
 | .int i,.int j=>some (g i j)
 |_,_=>none
def tM {c:Int->Int->Bool}{g:Int->Int->D}{dx dy d:D}(h:gI c g dx dy=some d):∃i j,dx=.int i/\dy=.int j/\c i j=true/\d=g i j:=by
 unfold gI at h
 split at h
 ·split at h
  ·cases h;exact⟨_,_,rfl,rfl,by assumption,rfl⟩
  ·cases h
 ·cases h
def jt {g:Int->Int->D}{dx dy d:D}(h:rg g dx dy=some d):∃i j,dx=.int i/\dy=.int j/\d=g i j:=by
 unfold rg at h
 split at h
 ·cases h;exact⟨_,_,rfl,rfl,rfl⟩
 ·cases h
def yo:D->D->Option D:=gI (λ_ j=>decide (0 < j) && decide (j < 1073741824)) λi j=>.int (i / j)
def zP:j3 K (rI Ab λi j=>.int (i / j)) yo .v:=u5 λdx dy d h=>by obtain⟨i,j,rfl,rfl,c,rfl⟩:=tM h;exact⟨i,j,rfl,rfl,by simpa[Ab] using c,λ_=>.int _⟩
def iU:D->D->Option D:=gI (λ_ j=>decide (0 < j)) λi j=>.int (i % j)
def mG:j3 K (rI (λ_ j=>0 < j) λi j=>.int (i % j)) iU .v:=u5 λdx dy d h=>by obtain⟨i,j,rfl,rfl,c,rfl⟩:=tM h;exact⟨i,j,rfl,rfl,by simpa using c,λ_=>.int _⟩
def C6 (i j:Int):Bool:=decide (0<=j) && decide (j<=1000000) && decide (i.natAbs < 2 ^ 64)
def xI:D->D->Option D:=gI C6 λi j=>.int (i ^ j.toNat)
def AG {i j:Int}(h:C6 i j=true):CD i j:=by
 unfold C6 at h
 simp only[Ir,JJ] at h
 exact⟨h.1.1,h.1.2,h.2⟩
def DO:j3 K (rI CD λi j=>.int (i ^ j.toNat)) xI .v:=u5 λdx dy d h=>by obtain⟨i,j,rfl,rfl,c,rfl⟩:=tM h;exact⟨i,j,rfl,rfl,AG c,λ_=>.int _⟩
def CM:D->D->Option D:=rg λi j=>.bool (decide (i < j))
def zj:D->D->Option D:=rg λi j=>.bool (decide (i<=j))
def GB:D->D->Option D:=rg λi j=>.bool (decide (j < i))
def EV:j3 K (xr λi j=>.bl (decide (i < j))) CM .v:=uW λdx dy d h=>by obtain⟨i,j,rfl,rfl,rfl⟩:=jt h;exact⟨i,j,rfl,rfl,λ_=>.bl _⟩
def BW:j3 K (xr λi j=>.bl (decide (i<=j))) zj .v:=uW λdx dy d h=>by obtain⟨i,j,rfl,rfl,rfl⟩:=jt h;exact⟨i,j,rfl,rfl,λ_=>.bl _⟩
def Gn:j3 K (xr λi j=>.bl (decide (j < i))) GB .v:=uW λdx dy d h=>by obtain⟨i,j,rfl,rfl,rfl⟩:=jt h;exact⟨i,j,rfl,rfl,λ_=>.bl _⟩
mutual
theorem uS:∀d:D,d.canLay0=true->wB d=true
 | .none,_=>rfl
 | .bool _,_=>rfl
 | .int _,_=>rfl
 | .str _,_=>rfl
 | .list ds,h=>by simp only[PyData.canLay0] at h;simp only[wB];exact lP ds h
 | .tuple ds,h=>by simp only[PyData.canLay0] at h;simp only[wB];exact lP ds h
 | .dict _,h=>by simp[PyData.canLay0] at h
theorem lP:∀ds:List D,PyData.canLayAll0 ds=true->qS ds=true
 | [],_=>rfl
 |d :: ds,h=>by
  simp only[PyData.canLayAll0,Ir] at h
  simp only[qS,Ir]
  exact⟨uS d h.1,lP ds h.2⟩
end
def w9 {d:D}(h:SeqAt.shaped d=true):wB d=true:=uS d (SeqAt.canLay_of_shaped h)
def dO (neg:Bool)(x y:D):Option D:=if (SeqAt.shaped x && SeqAt.shaped y)=true then some (.bool (if neg then !PyData.eqv x y else PyData.eqv x y)) else none
def iZ {neg:Bool}:j3 K (Dt K neg) (dO neg) .v:=by
 intro B G H x y dx dy d Q s hB bx by' e k
 unfold dO at e
 split at e
 ·rename_i h
  rw[Ir] at h
  cases e
  exact⟨dx,dy,(bx.rpH s).rep (w9 h.1),(by'.rpH s).rep (w9 h.2),h.1,h.2,k _ G H (Ext.refl s) (.bl _)⟩
 ·cases e
theorem il.seq {B:Option Addr}{G H:Hp}{v:V}{d:D}{ds:List D}(h:il K B G H v d)(e:jT d=some ds)(s:af G H):∃a xs,v=.ref a/\(dI K H a xs\/eB K H a xs)/\bw K G xs ds:=by
 cases d with
 |list l=>cases e;obtain⟨a,xs,e,q,r⟩:=h.list s;exact⟨a,xs,e,.inl (.inl q),r⟩
 |tuple l=>cases e;obtain⟨a,xs,e,q,r⟩:=h.tuple s;exact⟨a,xs,e,.inr q,r⟩
 |_=>cases e
def z5:D->Bool
 | .none=>true
 |_=>false
theorem bw.ints {G:Hp}:∀ns:List Int,bw K G (ns.map V.int) (ns.map int)
 | []=>.nil
 |n :: ns=>.cons (.int n) (bw.ints ns)
theorem rz.noNone {G:Hp}{kvs:List (Key×V)}{d:D}{r:List (D×D)}(h:rz K G kvs ((.none,d) :: r)):False:=by
 generalize e:(PyData.none,d) :: r=l at h
 cases h with
 | @one k x d' _=>
  injection e with e1 _
  injection e1 with e2 _
  cases k <;> cases e2
 | @cons k x xs d' ds _ _=>
  injection e with e1 _
  injection e1 with e2 _
  cases k <;> cases e2
theorem wu.noNone {G:Hp}{kvs:List (List Key×V)}{d:D}{r:List (D×D)}(h:wu K G kvs ((.none,d) :: r)):False:=by
 generalize e:(PyData.none,d) :: r=l at h
 cases h with
 |nil=>cases e
 | @cons k x xs d' ds _ _=>
  injection e with e1 _
  injection e1 with e2 _
  cases e2
def il.scr {B:Option Addr}{G H:Hp}{v:V}{ds:List D}(h:il K B G H v (.dict [(.none,.list ds)]))(s:af G H):∃a xs,v=.ref a/\dI K H a xs/\bw K G xs ds:=by
 rcases h with h | ⟨a,rfl,n,h⟩
 ·cases h with
  | @scr a ns q=>exact⟨a,_,rfl,s.seq q,bw.ints ns⟩
  |dK _ r=>exact r.noNone.elim
  |dT _ r=>exact r.noNone.elim
 ·rcases h with⟨_,_,r⟩ | ⟨_,_,r⟩
  ·exact r.noNone.elim
  ·exact r.noNone.elim
def nc:D->D->Option D
 | .list ds,.int i=>ji ds i
 | .tuple ds,.int i=>ji ds i
 | .str z,.int i=>if z.length<=sizeLine then (ji z.cps.toList i).map λc=>.str ⟨#[c]⟩ else none
 | .dict [(.none,.list ds)],.int i=>ji ds i
 |_,_=>none
theorem oS {G:Hp}{xs:List V}{ds:List D}{i:Int}{d:D}(r:bw K G xs ds)(h:ji ds i=some d):∃x,ji xs i=some x/\Rp K G x d:=by
 unfold ji at h ⊢
 rw[r.len]
 cases e:wA ds.length i with
 |none=>rw[e] at h;cases h
 |some j=>rw[e] at h;exact r.at h
theorem nK:j3 K (GW K) nc .v:=by
 intro B G H x y dx dy d Q s hB bx by' e k
 cases dx with
 |list ds=>
  cases dy with
  |int i=>
   obtain rfl:=by'.int
   obtain⟨a,xs,rfl,q,r⟩:=bx.list s
   obtain⟨v,ev,rv⟩:=oS r e
   exact .inl ⟨a,xs,i,v,rfl,rfl,.inl q,ev,k _ G H (Ext.refl s) rv⟩
  |_=>cases e
 |tuple ds=>
  cases dy with
  |int i=>
   obtain rfl:=by'.int
   obtain⟨a,xs,rfl,q,r⟩:=bx.tuple s
   obtain⟨v,ev,rv⟩:=oS r e
   exact .inr (.inl ⟨a,xs,i,v,rfl,rfl,q,ev,k _ G H (Ext.refl s) rv⟩)
  |_=>cases e
 |str z=>
  cases dy with
  |int i=>
   obtain rfl:=by'.int
   obtain rfl:=bx.str
   simp only[nc] at e
   split at e
   ·rename_i hz
    cases q:ji z.cps.toList i with
    |none=>rw[q] at e;cases e
    |some c=>rw[q] at e;cases e;exact .inr (.inr ⟨z,i,c,rfl,rfl,hz,q,k _ G H (Ext.refl s) (.str _)⟩)
   ·cases e
  |_=>cases e
 |none=>cases dy <;> cases e
 |bool b=>cases dy <;> cases e
 |int b=>cases dy <;> cases e
 |dict b=>
  obtain⟨ds,i,rfl,rfl,e⟩:∃ds i,b= [(.none,.list ds)]/\dy=.int i/\ji ds i=some d:=by
   unfold nc at e
   split at e
   ·contradiction
   ·contradiction
   ·contradiction
   ·rename_i h;cases h;exact⟨_,_,rfl,rfl,e⟩
   ·cases e
  obtain rfl:=by'.int
  obtain⟨a,xs,rfl,q,r⟩:=bx.scr s
  obtain⟨v,ev,rv⟩:=oS r e
  exact .inl ⟨a,xs,i,v,rfl,rfl,q,ev,k _ G H (Ext.refl s) rv⟩
def eN:D->Option D
 | .list ds=>some (.int ds.length)
 | .tuple ds=>some (.int ds.length)
 | .str z=>if z.length<=sizeLine then some (.int z.length) else none
 | .dict [(.none,.list ds)]=>some (.int ds.length)
 |_=>none
def FN (K:Frag):List V->Hp->VK->Prop:=λxs H Q=>∃x n,xs= [x]/\Eu K x H n/\Q (.int n) H
def kW:yw K (λx=>FN K [x]) eN .v:=by
 intro B G H x dx d Q s hB bx e k
 unfold eN at e
 split at e
 ·cases e;obtain⟨a,xs,rfl,q,r⟩:=bx.list s;exact⟨_,_,rfl,.inl ⟨xs,.inl q,r.len.symm⟩,k _ G H (Ext.refl s) (.int _)⟩
 ·cases e;obtain⟨a,xs,rfl,q,r⟩:=bx.tuple s;exact⟨_,_,rfl,.inr ⟨xs,q,r.len.symm⟩,k _ G H (Ext.refl s) (.int _)⟩
 ·obtain rfl:=bx.str
  split at e
  ·rename_i hz;cases e;exact⟨_,_,rfl,⟨hz,rfl⟩,k _ G H (Ext.refl s) (.int _)⟩
  ·cases e
 ·cases e;obtain⟨a,xs,rfl,q,r⟩:=bx.scr s;exact⟨_,_,rfl,.inl ⟨xs,q,r.len.symm⟩,k _ G H (Ext.refl s) (.int _)⟩
 ·cases e
def nS:D->Option D
 | .list ds=>some (.tuple ds)
 | .tuple ds=>some (.tuple ds)
 |_=>none
theorem ux:yw K (λx H Q=>∃p ys,[x]= [.ref p]/\((dI K H p ys/\∀l,H l=none->Q (.ref l) (upd H l (.tup ys)))\/(eB K H p ys/\Q (.ref p) H))) nS .v:=by
 intro B G H x dx d Q s hB bx e k
 cases dx with
 |list ds=>
  cases e
  obtain⟨a,xs,rfl,q,r⟩:=bx.list s
  refine⟨a,xs,rfl,.inl ⟨.inl q,λl hl=>?_⟩⟩
  have x:=Ext.new s (o:=.tup xs) hl
  exact k _ _ _ x (.tup (.inl (.inl ah)) (r.mono x.gg))
 |tuple ds=>
  cases e
  rcases bx with bx | ⟨_,_,_,z⟩
  ·cases bx with
   | @tup a xs _ hq r=>exact⟨a,xs,rfl,.inr ⟨hq.grow s.grow,k _ G H (Ext.refl s) (.tup hq r)⟩⟩
  ·exact z.elim
 |_=>cases e
def wL:D->Option D
 | .list ds=>some (.list ds)
 | .tuple ds=>some (.list ds)
 |_=>none
def zk:yw K (λx H Q=>∃p ys,[x]= [.ref p]/\(dI K H p ys\/eB K H p ys)/\∀l,H l=none->Q (.ref l) (upd H l (.lst ys))) wL .w:=by
 intro B G H x dx d Q s hB bx e k
 obtain⟨ds,e1,rfl⟩:∃ds,jT dx=some ds/\d=.list ds:=by
  cases dx <;> cases e <;> exact⟨_,rfl,rfl⟩
 obtain⟨a,xs,rfl,hq,r⟩:=bx.seq e1 s
 refine⟨a,xs,rfl,hq,λl hl=>?_⟩
 exact k _ _ _ (Ext.own s (o:=.lst xs) hl) ⟨l,rfl,hl,s.free hl,xs,ah,r⟩
def gL:List D->Option (List Bool)
 | []=>some []
 | .bool b :: ds=>(gL ds).map (b :: ·)
 |_=>none
theorem ng {G:Hp}:∀{ds:List D} {bs:List Bool} {xs:List V},gL ds=some bs->bw K G xs ds->xs=bs.map V.bl
 | [],bs,xs,e,r=>by cases e;cases r;rfl
 | .bool b :: ds,bs,xs,e,r=>by
  cases r with
  |cons r1 r2=>
   cases r1
   simp only[gL] at e
   cases q:gL ds with
   |none=>rw[q] at e;cases e
   |some cs=>rw[q] at e;cases e;rw[ng q r2];rfl
 | .none :: _,_,_,e,_=>by cases e
 | .int _ :: _,_,_,e,_=>by cases e
 | .str _ :: _,_,_,e,_=>by cases e
 | .list _ :: _,_,_,e,_=>by cases e
 | .tuple _ :: _,_,_,e,_=>by cases e
 | .dict _ :: _,_,_,e,_=>by cases e
def fw (f:List Bool->Bool):D->Option D
 | .list ds=>(gL ds).map λbs=>.bool (f bs)
 |_=>none
theorem um {f:List Bool->Bool}:yw K (λx=>rZ K f [x]) (fw f) .v:=by
 intro B G H x dx d Q s hB bx e k
 cases dx with
 |list ds=>
  simp only[fw] at e
  cases q:gL ds with
  |none=>rw[q] at e;cases e
  |some bs=>
   rw[q] at e
   cases e
   obtain⟨a,xs,rfl,hq,r⟩:=bx.list s
   obtain rfl:=ng q r
   exact⟨a,bs,rfl,.inl hq,k _ G H (Ext.refl s) (.bl _)⟩
 |_=>cases e
def Bw:R2:=λx y H Q=>∃l b xs zs,x=.ref l/\y=.ref b/\Rd H l (.lst xs)/\Rd H b (.lst zs)/\xs.length + zs.length<=sizeLine/\∀p,H p=none->Q (.ref p) (upd H p (.lst (xs ++ zs)))
def jZ:jz X (binaryOp .Add) Bw:=by
 intro pins s σ H x y v u Q I rx ry h
 obtain⟨l,b,xs,zs,rfl,rfl,hH,hB,hz,q⟩:=h
 cases rx
 cases ry
 obtain⟨z,its,n,r,hl,e⟩:=I.lstR hH
 obtain⟨z2,its2,n2,r2,hl2,e2⟩:=I.lstR hB
 refine PySem.P.add_list e e2 ?_ (by rw[HJ,HJ];omega)
 have ea:its.toArray ++ its2.toArray=(its ++ its2).toArray:=by simp
 rw[ea]
 exact⟨.ref _,_,I.lnew (t':=s.toks) (r.append r2) (by rw[Iu];omega),rfl,q _ I.fresh⟩
def gF:D->D->Option D
 | .list a,.list b=>if a.length + b.length<=sizeLine then some (.list (a ++ b)) else none
 |_,_=>none
def uM:j3 K Bw gF .w:=by
 intro B G H x y dx dy d Q s hB bx by' e k
 cases dx <;> cases dy <;> first | (cases e;done) |skip
 rename_i a b
 simp only[gF] at e
 split at e
 ·rename_i hz
  cases e
  obtain⟨p,xs,rfl,q1,r1⟩:=bx.list s
  obtain⟨p2,ys,rfl,q2,r2⟩:=by'.list s
  refine⟨p,p2,xs,ys,rfl,rfl,q1,q2,by rw[r1.len,r2.len];exact hz,λl hl=>?_⟩
  exact k _ _ _ (Ext.own s (o:=.lst (xs ++ ys)) hl) ⟨l,rfl,hl,s.free hl,_,ah,r1.append r2⟩
 ·cases e
def dh:D->D->Option D:=rg λi j=>.int (i + j)
def ik:j3 K (xr λi j=>.int (i + j)) dh .v:=uW λdx dy d h=>by obtain⟨i,j,rfl,rfl,rfl⟩:=jt h;exact⟨i,j,rfl,rfl,λ_=>.int _⟩
def cV:D->D->Option D:=gI (λi j=>(decide (-(2 ^ 64) < i) && decide (i < 2 ^ 64)) || (decide (-(2 ^ 64) < j) && decide (j < 2 ^ 64))) λi j=>.int (i * j)
def ir:j3 K (rI xR λi j=>.int (i * j)) cV .v:=u5 λdx dy d h=>by obtain⟨i,j,rfl,rfl,c,rfl⟩:=tM h;exact⟨i,j,rfl,rfl,by simpa[xR] using c,λ_=>.int _⟩
def Ej:D->Option D
 | .int i=>some (.int (-i))
 |_=>none
theorem Bx:yw K (rU λi=>.int (-i)) Ej .v:=by
 intro B G H x dx d Q s hB bx e k
 cases dx with
 |int i=>cases e;obtain rfl:=bx.int;exact⟨i,rfl,k _ G H (Ext.refl s) (.int _)⟩
 |_=>cases e
def DW:D->String
 | .none=>"NoneType"
 | .bool _=>"bool"
 | .int _=>"int"
 | .str _=>"str"
 | .list _=>"list"
 | .tuple _=>"tuple"
 | .dict _=>"dict"
def xt (d:D)(T:String):Bool:=DW d == T || (T == "int" && DW d == "bool")
def bK:D->Bool
 | .dict ((.none,_) :: _)=>true
 |_=>false
def gu (T:String)(d:D):Option D:=if bK d=true then none else some (.bool (xt d T))
def GN (K:Frag)(H:Hp)(x:V)(t:String):Prop:=zv K H x t\/(t="dict"/\∃a kvs ep,x=.ref a/\H a=some (.dT kvs ep))
def DT (K:Frag):List V->Hp->VK->Prop:=λxs H Q=>∃x T t b,xs= [x,.ty T]/\GN K H x t/\PySem.W.kitOne K (.type t) (.type T)=some b/\Q (.bl b) H
def wU:bQ X (.builtin "isinstance") (DT X.K):=by
 intro pins s σ H xs us Q I r h
 obtain⟨x,T,t,b,rfl,ty,e,q⟩:=h
 rcases ty with ty | ⟨rfl,a,kvs,ep,rfl,hk⟩
 ·exact wN pins s σ H _ us Q I r ⟨x,T,t,b,rfl,ty,e,q⟩
 ·obtain⟨u,c,rfl,rx,rc⟩:=vals2 r
  cases rc
  cases rx
  obtain⟨_,_,_,_,o,_,e2,ex,_⟩:=I.hok a _ hk
  exact ID PySem.W.kitx_dict I.kIn ⟨o,e2,ex.1⟩ e (λz=>nomatch z) λtk=>⟨.bl b,H,I.tok tk,rfl,q⟩
theorem il.ty {B:Option Addr}{G H:Hp}{v:V}{d:D}(h:il K B G H v d)(s:af G H)(n:bK d=false):GN K H v (DW d):=by
 cases d with
 |none=>obtain rfl:=h.none;exact .inl .non
 |bool b=>obtain rfl:=h.bool;exact .inl (.bl b)
 |int b=>obtain rfl:=h.int;exact .inl (.int b)
 |str b=>obtain rfl:=h.str;exact .inl (.str b)
 |list b=>obtain⟨a,xs,rfl,q,_⟩:=h.list s;exact .inl (.lst (.inl q))
 |tuple b=>obtain⟨a,xs,rfl,q,_⟩:=h.tuple s;exact .inl (.tup q)
 |dict b=>
  rcases h with h | ⟨a,rfl,_,h⟩
  ·cases h with
   |scr _=>cases n
   |dK q _=>exact .inl (.dic (s _ _ q))
   |dT q _=>exact .inr ⟨rfl,_,_,_,rfl,s _ _ q⟩
  ·rcases h with⟨_,q,_⟩ | ⟨_,q,_⟩
   ·exact .inl (.dic q)
   ·exact .inr ⟨rfl,_,_,_,rfl,q⟩
theorem D8 {d:D}{T:String}(hT:T∈ ["int","bool","str","list","tuple","dict"]):PySem.W.kitOne K (.type (DW d)) (.type T)=some (xt d T):=by
 simp only[HA,JQ,or_false] at hT
 cases d with
 |dict l=>rcases hT with rfl |rfl |rfl |rfl |rfl |rfl <;> rfl
 |none=>rcases hT with rfl |rfl |rfl |rfl |rfl |rfl <;> rfl
 |bool _=>rcases hT with rfl |rfl |rfl |rfl |rfl |rfl <;> rfl
 |int _=>rcases hT with rfl |rfl |rfl |rfl |rfl |rfl <;> rfl
 |str _=>rcases hT with rfl |rfl |rfl |rfl |rfl |rfl <;> rfl
 |list _=>rcases hT with rfl |rfl |rfl |rfl |rfl |rfl <;> rfl
 |tuple _=>rcases hT with rfl |rfl |rfl |rfl |rfl |rfl <;> rfl
def o5 {a:Expr}{fa:VF D}{La:List Nat}{ma:Md}{Γ:Fx}{E:XK}{pos p p2:Pos}(T:String){y:Str}(hT:T∈ ["int","bool","str","list","tuple","dict"])(hK:X.K=Γ.K)(hg:Gl X "isinstance")(hm:X.mg "isinstance"=none)(hgT:Gl X y)(hmT:X.mg y=none)(hvT:bootBuiltins y=some (.type T))(ha:SE X Γ E a fa La ma)
  (hnT:y≠"__name__":=by decide) (hdT:(y == ("__debug__":Str))=false:=by decide)
  (he:starEach [a,.Name y p2] X.env=(false,eval a X.env) :: starEach [.Name y p2] X.env:=by rfl) (he2:starEach [.Name y p2] X.env=(false,eval (.Name y p2) X.env) :: starEach [] X.env:=by rfl) (hpl:(backTo pos (starEach [.Name y p2] X.env)).any (·.1)=false:=by rfl) :
  SE X Γ E (.Call (.Name "isinstance" p) [a,.Name y p2] [] pos) (f1 fa (gu T)) La .v:=by
 refine PE.post' (aL wU hg hm (by decide +kernel) (ag ha (ag (uN hgT hmT hvT (show RelV (.ty T) _ from rfl) hnT hdT) az he2) he) (by decide) (by decide) he hpl) λσ H Q ⟨env,G,B,β,I,o⟩=>?_
 refine fV (r:=λx H1 Q=>DT X.K [x,.ty T] H1 Q) ?_ I o
 intro B G H x dx d Q s hB bx e k
 unfold gu at e
 split at e
 ·cases e
 ·rename_i hn
  cases e
  rw[hK]
  exact⟨x,T,DW dx,xt dx T,rfl,bx.ty s (by simpa using hn),D8 hT,k _ G H (Ext.refl s) (.bl _)⟩
def fO (fa fb fc:VF D)(g g':D->D->Option D):VF D:=λvs β=>(fa vs β).bnd λx β1=>(fb vs β1).bnd λy β2=>match g x y with
 |some (.bool true)=>(fc vs β2).bnd λz β3=>R.of (g' y z) β3
 |some (.bool false)=>.ok (.bool false) β2
 |_=>.bad
theorem qH {a b c:Expr}{fa fb fc:VF D}{ma mb mc:Md}{Γ:Fx}{E:XK}{pos:Pos}{op op':CmpOp}{r r':R2}{g g':D->D->Option D}(ho:jz X (compareOp op) r)(ho':jz X (compareOp op') r')(pr:j3 Γ.K r g .v)(pr':j3 Γ.K r' g' .v)(ha:SE X Γ E a fa [] ma)(hb:SE X Γ E b fb [] mb)(hc:SE X Γ E c fc [] mc)
  (hm:lastMarks [op,op'] [b,c]=false:=by with_unfolding_all rfl):SE X Γ E (.Compare a [op,op'] [b,c] pos) (fO fa fb fc g g') [] .v:=by
 refine PE.post' (xA ho ho' ha hb hc hm) λσ H Q ⟨env,G,B,β,I,o⟩=>?_
 refine two (W:=λx y H2=>r x y H2 λz H3=>∃k,z=.bl k/\(if k=true then pT Γ E fc [] mc σ H3 λw' H4=>r' y w' H4 Q else Q (.bl false) H3)) I (o.bnd.imp λd1 β1 h=>h.bnd.imp λd2 β2 h x y G2 H2 I2 s2 m2 bx by'=>?_)
 obtain⟨cb,ec,h⟩:∃cb,g d1 d2=some (.bool cb)/\Out Γ E (if cb=true then (fc (vl env) β2).bnd λz β3=>R.of (g' d2 z) β3 else .ok (.bool false) β2) λd β'=>∀v G' H',SR Γ B G' H' σ (aJ [] env) β'->af G G'->dG B H H'->VO Γ.K B H G' H' .v d v->Q v H':=by
  split at h
  ·rename_i q;exact⟨true,q,by rw[Hs rfl];exact h⟩
  ·rename_i q;exact⟨false,q,by rw[Ht HU];exact h⟩
  ·exact h.elim
 refine pr B G2 H2 x y d1 d2 _ _ I2.sub I2.boxThere bx by' ec λv G' H' x' vo=>?_
 cases vo
 refine⟨cb,rfl,?_⟩
 have I3:=I2.ext x'
 cases cb with
 |false=>rw[Ht HU] at h;exact lY (h _ G' H' I3 (s2.trans x'.gg) (m2.trans (x'.mov B)) (.bl false))
 |true=>
  rw[Hs rfl] at h
  refine rX ⟨env,G',B,β2,I3,h.bnd.imp λd3 β3 h z G4 H4 I4 s4 m4 vz=>?_⟩
  obtain⟨d,e,k⟩:=h.of
  refine pr' B G4 H4 y z d2 d3 d Q I4.sub I4.boxThere (by'.mono (x'.gg.trans s4) ((x'.mov B).trans m4)) (vz.brw I3.boxThere) e λv G5 H5 x5 vo=>?_
  exact k v G5 H5 (I4.ext x5) (((s2.trans x'.gg).trans s4).trans x5.gg) (((m2.trans (x'.mov B)).trans m4).trans (x5.mov B)) vo
end
def cA.u1 {k:Nat}{A:Around}(r:cA k A):A.units + 100 < cLine:=by have:=r.un;omega
def G6 (N:List Str)(sc:Scope)(NB:List Str)(own:Nat)(ixs:List Nat)(scope:Scope):Bool:=
 decide (scope.kind=.function) && (scope.names.all λy=>decide (scope.names.lookup y.1=some y.2)) &&
 (scope.names.all λy=>decide (y.2=.free->(sc.names.lookup y.1=some .cell\/sc.names.lookup y.1=some .free))) && decide NB.Nodup && decide (NB.length=own + ixs.length) &&
 ((List.range ixs.length).all λk=>decide (NB[own + k]? =N[ixs.getD k 0]?) && (match NB[own + k]? with |some x=>decide ((x,NameKind.free)∈scope.names) |none=>true))
def ll {X:Cx}{NB:List Str}{own:Nat}{ixs:List Nat}{scope:Scope}(h:G6 X.N X.env.scope NB own ixs scope=true):cL X NB own ixs scope:=by
 unfold G6 at h
 simp only[Ir,JR,JJ,HX] at h
 obtain⟨⟨⟨⟨⟨h1,h3⟩,h4⟩,h5⟩,h6⟩,h7⟩:=h
 refine⟨h1,h3,h4,h5,h6,λk hk=>⟨(h7 k hk).1,λx hx=>?_⟩⟩
 have:=(h7 k hk).2
 rw[hx] at this
 simpa using this
section
variable {X:Cx}{Γ:Fx}{E:XK}{e a b c:Expr}{f fa fb fc:VF D}{L La Lb:List Nat}{md ma mb mc:Md}{pos:Pos}{K:Frag}
def tN (fa:VF D)(neg:Bool):VF Bool:=λvs β=>(fa vs β).bnd λx β1=>.ok (if neg then !z5 x else z5 x) β1
def oT (Γ:Fx)(E:XK)(f:VF (Option Int))(L:List Nat):TO:=λσ H Q=>∃env G B β,SR Γ B G H σ env β/\
 Out Γ E (f (vl env) β) λd β'=>∀G' H',SR Γ B G' H' σ (aJ L env) β'->af G G'->dG B H H'->Q d H'
def Fp (X:Cx)(Γ:Fx)(E:XK)(e:Option Expr)(f:VF (Option Int))(L:List Nat):Prop:=PO X e (oT Γ E f L)
def ue:Fp X Γ E none (λ_ β=>.ok none β) []:=λpins s σ H Q I ⟨env,G,B,β,J,o⟩=>AV pins s σ H Q I (o G H J (af.refl _) (dG.refl _ _))
def CV (fa:VF D):VF (Option Int):=λvs β=>(fa vs β).bnd λx β1=>match x with
 | .int i=>.ok (some i) β1
 |_=>.bad
theorem u4 (ha:SE X Γ E a fa La ma):Fp X Γ E (some a) (CV fa) La:=λpins s σ H Q I ⟨env,G,B,β,J,o⟩=>by
 refine zy ha pins s σ H Q I ⟨env,G,B,β,J,o.bnd.imp λd1 β1 h x G1 H1 I1 s1 m1 vx=>?_⟩
 cases d1 with
 |int i=>exact⟨i,(vx.brw J.boxThere).int,h G1 H1 I1 s1 m1⟩
 |_=>exact h.elim
def cutD (xs:List D)(lo hi:Option Int):List D:=(xs.drop (HT.nq xs.length 0 lo)).take (HT.nq xs.length xs.length hi - HT.nq xs.length 0 lo)
def Ay {G:Hp}{xs:List V}{ds:List D}(r:bw K G xs ds)(lo hi:Option Int):bw K G (sr xs lo hi) (cutD ds lo hi):=by
 unfold sr cutD
 rw[r.len]
 exact (r.drop _).take _
def C8 (fa:VF D)(fl fh:VF (Option Int)):VF D:=λvs β=>(fa vs β).bnd λx β1=>(fl vs β1).bnd λl β2=>(fh vs β2).bnd λh β3=>match x with
 | .list ds=>.ok (.list (cutD ds l h)) β3
 |_=>.bad
theorem pJ {lo hi:Option Expr}{fl fh:VF (Option Int)}{Ll Lh:List Nat}{p2:Pos}(hK:X.K=Γ.K)(ha:SE X Γ E a fa La ma)(hl:Fp X Γ E lo fl Ll)(hh:Fp X Γ E hi fh Lh):SE X Γ E (.Subscript a (.Slice lo hi none p2) pos) (C8 fa fl fh) (La ++ Ll ++ Lh) .w:=by
 refine PE.post' (yK AA ha hl hh) λσ H Q ⟨env,G,B,β,I,o⟩=>?_
 refine⟨env,G,B,β,I,o.bnd.imp λd1 β1 h x G1 H1 I1 s1 m1 vx=>⟨aJ La env,G1,B,β1,I1,?_⟩⟩
 rw[fL]
 refine h.bnd.imp λl β2 h G2 H2 I2 s2 m2=>⟨aJ Ll (aJ La env),G2,B,β2,I2,?_⟩
 rw[fL,fL]
 refine h.bnd.imp λu β3 h G3 H3 I3 s3 m3=>?_
 rw[<-cv,<-cv,<-Ia] at I3
 have bx:=((vx.brw I.boxThere).mono s2 m2).mono s3 m3
 cases d1 with
 |list ds=>
  obtain⟨p,xs,rfl,hq,r⟩:=bx.list I3.sub
  rw[hK]
  refine⟨p,xs,rfl,.inl hq,λq hn=>?_⟩
  have x:=Ext.own I3.sub (o:=.lst (sr xs l u)) hn
  exact h _ _ _ (I3.ext x) ((s1.trans s2).trans s3) (((m1.trans m2).trans m3).trans (x.mov B)) ⟨q,rfl,dt ((m1.trans m2).trans m3) I3.boxThere hn,I3.sub.free hn,_,ah,Ay r l u⟩
 |_=>exact h.elim
def yO:j3 K (λx y H Q=>∃i j,[x,y]= [.int i,.int j]/\Q (.int (if j > i then j else i)) H) (rg λi j=>.int (if j > i then j else i)) .v:=by
 intro B G H x y dx dy d Q s hB bx by' e k
 obtain⟨i,j,rfl,rfl,rfl⟩:=jt e
 obtain rfl:=bx.int
 obtain rfl:=by'.int
 exact⟨i,j,rfl,k _ G H (Ext.refl s) (.int _)⟩
def yY:j3 K (λx y H Q=>∃i j,[x,y]= [.int i,.int j]/\Q (.int (if j < i then j else i)) H) (rg λi j=>.int (if j < i then j else i)) .v:=by
 intro B G H x y dx dy d Q s hB bx by' e k
 obtain⟨i,j,rfl,rfl,rfl⟩:=jt e
 obtain rfl:=bx.int
 obtain rfl:=by'.int
 exact⟨i,j,rfl,k _ G H (Ext.refl s) (.int _)⟩
end
inductive FB where
 |ok (d:D) (fresh:Bool) (β:Int)
 |bad
def DZ (K:Frag)(n:Nat)(F:List D->Int->FB):Sp:=λvs H Q _=>∃b rest G ds β,vs=.ref b :: rest/\H b=some (.lst [.int β])/\G b=none/\af G H/\ds.length=n/\bw K G rest ds/\match F ds β with
 | .ok d fr β'=>∀v G' H',dG (some b) H H'->H' b=some (.lst [.int β'])->af G G'->af G' H'->(∀c,Mx H c->G c=none->G' c=none)->FV K H G' H' fr d v->Q v H'
 | .bad=>False
structure oB (P:Program)(w:World)(K:Frag)(mg:Str->Option Value)(base:Heap)(x:Str)(ps:List Str)(k:Nat)(F:List D->Int->FB):Prop where
 ex:∃f fd,mg x=some (.ref f)/\PySem.W.keepIn K (.ref f)=true/\Binds K fd ps []/\cP P w K mg base (i7 P w) k f fd ps (DZ K (ps.length - 1) F)
 len:∀ds β,F ds β≠.bad->ds.length=ps.length - 1
def sZ (vs:List Nv)(i:Nat):Bool:=match vs[i]? with
 |some .bx=>true
 |_=>false
def nh (i:Nat)(F:List D->Int->FB)(fr:VF (List D)):VF D:=λvs β=>if sZ vs i=true then (fr vs β).bnd λds β1=>match F ds β1 with
 | .ok d _ β2=>.ok d β2
 | .bad=>.bad else .bad
def FX (i:Nat)(F:List D->Int->FB)(fr:VF (List D)):VF D:=λvs β=>if sZ vs i=true then (fr vs β).bnd λds β1=>match F ds β1 with
 | .ok d true β2=>.ok d β2
 |_=>.bad else .bad
section
variable {X:Cx}{Γ:Fx}{E:XK}{e a b c:Expr}{f fa fb fc:VF D}{L La Lb:List Nat}{md ma mb mc:Md}{pos:Pos}{K:Frag}{es:List Expr}{fr:VF (List D)}
def A4 {env:En}{i:Nat}(h:sZ (vl env) i=true):env[i]? =some .bx:=by
 unfold sZ at h
 split at h
 ·exact EK (by assumption)
 ·cases h
def AR {env:En}{i j:Nat}{d:D}(h:(eZ env i)[j]? =some (.br d)):env[j]? =some (.br d):=by
 unfold eZ at h
 split at h
 ·rename_i d' e
  by_cases z:i=j
  ·subst z
   rw[HI (HE.mp e).1] at h;cases h
  ·rw[HL z] at h;exact h
 ·exact h
theorem B8 {L:List Nat}{env:En}{j:Nat}{d:D}(h:(aJ L env)[j]? =some (.br d)):env[j]? =some (.br d):=by
 unfold aJ at h
 induction L generalizing env with
 |nil=>exact h
 |cons i L ih=>exact AR (ih h)
def SR.calledB {p:Addr}{β β':Int}{G1 H1 G2 H2:Hp}{σ:St}{env:En}(I1:SR Γ (some p) G1 H1 σ env β)(h:dG (some p) H1 H2)(hp:H2 p=some (.lst [.int β']))(g:af G1 G2)(s:af G2 H2)(n:∀b,Mx H1 b->G1 b=none->G2 b=none):SR Γ (some p) G2 H2 σ env β':=by
 obtain⟨b1,b2,b3⟩:=I1.box p rfl
 refine⟨s,I1.old.trans g,λb n1 n2=>n b (I1.thereM n1) (I1.new b n1 n2),λb o e np=>rA (I1.keep b o e np) h λz=>?_,λb hb=>?_,I1.fix,λb e=>?_,I1.len,λi t e=>?_,I1.sep⟩
 ·cases z
  rcases b3 with b3 |b3
  ·exact np b3
  ·rw[e] at b3;cases b3
 ·by_cases z:p=b
  ·subst z;exact Mx.lst hp
  ·exact (I1.pin b hb).same λo q=>h.1 b o q λy=>z (Option.some.inj y)
 ·cases e
  exact⟨hp,n p (Mx.lst b1) b2,b3⟩
 ·have q:=I1.slot i t e
  cases t with
  |no=>trivial
  |fz d=>obtain⟨v,h1,h2⟩:=q;exact⟨v,h1,h2.mono g⟩
  |ow d=>
   obtain⟨c,h1,h2,h3,h4,h5⟩:=q
   exact⟨c,h1,h2,n c h5.mx h3,h4,h5.mono g λo q=>h.1 c o q h4⟩
  |bx=>exact q
  |br d=>obtain⟨b1,c,h1,h4,hpp,h5⟩:=q;exact⟨b1,c,h1,h4,hpp,h5.mono g λo q=>h.1 c o q h4⟩
theorem AB {F:List D->Int->FB}{ps:List Str}{Q:VK}{B:Option Addr}{G H:Hp}{σ:St}{env:En}{β:Int}{i:Nat}{p:Addr}(I:SR Γ B G H σ env β)(hK:X.K=Γ.K)(hp:B=some p){wv:Bool}
  (h:Out Γ E (fr (vl env) β) λds β1=>Out Γ E (match F ds β1 with
   | .ok d true β2=>.ok d β2
   | .ok d false β2=>if wv=true then .bad else .ok d β2
   | .bad=>.bad) λd β'=>∀v G' H',SR Γ B G' H' σ (aJ L env) β'->af G G'->dG B H H'->VO Γ.K B H G' H' (if wv=true then .w else .v) d v->Q v H') (hl:∀ds β,F ds β≠.bad->ds.length=ps.length - 1) :
  aT Γ E fr L σ H λvs H1=>DZ X.K (ps.length - 1) F (.ref p :: vs) H1 Q E:=by
 subst hp
 refine⟨env,G,_,β,I,h.imp λds β1 k vs G1 H1 I1 s1 m1 r=>?_⟩
 obtain⟨b1,b2,b3⟩:=I1.box p rfl
 refine⟨p,vs,G1,ds,β1,rfl,b1,b2,I1.sub,hl ds β1 λz=>by rw[z] at k;exact k,by rw[hK];exact r,?_⟩
 cases q:F ds β1 with
 |bad=>rw[q] at k;exact k
 |ok d fr' β2=>
  rw[q] at k
  intro v G' H' hh hb hg hs hn fv
  have I2:=I1.calledB hh hb hg hs hn
  cases fr' with
  |true=>
   obtain⟨c,rfl,p1,p2,p3⟩:∃a,v=.ref a/\H1 a=none/\G' a=none/\Own X.K G' H' a d:=fv
   rw[hK] at p3
   have hp:=dt m1 I1.boxThere p1
   cases wv with
   |true=>exact k _ G' H' I2 (s1.trans hg) (m1.trans hh) ⟨c,rfl,hp,p2,p3⟩
   |false=>
    obtain⟨q1,q2,q3,q4⟩:=I1.fresh p1
    obtain⟨G3,I3,s3,r3⟩:=I2.letIn q1 p2 q3 q4 p3
    exact k _ G3 H' I3 ((s1.trans hg).trans s3) (m1.trans hh) r3
  |false=>
   cases wv with
   |true=>exact k.elim
   |false=>
    have fv:Rp X.K G' v d:=fv
    rw[hK] at fv
    exact k _ G' H' I2 (s1.trans hg) (m1.trans hh) fv
theorem BS {F:List D->Int->FB}{ps:List Str}{Q:VK}{i:Nat}{σ:St}{H:Hp}(hK:X.K=Γ.K){wv:Bool}(hl:∀ds β,F ds β≠.bad->ds.length=ps.length - 1)(h:pT Γ E (if wv=true then FX i F fr else nh i F fr) L (if wv=true then .w else .v) σ H Q) :
  zW i σ H λx H1=>aT Γ E fr L σ H1 λvs H2=>DZ X.K (ps.length - 1) F (x :: vs) H2 Q E:=by
 obtain⟨env,G,B,β,I,o⟩:=h
 have hi:sZ (vl env) i=true:=by
  by_cases hi:sZ (vl env) i=true
  ·exact hi
  ·exfalso
   cases wv with
   |true=>simp only[IX] at o;unfold FX at o;rw[Ht hi] at o;exact o
   |false=>simp only[HM,Iy] at o;unfold nh at o;rw[Ht hi] at o;exact o
 obtain⟨p,e1,e2⟩:=I.slot i _ (A4 hi)
 refine⟨.ref p,e1,AB (i:=i) (ps:=ps) I hK e2 (wv:=wv) ?_ hl⟩
 cases wv with
 |true=>
  simp only[IX] at o ⊢
  unfold FX at o
  rw[Hs hi] at o
  refine o.bnd.imp λds β1 h=>?_
  cases q:F ds β1 with
  |bad=>rw[q] at h;exact h
  |ok d b β2=>rw[q] at h;cases b <;> exact h
 |false=>
  simp only[HM,Iy] at o ⊢
  unfold nh at o
  rw[Hs hi] at o
  refine o.bnd.imp λds β1 h=>?_
  cases q:F ds β1 with
  |bad=>rw[q] at h;exact h
  |ok d b β2=>rw[q] at h;cases b <;> exact h
def gP {x y:Str}{ps:List Str}{k:Nat}{F:List D->Int->FB}{p np:Pos}(i:Nat)(hf:oB X.prog X.w X.K X.mg X.base x ps k F)(hr:cA k X.A)(hx:Passes (i7 X.prog X.w) X E)(hK:X.K=Γ.K)(hg:Gl X x)(ha:SA X Γ E es fr L)(hN:X.N[i]? =some y:=by rfl)(hv:u7 X.env.scope y:=by first |exact Or.inl rfl |exact Or.inr (Or.inl rfl) |exact Or.inr (Or.inr rfl))(hd:(y == ("__debug__":Str))=false:=by decide)
  (hcd:(y == ("__classdict__":Str))=false:=by decide) (hdb:(x == ("__debug__":Str))=false:=by decide)
  (he:starEach (.Name y np :: es) X.env=(false,eval (.Name y np) X.env) :: starEach es X.env:=by rfl) (hpl:(backTo pos (starEach es X.env)).any (·.1)=false:=by rfl):SE X Γ E (.Call (.Name x p) (.Name y np :: es) [] pos) (nh i F fr) L .v:=by
 obtain⟨f,fd,hm,hk,hb,hF⟩:=hf.ex
 refine PE.post' (j5 (dvs:=[]) hF hr hg hm hk hb .nil hx (ag (fB hN hv hd hcd) ha he) hdb he hpl) λσ H Q h=>?_
 have:=BS (Q:=Q) (wv:=false) (ps:=ps) hK hf.len (by simpa using h)
 show zW i σ H λx H1=>aT Γ E fr L σ H1 λvs H2=>DZ X.K (ps.length - 1) F ((x :: vs) ++ []) H2 Q E
 simpa using this
def wD:D->Option Int
 | .list [.int z]=>some z
 |_=>none
def Ax {d:D}{z:Int}(h:wD d=some z):d=.list [.int z]:=by
 unfold wD at h
 split at h
 ·cases h;rfl
 ·cases h
def Ho (f0:VF D)(F:List D->Int->FB)(n:Int):VF D:=λvs β=>(f0 vs β).bnd λd0 β1=>match wD d0 with
 |some z=>(match F [.int n] z with
  | .ok d _ _=>.ok d β1
  | .bad=>.bad)
 |none=>.bad
def l9 (env:En):En:=env.map λs=>match s with
 | .bx=>.no
 |s=>s
theorem yi {env:En}{i:Nat}{s:Sl}(h:(l9 env)[i]? =some s)(n:s≠.no):env[i]? =some s/\s≠.bx:=by
 unfold l9 at h
 rw[HH] at h
 cases e:env[i]? with
 |none=>rw[e] at h;cases h
 |some t=>
  rw[e] at h
  have h:=Option.some.inj h
  cases t with
  |bx=>exact absurd h.symm n
  |no=>exact absurd h.symm n
  |fz d=>subst h;exact⟨rfl,λz=>by cases z⟩
  |ow d=>subst h;exact⟨rfl,λz=>by cases z⟩
  |br d=>subst h;exact⟨rfl,λz=>by cases z⟩
def ud (i:Nat)(L:List Nat)(f:VF D):SF:=λenv β=>toS (f (vl env) β) λd _=>match wD d with
 |some z=>.nx ((l9 (aJ L env)).set i .bx) z
 |none=>.bad
theorem zz {i:Nat}{x:Str}{pos':Pos}(hbx:Γ.bx=none)(he:SE X Γ E e f L .w)(hN:X.N.Nodup)(hi:X.N[i]? =some x:=by rfl)(hx:Loc X.env.scope x:=by first |exact Or.inl rfl |exact Or.inr rfl)(hs:swapsWith e (some (.Name x pos')) pos.line X.env=pure false:=by rfl)(hf:X.fn x=true\/X.env.scope.names.lookup x=some .local:=by first |exact .inl rfl |exact .inr rfl |assumption) :
  SS X Γ E (.Assign [.Name x pos'] e pos) (ud i L f):=by
 refine PS.post (gf hN hi hx he hs hf) λN σ H ⟨env,G,B,β,I,o⟩=>?_
 refine⟨env,G,B,β,I,bO o λd β' k v G' H' I' s' m' vo=>?_⟩
 cases q:wD d with
 |none=>rw[q] at k;exact k.elim
 |some z=>
  rw[q] at k
  obtain rfl:=Ax q
  obtain⟨p,rfl,h1,h2,xs,h3,r⟩:=vo
  have hx2:H' p=some (.lst [.int z]):=by
   cases r with
   |cons r1 r2=>
    cases r1
    cases r2
    exact h3
  obtain⟨q1,q2,q3,q4⟩:=I.fresh h1
  refine k (some p) G' H' _ ⟨I'.sub,I'.old,I'.new,I'.keep,I'.pin,λb e=>(by rw[hbx] at e;cases e),λb e=>?_,?_,λj t e=>?_,λj j' c d1 d2 e1 e2 e3 e4=>?_⟩ s'
  ·cases e;exact⟨hx2,h2,.inr q1⟩
  ·rw[Jb,Jb];unfold l9;rw[HS];exact I'.len
  ·by_cases hj:j=i
   ·subst hj
    by_cases hl:j < (l9 (aJ L env)).length
    ·rw[HI hl] at e
     cases e
     refine⟨p,?_,rfl⟩
     rw[HI]
     rw[I'.len];unfold l9 at hl;simpa using hl
    ·rw[JG (by rw[Jb];omega)] at e;cases e
   ·rw[HL (Ne.symm hj)] at e ⊢
    by_cases hn:t=.no
    ·subst hn;trivial
    ·obtain⟨e1,nb⟩:=yi e hn
     have w:=I'.slot j t e1
     cases t with
     |no=>trivial
     |fz d=>exact w
     |bx=>exact absurd rfl nb
     |ow d=>
      obtain⟨a',g1,g2,g3,g4,g5⟩:=w
      exact⟨a',g1,g2,g3,λy=>q4 j d (ou e1) (by cases y;exact g1),g5⟩
     |br d=>
      obtain⟨b1,a',g1,g4,hpp,g5⟩:=w
      have e0:env[j]? =some (.br d):=B8 e1
      obtain⟨_,a2,f1,_,_,f5⟩:=I.slot j _ e0
      rw[g1] at f1;cases f1
      obtain⟨o,ho⟩:=f5.obj
      exact⟨b1,a',g1,λy=>(by cases y;rw[h1] at ho;cases ho),hpp,g5⟩
  ·have back:∀{j:Nat} {d1:D},((l9 (aJ L env)).set i Sl.bx)[j]? =some (.ow d1)->j≠i/\(aJ L env)[j]? =some (.ow d1):=λ{j d1} e=>by
    by_cases hj:j=i
    ·subst hj
     by_cases hl:j < (l9 (aJ L env)).length
     ·rw[HI hl] at e;cases e
     ·rw[JG (by rw[Jb];omega)] at e;cases e
    ·rw[HL (Ne.symm hj)] at e
     exact⟨hj,(yi e (λy=>by cases y)).1⟩
   obtain⟨n1,w1⟩:=back e1
   obtain⟨n2,w2⟩:=back e2
   rw[HL (Ne.symm n1)] at e3
   rw[HL (Ne.symm n2)] at e4
   exact I'.sep j j' c d1 d2 w1 w2 e3 e4
end
section
variable {P:Program}{w:World}{K:Frag}{mg:Str->Option Value}{base:Heap}{ca:Str->Addr}
def BX:SO->FB
 | .nx _ β=>.ok .none false β
 | .rt d fr β=>.ok d fr β
 |_=>.bad
def rm (n:Nat)(ds:List D):En:=.bx :: ds.map Sl.fz ++ List.replicate (n - 1 - ds.length) .no
def pV (n p:Nat)(m:SF):List D->Int->FB:=λds β=>if ds.length=p then BX (m (rm n ds) β) else .bad
abbrev Fx.fb (K:Frag)(H G:Hp)(ca:Str->Addr)(b:Addr):Fx:=⟨K,H,G,[b],ca,λ_=>false,some b⟩
def SR.startB {H G:Hp}{N:List Str}{b:Addr}{vs:List V}{ds:List D}{β:Int}(s:af G H)(hb:H b=some (.lst [.int β]))(gb:G b=none)(r:bw K G vs ds)(hn:ds.length + 1<=N.length):SR (Fx.fb K H G ca b) (some b) G H (L2.start N (.ref b :: vs)) (rm N.length ds) β:=by
 have hl:=r.len
 refine⟨s,af.refl _,λc _ h=>h,λc o h _=>Kt.of h,λc h=>?_,λc h=>h,λc h=>?_,?_,λi t e=>?_,λi j a d e h=>?_⟩
 ·have:c=b:=by simpa using h
  subst this;exact Mx.lst hb
 ·cases h;exact⟨hb,gb,.inl (by simp)⟩
 ·unfold L2.start rm;simp;omega
 ·cases i with
  |zero=>
   unfold rm at e
   cases e
   exact⟨b,rfl,rfl⟩
  |succ i=>
   unfold rm at e
   have e:(ds.map Sl.fz ++ List.replicate (N.length - 1 - ds.length) Sl.no)[i]? =some t:=by simpa using e
   by_cases hi:i < ds.length
   ·rw[IA (by simpa using hi),HH,Hq hi] at e
    cases e
    obtain⟨x,hx,rx⟩:=r.at (Hq hi)
    refine⟨x,?_,rx⟩
    unfold L2.start
    have hi':i < vs.length:=by rw[hl];exact hi
    rw[IA (by simp;exact hi'),HH,List.getElem?_cons_succ,hx];rfl
   ·rw[Iv (by simpa using hi),Jh] at e
    split at e
    ·cases e;trivial
    ·cases e
 ·unfold rm at h
  have hm:=HG h
  rcases HA.mp hm with z |hm
  ·cases z
  rcases HP.mp hm with z |z
  ·obtain⟨_,_,z⟩:=HK.mp z;cases z
  ·have:=Jy z;cases this
def p4 {x qual:Str}{st:Stmt}{f:Addr}{fd:FuncData}{N:List Str}{ps:List Str}{k:Nat}{m:SF}(F:wC K x qual st f fd)(S:aI N ps (aq st))(hp:1<=ps.length)
  (hbody:∀(cdv:Value) (A:Around) (outer:List Env) (s:Shared) (H G:Hp) (b:Addr) (E:XK),cA k (A.deeper (envOfC qual (aq st) s.heap.objs.size f cdv))->wy (gC (i7 P w) P w K mg base N qual (aq st) f cdv A outer s H E) (Fx.fb K H G ca b) E (aY st) m) :
  cP P w K mg base (i7 P w) (k + 1) f fd ps (DZ K (ps.length - 1) (pV N.length (ps.length - 1) m)):=by
 have hpn:ps.length<=N.length:=by have:=congrArg List.length S.pre;rw[IU] at this;omega
 refine F.BD S (λvs H Q E h=>?_) (λcdv A outer s H vs Q E hr h=>?_)
 ·obtain⟨b,rest,G,ds,β,rfl,hb,gb,sG,hl,r,_⟩:=h
  rw[HQ,r.len];omega
 ·obtain⟨b,rest,G,ds,β,rfl,hb,gb,sG,hl,r,h⟩:=h
  refine⟨_,hbody cdv A outer s H G b E hr,?_⟩
  have I:=SR.startB (ca:=ca) (N:=N) sG hb gb r (by omega)
  refine⟨_,G,some b,β,I,?_⟩
  unfold pV at h
  rw[Hs hl] at h
  have fin':∀{B G' H' σ env β},SR (Fx.fb K H G ca b) B G' H' σ env β->dG (some b) H H'/\H' b=some (.lst [.int β]):=λJ=>by
   have e:=J.fix b rfl
   have k:∀c o,H c=some o->some b≠some c->Kt _ c o:=λc o ec n=>J.keep c o ec λz=>n (show some b=some c by rw[show c=b by simpa using z])
   exact⟨⟨k,λc o u ec=>k c _ ec λz=>by cases z;rw[hb] at ec;cases ec⟩,(J.box b e).1⟩
  cases q:m (rm N.length ds) β with
  |nx env β'=>rw[q] at h;exact λB G' H' σ J s'=>h .non G' H' (fin' J).1 (fin' J).2 s' J.sub (λc h1 h2=>J.new c h1 h2) Rp.non
  |bk env β'=>rw[q] at h;exact h.elim
  |ct env β'=>rw[q] at h;exact h.elim
  |rt d fr β'=>
   rw[q] at h
   refine λB G' H' σ env v J s' rv=>h v G' H' (fin' J).1 (fin' J).2 s' J.sub (λc h1 h2=>J.new c h1 h2) ?_
   cases fr with
   |true=>exact rv
   |false=>exact rv
  |exc c=>rw[q] at h;exact h.elim
  |bad=>rw[q] at h;exact h.elim
def qY {n p:Nat}{m:SF}(ds:List D)(β:Int)(h:pV n p m ds β≠.bad):ds.length=p:=by
 unfold pV at h
 by_cases hl:ds.length=p
 ·exact hl
 ·rw[Ht hl] at h;exact absurd rfl h
end
def aE (p:Pr):D:=.tuple [.int p.1,.int p.2]
def pP:D->Option Pr
 | .tuple [.int a,.int b]=>some (a,b)
 |_=>none
def xZ {d:D}{p:Pr}(h:pP d=some p):d=aE p:=by
 unfold pP at h
 split at h
 ·cases h;rfl
 ·cases h
def vk (p:Pr):pP (aE p)=some p:=rfl
def cG:List D->Option (List Pr)
 | []=>some []
 |d :: ds=>match pP d,cG ds with
  |some p,some ps=>some (p :: ps)
  |_,_=>none
theorem hJ:∀{ds:List D} {ps:List Pr},cG ds=some ps->ds=ps.map aE
 | [],ps,h=>by cases h;rfl
 |d :: ds,ps,h=>by
  unfold cG at h
  split at h
  ·rename_i p qs h1 h2;cases h;rw[xZ h1,hJ h2];rfl
  ·cases h
theorem dA:∀ps:List Pr,cG (ps.map aE)=some ps
 | []=>rfl
 |p :: ps=>by
  show (match pP (aE p),cG (ps.map aE) with
   |some p,some ps=>some (p :: ps)
   |_,_=>none)=_
  rw[vk,dA ps]
section
variable {K:Frag}{X:Cx}{G H:Hp}
theorem bw.pairs:∀{ps:List Pr} {xs:List V},bw K G xs (ps.map aE)->aB K G xs ps
 | [],_,.nil=>.nil
 |p :: ps,_,.cons r t=>by
  cases r with
  |tup hq r=>
   cases r with
   |cons r1 r=>
    cases r with
    |cons r2 r=>cases r;cases r1;cases r2;exact .cons ⟨_,rfl,hq⟩ (bw.pairs t)
theorem aB.rps:∀{ps:List Pr} {xs:List V},aB K G xs ps->bw K G xs (ps.map aE)
 | [],_,.nil=>.nil
 |p :: ps,_,.cons r t=>by
  obtain⟨a,rfl,q⟩:=r
  exact .cons (.tup q (.cons (.int _) (.cons (.int _) .nil))) (aB.rps t)
def CP (p:Pr):Bool:=decide (0<=p.1) && decide (p.1 < 8) && decide (0<=p.2) && decide (p.2 < 8)
def BP {p:Pr}(h:CP p=true):Sm p:=by
 unfold CP at h
 simp only[Ir,JJ] at h
 exact⟨⟨h.1.1.1,h.1.1.2⟩,h.1.2,h.2⟩
variable {Γ:Fx}{E:XK}{e a b c:Expr}{f fa fb fc:VF D}{L La Lb:List Nat}{md ma mb mc:Md}{pos:Pos}
def qG {g:D->Option D}{p1 p2 pos2:Pos}(hgo:∀d r,g d=some r->∃ds ps,jT d=some ds/\cG ds=some ps/\ps.all CP=true/\(∀m,m<=(OM.bt 8 (OM.Mem ps)).length->L2.ST.iG m)/\r=.list ((OM.bt 8 (OM.Mem ps)).map aE))(hc:X.calm=true)(hu:X.A.units + 64 < cLine)(hK:X.K=Γ.K)(hg:Gl X "sorted")(hm:X.mg "sorted"=none)(hg2:Gl X "set")(hm2:X.mg "set"=none)(ha:SE X Γ E a fa La ma)
  (he:starEach [a] X.env=(false,eval a X.env) :: starEach [] X.env:=by rfl)
  (he2:starEach [.Call (.Name "set" p2) [a] [] pos2] X.env=(false,eval (.Call (.Name "set" p2) [a] [] pos2) X.env) :: starEach [] X.env:=by rfl) :
  SE X Γ E (.Call (.Name "sorted" p1) [.Call (.Name "set" p2) [a] [] pos2] [] pos) (f1 fa g) La .w:=by
 refine PE.post' (aL (oy hc) hg hm (by decide +kernel) (ag (e9 (zh hc hu) hg2 hm2 (by decide +kernel) (ag ha az he) (by decide) (by decide) he) az he2) (by decide) (by decide) he2) λσ H Q ⟨env,G,B,β,I,o⟩=>?_
 refine fV (r:=λx H1 Q=>DQ X.prog X.w X.K [x] H1 λy H2=>ra X.prog X.w X.K [y] H2 Q) ?_ I o
 intro B G H x dx d Q s hB bx e k
 rw[hK]
 obtain⟨ds,ps,q,q2,h1,h2,rfl⟩:=hgo _ _ e
 obtain⟨p,xs,rfl,hq,r⟩:=bx.seq q s
 rw[hJ q2] at r
 have pv:=(r.mono s).pairs
 have sm:∀p,p∈ps->Sm p:=λp hp=>BP (JR.mp h1 p hp)
 refine⟨p,xs,ps,rfl,hq,pv,sm,λS qs hS hpv nd hm=>?_⟩
 have qsl:L2.ST.iG qs.length:=by
  have:(pq qs).length<=(OM.bt 8 (OM.Mem ps)).length:=OM.dc nd λx hx=>by
   have hx':=(hm x).mp hx
   have hs:=sm x hx'
   exact OM.bp.mpr ⟨⟨⟨hs.1.1,hs.1.2⟩,hs.2.1,hs.2.2⟩,hx'⟩
  simp only[HS] at this
  exact h2 _ this
 have xS:=Ext.own s (o:=vh X.prog X.w S qs) hS
 refine⟨S,qs,rfl,ah,hpv.grow (dM.new hS),λp hp=>sm p ((hm p).mp hp),nd,qsl,λl ws rs hl hpw hr hmem=>?_⟩
 have ers:rs=OM.bt 8 (OM.Mem ps):=OM.i8 hr (OM.fk _ _) λx=>by
  rw[hmem x,hm x,OM.bp]
  constructor
  ·intro hx;have hs:=sm x hx;exact⟨⟨⟨hs.1.1,hs.1.2⟩,hs.2.1,hs.2.2⟩,hx⟩
  ·intro hx;exact hx.2
 subst ers
 have hlH:H l=none:=by
  by_cases z:l=S
  ·subst z;exact hS
  ·rw[ao z] at hl;exact hl
 have lS:l≠S:=λz=>by subst z;rw[ah] at hl;cases hl
 have hh:af H (upd (upd H S (vh X.prog X.w S qs)) l (.lst ws)):=(af.new hS).trans (af.new hl)
 have xx:=Ext.tups s hh
 refine k _ _ _ xx ⟨l,rfl,hlH,?_,ws,ah,?_⟩
 ·unfold jx
  rw[s.free hlH,ah]
  exact Ht λy=>y
 ·refine aB.rps (Paired.mapP hpw λv p ⟨a,ea,qa⟩=>⟨a,ea,kN (s.trans hh) ?_⟩)
  exact qa.grow (dM.new hl)
end
section
variable {K:Frag}{X:Cx}{G H:Hp}{Γ:Fx}{E:XK}{e a b c:Expr}{f fa fb fc:VF D}{L La Lb:List Nat}{md ma mb mc:Md}{pos apos cpos np:Pos}
def gR:D->Option D
 | .int n=>if 0<=n/\n<=1000 then some (.list (dv 0 n.toNat)) else none
 |_=>none
def vS (n:Nat):bw K G ((List.range n).map λ(i:Nat)=>V.int (i:Int)) (dv 0 n):=by
 have key:∀l:List Nat,bw K G (l.map λ(i:Nat)=>V.int (i:Int)) (l.map λ(k:Nat)=>int (0 + k)):=by
  intro l
  induction l with
  |nil=>exact .nil
  |cons x l ih=>exact .cons (by show Rp K G (.int (x:Int)) (.int (0 + (x:Int)));rw[Int.zero_add];exact .int _) ih
 exact key _
theorem tm {p1 p2 pos2:Pos}(hc:X.calm=true)(hg:Gl X "list")(hm:X.mg "list"=none)(hg2:Gl X "range")(hm2:X.mg "range"=none)(ha:SE X Γ E a fa La ma)
  (he:starEach [a] X.env=(false,eval a X.env) :: starEach [] X.env:=by rfl)
  (he2:starEach [.Call (.Name "range" p2) [a] [] pos2] X.env=(false,eval (.Call (.Name "range" p2) [a] [] pos2) X.env) :: starEach [] X.env:=by rfl) :
  SE X Γ E (.Call (.Name "list" p1) [.Call (.Name "range" p2) [a] [] pos2] [] pos) (f1 fa gR) La .w:=by
 refine PE.post' (e9 (mi hc) hg hm (by decide +kernel) (ag (e9 xh hg2 hm2 (by decide +kernel) (ag ha az he) (by decide) (by decide) he) az he2) (by decide) (by decide) he2) λσ H Q ⟨env,G,B,β,I,o⟩=>?_
 refine fV (r:=λx H1 Q=>∃n:Int,[x]= [.int n]/\∀p,H1 p=none->(λ(y:V) (H2:Hp)=>∃(p:Addr) (n:Int),[y]= [V.ref p]/\H2 p=some (.lX 0 n)/\0<=n/\n<=1000/\∀l,H2 l=none->Q (.ref l) (upd H2 l (.lst ((List.range n.toNat).map λ(i:Nat)=>V.int (i:Int))))) (V.ref p) (upd H1 p (.lX 0 n))) ?_ I o
 intro B G H x dx d Q s hB bx e k
 cases dx with
 |int n=>
  obtain rfl:=bx.int
  simp only[gR] at e
  split at e
  ·rename_i hh
   cases e
   refine⟨n,rfl,λp hp=>⟨p,n,rfl,ah,hh.1,hh.2,λl hl=>?_⟩⟩
   have hlp:l≠p:=λz=>by subst z;rw[ah] at hl;cases hl
   have hlH:H l=none:=by rw[ao hlp] at hl;exact hl
   have x1:=Ext.own s (o:=.lX 0 n) hp
   have x2:=Ext.own x1.gh (o:=.lst ((List.range n.toNat).map λ(i:Nat)=>V.int (i:Int))) hl
   exact k _ _ _ (x1.trans x2) ⟨l,rfl,hlH,s.free hlH,_,ah,vS _⟩
  ·cases e
 |_=>cases e
def zK:D->Option D
 | .int i=>some (.int (if i < 0 then -i else i))
 |_=>none
theorem EG:yw K (λx H Q=>∃i,[x]= [.int i]/\Q (.int (if i < 0 then -i else i)) H) zK .v:=by
 intro B G H x dx d Q s hB bx e k
 cases dx with
 |int i=>cases e;obtain rfl:=bx.int;exact⟨i,rfl,k _ G H (Ext.refl s) (.int _)⟩
 |_=>cases e
noncomputable def GJ (d:D):Option D:=match d with
 | .list ds=>(match cG ds with
  |some ps=>if ps.all CP=true/\ps.Nodup/\ps.length < 64 then some (.list ((OM.bt 8 (OM.Mem ps)).map aE)) else none
  |none=>none)
 |_=>none
def vM (ds:List D)(k:D):Option (D×List D):=match k with
 | .int i=>if -(2 ^ 63)<=i/\i < 2 ^ 63 then (match seqIndex? i ds.length with
  |some n=>(match ds[n]? with
   |some d=>some (d,ds.eraseIdx n)
   |none=>none)
  |none=>none) else none
 |_=>none
def fX (i j:Nat)(L:List Nat)(f:VF D):SF:=λenv β=>if sH env[i]? =true/\sH env[j]? =true/\i≠j then toS (f (vl env) β) λk β'=>match (aJ L env)[j]? with
 |some (.ow (.list es))=>(match vM es k with
  |some (d,es')=>DJ i ((aJ L env).set j (.ow (.list es'))) β' λds=>if ds.length < sizeLine then some (ds ++ [d]) else none
  |none=>.bad)
 |_=>.bad else .bad
theorem bw.eraseIdx:∀{xs:List V} {ds:List D} (i:Nat),bw K G xs ds->bw K G (xs.eraseIdx i) (ds.eraseIdx i)
 |_,_,_,.nil=>.nil
 |_,_,0,.cons _ t=>t
 |_,_,i + 1,.cons r t=>.cons r (bw.eraseIdx i t)
theorem vn (i j:Nat){x y:Str}{np2 apos2 cpos2:Pos}(hb:∀j,Γ.br j=false)(he:SE X Γ E e f L md)(hN:X.N[i]? =some x:=by rfl)(hv:u7 X.env.scope x:=by first |exact Or.inl rfl |exact Or.inr (Or.inl rfl) |exact Or.inr (Or.inr rfl))(hd:(x == ("__debug__":Str))=false:=by decide)
  (hcd:(x == ("__classdict__":Str))=false:=by decide)
  (hN2:X.N[j]? =some y:=by rfl) (hv2:u7 X.env.scope y:=by first |exact Or.inl rfl |exact Or.inr (Or.inl rfl) |exact Or.inr (Or.inr rfl)) (hd2:(y == ("__debug__":Str))=false:=by decide)
  (hcd2:(y == ("__classdict__":Str))=false:=by decide)
  (hbase:attributeBase (.Name x np) "append" X.env (eval (.Name x np) X.env)=eval (.Name x np) X.env:=by rfl)
  (hfew:((backTo cpos (starEach [.Call (.Attribute (.Name y np2) "pop" apos2) [e] [] cpos2] X.env)).all (λx=> !x.1) && (backToKw cpos (keywordEach [] X.env)).all (λx=>x.1.isSome)
   && decide ([Expr.Call (.Attribute (.Name y np2) "pop" apos2) [e] [] cpos2].length + ([]:List Keyword).length + (if ([]:List Keyword).isEmpty then 0 else 1) < 30))=true:=by rfl)
  (hline:(apos.endLine == cpos.line)=true:=by rfl) (hs:starEach [.Call (.Attribute (.Name y np2) "pop" apos2) [e] [] cpos2] X.env=(false,eval (.Call (.Attribute (.Name y np2) "pop" apos2) [e] [] cpos2) X.env) :: starEach [] X.env:=by rfl)
  (hbase2:attributeBase (.Name y np2) "pop" X.env (eval (.Name y np2) X.env)=eval (.Name y np2) X.env:=by rfl)
  (hfew2:((backTo cpos2 (starEach [e] X.env)).all (λx=> !x.1) && (backToKw cpos2 (keywordEach [] X.env)).all (λx=>x.1.isSome)
   && decide ([e].length + ([]:List Keyword).length + (if ([]:List Keyword).isEmpty then 0 else 1) < 30))=true:=by rfl)
  (hline2:(apos2.endLine == cpos2.line)=true:=by rfl) (hs2:starEach [e] X.env=(false,eval e X.env) :: starEach [] X.env:=by rfl)
  (hsw:swapsWith (.Call (.Attribute (.Name x np) "append" apos) [.Call (.Attribute (.Name y np2) "pop" apos2) [e] [] cpos2] [] cpos) none pos.line X.env=pure false:=by rfl) :
  SS X Γ E (.Expr (.Call (.Attribute (.Name x np) "append" apos) [.Call (.Attribute (.Name y np2) "pop" apos2) [e] [] cpos2] [] cpos) pos) (fX i j L f):=by
 refine PS.post (tS (qO JA PySem.F.slot_list_append PySem.F.type_list_append js (fB hN hv hd hcd)
  (ag (qO JA PySem.F.slot_list_pop PySem.F.type_list_pop wY (fB hN2 hv2 hd2 hcd2) (ag he az hs2) hbase2 hfew2 hline2 hs2 rfl) az hs) hbase hfew hline hs rfl) hsw) λN σ H ⟨env,G,B,β,I,o⟩=>?_
 unfold fX at o
 by_cases hO:sH env[i]? =true/\sH env[j]? =true/\i≠j
 case neg=>rw[Ht hO] at o;exact o.elim
 rw[Hs hO] at o
 obtain⟨hO1,hO2,hij⟩:=hO
 obtain⟨ds0,q0⟩:=nH hO1
 obtain⟨es0,w0⟩:=nH hO2
 obtain⟨p,h1,_,_,_,xs,h5,_⟩:=I.slot i _ q0
 obtain⟨q,k1,_,_,_,ys,k5,_⟩:=I.slot j _ w0
 refine⟨_,h1,.inl ⟨rfl,xs,.inl (.inl h5)⟩,?_⟩
 refine⟨_,k1,.inl ⟨rfl,ys,.inl (.inl k5)⟩,?_⟩
 refine⟨env,G,B,β,I,bO o λkd β' k v G' H' I' s' m' vo=>?_⟩
 cases ej:(aJ L env)[j]? with
 |none=>rw[ej] at k;exact k.elim
 |some sj=>
  rw[ej] at k
  cases sj with
  |ow dj=>
   cases dj with
   |list es=>
    dsimp only at k
    cases ep:vM es kd with
    |none=>rw[ep] at k;exact k.elim
    |some pr=>
     obtain⟨d,es'⟩:=pr
     rw[ep] at k
     dsimp only at k
     unfold vM at ep
     cases kd <;> first | (cases ep;done) |skip
     rename_i ii
     dsimp only at ep
     split at ep
     ·rename_i hr
      cases eI:seqIndex? ii es.length with
      |none=>rw[eI] at ep;cases ep
      |some n=>
       rw[eI] at ep
       dsimp only at ep
       cases eD:es[n]? with
       |none=>rw[eD] at ep;cases ep
       |some d0=>
        rw[eD] at ep
        cases ep
        obtain rfl:=(vo.brw I.boxThere).int
        obtain⟨q',g1,_,_,_,zs,g5,g6⟩:=I'.slot j _ ej
        rw[k1] at g1;cases g1
        obtain⟨xv,ex,rx⟩:=g6.at eD
        refine⟨q,zs,ii,n,xv,rfl,rfl,g5,hr.1,hr.2,by rw[g6.len];exact eI,ex,?_⟩
        have I2:=I'.write hb ej k1 (o:=.lst (zs.eraseIdx n)) (d':=.list (es.eraseIdx n)) λH2 e2 s2=>⟨_,e2,g6.eraseIdx n⟩
        obtain⟨ds,fs,eq,eg,k⟩:=uo k
        by_cases hz:ds.length < sizeLine
        case neg=>rw[Ht hz] at eg;cases eg
        rw[Hs hz] at eg
        cases eg
        obtain⟨p',f1,_,_,_,us,f5,f6⟩:=I2.slot i _ eq
        rw[h1] at f1;cases f1
        refine⟨p,us,xv,rfl,rfl,f5,by rw[f6.len];exact hz,?_⟩
        exact k B G' _ σ (I2.write hb eq h1 λH2 e2 s2=>⟨_,e2,f6.snoc rx⟩) s'
     ·cases ep
   |_=>exact k.elim
  |_=>exact k.elim
end
def eG:List D->Int->FB
 | [.int m],β=>if 0 < m/\m < 1073741824 then .ok (.int (β % m)) false (β / m) else .bad
 |_,_=>.bad
def tV {ds:List D}{β:Int}(h:eG ds β≠.bad):∃m,ds= [.int m]/\0 < m/\m < 1073741824:=by
 unfold eG at h
 split at h
 ·rename_i m
  by_cases hh:0 < m/\m < 1073741824
  ·exact⟨m,rfl,hh.1,hh.2⟩
  ·rw[Ht hh] at h;exact absurd rfl h
 ·exact absurd rfl h
def oM {m β:Int}(h0:0 < m)(h1:m < 1073741824):eG [.int m] β=.ok (.int (β % m)) false (β / m):=Hs ⟨h0,h1⟩
def constsOf:List Expr->Option (List Int)
 | []=>some []
 | .Constant (.int i) _ _ :: es=>(constsOf es).map λr=>i :: r
 |_=>none
def GR (ns:List Int):VF (List D):=λ_ β=>.ok (ns.map int) β
theorem mE {X:Cx}{Γ:Fx}{E:XK}:∀{es:List Expr} {ns:List Int},constsOf es=some ns->SA X Γ E es (GR ns) []
 | [],ns,h=>by
  have e:ns= []:=by unfold constsOf at h;exact (Option.some.inj h).symm
  subst e
  exact ay
 |e :: es,ns,h=>by
  unfold constsOf at h
  split at h
  ·cases ‹_ :: _= []›
  ·next i a b es' heq=>
   cases heq
   cases q:constsOf es with
   |none=>rw[q] at h;cases h
   |some r=>
    rw[q] at h
    have e2:i :: r=ns:=Option.some.inj h
    subst e2
    exact ak aC (mE q) rfl
  ·cases h
section
variable {P:Program}{w:World}{K:Frag}{mg:Str->Option Value}{base:Heap}
def zA {X:Cx}{i j:Nat}{x y:Str}{px py pos:Pos}{k:Nat}(hN:X.N.Nodup)(hi:X.N[i]? =some x)(hj:X.N[j]? =some y)(hx:X.env.scope.names.lookup x=some .local)(hy:X.env.scope.names.lookup y=some .local)(hc:X.calm=true) :
  PG X (.Tuple [.Name x px,.Name y py] k pos) (Az X.K 2 (kY (h9 i) (kY (h9 j) A0))):=
 kP hc (bX (bI hN hi (Or.inl hx) (Or.inr hx)) (bX (bI hN hj (Or.inl hy) (Or.inr hy)) i9))
def yT {b:Addr}{β m:Int}{H:Hp}{Q:VK}{G:Hp}(hb:H b=some (.lst [.int β]))(s:af G H){p:Addr}(hp:H p=none)
  (kk:∀v G' H',dG (some b) H H'->H' b=some (.lst [.int (β / m)])->af G G'->af G' H'->(∀c,Mx H c->G c=none->G' c=none)->FV K H G' H' false (.int (β % m)) v->Q v H') (gb:G b=none) :
  Q (.int (β % m)) (upd (upd H p (.tup [.int (β / m),.int (β % m)])) b (.lst [.int (β / m)])):=by
 have hbp:b≠p:=ar hb hp
 refine kk _ G _ ⟨λc o e n=>Kt.of (by rw[ao (λz=>n (by rw[z])),ao (ar e hp)];exact e),λc o u e=>by rw[ao (λz=>by rw[z,hb] at e;cases e),ao (ar e hp)];exact e⟩ ah (af.refl _) (λc o e=>?_) (λc _ h=>h) (.int _)
 obtain⟨u,eu,_⟩:=(s c o e).some
 exact gE (gE (s c o e) (ar eu hp) λx y w=>by rw[hp] at w;cases w) (λz=>by rw[z,gb] at e;cases e) λx y w=>by rw[ao hbp,hb] at w;cases w
end
section
variable {K:Frag}{X:Cx}{G H:Hp}
def C1 (neg:Bool):D->D->Option D
 | .str x,.str y=>some (.bool (if neg then !decide (x=y) else decide (x=y)))
 |_,_=>none
def yh (x y:Str):decide (V.str x=V.str y)=decide (x=y):=by
 rw[Jf];simp
def EE:j3 K GQ (C1 true) .v:=by
 intro B G H x y dx dy d Q s hB bx by' e k
 cases dx <;> cases dy <;> first | (cases e;done) |skip
 cases e
 obtain rfl:=bx.str
 obtain rfl:=by'.str
 refine⟨rfl,?_⟩
 rw[yh]
 exact k _ G H (Ext.refl s) (.bl _)
end
def Ef (W:Addr->Str->Prop):Sp:=λvs H Q _=>∃(ea D:Addr) (x:Str),vs= [.ref ea]/\H ea=some (.ext (fm ea (.ref D)))/\W D x/\∀H',af H H'->Q (.str x) H'
def iD:En->Bool
 | []=>true
 | .no :: env=>iD env
 | .fz _ :: env=>iD env
 |_=>false
theorem hE:∀{env:En} {i:Nat} {s:Sl},iD env=true->env[i]? =some s->s=.no\/∃d,s=.fz d
 | [],_,_,_,e=>by simp at e
 | .no :: env,0,_,_,e=>by simp at e;exact .inl e.symm
 | .fz d :: env,0,_,_,e=>by simp at e;exact .inr ⟨d,e.symm⟩
 | .no :: env,i + 1,s,h,e=>hE (env:=env) h (by simpa using e)
 | .fz d :: env,i + 1,s,h,e=>hE (env:=env) h (by simpa using e)
 | .ow _ :: _,_,_,h,_=>by cases h
 | .br _ :: _,_,_,h,_=>by cases h
 | .bx :: _,_,_,h,_=>by cases h
def wa (marks:Str->Option Str)(m:SF):SF:=λenv β=>if iD env=true then (match m env 0 with
 | .rt d fr _=>.rt d fr β
 | .exc c=>(match marks c with
  |some x=>.rt (.str x) false β
  |none=>.bad)
 |_=>.bad) else .bad
section
variable {X:Cx}{Γ:Fx}{E:XK}{m:SF}
def SR.drop {B:Option Addr}{G H:Hp}{σ:St}{env:En}{β:Int}(I:SR Γ B G H σ env β)(hf:iD env=true):SR (Fx.fn Γ.K H G Γ.ca) none G H σ env 0:=by
 refine⟨I.sub,af.refl _,λb _ h=>h,λb o h _=>Kt.of h,λb h=>(by cases h),λb h=>(by cases h),λb h=>(by cases h),I.len,λi s e=>?_,λi j a d e h=>?_⟩
 ·rcases hE hf e with rfl | ⟨d,rfl⟩
  ·trivial
  ·exact I.slot i _ e
 ·rcases hE hf h with z | ⟨_,z⟩ <;> cases z
def SR.undrop {B B':Option Addr}{G H G' H':Hp}{σ σ':St}{env env':En}{β β':Int}(I:SR Γ B G H σ env β)(J:SR (Fx.fn Γ.K H G Γ.ca) B' G' H' σ' env' β'):SR Γ B G' H' σ (List.replicate env.length .no) β:=by
 have kp:∀b o,H b=some o->Kt H' b o:=λb o e=>J.keep b o e (by simp)
 have ks:af H H':=kp
 refine⟨J.sub,I.old.trans J.old,λb h1 h2=>J.new b (I.thereM h1) (I.new b h1 h2),λb o h1 h2=>(I.keep b o h1 h2).step ks,λb hb=>(I.pin b hb).same (kp b),I.fix,λb e=>?_,by rw[Jo];exact I.len,λi s e=>?_,λi j a d e h=>?_⟩
 ·obtain⟨h1,h2,h3⟩:=I.box b e
  exact⟨kp b _ h1,J.new b (Mx.lst h1) h2,h3⟩
 ·rw[Jy (HG e)];trivial
 ·have:=Jy (HG h);cases this
def SR.forget {B:Option Addr}{G H H':Hp}{σ:St}{env:En}{β:Int}(I:SR Γ B G H σ env β)(hh:af H H'):SR Γ B G H' σ env β:=I.ext ⟨hh,af.refl _,I.sub.trans hh,λ_ _=>rfl⟩
def B5 {n x y:Str}{i k:Nat}{Dc gm:Addr}{dm:FuncData}{W:Addr->Str->Prop}{marks:Str->Option Str}{np hpos pos cp fp ap rp:Pos}{body:List Stmt}(hb:∀Eb Ex pn H G,Passes (i7 X.prog X.w) (X.inTry Ex pn) Eb->wy (X.inTry Ex pn) (Fx.fn Γ.K H G Γ.ca) Eb body m)
  (hM:nt X.prog X.w X.K X.mg X.base rQ k gm dm ["e"] (Ef W)) (hr:∀e,jL k (X.inEx e).A) (hmg:X.mg y=some (.ref gm)) (hkp:PySem.W.keepIn X.K (.ref gm)=true) (hbi:Binds X.K dm ["e"] [])
  (hw:∀c z,marks c=some z->Mt X.K (.ref (Γ.ca c)) Dc/\W (Γ.ca c) z)
  (hm:X.mg x=some (.ref Dc)) (hN:X.N.Nodup) (hgy:∀e,Gl (X.inEx e) y:=by intro _;rfl) (hst:X.stack=X.env :: X.outer:=by rfl) (hfr:X.env.frame=some X.env.locals:=by rfl) (hex:X.ex= []:=by rfl) (hg:Gl X x:=by rfl) (hi:X.N[i]? =some n:=by rfl) (hk:X.env.scope.names.lookup n=some .local:=by rfl)
  (hd:(n == ("__debug__":Str))=false:=by decide) (hcd:(n == ("__classdict__":Str))=false:=by decide)
  (hdb:(x == ("__debug__":Str))=false:=by decide) (hdy:(y == ("__debug__":Str))=false:=by decide)
  (he:∀e,starEach [.Name n ap] (X.inEx e).env=(false,eval (.Name n ap) (X.inEx e).env) :: starEach [] (X.inEx e).env:=by intro _;rfl) :
  SS X Γ E (.Try body [.ExceptHandler (some (.Name x np)) (some n) [.Return (some (.Call (.Name y fp) [.Name n ap] [] cp)) rp] hpos] [] [] pos) (wa marks m):=by
 have hbU:∀Eb Ex pn,Passes (i7 X.prog X.w) (X.inTry Ex pn) Eb->jU (X.inTry Ex pn) body (λD σ H=>∃H0 G0,sT (Fx.fn Γ.K H0 G0 Γ.ca) Eb m D σ H):=λEb Ex pn hp pins s σ H D I ⟨H0,G0,q⟩=>hb Eb Ex pn H0 G0 hp pins s σ H D I q
 have hsU:∀e,jU (X.inEx e) [.Return (some (.Call (.Name y fp) [.Name n ap] [] cp)) rp] _:=λe=>b6 (eS (zf hM (hr e) (hgy e) hmg hkp hbi .nil Bb (ag (fB (i:=i) hi (Or.inl hk) hd hcd) az (he e)) hdy (he e) rfl))
 refine PS.post (BZ (i:=i) hst hfr hex hbU hsU hg hm hN hi hk hdb) λN σ H ⟨env,G,B,β,I,o⟩=>?_
 unfold wa at o
 by_cases hf:iD env=true
 case neg=>rw[Ht hf] at o;exact o.elim
 rw[Hs hf] at o
 refine⟨λcls _ H'=>∃c z,cls=.ref (Γ.ca c)/\marks c=some z/\af H H'/\m env 0=.exc c,⟨H,G,env,G,none,0,I.drop hf,?_⟩,?_⟩
 ·cases q:m env 0 with
  |nx e b=>rw[q] at o;exact o.elim
  |bk e b=>rw[q] at o;exact o.elim
  |ct e b=>rw[q] at o;exact o.elim
  |bad=>rw[q] at o;exact o.elim
  |rt d fr b=>
   rw[q] at o
   intro B' G' H' σ' env' v J s rv
   refine o B G' H' σ _ v (I.undrop J) s ?_
   unfold RV at rv ⊢
   cases fr with
   |false=>exact rv
   |true=>
    rw[Hs rfl] at rv ⊢
    obtain⟨a,rfl,h1,h2,h3⟩:=rv
    exact⟨a,rfl,(I.fresh h1).1,h2,h3⟩
  |exc c=>
   rw[q] at o
   intro H' kp
   cases q2:marks c with
   |none=>dsimp only at o;rw[q2] at o;exact o.elim
   |some z=>exact⟨c,z,rfl,q2,λb u e=>kp b u e (by simp),rfl⟩
 ·rintro cls d H' ⟨c,z,rfl,q2,s',q⟩
  rw[q] at o
  dsimp only at o
  rw[q2] at o
  obtain⟨w1,w2⟩:=hw c z q2
  refine⟨w1,λea σ' hea hlen=>?_⟩
  have hil:i < σ'.length:=by rw[hlen];exact (HE.mp hi).1
  refine⟨.ref ea,HI hil,ea,_,z,rfl,ah,w2,λH2 s2=>?_⟩
  exact o B G H2 σ _ (.str z) (I.forget ((s'.trans (af.new hea)).trans s2)) (af.refl _) (Rp.str z)
end
structure Aj (P:Program)(w:World)(K:Frag)(mg:Str->Option Value)(base:Heap)(ca:Str->Addr)(x y:Str)(marks:Str->Option Str):Prop where
 ex:∃(gm Dc:Addr) (dm:FuncData) (W:Addr->Str->Prop),nt P w K mg base rQ 1 gm dm ["e"] (Ef W)/\mg y=some (.ref gm)/\PySem.W.keepIn K (.ref gm)=true/\Binds K dm ["e"] []/\mg x=some (.ref Dc)/\∀c z,marks c=some z->Mt K (.ref (ca c)) Dc/\W (ca c) z
section
variable {X:Cx}{Γ:Fx}{E:XK}{m:SF}
def AO {n x y:Str}{i k:Nat}{marks:Str->Option Str}{np hpos pos cp fp ap rp:Pos}{body:List Stmt}(M:Aj X.prog X.w X.K X.mg X.base Γ.ca x y marks)(hr:cA (k + 1) X.A)(hb:∀Eb Ex pn H G,Passes (i7 X.prog X.w) (X.inTry Ex pn) Eb->wy (X.inTry Ex pn) (Fx.fn Γ.K H G Γ.ca) Eb body m)
  (hN:X.N.Nodup) (hgy:∀e,Gl (X.inEx e) y:=by intro _;rfl) (hst:X.stack=X.env :: X.outer:=by rfl) (hfr:X.env.frame=some X.env.locals:=by rfl) (hex:X.ex= []:=by rfl) (hg:Gl X x:=by rfl) (hi:X.N[i]? =some n:=by rfl) (hk:X.env.scope.names.lookup n=some .local:=by rfl)
  (hd:(n == ("__debug__":Str))=false:=by decide) (hcd:(n == ("__classdict__":Str))=false:=by decide)
  (hdb:(x == ("__debug__":Str))=false:=by decide) (hdy:(y == ("__debug__":Str))=false:=by decide)
  (he:∀e,starEach [.Name n ap] (X.inEx e).env=(false,eval (.Name n ap) (X.inEx e).env) :: starEach [] (X.inEx e).env:=by intro _;rfl) :
  SS X Γ E (.Try body [.ExceptHandler (some (.Name x np)) (some n) [.Return (some (.Call (.Name y fp) [.Name n ap] [] cp)) rp] hpos] [] [] pos) (wa marks m):=by
 obtain⟨gm,Dc,dm,W,h1,h2,h3,h4,h5,h6⟩:=M.ex
 exact B5 (i:=i) hb h1 (λe=>((hr.mono (by omega)).mark _)) h2 h3 h4 h6 h5 hN hgy hst hfr hex hg hi hk hd hcd hdb hdy he
end
section
variable {X:Cx}{Γ:Fx}{E:XK}{e a b c:Expr}{f fa fb:VF D}{L La Lb:List Nat}{md ma mb:Md}{pos:Pos}
def qe (i j:Nat)(La Lb:List Nat)(fa fb:VF D):SF:=λenv β=>toS (fa (vl env) β) λd1 β1=>toS (fb (vl env) β1) λd2 β2=>.nx (((aJ (La ++ Lb) env).set i (.fz d1)).set j (.fz d2)) β2
def uU {i j:Nat}{x y:Str}{px py pt:Pos}{kt k2 pt2}(hN:X.N.Nodup)(hij:i≠j)(ha:SE X Γ E a fa La .v)(hb:SE X Γ E b fb Lb .v)(hc:X.calm=true:=by rfl)(hi:X.N[i]? =some x:=by rfl)(hj:X.N[j]? =some y:=by rfl)
  (hx:X.env.scope.names.lookup x=some .local:=by rfl) (hy:X.env.scope.names.lookup y=some .local:=by rfl)
  (hs1:starEach [a,b] X.env=(false,eval a X.env) :: starEach [b] X.env:=by rfl) (hs2:starEach [b] X.env=(false,eval b X.env) :: starEach [] X.env:=by rfl)
  (hw:swappedStores [.Tuple [.Name x px,.Name y py] kt pt] (.Tuple [a,b] k2 pt2) X.env=pure (some [x,y]):=by rfl)
  (hs:swapsWithSole [.Tuple [.Name x px,.Name y py] kt pt] (.Tuple [a,b] k2 pt2) pos.line X.env=pure false:=by rfl) :
  SS X Γ E (.Assign [.Tuple [.Name x px,.Name y py] kt pt] (.Tuple [a,b] k2 pt2) pos) (qe i j La Lb fa fb):=by
 refine PS.post (Cv hc hN hi hj hij hx hy (ag ha (ag hb az hs2) hs1) hw hs) λN σ H ⟨env,G,B,β,I,o⟩=>?_
 refine⟨env,G,B,β,I,bO o λd1 β1 k v G1 H1 I1 s1 m1 vo=>⟨aJ La env,G1,B,β1,I1,?_⟩⟩
 rw[fL]
 refine bO k λd2 β2 k w G2 H2 J s2 m2 vo2=>?_
 have vo:Rp Γ.K G1 v d1:=vo
 have vo2:Rp Γ.K G2 w d2:=vo2
 refine⟨_,_,rfl,k B G2 H2 _ ?_ (s1.trans s2)⟩
 rw[cv]
 exact (J.set' i (vo.mono s2)).set' j vo2
end
section
variable {κ:Type}[DecidableEq κ]
def putK (kvs:List (κ×V))(k:κ)(v:V):List (κ×V):=
 if (kvs.any λkv=>decide (kv.1=k))=true then kvs.map (λkv=>if kv.1=k then (kv.1,v) else kv) else kvs ++ [(k,v)]
def qB (kvs:List (κ×V))(k:κ)(v:V):(putK kvs k v).length<=kvs.length + 1:=by
 unfold putK
 split
 ·rw[HS];omega
 ·rw[Iu,HQ,Js];omega
theorem KV.any {kvs:List (κ×V)}{vs:List (κ×Value)}(r:KV kvs vs)(k:κ):(kvs.any λkv=>decide (kv.1=k))=vs.any λkv=>decide (kv.1=k):=by
 unfold KV at r
 induction r with
 |nil=>rfl
 |cons h t ih=>rw[any_cons,any_cons,ih,h.1]
theorem KV.repl {kvs:List (κ×V)}{vs:List (κ×Value)}(r:KV kvs vs)(k:κ){y:V}{u:Value}(ry:RelV y u) :
  KV (kvs.map λkv=>if kv.1=k then (kv.1,y) else kv) (vs.map λkv=>if kv.1=k then (kv.1,u) else kv):=by
 unfold KV at r ⊢
 induction r with
 |nil=>exact .nil
 | @cons p q ps qs h t ih=>
  rw[IQ,IQ]
  refine .cons ?_ ih
  obtain⟨h1,h2⟩:=h
  by_cases e:p.1=k
  ·rw[Hs e,Hs (h1.symm.trans e)];exact⟨h1,ry⟩
  ·rw[Ht e,Ht (λz=>e (h1.trans z))];exact⟨h1,h2⟩
def KV.put {kvs:List (κ×V)}{vs:List (κ×Value)}(r:KV kvs vs)(k:κ){y:V}{u:Value}(ry:RelV y u):KV (putK kvs k y) (stored vs k u):=by
 unfold putK stored
 rw[r.any k]
 by_cases e:(vs.any λkv=>decide (kv.1=k))=true
 ·rw[Hs e,Hs e];exact r.repl k ry
 ·rw[Ht e,Ht e];exact Paired.snoc r ⟨rfl,ry⟩
end
theorem DR {P:Program}{w:World}{k:Key}{u:Value}(r:RelV (kV k) u):(b4 P w).is k u=true:=by
 cases k with
 |inl i=>obtain⟨t,e⟩:=(show ∃t,u=Value.int i t from r);subst e;exact qP P w i t
 |inr x=>obtain⟨t,e⟩:=(show ∃t,u=Value.str x t from r);subst e;exact p9 P w x t
section
variable {P:Program}{w:World}{H:Hp}{h:Heap}{a:Addr}
def Em {u:HO}(ok:gx P w H h)(e:Rd H a u):aU P w H h a u:=e.ok ok
def EZ {kvs:List (Key×V)}(ok:gx P w H h)(e:Rd H a (.dK kvs)):kvs.length<=sizeLine/\(a == sysModules)=false/\∃vs,KV kvs vs/\h.DictOf (b4 P w) a vs:=
 show aU P w H h a (.dK kvs) from Em ok e
def Bm {kvs:List (Key×V)}(ok:gx P w H h)(e:H a=some (.dK kvs)):kvs.length<=sizeLine/\(a == sysModules)=false/\∃vs,KV kvs vs/\h.DictOf (b4 P w) a vs:=EZ ok (.inl e)
end
section
variable {X:Cx}{pins:List (Addr×Obj)}{σ:St}{H:Hp}{s:Shared}{a:Addr}{y v:V}{u r:Value}{o:Option V}{A:Around}{E:Value->Shared->Prop}
def Inv.big (I:Inv X pins σ H s):sysModules < s.heap.objs.size:=by
 have h:mainGlobals < s.heap.objs.size:=(I.mod.glob.keeps I.bk).lt
 exact JS (by decide) h
def z8 {h':Heap}{t':Nat}{ob:HO}(I:Inv X pins σ H s)(mu:Ek (H a))(hs:Heap.SameBut a s.heap h')(he:∃q,h'.get? a=some q)(new:aU X.prog X.w (upd H a ob) h' a ob) :
  Inv X pins σ (upd H a ob) {s with heap:=h',toks:=t'}:=
 I.write (x:=a) (e:=a) mu (.inl rfl) (λb q hb z=>(hs.2 b hb).trans z) he new
def BQ {P:Program}{w:World}{H':Hp}{h':Heap}{kvs:List (Key×V)}{vs:List (Key×Value)}(z:kvs.length<=sizeLine)(hd:(a == sysModules)=false)(rel:KV kvs vs)(dd:h'.DictOf (b4 P w) a vs) :
  aU P w H' h' a (.dK kvs):=⟨z,hd,vs,rel,dd⟩
end
def yJ {P:Program}{w:World}{H:Hp}(h:Heap)(hb:sysModules < h.objs.size):aU P w H (h.push {cls:=.type "dict",data:=.dict #[]}) h.objs.size (.dK []):=
 ⟨Ij _,beq_eq_false_iff_ne.mpr (Ne.symm (Ih hb)),[],.nil,Heap.DictOf.new h⟩
def yy {P:Program}{w:World}{H:Hp}(h:Heap)(hb:sysModules < h.objs.size):aU P w H (h.push {cls:=.type "dict",data:=.dict #[]}) h.objs.size (.dT [] 0):=
 ⟨Ij _,beq_eq_false_iff_ne.mpr (Ne.symm (Ih hb)),[],.nil,_,#[],HR _ rfl,⟨rfl,rfl,rfl⟩,rfl,rfl,List.nodup_nil⟩
def CS:TE:=λ_ H Q=>∀p,H p=none->Q (.ref p) (upd H p (.dT [] 0))
section
variable {X:Cx}{pos:Pos}
def xV:PE X (.Dict [] [] pos) CS:=λpins s σ H Q I h=>
 wpAny_Dict_empty ⟨.ref s.heap.objs.size,_,I.laid (a:=s.heap.objs.size) (o:=.dT [] 0) (t':=s.toks) (λ_ _ q=>Hx _ q) (Hv _) (yy s.heap I.big),rfl,h _ (I.hok.fresh (Hv _))⟩
end
def tw:List (TE×TE)->St->Hp->(List (V×V)->Hp->Prop)->Prop
 | [],_,H,Q=>Q [] H
 | (tk,tv) :: r,σ,H,Q=>tk σ H λx H1=>tv σ H1 λy H2=>tw r σ H2 λps H3=>Q ((x,y) :: ps) H3
abbrev VV:List (V×V)->List (Value×Value)->Prop:=Paired λp q=>RelV p.1 q.1/\RelV p.2 q.2
def Fj (X:Cx)(pos:Pos)(keys:List (Option Expr))(values:List Expr)(trs:List (TE×TE)):Prop:=
 ∀(pins:List (Addr×Obj)) (s:Shared) (σ:St) (H:Hp) (Q:List (V×V)->Hp->Prop),Inv X pins σ H s->tw trs σ H Q->
  wpAny (model X.prog X.w) X.A (evalPairs (pairTrees keys values X.env pos)) (λvs s'=>∃ps H',Inv X pins σ H' s'/\VV ps vs/\Q ps H') X.xe s
def zt {X:Cx}{pos:Pos}:Fj X pos [] [] []:=λpins s σ H Q I h=>pairTrees_nil_walk ⟨[],H,I,.nil,h⟩
def yP {X:Cx}{pos:Pos}{k v:Expr}{ks:List (Option Expr)}{vs:List Expr}{tk tv:TE}{trs:List (TE×TE)}(hk:PE X k tk)(hv:PE X v tv)(hr:Fj X pos ks vs trs) :
  Fj X pos (some k :: ks) (v :: vs) ((tk,tv) :: trs):=λpins s σ H Q I h=>
 pairTrees_cons_walk (bB (hk pins s σ H _ I h) λu s1 ⟨x,H1,I1,rx,q1⟩=>bB (hv pins s1 σ H1 _ I1 q1) λw2 s2 ⟨y,H2,I2,ry,q2⟩=>
  bB (hr pins s2 σ H2 _ I2 q2) λws s3 ⟨ps,H3,I3,rel,q3⟩=>⟨(x,y) :: ps,H3,I3,.cons ⟨rx,ry⟩ rel,q3⟩)
def ly (kvs more:List (Key×V)):List (Key×V):=more.foldl (λacc kv=>putK acc kv.1 kv.2) kvs
theorem KV.merge:∀{more:List (Key×V)} {rs:List (Key×Value)} {kvs:List (Key×V)} {vs:List (Key×Value)},KV more rs->KV kvs vs->KV (ly kvs more) (merged vs rs):=by
 intro more rs kvs vs r
 unfold KV at r
 induction r generalizing kvs vs with
 |nil=>intro q;exact q
 | @cons p q ps qs h t ih=>
  intro r0
  have e:KV (putK kvs p.1 p.2) (stored vs q.1 q.2):=by
   have:=r0.put p.1 h.2
   rw[<-h.1];exact this
  exact ih e
theorem ic:∀(more kvs:List (Key×V)),(ly kvs more).length<=kvs.length + more.length
 | [],kvs=>by show kvs.length<=kvs.length + 0;omega
 |p :: r,kvs=>by
  have h1:=ic r (putK kvs p.1 p.2)
  have h2:=qB kvs p.1 p.2
  show (ly (putK kvs p.1 p.2) r).length<=_
  rw[HQ];omega
theorem lh {P:Program}{w:World}:∀{kvs:List (Key×V)} {ws:List (Value×Value)},VV (kvs.map λkv=>(kV kv.1,kv.2)) ws->∃rs,Carries (b4 P w) ws rs/\KV kvs rs
 | [],_,r=>by rw[List.map_nil] at r;cases r;exact⟨[],True.intro,.nil⟩
 |p :: kvs,_,r=>by
  rw[IQ] at r
  cases r with
  | @cons a b as bs h t=>
   obtain⟨rs,c,q⟩:=lh (P:=P) (w:=w) t
   obtain⟨b1,b2⟩:=b
   exact⟨(p.1,b2) :: rs,⟨DR h.1,rfl,c⟩,.cons ⟨rfl,h.2⟩ q⟩
def D3 (trs:List (TE×TE)):TE:=λσ H Q=>∀p,H p=none->tw trs σ (upd H p (.dK [])) λps H2=>H2 p=some (.dK [])/\∃kvs:List (Key×V),ps=kvs.map (λkv=>(kV kv.1,kv.2))/\kvs.length<=15/\Q (.ref p) (upd H2 p (.dK (ly [] kvs)))
def Af {X:Cx}{pos:Pos}{keys:List (Option Expr)}{values:List Expr}{trs:List (TE×TE)}(h:Fj X pos keys values trs)(hall:keys.all (·.isSome)=true)(hl:keys.length=values.length)(h0:keys≠ [])
  (h15:keys.length<=15):PE X (.Dict keys values pos) (D3 trs):=by
 intro pins s σ H Q I q
 have hn:=I.hok.fresh (Hv s.heap.objs.size)
 have I1:=I.laid (a:=s.heap.objs.size) (o:=.dK []) (h':=s.heap.push {cls:=.type "dict",data:=.dict #[]}) (t':=s.toks) (λ_ _ q=>Hx _ q) (Hv _) (yJ s.heap I.big)
 refine wpAny_Dict_walk (knd:=b4 X.prog X.w) hall hl h0 h15 (bB (h pins _ σ _ _ I1 (q _ hn)) λws s2 ⟨ps,H2,I2,rel,e,kvs,ep,lk,q2⟩=>?_)
 subst ep
 obtain⟨rs,c,rk⟩:=lh (P:=X.prog) (w:=X.w) rel
 obtain⟨z,hd,vs0,r0,dd⟩:=Bm I2.hok e
 cases r0
 refine⟨rs,c,dd,λh' dd' hs=>⟨.ref s.heap.objs.size,_,?_,rfl,q2⟩⟩
 have hz:(ly [] kvs).length<=sizeLine:=by
  have h1:=ic kvs []
  rw[Js] at h1
  rw[Ik];omega
 have he:∃q,h'.get? s.heap.objs.size=some q:=let ⟨q,_,_,hq,_⟩:=dd';⟨q,hq⟩
 exact z8 I2 (by rw[e];exact True.intro) hs he (BQ hz hd (rk.merge .nil) dd')
section
variable {X:Cx}{Γ:Fx}{E:XK}{pos:Pos}
def Av {k:Str}{i:Int}{j j'}{p p':Pos}:SE X Γ E (.Dict [some (.Constant (.str k) j p)] [.Constant (.int i) j' p'] pos) (cst (.dict [(.str k,.int i)])) [] .v:=by
 refine PE.post' (Af (yP kh kR zt) rfl rfl (by simp) (by simp)) ?_
 rintro σ H Q ⟨env,G,B,β,I,o⟩ p hp
 have o:∀v G' H',SR Γ B G' H' σ (aJ [] env) β->af G G'->dG B H H'->Rp Γ.K G' v (.dict [(.str k,.int i)])->Q v H':=o
 refine⟨ah,[(.inr k,.int i)],rfl,by simp,?_⟩
 rw[A8]
 have xn:=Ext.new I.sub (o:=.dK [((.inr k:Key),V.int i)]) hp
 exact o _ _ _ (I.ext xn) xn.gg (xn.hh.mov B) (.dK (kvs:=[((.inr k:Key),V.int i)]) ah (.one (.int i)))
end
mutual
def xY:D->Bool
 | .list ds=>sL ds
 | .tuple ds=>sL ds
 | .dict kvs=> !kvs.isEmpty && kvs.all λkv=>match kv.1,kv.2 with
  | .str _,.int _=>true
  |_,_=>false
 |_=>true
def sL:List D->Bool
 | []=>true
 |d :: ds=>xY d && sL ds
end
section
variable {X:Cx}{pins:List (Addr×Obj)}{σ:St}{H:Hp}{s:Shared}
theorem rz.pr {K:Frag}:∀{kvs:List (Key×V)} {ds:List (D×D)},rz K H kvs ds->Paired (λ(p:Key×V) (q:D×D)=>q.1=kD p.1/\Rp K H p.2 q.2) kvs ds
 |_,_,.one h=>.cons ⟨rfl,h⟩ .nil
 |_,_,.cons h t=>.cons ⟨rfl,h⟩ (rz.pr t)
theorem qr {P:Program}{w:World}{K:Frag}{h:Heap}:∀{kvs:List (Key×V)} {ds:List (D×D)} {vs:List (Key×Value)} {es:List DictEntry},Paired (λ(p:Key×V) (q:D×D)=>q.1=kD p.1/\Rp K H p.2 q.2) kvs ds->KV kvs vs->Pairs (b4 P w) es vs->
  (ds.all λkv=>match kv.1,kv.2 with
   | .str _,.int _=>true
   |_,_=>false)=true->ReadsAll h (es.map (·.key)) (ds.map (·.1)) []/\ReadsAll h (es.map (·.val)) (ds.map (·.2)) []
 | [],_,_,_,.nil,kv,ps,_=>by
  cases kv
  cases ps
  exact⟨.nil,.nil⟩
 | (k,x) :: kvs,(_,_) :: _,_,_,.cons ⟨e0,r⟩ rk,kv,ps,hd=>by
  dsimp only at e0 r
  subst e0
  cases kv with
  |cons h1 h2=>
   cases ps with
   |cons q1 q2 q3=>
    rw[all_cons,Ir] at hd
    obtain⟨i1,i2⟩:=qr (P:=P) (w:=w) (h:=h) rk h2 q3 hd.2
    obtain⟨hd1,_⟩:=hd
    obtain⟨e1,rv⟩:=h1
    cases k with
    |inl i=>cases hd1
    |inr y=>
     rw[<-e1] at q1
     have q1:lF (Sum.inr y) _=true:=q1
     rcases aS q1 with⟨i,t,e,_⟩ | ⟨z,t,e,ek⟩
     ·cases e
     ·cases e
      cases r with
      |int i=>
       obtain⟨t',ev⟩:=rv
       refine⟨?_,?_⟩
       ·show ReadsAll h (_ :: _) (PyData.str y :: _) ([] ++ [])
        dsimp only
        rw[ek]
        exact .cons (.str y t) i1
       ·show ReadsAll h (_ :: _) (int i :: _) ([] ++ [])
        dsimp only
        rw[q2,ev]
        exact .cons (.int i t') i2
      |_=>cases hd1
def Inv.notSys (I:Inv X pins σ H s){a:Addr}{u:HO}(h:Rd H a u):a≠sysModules:=λe=>by
 obtain⟨mm,o,es,ep,ho,_⟩:=I.mod.sys
 have:=(I.bs _ o ho).2
 rw[<-e] at this
 rcases h with h | ⟨_,h⟩ <;> (rw[h] at this;cases this)
mutual
theorem Rp.readsL (I:Inv X pins σ H s):∀{x:V} {d:D} {u:Value},Rp X.K H x d->RelV x u->xY d=true->∃as,Reads s.heap u d as/\sysModules∉as
 |_,_,_,.non,r,_=>by cases r;exact⟨_,.none,by simp⟩
 |_,_,_,.bl b,r,_=>by cases r;exact⟨_,.bool b,by simp⟩
 |_,_,_,.int i,r,_=>by obtain⟨t,rfl⟩:=r;exact⟨_,.int i t,by simp⟩
 |_,_,_,.str x,r,_=>by obtain⟨t,rfl⟩:=r;exact⟨_,.str x t,by simp⟩
 |_,_,_,.tup h hs,r,n=>by
  cases r
  obtain⟨its,rv,⟨o,ho,hc,k,hd⟩,_⟩:=I.tuple h
  obtain⟨as,q,m⟩:=bw.readsL I hs rv n
  exact⟨_,.tuple ho hc hd (by simpa using q),m⟩
 |_,_,_,.lst (a:=a) h hs,r,n=>by
  cases r
  obtain⟨_,its,k,rv,_,ho⟩:=I.lstR (.inl h)
  obtain⟨as,q,m⟩:=bw.readsL I hs rv n
  refine⟨_,.list ho rfl rfl (by simpa using q),λz=>?_⟩
  rcases HA.mp z with e |z
  ·exact I.notSys (.inl h) e.symm
  ·exact m z
 |_,_,_,.scr h,r,n=>by cases n
 |_,_,_,.dK (a:=a) h hs,r,n=>by
  cases r
  obtain⟨_,hsy,vs,kv,o,es,ep,ho,hex,hdt,_,hp,_⟩:=Bm I.hok h
  obtain⟨q1,q2⟩:=qr (h:=s.heap) hs.pr kv hp (by
   have n:(!_ && _)=true:=n
   rw[Ir] at n
   exact n.2)
  refine⟨_,.dict ho hex.1 hdt q1 q2,?_⟩
  have:a≠sysModules:=λz=>by rw[z] at hsy;simp at hsy
  simp only[Jt,IC]
  exact λz=>this z.symm
 |_,_,_,.dT h hs,r,n=>by
  cases hs with
  |nil=>cases n
  |cons _ _=>
   simp[xY] at n
theorem bw.readsL (I:Inv X pins σ H s):∀{xs:List V} {ds:List D} {us:List Value},bw X.K H xs ds->Vals xs us->sL ds=true->∃as,ReadsAll s.heap us ds as/\sysModules∉as
 |_,_,_,.nil,r,_=>by cases r;exact⟨_,.nil,by simp⟩
 |_,_,_,.cons h hs,r,n=>by
  have n:(xY _ && sL _)=true:=n
  rw[Ir] at n
  cases r with
  |cons r1 r2=>
   obtain⟨as,q,m⟩:=Rp.readsL I h r1 n.1
   obtain⟨bs,q',m'⟩:=bw.readsL I hs r2 n.2
   exact⟨_,.cons q q',λz=>(HP.mp z).elim m m'⟩
end
end
def ze (d:D):Bool:=d.showable && decide (d.depth<=64) && decide (d.shown.length<=sizeLine) && ((wB d && !d.hasDict) || xY d)
def lR (d:D):Option D:=if ze d=true then some (.str d.shown) else none
def xB (K:Frag):List V->Hp->VK->Prop:=λxs H Q=>∃x d,xs= [x]/\Rp K H x d/\ze d=true/\Q (.str d.shown) H
section
variable {X:Cx}
theorem lO (hg:X.A.guards=some [])(hu:X.A.units + 100 < cLine):bQ X (.builtin "repr") (xB X.K):=by
 intro pins s σ H xs us Q I r h
 obtain⟨x,d,rfl,hd,ok,q⟩:=h
 obtain⟨u,rfl,rx⟩:=vals1 r
 unfold ze at ok
 simp only[Ir,Bool.or_eq_true,JJ] at ok
 obtain⟨⟨⟨h1,h2⟩,h3⟩,h4⟩:=ok
 have key:∀{a:Addr},u=.ref a->wpAny (model X.prog X.w) X.A (call (.builtin "repr") [u]) (EP X pins σ Q) X.xe s:=λ{a} e=>by
  subst e
  rcases h4 with h4 |h4
  ·obtain⟨as,rd⟩:=(hd.rep h4.1).reads I rx
   exact repr_of_reads' rd h1 (PyData.noDict_hsm (by simpa using h4.2)) hg (by omega) (λb o e=>e) (λh' u tk k=>⟨.str _,H,I.kept (t':=tk) k,⟨u,rfl⟩,q⟩) h3
  ·obtain⟨as,rd,m⟩:=hd.readsL I rx h4
   exact repr_of_reads' rd h1 (λ_=>m) hg (by omega) (λb o e=>e) (λh' u tk k=>⟨.str _,H,I.kept (t':=tk) k,⟨u,rfl⟩,q⟩) h3
 cases hd with
 |non=>cases rx;exact P.repr_of_none ⟨.str _,H,I.tok _,⟨_,rfl⟩,q⟩
 |bl b=>cases rx;exact P.repr_of_bool ⟨.str _,H,I.tok _,⟨_,rfl⟩,q⟩
 |int i=>obtain⟨t,rfl⟩:=rx;exact P.repr_of_int (by simpa[PyData.showable] using h1) ⟨.str _,H,I.tok _,⟨_,rfl⟩,q⟩
 |str y=>obtain⟨t,rfl⟩:=rx;exact P.repr_of_str ⟨.str _,H,I.tok _,⟨_,rfl⟩,q⟩ h3
 |tup _ _=>cases rx;exact key rfl
 |lst _ _=>cases rx;exact key rfl
 |scr _=>cases rx;exact key rfl
 |dK _ _=>cases rx;exact key rfl
 |dT _ _=>cases rx;exact key rfl
end
def uA {K:Frag}:yw K (λx=>xB K [x]) lR .v:=by
 intro B G H x dx d Q s hB bx e k
 unfold lR at e
 split at e
 ·rename_i hh
  cases e
  exact⟨x,dx,rfl,bx.rpH s,hh,k _ G H (Ext.refl s) (.str _)⟩
 ·cases e
def isStar:Expr->Bool
 | .Starred _ _=>true
 |_=>false
def vv {a:Expr}{es:List Expr}{env:Env}(h:isStar a=false):starEach (a :: es) env=(false,eval a env) :: starEach es env:=by
 cases a <;> first |rfl |cases h
def Dv (sc:Scope)(x:Str):Bool:=match sc.names.lookup x with
 |some .local=>true
 |some .cell=>true
 |some .free=>true
 |_=>false
def AM {sc:Scope}{x:Str}(h:Dv sc x=true):u7 sc x:=by
 unfold Dv at h
 unfold u7
 split at h
 ·exact .inl (by assumption)
 ·exact .inr (.inl (by assumption))
 ·exact .inr (.inr (by assumption))
 ·cases h
def wj (N:List Str)(sc:Scope):List (Str×Nat)->Bool
 | []=>true
 | (x,i) :: r=>decide (N[i]? =some x) && (Dv sc x && ((!(x == ("__debug__":Str))) && ((!(x == ("__classdict__":Str))) && wj N sc r)))
theorem uX {N:List Str}{sc:Scope}:∀{l:List (Str×Nat)} {x:Str} {i:Nat},wj N sc l=true->l.lookup x=some i->N[i]? =some x/\u7 sc x/\(x == ("__debug__":Str))=false/\(x == ("__classdict__":Str))=false
 | [],_,_,_,h=>by cases h
 | (y,j) :: r,x,i,h,e=>by
  simp only[wj,Ir,JJ,Kx] at h
  obtain⟨h1,h2,h3,h4,h5⟩:=h
  rw[JV] at e
  split at e
  ·rename_i q
   have q:x=y:=by simpa using q
   subst q
   cases e
   exact⟨h1,AM h2,h3,h4⟩
  ·exact uX h5 e
def vF:Expr->Option Int
 | .Constant (.int i) _ _=>some i
 |_=>none
theorem j4 {e:Expr}{i:Int}(h:vF e=some i):∃j p,e=.Constant (.int i) j p:=by
 cases e with
 |Constant c j p=>cases c <;> first | (cases h;exact⟨_,_,rfl⟩) |cases h
 |_=>cases h
def FW (op:UnaryOp)(e:Expr):Option Int:=match op with
 | .USub=>vF e
 |_=>none
def Br:Operator->Bool
 | .Pow=>true
 |_=>false
def yV {o:Operator}(h:Br o=true):o=.Pow:=by cases o <;> first |rfl |cases h
def Cc (ks:List (Option Expr))(vs:List Expr):Option (Str×Int):=match ks,vs with
 | [some (.Constant (.str k) _ _)],[v]=>(vF v).map λi=>(k,i)
 |_,_=>none
def zR {ks:List (Option Expr)}{vs:List Expr}{r:Str×Int}(h:Cc ks vs=some r):∃j p j' p',ks= [some (.Constant (.str r.1) j p)]/\vs= [.Constant (.int r.2) j' p']:=by
 unfold Cc at h
 split at h
 ·rename_i k j p v
  cases q:vF v with
  |none=>rw[q] at h;cases h
  |some i=>
   rw[q] at h
   cases h
   obtain⟨j',p',rfl⟩:=j4 q
   exact⟨_,_,_,_,rfl,rfl⟩
 ·cases h
def FE:Const->Option D
 | .int i=>some (.int i)
 | .bool b=>some (.bool b)
 | .none=>some .none
 | .str x=>some (.str x)
 |_=>none
mutual
def rD (nm:List (Str×Nat)):Expr->Option (VF D×List Nat)
 | .Name x _=>(nm.lookup x).map λi=>(gv i,[i])
 | .Constant c _ _=>(FE c).map λd=>(cst d,[])
 | .UnaryOp op a _=>(FW op a).map λi=>(cst (.int (-i)),[])
 | .BinOp a o b _=>if Br o=true then (vF a).bind λi=>(vF b).map λj=>(f2 (cst (.int i)) (cst (.int j)) xI,[]) else none
 | .Dict ks vs _=>(Cc ks vs).map λr=>(cst (.dict [(.str r.1,.int r.2)]),[])
 | .Tuple es _ _=>(CL nm es).map λr=>(bV r.1,r.2)
 | .List es _=>(CL nm es).map λr=>(bW r.1,r.2)
 | .BoolOp ..=>none
 | .NamedExpr ..=>none
 | .Lambda ..=>none
 | .IfExp ..=>none
 | .Set ..=>none
 | .ListComp ..=>none
 | .SetComp ..=>none
 | .DictComp ..=>none
 | .GeneratorExp ..=>none
 | .Await ..=>none
 | .Yield ..=>none
 | .YieldFrom ..=>none
 | .Compare ..=>none
 | .Call ..=>none
 | .FormattedValue ..=>none
 | .JoinedStr ..=>none
 | .Attribute ..=>none
 | .Subscript ..=>none
 | .Starred ..=>none
 | .Slice ..=>none
def CL (nm:List (Str×Nat)):List Expr->Option (VF (List D)×List Nat)
 | []=>some (av,[])
 |e :: es=>(rD nm e).bind λr=>(CL nm es).map λq=>(ae r.1 q.1,r.2 ++ q.2)
end
section
variable {X:Cx}{Γ:Fx}{E:XK}{nm:List (Str×Nat)}
theorem gH {α β:Type}{o:Option α}{f:α->β}{b:β}(h:o.map f=some b):∃a,o=some a/\f a=b:=by
 cases o with
 |none=>cases h
 |some a=>exact⟨a,rfl,Option.some.inj h⟩
theorem uR {α β:Type}{o:Option α}{f:α->Option β}{b:β}(h:o.bind f=some b):∃a,o=some a/\f a=some b:=by
 cases o with
 |none=>cases h
 |some a=>exact⟨a,rfl,h⟩
mutual
theorem D6 (hc:wj X.N X.env.scope nm=true)(hb:∀i,Γ.br i=false):∀{e:Expr} {f:VF D} {L:List Nat},rD nm e=some (f,L)->SE X Γ E e f L .v/\isStar e=false
 | .Name x p,f,L,h=>by
  rw[rD] at h
  obtain⟨i,q,e⟩:=gH h
  cases e
  obtain⟨h1,h2,h3,h4⟩:=uX hc q
  exact⟨aM i (hb i) h1 h2 h3 h4,rfl⟩
 | .Constant c j p,f,L,h=>by
  rw[rD] at h
  obtain⟨d,q,e⟩:=gH h
  cases e
  cases c <;> first | (cases q;first |exact⟨aC,rfl⟩ |exact⟨mU,rfl⟩ |exact⟨rL,rfl⟩ |exact⟨fM,rfl⟩) |cases q
 | .UnaryOp op a p,f,L,h=>by
  rw[rD] at h
  obtain⟨i,q,e⟩:=gH h
  cases e
  cases op <;> first | (cases q;done) |skip
  obtain⟨j,p,rfl⟩:=j4 q
  exact⟨BE yn Bx aC,rfl⟩
 | .BinOp a op b p,f,L,h=>by
  rw[rD] at h
  split at h
  ·rename_i ho
   obtain rfl:=yV ho
   obtain⟨i,q,h⟩:=uR h
   obtain⟨j,q2,e⟩:=gH h
   cases e
   obtain⟨j1,p1,rfl⟩:=j4 q
   obtain⟨j2,p2,rfl⟩:=j4 q2
   exact⟨ba CF DO aC aC,rfl⟩
  ·cases h
 | .Dict ks vs p,f,L,h=>by
  rw[rD] at h
  obtain⟨r,q,e⟩:=gH h
  cases e
  obtain⟨_,_,_,_,rfl,rfl⟩:=zR q
  exact⟨Av,rfl⟩
 | .Tuple es c p,f,L,h=>by
  rw[rD] at h
  obtain⟨r,q,e⟩:=gH h
  cases e
  exact⟨jk (oF hc hb q),rfl⟩
 | .List es p,f,L,h=>by
  rw[rD] at h
  obtain⟨r,q,e⟩:=gH h
  cases e
  exact⟨SE.wv (df (oF hc hb q)),rfl⟩
 | .BoolOp ..,_,_,h=>by rw[rD] at h;cases h
 | .NamedExpr ..,_,_,h=>by rw[rD] at h;cases h
 | .Lambda ..,_,_,h=>by rw[rD] at h;cases h
 | .IfExp ..,_,_,h=>by rw[rD] at h;cases h
 | .Set ..,_,_,h=>by rw[rD] at h;cases h
 | .ListComp ..,_,_,h=>by rw[rD] at h;cases h
 | .SetComp ..,_,_,h=>by rw[rD] at h;cases h
 | .DictComp ..,_,_,h=>by rw[rD] at h;cases h
 | .GeneratorExp ..,_,_,h=>by rw[rD] at h;cases h
 | .Await ..,_,_,h=>by rw[rD] at h;cases h
 | .Yield ..,_,_,h=>by rw[rD] at h;cases h
 | .YieldFrom ..,_,_,h=>by rw[rD] at h;cases h
 | .Compare ..,_,_,h=>by rw[rD] at h;cases h
 | .Call ..,_,_,h=>by rw[rD] at h;cases h
 | .FormattedValue ..,_,_,h=>by rw[rD] at h;cases h
 | .JoinedStr ..,_,_,h=>by rw[rD] at h;cases h
 | .Attribute ..,_,_,h=>by rw[rD] at h;cases h
 | .Subscript ..,_,_,h=>by rw[rD] at h;cases h
 | .Starred ..,_,_,h=>by rw[rD] at h;cases h
 | .Slice ..,_,_,h=>by rw[rD] at h;cases h
theorem oF (hc:wj X.N X.env.scope nm=true)(hb:∀i,Γ.br i=false):∀{es:List Expr} {f:VF (List D)} {L:List Nat},CL nm es=some (f,L)->SA X Γ E es f L
 | [],f,L,h=>by rw[CL] at h;cases h;exact ay
 |e :: es,f,L,h=>by
  rw[CL] at h
  obtain⟨r,q,h⟩:=uR h
  obtain⟨r2,q2,e⟩:=gH h
  cases e
  obtain⟨a,b⟩:=D6 hc hb q
  exact ak a (oF hc hb q2) (vv b)
end
def Bq {es:List Expr}{f:VF (List D)}{L:List Nat}{pos:Pos}(nm:List (Str×Nat))(hc:wj X.N X.env.scope nm=true)(hb:∀i,Γ.br i=false)(h:CL nm es=some (f,L)):SE X Γ E (.List es pos) (bW f) L .w:=df (oF hc hb h)
end
end L2
namespace L2
open PySem
section
variable {α γ:Type}
@[simp] theorem lH (a:α)(β:Int)(k:α->Int->R γ):(R.ok a β).bnd k=k a β:=rfl
@[simp] theorem E9 (c:Str)(k:α->Int->R γ):(R.exc c:R α).bnd k=.exc c:=rfl
@[simp] theorem Fc (k:α->Int->R γ):(R.bad:R α).bnd k=.bad:=rfl
@[simp] theorem FY (a:α)(β:Int)(k:α->Int->R γ):(R.ok a β).okb k=k a β:=rfl
@[simp] theorem o9 (a:α)(β:Int):R.of (some a) β=.ok a β:=rfl
@[simp] theorem of_none (β:Int):(R.of none β:R α)=.bad:=rfl
@[simp] theorem FH (a:α)(β:Int)(k:α->Int->SO):toS (.ok a β) k=k a β:=rfl
@[simp] theorem Fs (c:Str)(k:α->Int->SO):toS (.exc c:R α) k=.exc c:=rfl
@[simp] theorem Fl (k:α->Int->SO):toS (.bad:R α) k=.bad:=rfl
end
section
variable (f fa fb fc:VF D)(t u:VF Bool)(m m':SF)(vs:List Nv)(β:Int)(env:En)(i j:Nat)(L:List Nat)
@[simp] theorem Bj:gv i vs β=R.of (dat vs[i]?) β:=rfl
@[simp] theorem sF (d:D):dat (some (.da d))=some d:=rfl
@[simp] theorem Gk (d:D):cst d vs β=.ok d β:=rfl
@[simp] theorem GU (g:D->Option D):f1 fa g vs β=(fa vs β).bnd λx β1=>R.of (g x) β1:=rfl
@[simp] theorem GL (g:D->D->Option D):f2 fa fb g vs β=(fa vs β).bnd λx β1=>(fb vs β1).bnd λy β2=>R.of (g x y) β2:=rfl
@[simp] theorem ug:av vs β=.ok [] β:=rfl
@[simp] theorem e8 (fr:VF (List D)):ae fa fr vs β=(fa vs β).bnd λx β1=>(fr vs β1).bnd λxs β2=>.ok (x :: xs) β2:=rfl
@[simp] theorem DE:zp fa vs β=(fa vs β).bnd λx β1=>R.of (CA x) β1:=rfl
@[simp] theorem Dq:BH t vs β=(t vs β).bnd λc β1=>.ok (!c) β1:=rfl
@[simp] theorem Fu:Hl t u vs β=(t vs β).bnd λc β1=>if c=true then u vs β1 else .ok false β1:=rfl
@[simp] theorem ub:kK t u vs β=(t vs β).bnd λc β1=>if c=true then .ok true β1 else u vs β1:=rfl
@[simp] theorem G8 (n:Bool):tN fa n vs β=(fa vs β).bnd λx β1=>.ok (if n then !z5 x else z5 x) β1:=rfl
@[simp] theorem GI:G9 t fa fb vs β=(t vs β).bnd λc β1=>if c=true then fa vs β1 else fb vs β1:=rfl
@[simp] theorem fW (c:Bool){β1:Int}(h:fa vs β=.ok (.bool c) β1):dU fa vs β=.ok c β1:=by unfold dU;rw[h];rfl
@[simp] theorem rj:vl []= []:=rfl
@[simp] theorem nF (s:Sl):vl (s :: env)=s.val :: vl env:=rfl
@[simp] theorem rV (d:D):(Sl.fz d).val=.da d:=rfl
@[simp] theorem Gu (d:D):(Sl.ow d).val=.da d:=rfl
@[simp] theorem GC:Sl.no.val=.no:=rfl
@[simp] theorem Ga:Sl.bx.val=.bx:=rfl
@[simp] theorem Ff:aJ [] env=env:=rfl
@[simp] theorem D0:aJ (i :: L) env=aJ L (eZ env i):=rfl
@[simp] theorem Fm:aF m m' env β=(match m env β with
 | .nx env' β'=>m' env' β'
 |r=>r):=rfl
@[simp] theorem FT:jI L t m m' env β=toS (t (vl env) β) λc β'=>if c=true then m (aJ L env) β' else m' (aJ L env) β':=rfl
@[simp] theorem oI:cQ f env β=toS (f (vl env) β) λd β'=>.rt d false β':=rfl
@[simp] theorem D7:qL f env β=toS (f (vl env) β) λd β'=>.rt d true β':=rfl
@[simp] theorem FO:pj env β=.nx env β:=rfl
@[simp] theorem Fe:bF i L f env β=toS (f (vl env) β) λd β'=>.nx ((aJ L env).set i (.fz d)) β':=rfl
@[simp] theorem D4:kG i L f env β=toS (f (vl env) β) λd β'=>.nx ((aJ L env).set i (.ow d)) β':=rfl
@[simp] theorem E1:EJ L f env β=toS (f (vl env) β) λ_ β'=>.nx (aJ L env) β':=rfl
end
def aR {m m':SF}{env env':En}{β β':Int}(h:m env β=.nx env' β'):aF m m' env β=m' env' β':=by unfold aF;rw[h]
def j9 {m m':SF}{env:En}{β β':Int}{d:D}{b:Bool}(h:m env β=.rt d b β'):aF m m' env β=.rt d b β':=by unfold aF;rw[h]
def kg {L:List Nat}{t:VF Bool}{m m':SF}{env:En}{β β':Int}(h:t (vl env) β=.ok true β'):jI L t m m' env β=m (aJ L env) β':=by unfold jI;rw[h];rfl
def ny {L:List Nat}{t:VF Bool}{m m':SF}{env:En}{β β':Int}(h:t (vl env) β=.ok false β'):jI L t m m' env β=m' (aJ L env) β':=by unfold jI;rw[h];rfl
def aV {F:List D->FR}{fr:VF (List D)}{vs:List Nv}{β β1:Int}{ds:List D}{d:D}{b:Bool}(h:fr vs β=.ok ds β1)(e:F ds=.ok d b):aO F fr vs β=.ok d β1:=by unfold aO;rw[h];dsimp only[R.bnd];rw[e]
def vf {F:List D->FR}{fr:VF (List D)}{vs:List Nv}{β β1:Int}{ds:List D}{c:Str}(h:fr vs β=.ok ds β1)(e:F ds=.exc c):aO F fr vs β=.exc c:=by unfold aO;rw[h];dsimp only[R.bnd];rw[e]
def wR {F:List D->FR}{fr:VF (List D)}{vs:List Nv}{β β1:Int}{ds:List D}{d:D}(h:fr vs β=.ok ds β1)(e:F ds=.ok d true):pX F fr vs β=.ok d β1:=by unfold pX;rw[h];dsimp only[R.bnd];rw[e]
def dS {fa:VF D}{g:D->Option D}{vs:List Nv}{β β1:Int}{x d:D}(h:fa vs β=.ok x β1)(e:g x=some d):f1 fa g vs β=.ok d β1:=by unfold f1;rw[h];dsimp only[R.bnd];rw[e];rfl
def aK {fa fb:VF D}{g:D->D->Option D}{vs:List Nv}{β β1 β2:Int}{x y d:D}(h:fa vs β=.ok x β1)(h':fb vs β1=.ok y β2)(e:g x y=some d):f2 fa fb g vs β=.ok d β2:=by unfold f2;rw[h];dsimp only[R.bnd];rw[h'];dsimp only[R.bnd];rw[e];rfl
def dD {i:Nat}{F:List D->Int->FB}{fr:VF (List D)}{vs:List Nv}{β β1 β2:Int}{ds:List D}{d:D}{b:Bool}(hi:sZ vs i=true)(h:fr vs β=.ok ds β1)(e:F ds β1=.ok d b β2):nh i F fr vs β=.ok d β2:=by unfold nh;rw[Hs hi,h];dsimp only[R.bnd];rw[e]
def sz (n:Nat)(h:n<=1000):n<=sizeLine:=by rw[Ik];omega
def DL (n:Nat)(h:n<=1000):n < sizeLine:=by rw[Ik];omega
def nE {fr:VF (List D)}{vs:List Nv}{β β1:Int}{ds:List D}(h:fr vs β=.ok ds β1)(hz:ds.length<=1000):bV fr vs β=.ok (.tuple ds) β1:=by unfold bV;rw[h];exact Hs (sz _ hz)
def dN {fr:VF (List D)}{vs:List Nv}{β β1:Int}{ds:List D}(h:fr vs β=.ok ds β1)(hz:ds.length<=1000):bW fr vs β=.ok (.list ds) β1:=by unfold bW;rw[h];exact Hs (sz _ hz)
def wQ {i:Nat}{env:En}{β:Int}{g:List D->Option (List D)}{ds es:List D}(h:env[i]? =some (.ow (.list ds)))(e:g ds=some es):DJ i env β g=.nx (env.set i (.ow (.list es))) β:=by unfold DJ;rw[h];dsimp only;rw[e]
def AK {i:Nat}{L:List Nat}{f:VF D}{env:En}{β β':Int}{ds:List D}{d:D}(hi:env[i]? =some (.ow (.list ds)))(hf:f (vl env) β=.ok d β')(hL:(aJ L env)[i]? =some (.ow (.list ds)))(hz:ds.length<=1000):rM i L f env β=.nx ((aJ L env).set i (.ow (.list (ds ++ [d])))) β':=by
 unfold rM
 rw[Hs (by rw[hi];rfl),hf]
 exact wQ hL (Hs (DL _ hz))
def sO {i j:Nat}{L:List Nat}{f:VF D}{env:En}{β β':Int}{ds es es':List D}{k d:D}(hi:env[i]? =some (.ow (.list ds)))(hj:env[j]? =some (.ow (.list es)))(hij:i≠j)(hf:f (vl env) β=.ok k β')(hL:aJ L env=env)(hp:vM es k=some (d,es'))(hz:ds.length<=1000):fX i j L f env β=.nx ((env.set j (.ow (.list es'))).set i (.ow (.list (ds ++ [d])))) β':=by
 unfold fX
 rw[Hs ⟨by rw[hi];rfl,by rw[hj];rfl,hij⟩,hf,hL]
 dsimp only[toS]
 rw[hj]
 dsimp only
 rw[hp]
 exact wQ (by rw[HL (Ne.symm hij)];exact hi) (Hs (DL _ hz))
theorem lN {t:Tg}{ft:VF Bool}{fe:VF D}{vs:List Nv}(g:D->Bool)(h:D->D):∀{ds:List D} {β:Int},(∀d,d∈ds->∃vs1,jE t d vs=some vs1/\ft vs1 β=.ok (g d) β/\(g d=true->fe vs1 β=.ok (h d) β))->dE t ft fe vs ds β=.ok ((ds.filter g).map h) β
 | [],β,_=>rfl
 |d :: ds,β,hh=>by
  obtain⟨vs1,e1,e2,e3⟩:=hh d (HC ..)
  have ih:=lN (t:=t) (ft:=ft) (fe:=fe) (vs:=vs) g h (ds:=ds) (β:=β) λd' hd=>hh d' (Hz _ hd)
  unfold dE
  rw[e1]
  dsimp only
  rw[e2]
  dsimp only[R.okb]
  cases q:g d with
  |true=>
   rw[Hs rfl,e3 q]
   dsimp only
   rw[ih,List.filter_cons_of_pos q];rfl
  |false=>
   rw[Ht HU,ih,List.filter_cons_of_neg (by rw[q];exact HU)]
def rG {own:Nat}{ixs:List Nat}{t:Tg}{fi:VF (List D)}{ft:VF Bool}{fe:VF D}{vs:List Nv}{β β1:Int}{ds:List D}(g:D->Bool)(h:D->D)(hi:fi vs β=.ok ds β1)(hz:ds.length<=1000)
  (hh:∀d,d∈ds->∃vs1,jE t d (dg own ixs vs)=some vs1/\ft vs1 β1=.ok (g d) β1/\(g d=true->fe vs1 β1=.ok (h d) β1)):bC own ixs t fi ft fe vs β=.ok (.list ((ds.filter g).map h)) β1:=by
 unfold bC
 rw[hi]
 dsimp only[R.bnd]
 rw[Hs (sz _ hz),lN g h hh];rfl
def vD {own:Nat}{ixs:List Nat}{t:Tg}{fi:VF (List D)}{fe:VF D}{vs:List Nv}{β β1:Int}{ds:List D}(h:D->D)(hi:fi vs β=.ok ds β1)(hz:ds.length<=1000)
  (hh:∀d,d∈ds->∃vs1,jE t d (dg own ixs vs)=some vs1/\fe vs1 β1=.ok (h d) β1):bC own ixs t fi zl fe vs β=.ok (.list (ds.map h)) β1:=by
 rw[rG (ft:=zl) (λ_=>true) h hi hz λd hd=>let ⟨vs1,e1,e2⟩:=hh d hd;⟨vs1,e1,rfl,λ_=>e2⟩]
 rw[List.filter_eq_self.mpr (λ_ _=>rfl)]
def sU {α:Type}{own:Nat}{ixs:List Nat}{t:Tg}{fi:VF (List D)}{fe:VF D}{vs:List Nv}{β β1:Int}{l:List α}{e:α->D}(h:α->D)(hi:fi vs β=.ok (l.map e) β1)(hz:l.length<=1000)
  (hh:∀x,x∈l->∃vs1,jE t (e x) (dg own ixs vs)=some vs1/\fe vs1 β1=.ok (h x) β1):bC own ixs t fi zl fe vs β=.ok (.list (l.map h)) β1:=by
 unfold bC
 rw[hi]
 dsimp only[R.bnd]
 rw[Hs (sz _ (by rw[HS];exact hz))]
 have key:∀m:List α,(∀x,x∈m->x∈l)->dE t zl fe (dg own ixs vs) (m.map e) β1=.ok (m.map h) β1:=by
  intro m
  induction m with
  |nil=>intro _;rfl
  |cons x m ih=>
   intro hm
   obtain⟨vs1,e1,e2⟩:=hh x (hm x (HC ..))
   rw[IQ]
   unfold dE
   rw[e1]
   dsimp only
   show (R.ok true β1).okb _=_
   dsimp only[R.okb]
   rw[Hs rfl,e2]
   dsimp only
   rw[ih λy hy=>hm y (Hz _ hy)];rfl
 rw[key l λ_ h=>h];rfl
def ku {α:Type}{own:Nat}{ixs:List Nat}{t:Tg}{fi:VF (List D)}{ft:VF Bool}{fe:VF D}{vs:List Nv}{β β1:Int}{l:List α}{e:α->D}(g:α->Bool)(h:α->D)(hi:fi vs β=.ok (l.map e) β1)(hz:l.length<=1000)
  (hh:∀x,x∈l->∃vs1,jE t (e x) (dg own ixs vs)=some vs1/\ft vs1 β1=.ok (g x) β1/\(g x=true->fe vs1 β1=.ok (h x) β1)):bC own ixs t fi ft fe vs β=.ok (.list ((l.filter g).map h)) β1:=by
 unfold bC
 rw[hi]
 dsimp only[R.bnd]
 rw[Hs (sz _ (by rw[HS];exact hz))]
 have key:∀m:List α,(∀x,x∈m->x∈l)->dE t ft fe (dg own ixs vs) (m.map e) β1=.ok ((m.filter g).map h) β1:=by
  intro m
  induction m with
  |nil=>intro _;rfl
  |cons x m ih=>
   intro hm
   obtain⟨vs1,e1,e2,e3⟩:=hh x (hm x (HC ..))
   have ih:=ih λy hy=>hm y (Hz _ hy)
   rw[IQ]
   unfold dE
   rw[e1]
   dsimp only
   rw[e2]
   dsimp only[R.okb]
   cases q:g x with
   |true=>
    rw[Hs rfl,e3 q]
    dsimp only
    rw[ih,List.filter_cons_of_pos q];rfl
   |false=>
    rw[Ht HU,ih,List.filter_cons_of_neg (by rw[q];exact HU)]
 rw[key l λ_ h=>h];rfl
theorem jf {t:Tg}{m:SF}(Pv:Nat->En->Int->Prop):∀{ds:List D} {k:Nat} {env:En} {β:Int},Pv k env β->
  (∀i d env β,ds[i]? =some d->Pv (k + i) env β->∃env1,dF t d env=some env1/\∃env2 β2,m env1 β=.nx env2 β2/\Pv (k + i + 1) env2 β2)->∃env' β',oQ t m ds env β=.nx env' β'/\Pv (k + ds.length) env' β'
 | [],k,env,β,h0,_=>⟨env,β,rfl,h0⟩
 |d :: ds,k,env,β,h0,hs=>by
  obtain⟨env1,e1,env2,β2,e2,h1⟩:=hs 0 d env β rfl h0
  obtain⟨env',β',e3,h2⟩:=jf Pv (t:=t) (m:=m) (ds:=ds) (k:=k + 1) h1 λi d' en be hi hp=>by
   have:=hs (i + 1) d' en be (by simpa using hi) (by rw[show k + (i + 1)=k + 1 + i by omega];exact hp)
   rw[show k + (i + 1) + 1=k + 1 + i + 1 by omega] at this
   exact this
  refine⟨env',β',?_,by rw[HQ,show k + (ds.length + 1)=k + 1 + ds.length by omega];exact h2⟩
  unfold oQ
  rw[e1]
  dsimp only
  rw[e2]
  exact e3
theorem iu {L:List Nat}{t:VF Bool}{m:SF}(Pv:Nat->En->Int->Prop)(Dn:En->Int->Prop):∀{n k:Nat} {env:En} {β:Int},k < n->Pv k env β->
  (∀k env β,Pv k env β->∃c β1,t (vl env) β=.ok c β1/\((c=false/\Dn (aJ L env) β1)\/(c=true/\∃env2 β2 k',m (aJ L env) β1=.nx env2 β2/\k' < k/\Pv k' env2 β2)))->∃env' β',fZ L t m n env β=.nx env' β'/\Dn env' β'
 | 0,k,env,β,hk,_,_=>by omega
 |n + 1,k,env,β,hk,h0,hs=>by
  obtain⟨c,β1,e1,hc⟩:=hs k env β h0
  unfold fZ
  rw[e1]
  dsimp only[toS]
  rcases hc with⟨rfl,hd⟩ | ⟨rfl,env2,β2,k',e2,hl,h1⟩
  ·exact⟨_,_,rfl,hd⟩
  ·rw[Hs rfl,e2]
   exact iu Pv Dn (n:=n) (k:=k') (by omega) h1 hs
end L2
namespace RM
open PySem L2
def kL:SF:=(cQ (jA (f1 (gv 0) (gu "int")) (f1 (f1 (gv 0) (gu "bool")) Ct)))
def lq (aW:List D->FR):SF:=(cQ (jA (aO aW (ae (gv 0) av)) (fO (cst (.int 0)) (gv 0) (gv 1) zj CM)))
def mH (aW:List D->FR):SF:=(cQ (jA (aO aW (ae (gv 0) av)) (fO (cst (.int 1)) (gv 0) (cst (.int 8)) zj zj)))
def g9 (cc:List D->FR):SF:=(aF (jI ([] ++ ([] ++ [])) (kK (BH (zp (f1 (gv 0) (gu "tuple")))) (dU (f2 (f1 (gv 0) eN) (cst (.int 2)) (dO true))))
 (cQ (cst (.bool false)))
 pj)
 (cQ (jA (aO cc (ae (f2 (gv 0) (cst (.int 0)) nc) (ae (gv 1) av))) (aO cc (ae (f2 (gv 0) (cst (.int 1)) nc) (ae (gv 1) av))))))
def o6:SF:=(qL (bC 1 [0] (.nm 0) (jO (f2 (gv 0) (gv 0) cV)) zl (bV (ae (f2 (gv 0) (gv 1) yo) (ae (f2 (gv 0) (gv 1) iU) av)))))
def kz:SF:=(cQ (f1 (bC 2 [] (.two 0 1) (dJ (gv 0)) zl (f2 (gv 0) (gv 1) (dO false))) (fw λbs=>bs.any id)))
def cU:SF:=(aF (jI ([] ++ []) (dU (f2 (gv 1) (f1 (gv 0) eN) CM))
 (cQ (f2 (gv 0) (gv 1) nc))
 pj)
 (cQ (cst (.int 0))))
def fq:SF:=(aF (bF 2 [] (bW (GR [48271,69621,16807,39373,30269,40014,40692,50021,61687,71993,83869,95561,30307]))) (aF (bF 3 ((((([] ++ []) ++ []) ++ ([] ++ ([] ++ []))) ++ ([] ++ [])) ++ ([] ++ ([] ++ []))) (f2 (f2 (f2 (f2 (f2 (gv 0) (cst (.int 2147483647)) iU) (cst (.int 12345)) dh) (f2 (gv 2) (f2 (gv 1) (cst (.int 13)) iU) nc) cV) (f2 (cst (.int 977)) (gv 1) cV) dh) (f2 (cst (.int 7919)) (f2 (gv 1) (cst (.int 13)) yo) cV) dh))
 (aF (bF 3 ([] ++ []) (f2 (gv 3) (cst (.int 1000000007)) iU))
 (cQ (f2 (f2 (f2 (f2 (gv 3) (gv 3) cV) (f2 (cst (.int 48271)) (gv 1) cV) dh) (cst (.int 1000000007)) iU) (cst (.int 7)) yo)))))
def fu (cm cI:List D->FR):SF:=(aF (bF 2 ([0] ++ ([1] ++ [])) (aO cm (ae (gv 0) (ae (gv 1) av))))
 (aF (jI (([] ++ []) ++ []) (dU (f2 (f2 (gv 2) (cst (.int 2)) iU) (cst (.int 0)) (dO false)))
 (qL (bW (ae (f2 (f1 (gv 2) zK) (cst (.int 2)) yo) av)))
 pj)
 (aF (bF 3 [] (cst (.int 0)))
 (aF (gA (.nm 4) [] (jO (cst (.int 40)))
 (bF 3 (([] ++ []) ++ ([2] ++ ([4] ++ []))) (f2 (f2 (gv 3) (cst (.int 142857143)) cV) (aO cI (ae (gv 2) (ae (gv 4) av))) dh)))
 (qL (bW (ae (gv 3) av)))))))
def b7 (aw:List D->Int->FB):SF:=(aF (kG 2 [] (f1 (gv 1) wL))
 (aF (kG 3 [] (bW av))
 (aF (fZ ([] ++ []) (dU (f2 (gv 2) (bW av) (dO true)))
 (fX 3 2 ([] ++ []) (nh 0 aw (ae (f1 (gv 2) eN) av))) 1000)
 (uf 3))))
def bL (dr dq eV cF:List D->FR):SF:=(aF (jI ([0] ++ []) (BH (zp (aO dr (ae (gv 0) av))))
 (λenv β=>toS ((ae (cst (.str "this is no number of things")) av) (vl env) β) λds _=>if ds.length<=sizeLine then .exc "NoMany" else .bad)
 pj)
 (aF (jI ([] ++ ([] ++ [0])) (kK (BH (zp (f1 (gv 1) (gu "list")))) (BH (zp (f1 (bC 1 [0] (.nm 0) (dJ (gv 1)) zl (aO dq (ae (gv 0) (ae (gv 1) av)))) (fw λbs=>bs.all id)))))
 (λenv β=>toS ((ae (cst (.str "this is no list of pairs of things")) av) (vl env) β) λds _=>if ds.length<=sizeLine then .exc "NoPairs" else .bad)
 pj)
 (aF (bF 2 ([0] ++ ([1] ++ [])) (aO eV (ae (gv 0) (ae (gv 1) av))))
 (aF (jI ([2] ++ []) (zp (aO cF (ae (gv 2) av)))
 (λenv β=>toS ((ae (cst (.str "these pairs lead from a thing to itself")) av) (vl env) β) λds _=>if ds.length<=sizeLine then .exc "Ring" else .bad)
 pj)
 (cQ (bV (ae (gv 0) (ae (gv 2) av))))))))
def Ec:D->Bool
 | .int _=>true
 |_=>false
def gV:List D->FR
 | [d]=>if bK d=true then .bad else .ok (.bool (Ec d)) false
 |_=>.bad
def oi {d:D}(h:bK d=false):gV [d]=.ok (.bool (Ec d)) false:=Ht (by rw[h];exact HU)
def A6 (ds:List D)(h:gV ds≠.bad):cq 1 1 kL ds=gV ds:=by
 unfold gV at h
 split at h
 ·rename_i d
  cases q:bK d with
  |true=>rw[q] at h;exact absurd rfl h
  |false=>
   rw[oi q]
   have e1:gu "int" d=some (.bool (xt d "int")):=by unfold gu;rw[q];rfl
   have e2:gu "bool" d=some (.bool (xt d "bool")):=by unfold gu;rw[q];rfl
   show fin (cQ (jA (f1 (gv 0) (gu "int")) (f1 (f1 (gv 0) (gu "bool")) Ct)) [.fz d] 0)=_
   unfold cQ jA f1 gv
   simp only[nF,rj,rV,List.getElem?_cons_zero,sF,o9,lH,e1,e2]
   cases d <;> rfl
 ·exact absurd rfl h
def cu (d:D)(n:Int):Bool:=match d with
 | .int i=>decide (0<=i/\i < n)
 |_=>false
def gN:List D->FR
 | [d,.int n]=>if bK d=true then .bad else .ok (.bool (cu d n)) false
 |_=>.bad
def nW {d:D}{n:Int}(h:bK d=false):gN [d,.int n]=.ok (.bool (cu d n)) false:=Ht (by rw[h];exact HU)
def qm {i lo n:Int}{vs:List Nv}{β:Int}{fa fb fc:VF D}{g':D->D->Option D}{q:Bool}(ha:fa vs β=.ok (.int lo) β)(hb:fb vs β=.ok (.int i) β)(hc:fc vs β=.ok (.int n) β)(hq:g' (.int i) (.int n)=some (.bool q)):fO fa fb fc zj g' vs β=.ok (.bool (decide (lo<=i) && q)) β:=by
 unfold fO
 rw[ha];dsimp only[R.bnd];rw[hb];dsimp only[R.bnd]
 show (match (some (PyData.bool (decide (lo<=i))):Option D) with
  |some (.bool true)=>_
  |some (.bool false)=>_
  |_=>_)=_
 by_cases h:lo<=i
 ·rw[HB h]
  dsimp only
  rw[hc]
  dsimp only[R.bnd]
  rw[hq];rfl
 ·rw[HN h];rfl
def AQ (ds:List D)(h:gN ds≠.bad):cq 2 2 (lq gV) ds=gN ds:=by
 unfold gN at h
 split at h
 ·rename_i d n
  cases q:bK d with
  |true=>rw[q] at h;exact absurd rfl h
  |false=>
   rw[nW q]
   show fin (cQ (jA (aO gV (ae (gv 0) av)) (fO (cst (.int 0)) (gv 0) (gv 1) zj CM)) [.fz d,.fz (.int n)] 0)=_
   unfold cQ jA aO
   simp only[nF,rj,rV,e8,ug,Bj,List.getElem?_cons_zero,sF,o9,lH,oi q]
   cases d with
   |int i=>
    show fin (toS (fO (cst (.int 0)) (gv 0) (gv 1) zj CM [.da (.int i),.da (.int n)] 0) _)=_
    rw[qm (lo:=0) (i:=i) (n:=n) rfl rfl rfl rfl]
    show FR.ok (.bool (decide (0<=i) && decide (i < n))) false=.ok (.bool (decide (0<=i/\i < n))) false
    rw[Bool.decide_and]
   |_=>rfl
 ·exact absurd rfl h
def uO (d:D):Bool:=match d with
 | .int i=>decide (1<=i/\i<=8)
 |_=>false
def gk:List D->FR
 | [d]=>if bK d=true then .bad else .ok (.bool (uO d)) false
 |_=>.bad
def su {d:D}(h:bK d=false):gk [d]=.ok (.bool (uO d)) false:=Ht (by rw[h];exact HU)
def Cs (ds:List D)(h:gk ds≠.bad):cq 1 1 (mH gV) ds=gk ds:=by
 unfold gk at h
 split at h
 ·rename_i d
  cases q:bK d with
  |true=>rw[q] at h;exact absurd rfl h
  |false=>
   rw[su q]
   show fin (cQ (jA (aO gV (ae (gv 0) av)) (fO (cst (.int 1)) (gv 0) (cst (.int 8)) zj zj)) [.fz d] 0)=_
   unfold cQ jA aO
   simp only[nF,rj,rV,e8,ug,Bj,List.getElem?_cons_zero,sF,o9,lH,oi q]
   cases d with
   |int i=>
    show fin (toS (fO (cst (.int 1)) (gv 0) (cst (.int 8)) zj zj [.da (.int i)] 0) _)=_
    rw[qm (lo:=1) (i:=i) (n:=8) rfl rfl rfl rfl]
    show FR.ok (.bool (decide (1<=i) && decide (i<=8))) false=.ok (.bool (decide (1<=i/\i<=8))) false
    rw[Bool.decide_and]
   |_=>rfl
 ·exact absurd rfl h
def sJ (n:Nat)(l:List Pr):D:=.tuple [.int n,.tuple (l.map aE)]
noncomputable def b8:List D->FR
 | [.int n,d]=>(match jT d with
  |some ds=>(match cG ds with
   |some ps=>(open Classical in if 1<=n/\n<=8/\OM.Wn n.toNat ps then .ok (.tuple ((OM.bt n.toNat (OM.Tr (OM.Mem ps))).map aE)) false else .bad)
   |none=>.bad)
  |none=>.bad)
 |_=>.bad
def gi:List D->FR
 | [.tuple ds]=>(match cG ds with
  |some ps=>if ps.length<=1000 then .ok (.bool (ps.any λp=>decide (p.1=p.2))) false else .bad
  |none=>.bad)
 |_=>.bad
theorem jy {α:Type}(f:α->Bool):∀l:List α,gL (l.map λx=>PyData.bool (f x))=some (l.map f)
 | []=>rfl
 |x :: l=>by
  show (gL (l.map λx=>PyData.bool (f x))).map (f x :: ·)=_
  rw[jy f l];rfl
def BN (ds:List D)(h:gi ds≠.bad):cq 1 1 kz ds=gi ds:=by
 unfold gi at h
 split at h
 ·rename_i ds
  cases q:cG ds with
  |none=>rw[q] at h;exact absurd rfl h
  |some ps=>
   rw[q] at h
   dsimp only at h
   by_cases hz:ps.length<=1000
   case neg=>rw[Ht hz] at h;exact absurd rfl h
   obtain rfl:=hJ q
   have e:gi [.tuple (ps.map aE)]=.ok (.bool (ps.any λp=>decide (p.1=p.2))) false:=by
    unfold gi;simp only[dA];rw[Hs hz]
   rw[e]
   have ec:bC 2 [] (.two 0 1) (dJ (gv 0)) zl (f2 (gv 0) (gv 1) (dO false)) [.da (.tuple (ps.map aE))] 0=.ok (.list (ps.map λp=>PyData.bool (decide (p.1=p.2)))) 0:=by
    exact sU (l:=ps) (e:=aE) (λp=>PyData.bool (decide (p.1=p.2))) rfl hz λp hp=>⟨_,rfl,rfl⟩
   show fin (toS ((bC 2 [] (.two 0 1) (dJ (gv 0)) zl (f2 (gv 0) (gv 1) (dO false)) [.da (.tuple (ps.map aE))] 0).bnd λx β1=>R.of (fw (λbs=>bs.any id) x) β1) λd β'=>.rt d false β')=_
   rw[ec]
   simp only[lH,fw]
   rw[jy]
   simp[fin,List.any_map]
 ·exact absurd rfl h
theorem tR:∀l:List Pr,PyData.canLayAll0 (l.map aE)=true
 | []=>rfl
 |p :: l=>by
  show ((aE p).canLay0 && PyData.canLayAll0 (l.map aE))=true
  rw[tR l];rfl
theorem u0:∀l:List Pr,PyData.depthAll (l.map aE)<=1
 | []=>by show (0:Nat)<=1;omega
 |p :: l=>by
  show max (aE p).depth (PyData.depthAll (l.map aE))<=1
  have h1:(aE p).depth=1:=by simp[aE,PyData.depth,PyData.depthAll]
  have h2:=u0 l
  omega
def lT (l:List Pr):SeqAt.shaped (.list (l.map aE))=true:=by
 unfold SeqAt.shaped
 have h1:(PyData.list (l.map aE)).canLay0=true:=by simp only[PyData.canLay0];exact tR l
 have h2:(PyData.list (l.map aE)).depth<=64:=by simp only[PyData.depth];have:=u0 l;omega
 rw[h1,HB h2];rfl
def Cp (p q:Pr):PyData.eqv (aE p) (aE q)=decide (p=q):=by
 obtain⟨a,b⟩:=p
 obtain⟨c,d⟩:=q
 simp only[aE,PyData.eqv,PyData.eqvAll,Bool.and_true]
 rw[Jf]
 simp
theorem tP:∀l m:List Pr,PyData.eqvAll (l.map aE) (m.map aE)=decide (l=m)
 | [],[]=>rfl
 | [],_ :: _=>rfl
 |_ :: _,[]=>rfl
 |p :: l,q :: m=>by
  show (PyData.eqv (aE p) (aE q) && PyData.eqvAll (l.map aE) (m.map aE))=_
  rw[Cp,tP l m,Jf]
  simp
def xD {n:Nat}(h1:1<=n)(h8:n<=8):gk [.int n]=.ok (.bool true) false:=by
 rw[su rfl]
 show FR.ok (.bool (decide (1<=(n:Int)/\(n:Int)<=8))) false=_
 rw[HB (by omega)]
def yH (neg:Bool)(l m:List Pr):dO neg (.list (l.map aE)) (.list (m.map aE))=some (.bool (if neg then !decide (l=m) else decide (l=m))):=by
 unfold dO
 rw[lT,lT]
 simp only[Bool.and_self,IX,PyData.eqv,tP]
abbrev bz (ns:List Int):D:=.dict [(.none,.list (ns.map int))]
def lE {i j:Int}(h: -(2 ^ 64) < i/\i < 2 ^ 64):cV (.int i) (.int j)=some (.int (i * j)):=Hs (by dsimp only;rw[HB h.1,HB h.2];rfl)
def B4 {i j:Int}(h: -(2 ^ 64) < j/\j < 2 ^ 64):cV (.int i) (.int j)=some (.int (i * j)):=Hs (by dsimp only;rw[HB h.1,HB h.2,Bool.and_self,Bool.or_true])
def kT {i j:Int}(h:0 < j):iU (.int i) (.int j)=some (.int (i % j)):=Hs (HB h)
def wM {i j:Int}(h:0 < j)(h2:j < 1073741824):yo (.int i) (.int j)=some (.int (i / j)):=Hs (by dsimp only;rw[HB h,HB h2];rfl)
theorem uV {α β:Type}(f:α->β)(l:List α)(i:Int):ji (l.map f) i=(ji l i).map f:=by
 unfold ji
 rw[HS]
 cases wA l.length i with
 |none=>rfl
 |some j=>simp
def x6 {α:Type}{l:List α}{k:Nat}(h:k < l.length):ji l (k:Int)=some l[k]:=oX (Hq h)
def Dd {fa fb:VF D}{vs:List Nv}{β β1 β2:Int}{i j:Int}(h:fa vs β=.ok (.int i) β1)(h':fb vs β1=.ok (.int j) β2):dU (f2 fa fb CM) vs β=.ok (decide (i < j)) β2:=fW _ _ _ _ (aK h h' rfl)
def gc {neg:Bool}{fa fb:VF D}{vs:List Nv}{β β1 β2:Int}{i j:Int}(h:fa vs β=.ok (.int i) β1)(h':fb vs β1=.ok (.int j) β2):dU (f2 fa fb (dO neg)) vs β=.ok (if neg then !decide (i=j) else decide (i=j)) β2:=by
 refine fW _ _ _ _ (aK h h' ?_)
 cases neg <;> rfl
def CZ (ns:List Int)(k:Nat):∃z,cq 2 2 cU [bz ns,.int k]=.ok (.int z) false:=by
 show ∃z,fin (cU [.fz (bz ns),.fz (.int k)] 0)=.ok (.int z) false
 unfold cU
 have e:dU (f2 (gv 1) (f1 (gv 0) eN) CM) [.da (bz ns),.da (.int k)] 0=.ok (decide ((k:Int) < (ns.map int).length)) 0:=Dd rfl rfl
 by_cases h:k < ns.length
 ·refine⟨ns[k],?_⟩
  rw[HB (by simp;exact h)] at e
  rw[j9 (d:=.int ns[k]) (b:=false) (β':=0)]
  ·rfl
  ·rw[kg e]
   show toS (f2 (gv 0) (gv 1) nc [.da (bz ns),.da (.int k)] 0) _=_
   rw[aK (x:=bz ns) (y:=.int k) (d:=.int ns[k]) (β1:=0) (β2:=0) rfl rfl]
   ·rfl
   ·show ji (ns.map int) (k:Int)=_
    rw[uV,x6 h];rfl
 ·refine⟨0,?_⟩
  rw[HN (by simp;omega)] at e
  rw[aR (env':=[.fz (bz ns),.fz (.int k)]) (β':=0)]
  ·rfl
  ·rw[ny e];rfl
noncomputable def uj:List D->FR:=cq 2 2 cU
noncomputable def yU:List D->FR:=cq 4 2 fq
abbrev tq:List Int:=[48271,69621,16807,39373,30269,40014,40692,50021,61687,71993,83869,95561,30307]
def Es (c k:Int):∃z,yU [.int c,.int k]=.ok (.int z) false:=by
 show ∃z,fin (fq [.fz (.int c),.fz (.int k),.no,.no] 0)=.ok (.int z) false
 unfold fq
 rw[aR (env':=[.fz (.int c),.fz (.int k),.fz (.list (tq.map int)),.no]) (β':=0) (by rfl)]
 obtain⟨j,hj⟩:∃j:Nat,k % 13=j:=⟨(k % 13).toNat,by omega⟩
 have hj13:j < tq.length:=by show j < 13;omega
 have e1:f2 (f2 (f2 (f2 (f2 (gv 0) (cst (.int 2147483647)) iU) (cst (.int 12345)) dh) (f2 (gv 2) (f2 (gv 1) (cst (.int 13)) iU) nc) cV) (f2 (cst (.int 977)) (gv 1) cV) dh) (f2 (cst (.int 7919)) (f2 (gv 1) (cst (.int 13)) yo) cV) dh [.da (.int c),.da (.int k),.da (.list (tq.map int)),.no] 0
   =.ok (.int ((c % 2147483647 + 12345) * tq[j] + 977 * k + 7919 * (k / 13))) 0:=by
  refine aK (aK (aK (aK (aK (x:=.int c) (y:=.int 2147483647) rfl rfl (kT (by omega))) rfl rfl) (aK (x:=.list (tq.map int)) rfl (aK (x:=.int k) (y:=.int 13) rfl rfl (kT (by omega))) (d:=.int tq[j]) ?_) (lE ⟨by omega,by omega⟩)) (aK (x:=.int 977) (y:=.int k) rfl rfl (lE ⟨by omega,by omega⟩)) rfl) (aK (x:=.int 7919) rfl (aK (x:=.int k) (y:=.int 13) rfl rfl (wM (by omega) (by omega))) (lE ⟨by omega,by omega⟩)) rfl
  show ji (tq.map int) (k % 13)=_
  rw[hj,uV,x6 hj13];rfl
 generalize ((c % 2147483647 + 12345) * tq[j] + 977 * k + 7919 * (k / 13))=st at e1
 rw[aR (env':=[.fz (.int c),.fz (.int k),.fz (.list (tq.map int)),.fz (.int st)]) (β':=0) ?h]
 case h=>
  show toS (f2 _ _ dh [.da (.int c),.da (.int k),.da (.list (tq.map int)),.no] 0) _=_
  rw[e1];rfl
 have e2:f2 (gv 3) (cst (.int 1000000007)) iU [.da (.int c),.da (.int k),.da (.list (tq.map int)),.da (.int st)] 0=.ok (.int (st % 1000000007)) 0:=aK rfl rfl (kT (by omega))
 rw[aR (env':=[.fz (.int c),.fz (.int k),.fz (.list (tq.map int)),.fz (.int (st % 1000000007))]) (β':=0) ?h2]
 case h2=>
  show toS (f2 (gv 3) (cst (.int 1000000007)) iU [.da (.int c),.da (.int k),.da (.list (tq.map int)),.da (.int st)] 0) _=_
  rw[e2];rfl
 have hb: -(2 ^ 64) < st % 1000000007/\st % 1000000007 < 2 ^ 64:=⟨by omega,by omega⟩
 generalize st % 1000000007=u at hb
 have e3:f2 (f2 (f2 (f2 (gv 3) (gv 3) cV) (f2 (cst (.int 48271)) (gv 1) cV) dh) (cst (.int 1000000007)) iU) (cst (.int 7)) yo [.da (.int c),.da (.int k),.da (.list (tq.map int)),.da (.int u)] 0=.ok (.int ((u * u + 48271 * k) % 1000000007 / 7)) 0:=
  aK (aK (aK (aK (x:=.int u) (y:=.int u) rfl rfl (lE hb)) (aK (x:=.int 48271) (y:=.int k) rfl rfl (lE ⟨by omega,by omega⟩)) rfl) rfl (kT (by omega))) rfl (wM (by omega) (by omega))
 refine⟨(u * u + 48271 * k) % 1000000007 / 7,?_⟩
 show fin (toS (f2 _ (cst (.int 7)) yo [.da (.int c),.da (.int k),.da (.list (tq.map int)),.da (.int u)] 0) _)=_
 rw[e3];rfl
noncomputable def Cr:List D->FR:=cq 5 2 (fu uj yU)
def EB (ns:List Int)(k:Nat):∃z,Cr [bz ns,.int k]=.ok (.list [.int z]) true:=by
 obtain⟨c,hc⟩:=CZ ns k
 show ∃z,fin (fu uj yU [.fz (bz ns),.fz (.int k),.no,.no,.no] 0)=.ok (.list [.int z]) true
 unfold fu
 have e0:aO uj (ae (gv 0) (ae (gv 1) av)) [.da (bz ns),.da (.int k),.no,.no,.no] 0=.ok (.int c) 0:=aV rfl hc
 rw[aR (env':=[.fz (bz ns),.fz (.int k),.fz (.int c),.no,.no]) (β':=0) ?h]
 case h=>
  show toS (aO uj _ [.da (bz ns),.da (.int k),.no,.no,.no] 0) _=_
  rw[e0];rfl
 have e1:dU (f2 (f2 (gv 2) (cst (.int 2)) iU) (cst (.int 0)) (dO false)) [.da (bz ns),.da (.int k),.da (.int c),.no,.no] 0=.ok (decide (c % 2=0)) 0:=gc (neg:=false) (aK rfl rfl (kT (by omega))) rfl
 by_cases h:c % 2=0
 ·rw[HB h] at e1
  refine⟨(if c < 0 then -c else c) / 2,?_⟩
  rw[j9 (d:=.list [.int ((if c < 0 then -c else c) / 2)]) (b:=true) (β':=0)]
  ·rfl
  ·rw[kg e1]
   show toS (bW (ae (f2 (f1 (gv 2) zK) (cst (.int 2)) yo) av) [.da (bz ns),.da (.int k),.da (.int c),.no,.no] 0) _=_
   rw[dN (ds:=[.int ((if c < 0 then -c else c) / 2)]) (β1:=0)]
   ·rfl
   ·have e2:f2 (f1 (gv 2) zK) (cst (.int 2)) yo [.da (bz ns),.da (.int k),.da (.int c),.no,.no] 0=.ok (.int ((if c < 0 then -c else c) / 2)) 0:=aK (dS (x:=.int c) rfl rfl) rfl (wM (by omega) (by omega))
    rw[e8,e2];rfl
   ·simp
 ·rw[HN h] at e1
  rw[aR (env':=[.fz (bz ns),.fz (.int k),.fz (.int c),.no,.no]) (β':=0) (by rw[ny e1];rfl)]
  rw[aR (env':=[.fz (bz ns),.fz (.int k),.fz (.int c),.fz (.int 0),.no]) (β':=0) (by rfl)]
  obtain⟨env',β',el,z,x,rfl,rfl⟩:=jf (t:=.nm 4) (m:=bF 3 (([] ++ []) ++ ([2] ++ ([4] ++ []))) (f2 (f2 (gv 3) (cst (.int 142857143)) cV) (aO yU (ae (gv 2) (ae (gv 4) av))) dh)) (ds:=dv 0 40) (k:=0)
   (λ_ env β=>∃(z:Int) (x:Sl),env= [.fz (bz ns),.fz (.int k),.fz (.int c),.fz (.int z),x]/\β=0) (env:=[.fz (bz ns),.fz (.int k),.fz (.int c),.fz (.int 0),.no]) (β:=0) ⟨0,.no,rfl,rfl⟩ (by
    rintro i d env β hi ⟨z,x,rfl,rfl⟩
    obtain⟨j,rfl⟩:∃j:Int,d=.int j:=by
     unfold dv at hi
     rw[HH] at hi
     cases q:(List.range 40)[i]? with
     |none=>rw[q] at hi;cases hi
     |some j=>rw[q] at hi;cases hi;exact⟨_,rfl⟩
    obtain⟨y,hy⟩:=Es c j
    refine⟨_,rfl,_,_,?_,z * 142857143 + y,.fz (.int j),rfl,rfl⟩
    show toS (f2 (f2 (gv 3) (cst (.int 142857143)) cV) (aO yU (ae (gv 2) (ae (gv 4) av))) dh [.da (bz ns),.da (.int k),.da (.int c),.da (.int z),.da (.int j)] 0) _=_
    rw[aK (d:=.int (z * 142857143 + y)) (aK (x:=.int z) (y:=.int 142857143) (β1:=0) (β2:=0) rfl rfl (B4 ⟨by omega,by omega⟩)) (aV (ds:=[.int c,.int j]) (β1:=0) rfl hy) rfl]
    rfl)
  refine⟨z,?_⟩
  rw[aR (env':=[.fz (bz ns),.fz (.int k),.fz (.int c),.fz (.int z),x]) (β':=0) ?h2]
  case h2=>exact el
  show fin (toS (bW (ae (gv 3) av) [.da (bz ns),.da (.int k),.da (.int c),.da (.int z),x.val] 0) _)=_
  rw[dN (ds:=[.int z]) (β1:=0) rfl (by simp)]
  rfl
noncomputable def rR:List D->Int->FB:=pV 4 1 (b7 eG)
theorem lay_ints:∀ns:List Int,PyData.canLayAll0 (ns.map int)=true
 | []=>rfl
 |n :: ns=>by
  show ((int n).canLay0 && PyData.canLayAll0 (ns.map int))=true
  rw[lay_ints ns];rfl
theorem pU:∀ns:List Int,PyData.depthAll (ns.map int)=0
 | []=>rfl
 |n :: ns=>by
  show max (int n).depth (PyData.depthAll (ns.map int))=0
  rw[pU ns];rfl
def shaped_ints (ns:List Int):SeqAt.shaped (.list (ns.map int))=true:=by
 unfold SeqAt.shaped
 have h1:(PyData.list (ns.map int)).canLay0=true:=by simp only[PyData.canLay0];exact lay_ints ns
 have h2:(PyData.list (ns.map int)).depth<=64:=by simp only[PyData.depth];rw[pU];omega
 rw[h1,HB h2];rfl
theorem qV:∀l m:List Int,PyData.eqvAll (l.map int) (m.map int)=decide (l=m)
 | [],[]=>rfl
 | [],_ :: _=>rfl
 |_ :: _,[]=>rfl
 |p :: l,q :: m=>by
  show ((p == q) && PyData.eqvAll (l.map int) (m.map int))=_
  rw[qV l m,Jf]
  simp
def qK (neg:Bool)(l m:List Int):dO neg (.list (l.map int)) (.list (m.map int))=some (.bool (if neg then !decide (l=m) else decide (l=m))):=by
 unfold dO
 rw[shaped_ints,shaped_ints]
 simp only[Bool.and_self,IX,PyData.eqv,qV]
theorem dC {α:Type}:∀{l:List α} {k:Nat} {x:α},l[k]? =some x->(x :: l.eraseIdx k).Perm l
 | [],_,_,h=>by simp at h
 |y :: l,0,x,h=>by simp at h;subst h;exact List.Perm.refl _
 |y :: l,k + 1,x,h=>by
  have h:l[k]? =some x:=by simpa using h
  have ih:=dC h
  show (x :: y :: l.eraseIdx k).Perm (y :: l)
  exact (List.Perm.swap y x _).trans (ih.cons y)
theorem mY {α β:Type}(f:α->β):∀(l:List α) (k:Nat),(l.map f).eraseIdx k=(l.eraseIdx k).map f
 | [],_=>rfl
 |_ :: _,0=>rfl
 |x :: l,k + 1=>by simp[mY f l k]
def Aa (ns:List Int)(hz:ns.length<=100)(β:Int):∃(ms:List Int) (β':Int),rR [.list (ns.map int)] β=.ok (.list (ms.map int)) true β'/\ms.Perm ns:=by
 show ∃(ms:List Int) (β':Int),BX (b7 eG [.bx,.fz (.list (ns.map int)),.no,.no] β)=.ok (.list (ms.map int)) true β'/\ms.Perm ns
 unfold b7
 rw[aR (env':=[.bx,.fz (.list (ns.map int)),.ow (.list (ns.map int)),.no]) (β':=β) (by rfl)]
 have ez:bW av [Nv.bx,.da (.list (ns.map int)),.da (.list (ns.map int)),.no] β=.ok (.list []) β:=dN rfl (by simp)
 rw[aR (env':=[.bx,.fz (.list (ns.map int)),.ow (.list (ns.map int)),.ow (.list [])]) (β':=β) ?h]
 case h=>
  show toS (bW av [Nv.bx,.da (.list (ns.map int)),.da (.list (ns.map int)),.no] β) _=_
  rw[ez];rfl
 obtain⟨env',β',ew,ms,rfl,hp⟩:=iu (L:=[] ++ []) (t:=dU (f2 (gv 2) (bW av) (dO true))) (m:=fX 3 2 ([] ++ []) (nh 0 eG (ae (f1 (gv 2) eN) av)))
  (λk env β=>∃ls ms:List Int,env= [.bx,.fz (.list (ns.map int)),.ow (.list (ls.map int)),.ow (.list (ms.map int))]/\(ms ++ ls).Perm ns/\k=ls.length)
  (λenv β=>∃ms:List Int,env= [.bx,.fz (.list (ns.map int)),.ow (.list []),.ow (.list (ms.map int))]/\ms.Perm ns) (n:=1000) (k:=ns.length) (env:=[.bx,.fz (.list (ns.map int)),.ow (.list (ns.map int)),.ow (.list [])]) (β:=β) (by omega) ⟨ns,[],rfl,by simp,rfl⟩ (by
   rintro k env β ⟨ls,ms,rfl,hp,rfl⟩
   have e1:bW av [Nv.bx,.da (.list (ns.map int)),.da (.list (ls.map int)),.da (.list (ms.map int))] β=.ok (.list (([]:List Int).map int)) β:=dN rfl (by simp)
   have et:dU (f2 (gv 2) (bW av) (dO true)) [Nv.bx,.da (.list (ns.map int)),.da (.list (ls.map int)),.da (.list (ms.map int))] β=.ok (!decide (ls= [])) β:=
    fW _ _ _ _ (aK (x:=.list (ls.map int)) rfl e1 (by rw[qK];rfl))
   refine⟨_,_,et,?_⟩
   have hlen:=hp.length_eq
   rw[Iu] at hlen
   cases ls with
   |nil=>exact .inl ⟨rfl,ms,rfl,by simpa using hp⟩
   |cons y ys=>
    refine .inr ⟨rfl,?_⟩
    have hm:(0:Int) < ((y :: ys).length:Nat)/\(((y :: ys).length:Nat):Int) < 1073741824:=by
     have:(y :: ys).length<=100:=by omega
     constructor
     ·simp
     ·omega
    obtain⟨j,hj⟩:∃j:Nat,β % (((y :: ys).length:Nat):Int)=j:=⟨(β % (((y :: ys).length:Nat):Int)).toNat,by have:=Int.emod_nonneg β (b:=(((y :: ys).length:Nat):Int)) (by omega);omega⟩
    have hj2:j < (y :: ys).length:=by have:=Int.emod_lt_of_pos β hm.1;omega
    have ef:nh 0 eG (ae (f1 (gv 2) eN) av) [Nv.bx,.da (.list (ns.map int)),.da (.list ((y :: ys).map int)),.da (.list (ms.map int))] β=.ok (.int (j:Int)) (β / (((y :: ys).length:Nat):Int)):=by
     refine dD (ds:=[.int (((y :: ys).length:Nat):Int)]) (b:=false) (by rfl) ?_ (by rw[oM hm.1 hm.2,hj])
     show R.ok [int ((((y :: ys).map int).length:Nat):Int)] β=_
     rw[HS]
    have hpop:vM ((y :: ys).map int) (.int (j:Int))=some (.int (y :: ys)[j],((y :: ys).eraseIdx j).map int):=by
     unfold vM
     dsimp only
     rw[Hs ⟨by omega,by omega⟩]
     have es:seqIndex? (j:Int) ((y :: ys).map int).length=some j:=by
      rw[HS]
      exact PySem.StrLaws.seqIndex_nonneg (by omega) (by omega)
     rw[es]
     dsimp only
     rw[HH,Hq hj2,mY];rfl
    refine⟨[.bx,.fz (.list (ns.map int)),.ow (.list (((y :: ys).eraseIdx j).map int)),.ow (.list ((ms ++ [(y :: ys)[j]]).map int))],β / (((y :: ys).length:Nat):Int),((y :: ys).eraseIdx j).length,?_,?_,(y :: ys).eraseIdx j,ms ++ [(y :: ys)[j]],rfl,?_,rfl⟩
    ·show fX 3 2 ([] ++ []) (nh 0 eG (ae (f1 (gv 2) eN) av)) [.bx,.fz (.list (ns.map int)),.ow (.list ((y :: ys).map int)),.ow (.list (ms.map int))] β=_
     rw[sO (ds:=ms.map int) (es:=(y :: ys).map int) (by rfl) (by rfl) (by decide) ef (by rfl) hpop (by rw[HS];omega),JZ]
     rfl
    ·rw[List.length_eraseIdx]
     rw[Hs hj2]
     show (y :: ys).length - 1 < (y :: ys).length
     simp
    ·rw[Ia]
     exact (I0 ms (dC (Hq hj2))).trans hp)
 refine⟨ms,β',?_,hp⟩
 rw[aR ew]
 rfl
def D1 {n:Nat}{l:List Pr}(h8:n<=8)(w:OM.Wn n l):OM.bt 8 (OM.Mem l)=OM.bt n (OM.Mem l):=by
 refine OM.i8 (OM.fk _ _) (OM.fk _ _) λx=>?_
 rw[OM.bp,OM.bp]
 constructor
 ·rintro⟨_,h⟩;exact⟨w x h,h⟩
 ·rintro⟨h1,h⟩;exact⟨⟨⟨h1.1.1,by omega⟩,h1.2.1,by omega⟩,h⟩
def BU {n:Nat}{l:List Pr}(h8:n<=8)(w:OM.Wn n l):l.all CP=true:=by
 rw[JR]
 intro p hp
 have:=w p hp
 unfold CP
 rw[HB this.1.1,HB (by omega:p.1 < 8),HB this.2.1,HB (by omega:p.2 < 8)];rfl
def rb (l:List Pr)(p:Pr):List Pr:=(l.filter λq=>decide (q.1=p.2)).map λq=>(p.1,q.2)
def u6 (l:List Pr)(p:Pr):(rb l p).length<=l.length:=by unfold rb;rw[HS];exact Kc ..
theorem qc (l m:List Pr):(m.flatMap (rb l)).length<=m.length * l.length:=by
 induction m with
 |nil=>simp
 |cons p m ih=>
  rw[List.flatMap_cons,Iu,HQ,Nat.succ_mul]
  have:=u6 l p
  omega
def oU {a b:List D}(h:a.length + b.length<=10000):gF (.list a) (.list b)=some (.list (a ++ b)):=Hs (by rw[Ik];omega)
def lX (n:Nat):List Int:=(List.range n).map λ(k:Nat)=>(k:Int)
def tQ (n:Nat):(lX n).length=n:=by unfold lX;simp
def zT {n:Nat}{x:Int}:x∈lX n↔0<=x/\x < n:=by
 unfold lX
 rw[HK]
 constructor
 ·rintro⟨k,hk,rfl⟩
  have:=HX.mp hk
  omega
 ·intro h
  exact⟨x.toNat,HX.mpr (by omega),by omega⟩
def wt (n:Nat):dv 0 n=(lX n).map int:=by
 unfold dv lX
 rw[Kb]
 refine JB λk _=>?_
 show int (0 + (k:Int))=_
 rw[Int.zero_add];rfl
theorem pW {lo:Int}{n i:Nat}{d:D}(h:(dv lo n)[i]? =some d):i < n/\d=.int (lo + i):=by
 unfold dv at h
 rw[HH] at h
 cases q:(List.range n)[i]? with
 |none=>rw[q] at h;cases h
 |some j=>
  rw[q] at h
  cases h
  obtain⟨hi,ej⟩:=HE.mp q
  rw[J6] at hi
  rw[List.getElem_range] at ej
  subst ej
  exact⟨hi,rfl⟩
def qz {n:Nat}(h:n<=1000):gR (.int n)=some (.list ((lX n).map int)):=by
 unfold gR
 dsimp only
 rw[Hs ⟨by omega,by omega⟩,IG,wt]
def pK {fa:VF D}{vs:List Nv}{β β1:Int}{n:Nat}(h:fa vs β=.ok (.int n) β1)(hn:n<=1000):jO fa vs β=.ok (dv 0 n) β1:=by
 unfold jO
 rw[h]
 simp only[lH]
 rw[Hs (vT (by omega) (by omega)),IG]
def yz {t:Tg}{L:List Nat}{fi:VF (List D)}{m:SF}{env:En}{β β1:Int}{ds:List D}(h:fi (vl env) β=.ok ds β1):gA t L fi m env β=oQ t m ds (aJ L env) β1:=by unfold gA;rw[h];rfl
def cT {m:Nat}(h:1<=m)(h2:m<=1000)(β:Int):∃j:Nat,j < m/\eG [.int m] β=.ok (.int (j:Int)) false (β / m):=by
 refine⟨(β % m).toNat,?_,?_⟩
 ·have h0:=Int.emod_nonneg β (b:=(m:Int)) (by omega)
  have h3:=Int.emod_lt_of_pos β (b:=(m:Int)) (by omega)
  omega
 ·rw[oM (by omega) (by omega)]
  have h0:=Int.emod_nonneg β (b:=(m:Int)) (by omega)
  rw[show ((β % m).toNat:Int)=β % m by omega]
theorem zU {fa fb:VF D}{vs:List Nv}{β:Int}{a b:Bool}(h:fa vs β=.ok (.bool a) β)(h':fb vs β=.ok (.bool b) β):jA fa fb vs β=.ok (.bool (a && b)) β:=by
 unfold jA
 rw[h]
 dsimp only[R.bnd]
 cases a with
 |true=>exact h'
 |false=>rfl
def yG {fa fb:VF D}{vs:List Nv}{β:Int}{a b:Int}(h:fa vs β=.ok (.int a) β)(h':fb vs β=.ok (.int b) β):bV (ae fa (ae fb av)) vs β=.ok (aE (a,b)) β:=by
 refine nE (ds:=[.int a,.int b]) ?_ (by simp)
 rw[e8,h]
 dsimp only[R.bnd]
 rw[e8,h'];rfl
def gG (n:Nat):(OM.dH n).length=n * n:=by unfold OM.dH;simp
def jN {fa:VF D}{vs:List Nv}{β:Int}{c:Bool}(h:fa vs β=.ok (.bool c) β):zp fa vs β=.ok c β:=by rw[DE,h];rfl
end RM
namespace L2
open PySem PyProof.Rows
section
variable {X:Cx}{Γ:Fx}{E:XK}{pos:Pos}
def AF:SE X Γ E (.Dict [] [] pos) (cst (.dict [])) [] .v:=by
 refine PE.post' xV ?_
 rintro σ H Q ⟨env,G,B,β,I,o⟩ p hp
 have o:∀v G' H',SR Γ B G' H' σ (aJ [] env) β->af G G'->dG B H H'->Rp Γ.K G' v (.dict [])->Q v H':=o
 have xn:=Ext.new I.sub (o:=.dT [] 0) hp
 exact o _ _ _ (I.ext xn) xn.gg (xn.hh.mov B) (.dT (kvs:=[]) ah .nil)
end
end L2
namespace L2.SO
open PySem PySem.W PyProof.Rows
def Fd:Bool->Keyed->Array Keyed->Nat->Nat->Nat->StateT SortSt Sem (Option Nat):=sortPriv% PySem.Builtin.gallop
section
variable {M:Model}{A:Around}{E:Value->Shared->Prop}{st:SortSt}{s:Shared}
def jY (M:Model)(A:Around)(E:Value->Shared->Prop)(s:Shared)(st:SortSt)(x y:Keyed)(b:Bool):Prop:=∀Q:Option Bool->SortSt->Shared->Prop,Q (some b) st s->kasC M A E (lt' x y) Q st s
def aA {arr:Array Keyed}{i:Nat}{x:Keyed}{Q:Keyed->SortSt->Shared->Prop}(e:arr[i]? =some x)(h:Q x st s):kasC M A E (elem' arr i) Q st s:=by
 rw[elem'_eq,e];exact Hw h
def Fh (M:Model)(A:Around)(E:Value->Shared->Prop)(s:Shared)(st:SortSt)(left:Bool)(key:Keyed)(arr:Array Keyed)(base n:Nat)(b:Nat->Bool):Prop:=
 ∀i,i < n->∃x,arr[base + i]? =some x/\(left=true->jY M A E s st x key (b i))/\(left=false->jY M A E s st key x (!b i))
theorem Fh.ask {left:Bool}{key:Keyed}{arr:Array Keyed}{base n:Nat}{b:Nat->Bool}(B:Fh M A E s st left key arr base n b){i:Nat}(hi:i < n){Q:Option Bool->SortSt->Shared->Prop}(h:Q (some (b i)) st s) :
  kasC M A E (elem' arr (base + i) >>= λx=>if left=true then lt' x key else lt' key x >>= λr=>pure (Option.map (λx=> !x) r)) Q st s:=by
 obtain⟨x,e,h1,h2⟩:=B i hi
 refine Hu (aA e ?_)
 cases left with
 |true=>exact h1 rfl _ h
 |false=>
  refine Hu (h2 rfl _ (Hw ?_))
  simp only[Option.map_some,Bool.not_not]
  exact h
def xm {n m:Nat}{b:Nat->Bool}(h4:∀i,i < m->b i=true)(h5:∀i,m<=i->i < n->b i=false)(i:Nat)(hi:i < n):b i=true↔i < m:=by
 constructor
 ·intro hb
  refine Classical.byContradiction λc=>?_
  rw[h5 i (by omega) hi] at hb;cases hb
 ·exact h4 i
abbrev GS:=Option (Option Nat)×Nat×Nat
abbrev GF:=Nat->GS->StateT SortSt Sem (ForInStep GS)
theorem j6 {f:GF}{n:Nat}{b:Nat->Bool}(mo:∀i j,i<=j->j < n->b j=true->b i=true){Q:GS->SortSt->Shared->Prop}
  (f1:∀x lo hi R,lo>=hi->R (.done (none,lo,hi)) st s->kasC M A E (f x (none,lo,hi)) R st s)
  (f2:∀x lo hi (R:ForInStep GS->SortSt->Shared->Prop),lo < hi->hi<=n->R (if b (lo + (hi - lo) / 2)=true then .yield (none,lo + (hi - lo) / 2 + 1,hi) else .yield (none,lo,lo + (hi - lo) / 2)) st s->kasC M A E (f x (none,lo,hi)) R st s)
  (hQ:∀m,m<=n->(∀i,i < n->(b i=true↔i < m))->Q (none,m,m) st s) :
  ∀(l:List Nat) (lo hi:Nat),hi - lo<=l.length->lo<=hi->hi<=n->(∀i,i < lo->b i=true)->(∀i,hi<=i->i < n->b i=false)->kasC M A E (forIn l ((none,lo,hi):GS) f) Q st s
 | [],lo,hi,h1,h2,h3,h4,h5=>by
  have e:lo=hi:=by simp at h1;omega
  subst e
  exact kasC_nil (hQ lo h3 (xm h4 h5))
 |x :: l,lo,hi,h1,h2,h3,h4,h5=>by
  refine Jd ?_
  by_cases c:lo>=hi
  ·have e:lo=hi:=by omega
   subst e
   exact f1 x lo lo _ c (hQ lo h3 (xm h4 h5))
  ·refine f2 x lo hi _ (by omega) h3 ?_
   simp only[HQ] at h1
   cases hb:b (lo + (hi - lo) / 2) with
   |true=>exact j6 mo f1 f2 hQ l _ hi (by omega) (by omega) h3 (λi hi'=>mo i _ (by omega) (by omega) hb) h5
   |false=>
    refine j6 mo f1 f2 hQ l lo _ (by omega) (by omega) (by omega) h4 λi h6 h7=>?_
    cases hb2:b i with
    |false=>rfl
    |true=>rw[mo _ i h6 h7 hb2] at hb;cases hb
theorem lB {f:GF}{e:Nat}{c:Nat->Bool}{Q:GS->SortSt->Shared->Prop}
  (f1:∀x la of R,of>=e->R (.done (none,la,of)) st s->kasC M A E (f x (none,la,of)) R st s)
  (f2:∀x la of (R:ForInStep GS->SortSt->Shared->Prop),of < e->R (if c of=true then .done (none,la,of) else .yield (none,of,2 * of + 1)) st s->kasC M A E (f x (none,la,of)) R st s)
  (hQ:∀la of,la < of->la < e->c la=false->(of < e->c of=true)->Q (none,la,of) st s) :
  ∀(l:List Nat) (la of:Nat),la < of->la < e->e<=of + l.length->c la=false->kasC M A E (forIn l ((none,la,of):GS) f) Q st s
 | [],la,of,h1,h2,h3,h4=>kasC_nil (hQ la of h1 h2 h4 λd=>by simp at h3;omega)
 |x :: l,la,of,h1,h2,h3,h4=>by
  refine Jd ?_
  by_cases d:of>=e
  ·exact f1 x la of _ d (hQ la of h1 h2 h4 λd'=>by omega)
  ·refine f2 x la of _ (by omega) ?_
   simp only[HQ] at h3
   cases hb:c of with
   |true=>exact hQ la of h1 h2 h4 λ_=>hb
   |false=>exact lB f1 f2 hQ l of _ (by omega) (by omega) (by omega) hb
theorem sX {left:Bool}{key:Keyed}{arr:Array Keyed}{base n hint:Nat}{b:Nat->Bool}(B:Fh M A E s st left key arr base n b)(mo:∀i j,i<=j->j < n->b j=true->b i=true)(hh:hint < n){Q:Option Nat->SortSt->Shared->Prop}
  (hQ:∀m,m<=n->(∀i,i < n->(b i=true↔i < m))->Q (some m) st s):kasC M A E (Fd left key arr base n hint) Q st s:=by
 refine Hu (B.ask hh ?_)
 cases hb:b hint with
 |true=>
  refine Hu (IK ?_)
  refine lB (e:=n - hint) (c:=λk=> !b (hint + k)) ?_ ?_ (λla of h1 h2 h3 h4=>?_) (List.range' 0 (n - 0)) 0 1 (by omega) (by omega) (by rw[Im];omega) (by simpa using hb)
  ·intro x la of R h h'
   show kasC _ _ _ (if of>=n - hint then _ else _) _ _ _
   rw[Hs h];exact Hw h'
  ·intro x la of R h h'
   show kasC _ _ _ (if of>=n - hint then _ else _) _ _ _
   rw[Ht (by omega)]
   refine Hu (B.ask (i:=hint + of) (by omega) ?_)
   cases hb2:b (hint + of) with
   |true=>rw[hb2] at h';exact Hw h'
   |false=>rw[hb2] at h';exact Hw h'
  ·refine Hu (IK ?_)
   refine j6 mo ?_ ?_ (λm h5 h6=>Hw (hQ m h5 h6)) (List.range' 0 (n - 0)) (hint + la + 1) (hint + min of (n - hint)) (by rw[Im];omega) (by omega) (by omega) (λi hi=>mo i (hint + la) (by omega) (by omega) (by simpa using h3)) λi h5 h6=>?_
   ·intro x lo hi R h h'
    show kasC _ _ _ (if lo>=hi then _ else _) _ _ _
    rw[Hs h];exact Hw h'
   ·intro x lo hi R h h7 h'
    show kasC _ _ _ (if lo>=hi then _ else _) _ _ _
    rw[Ht (by omega)]
    refine Hu (B.ask (i:=lo + (hi - lo) / 2) (by omega) ?_)
    cases hb2:b (lo + (hi - lo) / 2) with
    |true=>rw[hb2] at h';exact Hw h'
    |false=>rw[hb2] at h';exact Hw h'
   ·cases hb2:b i with
    |false=>rfl
    |true=>
     have e:=h4 (by omega)
     simp only[Kx] at e
     rw[mo _ i (by omega) h6 hb2] at e;cases e
 |false=>
  refine Hu (IK ?_)
  refine lB (e:=hint + 1) (c:=λk=>b (hint - k)) ?_ ?_ (λla of h1 h2 h3 h4=>?_) (List.range' 0 (n - 0)) 0 1 (by omega) (by omega) (by rw[Im];omega) (by simpa using hb)
  ·intro x la of R h h'
   show kasC _ _ _ (if of>=hint + 1 then _ else _) _ _ _
   rw[Hs h];exact Hw h'
  ·intro x la of R h h'
   show kasC _ _ _ (if of>=hint + 1 then _ else _) _ _ _
   rw[Ht (by omega)]
   refine Hu (B.ask (i:=hint - of) (by omega) ?_)
   cases hb2:b (hint - of) with
   |true=>rw[hb2] at h';exact Hw h'
   |false=>rw[hb2] at h';exact Hw h'
  ·refine Hu (IK ?_)
   refine j6 mo ?_ ?_ (λm h5 h6=>Hw (hQ m h5 h6)) (List.range' 0 (n - 0)) (hint + 1 - min of (hint + 1)) (hint - la) (by rw[Im];omega) (by omega) (by omega) (λi hi=>mo i (hint - of) (by omega) (by omega) (h4 (by omega))) λi h5 h6=>?_
   ·intro x lo hi R h h'
    show kasC _ _ _ (if lo>=hi then _ else _) _ _ _
    rw[Hs h];exact Hw h'
   ·intro x lo hi R h h7 h'
    show kasC _ _ _ (if lo>=hi then _ else _) _ _ _
    rw[Ht (by omega)]
    refine Hu (B.ask (i:=lo + (hi - lo) / 2) (by omega) ?_)
    cases hb2:b (lo + (hi - lo) / 2) with
    |true=>rw[hb2] at h';exact Hw h'
    |false=>rw[hb2] at h';exact Hw h'
   ·cases hb2:b i with
    |false=>rfl
    |true=>
     have h3':b (hint - la)=false:=h3
     rw[mo _ i (by omega) h6 hb2] at h3';cases h3'
end
section
variable {α:Type}{K:α->Int}{a b o:List α}{ia ib:Nat}{x:α}
abbrev fS (K:α->Int)(l:List α):Prop:=l.Pairwise λx y=>K x < K y
structure Mg (K:α->Int)(a b o:List α)(ia ib:Nat):Prop where
 p:o.Perm (a.take ia ++ b.take ib)
 s:fS K o
 la:∀x∈o,∀y∈a.drop ia,K x < K y
 lb:∀x∈o,∀y∈b.drop ib,K x < K y
def fD {l:List α}{i:Nat}(e:l[i]? =some x):l.drop i=x :: l.drop (i + 1):=by
 obtain⟨h,rfl⟩:=HE.mp e
 exact Km h
def fI {l:List α}{i:Nat}(e:l[i]? =some x):l.take (i + 1)=l.take i ++ [x]:=by
 rw[Jj,e];rfl
def kA {l:List α}(h:fS K l)(i:Nat):fS K (l.drop i):=h.sublist (List.drop_sublist i l)
def i5 {l:List α}{i:Nat}(h:fS K l)(e:l[i]? =some x):∀y∈l.drop (i + 1),K x < K y:=by
 have:=kA h i
 rw[fD e] at this
 exact (JC.mp this).1
def Mg.stepA (h:Mg K a b o ia ib)(sa:fS K a)(e:a[ia]? =some x)(hx:∀y∈b.drop ib,K x < K y):Mg K a b (o ++ [x]) (ia + 1) ib:=by
 have hd:=fD e
 refine⟨?_,?_,?_,?_⟩
 ·rw[fI e]
  refine (h.p.append_right [x]).trans ?_
  rw[Ia,Ia]
  exact I0 _ IP
 ·exact IB.mpr ⟨h.s,by simp,λy hy z hz=>by simp at hz;subst hz;exact h.la y hy _ (by rw[hd];simp)⟩
 ·intro y hy z hz
  rcases HP.mp hy with hy |hy
  ·exact h.la y hy z (by rw[hd];exact Hz _ hz)
  ·simp at hy;subst hy;exact i5 sa e z hz
 ·intro y hy z hz
  rcases HP.mp hy with hy |hy
  ·exact h.lb y hy z hz
  ·simp at hy;subst hy;exact hx z hz
def Mg.swap (h:Mg K a b o ia ib):Mg K b a o ib ia:=⟨h.p.trans IP,h.s,h.lb,h.la⟩
def Mg.stepB (h:Mg K a b o ia ib)(sb:fS K b)(e:b[ib]? =some x)(hx:∀y∈a.drop ia,K x < K y):Mg K a b (o ++ [x]) ia (ib + 1):=(h.swap.stepA sb e hx).swap
theorem Mg.takeA (sa:fS K a):∀(k:Nat) {o:List α} {ia:Nat},Mg K a b o ia ib->(∀i,i < k->∃x,a[ia + i]? =some x/\∀y∈b.drop ib,K x < K y)->Mg K a b (o ++ (a.drop ia).take k) (ia + k) ib
 | 0,o,ia,h,_=>by simpa using h
 |k + 1,o,ia,h,hk=>by
  obtain⟨x,e,hx⟩:=hk 0 (by omega)
  rw[Nat.add_zero] at e
  have:=Mg.takeA sa k (h.stepA sa e hx) λi hi=>by
   obtain⟨y,e',hy⟩:=hk (i + 1) (by omega)
   exact⟨y,by rw[show ia + 1 + i=ia + (i + 1) by omega];exact e',hy⟩
  rw[fD e,List.take_succ_cons,show ia + (k + 1)=ia + 1 + k by omega]
  simpa using this
def Mg.takeB (sb:fS K b)(k:Nat)(h:Mg K a b o ia ib)(hk:∀i,i < k->∃x,b[ib + i]? =some x/\∀y∈a.drop ia,K x < K y):Mg K a b (o ++ (b.drop ib).take k) ia (ib + k):=(Mg.takeA sb k h.swap hk).swap
def nk (K:α->Int)(a b r:List α):Prop:=r.Perm (a ++ b)/\fS K r
def Mg.endA (h:Mg K a b o ia ib)(sa:fS K a)(e:b.length<=ib):nk K a b (o ++ a.drop ia ++ b.drop ib):=by
 rw[J3 e,Jt]
 refine⟨?_,IB.mpr ⟨h.s,kA sa ia,h.la⟩⟩
 refine (h.p.append_right _).trans ?_
 rw[IW e,Ia]
 refine (I0 _ IP).trans ?_
 rw[<-Ia,IM]
def Mg.endB (h:Mg K a b o ia ib)(sb:fS K b)(e:a[ia]? =some x)(e2:ia + 1=a.length)(hx:∀y∈b,K y < K x):nk K a b (o ++ b.drop ib ++ a.drop ia):=by
 have hd:a.drop ia= [x]:=by
  rw[fD e,J3 (show a.length<=ia + 1 by omega)]
 refine⟨?_,?_⟩
 ·refine ((h.p.append_right _).append_right _).trans ?_
  rw[Ia (a.take ia),IM,Ia]
  refine (I0 _ IP).trans ?_
  rw[<-Ia,IM]
 ·refine IB.mpr ⟨IB.mpr ⟨h.s,kA sb ib,h.lb⟩,by rw[hd];simp,λy hy z hz=>?_⟩
  rw[hd] at hz;simp at hz;subst hz
  rcases HP.mp hy with hy |hy
  ·exact h.la y hy _ (by rw[hd];simp)
  ·exact hx y (List.mem_of_mem_drop hy)
end
section
variable {M:Model}{A:Around}{E:Value->Shared->Prop}{s:Shared}{K:Keyed->Int}{a b:Array Keyed}{Ok:SortSt->Prop}
structure Go (K:Keyed->Int)(a b o:Array Keyed)(ia ib:Nat):Prop where
 m:Mg K a.toList b.toList o.toList ia ib
 ha:ia + 1 < a.size
 hb:ib < b.size
abbrev MS (τ:Type):=Option (Array Keyed)×Array Keyed×Nat×Nat×τ
abbrev MF (τ:Type):=Nat->MS τ->StateT SortSt Sem (ForInStep (MS τ))
def ER (M:Model)(A:Around)(E:Value->Shared->Prop)(s:Shared)(K:Keyed->Int)(a b:Array Keyed)(Ok:SortSt->Prop){τ:Type}(f:MF τ):Prop:=
 ∀(x:Nat) (o:Array Keyed) (ia ib:Nat) (t:τ) (st:SortSt) (R:ForInStep (MS τ)->SortSt->Shared->Prop),Ok st->Go K a b o ia ib->
  (∀r o' ia' ib' t' st',Ok st'->nk K a.toList b.toList r.toList->R (.done (some r,o',ia',ib',t')) st' s)->
  (∀o' ia' ib' t' st',Ok st'->Go K a b o' ia' ib'->ia + ib < ia' + ib'->R (.done (none,o',ia',ib',t')) st' s/\R (.yield (none,o',ia',ib',t')) st' s)->
  kasC M A E (f x (none,o,ia,ib,t)) R st s
theorem wZ {τ:Type}{f:MF τ}(hf:ER M A E s K a b Ok f){Q:MS τ->SortSt->Shared->Prop}{i0:Nat}
  (hs:∀r o' ia' ib' t' st',Ok st'->nk K a.toList b.toList r.toList->Q (some r,o',ia',ib',t') st' s)
  (hn:∀o' ia' ib' t' st',Ok st'->Go K a b o' ia' ib'->i0 < ia' + ib'->Q (none,o',ia',ib',t') st' s) :
  ∀(l:List Nat) (o:Array Keyed) (ia ib:Nat) (t:τ) (st:SortSt),Ok st->Go K a b o ia ib->i0<=ia + ib->(l= []->i0 < ia + ib)->kasC M A E (forIn l ((none,o,ia,ib,t):MS τ) f) Q st s
 | [],o,ia,ib,t,st,h1,h2,_,h3=>kasC_nil (hn o ia ib t st h1 h2 (h3 rfl))
 |x :: l,o,ia,ib,t,st,h1,h2,h3,_=>by
  refine Jd (hf x o ia ib t st _ h1 h2 (λr o' ia' ib' t' st' g1 g2=>hs r o' ia' ib' t' st' g1 g2) λo' ia' ib' t' st' g1 g2 g3=>⟨hn o' ia' ib' t' st' g1 g2 (by omega),?_⟩)
  exact wZ hf hs hn l o' ia' ib' t' st' g1 g2 (by omega) λ_=>by omega
theorem Bd {τ:Type}{f:MF τ}(hf:∀(x:Nat) (o:Array Keyed) (ia ib:Nat) (t:τ) (st:SortSt) (R:ForInStep (MS τ)->SortSt->Shared->Prop),Ok st->Go K a b o ia ib->
  (∀r o' ia' ib' t' st',Ok st'->nk K a.toList b.toList r.toList->R (.done (some r,o',ia',ib',t')) st' s)->
  (∀o' ia' ib' t' st',Ok st'->Go K a b o' ia' ib'->ia + ib < ia' + ib'->R (.yield (none,o',ia',ib',t')) st' s)->kasC M A E (f x (none,o,ia,ib,t)) R st s) {Q:MS τ->SortSt->Shared->Prop}
  (hs:∀r o' ia' ib' t' st',Ok st'->nk K a.toList b.toList r.toList->Q (some r,o',ia',ib',t') st' s) :
  ∀(l:List Nat) (o:Array Keyed) (ia ib:Nat) (t:τ) (st:SortSt),Ok st->Go K a b o ia ib->a.size + b.size<=ia + ib + l.length->kasC M A E (forIn l ((none,o,ia,ib,t):MS τ) f) Q st s
 | [],o,ia,ib,t,st,h1,h2,h3=>by
  have:=h2.ha;have:=h2.hb
  simp at h3;omega
 |x :: l,o,ia,ib,t,st,h1,h2,h3=>by
  simp only[HQ] at h3
  refine Jd (hf x o ia ib t st _ h1 h2 (λr o' ia' ib' t' st' g1 g2=>hs r o' ia' ib' t' st' g1 g2) λo' ia' ib' t' st' g1 g2 g3=>?_)
  exact Bd hf hs l o' ia' ib' t' st' g1 g2 (by omega)
end
def Hn:Array Keyed->Array Keyed->StateT SortSt Sem (Array Keyed):=sortPriv% PySem.Builtin.mergeLo
section
variable {M:Model}{A:Around}{E:Value->Shared->Prop}{s:Shared}{K:Keyed->Int}{a b:Array Keyed}{Ok:SortSt->Prop}
def gO (a:Array Keyed)(i:Nat):(a.extract i a.size).toList=a.toList.drop i:=by
 rw[Kf,JL,IW]
 simp
def eT (a:Array Keyed)(i k:Nat):(a.extract i (i + k)).toList=(a.toList.drop i).take k:=by
 rw[Kf,JL]
 congr 1;omega
def cz {a:Array Keyed}{i:Nat}(h:i < a.size):∃x,a[i]? =some x/\a.toList[i]? =some x:=⟨a[i],by simp[h],by simp[h]⟩
def jl {l:List Keyed}{i:Nat}{x:Keyed}{z:Int}(h:fS K l)(e:l[i]? =some x)(hz:z < K x):∀y∈l.drop i,z < K y:=by
 intro y hy
 rw[fD e] at hy
 rcases HA.mp hy with rfl |hy
 ·exact hz
 ·exact Jw hz (i5 h e y hy)
def uE {c:Array Keyed}{z:Keyed}{base:Nat}{st:SortSt}{left:Bool}(sc:fS K c.toList)(hb:base<=c.size)(hz:∀x∈c.toList,K x≠K z)
  (h:∀x∈c.toList,jY M A E s st x z (decide (K x < K z))/\jY M A E s st z x (decide (K z < K x))) :
  Fh M A E s st left z c base (c.size - base) (λi=>decide (K (c.getD (base + i) z) < K z))/\(∀i j,i<=j->j < c.size - base->decide (K (c.getD (base + j) z) < K z)=true->decide (K (c.getD (base + i) z) < K z)=true):=by
 have at':∀i,i < c.size - base->∃x,c[base + i]? =some x/\c.toList[base + i]? =some x/\c.getD (base + i) z=x:=λi hi=>by
  obtain⟨x,e1,e2⟩:=cz (a:=c) (i:=base + i) (by omega)
  refine⟨x,e1,e2,?_⟩
  rw[HV,e1];rfl
 refine⟨λi hi=>?_,λi j hij hj hd=>?_⟩
 ·obtain⟨x,e1,e2,e3⟩:=at' i hi
  have mx:=HG e2
  simp only[e3]
  refine⟨x,e1,λ_=>(h x mx).1,λ_=>?_⟩
  have:(!decide (K x < K z))=decide (K z < K x):=by
   have:=hz x mx
   by_cases q:K x < K z
   ·rw[HB q,HN (by omega)];rfl
   ·rw[HN q,HB (by omega)];rfl
  rw[this]
  exact (h x mx).2
 ·obtain⟨x,e1,e2,e3⟩:=at' i (by omega)
  obtain⟨y,f1,f2,f3⟩:=at' j hj
  rw[f3] at hd;rw[e3]
  refine HB ?_
  have hd':=Je hd
  rcases J0 hij with q |q
  ·have:K x < K y:=i5 sc e2 y (by
    rw[Kd]
    refine⟨j - i - 1,?_⟩
    rw[Kq,show base + i + 1 + (j - i - 1)=base + j by omega];exact f2)
   omega
  ·subst q
   rw[e1] at f1;cases f1;exact hd'
def oY {c:Array Keyed}{z:Keyed}{base hint:Nat}{st:SortSt}{left:Bool}(sc:fS K c.toList)(hh:hint < c.size - base)(hz:∀x∈c.toList,K x≠K z)
  (h:∀x∈c.toList,jY M A E s st x z (decide (K x < K z))/\jY M A E s st z x (decide (K z < K x))) {Q:Option Nat->SortSt->Shared->Prop}
  (hQ:∀k,k<=c.size - base->(∀i,i < k->∃x,c.toList[base + i]? =some x/\K x < K z)->(∀x∈c.toList.drop (base + k),K z < K x)->Q (some k) st s) :
  kasC M A E (Fd left z c base (c.size - base) hint) Q st s:=by
 obtain⟨B,mo⟩:=uE (M:=M) (A:=A) (E:=E) (s:=s) (st:=st) (left:=left) sc (show base<=c.size by omega) hz h
 refine sX B mo hh λk hk hi=>hQ k hk (λi h1=>?_) λx hx=>?_
 ·obtain⟨x,e1,e2⟩:=cz (a:=c) (i:=base + i) (by omega)
  have:=Je ((hi i (by omega)).mpr h1)
  rw[HV,e1] at this
  exact⟨x,e2,this⟩
 ·obtain⟨j,hj⟩:=Kd.mp hx
  rw[Kq] at hj
  have hl:=(HE.mp hj).1
  rw[HW] at hl
  have e:c[base + (k + j)]? =some x:=by rw[<-Iz,<-Nat.add_assoc];exact hj
  have:=(hi (k + j) (by omega))
  rw[HV,e] at this
  have h5:=hz x (HG hj)
  by_cases q:K x < K z
  ·have:=this.mp (HB q);omega
  ·omega
def Gz:Nat->StateT SortSt Sem Unit:=sortPriv% PySem.Builtin.setMinGallop
def uG {g:Nat}{st:SortSt}{Q:Unit->SortSt->Shared->Prop}(hgl:∀st g,Ok st->Ok (SortSt.mk' (kindOf st) (arrOf st) (pendingOf st) g (failedOf st)))(hst:Ok st)(h:∀st',Ok st'->Q () st' s):kasC M A E (Gz g) Q st s:=
 JO (h _ (hgl st g hst))
def C9 {x0 y0 xl:Keyed}{st:SortSt}{Q:Array Keyed->SortSt->Shared->Prop}(sa:fS K a.toList)(sb:fS K b.toList)(ne:∀x∈a.toList,∀y∈b.toList,K x≠K y)
  (hlt:∀st x y,Ok st->(x∈a.toList\/x∈b.toList)->(y∈a.toList\/y∈b.toList)->jY M A E s st x y (decide (K x < K y)))
  (e0:a.toList[0]? =some x0) (f0:b.toList[0]? =some y0) (h0:K y0 < K x0) (el:a.toList[a.size - 1]? =some xl) (hl:∀y∈b.toList,K y < K xl) (hst:Ok st) (hgl:∀st g,Ok st->Ok (SortSt.mk' (kindOf st) (arrOf st) (pendingOf st) g (failedOf st)))
  (hQ:∀r st',Ok st'->nk K a.toList b.toList r.toList->Q r st' s):kasC M A E (Hn a b) Q st s:=by
 refine Hu (kasC_lift (Ke ?_))
 refine Hu (aA (x:=y0) (by simpa using f0) ?_)
 have m1:Mg K a.toList b.toList [y0] 0 1:=by
  refine⟨?_,by simp,?_,?_⟩
  ·have:=fI f0
   rw[show (0 + 1)=1 from rfl] at this
   rw[this];simp
  ·intro x hx y hy
   simp at hx;subst hx
   exact jl sa e0 h0 y hy
  ·intro x hx y hy
   simp at hx;subst hx
   exact i5 sb f0 y hy
 have doneA:∀(o:Array Keyed) (ia ib:Nat),Mg K a.toList b.toList o.toList ia ib->ib=b.size->nk K a.toList b.toList (o ++ a.extract ia a.size ++ b.extract ib b.size).toList:=λo ia ib m c=>by
  rw[HY,HY,gO,gO]
  exact m.endA sa (by simp[c])
 have doneB:∀(o:Array Keyed) (ia ib:Nat),Mg K a.toList b.toList o.toList ia ib->ia + 1=a.size->nk K a.toList b.toList (o ++ b.extract ib b.size ++ a.extract ia a.size).toList:=λo ia ib m c=>by
  rw[HY,HY,gO,gO]
  refine m.endB sb (x:=xl) ?_ (by simp[c]) hl
  rw[<-el];congr 1;omega
 show kasC _ _ _ (if (1 == b.size)=true then _ else _) _ _ _
 by_cases c1:1=b.size
 ·rw[Hs (by simp[c1])]
  exact Hw (hQ _ _ hst (doneA #[y0] 0 1 m1 c1))
 rw[Ht (by simp[c1])]
 show kasC _ _ _ (if (0 + 1 == a.size)=true then _ else _) _ _ _
 by_cases c2:0 + 1=a.size
 ·rw[Hs (by simp[c2])]
  exact Hw (hQ _ _ hst (doneB #[y0] 0 1 m1 c2))
 rw[Ht (by simp[c2])]
 have za:0 < a.size:=by have:=(HE.mp e0).1;simpa using this
 have zb:0 < b.size:=by have:=(HE.mp f0).1;simpa using this
 refine Hu (JH ?_)
 refine Hu (IK ?_)
 refine Bd (Ok:=Ok) (K:=K) (a:=a) (b:=b) ?_ (λr o' ia' ib' t' st' g1 g2=>Hw (hQ r st' g1 g2)) (List.range' 0 (a.size + b.size - 0)) #[y0] 0 1 _ st hst ⟨m1,by omega,by omega⟩ (by rw[Im];omega)
 intro x o ia ib mg st R hst hg hd hn
 refine Hu (IK ?_)
 refine wZ (Ok:=Ok) (K:=K) (a:=a) (b:=b) (i0:=ia + ib) ?_ (λr o' ia' ib' t' st' g1 g2=>Hw (hd r _ _ _ _ st' g1 g2)) (λo' ia' ib' t' st' g1 g2 g3=>?_) (List.range' 0 (a.size + b.size - 0)) o ia ib (0,0) st hst hg (Hv _) (λe=>by
  have e':=congrArg List.length e
  rw[Im,Js] at e'
  omega)
 ·intro x o ia ib t st R hst hg hd hn
  obtain⟨m,h1,h2⟩:=hg
  obtain⟨ac,bc⟩:=t
  obtain⟨y,ey,ey'⟩:=cz h2
  obtain⟨x,ex,ex'⟩:=cz (show ia < a.size by omega)
  have my:=HG ey'
  have mx:=HG ex'
  refine Hu (aA ey ?_)
  refine Hu (aA ex ?_)
  refine Hu (hlt st y x hst (.inr my) (.inl mx) _ ?_)
  cases hc:decide (K y < K x) with
  |true=>
   have hc':=Je hc
   refine Hu (aA ey ?_)
   have m':Mg K a.toList b.toList (o.push y).toList ia (ib + 1):=by
    rw[Il];exact m.stepB sb ey' (jl sa ex' hc')
   show kasC _ _ _ (if (ib + 1 == b.size)=true then _ else _) _ _ _
   by_cases c:ib + 1=b.size
   ·rw[Hs (by simp[c])];exact Hw (hd _ _ _ _ _ _ hst (doneA _ _ _ m' c))
   ·rw[Ht (by simp[c])]
    have g:=hn (o.push y) ia (ib + 1) (0,bc + 1) st hst ⟨m',h1,by omega⟩ (by omega)
    show kasC _ _ _ (if bc + 1>=mg then _ else _) _ _ _
    split
    ·exact Hw g.1
    ·exact Hw g.2
  |false=>
   have hc':K x < K y:=by
    have h3:=of_decide_eq_false hc
    have h4:=ne x mx y my
    omega
   refine Hu (aA ex ?_)
   have m':Mg K a.toList b.toList (o.push x).toList (ia + 1) ib:=by
    rw[Il];exact m.stepA sa ex' (jl sb ey' hc')
   show kasC _ _ _ (if (ia + 1 + 1 == a.size)=true then _ else _) _ _ _
   by_cases c:ia + 1 + 1=a.size
   ·rw[Hs (by simp[c])];exact Hw (hd _ _ _ _ _ _ hst (doneB _ _ _ m' c))
   ·rw[Ht (by simp[c])]
    have g:=hn (o.push x) (ia + 1) ib (ac + 1,0) st hst ⟨m',by omega,h2⟩ (by omega)
    show kasC _ _ _ (if ac + 1>=mg then _ else _) _ _ _
    split
    ·exact Hw g.1
    ·exact Hw g.2
 ·refine Hu (kasC_lift (Ke ?_))
  refine Hu (IK ?_)
  refine wZ (Ok:=Ok) (K:=K) (a:=a) (b:=b) (i0:=ia' + ib') ?_ (λr o2 ia2 ib2 t2 st2 k1 k2=>Hw (hd r _ _ _ _ st2 k1 k2)) (λo2 ia2 ib2 t2 st2 k1 k2 k3=>?_) (List.range' 0 (a.size + b.size - 0)) o' ia' ib' _ st' g1 g2 (Hv _) (λe=>by
   have e':=congrArg List.length e
   rw[Im,Js] at e'
   omega)
  ·intro x o ia ib t st R hst hG hd hn
   obtain⟨m,h1,h2⟩:=hG
   obtain⟨mg,ac,bc⟩:=t
   obtain⟨y,ey,ey'⟩:=cz h2
   have my:=HG ey'
   show kasC _ _ _ (if mg > 1 then _ else _) _ _ _
   split
   all_goals
    refine Hu (uG (Ok:=Ok) hgl hst λst1 hst1=>?_)
    refine Hu (aA ey ?_)
    refine Hu (oY (c:=a) (z:=y) (base:=ia) (hint:=0) (left:=false) sa (by omega) (λx hx=>ne x hx y my) (λx hx=>⟨hlt _ x y hst1 (.inl hx) (.inr my),hlt _ y x hst1 (.inr my) (.inl hx)⟩) λk hk hA hA2=>?_)
    show kasC _ _ _ (if k > 0 then _ else _) _ _ _
    by_cases hk0:k > 0
    ·rw[Hs hk0]
     have m2:Mg K a.toList b.toList (o ++ a.extract ia (ia + k)).toList (ia + k) ib:=by
      rw[HY,eT]
      exact m.takeA sa k λi hi=>by
       obtain⟨w,e,hw⟩:=hA i hi
       exact⟨w,e,jl sb ey' hw⟩
     show kasC _ _ _ (if (ia + k + 1 == a.size)=true then _ else _) _ _ _
     by_cases c:ia + k + 1=a.size
     ·rw[Hs (by simp[c])];exact Hw (hd _ _ _ _ _ _ hst1 (doneB _ _ _ m2 c))
     rw[Ht (by simp[c])]
     have c':ia + k≠a.size:=λq=>by
      obtain⟨w,e,hw⟩:=hA (a.size - 1 - ia) (by omega)
      rw[show ia + (a.size - 1 - ia)=a.size - 1 by omega,el] at e
      cases e
      have:=hl y my;omega
     show kasC _ _ _ (if (ia + k == a.size)=true then _ else _) _ _ _
     rw[Ht (by simp[c'])]
     refine Hu (aA ey ?_)
     have m3:Mg K a.toList b.toList ((o ++ a.extract ia (ia + k)).push y).toList (ia + k) (ib + 1):=by
      rw[Il];exact Mg.stepB m2 sb ey' hA2
     show kasC _ _ _ (if (ib + 1 == b.size)=true then _ else _) _ _ _
     by_cases c3:ib + 1=b.size
     ·rw[Hs (by simp[c3])];exact Hw (hd _ _ _ _ _ _ hst1 (doneA _ _ _ m3 c3))
     rw[Ht (by simp[c3])]
     obtain⟨x,ex,ex'⟩:=cz (show ia + k < a.size by omega)
     have mx:=HG ex'
     refine Hu (aA ex ?_)
     refine Hu (oY (c:=b) (z:=x) (base:=ib + 1) (hint:=0) (left:=true) sb (by omega) (λy hy e=>ne x mx y hy e.symm) (λy hy=>⟨hlt _ y x hst1 (.inr hy) (.inl mx),hlt _ x y hst1 (.inl mx) (.inr hy)⟩) λk2 hk2 hB hB2=>?_)
     show kasC _ _ _ (if k2 > 0 then _ else _) _ _ _
     by_cases hk3:k2 > 0
     ·rw[Hs hk3]
      have m4:Mg K a.toList b.toList ((o ++ a.extract ia (ia + k)).push y ++ b.extract (ib + 1) (ib + 1 + k2)).toList (ia + k) (ib + 1 + k2):=by
       rw[HY,eT]
       exact m3.takeB sb k2 λi hi=>by
        obtain⟨w,e,hw⟩:=hB i hi
        exact⟨w,e,jl sa ex' hw⟩
      show kasC _ _ _ (if (ib + 1 + k2 == b.size)=true then _ else _) _ _ _
      by_cases c4:ib + 1 + k2=b.size
      ·rw[Hs (by simp[c4])];exact Hw (hd _ _ _ _ _ _ hst1 (doneA _ _ _ m4 c4))
      rw[Ht (by simp[c4])]
      refine Hu (aA ex ?_)
      have m5:Mg K a.toList b.toList (((o ++ a.extract ia (ia + k)).push y ++ b.extract (ib + 1) (ib + 1 + k2)).push x).toList (ia + k + 1) (ib + 1 + k2):=by
       rw[Il];exact Mg.stepA m4 sa ex' hB2
      show kasC _ _ _ (if (ia + k + 1 + 1 == a.size)=true then _ else _) _ _ _
      by_cases c5:ia + k + 1 + 1=a.size
      ·rw[Hs (by simp[c5])];exact Hw (hd _ _ _ _ _ _ hst1 (doneB _ _ _ m5 c5))
      rw[Ht (by simp[c5])]
      have g:=λt=>hn (((o ++ a.extract ia (ia + k)).push y ++ b.extract (ib + 1) (ib + 1 + k2)).push x) (ia + k + 1) (ib + 1 + k2) t _ hst1 ⟨m5,by omega,by omega⟩ (by omega)
      show kasC _ _ _ (if (decide (k < 7) && decide (k2 < 7))=true then _ else _) _ _ _
      split
      ·exact Hw (g _).1
      ·exact Hw (g _).2
     ·rw[Ht hk3]
      have hk4:k2=0:=by omega
      have hB3:∀z∈b.toList.drop (ib + 1),K x < K z:=by have:=hB2;rw[hk4] at this;exact this
      refine Hu (aA ex ?_)
      have m5:Mg K a.toList b.toList (((o ++ a.extract ia (ia + k)).push y).push x).toList (ia + k + 1) (ib + 1):=by
       rw[Il];exact Mg.stepA m3 sa ex' hB3
      show kasC _ _ _ (if (ia + k + 1 + 1 == a.size)=true then _ else _) _ _ _
      by_cases c5:ia + k + 1 + 1=a.size
      ·rw[Hs (by simp[c5])];exact Hw (hd _ _ _ _ _ _ hst1 (doneB _ _ _ m5 c5))
      rw[Ht (by simp[c5])]
      have g:=λt=>hn (((o ++ a.extract ia (ia + k)).push y).push x) (ia + k + 1) (ib + 1) t _ hst1 ⟨m5,by omega,by omega⟩ (by omega)
      show kasC _ _ _ (if (decide (k < 7) && decide (k2 < 7))=true then _ else _) _ _ _
      split
      ·exact Hw (g _).1
      ·exact Hw (g _).2
    ·rw[Ht hk0]
     have hk1:k=0:=by omega
     have hA3:∀z∈a.toList.drop ia,K y < K z:=by have:=hA2;rw[hk1] at this;exact this
     refine Hu (aA ey ?_)
     have m3:Mg K a.toList b.toList ((o).push y).toList (ia) (ib + 1):=by
      rw[Il];exact Mg.stepB m sb ey' hA3
     show kasC _ _ _ (if (ib + 1 == b.size)=true then _ else _) _ _ _
     by_cases c3:ib + 1=b.size
     ·rw[Hs (by simp[c3])];exact Hw (hd _ _ _ _ _ _ hst1 (doneA _ _ _ m3 c3))
     rw[Ht (by simp[c3])]
     obtain⟨x,ex,ex'⟩:=cz (show ia < a.size by omega)
     have mx:=HG ex'
     refine Hu (aA ex ?_)
     refine Hu (oY (c:=b) (z:=x) (base:=ib + 1) (hint:=0) (left:=true) sb (by omega) (λy hy e=>ne x mx y hy e.symm) (λy hy=>⟨hlt _ y x hst1 (.inr hy) (.inl mx),hlt _ x y hst1 (.inl mx) (.inr hy)⟩) λk2 hk2 hB hB2=>?_)
     show kasC _ _ _ (if k2 > 0 then _ else _) _ _ _
     by_cases hk3:k2 > 0
     ·rw[Hs hk3]
      have m4:Mg K a.toList b.toList ((o).push y ++ b.extract (ib + 1) (ib + 1 + k2)).toList (ia) (ib + 1 + k2):=by
       rw[HY,eT]
       exact m3.takeB sb k2 λi hi=>by
        obtain⟨w,e,hw⟩:=hB i hi
        exact⟨w,e,jl sa ex' hw⟩
      show kasC _ _ _ (if (ib + 1 + k2 == b.size)=true then _ else _) _ _ _
      by_cases c4:ib + 1 + k2=b.size
      ·rw[Hs (by simp[c4])];exact Hw (hd _ _ _ _ _ _ hst1 (doneA _ _ _ m4 c4))
      rw[Ht (by simp[c4])]
      refine Hu (aA ex ?_)
      have m5:Mg K a.toList b.toList (((o).push y ++ b.extract (ib + 1) (ib + 1 + k2)).push x).toList (ia + 1) (ib + 1 + k2):=by
       rw[Il];exact Mg.stepA m4 sa ex' hB2
      show kasC _ _ _ (if (ia + 1 + 1 == a.size)=true then _ else _) _ _ _
      by_cases c5:ia + 1 + 1=a.size
      ·rw[Hs (by simp[c5])];exact Hw (hd _ _ _ _ _ _ hst1 (doneB _ _ _ m5 c5))
      rw[Ht (by simp[c5])]
      have g:=λt=>hn (((o).push y ++ b.extract (ib + 1) (ib + 1 + k2)).push x) (ia + 1) (ib + 1 + k2) t _ hst1 ⟨m5,by omega,by omega⟩ (by omega)
      show kasC _ _ _ (if (decide (k < 7) && decide (k2 < 7))=true then _ else _) _ _ _
      split
      ·exact Hw (g _).1
      ·exact Hw (g _).2
     ·rw[Ht hk3]
      have hk4:k2=0:=by omega
      have hB3:∀z∈b.toList.drop (ib + 1),K x < K z:=by have:=hB2;rw[hk4] at this;exact this
      refine Hu (aA ex ?_)
      have m5:Mg K a.toList b.toList (((o).push y).push x).toList (ia + 1) (ib + 1):=by
       rw[Il];exact Mg.stepA m3 sa ex' hB3
      show kasC _ _ _ (if (ia + 1 + 1 == a.size)=true then _ else _) _ _ _
      by_cases c5:ia + 1 + 1=a.size
      ·rw[Hs (by simp[c5])];exact Hw (hd _ _ _ _ _ _ hst1 (doneB _ _ _ m5 c5))
      rw[Ht (by simp[c5])]
      have g:=λt=>hn (((o).push y).push x) (ia + 1) (ib + 1) t _ hst1 ⟨m5,by omega,by omega⟩ (by omega)
      show kasC _ _ _ (if (decide (k < 7) && decide (k2 < 7))=true then _ else _) _ _ _
      split
      ·exact Hw (g _).1
      ·exact Hw (g _).2
  ·exact Hu (JO (Hw (hn o2 ia2 ib2 _ _ (hgl st2 _ k1) k2 (by omega))))
end
section
variable {α:Type}{K:α->Int}{a b o:List α}{na nb:Nat}{x:α}
structure Mh (K:α->Int)(a b o:List α)(na nb:Nat):Prop where
 p:o.Perm (a.drop na ++ b.drop nb)
 s:o.Pairwise λx y=>K y < K x
 la:∀x∈o,∀y∈a.take na,K y < K x
 lb:∀x∈o,∀y∈b.take nb,K y < K x
def kE {l:List α}{i:Nat}(h:fS K l)(e:l[i]? =some x):∀y∈l.take i,K y < K x:=by
 have h1:fS K (l.take (i + 1)):=h.sublist (J5 _ _)
 rw[fI e] at h1
 exact λy hy=>(IB.mp h1).2.2 y hy x (by simp)
def Mh.popA (h:Mh K a b o (na + 1) nb)(sa:fS K a)(e:a[na]? =some x)(hx:∀y∈b.take nb,K y < K x):Mh K a b (o ++ [x]) na nb:=by
 have hd:=fI e
 refine⟨?_,?_,?_,?_⟩
 ·rw[fD e]
  exact (h.p.append_right [x]).trans (IP.trans (by simp))
 ·exact IB.mpr ⟨h.s,by simp,λy hy z hz=>by simp at hz;subst hz;exact h.la y hy _ (by rw[hd];simp)⟩
 ·intro y hy z hz
  rcases HP.mp hy with hy |hy
  ·exact h.la y hy z (by rw[hd];exact Jr _ hz)
  ·simp at hy;subst hy;exact kE sa e z hz
 ·intro y hy z hz
  rcases HP.mp hy with hy |hy
  ·exact h.lb y hy z hz
  ·simp at hy;subst hy;exact hx z hz
def Mh.swap (h:Mh K a b o na nb):Mh K b a o nb na:=⟨h.p.trans IP,h.s,h.lb,h.la⟩
def Mh.popB (h:Mh K a b o na (nb + 1))(sb:fS K b)(e:b[nb]? =some x)(hx:∀y∈a.take na,K y < K x):Mh K a b (o ++ [x]) na nb:=(h.swap.popA sb e hx).swap
theorem Mh.takeA (sa:fS K a):∀(k:Nat) {o:List α},Mh K a b o (na + k) nb->(∀i,i < k->∃x,a[na + i]? =some x/\∀y∈b.take nb,K y < K x)->Mh K a b (o ++ ((a.drop na).take k).reverse) na nb
 | 0,o,h,_=>by simpa using h
 |k + 1,o,h,hk=>by
  obtain⟨x,e,hx⟩:=hk k (by omega)
  have:=Mh.takeA sa k (h.popA sa e hx) λi hi=>hk i (by omega)
  have e2:(a.drop na)[k]? =some x:=by rw[Kq];exact e
  rw[fI e2,List.reverse_append]
  simpa using this
def Mh.takeB (sb:fS K b)(k:Nat)(h:Mh K a b o na (nb + k))(hk:∀i,i < k->∃x,b[nb + i]? =some x/\∀y∈a.take na,K y < K x):Mh K a b (o ++ ((b.drop nb).take k).reverse) na nb:=(Mh.takeA sb k h.swap hk).swap
def uz (h:o.Pairwise λx y=>K y < K x):fS K o.reverse:=List.pairwise_reverse.mpr h
def Mh.endA (h:Mh K a b o 0 nb)(sb:fS K b):nk K a b (a.take 0 ++ b.take nb ++ o.reverse):=by
 rw[List.take_zero,List.nil_append]
 refine⟨?_,IB.mpr ⟨sb.sublist (J5 _ _),uz h.s,λy hy z hz=>h.lb z (List.mem_reverse.mp hz) y hy⟩⟩
 refine (I0 _ ((List.reverse_perm o).trans h.p)).trans ?_
 rw[List.drop_zero,<-Ia]
 refine (List.Perm.append_right _ IP).trans ?_
 rw[Ia,IM]
def Mh.endB (h:Mh K a b o na 1)(sa:fS K a)(e:b[0]? =some x)(hx:∀y∈a,K x < K y):nk K a b (b.take 1 ++ a.take na ++ o.reverse):=by
 have hd:b.take 1= [x]:=by have:=fI e;simpa using this
 refine⟨?_,?_⟩
 ·refine (I0 _ ((List.reverse_perm o).trans h.p)).trans ?_
  rw[Ia,<-Ia (a.take na),IM]
  refine (I0 _ IP).trans ?_
  rw[<-Ia,IM]
  exact IP
 ·rw[hd]
  refine IB.mpr ⟨IB.mpr ⟨by simp,sa.sublist (J5 _ _),λy hy z hz=>?_⟩,uz h.s,λy hy z hz=>?_⟩
  ·simp at hy;subst hy;exact hx z (Jg hz)
  ·rcases HP.mp hy with hy |hy
   ·simp at hy;subst hy;exact h.lb z (List.mem_reverse.mp hz) _ (by rw[hd];simp)
   ·exact h.la z (List.mem_reverse.mp hz) y hy
end
section
variable {M:Model}{A:Around}{E:Value->Shared->Prop}{s:Shared}{K:Keyed->Int}{a b:Array Keyed}{Ok:SortSt->Prop}
structure Gh (K:Keyed->Int)(a b o:Array Keyed)(na nb:Nat):Prop where
 m:Mh K a.toList b.toList o.toList na nb
 ha:1<=na
 hb:2<=nb
 za:na<=a.size
 zb:nb<=b.size
abbrev Bl (τ:Type):=Option (Array Keyed)×Nat×Nat×Array Keyed×τ
abbrev GX (τ:Type):=Nat->Bl τ->StateT SortSt Sem (ForInStep (Bl τ))
theorem tE {τ:Type}{f:GX τ}(hf:∀(x:Nat) (na nb:Nat) (o:Array Keyed) (t:τ) (st:SortSt) (R:ForInStep (Bl τ)->SortSt->Shared->Prop),Ok st->Gh K a b o na nb->
   (∀r na' nb' o' t' st',Ok st'->nk K a.toList b.toList r.toList->R (.done (some r,na',nb',o',t')) st' s)->
   (∀na' nb' o' t' st',Ok st'->Gh K a b o' na' nb'->na' + nb' < na + nb->R (.done (none,na',nb',o',t')) st' s/\R (.yield (none,na',nb',o',t')) st' s)->
   kasC M A E (f x (none,na,nb,o,t)) R st s) {Q:Bl τ->SortSt->Shared->Prop} {i0:Nat}
  (hs:∀r na' nb' o' t' st',Ok st'->nk K a.toList b.toList r.toList->Q (some r,na',nb',o',t') st' s)
  (hn:∀na' nb' o' t' st',Ok st'->Gh K a b o' na' nb'->na' + nb' < i0->Q (none,na',nb',o',t') st' s) :
  ∀(l:List Nat) (na nb:Nat) (o:Array Keyed) (t:τ) (st:SortSt),Ok st->Gh K a b o na nb->na + nb<=i0->(l= []->na + nb < i0)->kasC M A E (forIn l ((none,na,nb,o,t):Bl τ) f) Q st s
 | [],na,nb,o,t,st,h1,h2,_,h3=>kasC_nil (hn na nb o t st h1 h2 (h3 rfl))
 |x :: l,na,nb,o,t,st,h1,h2,h3,_=>by
  refine Jd (hf x na nb o t st _ h1 h2 (λr na' nb' o' t' st' g1 g2=>hs r na' nb' o' t' st' g1 g2) λna' nb' o' t' st' g1 g2 g3=>⟨hn na' nb' o' t' st' g1 g2 (by omega),?_⟩)
  exact tE hf hs hn l na' nb' o' t' st' g1 g2 (by omega) λ_=>by omega
theorem yL {τ:Type}{f:GX τ}(hf:∀(x:Nat) (na nb:Nat) (o:Array Keyed) (t:τ) (st:SortSt) (R:ForInStep (Bl τ)->SortSt->Shared->Prop),Ok st->Gh K a b o na nb->
   (∀r na' nb' o' t' st',Ok st'->nk K a.toList b.toList r.toList->R (.done (some r,na',nb',o',t')) st' s)->
   (∀na' nb' o' t' st',Ok st'->Gh K a b o' na' nb'->na' + nb' < na + nb->R (.yield (none,na',nb',o',t')) st' s)->
   kasC M A E (f x (none,na,nb,o,t)) R st s) {Q:Bl τ->SortSt->Shared->Prop}
  (hs:∀r na' nb' o' t' st',Ok st'->nk K a.toList b.toList r.toList->Q (some r,na',nb',o',t') st' s) :
  ∀(l:List Nat) (na nb:Nat) (o:Array Keyed) (t:τ) (st:SortSt),Ok st->Gh K a b o na nb->na + nb<=l.length->kasC M A E (forIn l ((none,na,nb,o,t):Bl τ) f) Q st s
 | [],na,nb,o,t,st,h1,h2,h3=>by
  have:=h2.ha
  rw[Js] at h3;omega
 |x :: l,na,nb,o,t,st,h1,h2,h3=>by
  simp only[HQ] at h3
  refine Jd (hf x na nb o t st _ h1 h2 (λr na' nb' o' t' st' g1 g2=>hs r na' nb' o' t' st' g1 g2) λna' nb' o' t' st' g1 g2 g3=>?_)
  exact yL hf hs l na' nb' o' t' st' g1 g2 (by omega)
def lI {c:Array Keyed}{z:Keyed}{n hint:Nat}{st:SortSt}{left:Bool}(sc:fS K c.toList)(hn:n<=c.size)(hh:hint < n)(hz:∀x∈c.toList,K x≠K z)
  (h:∀x∈c.toList,jY M A E s st x z (decide (K x < K z))/\jY M A E s st z x (decide (K z < K x))) {Q:Option Nat->SortSt->Shared->Prop}
  (hQ:∀k,k<=n->(∀y∈c.toList.take k,K y < K z)->(∀i,i < n - k->∃x,c.toList[k + i]? =some x/\K z < K x)->Q (some k) st s) :
  kasC M A E (Fd left z c 0 n hint) Q st s:=by
 obtain⟨B,mo⟩:=uE (M:=M) (A:=A) (E:=E) (s:=s) (st:=st) (left:=left) (base:=0) sc (Ij _) hz h
 refine sX (n:=n) (λi hi=>B i (by omega)) (λi j h1 h2=>mo i j h1 (by omega)) hh λk hk hi=>hQ k hk (λy hy=>?_) λi h1=>?_
 ·obtain⟨j,hj⟩:=Kd.mp hy
  have hl:=(HE.mp hj).1
  rw[IU] at hl
  have hj2:c.toList[j]? =some y:=by rw[List.getElem?_take] at hj;split at hj;exact hj;cases hj
  have e:c[j]? =some y:=by rw[<-Iz];exact hj2
  have:=Je ((hi j (by omega)).mpr (by omega))
  rw[IJ,HV,e] at this
  exact this
 ·obtain⟨x,e1,e2⟩:=cz (a:=c) (i:=k + i) (by omega)
  refine⟨x,e2,?_⟩
  have:=hi (k + i) (by omega)
  rw[IJ,HV,e1] at this
  have h5:=hz x (HG e2)
  by_cases q:K x < K z
  ·have:=this.mp (HB q);omega
  ·omega
end
def Hb:Array Keyed->Array Keyed->StateT SortSt Sem (Array Keyed):=sortPriv% PySem.Builtin.mergeHi
section
variable {M:Model}{A:Around}{E:Value->Shared->Prop}{s:Shared}{K:Keyed->Int}{a b:Array Keyed}{Ok:SortSt->Prop}
def gK (a:Array Keyed)(i:Nat):(a.extract 0 i).toList=a.toList.take i:=by
 rw[Kf,JL];simp
def kC {l:List Keyed}{i:Nat}{x:Keyed}{z:Int}(h:fS K l)(e:l[i]? =some x)(hz:K x < z):∀y∈l.take (i + 1),K y < z:=by
 intro y hy
 rw[fI e] at hy
 rcases HP.mp hy with hy |hy
 ·exact Jw (kE h e y hy) hz
 ·simp at hy;subst hy;exact hz
def CY {y0 xl:Keyed}{st:SortSt}{Q:Array Keyed->SortSt->Shared->Prop}(sa:fS K a.toList)(sb:fS K b.toList)(ne:∀x∈a.toList,∀y∈b.toList,K x≠K y)
  (hlt:∀st x y,Ok st->(x∈a.toList\/x∈b.toList)->(y∈a.toList\/y∈b.toList)->jY M A E s st x y (decide (K x < K y)))
  (f0:b.toList[0]? =some y0) (h0:∀x∈a.toList,K y0 < K x) (el:a.toList[a.size - 1]? =some xl) (hl:∀y∈b.toList,K y < K xl) (hst:Ok st) (hgl:∀st g,Ok st->Ok (SortSt.mk' (kindOf st) (arrOf st) (pendingOf st) g (failedOf st)))
  (hQ:∀r st',Ok st'->nk K a.toList b.toList r.toList->Q r st' s):kasC M A E (Hb a b) Q st s:=by
 refine Hu (kasC_lift (Ke ?_))
 refine Hu (aA (x:=xl) (by rw[<-Iz];exact el) ?_)
 have za:0 < a.size:=by have:=(HE.mp el).1;rw[HW] at this;omega
 have zb:0 < b.size:=by have:=(HE.mp f0).1;rw[HW] at this;omega
 have m1:Mh K a.toList b.toList [xl] (a.size - 1) b.size:=by
  refine⟨?_,by simp,?_,?_⟩
  ·rw[fD el,J3 (show a.toList.length<=a.size - 1 + 1 by rw[HW];omega),J3 (show b.toList.length<=b.size by rw[HW];omega),Jt]
  ·intro x hx y hy
   simp at hx;subst hx
   exact kE sa el y hy
  ·intro x hx y hy
   simp at hx;subst hx
   exact hl y (Jg hy)
 have doneA:∀(o:Array Keyed) (na nb:Nat),Mh K a.toList b.toList o.toList na nb->na=0->nk K a.toList b.toList (a.extract 0 na ++ b.extract 0 nb ++ o.reverse).toList:=λo na nb m c=>by
  subst c
  rw[HY,HY,gK,gK,JN]
  exact m.endA sb
 have doneB:∀(o:Array Keyed) (na nb:Nat),Mh K a.toList b.toList o.toList na nb->nb=1->nk K a.toList b.toList (b.extract 0 nb ++ a.extract 0 na ++ o.reverse).toList:=λo na nb m c=>by
  subst c
  rw[HY,HY,gK,gK,JN]
  exact m.endB sa f0 h0
 show kasC _ _ _ (if (a.size - 1 == 0)=true then _ else _) _ _ _
 by_cases c1:a.size - 1=0
 ·rw[Hs (by simp[c1])]
  exact Hw (hQ _ _ hst (doneA #[xl] _ _ m1 c1))
 rw[Ht (by simp[c1])]
 show kasC _ _ _ (if (b.size == 1)=true then _ else _) _ _ _
 by_cases c2:b.size=1
 ·rw[Hs (by simp[c2])]
  exact Hw (hQ _ _ hst (doneB #[xl] _ _ m1 c2))
 rw[Ht (by simp[c2])]
 refine Hu (JH ?_)
 refine Hu (IK ?_)
 refine yL (Ok:=Ok) (K:=K) (a:=a) (b:=b) ?_ (λr na' nb' o' t' st' g1 g2=>Hw (hQ r st' g1 g2)) (List.range' 0 (a.size + b.size - 0)) (a.size - 1) b.size #[xl] _ st hst ⟨m1,by omega,by omega,by omega,by omega⟩ (by rw[Im];omega)
 intro x na nb o mg st R hst hg hd hn
 have nl:List.range' 0 (a.size + b.size - 0)≠ []:=λe=>by
  have e':=congrArg List.length e
  rw[Im,Js] at e'
  omega
 refine Hu (IK ?_)
 refine tE (Ok:=Ok) (K:=K) (a:=a) (b:=b) (i0:=na + nb) ?_ (λr na' nb' o' t' st' g1 g2=>Hw (hd r _ _ _ _ st' g1 g2)) (λna' nb' o' t' st' g1 g2 g3=>?_) (List.range' 0 (a.size + b.size - 0)) na nb o (0,0) st hst hg (Hv _) (λe=>absurd e nl)
 ·intro x na nb o t st R hst hG hd hn
  obtain⟨m,h1,h2,h3,h4⟩:=hG
  obtain⟨p,rfl⟩:∃p,na=p + 1:=⟨na - 1,by omega⟩
  obtain⟨q,rfl⟩:∃q,nb=q + 1:=⟨nb - 1,by omega⟩
  obtain⟨ac,bc⟩:=t
  obtain⟨y,ey,ey'⟩:=cz (show q < b.size by omega)
  obtain⟨x,ex,ex'⟩:=cz (show p < a.size by omega)
  have my:=HG ey'
  have mx:=HG ex'
  refine Hu (aA (i:=q) ey ?_)
  refine Hu (aA (i:=p) ex ?_)
  refine Hu (hlt st y x hst (.inr my) (.inl mx) _ ?_)
  cases hc:decide (K y < K x) with
  |true=>
   have hc':=Je hc
   refine Hu (aA (i:=p) ex ?_)
   have m':Mh K a.toList b.toList (o.push x).toList p (q + 1):=by
    rw[Il];exact m.popA sa ex' (kC sb ey' hc')
   show kasC _ _ _ (if (p == 0)=true then _ else _) _ _ _
   by_cases c:p=0
   ·rw[Hs (by simp[c])];exact Hw (hd _ _ _ _ _ _ hst (doneA _ _ _ m' c))
   ·rw[Ht (by simp[c])]
    have g:=hn p (q + 1) (o.push x) (ac + 1,0) st hst ⟨m',by omega,h2,by omega,h4⟩ (by omega)
    show kasC _ _ _ (if ac + 1>=mg then _ else _) _ _ _
    split
    ·exact Hw g.1
    ·exact Hw g.2
  |false=>
   have hc':K x < K y:=by
    have h3:=of_decide_eq_false hc
    have h4:=ne x mx y my
    omega
   refine Hu (aA (i:=q) ey ?_)
   have m':Mh K a.toList b.toList (o.push y).toList (p + 1) q:=by
    rw[Il];exact m.popB sb ey' (kC sa ex' hc')
   show kasC _ _ _ (if (q == 1)=true then _ else _) _ _ _
   by_cases c:q=1
   ·rw[Hs (by simp[c])];exact Hw (hd _ _ _ _ _ _ hst (doneB _ _ _ m' c))
   ·rw[Ht (by simp[c])]
    have g:=hn (p + 1) q (o.push y) (0,bc + 1) st hst ⟨m',h1,by omega,h3,by omega⟩ (by omega)
    show kasC _ _ _ (if bc + 1>=mg then _ else _) _ _ _
    split
    ·exact Hw g.1
    ·exact Hw g.2
 ·refine Hu (kasC_lift (Ke ?_))
  refine Hu (IK ?_)
  refine tE (Ok:=Ok) (K:=K) (a:=a) (b:=b) (i0:=na' + nb') ?_ (λr na2 nb2 o2 t2 st2 k1 k2=>Hw (hd r _ _ _ _ st2 k1 k2)) (λna2 nb2 o2 t2 st2 k1 k2 k3=>?_) (List.range' 0 (a.size + b.size - 0)) na' nb' o' _ st' g1 g2 (Hv _) (λe=>absurd e nl)
  ·intro x na nb o t st R hst hG hd hn
   obtain⟨m,h1,h2,h3,h4⟩:=hG
   obtain⟨p,rfl⟩:∃p,na=p + 1:=⟨na - 1,by omega⟩
   obtain⟨q,rfl⟩:∃q,nb=q + 1:=⟨nb - 1,by omega⟩
   obtain⟨mg,ac,bc⟩:=t
   obtain⟨y,ey,ey'⟩:=cz (show q < b.size by omega)
   have my:=HG ey'
   show kasC _ _ _ (if mg > 1 then _ else _) _ _ _
   split
   all_goals
    refine Hu (uG (Ok:=Ok) hgl hst λst1 hst1=>?_)
    refine Hu (aA (i:=q) ey ?_)
    refine Hu (lI (c:=a) (z:=y) (n:=p + 1) (hint:=p) (left:=false) sa (by omega) (by omega) (λx hx=>ne x hx y my) (λx hx=>⟨hlt _ x y hst1 (.inl hx) (.inr my),hlt _ y x hst1 (.inr my) (.inl hx)⟩) λat1 hat hA hA2=>?_)
    show kasC _ _ _ (if p + 1 - at1 > 0 then _ else _) _ _ _
    by_cases hk0:p + 1 - at1 > 0
    ·rw[Hs hk0]
     have m2:Mh K a.toList b.toList (o ++ (a.extract at1 (p + 1)).reverse).toList at1 (q + 1):=by
      obtain⟨k,hk⟩:∃k,p + 1=at1 + k:=⟨p + 1 - at1,by omega⟩
      rw[HY,JN,hk,eT]
      rw[hk] at m
      exact m.takeA sa k λi hi=>by
       obtain⟨w,e,hw⟩:=hA2 i (by omega)
       exact⟨w,e,kC sb ey' hw⟩
     show kasC _ _ _ (if (at1 == 0)=true then _ else _) _ _ _
     by_cases c:at1=0
     ·rw[Hs (by simp[c])];exact Hw (hd _ _ _ _ _ _ hst1 (doneA _ _ _ m2 c))
     rw[Ht (by simp[c])]
     obtain⟨u,rfl⟩:∃u,at1=u + 1:=⟨at1 - 1,by omega⟩
     refine Hu (aA (i:=q) ey ?_)
     have m3:Mh K a.toList b.toList ((o ++ (a.extract (u + 1) (p + 1)).reverse).push y).toList (u + 1) q:=by
      rw[Il];exact Mh.popB m2 sb ey' hA
     show kasC _ _ _ (if (q == 1)=true then _ else _) _ _ _
     by_cases c3:q=1
     ·rw[Hs (by simp[c3])];exact Hw (hd _ _ _ _ _ _ hst1 (doneB _ _ _ m3 c3))
     rw[Ht (by simp[c3])]
     obtain⟨x,ex,ex'⟩:=cz (show u < a.size by omega)
     have mx:=HG ex'
     refine Hu (aA (i:=u) ex ?_)
     refine Hu (lI (c:=b) (z:=x) (n:=q) (hint:=q - 1) (left:=true) sb (by omega) (by omega) (λy hy e=>ne x mx y hy e.symm) (λy hy=>⟨hlt _ y x hst1 (.inr hy) (.inl mx),hlt _ x y hst1 (.inl mx) (.inr hy)⟩) λat2 hat2 hB hB2=>?_)
     show kasC _ _ _ (if q - at2 > 0 then _ else _) _ _ _
     by_cases hk3:q - at2 > 0
     ·rw[Hs hk3]
      have m4:Mh K a.toList b.toList ((o ++ (a.extract (u + 1) (p + 1)).reverse).push y ++ (b.extract at2 q).reverse).toList (u + 1) at2:=by
       obtain⟨k,hk⟩:∃k,q=at2 + k:=⟨q - at2,by omega⟩
       rw[HY,JN,hk,eT]
       rw[hk] at m3
       exact m3.takeB sb k λi hi=>by
        obtain⟨w,e,hw⟩:=hB2 i (by omega)
        exact⟨w,e,kC sa ex' hw⟩
      show kasC _ _ _ (if (at2 == 1)=true then _ else _) _ _ _
      by_cases c4:at2=1
      ·rw[Hs (by simp[c4])];exact Hw (hd _ _ _ _ _ _ hst1 (doneB _ _ _ m4 c4))
      rw[Ht (by simp[c4])]
      have c6:at2≠0:=λz0=>by
       obtain⟨w,e,hw⟩:=hB2 0 (by omega)
       rw[z0,Nat.add_zero,f0] at e
       cases e
       have:=h0 x mx;omega
      show kasC _ _ _ (if (at2 == 0)=true then _ else _) _ _ _
      rw[Ht (by simp[c6])]
      refine Hu (aA (i:=u) ex ?_)
      have m5:Mh K a.toList b.toList (((o ++ (a.extract (u + 1) (p + 1)).reverse).push y ++ (b.extract at2 q).reverse).push x).toList u (at2):=by
       rw[Il];exact Mh.popA m4 sa ex' hB
      show kasC _ _ _ (if (u == 0)=true then _ else _) _ _ _
      by_cases c5:u=0
      ·rw[Hs (by simp[c5])];exact Hw (hd _ _ _ _ _ _ hst1 (doneA _ _ _ m5 c5))
      rw[Ht (by simp[c5])]
      have g:=λt=>hn u (at2) (((o ++ (a.extract (u + 1) (p + 1)).reverse).push y ++ (b.extract at2 q).reverse).push x) t _ hst1 ⟨m5,by omega,by omega,by omega,by omega⟩ (by omega)
      show kasC _ _ _ (if (decide (_ < 7) && decide (_ < 7))=true then _ else _) _ _ _
      split
      ·exact Hw (g _).1
      ·exact Hw (g _).2
     ·rw[Ht hk3]
      have hk4:at2=q:=by omega
      rw[hk4] at hB
      refine Hu (aA (i:=u) ex ?_)
      have m5:Mh K a.toList b.toList (((o ++ (a.extract (u + 1) (p + 1)).reverse).push y).push x).toList u (q):=by
       rw[Il];exact Mh.popA m3 sa ex' hB
      show kasC _ _ _ (if (u == 0)=true then _ else _) _ _ _
      by_cases c5:u=0
      ·rw[Hs (by simp[c5])];exact Hw (hd _ _ _ _ _ _ hst1 (doneA _ _ _ m5 c5))
      rw[Ht (by simp[c5])]
      have g:=λt=>hn u (q) (((o ++ (a.extract (u + 1) (p + 1)).reverse).push y).push x) t _ hst1 ⟨m5,by omega,by omega,by omega,by omega⟩ (by omega)
      show kasC _ _ _ (if (decide (_ < 7) && decide (_ < 7))=true then _ else _) _ _ _
      split
      ·exact Hw (g _).1
      ·exact Hw (g _).2
    ·rw[Ht hk0]
     have hk1:at1=p + 1:=by omega
     rw[hk1] at hA
     refine Hu (aA (i:=q) ey ?_)
     have m3:Mh K a.toList b.toList ((o).push y).toList (p + 1) q:=by
      rw[Il];exact Mh.popB m sb ey' hA
     show kasC _ _ _ (if (q == 1)=true then _ else _) _ _ _
     by_cases c3:q=1
     ·rw[Hs (by simp[c3])];exact Hw (hd _ _ _ _ _ _ hst1 (doneB _ _ _ m3 c3))
     rw[Ht (by simp[c3])]
     obtain⟨x,ex,ex'⟩:=cz (show p < a.size by omega)
     have mx:=HG ex'
     refine Hu (aA (i:=p) ex ?_)
     refine Hu (lI (c:=b) (z:=x) (n:=q) (hint:=q - 1) (left:=true) sb (by omega) (by omega) (λy hy e=>ne x mx y hy e.symm) (λy hy=>⟨hlt _ y x hst1 (.inr hy) (.inl mx),hlt _ x y hst1 (.inl mx) (.inr hy)⟩) λat2 hat2 hB hB2=>?_)
     show kasC _ _ _ (if q - at2 > 0 then _ else _) _ _ _
     by_cases hk3:q - at2 > 0
     ·rw[Hs hk3]
      have m4:Mh K a.toList b.toList ((o).push y ++ (b.extract at2 q).reverse).toList (p + 1) at2:=by
       obtain⟨k,hk⟩:∃k,q=at2 + k:=⟨q - at2,by omega⟩
       rw[HY,JN,hk,eT]
       rw[hk] at m3
       exact m3.takeB sb k λi hi=>by
        obtain⟨w,e,hw⟩:=hB2 i (by omega)
        exact⟨w,e,kC sa ex' hw⟩
      show kasC _ _ _ (if (at2 == 1)=true then _ else _) _ _ _
      by_cases c4:at2=1
      ·rw[Hs (by simp[c4])];exact Hw (hd _ _ _ _ _ _ hst1 (doneB _ _ _ m4 c4))
      rw[Ht (by simp[c4])]
      have c6:at2≠0:=λz0=>by
       obtain⟨w,e,hw⟩:=hB2 0 (by omega)
       rw[z0,Nat.add_zero,f0] at e
       cases e
       have:=h0 x mx;omega
      show kasC _ _ _ (if (at2 == 0)=true then _ else _) _ _ _
      rw[Ht (by simp[c6])]
      refine Hu (aA (i:=p) ex ?_)
      have m5:Mh K a.toList b.toList (((o).push y ++ (b.extract at2 q).reverse).push x).toList p (at2):=by
       rw[Il];exact Mh.popA m4 sa ex' hB
      show kasC _ _ _ (if (p == 0)=true then _ else _) _ _ _
      by_cases c5:p=0
      ·rw[Hs (by simp[c5])];exact Hw (hd _ _ _ _ _ _ hst1 (doneA _ _ _ m5 c5))
      rw[Ht (by simp[c5])]
      have g:=λt=>hn p (at2) (((o).push y ++ (b.extract at2 q).reverse).push x) t _ hst1 ⟨m5,by omega,by omega,by omega,by omega⟩ (by omega)
      show kasC _ _ _ (if (decide (_ < 7) && decide (_ < 7))=true then _ else _) _ _ _
      split
      ·exact Hw (g _).1
      ·exact Hw (g _).2
     ·rw[Ht hk3]
      have hk4:at2=q:=by omega
      rw[hk4] at hB
      refine Hu (aA (i:=p) ex ?_)
      have m5:Mh K a.toList b.toList (((o).push y).push x).toList p (q):=by
       rw[Il];exact Mh.popA m3 sa ex' hB
      show kasC _ _ _ (if (p == 0)=true then _ else _) _ _ _
      by_cases c5:p=0
      ·rw[Hs (by simp[c5])];exact Hw (hd _ _ _ _ _ _ hst1 (doneA _ _ _ m5 c5))
      rw[Ht (by simp[c5])]
      have g:=λt=>hn p (q) (((o).push y).push x) t _ hst1 ⟨m5,by omega,by omega,by omega,by omega⟩ (by omega)
      show kasC _ _ _ (if (decide (_ < 7) && decide (_ < 7))=true then _ else _) _ _ _
      split
      ·exact Hw (g _).1
      ·exact Hw (g _).2
  ·exact Hu (JO (Hw (hn na2 nb2 o2 _ _ (hgl st2 _ k1) k2 (by omega))))
end
theorem pE {α:Type}:∀(l:List α) (c:Array α) (i j:Nat),i + j + l.length<=c.size->
  ((l.zipIdx j).foldl (λ(c:Array α) (x:α×Nat)=>c.setIfInBounds (i + x.2) x.1) c).toList=c.toList.take (i + j) ++ l ++ c.toList.drop (i + j + l.length)
 | [],c,i,j,h=>by simp
 |x :: l,c,i,j,h=>by
  simp only[HQ] at h
  rw[List.zipIdx_cons,Kl,pE l _ i (j + 1) (by rw[Array.size_setIfInBounds];omega)]
  rw[Array.toList_setIfInBounds,show i + (j + 1)=i + j + 1 by omega]
  rw[Jj,List.take_set_of_le (Hv _),HI (by rw[HW];omega),List.drop_set_of_lt (by omega)]
  simp only[HQ,Option.toList_some,Ia,List.singleton_append]
  rw[show i + j + 1 + l.length=i + j + (l.length + 1) by omega]
def Ku (K:Keyed->Int)(c:Array Keyed)(i:Nat):Int:=(c[i]?).elim 0 K
def jh (k:Nat->Int)(lo hi:Nat):Prop:=∀i j,lo<=i->i < j->j < hi->k i < k j
def DF (k:Nat->Int)(lo hi:Nat):Prop:=∀i j,lo<=i->i < j->j < hi->k j < k i
structure Ar (K:Keyed->Int)(a0 c:Array Keyed):Prop where
 pm:c.Perm a0
 nd:(a0.toList.map K).Nodup
section
variable {K:Keyed->Int}{a0 c:Array Keyed}
def Ar.mem (R:Ar K a0 c){i:Nat}(h:i < c.size):∃x,c[i]? =some x/\x∈a0.toList/\Ku K c i=K x:=
 ⟨c[i],by simp[h],(Jm.mp R.pm).mem_iff.mp (by simp),by unfold Ku;simp[h]⟩
def Ar.ndc (R:Ar K a0 c):(c.toList.map K).Nodup:=(((Jm.mp R.pm).map K).nodup_iff).mpr R.nd
def Ar.ne (R:Ar K a0 c){i j:Nat}(hi:i < c.size)(hj:j < c.size)(h:i≠j):Ku K c i≠Ku K c j:=by
 have q:=II.mp R.ndc
 have e1:∀i (h:i < c.size),Ku K c i=(c.toList.map K)[i]'(by simpa using h):=λi h=>by unfold Ku;simp[h]
 rw[e1 i hi,e1 j hj]
 rcases Ie i j with z |z
 ·exact q i j _ _ z
 ·exact (q j i _ _ (by omega)).symm
def Ar.to (R:Ar K a0 c){d:Array Keyed}(h:d.Perm c):Ar K a0 d:=⟨h.trans R.pm,R.nd⟩
def jh.snoc {k:Nat->Int}{lo hi:Nat}(U:jh k lo hi)(h1:lo < hi)(h:k (hi - 1) < k hi):jh k lo (hi + 1):=λi j hl hij hj=>by
 rcases Ie j hi with c |c
 ·exact U i j hl hij c
 ·have:j=hi:=by omega
  subst this
  rcases Ie i (j - 1) with d |d
  ·exact Jw (U i (j - 1) hl d (by omega)) h
  ·have:i=j - 1:=by omega
   rw[this];exact h
def DF.snoc {k:Nat->Int}{lo hi:Nat}(U:DF k lo hi)(h1:lo < hi)(h:k hi < k (hi - 1)):DF k lo (hi + 1):=λi j hl hij hj=>by
 rcases Ie j hi with c |c
 ·exact U i j hl hij c
 ·have:j=hi:=by omega
  subst this
  rcases Ie i (j - 1) with d |d
  ·exact Jw h (U i (j - 1) hl d (by omega))
  ·have:i=j - 1:=by omega
   rw[this];exact h
def rS {i j:Nat}(hj:j<=c.size)(k:Nat):Ku K (mirror c i j ((j - i) / 2)) k=if i<=k/\k < j then Ku K c (i + j - 1 - k) else Ku K c k:=by
 unfold Ku;rw[getElem?_mirror_all hj];split <;> rfl
def tj {p l:Nat}(hp:p < c.size)(hl:l<=p)(k:Nat):Ku K (bubble c p (p - l)) k=if k=l then Ku K c p else if l < k/\k<=p then Ku K c (k - 1) else Ku K c k:=by
 unfold Ku;rw[getElem?_bubble hp _ (by omega),show p - (p - l)=l by omega];split
 ·rfl
 ·split <;> rfl
variable {M:Model}{A:Around}{E:Value->Shared->Prop}{s:Shared}{κ:SortKind}{pd:Array (Nat×Nat×Nat)}{g:Nat}
abbrev Ss (κ:SortKind)(pd:Array (Nat×Nat×Nat))(g:Nat)(c:Array Keyed):SortSt:=SortSt.mk' κ c pd g none
def jK (M:Model)(A:Around)(E:Value->Shared->Prop)(s:Shared)(κ:SortKind)(K:Keyed->Int)(a0:Array Keyed):Prop:=
 ∀st:SortSt,PyProof.Rows.kindOf st=κ->∀x∈a0.toList,∀y∈a0.toList,jY M A E s st x y (decide (K x < K y))
def qj {i j:Nat}{Q:Option Bool->SortSt->Shared->Prop}(L:jK M A E s κ K a0)(R:Ar K a0 c)(hi:i < c.size)(hj:j < c.size)(h:Q (some (decide (Ku K c i < Ku K c j))) (Ss κ pd g c) s):kasC M A E (ltAt' i j) Q (Ss κ pd g c) s:=by
 obtain⟨x,e1,m1,k1⟩:=R.mem hi
 obtain⟨y,e2,m2,k2⟩:=R.mem hj
 rw[ltAt'_eq]
 refine Hu (JH ?_)
 show kasC _ _ _ (do let x <-elem' c i;let y <-elem' c j;lt' x y) Q _ _
 refine Hu (aA e1 (Hu (aA e2 ?_)))
 refine L _ rfl x m1 y m2 _ ?_
 rw[<-k1,<-k2];exact h
theorem kF {f:Nat->Option (Option Nat)×Nat->StateT SortSt Sem (ForInStep (Option (Option Nat)×Nat))}{lo:Nat}{Q:Option (Option Nat)×Nat->SortSt->Shared->Prop}(R:Ar K a0 c)
  (hf:∀x n (T:ForInStep (Option (Option Nat)×Nat)->SortSt->Shared->Prop),1<=n->lo + n < c.size->T (if Ku K c (lo + n) < Ku K c (lo + n - 1) then .done (none,n) else .yield (none,n + 1)) (Ss κ pd g c) s->kasC M A E (f x (none,n)) T (Ss κ pd g c) s) :
  ∀(l:List Nat) (n:Nat),1<=n->lo + n + l.length<=c.size->jh (Ku K c) lo (lo + n)->(∀m,n<=m->m<=n + l.length->jh (Ku K c) lo (lo + m)->(m < n + l.length->Ku K c (lo + m) < Ku K c (lo + m - 1))->Q (none,m) (Ss κ pd g c) s)->kasC M A E (forIn l (none,n) f) Q (Ss κ pd g c) s
 | [],n,h1,h2,U,hQ=>kasC_nil (hQ n (Hv _) (by simp) U λh=>by simp at h)
 |x :: l,n,h1,h2,U,hQ=>by
  simp only[HQ] at h2 hQ
  refine Jd (hf x n _ h1 (by omega) ?_)
  by_cases q:Ku K c (lo + n) < Ku K c (lo + n - 1)
  ·rw[Hs q]
   exact hQ n (Hv _) (by omega) U λ_=>q
  ·rw[Ht q]
   have:=R.ne (i:=lo + n) (j:=lo + n - 1) (by omega) (by omega) (by omega)
   exact kF R hf l (n + 1) (by omega) (by omega) (U.snoc (by omega) (by omega)) λm a b u d=>hQ m (by omega) (by omega) u λh=>d (by omega)
theorem mB {f:Nat->Option (Option Nat)×Nat×Nat->StateT SortSt Sem (ForInStep (Option (Option Nat)×Nat×Nat))}{lo:Nat}{Q:Option (Option Nat)×Nat×Nat->SortSt->Shared->Prop}(R:Ar K a0 c)
  (hf:∀x n (T:ForInStep (Option (Option Nat)×Nat×Nat)->SortSt->Shared->Prop),1<=n->lo + n < c.size->T (if Ku K c (lo + n) < Ku K c (lo + n - 1) then .yield (none,n + 1,0) else .done (none,n,0)) (Ss κ pd g c) s->kasC M A E (f x (none,n,0)) T (Ss κ pd g c) s) :
  ∀(l:List Nat) (n:Nat),1<=n->lo + n + l.length<=c.size->DF (Ku K c) lo (lo + n)->(∀m,n<=m->m<=n + l.length->DF (Ku K c) lo (lo + m)->Q (none,m,0) (Ss κ pd g c) s)->kasC M A E (forIn l (none,n,0) f) Q (Ss κ pd g c) s
 | [],n,h1,h2,U,hQ=>kasC_nil (hQ n (Hv _) (by simp) U)
 |x :: l,n,h1,h2,U,hQ=>by
  simp only[HQ] at h2 hQ
  refine Jd (hf x n _ h1 (by omega) ?_)
  by_cases q:Ku K c (lo + n) < Ku K c (lo + n - 1)
  ·rw[Hs q]
   exact mB R hf l (n + 1) (by omega) (by omega) (U.snoc (by omega) q) λm a b u=>hQ m (by omega) (by omega) u
  ·rw[Ht q]
   exact hQ n (Hv _) (by omega) U
def xF {lo n:Nat}{Q:Option Nat->SortSt->Shared->Prop}(L:jK M A E s κ K a0)(R:Ar K a0 c)(h1:1<=n)(hn:lo + n<=c.size)
  (hQ:∀m d,1<=m->m<=n->Ar K a0 d->(∀i,i < lo->Ku K d i=Ku K c i)->jh (Ku K d) lo (lo + m)->Q (some m) (Ss κ pd g d) s):kasC M A E (countRun' lo n) Q (Ss κ pd g c) s:=by
 rw[countRun'_eq]
 have one:jh (Ku K c) lo (lo + 1):=λi j a b d=>by omega
 have st:∀{d:Array Keyed},Ar K a0 d->∀(n:Nat) (T:ForInStep (Option (Option Nat)×Nat)->SortSt->Shared->Prop),1<=n->lo + n < d.size->T (if Ku K d (lo + n) < Ku K d (lo + n - 1) then .done (none,n) else .yield (none,n + 1)) (Ss κ pd g d) s->kasC M A E (ltAt' (lo + n) (lo + n - 1)) (λa st s'=>(∃b,a=some b/\T (if b=true then .done (none,n) else .yield (none,n + 1)) st s')) (Ss κ pd g d) s:=λR' n T a b t=>by
  refine qj L R' b (by omega) ⟨_,rfl,?_⟩
  simpa using t
 refine Hu (IK (kF R (λx m T a b t=>?_) _ 1 (Hv _) (by rw[Im];omega) one λm a b u d=>?_))
 ·refine Hu (IT (st R m T a b t) ?_ λ_ _ e=>e)
  rintro⟨r,q⟩ s' ⟨b,rfl,h⟩
  cases b with
  |true=>exact Hw h
  |false=>exact Hw h
 ·rw[Im] at b d
  dsimp only
  by_cases e:(m == n)=true
  ·rw[Hs e]
   exact Hw (hQ m c a (by omega) R (λ_ _=>rfl) u)
  ·rw[Ht e]
   have e':m≠n:=by simpa using e
   have dd:=d (by omega)
   by_cases e2:m > 1
   ·rw[Hs e2]
    refine Hu (qj L R (by omega) (by omega) ?_)
    rw[HB (u lo (lo + m - 1) (Hv _) (by omega) (by omega))]
    exact Hw (hQ m c a (by omega) R (λ_ _=>rfl) u)
   ·rw[Ht e2]
    have m1:m=1:=by omega
    subst m1
    refine Hu (kasC_lift (Ke ?_))
    have two:DF (Ku K c) lo (lo + 2):=λi j a b d=>by
     have e1:i=lo:=by omega
     have e3:j=lo + 1:=by omega
     rw[e1,e3];exact dd
    refine Hu (IK (mB R (λx m T a b t=>?_) _ 2 (by omega) (by rw[Im];omega) two λm a b u2=>?_))
    ·refine Hu (qj L R b (show lo + m - 1 < c.size by omega) ?_)
     by_cases q:Ku K c (lo + m) < Ku K c (lo + m - 1)
     ·rw[Hs q] at t
      rw[HB q]
      exact Hw t
     ·rw[Ht q] at t
      rw[HN q]
      refine Hu (qj L R (show lo + m - 1 < c.size by omega) b ?_)
      have:=R.ne (i:=lo + m) (j:=lo + m - 1) (by omega) (by omega) (by omega)
      rw[HB (show Ku K c (lo + m - 1) < Ku K c (lo + m) by omega)]
      exact Hw t
    ·rw[Im] at b
     dsimp only
     rw[Ht (by omega)]
     rw[reverseSlice'_eq]
     refine Hu (JO ?_)
     have R2:Ar K a0 (mirror c lo (lo + m) ((lo + m - lo) / 2)):=R.to (mirror_perm ..)
     have sz:(mirror c lo (lo + m) ((lo + m - lo) / 2)).size=c.size:=mirror_size ..
     have U2:jh (Ku K (mirror c lo (lo + m) ((lo + m - lo) / 2))) lo (lo + m):=λi j hl hij hj=>by
      rw[rS (by omega),rS (by omega),Hs (by omega),Hs (by omega)]
      exact u2 _ _ (by omega) (by omega) (by omega)
     have kp:∀i,i < lo->Ku K (mirror c lo (lo + m) ((lo + m - lo) / 2)) i=Ku K c i:=λi hi=>by rw[rS (by omega),Ht (by omega)]
     show kasC M A E _ _ (Ss κ pd g (mirror c lo (lo + m) ((lo + m - lo) / 2))) s
     refine Hu (IK (kF R2 (λx m T a b t=>?_) _ m (by omega) (by rw[Im];omega) U2 λm' a' b' u' d'=>?_))
     ·refine Hu (IT (st R2 m T a b t) ?_ λ_ _ e=>e)
      rintro⟨r,q⟩ s' ⟨b,rfl,h⟩
      cases b with
      |true=>exact Hw h
      |false=>exact Hw h
     ·rw[Im] at b'
      exact Hw (hQ m' _ (by omega) (by omega) R2 kp u')
end
section
variable {K:Keyed->Int}{a0 c:Array Keyed}{M:Model}{A:Around}{E:Value->Shared->Prop}{s:Shared}{κ:SortKind}{pd:Array (Nat×Nat×Nat)}{g:Nat}
theorem iq {f:Nat->Option Bool×Nat×Nat->StateT SortSt Sem (ForInStep (Option Bool×Nat×Nat))}{lo k:Nat}{Q:Option Bool×Nat×Nat->SortSt->Shared->Prop}(R:Ar K a0 c)(hk:lo + k < c.size)(U:jh (Ku K c) lo (lo + k))
  (f1:∀x l r (T:ForInStep (Option Bool×Nat×Nat)->SortSt->Shared->Prop),l>=r->T (.done (none,l,r)) (Ss κ pd g c) s->kasC M A E (f x (none,l,r)) T (Ss κ pd g c) s)
  (f2:∀x l r (T:ForInStep (Option Bool×Nat×Nat)->SortSt->Shared->Prop),l < r->r<=k->T (if Ku K c (lo + k) < Ku K c (lo + (l + r) / 2) then .yield (none,l,(l + r) / 2) else .yield (none,(l + r) / 2 + 1,r)) (Ss κ pd g c) s->kasC M A E (f x (none,l,r)) T (Ss κ pd g c) s)
  (hQ:∀l r,l<=k->(∀i,i < l->Ku K c (lo + i) < Ku K c (lo + k))->(∀i,l<=i->i < k->Ku K c (lo + k) < Ku K c (lo + i))->Q (none,l,r) (Ss κ pd g c) s) :
  ∀(ls:List Nat) (l r:Nat),l<=r->r<=k->r - l<=ls.length->(∀i,i < l->Ku K c (lo + i) < Ku K c (lo + k))->(∀i,r<=i->i < k->Ku K c (lo + k) < Ku K c (lo + i))->kasC M A E (forIn ls (none,l,r) f) Q (Ss κ pd g c) s
 | [],l,r,h1,h2,h3,a,b=>kasC_nil (hQ l r (by omega) a λi hi=>b i (by simp at h3;omega))
 |x :: ls,l,r,h1,h2,h3,a,b=>by
  refine Jd ?_
  by_cases q:l>=r
  ·exact f1 x l r _ q (hQ l r (by omega) a λi hi=>b i (by omega))
  ·refine f2 x l r _ (by omega) h2 ?_
   simp only[HQ] at h3
   by_cases d:Ku K c (lo + k) < Ku K c (lo + (l + r) / 2)
   ·rw[Hs d]
    refine iq R hk U f1 f2 hQ ls l _ (by omega) (by omega) (by omega) a λi hi hk'=>?_
    rcases Ie ((l + r) / 2) i with z |z
    ·exact Jw d (U _ _ (by omega) (by omega) (by omega))
    ·have:i=(l + r) / 2:=by omega
     rw[this];exact d
   ·rw[Ht d]
    have:=R.ne (i:=lo + k) (j:=lo + (l + r) / 2) hk (by omega) (by omega)
    refine iq R hk U f1 f2 hQ ls _ r (by omega) h2 (by omega) (λi hi=>?_) b
    rcases Ie i ((l + r) / 2) with z |z
    ·have:=U (lo + i) (lo + (l + r) / 2) (by omega) (by omega) (by omega)
     omega
    ·have:i=(l + r) / 2:=by omega
     rw[this];omega
def CO {lo k l:Nat}(hk:lo + k < c.size)(hl:l<=k)(U:jh (Ku K c) lo (lo + k))(a:∀i,i < l->Ku K c (lo + i) < Ku K c (lo + k))(b:∀i,l<=i->i < k->Ku K c (lo + k) < Ku K c (lo + i)):jh (Ku K (bubble c (lo + k) (lo + k - (lo + l)))) lo (lo + (k + 1)):=λi j hi hij hj=>by
 have a':∀i,lo<=i->i < lo + l->Ku K c i < Ku K c (lo + k):=λi h1 h2=>by have:=a (i - lo) (by omega);rwa [show lo + (i - lo)=i by omega] at this
 have b':∀i,lo + l<=i->i < lo + k->Ku K c (lo + k) < Ku K c i:=λi h1 h2=>by have:=b (i - lo) (by omega) (by omega);rwa [show lo + (i - lo)=i by omega] at this
 rw[tj hk (by omega),tj hk (by omega)]
 by_cases i1:i=lo + l
 ·rw[Hs i1,Ht (by omega),Hs (by omega)]
  exact b' _ (by omega) (by omega)
 ·rw[Ht i1]
  by_cases i2:lo + l < i/\i<=lo + k
  ·rw[Hs i2,Ht (by omega),Hs (by omega)]
   exact U _ _ (by omega) (by omega) (by omega)
  ·rw[Ht i2]
   by_cases j1:j=lo + l
   ·rw[Hs j1];exact a' _ (by omega) (by omega)
   ·rw[Ht j1]
    by_cases j2:lo + l < j/\j<=lo + k
    ·rw[Hs j2]
     rcases Ie i (j - 1) with z |z
     ·exact U _ _ (by omega) z (by omega)
     ·omega
    ·rw[Ht j2];exact U _ _ (by omega) hij (by omega)
theorem pI {f:Nat->Option Bool×Unit->StateT SortSt Sem (ForInStep (Option Bool×Unit))}{lo n:Nat}{Q:Option Bool×Unit->SortSt->Shared->Prop}(hn:lo + n<=a0.size)
  (hf:∀k d (T:ForInStep (Option Bool×Unit)->SortSt->Shared->Prop),k < n->1<=k->Ar K a0 d->jh (Ku K d) lo (lo + k)->(∀d',Ar K a0 d'->(∀i,i < lo->Ku K d' i=Ku K d i)->jh (Ku K d') lo (lo + (k + 1))->T (.yield (none,())) (Ss κ pd g d') s)->kasC M A E (f k (none,())) T (Ss κ pd g d) s) :
  ∀(m k:Nat) (d:Array Keyed),k + m=n->1<=k->Ar K a0 d->jh (Ku K d) lo (lo + k)->(∀d',Ar K a0 d'->(∀i,i < lo->Ku K d' i=Ku K d i)->jh (Ku K d') lo (lo + n)->Q (none,()) (Ss κ pd g d') s)->kasC M A E (forIn (List.range' k m) (none,()) f) Q (Ss κ pd g d) s
 | 0,k,d,e,_,R,U,hQ=>kasC_nil (hQ d R (λ_ _=>rfl) (by rw[<-e];exact U))
 |m + 1,k,d,e,h1,R,U,hQ=>by
  rw[List.range'_succ]
  exact Jd (hf k d _ (by omega) h1 R U λd' R' k' U'=>pI hn hf m (k + 1) d' (by omega) (by omega) R' U' λd2 R2 k2 U2=>hQ d2 R2 (λi hi=>(k2 i hi).trans (k' i hi)) U2)
def Dr {lo n ok:Nat}{Q:Bool->SortSt->Shared->Prop}(L:jK M A E s κ K a0)(R:Ar K a0 c)(h1:1<=ok)(hok:ok<=n)(hn:lo + n<=c.size)(U:jh (Ku K c) lo (lo + ok))
  (hQ:∀d,Ar K a0 d->(∀i,i < lo->Ku K d i=Ku K c i)->jh (Ku K d) lo (lo + n)->Q true (Ss κ pd g d) s):kasC M A E (binarySort' lo n ok) Q (Ss κ pd g c) s:=by
 rw[binarySort'_eq]
 have hz:c.size=a0.size:=R.pm.size_eq
 rw[show max ok 1=ok by omega]
 refine Hu (IK (pI (K:=K) (a0:=a0) (lo:=lo) (n:=n) (by omega) (λk d T hk k1 R' U' hT=>?_) (n - ok) ok c (by omega) h1 R U λd' R' k' U'=>?_))
 ·have hz':d.size=a0.size:=R'.pm.size_eq
  refine Hu (IK ?_)
  refine iq (lo:=lo) (k:=k) R' (by omega) U' (λx l r T hge t=>?_) (λx l r T hlt hr t=>?_) (λl r hl a b=>?_) _ 0 k (Ij _) (Hv _) (by rw[Im];omega) (λi hi=>by omega) λi hi hi'=>by omega
  ·dsimp only
   rw[Hs hge]
   exact Hw t
  ·dsimp only
   rw[Ht (by omega)]
   refine Hu (qj L R' (by omega) (by omega) ?_)
   by_cases q:Ku K d (lo + k) < Ku K d (lo + (l + r) / 2)
   ·rw[Hs q] at t
    rw[HB q]
    exact Hw t
   ·rw[Ht q] at t
    rw[HN q]
    exact Hw t
  ·dsimp only
   rw[moveDown'_eq]
   refine Hu (JO (Hw ?_))
   show T _ (Ss κ pd g (bubble d (lo + k) (lo + k - (lo + l)))) s
   refine hT _ (R'.to (bubble_perm ..)) (λi hi=>?_) (CO (by omega) hl U' a b)
   rw[tj (by omega) (by omega),Ht (by omega),Ht (by omega)]
 ·exact Hw (hQ d' R' k' U')
end
section
variable {K:Keyed->Int}{a0 c:Array Keyed}{M:Model}{A:Around}{E:Value->Shared->Prop}{s:Shared}{κ:SortKind}{pd:Array (Nat×Nat×Nat)}{g:Nat}
def w8 {σ:Type}{st st':σ}{Q:PUnit->σ->Shared->Prop}(h:Q ⟨⟩ st' s):kasC M A E (set st':StateT σ Sem PUnit) Q st s:=Hy h
def uI {z:Keyed}{lo n hint:Nat}{left:Bool}{st:SortSt}{Q:Option Nat->SortSt->Shared->Prop}(L:jK M A E s κ K a0)(R:Ar K a0 c)(hst:PyProof.Rows.kindOf st=κ)(hn:lo + n<=c.size)(hh:hint < n)(mz:z∈a0.toList)(U:jh (Ku K c) lo (lo + n))(hz:∀i,i < n->Ku K c (lo + i)≠K z)
  (hQ:∀k,k<=n->(∀i,i < k->Ku K c (lo + i) < K z)->(∀i,k<=i->i < n->K z < Ku K c (lo + i))->Q (some k) st s):kasC M A E (Fd left z c lo n hint) Q st s:=by
 refine sX (b:=λi=>decide (Ku K c (lo + i) < K z)) (λi hi=>?_) (λi j hij hj hd=>?_) hh λk hk hb=>hQ k hk (λi hi=>Je ((hb i (by omega)).mpr hi)) λi h1 h2=>?_
 ·obtain⟨x,e,mx,kx⟩:=R.mem (i:=lo + i) (by omega)
  refine⟨x,e,λ_=>?_,λ_=>?_⟩
  ·have:=L st hst x mx z mz
   rw[<-kx] at this;exact this
  ·have:=L st hst z mz x mx
   rw[<-kx] at this
   have q:=hz i hi
   have e2:(!decide (Ku K c (lo + i) < K z))=decide (K z < Ku K c (lo + i)):=by
    by_cases w:Ku K c (lo + i) < K z
    ·rw[HB w,HN (by omega)];rfl
    ·rw[HN w,HB (by omega)];rfl
   rw[e2];exact this
 ·have hd':=Je hd
  refine HB ?_
  rcases J0 hij with q |q
  ·exact Jw (U (lo + i) (lo + j) (by omega) (by omega) (by omega)) hd'
  ·rw[q];exact hd'
 ·have q:=hz i h2
  by_cases w:Ku K c (lo + i) < K z
  ·have:=(hb i h2).mp (HB w);omega
  ·omega
def ext_mem {i j:Nat}{y:Keyed}(h:y∈(c.extract i j).toList):∃p,i<=p/\p < j/\p < c.size/\c[p]? =some y/\Ku K c p=K y:=by
 obtain⟨q,hq⟩:=Kd.mp h
 have hl:=(HE.mp hq).1
 rw[HW,Jq] at hl
 rw[Iz,Array.getElem?_extract,Hs hl] at hq
 exact⟨i + q,by omega,by omega,by omega,hq,by unfold Ku;rw[hq];rfl⟩
def iO {i j:Nat}(hj:j<=c.size)(U:jh (Ku K c) i j):fS K (c.extract i j).toList:=by
 refine II.mpr λp q hp hq hpq=>?_
 rw[HW,Jq] at hp hq
 have e:∀p (h:p < min j c.size - i),Ku K c (i + p)=K ((c.extract i j).toList[p]'(by rw[HW,Jq];exact h)):=λp h=>by
  unfold Ku
  simp[show i + p < c.size by omega]
 rw[<-e p hp,<-e q hq]
 exact U _ _ (by omega) (by omega) (by omega)
def xN (h:jh (Ku K c) 0 c.size):fS K c.toList:=by
 have:=iO (Hv _) h
 simpa using this
def oO {i j k:Nat}(h1:i<=j)(h2:j<=k):(c.extract i j).toList ++ (c.extract j k).toList=(c.extract i k).toList:=by
 rw[<-HY,Array.extract_append_extract]
 congr 2 <;> omega
def zM {k n1 m:Nat}{r:List Keyed}(hk:k<=n1)(hm:n1 + m<=c.size)(m1:1<=m)(k1:k < n1)(Ua:jh (Ku K c) 0 n1)(Ub:jh (Ku K c) n1 c.size)(hx:∀i,i < k->Ku K c i < Ku K c n1)(hy:∀i,n1 + m<=i->i < c.size->Ku K c (n1 - 1) < Ku K c i)
  (g:nk K (c.extract k n1).toList (c.extract n1 (n1 + m)).toList r):((c.extract 0 k).toList ++ r ++ (c.extract (n1 + m) c.size).toList).Perm c.toList/\fS K ((c.extract 0 k).toList ++ r ++ (c.extract (n1 + m) c.size).toList):=by
 constructor
 ·refine ((g.1.append_left _).append_right _).trans ?_
  rw[oO hk (by omega),oO (by omega) (by omega),oO (by omega) (by omega)]
  simp
 ·have inr:∀y∈r,∃p,k<=p/\p < n1 + m/\Ku K c p=K y:=λy hy=>by
   rcases HP.mp (g.1.mem_iff.mp hy) with z |z
   ·obtain⟨p,a,b,_,_,e⟩:=ext_mem (K:=K) z;exact⟨p,a,by omega,e⟩
   ·obtain⟨p,a,b,_,_,e⟩:=ext_mem (K:=K) z;exact⟨p,by omega,b,e⟩
  have lowA:∀i p,i < k->k<=p->p < c.size->Ku K c i < Ku K c p:=λi p hi hp hs=>by
   rcases Ie p n1 with z |z
   ·exact Ua _ _ (by omega) (by omega) z
   ·have:=hx i hi
    rcases J0 z with w |w
    ·have:=Ub n1 p (Hv _) w hs;omega
    ·rw[<-w];exact this
  have highB:∀p q,k<=p->p < n1 + m->n1 + m<=q->q < c.size->Ku K c p < Ku K c q:=λp q hp hp2 hq hs=>by
   rcases Ie p n1 with z |z
   ·have:=hy q hq hs
    rcases Ie p (n1 - 1) with w |w
    ·have:=Ua p (n1 - 1) (by omega) w (by omega);omega
    ·have:p=n1 - 1:=by omega
     rw[this];assumption
   ·exact Ub _ _ z (by omega) hs
  refine IB.mpr ⟨IB.mpr ⟨iO (by omega) λi j a b d=>Ua i j a b (by omega),g.2,λx hx y hy=>?_⟩,iO (Hv _) λi j a b d=>Ub i j (by omega) b d,λx hx y hy=>?_⟩
  ·obtain⟨p,_,b,_,_,e⟩:=ext_mem (K:=K) hx
   obtain⟨q,a,b',e'⟩:=inr y hy
   rw[<-e,<-e'];exact lowA p q b a (by omega)
  ·obtain⟨q,a,b',b3,_,e'⟩:=ext_mem (K:=K) hy
   rcases HP.mp hx with z |z
   ·obtain⟨p,_,b,_,_,e⟩:=ext_mem (K:=K) z
    rw[<-e,<-e'];exact lowA p q b (by omega) b3
   ·obtain⟨p,h1,h2,e⟩:=inr x z
    rw[<-e,<-e'];exact highB p q h1 h2 a b3
end
section
variable {K:Keyed->Int}{a0 c:Array Keyed}{M:Model}{A:Around}{E:Value->Shared->Prop}{s:Shared}{κ:SortKind}{g:Nat}
def De {n1 n2 p1 p2:Nat}{Q:Bool->SortSt->Shared->Prop}(L:jK M A E s κ K a0)(R:Ar K a0 c)(h1:1<=n1)(h2:1<=n2)(hz:n1 + n2=c.size)(Ua:jh (Ku K c) 0 n1)(Ub:jh (Ku K c) n1 c.size)
  (hQ:∀d g',d.Perm c->fS K d.toList->Q true (SortSt.mk' κ d #[(0,n1 + n2,p1)] g' none) s):kasC M A E (mergeAt' 0) Q (SortSt.mk' κ c #[(0,n1,p1),(n1,n2,p2)] g none) s:=by
 obtain⟨y,ey,my,ky⟩:=R.mem (i:=n1) (by omega)
 obtain⟨x,ex,mx,kx⟩:=R.mem (i:=n1 - 1) (by omega)
 refine Hu (JH ?_)
 refine Hu (w8 ?_)
 show kasC M A E _ _ (SortSt.mk' κ c (((#[(0,n1,p1),(n1,n2,p2)]:Array (Nat×Nat×Nat)).setIfInBounds 0 (0,n1 + n2,p1)).eraseIdxIfInBounds (0 + 1)) g none) s
 rw[show ((#[(0,n1,p1),(n1,n2,p2)]:Array (Nat×Nat×Nat)).setIfInBounds 0 (0,n1 + n2,p1)).eraseIdxIfInBounds (0 + 1)=#[(0,n1 + n2,p1)] by simp]
 refine Hu (aA (arr:=c) ey ?_)
 refine Hu ?_
 refine uI (c:=c) (left:=false) (lo:=0) (n:=n1) (hint:=0) (z:=y) (κ:=κ) (a0:=a0) (K:=K) L R rfl (by omega) (by omega) my (by rw[IJ];exact Ua) (λi hi=>by rw[<-ky];exact R.ne (by omega) (by omega) (by omega)) λk hk hlo hhi=>?_
 simp only[IJ] at hlo hhi
 have done:(∀i,i < n1->Ku K c i < Ku K c n1)->fS K c.toList:=λh=>xN λi j _ hij hj=>by
  rcases Ie j n1 with z |z
  ·exact Ua i j (Ij _) hij z
  ·rcases Ie i n1 with w |w
   ·have:=h i w
    rcases J0 z with v |v
    ·have:=Ub n1 j (Hv _) v hj;omega
    ·rw[<-v];exact this
   ·exact Ub i j w hij hj
 show kasC _ _ _ (if (n1 - k == 0)=true then _ else _) _ _ _
 by_cases c1:n1 - k=0
 ·rw[Hs (by simp[c1])]
  refine Hw (hQ c g (.refl _) (done λi hi=>?_))
  rw[ky];exact hlo i (by omega)
 rw[Ht (by simpa using c1)]
 refine Hu (aA (arr:=c) (i:=0 + k + (n1 - k) - 1) (x:=x) (by rw[<-ex];congr 1;omega) ?_)
 refine Hu ?_
 refine uI (c:=c) (left:=true) (lo:=n1) (n:=n2) (hint:=n2 - 1) (z:=x) (κ:=κ) (a0:=a0) (K:=K) L R rfl (by omega) (by omega) mx (by rw[hz];exact Ub) (λi hi=>by rw[<-kx];exact R.ne (by omega) (by omega) (by omega)) λm hm hlo2 hhi2=>?_
 have xy:K y < K x:=by have:=hhi (n1 - 1) (by omega) (by omega);rw[kx] at this;exact this
 have m1:1<=m:=by
  refine Classical.byContradiction λq=>?_
  have:=hhi2 0 (by omega) (by omega)
  rw[Nat.add_zero,ky] at this;omega
 show kasC _ _ _ (if (m == 0)=true then _ else _) _ _ _
 rw[Ht (by simp;omega)]
 have sx:fS K (c.extract (0 + k) n1).toList:=iO (by omega) λi j a b d=>Ua i j (Ij _) b d
 have sy:fS K (c.extract n1 (n1 + m)).toList:=iO (by omega) λi j a b d=>Ub i j a b (by omega)
 have mem0:∀{i j:Nat} {z:Keyed},z∈(c.extract i j).toList->z∈a0.toList:=λh=>by
  obtain⟨p,_,_,h3,h4,_⟩:=ext_mem (K:=K) h
  obtain⟨w,e,mw,_⟩:=R.mem h3
  rw[h4] at e;cases e;exact mw
 have ne:∀x∈(c.extract (0 + k) n1).toList,∀y∈(c.extract n1 (n1 + m)).toList,K x≠K y:=λx hx y hy=>by
  obtain⟨p,_,b,d,_,e⟩:=ext_mem (K:=K) hx
  obtain⟨q,b',_,d',_,e'⟩:=ext_mem (K:=K) hy
  rw[<-e,<-e'];exact R.ne d d' (by omega)
 let Ok:SortSt->Prop:=λst=>∃g',st=SortSt.mk' κ c #[(0,n1 + n2,p1)] g' none
 have hlt:∀st x y,Ok st->(x∈(c.extract (0 + k) n1).toList\/x∈(c.extract n1 (n1 + m)).toList)->(y∈(c.extract (0 + k) n1).toList\/y∈(c.extract n1 (n1 + m)).toList)->jY M A E s st x y (decide (K x < K y)):=λst x y hst hx hy=>by
  obtain⟨g',rfl⟩:=hst
  exact L _ rfl x (hx.elim mem0 mem0) y (hy.elim mem0 mem0)
 have hgl:∀st g,Ok st->Ok (SortSt.mk' (PyProof.Rows.kindOf st) (arrOf st) (pendingOf st) g (failedOf st)):=λst g' hst=>by
  obtain⟨_,rfl⟩:=hst
  exact⟨g',rfl⟩
 have f0:(c.extract n1 (n1 + m)).toList[0]? =some y:=by
  rw[Iz,Array.getElem?_extract,Hs (by omega)];exact ey
 have el:(c.extract (0 + k) n1).toList[(c.extract (0 + k) n1).size - 1]? =some x:=by
  rw[Iz,Array.getElem?_extract,Jq,Hs (by omega),<-ex];congr 1;omega
 have hl:∀y∈(c.extract n1 (n1 + m)).toList,K y < K x:=λy hy=>by
  obtain⟨q,b',b2,d',_,e'⟩:=ext_mem (K:=K) hy
  have:=hlo2 (q - n1) (by omega)
  rw[show n1 + (q - n1)=q by omega,e'] at this;exact this
 have h0:∀x∈(c.extract (0 + k) n1).toList,K y < K x:=λx hx=>by
  obtain⟨q,b',b2,d',_,e'⟩:=ext_mem (K:=K) hx
  have:=hhi q (by omega) b2
  rw[e'] at this;exact this
 have fin:∀(r:Array Keyed) (st':SortSt),Ok st'->nk K (c.extract (0 + k) n1).toList (c.extract n1 (n1 + m)).toList r.toList->kasC M A E (do
   modify λst:SortSt=>setArr st (r.toList.zipIdx.foldl (λa x=>a.setIfInBounds (0 + k + x.2) x.1) (arrOf st))
   let st <-get
   pure (failedOf st).isNone) Q st' s:=λr st' hst hm'=>by
  obtain⟨g',rfl⟩:=hst
  refine Hu (JO (Hu (JH (Hw ?_))))
  have len:r.size=n1 - k + m:=by
   have:=hm'.1.length_eq
   rw[Iu,HW,HW,HW,Jq,Jq] at this
   omega
  have pb:=pE r.toList c (0 + k) 0 (by rw[HW];omega)
  rw[HW,<-gK,len,<-gO] at pb
  simp only[Nat.add_zero,IJ] at pb hm'
  rw[show k + (n1 - k + m)=n1 + m by omega] at pb
  obtain⟨q1,q2⟩:=zM (by omega) (by omega) m1 (by omega) Ua Ub (λi hi=>by rw[ky];exact hlo i hi) (λi h3 h4=>by
   have:=hhi2 (i - n1) (by omega) (by omega)
   rw[show n1 + (i - n1)=i by omega] at this
   rw[kx];exact this) hm'
  rw[<-pb] at q1 q2
  simp only[IJ]
  exact hQ _ g' (Jm.mpr q1) q2
 show kasC _ _ _ (if n1 - k<=m then _ else _) _ _ _
 by_cases c2:n1 - k<=m
 ·rw[Hs c2]
  have z0:0 < (c.extract (0 + k) n1).size:=by rw[Jq];omega
  obtain⟨x0,e0,e0'⟩:=cz z0
  refine Hu (C9 (K:=K) (Ok:=Ok) sx sy ne hlt e0' f0 (h0 x0 (HG e0')) el hl ⟨g,rfl⟩ hgl λr st' h3 h4=>?_)
  exact fin r st' h3 h4
 ·rw[Ht c2]
  refine Hu (CY (K:=K) (Ok:=Ok) sx sy ne hlt f0 h0 el hl ⟨g,rfl⟩ hgl λr st' h3 h4=>?_)
  exact fin r st' h3 h4
end
section
variable {K:Keyed->Int}{a0:Array Keyed}{M:Model}{A:Around}{E:Value->Shared->Prop}{s:Shared}{κ:SortKind}
def Aw {k k':Nat->Int}{lo hi:Nat}(h:jh k lo hi)(e:∀i,i < hi->k' i=k i):jh k' lo hi:=λi j a b d=>by rw[e i (by omega),e j d];exact h i j a b d
def xf {β:Type}{c:Array Keyed}{lo n:Nat}{pd:Array (Nat×Nat×Nat)}{g:Nat}{f:Nat->StateT SortSt Sem β}{bad:Nat->Bool->StateT SortSt Sem β}{Q:β->SortSt->Shared->Prop}{X:Option Nat->StateT SortSt Sem β}(L:jK M A E s κ K a0)(R:Ar K a0 c)(h1:1<=n)(hn:lo + n<=c.size)
  (hX:∀m,¬m < 32->X (some m)=f m)
  (hY:∀m,m < 32->X (some m)=liftM (rule "list.sort.binary-insertion") >>= λ_=>binarySort' lo (min n 32) m >>= λr=>if (!r)=true then bad m r else f (min n 32))
  (hQ:∀m d,1<=m->m<=n->(m < 32->m=n)->Ar K a0 d->(∀i,i < lo->Ku K d i=Ku K c i)->jh (Ku K d) lo (lo + m)->kasC M A E (f m) Q (Ss κ pd g d) s):kasC M A E (countRun' lo n >>= X) Q (Ss κ pd g c) s:=by
 refine Hu (xF L R h1 hn λm d m1 m2 R2 k2 U2=>?_)
 by_cases q:m < 32
 ·rw[hY m q]
  have z2:d.size=c.size:=R2.pm.size_eq.trans R.pm.size_eq.symm
  refine Hu (kasC_lift (Ke ?_))
  refine Hu (Dr L R2 m1 (by omega) (by omega) U2 λe R3 k3 U3=>?_)
  rw[Ht (by simp)]
  exact hQ _ e (by omega) (by omega) (by omega) R3 (λi hi=>(k3 i hi).trans (k2 i hi)) U3
 ·rw[hX m q]
  exact hQ m d m1 m2 (λh=>absurd h q) R2 k2 U2
def CJ {Q:Unit->SortSt->Shared->Prop}(L:jK M A E s κ K a0)(nd:(a0.toList.map K).Nodup)(hz:a0.size=64)
  (hQ:∀d pd g,d.Perm a0->fS K d.toList->Q () (SortSt.mk' κ d pd g none) s):kasC M A E sortRuns' Q (SortSt.mk' κ a0 #[] 7 none) s:=by
 rw[sortRuns'_eq]
 have R0:Ar K a0 a0:=⟨.refl _,nd⟩
 refine Hu (JH ?_)
 dsimp only
 have hsz:(arrOf (SortSt.mk' κ a0 #[] 7 none)).size=64:=hz
 simp only[hsz]
 have hmr:minRun' 64 64 0=32:=by
  rw[minRun'_succ,Ht (by omega),minRun'_succ,Hs (by omega)];rfl
 simp only[hmr]
 refine Hu (IK ?_)
 show kasC _ _ _ (forIn (0 :: 1 :: 2 :: List.range' 3 61) _ _) _ _ _
 refine Jd ?_
 dsimp only
 rw[Ht (by omega)]
 refine xf (lo:=0) (n:=64) (f:=?f) (bad:=?b) L R0 (by omega) (by omega) ?hx ?hy ?hq
 case hx=>intro m h;dsimp only;rw[Ht h]
 case hy=>intro m h;dsimp only;rw[Hs h]
 case hq=>
 intro n1 c n1a n1b n1c Rc _ Ua
 have zc:c.size=64:=Rc.pm.size_eq.trans hz
 rw[IJ] at Ua
 refine Hu (JH ?_)
 rw[show (pendingOf (Ss κ #[] 7 c)).back? =none from rfl]
 dsimp only
 refine Hu (JO (Hw ?_))
 show kasC _ _ _ (forIn (1 :: 2 :: List.range' 3 61) _ _) _ (SortSt.mk' κ c #[(0,n1,0)] 7 none) _
 refine Jd ?_
 dsimp only
 rw[IJ]
 by_cases e1:n1>=64
 ·rw[Hs e1]
  refine Hw ?_
  dsimp only
  refine Hu (IK ?_)
  show kasC _ _ _ (forIn (0 :: List.range' 1 63) _ _) _ _ _
  refine Jd ?_
  refine Hu (JH ?_)
  rw[Hs (show (pendingOf (SortSt.mk' κ c #[(0,n1,0)] 7 none)).size<=1 from Hv 1)]
  refine Hw ?_
  dsimp only
  exact Hw (hQ c _ _ Rc.pm (xN (by rw[zc,show 64=n1 by omega];exact Ua)))
 rw[Ht e1]
 refine xf (lo:=n1) (n:=64 - n1) (pd:=#[(0,n1,0)]) (g:=7) (c:=c) (f:=?f2) (bad:=?b2) L Rc (by omega) (by omega) ?hx2 ?hy2 ?hq2
 case hx2=>intro m h;dsimp only;rw[Ht h]
 case hy2=>intro m h;dsimp only;rw[Hs h]
 case hq2=>
 intro n2 d n2a n2b n2c Rd kd Ub
 have zd:d.size=64:=Rd.pm.size_eq.trans hz
 have e2:n1 + n2=64:=by
  by_cases q:n2 < 32
  ·have:=n2c q;omega
  ·by_cases q1:n1 < 32
   ·have:=n1c q1;omega
   ·omega
 have Ua':jh (Ku K d) 0 n1:=Aw Ua kd
 refine Hu (JH ?_)
 rw[show (pendingOf (Ss κ #[(0,n1,0)] 7 d)).back? =some (0,n1,0) from rfl]
 dsimp only
 refine Hu (IK ?_)
 show kasC _ _ _ (forIn (0 :: List.range' 1 63) _ _) _ _ _
 refine Jd ?_
 refine Hu (JH ?_)
 rw[Ht (show ¬(pendingOf (Ss κ #[(0,n1,0)] 7 d)).size > 1 from Ic 1)]
 refine Hw ?_
 dsimp only
 refine Hu (JO ?_)
 refine Hu (JO (Hw ?_))
 generalize power' 64 (2 * 0 + n1) (2 * 0 + n1 + n1 + n2) 64=pw
 show kasC _ _ _ (forIn (2 :: List.range' 3 61) _ _) _ (SortSt.mk' κ d (((#[(0,n1,0)]:Array (Nat×Nat×Nat)).modify 0 λx=>(x.1,x.2.1,pw)).push (n1,n2,0)) 7 none) _
 rw[show ((#[(0,n1,0)]:Array (Nat×Nat×Nat)).modify 0 λx=>(x.1,x.2.1,pw)).push (n1,n2,0)=#[(0,n1,pw),(n1,n2,0)] by simp[Array.modify,Array.modifyM,Id.run];rfl]
 refine Jd ?_
 dsimp only
 rw[Hs (by omega)]
 refine Hw ?_
 dsimp only
 refine Hu (IK ?_)
 show kasC _ _ _ (forIn (0 :: 1 :: List.range' 2 62) _ _) _ _ _
 refine Jd ?_
 refine Hu (JH ?_)
 rw[Ht (show ¬(pendingOf (SortSt.mk' κ d #[(0,n1,pw),(n1,n2,0)] 7 none)).size<=1 from Ic 1)]
 refine Hu (De (n1:=n1) (n2:=n2) (p1:=pw) (p2:=0) (g:=7) (c:=d) L Rd n1a n2a (by omega) Ua' (by rw[zd,<-e2];exact Ub) λd' g' pm as=>?_)
 refine Hw ?_
 refine Jd ?_
 refine Hu (JH ?_)
 rw[Hs (show (pendingOf (SortSt.mk' κ d' #[(0,n1 + n2,pw)] g' none)).size<=1 from Hv 1)]
 refine Hw ?_
 dsimp only
 exact Hw (hQ d' _ _ (pm.trans Rd.pm) as)
end
theorem wK {α:Type}{K:α->Int}:∀{l m:List α},l.Perm m->fS K l->fS K m->l=m
 | [],m,h,_,_=>by simpa using h.symm
 |x :: l,[],h,_,_=>by simpa using h
 |x :: l,y :: m,h,a,b=>by
  have a':=JC.mp a
  have b':=JC.mp b
  have e:x=y:=by
   rcases HA.mp (h.mem_iff.mp (HC ..)) with q |q
   ·exact q
   ·rcases HA.mp (h.mem_iff.mpr (HC ..)) with r |r
    ·exact r.symm
    ·have:=a'.1 y r;have:=b'.1 x q;omega
  subst e
  rw[wK h.cons_inv a'.2 b'.2]
noncomputable def vQ (it:Array Keyed)(key:Nat->Int)(x:Keyed):Int:=open Classical in if h:∃i,i < it.size/\kas_item it i=x then key h.choose else 0
def nz {it:Array Keyed}{key:Nat->Int}(hd:∀i j,i < it.size->j < it.size->kas_item it i=kas_item it j->i=j){i:Nat}(hi:i < it.size):vQ it key (kas_item it i)=key i:=by
 have h:∃j,j < it.size/\kas_item it j=kas_item it i:=⟨i,hi,rfl⟩
 unfold vQ
 rw[dif_pos h,hd _ _ h.choose_spec.1 hi h.choose_spec.2]
def pQ {it:Array Keyed}{x:Keyed}(h:x∈it.toList):∃i,i < it.size/\kas_item it i=x:=by
 obtain⟨i,hi,e⟩:=Ip.mp h
 rw[HW] at hi
 exact⟨i,hi,by unfold kas_item;rw[<-e];simp[Array.getD,hi]⟩
def AD {n:Nat}{ix:Array Nat}(P:Pm n ix):ix.toList.Perm (List.range n):=by
 refine (List.perm_ext_iff_of_nodup P.nd JT).mpr λx=>⟨λhx=>HX.mpr (P.lt x (by simpa using hx)),λhx=>L2.ST.yf P (HX.mp hx)⟩
def CC:L2.ST.iG 64:=⟨Hv _,λprog w A E s κ vs key Q hn h2 hi hd hc hQ=>by
 obtain⟨ix,_,P1,U1⟩:=mn hi h2
 have e:=kat_ask_eq (prog:=prog) (w:=w) (A:=A) (κ:=κ) (ks:=vs) (vs:=vs) rfl
 rw[e] at hc
 have hsz:(vs.toArray.zip vs.toArray).size=64:=by simp[hn]
 have hit:∀i,kas_item (vs.toArray.zip vs.toArray) i=(vs.getD i Value.none,vs.getD i Value.none):=λi=>kat_item rfl i
 generalize hT:vs.toArray.zip vs.toArray=it at *
 have hd':∀i j,i < it.size->j < it.size->kas_item it i=kas_item it j->i=j:=λi j h3 h4 h5=>by
  rw[hit,hit] at h5
  exact hd i j (by omega) (by omega) (congrArg Prod.fst h5)
 have L:jK (model prog w) A E s κ (vQ it key) it:=λst hst x mx y my Q' hQ'=>by
  obtain⟨i,h3,rfl⟩:=pQ mx
  obtain⟨j,h4,rfl⟩:=pQ my
  rw[nz hd' h3,nz hd' h4] at hQ'
  rw[lt'_eq]
  refine Hu (JH ?_)
  rw[hst]
  refine Hu (kasC_lift (wpAny_attempt (IT (hc i j (λb s'=>b=decide (key i < key j)/\s'=s) (by omega) (by omega) ⟨rfl,rfl⟩) (λb s' hb=>?_) λ_ _ hF=>hF.elim)))
  obtain⟨rfl,rfl⟩:=hb
  exact Hw hQ'
 have eit:it.toList=(List.range 64).map (kas_item it):=by
  have:=congrArg Array.toList (kas_range it)
  rw[hsz] at this
  simpa using this.symm
 have nd:(it.toList.map (vQ it key)).Nodup:=by
  rw[eit,Kb]
  refine IZ.mpr (II.mpr λi j h3 h4 hij=>?_)
  rw[J6] at h3 h4
  simp only[List.getElem_range,Function.comp]
  rw[nz hd' (by omega),nz hd' (by omega)]
  intro q
  have:=hi i j (by omega) (by omega) q
  omega
 refine CJ (Q:=λ_ st s'=>Q st s') (K:=vQ it key) L nd hsz λd pd g pm as=>?_
 refine hQ ix _ P1 U1 ?_ rfl
 show d=ix.map (kas_item it)
 refine Array.toList_inj.mp (wK (K:=vQ it key) ?_ as ?_)
 ·rw[Array.toList_map]
  refine (Jm.mp pm).trans ?_
  rw[eit]
  exact ((AD P1).map _).symm
 ·rw[Array.toList_map]
  refine IZ.mpr (II.mpr λi j h3 h4 hij=>?_)
  rw[HW] at h3 h4
  have e1:∀i (h:i < ix.size),ix.getD i 0=ix.toList[i]'(by simpa using h):=λi h=>by simp[Array.getD,h]
  have:=U1 i j hij (by rw[<-P1.sz];exact h4)
  unfold Kp at this
  rw[e1 i h3,e1 j h4] at this
  have b1:=P1.at (k:=i) (by rw[<-P1.sz];exact h3)
  have b2:=P1.at (k:=j) (by rw[<-P1.sz];exact h4)
  rw[e1 i h3] at b1
  rw[e1 j h4] at b2
  rw[nz hd' (by omega),nz hd' (by omega)]
  exact this⟩
def Dy {n:Nat}(h:n<=64):L2.ST.iG n:=by
 rcases J0 h with q |q
 ·exact L2.ST.vc q
 ·rw[q];exact CC
end L2.SO
namespace L2
open PySem PySem.Spec PyProof.Rows
def vi (R:Int->Int->Prop):(OM.bt 8 R).length<=64:=by
 unfold OM.bt
 exact IF (Kc _ _) (by decide)
section
variable {X:Cx}{K:Frag}{Γ:Fx}{E:XK}{a:Expr}{fa:VF D}{La:List Nat}{ma:Md}{pos:Pos}
noncomputable def aZ (d:D):Option D:=match jT d with
 |some ds=>(match cG ds with
  |some ps=>if ps.all CP=true then some (.list ((OM.bt 8 (OM.Mem ps)).map aE)) else none
  |none=>none)
 |none=>none
theorem jF {p1 p2 pos2:Pos}(hc:X.calm=true)(hu:X.A.units + 64 < cLine)(hK:X.K=Γ.K)(hg:Gl X "sorted")(hm:X.mg "sorted"=none)(hg2:Gl X "set")(hm2:X.mg "set"=none)(ha:SE X Γ E a fa La ma)
  (he:starEach [a] X.env=(false,eval a X.env) :: starEach [] X.env:=by rfl)
  (he2:starEach [.Call (.Name "set" p2) [a] [] pos2] X.env=(false,eval (.Call (.Name "set" p2) [a] [] pos2) X.env) :: starEach [] X.env:=by rfl) :
  SE X Γ E (.Call (.Name "sorted" p1) [.Call (.Name "set" p2) [a] [] pos2] [] pos) (f1 fa aZ) La .w:=by
 refine qG (λd r e=>?_) hc hu hK hg hm hg2 hm2 ha he he2
 unfold aZ at e
 cases q:jT d with
 |none=>rw[q] at e;cases e
 |some ds=>
  rw[q] at e
  dsimp only at e
  cases q2:cG ds with
  |none=>rw[q2] at e;cases e
  |some ps=>
   rw[q2] at e
   dsimp only at e
   split at e
   ·rename_i hh
    cases e
    exact⟨ds,ps,rfl,q2,hh,λm hm=>L2.SO.Dy (by have:=vi (OM.Mem ps);omega),rfl⟩
   ·cases e
end
end L2
namespace RM
open PySem L2
noncomputable def bY:SF:=(aF (bF 1 [] (f1 (gv 0) aZ))
 (aF (bF 2 [] (f1 (cst (.int 1)) Ej))
 (aF (fZ ([] ++ []) (dU (f2 (gv 2) (f1 (gv 1) eN) (dO true)))
 (aF (bF 2 [] (f1 (gv 1) eN))
 (aF (bF 3 [] (bW av))
 (aF (gA (.two 4 5) [1] (dJ (gv 1))
 (bF 3 ([] ++ ([] ++ [4])) (f2 (gv 3) (bC 2 [5,4] (.two 0 1) (dJ (gv 1)) (dU (f2 (gv 0) (gv 2) (dO false))) (bV (ae (gv 3) (ae (gv 1) av)))) gF)))
 (bF 1 ([] ++ []) (f1 (f2 (gv 1) (gv 3) gF) aZ))))) 1000)
 (cQ (f1 (gv 1) nS)))))
def cg (marks:Str->Option Str)(cC:List D->FR):SF:=(wa marks (cQ (aO cC (ae (gv 0) (ae (gv 1) av)))))
def di (a9 aw:List D->Int->FB):SF:=(aF (bF 2 ([] ++ []) (nh 0 a9 (ae (f1 (gv 1) gR) av)))
 (aF (bF 3 ([] ++ []) (nh 0 aw (ae (cst (.int 3)) av)))
 (aF (kG 4 [] (bW av))
 (aF (gA (.nm 5) ([] ++ []) (jO (nh 0 aw (ae (cst (.int 10)) av)))
 (aF (qe 6 7 ([1] ++ []) ([1] ++ []) (nh 0 aw (ae (gv 1) av)) (nh 0 aw (ae (gv 1) av)))
 (aF (jI ([] ++ []) (dU (f2 (gv 3) (cst (.int 0)) GB))
 (qe 6 7 ([] ++ []) ([] ++ []) (f2 (gv 6) (gv 7) (rg λi j=>.int (if j < i then j else i))) (f2 (gv 6) (gv 7) (rg λi j=>.int (if j > i then j else i))))
 pj)
 (jI (([] ++ []) ++ ([] ++ [])) (kK (dU (f2 (gv 3) (cst (.int 0)) (dO false))) (dU (f2 (gv 6) (gv 7) (dO true))))
 (rM 4 (([] ++ []) ++ (([] ++ []) ++ [])) (bV (ae (f2 (gv 2) (gv 6) nc) (ae (f2 (gv 2) (gv 7) nc) av))))
 pj))))
 (uf 4)))))
def tT (cK bE bb:List D->FR)(aw bN:List D->Int->FB):SF:=(aF (gA (.nm 1) ([] ++ ([] ++ [])) (jO (f2 (cst (.int 1)) (f2 (f1 (gv 0) eN) (cst (.int 5)) (rg λi j=>.int (if j < i then j else i))) (rg λi j=>.int (if j > i then j else i))))
 (aF (ud 2 ([0] ++ ([1] ++ [])) (pX cK (ae (gv 0) (ae (gv 1) av))))
 (aF (bF 3 ([] ++ ([] ++ [])) (f2 (cst (.int 1)) (nh 2 aw (ae (cst (.int 8)) av)) dh))
 (aF (bF 4 ([3] ++ []) (nh 2 bN (ae (gv 3) av)))
 (aF (bF 5 [] (f1 (gv 4) wL))
 (aF (bF 6 ([3] ++ (([4] ++ []) ++ [])) (bV (ae (gv 3) (ae (aO bE (ae (gv 4) av)) av))))
 (aF (jI ((([] ++ []) ++ []) ++ []) (dU (f2 (bC 2 [] (.two 0 1) (dJ (f2 (gv 6) (cst (.int 1)) nc)) (dU (f2 (gv 0) (gv 1) (dO false))) (gv 0)) (bW av) (dO true)))
 (bF 6 [] (cst (.str "ring")))
 pj)
 (aF (jI ((([3] ++ ([5] ++ [])) ++ []) ++ ([] ++ [])) (kK (dU (f2 (f1 (aO bb (ae (gv 3) (ae (gv 5) av))) lR) (f1 (gv 6) lR) (C1 true))) (dU (f2 (gv 5) (gv 4) (dO true))))
 (cQ (cst (.bool false)))
 pj)
 (aF (bF 7 (([] ++ []) ++ []) (nh 2 aw (ae (f2 (f1 (gv 4) eN) (cst (.int 1)) dh) av)))
 (aF (bF 8 (([] ++ (([] ++ ([3] ++ [])) ++ (([] ++ ([] ++ [])) ++ (([] ++ []) ++ (([] ++ ([] ++ [])) ++ (([] ++ ([] ++ ([] ++ []))) ++ (([] ++ ([] ++ [])) ++ ([] ++ (([] ++ ([] ++ [])) ++ []))))))))) ++ ([] ++ [])) (f2 (bW (ae (cst .none) (ae (bV (ae (cst (.int 0)) (ae (gv 3) av))) (ae (bV (ae (cst (.int (-1))) (ae (cst (.int 0)) av))) (ae (bV (ae (cst (.int 0)) av)) (ae (bW (ae (cst (.int 0)) (ae (cst (.int 0)) av))) (ae (bV (ae (cst (.int 0)) (ae (cst (.int 0)) (ae (cst (.int 0)) av)))) (ae (bV (ae (cst (.bool true)) (ae (cst (.int 0)) av))) (ae (cst (.str "01")) (ae (bV (ae (cst (.int 0)) (ae (cst .none) av))) av)))))))))) (nh 2 aw (ae (cst (.int 9)) av)) nc))
 (aF (gA (.nm 9) ((((([] ++ []) ++ []) ++ ([8] ++ [])) ++ (([] ++ []) ++ [])) ++ ([] ++ ([] ++ ([] ++ ([] ++ []))))) (dJ (bW (ae (f2 (f2 (C8 (gv 4) (λ_ β=>.ok none β) (CV (gv 7))) (bW (ae (gv 8) av)) gF) (C8 (gv 4) (CV (gv 7)) (λ_ β=>.ok none β)) gF) (ae (f1 (gv 4) nS) (ae (cst .none) (ae (cst (.str "")) (ae (cst (.dict [])) av)))))))
 (jI (([3] ++ ([9] ++ [])) ++ []) (dU (f2 (aO bb (ae (gv 3) (ae (gv 9) av))) (cst (.str "pairs")) (dO true)))
 (cQ (cst (.bool false)))
 pj))
 (aF (bF 10 (([] ++ ([] ++ ([] ++ ([] ++ ([] ++ ([] ++ (([] ++ []) ++ ([] ++ [])))))))) ++ ([] ++ [])) (f2 (bW (ae (cst (.int 0)) (ae (cst (.int 9)) (ae (cst (.int (-1))) (ae (cst (.bool true)) (ae (cst .none) (ae (cst (.str "3")) (ae (bV (ae (cst (.int 3)) av)) (ae (f2 (cst (.int 10)) (cst (.int 39)) xI) av))))))))) (nh 2 aw (ae (cst (.int 8)) av)) nc))
 (jI ((([10] ++ ([4] ++ [])) ++ []) ++ (([10] ++ ([] ++ [])) ++ [])) (kK (dU (f2 (aO bb (ae (gv 10) (ae (gv 4) av))) (cst (.str "many")) (dO true))) (dU (f2 (aO bb (ae (gv 10) (ae (cst .none) av))) (cst (.str "many")) (dO true))))
 (cQ (cst (.bool false)))
 pj)))))))))))))
 (cQ (cst (.bool true))))
end RM
namespace RQ
open PySem L2 RM
section
variable {P:Program}{w:World}{K:Frag}{mg:Str->Option Value}{base:Heap}{ca:Str->Addr}
def pM:aI ["thing"] ["thing"] (aq fY):=⟨rfl,rfl,rfl,by decide +kernel,rfl,by decide +kernel,by decide +kernel⟩
def oA {f:Addr}{fd:FuncData}(F:lU K mg "is_whole" fY ["thing"] f fd)(B:l4 mg):ij P w K mg base ca "is_whole" ["thing"] 1 (cq 1 1 (kL)):=
 ⟨⟨f,fd,F.mg,F.F.kp,F.b,bP (N:=["thing"]) (k:=0) F.F pM λcdv A outer s H G E hr=>
  (aG (bS (nP (o5 "int" (by decide) rfl rfl B.isinstance rfl B.int (by decide +kernel) (au 0)) (nQ (C0 (o5 "bool" (by decide) rfl rfl B.isinstance rfl B.bool (by decide +kernel) (au 0)))) (λ_ _=>rfl))))⟩,λds h=>bA ds h⟩
def p6:aI ["thing","bound"] ["thing","bound"] (aq fR):=⟨rfl,rfl,rfl,by decide +kernel,rfl,by decide +kernel,by decide +kernel⟩
def pf {f:Addr}{fd:FuncData}{aW:List D->FR}(F:lU K mg "is_below" fR ["thing","bound"] f fd)(B:l4 mg)(cE:ij P w K mg base ca "is_whole" ["thing"] 1 aW):ij P w K mg base ca "is_below" ["thing","bound"] 2 (cq 2 2 (lq aW)):=
 ⟨⟨f,fd,F.mg,F.F.kp,F.b,bP (N:=["thing","bound"]) (k:=1) F.F p6 λcdv A outer s H G E hr=>
  (aG (bS (nP (bh cE (hr.mono (by decide)) bu rfl rfl (ak (aM 0 rfl) ay)) (nQ (qH yk Bs BW EV aC (au 0) (au 1))) (λ_ _=>rfl))))⟩,λds h=>bA ds h⟩
def sv:aI ["thing"] ["thing"] (aq g8):=⟨rfl,rfl,rfl,by decide +kernel,rfl,by decide +kernel,by decide +kernel⟩
def qu {f:Addr}{fd:FuncData}{aW:List D->FR}(F:lU K mg "is_many" g8 ["thing"] f fd)(B:l4 mg)(cE:ij P w K mg base ca "is_whole" ["thing"] 1 aW){l7:Tok}(eO:mg "MOST_THINGS"=some (.int 8 l7)):ij P w K mg base ca "is_many" ["thing"] 2 (cq 1 1 (mH aW)):=
 ⟨⟨f,fd,F.mg,F.F.kp,F.b,bP (N:=["thing"]) (k:=1) F.F sv λcdv A outer s H G E hr=>
  (aG (bS (nP (bh cE (hr.mono (by decide)) bu rfl rfl (ak (aM 0 rfl) ay)) (nQ (qH yk yk BW BW aC (au 0) (zQ (by rfl) eO))) (λ_ _=>rfl))))⟩,λds h=>bA ds h⟩
def sS:aI ["thing","many"] ["thing","many"] (aq gX):=⟨rfl,rfl,rfl,by decide +kernel,rfl,by decide +kernel,by decide +kernel⟩
def qE {f:Addr}{fd:FuncData}{cc:List D->FR}(F:lU K mg "is_pair" gX ["thing","many"] f fd)(B:l4 mg)(fP:ij P w K mg base ca "is_below" ["thing","bound"] 2 cc):ij P w K mg base ca "is_pair" ["thing","many"] 3 (cq 2 2 (g9 cc)):=
 ⟨⟨f,fd,F.mg,F.F.kp,F.b,bP (N:=["thing","many"]) (k:=2) F.F sS λcdv A outer s H G E hr=>
  (ax (gj (zo.t (qZ (oh (lM rfl (o5 "tuple" (by decide) rfl rfl B.isinstance rfl B.tuple (by decide +kernel) (au 0)))) (kH (bR (fK hr.units) iZ (bD dz kW rfl B.len JP (au 0)) aC (bG _))) (λ_ _=>rfl)))
  (aG (bS mU))
  cY)
  (aG (bS (nP (bh fP (hr.mono (by decide)) bu rfl rfl (ak (iQ fE nK (au 0) aC (λ_ _=>rfl)) (ak (aM 1 rfl) ay))) (nQ (bh fP (hr.mono (by decide)) bu rfl rfl (ak (iQ fE nK (au 0) aC (λ_ _=>rfl)) (ak (aM 1 rfl) ay)))) (λ_ _=>rfl)))))⟩,λds h=>bA ds h⟩
def me:aI ["many"] ["many"] (aq cw):=⟨rfl,rfl,rfl,by decide +kernel,rfl,by decide +kernel,by decide +kernel⟩
def lL {f:Addr}{fd:FuncData}(F:lU K mg "every_pair" cw ["many"] f fd)(B:l4 mg):ij P w K mg base ca "every_pair" ["many"] 1 (cq 1 1 (o6)):=
 ⟨⟨f,fd,F.mg,F.F.kp,F.b,bP (N:=["many"]) (k:=0) F.F me λcdv A outer s H G E hr=>
  (aG (oz (i4 (NB:=["number","many"]) (own:=1) (ixs:=[0]) [] rfl (ll (by kernel_rfl)) (λ_ _=>rfl) (uZ rfl B.range (ba gz ir (au 0) (au 0))) (λH0 G0 par br bx C ex s3 H3 pn=>(mO (i:=0) (show (["number","many"]:List Str).Nodup by decide +kernel))) (λH0 G0 par br bx C ex s3 H3 pn hB1=>pk) (λH0 G0 par br bx C ex s3 H3 pn hB1=>(jk (ak (ba jc zP (au 0) (au 1)) (ak (ba iC mG (au 0) (au 1)) ay)))))))⟩,λds h=>bA ds h⟩
def pF:aI ["pairs"] ["pairs"] (aq fA):=⟨rfl,rfl,rfl,by decide +kernel,rfl,by decide +kernel,by decide +kernel⟩
def oR {f:Addr}{fd:FuncData}(F:lU K mg "has_ring" fA ["pairs"] f fd)(B:l4 mg):ij P w K mg base ca "has_ring" ["pairs"] 1 (cq 1 1 (kz)):=
 ⟨⟨f,fd,F.mg,F.F.kp,F.b,bP (N:=["pairs"]) (k:=0) F.F pF λcdv A outer s H G E hr=>
  (aG (bS (bD (yI rfl) um rfl B.any (by decide +kernel) (i4 (NB:=["a","b"]) (own:=2) (ixs:=[]) [] rfl (ll (by kernel_rfl)) (λ_ _=>rfl) (A3 rfl (au 0)) (λH0 G0 par br bx C ex s3 H3 pn=>(pe (i:=0) (j:=1) (show (["a","b"]:List Str).Nodup by decide +kernel))) (λH0 G0 par br bx C ex s3 H3 pn hB1=>pk) (λH0 G0 par br bx C ex s3 H3 pn hB1=>(CU (kI hr.units) iZ (au 0) (au 1) (bG _)))))))⟩,λds h=>bA ds h⟩
def jJ:aI ["many","pairs","whole"] ["many","pairs"] (aq fG):=⟨rfl,rfl,rfl,by decide +kernel,rfl,by decide +kernel,by decide +kernel⟩
def oq {f:Addr}{fd:FuncData}{dr dq eV cF:List D->FR}(F:lU K mg "order_of" fG ["many","pairs"] f fd)(B:l4 mg)(jr:ij P w K mg base ca "is_many" ["thing"] 2 dr)(ju:ij P w K mg base ca "is_pair" ["thing","many"] 3 dq)(ki:ij P w K mg base ca "closed" ["many","pairs"] 3 eV)(iE:ij P w K mg base ca "has_ring" ["pairs"] 1 cF)(gB:Exc K mg ca "NoMany")(eY:Exc K mg ca "NoPairs")(lz:Exc K mg ca "Ring"):ij P w K mg base ca "order_of" ["many","pairs"] 4 (cq 3 2 (bL dr dq eV cF)):=
 ⟨⟨f,fd,F.mg,F.F.kp,F.b,bP (N:=["many","pairs","whole"]) (k:=3) F.F jJ λcdv A outer s H G E hr=>
  (ax (gj (oh (lM rfl (bh jr (hr.mono (by decide)) bu rfl rfl (ak (aM 0 rfl) ay))))
  (aG (lg gB.ex gB.ca rfl gB.mg (ak fM ay)))
  cY)
  (ax (gj (zo.t (qZ (oh (lM rfl (o5 "list" (by decide) rfl rfl B.isinstance rfl B.list (by decide +kernel) (au 1)))) (kH (oh (lM rfl (bD (yW rfl) um rfl B.all (by decide +kernel) (i4 (NB:=["pair","many"]) (own:=1) (ixs:=[0]) [0] rfl (ll (by kernel_rfl)) (λ_ _=>rfl) (A3 rfl (au 1)) (λH0 G0 par br bx C ex s3 H3 pn=>(mO (i:=0) (show (["pair","many"]:List Str).Nodup by decide +kernel))) (λH0 G0 par br bx C ex s3 H3 pn hB1=>pk) (λH0 G0 par br bx C ex s3 H3 pn hB1=>(bh ju (hr.mono (by decide)) E7 rfl rfl (ak (aM 0 (hB1 0 (by decide))) (ak (aM 1 (hB1 1 (by decide))) ay))))))))) (λ_ _=>rfl)))
  (aG (lg eY.ex eY.ca rfl eY.mg (ak fM ay)))
  cY)
  (ax (aX (i:=2) (bh ki (hr.mono (by decide)) bu rfl rfl (ak (aM 0 rfl) (ak (aM 1 rfl) ay))) jJ.nd)
  (ax (gj (lM rfl (bh iE (hr.mono (by decide)) bu rfl rfl (ak (aM 2 rfl) ay)))
  (aG (lg lz.ex lz.ca rfl lz.mg (ak fM ay)))
  cY)
  (aG (bS (jk (ak (aM 0 rfl) (ak (aM 2 rfl) ay)))))))))⟩,λds h=>bA ds h⟩
def oJ:aI ["script","k"] ["script","k"] (aq dR):=⟨rfl,rfl,rfl,by decide +kernel,rfl,by decide +kernel,by decide +kernel⟩
def l8 {f:Addr}{fd:FuncData}(F:lU K mg "_law_cell" dR ["script","k"] f fd)(B:l4 mg):ij P w K mg base ca "_law_cell" ["script","k"] 1 (cq 2 2 (cU)):=
 ⟨⟨f,fd,F.mg,F.F.kp,F.b,bP (N:=["script","k"]) (k:=0) F.F oJ λcdv A outer s H G E hr=>
  (ax (gj (bR Bs EV (au 1) (bD dz kW rfl B.len JP (au 0)) (bG _))
  (aG (bS (iQ fE nK (au 0) (au 1) (λ_ _=>rfl))))
  cY)
  (aG (bS aC)))⟩,λds h=>bA ds h⟩
def dQ:aI ["cell","k","some","stir"] ["cell","k"] (aq cH):=⟨rfl,rfl,rfl,by decide +kernel,rfl,by decide +kernel,by decide +kernel⟩
def oW:∃(es:List Expr) (p1 p2 p3:Pos),aY cH=.Assign [.Name "some" p1] (.List es p2) p3 :: (aY cH).drop 1/\constsOf es=some [48271,69621,16807,39373,30269,40014,40692,50021,61687,71993,83869,95561,30307]:=⟨_,_,_,_,rfl,by kernel_rfl⟩
def nU {f:Addr}{fd:FuncData}(F:lU K mg "_law_mix" cH ["cell","k"] f fd)(B:l4 mg):ij P w K mg base ca "_law_mix" ["cell","k"] 1 (cq 4 2 (fq)):=by
 obtain⟨es,p1,p2,p3,hb,hes⟩:=oW
 refine⟨⟨f,fd,F.mg,F.F.kp,F.b,bP (N:=["cell","k","some","stir"]) (k:=0) F.F dQ λcdv A outer s H G E hr=>?_⟩,λds h=>bA ds h⟩
 rw[hb]
 exact (ax (aX (i:=2) (SE.wv (df (mE hes))) dQ.nd) (ax (aX (i:=3) (ba ig ik (ba ig ik (ba gz ir (ba ig ik (ba iC mG (au 0) aC) aC) (iQ fE nK (au 2) (ba iC mG (au 1) aC) (λ_ _=>rfl))) (ba gz ir aC (au 1))) (ba gz ir aC (ba jc zP (au 1) aC))) dQ.nd)
  (ax (aX (i:=3) (ba iC mG (au 3) aC) dQ.nd)
  (aG (bS (ba jc zP (ba iC mG (ba ig ik (ba gz ir (au 3) (au 3)) (ba gz ir aC (au 1))) aC) aC))))))
def cS:aI ["script","k","cell","number","j"] ["script","k"] (aq fH):=⟨rfl,rfl,rfl,by decide +kernel,rfl,by decide +kernel,by decide +kernel⟩
def oK {f:Addr}{fd:FuncData}{cm cI:List D->FR}(F:lU K mg "_law_box" fH ["script","k"] f fd)(B:l4 mg)(gW:ij P w K mg base ca "_law_cell" ["script","k"] 1 cm)(iA:ij P w K mg base ca "_law_mix" ["cell","k"] 1 cI):ij P w K mg base ca "_law_box" ["script","k"] 2 (cq 5 2 (fu cm cI)):=
 ⟨⟨f,fd,F.mg,F.F.kp,F.b,bP (N:=["script","k","cell","number","j"]) (k:=1) F.F cS λcdv A outer s H G E hr=>
  (ax (aX (i:=2) (bh gW (hr.mono (by decide)) bu rfl rfl (ak (aM 0 rfl) (ak (aM 1 rfl) ay))) cS.nd)
  (ax (gj (bR (kI hr.units) iZ (ba iC mG (au 2) aC) aC (bG _))
  (aG (oz (df (ak (ba jc zP (bD xp EG rfl B.abs (by decide +kernel) (au 2)) aC) ay))))
  cY)
  (ax (aX (i:=3) aC cS.nd)
  (ax (lr PassesOwn.leaving rfl (uZ rfl B.range aC) (mO (i:=4) cS.nd)
  (aG (aX (i:=3) (ba ig ik (ba gz ir (au 3) aC) (bh iA (hr.mono (by decide)) bu rfl rfl (ak (aM 2 rfl) (ak (aM 4 rfl) ay)))) cS.nd)))
  (aG (oz (df (ak (aM 3 rfl) ay))))))))⟩,λds h=>bA ds h⟩
def iV:aI ["box","many","left","digit"] ["box","many"] (aq dY):=⟨rfl,rfl,rfl,by decide +kernel,rfl,by decide +kernel,by decide +kernel⟩
def l6 {f:Addr}{fd:FuncData}(F:lU K mg "_law_take" dY ["box","many"] f fd)(B:l4 mg):oB P w K mg base "_law_take" ["box","many"] 1 eG:=by
 refine⟨⟨f,fd,F.mg,F.F.kp,F.b,?_⟩,λds β h=>?_⟩
 ·refine F.F.BD iV (λvs H Q E h=>?_) (λcdv A outer s H vs Q E hr h=>?_)
  ·obtain⟨b,rest,G,ds,β,rfl,hb,gb,sG,hl,r,_⟩:=h
   rw[HQ,r.len,hl];rfl
  ·obtain⟨b,rest,G,ds,β,rfl,hb,gb,sG,hl,r,h⟩:=h
   obtain⟨m,rfl,h0,h1⟩:=tV (λz=>by rw[z] at h;exact h)
   rw[oM h0 h1] at h
   have kk:∀v G' H',dG (some b) H H'->H' b=some (.lst [.int (β / m)])->af G G'->af G' H'->(∀c,Mx H c->G c=none->G' c=none)->FV K H G' H' false (.int (β % m)) v->Q v H':=h
   cases r with
   |cons r1 r2=>
    cases r1
    cases r2
    refine⟨_,bq (o8 (aL pS rfl B.divmod (by decide +kernel) (ag (gy cN (pv 0) kR (λ_ _=>rfl)) (ag (pv 1) az))) (zA (i:=2) (j:=3) iV.nd rfl rfl rfl rfl rfl))
     (bq (o8 (pv 2) (rJ (pv 0) kR set_list)) (b6 (eS (pv 3)))),?_⟩
    refine⟨_,rfl,b,_,0,.int β,rfl,rfl,.inl (.inl hb),rfl,_,rfl,β,m,rfl,⟨h0,h1⟩,λp hp=>⟨p,_,rfl,.inl (.inl ah),rfl,_,_,rfl,_,_,rfl,rfl,?_⟩⟩
    have hbp:b≠p:=ar hb hp
    exact⟨_,rfl,_,rfl,b,[.int β],0,0,rfl,rfl,by rw[ao hbp];exact hb,rfl,_,rfl,yT hb sG hp kk gb⟩
 ·obtain⟨m,rfl,_⟩:=tV h
  rfl
def cJ:aI ["box","some","left","found"] ["box","some"] (aq bZ):=⟨rfl,rfl,rfl,by decide +kernel,rfl,by decide +kernel,by decide +kernel⟩
def jb {f:Addr}{fd:FuncData}{aw:List D->Int->FB}(F:lU K mg "_law_mixed_up" bZ ["box","some"] f fd)(B:l4 mg)(aH:oB P w K mg base "_law_take" ["box","many"] 1 aw):oB P w K mg base "_law_mixed_up" ["box","some"] 2 (pV 4 1 (b7 aw)):=
 ⟨⟨f,fd,F.mg,F.F.kp,F.b,p4 (ca:=λ_=>0) (N:=["box","some","left","found"]) (k:=1) F.F cJ (by decide) λcdv A outer s H G b E hr=>
  (ax (og (i:=2) (iS i6 zk rfl B.list (by decide +kernel) (au 1)) cJ.nd)
  (ax (og (i:=3) (df ay) cJ.nd)
  (ax (qk 1000 PassesOwn.leaving (bR (fK hr.units) iZ (au 2) (df ay) (bG _))
  (aG (vn 3 2 (λ_=>rfl) (gP 0 aH (hr.mono (by decide)) bu rfl rfl (ak (bD dz kW rfl B.len JP (au 2)) ay)))))
  (aG (uC 3)))))⟩,λds β h=>qY ds β h⟩
def aN:aI ["pairs","found","size","more","a","b"] ["pairs"] (aq cM):=⟨rfl,rfl,rfl,by decide +kernel,rfl,by decide +kernel,by decide +kernel⟩
def jR {f:Addr}{fd:FuncData}(F:lU K mg "_law_closed" cM ["pairs"] f fd)(B:l4 mg):ij P w K mg base ca "_law_closed" ["pairs"] 1 (cq 6 1 (bY)):=
 ⟨⟨f,fd,F.mg,F.F.kp,F.b,bP (N:=["pairs","found","size","more","a","b"]) (k:=0) F.F aN λcdv A outer s H G E hr=>
  (ax (aX (i:=1) (SE.wv (jF rfl hr.units rfl rfl B.sorted rfl B.set (au 0))) aN.nd)
  (ax (aX (i:=2) (BE yn Bx aC) aN.nd)
  (ax (qk 1000 PassesOwn.leaving (bR (fK hr.units) iZ (au 2) (bD dz kW rfl B.len JP (au 1)) (bG _))
  (ax (aX (i:=2) (bD dz kW rfl B.len JP (au 1)) aN.nd)
  (ax (aX (i:=3) (SE.wv (df ay)) aN.nd)
  (ax (lr PassesOwn.leaving rfl (E2 rfl (aM 1 rfl)) (pe (i:=4) (j:=5) aN.nd)
  (aG (aX (i:=3) (SE.wv (ba jZ uM (au 3) (i4 (NB:=["c","d","b","a"]) (own:=2) (ixs:=[5,4]) [4] rfl (ll (by kernel_rfl)) (λ_ _=>rfl) (A3 rfl (au 1)) (λH0 G0 par br bx C ex s3 H3 pn=>(pe (i:=0) (j:=1) (show (["c","d","b","a"]:List Str).Nodup by decide +kernel))) (λH0 G0 par br bx C ex s3 H3 pn hB1=>(uc (bR (kI hr.units) iZ (au 0) (au 2) (bG _)))) (λH0 G0 par br bx C ex s3 H3 pn hB1=>(jk (ak (aM 3 (hB1 3 (by decide))) (ak (aM 1 (hB1 1 (by decide))) ay))))))) aN.nd)))
  (aG (aX (i:=1) (SE.wv (jF rfl hr.units rfl rfl B.sorted rfl B.set (ba jZ uM (au 1) (au 3)))) aN.nd))))))
  (aG (bS (iS eJ ux rfl B.tuple (by decide +kernel) (au 1)))))))⟩,λds h=>bA ds h⟩
def iR:aI ["many","pairs","e"] ["many","pairs"] (aq eH):=⟨rfl,rfl,rfl,by decide +kernel,rfl,by decide +kernel,by decide +kernel⟩
def lV {f:Addr}{fd:FuncData}{marks:Str->Option Str}{cC:List D->FR}(F:lU K mg "_law_said" eH ["many","pairs"] f fd)(B:l4 mg)(iw:ij P w K mg base ca "order_of" ["many","pairs"] 4 cC)(MK:Aj P w K mg base ca "RankError" "_law_marks" marks):ij P w K mg base ca "_law_said" ["many","pairs"] 5 (cq 3 2 (cg marks cC)):=
 ⟨⟨f,fd,F.mg,F.F.kp,F.b,bP (N:=["many","pairs","e"]) (k:=4) F.F iR λcdv A outer s H G E hr=>
  (aG (AO (i:=2) MK hr (λEb Ex pn H G hpT=>
  (aG (bS (bh iw (hr.mono (by decide)) hpT rfl rfl (ak (aM 0 rfl) (ak (aM 1 rfl) ay))))))
  iR.nd))⟩,λds h=>bA ds h⟩
def bg:aI ["box","many","names","free","found","turn","i","j"] ["box","many"] (aq dk):=⟨rfl,rfl,rfl,by decide +kernel,rfl,by decide +kernel,by decide +kernel⟩
def kS {f:Addr}{fd:FuncData}{a9 aw:List D->Int->FB}(F:lU K mg "_law_drawn" dk ["box","many"] f fd)(B:l4 mg)(cZ:oB P w K mg base "_law_mixed_up" ["box","some"] 2 a9)(aH:oB P w K mg base "_law_take" ["box","many"] 1 aw):oB P w K mg base "_law_drawn" ["box","many"] 3 (pV 8 1 (di a9 aw)):=
 ⟨⟨f,fd,F.mg,F.F.kp,F.b,p4 (ca:=λ_=>0) (N:=["box","many","names","free","found","turn","i","j"]) (k:=2) F.F bg (by decide) λcdv A outer s H G b E hr=>
  (ax (aX (i:=2) (gP 0 cZ (hr.mono (by decide)) bu rfl rfl (ak (SE.wv (tm rfl rfl B.list rfl B.range (au 1))) ay)) bg.nd)
  (ax (aX (i:=3) (gP 0 aH (hr.mono (by decide)) bu rfl rfl (ak aC ay)) bg.nd)
  (ax (og (i:=4) (df ay) bg.nd)
  (ax (lr PassesOwn.leaving rfl (uZ rfl B.range (gP 0 aH (hr.mono (by decide)) bu rfl rfl (ak aC ay))) (mO (i:=5) bg.nd)
  (ax (uU (i:=6) (j:=7) bg.nd (by decide) (gP 0 aH (hr.mono (by decide)) bu rfl rfl (ak (aM 1 rfl) ay)) (gP 0 aH (hr.mono (by decide)) bu rfl rfl (ak (aM 1 rfl) ay)))
  (ax (gj (bR DY Gn (au 3) aC (bG _))
  (aG (uU (i:=6) (j:=7) bg.nd (by decide) (jd (mM rfl) yY rfl B.min (by decide +kernel) (au 6) (au 7)) (jd (nv rfl) yO rfl B.max (by decide +kernel) (au 6) (au 7))))
  cY)
  (aG (gj (zo.t (qZ (bR (kI hr.units) iZ (au 3) aC (bG _)) (kH (bR (fK hr.units) iZ (au 6) (au 7) (bG _))) (λ_ _=>rfl)))
  (aG (vb 4 (λ_=>rfl) (jk (ak (iQ fE nK (au 2) (au 6) (λ_ _=>rfl)) (ak (iQ fE nK (au 2) (au 7) (λ_ _=>rfl)) ay)))))
  cY)))))
  (aG (uC 4))))))⟩,λds β h=>qY ds β h⟩
def de:aI ["script","k","box","many","pairs","handed","due","at","bad","thing","none"] ["script"] (aq ie):=⟨rfl,rfl,rfl,by decide +kernel,rfl,by decide +kernel,by decide +kernel⟩
def AL {f:Addr}{fd:FuncData}{cK bE bb:List D->FR}{aw bN:List D->Int->FB}(F:lU K mg "law" ie ["script"] f fd)(B:l4 mg)(iy:ij P w K mg base ca "_law_box" ["script","k"] 2 cK)(eM:ij P w K mg base ca "_law_closed" ["pairs"] 1 bE)(cj:ij P w K mg base ca "_law_said" ["many","pairs"] 5 bb)(aH:oB P w K mg base "_law_take" ["box","many"] 1 aw)(fC:oB P w K mg base "_law_drawn" ["box","many"] 3 bN):cP P w K mg base (i7 P w) 6 f fd ["script"] (zq K ca 1 (cq 11 1 (tT cK bE bb aw bN))):=
 bP (N:=["script","k","box","many","pairs","handed","due","at","bad","thing","none"]) (k:=5) F.F de λcdv A outer s H G E hr=>
  (ax (lr PassesOwn.leaving rfl (uZ rfl B.range (jd (nv rfl) yO rfl B.max (by decide +kernel) aC (jd (mM rfl) yY rfl B.min (by decide +kernel) (bD dz kW rfl B.len JP (au 0)) aC))) (mO (i:=1) de.nd)
  (ax (zz (i:=2) rfl (yj iy (hr.mono (by decide)) bu rfl rfl (ak (aM 0 rfl) (ak (aM 1 rfl) ay))) de.nd)
  (ax (aX (i:=3) (ba ig ik aC (gP 2 aH (hr.mono (by decide)) bu rfl rfl (ak aC ay))) de.nd)
  (ax (aX (i:=4) (gP 2 fC (hr.mono (by decide)) bu rfl rfl (ak (aM 3 rfl) ay)) de.nd)
  (ax (aX (i:=5) (SE.wv (iS i6 zk rfl B.list (by decide +kernel) (au 4))) de.nd)
  (ax (aX (i:=6) (jk (ak (aM 3 rfl) (ak (bh eM (hr.mono (by decide)) bu rfl rfl (ak (aM 4 rfl) ay)) ay))) de.nd)
  (ax (gj (bR (fK hr.units) iZ (i4 (NB:=["a","b"]) (own:=2) (ixs:=[]) [] rfl (ll (by kernel_rfl)) (λ_ _=>rfl) (A3 rfl (iQ fE nK (au 6) aC (λ_ _=>rfl))) (λH0 G0 par br bx C ex s3 H3 pn=>(pe (i:=0) (j:=1) (show (["a","b"]:List Str).Nodup by decide +kernel))) (λH0 G0 par br bx C ex s3 H3 pn hB1=>(uc (bR (kI hr.units) iZ (au 0) (au 1) (bG _)))) (λH0 G0 par br bx C ex s3 H3 pn hB1=>(aM 0 (hB1 0 (by decide))))) (df ay) (bG _))
  (aG (aX (i:=6) fM de.nd))
  cY)
  (ax (gj (zo.t (qZ (bR BC EE (bD (lO hr.gd hr.u1) uA rfl B.repr (by decide +kernel) (bh cj (hr.mono (by decide)) bu rfl rfl (ak (aM 3 rfl) (ak (aM 5 rfl) ay)))) (bD (lO hr.gd hr.u1) uA rfl B.repr (by decide +kernel) (au 6)) (bG _)) (kH (bR (fK hr.units) iZ (au 5) (au 4) (bG _))) (λ_ _=>rfl)))
  (aG (bS mU))
  cY)
  (ax (aX (i:=7) (gP 2 aH (hr.mono (by decide)) bu rfl rfl (ak (ba ig ik (bD dz kW rfl B.len JP (au 4)) aC) ay)) de.nd)
  (ax (aX (i:=8) (iQ fE nK (@Bq _ _ _ _ (ae (cst .none) (ae (bV (ae (cst (.int 0)) (ae (gv 3) av))) (ae (bV (ae (cst (.int (-1))) (ae (cst (.int 0)) av))) (ae (bV (ae (cst (.int 0)) av)) (ae (bW (ae (cst (.int 0)) (ae (cst (.int 0)) av))) (ae (bV (ae (cst (.int 0)) (ae (cst (.int 0)) (ae (cst (.int 0)) av)))) (ae (bV (ae (cst (.bool true)) (ae (cst (.int 0)) av))) (ae (cst (.str "01")) (ae (bV (ae (cst (.int 0)) (ae (cst .none) av))) av))))))))) ([] ++ (([] ++ ([3] ++ [])) ++ (([] ++ ([] ++ [])) ++ (([] ++ []) ++ (([] ++ ([] ++ [])) ++ (([] ++ ([] ++ ([] ++ []))) ++ (([] ++ ([] ++ [])) ++ ([] ++ (([] ++ ([] ++ [])) ++ []))))))))) _ [("many",3)] (by kernel_rfl) (λ_=>rfl) (by kernel_rfl)) (gP 2 aH (hr.mono (by decide)) bu rfl rfl (ak aC ay)) (λ_ _=>rfl)) de.nd)
  (ax (lr PassesOwn.leaving rfl (E2 rfl (SE.wv (df (ak (SE.wv (ba jZ uM (ba jZ uM (pJ rfl (au 4) ue (u4 (au 7))) (df (ak (aM 8 rfl) ay))) (pJ rfl (au 4) (u4 (au 7)) ue))) (ak (iS eJ ux rfl B.tuple (by decide +kernel) (au 4)) (ak rL (ak fM (ak AF ay)))))))) (mO (i:=9) de.nd)
  (aG (gj (bR (fK hr.units) iZ (bh cj (hr.mono (by decide)) bu rfl rfl (ak (aM 3 rfl) (ak (aM 9 rfl) ay))) fM (bG _))
  (aG (bS mU))
  cY)))
  (ax (aX (i:=10) (iQ fE nK (@Bq _ _ _ _ (ae (cst (.int 0)) (ae (cst (.int 9)) (ae (cst (.int (-1))) (ae (cst (.bool true)) (ae (cst .none) (ae (cst (.str "3")) (ae (bV (ae (cst (.int 3)) av)) (ae (f2 (cst (.int 10)) (cst (.int 39)) xI) av)))))))) ([] ++ ([] ++ ([] ++ ([] ++ ([] ++ ([] ++ (([] ++ []) ++ ([] ++ [])))))))) _ [] (by kernel_rfl) (λ_=>rfl) (by kernel_rfl)) (gP 2 aH (hr.mono (by decide)) bu rfl rfl (ak aC ay)) (λ_ _=>rfl)) de.nd)
  (aG (gj (zo.t (qZ (bR (fK hr.units) iZ (bh cj (hr.mono (by decide)) bu rfl rfl (ak (aM 10 rfl) (ak (aM 4 rfl) ay))) fM (bG _)) (kH (bR (fK hr.units) iZ (bh cj (hr.mono (by decide)) bu rfl rfl (ak (aM 10 rfl) (ak rL ay))) fM (bG _))) (λ_ _=>rfl)))
  (aG (bS mU))
  cY))))))))))))))
  (aG (bS mU)))
end
end RQ
namespace RM
open PySem L2
def eQ {t:VF Bool}{vs:List Nv}{β:Int}{a:Bool}(h:t vs β=.ok a β):BH t vs β=.ok (!a) β:=by rw[Dq,h];rfl
def zL:D->Bool
 | .tuple _=>true
 |_=>false
theorem Am {d:D}(h:zL d=true):∃ds,d=.tuple ds:=by
 cases d with
 |tuple ds=>exact⟨ds,rfl⟩
 |_=>cases h
def xX {d:D}(h:bK d=false):gu "tuple" d=some (.bool (zL d)):=by
 unfold gu;rw[h];cases d <;> rfl
section
variable {fa fb:VF D}{vs:List Nv}{β:Int}
def DM {d:D}(ha:fa vs β=.ok d β)(h:bK d=false):zp (f1 fa (gu "tuple")) vs β=.ok (zL d) β:=jN (dS ha (xX h))
def Al {l:List D}{f:D->Bool}(h:fa vs β=.ok (.list (l.map λq=>PyData.bool (f q))) β):f1 fa (fw λbs=>bs.all id) vs β=.ok (.bool (l.all f)) β:=by
 refine dS h ?_
 simp only[fw]
 rw[jy]
 simp[List.all_map]
def E5 {ds:List D}(ha:fa vs β=.ok (.tuple ds) β):f1 fa eN vs β=.ok (.int ds.length) β:=dS ha rfl
def CK {ds:List D}{k:Int}(ha:fa vs β=.ok (.tuple ds) β):dU (f2 (f1 fa eN) (cst (.int k)) (dO true)) vs β=.ok (!decide ((ds.length:Int)=k)) β:=gc (neg:=true) (E5 ha) rfl
def yu {t u:VF Bool}(h:t vs β=.ok true β):kK t u vs β=.ok true β:=by rw[ub,h];rfl
def lx {t u:VF Bool}{c:Bool}(h:t vs β=.ok false β)(h':u vs β=.ok c β):kK t u vs β=.ok c β:=by rw[ub,h];exact h'
end
def Sq (c k:Nat)(d:D):Prop:=d.showable=true/\d.depth<=k/\d.shown.length<=c
def Sq.mono {c k c' k':Nat}{d:D}(h:Sq c k d)(h1:c<=c')(h2:k<=k'):Sq c' k' d:=⟨h.1,IF h.2.1 h2,IF h.2.2 h1⟩
theorem yE {c k:Nat}:∀{ds:List D},(∀d,d∈ds->Sq c k d)->PyData.showableAll ds=true/\PyData.depthAll ds<=k/\(∀t,t∈PyData.shownAll ds->t.length<=c)/\(PyData.shownAll ds).length=ds.length
 | [],_=>⟨by simp[PyData.showableAll],by simp[PyData.depthAll],λt h=>by simp[PyData.shownAll] at h,by simp[PyData.shownAll]⟩
 |d :: ds,h=>by
  obtain⟨h1,h2,h3,h4⟩:=yE λx hx=>h x (Hz _ hx)
  obtain⟨q1,q2,q3⟩:=h d (HC ..)
  refine⟨?_,?_,λt ht=>?_,?_⟩
  ·rw[PyData.showableAll,q1,h1];rfl
  ·rw[PyData.depthAll];omega
  ·rw[PyData.shownAll] at ht
   rcases HA.mp ht with rfl |ht
   ·exact q3
   ·exact h3 t ht
  ·rw[PyData.shownAll,HQ,HQ,h4]
theorem qA {c:Nat}:∀{ts:List Str},(∀t,t∈ts->t.length<=c)->(Str.join ", " ts).length<=(c + 2) * ts.length
 | [],_=>by show (Str.join ", " []).length<=_;exact Ij _
 | [x],h=>by
  have:=h x (HC ..)
  show x.length<=(c + 2) * 1
  omega
 |x :: y :: r,h=>by
  have ih:=qA (ts:=y :: r) λt ht=>h t (Hz _ ht)
  have:=h x (HC ..)
  show (x ++ ", " ++ Str.join ", " (y :: r)).length<=_
  rw[strLen_append,strLen_append]
  have e2:((", ":String):Str).length=2:=rfl
  rw[e2]
  have e:(c + 2) * (x :: y :: r).length=(c + 2) * (y :: r).length + (c + 2):=by rw[HQ,Nat.mul_succ]
  omega
def oZ {c k:Nat}{ds:List D}(h:∀d,d∈ds->Sq c k d):Sq (3 + (c + 2) * ds.length) (k + 1) (.tuple ds):=by
 obtain⟨h1,h2,h3,h4⟩:=yE h
 refine⟨by rw[PyData.showable];exact h1,by rw[PyData.depth];omega,?_⟩
 rw[PyData.shown]
 unfold tupleText
 rw[strLen_append,strLen_append]
 have j:=qA h3
 rw[h4] at j
 have e1:((("(":String):Str)).length=1:=rfl
 have e3:((if (PyData.shownAll ds).length == 1 then ",)" else ")":String):Str).length<=2:=by split <;> exact by decide
 rw[e1]
 omega
def Bf (d:D):Prop:=xY d=true
theorem x8:∀{ds:List D},(∀d,d∈ds->Bf d)->sL ds=true
 | [],_=>rfl
 |d :: ds,h=>by
  have h1:=x8 λx hx=>h x (Hz _ hx)
  have q1:xY d=true:=h d (HC ..)
  rw[sL,q1,h1];rfl
def sE {ds:List D}(h:∀d,d∈ds->Bf d):Bf (.tuple ds):=by show xY (.tuple ds)=true;rw[xY];exact x8 h
def DS {c k:Nat}{d:D}(h:Sq c k d)(hc:c<=100000)(hk:k<=64)(hf:Bf d):ze d=true:=by
 unfold ze
 have h1:d.depth<=64:=IF h.2.1 hk
 have h2:d.shown.length<=sizeLine:=IF (IF h.2.2 hc) (by rw[Ik];omega)
 rw[h.1,HB h1,HB h2]
 have b:xY d=true:=hf
 rw[b,Bool.or_true];rfl
def Gp:List Int:=[-1,0,1,2,3,4,5,6,7,8,9]
def yx:∀i∈Gp,(int i).showable=true/\(int i).shown.length<=20:=by decide +kernel
def u9 {i:Int}(h: -1<=i/\i<=9):i∈Gp:=by
 simp only[Gp,HA,JQ,or_false]
 omega
def zI (d:D):Prop:=d=.none\/(∃b,d=.bool b)\/∃i:Int,d=.int i/\ -1<=i/\i<=9
def zI.sq {d:D}(h:zI d):Sq 20 0 d:=by
 rcases h with rfl | ⟨b,rfl⟩ | ⟨i,rfl,h⟩
 ·exact⟨by simp[PyData.showable],by simp[PyData.depth],by rw[PyData.shown];decide⟩
 ·exact⟨by simp[PyData.showable],by simp[PyData.depth],by rw[PyData.shown];cases b <;> decide⟩
 ·exact⟨(yx i (u9 h)).1,by simp[PyData.depth],(yx i (u9 h)).2⟩
def zI.bf {d:D}(h:zI d):Bf d:=by
 rcases h with rfl | ⟨b,rfl⟩ | ⟨i,rfl,h⟩ <;> exact by simp[Bf,xY]
def zI.scr {d:D}(h:zI d):bK d=false:=by
 rcases h with rfl | ⟨b,rfl⟩ | ⟨i,rfl,h⟩ <;> rfl
section
variable {vs:List Nv}{β β1 β2:Int}{fa:VF D}{fr:VF (List D)}{d:D}{ds:List D}
def ac {fa:VF D}{fr:VF (List D)}(h:fa vs β=.ok d β)(h':fr vs β=.ok ds β):ae fa fr vs β=.ok (d :: ds) β:=by rw[e8,h];dsimp only[R.bnd];rw[h']
def an:av vs β=.ok [] β:=rfl
def tp (h:fr vs β=.ok ds β)(hz:ds.length<=1000:=by simp):bV fr vs β=.ok (.tuple ds) β:=nE h hz
def lp (h:fr vs β=.ok ds β)(hz:ds.length<=1000:=by simp):bW fr vs β=.ok (.list ds) β:=dN h hz
def ck (d:D):cst d vs β=.ok d β:=rfl
end
def DP {vs:List Nv}{β:Int}:f2 (cst (.int 10)) (cst (.int 39)) xI vs β=.ok (.int 1000000000000000000000000000000000000000) β:=aK (x:=.int 10) (y:=.int 39) rfl rfl (by rfl)
def dZ {P:D->Prop}{x y:D}(hx:P x)(hy:P y):∀d,d∈ [x,y]->P d:=λd hd=>by
 rcases HA.mp hd with rfl |hd
 ·exact hx
 ·rw[IC] at hd;subst hd;exact hy
def hW {i:Int}(h: -1<=i/\i<=9):zI (.int i):=.inr (.inr ⟨i,rfl,h⟩)
def xo {d:D}(h:bK d=false):gu "list" d=some (.bool (match d with | .list _=>true |_=>false)):=by
 unfold gu;rw[h];cases d <;> rfl
def CW:D->Bool
 | .list _=>true
 |_=>false
theorem AW {d:D}(h:CW d=true):∃ds,d=.list ds:=by
 cases d with
 |list ds=>exact⟨ds,rfl⟩
 |_=>cases h
def BG {fa:VF D}{vs:List Nv}{β:Int}{d:D}(ha:fa vs β=.ok d β)(h:bK d=false):f1 fa (gu "list") vs β=.ok (.bool (CW d)) β:=dS ha (by rw[xo h];cases d <;> rfl)
def fQ:List Str:=["order","many","pairs","ring","thing","row","rows","number","chain","turns","points","text"]
def rY (tbl:List (Str×Nat))(c:Str):Option Str:=(tbl.lookup c).map λj=>fQ.getD j ""
def Ge (e:D):Prop:=bK e=false/\∀es,e=.tuple es->es.length<=100/\∀x,x∈es->bK x=false
def yQ (n:Int):D->Bool
 | .tuple [x,y]=>cu x n && cu y n
 |_=>false
def Ei {n:Int}{d:D}(h:yQ n d=true):∃p:Pr,d=aE p/\(0<=p.1/\p.1 < n)/\(0<=p.2/\p.2 < n):=by
 unfold yQ at h
 split at h
 ·rename_i x y
  rw[Ir] at h
  cases x with
  |int a=>
   cases y with
   |int b=>exact⟨(a,b),rfl,Je h.1,Je h.2⟩
   |_=>cases h.2
  |_=>cases h.1
 ·cases h
def DG:List D->FR:=cq 2 2 (g9 gN)
theorem r6 {es:List D}:(decide ((es.length:Int)=2)=false/\∀n,yQ n (.tuple es)=false)\/∃x y,es= [x,y]:=by
 match es with
 | []=>exact .inl ⟨rfl,λ_=>rfl⟩
 | [_]=>exact .inl ⟨rfl,λ_=>rfl⟩
 | [x,y]=>exact .inr ⟨x,y,rfl⟩
 |_ :: _ :: _ :: _=>exact .inl ⟨HN (by simp;omega),λ_=>rfl⟩
theorem Gx {d:D}{n:Int}(h:Ge d):DG [d,.int n]=.ok (.bool (yQ n d)) false:=by
 show fin (g9 gN [.fz d,.fz (.int n)] 0)=_
 unfold g9
 have g0:gv 0 (vl [.fz d,.fz (.int n)]) 0=.ok d 0:=rfl
 have t1:=DM g0 h.1
 cases hy:zL d with
 |false=>
  rw[hy] at t1
  rw[j9 (d:=.bool false) (b:=false) (β':=0) ?a]
  ·cases d <;> first |rfl |cases hy
  case a=>rw[kg (yu (eQ t1))];rfl
 |true=>
  obtain⟨es,rfl⟩:=Am hy
  rw[hy] at t1
  have t2:=CK (k:=2) g0
  rcases r6 (es:=es) with⟨q,z⟩ | ⟨x,y,rfl⟩
  ·rw[q] at t2
   rw[z n,j9 (d:=.bool false) (b:=false) (β':=0) (by rw[kg (lx (eQ t1) t2)];rfl)];rfl
  ·rw[aR (env':=[.fz (.tuple [x,y]),.fz (.int n)]) (β':=0) (by rw[ny (lx (eQ t1) t2)];rfl)]
   have hx:=(h.2 _ rfl).2 x (HC ..)
   have hy':=(h.2 _ rfl).2 y (Hz _ (HC ..))
   have e1:aO gN (ae (f2 (gv 0) (cst (.int 0)) nc) (ae (gv 1) av)) (vl [.fz (.tuple [x,y]),.fz (.int n)]) 0=.ok (.bool (cu x n)) 0:=aV (ds:=[x,.int n]) rfl (nW hx)
   have e2:aO gN (ae (f2 (gv 0) (cst (.int 1)) nc) (ae (gv 1) av)) (vl [.fz (.tuple [x,y]),.fz (.int n)]) 0=.ok (.bool (cu y n)) 0:=aV (ds:=[y,.int n]) rfl (nW hy')
   rw[oI,zU e1 e2];rfl
def Sp (p:Pr):Prop:=(0<=p.1/\p.1<=8)/\(0<=p.2/\p.2<=8)
def El (e:D):Prop:=Ge e/\Sq 100 8 e/\Bf e
def xk {es:List D}(hl:es.length<=100)(h:∀x,x∈es->bK x=false):Ge (.tuple es):=⟨rfl,λes' e=>by cases e;exact⟨hl,h⟩⟩
def CH {es:List D}(hl:es.length<=3)(h:∀x,x∈es->zI x):El (.tuple es):=by
 refine⟨xk (by omega) λx hx=>(h x hx).scr,(oZ (c:=20) (k:=0) λd hd=>(h d hd).sq).mono ?_ (by omega),sE λd hd=>(h d hd).bf⟩
 omega
def Ea {p:Pr}(h:Sp p):El (aE p):=CH (es:=[.int p.1,.int p.2]) (by simp) (dZ (hW (by have:=h.1;omega)) (hW (by have:=h.2;omega)))
def zF {fa fb:VF D}{vs:List Nv}{β:Int}{ds:List D}{i:Nat}(ha:fa vs β=.ok (.list ds) β)(hb:fb vs β=.ok (.int ((i:Nat):Int)) β):C8 fa (CV fb) (λ_ β=>.ok none β) vs β=.ok (.list (ds.drop i)) β:=by
 unfold C8 CV
 rw[ha];dsimp only[R.bnd]
 rw[hb];dsimp only[R.bnd]
 congr 2
 unfold cutD
 rw[HT.qN,HT.uH]
 by_cases h:i<=ds.length
 ·rw[Nat.min_eq_left h];exact IW (by rw[List.length_drop];omega)
 ·rw[Nat.min_eq_right (by omega),List.drop_length,List.drop_of_length_le (by omega)];simp
def xi {fa fb:VF D}{vs:List Nv}{β:Int}{ds:List D}{i:Nat}(ha:fa vs β=.ok (.list ds) β)(hb:fb vs β=.ok (.int ((i:Nat):Int)) β):C8 fa (λ_ β=>.ok none β) (CV fb) vs β=.ok (.list (ds.take i)) β:=by
 unfold C8 CV
 rw[ha];dsimp only[R.bnd]
 rw[hb];dsimp only[R.bnd]
 congr 2
 unfold cutD
 rw[HT.qN,HT.uH]
 by_cases h:i<=ds.length
 ·rw[Nat.min_eq_left h];rfl
 ·rw[Nat.min_eq_right (by omega),IW (show ds.length<=i by omega)];simp
def Gt (d:D):Prop:=bK d=false/\∀ds,d=.list ds->ds.length<=100/\∀e,e∈ds->Ge e
structure WP (r:SO)(Q:SO->Prop):Prop where
 out:Q r
section
variable {m m' m1 m2:SF}{env env1:En}{β β1 β2 z:Int}{Q:SO->Prop}{f fa fb:VF D}{t:VF Bool}{d e:D}{L La Lb:List Nat}{i j:Nat}{c:Bool}
def wp_at (env1:En)(e:env=env1)(k:WP (m env1 β) Q):WP (m env β) Q:=by rw[e];exact k
def wp_seq (h:m env β=.nx env1 β1)(k:WP (m' env1 β1) Q):WP (aF m m' env β) Q:=by rw[aR h];exact k
theorem o7 (h:WP (aF m pj env β) Q):WP (m env β) Q:=by
 obtain⟨h⟩:=h
 unfold aF at h
 cases e:m env β with
 |_=>rw[e] at h;exact⟨h⟩
def mQ (q:Q (.nx env β)):WP (pj env β) Q:=⟨q⟩
def dw (h:f (vl env) β=.ok d β1)(k:WP (m' ((aJ L env).set i (.fz d)) β1) Q):WP (aF (bF i L f) m' env β) Q:=wp_seq (by unfold bF;rw[h];rfl) k
def Au (h:f (vl env) β=.ok d β1)(k:WP (m' ((aJ L env).set i (.ow d)) β1) Q):WP (aF (kG i L f) m' env β) Q:=wp_seq (by unfold kG;rw[h];rfl) k
def An (h:f (vl env) β=.ok (.list [.int z]) β1)(k:WP (m' ((l9 (aJ L env)).set i .bx) z) Q):WP (aF (ud i L f) m' env β) Q:=wp_seq (by unfold ud;rw[h];rfl) k
def xb (h:fa (vl env) β=.ok d β1)(h':fb (vl env) β1=.ok e β2)(k:WP (m' (((aJ (La ++ Lb) env).set i (.fz d)).set j (.fz e)) β2) Q):WP (aF (qe i j La Lb fa fb) m' env β) Q:=wp_seq (by unfold qe;rw[h];dsimp only[toS];rw[h']) k
def CB {ds:List D}(hi:env[i]? =some (.ow (.list ds)))(h:f (vl env) β=.ok d β1)(hL:(aJ L env)[i]? =some (.ow (.list ds)))(hz:ds.length<=1000)(k:WP (m' ((aJ L env).set i (.ow (.list (ds ++ [d])))) β1) Q):WP (aF (rM i L f) m' env β) Q:=wp_seq (AK hi h hL hz) k
def fU (h:t (vl env) β=.ok false β1)(k:WP (m' (aJ L env) β1) Q):WP (aF (jI L t m1 pj) m' env β) Q:=wp_seq (by rw[ny h];rfl) k
def iJ (h:t (vl env) β=.ok true β1)(k:WP (aF m1 m' (aJ L env) β1) Q):WP (aF (jI L t m1 m2) m' env β) Q:=by
 have:aF (jI L t m1 m2) m' env β=aF m1 m' (aJ L env) β1:=by unfold aF;rw[kg h]
 rw[this];exact k
def FU (h:t (vl env) β=.ok true β1)(k:WP (m1 (aJ L env) β1) Q):WP (jI L t m1 m2 env β) Q:=by rw[kg h];exact k
def FC (h:t (vl env) β=.ok false β1)(k:WP (m2 (aJ L env) β1) Q):WP (jI L t m1 m2 env β) Q:=by rw[ny h];exact k
def yF (h:f (vl env) β=.ok d β1)(q:Q (.rt d false β1)):WP (cQ f env β) Q:=⟨by unfold cQ;rw[h];exact q⟩
def oH {R:FR}(h:WP (m env β) λr=>fin r=R):fin (m env β)=R:=h.out
def sI {t:Tg}{fi:VF (List D)}{ds:List D}(I:Nat->En->Int->Prop)(hi:fi (vl env) β=.ok ds β1)(h0:I 0 (aJ L env) β1)
  (hs:∀i d env β,ds[i]? =some d->I i env β->∃env1,dF t d env=some env1/\WP (m env1 β) λr=>∃env2 β2,r=.nx env2 β2/\I (i + 1) env2 β2)
  (k:∀env β,I ds.length env β->WP (m' env β) Q):WP (aF (gA t L fi m) m' env β) Q:=by
 obtain⟨env',β',e,h⟩:=jf (t:=t) (m:=m) I (ds:=ds) (k:=0) h0 λi d env β hd h=>by
  rw[IJ] at h
  obtain⟨env1,e1,⟨env2,β2,e2,h2⟩⟩:=hs i d env β hd h
  exact⟨env1,e1,env2,β2,e2,by rw[IJ];exact h2⟩
 rw[IJ] at h
 exact wp_seq ((yz hi).trans e) (k _ _ h)
end
def xH (c:Int)(hc:0<=c/\c<=100)(ns:List Int)(vs:List Nv)(β:Int)(h:gv 0 vs β=.ok (bz ns) β):∃m:Nat,m<=101/\jO (f2 (cst (.int 1)) (f2 (f1 (gv 0) eN) (cst (.int c)) (rg λi j=>.int (if j < i then j else i))) (rg λi j=>.int (if j > i then j else i))) vs β=.ok (dv 0 m) β:=by
 have e1:f2 (cst (.int 1)) (f2 (f1 (gv 0) eN) (cst (.int c)) (rg λi j=>.int (if j < i then j else i))) (rg λi j=>.int (if j > i then j else i)) vs β=.ok (.int (if (if c < ((ns.map int).length:Int) then c else ((ns.map int).length:Int)) > 1 then (if c < ((ns.map int).length:Int) then c else ((ns.map int).length:Int)) else 1)) β:=
  aK (x:=.int 1) rfl (aK (x:=.int (ns.map int).length) (y:=.int c) (dS h rfl) rfl rfl) rfl
 generalize ((ns.map int).length:Nat)=k at e1
 refine⟨(if (if c < (k:Int) then c else (k:Int)) > 1 then (if c < (k:Int) then c else (k:Int)) else 1).toNat,?_,pK (e1.trans ?_) ?_⟩
 ·split <;> split <;> omega
 ·congr 2
  split <;> split <;> omega
 ·split <;> split <;> omega
def nR {ds:List D}{k:Nat}(h:k < ds.length):∃d,ds[k]? =some d/\d∈ds/\ji ds (k:Int)=some d:=⟨ds[k],Hq h,Jc h,oX (Hq h)⟩
def BI {fa fb:VF D}{vs:List Nv}{β β1 β2:Int}{a b:List D}(h1:fa vs β=.ok (.list a) β1)(h2:fb vs β1=.ok (.list b) β2)(hz:a.length + b.length<=1000):f2 fa fb gF vs β=.ok (.list (a ++ b)) β2:=aK h1 h2 (oU (by omega))
def Hd {fa:VF D}{vs:List Nv}{β:Int}{i:Nat}(h:fa vs β=.ok (.int (i:Nat)) β):f2 fa (cst (.int 1)) dh vs β=.ok (.int ((i + 1:Nat):Int)) β:=aK h rfl (by show some (int ((i:Int) + 1))=_;rw[show ((i + 1:Nat):Int)=(i:Int) + 1 by omega])
section
variable {m m' m1 m2:SF}{env env1:En}{β β1 β2 z:Int}{Q:SO->Prop}{f fa fb:VF D}{t:VF Bool}{d e:D}{L La Lb:List Nat}{i j:Nat}{c:Bool}
theorem C5 (J:En->Int->Prop)(h:∃c β1,t (vl env) β=.ok c β1/\(c=true->WP (m1 (aJ L env) β1) λs=>∃env2 β2,s=.nx env2 β2/\J env2 β2)/\(c=false->WP (m2 (aJ L env) β1) λs=>∃env2 β2,s=.nx env2 β2/\J env2 β2))(k:∀env β,J env β->WP (m' env β) Q):WP (aF (jI L t m1 m2) m' env β) Q:=by
 obtain⟨c,β1,e,h1,h2⟩:=h
 cases c with
 |true=>obtain⟨env2,β2,e2,hj⟩:=(h1 rfl).out;exact wp_seq ((kg e).trans e2) (k _ _ hj)
 |false=>obtain⟨env2,β2,e2,hj⟩:=(h2 rfl).out;exact wp_seq ((ny e).trans e2) (k _ _ hj)
end
def i3 {n:Nat}{l:List Pr}{d:D}(h8:n<=8)(w:OM.Wn n l)(hd:jT d=some (l.map aE)):aZ d=some (.list ((OM.bt n (OM.Mem l)).map aE)):=by
 unfold aZ
 rw[hd]
 simp only[dA]
 rw[D1 h8 w,Hs (BU h8 w)]
noncomputable def lu:List D->FR:=cq 6 1 bY
def DU {n:Nat}{ps:List Pr}(h8:n<=8)(w:OM.Wn n ps){d:D}(hd:jT d=some (ps.map aE)):lu [d]=.ok (.tuple ((OM.bt n (OM.Tr (OM.Mem ps))).map aE)) false:=by
 have blen:∀{l:List Pr},OM.Be n ps l->l.length<=64:=λ{l} B=>by
  have:=OM.dc (l:=l) (m:=OM.dH n) (OM.gY B.ris) λx hx=>OM.iK.mpr (B.wn x hx)
  have hg:(OM.dH n).length=n * n:=by unfold OM.dH;simp
  have hn:n * n<=64:=Kv h8 h8
  omega
 show fin (bY [.fz d,.no,.no,.no,.no,.no] 0)=_
 unfold bY
 have B0:=OM.va (ps:=ps) w
 have e0:f1 (gv 0) aZ [.da d,.no,.no,.no,.no,.no] 0=.ok (.list ((OM.bt n (OM.Mem ps)).map aE)) 0:=dS rfl (i3 h8 w hd)
 rw[aR (env':=[.fz d,.fz (.list ((OM.bt n (OM.Mem ps)).map aE)),.no,.no,.no,.no]) (β':=0) ?h0]
 case h0=>
  show toS (f1 (gv 0) aZ [.da d,.no,.no,.no,.no,.no] 0) _=_
  rw[e0];rfl
 rw[aR (env':=[.fz d,.fz (.list ((OM.bt n (OM.Mem ps)).map aE)),.fz (.int (-1)),.no,.no,.no]) (β':=0) (by rfl)]
 obtain⟨env',β',ew,rfl,x,sz,a,b,rfl⟩:=iu (L:=[] ++ []) (t:=dU (f2 (gv 2) (f1 (gv 1) eN) (dO true)))
  (m:=aF (bF 2 [] (f1 (gv 1) eN)) (aF (bF 3 [] (bW av)) (aF (gA (.two 4 5) [1] (dJ (gv 1)) (bF 3 ([] ++ ([] ++ [4])) (f2 (gv 3) (bC 2 [5,4] (.two 0 1) (dJ (gv 1)) (dU (f2 (gv 0) (gv 2) (dO false))) (bV (ae (gv 3) (ae (gv 1) av)))) gF))) (bF 1 ([] ++ []) (f1 (f2 (gv 1) (gv 3) gF) aZ)))))
  (λk env β=>β=0/\∃(l:List Pr) (sz:Int) (x a b:Sl),env= [.fz d,.fz (.list (l.map aE)),.fz (.int sz),x,a,b]/\OM.Be n ps l/\(sz= -1\/∃lp,OM.Be n ps lp/\l=OM.gQ n lp/\sz=lp.length)/\k=2 * (64 - l.length) + (if sz=l.length then 0 else 1))
  (λenv β=>β=0/\∃(x sz a b:Sl),env= [.fz d,.fz (.list ((OM.bt n (OM.Tr (OM.Mem ps))).map aE)),sz,x,a,b])
  (n:=1000) (k:=2 * (64 - (OM.bt n (OM.Mem ps)).length) + (if (-1:Int)=(OM.bt n (OM.Mem ps)).length then 0 else 1)) (env:=[.fz d,.fz (.list ((OM.bt n (OM.Mem ps)).map aE)),.fz (.int (-1)),.no,.no,.no]) (β:=0)
  (by split <;> omega) ⟨rfl,_,_,_,_,_,rfl,B0,.inl rfl,rfl⟩ (by
   rintro k env β ⟨rfl,l,sz,x,a,b,rfl,B,hsz,rfl⟩
   have hl:=blen B
   have et:dU (f2 (gv 2) (f1 (gv 1) eN) (dO true)) [.da d,.da (.list (l.map aE)),.da (.int sz),x.val,a.val,b.val] 0=.ok (!decide (sz=((l.map aE).length:Nat))) 0:=gc (neg:=true) rfl rfl
   rw[HS] at et
   refine⟨_,_,et,?_⟩
   by_cases c:sz=(l.length:Nat)
   ·refine .inl ⟨by rw[HB c];rfl,rfl,x,.fz (.int sz),a,b,?_⟩
    rcases hsz with h | ⟨lp,Bp,rfl,h⟩
    ·omega
    ·show [Sl.fz d,.fz (.list ((OM.gQ n lp).map aE)),.fz (.int sz),x,a,b]=_
     rw[OM.zm Bp (by omega)]
   ·refine .inr ⟨by rw[HN c];rfl,?_⟩
    obtain⟨B2,hs⟩:=OM.qi B
    have hl2:=blen B2
    have hge:l.length<=(OM.gQ n l).length:=OM.dc (OM.gY B.ris) hs
    have eturn:∃x' a' b':Sl,aF (bF 2 [] (f1 (gv 1) eN)) (aF (bF 3 [] (bW av)) (aF (gA (.two 4 5) [1] (dJ (gv 1)) (bF 3 ([] ++ ([] ++ [4])) (f2 (gv 3) (bC 2 [5,4] (.two 0 1) (dJ (gv 1)) (dU (f2 (gv 0) (gv 2) (dO false))) (bV (ae (gv 3) (ae (gv 1) av)))) gF))) (bF 1 ([] ++ []) (f1 (f2 (gv 1) (gv 3) gF) aZ)))) [.fz d,.fz (.list (l.map aE)),.fz (.int sz),x,a,b] 0
      =.nx [.fz d,.fz (.list ((OM.gQ n l).map aE)),.fz (.int (l.length:Nat)),x',a',b'] 0:=by
     rw[aR (env':=[.fz d,.fz (.list (l.map aE)),.fz (.int (l.length:Nat)),x,a,b]) (β':=0) ?g1]
     case g1=>
      show SO.nx [.fz d,.fz (.list (l.map aE)),.fz (.int ((l.map aE).length:Nat)),x,a,b] 0=_
      rw[HS]
     have e3:bW av [.da d,.da (.list (l.map aE)),.da (.int (l.length:Nat)),x.val,a.val,b.val] 0=.ok (.list []) 0:=dN rfl (by simp)
     rw[aR (env':=[.fz d,.fz (.list (l.map aE)),.fz (.int (l.length:Nat)),.fz (.list []),a,b]) (β':=0) ?g2]
     case g2=>
      show toS (bW av [.da d,.da (.list (l.map aE)),.da (.int (l.length:Nat)),x.val,a.val,b.val] 0) _=_
      rw[e3];rfl
     obtain⟨env2,β2,ef,rfl,a2,b2,rfl⟩:=jf (t:=.two 4 5) (m:=bF 3 ([] ++ ([] ++ [4])) (f2 (gv 3) (bC 2 [5,4] (.two 0 1) (dJ (gv 1)) (dU (f2 (gv 0) (gv 2) (dO false))) (bV (ae (gv 3) (ae (gv 1) av)))) gF)) (ds:=l.map aE) (k:=0)
      (λi env β=>β=0/\∃a b:Sl,env= [.fz d,.fz (.list (l.map aE)),.fz (.int (l.length:Nat)),.fz (.list (((l.take i).flatMap (rb l)).map aE)),a,b]) (env:=[.fz d,.fz (.list (l.map aE)),.fz (.int (l.length:Nat)),.fz (.list []),a,b]) (β:=0) ⟨rfl,a,b,rfl⟩ (by
       rintro i d0 env β hi ⟨rfl,a,b,rfl⟩
       rw[HH] at hi
       cases q:l[i]? with
       |none=>rw[q] at hi;cases hi
       |some p=>
        rw[q] at hi
        cases hi
        have hil:i < l.length:=(HE.mp q).1
        refine⟨[.fz d,.fz (.list (l.map aE)),.fz (.int (l.length:Nat)),.fz (.list (((l.take (0 + i)).flatMap (rb l)).map aE)),.fz (.int p.1),.fz (.int p.2)],rfl,[.fz d,.fz (.list (l.map aE)),.fz (.int (l.length:Nat)),.fz (.list (((l.take (0 + i + 1)).flatMap (rb l)).map aE)),.fz (.int p.1),.fz (.int p.2)],0,?_,rfl,_,_,rfl⟩
        have ec:bC 2 [5,4] (.two 0 1) (dJ (gv 1)) (dU (f2 (gv 0) (gv 2) (dO false))) (bV (ae (gv 3) (ae (gv 1) av))) [.da d,.da (.list (l.map aE)),.da (.int (l.length:Nat)),.da (.list (((l.take (0 + i)).flatMap (rb l)).map aE)),.da (.int p.1),.da (.int p.2)] 0=.ok (.list ((rb l p).map aE)) 0:=by
         rw[ku (l:=l) (e:=aE) (λq=>decide (q.1=p.2)) (λq=>aE (p.1,q.2)) rfl (by omega) (β1:=0)]
         ·unfold rb;rw[Kb];rfl
         ·intro q hq
          refine⟨_,rfl,gc (neg:=false) (i:=q.1) (j:=p.2) rfl rfl,λ_=>?_⟩
          exact nE (ds:=[.int p.1,.int q.2]) rfl (by simp)
        have hk:(l.take (0 + i)).length<=64:=by rw[IU];omega
        have hfl:=qc l (l.take (0 + i))
        have hfl2:(l.take (0 + i)).length * l.length<=64 * 64:=Kv hk (by omega)
        have hm1:=u6 l p
        have e5:f2 (gv 3) (bC 2 [5,4] (.two 0 1) (dJ (gv 1)) (dU (f2 (gv 0) (gv 2) (dO false))) (bV (ae (gv 3) (ae (gv 1) av)))) gF [.da d,.da (.list (l.map aE)),.da (.int (l.length:Nat)),.da (.list (((l.take (0 + i)).flatMap (rb l)).map aE)),.da (.int p.1),.da (.int p.2)] 0=.ok (.list (((l.take (0 + i + 1)).flatMap (rb l)).map aE)) 0:=by
         refine aK rfl ec ?_
         rw[oU (by rw[HS,HS];omega),<-JZ]
         have:l.take (0 + i + 1)=l.take (0 + i) ++ [p]:=by rw[IJ,Jj,q];rfl
         rw[this,List.flatMap_append,List.flatMap_cons,List.flatMap_nil,Jt]
        show toS (f2 (gv 3) (bC 2 [5,4] (.two 0 1) (dJ (gv 1)) (dU (f2 (gv 0) (gv 2) (dO false))) (bV (ae (gv 3) (ae (gv 1) av)))) gF [.da d,.da (.list (l.map aE)),.da (.int (l.length:Nat)),.da (.list (((l.take (0 + i)).flatMap (rb l)).map aE)),.da (.int p.1),.da (.int p.2)] 0) _=_
        rw[e5];rfl)
     rw[IJ,HS,IW (Hv _)] at ef
     rw[aR (env':=[.fz d,.fz (.list (l.map aE)),.fz (.int (l.length:Nat)),.fz (.list ((l.flatMap (rb l)).map aE)),a2,b2]) (β':=0) ?g3]
     case g3=>exact ef
     have hfl:=qc l l
     have hfl2:l.length * l.length<=64 * 64:=Kv (by omega) (by omega)
     have e6:f1 (f2 (gv 1) (gv 3) gF) aZ [.da d,.da (.list (l.map aE)),.da (.int (l.length:Nat)),.da (.list ((l.flatMap (rb l)).map aE)),a2.val,b2.val] 0=.ok (.list ((OM.gQ n l).map aE)) 0:=by
      refine dS (x:=.list ((l ++ OM.more l).map aE)) (aK rfl rfl ?_) (i3 h8 (OM.yR B) rfl)
      rw[oU (by rw[HS,HS];omega),<-JZ];rfl
     refine⟨.fz (.list ((l.flatMap (rb l)).map aE)),a2,b2,?_⟩
     show toS (f1 (f2 (gv 1) (gv 3) gF) aZ [.da d,.da (.list (l.map aE)),.da (.int (l.length:Nat)),.da (.list ((l.flatMap (rb l)).map aE)),a2.val,b2.val] 0) _=_
     rw[e6];rfl
    obtain⟨x',a',b',et2⟩:=eturn
    refine⟨_,_,_,et2,?_,rfl,_,_,_,_,_,rfl,B2,.inr ⟨l,B,rfl,rfl⟩,rfl⟩
    rw[Ht c]
    split <;> omega)
 rw[aR ew]
 rfl
def uD {m':SF}{env:En}{β:Int}{Q:SO->Prop}{x c:Str}(q:Q (.exc c)):WP (aF (λenv β=>toS ((ae (cst (.str x)) av) (vl env) β) λds _=>if ds.length<=sizeLine then .exc c else .bad) m' env β) Q:=⟨by
 unfold aF
 show Q (match (if ([PyData.str x]:List D).length<=sizeLine then SO.exc c else .bad) with | .nx a b=>m' a b |r=>r)
 rw[Hs (by rw[Ik];simp)];exact q⟩
def Ce {l:List Pr}(h:l.length<=1000):gi [.tuple (l.map aE)]=.ok (.bool (l.any λp=>decide (p.1=p.2))) false:=by
 unfold gi;simp only[dA];rw[Hs h]
def wm {n:Nat}{ps:List Pr}(h1:1<=n)(h8:n<=8)(w:OM.Wn n ps):b8 [.int n,.list (ps.map aE)]=.ok (.tuple ((OM.bt n (OM.Tr (OM.Mem ps))).map aE)) false:=by
 unfold b8
 simp only[jT,dA]
 rw[Hs ⟨by omega,by omega,by rw[IG];exact w⟩,IG]
def BB (p:Pr):Ge (aE p):=⟨rfl,λes e=>by cases e;exact⟨by simp,λx hx=>by simp at hx;rcases hx with rfl |rfl <;> rfl⟩⟩
theorem yN {n:Nat}:∀{ds:List D},ds.all (yQ n)=true->∃ps:List Pr,ds=ps.map aE/\OM.Wn n ps
 | [],_=>⟨[],rfl,λr h=>by cases h⟩
 |d :: ds,h=>by
  rw[all_cons,Ir] at h
  obtain⟨p,rfl,hp⟩:=Ei h.1
  obtain⟨ps,rfl,hs⟩:=yN h.2
  exact⟨p :: ps,rfl,λq hq=>(HA.mp hq).elim (λe=>by rw[e];exact hp) (hs q)⟩
def Bg {n:Nat}{p:Pr}(h:(0<=p.1/\p.1 < n)/\(0<=p.2/\p.2 < n)):yQ n (aE p)=true:=by
 show (cu (.int p.1) n && cu (.int p.2) n)=true
 rw[Ir];exact⟨HB h.1,HB h.2⟩
noncomputable def By:List D->FR:=cq 3 2 (bL gk DG b8 gi)
def Ey {d0 d:D}(h:bK d0=false)(hm:uO d0=false):By [d0,d]=.exc "NoMany":=by
 show fin (bL gk DG b8 gi [.fz d0,.fz d,.no] 0)=_
 refine oH ?_
 unfold bL
 have t:=eQ (jN (aV (F:=gk) (fr:=ae (gv 0) av) (vs:=vl [.fz d0,.fz d,.no]) (β:=0) (ds:=[d0]) rfl (su h)))
 rw[hm] at t
 exact iJ t (uD rfl)
def tI {n:Nat}{d:D}{Q:SO->Prop}{m':SF}{m1:SF}(h1:1<=n)(h8:n<=8)(k:WP (m' [.fz (.int n),.fz d,.no] 0) Q):WP (aF (jI ([0] ++ []) (BH (zp (aO gk (ae (gv 0) av)))) m1 pj) m' [.fz (.int n),.fz d,.no] 0) Q:=by
 have t:=eQ (jN (aV (F:=gk) (fr:=ae (gv 0) av) (vs:=vl [.fz (.int n),.fz d,.no]) (β:=0) (ds:=[.int n]) rfl (xD h1 h8)))
 exact fU t k
def yS {n:Nat}{ds:List D}(hz:ds.length<=100)(hge:∀e,e∈ds->Ge e):f1 (bC 1 [0] (.nm 0) (dJ (gv 1)) zl (aO DG (ae (gv 0) (ae (gv 1) av)))) (fw λbs=>bs.all id) (vl [.fz (.int n),.fz (.list ds),.no]) 0=.ok (.bool (ds.all (yQ n))) 0:=
 Al (vD (ds:=ds) (λe=>PyData.bool (yQ n e)) rfl (by omega) λe he=>⟨[.da e,.da (.int n)],rfl,aV (ds:=[e,.int n]) rfl (Gx (hge e he))⟩)
theorem EN {n:Nat}{d:D}(h1:1<=n)(h8:n<=8)(h:Gt d)(hb:∀ps:List Pr,d=.list (ps.map aE)->¬OM.Wn n ps):By [.int n,d]=.exc "NoPairs":=by
 show fin (bL gk DG b8 gi [.fz (.int n),.fz d,.no] 0)=_
 refine oH ?_
 unfold bL
 refine tI h1 h8 ?_
 have t1:=jN (BG (fa:=gv 1) (vs:=vl [.fz (.int n),.fz d,.no]) (β:=0) rfl h.1)
 cases hy:CW d with
 |false=>rw[hy] at t1;exact iJ (yu (eQ t1)) (uD rfl)
 |true=>
  rw[hy] at t1
  obtain⟨ds,rfl⟩:=AW hy
  obtain⟨hz,hge⟩:=h.2 _ rfl
  have ea:=yS (n:=n) hz hge
  have hf:ds.all (yQ n)=false:=by
   rw[<-Bool.not_eq_true]
   intro ha
   obtain⟨ps,rfl,hs⟩:=yN ha
   exact hb ps rfl hs
  rw[hf] at ea
  exact iJ (lx (eQ t1) (eQ (jN ea))) (uD rfl)
def qR {n:Nat}(h8:n<=8)(R:Int->Int->Prop):(OM.bt n R).length<=64:=by
 have hg:(OM.dH n).length=n * n:=by unfold OM.dH;simp
 have hn:n * n<=64:=Kv h8 h8
 unfold OM.bt
 exact IF (Kc _ _) (by rw[hg];exact hn)
def DI (l:List Pr):Bool:=l.any λp=>decide (p.1=p.2)
theorem FL {n:Nat}{ps:List Pr}(h1:1<=n)(h8:n<=8)(hz:ps.length<=100)(w:OM.Wn n ps):By [.int n,.list (ps.map aE)]=if DI (OM.bt n (OM.Tr (OM.Mem ps)))=true then .exc "Ring" else .ok (sJ n (OM.bt n (OM.Tr (OM.Mem ps)))) false:=by
 show fin (bL gk DG b8 gi [.fz (.int n),.fz (.list (ps.map aE)),.no] 0)=_
 refine oH ?_
 unfold bL
 refine tI h1 h8 ?_
 have ea:=yS (n:=n) (ds:=ps.map aE) (by rw[HS];exact hz) λe he=>by
  obtain⟨p,_,rfl⟩:=HK.mp he
  exact BB p
 rw[show (ps.map aE).all (yQ n)=true from JR.mpr λe he=>by
  obtain⟨p,hp,rfl⟩:=HK.mp he
  exact Bg (w p hp)] at ea
 refine fU (lx (c:=false) (eQ (jN (c:=true) (BG (d:=.list (ps.map aE)) rfl rfl))) (eQ (jN ea))) ?_
 refine dw (aV (ds:=[.int n,.list (ps.map aE)]) rfl (wm h1 h8 w)) ?_
 have hl:=qR h8 (OM.Tr (OM.Mem ps))
 generalize OM.bt n (OM.Tr (OM.Mem ps))=l at hl
 have t:=jN (aV (F:=gi) (fr:=ae (gv 2) av) (vs:=vl [.fz (.int n),.fz (.list (ps.map aE)),.fz (.tuple (l.map aE))]) (β:=0) (ds:=[.tuple (l.map aE)]) rfl (Ce (by omega)))
 unfold DI
 cases q:l.any λp=>decide (p.1=p.2) with
 |true=>rw[q] at t;rw[Hs rfl];exact iJ t (uD rfl)
 |false=>
  rw[q] at t;rw[Ht (by simp)]
  exact fU t (yF (tp (ds:=[.int n,.tuple (l.map aE)]) (ac rfl (ac rfl an))) rfl)
def vd:List (Str×Nat):=[("NoMany",1),("NoPairs",2),("Ring",3)]
noncomputable def mj:List D->FR:=cq 3 2 (cg (rY vd) By)
def qd (d0 d:D):iD [.fz d0,.fz d,.no]=true:=rfl
def sQ {d0 d:D}{c w:Str}(h:By [d0,d]=.exc c)(e:rY vd c=some w):mj [d0,d]=.ok (.str w) false:=by
 show fin (cg (rY vd) By [.fz d0,.fz d,.no] 0)=_
 unfold cg wa
 rw[Hs (qd _ _),oI,vf (ds:=[d0,d]) (β1:=0) rfl h]
 dsimp only[toS]
 rw[e];rfl
def Cz {d0 d r:D}(h:By [d0,d]=.ok r false):mj [d0,d]=.ok r false:=by
 show fin (cg (rY vd) By [.fz d0,.fz d,.no] 0)=_
 unfold cg wa
 rw[Hs (qd _ _),oI,aV (ds:=[d0,d]) (β1:=0) rfl h]
 rfl
noncomputable def oN (n:Nat)(l:List Pr):D:=if DI l=true then .str "ring" else sJ n l
def GA {n:Nat}{ps:List Pr}(h1:1<=n)(h8:n<=8)(hz:ps.length<=100)(w:OM.Wn n ps):mj [.int n,.list (ps.map aE)]=.ok (oN n (OM.bt n (OM.Tr (OM.Mem ps)))) false:=by
 have e:=FL h1 h8 hz w
 unfold oN
 by_cases q:DI (OM.bt n (OM.Tr (OM.Mem ps)))=true
 ·rw[Hs q] at e ⊢
  exact sQ e rfl
 ·rw[Ht q] at e ⊢
  exact Cz e
def CQ {n:Nat}{l:List Pr}(hn:n<=8)(hl:l.length<=64)(h:∀p,p∈l->Sp p):lR (oN n l)=some (.str (oN n l).shown):=by
 unfold oN
 split
 ·exact Hs (by decide +kernel)
 ·have i1:Sq 20 0 (.int n):=(hW (by omega)).sq
  have pq:∀d,d∈l.map aE->Sq 100 1 d/\Bf d:=λd hd=>by
   obtain⟨p,hp,rfl⟩:=HK.mp hd
   have:=h p hp
   exact⟨(oZ (c:=20) (k:=0) (ds:=[.int p.1,.int p.2]) (dZ (hW (by have:=this.1;omega)).sq (hW (by have:=this.2;omega)).sq)).mono (by simp) (by omega),(Ea this).2.2⟩
  have t2:Sq 7000 2 (.tuple (l.map aE)):=(oZ λd hd=>(pq d hd).1).mono (by rw[HS];omega) (by omega)
  have s:Sq 20000 3 (sJ n l):=(oZ (c:=7000) (k:=2) (ds:=[.int n,.tuple (l.map aE)]) (dZ (i1.mono (by omega) (by omega)) t2)).mono (by simp) (by omega)
  exact Hs (DS s (by omega) (by omega) (sE (dZ (zI.bf (hW (by omega))) (sE λd hd=>(pq d hd).2))))
noncomputable def rO:List D->Int->FB:=pV 8 1 (di rR eG)
theorem qx {n:Nat}{r:List Int}{f a b k:Nat}{ps:List Pr}{s5:Sl}{β:Int}(hl:r.length=n)(hr:∀x,x∈r->0<=x/\x < (n:Int))(ha:a < n)(hb:b < n)(hz:ps.length<=k)(hk:k<=100)(w:OM.Wn n ps) :
  WP (jI (([] ++ []) ++ ([] ++ [])) (kK (dU (f2 (gv 3) (cst (.int 0)) (dO false))) (dU (f2 (gv 6) (gv 7) (dO true)))) (rM 4 (([] ++ []) ++ (([] ++ []) ++ [])) (bV (ae (f2 (gv 2) (gv 6) nc) (ae (f2 (gv 2) (gv 7) nc) av)))) pj [.bx,.fz (.int n),.fz (.list (r.map int)),.fz (.int f),.ow (.list (ps.map aE)),s5,.fz (.int a),.fz (.int b)] β)
   λs=>∃env2 β2,s=.nx env2 β2/\∃(s5 s6 s7:Sl) (ps:List Pr),env2= [.bx,.fz (.int n),.fz (.list (r.map int)),.fz (.int f),.ow (.list (ps.map aE)),s5,s6,s7]/\ps.length<=k + 1/\OM.Wn n ps:=by
 have t1:dU (f2 (gv 3) (cst (.int 0)) (dO false)) (vl [.bx,.fz (.int n),.fz (.list (r.map int)),.fz (.int f),.ow (.list (ps.map aE)),s5,.fz (.int a),.fz (.int b)]) β=.ok (decide ((f:Int)=0)) β:=gc (neg:=false) rfl rfl
 have t2:dU (f2 (gv 6) (gv 7) (dO true)) (vl [.bx,.fz (.int n),.fz (.list (r.map int)),.fz (.int f),.ow (.list (ps.map aE)),s5,.fz (.int a),.fz (.int b)]) β=.ok (!decide ((a:Int)=b)) β:=gc (neg:=true) rfl rfl
 obtain⟨c,hc⟩:∃c,kK (dU (f2 (gv 3) (cst (.int 0)) (dO false))) (dU (f2 (gv 6) (gv 7) (dO true))) (vl [.bx,.fz (.int n),.fz (.list (r.map int)),.fz (.int f),.ow (.list (ps.map aE)),s5,.fz (.int a),.fz (.int b)]) β=.ok c β:=by
  by_cases q:(f:Int)=0
  ·rw[HB q] at t1;exact⟨_,yu t1⟩
  ·rw[HN q] at t1;exact⟨_,lx t1 t2⟩
 cases c with
 |false=>exact FC hc (mQ ⟨_,_,rfl,s5,_,_,ps,rfl,by omega,w⟩)
 |true=>
  refine FU hc ?_
  have at':∀a,a < n->∃x,x∈r/\ji (r.map int) (a:Int)=some (.int x):=λa h=>by
   have e:r[a]? =some r[a]:=Hq (by omega)
   exact⟨r[a],Jc _,oX (by rw[HH,e];rfl)⟩
  obtain⟨x,hx,ex⟩:=at' a ha
  obtain⟨y,hy,ey⟩:=at' b hb
  refine o7 (CB (ds:=ps.map aE) (d:=aE (x,y)) rfl (yG (aK (x:=.list (r.map int)) (y:=.int a) rfl rfl ex) (aK (x:=.list (r.map int)) (y:=.int b) rfl rfl ey)) rfl (by rw[HS];omega) (mQ ⟨_,_,rfl,s5,.fz (.int a),.fz (.int b),ps ++ [(x,y)],?_,by rw[Iu,JF];omega,λp hp=>?_⟩))
  ·rw[JZ];rfl
  ·rcases HP.mp hp with h |h
   ·exact w p h
   ·rw[IC] at h
    subst h
    exact⟨hr x hx,hr y hy⟩
def AX {n:Nat}(h1:1<=n)(h8:n<=8)(β:Int):∃(ps:List Pr) (β':Int),rO [.int n] β=.ok (.list (ps.map aE)) true β'/\ps.length<=9/\OM.Wn n ps:=by
 obtain⟨r,β1,er,hp⟩:=Aa (lX n) (by rw[tQ];omega) β
 obtain⟨f,hf,ef⟩:=cT (m:=3) (by omega) (by omega) β1
 generalize β1 / ((3:Nat):Int)=β2 at ef
 obtain⟨t,ht,et⟩:=cT (m:=10) (by omega) (by omega) β2
 generalize β2 / ((10:Nat):Int)=β3 at et
 have hl:r.length=n:=by rw[hp.length_eq,tQ]
 have hr:∀x,x∈r->0<=x/\x < (n:Int):=λx hx=>zT.mp (hp.mem_iff.mp hx)
 have:WP (di rR eG [.bx,.fz (.int n),.no,.no,.no,.no,.no,.no] β) λs=>∃(ps:List Pr) (β':Int),BX s=.ok (.list (ps.map aE)) true β'/\ps.length<=9/\OM.Wn n ps:=by
  unfold di
  refine dw (dD (ds:=[.list ((lX n).map int)]) (b:=true) rfl (ac (dS (x:=.int n) rfl (qz (by omega))) an) er) ?_
  refine dw (dD (ds:=[.int 3]) rfl rfl ef) ?_
  refine Au (d:=.list []) (dN rfl (by simp)) ?_
  refine sI (λk env _=>∃(s5 s6 s7:Sl) (ps:List Pr),env= [.bx,.fz (.int n),.fz (.list (r.map int)),.fz (.int f),.ow (.list (ps.map aE)),s5,s6,s7]/\ps.length<=k/\OM.Wn n ps) (pK (n:=t) (dD (ds:=[.int 10]) rfl rfl et) (by omega)) ⟨.no,.no,.no,[],rfl,by simp,λp hp=>by cases hp⟩ ?_ ?_
  ·rintro k d env β hk ⟨s5,s6,s7,ps,rfl,hz,w⟩
   have hk9:k < t:=(pW hk).1
   refine⟨[.bx,.fz (.int n),.fz (.list (r.map int)),.fz (.int f),.ow (.list (ps.map aE)),.fz d,s6,s7],rfl,?_⟩
   obtain⟨a,ha,ea⟩:=cT (m:=n) h1 (by omega) β
   generalize β / (n:Int)=β4 at ea
   obtain⟨b,hb,eb⟩:=cT (m:=n) h1 (by omega) β4
   generalize β4 / (n:Int)=β5 at eb
   refine xb (dD (ds:=[.int n]) rfl rfl ea) (dD (ds:=[.int n]) rfl rfl eb) ?_
   refine wp_at [.bx,.fz (.int n),.fz (.list (r.map int)),.fz (.int f),.ow (.list (ps.map aE)),.fz d,.fz (.int a),.fz (.int b)] rfl ?_
   have tg:dU (f2 (gv 3) (cst (.int 0)) GB) (vl [.bx,.fz (.int n),.fz (.list (r.map int)),.fz (.int f),.ow (.list (ps.map aE)),.fz d,.fz (.int a),.fz (.int b)]) β5=.ok (decide ((f:Int) > 0)) β5:=rfl
   by_cases q:(f:Int) > 0
   ·rw[HB q] at tg
    refine iJ tg ?_
    refine xb (d:=.int ((min a b:Nat):Int)) (e:=.int ((max a b:Nat):Int)) (aK (x:=.int a) (y:=.int b) rfl rfl ?_) (aK (x:=.int a) (y:=.int b) rfl rfl ?_) ?_
    ·show some (int (if (b:Int) < a then (b:Int) else a))=_
     congr 2;split <;> omega
    ·show some (int (if (b:Int) > a then (b:Int) else a))=_
     congr 2;split <;> omega
    ·exact qx hl hr (by omega) (by omega) hz (by omega) w
   ·rw[HN q] at tg
    refine fU tg ?_
    exact qx hl hr ha hb hz (by omega) w
  ·rintro env β ⟨s5,s6,s7,ps,rfl,hz,w⟩
   rw[mZ] at hz
   exact⟨ps,β,rfl,by omega,w⟩
 obtain⟨ps,β',e,h⟩:=this.out
 exact⟨ps,β',e,h⟩
def A2:List D:=[.int 0,.int 9,.int (-1),.bool true,.none,.str "3",.tuple [.int 3],.int 1000000000000000000000000000000000000000]
def Dj:∀x∈A2,bK x=false/\uO x=false:=by decide +kernel
def xW (n:Nat):List D:=[.none,.tuple [.int 0,.int n],.tuple [.int (-1),.int 0],.tuple [.int 0],.list [.int 0,.int 0],.tuple [.int 0,.int 0,.int 0],.tuple [.bool true,.int 0],.str "01",.tuple [.int 0,.none]]
def Dx {n:Nat}:∀x∈xW n,Ge x/\yQ n x=false:=by
 have g:∀es:List D,es.length<=3->(∀x,x∈es->bK x=false)->Ge (.tuple es):=λes h1 h2=>xk (by omega) h2
 intro x hx
 unfold xW at hx
 simp only[HA,JQ,or_false] at hx
 rcases hx with rfl |rfl |rfl |rfl |rfl |rfl |rfl |rfl |rfl
 ·exact⟨⟨rfl,λes e=>by cases e⟩,rfl⟩
 ·refine⟨g _ (by simp) (dZ rfl rfl),?_⟩
  show (cu (.int 0) n && cu (.int n) n)=false
  rw[show cu (.int (n:Int)) n=false from HN (by omega),Bool.and_false]
 ·exact⟨g _ (by simp) (dZ rfl rfl),rfl⟩
 ·exact⟨g _ (by simp) (λx hx=>by rw[IC] at hx;rw[hx];rfl),rfl⟩
 ·exact⟨⟨rfl,λes e=>by cases e⟩,rfl⟩
 ·exact⟨g _ (by simp) (λx hx=>by simp at hx;rw[hx];rfl),rfl⟩
 ·exact⟨g _ (by simp) (dZ rfl rfl),rfl⟩
 ·exact⟨⟨rfl,λes e=>by cases e⟩,rfl⟩
 ·refine⟨g _ (by simp) (dZ rfl rfl),?_⟩
  show (cu (.int 0) n && cu .none n)=false
  rw[show cu .none n=false from rfl,Bool.and_false]
noncomputable def C4:List D->FR:=cq 11 1 (tT Cr lu mj eG rO)
def Ep (ns:List Int):C4 [bz ns]=.ok (.bool true) false:=by
 show fin (tT Cr lu mj eG rO [.fz (bz ns),.no,.no,.no,.no,.no,.no,.no,.no,.no,.no] 0)=_
 refine oH ?_
 obtain⟨m,hm,em⟩:=xH 5 (by omega) ns (vl [.fz (bz ns),.no,.no,.no,.no,.no,.no,.no,.no,.no,.no]) 0 rfl
 unfold tT
 refine sI (λ_ env _=>∃s1 s2 s3 s4 s5 s6 s7 s8 s9 s10,env= [.fz (bz ns),s1,s2,s3,s4,s5,s6,s7,s8,s9,s10]) em ⟨_,_,_,_,_,_,_,_,_,_,rfl⟩ ?_ λenv β ⟨s1,s2,s3,s4,s5,s6,s7,s8,s9,s10,e⟩=>yF (d:=.bool true) rfl rfl
 rintro i d env β hi ⟨s1,s2,s3,s4,s5,s6,s7,s8,s9,s10,rfl⟩
 obtain⟨_,rfl⟩:=pW hi
 rw[Int.zero_add]
 refine⟨[.fz (bz ns),.fz (.int i),s2,s3,s4,s5,s6,s7,s8,s9,s10],rfl,?_⟩
 obtain⟨z,ez⟩:=EB ns i
 obtain⟨j,hj,ej⟩:=cT (m:=8) (by omega) (by omega) z
 generalize z / ((8:Nat):Int)=β1 at ej
 obtain⟨t3,t4,t5,t6,t7,t8,t9,t10,hcl⟩:∃t3 t4 t5 t6 t7 t8 t9 t10:Sl,(l9 (aJ ([0] ++ ([1] ++ [])) [.fz (bz ns),.fz (.int i),s2,s3,s4,s5,s6,s7,s8,s9,s10])).set 2 .bx= [.fz (bz ns),.fz (.int i),.bx,t3,t4,t5,t6,t7,t8,t9,t10]:=⟨_,_,_,_,_,_,_,_,rfl⟩
 refine An (wR (ds:=[bz ns,.int i]) rfl ez) (wp_at _ hcl ?_)
 refine dw (d:=.int ((1 + j:Nat):Int)) (aK (x:=.int 1) (y:=.int j) rfl (dD (ds:=[.int 8]) rfl rfl ej) (by show some (int (1 + (j:Int)))=_;rw[show ((1 + j:Nat):Int)=1 + (j:Int) by omega])) ?_
 have h1:1<=1 + j:=by omega
 have h8:1 + j<=8:=by omega
 generalize 1 + j=n at h1 h8
 obtain⟨ps,β2,ep,hz,w⟩:=AX h1 h8 β1
 refine dw (dD (ds:=[.int n]) (b:=true) rfl rfl ep) ?_
 refine dw (d:=.list (ps.map aE)) (dS (x:=.list (ps.map aE)) rfl rfl) ?_
 have el:=DU (n:=n) (d:=.list (ps.map aE)) h8 w rfl
 have es:=GA h1 h8 (by omega) w
 have hln:=qR h8 (OM.Tr (OM.Mem ps))
 have hwn:∀p,p∈OM.bt n (OM.Tr (OM.Mem ps))->Sp p:=λp hp=>by
  have:=(OM.bp.mp hp).1
  exact⟨by omega,by omega⟩
 generalize OM.bt n (OM.Tr (OM.Mem ps))=l at el es hln hwn
 refine dw (d:=sJ n l) (tp (ds:=[.int n,.tuple (l.map aE)]) (ac rfl (ac (aV (ds:=[.list (ps.map aE)]) rfl el) an))) ?_
 refine wp_at [.fz (bz ns),.fz (.int i),.bx,.fz (.int n),.fz (.list (ps.map aE)),.fz (.list (ps.map aE)),.fz (sJ n l),t7,t8,t9,t10] rfl ?_
 have ec:bC 2 [] (.two 0 1) (dJ (f2 (gv 6) (cst (.int 1)) nc)) (dU (f2 (gv 0) (gv 1) (dO false))) (gv 0) (vl [.fz (bz ns),.fz (.int i),.bx,.fz (.int n),.fz (.list (ps.map aE)),.fz (.list (ps.map aE)),.fz (sJ n l),t7,t8,t9,t10]) β2=.ok (.list (((l.filter λp=>decide (p.1=p.2)).map λp=>p.1).map int)) β2:=by
  rw[ku (l:=l) (e:=aE) (λq=>decide (q.1=q.2)) (λq=>int q.1) rfl (by omega) (β1:=β2)]
  ·rw[Kb];rfl
  ·intro q hq
   exact⟨_,rfl,gc (neg:=false) (i:=q.1) (j:=q.2) rfl rfl,λ_=>rfl⟩
 have tr:dU (f2 (bC 2 [] (.two 0 1) (dJ (f2 (gv 6) (cst (.int 1)) nc)) (dU (f2 (gv 0) (gv 1) (dO false))) (gv 0)) (bW av) (dO true)) (vl [.fz (bz ns),.fz (.int i),.bx,.fz (.int n),.fz (.list (ps.map aE)),.fz (.list (ps.map aE)),.fz (sJ n l),t7,t8,t9,t10]) β2=.ok (DI l) β2:=by
  refine fW _ _ _ _ (aK (y:=.list (([]:List Int).map int)) ec (dN rfl (by simp)) ?_)
  rw[qK,Hs rfl]
  congr 2
  unfold DI
  rw[Jf]
  simp
 refine C5 (λenv β=>env= [.fz (bz ns),.fz (.int i),.bx,.fz (.int n),.fz (.list (ps.map aE)),.fz (.list (ps.map aE)),.fz (oN n l),t7,t8,t9,t10]/\β=β2) ⟨_,_,tr,λq=>o7 (dw (d:=.str "ring") rfl (mQ ⟨_,_,rfl,?_,rfl⟩)),λq=>mQ ⟨_,_,rfl,?_,rfl⟩⟩ ?_
 ·unfold oN;rw[Hs q];rfl
 ·unfold oN;rw[Ht (by rw[q];simp)];rfl
 rintro env β ⟨rfl,rfl⟩
 have hrp:=CQ h8 hln hwn
 generalize oN n l=du at es hrp
 refine fU (lx (c:=false) (fW _ _ _ _ (aK (x:=.str du.shown) (y:=.str du.shown) (dS (x:=du) (aV (ds:=[.int n,.list (ps.map aE)]) rfl es) hrp) (dS (x:=du) rfl hrp) (by simp[C1]))) (fW _ _ _ _ (aK (x:=.list (ps.map aE)) (y:=.list (ps.map aE)) rfl rfl (by rw[yH];simp)))) ?_
 refine wp_at [.fz (bz ns),.fz (.int i),.bx,.fz (.int n),.fz (.list (ps.map aE)),.fz (.list (ps.map aE)),.fz du,t7,t8,t9,t10] rfl ?_
 obtain⟨a,ha,ea⟩:=cT (m:=ps.length + 1) (by omega) (by omega) β
 generalize β / ((ps.length + 1:Nat):Int)=β4 at ea
 refine dw (dD (ds:=[.int ((ps.length + 1:Nat):Int)]) rfl (ac (Hd (i:=ps.length) (dS (x:=.list (ps.map aE)) rfl (by show some (int (ps.map aE).length)=_;rw[HS]))) an) ea) ?_
 obtain⟨c,hc,ec'⟩:=cT (m:=9) (by omega) (by omega) β4
 generalize β4 / ((9:Nat):Int)=β5 at ec'
 obtain⟨bad,_,hbm,hat⟩:=nR (ds:=xW n) (k:=c) hc
 obtain⟨hbg,hbp⟩:=Dx bad hbm
 refine dw (d:=bad) (aK (x:=.list (xW n)) (lp (ds:=xW n) (ac (ck _) (ac (tp (ac (ck _) (ac rfl an))) (ac (tp (ac (ck _) (ac (ck _) an))) (ac (tp (ac (ck _) an)) (ac (lp (ac (ck _) (ac (ck _) an)) (by simp)) (ac (tp (ac (ck _) (ac (ck _) (ac (ck _) an)))) (ac (tp (ac (ck _) (ac (ck _) an))) (ac (ck _) (ac (tp (ac (ck _) (ac (ck _) an))) an))))))))) (by show (9:Nat)<=1000;omega)) (dD (ds:=[.int 9]) rfl rfl ec') hat) ?_
 have hR:∀x,x∈ps.map aE->Ge x:=λx hx=>by
  obtain⟨q,hq,rfl⟩:=HK.mp hx
  exact BB q
 have hRl:(ps.map aE).length<=9:=by rw[HS];exact hz
 generalize ps.map aE=R at hR hRl
 have hz1:(R.take a).length<=9:=by rw[IU];omega
 have hz2:(R.drop a).length<=9:=by rw[List.length_drop];omega
 refine sI (β1:=β5) (ds:=[.list (R.take a ++ [bad] ++ R.drop a),.tuple R,.none,.str "",.dict []]) (λ_ env _=>∃s9,env= [.fz (bz ns),.fz (.int i),.bx,.fz (.int n),.fz (.list R),.fz (.list R),.fz du,.fz (.int a),.fz bad,s9,t10]) ?_ ⟨t9,rfl⟩ ?_ ?_
 ·have e:=lp (ds:=[.list (R.take a ++ [bad] ++ R.drop a),.tuple R,.none,.str "",.dict []]) (vs:=vl [.fz (bz ns),.fz (.int i),.bx,.fz (.int n),.fz (.list R),.fz (.list R),.fz du,.fz (.int a),.fz bad,t9,t10]) (β:=β5) (ac (BI (BI (xi (i:=a) (fa:=gv 4) (fb:=gv 7) (ds:=R) rfl rfl) (lp (fr:=ae (gv 8) av) (ac rfl an) (by simp)) (by simp only[JF];omega)) (zF (i:=a) (fa:=gv 4) (fb:=gv 7) (ds:=R) rfl rfl) (by simp only[Iu,JF];omega)) (ac (dS (fa:=gv 4) (g:=nS) (x:=.list R) rfl rfl) (ac (ck _) (ac (ck _) (ac (ck _) an))))) (by simp)
  unfold dJ
  exact (congrArg (λr=>L2.R.bnd r _) e).trans rfl
 ·rintro k d env β hk ⟨s9,rfl⟩
  refine⟨[.fz (bz ns),.fz (.int i),.bx,.fz (.int n),.fz (.list R),.fz (.list R),.fz du,.fz (.int a),.fz bad,.fz d,t10],rfl,?_⟩
  have hd:Gt d/\∀ps:List Pr,d=.list (ps.map aE)->¬OM.Wn n ps:=by
   have hm:=HG hk
   simp only[HA,JQ,or_false] at hm
   rcases hm with rfl |rfl |rfl |rfl |rfl
   ·refine⟨⟨rfl,λds e=>?_⟩,λqs e wq=>?_⟩
    ·cases e
     refine⟨by simp only[Iu,JF];omega,λx hx=>?_⟩
     rcases HP.mp hx with h |h
     ·rcases HP.mp h with h |h
      ·exact hR x (Jg h)
      ·rw[IC] at h;rw[h];exact hbg
     ·exact hR x (List.mem_of_mem_drop h)
    ·have hx:bad∈qs.map aE:=by rw[<-PyData.list.inj e];simp
     obtain⟨q,hq,e2⟩:=HK.mp hx
     rw[<-e2,Bg (wq q hq)] at hbp;cases hbp
   ·exact⟨⟨rfl,λds e=>by cases e⟩,λrs e=>by cases e⟩
   ·exact⟨⟨rfl,λds e=>by cases e⟩,λrs e=>by cases e⟩
   ·exact⟨⟨rfl,λds e=>by cases e⟩,λrs e=>by cases e⟩
   ·exact⟨⟨rfl,λds e=>by cases e⟩,λrs e=>by cases e⟩
  exact o7 (fU (fW _ _ _ _ (aK (x:=.str "pairs") (y:=.str "pairs") (aV (ds:=[.int n,d]) rfl (sQ (EN h1 h8 hd.1 hd.2) rfl)) rfl (by kernel_rfl))) (mQ ⟨_,_,rfl,_,rfl⟩))
 rintro env β ⟨s9,rfl⟩
 obtain⟨c2,hc2,ec2⟩:=cT (m:=8) (by omega) (by omega) β
 obtain⟨x,_,hx2,hx3⟩:=nR (ds:=A2) (k:=c2) hc2
 obtain⟨k1,k2⟩:=Dj x hx2
 refine dw (d:=x) (aK (x:=.list A2) (lp (ds:=A2) (ac (ck _) (ac (ck _) (ac (ck _) (ac (ck _) (ac (ck _) (ac (ck _) (ac (tp (ac (ck _) an)) (ac DP an)))))))) (by decide)) (dD (ds:=[.int 8]) rfl rfl ec2) hx3) ?_
 have sx:∀d,mj [x,d]=.ok (.str "many") false:=λd=>sQ (Ey k1 k2) rfl
 exact o7 (fU (lx (c:=false) (fW _ _ _ _ (aK (x:=.str "many") (y:=.str "many") (aV (ds:=[x,.list R]) rfl (sx _)) rfl (by kernel_rfl))) (fW _ _ _ _ (aK (x:=.str "many") (y:=.str "many") (aV (ds:=[x,.none]) rfl (sx _)) rfl (by kernel_rfl)))) (mQ ⟨_,_,rfl,_,_,_,_,_,_,_,_,_,_,rfl⟩))
end RM
namespace RO
open PySem L2
abbrev Fn (K:Frag)(mg:Str->Option Value)(x:Str)(st:Stmt)(ps:List Str)(f:Addr)(fd:FuncData):Prop:=lU K mg x st ps f fd
abbrev Bt (mg:Str->Option Value):Prop:=l4 mg
end RO
section
namespace L2
open PySem PySem.Spec PyProof.Rows
section
variable {K:Frag}{H H':Hp}{a:Addr}
theorem aB.snoc {x y:Int}(q:eB K H a [.int x,.int y]):∀{vs:List V} {ps:List (Int×Int)},aB K H vs ps->aB K H (vs ++ [.ref a]) (ps ++ [(x,y)])
 |_,_,.nil=>.cons ⟨a,rfl,q⟩ .nil
 |_,_,.cons r t=>.cons r (aB.snoc q t)
def aB.len {vs:List V}{ps:List (Int×Int)}(h:aB K H vs ps):vs.length=ps.length:=Paired.length h
def aB.same {vs:List V}{ps:List (Int×Int)}(h:aB K H vs ps)(s:af H H'):aB K H' vs ps:=h.grow s.grow
def aB.at {vs:List V}{ps:List (Int×Int)}{i:Nat}{v:V}(h:aB K H vs ps)(e:vs[i]? =some v):∃p:Int×Int,ps[i]? =some p/\∃b,v=.ref b/\eB K H b [.int p.1,.int p.2]:=Paired.getP h e
def af.put {o:HO}(s:af H H')(h:H a=none)(hf:∀x y,H' a≠some (.aJ x y)):af H (L2.upd H' a o):=λb u e=>gE (s b u e) (ar e h) hf
def Ba (h:H a=none):∀x y,H a≠some (.aJ x y):=λx y z=>by rw[h] at z;cases z
def EC {xs:List V}(h:H a=some (.lst xs)):∀x y,H a≠some (.aJ x y):=λx y z=>by rw[h] at z;cases z
end
end L2
namespace RO
open PySem L2
def y6 (N:List Str)(sc:Scope)(NB:List Str)(own:Nat)(ixs:List Nat)(scope:Scope):Bool:=
 decide (scope.kind=.function) && (scope.names.all λy=>decide (scope.names.lookup y.1=some y.2)) &&
 (scope.names.all λy=>decide (y.2=.free->(sc.names.lookup y.1=some .cell\/sc.names.lookup y.1=some .free))) && decide NB.Nodup && decide (NB.length=own + ixs.length) &&
 ((List.range ixs.length).all λk=>decide (NB[own + k]? =N[ixs.getD k 0]?) && (match NB[own + k]? with |some x=>decide ((x,NameKind.free)∈scope.names) |none=>true))
def jC {X:Cx}{NB:List Str}{own:Nat}{ixs:List Nat}{scope:Scope}(h:y6 X.N X.env.scope NB own ixs scope=true):cL X NB own ixs scope:=by
 unfold y6 at h
 simp only[Ir,JR,JJ,HX] at h
 obtain⟨⟨⟨⟨⟨h1,h3⟩,h4⟩,h5⟩,h6⟩,h7⟩:=h
 refine⟨h1,h3,h4,h5,h6,λk hk=>⟨(h7 k hk).1,λx hx=>?_⟩⟩
 have:=(h7 k hk).2
 rw[hx] at this
 simpa using this
section
variable {X:Cx}{tg l:Expr}{tl:TE}{K:Frag}{H H1:Hp}{a:Addr}{xs:List V}{σ:St}
def Fw (K:Frag)(tl:TE):TI:=λσ H R=>tl σ H λx H1=>∃a xs,x=.ref a/\((dI K H1 a xs/\R (vY K a) H1)\/(eB K H1 a xs/\R (BF K a) H1))
end
def GP (K:Frag){X:Cx}(h:X.K=K:=by rfl):xQ X (B3 K):=by subst h;exact cN
def Df (K:Frag)(i j:Nat){X:Cx}{x y:Str}{px py pos:Pos}{k:Nat}(hN:X.N.Nodup)(hi:X.N[i]? =some x)(hj:X.N[j]? =some y)(hx:X.env.scope.names.lookup x=some .local)(hy:X.env.scope.names.lookup y=some .local)(hc:X.calm=true)(hK:X.K=K) :
  PG X (.Tuple [.Name x px,.Name y py] k pos) (Az K 2 (kY (h9 i) (kY (h9 j) A0))):=by
 subst hK
 exact kP hc (bX (bI hN hi (Or.inl hx) (Or.inr hx)) (bX (bI hN hj (Or.inl hy) (Or.inr hy)) i9))
section
open PySem.Spec PyProof.Rows
variable {X:Cx}{tg l:Expr}{tl:TE}
def Cq (hl:PE X l tl):PI X tg l (Fw X.K tl):=by
 intro pins s σ H R I h
 refine bB (hl pins s σ H _ I h) λv s1 ⟨x,H1,I1,r1,q1⟩=>?_
 obtain⟨a,xs,e,q⟩:=q1
 subst e
 cases r1
 rcases q with⟨hq,q⟩ | ⟨hq,q⟩
 ·obtain⟨its,rv,p,hz⟩:=I1.list hq
  refine J4 p.isList ?_
  refine⟨s1.heap.objs.size,[s1.heap.objs.size],_,_,H1,rfl,I1.kept (t':=s1.toks) λb o e=>Hx _ e,jB a _,⟨_,HR _ rfl,rfl,rfl⟩,λb hb=>?_,q⟩
  have e:b=s1.heap.objs.size:=by simpa using hb
  subst e
  exact I1.fpOk (Hv _) (I1.hok.fresh (Hv _))
 ·obtain⟨its,rv,p,hz⟩:=I1.tuple hq
  refine wpAny_pyIter_tuple (show s1.heap.IsTuple a its.toArray from p) ?_
  refine⟨s1.heap.objs.size,[s1.heap.objs.size],_,_,H1,rfl,I1.kept (t':=s1.toks) λb o e=>Hx _ e,kq a _,⟨_,HR _ rfl,rfl,rfl⟩,λb hb=>?_,q⟩
  have e:b=s1.heap.objs.size:=by simpa using hb
  subst e
  exact I1.fpOk (Hv _) (I1.hok.fresh (Hv _))
end
section
variable {K:Frag}{H H1 H':Hp}{a:Addr}{xs:List V}{σ:St}
abbrev DN (J:It)(g:TG)(tb:TS)(D:Ends)(σ:St)(H:Hp):Prop:=∃W:Nat->Nat->St->Hp->Prop,(∃m,W 0 m σ H)/\∀i m σ H,W i m σ H->
   (J.stop i H/\D.nx σ H)\/(J.go i H/\∃N:St->Hp->Prop,(∀σ' H',N σ' H'->∃m',m' < m/\W (i + 1) m' σ' H')/\∀x H',J.yld i H x H'->g x σ H' λσ2 H2=>tb {D with nx:=N,ct:=N,bk:=D.nx} σ2 H2)
def zZ (s:af H1 H')(hq:dI K H1 a xs\/eB K H1 a xs):dI K H' a xs\/eB K H' a xs:=hq.elim (λq=>.inl (s.seq q)) λq=>.inr (q.grow s.grow)
def A5 {g:TG}{tb:TS}{D:Ends}(hq:dI K H1 a xs\/eB K H1 a xs)(Pv:Nat->St->Hp->Prop)(h0:Pv 0 σ H)(hl:∀i σ H',Pv i σ H'->af H1 H')
  (hs:∀i x σ H,xs[i]? =some x->Pv i σ H->g x σ H λσ2 H2=>tb {D with nx:=Pv (i + 1),ct:=Pv (i + 1),bk:=D.nx} σ2 H2) (hd:∀σ H,Pv xs.length σ H->D.nx σ H) :
  (dI K H a xs/\DN (vY K a) g tb D σ H)\/(eB K H a xs/\DN (BF K a) g tb D σ H):=
 hq.elim (λq=>.inl ⟨(hl _ _ _ h0).seq q,qg Pv h0 (λi σ H' _ p=>(hl i σ H' p).seq q) hs hd⟩) λq=>.inr ⟨q.grow (hl _ _ _ h0).grow,zG Pv h0 (λi σ H' _ p=>q.grow (hl i σ H' p).grow) hs hd⟩
def tX (J:It)(own:Nat)(ixs:List Nat)(g:TG)(tt:TT)(te:TE)(Q:VK)(D:Addr)(σ:St)(H:Hp):Prop:=∃W:Nat->Nat->St->Hp->Prop,(∃m,W 0 m (o4 own ixs σ) (upd H D (.lst [])))/\∀i m σ' H',W i m σ' H'->
   (J.stop i H'/\(∃acc,H' D=some (.lst acc))/\Q (.ref D) H')\/
   (J.go i H'/\∃N:St->Hp->Prop,(∀σ2 H2,N σ2 H2->∃m',m' < m/\W (i + 1) m' σ2 H2)/\∀x H2,J.yld i H' x H2->cy g tt te D x σ' H2 N)
structure qQ (own:Nat)(ixs:List Nat)(wi:TI)(g:TG)(tt:TT)(te:TE)(σ:St)(H:Hp)(Q:VK):Prop where
 out:wi σ H λJ H1=>∀D,H1 D=none->tX J own ixs g tt te Q D σ H1
def rB {own:Nat}{ixs:List Nat}{wi:TI}{g:TG}{tt:TT}{te:TE}{Q:VK}(h:wi σ H λJ H1=>∀D,H1 D=none->tX J own ixs g tt te Q D σ H1):qQ own ixs wi g tt te σ H Q:=⟨h⟩
def oj {X:Cx}{NB:List Str}{own:Nat}{ixs:List Nat}{scope:Scope}{tg iter elt:Expr}{ifs:List Expr}{wi:TI}{g:TG}{tt:TT}{te:TE}{pos:Pos}(hc:X.calm=true)(S:cL X NB own ixs scope)(hi:PI X tg iter wi)
  (hg:∀C ex s3 H3 pn,PG (hV X NB scope C ex s3 H3 pn) tg g) (ht:∀C ex s3 H3 pn,zE (hV X NB scope C ex s3 H3 pn) ifs tt) (he:∀C ex s3 H3 pn,PE (hV X NB scope C ex s3 H3 pn) elt te)
  (hs:∀x,foldedSetIterable iter X.env x=pure x:=by intro _;rfl):PE X (.ListComp elt [⟨tg,iter,ifs,0⟩] scope pos) (qQ own ixs wi g tt te):=
 λpins s σ H Q I h=>pD hc S hi hg ht he hs pins s σ H Q I h.out
section
variable {own:Nat}{ixs:List Nat}{g:TG}{tt:TT}{te:TE}{Q:VK}{D:Addr}
def AJ (Pv:Nat->St->Hp->Prop)(h0:Pv 0 (o4 own ixs σ) (upd H D (.lst [])))(hl:∀i σ H,i<=xs.length->Pv i σ H->dI K H a xs)
  (hs:∀i x σ H,xs[i]? =some x->Pv i σ H->cy g tt te D x σ H (Pv (i + 1))) (hd:∀σ H,Pv xs.length σ H->(∃acc,H D=some (.lst acc))/\Q (.ref D) H):tX (vY K a) own ixs g tt te Q D σ H:=v7 Pv h0 hl hs hd
def p7 {lo:Int}{n:Nat}(Pv:Nat->St->Hp->Prop)(h0:Pv 0 (o4 own ixs σ) (upd H D (.lst [])))
  (hs:∀i σ H,i < n->Pv i σ H->cy g tt te D (.int (lo + i)) σ H (Pv (i + 1))) (hd:∀σ H,Pv n σ H->(∃acc,H D=some (.lst acc))/\Q (.ref D) H):tX (xJ lo n) own ixs g tt te Q D σ H:=tf Pv h0 hs hd
end
def p8 {i:Nat}{te:TE}{D:Addr}{x:V}{N:St->Hp->Prop}(h:te (σ.set i (some x)) H λv H5=>∃acc,H5 D=some (.lst acc)/\acc.length < sizeLine/\N (σ.set i (some x)) (upd H5 D (.lst (acc ++ [v])))):cy (h9 i) Ci te D x σ H N:=by
 unfold cy h9 Ci
 exact rX h
def yX {i j:Nat}{x y:V}{Q:St->Hp->Prop}(h:eB K H a [x,y])(q:Q ((σ.set i (some x)).set j (some y)) H):Az K 2 (kY (h9 i) (kY (h9 j) A0)) (.ref a) σ H Q:=⟨a,_,rfl,h,rfl,x,_,rfl,y,_,rfl,rfl,q⟩
def Gs {c A B:Prop}[Decidable c](h:c)(a:A):if c then A else B:=by rw[Hs h];exact a
def FZ {c A B:Prop}[Decidable c](h:¬c)(b:B):if c then A else B:=by rw[Ht h];exact b
def take_snoc {α:Type}{l:List α}{i:Nat}{x:α}(h:l[i]? =some x):l.take (i + 1)=l.take i ++ [x]:=by
 rw[Jj,h];rfl
def take_all {α:Type}(l:List α):l.take l.length=l:=IW (Hv _)
end
def gG (n:Nat):(OM.dH n).length=n * n:=by unfold OM.dH;simp
def Aq {n i:Nat}(h:i < n * n):(OM.dH n)[i]? =some (((i / n:Nat):Int),((i % n:Nat):Int)):=by
 unfold OM.dH
 rw[HH,List.getElem?_range h];rfl
def GZ {n:Nat}(h:n<=8):n * n<=64:=Kv h h
section
variable {P:Program}{w:World}{K:Frag}{mg:Str->Option Value}{base:Heap}
def uq (K:Frag):Sp:=λvs H Q _=>∃n:Nat,vs= [.int n]/\1<=n/\n<=8/\∀H' l ws,af H H'->H l=none->H' l=some (.lst ws)->aB K H' ws (OM.dH n)->Q (.ref l) H'
def z6:aI ["many"] ["many"] (aq fy):=⟨rfl,rfl,rfl,by decide +kernel,rfl,by decide +kernel,by decide +kernel⟩
def Eh:(["number","many"]:List Str).Nodup:=by decide +kernel
def xg {f:Addr}{fd:FuncData}(F:Fn K mg "every_pair" fy ["many"] f fd)(B:Bt mg):cP P w K mg base rQ 1 f fd ["many"] (uq K):=by
 refine F.F.ok z6 (λvs H Q E h=>?_) (λcdv A outer s H vs Q E hr h=>?_)
 ·obtain⟨n,rfl,_⟩:=h;rfl
 ·obtain⟨n,rfl,h1,h8,k⟩:=h
  refine⟨_,b6 (eS (oj (NB:=["number","many"]) (own:=1) (ixs:=[0]) rfl (jC (by kernel_rfl)) (g7 rfl B.range (ag (lC gz (pv 0) (pv 0)) az))
   (λC ex s3 H3 pn=>bI (i:=0) Eh rfl (Or.inl rfl) (hf:=Or.inr rfl)) (λC ex s3 H3 pn=>oo)
   (λC ex s3 H3 pn=>rP (ag (lC jc (pv 0) (pv 1)) (ag (lC iC (pv 0) (pv 1)) az))))),?_⟩
  have hn:=GZ h8
  have e0:((n:Int) * (n:Int))=((n * n:Nat):Int):=by rw[Int.natCast_mul]
  refine rB ⟨_,rfl,_,rfl,_,_,rfl,rfl,.inl ⟨by omega,by omega⟩,_,rfl,by rw[e0];omega,by rw[e0];omega,λD hD=>?_⟩
  rw[e0,IG]
  refine p7 (λi σ' H'=>(∃v,σ'= [v,some (.int n)])/\af H H'/\∃vs,H' D=some (.lst vs)/\aB K H' vs ((OM.dH n).take i)) ⟨⟨none,rfl⟩,(af.refl H).put hD (Ba hD),[],ah,.nil⟩ ?_ ?_
  ·rintro i σ' H' hi ⟨⟨v,rfl⟩,s1,vs,hv,hp⟩
   have hn0:(0:Int) < (n:Int):=by omega
   refine p8 ⟨_,rfl,_,rfl,_,_,rfl,rfl,⟨hn0,by omega⟩,_,rfl,_,rfl,_,_,rfl,rfl,hn0,by show 2<=sizeLine;rw[Ik];omega,λp hp0=>?_⟩
   have hpD:D≠p:=ar hv hp0
   have hl:=hp.len
   refine⟨vs,by rw[ao hpD];exact hv,?_,⟨_,rfl⟩,?_,vs ++ [.ref p],ah,?_⟩
   ·rw[hl,IU,Ik];rw[gG];omega
   ·exact (s1.put (s1.free hp0) (Ba hp0)).put hD (EC (xs:=vs) (by rw[ao hpD];exact hv))
   ·rw[take_snoc (Aq hi)]
    have g1:dM H' (upd H' p (.tup [.int ((0 + (i:Int)) / n),.int ((0 + (i:Int)) % n)])):=dM.new hp0
    have g2:∀o,dM (upd H' p (.tup [.int ((0 + (i:Int)) / n),.int ((0 + (i:Int)) % n)])) (upd (upd H' p (.tup [.int ((0 + (i:Int)) / n),.int ((0 + (i:Int)) % n)])) D o):=λo=>dM.list (by rw[ao hpD];exact hv)
    refine aB.snoc ?_ (hp.grow (g1.trans (g2 _)))
    refine (eB.grow ?_ (g2 _))
    refine .inl (.inl ?_)
    rw[ah,Int.zero_add];rfl
  ·rintro σ' H' ⟨_,s1,vs,hv,hp⟩
   refine⟨⟨_,hv⟩,k H' D vs s1 hD hv ?_⟩
   rw[<-gG n,take_all] at hp
   exact hp
end
end RO
end
namespace RO
open PySem L2
structure TabAt (n:Nat)(M:OM.Tb)(L:Addr)(r:Nat->Addr)(H:Hp):Prop where
 top:H L=some (.lst ((List.range n).map λi=>V.ref (r i)))
 row:∀i,i < n->H (r i)=some (.lst ((List.range n).map λj=>V.bl (M i j)))
 inj:∀i j,i < n->j < n->r i=r j->i=j
 ne:∀i,i < n->r i≠L
def tJ {n x:Nat}(h:x < n):wA n (x:Int)=some x:=by
 unfold wA;rw[Hs (by omega),Hs (by omega)];simp
def nR {α:Type}{xs:List α}{x:Nat}(h:x < xs.length):ji xs (x:Int)=xs[x]?:=by
 unfold ji;rw[tJ h];rfl
def cW {f:Nat->V}{n x:Nat}(h:x < n):ji ((List.range n).map f) (x:Int)=some (f x):=by
 rw[nR (by simpa using h),HH,List.getElem?_range h];rfl
def nj {f:Nat->V}{n x:Nat}(h:x < n):wA ((List.range n).map f).length (x:Int)=some x:=by
 rw[HS,J6];exact tJ h
def v8 {f:Nat->V}{n y:Nat}{v:V}:((List.range n).map f).set y v=(List.range n).map λj=>if j=y then v else f j:=by
 apply Kz
 intro i
 by_cases hi:i < n
 ·by_cases e:y=i
  ·subst e;simp[List.getElem?_set,hi]
  ·have e':¬i=y:=λz=>e z.symm
   simp[List.getElem?_set,hi,e,e']
 ·rw[JG (by simp;omega),JG (by simp;omega)]
section
variable {n:Nat}{M:OM.Tb}{L:Addr}{r:Nat->Addr}{H H':Hp}
def TabAt.set (T:TabAt n M L r H){x y:Nat}(hx:x < n):TabAt n (M.set x y) L r (upd H (r x) (.lst (((List.range n).map λj=>V.bl (M x j)).set y (.bl true)))):=by
 refine⟨by rw[ao (T.ne x hx).symm];exact T.top,λi hi=>?_,T.inj,T.ne⟩
 by_cases e:i=x
 ·subst e
  rw[ah,v8]
  refine congrArg _ (congrArg _ (JB λj _=>?_))
  unfold OM.Tb.set
  by_cases c:j=y
  ·simp[c]
  ·simp[c]
 ·rw[ao (λz=>e (T.inj i x hi hx z)),T.row i hi]
  refine congrArg _ (congrArg _ (JB λj _=>?_))
  unfold OM.Tb.set;simp[e]
def TabAt.same (T:TabAt n M L r H)(s:af H H'):TabAt n M L r H':=⟨s _ _ T.top,λi hi=>s _ _ (T.row i hi),T.inj,T.ne⟩
end
def om {n:Nat}{ps:List (Int×Int)}(w:OM.Wn n ps){p:Int×Int}(h:p∈ps):∃u v:Nat,p=((u:Int),(v:Int))/\u < n/\v < n:=by
 obtain⟨x,y⟩:=p
 have q:=w _ h
 simp only at q
 exact⟨x.toNat,y.toNat,by rw[Int.toNat_of_nonneg q.1.1,Int.toNat_of_nonneg q.2.1],by omega,by omega⟩
def dX {M0 M:OM.Tb}{m:Nat}{D D':Nat->Nat->Prop}(P:OM.Phase M0 M m D)(h:∀a b,D a b↔D' a b):OM.Phase M0 M m D':=λa b=>by rw[P a b,h a b]
def gZ {l:List (Int×Int)}{u v a b:Nat}:(((a:Int),(b:Int))∈l\/(a=u/\b=v))↔((a:Int),(b:Int))∈l ++ [((u:Int),(v:Int))]:=by
 rw[HP,IC,Prod.mk.injEq]
 constructor
 ·rintro (h | ⟨h1,h2⟩)
  ·exact .inl h
  ·exact .inr ⟨by omega,by omega⟩
 ·rintro (h | ⟨h1,h2⟩)
  ·exact .inl h
  ·exact .inr ⟨by omega,by omega⟩
def As {M:OM.Tb}{u v a b:Nat}:M.set u v a b=true↔M a b=true\/(a=u/\b=v):=by
 unfold OM.Tb.set
 by_cases c:a=u/\b=v
 ·simp[c]
 ·rw[Ht c];exact⟨.inl,λh=>h.resolve_right c⟩
def EU (n:Nat)(x:V):(List.replicate n [x]).flatten=(List.range n).map λ_=>x:=by
 rw[List.flatten_replicate_singleton,List.map_const',J6]
section
variable {P:Program}{w:World}{K:Frag}{mg:Str->Option Value}{base:Heap}
def xj (K:Frag):Sp:=λvs H Q _=>∃(n:Nat) (a:Addr) (xs:List V) (ps:List (Int×Int)),vs= [.int n,.ref a]/\1<=n/\n<=8/\(dI K H a xs\/eB K H a xs)/\aB K H xs ps/\OM.Wn n ps/\
 ∀H' t ws,af H H'->H t=none->H' t=some (.tup ws)->aB K H' ws (OM.bt n (OM.Tr (OM.Mem ps)))->Q (.ref t) H'
def cX:aI ["many","pairs","corners","leads","a","b","middle"] ["many","pairs"] (aq iF):=⟨rfl,rfl,rfl,by decide +kernel,rfl,by decide +kernel,by decide +kernel⟩
def EY:(["start","many"]:List Str).Nodup:=by decide +kernel
def Co:(["a","b","leads"]:List Str).Nodup:=by decide +kernel
set_option maxHeartbeats 1000000 in
theorem vj {f g:Addr}{fd gd:FuncData}(F:Fn K mg "closed" iF ["many","pairs"] f fd)(G:Fn K mg "every_pair" fy ["many"] g gd)(GE:cP P w K mg base rQ 1 g gd ["many"] (uq K))(B:Bt mg):cP P w K mg base rQ 2 f fd ["many","pairs"] (xj K):=by
 refine F.F.ok cX (λvs H Q E h=>?_) (λcdv A outer s H vs Q E hr h=>?_)
 ·obtain⟨n,a,xs,ps,rfl,_⟩:=h;rfl
 ·obtain⟨n,a,xs,ps,rfl,h1,h8,hq,hp,wn,k⟩:=h
  refine⟨_,bq (gf (i:=2) cX.nd rfl (Or.inl rfl) (j5 GE hr rfl G.mg G.F.kp G.b .nil Bb (ag (pv 0) az)))
   (bq (gf (i:=3) cX.nd rfl (Or.inr rfl) (oj (NB:=["start","many"]) (own:=1) (ixs:=[0]) rfl (jC (by kernel_rfl)) (g7 rfl B.range (ag (pv 0) az))
    (λC ex s3 H3 pn=>bI (i:=0) EY rfl (Or.inl rfl) (hf:=Or.inr rfl)) (λC ex s3 H3 pn=>oo) (λC ex s3 H3 pn=>lC Ck (jw (ag mS az)) (pv 1))))
   (bq (oG PassesOwn.never rfl (Cq (pv 1)) (kP rfl (bX (bI (i:=4) cX.nd rfl (Or.inl rfl)) (bX (bI (i:=5) cX.nd rfl (Or.inl rfl)) i9)))
    (b6 (o8 mS (rJ (gy cN (pv 3) (pv 4) (λ_ _=>rfl)) (pv 5) set_list))))
   (bq (oG PassesOwn.never rfl (g7 rfl B.range (ag (pv 0) az)) (bI (i:=6) cX.nd rfl (Or.inl rfl))
    (b6 (oG PassesOwn.never rfl (tH (pv 2)) (kP rfl (bX (bI (i:=4) cX.nd rfl (Or.inl rfl)) (bX (bI (i:=5) cX.nd rfl (Or.inl rfl)) i9)))
     (b6 (uB (PW.pt (Cn (lJ (gy cN (gy cN (pv 3) (pv 4) (λ_ _=>rfl)) (pv 6) (λ_ _=>rfl))) (zS (lJ (gy cN (gy cN (pv 3) (pv 6) (λ_ _=>rfl)) (pv 5) (λ_ _=>rfl))))))
      (b6 (o8 mS (rJ (gy cN (pv 3) (pv 4) (λ_ _=>rfl)) (pv 5) set_list))) j8)))))
   (b6 (eS (e9 eJ rfl B.tuple (by decide +kernel) (ag (oj (NB:=["a","b","leads"]) (own:=2) (ixs:=[3]) rfl (jC (by kernel_rfl)) (tH (pv 2))
    (λC ex s3 H3 pn=>Df K 0 1 Co rfl rfl rfl rfl rfl rfl)
    (λC ex s3 H3 pn=>tK (lJ (gy (GP K) (gy (GP K) (pv 2) (pv 0) (λ_ _=>rfl)) (pv 1) (λ_ _=>rfl)))) (λC ex s3 H3 pn=>rP (ag (pv 0) (ag (pv 1) az)))) az))))))),?_⟩
  have hn:=GZ h8
  have hn0:(0:Int)<=(n:Int):=by omega
  refine⟨_,rfl,n,rfl,h1,h8,λH1 c ws s1 hc0 hc hw=>?_⟩
  have hwl:ws.length=n * n:=by rw[hw.len,gG]
  have gw:OM.Wn n (OM.dH n):=λp hp=>OM.iK.mp hp
  refine rB ?_
  refine⟨_,rfl,n,rfl,by omega,by omega,λD hD=>?_⟩
  rw[IG]
  refine p7 (λi σ' H'=>(∃v,σ'= [v,some (.int n)])/\af H1 H'/\∃r:Nat->Addr,H' D=some (.lst ((List.range i).map λk=>V.ref (r k)))/\
   (∀k,k < i->H' (r k)=some (.lst ((List.range n).map λ_=>V.bl false))/\H1 (r k)=none/\r k≠D)/\∀j k,j < i->k < i->r j=r k->j=k)
   ?_ ?_ ?_
  ·exact⟨⟨none,rfl⟩,(af.refl H1).put hD (Ba hD),λ_=>0,ah,λk hk=>absurd hk (Nat.not_lt_zero _),λj k hj=>absurd hj (Nat.not_lt_zero _)⟩
  ·rintro i σ' H' hi ⟨⟨v,rfl⟩,s2,r,hr0,hr1,hr2⟩
   refine p8 ⟨by show 1<=sizeLine;rw[Ik];omega,λp hp0=>⟨_,rfl,p,n,[.bl false],rfl,rfl,ah,by omega,by omega,by show 1 * (n:Int).toNat<=sizeLine;rw[Ik];omega,λq hq0=>?_⟩⟩
   have hqp:q≠p:=by intro e;subst e;rw[ah] at hq0;cases hq0
   have hq1:H' q=none:=by rw[ao hqp] at hq0;exact hq0
   have hDp:D≠p:=ar hr0 hp0
   have hDq:D≠q:=ar hr0 hq1
   rw[IG,EU]
   refine⟨_,by rw[ao hDq,ao hDp];exact hr0,by rw[HS,J6,Ik];omega,⟨_,rfl⟩,((s2.put (s2.free hp0) (Ba hp0)).put (s2.free hq1) (Ba hq0)).put hD (EC (by rw[ao hDq,ao hDp];exact hr0)),λk=>if k=i then q else r k,?_,λk hk=>?_,λj k hj hk e=>?_⟩
   ·have e:(List.range i).map (λk=>V.ref (r k))=(List.range i).map (λk=>V.ref (if k=i then q else r k)):=JB λk hk=>by
     have:=HX.mp hk
     rw[Ht (by omega)]
    rw[ah,List.range_succ,JZ,e]
    simp
   ·dsimp only
    by_cases e:k=i
    ·rw[Hs e]
     exact⟨by rw[ao hDq.symm,ah],s2.free hq1,hDq.symm⟩
    ·rw[Ht e]
     obtain⟨a1,a2,a3⟩:=hr1 k (by omega)
     exact⟨by rw[ao a3,ao (ar a1 hq1),ao (ar a1 hp0)];exact a1,a2,a3⟩
   ·dsimp only at e
    by_cases ej:j=i
    ·by_cases ek:k=i
     ·omega
     ·rw[Hs ej,Ht ek] at e
      exact absurd e.symm (ar (hr1 k (by omega)).1 hq1)
    ·by_cases ek:k=i
     ·rw[Ht ej,Hs ek] at e
      exact absurd e (ar (hr1 j (by omega)).1 hq1)
     ·rw[Ht ej,Ht ek] at e
      exact hr2 j k (by omega) (by omega) e
  rintro σ2 H2 ⟨_,s2,r,hr0,hr1,hr2⟩
  refine⟨⟨_,hr0⟩,?_⟩
  have sep:∀i,i < n->H1 (r i)=none:=λi hi=>(hr1 i hi).2.1
  have T0:TabAt n (λ_ _=>false) D r H2:=⟨hr0,λi hi=>(hr1 i hi).1,hr2,λi hi=>(hr1 i hi).2.2⟩
  refine⟨_,rfl,a,xs,rfl,A5 (H1:=H1) (zZ s1 hq) (λi σ' H'=>(∃x y,σ'= [some (.int n),some (.ref a),some (.ref c),some (.ref D),x,y,none])/\af H1 H'/\∃M,TabAt n M D r H'/\∀u v:Nat,M u v=true↔((u:Int),(v:Int))∈ps.take i)
   ⟨⟨none,none,rfl⟩,s2,_,T0,λu v=>by simp⟩ (λi σ' H' q=>q.2.1) ?_ ?_⟩
  ·rintro i x σ' H' hx ⟨⟨_,_,rfl⟩,s3,M,T,hM⟩
   obtain⟨p,hpi,b,rfl,hb⟩:=(hp.same (s1.trans s3)).at hx
   obtain⟨u,v,rfl,hu,hv⟩:=om wn (HG hpi)
   refine yX hb ?_
   refine⟨_,rfl,_,rfl,D,_,u,_,rfl,rfl,.inl (.inl T.top),cW hu,_,rfl,r u,_,v,v,rfl,rfl,T.row u hu,nj hv,⟨_,_,rfl⟩,s3.put (sep u hu) (EC (T.row u hu)),_,T.set hu,λx y=>?_⟩
   rw[take_snoc hpi,<-gZ,As,hM]
  rintro σ3 H3 ⟨⟨x3,y3,rfl⟩,s3,M3,T3,hM3⟩
  rw[hp.len,take_all] at hM3
  refine⟨_,rfl,n,rfl,by omega,by omega,?_⟩
  rw[IG]
  refine v9 (λm σ' H'=>(∃x y z,σ'= [some (.int n),some (.ref a),some (.ref c),some (.ref D),x,y,z])/\af H1 H'/\∃M,TabAt n M D r H'/\OM.Tab n ps M/\OM.AS M m)
   ⟨⟨_,_,_,rfl⟩,s3,M3,T3,⟨λa b h=>by have:=wn _ ((hM3 a b).mp h);simp only at this;omega,λa b h=>(hM3 a b).mpr h,λa b h=>.one ((hM3 a b).mp h)⟩,λk a b hk=>absurd hk (Nat.not_lt_zero _)⟩ ?_ ?_
  ·rintro m σ' H' hm ⟨⟨_,_,_,rfl⟩,s4,M,T,TT,Th⟩
   rw[Int.zero_add]
   refine⟨_,rfl,c,rfl,⟨ws,.inl (.inl (s4 _ _ hc))⟩,qg (xs:=ws) (λi σ' H'=>(∃x y,σ'= [some (.int n),some (.ref a),some (.ref c),some (.ref D),x,y,some (.int m)])/\af H1 H'/\∃M',TabAt n M' D r H'/\OM.Phase M M' m λu v=>((u:Int),(v:Int))∈(OM.dH n).take i)
    ⟨⟨_,_,rfl⟩,s4,M,T,dX (OM.Phase.start M m) λa b=>by simp⟩ (λi σ' H' _ q=>.inl (.inl (q.2.1 _ _ hc))) ?_ ?_⟩
   ·rintro i x σ' H' hx ⟨⟨_,_,rfl⟩,s5,M',T',Ph⟩
    obtain⟨p,hpi,b,rfl,hb⟩:=(hw.same s5).at hx
    obtain⟨u,v,rfl,hu,hv⟩:=om gw (HG hpi)
    refine yX hb ?_
    have st:=Ph.step u v
    refine⟨_,rfl,_,rfl,D,_,u,_,rfl,rfl,.inl (.inl T'.top),cW hu,_,rfl,r u,_,m,_,rfl,rfl,.inl (.inl (T'.row u hu)),cW hm,_,rfl,?_⟩
    by_cases c1:M' u m=true
    ·refine Gs c1 ?_
     refine⟨_,rfl,_,rfl,D,_,m,_,rfl,rfl,.inl (.inl T'.top),cW hm,_,rfl,r m,_,v,_,rfl,rfl,.inl (.inl (T'.row m hm)),cW hv,_,rfl,?_⟩
     by_cases c2:M' m v=true
     ·refine Gs c2 ?_
      rw[Hs ⟨c1,c2⟩] at st
      refine⟨_,rfl,_,rfl,D,_,u,_,rfl,rfl,.inl (.inl T'.top),cW hu,_,rfl,r u,_,v,v,rfl,rfl,T'.row u hu,nj hv,⟨_,_,rfl⟩,s5.put (sep u hu) (EC (T'.row u hu)),_,T'.set hu,dX st λa b=>?_⟩
      rw[take_snoc hpi];exact gZ
     ·refine FZ c2 ?_
      rw[Ht λz=>c2 z.2] at st
      refine⟨⟨_,_,rfl⟩,s5,_,T',dX st λa b=>?_⟩
      rw[take_snoc hpi];exact gZ
    ·refine FZ c1 ?_
     rw[Ht λz=>c1 z.1] at st
     refine lY ⟨⟨_,_,rfl⟩,s5,_,T',dX st λa b=>?_⟩
     rw[take_snoc hpi];exact gZ
   ·rintro σ' H' ⟨⟨_,_,rfl⟩,s5,M',T',Ph⟩
    rw[hw.len,take_all] at Ph
    have dn:=Ph.done (n:=n) (λa b ha hb=>OM.iK.mpr ⟨⟨by simp,by simp;omega⟩,by simp,by simp;omega⟩) TT.inn Th
    exact⟨⟨_,_,_,rfl⟩,s5,M',T',TT.phase Ph,dn.1⟩
  rintro σ4 H4 ⟨⟨x4,y4,z4,rfl⟩,s4,M,T,TT,Th⟩
  refine rB ⟨_,rfl,c,rfl,⟨ws,.inl (.inl (s4 _ _ hc))⟩,λD' hD'=>AJ (xs:=ws) (λi σ' H'=>(∃x y,σ'= [x,y,some (.ref D)])/\af H4 H'/\∃vs,H' D'=some (.lst vs)/\aB K H' vs (((OM.dH n).take i).filter λp=>M p.1.toNat p.2.toNat))
   ⟨⟨_,_,rfl⟩,(af.refl H4).put hD' (Ba hD'),[],ah,.nil⟩ (λi σ' H' _ q=>.inl (.inl (q.2.1 _ _ (s4 _ _ hc)))) ?_ ?_⟩
  ·rintro i x σ' H' hx ⟨⟨_,_,rfl⟩,s5,vs,hv,hpv⟩
   obtain⟨p,hpi,b,rfl,hb⟩:=(hw.same (s4.trans s5)).at hx
   obtain⟨u,v,rfl,hu,hv'⟩:=om gw (HG hpi)
   refine yX hb ?_
   have T':=T.same s5
   refine⟨_,rfl,_,rfl,D,_,u,_,rfl,rfl,.inl (.inl T'.top),cW hu,_,rfl,r u,_,v,_,rfl,rfl,.inl (.inl (T'.row u hu)),cW hv',_,rfl,?_⟩
   by_cases c1:M u v=true
   ·refine Gs c1 ?_
    refine⟨_,rfl,_,rfl,by show 2<=sizeLine;rw[Ik];omega,λp hp0=>?_⟩
    have hpD:D'≠p:=ar hv hp0
    refine⟨vs,by rw[ao hpD];exact hv,?_,⟨_,_,rfl⟩,(s5.put (s5.free hp0) (Ba hp0)).put hD' (EC (by rw[ao hpD];exact hv)),_,ah,?_⟩
    ·rw[hpv.len]
     refine Nat.lt_of_le_of_lt (Kc ..) ?_
     rw[IU,gG,Ik];omega
    ·rw[take_snoc hpi,List.filter_append,List.filter_cons_of_pos (by simpa using c1),List.filter_nil]
     have g1:dM H' (upd H' p (.tup [.int u,.int v])):=dM.new hp0
     have g2:∀o,dM (upd H' p (.tup [.int u,.int v])) (upd (upd H' p (.tup [.int u,.int v])) D' o):=λo=>dM.list (by rw[ao hpD];exact hv)
     refine aB.snoc ?_ (hpv.grow (g1.trans (g2 _)))
     exact eB.grow (.inl (.inl ah)) (g2 _)
   ·refine FZ c1 ?_
    refine⟨⟨_,_,rfl⟩,s5,vs,hv,?_⟩
    rw[take_snoc hpi,List.filter_append,List.filter_cons_of_neg (by simpa using c1),List.filter_nil,Jt]
    exact hpv
  ·rintro σ' H' ⟨_,s5,vs,hv,hpv⟩
   rw[hw.len,take_all] at hpv
   refine⟨⟨_,hv⟩,D',vs,rfl,.inl ⟨.inl (.inl hv),λt ht=>?_⟩⟩
   have sA:af H H':=(s1.trans s4).trans s5
   refine k _ t vs (sA.put (sA.free ht) (Ba ht)) (sA.free ht) ah ?_
   have e:((OM.dH n).filter λp=>M p.1.toNat p.2.toNat)=OM.bt n (OM.Tr (OM.Mem ps)):=by
    unfold OM.bt
    refine List.filter_congr λp hp=>?_
    obtain⟨u,v,rfl,hu,hv⟩:=om gw hp
    have:=TT.all wn Th u v
    simp only[IG]
    rw[Jf,this]
    simp
   rw[e] at hpv
   exact hpv.grow (dM.new ht)
end
end RO
namespace RO
open PySem L2 RM
section
variable {P:Program}{w:World}{K:Frag}{mg:Str->Option Value}{base:Heap}{ca:Str->Addr}
def Hg {k:Nat}{f:Addr}{fd:FuncData}{ps:List Str}{sp:Sp}(F:cP P w K mg base rQ k f fd ps sp):cP P w K mg base (i7 P w) k f fd ps sp:=
 ⟨F.len,λA outer s H args us vs Q E hr he hb hv hs=>J9 (F.run A outer s H args us vs Q E hr he hb hv hs) λr s' h=>by
  cases r with
  |ok x=>cases x <;> exact h
  |error e=>exact h.elim⟩
def rn {G H:Hp}(s:af G H){ws:List V}{ps:List Pr}(h:aB K H ws ps):aB K (jx G H) ws ps:=Paired.mapP h λv p ⟨a,e,q⟩=>⟨a,e,kN s q⟩
def lA {ds:List D}(h:b8 ds≠.bad):∃(n:Nat) (d:D) (ps:List Pr),ds= [.int n,d]/\jT d=some (ps.map aE)/\1<=n/\n<=8/\OM.Wn n ps/\b8 ds=.ok (.tuple ((OM.bt n (OM.Tr (OM.Mem ps))).map aE)) false:=by
 unfold b8 at h
 split at h
 ·rename_i n d
  cases q:jT d with
  |none=>rw[q] at h;exact absurd rfl h
  |some es=>
   rw[q] at h
   dsimp only at h
   cases q2:cG es with
   |none=>rw[q2] at h;exact absurd rfl h
   |some ps=>
    rw[q2] at h
    dsimp only at h
    by_cases c:1<=n/\n<=8/\OM.Wn n.toNat ps
    ·have e:((n.toNat:Nat):Int)=n:=by omega
     refine⟨n.toNat,d,ps,by rw[e],by rw[q,hJ q2],by omega,by omega,c.2.2,?_⟩
     unfold b8
     dsimp only
     rw[q]
     dsimp only
     rw[q2]
     dsimp only
     rw[Hs c]
    ·rw[Ht c] at h;exact absurd rfl h
 ·exact absurd rfl h
def tD {f g:Addr}{fd gd:FuncData}(F:lU K mg "closed" iF ["many","pairs"] f fd)(E:lU K mg "every_pair" fy ["many"] g gd)(B:l4 mg):ij P w K mg base ca "closed" ["many","pairs"] 3 b8:=by
 refine⟨⟨f,fd,F.mg,F.F.kp,F.b,((Hg (vj F E (xg E B) B)).mono (by decide)).imp ?_⟩,λds h=>?_⟩
 ·rintro vs H Q X ⟨G,ds,s,hl,r,h⟩
  have hb:b8 ds≠.bad:=λz=>by rw[z] at h;exact h
  obtain⟨n,d,ps,rfl,hd,h1,h8,wn,e⟩:=lA hb
  rw[e] at h
  cases r with
  |cons r1 r=>
   cases r with
   |cons r2 r=>
    cases r
    cases r1
    obtain⟨a,xs,rfl,hq,hr⟩:=(il.seq (B:=none) (G:=G) (H:=G) (.inl r2) hd (af.refl _))
    refine⟨n,a,xs,ps,rfl,h1,h8,hq.elim (λq=>.inl (s.seq q)) (λq=>.inr (q.grow s.grow)),(hr.pairs).grow s.grow,wn,λH' t ws hh ht ht' hp=>?_⟩
    have s2:=s.trans hh
    refine h (.ref t) (jx G H') H' hh nu (p0 s2) (λb m hb=>by rw[uK hh m];exact hb) ?_
    exact .tup (kN s2 (.inl (.inl ht'))) (aB.rps (rn s2 hp))
 ·obtain⟨n,d,ps,rfl,_⟩:=lA h
  rfl
end
end RO
namespace RO
open PySem L2
def strsOf:List Expr->Option (List Str)
 | []=>some []
 | .Constant (.str i) _ _ :: es=>(strsOf es).map λr=>i :: r
 |_=>none
theorem uh {X:Cx}:∀{es:List Expr} {ns:List Str},strsOf es=some ns->PA X es λ_ H Q=>Q (ns.map V.str) H
 | [],ns,h=>by
  have e:ns= []:=by unfold strsOf at h;exact (Option.some.inj h).symm
  subst e
  exact az
 |e :: es,ns,h=>by
  unfold strsOf at h
  split at h
  ·cases ‹_ :: _= []›
  ·next i a b es' heq=>
   cases heq
   cases q:strsOf es with
   |none=>rw[q] at h;cases h
   |some r=>
    rw[q] at h
    have e2:i :: r=ns:=Option.some.inj h
    subst e2
    exact ag kh (uh q) rfl
  ·cases h
open RM (fQ)
structure Er (mg:Str->Option Value)(R c0 c1 c2 c3 c4 c5 c6 c7 c8 c9 c10 c11:Addr):Prop where
 mR:mg "RankError"=some (.ref R)
 m0:mg "NoOrder"=some (.ref c0)
 m1:mg "NoMany"=some (.ref c1)
 m2:mg "NoPairs"=some (.ref c2)
 m3:mg "Ring"=some (.ref c3)
 m4:mg "NoThing"=some (.ref c4)
 m5:mg "NoRow"=some (.ref c5)
 m6:mg "NoRows"=some (.ref c6)
 m7:mg "NoNumber"=some (.ref c7)
 m8:mg "NoChain"=some (.ref c8)
 m9:mg "NoTurns"=some (.ref c9)
 m10:mg "NoPoints"=some (.ref c10)
 m11:mg "NoText"=some (.ref c11)
structure v3 (K:Frag)(D R c0 c1 c2 c3 c4 c5 c6 c7 c8 c9 c10 c11:Addr)(j:Nat):Prop where
 ex:pL K D
 R:PySem.W.kitOne K (.ref D) (.ref R)=some true
 V:PySem.W.kitOne K (.ref D) (.type "ValueError")=some true
 k0:PySem.W.kitOne K (.ref D) (.ref c0)=some (decide (0=j))
 k1:PySem.W.kitOne K (.ref D) (.ref c1)=some (decide (1=j))
 k2:PySem.W.kitOne K (.ref D) (.ref c2)=some (decide (2=j))
 k3:PySem.W.kitOne K (.ref D) (.ref c3)=some (decide (3=j))
 k4:PySem.W.kitOne K (.ref D) (.ref c4)=some (decide (4=j))
 k5:PySem.W.kitOne K (.ref D) (.ref c5)=some (decide (5=j))
 k6:PySem.W.kitOne K (.ref D) (.ref c6)=some (decide (6=j))
 k7:PySem.W.kitOne K (.ref D) (.ref c7)=some (decide (7=j))
 k8:PySem.W.kitOne K (.ref D) (.ref c8)=some (decide (8=j))
 k9:PySem.W.kitOne K (.ref D) (.ref c9)=some (decide (9=j))
 k10:PySem.W.kitOne K (.ref D) (.ref c10)=some (decide (10=j))
 k11:PySem.W.kitOne K (.ref D) (.ref c11)=some (decide (11=j))
 j12:j < 12
section
variable {P:Program}{w:World}{K:Frag}{mg:Str->Option Value}{base:Heap}
def uL (K:Frag)(R c0 c1 c2 c3 c4 c5 c6 c7 c8 c9 c10 c11:Addr):Sp:=λvs H Q _=>∃(ea D:Addr) (j:Nat),vs= [.ref ea]/\H ea=some (.ext (fm ea (.ref D)))/\v3 K D R c0 c1 c2 c3 c4 c5 c6 c7 c8 c9 c10 c11 j/\∀H',af H H'->Q (.str (fQ.getD j "")) H'
def ja:aI ["e","found","words"] ["e"] (aq gJ):=⟨rfl,rfl,rfl,by decide +kernel,rfl,by decide +kernel,by decide +kernel⟩
def qU:∃(es:List Expr) (p1 p2 p3:Pos),aY gJ=(aY gJ).take 5 ++ .Assign [.Name "words" p1] (.List es p2) p3 :: (aY gJ).drop 6/\strsOf es=some fQ:=⟨_,_,_,_,rfl,by kernel_rfl⟩
def xT (j:Nat):List Bool:=[decide (0=j),decide (1=j),decide (2=j),decide (3=j),decide (4=j),decide (5=j),decide (6=j),decide (7=j),decide (8=j),decide (9=j),decide (10=j),decide (11=j)]
def xO:∀j,j < 12->(xT j).count true=1:=by decide +kernel
def Dz:∀j,j < 12->(xT j).idxOf true=j:=by decide +kernel
def Dp:∀j,j < 12->true∈xT j:=by decide +kernel
def yA (j:Nat)(h:j < 12):ji (fQ.map V.str) (j:Int)=some (.str (fQ.getD j "")):=by
 have:j=0\/j=1\/j=2\/j=3\/j=4\/j=5\/j=6\/j=7\/j=8\/j=9\/j=10\/j=11:=by omega
 rcases this with rfl |rfl |rfl |rfl |rfl |rfl |rfl |rfl |rfl |rfl |rfl |rfl <;> rfl
def dc {n:Nat}(h:n<=100):n<=sizeLine:=by rw[Ik];omega
set_option maxHeartbeats 2000000 in
theorem xK {f R c0 c1 c2 c3 c4 c5 c6 c7 c8 c9 c10 c11:Addr}{fd:FuncData}(F:Fn K mg "_law_marks" gJ ["e"] f fd)(e:Er mg R c0 c1 c2 c3 c4 c5 c6 c7 c8 c9 c10 c11)(B:Bt mg)(hv:mg "ValueError"=none):nt P w K mg base rQ 1 f fd ["e"] (uL K R c0 c1 c2 c3 c4 c5 c6 c7 c8 c9 c10 c11):=by
 refine F.F.okH ja (λvs H Q E h=>?_) (λcdv A outer s H vs Q E hr h=>?_)
 ·obtain⟨ea,D,j,rfl,_⟩:=h;rfl
 ·obtain⟨ea,D,j,rfl,hx,kt,k⟩:=h
  obtain⟨es,p1,p2,p3,hb,hes⟩:=qU
  rw[hb]
  refine⟨_,bq (uB (PW.pt (A9 (tu (lJ (aL aP rfl B.isinstance (by decide +kernel) (ag (pv 0) (ag (bJ rfl e.mR (show RelV (.ref R) _ from rfl)) az))) λ_=>rfl)) (xc (tu (lJ (aL aP rfl B.isinstance (by decide +kernel) (ag (pv 0) (ag (uN rfl hv (by decide +kernel) (show RelV (.ty "ValueError") _ from rfl)) az))) λ_=>rfl))))) (b6 (eS kh)) j8)
   (bq (gf (i:=1) ja.nd rfl (Or.inl rfl) (jw (ag (aL aP rfl B.isinstance (by decide +kernel) (ag (pv 0) (ag (bJ rfl e.m0 (show RelV (.ref c0) _ from rfl)) az))) (ag (aL aP rfl B.isinstance (by decide +kernel) (ag (pv 0) (ag (bJ rfl e.m1 (show RelV (.ref c1) _ from rfl)) az))) (ag (aL aP rfl B.isinstance (by decide +kernel) (ag (pv 0) (ag (bJ rfl e.m2 (show RelV (.ref c2) _ from rfl)) az))) (ag (aL aP rfl B.isinstance (by decide +kernel) (ag (pv 0) (ag (bJ rfl e.m3 (show RelV (.ref c3) _ from rfl)) az))) az))))))
   (bq (gf (i:=1) ja.nd rfl (Or.inl rfl) (lC xG (pv 1) (jw (ag (aL aP rfl B.isinstance (by decide +kernel) (ag (pv 0) (ag (bJ rfl e.m4 (show RelV (.ref c4) _ from rfl)) az))) (ag (aL aP rfl B.isinstance (by decide +kernel) (ag (pv 0) (ag (bJ rfl e.m5 (show RelV (.ref c5) _ from rfl)) az))) (ag (aL aP rfl B.isinstance (by decide +kernel) (ag (pv 0) (ag (bJ rfl e.m6 (show RelV (.ref c6) _ from rfl)) az))) (ag (aL aP rfl B.isinstance (by decide +kernel) (ag (pv 0) (ag (bJ rfl e.m7 (show RelV (.ref c7) _ from rfl)) az))) az)))))))
   (bq (gf (i:=1) ja.nd rfl (Or.inl rfl) (lC xG (pv 1) (jw (ag (aL aP rfl B.isinstance (by decide +kernel) (ag (pv 0) (ag (bJ rfl e.m8 (show RelV (.ref c8) _ from rfl)) az))) (ag (aL aP rfl B.isinstance (by decide +kernel) (ag (pv 0) (ag (bJ rfl e.m9 (show RelV (.ref c9) _ from rfl)) az))) (ag (aL aP rfl B.isinstance (by decide +kernel) (ag (pv 0) (ag (bJ rfl e.m10 (show RelV (.ref c10) _ from rfl)) az))) (ag (aL aP rfl B.isinstance (by decide +kernel) (ag (pv 0) (ag (bJ rfl e.m11 (show RelV (.ref c11) _ from rfl)) az))) az)))))))
   (bq (uB (uF BC (qO JA PySem.F.slot_list_count PySem.F.type_list_count vt (pv 1) (ag mS az)) kR (bG _)) (b6 (eS kh)) j8)
   (bq (gf (i:=2) ja.nd rfl (Or.inl rfl) (jw (uh hes)))
   (b6 (eS (gy cN (pv 2) (qO JA PySem.F.slot_list_index PySem.F.type_list_index vW (pv 1) (ag mS az)) (λ_ _=>rfl))))))))),?_⟩
  refine⟨_,rfl,ea,D,_,_,true,rfl,λu r=>r,hx,kt.ex,kt.R,_,rfl,lY ?_⟩
  refine⟨_,rfl,ea,D,_,_,true,rfl,λu r=>r,hx,kt.ex,kt.V,_,rfl,lY ?_⟩
  refine⟨_,rfl,ea,D,_,_,_,rfl,λu r=>r,hx,kt.ex,kt.k0,_,rfl,ea,D,_,_,_,rfl,λu r=>r,hx,kt.ex,kt.k1,_,rfl,ea,D,_,_,_,rfl,λu r=>r,hx,kt.ex,kt.k2,_,rfl,ea,D,_,_,_,rfl,λu r=>r,hx,kt.ex,kt.k3,dc (by show 4<=100;omega),λq1 h1=>?_⟩
  have s1:=af.new (o:=.lst [.bl (decide (0=j)),.bl (decide (1=j)),.bl (decide (2=j)),.bl (decide (3=j))]) h1
  refine⟨_,rfl,_,rfl,ea,D,_,_,_,rfl,λu r=>r,s1 _ _ hx,kt.ex,kt.k4,_,rfl,ea,D,_,_,_,rfl,λu r=>r,s1 _ _ hx,kt.ex,kt.k5,_,rfl,ea,D,_,_,_,rfl,λu r=>r,s1 _ _ hx,kt.ex,kt.k6,_,rfl,ea,D,_,_,_,rfl,λu r=>r,s1 _ _ hx,kt.ex,kt.k7,dc (by show 4<=100;omega),λq2 h2=>?_⟩
  refine⟨q1,q2,_,_,rfl,rfl,af.new h2 _ _ ah,ah,dc (by show 8<=100;omega),λq3 h3=>?_⟩
  have s2:=s1.trans (af.new (o:=.lst [.bl (decide (4=j)),.bl (decide (5=j)),.bl (decide (6=j)),.bl (decide (7=j))]) h2)
  have s3:=s2.trans (af.new (o:=.lst ([.bl (decide (0=j)),.bl (decide (1=j)),.bl (decide (2=j)),.bl (decide (3=j))] ++ [.bl (decide (4=j)),.bl (decide (5=j)),.bl (decide (6=j)),.bl (decide (7=j))])) h3)
  refine⟨_,rfl,_,rfl,ea,D,_,_,_,rfl,λu r=>r,s3 _ _ hx,kt.ex,kt.k8,_,rfl,ea,D,_,_,_,rfl,λu r=>r,s3 _ _ hx,kt.ex,kt.k9,_,rfl,ea,D,_,_,_,rfl,λu r=>r,s3 _ _ hx,kt.ex,kt.k10,_,rfl,ea,D,_,_,_,rfl,λu r=>r,s3 _ _ hx,kt.ex,kt.k11,dc (by show 4<=100;omega),λq4 h4=>?_⟩
  refine⟨q3,q4,_,_,rfl,rfl,af.new h4 _ _ ah,ah,dc (by show 12<=100;omega),λq5 h5=>?_⟩
  have s5:=(s3.trans (af.new (o:=.lst [.bl (decide (8=j)),.bl (decide (9=j)),.bl (decide (10=j)),.bl (decide (11=j))]) h4)).trans (af.new (o:=.lst ([.bl (decide (0=j)),.bl (decide (1=j)),.bl (decide (2=j)),.bl (decide (3=j))] ++ [.bl (decide (4=j)),.bl (decide (5=j)),.bl (decide (6=j)),.bl (decide (7=j))] ++ [.bl (decide (8=j)),.bl (decide (9=j)),.bl (decide (10=j)),.bl (decide (11=j))])) h5)
  refine⟨_,rfl,.inl ⟨rfl,_,.inl (.inl ah)⟩,q5,xT j,true,rfl,rfl,.inl (.inl ah),?_⟩
  rw[xO j kt.j12]
  refine⟨rfl,_,rfl,lY ?_⟩
  refine⟨dc (by show 12<=100;decide),λq6 h6=>?_⟩
  have n56:q5≠q6:=ar ah h6
  refine⟨_,rfl,_,rfl,.inl ⟨rfl,_,.inl (.inl ((ao n56).trans ah))⟩,q5,xT j,true,rfl,rfl,.inl (.inl ((ao n56).trans ah)),Dp j kt.j12,?_⟩
  rw[Dz j kt.j12]
  exact⟨q6,_,_,_,rfl,rfl,.inl (.inl ah),yA j kt.j12,k _ (s5.trans (af.new h6))⟩
end
def BM {P:Program}{w:World}{K:Frag}{mg:Str->Option Value}{base:Heap}{ca:Str->Addr}{f R c0 c1 c2 c3 c4 c5 c6 c7 c8 c9 c10 c11:Addr}{fd:FuncData}{tbl:List (Str×Nat)}(F:lU K mg "_law_marks" gJ ["e"] f fd)(e:Er mg R c0 c1 c2 c3 c4 c5 c6 c7 c8 c9 c10 c11)(B:l4 mg)(hv:mg "ValueError"=none)
  (ha:∀c j,tbl.lookup c=some j->Mt K (.ref (ca c)) R/\v3 K (ca c) R c0 c1 c2 c3 c4 c5 c6 c7 c8 c9 c10 c11 j):Aj P w K mg base ca "RankError" "_law_marks" (RM.rY tbl):=by
 have O:nt P w K mg base rQ 1 f fd ["e"] (uL K R c0 c1 c2 c3 c4 c5 c6 c7 c8 c9 c10 c11):=xK F e B hv
 refine⟨f,R,fd,λD x=>∃j,v3 K D R c0 c1 c2 c3 c4 c5 c6 c7 c8 c9 c10 c11 j/\x=fQ.getD j "",?_,F.mg,F.F.kp,F.b,e.mR,λc z h=>?_⟩
 ·exact⟨λvs H Q E q=>by obtain⟨ea,D,x,rfl,_⟩:=q;rfl,λA outer s H args us vs Q E hr he hb hv' hs=>O.run A outer s H args us vs Q E hr he hb hv' (by
   obtain⟨ea,D,x,rfl,hx,⟨j,kj,rfl⟩,q⟩:=hs
   exact⟨ea,D,j,rfl,hx,kj,q⟩)⟩
 ·unfold RM.rY at h
  cases q:tbl.lookup c with
  |none=>rw[q] at h;cases h
  |some j=>
   rw[q] at h
   cases h
   exact⟨(ha c j q).1,j,(ha c j q).2,rfl⟩
end RO
section
namespace RO
open PySem L2 RM
def CT {K:Frag}{ca:Str->Addr}(vs:List V)(H:Hp)(Q:VK)(E:XK)(h:uY K vs H Q E):zq K ca 1 C4 vs H Q E:=by
 obtain⟨a,ns,rfl,hS,q⟩:=h
 refine⟨H,[bz ns],af.refl _,rfl,.cons (.scr hS) .nil,?_⟩
 rw[Ep]
 intro v G' H' s1 s2 s3 s4 fv
 have fv:Rp K G' v (.bool true):=fv
 cases fv
 exact q H' s1
def all_mk:Bk:=by
 intro l w K h mg fa f18 R q0 q1 q2 q3 q4 q5 q6 q7 q8 q9 q10 q11 X G hfa od18 an18 sl18 oc18 kV18 dc18 pm18 cd18 ct18 tMOST_THINGS F1 F2 F3 F4 F5 F6 F7 F8 F9 F10 F11 F12 F13 F14 F15 F16 F17 a18 l18 c18 k18 zB yMOST_THINGS mR n0 n1 n2 n3 n4 n5 n6 n7 n8 n9 n10 n11 zV eR e0 e1 e2 up1 g1_1 g2_1 g3_1 g4_1 g7_1 g8_1 kR1 kV1 kt1_0 kt1_1 kt1_2 kt1_3 kt1_4 kt1_5 kt1_6 kt1_7 kt1_8 kt1_9 kt1_10 kt1_11 up2 g1_2 g2_2 g3_2 g4_2 g7_2 g8_2 kR2 kV2 kt2_0 kt2_1 kt2_2 kt2_3 kt2_4 kt2_5 kt2_6 kt2_7 kt2_8 kt2_9 kt2_10 kt2_11 up3 g1_3 g2_3 g3_3 g4_3 g7_3 g8_3 kR3 kV3 kt3_0 kt3_1 kt3_2 kt3_3 kt3_4 kt3_5 kt3_6 kt3_7 kt3_8 kt3_9 kt3_10 kt3_11 g5 g6
 have e:=hfa.symm.trans (Iw X G a18)
 cases e
 have B:l4 mg:=Et X G zB
 have eO:=Iw X G yMOST_THINGS
 obtain⟨f1,d1,nZ⟩:=F1.ex
 obtain⟨f2,d2,aW⟩:=F2.ex
 obtain⟨f3,d3,cc⟩:=F3.ex
 obtain⟨f4,d4,dr⟩:=F4.ex
 obtain⟨f5,d5,dq⟩:=F5.ex
 obtain⟨f6,d6,iP⟩:=F6.ex
 obtain⟨f7,d7,eV⟩:=F7.ex
 obtain⟨f8,d8,cF⟩:=F8.ex
 obtain⟨f9,d9,cC⟩:=F9.ex
 obtain⟨f10,d10,cm⟩:=F10.ex
 obtain⟨f11,d11,cI⟩:=F11.ex
 obtain⟨f12,d12,cK⟩:=F12.ex
 obtain⟨f13,d13,aw⟩:=F13.ex
 obtain⟨f14,d14,a9⟩:=F14.ex
 obtain⟨f15,d15,bE⟩:=F15.ex
 obtain⟨f16,d16,bb⟩:=F16.ex
 obtain⟨f17,d17,bN⟩:=F17.ex
 have U18:=sD (st:=RQ.ie) l18 c18 k18
 have D9:lU K mg "law" RQ.ie ["script"] fa _:=⟨Iw X G a18,U18,U18.binds (ps:=["script"]) λ_ _ _ _ _ _=>C2 λ_=>rfl⟩
 obtain⟨ca,hca⟩:∃ca:Str->Addr,ca "NoMany"=q1/\ca "NoPairs"=q2/\ca "Ring"=q3:=⟨λs=>if s="NoMany" then q1 else if s="NoPairs" then q2 else if s="Ring" then q3 else 0,by first |rfl |decide |simp,by first |rfl |decide |simp,by first |rfl |decide |simp⟩
 have gB:Exc K mg ca "NoMany":=⟨by rw[hca.1];exact Iw X G n1,by rw[hca.1];exact e0⟩
 have eY:Exc K mg ca "NoPairs":=⟨by rw[hca.2.1];exact Iw X G n2,by rw[hca.2.1];exact e1⟩
 have lz:Exc K mg ca "Ring":=⟨by rw[hca.2.2];exact Iw X G n3,by rw[hca.2.2];exact e2⟩
 refine⟨PySem.W.fnOf "law" "law" (dP RQ.ie) (aY RQ.ie) (aq RQ.ie) .none kV18 dc18 pm18 an18 cd18 ct18,λs v=>.of_eq rfl,λbase _ _=>?_⟩
 have er:Er mg R q0 q1 q2 q3 q4 q5 q6 q7 q8 q9 q10 q11:=⟨Iw X G mR,Iw X G n0,Iw X G n1,Iw X G n2,Iw X G n3,Iw X G n4,Iw X G n5,Iw X G n6,Iw X G n7,Iw X G n8,Iw X G n9,Iw X G n10,Iw X G n11⟩
 have kt1:v3 K q1 R q0 q1 q2 q3 q4 q5 q6 q7 q8 q9 q10 q11 1:=⟨⟨g1_1,g2_1,g3_1,g4_1,g5,g6,g7_1,g8_1⟩,kR1,kV1,kt1_0,kt1_1,kt1_2,kt1_3,kt1_4,kt1_5,kt1_6,kt1_7,kt1_8,kt1_9,kt1_10,kt1_11,by decide⟩
 have mt1:Mt K (.ref q1) R:=wW e0 eR (by decide) up1
 have kt2:v3 K q2 R q0 q1 q2 q3 q4 q5 q6 q7 q8 q9 q10 q11 2:=⟨⟨g1_2,g2_2,g3_2,g4_2,g5,g6,g7_2,g8_2⟩,kR2,kV2,kt2_0,kt2_1,kt2_2,kt2_3,kt2_4,kt2_5,kt2_6,kt2_7,kt2_8,kt2_9,kt2_10,kt2_11,by decide⟩
 have mt2:Mt K (.ref q2) R:=wW e1 eR (by decide) up2
 have kt3:v3 K q3 R q0 q1 q2 q3 q4 q5 q6 q7 q8 q9 q10 q11 3:=⟨⟨g1_3,g2_3,g3_3,g4_3,g5,g6,g7_3,g8_3⟩,kR3,kV3,kt3_0,kt3_1,kt3_2,kt3_3,kt3_4,kt3_5,kt3_6,kt3_7,kt3_8,kt3_9,kt3_10,kt3_11,by decide⟩
 have mt3:Mt K (.ref q3) R:=wW e2 eR (by decide) up3
 have MK:Aj l.prog w K mg base ca "RankError" "_law_marks" (RM.rY vd):=by
  refine BM nZ er B (PySem.W.mg_none_of X G zV) λc j h=>?_
  unfold vd at h
  by_cases z1:c="NoMany"
  ·subst z1
   cases h
   rw[hca.1];exact⟨mt1,kt1⟩
  by_cases z2:c="NoPairs"
  ·subst z2
   cases h
   rw[hca.2.1];exact⟨mt2,kt2⟩
  by_cases z3:c="Ring"
  ·subst z3
   cases h
   rw[hca.2.2];exact⟨mt3,kt3⟩
  simp only[JV,List.lookup_nil,beq_false_of_ne z1,beq_false_of_ne z2,beq_false_of_ne z3] at h
  cases h
 have cE:=(RQ.oA (P:=l.prog) (w:=w) (base:=base) (ca:=ca) aW B).imp A6
 have fP:=(RQ.pf (P:=l.prog) (w:=w) (base:=base) (ca:=ca) cc B cE).imp AQ
 have jr:=(RQ.qu (P:=l.prog) (w:=w) (base:=base) (ca:=ca) dr B cE eO).imp Cs
 have ju:=RQ.qE (P:=l.prog) (w:=w) (base:=base) (ca:=ca) dq B fP
 have A7:=RQ.lL (P:=l.prog) (w:=w) (base:=base) (ca:=ca) iP B
 have ki:=tD (P:=l.prog) (w:=w) (base:=base) (ca:=ca) eV iP B
 have iE:=(RQ.oR (P:=l.prog) (w:=w) (base:=base) (ca:=ca) cF B).imp BN
 have iw:=RQ.oq (P:=l.prog) (w:=w) (base:=base) (ca:=ca) cC B jr ju ki iE gB eY lz
 have gW:=RQ.l8 (P:=l.prog) (w:=w) (base:=base) (ca:=ca) cm B
 have iA:=RQ.nU (P:=l.prog) (w:=w) (base:=base) (ca:=ca) cI B
 have iy:=RQ.oK (P:=l.prog) (w:=w) (base:=base) (ca:=ca) cK B gW iA
 have aH:=RQ.l6 (P:=l.prog) (w:=w) (base:=base) aw B
 have cZ:=RQ.jb (P:=l.prog) (w:=w) (base:=base) a9 B aH
 have eM:=RQ.jR (P:=l.prog) (w:=w) (base:=base) (ca:=ca) bE B
 have cj:=RQ.lV (P:=l.prog) (w:=w) (base:=base) (ca:=ca) bb B iw MK
 have fC:=RQ.kS (P:=l.prog) (w:=w) (base:=base) bN B cZ aH
 have EM:=RQ.AL (P:=l.prog) (w:=w) (base:=base) (ca:=ca) D9 B iy eM cj aH fC
 exact cP.imp (sp:=zq K ca 1 C4) EM CT
end RO
theorem PySem.Challenge.cw_rowsorder_k02_pairs_closed_holds : PySem.Challenge.rw_rowsorder_k02_pairs_closed.Holds :=
 RO.head RO.all_mk
end
