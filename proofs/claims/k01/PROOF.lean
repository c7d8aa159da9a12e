import PyProof.Rows.All
import KE.RegKIsAll
import KE.KSortTup
import KE.KFromBytes
import KE.KIsAll
import KE.KStateDown
import Wide.FinOn
import PySem.Challenge.RW_rowsorder_k01_orders_known
set_option Elab.async false
set_option linter.all false
set_option maxRecDepth 100000
set_option maxHeartbeats 1000000
def HS:=@PySem.wpAny_bind
def HU:=@List.getElem?_eq_getElem
def HV:=@if_pos
def HW:=@PySem.wpAny_pure
def HX:=@Nat.le_refl
def HY:=@if_neg
def HZ:=@PySem.W.kasC_bind
def Ia:=@PySem.Heap.get?_push_of_some
def Ic:=@PySem.W.kasC_pure
def Ie:=@List.mem_cons_of_mem
def Ig:=@List.mem_cons_self
def Ih:=@List.mem_cons
def Ij:=@List.mem_of_getElem?
def Ik:=@decide_eq_true
def Il:=@PySem.Heap.lt_size
def Im:=@List.getElem?_eq_some_iff
def Ip:=@List.getElem?_map
def Iq:=@List.size_toArray
def Ir:=@decide_eq_false
def Iu:=@List.mem_append
def Iv:=@List.length_cons
def Iw:=@Bool.false_eq_true
def Iy:=@List.getElem?_set_ne
def Iz:=@List.mem_map
def IA:=@List.getElem?_set_self
def IB:=@PySem.Heap.get?_push_size
def IC:=@List.length_map
def ID:=@Array.length_toList
def IE:=@Bool.and_eq_true
def IF:=@Array.getD_eq_getD_getElem?
def IG:=@Bool.false_ne_true
def IH:=@List.mem_range
def II:=@Array.toList_append
def IJ:=@Nat.lt_or_ge
def IK:=@List.append_assoc
def IL:=@Nat.lt_irrefl
def IM:=@Array.getElem?_eq_getElem
def IP:=@Nat.lt_of_lt_of_le
def IQ:=@List.length_append
def IS:=@Array.toList_push
def IT:=@List.length_range'
def IU:=@Nat.zero_le
def IV:=@PySem.sizeLine_eq
def IW:=@List.mem_iff_getElem
def IX:=@PyProof.Rows.slot_tuple_getitem
def IY:=@List.mem_append_right
def IZ:=@if_false
def I0:=@List.mem_singleton
def Ja:=@Nat.ne_of_lt
def Jb:=@List.getElem?_append_right
def Jc:=@Array.getElem?_toList
def Jd:=@List.getElem?_append_left
def Je:=@List.pairwise_append
def Jf:=@List.length_take
def Jg:=@PySem.wpAny_newObj_type
def Jh:=@decide_eq_true_eq
def Ji:=@Nat.le_trans
def Jj:=@PySem.W.kia_one
def Jk:=@List.nodup_cons
def Jl:=@Int.toNat_natCast
def Jm:=@PySem.wpAny_setState_of
def Jn:=@of_decide_eq_true
def Jo:=@List.pairwise_iff_getElem
def Jp:=@List.map_cons
def Jq:=@Nat.zero_add
def Jr:=@PySem.W.kasC_range
def Js:=@if_true
def Jt:=@PySem.Heap.get?_update_self
def Ju:=@List.take_append_drop
def Jv:=@List.perm_append_comm
def Jw:=@List.pairwise_map
def Jx:=@Array.getElem?_eq_some_iff
def Jy:=@List.getD_eq_getElem?_getD
def Jz:=@Bool.eq_iff_iff
def JA:=@PySem.Heap.get?_update_other
def JB:=@List.take_of_length_le
def JC:=@PySem.mem_of_lookup
def JD:=@PySem.wpAny_truthy_bool
def JE:=@PySem.wpAny_holding
def JF:=@List.Perm.append_left
def JG:=@List.length_set
def JH:=@List.all_eq_true
def JI:=@List.getElem_mem
def JJ:=@PySem.W.kasC_cons
def JK:=@PySem.wpAny_mono
def JL:=@List.mem_of_mem_take
def JM:=@PySem.Heap.size_push
def JN:=@PySem.boot_len
def JO:=@List.getElem?_replicate
def JP:=@List.take_add_one
def JQ:=@Bool.not_eq_true'
def JR:=@List.length_nil
def JS:=@List.append_nil
def JT:=@List.toList_toArray
def JU:=@Array.perm_iff_toList_perm
def JV:=@PySem.wpAny_call_entry
def JW:=@List.not_mem_nil
def JX:=@Nat.mul_le_mul
def JY:=@Array.size_extract
def JZ:=@List.Pairwise.imp_of_mem
def J0:=@Int.lt_trans
def J1:=@List.set_eq_of_length_le
def J2:=@PySem.Value.isInt_shape
def J3:=@PySem.wpAny_callSpecial?_slot
def J4:=@List.filterMap_cons
def J5:=@List.map_congr_left
def J6:=@List.nodup_range
def J8:=@List.pairwise_cons
def J9:=@PyProof.Rows.F.plain_set_update_loop
def Ka:=@PySem.wpAny_passesOwn
def Kb:=@List.length_replicate
def Kc:=@List.getElem?_eq_none
def Kd:=@PySem.W.kasC_get
def Ke:=@List.mem_append_left
def Kf:=@Array.mem_toList_iff
def Kg:=@List.extract_eq_take_drop
def Kh:=@PySem.Around.under_plainId
def Ki:=@List.drop_eq_getElem_cons
def Kj:=@Array.toList_reverse
def Kk:=@PySem.wpAny_field
def Kl:=@PySem.W.kasC_modify
def Km:=@List.length_drop
def Kn:=@PySem.wpAny_typeOf
def Ko:=@Nat.lt_trans
def Kq:=@PySem.F.called_set
def Kr:=@List.replicate_succ
def Ks:=@Bool.not_true
def Kv:=@PySem.strLen_append
def Kw:=@List.mem_filterMap
def Kx:=@Nat.min_eq_left
def Ky:=@PySem.codeAny_builtin
def Kz:=@PySem.wpAny_rule
def KA:=@List.map_append
def KC:=@Nat.lt_or_eq_of_le
def KD:=@Array.getElem?_eq_none
def KG:=@List.drop_eq_nil_of_le
def KH:=@PySem.wpAny_pyIter_list
def KI:=@List.take_sublist
def KJ:=@List.ext_getElem?
def KL:=@List.length_range
def KN:=@Nat.le_of_lt
def KO:=@PySem.wpAny_setField
def KP:=@List.length_filter_le
def KQ:=@List.mem_iff_getElem?
def KR:=@PyProof.Rows.callWith_type1
def KS:=@Array.toList_extract
def KU:=@PySem.wpAny_askSetting
def KW:=@List.lookup_cons
def KY:=@List.all_cons
def KZ:=@List.mem_filter
def K0:=@List.foldl_cons
def K1:=@Bool.decide_and
def K2:=@PySem.codeAny_mono
def K3:=@PySem.F.args_tuple_add_2
def K4:=@List.length_erase_of_mem
def K5:=@List.getElem?_drop
def K6:=@PySem.wpAny_pyIter_tuple
def K7:=@List.map_map
def K8:=@List.eq_of_mem_replicate
def K9:=@Int.zero_add
def Ld:=@PySem.isSubtype_type
def Lf:=@List.reverse_cons
def Lg:=@List.flatten_cons
def Lj:=@Nat.lt_trichotomy
open List (any_cons set_set mem_reverse)
open PySem.W (Frag)
open PySem.PyData (int)
namespace HD
open PySem PySem.W
noncomputable abbrev yo:=@PySem.W.Fast.tw10156331382660048174
noncomputable abbrev Cu:=@PySem.W.Fast.tw11892475500146522536
noncomputable abbrev Hf:=@PySem.W.Fast.tw6613529449190102663
noncomputable abbrev DX:=@PySem.W.Fast.tw14364793385576792824
noncomputable abbrev Ck:=@PySem.W.Fast.tw17154629097778926822
noncomputable abbrev yH:=@PySem.W.Fast.tw12822647523644345616
noncomputable def qp (p:Program):Thread:=
 ⟨do
  let code <-Ck p.main
  let frame <-yH code mainNs mainNs
  let _ <-run (.body (behindTheImports p) {scope:=p.main.scope,locals:=mainNs,globals:=mainNs,cells:=[],code,frame:=some frame})
  ret .none,
  .builtin "claim.caller" {},default,[]⟩
def xU (p:Program):topStub p=qp p:=by
 unfold topStub qp Ck yH
 rw[<-PySem.W.Fast.te17154629097778926822,<-PySem.W.Fast.te12822647523644345616]
noncomputable def iQ (p:Program)(w:World)(n₀:Nat)(ann:Option Value):Nat->SharedT->Thread->Option SharedT
 | 0,_,_=>none
 |n + 1,s,t=>match through t with
  |true=>some s
  |false=>match Hf n₀ ann t with
   |false=>none
   |true=>match yo (Cu DX) p w s t with
    |some (s',t')=>iQ p w n₀ ann n s' t'
    |none=>none
theorem oA {p:Program}{w:World}{n₀:Nat}{ann:Option Value}:∀{n:Nat} {s s':SharedT} {t:Thread},iQ p w n₀ ann n s t=some s'->topRun treeTable p w n₀ ann n s.abs t=some s'.abs
 | 0,_,_,_,h=>by cases h
 |n + 1,s,s',t,h=>by
  unfold iQ at h
  unfold topRun
  cases ht:through t with
  |true=>rw[ht] at h;cases h;rfl
  |false=>
   rw[ht] at h
   have hq:Hf n₀ ann t=stepOk n₀ ann t:=by unfold Hf;rw[<-PySem.W.Fast.te6613529449190102663]
   dsimp only at h
   rw[hq] at h
   cases hk:stepOk n₀ ann t with
   |false=>rw[hk] at h;cases h
   |true=>
    rw[hk] at h
    have hq:yo (Cu DX) p w s t=stepT (denote treeTable) p w s t:=by unfold yo Cu DX;rw[<-PySem.W.Fast.te10156331382660048174,<-PySem.W.Fast.te11892475500146522536,<-PySem.W.Fast.te14364793385576792824]
    dsimp only at h
    rw[hq] at h
    cases hs:stepT (denote treeTable) p w s t with
    |none=>rw[hs] at h;cases h
    |some r=>obtain⟨s₂,t₂⟩:=r;rw[hs] at h;rw[stepT_spec hs];exact oA h
def treeOf (l:List Obj):BT:=(l.foldl (λ(x:BT×Nat) o=>(x.1.ins x.2 o,x.2 + 1)) (.nil,0)).1
noncomputable def zY (P:Params):BT:=treeOf (boot_heap P).objs.toList
abbrev mE:Nat:=11
abbrev yt:Life:={}
def boot_abs (P:Params):absHeap (zY P) mE yt=boot_heap P:=by kernel_rfl
def wG (w:World):((boot_heap w.params).isNs mainGlobals && (Array.mk ([]:List GenState)).size == 0,(boot_heap w.params).objs.size,(boot_heap w.params).nsMap mainGlobals "__annotations__")=(true,mE,some (.ref 6)):=by kernel_rfl
noncomputable def p8 (w:World)(os:OsState):SharedT:=⟨zY w.params,mE,yt,Array.mk [],boot_drawn,boot_toks,os⟩
noncomputable def vE (p:Program)(w:World)(s:Shared):Bool:=staticsOk (importedModules p.main.body) (boot_heap w.params) s.heap && namesBound p s.heap && gensDone s && laidKept (boot_heap w.params) s.heap
def Bx {p q:Program}{loose:List Str}{Xt:Shared->Bool}{α:Type}{Yf:Shared->α}{Ya:World->α}{N:Nat}{g0:Bool}
  (e:opening p=plainProg p.main.scope.names) (hN:Nat.ble 600 N=true) (f:∀s,fenceModules? p s=some s)
  (run:∀(w:World) (os:OsState),(iQ p w mE (some (.ref 6)) N (p8 w os) (qp p)).map (λs=>(vE p w s.abs,openSeen q loose (importedModules p.main.body) Xt g0 s.abs,Yf s.abs))=some (true,openGood q loose,Ya w)):LeftO p q loose Xt Yf Ya N g0:=λw=>by
 obtain⟨⟨h,gs,d,k,os⟩,e,e'⟩:=Option.map_eq_some_iff.mp (boot_open e hN f w)
 obtain⟨rfl,rfl,rfl,rfl⟩:h=boot_heap w.params/\gs=Array.mk []/\d=boot_drawn/\k=boot_toks:=by simpa using e'
 obtain⟨z1,z2,z3⟩:_/\_/\_:=by simpa only [Prod.mk.injEq] using wG w
 obtain⟨s',r,ls⟩:=Option.map_eq_some_iff.mp (run w os)
 obtain⟨l1,l2,l3⟩:_/\_/\_:=by simpa only [Prod.mk.injEq] using ls
 have r:=oA r
 have ha:(p8 w os).abs=⟨boot_heap w.params,Array.mk [],boot_drawn,boot_toks,os⟩:=by
  show Shared.mk (absHeap (zY w.params) mE yt) _ _ _ _=_
  rw[boot_abs]
  rfl
 rw[ha,<-xU] at r
 have t:topFrom treeTable p w N ⟨boot_heap w.params,Array.mk [],boot_drawn,boot_toks,os⟩=some s'.abs:=by
  unfold topFrom
  dsimp only
  rw[z1,z2,z3,r]
  show (match vE p w s'.abs with |true=>_ |false=>_)=_
  rw[l1]
 unfold openEnds
 rw[e]
 show (topFrom treeTable p w N _).map _=_
 rw[t]
 exact congrArg some (Prod.ext l2 l3)
theorem map_two {α β γ:Type}{o:Option α}{f:α->β}{g:α->γ}{b:β}{c:γ}(h:o.map f=some b)(k:o.map g=some c):o.map (λs=>(f s,g s))=some (b,c):=by
 cases o with
 |none=>cases h
 |some x=>cases h;cases k;rfl
noncomputable abbrev yO (p:Program)(N:Nat)(w:World)(os:OsState):Option SharedT:=iQ p w mE (some (.ref 6)) N (p8 w os) (qp p)
def Bk {p q:Program}{loose:List Str}{Xt:Shared->Bool}{α:Type}{Yf:Shared->α}{Ya:World->α}{N:Nat}{g0:Bool}
  (e:opening p=plainProg p.main.scope.names) (hN:Nat.ble 600 N=true) (f:∀s,fenceModules? p s=some s)
  (r1:∀w os,(yO p N w os).map (λs=>(vE p w s.abs,(openSeen q loose (importedModules p.main.body) Xt g0 s.abs).1,Yf s.abs))=some (true,(openGood q loose).1,Ya w))
  (r2:∀w os,(yO p N w os).map (λs=>(openSeen q loose (importedModules p.main.body) Xt g0 s.abs).2)=some (openGood q loose).2):LeftO p q loose Xt Yf Ya N g0:=
 Bx e hN f λw os=>by
  have h:=map_two (r1 w os) (r2 w os)
  unfold yO at h
  cases z:iQ p w mE (some (.ref 6)) N (p8 w os) (qp p) with
  |none=>rw[z] at h;cases h
  |some x=>
   rw[z] at h
   simp only[Option.map_some,Option.some.injEq,Prod.mk.injEq] at h ⊢
   exact⟨h.1.1,Prod.ext h.1.2.1 h.2,h.1.2.2⟩
end HD
namespace L2
open PySem PySem.Spec PyProof.Rows
section
variable {P:Program}{w:World}{κ:Type}[DecidableEq κ]
def HA (kd:HeapKind P w κ)(h:Heap)(d:Addr)(xs:List (κ×Addr×Value))(ep:Nat):Prop:=
 ∃o es,h.get? d=some o/\o.ExactDict/\o.data=.dict es ep/\es.toList=xs.map (entryOfKey kd)/\(xs.map (·.1)).Nodup
variable {kd:HeapKind P w κ}{A:Around}{E:Value->Shared->Prop}{s:Shared}
end
end L2
section
set_option Elab.async false
namespace L2
open PySem PySem.Spec PyProof.Rows
abbrev Key:=Sum Int Str
def nA:Key->Value->Bool
 | .inl k,v=>Value.isInt k v
 | .inr x,v=>Value.isStrOf x v
def Gs (w:World):Key->Int
 | .inl k=>hashInt k
 | .inr x=>hashStr w x
theorem bg:∀{k:Key} {v:Value},nA k v=true->(∃i t,k=Sum.inl i/\v=Value.int i t)\/(∃x t,k=Sum.inr x/\v=Value.str x t)
 | .inl i,v,h=>by
  obtain⟨t,e⟩:=J2 (k:=i) (v:=v) h
  exact .inl ⟨i,t,rfl,e⟩
 | .inr x,v,h=>by
  obtain⟨t,e⟩:=Value.isStrOf_shape (x:=x) (v:=v) h
  exact .inr ⟨x,t,rfl,e⟩
def wD (i:Int)(t:Tok):nA (.inl i) (.int i t)=true:=by simp[nA,Value.isInt]
def wc (x:Str)(t:Tok):nA (.inr x) (.str x t)=true:=by simp[nA,Value.isStrOf]
def CT (a b:Int):decide ((Sum.inl a:Key)=Sum.inl b)=(a == b):=by
 by_cases e:a=b
 ·subst e;simp
 ·have h:¬(Sum.inl a:Key)=Sum.inl b:=λq=>e (Sum.inl.inj q)
  rw[Ir h]
  exact (beq_eq_false_iff_ne.mpr e).symm
def C8 (a b:Str):decide ((Sum.inr a:Key)=Sum.inr b)=decide (a=b):=by
 by_cases e:a=b
 ·subst e;simp
 ·have h:¬(Sum.inr a:Key)=Sum.inr b:=λq=>e (Sum.inr.inj q)
  rw[Ir h,Ir e]
def Dv (a:Int)(b:Str):decide ((Sum.inl a:Key)=Sum.inr b)=false:=Ir (λq=>nomatch q)
def DD (a:Str)(b:Int):decide ((Sum.inr a:Key)=Sum.inl b)=false:=Ir (λq=>nomatch q)
def cA (prog:Program)(w:World):PySem.KeyKind prog w Key where
 is:=nA
 hash:=Gs w
 inj:=λv a b ha hb=>by
  rcases bg ha with⟨i,t,rfl,rfl⟩ | ⟨x,t,rfl,rfl⟩
  ·rcases bg hb with⟨j,u,rfl,e⟩ | ⟨y,u,rfl,e⟩
   ·injection e with e1 _;rw[e1]
   ·exact nomatch e
  ·rcases bg hb with⟨j,u,rfl,e⟩ | ⟨y,u,rfl,e⟩
   ·exact nomatch e
   ·injection e with e1 _;rw[e1]
 byValue:=λk v h=>by
  rcases bg h with⟨i,t,rfl,rfl⟩ | ⟨x,t,rfl,rfl⟩ <;> rfl
 pyHash:=λhv h=>by
  rcases bg hv with⟨i,t,rfl,rfl⟩ | ⟨x,t,rfl,rfl⟩
  ·exact wpAny_pyHash_int h
  ·exact wpAny_pyHash_str h
 eqBool:=λhu hv h=>by
  rcases bg hu with⟨i,t,rfl,rfl⟩ | ⟨x,t,rfl,rfl⟩
  ·rcases bg hv with⟨j,u,rfl,rfl⟩ | ⟨y,u,rfl,rfl⟩
   ·rw[CT] at h;exact wpAny_eqBool_int h
   ·rw[Dv] at h;exact SeqAt.EqAt.int_str i t y u _ _ _ _ h
  ·rcases bg hv with⟨j,u,rfl,rfl⟩ | ⟨y,u,rfl,rfl⟩
   ·rw[DD] at h;exact SeqAt.EqAt.str_int x t j u _ _ _ _ h
   ·rw[C8] at h;exact wpAny_eqBool_str h
 «strs»:=λk x t v h=>by
  rcases bg h with⟨i,u,rfl,e⟩ | ⟨y,u,rfl,e⟩
  ·exact nomatch e
  ·injection e with e1 _
   subst e1
   cases v <;> rfl
def qF (prog:Program)(w:World)(i:Int)(t:Tok):(cA prog w).is (.inl i) (.int i t)=true:=wD i t
def qB (prog:Program)(w:World)(x:Str)(t:Tok):(cA prog w).is (.inr x) (.str x t)=true:=wc x t
inductive V where
 |non |bl (b:Bool) |int (i:Int) |str (x:Str) |byt (b:Array UInt8) |flt (b:UInt64) |ref (a:Addr) |ty (n:String)
 deriving DecidableEq
def RelV:V->Value->Prop
 | .non,u=>u=Value.none
 | .bl b,u=>u=Value.bool b
 | .int i,u=>∃t,u=Value.int i t
 | .str x,u=>∃t,u=Value.str x t
 | .byt b,u=>∃t,u=Value.bytes b t
 | .flt b,u=>∃t,u=Value.float b t
 | .ref a,u=>u=Value.ref a
 | .ty n,u=>u=Value.type n
abbrev Vals:List V->List Value->Prop:=Paired RelV
def Vals.length {xs:List V}{us:List Value}(r:Vals xs us):xs.length=us.length:=Paired.length r
theorem Vals.get:∀{xs:List V} {us:List Value} {i:Nat} {x:V},Vals xs us->xs[i]? =some x->∃u,us[i]? =some u/\RelV x u
 |_,_,_,_,.nil,e=>by simp at e
 |_,_,0,_,.cons r _,e=>by simp at e;subst e;exact⟨_,rfl,r⟩
 |_,_,i + 1,x,.cons _ t,e=>by
  obtain⟨u,h1,h2⟩:=Vals.get (i:=i) (x:=x) t (by simpa using e)
  exact⟨u,by simpa using h1,h2⟩
theorem Vals.set {x:V}{u:Value}(r:RelV x u):∀{xs:List V} {us:List Value} (i:Nat),Vals xs us->Vals (xs.set i x) (us.set i u)
 |_,_,_,.nil=>.nil
 |_,_,0,.cons _ t=>.cons r t
 |_,_,i + 1,.cons q t=>.cons q (Vals.set r i t)
theorem Vals.append:∀{xs ys:List V} {us ws:List Value},Vals xs us->Vals ys ws->Vals (xs ++ ys) (us ++ ws)
 |_,_,_,_,.nil,s=>s
 |_,_,_,_,.cons r t,s=>.cons r (Vals.append t s)
theorem Vals.take:∀{xs:List V} {us:List Value} (n:Nat),Vals xs us->Vals (xs.take n) (us.take n)
 |_,_,0,_=>.nil
 |_,_,_ + 1,.nil=>.nil
 |_,_,n + 1,.cons r t=>.cons r (Vals.take n t)
theorem Vals.drop:∀{xs:List V} {us:List Value} (n:Nat),Vals xs us->Vals (xs.drop n) (us.drop n)
 |_,_,0,r=>r
 |_,_,_ + 1,.nil=>.nil
 |_,_,n + 1,.cons _ t=>Vals.drop n t
def Dq:Option V->Option Value->Prop
 |some v,some u=>RelV v u
 |none,none=>True
 |_,_=>False
def KV {κ:Type}:List (κ×V)->List (κ×Value)->Prop:=Paired λ(p:κ×V) (q:κ×Value)=>p.1=q.1/\RelV p.2 q.2
def kV:Key->V
 | .inl i=>.int i
 | .inr x=>.str x
inductive HO where
 |lst (xs:List V)
 |tup (xs:List V)
 |dK (kvs:List (Key×V)) |dT (kvs:List (List Key×V)) (ep:Nat)
 |set (S:Int->Bool) (n:Nat)
 |ins (C dx:Addr) (fs:List (Str×V))
 |own (x:Addr)
 |xd (fs:List (Str×V))
 |met (f x:Addr)
 |ly (lo hi:Int)
 |aO (o:Obj) (u:HO)
 |tbl (ps:Array Value)
 |ext (φ:Heap->Prop)
abbrev Hp:=Addr->Option HO
def upd (H:Hp)(a:Addr)(o:HO):Hp:=λb=>if b=a then some o else H b
def aq {H:Hp}{a:Addr}{o:HO}:upd H a o a=some o:=by unfold upd;rw[HV rfl]
def ao {H:Hp}{a b:Addr}{o:HO}(h:b≠a):upd H a o b=H b:=by unfold upd;rw[HY h]
def Aq {H:Hp}{a:Addr}{o u:HO}:upd (upd H a o) a u=upd H a u:=by
 funext b;unfold upd;split <;> rfl
def B9 {H:Hp}{a b:Addr}{o u:HO}(h:H a=some o)(h':H b=some u)(d:o≠u):a≠b:=by
 intro e;subst e;rw[h] at h';exact d (Option.some.inj h')
def ax {H:Hp}{a b:Addr}{o:HO}(h:H a=some o)(h':H b=none):a≠b:=by
 intro e;subst e;rw[h] at h';cases h'
section
variable (P:Program)(w:World)
def nR (h:Heap)(a:Addr)(items:Array Value):Prop:=∃o,h.get? a=some o/\o.cls=.type "tuple"/\∃n,o.data=.seq items n/\o.dict=none
def nR.isTup {h:Heap}{a:Addr}{items:Array Value}(x:nR h a items):IsTup h a items:=let ⟨o,e,c,n,d,_⟩:=x;⟨o,e,c,n,d⟩
def nR.new (h:Heap)(items:Array Value):nR (h.push {cls:=.type "tuple",data:=.seq items}) h.objs.size items:=⟨_,IB _ rfl,rfl,_,rfl,rfl⟩
def bw (H:Hp)(h:Heap)(a:Addr):HO->Prop
 | .lst xs=>xs.length<=sizeLine/\∃(its:List Value) (n:Nat),Vals xs its/\h.get? a=some {cls:=.type "list",data:=.seq its.toArray n}
 | .tup xs=>xs.length<=sizeLine/\∃its:List Value,Vals xs its/\nR h a its.toArray
 | .dK kvs=>kvs.length<=sizeLine/\(a == sysModules)=false/\∃vs,KV kvs vs/\h.DictOf (cA P w) a vs
 | .dT kvs ep=>kvs.length<=sizeLine/\(a == sysModules)=false/\∃xs:List (List Key×Addr×Value),
   Paired (λ(p:List Key×V) (q:List Key×Addr×Value)=>p.1=q.1/\(H q.2.1=some (.tup (p.1.map kV))\/∃o,H q.2.1=some (.aO o (.tup (p.1.map kV))))/\RelV p.2 q.2.2) kvs xs/\
   HA (tupleKind (cA P w)) h a xs ep
 | .set S n=>h.SetOf (intKind P w) a S n
 | .ins C dx fs=>H dx=some (.own a)/\fs.length<=1000/\dx≠a/\h.get? a=some (PySem.W.instObj C dx)/\
   ∃mA,h.Ns1 dx mA/\(∀f,Dq (fs.lookup f) (mA f))/\PySem.Within mA (fs.map (·.1))
 | .own _=>∃o,h.get? a=some o
 | .xd fs=>∃mA,h.Ns1 a mA/\∀f,Dq (fs.lookup f) (mA f)
 | .ly lo hi=>∃t u v,h.get? a=some {cls:=.type "range",data:=.fields #[.int lo t,.int hi u,.int 1 v]}
 | .aO o u=>h.get? a=some o/\bw H h a u
 | .tbl ps=>h.get? a=some {cls:=.none,data:=.fields ps}
 | .met f x=>h.get? a=some (PySem.W.methodObj (.ref f) (.ref x))
 | .ext φ=>φ h/\(∃o,h.get? a=some o)/\∀h1 h2:Heap,φ h1->(∀o,h1.get? a=some o->h2.get? a=some o)->φ h2
def je (H:Hp)(h:Heap):Prop:=∀a o,H a=some o->bw P w H h a o
end
section
variable {P:Program}{w:World}{H H':Hp}{h h':Heap}{a:Addr}{o:HO}
theorem bw.lt (x:bw P w H h a o):a < h.objs.size:=by
 cases o with
 |lst xs=>obtain⟨_,_,_,_,e⟩:=x;exact Il e
 |tup xs=>obtain⟨_,_,_,p⟩:=x;exact p.isTup.lt
 |dK kvs=>obtain⟨_,_,_,_,o,_,_,e,_⟩:=x;exact Il e
 |dT kvs ep=>obtain⟨_,_,_,_,o,_,e,_⟩:=x;exact Il e
 |set S n=>obtain⟨o,_,_,_,e,_⟩:=x;exact Il e
 |ins C dx fs=>obtain⟨_,_,_,e,_⟩:=x;exact Il e
 |own y=>obtain⟨_,e⟩:=x;exact Il e
 |xd fs=>obtain⟨_,⟨_,_,_,e,_⟩,_⟩:=x;exact Il e
 |ly lo hi=>obtain⟨_,_,_,e⟩:=x;exact Il e
 |aO ob u=>obtain⟨e,_⟩:=x;exact Il e
 |tbl ps=>exact Il (show h.get? a=some _ from x)
 |met f y=>exact Il (show h.get? a=some _ from x)
 |ext φ=>obtain⟨_,⟨_,e⟩,_⟩:=x;exact Il e
theorem Paired.mapP {α β:Type}{F G:α->β->Prop}:∀{l₁:List α} {l₂:List β},Paired F l₁ l₂->(∀a b,F a b->G a b)->Paired G l₁ l₂
 |_,_,.nil,_=>.nil
 |_,_,.cons r t,f=>.cons (f _ _ r) (Paired.mapP t f)
theorem bw.stay (x:bw P w H h a o)(k:∀b u,(b=a\/H b=some (.own a))->h.get? b=some u->h'.get? b=some u)
  (ho:∀b,H b=some (.own a)->H' b=some (.own a)) (ht:∀b xs,(H b=some (.tup xs)\/∃o,H b=some (.aO o (.tup xs)))->(H' b=some (.tup xs)\/∃o,H' b=some (.aO o (.tup xs)))):bw P w H' h' a o:=by
 induction o with
 |lst xs=>obtain⟨z,its,n,r,e⟩:=x;exact⟨z,its,n,r,k _ _ (.inl rfl) e⟩
 |tup xs=>obtain⟨z,its,r,ob,e,c⟩:=x;exact⟨z,its,r,ob,k _ _ (.inl rfl) e,c⟩
 |dK kvs=>obtain⟨z,y,vs,r,ob,es,ep,e,c⟩:=x;exact⟨z,y,vs,r,ob,es,ep,k _ _ (.inl rfl) e,c⟩
 |dT kvs ep=>
  obtain⟨z,y,xs,r,ob,es,e,c⟩:=x
  exact⟨z,y,xs,Paired.mapP r λp q z=>⟨z.1,ht _ _ z.2.1,z.2.2⟩,ob,es,k _ _ (.inl rfl) e,c⟩
 |set S n=>obtain⟨ob,es,ep,t,e,c⟩:=x;exact⟨ob,es,ep,t,k _ _ (.inl rfl) e,c⟩
 |ins C dx fs=>
  obtain⟨d,z,ne,e,mA,⟨od,es,ep,e2,c⟩,r⟩:=x
  exact⟨ho _ d,z,ne,k _ _ (.inl rfl) e,mA,⟨od,es,ep,k _ _ (.inr d) e2,c⟩,r⟩
 |own y=>obtain⟨ob,e⟩:=x;exact⟨ob,k _ _ (.inl rfl) e⟩
 |xd fs=>obtain⟨mA,⟨od,es,ep,e,c⟩,r⟩:=x;exact⟨mA,⟨od,es,ep,k _ _ (.inl rfl) e,c⟩,r⟩
 |ly lo hi=>obtain⟨t,u,v,e⟩:=x;exact⟨t,u,v,k _ _ (.inl rfl) e⟩
 |aO ob u ih=>obtain⟨e,q⟩:=x;exact⟨k _ _ (.inl rfl) e,ih q⟩
 |tbl ps=>
  have e:h.get? a=some {cls:=.none,data:=.fields ps}:=x
  show h'.get? a=some {cls:=.none,data:=.fields ps}
  exact k a _ (.inl rfl) e
 |met f y=>
  have e:h.get? a=some (PySem.W.methodObj (.ref f) (.ref y)):=x
  show h'.get? a=some (PySem.W.methodObj (.ref f) (.ref y))
  exact k a _ (.inl rfl) e
 |ext φ=>obtain⟨p,⟨o,e⟩,st⟩:=x;exact⟨st _ _ p λo q=>k _ _ (.inl rfl) q,⟨o,k _ _ (.inl rfl) e⟩,st⟩
def je.lt (x:je P w H h)(e:H a=some o):a < h.objs.size:=(x a o e).lt
theorem je.fresh (x:je P w H h)(e:h.objs.size<=a):H a=none:=by
 cases q:H a with
 |none=>rfl
 |some u=>exact absurd (IP (x.lt q) e) (IL _)
def je.kept (x:je P w H h)(k:∀b u,h.get? b=some u->h'.get? b=some u):je P w H h':=λa o e=>
 (x a o e).stay (λb u _ q=>k b u q) (λ_ q=>q) λ_ _ q=>q
def je.laid (x:je P w H h)(k:∀b u,h.get? b=some u->h'.get? b=some u)(hp:h.objs.size<=a)(new:bw P w (upd H a o) h' a o):je P w (upd H a o) h':=λb u e=>by
 have hn:=x.fresh hp
 by_cases hb:b=a
 ·subst hb;rw[aq] at e;cases e;exact new
 ·rw[ao hb] at e
  exact (x b u e).stay (λc v _ q=>k c v q) (λc q=>by rw[ao (ax q hn)];exact q) λc xs q=>q.imp (λq=>by rw[ao (ax q hn)];exact q) λ⟨o,q⟩=>⟨o,by rw[ao (ax q hn)];exact q⟩
end
def Rd (H:Hp)(a:Addr)(u:HO):Prop:=H a=some u\/∃o,H a=some (.aO o u)
def Rd.ok {P:Program}{w:World}{H:Hp}{h:Heap}{a:Addr}{u:HO}(r:Rd H a u)(x:je P w H h):bw P w H h a u:=by
 rcases r with r | ⟨o,r⟩
 ·exact x a u r
 ·obtain⟨_,q⟩:=x a _ r
  exact q
def E1:Option HO->Prop
 |some (.lst _)=>True
 |some (.dK _)=>True
 |some (.dT _ _)=>True
 |some (.set _ _)=>True
 |some (.ins _ _ _)=>True
 |some (.ext _)=>True
 |_=>False
section
variable {P:Program}{w:World}{H:Hp}{h h':Heap}{x e:Addr}{o':HO}
def je.write (ok:je P w H h)(mu:E1 (H x))(he:e=x\/H e=some (.own x))(k:∀b u,b≠e->h.get? b=some u->h'.get? b=some u)(heo:∃u,h'.get? e=some u)
  (new:bw P w (upd H x o') h' x o'):je P w (upd H x o') h':=λb u q=>by
 have nown:∀c y,H c=some (.own y)->c≠x:=λc y r z=>by subst z;rw[r] at mu;exact mu
 have ntup:∀c xs,H c=some (.tup xs)->c≠x:=λc xs r z=>by subst z;rw[r] at mu;exact mu
 by_cases hb:b=x
 ·subst hb;rw[aq] at q;cases q;exact new
 ·rw[ao hb] at q
  by_cases hbe:b=e
  ·have q':H b=some (.own x):=by
    rcases he with z |z
    ·exact absurd (hbe.trans z) hb
    ·rw[hbe];exact z
   rw[q] at q';cases q'
   obtain⟨v,hv⟩:=heo
   exact⟨v,by rw[hbe];exact hv⟩
  ·refine (ok b u q).stay (λc v hc r=>k c v ?_ r) (λc r=>by rw[ao (nown c b r)];exact r) λc xs r=>r.imp (λr=>by rw[ao (ntup c xs r)];exact r) λ⟨o,r⟩=>⟨o,by rw[ao (λz=>by subst z;rw[r] at mu;exact mu)];exact r⟩
   rcases hc with rfl |hc
   ·exact hbe
   ·rintro rfl
    rcases he with z |z
    ·exact nown c b hc z
    ·rw[hc] at z;cases z;exact hb rfl
end
structure Un (fs ex:List Addr)(H H':Hp)(h h':Heap):Prop where
 keep:∀b o,h.get? b=some o->H b=none->b∉fs->b∉ex->h'.get? b=some o
 slot:∀b o,h.get? b=some o->H b=none->b∈fs->b∉ex->∃sl,h'.get? b=some {o with slots:=sl}
 free:∀b o,h.get? b=some o->H b=none->b∉ex->H' b=none
 there:∀b o,h.get? b=some o->b∉ex->∃o',h'.get? b=some o'
 tups:∀b xs,H b=some (.tup xs)->H' b=some (.tup xs)
 frzs:∀b o u,H b=some (.aO o u)->H' b=some (.aO o u)
 tbls:∀b ps,H b=some (.tbl ps)->∃more,H' b=some (.tbl (ps ++ more))
section
variable {fs fs' ex ex':List Addr}{H H1 H2:Hp}{h h1 h2 h':Heap}{a x e:Addr}{o:HO}
def Un.any (u:Un fs ex H H1 h h1){b:Addr}{ob:Obj}(q:h.get? b=some ob)(n:H b=none)(hx:b∉ex):∃sl,h1.get? b=some {ob with slots:=sl}:=by
 by_cases hb:b∈fs
 ·exact u.slot b ob q n hb hx
 ·exact⟨ob.slots,u.keep b ob q n hb hx⟩
def Un.kept (k:∀b u,h.get? b=some u->h'.get? b=some u):Un fs ex H H h h':=
 ⟨λb ob q _ _ _=>k b ob q,λb ob q _ _ _=>⟨ob.slots,k b ob q⟩,λ_ _ _ n _=>n,λb ob q _=>⟨ob,k b ob q⟩,λ_ _ q=>q,λ_ _ _ q=>q,λ_ ps q=>⟨#[],by rw[q];simp⟩⟩
def Un.refl:Un fs ex H H h h:=Un.kept λ_ _ q=>q
def Un.laid (k:∀b u,h.get? b=some u->h'.get? b=some u)(hp:h.objs.size<=a)(hn:H a=none):Un fs ex H (upd H a o) h h' where
 keep:=λb u q _ _ _=>k b u q
 slot:=λb u q _ _ _=>⟨u.slots,k b u q⟩
 free:=λb u q n _=>by rw[ao (Ja (IP (Il q) hp))];exact n
 there:=λb u q _=>⟨u,k b u q⟩
 tups:=λb xs q=>by rw[ao (ax q hn)];exact q
 frzs:=λb u xs q=>by rw[ao (ax q hn)];exact q
 tbls:=λb ps q=>⟨#[],by rw[ao (ax q hn),q];simp⟩
def Un.write (mu:E1 (H x))(he:e=x\/H e=some (.own x))(k:∀b u,b≠e->h.get? b=some u->h'.get? b=some u)(heo:∃u,h'.get? e=some u):Un fs ex H (upd H x o) h h':=by
 have hx:∀b,H b=none->b≠x:=λb n z=>by subst z;rw[n] at mu;exact mu
 have hb:∀b,H b=none->b≠e:=λb n z=>by
  subst z
  rcases he with r |r
  ·exact hx b n r
  ·rw[n] at r;cases r
 have hm:∀b u,H b=some u->¬E1 (some u)->b≠x:=λb u q nm z=>by subst z;rw[q] at mu;exact nm mu
 refine⟨λb u q n _ _=>k b u (hb b n) q,λb u q n _ _=>⟨u.slots,k b u (hb b n) q⟩,λb u q n _=>by rw[ao (hx b n)];exact n,λb u q _=>?_,
  λb xs q=>by rw[ao (hm b _ q λz=>z)];exact q,λb u xs q=>by rw[ao (hm b _ q λz=>z)];exact q,λb ps q=>⟨#[],by rw[ao (hm b _ q λz=>z),q];simp⟩⟩
 by_cases hbe:b=e
 ·subst hbe;exact heo
 ·exact⟨u,k b u hbe q⟩
end
def FN (h:Heap)(H:Hp):List Addr:=(List.range h.objs.size).filter λa=>(H a).isSome
def oZ (h:Heap)(H:Hp):Heap:=PySem.W.hideAll h (FN h H)
def wH (h:Heap)(H:Hp):(oZ h H).objs.size=h.objs.size:=PySem.W.hideAll_size _ _
def zT {h:Heap}{H:Hp}{b:Addr}{o:Obj}(e:h.get? b=some o)(n:H b=none):(oZ h H).get? b=some o:=
 PySem.W.hideAll_get _ e λhm=>by
  have q:(H b).isSome=true:=(KZ.mp hm).2
  rw[n] at q;simp at q
theorem BD {h:Heap}{H:Hp}{b:Addr}{o:Obj}(e:(oZ h H).get? b=some o):h.get? b=some o/\H b=none:=by
 have e':h.get? b=some o:=PySem.W.of_hideAll (FN h H) e
 refine⟨e',?_⟩
 cases q:H b with
 |none=>rfl
 |some x=>
  have hm:b∈FN h H:=KZ.mpr ⟨IH.mpr (Il e'),by simp[q]⟩
  have z:(oZ h H).get? b=none:=PySem.W.hideAll_none (FN h H) hm
  rw[z] at e;cases e
def A2 (g h:Heap)(L:Addr):List (Addr×Obj):=(List.range h.objs.size).filterMap λa=>if a=L\/(g.get? a).isSome=true then none else (h.get? a).map λo=>(a,o)
def rest (g h:Heap)(L d:Addr):List (Addr×Obj):=(A2 g h L).filter λp=>decide (p.1≠d)
structure Mod (K:Frag)(mg:Str->Option Value)(base:Heap):Prop where
 kin:K.In base
 glob:base.Ns mainGlobals mg
 blt:∃mb,base.Ns builtinsNs mb/\∀x:Str,x≠"__name__"->mb x=bootBuiltins x
 nolimit:base.NoLimit
 sys:∃mm,base.Ns sysModules mm
structure Cx where
 prog:Program
 w:World
 K:Frag
 mg:Str->Option Value
 base:Heap
 A:Around
 N:List Str
 s₀:Shared
 H₀:Hp
 env:Env
 outer:List Env
 stack:List Env
 ex:List Addr
 fn:Str->Bool
 calm:Bool
 pn:List (Addr×Obj)
 xe:Value->Shared->Prop
def jC (l:List Env):List Addr:=l.filterMap (·.frame)
abbrev Cx.fs (X:Cx):List Addr:=jC X.outer
def vX (sc:Scope)(x:Str):Prop:=sc.names.lookup x=some .local\/sc.names.lookup x=some .cell\/sc.names.lookup x=some .free
def Loc (sc:Scope)(x:Str):Prop:=sc.names.lookup x=some .local\/sc.names.lookup x=some .cell
def Look (env:Env)(h:Heap)(m:Str->Option Value)(x:Str)(u:Value):Prop:=
 (env.kindOf x=some .local/\m x=some u)\/((env.kindOf x=some .cell\/env.kindOf x=some .free)/\∃c,env.cells.lookup x=some c/\h.IsCell c (some u))
structure Cx.Ok (X:Cx):Prop where
 mod:Mod X.K X.mg X.base
 kind:X.env.scope.kind=.function
 glob:X.env.globals=mainGlobals
 blt:X.env.builtins=builtinsNs
 above:X.s₀.heap.objs.size<=X.env.locals
 inj:∀x y c,X.env.cells.lookup x=some c->X.env.cells.lookup y=some c->x=y
 has:∀x,(X.env.kindOf x=some .cell\/X.env.kindOf x=some .free)->∃c,X.env.cells.lookup x=some c
 cab:∀x c,X.fn x=true->X.env.cells.lookup x=some c->X.s₀.heap.objs.size<=c
 hd:X.calm=true->X.A.handled=none
 frames:X.A.frames=some X.stack
 stk:X.stack=X.outer\/(X.stack=X.env :: X.outer/\X.env.frame=some X.env.locals)
 exf:∀b∈X.ex,b≠X.env.locals/\∀x c,X.env.cells.lookup x=some c->c≠b
 bs:∀b o,X.base.get? b=some o->X.s₀.heap.get? b=some o/\X.H₀ b=none
 bsz:X.base.objs.size<=X.s₀.heap.objs.size
 noex:∀b o,X.base.get? b=some o->b∉X.ex
 exfs:∀b∈X.ex,b∉X.fs
 funs:X.s₀.heap.FunFrames X.base X.outer
 frf:∀b∈X.fs,X.H₀ b=none
structure Inv (X:Cx)(pins:List (Addr×Obj))(σ:List (Option V))(H:Hp)(s:Shared):Prop where
 ok:X.Ok
 os:s.os=X.s₀.os
 bare:AllBare s.gens
 base:Un X.fs X.ex X.H₀ H X.s₀.heap s.heap
 loc:∃m,s.heap.Ns X.env.locals m/\∀(i:Nat) (x:Str) (v:V),X.N[i]? =some x->σ[i]? =some (some v)->vX X.env.scope x->∃u,RelV v u/\Look X.env s.heap m x u
 cell:∀x c,X.env.cells.lookup x=some c->∃v,s.heap.IsCell c v
 free:H X.env.locals=none
 freeC:∀x c,X.env.cells.lookup x=some c->H c=none
 pin:∀p∈X.pn ++ pins,s.heap.get? p.1=some p.2/\H p.1=none/\p.1≠X.env.locals/\p.1∉X.fs/\∀v,p.2.data≠.cell v
 hok:je X.prog X.w H s.heap
 len:σ.length=X.N.length
section
variable {X:Cx}{pins:List (Addr×Obj)}{σ:List (Option V)}{H H':Hp}{s:Shared}{h':Heap}
def Cx.Ok.nofr (ok:X.Ok){b:Addr}{o:Obj}(e:X.base.get? b=some o):b∉X.fs:=λhb=>by
 have:=(ok.funs.mem hb).1
 rw[e] at this;cases this
def Inv.bs (I:Inv X pins σ H s):∀b o,X.base.get? b=some o->s.heap.get? b=some o/\H b=none:=λb o e=>
 ⟨I.base.keep b o (I.ok.bs b o e).1 (I.ok.bs b o e).2 (I.ok.nofr e) (I.ok.noex b o e),I.base.free b o (I.ok.bs b o e).1 (I.ok.bs b o e).2 (I.ok.noex b o e)⟩
def Inv.bk (I:Inv X pins σ H s):∀b o,X.base.get? b=some o->s.heap.get? b=some o:=λb o e=>(I.bs b o e).1
def Inv.mod (I:Inv X pins σ H s):Mod X.K X.mg X.base:=I.ok.mod
def Inv.kIn (I:Inv X pins σ H s):X.K.In s.heap:=I.ok.mod.kin.keeps I.bk
def Inv.lt (I:Inv X pins σ H s):X.env.locals < s.heap.objs.size:=let ⟨_,hn,_⟩:=I.loc;hn.lt
def Inv.sz (I:Inv X pins σ H s):X.s₀.heap.objs.size<=s.heap.objs.size:=Ji I.ok.above (KN I.lt)
def Inv.nofs (I:Inv X pins σ H s){a:Addr}(h:s.heap.objs.size<=a):a∉X.fs:=λhb=>by
 obtain⟨_,o,ho,_⟩:=I.ok.funs.mem hb
 exact absurd (IP (Il ho) (Ji I.sz h)) (IL _)
def Inv.cne (I:Inv X pins σ H s):∀x c,X.env.cells.lookup x=some c->c≠X.env.locals:=λx c e z=>by
 obtain⟨v,o,ho,hd⟩:=I.cell x c e
 obtain⟨m,⟨o',es,ep,ho',hd',_⟩,_⟩:=I.loc
 rw[z,ho'] at ho;cases ho;rw[hd'] at hd;cases hd
def Inv.funs (I:Inv X pins σ H s):s.heap.FunFrames X.base X.outer:=by
 have all:∀(l:List Env),(∀b∈jC l,b∈X.fs)->X.s₀.heap.FunFrames X.base l->s.heap.FunFrames X.base l:=by
  intro l
  induction l with
  |nil=>intro _ _;trivial
  |cons env r ih=>
   intro hs hl
   obtain⟨hk,⟨L,o,hf,hn,ho,hd⟩,hr⟩:=hl
   have hL:L∈X.fs:=hs L (by unfold jC;rw[J4,hf];exact Ig)
   obtain⟨sl,e⟩:=I.base.slot L o ho (I.ok.frf L hL) hL λz=>I.ok.exfs L z hL
   exact⟨hk,⟨L,_,hf,hn,e,hd⟩,ih (λb hb=>hs b (by unfold jC;rw[J4,hf];exact Ie _ hb)) hr⟩
 exact all X.outer (λ_ hb=>hb) I.ok.funs
def Inv.stack (I:Inv X pins σ H s):s.heap.FunFrames X.base X.stack:=by
 rcases I.ok.stk with e | ⟨e,hf⟩
 ·rw[e];exact I.funs
 ·rw[e]
  obtain⟨m,hn,_⟩:=I.loc
  refine .cons (by rw[I.ok.kind];decide) hf hn ?_ I.funs
  exact Heap.get?_none_of_le (Ji I.ok.bsz I.ok.above)
def Inv.stkSub (I:Inv X pins σ H s):∀b∈jC X.stack,b∈X.env.locals :: X.fs:=λb hb=>by
 rcases I.ok.stk with e | ⟨e,hf⟩
 ·rw[e] at hb;exact Ie _ hb
 ·rw[e] at hb
  unfold jC at hb
  rw[J4,hf] at hb
  exact hb
def Inv.stkFree (I:Inv X pins σ H s):∀b∈jC X.stack,H b=none:=λb hb=>by
 rcases Ih.mp (I.stkSub b hb) with e |hb
 ·rw[e];exact I.free
 ·obtain⟨_,o,ho,_⟩:=I.ok.funs.mem hb
  exact I.base.free b o ho (I.ok.frf b hb) λz=>I.ok.exfs b z hb
def Inv.step {g':Array GenState}{t':Nat}{d':Drawn}{ch:List Addr}(I:Inv X pins σ H s)
  (hch:∀b∈ch,(b∈X.ex\/X.s₀.heap.objs.size<=b)/\b≠X.env.locals/\(∀x c,X.env.cells.lookup x=some c->c≠b)/\∀p∈X.pn ++ pins,p.1≠b)
  (keep:∀b o,b≠X.env.locals->b∉X.fs->b∉ch->s.heap.get? b=some o->H b=none->h'.get? b=some o)
  (slot:∀b o,b≠X.env.locals->b∈X.fs->b∉ch->s.heap.get? b=some o->H b=none->∃sl,h'.get? b=some {o with slots:=sl}) (free:∀b o,b∉ch->s.heap.get? b=some o->H b=none->H' b=none)
  (there:∀b o,b∉ch->s.heap.get? b=some o->∃o',h'.get? b=some o')
  (tups:∀b xs,H b=some (.tup xs)->H' b=some (.tup xs)) (frzs:∀b o u,H b=some (.aO o u)->H' b=some (.aO o u)) (tbls:∀b ps,H b=some (.tbl ps)->∃more,H' b=some (.tbl (ps ++ more)))
  (ns:∀m,s.heap.Ns X.env.locals m->h'.Ns X.env.locals m) (hok:je X.prog X.w H' h') (hg:AllBare g') :
  Inv X pins σ H' {s with heap:=h',gens:=g',drawn:=d',toks:=t'}:=by
 have neL:∀b o,X.s₀.heap.get? b=some o->b≠X.env.locals:=λb o e=>Ja (IP (Il e) I.ok.above)
 have neC:∀b o,X.s₀.heap.get? b=some o->b∉X.ex->b∉ch:=λb o e hx hb=>by
  rcases (hch b hb).1 with z |z
  ·exact hx z
  ·exact absurd (IP (Il e) z) (IL _)
 have cellK:∀x c,X.env.cells.lookup x=some c->∀v,s.heap.IsCell c v->h'.IsCell c v:=λx c e v ⟨o,ho,hd⟩=>by
  have nch:c∉ch:=λz=>(hch c z).2.2.1 x c e rfl
  by_cases hc:c∈X.fs
  ·obtain⟨sl,q⟩:=slot c o (I.cne x c e) hc nch ho (I.freeC x c e)
   exact⟨_,q,hd⟩
  ·exact⟨o,keep c o (I.cne x c e) hc nch ho (I.freeC x c e),hd⟩
 refine⟨I.ok,I.os,hg,⟨λb o e n hb hx=>?_,λb o e n hb hx=>?_,λb o e n hx=>?_,λb o e hx=>?_,λb xs e=>tups b xs (I.base.tups b xs e),λb o xs e=>frzs b o xs (I.base.frzs b o xs e),λb ps e=>?_⟩,?_,λx c e=>?_,?_,λx c e=>?_,λp hp=>?_,hok,I.len⟩
 ·exact keep b o (neL b o e) hb (neC b o e hx) (I.base.keep b o e n hb hx) (I.base.free b o e n hx)
 ·obtain⟨sl,e1⟩:=I.base.slot b o e n hb hx
  obtain⟨sl',e2⟩:=slot b _ (neL b o e) hb (neC b o e hx) e1 (I.base.free b o e n hx)
  exact⟨sl',e2⟩
 ·obtain⟨o',e1⟩:=I.base.there b o e hx
  exact free b o' (neC b o e hx) e1 (I.base.free b o e n hx)
 ·obtain⟨o',e1⟩:=I.base.there b o e hx
  exact there b o' (neC b o e hx) e1
 ·obtain⟨m1,e1⟩:=I.base.tbls b ps e
  obtain⟨m2,e2⟩:=tbls b _ e1
  exact⟨m1 ++ m2,by rw[e2,Array.append_assoc]⟩
 ·obtain⟨m,hn,hl⟩:=I.loc
  refine⟨m,ns m hn,λi x v e1 e2 e3=>?_⟩
  obtain⟨u,r,l⟩:=hl i x v e1 e2 e3
  refine⟨u,r,?_⟩
  rcases l with l | ⟨k,c,e,z⟩
  ·exact .inl l
  ·exact .inr ⟨k,c,e,cellK x c e _ z⟩
 ·obtain⟨v,z⟩:=I.cell x c e
  exact⟨v,cellK x c e v z⟩
 ·obtain⟨m,⟨o,_,_,ho,_⟩,_⟩:=I.loc
  exact free _ o (λz=>(hch _ z).2.1 rfl) ho I.free
 ·obtain⟨v,o,ho,hd⟩:=I.cell x c e
  exact free c o (λz=>(hch c z).2.2.1 x c e rfl) ho (I.freeC x c e)
 ·obtain⟨e,n,ne,nf,d⟩:=I.pin p hp
  have nch:p.1∉ch:=λz=>(hch p.1 z).2.2.2 p hp rfl
  exact⟨keep p.1 p.2 ne nf nch e n,free p.1 p.2 nch e n,ne,nf,d⟩
def Inv.un {t':Nat}(I:Inv X pins σ H s)(u:Un X.fs [] H H' s.heap h')(hok:je X.prog X.w H' h'):Inv X pins σ H' {s with heap:=h',toks:=t'}:=by
 obtain⟨m,⟨o,es,ep,ho,r⟩,_⟩:=id I.loc
 obtain⟨sl,hL⟩:=u.any ho I.free (by simp)
 exact I.step (g':=s.gens) (d':=s.drawn) (ch:=[]) (λ_ z=>nomatch z) (λb o _ hb _ e n=>u.keep b o e n hb (by simp)) (λb o _ hb _ e n=>u.slot b o e n hb (by simp)) (λb o _ e n=>u.free b o e n (by simp)) (λb o _ e=>u.there b o e (by simp)) u.tups u.frzs u.tbls (λm' hm=>by
  obtain⟨o',es',ep',ho',r'⟩:=hm
  rw[ho] at ho';cases ho'
  exact⟨_,es',ep',hL,r'⟩) hok I.bare
def Inv.call {g':Array GenState}{t':Nat}{d':Drawn}{ch:List Addr}(I:Inv X pins σ H s)(u:Un (jC X.stack) ch H H' s.heap h')(hok:je X.prog X.w H' h')(hg:AllBare g')
  (hch:∀b∈ch,(b∈X.ex\/X.s₀.heap.objs.size<=b)/\b≠X.env.locals/\(∀x c,X.env.cells.lookup x=some c->c≠b)/\∀p∈X.pn ++ pins,p.1≠b) :
  Inv X pins σ H' {s with heap:=h',gens:=g',drawn:=d',toks:=t'}:=by
 obtain⟨m,⟨o,es,ep,ho,r⟩,_⟩:=id I.loc
 obtain⟨sl,hL⟩:=u.any ho I.free λz=>(hch _ z).2.1 rfl
 exact I.step (ch:=ch) hch (λb o hL hb hc e n=>u.keep b o e n (λz=>(Ih.mp (I.stkSub b z)).elim hL hb) hc) (λb o _ _ hc e n=>u.any e n hc) (λb o hc e n=>u.free b o e n hc) (λb o hc e=>u.there b o e hc) u.tups u.frzs u.tbls (λm' hm=>by
  obtain⟨o',es',ep',ho',r'⟩:=hm
  rw[ho] at ho';cases ho'
  exact⟨_,es',ep',hL,r'⟩) hok hg
def Inv.turned {t':Nat}{it:Addr}(I:Inv X pins σ H s)(k:∀b o,b≠it->s.heap.get? b=some o->h'.get? b=some o)(hn:H it=none)(hL:it≠X.env.locals)
  (h1:it∈X.ex\/X.s₀.heap.objs.size<=it) (h2:∀x c,X.env.cells.lookup x=some c->c≠it) (h3:∀p∈X.pn ++ pins,p.1≠it):Inv X pins σ H {s with heap:=h',toks:=t'}:=by
 have nit:∀b u,H b=some u->b≠it:=λb u e z=>by rw[z,hn] at e;cases e
 refine I.step (g':=s.gens) (d':=s.drawn) (ch:=[it]) (λb hb=>?_) (λb o _ _ hc e _=>k b o (λz=>hc (by simp[z])) e) (λb o _ _ hc e _=>⟨o.slots,k b o (λz=>hc (by simp[z])) e⟩) (λ_ _ _ _ n=>n)
  (λb o hc e=>⟨o,k b o (λz=>hc (by simp[z])) e⟩) (λ_ _ e=>e) (λ_ _ _ e=>e) (λb ps e=>⟨#[],by rw[e];simp⟩) (λm hm=>?_) (λb u e=>?_) I.bare
 ·have e:b=it:=by simpa using hb
  subst e
  exact⟨h1,hL,h2,h3⟩
 ·obtain⟨o,es,ep,ho,r⟩:=hm
  exact⟨o,es,ep,k _ o (Ne.symm hL) ho,r⟩
 ·refine (I.hok b u e).stay (λc v hc q=>k c v ?_ q) (λ_ q=>q) λ_ _ q=>q
  rcases hc with z |z
  ·rw[z];exact nit b u e
  ·exact nit c _ z
def Inv.tok (I:Inv X pins σ H s)(t:Nat):Inv X pins σ H {s with toks:=t}:=I.un (h':=s.heap) (t':=t) Un.refl I.hok
def Inv.kept {t':Nat}(I:Inv X pins σ H s)(k:∀b u,s.heap.get? b=some u->h'.get? b=some u):Inv X pins σ H {s with heap:=h',toks:=t'}:=I.un (Un.kept k) (I.hok.kept k)
def Inv.laid {a:Addr}{o:HO}{t':Nat}(I:Inv X pins σ H s)(k:∀b u,s.heap.get? b=some u->h'.get? b=some u)(hp:s.heap.objs.size<=a)(new:bw X.prog X.w (upd H a o) h' a o) :
  Inv X pins σ (upd H a o) {s with heap:=h',toks:=t'}:=I.un (Un.laid k hp (I.hok.fresh hp)) (I.hok.laid k hp new)
def Inv.write {x e:Addr}{o:HO}{t':Nat}(I:Inv X pins σ H s)(mu:E1 (H x))(he:e=x\/H e=some (.own x))(k:∀b u,b≠e->s.heap.get? b=some u->h'.get? b=some u)(heo:∃u,h'.get? e=some u)
  (new:bw X.prog X.w (upd H x o) h' x o):Inv X pins σ (upd H x o) {s with heap:=h',toks:=t'}:=I.un (Un.write mu he k heo) (I.hok.write mu he k heo new)
def Inv.pins_of {pins':List (Addr×Obj)}(I:Inv X pins σ H s)(h:∀p∈pins',s.heap.get? p.1=some p.2/\H p.1=none/\p.1≠X.env.locals/\p.1∉X.fs/\∀v,p.2.data≠.cell v):Inv X pins' σ H s:=
 ⟨I.ok,I.os,I.bare,I.base,I.loc,I.cell,I.free,I.freeC,λp hp=>(Iu.mp hp).elim (λz=>I.pin p (Ke _ z)) (h p),I.hok,I.len⟩
def sk {N:List Str}(hN:N.Nodup){i j:Nat}{x:Str}(a:N[i]? =some x)(b:N[j]? =some x):i=j:=by
 obtain⟨h1,e1⟩:=Im.mp a
 obtain⟨h2,e2⟩:=Im.mp b
 exact (List.getElem_inj hN).mp (e1.trans e2.symm)
def wX {M:Model}{A:Around}{E:Value->Shared->Prop}{i:Nat}{x:Str}{v:V}{u:Value}{Q:Unit->Shared->Prop}(I:Inv X pins σ H s)(hN:X.N.Nodup)(hi:X.N[i]? =some x)(hx:Loc X.env.scope x)(r:RelV v u)
  (h:∀s',Inv X pins (σ.set i (some v)) H s'->(∃a,Heap.SameBut a s.heap s'.heap/\(a=X.env.locals\/X.env.cells.lookup x=some a))->Q () s') (hf:X.fn x=true\/X.env.scope.names.lookup x=some .local:=by first |exact .inl rfl |exact .inr rfl |assumption):wpAny M A (storeName X.env x u) Q E s:=by
 obtain⟨m,hn,hl⟩:=id I.loc
 have hcls:(X.env.scope.kind == .class || (X.env.scope.kind == .module && X.env.locals != X.env.globals))=false:=by rw[I.ok.kind];rfl
 have hiσ:i < σ.length:=by rw[I.len];exact (Im.mp hi).1
 have cne:=I.cne
 have tracked:∀{a:Addr} {h':Heap},(∃o,s.heap.get? a=some o/\H a=none)->Heap.SameBut a s.heap h'->je X.prog X.w H h':=λ{a h'} ha hs b ob e=>by
  obtain⟨_,_,hfree⟩:=ha
  refine (I.hok b ob e).stay (λc w' hc q=>(hs.2 c ?_).trans q) (λ_ q=>q) λ_ _ q=>q
  rintro rfl
  rcases hc with rfl |hc
  ·rw[hfree] at e;cases e
  ·rw[hfree] at hc;cases hc
 rcases hx with hk |hk
 ·refine wpAny_storeName_local hk hn (λh' hn' hs=>?_) hcls
  obtain⟨oL,_,_,hoL,_⟩:=id hn
  refine h _ ⟨I.ok,I.os,I.bare,⟨λb o e n hb hx=>?_,λb o e n hb hx=>?_,I.base.free,λb o e hx=>?_,I.base.tups,I.base.frzs,I.base.tbls⟩,⟨_,hn',λj y v' e1 e2 e3=>?_⟩,λy c e=>?_,I.free,I.freeC,λp hp=>?_,tracked ⟨oL,hoL,I.free⟩ hs,by simpa using I.len⟩ ⟨_,hs,.inl rfl⟩
  ·exact (hs.2 b (Ja (IP (Il e) I.ok.above))).trans (I.base.keep b o e n hb hx)
  ·obtain⟨sl,e1⟩:=I.base.slot b o e n hb hx
   exact⟨sl,(hs.2 b (Ja (IP (Il e) I.ok.above))).trans e1⟩
  ·obtain⟨o',e1⟩:=I.base.there b o e hx
   exact⟨o',(hs.2 b (Ja (IP (Il e) I.ok.above))).trans e1⟩
  ·by_cases hj:j=i
   ·subst hj
    rw[hi] at e1;cases e1
    rw[IA hiσ] at e2
    cases e2
    exact⟨u,r,.inl ⟨hk,by simp⟩⟩
   ·rw[Iy (Ne.symm hj)] at e2
    obtain⟨u',r',q⟩:=hl j y v' e1 e2 e3
    refine⟨u',r',?_⟩
    rcases q with⟨k,e⟩ | ⟨k,c,e,z⟩
    ·refine .inl ⟨k,?_⟩
     have:y≠x:=λe=>hj (sk hN e1 (e▸hi))
     simp[this,e]
    ·exact .inr ⟨k,c,e,z.sameBut hs (cne y c e)⟩
  ·obtain⟨w',z⟩:=I.cell y c e
   exact⟨w',z.sameBut hs (cne y c e)⟩
  ·obtain⟨e,n,ne,nf,d⟩:=I.pin p hp
   exact⟨(hs.2 p.1 ne).trans e,n,ne,nf,d⟩
 ·have hfn:X.fn x=true:=by
   rcases hf with z |z
   ·exact z
   ·rw[z] at hk;cases hk
  obtain⟨c,hc⟩:=I.ok.has x (.inl hk)
  obtain⟨w',z⟩:=I.cell x c hc
  refine wpAny_storeName_cell I.ok.kind hk hc z (λh' hc' hs=>?_)
  obtain⟨oc,hoc,hocd⟩:=id z
  refine h {s with heap:=h'} ⟨I.ok,I.os,I.bare,⟨λb o e n hb hx=>?_,λb o e n hb hx=>?_,I.base.free,λb o e hx=>?_,I.base.tups,I.base.frzs,I.base.tbls⟩,⟨m,hn.sameBut hs (Ne.symm (cne x c hc)),λj y v' e1 e2 e3=>?_⟩,λy c' e=>?_,I.free,I.freeC,λp hp=>?_,tracked ⟨oc,hoc,I.freeC x c hc⟩ hs,by simpa using I.len⟩ ⟨c,hs,.inr hc⟩
  ·exact (hs.2 b (Ja (IP (Il e) (I.ok.cab x c hfn hc)))).trans (I.base.keep b o e n hb hx)
  ·obtain⟨sl,e1⟩:=I.base.slot b o e n hb hx
   exact⟨sl,(hs.2 b (Ja (IP (Il e) (I.ok.cab x c hfn hc)))).trans e1⟩
  ·obtain⟨o',e1⟩:=I.base.there b o e hx
   exact⟨o',(hs.2 b (Ja (IP (Il e) (I.ok.cab x c hfn hc)))).trans e1⟩
  ·by_cases hj:j=i
   ·subst hj
    rw[hi] at e1;cases e1
    rw[IA hiσ] at e2
    cases e2
    exact⟨u,r,.inr ⟨.inl hk,c,hc,hc'⟩⟩
   ·rw[Iy (Ne.symm hj)] at e2
    obtain⟨u',r',q⟩:=hl j y v' e1 e2 e3
    refine⟨u',r',?_⟩
    rcases q with q | ⟨k,c',e,z'⟩
    ·exact .inl q
    ·refine .inr ⟨k,c',e,z'.sameBut hs ?_⟩
     rintro rfl
     exact hj (sk hN e1 (I.ok.inj _ _ _ e hc▸hi))
  ·by_cases hcc:c'=c
   ·subst hcc;exact⟨_,hc'⟩
   ·obtain⟨w2,z2⟩:=I.cell y c' e
    exact⟨w2,z2.sameBut hs hcc⟩
  ·obtain⟨e,n,ne,nf,d⟩:=I.pin p hp
   refine⟨(hs.2 p.1 ?_).trans e,n,ne,nf,d⟩
   intro q
   rw[q,hoc] at e
   have q':oc=p.2:=Option.some.inj e
   exact d w' (by rw[<-q'];exact hocd)
def sf {M:Model}{A:Around}{E:Value->Shared->Prop}{i:Nat}{x:Str}{v:V}{u:Value}{Q:Unit->Shared->Prop}(I:Inv X pins σ H s)(hN:X.N.Nodup)(hi:X.N[i]? =some x)(hx:Loc X.env.scope x)(r:RelV v u)
  (h:∀s',Inv X pins (σ.set i (some v)) H s'->Q () s') (hf:X.fn x=true\/X.env.scope.names.lookup x=some .local:=by first |exact .inl rfl |exact .inr rfl |assumption):wpAny M A (storeName X.env x u) Q E s:=
 wX I hN hi hx r (λs' I' _=>h s' I') hf
def Inv.call' {s':Shared}{ch:List Addr}(I:Inv X pins σ H s)(ho:s'.os=s.os)(u:Un (jC X.stack) ch H H' s.heap s'.heap)(hok:je X.prog X.w H' s'.heap)(hg:AllBare s'.gens)
  (hch:∀b∈ch,(b∈X.ex\/X.s₀.heap.objs.size<=b)/\b≠X.env.locals/\(∀x c,X.env.cells.lookup x=some c->c≠b)/\∀p∈X.pn ++ pins,p.1≠b):Inv X pins σ H' s':=by
 obtain⟨h',g',d',t',o'⟩:=s'
 have e:o'=s.os:=ho
 subst e
 exact I.call (g':=g') (t':=t') (d':=d') u hok hg hch
end
abbrev XK:=Value->Option Addr->Hp->Prop
abbrev St:=List (Option V)
abbrev VK:=V->Hp->Prop
abbrev TE:=St->Hp->VK->Prop
abbrev TT:=St->Hp->(Bool->Hp->Prop)->Prop
abbrev TA:=St->Hp->(List V->Hp->Prop)->Prop
structure Ends where
 nx:St->Hp->Prop
 rt:VK
 bk:St->Hp->Prop:=λ_ _=>False
 ct:St->Hp->Prop:=λ_ _=>False
abbrev TS:=Ends->St->Hp->Prop
def EP (X:Cx)(pins:List (Addr×Obj))(σ:St)(Q:VK)(u:Value)(s':Shared):Prop:=∃v H',Inv X pins σ H' s'/\RelV v u/\Q v H'
def TP (X:Cx)(pins:List (Addr×Obj))(σ:St)(Q:Bool->Hp->Prop)(b:Bool)(s':Shared):Prop:=∃H',Inv X pins σ H' s'/\Q b H'
def AP (X:Cx)(pins:List (Addr×Obj))(σ:St)(Q:List V->Hp->Prop)(us:List Value)(s':Shared):Prop:=∃vs H',Inv X pins σ H' s'/\Vals vs us/\Q vs H'
def SP (X:Cx)(pins:List (Addr×Obj))(D:Ends)(f:Flow)(s':Shared):Prop:=
 match f with
 | .next=>∃σ' H',Inv X pins σ' H' s'/\D.nx σ' H'
 | .brk=>∃σ' H',Inv X pins σ' H' s'/\D.bk σ' H'
 | .cont=>∃σ' H',Inv X pins σ' H' s'/\D.ct σ' H'
 | .ret u=>∃v σ' H',Inv X pins σ' H' s'/\RelV v u/\D.rt v H'
def PE (X:Cx)(e:Expr)(t:TE):Prop:=
 ∀(pins:List (Addr×Obj)) (s:Shared) (σ:St) (H:Hp) (Q:VK),Inv X pins σ H s->t σ H Q->wpAny (model X.prog X.w) X.A (eval e X.env) (EP X pins σ Q) X.xe s
def PT (X:Cx)(e:Expr)(t:TT):Prop:=
 ∀(pins:List (Addr×Obj)) (s:Shared) (σ:St) (H:Hp) (Q:Bool->Hp->Prop),Inv X pins σ H s->t σ H Q->wpAny (model X.prog X.w) X.A (isTrue e X.env (eval e X.env)) (TP X pins σ Q) X.xe s
def PW (X:Cx)(e:Expr)(t:TT):Prop:=
 ∀(whole:Sem Value) (pins:List (Addr×Obj)) (s:Shared) (σ:St) (H:Hp) (Q:Bool->Hp->Prop),Inv X pins σ H s->t σ H Q->wpAny (model X.prog X.w) X.A (isTrue e X.env whole) (TP X pins σ Q) X.xe s
def PW.pt {X:Cx}{e:Expr}{t:TT}(h:PW X e t):PT X e t:=h _
def PA (X:Cx)(es:List Expr)(t:TA):Prop:=
 ∀(pos:Pos) (pins:List (Addr×Obj)) (s:Shared) (σ:St) (H:Hp) (Q:List V->Hp->Prop),Inv X pins σ H s->t σ H Q->wpAny (model X.prog X.w) X.A (spliced (backTo pos (starEach es X.env))) (AP X pins σ Q) X.xe s
def PS (X:Cx)(st:Stmt)(t:TS):Prop:=
 ∀(pins:List (Addr×Obj)) (s:Shared) (σ:St) (H:Hp) (D:Ends),Inv X pins σ H s->t D σ H->wpAny (model X.prog X.w) X.A (exec st X.env) (SP X pins D) X.xe s
def ou (X:Cx)(st:List Stmt)(t:TS):Prop:=
 ∀(pins:List (Addr×Obj)) (s:Shared) (σ:St) (H:Hp) (D:Ends),Inv X pins σ H s->t D σ H->wpAny (model X.prog X.w) X.A (execs st X.env) (SP X pins D) X.xe s
def bP {α:Type}{t:Sem α}{Q Q':α->Shared->Prop}{M:Model}{A:Around}{E:Value->Shared->Prop}{s:Shared}(h:wpAny M A t Q E s)(hQ:∀a s,Q a s->Q' a s):wpAny M A t Q' E s:=JK h hQ λ_ _ x=>x
section
variable {X:Cx}
def bin {a b:Expr}{ta tb:TE}(ha:PE X a ta)(hb:PE X b tb){pins:List (Addr×Obj)}{s:Shared}{σ:St}{H:Hp}{R:V->V->Hp->Prop}(I:Inv X pins σ H s)(h:ta σ H λx H1=>tb σ H1 λy H2=>R x y H2)
  {α:Type} {Q:α->Shared->Prop} {f:Value->Value->Sem α}
  (hf:∀v u s2 x y H2,Inv X pins σ H2 s2->RelV x v->RelV y u->R x y H2->wpAny (model X.prog X.w) X.A (f v u) Q X.xe s2) :
  wpAny (model X.prog X.w) X.A (eval a X.env) (λv s₁=>wpAny (model X.prog X.w) X.A (eval b X.env) (λu s₂=>wpAny (model X.prog X.w) X.A (f v u) Q X.xe s₂) X.xe s₁) X.xe s:=by
 refine bP (ha pins s σ H _ I h) λv s1 ⟨x,H1,I1,r1,q1⟩=>?_
 refine bP (hb pins s1 σ H1 _ I1 q1) λu s2 ⟨y,H2,I2,r2,q2⟩=>?_
 exact hf v u s2 x y H2 I2 r1 r2 q2
def AQ (i:Nat):TE:=λσ H Q=>∃v,σ[i]? =some (some v)/\Q v H
def tC (v:V):TE:=λ_ H Q=>Q v H
def iE {i:Nat}{x:Str}{pos:Pos}(hN:X.N[i]? =some x)(hv:vX X.env.scope x)(hd:(x == ("__debug__":Str))=false:=by decide)(hcd:(x == ("__classdict__":Str))=false:=by decide):PE X (.Name x pos) (AQ i):=by
 intro pins s σ H Q I h
 obtain⟨v,e,h⟩:=h
 obtain⟨m,hn,hl⟩:=I.loc
 obtain⟨u,r,l⟩:=hl i x v hN e hv
 have fin:EP X pins σ Q u s:=⟨v,H,I,r,h⟩
 rcases l with⟨hk,hm⟩ | ⟨hk,c,hc,hcell⟩
 ·exact wpAny_Name (wpAny_loadName_local I.ok.kind hk hn hm fin) hd
 ·rcases hk with hk |hk
  ·exact wpAny_Name (wpAny_loadName_cell I.ok.kind hk hc hcell fin) hd
  ·exact wpAny_Name (wpAny_loadName_free I.ok.kind hk hc hcell fin hcd) hd
def mR {i j pos}:PE X (.Constant (.int i) j pos) (tC (.int i)):=λ_ _ _ H _ I h=>wpAny_Constant_int ⟨.int i,H,I.tok _,⟨_,rfl⟩,h⟩
def vg {b j pos}:PE X (.Constant (.bool b) j pos) (tC (.bl b)):=λ_ _ _ H _ I h=>Constant_bool ⟨.bl b,H,I,rfl,h⟩
def DJ {j pos}:PE X (.Constant .none j pos) (tC .non):=λ_ _ _ H _ I h=>Constant_none ⟨.non,H,I,rfl,h⟩
def yi {x j pos}:PE X (.Constant (.str x) j pos) (tC (.str x)):=λ_ _ _ H _ I h=>Calls.Constant_str ⟨.str x,H,I.tok _,⟨_,rfl⟩,h⟩
def Gl (X:Cx)(x:Str):Prop:=X.env.kindOf x=some .globalImplicit
def vW {E:Value->Shared->Prop}{pins:List (Addr×Obj)}{s:Shared}{σ:St}{H:Hp}{x:Str}{u:Value}{pos:Pos}{Q:Value->Shared->Prop}(I:Inv X pins σ H s)(hg:Gl X x)(hm:X.mg x=some u)(h:Q u s)
  (hd:(x == ("__debug__":Str))=false:=by decide):wpAny (model X.prog X.w) X.A (eval (.Name x pos) X.env) Q E s:=
 Calls.Name_function_global I.ok.kind hg (Calls.loadGlobal_global (by rw[I.ok.glob];exact I.mod.glob.keeps I.bk) hm h) hd
def mV {E:Value->Shared->Prop}{pins:List (Addr×Obj)}{s:Shared}{σ:St}{H:Hp}{x:Str}{u:Value}{pos:Pos}{Q:Value->Shared->Prop}(I:Inv X pins σ H s)(hg:Gl X x)(hm:X.mg x=none)(hv:bootBuiltins x=some u)(h:Q u s)
  (hn:x≠"__name__":=by decide) (hd:(x == ("__debug__":Str))=false:=by decide):wpAny (model X.prog X.w) X.A (eval (.Name x pos) X.env) Q E s:=by
 obtain⟨mb,h1,h2⟩:=I.mod.blt
 exact Calls.Name_function_global I.ok.kind hg (Calls.loadGlobal_builtin (by rw[I.ok.glob];exact I.mod.glob.keeps I.bk) hm (by rw[I.ok.blt];exact h1.keeps I.bk) ((h2 x hn).trans hv) h) hd
def A7 {x:Str}{v:V}{u:Value}{pos:Pos}(hg:Gl X x)(hm:X.mg x=some u)(r:RelV v u)(hd:(x == ("__debug__":Str))=false:=by decide):PE X (.Name x pos) (tC v):=
 λ_ _ _ H _ I h=>vW I hg hm ⟨v,H,I,r,h⟩ hd
def AE {x:Str}{v:V}{u:Value}{pos:Pos}(hg:Gl X x)(hm:X.mg x=none)(hv:bootBuiltins x=some u)(r:RelV v u)(hn:x≠"__name__":=by decide)(hd:(x == ("__debug__":Str))=false:=by decide):PE X (.Name x pos) (tC v):=
 λ_ _ _ H _ I h=>mV I hg hm hv ⟨v,H,I,r,h⟩ hn hd
variable {a b:Expr}{ta tb:TE}{pos:Pos}
def PC (X:Cx)(op:CmpOp)(a b:Expr)(t:TE):Prop:=
 ∀(pins:List (Addr×Obj)) (s:Shared) (σ:St) (H:Hp) (Q:VK),Inv X pins σ H s->t σ H Q->
  wpAny (model X.prog X.w) X.A (eval a X.env) (λv s₁=>wpAny (model X.prog X.w) X.A (eval b X.env) (λu s₂=>wpAny (model X.prog X.w) X.A (compareOp op v u) (EP X pins σ Q) X.xe s₂) X.xe s₁) X.xe s
def tB (t:TE):TT:=λσ H Q=>t σ H λx H1=>∃c,x=.bl c/\Q c H1
def GN {op:CmpOp}{t:TE}(h:PC X op a b t)(h1:behindInMarks op b=false:=by first |exact nobehind _ (by decide) (by decide) |rfl):PT X (.Compare a [op] [b] pos) (tB t):=by
 intro pins s σ H Q I hw
 refine wpAny_isTrue_Compare1 (bP (h pins s σ H _ I hw) λv s1 h1=>bP h1 λu s2 h2=>bP h2 λc s3 ⟨x,H1,I1,r1,q1⟩=>?_) h1
 obtain⟨d,rfl,q⟩:=q1
 cases r1
 exact JD ⟨H1,I1,q⟩
def uv {e:Expr}{t:TE}(h:PE X e t)(he:∀whole,isTrue e X.env whole=(do let v <-whole;standAt e.pos;holding [v] (truthy v)):=by intro _;rfl):PT X e (tB t):=by
 intro pins s σ H Q I hw
 refine isTrue_plain (bP (h pins s σ H _ I hw) λv s1 ⟨x,H1,I1,r1,q1⟩=>?_) (he _)
 obtain⟨d,rfl,q⟩:=q1
 cases r1
 exact JD ⟨H1,I1,q⟩
variable {tA tB':TT}{rest:List Expr}
def Hh (t u:TT):TT:=λσ H Q=>t σ H λc H1=>if c=true then u σ H1 Q else Q false H1
def HK (t u:TT):TT:=λσ H Q=>t σ H λc H1=>if c=true then Q true H1 else u σ H1 Q
def Gr (t:TT):TT:=λσ H Q=>t σ H λc H1=>Q (!c) H1
theorem BL (ha:PT X a tA):PW X (.BoolOp .And [a] pos) tA:=by
 intro wh pins s σ H Q I h
 refine isTrue_and (bP (ha pins s σ H Q I h) λc s1 e=>?_)
 cases c with
 |true=>exact isTrue_and_nil e
 |false=>exact e
theorem CA (ha:PT X a tA):PW X (.BoolOp .Or [a] pos) tA:=by
 intro wh pins s σ H Q I h
 refine isTrue_or (bP (ha pins s σ H Q I h) λc s1 e=>?_)
 cases c with
 |false=>exact isTrue_or_nil e
 |true=>exact e
theorem Cz (ha:PT X a tA)(hb:PW X (.BoolOp .And (b :: rest) pos) tB'):PW X (.BoolOp .And (a :: b :: rest) pos) (Hh tA tB'):=by
 intro wh pins s σ H Q I h
 refine isTrue_and (bP (ha pins s σ H _ I h) λc s1 ⟨H1,I1,q1⟩=>?_)
 cases c with
 |true=>exact hb wh pins s1 σ H1 Q I1 q1
 |false=>exact⟨H1,I1,q1⟩
theorem EY (ha:PT X a tA)(hb:PW X (.BoolOp .Or (b :: rest) pos) tB'):PW X (.BoolOp .Or (a :: b :: rest) pos) (HK tA tB'):=by
 intro wh pins s σ H Q I h
 refine isTrue_or (bP (ha pins s σ H _ I h) λc s1 ⟨H1,I1,q1⟩=>?_)
 cases c with
 |true=>exact⟨H1,I1,q1⟩
 |false=>exact hb wh pins s1 σ H1 Q I1 q1
def CP (ha:PT X a tA):PT X (.UnaryOp .Not a pos) (Gr tA):=by
 intro pins s σ H Q I h
 exact isTrue_not (ha pins s σ H (λc H1=>Q (!c) H1) I h)
def Es (ta tb:TE):TE:=λσ H Q=>ta σ H λx H1=>∃c,x=.bl c/\if c=true then tb σ H1 Q else Q (.bl false) H1
def Fl (ta:TE):TE:=λσ H Q=>ta σ H λx H1=>∃c,x=.bl c/\Q (.bl (!c)) H1
def Dl {op}{t:TE}(h:PE X a t):PE X (.BoolOp op [a] pos) t:=λpins s σ H Q I hw=>BoolOp_one (h pins s σ H Q I hw)
theorem DT (ha:PE X a ta)(hb:PE X (.BoolOp .And (b :: rest) pos) tb):PE X (.BoolOp .And (a :: b :: rest) pos) (Es ta tb):=by
 intro pins s σ H Q I h
 refine BoolOp_and (bP (ha pins s σ H _ I h) λv s1 ⟨x,H1,I1,r1,q1⟩=>?_)
 obtain⟨c,rfl,q1⟩:=q1
 cases r1
 refine JD ?_
 cases c with
 |true=>exact hb pins s1 σ H1 Q I1 q1
 |false=>exact⟨.bl false,H1,I1,rfl,q1⟩
def C6 (ha:PE X a ta):PE X (.UnaryOp .Not a pos) (Fl ta):=by
 intro pins s σ H Q I h
 refine UnaryOp_ (bP (ha pins s σ H _ I h) λv s1 ⟨x,H1,I1,r1,q1⟩=>?_)
 obtain⟨c,rfl,q1⟩:=q1
 cases r1
 exact not_of (JD ⟨.bl (!c),H1,I1,rfl,q1⟩)
end
def fC (K:Frag)(H:Hp)(a:Addr)(xs:List V):Prop:=
 Rd H a (.lst xs)\/
  ∃(o:Obj) (its:Array Value) (n:Nat),K.lookup a=some o/\o.cls=.type "list"/\o.dict=none/\o.data=.seq its n/\its.size<=sizeLine/\Vals xs its.toList
def dA (K:Frag)(H:Hp)(a:Addr)(xs:List V):Prop:=
 Rd H a (.tup xs)\/
  ∃(o:Obj) (its:Array Value) (n:Nat),K.lookup a=some o/\o.cls=.type "tuple"/\o.data=.seq its n/\its.size<=sizeLine/\Vals xs its.toList/\o.dict=none
def Hb:Value->Option V
 | .none=>some .non
 | .bool b=>some (.bl b)
 | .int i _=>some (.int i)
 | .str x _=>some (.str x)
 | .bytes b _=>some (.byt b)
 | .float b _=>some (.flt b)
 | .ref a=>some (.ref a)
 | .type n=>some (.ty n)
 |_=>none
theorem RelV.abs {x:V}{u:Value}(r:RelV x u):Hb u=some x:=by
 cases x with
 |non=>cases r;rfl
 |bl _=>cases r;rfl
 |int _=>obtain⟨t,rfl⟩:=r;rfl
 |str _=>obtain⟨t,rfl⟩:=r;rfl
 |byt _=>obtain⟨t,rfl⟩:=r;rfl
 |flt _=>obtain⟨t,rfl⟩:=r;rfl
 |ref _=>cases r;rfl
 |ty _=>cases r;rfl
def RelV.inj {x y:V}{u:Value}(r:RelV x u)(q:RelV y u):x=y:=Option.some.inj (r.abs.symm.trans q.abs)
theorem Vals.inj:∀{xs ys:List V} {us:List Value},Vals xs us->Vals ys us->xs=ys
 |_,_,_,.nil,.nil=>rfl
 |_,_,_,.cons r t,.cons r' t'=>by rw[r.inj r',Vals.inj t t']
section
variable {X:Cx}{pins:List (Addr×Obj)}{σ:St}{H:Hp}{s:Shared}{a:Addr}{xs ys:List V}
def Inv.list (I:Inv X pins σ H s)(h:fC X.K H a xs):∃its:List Value,Vals xs its/\PlainL s.heap a its.toArray/\xs.length<=sizeLine:=by
 rcases h with h | ⟨o,its,n,hk,hc,hd,hs,hz,r⟩
 ·obtain⟨z,its,n,r,e⟩:=h.ok I.hok
  exact⟨its,r,⟨_,n,e,rfl,rfl,rfl⟩,z⟩
 ·refine⟨its.toList,r,⟨o,n,I.kIn a o hk,hc,hd,by simpa using hs⟩,?_⟩
  have e:=r.length
  simp only[ID] at e
  omega
def Inv.tuple (I:Inv X pins σ H s)(h:dA X.K H a xs):∃its:List Value,Vals xs its/\IsTup s.heap a its.toArray/\xs.length<=sizeLine:=by
 rcases h with h | ⟨o,its,n,hk,hc,hs,hz,r,_⟩
 ·obtain⟨z,its,r,p⟩:=h.ok I.hok
  exact⟨its,r,p.isTup,z⟩
 ·refine⟨its.toList,r,⟨o,I.kIn a o hk,hc,n,by simpa using hs⟩,?_⟩
  have e:=r.length
  simp only[ID] at e
  omega
def Inv.list_inj (I:Inv X pins σ H s)(h:fC X.K H a xs)(h':fC X.K H a ys):xs=ys:=by
 obtain⟨its,r,⟨o,n,e,_,_,d⟩,_⟩:=I.list h
 obtain⟨its',r',⟨o',n',e',_,_,d'⟩,_⟩:=I.list h'
 rw[e] at e';cases e'
 rw[d] at d'
 injection d' with d1 _
 have:its=its':=by simpa using congrArg Array.toList d1
 subst this
 exact r.inj r'
def Inv.tuple_inj (I:Inv X pins σ H s)(h:dA X.K H a xs)(h':dA X.K H a ys):xs=ys:=by
 obtain⟨its,r,⟨o,e,_,n,d⟩,_⟩:=I.tuple h
 obtain⟨its',r',⟨o',e',_,n',d'⟩,_⟩:=I.tuple h'
 rw[e] at e';cases e'
 rw[d] at d'
 injection d' with d1 _
 have:its=its':=by simpa using congrArg Array.toList d1
 subst this
 exact r.inj r'
end
abbrev Cx.wish (X:Cx)(E:Value->Shared->Prop):Cx:={X with xe:=E}
abbrev Cx.nox (X:Cx):Cx:=X.wish λ_ _=>False
def Cx.Ok.wish {X:Cx}(ok:X.Ok)(E:Value->Shared->Prop):(X.wish E).Ok:=
 ⟨ok.mod,ok.kind,ok.glob,ok.blt,ok.above,ok.inj,ok.has,ok.cab,ok.hd,ok.frames,ok.stk,ok.exf,ok.bs,ok.bsz,ok.noex,ok.exfs,ok.funs,ok.frf⟩
def Cx.Ok.unwish {X:Cx}{E:Value->Shared->Prop}(ok:(X.wish E).Ok):X.Ok:=
 ⟨ok.mod,ok.kind,ok.glob,ok.blt,ok.above,ok.inj,ok.has,ok.cab,ok.hd,ok.frames,ok.stk,ok.exf,ok.bs,ok.bsz,ok.noex,ok.exfs,ok.funs,ok.frf⟩
section
variable {X:Cx}{pins:List (Addr×Obj)}{σ:St}{H:Hp}{s:Shared}{E:Value->Shared->Prop}
def Inv.wish (I:Inv X pins σ H s)(E:Value->Shared->Prop):Inv (X.wish E) pins σ H s:=⟨I.ok.wish E,I.os,I.bare,I.base,I.loc,I.cell,I.free,I.freeC,I.pin,I.hok,I.len⟩
def Inv.unwish (I:Inv (X.wish E) pins σ H s):Inv X pins σ H s:=⟨I.ok.unwish,I.os,I.bare,I.base,I.loc,I.cell,I.free,I.freeC,I.pin,I.hok,I.len⟩
theorem SP.unwish {D:Ends}{f:Flow}{s':Shared}(h:SP (X.wish E) pins D f s'):SP X pins D f s':=by
 cases f with
 |next=>obtain⟨σ',H',I,q⟩:=h;exact⟨σ',H',I.unwish,q⟩
 |brk=>obtain⟨σ',H',I,q⟩:=h;exact⟨σ',H',I.unwish,q⟩
 |cont=>obtain⟨σ',H',I,q⟩:=h;exact⟨σ',H',I.unwish,q⟩
 |ret u=>obtain⟨v,σ',H',I,r,q⟩:=h;exact⟨v,σ',H',I.unwish,r,q⟩
def ou.nox {st:List Stmt}{t:TS}(h:ou X.nox st t):ou X st t:=λpins s σ H D I hw=>
 JK (h pins s σ H D (I.wish _) hw) (λ_ _ q=>q.unwish) λ_ _ z=>False.elim z
end
section
variable {X:Cx}{st:Stmt}{rest:List Stmt}{t u:TS}{e:Expr}{te:TE}{pos:Pos}
def EE:TS:=λD σ H=>D.nx σ H
def G9 (t u:TS):TS:=λD σ H=>t {D with nx:=u D} σ H
def vR:ou X [] EE:=λ_ _ σ H _ I h=>wpAny_execs_nil ⟨σ,H,I,h⟩
theorem eT (h1:PS X st t)(h2:ou X rest u):ou X (st :: rest) (G9 t u):=by
 intro pins s σ H D I h
 refine wpAny_execs_cons (bP (h1 pins s σ H {D with nx:=u D} I h) λf s1 q=>?_)
 cases f with
 |next=>
  obtain⟨σ',H',I',q⟩:=q
  exact h2 pins s1 σ' H' D I' q
 |ret v=>exact q
 |brk=>exact q
 |cont=>exact q
theorem fw (h1:PS X st t):ou X [st] t:=by
 intro pins s σ H D I h
 refine wpAny_execs_cons (bP (h1 pins s σ H D I h) λf s1 q=>?_)
 cases f with
 |next=>exact wpAny_execs_nil q
 |ret v=>exact q
 |brk=>exact q
 |cont=>exact q
def Inv.quiet {pins:List (Addr×Obj)}{σ:St}{H:Hp}{s:Shared}(I:Inv X pins σ H s):interactive X.env=false:=by simp[interactive,I.ok.kind]
def E8 (te:TE):TS:=λD σ H=>te σ H λ_ H1=>D.nx σ H1
def vS (he:PE X e te)(hs:swapsWith e none pos.line X.env=pure false:=by rfl):PS X (.Expr e pos) (E8 te):=by
 intro pins s σ H D I h
 exact wpAny_Expr_any (bP (he pins s σ H _ I h) λv s1 ⟨x,H1,I1,r1,q1⟩=>⟨σ,H1,I1,q1⟩) I.quiet hs
def GD (te:TE):TS:=λD σ H=>te σ H D.rt
def kN (he:PE X e te):PS X (.Return (some e) pos) (GD te):=by
 intro pins s σ H D I h
 exact wpAny_Return_some (bP (he pins s σ H _ I h) λv s1 ⟨x,H1,I1,r1,q1⟩=>⟨x,σ,H1,I1,r1,q1⟩)
def Gp (c:TT)(t u:TS):TS:=λD σ H=>c σ H λb H1=>if b=true then t D σ H1 else u D σ H1
theorem Cj {c:Expr}{a b:List Stmt}{tc:TT}(hc:PT X c tc)(ha:ou X a t)(hb:ou X b u):PS X (.If c a b pos) (Gp tc t u):=by
 intro pins s σ H D I h
 refine wpAny_If (bP (hc pins s σ H _ I h) λd s1 ⟨H1,I1,q1⟩=>?_)
 cases d with
 |true=>exact ha pins s1 σ H1 D I1 q1
 |false=>exact hb pins s1 σ H1 D I1 q1
end
abbrev TG:=V->St->Hp->(St->Hp->Prop)->Prop
abbrev Cs:=List V->St->Hp->(St->Hp->Prop)->Prop
def PG (X:Cx)(target:Expr)(t:TG):Prop:=
 ∀(pins:List (Addr×Obj)) (s:Shared) (σ:St) (H:Hp) (v:V) (u:Value) (Q:St->Hp->Prop),Inv X pins σ H s->RelV v u->t v σ H Q->
  wpAny (model X.prog X.w) X.A (assign target X.env u) (λ_ s'=>∃σ' H',Inv X pins σ' H' s'/\Q σ' H') X.xe s
def Ga (X:Cx)(ts:List Expr)(t:Cs):Prop:=
 ∀(pins:List (Addr×Obj)) (s:Shared) (σ:St) (H:Hp) (vs:List V) (us:List Value) (Q:St->Hp->Prop),Inv X pins σ H s->Vals vs us->t vs σ H Q->
  wpAny (model X.prog X.w) X.A (assignInOrder ((assignEach ts X.env).map (·.2)) us) (λ_ s'=>∃σ' H',Inv X pins σ' H' s'/\Q σ' H') X.xe s
abbrev C9:=V->V->V->Hp->(Hp->Prop)->Prop
def p5 (X:Cx)(t:C9):Prop:=
 ∀(pins:List (Addr×Obj)) (s:Shared) (σ:St) (H:Hp) (o i v:V) (ov iv u:Value) (Q:Hp->Prop),Inv X pins σ H s->RelV o ov->RelV i iv->RelV v u->t o i v H Q->
  wpAny (model X.prog X.w) X.A (setItem ov iv u) (λ_ s'=>∃H',Inv X pins σ H' s'/\Q H') X.xe s
section
variable {X:Cx}{pos:Pos}
def i7 (i:Nat):TG:=λv σ H Q=>Q (σ.set i (some v)) H
def bZ {i:Nat}{x:Str}(hN:X.N.Nodup)(hi:X.N[i]? =some x)(hx:Loc X.env.scope x)(hf:X.fn x=true\/X.env.scope.names.lookup x=some .local:=by first |exact .inl rfl |exact .inr rfl |assumption):PG X (.Name x pos) (i7 i):=by
 intro pins s σ H v u Q I r h
 exact wpAny_assign_Name (sf I hN hi hx r (λs' I'=>⟨_,H,I',h⟩) hf)
def Ao:Cs:=λvs σ H Q=>vs= []/\Q σ H
def nz (t:TG)(u:Cs):Cs:=λvs σ H Q=>∃v r,vs=v :: r/\t v σ H λσ' H'=>u r σ' H' Q
def jJ:Ga X [] Ao:=by
 intro pins s σ H vs us Q I r h
 obtain⟨e,h⟩:=h
 subst e
 cases r
 exact assignInOrder_nil ⟨σ,H,I,h⟩
theorem cv {e:Expr}{es:List Expr}{t:TG}{u:Cs}(h1:PG X e t)(h2:Ga X es u)
  (hs:(assignEach (e :: es) X.env).map (·.2)=assign e X.env :: (assignEach es X.env).map (·.2):=by rfl):Ga X (e :: es) (nz t u):=by
 intro pins s σ H vs us Q I r h
 obtain⟨v,vr,e1,h⟩:=h
 subst e1
 cases r with
 |cons r rr=>
  rw[hs]
  refine assignInOrder_cons (bP (h1 pins s σ H _ _ _ I r h) λ_ s1 ⟨σ1,H1,I1,q1⟩=>?_)
  exact h2 pins s1 σ1 H1 _ _ Q I1 rr q1
def By (K:Frag)(n:Nat)(t:Cs):TG:=λv σ H Q=>∃a xs,v=.ref a/\dA K H a xs/\xs.length=n/\t xs σ H Q
def l5 {es:List Expr}{k:Nat}{t:Cs}{n:Nat}(hc:X.calm=true)(h:Ga X es t)
  (hn:(assignEach es X.env).length=n:=by rfl) (hst:(assignEach es X.env).findIdx? (·.1)=none:=by rfl):PG X (.Tuple es k pos) (By X.K n t):=by
 intro pins s σ H v u Q I r hw
 obtain⟨a,xs,e1,hq,hl,hw⟩:=hw
 subst e1
 cases r
 obtain⟨its,rv,ht,hz⟩:=I.tuple hq
 refine assign_Tuple_tuple (I.ok.hd hc) ht (by simp[hn,<-hl,rv.length]) hst λh' hx=>?_
 have I1:Inv X pins σ H {s with heap:=h'}:=I.kept (t':=s.toks) λb o e=>hx b o (Ja (Il e)) e
 exact h pins _ σ H xs _ Q I1 (by simpa using rv) hw
def GH (to ti:TE)(t:C9):TG:=λv σ H Q=>to σ H λo H1=>ti σ H1 λi H2=>t o i v H2 λH3=>Q σ H3
def sO {o i:Expr}{to ti:TE}{t:C9}(ho:PE X o to)(hi:PE X i ti)(hs:p5 X t)
  (ha:∀v,assign (.Subscript o i pos) X.env v=(do
   let ov <-holding [v] (eval o X.env)
   let iv <-holding [v,ov] (eval i X.env)
   standAt pos
   holding [v,ov,iv] (setItem ov iv v)
   release [v,ov,iv] []):=by intro _;rfl):PG X (.Subscript o i pos) (GH to ti t):=by
 intro pins s σ H v u Q I r h
 rw[ha]
 refine HS (JE (bP (ho pins s σ H _ I h) λov s1 ⟨x,H1,I1,r1,q1⟩=>?_))
 refine HS (JE (bP (hi pins s1 σ H1 _ I1 q1) λiv s2 ⟨y,H2,I2,r2,q2⟩=>?_))
 refine HS (wpAny_standAt (HS (JE (bP (hs pins s2 σ H2 x y v ov iv u _ I2 r1 r2 r q2) λ_ s3 ⟨H3,I3,q3⟩=>?_))))
 exact wpAny_release ⟨σ,H3,I3,q3⟩
def Fj (te:TE)(g:TG):TS:=λD σ H=>te σ H λx H1=>g x σ H1 D.nx
def nv {tg e:Expr}{te:TE}{g:TG}(he:PE X e te)(hg:PG X tg g)(hs:swapsWithSole [tg] e pos.line X.env=pure false:=by rfl)(hw:swappedStores [tg] e X.env=pure none:=by rfl)
  (h1:(assignEach [tg] X.env).map (·.2)= [assign tg X.env]:=by rfl):PS X (.Assign [tg] e pos) (Fj te g):=by
 intro pins s σ H D I h
 refine wpAny_Assign_stores (bP (he pins s σ H _ I h) λv s1 ⟨x,H1,I1,r1,q1⟩=>?_) hs hw
 rw[h1]
 exact bP (hg pins s1 σ H1 x v _ I1 r1 q1) λ_ s2 q=>q
def nj {i:Nat}{x:Str}{e:Expr}{te:TE}{pos':Pos}(hN:X.N.Nodup)(hi:X.N[i]? =some x)(hx:Loc X.env.scope x)(he:PE X e te)(hs:swapsWith e (some (.Name x pos')) pos.line X.env=pure false:=by rfl)(hf:X.fn x=true\/X.env.scope.names.lookup x=some .local:=by first |exact .inl rfl |exact .inr rfl |assumption) :
  PS X (.Assign [.Name x pos'] e pos) (Fj te (i7 i)):=by
 intro pins s σ H D I h
 refine wpAny_Assign_Name (bP (he pins s σ H _ I h) λv s1 ⟨y,H1,I1,r1,q1⟩=>?_) hs
 exact sf I1 hN hi hx r1 (λs2 I2=>⟨_,H1,I2,q1⟩) hf
end
section
variable {X:Cx}{pos:Pos}
def CQ (c:TT)(tb:TS):TS:=λD σ H=>∃W:Nat->St->Hp->Prop,(∃m,W m σ H)/\∀m σ H,W m σ H->
 c σ H λb H1=>if b=true then ∃N:St->Hp->Prop,(∀σ' H',N σ' H'->∃m',m' < m/\W m' σ' H')/\tb {D with nx:=N,ct:=N,bk:=D.nx} σ H1 else D.nx σ H1
theorem zy {c:Expr}{body:List Stmt}{tc:TT}{tb:TS}(hp:PassesOwn (model X.prog X.w) X.A X.env X.xe)(hc:PT X c tc)(hb:ou X body tb):PS X (.While c body [] pos) (CQ tc tb):=by
 intro pins s σ H D I h
 obtain⟨W,⟨m0,w0⟩,turn⟩:=h
 refine wpAny_While (codeAny_whileLoop (λn s'=>∃σ' H',Inv X pins σ' H' s'/\W n σ' H') ?_ m0 ⟨σ,H,I,w0⟩)
 rintro n s1 ⟨σ1,H1,I1,w1⟩
 refine Ka hp (bP (hc pins s1 σ1 H1 _ I1 (turn n σ1 H1 w1)) λb s2 ⟨H2,I2,q2⟩=>?_)
 cases b with
 |true=>
  obtain⟨N,hN,q2⟩:=q2
  rw[HV rfl]
  refine Ka hp (bP (hb pins s2 σ1 H2 _ I2 q2) λf s3 q3=>?_)
  cases f with
  |next=>
   obtain⟨σ3,H3,I3,n3⟩:=q3
   obtain⟨m',hm,w3⟩:=hN σ3 H3 n3
   exact⟨m',hm,σ3,H3,I3,w3⟩
  |cont=>
   obtain⟨σ3,H3,I3,n3⟩:=q3
   obtain⟨m',hm,w3⟩:=hN σ3 H3 n3
   exact⟨m',hm,σ3,H3,I3,w3⟩
  |brk=>exact q3
  |ret v=>exact q3
 |false=>
  rw[HY IG]
  exact wpAny_execs_nil ⟨σ1,H2,I2,q2⟩
end
structure It where
 go:Nat->Hp->Prop
 yld:Nat->Hp->V->Hp->Prop
 stop:Nat->Hp->Prop
def nS (X:Cx)(pins:List (Addr×Obj))(H:Hp)(b:Addr):Prop:=
 H b=none/\b≠X.env.locals/\b∉X.fs/\(b∈X.ex\/X.s₀.heap.objs.size<=b)/\(∀x c,X.env.cells.lookup x=some c->c≠b)/\∀p∈X.pn ++ pins,p.1≠b
def Inv.fpOk {X:Cx}{pins:List (Addr×Obj)}{σ:St}{H H':Hp}{s:Shared}{b:Addr}(I:Inv X pins σ H s)(hb:s.heap.objs.size<=b)(hn:H' b=none):nS X pins H' b:=by
 refine⟨hn,Nat.ne_of_gt (IP I.lt hb),I.nofs hb,.inr (Ji I.sz hb),λx c e z=>?_,λp hp z=>?_⟩
 ·obtain⟨v,q⟩:=I.cell x c e
  exact absurd (IP q.lt (by rw[z];exact hb)) (IL _)
 ·exact absurd (IP (Il (I.pin p hp).1) (by rw[z];exact hb)) (IL _)
structure Turn (P:Program)(w:World)(K:Frag)(tg:Expr)(J:It)(fp:List Addr)(it:Addr)(tn:Nat->Heap->Prop):Prop where
 mem:it∈fp
 obj:∀i h,tn i h->∀b∈fp,∃o,h.get? b=some o/\∀v,o.data≠.cell v
 keep:∀i h h',tn i h->(∀b∈fp,∀o,h.get? b=some o->h'.get? b=some o)->tn i h'
 item:∀(X:Cx),X.prog=P->X.w=w->X.K=K->X.calm=true->∀(i:Nat) (pins:List (Addr×Obj)) (s:Shared) (σ:St) (H:Hp) (E:Value->Shared->Prop),Inv X pins σ H s->(∀b∈fp,nS X pins H b)->tn i s.heap->J.go i H->
  wpAny (model P w) X.A (pyNext (.ref it)) (λr s1=>∃u,r=some u/\
   wpAny (model P w) X.A (letOwnedTupleGo tg (.ref it) u) (λ_ s2=>∃x H',Inv X pins σ H' s2/\RelV x u/\J.yld i H x H'/\tn (i + 1) s2.heap/\∀b∈fp,H' b=none) E s1) E s
 done:∀(X:Cx),X.prog=P->X.w=w->X.K=K->X.calm=true->∀(i:Nat) (pins:List (Addr×Obj)) (s:Shared) (σ:St) (H:Hp) (E:Value->Shared->Prop),Inv X pins σ H s->(∀b∈fp,nS X pins H b)->tn i s.heap->J.stop i H->
  wpAny (model P w) X.A (pyNext (.ref it)) (λr s1=>r=none/\Inv X pins σ H s1) E s
 self:∀(A:Around) (i:Nat) (s:Shared) (Q:Value->Shared->Prop) (E:Value->Shared->Prop),tn i s.heap->Q (.ref it) s->wpAny (model P w) A (pyIter (.ref it)) Q E s
abbrev TI:=St->Hp->(It->Hp->Prop)->Prop
def Hs (X:Cx)(pins:List (Addr×Obj))(σ:St)(tg:Expr)(R:It->Hp->Prop)(itv:Value)(s2:Shared):Prop:=
 ∃(it:Addr) (fp:List Addr) (tn:Nat->Heap->Prop) (J:It) (H':Hp),itv=.ref it/\Inv X pins σ H' s2/\Turn X.prog X.w X.K tg J fp it tn/\tn 0 s2.heap/\(∀b∈fp,nS X pins H' b)/\R J H'
def PI (X:Cx)(tg iter:Expr)(wi:TI):Prop:=
 ∀(pins:List (Addr×Obj)) (s:Shared) (σ:St) (H:Hp) (R:It->Hp->Prop),Inv X pins σ H s->wi σ H R->
  wpAny (model X.prog X.w) X.A (eval iter X.env) (λv s1=>wpAny (model X.prog X.w) X.A (pyIter v) (Hs X pins σ tg R) X.xe s1) X.xe s
def zv {M:Model}{A:Around}{E:Value->Shared->Prop}{s:Shared}{tg:Expr}{it:Addr}{u:Value}{o:Obj}{n:String}{vs:Array Value}{Q:Unit->Shared->Prop}(ho:s.heap.get? it=some o)(hc:o.cls=.type n)(hd:o.data=.fields vs)
  (hn: ["enumerate","zip","dict_itemiterator","dict_reverseitemiterator","odict_iterator","itertools.zip_longest","itertools.pairwise"].contains n=false) (hQ:Q () s):wpAny M A (letOwnedTupleGo tg (.ref it) u) Q E s:=by
 unfold letOwnedTupleGo
 cases tg <;> first
  |exact HW hQ
  | (cases u <;> first
    |exact HW hQ
    | (refine HS (wpAny_load ho ?_)
       rw[hc,hd]
       show wpAny M A (if (["enumerate","zip","dict_itemiterator","dict_reverseitemiterator","odict_iterator","itertools.zip_longest","itertools.pairwise"].contains n && vs[0]? == some (rawInt _))=true then _ else _) Q E s
       rw[HY (by intro h;rw[hn,Bool.false_and] at h;cases h)]
       exact HW hQ))
def wd (K:Frag)(a:Addr):It:=
 ⟨λi H=>∃xs x,fC K H a xs/\xs[i]? =some x,λi H x H'=>H'=H/\∀xs,fC K H a xs->xs[i]? =some x,λi H=>∃xs,fC K H a xs/\xs.length<=i⟩
def B4 (K:Frag)(a:Addr):It:=
 ⟨λi H=>∃xs x,dA K H a xs/\xs[i]? =some x,λi H x H'=>H'=H/\∀xs,dA K H a xs->xs[i]? =some x,λi H=>∃xs,dA K H a xs/\xs.length<=i⟩
def xr (lo:Int)(n:Nat):It:=⟨λi _=>i < n,λi H x H'=>H'=H/\x=.int (lo + i),λi _=>n<=i⟩
def kR {P:Program}{w:World}{K:Frag}{tg:Expr}(a it:Addr):Turn P w K tg (wd K a) [it] it (λi h=>h.IsListIter it a i) where
 mem:=by simp
 obj:=λi h st b hb=>by
  have e:b=it:=by simpa using hb
  subst e
  obtain⟨o,e,c,d⟩:=st
  exact⟨o,e,λv z=>by rw[d] at z;cases z⟩
 keep:=λi h h' st k=>st.at λo e=>k it (by simp) o e
 item:=by
  intro X hP hw hK hc i pins s σ H E I hf st hg
  subst hP hw hK
  obtain⟨xs,x,hq,hx⟩:=hg
  obtain⟨its,rv,p,hz⟩:=I.list hq
  obtain⟨u,hu,ru⟩:=rv.get hx
  obtain⟨f0,f1,f2,f3,f4,f5⟩:=hf it (by simp)
  refine wpAny_pyNext_list_item st p.isList (x:=u) (by simpa using hu) λh' st' sb=>?_
  have I1:Inv X pins σ H {s with heap:=h'}:=I.turned (t':=s.toks) (λb o hb e=>(sb.2 b hb).trans e) f0 f1 f3 f4 f5
  obtain⟨o,e,c,d⟩:=id st'
  exact⟨u,rfl,zv (s:={s with heap:=h'}) e c d (by decide) ⟨x,H,I1,ru,⟨rfl,λys hy=>by rw[I.list_inj hy hq];exact hx⟩,st',λb hb=>(hf b hb).1⟩⟩
 done:=by
  intro X hP hw hK hc i pins s σ H E I hf st hg
  subst hP hw hK
  obtain⟨xs,hq,hx⟩:=hg
  obtain⟨its,rv,p,hz⟩:=I.list hq
  obtain⟨f0,f1,f2,f3,f4,f5⟩:=hf it (by simp)
  have hl:=rv.length
  exact wpAny_pyNext_list_end (I.ok.hd hc) st p.isList (by simp;omega) λh' eb=>⟨rfl,I.turned (t':=s.toks) (λb o hb e=>eb b o hb e) f0 f1 f3 f4 f5⟩
 self:=λ_ _ _ _ _ st h=>wpAny_pyIter_listiter st h
def lX {P:Program}{w:World}{K:Frag}{tg:Expr}(a it:Addr):Turn P w K tg (B4 K a) [it] it (λi h=>h.IsTupleIter it a i) where
 mem:=by simp
 obj:=λi h st b hb=>by
  have e:b=it:=by simpa using hb
  subst e
  obtain⟨o,e,c,d⟩:=st
  exact⟨o,e,λv z=>by rw[d] at z;cases z⟩
 keep:=λi h h' st k=>st.at λo e=>k it (by simp) o e
 item:=by
  intro X hP hw hK hc i pins s σ H E I hf st hg
  subst hP hw hK
  obtain⟨xs,x,hq,hx⟩:=hg
  obtain⟨its,rv,p,hz⟩:=I.tuple hq
  obtain⟨u,hu,ru⟩:=rv.get hx
  obtain⟨f0,f1,f2,f3,f4,f5⟩:=hf it (by simp)
  refine wpAny_pyNext_tuple_item st (show s.heap.IsTuple a its.toArray from p) (x:=u) (by simpa using hu) λh' st' sb=>?_
  have I1:Inv X pins σ H {s with heap:=h'}:=I.turned (t':=s.toks) (λb o hb e=>(sb.2 b hb).trans e) f0 f1 f3 f4 f5
  obtain⟨o,e,c,d⟩:=id st'
  exact⟨u,rfl,zv (s:={s with heap:=h'}) e c d (by decide) ⟨x,H,I1,ru,⟨rfl,λys hy=>by rw[I.tuple_inj hy hq];exact hx⟩,st',λb hb=>(hf b hb).1⟩⟩
 done:=by
  intro X hP hw hK hc i pins s σ H E I hf st hg
  subst hP hw hK
  obtain⟨xs,hq,hx⟩:=hg
  obtain⟨its,rv,p,hz⟩:=I.tuple hq
  obtain⟨f0,f1,f2,f3,f4,f5⟩:=hf it (by simp)
  have hl:=rv.length
  exact wpAny_pyNext_tuple_end (I.ok.hd hc) st (show s.heap.IsTuple a its.toArray from p) (by simp;omega) λh' eb=>⟨rfl,I.turned (t':=s.toks) (λb o hb e=>eb b o hb e) f0 f1 f3 f4 f5⟩
 self:=λ_ _ _ _ _ st h=>wpAny_pyIter_tupleiter st h
def tZ {P:Program}{w:World}{K:Frag}{tg:Expr}(it:Addr)(lo:Int)(n:Nat):Turn P w K tg (xr lo n) [it] it (λi h=>IsRangeIter h it (lo + (i:Nat) * 1) ((n:Int) - (i:Nat)) 1) where
 mem:=by simp
 obj:=λi h st b hb=>by
  have e:b=it:=by simpa using hb
  subst e
  exact⟨_,st,λv z=>by
   have z':Data.fields _=Data.cell v:=z
   cases z'⟩
 keep:=λi h h' st k=>k it (by simp) _ st
 item:=by
  intro X hP hw hK hc i pins s σ H E I hf st hg
  subst hP hw hK
  obtain⟨f0,f1,f2,f3,f4,f5⟩:=hf it (by simp)
  have W:=Walks.range (prog:=X.prog) (w:=X.w) (I.ok.hd hc) it lo 1 n
  refine W.item i s _ _ hg st λv h' tk hv st' kk=>?_
  obtain⟨t,rfl⟩:=hv
  have I1:Inv X pins σ H {s with heap:=h',toks:=tk}:=I.turned (λb o hb e=>kk b o (by simpa using hb) e) f0 f1 f3 f4 f5
  refine⟨_,rfl,zv (s:={s with heap:=h',toks:=tk}) (n:="range_iterator") st' rfl rfl (by decide) ⟨.int (lo + i),H,I1,⟨t,?_⟩,⟨rfl,rfl⟩,st',λb hb=>(hf b hb).1⟩⟩
  rw[Int.mul_one]
 done:=by
  intro X hP hw hK hc i pins s σ H E I hf st hg
  subst hP hw hK
  obtain⟨f0,f1,f2,f3,f4,f5⟩:=hf it (by simp)
  exact wpAny_pyNext_range_end (I.ok.hd hc) st (by have:n<=i:=hg;omega) λh' eb=>⟨rfl,I.turned (t':=s.toks) (λb o hb e=>eb b o hb e) f0 f1 f3 f4 f5⟩
 self:=λ_ _ _ _ _ st h=>wpAny_pyIter_rangeiter st h
section
variable {X:Cx}{tg:Expr}
def Eg (K:Frag)(tl:TE):TI:=λσ H R=>tl σ H λx H1=>∃a,x=.ref a/\(∃xs,fC K H1 a xs)/\R (wd K a) H1
def vp {l:Expr}{tl:TE}(hl:PE X l tl):PI X tg l (Eg X.K tl):=by
 intro pins s σ H R I h
 refine bP (hl pins s σ H _ I h) λv s1 ⟨x,H1,I1,r1,q1⟩=>?_
 obtain⟨a,e,⟨xs,hq⟩,q⟩:=q1
 subst e
 cases r1
 obtain⟨its,rv,p,hz⟩:=I1.list hq
 refine KH p.isList ?_
 refine⟨s1.heap.objs.size,[s1.heap.objs.size],_,_,H1,rfl,I1.kept (t':=s1.toks) λb o e=>Ia _ e,kR a _,⟨_,IB _ rfl,rfl,rfl⟩,λb hb=>?_,q⟩
 have e:b=s1.heap.objs.size:=by simpa using hb
 subst e
 exact I1.fpOk (HX _) (I1.hok.fresh (HX _))
def rl {pins:List (Addr×Obj)}{σ:St}{H:Hp}{s:Shared}{R:It->Hp->Prop}{E:Value->Shared->Prop}{lo hi:Int}{t u v:Tok}{tk:Nat}(I:Inv X pins σ H s)(h1: -(2 ^ 62)<=lo)(h2:lo < 2 ^ 62)(h3: -(2 ^ 62)<=hi)(h4:hi < 2 ^ 62)
  (q:R (xr lo (hi - lo).toNat) H):wpAny (model X.prog X.w) X.A (pyIter (.ref s.heap.objs.size)) (Hs X pins σ tg R) E {s with heap:=s.heap.push {cls:=.type "range",data:=.fields #[.int lo t,.int hi u,.int 1 v]},toks:=tk}:=by
 refine wpAny_pyIter_range (IsRange.new ..) (small_one h1 h2 h3 h4) ?_
 have I1:Inv X pins σ H {s with heap:=s.heap.push {cls:=.type "range",data:=.fields #[.int lo t,.int hi u,.int 1 v]},toks:=tk}:=I.kept λb o e=>Ia _ e
 refine⟨(s.heap.push {cls:=.type "range",data:=.fields #[.int lo t,.int hi u,.int 1 v]}).objs.size,[(s.heap.push {cls:=.type "range",data:=.fields #[.int lo t,.int hi u,.int 1 v]}).objs.size],_,_,H,rfl,
  I1.kept (t':=tk) λb o e=>Ia _ e,tZ _ lo (hi - lo).toNat,?_,λb hb=>?_,q⟩
 ·have e1:lo + ((0:Nat):Int) * 1=lo:=by simp
  have e2:(((hi - lo).toNat:Nat):Int) - ((0:Nat):Int)=Builtin.Range.rangeSize lo hi 1:=by rw[rangeSize_one];split <;> omega
  show IsRangeIter _ _ (lo + ((0:Nat):Int) * 1) ((((hi - lo).toNat:Nat):Int) - ((0:Nat):Int)) 1
  rw[e1,e2]
  exact IB _ rfl
 ·have e:b=(s.heap.push {cls:=.type "range",data:=.fields #[.int lo t,.int hi u,.int 1 v]}).objs.size:=by simpa using hb
  subst e
  exact I1.fpOk (HX _) (I1.hok.fresh (HX _))
def E4 (ta:TA):TI:=λσ H R=>ta σ H λvs H1=>∃j:Int,vs= [.int j]/\ -(2 ^ 62)<=j/\j < 2 ^ 62/\R (xr 0 j.toNat) H1
def EK (ta:TA):TI:=λσ H R=>ta σ H λvs H1=>∃i j:Int,vs= [.int i,.int j]/\(-(2 ^ 62)<=i/\i < 2 ^ 62/\ -(2 ^ 62)<=j/\j < 2 ^ 62)/\R (xr i (j - i).toNat) H1
theorem iI {a:Expr}{ta:TA}{p pos:Pos}(hg:Gl X "range")(hm:X.mg "range"=none)(ha:PA X [a] ta)(hs:starEach [a] X.env= [(false,eval a X.env)]:=by rfl):PI X tg (.Call (.Name "range" p) [a] [] pos) (E4 ta):=by
 intro pins s σ H R I h
 refine Call_ (mV I hg hm boot_range (KR (bP (ha pos pins s σ H _ I h) λus s1 ⟨vs,H1,I1,r1,q1⟩=>?_) hs rfl))
 obtain⟨j,e,q1,q2,q⟩:=q1
 subst e
 cases r1 with
 |cons r rr=>
  cases rr
  obtain⟨t,rfl⟩:=r
  exact call_range_1 (rl I1 (by omega) (by omega) q1 q2 (by simpa using q))
theorem wQ {a b:Expr}{ta:TA}{p pos:Pos}(hg:Gl X "range")(hm:X.mg "range"=none)(ha:PA X [a,b] ta)(hs:starEach [a,b] X.env= [(false,eval a X.env),(false,eval b X.env)]:=by rfl)(hs2:starEach [b] X.env= [(false,eval b X.env)]:=by rfl) :
  PI X tg (.Call (.Name "range" p) [a,b] [] pos) (EK ta):=by
 intro pins s σ H R I h
 refine Call_ (mV I hg hm boot_range (KR (bP (ha pos pins s σ H _ I h) λus s1 ⟨vs,H1,I1,r1,q1⟩=>?_) (by rw[hs,hs2]) (by rw[hs2];rfl)))
 obtain⟨i,j,e,⟨q1,q2,q3,q4⟩,q⟩:=q1
 subst e
 cases r1 with
 |cons r rr=>
  cases rr with
  |cons r' rr=>
   cases rr
   obtain⟨t,rfl⟩:=r
   obtain⟨t',rfl⟩:=r'
   exact call_range_2 (rl I1 q1 q2 q3 q4 q)
def GW (wi:TI)(g:TG)(tb:TS):TS:=λD σ H=>wi σ H λJ H1=>∃W:Nat->Nat->St->Hp->Prop,(∃m,W 0 m σ H1)/\∀i m σ H,W i m σ H->
 (J.stop i H/\D.nx σ H)\/(J.go i H/\∃N:St->Hp->Prop,(∀σ' H',N σ' H'->∃m',m' < m/\W (i + 1) m' σ' H')/\∀x H',J.yld i H x H'->g x σ H' λσ2 H2=>tb {D with nx:=N,ct:=N,bk:=D.nx} σ2 H2)
def l0 (fp:List Addr)(h:Heap):List (Addr×Obj):=fp.filterMap λb=>(h.get? b).map λo=>(b,o)
def gB {fp:List Addr}{h:Heap}{b:Addr}{o:Obj}(hb:b∈fp)(e:h.get? b=some o):(b,o)∈l0 fp h:=Kw.mpr ⟨b,hb,by rw[e];rfl⟩
theorem wx {fp:List Addr}{h:Heap}{p:Addr×Obj}(hp:p∈l0 fp h):p.1∈fp/\h.get? p.1=some p.2:=by
 obtain⟨b,hb,e⟩:=Kw.mp hp
 cases q:h.get? b with
 |none=>rw[q] at e;cases e
 |some o=>
  rw[q] at e
  have e':(b,o)=p:=Option.some.inj e
  subst e'
  exact⟨hb,q⟩
def Inv.pinned {pins:List (Addr×Obj)}{σ:St}{H:Hp}{s:Shared}{fp:List Addr}(I:Inv X pins σ H s)(hf:∀b∈fp,nS X pins H b)(ho:∀b∈fp,∃o,s.heap.get? b=some o/\∀v,o.data≠.cell v):Inv X (pins ++ l0 fp s.heap) σ H s:=
 I.pins_of λp hp=>(Iu.mp hp).elim (λz=>I.pin p (IY _ z)) λz=>by
  obtain⟨hb,e⟩:=wx z
  obtain⟨f0,f1,f2,_⟩:=hf p.1 hb
  obtain⟨o,e',d⟩:=ho p.1 hb
  rw[e] at e';cases e'
  exact⟨e,f0,f1,f2,d⟩
def Inv.unpinned {pins pl:List (Addr×Obj)}{σ:St}{H:Hp}{s:Shared}(I:Inv X (pins ++ pl) σ H s):Inv X pins σ H s:=I.pins_of λp hp=>I.pin p (IY _ (Ke _ hp))
def qf {iter:Expr}{body:List Stmt}{wi:TI}{g:TG}{tb:TS}{pos:Pos}(hp:PassesOwn (model X.prog X.w) X.A X.env X.xe)(hc:X.calm=true)(hi:PI X tg iter wi)(hg:PG X tg g)(hb:ou X body tb)
  (hs:∀x,foldedSetIterable iter X.env x=pure x:=by intro _;rfl):PS X (.For tg iter body [] pos) (GW wi g tb):=by
 intro pins s σ H D I h
 refine wpAny_For (bP (hi pins s σ H _ I h) λv s1 h1=>bP h1 λitv s2 h2=>?_) hs
 obtain⟨it,fp,tn,J,H2,e,I2,T,st2,f2,W,⟨m0,w0⟩,turn⟩:=h2
 subst e
 have stat:∀{H':Hp},(∀b∈fp,H' b=none)->∀b∈fp,nS X pins H' b:=λhn b hb=>⟨hn b hb,(f2 b hb).2⟩
 refine codeAny_forLoop_any (λn s'=>∃i σ' H',Inv X pins σ' H' s'/\tn i s'.heap/\(∀b∈fp,H' b=none)/\W i n σ' H') ?_ m0 ⟨0,σ,H2,I2,st2,λb hb=>(f2 b hb).1,w0⟩
 rintro n s3 ⟨i,σ3,H3,I3,st3,fr3,w3⟩
 rcases turn i n σ3 H3 w3 with⟨stop,qn⟩ | ⟨go,N,hN,step⟩
 ·refine Ka hp (bP (T.done X rfl rfl rfl hc i pins s3 σ3 H3 X.xe I3 (stat fr3) st3 stop) λr s4 ⟨hr,I4⟩=>?_)
  subst hr
  exact wpAny_execs_nil ⟨σ3,H3,I4,qn⟩
 ·refine Ka hp (bP (T.item X rfl rfl rfl hc i pins s3 σ3 H3 X.xe I3 (stat fr3) st3 go) λr s4 ⟨u,hr,h4⟩=>?_)
  subst hr
  refine Ka hp (bP h4 λ_ s5 ⟨x,H5,I5,r5,y5,st5,fr5⟩=>?_)
  have I5':=I5.pinned (stat fr5) (T.obj _ _ st5)
  refine Ka hp (bP (hg _ s5 σ3 H5 x u _ I5' r5 (step x H5 y5)) λ_ s6 ⟨σ6,H6,I6,q6⟩=>?_)
  refine Ka hp (bP (hb _ s6 σ6 H6 _ I6 q6) λf s7 q7=>?_)
  have again:∀{σ7:St} {H7:Hp},Inv X (pins ++ l0 fp s5.heap) σ7 H7 s7->N σ7 H7->∃m,m < n/\∃i σ' H',Inv X pins σ' H' s7/\tn i s7.heap/\(∀b∈fp,H' b=none)/\W i m σ' H':=λ{σ7 H7} I7 n7=>by
   obtain⟨m',hm,w7⟩:=hN σ7 H7 n7
   refine⟨m',hm,i + 1,σ7,H7,I7.unpinned,T.keep _ _ _ st5 λb hb o e=>(I7.pin (b,o) (IY _ (IY _ (gB hb e)))).1,λb hb=>?_,w7⟩
   obtain⟨o,e,d⟩:=T.obj _ _ st5 b hb
   exact (I7.pin (b,o) (IY _ (IY _ (gB hb e)))).2.1
  cases f with
  |next=>obtain⟨σ7,H7,I7,n7⟩:=q7;exact again I7 n7
  |cont=>obtain⟨σ7,H7,I7,n7⟩:=q7;exact again I7 n7
  |brk=>obtain⟨σ7,H7,I7,q7⟩:=q7;exact⟨σ7,H7,I7.unpinned,q7⟩
  |ret v=>obtain⟨x7,σ7,H7,I7,r7,q7⟩:=q7;exact⟨x7,σ7,H7,I7.unpinned,r7,q7⟩
end
def rZ {K:Frag}{a:Addr}{xs:List V}{g:TG}{tb:TS}{D:Ends}{σ:St}{H:Hp}(Pv:Nat->St->Hp->Prop)(h0:Pv 0 σ H)(hl:∀i σ H,i<=xs.length->Pv i σ H->fC K H a xs)
  (hs:∀i x σ H,xs[i]? =some x->Pv i σ H->g x σ H λσ2 H2=>tb {D with nx:=Pv (i + 1),ct:=Pv (i + 1),bk:=D.nx} σ2 H2) (hd:∀σ H,Pv xs.length σ H->D.nx σ H) :
  ∃W:Nat->Nat->St->Hp->Prop,(∃m,W 0 m σ H)/\∀i m σ H,W i m σ H->
   ((wd K a).stop i H/\D.nx σ H)\/((wd K a).go i H/\∃N:St->Hp->Prop,(∀σ' H',N σ' H'->∃m',m' < m/\W (i + 1) m' σ' H')/\∀x H',(wd K a).yld i H x H'->g x σ H' λσ2 H2=>tb {D with nx:=N,ct:=N,bk:=D.nx} σ2 H2):=by
 refine⟨λi m σ H=>m=xs.length - i/\i<=xs.length/\Pv i σ H,⟨xs.length,by simp,IU _,h0⟩,?_⟩
 rintro i m σ H ⟨rfl,hi,p⟩
 have q:=hl i σ H hi p
 by_cases hlt:i < xs.length
 ·refine .inr ⟨⟨xs,xs[i],q,by simp[hlt]⟩,Pv (i + 1),λσ' H' p'=>⟨xs.length - (i + 1),by omega,rfl,hlt,p'⟩,λx H' y=>?_⟩
  obtain⟨e,y⟩:=y
  subst e
  exact hs i x σ _ (y xs q) p
 ·have e:i=xs.length:=by omega
  subst e
  exact .inl ⟨⟨xs,q,HX _⟩,hd σ H p⟩
def AA {K:Frag}{a:Addr}{xs:List V}{g:TG}{tb:TS}{D:Ends}{σ:St}{H:Hp}(Pv:Nat->St->Hp->Prop)(h0:Pv 0 σ H)(hl:∀i σ H,i<=xs.length->Pv i σ H->dA K H a xs)
  (hs:∀i x σ H,xs[i]? =some x->Pv i σ H->g x σ H λσ2 H2=>tb {D with nx:=Pv (i + 1),ct:=Pv (i + 1),bk:=D.nx} σ2 H2) (hd:∀σ H,Pv xs.length σ H->D.nx σ H) :
  ∃W:Nat->Nat->St->Hp->Prop,(∃m,W 0 m σ H)/\∀i m σ H,W i m σ H->
   ((B4 K a).stop i H/\D.nx σ H)\/((B4 K a).go i H/\∃N:St->Hp->Prop,(∀σ' H',N σ' H'->∃m',m' < m/\W (i + 1) m' σ' H')/\∀x H',(B4 K a).yld i H x H'->g x σ H' λσ2 H2=>tb {D with nx:=N,ct:=N,bk:=D.nx} σ2 H2):=by
 refine⟨λi m σ H=>m=xs.length - i/\i<=xs.length/\Pv i σ H,⟨xs.length,by simp,IU _,h0⟩,?_⟩
 rintro i m σ H ⟨rfl,hi,p⟩
 have q:=hl i σ H hi p
 by_cases hlt:i < xs.length
 ·refine .inr ⟨⟨xs,xs[i],q,by simp[hlt]⟩,Pv (i + 1),λσ' H' p'=>⟨xs.length - (i + 1),by omega,rfl,hlt,p'⟩,λx H' y=>?_⟩
  obtain⟨e,y⟩:=y
  subst e
  exact hs i x σ _ (y xs q) p
 ·have e:i=xs.length:=by omega
  subst e
  exact .inl ⟨⟨xs,q,HX _⟩,hd σ H p⟩
def xm {lo:Int}{n:Nat}{g:TG}{tb:TS}{D:Ends}{σ:St}{H:Hp}(Pv:Nat->St->Hp->Prop)(h0:Pv 0 σ H)
  (hs:∀i σ H,i < n->Pv i σ H->g (.int (lo + i)) σ H λσ2 H2=>tb {D with nx:=Pv (i + 1),ct:=Pv (i + 1),bk:=D.nx} σ2 H2) (hd:∀σ H,Pv n σ H->D.nx σ H) :
  ∃W:Nat->Nat->St->Hp->Prop,(∃m,W 0 m σ H)/\∀i m σ H,W i m σ H->
   ((xr lo n).stop i H/\D.nx σ H)\/((xr lo n).go i H/\∃N:St->Hp->Prop,(∀σ' H',N σ' H'->∃m',m' < m/\W (i + 1) m' σ' H')/\∀x H',(xr lo n).yld i H x H'->g x σ H' λσ2 H2=>tb {D with nx:=N,ct:=N,bk:=D.nx} σ2 H2):=by
 refine⟨λi m σ H=>m=n - i/\i<=n/\Pv i σ H,⟨n,by simp,IU _,h0⟩,?_⟩
 rintro i m σ H ⟨rfl,hi,p⟩
 by_cases hlt:i < n
 ·refine .inr ⟨hlt,Pv (i + 1),λσ' H' p'=>⟨n - (i + 1),by omega,rfl,hlt,p'⟩,λx H' y=>?_⟩
  obtain⟨e,y⟩:=y
  subst e y
  exact hs i σ _ hlt p
 ·have e:i=n:=by omega
  subst e
  exact .inl ⟨HX _,hd σ H p⟩
abbrev R2:=V->V->Hp->VK->Prop
def iZ (X:Cx)(f:Value->Value->Sem Value)(r:R2):Prop:=
 ∀(pins:List (Addr×Obj)) (s:Shared) (σ:St) (H:Hp) (x y:V) (v u:Value) (Q:VK),Inv X pins σ H s->RelV x v->RelV y u->r x y H Q->
  wpAny (model X.prog X.w) X.A (f v u) (EP X pins σ Q) X.xe s
def FJ (X:Cx)(f:Value->Sem Value)(r:V->Hp->VK->Prop):Prop:=
 ∀(pins:List (Addr×Obj)) (s:Shared) (σ:St) (H:Hp) (x:V) (v:Value) (Q:VK),Inv X pins σ H s->RelV x v->r x H Q->
  wpAny (model X.prog X.w) X.A (f v) (EP X pins σ Q) X.xe s
def b9 (X:Cx)(f:Value)(r:List V->Hp->VK->Prop):Prop:=
 ∀(pins:List (Addr×Obj)) (s:Shared) (σ:St) (H:Hp) (xs:List V) (us:List Value) (Q:VK),Inv X pins σ H s->Vals xs us->r xs H Q->
  wpAny (model X.prog X.w) X.A (call f us) (EP X pins σ Q) X.xe s
def GZ (X:Cx)(r:V->Hp->(Bool->Hp->Prop)->Prop):Prop:=
 ∀(pins:List (Addr×Obj)) (s:Shared) (σ:St) (H:Hp) (x:V) (v:Value) (Q:Bool->Hp->Prop),Inv X pins σ H s->RelV x v->r x H Q->
  wpAny (model X.prog X.w) X.A (truthy v) (TP X pins σ Q) X.xe s
def FG (r:R2)(ta tb:TE):TE:=λσ H Q=>ta σ H λx H1=>tb σ H1 λy H2=>r x y H2 Q
def HH (r:V->Hp->VK->Prop)(ta:TE):TE:=λσ H Q=>ta σ H λx H1=>r x H1 Q
def rI (C:Int->Int->Prop)(g:Int->Int->V):R2:=λx y H Q=>∃i j,x=.int i/\y=.int j/\C i j/\Q (g i j) H
def wL (g:Int->Int->V):R2:=λx y H Q=>∃i j,x=.int i/\y=.int j/\Q (g i j) H
def rU (g:Int->V):V->Hp->VK->Prop:=λx H Q=>∃i,x=.int i/\Q (g i) H
section
variable {X:Cx}{a b c:Expr}{ta tb tc:TE}{pos:Pos}
def DI (ha:PE X a ta)(hb:PE X b tb){pins:List (Addr×Obj)}{s:Shared}{σ:St}{H:Hp}{R:V->V->Hp->Prop}(I:Inv X pins σ H s)
  (h:ta σ H λx H1=>tb σ H1 λy H2=>R x y H2) {Q:Value->Shared->Prop} {f:Value->Value->Sem Value}
  (hf:∀v u s2 x y H2,Inv X pins σ H2 s2->RelV x v->RelV y u->R x y H2->wpAny (model X.prog X.w) X.A (f v u) Q X.xe s2) :
  wpAny (model X.prog X.w) X.A (eval a X.env) (λv s₁=>wpAny (model X.prog X.w) X.A (eval b X.env) (λu s₂=>wpAny (model X.prog X.w) X.A (f v u) Q X.xe s₂) X.xe s₁) X.xe s:=by
 refine bP (ha pins s σ H _ I h) λv s1 ⟨x,H1,I1,r1,q1⟩=>?_
 refine bP (hb pins s1 σ H1 _ I1 q1) λu s2 ⟨y,H2,I2,r2,q2⟩=>?_
 exact hf v u s2 x y H2 I2 r1 r2 q2
def rE {op:Operator}{r:R2}(ho:iZ X (binaryOp op) r)(ha:PE X a ta)(hb:PE X b tb):PE X (.BinOp a op b pos) (FG r ta tb):=by
 intro pins s σ H Q I h
 exact wpAny_BinOp (DI ha hb I h λv u s2 x y H2 I2 rx ry q=>ho pins s2 σ H2 x y v u Q I2 rx ry q)
def Ce {op:UnaryOp}{r:V->Hp->VK->Prop}(ho:FJ X (unaryOp op) r)(ha:PE X a ta):PE X (.UnaryOp op a pos) (HH r ta):=by
 intro pins s σ H Q I h
 exact UnaryOp_ (bP (ha pins s σ H _ I h) λv s1 ⟨x,H1,I1,r1,q1⟩=>ho pins s1 σ H1 x v Q I1 r1 q1)
def F0 {f:Value->Value->Sem Value}{C:Int->Int->Prop}{g:Int->Int->Int}
  (rule:∀(i j:Int) (t u:Tok) (s:Shared) (Q:Value->Shared->Prop) (E:Value->Shared->Prop),C i j->Q (.int (g i j) s.toks) {s with toks:=s.toks + 1}->wpAny (model X.prog X.w) X.A (f (.int i t) (.int j u)) Q E s) :
  iZ X f (rI C λi j=>.int (g i j)):=by
 intro pins s σ H x y v u Q I rx ry h
 obtain⟨i,j,rfl,rfl,hc,q⟩:=h
 obtain⟨t,rfl⟩:=rx
 obtain⟨t',rfl⟩:=ry
 exact rule i j t t' s _ _ hc ⟨.int (g i j),H,I.tok _,⟨_,rfl⟩,q⟩
def Ew {f:Value->Value->Sem Value}{g:Int->Int->Int}
  (rule:∀(i j:Int) (t u:Tok) (s:Shared) (Q:Value->Shared->Prop) (E:Value->Shared->Prop),Q (.int (g i j) s.toks) {s with toks:=s.toks + 1}->wpAny (model X.prog X.w) X.A (f (.int i t) (.int j u)) Q E s) :
  iZ X f (wL λi j=>.int (g i j)):=by
 intro pins s σ H x y v u Q I rx ry h
 obtain⟨i,j,rfl,rfl,q⟩:=h
 obtain⟨t,rfl⟩:=rx
 obtain⟨t',rfl⟩:=ry
 exact rule i j t t' s _ _ ⟨.int (g i j),H,I.tok _,⟨_,rfl⟩,q⟩
def CG {f:Value->Value->Sem Value}{g:Int->Int->Bool}
  (rule:∀(i j:Int) (t u:Tok) (s:Shared) (Q:Value->Shared->Prop) (E:Value->Shared->Prop),Q (.bool (g i j)) s->wpAny (model X.prog X.w) X.A (f (.int i t) (.int j u)) Q E s) :
  iZ X f (wL λi j=>.bl (g i j)):=by
 intro pins s σ H x y v u Q I rx ry h
 obtain⟨i,j,rfl,rfl,q⟩:=h
 obtain⟨t,rfl⟩:=rx
 obtain⟨t',rfl⟩:=ry
 exact rule i j t t' s _ _ ⟨.bl (g i j),H,I,rfl,q⟩
def AU (i j:Int):Prop:=0 < j/\j < 1073741824
def DR (i j:Int):Prop:=0<=j/\j<=1000000/\i.natAbs < 2 ^ 64
def y1 (i j:Int):Prop:=(-(2 ^ 64) < i/\i < 2 ^ 64)\/(-(2 ^ 64) < j/\j < 2 ^ 64)
def y1.ok {i j:Int}(h:y1 i j):IntMulOk i j:=by
 rcases h with⟨h1,h2⟩ | ⟨h1,h2⟩
 ·exact .of_left (intBits_le_64 h1 h2)
 ·exact .of_right (intBits_le_64 h1 h2)
def eB:iZ X (binaryOp .Add) (wL λi j=>.int (i + j)):=Ew λ_ _ _ _ _ _ _ q=>add_int q
def sC:iZ X (binaryOp .Sub) (wL λi j=>.int (i - j)):=Ew λ_ _ _ _ _ _ _ q=>sub_int q
def iz:iZ X (binaryOp .Mult) (rI y1 λi j=>.int (i * j)):=F0 λ_ _ _ _ _ _ _ hc q=>mul_int q hc.ok
def j6:iZ X (binaryOp .FloorDiv) (rI AU λi j=>.int (i / j)):=F0 λi j _ _ _ _ _ hc q=>by
 have h1:(0:Int) < j:=hc.1
 have h2:j < 1073741824:=hc.2
 exact floordiv_int (by omega) (by rw[Int.fdiv_eq_ediv_of_nonneg i (by omega)];exact q) (.inl (PyProof.noPylong_small (by omega)))
def jm:iZ X (binaryOp .Mod) (rI (λ_ j=>0 < j) λi j=>.int (i % j)):=F0 λi j _ _ _ _ _ hc q=>by
 have h1:(0:Int) < j:=hc
 exact mod_int' (by omega) (by rw[Int.fmod_eq_emod_of_nonneg i (by omega)];exact q)
def Dk:iZ X (binaryOp .Pow) (rI DR λi j=>.int (i ^ j.toNat)):=F0 λ_ _ _ _ _ _ _ hc q=>pow_int_small hc.1 hc.2.1 hc.2.2 q
def HB {f:Value->Sem Value}{g:Int->Int}
  (rule:∀(i:Int) (t:Tok) (s:Shared) (Q:Value->Shared->Prop) (E:Value->Shared->Prop),Q (.int (g i) s.toks) {s with toks:=s.toks + 1}->wpAny (model X.prog X.w) X.A (f (.int i t)) Q E s) :
  FJ X f (rU λi=>.int (g i)):=by
 intro pins s σ H x v Q I rx h
 obtain⟨i,rfl,q⟩:=h
 obtain⟨t,rfl⟩:=rx
 exact rule i t s _ _ ⟨.int (g i),H,I.tok _,⟨_,rfl⟩,q⟩
def tx:FJ X (unaryOp .USub) (rU λi=>.int (-i)):=HB λ_ _ _ _ _ q=>neg_int q
end
def G6:V->V->Bool
 | .non,.non=>true | .non,.int _=>true | .int _,.non=>true | .non,.bl _=>true | .bl _,.non=>true | .non,.str _=>true | .str _,.non=>true
 | .int _,.int _=>true | .bl _,.bl _=>true | .str _,.str _=>true | .byt _,.byt _=>true
 | .int _,.str _=>true | .str _,.int _=>true | .bl _,.str _=>true | .str _,.bl _=>true
 |_,_=>false
def Hq:R2:=λx y H Q=>G6 x y=true/\Q (.bl (!decide (x=y))) H
def Bg {i j:Int}:decide (V.int i=V.int j)=(i == j):=by
 rw[Jz]
 simp
def Dd {i j:Bool}:decide (V.bl i=V.bl j)=(i == j):=by
 rw[Jz]
 simp
def Bo {i j:Str}:decide (V.str i=V.str j)=(i == j):=by
 rw[Jz]
 simp
def Ad {i j:Array UInt8}:decide (V.byt i=V.byt j)=(i.toList == j.toList):=by
 rw[Jz]
 cases i
 cases j
 simp
section
variable {X:Cx}{a b c:Expr}{ta tb tc:TE}{pos:Pos}
def cE {pins:List (Addr×Obj)}{σ:St}{H:Hp}{s:Shared}{Q:VK}{k k':Bool}(I:Inv X pins σ H s)(q:Q (.bl k) H)(e:k=k'):EP X pins σ Q (.bool k') s:=by
 subst e
 exact⟨.bl k,H,I,rfl,q⟩
theorem E6:iZ X (compareOp .NotEq) Hq:=by
 intro pins s σ H x y v u Q I rx ry h
 obtain⟨hs,q⟩:=h
 cases x with
 |non=>
  cases rx
  cases y with
  |non=>cases ry;exact PySem.EqNone.ne_none_none (cE I q (by simp))
  |bl j=>cases ry;exact PySem.EqNone.ne_none_bool (cE I q (by simp))
  |int j=>obtain⟨t',rfl⟩:=ry;exact PySem.EqNone.ne_none_int (cE I q (by simp))
  |str j=>obtain⟨t',rfl⟩:=ry;exact PySem.EqNone.ne_none_str (cE I q (by simp))
  |_=>exact absurd (show false=true from hs) IG
 |bl i=>
  cases rx
  cases y with
  |non=>cases ry;exact PySem.EqNone.ne_bool_none (cE I q (by simp))
  |bl j=>cases ry;exact ne_bool (cE I q (congrArg not Dd))
  |str j=>obtain⟨t',rfl⟩:=ry;exact PySem.EqMixed.ne_bool_str (cE I q (by simp))
  |_=>exact absurd (show false=true from hs) IG
 |int i=>
  obtain⟨t,rfl⟩:=rx
  cases y with
  |non=>cases ry;exact PySem.EqNone.ne_int_none (cE I q (by simp))
  |int j=>obtain⟨t',rfl⟩:=ry;exact ne_int (cE I q (congrArg not Bg))
  |str j=>obtain⟨t',rfl⟩:=ry;exact PySem.EqMixed.ne_int_str (cE I q (by simp))
  |_=>exact absurd (show false=true from hs) IG
 |str i=>
  obtain⟨t,rfl⟩:=rx
  cases y with
  |non=>cases ry;exact PySem.EqNone.ne_str_none (cE I q (by simp))
  |bl j=>cases ry;exact PySem.EqMixed.ne_str_bool (cE I q (by simp))
  |int j=>obtain⟨t',rfl⟩:=ry;exact PySem.EqMixed.ne_str_int (cE I q (by simp))
  |str j=>obtain⟨t',rfl⟩:=ry;exact ne_str (cE I q (congrArg not Bo))
  |_=>exact absurd (show false=true from hs) IG
 |byt i=>
  obtain⟨t,rfl⟩:=rx
  cases y with
  |byt j=>obtain⟨t',rfl⟩:=ry;exact PySem.W.ne_bytes (cE I q (congrArg not Ad))
  |_=>exact absurd (show false=true from hs) IG
 |_=>cases y <;> exact absurd (show false=true from hs) IG
def vM:iZ X (compareOp .Lt) (wL λi j=>.bl (decide (i < j))):=CG λ_ _ _ _ _ _ _ q=>lt_int q
def rV:iZ X (compareOp .LtE) (wL λi j=>.bl (decide (i<=j))):=CG λ_ _ _ _ _ _ _ q=>le_int q
def Et:iZ X (compareOp .GtE) (wL λi j=>.bl (decide (j<=i))):=CG λ_ _ _ _ _ _ _ q=>ge_int q
def bO (b:Expr){op:CmpOp}(h:op≠.In:=by decide)(h2:op≠.NotIn:=by decide):behindInMarks op b=false:=by
 have e1:(op == CmpOp.In)=false:=by cases op <;> first |rfl |exact absurd rfl h
 have e2:(op == CmpOp.NotIn)=false:=by cases op <;> first |rfl |exact absurd rfl h2
 cases b <;> simp[behindInMarks,e1,e2]
def Bq {op:CmpOp}{r:R2}(ho:iZ X (compareOp op) r)(ha:PE X a ta)(hb:PE X b tb)(hm:behindInMarks op b=false):PE X (.Compare a [op] [b] pos) (FG r ta tb):=by
 intro pins s σ H Q I h
 exact wpAny_Compare1 (DI ha hb I h λv u s2 x y H2 I2 rx ry q=>ho pins s2 σ H2 x y v u Q I2 rx ry q) hm
def Cn (t:TE):TT:=λσ H Q=>t σ H λx H'=>∃k,x=.bl k/\Q k H'
def Af {op:CmpOp}{r:R2}(ho:iZ X (compareOp op) r)(ha:PE X a ta)(hb:PE X b tb)(hm:behindInMarks op b=false):PT X (.Compare a [op] [b] pos) (Cn (FG r ta tb)):=by
 intro pins s σ H Q I h
 refine wpAny_isTrue_Compare1 (bP (ha pins s σ H _ I h) λv s1 ⟨x,H1,I1,r1,q1⟩=>bP (hb pins s1 σ H1 _ I1 q1) λu s2 ⟨y,H2,I2,r2,q2⟩=>
  bP (ho pins s2 σ H2 x y v u _ I2 r1 r2 q2) λc s3 ⟨z,H3,I3,r3,k,e,q3⟩=>?_) hm
 subst e
 cases r3
 exact JD ⟨H3,I3,q3⟩
def yx (r r':R2)(ta tb tc:TE):TE:=λσ H Q=>ta σ H λx H1=>tb σ H1 λy H2=>r x y H2 λz H3=>∃k,z=.bl k/\
 (if k=true then tc σ H3 λw' H4=>r' y w' H4 Q else Q (.bl false) H3)
theorem y9 {op op':CmpOp}{r r':R2}(ho:iZ X (compareOp op) r)(ho':iZ X (compareOp op') r')(ha:PE X a ta)(hb:PE X b tb)(hc:PE X c tc)
  (hm:lastMarks [op,op'] [b,c]=false:=by with_unfolding_all rfl):PE X (.Compare a [op,op'] [b,c] pos) (yx r r' ta tb tc):=by
 intro pins s σ H Q I h
 refine Compare_chain (bP (ha pins s σ H _ I h) λv s1 ⟨x,H1,I1,r1,q1⟩=>chain_link (bP (hb pins s1 σ H1 _ I1 q1) λu s2 ⟨y,H2,I2,r2,q2⟩=>
  bP (ho pins s2 σ H2 x y v u _ I2 r1 r2 q2) λd s3 ⟨z,H3,I3,r3,k,e,q3⟩=>?_)) hm
 subst e
 cases r3
 refine JD ?_
 cases k with
 |false=>exact ite_ff ⟨.bl false,H3,I3,rfl,q3⟩
 |true=>exact ite_tt (chain_last (bP (hc pins s3 σ H3 _ I3 q3) λw' s4 ⟨z',H4,I4,r4,q4⟩=>ho' pins s4 σ H4 y z' u w' Q I4 r2 r4 q4))
theorem yW {op op':CmpOp}{r r':R2}(ho:iZ X (compareOp op) r)(ho':iZ X (compareOp op') r')(ha:PE X a ta)(hb:PE X b tb)(hc:PE X c tc)
  (hm:lastMarks [op,op'] [b,c]=false:=by with_unfolding_all rfl):PT X (.Compare a [op,op'] [b,c] pos) (Cn (yx r r' ta tb tc)):=by
 intro pins s σ H Q I h
 refine isTrue_chain (bP (ha pins s σ H _ I h) λv s1 ⟨x,H1,I1,r1,q1⟩=>test_link (bP (hb pins s1 σ H1 _ I1 q1) λu s2 ⟨y,H2,I2,r2,q2⟩=>
  bP (ho pins s2 σ H2 x y v u _ I2 r1 r2 q2) λd s3 ⟨z,H3,I3,r3,k,e,q3⟩=>?_)) hm
 subst e
 cases r3
 refine JD ?_
 cases k with
 |false=>
  obtain⟨k',e',q'⟩:=q3
  cases e'
  exact ite_ff ⟨H3,I3,q'⟩
 |true=>
  refine ite_tt (test_last (bP (hc pins s3 σ H3 _ I3 q3) λw' s4 ⟨z',H4,I4,r4,q4⟩=>bP (ho' pins s4 σ H4 y z' u w' _ I4 r2 r4 q4) λd' s5 ⟨z2,H5,I5,r5,k2,e2,q5⟩=>?_))
  subst e2
  cases r5
  exact JD ⟨H5,I5,q5⟩
def E7 (K:Frag)(x:V)(H:Hp)(k:Bool):Prop:=
 match x with
 | .non=>k=false
 | .bl b=>k=b
 | .int i=>k=(i != 0)
 | .str y=>y.length<=sizeLine/\k=((y.length:Int) != 0)
 | .byt y=>y.size<=sizeLine/\k=((y.size:Int) != 0)
 | .ref p=>(∃xs,fC K H p xs/\k= !xs.isEmpty)\/(∃xs,dA K H p xs/\k= !xs.isEmpty)\/∃kvs,H p=some (.dK kvs)/\k= !kvs.isEmpty
 |_=>False
def sS {κ:Type}{kvs:List (κ×V)}{vs:List (κ×Value)}(r:KV kvs vs):(!vs.isEmpty)= !kvs.isEmpty:=by
 cases r <;> rfl
def mQ {xs:List V}{its:List Value}(r:Vals xs its):(!its.toArray.isEmpty)= !xs.isEmpty:=by
 cases r <;> simp
def kJ:(sizeLine:Nat) < 2 ^ 63:=by rw[IV];decide
theorem Dg:GZ X (λx H Q=>∃k,E7 X.K x H k/\Q k H):=by
 intro pins s σ H x v Q I rx h
 obtain⟨k,e,q⟩:=h
 have hl:=kJ
 have hs:sizeLine=16777216:=IV
 cases x with
 |non=>
  cases rx
  have e':k=false:=e
  subst e'
  exact truthy_none ⟨H,I,q⟩
 |bl b=>
  cases rx
  have e':k=b:=e
  subst e'
  exact JD ⟨H,I,q⟩
 |int i=>
  obtain⟨t,rfl⟩:=rx
  have e':k=(i != 0):=e
  subst e'
  exact PySem.P.truthy_int ⟨H,I,q⟩
 |str y=>
  obtain⟨t,rfl⟩:=rx
  obtain⟨hy,e'⟩:y.length<=sizeLine/\k=((y.length:Int) != 0):=e
  subst e'
  exact PySem.P.truthy_str (by omega) ⟨H,I.tok _,q⟩
 |byt y=>
  obtain⟨t,rfl⟩:=rx
  obtain⟨hy,e'⟩:y.size<=sizeLine/\k=((y.size:Int) != 0):=e
  subst e'
  exact PySem.W.truthy_bytes (by omega) ⟨H,I.tok _,q⟩
 |ref p=>
  cases rx
  have e':(∃xs,fC X.K H p xs/\k= !xs.isEmpty)\/(∃xs,dA X.K H p xs/\k= !xs.isEmpty)\/∃kvs,H p=some (.dK kvs)/\k= !kvs.isEmpty:=e
  rcases e' with⟨xs,hx,e'⟩ | ⟨xs,hx,e'⟩ | ⟨kvs,hx,e'⟩
  ·subst e'
   obtain⟨its,r,pl,hz⟩:=I.list hx
   have hlen:=r.length
   exact wpAny_truthy_list pl.isList (by simp only[Iq];omega) ⟨H,I.tok _,by rw[mQ r];exact q⟩
  ·subst e'
   obtain⟨its,r,pl,hz⟩:=I.tuple hx
   have hlen:=r.length
   exact truthy_tuple pl (by simp only[Iq];omega) ⟨H,I.tok _,by rw[mQ r];exact q⟩
  ·subst e'
   obtain⟨hz,hS,vs,r,m⟩:kvs.length<=sizeLine/\(p == sysModules)=false/\∃vs,KV kvs vs/\s.heap.DictOf (cA X.prog X.w) p vs:=I.hok p _ hx
   have hlen:kvs.length=vs.length:=Paired.length r
   exact wpAny_truthy_dict hS m (by omega) ⟨H,I.tok _,by rw[sS r];exact q⟩
 |_=>exact (show False from e).elim
def yy (ha:PE X a ta)(he:∀whole,isTrue a X.env whole=(do let v <-whole;standAt a.pos;holding [v] (truthy v))) :
  PT X a (λσ H Q=>ta σ H λx H'=>∃k,E7 X.K x H' k/\Q k H'):=by
 intro pins s σ H Q I h
 exact isTrue_plain (bP (ha pins s σ H _ I h) λv s1 ⟨x,H1,I1,r1,q1⟩=>Dg pins s1 σ H1 x v Q I1 r1 q1) (he _)
theorem vals1 {x:V}{us:List Value}(r:Vals [x] us):∃u,us= [u]/\RelV x u:=by
 cases r with
 |cons r1 r2=>cases r2;exact⟨_,rfl,r1⟩
theorem vals2 {x y:V}{us:List Value}(r:Vals [x,y] us):∃u w',us= [u,w']/\RelV x u/\RelV y w':=by
 cases r with
 |cons r1 r2=>
  cases r2 with
  |cons r3 r4=>cases r4;exact⟨_,_,rfl,r1,r3⟩
def yR:b9 X (.builtin "abs") (λxs H Q=>∃i,xs= [.int i]/\Q (.int (if i < 0 then -i else i)) H):=by
 intro pins s σ H xs us Q I r h
 obtain⟨i,rfl,q⟩:=h
 obtain⟨u,rfl,t,rfl⟩:=vals1 r
 exact call_abs_int λu tk=>⟨.int (if i < 0 then -i else i),H,I.tok _,⟨_,rfl⟩,q⟩
def xu (hc:X.calm=true):b9 X (.builtin "max") (λxs H Q=>∃i j,xs= [.int i,.int j]/\Q (.int (if j > i then j else i)) H):=by
 intro pins s σ H xs us Q I r h
 obtain⟨i,j,rfl,q⟩:=h
 obtain⟨u,w',rfl,⟨t,rfl⟩,⟨t',rfl⟩⟩:=vals2 r
 refine max_two_ints (I.ok.hd hc) λh' tk k=>⟨_,H,I.kept k,?_,q⟩
 by_cases hj:j > i
 ·rw[HV hj,HV hj];exact⟨_,rfl⟩
 ·rw[HY hj,HY hj];exact⟨_,rfl⟩
def xC (hc:X.calm=true):b9 X (.builtin "min") (λxs H Q=>∃i j,xs= [.int i,.int j]/\Q (.int (if j < i then j else i)) H):=by
 intro pins s σ H xs us Q I r h
 obtain⟨i,j,rfl,q⟩:=h
 obtain⟨u,w',rfl,⟨t,rfl⟩,⟨t',rfl⟩⟩:=vals2 r
 refine min_two_ints (I.ok.hd hc) λh' tk k=>⟨_,H,I.kept k,?_,q⟩
 by_cases hj:j < i
 ·rw[HV hj,HV hj];exact⟨_,rfl⟩
 ·rw[HY hj,HY hj];exact⟨_,rfl⟩
def Eh (K:Frag)(x:V)(H:Hp)(n:Nat):Prop:=
 match x with
 | .str y=>y.length<=sizeLine/\n=y.length
 | .byt y=>y.size<=sizeLine/\n=y.size
 | .ref p=>(∃xs,fC K H p xs/\n=xs.length)\/∃xs,dA K H p xs/\n=xs.length
 |_=>False
theorem cw:b9 X (.builtin "len") (λxs H Q=>∃x n,xs= [x]/\Eh X.K x H n/\Q (.int n) H):=by
 intro pins s σ H xs us Q I r h
 obtain⟨x,n,rfl,e,q⟩:=h
 obtain⟨u,rfl,rx⟩:=vals1 r
 have hl:=kJ
 have hs:sizeLine=16777216:=IV
 cases x with
 |str y=>
  obtain⟨t,rfl⟩:=rx
  obtain⟨hy,e'⟩:y.length<=sizeLine/\n=y.length:=e
  subst e'
  exact len_str (by omega) ⟨.int _,H,I.tok _,⟨_,rfl⟩,q⟩
 |byt y=>
  obtain⟨t,rfl⟩:=rx
  obtain⟨hy,e'⟩:y.size<=sizeLine/\n=y.size:=e
  subst e'
  exact PySem.W.len_bytes (by omega) ⟨.int _,H,I.tok _,⟨_,rfl⟩,q⟩
 |ref p=>
  cases rx
  have e':(∃xs,fC X.K H p xs/\n=xs.length)\/∃xs,dA X.K H p xs/\n=xs.length:=e
  rcases e' with⟨xs,hx,e'⟩ | ⟨xs,hx,e'⟩
  ·subst e'
   obtain⟨its,r',pl,hz⟩:=I.list hx
   have hlen:=r'.length
   exact Calls.call_len_list pl.isList (by simp only[Iq];omega) ⟨.int xs.length,H,I.tok _,⟨_,by simp only[Iq];rw[hlen]⟩,q⟩
  ·subst e'
   obtain⟨its,r',pl,hz⟩:=I.tuple hx
   have hlen:=r'.length
   exact len_tuple pl (by simp only[Iq];omega) ⟨.int xs.length,H,I.tok _,⟨_,by simp only[Iq];rw[hlen]⟩,q⟩
 |_=>exact (show False from e).elim
def rF:b9 X (.builtin "divmod") (λxs H Q=>∃i j,xs= [.int i,.int j]/\AU i j/\∀p,H p=none->Q (.ref p) (upd H p (.tup [.int (i / j),.int (i % j)]))):=by
 intro pins s σ H xs us Q I r h
 obtain⟨i,j,rfl,⟨h1,h2⟩,q⟩:=h
 obtain⟨u,w',rfl,⟨t,rfl⟩,⟨t',rfl⟩⟩:=vals2 r
 refine divmod_int (by omega) ?_ (.inl (PyProof.noPylong_small (by omega)))
 rw[Int.fdiv_eq_ediv_of_nonneg i (by omega),Int.fmod_eq_emod_of_nonneg i (by omega)]
 have hn:H s.heap.objs.size=none:=I.hok.fresh (HX _)
 refine⟨.ref s.heap.objs.size,_,?_,rfl,q _ hn⟩
 refine I.laid (λb o e=>Ia _ e) (HX _) ⟨by simp only[Iv,JR];rw[IV];decide,[.int (i / j) s.toks,.int (i % j) (s.toks + 1)],.cons ⟨_,rfl⟩ (.cons ⟨_,rfl⟩ .nil),?_⟩
 exact⟨_,IB s.heap rfl,rfl,0,rfl,rfl⟩
end
structure CH (h:Heap)(x dx C:Addr)(mA:Str->Option Value):Prop where
 obj:h.get? x=some (PySem.W.instObj C dx)
 ns:h.Ns1 dx mA
 ne:dx≠x
def wI {h:Heap}{dx:Addr}{mA:Str->Option Value}(n:h.Ns1 dx mA):∃od,h.get? dx=some od/\∀name,PySem.W.lookIn name od=some (mA name):=by
 obtain⟨o,es,ep,ho,hd,hk,_,hm⟩:=n
 refine⟨o,ho,λname=>?_⟩
 have e:=hm name
 unfold nsFind findBy at e
 rw[<-Array.find?_toList] at e
 unfold PySem.W.lookIn
 rw[hd]
 dsimp only
 split
 ·rename_i y q
  rw[q] at e
  exact congrArg some e
 ·rename_i q
  rw[q] at e
  have a:es.toList.any (·.refKey)=false:=by
   rw[List.any_eq_false]
   intro y hy
   obtain⟨z,t,hkey⟩:=hk y (Kf.mp hy)
   simp[DictEntry.refKey,hkey]
  have a':¬es.toList.any (·.refKey)=true:=by rw[a];exact IG
  rw[HY a']
  exact congrArg some e
def CH.look {h:Heap}{x dx C:Addr}{mA:Str->Option Value}(I:CH h x dx C mA):∃od,PySem.W.InstAt h x (PySem.W.instObj C dx) C (some od)/\∀name,PySem.W.lookIn name od=some (mA name):=
 let ⟨od,ho,hl⟩:=wI I.ns
 ⟨od,⟨I.obj,rfl,rfl,ho⟩,hl⟩
section
variable {P:Program}{w:World}{H H':Hp}{h h':Heap}{a C dx:Addr}{fs fs':List (Str×V)}
def Aw (hok:je P w H h)(e:H a=some (.ins C dx fs)):∃mA,CH h a dx C mA/\(∀f,Dq (fs.lookup f) (mA f))/\PySem.Within mA (fs.map (·.1))/\fs.length<=1000/\H dx=some (.own a):=by
 obtain⟨d,z,ne,ob,mA,n,r,q⟩:=(show bw P w H h a (.ins C dx fs) from hok a _ e)
 exact⟨mA,⟨ob,n,ne⟩,r,q,z,d⟩
end
structure Hi (K:Frag)(C:Addr):Prop where
 pg:PySem.W.plainGet K C Str.empty=true
 hd:PySem.W.hasDictIn K C=true
 po:PySem.W.plainOver K C=true
 sa:PySem.W.findIn K (.ref C) "__setattr__"=some (some (.builtin "object.__setattr__"))
def Hi.get {K:Frag}{C:Addr}(c:Hi K C)(f:Str):PySem.W.plainGet K C f=true:=c.pg
section
variable {X:Cx}{pins:List (Addr×Obj)}{σ:St}{H:Hp}{s:Shared}{A:Around}{E:Value->Shared->Prop}{Q:Value->Shared->Prop}{c:Value}{b:Bool}
inductive lr (K:Frag)(H:Hp):V->Value->Prop where
 |non:lr K H .non (.type "NoneType")
 |bl (x:Bool):lr K H (.bl x) (.type "bool")
 |int (i:Int):lr K H (.int i) (.type "int")
 |str (x:Str):lr K H (.str x) (.type "str")
 |flt (x:UInt64):lr K H (.flt x) (.type "float")
 |lst {a:Addr} {xs:List V} (e:H a=some (.lst xs)):lr K H (.ref a) (.type "list")
 |aO {a:Addr} {o:Obj} {xs:List V} (e:H a=some (.aO o (.lst xs))):lr K H (.ref a) (.type "list")
 |tup {a:Addr} {xs:List V} (e:H a=some (.tup xs)):lr K H (.ref a) (.type "tuple")
 |dK {a:Addr} {kvs:List (Key×V)} (e:H a=some (.dK kvs)):lr K H (.ref a) (.type "dict")
 |dT {a:Addr} {kvs:List (List Key×V)} {ep:Nat} (e:H a=some (.dT kvs ep)):lr K H (.ref a) (.type "dict")
 |ins {a C dx:Addr} {fs:List (Str×V)} (e:H a=some (.ins C dx fs)) (cl:Hi K C) (ha:PySem.W.findIn K (.ref C) "__class__"=some (some (.builtin "object.__class__")))
   (hn:PySem.W.specialIn K (.builtin "object.__class__") "__get__"=some (some (.builtin "getset_descriptor.__get__"))) (htk:PySem.W.takesIn K (.builtin "object.__class__")=some true)
   (hm:PySem.W.mroIn K C (.type "object")=some true):lr K H (.ref a) (.ref C)
theorem fV {x:V}{u t:Value}(I:Inv X pins σ H s)(rx:RelV x u)(ty:lr X.K H x t)(e:PySem.W.kitOne X.K t c=some b)(h:∀tk,Q (.bool b) {s with toks:=tk}) :
  wpAny (model X.prog X.w) A (call (.builtin "isinstance") [u,c]) Q E s:=by
 cases ty with
 |non=>cases (show u=Value.none from rx);exact Jj PySem.W.kitx_none I.kIn True.intro e (λz=>nomatch z) h
 |bl y=>cases (show u=Value.bool y from rx);exact Jj PySem.W.kitx_bool I.kIn True.intro e (λz=>nomatch z) h
 |int i=>obtain⟨t,q⟩:=(show ∃t,u=Value.int i t from rx);cases q;exact Jj PySem.W.kitx_int I.kIn True.intro e (λz=>nomatch z) h
 |str y=>obtain⟨t,q⟩:=(show ∃t,u=Value.str y t from rx);cases q;exact Jj PySem.W.kitx_str I.kIn True.intro e (λz=>nomatch z) h
 |flt y=>obtain⟨t,q⟩:=(show ∃t,u=Value.float y t from rx);cases q;exact Jj PySem.W.kitx_float I.kIn True.intro e (λz=>nomatch z) h
 | @lst a xs ea=>
  cases (show u=Value.ref a from rx)
  obtain⟨_,_,n,_,h1⟩:=(show bw X.prog X.w H s.heap a (.lst xs) from I.hok a _ ea)
  exact Jj PySem.W.kitx_list I.kIn ⟨_,h1,rfl⟩ e (λz=>nomatch z) h
 | @aO a ob xs ea=>
  cases (show u=Value.ref a from rx)
  obtain⟨_,_,_,n,_,h1⟩:=(show bw X.prog X.w H s.heap a (.aO ob (.lst xs)) from I.hok a _ ea)
  exact Jj PySem.W.kitx_list I.kIn ⟨_,h1,rfl⟩ e (λz=>nomatch z) h
 | @tup a xs ea=>
  cases (show u=Value.ref a from rx)
  obtain⟨_,_,_,p⟩:=(show bw X.prog X.w H s.heap a (.tup xs) from I.hok a _ ea)
  obtain⟨o,h1,h2,_⟩:=p
  exact Jj PySem.W.kitx_tuple I.kIn ⟨o,h1,h2⟩ e (λz=>nomatch z) h
 | @dK a kvs ea=>
  cases (show u=Value.ref a from rx)
  obtain⟨_,_,vs,_,p⟩:=(show bw X.prog X.w H s.heap a (.dK kvs) from I.hok a _ ea)
  obtain⟨o,es,ep,h1,h2,_⟩:=p
  exact Jj PySem.W.kitx_dict I.kIn ⟨o,h1,h2.1⟩ e (λz=>nomatch z) h
 | @dT a kvs ep ea=>
  cases (show u=Value.ref a from rx)
  obtain⟨_,_,xs,_,o,es,h1,h2,_⟩:=(show bw X.prog X.w H s.heap a (.dT kvs ep) from I.hok a _ ea)
  exact Jj PySem.W.kitx_dict I.kIn ⟨o,h1,h2.1⟩ e (λz=>nomatch z) h
 | @ins a C dx fs ea cl ha hn htk hm=>
  cases (show u=Value.ref a from rx)
  obtain⟨mA,O,_⟩:=Aw I.hok ea
  obtain⟨od,J,_⟩:=O.look
  exact Jj (PySem.W.kitx_own (cl.get _) cl.hd ha hn htk hm) I.kIn J e (λz=>nomatch z) h
end
structure dD (k:Nat)(A:Around):Prop where
 hd:A.handled=none
 dp:A.depth + 3 * k + 5 < recursionLimit
 un:A.units + 16 * k + 200 < cLine
 gd:A.guards=some []
def dD.mono {j k:Nat}{A:Around}(r:dD k A)(h:j<=k):dD j A:=⟨r.hd,by have:=r.dp;omega,by have:=r.un;omega,r.gd⟩
def dD.deeper {k:Nat}{A:Around}(r:dD (k + 1) A)(env:Env):dD k (A.deeper env):=
 ⟨r.hd,by have:=r.dp;show A.depth + 1 + 3 * k + 5 < _;omega,by have:=r.un;show A.units + 3 + 16 * k + 200 < _;omega,r.gd⟩
def dD.depth {k:Nat}{A:Around}(r:dD k A):A.depth < recursionLimit:=by have:=r.dp;omega
def dD.units {k:Nat}{A:Around}(r:dD k A):A.units + 64 < cLine:=by have:=r.un;omega
def Gz:TA:=λ_ H Q=>Q [] H
def Eb (ta:TE)(tr:TA):TA:=λσ H Q=>ta σ H λx H1=>tr σ H1 λxs H2=>Q (x :: xs) H2
section
variable {X:Cx}{e:Expr}{es:List Expr}{te:TE}{t:TA}{pos:Pos}
def bh:PA X [] Gz:=λ_ _ _ _ H Q I h=>Calls.spliced_nil ⟨[],H,I,.nil,h⟩
def aI (ha:PE X e te)(hr:PA X es t)(hs:starEach (e :: es) X.env=(false,eval e X.env) :: starEach es X.env:=by rfl):PA X (e :: es) (Eb te t):=by
 intro pos pins s σ H Q I h
 rw[hs]
 show wpAny _ _ (spliced ((false,eval e X.env) :: backTo pos (starEach es X.env))) _ _ s
 refine Calls.spliced_cons (bP (ha pins s σ H _ I h) λu s1 ⟨x,H1,I1,r1,q1⟩=>?_)
 exact bP (hr pos pins s1 σ H1 _ I1 q1) λus s2 ⟨xs,H2,I2,r2,q2⟩=>⟨x :: xs,H2,I2,.cons r1 r2,q2⟩
def Hg (t:TA):TE:=λσ H Q=>t σ H λxs H1=>xs.length<=sizeLine/\∀p,H1 p=none->Q (.ref p) (upd H1 p (.tup xs))
def Gg (t:TA):TE:=λσ H Q=>t σ H λxs H1=>xs.length<=sizeLine/\∀p,H1 p=none->Q (.ref p) (upd H1 p (.lst xs))
def tq {x1}(h:PA X es t):PE X (.Tuple es x1 pos) (Hg t):=by
 intro pins s σ H Q I hq
 refine wpAny_Tuple_spliced (bP (h pos pins s σ H _ I hq) λus s1 ⟨xs,H1,I1,r,z,q⟩=>⟨by rw[<-r.length];exact z,?_⟩)
 have hf:H1 s1.heap.objs.size=none:=I1.hok.fresh (HX _)
 refine⟨.ref s1.heap.objs.size,upd H1 s1.heap.objs.size (.tup xs),I1.laid (t':=s1.toks) (λb u e=>Ia _ e) (HX _) ?_,rfl,q _ hf⟩
 exact⟨z,us,r,nR.new _ _⟩
def yN (h:PA X es t):PE X (.List es pos) (Gg t):=by
 intro pins s σ H Q I hq
 refine wpAny_List_spliced (bP (h pos pins s σ H _ I hq) λus s1 ⟨xs,H1,I1,r,z,q⟩=>⟨by rw[<-r.length];exact z,?_⟩)
 have hf:H1 s1.heap.objs.size=none:=I1.hok.fresh (HX _)
 refine⟨.ref s1.heap.objs.size,upd H1 s1.heap.objs.size (.lst xs),I1.laid (t':=s1.toks) (λb u e=>Ia _ e) (HX _) ?_,rfl,q _ hf⟩
 exact⟨z,us,0,r,IB _ rfl⟩
end
abbrev Sp:=List V->Hp->VK->XK->Prop
abbrev w9:=List Env->Hp->Shared->XK->Value->Shared->Prop
structure Ac (P:Program)(w:World)(K:Frag)(mg:Str->Option Value)(base:Heap)(A:Around)(outer:List Env)(s:Shared)(H:Hp):Prop where
 frames:A.frames=some outer
 mod:Mod K mg base
 bs:∀b o,base.get? b=some o->s.heap.get? b=some o/\H b=none
 bsz:base.objs.size<=s.heap.objs.size
 funs:s.heap.FunFrames base outer
 frf:∀b∈jC outer,H b=none
 hok:je P w H s.heap
 bare:AllBare s.gens
def CE (outer:List Env)(P:Program)(w:World)(H:Hp)(s:Shared)(Q:VK)(u:Value)(s':Shared):Prop:=
 ∃v H',s'.os=s.os/\AllBare s'.gens/\Un (jC outer) [] H H' s.heap s'.heap/\je P w H' s'.heap/\RelV v u/\Q v H'
def CR (CX:w9)(outer:List Env)(P:Program)(w:World)(H:Hp)(s:Shared)(Q:VK)(E:XK)(r:Result)(s':Shared):Prop:=
 match r with
 | .ok (.ret u)=>CE outer P w H s Q u s'
 | .ok _=>False
 | .error e=>CX outer H s E e s'
structure dw (P:Program)(w:World)(K:Frag)(mg:Str->Option Value)(base:Heap)(CX:w9)(k:Nat)(f:Addr)(fd:FuncData)(ps:List Str)(sp:Sp):Prop where
 len:∀vs H Q E,sp vs H Q E->vs.length=ps.length
 run:∀(A:Around) (outer:List Env) (s:Shared) (H:Hp) (args:Args) (us:List Value) (vs:List V) (Q:VK) (E:XK),dD k A->Ac P w K mg base A outer s H->BindsTo s fd args (ps.zip us)->Vals vs us->sp vs H Q E->
  codeAny (model P w) A (.call (.ref f) args) (CR CX outer P w H s Q E) s
def dw.mono {P:Program}{w:World}{K:Frag}{mg:Str->Option Value}{base:Heap}{CX:w9}{j k:Nat}{f:Addr}{fd:FuncData}{ps:List Str}{sp:Sp}(F:dw P w K mg base CX j f fd ps sp)(h:j<=k) :
  dw P w K mg base CX k f fd ps sp:=⟨F.len,λA outer s H args us vs Q E hr=>F.run A outer s H args us vs Q E (hr.mono h)⟩
def dw.imp {P:Program}{w:World}{K:Frag}{mg:Str->Option Value}{base:Heap}{CX:w9}{k:Nat}{f:Addr}{fd:FuncData}{ps:List Str}{sp sp':Sp}(F:dw P w K mg base CX k f fd ps sp)
  (h:∀vs H Q E,sp' vs H Q E->sp vs H Q E):dw P w K mg base CX k f fd ps sp':=
 ⟨λvs H Q E q=>F.len vs H Q E (h _ _ _ _ q),λA outer s H args us vs Q E hr he hb hv hs=>F.run A outer s H args us vs Q E hr he hb hv (h _ _ _ _ hs)⟩
section
variable {X:Cx}{pins:List (Addr×Obj)}{σ:St}{H:Hp}{s s':Shared}
def Inv.env0 (I:Inv X pins σ H s):Ac X.prog X.w X.K X.mg X.base X.A X.stack s H:=
 ⟨I.ok.frames,I.ok.mod,I.bs,Ji I.ok.bsz I.sz,I.stack,I.stkFree,I.hok,I.bare⟩
def Inv.after {Q:VK}{u:Value}(I:Inv X pins σ H s)(h:CE X.stack X.prog X.w H s Q u s'):EP X pins σ Q u s':=by
 obtain⟨v,H',os,bare,un,hok,r,q⟩:=h
 obtain⟨hh,g,d,t,os'⟩:=s'
 obtain rfl:os'=s.os:=os
 exact⟨v,H',I.call (h':=hh) (g':=g) (d':=d) (t':=t) (ch:=[]) un hok bare (λb z=>absurd z (by simp)),r,q⟩
end
def Ea (sp:Sp)(dvs:List V)(E:XK)(t:TA):TE:=λσ H Q=>t σ H λvs H1=>sp (vs ++ dvs) H1 Q E
def Binds (K:Frag)(fd:FuncData)(ps:List Str)(ds:List Value):Prop:=
 ∀(s:Shared) (us:List Value),K.In s.heap->(us ++ ds).length=ps.length->BindsTo s fd ⟨us,[]⟩ (ps.zip (us ++ ds))
def Binds.all {K:Frag}{fd:FuncData}{ps:List Str}(h:∀us:List Value,us.length=ps.length->bindArgs fd ⟨us,[]⟩=pure (ps.zip us)):Binds K fd ps []:=λs us _ hl=>by
 rw[JS] at hl ⊢
 exact .of_eq (h us hl)
def Passes (CX:w9)(X:Cx)(E:XK):Prop:=∀(pins:List (Addr×Obj)) (σ:St) (H:Hp) (s:Shared) (e:Value) (s':Shared),Inv X pins σ H s->CX X.stack H s E e s'->X.xe e s'
section
variable {X:Cx}{CX:w9}{k:Nat}{f C:Addr}{fd:FuncData}{ps:List Str}{sp:Sp}{dvs:List V}{ds:List Value}{E:XK}{x m:Str}{p pos apos:Pos}{e o:Expr}{es:List Expr}{ta:TE}{t:TA}
theorem CV {pins:List (Addr×Obj)}{σ:St}{H:Hp}{s:Shared}{Q:VK}{us:List Value}{vs:List V}(F:dw X.prog X.w X.K X.mg X.base CX k f fd ps sp)(hr:dD k X.A)(hb:Binds X.K fd ps ds)(hd:Vals dvs ds)(hx:Passes CX X E)
  (I:Inv X pins σ H s) (r:Vals vs us) (h:sp (vs ++ dvs) H Q E):wpAny (model X.prog X.w) X.A (call (.ref f) us) (EP X pins σ Q) X.xe s:=by
 have r2:Vals (vs ++ dvs) (us ++ ds):=r.append hd
 have hl:(us ++ ds).length=ps.length:=by rw[<-r2.length];exact F.len _ _ _ _ h
 refine wpAny_call (K2 (F.run X.A X.stack s H ⟨us,[]⟩ (us ++ ds) (vs ++ dvs) Q E hr I.env0 (hb s us I.kIn hl) r2 h) λr s' hq=>?_)
 cases r with
 |error e=>exact hx pins σ H s e s' I hq
 |ok fl=>
  cases fl with
  |ret u=>exact I.after hq
  |next=>exact False.elim hq
  |brk=>exact False.elim hq
  |cont=>exact False.elim hq
def lJ (F:dw X.prog X.w X.K X.mg X.base CX k f fd ps sp)(hr:dD k X.A)(hg:Gl X x)(hm:X.mg x=some (.ref f))(hk:PySem.W.keepIn X.K (.ref f)=true)(hb:Binds X.K fd ps ds)(hd:Vals dvs ds)(hx:Passes CX X E)
  (ha:PA X (e :: es) t) (hdb:(x == ("__debug__":Str))=false:=by decide) (he:starEach (e :: es) X.env=(false,eval e X.env) :: starEach es X.env:=by rfl) (hpl:(backTo pos (starEach es X.env)).any (·.1)=false:=by rfl) :
  PE X (.Call (.Name x p) (e :: es) [] pos) (Ea sp dvs E t):=by
 intro pins s σ H Q I h
 refine wpAny_Call_Name_kw (vW I hg hm ?_ hdb)
 refine PySem.W.callWith_K (h₀:=X.base) I.ok.mod.kin hk (bP (ha pos pins s σ H _ I h) λus s1 ⟨vs,H1,I1,r,q⟩=>⟨I1.kIn,?_⟩) he hpl
 exact CV F hr hb hd hx I1 r q
end
structure aK (N P:List Str)(sc:Scope):Prop where
 kind:sc.kind=.function
 co:sc.isCoroutine=false
 gen:sc.isGenerator=false
 nd:N.Nodup
 pre:N.take P.length=P
 par:∀x∈P,sc.names.lookup x=some .local\/sc.names.lookup x=some .cell
 nofree:∀y∈sc.names,y.2≠.free
theorem ox {kindOf:Str->Option NameKind}{x:Str}:∀{binds:List (Str×Value)} {m:Str->Option Value},(∀v,(x,v)∉binds)->bindL kindOf binds m x=m x
 | [],_,_=>rfl
 | (n,v) :: r,m,h=>by
  unfold bindL
  rw[ox λw hw=>h w (Ie _ hw)]
  split
  ·have:x≠n:=by rintro rfl;exact h v Ig
   simp[this]
  ·rfl
theorem oo {kindOf:Str->Option NameKind}{x:Str}:∀{binds:List (Str×Value)} {m:Str->Option Value},(∀v,(x,v)∉binds)->bindC kindOf binds m x=m x
 | [],_,_=>rfl
 | (n,v) :: r,m,h=>by
  unfold bindC
  rw[oo λw hw=>h w (Ie _ hw)]
  split
  ·rfl
  ·have:x≠n:=by rintro rfl;exact h v Ig
   simp[this]
theorem nY {kindOf:Str->Option NameKind}{x:Str}{v:Value}:∀{P:List Str} {vs:List Value} {i:Nat} {m:Str->Option Value},P.Nodup->P[i]? =some x->vs[i]? =some v->kindOf x=some .local->
  bindL kindOf (P.zip vs) m x=some v
 | [],_,_,_,_,h,_,_=>by simp at h
 |_ :: _,[],_,_,_,_,h,_=>by simp at h
 |p :: P,w :: vs,0,m,nd,h1,h2,hk=>by
  simp at h1 h2;subst h1;subst h2
  show bindL kindOf ((p,w) :: P.zip vs) m p=_
  unfold bindL
  rw[ox λv hv=>(Jk.mp nd).1 (List.of_mem_zip hv).1,HV hk]
  simp
 |p :: P,w :: vs,i + 1,m,nd,h1,h2,hk=>by
  show bindL kindOf ((p,w) :: P.zip vs) m x=_
  unfold bindL
  exact nY (i:=i) (Jk.mp nd).2 (by simpa using h1) (by simpa using h2) hk
theorem oj {kindOf:Str->Option NameKind}{x:Str}{v:Value}:∀{P:List Str} {vs:List Value} {i:Nat} {m:Str->Option Value},P.Nodup->P[i]? =some x->vs[i]? =some v->kindOf x≠some .local->
  bindC kindOf (P.zip vs) m x=some v
 | [],_,_,_,_,h,_,_=>by simp at h
 |_ :: _,[],_,_,_,_,h,_=>by simp at h
 |p :: P,w :: vs,0,m,nd,h1,h2,hk=>by
  simp at h1 h2;subst h1;subst h2
  show bindC kindOf ((p,w) :: P.zip vs) m p=_
  unfold bindC
  rw[oo λv hv=>(Jk.mp nd).1 (List.of_mem_zip hv).1,HY hk]
  simp
 |p :: P,w :: vs,i + 1,m,nd,h1,h2,hk=>by
  show bindC kindOf ((p,w) :: P.zip vs) m x=_
  unfold bindC
  exact oj (i:=i) (Jk.mp nd).2 (by simpa using h1) (by simpa using h2) hk
def start (N:List Str)(vs:List V):St:=vs.map some ++ List.replicate (N.length - vs.length) none
def nX (CX:w9)(P:Program)(w:World)(K:Frag)(mg:Str->Option Value)(base:Heap)(N:List Str)(qual:Str)(scope:Scope)(f:Addr)(cd:Value)(A:Around)(outer:List Env)(s:Shared)(H:Hp)(E:XK):Cx where
 prog:=P
 w:=w
 K:=K
 mg:=mg
 base:=base
 A:=A.deeper (envOfC qual scope s.heap.objs.size f cd)
 N:=N
 s₀:=s
 H₀:=H
 env:=envOfC qual scope s.heap.objs.size f cd
 outer:=outer
 stack:=envOfC qual scope s.heap.objs.size f cd :: outer
 ex:=[]
 calm:=true
 fn:=λ_=>true
 pn:=[]
 xe:=λe s'=>wpAny (model P w) (A.deeper (envOfC qual scope s.heap.objs.size f cd)) (leaving (envOfC qual scope s.heap.objs.size f cd) e) (λ_ s''=>CX outer H s E e s'') (λe' s''=>CX outer H s E e' s'') s'
def r9 {sc:Scope}{n:Nat}{x:Str}(h:sc.names.lookup x=some .cell):∃c,(cellsFrom n sc.names []).lookup x=some c:=by
 have q:=PySem.W.cellsFrom_some sc.names n [] (.inl h)
 exact Option.isSome_iff_exists.mp q
def xa {CX:w9}{P:Program}{w:World}{K:Frag}{mg:Str->Option Value}{base:Heap}{N ps:List Str}{qual:Str}{scope:Scope}{f:Addr}{cd:Value}{A:Around}{outer:List Env}{s s1:Shared}{H:Hp}{E:XK}{us:List Value}{vs:List V}
  (S:aK N ps scope) (hd:A.handled=none) (e0:Ac P w K mg base A outer s H) (hl:vs.length=ps.length) (r:Vals vs us)
  (x:InCallC s s.heap.objs.size (bindL (envOfC qual scope s.heap.objs.size f cd).kindOf (ps.zip us) λ_=>none) (cellsFrom (s.heap.objs.size + 1) scope.names []) (bindC (envOfC qual scope s.heap.objs.size f cd).kindOf (ps.zip us) λ_=>none) s1) :
  Inv (nX CX P w K mg base N qual scope f cd A outer s H E) [] (start N vs) H s1:=by
 have hpl:ps.length<=N.length:=by have:=congrArg List.length S.pre;rw[Jf] at this;omega
 obtain⟨h1,tk,rfl,hk⟩:=x.done
 have noA:∀b:Addr,b∉(nX CX P w K mg base N qual scope f cd A outer s H E).ex:=λb z=>absurd (show b∈([]:List Addr) from z) (by simp)
 refine⟨⟨e0.mod,S.kind,rfl,rfl,HX _,λy z c h1 h2=>?_,λy hy=>?_,λy c _ h=>?_,λ_=>hd,Around.frames_deeper e0.frames,.inr ⟨rfl,rfl⟩,λb z=>absurd z (noA b),e0.bs,e0.bsz,λb _ _=>noA b,λb z=>absurd z (noA b),e0.funs,e0.frf⟩,
  rfl,e0.bare,Un.kept hk,⟨_,x.toInCall.ns,λi y v h1 h2 h3=>?_⟩,λy c h=>⟨_,x.cell y c h⟩,e0.hok.fresh (HX _),λy c h=>?_,λp hp=>absurd (show p∈([]:List (Addr×Obj)) from hp) (by simp),e0.hok.kept hk,?_⟩
 ·exact name_of_addr x.apart (JC h1) (JC h2)
 ·have hy:scope.names.lookup y=some .cell\/scope.names.lookup y=some .free:=hy
  rcases hy with hy |hy
  ·exact r9 hy
  ·exact absurd rfl (S.nofree _ (JC hy))
 ·exact KN (x.above y c (JC h))
 ·have hi:i < vs.length:=by
   unfold start at h2
   by_cases hi:i < vs.length
   ·exact hi
   ·rw[Jb (by simpa using hi)] at h2
    rw[JO] at h2
    split at h2 <;> cases h2
  have ha:vs[i]? =some v:=by
   unfold start at h2
   rw[Jd (by simpa using hi),Ip] at h2
   cases e:vs[i]? with
   |none=>rw[e] at h2;cases h2
   |some a=>rw[e] at h2;cases h2;rfl
  obtain⟨u,hu,rv⟩:=r.get ha
  have hp:ps[i]? =some y:=by
   rw[<-S.pre,List.getElem?_take_of_lt (by omega)];exact h1
  have ndP:ps.Nodup:=by rw[<-S.pre];exact S.nd.sublist (KI _ _)
  refine⟨u,rv,?_⟩
  rcases S.par y (Ij hp) with k |k
  ·exact .inl ⟨k,nY ndP hp hu k⟩
  ·obtain⟨c,e⟩:=r9 (n:=s.heap.objs.size + 1) k
   refine .inr ⟨.inl k,c,e,?_⟩
   have q:=x.cell y c e
   rw[oj ndP hp hu (by show scope.names.lookup y≠_;rw[k];decide)] at q
   exact q
 ·exact e0.hok.fresh (KN (x.above y c (JC h)))
 ·unfold start
  show _=N.length
  rw[IQ,IC,Kb]
  omega
theorem Ca {CX:w9}{P:Program}{w:World}{K:Frag}{mg:Str->Option Value}{base:Heap}{k:Nat}{f:Addr}{name qual:Str}{params:Arguments}{body:List Stmt}{scope:Scope}{dV kV doc pm cdv ct oc:Value}{an od:Option Addr}
  {osl:Array (Option Value)} {N ps:List Str} {sp:Sp} (lk:K.lookup f=some ⟨oc,od,.func (PySem.W.fnOf name qual params body scope dV kV doc pm an cdv ct),osl⟩) (hcd:PySem.W.codeIn K cdv qual=true) (S:aK N ps scope)
  (len:∀vs H Q E,sp vs H Q E->vs.length=ps.length)
  (hbody:∀(A:Around) (outer:List Env) (s:Shared) (H:Hp) (vs:List V) (Q:VK) (E:XK),dD k (A.deeper (envOfC qual scope s.heap.objs.size f cdv))->sp vs H Q E->
   ∃t,ou (nX CX P w K mg base N qual scope f cdv A outer s H E) body t/\t {nx:=λ_ H'=>Q .non H',rt:=Q} (start N vs) H) :
  dw P w K mg base CX (k + 1) f (PySem.W.fnOf name qual params body scope dV kV doc pm an cdv ct) ps sp:=by
 refine⟨len,λA outer s H args us vs Q E hr e0 hb r hsp=>?_⟩
 have hl:=len _ _ _ _ hsp
 have KX:K.In s.heap:=e0.mod.kin.keeps λb o e=>(e0.bs b o e).1
 have lim:s.heap.NoLimit:=e0.mod.nolimit.keeps λb o e=>(e0.bs b o e).1
 have hkind:∀y∈ps.zip us,scope.names.lookup y.1=some .local\/(scope.names.lookup y.1=some .cell/\((cellsFrom (s.heap.objs.size + 1) scope.names []).lookup y.1).isSome=true):=λ⟨n,v⟩ hy=>by
  rcases S.par n (List.of_mem_zip hy).1 with q |q
  ·exact .inl q
  ·exact .inr ⟨q,PySem.W.cellsFrom_some _ _ _ (.inl q)⟩
 refine codeAny_call_function hr.depth (KX _ _ lk) rfl S.co S.gen rfl (PySem.W.codeRec_of KX hcd) (hb _ _ _ _ ?_)
 refine wpAny_newFunctionEnv_cells S.kind hkind λenv he s1 x=>?_
 subst he
 refine⟨lim.keeps x.toInCall.keep,codeAny_func ?_⟩
 obtain⟨t,ht,hq⟩:=hbody A outer s H vs Q E (hr.deeper _) hsp
 have I:Inv (nX CX P w K mg base N qual scope f cdv A outer s H E) [] (start N vs) H s1:=xa S hr.hd e0 hl r x
 refine JK (ht [] s1 (start N vs) H _ I hq) (λfl s' hs=>?_) λe s' hs=>hs
 have fin:∀{σ':St} {H':Hp} {v:V} {u:Value},Inv (nX CX P w K mg base N qual scope f cdv A outer s H E) [] σ' H' s'->RelV v u->Q v H'->CE outer P w H s Q u s':=
  λ{σ' H' v u} J rv q=>⟨v,H',J.os,J.bare,J.base,J.hok,rv,q⟩
 cases fl with
 |ret u=>
  obtain⟨v,σ',H',J,rv,q⟩:=hs
  exact fin J rv q
 |next=>
  obtain⟨σ',H',J,q⟩:=hs
  exact fin (v:=V.non) (u:=Value.none) J rfl q
 |brk=>
  obtain⟨_,_,_,q⟩:=hs
  exact False.elim q
 |cont=>
  obtain⟨_,_,_,q⟩:=hs
  exact False.elim q
section
variable {X:Cx}{x:Str}{p pos:Pos}{e:Expr}{es:List Expr}{t:TA}{id T:String}{r:List V->Hp->VK->Prop}
def Hk (r:List V->Hp->VK->Prop)(t:TA):TE:=λσ H Q=>t σ H λvs H1=>r vs H1 Q
def iw (hc:b9 X (.builtin id) r)(hg:Gl X x)(hm:X.mg x=none)(hv:bootBuiltins x=some (.builtin id))(ha:PA X (e :: es) t)(hn:x≠"__name__":=by decide)(hdb:(x == ("__debug__":Str))=false:=by decide)
  (he:starEach (e :: es) X.env=(false,eval e X.env) :: starEach es X.env:=by rfl) (hpl:(backTo pos (starEach es X.env)).any (·.1)=false:=by rfl):PE X (.Call (.Name x p) (e :: es) [] pos) (Hk r t):=by
 intro pins s σ H Q I h
 refine wpAny_Call_Name_kw (mV I hg hm hv ?_ hn hdb)
 exact PyProof.Rows.callWith_builtin1 (bP (ha pos pins s σ H _ I h) λus s1 ⟨vs,H1,I1,r1,q1⟩=>hc pins s1 σ H1 vs us Q I1 r1 q1) he hpl
def fS (hc:b9 X (.type T) r)(hg:Gl X x)(hm:X.mg x=none)(hv:bootBuiltins x=some (.type T))(ha:PA X (e :: es) t)(hn:x≠"__name__":=by decide)(hdb:(x == ("__debug__":Str))=false:=by decide)
  (he:starEach (e :: es) X.env=(false,eval e X.env) :: starEach es X.env:=by rfl) (hpl:(backTo pos (starEach es X.env)).any (·.1)=false:=by rfl):PE X (.Call (.Name x p) (e :: es) [] pos) (Hk r t):=by
 intro pins s σ H Q I h
 refine wpAny_Call_Name_kw (mV I hg hm hv ?_ hn hdb)
 exact KR (bP (ha pos pins s σ H _ I h) λus s1 ⟨vs,H1,I1,r1,q1⟩=>hc pins s1 σ H1 vs us Q I1 r1 q1) he hpl
end
end L2
namespace HT
open PySem PyProof.Rows
section
open PySem.SeqAt
open PySem.AutoSeq1 (wpAny_loadPart')
open PySem.MeetsSeq PySem.MeetsSeq2 PySem.MeetsSeq3
end
section
variable {prog:Program}{w:World}{A:Around}{E:Value->Shared->Prop}{s:Shared}
def A5 {t b:Addr}{vs ws:List Value}{Q:Value->Shared->Prop}(ht:IsTup s.heap t vs.toArray)(hb:IsTup s.heap b ws.toArray)(hv:vs≠ [])
  (h1:ws= []->Q (.ref t) s) (h2:ws≠ []->Q (.ref s.heap.objs.size) {s with heap:=s.heap.push {cls:=.type "tuple",data:=.seq (vs ++ ws).toArray}})
  (hsz:vs.length + ws.length<=sizeLine):wpAny (model prog w) A (binaryOp .Add (.ref t) (.ref b)) Q E s:=by
 obtain⟨⟨cls,dd,data,sl⟩,ho,hc,n,hd⟩:=id ht
 obtain⟨⟨cls2,dd2,data2,sl2⟩,ho2,hc2,n2,hd2⟩:=id hb
 simp only at hc hd hc2 hd2
 subst hc hd hc2 hd2
 have e:vs.toArray ++ ws.toArray=(vs ++ ws).toArray:=by simp
 by_cases hw:ws= []
 ·exact concat_meets ⟨_,ho,rfl⟩ ⟨_,ho2,rfl⟩ noFill_tuple_add seq_tuple_add PySem.F.slot_tuple_add PySem.F.entry_tuple_add (K3 _ _)
   (tuple_addW1 t b vs.toArray ws.toArray n n2 dd dd2 sl sl2 (by simpa using hv) (by simp[hw])) ⟨ho,ho2,h1 hw⟩
 ·refine concat_meets ⟨_,ho,rfl⟩ ⟨_,ho2,rfl⟩ noFill_tuple_add seq_tuple_add PySem.F.slot_tuple_add PySem.F.entry_tuple_add (K3 _ _)
   (tuple_addW2 t b vs.toArray ws.toArray n n2 dd dd2 sl sl2 (by simpa using hv) (by simpa using hw) (by rw[Iq,Iq];exact hsz)) ⟨ho,ho2,?_⟩
  rw[e]
  exact h2 hw
def cq (n d:Nat):Option Int->Nat
 |none=>d
 |some v=>if v < 0 then (v + (n:Int)).toNat else min v.toNat n
def qK (n d:Nat):cq n d none=d:=rfl
def vf (n d k:Nat):cq n d (some (k:Int))=min k n:=by
 show (if (k:Int) < 0 then ((k:Int) + (n:Int)).toNat else min (k:Int).toNat n)=min k n
 rw[HY (by omega),Jl]
theorem Dm (n d:Nat)(hd:d<=n)(o:Option Int):cq n d o<=n:=by
 cases o with
 |none=>exact hd
 |some v=>
  show (if v < 0 then (v + (n:Int)).toNat else min v.toNat n)<=n
  by_cases hv:v < 0
  ·rw[HV hv];omega
  ·rw[HY hv];exact Nat.min_le_right _ _
def vA (v:Int)(n d:Nat):(if v < 0 then max (v + (n:Int)) 0 else min v (n:Int))=((cq n d (some v):Nat):Int):=by
 show (if v < 0 then max (v + (n:Int)) 0 else min v (n:Int))=(((if v < 0 then (v + (n:Int)).toNat else min v.toNat n):Nat):Int)
 by_cases hv:v < 0
 ·simp only[HV hv];omega
 ·simp only[HY hv];omega
def um (lo hi:Option Int)(n:Nat):Builtin.Slice.sliceAdjust lo hi 1 (n:Int)=(((cq n 0 lo:Nat):Int),((cq n n hi:Nat):Int)):=by
 have h1:¬((1:Int) < 0):=by omega
 unfold Builtin.Slice.sliceAdjust
 simp only[h1,IZ]
 refine Prod.ext ?_ ?_
 ·cases lo with
  |none=>rfl
  |some v=>exact vA v n 0
 ·cases hi with
  |none=>rfl
  |some v=>exact vA v n n
def tW (i j:Nat):Builtin.Slice.slicePlaces (i:Int) (j:Int) 1=j - i:=by
 unfold Builtin.Slice.slicePlaces
 have h1:(1:Int) > 0:=by omega
 simp only[h1,Js,Int.ediv_one]
 split <;> omega
theorem jy {v:Value}{o:Option Int}{Q:Option Int->Shared->Prop}(p:IsPart v o)(h:Q o s):wpAny (model prog w) A (Builtin.Slice.slicePartIndex v) Q E s:=by
 cases p with
 |none=>exact slicePart_none h
 |int i t=>exact slicePart_int h
def fP {sl:Addr}{vl vu:Value}{lo hi:Option Int}{n:Nat}{Q:Int×Int×Nat->Shared->Prop}(hs:s.heap.IsSliceOf sl vl vu .none)(pl:IsPart vl lo)(pu:IsPart vu hi)
  (h:Q (((cq n 0 lo:Nat):Int),1,cq n n hi - cq n 0 lo) s):wpAny (model prog w) A (Builtin.Slice.sliceApplied (.ref sl) (pure (n:Int))) Q E s:=by
 obtain⟨os,hos,hcs,hds⟩:=id hs
 unfold Builtin.Slice.sliceApplied Builtin.Slice.sliceFields
 refine HS (HS (Kk hos hds (x:=vl) rfl (HS (Kk hos hds (x:=vu) rfl (HS (Kk hos hds (x:=.none) rfl (HW ?_)))))))
 refine HS (slicePart_none ?_)
 show wpAny _ _ (if ((1:Int) == 0)=true then _ else _) _ _ s
 rw[HY (by decide)]
 refine HS (jy pl (HS (jy pu (HS (HW ?_)))))
 show wpAny _ _ (match Builtin.Slice.sliceAdjust lo hi 1 (n:Int) with | (lo,hi)=>pure (lo,(1:Int),Builtin.Slice.slicePlaces lo hi 1)) _ _ s
 rw[um lo hi n]
 show wpAny _ _ (pure (((cq n 0 lo:Nat):Int),(1:Int),Builtin.Slice.slicePlaces ((cq n 0 lo:Nat):Int) ((cq n n hi:Nat):Int) 1)) _ _ s
 rw[tW]
 exact HW h
def zl (xs:Array Value)(i k:Nat):((List.range k).filterMap λ(m:Nat)=>xs[((i:Int) + (m:Int) * 1).toNat]?).toArray=((xs.toList.drop i).take k).toArray:=by
 have e:(λ(m:Nat)=>xs[((i:Int) + (m:Int) * 1).toNat]?)=λm=>xs[i + m]?:=by
  funext m
  have:((i:Int) + (m:Int) * 1).toNat=i + m:=by omega
  rw[this]
 rw[e]
 have:=pick_run xs i k
 rw[List.filterMap_map] at this
 have e2:((λx=>xs[x]?) ∘ λx=>i + x)=λm=>xs[i + m]?:=rfl
 rw[e2] at this
 rw[this]
def jH {t sl:Addr}{items:Array Value}{vl vu:Value}{lo hi:Option Int}{Q:Value->Shared->Prop}(ht:IsTup s.heap t items)(hs:s.heap.IsSliceOf sl vl vu .none)(pl:IsPart vl lo)(pu:IsPart vu hi)
  (hw:¬(cq items.size 0 lo=0/\cq items.size items.size hi=items.size))
  (h:Q (.ref s.heap.objs.size) {s with heap:=s.heap.push {cls:=.type "tuple",data:=.seq ((items.toList.drop (cq items.size 0 lo)).take (cq items.size items.size hi - cq items.size 0 lo)).toArray}})
  (hsz:items.size<=sizeLine):wpAny (model prog w) A (getItem (.ref t) (.ref sl)) Q E s:=by
 have htake:sizeOk (.seq ((items.toList.drop (cq items.size 0 lo)).take (cq items.size items.size hi - cq items.size 0 lo)).toArray):=by
  show ((items.toList.drop (cq items.size 0 lo)).take (cq items.size items.size hi - cq items.size 0 lo)).toArray.size<=sizeLine
  rw[Iq,Jf,Km,ID]
  omega
 have hj:cq items.size items.size hi<=items.size:=Dm _ _ (HX _) hi
 obtain⟨os,hos,hcs,hds⟩:=id hs
 have hTs:s.TypeIs (.ref sl) "slice":=⟨os,hos,hcs⟩
 unfold getItem
 try with_reducible refine JE ?_
 first |refine HS (HW ?_) |skip
 refine HS (wpAny_sequenceKey ht.typeIs (by decide) ?_)
 refine HS (J3 (name:=Str.ofString "__getitem__") ht.typeIs IX
  (JV IX ht.typeIs entry_tuple_getitem ?_ (args_tuple_getitem _ _)))
 show wpAny _ _ (Builtin.Tuple.tupleItemsOf (.ref t) >>= _) _ _ s
 refine HS (tupleItemsOf_ ht ?_)
 refine HS (Kn hTs ?_)
 rw[HV (by decide)]
 refine HS (fP hs pl pu ?_)
 have hno:¬((((cq items.size 0 lo:Nat):Int) == 0 && (1:Int) == 1 && (cq items.size items.size hi - cq items.size 0 lo) == items.size)=true):=by
  intro q
  rw[IE,IE] at q
  have q1:((cq items.size 0 lo:Nat):Int)=0:=eq_of_beq q.1.1
  have q2:cq items.size items.size hi - cq items.size 0 lo=items.size:=eq_of_beq q.2
  exact hw ⟨by omega,by omega⟩
 show wpAny _ _ (if (((cq items.size 0 lo:Nat):Int) == 0 && (1:Int) == 1 && (cq items.size items.size hi - cq items.size 0 lo) == items.size)=true then _ else _) _ _ s
 rw[HY hno,zl]
 first
  |exact HS (m:=Builtin.Tuple.tupleExact _) (Jg (HW ⟨_,rfl,HW h⟩) htake)
  |exact HS (m:=Builtin.Tuple.tupleExact _) (Jg (HS (HW (HW ⟨_,rfl,HW h⟩))) htake)
  |exact HS (HS (m:=Builtin.Tuple.tupleExact _) (Jg (HW (HW ⟨_,rfl,HW h⟩)) htake))
  |exact HS (HS (m:=Builtin.Tuple.tupleExact _) (Jg (HW ⟨_,rfl,HW h⟩) htake))
end
end HT
namespace L2
open PySem PySem.Spec PyProof.Rows
abbrev TO:=St->Hp->(Option Int->Hp->Prop)->Prop
def PO (X:Cx)(e:Option Expr)(t:TO):Prop:=
 ∀(pins:List (Addr×Obj)) (s:Shared) (σ:St) (H:Hp) (Q:Option Int->Hp->Prop),Inv X pins σ H s->t σ H Q->
  wpAny (model X.prog X.w) X.A (evalPart e X.env) (λu s'=>∃o H',Inv X pins σ H' s'/\IsPart u o/\Q o H') X.xe s
def Ae:TO:=λ_ H Q=>Q none H
def Ep (t:TE):TO:=λσ H Q=>t σ H λx H1=>∃i,x=.int i/\Q (some i) H1
theorem intsAre_of {ns:List Int}:∀{us:List Value},Vals (ns.map V.int) us->IntsAre us ns:=by
 induction ns with
 |nil=>intro us r;rw[List.map_nil] at r;cases r;exact .nil
 |cons n ns ih=>
  intro us r
  rw[Jp] at r
  cases r with
  |cons r1 r2=>
   obtain⟨t,e⟩:=r1
   subst e
   exact .cons n t (ih r2)
section
variable {X:Cx}{e:Expr}{te:TE}{lo hi:Option Expr}{tl th:TO}{pos p2:Pos}
def Ba:PO X none Ae:=by
 intro pins s σ H Q I h
 rw[evalPart_none]
 exact HW ⟨none,H,I,.none,h⟩
def uS (h:PE X e te):PO X (some e) (Ep te):=by
 intro pins s σ H Q I hw
 rw[evalPart_some]
 refine bP (h pins s σ H _ I hw) λu s1 ⟨x,H1,I1,r1,q1⟩=>?_
 obtain⟨i,rfl,q⟩:=q1
 obtain⟨t,rfl⟩:=r1
 exact⟨some i,H1,I1,.int i t,q⟩
def Gf (X:Cx)(r:V->Option Int->Option Int->Hp->VK->Prop):Prop:=
 ∀(pins:List (Addr×Obj)) (s:Shared) (σ:St) (H:Hp) (x:V) (v vl vu:Value) (lo hi:Option Int) (sl:Addr) (Q:VK),Inv X pins σ H s->RelV x v->s.heap.IsSliceOf sl vl vu .none->IsPart vl lo->IsPart vu hi->r x lo hi H Q->
  ∃T id,typeLookup (.type T) "__getitem__"=pure (some (.builtin id))/\s.TypeIs v T/\wpAny (model X.prog X.w) X.A (getItem v (.ref sl)) (EP X pins σ Q) X.xe s
def HQ (r:V->Option Int->Option Int->Hp->VK->Prop)(te:TE)(tl th:TO):TE:=λσ H Q=>te σ H λx H1=>tl σ H1 λl H2=>th σ H2 λu H3=>r x l u H3 Q
def yd {r:V->Option Int->Option Int->Hp->VK->Prop}(hr:Gf X r)(he:PE X e te)(hl:PO X lo tl)(hu:PO X hi th):PE X (.Subscript e (.Slice lo hi none p2) pos) (HQ r te tl th):=by
 intro pins s σ H Q I h
 refine Subscript_ (bP (he pins s σ H _ I h) λv s1 ⟨x,H1,I1,r1,q1⟩=>?_)
 refine wpAny_Slice (bP (hl pins s1 σ H1 _ I1 q1) λvl s2 ⟨l,H2,I2,pl,q2⟩=>bP (hu pins s2 σ H2 _ I2 q2) λvu s3 ⟨u,H3,I3,pu,q3⟩=>?_)
 rw[evalPart_none]
 refine HW ?_
 have I4:Inv X pins σ H3 {s3 with heap:=s3.heap.push {cls:=.type "slice",data:=.fields #[vl,vu,.none]}}:=I3.kept (t':=s3.toks) λb ob q=>Ia _ q
 obtain⟨T,id,hT,ht,hg⟩:=hr pins {s3 with heap:=s3.heap.push {cls:=.type "slice",data:=.fields #[vl,vu,.none]}} σ H3 x v vl vu l u s3.heap.objs.size Q I4 r1 (Heap.IsSliceOf.new ..) pl pu q3
 show wpAny (model X.prog X.w) X.A (subscriptTail e (.Slice lo hi none p2) v (.ref s3.heap.objs.size)) (EP X pins σ Q) X.xe {s3 with heap:=s3.heap.push {cls:=.type "slice",data:=.fields #[vl,vu,.none]}}
 exact tail_any (ops:=[.ref s3.heap.objs.size,v]) ht hT hg (by with_unfolding_all rfl)
def nW (xs:List V)(lo hi:Option Int):List V:=(xs.drop (HT.cq xs.length 0 lo)).take (HT.cq xs.length xs.length hi - HT.cq xs.length 0 lo)
def lj (xs:List V)(lo hi:Option Int):(nW xs lo hi).length<=xs.length:=by
 unfold nW
 rw[Jf,Km]
 omega
def Gq (K:Frag):V->Option Int->Option Int->Hp->VK->Prop:=λx lo hi H Q=>∃a xs,x=.ref a/\dA K H a xs/\
 ¬(HT.cq xs.length 0 lo=0/\HT.cq xs.length xs.length hi=xs.length)/\∀p,H p=none->Q (.ref p) (upd H p (.tup (nW xs lo hi)))
def C1:Gf X (Gq X.K):=by
 intro pins s σ H x v vl vu lo hi sl Q I rx hs pl pu h
 obtain⟨a,xs,rfl,hx,hw,q⟩:=h
 cases rx
 obtain⟨its,r,ht,hz⟩:=I.tuple hx
 have hlen:its.toArray.size=xs.length:=by rw[Iq];exact r.length.symm
 refine⟨"tuple",_,IX.lookup,ht.typeIs,?_⟩
 refine HT.jH ht hs pl pu (by rw[hlen];exact hw) ?_ (by rw[hlen];exact hz)
 rw[hlen]
 refine⟨.ref s.heap.objs.size,_,I.laid (t':=s.toks) (o:=.tup (nW xs lo hi)) (λb ob q=>Ia _ q) (HX _) ?_,rfl,q _ (I.hok.fresh (HX _))⟩
 exact⟨Ji (lj xs lo hi) hz,_,(r.drop (HT.cq xs.length 0 lo)).take (HT.cq xs.length xs.length hi - HT.cq xs.length 0 lo),nR.new _ _⟩
def EV (K:Frag):R2:=λx y H Q=>∃a b xs ys,x=.ref a/\y=.ref b/\dA K H a xs/\dA K H b ys/\xs≠ []/\xs.length + ys.length<=sizeLine/\
 (ys= []->Q (.ref a) H)/\(ys≠ []->∀p,H p=none->Q (.ref p) (upd H p (.tup (xs ++ ys))))
theorem Vals.nil_iff {xs:List V}{us:List Value}(r:Vals xs us):us= []↔xs= []:=by
 cases r with
 |nil=>simp
 |cons _ _=>simp
def AJ:iZ X (binaryOp .Add) (EV X.K):=by
 intro pins s σ H x y v u Q I rx ry h
 obtain⟨a,b,xs,ys,rfl,rfl,ha,hb,hx,hz,q1,q2⟩:=h
 cases rx
 cases ry
 obtain⟨its,r1,p1,_⟩:=I.tuple ha
 obtain⟨its2,r2,p2,_⟩:=I.tuple hb
 refine HT.A5 p1 p2 (λz=>hx (r1.nil_iff.mp z)) (λz=>⟨.ref a,H,I,rfl,q1 (r2.nil_iff.mp z)⟩) (λz=>?_) (by rw[<-r1.length,<-r2.length];exact hz)
 refine⟨.ref s.heap.objs.size,_,I.laid (t':=s.toks) (o:=.tup (xs ++ ys)) (λb ob q=>Ia _ q) (HX _) ?_,rfl,q2 (λw=>z (r2.nil_iff.mpr w)) _ (I.hok.fresh (HX _))⟩
 exact⟨by rw[IQ];exact hz,_,r1.append r2,nR.new _ _⟩
end
def xI (n:Nat)(i:Int):Option Nat:=if 0<=i then (if i < n then some i.toNat else none) else if -(n:Int)<=i then some (i + n).toNat else none
def jb {α:Type}(xs:List α)(i:Int):Option α:=(xI xs.length i).bind λj=>xs[j]?
def uL {n:Nat}{i:Int}{j:Nat}(h:xI n i=some j):seqIndex? i n=some j/\j < n/\ -(n:Int)<=i/\i < n:=by
 unfold xI at h
 by_cases h0:0<=i
 ·rw[HV h0] at h
  by_cases h1:i < n
  ·rw[HV h1] at h
   have e:i.toNat=j:=Option.some.inj h
   exact⟨by rw[seqIndex_of h0 h1,e],by omega,by omega,h1⟩
  ·rw[HY h1] at h;cases h
 ·rw[HY h0] at h
  by_cases h1: -(n:Int)<=i
  ·rw[HV h1] at h
   have e:(i + n).toNat=j:=Option.some.inj h
   exact⟨by rw[seqIndex_neg (by omega) h1,e],by omega,h1,by omega⟩
  ·rw[HY h1] at h;cases h
theorem pY {α:Type}{xs:List α}{i:Int}{v:α}(h:jb xs i=some v):∃j,seqIndex? i xs.length=some j/\xs[j]? =some v/\j < xs.length/\ -(xs.length:Int)<=i/\i < xs.length:=by
 unfold jb at h
 cases e:xI xs.length i with
 |none=>rw[e] at h;cases h
 |some j=>
  rw[e] at h
  obtain⟨h1,h2,h3,h4⟩:=uL e
  exact⟨j,h1,h,h2,h3,h4⟩
def dm {α:Type}{xs:List α}{j:Nat}{v:α}(h:xs[j]? =some v):jb xs (j:Int)=some v:=by
 have hj:j < xs.length:=(Im.mp h).1
 have e:xI xs.length (j:Int)=some j:=by
  unfold xI
  rw[HV (by omega),HV (by omega)];simp
 unfold jb;rw[e];exact h
def vO (b:Expr):Prop:=∀o i,subscripted b false o i=operate [o,i] (getItem o i)
def zV (X:Cx)(r:R2):Prop:=
 ∀(value slice:Expr) (pins:List (Addr×Obj)) (s:Shared) (σ:St) (H:Hp) (x y:V) (v u:Value) (Q:VK),Inv X pins σ H s->RelV x v->RelV y u->r x y H Q->
  subscripted slice false v u=operate [v,u] (getItem v u)->wpAny (model X.prog X.w) X.A (subscriptTail value slice v u) (EP X pins σ Q) X.xe s
def HM (X:Cx)(id:String)(r:V->List V->Hp->VK->Prop):Prop:=
 ∀(pins:List (Addr×Obj)) (s:Shared) (σ:St) (H:Hp) (x:V) (xs:List V) (v:Value) (us:List Value) (Q:VK),Inv X pins σ H s->RelV x v->Vals xs us->r x xs H Q->
  wpAny (model X.prog X.w) X.A (call (.builtin id) (v :: us)) (EP X pins σ Q) X.xe s
section
variable {X:Cx}{a b:Expr}{ta tb:TE}{pos:Pos}
def zV.or {r r':R2}(h:zV X r)(h':zV X r'):zV X (λx y H Q=>r x y H Q\/r' x y H Q):=by
 intro value slice pins s σ H x y v u Q I rx ry q hs
 rcases q with q |q
 ·exact h value slice pins s σ H x y v u Q I rx ry q hs
 ·exact h' value slice pins s σ H x y v u Q I rx ry q hs
def i6 {r:R2}(hr:zV X r)(ha:PE X a ta)(hb:PE X b tb)(hs:vO b):PE X (.Subscript a b pos) (FG r ta tb):=by
 intro pins s σ H Q I h
 exact Subscript_ (DI ha hb I h λv u s2 x y H2 I2 rx ry q=>hr a b pins s2 σ H2 x y v u Q I2 rx ry q (hs _ _))
def DZ (K:Frag):R2:=λx y H Q=>∃p xs i v,x=.ref p/\y=.int i/\fC K H p xs/\jb xs i=some v/\Q v H
def D8 (K:Frag):R2:=λx y H Q=>∃p xs i v,x=.ref p/\y=.int i/\dA K H p xs/\jb xs i=some v/\Q v H
def Fy:R2:=λx y H Q=>∃z i c,x=.str z/\y=.int i/\z.length<=sizeLine/\jb z.cps.toList i=some c/\Q (.str ⟨#[c]⟩) H
def dQ:zV X (DZ X.K):=by
 intro value slice pins s σ H x y v u Q I rx ry h hs
 obtain⟨p,xs,i,z,rfl,rfl,hq,he,q⟩:=h
 cases rx
 obtain⟨t,rfl⟩:=ry
 obtain⟨its,r,pl,hz⟩:=I.list hq
 obtain⟨j,h1,h2,h3,h4,h5⟩:=pY he
 obtain⟨w,ew,rw'⟩:=r.get h2
 have hl:=r.length
 have hn:=kJ
 have fin:EP X pins σ Q w s:=⟨z,H,I,rw',q⟩
 by_cases h0:0<=i
 ·have hj:i.toNat=j:=by
   rw[seqIndex_of h0 h5] at h1
   exact Option.some.inj h1
  exact item_listR pl.isList h0 (by omega) (by rw[hj];simpa using ew) fin hs
 ·have hj:(i + (its.toArray.size:Int)).toNat=j:=by
   rw[seqIndex_neg (by omega) h4] at h1
   rw[Iq,<-hl]
   exact Option.some.inj h1
  exact subscriptTail_builtinR (x:=w) pl.isList.typeIs slot_list_getitem.lookup
   (wpAny_getItem_list_neg (Q:=λr s'=>r=w/\EP X pins σ Q r s') pl.isList (by omega) (by rw[Iq] <;> omega) (by omega) (by rw[hj];simpa using ew) ⟨rfl,fin⟩) hs
def DP:zV X (D8 X.K):=by
 intro value slice pins s σ H x y v u Q I rx ry h hs
 obtain⟨p,xs,i,z,rfl,rfl,hq,he,q⟩:=h
 cases rx
 obtain⟨t,rfl⟩:=ry
 obtain⟨its,r,pl,hz⟩:=I.tuple hq
 obtain⟨j,h1,h2,h3,h4,h5⟩:=pY he
 obtain⟨w,ew,rw'⟩:=r.get h2
 have hl:=r.length
 have hn:=kJ
 have fin:EP X pins σ Q w s:=⟨z,H,I,rw',q⟩
 exact subscriptTail_builtinR (x:=w) pl.typeIs slot_tuple_getitem.lookup
  (getItem_tuple (j:=j) (Q:=λr s'=>r=w/\EP X pins σ Q r s') pl (by omega) (by omega) (by rw[Iq,<-hl];exact h1) (by simpa using ew) ⟨rfl,fin⟩) hs
def DA:zV X Fy:=by
 intro value slice pins s σ H x y v u Q I rx ry h hs
 obtain⟨z,i,c,rfl,rfl,hz,he,q⟩:=h
 obtain⟨t,rfl⟩:=rx
 obtain⟨t',rfl⟩:=ry
 obtain⟨j,h1,h2,h3,h4,h5⟩:=pY he
 have hl:z.cps.toList.length=z.length:=by simp[Str.length]
 rw[hl] at h1 h4 h5
 have hn:=kJ
 exact tail_any (typeIs_str s z t) slot_str_getitem.lookup (getItem_str (c:=c) (by
  have e1:decide (i < -(2 ^ 63:Int))=false:=Ir (by omega)
  have e2:decide (i>=2 ^ 63)=false:=Ir (by omega)
  rw[e1,e2,Bool.or_false]) (by rw[h1];simpa using h2) ⟨.str ⟨#[c]⟩,H,I.tok _,⟨_,rfl⟩,q⟩) hs
def Hw (K:Frag):R2:=λx y H Q=>DZ K x y H Q\/D8 K x y H Q\/Fy x y H Q
def ba:zV X (Hw X.K):=dQ.or (DP.or DA)
def uK (its:List Value)(n j:Nat)(u:Value):Obj.mapSeq (·.setIfInBounds j u) {cls:=.type "list",data:=.seq its.toArray n}={cls:=.type "list",data:=.seq (its.set j u).toArray n}:=by
 simp[Obj.mapSeq]
def Inv.lst {pins:List (Addr×Obj)}{σ:St}{H:Hp}{s:Shared}{p:Addr}{xs:List V}(I:Inv X pins σ H s)(h:H p=some (.lst xs)) :
  ∃(its:List Value) (n:Nat),Vals xs its/\s.heap.get? p=some {cls:=.type "list",data:=.seq its.toArray n}/\xs.length<=sizeLine:=by
 obtain⟨z,its,n,r,e⟩:=I.hok p _ h
 exact⟨its,n,r,e,z⟩
def Inv.lstUpd {pins:List (Addr×Obj)}{σ:St}{H:Hp}{s:Shared}{p:Addr}{xs ys:List V}{its its':List Value}{n n':Nat}{f:Obj->Obj}(I:Inv X pins σ H s)(h:H p=some (.lst xs))
  (ho:s.heap.get? p=some {cls:=.type "list",data:=.seq its.toArray n}) (hf:f {cls:=.type "list",data:=.seq its.toArray n}={cls:=.type "list",data:=.seq its'.toArray n'}) (r:Vals ys its') (hz:ys.length<=sizeLine) (t:Nat) :
  Inv X pins σ (upd H p (.lst ys)) {s with heap:=s.heap.update p f,toks:=t}:=by
 have e:(s.heap.update p f).get? p=some {cls:=.type "list",data:=.seq its'.toArray n'}:=by
  rw[Jt f ho (by rw[hf] <;> rfl),hf]
 refine I.write (x:=p) (e:=p) (by rw[h];trivial) (.inl rfl) (λb u hb q=>(JA _ _ (Ne.symm hb)).trans q) ⟨_,e⟩ ?_
 exact⟨hz,its',n',r,e⟩
def FE:V->V->V->Hp->(Hp->Prop)->Prop:=λo i v H Q=>∃p xs k j,o=.ref p/\i=.int k/\H p=some (.lst xs)/\xI xs.length k=some j/\Q (upd H p (.lst (xs.set j v)))
def set_list:p5 X FE:=by
 intro pins s σ H o i v ov iv u Q I ro ri rv h
 obtain⟨p,xs,k,j,rfl,rfl,hp,hj,q⟩:=h
 cases ro
 obtain⟨t,rfl⟩:=ri
 obtain⟨its,n,r,ho,hz⟩:=I.lst hp
 obtain⟨h1,h2,h3,h4⟩:=uL hj
 have hl:=r.length
 have hn:=kJ
 have I':Inv X pins σ (upd H p (.lst (xs.set j v))) {s with heap:=s.heap.update p (Obj.mapSeq (·.setIfInBounds j u))}:=
  I.lstUpd hp ho (uK its n j u) (r.set rv j) (by rw[JG];exact hz) s.toks
 by_cases h0:0<=k
 ·have hk:k.toNat=j:=by
   rw[seqIndex_of h0 h4] at h1
   exact Option.some.inj h1
  exact PySem.W.ki_setAt ho h0 (by omega) (by rw[Iq,<-hl];exact h4) (by rw[hk];exact⟨_,I',q⟩)
 ·have hk:(k + (its.toArray.size:Int)).toNat=j:=by
   rw[seqIndex_neg (by omega) h3] at h1
   rw[Iq,<-hl]
   exact Option.some.inj h1
  exact PySem.W.ki_setBack ho (by omega) (by rw[Iq,<-hl];exact h3) (by omega) (by rw[hk];exact⟨_,I',q⟩)
def pE (lo hi:Option Int)(n:Nat):(sliceBounds lo hi none n).1=((HT.cq n 0 lo:Nat):Int)/\(sliceBounds lo hi none n).2.1=((HT.cq n n hi:Nat):Int)/\(sliceBounds lo hi none n).2.2=1:=by
 refine⟨?_,?_,rfl⟩
 ·cases lo with
  |none=>simp[sliceBounds,HT.cq]
  |some i=>
   simp only[sliceBounds,HT.cq,Option.getD_none,show (1:Int) > 0 by decide,Js]
   by_cases h:i < 0
   ·simp only[h,Js] <;> omega
   ·simp only[h,IZ] <;> omega
 ·cases hi with
  |none=>simp[sliceBounds,HT.cq]
  |some i=>
   simp only[sliceBounds,HT.cq,Option.getD_none,show (1:Int) > 0 by decide,Js]
   by_cases h:i < 0
   ·simp only[h,Js] <;> omega
   ·simp only[h,IZ] <;> omega
def nD (its:List Value)(lo hi:Option Int):slicePick its.toArray lo hi none=((its.drop (HT.cq its.length 0 lo)).take (HT.cq its.length its.length hi - HT.cq its.length 0 lo)).toArray:=by
 obtain⟨h1,h2,h3⟩:=pE lo hi its.toArray.size
 unfold slicePick
 rw[h1,h2,h3]
 simp only[sliceRange_one,pick_run,Iq] <;> rfl
def Gm (K:Frag):V->Option Int->Option Int->Hp->VK->Prop:=λx lo hi H Q=>∃a xs,x=.ref a/\fC K H a xs/\∀p,H p=none->Q (.ref p) (upd H p (.lst (nW xs lo hi)))
def FW:Gf X (Gm X.K):=by
 intro pins s σ H x v vl vu lo hi sl Q I rx hs pl pu h
 obtain⟨a,xs,rfl,hx,q⟩:=h
 cases rx
 obtain⟨its,r,ht,hz⟩:=I.list hx
 have hlen:=r.length
 refine⟨"list",_,slot_list_getitem.lookup,ht.isList.typeIs,?_⟩
 refine wpAny_getItem_list_slice ht.isList hs pl pu .none (by simp) ?_ (by rw[Iq] <;> omega)
 rw[nD,<-hlen]
 refine⟨.ref s.heap.objs.size,_,I.laid (t':=s.toks) (o:=.lst (nW xs lo hi)) (λb ob q=>Ia _ q) (HX _) ?_,rfl,q _ (I.hok.fresh (HX _))⟩
 exact⟨Ji (lj xs lo hi) hz,_,0,(r.drop (HT.cq xs.length 0 lo)).take (HT.cq xs.length xs.length hi - HT.cq xs.length 0 lo),IB _ rfl⟩
def gS:b9 X (.type "list") (λxs H Q=>∃p ys,xs= [.ref p]/\(fC X.K H p ys\/dA X.K H p ys)/\∀l,H l=none->Q (.ref l) (upd H l (.lst ys))):=by
 intro pins s σ H xs us Q I r h
 obtain⟨p,ys,rfl,hq,q⟩:=h
 obtain⟨u,rfl,rx⟩:=vals1 r
 cases rx
 have fin:∀(its:List Value),Vals ys its->ys.length<=sizeLine->∀(h':Heap) (c':Nat),(∀b o',s.heap.get? b=some o'->h'.get? b=some o')->
   h'.get? s.heap.objs.size=some {cls:=.type "list",dict:=none,data:=.seq its.toArray c',slots:=#[]}->EP X pins σ Q (.ref s.heap.objs.size) {s with heap:=h'}:=λits r' hz h' c' kp e=>
  ⟨.ref s.heap.objs.size,_,I.laid (t':=s.toks) kp (HX _) (show bw X.prog X.w _ h' _ (.lst ys) from⟨hz,its,c',r',e⟩),rfl,q _ (I.hok.fresh (HX _))⟩
 rcases hq with hq |hq
 ·obtain⟨its,r',pl,hz⟩:=I.list hq
  have hlen:=r'.length
  obtain⟨o,ho,hc,n,hd⟩:=pl.isList
  exact call_list_seq p (.inl rfl) ho hc hd (λh' c' kp e=>fin its r' hz h' c' kp e) (by simp only[Iq] <;> omega)
 ·obtain⟨its,r',pl,hz⟩:=I.tuple hq
  have hlen:=r'.length
  obtain⟨o,ho,hc,n,hd⟩:=pl
  exact call_list_seq p (.inr rfl) ho hc hd (λh' c' kp e=>fin its r' hz h' c' kp e) (by simp only[Iq] <;> omega)
def ja:b9 X (.type "tuple") (λxs H Q=>∃p ys,xs= [.ref p]/\((fC X.K H p ys/\∀l,H l=none->Q (.ref l) (upd H l (.tup ys)))\/(dA X.K H p ys/\Q (.ref p) H))):=by
 intro pins s σ H xs us Q I r h
 obtain⟨p,ys,rfl,h⟩:=h
 obtain⟨u,rfl,rx⟩:=vals1 r
 cases rx
 rcases h with⟨hq,q⟩ | ⟨hq,q⟩
 ·obtain⟨its,r',pl,hz⟩:=I.list hq
  have hlen:=r'.length
  refine call_tuple_list pl.isList (λh' kp=>?_) (by simp only[Iq] <;> omega)
  have I1:Inv X pins σ H {s with heap:=h'}:=I.kept (t':=s.toks) kp
  have I2:Inv X pins σ (upd H h'.objs.size (.tup ys)) {s with heap:=h'.push {cls:=.type "tuple",data:=.seq its.toArray}}:=
   I1.laid (t':=s.toks) (λb o e=>Ia _ e) (HX _) (show bw X.prog X.w _ _ _ (.tup ys) from⟨hz,its,r',nR.new _ _⟩)
  exact⟨.ref h'.objs.size,_,I2,rfl,q _ (I1.hok.fresh (HX _))⟩
 ·obtain⟨its,r',pl,hz⟩:=I.tuple hq
  exact call_tuple_same pl ⟨.ref p,H,I,rfl,q⟩
def Hz (K:Frag)(T:String)(x:V)(H:Hp):Prop:=match x with
 | .str _=>T="str"
 | .int _=>T="int"
 | .ref p=>(T="list"/\∃xs,fC K H p xs)\/(T="tuple"/\∃o,K.lookup p=some o/\o.cls=.type "tuple"/\o.dict=none)\/
   (T="dict"/\((∃kvs,H p=some (.dK kvs))\/∃kvs ep,H p=some (.dT kvs ep)))\/(T="set"/\∃S n,H p=some (.set S n))
 |_=>False
theorem CW {pins:List (Addr×Obj)}{σ:St}{H:Hp}{s:Shared}{T:String}{x:V}{v:Value}(I:Inv X pins σ H s)(r:RelV x v)(ty:Hz X.K T x H) :
  s.TypeIs v T/\∀a,v=.ref a->∃ob,s.heap.get? a=some ob/\ob.dict=none:=by
 cases x with
 |str z=>
  obtain⟨t,rfl⟩:=r
  cases (show T="str" from ty)
  exact⟨typeIs_str s z t,λ_ e=>nomatch e⟩
 |int i=>
  obtain⟨t,rfl⟩:=r
  cases (show T="int" from ty)
  exact⟨typeIs_int s i t,λ_ e=>nomatch e⟩
 |ref p=>
  cases r
  rcases ty with⟨rfl,xs,hq⟩ | ⟨rfl,o,hk,hc,hd⟩ | ⟨rfl,hk⟩ | ⟨rfl,S,n,hk⟩
  ·obtain⟨its,_,pl,_⟩:=I.list hq
   refine⟨pl.isList.typeIs,λa e=>?_⟩
   cases e
   obtain⟨o,n,e,c,hd,_⟩:=pl
   exact⟨o,e,hd⟩
  ·refine⟨⟨o,I.kIn p o hk,hc⟩,λa e=>?_⟩
   cases e
   exact⟨o,I.kIn _ o hk,hd⟩
  ·have z:∃o,s.heap.get? p=some o/\o.ExactDict:=by
    rcases hk with⟨kvs,hk⟩ | ⟨kvs,_,hk⟩
    ·obtain⟨_,_,_,_,o,_,_,e,ex,_⟩:=I.hok p _ hk
     exact⟨o,e,ex⟩
    ·obtain⟨_,_,_,_,o,_,e,ex,_⟩:=I.hok p _ hk
     exact⟨o,e,ex⟩
   obtain⟨o,e,ex⟩:=z
   refine⟨⟨o,e,ex.1⟩,λa e2=>?_⟩
   cases e2
   exact⟨o,e,ex.2.1⟩
  ·obtain⟨o,_,_,_,e,ex,_⟩:=I.hok p _ hk
   refine⟨⟨o,e,ex.1⟩,λa e2=>?_⟩
   cases e2
   exact⟨o,e,ex.2.1⟩
 |_=>exact False.elim ty
def HC (K:Frag)(T:String)(r:V->List V->Hp->VK->Prop)(to:TE)(t:TA):TE:=λσ H Q=>to σ H λx H1=>Hz K T x H1/\t σ H1 λxs H2=>r x xs H2 Q
variable {o e:Expr}{es:List Expr}{to:TE}{t:TA}{name:Str}{apos cpos:Pos}{T id:String}{r:V->List V->Hp->VK->Prop}
def zM (pa:PlainAttrs T)(slot:Slot T name id)(hty:typeOf (.builtin id)=pure (.type "method_descriptor"))(hm:HM X id r)(ho:PE X o to)(ha:PA X (e :: es) t)
  (hbase:attributeBase o name X.env (eval o X.env)=eval o X.env:=by rfl)
  (hfew:((backTo cpos (starEach (e :: es) X.env)).all (λx=> !x.1) && (backToKw cpos (keywordEach [] X.env)).all (λx=>x.1.isSome)
   && decide ((e :: es).length + ([]:List Keyword).length + (if ([]:List Keyword).isEmpty then 0 else 1) < 30))=true:=by rfl)
  (hline:(apos.endLine == cpos.line)=true:=by rfl) (hs:starEach (e :: es) X.env=(false,eval e X.env) :: starEach es X.env:=by rfl) (hplain:(backTo cpos (starEach es X.env)).any (·.1)=false:=by rfl) :
  PE X (.Call (.Attribute o name apos) (e :: es) [] cpos) (HC X.K T r to t):=by
 intro pins s σ H Q I h
 refine wpAny_Call_method_late hbase hfew hline rfl (bP (ho pins s σ H _ I h) λv s1 ⟨x,H1,I1,r1,ty,q1⟩=>?_)
 obtain⟨h1,h2⟩:=CW I1 r1 ty
 refine⟨T,id,pa,slot,hty,h1,h2,?_⟩
 have hA:=ha cpos pins s1 σ H1 _ I1 q1
 rw[hs] at hA ⊢
 refine Calls.callWith_builtin (by show (false || (backTo cpos (starEach es X.env)).any (·.1))=false;rw[hplain] <;> rfl) (Calls.evalArgs_plain ?_)
 exact bP hA λus s2 ⟨vs,H2,I2,r2,q2⟩=>hm pins s2 σ H2 x vs v us Q I2 r1 r2 q2
end
def Ho (X:Cx)(id:String)(r:V->List V->Hp->VK->Prop):Prop:=
 ∀(pins:List (Addr×Obj)) (s:Shared) (σ:St) (H:Hp) (x:V) (xs:List V) (v:Value) (us:List Value) (Q:VK),Inv X pins σ H s->RelV x v->Vals xs us->r x xs H Q->
  wpAny (model X.prog X.w) X.A (call (.builtin id) (v :: us)) (EP X pins σ Q) X.xe s
theorem Vals.one:∀{x:V} {us:List Value},Vals [x] us->∃u,us= [u]/\RelV x u
 |_,_,.cons r .nil=>⟨_,rfl,r⟩
theorem Vals.eraseIdx:∀{xs:List V} {us:List Value} (i:Nat),Vals xs us->Vals (xs.eraseIdx i) (us.eraseIdx i)
 |_,_,_,.nil=>.nil
 |_,_,0,.cons _ t=>t
 |_,_,i + 1,.cons r t=>.cons r (Vals.eraseIdx i t)
theorem Vals.reverse {xs:List V}{us:List Value}(h:Vals xs us):Vals xs.reverse us.reverse:=by
 induction h with
 |nil=>exact .nil
 |cons r t ih=>rw[Lf,Lf];exact Vals.append ih (.cons r .nil)
theorem Vals.rep {xs:List V}{us:List Value}(h:Vals xs us):∀k:Nat,Vals (List.replicate k xs).flatten (List.replicate k us).flatten
 | 0=>.nil
 |k + 1=>by
  rw[Kr,Kr,Lg,Lg]
  exact Vals.append h (Vals.rep h k)
theorem om {α:Type}:∀(l:List α) (i:Nat),(l.eraseIdx i).length<=l.length
 | [],_=>HX _
 |_ :: _,0=>Nat.le_succ _
 |_ :: r,i + 1=>Nat.succ_le_succ (om r i)
theorem foldl_rep (its:List Value):∀(k:Nat) (acc:List Value),
  List.foldl (λx1 x2=>x1 ++ x2) acc.toArray (List.replicate k its.toArray)=(acc ++ (List.replicate k its).flatten).toArray
 | 0,acc=>by simp
 |k + 1,acc=>by
  have e:acc.toArray ++ its.toArray=(acc ++ its).toArray:=by simp
  have e2:(acc ++ its) ++ (List.replicate k its).flatten=acc ++ (List.replicate (k + 1) its).flatten:=by
   rw[Kr,Lg,IK]
  rw[<-e2,<-foldl_rep its k (acc ++ its),<-e,Kr,K0]
section
variable {X:Cx}{pins:List (Addr×Obj)}{σ:St}{H:Hp}{s:Shared}{l b:Addr}{xs ys zs:List V}
def Inv.lset {its its':List Value}{n:Nat}{f:Array Value->Array Value}{t':Nat}(I:Inv X pins σ H s)(hH:H l=some (.lst xs))
  (e:s.heap.get? l=some {cls:=.type "list",data:=.seq its.toArray n}) (hf:f its.toArray=its'.toArray) (hv:Vals ys its') (hz:ys.length<=sizeLine) :
  Inv X pins σ (upd H l (.lst ys)) {s with heap:=s.heap.update l (Obj.mapSeq f),toks:=t'}:=by
 have q:=PySem.IsL.update e f
 rw[hf] at q
 refine I.write (x:=l) (e:=l) (by rw[hH];exact trivial) (.inl rfl) (λb' u hb hu=>(JA s.heap (Obj.mapSeq f) (Ne.symm hb)).trans hu) ⟨_,q⟩ ?_
 exact⟨hz,its',_,hv,q⟩
def Inv.lnew {its:List Value}{t':Nat}(I:Inv X pins σ H s)(hv:Vals ys its)(hz:ys.length<=sizeLine) :
  Inv X pins σ (upd H s.heap.objs.size (.lst ys)) {s with heap:=s.heap.push {cls:=.type "list",data:=.seq its.toArray},toks:=t'}:=
 I.laid (λ_ _ q=>Ia _ q) (HX _) ⟨hz,its,0,hv,IB _ rfl⟩
def Inv.fresh (I:Inv X pins σ H s):H s.heap.objs.size=none:=I.hok.fresh (HX _)
def Inv.lstM (I:Inv X pins σ H s)(hH:H l=some (.lst xs)):xs.length<=sizeLine/\∃(its:List Value) (n:Nat),Vals xs its/\xs.length=its.length/\s.heap.get? l=some {cls:=.type "list",data:=.seq its.toArray n}:=by
 obtain⟨z,its,n,r,e⟩:=I.hok l _ hH
 exact⟨z,its,n,r,r.length,e⟩
def yY {n:Nat}(h:n<=sizeLine):Builtin.List.listTooLong n=false:=by
 unfold Builtin.List.listTooLong
 exact Ir (by omega)
end
section
variable {X:Cx}
def A1:V->List V->Hp->VK->Prop:=λx vs H Q=>∃l xs y,x=.ref l/\vs= [y]/\H l=some (.lst xs)/\xs.length < sizeLine/\Q .non (upd H l (.lst (xs ++ [y])))
def ko:Ho X "list.append" A1:=by
 intro pins s σ H x vs v us Q I rx rv h
 obtain⟨l,xs,y,rfl,rfl,hH,hz,q⟩:=h
 cases rx
 obtain⟨u,rfl,ru⟩:=rv.one
 obtain⟨z,its,n,r,hl,e⟩:=I.lstM hH
 refine call_meets F.slot_list_append ⟨_,e,rfl⟩ F.entry_list_append (F.args_list_append_2 _ _) (PySem.list_append l its.toArray n u (by rw[Iq];omega)) ⟨e,?_⟩
 refine⟨.non,_,I.lset (its':=its ++ [u]) hH e (by simp) (r.append (.cons ru .nil)) ?_,rfl,q⟩
 rw[IQ,List.length_singleton]
 omega
def DL:V->List V->Hp->VK->Prop:=λx vs H Q=>∃l xs i k y,x=.ref l/\vs= [.int i]/\H l=some (.lst xs)/\ -(2 ^ 63)<=i/\i < 2 ^ 63/\seqIndex? i xs.length=some k/\xs[k]? =some y/\Q y (upd H l (.lst (xs.eraseIdx k)))
def yI:Ho X "list.pop" DL:=by
 intro pins s σ H x vs v us Q I rx rv h
 obtain⟨l,xs,i,k,y,rfl,rfl,hH,h1,h2,hk,hy,q⟩:=h
 cases rx
 obtain⟨u,rfl,ru⟩:=rv.one
 obtain⟨t,rfl⟩:=ru
 obtain⟨z,its,n,r,hl,e⟩:=I.lstM hH
 obtain⟨w,hw,rw'⟩:=r.get hy
 refine call_meets F.slot_list_pop ⟨_,e,rfl⟩ F.entry_list_pop (F.args_list_pop_2 _ _)
  (MeetsSeq.list_pop_at l its.toArray n i t k w (fitsIndex_both h1 h2) (by rw[Iq,<-hl];exact hk) (by rw[<-Jc];exact hw) (by rw[Iq];omega)) ⟨e,?_⟩
 refine⟨y,_,I.lset (its':=its.eraseIdx k) hH e ?_ (r.eraseIdx k) ?_,rw',q⟩
 ·show its.toArray.eraseIdxIfInBounds k=(its.eraseIdx k).toArray
  rw[List.eraseIdxIfInBounds_toArray]
 ·have:=om xs k
  omega
def GJ:R2:=λx y H Q=>∃l k xs,x=.ref l/\y=.int k/\H l=some (.lst xs)/\ -(2 ^ 63)<=k/\k < 2 ^ 63/\xs.length * k.toNat<=sizeLine/\
 ∀p,H p=none->Q (.ref p) (upd H p (.lst (List.replicate k.toNat xs).flatten))
theorem len_rep {α:Type}(xs:List α)(k:Nat):(List.replicate k xs).flatten.length=k * xs.length:=by
 induction k with
 |zero=>simp
 |succ k ih=>rw[Kr,Lg,IQ,ih,Nat.succ_mul,Nat.add_comm]
def Du:iZ X (binaryOp .Mult) GJ:=by
 intro pins s σ H x y v u Q I rx ry h
 obtain⟨l,k,xs,rfl,rfl,hH,h1,h2,hz,q⟩:=h
 cases rx
 obtain⟨t,rfl⟩:=ry
 obtain⟨z,its,n,r,hl,e⟩:=I.lstM hH
 have hlen:its.toArray.size * k.toNat<=sizeLine:=by rw[Iq,<-hl];exact hz
 have hcap:¬its.toArray.size * k.toNat > (2 ^ 63 - 1) / 8:=by
  have:(sizeLine:Nat)<=(2 ^ 63 - 1) / 8:=by decide
  omega
 have hfit:¬(!Builtin.List.listFitsIndex k)=true:=by
  rw[fitsIndex_both h1 h2]
  exact IG
 have hlong:¬Builtin.List.listTooLong (its.toArray.size * k.toNat)=true:=by
  rw[yY hlen]
  exact IG
 have hnew:List.foldl (λx1 x2=>x1 ++ x2) #[] (List.replicate (if its.toArray.isEmpty=true then 0 else k.toNat) its.toArray)=(List.replicate k.toNat its).flatten.toArray:=by
  have f0:∀m:Nat,List.foldl (λx1 x2=>x1 ++ x2) #[] (List.replicate m its.toArray)=(List.replicate m its).flatten.toArray:=λm=>by
   have:=foldl_rep its m []
   rw[List.nil_append] at this
   exact this
  rw[f0]
  cases its with
  |nil=>simp
  |cons a r'=>rw[HY (by simp)]
 refine wpAny_binaryOp_repeat_ref (T:="list") (U:="int") (by decide) ⟨_,e,rfl⟩ (λs'=>typeIs_int s' k t) noFill_list_mul F.fills_int_mul F.slot_int_rmul repeat_list F.slot_int_index.lookup
  (call_meets F.slot_int_rmul (typeIs_int s k t) F.entry_int_rmul (F.args_int_rmul_2 _ _) (int___rmul___int_list k t l its.toArray n)
   ⟨e,rfl,⟨_,e,rfl⟩,call_meets F.slot_list_mul ⟨_,e,rfl⟩ F.entry_list_mul (F.args_list_mul_2 _ _) (AutoListH.list___mul___list_int_3 l its.toArray n k t hfit hcap hlong) ⟨e,?_⟩⟩)
 rw[hnew]
 exact⟨.ref _,_,I.lnew (t':=s.toks) (r.rep k.toNat) (by rw[len_rep,Nat.mul_comm];exact hz),rfl,q _ I.fresh⟩
end
end L2
namespace Att
open PySem PySem.W PySem.Calls PyProof.Rows
theorem lE {P:Params}{h:Heap}:∀(ns:List Int) (vs:List Value),WellAll P h vs (ns.map WData.int)->IntsAre vs ns:=by
 intro ns
 induction ns with
 |nil=>
  intro vs w
  rw[List.map_nil] at w
  cases w
  exact .nil
 |cons n ns ih=>
  intro vs w
  rw[Jp] at w
  cases w with
  |cons a b=>
   cases a
   exact .cons _ _ (ih _ b)
theorem xk {l:OpenLaw}{n:Nat}(hn:l.most=some n){P:Params}{h:Heap}{args:List WData}{vals:List Value}
  (hpre:l.row.toRowW.claim.pre args=true) (hwl:WellAll P h vals args) :
  ∃a vs ns,vals= [Value.ref a]/\args= [WData.list (ns.map WData.int)]/\h.get? a=some {cls:=.type "list",data:=.seq vs.toArray}/\IntsAre vs ns/\ns.length<=n:=by
 have hsh:WShape.hasAll [] args [.list .int]=true:=(pre_splitW hpre).1
 have hc:l.pre.holds [] {args:=args}=true:=(pre_splitW hpre).2
 obtain⟨d,r,rfl,h1,h2⟩:=hasAllW_cons hsh
 obtain rfl:=hasAllW_nil h2
 obtain⟨xs,rfl,h3⟩:=hasW_list h1
 obtain⟨ns,rfl⟩:=items_int h3
 have hlen:ns.length<=n:=by
  unfold OpenLaw.pre at hc
  have h4:(WTm.not (.lt (.lit (.int (n:Int))) (.len (.arg 0)))).holds [] {args:=[.list (ns.map .int)]}=true:=by
   have h4:=(holds_andW hc).1
   rw[hn] at h4
   exact h4
  have h5:=condW_of h4 (w_not (w_lt w_lit (w_len_list (w_arg rfl))))
  rw[IC] at h5
  refine Nat.le_of_not_lt λq=>?_
  have q':(n:Int) < ((ns.length:Nat):Int):=by omega
  first
   | (rw[Ik q'] at h5;exact absurd h5 (by decide))
   | (simp at h5;omega)
 cases hwl with
 |cons w1 w2=>
  cases w2
  cases w1 with
  |list ho hall=>exact⟨_,_,ns,rfl,rfl,ho,lE ns _ hall,hlen⟩
def wz (l:OpenLaw)(args:List WData):l.row.toRowW.claim.post args (.bool true) args=true:=
 postW_of (r:=l.row.toRowW) (X:=(true == true))
  (show WShape.has [] (.bool true) .bool=true by first |rfl |decide |simp[WShape.has,WShape.arms,WShape.armsAll])
  (show (WTm.eq .res (.lit (.bool true))).value [] {args:=args,res:=some (.bool true),after:=args}=some (.bool (true == true)) from w_eq_bool (w_res rfl) w_lit) rfl
def ra {l:OpenLaw}{n:Nat}{q:Program}{loose:List Str}{XP:(Str->Option Value)->Heap->Prop}{YP:World->Heap->Prop}{d:DefRec}
  (hn:l.most=some n) (hdf:d.params.defaults= [])
  (call:∀(w:World) (s₀ s₁:Shared) (mg mb:Str->Option Value) (fa:Addr) (o:Obj) (pm cd doc:Value) (a:Addr) (vs:List Value) (ns:List Int),
   Ground q loose [] XP w s₀ mg mb s₁.heap->YP w s₁.heap->
   s₁.heap.get? fa=some o->o.data=.func (docDef d.name d.params d.body d.scope pm cd doc)->s₁.heap.CodeRec cd d.name->mg d.name=some (.ref fa)->
   s₁.heap.get? a=some {cls:=.type "list",data:=.seq vs.toArray}->IntsAre vs ns->ns.length<=n->s₁.gens=#[]->
   codeAny (model l.prog w) callerA (.call (.ref fa) ⟨[.ref a],[]⟩) (λr s'=>r=.ok (.ret (.bool true))/\OldK s₁.heap s'.heap/\s'.os=s₁.os/\AllBare s'.gens) s₁) :
  WalkO q loose XP YP l.row.toRowW d [] (λf vs=>PySem.call f vs):=by
 intro w s₀ s₁ mg mb G Y fa o pm cd doc dV kV ho hd hcd hD hmg hg args vals as hpre hlay hrd hwl hlo
 obtain rfl:dV=.none:=Dflts.none hD hdf
 obtain rfl:kV=.none:=Dflts.noKw hD
 obtain⟨a,vs,ns,rfl,rfl,hobj,hints,hlen⟩:=xk hn hpre hwl
 refine enter_call (K2 (call w s₀ s₁ mg mb fa o pm cd doc a vs ns G Y ho (fd_plain hd) hcd hmg hobj hints hlen hg) λr s' hq=>?_)
 obtain⟨rfl,h2,h3,h4⟩:=hq
 exact⟨.inl ⟨.bool true,.bool true,[],rfl,λ_=>rfl,.bool true,wz l _,λ_=>⟨List.Pairwise.nil,λ_ hm=>(nomatch hm)⟩⟩,h2,h3,h4⟩
end Att
namespace L2
open PySem PySem.Spec PyProof.Rows
theorem n9:∀{vs:List Value} {ns:List Int},IntsAre vs ns->Vals (ns.map V.int) vs
 |_,_,.nil=>.nil
 |_,_,.cons n t h=>.cons ⟨t,rfl⟩ (n9 h)
def CD (H:Hp):Prop:=∀b,H b=none\/∃o xs,H b=some (.aO o (.lst xs))
theorem yj {P:Program}{w:World}{K:Frag}{mg mb:Str->Option Value}{CX:w9}{k:Nat}{fa a:Addr}{fd:FuncData}{x:Str}{sp:Sp}{s₁:Shared}{vs:List Value}{ns:List Int}
  (KX:K.In s₁.heap) (hns:s₁.heap.Ns mainGlobals mg) (hb:s₁.heap.Ns builtinsNs mb) (hbb:∀x:Str,x≠"__name__"->mb x=bootBuiltins x) (hlim:s₁.heap.NoLimit) (hsys:∃mm,s₁.heap.Ns sysModules mm) (hg:s₁.gens=#[])
  (ha:s₁.heap.get? a=some {cls:=.type "list",data:=.seq vs.toArray}) (hi:IntsAre vs ns) (hl:ns.length<=sizeLine) (hr:dD k callerA)
  (F:∀base:Heap,K.In base->base.Ns mainGlobals mg->dw P w K mg base CX k fa fd [x] sp) (hbind:∀(s:Shared) (u:Value),BindsTo s fd ⟨[u],[]⟩ [(x,u)])
  (hsp:∀H:Hp,CD H->fC K H a (ns.map V.int)->sp [.ref a] H (λv _=>v=.bl true) λ_ _ _=>False)
  (hCX:∀H e s',CX [] H s₁ (λ_ _ _=>False) e s'->False) :
  codeAny (model P w) callerA (.call (.ref fa) ⟨[.ref a],[]⟩) (λr s'=>r=.ok (.ret (.bool true))/\OldK s₁.heap s'.heap/\s'.os=s₁.os/\AllBare s'.gens) s₁:=by
 have rv:=n9 hi
 have lenV:=hi.length
 have core:∀H:Hp,CD H->fC K H a (ns.map V.int)->je P w H s₁.heap->(∀b,H b≠none->b=a)->(H a≠none->K.lookup a=none)->
   codeAny (model P w) callerA (.call (.ref fa) ⟨[.ref a],[]⟩) (λr s'=>r=.ok (.ret (.bool true))/\OldK s₁.heap s'.heap/\s'.os=s₁.os/\AllBare s'.gens) s₁:=by
  intro H hO hS hok hA hK
  have base_of:∀{b:Addr} {o:Obj},s₁.heap.get? b=some o->H b=none->(oZ s₁.heap H).get? b=some o:=λe n=>zT e n
  have noA:∀{b:Addr} {o:Obj} {es:Array DictEntry} {ep:Nat},s₁.heap.get? b=some o->o.data=.dict es ep->H b=none:=λ{b o es ep} e d=>by
   cases q:H b with
   |none=>rfl
   |some u=>
    have e':b=a:=hA b (by rw[q];simp)
    subst e'
    rw[ha] at e;cases e
    have d':Data.seq vs.toArray _=Data.dict es ep:=d
    cases d'
  have nsK:∀{b:Addr} {m:Str->Option Value},s₁.heap.Ns b m->(oZ s₁.heap H).Ns b m:=λ{b m} ⟨o,es,ep,e,d,r⟩=>⟨o,es,ep,base_of e (noA e d),d,r⟩
  have hKb:K.In (oZ s₁.heap H):=λb o e=>base_of (KX b o e) (by
   cases q:H b with
   |none=>rfl
   |some u=>
    have e':b=a:=hA b (by rw[q];simp)
    subst e'
    rw[hK (by rw[q];simp)] at e;cases e)
  have hM:Mod K mg (oZ s₁.heap H):=⟨hKb,nsK hns,⟨mb,nsK hb,hbb⟩,let ⟨mc,h1,h2⟩:=hlim;⟨mc,nsK h1,h2⟩,let ⟨mm,h1⟩:=hsys;⟨mm,nsK h1⟩⟩
  have e0:Ac P w K mg (oZ s₁.heap H) callerA [] s₁ H:=⟨rfl,hM,λb o e=>BD e,Nat.le_of_eq (wH _ _),trivial,λb hb=>absurd (show b∈([]:List Addr) from hb) (by simp),hok,.of_eq hg⟩
  refine K2 ((F _ hKb (nsK hns)).run callerA [] s₁ H ⟨[.ref a],[]⟩ [.ref a] [.ref a] _ _ hr e0 (hbind s₁ (.ref a)) (.cons rfl .nil) (hsp H hO hS)) λr s' h=>?_
  cases r with
  |error e=>exact (hCX H e s' h).elim
  |ok fl=>
   cases fl with
   |next=>exact False.elim h
   |brk=>exact False.elim h
   |cont=>exact False.elim h
   |ret u=>
    obtain⟨v,H',os,bare,un,hok',r',q⟩:=h
    have q':v=.bl true:=q
    subst q'
    obtain rfl:u=Value.bool true:=r'
    refine⟨rfl,OldK.of_keep λb o e=>?_,os,bare⟩
    cases q:H b with
    |none=>exact un.keep b o e q (by intro z;exact absurd (show b∈([]:List Addr) from z) (by simp)) (by simp)
    |some u=>
     rcases hO b with z | ⟨ob,xs,z⟩
     ·rw[q] at z;cases z
     ·have z2:=un.frzs b ob _ z
      obtain⟨e1,_⟩:=hok b _ z
      obtain⟨e2,_⟩:=hok' b _ z2
      rw[e] at e1;cases e1
      exact e2
 cases hk:K.lookup a with
 |some o=>
  have e:=KX a o hk
  rw[ha] at e
  cases e
  refine core (λ_=>none) (λ_=>.inl rfl) (.inr ⟨_,vs.toArray,_,hk,rfl,rfl,rfl,by rw[Iq,lenV];exact hl,by simpa using rv⟩) (λb u z=>by have z':(none:Option HO)=some u:=z;cases z') (λb z=>absurd rfl z) λz=>absurd rfl z
 |none=>
  refine core (λb=>if b=a then some (.aO {cls:=.type "list",data:=.seq vs.toArray} (.lst (ns.map V.int))) else none) (λb=>?_) (.inl (.inr ⟨{cls:=.type "list",data:=.seq vs.toArray},HV rfl⟩)) (λb u z=>?_) (λb z=>?_) λ_=>hk
  ·by_cases hb:b=a
   ·exact .inr ⟨_,_,HV hb⟩
   ·exact .inl (HY hb)
  ·by_cases hb:b=a
   ·have z':=(HV hb).symm.trans z
    cases z'
    subst hb
    exact⟨ha,by rw[IC];exact hl,vs,_,rv,ha⟩
   ·have z':=(HY hb).symm.trans z
    cases z'
  ·by_cases hb:b=a
   ·exact hb
   ·exact absurd (HY hb) z
def Bn {l:PySem.W.OpenLaw}{n k:Nat}{q:Program}{loose:List Str}{XP:(Str->Option Value)->Heap->Prop}{YP:World->Heap->Prop}{d:DefRec}{K:Params->Frag}{CX:World->w9}{sp:World->Sp}{x:Str}
  (hn:l.most=some n) (hn2:n<=sizeLine) (hdf:d.params.defaults= []) (hi:PyProof.Rows.importsNone q=true) (hr:dD k callerA)
  (hY:∀(w:World) (h:Heap),YP w h->(K w.params).In h)
  (F:∀(w:World) (mg:Str->Option Value) (fa:Addr) (h:Heap),(K w.params).In h->h.Ns mainGlobals mg->mg d.name=some (.ref fa)->
   ∃fd:FuncData,(∀(s:Shared) (u:Value),BindsTo s fd ⟨[u],[]⟩ [(x,u)])/\
    ∀base:Heap,(K w.params).In base->base.Ns mainGlobals mg->dw l.prog w (K w.params) mg base (CX w) k fa fd [x] (sp w))
  (hsp:∀(w:World) (H:Hp) (a:Addr) (ns:List Int),ns.length<=n->CD H->fC (K w.params) H a (ns.map V.int)->sp w [.ref a] H (λv _=>v=.bl true) λ_ _ _=>False)
  (hCX:∀(w:World) (H:Hp) (s:Shared) (e:Value) (s':Shared),CX w [] H s (λ_ _ _=>False) e s'->False) :
  PySem.W.WalkO q loose XP YP l.row.toRowW d [] (λf vs=>PySem.call f vs):=by
 refine Att.ra hn hdf λw s₀ s₁ mg mb fa o pm cd doc a vs ns G Y ho hd hcd hmg hobj hints hlen hg=>?_
 have KX:=hY w _ Y
 obtain⟨fd,hb,hF⟩:=F w mg fa _ KX G.T.g hmg
 exact yj KX G.T.g G.T.b G.T.builtins G.T.nolimit (let ⟨mm,h1,_⟩:=(G.T.seer hi).mods;⟨mm,h1⟩) hg hobj hints (Ji hlen hn2) hr hF hb (λH hO hS=>hsp w H a ns hlen hO hS) λH e s'=>hCX w H s₁ e s'
def fq (s:Stmt):Arguments:=match s with
 | .FunctionDef _ a _ _ _ _ _ _ _ _=>a
 |_=>{posonlyargs:=[],args:=[],vararg:=none,kwonlyargs:=[],kw_defaults:=[],kwarg:=none,defaults:=[]}
def bY (s:Stmt):List Stmt:=match s with
 | .FunctionDef _ _ b _ _ _ _ _ _ _=>b
 |_=>[]
def av (s:Stmt):Scope:=match s with
 | .FunctionDef _ _ _ _ _ _ sc _ _ _=>sc
 |_=>{kind:=.function,names:=[],isGenerator:=false,isCoroutine:=false}
abbrev Dr:w9:=λ_ _ _ _ _ _=>False
abbrev E0:XK:=λ_ _ _=>False
def EZ {X:Cx}:Passes Dr X E0:=λ_ _ _ _ _ _ _ h=>h.elim
structure z5 (K:Frag)(x qual:Str)(st:Stmt)(f:Addr)(fd:FuncData):Prop where
 ex:∃(oc:Value) (od:Option Addr) (kV doc pm:Value) (an:Option Addr) (cdv ct:Value) (osl:Array (Option Value)),
  fd=PySem.W.fnOf x qual (fq st) (bY st) (av st) .none kV doc pm an cdv ct/\K.lookup f=some ⟨oc,od,.func fd,osl⟩/\PySem.W.codeIn K cdv qual=true
 kp:PySem.W.keepIn K (.ref f)=true
section
variable {P:Program}{w:World}{K:Frag}{mg:Str->Option Value}{base:Heap}
def z5.ok {x qual:Str}{st:Stmt}{f:Addr}{fd:FuncData}{N ps:List Str}{k:Nat}{sp:Sp}(F:z5 K x qual st f fd)(S:aK N ps (av st))(len:∀vs H Q E,sp vs H Q E->vs.length=ps.length)
  (hbody:∀(cdv:Value) (A:Around) (outer:List Env) (s:Shared) (H:Hp) (vs:List V) (Q:VK) (E:XK),dD k (A.deeper (envOfC qual (av st) s.heap.objs.size f cdv))->sp vs H Q E->
   ∃t,ou (nX Dr P w K mg base N qual (av st) f cdv A outer s H E).nox (bY st) t/\t {nx:=λ_ H'=>Q .non H',rt:=Q} (start N vs) H):dw P w K mg base Dr (k + 1) f fd ps sp:=by
 obtain⟨oc,od,kV,doc,pm,an,cdv,ct,osl,rfl,lk,hcd⟩:=F.ex
 refine Ca lk hcd S len λA outer s H vs Q E hr hsp=>?_
 obtain⟨t,h,q⟩:=hbody cdv A outer s H vs Q E hr hsp
 exact⟨t,h.nox,q⟩
def z5.binds {x qual:Str}{st:Stmt}{f:Addr}{fd:FuncData}{ps:List Str}(F:z5 K x qual st f fd)
  (h:∀(kV doc pm:Value) (an:Option Addr) (cdv ct:Value) (us:List Value),us.length=ps.length->bindArgs (PySem.W.fnOf x qual (fq st) (bY st) (av st) .none kV doc pm an cdv ct) ⟨us,[]⟩=pure (ps.zip us)):Binds K fd ps []:=by
 obtain⟨oc,od,kV,doc,pm,an,cdv,ct,osl,rfl,lk,hcd⟩:=F.ex
 exact .all (h kV doc pm an cdv ct)
def tS {x qual:Str}{st:Stmt}{f:Addr}{oc:Value}{od an:Option Addr}{osl:Array (Option Value)}{kV doc pm cdv ct:Value}(l:K.lookup f=some ⟨oc,od,.func (PySem.W.fnOf x qual (fq st) (bY st) (av st) .none kV doc pm an cdv ct),osl⟩)
  (c:PySem.W.codeIn K cdv qual=true) (k:PySem.W.keepIn K (.ref f)=true):z5 K x qual st f (PySem.W.fnOf x qual (fq st) (bY st) (av st) .none kV doc pm an cdv ct):=⟨⟨oc,od,kV,doc,pm,an,cdv,ct,osl,rfl,l,c⟩,k⟩
end
section
variable {X:Cx}
def pv (i:Nat){x:Str}{pos:Pos}(hN:X.N[i]? =some x:=by rfl)(hv:vX X.env.scope x:=by first |exact Or.inl rfl |exact Or.inr (Or.inl rfl) |exact Or.inr (Or.inr rfl))(hd:(x == ("__debug__":Str))=false:=by decide)
  (hcd:(x == ("__classdict__":Str))=false:=by decide):PE X (.Name x pos) (AQ i):=iE hN hv hd hcd
end
def qQ {A B:Prop}(h:B):if false=true then A else B:=by
 rw[HY IG]
 exact h
def rH {A B:Prop}(h:A):if true=true then A else B:=by
 rw[HV rfl]
 exact h
def Hd (o:Obj):Prop:=∃vs q t,o.data=.fields vs/\vs[1]? =some (.str q t)
def DC:List Value->Prop
 | []=>True
 | .int _ _ :: .int _ _ :: .ref _ :: r=>DC r
 |_=>False
theorem DC.app:∀{l m:List Value},DC l->DC m->DC (l ++ m)
 | [],_,_,h=>h
 | .int _ _ :: .int _ _ :: .ref _ :: r,_,h,k=>DC.app (l:=r) h k
def Kt (H:Hp)(b:Addr):HO->Prop
 | .tbl ps=>∃more:Array Value,H b=some (.tbl (ps ++ more))/\DC more.toList/\∀c,Value.ref c∈more.toList->∃o,H c=some (.aO o (.own 0))/\Hd o
 |o=>H b=some o
theorem Kt.of {H:Hp}{b:Addr}{o:HO}(h:H b=some o):Kt H b o:=by
 cases o with
 |tbl ps=>exact⟨#[],by rw[h];simp,trivial,λc hc=>by simp at hc⟩
 |_=>exact h
def ag (H H':Hp):Prop:=∀b o,H b=some o->Kt H' b o
def ag.refl (H:Hp):ag H H:=λ_ _ h=>Kt.of h
theorem Kt.some {H:Hp}{b:Addr}{o:HO}(h:Kt H b o):∃u,H b=Option.some u/\((∀ps,o≠.tbl ps)->u=o)/\((∃ps,o=.tbl ps)->∃ps,u=.tbl ps):=by
 cases o with
 |tbl ps=>obtain⟨m,e,_⟩:=h;exact⟨_,e,λz=>absurd rfl (z ps),λ_=>⟨_,rfl⟩⟩
 |_=>exact⟨_,h,λ_=>rfl,λ⟨ps,z⟩=>by cases z⟩
theorem Kt.step {H H':Hp}{b:Addr}{o:HO}(h:Kt H b o)(s:ag H H'):Kt H' b o:=by
 cases o with
 |tbl ps=>
  obtain⟨m,e,t1,k⟩:=h
  obtain⟨m2,e2,t2,k2⟩:=s b _ e
  refine⟨m ++ m2,by rw[e2,Array.append_assoc],by rw[II];exact t1.app t2,λc hc=>?_⟩
  rw[II,Iu] at hc
  rcases hc with hc |hc
  ·obtain⟨o,eo,io⟩:=k c hc;exact⟨o,s c _ eo,io⟩
  ·exact k2 c hc
 |lst xs=>exact s b _ h
 |tup xs=>exact s b _ h
 |dK xs=>exact s b _ h
 |dT xs ep=>exact s b _ h
 |set S n=>exact s b _ h
 |ins C dx fs=>exact s b _ h
 |own x=>exact s b _ h
 |xd fs=>exact s b _ h
 |met f x=>exact s b _ h
 |ly lo hi=>exact s b _ h
 |aO o u=>exact s b _ h
 |ext φ=>exact s b _ h
def ag.trans {H H1 H2:Hp}(a:ag H H1)(b:ag H1 H2):ag H H2:=λc o h=>(a c o h).step b
theorem ag.free {H H':Hp}(e:ag H H'){l:Addr}(h:H' l=Option.none):H l=Option.none:=by
 cases q:H l with
 |none=>rfl
 |some o=>
  obtain⟨u,z,_⟩:=(e l o q).some
  rw[z] at h
  cases h
def ag.seq {K:Frag}{H H':Hp}{a:Addr}{xs:List V}(e:ag H H')(h:fC K H a xs):fC K H' a xs:=by
 rcases h with (h | ⟨o,h⟩) |h
 ·exact .inl (.inl (e _ _ h))
 ·exact .inl (.inr ⟨o,e _ _ h⟩)
 ·exact .inr h
end L2
end
section
namespace RQ
open PySem L2
def top (i:Nat):Stmt:=PySem.Challenge.pw_rowsorder_k01_orders_known.main.body.getD i (.Pass ⟨0,0,0,0⟩)
abbrev gR:Stmt:=top 2
abbrev gi:Stmt:=top 3
abbrev iS:Stmt:=top 4
abbrev iO:Stmt:=top 5
abbrev cU:Stmt:=top 6
abbrev gH:Stmt:=top 10
abbrev gp:Stmt:=top 8
abbrev fF:Stmt:=top 12
abbrev cY:Stmt:=top 13
abbrev gJ:Stmt:=top 14
abbrev fE:Stmt:=top 15
abbrev dO:Stmt:=top 16
abbrev dJ:Stmt:=top 17
abbrev gk:Stmt:=top 18
abbrev cD:Stmt:=top 19
abbrev di:Stmt:=top 20
abbrev dP:Stmt:=top 21
abbrev dM:Stmt:=top 22
abbrev cz:Stmt:=top 23
abbrev fy:Stmt:=top 24
abbrev jc:Stmt:=top 25
end RQ
namespace RO
open PySem L2
abbrev gK:Stmt:=RQ.cU
abbrev j7:Stmt:=RQ.top 9
end RO
end
namespace L2
open PySem PySem.Spec PyProof.Rows
def Rc (h:Heap)(e:Addr)(cls:Value)(T:Addr)(fl:Value):Prop:=∃oe vs oT ts,h.get? e=some oe/\oe.cls=cls/\oe.dict=none/\oe.data=.fields vs/\vs[1]? =some (.ref T)/\vs[2]? =some .none/\T≠e/\h.get? T=some oT/\oT.data=.fields ts/\ts[3]? =some fl
abbrev Keeps (F:List Addr)(ch:List Addr)(h h':Heap):Prop:=∀b o,h.get? b=some o->b∉F->b∉ch->h'.get? b=some o
abbrev Slots (F:List Addr)(h h':Heap):Prop:=∀b o,h.get? b=some o->b∈F->∃sl,h'.get? b=some {o with slots:=sl}
section
variable {M:Model}{A:Around}{E:Value->Shared->Prop}{s:Shared}{base:Heap}{env:Env}{outer:List Env}{L e:Addr}{cls:Value}{Q:Unit->Shared->Prop}
def CK {oe:Obj}{vs:Array Value}{head:Value}{hadNext:Bool}(hfr:A.frames=some (env :: outer))(hl:s.heap.FunFrames base (env :: outer))(hf:env.frame=some L)(he:s.heap.get? e=some oe)(hc:oe.cls=cls)(hdd:oe.dict=none)(hd:oe.data=.fields vs)(hsz:1 < vs.size)(h2:vs[2]? =some .none)
  (h:∀h' T,Keeps (jC (env :: outer)) [e] s.heap h'->Slots (jC (env :: outer)) s.heap h'->s.heap.get? T=none->Rc h' e cls T (rawInt L)->Q () {s with heap:=h'}) :
  wpAny M A (do let a <-frameOf env;let pl <-entryPlaceOf L hadNext;let b <-EntryCells.newEntry head a .none (rawInt L) .none pl;setField (.ref e) 1 b) Q E s:=by
 have eF:e∉jC (env :: outer):=λz=>by
  obtain⟨_,o,q,n⟩:=hl.mem z
  rw[he] at q;cases q;exact n _ hd
 refine HS (wpAny_frameOf_fun hfr hl hf λh1 s1=>?_)
 refine HS (wpAny_entryPlaceOf λpl hpl=>?_)
 unfold EntryCells.newEntry newFields
 refine HS (Jg ?_ (hpl.sizeOk5 _ _ _ _ _))
 have e1:h1.get? e=some oe:=(s1.2.1 e eF).trans he
 have e2:=Ia (h:=h1) {cls:=.type "traceback",dict:=none,data:=.fields ([head,.ref L,.none,rawInt L,.none] ++ (if pl.isEmpty then List.replicate 6 Value.none else pl)).toArray} e1
 have tn:h1.objs.size≠e:=Nat.ne_of_gt (Il e1)
 refine KO e2 hd hsz (h _ h1.objs.size (λb o q hb hn=>?_) (λb o q hb=>?_) ?_ ?_)
 ·have hbe:b≠e:=by simpa using hn
  have q1:h1.get? b=some o:=(s1.2.1 b hb).trans q
  rw[JA _ _ (Ne.symm hbe)]
  exact Ia _ q1
 ·obtain⟨sl,q1⟩:=s1.2.2 b o q
  have hbe:b≠e:=λz=>eF (z▸hb)
  refine⟨sl,?_⟩
  rw[JA _ _ (Ne.symm hbe)]
  exact Ia _ q1
 ·cases q:s.heap.get? h1.objs.size with
  |none=>rfl
  |some o=>obtain⟨sl,q1⟩:=s1.2.2 _ o q;exact absurd (Il q1) (IL _)
 ·have d3:=Obj.data_mapFields hd (·.setIfInBounds 1 (Value.ref h1.objs.size))
  have e3:=Jt (Obj.mapFields (·.setIfInBounds 1 (Value.ref h1.objs.size))) e2 (Obj.isFreed_of_fields d3)
  refine⟨_,_,_,_,e3,(Obj.cls_mapFields _ _).trans hc,?_,d3,by simp[hsz],by rw[Array.getElem?_setIfInBounds_ne (by omega)];exact h2,tn,(JA _ _ (Ne.symm tn)).trans (IB h1 rfl),rfl,?_⟩
  ·unfold Obj.mapFields
   split <;> exact hdd
  ·rcases hpl with rfl | ⟨_,_,_,_,_,_,_,rfl⟩ <;> simp
def wb {T0:Addr}(hfr:A.frames=some (env :: outer))(hl:s.heap.FunFrames base (env :: outer))(hf:env.frame=some L)(r:Rc s.heap e cls T0 .none)
  (h:∀h' T,Keeps (jC (env :: outer)) [e,T0] s.heap h'->Slots (jC (env :: outer)) s.heap h'->(s.heap.get? T=none\/T=T0)->Rc h' e cls T (rawInt L)->Q () {s with heap:=h'}):wpAny M A (noteFrame (.ref e) env) Q E s:=by
 obtain⟨oe,vs,oT,ts,he,hc,hdd,hd,h1,h2,hTe,hT,hdT,h3⟩:=r
 have tF:T0∉jC (env :: outer):=λz=>by
  obtain⟨_,o,q,n⟩:=hl.mem z
  rw[hT] at q;cases q;exact n _ hdT
 unfold noteFrame
 simp only[hf]
 refine HS (Kk he hd h1 ?_)
 rw[HV (show (Value.ref T0 != Value.none)=true from by simp)]
 refine HS (Kk hT hdT h3 ?_)
 rw[HY (show ¬((Value.none == rawInt L)=true) from by simp[rawInt])]
 refine HS (KO hT hdT (Jx.mp h3).1 ?_)
 have oth:∀b,b≠T0->(s.heap.update T0 (Obj.mapFields (·.setIfInBounds 3 Value.none))).get? b=s.heap.get? b:=λb hb=>JA _ _ (Ne.symm hb)
 have nf:∀b o,s.heap.get? b=some o->(∀ws,o.data≠.fields ws)->b≠T0:=λb o q n z=>by
  rw[z,hT] at q;cases q;exact n _ hdT
 refine CK (base:=base) hfr (hl.of_keeps λb o q n=>⟨o,(oth b (nf b o q n)).trans q,rfl⟩) hf ((oth e (Ne.symm hTe)).trans he) hc hdd hd (Jx.mp h1).1 h2 λh' T kp sl tn rc=>?_
 refine h h' T (λb o q hb hn=>?_) (λb o q hb=>?_) ?_ rc
 ·simp only[Ih,JW,or_false,not_or] at hn
  exact kp b o ((oth b hn.2).trans q) hb (by simp[hn.1])
 ·exact sl b o ((oth b λz=>tF (z▸hb)).trans q) hb
 ·by_cases z:T=T0
  ·exact .inr z
  ·exact .inl ((oth T z).symm.trans tn)
def Az {T:Addr}{fl:Value}(r:Rc s.heap e cls T fl)(h:∀h',Keeps [] [T] s.heap h'->Rc h' e cls T .none->Q () {s with heap:=h'}):wpAny M A (setFlight (.ref e) none) Q E s:=by
 obtain⟨oe,vs,oT,ts,he,hc,hdd,hd,h1,h2,hTe,hT,hdT,h3⟩:=r
 have sz:3 < ts.size:=(Jx.mp h3).1
 unfold setFlight
 refine HS (Kk he hd h1 ?_)
 rw[HV (show (Value.ref T != Value.none)=true from by simp)]
 refine KO hT hdT sz (h _ (λb o q _ hn=>?_) ?_)
 ·have hb:b≠T:=by simpa using hn
  exact (JA _ _ (Ne.symm hb)).trans q
 ·have d3:=Obj.data_mapFields hdT (·.setIfInBounds 3 ((none:Option Addr).elim Value.none λf=>rawInt f))
  exact⟨oe,vs,_,_,(JA _ _ hTe).trans he,hc,hdd,hd,h1,h2,hTe,Jt _ hT (Obj.isFreed_of_fields d3),d3,by simp[sz]⟩
end
section
variable {P:Program}{w:World}
theorem bw.there {H:Hp}{h:Heap}{a:Addr}{o:HO}(x:bw P w H h a o):∃u,h.get? a=some u:=by
 cases o with
 |lst xs=>obtain⟨_,_,_,_,e⟩:=x;exact⟨_,e⟩
 |tup xs=>obtain⟨_,_,_,u,e,_⟩:=x;exact⟨u,e⟩
 |dK kvs=>obtain⟨_,_,_,_,o,_,_,e,_⟩:=x;exact⟨_,e⟩
 |dT kvs ep=>obtain⟨_,_,_,_,o,_,e,_⟩:=x;exact⟨_,e⟩
 |set S n=>obtain⟨o,_,_,_,e,_⟩:=x;exact⟨_,e⟩
 |ins C dx fs=>obtain⟨_,_,_,e,_⟩:=x;exact⟨_,e⟩
 |own y=>obtain⟨_,e⟩:=x;exact⟨_,e⟩
 |xd fs=>obtain⟨_,⟨_,_,_,e,_⟩,_⟩:=x;exact⟨_,e⟩
 |ly lo hi=>obtain⟨_,_,_,e⟩:=x;exact⟨_,e⟩
 |aO ob u=>obtain⟨e,_⟩:=x;exact⟨_,e⟩
 |tbl ps=>exact⟨_,show h.get? a=some _ from x⟩
 |met f y=>exact⟨_,show h.get? a=some _ from x⟩
 |ext φ=>obtain⟨_,⟨_,e⟩,_⟩:=x;exact⟨_,e⟩
end
structure Lies (h₀:Heap)(H:Hp)(h:Heap)(e:Addr)(cls:Value):Prop where
 free:H e=none
 new:h₀.get? e=none
 ob:∃T,Rc h e cls T .none/\H T=none/\h₀.get? T=none
def o5 (P:Program)(w:World):w9:=λouter H s E e s'=>∃ea cls H',e=.ref ea/\s'.os=s.os/\AllBare s'.gens/\Un (jC outer) [] H H' s.heap s'.heap/\je P w H' s'.heap/\Lies s.heap H' s'.heap ea cls/\E cls none H'
section
variable {P:Program}{w:World}{M:Model}{A:Around}{E':Value->Shared->Prop}{s:Shared}{env:Env}{outer:List Env}{L e:Addr}{cls:Value}{base h₀:Heap}{H:Hp}{Q:Unit->Shared->Prop}
def xX {h h':Heap}(hok:je P w H h)(k:∀b o,h.get? b=some o->(∃u,H b=some u)->h'.get? b=some o):je P w H h':=λa o ha=>
 (hok a o ha).stay (λb u hb q=>k b u q (hb.elim (λz=>⟨o,by rw[z];exact ha⟩) λz=>⟨_,z⟩)) (λ_ q=>q) λ_ _ q=>q
def zf (hfr:A.frames=some (env :: outer))(hf:env.frame=some L)(hfn:s.heap.FunFrames base (env :: outer))(hok:je P w H s.heap)(hff:∀b∈jC (env :: outer),H b=none)(Ly:Lies h₀ H s.heap e cls)(hex:∀b o,h₀.get? b=some o->∃o',s.heap.get? b=some o')
  (hQ:∀h',(∀b o,s.heap.get? b=some o->b∉jC (env :: outer)->((∃o0,h₀.get? b=some o0)\/∃u,H b=some u)->h'.get? b=some o)->(∀b o,s.heap.get? b=some o->b∈jC (env :: outer)->∃sl,h'.get? b=some {o with slots:=sl})->Lies h₀ H h' e cls->je P w H h'->Q () {s with heap:=h'}) :
  wpAny M A (leaving env (.ref e)) Q E' s:=by
 obtain⟨fr,nw,T0,rc,hHT,hnT⟩:=Ly
 obtain⟨oe,vs,oT,ts,he,hc,hdd,hd,h1,h2,hTe,hT,hdT,h3⟩:=id rc
 have tF:T0∉jC (env :: outer):=λz=>by
  obtain⟨_,o,q,n⟩:=hfn.mem z
  rw[hT] at q;cases q;exact n _ hdT
 unfold leaving
 refine HS (wb hfr hfn hf rc λh4 T kp sl tn rc4=>Az rc4 λh5 kp5 rc5=>?_)
 have nT:∀b o,s.heap.get? b=some o->b≠T0->b≠T:=λb o q n z=>by
  rcases tn with tn |tn
  ·rw[z,tn] at q;cases q
  ·exact n (z.trans tn)
 have kept:∀b o,s.heap.get? b=some o->b∉jC (env :: outer)->((∃o0,h₀.get? b=some o0)\/∃u,H b=some u)->h5.get? b=some o:=λb o q hb hor=>by
  have be:b≠e:=λz=>by subst z;rcases hor with⟨_,z⟩ | ⟨_,z⟩ <;> simp_all
  have bT:b≠T0:=λz=>by subst z;rcases hor with⟨_,z⟩ | ⟨_,z⟩ <;> simp_all
  exact kp5 b o (kp b o q hb (by simp[be,bT])) (by simp) (by simp[nT b o q bT])
 have slot:∀b o,s.heap.get? b=some o->b∈jC (env :: outer)->∃sl,h5.get? b=some {o with slots:=sl}:=λb o q hb=>by
  obtain⟨x,q4⟩:=sl b o q hb
  exact⟨x,kp5 b _ q4 (by simp) (by simp[nT b o q λz=>tF (z▸hb)])⟩
 have fresh:H T=none/\h₀.get? T=none:=by
  rcases tn with tn |tn
  ·refine⟨?_,?_⟩
   ·cases q:H T with
    |none=>rfl
    |some u=>obtain⟨o,qo⟩:=(hok T u q).there;rw[tn] at qo;cases qo
   ·cases q:h₀.get? T with
    |none=>rfl
    |some u=>obtain⟨o,qo⟩:=hex T u q;rw[tn] at qo;cases qo
  ·rw[tn];exact⟨hHT,hnT⟩
 refine hQ h5 kept slot ⟨fr,nw,T,rc5,fresh.1,fresh.2⟩ (xX hok λb o q hu=>kept b o q (λz=>?_) (.inr hu))
 obtain⟨u,hu⟩:=hu
 rw[hff b z] at hu;cases hu
end
section
variable {P:Program}{w:World}{K:Frag}{mg:Str->Option Value}{base:Heap}{N:List Str}{qual:Str}{scope:Scope}{f:Addr}{cd:Value}{A:Around}{outer:List Env}{s0:Shared}{H0:Hp}{E:XK}
def bp:Passes (o5 P w) (nX (o5 P w) P w K mg base N qual scope f cd A outer s0 H0 E) E:=by
 intro pins σ H s e s' I hcx
 obtain⟨ea,cls,H',rfl,os,bare,un,hok,Ly,q⟩:=hcx
 have I':=I.call' os un hok bare (λb hb=>absurd hb (by simp))
 have old:∀{b:Addr},s.heap.get? b=none->s0.heap.get? b=none:=λ{b} hb=>by
  cases z:s0.heap.get? b with
  |none=>rfl
  |some o=>obtain⟨o',z'⟩:=I.base.there b o z (show b∉([]:List Addr) by simp);rw[hb] at z';cases z'
 have Ly0:Lies s0.heap H' s'.heap ea cls:=by
  obtain⟨fr,nw,T,rc,hHT,hnT⟩:=Ly
  exact⟨fr,old nw,T,rc,hHT,old hnT⟩
 have above:s0.heap.objs.size<=(envOfC qual scope s0.heap.objs.size f cd).locals:=I.ok.above
 refine zf (base:=base) (h₀:=s0.heap) I'.ok.frames rfl I'.stack I'.hok I'.stkFree Ly0 (λb o z=>I'.base.there b o z (show b∉([]:List Addr) by simp)) λh' kept slot Ly' hok'=>?_
 have nL:∀{b:Addr} {o:Obj},s0.heap.get? b=some o->b∉jC outer->b∉jC (envOfC qual scope s0.heap.objs.size f cd :: outer):=λ{b o} z hb hm=>by
  rcases Ih.mp (I'.stkSub b hm) with e |e
  ·have:=Il z
   rw[e] at this
   exact absurd (IP this above) (IL _)
  ·exact hb e
 have inn:∀{b:Addr},b∈jC outer->b∈jC (envOfC qual scope s0.heap.objs.size f cd :: outer):=λ{b} hb=>by
  obtain⟨en,h1,h2⟩:=Kw.mp hb
  exact Kw.mpr ⟨en,Ie _ h1,h2⟩
 refine⟨ea,cls,H',rfl,os.trans I.os,bare,⟨λb o z n hb _=>?_,λb o z n hb _=>?_,λb o z n _=>I'.base.free b o z n (show b∉([]:List Addr) by simp),λb o z _=>?_,I'.base.tups,I'.base.frzs,I'.base.tbls⟩,hok',Ly',q⟩
 ·exact kept b o (I'.base.keep b o z n hb (show b∉([]:List Addr) by simp)) (nL z hb) (.inl ⟨o,z⟩)
 ·obtain⟨sl,z1⟩:=I'.base.slot b o z n hb (show b∉([]:List Addr) by simp)
  obtain⟨sl2,z2⟩:=slot b _ z1 (inn hb)
  exact⟨sl2,z2⟩
 ·obtain⟨o',z1⟩:=I'.base.there b o z (show b∉([]:List Addr) by simp)
  by_cases hb:b∈jC (envOfC qual scope s0.heap.objs.size f cd :: outer)
  ·obtain⟨sl,z2⟩:=slot b o' z1 hb
   exact⟨_,z2⟩
  ·exact⟨o',kept b o' z1 hb (.inl ⟨o,z⟩)⟩
end
structure k9 (K:Frag)(mg:Str->Option Value)(x:Str)(st:Stmt)(ps:List Str)(f:Addr)(fd:FuncData):Prop where
 mg:mg x=some (.ref f)
 F:z5 K x x st f fd
 b:Binds K fd ps []
structure lB (mg:Str->Option Value):Prop where
 len:mg "len"=none
 range:mg "range"=none
 enumerate:mg "enumerate"=none
 zip:mg "zip"=none
 min:mg "min"=none
 max:mg "max"=none
 sum:mg "sum"=none
 abs:mg "abs"=none
 sorted:mg "sorted"=none
 reversed:mg "reversed"=none
 int:mg "int"=none
 str:mg "str"=none
 bool:mg "bool"=none
 list:mg "list"=none
 tuple:mg "tuple"=none
 dict:mg "dict"=none
 set:mg "set"=none
 isinstance:mg "isinstance"=none
 repr:mg "repr"=none
 any:mg "any"=none
 all:mg "all"=none
 divmod:mg "divmod"=none
end L2
namespace L2
open PySem
section
variable {K:Frag}{h:Heap}{mg:Str->Option Value}
theorem z8 {α:Type}{P:List α->Prop}(q:∀a,P [a]):∀us:List α,us.length=1->P us
 | [a],_=>q a
theorem ln2 {α:Type}{P:List α->Prop}(q:∀a b,P [a,b]):∀us:List α,us.length=2->P us
 | [a,b],_=>q a b
theorem HJ {α:Type}{P:List α->Prop}(q:∀a b c,P [a,b,c]):∀us:List α,us.length=3->P us
 | [a,b,c],_=>q a b c
def bA (x:Str)(st:Stmt)(ps:List Str):Prop:=∀(kV doc pm:Value) (an:Option Addr) (cdv ct:Value) (us:List Value),us.length=ps.length->bindArgs (PySem.W.fnOf x x (fq st) (bY st) (av st) .none kV doc pm an cdv ct) ⟨us,[]⟩=pure (ps.zip us)
structure Fo (K:Frag)(mg:Str->Option Value)(x:Str)(st:Stmt)(ps:List Str):Prop where
 ex:∃f fd,k9 K mg x st ps f fd
def cy {x:Str}{st:Stmt}{ps:List Str}{f:Addr}{oc:Value}{od an:Option Addr}{sl:Array (Option Value)}{kV doc pm cdv ct:Value}(X:K.In h)(G:h.Ns mainGlobals mg)(b:bA x st ps)(a:PySem.W.nsIn K mainGlobals x=some (some (.ref f)))
  (l:K.lookup f=some ⟨oc,od,.func (PySem.W.fnOf x x (fq st) (bY st) (av st) .none kV doc pm an cdv ct),sl⟩) (c:PySem.W.codeIn K cdv x=true) (k:PySem.W.keepIn K (.ref f)=true):Fo K mg x st ps:=
 ⟨⟨f,_,PySem.W.mg_of X G a,tS l c k,(tS l c k).binds b⟩⟩
def GR:List Str:=["len","range","enumerate","zip","min","max","sum","abs","sorted","reversed","int","str","bool","list","tuple","dict","set","isinstance","repr","any","all","divmod"]
def GY (K:Frag):Bool:=GR.all λx=>match PySem.W.nsIn K mainGlobals x with
 |some none=>true
 |_=>false
def CO (q:GY K=true){x:Str}(hx:x∈GR):PySem.W.nsIn K mainGlobals x=some none:=by
 have:=JH.mp q x hx
 split at this
 ·assumption
 ·cases this
def FC (X:K.In h)(G:h.Ns mainGlobals mg)(q:GY K=true):lB mg:=by
 have key:∀{x:Str},x∈GR->mg x=none:=λhx=>PySem.W.mg_none_of X G (CO q hx)
 constructor <;> exact key (by decide)
end
end L2
section
set_option Elab.async false
namespace RO
open PySem L2
def vQ (K:Frag):Sp:=λvs H Q _=>∃(a:Addr) (ns:List Int),vs= [.ref a]/\fC K H a (ns.map V.int)/\∀H',ag H H'->Q (.bl true) H'
def ua:bA "is_whole" RQ.gR ["thing"]:=λ_ _ _ _ _ _=>z8 λ_=>rfl
def uf:bA "is_below" RQ.gi ["thing","bound"]:=λ_ _ _ _ _ _=>ln2 λ_ _=>rfl
def wt:bA "is_many" RQ.iS ["thing"]:=λ_ _ _ _ _ _=>z8 λ_=>rfl
def xb:bA "is_pair" RQ.iO ["thing","many"]:=λ_ _ _ _ _ _=>ln2 λ_ _=>rfl
def pR:bA "every_pair" RQ.cU ["many"]:=λ_ _ _ _ _ _=>z8 λ_=>rfl
def zz:bA "closed" j7 ["many","pairs"]:=λ_ _ _ _ _ _=>ln2 λ_ _=>rfl
def sW:bA "has_ring" RQ.gH ["pairs"]:=λ_ _ _ _ _ _=>z8 λ_=>rfl
def tu:bA "is_order" RQ.gp ["thing"]:=λ_ _ _ _ _ _=>z8 λ_=>rfl
def se:bA "_law_cell" RQ.fF ["script","k"]:=λ_ _ _ _ _ _=>ln2 λ_ _=>rfl
def sV:bA "_law_mix" RQ.cY ["cell","k"]:=λ_ _ _ _ _ _=>ln2 λ_ _=>rfl
def uI:bA "_law_box" RQ.gJ ["script","k"]:=λ_ _ _ _ _ _=>ln2 λ_ _=>rfl
def rN:bA "_law_take" RQ.fE ["box","many"]:=λ_ _ _ _ _ _=>ln2 λ_ _=>rfl
def oX:bA "_law_whole" RQ.dO ["thing"]:=λ_ _ _ _ _ _=>z8 λ_=>rfl
def oU:bA "_law_truth" RQ.dJ ["found","due"]:=λ_ _ _ _ _ _=>ln2 λ_ _=>rfl
def uB:bA "_law_odd" RQ.gk ["box"]:=λ_ _ _ _ _ _=>z8 λ_=>rfl
def lC:bA "_law_mixed_up" RQ.cD ["box","some"]:=λ_ _ _ _ _ _=>ln2 λ_ _=>rfl
def nU:bA "_law_closed" RQ.di ["pairs"]:=λ_ _ _ _ _ _=>z8 λ_=>rfl
def pP:bA "_law_order" RQ.dP ["box","most"]:=λ_ _ _ _ _ _=>ln2 λ_ _=>rfl
def p9:bA "_law_pairs" RQ.dM ["many","pairs"]:=λ_ _ _ _ _ _=>ln2 λ_ _=>rfl
def lA:bA "_law_is_order" RQ.cz ["thing"]:=λ_ _ _ _ _ _=>z8 λ_=>rfl
def rL:bA "_law_bent" RQ.fy ["box","order","odd"]:=λ_ _ _ _ _ _=>HJ λ_ _ _=>rfl
def BO:Prop:=∀{l:PySem.W.OpenLaw} {w:World} {K:Frag} {h:Heap} {mg:Str->Option Value} {fa f22:Addr} (X:K.In h) (G:h.Ns mainGlobals mg) (hfa:mg "law"=some (.ref fa))
  {od22 an22:Option Addr} {sl22:Array (Option Value)} {oc22 kV22 dc22 pm22 cd22 ct22:Value} {tMOST_THINGS:Tok}
  (F1:Fo K mg "is_whole" RQ.gR ["thing"])
  (F2:Fo K mg "is_below" RQ.gi ["thing","bound"])
  (F3:Fo K mg "is_many" RQ.iS ["thing"])
  (F4:Fo K mg "is_pair" RQ.iO ["thing","many"])
  (F5:Fo K mg "every_pair" RQ.cU ["many"])
  (F6:Fo K mg "closed" j7 ["many","pairs"])
  (F7:Fo K mg "has_ring" RQ.gH ["pairs"])
  (F8:Fo K mg "is_order" RQ.gp ["thing"])
  (F9:Fo K mg "_law_cell" RQ.fF ["script","k"])
  (F10:Fo K mg "_law_mix" RQ.cY ["cell","k"])
  (F11:Fo K mg "_law_box" RQ.gJ ["script","k"])
  (F12:Fo K mg "_law_take" RQ.fE ["box","many"])
  (F13:Fo K mg "_law_whole" RQ.dO ["thing"])
  (F14:Fo K mg "_law_truth" RQ.dJ ["found","due"])
  (F15:Fo K mg "_law_odd" RQ.gk ["box"])
  (F16:Fo K mg "_law_mixed_up" RQ.cD ["box","some"])
  (F17:Fo K mg "_law_closed" RQ.di ["pairs"])
  (F18:Fo K mg "_law_order" RQ.dP ["box","most"])
  (F19:Fo K mg "_law_pairs" RQ.dM ["many","pairs"])
  (F20:Fo K mg "_law_is_order" RQ.cz ["thing"])
  (F21:Fo K mg "_law_bent" RQ.fy ["box","order","odd"])
  (a22:PySem.W.nsIn K mainGlobals "law"=some (some (.ref f22))) (l22:K.lookup f22=some ⟨oc22,od22,.func (PySem.W.fnOf "law" "law" (fq RQ.jc) (bY RQ.jc) (av RQ.jc) .none kV22 dc22 pm22 an22 cd22 ct22),sl22⟩) (c22:PySem.W.codeIn K cd22 "law"=true) (k22:PySem.W.keepIn K (.ref f22)=true)
  (zB:GY K=true)
  (yMOST_THINGS:PySem.W.nsIn K mainGlobals "MOST_THINGS"=some (some (.int 8 tMOST_THINGS))),∃fd:FuncData,(∀(s:Shared) (v:Value),BindsTo s fd ⟨[v],[]⟩ [("script",v)])/\∀base:Heap,K.In base->base.Ns mainGlobals mg->dw l.prog w K mg base (o5 l.prog w) 5 fa fd ["script"] (vQ K)
def walk {l:PySem.W.OpenLaw}{q:Program}{loose:List Str}{XP:(Str->Option Value)->Heap->Prop}{YP:World->Heap->Prop}{d:DefRec}{K:Params->Frag}(hn:l.most=some 63)(hdf:d.params.defaults= [])(hi:PyProof.Rows.importsNone q=true)
  (hY:∀(w:World) (h:Heap),YP w h->(K w.params).In h)
  (F:∀(w:World) (mg:Str->Option Value) (fa:Addr) (h:Heap),(K w.params).In h->h.Ns mainGlobals mg->mg d.name=some (.ref fa)->
   ∃fd:FuncData,(∀(s:Shared) (u:Value),BindsTo s fd ⟨[u],[]⟩ [("script",u)])/\∀base:Heap,(K w.params).In base->base.Ns mainGlobals mg->dw l.prog w (K w.params) mg base (o5 l.prog w) 5 fa fd ["script"] (vQ (K w.params))) :
  PySem.W.WalkO q loose XP YP l.row.toRowW d [] (λf vs=>PySem.call f vs):=
 L2.Bn (n:=63) (k:=5) (x:="script") (CX:=λw=>o5 l.prog w) (sp:=λw=>vQ (K w.params)) hn (by decide) hdf hi ⟨rfl,by decide,by decide,rfl⟩ hY F (λ_ _ a ns hl _ hS=>⟨a,ns,rfl,hS,λ_ _=>rfl⟩) λ_ _ _ _ _ z=>by
  obtain⟨_,_,_,_,_,_,_,_,_,z⟩:=z
  exact z
end RO
namespace HD
noncomputable def vw:PySem.Program:=PySem.W.view PySem.Challenge.pw_rowsorder_k01_orders_known [1,2,3,4,5,6,8,9,10,12,13,14,15,16,17,18,19,20,21,22,23,24,25]
def Bl:PySem.Challenge.rw_rowsorder_k01_orders_known.wellSaid=true:=by kernel_rfl
end HD
section
set_option hygiene false in
local macro_rules | `(tactic|o_head $H)=>`(tactic|exact h)
set_option maxHeartbeats 0 in
theorem HD.d (h:PySem.Challenge.rw_rowsorder_k01_orders_known.row.Holds):PySem.Challenge.rw_rowsorder_k01_orders_known.Holds:=by
 w_on;(refine PySem.W.holds_law HD.Bl λBl=>?_);k_head
end
abbrev HD.aa:List Nat:=[2,3,15,17,18,20,21,22,24,25,27,28,29,31,32,34,35,36,38,39,41,42,43,46,47,48,51,52,53,56,57,58,61,62,63,65,66,68,69,70,72,73,75,76,77,79,80,82,83,84,86,87,89,90,91,93,94,96,97,98,100,101,103,104,105,107,108,110,111,112,114,115,117,118,119,122,123,124,126,127,129,130,131,134,135,136,138,139,141,142,143,145,146,148,149,150,152,153,155,156]
def HD.ke:∀P,HD.aa=(HD.d.heap_1 P).map (·.1):=λ_=>by kernel_rfl
def HD.l1:∀w os,(HD.yO PySem.Challenge.rw_rowsorder_k01_orders_known.row.prog 1524 w os).map (λs=>(HD.vE PySem.Challenge.rw_rowsorder_k01_orders_known.row.prog w s.abs,(PySem.W.openSeen HD.vw [] (PySem.importedModules PySem.Challenge.rw_rowsorder_k01_orders_known.row.prog.main.body) (λs=>PySem.W.xlAt HD.vw [] s && PySem.W.recOk PySem.Challenge.rw_rowsorder_k01_orders_known.row.records s) true s.abs).1,(PySem.W.kHook HD.d.heap_1 HD.aa HD.ke).obs s.abs))=some (true,(PySem.W.openGood HD.vw []).1,(PySem.W.kHook HD.d.heap_1 HD.aa HD.ke).val w):=λw os=>by kernel_rfl
def HD.l2:∀w os,(HD.yO PySem.Challenge.rw_rowsorder_k01_orders_known.row.prog 1524 w os).map (λs=>(PySem.W.openSeen HD.vw [] (PySem.importedModules PySem.Challenge.rw_rowsorder_k01_orders_known.row.prog.main.body) (λs=>PySem.W.xlAt HD.vw [] s && PySem.W.recOk PySem.Challenge.rw_rowsorder_k01_orders_known.row.records s) true s.abs).2)=some (PySem.W.openGood HD.vw []).2:=λw os=>by kernel_rfl
def HD.left:PySem.W.LeftO PySem.Challenge.rw_rowsorder_k01_orders_known.row.prog HD.vw [] (λs=>PySem.W.xlAt HD.vw [] s && PySem.W.recOk PySem.Challenge.rw_rowsorder_k01_orders_known.row.records s) (PySem.W.kHook HD.d.heap_1 HD.aa HD.ke).obs (PySem.W.kHook HD.d.heap_1 HD.aa HD.ke).val 1524:=
 HD.Bk (by kernel_rfl) (by kernel_rfl) (λs=>by kernel_rfl) HD.l1 HD.l2
open PySem PySem.W PyProof.Rows L2
set_option maxRecDepth 100000 in
set_option maxHeartbeats 0 in
theorem RO.head (hA:RO.BO):PySem.Challenge.rw_rowsorder_k01_orders_known.Holds:=by
 w_on;(refine PySem.W.holds_law HD.Bl λBl=>?_)
 refine PySem.W.holds_open (q:=HD.vw) (loose:=[]) (Xt:=λs=>PySem.W.xlAt HD.vw [] s && PySem.W.recOk (PySem.W.RowW.records _) s) (XP:=PySem.W.XL HD.vw []) (Yf:=PySem.W.Hook.obs (kHook HD.d.heap_1 HD.aa HD.ke)) (Ya:=PySem.W.Hook.val (kHook HD.d.heap_1 HD.aa HD.ke)) (YP:=PySem.W.Hook.says (kHook HD.d.heap_1 HD.aa HD.ke)) (N:=1524) HD.left (PySem.W.Hook.of (kHook HD.d.heap_1 HD.aa HD.ke)) (PySem.W.Hook.keeps (kHook HD.d.heap_1 HD.aa HD.ke)) (λs e=>PySem.W.xl_of s (Bool.and_eq_true_iff.mp e).1) PySem.W.XL.keeps (by rfl) (by rfl) (by rfl) (λs e=>PySem.W.recFacts_of (Bool.and_eq_true_iff.mp e).2) (by rfl) (by first |assumption |decide +kernel) (by decide +kernel) ⟨rfl,rfl,rfl,rfl,rfl,by decide +kernel⟩ ?hw ?hc
 (case hw=>w_witness2)
 k_fill
 refine RO.walk (l:=PySem.Challenge.rw_rowsorder_k01_orders_known) rfl rfl ?hi (λw h Y=>PySem.W.kIn_of Y) ?F
 case hi=>kernel_rfl
 case F=>
  intro w mg fa h KX G hmg
  refine' hA KX G hmg ?F1 ?F2 ?F3 ?F4 ?F5 ?F6 ?F7 ?F8 ?F9 ?F10 ?F11 ?F12 ?F13 ?F14 ?F15 ?F16 ?F17 ?F18 ?F19 ?F20 ?F21 ?a22 ?l22 ?c22 ?k22 ?zB ?yMOST_THINGS
  case F1=>refine' cy KX G RO.ua ?a ?l ?c ?k;(case a=>k_is);(case l=>k_is);(case c=>k_is);(case k=>k_is)
  case F2=>refine' cy KX G RO.uf ?a ?l ?c ?k;(case a=>k_is);(case l=>k_is);(case c=>k_is);(case k=>k_is)
  case F3=>refine' cy KX G RO.wt ?a ?l ?c ?k;(case a=>k_is);(case l=>k_is);(case c=>k_is);(case k=>k_is)
  case F4=>refine' cy KX G RO.xb ?a ?l ?c ?k;(case a=>k_is);(case l=>k_is);(case c=>k_is);(case k=>k_is)
  case F5=>refine' cy KX G RO.pR ?a ?l ?c ?k;(case a=>k_is);(case l=>k_is);(case c=>k_is);(case k=>k_is)
  case F6=>refine' cy KX G RO.zz ?a ?l ?c ?k;(case a=>k_is);(case l=>k_is);(case c=>k_is);(case k=>k_is)
  case F7=>refine' cy KX G RO.sW ?a ?l ?c ?k;(case a=>k_is);(case l=>k_is);(case c=>k_is);(case k=>k_is)
  case F8=>refine' cy KX G RO.tu ?a ?l ?c ?k;(case a=>k_is);(case l=>k_is);(case c=>k_is);(case k=>k_is)
  case F9=>refine' cy KX G RO.se ?a ?l ?c ?k;(case a=>k_is);(case l=>k_is);(case c=>k_is);(case k=>k_is)
  case F10=>refine' cy KX G RO.sV ?a ?l ?c ?k;(case a=>k_is);(case l=>k_is);(case c=>k_is);(case k=>k_is)
  case F11=>refine' cy KX G RO.uI ?a ?l ?c ?k;(case a=>k_is);(case l=>k_is);(case c=>k_is);(case k=>k_is)
  case F12=>refine' cy KX G RO.rN ?a ?l ?c ?k;(case a=>k_is);(case l=>k_is);(case c=>k_is);(case k=>k_is)
  case F13=>refine' cy KX G RO.oX ?a ?l ?c ?k;(case a=>k_is);(case l=>k_is);(case c=>k_is);(case k=>k_is)
  case F14=>refine' cy KX G RO.oU ?a ?l ?c ?k;(case a=>k_is);(case l=>k_is);(case c=>k_is);(case k=>k_is)
  case F15=>refine' cy KX G RO.uB ?a ?l ?c ?k;(case a=>k_is);(case l=>k_is);(case c=>k_is);(case k=>k_is)
  case F16=>refine' cy KX G RO.lC ?a ?l ?c ?k;(case a=>k_is);(case l=>k_is);(case c=>k_is);(case k=>k_is)
  case F17=>refine' cy KX G RO.nU ?a ?l ?c ?k;(case a=>k_is);(case l=>k_is);(case c=>k_is);(case k=>k_is)
  case F18=>refine' cy KX G RO.pP ?a ?l ?c ?k;(case a=>k_is);(case l=>k_is);(case c=>k_is);(case k=>k_is)
  case F19=>refine' cy KX G RO.p9 ?a ?l ?c ?k;(case a=>k_is);(case l=>k_is);(case c=>k_is);(case k=>k_is)
  case F20=>refine' cy KX G RO.lA ?a ?l ?c ?k;(case a=>k_is);(case l=>k_is);(case c=>k_is);(case k=>k_is)
  case F21=>refine' cy KX G RO.rL ?a ?l ?c ?k;(case a=>k_is);(case l=>k_is);(case c=>k_is);(case k=>k_is)
  case a22=>k_is
  case l22=>k_is
  case c22=>k_is
  case k22=>k_is
  case zB=>kernel_rfl
  case yMOST_THINGS=>k_is
end
namespace HD
open PySem PySem.W PyProof.Rows
section
variable (q:Program)(loose mods:List Str)(Xt:Shared->Bool)(g0:Bool)(s:Shared)
noncomputable abbrev o1:=seen ((recsOf q).map (·.name)) (ownsOf q) [] {s with gens:=Array.mk []}
end
end HD
namespace L2.ST
open PySem PySem.SetTable
abbrev gA (xs:Array Nat):Prop:=xs.toList.Pairwise (· < ·)
def fm {xs:Array Nat}(h:gA xs){i k d:Nat}(hik:i < k)(hk:k < xs.size):xs.getD i d < xs.getD k d:=by
 have hi:i < xs.size:=Ko hik hk
 have:=Jo.mp h i k (by simpa using hi) (by simpa using hk) hik
 simpa[Array.getD,hi,hk] using this
theorem ym {xs:Array Nat}{j:Nat}(h:gA xs):∀(fuel lo hi:Nat),lo<=hi->hi<=xs.size->hi - lo<=fuel->
  (∀i,i < lo->xs.getD i j < j)->(∀i,hi<=i->i < xs.size->j<=xs.getD i j)->
  below.go xs j fuel lo hi<=xs.size/\(∀i,i < below.go xs j fuel lo hi->xs.getD i j < j)/\(∀i,below.go xs j fuel lo hi<=i->i < xs.size->j<=xs.getD i j):=by
 intro fuel
 induction fuel with
 |zero=>
  intro lo hi h1 h2 h3 h4 h5
  have:lo=hi:=by omega
  subst this
  exact⟨h2,h4,h5⟩
 |succ fuel ih=>
  intro lo hi h1 h2 h3 h4 h5
  unfold below.go
  by_cases hlt:lo < hi
  ·rw[HV hlt]
   dsimp only
   by_cases hm:xs.getD ((lo + hi) / 2) j < j
   ·rw[HV hm]
    refine ih _ _ (by omega) h2 (by omega) (λi hi'=>?_) h5
    by_cases e:i=(lo + hi) / 2
    ·rw[e];exact hm
    ·exact Ko (fm h (show i < (lo + hi) / 2 by omega) (by omega)) hm
   ·rw[HY hm]
    refine ih _ _ (by omega) (by omega) (by omega) h4 (λi hi' hs=>?_)
    by_cases e:i=(lo + hi) / 2
    ·rw[e];omega
    ·have:=fm (d:=j) h (show (lo + hi) / 2 < i by omega) hs
     omega
  ·rw[HY hlt]
   have:lo=hi:=by omega
   subst this
   exact⟨h2,h4,h5⟩
def cF {xs:Array Nat}(h:gA xs)(j:Nat) :
  below xs j<=xs.size/\(∀i,i < below xs j->xs.getD i j < j)/\(∀i,below xs j<=i->i < xs.size->j<=xs.getD i j):=
 ym h xs.size 0 xs.size (IU _) (HX _) (by omega) (λi hi=>by omega) (λi h1 h2=>by omega)
def wB {xs:Array Nat}(h:gA xs){i j:Nat}(hi:xs[i]? =some j):below xs j=i:=by
 obtain⟨b1,b2,b3⟩:=cF h j
 have hs:i < xs.size:=(Jx.mp hi).1
 have hv:xs.getD i j=j:=by rw[IF,hi];rfl
 rcases Lj i (below xs j) with c |c |c
 ·have:=b2 i c;omega
 ·exact c.symm
 ·have hb:below xs j < xs.size:=by omega
  have q:=b3 (below xs j) (HX _) hb
  have:=fm (d:=j) h c hs
  omega
def vk (j:Nat):has #[] j=false:=by
 unfold has
 simp
def nZ {t:SetTable}(h:gA t.place){i j:Nat}(hi:t.place[i]? =some j):t.slot j=.live i:=by
 unfold slot
 dsimp only
 rw[wB h hi,HV (by simp[hi])]
def sD {t:SetTable}(hd:t.dummies=#[]){j:Nat}(hj:j∉t.place):t.slot j=.empty:=by
 unfold slot
 dsimp only
 have:¬(t.place[below t.place j]? == some j)=true:=by
  intro e
  have e':t.place[below t.place j]? =some j:=by simpa using e
  obtain⟨h1,h2⟩:=Jx.mp e'
  exact hj (Array.mem_iff_getElem.mpr ⟨_,h1,h2⟩)
 rw[HY this,hd,vk]
 rfl
def sr (mask:Nat)(p:Probe):Probe:=
 if p.more > 0 then {p with j:=p.j + 1,more:=p.more - 1} else
 {p with j:=(leap mask p.i p.perturb).1,more:=runEnd mask (leap mask p.i p.perturb).1 - (leap mask p.i p.perturb).1,i:=(leap mask p.i p.perturb).1,perturb:=(leap mask p.i p.perturb).2}
def wj (mask i perturb:Nat):Probe:={j:=i,more:=runEnd mask i - i,i,perturb,dummy:=none}
def st (mask:Nat)(h:Int):Probe:=wj mask (bits h % (mask + 1)) (bits h)
def zO (t:SetTable)(p:Probe):t.advance p=sr t.mask p:=rfl
def B3 (t:SetTable)(h:Int):t.probeStart h=st t.mask h:=rfl
def dg (mask:Nat):Nat->Probe->Probe
 | 0,p=>p
 |n + 1,p=>dg mask n (sr mask p)
theorem iC (mask:Nat):∀(n m:Nat) (p:Probe),dg mask (n + m) p=dg mask m (dg mask n p)
 | 0,m,p=>by rw[Jq];rfl
 |n + 1,m,p=>by rw[Nat.add_right_comm];exact iC mask n m (sr mask p)
def yu {mask:Nat}{p:Probe}(h:p.dummy=none):(sr mask p).dummy=none:=by
 unfold sr;split <;> exact h
def fW {mask i:Nat}(h:i<=mask):i<=runEnd mask i/\runEnd mask i<=mask/\runEnd mask i - i<=9:=by
 unfold runEnd;split <;> omega
def In (mask:Nat)(p:Probe):Prop:=p.j + p.more<=mask/\p.more<=9
def DQ {mask i q:Nat}(h:i<=mask):In mask (wj mask i q):=by
 have:=fW h
 unfold In wj;dsimp only;omega
def jX (mask i q:Nat):(leap mask i q).1<=mask:=by
 unfold leap;exact Nat.lt_succ_iff.mp (Nat.mod_lt _ (Nat.succ_pos _))
def DH {mask:Nat}{p:Probe}(h:In mask p):In mask (sr mask p):=by
 unfold sr
 by_cases hm:p.more > 0
 ·rw[HV hm];unfold In at *;dsimp only;omega
 ·rw[HY hm]
  have:=fW (jX mask p.i p.perturb)
  unfold In;dsimp only;omega
theorem vN {mask:Nat}:∀(n:Nat) {p:Probe},In mask p->In mask (dg mask n p)
 | 0,_,h=>h
 |n + 1,_,h=>vN n (DH h)
def D9 (mask:Nat)(h:Int):In mask (st mask h):=DQ (Nat.lt_succ_iff.mp (Nat.mod_lt _ (Nat.succ_pos _)))
theorem rC (mask:Nat):∀(k:Nat) (p:Probe),p.more=k->dg mask (k + 1) p={p with j:=(leap mask p.i p.perturb).1,more:=runEnd mask (leap mask p.i p.perturb).1 - (leap mask p.i p.perturb).1,i:=(leap mask p.i p.perturb).1,perturb:=(leap mask p.i p.perturb).2}
 | 0,p,h=>by
  show sr mask p=_
  unfold sr
  rw[HY (by omega)]
 |k + 1,p,h=>by
  have e:sr mask p={p with j:=p.j + 1,more:=p.more - 1}:=by unfold sr;rw[HV (by omega)]
  show dg mask (k + 1) (sr mask p)=_
  rw[e,rC mask k _ (by dsimp only;omega)]
def kM (mask i q:Nat):dg mask (runEnd mask i - i + 1) (wj mask i q)=wj mask (leap mask i q).1 (leap mask i q).2:=by
 exact rC mask _ (wj mask i q) rfl
theorem gu (mask i q:Nat):∀(k:Nat),k<=runEnd mask i - i->(dg mask k (wj mask i q))={wj mask i q with j:=i + k,more:=runEnd mask i - i - k}
 | 0,_=>rfl
 |k + 1,h=>by
  rw[iC mask k 1,gu mask i q k (by omega)]
  show sr mask _=_
  unfold sr
  rw[HV (by dsimp only;omega)]
  simp only[Probe.mk.injEq]
  refine⟨by omega,by omega,?_⟩
  trivial
def dr (mask:Nat):Nat->Nat×Nat->Nat×Nat
 | 0,x=>x
 |k + 1,x=>dr mask k (leap mask x.1 x.2)
theorem k6 (mask:Nat):∀(k i q:Nat),i<=mask->∃n,n<=10 * k/\dg mask n (wj mask i q)=wj mask (dr mask k (i,q)).1 (dr mask k (i,q)).2
 | 0,i,q,_=>⟨0,HX _,rfl⟩
 |k + 1,i,q,h=>by
  obtain⟨n,hn,e⟩:=k6 mask k (leap mask i q).1 (leap mask i q).2 (jX _ _ _)
  have:=fW h
  refine⟨(runEnd mask i - i + 1) + n,by omega,?_⟩
  rw[iC,kM,e]
  rfl
theorem oN (mask:Nat):∀(a b:Nat) (x:Nat×Nat),dr mask (a + b) x=dr mask b (dr mask a x)
 | 0,b,x=>by rw[Jq];rfl
 |a + 1,b,x=>by rw[Nat.add_right_comm];exact oN mask a b (leap mask x.1 x.2)
theorem rW (mask:Nat):∀(k:Nat) (x:Nat×Nat),x.1<=mask->(dr mask k x).1<=mask
 | 0,_,h=>h
 |k + 1,x,_=>rW mask k _ (jX mask x.1 x.2)
theorem i4 (mask:Nat):∀(k:Nat) (x:Nat×Nat),(dr mask k x).2=x.2 / 32 ^ k
 | 0,x=>by simp[dr]
 |k + 1,x=>by
  show (dr mask k (leap mask x.1 x.2)).2=_
  rw[i4 mask k,Nat.pow_succ,Nat.mul_comm,<-Nat.div_div_eq_div_mul]
  rfl
def nx (mask i:Nat):Nat:=(i * 5 + 1) % (mask + 1)
def xO (mask:Nat):Nat->Nat->Nat
 | 0,i=>i
 |k + 1,i=>xO mask k (nx mask i)
theorem lL (mask:Nat):∀(a b i:Nat),xO mask (a + b) i=xO mask b (xO mask a i)
 | 0,b,i=>by rw[Jq];rfl
 |a + 1,b,i=>by rw[Nat.add_right_comm];exact lL mask a b (nx mask i)
theorem nt (mask:Nat):∀(k i:Nat),dr mask k (i,0)=(xO mask k i,0)
 | 0,_=>rfl
 |k + 1,i=>by
  show dr mask k (leap mask i 0)=_
  have:leap mask i 0=(nx mask i,0):=by simp[leap,nx]
  rw[this,nt mask k]
  rfl
def zW (mask:Nat):Prop:=mask=7\/mask=31\/mask=127
def Fb (mask:Nat)(hm:zW mask):xO mask (mask + 1) 0=0/\∀j,j<=mask->∃k,k<=mask/\xO mask k 0=j:=by
 have h7:∀j:Nat,j < 8->∃k,k < 8/\xO 7 k 0=j:=by decide +kernel
 have h31:∀j:Nat,j < 32->∃k,k < 32/\xO 31 k 0=j:=by decide +kernel
 have h127:∀j:Nat,j < 128->∃k,k < 128/\xO 127 k 0=j:=by decide +kernel
 rcases hm with rfl |rfl |rfl
 ·exact⟨by decide +kernel,λj hj=>let ⟨k,a,b⟩:=h7 j (by omega);⟨k,by omega,b⟩⟩
 ·exact⟨by decide +kernel,λj hj=>let ⟨k,a,b⟩:=h31 j (by omega);⟨k,by omega,b⟩⟩
 ·exact⟨by decide +kernel,λj hj=>let ⟨k,a,b⟩:=h127 j (by omega);⟨k,by omega,b⟩⟩
def FA {mask:Nat}(hm:zW mask){i j:Nat}(hi:i<=mask)(hj:j<=mask):∃k,k<=mask/\xO mask k i=j:=by
 obtain⟨z,o⟩:=Fb mask hm
 obtain⟨a,ha,ea⟩:=o i hi
 obtain⟨b,hb,eb⟩:=o j hj
 have back:xO mask (mask + 1 - a) i=0:=by
  rw[<-ea,<-lL,show a + (mask + 1 - a)=mask + 1 by omega];exact z
 by_cases hab:a<=b
 ·refine⟨b - a,by omega,?_⟩
  rw[<-ea,<-lL,show a + (b - a)=b by omega];exact eb
 ·refine⟨mask + 1 - a + b,by omega,?_⟩
  rw[lL,back];exact eb
def mT {mask:Nat}(hm:zW mask){i q j:Nat}(hi:i<=mask)(hq:q < 2 ^ 64)(hj:j<=mask):∃k,k<=mask + 13/\(dr mask k (i,q)).1=j:=by
 have hz:(dr mask 13 (i,q)).2=0:=by
  rw[i4]
  exact Nat.div_eq_of_lt (IP hq (by decide))
 obtain⟨k,hk,e⟩:=FA hm (rW mask 13 (i,q) hi) hj
 refine⟨13 + k,by omega,?_⟩
 rw[oN]
 have:dr mask 13 (i,q)=((dr mask 13 (i,q)).1,0):=Prod.ext rfl hz
 rw[this,nt]
 exact e
def vm (h:Int):bits h < 2 ^ 64:=by
 unfold bits
 have:=Int.emod_lt_of_pos h (show (0:Int) < 2 ^ 64 by decide)
 have:=Int.emod_nonneg h (show (2 ^ 64:Int)≠0 by decide)
 omega
def zi {mask:Nat}(hm:zW mask)(h:Int){j:Nat}(hj:j<=mask):∃n,n < 10 * turns mask/\(dg mask n (st mask h)).j=j:=by
 have hi:bits h % (mask + 1)<=mask:=Nat.lt_succ_iff.mp (Nat.mod_lt _ (Nat.succ_pos _))
 obtain⟨k,hk,e⟩:=mT hm hi (vm h) hj
 obtain⟨n,hn,q⟩:=k6 mask k (bits h % (mask + 1)) (bits h) hi
 refine⟨n,by unfold turns;omega,?_⟩
 show (dg mask n (wj mask _ _)).j=j
 rw[q];exact e
theorem yP {t:SetTable}{hashAt:Nat->Int}{h:Int}:∀(n fuel:Nat) (p:Probe),n < fuel->p.dummy=none->
  (∀m,m < n->∃i,t.slot (dg t.mask m p).j=.live i/\hashAt i≠h)->t.slot (dg t.mask n p).j=.empty->
  probe.go t hashAt h fuel p=some (.empty (dg t.mask n p).j none):=by
 intro n
 induction n with
 |zero=>
  intro fuel p hf hd _ he
  obtain⟨f,rfl⟩:∃f,fuel=f + 1:=⟨fuel - 1,by omega⟩
  unfold probe.go
  have he':t.slot p.j=.empty:=he
  rw[he',hd]
  rfl
 |succ n ih=>
  intro fuel p hf hd hl he
  obtain⟨f,rfl⟩:∃f,fuel=f + 1:=⟨fuel - 1,by omega⟩
  unfold probe.go
  obtain⟨i,e,ne⟩:=hl 0 (by omega)
  have e':t.slot p.j=.live i:=e
  rw[e']
  dsimp only
  rw[HY (by simpa using ne),zO]
  exact ih f (sr t.mask p) (by omega) (yu hd) (λm hm=>hl (m + 1) (by omega)) he
theorem zJ {t:SetTable}{hashAt:Nat->Int}{h:Int}:∀(n fuel:Nat) (p:Probe),n < fuel->
  (∀m,m<=n->∃i,t.slot (dg t.mask m p).j=.live i)->(∃i,t.slot (dg t.mask n p).j=.live i/\hashAt i=h)->
  ∃j i next,probe.go t hashAt h fuel p=some (.candidate j i next)/\t.slot j=.live i/\hashAt i=h:=by
 intro n
 induction n with
 |zero=>
  intro fuel p hf _ he
  obtain⟨f,rfl⟩:∃f,fuel=f + 1:=⟨fuel - 1,by omega⟩
  obtain⟨i,e,eh⟩:=he
  have e':t.slot p.j=.live i:=e
  unfold probe.go
  rw[e']
  dsimp only
  rw[HV (by simpa using eh)]
  exact⟨p.j,i,_,rfl,e',eh⟩
 |succ n ih=>
  intro fuel p hf hl he
  obtain⟨f,rfl⟩:∃f,fuel=f + 1:=⟨fuel - 1,by omega⟩
  obtain⟨i,e⟩:=hl 0 (by omega)
  have e':t.slot p.j=.live i:=e
  unfold probe.go
  rw[e']
  dsimp only
  by_cases hh:hashAt i=h
  ·rw[HV (by simpa using hh)]
   exact⟨p.j,i,_,rfl,e',hh⟩
  ·rw[HY (by simpa using hh),zO]
   exact ih f (sr t.mask p) (by omega) (λm hm=>hl (m + 1) (by omega)) he
def Reach (mask:Nat)(L:Nat->Prop)(h:Int)(j:Nat):Prop:=∃n,n < 10 * turns mask/\(dg mask n (st mask h)).j=j/\∀m,m < n->L (dg mask m (st mask h)).j
def Reach.mono {mask:Nat}{L L':Nat->Prop}{h:Int}{j:Nat}(r:Reach mask L h j)(k:∀x,L x->L' x):Reach mask L' h j:=
 let ⟨n,a,b,c⟩:=r;⟨n,a,b,λm hm=>k _ (c m hm)⟩
structure Tab (t:SetTable)(hs:List Int):Prop where
 mask:zW t.mask
 dum:t.dummies=#[]
 rise:gA t.place
 le:∀j,j∈t.place->j<=t.mask
 size:t.place.size=hs.length
 load:t.place.size * 5 < t.mask * 3
 reach:∀(i j:Nat) (h:Int),t.place[i]? =some j->hs[i]? =some h->Reach t.mask (· ∈t.place) h j
 plain:t.plain=true
theorem bN {α:Type}[DecidableEq α]:∀{l m:List α},l.Nodup->(∀x,x∈l->x∈m)->l.length<=m.length
 | [],_,_,_=>IU _
 |a :: l,m,hn,hs=>by
  have ha:=hs a (Ig ..)
  have hl:=Jk.mp hn
  have:=bN (l:=l) (m:=m.erase a) hl.2 λx hx=>by
   refine (List.mem_erase_of_ne ?_).mpr (hs x (Ie _ hx))
   rintro rfl;exact hl.1 hx
  rw[K4 ha] at this
  have:0 < m.length:=List.length_pos_of_mem ha
  simp only[Iv];omega
def sF {mask:Nat}{xs:Array Nat}(hl:xs.size<=mask):∃j,j<=mask/\j∉xs:=by
 refine Classical.byContradiction λhc=>?_
 have all:∀j,j∈List.range (mask + 1)->j∈xs.toList:=λj hj=>by
  have:=IH.mp hj
  refine Classical.byContradiction λhn=>hc ⟨j,by omega,λz=>hn (by simpa using z)⟩
 have:=bN J6 all
 simp at this
 omega
theorem p0 {P:Nat->Prop}(h:∃n,P n):∃n,P n/\∀m,m < n->¬P m:=by
 obtain⟨n,hn⟩:=h
 induction n using Nat.strongRecOn with
 |_ n ih=>
  by_cases hc:∃m,m < n/\P m
  ·obtain⟨m,hm,hp⟩:=hc
   exact ih m hm hp
  ·exact⟨n,hn,λm hm hp=>hc ⟨m,hm,hp⟩⟩
section
variable {t:SetTable}{hs:List Int}
def Tab.load' (T:Tab t hs):t.place.size<=t.mask:=by have:=T.load;omega
def Tab.slotL (T:Tab t hs){j:Nat}(hj:j∈t.place):∃i,t.slot j=.live i/\t.place[i]? =some j:=by
 obtain⟨i,hi,e⟩:=Array.mem_iff_getElem.mp hj
 have q:t.place[i]? =some j:=by rw[IM hi,e]
 exact⟨i,nZ T.rise q,q⟩
def Tab.slotE (T:Tab t hs){j:Nat}(hj:j∉t.place):t.slot j=.empty:=sD T.dum hj
def Tab.first (T:Tab t hs)(h:Int):∃n,n < 10 * turns t.mask/\(dg t.mask n (st t.mask h)).j∉t.place/\∀m,m < n->(dg t.mask m (st t.mask h)).j∈t.place:=by
 obtain⟨j,hj,hn⟩:=sF T.load'
 obtain⟨n,h1,h2⟩:=zi T.mask h hj
 obtain⟨k,hk,hlt⟩:=p0 (P:=λn=>(dg t.mask n (st t.mask h)).j∉t.place) ⟨n,by rw[h2];exact hn⟩
 refine⟨k,?_,hk,λm hm=>Classical.byContradiction λz=>hlt m hm z⟩
 rcases IJ n k with c |c
 ·exact absurd (show (dg t.mask n (st t.mask h)).j∉t.place by rw[h2];exact hn) (hlt n c)
 ·omega
def Tab.absent (T:Tab t hs){hashAt:Nat->Int}(ha:∀i,i < hs.length->some (hashAt i)=hs[i]?){h:Int}(hn:h∉hs) :
  ∃j,t.probe hashAt h (t.probeStart h)=some (.empty j none)/\j∉t.place/\j<=t.mask/\Reach t.mask (· ∈t.place) h j:=by
 obtain⟨n,h1,h2,h3⟩:=T.first h
 refine⟨(dg t.mask n (st t.mask h)).j,?_,h2,?_,⟨n,h1,rfl,h3⟩⟩
 ·unfold probe
  rw[B3]
  refine yP n _ _ h1 rfl (λm hm=>?_) (T.slotE h2)
  obtain⟨i,e,q⟩:=T.slotL (h3 m hm)
  refine⟨i,e,λz=>hn ?_⟩
  have hi:i < hs.length:=by rw[<-T.size];exact (Jx.mp q).1
  have:=ha i hi
  rw[z] at this
  exact Ij this.symm
 ·have:=vN n (D9 t.mask h)
  unfold In at this;omega
def Tab.present (T:Tab t hs){hashAt:Nat->Int}(ha:∀i,i < hs.length->some (hashAt i)=hs[i]?){h:Int}(hm:h∈hs) :
  ∃j i next,t.probe hashAt h (t.probeStart h)=some (.candidate j i next)/\t.slot j=.live i/\i < hs.length/\hs[i]? =some h:=by
 obtain⟨i,hi,e⟩:=IW.mp hm
 have hi':hs[i]? =some h:=by rw[HU hi,e]
 have hp:i < t.place.size:=by rw[T.size];exact hi
 obtain⟨n,h1,h2,h3⟩:=T.reach i t.place[i] h (IM hp) hi'
 have hj:(dg t.mask n (st t.mask h)).j∈t.place:=by rw[h2];exact Array.getElem_mem hp
 obtain⟨j',i',nx,g1,g2,g3⟩:=zJ (t:=t) (hashAt:=hashAt) (h:=h) n (10 * turns t.mask) (st t.mask h) h1 (λm hm=>by
   rcases IJ m n with c |c
   ·obtain⟨i,e,_⟩:=T.slotL (h3 m c);exact⟨i,e⟩
   ·have:m=n:=by omega
    subst this
    obtain⟨i,e,_⟩:=T.slotL hj;exact⟨i,e⟩)
  ⟨i,by rw[h2];exact nZ T.rise (IM hp),by
   have:=ha i hi
   rw[hi'] at this
   exact Option.some.inj this⟩
 have hi2:i' < t.place.size:=by
  unfold slot at g2
  dsimp only at g2
  split at g2
  ·rename_i c
   have c':t.place[below t.place j']? =some j':=by simpa using c
   cases g2
   exact (Jx.mp c').1
  ·split at g2 <;> cases g2
 refine⟨j',i',nx,by unfold probe;rw[B3];exact g1,g2,by rw[<-T.size];exact hi2,?_⟩
 have:=ha i' (by rw[<-T.size];exact hi2)
 rw[g3] at this
 exact this.symm
end
def bB {α:Type}(xs:Array α)(p:Nat)(x:α)(_:p<=xs.size):(insertAt xs p x).toList=xs.toList.take p ++ x :: xs.toList.drop p:=by
 unfold insertAt
 simp[KS,Kg]
 rw[JB (by simp)]
def oC (t:SetTable)(j:Nat)(hd:t.dummies=#[]):(t.put j).1={t with place:=insertAt t.place (below t.place j) j}/\(t.put j).2=below t.place j:=by
 unfold put
 dsimp only
 rw[hd,vk]
 exact⟨by simp,rfl⟩
section
variable {t:SetTable}{hs:List Int}
def kg {α:Type}{xs:Array α}{p:Nat}{x y:α}(hp:p<=xs.size):y∈insertAt xs p x↔y∈xs\/y=x:=by
 rw[<-Kf,bB xs p x hp,Iu,Ih,<-Kf]
 have:y∈xs.toList↔y∈xs.toList.take p\/y∈xs.toList.drop p:=by
  conv=>lhs;rw[<-Ju p xs.toList]
  exact Iu
 rw[this]
 constructor
 ·rintro (a |a |a)
  ·exact .inl (.inl a)
  ·exact .inr a
  ·exact .inl (.inr a)
 ·rintro ((a |a) |a)
  ·exact .inl a
  ·exact .inr (.inr a)
  ·exact .inr (.inl a)
def nQ {xs:Array Nat}(h:gA xs){j:Nat}(hj:j∉xs):gA (insertAt xs (below xs j) j):=by
 obtain⟨b1,b2,b3⟩:=cF h j
 unfold gA
 rw[bB _ _ _ b1]
 have hl:∀y,y∈xs.toList.take (below xs j)->y < j:=λy hy=>by
  obtain⟨i,hi,e⟩:=IW.mp hy
  have hi1:i < below xs j:=by simp at hi;omega
  have hi2:i < xs.size:=by omega
  have:=b2 i hi1
  rw[IF,IM hi2] at this
  simp at e this
  omega
 have hr:∀y,y∈xs.toList.drop (below xs j)->j < y:=λy hy=>by
  obtain⟨i,hi,e⟩:=IW.mp hy
  have hi2:below xs j + i < xs.size:=by simp at hi;omega
  have:=b3 (below xs j + i) (by omega) hi2
  rw[IF,IM hi2] at this
  simp at e this
  rcases IJ j y with c |c
  ·exact c
  ·have:j=y:=by omega
   exact absurd (by rw[this,<-e];exact Array.getElem_mem _) hj
 refine Je.mpr ⟨List.Pairwise.sublist (KI ..) h,J8.mpr ⟨λy hy=>hr y hy,List.Pairwise.sublist (List.drop_sublist ..) h⟩,λa ha b hb=>?_⟩
 rcases Ih.mp hb with rfl |hb
 ·exact hl a ha
 ·exact Ko (hl a ha) (hr b hb)
def sg {α:Type}(l:List α)(p:Nat)(x:α)(hp:p<=l.length)(i:Nat):(l.take p ++ x :: l.drop p)[i]? =if i < p then l[i]? else if i=p then some x else l[i - 1]?:=by
 rcases Lj i p with c |c |c
 ·rw[HV c,Jd (by simp;omega),List.getElem?_take_of_lt c]
 ·subst c
  rw[HY (IL _),HV rfl,Jb (by simp;omega),Jf,Kx hp,Nat.sub_self]
  rfl
 ·rw[HY (by omega),HY (by omega),Jb (by simp;omega),Jf,Kx hp]
  obtain⟨k,rfl⟩:∃k,i=p + 1 + k:=⟨i - (p + 1),by omega⟩
  rw[show p + 1 + k - p=k + 1 by omega,List.getElem?_cons_succ,K5]
  congr 1
  omega
def Tab.put (T:Tab t hs){j:Nat}{h:Int}(hj:j∉t.place)(hm:j<=t.mask)(r:Reach t.mask (· ∈t.place) h j)(hf:(t.place.size + 1) * 5 < t.mask * 3) :
  Tab (t.put j).1 (hs.take (t.put j).2 ++ h :: hs.drop (t.put j).2)/\(t.put j).2<=hs.length:=by
 obtain⟨e1,e2⟩:=oC t j T.dum
 obtain⟨b1,b2,b3⟩:=cF T.rise j
 have hsz:(insertAt t.place (below t.place j) j).size=t.place.size + 1:=by
  rw[<-ID,bB _ _ _ b1]
  simp;omega
 have hl:below t.place j<=hs.length:=by rw[<-T.size];exact b1
 rw[e1,e2]
 refine⟨⟨T.mask,T.dum,nQ T.rise hj,λy hy=>?_,?_,?_,λi y g hy hg=>?_,T.plain⟩,hl⟩
 ·rcases (kg b1).mp hy with z |z
  ·exact T.le y z
  ·rw[z];exact hm
 ·show (insertAt t.place _ j).size=_
  rw[hsz,T.size];simp;omega
 ·show (insertAt t.place _ j).size * 5 < t.mask * 3
  rw[hsz];exact hf
 ·show Reach t.mask (· ∈insertAt t.place (below t.place j) j) g y
  have hy':(t.place.toList.take (below t.place j) ++ j :: t.place.toList.drop (below t.place j))[i]? =some y:=by
   rw[<-bB _ _ _ b1,Jc];exact hy
  rw[sg _ _ _ (by simpa using b1)] at hy'
  rw[sg _ _ _ hl] at hg
  have old:∀{g y},Reach t.mask (· ∈t.place) g y->Reach t.mask (· ∈insertAt t.place (below t.place j) j) g y:=λr=>r.mono λx hx=>(kg b1).mpr (.inl hx)
  split at hy'
  ·rename_i c
   rw[HV c] at hg
   exact old (T.reach i y g (by simpa using hy') hg)
  ·rename_i c
   rw[HY c] at hg
   split at hy'
   ·rename_i c2
    rw[HV c2] at hg
    cases hg;cases hy'
    exact old r
   ·rename_i c2
    rw[HY c2] at hg
    exact old (T.reach (i - 1) y g (by simpa using hy') hg)
end
abbrev own (o:Array (Option Nat))(j:Nat):Option Nat:=o.getD j none
theorem v9 {mask:Nat}{o:Array (Option Nat)}(hsz:o.size=mask + 1):∀(fuel i q:Nat) (j:Nat),i<=mask->layClean.free mask o fuel i q=some j->
  ∃n,n < 10 * fuel/\(dg mask n (wj mask i q)).j=j/\(∀m,m < n->(own o (dg mask m (wj mask i q)).j).isSome=true)/\own o j=none/\j<=mask:=by
 intro fuel
 induction fuel with
 |zero=>intro i q j _ h;unfold layClean.free at h;cases h
 |succ fuel ih=>
  intro i q j hi h
  unfold layClean.free at h
  have hr:=fW hi
  have ind:∀k,k<=runEnd mask i - i->o.getD (i + k) (some 0)=own o (i + k):=λk hk=>by
   have:i + k < o.size:=by omega
   simp[own,Array.getD,this]
  cases hf:(List.range (runEnd mask i + 1 - i)).find? λk=>(o.getD (i + k) (some 0)).isNone with
  |some k=>
   rw[hf] at h
   dsimp only at h
   have hk:=List.find?_eq_some_iff_getElem.mp hf
   obtain⟨hn,ix,hix,eix,hbef⟩:=hk
   have ek:ix=k:=by simpa using eix
   subst ek
   have hix':ix < runEnd mask i + 1 - i:=by simpa using hix
   cases h
   refine⟨ix,by omega,?_,λm hm=>?_,?_,by omega⟩
   ·rw[gu mask i q ix (by omega)]
   ·rw[gu mask i q m (by omega)]
    have:=hbef m hm
    simp only[List.getElem_range] at this
    rw[ind m (by omega)] at this
    dsimp only
    cases e:own o (i + m) with
    |none=>rw[e] at this;simp at this
    |some _=>rfl
   ·rw[ind ix (by omega)] at hn
    cases e:own o (i + ix) with
    |none=>rfl
    |some _=>rw[e] at hn;simp at hn
  |none=>
   rw[hf] at h
   dsimp only at h
   obtain⟨n,h1,h2,h3,h4,h5⟩:=ih _ _ j (jX mask i q) h
   have hnone:=List.find?_eq_none.mp hf
   refine⟨(runEnd mask i - i + 1) + n,by omega,?_,λm hm=>?_,h4,h5⟩
   ·rw[iC,kM];exact h2
   ·rcases IJ m (runEnd mask i - i + 1) with c |c
    ·rw[gu mask i q m (by omega)]
     have:=hnone m (IH.mpr (by omega))
     rw[ind m (by omega)] at this
     dsimp only
     cases e:own o (i + m) with
     |none=>rw[e] at this;simp at this
     |some _=>rfl
    ·obtain⟨k,rfl⟩:∃k,m=(runEnd mask i - i + 1) + k:=⟨m - (runEnd mask i - i + 1),by omega⟩
     rw[iC,kM]
     exact h3 k (by omega)
theorem xE {mask:Nat}{o:Array (Option Nat)}(hsz:o.size=mask + 1):∀(fuel i q k:Nat),i<=mask->k < fuel->own o (dr mask k (i,q)).1=none->∃j,layClean.free mask o fuel i q=some j:=by
 intro fuel
 induction fuel with
 |zero=>intro i q k _ hk;omega
 |succ fuel ih=>
  intro i q k hi hk hn
  unfold layClean.free
  cases hf:(List.range (runEnd mask i + 1 - i)).find? λk=>(o.getD (i + k) (some 0)).isNone with
  |some k=>exact⟨_,rfl⟩
  |none=>
   dsimp only
   cases k with
   |zero=>
    have hr:=fW hi
    have:=List.find?_eq_none.mp hf 0 (IH.mpr (by omega))
    have e:own o i=none:=hn
    have hi2:i < o.size:=by omega
    simp[own,Array.getD,hi2] at e this
    rw[e] at this;simp at this
   |succ k=>exact ih _ _ k (jX mask i q) (by omega) hn
structure Lay (mask:Nat)(o:Array (Option Nat))(hs:List Int):Prop where
 size:o.size=mask + 1
 all:∀k h,hs[k]? =some h->∃j,own o j=some k/\Reach mask (λx=>(own o x).isSome=true) h j
 one:∀j j' k,own o j=some k->own o j'=some k->j=j'
 le:∀j k,own o j=some k->j<=mask/\k < hs.length
def jO {o:Array (Option Nat)}{j x k:Nat}(hj:j < o.size):own (o.setIfInBounds j (some k)) x=if x=j then some k else own o x:=by
 unfold own
 rw[IF,IF,Array.getElem?_setIfInBounds]
 by_cases e:x=j
 ·subst e;simp[hj]
 ·rw[HY e,HY (λz=>e z.symm)]
def xW {mask:Nat}(hm:zW mask){o:Array (Option Nat)}{hs:List Int}(L:Lay mask o hs)(h:Int)(hl:hs.length<=mask) :
  ∃j,layClean.free mask o (turns mask) (bits h % (mask + 1)) (bits h)=some j/\Lay mask (o.setIfInBounds j (some hs.length)) (hs ++ [h]):=by
 have hi:bits h % (mask + 1)<=mask:=Nat.lt_succ_iff.mp (Nat.mod_lt _ (Nat.succ_pos _))
 have hfree:∃j,j<=mask/\own o j=none:=by
  refine Classical.byContradiction λhc=>?_
  have hall:∀j,j<=mask->∃k,own o j=some k:=λj hj=>by
   cases e:own o j with
   |none=>exact absurd ⟨j,hj,e⟩ hc
   |some k=>exact⟨k,rfl⟩
  have nd:((List.range (mask + 1)).map λj=>(own o j).getD 0).Nodup:=by
   refine Jw.mpr ?_
   refine JZ ?_ J6
   intro a b ha hb hab e
   obtain⟨ka,ea⟩:=hall a (by have:=IH.mp ha;omega)
   obtain⟨kb,eb⟩:=hall b (by have:=IH.mp hb;omega)
   rw[ea,eb] at e
   simp at e
   subst e
   exact hab (L.one a b ka ea eb)
  have:=bN (m:=List.range hs.length) nd λx hx=>by
   obtain⟨j,hj,rfl⟩:=Iz.mp hx
   obtain⟨k,e⟩:=hall j (by have:=IH.mp hj;omega)
   rw[e]
   exact IH.mpr (L.le j k e).2
  simp at this
  omega
 obtain⟨j0,hj0,hn0⟩:=hfree
 obtain⟨k,hk,ek⟩:=mT hm hi (vm h) hj0
 obtain⟨j,hj⟩:=xE L.size (turns mask) _ (bits h) k hi (by unfold turns;omega) (by rw[ek];exact hn0)
 refine⟨j,hj,?_⟩
 obtain⟨n,h1,h2,h3,h4,h5⟩:=v9 L.size _ _ _ _ hi hj
 have hjs:j < o.size:=by rw[L.size];omega
 have grow:∀x,(own o x).isSome=true->(own (o.setIfInBounds j (some hs.length)) x).isSome=true:=λx hx=>by
  rw[jO hjs];split
  ·rfl
  ·exact hx
 refine⟨by rw[Array.size_setIfInBounds];exact L.size,λk g hg=>?_,λa b c ea eb=>?_,λa c ea=>?_⟩
 ·rcases IJ k hs.length with c |c
  ·rw[Jd c] at hg
   obtain⟨x,ex,rx⟩:=L.all k g hg
   refine⟨x,?_,rx.mono grow⟩
   rw[jO hjs,HY (λz=>?_)]
   ·exact ex
   ·subst z;rw[ex] at h4;cases h4
  ·rw[Jb c] at hg
   have:k=hs.length:=by
    have:=(Im.mp hg).1
    simp at this;omega
   subst this
   simp at hg
   subst hg
   exact⟨j,by rw[jO hjs,HV rfl],n,h1,h2,λm hm=>grow _ (h3 m hm)⟩
 ·rw[jO hjs] at ea eb
  split at ea
  ·cases ea
   split at eb
   ·omega
   ·have:=(L.le _ _ eb).2;omega
  ·split at eb
   ·cases eb
    have:=(L.le _ _ ea).2;omega
   ·exact L.one _ _ _ ea eb
 ·rw[jO hjs] at ea
  rw[IQ]
  split at ea
  ·cases ea;simp;omega
  ·have:=L.le _ _ ea;simp;omega
theorem vZ {mask:Nat}(hm:zW mask):∀(rest hs:List Int) (o:Array (Option Nat)),Lay mask o hs->hs.length + rest.length<=mask->
  ∃o',rest.foldl (init:=some (o,hs.length)) (λacc h=>do
   let (owner,k) <-acc
   let j <-layClean.free mask owner (turns mask) (bits h % (mask + 1)) (bits h)
   pure (owner.setIfInBounds j (some k),k + 1))=some (o',hs.length + rest.length)/\Lay mask o' (hs ++ rest)
 | [],hs,o,L,_=>⟨o,rfl,by rw[JS];exact L⟩
 |h :: rest,hs,o,L,hl=>by
  simp only[Iv] at hl
  obtain⟨j,e,L'⟩:=xW hm L h (by omega)
  obtain⟨o',e',L2⟩:=vZ hm rest (hs ++ [h]) _ L' (by simp;omega)
  refine⟨o',?_,by rw[IK] at L2;exact L2⟩
  rw[K0]
  simp only[Option.bind_eq_bind,Option.bind_some,e,Option.pure_def]
  have el:(hs ++ [h]).length=hs.length + 1:=by simp
  rw[el] at e'
  simp only[Option.bind_eq_bind,Option.pure_def] at e'
  rw[e']
  simp;omega
def uM (n j:Nat):own (Array.replicate n none) j=none:=by
 unfold own
 rw[IF,Array.getElem?_replicate]
 split <;> rfl
def AD (mask:Nat):Lay mask (Array.replicate (mask + 1) none) []:=
 ⟨by simp,λk h e=>by simp at e,λj j' k e _=>by (rw[uM] at e;cases e),λj k e=>by (rw[uM] at e;cases e)⟩
def wM {mask:Nat}(hm:zW mask)(hs:Array Int)(hl:hs.size * 5 < mask * 3)(finger moves:Nat)(led:Bool) :
  ∃t order,laid mask finger moves led true hs=some (t,order)/\t.led=led/\t.mask=mask/\order.toList.Nodup/\(∀k,k∈order.toList↔k < hs.size)/\
   Tab t (order.toList.map λk=>hs.toList.getD k 0):=by
 obtain⟨o,e,L⟩:=vZ hm hs.toList [] _ (AD mask) (by simp;omega)
 simp only[List.nil_append] at L
 have ec:layClean mask hs=some o:=by
  unfold layClean
  rw[<-Array.foldl_toList]
  simp only[JR] at e
  rw[e];rfl
 have hlive:∀j k,(j,k)∈((List.range (mask + 1)).filterMap λj=>(o.getD j none).map (j, ·))↔own o j=some k:=λj k=>by
  rw[Kw]
  constructor
  ·rintro⟨x,_,q⟩
   cases ex:o.getD x none with
   |none=>rw[ex] at q;cases q
   |some y=>rw[ex] at q;simp at q;rw[<-q.1,<-q.2];exact ex
  ·intro q
   refine⟨j,IH.mpr (by have:=(L.le j k q).1;omega),?_⟩
   have:o.getD j none=some k:=q
   rw[this];rfl
 have hpw:((List.range (mask + 1)).filterMap λj=>(o.getD j none).map (j, ·)).Pairwise (λa b=>a.1 < b.1):=by
  refine List.pairwise_filterMap.mpr ?_
  refine List.Pairwise.imp ?_ List.pairwise_lt_range
  intro a b hab x hx y hy
  cases ea:o.getD a none with
  |none=>rw[ea] at hx;cases hx
  |some u=>
   cases eb:o.getD b none with
   |none=>rw[eb] at hy;cases hy
   |some v=>
    rw[ea] at hx;rw[eb] at hy
    simp at hx hy
    rw[<-hx,<-hy];exact hab
 generalize hlv:((List.range (mask + 1)).filterMap λj=>(o.getD j none).map (j, ·))=live at hlive hpw
 refine⟨{mask,place:=(live.map (·.1)).toArray,dummies:=#[],finger,led,moves,plain:=true},(live.map (·.2)).toArray,?_,rfl,rfl,?_,λk=>?_,?_⟩
 ·unfold laid
  rw[ec]
  simp only[Option.bind_eq_bind,Option.bind_some,Option.pure_def,hlv]
 ·have:(live.map (·.2)).Nodup:=by
   refine Jw.mpr (JZ ?_ hpw)
   intro a b ha hb hab ee
   have h1:=(hlive a.1 a.2).mp ha
   have h2:=(hlive b.1 b.2).mp hb
   rw[ee] at h1
   have:=L.one _ _ _ h1 h2
   omega
  simpa using this
 ·rw[Iz]
  constructor
  ·rintro⟨x,hx,rfl⟩
   have:=(L.le x.1 x.2 ((hlive x.1 x.2).mp hx)).2
   simpa using this
  ·intro hk
   have hk':k < hs.toList.length:=by simpa using hk
   obtain⟨j,ej,_⟩:=L.all k _ (HU hk')
   exact⟨(j,k),(hlive j k).mpr ej,rfl⟩
 ·have hord:live.length=hs.size:=by
   have a1:(live.map (·.2)).Nodup:=by
    refine Jw.mpr (JZ ?_ hpw)
    intro a b ha hb hab ee
    have h1:=(hlive a.1 a.2).mp ha
    have h2:=(hlive b.1 b.2).mp hb
    rw[ee] at h1
    have:=L.one _ _ _ h1 h2
    omega
   have b1:=bN (m:=List.range hs.size) a1 λx hx=>by
    obtain⟨y,hy,rfl⟩:=Iz.mp hx
    have:=(L.le y.1 y.2 ((hlive y.1 y.2).mp hy)).2
    exact IH.mpr (by simpa using this)
   have b2:=bN (l:=List.range hs.size) (m:=live.map (·.2)) J6 λx hx=>by
    have hk':x < hs.toList.length:=by simpa using IH.mp hx
    obtain⟨j,ej,_⟩:=L.all x _ (HU hk')
    exact Iz.mpr ⟨(j,x),(hlive j x).mpr ej,rfl⟩
   simp at b1 b2
   omega
  refine⟨hm,rfl,?_,λj hj=>?_,?_,?_,λi j h hi hh=>?_,rfl⟩
  ·show (live.map (·.1)).toArray.toList.Pairwise _
   rw[JT]
   exact Jw.mpr hpw
  ·have:j∈live.map (·.1):=by simpa using hj
   obtain⟨x,hx,rfl⟩:=Iz.mp this
   exact (L.le x.1 x.2 ((hlive x.1 x.2).mp hx)).1
  ·simp
  ·show (live.map (·.1)).toArray.size * 5 < mask * 3
   simp[hord];exact hl
  ·have hi':(live.map (·.1))[i]? =some j:=by simpa using hi
   have hh':((live.map (·.2)).map λk=>hs.toList.getD k 0)[i]? =some h:=by simpa using hh
   rw[Ip] at hi'
   rw[Ip,Ip] at hh'
   cases ex:live[i]? with
   |none=>rw[ex] at hi';cases hi'
   |some x=>
    rw[ex] at hi' hh'
    simp at hi' hh'
    have hxl:=(hlive x.1 x.2).mp (Ij ex)
    have hk:=(L.le _ _ hxl).2
    have hk2:x.2 < hs.size:=by simpa using hk
    obtain⟨j2,ej2,r⟩:=L.all x.2 h (by
     rw[HU hk]
     simp[hk2] at hh'
     simpa using hh')
    have:j2=j:=by rw[<-hi'];exact L.one _ _ _ ej2 hxl
    subst this
    refine r.mono λy hy=>?_
    show y∈(live.map (·.1)).toArray
    cases ey:own o y with
    |none=>rw[ey] at hy;cases hy
    |some k=>
     have:y∈live.map (·.1):=Iz.mpr ⟨(y,k),(hlive y k).mpr ey,rfl⟩
     simpa using this
abbrev Pr:=Int×Int
def hp (p:Pr):Int:=reduceHash (Builtin.Tuple.tupleHashOf [hashInt p.1,hashInt p.2])
def Sm (p:Pr):Prop:=(0<=p.1/\p.1 < 8)/\(0<=p.2/\p.2 < 8)
def lV:List Pr:=(List.range 64).map λk=>(((k / 8:Nat):Int),((k % 8:Nat):Int))
def jg {p:Pr}(h:Sm p):p∈lV:=by
 unfold lV
 obtain⟨⟨a,b⟩,c,d⟩:=h
 refine Iz.mpr ⟨p.1.toNat * 8 + p.2.toNat,IH.mpr (by omega),?_⟩
 refine Prod.ext ?_ ?_ <;> dsimp only <;> omega
def xQ:(lV.map hp).Nodup:=by decide +kernel
theorem jV {α β:Type}{f:α->β}:∀{l:List α},(l.map f).Nodup->∀a b,a∈l->b∈l->f a=f b->a=b
 | [],_,_,_,h,_,_=>by cases h
 |x :: l,hn,a,b,ha,hb,e=>by
  have hn':=Jk.mp hn
  rcases Ih.mp ha with ea |ha
  ·rcases Ih.mp hb with eb |hb
   ·rw[ea,eb]
   ·exact absurd (Iz.mpr ⟨b,hb,by rw[<-e,ea]⟩) hn'.1
  ·rcases Ih.mp hb with eb |hb
   ·exact absurd (Iz.mpr ⟨a,ha,by rw[e,eb]⟩) hn'.1
   ·exact jV hn'.2 a b ha hb e
def De {p q:Pr}(hp1:Sm p)(hq:Sm q)(e:hp p=hp q):p=q:=jV xQ p q (jg hp1) (jg hq) e
def tT {l:List Pr}(hn:l.Nodup)(h:∀p,p∈l->Sm p):l.length<=64:=by
 have:=bN (m:=lV) hn λx hx=>jg (h x hx)
 simpa[lV] using this
section
variable {prog:Program}{w:World}{A:Around}{E:Value->Shared->Prop}{s:Shared}
abbrev a8 (prog:Program)(w:World)(h:Heap)(p:Pr)(a:Addr):Prop:=IsTupleKey (intKind prog w) h [p.1,p.2] a
def a8.inj {h:Heap}{p q:Pr}{a:Addr}(x:a8 prog w h p a)(y:a8 prog w h q a):p=q:=by
 have:=IsTupleKey.inj x y
 simp at this
 exact Prod.ext this.1 this.2
structure p5 (f:Pr->Int)(prog:Program)(w:World)(led:Bool)(h:Heap)(S:Addr)(ps:List (Addr×Pr)):Prop where
 ex:∃o ep t,h.get? S=some o/\o.ExactSet/\o.data=.set (ps.map λq=>(f q.2,Value.ref q.1)).toArray ep t/\Tab t (ps.map λq=>f q.2)/\t.led=led
 at':∀q,q∈ps->a8 prog w h q.2 q.1/\Sm q.2
 nd:(ps.map (·.2)).Nodup
def m6 {t:SetTable}{hs:List Int}(T:Tab t hs){n:Nat}(e:n=hs.length):t.fits n=true:=by
 unfold SetTable.fits SetTable.fill
 have:=T.load'
 simp[T.size,T.dum,e]
 rw[T.size] at this;exact this
def zG (a:Addr)(wanted:Nat):setRelay a wanted=(do
  let (es,_,t) <-setState a
  if SetTable.sizeAbove wanted > sizeLine then unsupported "set:memory"
  let (es,t) <-(do
   let some (t,order):=t.relaid (es.map (·.1)) wanted |unsupported "internal:set-table-without-room"
   let es':=order.filterMap (es[·]?)
   if es'.size != es.size then unsupported "internal:set-table-lost-an-element"
   pure (es',t))
  storeSet a es t):=rfl
def wR (a:Addr)(x:Value)(h:Int)(fuel:Nat):setSearchFrom a x h true (fuel + 1) none=(do
  let (es,_,t) <-setState a
  if t.gaveWay then unsupported "set:on-a-table-that-gave-way"
  let some met:=t.probe (λi=>(es[i]?.map (·.1)).getD 0) h (t.probeStart h) |unsupported "internal:set-table-without-an-empty-slot"
  match met with
  | .empty j dummy=>
   match dummy with
   |none=>return .free j false
   |some d=>
    if true && t.slot d != .dummy then rule "set.search.the-dummy-was-taken";return <-setSearchFrom a x h true fuel none
    return .free d true
  | .candidate j i next=>
   if !t.led then
    if <-searchCouldBeSeen x ((es.filter (·.1 == h)).toList.map (·.2)) then unsupported "set:the-search-would-show-the-table"
   let some (_,y):=es[i]? |unsupported "internal:set-entry"
   let equal <-holding [y] (eqBool y x)
   let (es',_,t') <-setState a
   if true && equal then return .there none
   let some same:=t'.sameMemory t.moves t.mask |unsupported "set.changed-during-lookup:is-the-new-block-at-the-old-address"
   let still <-match (if same then t'.slot j else .empty) with
    | .live i'=>match es'[i']? with
     |some (_,y')=>do pure (if <-isSame y' y then some i' else none)
     |none=>pure none
    |_=>pure none
   match still with
   |none=>rule "set.search.anew";setSearchFrom a x h true fuel none
   |some i'=>if equal then return .there (some i') else setSearchFrom a x h true fuel (some next)):=rfl
theorem qL (n:Nat){v:Value}(h:carriedByValue v=true):ofAClassStatement n v=pure false:=by
 cases v with
 |ref a=>simp[carriedByValue] at h
 |_=>first |rfl | (unfold ofAClassStatement;rfl)
def uc (n:Nat){v:Value}{k:Int}(h:(intKind prog w).is k v=true):hashByValue n v=pure true:=by
 obtain⟨t,rfl⟩:=J2 h
 cases n <;> rfl
def jI {p:Pr}{a:Addr}{Q:Bool->Shared->Prop}(hk:a8 prog w s.heap p a)(h:Q false s):wpAny (model prog w) A (ofAClassStatement 8 (.ref a)) Q E s:=by
 have hT:=hk.typeIs
 obtain⟨o,items,n,ho,hc,hd,hi⟩:=hk
 unfold ofAClassStatement
 refine HS (Kn hT ?_)
 dsimp only
 rw[HV (by decide)]
 refine HS (HW ?_)
 simp only[Ks,Iw,IZ]
 refine HS (wpAny_seqItems ho hd ?_)
 dsimp only
 refine HS ?_
 rw[<-Array.forIn_toList]
 refine wpAny_forIn_list _ (λrest r s'=>r.1=none/\s'=s/\∀v∈rest,carriedByValue v=true) _ ?_ ?_ _ _ ⟨rfl,rfl,hi.byValue⟩
 ·rintro v rest r s' ⟨hr,rfl,hall⟩
  rw[qL _ (hall v Ig)]
  refine HS (HW ?_)
  simp only[Iw,IZ]
  exact HW ⟨rfl,rfl,λu hu'=>hall u (Ie _ hu')⟩
 ·rintro⟨r1,r2⟩ s' ⟨hr,rfl,_⟩
  simp only at hr
  subst hr
  exact HW h
def ql {p:Pr}{a:Addr}{Q:Bool->Shared->Prop}(hk:a8 prog w s.heap p a)(h:Q true s):wpAny (model prog w) A (hashByValue 8 (.ref a)) Q E s:=by
 have hT:=hk.typeIs
 obtain⟨o,items,n,ho,hc,hd,hi⟩:=hk
 unfold hashByValue
 refine HS (wpAny_specialOf hT F.slot_tuple_hash.lookup ?_)
 dsimp only
 refine HS (wpAny_seqItems ho hd ?_)
 simp only[Option.getD_some]
 refine HS ?_
 rw[<-Array.forIn_toList]
 refine wpAny_forIn_list _ (λrest r s'=>r.1=none/\s'=s/\∀v∈rest,∃k,(intKind prog w).is k v=true) _ ?_ ?_ _ _ ⟨rfl,rfl,λv hv=>?_⟩
 ·rintro v rest r s' ⟨hr,rfl,hall⟩
  obtain⟨k,hk⟩:=hall v Ig
  rw[uc _ hk]
  refine HS (HW ?_)
  simp only[Ks,Iw,IZ]
  exact HW ⟨rfl,rfl,λu hu'=>hall u (Ie _ hu')⟩
 ·rintro⟨r1,r2⟩ s' ⟨hr,rfl,_⟩
  simp only at hr
  subst hr
  exact HW h
 ·generalize items.toList=l at *
  cases hi with
  |cons h1 hi=>
   cases hi with
   |cons h2 hi=>
    cases hi
    rcases Ih.mp hv with rfl |hv
    ·exact⟨_,h1⟩
    ·rcases Ih.mp hv with rfl |hv
     ·exact⟨_,h2⟩
     ·cases hv
def uJ {p:Pr}{a:Addr}(hk:a8 prog w s.heap p a):∀(l:List Value) {Q:Bool->Shared->Prop},(∀v∈l,∃q b,v=.ref b/\a8 prog w s.heap q b)->Q false s->wpAny (model prog w) A (searchCouldBeSeen (.ref a) l) Q E s:=by
 intro l Q hl h
 unfold searchCouldBeSeen
 refine HS ?_
 refine wpAny_forIn_list _ (λrest r s'=>r.1=none/\s'=s/\∀v∈rest,∃q b,v=.ref b/\a8 prog w s.heap q b) _ ?_ ?_ _ _ ⟨rfl,rfl,hl⟩
 ·rintro v rest r s' ⟨hr,rfl,hall⟩
  obtain⟨q,b,rfl,hb⟩:=hall v Ig
  have hrest:=λu hu'=>hall u (Ie _ hu')
  dsimp only
  split
  ·exact HW ⟨rfl,rfl,hrest⟩
  ·refine HS (wpAny_eqIsQuiet_tuple hk ?_)
   simp only[Ks,Iw,IZ]
   refine HS (wpAny_eqIsQuiet_tuple hb ?_)
   simp only[Ks,Iw,IZ]
   refine HS (jI hk ?_)
   simp only[Iw,IZ]
   refine HS (jI hb ?_)
   simp only[Iw,IZ]
   exact HW ⟨rfl,rfl,hrest⟩
 ·rintro⟨r1,r2⟩ s' ⟨hr,rfl,_⟩
  simp only at hr
  subst hr
  exact HW h
end
section
variable {prog:Program}{w:World}{A:Around}{E:Value->Shared->Prop}{s:Shared}
def sd (t:SetTable)(hs:Array Int)(wanted:Nat)(hp:t.plain=true):t.relaid hs wanted=laid (sizeAbove wanted - 1) t.finger (t.movedTo (sizeAbove wanted - 1)) t.led true hs:=by
 unfold relaid;rw[hp]
def BX:sizeAbove (grown 5)=32/\sizeAbove (grown 19)=128:=by decide +kernel
theorem filterMap_get {α:Type}(es:Array α):∀(order:List Nat),(∀k,k∈order->k < es.size)->∃l:List α,order.filterMap (λi=>es[i]?)=l/\l.length=order.length/\(∀(i k:Nat),order[i]? =some k->l[i]? =es[k]?)/\∀x,x∈l->∃k,k∈order/\es[k]? =some x
 | [],_=>⟨[],rfl,rfl,λi k h=>by simp at h,λx hx=>by cases hx⟩
 |k :: r,h=>by
  obtain⟨l,e1,e2,e3,e4⟩:=filterMap_get es r λx hx=>h x (Ie _ hx)
  have hk:=h k (Ig ..)
  refine⟨es[k] :: l,by rw[J4,IM hk,e1],by simp[e2],λi x hi=>?_,λx hx=>?_⟩
  ·cases i with
   |zero=>simp at hi;subst hi;simp[hk]
   |succ i=>simp at hi;simpa using e3 i x hi
  ·rcases Ih.mp hx with rfl |hx
   ·exact⟨k,Ig ..,by simp[hk]⟩
   ·obtain⟨y,hy,q⟩:=e4 x hx
    exact⟨y,Ie _ hy,q⟩
abbrev cL (f:Pr->Int)(q:Addr×Pr):Int×Value:=(f q.2,Value.ref q.1)
def pS (f:Pr->Int){mask:Nat}(hm:zW mask){ps:List (Addr×Pr)}(hl:ps.length * 5 < mask * 3)(finger moves:Nat)(led:Bool) :
  ∃(t:SetTable) (order:Array Nat) (ps':List (Addr×Pr)),laid mask finger moves led true ((ps.map (cL f)).toArray.map (·.1))=some (t,order)/\order.filterMap (λi=>(ps.map (cL f)).toArray[i]?)=(ps'.map (cL f)).toArray/\ps'.length=ps.length/\
   (∀q,q∈ps'↔q∈ps)/\Tab t (ps'.map λq=>f q.2)/\t.led=led:=by
 obtain⟨t,order,e,el,em,nd,mem,T⟩:=wM hm ((ps.map (cL f)).toArray.map (·.1)) (by simpa using hl) finger moves led
 have hsz:((ps.map (cL f)).toArray.map (·.1)).size=ps.length:=by simp
 obtain⟨ps',f1,f2,f3,f4⟩:=filterMap_get ps.toArray order.toList λk hk=>by
  have:=(mem k).mp hk;rw[hsz] at this;simpa using this
 have hlen:order.toList.length=ps.length:=by
  have a1:=bN (m:=List.range ps.length) nd λx hx=>IH.mpr (by have:=(mem x).mp hx;rwa [hsz] at this)
  have a2:=bN (l:=List.range ps.length) (m:=order.toList) J6 λx hx=>(mem x).mpr (by rw[hsz];exact IH.mp hx)
  simp at a1 a2 ⊢;omega
 refine⟨t,order,ps',e,?_,by omega,λq=>⟨λhq=>?_,λhq=>?_⟩,?_,el⟩
 ·apply Array.toList_inj.mp
  rw[Array.toList_filterMap,<-f1]
  simp only[JT]
  rw[List.map_filterMap]
  congr 1
  funext i
  simp
 ·obtain⟨k,_,q2⟩:=f4 q hq
  rw[List.getElem?_toArray] at q2
  exact Ij q2
 ·obtain⟨k,hk,q2⟩:=IW.mp hq
  have hko:k∈order.toList:=(mem k).mpr (by rw[hsz];exact hk)
  obtain⟨i,hi,e2⟩:=IW.mp hko
  have:=f3 i k (by rw[HU hi,e2])
  rw[List.getElem?_toArray,HU hk,q2] at this
  exact Ij this
 ·have:(order.toList.map λk=>((ps.map (cL f)).toArray.map (·.1)).toList.getD k 0)=ps'.map λq=>f q.2:=by
   apply KJ
   intro i
   rw[Ip,Ip]
   cases hi:order.toList[i]? with
   |none=>
    have:ps'[i]? =none:=List.getElem?_eq_none_iff.mpr (by rw[f2];exact List.getElem?_eq_none_iff.mp hi)
    rw[this];rfl
   |some k=>
    have hk:k < ps.length:=by have:=(mem k).mp (Ij hi);rwa [hsz] at this
    have:=f3 i k hi
    rw[List.getElem?_toArray,HU hk] at this
    rw[this]
    simp[hk]
  rw[<-this];exact T
theorem ll:∀{l m:List Int},m.Nodup->(∀x,x∈m->x∈l)->l.length<=m.length->l.Nodup
 | [],_,_,_,_=>List.nodup_nil
 |a :: l,m,hn,hs,hl=>by
  by_cases ha:a∈m
  ·have hnot:a∉l:=λz=>by
    have:=bN (m:=l) hn λx hx=>by
     rcases Ih.mp (hs x hx) with e |e
     ·rw[e];exact z
     ·exact e
    simp only[Iv] at hl;omega
   refine Jk.mpr ⟨hnot,ll (m:=m.erase a) (hn.erase a) (λx hx=>?_) ?_⟩
   ·have:=(hn.mem_erase_iff).mp hx
    rcases Ih.mp (hs x this.2) with e |e
    ·exact absurd e this.1
    ·exact e
   ·rw[K4 ha];simp only[Iv] at hl;omega
  ·have:=bN (m:=l) hn λx hx=>by
    rcases Ih.mp (hs x hx) with e |e
    ·exact absurd (e▸hx) ha
    ·exact e
   simp only[Iv] at hl;omega
def qd (a:Addr)(es:Array (Int×Value)):byScan (.ref a) es=false:=by unfold byScan Value.scannable;simp
def sP {t:SetTable}(h:zW t.mask):t.gaveWay=false:=by
 unfold SetTable.gaveWay
 rcases h with e |e |e <;> rw[e] <;> decide
def p5.add {f:Pr->Int}(hinj:∀p q,Sm p->Sm q->f p=f q->p=q){led:Bool}{S a:Addr}{ps:List (Addr×Pr)}{p:Pr}{Q:Bool->Shared->Prop}(P:p5 f prog w led s.heap S ps)(hk:a8 prog w s.heap p a)(hs:Sm p)(hu:A.units < cLine)
  (h:∀(b:Bool) (h':Heap) (ps':List (Addr×Pr)),Heap.SameBut S s.heap h'->p5 f prog w led h' S ps'->(∀q,q∈ps'->q∈ps\/q=(a,p))->(∀q,q∈ps->q∈ps')->(∃q,q∈ps'/\q.2=p)->Q b {s with heap:=h'}) :
  wpAny (model prog w) A (setAddHashed S (.ref a) (f p)) Q E s:=by
 obtain⟨o,ep,t,ho,hex,hd,T,hled⟩:=P.ex
 have hfit:t.fits (ps.map (cL f)).toArray.size=true:=m6 T (by simp)
 have ha:∀i,i < (ps.map λq=>f q.2).length->some ((((ps.map (cL f)).toArray)[i]?.map (·.1)).getD 0)=(ps.map λq=>f q.2)[i]?:=λi hi=>by
  have hi':i < ps.length:=by simpa using hi
  simp[hi']
 unfold setAddHashed
 refine JE ?_
 unfold setAddHashedIn
 refine HS (Jm ho hd hfit ?_)
 dsimp only
 rw[qd]
 simp only[Iw,IZ]
 unfold setSearch
 rw[wR]
 refine HS (HS (Jm ho hd hfit ?_))
 dsimp only
 rw[sP T.mask]
 simp only[Iw,IZ]
 by_cases hm:f p∈ps.map λq=>f q.2
 ·
  obtain⟨j,i,nx,e1,e2,e3,e4⟩:=T.present ha hm
  rw[e1]
  dsimp only
  have hi:i < ps.length:=by simpa using e3
  have e5:f (ps[i].2)=f p:=by
   rw[Ip,HU hi] at e4
   simpa using e4
  have hq:=P.at' ps[i] (JI hi)
  have e6:ps[i].2=p:=hinj _ _ hq.2 hs e5
  have hget:((ps.map (cL f)).toArray)[i]? =some (f ps[i].2,.ref ps[i].1):=by simp[hi]
  have rest:wpAny (model prog w) A (do
    let some (_,y):=((ps.map (cL f)).toArray)[i]? |unsupported "internal:set-entry"
    let equal <-holding [y] (eqBool y (.ref a))
    let (es',_,t') <-setState S
    if true && equal then return SetFound.there none
    let some same:=t'.sameMemory t.moves t.mask |unsupported "set.changed-during-lookup:is-the-new-block-at-the-old-address"
    let still <-match (if same then t'.slot j else .empty) with
     | .live i'=>match es'[i']? with
      |some (_,y')=>do pure (if <-isSame y' y then some i' else none)
      |none=>pure none
     |_=>pure none
    match still with
    |none=>rule "set.search.anew";setSearchFrom S (.ref a) (f p) true 99999 none
    |some i'=>if equal then return .there (some i') else setSearchFrom S (.ref a) (f p) true 99999 (some nx))
    (λr s'=>s'=s/\r=.there none) E s:=by
   rw[hget]
   dsimp only
   refine HS (JE (wpAny_eqBool_tuple hu hq.1 hk ?_))
   rw[Ik (by rw[e6])]
   refine HS (Jm ho hd hfit ?_)
   dsimp only
   simp only[Bool.and_self,Js]
   exact HW ⟨rfl,rfl⟩
  have fin:∀r s',s'=s/\r=SetFound.there none->wpAny (model prog w) A (match r with
    | .free slot wasDummy=>(do
     let (es,_,t) <-setState S
     let (t,p'):=t.put slot
     let byValue <-if t.plain then hashByValue 8 (.ref a) else pure true
     let t:=if byValue then t else {t with plain:=false}
     storeSet S (SetTable.insertAt es p' (f p,.ref a)) t
     if !wasDummy && t.tooFull then setRelay S (SetTable.grown (es.size + 1))
     return true)
    |_=>pure false) Q E s':=by
   rintro r s' ⟨rfl,rfl⟩
   exact HW (h false s'.heap ps (Heap.SameBut.refl ..) P (λq hq=>.inl hq) (λq hq=>hq) ⟨ps[i],JI hi,e6⟩)
  cases hl:led with
  |true=>
   rw[hled,hl]
   simp only[Ks,Iw,IZ]
   exact JK rest (λr s' hr=>fin r s' hr) λ_ _ x=>x
  |false=>
   rw[hled,hl]
   simp only[Bool.not_false,Js]
   refine HS (uJ hk _ (λv hv=>?_) ?_)
   ·obtain⟨x,hx,rfl⟩:=Iz.mp hv
    have hx':x∈(ps.map (cL f)).toArray:=(Array.mem_filter.mp (Kf.mp hx)).1
    have hx2:x∈ps.map (cL f):=by simpa using hx'
    obtain⟨q,hq,rfl⟩:=Iz.mp hx2
    exact⟨q.2,q.1,rfl,(P.at' q hq).1⟩
   ·simp only[Iw,IZ]
    exact JK rest (λr s' hr=>fin r s' hr) λ_ _ x=>x
 ·
  obtain⟨j,e1,e2,e3,e4⟩:=T.absent ha hm
  rw[e1]
  dsimp only
  refine HW ?_
  dsimp only
  refine HS (Jm ho hd hfit ?_)
  dsimp only
  obtain⟨q1,q2⟩:=oC t j T.dum
  have hpl:(t.put j).1.plain=true:=by rw[q1];exact T.plain
  rw[hpl]
  simp only[Js]
  refine HS (ql hk ?_)
  simp only[Js]
  have hb:(t.put j).2<=ps.length:=by
   rw[q2]
   have:=(cF T.rise j).1
   rw[T.size] at this;simpa using this
  have hins:insertAt (ps.map (cL f)).toArray (t.put j).2 (f p,Value.ref a)=((ps.take (t.put j).2 ++ (a,p) :: ps.drop (t.put j).2).map (cL f)).toArray:=by
   apply Array.toList_inj.mp
   rw[bB _ _ _ (by simpa using hb)]
   simp[List.map_take,List.map_drop]
  rw[hins]
  generalize hps':ps.take (t.put j).2 ++ (a,p) :: ps.drop (t.put j).2=ps1
  have mem1:∀q,q∈ps1↔q∈ps\/q=(a,p):=λq=>by
   rw[<-hps',Iu,Ih]
   conv=>rhs;rw[<-Ju (t.put j).2 ps,Iu]
   constructor
   ·rintro (z |z |z)
    ·exact .inl (.inl z)
    ·exact .inr z
    ·exact .inl (.inr z)
   ·rintro ((z |z) |z)
    ·exact .inl z
    ·exact .inr (.inr z)
    ·exact .inr (.inl z)
  have len1:ps1.length=ps.length + 1:=by rw[<-hps'];simp;omega
  have nd1:(ps1.map (·.2)).Nodup:=by
   have hnot:p∉ps.map (·.2):=λz=>by
    obtain⟨q,hq,e⟩:=Iz.mp z
    exact hm (Iz.mpr ⟨q,hq,by rw[e]⟩)
   have perm:(ps1.map (·.2)).Perm (p :: ps.map (·.2)):=by
    rw[<-hps']
    have:(ps.take (t.put j).2 ++ (a,p) :: ps.drop (t.put j).2).Perm ((a,p) :: ps):=by
     refine List.perm_middle.trans ?_
     rw[Ju]
    exact this.map (·.2)
   exact perm.nodup_iff.mpr (Jk.mpr ⟨hnot,P.nd⟩)
  have ne:∀b q,a8 prog w s.heap q b->b≠S:=λb q ⟨o',_,_,ho',_,hd',_⟩ e=>by
   subst e
   rw[ho] at ho';cases ho'
   rw[hd] at hd';cases hd'
  have at1:∀{h':Heap},Heap.SameBut S s.heap h'->∀q,q∈ps1->a8 prog w h' q.2 q.1/\Sm q.2:=λ{h'} hsb q hq=>by
   have key:∀{b:Addr} {q:Pr},a8 prog w s.heap q b->a8 prog w h' q b:=λ{b q} hb=>by
    have hne:=ne b q hb
    obtain⟨o',i',n',ho',r'⟩:=hb
    exact⟨o',i',n',(hsb.2 b hne).trans ho',r'⟩
   rcases (mem1 q).mp hq with z |z
   ·exact⟨key (P.at' q z).1,(P.at' q z).2⟩
   ·subst z;exact⟨key hk,hs⟩
  have hlen64:ps1.length<=64:=by
   have:=tT nd1 λx hx=>by
    obtain⟨q,hq,rfl⟩:=Iz.mp hx
    exact (at1 (Heap.SameBut.refl ..) q hq).2
   simpa using this
  have hsize:((ps1.map (cL f)).toArray).size<=sizeLine:=by rw[IV];simp;omega
  refine HS (wpAny_storeSet_of ho hd ?_ hsize)
  have ho1:(s.heap.update S (Obj.putSet (ps1.map (cL f)).toArray (t.put j).1)).get? S=some {o with data:=.set (ps1.map (cL f)).toArray (ep + 1) (t.put j).1}:=by
   have:=Jt (Obj.putSet (ps1.map (cL f)).toArray (t.put j).1) ho (by rw[putSet_of _ _ hd];rfl)
   rw[putSet_of _ _ hd] at this;exact this
  have sb1:=Heap.SameBut.update s.heap S (Obj.putSet (ps1.map (cL f)).toArray (t.put j).1)
  have hex1:({o with data:=.set (ps1.map (cL f)).toArray (ep + 1) (t.put j).1}:Obj).ExactSet:=hex
  have psz:(t.put j).1.place.size=ps.length + 1:=by
   rw[q1]
   show (insertAt t.place (below t.place j) j).size=_
   rw[<-ID,bB _ _ _ (cF T.rise j).1]
   have:=T.size
   simp at this ⊢
   have:=(cF T.rise j).1
   omega
  have dum1:(t.put j).1.dummies=#[]:=by rw[q1];exact T.dum
  have mask1:(t.put j).1.mask=t.mask:=by rw[q1]
  have tsz:t.place.size=ps.length:=by simpa using T.size
  simp only[Bool.not_false,Bool.true_and]
  cases htf:(t.put j).1.tooFull with
  |false=>
   simp only[Iw,IZ]
   have hload:(t.place.size + 1) * 5 < t.mask * 3:=by
    unfold SetTable.tooFull SetTable.fill at htf
    rw[psz,dum1,mask1] at htf
    simp at htf
    rw[tsz];exact htf
   obtain⟨T1,_⟩:=T.put e2 e3 e4 hload
   refine HS (HW (HW (h true _ ps1 sb1 ⟨⟨_,ep + 1,_,ho1,hex1,rfl,?_,?_⟩,at1 sb1,nd1⟩ (λq hq=>(mem1 q).mp hq) (λq hq=>(mem1 q).mpr (.inl hq)) ⟨(a,p),(mem1 _).mpr (.inr rfl),rfl⟩)))
   ·rw[<-hps']
    simpa[List.map_take,List.map_drop] using T1
   ·rw[q1];exact hled
  |true=>
   simp only[Js]
   have hfull:t.mask * 3<=(ps.length + 1) * 5:=by
    unfold SetTable.tooFull SetTable.fill at htf
    rw[psz,dum1,mask1] at htf
    simpa using htf
   have hload:=T.load
   rw[tsz] at hload
   have hcase:∃mask',zW mask'/\sizeAbove (grown (ps.length + 1)) - 1=mask'/\sizeAbove (grown (ps.length + 1))<=sizeLine/\(ps.length + 1) * 5 < mask' * 3:=by
    rcases T.mask with e |e |e
    ·have:ps.length + 1=5:=by rw[e] at hfull hload;omega
     rw[this,BX.1]
     exact⟨31,.inr (.inl rfl),rfl,by rw[IV];decide,by decide⟩
    ·have:ps.length + 1=19:=by rw[e] at hfull hload;omega
     rw[this,BX.2]
     exact⟨127,.inr (.inr rfl),rfl,by rw[IV];decide,by decide⟩
    ·rw[e] at hfull;omega
   obtain⟨mask',hm3,em,hline,hl2⟩:=hcase
   have hes:(ps.map (cL f)).toArray.size + 1=ps.length + 1:=by simp
   rw[hes,zG]
   have hfit1:(t.put j).1.fits ((ps1.map (cL f)).toArray).size=true:=by
    unfold SetTable.fits SetTable.fill
    have hpl2:ps.length + 1<=t.mask:=by
     rcases T.mask with e |e |e <;> rw[e] at hload ⊢ <;> omega
    rw[psz,dum1,mask1]
    simp[len1,hpl2]
   refine HS (HS (Jm ho1 rfl hfit1 ?_))
   dsimp only
   rw[HY (by omega)]
   rw[sd _ _ _ hpl,em]
   obtain⟨t2,order,ps2,g1,g2,g3,g4,g5,g6⟩:=pS f hm3 (ps:=ps1) (by rw[len1];exact hl2) (t.put j).1.finger ((t.put j).1.movedTo mask') (t.put j).1.led
   rw[g1]
   simp only[bind_pure_comp,pure_bind]
   rw[g2]
   have hne:((ps2.map (cL f)).toArray.size != (ps1.map (cL f)).toArray.size)=false:=by simp[g3]
   rw[hne]
   simp only[Iw,IZ]
   have hsize2:((ps2.map (cL f)).toArray).size<=sizeLine:=by rw[IV];simp;omega
   refine HS (HW ?_)
   refine wpAny_storeSet_of ho1 rfl ?_ hsize2
   have ho2:((s.heap.update S (Obj.putSet (ps1.map (cL f)).toArray (t.put j).1)).update S (Obj.putSet (ps2.map (cL f)).toArray t2)).get? S=some {o with data:=.set (ps2.map (cL f)).toArray (ep + 1 + 1) t2}:=by
    have:=Jt (Obj.putSet (ps2.map (cL f)).toArray t2) ho1 (by rw[putSet_of (ep:=ep + 1) _ _ rfl];rfl)
    rw[putSet_of (ep:=ep + 1) _ _ rfl] at this;exact this
   have sb2:=sb1.trans (Heap.SameBut.update _ S (Obj.putSet (ps2.map (cL f)).toArray t2))
   have nd2:(ps2.map (·.2)).Nodup:=by
    have hmem:∀q,q∈ps2.map (·.2)↔q∈ps1.map (·.2):=λq=>by
     rw[Iz,Iz]
     exact⟨λ⟨x,hx,e⟩=>⟨x,(g4 x).mp hx,e⟩,λ⟨x,hx,e⟩=>⟨x,(g4 x).mpr hx,e⟩⟩
    have hnd:(ps2.map λq=>f q.2).Nodup:=by
     refine ll (m:=ps1.map λq=>f q.2) ?_ (λx hx=>?_) (by simp[g3])
     ·have:(ps1.map λq=>f q.2)=(ps1.map (·.2)).map f:=by simp
      rw[this]
      refine Jw.mpr (JZ ?_ nd1)
      intro x y hx hy hxy e
      obtain⟨q,hq,rfl⟩:=Iz.mp hx
      obtain⟨r,hr,rfl⟩:=Iz.mp hy
      exact hxy (hinj _ _ (at1 sb1 q hq).2 (at1 sb1 r hr).2 e)
     ·obtain⟨q,hq,rfl⟩:=Iz.mp hx
      exact Iz.mpr ⟨q,(g4 q).mpr hq,rfl⟩
    have:(ps2.map λq=>f q.2)=(ps2.map (·.2)).map f:=by simp
    rw[this] at hnd
    exact (Jw.mp hnd).imp λhxy e=>hxy (by rw[e])
   refine HW (h true _ ps2 sb2 ⟨⟨_,ep + 1 + 1,t2,ho2,hex,rfl,g5,?_⟩,λq hq=>at1 sb2 q ((g4 q).mp hq),nd2⟩ (λq hq=>(mem1 q).mp ((g4 q).mp hq)) (λq hq=>(g4 q).mpr ((mem1 q).mpr (.inl hq))) ⟨(a,p),(g4 _).mpr ((mem1 _).mpr (.inr rfl)),rfl⟩)
   rw[g6,q1];exact hled
end
def gE (w:World):Bool:= !(w.params.followText "set-order")
def xJ (prog:Program)(w:World)(p:Pr):Int:=tupleKeyHash (intKind prog w) [p.1,p.2]
def Am (prog:Program)(w:World):∀p q,Sm p->Sm q->xJ prog w p=xJ prog w q->p=q:=λp q h1 h2 e=>De h1 h2 e
section
variable {prog:Program}{w:World}{A:Around}{E:Value->Shared->Prop}{s:Shared}{R:Result->Shared->Prop}{I:Addr}{fp wr:List Addr}{n:Nat}{P:Nat->Value->Prop}{St:Nat->Heap->Prop}
def cf (prog:Program)(w:World)(h:Heap)(vs:List Value)(ps:List Pr):Prop:=vs.length=ps.length/\∀(i:Nat) (v:Value) (p:Pr),vs[i]? =some v->ps[i]? =some p->∃a,v=.ref a/\a8 prog w h p a/\Sm p
abbrev lG (prog:Program)(w:World)(h:Heap)(S:Addr)(vs:List Value)(ps:List Pr)(k:Nat):Prop:=∃qs:List (Addr×Pr),p5 (xJ prog w) prog w (gE w) h S qs/\
 (∀q,q∈qs->Value.ref q.1∈vs.take k/\q.2∈ps.take k)/\∀p,p∈ps.take k->p∈qs.map (·.2)
theorem jS (W:Walks prog w A.in1 I fp wr n P St)(S:Addr)(hSf:S∉fp){vs:List Value}{ps:List Pr}(hn:vs.length=n)(hP:∀i v,P i v->vs[i]? =some v)(hu:A.in1.units < cLine)(h₀:Heap)
  (hps:cf prog w h₀ vs ps) (hwr:∀b o,b∈S :: wr->h₀.get? b=some o->False):∀(k i:Nat) (s:Shared),n - i=k->i<=n->St i s.heap->(∀b o,h₀.get? b=some o->s.heap.get? b=some o)->lG prog w s.heap S vs ps i->
   (∀h' tk,(∀b o,b∉S :: wr->s.heap.get? b=some o->h'.get? b=some o)->lG prog w h' S vs ps n->R (.ok (.ret .none)) {s with heap:=h',toks:=tk})->
   codeAny (model prog w) A (.builtin "set.update.loop" ⟨[.ref S,.ref I],[]⟩) R s:=by
 have nw:S∉wr:=λh=>hSf (W.sub _ h)
 intro k
 induction k with
 |zero=>
  intro i s hk hi hst hk0 hF hR
  obtain rfl:i=n:=by omega
  refine Ky PyProof.Rows.F.entry_set_update_loop ?_
  rw[Kh J9 _]
  show wpAny _ A.in1 (pyNext (.ref I) >>= λr=>_) _ _ s
  refine HS (W.done s _ _ hst λh' tk hm=>?_)
  show wpAny _ A.in1 (ret Value.none) _ _ _
  refine HW (hR h' tk (λb o hb e=>hm b o (λz=>hb (Ie _ z)) e) ?_)
  obtain⟨qs,Q1,Q2,Q3⟩:=hF
  obtain⟨o,ep,t,ho,r⟩:=Q1.ex
  refine⟨qs,⟨⟨o,ep,t,hm S o nw ho,r⟩,λq hq=>⟨?_,(Q1.at' q hq).2⟩,Q1.nd⟩,Q2,Q3⟩
  obtain⟨m,hm1,hm2⟩:=IW.mp (JL (Q2 q hq).1)
  have hm1':m < ps.length:=by rw[<-hps.1];exact hm1
  obtain⟨a,ea,ha,_⟩:=hps.2 m vs[m] ps[m] (HU hm1) (HU hm1')
  rw[hm2] at ea
  cases ea
  obtain⟨o',it',n',ho',r'⟩:=(Q1.at' q hq).1
  obtain⟨o2,it2,n2,ho2,r2⟩:=ha
  have:o'=o2:=Option.some.inj (ho'.symm.trans (hk0 _ _ ho2))
  subst this
  exact⟨o',it',n',hm _ _ (λz=>hwr _ _ (Ie _ z) ho2) ho',r'⟩
 |succ k ih=>
  intro i s hk hi hst hk0 hF hR
  have hlt:i < n:=by omega
  refine Ky PyProof.Rows.F.entry_set_update_loop ?_
  rw[Kh J9 _]
  show wpAny _ A.in1 (pyNext (.ref I) >>= λr=>_) _ _ s
  refine HS (W.item i s _ _ hlt hst λv h1 tk1 hv hst1 hm=>?_)
  have hvi:=hP i v hv
  have hip:i < ps.length:=by rw[<-hps.1,hn];exact hlt
  obtain⟨a,rfl,ha,hsm⟩:=hps.2 i v ps[i] hvi (HU hip)
  have k1:∀b o,h₀.get? b=some o->h1.get? b=some o:=λb o e=>hm b o (λz=>hwr b o (Ie _ z) e) (hk0 b o e)
  obtain⟨qs,Q1,Q2,Q3⟩:=hF
  have old:∀{q:Addr×Pr} {h:Heap},q∈qs->(∀b o,h₀.get? b=some o->h.get? b=some o)->a8 prog w h q.2 q.1:=λ{q h} hq kk=>by
   obtain⟨m,hm1,hm2⟩:=IW.mp (JL (Q2 q hq).1)
   have hm1':m < ps.length:=by rw[<-hps.1];exact hm1
   obtain⟨a,ea,ha,_⟩:=hps.2 m vs[m] ps[m] (HU hm1) (HU hm1')
   rw[hm2] at ea
   cases ea
   obtain⟨o',it',n',ho',r'⟩:=(Q1.at' q hq).1
   obtain⟨o2,it2,n2,ho2,r2⟩:=ha
   have:o'=o2:=Option.some.inj (ho'.symm.trans (hk0 _ _ ho2))
   subst this
   exact⟨o',it',n',kk _ _ ho2,r'⟩
  have P1:p5 (xJ prog w) prog w (gE w) h1 S qs:=by
   obtain⟨o,ep,t,ho,r⟩:=Q1.ex
   exact⟨⟨o,ep,t,hm S o nw ho,r⟩,λq hq=>⟨old hq k1,(Q1.at' q hq).2⟩,Q1.nd⟩
  have ha1:a8 prog w h1 ps[i] a:=by
   obtain⟨o',it',n',ho',r'⟩:=ha
   exact⟨o',it',n',k1 _ _ ho',r'⟩
  show wpAny _ A.in1 (holding [Value.ref a] (setAdd S (.ref a)) >>= λ_=>_) _ _ _
  refine HS (JE ?_)
  unfold setAdd
  refine JE (HS (wpAny_pyHash_tuple hu ha1 ?_))
  refine p5.add (Am prog w) (s:={s with heap:=h1,toks:=tk1 + ([ps[i].1,ps[i].2].length + 1)}) P1 ha1 hsm hu λb h2 qs' sb P2 m1 m2 m3=>?_
  have sbS:∀b o,h₀.get? b=some o->h2.get? b=some o:=λb o e=>(sb.2 b (λz=>hwr b o (by rw[z];exact Ig) e)).trans (k1 b o e)
  refine HW ⟨plainId_quiet J9 _,ih (i + 1) _ (by omega) hlt (W.frame _ _ _ hst1 λb hb o e=>?_) sbS ⟨qs',P2,λq hq=>?_,λp hp=>?_⟩ λh' tk hm' F'=>?_⟩
  ·rw[sb.2 b λz=>hSf (by rw[<-z];exact hb)];exact e
  ·have htk:∀{α:Type} {l:List α} {x:α},x∈l.take i->x∈l.take (i + 1):=λ{α l x} hx=>by
    rw[JP];exact Ke _ hx
   rcases m1 q hq with z |z
   ·exact⟨htk (Q2 q z).1,htk (Q2 q z).2⟩
   ·subst z
    refine⟨?_,?_⟩
    ·rw[JP,hvi];exact IY _ (by simp)
    ·rw[JP,HU hip];exact IY _ (by simp)
  ·rw[JP,HU hip] at hp
   rcases Iu.mp hp with z |z
   ·obtain⟨q,hq,rfl⟩:=Iz.mp (Q3 p z)
    exact Iz.mpr ⟨q,m2 q hq,rfl⟩
   ·have:p=ps[i]:=by simpa using z
    obtain⟨q,hq,e⟩:=m3
    exact Iz.mpr ⟨q,hq,by rw[e,this]⟩
  ·refine hR h' tk (λb o hb e=>hm' b o hb ?_) F'
   show h2.get? b=some o
   rw[sb.2 b λz=>hb (by rw[z];exact Ig)]
   exact hm b o (λz=>hb (Ie _ z)) e
def rG (a:Value){Q1:Value->Shared->Prop}
  (h:Q1 (.ref s.heap.objs.size) {s with heap:=s.heap.push {cls:=.type "set",dict:=none,data:=.set #[] 0 (.fresh 0 0 (gE w))}}) :
  codeAny (model prog w) A (.call (.builtin "set.__new__") ⟨[.type "set",a],[]⟩) (wants Q1 E) s:=by
 refine codeAny_of_tree ?_
 show wpAny _ A.in1 (do (checkBuiltinCall "set.__new__" ⟨[.type "set",a],[]⟩);again (.builtin "set.__new__" ⟨[.type "set",a],[]⟩)) _ _ s
 refine HS (wpAny_of_eq (F.newCall_set_1 a) (HW ⟨plainId_quiet F.plain_set_new _,Ky F.entry_set_new ?_⟩))
 rw[Kh F.plain_set_new _]
 (unfold Builtin.«set.__new__» Builtin.Frozenset.newClass)
 have hsub0:=sub_set_self
 obtain⟨hp0,g0,d0,tk0,os0⟩:=s
 dsimp only
 wp_walk
 (refine KU (HW ?_))
 dsimp only
 simp only[newObj]
 (refine HS (wpAny_alloc (HW ?_)))
 exact HW h
def wy (led:Bool):Tab (.fresh 0 0 led) []:=
 ⟨.inl rfl,rfl,List.Pairwise.nil,λj h=>(by cases (Kf.mpr h)),rfl,(by show (0:Nat) * 5 < 7 * 3;decide),λi j h e=>(by simp[SetTable.fresh] at e),rfl⟩
structure Src (prog:Program)(w:World)(h:Heap)(l:Addr)(vs:List Value)(T:String)(itO:Obj)(St:Addr->Nat->Heap->Prop):Prop where
 ty:∃o,h.get? l=some o/\o.cls=.type T
 ns:isSubtype (.type T) (.type "set")=pure false
 nf:isSubtype (.type T) (.type "frozenset")=pure false
 nd:(Value.type T == Value.type "dict")=false
 it:∀(A:Around) (s1:Shared) (Q:Value->Shared->Prop) (E:Value->Shared->Prop),(∀b o,h.get? b=some o->s1.heap.get? b=some o)->Q (.ref s1.heap.objs.size) {s1 with heap:=s1.heap.push itO}->wpAny (model prog w) A (pyIter (.ref l)) Q E s1
 st:∀(h1:Heap),(∀b o,h.get? b=some o->h1.get? b=some o)->St h1.objs.size 0 (h1.push itO)
 wk:∀(A:Around) (I:Addr),A.handled=none->l≠I->Walks prog w A I [I,l] [I] vs.length (λi v=>vs[i]? =some v) (St I)
def Src.list {h:Heap}{l:Addr}{vs:List Value}(hl:h.IsList l vs.toArray):Src prog w h l vs "list" {cls:=.type "list_iterator",data:=.fields #[.ref l,.int 0 0]} (λI i h'=>h'.IsListIter I l i/\h'.IsList l vs.toArray):=by
 obtain⟨o,ho,hc,n,hd⟩:=id hl
 refine⟨⟨o,ho,hc⟩,F.sub_list_set,F.sub_list_frozenset,by decide,λA s1 Q E k hQ=>KH ⟨o,k _ _ ho,hc,n,hd⟩ hQ,λh1 k=>⟨⟨_,IB _ rfl,rfl,rfl⟩,⟨o,Ia _ (k _ _ ho),hc,n,hd⟩⟩,λA I hh hne=>?_⟩
 have:=Walks.list (prog:=prog) (w:=w) hh I l hne vs.toArray
 simpa using this
def sub_tuple_set:isSubtype (.type "tuple") (.type "set")=pure false:=by rw[Ld];kernel_rfl
def sub_tuple_frozenset:isSubtype (.type "tuple") (.type "frozenset")=pure false:=by rw[Ld];kernel_rfl
def Src.tuple {h:Heap}{l:Addr}{vs:List Value}(hl:h.IsTuple l vs.toArray):Src prog w h l vs "tuple" {cls:=.type "tuple_iterator",data:=.fields #[.ref l,.int 0 0]} (λI i h'=>h'.IsTupleIter I l i/\h'.IsTuple l vs.toArray):=by
 obtain⟨o,ho,hc,n,hd⟩:=id hl
 refine⟨⟨o,ho,hc⟩,sub_tuple_set,sub_tuple_frozenset,by decide,λA s1 Q E k hQ=>K6 ⟨o,k _ _ ho,hc,n,hd⟩ hQ,λh1 k=>⟨⟨_,IB _ rfl,rfl,rfl⟩,⟨o,Ia _ (k _ _ ho),hc,n,hd⟩⟩,λA I hh hne=>?_⟩
 have:=Walks.tuple (prog:=prog) (w:=w) hh I l hne vs.toArray
 simpa using this
set_option maxHeartbeats 3200000 in
theorem nr {l:Addr}{vs:List Value}{ps:List Pr}{T:String}{itO:Obj}{St:Addr->Nat->Heap->Prop}{Q:Value->Shared->Prop}(X:Src prog w s.heap l vs T itO St)(hh:A.handled=none)(hu:A.units + 64 < cLine)(hps:cf prog w s.heap vs ps)
  (h:∀(h':Heap) (tk:Nat),lG prog w h' s.heap.objs.size vs ps vs.length->(∀b o,s.heap.get? b=some o->h'.get? b=some o)->Q (.ref s.heap.objs.size) {s with heap:=h',toks:=tk}) :
  wpAny (model prog w) A (call (.type "set") [.ref l]) Q E s:=by
 obtain⟨c0,tl0,hmro0⟩:=Kq.mro
 have hmade0:=Kq.made
 have hsub0:=Kq.sub
 refine wpAny_call (codeAny_of_tree ?_)
 show wpAny _ _ (callAny (.type "set") ⟨[.ref l],[]⟩) _ _ _
 refine HW ⟨Code.quiet_builtin _ (by decide +kernel),Ky F.entry_type_call ?_⟩
 (rw[Around.under_plain (weight_type_call_type "set" [.ref l] []) rfl])
 have g1:=Kq.notType
 have g2:=Kq.canCreate
 have g3:=F.typeCall_set_1 (.ref l)
 repeat (any_goals (first |assumption |wp_step))
 refine K2 (rG (.ref l) (E:=E) (Q1:=λobj s1=>obj=.ref s.heap.objs.size/\s1={s with heap:=s.heap.push {cls:=.type "set",dict:=none,data:=.set #[] 0 (.fresh 0 0 (gE w))}}) ⟨rfl,rfl⟩) λr s1 hr=>?_
 cases r with
 |error e=>exact hr
 |ok fl=>
  cases fl with
  |ret obj=>
   obtain⟨rfl,rfl⟩:=hr
   generalize hO:({cls:=.type "set",dict:=none,data:=.set #[] 0 (.fresh 0 0 (gE w))}:Obj)=O
   have hS0:(s.heap.push O).get? s.heap.objs.size=some O:=IB _ (by rw[<-hO];rfl)
   have hT0:Shared.TypeIs {s with heap:=s.heap.push O} (.ref s.heap.objs.size) "set":=⟨_,hS0,by rw[<-hO]⟩
   have g4:=Kq.init.lookup
   have g5:=Kq.init.bind (.ref s.heap.objs.size)
   repeat (any_goals (first |assumption |wp_step))
   refine K2 (codeAny_call_builtin (R:=wants (λr s2=>r=.none/\∃h' tk,s2={s with heap:=h',toks:=tk}/\lG prog w h' s.heap.objs.size vs ps vs.length/\(∀b o,s.heap.get? b=some o->h'.get? b=some o)) E)
    Kq.init.plain F.entry_set_init (check_set_init_1 hT0 ?_)) λr2 s2 hr2=>?_
   ·obtain⟨ol,hol,hcl⟩:=X.ty
    have hol':(s.heap.push O).get? l=some ol:=Ia _ hol
    have e1:=X.ns
    have e2:=X.nf
    have e3:=X.nd
    have hTl:Shared.TypeIs {s with heap:=s.heap.push O} (.ref l) T:=⟨ol,hol',hcl⟩
    have hdat:O.data=.set #[] 0 (.fresh 0 0 (gE w)):=by rw[<-hO]
    (unfold Builtin.«set.__init__» noKeywords Builtin.Frozenset.updateFrom)
    subst hO
    obtain⟨oc,od,odt,osl⟩:=ol
    simp only at hcl
    subst hcl
    (generalize hPI0:pyIter=PI0)
    wp_walk
    subst hPI0
    have kp:∀b o,s.heap.get? b=some o->(s.heap.push {cls:=.type "set",dict:=none,data:=.set #[] 0 (.fresh 0 0 (gE w))}).get? b=some o:=λb o e=>Ia _ e
    refine X.it _ _ _ _ kp ?_
    refine HS (wpAny_runValue ?_)
    have hlS:l < s.heap.objs.size:=Il hol
    have hh3:A.in1.in1.in1.handled=none:=by simp[hh]
    have hneI:l≠(s.heap.push {cls:=.type "set",dict:=none,data:=.set #[] 0 (.fresh 0 0 (gE w))}).objs.size:=by
     rw[JM];exact Ja (Nat.lt_succ_of_lt hlS)
    have hSf:s.heap.objs.size∉ [(s.heap.push {cls:=.type "set",dict:=none,data:=.set #[] 0 (.fresh 0 0 (gE w))}).objs.size,l]:=by
     rw[JM]
     intro z
     rcases Ih.mp z with e |z
     ·exact absurd e (Ja (Nat.lt_succ_self _))
     ·exact absurd (I0.mp z) (Nat.ne_of_gt hlS)
    refine jS (X.wk _ _ hh3 hneI) s.heap.objs.size hSf rfl (λi v e=>e) (by simp;omega) s.heap hps (λb o hb e=>?_) (vs.length - 0) 0 _ (by omega) (IU _) (X.st _ kp) (λb o e=>Ia _ (kp b o e)) ?_ ?_
    ·have hlt:=Il e
     rw[JM] at hb
     rcases Ih.mp hb with z |z
     ·exact absurd hlt (by rw[z];exact IL _)
     ·rw[I0.mp z] at hlt
      exact absurd hlt (Nat.not_lt.mpr (Nat.le_succ _))
    ·refine⟨[],⟨⟨_,0,_,Ia _ hS0,⟨rfl,rfl,rfl⟩,rfl,wy _,rfl⟩,λq hq=>(by cases hq),List.nodup_nil⟩,λq hq=>(by cases hq),λp hp=>(by simp at hp)⟩
    ·intro h' tk hm F'
     show wpAny _ _ _ _ _ _
     refine HW ?_
     show wpAny _ _ (ret Value.none) _ _ _
     refine HW ⟨rfl,h',tk,rfl,F',λb o e=>hm b o (λz=>?_) (Ia _ (kp b o e))⟩
     have hlt:=Il e
     rw[JM] at z
     rcases Ih.mp z with z |z
     ·exact absurd hlt (by rw[z];exact IL _)
     ·rw[I0.mp z] at hlt
      exact absurd hlt (Nat.not_lt.mpr (Nat.le_succ _))
   ·cases r2 with
    |error e=>exact hr2
    |ok fl2=>
     cases fl2 with
     |ret r=>
      obtain⟨rfl,h',tk,rfl,hF,hk⟩:=hr2
      repeat (any_goals (first |assumption |wp_step))
      exact h _ _ hF hk
     |_=>exact hr2.elim
  |_=>exact hr.elim
end
end L2.ST
namespace L2.SO
open PySem PySem.W PyProof.Rows
def g7 {α:Type}(lt:Nat->Nat->Bool):KasT α->α
 | .ret a=>a
 | .ask i j k=>g7 lt (k (lt i j))
theorem de {α β:Type}(lt:Nat->Nat->Bool)(f:α->KasT β):∀t:KasT α,g7 lt (t.bind f)=g7 lt (f (g7 lt t))
 | .ret _=>rfl
 | .ask i j k=>de lt f (k (lt i j))
def qi {α:Type}(n:Nat)(lt:Nat->Nat->Bool):KasT α->Prop
 | .ret _=>True
 | .ask i j k=>i < n/\j < n/\qi n lt (k (lt i j))
theorem dZ {α β:Type}{n:Nat}{lt:Nat->Nat->Bool}{f:α->KasT β}:∀{t:KasT α},qi n lt t->qi n lt (f (g7 lt t))->qi n lt (t.bind f)
 | .ret _,_,h=>h
 | .ask i j k,h,h'=>⟨h.1,h.2.1,dZ h.2.2 h'⟩
section
variable {n:Nat}{key:Nat->Int}
abbrev kz (key:Nat->Int)(i j:Nat):Bool:=decide (key i < key j)
abbrev Kp (key:Nat->Int)(p:Array Nat)(k:Nat):Int:=key (p.getD k 0)
structure Pm (n:Nat)(p:Array Nat):Prop where
 sz:p.size=n
 nd:p.toList.Nodup
 lt:∀x,x∈p->x < n
def Pm.at {p:Array Nat}(P:Pm n p){k:Nat}(hk:k < n):p.getD k 0 < n:=by
 have h:k < p.size:=by rw[P.sz];exact hk
 simp only[Array.getD,h,dif_pos]
 exact P.lt _ (Array.getElem_mem h)
def Pm.ne {p:Array Nat}(P:Pm n p){i k:Nat}(hi:i < n)(hk:k < n)(hne:i≠k):p.getD i 0≠p.getD k 0:=by
 have h1:i < p.toList.length:=by simpa using (by rw[P.sz];exact hi:i < p.size)
 have h2:k < p.toList.length:=by simpa using (by rw[P.sz];exact hk:k < p.size)
 have h1':i < p.size:=by rw[P.sz];exact hi
 have h2':k < p.size:=by rw[P.sz];exact hk
 have a1:p.getD i 0=p.toList[i]:=by simp[Array.getD,h1']
 have a2:p.getD k 0=p.toList[k]:=by simp[Array.getD,h2']
 rw[a1,a2]
 have q:=Jo.mp P.nd
 rcases IJ i k with c |c
 ·exact q i k h1 h2 c
 ·exact (q k i h2 h1 (by omega)).symm
def Pm.perm {p q:Array Nat}(P:Pm n p)(h:q.Perm p):Pm n q:=by
 have h':=JU.mp h
 exact⟨by rw[h.size_eq];exact P.sz,h'.nodup_iff.mpr P.nd,λx hx=>P.lt x (by simpa using h'.mem_iff.mp (by simpa using hx))⟩
def qC (n:Nat):Pm n (List.toArray (List.range n)):=⟨by simp,by simpa using J6,λx hx=>by simpa using hx⟩
def Inj (n:Nat)(key:Nat->Int):Prop:=∀i j,i < n->j < n->key i=key j->i=j
def Pm.tri {p:Array Nat}(P:Pm n p)(hi:Inj n key){i k:Nat}(h1:i < n)(h2:k < n)(hne:i≠k):Kp key p i < Kp key p k\/Kp key p k < Kp key p i:=by
 have:Kp key p i≠Kp key p k:=λe=>P.ne h1 h2 hne (hi _ _ (P.at h1) (P.at h2) e)
 omega
def Up (key:Nat->Int)(p:Array Nat)(m:Nat):Prop:=∀i j,i < j->j < m->Kp key p i < Kp key p j
def Dn (key:Nat->Int)(p:Array Nat)(m:Nat):Prop:=∀i j,i < j->j < m->Kp key p j < Kp key p i
def Up.snoc {p:Array Nat}{m:Nat}(U:Up key p m)(h1:1<=m)(h:Kp key p (m - 1) < Kp key p m):Up key p (m + 1):=λi j hij hj=>by
 rcases IJ j m with c |c
 ·exact U i j hij c
 ·have:j=m:=by omega
  subst this
  rcases IJ i (j - 1) with d |d
  ·exact J0 (U i (j - 1) d (by omega)) h
  ·have:i=j - 1:=by omega
   rw[this];exact h
def Dn.snoc {p:Array Nat}{m:Nat}(U:Dn key p m)(h1:1<=m)(h:Kp key p m < Kp key p (m - 1)):Dn key p (m + 1):=λi j hij hj=>by
 rcases IJ j m with c |c
 ·exact U i j hij c
 ·have:j=m:=by omega
  subst this
  rcases IJ i (j - 1) with d |d
  ·exact J0 h (U i (j - 1) d (by omega))
  ·have:i=j - 1:=by omega
   rw[this];exact h
theorem mL {p:Array Nat}(P:Pm n p)(hi:Inj n key):∀(f m:Nat),1<=m->m + f<=n->Up key p m->
  ∃r,(g7 (kz key) (kas_asc p f m)=r/\qi n (kz key) (kas_asc p f m))/\m<=r/\r<=m + f/\Up key p r/\(r < m + f->Kp key p r < Kp key p (r - 1))
 | 0,m,_,_,U=>⟨m,⟨rfl,trivial⟩,HX _,HX _,U,λh=>absurd h (IL _)⟩
 |f + 1,m,h1,hn,U=>by
  have b1:p.getD m 0 < n:=P.at (by omega)
  have b2:p.getD (m - 1) 0 < n:=P.at (by omega)
  unfold kas_asc g7 qi
  by_cases c:Kp key p m < Kp key p (m - 1)
  ·rw[show kz key (p.getD m 0) (p.getD (m - 1) 0)=true from Ik c]
   simp only[Js]
   exact⟨m,⟨rfl,b1,b2,trivial⟩,HX _,by omega,U,λ_=>c⟩
  ·rw[show kz key (p.getD m 0) (p.getD (m - 1) 0)=false from Ir c]
   simp only[Iw,IZ]
   have up:Kp key p (m - 1) < Kp key p m:=(P.tri hi (by omega) (by omega) (by omega)).resolve_right c
   obtain⟨r,⟨e,o⟩,a,b,u,d⟩:=mL P hi f (m + 1) (by omega) (by omega) (U.snoc h1 up)
   exact⟨r,⟨e,b1,b2,o⟩,by omega,by omega,u,λh=>d (by omega)⟩
theorem oi {p:Array Nat}(P:Pm n p)(hi:Inj n key):∀(f m:Nat),1<=m->m + f<=n->Dn key p m->
  ∃r,(g7 (kz key) (kas_desc f p m 0)=(p,r,0)/\qi n (kz key) (kas_desc f p m 0))/\m<=r/\r<=m + f/\Dn key p r
 | 0,m,_,_,U=>⟨m,⟨rfl,trivial⟩,HX _,HX _,U⟩
 |f + 1,m,h1,hn,U=>by
  have b1:p.getD m 0 < n:=P.at (by omega)
  have b2:p.getD (m - 1) 0 < n:=P.at (by omega)
  unfold kas_desc g7 qi
  by_cases c:Kp key p m < Kp key p (m - 1)
  ·rw[show kz key (p.getD m 0) (p.getD (m - 1) 0)=true from Ik c]
   simp only[Js,IL,gt_iff_lt,IZ]
   obtain⟨r,⟨e,o⟩,a,b,u⟩:=oi P hi f (m + 1) (by omega) (by omega) (U.snoc h1 c)
   exact⟨r,⟨e,b1,b2,o⟩,by omega,by omega,u⟩
  ·rw[show kz key (p.getD m 0) (p.getD (m - 1) 0)=false from Ir c]
   simp only[Iw,IZ]
   unfold g7 qi
   have up:Kp key p (m - 1) < Kp key p m:=(P.tri hi (by omega) (by omega) (by omega)).resolve_right c
   rw[show kz key (p.getD (m - 1) 0) (p.getD m 0)=true from Ik up]
   simp only[Js]
   exact⟨m,⟨rfl,b1,b2,b2,b1,trivial⟩,HX _,by omega,U⟩
def zZ {p:Array Nat}{j k:Nat}(hj:j<=p.size)(hk:k < j):(kas_rev p 0 j).getD k 0=p.getD (j - 1 - k) 0:=by
 unfold kas_rev
 rw[IF,getElem?_mirror_all hj k,HV ⟨IU _,hk⟩,IF]
 congr 2
 omega
def DU {p:Array Nat}{m:Nat}(hm:m<=p.size)(D:Dn key p m):Up key (kas_rev p 0 m) m:=λi j hij hj=>by
 unfold Kp
 rw[zZ hm (by omega),zZ hm hj]
 exact D (m - 1 - j) (m - 1 - i) (by omega) (by omega)
def Pm.rev {p:Array Nat}(P:Pm n p)(j:Nat):Pm n (kas_rev p 0 j):=P.perm (mirror_perm ..)
def sN {p:Array Nat}(P:Pm n p)(hi:Inj n key)(h1:1<=n) :
  ∃m q,(g7 (kz key) (kas_count n p)=(m,q)/\qi n (kz key) (kas_count n p))/\Pm n q/\1<=m/\m<=n/\Up key q m:=by
 obtain⟨r,⟨e,o⟩,a,b,u,d⟩:=mL P hi (n - 1) 1 (HX _) (by omega) (λi j hij hj=>by omega)
 have rest:∃m q,(g7 (kz key) (if (r == n)=true then KasT.ret (r,p) else if r > 1 then .ask (p.getD 0 0) (p.getD (r - 1) 0) λc=>if c=true then .ret (r,p) else kas_descPart r n (kas_rev p 0 r) else kas_descPart r n p)=(m,q)/\
   qi n (kz key) (if (r == n)=true then KasT.ret (r,p) else if r > 1 then .ask (p.getD 0 0) (p.getD (r - 1) 0) λc=>if c=true then .ret (r,p) else kas_descPart r n (kas_rev p 0 r) else kas_descPart r n p))/\Pm n q/\1<=m/\m<=n/\Up key q m:=by
  by_cases c:(r == n)=true
  ·rw[HV c]
   exact⟨r,p,⟨rfl,trivial⟩,P,a,by omega,u⟩
  ·rw[HY c]
   have hrn:r≠n:=by simpa using c
   have dd:=d (by omega)
   by_cases c2:r > 1
   ·rw[HV c2]
    unfold g7 qi
    rw[show kz key (p.getD 0 0) (p.getD (r - 1) 0)=true from Ik (u 0 (r - 1) (by omega) (by omega))]
    simp only[Js]
    exact⟨r,p,⟨rfl,P.at (by omega),P.at (by omega),trivial⟩,P,a,by omega,u⟩
   ·rw[HY c2]
    have hr1:r=1:=by omega
    subst hr1
    unfold kas_descPart
    rw[de]
    have D2:Dn key p 2:=λi j hij hj=>by
     have e1:i=0:=by omega
     have e2:j=1:=by omega
     rw[e1,e2];exact dd
    obtain⟨x,⟨e2,o2⟩,a2,b2,u2⟩:=oi P hi (n - 2) 2 (by omega) (by omega) D2
    obtain⟨y,⟨e3,o3⟩,a3,b3,u3,_⟩:=mL (P.rev x) hi (n - x) x (by omega) (by omega) (DU (by rw[P.sz];omega) u2)
    rw[show n - (1 + 1)=n - 2 from rfl,show (1 + 1:Nat)=2 from rfl]
    have t3:qi n (kz key) (kas_tail3 x n p):=by
     unfold kas_tail3
     exact dZ o3 trivial
    refine⟨y,kas_rev p 0 x,⟨?_,dZ o2 ?_⟩,P.rev x,by omega,by omega,u3⟩
    ·rw[e2]
     simp only[IL,gt_iff_lt,IZ]
     unfold kas_tail3
     rw[de,e3]
     rfl
    ·rw[e2]
     simp only[IL,gt_iff_lt,IZ]
     exact t3
 obtain⟨m,q,⟨f1,f2⟩,f3⟩:=rest
 refine⟨m,q,⟨?_,?_⟩,f3⟩
 ·unfold kas_count
  rw[de,e]
  exact f1
 ·unfold kas_count
  refine dZ o ?_
  rw[e]
  exact f2
theorem place_spec {p:Array Nat}{k:Nat}(P:Pm n p)(hi:Inj n key)(hk:k < n)(U:Up key p k):∀(f l r:Nat),l<=r->r<=k->r - l<=f->(∀i,i < l->Kp key p i < Kp key p k)->(∀i,r<=i->i < k->Kp key p k < Kp key p i)->
  ∃x,(g7 (kz key) (kas_place p k f l r)=x/\qi n (kz key) (kas_place p k f l r))/\x<=k/\(∀i,i < x->Kp key p i < Kp key p k)/\(∀i,x<=i->i < k->Kp key p k < Kp key p i)
 | 0,l,r,h1,h2,h3,a,b=>⟨l,⟨rfl,trivial⟩,by omega,a,λi hi=>b i (by omega)⟩
 |f + 1,l,r,h1,h2,h3,a,b=>by
  unfold kas_place
  by_cases c:l>=r
  ·rw[HV c]
   exact⟨l,⟨rfl,trivial⟩,by omega,a,λi hi=>b i (by omega)⟩
  ·rw[HY c]
   have b1:p.getD k 0 < n:=P.at hk
   have b2:p.getD ((l + r) / 2) 0 < n:=P.at (by omega)
   unfold g7 qi
   by_cases d:Kp key p k < Kp key p ((l + r) / 2)
   ·rw[show kz key (p.getD k 0) (p.getD ((l + r) / 2) 0)=true from Ik d]
    simp only[Js]
    have side:∀i,(l + r) / 2<=i->i < k->Kp key p k < Kp key p i:=λi h1 h2=>by
     rcases IJ ((l + r) / 2) i with z |z
     ·exact J0 d (U _ _ z h2)
     ·have:i=(l + r) / 2:=by omega
      rw[this];exact d
    obtain⟨x,⟨e1,e2⟩,e3⟩:=place_spec P hi hk U f l ((l + r) / 2) (by omega) (by omega) (by omega) a side
    exact⟨x,⟨e1,b1,b2,e2⟩,e3⟩
   ·rw[show kz key (p.getD k 0) (p.getD ((l + r) / 2) 0)=false from Ir d]
    simp only[Iw,IZ]
    have d':Kp key p ((l + r) / 2) < Kp key p k:=(P.tri hi (by omega) hk (by omega)).resolve_right d
    have side:∀i,i < (l + r) / 2 + 1->Kp key p i < Kp key p k:=λi h=>by
     rcases IJ i ((l + r) / 2) with z |z
     ·exact J0 (U _ _ z (by omega)) d'
     ·have:i=(l + r) / 2:=by omega
      rw[this];exact d'
    obtain⟨x,⟨e1,e2⟩,e3⟩:=place_spec P hi hk U f ((l + r) / 2 + 1) r (by omega) h2 (by omega) side b
    exact⟨x,⟨e1,b1,b2,e2⟩,e3⟩
def zP {p:Array Nat}{k l j:Nat}(hk:k < p.size)(hl:l<=k):(bubble p k (k - l)).getD j 0=if j=l then p.getD k 0 else if l < j/\j<=k then p.getD (j - 1) 0 else p.getD j 0:=by
 rw[IF,getElem?_bubble hk (k - l) (by omega) j,show k - (k - l)=l by omega]
 simp only[IF]
 split
 ·rfl
 ·split <;> rfl
theorem qR (hi:Inj n key):∀(f k:Nat) (p:Array Nat),Pm n p->1<=k->k + f=n->Up key p k->∃q,(g7 (kz key) (kas_bin f p k)=q/\qi n (kz key) (kas_bin f p k))/\Pm n q/\Up key q n
 | 0,k,p,P,_,e,U=>⟨p,⟨rfl,trivial⟩,P,by rw[<-e];exact U⟩
 |f + 1,k,p,P,h1,e,U=>by
  have hk:k < n:=by omega
  obtain⟨l,⟨el,ol⟩,hl,a,b⟩:=place_spec P hi hk U k 0 k (IU _) (HX _) (by omega) (λi h=>by omega) (λi h h'=>by omega)
  have side:Up key (bubble p k (k - l)) (k + 1):=λi j hij hj=>by
   have hks:k < p.size:=by rw[P.sz];exact hk
   unfold Kp
   rw[zP hks hl,zP hks hl]
   by_cases i1:i=l
   ·rw[HV i1,HY (by omega)]
    by_cases j2:l < j/\j<=k
    ·rw[HV j2];exact b _ (by omega) (by omega)
    ·omega
   ·rw[HY i1]
    by_cases i2:l < i/\i<=k
    ·rw[HV i2,HY (by omega),HV (by omega)]
     exact U _ _ (by omega) (by omega)
    ·rw[HY i2]
     by_cases j1:j=l
     ·rw[HV j1];exact a _ (by omega)
     ·rw[HY j1]
      by_cases j2:l < j/\j<=k
      ·rw[HV j2]
       rcases IJ i (j - 1) with z |z
       ·exact U _ _ z (by omega)
       ·omega
      ·rw[HY j2];exact U _ _ hij (by omega)
  obtain⟨q,⟨q1,q2⟩,q3⟩:=qR hi f (k + 1) (bubble p k (k - l)) (P.perm (bubble_perm ..)) (by omega) (by omega) side
  refine⟨q,⟨?_,?_⟩,q3⟩
  ·unfold kas_bin;rw[de,el];exact q1
  ·unfold kas_bin;refine dZ ol ?_;rw[el];exact q2
def oK (hi:Inj n key)(h2:2<=n):∃q,(g7 (kz key) (kas_sort n)=q/\qi n (kz key) (kas_sort n))/\Pm n q/\Up key q n:=by
 obtain⟨m,q,⟨e,o⟩,P,a,b,u⟩:=sN (qC n) hi (by omega)
 by_cases c:m < n
 ·obtain⟨q',⟨e1,o1⟩,r⟩:=qR hi (n - m) m q P a (by omega) u
  refine⟨q',⟨?_,?_⟩,r⟩
  ·unfold kas_sort;rw[de,e];dsimp only;rw[HV c,Nat.max_eq_left a];exact e1
  ·unfold kas_sort;refine dZ o ?_;rw[e];dsimp only;rw[HV c,Nat.max_eq_left a];exact o1
 ·refine⟨q,⟨?_,?_⟩,P,λi j hij hj=>u i j hij (by omega)⟩
  ·unfold kas_sort;rw[de,e];dsimp only;rw[HY c];rfl
  ·unfold kas_sort;refine dZ o ?_;rw[e];dsimp only;rw[HY c];trivial
theorem wp_run {α:Type}{n:Nat}{lt:Nat->Nat->Bool}{cmp:Nat->Nat->(Bool->Shared->Prop)->Shared->Prop}{Q:α->Shared->Prop}{s:Shared} :
  ∀(t:KasT α),(∀i j C,i < n->j < n->C (lt i j) s->cmp i j C s)->qi n lt t->Q (g7 lt t) s->t.kasWp cmp Q s
 | .ret a,_,_,h=>h
 | .ask i j k,hc,ho,h=>hc i j _ ho.1 ho.2.1 (wp_run (k (lt i j)) hc ho.2.2 h)
end
end L2.SO
namespace L2.ST
open PySem PySem.SetTable PySem.W PyProof.Rows
def code (p:Pr):Int:=p.1 * 8 + p.2
def uV {p q:Pr}(h1:Sm p)(h2:Sm q):code p < code q↔p.1 < q.1\/(p.1=q.1/\p.2 < q.2):=by
 unfold code Sm at *;omega
def code_inj {p q:Pr}(h1:Sm p)(h2:Sm q)(e:code p=code q):p=q:=by
 unfold code Sm at *
 refine Prod.ext ?_ ?_ <;> omega
section
variable {prog:Program}{w:World}{A:Around}{E:Value->Shared->Prop}{s:Shared}
abbrev lz (ps:List Pr)(i:Nat):Int:=code (ps.getD i (0,0))
def zg {ps:List Pr}(nd:ps.Nodup)(hs:∀p,p∈ps->Sm p):L2.SO.Inj ps.length (lz ps):=λi j hi hj e=>by
 have a1:ps.getD i (0,0)=ps[i]:=by simp[hi]
 have a2:ps.getD j (0,0)=ps[j]:=by simp[hj]
 unfold lz at e
 rw[a1,a2] at e
 have e':=code_inj (hs _ (JI hi)) (hs _ (JI hj)) e
 have q:=Jo.mp nd
 rcases Lj i j with c |c |c
 ·exact absurd e' (q i j hi hj c)
 ·exact c
 ·exact absurd e'.symm (q j i hj hi c)
theorem BG {a b:Addr}{p q:Pr}{Q:Bool->Shared->Prop}(ha:a8 prog w s.heap p a)(hb:a8 prog w s.heap q b)(hp:Sm p)(hq:Sm q)(h:Q (decide (code p < code q)) s) :
  wpAny (model prog w) A (keyLt' (tuples' true) (.ref a) (.ref b)) Q E s:=by
 obtain⟨oa,ia,na,hoa,hca,hda,hia⟩:=ha
 obtain⟨ob,ib,nb,hob,hcb,hdb,hib⟩:=hb
 obtain⟨l1,rfl⟩:∃l,ia=List.toArray l:=⟨ia.toList,by simp⟩
 obtain⟨l2,rfl⟩:∃l,ib=List.toArray l:=⟨ib.toList,by simp⟩
 simp only[JT] at hia hib
 cases hia with
 | @cons _ v1 _ _ h1 hia=>
  cases hia with
  | @cons _ v2 _ _ h2 hia=>
   cases hia
   cases hib with
   | @cons _ u1 _ _ g1 hib=>
    cases hib with
    | @cons _ u2 _ _ g2 hib=>
     cases hib
     obtain⟨t1,rfl⟩:=J2 h1
     obtain⟨t2,rfl⟩:=J2 h2
     obtain⟨t3,rfl⟩:=J2 g1
     obtain⟨t4,rfl⟩:=J2 g2
     refine kat_lt hoa hda hob hdb ?_
     have hc:=uV hp hq
     refine kat_cons (wpAny_eqBool_int ?_)
     by_cases e1:p.1=q.1
     ·rw[show (p.1 == q.1)=true by simpa using e1]
      refine kat_yes (kat_cons (wpAny_eqBool_int ?_))
      by_cases e2:p.2=q.2
      ·rw[show (p.2 == q.2)=true by simpa using e2]
       refine kat_yes (kat_nil ?_)
       have:decide (code p < code q)=false:=Ir (by rw[hc];omega)
       rw[this] at h
       simpa using h
      ·rw[show (p.2 == q.2)=false by simpa using e2]
       refine kat_no ?_
       show wpAny _ _ (oneLt' false _ _) _ _ _
       refine kat_one _ _ (lt_int ?_)
       have:decide (code p < code q)=decide (p.2 < q.2):=by
        by_cases z:p.2 < q.2
        ·rw[Ik z];exact Ik (hc.mpr (.inr ⟨e1,z⟩))
        ·rw[Ir z];exact Ir (by rw[hc];omega)
       rw[this] at h;exact h
     ·rw[show (p.1 == q.1)=false by simpa using e1]
      refine kat_no ?_
      show wpAny _ _ (oneLt' true _ _) _ _ _
      refine oneLt_int ?_
      have:decide (code p < code q)=decide (p.1 < q.1):=by
       by_cases z:p.1 < q.1
       ·rw[Ik z];exact Ik (hc.mpr (.inl z))
       ·rw[Ir z];exact Ir (by rw[hc];omega)
      rw[this] at h;exact h
theorem vB:∀{vs:List Value} {ps:List Pr},cf prog w s.heap vs ps->∃fs,KatTups s.heap vs fs/\fs.length=vs.length/\∀v∈fs,∃(i:Int) (t:Tok),v=.int i t
 | [],ps,_=>⟨[],KatTups.nil,rfl,λv hv=>by cases hv⟩
 |v :: vs,[],h=>by have:=h.1;simp at this
 |v :: vs,p :: ps,h=>by
  obtain⟨a,rfl,⟨o,items,n,ho,hc,hd,hi⟩,_⟩:=h.2 0 v p rfl rfl
  obtain⟨fs,k,e,f⟩:=vB (vs:=vs) (ps:=ps) ⟨by simpa using h.1,λi v p h1 h2=>h.2 (i + 1) v p (by simpa using h1) (by simpa using h2)⟩
  obtain⟨l1,rfl⟩:∃l,items=List.toArray l:=⟨items.toList,by simp⟩
  simp only[JT] at hi
  cases hi with
  | @cons _ v1 _ _ h1 hi=>
   obtain⟨t1,rfl⟩:=J2 h1
   exact⟨_ :: fs,KatTups.cons ho hc hd rfl k,by simp[e],λv hv=>by
    rcases Ih.mp hv with z |z
    ·exact⟨_,_,z⟩
    ·exact f v z⟩
def jQ (n:Nat):Prop:=n<=64/\∀(prog:Program) (w:World) (A:Around) (E:Value->Shared->Prop) (s:Shared) (κ:SortKind) (vs:List Value) (key:Nat->Int) (Q:SortSt->Shared->Prop),vs.length=n->2<=n->L2.SO.Inj n key->
 (∀i j,i < n->j < n->vs.getD i Value.none=vs.getD j Value.none->i=j)->(∀i j C,i < n->j < n->C (L2.SO.kz key i j) s->kas_ask prog w A κ vs i j C s)->
 (∀ix st,L2.SO.Pm n ix->L2.SO.Up key ix n->arrOf st=ix.map (kas_item (vs.toArray.zip vs.toArray))->failedOf st=none->Q st s)->
 wpAny (model prog w) A ((sortRuns').run (SortSt.mk' κ (vs.toArray.zip vs.toArray) #[] 7 none)) (λr s'=>Q r.2 s') E s
def xg {n:Nat}(h:n < 64):jQ n:=⟨by omega,λprog w A E s κ vs key Q hn h2 hi _ hc hQ=>by
 subst hn
 obtain⟨ix,⟨er,ok⟩,P1,U1⟩:=L2.SO.oK hi h2
 exact kat_run (ks:=vs) (G:=λp s'=>p=ix/\s'=s) rfl h2 h (λp st s' _ a2 a3 a4=>by obtain⟨rfl,rfl⟩:=a4;exact hQ _ st P1 U1 a2 a3) (L2.SO.wp_run (n:=vs.length) (lt:=L2.SO.kz key) _ hc ok ⟨er,rfl⟩)⟩
def qG {a:Addr}{vs:List Value}{ps:List Pr}{n:Nat}{P:PySem.Fin->Shared->Prop}(ho:s.heap.get? a=some (seqObj "list" vs.toArray n))(hps:cf prog w s.heap vs ps)(nd:ps.Nodup)(h64:jQ vs.length)
  (h:∀(h':Heap) (c:Nat) (ix:Array Nat),L2.SO.Pm vs.length ix->L2.SO.Up (lz ps) ix vs.length->(∀b o,b≠a->s.heap.get? b=some o->h'.get? b=some o)->
   h'.get? a=some (seqObj "list" (ix.toList.map λi=>vs.getD i Value.none).toArray c)->P (.done (.ret .none)) {s with heap:=h'}) :
  wpAny (model prog w) A (Builtin.«list.sort» ⟨[.ref a],[]⟩) P E s:=by
 have ha:a < s.heap.objs.size:=Il ho
 obtain⟨e1,ho1⟩:∃e1,(s.heap.update a (Obj.mapSeq λ_=>(#[]:Array Value))).get? a=some (seqObj "list" #[] e1):=⟨_,get?_update_seq ho λ_=>#[]⟩
 generalize hH1:(s.heap.update a (Obj.mapSeq λ_=>(#[]:Array Value)))=H1 at ho1
 have sb1:Heap.SameBut a s.heap H1:=by rw[<-hH1];exact Heap.SameBut.update ..
 have kp2:∀b o,H1.get? b=some o->((H1.push (seqObj "tuple" vs.toArray 0)).push (seqObj "list" #[] 0)).get? b=some o:=λb o e=>Ia _ (Ia _ e)
 generalize hH2:((H1.push (seqObj "tuple" vs.toArray 0)).push (seqObj "list" #[] 0))=H2 at kp2
 have kp:∀b o,b≠a->s.heap.get? b=some o->H2.get? b=some o:=λb o hb e=>kp2 b o ((sb1.2 b hb).trans e)
 have ho2:=kp2 _ _ ho1
 have hps2:cf prog w H2 vs ps:=⟨hps.1,λi v p h1 h2=>by
  obtain⟨b,e,⟨o,it,m,hb,hc,hd,r⟩,hs⟩:=hps.2 i v p h1 h2
  refine⟨b,e,⟨o,it,m,kp b o (λz=>?_) hb,hc,hd,r⟩,hs⟩
  subst z
  rw[ho] at hb;cases hb
  exact absurd hc (by simp[seqObj])⟩
 have hz:vs.length<=sizeLine:=by have:=h64.1;rw[IV];omega
 rw[list_sort_plain]
 refine HS (listItems_at ho rfl (HS (listUpdate_at ho rfl ?_ (by simpa using hz) (IU _))))
 rw[hH1]
 refine HS (seqEpoch_at (s:={s with heap:=H1}) ho1 rfl (HS (wpAny_newTuple ?_ (by simpa using hz))))
 refine HS (wpAny_newList ?_ (IU _))
 refine JE ?_
 show wpAny (model prog w) A _ P E {s with heap:=(H1.push (seqObj "tuple" vs.toArray 0)).push (seqObj "list" #[] 0)}
 rw[hH2]
 have fin:∀(ix:Array Nat) (st:SortSt),L2.SO.Pm vs.length ix->L2.SO.Up (lz ps) ix vs.length->(arrOf st).map (·.2)=List.toArray (ix.toList.map λi=>vs.getD i Value.none)->failedOf st=none->
   wpAny (model prog w) A (do
    let sorted:=(arrOf st).map (·.2)
    let touched:=(<-seqEpoch a) != e1
    Builtin.List.listUpdate (.ref a) λ_=>sorted
    if let some e:=failedOf st then rule "list.sort.comparison-raised";throw e
    if touched then rule "list.sort.modified";raiseError "ValueError" "list modified during sort"
    ret .none) P E {s with heap:=H2}:=λix st P1 U1 hout hf=>by
  dsimp only
  rw[hout]
  have hsz:(List.toArray (ix.toList.map λi=>vs.getD i Value.none)).size=vs.length:=by simp[P1.sz]
  refine HS (seqEpoch_at (s:={s with heap:=H2}) ho2 rfl ?_)
  refine HS (listUpdate_at (s:={s with heap:=H2}) ho2 rfl ?_ (IU _) (Ji (Nat.le_of_eq hsz) (Nat.le_succ_of_le hz)))
  rw[hf]
  simp only[bne_self_eq_false,Iw,IZ]
  obtain⟨c2,hc2⟩:∃c2,(H2.update a (Obj.mapSeq λ_=>List.toArray (ix.toList.map λi=>vs.getD i Value.none))).get? a=some (seqObj "list" (List.toArray (ix.toList.map λi=>vs.getD i Value.none)) c2):=⟨_,get?_update_seq ho2 λ_=>List.toArray (ix.toList.map λi=>vs.getD i Value.none)⟩
  exact HW (h _ c2 ix P1 U1 (λb o hb e=>((Heap.SameBut.update H2 a _).2 b hb).trans (kp b o hb e)) hc2)
 by_cases h2:vs.length < 2
 ·have h2':vs.toArray.size < 2:=by simpa using h2
  dsimp only
  rw[HV h2',HV h2']
  refine HS (HW ?_)
  rw[StateT.run_pure]
  refine HS (HW ?_)
  refine fin (List.toArray (List.range vs.length)) (SortSt.mk' general' (vs.toArray.zip vs.toArray) #[] 7 none) (L2.SO.qC _) (λi j hij hj=>by omega) ?_ rfl
  have:∀{l:List Value},l.length < 2->((l.toArray.zip l.toArray).map (·.2))=List.toArray ((List.range l.length).map λi=>l.getD i Value.none):=λ{l} hl=>by
   match l,hl with
   | [],_=>simp
   | [x],_=>simp
  exact (this h2).trans (by simp)
 ·have h2':¬vs.toArray.size < 2:=by simpa using h2
  dsimp only
  rw[HY h2',HY h2']
  obtain⟨fs,kt,fl,ff⟩:=vB (s:={s with heap:=H2}) hps2
  refine HS (kat_kind (s:={s with heap:=H2}) (T:=.type "int") kt (by omega) (λv hv=>?_) (by decide) ?_)
  ·obtain⟨i,t,rfl⟩:=ff v hv
   exact .now
  ·rw[show ((Value.type "int" != Value.type "tuple"):Bool)=true by decide]
   have hinj:L2.SO.Inj vs.length (lz ps):=by
    rw[hps.1]
    refine zg nd λp hp=>?_
    obtain⟨i,hi,e⟩:=IW.mp hp
    have hi':i < vs.length:=by rw[hps.1];exact hi
    obtain⟨_,_,_,hs⟩:=hps.2 i vs[i] p (HU hi') (by rw[HU hi,e])
    exact hs
   refine HS (JK (h64.2 prog w A E {s with heap:=H2} (tuples' true) vs (lz ps) (λst s'=>s'={s with heap:=H2}/\∃ix,L2.SO.Pm vs.length ix/\L2.SO.Up (lz ps) ix vs.length/\arrOf st=ix.map (kas_item (vs.toArray.zip vs.toArray))/\failedOf st=none)
    rfl (by omega) hinj (λi j hi hj e=>?_) (λi j C hi hj hC=>?_) λix st a b c d=>⟨rfl,ix,a,b,c,d⟩) ?_ λ_ _ x=>x)
   ·have hi':i < ps.length:=by rw[<-hps.1];exact hi
    have hj':j < ps.length:=by rw[<-hps.1];exact hj
    obtain⟨b1,eb1,hb1,s1⟩:=hps2.2 i vs[i] ps[i] (HU hi) (HU hi')
    obtain⟨b2,eb2,hb2,s2⟩:=hps2.2 j vs[j] ps[j] (HU hj) (HU hj')
    simp only[Jy,HU hi,HU hj,Option.getD_some] at e
    rw[eb1,eb2] at e
    cases e
    refine hinj i j hi hj ?_
    unfold lz
    simp only[Jy,HU hi',HU hj',Option.getD_some]
    rw[a8.inj hb1 hb2]
   ·unfold kas_ask
    have hi':i < ps.length:=by rw[<-hps.1];exact hi
    have hj':j < ps.length:=by rw[<-hps.1];exact hj
    obtain⟨b1,eb1,hb1,s1⟩:=hps2.2 i vs[i] ps[i] (HU hi) (HU hi')
    obtain⟨b2,eb2,hb2,s2⟩:=hps2.2 j vs[j] ps[j] (HU hj) (HU hj')
    have e1:vs.getD i Value.none=.ref b1:=by rw[<-eb1];simp[hi]
    have e2:vs.getD j Value.none=.ref b2:=by rw[<-eb2];simp[hj]
    rw[e1,e2]
    refine BG (s:={s with heap:=H2}) hb1 hb2 s1 s2 ?_
    have:L2.SO.kz (lz ps) i j=decide (code ps[i] < code ps[j]):=by
     unfold L2.SO.kz lz;simp[hi',hj']
    rw[<-this];exact hC
   ·rintro⟨⟨⟩,st⟩ s' ⟨rfl,ix,P1,U1,har,hf⟩
    exact fin ix st P1 U1 (kat_snds rfl har) hf
end
def bC:Slot "set_iterator" "__next__" "set_iterator.__next__":=
 Slot.of (owner:="set_iterator") (n:="__next__") (by rw[typeLookup_type,builtinLookup_eq_fast];kernel_rfl) (by decide +kernel) (by decide +kernel) (by decide +kernel) (by first |exact .inl (by decide +kernel) |exact .inr (by decide +kernel)) (by rw[Ld];kernel_rfl)
def fR:entryFor table "set_iterator.__next__"=some Builtin.«set_iterator.__next__»:=entryFor_of_tree (by kernel_rfl)
def gX (a:Value):argsOk "set_iterator.__next__" ⟨[a],[]⟩:=by unfold argsOk;kernel_rfl
def nc:entryFor table "set.__iter__"=some Builtin.«frozenset.__iter__»:=entryFor_alias (id':="frozenset.__iter__") (by kernel_rfl) rfl (by decide +kernel) (by kernel_rfl)
def gY:Slot "set_iterator" "__iter__" "set_iterator.__iter__":=
 Slot.of (owner:="set_iterator") (n:="__iter__") (by rw[typeLookup_type,builtinLookup_eq_fast];kernel_rfl) (by decide +kernel) (by decide +kernel) (by decide +kernel) (by first |exact .inl (by decide +kernel) |exact .inr (by decide +kernel)) (by rw[Ld];kernel_rfl)
def kB:entryFor table "set_iterator.__iter__"=some Builtin.«dict_keyiterator.__iter__»:=entryFor_alias (id':="dict_keyiterator.__iter__") (by kernel_rfl) rfl (by decide +kernel) (by kernel_rfl)
def lD (a:Value):argsOk "set_iterator.__iter__" ⟨[a],[]⟩:=by unfold argsOk;kernel_rfl
def AK (a:Addr)(slot given ep0:Nat):setNext a slot given ep0=(do
  let (es,epoch,t) <-setState a
  if (<-ask).params.followText "set-order" then
   if epoch != ep0 then unsupported "set_iterator.__next__:elements-changed"
   return ((<-setWalk a)[given]?).map λe=>(e.2,slot)
  if !t.plain && es.size > 1 then unsupported "set_iterator.__next__:the-table-is-plain-no-more"
  let u:Unit <-(show Sem Unit from do if !t.led && !es.isEmpty then unsupported "set:maker-not-led")
  let i:=SetTable.below t.place slot
  return match es[i]?,t.place[i]? with
   |some (_,x),some j=>some (x,j + 1)
   |_,_=>none):=by
 unfold setNext setsByText
 simp only[bind_assoc,pure_bind]
 rfl
def Ab (a:Addr):setWalk a=(do
  let (es,epoch,t) <-setState a
  if (<-ask).params.followText "set-order" then return pickOrder ((<-ask).params.setOrder a epoch) es
  if !t.plain && es.size > 1 then return (<-drawOrder es.size es.toList).toArray
  let u:Unit <-(show Sem Unit from do if !t.led && es.size > 1 then unsupported "set:maker-not-led")
  return es):=by
 unfold setWalk setsByText
 simp only[bind_assoc,pure_bind]
 rfl
def x9 (a:Addr):setDrawn a=(do
  let (es,_,t) <-setState a
  let byText <-(do return (<-ask).params.followText "set-order")
  return !byText && (!t.plain && es.size > 1)):=rfl
theorem dY {α:Type}:∀(l:List α) (i:Nat) (h:i < l.length),(l[i] :: l.eraseIdx i).Perm l
 |a :: l,0,_=>List.Perm.refl _
 |a :: l,i + 1,h=>by
  have hi:i < l.length:=by simpa using h
  show (l[i] :: a :: l.eraseIdx i).Perm (a :: l)
  exact (List.Perm.swap ..).trans ((dY l i hi).cons a)
theorem oI {α:Type}(next:Nat->Nat):∀(fuel k:Nat) (left:List α) (out:Array α),left.length=fuel->(pickOrder.go next fuel k left out).toList.Perm (out.toList ++ left)
 | 0,k,left,out,h=>by
  have:left= []:=List.length_eq_zero_iff.mp h
  subst this
  unfold pickOrder.go
  simp
 |fuel + 1,k,left,out,h=>by
  unfold pickOrder.go
  have hlt:next k % left.length < left.length:=Nat.mod_lt _ (by omega)
  rw[HU hlt]
  dsimp only
  refine (oI next fuel (k + 1) _ _ (by rw[List.length_eraseIdx_of_lt hlt];omega)).trans ?_
  rw[IS,IK]
  refine JF _ ?_
  exact dY left _ hlt
def ig {α:Type}(next:Nat->Nat)(xs:Array α):(pickOrder next xs).toList.Perm xs.toList:=by
 have:=oI next xs.size 0 xs.toList #[] (by simp)
 simpa[pickOrder] using this
section
variable {prog:Program}{w:World}{A:Around}{E:Value->Shared->Prop}{s:Shared}
def told (w:World)(S:Addr)(ep:Nat)(es:Array (Int×Value)):Array (Int×Value):=if w.params.followText "set-order" then pickOrder (w.params.setOrder S ep) es else es
def n6 (w:World)(S:Addr)(ep:Nat)(es:Array (Int×Value)):(told w S ep es).toList.Perm es.toList:=by
 unfold told;split
 ·exact ig _ _
 ·exact List.Perm.refl _
abbrev rO (S:Addr)(slot k n ep:Nat):Obj:={cls:=.type "set_iterator",data:=.fields #[.int (slot:Int) 0,.int (k:Int) 0,.ref S,.int (n:Int) 0,.int (ep:Int) 0]}
structure jY (w:World)(S:Addr)(o:Obj)(es:Array (Int×Value))(ep:Nat)(t:SetTable)(I:Addr)(k:Nat)(h:Heap):Prop where
 set:h.get? S=some o
 data:o.data=.set es ep t
 cls:o.cls=.type "set"
 tab:Tab t (es.toList.map (·.1))
 led:t.led=gE w
 it:∃slot,h.get? I=some (rO S slot k es.size ep)/\(gE w=true->slot=if k=0 then 0 else t.place.getD (k - 1) 0 + 1)
def jY.fits {S I:Addr}{o:Obj}{es:Array (Int×Value)}{ep k:Nat}{t:SetTable}{h:Heap}(X:jY w S o es ep t I k h):t.fits es.size=true:=m6 X.tab (by simp)
theorem uT {S I:Addr}{o:Obj}{es:Array (Int×Value)}{ep k slot:Nat}{t:SetTable}{Q:Option (Value×Nat)->Shared->Prop}(X:jY w S o es ep t I k s.heap)(hk:k<=es.size)(hs:gE w=true->slot=if k=0 then 0 else t.place.getD (k - 1) 0 + 1)
  (h:∀(r:Option (Value×Nat)),(k < es.size->∃x nx,r=some (x,nx)/\(told w S ep es)[k]?.map (·.2)=some x/\(gE w=true->nx=t.place.getD k 0 + 1))->(k=es.size->r=none)->Q r s) :
  wpAny (model prog w) A (setNext S slot k ep) Q E s:=by
 rw[AK]
 refine HS (Jm X.set X.data X.fits ?_)
 dsimp only
 refine HS (KU ?_)
 dsimp only
 cases hb:w.params.followText "set-order" with
 |true=>
  rw[HV (show (model prog w).w.params.followText "set-order"=true from hb)]
  simp only[bne_self_eq_false,Iw,IZ]
  rw[Ab]
  refine HS (HS (Jm X.set X.data X.fits ?_))
  dsimp only
  refine HS (KU ?_)
  dsimp only
  rw[HV (show (model prog w).w.params.followText "set-order"=true from hb)]
  refine HS (KU (HW (HW ?_)))
  have et:told w S ep es=pickOrder (w.params.setOrder S ep) es:=by unfold told;rw[HV hb]
  have hsz:(pickOrder (w.params.setOrder S ep) es).size=es.size:=by
   have:=(ig (w.params.setOrder S ep) es).length_eq;simpa using this
  refine h _ (λhlt=>?_) (λe=>?_)
  ·have hlt':k < (pickOrder (w.params.setOrder S ep) es).size:=by rw[hsz];exact hlt
   refine⟨(pickOrder (w.params.setOrder S ep) es)[k].2,slot,?_,?_,λz=>?_⟩
   ·show Option.map _ (pickOrder (w.params.setOrder S ep) es)[k]? =_
    rw[IM hlt'];rfl
   ·rw[et,IM hlt'];rfl
   ·unfold gE at z;rw[hb] at z;cases z
  ·show Option.map _ (pickOrder (w.params.setOrder S ep) es)[k]? =_
   rw[KD (by rw[hsz];omega)];rfl
 |false=>
  rw[HY (show ¬(model prog w).w.params.followText "set-order"=true by intro z;rw[show (model prog w).w.params.followText "set-order"=false from hb] at z;cases z)]
  have hl:gE w=true:=by unfold gE;rw[hb];rfl
  rw[X.tab.plain,X.led,hl]
  simp only[Ks,Bool.false_and,Iw,IZ]
  have et:told w S ep es=es:=by unfold told;rw[hb];simp
  have hps:t.place.size=es.size:=by simpa using X.tab.size
  have hbl:below t.place slot=k:=by
   rw[hs hl]
   obtain⟨b1,b2,b3⟩:=cF X.tab.rise (if k=0 then 0 else t.place.getD (k - 1) 0 + 1)
   by_cases k0:k=0
   ·subst k0
    simp only[Js] at b1 b2 b3 ⊢
    rcases Nat.eq_zero_or_pos (below t.place 0) with z |z
    ·exact z
    ·have:=b2 0 z;omega
   ·rw[HY k0] at b1 b2 b3 ⊢
    have hk1:k - 1 < t.place.size:=by omega
    rcases Lj (below t.place (t.place.getD (k - 1) 0 + 1)) k with z |z |z
    ·have q:=b3 (k - 1) (by omega) hk1
     have e:t.place.getD (k - 1) (t.place.getD (k - 1) 0 + 1)=t.place.getD (k - 1) 0:=by simp[Array.getD,hk1]
     omega
    ·exact z
    ·have hks:k < t.place.size:=by omega
     have q:=b2 k z
     have e:t.place.getD k (t.place.getD (k - 1) 0 + 1)=t.place.getD k 0:=by simp[Array.getD,hks]
     have:=fm (d:=0) X.tab.rise (show k - 1 < k by omega) hks
     omega
  refine HW ?_
  rw[hbl]
  refine h _ (λhlt=>?_) (λe=>?_)
  ·have hlt2:k < t.place.size:=by omega
   refine⟨es[k].2,t.place[k] + 1,?_,?_,λ_=>?_⟩
   ·rw[IM hlt,IM hlt2]
   ·rw[et,IM hlt];rfl
   ·simp[Array.getD,hlt2]
  ·rw[KD (by omega)]
def xc {S I:Addr}{o:Obj}{es:Array (Int×Value)}{ep:Nat}{t:SetTable}(hh:A.handled=none)(hne:S≠I) :
  Walks prog w A I [I,S] [I] es.size (λi v=>(told w S ep es)[i]?.map (·.2)=some v) (λi h=>jY w S o es ep t I i h) where
 sub:=λb hb=>Ih.mpr (.inl (I0.mp hb))
 frame:=λi h h' X k=>by
  obtain⟨slot,e,r⟩:=X.it
  exact⟨k S (by simp) _ X.set,X.data,X.cls,X.tab,X.led,slot,k I (by simp) _ e,r⟩
 item:=λi s Q E hi X hQ=>by
  obtain⟨slot,e,r⟩:=X.it
  have hT:s.TypeIs (.ref I) "set_iterator":=⟨_,e,rfl⟩
  unfold pyNext
  refine HS (wpAny_attempt (J3 (name:=Str.ofString "__next__") hT bC (JV bC hT fR ?_ (gX _))))
  unfold Builtin.«set_iterator.__next__»
  refine HS (m:=slotArgs "__next__" 0 _) (HW ?_)
  dsimp only
  unfold fieldsOf
  refine HS (HS (wpAny_load e (HW ?_)))
  dsimp only
  unfold setEntries
  refine HS (HS (Jm X.set X.data X.fits (HW ?_)))
  dsimp only
  rw[HY (by simp)]
  refine HS ?_
  simp only[Jl]
  refine uT X (KN hi) r λrr h1 _=>?_
  obtain⟨x,nx,rfl,h2,h3⟩:=h1 hi
  dsimp only
  refine HS (KO e rfl (by simp) ?_)
  have e2:=Jt (Obj.mapFields λvs=>vs.setIfInBounds 0 (rawInt (nx:Int))) e rfl
  refine HS (KO e2 rfl (by simp) ?_)
  refine HW ⟨x,rfl,HW ?_⟩
  have sb:=(Heap.SameBut.update s.heap I (Obj.mapFields λvs=>vs.setIfInBounds 0 (rawInt (nx:Int)))).trans (Heap.SameBut.update _ I (Obj.mapFields λvs=>vs.setIfInBounds 1 (rawInt ((i:Int) + 1))))
  refine hQ x _ _ h2 ⟨(sb.2 S hne).trans X.set,X.data,X.cls,X.tab,X.led,nx,?_,λz=>?_⟩ λb o hb eb=>(sb.2 b (by simpa using hb)).trans eb
  ·exact Jt (Obj.mapFields λvs=>vs.setIfInBounds 1 (rawInt ((i:Int) + 1))) e2 rfl
  ·rw[HY (by omega)];exact h3 z
 done:=λs Q E X hQ=>by
  obtain⟨slot,e,r⟩:=X.it
  have hT:s.TypeIs (.ref I) "set_iterator":=⟨_,e,rfl⟩
  unfold pyNext
  refine HS (wpAny_attempt (J3 (name:=Str.ofString "__next__") hT bC (JV bC hT fR ?_ (gX _))))
  unfold Builtin.«set_iterator.__next__»
  refine HS (m:=slotArgs "__next__" 0 _) (HW ?_)
  dsimp only
  unfold fieldsOf
  refine HS (HS (wpAny_load e (HW ?_)))
  dsimp only
  unfold setEntries
  refine HS (HS (Jm X.set X.data X.fits (HW ?_)))
  dsimp only
  rw[HY (by simp)]
  refine HS ?_
  simp only[Jl]
  refine uT X (HX _) r λrr _ h1=>?_
  rw[h1 rfl]
  dsimp only
  refine HS (KO e rfl (by simp) ?_)
  (show wpAny _ _ (newExc (.type "StopIteration") [] >>= λx=>raiseNew x) _ _ _)
  refine HS ?_
  simp only[newExc,newTuple]
  (refine HS (Jg ?_ (by size_fits)))
  (refine HS (m:=firstArgMember _ _) (wpAny_of_eq (a:=Value.none) (by first |rfl | (simp only[firstArgMember];rfl)) ?_))
  (refine Jg ?_ (by size_fits))
  simp only[raiseNew]
  refine HS (wpAny_handled ?_)
  (rw[show A.in1.handled=none from hh])
  refine HS (HW (wpAny_throw ?_))
  refine HS (wpAny_isInstance (T:="StopIteration") (b:=true) ⟨_,IB _ rfl,rfl⟩ isSubtype_stop (HW (hQ _ _ λb o hb eb=>?_)))
  exact Ia _ (Ia _ (((Heap.SameBut.update ..).2 b (by simpa using hb)).trans eb))
 self:=λi s Q E X hQ=>by
  obtain⟨slot,e,r⟩:=X.it
  have hT:s.TypeIs (.ref I) "set_iterator":=⟨_,e,rfl⟩
  refine wpAny_pyIter_slot hT gY (JV gY hT kB ?_ (lD _))
  show wpAny _ _ (ret (.ref I)) _ _ s
  exact HW ⟨_,rfl,"set_iterator",_,hT,bC.lookup,hQ⟩
def yK {S:Addr}{o:Obj}{es:Array (Int×Value)}{ep:Nat}{t:SetTable}{Q:Value->Shared->Prop}(ho:s.heap.get? S=some o)(hd:o.data=.set es ep t)(hc:o.cls=.type "set")(T:Tab t (es.toList.map (·.1)))(hl:t.led=gE w)
  (h:Q (.ref s.heap.objs.size) {s with heap:=s.heap.push (rO S 0 0 es.size ep)}):wpAny (model prog w) A (pyIter (.ref S)) Q E s:=by
 have hT:s.TypeIs (.ref S) "set":=⟨o,ho,hc⟩
 have hf:t.fits es.size=true:=m6 T (by simp)
 refine wpAny_pyIter_slot hT F.slot_set_iter (JV F.slot_set_iter hT nc ?_ (F.args_set_iter_1 _))
 unfold Builtin.«frozenset.__iter__» Builtin.Frozenset.slot0
 refine HS (HS (m:=slotArgs "__iter__" 0 _) (HW (HW ?_)))
 unfold Builtin.Frozenset.sizeOf setEntries
 refine HS (HS (HS (Jm ho hd hf (HW (HW ?_)))))
 rw[x9]
 refine HS (HS (Jm ho hd hf ?_))
 dsimp only
 refine HS (HS (KU (HW (HW ?_))))
 rw[T.plain]
 simp only[Ks,Bool.false_and,Bool.and_false,Iw,IZ]
 refine HS (HW ?_)
 unfold setEpoch
 refine HS (HS (Jm ho hd hf (HW ?_)))
 refine HS (Jg (HW ⟨_,rfl,"set_iterator",_,⟨_,IB _ rfl,rfl⟩,bC.lookup,h⟩))
def rj {S:Addr}{o:Obj}{es:Array (Int×Value)}{ep:Nat}{t:SetTable}{Q:List Value->Shared->Prop}(hh:A.handled=none)(ho:s.heap.get? S=some o)(hd:o.data=.set es ep t)(hc:o.cls=.type "set")(T:Tab t (es.toList.map (·.1)))(hl:t.led=gE w)
  (hn:es.size<=64) (h:∀h' tk vs,vs=(told w S ep es).toList.map (·.2)->(∀b o,s.heap.get? b=some o->h'.get? b=some o)->Q vs {s with heap:=h',toks:=tk}):wpAny (model prog w) A (collect (.ref S)) Q E s:=by
 have hz:es.size<=sizeLine:=by rw[IV];omega
 unfold collect
 (refine HS (wpAny_runValue (Ky F.entry_proto_collect ?_)))
 (rw[Kh F.plain_proto_collect _])
 show wpAny _ A.in1 (newList [] >>= λl=>again (.builtin "list.__iadd__" ⟨[l,.ref S],[]⟩)) _ _ s
 refine HS (Jg ?_)
 (refine HW ⟨plainId_quiet F.plain_list_iadd _,Ky F.entry_list_iadd ?_⟩)
 (rw[Kh F.plain_list_iadd _])
 show wpAny _ A.in1 (Builtin.List.listExtendWith (.ref s.heap.objs.size) (.ref S) (.ref s.heap.objs.size)) _ _ {s with heap:=s.heap.push (seqObj "list" #[] 0)}
 generalize hH:s.heap.push (seqObj "list" #[] 0)=H1
 have kp1:∀b o,s.heap.get? b=some o->H1.get? b=some o:=λb o e=>by rw[<-hH];exact Ia _ e
 have hD:H1.get? s.heap.objs.size=some (seqObj "list" #[] 0):=by rw[<-hH];exact IB _ rfl
 have hHs:H1.objs.size=s.heap.objs.size + 1:=by rw[<-hH];exact JM ..
 have hSD:S≠s.heap.objs.size:=Ja (Il ho)
 have hT:Shared.TypeIs {s with heap:=H1} (.ref S) "set":=⟨o,kp1 _ _ ho,hc⟩
 unfold Builtin.List.listExtendWith
 refine HS (Kn hT ?_)
 have h1:Builtin.List.listSameRef (.ref s.heap.objs.size) (.ref S)=false:=by simp[Builtin.List.listSameRef,Ne.symm hSD]
 have h2:(Value.type "set" == Value.type "list")=false:=by decide
 have h3:(Value.type "set" == Value.type "tuple")=false:=by decide
 rw[h1,h2,h3]
 simp only[Bool.or_false,Iw,IZ]
 refine HS (yK (s:={s with heap:=H1}) (kp1 _ _ ho) hd hc T hl ?_)
 refine HS (JE ?_)
 unfold Builtin.List.listLengthHint
 have hT2:Shared.TypeIs {s with heap:=H1.push (rO S 0 0 es.size ep)} (.ref S) "set":=⟨o,Ia _ (kp1 _ _ ho),hc⟩
 refine HS (wpAny_specialOf hT2 F.slot_set_len.lookup ?_)
 wp_delta
 refine HS (wpAny_isInstance hT2 (b:=true) (by rw[Ld];kernel_rfl) ?_)
 show wpAny _ A.in1 (typeOf (Value.ref S) >>= λ_=>_) _ _ _
 refine HS (Kn hT2 ?_)
 refine HW ?_
 show wpAny _ A.in1 (rule "list.extend.makes-room" >>= λ_=>Builtin.List.listTouch (.ref s.heap.objs.size) >>= λ_=>again (.builtin "list.extend.loop" ⟨[.ref s.heap.objs.size,.ref H1.objs.size,.ref s.heap.objs.size],[]⟩)) _ _ _
 refine HS (Kz (HS ?_))
 generalize hH2:H1.push (rO S 0 0 es.size ep)=H2
 have kp2:∀b o,H1.get? b=some o->H2.get? b=some o:=λb o e=>by rw[<-hH2];exact Ia _ e
 have hI:H2.get? H1.objs.size=some (rO S 0 0 es.size ep):=by rw[<-hH2];exact IB _ rfl
 have hS0:=kp2 _ _ hD
 show wpAny _ A.in1 (updateSeq s.heap.objs.size (·.push .none) >>= λ_=>updateSeq s.heap.objs.size (·.pop)) _ _ _
 refine HS (wpAny_updateSeq (s:={s with heap:=H2}) hS0 rfl ?_)
 have hS2:=Jt (Obj.mapSeq (·.push Value.none)) hS0 rfl
 refine wpAny_updateSeq (hz:=by seq_fits) hS2 rfl ?_
 have hS3:=Jt (Obj.mapSeq (·.pop)) hS2 rfl
 have oth:∀b o,b≠s.heap.objs.size->H2.get? b=some o->((H2.update s.heap.objs.size (Obj.mapSeq (·.push Value.none))).update s.heap.objs.size (Obj.mapSeq (·.pop))).get? b=some o:=λb o hb e=>
  ((Heap.SameBut.update _ s.heap.objs.size (Obj.mapSeq (·.pop))).2 b hb).trans (((Heap.SameBut.update H2 s.heap.objs.size (Obj.mapSeq (·.push Value.none))).2 b hb).trans e)
 have hIS:S≠H1.objs.size:=by rw[hHs];exact Ja (Nat.lt_succ_of_lt (Il ho))
 have hID:H1.objs.size≠s.heap.objs.size:=by rw[hHs];exact Nat.succ_ne_self _
 have hDf:s.heap.objs.size∉ [H1.objs.size,S]:=λz=>by
  rcases Ih.mp z with e |z
  ·exact hID e.symm
  ·exact hSD (I0.mp z).symm
 have X0:jY w S o es ep t H1.objs.size 0 ((H2.update s.heap.objs.size (Obj.mapSeq (·.push Value.none))).update s.heap.objs.size (Obj.mapSeq (·.pop))):=
  ⟨oth _ _ hSD (kp2 _ _ (kp1 _ _ ho)),hd,hc,T,hl,0,oth _ _ hID hI,λ_=>rfl⟩
 refine HW ⟨plainId_quiet F.plain_extend_loop _,codeAny_extend_loopS (xc (A:=A.in1) (o:=o) (t:=t) hh hIS).toS hz _ hDf _ es.size 0 _ _ _ rfl (IU _) X0 hS3 (ItemsOf.nil _) λs' acc' c' hm hS' hacc=>?_⟩
 show wpAny _ A (load s.heap.objs.size >>= λ_=>_) _ _ s'
 refine HS (wpAny_load hS' (HW ?_))
 obtain⟨h',g',d',tk',os'⟩:=s'
 have eg:g'=s.gens:=hm.gens
 have ed:d'=s.drawn:=hm.drawn
 have eo:os'=s.os:=hm.os
 subst eg ed eo
 refine h h' tk' acc'.toList ?_ λb ob e=>hm.heap b ob (λhb=>?_) (oth b ob (Ja (Il e)) (kp2 _ _ (kp1 _ _ e)))
 ·have hts:(told w S ep es).size=es.size:=by have:=(n6 w S ep es).length_eq;simpa using this
  apply KJ
  intro i
  rw[Ip]
  by_cases hi:i < es.size
  ·have hi1:i < acc'.size:=by rw[hacc.1];exact hi
   have q:=hacc.2 i acc'[i] (IM hi1)
   rw[Jc,Jc,IM hi1]
   exact q.symm
  ·rw[Jc,Jc,KD (by rw[hacc.1];omega),KD (by omega)];rfl
 ·have hlt:=Il e
  rcases Ih.mp hb with z |z
  ·rw[z] at hlt;exact IL _ hlt
  ·rw[I0.mp z,hHs] at hlt;exact absurd hlt (Nat.not_lt.mpr (Nat.le_succ _))
end
end L2.ST
namespace OM
abbrev Pr:=Int×Int
def B7 (p q:Pr):Prop:=p.1 < q.1\/(p.1=q.1/\p.2 < q.2)
def gf (p:Pr):¬B7 p p:=by unfold B7;omega
def wF {p q r:Pr}(a:B7 p q)(b:B7 q r):B7 p r:=by unfold B7 at *;omega
abbrev rh (l:List Pr):Prop:=l.Pairwise B7
theorem fD:∀{l m:List Pr},rh l->rh m->(∀x,x∈l↔x∈m)->l=m
 | [],[],_,_,_=>rfl
 | [],b :: m,_,_,h=>absurd ((h b).mpr (Ig ..)) (by simp)
 |a :: l,[],_,_,h=>absurd ((h a).mp (Ig ..)) (by simp)
 |a :: l,b :: m,hl,hm,h=>by
  have hl':=J8.mp hl
  have hm':=J8.mp hm
  have e:a=b:=by
   rcases Ih.mp ((h a).mp (Ig ..)) with e |e
   ·exact e
   ·rcases Ih.mp ((h b).mpr (Ig ..)) with e' |e'
    ·exact e'.symm
    ·exact absurd (wF (hm'.1 a e) (hl'.1 b e')) (gf _)
  subst e
  congr 1
  refine fD hl'.2 hm'.2 λx=>⟨λhx=>?_,λhx=>?_⟩
  ·rcases Ih.mp ((h x).mp (Ie _ hx)) with e |e
   ·subst e;exact absurd (hl'.1 x hx) (gf _)
   ·exact e
  ·rcases Ih.mp ((h x).mpr (Ie _ hx)) with e |e
   ·subst e;exact absurd (hm'.1 x hx) (gf _)
   ·exact e
def iW {l:List Pr}(h:rh l):l.Nodup:=h.imp λ{a b} hab e=>by subst e;exact gf _ hab
def mI {l:List Pr}(p:Pr->Bool)(h:rh l):rh (l.filter p):=h.sublist List.filter_sublist
def eQ (n:Nat):List Pr:=(List.range (n * n)).map λk=>(((k / n:Nat):Int),((k % n:Nat):Int))
def fO {n:Nat}{p:Pr}:p∈eQ n↔(0<=p.1/\p.1 < n)/\(0<=p.2/\p.2 < n):=by
 unfold eQ
 rw[Iz]
 constructor
 ·rintro⟨k,hk,rfl⟩
  have hk:=IH.mp hk
  have hn:0 < n:=by
   rcases Nat.eq_zero_or_pos n with e |e
   ·subst e;omega
   ·exact e
  have h1:k / n < n:=Nat.div_lt_of_lt_mul hk
  have h2:k % n < n:=Nat.mod_lt _ hn
  generalize k / n=q at h1
  generalize k % n=r at h2
  exact⟨⟨Int.natCast_nonneg _,by dsimp only;omega⟩,⟨Int.natCast_nonneg _,by dsimp only;omega⟩⟩
 ·rintro⟨⟨a0,a1⟩,⟨b0,b1⟩⟩
  have hn:0 < n:=by omega
  refine⟨p.1.toNat * n + p.2.toNat,IH.mpr ?_,?_⟩
  ·have h1:p.1.toNat + 1<=n:=by omega
   have h2:p.2.toNat < n:=by omega
   have:=Nat.mul_le_mul_right n h1
   rw[Nat.add_mul] at this
   omega
  ·have h2:p.2.toNat < n:=by omega
   have e1:(p.1.toNat * n + p.2.toNat) / n=p.1.toNat:=by
    rw[Nat.mul_comm,Nat.mul_add_div hn,Nat.div_eq_of_lt h2];rfl
   have e2:(p.1.toNat * n + p.2.toNat) % n=p.2.toNat:=by
    rw[Nat.mul_comm,Nat.mul_add_mod,Nat.mod_eq_of_lt h2]
   rw[e1,e2]
   refine Prod.ext ?_ ?_ <;> dsimp only <;> omega
def l8 (n:Nat):rh (eQ n):=by
 unfold eQ
 refine Jw.mpr (JZ ?_ List.pairwise_lt_range)
 intro a b ha hb hab
 have ha:=IH.mp ha
 have hb:=IH.mp hb
 have hn:0 < n:=by
  rcases Nat.eq_zero_or_pos n with e |e
  ·subst e;omega
  ·exact e
 have h1:a / n<=b / n:=Nat.div_le_div_right (KN hab)
 have e1:=Nat.div_add_mod a n
 have e2:=Nat.div_add_mod b n
 unfold B7
 dsimp only
 rcases IJ (a / n) (b / n) with c |c
 ·left;omega
 ·right
  have e:a / n=b / n:=by omega
  rw[e] at e1
  omega
open Classical in
noncomputable def aX (n:Nat)(R:Int->Int->Prop):List Pr:=(eQ n).filter λp=>decide (R p.1 p.2)
def aJ {n:Nat}{R:Int->Int->Prop}{p:Pr}:p∈aX n R↔((0<=p.1/\p.1 < n)/\(0<=p.2/\p.2 < n))/\R p.1 p.2:=by
 unfold aX
 rw[KZ,fO]
 simp
def bV (n:Nat)(R:Int->Int->Prop):rh (aX n R):=mI _ (l8 n)
def tP {n:Nat}{R S:Int->Int->Prop}(h:∀a b:Int,0<=a->a < n->0<=b->b < n->(R a b↔S a b)):aX n R=aX n S:=by
 refine fD (bV n R) (bV n S) λx=>?_
 rw[aJ,aJ]
 constructor
 ·rintro⟨⟨⟨a,b⟩,c,d⟩,r⟩;exact⟨⟨⟨a,b⟩,c,d⟩,(h _ _ a b c d).mp r⟩
 ·rintro⟨⟨⟨a,b⟩,c,d⟩,r⟩;exact⟨⟨⟨a,b⟩,c,d⟩,(h _ _ a b c d).mpr r⟩
def Wn (n:Nat)(l:List Pr):Prop:=∀p,p∈l->(0<=p.1/\p.1 < n)/\(0<=p.2/\p.2 < n)
abbrev Mem (l:List Pr)(a b:Int):Prop:=(a,b)∈l
def wN {n:Nat}{l:List Pr}(w:Wn n l)(r:rh l):aX n (Mem l)=l:=by
 refine fD (bV n _) r λx=>?_
 rw[aJ]
 exact⟨λh=>h.2,λh=>⟨w x h,h⟩⟩
def pj (n:Nat)(R:Int->Int->Prop):Wn n (aX n R):=λ_ h=>(aJ.mp h).1
def yh (n:Nat)(R:Int->Int->Prop):(aX n R).length<=n * n:=by
 unfold aX
 refine Ji (KP ..) ?_
 unfold eQ;simp
inductive Tr (R:Int->Int->Prop):Int->Int->Prop
 |one {a b}:R a b->Tr R a b
 |more {a b c}:R a b->Tr R b c->Tr R a c
theorem Tr.trans {R:Int->Int->Prop}{a b c:Int}(h:Tr R a b)(k:Tr R b c):Tr R a c:=by
 induction h with
 |one r=>exact .more r k
 |more r _ ih=>exact .more r (ih k)
theorem Tr.least {R S:Int->Int->Prop}(f:∀a b,R a b->S a b)(t:∀a b c,S a b->S b c->S a c){a b:Int}(h:Tr R a b):S a b:=by
 induction h with
 |one r=>exact f _ _ r
 |more r _ ih=>exact t _ _ _ (f _ _ r) ih
structure Ord (n:Nat)(l:List Pr):Prop where
 lo:1<=n
 hi:n<=8
 wn:Wn n l
 ris:rh l
 irr:∀a,(a,a)∉l
 tr:∀a b c,(a,b)∈l->(b,c)∈l->(a,c)∈l
def Ord.tr_mem {n:Nat}{l:List Pr}(O:Ord n l){a b:Int}:Tr (Mem l) a b↔(a,b)∈l:=
 ⟨λh=>h.least (λ_ _ r=>r) λa b c=>O.tr a b c,λh=>.one h⟩
def Ord.closed {n:Nat}{l:List Pr}(O:Ord n l):aX n (Tr (Mem l))=l:=by
 rw[tP (S:=Mem l) λa b _ _ _ _=>O.tr_mem,wN O.wn O.ris]
def CL {n:Nat}{l:List Pr}(h1:1<=n)(h8:n<=8)(w:Wn n l)(hr:∀a,¬Tr (Mem l) a a):Ord n (aX n (Tr (Mem l))):=
 ⟨h1,h8,pj n _,bV n _,λa h=>hr a (aJ.mp h).2,λa b c h k=>aJ.mpr ⟨⟨(aJ.mp h).1.1,(aJ.mp k).1.2⟩,(aJ.mp h).2.trans (aJ.mp k).2⟩⟩
theorem nh {l m:List Pr}(hl:l.Nodup)(h:∀x,x∈l->x∈m):l.length<=m.length:=by
 induction l generalizing m with
 |nil=>exact IU _
 |cons a l ih=>
  have ha:=h a (Ig ..)
  have hl':=Jk.mp hl
  have:=ih (m:=m.erase a) hl'.2 λx hx=>by
   refine (List.mem_erase_of_ne ?_).mpr (h x (Ie _ hx))
   rintro rfl;exact hl'.1 hx
  rw[K4 ha] at this
  have:0 < m.length:=List.length_pos_of_mem ha
  simp only[Iv];omega
def sub_eq {l m:List Pr}(hl:rh l)(hm:rh m)(h:∀x,x∈l->x∈m)(e:l.length=m.length):l=m:=by
 refine fD hl hm λx=>⟨h x,λhx=>Classical.byContradiction λhn=>?_⟩
 have:=nh (l:=x :: l) (m:=m) (Jk.mpr ⟨hn,iW hl⟩) λy hy=>by
  rcases Ih.mp hy with e |e
  ·subst e;exact hx
  ·exact h y e
 simp only[Iv] at this
 omega
def more (l:List Pr):List Pr:=l.flatMap λp=>(l.filter λq=>decide (q.1=p.2)).map λq=>(p.1,q.2)
def me {l:List Pr}{x:Pr}:x∈more l↔∃b,(x.1,b)∈l/\(b,x.2)∈l:=by
 unfold more
 rw[List.mem_flatMap]
 constructor
 ·rintro⟨p,hp,hx⟩
  obtain⟨q,hq,rfl⟩:=Iz.mp hx
  obtain⟨hq,e⟩:=KZ.mp hq
  have e:q.1=p.2:=by simpa using e
  exact⟨p.2,hp,by rw[<-e];exact hq⟩
 ·rintro⟨b,h1,h2⟩
  exact⟨(x.1,b),h1,Iz.mpr ⟨(b,x.2),KZ.mpr ⟨h2,by simp⟩,rfl⟩⟩
noncomputable def iy (n:Nat)(l:List Pr):List Pr:=aX n (Mem (l ++ more l))
structure BR (n:Nat)(ps l:List Pr):Prop where
 wn:Wn n l
 ris:rh l
 sub:∀x,x∈ps->x∈l
 sup:∀x,x∈l->Tr (Mem ps) x.1 x.2
def xf {n:Nat}{ps:List Pr}(w:Wn n ps):BR n ps (aX n (Mem ps)):=
 ⟨pj n _,bV n _,λx hx=>aJ.mpr ⟨w x hx,hx⟩,λ_ hx=>.one (aJ.mp hx).2⟩
def yZ {n:Nat}{ps l:List Pr}(B:BR n ps l):Wn n (l ++ more l):=λx hx=>by
 rcases Iu.mp hx with h |h
 ·exact B.wn x h
 ·obtain⟨b,h1,h2⟩:=me.mp h
  exact⟨(B.wn _ h1).1,(B.wn _ h2).2⟩
def qU {n:Nat}{ps l:List Pr}(B:BR n ps l):BR n ps (iy n l)/\∀x,x∈l->x∈iy n l:=by
 have hs:∀x,x∈l->x∈iy n l:=λx hx=>aJ.mpr ⟨B.wn x hx,Ke _ hx⟩
 refine⟨⟨pj n _,bV n _,λx hx=>hs x (B.sub x hx),λx hx=>?_⟩,hs⟩
 rcases Iu.mp (aJ.mp hx).2 with h |h
 ·exact B.sup _ h
 ·obtain⟨b,h1,h2⟩:=me.mp h
  exact (B.sup _ h1).trans (B.sup _ h2)
def zK {n:Nat}{ps l:List Pr}(B:BR n ps l)(e:(iy n l).length=l.length):iy n l=aX n (Tr (Mem ps)):=by
 obtain⟨B2,hs⟩:=qU B
 have q:l=iy n l:=sub_eq B.ris B2.ris hs e.symm
 refine fD B2.ris (bV n _) λx=>⟨λh=>aJ.mpr ⟨B2.wn x h,B2.sup x h⟩,λh=>?_⟩
 rw[<-q]
 have tr:∀a b c:Int,(a,b)∈l->(b,c)∈l->(a,c)∈l:=λa b c h1 h2=>by
  rw[q]
  exact aJ.mpr ⟨⟨(B.wn _ h1).1,(B.wn _ h2).2⟩,IY _ (me.mpr ⟨b,h1,h2⟩)⟩
 exact (aJ.mp h).2.least (S:=Mem l) (λa b r=>B.sub _ r) tr
abbrev Tb:=Nat->Nat->Bool
def Tb.set (M:Tb)(a b:Nat):Tb:=λx y=>if x=a/\y=b then true else M x y
def A4 (M:Tb)(m:Nat):Prop:=∀k a b,k < m->M a k=true->M k b=true->M a b=true
def Phase (M0 M:Tb)(m:Nat)(D:Nat->Nat->Prop):Prop:=∀a b,M a b=true↔M0 a b=true\/(D a b/\M0 a m=true/\M0 m b=true)
def Phase.start (M:Tb)(m:Nat):Phase M M m λ_ _=>False:=λa b=>by simp
def Phase.row {M0 M:Tb}{m:Nat}{D:Nat->Nat->Prop}(P:Phase M0 M m D)(a:Nat):M a m=true↔M0 a m=true:=by
 rw[P]
 exact⟨λh=>h.elim id λh=>h.2.1,.inl⟩
def Phase.col {M0 M:Tb}{m:Nat}{D:Nat->Nat->Prop}(P:Phase M0 M m D)(b:Nat):M m b=true↔M0 m b=true:=by
 rw[P]
 exact⟨λh=>h.elim id λh=>h.2.2,.inl⟩
def Phase.step {M0 M:Tb}{m:Nat}{D:Nat->Nat->Prop}(P:Phase M0 M m D)(x y:Nat) :
  Phase M0 (if M x m=true/\M m y=true then M.set x y else M) m (λa b=>D a b\/(a=x/\b=y)):=λa b=>by
 have r:=P.row x
 have c:=P.col y
 by_cases h:M x m=true/\M m y=true
 ·rw[HV h]
  unfold Tb.set
  by_cases e:a=x/\b=y
  ·rw[HV e]
   obtain⟨rfl,rfl⟩:=e
   simp only[true_iff]
   exact .inr ⟨.inr (by simp),r.mp h.1,c.mp h.2⟩
  ·rw[HY e,P]
   constructor
   ·rintro (q | ⟨d,q⟩)
    ·exact .inl q
    ·exact .inr ⟨.inl d,q⟩
   ·rintro (q | ⟨d |d,q⟩)
    ·exact .inl q
    ·exact .inr ⟨d,q⟩
    ·exact absurd d e
 ·rw[HY h,P]
  constructor
  ·rintro (q | ⟨d,q⟩)
   ·exact .inl q
   ·exact .inr ⟨.inl d,q⟩
  ·rintro (q | ⟨d | ⟨rfl,rfl⟩,q1,q2⟩)
   ·exact .inl q
   ·exact .inr ⟨d,q1,q2⟩
   ·exact absurd ⟨r.mpr q1,c.mpr q2⟩ h
def Phase.done {M0 M:Tb}{m n:Nat}{D:Nat->Nat->Prop}(P:Phase M0 M m D)(hD:∀a b,a < n->b < n->D a b)(hM:∀a b,M0 a b=true->a < n/\b < n)(T:A4 M0 m) :
  A4 M (m + 1)/\∀a b,M a b=true->a < n/\b < n:=by
 have hM':∀a b,M a b=true->a < n/\b < n:=λa b h=>by
  rcases (P a b).mp h with q | ⟨_,q1,q2⟩
  ·exact hM a b q
  ·exact⟨(hM _ _ q1).1,(hM _ _ q2).2⟩
 have put:∀a b,M0 a m=true->M0 m b=true->M a b=true:=λa b h1 h2=>(P a b).mpr (.inr ⟨hD a b (hM _ _ h1).1 (hM _ _ h2).2,h1,h2⟩)
 refine⟨λk a b hk h1 h2=>?_,hM'⟩
 rcases IJ k m with c |c
 ·rcases (P a k).mp h1 with q1 | ⟨_,q1,q1'⟩
  ·rcases (P k b).mp h2 with q2 | ⟨_,q2,q2'⟩
   ·exact (P a b).mpr (.inl (T k a b c q1 q2))
   ·exact put a b (T k a m c q1 q2) q2'
  ·rcases (P k b).mp h2 with q2 | ⟨_,q2,q2'⟩
   ·exact put a b q1 (T k m b c q1' q2)
   ·exact put a b q1 q2'
 ·have e:k=m:=by omega
  subst e
  exact put a b ((P.row a).mp h1) ((P.col b).mp h2)
structure Tab (n:Nat)(ps:List Pr)(M:Tb):Prop where
 inn:∀a b,M a b=true->a < n/\b < n
 sub:∀a b:Nat,((a:Int),(b:Int))∈ps->M a b=true
 sup:∀a b:Nat,M a b=true->Tr (Mem ps) a b
def Tab.phase {n:Nat}{ps:List Pr}{M0 M:Tb}{m:Nat}{D:Nat->Nat->Prop}(T:Tab n ps M0)(P:Phase M0 M m D):Tab n ps M:=
 ⟨λa b h=>by
  rcases (P a b).mp h with q | ⟨_,q1,q2⟩
  ·exact T.inn a b q
  ·exact⟨(T.inn _ _ q1).1,(T.inn _ _ q2).2⟩,
  λa b h=>(P a b).mpr (.inl (T.sub a b h)),
  λa b h=>by
  rcases (P a b).mp h with q | ⟨_,q1,q2⟩
  ·exact T.sup a b q
  ·exact (T.sup _ _ q1).trans (T.sup _ _ q2)⟩
def Tab.all {n:Nat}{ps:List Pr}{M:Tb}(w:Wn n ps)(T:Tab n ps M)(H:A4 M n)(a b:Nat):M a b=true↔Tr (Mem ps) a b:=by
 refine⟨T.sup a b,λh=>?_⟩
 have key:∀{x y:Int},Tr (Mem ps) x y->M x.toNat y.toNat=true:=λ{x y} h=>by
  induction h with
  | @one x y r=>
   have:=w _ r
   refine T.sub _ _ ?_
   have e1:((x.toNat:Nat):Int)=x:=by simp only at this;omega
   have e2:((y.toNat:Nat):Int)=y:=by simp only at this;omega
   rw[e1,e2];exact r
  | @more x y z r _ ih=>
   have:=w _ r
   have e1:((x.toNat:Nat):Int)=x:=by simp only at this;omega
   have e2:((y.toNat:Nat):Int)=y:=by simp only at this;omega
   have q:M x.toNat y.toNat=true:=T.sub _ _ (by rw[e1,e2];exact r)
   exact H y.toNat _ _ (T.inn _ _ q).2 q ih
 have:=key h
 simpa using this
end OM
namespace L2.ST
open PySem PySem.SetTable PySem.W PyProof.Rows
section
variable {prog:Program}{w:World}{A:Around}{E:Value->Shared->Prop}{s:Shared}
def C0 {ps:List Pr}(hs:∀p,p∈ps->Sm p){ix:Array Nat}(P:L2.SO.Pm ps.length ix)(U:L2.SO.Up (lz ps) ix ps.length):OM.rh (ix.toList.map λi=>ps.getD i (0,0)):=by
 refine Jw.mpr (Jo.mpr λi j hi hj hij=>?_)
 have hi':i < ix.size:=by simpa using hi
 have hj':j < ix.size:=by simpa using hj
 have q:=U i j hij (by rw[<-P.sz];exact hj')
 unfold L2.SO.Kp lz at q
 have ei:ix.getD i 0=ix.toList[i]:=by simp[Array.getD,hi']
 have ej:ix.getD j 0=ix.toList[j]:=by simp[Array.getD,hj']
 rw[ei,ej] at q
 have ai:ix.toList[i] < ps.length:=P.lt _ (by simp)
 have aj:ix.toList[j] < ps.length:=P.lt _ (by simp)
 have bi:Sm (ps.getD ix.toList[i] (0,0)):=by rw[Jy,HU ai];exact hs _ (JI ai)
 have bj:Sm (ps.getD ix.toList[j] (0,0)):=by rw[Jy,HU aj];exact hs _ (JI aj)
 exact (uV bi bj).mp q
def yD {n:Nat}{ix:Array Nat}(P:L2.SO.Pm n ix){k:Nat}(hk:k < n):k∈ix.toList:=by
 refine Classical.byContradiction λhn=>?_
 have:=bN (l:=k :: ix.toList) (m:=List.range n) (Jk.mpr ⟨hn,P.nd⟩) λx hx=>by
  rcases Ih.mp hx with e |e
  ·rw[e];exact IH.mpr hk
  ·exact IH.mpr (P.lt x (by simpa using e))
 simp[P.sz] at this
 omega
theorem Fw {h:Heap}{vs:List Value}{ps:List Pr}(hps:cf prog w h vs ps){ix:Array Nat}(P:L2.SO.Pm vs.length ix) :
  cf prog w h (ix.toList.map λi=>vs.getD i Value.none) (ix.toList.map λi=>ps.getD i (0,0)):=by
 refine⟨by simp,λi v p h1 h2=>?_⟩
 rw[Ip] at h1 h2
 cases e:ix.toList[i]? with
 |none=>rw[e] at h1;cases h1
 |some k=>
  rw[e] at h1 h2
  have hk:k < vs.length:=P.lt k (by simpa using Ij e)
  have hk':k < ps.length:=by rw[<-hps.1];exact hk
  simp[hk,hk'] at h1 h2
  exact hps.2 k v p (by rw[HU hk,h1]) (by rw[HU hk',h2])
def wg {v:Value}{vs:List Value}{ps:List Pr}{Q:Value->Shared->Prop}(hps:cf prog w s.heap vs ps)(nd:ps.Nodup)(h64:jQ vs.length)
  (hcol:∀(Q':List Value->Shared->Prop),(∀h' tk,(∀b o,s.heap.get? b=some o->h'.get? b=some o)->Q' vs {s with heap:=h',toks:=tk})->wpAny (model prog w) A.in1 (collect v) Q' (λe s'=>E e s') s)
  (h:∀(h1 h':Heap) (tk:Nat) (D:Addr) (out:List Value) (qs:List Pr) (c:Nat),(∀b o,s.heap.get? b=some o->h1.get? b=some o)->D=h1.objs.size->(∀b o,h1.get? b=some o->h'.get? b=some o)->h'.get? D=some (seqObj "list" out.toArray c)->cf prog w h' out qs->(∀u,u∈out->u∈vs)->OM.rh qs->(∀p,p∈qs↔p∈ps)->
   Q (.ref D) {s with heap:=h',toks:=tk}):wpAny (model prog w) A (call (.builtin "sorted") [v]) Q E s:=by
 have hsm:∀p,p∈ps->Sm p:=λp hp=>by
  obtain⟨i,hi,e⟩:=IW.mp hp
  have hi':i < vs.length:=by rw[hps.1];exact hi
  obtain⟨_,_,_,hs⟩:=hps.2 i vs[i] p (HU hi') (by rw[HU hi,e])
  exact hs
 (refine Calls.call_function_entry kind_sorted plain_sorted entry_sorted (args_sorted1 _) ?_)
 unfold Builtin.«sorted»
 refine HS (m:=checkCount "sorted" 1 1 ([v]:List Value).length) (HW ?_)
 refine HS (hcol _ λh1 tk1 k1=>?_)
 have hz:vs.length<=sizeLine:=by have:=h64.1;rw[IV];omega
 refine HS (wpAny_newList ?_ hz)
 show wpAny _ _ _ _ _ {s with heap:=h1.push (seqObj "list" vs.toArray 0),toks:=tk1}
 have hoL:(h1.push (seqObj "list" vs.toArray 0)).get? h1.objs.size=some (seqObj "list" vs.toArray 0):=IB _ rfl
 have kp:∀b o,s.heap.get? b=some o->(h1.push (seqObj "list" vs.toArray 0)).get? b=some o:=λb o e=>Ia _ (k1 b o e)
 have hp1:cf prog w (h1.push (seqObj "list" vs.toArray 0)) vs ps:=⟨hps.1,λi v p a b=>by
  obtain⟨c,e,⟨o,it,n,ho,r⟩,hs⟩:=hps.2 i v p a b
  exact⟨c,e,⟨o,it,n,kp _ _ ho,r⟩,hs⟩⟩
 have hne:∀b o,s.heap.get? b=some o->b≠h1.objs.size:=λb o e=>Ja (Il (k1 b o e))
 refine HS (JE (JV slot_list_sort ⟨_,hoL,rfl⟩ entry_list_sort ?_ (args_list_sort _)))
 refine qG (s:={s with heap:=h1.push (seqObj "list" vs.toArray 0),toks:=tk1}) hoL hp1 nd h64 λh' c ix P U hk ho=>?_
 refine⟨_,rfl,HW ⟨_,rfl,?_⟩⟩
 have kk:∀b o,s.heap.get? b=some o->h'.get? b=some o:=λb o e=>hk b o (hne b o e) (kp b o e)
 have P':L2.SO.Pm ps.length ix:=by rw[<-hps.1];exact P
 have k2:∀b o,h1.get? b=some o->h'.get? b=some o:=λb o e=>hk b o (Ja (Il e)) (Ia _ e)
 refine h h1 h' tk1 h1.objs.size _ (ix.toList.map λi=>ps.getD i (0,0)) c k1 rfl k2 ho (Fw ⟨hps.1,λi v p a b=>?_⟩ P) (λu hu=>?_) (C0 hsm P' (by rw[<-hps.1];exact U)) λp=>⟨λhp=>?_,λhp=>?_⟩
 ·obtain⟨c,e,⟨o,it,n,ho,r⟩,hs⟩:=hps.2 i v p a b
  exact⟨c,e,⟨o,it,n,kk _ _ ho,r⟩,hs⟩
 ·obtain⟨i,hi,rfl⟩:=Iz.mp hu
  have:i < vs.length:=P.lt i (by simpa using hi)
  rw[Jy,HU this]
  exact JI this
 ·obtain⟨i,hi,rfl⟩:=Iz.mp hp
  have:i < ps.length:=P'.lt i (by simpa using hi)
  rw[Jy,HU this]
  exact JI this
 ·obtain⟨i,hi,e⟩:=IW.mp hp
  refine Iz.mpr ⟨i,yD P' hi,?_⟩
  rw[Jy,HU hi,e];rfl
end
end L2.ST
namespace L2
open PySem PySem.Spec PyProof.Rows
abbrev Pr:=Int×Int
abbrev Sm:=L2.ST.Sm
section
variable {X:Cx}{pins:List (Addr×Obj)}{σ:St}{H H':Hp}{s:Shared}
def fk (H H':Hp):Prop:=(∀b xs,H b=some (.tup xs)->H' b=some (.tup xs))/\∀b o u,H b=some (.aO o u)->H' b=some (.aO o u)
def fk.trans {H H1 H2:Hp}(a:fk H H1)(b:fk H1 H2):fk H H2:=⟨λc xs h=>b.1 c xs (a.1 c xs h),λc o u h=>b.2 c o u (a.2 c o u h)⟩
def ag.grow {H H':Hp}(e:ag H H'):fk H H':=⟨λb xs h=>e b _ h,λb o u h=>e b _ h⟩
def fk.new {H:Hp}{l:Addr}{o:HO}(h:H l=none):fk H (upd H l o):=⟨λb xs e=>by rw[ao (ax e h)];exact e,λb o' u e=>by rw[ao (ax e h)];exact e⟩
def ag.new {H:Hp}{l:Addr}{o:HO}(h:H l=none):ag H (upd H l o):=λb u e=>Kt.of (by rw[ao (ax e h)];exact e)
def dA.grow {K:Frag}{a:Addr}{xs:List V}(h:dA K H a xs)(g:fk H H'):dA K H' a xs:=by
 rcases h with (h | ⟨o,h⟩) |h
 ·exact .inl (.inl (g.1 _ _ h))
 ·exact .inl (.inr ⟨o,g.2 _ _ _ h⟩)
 ·exact .inr h
def fk.list {a:Addr}{ys:List V}{o:HO}(h:H a=some (.lst ys)):fk H (upd H a o):=
 ⟨λb xs e=>by rw[ao (B9 e h (by intro z;cases z))];exact e,λb o' u e=>by rw[ao (B9 e h (by intro z;cases z))];exact e⟩
theorem nE {α β:Type}{f:α->β}:∀{l:List α} {m:List β},m.Perm (l.map f)->∃l':List α,m=l'.map f/\l'.Perm l:=by
 intro l m h
 generalize hk:l.map f=k at h
 induction h generalizing l with
 |nil=>
  have:l= []:=by simpa using hk
  exact⟨[],rfl,by rw[this]⟩
 | @cons x m1 m2 _ ih=>
  cases l with
  |nil=>cases hk
  |cons a l=>
   simp only[Jp,List.cons.injEq] at hk
   obtain⟨l',e,p⟩:=ih hk.2
   exact⟨a :: l',by rw[Jp,hk.1,e],p.cons a⟩
 |swap x y m1=>
  cases l with
  |nil=>cases hk
  |cons a l=>
   cases l with
   |nil=>simp at hk
   |cons b l=>
    simp only[Jp,List.cons.injEq] at hk
    exact⟨b :: a :: l,by rw[Jp,Jp,hk.1,hk.2.1,hk.2.2],List.Perm.swap ..⟩
 |trans _ _ ih1 ih2=>
  obtain⟨l1,e1,p1⟩:=ih2 hk
  obtain⟨l2,e2,p2⟩:=ih1 e1.symm
  exact⟨l2,e2,p2.trans p1⟩
def aE (K:Frag)(H:Hp):List V->List Pr->Prop:=Paired λv p=>∃a,v=.ref a/\dA K H a [.int p.1,.int p.2]
def aE.grow {K:Frag}{vs:List V}{ps:List Pr}(h:aE K H vs ps)(g:fk H H'):aE K H' vs ps:=Paired.mapP h λv p ⟨a,e,q⟩=>⟨a,e,q.grow g⟩
theorem Paired.getP {α β:Type}{F:α->β->Prop}:∀{l:List α} {m:List β} {i:Nat} {x:α},Paired F l m->l[i]? =some x->∃y,m[i]? =some y/\F x y
 |_,_,_,_,.nil,e=>by simp at e
 |_,_,0,_,.cons r _,e=>by simp at e;subst e;exact⟨_,rfl,r⟩
 |_,_,i + 1,x,.cons _ t,e=>by
  obtain⟨u,h1,h2⟩:=Paired.getP (i:=i) (x:=x) t (by simpa using e)
  exact⟨u,by simpa using h1,h2⟩
theorem Paired.getQ {α β:Type}{F:α->β->Prop}:∀{l:List α} {m:List β} {i:Nat} {y:β},Paired F l m->m[i]? =some y->∃x,l[i]? =some x/\F x y
 |_,_,_,_,.nil,e=>by simp at e
 |_,_,0,_,.cons r _,e=>by simp at e;subst e;exact⟨_,rfl,r⟩
 |_,_,i + 1,x,.cons _ t,e=>by
  obtain⟨u,h1,h2⟩:=Paired.getQ (i:=i) (y:=x) t (by simpa using e)
  exact⟨u,by simpa using h1,h2⟩
theorem pW (I:Inv X pins σ H s){a:Addr}{p:Pr}(h:dA X.K H a [.int p.1,.int p.2]):L2.ST.a8 X.prog X.w s.heap p a:=by
 obtain⟨its,r,⟨o,ho,hc,n,hd⟩,_⟩:=I.tuple h
 cases r with
 |cons r1 r=>
  cases r with
  |cons r2 r=>
   cases r
   obtain⟨t1,rfl⟩:=r1
   obtain⟨t2,rfl⟩:=r2
   exact⟨o,_,n,ho,hc,hd,.cons (intKind_is ..) (.cons (intKind_is ..) .nil)⟩
def pairs_at (I:Inv X pins σ H s){vs:List V}{us:List Value}{ps:List Pr}(hv:Vals vs us)(h:aE X.K H vs ps)(hs:∀p,p∈ps->Sm p):L2.ST.cf X.prog X.w s.heap us ps:=by
 refine⟨by rw[<-hv.length];exact Paired.length h,λi u p e1 e2=>?_⟩
 obtain⟨v,ev,a,rfl,q⟩:=Paired.getQ h e2
 obtain⟨u',eu,ru⟩:=hv.get ev
 rw[e1] at eu;cases eu
 cases ru
 exact⟨a,rfl,pW I q,hs p (Ij e2)⟩
theorem mU (I:Inv X pins σ H s){vs:List V}{us:List Value}{ps:List Pr}(hv:Vals vs us)(h:aE X.K H vs ps){h':Heap}(k:∀b o,s.heap.get? b=some o->h'.get? b=some o):∀{out:List Value} {qs:List Pr},
  (∀u,u∈out->u∈us)->L2.ST.cf X.prog X.w h' out qs->∃ws,Vals ws out/\aE X.K H ws qs
 | [],[],_,_=>⟨[],.nil,.nil⟩
 | [],_ :: _,_,hp=>by have:=hp.1;simp at this
 |_ :: _,[],_,hp=>by have:=hp.1;simp at this
 |u :: out,q :: qs,hm,hp=>by
  obtain⟨ws,a1,a2⟩:=mU I hv h k (out:=out) (qs:=qs) (λx hx=>hm x (Ie _ hx)) ⟨by have:=hp.1;simpa using this,λi v p e1 e2=>hp.2 (i + 1) v p (by simpa using e1) (by simpa using e2)⟩
  obtain⟨i,hi,e⟩:=IW.mp (hm u (Ig ..))
  have hi':i < vs.length:=by rw[hv.length];exact hi
  obtain⟨u',eu,ru⟩:=hv.get (HU hi')
  rw[HU hi,e] at eu
  cases eu
  obtain⟨p,ep,a,ea,qa⟩:=Paired.getP h (HU hi')
  rw[ea] at ru
  cases ru
  obtain⟨b,eb,hb,_⟩:=hp.2 0 (.ref a) q rfl rfl
  cases eb
  have pa:L2.ST.a8 X.prog X.w h' p a:=by
   obtain⟨o,it,n,ho,r⟩:=pW I qa
   exact⟨o,it,n,k _ _ ho,r⟩
  have:p=q:=L2.ST.a8.inj pa hb
  subst this
  exact⟨.ref a :: ws,.cons rfl a1,.cons ⟨a,rfl,qa⟩ a2⟩
def t9 (I:Inv X pins σ H s){vs:List V}{us:List Value}{ps:List Pr}(hv:Vals vs us)(hp:aE X.K H vs ps)(hlen:ps.length<=64){Q:VK}
  (q:∀l ws qs,H l=none->aE X.K H ws qs->OM.rh qs->(∀p,p∈qs↔p∈ps)->Q (.ref l) (upd H l (.lst ws)))
  {h1 h':Heap} {tk:Nat} {D:Addr} {out:List Value} {qs:List Pr} {c:Nat} (k1:∀b o,s.heap.get? b=some o->h1.get? b=some o) (eD:D=h1.objs.size) (k2:∀b o,h1.get? b=some o->h'.get? b=some o)
  (ho:h'.get? D=some (seqObj "list" out.toArray c)) (hpq:L2.ST.cf X.prog X.w h' out qs) (hm:∀u,u∈out->u∈us) (hr:OM.rh qs) (hmem:∀p,p∈qs↔p∈ps):EP X pins σ Q (.ref D) {s with heap:=h',toks:=tk}:=by
 obtain⟨ws,r1,r2⟩:=mU I hv hp (λb o e=>k2 b o (k1 b o e)) hm hpq
 have I1:Inv X pins σ H {s with heap:=h1,toks:=tk}:=I.kept k1
 have hf:H D=none:=by rw[eD];exact I1.hok.fresh (HX _)
 have hz:ws.length<=sizeLine:=by
  have e1:=r1.length
  have e2:out.length=qs.length:=hpq.1
  have e3:=OM.nh (OM.iW hr) λx hx=>(hmem x).mp hx
  rw[IV];omega
 have I2:Inv X pins σ (upd H D (.lst ws)) {s with heap:=h',toks:=tk}:=I1.laid (t':=tk) k2 (by rw[eD];exact HX _) (show bw X.prog X.w _ h' _ (.lst ws) from⟨hz,out,c,r1,ho⟩)
 exact⟨.ref D,_,I2,rfl,q D ws qs hf r2 hr hmem⟩
abbrev vq (qs:List (Addr×Pr)):List V:=qs.map λq=>V.ref q.1
abbrev pq (qs:List (Addr×Pr)):List Pr:=qs.map (·.2)
def Cf (prog:Program)(w:World)(S:Addr)(qs:List (Addr×Pr))(h:Heap):Prop:=∃o ep t,h.get? S=some o/\o.ExactSet/\o.data=.set (qs.map λq=>(L2.ST.xJ prog w q.2,Value.ref q.1)).toArray ep t/\L2.ST.Tab t (qs.map λq=>L2.ST.xJ prog w q.2)/\t.led=L2.ST.gE w
def wo (prog:Program)(w:World)(S:Addr)(qs:List (Addr×Pr)):HO:=.ext (Cf prog w S qs)
def D6 (P:Program)(w:World)(K:Frag):List V->Hp->VK->Prop:=λxs H Q=>∃a vs ps,xs= [.ref a]/\(fC K H a vs\/dA K H a vs)/\aE K H vs ps/\(∀p,p∈ps->Sm p)/\
 ∀S qs,H S=none->aE K H (vq qs) (pq qs)->(pq qs).Nodup->(∀p,p∈pq qs↔p∈ps)->Q (.ref S) (upd H S (wo P w S qs))
def yE (hc:X.calm=true)(hu:X.A.units + 64 < cLine):b9 X (.type "set") (D6 X.prog X.w X.K):=by
 intro pins s σ H xs us Q I r h
 obtain⟨a,vs,ps,rfl,hq,hp,hs,q⟩:=h
 obtain⟨u,rfl,rx⟩:=vals1 r
 cases rx
 have hh:=I.ok.hd hc
 have core:∀{its:List Value} {T:String} {itO:Obj} {St:Addr->Nat->Heap->Prop},Vals vs its->L2.ST.Src X.prog X.w s.heap a its T itO St->wpAny (model X.prog X.w) X.A (call (.type "set") [.ref a]) (EP X pins σ Q) X.xe s:=λ{its T itO St} rv src=>by
  refine L2.ST.nr src hh hu (pairs_at I rv hp hs) λh' tk F k=>?_
  obtain⟨qs,P1,P2,P3⟩:=F
  have hlen:its.length=vs.length:=rv.length.symm
  have back:∀qv:Addr×Pr,qv∈qs->∃b,b=qv.1/\dA X.K H b [.int qv.2.1,.int qv.2.2]:=λqv hqv=>by
   obtain⟨i,hi,e⟩:=IW.mp (JL (P2 qv hqv).1)
   have hi':i < vs.length:=by rw[<-hlen];exact hi
   obtain⟨u',eu,ru⟩:=rv.get (HU hi')
   rw[HU hi,e] at eu
   cases eu
   obtain⟨p,ep,b,eb,qb⟩:=Paired.getP hp (HU hi')
   rw[eb] at ru
   cases ru
   have pa:L2.ST.a8 X.prog X.w h' p qv.1:=by
    obtain⟨o,it,n,ho,r⟩:=pW I qb
    exact⟨o,it,n,k _ _ ho,r⟩
   have:p=qv.2:=L2.ST.a8.inj pa (P1.at' qv hqv).1
   subst this
   exact⟨_,rfl,qb⟩
  have hpv:∀{l:List (Addr×Pr)},(∀x,x∈l->x∈qs)->aE X.K H (vq l) (pq l):=λ{l}=>by
   induction l with
   |nil=>intro _;exact .nil
   |cons y l ih=>
    intro hl
    obtain⟨b,eb,qb⟩:=back y (hl y (Ig ..))
    subst eb
    exact .cons ⟨_,rfl,qb⟩ (ih λx hx=>hl x (Ie _ hx))
  have hmem:∀p,p∈pq qs↔p∈ps:=λp=>by
   have hpl:ps.length=its.length:=by rw[hlen];exact (Paired.length hp).symm
   constructor
   ·intro hx
    obtain⟨qv,hqv,rfl⟩:=Iz.mp hx
    exact JL (P2 qv hqv).2
   ·intro hx
    exact P3 p (by rw[<-hpl,JB (HX _)];exact hx)
  have hf:H s.heap.objs.size=none:=I.hok.fresh (HX _)
  obtain⟨o,ep,t,ho,r1⟩:=P1.ex
  have new:bw X.prog X.w (upd H s.heap.objs.size (wo X.prog X.w s.heap.objs.size qs)) h' s.heap.objs.size (wo X.prog X.w s.heap.objs.size qs):=
   ⟨⟨o,ep,t,ho,r1⟩,⟨o,ho⟩,λh1 h2 ⟨o1,ep1,t1,g1,g2⟩ kk=>⟨o1,ep1,t1,kk _ g1,g2⟩⟩
  exact⟨.ref _,_,I.laid (t':=tk) k (HX _) new,rfl,q _ qs hf (hpv λx hx=>hx) P1.nd hmem⟩
 rcases hq with hq |hq
 ·obtain⟨its,rv,pl,hz⟩:=I.list hq
  exact core rv (L2.ST.Src.list pl.isList)
 ·obtain⟨its,rv,pl,hz⟩:=I.tuple hq
  exact core rv (L2.ST.Src.tuple pl)
def rP (P:Program)(w:World)(K:Frag):List V->Hp->VK->Prop:=λxs H Q=>∃S qs,xs= [.ref S]/\H S=some (wo P w S qs)/\aE K H (vq qs) (pq qs)/\(∀p,p∈pq qs->Sm p)/\(pq qs).Nodup/\L2.ST.jQ qs.length/\
 ∀l ws rs,H l=none->aE K H ws rs->OM.rh rs->(∀p,p∈rs↔p∈pq qs)->Q (.ref l) (upd H l (.lst ws))
def pF (hc:X.calm=true):b9 X (.builtin "sorted") (rP X.prog X.w X.K):=by
 intro pins s σ H xs us Q I r h
 obtain⟨S,qs,rfl,hS,hp,hs,nd,hl,q⟩:=h
 obtain⟨u,rfl,rx⟩:=vals1 r
 cases rx
 have hh:=I.ok.hd hc
 obtain⟨⟨o,ep,t,ho,hex,hd,T,hled⟩,_,_⟩:Cf X.prog X.w S qs s.heap/\_:=I.hok S _ hS
 have T':L2.ST.Tab t ((qs.map λq=>(L2.ST.xJ X.prog X.w q.2,Value.ref q.1)).toArray.toList.map (·.1)):=by
  rw[JT,K7];exact T
 have htp:=L2.ST.n6 X.w S ep (qs.map λq=>(L2.ST.xJ X.prog X.w q.2,Value.ref q.1)).toArray
 have hmem:∀x,x∈(L2.ST.told X.w S ep (qs.map λq=>(L2.ST.xJ X.prog X.w q.2,Value.ref q.1)).toArray).toList->∃q,q∈qs/\x=(L2.ST.xJ X.prog X.w q.2,Value.ref q.1):=λx hx=>by
  have:=htp.mem_iff.mp hx
  simp only[JT] at this
  obtain⟨q,hq,e⟩:=Iz.mp this
  exact⟨q,hq,e.symm⟩
 obtain⟨q2,e2,p2⟩:∃q2:List (Addr×Pr),(L2.ST.told X.w S ep (qs.map λq=>(L2.ST.xJ X.prog X.w q.2,Value.ref q.1)).toArray).toList=q2.map (λq=>(L2.ST.xJ X.prog X.w q.2,Value.ref q.1))/\q2.Perm qs:=by
  have:=htp
  simp only[JT] at this
  exact nE this
 have hp2:aE X.K H (vq q2) (pq q2):=by
  have key:∀{l:List (Addr×Pr)},(∀x,x∈l->x∈qs)->aE X.K H (vq l) (pq l):=λ{l}=>by
   induction l with
   |nil=>intro _;exact .nil
   |cons y l ih=>
    intro hl
    obtain⟨i,hi,e⟩:=IW.mp (hl y (Ig ..))
    obtain⟨p,ep',a,ea,qa⟩:=Paired.getP (l:=vq qs) (m:=pq qs) (i:=i) (x:=.ref y.1) hp (by simp[hi,e])
    have:p=y.2:=by simp[hi,e] at ep';exact ep'.symm
    subst this
    exact .cons ⟨a,ea,qa⟩ (ih λx hx=>hl x (Ie _ hx))
  exact key λx hx=>p2.mem_iff.mp hx
 have hv2:Vals (vq q2) (q2.map λq=>Value.ref q.1):=by
  induction q2 with
  |nil=>exact .nil
  |cons y l ih=>exact .cons rfl (by
    clear ih e2 p2 hp2
    induction l with
    |nil=>exact .nil
    |cons z l ih2=>exact .cons rfl ih2)
 have hm2:∀p,p∈pq q2↔p∈pq qs:=λp=>(p2.map (·.2)).mem_iff
 have hpa:=pairs_at I hv2 hp2 λp hpp=>hs p ((hm2 p).mp hpp)
 have hl2:L2.ST.jQ q2.length:=by rw[p2.length_eq];exact hl
 have hl3:=hl2.1
 refine L2.ST.wg (v:=.ref S) hpa ((p2.map (·.2)).nodup_iff.mpr nd) (by simpa using hl2) (λQ' hQ'=>L2.ST.rj (by simpa using hh) ho hd hex.1 T' hled (by have:=hl.1;simp;omega) λh' tk vs ev k=>?_) λh1 h' tk D out qs' c k1 eD k2 ho' hpq hm hr hmem'=>?_
 ·rw[ev,e2]
  rw[K7]
  exact hQ' h' tk k
 ·exact t9 I hv2 hp2 (by simpa using hl3) (λl ws rs a1 a2 a3 a4=>q l ws rs a1 a2 a3 λp=>(a4 p).trans (hm2 p)) k1 eD k2 ho' hpq hm hr hmem'
end
def kX (cells:List (Str×Addr)):List (Str×NameKind)->List (Str×Addr)->List (Str×Addr)
 | [],cs=>cs
 | (n,k) :: r,cs=>kX cells r (if k == .free then (n,(cells.lookup n).getD 0) :: cs else cs)
def tY {scope:Scope}{env:Env}(h:∀y∈scope.names,y.2=.free->∃c,env.cells.lookup y.1=some c):closureFor scope env=pure (kX env.cells scope.names []):=by
 unfold closureFor
 have key:∀(l:List (Str×NameKind)) (cs:List (Str×Addr)),(∀y∈l,y.2=.free->∃c,env.cells.lookup y.1=some c)->
   (forIn l cs (λ(x:Str×NameKind) (r:List (Str×Addr))=>if (x.2 == NameKind.free)=true then (do let a <-cellOf env x.1;pure (ForInStep.yield ((x.1,a) :: r)):Sem _) else pure (ForInStep.yield r)):Sem (List (Str×Addr)))=pure (kX env.cells l cs):=by
  intro l
  induction l with
  |nil=>intro cs _;rfl
  |cons y l ih=>
   intro cs hy
   obtain⟨n,k⟩:=y
   rw[List.forIn_cons]
   unfold kX
   by_cases hk:(k == NameKind.free)=true
   ·have hk':k=.free:=by simpa using hk
    obtain⟨c,hc⟩:=hy (n,k) (Ig ..) hk'
    have hce:cellOf env n=pure c:=by unfold cellOf;rw[hc]
    simp only[hk,Js]
    have hc':env.cells.lookup n=some c:=hc
    rw[hce,hc']
    simp only[pure_bind,Option.getD_some]
    exact ih _ λz hz=>hy z (Ie _ hz)
   ·simp only[hk,IZ,Iw]
    simp only[pure_bind]
    exact ih _ λz hz=>hy z (Ie _ hz)
 have:=key scope.names [] h
 simp only[bind_pure_comp] at this ⊢
 first
  |exact this
  | (rw[this];rfl)
  | (simpa using this)
theorem oy {cells:List (Str×Addr)}{x:Str}:∀{l:List (Str×NameKind)} {cs:List (Str×Addr)},((x,NameKind.free)∈l\/cs.lookup x=some ((cells.lookup x).getD 0))->(kX cells l cs).lookup x=some ((cells.lookup x).getD 0)
 | [],cs,h=>by
  rcases h with h |h
  ·cases h
  ·exact h
 | (n,k) :: r,cs,h=>by
  unfold kX
  refine oy ?_
  by_cases hk:(k == NameKind.free)=true
  ·rw[HV hk]
   by_cases hx:x=n
   ·subst hx;right;simp
   ·rcases h with h |h
    ·rcases Ih.mp h with e |e
     ·injection e with e1 _;exact absurd e1 hx
     ·exact .inl e
    ·right
     rw[KW,show (x == n)=false by simpa using hx]
     exact h
  ·rw[HY hk]
   rcases h with h |h
   ·rcases Ih.mp h with e |e
    ·injection e with _ e2;exact absurd (by rw[<-e2];rfl) hk
    ·exact .inl e
   ·exact .inr h
theorem kH {cells:List (Str×Addr)}{x:Str}{c:Addr}:∀{l:List (Str×NameKind)} {cs:List (Str×Addr)},(kX cells l cs).lookup x=some c->((x,NameKind.free)∈l/\c=(cells.lookup x).getD 0)\/cs.lookup x=some c
 | [],cs,h=>.inr h
 | (n,k) :: r,cs,h=>by
  unfold kX at h
  rcases kH h with⟨a,b⟩ |a
  ·exact .inl ⟨Ie _ a,b⟩
  ·by_cases hk:(k == NameKind.free)=true
   ·rw[HV hk,KW] at a
    by_cases hx:x=n
    ·subst hx
     simp at a
     have:k=.free:=by simpa using hk
     subst this
     exact .inl ⟨Ig ..,a.symm⟩
    ·rw[show (x == n)=false by simpa using hx] at a
     exact .inr a
   ·rw[HY hk] at a
    exact .inr a
theorem lh {f:Str->NameKind->NameKind}{x:Str}:∀(l:List (Str×NameKind)),(l.map λy=>(y.1,f y.1 y.2)).lookup x=(l.lookup x).map (f x)
 | []=>rfl
 | (n,k) :: l=>by
  rw[Jp,KW,KW]
  by_cases hx:x=n
  ·subst hx;simp
  ·have hb:(x == n)=false:=by simpa using hx
   simp only[hb]
   exact lh l
def mD (scope:Scope)(env:Env)(x:Str):(relabel scope env).names.lookup x=(scope.names.lookup x).map λk=>if (k == .free && env.scope.kind == .function && env.kindOf x == some .cell) then .cell else k:=by
 have e:(relabel scope env).names=scope.names.map λy=>(y.1,if (y.2 == .free && env.scope.kind == .function && env.kindOf y.1 == some .cell) then .cell else y.2):=by
  unfold relabel
  dsimp only
  refine J5 λy _=>?_
  obtain⟨n,k⟩:=y
  dsimp only
  split <;> rfl
 rw[e]
 exact lh (f:=λn k=>if (k == .free && env.scope.kind == .function && env.kindOf n == some .cell) then .cell else k) scope.names
theorem ji:∀(l:List (Str×NameKind)) (n:Nat) (acc:List (Str×Addr)),cellsFrom n l acc=cellsFrom n l [] ++ acc
 | [],_,_=>rfl
 | (x,k) :: r,n,acc=>by
  unfold cellsFrom
  split
  ·rw[ji r (n + 1) ((x,n) :: acc),ji r (n + 1) [(x,n)],IK];rfl
  ·exact ji r n acc
theorem mY:∀{l:List (Str×NameKind)} {n:Nat} {x:Str} {c:Addr},(x,c)∈cellsFrom n l []->n<=c/\(x,NameKind.cell)∈l
 | [],_,_,_,h=>by cases h
 | (y,k) :: r,n,x,c,h=>by
  unfold cellsFrom at h
  split at h
  ·rename_i hk
   have hk:k=.cell:=by simpa using hk
   rw[ji] at h
   rcases Iu.mp h with h |h
   ·have:=mY h;exact⟨by omega,Ie _ this.2⟩
   ·rw[I0] at h;cases h;subst hk;exact⟨HX _,Ig ..⟩
  ·have:=mY h;exact⟨this.1,Ie _ this.2⟩
abbrev Bs (X:Cx)(scope:Scope)(C:Addr):List (Str×Addr):=cellsFrom (C + 1) scope.names (kX X.env.cells scope.names [])
def Ax {M:Model}{A:Around}{E:Value->Shared->Prop}{s:Shared}{scope:Scope}{g:Addr}{cl:List (Str×Addr)}{qual:Str}{env:Env}{Q:Env->Shared->Prop}
  (h:∀h',h'.Ns s.heap.objs.size (λ_=>none)->(∀b o,s.heap.get? b=some o->h'.get? b=some o)->CellsOk h' (s.heap.objs.size + 1) (cellsFrom (s.heap.objs.size + 1) scope.names [])->Q (newEnv scope s.heap.objs.size g (cellsFrom (s.heap.objs.size + 1) scope.names cl) qual none .none (some env) builtinsNs) {s with heap:=h'}) :
  wpAny M A (newFunctionEnv scope g cl [] qual none .none (some env)) Q E s:=by
 simp only[newFunctionEnv,Option.isSome_some,Js]
 refine HS (wpAny_alloc ?_)
 refine HS (wpAny_layCells _ (λname kind cells=>by cases hkc:kind == NameKind.cell <;> simp[hkc]) _ _ _ _ ?_)
 have ok:=cellsFrom_ok scope.names (s.heap.push {cls:=.type "dict",data:=.dict #[]}) (s.heap.objs.size + 1) [] ⟨λ_ _ hm=>(nomatch hm),List.Pairwise.nil⟩ (by rw[JM];exact HX _)
 rw[JM] at ok
 rw[show ({s with heap:=s.heap.push {cls:=.type "dict",data:=.dict #[]}}:Shared).heap.objs.size=s.heap.objs.size + 1 from JM ..]
 rw[List.forIn_nil]
 exact HS (HW (HW (h _ ((Heap.Ns.new s.heap (.type "dict")).keeps (pushCells_keeps _ _)) (λb o e=>pushCells_keeps _ _ b o (Ia _ e)) ok)))
def iL (X:Cx)(NB:List Str)(scope:Scope)(C:Addr)(ex:List Addr)(s3:Shared)(H3:Hp)(pn:List (Addr×Obj)):Cx:=
 {X with N:=NB,s₀:=s3,H₀:=H3,env:=compEnvC scope (Bs X scope C) C X.env,outer:=X.stack,ex:=ex,fn:=λx=>scope.names.lookup x == some .cell,pn:=pn,xe:=λ_ _=>False}
def pU (own:Nat)(ixs:List Nat)(σ:St):St:=List.replicate own none ++ ixs.map λi=>(σ[i]?).join
structure cV (X:Cx)(NB:List Str)(own:Nat)(ixs:List Nat)(scope:Scope):Prop where
 kind:scope.kind=.function
 names:∀y∈scope.names,scope.names.lookup y.1=some y.2
 frees:∀y∈scope.names,y.2=.free->X.env.kindOf y.1=some .cell\/X.env.kindOf y.1=some .free
 nd:NB.Nodup
 len:NB.length=own + ixs.length
 at':∀k,k < ixs.length->NB[own + k]? =X.N[ixs.getD k 0]?/\∀x,NB[own + k]? =some x->(x,NameKind.free)∈scope.names
section
variable {X:Cx}{NB:List Str}{own:Nat}{ixs:List Nat}{scope:Scope}{pins:List (Addr×Obj)}{σ:St}{H:Hp}{s:Shared}
def xj (S:cV X NB own ixs scope)(I:Inv X pins σ H s){fp:List Addr}(hfp:∀b∈fp,nS X pins H b)(hob:∀b∈fp,∃o,s.heap.get? b=some o){h1:Heap}{tk:Nat}
  (hn:h1.Ns s.heap.objs.size (λ_=>none)) (hk:∀b o,s.heap.get? b=some o->h1.get? b=some o) (hcl:CellsOk h1 (s.heap.objs.size + 1) (cellsFrom (s.heap.objs.size + 1) scope.names [])) :
  Inv (iL X NB scope s.heap.objs.size fp s H (X.pn ++ pins)) [] (pU own ixs σ) H {s with heap:=h1,toks:=tk}:=by
 have stk:=I.stack
 have frees:∀{x:Str},(x,NameKind.free)∈scope.names->∃c,X.env.cells.lookup x=some c:=λ{x} hx=>I.ok.has x (S.frees _ hx rfl)
 have clE:∀{x:Str} {c:Addr},(Bs X scope s.heap.objs.size).lookup x=some c->((x,c)∈cellsFrom (s.heap.objs.size + 1) scope.names []/\s.heap.objs.size < c)\/((x,NameKind.free)∈scope.names/\X.env.cells.lookup x=some c):=λ{x c} h=>by
  unfold Bs at h
  rw[ji,List.lookup_append] at h
  cases q:(cellsFrom (s.heap.objs.size + 1) scope.names []).lookup x with
  |some c'=>
   rw[q] at h
   cases h
   have hm:=JC q
   exact .inl ⟨hm,(mY hm).1⟩
  |none=>
   rw[q] at h
   have h:(kX X.env.cells scope.names []).lookup x=some c:=h
   rcases kH h with⟨a,b⟩ |a
   ·obtain⟨c',e⟩:=frees a
    rw[e] at b
    exact .inr ⟨a,by rw[e,b];rfl⟩
   ·simp at a
 have clF:∀{x:Str},(x,NameKind.free)∈scope.names->(Bs X scope s.heap.objs.size).lookup x=some ((X.env.cells.lookup x).getD 0):=λ{x} hm=>by
  unfold Bs
  rw[ji,List.lookup_append]
  cases q:(cellsFrom (s.heap.objs.size + 1) scope.names []).lookup x with
  |some c'=>
   have h1:=S.names _ (mY (JC q)).2
   have h2:=S.names _ hm
   dsimp only at h1 h2
   rw[h1] at h2
   cases h2
  |none=>exact oy (.inl hm)
 have kindB:∀x,(iL X NB scope s.heap.objs.size fp s H (X.pn ++ pins)).env.kindOf x=(scope.names.lookup x).map λk=>if (k == .free && X.env.scope.kind == .function && X.env.kindOf x == some .cell) then .cell else k:=λx=>mD scope X.env x
 have isFree:∀{x:Str},((iL X NB scope s.heap.objs.size fp s H (X.pn ++ pins)).env.kindOf x=some .cell\/(iL X NB scope s.heap.objs.size fp s H (X.pn ++ pins)).env.kindOf x=some .free)->(x,NameKind.free)∈scope.names\/scope.names.lookup x=some .cell:=λ{x} h=>by
  rw[kindB] at h
  cases e:scope.names.lookup x with
  |none=>rw[e] at h;simp at h
  |some k=>
   have hm:=JC e
   cases k with
   |free=>exact .inl hm
   |cell=>exact .inr rfl
   |_=>rw[e] at h;simp at h
 have neN:∀b o,s.heap.get? b=some o->b≠s.heap.objs.size:=λb o e=>Ja (Il e)
 have cellN:∀{x:Str} {c:Addr},X.env.cells.lookup x=some c->c < s.heap.objs.size:=λ{x c} e=>by
  obtain⟨v,o,ho,_⟩:=I.cell x c e
  exact Il ho
 have ok:(iL X NB scope s.heap.objs.size fp s H (X.pn ++ pins)).Ok:=by
  refine⟨I.ok.mod,S.kind,I.ok.glob,I.ok.blt,HX _,λx y c h1 h2=>?_,λx hx=>?_,λx c h hc=>?_,I.ok.hd,I.ok.frames,.inl rfl,λb hb=>?_,I.bs,Ji I.ok.bsz I.sz,λb o e hb=>?_,λb hb hs=>?_,stk,I.stkFree⟩
  ·rcases clE h1 with⟨a,l1⟩ | ⟨a,l1⟩
   ·rcases clE h2 with⟨b,l2⟩ | ⟨b,l2⟩
    ·exact name_of_addr hcl.apart a b
    ·exact absurd (Ko l1 (cellN l2)) (IL _)
   ·rcases clE h2 with⟨b,l2⟩ | ⟨b,l2⟩
    ·exact absurd (Ko l2 (cellN l1)) (IL _)
    ·exact I.ok.inj x y c l1 l2
  ·rcases isFree hx with hm |hm
   ·exact⟨_,clF hm⟩
   ·obtain⟨c,hc⟩:=Option.isSome_iff_exists.mp (PySem.W.cellsFrom_some scope.names (s.heap.objs.size + 1) (kX X.env.cells scope.names []) (.inl hm))
    exact⟨c,hc⟩
  ·rcases clE hc with⟨a,l1⟩ | ⟨a,l1⟩
   ·exact KN l1
   ·have h1:=S.names _ a
    dsimp only at h1
    have h:(scope.names.lookup x == some NameKind.cell)=true:=h
    rw[h1] at h
    cases h
  ·obtain⟨_,f1,f2,f3,f4,f5⟩:=hfp b hb
   obtain⟨o,ho⟩:=hob b hb
   refine⟨neN b o ho,λx c h z=>?_⟩
   rcases clE h with⟨a,l1⟩ | ⟨a,l1⟩
   ·rw[z] at l1
    exact IL _ (Ko l1 (Il ho))
   ·exact f4 x c l1 z
  ·obtain⟨_,f1,f2,f3,f4,f5⟩:=hfp b hb
   rcases f3 with f3 |f3
   ·exact I.ok.noex b o e f3
   ·exact absurd (IP (Il e) (Ji I.ok.bsz f3)) (IL _)
  ·obtain⟨_,f1,f2,f3,f4,f5⟩:=hfp b hb
   rcases Ih.mp (I.stkSub b hs) with z |z
   ·exact f1 z
   ·exact f2 z
 refine⟨ok,rfl,I.bare,Un.kept hk,⟨_,hn,λi x v h1' h2' h3'=>?_⟩,λx c h=>?_,I.hok.fresh (HX _),λx c h=>?_,λp hp=>?_,I.hok.kept hk,?_⟩
 ·
  have h1':NB[i]? =some x:=h1'
  have hown:own<=i:=by
   refine Classical.byContradiction λhc=>?_
   have hlt:i < own:=Nat.lt_of_not_le hc
   unfold pU at h2'
   rw[Jd (by simpa using hlt),JO,HV hlt] at h2'
   cases h2'
  obtain⟨k,rfl⟩:∃k,i=own + k:=⟨i - own,by omega⟩
  have hk':k < ixs.length:=by
   have:=(Im.mp h1').1
   rw[S.len] at this;omega
  obtain⟨e1,e2⟩:=S.at' k hk'
  have hm:=e2 x h1'
  unfold pU at h2'
  rw[Jb (by simp),Kb,Nat.add_sub_cancel_left,Ip,HU hk'] at h2'
  simp only[Option.map_some,Option.some.injEq] at h2'
  have hix:ixs.getD k 0=ixs[k]:=by simp[hk']
  have hσ:σ[ixs[k]]? =some (some v):=by
   cases e:σ[ixs[k]]? with
   |none=>rw[e] at h2';cases h2'
   |some o=>rw[e] at h2';simp at h2';rw[h2']
  rw[e1,hix] at h1'
  have hkind:=S.frees _ hm rfl
  have hvis:vX X.env.scope x:=hkind.elim (λz=>.inr (.inl z)) (λz=>.inr (.inr z))
  obtain⟨m,hm',hl⟩:=I.loc
  obtain⟨u,r,look⟩:=hl _ x v h1' hσ hvis
  refine⟨u,r,.inr ⟨?_,?_⟩⟩
  ·rw[kindB]
   have hfr:scope.names.lookup x=some .free:=S.names _ hm
   rw[hfr]
   simp only[Option.map_some]
   split
   ·exact .inl rfl
   ·exact .inr rfl
  ·rcases look with⟨z,_⟩ | ⟨_,c,hc,hcell⟩
   ·rcases hkind with q |q
    ·rw[q] at z;cases z
    ·rw[q] at z;cases z
   ·refine⟨c,?_,?_⟩
    ·have:=clF hm
     rw[hc] at this
     exact this
    ·obtain⟨o,ho,hd⟩:=hcell
     exact⟨o,hk _ _ ho,hd⟩
 ·rcases clE h with⟨a,_⟩ | ⟨_,l1⟩
  ·exact⟨_,(hcl.empty _ _ a).1⟩
  ·obtain⟨v,o,ho,hd⟩:=I.cell x c l1
   exact⟨v,o,hk _ _ ho,hd⟩
 ·rcases clE h with⟨_,l1⟩ | ⟨_,l1⟩
  ·exact I.hok.fresh (KN l1)
  ·exact I.freeC x c l1
 ·have hp':p∈X.pn ++ pins:=by
   rcases Iu.mp hp with z |z
   ·exact z
   ·cases z
  obtain⟨e,n,ne,nf,d⟩:=I.pin p hp'
  refine⟨hk _ _ e,n,neN _ _ e,λz=>?_,d⟩
  rcases Ih.mp (I.stkSub _ z) with q |q
  ·exact ne q
  ·exact nf q
 ·show (pU own ixs σ).length=NB.length
  unfold pU
  rw[S.len];simp
end
abbrev vU (ifs:List Expr)(env:Env):Sem Bool:=forIn ifs true λc r=>if r=true then do let ok <-isTrue c env (eval c env);pure (ForInStep.yield ok) else pure (ForInStep.yield r)
theorem v5 {prog:Program}{w:World}{A:Around}{R:Result->Shared->Prop}{s:Shared}{elt target iter:Expr}{ifs:List Expr}{scope:Scope}{pos:Pos}{it acc:Value}{env:Env}(I:Nat->Shared->Prop)
  (turn:∀n s,I n s->wpAny (model prog w) A (pyNext it) (λr s1=>match r with
   |none=>R (.ok .next) s1
   |some v=>wpAny (model prog w) A (letOwnedTupleGo target it v) (λ_ s1'=>wpAny (model prog w) A (assign target env v) (λ_ s2=>
     wpAny (model prog w) A (vU ifs env) (λok s3=>
      if ok=true then wpAny (model prog w) A (eval elt env) (λx s4=>wpAny (model prog w) A (call (.builtin "list.append") [acc,x]) (λ_ s5=>∃m,m < n/\I m s5) (λ_ _=>False) s4) (λ_ _=>False) s3
      else ∃m,m < n/\I m s3) (λ_ _=>False) s2) (λ_ _=>False) s1') (λ_ _=>False) s1) (λ_ _=>False) s)
  (n:Nat) (h:I n s):codeAny (model prog w) A (.compLoop (.ListComp elt [⟨target,iter,ifs,0⟩] scope pos) 0 it acc env) R s:=by
 refine codeAny_loop rfl I (λn s hI=>?_) n h
 (show wpAny _ A ((compTurn (.ListComp elt [⟨target,iter,ifs,0⟩] scope pos) 0 it acc env).onRaise (λx=>do (noteFrame x env);theTreesLotGoes x)) _ _ s)
 refine wpAny_noted ?_
 rw[compTurn_list]
 refine HS (wpAny_standAt (HS (JK (turn n s hI) (λr s1 h1=>?_) λ_ _ z=>z.elim)))
 cases r with
 |none=>exact HW h1
 |some v=>
  refine HS (JK h1 (λ_ s1' h1'=>?_) λ_ _ z=>z.elim)
  refine HS (JK h1' (λ_ s2 h2=>HS (JK h2 (λok s3 h3=>?_) λ_ _ z=>z.elim)) λ_ _ z=>z.elim)
  cases ok with
  |false=>exact HW ⟨rfl,h3⟩
  |true=>exact HS (HS (JK h3 (λx s4 h4=>HS (JK h4 (λ_ s5 h5=>HW (HW ⟨rfl,h5⟩)) λ_ _ z=>z.elim)) λ_ _ z=>z.elim))
def Au (X:Cx)(ifs:List Expr)(t:TT):Prop:=
 ∀(pins:List (Addr×Obj)) (s:Shared) (σ:St) (H:Hp) (Q:Bool->Hp->Prop),Inv X pins σ H s->t σ H Q->wpAny (model X.prog X.w) X.A (vU ifs X.env) (TP X pins σ Q) X.xe s
def Cw:TT:=λ_ H Q=>Q true H
def oR {X:Cx}:Au X [] Cw:=λpins s σ H Q I h=>HW ⟨H,I,h⟩
def u7 {X:Cx}{c:Expr}{t:TT}(h:PT X c t):Au X [c] t:=λpins s σ H Q I q=>wpAny_tests_one (h pins s σ H Q I q)
def zA (own:Nat)(ixs:List Nat)(wi:TI)(g:TG)(tt:TT)(te:TE)(σ:St)(H:Hp)(Q:VK):Prop:=wi σ H λJ H1=>∀D,H1 D=none->∃W:Nat->Nat->St->Hp->Prop,(∃m,W 0 m (pU own ixs σ) (upd H1 D (.lst [])))/\∀i m σ' H',W i m σ' H'->
 (J.stop i H'/\(∃acc,H' D=some (.lst acc))/\Q (.ref D) H')\/
 (J.go i H'/\∃N:St->Hp->Prop,(∀σ2 H2,N σ2 H2->∃m',m' < m/\W (i + 1) m' σ2 H2)/\∀x H2,J.yld i H' x H2->g x σ' H2 λσ3 H3=>tt σ3 H3 λb H4=>
  if b=true then te σ3 H4 λv H5=>∃acc,H5 D=some (.lst acc)/\acc.length < sizeLine/\N σ3 (upd H5 D (.lst (acc ++ [v]))) else N σ3 H4)
section
variable {X:Cx}{NB:List Str}{own:Nat}{ixs:List Nat}{scope:Scope}{elt tg iter:Expr}{ifs:List Expr}{pos:Pos}{wi:TI}{g:TG}{tt:TT}{te:TE}
def xq (hc:X.calm=true)(S:cV X NB own ixs scope)
  (hg:∀C ex s3 H3 pn,PG (iL X NB scope C ex s3 H3 pn) tg g) (ht:∀C ex s3 H3 pn,Au (iL X NB scope C ex s3 H3 pn) ifs tt) (he:∀C ex s3 H3 pn,PE (iL X NB scope C ex s3 H3 pn) elt te)
  {pins:List (Addr×Obj)} {σ:St} {H1:Hp} {s2:Shared} {it:Addr} {fp:List Addr} {tn:Nat->Heap->Prop} {J:It} {Q:VK} (I2:Inv X pins σ H1 s2) (T:Turn X.prog X.w X.K tg J fp it tn) (st2:tn 0 s2.heap) (f2:∀b∈fp,nS X pins H1 b)
  (hQ:∀D,H1 D=none->∃W:Nat->Nat->St->Hp->Prop,(∃m,W 0 m (pU own ixs σ) (upd H1 D (.lst [])))/\∀i m σ' H',W i m σ' H'->
   (J.stop i H'/\(∃acc,H' D=some (.lst acc))/\Q (.ref D) H')\/
   (J.go i H'/\∃N:St->Hp->Prop,(∀σ2 H2,N σ2 H2->∃m',m' < m/\W (i + 1) m' σ2 H2)/\∀x H2,J.yld i H' x H2->g x σ' H2 λσ3 H3=>tt σ3 H3 λb H4=>
    if b=true then te σ3 H4 λv H5=>∃acc,H5 D=some (.lst acc)/\acc.length < sizeLine/\N σ3 (upd H5 D (.lst (acc ++ [v]))) else N σ3 H4))
  {E:Value->Shared->Prop} {RR:Value->Addr->Result->Shared->Prop}
  (fin:∀D C H' s' m,Inv X pins σ H' s'->Q (.ref D) H'->s'.heap.Ns C m->H' C=none->C≠X.env.locals->(∀x c,X.env.cells.lookup x=some c->c≠C)->X.s₀.heap.objs.size<=C->(∀p∈X.pn ++ pins,p.1≠C)->RR (.ref D) C (.ok .next) s') :
  wpAny (model X.prog X.w) X.A (newList []) (λacc s3=>wpAny (model X.prog X.w) X.A (newFunctionEnv scope X.env.globals (kX X.env.cells scope.names []) [] X.env.qual none .none (some X.env)) (λcenv s4=>
   codeAny (model X.prog X.w) X.A (.compStart (.ListComp elt [⟨tg,iter,ifs,0⟩] scope pos) 0 (.ref it) acc {cenv with scope:=relabel scope X.env}) (RR acc cenv.locals) s4) E s3) E s2:=by
 refine wpAny_newList ?_ (IU _)
 have hD:H1 s2.heap.objs.size=none:=I2.hok.fresh (HX _)
 obtain⟨W,⟨m0,w0⟩,turn⟩:=hQ s2.heap.objs.size hD
 generalize hs3:({s2 with heap:=s2.heap.push (seqObj "list" ([]:List Value).toArray 0)}:Shared)=s3
 have I3:Inv X pins σ (upd H1 s2.heap.objs.size (.lst [])) s3:=by
  rw[<-hs3]
  exact I2.lnew (ys:=[]) (its:=[]) (t':=s2.toks) .nil (IU _)
 have k3:∀b o,s2.heap.get? b=some o->s3.heap.get? b=some o:=λb o e=>by rw[<-hs3];exact Ia _ e
 have sz3:s3.heap.objs.size=s2.heap.objs.size + 1:=by rw[<-hs3];exact JM ..
 have ob2:∀b∈fp,∃o,s2.heap.get? b=some o:=λb hb=>let ⟨o,e,_⟩:=T.obj 0 _ st2 b hb;⟨o,e⟩
 have neD:∀b∈fp,b≠s2.heap.objs.size:=λb hb=>let ⟨o,e⟩:=ob2 b hb;Ja (Il e)
 have f3:∀b∈fp,nS X pins (upd H1 s2.heap.objs.size (.lst [])) b:=λb hb=>by
  obtain⟨a1,a2⟩:=f2 b hb
  exact⟨by rw[ao (neD b hb)];exact a1,a2⟩
 have st3:tn 0 s3.heap:=T.keep _ _ _ st2 λb _ o e=>k3 b o e
 refine Ax λh4 hn4 k4 ok4=>?_
 have I4:Inv (iL X NB scope s3.heap.objs.size fp s3 (upd H1 s2.heap.objs.size (.lst [])) (X.pn ++ pins)) [] (pU own ixs σ) (upd H1 s2.heap.objs.size (.lst [])) {s3 with heap:=h4}:=
  xj S I3 f3 (λb hb=>let ⟨o,e⟩:=ob2 b hb;⟨o,k3 _ _ e⟩) hn4 k4 ok4
 have st4:tn 0 h4:=T.keep _ _ _ st3 λb _ o e=>k4 b o e
 generalize hB:iL X NB scope s3.heap.objs.size fp s3 (upd H1 s2.heap.objs.size (.lst [])) (X.pn ++ pins)=B at I4
 have hgB:PG B tg g:=by rw[<-hB];exact hg _ _ _ _ _
 have htB:Au B ifs tt:=by rw[<-hB];exact ht _ _ _ _ _
 have heB:PE B elt te:=by rw[<-hB];exact he _ _ _ _ _
 have eP:B.prog=X.prog:=by rw[<-hB];rfl
 have eW:B.w=X.w:=by rw[<-hB];rfl
 have eK:B.K=X.K:=by rw[<-hB];rfl
 have eA:B.A=X.A:=by rw[<-hB];rfl
 have eC:B.calm=true:=by rw[<-hB];exact hc
 have eX:B.xe=λ_ _=>False:=by rw[<-hB];rfl
 have eE:B.env=compEnvC scope (Bs X scope s3.heap.objs.size) s3.heap.objs.size X.env:=by rw[<-hB];rfl
 have ex:B.ex=fp:=by rw[<-hB];rfl
 have eL:B.env.locals=s3.heap.objs.size:=by rw[eE];rfl
 have stat:∀{H':Hp},(∀b∈fp,H' b=none)->∀b∈fp,nS B [] H' b:=λ{H'} hn b hb=>by
  obtain⟨a1,a2,a3,a4,a5,a6⟩:=f3 b hb
  obtain⟨o,eo⟩:=ob2 b hb
  refine⟨hn b hb,?_,λz=>?_,.inl (by rw[ex];exact hb),λx c e z=>?_,λp hp z=>?_⟩
  ·rw[eL];exact Ja (Il (k3 _ _ eo))
  ·have hz:b∈jC X.stack:=by rw[<-hB] at z;exact z
   rcases Ih.mp (I3.stkSub b hz) with q |q
   ·exact a2 q
   ·exact a3 q
  ·rw[eE] at e
   have e:(Bs X scope s3.heap.objs.size).lookup x=some c:=e
   unfold Bs at e
   rw[ji,List.lookup_append] at e
   cases q:(cellsFrom (s3.heap.objs.size + 1) scope.names []).lookup x with
   |some c'=>
    rw[q] at e
    cases e
    have l1:=(mY (JC q)).1
    rw[z] at l1
    exact IL _ (Ko l1 (Il (k3 _ _ eo)))
   |none=>
    rw[q] at e
    have e:(kX X.env.cells scope.names []).lookup x=some c:=e
    rcases kH e with⟨m1,m2⟩ |m1
    ·obtain⟨c',e'⟩:=I3.ok.has x (S.frees _ m1 rfl)
     rw[e'] at m2
     exact a5 x c' e' (by rw[<-z,m2];rfl)
    ·simp at m1
  ·have hp':p∈X.pn ++ pins:=by
    rw[<-hB] at hp
    rcases Iu.mp hp with q |q
    ·exact q
    ·cases q
   exact a6 p hp' z
 have back:∀{σ':St} {H':Hp} {s':Shared},Inv B [] σ' H' s'->Inv X pins σ H' s':=λ{σ' H' s'} J'=>by
  have u:=J'.base
  have os:=J'.os
  have bare:=J'.bare
  have hok:=J'.hok
  subst hB
  exact I3.call' (ch:=fp) os u hok bare λb hb=>by
   obtain⟨a1,a2,a3,a4,a5,a6⟩:=f3 b hb
   exact⟨a4,a2,a5,a6⟩
 have loop:∀s5:Shared,s5={s3 with heap:=h4}->
   codeAny (model X.prog X.w) X.A (.compLoop (.ListComp elt [⟨tg,iter,ifs,0⟩] scope pos) 0 (.ref it) (.ref s2.heap.objs.size) (compEnvC scope (Bs X scope s3.heap.objs.size) s3.heap.objs.size X.env)) (RR (.ref s2.heap.objs.size) s3.heap.objs.size) s5:=by
  rintro s5 rfl
  refine v5 (λn s'=>∃i σ' H',Inv B [] σ' H' s'/\tn i s'.heap/\(∀b∈fp,H' b=none)/\W i n σ' H') ?_ m0 ⟨0,_,_,I4,st4,λb hb=>(f3 b hb).1,w0⟩
  rintro n s6 ⟨i,σ6,H6,I6,st6,fr6,w6⟩
  rcases turn i n σ6 H6 w6 with⟨stop,⟨acc,hacc⟩,qn⟩ | ⟨go,N,hN,step⟩
  ·have:=T.done B eP eW eK eC i [] s6 σ6 H6 (λ_ _=>False) I6 (stat fr6) st6 stop
   rw[eA] at this
   refine bP this λr s7 ⟨hr,I7⟩=>?_
   subst hr
   obtain⟨m7,hn7,_⟩:=I7.loc
   rw[eL] at hn7
   have J7:=back I7
   refine fin _ _ H6 s7 m7 J7 qn hn7 (by rw[<-eL];exact I7.free) (λz=>?_) (λx c e z=>?_) ?_ λp hp z=>?_
   ·have:=I3.lt
    rw[<-z] at this
    exact IL _ this
   ·obtain⟨v,o,ho,_⟩:=I3.cell x c e
    exact absurd (Il ho) (by rw[z];exact IL _)
   ·exact I3.sz
   ·have:=Il (I3.pin p hp).1
    rw[z] at this
    exact IL _ this
  ·have hitem:=T.item B eP eW eK eC i [] s6 σ6 H6 (λ_ _=>False) I6 (stat fr6) st6 go
   rw[eA] at hitem
   refine bP hitem λr s7 ⟨u,hr,h7⟩=>?_
   subst hr
   refine bP h7 λ_ s8 ⟨x,H8,I8,r8,y8,st8,fr8⟩=>?_
   have I8':=I8.pinned (stat fr8) (T.obj _ _ st8)
   have ha:=hgB _ s8 σ6 H8 x u _ I8' r8 (step x H8 y8)
   rw[eP,eW,eA,eE,eX] at ha
   refine bP ha λ_ s9 ⟨σ9,H9,I9,q9⟩=>?_
   have hb:=htB _ s9 σ9 H9 _ I9 q9
   rw[eP,eW,eA,eE,eX] at hb
   refine bP hb λok s10 ⟨H10,I10,q10⟩=>?_
   have again:∀{σ7:St} {H7:Hp} {s7:Shared},Inv B ([] ++ l0 fp s8.heap) σ7 H7 s7->N σ7 H7->∃m,m < n/\∃i σ' H',Inv B [] σ' H' s7/\tn i s7.heap/\(∀b∈fp,H' b=none)/\W i m σ' H':=λ{σ7 H7 s7} I7 n7=>by
    obtain⟨m',hm,w7⟩:=hN σ7 H7 n7
    refine⟨m',hm,i + 1,σ7,H7,I7.unpinned,T.keep _ _ _ st8 λb hb o e=>(I7.pin (b,o) (IY _ (IY _ (gB hb e)))).1,λb hb=>?_,w7⟩
    obtain⟨o,e,d⟩:=T.obj _ _ st8 b hb
    exact (I7.pin (b,o) (IY _ (IY _ (gB hb e)))).2.1
   cases ok with
   |false=>
    simp only[Iw,IZ] at q10 ⊢
    exact again I10 q10
   |true=>
    simp only[Js] at q10 ⊢
    have hv:=heB _ s10 σ9 H10 _ I10 q10
    rw[eP,eW,eA,eE,eX] at hv
    refine bP hv λy s11 ⟨v,H11,I11,r11,acc,hacc,hz,q11⟩=>?_
    have hap:=ko (X:=B) _ s11 σ9 H11 (.ref s2.heap.objs.size) [v] (.ref s2.heap.objs.size) [y] (λz H'=>z=.non/\N σ9 H') I11 rfl (.cons r11 .nil) ⟨_,acc,v,rfl,rfl,hacc,hz,rfl,q11⟩
    rw[eP,eW,eA,eX] at hap
    exact bP hap λ_ s12 ⟨_,H12,I12,_,_,q12⟩=>again I12 q12
 exact codeAny_compStart_list (loop _ rfl) (T.self X.A 0 _ _ _ st4 (loop _ rfl))
def qw (hc:X.calm=true)(S:cV X NB own ixs scope)(hi:PI X tg iter wi)
  (hg:∀C ex s3 H3 pn,PG (iL X NB scope C ex s3 H3 pn) tg g) (ht:∀C ex s3 H3 pn,Au (iL X NB scope C ex s3 H3 pn) ifs tt) (he:∀C ex s3 H3 pn,PE (iL X NB scope C ex s3 H3 pn) elt te)
  (hs:∀x,foldedSetIterable iter X.env x=pure x:=by intro _;rfl) :
  PE X (.ListComp elt [⟨tg,iter,ifs,0⟩] scope pos) (zA own ixs wi g tt te):=by
 intro pins s σ H Q I h
 rw[eval_ListComp]
 refine wpAny_comprehension_free (use:=none) rfl hs (tY λy hy e=>I.ok.has _ (S.frees y hy e)) S.kind (λy hy e=>by rw[S.names y hy,e]) ?_
 refine bP (hi pins s σ H _ I h) λv s1 h1=>bP h1 λitv s2 h2=>?_
 obtain⟨it,fp,tn,J,H2,e,I2,T,st2,f2,q2⟩:=h2
 subst e
 refine xq hc S hg ht he I2 T st2 f2 q2 (RR:=λacc C=>compPost (model X.prog X.w) X.A X.xe none (EP X pins σ Q) acc C) λD C H' s' m J' q hn hC n1 n2 n3 n4=>?_
 refine⟨m,hn,λh'' sb=>⟨.ref D,H',?_,rfl,q⟩⟩
 exact J'.turned (t':=s'.toks) (it:=C) (λb o hb e=>sb.extBut b o hb e) hC n1 (.inr n3) n2 n4
end
section
variable {own:Nat}{ixs:List Nat}{g:TG}{tt:TT}{te:TE}{σ:St}{H:Hp}{Q:VK}{K:Frag}{D a:Addr}{xs:List V}
abbrev cR (g:TG)(tt:TT)(te:TE)(D:Addr)(x:V)(σ:St)(H:Hp)(N:St->Hp->Prop):Prop:=g x σ H λσ3 H3=>tt σ3 H3 λb H4=>
  if b=true then te σ3 H4 λv H5=>∃acc,H5 D=some (.lst acc)/\acc.length < sizeLine/\N σ3 (upd H5 D (.lst (acc ++ [v]))) else N σ3 H4
def wZ (Pv:Nat->St->Hp->Prop)(h0:Pv 0 (pU own ixs σ) (upd H D (.lst [])))(hl:∀i σ H,i<=xs.length->Pv i σ H->fC K H a xs)
  (hs:∀i x σ H,xs[i]? =some x->Pv i σ H->cR g tt te D x σ H (Pv (i + 1))) (hd:∀σ H,Pv xs.length σ H->(∃acc,H D=some (.lst acc))/\Q (.ref D) H) :
  ∃W:Nat->Nat->St->Hp->Prop,(∃m,W 0 m (pU own ixs σ) (upd H D (.lst [])))/\∀i m σ' H',W i m σ' H'->
   ((wd K a).stop i H'/\(∃acc,H' D=some (.lst acc))/\Q (.ref D) H')\/
   ((wd K a).go i H'/\∃N:St->Hp->Prop,(∀σ2 H2,N σ2 H2->∃m',m' < m/\W (i + 1) m' σ2 H2)/\∀x H2,(wd K a).yld i H' x H2->cR g tt te D x σ' H2 N):=by
 refine⟨λi m σ H=>m=xs.length - i/\i<=xs.length/\Pv i σ H,⟨xs.length,by simp,IU _,h0⟩,?_⟩
 rintro i m σ H ⟨rfl,hi,p⟩
 have q:=hl i σ H hi p
 by_cases hlt:i < xs.length
 ·refine .inr ⟨⟨xs,xs[i],q,by simp[hlt]⟩,Pv (i + 1),λσ' H' p'=>⟨xs.length - (i + 1),by omega,rfl,hlt,p'⟩,λx H' y=>?_⟩
  obtain⟨e,y⟩:=y
  subst e
  exact hs i x σ _ (y xs q) p
 ·have e:i=xs.length:=by omega
  subst e
  exact .inl ⟨⟨xs,q,HX _⟩,hd σ H p⟩
def sQ {lo:Int}{n:Nat}(Pv:Nat->St->Hp->Prop)(h0:Pv 0 (pU own ixs σ) (upd H D (.lst [])))
  (hs:∀i σ H,i < n->Pv i σ H->cR g tt te D (.int (lo + i)) σ H (Pv (i + 1))) (hd:∀σ H,Pv n σ H->(∃acc,H D=some (.lst acc))/\Q (.ref D) H) :
  ∃W:Nat->Nat->St->Hp->Prop,(∃m,W 0 m (pU own ixs σ) (upd H D (.lst [])))/\∀i m σ' H',W i m σ' H'->
   ((xr lo n).stop i H'/\(∃acc,H' D=some (.lst acc))/\Q (.ref D) H')\/
   ((xr lo n).go i H'/\∃N:St->Hp->Prop,(∀σ2 H2,N σ2 H2->∃m',m' < m/\W (i + 1) m' σ2 H2)/\∀x H2,(xr lo n).yld i H' x H2->cR g tt te D x σ' H2 N):=by
 refine⟨λi m σ H=>m=n - i/\i<=n/\Pv i σ H,⟨n,by simp,IU _,h0⟩,?_⟩
 rintro i m σ H ⟨rfl,hi,p⟩
 by_cases hlt:i < n
 ·refine .inr ⟨hlt,Pv (i + 1),λσ' H' p'=>⟨n - (i + 1),by omega,rfl,hlt,p'⟩,λx H' y=>?_⟩
  obtain⟨e,y⟩:=y
  subst e y
  exact hs i σ _ hlt p
 ·have e:i=n:=by omega
  subst e
  exact .inl ⟨HX _,hd σ H p⟩
end
mutual
inductive Rep (K:Frag)(H:Hp):V->PyData->Prop
 |non:Rep K H .non .none
 |bl (b:Bool):Rep K H (.bl b) (.bool b)
 |int (i:Int):Rep K H (.int i) (.int i)
 |str (x:Str):Rep K H (.str x) (.str x)
 |tup {a:Addr} {xs:List V} {ds:List PyData}:dA K H a xs->nk K H xs ds->Rep K H (.ref a) (.tuple ds)
 |lst {a:Addr} {xs:List V} {ds:List PyData}:fC K H a xs->nk K H xs ds->Rep K H (.ref a) (.list ds)
inductive nk (K:Frag)(H:Hp):List V->List PyData->Prop
 |nil:nk K H [] []
 |cons {x:V} {xs:List V} {d:PyData} {ds:List PyData}:Rep K H x d->nk K H xs ds->nk K H (x :: xs) (d :: ds)
end
section
variable {X:Cx}{pins:List (Addr×Obj)}{σ:St}{H H':Hp}{s:Shared}
mutual
theorem Rep.reads (I:Inv X pins σ H s):∀{x:V} {d:PyData} {u:Value},Rep X.K H x d->RelV x u->∃as,Reads s.heap u d as
 |_,_,_,.non,r=>by cases r;exact⟨_,.none⟩
 |_,_,_,.bl b,r=>by cases r;exact⟨_,.bool b⟩
 |_,_,_,.int i,r=>by obtain⟨t,rfl⟩:=r;exact⟨_,.int i t⟩
 |_,_,_,.str x,r=>by obtain⟨t,rfl⟩:=r;exact⟨_,.str x t⟩
 |_,_,_,.tup h hs,r=>by
  cases r
  obtain⟨its,rv,⟨o,ho,hc,n,hd⟩,_⟩:=I.tuple h
  obtain⟨as,q⟩:=nk.reads I hs rv
  exact⟨_,.tuple ho hc hd (by simpa using q)⟩
 |_,_,_,.lst h hs,r=>by
  cases r
  obtain⟨its,rv,pl,_⟩:=I.list h
  obtain⟨o,ho,hc,n,hd⟩:=pl.isList
  obtain⟨as,q⟩:=nk.reads I hs rv
  exact⟨_,.list ho hc hd (by simpa using q)⟩
theorem nk.reads (I:Inv X pins σ H s):∀{xs:List V} {ds:List PyData} {us:List Value},nk X.K H xs ds->Vals xs us->∃as,ReadsAll s.heap us ds as
 |_,_,_,.nil,r=>by cases r;exact⟨_,.nil⟩
 |_,_,_,.cons h hs,r=>by
  cases r with
  |cons r1 r2=>
   obtain⟨as,q⟩:=Rep.reads I h r1
   obtain⟨bs,q'⟩:=nk.reads I hs r2
   exact⟨_,.cons q q'⟩
end
def Dc (K:Frag)(neg:Bool):R2:=λx y H Q=>∃d e,Rep K H x d/\Rep K H y e/\SeqAt.shaped d=true/\SeqAt.shaped e=true/\Q (.bl (if neg then !PyData.eqv d e else PyData.eqv d e)) H
def gq (hu:X.A.units + 64 < cLine):iZ X (compareOp .Eq) (Dc X.K false):=by
 intro pins s σ H x y v u Q I rx ry h
 obtain⟨d,e,h1,h2,s1,s2,q⟩:=h
 obtain⟨as,r1⟩:=h1.reads I rx
 obtain⟨bs,r2⟩:=h2.reads I ry
 exact SeqAt.compareEq_shaped r1 r2 s1 s2 hu ⟨.bl _,H,I,rfl,q⟩
def kW (hu:X.A.units + 64 < cLine):iZ X (compareOp .NotEq) (Dc X.K true):=by
 intro pins s σ H x y v u Q I rx ry h
 obtain⟨d,e,h1,h2,s1,s2,q⟩:=h
 obtain⟨as,r1⟩:=h1.reads I rx
 obtain⟨bs,r2⟩:=h2.reads I ry
 exact SeqAt.compareNe_shaped r1 r2 s1 s2 hu ⟨.bl _,H,I,rfl,q⟩
inductive AO (K:Frag)(H:Hp):V->String->Prop
 |non:AO K H .non "NoneType"
 |bl (b:Bool):AO K H (.bl b) "bool"
 |int (i:Int):AO K H (.int i) "int"
 |str (x:Str):AO K H (.str x) "str"
 |tup {a:Addr} {xs:List V}:dA K H a xs->AO K H (.ref a) "tuple"
 |lst {a:Addr} {xs:List V}:fC K H a xs->AO K H (.ref a) "list"
 |dic {a:Addr} {kvs:List (Key×V)}:H a=some (.dK kvs)->AO K H (.ref a) "dict"
def Ha (K:Frag):List V->Hp->VK->Prop:=λxs H Q=>∃x T t b,xs= [x,.ty T]/\AO K H x t/\PySem.W.kitOne K (.type t) (.type T)=some b/\Q (.bl b) H
theorem zD:b9 X (.builtin "isinstance") (Ha X.K):=by
 intro pins s σ H xs us Q I r h
 obtain⟨x,T,t,b,rfl,ty,e,q⟩:=h
 obtain⟨u,c,rfl,rx,rc⟩:=vals2 r
 cases rc
 have fin:∀tk,EP X pins σ Q (.bool b) {s with toks:=tk}:=λtk=>⟨.bl b,H,I.tok tk,rfl,q⟩
 cases ty with
 |non=>exact fV I rx .non e fin
 |bl b=>exact fV I rx (.bl b) e fin
 |int i=>exact fV I rx (.int i) e fin
 |str z=>exact fV I rx (.str z) e fin
 |dic hk=>exact fV I rx (.dK hk) e fin
 |tup hq=>
  cases rx
  obtain⟨its,rv,⟨o,h1,h2,_⟩,_⟩:=I.tuple hq
  exact Jj PySem.W.kitx_tuple I.kIn ⟨o,h1,h2⟩ e (λz=>nomatch z) fin
 |lst hq=>
  cases rx
  obtain⟨its,rv,pl,_⟩:=I.list hq
  obtain⟨o,h1,h2,_⟩:=pl.isList
  exact Jj PySem.W.kitx_list I.kIn ⟨o,h1,h2⟩ e (λz=>nomatch z) fin
def qS {A:Around}{its:List Value}{bs:List Bool}(hv:Vals (bs.map V.bl) its):TruthOf X.prog X.w A (λi v=>its[i]? =some v) (λi=>bs.getD i false):=λi v s Q E hi hq=>by
 have hl:=hv.length
 have hi2:i < bs.length:=by
  have:=(Im.mp hi).1
  rw[<-hl] at this;simpa using this
 obtain⟨u,eu,ru⟩:=hv.get (i:=i) (x:=.bl bs[i]) (by simp[hi2])
 rw[hi] at eu;cases eu
 cases ru
 refine JD ?_
 have:bs.getD i false=bs[i]:=by simp[hi2]
 rw[<-this];exact hq
theorem range_all (bs:List Bool):(List.range bs.length).all (λi=>bs.getD i false)=bs.all id:=by
 induction bs with
 |nil=>rfl
 |cons b bs ih=>
  rw[Iv,List.range_succ_eq_map,KY,List.all_map,KY,<-ih]
  rfl
theorem range_any (bs:List Bool):(List.range bs.length).any (λi=>bs.getD i false)=bs.any id:=by
 induction bs with
 |nil=>rfl
 |cons b bs ih=>
  rw[Iv,List.range_succ_eq_map,any_cons,List.any_map,any_cons,<-ih]
  rfl
def tR (K:Frag)(f:List Bool->Bool):List V->Hp->VK->Prop:=λxs H Q=>∃a bs,xs= [.ref a]/\fC K H a (bs.map V.bl)/\Q (.bl (f bs)) H
def lP (hc:X.calm=true){a:Addr}{bs:List Bool}{Q:VK}(I:Inv X pins σ H s)(hq:fC X.K H a (bs.map V.bl)){f:List Bool->Bool}{g:(Nat->Bool)->Nat->Bool}(hfg:g (λi=>bs.getD i false) bs.length=f bs)(q:Q (.bl (f bs)) H) :
  wpAny (model X.prog X.w) X.A.in1 (pyIter (.ref a)) (λit s2=>∃Ii fp wr n P St tr,it=.ref Ii/\Walks X.prog X.w X.A.in1 Ii fp wr n P St/\St 0 s2.heap/\TruthOf X.prog X.w X.A.in1 P tr/\
   ∀h' tk,(∀b o,b∉wr->s2.heap.get? b=some o->h'.get? b=some o)->EP X pins σ Q (.bool (g tr n)) {s2 with heap:=h',toks:=tk}) X.xe s:=by
 obtain⟨its,rv,pl,hz⟩:=I.list hq
 have hh:X.A.in1.handled=none:=I.ok.hd hc
 have hlen:its.length=bs.length:=by rw[<-rv.length];simp
 obtain⟨o,ho,_⟩:=id pl.isList
 refine KH pl.isList ?_
 have W:=Walks.list (prog:=X.prog) (w:=X.w) hh s.heap.objs.size a (Ja (Il ho)) its.toArray
 refine⟨s.heap.objs.size,_,_,_,_,_,λi=>bs.getD i false,rfl,W,⟨⟨_,IB _ rfl,rfl,rfl⟩,pl.isList.push _⟩,?_,λh' tk k=>?_⟩
 ·have:=qS (X:=X) (A:=X.A.in1) rv
  simpa using this
 ·have e:its.toArray.size=bs.length:=by simpa using hlen
  rw[e,hfg]
  have I1:Inv X pins σ H {s with heap:=s.heap.push {cls:=.type "list_iterator",data:=.fields #[.ref a,.int 0 0]}}:=I.kept (t':=s.toks) λb o e=>Ia _ e
  have hf:H s.heap.objs.size=none:=I.hok.fresh (HX _)
  have fp:=I.fpOk (H':=H) (b:=s.heap.objs.size) (HX _) hf
  refine⟨.bl _,H,I1.turned (it:=s.heap.objs.size) (t':=tk) (λb o hb e=>k b o (by simpa using hb) e) hf fp.2.1 fp.2.2.2.1 fp.2.2.2.2.1 fp.2.2.2.2.2,rfl,q⟩
def rS (hc:X.calm=true):b9 X (.builtin "all") (tR X.K λbs=>bs.all id):=by
 intro pins s σ H xs us Q I r h
 obtain⟨a,bs,rfl,hq,q⟩:=h
 obtain⟨u,rfl,rx⟩:=vals1 r
 cases rx
 exact call_all_walk (lP hc I hq (f:=λbs=>bs.all id) (g:=λtr n=>(List.range n).all tr) (range_all bs) q)
def zm (hc:X.calm=true):b9 X (.builtin "any") (tR X.K λbs=>bs.any id):=by
 intro pins s σ H xs us Q I r h
 obtain⟨a,bs,rfl,hq,q⟩:=h
 obtain⟨u,rfl,rx⟩:=vals1 r
 cases rx
 exact call_any_walk (lP hc I hq (f:=λbs=>bs.any id) (g:=λtr n=>(List.range n).any tr) (range_any bs) q)
def yk:b9 X (.type "range") (λxs H Q=>∃n:Int,xs= [.int n]/\∀p,H p=none->Q (.ref p) (upd H p (.ly 0 n))):=by
 intro pins s σ H xs us Q I r h
 obtain⟨n,rfl,q⟩:=h
 obtain⟨u,rfl,rx⟩:=vals1 r
 obtain⟨t,rfl⟩:=rx
 refine call_range_1 ⟨.ref s.heap.objs.size,upd H s.heap.objs.size (.ly 0 n),?_,rfl,q _ (I.hok.fresh (HX _))⟩
 exact I.laid (λb o e=>Ia _ e) (HX _) ⟨_,_,_,IB _ rfl⟩
def nK (hc:X.calm=true):b9 X (.type "list") (λxs H Q=>∃p n,xs= [.ref p]/\H p=some (.ly 0 n)/\0<=n/\n<=1000/\∀l,H l=none->Q (.ref l) (upd H l (.lst ((List.range n.toNat).map λ(i:Nat)=>V.int (i:Int))))):=by
 intro pins s σ H xs us Q I r h
 obtain⟨p,n,rfl,hp,h0,h1,q⟩:=h
 obtain⟨u,rfl,rx⟩:=vals1 r
 cases rx
 obtain⟨t,u,v,hr⟩:∃t u v,s.heap.get? p=some {cls:=.type "range",data:=.fields #[.int 0 t,.int n u,.int 1 v]}:=I.hok p _ hp
 have hsz:Builtin.Range.rangeSize 0 n 1=(n.toNat:Int):=by rw[rangeSize_one];split <;> omega
 refine call_list_range (I.ok.hd hc) hr (small_one (by omega) (by omega) (by omega) (by omega)) hsz (by omega) λh' tk acc c k hS hacc=>?_
 have hv:Vals ((List.range n.toNat).map λ(i:Nat)=>V.int (i:Int)) acc.toList:=by
  have key:∀(m:Nat) (us:List Value) (j:Nat),us.length=m->(∀(i:Nat) (v:Value),us[i]? =some v->∃t,v=Value.int ((j + i:Nat):Int) t)->Vals ((List.range' j m).map λ(i:Nat)=>V.int (i:Int)) us:=by
   intro m
   induction m with
   |zero=>intro us j hl _;cases us with
    |nil=>exact .nil
    |cons a b=>simp at hl
   |succ m ih=>
    intro us j hl hh
    cases us with
    |nil=>simp at hl
    |cons u us=>
     rw[List.range'_succ,Jp]
     refine .cons (by have:=hh 0 u rfl;simp at this;exact this) (ih us (j + 1) (by simpa using hl) λi v hi=>?_)
     obtain⟨t,e⟩:=hh (i + 1) v (by simpa using hi)
     exact⟨t,by rw[e];congr 2;omega⟩
  have:=key n.toNat acc.toList 0 (by simpa using hacc.1) λi v hi=>by
   obtain⟨t,e⟩:=hacc.2 i v (by simpa using hi)
   exact⟨t,by rw[e];simp⟩
  rw[List.range_eq_range'];exact this
 refine⟨.ref s.heap.objs.size,_,I.laid (t':=tk) k (HX _) (show bw X.prog X.w _ h' _ (.lst _) from⟨by simp;rw[IV];omega,acc.toList,c,hv,by simpa using hS⟩),rfl,q _ (I.hok.fresh (HX _))⟩
end
section
variable {P:Program}{w:World}{K:Frag}{mg:Str->Option Value}{base:Heap}
def z5.xF {x qual:Str}{st:Stmt}{f:Addr}{fd:FuncData}{N ps:List Str}{k:Nat}{sp:Sp}(F:z5 K x qual st f fd)(S:aK N ps (av st))(len:∀vs H Q E,sp vs H Q E->vs.length=ps.length)
  (hbody:∀(cdv:Value) (A:Around) (outer:List Env) (s:Shared) (H:Hp) (vs:List V) (Q:VK) (E:XK),dD k (A.deeper (envOfC qual (av st) s.heap.objs.size f cdv))->sp vs H Q E->
   ∃t,ou (nX (o5 P w) P w K mg base N qual (av st) f cdv A outer s H E) (bY st) t/\t {nx:=λ_ H'=>Q .non H',rt:=Q} (start N vs) H):dw P w K mg base (o5 P w) (k + 1) f fd ps sp:=by
 obtain⟨oc,od,kV,doc,pm,an,cdv,ct,osl,rfl,lk,hcd⟩:=F.ex
 exact Ca lk hcd S len λA outer s H vs Q E hr hsp=>hbody cdv A outer s H vs Q E hr hsp
end
abbrev D:=PyData
def kD:Key->D
 | .inl i=>.int i
 | .inr x=>.str x
mutual
inductive Rp (K:Frag)(G:Hp):V->D->Prop
 |non:Rp K G .non .none
 |bl (b:Bool):Rp K G (.bl b) (.bool b)
 |int (i:Int):Rp K G (.int i) (.int i)
 |str (x:Str):Rp K G (.str x) (.str x)
 |tup {a:Addr} {xs:List V} {ds:List D}:dA K G a xs->bI K G xs ds->Rp K G (.ref a) (.tuple ds)
 |lst {a:Addr} {xs:List V} {ds:List D}:G a=some (.lst xs)->bI K G xs ds->Rp K G (.ref a) (.list ds)
 |scr {a:Addr} {ns:List Int}:fC K G a (ns.map V.int)->Rp K G (.ref a) (.dict [(.none,.list (ns.map int))])
 |dK {a:Addr} {kvs:List (Key×V)} {ds:List (D×D)}:G a=some (.dK kvs)->uy K G kvs ds->Rp K G (.ref a) (.dict ds)
 |dT {a:Addr} {kvs:List (List Key×V)} {ep:Nat} {ds:List (D×D)}:G a=some (.dT kvs ep)->xK K G kvs ds->Rp K G (.ref a) (.dict ds)
inductive bI (K:Frag)(G:Hp):List V->List D->Prop
 |nil:bI K G [] []
 |cons {x:V} {xs:List V} {d:D} {ds:List D}:Rp K G x d->bI K G xs ds->bI K G (x :: xs) (d :: ds)
inductive uy (K:Frag)(G:Hp):List (Key×V)->List (D×D)->Prop
 |one {k:Key} {x:V} {d:D}:Rp K G x d->uy K G [(k,x)] [(kD k,d)]
 |cons {k:Key} {x:V} {xs:List (Key×V)} {d:D} {ds:List (D×D)}:Rp K G x d->uy K G xs ds->uy K G ((k,x) :: xs) ((kD k,d) :: ds)
inductive xK (K:Frag)(G:Hp):List (List Key×V)->List (D×D)->Prop
 |nil:xK K G [] []
 |cons {k:List Key} {x:V} {xs:List (List Key×V)} {d:D} {ds:List (D×D)}:Rp K G x d->xK K G xs ds->xK K G ((k,x) :: xs) ((.tuple (k.map kD),d) :: ds)
end
section
variable {K:Frag}{G G' H H':Hp}
def Fh {b:Addr}{o:HO}(h:Kt H b o)(hu:∀ps,o≠.tbl ps):H b=some o:=by
 obtain⟨u,e,k,_⟩:=h.some
 rw[e,k hu]
theorem iA {a b:Addr}{o u:HO}(h:Kt H b u)(hb:b≠a)(ha:∀x y,H a≠some (.aO x y)):Kt (upd H a o) b u:=by
 cases u with
 |tbl ps=>
  obtain⟨m,e,t,k⟩:=h
  refine⟨m,by rw[ao hb];exact e,t,λc hc=>?_⟩
  obtain⟨x,ex,ix⟩:=k c hc
  exact⟨x,by rw[ao (λz=>ha x _ (z▸ex))];exact ex,ix⟩
 |_=>exact (ao hb).trans h
def Rd.mono {a:Addr}{u:HO}(h:Rd G a u)(s:ag G G')(hu:∀ps,u≠.tbl ps:=by intro _ z;cases z):Rd G' a u:=h.elim (λe=>.inl (Fh (s _ _ e) hu)) λ⟨o,e⟩=>.inr ⟨o,s _ _ e⟩
mutual
theorem Rp.mono (s:ag G G'):∀{x:V} {d:D},Rp K G x d->Rp K G' x d
 |_,_,.non=>.non
 |_,_,.bl b=>.bl b
 |_,_,.int i=>.int i
 |_,_,.str x=>.str x
 |_,_,.tup h hs=>.tup (h.grow s.grow) (bI.mono s hs)
 |_,_,.lst h hs=>.lst (s _ _ h) (bI.mono s hs)
 |_,_,.scr h=>.scr (s.seq h)
 |_,_,.dK h hs=>.dK (s _ _ h) (uy.mono s hs)
 |_,_,.dT h hs=>.dT (s _ _ h) (xK.mono s hs)
theorem bI.mono (s:ag G G'):∀{xs:List V} {ds:List D},bI K G xs ds->bI K G' xs ds
 |_,_,.nil=>.nil
 |_,_,.cons h hs=>.cons (Rp.mono s h) (bI.mono s hs)
theorem uy.mono (s:ag G G'):∀{xs:List (Key×V)} {ds:List (D×D)},uy K G xs ds->uy K G' xs ds
 |_,_,.one h=>.one (Rp.mono s h)
 |_,_,.cons h hs=>.cons (Rp.mono s h) (uy.mono s hs)
theorem xK.mono (s:ag G G'):∀{xs:List (List Key×V)} {ds:List (D×D)},xK K G xs ds->xK K G' xs ds
 |_,_,.nil=>.nil
 |_,_,.cons h hs=>.cons (Rp.mono s h) (xK.mono s hs)
end
theorem bI.len:∀{xs:List V} {ds:List D},bI K G xs ds->xs.length=ds.length
 |_,_,.nil=>rfl
 |_,_,.cons _ t=>by simp[bI.len t]
theorem bI.at:∀{xs:List V} {ds:List D} {i:Nat} {d:D},bI K G xs ds->ds[i]? =some d->∃x,xs[i]? =some x/\Rp K G x d
 |_,_,_,_,.nil,e=>by simp at e
 |_,_,0,_,.cons r _,e=>by simp at e;subst e;exact⟨_,rfl,r⟩
 |_,_,i + 1,x,.cons _ t,e=>by
  obtain⟨u,h1,h2⟩:=bI.at (i:=i) (d:=x) t (by simpa using e)
  exact⟨u,by simpa using h1,h2⟩
theorem bI.at':∀{xs:List V} {ds:List D} {i:Nat} {x:V},bI K G xs ds->xs[i]? =some x->∃d,ds[i]? =some d/\Rp K G x d
 |_,_,_,_,.nil,e=>by simp at e
 |_,_,0,_,.cons r _,e=>by simp at e;subst e;exact⟨_,rfl,r⟩
 |_,_,i + 1,x,.cons _ t,e=>by
  obtain⟨u,h1,h2⟩:=bI.at' (i:=i) (x:=x) t (by simpa using e)
  exact⟨u,by simpa using h1,h2⟩
theorem bI.append:∀{xs ys:List V} {ds es:List D},bI K G xs ds->bI K G ys es->bI K G (xs ++ ys) (ds ++ es)
 |_,_,_,_,.nil,s=>s
 |_,_,_,_,.cons r t,s=>.cons r (bI.append t s)
def bI.snoc {xs:List V}{ds:List D}{x:V}{d:D}(h:bI K G xs ds)(q:Rp K G x d):bI K G (xs ++ [x]) (ds ++ [d]):=h.append (.cons q .nil)
theorem bI.take:∀{xs:List V} {ds:List D} (n:Nat),bI K G xs ds->bI K G (xs.take n) (ds.take n)
 |_,_,0,_=>.nil
 |_,_,_ + 1,.nil=>.nil
 |_,_,n + 1,.cons r t=>.cons r (bI.take n t)
theorem bI.drop:∀{xs:List V} {ds:List D} (n:Nat),bI K G xs ds->bI K G (xs.drop n) (ds.drop n)
 |_,_,0,r=>r
 |_,_,_ + 1,.nil=>.nil
 |_,_,n + 1,.cons _ t=>bI.drop n t
mutual
def xH:D->Bool
 | .dict _=>false
 | .list ds=>rX ds
 | .tuple ds=>rX ds
 |_=>true
def rX:List D->Bool
 | []=>true
 |d :: ds=>xH d && rX ds
end
mutual
theorem Rp.rep:∀{x:V} {d:D},Rp K G x d->xH d=true->Rep K G x d
 |_,_,.non,_=>.non
 |_,_,.bl b,_=>.bl b
 |_,_,.int i,_=>.int i
 |_,_,.str x,_=>.str x
 |_,_,.tup h hs,e=>.tup h (bI.reps hs (by simpa[xH] using e))
 |_,_,.lst h hs,e=>.lst (.inl (.inl h)) (bI.reps hs (by simpa[xH] using e))
 |_,_,.scr _,e=>by simp[xH] at e
 |_,_,.dK _ _,e=>by simp[xH] at e
 |_,_,.dT _ _,e=>by simp[xH] at e
theorem bI.reps:∀{xs:List V} {ds:List D},bI K G xs ds->rX ds=true->nk K G xs ds
 |_,_,.nil,_=>.nil
 |_,_,.cons h hs,e=>.cons (Rp.rep h (by simp[rX] at e;exact e.1)) (bI.reps hs (by simp[rX] at e;exact e.2))
end
def Own (K:Frag)(G H:Hp)(a:Addr):D->Prop
 | .list ds=>∃xs,H a=some (.lst xs)/\bI K G xs ds
 | .dict ds=>(∃kvs,H a=some (.dK kvs)/\uy K G kvs ds)\/∃q:List (List Key×V)×Nat,H a=some (.dT q.1 q.2)/\xK K G q.1 ds
 |_=>False
def Own.obj {a:Addr}{d:D}(h:Own K G H a d):∃o,H a=some o:=by
 cases d <;> first |exact h.elim |skip
 ·obtain⟨xs,e,_⟩:=h;exact⟨_,e⟩
 ·rcases h with⟨_,e,_⟩ | ⟨_,e,_⟩ <;> exact⟨_,e⟩
def Own.mono {a:Addr}{d:D}(h:Own K G H a d)(s:ag G G')(m:∀o,H a=some o->Kt H' a o):Own K G' H' a d:=by
 cases d <;> first |exact h.elim |skip
 ·obtain⟨xs,e,r⟩:=h;exact⟨xs,m _ e,r.mono s⟩
 ·rcases h with⟨k,e,r⟩ | ⟨k,e,r⟩
  ·exact .inl ⟨k,m _ e,r.mono s⟩
  ·exact .inr ⟨k,m _ e,r.mono s⟩
def Own.rp {a:Addr}{d:D}(h:Own K G H a d)(n:G a=none){G':Hp}(s:ag G G')(e:∀o,H a=some o->G' a=some o):Rp K G' (.ref a) d:=by
 cases d <;> first |exact h.elim |skip
 ·obtain⟨xs,q,r⟩:=h;exact .lst (e _ q) (r.mono s)
 ·rcases h with⟨k,q,r⟩ | ⟨k,q,r⟩
  ·exact .dK (e _ q) (r.mono s)
  ·exact .dT (e _ q) (r.mono s)
def jr (K:Frag)(B:Option Addr)(G H:Hp)(v:V)(d:D):Prop:=Rp K G v d\/∃a,v=.ref a/\B≠some a/\Own K G H a d
def fj (B:Option Addr)(H H':Hp):Prop:=(∀b o,H b=some o->B≠some b->Kt H' b o)/\∀b o u,H b=some (.aO o u)->H' b=some (.aO o u)
def fj.refl (B:Option Addr)(H:Hp):fj B H H:=⟨λ_ _ h _=>Kt.of h,λ_ _ _ h=>h⟩
theorem sR {B:Option Addr}{b:Addr}{o:HO}(h1:Kt H b o)(y:fj B H H')(n:B≠some b):Kt H' b o:=by
 cases o with
 |tbl ps=>
  obtain⟨m,e,t,k⟩:=h1
  obtain⟨m2,e2,t2,k2⟩:=y.1 b _ e n
  refine⟨m ++ m2,by rw[e2,Array.append_assoc],by rw[II];exact t.app t2,λc hc=>?_⟩
  rw[II,Iu] at hc
  rcases hc with hc |hc
  ·obtain⟨o,eo,io⟩:=k c hc;exact⟨o,y.2 c _ _ eo,io⟩
  ·exact k2 c hc
 |_=>exact y.1 b _ h1 n
def fj.trans {B:Option Addr}{H1:Hp}(x:fj B H H1)(y:fj B H1 H'):fj B H H':=⟨λb o h n=>sR (x.1 b o h n) y n,λb o u h=>y.2 b o u (x.2 b o u h)⟩
def ag.mov (s:ag H H')(B:Option Addr):fj B H H':=⟨λb o h _=>s b o h,λb o u h=>s b _ h⟩
def jr.mono {B:Option Addr}{v:V}{d:D}(h:jr K B G H v d)(s:ag G G')(m:fj B H H'):jr K B G' H' v d:=by
 rcases h with h | ⟨a,e,n,h⟩
 ·exact .inl (h.mono s)
 ·exact .inr ⟨a,e,n,h.mono s λo q=>m.1 a o q n⟩
def jr.rpH {B:Option Addr}{v:V}{d:D}(h:jr K B G H v d)(s:ag G H):Rp K H v d:=by
 rcases h with h | ⟨a,rfl,n,h⟩
 ·exact h.mono s
 ·cases d <;> first |exact h.elim |skip
  ·obtain⟨xs,q,r⟩:=h;exact .lst q (r.mono s)
  ·rcases h with⟨k,q,r⟩ | ⟨k,q,r⟩
   ·exact .dK q (r.mono s)
   ·exact .dT q (r.mono s)
def jr.list {B:Option Addr}{v:V}{ds:List D}(h:jr K B G H v (.list ds))(s:ag G H):∃a xs,v=.ref a/\Rd H a (.lst xs)/\bI K G xs ds:=by
 rcases h with h | ⟨a,rfl,n,xs,q,r⟩
 ·cases h with
  |lst h r=>exact⟨_,_,rfl,.inl (s _ _ h),r⟩
 ·exact⟨a,xs,rfl,.inl q,r⟩
def jr.tuple {B:Option Addr}{v:V}{ds:List D}(h:jr K B G H v (.tuple ds))(s:ag G H):∃a xs,v=.ref a/\dA K H a xs/\bI K G xs ds:=by
 rcases h with h | ⟨a,rfl,n,h⟩
 ·cases h with
  |tup h r=>exact⟨_,_,rfl,h.grow s.grow,r⟩
 ·exact h.elim
def jr.int {B:Option Addr}{v:V}{i:Int}(h:jr K B G H v (.int i)):v=.int i:=by
 rcases h with h | ⟨a,rfl,n,h⟩
 ·cases h;rfl
 ·exact h.elim
def jr.bool {B:Option Addr}{v:V}{b:Bool}(h:jr K B G H v (.bool b)):v=.bl b:=by
 rcases h with h | ⟨a,rfl,n,h⟩
 ·cases h;rfl
 ·exact h.elim
def jr.str {B:Option Addr}{v:V}{x:Str}(h:jr K B G H v (.str x)):v=.str x:=by
 rcases h with h | ⟨a,rfl,n,h⟩
 ·cases h;rfl
 ·exact h.elim
def jr.none {B:Option Addr}{v:V}(h:jr K B G H v .none):v=.non:=by
 rcases h with h | ⟨a,rfl,n,h⟩
 ·cases h;rfl
 ·exact h.elim
end
def Fz:HO->Prop
 | .tup _=>True
 | .aO _ _=>True
 |_=>False
def Mx (H:Hp)(b:Addr):Prop:=H b≠none/\∀o,H b=some o->¬Fz o
def Mx.lst {H:Hp}{b:Addr}{xs:List V}(h:H b=some (.lst xs)):Mx H b:=⟨by rw[h];simp,λys z=>by rw[h] at z;cases z;exact λy=>y⟩
theorem Mx.same {H H':Hp}{b:Addr}(h:Mx H b)(m:∀o,H b=some o->Kt H' b o):Mx H' b:=by
 obtain⟨h1,h2⟩:=h
 cases e:H b with
 |none=>exact absurd e h1
 |some o=>
  obtain⟨u,eu,k1,k2⟩:=(m o e).some
  refine⟨by rw[eu];simp,λxs z=>?_⟩
  rw[eu] at z
  cases z
  by_cases c:∃ps,o=.tbl ps
  ·obtain⟨ps,e⟩:=k2 c;rw[e];exact λy=>y
  ·rw[k1 λps e=>c ⟨ps,e⟩];exact h2 o e
def Own.mx {K:Frag}{G H:Hp}{a:Addr}{d:D}(h:Own K G H a d):Mx H a:=by
 cases d <;> first |exact h.elim |skip
 ·obtain⟨xs,e,_⟩:=h;exact Mx.lst e
 ·rcases h with⟨k,e,_⟩ | ⟨k,e,_⟩ <;> exact⟨by rw[e];simp,λys z=>by rw[e] at z;cases z;exact λy=>y⟩
open Classical in
noncomputable def ku (G H:Hp):Hp:=λb=>match G b with
 |some o=>some o
 |none=>match H b with
  |some o=>if Fz o then some o else none
  |none=>none
def oH {G H:Hp}:ag G (ku G H):=λb o e=>Kt.of (by unfold ku;rw[e])
theorem u5 {G H:Hp}(s:ag G H){b:Addr}{o:HO}(e:H b=some o)(f:Fz o):ku G H b=some o:=by
 unfold ku
 cases q:G b with
 |some u=>
  obtain⟨u',eu,k1,k2⟩:=(s b u q).some
  rw[e] at eu
  cases eu
  by_cases c:∃ps,u=.tbl ps
  ·obtain⟨ps,z⟩:=k2 c;subst z;exact f.elim
  ·rw[k1 λps z=>c ⟨ps,z⟩]
 |none=>simp only[e];rw[HV f]
theorem qM {G H:Hp}(s:ag G H):ag (ku G H) H:=λb o e=>by
 unfold ku at e
 cases q:G b with
 |some u=>rw[q] at e;cases e;exact s b _ q
 |none=>
  rw[q] at e
  cases q2:H b with
  |none=>rw[q2] at e;cases e
  |some u=>
   rw[q2] at e
   dsimp only at e
   split at e
   ·cases e;exact Kt.of q2
   ·cases e
theorem uP {G H H':Hp}(hh:ag H H'){b:Addr}(m:Mx H b):ku G H' b=G b:=by
 unfold ku
 cases q:G b with
 |some u=>rfl
 |none=>
  obtain⟨h1,h2⟩:=m
  cases e:H b with
  |none=>exact absurd e h1
  |some o=>
   have hm:=(show Mx H b from⟨h1,h2⟩).same (hh b)
   cases e2:H' b with
   |none=>rfl
   |some u=>simp only;rw[HY (hm.2 u e2)]
def mn {K:Frag}{G H:Hp}(s:ag G H){a:Addr}{xs:List V}(h:dA K H a xs):dA K (ku G H) a xs:=by
 rcases h with (h | ⟨o,h⟩) |h
 ·exact .inl (.inl (u5 s h trivial))
 ·exact .inl (.inr ⟨o,u5 s h trivial⟩)
 ·exact .inr h
structure Fx where
 K:Frag
 H0:Hp
 G0:Hp
 par:List Addr
 ca:Str->Addr
 br:Nat->Bool
 bx:Option Addr
inductive Sl where
 |no |fz (d:D) |ow (d:D) |bx |br (d:D)
abbrev En:=List Sl
inductive Nv where
 |no |da (d:D) |bx
def Sl.val:Sl->Nv
 | .no=>.no
 | .fz d=>.da d
 | .ow d=>.da d
 | .br d=>.da d
 | .bx=>.bx
def vl (env:En):List Nv:=env.map Sl.val
def GL (Γ:Fx)(B:Option Addr)(G H:Hp)(i:Nat)(o:Option (Option V)):Sl->Prop
 | .no=>True
 | .fz d=>∃v,o=some (some v)/\Rp Γ.K G v d
 | .ow d=>∃a,o=some (some (.ref a))/\Γ.H0 a=none/\G a=none/\B≠some a/\Own Γ.K G H a d
 | .bx=>∃a,o=some (some (.ref a))/\B=some a
 | .br d=>Γ.br i=true/\∃a,o=some (some (.ref a))/\B≠some a/\a∉Γ.par/\Own Γ.K G H a d
structure SR (Γ:Fx)(B:Option Addr)(G H:Hp)(σ:St)(env:En)(β:Int):Prop where
 sub:ag G H
 old:ag Γ.G0 G
 new:∀b,Mx Γ.H0 b->Γ.G0 b=none->G b=none
 keep:∀b o,Γ.H0 b=some o->b∉Γ.par->Kt H b o
 pin:∀b,b∈Γ.par->Mx H b
 fix:∀b,Γ.bx=some b->B=some b
 box:∀b,B=some b->H b=some (.lst [.int β])/\G b=none/\(b∈Γ.par\/Γ.H0 b=none)
 len:σ.length=env.length
 slot:∀(i:Nat) (s:Sl),env[i]? =some s->GL Γ B G H i (σ[i]?) s
 sep:∀(i j:Nat) (a:Addr) (d e:D),env[i]? =some (.ow d)->env[j]? =some (.ow e)->σ[i]? =some (some (.ref a))->σ[j]? =some (some (.ref a))->i=j
structure Ext (G H G' H':Hp):Prop where
 hh:ag H H'
 gg:ag G G'
 gh:ag G' H'
 on:∀b,Mx H b->G' b=G b
def Ext.refl {G H:Hp}(s:ag G H):Ext G H G H:=⟨ag.refl _,ag.refl _,s,λ_ _=>rfl⟩
def Ext.tups {G H H':Hp}(s:ag G H)(hh:ag H H'):Ext G H (ku G H') H':=⟨hh,oH,qM (s.trans hh),λ_ m=>uP hh m⟩
def Ext.new {G H:Hp}(s:ag G H){p:Addr}{o:HO}(h:H p=none):Ext G H (upd G p o) (upd H p o):=by
 refine⟨ag.new h,ag.new (s.free h),λb u e=>?_,λb hb=>?_⟩
 ·by_cases z:b=p
  ·subst z;rw[aq] at e;exact Kt.of (by rw[aq];exact e)
  ·rw[ao z] at e;exact iA (s b u e) z (λx y w=>by rw[h] at w;cases w)
 ·exact ao (λz=>hb.1 (by rw[z];exact h))
def Ext.own {G H:Hp}(s:ag G H){p:Addr}{o:HO}(h:H p=none):Ext G H G (upd H p o):=
 ⟨ag.new h,ag.refl _,s.trans (ag.new h),λ_ _=>rfl⟩
def Ext.trans {G H G1 H1 G2 H2:Hp}(x:Ext G H G1 H1)(y:Ext G1 H1 G2 H2):Ext G H G2 H2:=by
 refine⟨x.hh.trans y.hh,x.gg.trans y.gg,y.gh,λb hb=>?_⟩
 rw[y.on b (hb.same λo e=>x.hh b o e),x.on b hb]
section
variable {Γ:Fx}{B:Option Addr}{G H G' H':Hp}{σ:St}{env:En}{β:Int}
def SR.there (I:SR Γ B G H σ env β){b:Addr}(h:Γ.H0 b≠none):H b≠none:=by
 by_cases hp:b∈Γ.par
 ·exact (I.pin b hp).1
 ·cases e:Γ.H0 b with
  |none=>exact absurd e h
  |some o=>obtain⟨u,eu,_⟩:=(I.keep b o e hp).some;rw[eu];simp
def SR.thereM (I:SR Γ B G H σ env β){b:Addr}(h:Mx Γ.H0 b):Mx H b:=by
 by_cases hp:b∈Γ.par
 ·exact I.pin b hp
 ·exact h.same λo e=>I.keep b o e hp
def SR.ext (I:SR Γ B G H σ env β)(x:Ext G H G' H'):SR Γ B G' H' σ env β:=by
 refine⟨x.gh,I.old.trans x.gg,λb h1 h2=>?_,λb o h1 h2=>(I.keep b o h1 h2).step x.hh,λb hb=>?_,I.fix,λb e=>?_,I.len,λi s e=>?_,I.sep⟩
 ·rw[x.on b (I.thereM h1)];exact I.new b h1 h2
 ·exact (I.pin b hb).same λo e=>x.hh b o e
 ·obtain⟨h1,h2,h3⟩:=I.box b e
  exact⟨x.hh b _ h1,by rw[x.on b (Mx.lst h1)];exact h2,h3⟩
 ·have q:=I.slot i s e
  cases s with
  |no=>trivial
  |fz d=>obtain⟨v,h1,h2⟩:=q;exact⟨v,h1,h2.mono x.gg⟩
  |ow d=>
   obtain⟨a,h1,h2,h3,h4,h5⟩:=q
   exact⟨a,h1,h2,by rw[x.on a h5.mx];exact h3,h4,h5.mono x.gg λo q=>x.hh a o q⟩
  |bx=>exact q
  |br d=>obtain⟨b1,a,h1,h4,hp,h5⟩:=q;exact⟨b1,a,h1,h4,hp,h5.mono x.gg λo q=>x.hh a o q⟩
def fN (env:En)(i:Nat):En:=match env[i]? with
 |some (.ow d)=>env.set i (.fz d)
 |_=>env
def aO (L:List Nat)(env:En):En:=L.foldl fN env
def dk (L M:List Nat)(env:En):aO (L ++ M) env=aO M (aO L env):=by unfold aO;rw[List.foldl_append]
def tM (env:En)(i:Nat)(s:Sl)(h:∀t,env[i]? =some t->t.val=s.val):vl (env.set i s)=vl env:=by
 unfold vl
 apply KJ
 intro j
 rw[Ip,Ip,List.getElem?_set]
 by_cases e:i=j
 ·subst e
  by_cases hi:i < env.length
  ·simp only[Js,hi]
   have:=h _ (HU hi)
   simp[HU hi,this]
  ·simp only[Js,hi,IZ]
   rw[Kc (by omega)]
 ·simp[e]
def Bv (env:En)(i:Nat):vl (fN env i)=vl env:=by
 unfold fN
 split
 ·rename_i d e
  exact tM _ _ _ λt ht=>by rw[e] at ht;cases ht;rfl
 ·rfl
theorem hJ (L:List Nat)(env:En):vl (aO L env)=vl env:=by
 unfold aO
 induction L generalizing env with
 |nil=>rfl
 |cons i L ih=>rw[K0,ih,Bv]
theorem BY {i:Nat}{d:D}(h:(vl env)[i]? =some (.da d)):env[i]? =some (.fz d)\/env[i]? =some (.ow d)\/env[i]? =some (.br d):=by
 unfold vl at h
 rw[Ip] at h
 cases e:env[i]? with
 |none=>rw[e] at h;simp at h
 |some s=>
  rw[e] at h
  cases s with
  |no=>simp[Sl.val] at h
  |fz d'=>simp[Sl.val] at h;subst h;exact .inl rfl
  |ow d'=>simp[Sl.val] at h;subst h;exact .inr (.inl rfl)
  |bx=>simp[Sl.val] at h
  |br d'=>simp[Sl.val] at h;subst h;exact .inr (.inr rfl)
theorem EU {i:Nat}(h:(vl env)[i]? =some .bx):env[i]? =some .bx:=by
 unfold vl at h
 rw[Ip] at h
 cases e:env[i]? with
 |none=>rw[e] at h;simp at h
 |some s=>
  rw[e] at h
  cases s with
  |bx=>rfl
  |_=>simp[Sl.val] at h
def SR.freeze (I:SR Γ B G H σ env β)(i:Nat)(hb:Γ.br i=false){d:D}(h:(vl env)[i]? =some (.da d)):∃G' v,SR Γ B G' H σ (fN env i) β/\ag G G'/\σ[i]? =some (some v)/\Rp Γ.K G' v d:=by
 rcases BY h with e |e |e
 ·obtain⟨v,h1,h2⟩:=I.slot i _ e
  exact⟨G,v,by unfold fN;rw[e];exact I,ag.refl _,h1,h2⟩
 rotate_left
 ·obtain⟨z,_⟩:=I.slot i _ e
  rw[hb] at z;cases z
 ·obtain⟨a,h1,h2,h3,h4,h5⟩:=I.slot i _ e
  obtain⟨o,ho⟩:=h5.obj
  have sG:ag G (upd G a o):=ag.new h3
  have hi:i < env.length:=(Im.mp e).1
  have hr:Rp Γ.K (upd G a o) (.ref a) d:=h5.rp h3 sG λo' q=>by rw[ho] at q;cases q;exact aq
  refine⟨upd G a o,.ref a,?_,sG,h1,hr⟩
  unfold fN
  rw[e]
  refine⟨λb u q=>?_,I.old.trans sG,λb n1 n2=>?_,I.keep,I.pin,I.fix,λb q=>?_,by rw[JG];exact I.len,λj s q=>?_,λj k c d1 d2 q1 q2 q3 q4=>?_⟩
  ·by_cases z:b=a
   ·subst z;rw[aq] at q;cases q;exact Kt.of ho
   ·rw[ao z] at q;exact I.sub b u q
  ·rw[ao (λz=>n1.1 (by rw[z];exact h2))];exact I.new b n1 n2
  ·obtain⟨k1,k2,k3⟩:=I.box b q
   exact⟨k1,by rw[ao (λz=>h4 (by rw[<-z];exact q))];exact k2,k3⟩
  ·by_cases z:j=i
   ·subst z
    rw[IA hi] at q
    cases q
    exact⟨.ref a,h1,hr⟩
   ·rw[Iy (Ne.symm z)] at q
    have w:=I.slot j s q
    cases s with
    |no=>trivial
    |fz d'=>obtain⟨v,w1,w2⟩:=w;exact⟨v,w1,w2.mono sG⟩
    |ow d'=>
     obtain⟨c,w1,w2,w3,w4,w5⟩:=w
     have ca:c≠a:=λz2=>z (I.sep j i c d' d q e w1 (by rw[z2];exact h1))
     exact⟨c,w1,w2,by rw[ao ca];exact w3,w4,w5.mono sG λo q=>Kt.of q⟩
    |bx=>exact w
    |br d'=>obtain⟨b1,c,w1,w4,wp,w5⟩:=w;exact⟨b1,c,w1,w4,wp,w5.mono sG λo q=>Kt.of q⟩
  ·have ne:∀{j:Nat} {d':D},(env.set i (Sl.fz d))[j]? =some (.ow d')->env[j]? =some (.ow d'):=λ{j d'} q=>by
    by_cases z:j=i
    ·subst z;rw[IA hi] at q;cases q
    ·rw[Iy (Ne.symm z)] at q;exact q
   exact I.sep j k c d1 d2 (ne q1) (ne q2) q3 q4
theorem SR.aO (I:SR Γ B G H σ env β)(L:List Nat)(hb:∀i,i∈L->Γ.br i=false):∃G',SR Γ B G' H σ (aO L env) β/\ag G G':=by
 induction L generalizing env G with
 |nil=>exact⟨G,I,ag.refl _⟩
 |cons i L ih=>
  show ∃G',SR Γ B G' H σ (L2.aO L (fN env i)) β/\ag G G'
  have key:∃G1,SR Γ B G1 H σ (fN env i) β/\ag G G1:=by
   cases e:env[i]? with
   |none=>exact⟨G,by unfold fN;rw[e];exact I,ag.refl _⟩
   |some s=>
    cases s with
    |ow d=>
     obtain⟨G1,v,h1,h2,_⟩:=I.freeze i (hb i (Ig ..)) (d:=d) (by unfold vl;rw[Ip,e];rfl)
     exact⟨G1,h1,h2⟩
    |_=>exact⟨G,by unfold fN;rw[e];exact I,ag.refl _⟩
  obtain⟨G1,I1,s1⟩:=key
  obtain⟨G2,I2,s2⟩:=ih I1 λj hj=>hb j (Ie _ hj)
  exact⟨G2,I2,s1.trans s2⟩
def SR.set (I:SR Γ B G H σ env β){i:Nat}(hi:i < env.length){v:V}{d:D}(h:Rp Γ.K G v d):SR Γ B G H (σ.set i (some v)) (env.set i (.fz d)) β:=by
 have hs:i < σ.length:=by rw[I.len];exact hi
 refine⟨I.sub,I.old,I.new,I.keep,I.pin,I.fix,I.box,by rw[JG,JG];exact I.len,λj s q=>?_,λj k c d1 d2 q1 q2 q3 q4=>?_⟩
 ·by_cases z:j=i
  ·subst z
   rw[IA hi] at q
   cases q
   exact⟨v,by rw[IA hs],h⟩
  ·rw[Iy (Ne.symm z)] at q ⊢
   exact I.slot j s q
 ·have ne:∀{j:Nat} {d':D},(env.set i (Sl.fz d))[j]? =some (.ow d')->j≠i/\env[j]? =some (.ow d'):=λ{j d'} q=>by
   by_cases z:j=i
   ·subst z;rw[IA hi] at q;cases q
   ·rw[Iy (Ne.symm z)] at q;exact⟨z,q⟩
  obtain⟨n1,e1⟩:=ne q1
  obtain⟨n2,e2⟩:=ne q2
  rw[Iy (Ne.symm n1)] at q3
  rw[Iy (Ne.symm n2)] at q4
  exact I.sep j k c d1 d2 e1 e2 q3 q4
def SR.setOw (I:SR Γ B G H σ env β){i:Nat}(hi:i < env.length){a:Addr}{d:D}(h0:Γ.H0 a=none)(hg:G a=none)(hb:B≠some a)(h:Own Γ.K G H a d)(hn:∀(j:Nat) (d':D),env[j]? =some (.ow d')->j≠i->σ[j]?≠some (some (.ref a))):SR Γ B G H (σ.set i (some (.ref a))) (env.set i (.ow d)) β:=by
 have hs:i < σ.length:=by rw[I.len];exact hi
 refine⟨I.sub,I.old,I.new,I.keep,I.pin,I.fix,I.box,by rw[JG,JG];exact I.len,λj s q=>?_,λj k c d1 d2 q1 q2 q3 q4=>?_⟩
 ·by_cases z:j=i
  ·subst z
   rw[IA hi] at q
   cases q
   exact⟨a,by rw[IA hs],h0,hg,hb,h⟩
  ·rw[Iy (Ne.symm z)] at q ⊢
   exact I.slot j s q
 ·by_cases z1:j=i
  ·by_cases z2:k=i
   ·rw[z1,z2]
   ·subst z1
    rw[Iy (Ne.symm z2)] at q2 q4
    rw[IA hs] at q3
    cases q3
    exact absurd q4 (hn k d2 q2 z2)
  ·by_cases z2:k=i
   ·subst z2
    rw[Iy (Ne.symm z1)] at q1 q3
    rw[IA hs] at q4
    cases q4
    exact absurd q3 (hn j d1 q1 z1)
   ·rw[Iy (Ne.symm z1)] at q1 q3
    rw[Iy (Ne.symm z2)] at q2 q4
    exact I.sep j k c d1 d2 q1 q2 q3 q4
def SR.fresh (I:SR Γ B G H σ env β){a:Addr}(h:H a=none):Γ.H0 a=none/\G a=none/\B≠some a/\∀(j:Nat) (d:D),env[j]? =some (.ow d)->σ[j]?≠some (some (.ref a)):=by
 have hB:B≠some a:=λz=>by rw[(I.box a z).1] at h;cases h
 refine⟨?_,I.sub.free h,hB,λj d e z=>?_⟩
 ·cases e:Γ.H0 a with
  |none=>rfl
  |some o=>exact absurd h (I.there (by rw[e];simp))
 ·obtain⟨c,h1,_,_,_,h5⟩:=I.slot j _ e
  rw[z] at h1
  cases h1
  obtain⟨o,ho⟩:=h5.obj
  rw[h] at ho;cases ho
def SR.write (I:SR Γ B G H σ env β)(hb:∀j,Γ.br j=false){i:Nat}{a:Addr}{d d':D}{o:HO}(e:env[i]? =some (.ow d))(ea:σ[i]? =some (some (.ref a)))(h:∀H',H' a=some o->ag G H'->Own Γ.K G H' a d'):SR Γ B G (upd H a o) σ (env.set i (.ow d')) β:=by
 obtain⟨a',h1,h2,h3,h4,h5⟩:=I.slot i _ e
 rw[ea] at h1;cases h1
 have hi:i < env.length:=(Im.mp e).1
 have ha:∀x y,H a≠some (.aO x y):=λx y w=>h5.mx.2 _ w trivial
 have sub:ag G (upd H a o):=λb u q=>iA (I.sub b u q) (λz=>by rw[z,h3] at q;cases q) ha
 refine⟨sub,I.old,I.new,λb u q n=>?_,λb q=>?_,I.fix,λb q=>?_,by rw[JG];exact I.len,λj s q=>?_,λj k c d1 d2 q1 q2 q3 q4=>?_⟩
 ·exact iA (I.keep b u q n) (λz=>by rw[z,h2] at q;cases q) ha
 ·by_cases z:b=a
  ·subst z;exact (h _ aq sub).mx
  ·exact (I.pin b q).same λo e=>Kt.of (by rw[ao z];exact e)
 ·obtain⟨k1,k2,k3⟩:=I.box b q
  exact⟨by rw[ao (λz=>h4 (by rw[<-z];exact q))];exact k1,k2,k3⟩
 ·by_cases z:j=i
  ·subst z
   rw[IA hi] at q
   cases q
   exact⟨a,ea,h2,h3,h4,h _ aq sub⟩
  ·rw[Iy (Ne.symm z)] at q
   have w:=I.slot j s q
   cases s with
   |no=>trivial
   |fz d1=>exact w
   |ow d1=>
    obtain⟨c,w1,w2,w3,w4,w5⟩:=w
    have ca:c≠a:=λz2=>z (I.sep j i c d1 d q e w1 (by rw[z2];exact ea))
    exact⟨c,w1,w2,w3,w4,w5.mono (ag.refl _) λo q=>Kt.of (by rw[ao ca];exact q)⟩
   |bx=>exact w
   |br d1=>obtain⟨b1,_⟩:=w;rw[hb j] at b1;cases b1
 ·have back:∀{j:Nat} {d1:D},(env.set i (Sl.ow d'))[j]? =some (.ow d1)->∃d2,env[j]? =some (.ow d2):=λ{j d1} q=>by
   by_cases z:j=i
   ·subst z;exact⟨d,e⟩
   ·rw[Iy (Ne.symm z)] at q;exact⟨d1,q⟩
  obtain⟨_,b1⟩:=back q1
  obtain⟨_,b2⟩:=back q2
  exact I.sep j k c _ _ b1 b2 q3 q4
end
inductive R (α:Type) where
 |ok (a:α) (β:Int)
 |exc (c:Str)
 |bad
def R.bnd {α γ:Type}(r:R α)(k:α->Int->R γ):R γ:=match r with
 | .ok a β=>k a β
 | .exc c=>.exc c
 | .bad=>.bad
def R.of {α:Type}(o:Option α)(β:Int):R α:=match o with
 |some a=>.ok a β
 |none=>.bad
abbrev VF (α:Type):=List Nv->Int->R α
def Kp (Γ:Fx)(H':Hp):Prop:=∀b o,Γ.H0 b=some o->b∉Γ.par->Kt H' b o
def Out {α:Type}(Γ:Fx)(E:XK)(r:R α)(P:α->Int->Prop):Prop:=match r with
 | .ok a β=>P a β
 | .exc c=>∀H',Kp Γ H'->E (.ref (Γ.ca c)) none H'
 | .bad=>False
section
variable {α γ:Type}{Γ:Fx}{E:XK}
theorem Out.bnd {r:R α}{k:α->Int->R γ}{P:γ->Int->Prop}(h:Out Γ E (r.bnd k) P):Out Γ E r λa β=>Out Γ E (k a β) P:=by
 cases r with
 |ok a β=>exact h
 |exc c=>exact h
 |bad=>exact h
theorem Out.imp {r:R α}{P P':α->Int->Prop}(h:Out Γ E r P)(i:∀a β,P a β->P' a β):Out Γ E r P':=by
 cases r with
 |ok a β=>exact i a β h
 |exc c=>exact h
 |bad=>exact h
theorem Out.of {o:Option α}{β:Int}{P:α->Int->Prop}(h:Out Γ E (R.of o β) P):∃a,o=some a/\P a β:=by
 cases o with
 |none=>exact h.elim
 |some a=>exact⟨a,rfl,h⟩
end
inductive Md where
 |b |v |w
def VO (K:Frag)(B:Option Addr)(H G' H':Hp):Md->D->V->Prop
 | .b,d,v=>jr K B G' H' v d
 | .v,d,v=>Rp K G' v d
 | .w,d,v=>∃a,v=.ref a/\H a=none/\G' a=none/\Own K G' H' a d
def pT (Γ:Fx)(E:XK)(f:VF D)(L:List Nat)(md:Md):TE:=λσ H Q=>∃env G B β,SR Γ B G H σ env β/\
 Out Γ E (f (vl env) β) λd β'=>∀v G' H',SR Γ B G' H' σ (aO L env) β'->ag G G'->fj B H H'->VO Γ.K B H G' H' md d v->Q v H'
def SE (X:Cx)(Γ:Fx)(E:XK)(e:Expr)(f:VF D)(L:List Nat)(md:Md):Prop:=PE X e (pT Γ E f L md)
def qT (Γ:Fx)(E:XK)(f:VF Bool)(L:List Nat):TT:=λσ H Q=>∃env G B β,SR Γ B G H σ env β/\
 Out Γ E (f (vl env) β) λc β'=>∀G' H',SR Γ B G' H' σ (aO L env) β'->ag G G'->fj B H H'->Q c H'
def yA (X:Cx)(Γ:Fx)(E:XK)(e:Expr)(f:VF Bool)(L:List Nat):Prop:=PT X e (qT Γ E f L)
def xG (X:Cx)(Γ:Fx)(E:XK)(e:Expr)(f:VF Bool)(L:List Nat):Prop:=PW X e (qT Γ E f L)
def aT (Γ:Fx)(E:XK)(f:VF (List D))(L:List Nat):TA:=λσ H Q=>∃env G B β,SR Γ B G H σ env β/\
 Out Γ E (f (vl env) β) λds β'=>∀vs G' H',SR Γ B G' H' σ (aO L env) β'->ag G G'->fj B H H'->bI Γ.K G' vs ds->Q vs H'
def SA (X:Cx)(Γ:Fx)(E:XK)(es:List Expr)(f:VF (List D))(L:List Nat):Prop:=PA X es (aT Γ E f L)
def PE.post' {X:Cx}{e:Expr}{t u:TE}(h:PE X e t)(m:∀σ H Q,u σ H Q->t σ H Q):PE X e u:=λpins s σ H Q I q=>h pins s σ H Q I (m σ H Q q)
def PT.post {X:Cx}{e:Expr}{t u:TT}(h:PT X e t)(m:∀σ H Q,u σ H Q->t σ H Q):PT X e u:=λpins s σ H Q I q=>h pins s σ H Q I (m σ H Q q)
def PW.post {X:Cx}{e:Expr}{t u:TT}(h:PW X e t)(m:∀σ H Q,u σ H Q->t σ H Q):PW X e u:=λwh pins s σ H Q I q=>h wh pins s σ H Q I (m σ H Q q)
def PA.post {X:Cx}{es:List Expr}{t u:TA}(h:PA X es t)(m:∀σ H Q,u σ H Q->t σ H Q):PA X es u:=λpos pins s σ H Q I q=>h pos pins s σ H Q I (m σ H Q q)
def PS.post {X:Cx}{st:Stmt}{t u:TS}(h:PS X st t)(m:∀D σ H,u D σ H->t D σ H):PS X st u:=λpins s σ H D I q=>h pins s σ H D I (m D σ H q)
def dat:Option Nv->Option D
 |some (.da d)=>some d
 |_=>none
def gv (i:Nat):VF D:=λvs β=>R.of (dat vs[i]?) β
def cst (d:D):VF D:=λ_ β=>.ok d β
section
variable {X:Cx}{Γ:Fx}{E:XK}{e a b c:Expr}{f fa fb fc:VF D}{L La Lb Lc:List Nat}{md ma mb mc:Md}{pos:Pos}
theorem join_some {o:Option Nv}{d:D}(h:dat o=some d):o=some (.da d):=by
 cases o with
 |none=>cases h
 |some o=>cases o with
  |da x=>cases h;rfl
  |_=>cases h
def SR.letIn {B:Option Addr}{G H:Hp}{σ:St}{env:En}{β:Int}(I:SR Γ B G H σ env β){p:Addr}{d:D}(h0:Γ.H0 p=none)(hg:G p=none)(hb:B≠some p)(hn:∀(j:Nat) (d':D),env[j]? =some (.ow d')->σ[j]?≠some (some (.ref p)))(h:Own Γ.K G H p d) :
  ∃G',SR Γ B G' H σ env β/\ag G G'/\Rp Γ.K G' (.ref p) d:=by
 obtain⟨o,ho⟩:=h.obj
 have sG:ag G (upd G p o):=ag.new hg
 refine⟨upd G p o,⟨λb u q=>?_,I.old.trans sG,λb n1 n2=>?_,I.keep,I.pin,I.fix,λb q=>?_,I.len,λj s q=>?_,I.sep⟩,sG,h.rp hg sG λo' q=>by rw[ho] at q;cases q;exact aq⟩
 ·by_cases z:b=p
  ·subst z;rw[aq] at q;cases q;exact Kt.of ho
  ·rw[ao z] at q;exact I.sub b u q
 ·rw[ao (λz=>n1.1 (by rw[z];exact h0))];exact I.new b n1 n2
 ·obtain⟨k1,k2,k3⟩:=I.box b q
  exact⟨k1,by rw[ao (λz=>hb (by rw[<-z];exact q))];exact k2,k3⟩
 ·have w:=I.slot j s q
  cases s with
  |no=>trivial
  |fz d'=>obtain⟨v,w1,w2⟩:=w;exact⟨v,w1,w2.mono sG⟩
  |ow d'=>
   obtain⟨c,w1,w2,w3,w4,w5⟩:=w
   have ca:c≠p:=λz2=>hn j d' q (by rw[<-z2];exact w1)
   exact⟨c,w1,w2,by rw[ao ca];exact w3,w4,w5.mono sG λo q=>Kt.of q⟩
  |bx=>exact w
  |br d'=>obtain⟨b1,c,w1,w4,wp,w5⟩:=w;exact⟨b1,c,w1,w4,wp,w5.mono sG λo q=>Kt.of q⟩
def vD {env:En}{i j:Nat}{d:D}(h:(fN env i)[j]? =some (.ow d)):env[j]? =some (.ow d):=by
 unfold fN at h
 split at h
 ·rename_i d' e
  by_cases z:i=j
  ·subst z
   rw[IA (Im.mp e).1] at h;cases h
  ·rw[Iy z] at h;exact h
 ·exact h
theorem pJ {L:List Nat}{env:En}{j:Nat}{d:D}(h:(aO L env)[j]? =some (.ow d)):env[j]? =some (.ow d):=by
 unfold aO at h
 induction L generalizing env with
 |nil=>exact h
 |cons i L ih=>exact vD (ih h)
def SR.letW {B:Option Addr}{G H G' H':Hp}{σ:St}{env:En}{β β':Int}{L:List Nat}{d:D}{v:V}(I:SR Γ B G H σ env β)(I':SR Γ B G' H' σ (L2.aO L env) β')(h:VO Γ.K B H G' H' .w d v):∃G2,SR Γ B G2 H' σ (L2.aO L env) β'/\ag G' G2/\Rp Γ.K G2 v d:=by
 obtain⟨p,rfl,h1,h2,h3⟩:=h
 obtain⟨q1,q2,q3,q4⟩:=I.fresh h1
 exact I'.letIn q1 h2 q3 (λj d' e=>q4 j d' (pJ e)) h3
def SE.wv (h:SE X Γ E e f L .w):SE X Γ E e f L .v:=by
 refine PE.post' h λσ H Q ⟨env,G,B,β,I,o⟩=>⟨env,G,B,β,I,o.imp λd β' k v G' H' I' s m vo=>?_⟩
 obtain⟨G2,I2,s2,r⟩:=I.letW I' vo
 exact k v G2 H' I2 (s.trans s2) m r
theorem VO.brw {B:Option Addr}{H G' H':Hp}{d:D}{v:V}{K:Frag}(h:VO K B H G' H' md d v)(hB:∀x,B=some x->H x≠none):jr K B G' H' v d:=by
 cases md with
 |b=>exact h
 |v=>exact .inl h
 |w=>
  obtain⟨p,rfl,h1,h2,h3⟩:=h
  exact .inr ⟨p,rfl,λz=>hB p z h1,h3⟩
def SR.boxThere {B:Option Addr}{G H:Hp}{σ:St}{env:En}{β:Int}(I:SR Γ B G H σ env β):∀x,B=some x->H x≠none:=λx e=>by rw[(I.box x e).1];simp
def ah (i:Nat){x:Str}(hN:X.N[i]? =some x:=by rfl)(hv:vX X.env.scope x:=by first |exact Or.inl rfl |exact Or.inr (Or.inl rfl) |exact Or.inr (Or.inr rfl))(hd:(x == ("__debug__":Str))=false:=by decide)
  (hcd:(x == ("__classdict__":Str))=false:=by decide):SE X Γ E (.Name x pos) (gv i) [] .b:=by
 refine PE.post' (iE hN hv hd hcd) λσ H Q ⟨env,G,B,β,I,o⟩=>?_
 obtain⟨d,e,k⟩:=o.of
 have e:=join_some e
 rcases BY e with q |q |q
 ·obtain⟨v,h1,h2⟩:=I.slot i _ q
  exact⟨v,h1,k v G H I (ag.refl _) (fj.refl _ _) (.inl h2)⟩
 ·obtain⟨p,h1,h2,h3,h4,h5⟩:=I.slot i _ q
  exact⟨.ref p,h1,k _ G H I (ag.refl _) (fj.refl _ _) (.inr ⟨p,rfl,h4,h5⟩)⟩
 ·obtain⟨_,p,h1,h4,_,h5⟩:=I.slot i _ q
  exact⟨.ref p,h1,k _ G H I (ag.refl _) (fj.refl _ _) (.inr ⟨p,rfl,h4,h5⟩)⟩
def aM (i:Nat)(hb:Γ.br i=false){x:Str}(hN:X.N[i]? =some x:=by rfl)(hv:vX X.env.scope x:=by first |exact Or.inl rfl |exact Or.inr (Or.inl rfl) |exact Or.inr (Or.inr rfl))(hd:(x == ("__debug__":Str))=false:=by decide)
  (hcd:(x == ("__classdict__":Str))=false:=by decide):SE X Γ E (.Name x pos) (gv i) [i] .v:=by
 refine PE.post' (iE hN hv hd hcd) λσ H Q ⟨env,G,B,β,I,o⟩=>?_
 obtain⟨d,e,k⟩:=o.of
 obtain⟨G',v,I',s,h1,h2⟩:=I.freeze i hb (join_some e)
 exact⟨v,h1,k v G' H I' s (fj.refl _ _) h2⟩
def yc {v:V}{d:D}(h:PE X e (tC v))(r:∀G,Rp Γ.K G v d):SE X Γ E e (cst d) [] .v:=by
 refine PE.post' h λσ H Q ⟨env,G,B,β,I,o⟩=>?_
 exact o v G H I (ag.refl _) (fj.refl _ _) (r G)
def ak {i:Int}{j}:SE X Γ E (.Constant (.int i) j pos) (cst (.int i)) [] .v:=yc mR λ_=>.int i
def hW {i:Bool}{j}:SE X Γ E (.Constant (.bool i) j pos) (cst (.bool i)) [] .v:=yc vg λ_=>.bl i
def Dy {j}:SE X Γ E (.Constant .none j pos) (cst .none) [] .v:=yc DJ λ_=>.non
def DM {x:Str}{j}:SE X Γ E (.Constant (.str x) j pos) (cst (.str x)) [] .v:=yc yi λ_=>.str x
def Bw {x:Str}{i:Int}{t:Tok}(hg:Gl X x)(hm:X.mg x=some (.int i t))(hd:(x == ("__debug__":Str))=false:=by decide):SE X Γ E (.Name x pos) (cst (.int i)) [] .v:=yc (A7 hg hm (show RelV (.int i) _ from⟨_,rfl⟩) hd) λ_=>.int i
def two {W:V->V->Hp->Prop}{B:Option Addr}{G H:Hp}{σ:St}{env:En}{β:Int}(I:SR Γ B G H σ env β)
  (h:Out Γ E (fa (vl env) β) λd1 β1=>Out Γ E (fb (vl env) β1) λd2 β2=>∀x y G2 H2,SR Γ B G2 H2 σ (aO (La ++ Lb) env) β2->ag G G2->fj B H H2->jr Γ.K B G2 H2 x d1->jr Γ.K B G2 H2 y d2->W x y H2) :
  pT Γ E fa La ma σ H λx H1=>pT Γ E fb Lb mb σ H1 λy H2=>W x y H2:=by
 refine⟨env,G,B,β,I,h.imp λd1 β1 h x G1 H1 I1 s1 m1 vx=>⟨aO La env,G1,B,β1,I1,?_⟩⟩
 rw[hJ]
 refine h.imp λd2 β2 k y G2 H2 I2 s2 m2 vy=>?_
 refine k x y G2 H2 (by rw[dk];exact I2) (s1.trans s2) (m1.trans m2) ((vx.brw I.boxThere).mono s2 m2) (vy.brw I1.boxThere)
def km (K:Frag)(r:R2)(g:D->D->Option D)(md:Md):Prop:=∀(B:Option Addr) (G H:Hp) (x y:V) (dx dy d:D) (Q:VK),ag G H->(∀x,B=some x->H x≠none)->jr K B G H x dx->jr K B G H y dy->g dx dy=some d->
 (∀v G' H',Ext G H G' H'->VO K B H G' H' md d v->Q v H')->r x y H Q
def f2 (fa fb:VF D)(g:D->D->Option D):VF D:=λvs β=>(fa vs β).bnd λx β1=>(fb vs β1).bnd λy β2=>R.of (g x y) β2
theorem fM {B:Option Addr}{H H2:Hp}(m:fj B H H2)(hB:∀x,B=some x->H2 x≠none){p:Addr}(h:H2 p=none):H p=none:=by
 cases e:H p with
 |none=>rfl
 |some o=>obtain⟨u,eu,_⟩:=(m.1 p o e λz=>hB p z h).some;rw[eu] at h;cases h
theorem VO.back {K:Frag}{B:Option Addr}{H H2 G' H':Hp}{d:D}{v:V}(h:VO K B H2 G' H' md d v)(m:fj B H H2)(hB:∀x,B=some x->H2 x≠none):VO K B H G' H' md d v:=by
 cases md with
 |b=>exact h
 |v=>exact h
 |w=>obtain⟨p,e,h1,h2,h3⟩:=h;exact⟨p,e,fM m hB h1,h2,h3⟩
def jF {r:R2}{g:D->D->Option D}{Q:VK}(pr:km Γ.K r g md){B:Option Addr}{G H:Hp}{σ:St}{env:En}{β:Int}(I:SR Γ B G H σ env β)
  (h:Out Γ E (f2 fa fb g (vl env) β) λd β'=>∀v G' H',SR Γ B G' H' σ (aO (La ++ Lb) env) β'->ag G G'->fj B H H'->VO Γ.K B H G' H' md d v->Q v H') :
  pT Γ E fa La ma σ H λx H1=>pT Γ E fb Lb mb σ H1 λy H2=>r x y H2 Q:=by
 refine two I (h.bnd.imp λd1 β1 h=>h.bnd.imp λd2 β2 h x y G2 H2 I2 s2 m2 bx by'=>?_)
 obtain⟨d,e,k⟩:=h.of
 refine pr B G2 H2 x y d1 d2 d Q I2.sub I2.boxThere bx by' e λv G' H' x' vo=>?_
 exact k v G' H' (I2.ext x') (s2.trans x'.gg) (m2.trans (x'.hh.mov B)) (vo.back m2 I2.boxThere)
def aS {op:Operator}{r:R2}{g:D->D->Option D}(ho:iZ X (binaryOp op) r)(pr:km Γ.K r g md)(ha:SE X Γ E a fa La ma)(hb:SE X Γ E b fb Lb mb):SE X Γ E (.BinOp a op b pos) (f2 fa fb g) (La ++ Lb) md:=
 PE.post' (rE ho ha hb) λσ H Q ⟨env,G,B,β,I,o⟩=>jF pr I o
def lU {op:CmpOp}{r:R2}{g:D->D->Option D}(ho:iZ X (compareOp op) r)(pr:km Γ.K r g md)(ha:SE X Γ E a fa La ma)(hb:SE X Γ E b fb Lb mb)(hm:behindInMarks op b=false):SE X Γ E (.Compare a [op] [b] pos) (f2 fa fb g) (La ++ Lb) md:=
 PE.post' (Bq ho ha hb hm) λσ H Q ⟨env,G,B,β,I,o⟩=>jF pr I o
def b4 {r:R2}{g:D->D->Option D}(hr:zV X r)(pr:km Γ.K r g md)(ha:SE X Γ E a fa La ma)(hb:SE X Γ E b fb Lb mb)(hs:vO b):SE X Γ E (.Subscript a b pos) (f2 fa fb g) (La ++ Lb) md:=
 PE.post' (i6 hr ha hb hs) λσ H Q ⟨env,G,B,β,I,o⟩=>jF pr I o
def xN (K:Frag)(r:V->Hp->VK->Prop)(g:D->Option D)(md:Md):Prop:=∀(B:Option Addr) (G H:Hp) (x:V) (dx d:D) (Q:VK),ag G H->(∀x,B=some x->H x≠none)->jr K B G H x dx->g dx=some d->
 (∀v G' H',Ext G H G' H'->VO K B H G' H' md d v->Q v H')->r x H Q
def f1 (fa:VF D)(g:D->Option D):VF D:=λvs β=>(fa vs β).bnd λx β1=>R.of (g x) β1
def gm {r:V->Hp->VK->Prop}{g:D->Option D}{Q:VK}(pr:xN Γ.K r g md){B:Option Addr}{G H:Hp}{σ:St}{env:En}{β:Int}(I:SR Γ B G H σ env β)
  (h:Out Γ E (f1 fa g (vl env) β) λd β'=>∀v G' H',SR Γ B G' H' σ (aO La env) β'->ag G G'->fj B H H'->VO Γ.K B H G' H' md d v->Q v H') :
  pT Γ E fa La ma σ H λx H1=>r x H1 Q:=by
 refine⟨env,G,B,β,I,h.bnd.imp λd1 β1 h x G1 H1 I1 s1 m1 vx=>?_⟩
 obtain⟨d,e,k⟩:=h.of
 refine pr B G1 H1 x d1 d Q I1.sub I1.boxThere (vx.brw I.boxThere) e λv G' H' x' vo=>?_
 exact k v G' H' (I1.ext x') (s1.trans x'.gg) (m1.trans (x'.hh.mov B)) (vo.back m1 I1.boxThere)
def Cd {op:UnaryOp}{r:V->Hp->VK->Prop}{g:D->Option D}(ho:FJ X (unaryOp op) r)(pr:xN Γ.K r g md)(ha:SE X Γ E a fa La ma):SE X Γ E (.UnaryOp op a pos) (f1 fa g) La md:=
 PE.post' (Ce ho ha) λσ H Q ⟨env,G,B,β,I,o⟩=>gm pr I o
def aU {id:String}{r:List V->Hp->VK->Prop}{g:D->Option D}{x:Str}{p:Pos}(hc:b9 X (.builtin id) r)(pr:xN Γ.K (λx=>r [x]) g md)(hg:Gl X x)(hm:X.mg x=none)(hv:bootBuiltins x=some (.builtin id))(ha:SE X Γ E a fa La ma)(hn:x≠"__name__":=by decide)(hdb:(x == ("__debug__":Str))=false:=by decide)
  (he:starEach [a] X.env=(false,eval a X.env) :: starEach [] X.env:=by rfl):SE X Γ E (.Call (.Name x p) [a] [] pos) (f1 fa g) La md:=
 PE.post' (iw hc hg hm hv (aI ha bh he) hn hdb he) λσ H Q ⟨env,G,B,β,I,o⟩=>gm (r:=λx=>r [x]) pr I o
def j4 {id:String}{r:List V->Hp->VK->Prop}{g:D->Option D}{x:Str}{p:Pos}(hc:b9 X (.type id) r)(pr:xN Γ.K (λx=>r [x]) g md)(hg:Gl X x)(hm:X.mg x=none)(hv:bootBuiltins x=some (.type id))(ha:SE X Γ E a fa La ma)(hn:x≠"__name__":=by decide)(hdb:(x == ("__debug__":Str))=false:=by decide)
  (he:starEach [a] X.env=(false,eval a X.env) :: starEach [] X.env:=by rfl):SE X Γ E (.Call (.Name x p) [a] [] pos) (f1 fa g) La md:=
 PE.post' (fS hc hg hm hv (aI ha bh he) hn hdb he) λσ H Q ⟨env,G,B,β,I,o⟩=>gm (r:=λx=>r [x]) pr I o
def qJ {id:String}{r:List V->Hp->VK->Prop}{g:D->D->Option D}{x:Str}{p:Pos}(hc:b9 X (.builtin id) r)(pr:km Γ.K (λx y=>r [x,y]) g md)(hg:Gl X x)(hm:X.mg x=none)(hv:bootBuiltins x=some (.builtin id))(ha:SE X Γ E a fa La ma)(hb:SE X Γ E b fb Lb mb)(hn:x≠"__name__":=by decide)(hdb:(x == ("__debug__":Str))=false:=by decide)
  (he:starEach [a,b] X.env=(false,eval a X.env) :: starEach [b] X.env:=by rfl) (he2:starEach [b] X.env=(false,eval b X.env) :: starEach [] X.env:=by rfl) (hpl:(backTo pos (starEach [b] X.env)).any (·.1)=false:=by rfl):SE X Γ E (.Call (.Name x p) [a,b] [] pos) (f2 fa fb g) (La ++ Lb) md:=
 PE.post' (iw hc hg hm hv (aI ha (aI hb bh he2) he) hn hdb he hpl) λσ H Q ⟨env,G,B,β,I,o⟩=>jF (r:=λx y=>r [x,y]) pr I o
def fH (fa fb:VF D):VF D:=λvs β=>(fa vs β).bnd λx β1=>match x with
 | .bool true=>fb vs β1
 | .bool false=>.ok (.bool false) β1
 |_=>.bad
def gG {op}(h:SE X Γ E a fa La md):SE X Γ E (.BoolOp op [a] pos) fa La md:=Dl h
theorem gL {rest:List Expr}(ha:SE X Γ E a fa La ma)(hb:SE X Γ E (.BoolOp .And (b :: rest) pos) fb Lb .v)(hbr:∀i,i∈Lb->Γ.br i=false):SE X Γ E (.BoolOp .And (a :: b :: rest) pos) (fH fa fb) (La ++ Lb) .v:=by
 refine PE.post' (DT ha hb) λσ H Q ⟨env,G,B,β,I,o⟩=>?_
 refine⟨env,G,B,β,I,o.bnd.imp λd1 β1 h x G1 H1 I1 s1 m1 vx=>?_⟩
 have bx:=vx.brw I.boxThere
 cases d1 with
 |bool c=>
  obtain rfl:=bx.bool
  refine⟨c,rfl,?_⟩
  cases c with
  |true=>exact rH ⟨_,G1,B,β1,I1,by rw[hJ];exact h.imp λd β' k v G' H' I' s' m' vo=>k v G' H' (by rw[dk];exact I') (s1.trans s') (m1.trans m') vo⟩
  |false=>
   obtain⟨G2,I2,s2⟩:=I1.aO Lb hbr
   exact qQ (h _ G2 H1 (by rw[dk];exact I2) (s1.trans s2) m1 (.bl false))
 |_=>exact h.elim
def xA:D->Option D
 | .bool c=>some (.bool (!c))
 |_=>none
theorem tE (ha:SE X Γ E a fa La ma):SE X Γ E (.UnaryOp .Not a pos) (f1 fa xA) La .v:=by
 refine PE.post' (C6 ha) λσ H Q ⟨env,G,B,β,I,o⟩=>?_
 refine gm (r:=λx H1 Q=>∃c,x=.bl c/\Q (.bl (!c)) H1) ?_ I o
 intro B G H x dx d Q s hB bx e k
 cases dx with
 |bool c=>
  obtain rfl:=bx.bool
  cases e
  exact⟨c,rfl,k _ G H (Ext.refl s) (.bl _)⟩
 |_=>cases e
def DN:D->Option Bool
 | .none=>some false
 | .bool b=>some b
 | .int i=>some (i != 0)
 | .str y=>if y.length<=sizeLine then some ((y.length:Int) != 0) else none
 | .list ds=>some (!ds.isEmpty)
 | .tuple ds=>some (!ds.isEmpty)
 | .dict _=>none
def qj (fa:VF D):VF Bool:=λvs β=>(fa vs β).bnd λx β1=>R.of (DN x) β1
def kY {K:Frag}{G:Hp}{xs:List V}{ds:List D}(r:bI K G xs ds):(!ds.isEmpty)= !xs.isEmpty:=by cases r <;> rfl
theorem fI (hK:X.K=Γ.K)(ha:SE X Γ E a fa La ma)(he:∀whole,isTrue a X.env whole=(do let v <-whole;standAt a.pos;holding [v] (truthy v)):=by intro _;rfl):yA X Γ E a (qj fa) La:=by
 refine PT.post (yy ha he) λσ H Q ⟨env,G,B,β,I,o⟩=>?_
 refine⟨env,G,B,β,I,o.bnd.imp λd1 β1 h x G1 H1 I1 s1 m1 vx=>?_⟩
 obtain⟨c,e,k⟩:=h.of
 have bx:=vx.brw I.boxThere
 refine⟨c,?_,k G1 H1 I1 s1 m1⟩
 rw[hK]
 cases d1 with
 |none=>obtain rfl:=bx.none;cases e;rfl
 |bool b=>obtain rfl:=bx.bool;cases e;rfl
 |int i=>obtain rfl:=bx.int;cases e;rfl
 |str y=>
  obtain rfl:=bx.str
  simp only[DN] at e
  split at e
  ·cases e;exact⟨by assumption,rfl⟩
  ·cases e
 |list ds=>obtain⟨p,xs,rfl,hq,r⟩:=bx.list I1.sub;cases e;exact .inl ⟨xs,.inl hq,kY r⟩
 |tuple ds=>obtain⟨p,xs,rfl,hq,r⟩:=bx.tuple I1.sub;cases e;exact .inr (.inl ⟨xs,hq,kY r⟩)
 |dict ds=>cases e
def fg (fa:VF D):VF Bool:=λvs β=>(fa vs β).bnd λx β1=>match x with
 | .bool c=>.ok c β1
 |_=>.bad
theorem cG {op:CmpOp}{r:R2}{g:D->D->Option D}(ho:iZ X (compareOp op) r)(pr:km Γ.K r g .v)(ha:SE X Γ E a fa La ma)(hb:SE X Γ E b fb Lb mb)(hm:behindInMarks op b=false):yA X Γ E (.Compare a [op] [b] pos) (fg (f2 fa fb g)) (La ++ Lb):=by
 refine PT.post (Af ho ha hb hm) λσ H Q ⟨env,G,B,β,I,o⟩=>?_
 refine jF pr I (o.bnd.imp λd β' h v G' H' I' s' m' vo=>?_)
 cases d with
 |bool c=>cases vo;exact⟨c,rfl,h G' H' I' s' m'⟩
 |_=>exact h.elim
def qk (t:VF Bool):VF Bool:=λvs β=>(t vs β).bnd λc β1=>.ok (!c) β1
def HN (t u:VF Bool):VF Bool:=λvs β=>(t vs β).bnd λc β1=>if c=true then u vs β1 else .ok false β1
def fZ (t u:VF Bool):VF Bool:=λvs β=>(t vs β).bnd λc β1=>if c=true then .ok true β1 else u vs β1
variable {ta tb tc:VF Bool}
def e8 (ha:yA X Γ E a ta La):yA X Γ E (.UnaryOp .Not a pos) (qk ta) La:=by
 refine PT.post (CP ha) λσ H Q ⟨env,G,B,β,I,o⟩=>?_
 exact⟨env,G,B,β,I,o.bnd.imp λc β1 h=>h⟩
def xG.t (h:xG X Γ E e ta La):yA X Γ E e ta La:=PW.pt h
def jB (ha:yA X Γ E a ta La):xG X Γ E (.BoolOp .Or [a] pos) ta La:=CA ha
theorem hV {rest:List Expr}(ha:yA X Γ E a ta La)(hb:xG X Γ E (.BoolOp .Or (b :: rest) pos) tb Lb)(hbr:∀i,i∈Lb->Γ.br i=false):xG X Γ E (.BoolOp .Or (a :: b :: rest) pos) (fZ ta tb) (La ++ Lb):=by
 refine PW.post (EY ha hb) λσ H Q ⟨env,G,B,β,I,o⟩=>?_
 refine⟨env,G,B,β,I,o.bnd.imp λc β1 h G1 H1 I1 s1 m1=>?_⟩
 cases c with
 |true=>
  obtain⟨G2,I2,s2⟩:=I1.aO Lb hbr
  exact rH (h G2 H1 (by rw[dk];exact I2) (s1.trans s2) m1)
 |false=>exact qQ ⟨_,G1,B,β1,I1,by rw[hJ];exact Out.imp h λd β' k G' H' I' s' m'=>k G' H' (by rw[dk];exact I') (s1.trans s') (m1.trans m')⟩
def HI (t:VF Bool)(fa fb:VF D):VF D:=λvs β=>(t vs β).bnd λc β1=>if c=true then fa vs β1 else fb vs β1
def af:VF (List D):=λ_ β=>.ok [] β
def ab (fa:VF D)(fr:VF (List D)):VF (List D):=λvs β=>(fa vs β).bnd λx β1=>(fr vs β1).bnd λxs β2=>.ok (x :: xs) β2
variable {fr:VF (List D)}{es:List Expr}
def au:SA X Γ E [] af []:=PA.post bh λσ H Q ⟨env,G,B,β,I,o⟩=>o [] G H I (ag.refl _) (fj.refl _ _) .nil
def ae (ha:SE X Γ E a fa La .v)(hr:SA X Γ E es fr Lb)(hs:starEach (a :: es) X.env=(false,eval a X.env) :: starEach es X.env:=by rfl):SA X Γ E (a :: es) (ab fa fr) (La ++ Lb):=by
 refine PA.post (aI ha hr hs) λσ H Q ⟨env,G,B,β,I,o⟩=>?_
 refine⟨env,G,B,β,I,o.bnd.imp λd1 β1 h x G1 H1 I1 s1 m1 vx=>⟨aO La env,G1,B,β1,I1,?_⟩⟩
 rw[hJ]
 refine h.bnd.imp λds β2 k xs G2 H2 I2 s2 m2 r=>?_
 exact k (x :: xs) G2 H2 (by rw[dk];exact I2) (s1.trans s2) (m1.trans m2) (.cons (vx.mono s2) r)
def az (fr:VF (List D)):VF D:=λvs β=>(fr vs β).bnd λds β1=>if ds.length<=sizeLine then .ok (.tuple ds) β1 else .bad
def bG (fr:VF (List D)):VF D:=λvs β=>(fr vs β).bnd λds β1=>if ds.length<=sizeLine then .ok (.list ds) β1 else .bad
def a9 {x1}(h:SA X Γ E es fr L):SE X Γ E (.Tuple es x1 pos) (az fr) L .v:=by
 refine PE.post' (tq h) λσ H Q ⟨env,G,B,β,I,o⟩=>?_
 refine⟨env,G,B,β,I,o.bnd.imp λds β1 k xs G1 H1 I1 s1 m1 r=>?_⟩
 by_cases hz:ds.length<=sizeLine
 ·rw[HV hz] at k
  refine⟨by rw[r.len];exact hz,λp hp=>?_⟩
  have x:=Ext.new I1.sub (o:=.tup xs) hp
  exact k _ _ _ (I1.ext x) (s1.trans x.gg) (m1.trans (x.hh.mov B)) (.tup (.inl (.inl aq)) (r.mono x.gg))
 ·rw[HY hz] at k;exact k.elim
def cS (h:SA X Γ E es fr L):SE X Γ E (.List es pos) (bG fr) L .w:=by
 refine PE.post' (yN h) λσ H Q ⟨env,G,B,β,I,o⟩=>?_
 refine⟨env,G,B,β,I,o.bnd.imp λds β1 k xs G1 H1 I1 s1 m1 r=>?_⟩
 by_cases hz:ds.length<=sizeLine
 ·rw[HV hz] at k
  refine⟨by rw[r.len];exact hz,λp hp=>?_⟩
  have x:=Ext.own I1.sub (o:=.lst xs) hp
  exact k _ _ _ (I1.ext x) s1 (m1.trans (x.hh.mov B)) ⟨p,rfl,fM m1 I1.boxThere hp,I1.sub.free hp,xs,aq,r⟩
 ·rw[HY hz] at k;exact k.elim
inductive FR where
 |ok (d:D) (fresh:Bool)
 |exc (c:Str)
 |bad
def FV (K:Frag)(H G' H':Hp)(fr:Bool)(d:D)(v:V):Prop:=if fr=true then ∃a,v=.ref a/\H a=none/\G' a=none/\Own K G' H' a d else Rp K G' v d
def z6 (K:Frag)(ca:Str->Addr)(n:Nat)(F:List D->FR):Sp:=λvs H Q E=>∃G ds,ag G H/\ds.length=n/\bI K G vs ds/\match F ds with
 | .ok d fr=>∀v G' H',ag H H'->ag G G'->ag G' H'->(∀b,Mx H b->G b=none->G' b=none)->FV K H G' H' fr d v->Q v H'
 | .exc c=>∀H',ag H H'->E (.ref (ca c)) none H'
 | .bad=>False
structure gM (P:Program)(w:World)(K:Frag)(mg:Str->Option Value)(base:Heap)(ca:Str->Addr)(x:Str)(ps:List Str)(k:Nat)(F:List D->FR):Prop where
 ex:∃f fd,mg x=some (.ref f)/\PySem.W.keepIn K (.ref f)=true/\Binds K fd ps []/\dw P w K mg base (o5 P w) k f fd ps (z6 K ca ps.length F)
 len:∀ds,F ds≠.bad->ds.length=ps.length
def aL (F:List D->FR)(fr:VF (List D)):VF D:=λvs β=>(fr vs β).bnd λds β1=>match F ds with
 | .ok d _=>.ok d β1
 | .exc c=>.exc c
 | .bad=>.bad
def rm (F:List D->FR)(fr:VF (List D)):VF D:=λvs β=>(fr vs β).bnd λds β1=>match F ds with
 | .ok d true=>.ok d β1
 | .ok _ false=>.bad
 | .exc c=>.exc c
 | .bad=>.bad
def SR.called {B:Option Addr}{G1 H1 G2 H2:Hp}{σ:St}{env:En}{β:Int}(I1:SR Γ B G1 H1 σ env β)(h:ag H1 H2)(g:ag G1 G2)(s:ag G2 H2)(n:∀b,Mx H1 b->G1 b=none->G2 b=none):SR Γ B G2 H2 σ env β/\fj B H1 H2:=by
 refine⟨⟨s,I1.old.trans g,λb n1 n2=>?_,λb o e np=>(I1.keep b o e np).step h,λb hb=>?_,I1.fix,λb e=>?_,I1.len,λi t e=>?_,I1.sep⟩,h.mov B⟩
 ·exact n b (I1.thereM n1) (I1.new b n1 n2)
 ·exact (I1.pin b hb).same λo e=>h b o e
 ·obtain⟨h1,h2,h3⟩:=I1.box b e
  exact⟨h b _ h1,n b (Mx.lst h1) h2,h3⟩
 ·have q:=I1.slot i t e
  cases t with
  |no=>trivial
  |fz d=>obtain⟨v,h1,h2⟩:=q;exact⟨v,h1,h2.mono g⟩
  |ow d=>
   obtain⟨p,h1,h2,h3,h4,h5⟩:=q
   exact⟨p,h1,h2,n p h5.mx h3,h4,h5.mono g λo q=>h p o q⟩
  |bx=>exact q
  |br d=>obtain⟨b1,p,h1,h4,hp,h5⟩:=q;exact⟨b1,p,h1,h4,hp,h5.mono g λo q=>h p o q⟩
def SR.kp {B:Option Addr}{G H H':Hp}{σ:St}{env:En}{β:Int}(I:SR Γ B G H σ env β)(h:ag H H'):Kp Γ H':=λb o e n=>(I.keep b o e n).step h
theorem n5 {F:List D->FR}{ps:List Str}{Q:VK}{B:Option Addr}{G H:Hp}{σ:St}{env:En}{β:Int}(I:SR Γ B G H σ env β)(hK:X.K=Γ.K){wv:Bool}
  (h:Out Γ E (if wv=true then rm F fr (vl env) β else aL F fr (vl env) β) λd β'=>∀v G' H',SR Γ B G' H' σ (aO L env) β'->ag G G'->fj B H H'->VO Γ.K B H G' H' (if wv=true then .w else .v) d v->Q v H') (hl:∀ds,F ds≠.bad->ds.length=ps.length) :
  aT Γ E fr L σ H λvs H1=>z6 X.K Γ.ca ps.length F vs H1 Q E:=by
 refine⟨env,G,B,β,I,?_⟩
 have h:Out Γ E (fr (vl env) β) λds β1=>Out Γ E (match F ds with
   | .ok d true=>.ok d β1
   | .ok d false=>if wv=true then .bad else .ok d β1
   | .exc c=>.exc c
   | .bad=>.bad) λd β'=>∀v G' H',SR Γ B G' H' σ (aO L env) β'->ag G G'->fj B H H'->VO Γ.K B H G' H' (if wv=true then .w else .v) d v->Q v H':=by
  cases wv with
  |true=>
   simp only[Js] at h ⊢
   refine h.bnd.imp λds β1 h=>?_
   cases q:F ds with
   |ok d b=>rw[q] at h;cases b <;> exact h
   |exc c=>rw[q] at h;exact h
   |bad=>rw[q] at h;exact h
  |false=>
   simp only[Iw,IZ] at h ⊢
   refine h.bnd.imp λds β1 h=>?_
   cases q:F ds with
   |ok d b=>rw[q] at h;cases b <;> exact h
   |exc c=>rw[q] at h;exact h
   |bad=>rw[q] at h;exact h
 refine h.imp λds β1 k vs G1 H1 I1 s1 m1 r=>?_
 refine⟨G1,ds,I1.sub,?_,by rw[hK];exact r,?_⟩
 ·exact hl ds λz=>by rw[z] at k;exact k
 cases q:F ds with
 |bad=>rw[q] at k;exact k
 |exc c=>rw[q] at k;exact λH' s=>k H' (I1.kp s)
 |ok d b=>
  rw[q] at k
  intro v G' H' hh hg hs hn fv
  obtain⟨I2,m2⟩:=I1.called hh hg hs hn
  cases b with
  |true=>
   obtain⟨p,rfl,p1,p2,p3⟩:∃a,v=.ref a/\H1 a=none/\G' a=none/\Own X.K G' H' a d:=fv
   rw[hK] at p3
   have hp:=fM m1 I1.boxThere p1
   cases wv with
   |true=>exact k _ G' H' I2 (s1.trans hg) (m1.trans m2) ⟨p,rfl,hp,p2,p3⟩
   |false=>
    obtain⟨q1,q2,q3,q4⟩:=I1.fresh p1
    obtain⟨G3,I3,s3,r3⟩:=I2.letIn q1 p2 q3 q4 p3
    exact k _ G3 H' I3 ((s1.trans hg).trans s3) (m1.trans m2) r3
  |false=>
   cases wv with
   |true=>exact k.elim
   |false=>
    have fv:Rp X.K G' v d:=fv
    rw[hK] at fv
    exact k _ G' H' I2 (s1.trans hg) (m1.trans m2) fv
def bu {x:Str}{ps:List Str}{k:Nat}{F:List D->FR}{p:Pos}(hf:gM X.prog X.w X.K X.mg X.base Γ.ca x ps k F)(hr:dD k X.A)(hx:Passes (o5 X.prog X.w) X E)(hK:X.K=Γ.K)(hg:Gl X x)(ha:SA X Γ E (a :: es) fr L)(hdb:(x == ("__debug__":Str))=false:=by decide)
  (he:starEach (a :: es) X.env=(false,eval a X.env) :: starEach es X.env:=by rfl) (hpl:(backTo pos (starEach es X.env)).any (·.1)=false:=by rfl):SE X Γ E (.Call (.Name x p) (a :: es) [] pos) (aL F fr) L .v:=by
 obtain⟨f,fd,hm,hk,hb,hF⟩:=hf.ex
 refine PE.post' (lJ (dvs:=[]) hF hr hg hm hk hb .nil hx ha hdb he hpl) λσ H Q ⟨env,G,B,β,I,o⟩=>?_
 show aT Γ E fr L σ H λvs H1=>z6 X.K Γ.ca ps.length F (vs ++ []) H1 Q E
 have:=n5 (Q:=Q) (wv:=false) (ps:=ps) I hK o hf.len
 simpa using this
def zr {x:Str}{ps:List Str}{k:Nat}{F:List D->FR}{p:Pos}(hf:gM X.prog X.w X.K X.mg X.base Γ.ca x ps k F)(hr:dD k X.A)(hx:Passes (o5 X.prog X.w) X E)(hK:X.K=Γ.K)(hg:Gl X x)(ha:SA X Γ E (a :: es) fr L)(hdb:(x == ("__debug__":Str))=false:=by decide)
  (he:starEach (a :: es) X.env=(false,eval a X.env) :: starEach es X.env:=by rfl) (hpl:(backTo pos (starEach es X.env)).any (·.1)=false:=by rfl):SE X Γ E (.Call (.Name x p) (a :: es) [] pos) (rm F fr) L .w:=by
 obtain⟨f,fd,hm,hk,hb,hF⟩:=hf.ex
 refine PE.post' (lJ (dvs:=[]) hF hr hg hm hk hb .nil hx ha hdb he hpl) λσ H Q ⟨env,G,B,β,I,o⟩=>?_
 show aT Γ E fr L σ H λvs H1=>z6 X.K Γ.ca ps.length F (vs ++ []) H1 Q E
 have:=n5 (Q:=Q) (wv:=true) (ps:=ps) I hK o hf.len
 simpa using this
end
inductive SO where
 |nx (env:En) (β:Int)
 |bk (env:En) (β:Int)
 |ct (env:En) (β:Int)
 |rt (d:D) (fr:Bool) (β:Int)
 |exc (c:Str)
 |bad
abbrev SF:=En->Int->SO
def RV (Γ:Fx)(G' H':Hp)(fr:Bool)(d:D)(v:V):Prop:=if fr=true then ∃a,v=.ref a/\Γ.H0 a=none/\G' a=none/\Own Γ.K G' H' a d else Rp Γ.K G' v d
def nP (Γ:Fx)(E:XK)(G:Hp)(N:Ends):SO->Prop
 | .nx env β=>∀B G' H' σ,SR Γ B G' H' σ env β->ag G G'->N.nx σ H'
 | .bk env β=>∀B G' H' σ,SR Γ B G' H' σ env β->ag G G'->N.bk σ H'
 | .ct env β=>∀B G' H' σ,SR Γ B G' H' σ env β->ag G G'->N.ct σ H'
 | .rt d fr β=>∀B G' H' σ env v,SR Γ B G' H' σ env β->ag G G'->RV Γ G' H' fr d v->N.rt v H'
 | .exc c=>∀H',Kp Γ H'->E (.ref (Γ.ca c)) none H'
 | .bad=>False
def sT (Γ:Fx)(E:XK)(m:SF):TS:=λN σ H=>∃env G B β,SR Γ B G H σ env β/\nP Γ E G N (m env β)
def SS (X:Cx)(Γ:Fx)(E:XK)(st:Stmt)(m:SF):Prop:=PS X st (sT Γ E m)
def z9 (X:Cx)(Γ:Fx)(E:XK)(st:List Stmt)(m:SF):Prop:=ou X st (sT Γ E m)
def ou.post {X:Cx}{st:List Stmt}{t u:TS}(h:ou X st t)(m:∀D σ H,u D σ H->t D σ H):ou X st u:=λpins s σ H D I q=>h pins s σ H D I (m D σ H q)
def aF (m m':SF):SF:=λenv β=>match m env β with
 | .nx env' β'=>m' env' β'
 |r=>r
def n0:SF:=λenv β=>.nx env β
section
variable {X:Cx}{Γ:Fx}{E:XK}{e a b c:Expr}{f fa fb:VF D}{L La Lb:List Nat}{md ma mb:Md}{pos:Pos}{st:Stmt}{sts:List Stmt}{m m':SF}{ta:VF Bool}
theorem nP.weak {G G1:Hp}{N:Ends}{r:SO}(h:nP Γ E G N r)(s:ag G G1):nP Γ E G1 N r:=by
 cases r with
 |nx env β=>exact λB G' H' σ I s'=>h B G' H' σ I (s.trans s')
 |bk env β=>exact λB G' H' σ I s'=>h B G' H' σ I (s.trans s')
 |ct env β=>exact λB G' H' σ I s'=>h B G' H' σ I (s.trans s')
 |rt d fr β=>exact λB G' H' σ env v I s'=>h B G' H' σ env v I (s.trans s')
 |exc c=>exact h
 |bad=>exact h
def dC:z9 X Γ E [] n0:=ou.post vR λN σ H ⟨env,G,B,β,I,o⟩=>o B G H σ I (ag.refl _)
theorem aw (h:SS X Γ E st m)(h':z9 X Γ E sts m'):z9 X Γ E (st :: sts) (aF m m'):=by
 refine ou.post (eT h h') λN σ H ⟨env,G,B,β,I,o⟩=>?_
 refine⟨env,G,B,β,I,?_⟩
 unfold aF at o
 cases q:m env β with
 |nx env' β'=>rw[q] at o;exact λB' G' H' σ' I' s'=>⟨env',G',B',β',I',o.weak s'⟩
 |bk env' β'=>rw[q] at o;exact o
 |ct env' β'=>rw[q] at o;exact o
 |rt d fr β'=>rw[q] at o;exact o
 |exc c=>rw[q] at o;exact o
 |bad=>rw[q] at o;exact o
def aB (h:SS X Γ E st m):z9 X Γ E [st] m:=fw h
def toS {α:Type}(r:R α)(k:α->Int->SO):SO:=match r with
 | .ok x β=>k x β
 | .exc c=>.exc c
 | .bad=>.bad
theorem cQ {α:Type}{G:Hp}{N:Ends}{r:R α}{k:α->Int->SO}{P:α->Int->Prop}(h:nP Γ E G N (toS r k))(i:∀x β,nP Γ E G N (k x β)->P x β):Out Γ E r P:=by
 cases r with
 |ok x β=>exact i x β h
 |exc c=>exact h
 |bad=>exact h
def SR.set' {B:Option Addr}{G H:Hp}{σ:St}{env:En}{β:Int}(I:SR Γ B G H σ env β)(i:Nat){v:V}{d:D}(h:Rp Γ.K G v d):SR Γ B G H (σ.set i (some v)) (env.set i (.fz d)) β:=by
 by_cases hi:i < env.length
 ·exact I.set hi h
 ·have h1:env.set i (.fz d)=env:=J1 (by omega)
  have h2:σ.set i (some v)=σ:=J1 (by rw[I.len];omega)
  rw[h1,h2];exact I
def SR.setOw' {B:Option Addr}{G H:Hp}{σ:St}{env:En}{β:Int}(I:SR Γ B G H σ env β)(i:Nat){a:Addr}{d:D}(h0:Γ.H0 a=none)(hg:G a=none)(hb:B≠some a)(h:Own Γ.K G H a d)(hn:∀(j:Nat) (d':D),env[j]? =some (.ow d')->σ[j]?≠some (some (.ref a))):SR Γ B G H (σ.set i (some (.ref a))) (env.set i (.ow d)) β:=by
 by_cases hi:i < env.length
 ·exact I.setOw hi h0 hg hb h λj d' e _=>hn j d' e
 ·have h1:env.set i (.ow d)=env:=J1 (by omega)
  have h2:σ.set i (some (.ref a))=σ:=J1 (by rw[I.len];omega)
  rw[h1,h2];exact I
def bJ (i:Nat)(L:List Nat)(f:VF D):SF:=λenv β=>toS (f (vl env) β) λd β'=>.nx ((aO L env).set i (.fz d)) β'
def a7 {i:Nat}{x:Str}{pos':Pos}(he:SE X Γ E e f L .v)(hN:X.N.Nodup)(hi:X.N[i]? =some x:=by rfl)(hx:Loc X.env.scope x:=by first |exact Or.inl rfl |exact Or.inr rfl)(hs:swapsWith e (some (.Name x pos')) pos.line X.env=pure false:=by rfl)(hf:X.fn x=true\/X.env.scope.names.lookup x=some .local:=by first |exact .inl rfl |exact .inr rfl |assumption) :
  SS X Γ E (.Assign [.Name x pos'] e pos) (bJ i L f):=by
 refine PS.post (nj hN hi hx he hs hf) λN σ H ⟨env,G,B,β,I,o⟩=>?_
 refine⟨env,G,B,β,I,cQ o λd β' k v G' H' I' s' m' vo=>?_⟩
 exact k B G' H' _ (I'.set' i vo) s'
def j8 (i:Nat)(L:List Nat)(f:VF D):SF:=λenv β=>toS (f (vl env) β) λd β'=>.nx ((aO L env).set i (.ow d)) β'
def kl {i:Nat}{x:Str}{pos':Pos}(he:SE X Γ E e f L .w)(hN:X.N.Nodup)(hi:X.N[i]? =some x:=by rfl)(hx:Loc X.env.scope x:=by first |exact Or.inl rfl |exact Or.inr rfl)(hs:swapsWith e (some (.Name x pos')) pos.line X.env=pure false:=by rfl)(hf:X.fn x=true\/X.env.scope.names.lookup x=some .local:=by first |exact .inl rfl |exact .inr rfl |assumption) :
  SS X Γ E (.Assign [.Name x pos'] e pos) (j8 i L f):=by
 refine PS.post (nj hN hi hx he hs hf) λN σ H ⟨env,G,B,β,I,o⟩=>?_
 refine⟨env,G,B,β,I,cQ o λd β' k v G' H' I' s' m' vo=>?_⟩
 obtain⟨p,rfl,h1,h2,h3⟩:=vo
 obtain⟨q1,q2,q3,q4⟩:=I.fresh h1
 exact k B G' H' _ (I'.setOw' i q1 h2 q3 h3 λj d' z=>q4 j d' (pJ z)) s'
def Ef (L:List Nat)(f:VF D):SF:=λenv β=>toS (f (vl env) β) λ_ β'=>.nx (aO L env) β'
def bQ (f:VF D):SF:=λenv β=>toS (f (vl env) β) λd β'=>.rt d false β'
def aW (he:SE X Γ E e f L .v):SS X Γ E (.Return (some e) pos) (bQ f):=by
 refine PS.post (kN he) λN σ H ⟨env,G,B,β,I,o⟩=>?_
 exact⟨env,G,B,β,I,cQ o λd β' k v G' H' I' s' m' vo=>k B G' H' σ _ v I' s' vo⟩
def qX (f:VF D):SF:=λenv β=>toS (f (vl env) β) λd β'=>.rt d true β'
def o4 (he:SE X Γ E e f L .w):SS X Γ E (.Return (some e) pos) (qX f):=by
 refine PS.post (kN he) λN σ H ⟨env,G,B,β,I,o⟩=>?_
 refine⟨env,G,B,β,I,cQ o λd β' k v G' H' I' s' m' vo=>?_⟩
 obtain⟨p,rfl,h1,h2,h3⟩:=vo
 obtain⟨q1,_⟩:=I.fresh h1
 exact k B G' H' σ _ _ I' s' ⟨p,rfl,q1,h2,h3⟩
def zS (i:Nat):SF:=λenv β=>match env[i]? with
 |some (.fz d)=>.rt d false β
 |some (.ow d)=>.rt d true β
 |_=>.bad
theorem A8 (i:Nat){x:Str}{p:Pos}(hN:X.N[i]? =some x:=by rfl)(hv:vX X.env.scope x:=by first |exact Or.inl rfl |exact Or.inr (Or.inl rfl) |exact Or.inr (Or.inr rfl))(hd:(x == ("__debug__":Str))=false:=by decide)
  (hcd:(x == ("__classdict__":Str))=false:=by decide):SS X Γ E (.Return (some (.Name x p)) pos) (zS i):=by
 refine PS.post (kN (iE hN hv hd hcd)) λN σ H ⟨env,G,B,β,I,o⟩=>?_
 unfold zS at o
 cases q:env[i]? with
 |none=>rw[q] at o;exact o.elim
 |some s=>
  rw[q] at o
  cases s with
  |no=>exact o.elim
  |bx=>exact o.elim
  |br d=>exact o.elim
  |fz d=>
   obtain⟨v,h1,h2⟩:=I.slot i _ q
   exact⟨v,h1,o B G H σ env v I (ag.refl _) h2⟩
  |ow d=>
   obtain⟨p,h1,h2,h3,h4,h5⟩:=I.slot i _ q
   exact⟨_,h1,o B G H σ env _ I (ag.refl _) ⟨p,rfl,h2,h3,h5⟩⟩
def kZ (L:List Nat)(t:VF Bool)(m m':SF):SF:=λenv β=>toS (t (vl env) β) λc β'=>if c=true then m (aO L env) β' else m' (aO L env) β'
theorem gZ {x y:List Stmt}(hc:yA X Γ E c ta L)(ha:z9 X Γ E x m)(hb:z9 X Γ E y m'):SS X Γ E (.If c x y pos) (kZ L ta m m'):=by
 refine PS.post (Cj hc ha hb) λN σ H ⟨env,G,B,β,I,o⟩=>?_
 refine⟨env,G,B,β,I,cQ o λd β' k G' H' I' s' m'=>?_⟩
 cases d with
 |true=>exact rH ⟨_,G',B,β',I',nP.weak k s'⟩
 |false=>exact qQ ⟨_,G',B,β',I',nP.weak k s'⟩
def fX (L:List Nat)(t:VF Bool)(m:SF):Nat->SF
 | 0=>λ_ _=>.bad
 |n + 1=>λenv β=>toS (t (vl env) β) λc β'=>if c=true then (match m (aO L env) β' with
   | .nx env2 β2=>fX L t m n env2 β2
   | .ct env2 β2=>fX L t m n env2 β2
   | .bk env2 β2=>.nx env2 β2
   |r=>r) else .nx (aO L env) β'
theorem rg {x:List Stmt}(n:Nat)(hp:PassesOwn (model X.prog X.w) X.A X.env X.xe)(hc:yA X Γ E c ta L)(hb:z9 X Γ E x m):SS X Γ E (.While c x [] pos) (fX L ta m n):=by
 refine PS.post (zy hp hc hb) λN σ H ⟨env,G,B,β,I,o⟩=>?_
 refine⟨λk σ H=>∃env G1 B β,SR Γ B G1 H σ env β/\ag G G1/\nP Γ E G1 N (fX L ta m k env β),⟨n,env,G,B,β,I,ag.refl _,o⟩,?_⟩
 rintro k σ H ⟨env,G1,B,β,I,sG,o⟩
 cases k with
 |zero=>exact o.elim
 |succ k=>
  refine⟨env,G1,B,β,I,cQ o λd β' q G' H' I' s' m'=>?_⟩
  cases d with
  |false=>exact qQ (q B G' H' σ I' s')
  |true=>
   refine rH ⟨λσ H=>∃env G1 B β,SR Γ B G1 H σ env β/\ag G G1/\nP Γ E G1 N (fX L ta m k env β),λσ' H' h=>⟨k,Nat.lt_succ_self k,h⟩,aO L env,G',B,β',I',?_⟩
   rw[HV rfl] at q
   cases r:m (aO L env) β' with
   |nx env2 β2=>rw[r] at q;exact λB2 G2 H2 σ2 I2 s2=>⟨env2,G2,B2,β2,I2,(sG.trans s').trans s2,nP.weak q (s'.trans s2)⟩
   |ct env2 β2=>rw[r] at q;exact λB2 G2 H2 σ2 I2 s2=>⟨env2,G2,B2,β2,I2,(sG.trans s').trans s2,nP.weak q (s'.trans s2)⟩
   |bk env2 β2=>rw[r] at q;exact λB2 G2 H2 σ2 I2 s2=>q B2 G2 H2 σ2 I2 (s'.trans s2)
   |rt d fr β2=>rw[r] at q;exact nP.weak q s'
   |exc c=>rw[r] at q;exact q
   |bad=>rw[r] at q;exact q
def Walk (K:Frag)(B:Option Addr)(G H1:Hp)(ds:List D)(J:It):Prop:=∀Gc H (i:Nat),ag G Gc->ag Gc H->fj B H1 H->
 (i < ds.length->J.go i H/\∀x H',J.yld i H x H'->∃G' d,Ext Gc H G' H'/\ds[i]? =some d/\Rp K G' x d)/\(ds.length<=i->J.stop i H)
def iT (Γ:Fx)(E:XK)(f:VF (List D))(L:List Nat)(md:Md):TI:=λσ H Rr=>∃env G B β,SR Γ B G H σ env β/\
 Out Γ E (f (vl env) β) λds β'=>∀J G' H',SR Γ B G' H' σ (aO L env) β'->ag G G'->fj B H H'->Walk Γ.K B G' (match md with | .b=>H' |_=>λ_=>none) ds J->Rr J H'
def SI (X:Cx)(Γ:Fx)(E:XK)(tg e:Expr)(f:VF (List D))(L:List Nat)(md:Md):Prop:=PI X tg e (iT Γ E f L md)
def PI.post {X:Cx}{tg e:Expr}{t u:TI}(h:PI X tg e t)(m:∀σ H Q,u σ H Q->t σ H Q):PI X tg e u:=λpins s σ H Q I q=>h pins s σ H Q I (m σ H Q q)
variable {tg:Expr}
def kh:D->Option (List D)
 | .list ds=>some ds
 | .tuple ds=>some ds
 |_=>none
def eY (fa:VF D):VF (List D):=λvs β=>(fa vs β).bnd λx β1=>R.of (kh x) β1
end
def HE (K:Frag)(tl:TE):TI:=λσ H R=>tl σ H λx H1=>∃a xs,x=.ref a/\((fC K H1 a xs/\R (wd K a) H1)\/(dA K H1 a xs/\R (B4 K a) H1))
section
variable {X:Cx}{tg l:Expr}{tl:TE}
def Cc (hl:PE X l tl):PI X tg l (HE X.K tl):=by
 intro pins s σ H R I h
 refine bP (hl pins s σ H _ I h) λv s1 ⟨x,H1,I1,r1,q1⟩=>?_
 obtain⟨a,xs,e,q⟩:=q1
 subst e
 cases r1
 rcases q with⟨hq,q⟩ | ⟨hq,q⟩
 ·obtain⟨its,rv,p,hz⟩:=I1.list hq
  refine KH p.isList ?_
  refine⟨s1.heap.objs.size,[s1.heap.objs.size],_,_,H1,rfl,I1.kept (t':=s1.toks) λb o e=>Ia _ e,kR a _,⟨_,IB _ rfl,rfl,rfl⟩,λb hb=>?_,q⟩
  have e:b=s1.heap.objs.size:=by simpa using hb
  subst e
  exact I1.fpOk (HX _) (I1.hok.fresh (HX _))
 ·obtain⟨its,rv,p,hz⟩:=I1.tuple hq
  refine K6 (show s1.heap.IsTuple a its.toArray from p) ?_
  refine⟨s1.heap.objs.size,[s1.heap.objs.size],_,_,H1,rfl,I1.kept (t':=s1.toks) λb o e=>Ia _ e,lX a _,⟨_,IB _ rfl,rfl,rfl⟩,λb hb=>?_,q⟩
  have e:b=s1.heap.objs.size:=by simpa using hb
  subst e
  exact I1.fpOk (HX _) (I1.hok.fresh (HX _))
end
section
variable {X:Cx}{Γ:Fx}{E:XK}{e a b c:Expr}{f fa fb:VF D}{L La Lb:List Nat}{md ma mb:Md}{pos:Pos}{st:Stmt}{sts:List Stmt}{m m':SF}{ta:VF Bool}{tg:Expr}
def kF {K:Frag}{B:Option Addr}{G H1:Hp}{p:Addr}{xs:List V}{ds:List D}(h:∀Gc H,ag G Gc->ag Gc H->fj B H1 H->fC K H p xs)(r:bI K G xs ds):Walk K B G H1 ds (wd K p):=λGc H i s1 s2 m=>by
 have hq:=h Gc H s1 s2 m
 refine⟨λhi=>⟨?_,λx H' y=>?_⟩,λhi=>⟨xs,hq,by rw[r.len];exact hi⟩⟩
 ·have hi':i < xs.length:=by rw[r.len];exact hi
  exact⟨xs,xs[i],hq,by simp[hi']⟩
 ·obtain⟨rfl,y⟩:=y
  obtain⟨d,e,q⟩:=r.at' (y xs hq)
  exact⟨Gc,d,Ext.refl s2,e,q.mono s1⟩
def qm {K:Frag}{B:Option Addr}{G H1:Hp}{p:Addr}{xs:List V}{ds:List D}(h:∀Gc H,ag G Gc->ag Gc H->fj B H1 H->dA K H p xs)(r:bI K G xs ds):Walk K B G H1 ds (B4 K p):=λGc H i s1 s2 m=>by
 have hq:=h Gc H s1 s2 m
 refine⟨λhi=>⟨?_,λx H' y=>?_⟩,λhi=>⟨xs,hq,by rw[r.len];exact hi⟩⟩
 ·have hi':i < xs.length:=by rw[r.len];exact hi
  exact⟨xs,xs[i],hq,by simp[hi']⟩
 ·obtain⟨rfl,y⟩:=y
  obtain⟨d,e,q⟩:=r.at' (y xs hq)
  exact⟨Gc,d,Ext.refl s2,e,q.mono s1⟩
theorem Dx (hK:X.K=Γ.K)(ha:SE X Γ E a fa La .v):SI X Γ E tg a (eY fa) La .v:=by
 refine PI.post (Cc ha) λσ H Q ⟨env,G,B,β,I,o⟩=>?_
 refine⟨env,G,B,β,I,o.bnd.imp λd1 β1 h x G1 H1 I1 s1 m1 vx=>?_⟩
 obtain⟨ds,e,k⟩:=h.of
 rw[hK]
 have vx:Rp Γ.K G1 x d1:=vx
 cases d1 with
 |list l=>
  cases e
  cases vx with
  | @lst p xs _ hq r=>exact⟨p,xs,rfl,.inl ⟨.inl (Rd.mono (.inl hq) I1.sub),k _ G1 H1 I1 s1 m1 (kF (λGc H t1 t2 _=>.inl (Rd.mono (.inl hq) (t1.trans t2))) r)⟩⟩
 |tuple l=>
  cases e
  cases vx with
  | @tup p xs _ hq r=>exact⟨p,xs,rfl,.inr ⟨hq.grow I1.sub.grow,k _ G1 H1 I1 s1 m1 (qm (λGc H t1 t2 _=>hq.grow (t1.trans t2).grow) r)⟩⟩
 |_=>cases e
theorem As (hK:X.K=Γ.K)(ha:SE X Γ E a fa La ma):SI X Γ E tg a (eY fa) La .b:=by
 refine PI.post (Cc ha) λσ H Q ⟨env,G,B,β,I,o⟩=>?_
 refine⟨env,G,B,β,I,o.bnd.imp λd1 β1 h x G1 H1 I1 s1 m1 vx=>?_⟩
 obtain⟨ds,e,k⟩:=h.of
 rw[hK]
 have vx:=vx.brw I.boxThere
 cases d1 with
 |list l=>
  cases e
  rcases vx with vx | ⟨p,rfl,hb,xs,q,r⟩
  ·cases vx with
   | @lst p xs _ hq r=>exact⟨p,xs,rfl,.inl ⟨.inl (Rd.mono (.inl hq) I1.sub),k _ G1 H1 I1 s1 m1 (kF (λGc H t1 t2 _=>.inl (Rd.mono (.inl hq) (t1.trans t2))) r)⟩⟩
  ·exact⟨p,xs,rfl,.inl ⟨.inl (.inl q),k _ G1 H1 I1 s1 m1 (kF (λGc H t1 t2 mv=>.inl (.inl (mv.1 p _ q hb))) r)⟩⟩
 |tuple l=>
  cases e
  rcases vx with vx | ⟨p,rfl,hb,q⟩
  ·cases vx with
   | @tup p xs _ hq r=>exact⟨p,xs,rfl,.inr ⟨hq.grow I1.sub.grow,k _ G1 H1 I1 s1 m1 (qm (λGc H t1 t2 _=>hq.grow (t1.trans t2).grow) r)⟩⟩
  ·exact q.elim
 |_=>cases e
def cx (lo:Int)(n:Nat):List D:=(List.range n).map λ(k:Nat)=>int (lo + k)
def kA (lo:Int)(n:Nat):(cx lo n).length=n:=by unfold cx;simp
def rR {K:Frag}{B:Option Addr}{G H1:Hp}(lo:Int)(n:Nat):Walk K B G H1 (cx lo n) (xr lo n):=λGc H i s1 s2 m=>by
 rw[kA]
 refine⟨λhi=>⟨hi,λx H' y=>?_⟩,λhi=>hi⟩
 obtain⟨rfl,rfl⟩:=y
 refine⟨Gc,.int (lo + i),Ext.refl s2,?_,.int _⟩
 unfold cx
 rw[Ip,List.getElem?_range hi];rfl
def xF (j:Int):Bool:=Nat.ble j.natAbs 1000000
def kS {j:Int}(h:xF j=true): -(2 ^ 62)<=j/\j < 2 ^ 62:=by
 have:=Nat.le_of_ble_eq_true h
 omega
def kU {j:Int}(h: -1000<=j)(h2:j<=10000):xF j=true:=Nat.ble_eq_true_of_le (by omega)
def j9 (fa:VF D):VF (List D):=λvs β=>(fa vs β).bnd λx β1=>match x with
 | .int j=>if xF j=true then .ok (cx 0 j.toNat) β1 else .bad
 |_=>.bad
def oq (fa fb:VF D):VF (List D):=λvs β=>(fa vs β).bnd λx β1=>(fb vs β1).bnd λy β2=>match x,y with
 | .int i,.int j=>if (xF i && xF j)=true then .ok (cx i (j - i).toNat) β2 else .bad
 |_,_=>.bad
theorem q8 {p:Pos}(hg:Gl X "range")(hm:X.mg "range"=none)(ha:SE X Γ E a fa La ma)(hs:starEach [a] X.env= [(false,eval a X.env)]:=by rfl)(hs':starEach [a] X.env=(false,eval a X.env) :: starEach [] X.env:=by rfl):SI X Γ E tg (.Call (.Name "range" p) [a] [] pos) (j9 fa) La md:=by
 refine PI.post (iI hg hm (aI ha bh hs') hs) λσ H Q ⟨env,G,B,β,I,o⟩=>?_
 refine⟨env,G,B,β,I,o.bnd.imp λd1 β1 h x G1 H1 I1 s1 m1 vx=>?_⟩
 have vx:=vx.brw I.boxThere
 cases d1 with
 |int j=>
  obtain rfl:=vx.int
  dsimp only at h
  by_cases hj:xF j=true
  ·rw[HV hj] at h
   exact⟨j,rfl,(kS hj).1,(kS hj).2,h _ G1 H1 I1 s1 m1 (rR 0 _)⟩
  ·rw[HY hj] at h;exact h.elim
 |_=>exact h.elim
def ET {p:Pos}(hg:Gl X "range")(hm:X.mg "range"=none)(ha:SE X Γ E a fa La ma)(hb:SE X Γ E b fb Lb mb)(hs:starEach [a,b] X.env= [(false,eval a X.env),(false,eval b X.env)]:=by rfl)(hs2:starEach [b] X.env= [(false,eval b X.env)]:=by rfl)(hs':starEach [a,b] X.env=(false,eval a X.env) :: starEach [b] X.env:=by rfl)(hs3:starEach [b] X.env=(false,eval b X.env) :: starEach [] X.env:=by rfl):SI X Γ E tg (.Call (.Name "range" p) [a,b] [] pos) (oq fa fb) (La ++ Lb) md:=by
 refine PI.post (wQ hg hm (aI ha (aI hb bh hs3) hs') hs hs2) λσ H Q ⟨env,G,B,β,I,o⟩=>?_
 refine two (W:=λx y H2=>∃i j:Int,[x,y]= [.int i,.int j]/\(-(2 ^ 62)<=i/\i < 2 ^ 62/\ -(2 ^ 62)<=j/\j < 2 ^ 62)/\Q (xr i (j - i).toNat) H2) I (o.bnd.imp λd1 β1 h=>h.bnd.imp λd2 β2 h x y G2 H2 I2 s2 m2 bx by'=>?_)
 obtain⟨i,j,rfl,rfl⟩:∃i j,d1=.int i/\d2=.int j:=by
  cases d1 <;> cases d2 <;> first |exact h.elim |exact⟨_,_,rfl,rfl⟩
 obtain rfl:=bx.int
 obtain rfl:=by'.int
 dsimp only at h
 by_cases hj:(xF i && xF j)=true
 ·rw[HV hj] at h
  rw[IE] at hj
  exact⟨i,j,rfl,⟨(kS hj.1).1,(kS hj.1).2,(kS hj.2).1,(kS hj.2).2⟩,h _ G2 H2 I2 s2 m2 (rR i _)⟩
 ·rw[HY hj] at h;exact h.elim
inductive Tg where
 |nm (i:Nat)
 |two (i j:Nat)
def pairD:D->Option (D×D)
 | .tuple [x,y]=>some (x,y)
 |_=>none
def yT {d x y:D}(h:pairD d=some (x,y)):d=.tuple [x,y]:=by
 unfold pairD at h
 split at h
 ·cases h;rfl
 ·cases h
def cM:Tg->D->En->Option En
 | .nm i,d,env=>some (env.set i (.fz d))
 | .two i j,d,env=>(pairD d).map λp=>(env.set i (.fz p.1)).set j (.fz p.2)
def k8:Tg->D->List Nv->Option (List Nv)
 | .nm i,d,vs=>some (vs.set i (.da d))
 | .two i j,d,vs=>(pairD d).map λp=>(vs.set i (.da p.1)).set j (.da p.2)
def ur (env:En)(i:Nat)(s:Sl):vl (env.set i s)=(vl env).set i s.val:=by unfold vl;rw[List.map_set]
theorem AM (t:Tg)(d:D)(env:En):(cM t d env).map vl=k8 t d (vl env):=by
 cases t with
 |nm i=>show some (vl _)=some _;rw[ur];rfl
 |two i j=>
  show ((pairD d).map _).map vl=(pairD d).map _
  cases pairD d with
  |none=>rfl
  |some p=>show some (vl _)=some _;rw[ur,ur];rfl
def gT (Γ:Fx)(t:Tg):TG:=λv σ H Q=>∃env G B β d env',SR Γ B G H σ env β/\Rp Γ.K G v d/\cM t d env=some env'/\∀σ',SR Γ B G H σ' env' β->Q σ' H
def SG (X:Cx)(Γ:Fx)(tg:Expr)(t:Tg):Prop:=PG X tg (gT Γ t)
def PG.post {X:Cx}{tg:Expr}{t u:TG}(h:PG X tg t)(m:∀v σ H Q,u v σ H Q->t v σ H Q):PG X tg u:=λpins s σ H v uu Q I r q=>h pins s σ H v uu Q I r (m v σ H Q q)
def i5 {i:Nat}{x:Str}(hN:X.N.Nodup)(hi:X.N[i]? =some x:=by rfl)(hx:Loc X.env.scope x:=by first |exact Or.inl rfl |exact Or.inr rfl)(hf:X.fn x=true\/X.env.scope.names.lookup x=some .local:=by first |exact .inl rfl |exact .inr rfl |assumption):SG X Γ (.Name x pos) (.nm i):=by
 refine PG.post (bZ hN hi hx hf) λv σ H Q ⟨env,G,B,β,d,env',I,r,e,k⟩=>?_
 cases e
 exact k _ (I.set' i r)
theorem mj {i j:Nat}{x y:Str}{px py:Pos}{n:Nat}(hN:X.N.Nodup)(hc:X.calm=true:=by rfl)(hK:X.K=Γ.K:=by rfl)(hi:X.N[i]? =some x:=by rfl)(hj:X.N[j]? =some y:=by rfl)(hx:Loc X.env.scope x:=by first |exact Or.inl rfl |exact Or.inr rfl)(hy:Loc X.env.scope y:=by first |exact Or.inl rfl |exact Or.inr rfl)
  (hf:X.fn x=true\/X.env.scope.names.lookup x=some .local:=by first |exact .inl rfl |exact .inr rfl |assumption) (hf':X.fn y=true\/X.env.scope.names.lookup y=some .local:=by first |exact .inl rfl |exact .inr rfl |assumption):SG X Γ (.Tuple [.Name x px,.Name y py] n pos) (.two i j):=by
 refine PG.post (l5 (n:=2) hc (cv (bZ hN hi hx hf) (cv (bZ hN hj hy hf') jJ))) λv σ H Q ⟨env,G,B,β,d,env',I,r,e,k⟩=>?_
 rw[hK]
 have e:(pairD d).map (λp=>(env.set i (.fz p.1)).set j (.fz p.2))=some env':=e
 cases q:pairD d with
 |none=>rw[q] at e;cases e
 |some p=>
  obtain⟨dx,dy⟩:=p
  rw[q] at e
  cases e
  obtain rfl:=yT q
  cases r with
  | @tup p xs _ hq r=>
   cases r with
   |cons r1 r=>
    cases r with
    |cons r2 r=>
     cases r
     exact⟨p,_,rfl,hq.grow I.sub.grow,rfl,_,_,rfl,_,_,rfl,rfl,k _ ((I.set' i r1).set' j r2)⟩
def jv (t:Tg)(m:SF):List D->SF
 | []=>λenv β=>.nx env β
 |d :: ds=>λenv β=>match cM t d env with
  |none=>.bad
  |some env1=>match m env1 β with
   | .nx env2 β2=>jv t m ds env2 β2
   | .ct env2 β2=>jv t m ds env2 β2
   | .bk env2 β2=>.nx env2 β2
   |r=>r
def dH (t:Tg)(L:List Nat)(fi:VF (List D))(m:SF):SF:=λenv β=>toS (fi (vl env) β) λds β'=>jv t m ds (aO L env) β'
def g8 {t:Tg}{fi:VF (List D)}{x:List Stmt}(hp:PassesOwn (model X.prog X.w) X.A X.env X.xe)(hc:X.calm=true)(hi:SI X Γ E tg e fi L .v)(hg:SG X Γ tg t)(hb:z9 X Γ E x m)(hs:∀x,foldedSetIterable e X.env x=pure x:=by intro _;rfl):SS X Γ E (.For tg e x [] pos) (dH t L fi m):=by
 refine PS.post (qf hp hc hi hg hb hs) λN σ H ⟨env,G,B,β,I,o⟩=>?_
 refine⟨env,G,B,β,I,cQ o λds β' q J G' H' I' s' m' w=>?_⟩
 have w:Walk Γ.K B G' (λ_=>none) ds J:=w
 refine⟨λi n σ H=>n=ds.length - i/\i<=ds.length/\∃env G1 B β,SR Γ B G1 H σ env β/\ag G' G1/\nP Γ E G1 N (jv t m (ds.drop i) env β),⟨ds.length,by simp,IU _,aO L env,G',B,β',I',ag.refl _,by rw[List.drop_zero];exact nP.weak q s'⟩,?_⟩
 rintro i n σ H ⟨rfl,hi,env,G1,B1,β1,I1,s1,q⟩
 obtain⟨w1,w2⟩:=w G1 H i s1 I1.sub ⟨(λb o e=>by cases e),λb o u e=>by cases e⟩
 by_cases hlt:i < ds.length
 ·obtain⟨go,yl⟩:=w1 hlt
  refine .inr ⟨go,λσ H=>∃env G2 B β,SR Γ B G2 H σ env β/\ag G' G2/\nP Γ E G2 N (jv t m (ds.drop (i + 1)) env β),λσ2 H2 h=>⟨ds.length - (i + 1),by omega,rfl,hlt,h⟩,λx H2 y=>?_⟩
  obtain⟨G2,d,x2,ed,rd⟩:=yl x H2 y
  have I2:=I1.ext x2
  have q:=nP.weak q x2.gg
  rw[Ki hlt] at q
  have ed':ds[i]=d:=by rw[HU hlt] at ed;exact Option.some.inj ed
  rw[ed'] at q
  unfold jv at q
  cases eb:cM t d env with
  |none=>rw[eb] at q;exact q.elim
  |some env1=>
   rw[eb] at q
   refine⟨env,G2,B1,β1,d,env1,I2,rd,eb,λσ3 I3=>⟨env1,G2,B1,β1,I3,?_⟩⟩
   have s2:=s1.trans x2.gg
   dsimp only at q
   cases r:m env1 β1 with
   |nx env2 β2=>rw[r] at q;exact λB2 G3 H3 σ2 I2 s3=>⟨env2,G3,B2,β2,I2,s2.trans s3,nP.weak q s3⟩
   |ct env2 β2=>rw[r] at q;exact λB2 G3 H3 σ2 I2 s3=>⟨env2,G3,B2,β2,I2,s2.trans s3,nP.weak q s3⟩
   |bk env2 β2=>rw[r] at q;exact λB2 G3 H3 σ2 I2 s3=>q B2 G3 H3 σ2 I2 s3
   |rt d fr β2=>rw[r] at q;exact q
   |exc c=>rw[r] at q;exact q
   |bad=>rw[r] at q;exact q
 ·have e:i=ds.length:=by omega
  subst e
  rw[List.drop_length] at q
  exact .inl ⟨w2 (HX _),q B1 G1 H σ I1 (ag.refl _)⟩
end
abbrev Fx.iL (Γ:Fx)(H0 G0:Hp)(par:List Addr)(br:Nat->Bool)(bx:Option Addr):Fx:=⟨Γ.K,H0,G0,par,Γ.ca,br,bx⟩
def dI (own:Nat)(ixs:List Nat)(vs:List Nv):List Nv:=List.replicate own .no ++ ixs.map λi=>(vs[i]?).getD .no
def EN:Option Sl->Sl
 |some (.ow d)=>.br d
 |some s=>s
 |none=>.no
def benv (own:Nat)(ixs:List Nat)(env:En):En:=List.replicate own .no ++ ixs.map λi=>EN env[i]?
theorem AH (o:Option Sl):(EN o).val=(o.map Sl.val).getD .no:=by
 cases o with
 |none=>rfl
 |some s=>cases s <;> rfl
def AR (own:Nat)(ixs:List Nat)(env:En):vl (benv own ixs env)=dI own ixs (vl env):=by
 unfold vl benv dI
 rw[KA,List.map_replicate,K7]
 congr 1
 refine J5 λi _=>?_
 show (EN env[i]?).val=_
 rw[AH,Ip]
def sE (env:En):Prop:=∀(i:Nat) (d:D),env[i]?≠some (.ow d)
theorem mG {env:En}(h:sE env)(L:List Nat):aO L env=env:=by
 unfold aO
 induction L with
 |nil=>rfl
 |cons i L ih=>
  rw[K0]
  have:fN env i=env:=by
   unfold fN
   split
   ·rename_i d e;exact absurd e (h i d)
   ·rfl
  rw[this];exact ih
def oF (own:Nat)(ixs:List Nat)(env:En):sE (benv own ixs env):=λi d e=>by
 unfold benv at e
 have hm:=Ij e
 rcases Iu.mp hm with h |h
 ·have:=K8 h;cases this
 ·obtain⟨k,_,hk⟩:=Iz.mp h
  cases q:env[k]? with
  |none=>rw[q] at hk;cases hk
  |some s=>rw[q] at hk;cases s <;> cases hk
def lW {env:En}(h:sE env)(i:Nat)(d:D):sE (env.set i (.fz d)):=λj d' e=>by
 by_cases z:i=j
 ·subst z
  by_cases hi:i < env.length
  ·rw[IA hi] at e;cases e
  ·rw[J1 (by omega)] at e;exact h _ _ e
 ·rw[Iy z] at e;exact h _ _ e
theorem v8 {env env1:En}{t:Tg}{d:D}(h:sE env)(e:cM t d env=some env1):sE env1:=by
 cases t with
 |nm i=>cases e;exact lW h i d
 |two i j=>
  have e:(pairD d).map _=some env1:=e
  cases q:pairD d with
  |none=>rw[q] at e;cases e
  |some p=>rw[q] at e;cases e;exact lW (lW h _ _) _ _
theorem xt {env env1:En}{t:Tg}{d:D}(e:cM t d env=some env1)(d':D):cM t d' env1=cM t d' env:=by
 cases t with
 |nm i=>cases e;show some _=some _;rw[set_set]
 |two i j=>
  have e:(pairD d).map _=some env1:=e
  cases q:pairD d with
  |none=>rw[q] at e;cases e
  |some p=>
   rw[q] at e;cases e
   show (pairD d').map _=(pairD d').map _
   cases pairD d' with
   |none=>rfl
   |some p'=>
    show some _=some _
    congr 1
    dsimp only
    by_cases z:i=j
    ·subst z;simp[set_set]
    ·rw[List.set_comm _ _ (Ne.symm z),set_set,set_set]
def Ext.mov {G H G' H':Hp}(x:Ext G H G' H')(B:Option Addr):fj B H H':=x.hh.mov B
section
variable {Γ:Fx}{B:Option Addr}{G H G1 H1 Gc Hc:Hp}{σ σ':St}{env envb:En}{β β':Int}{own:Nat}{ixs:List Nat}{Da:Addr}{acc:List V}
def td (envb:En):Nat->Bool:=λj=>match envb[j]? with
 |some (.br _)=>true
 |_=>false
def SR.block (I:SR Γ B G H σ env β)(own:Nat)(ixs:List Nat)(hD:H Da=none):SR (Γ.iL (upd H Da (.lst [])) G (Da :: B.toList) (td (benv own ixs env)) B) B G (upd H Da (.lst [])) (pU own ixs σ) (benv own ixs env) β:=by
 obtain⟨q1,q2,q3,q4⟩:=I.fresh hD
 have nB:∀b,B=some b->b≠Da:=λb e z=>q3 (by rw[<-z];exact e)
 refine⟨I.sub.trans (ag.new hD),ag.refl _,λb _ h=>h,λb o h _=>Kt.of h,λb hb=>?_,λb e=>e,λb e=>?_,?_,λi s e=>?_,λi j c d d' e=>absurd e (oF own ixs env i d)⟩
 ·rcases Ih.mp hb with z |z
  ·subst z;exact Mx.lst aq
  ·have z':B=some b:=by simpa using z
   exact Mx.lst (by rw[ao (nB b z')];exact (I.box b z').1)
 ·obtain⟨h1,h2,_⟩:=I.box b e
  exact⟨by rw[ao (nB b e)];exact h1,h2,.inl (Ie _ (by simpa using e))⟩
 ·unfold pU benv;simp
 ·by_cases hi:i < own
  ·unfold benv at e
   rw[Jd (by simpa using hi),JO,HV hi] at e
   cases e;trivial
  ·have e0:=e
   unfold benv at e
   rw[Jb (by simpa using hi),Kb,Ip] at e
   cases ek:ixs[i - own]? with
   |none=>rw[ek] at e;cases e
   |some k=>
    rw[ek] at e
    have e:EN env[k]? =s:=Option.some.inj e
    have es:(pU own ixs σ)[i]? =some ((σ[k]?).join):=by
     unfold pU
     rw[Jb (by simpa using hi),Kb,Ip,ek];rfl
    rw[es]
    cases q:env[k]? with
    |none=>rw[q] at e;subst e;trivial
    |some t=>
     rw[q] at e
     have w:=I.slot k t q
     cases t with
     |no=>subst e;trivial
     |fz d=>subst e;obtain⟨v,h1,h2⟩:=w;exact⟨v,by rw[h1];rfl,h2⟩
     |bx=>subst e;obtain⟨a,h1,h2⟩:=w;exact⟨a,by rw[h1];rfl,h2⟩
     |ow d=>
      subst e
      obtain⟨a,h1,h2,h3,h4,h5⟩:=w
      obtain⟨o,ho⟩:=h5.obj
      have aD:a≠Da:=ax ho hD
      refine⟨by show td _ i=true;unfold td;rw[e0];rfl,a,by rw[h1];rfl,h4,?_,h5.mono (ag.refl _) λo q=>Kt.of (by rw[ao aD];exact q)⟩
      intro hm
      rcases Ih.mp hm with z |z
      ·exact aD z
      ·exact h4 (by simpa using z)
     |br d=>
      subst e
      obtain⟨b1,a,h1,h4,hp,h5⟩:=w
      obtain⟨o,ho⟩:=h5.obj
      have aD:a≠Da:=ax ho hD
      refine⟨by show td _ i=true;unfold td;rw[e0];rfl,a,by rw[h1];rfl,h4,?_,h5.mono (ag.refl _) λo q=>Kt.of (by rw[ao aD];exact q)⟩
      intro hm
      rcases Ih.mp hm with z |z
      ·exact aD z
      ·exact h4 (by simpa using z)
def SR.unblock (I:SR Γ B G H σ env β){br:Nat->Bool}(hD:H Da=none)(J:SR (Γ.iL (upd H Da (.lst [])) G (Da :: B.toList) br B) B Gc Hc σ' envb β'):SR Γ B Gc Hc σ env β'/\fj B H Hc/\Gc Da=none:=by
 obtain⟨q1,q2,q3,q4⟩:=I.fresh hD
 have up:∀{b:Addr},Mx H b->Mx (upd H Da (.lst [])) b:=λ{b} h=>h.same λo e=>Kt.of (by rw[ao (ax e hD)];exact e)
 have mv0:∀b o,H b=some o->B≠some b->Kt Hc b o:=λb o e n=>J.keep b o (show upd H Da (.lst []) b=some o by rw[ao (ax e hD)];exact e) λhm=>by
  rcases Ih.mp hm with z |z
  ·rw[z,hD] at e;cases e
  ·exact n (by simpa using z)
 have mv:fj B H Hc:=⟨mv0,λb o u e=>mv0 b _ e λz=>by rw[(I.box b z).1] at e;cases e⟩
 refine⟨⟨J.sub,I.old.trans J.old,λb h1 h2=>J.new b (up (I.thereM h1)) (I.new b h1 h2),λb o h1 h2=>sR (I.keep b o h1 h2) mv λz=>?_,λb hb=>J.thereM (up (I.pin b hb)),I.fix,λb e=>?_,I.len,λi s e=>?_,I.sep⟩,mv,J.new Da (Mx.lst (show upd H Da (.lst []) Da=some (.lst []) from aq)) q2⟩
 ·obtain⟨_,_,h3⟩:=I.box b z
  rcases h3 with h3 |h3
  ·exact h2 h3
  ·rw[h1] at h3;cases h3
 ·obtain⟨j1,j2,_⟩:=J.box b e
  exact⟨j1,j2,(I.box b e).2.2⟩
 ·have w:=I.slot i s e
  cases s with
  |no=>trivial
  |fz d=>obtain⟨v,h1,h2⟩:=w;exact⟨v,h1,h2.mono J.old⟩
  |bx=>exact w
  |ow d=>
   obtain⟨a,h1,h2,h3,h4,h5⟩:=w
   exact⟨a,h1,h2,J.new a (up h5.mx) h3,h4,h5.mono J.old λo q=>mv.1 a o q h4⟩
  |br d=>
   obtain⟨b1,a,h1,h4,hp,h5⟩:=w
   exact⟨b1,a,h1,h4,hp,h5.mono J.old λo q=>mv.1 a o q h4⟩
def SR.updD {ys:List V}(J:SR Γ B G H σ env β)(hp:Da∈Γ.par)(h0:Mx Γ.H0 Da)(g0:Γ.G0 Da=none)(hB:B≠some Da):SR Γ B G (upd H Da (.lst ys)) σ env β:=by
 have gD:=J.new Da h0 g0
 have ha:∀x y,H Da≠some (.aO x y):=λx y w=>(J.pin Da hp).2 _ w trivial
 refine⟨λb u q=>iA (J.sub b u q) (λz=>by rw[z,gD] at q;cases q) ha,J.old,J.new,λb u q n=>iA (J.keep b u q n) (λz=>n (by rw[z];exact hp)) ha,λb hb=>?_,J.fix,λb e=>?_,J.len,λi s e=>?_,J.sep⟩
 ·by_cases z:b=Da
  ·subst z;exact Mx.lst aq
  ·exact (J.pin b hb).same λo e=>Kt.of (by rw[ao z];exact e)
 ·obtain⟨h1,h2⟩:=J.box b e
  exact⟨by rw[ao (λz=>hB (by rw[<-z];exact e))];exact h1,h2⟩
 ·have w:=J.slot i s e
  cases s with
  |no=>trivial
  |fz d=>exact w
  |bx=>exact w
  |ow d=>
   obtain⟨a,h1,h2,h3,h4,h5⟩:=w
   have aD:a≠Da:=λz=>h0.1 (by rw[<-z];exact h2)
   exact⟨a,h1,h2,h3,h4,h5.mono (ag.refl _) λo q=>Kt.of (by rw[ao aD];exact q)⟩
  |br d=>
   obtain⟨b1,a,h1,h4,hpa,h5⟩:=w
   have aD:a≠Da:=λz=>hpa (by rw[z];exact hp)
   exact⟨b1,a,h1,h4,hpa,h5.mono (ag.refl _) λo q=>Kt.of (by rw[ao aD];exact q)⟩
end
def R.okb {α γ:Type}(r:R α)(k:α->Int->R γ):R γ:=match r with
 | .ok a β=>k a β
 |_=>.bad
def eS (t:Tg)(ft:VF Bool)(fe:VF D)(vs:List Nv):List D->Int->R (List D)
 | [],β=>.ok [] β
 |d :: ds,β=>match k8 t d vs with
  |none=>.bad
  |some vs1=>(ft vs1 β).okb λc β1=>if c=true then (fe vs1 β1).okb λx β2=>(eS t ft fe vs ds β2).okb λxs β3=>.ok (x :: xs) β3 else eS t ft fe vs ds β1
def b5 (own:Nat)(ixs:List Nat)(t:Tg)(fi:VF (List D))(ft:VF Bool)(fe:VF D):VF D:=λvs β=>(fi vs β).bnd λds β1=>if ds.length<=sizeLine then (eS t ft fe (dI own ixs vs) ds β1).okb λxs β2=>.ok (.list xs) β2 else .bad
def xi:VF Bool:=λ_ β=>.ok true β
def D0 (own:Nat)(ixs Lc:List Nat)(j:Nat):Bool:=decide (j < own) || (match ixs[j - own]? with
 |some i=>Lc.contains i
 |none=>false)
theorem BJ {α γ:Type}{Γ:Fx}{E:XK}{r:R α}{k:α->Int->R γ}{P:γ->Int->Prop}(h:Out Γ E (r.okb k) P):∃a β,r=.ok a β/\Out Γ E (k a β) P:=by
 cases r with
 |ok a β=>exact⟨a,β,rfl,h⟩
 |exc c=>exact h.elim
 |bad=>exact h.elim
section
variable {X:Cx}{Γ:Fx}{E:XK}{tg iter elt:Expr}{ifs:List Expr}{scope:Scope}{NB:List Str}{own:Nat}{ixs Li Lc Lt Le:List Nat}{t:Tg}{fi:VF (List D)}{ft:VF Bool}{fe:VF D}{pos:Pos}
def lF {X:Cx}{Γ:Fx}{E:XK}:Au X [] (qT Γ E xi []):=λpins s σ H Q I ⟨env,G,B,β,J,o⟩=>oR pins s σ H Q I (o G H J (ag.refl _) (fj.refl _ _))
def Bb {X:Cx}{Γ:Fx}{E:XK}{c:Expr}{ta:VF Bool}{L:List Nat}(h:yA X Γ E c ta L):Au X [c] (qT Γ E ta L):=u7 h
def BP {NB:List Str}{scope:Scope}{C:Addr}{ex:List Addr}{s3:Shared}{H3:Hp}{pn:List (Addr×Obj)}{P:Program}{w:World}:Passes (o5 P w) (iL X NB scope C ex s3 H3 pn) E0:=λpins σ H s e s' I h=>by
 obtain⟨_,_,_,_,_,_,_,_,_,q⟩:=h
 exact q.elim
abbrev gU (Γ:Fx)(t:Tg):TG:=λv σ H Q=>∃H0 G0 par br bx,gT (Γ.iL H0 G0 par br bx) t v σ H Q
abbrev tU (Γ:Fx)(own:Nat)(ixs Lc:List Nat)(ft:VF Bool)(Lt:List Nat):TT:=λσ H Q=>∃H0 G0 par br bx,(∀j,D0 own ixs Lc j=true->br j=false)/\qT (Γ.iL H0 G0 par br bx) E0 ft Lt σ H Q
abbrev eU (Γ:Fx)(own:Nat)(ixs Lc:List Nat)(fe:VF D)(Le:List Nat):TE:=λσ H Q=>∃H0 G0 par br bx,(∀j,D0 own ixs Lc j=true->br j=false)/\pT (Γ.iL H0 G0 par br bx) E0 fe Le .v σ H Q
def Ez {σ:St}{H:Hp}{Q:VK}(hLc:∀i,i∈Lc->Γ.br i=false)(h:pT Γ E (b5 own ixs t fi ft fe) (Li ++ Lc) .w σ H Q):zA own ixs (iT Γ E fi Li .b) (gU Γ t) (tU Γ own ixs Lc ft Lt) (eU Γ own ixs Lc fe Le) σ H Q:=by
 obtain⟨env,G,B,β,I,o⟩:=h
 refine⟨env,G,B,β,I,o.bnd.imp λds β1 h J G1 H1 I1 s1 m1 wk Da hD=>?_⟩
 have wk:Walk Γ.K B G1 H1 ds J:=wk
 by_cases hz:ds.length<=sizeLine
 case neg=>rw[HY hz] at h;exact h.elim
 rw[HV hz] at h
 obtain⟨xs0,β0,e0,h⟩:=BJ h
 have h:∀v G' H',SR Γ B G' H' σ (aO (Li ++ Lc) env) β0->ag G G'->fj B H H'->VO Γ.K B H G' H' .w (.list xs0) v->Q v H':=h
 obtain⟨G2,I2,s2⟩:=I1.aO Lc hLc
 rw[<-dk] at I2
 obtain⟨q1,q2,q3,q4⟩:=I2.fresh hD
 have Ib0:=I2.block own ixs hD
 generalize hbr:td (benv own ixs (aO (Li ++ Lc) env))=br at Ib0
 have hbo:∀j,D0 own ixs Lc j=true->br j=false:=by
  intro j hj
  rw[<-hbr]
  unfold td
  split
  ·rename_i d e
   exfalso
   unfold benv at e
   by_cases hjo:j < own
   ·rw[Jd (by simpa using hjo),JO,HV hjo] at e;cases e
   ·rw[Jb (by simpa using hjo),Kb,Ip] at e
    unfold D0 at hj
    rw[Ir hjo,Bool.false_or] at hj
    cases ek:ixs[j - own]? with
    |none=>rw[ek] at hj;cases hj
    |some k=>
     rw[ek] at hj e
     have hk:k∈Lc:=by simpa using hj
     have e:EN (aO (Li ++ Lc) env)[k]? =.br d:=Option.some.inj e
     cases q:(aO (Li ++ Lc) env)[k]? with
     |none=>rw[q] at e;cases e
     |some s=>
      rw[q] at e
      cases s with
      |no=>cases e
      |fz _=>cases e
      |bx=>cases e
      |br d'=>
       obtain⟨b1,_⟩:=I2.slot k _ q
       rw[hLc k hk] at b1;cases b1
      |ow d'=>
       rw[dk] at q
       have key:∀(M:List Nat) (en:En),k∈M->∀d',(aO M en)[k]?≠some (.ow d'):=by
        intro M
        induction M with
        |nil=>intro en hm;cases hm
        |cons i M ih=>
         intro en hm d' z
         rcases Ih.mp hm with y |y
         ·subst y
          have z1:(fN en k)[k]? =some (.ow d'):=pJ (L:=M) z
          have z2:=vD z1
          unfold fN at z1
          rw[z2] at z1
          dsimp only at z1
          rw[IA (Im.mp z2).1] at z1;cases z1
         ·exact ih (fN en i) y d' z
       exact key Lc _ hk d' q
  ·rfl
 have evb:vl (benv own ixs (aO (Li ++ Lc) env))=dI own ixs (vl env):=by rw[AR,hJ]
 refine⟨λi n σ' H'=>n=ds.length - i/\i<=ds.length/\∃envb Gc β' acc accd,SR (Γ.iL (upd H1 Da (.lst [])) G2 (Da :: B.toList) br B) B Gc H' σ' envb β'/\(envb=benv own ixs (aO (Li ++ Lc) env)\/∃d,cM t d (benv own ixs (aO (Li ++ Lc) env))=some envb)/\
   H' Da=some (.lst acc)/\bI Γ.K Gc acc accd/\accd.length<=i/\∃xs,eS t ft fe (dI own ixs (vl env)) (ds.drop i) β'=.ok xs β0/\accd ++ xs=xs0,
  ⟨ds.length,by simp,IU _,_,G2,β1,[],[],Ib0,.inl rfl,aq,.nil,IU _,xs0,by rw[List.drop_zero];exact e0,rfl⟩,?_⟩
 rintro i n σ' H' ⟨rfl,hi',envb,Gc,β',acc,accd,Ib,eb,hacc,racc,lacc,xs,ec,exs⟩
 obtain⟨Io,mv,gD⟩:=I2.unblock hD Ib
 obtain⟨w1,w2⟩:=wk Gc H' i (s2.trans Ib.old) Ib.sub mv
 by_cases hlt:i < ds.length
 ·obtain⟨go,yl⟩:=w1 hlt
  refine .inr ⟨go,λσ' H'=>∃envb Gc β' acc accd,SR (Γ.iL (upd H1 Da (.lst [])) G2 (Da :: B.toList) br B) B Gc H' σ' envb β'/\(envb=benv own ixs (aO (Li ++ Lc) env)\/∃d,cM t d (benv own ixs (aO (Li ++ Lc) env))=some envb)/\
   H' Da=some (.lst acc)/\bI Γ.K Gc acc accd/\accd.length<=i + 1/\∃xs,eS t ft fe (dI own ixs (vl env)) (ds.drop (i + 1)) β'=.ok xs β0/\accd ++ xs=xs0,λσ2 H2 hh=>⟨ds.length - (i + 1),by omega,rfl,hlt,hh⟩,λx H2 y=>?_⟩
  obtain⟨G3,d,x3,ed,rd⟩:=yl x H2 y
  have I3:=Ib.ext x3
  have ed':ds[i]=d:=by rw[HU hlt] at ed;exact Option.some.inj ed
  rw[Ki hlt,ed'] at ec
  unfold eS at ec
  cases ebv:k8 t d (dI own ixs (vl env)) with
  |none=>rw[ebv] at ec;cases ec
  |some vs1=>
   rw[ebv] at ec
   dsimp only at ec
   obtain⟨env1,eb1,ev1⟩:∃env1,cM t d (benv own ixs (aO (Li ++ Lc) env))=some env1/\vl env1=vs1:=by
    have:=AM t d (benv own ixs (aO (Li ++ Lc) env))
    rw[evb,ebv] at this
    cases q:cM t d (benv own ixs (aO (Li ++ Lc) env)) with
    |none=>rw[q] at this;cases this
    |some env1=>rw[q] at this;exact⟨env1,rfl,Option.some.inj this⟩
   have eb2:cM t d envb=some env1:=by
    rcases eb with rfl | ⟨d0,eb⟩
    ·exact eb1
    ·rw[xt eb];exact eb1
   have no1:sE env1:=v8 (oF _ _ _) eb1
   have a2:H2 Da=some (.lst acc):=x3.hh _ _ hacc
   refine⟨_,_,_,_,_,envb,G3,B,β',d,env1,I3,rd,eb2,λσ3 I4=>?_⟩
   refine⟨_,_,_,_,_,hbo,env1,G3,B,β',I4,?_⟩
   rw[ev1]
   cases et:ft vs1 β' with
   |exc c=>rw[et] at ec;cases ec
   |bad=>rw[et] at ec;cases ec
   |ok c β2=>
    rw[et] at ec
    intro G4 H4 I5 s4 m4
    rw[mG no1] at I5
    have a4:H4 Da=some (.lst acc):=m4.1 _ _ a2 q3
    cases c with
    |false=>
     refine qQ ⟨env1,G4,β2,acc,accd,I5,.inr ⟨d,eb1⟩,a4,racc.mono (x3.gg.trans s4),by omega,xs,?_,exs⟩
     exact ec
    |true=>
     refine rH ⟨_,_,_,_,_,hbo,env1,G4,B,β2,I5,?_⟩
     rw[ev1]
     have ec:((fe vs1 β2).okb λx β3=>(eS t ft fe (dI own ixs (vl env)) (ds.drop (i + 1)) β3).okb λxs β4=>R.ok (x :: xs) β4)=R.ok xs β0:=ec
     cases ee:fe vs1 β2 with
     |exc c=>rw[ee] at ec;cases ec
     |bad=>rw[ee] at ec;cases ec
     |ok dx β3=>
      rw[ee] at ec
      intro v G5 H5 I6 s5 m5 vo
      rw[mG no1] at I6
      have a5:H5 Da=some (.lst acc):=m5.1 _ _ a4 q3
      have ec:((eS t ft fe (dI own ixs (vl env)) (ds.drop (i + 1)) β3).okb λxs β4=>R.ok (dx :: xs) β4)=R.ok xs β0:=ec
      cases er:eS t ft fe (dI own ixs (vl env)) (ds.drop (i + 1)) β3 with
      |exc c=>rw[er] at ec;cases ec
      |bad=>rw[er] at ec;cases ec
      |ok ys β4=>
       rw[er] at ec
       cases ec
       refine⟨acc,a5,by rw[racc.len];omega,env1,G5,β3,acc ++ [v],accd ++ [dx],?_,.inr ⟨d,eb1⟩,aq,(racc.mono ((x3.gg.trans s4).trans s5)).snoc vo,by rw[IQ];simp;omega,ys,er,by rw[<-exs,IK];rfl⟩
       refine I6.updD (Ig ..) (Mx.lst (show upd H1 Da (.lst []) Da=some (.lst []) from aq)) (I2.sub.free hD) q3
 ·have e:i=ds.length:=by omega
  subst e
  rw[List.drop_length] at ec
  cases ec
  rw[JS] at exs
  subst exs
  refine .inl ⟨w2 (HX _),⟨acc,hacc⟩,h _ Gc H' Io ((s1.trans s2).trans Ib.old) (m1.trans mv) ⟨Da,rfl,fM m1 I1.boxThere hD,gD,acc,hacc,racc⟩⟩
def bU (hg:∀H0 G0 par br bx C ex s3 H3 pn,SG (iL X NB scope C ex s3 H3 pn) (Γ.iL H0 G0 par br bx) tg t)(C:Addr)(ex:List Addr)(s3:Shared)(H3:Hp)(pn:List (Addr×Obj)):PG (iL X NB scope C ex s3 H3 pn) tg (gU Γ t):=by
 rintro pins s σ H v u Q I r ⟨H0,G0,par,br,bx,q⟩
 exact hg H0 G0 par br bx C ex s3 H3 pn pins s σ H v u Q I r q
def jR (Lc:List Nat)(hc:X.calm=true)(S:cV X NB own ixs scope)(hLc:∀i,i∈Lc->Γ.br i=false)(hi:SI X Γ E tg iter fi Li .b)
  (hg:∀H0 G0 par br bx C ex s3 H3 pn,SG (iL X NB scope C ex s3 H3 pn) (Γ.iL H0 G0 par br bx) tg t)
  (ht:∀H0 G0 par br bx C ex s3 H3 pn,(∀j,D0 own ixs Lc j=true->br j=false)->Au (iL X NB scope C ex s3 H3 pn) ifs (qT (Γ.iL H0 G0 par br bx) E0 ft Lt))
  (he:∀H0 G0 par br bx C ex s3 H3 pn,(∀j,D0 own ixs Lc j=true->br j=false)->SE (iL X NB scope C ex s3 H3 pn) (Γ.iL H0 G0 par br bx) E0 elt fe Le .v)
  (hs:∀x,foldedSetIterable iter X.env x=pure x:=by intro _;rfl) :
  SE X Γ E (.ListComp elt [⟨tg,iter,ifs,0⟩] scope pos) (b5 own ixs t fi ft fe) (Li ++ Lc) .w:=by
 refine PE.post' (qw (g:=gU Γ t) (tt:=tU Γ own ixs Lc ft Lt) (te:=eU Γ own ixs Lc fe Le) hc S hi (bU hg) (λC ex s3 H3 pn=>?_) (λC ex s3 H3 pn=>?_) hs) λσ H Q h=>Ez hLc h
 ·rintro pins s σ H Q I ⟨H0,G0,par,br,bx,b,q⟩
  exact ht H0 G0 par br bx C ex s3 H3 pn b pins s σ H Q I q
 ·rintro pins s σ H Q I ⟨H0,G0,par,br,bx,b,q⟩
  exact he H0 G0 par br bx C ex s3 H3 pn b pins s σ H Q I q
end
def fin:SO->FR
 | .nx _ _=>.ok .none false
 | .rt d fr _=>.ok d fr
 | .exc c=>.exc c
 |_=>.bad
def xB (n:Nat)(ds:List D):En:=ds.map Sl.fz ++ List.replicate (n - ds.length) .no
def b6 (n p:Nat)(m:SF):List D->FR:=λds=>if ds.length=p then fin (m (xB n ds) 0) else .bad
abbrev Fx.fn (K:Frag)(H G:Hp)(ca:Str->Addr):Fx:=⟨K,H,G,[],ca,λ_=>false,none⟩
def SR.start {K:Frag}{H G:Hp}{ca:Str->Addr}{N:List Str}{vs:List V}{ds:List D}(s:ag G H)(r:bI K G vs ds)(hn:ds.length<=N.length):SR (Fx.fn K H G ca) none G H (start N vs) (xB N.length ds) 0:=by
 have hl:=r.len
 refine⟨s,ag.refl _,λb _ h=>h,λb o h _=>Kt.of h,λb h=>(by cases h),λb h=>(by cases h),λb h=>(by cases h),?_,λi t e=>?_,λi j a d e h=>?_⟩
 ·unfold L2.start xB;simp;omega
 ·unfold xB at e
  by_cases hi:i < ds.length
  ·rw[Jd (by simpa using hi),Ip,HU hi] at e
   cases e
   obtain⟨x,hx,rx⟩:=r.at (HU hi)
   refine⟨x,?_,rx⟩
   unfold L2.start
   rw[Jd (by simpa[hl] using hi),Ip,hx];rfl
  ·rw[Jb (by simpa using hi),JO] at e
   split at e
   ·cases e;trivial
   ·cases e
 ·unfold xB at h
  have hm:=Ij h
  rcases Iu.mp hm with z |z
  ·obtain⟨_,_,z⟩:=Iz.mp z;cases z
  ·have:=K8 z;cases this
section
variable {P:Program}{w:World}{K:Frag}{mg:Str->Option Value}{base:Heap}{ca:Str->Addr}
def bK {x qual:Str}{st:Stmt}{f:Addr}{fd:FuncData}{N ps:List Str}{k:Nat}{m:SF}(F:z5 K x qual st f fd)(S:aK N ps (av st))
  (hbody:∀(cdv:Value) (A:Around) (outer:List Env) (s:Shared) (H G:Hp) (E:XK),dD k (A.deeper (envOfC qual (av st) s.heap.objs.size f cdv))->z9 (nX (o5 P w) P w K mg base N qual (av st) f cdv A outer s H E) (Fx.fn K H G ca) E (bY st) m) :
  dw P w K mg base (o5 P w) (k + 1) f fd ps (z6 K ca ps.length (b6 N.length ps.length m)):=by
 have hpn:ps.length<=N.length:=by have:=congrArg List.length S.pre;rw[Jf] at this;omega
 refine F.xF S (λvs H Q E h=>?_) (λcdv A outer s H vs Q E hr h=>?_)
 ·obtain⟨G,ds,sG,hl,r,_⟩:=h
  rw[r.len];exact hl
 ·obtain⟨G,ds,sG,hl,r,h⟩:=h
  refine⟨_,hbody cdv A outer s H G E hr,?_⟩
  have I:=SR.start (ca:=ca) (N:=N) sG r (by omega)
  refine⟨_,G,none,0,I,?_⟩
  unfold b6 at h
  rw[HV hl] at h
  have fin':∀{B G' H' σ env β},SR (Fx.fn K H G ca) B G' H' σ env β->ag H H':=λJ b o e=>J.keep b o e (λz=>by cases z)
  cases q:m (xB N.length ds) 0 with
  |nx env β=>rw[q] at h;exact λB G' H' σ J s'=>h .non G' H' (fin' J) s' J.sub (λb h1 h2=>J.new b h1 h2) Rp.non
  |bk env β=>rw[q] at h;exact h.elim
  |ct env β=>rw[q] at h;exact h.elim
  |rt d fr β=>
   rw[q] at h
   refine λB G' H' σ env v J s' rv=>h v G' H' (fin' J) s' J.sub (λb h1 h2=>J.new b h1 h2) ?_
   cases fr with
   |true=>exact rv
   |false=>exact rv
  |exc c=>rw[q] at h;exact λH' kp=>h H' λb o e=>kp b o e (λz=>by cases z)
  |bad=>rw[q] at h;exact h.elim
def Al {n:Nat}{F F':List D->FR}(h:∀ds,ds.length=n->F' ds≠.bad->F ds=F' ds){vs:List V}{H:Hp}{Q:VK}{E:XK}(q:z6 K ca n F' vs H Q E):z6 K ca n F vs H Q E:=by
 obtain⟨G,ds,s,hl,r,q⟩:=q
 refine⟨G,ds,s,hl,r,?_⟩
 by_cases hb:F' ds=.bad
 ·rw[hb] at q;exact q.elim
 ·rw[h ds hl hb];exact q
def gM.imp {x:Str}{ps:List Str}{k:Nat}{F F':List D->FR}(h:gM P w K mg base ca x ps k F)(i:∀ds,F' ds≠.bad->F ds=F' ds):gM P w K mg base ca x ps k F':=by
 obtain⟨f,fd,a,b,c,d⟩:=h.ex
 exact⟨⟨f,fd,a,b,c,d.imp λvs H Q E q=>Al (λds _=>i ds) q⟩,λds hn=>h.len ds (by rw[i ds hn];exact hn)⟩
def bq {n p:Nat}{m:SF}(ds:List D)(h:b6 n p m ds≠.bad):ds.length=p:=by
 unfold b6 at h
 by_cases hl:ds.length=p
 ·exact hl
 ·rw[HY hl] at h;exact absurd rfl h
end
section
variable {X:Cx}{Γ:Fx}{E:XK}{e a b c:Expr}{f fa fb:VF D}{L La Lb:List Nat}{md ma mb:Md}{pos apos cpos np:Pos}
def uo:Option Sl->Bool
 |some (.ow (.list _))=>true
 |_=>false
theorem pk {o:Option Sl}(h:uo o=true):∃ds,o=some (.ow (.list ds)):=by
 cases o with
 |none=>cases h
 |some s=>
  cases s with
  |ow d=>cases d with
   |list ds=>exact⟨ds,rfl⟩
   |_=>cases h
  |_=>cases h
def D3 (i:Nat)(env:En)(β:Int)(g:List D->Option (List D)):SO:=match env[i]? with
 |some (.ow (.list ds))=>(match g ds with
  |some es=>.nx (env.set i (.ow (.list es))) β
  |none=>.bad)
 |_=>.bad
def nG (i:Nat)(L:List Nat)(f:VF D):SF:=λenv β=>if uo env[i]? =true then toS (f (vl env) β) λd β'=>D3 i (aO L env) β' λds=>if ds.length < sizeLine then some (ds ++ [d]) else none else .bad
def vC {Γ:Fx}{E:XK}{G:Hp}{N:Ends}{i:Nat}{env:En}{β:Int}{g:List D->Option (List D)}(h:nP Γ E G N (D3 i env β g)):∃ds es,env[i]? =some (.ow (.list ds))/\g ds=some es/\nP Γ E G N (.nx (env.set i (.ow (.list es))) β):=by
 unfold D3 at h
 split at h
 ·rename_i ds q
  cases e:g ds with
  |none=>rw[e] at h;exact h.elim
  |some es=>rw[e] at h;exact⟨ds,es,q,e,h⟩
 ·exact h.elim
def kG (i:Nat){x:Str}(hb:∀j,Γ.br j=false)(he:SE X Γ E e f L .v)(hN:X.N[i]? =some x:=by rfl)(hv:vX X.env.scope x:=by first |exact Or.inl rfl |exact Or.inr (Or.inl rfl) |exact Or.inr (Or.inr rfl))(hd:(x == ("__debug__":Str))=false:=by decide)
  (hcd:(x == ("__classdict__":Str))=false:=by decide)
  (hbase:attributeBase (.Name x np) "append" X.env (eval (.Name x np) X.env)=eval (.Name x np) X.env:=by rfl)
  (hfew:((backTo cpos (starEach [e] X.env)).all (λx=> !x.1) && (backToKw cpos (keywordEach [] X.env)).all (λx=>x.1.isSome)
   && decide ([e].length + ([]:List Keyword).length + (if ([]:List Keyword).isEmpty then 0 else 1) < 30))=true:=by rfl)
  (hline:(apos.endLine == cpos.line)=true:=by rfl) (hs:starEach [e] X.env=(false,eval e X.env) :: starEach [] X.env:=by rfl)
  (hsw:swapsWith (.Call (.Attribute (.Name x np) "append" apos) [e] [] cpos) none pos.line X.env=pure false:=by rfl) :
  SS X Γ E (.Expr (.Call (.Attribute (.Name x np) "append" apos) [e] [] cpos) pos) (nG i L f):=by
 refine PS.post (vS (zM PySem.F.plainAttrs_list PySem.F.slot_list_append PySem.F.type_list_append ko (iE hN hv hd hcd) (aI he bh hs) hbase hfew hline hs rfl) hsw) λN σ H ⟨env,G,B,β,I,o⟩=>?_
 unfold nG at o
 by_cases hO:uo env[i]? =true
 case neg=>rw[HY hO] at o;exact o.elim
 rw[HV hO] at o
 obtain⟨ds0,q0⟩:=pk hO
 obtain⟨p,h1,_,_,_,xs,h5,_⟩:=I.slot i _ q0
 refine⟨_,h1,.inl ⟨rfl,xs,.inl (.inl h5)⟩,?_⟩
 refine⟨env,G,B,β,I,cQ o λd β' k v G' H' I' s' m' vo=>?_⟩
 obtain⟨ds,es,q,eg,k⟩:=vC k
 by_cases hz:ds.length < sizeLine
 case neg=>rw[HY hz] at eg;cases eg
 rw[HV hz] at eg
 cases eg
 obtain⟨p',g1,_,_,_,ys,g5,g6⟩:=I'.slot i _ q
 rw[h1] at g1;cases g1
 refine⟨p,ys,v,rfl,rfl,g5,by rw[g6.len];exact hz,?_⟩
 exact k B G' _ σ (I'.write hb q h1 λH2 e2 s2=>⟨_,e2,g6.snoc vo⟩) s'
def Inv.lstR {pins:List (Addr×Obj)}{σ:St}{H:Hp}{s:Shared}{l:Addr}{xs:List V}(I:Inv X pins σ H s)(hH:Rd H l (.lst xs)):xs.length<=sizeLine/\∃(its:List Value) (n:Nat),Vals xs its/\xs.length=its.length/\s.heap.get? l=some {cls:=.type "list",data:=.seq its.toArray n}:=by
 obtain⟨z,its,n,r,e⟩:=hH.ok I.hok
 exact⟨z,its,n,r,r.length,e⟩
end
section
variable {K:Frag}{X:Cx}
def rf {g:Int->Int->V}{gd:D->D->Option D}(h:∀dx dy d,gd dx dy=some d->∃i j,dx=.int i/\dy=.int j/\∀G,Rp K G (g i j) d):km K (wL g) gd .v:=by
 intro B G H x y dx dy d Q s hB bx by' e k
 obtain⟨i,j,rfl,rfl,r⟩:=h _ _ _ e
 obtain rfl:=bx.int
 obtain rfl:=by'.int
 exact⟨i,j,rfl,rfl,k _ G H (Ext.refl s) (r G)⟩
def vI {C:Int->Int->Prop}{g:Int->Int->V}{gd:D->D->Option D}(h:∀dx dy d,gd dx dy=some d->∃i j,dx=.int i/\dy=.int j/\C i j/\∀G,Rp K G (g i j) d):km K (rI C g) gd .v:=by
 intro B G H x y dx dy d Q s hB bx by' e k
 obtain⟨i,j,rfl,rfl,c,r⟩:=h _ _ _ e
 obtain rfl:=bx.int
 obtain rfl:=by'.int
 exact⟨i,j,rfl,rfl,c,k _ G H (Ext.refl s) (r G)⟩
def gI (c:Int->Int->Bool)(g:Int->Int->D):D->D->Option D
 | .int i,.int j=>if c i j=true then some (g i j) else none
 |_,_=>none
def uk (g:Int->Int->D):D->D->Option D
 | .int i,.int j=>some (g i j)
 |_,_=>none
def u9 {c:Int->Int->Bool}{g:Int->Int->D}{dx dy d:D}(h:gI c g dx dy=some d):∃i j,dx=.int i/\dy=.int j/\c i j=true/\d=g i j:=by
 unfold gI at h
 split at h
 ·split at h
  ·cases h;exact⟨_,_,rfl,rfl,by assumption,rfl⟩
  ·cases h
 ·cases h
def jf {g:Int->Int->D}{dx dy d:D}(h:uk g dx dy=some d):∃i j,dx=.int i/\dy=.int j/\d=g i j:=by
 unfold uk at h
 split at h
 ·cases h;exact⟨_,_,rfl,rfl,rfl⟩
 ·cases h
def sh:D->D->Option D:=uk λi j=>.int (i - j)
def zI:km K (wL λi j=>.int (i - j)) sh .v:=rf λdx dy d h=>by obtain⟨i,j,rfl,rfl,rfl⟩:=jf h;exact⟨i,j,rfl,rfl,λ_=>.int _⟩
def yw:D->D->Option D:=gI (λ_ j=>decide (0 < j) && decide (j < 1073741824)) λi j=>.int (i / j)
def Bi:km K (rI AU λi j=>.int (i / j)) yw .v:=vI λdx dy d h=>by obtain⟨i,j,rfl,rfl,c,rfl⟩:=u9 h;exact⟨i,j,rfl,rfl,by simpa[AU] using c,λ_=>.int _⟩
def jT:D->D->Option D:=gI (λ_ j=>decide (0 < j)) λi j=>.int (i % j)
def oM:km K (rI (λ_ j=>0 < j) λi j=>.int (i % j)) jT .v:=vI λdx dy d h=>by obtain⟨i,j,rfl,rfl,c,rfl⟩:=u9 h;exact⟨i,j,rfl,rfl,by simpa using c,λ_=>.int _⟩
def CB (i j:Int):Bool:=decide (0<=j) && decide (j<=1000000) && decide (i.natAbs < 2 ^ 64)
def xT:D->D->Option D:=gI CB λi j=>.int (i ^ j.toNat)
def Br {i j:Int}(h:CB i j=true):DR i j:=by
 unfold CB at h
 simp only[IE,Jh] at h
 exact⟨h.1.1,h.1.2,h.2⟩
def D7:km K (rI DR λi j=>.int (i ^ j.toNat)) xT .v:=vI λdx dy d h=>by obtain⟨i,j,rfl,rfl,c,rfl⟩:=u9 h;exact⟨i,j,rfl,rfl,Br c,λ_=>.int _⟩
def xM:D->D->Option D:=uk λi j=>.bool (decide (i < j))
def tQ:D->D->Option D:=uk λi j=>.bool (decide (i<=j))
def FZ:D->D->Option D:=uk λi j=>.bool (decide (j<=i))
def Bd:km K (wL λi j=>.bl (decide (i < j))) xM .v:=rf λdx dy d h=>by obtain⟨i,j,rfl,rfl,rfl⟩:=jf h;exact⟨i,j,rfl,rfl,λ_=>.bl _⟩
def zH:km K (wL λi j=>.bl (decide (i<=j))) tQ .v:=rf λdx dy d h=>by obtain⟨i,j,rfl,rfl,rfl⟩:=jf h;exact⟨i,j,rfl,rfl,λ_=>.bl _⟩
def GX:km K (wL λi j=>.bl (decide (j<=i))) FZ .v:=rf λdx dy d h=>by obtain⟨i,j,rfl,rfl,rfl⟩:=jf h;exact⟨i,j,rfl,rfl,λ_=>.bl _⟩
mutual
theorem vn:∀d:D,d.canLay0=true->xH d=true
 | .none,_=>rfl
 | .bool _,_=>rfl
 | .int _,_=>rfl
 | .str _,_=>rfl
 | .list ds,h=>by simp only[PyData.canLay0] at h;simp only[xH];exact ni ds h
 | .tuple ds,h=>by simp only[PyData.canLay0] at h;simp only[xH];exact ni ds h
 | .dict _,h=>by simp[PyData.canLay0] at h
theorem ni:∀ds:List D,PyData.canLayAll0 ds=true->rX ds=true
 | [],_=>rfl
 |d :: ds,h=>by
  simp only[PyData.canLayAll0,IE] at h
  simp only[rX,IE]
  exact⟨vn d h.1,ni ds h.2⟩
end
def zk {d:D}(h:SeqAt.shaped d=true):xH d=true:=vn d (SeqAt.canLay_of_shaped h)
def eM (neg:Bool)(x y:D):Option D:=if (SeqAt.shaped x && SeqAt.shaped y)=true then some (.bool (if neg then !PyData.eqv x y else PyData.eqv x y)) else none
def jk {neg:Bool}:km K (Dc K neg) (eM neg) .v:=by
 intro B G H x y dx dy d Q s hB bx by' e k
 unfold eM at e
 split at e
 ·rename_i h
  rw[IE] at h
  cases e
  exact⟨dx,dy,(bx.rpH s).rep (zk h.1),(by'.rpH s).rep (zk h.2),h.1,h.2,k _ G H (Ext.refl s) (.bl _)⟩
 ·cases e
theorem jr.seq {B:Option Addr}{G H:Hp}{v:V}{d:D}{ds:List D}(h:jr K B G H v d)(e:kh d=some ds)(s:ag G H):∃a xs,v=.ref a/\(fC K H a xs\/dA K H a xs)/\bI K G xs ds:=by
 cases d with
 |list l=>cases e;obtain⟨a,xs,e,q,r⟩:=h.list s;exact⟨a,xs,e,.inl (.inl q),r⟩
 |tuple l=>cases e;obtain⟨a,xs,e,q,r⟩:=h.tuple s;exact⟨a,xs,e,.inr q,r⟩
 |_=>cases e
def BA:D->Bool
 | .none=>true
 |_=>false
theorem bI.ints {G:Hp}:∀ns:List Int,bI K G (ns.map V.int) (ns.map int)
 | []=>.nil
 |n :: ns=>.cons (.int n) (bI.ints ns)
theorem uy.noNone {G:Hp}{kvs:List (Key×V)}{d:D}{r:List (D×D)}(h:uy K G kvs ((.none,d) :: r)):False:=by
 generalize e:(PyData.none,d) :: r=l at h
 cases h with
 | @one k x d' _=>
  injection e with e1 _
  injection e1 with e2 _
  cases k <;> cases e2
 | @cons k x xs d' ds _ _=>
  injection e with e1 _
  injection e1 with e2 _
  cases k <;> cases e2
theorem xK.noNone {G:Hp}{kvs:List (List Key×V)}{d:D}{r:List (D×D)}(h:xK K G kvs ((.none,d) :: r)):False:=by
 generalize e:(PyData.none,d) :: r=l at h
 cases h with
 |nil=>cases e
 | @cons k x xs d' ds _ _=>
  injection e with e1 _
  injection e1 with e2 _
  cases e2
def jr.scr {B:Option Addr}{G H:Hp}{v:V}{ds:List D}(h:jr K B G H v (.dict [(.none,.list ds)]))(s:ag G H):∃a xs,v=.ref a/\fC K H a xs/\bI K G xs ds:=by
 rcases h with h | ⟨a,rfl,n,h⟩
 ·cases h with
  | @scr a ns q=>exact⟨a,_,rfl,s.seq q,bI.ints ns⟩
  |dK _ r=>exact r.noNone.elim
  |dT _ r=>exact r.noNone.elim
 ·rcases h with⟨_,_,r⟩ | ⟨_,_,r⟩
  ·exact r.noNone.elim
  ·exact r.noNone.elim
def cW:D->D->Option D
 | .list ds,.int i=>jb ds i
 | .tuple ds,.int i=>jb ds i
 | .str z,.int i=>if z.length<=sizeLine then (jb z.cps.toList i).map λc=>.str ⟨#[c]⟩ else none
 | .dict [(.none,.list ds)],.int i=>jb ds i
 |_,_=>none
theorem oY {G:Hp}{xs:List V}{ds:List D}{i:Int}{d:D}(r:bI K G xs ds)(h:jb ds i=some d):∃x,jb xs i=some x/\Rp K G x d:=by
 unfold jb at h ⊢
 rw[r.len]
 cases e:xI ds.length i with
 |none=>rw[e] at h;cases h
 |some j=>rw[e] at h;exact r.at h
theorem dR:km K (Hw K) cW .v:=by
 intro B G H x y dx dy d Q s hB bx by' e k
 cases dx with
 |list ds=>
  cases dy with
  |int i=>
   obtain rfl:=by'.int
   obtain⟨a,xs,rfl,q,r⟩:=bx.list s
   obtain⟨v,ev,rv⟩:=oY r e
   exact .inl ⟨a,xs,i,v,rfl,rfl,.inl q,ev,k _ G H (Ext.refl s) rv⟩
  |_=>cases e
 |tuple ds=>
  cases dy with
  |int i=>
   obtain rfl:=by'.int
   obtain⟨a,xs,rfl,q,r⟩:=bx.tuple s
   obtain⟨v,ev,rv⟩:=oY r e
   exact .inr (.inl ⟨a,xs,i,v,rfl,rfl,q,ev,k _ G H (Ext.refl s) rv⟩)
  |_=>cases e
 |str z=>
  cases dy with
  |int i=>
   obtain rfl:=by'.int
   obtain rfl:=bx.str
   simp only[cW] at e
   split at e
   ·rename_i hz
    cases q:jb z.cps.toList i with
    |none=>rw[q] at e;cases e
    |some c=>rw[q] at e;cases e;exact .inr (.inr ⟨z,i,c,rfl,rfl,hz,q,k _ G H (Ext.refl s) (.str _)⟩)
   ·cases e
  |_=>cases e
 |none=>cases dy <;> cases e
 |bool b=>cases dy <;> cases e
 |int b=>cases dy <;> cases e
 |dict b=>
  obtain⟨ds,i,rfl,rfl,e⟩:∃ds i,b= [(.none,.list ds)]/\dy=.int i/\jb ds i=some d:=by
   unfold cW at e
   split at e
   ·contradiction
   ·contradiction
   ·contradiction
   ·rename_i h;cases h;exact⟨_,_,rfl,rfl,e⟩
   ·cases e
  obtain rfl:=by'.int
  obtain⟨a,xs,rfl,q,r⟩:=bx.scr s
  obtain⟨v,ev,rv⟩:=oY r e
  exact .inl ⟨a,xs,i,v,rfl,rfl,q,ev,k _ G H (Ext.refl s) rv⟩
def dE:D->Option D
 | .list ds=>some (.int ds.length)
 | .tuple ds=>some (.int ds.length)
 | .str z=>if z.length<=sizeLine then some (.int z.length) else none
 | .dict [(.none,.list ds)]=>some (.int ds.length)
 |_=>none
def GB (K:Frag):List V->Hp->VK->Prop:=λxs H Q=>∃x n,xs= [x]/\Eh K x H n/\Q (.int n) H
def i8:xN K (λx=>GB K [x]) dE .v:=by
 intro B G H x dx d Q s hB bx e k
 unfold dE at e
 split at e
 ·cases e;obtain⟨a,xs,rfl,q,r⟩:=bx.list s;exact⟨_,_,rfl,.inl ⟨xs,.inl q,r.len.symm⟩,k _ G H (Ext.refl s) (.int _)⟩
 ·cases e;obtain⟨a,xs,rfl,q,r⟩:=bx.tuple s;exact⟨_,_,rfl,.inr ⟨xs,q,r.len.symm⟩,k _ G H (Ext.refl s) (.int _)⟩
 ·obtain rfl:=bx.str
  split at e
  ·rename_i hz;cases e;exact⟨_,_,rfl,⟨hz,rfl⟩,k _ G H (Ext.refl s) (.int _)⟩
  ·cases e
 ·cases e;obtain⟨a,xs,rfl,q,r⟩:=bx.scr s;exact⟨_,_,rfl,.inl ⟨xs,q,r.len.symm⟩,k _ G H (Ext.refl s) (.int _)⟩
 ·cases e
def zX:D->Option D
 | .list ds=>some (.tuple ds)
 | .tuple ds=>some (.tuple ds)
 |_=>none
theorem AB:xN K (λx H Q=>∃p ys,[x]= [.ref p]/\((fC K H p ys/\∀l,H l=none->Q (.ref l) (upd H l (.tup ys)))\/(dA K H p ys/\Q (.ref p) H))) zX .v:=by
 intro B G H x dx d Q s hB bx e k
 cases dx with
 |list ds=>
  cases e
  obtain⟨a,xs,rfl,q,r⟩:=bx.list s
  refine⟨a,xs,rfl,.inl ⟨.inl q,λl hl=>?_⟩⟩
  have x:=Ext.new s (o:=.tup xs) hl
  exact k _ _ _ x (.tup (.inl (.inl aq)) (r.mono x.gg))
 |tuple ds=>
  cases e
  rcases bx with bx | ⟨_,_,_,z⟩
  ·cases bx with
   | @tup a xs _ hq r=>exact⟨a,xs,rfl,.inr ⟨hq.grow s.grow,k _ G H (Ext.refl s) (.tup hq r)⟩⟩
  ·exact z.elim
 |_=>cases e
def si:D->Option D
 | .list ds=>some (.list ds)
 | .tuple ds=>some (.list ds)
 |_=>none
def sJ:xN K (λx H Q=>∃p ys,[x]= [.ref p]/\(fC K H p ys\/dA K H p ys)/\∀l,H l=none->Q (.ref l) (upd H l (.lst ys))) si .w:=by
 intro B G H x dx d Q s hB bx e k
 obtain⟨ds,e1,rfl⟩:∃ds,kh dx=some ds/\d=.list ds:=by
  cases dx <;> cases e <;> exact⟨_,rfl,rfl⟩
 obtain⟨a,xs,rfl,hq,r⟩:=bx.seq e1 s
 refine⟨a,xs,rfl,hq,λl hl=>?_⟩
 exact k _ _ _ (Ext.own s (o:=.lst xs) hl) ⟨l,rfl,hl,s.free hl,xs,aq,r⟩
def iq:List D->Option (List Bool)
 | []=>some []
 | .bool b :: ds=>(iq ds).map (b :: ·)
 |_=>none
theorem oP {G:Hp}:∀{ds:List D} {bs:List Bool} {xs:List V},iq ds=some bs->bI K G xs ds->xs=bs.map V.bl
 | [],bs,xs,e,r=>by cases e;cases r;rfl
 | .bool b :: ds,bs,xs,e,r=>by
  cases r with
  |cons r1 r2=>
   cases r1
   simp only[iq] at e
   cases q:iq ds with
   |none=>rw[q] at e;cases e
   |some cs=>rw[q] at e;cases e;rw[oP q r2];rfl
 | .none :: _,_,_,e,_=>by cases e
 | .int _ :: _,_,_,e,_=>by cases e
 | .str _ :: _,_,_,e,_=>by cases e
 | .list _ :: _,_,_,e,_=>by cases e
 | .tuple _ :: _,_,_,e,_=>by cases e
 | .dict _ :: _,_,_,e,_=>by cases e
def eV (f:List Bool->Bool):D->Option D
 | .list ds=>(iq ds).map λbs=>.bool (f bs)
 |_=>none
theorem pz {f:List Bool->Bool}:xN K (λx=>tR K f [x]) (eV f) .v:=by
 intro B G H x dx d Q s hB bx e k
 cases dx with
 |list ds=>
  simp only[eV] at e
  cases q:iq ds with
  |none=>rw[q] at e;cases e
  |some bs=>
   rw[q] at e
   cases e
   obtain⟨a,xs,rfl,hq,r⟩:=bx.list s
   obtain rfl:=oP q r
   exact⟨a,bs,rfl,.inl hq,k _ G H (Ext.refl s) (.bl _)⟩
 |_=>cases e
def BU:R2:=λx y H Q=>∃l b xs zs,x=.ref l/\y=.ref b/\Rd H l (.lst xs)/\Rd H b (.lst zs)/\xs.length + zs.length<=sizeLine/\∀p,H p=none->Q (.ref p) (upd H p (.lst (xs ++ zs)))
def pD:iZ X (binaryOp .Add) BU:=by
 intro pins s σ H x y v u Q I rx ry h
 obtain⟨l,b,xs,zs,rfl,rfl,hH,hB,hz,q⟩:=h
 cases rx
 cases ry
 obtain⟨z,its,n,r,hl,e⟩:=I.lstR hH
 obtain⟨z2,its2,n2,r2,hl2,e2⟩:=I.lstR hB
 refine PySem.P.add_list e e2 ?_ (by rw[Iq,Iq];omega)
 have ea:its.toArray ++ its2.toArray=(its ++ its2).toArray:=by simp
 rw[ea]
 exact⟨.ref _,_,I.lnew (t':=s.toks) (r.append r2) (by rw[IQ];omega),rfl,q _ I.fresh⟩
def jt:D->D->Option D
 | .list a,.list b=>if a.length + b.length<=sizeLine then some (.list (a ++ b)) else none
 |_,_=>none
def xR:km K BU jt .w:=by
 intro B G H x y dx dy d Q s hB bx by' e k
 cases dx <;> cases dy <;> first | (cases e;done) |skip
 rename_i a b
 simp only[jt] at e
 split at e
 ·rename_i hz
  cases e
  obtain⟨p,xs,rfl,q1,r1⟩:=bx.list s
  obtain⟨p2,ys,rfl,q2,r2⟩:=by'.list s
  refine⟨p,p2,xs,ys,rfl,rfl,q1,q2,by rw[r1.len,r2.len];exact hz,λl hl=>?_⟩
  exact k _ _ _ (Ext.own s (o:=.lst (xs ++ ys)) hl) ⟨l,rfl,hl,s.free hl,_,aq,r1.append r2⟩
 ·cases e
def bS:D->D->Option D:=uk λi j=>.int (i + j)
def dW:km K (wL λi j=>.int (i + j)) bS .v:=rf λdx dy d h=>by obtain⟨i,j,rfl,rfl,rfl⟩:=jf h;exact⟨i,j,rfl,rfl,λ_=>.int _⟩
def dv:D->D->Option D:=gI (λi j=>(decide (-(2 ^ 64) < i) && decide (i < 2 ^ 64)) || (decide (-(2 ^ 64) < j) && decide (j < 2 ^ 64))) λi j=>.int (i * j)
def js:km K (rI y1 λi j=>.int (i * j)) dv .v:=vI λdx dy d h=>by obtain⟨i,j,rfl,rfl,c,rfl⟩:=u9 h;exact⟨i,j,rfl,rfl,by simpa[y1] using c,λ_=>.int _⟩
def EB:D->Option D
 | .int i=>some (.int (-i))
 |_=>none
theorem BV:xN K (rU λi=>.int (-i)) EB .v:=by
 intro B G H x dx d Q s hB bx e k
 cases dx with
 |int i=>cases e;obtain rfl:=bx.int;exact⟨i,rfl,k _ G H (Ext.refl s) (.int _)⟩
 |_=>cases e
def EM:D->String
 | .none=>"NoneType"
 | .bool _=>"bool"
 | .int _=>"int"
 | .str _=>"str"
 | .list _=>"list"
 | .tuple _=>"tuple"
 | .dict _=>"dict"
def yp (d:D)(T:String):Bool:=EM d == T || (T == "int" && EM d == "bool")
def bz:D->Bool
 | .dict ((.none,_) :: _)=>true
 |_=>false
def dB (T:String)(d:D):Option D:=if bz d=true then none else some (.bool (yp d T))
def Hr (K:Frag)(H:Hp)(x:V)(t:String):Prop:=AO K H x t\/(t="dict"/\∃a kvs ep,x=.ref a/\H a=some (.dT kvs ep))
def ER (K:Frag):List V->Hp->VK->Prop:=λxs H Q=>∃x T t b,xs= [x,.ty T]/\Hr K H x t/\PySem.W.kitOne K (.type t) (.type T)=some b/\Q (.bl b) H
def yr:b9 X (.builtin "isinstance") (ER X.K):=by
 intro pins s σ H xs us Q I r h
 obtain⟨x,T,t,b,rfl,ty,e,q⟩:=h
 rcases ty with ty | ⟨rfl,a,kvs,ep,rfl,hk⟩
 ·exact zD pins s σ H _ us Q I r ⟨x,T,t,b,rfl,ty,e,q⟩
 ·obtain⟨u,c,rfl,rx,rc⟩:=vals2 r
  cases rc
  cases rx
  obtain⟨_,_,_,_,o,_,e2,ex,_⟩:=I.hok a _ hk
  exact Jj PySem.W.kitx_dict I.kIn ⟨o,e2,ex.1⟩ e (λz=>nomatch z) λtk=>⟨.bl b,H,I.tok tk,rfl,q⟩
theorem jr.ty {B:Option Addr}{G H:Hp}{v:V}{d:D}(h:jr K B G H v d)(s:ag G H)(n:bz d=false):Hr K H v (EM d):=by
 cases d with
 |none=>obtain rfl:=h.none;exact .inl .non
 |bool b=>obtain rfl:=h.bool;exact .inl (.bl b)
 |int b=>obtain rfl:=h.int;exact .inl (.int b)
 |str b=>obtain rfl:=h.str;exact .inl (.str b)
 |list b=>obtain⟨a,xs,rfl,q,_⟩:=h.list s;exact .inl (.lst (.inl q))
 |tuple b=>obtain⟨a,xs,rfl,q,_⟩:=h.tuple s;exact .inl (.tup q)
 |dict b=>
  rcases h with h | ⟨a,rfl,_,h⟩
  ·cases h with
   |scr _=>cases n
   |dK q _=>exact .inl (.dic (s _ _ q))
   |dT q _=>exact .inr ⟨rfl,_,_,_,rfl,s _ _ q⟩
  ·rcases h with⟨_,q,_⟩ | ⟨_,q,_⟩
   ·exact .inl (.dic q)
   ·exact .inr ⟨rfl,_,_,_,rfl,q⟩
theorem ED {d:D}{T:String}(hT:T∈ ["int","bool","str","list","tuple","dict"]):PySem.W.kitOne K (.type (EM d)) (.type T)=some (yp d T):=by
 simp only[Ih,JW,or_false] at hT
 cases d with
 |dict l=>rcases hT with rfl |rfl |rfl |rfl |rfl |rfl <;> rfl
 |none=>rcases hT with rfl |rfl |rfl |rfl |rfl |rfl <;> rfl
 |bool _=>rcases hT with rfl |rfl |rfl |rfl |rfl |rfl <;> rfl
 |int _=>rcases hT with rfl |rfl |rfl |rfl |rfl |rfl <;> rfl
 |str _=>rcases hT with rfl |rfl |rfl |rfl |rfl |rfl <;> rfl
 |list _=>rcases hT with rfl |rfl |rfl |rfl |rfl |rfl <;> rfl
 |tuple _=>rcases hT with rfl |rfl |rfl |rfl |rfl |rfl <;> rfl
def eG {a:Expr}{fa:VF D}{La:List Nat}{ma:Md}{Γ:Fx}{E:XK}{pos p p2:Pos}(T:String){y:Str}(hT:T∈ ["int","bool","str","list","tuple","dict"])(hK:X.K=Γ.K)(hg:Gl X "isinstance")(hm:X.mg "isinstance"=none)(hgT:Gl X y)(hmT:X.mg y=none)(hvT:bootBuiltins y=some (.type T))(ha:SE X Γ E a fa La ma)
  (hnT:y≠"__name__":=by decide) (hdT:(y == ("__debug__":Str))=false:=by decide)
  (he:starEach [a,.Name y p2] X.env=(false,eval a X.env) :: starEach [.Name y p2] X.env:=by rfl) (he2:starEach [.Name y p2] X.env=(false,eval (.Name y p2) X.env) :: starEach [] X.env:=by rfl) (hpl:(backTo pos (starEach [.Name y p2] X.env)).any (·.1)=false:=by rfl) :
  SE X Γ E (.Call (.Name "isinstance" p) [a,.Name y p2] [] pos) (f1 fa (dB T)) La .v:=by
 refine PE.post' (iw yr hg hm (by decide +kernel) (aI ha (aI (AE hgT hmT hvT (show RelV (.ty T) _ from rfl) hnT hdT) bh he2) he) (by decide) (by decide) he hpl) λσ H Q ⟨env,G,B,β,I,o⟩=>?_
 refine gm (r:=λx H1 Q=>ER X.K [x,.ty T] H1 Q) ?_ I o
 intro B G H x dx d Q s hB bx e k
 unfold dB at e
 split at e
 ·cases e
 ·rename_i hn
  cases e
  rw[hK]
  exact⟨x,T,EM dx,yp dx T,rfl,bx.ty s (by simpa using hn),ED hT,k _ G H (Ext.refl s) (.bl _)⟩
def dX (fa fb fc:VF D)(g g':D->D->Option D):VF D:=λvs β=>(fa vs β).bnd λx β1=>(fb vs β1).bnd λy β2=>match g x y with
 |some (.bool true)=>(fc vs β2).bnd λz β3=>R.of (g' y z) β3
 |some (.bool false)=>.ok (.bool false) β2
 |_=>.bad
theorem so {a b c:Expr}{fa fb fc:VF D}{ma mb mc:Md}{Γ:Fx}{E:XK}{pos:Pos}{op op':CmpOp}{r r':R2}{g g':D->D->Option D}(ho:iZ X (compareOp op) r)(ho':iZ X (compareOp op') r')(pr:km Γ.K r g .v)(pr':km Γ.K r' g' .v)(ha:SE X Γ E a fa [] ma)(hb:SE X Γ E b fb [] mb)(hc:SE X Γ E c fc [] mc)
  (hm:lastMarks [op,op'] [b,c]=false:=by with_unfolding_all rfl):SE X Γ E (.Compare a [op,op'] [b,c] pos) (dX fa fb fc g g') [] .v:=by
 refine PE.post' (y9 ho ho' ha hb hc hm) λσ H Q ⟨env,G,B,β,I,o⟩=>?_
 refine two (W:=λx y H2=>r x y H2 λz H3=>∃k,z=.bl k/\(if k=true then pT Γ E fc [] mc σ H3 λw' H4=>r' y w' H4 Q else Q (.bl false) H3)) I (o.bnd.imp λd1 β1 h=>h.bnd.imp λd2 β2 h x y G2 H2 I2 s2 m2 bx by'=>?_)
 obtain⟨cb,ec,h⟩:∃cb,g d1 d2=some (.bool cb)/\Out Γ E (if cb=true then (fc (vl env) β2).bnd λz β3=>R.of (g' d2 z) β3 else .ok (.bool false) β2) λd β'=>∀v G' H',SR Γ B G' H' σ (aO [] env) β'->ag G G'->fj B H H'->VO Γ.K B H G' H' .v d v->Q v H':=by
  split at h
  ·rename_i q;exact⟨true,q,by rw[HV rfl];exact h⟩
  ·rename_i q;exact⟨false,q,by rw[HY IG];exact h⟩
  ·exact h.elim
 refine pr B G2 H2 x y d1 d2 _ _ I2.sub I2.boxThere bx by' ec λv G' H' x' vo=>?_
 cases vo
 refine⟨cb,rfl,?_⟩
 have I3:=I2.ext x'
 cases cb with
 |false=>rw[HY IG] at h;exact qQ (h _ G' H' I3 (s2.trans x'.gg) (m2.trans (x'.mov B)) (.bl false))
 |true=>
  rw[HV rfl] at h
  refine rH ⟨env,G',B,β2,I3,h.bnd.imp λd3 β3 h z G4 H4 I4 s4 m4 vz=>?_⟩
  obtain⟨d,e,k⟩:=h.of
  refine pr' B G4 H4 y z d2 d3 d Q I4.sub I4.boxThere (by'.mono (x'.gg.trans s4) ((x'.mov B).trans m4)) (vz.brw I3.boxThere) e λv G5 H5 x5 vo=>?_
  exact k v G5 H5 (I4.ext x5) (((s2.trans x'.gg).trans s4).trans x5.gg) (((m2.trans (x'.mov B)).trans m4).trans (x5.mov B)) vo
end
def dD.u1 {k:Nat}{A:Around}(r:dD k A):A.units + 100 < cLine:=by have:=r.un;omega
def Hm (N:List Str)(sc:Scope)(NB:List Str)(own:Nat)(ixs:List Nat)(scope:Scope):Bool:=
 decide (scope.kind=.function) && (scope.names.all λy=>decide (scope.names.lookup y.1=some y.2)) &&
 (scope.names.all λy=>decide (y.2=.free->(sc.names.lookup y.1=some .cell\/sc.names.lookup y.1=some .free))) && decide NB.Nodup && decide (NB.length=own + ixs.length) &&
 ((List.range ixs.length).all λk=>decide (NB[own + k]? =N[ixs.getD k 0]?) && (match NB[own + k]? with |some x=>decide ((x,NameKind.free)∈scope.names) |none=>true))
def mJ {X:Cx}{NB:List Str}{own:Nat}{ixs:List Nat}{scope:Scope}(h:Hm X.N X.env.scope NB own ixs scope=true):cV X NB own ixs scope:=by
 unfold Hm at h
 simp only[IE,JH,Jh,IH] at h
 obtain⟨⟨⟨⟨⟨h1,h3⟩,h4⟩,h5⟩,h6⟩,h7⟩:=h
 refine⟨h1,h3,h4,h5,h6,λk hk=>⟨(h7 k hk).1,λx hx=>?_⟩⟩
 have:=(h7 k hk).2
 rw[hx] at this
 simpa using this
section
variable {X:Cx}{Γ:Fx}{E:XK}{e a b c:Expr}{f fa fb fc:VF D}{L La Lb:List Nat}{md ma mb mc:Md}{pos:Pos}{K:Frag}
theorem yq {op op':CmpOp}{r r':R2}{g g':D->D->Option D}(ho:iZ X (compareOp op) r)(ho':iZ X (compareOp op') r')(pr:km Γ.K r g .v)(pr':km Γ.K r' g' .v)(ha:SE X Γ E a fa [] ma)(hb:SE X Γ E b fb [] mb)(hc:SE X Γ E c fc [] mc)
  (hm:lastMarks [op,op'] [b,c]=false:=by with_unfolding_all rfl):yA X Γ E (.Compare a [op,op'] [b,c] pos) (fg (dX fa fb fc g g')) []:=by
 refine PT.post (yW ho ho' ha hb hc hm) λσ H Q ⟨env,G,B,β,I,o⟩=>?_
 refine two (W:=λx y H2=>r x y H2 λz H3=>∃k,z=.bl k/\(if k=true then pT Γ E fc [] mc σ H3 λw' H4=>r' y w' H4 (λx H'=>∃k,x=.bl k/\Q k H') else ∃k,V.bl false=.bl k/\Q k H3)) I (o.bnd.bnd.imp λd1 β1 h=>h.bnd.imp λd2 β2 h x y G2 H2 I2 s2 m2 bx by'=>?_)
 obtain⟨cb,ec,h⟩:∃cb,g d1 d2=some (.bool cb)/\Out Γ E (if cb=true then (fc (vl env) β2).bnd λz β3=>R.of (g' d2 z) β3 else .ok (.bool false) β2) λd β'=>Out Γ E (match d with | .bool c=>R.ok c β' |_=>.bad) λc β'=>∀G' H',SR Γ B G' H' σ (aO [] env) β'->ag G G'->fj B H H'->Q c H':=by
  split at h
  ·rename_i q;exact⟨true,q,by rw[HV rfl];exact h⟩
  ·rename_i q;exact⟨false,q,by rw[HY IG];exact h⟩
  ·exact h.elim
 refine pr B G2 H2 x y d1 d2 _ _ I2.sub I2.boxThere bx by' ec λv G' H' x' vo=>?_
 cases vo
 refine⟨cb,rfl,?_⟩
 have I3:=I2.ext x'
 cases cb with
 |false=>rw[HY IG] at h;exact qQ ⟨false,rfl,h G' H' I3 (s2.trans x'.gg) (m2.trans (x'.mov B))⟩
 |true=>
  rw[HV rfl] at h
  refine rH ⟨env,G',B,β2,I3,h.bnd.imp λd3 β3 h z G4 H4 I4 s4 m4 vz=>?_⟩
  obtain⟨d,e,k⟩:=h.of
  refine pr' B G4 H4 y z d2 d3 d _ I4.sub I4.boxThere (by'.mono (x'.gg.trans s4) ((x'.mov B).trans m4)) (vz.brw I3.boxThere) e λv G5 H5 x5 vo=>?_
  cases d with
  |bool c=>cases vo;exact⟨c,rfl,k G5 H5 (I4.ext x5) (((s2.trans x'.gg).trans s4).trans x5.gg) (((m2.trans (x'.mov B)).trans m4).trans (x5.mov B))⟩
  |_=>exact k.elim
def tN (fa:VF D)(neg:Bool):VF Bool:=λvs β=>(fa vs β).bnd λx β1=>.ok (if neg then !BA x else BA x) β1
def oT (Γ:Fx)(E:XK)(f:VF (Option Int))(L:List Nat):TO:=λσ H Q=>∃env G B β,SR Γ B G H σ env β/\
 Out Γ E (f (vl env) β) λd β'=>∀G' H',SR Γ B G' H' σ (aO L env) β'->ag G G'->fj B H H'->Q d H'
def FF (X:Cx)(Γ:Fx)(E:XK)(e:Option Expr)(f:VF (Option Int))(L:List Nat):Prop:=PO X e (oT Γ E f L)
def vP:FF X Γ E none (λ_ β=>.ok none β) []:=λpins s σ H Q I ⟨env,G,B,β,J,o⟩=>Ba pins s σ H Q I (o G H J (ag.refl _) (fj.refl _ _))
def sv (fa:VF D):VF (Option Int):=λvs β=>(fa vs β).bnd λx β1=>match x with
 | .int i=>.ok (some i) β1
 |_=>.bad
theorem lK (ha:SE X Γ E a fa La ma):FF X Γ E (some a) (sv fa) La:=λpins s σ H Q I ⟨env,G,B,β,J,o⟩=>by
 refine uS ha pins s σ H Q I ⟨env,G,B,β,J,o.bnd.imp λd1 β1 h x G1 H1 I1 s1 m1 vx=>?_⟩
 cases d1 with
 |int i=>exact⟨i,(vx.brw J.boxThere).int,h G1 H1 I1 s1 m1⟩
 |_=>exact h.elim
def cutD (xs:List D)(lo hi:Option Int):List D:=(xs.drop (HT.cq xs.length 0 lo)).take (HT.cq xs.length xs.length hi - HT.cq xs.length 0 lo)
def AV {G:Hp}{xs:List V}{ds:List D}(r:bI K G xs ds)(lo hi:Option Int):bI K G (nW xs lo hi) (cutD ds lo hi):=by
 unfold nW cutD
 rw[r.len]
 exact (r.drop _).take _
def DS:km K (λx y H Q=>∃i j,[x,y]= [.int i,.int j]/\Q (.int (if j > i then j else i)) H) (uk λi j=>.int (if j > i then j else i)) .v:=by
 intro B G H x y dx dy d Q s hB bx by' e k
 obtain⟨i,j,rfl,rfl,rfl⟩:=jf e
 obtain rfl:=bx.int
 obtain rfl:=by'.int
 exact⟨i,j,rfl,k _ G H (Ext.refl s) (.int _)⟩
def CN:km K (λx y H Q=>∃i j,[x,y]= [.int i,.int j]/\Q (.int (if j < i then j else i)) H) (uk λi j=>.int (if j < i then j else i)) .v:=by
 intro B G H x y dx dy d Q s hB bx by' e k
 obtain⟨i,j,rfl,rfl,rfl⟩:=jf e
 obtain rfl:=bx.int
 obtain rfl:=by'.int
 exact⟨i,j,rfl,k _ G H (Ext.refl s) (.int _)⟩
end
inductive FB where
 |ok (d:D) (fresh:Bool) (β:Int)
 |bad
def Ee (K:Frag)(n:Nat)(F:List D->Int->FB):Sp:=λvs H Q _=>∃b rest G ds β,vs=.ref b :: rest/\H b=some (.lst [.int β])/\G b=none/\ag G H/\ds.length=n/\bI K G rest ds/\match F ds β with
 | .ok d fr β'=>∀v G' H',fj (some b) H H'->H' b=some (.lst [.int β'])->ag G G'->ag G' H'->(∀c,Mx H c->G c=none->G' c=none)->FV K H G' H' fr d v->Q v H'
 | .bad=>False
structure jA (P:Program)(w:World)(K:Frag)(mg:Str->Option Value)(base:Heap)(x:Str)(ps:List Str)(k:Nat)(F:List D->Int->FB):Prop where
 ex:∃f fd,mg x=some (.ref f)/\PySem.W.keepIn K (.ref f)=true/\Binds K fd ps []/\dw P w K mg base (o5 P w) k f fd ps (Ee K (ps.length - 1) F)
 len:∀ds β,F ds β≠.bad->ds.length=ps.length - 1
def ug (vs:List Nv)(i:Nat):Bool:=match vs[i]? with
 |some .bx=>true
 |_=>false
def iY (i:Nat)(F:List D->Int->FB)(fr:VF (List D)):VF D:=λvs β=>if ug vs i=true then (fr vs β).bnd λds β1=>match F ds β1 with
 | .ok d _ β2=>.ok d β2
 | .bad=>.bad else .bad
def GO (i:Nat)(F:List D->Int->FB)(fr:VF (List D)):VF D:=λvs β=>if ug vs i=true then (fr vs β).bnd λds β1=>match F ds β1 with
 | .ok d true β2=>.ok d β2
 |_=>.bad else .bad
section
variable {X:Cx}{Γ:Fx}{E:XK}{e a b c:Expr}{f fa fb fc:VF D}{L La Lb:List Nat}{md ma mb mc:Md}{pos:Pos}{K:Frag}{es:List Expr}{fr:VF (List D)}
def AF {env:En}{i:Nat}(h:ug (vl env) i=true):env[i]? =some .bx:=by
 unfold ug at h
 split at h
 ·exact EU (by assumption)
 ·cases h
def Ay {env:En}{i j:Nat}{d:D}(h:(fN env i)[j]? =some (.br d)):env[j]? =some (.br d):=by
 unfold fN at h
 split at h
 ·rename_i d' e
  by_cases z:i=j
  ·subst z
   rw[IA (Im.mp e).1] at h;cases h
  ·rw[Iy z] at h;exact h
 ·exact h
theorem Dj {L:List Nat}{env:En}{j:Nat}{d:D}(h:(aO L env)[j]? =some (.br d)):env[j]? =some (.br d):=by
 unfold aO at h
 induction L generalizing env with
 |nil=>exact h
 |cons i L ih=>exact Ay (ih h)
def SR.calledB {p:Addr}{β β':Int}{G1 H1 G2 H2:Hp}{σ:St}{env:En}(I1:SR Γ (some p) G1 H1 σ env β)(h:fj (some p) H1 H2)(hp:H2 p=some (.lst [.int β']))(g:ag G1 G2)(s:ag G2 H2)(n:∀b,Mx H1 b->G1 b=none->G2 b=none):SR Γ (some p) G2 H2 σ env β':=by
 obtain⟨b1,b2,b3⟩:=I1.box p rfl
 refine⟨s,I1.old.trans g,λb n1 n2=>n b (I1.thereM n1) (I1.new b n1 n2),λb o e np=>sR (I1.keep b o e np) h λz=>?_,λb hb=>?_,I1.fix,λb e=>?_,I1.len,λi t e=>?_,I1.sep⟩
 ·cases z
  rcases b3 with b3 |b3
  ·exact np b3
  ·rw[e] at b3;cases b3
 ·by_cases z:p=b
  ·subst z;exact Mx.lst hp
  ·exact (I1.pin b hb).same λo q=>h.1 b o q λy=>z (Option.some.inj y)
 ·cases e
  exact⟨hp,n p (Mx.lst b1) b2,b3⟩
 ·have q:=I1.slot i t e
  cases t with
  |no=>trivial
  |fz d=>obtain⟨v,h1,h2⟩:=q;exact⟨v,h1,h2.mono g⟩
  |ow d=>
   obtain⟨c,h1,h2,h3,h4,h5⟩:=q
   exact⟨c,h1,h2,n c h5.mx h3,h4,h5.mono g λo q=>h.1 c o q h4⟩
  |bx=>exact q
  |br d=>obtain⟨b1,c,h1,h4,hpp,h5⟩:=q;exact⟨b1,c,h1,h4,hpp,h5.mono g λo q=>h.1 c o q h4⟩
theorem A0 {F:List D->Int->FB}{ps:List Str}{Q:VK}{B:Option Addr}{G H:Hp}{σ:St}{env:En}{β:Int}{i:Nat}{p:Addr}(I:SR Γ B G H σ env β)(hK:X.K=Γ.K)(hp:B=some p){wv:Bool}
  (h:Out Γ E (fr (vl env) β) λds β1=>Out Γ E (match F ds β1 with
   | .ok d true β2=>.ok d β2
   | .ok d false β2=>if wv=true then .bad else .ok d β2
   | .bad=>.bad) λd β'=>∀v G' H',SR Γ B G' H' σ (aO L env) β'->ag G G'->fj B H H'->VO Γ.K B H G' H' (if wv=true then .w else .v) d v->Q v H') (hl:∀ds β,F ds β≠.bad->ds.length=ps.length - 1) :
  aT Γ E fr L σ H λvs H1=>Ee X.K (ps.length - 1) F (.ref p :: vs) H1 Q E:=by
 subst hp
 refine⟨env,G,_,β,I,h.imp λds β1 k vs G1 H1 I1 s1 m1 r=>?_⟩
 obtain⟨b1,b2,b3⟩:=I1.box p rfl
 refine⟨p,vs,G1,ds,β1,rfl,b1,b2,I1.sub,hl ds β1 λz=>by rw[z] at k;exact k,by rw[hK];exact r,?_⟩
 cases q:F ds β1 with
 |bad=>rw[q] at k;exact k
 |ok d fr' β2=>
  rw[q] at k
  intro v G' H' hh hb hg hs hn fv
  have I2:=I1.calledB hh hb hg hs hn
  cases fr' with
  |true=>
   obtain⟨c,rfl,p1,p2,p3⟩:∃a,v=.ref a/\H1 a=none/\G' a=none/\Own X.K G' H' a d:=fv
   rw[hK] at p3
   have hp:=fM m1 I1.boxThere p1
   cases wv with
   |true=>exact k _ G' H' I2 (s1.trans hg) (m1.trans hh) ⟨c,rfl,hp,p2,p3⟩
   |false=>
    obtain⟨q1,q2,q3,q4⟩:=I1.fresh p1
    obtain⟨G3,I3,s3,r3⟩:=I2.letIn q1 p2 q3 q4 p3
    exact k _ G3 H' I3 ((s1.trans hg).trans s3) (m1.trans hh) r3
  |false=>
   cases wv with
   |true=>exact k.elim
   |false=>
    have fv:Rp X.K G' v d:=fv
    rw[hK] at fv
    exact k _ G' H' I2 (s1.trans hg) (m1.trans hh) fv
theorem CI {F:List D->Int->FB}{ps:List Str}{Q:VK}{i:Nat}{σ:St}{H:Hp}(hK:X.K=Γ.K){wv:Bool}(hl:∀ds β,F ds β≠.bad->ds.length=ps.length - 1)(h:pT Γ E (if wv=true then GO i F fr else iY i F fr) L (if wv=true then .w else .v) σ H Q) :
  AQ i σ H λx H1=>aT Γ E fr L σ H1 λvs H2=>Ee X.K (ps.length - 1) F (x :: vs) H2 Q E:=by
 obtain⟨env,G,B,β,I,o⟩:=h
 have hi:ug (vl env) i=true:=by
  by_cases hi:ug (vl env) i=true
  ·exact hi
  ·exfalso
   cases wv with
   |true=>simp only[Js] at o;unfold GO at o;rw[HY hi] at o;exact o
   |false=>simp only[Iw,IZ] at o;unfold iY at o;rw[HY hi] at o;exact o
 obtain⟨p,e1,e2⟩:=I.slot i _ (AF hi)
 refine⟨.ref p,e1,A0 (i:=i) (ps:=ps) I hK e2 (wv:=wv) ?_ hl⟩
 cases wv with
 |true=>
  simp only[Js] at o ⊢
  unfold GO at o
  rw[HV hi] at o
  refine o.bnd.imp λds β1 h=>?_
  cases q:F ds β1 with
  |bad=>rw[q] at h;exact h
  |ok d b β2=>rw[q] at h;cases b <;> exact h
 |false=>
  simp only[Iw,IZ] at o ⊢
  unfold iY at o
  rw[HV hi] at o
  refine o.bnd.imp λds β1 h=>?_
  cases q:F ds β1 with
  |bad=>rw[q] at h;exact h
  |ok d b β2=>rw[q] at h;cases b <;> exact h
def fu {x y:Str}{ps:List Str}{k:Nat}{F:List D->Int->FB}{p np:Pos}(i:Nat)(hf:jA X.prog X.w X.K X.mg X.base x ps k F)(hr:dD k X.A)(hx:Passes (o5 X.prog X.w) X E)(hK:X.K=Γ.K)(hg:Gl X x)(ha:SA X Γ E es fr L)(hN:X.N[i]? =some y:=by rfl)(hv:vX X.env.scope y:=by first |exact Or.inl rfl |exact Or.inr (Or.inl rfl) |exact Or.inr (Or.inr rfl))(hd:(y == ("__debug__":Str))=false:=by decide)
  (hcd:(y == ("__classdict__":Str))=false:=by decide) (hdb:(x == ("__debug__":Str))=false:=by decide)
  (he:starEach (.Name y np :: es) X.env=(false,eval (.Name y np) X.env) :: starEach es X.env:=by rfl) (hpl:(backTo pos (starEach es X.env)).any (·.1)=false:=by rfl):SE X Γ E (.Call (.Name x p) (.Name y np :: es) [] pos) (iY i F fr) L .v:=by
 obtain⟨f,fd,hm,hk,hb,hF⟩:=hf.ex
 refine PE.post' (lJ (dvs:=[]) hF hr hg hm hk hb .nil hx (aI (iE hN hv hd hcd) ha he) hdb he hpl) λσ H Q h=>?_
 have:=CI (Q:=Q) (wv:=false) (ps:=ps) hK hf.len (by simpa using h)
 show AQ i σ H λx H1=>aT Γ E fr L σ H1 λvs H2=>Ee X.K (ps.length - 1) F ((x :: vs) ++ []) H2 Q E
 simpa using this
def yB:D->Option Int
 | .list [.int z]=>some z
 |_=>none
def Ah {d:D}{z:Int}(h:yB d=some z):d=.list [.int z]:=by
 unfold yB at h
 split at h
 ·cases h;rfl
 ·cases h
def HR (f0:VF D)(F:List D->Int->FB)(n:Int):VF D:=λvs β=>(f0 vs β).bnd λd0 β1=>match yB d0 with
 |some z=>(match F [.int n] z with
  | .ok d _ _=>.ok d β1
  | .bad=>.bad)
 |none=>.bad
def nV (env:En):En:=env.map λs=>match s with
 | .bx=>.no
 |s=>s
theorem yM {env:En}{i:Nat}{s:Sl}(h:(nV env)[i]? =some s)(n:s≠.no):env[i]? =some s/\s≠.bx:=by
 unfold nV at h
 rw[Ip] at h
 cases e:env[i]? with
 |none=>rw[e] at h;cases h
 |some t=>
  rw[e] at h
  have h:=Option.some.inj h
  cases t with
  |bx=>exact absurd h.symm n
  |no=>exact absurd h.symm n
  |fz d=>subst h;exact⟨rfl,λz=>by cases z⟩
  |ow d=>subst h;exact⟨rfl,λz=>by cases z⟩
  |br d=>subst h;exact⟨rfl,λz=>by cases z⟩
def vK (i:Nat)(L:List Nat)(f:VF D):SF:=λenv β=>toS (f (vl env) β) λd _=>match yB d with
 |some z=>.nx ((nV (aO L env)).set i .bx) z
 |none=>.bad
theorem AN {i:Nat}{x:Str}{pos':Pos}(hbx:Γ.bx=none)(he:SE X Γ E e f L .w)(hN:X.N.Nodup)(hi:X.N[i]? =some x:=by rfl)(hx:Loc X.env.scope x:=by first |exact Or.inl rfl |exact Or.inr rfl)(hs:swapsWith e (some (.Name x pos')) pos.line X.env=pure false:=by rfl)(hf:X.fn x=true\/X.env.scope.names.lookup x=some .local:=by first |exact .inl rfl |exact .inr rfl |assumption) :
  SS X Γ E (.Assign [.Name x pos'] e pos) (vK i L f):=by
 refine PS.post (nj hN hi hx he hs hf) λN σ H ⟨env,G,B,β,I,o⟩=>?_
 refine⟨env,G,B,β,I,cQ o λd β' k v G' H' I' s' m' vo=>?_⟩
 cases q:yB d with
 |none=>rw[q] at k;exact k.elim
 |some z=>
  rw[q] at k
  obtain rfl:=Ah q
  obtain⟨p,rfl,h1,h2,xs,h3,r⟩:=vo
  have hx2:H' p=some (.lst [.int z]):=by
   cases r with
   |cons r1 r2=>
    cases r1
    cases r2
    exact h3
  obtain⟨q1,q2,q3,q4⟩:=I.fresh h1
  refine k (some p) G' H' _ ⟨I'.sub,I'.old,I'.new,I'.keep,I'.pin,λb e=>(by rw[hbx] at e;cases e),λb e=>?_,?_,λj t e=>?_,λj j' c d1 d2 e1 e2 e3 e4=>?_⟩ s'
  ·cases e;exact⟨hx2,h2,.inr q1⟩
  ·rw[JG,JG];unfold nV;rw[IC];exact I'.len
  ·by_cases hj:j=i
   ·subst hj
    by_cases hl:j < (nV (aO L env)).length
    ·rw[IA hl] at e
     cases e
     refine⟨p,?_,rfl⟩
     rw[IA]
     rw[I'.len];unfold nV at hl;simpa using hl
    ·rw[Kc (by rw[JG];omega)] at e;cases e
   ·rw[Iy (Ne.symm hj)] at e ⊢
    by_cases hn:t=.no
    ·subst hn;trivial
    ·obtain⟨e1,nb⟩:=yM e hn
     have w:=I'.slot j t e1
     cases t with
     |no=>trivial
     |fz d=>exact w
     |bx=>exact absurd rfl nb
     |ow d=>
      obtain⟨a',g1,g2,g3,g4,g5⟩:=w
      exact⟨a',g1,g2,g3,λy=>q4 j d (pJ e1) (by cases y;exact g1),g5⟩
     |br d=>
      obtain⟨b1,a',g1,g4,hpp,g5⟩:=w
      have e0:env[j]? =some (.br d):=Dj e1
      obtain⟨_,a2,f1,_,_,f5⟩:=I.slot j _ e0
      rw[g1] at f1;cases f1
      obtain⟨o,ho⟩:=f5.obj
      exact⟨b1,a',g1,λy=>(by cases y;rw[h1] at ho;cases ho),hpp,g5⟩
  ·have back:∀{j:Nat} {d1:D},((nV (aO L env)).set i Sl.bx)[j]? =some (.ow d1)->j≠i/\(aO L env)[j]? =some (.ow d1):=λ{j d1} e=>by
    by_cases hj:j=i
    ·subst hj
     by_cases hl:j < (nV (aO L env)).length
     ·rw[IA hl] at e;cases e
     ·rw[Kc (by rw[JG];omega)] at e;cases e
    ·rw[Iy (Ne.symm hj)] at e
     exact⟨hj,(yM e (λy=>by cases y)).1⟩
   obtain⟨n1,w1⟩:=back e1
   obtain⟨n2,w2⟩:=back e2
   rw[Iy (Ne.symm n1)] at e3
   rw[Iy (Ne.symm n2)] at e4
   exact I'.sep j j' c d1 d2 w1 w2 e3 e4
end
section
variable {P:Program}{w:World}{K:Frag}{mg:Str->Option Value}{base:Heap}{ca:Str->Addr}
def xD:SO->FB
 | .nx _ β=>.ok .none false β
 | .rt d fr β=>.ok d fr β
 |_=>.bad
def tJ (n:Nat)(ds:List D):En:=.bx :: ds.map Sl.fz ++ List.replicate (n - 1 - ds.length) .no
def kL (n p:Nat)(m:SF):List D->Int->FB:=λds β=>if ds.length=p then xD (m (tJ n ds) β) else .bad
abbrev Fx.fb (K:Frag)(H G:Hp)(ca:Str->Addr)(b:Addr):Fx:=⟨K,H,G,[b],ca,λ_=>false,some b⟩
def SR.startB {H G:Hp}{N:List Str}{b:Addr}{vs:List V}{ds:List D}{β:Int}(s:ag G H)(hb:H b=some (.lst [.int β]))(gb:G b=none)(r:bI K G vs ds)(hn:ds.length + 1<=N.length):SR (Fx.fb K H G ca b) (some b) G H (L2.start N (.ref b :: vs)) (tJ N.length ds) β:=by
 have hl:=r.len
 refine⟨s,ag.refl _,λc _ h=>h,λc o h _=>Kt.of h,λc h=>?_,λc h=>h,λc h=>?_,?_,λi t e=>?_,λi j a d e h=>?_⟩
 ·have:c=b:=by simpa using h
  subst this;exact Mx.lst hb
 ·cases h;exact⟨hb,gb,.inl (by simp)⟩
 ·unfold L2.start tJ;simp;omega
 ·cases i with
  |zero=>
   unfold tJ at e
   cases e
   exact⟨b,rfl,rfl⟩
  |succ i=>
   unfold tJ at e
   have e:(ds.map Sl.fz ++ List.replicate (N.length - 1 - ds.length) Sl.no)[i]? =some t:=by simpa using e
   by_cases hi:i < ds.length
   ·rw[Jd (by simpa using hi),Ip,HU hi] at e
    cases e
    obtain⟨x,hx,rx⟩:=r.at (HU hi)
    refine⟨x,?_,rx⟩
    unfold L2.start
    have hi':i < vs.length:=by rw[hl];exact hi
    rw[Jd (by simp;exact hi'),Ip,List.getElem?_cons_succ,hx];rfl
   ·rw[Jb (by simpa using hi),JO] at e
    split at e
    ·cases e;trivial
    ·cases e
 ·unfold tJ at h
  have hm:=Ij h
  rcases Ih.mp hm with z |hm
  ·cases z
  rcases Iu.mp hm with z |z
  ·obtain⟨_,_,z⟩:=Iz.mp z;cases z
  ·have:=K8 z;cases this
def kj {x qual:Str}{st:Stmt}{f:Addr}{fd:FuncData}{N:List Str}{ps:List Str}{k:Nat}{m:SF}(F:z5 K x qual st f fd)(S:aK N ps (av st))(hp:1<=ps.length)
  (hbody:∀(cdv:Value) (A:Around) (outer:List Env) (s:Shared) (H G:Hp) (b:Addr) (E:XK),dD k (A.deeper (envOfC qual (av st) s.heap.objs.size f cdv))->z9 (nX (o5 P w) P w K mg base N qual (av st) f cdv A outer s H E) (Fx.fb K H G ca b) E (bY st) m) :
  dw P w K mg base (o5 P w) (k + 1) f fd ps (Ee K (ps.length - 1) (kL N.length (ps.length - 1) m)):=by
 have hpn:ps.length<=N.length:=by have:=congrArg List.length S.pre;rw[Jf] at this;omega
 refine F.xF S (λvs H Q E h=>?_) (λcdv A outer s H vs Q E hr h=>?_)
 ·obtain⟨b,rest,G,ds,β,rfl,hb,gb,sG,hl,r,_⟩:=h
  rw[Iv,r.len];omega
 ·obtain⟨b,rest,G,ds,β,rfl,hb,gb,sG,hl,r,h⟩:=h
  refine⟨_,hbody cdv A outer s H G b E hr,?_⟩
  have I:=SR.startB (ca:=ca) (N:=N) sG hb gb r (by omega)
  refine⟨_,G,some b,β,I,?_⟩
  unfold kL at h
  rw[HV hl] at h
  have fin':∀{B G' H' σ env β},SR (Fx.fb K H G ca b) B G' H' σ env β->fj (some b) H H'/\H' b=some (.lst [.int β]):=λJ=>by
   have e:=J.fix b rfl
   have k:∀c o,H c=some o->some b≠some c->Kt _ c o:=λc o ec n=>J.keep c o ec λz=>n (show some b=some c by rw[show c=b by simpa using z])
   exact⟨⟨k,λc o u ec=>k c _ ec λz=>by cases z;rw[hb] at ec;cases ec⟩,(J.box b e).1⟩
  cases q:m (tJ N.length ds) β with
  |nx env β'=>rw[q] at h;exact λB G' H' σ J s'=>h .non G' H' (fin' J).1 (fin' J).2 s' J.sub (λc h1 h2=>J.new c h1 h2) Rp.non
  |bk env β'=>rw[q] at h;exact h.elim
  |ct env β'=>rw[q] at h;exact h.elim
  |rt d fr β'=>
   rw[q] at h
   refine λB G' H' σ env v J s' rv=>h v G' H' (fin' J).1 (fin' J).2 s' J.sub (λc h1 h2=>J.new c h1 h2) ?_
   cases fr with
   |true=>exact rv
   |false=>exact rv
  |exc c=>rw[q] at h;exact h.elim
  |bad=>rw[q] at h;exact h.elim
def j5 {n p:Nat}{m:SF}(ds:List D)(β:Int)(h:kL n p m ds β≠.bad):ds.length=p:=by
 unfold kL at h
 by_cases hl:ds.length=p
 ·exact hl
 ·rw[HY hl] at h;exact absurd rfl h
end
def aA (p:Pr):D:=.tuple [.int p.1,.int p.2]
def qE:D->Option Pr
 | .tuple [.int a,.int b]=>some (a,b)
 |_=>none
def zo {d:D}{p:Pr}(h:qE d=some p):d=aA p:=by
 unfold qE at h
 split at h
 ·cases h;rfl
 ·cases h
def xp (p:Pr):qE (aA p)=some p:=rfl
def dc:List D->Option (List Pr)
 | []=>some []
 |d :: ds=>match qE d,dc ds with
  |some p,some ps=>some (p :: ps)
  |_,_=>none
theorem iV:∀{ds:List D} {ps:List Pr},dc ds=some ps->ds=ps.map aA
 | [],ps,h=>by cases h;rfl
 |d :: ds,ps,h=>by
  unfold dc at h
  split at h
  ·rename_i p qs h1 h2;cases h;rw[zo h1,iV h2];rfl
  ·cases h
theorem eN:∀ps:List Pr,dc (ps.map aA)=some ps
 | []=>rfl
 |p :: ps=>by
  show (match qE (aA p),dc (ps.map aA) with
   |some p,some ps=>some (p :: ps)
   |_,_=>none)=_
  rw[xp,eN ps]
section
variable {K:Frag}{X:Cx}{G H:Hp}
theorem bI.pairs:∀{ps:List Pr} {xs:List V},bI K G xs (ps.map aA)->aE K G xs ps
 | [],_,.nil=>.nil
 |p :: ps,_,.cons r t=>by
  cases r with
  |tup hq r=>
   cases r with
   |cons r1 r=>
    cases r with
    |cons r2 r=>cases r;cases r1;cases r2;exact .cons ⟨_,rfl,hq⟩ (bI.pairs t)
theorem aE.rps:∀{ps:List Pr} {xs:List V},aE K G xs ps->bI K G xs (ps.map aA)
 | [],_,.nil=>.nil
 |p :: ps,_,.cons r t=>by
  obtain⟨a,rfl,q⟩:=r
  exact .cons (.tup q (.cons (.int _) (.cons (.int _) .nil))) (aE.rps t)
def DY (p:Pr):Bool:=decide (0<=p.1) && decide (p.1 < 8) && decide (0<=p.2) && decide (p.2 < 8)
def Cy {p:Pr}(h:DY p=true):Sm p:=by
 unfold DY at h
 simp only[IE,Jh] at h
 exact⟨⟨h.1.1.1,h.1.1.2⟩,h.1.2,h.2⟩
variable {Γ:Fx}{E:XK}{e a b c:Expr}{f fa fb fc:VF D}{L La Lb:List Nat}{md ma mb mc:Md}{pos:Pos}
def qZ {g:D->Option D}{p1 p2 pos2:Pos}(hgo:∀d r,g d=some r->∃ds ps,kh d=some ds/\dc ds=some ps/\ps.all DY=true/\(∀m,m<=(OM.aX 8 (OM.Mem ps)).length->L2.ST.jQ m)/\r=.list ((OM.aX 8 (OM.Mem ps)).map aA))(hc:X.calm=true)(hu:X.A.units + 64 < cLine)(hK:X.K=Γ.K)(hg:Gl X "sorted")(hm:X.mg "sorted"=none)(hg2:Gl X "set")(hm2:X.mg "set"=none)(ha:SE X Γ E a fa La ma)
  (he:starEach [a] X.env=(false,eval a X.env) :: starEach [] X.env:=by rfl)
  (he2:starEach [.Call (.Name "set" p2) [a] [] pos2] X.env=(false,eval (.Call (.Name "set" p2) [a] [] pos2) X.env) :: starEach [] X.env:=by rfl) :
  SE X Γ E (.Call (.Name "sorted" p1) [.Call (.Name "set" p2) [a] [] pos2] [] pos) (f1 fa g) La .w:=by
 refine PE.post' (iw (pF hc) hg hm (by decide +kernel) (aI (fS (yE hc hu) hg2 hm2 (by decide +kernel) (aI ha bh he) (by decide) (by decide) he) bh he2) (by decide) (by decide) he2) λσ H Q ⟨env,G,B,β,I,o⟩=>?_
 refine gm (r:=λx H1 Q=>D6 X.prog X.w X.K [x] H1 λy H2=>rP X.prog X.w X.K [y] H2 Q) ?_ I o
 intro B G H x dx d Q s hB bx e k
 rw[hK]
 obtain⟨ds,ps,q,q2,h1,h2,rfl⟩:=hgo _ _ e
 obtain⟨p,xs,rfl,hq,r⟩:=bx.seq q s
 rw[iV q2] at r
 have pv:=(r.mono s).pairs
 have sm:∀p,p∈ps->Sm p:=λp hp=>Cy (JH.mp h1 p hp)
 refine⟨p,xs,ps,rfl,hq,pv,sm,λS qs hS hpv nd hm=>?_⟩
 have qsl:L2.ST.jQ qs.length:=by
  have:(pq qs).length<=(OM.aX 8 (OM.Mem ps)).length:=OM.nh nd λx hx=>by
   have hx':=(hm x).mp hx
   have hs:=sm x hx'
   exact OM.aJ.mpr ⟨⟨⟨hs.1.1,hs.1.2⟩,hs.2.1,hs.2.2⟩,hx'⟩
  simp only[IC] at this
  exact h2 _ this
 have xS:=Ext.own s (o:=wo X.prog X.w S qs) hS
 refine⟨S,qs,rfl,aq,hpv.grow (fk.new hS),λp hp=>sm p ((hm p).mp hp),nd,qsl,λl ws rs hl hpw hr hmem=>?_⟩
 have ers:rs=OM.aX 8 (OM.Mem ps):=OM.fD hr (OM.bV _ _) λx=>by
  rw[hmem x,hm x,OM.aJ]
  constructor
  ·intro hx;have hs:=sm x hx;exact⟨⟨⟨hs.1.1,hs.1.2⟩,hs.2.1,hs.2.2⟩,hx⟩
  ·intro hx;exact hx.2
 subst ers
 have hlH:H l=none:=by
  by_cases z:l=S
  ·subst z;exact hS
  ·rw[ao z] at hl;exact hl
 have lS:l≠S:=λz=>by subst z;rw[aq] at hl;cases hl
 have hh:ag H (upd (upd H S (wo X.prog X.w S qs)) l (.lst ws)):=(ag.new hS).trans (ag.new hl)
 have xx:=Ext.tups s hh
 refine k _ _ _ xx ⟨l,rfl,hlH,?_,ws,aq,?_⟩
 ·unfold ku
  rw[s.free hlH,aq]
  exact HY λy=>y
 ·refine aE.rps (Paired.mapP hpw λv p ⟨a,ea,qa⟩=>⟨a,ea,mn (s.trans hh) ?_⟩)
  exact qa.grow (fk.new hl)
end
section
variable {K:Frag}{X:Cx}{G H:Hp}{Γ:Fx}{E:XK}{e a b c:Expr}{f fa fb fc:VF D}{L La Lb:List Nat}{md ma mb mc:Md}{pos apos cpos np:Pos}
def eH:D->Option D
 | .int n=>if 0<=n/\n<=1000 then some (.list (cx 0 n.toNat)) else none
 |_=>none
def we (n:Nat):bI K G ((List.range n).map λ(i:Nat)=>V.int (i:Int)) (cx 0 n):=by
 have key:∀l:List Nat,bI K G (l.map λ(i:Nat)=>V.int (i:Int)) (l.map λ(k:Nat)=>int (0 + k)):=by
  intro l
  induction l with
  |nil=>exact .nil
  |cons x l ih=>exact .cons (by show Rp K G (.int (x:Int)) (.int (0 + (x:Int)));rw[K9];exact .int _) ih
 exact key _
theorem uE {p1 p2 pos2:Pos}(hc:X.calm=true)(hg:Gl X "list")(hm:X.mg "list"=none)(hg2:Gl X "range")(hm2:X.mg "range"=none)(ha:SE X Γ E a fa La ma)
  (he:starEach [a] X.env=(false,eval a X.env) :: starEach [] X.env:=by rfl)
  (he2:starEach [.Call (.Name "range" p2) [a] [] pos2] X.env=(false,eval (.Call (.Name "range" p2) [a] [] pos2) X.env) :: starEach [] X.env:=by rfl) :
  SE X Γ E (.Call (.Name "list" p1) [.Call (.Name "range" p2) [a] [] pos2] [] pos) (f1 fa eH) La .w:=by
 refine PE.post' (fS (nK hc) hg hm (by decide +kernel) (aI (fS yk hg2 hm2 (by decide +kernel) (aI ha bh he) (by decide) (by decide) he) bh he2) (by decide) (by decide) he2) λσ H Q ⟨env,G,B,β,I,o⟩=>?_
 refine gm (r:=λx H1 Q=>∃n:Int,[x]= [.int n]/\∀p,H1 p=none->(λ(y:V) (H2:Hp)=>∃(p:Addr) (n:Int),[y]= [V.ref p]/\H2 p=some (.ly 0 n)/\0<=n/\n<=1000/\∀l,H2 l=none->Q (.ref l) (upd H2 l (.lst ((List.range n.toNat).map λ(i:Nat)=>V.int (i:Int))))) (V.ref p) (upd H1 p (.ly 0 n))) ?_ I o
 intro B G H x dx d Q s hB bx e k
 cases dx with
 |int n=>
  obtain rfl:=bx.int
  simp only[eH] at e
  split at e
  ·rename_i hh
   cases e
   refine⟨n,rfl,λp hp=>⟨p,n,rfl,aq,hh.1,hh.2,λl hl=>?_⟩⟩
   have hlp:l≠p:=λz=>by subst z;rw[aq] at hl;cases hl
   have hlH:H l=none:=by rw[ao hlp] at hl;exact hl
   have x1:=Ext.own s (o:=.ly 0 n) hp
   have x2:=Ext.own x1.gh (o:=.lst ((List.range n.toNat).map λ(i:Nat)=>V.int (i:Int))) hl
   exact k _ _ _ (x1.trans x2) ⟨l,rfl,hlH,s.free hlH,_,aq,we _⟩
  ·cases e
 |_=>cases e
def BF:D->Option D
 | .int i=>some (.int (if i < 0 then -i else i))
 |_=>none
theorem Fp:xN K (λx H Q=>∃i,[x]= [.int i]/\Q (.int (if i < 0 then -i else i)) H) BF .v:=by
 intro B G H x dx d Q s hB bx e k
 cases dx with
 |int i=>cases e;obtain rfl:=bx.int;exact⟨i,rfl,k _ G H (Ext.refl s) (.int _)⟩
 |_=>cases e
noncomputable def G7 (d:D):Option D:=match d with
 | .list ds=>(match dc ds with
  |some ps=>if ps.all DY=true/\ps.Nodup/\ps.length < 64 then some (.list ((OM.aX 8 (OM.Mem ps)).map aA)) else none
  |none=>none)
 |_=>none
def wW (ds:List D)(k:D):Option (D×List D):=match k with
 | .int i=>if -(2 ^ 63)<=i/\i < 2 ^ 63 then (match seqIndex? i ds.length with
  |some n=>(match ds[n]? with
   |some d=>some (d,ds.eraseIdx n)
   |none=>none)
  |none=>none) else none
 |_=>none
def gQ (i j:Nat)(L:List Nat)(f:VF D):SF:=λenv β=>if uo env[i]? =true/\uo env[j]? =true/\i≠j then toS (f (vl env) β) λk β'=>match (aO L env)[j]? with
 |some (.ow (.list es))=>(match wW es k with
  |some (d,es')=>D3 i ((aO L env).set j (.ow (.list es'))) β' λds=>if ds.length < sizeLine then some (ds ++ [d]) else none
  |none=>.bad)
 |_=>.bad else .bad
theorem bI.eraseIdx:∀{xs:List V} {ds:List D} (i:Nat),bI K G xs ds->bI K G (xs.eraseIdx i) (ds.eraseIdx i)
 |_,_,_,.nil=>.nil
 |_,_,0,.cons _ t=>t
 |_,_,i + 1,.cons r t=>.cons r (bI.eraseIdx i t)
theorem xo (i j:Nat){x y:Str}{np2 apos2 cpos2:Pos}(hb:∀j,Γ.br j=false)(he:SE X Γ E e f L md)(hN:X.N[i]? =some x:=by rfl)(hv:vX X.env.scope x:=by first |exact Or.inl rfl |exact Or.inr (Or.inl rfl) |exact Or.inr (Or.inr rfl))(hd:(x == ("__debug__":Str))=false:=by decide)
  (hcd:(x == ("__classdict__":Str))=false:=by decide)
  (hN2:X.N[j]? =some y:=by rfl) (hv2:vX X.env.scope y:=by first |exact Or.inl rfl |exact Or.inr (Or.inl rfl) |exact Or.inr (Or.inr rfl)) (hd2:(y == ("__debug__":Str))=false:=by decide)
  (hcd2:(y == ("__classdict__":Str))=false:=by decide)
  (hbase:attributeBase (.Name x np) "append" X.env (eval (.Name x np) X.env)=eval (.Name x np) X.env:=by rfl)
  (hfew:((backTo cpos (starEach [.Call (.Attribute (.Name y np2) "pop" apos2) [e] [] cpos2] X.env)).all (λx=> !x.1) && (backToKw cpos (keywordEach [] X.env)).all (λx=>x.1.isSome)
   && decide ([Expr.Call (.Attribute (.Name y np2) "pop" apos2) [e] [] cpos2].length + ([]:List Keyword).length + (if ([]:List Keyword).isEmpty then 0 else 1) < 30))=true:=by rfl)
  (hline:(apos.endLine == cpos.line)=true:=by rfl) (hs:starEach [.Call (.Attribute (.Name y np2) "pop" apos2) [e] [] cpos2] X.env=(false,eval (.Call (.Attribute (.Name y np2) "pop" apos2) [e] [] cpos2) X.env) :: starEach [] X.env:=by rfl)
  (hbase2:attributeBase (.Name y np2) "pop" X.env (eval (.Name y np2) X.env)=eval (.Name y np2) X.env:=by rfl)
  (hfew2:((backTo cpos2 (starEach [e] X.env)).all (λx=> !x.1) && (backToKw cpos2 (keywordEach [] X.env)).all (λx=>x.1.isSome)
   && decide ([e].length + ([]:List Keyword).length + (if ([]:List Keyword).isEmpty then 0 else 1) < 30))=true:=by rfl)
  (hline2:(apos2.endLine == cpos2.line)=true:=by rfl) (hs2:starEach [e] X.env=(false,eval e X.env) :: starEach [] X.env:=by rfl)
  (hsw:swapsWith (.Call (.Attribute (.Name x np) "append" apos) [.Call (.Attribute (.Name y np2) "pop" apos2) [e] [] cpos2] [] cpos) none pos.line X.env=pure false:=by rfl) :
  SS X Γ E (.Expr (.Call (.Attribute (.Name x np) "append" apos) [.Call (.Attribute (.Name y np2) "pop" apos2) [e] [] cpos2] [] cpos) pos) (gQ i j L f):=by
 refine PS.post (vS (zM PySem.F.plainAttrs_list PySem.F.slot_list_append PySem.F.type_list_append ko (iE hN hv hd hcd)
  (aI (zM PySem.F.plainAttrs_list PySem.F.slot_list_pop PySem.F.type_list_pop yI (iE hN2 hv2 hd2 hcd2) (aI he bh hs2) hbase2 hfew2 hline2 hs2 rfl) bh hs) hbase hfew hline hs rfl) hsw) λN σ H ⟨env,G,B,β,I,o⟩=>?_
 unfold gQ at o
 by_cases hO:uo env[i]? =true/\uo env[j]? =true/\i≠j
 case neg=>rw[HY hO] at o;exact o.elim
 rw[HV hO] at o
 obtain⟨hO1,hO2,hij⟩:=hO
 obtain⟨ds0,q0⟩:=pk hO1
 obtain⟨es0,w0⟩:=pk hO2
 obtain⟨p,h1,_,_,_,xs,h5,_⟩:=I.slot i _ q0
 obtain⟨q,k1,_,_,_,ys,k5,_⟩:=I.slot j _ w0
 refine⟨_,h1,.inl ⟨rfl,xs,.inl (.inl h5)⟩,?_⟩
 refine⟨_,k1,.inl ⟨rfl,ys,.inl (.inl k5)⟩,?_⟩
 refine⟨env,G,B,β,I,cQ o λkd β' k v G' H' I' s' m' vo=>?_⟩
 cases ej:(aO L env)[j]? with
 |none=>rw[ej] at k;exact k.elim
 |some sj=>
  rw[ej] at k
  cases sj with
  |ow dj=>
   cases dj with
   |list es=>
    dsimp only at k
    cases ep:wW es kd with
    |none=>rw[ep] at k;exact k.elim
    |some pr=>
     obtain⟨d,es'⟩:=pr
     rw[ep] at k
     dsimp only at k
     unfold wW at ep
     cases kd <;> first | (cases ep;done) |skip
     rename_i ii
     dsimp only at ep
     split at ep
     ·rename_i hr
      cases eI:seqIndex? ii es.length with
      |none=>rw[eI] at ep;cases ep
      |some n=>
       rw[eI] at ep
       dsimp only at ep
       cases eD:es[n]? with
       |none=>rw[eD] at ep;cases ep
       |some d0=>
        rw[eD] at ep
        cases ep
        obtain rfl:=(vo.brw I.boxThere).int
        obtain⟨q',g1,_,_,_,zs,g5,g6⟩:=I'.slot j _ ej
        rw[k1] at g1;cases g1
        obtain⟨xv,ex,rx⟩:=g6.at eD
        refine⟨q,zs,ii,n,xv,rfl,rfl,g5,hr.1,hr.2,by rw[g6.len];exact eI,ex,?_⟩
        have I2:=I'.write hb ej k1 (o:=.lst (zs.eraseIdx n)) (d':=.list (es.eraseIdx n)) λH2 e2 s2=>⟨_,e2,g6.eraseIdx n⟩
        obtain⟨ds,fs,eq,eg,k⟩:=vC k
        by_cases hz:ds.length < sizeLine
        case neg=>rw[HY hz] at eg;cases eg
        rw[HV hz] at eg
        cases eg
        obtain⟨p',f1,_,_,_,us,f5,f6⟩:=I2.slot i _ eq
        rw[h1] at f1;cases f1
        refine⟨p,us,xv,rfl,rfl,f5,by rw[f6.len];exact hz,?_⟩
        exact k B G' _ σ (I2.write hb eq h1 λH2 e2 s2=>⟨_,e2,f6.snoc rx⟩) s'
     ·cases ep
   |_=>exact k.elim
  |_=>exact k.elim
end
def bM:List D->Int->FB
 | [.int m],β=>if 0 < m/\m < 1073741824 then .ok (.int (β % m)) false (β / m) else .bad
 |_,_=>.bad
def uR {ds:List D}{β:Int}(h:bM ds β≠.bad):∃m,ds= [.int m]/\0 < m/\m < 1073741824:=by
 unfold bM at h
 split at h
 ·rename_i m
  by_cases hh:0 < m/\m < 1073741824
  ·exact⟨m,rfl,hh.1,hh.2⟩
  ·rw[HY hh] at h;exact absurd rfl h
 ·exact absurd rfl h
def pZ {m β:Int}(h0:0 < m)(h1:m < 1073741824):bM [.int m] β=.ok (.int (β % m)) false (β / m):=HV ⟨h0,h1⟩
def constsOf:List Expr->Option (List Int)
 | []=>some []
 | .Constant (.int i) _ _ :: es=>(constsOf es).map λr=>i :: r
 |_=>none
def Hv (ns:List Int):VF (List D):=λ_ β=>.ok (ns.map int) β
theorem ot {X:Cx}{Γ:Fx}{E:XK}:∀{es:List Expr} {ns:List Int},constsOf es=some ns->SA X Γ E es (Hv ns) []
 | [],ns,h=>by
  have e:ns= []:=by unfold constsOf at h;exact (Option.some.inj h).symm
  subst e
  exact au
 |e :: es,ns,h=>by
  unfold constsOf at h
  split at h
  ·cases ‹_ :: _= []›
  ·next i a b es' heq=>
   cases heq
   cases q:constsOf es with
   |none=>rw[q] at h;cases h
   |some r=>
    rw[q] at h
    have e2:i :: r=ns:=Option.some.inj h
    subst e2
    exact ae ak (ot q) rfl
  ·cases h
section
variable {P:Program}{w:World}{K:Frag}{mg:Str->Option Value}{base:Heap}
def AZ {X:Cx}{i j:Nat}{x y:Str}{px py pos:Pos}{k:Nat}(hN:X.N.Nodup)(hi:X.N[i]? =some x)(hj:X.N[j]? =some y)(hx:X.env.scope.names.lookup x=some .local)(hy:X.env.scope.names.lookup y=some .local)(hc:X.calm=true) :
  PG X (.Tuple [.Name x px,.Name y py] k pos) (By X.K 2 (nz (i7 i) (nz (i7 j) Ao))):=
 l5 hc (cv (bZ hN hi (Or.inl hx) (Or.inr hx)) (cv (bZ hN hj (Or.inl hy) (Or.inr hy)) jJ))
def ya {b:Addr}{β m:Int}{H:Hp}{Q:VK}{G:Hp}(hb:H b=some (.lst [.int β]))(s:ag G H){p:Addr}(hp:H p=none)
  (kk:∀v G' H',fj (some b) H H'->H' b=some (.lst [.int (β / m)])->ag G G'->ag G' H'->(∀c,Mx H c->G c=none->G' c=none)->FV K H G' H' false (.int (β % m)) v->Q v H') (gb:G b=none) :
  Q (.int (β % m)) (upd (upd H p (.tup [.int (β / m),.int (β % m)])) b (.lst [.int (β / m)])):=by
 have hbp:b≠p:=ax hb hp
 refine kk _ G _ ⟨λc o e n=>Kt.of (by rw[ao (λz=>n (by rw[z])),ao (ax e hp)];exact e),λc o u e=>by rw[ao (λz=>by rw[z,hb] at e;cases e),ao (ax e hp)];exact e⟩ aq (ag.refl _) (λc o e=>?_) (λc _ h=>h) (.int _)
 obtain⟨u,eu,_⟩:=(s c o e).some
 exact iA (iA (s c o e) (ax eu hp) λx y w=>by rw[hp] at w;cases w) (λz=>by rw[z,gb] at e;cases e) λx y w=>by rw[ao hbp,hb] at w;cases w
end
end L2
namespace L2
open PySem PySem.SeqAt PySem.Spec PyProof.Rows
section
variable {K:Frag}{X:Cx}{G H:Hp}{Γ:Fx}{E:XK}{e a b c:Expr}{f fa fb fc:VF D}{L La Lb:List Nat}{md ma mb mc:Md}{pos apos cpos np:Pos}
def og:List D->Option (List Int)
 | []=>some []
 | .int i :: ds=>(og ds).map (i :: ·)
 |_=>none
theorem qx:∀{ds:List D} {ns:List Int},og ds=some ns->ds=ns.map int
 | [],ns,h=>by cases h;rfl
 | .int i :: ds,ns,h=>by
  unfold og at h
  cases q:og ds with
  |none=>rw[q] at h;cases h
  |some ms=>rw[q] at h;cases h;rw[qx q];rfl
 | .none :: _,_,h=>by cases h
 | .bool _ :: _,_,h=>by cases h
 | .str _ :: _,_,h=>by cases h
 | .list _ :: _,_,h=>by cases h
 | .tuple _ :: _,_,h=>by cases h
 | .dict _ :: _,_,h=>by cases h
def qW (t:Tg)(L:List Nat)(f:VF D):SF:=λenv β=>toS (f (vl env) β) λd β'=>match cM t d (aO L env) with
 |some env'=>.nx env' β'
 |none=>.bad
theorem yg {t:Tg}{tg:Expr}(he:SE X Γ E e f L .v)(hg:SG X Γ tg t)(hs:swapsWithSole [tg] e pos.line X.env=pure false:=by rfl)(hw:swappedStores [tg] e X.env=pure none:=by rfl)
  (h1:(assignEach [tg] X.env).map (·.2)= [assign tg X.env]:=by rfl):SS X Γ E (.Assign [tg] e pos) (qW t L f):=by
 refine PS.post (nv he hg hs hw h1) λN σ H ⟨env,G,B,β,I,o⟩=>?_
 refine⟨env,G,B,β,I,cQ o λd β' k v G' H' I' s' m' vo=>?_⟩
 cases q:cM t d (aO L env) with
 |none=>rw[q] at k;exact k.elim
 |some env'=>
  rw[q] at k
  exact⟨_,G',B,β',d,env',I',vo,q,λσ' J=>k B G' H' σ' J s'⟩
end
end L2
namespace L2
open PySem PySem.Spec PyProof.Rows
section
variable {K:Frag}{X:Cx}{G H:Hp}
def DK (neg:Bool):D->D->Option D
 | .str x,.str y=>some (.bool (if neg then !decide (x=y) else decide (x=y)))
 |_,_=>none
def xZ (x y:Str):decide (V.str x=V.str y)=decide (x=y):=by
 rw[Jz];simp
def E3:km K Hq (DK true) .v:=by
 intro B G H x y dx dy d Q s hB bx by' e k
 cases dx <;> cases dy <;> first | (cases e;done) |skip
 cases e
 obtain rfl:=bx.str
 obtain rfl:=by'.str
 refine⟨rfl,?_⟩
 rw[xZ]
 exact k _ G H (Ext.refl s) (.bl _)
end
section
variable {κ:Type}[DecidableEq κ]
def putK (kvs:List (κ×V))(k:κ)(v:V):List (κ×V):=
 if (kvs.any λkv=>decide (kv.1=k))=true then kvs.map (λkv=>if kv.1=k then (kv.1,v) else kv) else kvs ++ [(k,v)]
def rn (kvs:List (κ×V))(k:κ)(v:V):(putK kvs k v).length<=kvs.length + 1:=by
 unfold putK
 split
 ·rw[IC];omega
 ·rw[IQ,Iv,JR];omega
theorem KV.any {kvs:List (κ×V)}{vs:List (κ×Value)}(r:KV kvs vs)(k:κ):(kvs.any λkv=>decide (kv.1=k))=vs.any λkv=>decide (kv.1=k):=by
 unfold KV at r
 induction r with
 |nil=>rfl
 |cons h t ih=>rw[any_cons,any_cons,ih,h.1]
theorem KV.repl {kvs:List (κ×V)}{vs:List (κ×Value)}(r:KV kvs vs)(k:κ){y:V}{u:Value}(ry:RelV y u) :
  KV (kvs.map λkv=>if kv.1=k then (kv.1,y) else kv) (vs.map λkv=>if kv.1=k then (kv.1,u) else kv):=by
 unfold KV at r ⊢
 induction r with
 |nil=>exact .nil
 | @cons p q ps qs h t ih=>
  rw[Jp,Jp]
  refine .cons ?_ ih
  obtain⟨h1,h2⟩:=h
  by_cases e:p.1=k
  ·rw[HV e,HV (h1.symm.trans e)];exact⟨h1,ry⟩
  ·rw[HY e,HY (λz=>e (h1.trans z))];exact⟨h1,h2⟩
def KV.put {kvs:List (κ×V)}{vs:List (κ×Value)}(r:KV kvs vs)(k:κ){y:V}{u:Value}(ry:RelV y u):KV (putK kvs k y) (stored vs k u):=by
 unfold putK stored
 rw[r.any k]
 by_cases e:(vs.any λkv=>decide (kv.1=k))=true
 ·rw[HV e,HV e];exact r.repl k ry
 ·rw[HY e,HY e];exact Paired.snoc r ⟨rfl,ry⟩
end
theorem Ej {P:Program}{w:World}{k:Key}{u:Value}(r:RelV (kV k) u):(cA P w).is k u=true:=by
 cases k with
 |inl i=>obtain⟨t,e⟩:=(show ∃t,u=Value.int i t from r);subst e;exact qF P w i t
 |inr x=>obtain⟨t,e⟩:=(show ∃t,u=Value.str x t from r);subst e;exact qB P w x t
section
variable {P:Program}{w:World}{H:Hp}{h:Heap}{a:Addr}
def EW {u:HO}(ok:je P w H h)(e:Rd H a u):bw P w H h a u:=e.ok ok
def EI {kvs:List (Key×V)}(ok:je P w H h)(e:Rd H a (.dK kvs)):kvs.length<=sizeLine/\(a == sysModules)=false/\∃vs,KV kvs vs/\h.DictOf (cA P w) a vs:=
 show bw P w H h a (.dK kvs) from EW ok e
def Cg {kvs:List (Key×V)}(ok:je P w H h)(e:H a=some (.dK kvs)):kvs.length<=sizeLine/\(a == sysModules)=false/\∃vs,KV kvs vs/\h.DictOf (cA P w) a vs:=EI ok (.inl e)
end
section
variable {X:Cx}{pins:List (Addr×Obj)}{σ:St}{H:Hp}{s:Shared}{a:Addr}{y v:V}{u r:Value}{o:Option V}{A:Around}{E:Value->Shared->Prop}
def Inv.big (I:Inv X pins σ H s):sysModules < s.heap.objs.size:=by
 have h:mainGlobals < s.heap.objs.size:=(I.mod.glob.keeps I.bk).lt
 exact Ko (by decide) h
def BE {h':Heap}{t':Nat}{ob:HO}(I:Inv X pins σ H s)(mu:E1 (H a))(hs:Heap.SameBut a s.heap h')(he:∃q,h'.get? a=some q)(new:bw X.prog X.w (upd H a ob) h' a ob) :
  Inv X pins σ (upd H a ob) {s with heap:=h',toks:=t'}:=
 I.write (x:=a) (e:=a) mu (.inl rfl) (λb q hb z=>(hs.2 b hb).trans z) he new
def C2 {P:Program}{w:World}{H':Hp}{h':Heap}{kvs:List (Key×V)}{vs:List (Key×Value)}(z:kvs.length<=sizeLine)(hd:(a == sysModules)=false)(rel:KV kvs vs)(dd:h'.DictOf (cA P w) a vs) :
  bw P w H' h' a (.dK kvs):=⟨z,hd,vs,rel,dd⟩
end
def yG {P:Program}{w:World}{H:Hp}(h:Heap)(hb:sysModules < h.objs.size):bw P w H (h.push {cls:=.type "dict",data:=.dict #[]}) h.objs.size (.dK []):=
 ⟨IU _,beq_eq_false_iff_ne.mpr (Ne.symm (Ja hb)),[],.nil,Heap.DictOf.new h⟩
def uD:List (TE×TE)->St->Hp->(List (V×V)->Hp->Prop)->Prop
 | [],_,H,Q=>Q [] H
 | (tk,tv) :: r,σ,H,Q=>tk σ H λx H1=>tv σ H1 λy H2=>uD r σ H2 λps H3=>Q ((x,y) :: ps) H3
abbrev VV:List (V×V)->List (Value×Value)->Prop:=Paired λp q=>RelV p.1 q.1/\RelV p.2 q.2
def FK (X:Cx)(pos:Pos)(keys:List (Option Expr))(values:List Expr)(trs:List (TE×TE)):Prop:=
 ∀(pins:List (Addr×Obj)) (s:Shared) (σ:St) (H:Hp) (Q:List (V×V)->Hp->Prop),Inv X pins σ H s->uD trs σ H Q->
  wpAny (model X.prog X.w) X.A (evalPairs (pairTrees keys values X.env pos)) (λvs s'=>∃ps H',Inv X pins σ H' s'/\VV ps vs/\Q ps H') X.xe s
def BK {X:Cx}{pos:Pos}:FK X pos [] [] []:=λpins s σ H Q I h=>pairTrees_nil_walk ⟨[],H,I,.nil,h⟩
def zh {X:Cx}{pos:Pos}{k v:Expr}{ks:List (Option Expr)}{vs:List Expr}{tk tv:TE}{trs:List (TE×TE)}(hk:PE X k tk)(hv:PE X v tv)(hr:FK X pos ks vs trs) :
  FK X pos (some k :: ks) (v :: vs) ((tk,tv) :: trs):=λpins s σ H Q I h=>
 pairTrees_cons_walk (bP (hk pins s σ H _ I h) λu s1 ⟨x,H1,I1,rx,q1⟩=>bP (hv pins s1 σ H1 _ I1 q1) λw2 s2 ⟨y,H2,I2,ry,q2⟩=>
  bP (hr pins s2 σ H2 _ I2 q2) λws s3 ⟨ps,H3,I3,rel,q3⟩=>⟨(x,y) :: ps,H3,I3,.cons ⟨rx,ry⟩ rel,q3⟩)
def mP (kvs more:List (Key×V)):List (Key×V):=more.foldl (λacc kv=>putK acc kv.1 kv.2) kvs
theorem KV.merge:∀{more:List (Key×V)} {rs:List (Key×Value)} {kvs:List (Key×V)} {vs:List (Key×Value)},KV more rs->KV kvs vs->KV (mP kvs more) (merged vs rs):=by
 intro more rs kvs vs r
 unfold KV at r
 induction r generalizing kvs vs with
 |nil=>intro q;exact q
 | @cons p q ps qs h t ih=>
  intro r0
  have e:KV (putK kvs p.1 p.2) (stored vs q.1 q.2):=by
   have:=r0.put p.1 h.2
   rw[<-h.1];exact this
  exact ih e
theorem i9:∀(more kvs:List (Key×V)),(mP kvs more).length<=kvs.length + more.length
 | [],kvs=>by show kvs.length<=kvs.length + 0;omega
 |p :: r,kvs=>by
  have h1:=i9 r (putK kvs p.1 p.2)
  have h2:=rn kvs p.1 p.2
  show (mP (putK kvs p.1 p.2) r).length<=_
  rw[Iv];omega
theorem mF {P:Program}{w:World}:∀{kvs:List (Key×V)} {ws:List (Value×Value)},VV (kvs.map λkv=>(kV kv.1,kv.2)) ws->∃rs,Carries (cA P w) ws rs/\KV kvs rs
 | [],_,r=>by rw[List.map_nil] at r;cases r;exact⟨[],True.intro,.nil⟩
 |p :: kvs,_,r=>by
  rw[Jp] at r
  cases r with
  | @cons a b as bs h t=>
   obtain⟨rs,c,q⟩:=mF (P:=P) (w:=w) t
   obtain⟨b1,b2⟩:=b
   exact⟨(p.1,b2) :: rs,⟨Ej h.1,rfl,c⟩,.cons ⟨rfl,h.2⟩ q⟩
def EC (trs:List (TE×TE)):TE:=λσ H Q=>∀p,H p=none->uD trs σ (upd H p (.dK [])) λps H2=>H2 p=some (.dK [])/\∃kvs:List (Key×V),ps=kvs.map (λkv=>(kV kv.1,kv.2))/\kvs.length<=15/\Q (.ref p) (upd H2 p (.dK (mP [] kvs)))
def BN {X:Cx}{pos:Pos}{keys:List (Option Expr)}{values:List Expr}{trs:List (TE×TE)}(h:FK X pos keys values trs)(hall:keys.all (·.isSome)=true)(hl:keys.length=values.length)(h0:keys≠ [])
  (h15:keys.length<=15):PE X (.Dict keys values pos) (EC trs):=by
 intro pins s σ H Q I q
 have hn:=I.hok.fresh (HX s.heap.objs.size)
 have I1:=I.laid (a:=s.heap.objs.size) (o:=.dK []) (h':=s.heap.push {cls:=.type "dict",data:=.dict #[]}) (t':=s.toks) (λ_ _ q=>Ia _ q) (HX _) (yG s.heap I.big)
 refine wpAny_Dict_walk (knd:=cA X.prog X.w) hall hl h0 h15 (bP (h pins _ σ _ _ I1 (q _ hn)) λws s2 ⟨ps,H2,I2,rel,e,kvs,ep,lk,q2⟩=>?_)
 subst ep
 obtain⟨rs,c,rk⟩:=mF (P:=X.prog) (w:=X.w) rel
 obtain⟨z,hd,vs0,r0,dd⟩:=Cg I2.hok e
 cases r0
 refine⟨rs,c,dd,λh' dd' hs=>⟨.ref s.heap.objs.size,_,?_,rfl,q2⟩⟩
 have hz:(mP [] kvs).length<=sizeLine:=by
  have h1:=i9 kvs []
  rw[JR] at h1
  rw[IV];omega
 have he:∃q,h'.get? s.heap.objs.size=some q:=let ⟨q,_,_,hq,_⟩:=dd';⟨q,hq⟩
 exact BE I2 (by rw[e];exact True.intro) hs he (C2 hz hd (rk.merge .nil) dd')
section
variable {X:Cx}{Γ:Fx}{E:XK}{pos:Pos}
def A3 {k:Str}{i:Int}{j j'}{p p':Pos}:SE X Γ E (.Dict [some (.Constant (.str k) j p)] [.Constant (.int i) j' p'] pos) (cst (.dict [(.str k,.int i)])) [] .v:=by
 refine PE.post' (BN (zh yi mR BK) rfl rfl (by simp) (by simp)) ?_
 rintro σ H Q ⟨env,G,B,β,I,o⟩ p hp
 have o:∀v G' H',SR Γ B G' H' σ (aO [] env) β->ag G G'->fj B H H'->Rp Γ.K G' v (.dict [(.str k,.int i)])->Q v H':=o
 refine⟨aq,[(.inr k,.int i)],rfl,by simp,?_⟩
 rw[Aq]
 have xn:=Ext.new I.sub (o:=.dK [((.inr k:Key),V.int i)]) hp
 exact o _ _ _ (I.ext xn) xn.gg (xn.hh.mov B) (.dK (kvs:=[((.inr k:Key),V.int i)]) aq (.one (.int i)))
end
mutual
def uQ:D->Bool
 | .list ds=>uj ds
 | .tuple ds=>uj ds
 | .dict kvs=> !kvs.isEmpty && kvs.all λkv=>match kv.1,kv.2 with
  | .str _,.int _=>true
  |_,_=>false
 |_=>true
def uj:List D->Bool
 | []=>true
 |d :: ds=>uQ d && uj ds
end
section
variable {X:Cx}{pins:List (Addr×Obj)}{σ:St}{H:Hp}{s:Shared}
theorem uy.pr {K:Frag}:∀{kvs:List (Key×V)} {ds:List (D×D)},uy K H kvs ds->Paired (λ(p:Key×V) (q:D×D)=>q.1=kD p.1/\Rp K H p.2 q.2) kvs ds
 |_,_,.one h=>.cons ⟨rfl,h⟩ .nil
 |_,_,.cons h t=>.cons ⟨rfl,h⟩ (uy.pr t)
theorem rA {P:Program}{w:World}{K:Frag}{h:Heap}:∀{kvs:List (Key×V)} {ds:List (D×D)} {vs:List (Key×Value)} {es:List DictEntry},Paired (λ(p:Key×V) (q:D×D)=>q.1=kD p.1/\Rp K H p.2 q.2) kvs ds->KV kvs vs->Pairs (cA P w) es vs->
  (ds.all λkv=>match kv.1,kv.2 with
   | .str _,.int _=>true
   |_,_=>false)=true->ReadsAll h (es.map (·.key)) (ds.map (·.1)) []/\ReadsAll h (es.map (·.val)) (ds.map (·.2)) []
 | [],_,_,_,.nil,kv,ps,_=>by
  cases kv
  cases ps
  exact⟨.nil,.nil⟩
 | (k,x) :: kvs,(_,_) :: _,_,_,.cons ⟨e0,r⟩ rk,kv,ps,hd=>by
  dsimp only at e0 r
  subst e0
  cases kv with
  |cons h1 h2=>
   cases ps with
   |cons q1 q2 q3=>
    rw[KY,IE] at hd
    obtain⟨i1,i2⟩:=rA (P:=P) (w:=w) (h:=h) rk h2 q3 hd.2
    obtain⟨hd1,_⟩:=hd
    obtain⟨e1,rv⟩:=h1
    cases k with
    |inl i=>cases hd1
    |inr y=>
     rw[<-e1] at q1
     have q1:nA (Sum.inr y) _=true:=q1
     rcases bg q1 with⟨i,t,e,_⟩ | ⟨z,t,e,ek⟩
     ·cases e
     ·cases e
      cases r with
      |int i=>
       obtain⟨t',ev⟩:=rv
       refine⟨?_,?_⟩
       ·show ReadsAll h (_ :: _) (PyData.str y :: _) ([] ++ [])
        dsimp only
        rw[ek]
        exact .cons (.str y t) i1
       ·show ReadsAll h (_ :: _) (int i :: _) ([] ++ [])
        dsimp only
        rw[q2,ev]
        exact .cons (.int i t') i2
      |_=>cases hd1
def Inv.notSys (I:Inv X pins σ H s){a:Addr}{u:HO}(h:Rd H a u):a≠sysModules:=λe=>by
 obtain⟨mm,o,es,ep,ho,_⟩:=I.mod.sys
 have:=(I.bs _ o ho).2
 rw[<-e] at this
 rcases h with h | ⟨_,h⟩ <;> (rw[h] at this;cases this)
mutual
theorem Rp.readsL (I:Inv X pins σ H s):∀{x:V} {d:D} {u:Value},Rp X.K H x d->RelV x u->uQ d=true->∃as,Reads s.heap u d as/\sysModules∉as
 |_,_,_,.non,r,_=>by cases r;exact⟨_,.none,by simp⟩
 |_,_,_,.bl b,r,_=>by cases r;exact⟨_,.bool b,by simp⟩
 |_,_,_,.int i,r,_=>by obtain⟨t,rfl⟩:=r;exact⟨_,.int i t,by simp⟩
 |_,_,_,.str x,r,_=>by obtain⟨t,rfl⟩:=r;exact⟨_,.str x t,by simp⟩
 |_,_,_,.tup h hs,r,n=>by
  cases r
  obtain⟨its,rv,⟨o,ho,hc,k,hd⟩,_⟩:=I.tuple h
  obtain⟨as,q,m⟩:=bI.readsL I hs rv n
  exact⟨_,.tuple ho hc hd (by simpa using q),m⟩
 |_,_,_,.lst (a:=a) h hs,r,n=>by
  cases r
  obtain⟨_,its,k,rv,_,ho⟩:=I.lstR (.inl h)
  obtain⟨as,q,m⟩:=bI.readsL I hs rv n
  refine⟨_,.list ho rfl rfl (by simpa using q),λz=>?_⟩
  rcases Ih.mp z with e |z
  ·exact I.notSys (.inl h) e.symm
  ·exact m z
 |_,_,_,.scr h,r,n=>by cases n
 |_,_,_,.dK (a:=a) h hs,r,n=>by
  cases r
  obtain⟨_,hsy,vs,kv,o,es,ep,ho,hex,hdt,_,hp,_⟩:=Cg I.hok h
  obtain⟨q1,q2⟩:=rA (h:=s.heap) hs.pr kv hp (by
   have n:(!_ && _)=true:=n
   rw[IE] at n
   exact n.2)
  refine⟨_,.dict ho hex.1 hdt q1 q2,?_⟩
  have:a≠sysModules:=λz=>by rw[z] at hsy;simp at hsy
  simp only[JS,I0]
  exact λz=>this z.symm
 |_,_,_,.dT h hs,r,n=>by
  cases hs with
  |nil=>cases n
  |cons _ _=>
   simp[uQ] at n
theorem bI.readsL (I:Inv X pins σ H s):∀{xs:List V} {ds:List D} {us:List Value},bI X.K H xs ds->Vals xs us->uj ds=true->∃as,ReadsAll s.heap us ds as/\sysModules∉as
 |_,_,_,.nil,r,_=>by cases r;exact⟨_,.nil,by simp⟩
 |_,_,_,.cons h hs,r,n=>by
  have n:(uQ _ && uj _)=true:=n
  rw[IE] at n
  cases r with
  |cons r1 r2=>
   obtain⟨as,q,m⟩:=Rp.readsL I h r1 n.1
   obtain⟨bs,q',m'⟩:=bI.readsL I hs r2 n.2
   exact⟨_,.cons q q',λz=>(Iu.mp z).elim m m'⟩
end
end
def x6 (d:D):Bool:=d.showable && decide (d.depth<=64) && decide (d.shown.length<=sizeLine) && ((xH d && !d.hasDict) || uQ d)
def mN (d:D):Option D:=if x6 d=true then some (.str d.shown) else none
def yb (K:Frag):List V->Hp->VK->Prop:=λxs H Q=>∃x d,xs= [x]/\Rp K H x d/\x6 d=true/\Q (.str d.shown) H
section
variable {X:Cx}
theorem lQ (hg:X.A.guards=some [])(hu:X.A.units + 100 < cLine):b9 X (.builtin "repr") (yb X.K):=by
 intro pins s σ H xs us Q I r h
 obtain⟨x,d,rfl,hd,ok,q⟩:=h
 obtain⟨u,rfl,rx⟩:=vals1 r
 unfold x6 at ok
 simp only[IE,Bool.or_eq_true,Jh] at ok
 obtain⟨⟨⟨h1,h2⟩,h3⟩,h4⟩:=ok
 have key:∀{a:Addr},u=.ref a->wpAny (model X.prog X.w) X.A (call (.builtin "repr") [u]) (EP X pins σ Q) X.xe s:=λ{a} e=>by
  subst e
  rcases h4 with h4 |h4
  ·obtain⟨as,rd⟩:=(hd.rep h4.1).reads I rx
   exact repr_of_reads' rd h1 (PyData.noDict_hsm (by simpa using h4.2)) hg (by omega) (λb o e=>e) (λh' u tk k=>⟨.str _,H,I.kept (t':=tk) k,⟨u,rfl⟩,q⟩) h3
  ·obtain⟨as,rd,m⟩:=hd.readsL I rx h4
   exact repr_of_reads' rd h1 (λ_=>m) hg (by omega) (λb o e=>e) (λh' u tk k=>⟨.str _,H,I.kept (t':=tk) k,⟨u,rfl⟩,q⟩) h3
 cases hd with
 |non=>cases rx;exact P.repr_of_none ⟨.str _,H,I.tok _,⟨_,rfl⟩,q⟩
 |bl b=>cases rx;exact P.repr_of_bool ⟨.str _,H,I.tok _,⟨_,rfl⟩,q⟩
 |int i=>obtain⟨t,rfl⟩:=rx;exact P.repr_of_int (by simpa[PyData.showable] using h1) ⟨.str _,H,I.tok _,⟨_,rfl⟩,q⟩
 |str y=>obtain⟨t,rfl⟩:=rx;exact P.repr_of_str ⟨.str _,H,I.tok _,⟨_,rfl⟩,q⟩ h3
 |tup _ _=>cases rx;exact key rfl
 |lst _ _=>cases rx;exact key rfl
 |scr _=>cases rx;exact key rfl
 |dK _ _=>cases rx;exact key rfl
 |dT _ _=>cases rx;exact key rfl
end
def vG {K:Frag}:xN K (λx=>yb K [x]) mN .v:=by
 intro B G H x dx d Q s hB bx e k
 unfold mN at e
 split at e
 ·rename_i hh
  cases e
  exact⟨x,dx,rfl,bx.rpH s,hh,k _ G H (Ext.refl s) (.str _)⟩
 ·cases e
end L2
namespace L2
open PySem PySem.Spec PyProof.Rows PySem.MeetsSeq PySem.MeetsSeq2 PySem.MeetsSeq3
def B6 (K:Frag):R2:=λx y H Q=>∃a b xs ys,x=.ref a/\y=.ref b/\dA K H a xs/\dA K H b ys/\xs.length + ys.length<=sizeLine/\
 (xs= []->Q (.ref b) H)/\(xs≠ []->ys= []->Q (.ref a) H)/\(xs≠ []->ys≠ []->∀p,H p=none->Q (.ref p) (upd H p (.tup (xs ++ ys))))
section
variable {X:Cx}
def mq:iZ X (binaryOp .Add) (B6 X.K):=by
 intro pins s σ H x y v u Q I rx ry h
 obtain⟨a,b,xs,ys,rfl,rfl,ha,hb,hz,q0,q1,q2⟩:=h
 by_cases hx:xs= []
 ·cases rx
  cases ry
  obtain⟨its,r1,p1,_⟩:=I.tuple ha
  obtain⟨its2,r2,p2,_⟩:=I.tuple hb
  obtain⟨⟨cls,dd,data,sl⟩,ho,hc,n,hd⟩:=id p1
  obtain⟨⟨cls2,dd2,data2,sl2⟩,ho2,hc2,n2,hd2⟩:=id p2
  simp only at hc hd hc2 hd2
  subst hc hd hc2 hd2
  have he:its= []:=r1.nil_iff.mpr hx
  exact concat_meets ⟨_,ho,rfl⟩ ⟨_,ho2,rfl⟩ noFill_tuple_add seq_tuple_add PySem.F.slot_tuple_add PySem.F.entry_tuple_add (K3 _ _)
   (tuple_addW0 a b its.toArray its2.toArray n n2 dd dd2 sl sl2 (by simp[he])) ⟨ho,ho2,.ref b,H,I,rfl,q0 hx⟩
 ·exact AJ pins s σ H _ _ v u Q I rx ry ⟨a,b,xs,ys,rfl,rfl,ha,hb,hx,hz,q1 hx,q2 hx⟩
end
def lq:D->D->Option D
 | .tuple a,.tuple b=>if a.length + b.length<=sizeLine then some (.tuple (a ++ b)) else none
 |_,_=>none
def ub {K:Frag}:km K (B6 K) lq .v:=by
 intro B G H x y dx dy d Q s hB bx by' e k
 cases dx <;> cases dy <;> first | (cases e;done) |skip
 rename_i a b
 simp only[lq] at e
 split at e
 ·rename_i hz
  cases e
  rcases bx with bx | ⟨_,_,_,q⟩
  case inr=>exact q.elim
  rcases by' with by' | ⟨_,_,_,q⟩
  case inr=>exact q.elim
  cases bx with
  | @tup p xs _ hp r1=>
   cases by' with
   | @tup q ys _ hq r2=>
    refine⟨p,q,xs,ys,rfl,rfl,hp.grow s.grow,hq.grow s.grow,by rw[r1.len,r2.len];exact hz,λz=>?_,λz z'=>?_,λ_ _ l hl=>?_⟩
    ·subst z
     cases r1
     exact k _ G H (Ext.refl s) (.tup hq r2)
    ·subst z'
     cases r2
     rw[JS] at k
     exact k _ G H (Ext.refl s) (.tup hp r1)
    ·have xn:=Ext.new s (o:=.tup (xs ++ ys)) hl
     exact k _ _ _ xn (.tup (.inl (.inl aq)) ((r1.append r2).mono xn.gg))
 ·cases e
end L2
namespace L2
open PySem PySem.Spec PyProof.Rows
def isStar:Expr->Bool
 | .Starred _ _=>true
 |_=>false
def wO {a:Expr}{es:List Expr}{env:Env}(h:isStar a=false):starEach (a :: es) env=(false,eval a env) :: starEach es env:=by
 cases a <;> first |rfl |cases h
def Dw (sc:Scope)(x:Str):Bool:=match sc.names.lookup x with
 |some .local=>true
 |some .cell=>true
 |some .free=>true
 |_=>false
def AW {sc:Scope}{x:Str}(h:Dw sc x=true):vX sc x:=by
 unfold Dw at h
 unfold vX
 split at h
 ·exact .inl (by assumption)
 ·exact .inr (.inl (by assumption))
 ·exact .inr (.inr (by assumption))
 ·cases h
def tH (N:List Str)(sc:Scope):List (Str×Nat)->Bool
 | []=>true
 | (x,i) :: r=>decide (N[i]? =some x) && (Dw sc x && ((!(x == ("__debug__":Str))) && ((!(x == ("__classdict__":Str))) && tH N sc r)))
theorem vL {N:List Str}{sc:Scope}:∀{l:List (Str×Nat)} {x:Str} {i:Nat},tH N sc l=true->l.lookup x=some i->N[i]? =some x/\vX sc x/\(x == ("__debug__":Str))=false/\(x == ("__classdict__":Str))=false
 | [],_,_,_,h=>by cases h
 | (y,j) :: r,x,i,h,e=>by
  simp only[tH,IE,Jh,JQ] at h
  obtain⟨h1,h2,h3,h4,h5⟩:=h
  rw[KW] at e
  split at e
  ·rename_i q
   have q:x=y:=by simpa using q
   subst q
   cases e
   exact⟨h1,AW h2,h3,h4⟩
  ·exact vL h5 e
def wV:Expr->Option Int
 | .Constant (.int i) _ _=>some i
 |_=>none
theorem lO {e:Expr}{i:Int}(h:wV e=some i):∃j p,e=.Constant (.int i) j p:=by
 cases e with
 |Constant c j p=>cases c <;> first | (cases h;exact⟨_,_,rfl⟩) |cases h
 |_=>cases h
def He (op:UnaryOp)(e:Expr):Option Int:=match op with
 | .USub=>wV e
 |_=>none
def Cp:Operator->Bool
 | .Pow=>true
 |_=>false
def zQ {o:Operator}(h:Cp o=true):o=.Pow:=by cases o <;> first |rfl |cases h
def DE (ks:List (Option Expr))(vs:List Expr):Option (Str×Int):=match ks,vs with
 | [some (.Constant (.str k) _ _)],[v]=>(wV v).map λi=>(k,i)
 |_,_=>none
def A9 {ks:List (Option Expr)}{vs:List Expr}{r:Str×Int}(h:DE ks vs=some r):∃j p j' p',ks= [some (.Constant (.str r.1) j p)]/\vs= [.Constant (.int r.2) j' p']:=by
 unfold DE at h
 split at h
 ·rename_i k j p v
  cases q:wV v with
  |none=>rw[q] at h;cases h
  |some i=>
   rw[q] at h
   cases h
   obtain⟨j',p',rfl⟩:=lO q
   exact⟨_,_,_,_,rfl,rfl⟩
 ·cases h
def GG:Const->Option D
 | .int i=>some (.int i)
 | .bool b=>some (.bool b)
 | .none=>some .none
 | .str x=>some (.str x)
 |_=>none
mutual
def rD (nm:List (Str×Nat)):Expr->Option (VF D×List Nat)
 | .Name x _=>(nm.lookup x).map λi=>(gv i,[i])
 | .Constant c _ _=>(GG c).map λd=>(cst d,[])
 | .UnaryOp op a _=>(He op a).map λi=>(cst (.int (-i)),[])
 | .BinOp a o b _=>if Cp o=true then (wV a).bind λi=>(wV b).map λj=>(f2 (cst (.int i)) (cst (.int j)) xT,[]) else none
 | .Dict ks vs _=>(DE ks vs).map λr=>(cst (.dict [(.str r.1,.int r.2)]),[])
 | .Tuple es _ _=>(B5 nm es).map λr=>(az r.1,r.2)
 | .List es _=>(B5 nm es).map λr=>(bG r.1,r.2)
 | .BoolOp ..=>none
 | .NamedExpr ..=>none
 | .Lambda ..=>none
 | .IfExp ..=>none
 | .Set ..=>none
 | .ListComp ..=>none
 | .SetComp ..=>none
 | .DictComp ..=>none
 | .GeneratorExp ..=>none
 | .Await ..=>none
 | .Yield ..=>none
 | .YieldFrom ..=>none
 | .Compare ..=>none
 | .Call ..=>none
 | .FormattedValue ..=>none
 | .JoinedStr ..=>none
 | .Attribute ..=>none
 | .Subscript ..=>none
 | .Starred ..=>none
 | .Slice ..=>none
def B5 (nm:List (Str×Nat)):List Expr->Option (VF (List D)×List Nat)
 | []=>some (af,[])
 |e :: es=>(rD nm e).bind λr=>(B5 nm es).map λq=>(ab r.1 q.1,r.2 ++ q.2)
end
section
variable {X:Cx}{Γ:Fx}{E:XK}{nm:List (Str×Nat)}
theorem ik {α β:Type}{o:Option α}{f:α->β}{b:β}(h:o.map f=some b):∃a,o=some a/\f a=b:=by
 cases o with
 |none=>cases h
 |some a=>exact⟨a,rfl,Option.some.inj h⟩
theorem ve {α β:Type}{o:Option α}{f:α->Option β}{b:β}(h:o.bind f=some b):∃a,o=some a/\f a=some b:=by
 cases o with
 |none=>cases h
 |some a=>exact⟨a,rfl,h⟩
mutual
theorem Ex (hc:tH X.N X.env.scope nm=true)(hb:∀i,Γ.br i=false):∀{e:Expr} {f:VF D} {L:List Nat},rD nm e=some (f,L)->SE X Γ E e f L .v/\isStar e=false
 | .Name x p,f,L,h=>by
  rw[rD] at h
  obtain⟨i,q,e⟩:=ik h
  cases e
  obtain⟨h1,h2,h3,h4⟩:=vL hc q
  exact⟨aM i (hb i) h1 h2 h3 h4,rfl⟩
 | .Constant c j p,f,L,h=>by
  rw[rD] at h
  obtain⟨d,q,e⟩:=ik h
  cases e
  cases c <;> first | (cases q;first |exact⟨ak,rfl⟩ |exact⟨hW,rfl⟩ |exact⟨Dy,rfl⟩ |exact⟨DM,rfl⟩) |cases q
 | .UnaryOp op a p,f,L,h=>by
  rw[rD] at h
  obtain⟨i,q,e⟩:=ik h
  cases e
  cases op <;> first | (cases q;done) |skip
  obtain⟨j,p,rfl⟩:=lO q
  exact⟨Cd tx BV ak,rfl⟩
 | .BinOp a op b p,f,L,h=>by
  rw[rD] at h
  split at h
  ·rename_i ho
   obtain rfl:=zQ ho
   obtain⟨i,q,h⟩:=ve h
   obtain⟨j,q2,e⟩:=ik h
   cases e
   obtain⟨j1,p1,rfl⟩:=lO q
   obtain⟨j2,p2,rfl⟩:=lO q2
   exact⟨aS Dk D7 ak ak,rfl⟩
  ·cases h
 | .Dict ks vs p,f,L,h=>by
  rw[rD] at h
  obtain⟨r,q,e⟩:=ik h
  cases e
  obtain⟨_,_,_,_,rfl,rfl⟩:=A9 q
  exact⟨A3,rfl⟩
 | .Tuple es c p,f,L,h=>by
  rw[rD] at h
  obtain⟨r,q,e⟩:=ik h
  cases e
  exact⟨a9 (pV hc hb q),rfl⟩
 | .List es p,f,L,h=>by
  rw[rD] at h
  obtain⟨r,q,e⟩:=ik h
  cases e
  exact⟨SE.wv (cS (pV hc hb q)),rfl⟩
 | .BoolOp ..,_,_,h=>by rw[rD] at h;cases h
 | .NamedExpr ..,_,_,h=>by rw[rD] at h;cases h
 | .Lambda ..,_,_,h=>by rw[rD] at h;cases h
 | .IfExp ..,_,_,h=>by rw[rD] at h;cases h
 | .Set ..,_,_,h=>by rw[rD] at h;cases h
 | .ListComp ..,_,_,h=>by rw[rD] at h;cases h
 | .SetComp ..,_,_,h=>by rw[rD] at h;cases h
 | .DictComp ..,_,_,h=>by rw[rD] at h;cases h
 | .GeneratorExp ..,_,_,h=>by rw[rD] at h;cases h
 | .Await ..,_,_,h=>by rw[rD] at h;cases h
 | .Yield ..,_,_,h=>by rw[rD] at h;cases h
 | .YieldFrom ..,_,_,h=>by rw[rD] at h;cases h
 | .Compare ..,_,_,h=>by rw[rD] at h;cases h
 | .Call ..,_,_,h=>by rw[rD] at h;cases h
 | .FormattedValue ..,_,_,h=>by rw[rD] at h;cases h
 | .JoinedStr ..,_,_,h=>by rw[rD] at h;cases h
 | .Attribute ..,_,_,h=>by rw[rD] at h;cases h
 | .Subscript ..,_,_,h=>by rw[rD] at h;cases h
 | .Starred ..,_,_,h=>by rw[rD] at h;cases h
 | .Slice ..,_,_,h=>by rw[rD] at h;cases h
theorem pV (hc:tH X.N X.env.scope nm=true)(hb:∀i,Γ.br i=false):∀{es:List Expr} {f:VF (List D)} {L:List Nat},B5 nm es=some (f,L)->SA X Γ E es f L
 | [],f,L,h=>by rw[B5] at h;cases h;exact au
 |e :: es,f,L,h=>by
  rw[B5] at h
  obtain⟨r,q,h⟩:=ve h
  obtain⟨r2,q2,e⟩:=ik h
  cases e
  obtain⟨a,b⟩:=Ex hc hb q
  exact ae a (pV hc hb q2) (wO b)
end
def AX {es:List Expr}{p:Pos}{t:Option Expr}{l:Nat}{env:Env}:swapsWith (.List es p) t l env=pure false:=rfl
def yQ {es:List Expr}{f:VF (List D)}{L:List Nat}{pos:Pos}(nm:List (Str×Nat))(hc:tH X.N X.env.scope nm=true)(hb:∀i,Γ.br i=false)(h:B5 nm es=some (f,L)):SE X Γ E (.List es pos) (bG f) L .w:=cS (pV hc hb h)
def Fg {i:Nat}{x:Str}{es:List Expr}{f:VF (List D)}{L:List Nat}{pos' p pos:Pos}(nm:List (Str×Nat))(hc:tH X.N X.env.scope nm=true)(hb:∀i,Γ.br i=false)(h:B5 nm es=some (f,L))(hN:X.N.Nodup)(hi:X.N[i]? =some x)(hx:Loc X.env.scope x)(hf:X.fn x=true\/X.env.scope.names.lookup x=some .local) :
  SS X Γ E (.Assign [.Name x pos'] (.List es p) pos) (bJ i L (bG f)):=a7 (SE.wv (yQ nm hc hb h)) hN hi hx AX hf
end
end L2
section
namespace HT
open PySem PyProof.Rows PySem.Builtin PyProof
theorem qI {α β:Type}{f g:α->Option β}:∀{l:List α},(∀m,m∈l->f m=g m)->l.filterMap f=l.filterMap g
 | [],_=>rfl
 |x :: l,h=>by rw[J4,J4,h x (Ig ..),qI λm hm=>h m (Ie _ hm)]
def wa {α:Type}(xs:Array α):((List.range xs.size).filterMap λ(m:Nat)=>xs[(((xs.size:Int) - 1) + (m:Int) * (-1)).toNat]?)=xs.toList.reverse:=by
 have e:∀m,m∈List.range xs.size->xs[(((xs.size:Int) - 1) + (m:Int) * (-1)).toNat]? =xs.toList.reverse[m]?:=λm hm=>by
  have hm:=IH.mp hm
  rw[List.getElem?_reverse (by simpa using hm)]
  have:(((xs.size:Int) - 1) + (m:Int) * (-1)).toNat=xs.toList.length - 1 - m:=by simp;omega
  rw[this]
  simp
 have e2:((List.range xs.size).filterMap λ(m:Nat)=>xs[(((xs.size:Int) - 1) + (m:Int) * (-1)).toNat]?)=(List.range xs.toList.reverse.length).filterMap λm=>xs.toList.reverse[m]?:=by
  rw[List.length_reverse,ID]
  exact qI e
 rw[e2]
 generalize xs.toList.reverse=l
 clear e e2
 apply KJ
 intro i
 have key:∀n,n<=l.length->(List.range n).filterMap (λm=>l[m]?)=l.take n:=by
  intro n
  induction n with
  |zero=>intro _;simp
  |succ n ih=>
   intro hn
   rw[List.range_succ,List.filterMap_append,ih (by omega),List.take_succ,HU (by omega)]
   simp[HU (show n < l.length by omega)]
 rw[key l.length (HX _),List.take_length]
section
variable {prog:Program}{w:World}{A:Around}{E:Value->Shared->Prop}{s:Shared}
def pM {sl:Addr}{vs:Value}{n:Nat}{Q:Int×Int×Nat->Shared->Prop}(hs:s.heap.IsSliceOf sl .none .none vs)(ps:IsPart vs (some (-1)))(h:Q (((n:Int) - 1), -1,n) s):wpAny (model prog w) A (Builtin.Slice.sliceApplied (.ref sl) (pure (n:Int))) Q E s:=by
 obtain⟨os,hos,hcs,hds⟩:=id hs
 unfold Builtin.Slice.sliceApplied Builtin.Slice.sliceFields
 refine HS (HS (Kk hos hds (x:=.none) rfl (HS (Kk hos hds (x:=.none) rfl (HS (Kk hos hds (x:=vs) rfl (HW ?_)))))))
 refine HS (jy ps ?_)
 show wpAny _ _ (if ((-1:Int) == 0)=true then _ else _) _ _ s
 rw[HY (by decide)]
 refine HS (slicePart_none (HS (slicePart_none (HS (HW ?_)))))
 show wpAny _ _ (pure (((n:Int) - 1),(-1:Int),Builtin.Slice.slicePlaces ((n:Int) - 1) (-1) (-1))) _ _ s
 have e:Builtin.Slice.slicePlaces ((n:Int) - 1) (-1) (-1)=n:=by
  unfold Builtin.Slice.slicePlaces
  have h1:¬((-1:Int) > 0):=by omega
  simp only[h1,IZ]
  rw[show (- (-1:Int))=1 by rfl,Int.ediv_one]
  split <;> omega
 rw[e]
 exact HW h
def jl {t sl:Addr}{items:Array Value}{vs:Value}{Q:Value->Shared->Prop}(ht:IsTup s.heap t items)(hs:s.heap.IsSliceOf sl .none .none vs)(ps:IsPart vs (some (-1)))
  (h:Q (.ref s.heap.objs.size) {s with heap:=s.heap.push {cls:=.type "tuple",data:=.seq items.toList.reverse.toArray}})
  (hsz:items.size<=sizeLine):wpAny (model prog w) A (getItem (.ref t) (.ref sl)) Q E s:=by
 have htake:sizeOk (.seq items.toList.reverse.toArray):=by
  show items.toList.reverse.toArray.size<=sizeLine
  simpa using hsz
 obtain⟨os,hos,hcs,hds⟩:=id hs
 have hTs:s.TypeIs (.ref sl) "slice":=⟨os,hos,hcs⟩
 unfold getItem
 try with_reducible refine JE ?_
 first |refine HS (HW ?_) |skip
 refine HS (wpAny_sequenceKey ht.typeIs (by decide) ?_)
 refine HS (J3 (name:=Str.ofString "__getitem__") ht.typeIs IX
  (JV IX ht.typeIs entry_tuple_getitem ?_ (args_tuple_getitem _ _)))
 show wpAny _ _ (Builtin.Tuple.tupleItemsOf (.ref t) >>= _) _ _ s
 refine HS (tupleItemsOf_ ht ?_)
 refine HS (Kn hTs ?_)
 rw[HV (by decide)]
 refine HS (pM hs ps ?_)
 have hno:¬(((((items.size:Nat):Int) - 1) == 0 && (-1:Int) == 1 && items.size == items.size)=true):=by
  intro q
  rw[IE,IE] at q
  exact absurd q.1.2 (by decide)
 show wpAny _ _ (if ((((items.size:Nat):Int) - 1) == 0 && (-1:Int) == 1 && items.size == items.size)=true then _ else _) _ _ s
 rw[HY hno,wa]
 first
  |exact HS (m:=Builtin.Tuple.tupleExact _) (Jg (HW ⟨_,rfl,HW h⟩) htake)
  |exact HS (m:=Builtin.Tuple.tupleExact _) (Jg (HS (HW (HW ⟨_,rfl,HW h⟩))) htake)
  |exact HS (HS (m:=Builtin.Tuple.tupleExact _) (Jg (HW (HW ⟨_,rfl,HW h⟩)) htake))
  |exact HS (HS (m:=Builtin.Tuple.tupleExact _) (Jg (HW ⟨_,rfl,HW h⟩) htake))
end
end HT
namespace L2
open PySem PySem.Spec PyProof.Rows
section
variable {X:Cx}{Γ:Fx}{E:XK}{e a:Expr}{te:TE}{fa:VF D}{La:List Nat}{ma:Md}{pos p2 p3 p4:Pos}{j:Nat}
def Ag (he:PE X e te):PE X (.Subscript e (.Slice none none (some (.UnaryOp .USub (.Constant (.int 1) j p3) p4)) p2) pos) (λσ H Q=>te σ H λx H1=>∃a xs,x=.ref a/\dA X.K H1 a xs/\∀l,H1 l=none->Q (.ref l) (upd H1 l (.tup xs.reverse))):=by
 intro pins s σ H Q I h
 refine Subscript_ (bP (he pins s σ H _ I h) λv s1 ⟨x,H1,I1,r1,q1⟩=>?_)
 obtain⟨a,xs,rfl,hx,q⟩:=q1
 cases r1
 refine wpAny_Slice ?_
 rw[evalPart_none]
 refine HW (HW ?_)
 refine bP (uS (Ce tx mR) pins s1 σ H1 (λo H2=>o=some (-1)/\H2=H1) I1 ⟨1,rfl, -1,rfl,rfl,rfl⟩) λvs s2 ⟨o,H2,I2,ps,q2,q3⟩=>?_
 subst q2 q3
 have I3:Inv X pins σ H2 {s2 with heap:=s2.heap.push {cls:=.type "slice",data:=.fields #[.none,.none,vs]}}:=I2.kept (t':=s2.toks) λb ob q=>Ia _ q
 obtain⟨its,r,ht,hz⟩:=I3.tuple hx
 have hlen:its.toArray.size=xs.length:=by rw[Iq];exact r.length.symm
 show wpAny (model X.prog X.w) X.A (subscriptTail e (.Slice none none (some (.UnaryOp .USub (.Constant (.int 1) j p3) p4)) p2) (.ref a) (.ref s2.heap.objs.size)) (EP X pins σ Q) X.xe {s2 with heap:=s2.heap.push {cls:=.type "slice",data:=.fields #[.none,.none,vs]}}
 refine tail_any (ops:=[.ref a,.ref s2.heap.objs.size]) ht.typeIs IX.lookup ?_ (by with_unfolding_all rfl)
 refine HT.jl ht (Heap.IsSliceOf.new ..) ps ?_ (by rw[hlen];exact hz)
 refine⟨.ref _,_,I3.laid (t':=s2.toks) (o:=.tup xs.reverse) (λb ob q=>Ia _ q) (HX _) ?_,rfl,q _ (I3.hok.fresh (HX _))⟩
 exact⟨by rw[List.length_reverse];exact hz,_,r.reverse,nR.new _ _⟩
theorem bI.reverse {K:Frag}{G:Hp}:∀{xs:List V} {ds:List D},bI K G xs ds->bI K G xs.reverse ds.reverse
 |_,_,.nil=>.nil
 |_,_,.cons h hs=>by rw[Lf,Lf];exact (bI.reverse hs).snoc h
def Fu:D->Option D
 | .tuple ds=>some (.tuple ds.reverse)
 |_=>none
theorem Ap (hK:X.K=Γ.K)(ha:SE X Γ E a fa La ma):SE X Γ E (.Subscript a (.Slice none none (some (.UnaryOp .USub (.Constant (.int 1) j p3) p4)) p2) pos) (f1 fa Fu) La .v:=by
 refine PE.post' (Ag ha) ?_
 rintro σ H Q ⟨env,G,B,β,I,o⟩
 refine⟨env,G,B,β,I,o.bnd.imp λd1 β1 h x G1 H1 I1 s1 m1 vx=>?_⟩
 have bx:=vx.brw I.boxThere
 obtain⟨d,e,k⟩:=h.of
 cases d1 with
 |tuple ds=>
  cases e
  obtain⟨p,xs,rfl,hq,r⟩:=bx.tuple I1.sub
  rw[hK]
  refine⟨p,xs,rfl,hq,λl hl=>?_⟩
  have x:=Ext.new I1.sub (o:=.tup xs.reverse) hl
  exact k _ _ _ (I1.ext x) (s1.trans x.gg) (m1.trans (x.hh.mov B)) (.tup (.inl (.inl aq)) ((r.reverse).mono x.gg))
 |_=>cases e
end
end L2
end
namespace L2
open PySem PyProof.Rows
section
variable {X:Cx}{K:Frag}{pins:List V}{σ:St}{H:Hp}{s:Shared}{E:XK}
theorem bI.intsB {G:Hp}:∀{ns:List Int} {xs:List V},bI K G xs (ns.map int)->xs=ns.map V.int
 | [],_,.nil=>rfl
 |n :: ns,_,.cons r t=>by cases r;rw[bI.intsB t];rfl
variable {Γ:Fx}{e a b c:Expr}{f fa fb fc:VF D}{L La Lb:List Nat}{md ma mb mc:Md}{pos:Pos}
end
end L2
namespace L2
open PySem
section
variable {α γ:Type}
@[simp] theorem jn (a:α)(β:Int)(k:α->Int->R γ):(R.ok a β).bnd k=k a β:=rfl
@[simp] theorem FO (c:Str)(k:α->Int->R γ):(R.exc c:R α).bnd k=.exc c:=rfl
@[simp] theorem FQ (k:α->Int->R γ):(R.bad:R α).bnd k=.bad:=rfl
@[simp] theorem Gy (a:α)(β:Int)(k:α->Int->R γ):(R.ok a β).okb k=k a β:=rfl
@[simp] theorem o6 (a:α)(β:Int):R.of (some a) β=.ok a β:=rfl
@[simp] theorem of_none (β:Int):(R.of none β:R α)=.bad:=rfl
@[simp] theorem GP (a:α)(β:Int)(k:α->Int->SO):toS (.ok a β) k=k a β:=rfl
@[simp] theorem FP (c:Str)(k:α->Int->SO):toS (.exc c:R α) k=.exc c:=rfl
@[simp] theorem Gb (k:α->Int->SO):toS (.bad:R α) k=.bad:=rfl
end
section
variable (f fa fb fc:VF D)(t u:VF Bool)(m m':SF)(vs:List Nv)(β:Int)(env:En)(i j:Nat)(L:List Nat)
@[simp] theorem BZ:gv i vs β=R.of (dat vs[i]?) β:=rfl
@[simp] theorem uC (d:D):dat (some (.da d))=some d:=rfl
@[simp] theorem GI (d:D):cst d vs β=.ok d β:=rfl
@[simp] theorem Hl (g:D->Option D):f1 fa g vs β=(fa vs β).bnd λx β1=>R.of (g x) β1:=rfl
@[simp] theorem Ht (g:D->D->Option D):f2 fa fb g vs β=(fa vs β).bnd λx β1=>(fb vs β1).bnd λy β2=>R.of (g x y) β2:=rfl
@[simp] theorem vF:af vs β=.ok [] β:=rfl
@[simp] theorem cu (fr:VF (List D)):ab fa fr vs β=(fa vs β).bnd λx β1=>(fr vs β1).bnd λxs β2=>.ok (x :: xs) β2:=rfl
@[simp] theorem uz:qj fa vs β=(fa vs β).bnd λx β1=>R.of (DN x) β1:=rfl
@[simp] theorem sL:qk t vs β=(t vs β).bnd λc β1=>.ok (!c) β1:=rfl
@[simp] theorem GC:HN t u vs β=(t vs β).bnd λc β1=>if c=true then u vs β1 else .ok false β1:=rfl
@[simp] theorem pQ:fZ t u vs β=(t vs β).bnd λc β1=>if c=true then .ok true β1 else u vs β1:=rfl
@[simp] theorem Hu (n:Bool):tN fa n vs β=(fa vs β).bnd λx β1=>.ok (if n then !BA x else BA x) β1:=rfl
@[simp] theorem Gw:HI t fa fb vs β=(t vs β).bnd λc β1=>if c=true then fa vs β1 else fb vs β1:=rfl
@[simp] theorem g9 (c:Bool){β1:Int}(h:fa vs β=.ok (.bool c) β1):fg fa vs β=.ok c β1:=by unfold fg;rw[h];rfl
@[simp] theorem ui:vl []= []:=rfl
@[simp] theorem pH (s:Sl):vl (s :: env)=s.val :: vl env:=rfl
@[simp] theorem tI (d:D):(Sl.fz d).val=.da d:=rfl
@[simp] theorem Gv (d:D):(Sl.ow d).val=.da d:=rfl
@[simp] theorem Gu:Sl.no.val=.no:=rfl
@[simp] theorem Gn:Sl.bx.val=.bx:=rfl
@[simp] theorem FU:aO [] env=env:=rfl
@[simp] theorem FD:aO (i :: L) env=aO L (fN env i):=rfl
@[simp] theorem FT:aF m m' env β=(match m env β with
 | .nx env' β'=>m' env' β'
 |r=>r):=rfl
@[simp] theorem GV:kZ L t m m' env β=toS (t (vl env) β) λc β'=>if c=true then m (aO L env) β' else m' (aO L env) β':=rfl
@[simp] theorem vJ:bQ f env β=toS (f (vl env) β) λd β'=>.rt d false β':=rfl
@[simp] theorem Fi:qX f env β=toS (f (vl env) β) λd β'=>.rt d true β':=rfl
@[simp] theorem GU:n0 env β=.nx env β:=rfl
@[simp] theorem vv:bJ i L f env β=toS (f (vl env) β) λd β'=>.nx ((aO L env).set i (.fz d)) β':=rfl
@[simp] theorem EO:j8 i L f env β=toS (f (vl env) β) λd β'=>.nx ((aO L env).set i (.ow d)) β':=rfl
@[simp] theorem Ey:Ef L f env β=toS (f (vl env) β) λ_ β'=>.nx (aO L env) β':=rfl
end
def aH {m m':SF}{env env':En}{β β':Int}(h:m env β=.nx env' β'):aF m m' env β=m' env' β':=by unfold aF;rw[h]
def ki {m m':SF}{env:En}{β β':Int}{d:D}{b:Bool}(h:m env β=.rt d b β'):aF m m' env β=.rt d b β':=by unfold aF;rw[h]
def mB {L:List Nat}{t:VF Bool}{m m':SF}{env:En}{β β':Int}(h:t (vl env) β=.ok true β'):kZ L t m m' env β=m (aO L env) β':=by unfold kZ;rw[h];rfl
def lg {L:List Nat}{t:VF Bool}{m m':SF}{env:En}{β β':Int}(h:t (vl env) β=.ok false β'):kZ L t m m' env β=m' (aO L env) β':=by unfold kZ;rw[h];rfl
def aV {F:List D->FR}{fr:VF (List D)}{vs:List Nv}{β β1:Int}{ds:List D}{d:D}{b:Bool}(h:fr vs β=.ok ds β1)(e:F ds=.ok d b):aL F fr vs β=.ok d β1:=by unfold aL;rw[h];dsimp only[R.bnd];rw[e]
def zp {F:List D->FR}{fr:VF (List D)}{vs:List Nv}{β β1:Int}{ds:List D}{d:D}(h:fr vs β=.ok ds β1)(e:F ds=.ok d true):rm F fr vs β=.ok d β1:=by unfold rm;rw[h];dsimp only[R.bnd];rw[e]
def cJ {fa:VF D}{g:D->Option D}{vs:List Nv}{β β1:Int}{x d:D}(h:fa vs β=.ok x β1)(e:g x=some d):f1 fa g vs β=.ok d β1:=by unfold f1;rw[h];dsimp only[R.bnd];rw[e];rfl
def aG {fa fb:VF D}{g:D->D->Option D}{vs:List Nv}{β β1 β2:Int}{x y d:D}(h:fa vs β=.ok x β1)(h':fb vs β1=.ok y β2)(e:g x y=some d):f2 fa fb g vs β=.ok d β2:=by unfold f2;rw[h];dsimp only[R.bnd];rw[h'];dsimp only[R.bnd];rw[e];rfl
def cN {i:Nat}{F:List D->Int->FB}{fr:VF (List D)}{vs:List Nv}{β β1 β2:Int}{ds:List D}{d:D}{b:Bool}(hi:ug vs i=true)(h:fr vs β=.ok ds β1)(e:F ds β1=.ok d b β2):iY i F fr vs β=.ok d β2:=by unfold iY;rw[HV hi,h];dsimp only[R.bnd];rw[e]
def sz (n:Nat)(h:n<=1000):n<=sizeLine:=by rw[IV];omega
def E2 (n:Nat)(h:n<=1000):n < sizeLine:=by rw[IV];omega
def iN {fr:VF (List D)}{vs:List Nv}{β β1:Int}{ds:List D}(h:fr vs β=.ok ds β1)(hz:ds.length<=1000):az fr vs β=.ok (.tuple ds) β1:=by unfold az;rw[h];exact HV (sz _ hz)
def fG {fr:VF (List D)}{vs:List Nv}{β β1:Int}{ds:List D}(h:fr vs β=.ok ds β1)(hz:ds.length<=1000):bG fr vs β=.ok (.list ds) β1:=by unfold bG;rw[h];exact HV (sz _ hz)
def zq {i:Nat}{env:En}{β:Int}{g:List D->Option (List D)}{ds es:List D}(h:env[i]? =some (.ow (.list ds)))(e:g ds=some es):D3 i env β g=.nx (env.set i (.ow (.list es))) β:=by unfold D3;rw[h];dsimp only;rw[e]
def vb {i:Nat}{L:List Nat}{f:VF D}{env:En}{β β':Int}{ds:List D}{d:D}(hi:env[i]? =some (.ow (.list ds)))(hf:f (vl env) β=.ok d β')(hL:(aO L env)[i]? =some (.ow (.list ds)))(hz:ds.length<=1000):nG i L f env β=.nx ((aO L env).set i (.ow (.list (ds ++ [d])))) β':=by
 unfold nG
 rw[HV (by rw[hi];rfl),hf]
 exact zq hL (HV (E2 _ hz))
def uG {i j:Nat}{L:List Nat}{f:VF D}{env:En}{β β':Int}{ds es es':List D}{k d:D}(hi:env[i]? =some (.ow (.list ds)))(hj:env[j]? =some (.ow (.list es)))(hij:i≠j)(hf:f (vl env) β=.ok k β')(hL:aO L env=env)(hp:wW es k=some (d,es'))(hz:ds.length<=1000):gQ i j L f env β=.nx ((env.set j (.ow (.list es'))).set i (.ow (.list (ds ++ [d])))) β':=by
 unfold gQ
 rw[HV ⟨by rw[hi];rfl,by rw[hj];rfl,hij⟩,hf,hL]
 dsimp only[toS]
 rw[hj]
 dsimp only
 rw[hp]
 exact zq (by rw[Iy (Ne.symm hij)];exact hi) (HV (E2 _ hz))
theorem mW {t:Tg}{ft:VF Bool}{fe:VF D}{vs:List Nv}(g:D->Bool)(h:D->D):∀{ds:List D} {β:Int},(∀d,d∈ds->∃vs1,k8 t d vs=some vs1/\ft vs1 β=.ok (g d) β/\(g d=true->fe vs1 β=.ok (h d) β))->eS t ft fe vs ds β=.ok ((ds.filter g).map h) β
 | [],β,_=>rfl
 |d :: ds,β,hh=>by
  obtain⟨vs1,e1,e2,e3⟩:=hh d (Ig ..)
  have ih:=mW (t:=t) (ft:=ft) (fe:=fe) (vs:=vs) g h (ds:=ds) (β:=β) λd' hd=>hh d' (Ie _ hd)
  unfold eS
  rw[e1]
  dsimp only
  rw[e2]
  dsimp only[R.okb]
  cases q:g d with
  |true=>
   rw[HV rfl,e3 q]
   dsimp only
   rw[ih,List.filter_cons_of_pos q];rfl
  |false=>
   rw[HY IG,ih,List.filter_cons_of_neg (by rw[q];exact IG)]
def uq {own:Nat}{ixs:List Nat}{t:Tg}{fi:VF (List D)}{ft:VF Bool}{fe:VF D}{vs:List Nv}{β β1:Int}{ds:List D}(g:D->Bool)(h:D->D)(hi:fi vs β=.ok ds β1)(hz:ds.length<=1000)
  (hh:∀d,d∈ds->∃vs1,k8 t d (dI own ixs vs)=some vs1/\ft vs1 β1=.ok (g d) β1/\(g d=true->fe vs1 β1=.ok (h d) β1)):b5 own ixs t fi ft fe vs β=.ok (.list ((ds.filter g).map h)) β1:=by
 unfold b5
 rw[hi]
 dsimp only[R.bnd]
 rw[HV (sz _ hz),mW g h hh];rfl
def oG {own:Nat}{ixs:List Nat}{t:Tg}{fi:VF (List D)}{fe:VF D}{vs:List Nv}{β β1:Int}{ds:List D}(h:D->D)(hi:fi vs β=.ok ds β1)(hz:ds.length<=1000)
  (hh:∀d,d∈ds->∃vs1,k8 t d (dI own ixs vs)=some vs1/\fe vs1 β1=.ok (h d) β1):b5 own ixs t fi xi fe vs β=.ok (.list (ds.map h)) β1:=by
 rw[uq (ft:=xi) (λ_=>true) h hi hz λd hd=>let ⟨vs1,e1,e2⟩:=hh d hd;⟨vs1,e1,rfl,λ_=>e2⟩]
 rw[List.filter_eq_self.mpr (λ_ _=>rfl)]
def mZ {α:Type}{own:Nat}{ixs:List Nat}{t:Tg}{fi:VF (List D)}{fe:VF D}{vs:List Nv}{β β1:Int}{l:List α}{e:α->D}(h:α->D)(hi:fi vs β=.ok (l.map e) β1)(hz:l.length<=1000)
  (hh:∀x,x∈l->∃vs1,k8 t (e x) (dI own ixs vs)=some vs1/\fe vs1 β1=.ok (h x) β1):b5 own ixs t fi xi fe vs β=.ok (.list (l.map h)) β1:=by
 unfold b5
 rw[hi]
 dsimp only[R.bnd]
 rw[HV (sz _ (by rw[IC];exact hz))]
 have key:∀m:List α,(∀x,x∈m->x∈l)->eS t xi fe (dI own ixs vs) (m.map e) β1=.ok (m.map h) β1:=by
  intro m
  induction m with
  |nil=>intro _;rfl
  |cons x m ih=>
   intro hm
   obtain⟨vs1,e1,e2⟩:=hh x (hm x (Ig ..))
   rw[Jp]
   unfold eS
   rw[e1]
   dsimp only
   show (R.ok true β1).okb _=_
   dsimp only[R.okb]
   rw[HV rfl,e2]
   dsimp only
   rw[ih λy hy=>hm y (Ie _ hy)];rfl
 rw[key l λ_ h=>h];rfl
def tw {α:Type}{own:Nat}{ixs:List Nat}{t:Tg}{fi:VF (List D)}{ft:VF Bool}{fe:VF D}{vs:List Nv}{β β1:Int}{l:List α}{e:α->D}(g:α->Bool)(h:α->D)(hi:fi vs β=.ok (l.map e) β1)(hz:l.length<=1000)
  (hh:∀x,x∈l->∃vs1,k8 t (e x) (dI own ixs vs)=some vs1/\ft vs1 β1=.ok (g x) β1/\(g x=true->fe vs1 β1=.ok (h x) β1)):b5 own ixs t fi ft fe vs β=.ok (.list ((l.filter g).map h)) β1:=by
 unfold b5
 rw[hi]
 dsimp only[R.bnd]
 rw[HV (sz _ (by rw[IC];exact hz))]
 have key:∀m:List α,(∀x,x∈m->x∈l)->eS t ft fe (dI own ixs vs) (m.map e) β1=.ok ((m.filter g).map h) β1:=by
  intro m
  induction m with
  |nil=>intro _;rfl
  |cons x m ih=>
   intro hm
   obtain⟨vs1,e1,e2,e3⟩:=hh x (hm x (Ig ..))
   have ih:=ih λy hy=>hm y (Ie _ hy)
   rw[Jp]
   unfold eS
   rw[e1]
   dsimp only
   rw[e2]
   dsimp only[R.okb]
   cases q:g x with
   |true=>
    rw[HV rfl,e3 q]
    dsimp only
    rw[ih,List.filter_cons_of_pos q];rfl
   |false=>
    rw[HY IG,ih,List.filter_cons_of_neg (by rw[q];exact IG)]
 rw[key l λ_ h=>h];rfl
theorem fT {t:Tg}{m:SF}(Pv:Nat->En->Int->Prop):∀{ds:List D} {k:Nat} {env:En} {β:Int},Pv k env β->
  (∀i d env β,ds[i]? =some d->Pv (k + i) env β->∃env1,cM t d env=some env1/\∃env2 β2,m env1 β=.nx env2 β2/\Pv (k + i + 1) env2 β2)->∃env' β',jv t m ds env β=.nx env' β'/\Pv (k + ds.length) env' β'
 | [],k,env,β,h0,_=>⟨env,β,rfl,h0⟩
 |d :: ds,k,env,β,h0,hs=>by
  obtain⟨env1,e1,env2,β2,e2,h1⟩:=hs 0 d env β rfl h0
  obtain⟨env',β',e3,h2⟩:=fT Pv (t:=t) (m:=m) (ds:=ds) (k:=k + 1) h1 λi d' en be hi hp=>by
   have:=hs (i + 1) d' en be (by simpa using hi) (by rw[show k + (i + 1)=k + 1 + i by omega];exact hp)
   rw[show k + (i + 1) + 1=k + 1 + i + 1 by omega] at this
   exact this
  refine⟨env',β',?_,by rw[Iv,show k + (ds.length + 1)=k + 1 + ds.length by omega];exact h2⟩
  unfold jv
  rw[e1]
  dsimp only
  rw[e2]
  exact e3
theorem jj {L:List Nat}{t:VF Bool}{m:SF}(Pv:Nat->En->Int->Prop)(Dn:En->Int->Prop):∀{n k:Nat} {env:En} {β:Int},k < n->Pv k env β->
  (∀k env β,Pv k env β->∃c β1,t (vl env) β=.ok c β1/\((c=false/\Dn (aO L env) β1)\/(c=true/\∃env2 β2 k',m (aO L env) β1=.nx env2 β2/\k' < k/\Pv k' env2 β2)))->∃env' β',fX L t m n env β=.nx env' β'/\Dn env' β'
 | 0,k,env,β,hk,_,_=>by omega
 |n + 1,k,env,β,hk,h0,hs=>by
  obtain⟨c,β1,e1,hc⟩:=hs k env β h0
  unfold fX
  rw[e1]
  dsimp only[toS]
  rcases hc with⟨rfl,hd⟩ | ⟨rfl,env2,β2,k',e2,hl,h1⟩
  ·exact⟨_,_,rfl,hd⟩
  ·rw[HV rfl,e2]
   exact jj Pv Dn (n:=n) (k:=k') (by omega) h1 hs
end L2
namespace RM
open PySem L2
def mH:SF:=(bQ (fH (f1 (gv 0) (dB "int")) (f1 (f1 (gv 0) (dB "bool")) xA)))
def ny (bo:List D->FR):SF:=(bQ (fH (aL bo (ab (gv 0) af)) (dX (cst (.int 0)) (gv 0) (gv 1) tQ xM)))
def oJ (bo:List D->FR):SF:=(bQ (fH (aL bo (ab (gv 0) af)) (dX (cst (.int 1)) (gv 0) (cst (.int 8)) tQ tQ)))
def iP (cH:List D->FR):SF:=(aF (kZ ([] ++ ([] ++ [])) (fZ (qk (qj (f1 (gv 0) (dB "tuple")))) (fg (f2 (f1 (gv 0) dE) (cst (.int 2)) (eM true))))
 (bQ (cst (.bool false)))
 n0)
 (bQ (fH (aL cH (ab (f2 (gv 0) (cst (.int 0)) cW) (ab (gv 1) af))) (aL cH (ab (f2 (gv 0) (cst (.int 1)) cW) (ab (gv 1) af))))))
def oQ:SF:=(qX (b5 1 [0] (.nm 0) (j9 (f2 (gv 0) (gv 0) dv)) xi (az (ab (f2 (gv 0) (gv 1) yw) (ab (f2 (gv 0) (gv 1) jT) af)))))
def m9:SF:=(bQ (f1 (b5 2 [] (.two 0 1) (eY (gv 0)) xi (f2 (gv 0) (gv 1) (eM false))) (eV λbs=>bs.any id)))
def aQ (dS dU fQ cX:List D->FR):SF:=(aF (kZ ([] ++ ([] ++ [])) (fZ (qk (qj (f1 (gv 0) (dB "tuple")))) (fg (f2 (f1 (gv 0) dE) (cst (.int 2)) (eM true))))
 (bQ (cst (.bool false)))
 n0)
 (aF (bJ 1 ([] ++ []) (f2 (gv 0) (cst (.int 0)) cW))
 (aF (bJ 2 ([] ++ []) (f2 (gv 0) (cst (.int 1)) cW))
 (aF (kZ (([1] ++ []) ++ []) (fZ (qk (qj (aL dS (ab (gv 1) af)))) (qk (qj (f1 (gv 2) (dB "tuple")))))
 (bQ (cst (.bool false)))
 n0)
 (aF (kZ ([] ++ [1]) (qk (qj (f1 (b5 1 [1] (.nm 0) (eY (gv 2)) xi (aL dU (ab (gv 0) (ab (gv 1) af)))) (eV λbs=>bs.all id))))
 (bQ (cst (.bool false)))
 n0)
 (bQ (fH (f2 (gv 2) (aL fQ (ab (gv 1) (ab (gv 2) af))) (eM false)) (f1 (aL cX (ab (gv 2) af)) xA))))))))
def dt:SF:=(aF (kZ ([] ++ []) (fg (f2 (gv 1) (f1 (gv 0) dE) xM))
 (bQ (f2 (gv 0) (gv 1) cW))
 n0)
 (bQ (cst (.int 0))))
def gW:SF:=(aF (bJ 2 [] (bG (Hv [48271,69621,16807,39373,30269,40014,40692,50021,61687,71993,83869,95561,30307]))) (aF (bJ 3 ((((([] ++ []) ++ []) ++ ([] ++ ([] ++ []))) ++ ([] ++ [])) ++ ([] ++ ([] ++ []))) (f2 (f2 (f2 (f2 (f2 (gv 0) (cst (.int 2147483647)) jT) (cst (.int 12345)) bS) (f2 (gv 2) (f2 (gv 1) (cst (.int 13)) jT) cW) dv) (f2 (cst (.int 977)) (gv 1) dv) bS) (f2 (cst (.int 7919)) (f2 (gv 1) (cst (.int 13)) yw) dv) bS))
 (aF (bJ 3 ([] ++ []) (f2 (gv 3) (cst (.int 1000000007)) jT))
 (bQ (f2 (f2 (f2 (f2 (gv 3) (gv 3) dv) (f2 (cst (.int 48271)) (gv 1) dv) bS) (cst (.int 1000000007)) jT) (cst (.int 7)) yw)))))
def gz (cK dh:List D->FR):SF:=(aF (bJ 2 ([0] ++ ([1] ++ [])) (aL cK (ab (gv 0) (ab (gv 1) af))))
 (aF (kZ (([] ++ []) ++ []) (fg (f2 (f2 (gv 2) (cst (.int 2)) jT) (cst (.int 0)) (eM false)))
 (qX (bG (ab (f2 (f1 (gv 2) BF) (cst (.int 2)) yw) af)))
 n0)
 (aF (bJ 3 [] (cst (.int 0)))
 (aF (dH (.nm 4) [] (j9 (cst (.int 40)))
 (bJ 3 (([] ++ []) ++ ([2] ++ ([4] ++ []))) (f2 (f2 (gv 3) (cst (.int 142857143)) dv) (aL dh (ab (gv 2) (ab (gv 4) af))) bS)))
 (qX (bG (ab (gv 3) af)))))))
def cC (ar:List D->Int->FB):SF:=(aF (j8 2 [] (f1 (gv 1) si))
 (aF (j8 3 [] (bG af))
 (aF (fX ([] ++ []) (fg (f2 (gv 2) (bG af) (eM true)))
 (gQ 3 2 ([] ++ []) (iY 0 ar (ab (f1 (gv 2) dE) af))) 1000)
 (zS 3))))
def cO (aP:List D->FR)(ar bD:List D->Int->FB):SF:=(aF (bJ 2 ([] ++ ([1] ++ [])) (f2 (cst (.int 1)) (iY 0 ar (ab (gv 1) af)) bS))
 (aF (bJ 3 ([] ++ []) (iY 0 bD (ab (f1 (gv 2) eH) af)))
 (aF (bJ 4 (([] ++ ([] ++ ([] ++ ([] ++ [])))) ++ ([] ++ [])) (f2 (bG (ab (cst (.int 2)) (ab (cst (.int 3)) (ab (cst (.int 4)) (ab (cst (.int 7)) af))))) (iY 0 ar (ab (cst (.int 4)) af)) cW))
 (aF (j8 5 [] (bG af))
 (aF (dH (.nm 6) [] (j9 (gv 2))
 (dH (.nm 7) (([] ++ []) ++ []) (oq (f2 (gv 6) (cst (.int 1)) bS) (gv 2))
 (kZ (([4] ++ []) ++ []) (fg (f2 (iY 0 ar (ab (gv 4) af)) (cst (.int 0)) (eM false)))
 (nG 5 (([] ++ []) ++ (([] ++ []) ++ [])) (az (ab (f2 (gv 3) (gv 6) cW) (ab (f2 (gv 3) (gv 7) cW) af))))
 n0)))
 (bQ (az (ab (gv 2) (ab (aL aP (ab (gv 5) af)) af)))))))))
def pN:D->Bool
 | .int _=>true
 |_=>false
def iB:List D->FR
 | [d]=>if bz d=true then .bad else .ok (.bool (pN d)) false
 |_=>.bad
def jN {d:D}(h:bz d=false):iB [d]=.ok (.bool (pN d)) false:=HY (by rw[h];exact IG)
def uO (ds:List D)(h:iB ds≠.bad):b6 1 1 mH ds=iB ds:=by
 unfold iB at h
 split at h
 ·rename_i d
  cases q:bz d with
  |true=>rw[q] at h;exact absurd rfl h
  |false=>
   rw[jN q]
   have e1:dB "int" d=some (.bool (yp d "int")):=by unfold dB;rw[q];rfl
   have e2:dB "bool" d=some (.bool (yp d "bool")):=by unfold dB;rw[q];rfl
   show fin (bQ (fH (f1 (gv 0) (dB "int")) (f1 (f1 (gv 0) (dB "bool")) xA)) [.fz d] 0)=_
   unfold bQ fH f1 gv
   simp only[pH,ui,tI,List.getElem?_cons_zero,uC,o6,jn,e1,e2]
   cases d <;> rfl
 ·exact absurd rfl h
def eO (d:D)(n:Int):Bool:=match d with
 | .int i=>decide (0<=i/\i < n)
 |_=>false
def il:List D->FR
 | [d,.int n]=>if bz d=true then .bad else .ok (.bool (eO d n)) false
 |_=>.bad
def pK {d:D}{n:Int}(h:bz d=false):il [d,.int n]=.ok (.bool (eO d n)) false:=HY (by rw[h];exact IG)
def jK {i lo n:Int}{vs:List Nv}{β:Int}{fa fb fc:VF D}{g':D->D->Option D}{q:Bool}(ha:fa vs β=.ok (.int lo) β)(hb:fb vs β=.ok (.int i) β)(hc:fc vs β=.ok (.int n) β)(hq:g' (.int i) (.int n)=some (.bool q)):dX fa fb fc tQ g' vs β=.ok (.bool (decide (lo<=i) && q)) β:=by
 unfold dX
 rw[ha];dsimp only[R.bnd];rw[hb];dsimp only[R.bnd]
 show (match (some (PyData.bool (decide (lo<=i))):Option D) with
  |some (.bool true)=>_
  |some (.bool false)=>_
  |_=>_)=_
 by_cases h:lo<=i
 ·rw[Ik h]
  dsimp only
  rw[hc]
  dsimp only[R.bnd]
  rw[hq];rfl
 ·rw[Ir h];rfl
def AS (ds:List D)(h:il ds≠.bad):b6 2 2 (ny iB) ds=il ds:=by
 unfold il at h
 split at h
 ·rename_i d n
  cases q:bz d with
  |true=>rw[q] at h;exact absurd rfl h
  |false=>
   rw[pK q]
   show fin (bQ (fH (aL iB (ab (gv 0) af)) (dX (cst (.int 0)) (gv 0) (gv 1) tQ xM)) [.fz d,.fz (.int n)] 0)=_
   unfold bQ fH aL
   simp only[pH,ui,tI,cu,vF,BZ,List.getElem?_cons_zero,uC,o6,jn,jN q]
   cases d with
   |int i=>
    show fin (toS (dX (cst (.int 0)) (gv 0) (gv 1) tQ xM [.da (.int i),.da (.int n)] 0) _)=_
    rw[jK (lo:=0) (i:=i) (n:=n) rfl rfl rfl rfl]
    show FR.ok (.bool (decide (0<=i) && decide (i < n))) false=.ok (.bool (decide (0<=i/\i < n))) false
    rw[K1]
   |_=>rfl
 ·exact absurd rfl h
def uN (d:D):Bool:=match d with
 | .int i=>decide (1<=i/\i<=8)
 |_=>false
def eZ:List D->FR
 | [d]=>if bz d=true then .bad else .ok (.bool (uN d)) false
 |_=>.bad
def sU {d:D}(h:bz d=false):eZ [d]=.ok (.bool (uN d)) false:=HY (by rw[h];exact IG)
def CC (ds:List D)(h:eZ ds≠.bad):b6 1 1 (oJ iB) ds=eZ ds:=by
 unfold eZ at h
 split at h
 ·rename_i d
  cases q:bz d with
  |true=>rw[q] at h;exact absurd rfl h
  |false=>
   rw[sU q]
   show fin (bQ (fH (aL iB (ab (gv 0) af)) (dX (cst (.int 1)) (gv 0) (cst (.int 8)) tQ tQ)) [.fz d] 0)=_
   unfold bQ fH aL
   simp only[pH,ui,tI,cu,vF,BZ,List.getElem?_cons_zero,uC,o6,jn,jN q]
   cases d with
   |int i=>
    show fin (toS (dX (cst (.int 1)) (gv 0) (cst (.int 8)) tQ tQ [.da (.int i)] 0) _)=_
    rw[jK (lo:=1) (i:=i) (n:=8) rfl rfl rfl rfl]
    show FR.ok (.bool (decide (1<=i) && decide (i<=8))) false=.ok (.bool (decide (1<=i/\i<=8))) false
    rw[K1]
   |_=>rfl
 ·exact absurd rfl h
def bW (n:Nat)(l:List Pr):D:=.tuple [.int n,.tuple (l.map aA)]
noncomputable def bF:List D->FR
 | [.int n,d]=>(match kh d with
  |some ds=>(match dc ds with
   |some ps=>(open Classical in if 1<=n/\n<=8/\OM.Wn n.toNat ps then .ok (.tuple ((OM.aX n.toNat (OM.Tr (OM.Mem ps))).map aA)) false else .bad)
   |none=>.bad)
  |none=>.bad)
 |_=>.bad
def yv {n:Nat}{ps:List Pr}(h1:1<=n)(h8:n<=8)(w:OM.Wn n ps):bF [.int n,.tuple (ps.map aA)]=.ok (.tuple ((OM.aX n (OM.Tr (OM.Mem ps))).map aA)) false:=by
 unfold bF
 simp only[kh,eN]
 rw[HV ⟨by omega,by omega,by rw[Jl];exact w⟩,Jl]
def eJ:List D->FR
 | [.tuple ds]=>(match dc ds with
  |some ps=>if ps.length<=1000 then .ok (.bool (ps.any λp=>decide (p.1=p.2))) false else .bad
  |none=>.bad)
 |_=>.bad
theorem iJ {α:Type}(f:α->Bool):∀l:List α,iq (l.map λx=>PyData.bool (f x))=some (l.map f)
 | []=>rfl
 |x :: l=>by
  show (iq (l.map λx=>PyData.bool (f x))).map (f x :: ·)=_
  rw[iJ f l];rfl
def C5 (ds:List D)(h:eJ ds≠.bad):b6 1 1 m9 ds=eJ ds:=by
 unfold eJ at h
 split at h
 ·rename_i ds
  cases q:dc ds with
  |none=>rw[q] at h;exact absurd rfl h
  |some ps=>
   rw[q] at h
   dsimp only at h
   by_cases hz:ps.length<=1000
   case neg=>rw[HY hz] at h;exact absurd rfl h
   obtain rfl:=iV q
   have e:eJ [.tuple (ps.map aA)]=.ok (.bool (ps.any λp=>decide (p.1=p.2))) false:=by
    unfold eJ;simp only[eN];rw[HV hz]
   rw[e]
   have ec:b5 2 [] (.two 0 1) (eY (gv 0)) xi (f2 (gv 0) (gv 1) (eM false)) [.da (.tuple (ps.map aA))] 0=.ok (.list (ps.map λp=>PyData.bool (decide (p.1=p.2)))) 0:=by
    exact mZ (l:=ps) (e:=aA) (λp=>PyData.bool (decide (p.1=p.2))) rfl hz λp hp=>⟨_,rfl,rfl⟩
   show fin (toS ((b5 2 [] (.two 0 1) (eY (gv 0)) xi (f2 (gv 0) (gv 1) (eM false)) [.da (.tuple (ps.map aA))] 0).bnd λx β1=>R.of (eV (λbs=>bs.any id) x) β1) λd β'=>.rt d false β')=_
   rw[ec]
   simp only[jn,eV]
   rw[iJ]
   simp[fin,List.any_map]
 ·exact absurd rfl h
theorem qc:∀l:List Pr,PyData.canLayAll0 (l.map aA)=true
 | []=>rfl
 |p :: l=>by
  show ((aA p).canLay0 && PyData.canLayAll0 (l.map aA))=true
  rw[qc l];rfl
theorem o9:∀l:List Pr,PyData.depthAll (l.map aA)<=1
 | []=>by show (0:Nat)<=1;omega
 |p :: l=>by
  show max (aA p).depth (PyData.depthAll (l.map aA))<=1
  have h1:(aA p).depth=1:=by simp[aA,PyData.depth,PyData.depthAll]
  have h2:=o9 l
  omega
def nC (l:List Pr):SeqAt.shaped (.tuple (l.map aA))=true:=by
 unfold SeqAt.shaped
 have h1:(PyData.tuple (l.map aA)).canLay0=true:=by simp only[PyData.canLay0];exact qc l
 have h2:(PyData.tuple (l.map aA)).depth<=64:=by simp only[PyData.depth];have:=o9 l;omega
 rw[h1,Ik h2];rfl
def mK (l:List Pr):SeqAt.shaped (.list (l.map aA))=true:=by
 unfold SeqAt.shaped
 have h1:(PyData.list (l.map aA)).canLay0=true:=by simp only[PyData.canLay0];exact qc l
 have h2:(PyData.list (l.map aA)).depth<=64:=by simp only[PyData.depth];have:=o9 l;omega
 rw[h1,Ik h2];rfl
def DB (p q:Pr):PyData.eqv (aA p) (aA q)=decide (p=q):=by
 obtain⟨a,b⟩:=p
 obtain⟨c,d⟩:=q
 simp only[aA,PyData.eqv,PyData.eqvAll,Bool.and_true]
 rw[Jz]
 simp
theorem pC:∀l m:List Pr,PyData.eqvAll (l.map aA) (m.map aA)=decide (l=m)
 | [],[]=>rfl
 | [],_ :: _=>rfl
 |_ :: _,[]=>rfl
 |p :: l,q :: m=>by
  show (PyData.eqv (aA p) (aA q) && PyData.eqvAll (l.map aA) (m.map aA))=_
  rw[DB,pC l m,Jz]
  simp
def u4 {n:Nat}{l:List Pr}(O:OM.Ord n l):l.length < 64:=by
 have h8:=O.hi
 have e:=O.closed
 by_cases h:l.length < 64
 ·exact h
 ·exfalso
  have h1:l.length<=n * n:=by rw[<-e];exact OM.yh _ _
  have h2:n * n<=64:=JX h8 h8
  have hn:n=8:=by
   by_cases h7:n<=7
   ·have:n * n<=7 * 7:=JX h7 h7
    omega
   ·omega
  have hlen:l.length=n * n:=by subst hn;omega
  have hg:l=OM.eQ n:=by
   refine OM.sub_eq O.ris (OM.l8 n) (λx hx=>OM.fO.mpr (O.wn x hx)) ?_
   rw[hlen];unfold OM.eQ;simp
  have:((0:Int),(0:Int))∈l:=by rw[hg];exact OM.fO.mpr ⟨⟨by omega,by omega⟩,by omega,by omega⟩
  exact O.irr 0 this
def yz {n:Nat}(h1:1<=n)(h8:n<=8):eZ [.int n]=.ok (.bool true) false:=by
 rw[sU rfl]
 show FR.ok (.bool (decide (1<=(n:Int)/\(n:Int)<=8))) false=_
 rw[Ik (by omega)]
def rT (neg:Bool)(l m:List Pr):eM neg (.tuple (l.map aA)) (.tuple (m.map aA))=some (.bool (if neg then !decide (l=m) else decide (l=m))):=by
 unfold eM
 rw[nC,nC]
 simp only[Bool.and_self,Js,PyData.eqv,pC]
def zw (neg:Bool)(l m:List Pr):eM neg (.list (l.map aA)) (.list (m.map aA))=some (.bool (if neg then !decide (l=m) else decide (l=m))):=by
 unfold eM
 rw[mK,mK]
 simp only[Bool.and_self,Js,PyData.eqv,pC]
abbrev b7 (ns:List Int):D:=.dict [(.none,.list (ns.map int))]
def lZ {i j:Int}(h: -(2 ^ 64) < i/\i < 2 ^ 64):dv (.int i) (.int j)=some (.int (i * j)):=HV (by dsimp only;rw[Ik h.1,Ik h.2];rfl)
def DG {i j:Int}(h: -(2 ^ 64) < j/\j < 2 ^ 64):dv (.int i) (.int j)=some (.int (i * j)):=HV (by dsimp only;rw[Ik h.1,Ik h.2,Bool.and_self,Bool.or_true])
def mM {i j:Int}(h:0 < j):jT (.int i) (.int j)=some (.int (i % j)):=HV (Ik h)
def zx {i j:Int}(h:0 < j)(h2:j < 1073741824):yw (.int i) (.int j)=some (.int (i / j)):=HV (by dsimp only;rw[Ik h,Ik h2];rfl)
theorem jD {α β:Type}(f:α->β)(l:List α)(i:Int):jb (l.map f) i=(jb l i).map f:=by
 unfold jb
 rw[IC]
 cases xI l.length i with
 |none=>rfl
 |some j=>simp
def pL {α:Type}{l:List α}{k:Nat}(h:k < l.length):jb l (k:Int)=some l[k]:=dm (HU h)
def DV {fa fb:VF D}{vs:List Nv}{β β1 β2:Int}{i j:Int}(h:fa vs β=.ok (.int i) β1)(h':fb vs β1=.ok (.int j) β2):fg (f2 fa fb xM) vs β=.ok (decide (i < j)) β2:=g9 _ _ _ _ (aG h h' rfl)
def iK {neg:Bool}{fa fb:VF D}{vs:List Nv}{β β1 β2:Int}{i j:Int}(h:fa vs β=.ok (.int i) β1)(h':fb vs β1=.ok (.int j) β2):fg (f2 fa fb (eM neg)) vs β=.ok (if neg then !decide (i=j) else decide (i=j)) β2:=by
 refine g9 _ _ _ _ (aG h h' ?_)
 cases neg <;> rfl
def DF (ns:List Int)(k:Nat):∃z,b6 2 2 dt [b7 ns,.int k]=.ok (.int z) false:=by
 show ∃z,fin (dt [.fz (b7 ns),.fz (.int k)] 0)=.ok (.int z) false
 unfold dt
 have e:fg (f2 (gv 1) (f1 (gv 0) dE) xM) [.da (b7 ns),.da (.int k)] 0=.ok (decide ((k:Int) < (ns.map int).length)) 0:=DV rfl rfl
 by_cases h:k < ns.length
 ·refine⟨ns[k],?_⟩
  rw[Ik (by simp;exact h)] at e
  rw[ki (d:=.int ns[k]) (b:=false) (β':=0)]
  ·rfl
  ·rw[mB e]
   show toS (f2 (gv 0) (gv 1) cW [.da (b7 ns),.da (.int k)] 0) _=_
   rw[aG (x:=b7 ns) (y:=.int k) (d:=.int ns[k]) (β1:=0) (β2:=0) rfl rfl]
   ·rfl
   ·show jb (ns.map int) (k:Int)=_
    rw[jD,pL h];rfl
 ·refine⟨0,?_⟩
  rw[Ir (by simp;omega)] at e
  rw[aH (env':=[.fz (b7 ns),.fz (.int k)]) (β':=0)]
  ·rfl
  ·rw[lg e];rfl
noncomputable def uZ:List D->FR:=b6 2 2 dt
noncomputable def yC:List D->FR:=b6 4 2 gW
abbrev uH:List Int:=[48271,69621,16807,39373,30269,40014,40692,50021,61687,71993,83869,95561,30307]
def Fs (c k:Int):∃z,yC [.int c,.int k]=.ok (.int z) false:=by
 show ∃z,fin (gW [.fz (.int c),.fz (.int k),.no,.no] 0)=.ok (.int z) false
 unfold gW
 rw[aH (env':=[.fz (.int c),.fz (.int k),.fz (.list (uH.map int)),.no]) (β':=0) (by rfl)]
 obtain⟨j,hj⟩:∃j:Nat,k % 13=j:=⟨(k % 13).toNat,by omega⟩
 have hj13:j < uH.length:=by show j < 13;omega
 have e1:f2 (f2 (f2 (f2 (f2 (gv 0) (cst (.int 2147483647)) jT) (cst (.int 12345)) bS) (f2 (gv 2) (f2 (gv 1) (cst (.int 13)) jT) cW) dv) (f2 (cst (.int 977)) (gv 1) dv) bS) (f2 (cst (.int 7919)) (f2 (gv 1) (cst (.int 13)) yw) dv) bS [.da (.int c),.da (.int k),.da (.list (uH.map int)),.no] 0
   =.ok (.int ((c % 2147483647 + 12345) * uH[j] + 977 * k + 7919 * (k / 13))) 0:=by
  refine aG (aG (aG (aG (aG (x:=.int c) (y:=.int 2147483647) rfl rfl (mM (by omega))) rfl rfl) (aG (x:=.list (uH.map int)) rfl (aG (x:=.int k) (y:=.int 13) rfl rfl (mM (by omega))) (d:=.int uH[j]) ?_) (lZ ⟨by omega,by omega⟩)) (aG (x:=.int 977) (y:=.int k) rfl rfl (lZ ⟨by omega,by omega⟩)) rfl) (aG (x:=.int 7919) rfl (aG (x:=.int k) (y:=.int 13) rfl rfl (zx (by omega) (by omega))) (lZ ⟨by omega,by omega⟩)) rfl
  show jb (uH.map int) (k % 13)=_
  rw[hj,jD,pL hj13];rfl
 generalize ((c % 2147483647 + 12345) * uH[j] + 977 * k + 7919 * (k / 13))=st at e1
 rw[aH (env':=[.fz (.int c),.fz (.int k),.fz (.list (uH.map int)),.fz (.int st)]) (β':=0) ?h]
 case h=>
  show toS (f2 _ _ bS [.da (.int c),.da (.int k),.da (.list (uH.map int)),.no] 0) _=_
  rw[e1];rfl
 have e2:f2 (gv 3) (cst (.int 1000000007)) jT [.da (.int c),.da (.int k),.da (.list (uH.map int)),.da (.int st)] 0=.ok (.int (st % 1000000007)) 0:=aG rfl rfl (mM (by omega))
 rw[aH (env':=[.fz (.int c),.fz (.int k),.fz (.list (uH.map int)),.fz (.int (st % 1000000007))]) (β':=0) ?h2]
 case h2=>
  show toS (f2 (gv 3) (cst (.int 1000000007)) jT [.da (.int c),.da (.int k),.da (.list (uH.map int)),.da (.int st)] 0) _=_
  rw[e2];rfl
 have hb: -(2 ^ 64) < st % 1000000007/\st % 1000000007 < 2 ^ 64:=⟨by omega,by omega⟩
 generalize st % 1000000007=u at hb
 have e3:f2 (f2 (f2 (f2 (gv 3) (gv 3) dv) (f2 (cst (.int 48271)) (gv 1) dv) bS) (cst (.int 1000000007)) jT) (cst (.int 7)) yw [.da (.int c),.da (.int k),.da (.list (uH.map int)),.da (.int u)] 0=.ok (.int ((u * u + 48271 * k) % 1000000007 / 7)) 0:=
  aG (aG (aG (aG (x:=.int u) (y:=.int u) rfl rfl (lZ hb)) (aG (x:=.int 48271) (y:=.int k) rfl rfl (lZ ⟨by omega,by omega⟩)) rfl) rfl (mM (by omega))) rfl (zx (by omega) (by omega))
 refine⟨(u * u + 48271 * k) % 1000000007 / 7,?_⟩
 show fin (toS (f2 _ (cst (.int 7)) yw [.da (.int c),.da (.int k),.da (.list (uH.map int)),.da (.int u)] 0) _)=_
 rw[e3];rfl
noncomputable def Df:List D->FR:=b6 5 2 (gz uZ yC)
def EF (ns:List Int)(k:Nat):∃z,Df [b7 ns,.int k]=.ok (.list [.int z]) true:=by
 obtain⟨c,hc⟩:=DF ns k
 show ∃z,fin (gz uZ yC [.fz (b7 ns),.fz (.int k),.no,.no,.no] 0)=.ok (.list [.int z]) true
 unfold gz
 have e0:aL uZ (ab (gv 0) (ab (gv 1) af)) [.da (b7 ns),.da (.int k),.no,.no,.no] 0=.ok (.int c) 0:=aV rfl hc
 rw[aH (env':=[.fz (b7 ns),.fz (.int k),.fz (.int c),.no,.no]) (β':=0) ?h]
 case h=>
  show toS (aL uZ _ [.da (b7 ns),.da (.int k),.no,.no,.no] 0) _=_
  rw[e0];rfl
 have e1:fg (f2 (f2 (gv 2) (cst (.int 2)) jT) (cst (.int 0)) (eM false)) [.da (b7 ns),.da (.int k),.da (.int c),.no,.no] 0=.ok (decide (c % 2=0)) 0:=iK (neg:=false) (aG rfl rfl (mM (by omega))) rfl
 by_cases h:c % 2=0
 ·rw[Ik h] at e1
  refine⟨(if c < 0 then -c else c) / 2,?_⟩
  rw[ki (d:=.list [.int ((if c < 0 then -c else c) / 2)]) (b:=true) (β':=0)]
  ·rfl
  ·rw[mB e1]
   show toS (bG (ab (f2 (f1 (gv 2) BF) (cst (.int 2)) yw) af) [.da (b7 ns),.da (.int k),.da (.int c),.no,.no] 0) _=_
   rw[fG (ds:=[.int ((if c < 0 then -c else c) / 2)]) (β1:=0)]
   ·rfl
   ·have e2:f2 (f1 (gv 2) BF) (cst (.int 2)) yw [.da (b7 ns),.da (.int k),.da (.int c),.no,.no] 0=.ok (.int ((if c < 0 then -c else c) / 2)) 0:=aG (cJ (x:=.int c) rfl rfl) rfl (zx (by omega) (by omega))
    rw[cu,e2];rfl
   ·simp
 ·rw[Ir h] at e1
  rw[aH (env':=[.fz (b7 ns),.fz (.int k),.fz (.int c),.no,.no]) (β':=0) (by rw[lg e1];rfl)]
  rw[aH (env':=[.fz (b7 ns),.fz (.int k),.fz (.int c),.fz (.int 0),.no]) (β':=0) (by rfl)]
  obtain⟨env',β',el,z,x,rfl,rfl⟩:=fT (t:=.nm 4) (m:=bJ 3 (([] ++ []) ++ ([2] ++ ([4] ++ []))) (f2 (f2 (gv 3) (cst (.int 142857143)) dv) (aL yC (ab (gv 2) (ab (gv 4) af))) bS)) (ds:=cx 0 40) (k:=0)
   (λ_ env β=>∃(z:Int) (x:Sl),env= [.fz (b7 ns),.fz (.int k),.fz (.int c),.fz (.int z),x]/\β=0) (env:=[.fz (b7 ns),.fz (.int k),.fz (.int c),.fz (.int 0),.no]) (β:=0) ⟨0,.no,rfl,rfl⟩ (by
    rintro i d env β hi ⟨z,x,rfl,rfl⟩
    obtain⟨j,rfl⟩:∃j:Int,d=.int j:=by
     unfold cx at hi
     rw[Ip] at hi
     cases q:(List.range 40)[i]? with
     |none=>rw[q] at hi;cases hi
     |some j=>rw[q] at hi;cases hi;exact⟨_,rfl⟩
    obtain⟨y,hy⟩:=Fs c j
    refine⟨_,rfl,_,_,?_,z * 142857143 + y,.fz (.int j),rfl,rfl⟩
    show toS (f2 (f2 (gv 3) (cst (.int 142857143)) dv) (aL yC (ab (gv 2) (ab (gv 4) af))) bS [.da (b7 ns),.da (.int k),.da (.int c),.da (.int z),.da (.int j)] 0) _=_
    rw[aG (d:=.int (z * 142857143 + y)) (aG (x:=.int z) (y:=.int 142857143) (β1:=0) (β2:=0) rfl rfl (DG ⟨by omega,by omega⟩)) (aV (ds:=[.int c,.int j]) (β1:=0) rfl hy) rfl]
    rfl)
  refine⟨z,?_⟩
  rw[aH (env':=[.fz (b7 ns),.fz (.int k),.fz (.int c),.fz (.int z),x]) (β':=0) ?h2]
  case h2=>exact el
  show fin (toS (bG (ab (gv 3) af) [.da (b7 ns),.da (.int k),.da (.int c),.da (.int z),x.val] 0) _)=_
  rw[fG (ds:=[.int z]) (β1:=0) rfl (by simp)]
  rfl
noncomputable def kP:List D->Int->FB:=kL 4 1 (cC bM)
theorem lay_ints:∀ns:List Int,PyData.canLayAll0 (ns.map int)=true
 | []=>rfl
 |n :: ns=>by
  show ((int n).canLay0 && PyData.canLayAll0 (ns.map int))=true
  rw[lay_ints ns];rfl
theorem qO:∀ns:List Int,PyData.depthAll (ns.map int)=0
 | []=>rfl
 |n :: ns=>by
  show max (int n).depth (PyData.depthAll (ns.map int))=0
  rw[qO ns];rfl
def shaped_ints (ns:List Int):SeqAt.shaped (.list (ns.map int))=true:=by
 unfold SeqAt.shaped
 have h1:(PyData.list (ns.map int)).canLay0=true:=by simp only[PyData.canLay0];exact lay_ints ns
 have h2:(PyData.list (ns.map int)).depth<=64:=by simp only[PyData.depth];rw[qO];omega
 rw[h1,Ik h2];rfl
theorem qV:∀l m:List Int,PyData.eqvAll (l.map int) (m.map int)=decide (l=m)
 | [],[]=>rfl
 | [],_ :: _=>rfl
 |_ :: _,[]=>rfl
 |p :: l,q :: m=>by
  show ((p == q) && PyData.eqvAll (l.map int) (m.map int))=_
  rw[qV l m,Jz]
  simp
def yf (neg:Bool)(l m:List Int):eM neg (.list (l.map int)) (.list (m.map int))=some (.bool (if neg then !decide (l=m) else decide (l=m))):=by
 unfold eM
 rw[shaped_ints,shaped_ints]
 simp only[Bool.and_self,Js,PyData.eqv,qV]
theorem dY {α:Type}:∀{l:List α} {k:Nat} {x:α},l[k]? =some x->(x :: l.eraseIdx k).Perm l
 | [],_,_,h=>by simp at h
 |y :: l,0,x,h=>by simp at h;subst h;exact List.Perm.refl _
 |y :: l,k + 1,x,h=>by
  have h:l[k]? =some x:=by simpa using h
  have ih:=dY h
  show (x :: y :: l.eraseIdx k).Perm (y :: l)
  exact (List.Perm.swap y x _).trans (ih.cons y)
theorem oh {α β:Type}(f:α->β):∀(l:List α) (k:Nat),(l.map f).eraseIdx k=(l.eraseIdx k).map f
 | [],_=>rfl
 |_ :: _,0=>rfl
 |x :: l,k + 1=>by simp[oh f l k]
def Bu (ns:List Int)(hz:ns.length<=100)(β:Int):∃(ms:List Int) (β':Int),kP [.list (ns.map int)] β=.ok (.list (ms.map int)) true β'/\ms.Perm ns:=by
 show ∃(ms:List Int) (β':Int),xD (cC bM [.bx,.fz (.list (ns.map int)),.no,.no] β)=.ok (.list (ms.map int)) true β'/\ms.Perm ns
 unfold cC
 rw[aH (env':=[.bx,.fz (.list (ns.map int)),.ow (.list (ns.map int)),.no]) (β':=β) (by rfl)]
 have ez:bG af [Nv.bx,.da (.list (ns.map int)),.da (.list (ns.map int)),.no] β=.ok (.list []) β:=fG rfl (by simp)
 rw[aH (env':=[.bx,.fz (.list (ns.map int)),.ow (.list (ns.map int)),.ow (.list [])]) (β':=β) ?h]
 case h=>
  show toS (bG af [Nv.bx,.da (.list (ns.map int)),.da (.list (ns.map int)),.no] β) _=_
  rw[ez];rfl
 obtain⟨env',β',ew,ms,rfl,hp⟩:=jj (L:=[] ++ []) (t:=fg (f2 (gv 2) (bG af) (eM true))) (m:=gQ 3 2 ([] ++ []) (iY 0 bM (ab (f1 (gv 2) dE) af)))
  (λk env β=>∃ls ms:List Int,env= [.bx,.fz (.list (ns.map int)),.ow (.list (ls.map int)),.ow (.list (ms.map int))]/\(ms ++ ls).Perm ns/\k=ls.length)
  (λenv β=>∃ms:List Int,env= [.bx,.fz (.list (ns.map int)),.ow (.list []),.ow (.list (ms.map int))]/\ms.Perm ns) (n:=1000) (k:=ns.length) (env:=[.bx,.fz (.list (ns.map int)),.ow (.list (ns.map int)),.ow (.list [])]) (β:=β) (by omega) ⟨ns,[],rfl,by simp,rfl⟩ (by
   rintro k env β ⟨ls,ms,rfl,hp,rfl⟩
   have e1:bG af [Nv.bx,.da (.list (ns.map int)),.da (.list (ls.map int)),.da (.list (ms.map int))] β=.ok (.list (([]:List Int).map int)) β:=fG rfl (by simp)
   have et:fg (f2 (gv 2) (bG af) (eM true)) [Nv.bx,.da (.list (ns.map int)),.da (.list (ls.map int)),.da (.list (ms.map int))] β=.ok (!decide (ls= [])) β:=
    g9 _ _ _ _ (aG (x:=.list (ls.map int)) rfl e1 (by rw[yf];rfl))
   refine⟨_,_,et,?_⟩
   have hlen:=hp.length_eq
   rw[IQ] at hlen
   cases ls with
   |nil=>exact .inl ⟨rfl,ms,rfl,by simpa using hp⟩
   |cons y ys=>
    refine .inr ⟨rfl,?_⟩
    have hm:(0:Int) < ((y :: ys).length:Nat)/\(((y :: ys).length:Nat):Int) < 1073741824:=by
     have:(y :: ys).length<=100:=by omega
     constructor
     ·simp
     ·omega
    obtain⟨j,hj⟩:∃j:Nat,β % (((y :: ys).length:Nat):Int)=j:=⟨(β % (((y :: ys).length:Nat):Int)).toNat,by have:=Int.emod_nonneg β (b:=(((y :: ys).length:Nat):Int)) (by omega);omega⟩
    have hj2:j < (y :: ys).length:=by have:=Int.emod_lt_of_pos β hm.1;omega
    have ef:iY 0 bM (ab (f1 (gv 2) dE) af) [Nv.bx,.da (.list (ns.map int)),.da (.list ((y :: ys).map int)),.da (.list (ms.map int))] β=.ok (.int (j:Int)) (β / (((y :: ys).length:Nat):Int)):=by
     refine cN (ds:=[.int (((y :: ys).length:Nat):Int)]) (b:=false) (by rfl) ?_ (by rw[pZ hm.1 hm.2,hj])
     show R.ok [int ((((y :: ys).map int).length:Nat):Int)] β=_
     rw[IC]
    have hpop:wW ((y :: ys).map int) (.int (j:Int))=some (.int (y :: ys)[j],((y :: ys).eraseIdx j).map int):=by
     unfold wW
     dsimp only
     rw[HV ⟨by omega,by omega⟩]
     have es:seqIndex? (j:Int) ((y :: ys).map int).length=some j:=by
      rw[IC]
      exact PySem.StrLaws.seqIndex_nonneg (by omega) (by omega)
     rw[es]
     dsimp only
     rw[Ip,HU hj2,oh];rfl
    refine⟨[.bx,.fz (.list (ns.map int)),.ow (.list (((y :: ys).eraseIdx j).map int)),.ow (.list ((ms ++ [(y :: ys)[j]]).map int))],β / (((y :: ys).length:Nat):Int),((y :: ys).eraseIdx j).length,?_,?_,(y :: ys).eraseIdx j,ms ++ [(y :: ys)[j]],rfl,?_,rfl⟩
    ·show gQ 3 2 ([] ++ []) (iY 0 bM (ab (f1 (gv 2) dE) af)) [.bx,.fz (.list (ns.map int)),.ow (.list ((y :: ys).map int)),.ow (.list (ms.map int))] β=_
     rw[uG (ds:=ms.map int) (es:=(y :: ys).map int) (by rfl) (by rfl) (by decide) ef (by rfl) hpop (by rw[IC];omega),KA]
     rfl
    ·rw[List.length_eraseIdx]
     rw[HV hj2]
     show (y :: ys).length - 1 < (y :: ys).length
     simp
    ·rw[IK]
     exact (JF ms (dY (HU hj2))).trans hp)
 refine⟨ms,β',?_,hp⟩
 rw[aH ew]
 rfl
def Fm {n:Nat}{l:List Pr}(h8:n<=8)(w:OM.Wn n l):OM.aX 8 (OM.Mem l)=OM.aX n (OM.Mem l):=by
 refine OM.fD (OM.bV _ _) (OM.bV _ _) λx=>?_
 rw[OM.aJ,OM.aJ]
 constructor
 ·rintro⟨_,h⟩;exact⟨w x h,h⟩
 ·rintro⟨h1,h⟩;exact⟨⟨⟨h1.1.1,by omega⟩,h1.2.1,by omega⟩,h⟩
def DW {n:Nat}{l:List Pr}(h8:n<=8)(w:OM.Wn n l):l.all DY=true:=by
 rw[JH]
 intro p hp
 have:=w p hp
 unfold DY
 rw[Ik this.1.1,Ik (by omega:p.1 < 8),Ik this.2.1,Ik (by omega:p.2 < 8)];rfl
def su (l:List Pr)(p:Pr):List Pr:=(l.filter λq=>decide (q.1=p.2)).map λq=>(p.1,q.2)
def uY (l:List Pr)(p:Pr):(su l p).length<=l.length:=by unfold su;rw[IC];exact KP ..
theorem qq (l m:List Pr):(m.flatMap (su l)).length<=m.length * l.length:=by
 induction m with
 |nil=>simp
 |cons p m ih=>
  rw[List.flatMap_cons,IQ,Iv,Nat.succ_mul]
  have:=uY l p
  omega
def qe {a b:List D}(h:a.length + b.length<=10000):jt (.list a) (.list b)=some (.list (a ++ b)):=HV (by rw[IV];omega)
def qN (ms:List Int)(ps:List Pr):Prop:=∀p,p∈ps->∃i j:Nat,i < j/\ms[i]? =some p.1/\ms[j]? =some p.2
theorem mi {α:Type}:∀{l:List α} {i j:Nat} {x:α},l.Nodup->l[i]? =some x->l[j]? =some x->i=j
 | [],_,_,_,_,h,_=>by simp at h
 |y :: l,0,0,_,_,_,_=>rfl
 |y :: l,0,j + 1,x,nd,h1,h2=>by
  simp at h1
  subst h1
  exact absurd (Ij (by simpa using h2)) (Jk.mp nd).1
 |y :: l,i + 1,0,x,nd,h1,h2=>by
  simp at h2
  subst h2
  exact absurd (Ij (by simpa using h1)) (Jk.mp nd).1
 |y :: l,i + 1,j + 1,x,nd,h1,h2=>by
  rw[mi (l:=l) (i:=i) (j:=j) (Jk.mp nd).2 (by simpa using h1) (by simpa using h2)]
def y2 {ms:List Int}{ps:List Pr}(nd:ms.Nodup)(h:qN ms ps){a b:Int}(t:OM.Tr (OM.Mem ps) a b):∃i j:Nat,i < j/\ms[i]? =some a/\ms[j]? =some b:=by
 refine t.least (S:=λa b=>∃i j:Nat,i < j/\ms[i]? =some a/\ms[j]? =some b) (λa b r=>h _ r) ?_
 rintro a b c ⟨i,j,hij,h1,h2⟩ ⟨k,l,hkl,h3,h4⟩
 have:=mi nd h2 h3
 exact⟨i,l,by omega,h1,h4⟩
def wJ {ms:List Int}{ps:List Pr}(nd:ms.Nodup)(h:qN ms ps)(a:Int):¬OM.Tr (OM.Mem ps) a a:=λt=>by
 obtain⟨i,j,hij,h1,h2⟩:=y2 nd h t
 have:=mi nd h1 h2
 omega
def ly (n:Nat):List Int:=(List.range n).map λ(k:Nat)=>(k:Int)
def vV (n:Nat):(ly n).length=n:=by unfold ly;simp
def u6 {n:Nat}{x:Int}:x∈ly n↔0<=x/\x < n:=by
 unfold ly
 rw[Iz]
 constructor
 ·rintro⟨k,hk,rfl⟩
  have:=IH.mp hk
  omega
 ·intro h
  exact⟨x.toNat,IH.mpr (by omega),by omega⟩
def xh (n:Nat):(ly n).Nodup:=by
 unfold ly
 rw[List.nodup_iff_pairwise_ne,Jw]
 exact (List.nodup_iff_pairwise_ne.mp J6).imp λ{a b} h e=>h (by omega)
def wC (n:Nat):cx 0 n=(ly n).map int:=by
 unfold cx ly
 rw[K7]
 refine J5 λk _=>?_
 show int (0 + (k:Int))=_
 rw[K9];rfl
theorem j3 {lo:Int}{n i:Nat}{d:D}(h:(cx lo n)[i]? =some d):i < n/\d=.int (lo + i):=by
 unfold cx at h
 rw[Ip] at h
 cases q:(List.range n)[i]? with
 |none=>rw[q] at h;cases h
 |some j=>
  rw[q] at h
  cases h
  obtain⟨hi,ej⟩:=Im.mp q
  rw[KL] at hi
  rw[List.getElem_range] at ej
  subst ej
  exact⟨hi,rfl⟩
def rJ {n:Nat}(h:n<=1000):eH (.int n)=some (.list ((ly n).map int)):=by
 unfold eH
 dsimp only
 rw[HV ⟨by omega,by omega⟩,Jl,wC]
def l9 {fa:VF D}{vs:List Nv}{β β1:Int}{n:Nat}(h:fa vs β=.ok (.int n) β1)(hn:n<=1000):j9 fa vs β=.ok (cx 0 n) β1:=by
 unfold j9
 rw[h]
 simp only[jn]
 rw[HV (kU (by omega) (by omega)),Jl]
def yS {fa fb:VF D}{vs:List Nv}{β β1 β2:Int}{i j:Int}(h:fa vs β=.ok (.int i) β1)(h':fb vs β1=.ok (.int j) β2)(hi:0<=i/\i<=1000)(hj:0<=j/\j<=1000):oq fa fb vs β=.ok (cx i (j - i).toNat) β2:=by
 unfold oq
 rw[h]
 simp only[jn]
 rw[h']
 simp only[jn]
 rw[HV (by rw[kU (by omega) (by omega),kU (by omega) (by omega)];rfl)]
def iF {t:Tg}{L:List Nat}{fi:VF (List D)}{m:SF}{env:En}{β β1:Int}{ds:List D}(h:fi (vl env) β=.ok ds β1):dH t L fi m env β=jv t m ds (aO L env) β1:=by unfold dH;rw[h];rfl
def wq {n:Nat}{ms:List Int}{ps:List Pr}(h1:1<=n)(h8:n<=8)(hp:ms.Perm (ly n))(ha:qN ms ps):OM.Wn n ps/\(∀a,¬OM.Tr (OM.Mem ps) a a)/\OM.Ord n (OM.aX n (OM.Tr (OM.Mem ps))):=by
 have nd:ms.Nodup:=hp.nodup_iff.mpr (xh n)
 have w:OM.Wn n ps:=λp hm=>by
  obtain⟨i,j,_,e1,e2⟩:=ha p hm
  have m1:=u6.mp (hp.mem_iff.mp (Ij e1))
  have m2:=u6.mp (hp.mem_iff.mp (Ij e2))
  exact⟨m1,m2⟩
 have ir:=λa=>wJ nd ha a
 exact⟨w,ir,OM.CL h1 h8 w ir⟩
def cT {m:Nat}(h:1<=m)(h2:m<=1000)(β:Int):∃j:Nat,j < m/\bM [.int m] β=.ok (.int (j:Int)) false (β / m):=by
 refine⟨(β % m).toNat,?_,?_⟩
 ·have h0:=Int.emod_nonneg β (b:=(m:Int)) (by omega)
  have h3:=Int.emod_lt_of_pos β (b:=(m:Int)) (by omega)
  omega
 ·rw[pZ (by omega) (by omega)]
  have h0:=Int.emod_nonneg β (b:=(m:Int)) (by omega)
  rw[show ((β % m).toNat:Int)=β % m by omega]
def v3 {Fc:List D->FR}(hF:∀{n:Nat} {ps:List Pr},1<=n->n<=8->OM.Wn n ps->(∀a,¬OM.Tr (OM.Mem ps) a a)->Fc [.list (ps.map aA)]=.ok (.tuple ((OM.aX n (OM.Tr (OM.Mem ps))).map aA)) false){most:Nat}(hm1:1<=most)(hm8:most<=8)(β:Int):∃(n:Nat) (l:List Pr) (β':Int),kL 8 1 (cO Fc bM kP) [.int most] β=.ok (bW n l) false β'/\OM.Ord n l/\n<=most:=by
 obtain⟨j,hj,ej⟩:=cT hm1 (by omega) β
 show ∃(n:Nat) (l:List Pr) (β':Int),xD (cO Fc bM kP [.bx,.fz (.int most),.no,.no,.no,.no,.no,.no] β)=.ok (bW n l) false β'/\OM.Ord n l/\n<=most
 unfold cO
 generalize hβ1:β / (most:Int)=β1 at ej
 have n8:1 + j<=8:=by omega
 have e1:f2 (cst (.int 1)) (iY 0 bM (ab (gv 1) af)) bS [Nv.bx,.da (.int most),.no,.no,.no,.no,.no,.no] β=.ok (.int ((1 + j:Nat):Int)) β1:=by
  refine aG (x:=.int 1) rfl (cN (by rfl) rfl ej) ?_
  show some (int (1 + (j:Int)))=_
  rw[show ((1 + j:Nat):Int)=1 + (j:Int) by omega]
 rw[aH (env':=[.bx,.fz (.int most),.fz (.int ((1 + j:Nat):Int)),.no,.no,.no,.no,.no]) (β':=β1) ?g1]
 case g1=>
  show toS (f2 (cst (.int 1)) (iY 0 bM (ab (gv 1) af)) bS [Nv.bx,.da (.int most),.no,.no,.no,.no,.no,.no] β) _=_
  rw[e1];rfl
 generalize hn:1 + j=n at n8
 have n1:1<=n:=by omega
 obtain⟨ms,β2,em,hp⟩:=Bu (ly n) (by rw[vV];omega) β1
 have hml:ms.length=n:=by rw[hp.length_eq,vV]
 have e2:iY 0 kP (ab (f1 (gv 2) eH) af) [Nv.bx,.da (.int most),.da (.int n),.no,.no,.no,.no,.no] β1=.ok (.list (ms.map int)) β2:=by
  refine cN (ds:=[.list ((ly n).map int)]) (b:=true) (β1:=β1) (by rfl) ?_ em
  rw[cu,cJ (x:=.int n) (d:=.list ((ly n).map int)) (β1:=β1) rfl (rJ (by omega))];rfl
 rw[aH (env':=[.bx,.fz (.int most),.fz (.int n),.fz (.list (ms.map int)),.no,.no,.no,.no]) (β':=β2) ?g2]
 case g2=>
  show toS (iY 0 kP (ab (f1 (gv 2) eH) af) [Nv.bx,.da (.int most),.da (.int n),.no,.no,.no,.no,.no] β1) _=_
  rw[e2];rfl
 obtain⟨q,hq,eq⟩:=cT (m:=4) (by omega) (by omega) β2
 obtain⟨th,hth,hthv⟩:∃th:Nat,([2,3,4,7]:List Nat)[q]? =some th/\1<=th/\th<=7:=by
  rcases (show q=0\/q=1\/q=2\/q=3 by omega) with rfl |rfl |rfl |rfl
  ·exact⟨2,rfl,by omega,by omega⟩
  ·exact⟨3,rfl,by omega,by omega⟩
  ·exact⟨4,rfl,by omega,by omega⟩
  ·exact⟨7,rfl,by omega,by omega⟩
 generalize hβ3:β2 / ((4:Nat):Int)=β3 at eq
 have e3:f2 (bG (ab (cst (.int 2)) (ab (cst (.int 3)) (ab (cst (.int 4)) (ab (cst (.int 7)) af))))) (iY 0 bM (ab (cst (.int 4)) af)) cW [Nv.bx,.da (.int most),.da (.int n),.da (.list (ms.map int)),.no,.no,.no,.no] β2=.ok (.int th) β3:=by
  refine aG (x:=.list (([2,3,4,7]:List Nat).map λ(k:Nat)=>int (k:Int))) (y:=.int q) (fG rfl (by simp)) (cN (ds:=[.int 4]) (by rfl) rfl eq) ?_
  show jb (([2,3,4,7]:List Nat).map λ(k:Nat)=>int (k:Int)) (q:Int)=_
  rw[jD,dm hth];rfl
 rw[aH (env':=[.bx,.fz (.int most),.fz (.int n),.fz (.list (ms.map int)),.fz (.int th),.no,.no,.no]) (β':=β3) ?g3]
 case g3=>
  show toS (f2 (bG (ab (cst (.int 2)) (ab (cst (.int 3)) (ab (cst (.int 4)) (ab (cst (.int 7)) af))))) (iY 0 bM (ab (cst (.int 4)) af)) cW [Nv.bx,.da (.int most),.da (.int n),.da (.list (ms.map int)),.no,.no,.no,.no] β2) _=_
  rw[e3];rfl
 have e4:bG af [Nv.bx,.da (.int most),.da (.int n),.da (.list (ms.map int)),.da (.int th),.no,.no,.no] β3=.ok (.list []) β3:=fG rfl (by simp)
 rw[aH (env':=[.bx,.fz (.int most),.fz (.int n),.fz (.list (ms.map int)),.fz (.int th),.ow (.list []),.no,.no]) (β':=β3) ?g4]
 case g4=>
  show toS (bG af [Nv.bx,.da (.int most),.da (.int n),.da (.list (ms.map int)),.da (.int th),.no,.no,.no] β3) _=_
  rw[e4];rfl
 obtain⟨env',β',ef,ps,a,b,rfl,hal,hpl⟩:=fT (t:=.nm 6) (m:=dH (.nm 7) (([] ++ []) ++ []) (oq (f2 (gv 6) (cst (.int 1)) bS) (gv 2))
   (kZ (([4] ++ []) ++ []) (fg (f2 (iY 0 bM (ab (gv 4) af)) (cst (.int 0)) (eM false)))
   (nG 5 (([] ++ []) ++ (([] ++ []) ++ [])) (az (ab (f2 (gv 3) (gv 6) cW) (ab (f2 (gv 3) (gv 7) cW) af)))) n0)) (ds:=cx 0 n) (k:=0)
  (λi env β=>∃(ps:List Pr) (a b:Sl),env= [.bx,.fz (.int most),.fz (.int n),.fz (.list (ms.map int)),.fz (.int th),.ow (.list (ps.map aA)),a,b]/\qN ms ps/\ps.length<=8 * i)
  (env:=[.bx,.fz (.int most),.fz (.int n),.fz (.list (ms.map int)),.fz (.int th),.ow (.list []),.no,.no]) (β:=β3) ⟨[],.no,.no,rfl,λp hp=>(by cases hp),by simp⟩ (by
   rintro i d env β hi ⟨ps,a,b,rfl,hal,hpl⟩
   obtain⟨hin,rfl⟩:=j3 hi
   refine⟨[.bx,.fz (.int most),.fz (.int n),.fz (.list (ms.map int)),.fz (.int th),.ow (.list (ps.map aA)),.fz (.int (0 + (i:Int))),b],rfl,?_⟩
   have er:oq (f2 (gv 6) (cst (.int 1)) bS) (gv 2) [Nv.bx,.da (.int most),.da (.int n),.da (.list (ms.map int)),.da (.int th),.da (.list (ps.map aA)),.da (.int (0 + (i:Int))),b.val] β=.ok (cx (0 + (i:Int) + 1) ((n:Int) - (0 + (i:Int) + 1)).toNat) β:=yS rfl rfl ⟨by omega,by omega⟩ ⟨by omega,by omega⟩
   rw[iF (env:=[.bx,.fz (.int most),.fz (.int n),.fz (.list (ms.map int)),.fz (.int th),.ow (.list (ps.map aA)),.fz (.int (0 + (i:Int))),b]) er]
   obtain⟨env',β',ef,qs,b,rfl,hal2,hql⟩:=fT (t:=.nm 7) (m:=kZ (([4] ++ []) ++ []) (fg (f2 (iY 0 bM (ab (gv 4) af)) (cst (.int 0)) (eM false)))
     (nG 5 (([] ++ []) ++ (([] ++ []) ++ [])) (az (ab (f2 (gv 3) (gv 6) cW) (ab (f2 (gv 3) (gv 7) cW) af)))) n0) (ds:=cx (0 + (i:Int) + 1) ((n:Int) - (0 + (i:Int) + 1)).toNat) (k:=0)
    (λk env β=>∃(qs:List Pr) (b:Sl),env= [.bx,.fz (.int most),.fz (.int n),.fz (.list (ms.map int)),.fz (.int th),.ow (.list (qs.map aA)),.fz (.int (0 + (i:Int))),b]/\qN ms qs/\qs.length<=8 * i + k)
    (env:=[.bx,.fz (.int most),.fz (.int n),.fz (.list (ms.map int)),.fz (.int th),.ow (.list (ps.map aA)),.fz (.int (0 + (i:Int))),b]) (β:=β) ⟨ps,b,rfl,hal,by omega⟩ (by
     rintro k d env β hk ⟨qs,b,rfl,hal,hql⟩
     obtain⟨hkn,rfl⟩:=j3 hk
     have hkn:i + 1 + k < n:=by omega
     refine⟨[.bx,.fz (.int most),.fz (.int n),.fz (.list (ms.map int)),.fz (.int th),.ow (.list (qs.map aA)),.fz (.int (0 + (i:Int))),.fz (.int (0 + (i:Int) + 1 + (k:Int)))],rfl,?_⟩
     obtain⟨z,hz,ez⟩:=cT hthv.1 (by omega) β
     have et:fg (f2 (iY 0 bM (ab (gv 4) af)) (cst (.int 0)) (eM false)) [Nv.bx,.da (.int most),.da (.int n),.da (.list (ms.map int)),.da (.int th),.da (.list (qs.map aA)),.da (.int (0 + (i:Int))),.da (.int (0 + (i:Int) + 1 + (k:Int)))] β=.ok (decide ((z:Int)=0)) (β / th):=iK (neg:=false) (cN (ds:=[.int th]) (by rfl) rfl ez) rfl
     by_cases c:(z:Int)=0
     ·rw[Ik c] at et
      have h1:i < ms.length:=by omega
      have h2:i + 1 + k < ms.length:=by omega
      refine⟨[.bx,.fz (.int most),.fz (.int n),.fz (.list (ms.map int)),.fz (.int th),.ow (.list ((qs ++ [(ms[i],ms[i + 1 + k])]).map aA)),.fz (.int (0 + (i:Int))),.fz (.int (0 + (i:Int) + 1 + (k:Int)))],β / th,?_,qs ++ [(ms[i],ms[i + 1 + k])],_,rfl,?_,?_⟩
      ·rw[mB et]
       have ep:az (ab (f2 (gv 3) (gv 6) cW) (ab (f2 (gv 3) (gv 7) cW) af)) [Nv.bx,.da (.int most),.da (.int n),.da (.list (ms.map int)),.da (.int th),.da (.list (qs.map aA)),.da (.int (0 + (i:Int))),.da (.int (0 + (i:Int) + 1 + (k:Int)))] (β / th)=.ok (aA (ms[i],ms[i + 1 + k])) (β / th):=by
        refine iN (ds:=[.int ms[i],.int ms[i + 1 + k]]) ?_ (by simp)
        have a1:f2 (gv 3) (gv 6) cW [Nv.bx,.da (.int most),.da (.int n),.da (.list (ms.map int)),.da (.int th),.da (.list (qs.map aA)),.da (.int (0 + (i:Int))),.da (.int (0 + (i:Int) + 1 + (k:Int)))] (β / th)=.ok (.int ms[i]) (β / th):=by
         refine aG rfl rfl ?_
         show jb (ms.map int) (0 + (i:Int))=_
         rw[K9,jD,pL h1];rfl
        have a2:f2 (gv 3) (gv 7) cW [Nv.bx,.da (.int most),.da (.int n),.da (.list (ms.map int)),.da (.int th),.da (.list (qs.map aA)),.da (.int (0 + (i:Int))),.da (.int (0 + (i:Int) + 1 + (k:Int)))] (β / th)=.ok (.int ms[i + 1 + k]) (β / th):=by
         refine aG rfl rfl ?_
         show jb (ms.map int) (0 + (i:Int) + 1 + (k:Int))=_
         rw[show (0 + (i:Int) + 1 + (k:Int))=((i + 1 + k:Nat):Int) by omega,jD,pL h2];rfl
        rw[cu,a1]
        dsimp only[R.bnd]
        rw[cu,a2];rfl
       have:=vb (i:=5) (L:=([] ++ []) ++ (([] ++ []) ++ [])) (env:=[.bx,.fz (.int most),.fz (.int n),.fz (.list (ms.map int)),.fz (.int th),.ow (.list (qs.map aA)),.fz (.int (0 + (i:Int))),.fz (.int (0 + (i:Int) + 1 + (k:Int)))]) (ds:=qs.map aA) (by rfl) ep (by rfl) (by rw[IC];omega)
       rw[KA]
       exact this
      ·intro p hp
       rcases Iu.mp hp with hp |hp
       ·exact hal p hp
       ·have:p=(ms[i],ms[i + 1 + k]):=by simpa using hp
        subst this
        exact⟨i,i + 1 + k,by omega,HU h1,HU h2⟩
      ·rw[IQ];simp;omega
     ·rw[Ir c] at et
      refine⟨_,_,by rw[lg et];rfl,qs,_,rfl,hal,by omega⟩)
   have hlen:(cx (0 + (i:Int) + 1) ((n:Int) - (0 + (i:Int) + 1)).toNat).length<=7:=by rw[kA];omega
   exact⟨_,_,ef,qs,_,b,rfl,hal2,by omega⟩)
 rw[aH (env':=[.bx,.fz (.int most),.fz (.int n),.fz (.list (ms.map int)),.fz (.int th),.ow (.list (ps.map aA)),a,b]) (β':=β') ?g5]
 case g5=>
  rw[iF (env:=[.bx,.fz (.int most),.fz (.int n),.fz (.list (ms.map int)),.fz (.int th),.ow (.list []),.no,.no]) (l9 (n:=n) rfl (by omega))]
  exact ef
 obtain⟨w,ir,O⟩:=wq n1 n8 hp hal
 refine⟨n,OM.aX n (OM.Tr (OM.Mem ps)),β',?_,O,by omega⟩
 have e9:az (ab (gv 2) (ab (aL Fc (ab (gv 5) af)) af)) [Nv.bx,.da (.int most),.da (.int n),.da (.list (ms.map int)),.da (.int th),.da (.list (ps.map aA)),a.val,b.val] β'=.ok (bW n (OM.aX n (OM.Tr (OM.Mem ps)))) β':=by
  refine iN (ds:=[.int n,.tuple ((OM.aX n (OM.Tr (OM.Mem ps))).map aA)]) ?_ (by simp)
  have a1:aL Fc (ab (gv 5) af) [Nv.bx,.da (.int most),.da (.int n),.da (.list (ms.map int)),.da (.int th),.da (.list (ps.map aA)),a.val,b.val] β'=.ok (.tuple ((OM.aX n (OM.Tr (OM.Mem ps))).map aA)) β':=aV rfl (hF n1 n8 w ir)
  rw[cu]
  show (R.ok (int n) β').bnd _=_
  dsimp only[R.bnd]
  rw[cu,a1];rfl
 show xD (toS (az (ab (gv 2) (ab (aL Fc (ab (gv 5) af)) af)) [Nv.bx,.da (.int most),.da (.int n),.da (.list (ms.map int)),.da (.int th),.da (.list (ps.map aA)),a.val,b.val] β') _)=_
 rw[e9];rfl
theorem oW {fa fb:VF D}{vs:List Nv}{β:Int}{a b:Bool}(h:fa vs β=.ok (.bool a) β)(h':fb vs β=.ok (.bool b) β):fH fa fb vs β=.ok (.bool (a && b)) β:=by
 unfold fH
 rw[h]
 dsimp only[R.bnd]
 cases a with
 |true=>exact h'
 |false=>rfl
def Hy {n:Nat}{l:List Pr}{fa:VF D}{vs:List Nv}{β:Int}(h:fa vs β=.ok (bW n l) β):f2 fa (cst (.int 0)) cW vs β=.ok (.int n) β:=aG h rfl rfl
def iG (n:Nat):(OM.eQ n).length=n * n:=by unfold OM.eQ;simp
def mf {fa:VF D}{vs:List Nv}{β:Int}{c:Bool}(h:fa vs β=.ok (.bool c) β):qj fa vs β=.ok c β:=by rw[uz,h];rfl
theorem zC {c:Nat}:∀(ts:List Str) (k:Nat) (acc:Str),(∀t∈ts,t.length + 2<=c)->(textFrom k acc ts).length<=acc.length + c * ts.length
 | [],k,acc,_=>by show acc.length<=_;omega
 |t :: r,k,acc,h=>by
  have ih:=zC r (k + 1) (acc ++ (if k > 0 then ", " else "":String) ++ t) λu hu=>h u (Ie _ hu)
  have e:(acc ++ (if k > 0 then ", " else "":String) ++ t).length=acc.length + (if k > 0 then 2 else 0) + t.length:=by
   rw[Kv,Kv]
   split <;> rfl
  rw[e] at ih
  have ht:=h t (Ig ..)
  show (textFrom (k + 1) _ r).length<=_
  have e2:c * (t :: r).length=c * r.length + c:=by rw[Iv,Nat.mul_succ]
  rw[e2]
  have:(if k > 0 then 2 else 0:Nat)<=2:=by split <;> omega
  omega
end RM
namespace L2
open PySem PyProof.Rows
section
variable {X:Cx}{K:Frag}{pins:List V}{σ:St}{H:Hp}{s:Shared}{E:XK}
def uF (ns:List Int):Int:=ns.getD (argBest (λi j=>decide (ns.getD i 0 > ns.getD j 0)) (ns.length - 1)) 0
def tK (ns:List Int):Int:=ns.getD (argBest (λi j=>decide (ns.getD i 0 < ns.getD j 0)) (ns.length - 1)) 0
theorem nu:∀{us:List Value} {ns:List Int},IntsAre us ns->∃xs:List (Int×Tok),us=xs.map (λp=>Value.int p.1 p.2)/\xs.map (·.1)=ns
 |_,_,.nil=>⟨[],rfl,rfl⟩
 |_,_,.cons n t hr=>by
  obtain⟨xs,e1,e2⟩:=nu hr
  exact⟨(n,t) :: xs,by rw[e1];rfl,by rw[<-e2];rfl⟩
def jZ {us:List Value}{ns:List Int}(h:IntsAre us ns):∃xs:Array (Int×Tok),us.toArray=intItems xs/\(∀i,numAt xs i=ns.getD i 0)/\xs.size=ns.length:=by
 obtain⟨xs,e1,e2⟩:=nu h
 refine⟨xs.toArray,?_,λi=>?_,?_⟩
 ·rw[e1,intItems,List.map_toArray]
 ·rw[numAt_eq];show ((xs.map (·.1)).getD i 0)=_;rw[e2]
 ·rw[<-e2];simp
def ue (K:Frag)(g:List Int->Int):List V->Hp->VK->Prop:=λxs H Q=>∃a ns,xs= [.ref a]/\(fC K H a (ns.map V.int)\/dA K H a (ns.map V.int))/\0 < ns.length/\Q (.int (g ns)) H
def qY {t:Addr}{A:Around}{prog:Program}{w:World}{xs:Array (Int×Tok)}{Em:Value->Shared->Prop}{op:CmpOp}{bt:Nat->Nat->Bool}{Q:Value->Shared->Prop}(hh:A.handled=none)(hT:s.heap.IsTuple t (intItems xs))(hne:0 < xs.size)(hc:CmpOf prog w A op (λi v=>(intItems xs)[i]? =some v) bt)
  (h:∀v h' tk,(intItems xs)[argBest bt (xs.size - 1)]? =some v->(∀b o,s.heap.get? b=some o->h'.get? b=some o)->Q v {s with heap:=h',toks:=tk}) :
  wpAny (model prog w) A (pyIter (.ref t)) (λit s₂=>∃I fp wr n P St bt,it=.ref I/\Walks prog w A I fp wr n P St/\St 0 s₂.heap/\(∀b∈fp,b < s₂.heap.objs.size)/\0 < n/\CmpOf prog w A op P bt/\
   ∀v h' tk,P (argBest bt (n - 1)) v->(∀b o,b∉wr->s₂.heap.get? b=some o->h'.get? b=some o)->Q v {s₂ with heap:=h',toks:=tk}) Em s:=by
 have hlt:t < s.heap.objs.size:=by obtain⟨_,e,_⟩:=hT;exact Il e
 refine K6 hT ?_
 refine⟨_,[_,t],[_],_,_,_,bt,rfl,Walks.tuple (A:=A) hh _ t (Ja hlt) (intItems xs),⟨⟨_,IB _ rfl,rfl,rfl⟩,?_⟩,λc hc=>?_,by simpa[intItems] using hne,hc,λv h' tk hP hk=>?_⟩
 ·exact hT.push _
 ·show c < (s.heap.push _).objs.size
  rw[JM]
  rcases Ih.mp hc with rfl |hc
  ·exact Nat.lt_succ_self _
  ·rcases Ih.mp hc with rfl |hc
   ·exact Nat.lt_succ_of_lt hlt
   ·cases hc
 ·refine h v h' tk (by simpa[intItems] using hP) λc o e=>hk c o (λhm=>?_) (Ia _ e)
  rcases Ih.mp hm with e1 |hm
  ·exact absurd (e1▸Il e) (IL _)
  ·cases hm
def jP {xs:Array (Int×Tok)}{ns:List Int}{bt:Nat->Nat->Bool}{v:Value}(hx:∀i,numAt xs i=ns.getD i 0)(hp:(intItems xs)[argBest bt (xs.size - 1)]? =some v):∃t,v=.int (ns.getD (argBest bt (xs.size - 1)) 0) t:=by
 obtain⟨t,e⟩:=intItems_at hp
 exact⟨t,by rw[e,hx]⟩
def v7 (hc:X.calm=true):b9 X (.builtin "max") (ue X.K uF):=by
 intro pins s σ H xs us Q I r h
 obtain⟨a,ns,rfl,hq,hz,q⟩:=h
 obtain⟨u,rfl,rx⟩:=vals1 r
 cases rx
 have hh:=I.ok.hd hc
 rcases hq with hq |hq
 ·obtain⟨its,rv,pl,_⟩:=I.list hq
  obtain⟨xs,e,hx,hs⟩:=jZ (intsAre_of rv)
  refine max_intList (xs:=xs) hh (e▸pl.isList) (by omega) λv h' tk hp k=>⟨_,H,I.kept k,?_,q⟩
  obtain⟨t,rfl⟩:=jP hx hp
  simp only[hx,hs];exact⟨t,rfl⟩
 ·obtain⟨its,rv,pl,_⟩:=I.tuple hq
  obtain⟨xs,e,hx,hs⟩:=jZ (intsAre_of rv)
  refine call_max_walk (qY (xs:=xs) hh (e▸pl) (by omega) (CmpOf.ints_gt (numAt xs) (λ_ _=>intItems_at)) λv h' tk hp k=>⟨_,H,I.kept k,?_,q⟩)
  obtain⟨t,rfl⟩:=jP hx hp
  simp only[hx,hs];exact⟨t,rfl⟩
def wm (hc:X.calm=true):b9 X (.builtin "min") (ue X.K tK):=by
 intro pins s σ H xs us Q I r h
 obtain⟨a,ns,rfl,hq,hz,q⟩:=h
 obtain⟨u,rfl,rx⟩:=vals1 r
 cases rx
 have hh:=I.ok.hd hc
 rcases hq with hq |hq
 ·obtain⟨its,rv,pl,_⟩:=I.list hq
  obtain⟨xs,e,hx,hs⟩:=jZ (intsAre_of rv)
  refine min_intList (xs:=xs) hh (e▸pl.isList) (by omega) λv h' tk hp k=>⟨_,H,I.kept k,?_,q⟩
  obtain⟨t,rfl⟩:=jP hx hp
  simp only[hx,hs];exact⟨t,rfl⟩
 ·obtain⟨its,rv,pl,_⟩:=I.tuple hq
  obtain⟨xs,e,hx,hs⟩:=jZ (intsAre_of rv)
  refine call_min_walk (qY (xs:=xs) hh (e▸pl) (by omega) (CmpOf.ints_lt (numAt xs) (λ_ _=>intItems_at)) λv h' tk hp k=>⟨_,H,I.kept k,?_,q⟩)
  obtain⟨t,rfl⟩:=jP hx hp
  simp only[hx,hs];exact⟨t,rfl⟩
def fK (g:List Int->Int)(d:D):Option D:=match kh d with
 |some ds=>(match og ds with
  |some ns=>if 0 < ns.length then some (.int (g ns)) else none
  |none=>none)
 |none=>none
theorem uX {g:List Int->Int}:xN K (λx=>ue K g [x]) (fK g) .v:=by
 intro B G H x dx d Q s hB bx e k
 unfold fK at e
 cases q:kh dx with
 |none=>rw[q] at e;cases e
 |some ds=>
  rw[q] at e
  dsimp only at e
  cases q2:og ds with
  |none=>rw[q2] at e;cases e
  |some ns=>
   rw[q2] at e
   dsimp only at e
   split at e
   ·rename_i hz
    cases e
    obtain⟨p,xs,rfl,hq,r⟩:=bx.seq q s
    rw[qx q2] at r
    have r:=r.intsB
    subst r
    exact⟨p,ns,rfl,hq,hz,k _ G H (Ext.refl s) (.int _)⟩
   ·cases e
end
end L2
section
namespace HT
open PySem PySem.Spec PyProof.Rows
section
variable {prog:Program}{w:World}{A:Around}{E:Value->Shared->Prop}{s:Shared}
def iX {t sl:Addr}{items:Array Value}{vl vu:Value}{lo hi:Option Int}{Q:Value->Shared->Prop}(ht:IsTup s.heap t items)(hs:s.heap.IsSliceOf sl vl vu .none)(pl:IsPart vl lo)(pu:IsPart vu hi)
  (hw:cq items.size 0 lo=0/\cq items.size items.size hi=items.size) (h:Q (.ref t) s):wpAny (model prog w) A (getItem (.ref t) (.ref sl)) Q E s:=by
 obtain⟨os,hos,hcs,hds⟩:=id hs
 have hTs:s.TypeIs (.ref sl) "slice":=⟨os,hos,hcs⟩
 unfold getItem
 try with_reducible refine JE ?_
 first |refine HS (HW ?_) |skip
 refine HS (wpAny_sequenceKey ht.typeIs (by decide) ?_)
 refine HS (J3 (name:=Str.ofString "__getitem__") ht.typeIs IX
  (JV IX ht.typeIs entry_tuple_getitem ?_ (args_tuple_getitem _ _)))
 show wpAny _ _ (Builtin.Tuple.tupleItemsOf (.ref t) >>= _) _ _ s
 refine HS (tupleItemsOf_ ht ?_)
 refine HS (Kn hTs ?_)
 rw[HV (by decide)]
 refine HS (fP hs pl pu ?_)
 rw[hw.1,hw.2]
 show wpAny _ _ (if (((0:Nat):Int) == 0 && (1:Int) == 1 && (items.size - 0) == items.size)=true then _ else _) _ _ s
 rw[HV (by simp)]
 refine HS ?_
 unfold Builtin.Tuple.tupleIsExact
 first
  |refine HS (Kn ht.typeIs (HW ?_))
  |refine HS (Kn ht.typeIs ?_)
 first |rw[HV (by decide)] |skip
 first
  |exact HS (Kz (HW ⟨_,rfl,HW h⟩))
  |exact HS (HS (Kz (HW ⟨_,rfl,HW h⟩)))
end
end HT
namespace L2
open PySem PySem.Spec PyProof.Rows
section
variable {X:Cx}{Γ:Fx}{E:XK}{e a b c:Expr}{f fa fb fc:VF D}{L La Lb:List Nat}{md ma mb mc:Md}{pos:Pos}
def Gi (K:Frag):V->Option Int->Option Int->Hp->VK->Prop:=λx lo hi H Q=>∃a xs,x=.ref a/\dA K H a xs/\
 ((HT.cq xs.length 0 lo=0/\HT.cq xs.length xs.length hi=xs.length)->Q (.ref a) H)/\
 (¬(HT.cq xs.length 0 lo=0/\HT.cq xs.length xs.length hi=xs.length)->∀p,H p=none->Q (.ref p) (upd H p (.tup (nW xs lo hi))))
def AI:Gf X (Gi X.K):=by
 intro pins s σ H x v vl vu lo hi sl Q I rx hs pl pu h
 obtain⟨a,xs,rfl,hx,hw,q⟩:=h
 by_cases z:HT.cq xs.length 0 lo=0/\HT.cq xs.length xs.length hi=xs.length
 ·have hw:=hw z
  cases rx
  obtain⟨its,r,ht,hz⟩:=I.tuple hx
  have hlen:its.toArray.size=xs.length:=by rw[Iq];exact r.length.symm
  refine⟨"tuple",_,IX.lookup,ht.typeIs,?_⟩
  exact HT.iX ht hs pl pu (by rw[hlen];exact z) ⟨.ref a,H,I,rfl,hw⟩
 ·exact C1 pins s σ H (.ref a) v vl vu lo hi sl Q I rx hs pl pu ⟨a,xs,rfl,hx,z,q z⟩
def kq (fa:VF D)(fl fh:VF (Option Int)):VF D:=λvs β=>(fa vs β).bnd λx β1=>(fl vs β1).bnd λl β2=>(fh vs β2).bnd λh β3=>match x with
 | .tuple ds=>.ok (.tuple (cutD ds l h)) β3
 |_=>.bad
def tL {ds:List D}{lo hi:Option Int}(h:HT.cq ds.length 0 lo=0/\HT.cq ds.length ds.length hi=ds.length):cutD ds lo hi=ds:=by
 unfold cutD;rw[h.1,h.2];simp
theorem kC {lo hi:Option Expr}{fl fh:VF (Option Int)}{Ll Lh:List Nat}{p2:Pos}(hK:X.K=Γ.K)(ha:SE X Γ E a fa La ma)(hl:FF X Γ E lo fl Ll)(hh:FF X Γ E hi fh Lh):SE X Γ E (.Subscript a (.Slice lo hi none p2) pos) (kq fa fl fh) (La ++ Ll ++ Lh) .v:=by
 refine PE.post' (yd AI ha hl hh) ?_
 rintro σ H Q ⟨env,G,B,β,I,o⟩
 refine⟨env,G,B,β,I,o.bnd.imp λd1 β1 h x G1 H1 I1 s1 m1 vx=>⟨aO La env,G1,B,β1,I1,?_⟩⟩
 rw[hJ]
 refine h.bnd.imp λl β2 h G2 H2 I2 s2 m2=>⟨aO Ll (aO La env),G2,B,β2,I2,?_⟩
 rw[hJ,hJ]
 refine h.bnd.imp λu β3 h G3 H3 I3 s3 m3=>?_
 rw[<-dk,<-dk,<-IK] at I3
 have bx:=((vx.brw I.boxThere).mono s2 m2).mono s3 m3
 cases d1 with
 |tuple ds=>
  obtain⟨p,xs,rfl,hq,r⟩:=bx.tuple I3.sub
  rw[hK]
  dsimp only at h
  refine⟨p,xs,rfl,hq,λz=>?_,λhw q hn=>?_⟩
  ·rw[r.len] at z
   rw[tL z] at h
   refine h _ _ _ I3 ((s1.trans s2).trans s3) ((m1.trans m2).trans m3) ?_
   rcases bx with bx | ⟨_,_,_,bx⟩
   ·exact bx
   ·exact bx.elim
  ·have x:=Ext.new I3.sub (o:=.tup (nW xs l u)) hn
   exact h _ _ _ (I3.ext x) (((s1.trans s2).trans s3).trans x.gg) (((m1.trans m2).trans m3).trans (x.mov B)) (.tup (.inl (.inl aq)) ((AV r l u).mono x.gg))
 |_=>exact h.elim
end
end L2
end
namespace RM
open PySem L2
def jL:SF:=(bQ (fH (f1 (gv 0) (dB "int")) (f1 (f1 (gv 0) (dB "bool")) xA)))
def kc:SF:=(bQ (fH (f1 (gv 0) (dB "bool")) (f2 (gv 0) (gv 1) (eM false))))
def gF (ar:List D->Int->FB):SF:=(aF (bJ 1 ([] ++ ([] ++ ([] ++ ([] ++ ([] ++ ([] ++ ([] ++ ([] ++ ([] ++ ([] ++ (([] ++ []) ++ (([] ++ ([] ++ [])) ++ (([] ++ []) ++ []))))))))))))) (bG (ab (cst .none) (ab (cst (.bool true)) (ab (cst (.bool false)) (ab (cst (.int (-1))) (ab (cst (.int 0)) (ab (cst (.int 1)) (ab (cst (.str "")) (ab (cst (.str "1")) (ab (az af) (ab (bG af) (ab (az (ab (cst (.int 0)) af)) (ab (az (ab (cst (.int 1)) (ab (az af) af))) (ab (bG (ab (cst (.int 0)) af)) af)))))))))))))))
 (aF (bJ 1 ([] ++ ([] ++ (([] ++ ([] ++ [])) ++ ([] ++ ((([] ++ ([] ++ [])) ++ []) ++ ([] ++ [])))))) (f2 (gv 1) (bG (ab (cst (.dict [(.str "a",.int 1)])) (ab (az (ab (cst (.int 0)) (ab (cst (.int 1)) af))) (ab (f2 (cst (.int 10)) (cst (.int 39)) xT) (ab (az (ab (az (ab (cst (.int 0)) (ab (cst (.int 1)) af))) af)) (ab (cst (.str "a")) af)))))) jt))
 (bQ (f2 (gv 1) (iY 0 ar (ab (cst (.int 18)) af)) cW))))
end RM
namespace L2.SO
open PySem PySem.W PyProof.Rows
def FY:Bool->Keyed->Array Keyed->Nat->Nat->Nat->StateT SortSt Sem (Option Nat):=sortPriv% PySem.Builtin.gallop
section
variable {M:Model}{A:Around}{E:Value->Shared->Prop}{st:SortSt}{s:Shared}
def lx (M:Model)(A:Around)(E:Value->Shared->Prop)(s:Shared)(st:SortSt)(x y:Keyed)(b:Bool):Prop:=∀Q:Option Bool->SortSt->Shared->Prop,Q (some b) st s->kasC M A E (lt' x y) Q st s
def aC {arr:Array Keyed}{i:Nat}{x:Keyed}{Q:Keyed->SortSt->Shared->Prop}(e:arr[i]? =some x)(h:Q x st s):kasC M A E (elem' arr i) Q st s:=by
 rw[elem'_eq,e];exact Ic h
def FI (M:Model)(A:Around)(E:Value->Shared->Prop)(s:Shared)(st:SortSt)(left:Bool)(key:Keyed)(arr:Array Keyed)(base n:Nat)(b:Nat->Bool):Prop:=
 ∀i,i < n->∃x,arr[base + i]? =some x/\(left=true->lx M A E s st x key (b i))/\(left=false->lx M A E s st key x (!b i))
theorem FI.ask {left:Bool}{key:Keyed}{arr:Array Keyed}{base n:Nat}{b:Nat->Bool}(B:FI M A E s st left key arr base n b){i:Nat}(hi:i < n){Q:Option Bool->SortSt->Shared->Prop}(h:Q (some (b i)) st s) :
  kasC M A E (elem' arr (base + i) >>= λx=>if left=true then lt' x key else lt' key x >>= λr=>pure (Option.map (λx=> !x) r)) Q st s:=by
 obtain⟨x,e,h1,h2⟩:=B i hi
 refine HZ (aC e ?_)
 cases left with
 |true=>exact h1 rfl _ h
 |false=>
  refine HZ (h2 rfl _ (Ic ?_))
  simp only[Option.map_some,Bool.not_not]
  exact h
def y7 {n m:Nat}{b:Nat->Bool}(h4:∀i,i < m->b i=true)(h5:∀i,m<=i->i < n->b i=false)(i:Nat)(hi:i < n):b i=true↔i < m:=by
 constructor
 ·intro hb
  refine Classical.byContradiction λc=>?_
  rw[h5 i (by omega) hi] at hb;cases hb
 ·exact h4 i
abbrev GS:=Option (Option Nat)×Nat×Nat
abbrev GF:=Nat->GS->StateT SortSt Sem (ForInStep GS)
theorem lN {f:GF}{n:Nat}{b:Nat->Bool}(mo:∀i j,i<=j->j < n->b j=true->b i=true){Q:GS->SortSt->Shared->Prop}
  (f1:∀x lo hi R,lo>=hi->R (.done (none,lo,hi)) st s->kasC M A E (f x (none,lo,hi)) R st s)
  (f2:∀x lo hi (R:ForInStep GS->SortSt->Shared->Prop),lo < hi->hi<=n->R (if b (lo + (hi - lo) / 2)=true then .yield (none,lo + (hi - lo) / 2 + 1,hi) else .yield (none,lo,lo + (hi - lo) / 2)) st s->kasC M A E (f x (none,lo,hi)) R st s)
  (hQ:∀m,m<=n->(∀i,i < n->(b i=true↔i < m))->Q (none,m,m) st s) :
  ∀(l:List Nat) (lo hi:Nat),hi - lo<=l.length->lo<=hi->hi<=n->(∀i,i < lo->b i=true)->(∀i,hi<=i->i < n->b i=false)->kasC M A E (forIn l ((none,lo,hi):GS) f) Q st s
 | [],lo,hi,h1,h2,h3,h4,h5=>by
  have e:lo=hi:=by simp at h1;omega
  subst e
  exact kasC_nil (hQ lo h3 (y7 h4 h5))
 |x :: l,lo,hi,h1,h2,h3,h4,h5=>by
  refine JJ ?_
  by_cases c:lo>=hi
  ·have e:lo=hi:=by omega
   subst e
   exact f1 x lo lo _ c (hQ lo h3 (y7 h4 h5))
  ·refine f2 x lo hi _ (by omega) h3 ?_
   simp only[Iv] at h1
   cases hb:b (lo + (hi - lo) / 2) with
   |true=>exact lN mo f1 f2 hQ l _ hi (by omega) (by omega) h3 (λi hi'=>mo i _ (by omega) (by omega) hb) h5
   |false=>
    refine lN mo f1 f2 hQ l lo _ (by omega) (by omega) (by omega) h4 λi h6 h7=>?_
    cases hb2:b i with
    |false=>rfl
    |true=>rw[mo _ i h6 h7 hb2] at hb;cases hb
theorem lY {f:GF}{e:Nat}{c:Nat->Bool}{Q:GS->SortSt->Shared->Prop}
  (f1:∀x la of R,of>=e->R (.done (none,la,of)) st s->kasC M A E (f x (none,la,of)) R st s)
  (f2:∀x la of (R:ForInStep GS->SortSt->Shared->Prop),of < e->R (if c of=true then .done (none,la,of) else .yield (none,of,2 * of + 1)) st s->kasC M A E (f x (none,la,of)) R st s)
  (hQ:∀la of,la < of->la < e->c la=false->(of < e->c of=true)->Q (none,la,of) st s) :
  ∀(l:List Nat) (la of:Nat),la < of->la < e->e<=of + l.length->c la=false->kasC M A E (forIn l ((none,la,of):GS) f) Q st s
 | [],la,of,h1,h2,h3,h4=>kasC_nil (hQ la of h1 h2 h4 λd=>by simp at h3;omega)
 |x :: l,la,of,h1,h2,h3,h4=>by
  refine JJ ?_
  by_cases d:of>=e
  ·exact f1 x la of _ d (hQ la of h1 h2 h4 λd'=>by omega)
  ·refine f2 x la of _ (by omega) ?_
   simp only[Iv] at h3
   cases hb:c of with
   |true=>exact hQ la of h1 h2 h4 λ_=>hb
   |false=>exact lY f1 f2 hQ l of _ (by omega) (by omega) (by omega) hb
theorem tf {left:Bool}{key:Keyed}{arr:Array Keyed}{base n hint:Nat}{b:Nat->Bool}(B:FI M A E s st left key arr base n b)(mo:∀i j,i<=j->j < n->b j=true->b i=true)(hh:hint < n){Q:Option Nat->SortSt->Shared->Prop}
  (hQ:∀m,m<=n->(∀i,i < n->(b i=true↔i < m))->Q (some m) st s):kasC M A E (FY left key arr base n hint) Q st s:=by
 refine HZ (B.ask hh ?_)
 cases hb:b hint with
 |true=>
  refine HZ (Jr ?_)
  refine lY (e:=n - hint) (c:=λk=> !b (hint + k)) ?_ ?_ (λla of h1 h2 h3 h4=>?_) (List.range' 0 (n - 0)) 0 1 (by omega) (by omega) (by rw[IT];omega) (by simpa using hb)
  ·intro x la of R h h'
   show kasC _ _ _ (if of>=n - hint then _ else _) _ _ _
   rw[HV h];exact Ic h'
  ·intro x la of R h h'
   show kasC _ _ _ (if of>=n - hint then _ else _) _ _ _
   rw[HY (by omega)]
   refine HZ (B.ask (i:=hint + of) (by omega) ?_)
   cases hb2:b (hint + of) with
   |true=>rw[hb2] at h';exact Ic h'
   |false=>rw[hb2] at h';exact Ic h'
  ·refine HZ (Jr ?_)
   refine lN mo ?_ ?_ (λm h5 h6=>Ic (hQ m h5 h6)) (List.range' 0 (n - 0)) (hint + la + 1) (hint + min of (n - hint)) (by rw[IT];omega) (by omega) (by omega) (λi hi=>mo i (hint + la) (by omega) (by omega) (by simpa using h3)) λi h5 h6=>?_
   ·intro x lo hi R h h'
    show kasC _ _ _ (if lo>=hi then _ else _) _ _ _
    rw[HV h];exact Ic h'
   ·intro x lo hi R h h7 h'
    show kasC _ _ _ (if lo>=hi then _ else _) _ _ _
    rw[HY (by omega)]
    refine HZ (B.ask (i:=lo + (hi - lo) / 2) (by omega) ?_)
    cases hb2:b (lo + (hi - lo) / 2) with
    |true=>rw[hb2] at h';exact Ic h'
    |false=>rw[hb2] at h';exact Ic h'
   ·cases hb2:b i with
    |false=>rfl
    |true=>
     have e:=h4 (by omega)
     simp only[JQ] at e
     rw[mo _ i (by omega) h6 hb2] at e;cases e
 |false=>
  refine HZ (Jr ?_)
  refine lY (e:=hint + 1) (c:=λk=>b (hint - k)) ?_ ?_ (λla of h1 h2 h3 h4=>?_) (List.range' 0 (n - 0)) 0 1 (by omega) (by omega) (by rw[IT];omega) (by simpa using hb)
  ·intro x la of R h h'
   show kasC _ _ _ (if of>=hint + 1 then _ else _) _ _ _
   rw[HV h];exact Ic h'
  ·intro x la of R h h'
   show kasC _ _ _ (if of>=hint + 1 then _ else _) _ _ _
   rw[HY (by omega)]
   refine HZ (B.ask (i:=hint - of) (by omega) ?_)
   cases hb2:b (hint - of) with
   |true=>rw[hb2] at h';exact Ic h'
   |false=>rw[hb2] at h';exact Ic h'
  ·refine HZ (Jr ?_)
   refine lN mo ?_ ?_ (λm h5 h6=>Ic (hQ m h5 h6)) (List.range' 0 (n - 0)) (hint + 1 - min of (hint + 1)) (hint - la) (by rw[IT];omega) (by omega) (by omega) (λi hi=>mo i (hint - of) (by omega) (by omega) (h4 (by omega))) λi h5 h6=>?_
   ·intro x lo hi R h h'
    show kasC _ _ _ (if lo>=hi then _ else _) _ _ _
    rw[HV h];exact Ic h'
   ·intro x lo hi R h h7 h'
    show kasC _ _ _ (if lo>=hi then _ else _) _ _ _
    rw[HY (by omega)]
    refine HZ (B.ask (i:=lo + (hi - lo) / 2) (by omega) ?_)
    cases hb2:b (lo + (hi - lo) / 2) with
    |true=>rw[hb2] at h';exact Ic h'
    |false=>rw[hb2] at h';exact Ic h'
   ·cases hb2:b i with
    |false=>rfl
    |true=>
     have h3':b (hint - la)=false:=h3
     rw[mo _ i (by omega) h6 hb2] at h3';cases h3'
end
section
variable {α:Type}{K:α->Int}{a b o:List α}{ia ib:Nat}{x:α}
abbrev gc (K:α->Int)(l:List α):Prop:=l.Pairwise λx y=>K x < K y
structure Mg (K:α->Int)(a b o:List α)(ia ib:Nat):Prop where
 p:o.Perm (a.take ia ++ b.take ib)
 s:gc K o
 la:∀x∈o,∀y∈a.drop ia,K x < K y
 lb:∀x∈o,∀y∈b.drop ib,K x < K y
def gC {l:List α}{i:Nat}(e:l[i]? =some x):l.drop i=x :: l.drop (i + 1):=by
 obtain⟨h,rfl⟩:=Im.mp e
 exact Ki h
def gj {l:List α}{i:Nat}(e:l[i]? =some x):l.take (i + 1)=l.take i ++ [x]:=by
 rw[JP,e];rfl
def lR {l:List α}(h:gc K l)(i:Nat):gc K (l.drop i):=h.sublist (List.drop_sublist i l)
def jU {l:List α}{i:Nat}(h:gc K l)(e:l[i]? =some x):∀y∈l.drop (i + 1),K x < K y:=by
 have:=lR h i
 rw[gC e] at this
 exact (J8.mp this).1
def Mg.stepA (h:Mg K a b o ia ib)(sa:gc K a)(e:a[ia]? =some x)(hx:∀y∈b.drop ib,K x < K y):Mg K a b (o ++ [x]) (ia + 1) ib:=by
 have hd:=gC e
 refine⟨?_,?_,?_,?_⟩
 ·rw[gj e]
  refine (h.p.append_right [x]).trans ?_
  rw[IK,IK]
  exact JF _ Jv
 ·exact Je.mpr ⟨h.s,by simp,λy hy z hz=>by simp at hz;subst hz;exact h.la y hy _ (by rw[hd];simp)⟩
 ·intro y hy z hz
  rcases Iu.mp hy with hy |hy
  ·exact h.la y hy z (by rw[hd];exact Ie _ hz)
  ·simp at hy;subst hy;exact jU sa e z hz
 ·intro y hy z hz
  rcases Iu.mp hy with hy |hy
  ·exact h.lb y hy z hz
  ·simp at hy;subst hy;exact hx z hz
def Mg.swap (h:Mg K a b o ia ib):Mg K b a o ib ia:=⟨h.p.trans Jv,h.s,h.lb,h.la⟩
def Mg.stepB (h:Mg K a b o ia ib)(sb:gc K b)(e:b[ib]? =some x)(hx:∀y∈a.drop ia,K x < K y):Mg K a b (o ++ [x]) ia (ib + 1):=(h.swap.stepA sb e hx).swap
theorem Mg.takeA (sa:gc K a):∀(k:Nat) {o:List α} {ia:Nat},Mg K a b o ia ib->(∀i,i < k->∃x,a[ia + i]? =some x/\∀y∈b.drop ib,K x < K y)->Mg K a b (o ++ (a.drop ia).take k) (ia + k) ib
 | 0,o,ia,h,_=>by simpa using h
 |k + 1,o,ia,h,hk=>by
  obtain⟨x,e,hx⟩:=hk 0 (by omega)
  rw[Nat.add_zero] at e
  have:=Mg.takeA sa k (h.stepA sa e hx) λi hi=>by
   obtain⟨y,e',hy⟩:=hk (i + 1) (by omega)
   exact⟨y,by rw[show ia + 1 + i=ia + (i + 1) by omega];exact e',hy⟩
  rw[gC e,List.take_succ_cons,show ia + (k + 1)=ia + 1 + k by omega]
  simpa using this
def Mg.takeB (sb:gc K b)(k:Nat)(h:Mg K a b o ia ib)(hk:∀i,i < k->∃x,b[ib + i]? =some x/\∀y∈a.drop ia,K x < K y):Mg K a b (o ++ (b.drop ib).take k) ia (ib + k):=(Mg.takeA sb k h.swap hk).swap
def oz (K:α->Int)(a b r:List α):Prop:=r.Perm (a ++ b)/\gc K r
def Mg.endA (h:Mg K a b o ia ib)(sa:gc K a)(e:b.length<=ib):oz K a b (o ++ a.drop ia ++ b.drop ib):=by
 rw[KG e,JS]
 refine⟨?_,Je.mpr ⟨h.s,lR sa ia,h.la⟩⟩
 refine (h.p.append_right _).trans ?_
 rw[JB e,IK]
 refine (JF _ Jv).trans ?_
 rw[<-IK,Ju]
def Mg.endB (h:Mg K a b o ia ib)(sb:gc K b)(e:a[ia]? =some x)(e2:ia + 1=a.length)(hx:∀y∈b,K y < K x):oz K a b (o ++ b.drop ib ++ a.drop ia):=by
 have hd:a.drop ia= [x]:=by
  rw[gC e,KG (show a.length<=ia + 1 by omega)]
 refine⟨?_,?_⟩
 ·refine ((h.p.append_right _).append_right _).trans ?_
  rw[IK (a.take ia),Ju,IK]
  refine (JF _ Jv).trans ?_
  rw[<-IK,Ju]
 ·refine Je.mpr ⟨Je.mpr ⟨h.s,lR sb ib,h.lb⟩,by rw[hd];simp,λy hy z hz=>?_⟩
  rw[hd] at hz;simp at hz;subst hz
  rcases Iu.mp hy with hy |hy
  ·exact h.la y hy _ (by rw[hd];simp)
  ·exact hx y (List.mem_of_mem_drop hy)
end
section
variable {M:Model}{A:Around}{E:Value->Shared->Prop}{s:Shared}{K:Keyed->Int}{a b:Array Keyed}{Ok:SortSt->Prop}
structure Go (K:Keyed->Int)(a b o:Array Keyed)(ia ib:Nat):Prop where
 m:Mg K a.toList b.toList o.toList ia ib
 ha:ia + 1 < a.size
 hb:ib < b.size
abbrev MS (τ:Type):=Option (Array Keyed)×Array Keyed×Nat×Nat×τ
abbrev MF (τ:Type):=Nat->MS τ->StateT SortSt Sem (ForInStep (MS τ))
def Fv (M:Model)(A:Around)(E:Value->Shared->Prop)(s:Shared)(K:Keyed->Int)(a b:Array Keyed)(Ok:SortSt->Prop){τ:Type}(f:MF τ):Prop:=
 ∀(x:Nat) (o:Array Keyed) (ia ib:Nat) (t:τ) (st:SortSt) (R:ForInStep (MS τ)->SortSt->Shared->Prop),Ok st->Go K a b o ia ib->
  (∀r o' ia' ib' t' st',Ok st'->oz K a.toList b.toList r.toList->R (.done (some r,o',ia',ib',t')) st' s)->
  (∀o' ia' ib' t' st',Ok st'->Go K a b o' ia' ib'->ia + ib < ia' + ib'->R (.done (none,o',ia',ib',t')) st' s/\R (.yield (none,o',ia',ib',t')) st' s)->
  kasC M A E (f x (none,o,ia,ib,t)) R st s
theorem zu {τ:Type}{f:MF τ}(hf:Fv M A E s K a b Ok f){Q:MS τ->SortSt->Shared->Prop}{i0:Nat}
  (hs:∀r o' ia' ib' t' st',Ok st'->oz K a.toList b.toList r.toList->Q (some r,o',ia',ib',t') st' s)
  (hn:∀o' ia' ib' t' st',Ok st'->Go K a b o' ia' ib'->i0 < ia' + ib'->Q (none,o',ia',ib',t') st' s) :
  ∀(l:List Nat) (o:Array Keyed) (ia ib:Nat) (t:τ) (st:SortSt),Ok st->Go K a b o ia ib->i0<=ia + ib->(l= []->i0 < ia + ib)->kasC M A E (forIn l ((none,o,ia,ib,t):MS τ) f) Q st s
 | [],o,ia,ib,t,st,h1,h2,_,h3=>kasC_nil (hn o ia ib t st h1 h2 (h3 rfl))
 |x :: l,o,ia,ib,t,st,h1,h2,h3,_=>by
  refine JJ (hf x o ia ib t st _ h1 h2 (λr o' ia' ib' t' st' g1 g2=>hs r o' ia' ib' t' st' g1 g2) λo' ia' ib' t' st' g1 g2 g3=>⟨hn o' ia' ib' t' st' g1 g2 (by omega),?_⟩)
  exact zu hf hs hn l o' ia' ib' t' st' g1 g2 (by omega) λ_=>by omega
theorem Cm {τ:Type}{f:MF τ}(hf:∀(x:Nat) (o:Array Keyed) (ia ib:Nat) (t:τ) (st:SortSt) (R:ForInStep (MS τ)->SortSt->Shared->Prop),Ok st->Go K a b o ia ib->
  (∀r o' ia' ib' t' st',Ok st'->oz K a.toList b.toList r.toList->R (.done (some r,o',ia',ib',t')) st' s)->
  (∀o' ia' ib' t' st',Ok st'->Go K a b o' ia' ib'->ia + ib < ia' + ib'->R (.yield (none,o',ia',ib',t')) st' s)->kasC M A E (f x (none,o,ia,ib,t)) R st s) {Q:MS τ->SortSt->Shared->Prop}
  (hs:∀r o' ia' ib' t' st',Ok st'->oz K a.toList b.toList r.toList->Q (some r,o',ia',ib',t') st' s) :
  ∀(l:List Nat) (o:Array Keyed) (ia ib:Nat) (t:τ) (st:SortSt),Ok st->Go K a b o ia ib->a.size + b.size<=ia + ib + l.length->kasC M A E (forIn l ((none,o,ia,ib,t):MS τ) f) Q st s
 | [],o,ia,ib,t,st,h1,h2,h3=>by
  have:=h2.ha;have:=h2.hb
  simp at h3;omega
 |x :: l,o,ia,ib,t,st,h1,h2,h3=>by
  simp only[Iv] at h3
  refine JJ (hf x o ia ib t st _ h1 h2 (λr o' ia' ib' t' st' g1 g2=>hs r o' ia' ib' t' st' g1 g2) λo' ia' ib' t' st' g1 g2 g3=>?_)
  exact Cm hf hs l o' ia' ib' t' st' g1 g2 (by omega)
end
def HP:Array Keyed->Array Keyed->StateT SortSt Sem (Array Keyed):=sortPriv% PySem.Builtin.mergeLo
section
variable {M:Model}{A:Around}{E:Value->Shared->Prop}{s:Shared}{K:Keyed->Int}{a b:Array Keyed}{Ok:SortSt->Prop}
def ic (a:Array Keyed)(i:Nat):(a.extract i a.size).toList=a.toList.drop i:=by
 rw[KS,Kg,JB]
 simp
def fU (a:Array Keyed)(i k:Nat):(a.extract i (i + k)).toList=(a.toList.drop i).take k:=by
 rw[KS,Kg]
 congr 1;omega
def cP {a:Array Keyed}{i:Nat}(h:i < a.size):∃x,a[i]? =some x/\a.toList[i]? =some x:=⟨a[i],by simp[h],by simp[h]⟩
def kQ {l:List Keyed}{i:Nat}{x:Keyed}{z:Int}(h:gc K l)(e:l[i]? =some x)(hz:z < K x):∀y∈l.drop i,z < K y:=by
 intro y hy
 rw[gC e] at hy
 rcases Ih.mp hy with rfl |hy
 ·exact hz
 ·exact J0 hz (jU h e y hy)
def va {c:Array Keyed}{z:Keyed}{base:Nat}{st:SortSt}{left:Bool}(sc:gc K c.toList)(hb:base<=c.size)(hz:∀x∈c.toList,K x≠K z)
  (h:∀x∈c.toList,lx M A E s st x z (decide (K x < K z))/\lx M A E s st z x (decide (K z < K x))) :
  FI M A E s st left z c base (c.size - base) (λi=>decide (K (c.getD (base + i) z) < K z))/\(∀i j,i<=j->j < c.size - base->decide (K (c.getD (base + j) z) < K z)=true->decide (K (c.getD (base + i) z) < K z)=true):=by
 have at':∀i,i < c.size - base->∃x,c[base + i]? =some x/\c.toList[base + i]? =some x/\c.getD (base + i) z=x:=λi hi=>by
  obtain⟨x,e1,e2⟩:=cP (a:=c) (i:=base + i) (by omega)
  refine⟨x,e1,e2,?_⟩
  rw[IF,e1];rfl
 refine⟨λi hi=>?_,λi j hij hj hd=>?_⟩
 ·obtain⟨x,e1,e2,e3⟩:=at' i hi
  have mx:=Ij e2
  simp only[e3]
  refine⟨x,e1,λ_=>(h x mx).1,λ_=>?_⟩
  have:(!decide (K x < K z))=decide (K z < K x):=by
   have:=hz x mx
   by_cases q:K x < K z
   ·rw[Ik q,Ir (by omega)];rfl
   ·rw[Ir q,Ik (by omega)];rfl
  rw[this]
  exact (h x mx).2
 ·obtain⟨x,e1,e2,e3⟩:=at' i (by omega)
  obtain⟨y,f1,f2,f3⟩:=at' j hj
  rw[f3] at hd;rw[e3]
  refine Ik ?_
  have hd':=Jn hd
  rcases KC hij with q |q
  ·have:K x < K y:=jU sc e2 y (by
    rw[KQ]
    refine⟨j - i - 1,?_⟩
    rw[K5,show base + i + 1 + (j - i - 1)=base + j by omega];exact f2)
   omega
  ·subst q
   rw[e1] at f1;cases f1;exact hd'
def o8 {c:Array Keyed}{z:Keyed}{base hint:Nat}{st:SortSt}{left:Bool}(sc:gc K c.toList)(hh:hint < c.size - base)(hz:∀x∈c.toList,K x≠K z)
  (h:∀x∈c.toList,lx M A E s st x z (decide (K x < K z))/\lx M A E s st z x (decide (K z < K x))) {Q:Option Nat->SortSt->Shared->Prop}
  (hQ:∀k,k<=c.size - base->(∀i,i < k->∃x,c.toList[base + i]? =some x/\K x < K z)->(∀x∈c.toList.drop (base + k),K z < K x)->Q (some k) st s) :
  kasC M A E (FY left z c base (c.size - base) hint) Q st s:=by
 obtain⟨B,mo⟩:=va (M:=M) (A:=A) (E:=E) (s:=s) (st:=st) (left:=left) sc (show base<=c.size by omega) hz h
 refine tf B mo hh λk hk hi=>hQ k hk (λi h1=>?_) λx hx=>?_
 ·obtain⟨x,e1,e2⟩:=cP (a:=c) (i:=base + i) (by omega)
  have:=Jn ((hi i (by omega)).mpr h1)
  rw[IF,e1] at this
  exact⟨x,e2,this⟩
 ·obtain⟨j,hj⟩:=KQ.mp hx
  rw[K5] at hj
  have hl:=(Im.mp hj).1
  rw[ID] at hl
  have e:c[base + (k + j)]? =some x:=by rw[<-Jc,<-Nat.add_assoc];exact hj
  have:=(hi (k + j) (by omega))
  rw[IF,e] at this
  have h5:=hz x (Ij hj)
  by_cases q:K x < K z
  ·have:=this.mp (Ik q);omega
  ·omega
def G8:Nat->StateT SortSt Sem Unit:=sortPriv% PySem.Builtin.setMinGallop
def vj {g:Nat}{st:SortSt}{Q:Unit->SortSt->Shared->Prop}(hgl:∀st g,Ok st->Ok (SortSt.mk' (kindOf st) (arrOf st) (pendingOf st) g (failedOf st)))(hst:Ok st)(h:∀st',Ok st'->Q () st' s):kasC M A E (G8 g) Q st s:=
 Kl (h _ (hgl st g hst))
def C3 {x0 y0 xl:Keyed}{st:SortSt}{Q:Array Keyed->SortSt->Shared->Prop}(sa:gc K a.toList)(sb:gc K b.toList)(ne:∀x∈a.toList,∀y∈b.toList,K x≠K y)
  (hlt:∀st x y,Ok st->(x∈a.toList\/x∈b.toList)->(y∈a.toList\/y∈b.toList)->lx M A E s st x y (decide (K x < K y)))
  (e0:a.toList[0]? =some x0) (f0:b.toList[0]? =some y0) (h0:K y0 < K x0) (el:a.toList[a.size - 1]? =some xl) (hl:∀y∈b.toList,K y < K xl) (hst:Ok st) (hgl:∀st g,Ok st->Ok (SortSt.mk' (kindOf st) (arrOf st) (pendingOf st) g (failedOf st)))
  (hQ:∀r st',Ok st'->oz K a.toList b.toList r.toList->Q r st' s):kasC M A E (HP a b) Q st s:=by
 refine HZ (kasC_lift (Kz ?_))
 refine HZ (aC (x:=y0) (by simpa using f0) ?_)
 have m1:Mg K a.toList b.toList [y0] 0 1:=by
  refine⟨?_,by simp,?_,?_⟩
  ·have:=gj f0
   rw[show (0 + 1)=1 from rfl] at this
   rw[this];simp
  ·intro x hx y hy
   simp at hx;subst hx
   exact kQ sa e0 h0 y hy
  ·intro x hx y hy
   simp at hx;subst hx
   exact jU sb f0 y hy
 have doneA:∀(o:Array Keyed) (ia ib:Nat),Mg K a.toList b.toList o.toList ia ib->ib=b.size->oz K a.toList b.toList (o ++ a.extract ia a.size ++ b.extract ib b.size).toList:=λo ia ib m c=>by
  rw[II,II,ic,ic]
  exact m.endA sa (by simp[c])
 have doneB:∀(o:Array Keyed) (ia ib:Nat),Mg K a.toList b.toList o.toList ia ib->ia + 1=a.size->oz K a.toList b.toList (o ++ b.extract ib b.size ++ a.extract ia a.size).toList:=λo ia ib m c=>by
  rw[II,II,ic,ic]
  refine m.endB sb (x:=xl) ?_ (by simp[c]) hl
  rw[<-el];congr 1;omega
 show kasC _ _ _ (if (1 == b.size)=true then _ else _) _ _ _
 by_cases c1:1=b.size
 ·rw[HV (by simp[c1])]
  exact Ic (hQ _ _ hst (doneA #[y0] 0 1 m1 c1))
 rw[HY (by simp[c1])]
 show kasC _ _ _ (if (0 + 1 == a.size)=true then _ else _) _ _ _
 by_cases c2:0 + 1=a.size
 ·rw[HV (by simp[c2])]
  exact Ic (hQ _ _ hst (doneB #[y0] 0 1 m1 c2))
 rw[HY (by simp[c2])]
 have za:0 < a.size:=by have:=(Im.mp e0).1;simpa using this
 have zb:0 < b.size:=by have:=(Im.mp f0).1;simpa using this
 refine HZ (Kd ?_)
 refine HZ (Jr ?_)
 refine Cm (Ok:=Ok) (K:=K) (a:=a) (b:=b) ?_ (λr o' ia' ib' t' st' g1 g2=>Ic (hQ r st' g1 g2)) (List.range' 0 (a.size + b.size - 0)) #[y0] 0 1 _ st hst ⟨m1,by omega,by omega⟩ (by rw[IT];omega)
 intro x o ia ib mg st R hst hg hd hn
 refine HZ (Jr ?_)
 refine zu (Ok:=Ok) (K:=K) (a:=a) (b:=b) (i0:=ia + ib) ?_ (λr o' ia' ib' t' st' g1 g2=>Ic (hd r _ _ _ _ st' g1 g2)) (λo' ia' ib' t' st' g1 g2 g3=>?_) (List.range' 0 (a.size + b.size - 0)) o ia ib (0,0) st hst hg (HX _) (λe=>by
  have e':=congrArg List.length e
  rw[IT,JR] at e'
  omega)
 ·intro x o ia ib t st R hst hg hd hn
  obtain⟨m,h1,h2⟩:=hg
  obtain⟨ac,bc⟩:=t
  obtain⟨y,ey,ey'⟩:=cP h2
  obtain⟨x,ex,ex'⟩:=cP (show ia < a.size by omega)
  have my:=Ij ey'
  have mx:=Ij ex'
  refine HZ (aC ey ?_)
  refine HZ (aC ex ?_)
  refine HZ (hlt st y x hst (.inr my) (.inl mx) _ ?_)
  cases hc:decide (K y < K x) with
  |true=>
   have hc':=Jn hc
   refine HZ (aC ey ?_)
   have m':Mg K a.toList b.toList (o.push y).toList ia (ib + 1):=by
    rw[IS];exact m.stepB sb ey' (kQ sa ex' hc')
   show kasC _ _ _ (if (ib + 1 == b.size)=true then _ else _) _ _ _
   by_cases c:ib + 1=b.size
   ·rw[HV (by simp[c])];exact Ic (hd _ _ _ _ _ _ hst (doneA _ _ _ m' c))
   ·rw[HY (by simp[c])]
    have g:=hn (o.push y) ia (ib + 1) (0,bc + 1) st hst ⟨m',h1,by omega⟩ (by omega)
    show kasC _ _ _ (if bc + 1>=mg then _ else _) _ _ _
    split
    ·exact Ic g.1
    ·exact Ic g.2
  |false=>
   have hc':K x < K y:=by
    have h3:=of_decide_eq_false hc
    have h4:=ne x mx y my
    omega
   refine HZ (aC ex ?_)
   have m':Mg K a.toList b.toList (o.push x).toList (ia + 1) ib:=by
    rw[IS];exact m.stepA sa ex' (kQ sb ey' hc')
   show kasC _ _ _ (if (ia + 1 + 1 == a.size)=true then _ else _) _ _ _
   by_cases c:ia + 1 + 1=a.size
   ·rw[HV (by simp[c])];exact Ic (hd _ _ _ _ _ _ hst (doneB _ _ _ m' c))
   ·rw[HY (by simp[c])]
    have g:=hn (o.push x) (ia + 1) ib (ac + 1,0) st hst ⟨m',by omega,h2⟩ (by omega)
    show kasC _ _ _ (if ac + 1>=mg then _ else _) _ _ _
    split
    ·exact Ic g.1
    ·exact Ic g.2
 ·refine HZ (kasC_lift (Kz ?_))
  refine HZ (Jr ?_)
  refine zu (Ok:=Ok) (K:=K) (a:=a) (b:=b) (i0:=ia' + ib') ?_ (λr o2 ia2 ib2 t2 st2 k1 k2=>Ic (hd r _ _ _ _ st2 k1 k2)) (λo2 ia2 ib2 t2 st2 k1 k2 k3=>?_) (List.range' 0 (a.size + b.size - 0)) o' ia' ib' _ st' g1 g2 (HX _) (λe=>by
   have e':=congrArg List.length e
   rw[IT,JR] at e'
   omega)
  ·intro x o ia ib t st R hst hG hd hn
   obtain⟨m,h1,h2⟩:=hG
   obtain⟨mg,ac,bc⟩:=t
   obtain⟨y,ey,ey'⟩:=cP h2
   have my:=Ij ey'
   show kasC _ _ _ (if mg > 1 then _ else _) _ _ _
   split
   all_goals
    refine HZ (vj (Ok:=Ok) hgl hst λst1 hst1=>?_)
    refine HZ (aC ey ?_)
    refine HZ (o8 (c:=a) (z:=y) (base:=ia) (hint:=0) (left:=false) sa (by omega) (λx hx=>ne x hx y my) (λx hx=>⟨hlt _ x y hst1 (.inl hx) (.inr my),hlt _ y x hst1 (.inr my) (.inl hx)⟩) λk hk hA hA2=>?_)
    show kasC _ _ _ (if k > 0 then _ else _) _ _ _
    by_cases hk0:k > 0
    ·rw[HV hk0]
     have m2:Mg K a.toList b.toList (o ++ a.extract ia (ia + k)).toList (ia + k) ib:=by
      rw[II,fU]
      exact m.takeA sa k λi hi=>by
       obtain⟨w,e,hw⟩:=hA i hi
       exact⟨w,e,kQ sb ey' hw⟩
     show kasC _ _ _ (if (ia + k + 1 == a.size)=true then _ else _) _ _ _
     by_cases c:ia + k + 1=a.size
     ·rw[HV (by simp[c])];exact Ic (hd _ _ _ _ _ _ hst1 (doneB _ _ _ m2 c))
     rw[HY (by simp[c])]
     have c':ia + k≠a.size:=λq=>by
      obtain⟨w,e,hw⟩:=hA (a.size - 1 - ia) (by omega)
      rw[show ia + (a.size - 1 - ia)=a.size - 1 by omega,el] at e
      cases e
      have:=hl y my;omega
     show kasC _ _ _ (if (ia + k == a.size)=true then _ else _) _ _ _
     rw[HY (by simp[c'])]
     refine HZ (aC ey ?_)
     have m3:Mg K a.toList b.toList ((o ++ a.extract ia (ia + k)).push y).toList (ia + k) (ib + 1):=by
      rw[IS];exact Mg.stepB m2 sb ey' hA2
     show kasC _ _ _ (if (ib + 1 == b.size)=true then _ else _) _ _ _
     by_cases c3:ib + 1=b.size
     ·rw[HV (by simp[c3])];exact Ic (hd _ _ _ _ _ _ hst1 (doneA _ _ _ m3 c3))
     rw[HY (by simp[c3])]
     obtain⟨x,ex,ex'⟩:=cP (show ia + k < a.size by omega)
     have mx:=Ij ex'
     refine HZ (aC ex ?_)
     refine HZ (o8 (c:=b) (z:=x) (base:=ib + 1) (hint:=0) (left:=true) sb (by omega) (λy hy e=>ne x mx y hy e.symm) (λy hy=>⟨hlt _ y x hst1 (.inr hy) (.inl mx),hlt _ x y hst1 (.inl mx) (.inr hy)⟩) λk2 hk2 hB hB2=>?_)
     show kasC _ _ _ (if k2 > 0 then _ else _) _ _ _
     by_cases hk3:k2 > 0
     ·rw[HV hk3]
      have m4:Mg K a.toList b.toList ((o ++ a.extract ia (ia + k)).push y ++ b.extract (ib + 1) (ib + 1 + k2)).toList (ia + k) (ib + 1 + k2):=by
       rw[II,fU]
       exact m3.takeB sb k2 λi hi=>by
        obtain⟨w,e,hw⟩:=hB i hi
        exact⟨w,e,kQ sa ex' hw⟩
      show kasC _ _ _ (if (ib + 1 + k2 == b.size)=true then _ else _) _ _ _
      by_cases c4:ib + 1 + k2=b.size
      ·rw[HV (by simp[c4])];exact Ic (hd _ _ _ _ _ _ hst1 (doneA _ _ _ m4 c4))
      rw[HY (by simp[c4])]
      refine HZ (aC ex ?_)
      have m5:Mg K a.toList b.toList (((o ++ a.extract ia (ia + k)).push y ++ b.extract (ib + 1) (ib + 1 + k2)).push x).toList (ia + k + 1) (ib + 1 + k2):=by
       rw[IS];exact Mg.stepA m4 sa ex' hB2
      show kasC _ _ _ (if (ia + k + 1 + 1 == a.size)=true then _ else _) _ _ _
      by_cases c5:ia + k + 1 + 1=a.size
      ·rw[HV (by simp[c5])];exact Ic (hd _ _ _ _ _ _ hst1 (doneB _ _ _ m5 c5))
      rw[HY (by simp[c5])]
      have g:=λt=>hn (((o ++ a.extract ia (ia + k)).push y ++ b.extract (ib + 1) (ib + 1 + k2)).push x) (ia + k + 1) (ib + 1 + k2) t _ hst1 ⟨m5,by omega,by omega⟩ (by omega)
      show kasC _ _ _ (if (decide (k < 7) && decide (k2 < 7))=true then _ else _) _ _ _
      split
      ·exact Ic (g _).1
      ·exact Ic (g _).2
     ·rw[HY hk3]
      have hk4:k2=0:=by omega
      have hB3:∀z∈b.toList.drop (ib + 1),K x < K z:=by have:=hB2;rw[hk4] at this;exact this
      refine HZ (aC ex ?_)
      have m5:Mg K a.toList b.toList (((o ++ a.extract ia (ia + k)).push y).push x).toList (ia + k + 1) (ib + 1):=by
       rw[IS];exact Mg.stepA m3 sa ex' hB3
      show kasC _ _ _ (if (ia + k + 1 + 1 == a.size)=true then _ else _) _ _ _
      by_cases c5:ia + k + 1 + 1=a.size
      ·rw[HV (by simp[c5])];exact Ic (hd _ _ _ _ _ _ hst1 (doneB _ _ _ m5 c5))
      rw[HY (by simp[c5])]
      have g:=λt=>hn (((o ++ a.extract ia (ia + k)).push y).push x) (ia + k + 1) (ib + 1) t _ hst1 ⟨m5,by omega,by omega⟩ (by omega)
      show kasC _ _ _ (if (decide (k < 7) && decide (k2 < 7))=true then _ else _) _ _ _
      split
      ·exact Ic (g _).1
      ·exact Ic (g _).2
    ·rw[HY hk0]
     have hk1:k=0:=by omega
     have hA3:∀z∈a.toList.drop ia,K y < K z:=by have:=hA2;rw[hk1] at this;exact this
     refine HZ (aC ey ?_)
     have m3:Mg K a.toList b.toList ((o).push y).toList (ia) (ib + 1):=by
      rw[IS];exact Mg.stepB m sb ey' hA3
     show kasC _ _ _ (if (ib + 1 == b.size)=true then _ else _) _ _ _
     by_cases c3:ib + 1=b.size
     ·rw[HV (by simp[c3])];exact Ic (hd _ _ _ _ _ _ hst1 (doneA _ _ _ m3 c3))
     rw[HY (by simp[c3])]
     obtain⟨x,ex,ex'⟩:=cP (show ia < a.size by omega)
     have mx:=Ij ex'
     refine HZ (aC ex ?_)
     refine HZ (o8 (c:=b) (z:=x) (base:=ib + 1) (hint:=0) (left:=true) sb (by omega) (λy hy e=>ne x mx y hy e.symm) (λy hy=>⟨hlt _ y x hst1 (.inr hy) (.inl mx),hlt _ x y hst1 (.inl mx) (.inr hy)⟩) λk2 hk2 hB hB2=>?_)
     show kasC _ _ _ (if k2 > 0 then _ else _) _ _ _
     by_cases hk3:k2 > 0
     ·rw[HV hk3]
      have m4:Mg K a.toList b.toList ((o).push y ++ b.extract (ib + 1) (ib + 1 + k2)).toList (ia) (ib + 1 + k2):=by
       rw[II,fU]
       exact m3.takeB sb k2 λi hi=>by
        obtain⟨w,e,hw⟩:=hB i hi
        exact⟨w,e,kQ sa ex' hw⟩
      show kasC _ _ _ (if (ib + 1 + k2 == b.size)=true then _ else _) _ _ _
      by_cases c4:ib + 1 + k2=b.size
      ·rw[HV (by simp[c4])];exact Ic (hd _ _ _ _ _ _ hst1 (doneA _ _ _ m4 c4))
      rw[HY (by simp[c4])]
      refine HZ (aC ex ?_)
      have m5:Mg K a.toList b.toList (((o).push y ++ b.extract (ib + 1) (ib + 1 + k2)).push x).toList (ia + 1) (ib + 1 + k2):=by
       rw[IS];exact Mg.stepA m4 sa ex' hB2
      show kasC _ _ _ (if (ia + 1 + 1 == a.size)=true then _ else _) _ _ _
      by_cases c5:ia + 1 + 1=a.size
      ·rw[HV (by simp[c5])];exact Ic (hd _ _ _ _ _ _ hst1 (doneB _ _ _ m5 c5))
      rw[HY (by simp[c5])]
      have g:=λt=>hn (((o).push y ++ b.extract (ib + 1) (ib + 1 + k2)).push x) (ia + 1) (ib + 1 + k2) t _ hst1 ⟨m5,by omega,by omega⟩ (by omega)
      show kasC _ _ _ (if (decide (k < 7) && decide (k2 < 7))=true then _ else _) _ _ _
      split
      ·exact Ic (g _).1
      ·exact Ic (g _).2
     ·rw[HY hk3]
      have hk4:k2=0:=by omega
      have hB3:∀z∈b.toList.drop (ib + 1),K x < K z:=by have:=hB2;rw[hk4] at this;exact this
      refine HZ (aC ex ?_)
      have m5:Mg K a.toList b.toList (((o).push y).push x).toList (ia + 1) (ib + 1):=by
       rw[IS];exact Mg.stepA m3 sa ex' hB3
      show kasC _ _ _ (if (ia + 1 + 1 == a.size)=true then _ else _) _ _ _
      by_cases c5:ia + 1 + 1=a.size
      ·rw[HV (by simp[c5])];exact Ic (hd _ _ _ _ _ _ hst1 (doneB _ _ _ m5 c5))
      rw[HY (by simp[c5])]
      have g:=λt=>hn (((o).push y).push x) (ia + 1) (ib + 1) t _ hst1 ⟨m5,by omega,by omega⟩ (by omega)
      show kasC _ _ _ (if (decide (k < 7) && decide (k2 < 7))=true then _ else _) _ _ _
      split
      ·exact Ic (g _).1
      ·exact Ic (g _).2
  ·exact HZ (Kl (Ic (hn o2 ia2 ib2 _ _ (hgl st2 _ k1) k2 (by omega))))
end
section
variable {α:Type}{K:α->Int}{a b o:List α}{na nb:Nat}{x:α}
structure Mh (K:α->Int)(a b o:List α)(na nb:Nat):Prop where
 p:o.Perm (a.drop na ++ b.drop nb)
 s:o.Pairwise λx y=>K y < K x
 la:∀x∈o,∀y∈a.take na,K y < K x
 lb:∀x∈o,∀y∈b.take nb,K y < K x
def l7 {l:List α}{i:Nat}(h:gc K l)(e:l[i]? =some x):∀y∈l.take i,K y < K x:=by
 have h1:gc K (l.take (i + 1)):=h.sublist (KI _ _)
 rw[gj e] at h1
 exact λy hy=>(Je.mp h1).2.2 y hy x (by simp)
def Mh.popA (h:Mh K a b o (na + 1) nb)(sa:gc K a)(e:a[na]? =some x)(hx:∀y∈b.take nb,K y < K x):Mh K a b (o ++ [x]) na nb:=by
 have hd:=gj e
 refine⟨?_,?_,?_,?_⟩
 ·rw[gC e]
  exact (h.p.append_right [x]).trans (Jv.trans (by simp))
 ·exact Je.mpr ⟨h.s,by simp,λy hy z hz=>by simp at hz;subst hz;exact h.la y hy _ (by rw[hd];simp)⟩
 ·intro y hy z hz
  rcases Iu.mp hy with hy |hy
  ·exact h.la y hy z (by rw[hd];exact Ke _ hz)
  ·simp at hy;subst hy;exact l7 sa e z hz
 ·intro y hy z hz
  rcases Iu.mp hy with hy |hy
  ·exact h.lb y hy z hz
  ·simp at hy;subst hy;exact hx z hz
def Mh.swap (h:Mh K a b o na nb):Mh K b a o nb na:=⟨h.p.trans Jv,h.s,h.lb,h.la⟩
def Mh.popB (h:Mh K a b o na (nb + 1))(sb:gc K b)(e:b[nb]? =some x)(hx:∀y∈a.take na,K y < K x):Mh K a b (o ++ [x]) na nb:=(h.swap.popA sb e hx).swap
theorem Mh.takeA (sa:gc K a):∀(k:Nat) {o:List α},Mh K a b o (na + k) nb->(∀i,i < k->∃x,a[na + i]? =some x/\∀y∈b.take nb,K y < K x)->Mh K a b (o ++ ((a.drop na).take k).reverse) na nb
 | 0,o,h,_=>by simpa using h
 |k + 1,o,h,hk=>by
  obtain⟨x,e,hx⟩:=hk k (by omega)
  have:=Mh.takeA sa k (h.popA sa e hx) λi hi=>hk i (by omega)
  have e2:(a.drop na)[k]? =some x:=by rw[K5];exact e
  rw[gj e2,List.reverse_append]
  simpa using this
def Mh.takeB (sb:gc K b)(k:Nat)(h:Mh K a b o na (nb + k))(hk:∀i,i < k->∃x,b[nb + i]? =some x/\∀y∈a.take na,K y < K x):Mh K a b (o ++ ((b.drop nb).take k).reverse) na nb:=(Mh.takeA sb k h.swap hk).swap
def vc (h:o.Pairwise λx y=>K y < K x):gc K o.reverse:=List.pairwise_reverse.mpr h
def Mh.endA (h:Mh K a b o 0 nb)(sb:gc K b):oz K a b (a.take 0 ++ b.take nb ++ o.reverse):=by
 rw[List.take_zero,List.nil_append]
 refine⟨?_,Je.mpr ⟨sb.sublist (KI _ _),vc h.s,λy hy z hz=>h.lb z (mem_reverse.mp hz) y hy⟩⟩
 refine (JF _ ((List.reverse_perm o).trans h.p)).trans ?_
 rw[List.drop_zero,<-IK]
 refine (List.Perm.append_right _ Jv).trans ?_
 rw[IK,Ju]
def Mh.endB (h:Mh K a b o na 1)(sa:gc K a)(e:b[0]? =some x)(hx:∀y∈a,K x < K y):oz K a b (b.take 1 ++ a.take na ++ o.reverse):=by
 have hd:b.take 1= [x]:=by have:=gj e;simpa using this
 refine⟨?_,?_⟩
 ·refine (JF _ ((List.reverse_perm o).trans h.p)).trans ?_
  rw[IK,<-IK (a.take na),Ju]
  refine (JF _ Jv).trans ?_
  rw[<-IK,Ju]
  exact Jv
 ·rw[hd]
  refine Je.mpr ⟨Je.mpr ⟨by simp,sa.sublist (KI _ _),λy hy z hz=>?_⟩,vc h.s,λy hy z hz=>?_⟩
  ·simp at hy;subst hy;exact hx z (JL hz)
  ·rcases Iu.mp hy with hy |hy
   ·simp at hy;subst hy;exact h.lb z (mem_reverse.mp hz) _ (by rw[hd];simp)
   ·exact h.la z (mem_reverse.mp hz) y hy
end
section
variable {M:Model}{A:Around}{E:Value->Shared->Prop}{s:Shared}{K:Keyed->Int}{a b:Array Keyed}{Ok:SortSt->Prop}
structure Gh (K:Keyed->Int)(a b o:Array Keyed)(na nb:Nat):Prop where
 m:Mh K a.toList b.toList o.toList na nb
 ha:1<=na
 hb:2<=nb
 za:na<=a.size
 zb:nb<=b.size
abbrev Co (τ:Type):=Option (Array Keyed)×Nat×Nat×Array Keyed×τ
abbrev Hn (τ:Type):=Nat->Co τ->StateT SortSt Sem (ForInStep (Co τ))
theorem tj {τ:Type}{f:Hn τ}(hf:∀(x:Nat) (na nb:Nat) (o:Array Keyed) (t:τ) (st:SortSt) (R:ForInStep (Co τ)->SortSt->Shared->Prop),Ok st->Gh K a b o na nb->
   (∀r na' nb' o' t' st',Ok st'->oz K a.toList b.toList r.toList->R (.done (some r,na',nb',o',t')) st' s)->
   (∀na' nb' o' t' st',Ok st'->Gh K a b o' na' nb'->na' + nb' < na + nb->R (.done (none,na',nb',o',t')) st' s/\R (.yield (none,na',nb',o',t')) st' s)->
   kasC M A E (f x (none,na,nb,o,t)) R st s) {Q:Co τ->SortSt->Shared->Prop} {i0:Nat}
  (hs:∀r na' nb' o' t' st',Ok st'->oz K a.toList b.toList r.toList->Q (some r,na',nb',o',t') st' s)
  (hn:∀na' nb' o' t' st',Ok st'->Gh K a b o' na' nb'->na' + nb' < i0->Q (none,na',nb',o',t') st' s) :
  ∀(l:List Nat) (na nb:Nat) (o:Array Keyed) (t:τ) (st:SortSt),Ok st->Gh K a b o na nb->na + nb<=i0->(l= []->na + nb < i0)->kasC M A E (forIn l ((none,na,nb,o,t):Co τ) f) Q st s
 | [],na,nb,o,t,st,h1,h2,_,h3=>kasC_nil (hn na nb o t st h1 h2 (h3 rfl))
 |x :: l,na,nb,o,t,st,h1,h2,h3,_=>by
  refine JJ (hf x na nb o t st _ h1 h2 (λr na' nb' o' t' st' g1 g2=>hs r na' nb' o' t' st' g1 g2) λna' nb' o' t' st' g1 g2 g3=>⟨hn na' nb' o' t' st' g1 g2 (by omega),?_⟩)
  exact tj hf hs hn l na' nb' o' t' st' g1 g2 (by omega) λ_=>by omega
theorem yJ {τ:Type}{f:Hn τ}(hf:∀(x:Nat) (na nb:Nat) (o:Array Keyed) (t:τ) (st:SortSt) (R:ForInStep (Co τ)->SortSt->Shared->Prop),Ok st->Gh K a b o na nb->
   (∀r na' nb' o' t' st',Ok st'->oz K a.toList b.toList r.toList->R (.done (some r,na',nb',o',t')) st' s)->
   (∀na' nb' o' t' st',Ok st'->Gh K a b o' na' nb'->na' + nb' < na + nb->R (.yield (none,na',nb',o',t')) st' s)->
   kasC M A E (f x (none,na,nb,o,t)) R st s) {Q:Co τ->SortSt->Shared->Prop}
  (hs:∀r na' nb' o' t' st',Ok st'->oz K a.toList b.toList r.toList->Q (some r,na',nb',o',t') st' s) :
  ∀(l:List Nat) (na nb:Nat) (o:Array Keyed) (t:τ) (st:SortSt),Ok st->Gh K a b o na nb->na + nb<=l.length->kasC M A E (forIn l ((none,na,nb,o,t):Co τ) f) Q st s
 | [],na,nb,o,t,st,h1,h2,h3=>by
  have:=h2.ha
  rw[JR] at h3;omega
 |x :: l,na,nb,o,t,st,h1,h2,h3=>by
  simp only[Iv] at h3
  refine JJ (hf x na nb o t st _ h1 h2 (λr na' nb' o' t' st' g1 g2=>hs r na' nb' o' t' st' g1 g2) λna' nb' o' t' st' g1 g2 g3=>?_)
  exact yJ hf hs l na' nb' o' t' st' g1 g2 (by omega)
def mC {c:Array Keyed}{z:Keyed}{n hint:Nat}{st:SortSt}{left:Bool}(sc:gc K c.toList)(hn:n<=c.size)(hh:hint < n)(hz:∀x∈c.toList,K x≠K z)
  (h:∀x∈c.toList,lx M A E s st x z (decide (K x < K z))/\lx M A E s st z x (decide (K z < K x))) {Q:Option Nat->SortSt->Shared->Prop}
  (hQ:∀k,k<=n->(∀y∈c.toList.take k,K y < K z)->(∀i,i < n - k->∃x,c.toList[k + i]? =some x/\K z < K x)->Q (some k) st s) :
  kasC M A E (FY left z c 0 n hint) Q st s:=by
 obtain⟨B,mo⟩:=va (M:=M) (A:=A) (E:=E) (s:=s) (st:=st) (left:=left) (base:=0) sc (IU _) hz h
 refine tf (n:=n) (λi hi=>B i (by omega)) (λi j h1 h2=>mo i j h1 (by omega)) hh λk hk hi=>hQ k hk (λy hy=>?_) λi h1=>?_
 ·obtain⟨j,hj⟩:=KQ.mp hy
  have hl:=(Im.mp hj).1
  rw[Jf] at hl
  have hj2:c.toList[j]? =some y:=by rw[List.getElem?_take] at hj;split at hj;exact hj;cases hj
  have e:c[j]? =some y:=by rw[<-Jc];exact hj2
  have:=Jn ((hi j (by omega)).mpr (by omega))
  rw[Jq,IF,e] at this
  exact this
 ·obtain⟨x,e1,e2⟩:=cP (a:=c) (i:=k + i) (by omega)
  refine⟨x,e2,?_⟩
  have:=hi (k + i) (by omega)
  rw[Jq,IF,e1] at this
  have h5:=hz x (Ij e2)
  by_cases q:K x < K z
  ·have:=this.mp (Ik q);omega
  ·omega
end
def HG:Array Keyed->Array Keyed->StateT SortSt Sem (Array Keyed):=sortPriv% PySem.Builtin.mergeHi
section
variable {M:Model}{A:Around}{E:Value->Shared->Prop}{s:Shared}{K:Keyed->Int}{a b:Array Keyed}{Ok:SortSt->Prop}
def ip (a:Array Keyed)(i:Nat):(a.extract 0 i).toList=a.toList.take i:=by
 rw[KS,Kg];simp
def mr {l:List Keyed}{i:Nat}{x:Keyed}{z:Int}(h:gc K l)(e:l[i]? =some x)(hz:K x < z):∀y∈l.take (i + 1),K y < z:=by
 intro y hy
 rw[gj e] at hy
 rcases Iu.mp hy with hy |hy
 ·exact J0 (l7 h e y hy) hz
 ·simp at hy;subst hy;exact hz
def CJ {y0 xl:Keyed}{st:SortSt}{Q:Array Keyed->SortSt->Shared->Prop}(sa:gc K a.toList)(sb:gc K b.toList)(ne:∀x∈a.toList,∀y∈b.toList,K x≠K y)
  (hlt:∀st x y,Ok st->(x∈a.toList\/x∈b.toList)->(y∈a.toList\/y∈b.toList)->lx M A E s st x y (decide (K x < K y)))
  (f0:b.toList[0]? =some y0) (h0:∀x∈a.toList,K y0 < K x) (el:a.toList[a.size - 1]? =some xl) (hl:∀y∈b.toList,K y < K xl) (hst:Ok st) (hgl:∀st g,Ok st->Ok (SortSt.mk' (kindOf st) (arrOf st) (pendingOf st) g (failedOf st)))
  (hQ:∀r st',Ok st'->oz K a.toList b.toList r.toList->Q r st' s):kasC M A E (HG a b) Q st s:=by
 refine HZ (kasC_lift (Kz ?_))
 refine HZ (aC (x:=xl) (by rw[<-Jc];exact el) ?_)
 have za:0 < a.size:=by have:=(Im.mp el).1;rw[ID] at this;omega
 have zb:0 < b.size:=by have:=(Im.mp f0).1;rw[ID] at this;omega
 have m1:Mh K a.toList b.toList [xl] (a.size - 1) b.size:=by
  refine⟨?_,by simp,?_,?_⟩
  ·rw[gC el,KG (show a.toList.length<=a.size - 1 + 1 by rw[ID];omega),KG (show b.toList.length<=b.size by rw[ID];omega),JS]
  ·intro x hx y hy
   simp at hx;subst hx
   exact l7 sa el y hy
  ·intro x hx y hy
   simp at hx;subst hx
   exact hl y (JL hy)
 have doneA:∀(o:Array Keyed) (na nb:Nat),Mh K a.toList b.toList o.toList na nb->na=0->oz K a.toList b.toList (a.extract 0 na ++ b.extract 0 nb ++ o.reverse).toList:=λo na nb m c=>by
  subst c
  rw[II,II,ip,ip,Kj]
  exact m.endA sb
 have doneB:∀(o:Array Keyed) (na nb:Nat),Mh K a.toList b.toList o.toList na nb->nb=1->oz K a.toList b.toList (b.extract 0 nb ++ a.extract 0 na ++ o.reverse).toList:=λo na nb m c=>by
  subst c
  rw[II,II,ip,ip,Kj]
  exact m.endB sa f0 h0
 show kasC _ _ _ (if (a.size - 1 == 0)=true then _ else _) _ _ _
 by_cases c1:a.size - 1=0
 ·rw[HV (by simp[c1])]
  exact Ic (hQ _ _ hst (doneA #[xl] _ _ m1 c1))
 rw[HY (by simp[c1])]
 show kasC _ _ _ (if (b.size == 1)=true then _ else _) _ _ _
 by_cases c2:b.size=1
 ·rw[HV (by simp[c2])]
  exact Ic (hQ _ _ hst (doneB #[xl] _ _ m1 c2))
 rw[HY (by simp[c2])]
 refine HZ (Kd ?_)
 refine HZ (Jr ?_)
 refine yJ (Ok:=Ok) (K:=K) (a:=a) (b:=b) ?_ (λr na' nb' o' t' st' g1 g2=>Ic (hQ r st' g1 g2)) (List.range' 0 (a.size + b.size - 0)) (a.size - 1) b.size #[xl] _ st hst ⟨m1,by omega,by omega,by omega,by omega⟩ (by rw[IT];omega)
 intro x na nb o mg st R hst hg hd hn
 have nl:List.range' 0 (a.size + b.size - 0)≠ []:=λe=>by
  have e':=congrArg List.length e
  rw[IT,JR] at e'
  omega
 refine HZ (Jr ?_)
 refine tj (Ok:=Ok) (K:=K) (a:=a) (b:=b) (i0:=na + nb) ?_ (λr na' nb' o' t' st' g1 g2=>Ic (hd r _ _ _ _ st' g1 g2)) (λna' nb' o' t' st' g1 g2 g3=>?_) (List.range' 0 (a.size + b.size - 0)) na nb o (0,0) st hst hg (HX _) (λe=>absurd e nl)
 ·intro x na nb o t st R hst hG hd hn
  obtain⟨m,h1,h2,h3,h4⟩:=hG
  obtain⟨p,rfl⟩:∃p,na=p + 1:=⟨na - 1,by omega⟩
  obtain⟨q,rfl⟩:∃q,nb=q + 1:=⟨nb - 1,by omega⟩
  obtain⟨ac,bc⟩:=t
  obtain⟨y,ey,ey'⟩:=cP (show q < b.size by omega)
  obtain⟨x,ex,ex'⟩:=cP (show p < a.size by omega)
  have my:=Ij ey'
  have mx:=Ij ex'
  refine HZ (aC (i:=q) ey ?_)
  refine HZ (aC (i:=p) ex ?_)
  refine HZ (hlt st y x hst (.inr my) (.inl mx) _ ?_)
  cases hc:decide (K y < K x) with
  |true=>
   have hc':=Jn hc
   refine HZ (aC (i:=p) ex ?_)
   have m':Mh K a.toList b.toList (o.push x).toList p (q + 1):=by
    rw[IS];exact m.popA sa ex' (mr sb ey' hc')
   show kasC _ _ _ (if (p == 0)=true then _ else _) _ _ _
   by_cases c:p=0
   ·rw[HV (by simp[c])];exact Ic (hd _ _ _ _ _ _ hst (doneA _ _ _ m' c))
   ·rw[HY (by simp[c])]
    have g:=hn p (q + 1) (o.push x) (ac + 1,0) st hst ⟨m',by omega,h2,by omega,h4⟩ (by omega)
    show kasC _ _ _ (if ac + 1>=mg then _ else _) _ _ _
    split
    ·exact Ic g.1
    ·exact Ic g.2
  |false=>
   have hc':K x < K y:=by
    have h3:=of_decide_eq_false hc
    have h4:=ne x mx y my
    omega
   refine HZ (aC (i:=q) ey ?_)
   have m':Mh K a.toList b.toList (o.push y).toList (p + 1) q:=by
    rw[IS];exact m.popB sb ey' (mr sa ex' hc')
   show kasC _ _ _ (if (q == 1)=true then _ else _) _ _ _
   by_cases c:q=1
   ·rw[HV (by simp[c])];exact Ic (hd _ _ _ _ _ _ hst (doneB _ _ _ m' c))
   ·rw[HY (by simp[c])]
    have g:=hn (p + 1) q (o.push y) (0,bc + 1) st hst ⟨m',h1,by omega,h3,by omega⟩ (by omega)
    show kasC _ _ _ (if bc + 1>=mg then _ else _) _ _ _
    split
    ·exact Ic g.1
    ·exact Ic g.2
 ·refine HZ (kasC_lift (Kz ?_))
  refine HZ (Jr ?_)
  refine tj (Ok:=Ok) (K:=K) (a:=a) (b:=b) (i0:=na' + nb') ?_ (λr na2 nb2 o2 t2 st2 k1 k2=>Ic (hd r _ _ _ _ st2 k1 k2)) (λna2 nb2 o2 t2 st2 k1 k2 k3=>?_) (List.range' 0 (a.size + b.size - 0)) na' nb' o' _ st' g1 g2 (HX _) (λe=>absurd e nl)
  ·intro x na nb o t st R hst hG hd hn
   obtain⟨m,h1,h2,h3,h4⟩:=hG
   obtain⟨p,rfl⟩:∃p,na=p + 1:=⟨na - 1,by omega⟩
   obtain⟨q,rfl⟩:∃q,nb=q + 1:=⟨nb - 1,by omega⟩
   obtain⟨mg,ac,bc⟩:=t
   obtain⟨y,ey,ey'⟩:=cP (show q < b.size by omega)
   have my:=Ij ey'
   show kasC _ _ _ (if mg > 1 then _ else _) _ _ _
   split
   all_goals
    refine HZ (vj (Ok:=Ok) hgl hst λst1 hst1=>?_)
    refine HZ (aC (i:=q) ey ?_)
    refine HZ (mC (c:=a) (z:=y) (n:=p + 1) (hint:=p) (left:=false) sa (by omega) (by omega) (λx hx=>ne x hx y my) (λx hx=>⟨hlt _ x y hst1 (.inl hx) (.inr my),hlt _ y x hst1 (.inr my) (.inl hx)⟩) λat1 hat hA hA2=>?_)
    show kasC _ _ _ (if p + 1 - at1 > 0 then _ else _) _ _ _
    by_cases hk0:p + 1 - at1 > 0
    ·rw[HV hk0]
     have m2:Mh K a.toList b.toList (o ++ (a.extract at1 (p + 1)).reverse).toList at1 (q + 1):=by
      obtain⟨k,hk⟩:∃k,p + 1=at1 + k:=⟨p + 1 - at1,by omega⟩
      rw[II,Kj,hk,fU]
      rw[hk] at m
      exact m.takeA sa k λi hi=>by
       obtain⟨w,e,hw⟩:=hA2 i (by omega)
       exact⟨w,e,mr sb ey' hw⟩
     show kasC _ _ _ (if (at1 == 0)=true then _ else _) _ _ _
     by_cases c:at1=0
     ·rw[HV (by simp[c])];exact Ic (hd _ _ _ _ _ _ hst1 (doneA _ _ _ m2 c))
     rw[HY (by simp[c])]
     obtain⟨u,rfl⟩:∃u,at1=u + 1:=⟨at1 - 1,by omega⟩
     refine HZ (aC (i:=q) ey ?_)
     have m3:Mh K a.toList b.toList ((o ++ (a.extract (u + 1) (p + 1)).reverse).push y).toList (u + 1) q:=by
      rw[IS];exact Mh.popB m2 sb ey' hA
     show kasC _ _ _ (if (q == 1)=true then _ else _) _ _ _
     by_cases c3:q=1
     ·rw[HV (by simp[c3])];exact Ic (hd _ _ _ _ _ _ hst1 (doneB _ _ _ m3 c3))
     rw[HY (by simp[c3])]
     obtain⟨x,ex,ex'⟩:=cP (show u < a.size by omega)
     have mx:=Ij ex'
     refine HZ (aC (i:=u) ex ?_)
     refine HZ (mC (c:=b) (z:=x) (n:=q) (hint:=q - 1) (left:=true) sb (by omega) (by omega) (λy hy e=>ne x mx y hy e.symm) (λy hy=>⟨hlt _ y x hst1 (.inr hy) (.inl mx),hlt _ x y hst1 (.inl mx) (.inr hy)⟩) λat2 hat2 hB hB2=>?_)
     show kasC _ _ _ (if q - at2 > 0 then _ else _) _ _ _
     by_cases hk3:q - at2 > 0
     ·rw[HV hk3]
      have m4:Mh K a.toList b.toList ((o ++ (a.extract (u + 1) (p + 1)).reverse).push y ++ (b.extract at2 q).reverse).toList (u + 1) at2:=by
       obtain⟨k,hk⟩:∃k,q=at2 + k:=⟨q - at2,by omega⟩
       rw[II,Kj,hk,fU]
       rw[hk] at m3
       exact m3.takeB sb k λi hi=>by
        obtain⟨w,e,hw⟩:=hB2 i (by omega)
        exact⟨w,e,mr sa ex' hw⟩
      show kasC _ _ _ (if (at2 == 1)=true then _ else _) _ _ _
      by_cases c4:at2=1
      ·rw[HV (by simp[c4])];exact Ic (hd _ _ _ _ _ _ hst1 (doneB _ _ _ m4 c4))
      rw[HY (by simp[c4])]
      have c6:at2≠0:=λz0=>by
       obtain⟨w,e,hw⟩:=hB2 0 (by omega)
       rw[z0,Nat.add_zero,f0] at e
       cases e
       have:=h0 x mx;omega
      show kasC _ _ _ (if (at2 == 0)=true then _ else _) _ _ _
      rw[HY (by simp[c6])]
      refine HZ (aC (i:=u) ex ?_)
      have m5:Mh K a.toList b.toList (((o ++ (a.extract (u + 1) (p + 1)).reverse).push y ++ (b.extract at2 q).reverse).push x).toList u (at2):=by
       rw[IS];exact Mh.popA m4 sa ex' hB
      show kasC _ _ _ (if (u == 0)=true then _ else _) _ _ _
      by_cases c5:u=0
      ·rw[HV (by simp[c5])];exact Ic (hd _ _ _ _ _ _ hst1 (doneA _ _ _ m5 c5))
      rw[HY (by simp[c5])]
      have g:=λt=>hn u (at2) (((o ++ (a.extract (u + 1) (p + 1)).reverse).push y ++ (b.extract at2 q).reverse).push x) t _ hst1 ⟨m5,by omega,by omega,by omega,by omega⟩ (by omega)
      show kasC _ _ _ (if (decide (_ < 7) && decide (_ < 7))=true then _ else _) _ _ _
      split
      ·exact Ic (g _).1
      ·exact Ic (g _).2
     ·rw[HY hk3]
      have hk4:at2=q:=by omega
      rw[hk4] at hB
      refine HZ (aC (i:=u) ex ?_)
      have m5:Mh K a.toList b.toList (((o ++ (a.extract (u + 1) (p + 1)).reverse).push y).push x).toList u (q):=by
       rw[IS];exact Mh.popA m3 sa ex' hB
      show kasC _ _ _ (if (u == 0)=true then _ else _) _ _ _
      by_cases c5:u=0
      ·rw[HV (by simp[c5])];exact Ic (hd _ _ _ _ _ _ hst1 (doneA _ _ _ m5 c5))
      rw[HY (by simp[c5])]
      have g:=λt=>hn u (q) (((o ++ (a.extract (u + 1) (p + 1)).reverse).push y).push x) t _ hst1 ⟨m5,by omega,by omega,by omega,by omega⟩ (by omega)
      show kasC _ _ _ (if (decide (_ < 7) && decide (_ < 7))=true then _ else _) _ _ _
      split
      ·exact Ic (g _).1
      ·exact Ic (g _).2
    ·rw[HY hk0]
     have hk1:at1=p + 1:=by omega
     rw[hk1] at hA
     refine HZ (aC (i:=q) ey ?_)
     have m3:Mh K a.toList b.toList ((o).push y).toList (p + 1) q:=by
      rw[IS];exact Mh.popB m sb ey' hA
     show kasC _ _ _ (if (q == 1)=true then _ else _) _ _ _
     by_cases c3:q=1
     ·rw[HV (by simp[c3])];exact Ic (hd _ _ _ _ _ _ hst1 (doneB _ _ _ m3 c3))
     rw[HY (by simp[c3])]
     obtain⟨x,ex,ex'⟩:=cP (show p < a.size by omega)
     have mx:=Ij ex'
     refine HZ (aC (i:=p) ex ?_)
     refine HZ (mC (c:=b) (z:=x) (n:=q) (hint:=q - 1) (left:=true) sb (by omega) (by omega) (λy hy e=>ne x mx y hy e.symm) (λy hy=>⟨hlt _ y x hst1 (.inr hy) (.inl mx),hlt _ x y hst1 (.inl mx) (.inr hy)⟩) λat2 hat2 hB hB2=>?_)
     show kasC _ _ _ (if q - at2 > 0 then _ else _) _ _ _
     by_cases hk3:q - at2 > 0
     ·rw[HV hk3]
      have m4:Mh K a.toList b.toList ((o).push y ++ (b.extract at2 q).reverse).toList (p + 1) at2:=by
       obtain⟨k,hk⟩:∃k,q=at2 + k:=⟨q - at2,by omega⟩
       rw[II,Kj,hk,fU]
       rw[hk] at m3
       exact m3.takeB sb k λi hi=>by
        obtain⟨w,e,hw⟩:=hB2 i (by omega)
        exact⟨w,e,mr sa ex' hw⟩
      show kasC _ _ _ (if (at2 == 1)=true then _ else _) _ _ _
      by_cases c4:at2=1
      ·rw[HV (by simp[c4])];exact Ic (hd _ _ _ _ _ _ hst1 (doneB _ _ _ m4 c4))
      rw[HY (by simp[c4])]
      have c6:at2≠0:=λz0=>by
       obtain⟨w,e,hw⟩:=hB2 0 (by omega)
       rw[z0,Nat.add_zero,f0] at e
       cases e
       have:=h0 x mx;omega
      show kasC _ _ _ (if (at2 == 0)=true then _ else _) _ _ _
      rw[HY (by simp[c6])]
      refine HZ (aC (i:=p) ex ?_)
      have m5:Mh K a.toList b.toList (((o).push y ++ (b.extract at2 q).reverse).push x).toList p (at2):=by
       rw[IS];exact Mh.popA m4 sa ex' hB
      show kasC _ _ _ (if (p == 0)=true then _ else _) _ _ _
      by_cases c5:p=0
      ·rw[HV (by simp[c5])];exact Ic (hd _ _ _ _ _ _ hst1 (doneA _ _ _ m5 c5))
      rw[HY (by simp[c5])]
      have g:=λt=>hn p (at2) (((o).push y ++ (b.extract at2 q).reverse).push x) t _ hst1 ⟨m5,by omega,by omega,by omega,by omega⟩ (by omega)
      show kasC _ _ _ (if (decide (_ < 7) && decide (_ < 7))=true then _ else _) _ _ _
      split
      ·exact Ic (g _).1
      ·exact Ic (g _).2
     ·rw[HY hk3]
      have hk4:at2=q:=by omega
      rw[hk4] at hB
      refine HZ (aC (i:=p) ex ?_)
      have m5:Mh K a.toList b.toList (((o).push y).push x).toList p (q):=by
       rw[IS];exact Mh.popA m3 sa ex' hB
      show kasC _ _ _ (if (p == 0)=true then _ else _) _ _ _
      by_cases c5:p=0
      ·rw[HV (by simp[c5])];exact Ic (hd _ _ _ _ _ _ hst1 (doneA _ _ _ m5 c5))
      rw[HY (by simp[c5])]
      have g:=λt=>hn p (q) (((o).push y).push x) t _ hst1 ⟨m5,by omega,by omega,by omega,by omega⟩ (by omega)
      show kasC _ _ _ (if (decide (_ < 7) && decide (_ < 7))=true then _ else _) _ _ _
      split
      ·exact Ic (g _).1
      ·exact Ic (g _).2
  ·exact HZ (Kl (Ic (hn na2 nb2 o2 _ _ (hgl st2 _ k1) k2 (by omega))))
end
theorem rK {α:Type}:∀(l:List α) (c:Array α) (i j:Nat),i + j + l.length<=c.size->
  ((l.zipIdx j).foldl (λ(c:Array α) (x:α×Nat)=>c.setIfInBounds (i + x.2) x.1) c).toList=c.toList.take (i + j) ++ l ++ c.toList.drop (i + j + l.length)
 | [],c,i,j,h=>by simp
 |x :: l,c,i,j,h=>by
  simp only[Iv] at h
  rw[List.zipIdx_cons,K0,rK l _ i (j + 1) (by rw[Array.size_setIfInBounds];omega)]
  rw[Array.toList_setIfInBounds,show i + (j + 1)=i + j + 1 by omega]
  rw[JP,List.take_set_of_le (HX _),IA (by rw[ID];omega),List.drop_set_of_lt (by omega)]
  simp only[Iv,Option.toList_some,IK,List.singleton_append]
  rw[show i + j + 1 + l.length=i + j + (l.length + 1) by omega]
def Ku (K:Keyed->Int)(c:Array Keyed)(i:Nat):Int:=(c[i]?).elim 0 K
def kn (k:Nat->Int)(lo hi:Nat):Prop:=∀i j,lo<=i->i < j->j < hi->k i < k j
def D5 (k:Nat->Int)(lo hi:Nat):Prop:=∀i j,lo<=i->i < j->j < hi->k j < k i
structure Ar (K:Keyed->Int)(a0 c:Array Keyed):Prop where
 pm:c.Perm a0
 nd:(a0.toList.map K).Nodup
section
variable {K:Keyed->Int}{a0 c:Array Keyed}
def Ar.mem (R:Ar K a0 c){i:Nat}(h:i < c.size):∃x,c[i]? =some x/\x∈a0.toList/\Ku K c i=K x:=
 ⟨c[i],by simp[h],(JU.mp R.pm).mem_iff.mp (by simp),by unfold Ku;simp[h]⟩
def Ar.ndc (R:Ar K a0 c):(c.toList.map K).Nodup:=(((JU.mp R.pm).map K).nodup_iff).mpr R.nd
def Ar.ne (R:Ar K a0 c){i j:Nat}(hi:i < c.size)(hj:j < c.size)(h:i≠j):Ku K c i≠Ku K c j:=by
 have q:=Jo.mp R.ndc
 have e1:∀i (h:i < c.size),Ku K c i=(c.toList.map K)[i]'(by simpa using h):=λi h=>by unfold Ku;simp[h]
 rw[e1 i hi,e1 j hj]
 rcases IJ i j with z |z
 ·exact q i j _ _ z
 ·exact (q j i _ _ (by omega)).symm
def Ar.to (R:Ar K a0 c){d:Array Keyed}(h:d.Perm c):Ar K a0 d:=⟨h.trans R.pm,R.nd⟩
def kn.snoc {k:Nat->Int}{lo hi:Nat}(U:kn k lo hi)(h1:lo < hi)(h:k (hi - 1) < k hi):kn k lo (hi + 1):=λi j hl hij hj=>by
 rcases IJ j hi with c |c
 ·exact U i j hl hij c
 ·have:j=hi:=by omega
  subst this
  rcases IJ i (j - 1) with d |d
  ·exact J0 (U i (j - 1) hl d (by omega)) h
  ·have:i=j - 1:=by omega
   rw[this];exact h
def D5.snoc {k:Nat->Int}{lo hi:Nat}(U:D5 k lo hi)(h1:lo < hi)(h:k hi < k (hi - 1)):D5 k lo (hi + 1):=λi j hl hij hj=>by
 rcases IJ j hi with c |c
 ·exact U i j hl hij c
 ·have:j=hi:=by omega
  subst this
  rcases IJ i (j - 1) with d |d
  ·exact J0 h (U i (j - 1) hl d (by omega))
  ·have:i=j - 1:=by omega
   rw[this];exact h
def tX {i j:Nat}(hj:j<=c.size)(k:Nat):Ku K (mirror c i j ((j - i) / 2)) k=if i<=k/\k < j then Ku K c (i + j - 1 - k) else Ku K c k:=by
 unfold Ku;rw[getElem?_mirror_all hj];split <;> rfl
def sH {p l:Nat}(hp:p < c.size)(hl:l<=p)(k:Nat):Ku K (bubble c p (p - l)) k=if k=l then Ku K c p else if l < k/\k<=p then Ku K c (k - 1) else Ku K c k:=by
 unfold Ku;rw[getElem?_bubble hp _ (by omega),show p - (p - l)=l by omega];split
 ·rfl
 ·split <;> rfl
variable {M:Model}{A:Around}{E:Value->Shared->Prop}{s:Shared}{κ:SortKind}{pd:Array (Nat×Nat×Nat)}{g:Nat}
abbrev Ss (κ:SortKind)(pd:Array (Nat×Nat×Nat))(g:Nat)(c:Array Keyed):SortSt:=SortSt.mk' κ c pd g none
def k7 (M:Model)(A:Around)(E:Value->Shared->Prop)(s:Shared)(κ:SortKind)(K:Keyed->Int)(a0:Array Keyed):Prop:=
 ∀st:SortSt,PyProof.Rows.kindOf st=κ->∀x∈a0.toList,∀y∈a0.toList,lx M A E s st x y (decide (K x < K y))
def r6 {i j:Nat}{Q:Option Bool->SortSt->Shared->Prop}(L:k7 M A E s κ K a0)(R:Ar K a0 c)(hi:i < c.size)(hj:j < c.size)(h:Q (some (decide (Ku K c i < Ku K c j))) (Ss κ pd g c) s):kasC M A E (ltAt' i j) Q (Ss κ pd g c) s:=by
 obtain⟨x,e1,m1,k1⟩:=R.mem hi
 obtain⟨y,e2,m2,k2⟩:=R.mem hj
 rw[ltAt'_eq]
 refine HZ (Kd ?_)
 show kasC _ _ _ (do let x <-elem' c i;let y <-elem' c j;lt' x y) Q _ _
 refine HZ (aC e1 (HZ (aC e2 ?_)))
 refine L _ rfl x m1 y m2 _ ?_
 rw[<-k1,<-k2];exact h
theorem nq {f:Nat->Option (Option Nat)×Nat->StateT SortSt Sem (ForInStep (Option (Option Nat)×Nat))}{lo:Nat}{Q:Option (Option Nat)×Nat->SortSt->Shared->Prop}(R:Ar K a0 c)
  (hf:∀x n (T:ForInStep (Option (Option Nat)×Nat)->SortSt->Shared->Prop),1<=n->lo + n < c.size->T (if Ku K c (lo + n) < Ku K c (lo + n - 1) then .done (none,n) else .yield (none,n + 1)) (Ss κ pd g c) s->kasC M A E (f x (none,n)) T (Ss κ pd g c) s) :
  ∀(l:List Nat) (n:Nat),1<=n->lo + n + l.length<=c.size->kn (Ku K c) lo (lo + n)->(∀m,n<=m->m<=n + l.length->kn (Ku K c) lo (lo + m)->(m < n + l.length->Ku K c (lo + m) < Ku K c (lo + m - 1))->Q (none,m) (Ss κ pd g c) s)->kasC M A E (forIn l (none,n) f) Q (Ss κ pd g c) s
 | [],n,h1,h2,U,hQ=>kasC_nil (hQ n (HX _) (by simp) U λh=>by simp at h)
 |x :: l,n,h1,h2,U,hQ=>by
  simp only[Iv] at h2 hQ
  refine JJ (hf x n _ h1 (by omega) ?_)
  by_cases q:Ku K c (lo + n) < Ku K c (lo + n - 1)
  ·rw[HV q]
   exact hQ n (HX _) (by omega) U λ_=>q
  ·rw[HY q]
   have:=R.ne (i:=lo + n) (j:=lo + n - 1) (by omega) (by omega) (by omega)
   exact nq R hf l (n + 1) (by omega) (by omega) (U.snoc (by omega) (by omega)) λm a b u d=>hQ m (by omega) (by omega) u λh=>d (by omega)
theorem oD {f:Nat->Option (Option Nat)×Nat×Nat->StateT SortSt Sem (ForInStep (Option (Option Nat)×Nat×Nat))}{lo:Nat}{Q:Option (Option Nat)×Nat×Nat->SortSt->Shared->Prop}(R:Ar K a0 c)
  (hf:∀x n (T:ForInStep (Option (Option Nat)×Nat×Nat)->SortSt->Shared->Prop),1<=n->lo + n < c.size->T (if Ku K c (lo + n) < Ku K c (lo + n - 1) then .yield (none,n + 1,0) else .done (none,n,0)) (Ss κ pd g c) s->kasC M A E (f x (none,n,0)) T (Ss κ pd g c) s) :
  ∀(l:List Nat) (n:Nat),1<=n->lo + n + l.length<=c.size->D5 (Ku K c) lo (lo + n)->(∀m,n<=m->m<=n + l.length->D5 (Ku K c) lo (lo + m)->Q (none,m,0) (Ss κ pd g c) s)->kasC M A E (forIn l (none,n,0) f) Q (Ss κ pd g c) s
 | [],n,h1,h2,U,hQ=>kasC_nil (hQ n (HX _) (by simp) U)
 |x :: l,n,h1,h2,U,hQ=>by
  simp only[Iv] at h2 hQ
  refine JJ (hf x n _ h1 (by omega) ?_)
  by_cases q:Ku K c (lo + n) < Ku K c (lo + n - 1)
  ·rw[HV q]
   exact oD R hf l (n + 1) (by omega) (by omega) (U.snoc (by omega) q) λm a b u=>hQ m (by omega) (by omega) u
  ·rw[HY q]
   exact hQ n (HX _) (by omega) U
def xP {lo n:Nat}{Q:Option Nat->SortSt->Shared->Prop}(L:k7 M A E s κ K a0)(R:Ar K a0 c)(h1:1<=n)(hn:lo + n<=c.size)
  (hQ:∀m d,1<=m->m<=n->Ar K a0 d->(∀i,i < lo->Ku K d i=Ku K c i)->kn (Ku K d) lo (lo + m)->Q (some m) (Ss κ pd g d) s):kasC M A E (countRun' lo n) Q (Ss κ pd g c) s:=by
 rw[countRun'_eq]
 have one:kn (Ku K c) lo (lo + 1):=λi j a b d=>by omega
 have st:∀{d:Array Keyed},Ar K a0 d->∀(n:Nat) (T:ForInStep (Option (Option Nat)×Nat)->SortSt->Shared->Prop),1<=n->lo + n < d.size->T (if Ku K d (lo + n) < Ku K d (lo + n - 1) then .done (none,n) else .yield (none,n + 1)) (Ss κ pd g d) s->kasC M A E (ltAt' (lo + n) (lo + n - 1)) (λa st s'=>(∃b,a=some b/\T (if b=true then .done (none,n) else .yield (none,n + 1)) st s')) (Ss κ pd g d) s:=λR' n T a b t=>by
  refine r6 L R' b (by omega) ⟨_,rfl,?_⟩
  simpa using t
 refine HZ (Jr (nq R (λx m T a b t=>?_) _ 1 (HX _) (by rw[IT];omega) one λm a b u d=>?_))
 ·refine HZ (JK (st R m T a b t) ?_ λ_ _ e=>e)
  rintro⟨r,q⟩ s' ⟨b,rfl,h⟩
  cases b with
  |true=>exact Ic h
  |false=>exact Ic h
 ·rw[IT] at b d
  dsimp only
  by_cases e:(m == n)=true
  ·rw[HV e]
   exact Ic (hQ m c a (by omega) R (λ_ _=>rfl) u)
  ·rw[HY e]
   have e':m≠n:=by simpa using e
   have dd:=d (by omega)
   by_cases e2:m > 1
   ·rw[HV e2]
    refine HZ (r6 L R (by omega) (by omega) ?_)
    rw[Ik (u lo (lo + m - 1) (HX _) (by omega) (by omega))]
    exact Ic (hQ m c a (by omega) R (λ_ _=>rfl) u)
   ·rw[HY e2]
    have m1:m=1:=by omega
    subst m1
    refine HZ (kasC_lift (Kz ?_))
    have two:D5 (Ku K c) lo (lo + 2):=λi j a b d=>by
     have e1:i=lo:=by omega
     have e3:j=lo + 1:=by omega
     rw[e1,e3];exact dd
    refine HZ (Jr (oD R (λx m T a b t=>?_) _ 2 (by omega) (by rw[IT];omega) two λm a b u2=>?_))
    ·refine HZ (r6 L R b (show lo + m - 1 < c.size by omega) ?_)
     by_cases q:Ku K c (lo + m) < Ku K c (lo + m - 1)
     ·rw[HV q] at t
      rw[Ik q]
      exact Ic t
     ·rw[HY q] at t
      rw[Ir q]
      refine HZ (r6 L R (show lo + m - 1 < c.size by omega) b ?_)
      have:=R.ne (i:=lo + m) (j:=lo + m - 1) (by omega) (by omega) (by omega)
      rw[Ik (show Ku K c (lo + m - 1) < Ku K c (lo + m) by omega)]
      exact Ic t
    ·rw[IT] at b
     dsimp only
     rw[HY (by omega)]
     rw[reverseSlice'_eq]
     refine HZ (Kl ?_)
     have R2:Ar K a0 (mirror c lo (lo + m) ((lo + m - lo) / 2)):=R.to (mirror_perm ..)
     have sz:(mirror c lo (lo + m) ((lo + m - lo) / 2)).size=c.size:=mirror_size ..
     have U2:kn (Ku K (mirror c lo (lo + m) ((lo + m - lo) / 2))) lo (lo + m):=λi j hl hij hj=>by
      rw[tX (by omega),tX (by omega),HV (by omega),HV (by omega)]
      exact u2 _ _ (by omega) (by omega) (by omega)
     have kp:∀i,i < lo->Ku K (mirror c lo (lo + m) ((lo + m - lo) / 2)) i=Ku K c i:=λi hi=>by rw[tX (by omega),HY (by omega)]
     show kasC M A E _ _ (Ss κ pd g (mirror c lo (lo + m) ((lo + m - lo) / 2))) s
     refine HZ (Jr (nq R2 (λx m T a b t=>?_) _ m (by omega) (by rw[IT];omega) U2 λm' a' b' u' d'=>?_))
     ·refine HZ (JK (st R2 m T a b t) ?_ λ_ _ e=>e)
      rintro⟨r,q⟩ s' ⟨b,rfl,h⟩
      cases b with
      |true=>exact Ic h
      |false=>exact Ic h
     ·rw[IT] at b'
      exact Ic (hQ m' _ (by omega) (by omega) R2 kp u')
end
section
variable {K:Keyed->Int}{a0 c:Array Keyed}{M:Model}{A:Around}{E:Value->Shared->Prop}{s:Shared}{κ:SortKind}{pd:Array (Nat×Nat×Nat)}{g:Nat}
theorem jx {f:Nat->Option Bool×Nat×Nat->StateT SortSt Sem (ForInStep (Option Bool×Nat×Nat))}{lo k:Nat}{Q:Option Bool×Nat×Nat->SortSt->Shared->Prop}(R:Ar K a0 c)(hk:lo + k < c.size)(U:kn (Ku K c) lo (lo + k))
  (f1:∀x l r (T:ForInStep (Option Bool×Nat×Nat)->SortSt->Shared->Prop),l>=r->T (.done (none,l,r)) (Ss κ pd g c) s->kasC M A E (f x (none,l,r)) T (Ss κ pd g c) s)
  (f2:∀x l r (T:ForInStep (Option Bool×Nat×Nat)->SortSt->Shared->Prop),l < r->r<=k->T (if Ku K c (lo + k) < Ku K c (lo + (l + r) / 2) then .yield (none,l,(l + r) / 2) else .yield (none,(l + r) / 2 + 1,r)) (Ss κ pd g c) s->kasC M A E (f x (none,l,r)) T (Ss κ pd g c) s)
  (hQ:∀l r,l<=k->(∀i,i < l->Ku K c (lo + i) < Ku K c (lo + k))->(∀i,l<=i->i < k->Ku K c (lo + k) < Ku K c (lo + i))->Q (none,l,r) (Ss κ pd g c) s) :
  ∀(ls:List Nat) (l r:Nat),l<=r->r<=k->r - l<=ls.length->(∀i,i < l->Ku K c (lo + i) < Ku K c (lo + k))->(∀i,r<=i->i < k->Ku K c (lo + k) < Ku K c (lo + i))->kasC M A E (forIn ls (none,l,r) f) Q (Ss κ pd g c) s
 | [],l,r,h1,h2,h3,a,b=>kasC_nil (hQ l r (by omega) a λi hi=>b i (by simp at h3;omega))
 |x :: ls,l,r,h1,h2,h3,a,b=>by
  refine JJ ?_
  by_cases q:l>=r
  ·exact f1 x l r _ q (hQ l r (by omega) a λi hi=>b i (by omega))
  ·refine f2 x l r _ (by omega) h2 ?_
   simp only[Iv] at h3
   by_cases d:Ku K c (lo + k) < Ku K c (lo + (l + r) / 2)
   ·rw[HV d]
    refine jx R hk U f1 f2 hQ ls l _ (by omega) (by omega) (by omega) a λi hi hk'=>?_
    rcases IJ ((l + r) / 2) i with z |z
    ·exact J0 d (U _ _ (by omega) (by omega) (by omega))
    ·have:i=(l + r) / 2:=by omega
     rw[this];exact d
   ·rw[HY d]
    have:=R.ne (i:=lo + k) (j:=lo + (l + r) / 2) hk (by omega) (by omega)
    refine jx R hk U f1 f2 hQ ls _ r (by omega) h2 (by omega) (λi hi=>?_) b
    rcases IJ i ((l + r) / 2) with z |z
    ·have:=U (lo + i) (lo + (l + r) / 2) (by omega) (by omega) (by omega)
     omega
    ·have:i=(l + r) / 2:=by omega
     rw[this];omega
def Cv {lo k l:Nat}(hk:lo + k < c.size)(hl:l<=k)(U:kn (Ku K c) lo (lo + k))(a:∀i,i < l->Ku K c (lo + i) < Ku K c (lo + k))(b:∀i,l<=i->i < k->Ku K c (lo + k) < Ku K c (lo + i)):kn (Ku K (bubble c (lo + k) (lo + k - (lo + l)))) lo (lo + (k + 1)):=λi j hi hij hj=>by
 have a':∀i,lo<=i->i < lo + l->Ku K c i < Ku K c (lo + k):=λi h1 h2=>by have:=a (i - lo) (by omega);rwa [show lo + (i - lo)=i by omega] at this
 have b':∀i,lo + l<=i->i < lo + k->Ku K c (lo + k) < Ku K c i:=λi h1 h2=>by have:=b (i - lo) (by omega) (by omega);rwa [show lo + (i - lo)=i by omega] at this
 rw[sH hk (by omega),sH hk (by omega)]
 by_cases i1:i=lo + l
 ·rw[HV i1,HY (by omega),HV (by omega)]
  exact b' _ (by omega) (by omega)
 ·rw[HY i1]
  by_cases i2:lo + l < i/\i<=lo + k
  ·rw[HV i2,HY (by omega),HV (by omega)]
   exact U _ _ (by omega) (by omega) (by omega)
  ·rw[HY i2]
   by_cases j1:j=lo + l
   ·rw[HV j1];exact a' _ (by omega) (by omega)
   ·rw[HY j1]
    by_cases j2:lo + l < j/\j<=lo + k
    ·rw[HV j2]
     rcases IJ i (j - 1) with z |z
     ·exact U _ _ (by omega) z (by omega)
     ·omega
    ·rw[HY j2];exact U _ _ (by omega) hij (by omega)
theorem rb {f:Nat->Option Bool×Unit->StateT SortSt Sem (ForInStep (Option Bool×Unit))}{lo n:Nat}{Q:Option Bool×Unit->SortSt->Shared->Prop}(hn:lo + n<=a0.size)
  (hf:∀k d (T:ForInStep (Option Bool×Unit)->SortSt->Shared->Prop),k < n->1<=k->Ar K a0 d->kn (Ku K d) lo (lo + k)->(∀d',Ar K a0 d'->(∀i,i < lo->Ku K d' i=Ku K d i)->kn (Ku K d') lo (lo + (k + 1))->T (.yield (none,())) (Ss κ pd g d') s)->kasC M A E (f k (none,())) T (Ss κ pd g d) s) :
  ∀(m k:Nat) (d:Array Keyed),k + m=n->1<=k->Ar K a0 d->kn (Ku K d) lo (lo + k)->(∀d',Ar K a0 d'->(∀i,i < lo->Ku K d' i=Ku K d i)->kn (Ku K d') lo (lo + n)->Q (none,()) (Ss κ pd g d') s)->kasC M A E (forIn (List.range' k m) (none,()) f) Q (Ss κ pd g d) s
 | 0,k,d,e,_,R,U,hQ=>kasC_nil (hQ d R (λ_ _=>rfl) (by rw[<-e];exact U))
 |m + 1,k,d,e,h1,R,U,hQ=>by
  rw[List.range'_succ]
  exact JJ (hf k d _ (by omega) h1 R U λd' R' k' U'=>rb hn hf m (k + 1) d' (by omega) (by omega) R' U' λd2 R2 k2 U2=>hQ d2 R2 (λi hi=>(k2 i hi).trans (k' i hi)) U2)
def Di {lo n ok:Nat}{Q:Bool->SortSt->Shared->Prop}(L:k7 M A E s κ K a0)(R:Ar K a0 c)(h1:1<=ok)(hok:ok<=n)(hn:lo + n<=c.size)(U:kn (Ku K c) lo (lo + ok))
  (hQ:∀d,Ar K a0 d->(∀i,i < lo->Ku K d i=Ku K c i)->kn (Ku K d) lo (lo + n)->Q true (Ss κ pd g d) s):kasC M A E (binarySort' lo n ok) Q (Ss κ pd g c) s:=by
 rw[binarySort'_eq]
 have hz:c.size=a0.size:=R.pm.size_eq
 rw[show max ok 1=ok by omega]
 refine HZ (Jr (rb (K:=K) (a0:=a0) (lo:=lo) (n:=n) (by omega) (λk d T hk k1 R' U' hT=>?_) (n - ok) ok c (by omega) h1 R U λd' R' k' U'=>?_))
 ·have hz':d.size=a0.size:=R'.pm.size_eq
  refine HZ (Jr ?_)
  refine jx (lo:=lo) (k:=k) R' (by omega) U' (λx l r T hge t=>?_) (λx l r T hlt hr t=>?_) (λl r hl a b=>?_) _ 0 k (IU _) (HX _) (by rw[IT];omega) (λi hi=>by omega) λi hi hi'=>by omega
  ·dsimp only
   rw[HV hge]
   exact Ic t
  ·dsimp only
   rw[HY (by omega)]
   refine HZ (r6 L R' (by omega) (by omega) ?_)
   by_cases q:Ku K d (lo + k) < Ku K d (lo + (l + r) / 2)
   ·rw[HV q] at t
    rw[Ik q]
    exact Ic t
   ·rw[HY q] at t
    rw[Ir q]
    exact Ic t
  ·dsimp only
   rw[moveDown'_eq]
   refine HZ (Kl (Ic ?_))
   show T _ (Ss κ pd g (bubble d (lo + k) (lo + k - (lo + l)))) s
   refine hT _ (R'.to (bubble_perm ..)) (λi hi=>?_) (Cv (by omega) hl U' a b)
   rw[sH (by omega) (by omega),HY (by omega),HY (by omega)]
 ·exact Ic (hQ d' R' k' U')
end
section
variable {K:Keyed->Int}{a0 c:Array Keyed}{M:Model}{A:Around}{E:Value->Shared->Prop}{s:Shared}{κ:SortKind}{pd:Array (Nat×Nat×Nat)}{g:Nat}
def yn {σ:Type}{st st':σ}{Q:PUnit->σ->Shared->Prop}(h:Q ⟨⟩ st' s):kasC M A E (set st':StateT σ Sem PUnit) Q st s:=HW h
def uW {z:Keyed}{lo n hint:Nat}{left:Bool}{st:SortSt}{Q:Option Nat->SortSt->Shared->Prop}(L:k7 M A E s κ K a0)(R:Ar K a0 c)(hst:PyProof.Rows.kindOf st=κ)(hn:lo + n<=c.size)(hh:hint < n)(mz:z∈a0.toList)(U:kn (Ku K c) lo (lo + n))(hz:∀i,i < n->Ku K c (lo + i)≠K z)
  (hQ:∀k,k<=n->(∀i,i < k->Ku K c (lo + i) < K z)->(∀i,k<=i->i < n->K z < Ku K c (lo + i))->Q (some k) st s):kasC M A E (FY left z c lo n hint) Q st s:=by
 refine tf (b:=λi=>decide (Ku K c (lo + i) < K z)) (λi hi=>?_) (λi j hij hj hd=>?_) hh λk hk hb=>hQ k hk (λi hi=>Jn ((hb i (by omega)).mpr hi)) λi h1 h2=>?_
 ·obtain⟨x,e,mx,kx⟩:=R.mem (i:=lo + i) (by omega)
  refine⟨x,e,λ_=>?_,λ_=>?_⟩
  ·have:=L st hst x mx z mz
   rw[<-kx] at this;exact this
  ·have:=L st hst z mz x mx
   rw[<-kx] at this
   have q:=hz i hi
   have e2:(!decide (Ku K c (lo + i) < K z))=decide (K z < Ku K c (lo + i)):=by
    by_cases w:Ku K c (lo + i) < K z
    ·rw[Ik w,Ir (by omega)];rfl
    ·rw[Ir w,Ik (by omega)];rfl
   rw[e2];exact this
 ·have hd':=Jn hd
  refine Ik ?_
  rcases KC hij with q |q
  ·exact J0 (U (lo + i) (lo + j) (by omega) (by omega) (by omega)) hd'
  ·rw[q];exact hd'
 ·have q:=hz i h2
  by_cases w:Ku K c (lo + i) < K z
  ·have:=(hb i h2).mp (Ik w);omega
  ·omega
def ext_mem {i j:Nat}{y:Keyed}(h:y∈(c.extract i j).toList):∃p,i<=p/\p < j/\p < c.size/\c[p]? =some y/\Ku K c p=K y:=by
 obtain⟨q,hq⟩:=KQ.mp h
 have hl:=(Im.mp hq).1
 rw[ID,JY] at hl
 rw[Jc,Array.getElem?_extract,HV hl] at hq
 exact⟨i + q,by omega,by omega,by omega,hq,by unfold Ku;rw[hq];rfl⟩
def jM {i j:Nat}(hj:j<=c.size)(U:kn (Ku K c) i j):gc K (c.extract i j).toList:=by
 refine Jo.mpr λp q hp hq hpq=>?_
 rw[ID,JY] at hp hq
 have e:∀p (h:p < min j c.size - i),Ku K c (i + p)=K ((c.extract i j).toList[p]'(by rw[ID,JY];exact h)):=λp h=>by
  unfold Ku
  simp[show i + p < c.size by omega]
 rw[<-e p hp,<-e q hq]
 exact U _ _ (by omega) (by omega) (by omega)
def zL (h:kn (Ku K c) 0 c.size):gc K c.toList:=by
 have:=jM (HX _) h
 simpa using this
def ph {i j k:Nat}(h1:i<=j)(h2:j<=k):(c.extract i j).toList ++ (c.extract j k).toList=(c.extract i k).toList:=by
 rw[<-II,Array.extract_append_extract]
 congr 2 <;> omega
def BB {k n1 m:Nat}{r:List Keyed}(hk:k<=n1)(hm:n1 + m<=c.size)(m1:1<=m)(k1:k < n1)(Ua:kn (Ku K c) 0 n1)(Ub:kn (Ku K c) n1 c.size)(hx:∀i,i < k->Ku K c i < Ku K c n1)(hy:∀i,n1 + m<=i->i < c.size->Ku K c (n1 - 1) < Ku K c i)
  (g:oz K (c.extract k n1).toList (c.extract n1 (n1 + m)).toList r):((c.extract 0 k).toList ++ r ++ (c.extract (n1 + m) c.size).toList).Perm c.toList/\gc K ((c.extract 0 k).toList ++ r ++ (c.extract (n1 + m) c.size).toList):=by
 constructor
 ·refine ((g.1.append_left _).append_right _).trans ?_
  rw[ph hk (by omega),ph (by omega) (by omega),ph (by omega) (by omega)]
  simp
 ·have inr:∀y∈r,∃p,k<=p/\p < n1 + m/\Ku K c p=K y:=λy hy=>by
   rcases Iu.mp (g.1.mem_iff.mp hy) with z |z
   ·obtain⟨p,a,b,_,_,e⟩:=ext_mem (K:=K) z;exact⟨p,a,by omega,e⟩
   ·obtain⟨p,a,b,_,_,e⟩:=ext_mem (K:=K) z;exact⟨p,by omega,b,e⟩
  have lowA:∀i p,i < k->k<=p->p < c.size->Ku K c i < Ku K c p:=λi p hi hp hs=>by
   rcases IJ p n1 with z |z
   ·exact Ua _ _ (by omega) (by omega) z
   ·have:=hx i hi
    rcases KC z with w |w
    ·have:=Ub n1 p (HX _) w hs;omega
    ·rw[<-w];exact this
  have highB:∀p q,k<=p->p < n1 + m->n1 + m<=q->q < c.size->Ku K c p < Ku K c q:=λp q hp hp2 hq hs=>by
   rcases IJ p n1 with z |z
   ·have:=hy q hq hs
    rcases IJ p (n1 - 1) with w |w
    ·have:=Ua p (n1 - 1) (by omega) w (by omega);omega
    ·have:p=n1 - 1:=by omega
     rw[this];assumption
   ·exact Ub _ _ z (by omega) hs
  refine Je.mpr ⟨Je.mpr ⟨jM (by omega) λi j a b d=>Ua i j a b (by omega),g.2,λx hx y hy=>?_⟩,jM (HX _) λi j a b d=>Ub i j (by omega) b d,λx hx y hy=>?_⟩
  ·obtain⟨p,_,b,_,_,e⟩:=ext_mem (K:=K) hx
   obtain⟨q,a,b',e'⟩:=inr y hy
   rw[<-e,<-e'];exact lowA p q b a (by omega)
  ·obtain⟨q,a,b',b3,_,e'⟩:=ext_mem (K:=K) hy
   rcases Iu.mp hx with z |z
   ·obtain⟨p,_,b,_,_,e⟩:=ext_mem (K:=K) z
    rw[<-e,<-e'];exact lowA p q b (by omega) b3
   ·obtain⟨p,h1,h2,e⟩:=inr x z
    rw[<-e,<-e'];exact highB p q h1 h2 a b3
end
section
variable {K:Keyed->Int}{a0 c:Array Keyed}{M:Model}{A:Around}{E:Value->Shared->Prop}{s:Shared}{κ:SortKind}{g:Nat}
def Cr {n1 n2 p1 p2:Nat}{Q:Bool->SortSt->Shared->Prop}(L:k7 M A E s κ K a0)(R:Ar K a0 c)(h1:1<=n1)(h2:1<=n2)(hz:n1 + n2=c.size)(Ua:kn (Ku K c) 0 n1)(Ub:kn (Ku K c) n1 c.size)
  (hQ:∀d g',d.Perm c->gc K d.toList->Q true (SortSt.mk' κ d #[(0,n1 + n2,p1)] g' none) s):kasC M A E (mergeAt' 0) Q (SortSt.mk' κ c #[(0,n1,p1),(n1,n2,p2)] g none) s:=by
 obtain⟨y,ey,my,ky⟩:=R.mem (i:=n1) (by omega)
 obtain⟨x,ex,mx,kx⟩:=R.mem (i:=n1 - 1) (by omega)
 refine HZ (Kd ?_)
 refine HZ (yn ?_)
 show kasC M A E _ _ (SortSt.mk' κ c (((#[(0,n1,p1),(n1,n2,p2)]:Array (Nat×Nat×Nat)).setIfInBounds 0 (0,n1 + n2,p1)).eraseIdxIfInBounds (0 + 1)) g none) s
 rw[show ((#[(0,n1,p1),(n1,n2,p2)]:Array (Nat×Nat×Nat)).setIfInBounds 0 (0,n1 + n2,p1)).eraseIdxIfInBounds (0 + 1)=#[(0,n1 + n2,p1)] by simp]
 refine HZ (aC (arr:=c) ey ?_)
 refine HZ ?_
 refine uW (c:=c) (left:=false) (lo:=0) (n:=n1) (hint:=0) (z:=y) (κ:=κ) (a0:=a0) (K:=K) L R rfl (by omega) (by omega) my (by rw[Jq];exact Ua) (λi hi=>by rw[<-ky];exact R.ne (by omega) (by omega) (by omega)) λk hk hlo hhi=>?_
 simp only[Jq] at hlo hhi
 have done:(∀i,i < n1->Ku K c i < Ku K c n1)->gc K c.toList:=λh=>zL λi j _ hij hj=>by
  rcases IJ j n1 with z |z
  ·exact Ua i j (IU _) hij z
  ·rcases IJ i n1 with w |w
   ·have:=h i w
    rcases KC z with v |v
    ·have:=Ub n1 j (HX _) v hj;omega
    ·rw[<-v];exact this
   ·exact Ub i j w hij hj
 show kasC _ _ _ (if (n1 - k == 0)=true then _ else _) _ _ _
 by_cases c1:n1 - k=0
 ·rw[HV (by simp[c1])]
  refine Ic (hQ c g (.refl _) (done λi hi=>?_))
  rw[ky];exact hlo i (by omega)
 rw[HY (by simpa using c1)]
 refine HZ (aC (arr:=c) (i:=0 + k + (n1 - k) - 1) (x:=x) (by rw[<-ex];congr 1;omega) ?_)
 refine HZ ?_
 refine uW (c:=c) (left:=true) (lo:=n1) (n:=n2) (hint:=n2 - 1) (z:=x) (κ:=κ) (a0:=a0) (K:=K) L R rfl (by omega) (by omega) mx (by rw[hz];exact Ub) (λi hi=>by rw[<-kx];exact R.ne (by omega) (by omega) (by omega)) λm hm hlo2 hhi2=>?_
 have xy:K y < K x:=by have:=hhi (n1 - 1) (by omega) (by omega);rw[kx] at this;exact this
 have m1:1<=m:=by
  refine Classical.byContradiction λq=>?_
  have:=hhi2 0 (by omega) (by omega)
  rw[Nat.add_zero,ky] at this;omega
 show kasC _ _ _ (if (m == 0)=true then _ else _) _ _ _
 rw[HY (by simp;omega)]
 have sx:gc K (c.extract (0 + k) n1).toList:=jM (by omega) λi j a b d=>Ua i j (IU _) b d
 have sy:gc K (c.extract n1 (n1 + m)).toList:=jM (by omega) λi j a b d=>Ub i j a b (by omega)
 have mem0:∀{i j:Nat} {z:Keyed},z∈(c.extract i j).toList->z∈a0.toList:=λh=>by
  obtain⟨p,_,_,h3,h4,_⟩:=ext_mem (K:=K) h
  obtain⟨w,e,mw,_⟩:=R.mem h3
  rw[h4] at e;cases e;exact mw
 have ne:∀x∈(c.extract (0 + k) n1).toList,∀y∈(c.extract n1 (n1 + m)).toList,K x≠K y:=λx hx y hy=>by
  obtain⟨p,_,b,d,_,e⟩:=ext_mem (K:=K) hx
  obtain⟨q,b',_,d',_,e'⟩:=ext_mem (K:=K) hy
  rw[<-e,<-e'];exact R.ne d d' (by omega)
 let Ok:SortSt->Prop:=λst=>∃g',st=SortSt.mk' κ c #[(0,n1 + n2,p1)] g' none
 have hlt:∀st x y,Ok st->(x∈(c.extract (0 + k) n1).toList\/x∈(c.extract n1 (n1 + m)).toList)->(y∈(c.extract (0 + k) n1).toList\/y∈(c.extract n1 (n1 + m)).toList)->lx M A E s st x y (decide (K x < K y)):=λst x y hst hx hy=>by
  obtain⟨g',rfl⟩:=hst
  exact L _ rfl x (hx.elim mem0 mem0) y (hy.elim mem0 mem0)
 have hgl:∀st g,Ok st->Ok (SortSt.mk' (PyProof.Rows.kindOf st) (arrOf st) (pendingOf st) g (failedOf st)):=λst g' hst=>by
  obtain⟨_,rfl⟩:=hst
  exact⟨g',rfl⟩
 have f0:(c.extract n1 (n1 + m)).toList[0]? =some y:=by
  rw[Jc,Array.getElem?_extract,HV (by omega)];exact ey
 have el:(c.extract (0 + k) n1).toList[(c.extract (0 + k) n1).size - 1]? =some x:=by
  rw[Jc,Array.getElem?_extract,JY,HV (by omega),<-ex];congr 1;omega
 have hl:∀y∈(c.extract n1 (n1 + m)).toList,K y < K x:=λy hy=>by
  obtain⟨q,b',b2,d',_,e'⟩:=ext_mem (K:=K) hy
  have:=hlo2 (q - n1) (by omega)
  rw[show n1 + (q - n1)=q by omega,e'] at this;exact this
 have h0:∀x∈(c.extract (0 + k) n1).toList,K y < K x:=λx hx=>by
  obtain⟨q,b',b2,d',_,e'⟩:=ext_mem (K:=K) hx
  have:=hhi q (by omega) b2
  rw[e'] at this;exact this
 have fin:∀(r:Array Keyed) (st':SortSt),Ok st'->oz K (c.extract (0 + k) n1).toList (c.extract n1 (n1 + m)).toList r.toList->kasC M A E (do
   modify λst:SortSt=>setArr st (r.toList.zipIdx.foldl (λa x=>a.setIfInBounds (0 + k + x.2) x.1) (arrOf st))
   let st <-get
   pure (failedOf st).isNone) Q st' s:=λr st' hst hm'=>by
  obtain⟨g',rfl⟩:=hst
  refine HZ (Kl (HZ (Kd (Ic ?_))))
  have len:r.size=n1 - k + m:=by
   have:=hm'.1.length_eq
   rw[IQ,ID,ID,ID,JY,JY] at this
   omega
  have pb:=rK r.toList c (0 + k) 0 (by rw[ID];omega)
  rw[ID,<-ip,len,<-ic] at pb
  simp only[Nat.add_zero,Jq] at pb hm'
  rw[show k + (n1 - k + m)=n1 + m by omega] at pb
  obtain⟨q1,q2⟩:=BB (by omega) (by omega) m1 (by omega) Ua Ub (λi hi=>by rw[ky];exact hlo i hi) (λi h3 h4=>by
   have:=hhi2 (i - n1) (by omega) (by omega)
   rw[show n1 + (i - n1)=i by omega] at this
   rw[kx];exact this) hm'
  rw[<-pb] at q1 q2
  simp only[Jq]
  exact hQ _ g' (JU.mpr q1) q2
 show kasC _ _ _ (if n1 - k<=m then _ else _) _ _ _
 by_cases c2:n1 - k<=m
 ·rw[HV c2]
  have z0:0 < (c.extract (0 + k) n1).size:=by rw[JY];omega
  obtain⟨x0,e0,e0'⟩:=cP z0
  refine HZ (C3 (K:=K) (Ok:=Ok) sx sy ne hlt e0' f0 (h0 x0 (Ij e0')) el hl ⟨g,rfl⟩ hgl λr st' h3 h4=>?_)
  exact fin r st' h3 h4
 ·rw[HY c2]
  refine HZ (CJ (K:=K) (Ok:=Ok) sx sy ne hlt f0 h0 el hl ⟨g,rfl⟩ hgl λr st' h3 h4=>?_)
  exact fin r st' h3 h4
end
section
variable {K:Keyed->Int}{a0:Array Keyed}{M:Model}{A:Around}{E:Value->Shared->Prop}{s:Shared}{κ:SortKind}
def Av {k k':Nat->Int}{lo hi:Nat}(h:kn k lo hi)(e:∀i,i < hi->k' i=k i):kn k' lo hi:=λi j a b d=>by rw[e i (by omega),e j d];exact h i j a b d
def zj {β:Type}{c:Array Keyed}{lo n:Nat}{pd:Array (Nat×Nat×Nat)}{g:Nat}{f:Nat->StateT SortSt Sem β}{bad:Nat->Bool->StateT SortSt Sem β}{Q:β->SortSt->Shared->Prop}{X:Option Nat->StateT SortSt Sem β}(L:k7 M A E s κ K a0)(R:Ar K a0 c)(h1:1<=n)(hn:lo + n<=c.size)
  (hX:∀m,¬m < 32->X (some m)=f m)
  (hY:∀m,m < 32->X (some m)=liftM (rule "list.sort.binary-insertion") >>= λ_=>binarySort' lo (min n 32) m >>= λr=>if (!r)=true then bad m r else f (min n 32))
  (hQ:∀m d,1<=m->m<=n->(m < 32->m=n)->Ar K a0 d->(∀i,i < lo->Ku K d i=Ku K c i)->kn (Ku K d) lo (lo + m)->kasC M A E (f m) Q (Ss κ pd g d) s):kasC M A E (countRun' lo n >>= X) Q (Ss κ pd g c) s:=by
 refine HZ (xP L R h1 hn λm d m1 m2 R2 k2 U2=>?_)
 by_cases q:m < 32
 ·rw[hY m q]
  have z2:d.size=c.size:=R2.pm.size_eq.trans R.pm.size_eq.symm
  refine HZ (kasC_lift (Kz ?_))
  refine HZ (Di L R2 m1 (by omega) (by omega) U2 λe R3 k3 U3=>?_)
  rw[HY (by simp)]
  exact hQ _ e (by omega) (by omega) (by omega) R3 (λi hi=>(k3 i hi).trans (k2 i hi)) U3
 ·rw[hX m q]
  exact hQ m d m1 m2 (λh=>absurd h q) R2 k2 U2
def C7 {Q:Unit->SortSt->Shared->Prop}(L:k7 M A E s κ K a0)(nd:(a0.toList.map K).Nodup)(hz:a0.size=64)
  (hQ:∀d pd g,d.Perm a0->gc K d.toList->Q () (SortSt.mk' κ d pd g none) s):kasC M A E sortRuns' Q (SortSt.mk' κ a0 #[] 7 none) s:=by
 rw[sortRuns'_eq]
 have R0:Ar K a0 a0:=⟨.refl _,nd⟩
 refine HZ (Kd ?_)
 dsimp only
 have hsz:(arrOf (SortSt.mk' κ a0 #[] 7 none)).size=64:=hz
 simp only[hsz]
 have hmr:minRun' 64 64 0=32:=by
  rw[minRun'_succ,HY (by omega),minRun'_succ,HV (by omega)];rfl
 simp only[hmr]
 refine HZ (Jr ?_)
 show kasC _ _ _ (forIn (0 :: 1 :: 2 :: List.range' 3 61) _ _) _ _ _
 refine JJ ?_
 dsimp only
 rw[HY (by omega)]
 refine zj (lo:=0) (n:=64) (f:=?f) (bad:=?b) L R0 (by omega) (by omega) ?hx ?hy ?hq
 case hx=>intro m h;dsimp only;rw[HY h]
 case hy=>intro m h;dsimp only;rw[HV h]
 case hq=>
 intro n1 c n1a n1b n1c Rc _ Ua
 have zc:c.size=64:=Rc.pm.size_eq.trans hz
 rw[Jq] at Ua
 refine HZ (Kd ?_)
 rw[show (pendingOf (Ss κ #[] 7 c)).back? =none from rfl]
 dsimp only
 refine HZ (Kl (Ic ?_))
 show kasC _ _ _ (forIn (1 :: 2 :: List.range' 3 61) _ _) _ (SortSt.mk' κ c #[(0,n1,0)] 7 none) _
 refine JJ ?_
 dsimp only
 rw[Jq]
 by_cases e1:n1>=64
 ·rw[HV e1]
  refine Ic ?_
  dsimp only
  refine HZ (Jr ?_)
  show kasC _ _ _ (forIn (0 :: List.range' 1 63) _ _) _ _ _
  refine JJ ?_
  refine HZ (Kd ?_)
  rw[HV (show (pendingOf (SortSt.mk' κ c #[(0,n1,0)] 7 none)).size<=1 from HX 1)]
  refine Ic ?_
  dsimp only
  exact Ic (hQ c _ _ Rc.pm (zL (by rw[zc,show 64=n1 by omega];exact Ua)))
 rw[HY e1]
 refine zj (lo:=n1) (n:=64 - n1) (pd:=#[(0,n1,0)]) (g:=7) (c:=c) (f:=?f2) (bad:=?b2) L Rc (by omega) (by omega) ?hx2 ?hy2 ?hq2
 case hx2=>intro m h;dsimp only;rw[HY h]
 case hy2=>intro m h;dsimp only;rw[HV h]
 case hq2=>
 intro n2 d n2a n2b n2c Rd kd Ub
 have zd:d.size=64:=Rd.pm.size_eq.trans hz
 have e2:n1 + n2=64:=by
  by_cases q:n2 < 32
  ·have:=n2c q;omega
  ·by_cases q1:n1 < 32
   ·have:=n1c q1;omega
   ·omega
 have Ua':kn (Ku K d) 0 n1:=Av Ua kd
 refine HZ (Kd ?_)
 rw[show (pendingOf (Ss κ #[(0,n1,0)] 7 d)).back? =some (0,n1,0) from rfl]
 dsimp only
 refine HZ (Jr ?_)
 show kasC _ _ _ (forIn (0 :: List.range' 1 63) _ _) _ _ _
 refine JJ ?_
 refine HZ (Kd ?_)
 rw[HY (show ¬(pendingOf (Ss κ #[(0,n1,0)] 7 d)).size > 1 from IL 1)]
 refine Ic ?_
 dsimp only
 refine HZ (Kl ?_)
 refine HZ (Kl (Ic ?_))
 generalize power' 64 (2 * 0 + n1) (2 * 0 + n1 + n1 + n2) 64=pw
 show kasC _ _ _ (forIn (2 :: List.range' 3 61) _ _) _ (SortSt.mk' κ d (((#[(0,n1,0)]:Array (Nat×Nat×Nat)).modify 0 λx=>(x.1,x.2.1,pw)).push (n1,n2,0)) 7 none) _
 rw[show ((#[(0,n1,0)]:Array (Nat×Nat×Nat)).modify 0 λx=>(x.1,x.2.1,pw)).push (n1,n2,0)=#[(0,n1,pw),(n1,n2,0)] by simp[Array.modify,Array.modifyM,Id.run];rfl]
 refine JJ ?_
 dsimp only
 rw[HV (by omega)]
 refine Ic ?_
 dsimp only
 refine HZ (Jr ?_)
 show kasC _ _ _ (forIn (0 :: 1 :: List.range' 2 62) _ _) _ _ _
 refine JJ ?_
 refine HZ (Kd ?_)
 rw[HY (show ¬(pendingOf (SortSt.mk' κ d #[(0,n1,pw),(n1,n2,0)] 7 none)).size<=1 from IL 1)]
 refine HZ (Cr (n1:=n1) (n2:=n2) (p1:=pw) (p2:=0) (g:=7) (c:=d) L Rd n1a n2a (by omega) Ua' (by rw[zd,<-e2];exact Ub) λd' g' pm as=>?_)
 refine Ic ?_
 refine JJ ?_
 refine HZ (Kd ?_)
 rw[HV (show (pendingOf (SortSt.mk' κ d' #[(0,n1 + n2,pw)] g' none)).size<=1 from HX 1)]
 refine Ic ?_
 dsimp only
 exact Ic (hQ d' _ _ (pm.trans Rd.pm) as)
end
theorem zN {α:Type}{K:α->Int}:∀{l m:List α},l.Perm m->gc K l->gc K m->l=m
 | [],m,h,_,_=>by simpa using h.symm
 |x :: l,[],h,_,_=>by simpa using h
 |x :: l,y :: m,h,a,b=>by
  have a':=J8.mp a
  have b':=J8.mp b
  have e:x=y:=by
   rcases Ih.mp (h.mem_iff.mp (Ig ..)) with q |q
   ·exact q
   ·rcases Ih.mp (h.mem_iff.mpr (Ig ..)) with r |r
    ·exact r.symm
    ·have:=a'.1 y r;have:=b'.1 x q;omega
  subst e
  rw[zN h.cons_inv a'.2 b'.2]
noncomputable def wY (it:Array Keyed)(key:Nat->Int)(x:Keyed):Int:=open Classical in if h:∃i,i < it.size/\kas_item it i=x then key h.choose else 0
def oB {it:Array Keyed}{key:Nat->Int}(hd:∀i j,i < it.size->j < it.size->kas_item it i=kas_item it j->i=j){i:Nat}(hi:i < it.size):wY it key (kas_item it i)=key i:=by
 have h:∃j,j < it.size/\kas_item it j=kas_item it i:=⟨i,hi,rfl⟩
 unfold wY
 rw[dif_pos h,hd _ _ h.choose_spec.1 hi h.choose_spec.2]
def qP {it:Array Keyed}{x:Keyed}(h:x∈it.toList):∃i,i < it.size/\kas_item it i=x:=by
 obtain⟨i,hi,e⟩:=IW.mp h
 rw[ID] at hi
 exact⟨i,hi,by unfold kas_item;rw[<-e];simp[Array.getD,hi]⟩
def Bh {n:Nat}{ix:Array Nat}(P:Pm n ix):ix.toList.Perm (List.range n):=by
 refine (List.perm_ext_iff_of_nodup P.nd J6).mpr λx=>⟨λhx=>IH.mpr (P.lt x (by simpa using hx)),λhx=>L2.ST.yD P (IH.mp hx)⟩
def CU:L2.ST.jQ 64:=⟨HX _,λprog w A E s κ vs key Q hn h2 hi hd hc hQ=>by
 obtain⟨ix,_,P1,U1⟩:=oK hi h2
 have e:=kat_ask_eq (prog:=prog) (w:=w) (A:=A) (κ:=κ) (ks:=vs) (vs:=vs) rfl
 rw[e] at hc
 have hsz:(vs.toArray.zip vs.toArray).size=64:=by simp[hn]
 have hit:∀i,kas_item (vs.toArray.zip vs.toArray) i=(vs.getD i Value.none,vs.getD i Value.none):=λi=>kat_item rfl i
 generalize hT:vs.toArray.zip vs.toArray=it at *
 have hd':∀i j,i < it.size->j < it.size->kas_item it i=kas_item it j->i=j:=λi j h3 h4 h5=>by
  rw[hit,hit] at h5
  exact hd i j (by omega) (by omega) (congrArg Prod.fst h5)
 have L:k7 (model prog w) A E s κ (wY it key) it:=λst hst x mx y my Q' hQ'=>by
  obtain⟨i,h3,rfl⟩:=qP mx
  obtain⟨j,h4,rfl⟩:=qP my
  rw[oB hd' h3,oB hd' h4] at hQ'
  rw[lt'_eq]
  refine HZ (Kd ?_)
  rw[hst]
  refine HZ (kasC_lift (wpAny_attempt (JK (hc i j (λb s'=>b=decide (key i < key j)/\s'=s) (by omega) (by omega) ⟨rfl,rfl⟩) (λb s' hb=>?_) λ_ _ hF=>hF.elim)))
  obtain⟨rfl,rfl⟩:=hb
  exact Ic hQ'
 have eit:it.toList=(List.range 64).map (kas_item it):=by
  have:=congrArg Array.toList (kas_range it)
  rw[hsz] at this
  simpa using this.symm
 have nd:(it.toList.map (wY it key)).Nodup:=by
  rw[eit,K7]
  refine Jw.mpr (Jo.mpr λi j h3 h4 hij=>?_)
  rw[KL] at h3 h4
  simp only[List.getElem_range,Function.comp]
  rw[oB hd' (by omega),oB hd' (by omega)]
  intro q
  have:=hi i j (by omega) (by omega) q
  omega
 refine C7 (Q:=λ_ st s'=>Q st s') (K:=wY it key) L nd hsz λd pd g pm as=>?_
 refine hQ ix _ P1 U1 ?_ rfl
 show d=ix.map (kas_item it)
 refine Array.toList_inj.mp (zN (K:=wY it key) ?_ as ?_)
 ·rw[Array.toList_map]
  refine (JU.mp pm).trans ?_
  rw[eit]
  exact ((Bh P1).map _).symm
 ·rw[Array.toList_map]
  refine Jw.mpr (Jo.mpr λi j h3 h4 hij=>?_)
  rw[ID] at h3 h4
  have e1:∀i (h:i < ix.size),ix.getD i 0=ix.toList[i]'(by simpa using h):=λi h=>by simp[Array.getD,h]
  have:=U1 i j hij (by rw[<-P1.sz];exact h4)
  unfold Kp at this
  rw[e1 i h3,e1 j h4] at this
  have b1:=P1.at (k:=i) (by rw[<-P1.sz];exact h3)
  have b2:=P1.at (k:=j) (by rw[<-P1.sz];exact h4)
  rw[e1 i h3] at b1
  rw[e1 j h4] at b2
  rw[oB hd' (by omega),oB hd' (by omega)]
  exact this⟩
def Dt {n:Nat}(h:n<=64):L2.ST.jQ n:=by
 rcases KC h with q |q
 ·exact L2.ST.xg q
 ·rw[q];exact CU
end L2.SO
namespace L2
open PySem PySem.Spec PyProof.Rows
def w8 (R:Int->Int->Prop):(OM.aX 8 R).length<=64:=by
 unfold OM.aX
 exact Ji (KP _ _) (by decide)
section
variable {X:Cx}{K:Frag}{Γ:Fx}{E:XK}{a:Expr}{fa:VF D}{La:List Nat}{ma:Md}{pos:Pos}
noncomputable def aZ (d:D):Option D:=match kh d with
 |some ds=>(match dc ds with
  |some ps=>if ps.all DY=true then some (.list ((OM.aX 8 (OM.Mem ps)).map aA)) else none
  |none=>none)
 |none=>none
theorem iH {p1 p2 pos2:Pos}(hc:X.calm=true)(hu:X.A.units + 64 < cLine)(hK:X.K=Γ.K)(hg:Gl X "sorted")(hm:X.mg "sorted"=none)(hg2:Gl X "set")(hm2:X.mg "set"=none)(ha:SE X Γ E a fa La ma)
  (he:starEach [a] X.env=(false,eval a X.env) :: starEach [] X.env:=by rfl)
  (he2:starEach [.Call (.Name "set" p2) [a] [] pos2] X.env=(false,eval (.Call (.Name "set" p2) [a] [] pos2) X.env) :: starEach [] X.env:=by rfl) :
  SE X Γ E (.Call (.Name "sorted" p1) [.Call (.Name "set" p2) [a] [] pos2] [] pos) (f1 fa aZ) La .w:=by
 refine qZ (λd r e=>?_) hc hu hK hg hm hg2 hm2 ha he he2
 unfold aZ at e
 cases q:kh d with
 |none=>rw[q] at e;cases e
 |some ds=>
  rw[q] at e
  dsimp only at e
  cases q2:dc ds with
  |none=>rw[q2] at e;cases e
  |some ps=>
   rw[q2] at e
   dsimp only at e
   split at e
   ·rename_i hh
    cases e
    exact⟨ds,ps,rfl,q2,hh,λm hm=>L2.SO.Dt (by have:=w8 (OM.Mem ps);omega),rfl⟩
   ·cases e
end
end L2
namespace RM
open PySem L2
noncomputable def cB:SF:=(aF (bJ 1 [] (f1 (gv 0) aZ))
 (aF (bJ 2 [] (f1 (cst (.int 1)) EB))
 (aF (fX ([] ++ []) (fg (f2 (gv 2) (f1 (gv 1) dE) (eM true)))
 (aF (bJ 2 [] (f1 (gv 1) dE))
 (aF (bJ 3 [] (bG af))
 (aF (dH (.two 4 5) [1] (eY (gv 1))
 (bJ 3 ([] ++ ([] ++ [4])) (f2 (gv 3) (b5 2 [5,4] (.two 0 1) (eY (gv 1)) (fg (f2 (gv 0) (gv 2) (eM false))) (az (ab (gv 3) (ab (gv 1) af)))) jt)))
 (bJ 1 ([] ++ []) (f1 (f2 (gv 1) (gv 3) jt) aZ))))) 1000)
 (bQ (f1 (gv 1) zX)))))
noncomputable def dN (aR aP:List D->FR):SF:=(aF (dH (.nm 2) [1] (eY (gv 1))
 (aF (kZ ([] ++ (([] ++ []) ++ ([] ++ []))) (fZ (qk (qj (f1 (gv 2) (dB "tuple")))) (fZ (fg (f2 (f1 (gv 2) dE) (cst (.int 2)) (eM true))) (qk (qj (f1 (b5 1 [] (.nm 0) (eY (gv 2)) xi (aL aR (ab (gv 0) af))) (eV λbs=>bs.all id))))))
 (bQ (cst (.bool false)))
 n0)
 (kZ ((([] ++ []) ++ ([] ++ [])) ++ (([] ++ []) ++ ([] ++ []))) (fZ (fg (f2 (f2 (gv 2) (cst (.int 0)) cW) (f2 (gv 2) (cst (.int 1)) cW) (eM false))) (fZ (fg (f2 (f1 (gv 2) (fK tK)) (cst (.int 0)) xM)) (fg (f2 (f1 (gv 2) (fK uF)) (gv 0) FZ))))
 (bQ (cst (.bool false)))
 n0)))
 (bQ (fH (f2 (f1 (gv 1) si) (f1 (gv 1) aZ) (eM false)) (f2 (aL aP (ab (gv 1) af)) (gv 1) (eM false)))))
def aN (aR cc:List D->FR):SF:=(aF (kZ ([] ++ (([] ++ []) ++ ((([] ++ []) ++ []) ++ []))) (fZ (qk (qj (f1 (gv 0) (dB "tuple")))) (fZ (fg (f2 (f1 (gv 0) dE) (cst (.int 2)) (eM true))) (fZ (qk (qj (aL aR (ab (f2 (gv 0) (cst (.int 0)) cW) af)))) (qk (fg (dX (cst (.int 1)) (f2 (gv 0) (cst (.int 0)) cW) (cst (.int 8)) tQ tQ))))))
 (bQ (cst (.bool false)))
 n0)
 (bQ (fH (f1 (f2 (gv 0) (cst (.int 1)) cW) (dB "tuple")) (aL cc (ab (f2 (gv 0) (cst (.int 0)) cW) (ab (f2 (gv 0) (cst (.int 1)) cW) af))))))
def fB (ar:List D->Int->FB):SF:=(aF (qW (.two 3 4) [1] (gv 1))
 (aF (bJ 5 (([] ++ []) ++ []) (iY 0 ar (ab (f2 (f1 (gv 4) dE) (cst (.int 1)) bS) af)))
 (aF (qW (.two 6 7) (((([] ++ []) ++ ([] ++ [])) ++ (([] ++ (([] ++ []) ++ [])) ++ [])) ++ []) (f2 (f2 (kq (gv 4) (sv (gv 5)) (sv (f2 (gv 5) (cst (.int 1)) bS))) (az (ab (az (ab (cst (.int 0)) (ab (f2 (gv 3) (cst (.int 1)) sh) af))) af)) lq) (cst (.int 0)) cW))
 (aF (j8 8 ([] ++ ((([6] ++ ([7] ++ [])) ++ (([6] ++ ([7] ++ [])) ++ [])) ++ ((([7] ++ ([6] ++ [])) ++ []) ++ ((([6] ++ ([6] ++ [])) ++ []) ++ ((([6] ++ ([3] ++ [])) ++ []) ++ ((([] ++ ([7] ++ [])) ++ []) ++ ((([6] ++ ([7] ++ [])) ++ []) ++ (([2] ++ []) ++ ((([6] ++ ([7] ++ ([] ++ []))) ++ []) ++ []))))))))) (bG (ab (az af) (ab (az (ab (az (ab (gv 6) (ab (gv 7) af))) (ab (az (ab (gv 6) (ab (gv 7) af))) af))) (ab (az (ab (az (ab (gv 7) (ab (gv 6) af))) af)) (ab (az (ab (az (ab (gv 6) (ab (gv 6) af))) af)) (ab (az (ab (az (ab (gv 6) (ab (gv 3) af))) af)) (ab (az (ab (az (ab (cst (.bool false)) (ab (gv 7) af))) af)) (ab (az (ab (bG (ab (gv 6) (ab (gv 7) af))) af)) (ab (az (ab (gv 2) af)) (ab (az (ab (az (ab (gv 6) (ab (gv 7) (ab (cst (.int 0)) af)))) af)) af)))))))))))
 (aF (nG 8 ((([3] ++ []) ++ (([3] ++ []) ++ [])) ++ []) (az (ab (az (ab (iY 0 ar (ab (gv 3) af)) (ab (iY 0 ar (ab (gv 3) af)) af))) af)))
 (aF (bJ 9 ([] ++ []) (iY 0 ar (ab (cst (.int 15)) af)))
 (aF (kZ ([] ++ []) (fg (f2 (gv 9) (cst (.int 10)) xM))
 (bQ (az (ab (gv 3) (ab (f2 (f2 (kq (gv 4) (λ_ β=>.ok none β) (sv (gv 5))) (f2 (gv 8) (gv 9) cW) lq) (kq (gv 4) (sv (f2 (gv 5) (cst (.int 1)) bS)) (λ_ β=>.ok none β)) lq) af))))
 n0)
 (aF (bJ 10 (([3] ++ ([] ++ [])) ++ ((([] ++ []) ++ ([4] ++ [])) ++ (([3] ++ ([] ++ [])) ++ (([3] ++ ([4] ++ ([] ++ []))) ++ (([3] ++ ([4] ++ [])) ++ []))))) (bG (ab (az (ab (gv 3) (ab (f1 (gv 4) Fu) af))) (ab (az (ab (f2 (gv 3) (cst (.int 1)) sh) (ab (gv 4) af))) (ab (az (ab (gv 3) (ab (f1 (gv 4) si) af))) (ab (az (ab (gv 3) (ab (gv 4) (ab (az af) af)))) (ab (bG (ab (gv 3) (ab (gv 4) af))) af)))))))
 (bQ (f2 (gv 10) (f2 (gv 9) (cst (.int 10)) sh) cW))))))))))
def vi (c7 cn df bE:List D->FR)(cj ar cZ cI:List D->Int->FB):SF:=(aF (dH (.nm 1) ([] ++ ([] ++ [])) (j9 (f2 (cst (.int 1)) (f2 (f1 (gv 0) dE) (cst (.int 6)) (uk λi j=>.int (if j < i then j else i))) (uk λi j=>.int (if j > i then j else i))))
 (aF (vK 2 ([0] ++ ([1] ++ [])) (rm c7 (ab (gv 0) (ab (gv 1) af))))
 (aF (bJ 3 ((([] ++ ([] ++ ([] ++ ([] ++ [])))) ++ ([] ++ [])) ++ []) (iY 2 cj (ab (f2 (bG (ab (cst (.int 6)) (ab (cst (.int 6)) (ab (cst (.int 6)) (ab (cst (.int 8)) af))))) (iY 2 ar (ab (cst (.int 4)) af)) cW) af)))
 (aF (bJ 4 [] (iY 2 cZ af))
 (aF (j8 5 ([3] ++ ([4] ++ (([] ++ ([] ++ [])) ++ (([] ++ ([] ++ [])) ++ (([] ++ ([] ++ [])) ++ (([] ++ ([] ++ [])) ++ ((([] ++ []) ++ ([4] ++ [])) ++ (((([] ++ []) ++ []) ++ (([] ++ []) ++ [])) ++ [])))))))) (bG (ab (gv 3) (ab (gv 4) (ab (az (ab (cst (.int 8)) (ab (az af) af))) (ab (az (ab (cst (.int 9)) (ab (az af) af))) (ab (az (ab (cst (.int 0)) (ab (az af) af))) (ab (az (ab (cst (.bool true)) (ab (az af) af))) (ab (az (ab (f2 (gv 3) (cst (.int 0)) cW) (ab (gv 4) af))) (ab (az (ab (f2 (f2 (gv 3) (cst (.int 0)) cW) (cst (.int 1)) bS) (ab (f2 (gv 3) (cst (.int 1)) cW) af))) af))))))))))
 (aF (dH (.nm 6) [] (j9 (cst (.int 3)))
 (nG 5 ([3] ++ ([4] ++ [])) (iY 2 cI (ab (gv 3) (ab (gv 4) af)))))
 (dH (.nm 7) [5] (eY (gv 5))
 (aF (bJ 8 [] (f1 (gv 7) mN))
 (kZ ((([7] ++ []) ++ (([7] ++ []) ++ [])) ++ ([] ++ [])) (fZ (qk (qj (aL cn (ab (aL df (ab (gv 7) af)) (ab (aL bE (ab (gv 7) af)) af))))) (fg (f2 (f1 (gv 7) mN) (gv 8) (DK true))))
 (bQ (cst (.bool false)))
 n0)))))))))
 (bQ (cst (.bool true))))
end RM
namespace RQ
open PySem L2 RM
section
variable {P:Program}{w:World}{K:Frag}{mg:Str->Option Value}{base:Heap}{ca:Str->Addr}
def qA:aK ["thing"] ["thing"] (av gR):=⟨rfl,rfl,rfl,by decide +kernel,rfl,by decide +kernel,by decide +kernel⟩
def pG {f:Addr}{fd:FuncData}(F:k9 K mg "is_whole" gR ["thing"] f fd)(B:lB mg):gM P w K mg base ca "is_whole" ["thing"] 1 (b6 1 1 (mH)):=
 ⟨⟨f,fd,F.mg,F.F.kp,F.b,bK (N:=["thing"]) (k:=0) F.F qA λcdv A outer s H G E hr=>
  (aB (aW (gL (eG "int" (by decide) rfl rfl B.isinstance rfl B.int (by decide +kernel) (ah 0)) (gG (tE (eG "bool" (by decide) rfl rfl B.isinstance rfl B.bool (by decide +kernel) (ah 0)))) (λ_ _=>rfl))))⟩,λds h=>bq ds h⟩
def rM:aK ["thing","bound"] ["thing","bound"] (av gi):=⟨rfl,rfl,rfl,by decide +kernel,rfl,by decide +kernel,by decide +kernel⟩
def oS {f:Addr}{fd:FuncData}{bo:List D->FR}(F:k9 K mg "is_below" gi ["thing","bound"] f fd)(B:lB mg)(c9:gM P w K mg base ca "is_whole" ["thing"] 1 bo):gM P w K mg base ca "is_below" ["thing","bound"] 2 (b6 2 2 (ny bo)):=
 ⟨⟨f,fd,F.mg,F.F.kp,F.b,bK (N:=["thing","bound"]) (k:=1) F.F rM λcdv A outer s H G E hr=>
  (aB (aW (gL (bu c9 (hr.mono (by decide)) bp rfl rfl (ae (aM 0 rfl) au)) (gG (so rV vM zH Bd ak (ah 0) (ah 1))) (λ_ _=>rfl))))⟩,λds h=>bq ds h⟩
def ux:aK ["thing"] ["thing"] (av iS):=⟨rfl,rfl,rfl,by decide +kernel,rfl,by decide +kernel,by decide +kernel⟩
def rB {f:Addr}{fd:FuncData}{bo:List D->FR}(F:k9 K mg "is_many" iS ["thing"] f fd)(B:lB mg)(c9:gM P w K mg base ca "is_whole" ["thing"] 1 bo){nH:Tok}(fJ:mg "MOST_THINGS"=some (.int 8 nH)):gM P w K mg base ca "is_many" ["thing"] 2 (b6 1 1 (oJ bo)):=
 ⟨⟨f,fd,F.mg,F.F.kp,F.b,bK (N:=["thing"]) (k:=1) F.F ux λcdv A outer s H G E hr=>
  (aB (aW (gL (bu c9 (hr.mono (by decide)) bp rfl rfl (ae (aM 0 rfl) au)) (gG (so rV rV zH zH ak (ah 0) (Bw (by rfl) fJ))) (λ_ _=>rfl))))⟩,λds h=>bq ds h⟩
def uh:aK ["thing","many"] ["thing","many"] (av iO):=⟨rfl,rfl,rfl,by decide +kernel,rfl,by decide +kernel,by decide +kernel⟩
def qy {f:Addr}{fd:FuncData}{cH:List D->FR}(F:k9 K mg "is_pair" iO ["thing","many"] f fd)(B:lB mg)(gn:gM P w K mg base ca "is_below" ["thing","bound"] 2 cH):gM P w K mg base ca "is_pair" ["thing","many"] 3 (b6 2 2 (iP cH)):=
 ⟨⟨f,fd,F.mg,F.F.kp,F.b,bK (N:=["thing","many"]) (k:=2) F.F uh λcdv A outer s H G E hr=>
  (aw (gZ (xG.t (hV (e8 (fI rfl (eG "tuple" (by decide) rfl rfl B.isinstance rfl B.tuple (by decide +kernel) (ah 0)))) (jB (cG (kW hr.units) jk (aU cw i8 rfl B.len JN (ah 0)) ak (bO _))) (λ_ _=>rfl)))
  (aB (aW hW))
  dC)
  (aB (aW (gL (bu gn (hr.mono (by decide)) bp rfl rfl (ae (b4 ba dR (ah 0) ak (λ_ _=>rfl)) (ae (aM 1 rfl) au))) (gG (bu gn (hr.mono (by decide)) bp rfl rfl (ae (b4 ba dR (ah 0) ak (λ_ _=>rfl)) (ae (aM 1 rfl) au)))) (λ_ _=>rfl)))))⟩,λds h=>bq ds h⟩
def nM:aK ["many"] ["many"] (av cU):=⟨rfl,rfl,rfl,by decide +kernel,rfl,by decide +kernel,by decide +kernel⟩
def mS {f:Addr}{fd:FuncData}(F:k9 K mg "every_pair" cU ["many"] f fd)(B:lB mg):gM P w K mg base ca "every_pair" ["many"] 1 (b6 1 1 (oQ)):=
 ⟨⟨f,fd,F.mg,F.F.kp,F.b,bK (N:=["many"]) (k:=0) F.F nM λcdv A outer s H G E hr=>
  (aB (o4 (jR (NB:=["number","many"]) (own:=1) (ixs:=[0]) [] rfl (mJ (by kernel_rfl)) (λ_ _=>rfl) (q8 rfl B.range (aS iz js (ah 0) (ah 0))) (λH0 G0 par br bx C ex s3 H3 pn=>(i5 (i:=0) (show (["number","many"]:List Str).Nodup by decide +kernel))) (λH0 G0 par br bx C ex s3 H3 pn hB1=>lF) (λH0 G0 par br bx C ex s3 H3 pn hB1=>(a9 (ae (aS j6 Bi (ah 0) (ah 1)) (ae (aS jm oM (ah 0) (ah 1)) au)))))))⟩,λds h=>bq ds h⟩
def rQ:aK ["pairs"] ["pairs"] (av gH):=⟨rfl,rfl,rfl,by decide +kernel,rfl,by decide +kernel,by decide +kernel⟩
def pO {f:Addr}{fd:FuncData}(F:k9 K mg "has_ring" gH ["pairs"] f fd)(B:lB mg):gM P w K mg base ca "has_ring" ["pairs"] 1 (b6 1 1 (m9)):=
 ⟨⟨f,fd,F.mg,F.F.kp,F.b,bK (N:=["pairs"]) (k:=0) F.F rQ λcdv A outer s H G E hr=>
  (aB (aW (aU (zm rfl) pz rfl B.any (by decide +kernel) (jR (NB:=["a","b"]) (own:=2) (ixs:=[]) [] rfl (mJ (by kernel_rfl)) (λ_ _=>rfl) (As rfl (ah 0)) (λH0 G0 par br bx C ex s3 H3 pn=>(mj (i:=0) (j:=1) (show (["a","b"]:List Str).Nodup by decide +kernel))) (λH0 G0 par br bx C ex s3 H3 pn hB1=>lF) (λH0 G0 par br bx C ex s3 H3 pn hB1=>(lU (gq hr.units) jk (ah 0) (ah 1) (bO _)))))))⟩,λds h=>bq ds h⟩
def hU:aK ["thing","many","pairs"] ["thing"] (av gp):=⟨rfl,rfl,rfl,by decide +kernel,rfl,by decide +kernel,by decide +kernel⟩
def o7 {f:Addr}{fd:FuncData}{dS dU fQ cX:List D->FR}(F:k9 K mg "is_order" gp ["thing"] f fd)(B:lB mg)(kE:gM P w K mg base ca "is_many" ["thing"] 2 dS)(kI:gM P w K mg base ca "is_pair" ["thing","many"] 3 dU)(mh:gM P w K mg base ca "closed" ["many","pairs"] 3 fQ)(jw:gM P w K mg base ca "has_ring" ["pairs"] 1 cX):gM P w K mg base ca "is_order" ["thing"] 4 (b6 3 1 (aQ dS dU fQ cX)):=
 ⟨⟨f,fd,F.mg,F.F.kp,F.b,bK (N:=["thing","many","pairs"]) (k:=3) F.F hU λcdv A outer s H G E hr=>
  (aw (gZ (xG.t (hV (e8 (fI rfl (eG "tuple" (by decide) rfl rfl B.isinstance rfl B.tuple (by decide +kernel) (ah 0)))) (jB (cG (kW hr.units) jk (aU cw i8 rfl B.len JN (ah 0)) ak (bO _))) (λ_ _=>rfl)))
  (aB (aW hW))
  dC)
  (aw (a7 (i:=1) (b4 ba dR (ah 0) ak (λ_ _=>rfl)) hU.nd)
  (aw (a7 (i:=2) (b4 ba dR (ah 0) ak (λ_ _=>rfl)) hU.nd)
  (aw (gZ (xG.t (hV (e8 (fI rfl (bu kE (hr.mono (by decide)) bp rfl rfl (ae (aM 1 rfl) au)))) (jB (e8 (fI rfl (eG "tuple" (by decide) rfl rfl B.isinstance rfl B.tuple (by decide +kernel) (ah 2))))) (λ_ _=>rfl)))
  (aB (aW hW))
  dC)
  (aw (gZ (e8 (fI rfl (aU (rS rfl) pz rfl B.all (by decide +kernel) (jR (NB:=["pair","many"]) (own:=1) (ixs:=[1]) [1] rfl (mJ (by kernel_rfl)) (λ_ _=>rfl) (As rfl (ah 2)) (λH0 G0 par br bx C ex s3 H3 pn=>(i5 (i:=0) (show (["pair","many"]:List Str).Nodup by decide +kernel))) (λH0 G0 par br bx C ex s3 H3 pn hB1=>lF) (λH0 G0 par br bx C ex s3 H3 pn hB1=>(bu kI (hr.mono (by decide)) BP rfl rfl (ae (aM 0 (hB1 0 (by decide))) (ae (aM 1 (hB1 1 (by decide))) au))))))))
  (aB (aW hW))
  dC)
  (aB (aW (gL (lU (gq hr.units) jk (ah 2) (bu mh (hr.mono (by decide)) bp rfl rfl (ae (aM 1 rfl) (ae (aM 2 rfl) au))) (bO _)) (gG (tE (bu jw (hr.mono (by decide)) bp rfl rfl (ae (aM 2 rfl) au)))) (λ_ _=>rfl)))))))))⟩,λds h=>bq ds h⟩
def pf:aK ["script","k"] ["script","k"] (av fF):=⟨rfl,rfl,rfl,by decide +kernel,rfl,by decide +kernel,by decide +kernel⟩
def nI {f:Addr}{fd:FuncData}(F:k9 K mg "_law_cell" fF ["script","k"] f fd)(B:lB mg):gM P w K mg base ca "_law_cell" ["script","k"] 1 (b6 2 2 (dt)):=
 ⟨⟨f,fd,F.mg,F.F.kp,F.b,bK (N:=["script","k"]) (k:=0) F.F pf λcdv A outer s H G E hr=>
  (aw (gZ (cG vM Bd (ah 1) (aU cw i8 rfl B.len JN (ah 0)) (bO _))
  (aB (aW (b4 ba dR (ah 0) (ah 1) (λ_ _=>rfl))))
  dC)
  (aB (aW ak)))⟩,λds h=>bq ds h⟩
def fA:aK ["cell","k","some","stir"] ["cell","k"] (av cY):=⟨rfl,rfl,rfl,by decide +kernel,rfl,by decide +kernel,by decide +kernel⟩
def pI:∃(es:List Expr) (p1 p2 p3:Pos),bY cY=.Assign [.Name "some" p1] (.List es p2) p3 :: (bY cY).drop 1/\constsOf es=some [48271,69621,16807,39373,30269,40014,40692,50021,61687,71993,83869,95561,30307]:=⟨_,_,_,_,rfl,by kernel_rfl⟩
def pB {f:Addr}{fd:FuncData}(F:k9 K mg "_law_mix" cY ["cell","k"] f fd)(B:lB mg):gM P w K mg base ca "_law_mix" ["cell","k"] 1 (b6 4 2 (gW)):=by
 obtain⟨es,p1,p2,p3,hb,hes⟩:=pI
 refine⟨⟨f,fd,F.mg,F.F.kp,F.b,bK (N:=["cell","k","some","stir"]) (k:=0) F.F fA λcdv A outer s H G E hr=>?_⟩,λds h=>bq ds h⟩
 rw[hb]
 exact (aw (a7 (i:=2) (SE.wv (cS (ot hes))) fA.nd) (aw (a7 (i:=3) (aS eB dW (aS eB dW (aS iz js (aS eB dW (aS jm oM (ah 0) ak) ak) (b4 ba dR (ah 2) (aS jm oM (ah 1) ak) (λ_ _=>rfl))) (aS iz js ak (ah 1))) (aS iz js ak (aS j6 Bi (ah 1) ak))) fA.nd)
  (aw (a7 (i:=3) (aS jm oM (ah 3) ak) fA.nd)
  (aB (aW (aS j6 Bi (aS jm oM (aS eB dW (aS iz js (ah 3) (ah 3)) (aS iz js ak (ah 1))) ak) ak))))))
def dq:aK ["script","k","cell","number","j"] ["script","k"] (av gJ):=⟨rfl,rfl,rfl,by decide +kernel,rfl,by decide +kernel,by decide +kernel⟩
def qh {f:Addr}{fd:FuncData}{cK dh:List D->FR}(F:k9 K mg "_law_box" gJ ["script","k"] f fd)(B:lB mg)(ij:gM P w K mg base ca "_law_cell" ["script","k"] 1 cK)(jh:gM P w K mg base ca "_law_mix" ["cell","k"] 1 dh):gM P w K mg base ca "_law_box" ["script","k"] 2 (b6 5 2 (gz cK dh)):=
 ⟨⟨f,fd,F.mg,F.F.kp,F.b,bK (N:=["script","k","cell","number","j"]) (k:=1) F.F dq λcdv A outer s H G E hr=>
  (aw (a7 (i:=2) (bu ij (hr.mono (by decide)) bp rfl rfl (ae (aM 0 rfl) (ae (aM 1 rfl) au))) dq.nd)
  (aw (gZ (cG (gq hr.units) jk (aS jm oM (ah 2) ak) ak (bO _))
  (aB (o4 (cS (ae (aS j6 Bi (aU yR Fp rfl B.abs (by decide +kernel) (ah 2)) ak) au))))
  dC)
  (aw (a7 (i:=3) ak dq.nd)
  (aw (g8 PassesOwn.leaving rfl (q8 rfl B.range ak) (i5 (i:=4) dq.nd)
  (aB (a7 (i:=3) (aS eB dW (aS iz js (ah 3) ak) (bu jh (hr.mono (by decide)) bp rfl rfl (ae (aM 2 rfl) (ae (aM 4 rfl) au)))) dq.nd)))
  (aB (o4 (cS (ae (aM 3 rfl) au))))))))⟩,λds h=>bq ds h⟩
def jE:aK ["box","many","left","digit"] ["box","many"] (av fE):=⟨rfl,rfl,rfl,by decide +kernel,rfl,by decide +kernel,by decide +kernel⟩
def nF {f:Addr}{fd:FuncData}(F:k9 K mg "_law_take" fE ["box","many"] f fd)(B:lB mg):jA P w K mg base "_law_take" ["box","many"] 1 bM:=by
 refine⟨⟨f,fd,F.mg,F.F.kp,F.b,?_⟩,λds β h=>?_⟩
 ·refine F.F.xF jE (λvs H Q E h=>?_) (λcdv A outer s H vs Q E hr h=>?_)
  ·obtain⟨b,rest,G,ds,β,rfl,hb,gb,sG,hl,r,_⟩:=h
   rw[Iv,r.len,hl];rfl
  ·obtain⟨b,rest,G,ds,β,rfl,hb,gb,sG,hl,r,h⟩:=h
   obtain⟨m,rfl,h0,h1⟩:=uR (λz=>by rw[z] at h;exact h)
   rw[pZ h0 h1] at h
   have kk:∀v G' H',fj (some b) H H'->H' b=some (.lst [.int (β / m)])->ag G G'->ag G' H'->(∀c,Mx H c->G c=none->G' c=none)->FV K H G' H' false (.int (β % m)) v->Q v H':=h
   cases r with
   |cons r1 r2=>
    cases r1
    cases r2
    refine⟨_,eT (nv (iw rF rfl B.divmod (by decide +kernel) (aI (i6 dQ (pv 0) mR (λ_ _=>rfl)) (aI (pv 1) bh))) (AZ (i:=2) (j:=3) jE.nd rfl rfl rfl rfl rfl))
     (eT (nv (pv 2) (sO (pv 0) mR set_list)) (fw (kN (pv 3)))),?_⟩
    refine⟨_,rfl,b,_,0,.int β,rfl,rfl,.inl (.inl hb),rfl,_,rfl,β,m,rfl,⟨h0,h1⟩,λp hp=>⟨p,_,rfl,.inl (.inl aq),rfl,_,_,rfl,_,_,rfl,rfl,?_⟩⟩
    have hbp:b≠p:=ax hb hp
    exact⟨_,rfl,_,rfl,b,[.int β],0,0,rfl,rfl,by rw[ao hbp];exact hb,rfl,_,rfl,ya hb sG hp kk gb⟩
 ·obtain⟨m,rfl,_⟩:=uR h
  rfl
def nO:aK ["thing"] ["thing"] (av dO):=⟨rfl,rfl,rfl,by decide +kernel,rfl,by decide +kernel,by decide +kernel⟩
def mX {f:Addr}{fd:FuncData}(F:k9 K mg "_law_whole" dO ["thing"] f fd)(B:lB mg):gM P w K mg base ca "_law_whole" ["thing"] 1 (b6 1 1 (jL)):=
 ⟨⟨f,fd,F.mg,F.F.kp,F.b,bK (N:=["thing"]) (k:=0) F.F nO λcdv A outer s H G E hr=>
  (aB (aW (gL (eG "int" (by decide) rfl rfl B.isinstance rfl B.int (by decide +kernel) (ah 0)) (gG (tE (eG "bool" (by decide) rfl rfl B.isinstance rfl B.bool (by decide +kernel) (ah 0)))) (λ_ _=>rfl))))⟩,λds h=>bq ds h⟩
def nJ:aK ["found","due"] ["found","due"] (av dJ):=⟨rfl,rfl,rfl,by decide +kernel,rfl,by decide +kernel,by decide +kernel⟩
def ml {f:Addr}{fd:FuncData}(F:k9 K mg "_law_truth" dJ ["found","due"] f fd)(B:lB mg):gM P w K mg base ca "_law_truth" ["found","due"] 1 (b6 2 2 (kc)):=
 ⟨⟨f,fd,F.mg,F.F.kp,F.b,bK (N:=["found","due"]) (k:=0) F.F nJ λcdv A outer s H G E hr=>
  (aB (aW (gL (eG "bool" (by decide) rfl rfl B.isinstance rfl B.bool (by decide +kernel) (ah 0)) (gG (lU (gq hr.units) jk (ah 0) (ah 1) (bO _))) (λ_ _=>rfl))))⟩,λds h=>bq ds h⟩
def hZ:aK ["box","some"] ["box"] (av gk):=⟨rfl,rfl,rfl,by decide +kernel,rfl,by decide +kernel,by decide +kernel⟩
def pX {f:Addr}{fd:FuncData}{ar:List D->Int->FB}(F:k9 K mg "_law_odd" gk ["box"] f fd)(B:lB mg)(ay:jA P w K mg base "_law_take" ["box","many"] 1 ar):jA P w K mg base "_law_odd" ["box"] 2 (kL 2 0 (gF ar)):=
 ⟨⟨f,fd,F.mg,F.F.kp,F.b,kj (ca:=λ_=>0) (N:=["box","some"]) (k:=1) F.F hZ (by decide) λcdv A outer s H G b E hr=>
  (@aw _ _ _ _ _ _ _ (@Fg _ _ _ 1 _ _ (ab (cst .none) (ab (cst (.bool true)) (ab (cst (.bool false)) (ab (cst (.int (-1))) (ab (cst (.int 0)) (ab (cst (.int 1)) (ab (cst (.str "")) (ab (cst (.str "1")) (ab (az af) (ab (bG af) (ab (az (ab (cst (.int 0)) af)) (ab (az (ab (cst (.int 1)) (ab (az af) af))) (ab (bG (ab (cst (.int 0)) af)) af))))))))))))) ([] ++ ([] ++ ([] ++ ([] ++ ([] ++ ([] ++ ([] ++ ([] ++ ([] ++ ([] ++ (([] ++ []) ++ (([] ++ ([] ++ [])) ++ (([] ++ []) ++ []))))))))))))) _ _ _ [] (by kernel_rfl) (λ_=>rfl) (by kernel_rfl) hZ.nd rfl (by first |exact Or.inl rfl |exact Or.inr rfl) (by first |exact .inl rfl |exact .inr rfl))
  (aw (a7 (i:=1) (SE.wv (aS pD xR (ah 1) (@yQ _ _ _ _ (ab (cst (.dict [(.str "a",.int 1)])) (ab (az (ab (cst (.int 0)) (ab (cst (.int 1)) af))) (ab (f2 (cst (.int 10)) (cst (.int 39)) xT) (ab (az (ab (az (ab (cst (.int 0)) (ab (cst (.int 1)) af))) af)) (ab (cst (.str "a")) af))))) ([] ++ (([] ++ ([] ++ [])) ++ ([] ++ ((([] ++ ([] ++ [])) ++ []) ++ ([] ++ []))))) _ [] (by kernel_rfl) (λ_=>rfl) (by kernel_rfl)))) hZ.nd)
  (aB (aW (b4 ba dR (ah 1) (fu 0 ay (hr.mono (by decide)) bp rfl rfl (ae ak au)) (λ_ _=>rfl))))))⟩,λds β h=>j5 ds β h⟩
def c8:aK ["box","some","left","found"] ["box","some"] (av cD):=⟨rfl,rfl,rfl,by decide +kernel,rfl,by decide +kernel,by decide +kernel⟩
def jW {f:Addr}{fd:FuncData}{ar:List D->Int->FB}(F:k9 K mg "_law_mixed_up" cD ["box","some"] f fd)(B:lB mg)(ay:jA P w K mg base "_law_take" ["box","many"] 1 ar):jA P w K mg base "_law_mixed_up" ["box","some"] 2 (kL 4 1 (cC ar)):=
 ⟨⟨f,fd,F.mg,F.F.kp,F.b,kj (ca:=λ_=>0) (N:=["box","some","left","found"]) (k:=1) F.F c8 (by decide) λcdv A outer s H G b E hr=>
  (aw (kl (i:=2) (j4 gS sJ rfl B.list (by decide +kernel) (ah 1)) c8.nd)
  (aw (kl (i:=3) (cS au) c8.nd)
  (aw (rg 1000 PassesOwn.leaving (cG (kW hr.units) jk (ah 2) (cS au) (bO _))
  (aB (xo 3 2 (λ_=>rfl) (fu 0 ay (hr.mono (by decide)) bp rfl rfl (ae (aU cw i8 rfl B.len JN (ah 2)) au)))))
  (aB (A8 3)))))⟩,λds β h=>j5 ds β h⟩
def aY:aK ["pairs","found","size","more","a","b"] ["pairs"] (av di):=⟨rfl,rfl,rfl,by decide +kernel,rfl,by decide +kernel,by decide +kernel⟩
def lu {f:Addr}{fd:FuncData}(F:k9 K mg "_law_closed" di ["pairs"] f fd)(B:lB mg):gM P w K mg base ca "_law_closed" ["pairs"] 1 (b6 6 1 (cB)):=
 ⟨⟨f,fd,F.mg,F.F.kp,F.b,bK (N:=["pairs","found","size","more","a","b"]) (k:=0) F.F aY λcdv A outer s H G E hr=>
  (aw (a7 (i:=1) (SE.wv (iH rfl hr.units rfl rfl B.sorted rfl B.set (ah 0))) aY.nd)
  (aw (a7 (i:=2) (Cd tx BV ak) aY.nd)
  (aw (rg 1000 PassesOwn.leaving (cG (kW hr.units) jk (ah 2) (aU cw i8 rfl B.len JN (ah 1)) (bO _))
  (aw (a7 (i:=2) (aU cw i8 rfl B.len JN (ah 1)) aY.nd)
  (aw (a7 (i:=3) (SE.wv (cS au)) aY.nd)
  (aw (g8 PassesOwn.leaving rfl (Dx rfl (aM 1 rfl)) (mj (i:=4) (j:=5) aY.nd)
  (aB (a7 (i:=3) (SE.wv (aS pD xR (ah 3) (jR (NB:=["c","d","b","a"]) (own:=2) (ixs:=[5,4]) [4] rfl (mJ (by kernel_rfl)) (λ_ _=>rfl) (As rfl (ah 1)) (λH0 G0 par br bx C ex s3 H3 pn=>(mj (i:=0) (j:=1) (show (["c","d","b","a"]:List Str).Nodup by decide +kernel))) (λH0 G0 par br bx C ex s3 H3 pn hB1=>(Bb (cG (gq hr.units) jk (ah 0) (ah 2) (bO _)))) (λH0 G0 par br bx C ex s3 H3 pn hB1=>(a9 (ae (aM 3 (hB1 3 (by decide))) (ae (aM 1 (hB1 1 (by decide))) au))))))) aY.nd)))
  (aB (a7 (i:=1) (SE.wv (iH rfl hr.units rfl rfl B.sorted rfl B.set (aS pD xR (ah 1) (ah 3)))) aY.nd))))))
  (aB (aW (j4 ja AB rfl B.tuple (by decide +kernel) (ah 1)))))))⟩,λds h=>bq ds h⟩
def bH:aK ["box","most","many","names","thin","pairs","i","j"] ["box","most"] (av dP):=⟨rfl,rfl,rfl,by decide +kernel,rfl,by decide +kernel,by decide +kernel⟩
def lT {f:Addr}{fd:FuncData}{aP:List D->FR}{ar bD:List D->Int->FB}(F:k9 K mg "_law_order" dP ["box","most"] f fd)(B:lB mg)(bX:gM P w K mg base ca "_law_closed" ["pairs"] 1 aP)(ay:jA P w K mg base "_law_take" ["box","many"] 1 ar)(dG:jA P w K mg base "_law_mixed_up" ["box","some"] 2 bD):jA P w K mg base "_law_order" ["box","most"] 3 (kL 8 1 (cO aP ar bD)):=
 ⟨⟨f,fd,F.mg,F.F.kp,F.b,kj (ca:=ca) (N:=["box","most","many","names","thin","pairs","i","j"]) (k:=2) F.F bH (by decide) λcdv A outer s H G b E hr=>
  (aw (a7 (i:=2) (aS eB dW ak (fu 0 ay (hr.mono (by decide)) bp rfl rfl (ae (aM 1 rfl) au))) bH.nd)
  (aw (a7 (i:=3) (fu 0 dG (hr.mono (by decide)) bp rfl rfl (ae (SE.wv (uE rfl rfl B.list rfl B.range (ah 2))) au)) bH.nd)
  (aw (a7 (i:=4) (b4 ba dR (cS (ae ak (ae ak (ae ak (ae ak au))))) (fu 0 ay (hr.mono (by decide)) bp rfl rfl (ae ak au)) (λ_ _=>rfl)) bH.nd)
  (aw (kl (i:=5) (cS au) bH.nd)
  (aw (g8 PassesOwn.leaving rfl (q8 rfl B.range (ah 2)) (i5 (i:=6) bH.nd)
  (aB (g8 PassesOwn.leaving rfl (ET rfl B.range (aS eB dW (ah 6) ak) (ah 2)) (i5 (i:=7) bH.nd)
  (aB (gZ (cG (gq hr.units) jk (fu 0 ay (hr.mono (by decide)) bp rfl rfl (ae (aM 4 rfl) au)) ak (bO _))
  (aB (kG 5 (λ_=>rfl) (a9 (ae (b4 ba dR (ah 3) (ah 6) (λ_ _=>rfl)) (ae (b4 ba dR (ah 3) (ah 7) (λ_ _=>rfl)) au)))))
  dC)))))
  (aB (aW (a9 (ae (aM 2 rfl) (ae (bu bX (hr.mono (by decide)) bp rfl rfl (ae (aM 5 rfl) au)) au))))))))))⟩,λds β h=>j5 ds β h⟩
def jd:aK ["many","pairs","pair"] ["many","pairs"] (av dM):=⟨rfl,rfl,rfl,by decide +kernel,rfl,by decide +kernel,by decide +kernel⟩
def l4 {f:Addr}{fd:FuncData}{aR aP:List D->FR}(F:k9 K mg "_law_pairs" dM ["many","pairs"] f fd)(B:lB mg)(cp:gM P w K mg base ca "_law_whole" ["thing"] 1 aR)(bX:gM P w K mg base ca "_law_closed" ["pairs"] 1 aP):gM P w K mg base ca "_law_pairs" ["many","pairs"] 2 (b6 3 2 (dN aR aP)):=
 ⟨⟨f,fd,F.mg,F.F.kp,F.b,bK (N:=["many","pairs","pair"]) (k:=1) F.F jd λcdv A outer s H G E hr=>
  (aw (g8 PassesOwn.leaving rfl (Dx rfl (aM 1 rfl)) (i5 (i:=2) jd.nd)
  (aw (gZ (xG.t (hV (e8 (fI rfl (eG "tuple" (by decide) rfl rfl B.isinstance rfl B.tuple (by decide +kernel) (ah 2)))) (hV (cG (kW hr.units) jk (aU cw i8 rfl B.len JN (ah 2)) ak (bO _)) (jB (e8 (fI rfl (aU (rS rfl) pz rfl B.all (by decide +kernel) (jR (NB:=["one"]) (own:=1) (ixs:=[]) [] rfl (mJ (by kernel_rfl)) (λ_ _=>rfl) (As rfl (ah 2)) (λH0 G0 par br bx C ex s3 H3 pn=>(i5 (i:=0) (show (["one"]:List Str).Nodup by decide +kernel))) (λH0 G0 par br bx C ex s3 H3 pn hB1=>lF) (λH0 G0 par br bx C ex s3 H3 pn hB1=>(bu cp (hr.mono (by decide)) BP rfl rfl (ae (aM 0 (hB1 0 (by decide))) au)))))))) (λ_ _=>rfl)) (λ_ _=>rfl)))
  (aB (aW hW))
  dC)
  (aB (gZ (xG.t (hV (cG (gq hr.units) jk (b4 ba dR (ah 2) ak (λ_ _=>rfl)) (b4 ba dR (ah 2) ak (λ_ _=>rfl)) (bO _)) (hV (cG vM Bd (aU (wm rfl) uX rfl B.min (by decide +kernel) (ah 2)) ak (bO _)) (jB (cG Et GX (aU (v7 rfl) uX rfl B.max (by decide +kernel) (ah 2)) (ah 0) (bO _))) (λ_ _=>rfl)) (λ_ _=>rfl)))
  (aB (aW hW))
  dC))))
  (aB (aW (gL (lU (gq hr.units) jk (j4 gS sJ rfl B.list (by decide +kernel) (ah 1)) (iH rfl hr.units rfl rfl B.sorted rfl B.set (ah 1)) (bO _)) (gG (lU (gq hr.units) jk (bu bX (hr.mono (by decide)) bp rfl rfl (ae (aM 1 rfl) au)) (ah 1) (bO _))) (λ_ _=>rfl)))))⟩,λds h=>bq ds h⟩
def kK:aK ["thing"] ["thing"] (av cz):=⟨rfl,rfl,rfl,by decide +kernel,rfl,by decide +kernel,by decide +kernel⟩
def kf {f:Addr}{fd:FuncData}{aR cc:List D->FR}(F:k9 K mg "_law_is_order" cz ["thing"] f fd)(B:lB mg)(cp:gM P w K mg base ca "_law_whole" ["thing"] 1 aR)(fY:gM P w K mg base ca "_law_pairs" ["many","pairs"] 2 cc):gM P w K mg base ca "_law_is_order" ["thing"] 3 (b6 1 1 (aN aR cc)):=
 ⟨⟨f,fd,F.mg,F.F.kp,F.b,bK (N:=["thing"]) (k:=2) F.F kK λcdv A outer s H G E hr=>
  (aw (gZ (xG.t (hV (e8 (fI rfl (eG "tuple" (by decide) rfl rfl B.isinstance rfl B.tuple (by decide +kernel) (ah 0)))) (hV (cG (kW hr.units) jk (aU cw i8 rfl B.len JN (ah 0)) ak (bO _)) (hV (e8 (fI rfl (bu cp (hr.mono (by decide)) bp rfl rfl (ae (b4 ba dR (ah 0) ak (λ_ _=>rfl)) au)))) (jB (e8 (yq rV rV zH zH ak (b4 ba dR (ah 0) ak (λ_ _=>rfl)) ak))) (λ_ _=>rfl)) (λ_ _=>rfl)) (λ_ _=>rfl)))
  (aB (aW hW))
  dC)
  (aB (aW (gL (eG "tuple" (by decide) rfl rfl B.isinstance rfl B.tuple (by decide +kernel) (b4 ba dR (ah 0) ak (λ_ _=>rfl))) (gG (bu fY (hr.mono (by decide)) bp rfl rfl (ae (b4 ba dR (ah 0) ak (λ_ _=>rfl)) (ae (b4 ba dR (ah 0) ak (λ_ _=>rfl)) au)))) (λ_ _=>rfl)))))⟩,λds h=>bq ds h⟩
def bR:aK ["box","order","odd","many","pairs","at","a","b","news","kind","some"] ["box","order","odd"] (av fy):=⟨rfl,rfl,rfl,by decide +kernel,rfl,by decide +kernel,by decide +kernel⟩
def nN {f:Addr}{fd:FuncData}{ar:List D->Int->FB}(F:k9 K mg "_law_bent" fy ["box","order","odd"] f fd)(B:lB mg)(ay:jA P w K mg base "_law_take" ["box","many"] 1 ar):jA P w K mg base "_law_bent" ["box","order","odd"] 2 (kL 11 2 (fB ar)):=
 ⟨⟨f,fd,F.mg,F.F.kp,F.b,kj (ca:=λ_=>0) (N:=["box","order","odd","many","pairs","at","a","b","news","kind","some"]) (k:=1) F.F bR (by decide) λcdv A outer s H G b E hr=>
  (aw (yg (aM 1 rfl) (mj (i:=3) (j:=4) bR.nd))
  (aw (a7 (i:=5) (fu 0 ay (hr.mono (by decide)) bp rfl rfl (ae (aS eB dW (aU cw i8 rfl B.len JN (ah 4)) ak) au)) bR.nd)
  (aw (yg (b4 ba dR (aS mq ub (kC rfl (ah 4) (lK (ah 5)) (lK (aS eB dW (ah 5) ak))) (a9 (ae (a9 (ae ak (ae (aS sC zI (ah 3) ak) au))) au))) ak (λ_ _=>rfl)) (mj (i:=6) (j:=7) bR.nd))
  (aw (kl (i:=8) (@yQ _ _ _ _ (ab (az af) (ab (az (ab (az (ab (gv 6) (ab (gv 7) af))) (ab (az (ab (gv 6) (ab (gv 7) af))) af))) (ab (az (ab (az (ab (gv 7) (ab (gv 6) af))) af)) (ab (az (ab (az (ab (gv 6) (ab (gv 6) af))) af)) (ab (az (ab (az (ab (gv 6) (ab (gv 3) af))) af)) (ab (az (ab (az (ab (cst (.bool false)) (ab (gv 7) af))) af)) (ab (az (ab (bG (ab (gv 6) (ab (gv 7) af))) af)) (ab (az (ab (gv 2) af)) (ab (az (ab (az (ab (gv 6) (ab (gv 7) (ab (cst (.int 0)) af)))) af)) af))))))))) ([] ++ ((([6] ++ ([7] ++ [])) ++ (([6] ++ ([7] ++ [])) ++ [])) ++ ((([7] ++ ([6] ++ [])) ++ []) ++ ((([6] ++ ([6] ++ [])) ++ []) ++ ((([6] ++ ([3] ++ [])) ++ []) ++ ((([] ++ ([7] ++ [])) ++ []) ++ ((([6] ++ ([7] ++ [])) ++ []) ++ (([2] ++ []) ++ ((([6] ++ ([7] ++ ([] ++ []))) ++ []) ++ []))))))))) _ [("odd",2),("a",6),("b",7),("many",3)] (by kernel_rfl) (λ_=>rfl) (by kernel_rfl)) bR.nd)
  (aw (kG 8 (λ_=>rfl) (a9 (ae (a9 (ae (fu 0 ay (hr.mono (by decide)) bp rfl rfl (ae (aM 3 rfl) au)) (ae (fu 0 ay (hr.mono (by decide)) bp rfl rfl (ae (aM 3 rfl) au)) au))) au)))
  (aw (a7 (i:=9) (fu 0 ay (hr.mono (by decide)) bp rfl rfl (ae ak au)) bR.nd)
  (aw (gZ (cG vM Bd (ah 9) ak (bO _))
  (aB (aW (a9 (ae (aM 3 rfl) (ae (aS mq ub (aS mq ub (kC rfl (ah 4) vP (lK (ah 5))) (b4 ba dR (ah 8) (ah 9) (λ_ _=>rfl))) (kC rfl (ah 4) (lK (aS eB dW (ah 5) ak)) vP)) au)))))
  dC)
  (aw (a7 (i:=10) (SE.wv (cS (ae (a9 (ae (aM 3 rfl) (ae (Ap rfl (ah 4)) au))) (ae (a9 (ae (aS sC zI (ah 3) ak) (ae (aM 4 rfl) au))) (ae (a9 (ae (aM 3 rfl) (ae (SE.wv (j4 gS sJ rfl B.list (by decide +kernel) (ah 4))) au))) (ae (a9 (ae (aM 3 rfl) (ae (aM 4 rfl) (ae (a9 au) au)))) (ae (SE.wv (cS (ae (aM 3 rfl) (ae (aM 4 rfl) au)))) au))))))) bR.nd)
  (aB (aW (b4 ba dR (ah 10) (aS sC zI (ah 9) ak) (λ_ _=>rfl))))))))))))⟩,λds β h=>j5 ds β h⟩
def gr:aK ["script","k","box","order","odd","things","turn","thing","kept"] ["script"] (av jc):=⟨rfl,rfl,rfl,by decide +kernel,rfl,by decide +kernel,by decide +kernel⟩
def Be {f:Addr}{fd:FuncData}{c7 cn df bE:List D->FR}{cj ar cZ cI:List D->Int->FB}(F:k9 K mg "law" jc ["script"] f fd)(B:lB mg)(ju:gM P w K mg base ca "_law_box" ["script","k"] 2 c7)(gP:gM P w K mg base ca "_law_truth" ["found","due"] 1 cn)(jz:gM P w K mg base ca "is_order" ["thing"] 4 df)(dF:gM P w K mg base ca "_law_is_order" ["thing"] 3 bE)(gN:jA P w K mg base "_law_order" ["box","most"] 3 cj)(ay:jA P w K mg base "_law_take" ["box","many"] 1 ar)(jq:jA P w K mg base "_law_odd" ["box"] 2 cZ)(iD:jA P w K mg base "_law_bent" ["box","order","odd"] 2 cI):dw P w K mg base (o5 P w) 5 f fd ["script"] (z6 K ca 1 (b6 9 1 (vi c7 cn df bE cj ar cZ cI))):=
 bK (N:=["script","k","box","order","odd","things","turn","thing","kept"]) (k:=4) F.F gr λcdv A outer s H G E hr=>
  (aw (g8 PassesOwn.leaving rfl (q8 rfl B.range (qJ (xu rfl) DS rfl B.max (by decide +kernel) ak (qJ (xC rfl) CN rfl B.min (by decide +kernel) (aU cw i8 rfl B.len JN (ah 0)) ak))) (i5 (i:=1) gr.nd)
  (aw (AN (i:=2) rfl (zr ju (hr.mono (by decide)) bp rfl rfl (ae (aM 0 rfl) (ae (aM 1 rfl) au))) gr.nd)
  (aw (a7 (i:=3) (fu 2 gN (hr.mono (by decide)) bp rfl rfl (ae (b4 ba dR (cS (ae ak (ae ak (ae ak (ae ak au))))) (fu 2 ay (hr.mono (by decide)) bp rfl rfl (ae ak au)) (λ_ _=>rfl)) au)) gr.nd)
  (aw (a7 (i:=4) (fu 2 jq (hr.mono (by decide)) bp rfl rfl au) gr.nd)
  (aw (kl (i:=5) (cS (ae (aM 3 rfl) (ae (aM 4 rfl) (ae (a9 (ae ak (ae (a9 au) au))) (ae (a9 (ae ak (ae (a9 au) au))) (ae (a9 (ae ak (ae (a9 au) au))) (ae (a9 (ae hW (ae (a9 au) au))) (ae (a9 (ae (b4 ba dR (ah 3) ak (λ_ _=>rfl)) (ae (aM 4 rfl) au))) (ae (a9 (ae (aS eB dW (b4 ba dR (ah 3) ak (λ_ _=>rfl)) ak) (ae (b4 ba dR (ah 3) ak (λ_ _=>rfl)) au))) au))))))))) gr.nd)
  (aw (g8 PassesOwn.leaving rfl (q8 rfl B.range ak) (i5 (i:=6) gr.nd)
  (aB (kG 5 (λ_=>rfl) (fu 2 iD (hr.mono (by decide)) bp rfl rfl (ae (aM 3 rfl) (ae (aM 4 rfl) au))))))
  (aB (g8 PassesOwn.leaving rfl (Dx rfl (aM 5 rfl)) (i5 (i:=7) gr.nd)
  (aw (a7 (i:=8) (aU (lQ hr.gd hr.u1) vG rfl B.repr (by decide +kernel) (ah 7)) gr.nd)
  (aB (gZ (xG.t (hV (e8 (fI rfl (bu gP (hr.mono (by decide)) bp rfl rfl (ae (bu jz (hr.mono (by decide)) bp rfl rfl (ae (aM 7 rfl) au)) (ae (bu dF (hr.mono (by decide)) bp rfl rfl (ae (aM 7 rfl) au)) au))))) (jB (cG E6 E3 (aU (lQ hr.gd hr.u1) vG rfl B.repr (by decide +kernel) (ah 7)) (ah 8) (bO _))) (λ_ _=>rfl)))
  (aB (aW hW))
  dC)))))))))))
  (aB (aW hW)))
end
end RQ
namespace RM
open PySem L2
def bb {t:VF Bool}{vs:List Nv}{β:Int}{a:Bool}(h:t vs β=.ok a β):qk t vs β=.ok (!a) β:=by rw[sL,h];rfl
def mO:D->Bool
 | .tuple _=>true
 |_=>false
theorem lI {d:D}(h:mO d=true):∃ds,d=.tuple ds:=by
 cases d with
 |tuple ds=>exact⟨ds,rfl⟩
 |_=>cases h
def rq {d:D}(h:bz d=false):dB "tuple" d=some (.bool (mO d)):=by
 unfold dB;rw[h];cases d <;> rfl
section
variable {fa fb:VF D}{vs:List Nv}{β:Int}
def qD {d:D}(ha:fa vs β=.ok d β)(h:bz d=false):qj (f1 fa (dB "tuple")) vs β=.ok (mO d) β:=mf (cJ ha (rq h))
def vT {l:List D}{f:D->Bool}(h:fa vs β=.ok (.list (l.map λq=>PyData.bool (f q))) β):f1 fa (eV λbs=>bs.all id) vs β=.ok (.bool (l.all f)) β:=by
 refine cJ h ?_
 simp only[eV]
 rw[iJ]
 simp[List.all_map]
def EL {ds:List D}(ha:fa vs β=.ok (.tuple ds) β):f1 fa dE vs β=.ok (.int ds.length) β:=cJ ha rfl
def oV {ds:List D}{k:Int}(ha:fa vs β=.ok (.tuple ds) β):fg (f2 (f1 fa dE) (cst (.int k)) (eM true)) vs β=.ok (!decide ((ds.length:Int)=k)) β:=iK (neg:=true) (EL ha) rfl
def i3 {t u:VF Bool}(h:t vs β=.ok true β):fZ t u vs β=.ok true β:=by rw[pQ,h];rfl
def b8 {t u:VF Bool}{c:Bool}(h:t vs β=.ok false β)(h':u vs β=.ok c β):fZ t u vs β=.ok c β:=by rw[pQ,h];exact h'
end
def Sq (c k:Nat)(d:D):Prop:=d.showable=true/\d.depth<=k/\d.shown.length<=c
def Sq.mono {c k c' k':Nat}{d:D}(h:Sq c k d)(h1:c<=c')(h2:k<=k'):Sq c' k' d:=⟨h.1,Ji h.2.1 h2,Ji h.2.2 h1⟩
theorem sI {c k:Nat}:∀{ds:List D},(∀d,d∈ds->Sq c k d)->PyData.showableAll ds=true/\PyData.depthAll ds<=k/\(∀t,t∈PyData.shownAll ds->t.length<=c)/\(PyData.shownAll ds).length=ds.length
 | [],_=>⟨by simp[PyData.showableAll],by simp[PyData.depthAll],λt h=>by simp[PyData.shownAll] at h,by simp[PyData.shownAll]⟩
 |d :: ds,h=>by
  obtain⟨h1,h2,h3,h4⟩:=sI λx hx=>h x (Ie _ hx)
  obtain⟨q1,q2,q3⟩:=h d (Ig ..)
  refine⟨?_,?_,λt ht=>?_,?_⟩
  ·rw[PyData.showableAll,q1,h1];rfl
  ·rw[PyData.depthAll];omega
  ·rw[PyData.shownAll] at ht
   rcases Ih.mp ht with rfl |ht
   ·exact q3
   ·exact h3 t ht
  ·rw[PyData.shownAll,Iv,Iv,h4]
theorem qu {c:Nat}:∀{ts:List Str},(∀t,t∈ts->t.length<=c)->(Str.join ", " ts).length<=(c + 2) * ts.length
 | [],_=>by show (Str.join ", " []).length<=_;exact IU _
 | [x],h=>by
  have:=h x (Ig ..)
  show x.length<=(c + 2) * 1
  omega
 |x :: y :: r,h=>by
  have ih:=qu (ts:=y :: r) λt ht=>h t (Ie _ ht)
  have:=h x (Ig ..)
  show (x ++ ", " ++ Str.join ", " (y :: r)).length<=_
  rw[Kv,Kv]
  have e2:((", ":String):Str).length=2:=rfl
  rw[e2]
  have e:(c + 2) * (x :: y :: r).length=(c + 2) * (y :: r).length + (c + 2):=by rw[Iv,Nat.mul_succ]
  omega
def gO {c k:Nat}{ds:List D}(h:∀d,d∈ds->Sq c k d):Sq (3 + (c + 2) * ds.length) (k + 1) (.tuple ds):=by
 obtain⟨h1,h2,h3,h4⟩:=sI h
 refine⟨by rw[PyData.showable];exact h1,by rw[PyData.depth];omega,?_⟩
 rw[PyData.shown]
 unfold tupleText
 rw[Kv,Kv]
 have j:=qu h3
 rw[h4] at j
 have e1:((("(":String):Str)).length=1:=rfl
 have e3:((if (PyData.shownAll ds).length == 1 then ",)" else ")":String):Str).length<=2:=by split <;> exact by decide
 rw[e1]
 omega
def tV {c k:Nat}{ds:List D}(h:∀d,d∈ds->Sq c k d):Sq (2 + (c + 2) * ds.length) (k + 1) (.list ds):=by
 obtain⟨h1,h2,h3,h4⟩:=sI h
 refine⟨by rw[PyData.showable];exact h1,by rw[PyData.depth];omega,?_⟩
 rw[PyData.shown]
 unfold listText
 rw[Kv]
 have:=zC (c:=c + 2) (PyData.shownAll ds) 0 "[" λt ht=>by have:=h3 t ht;omega
 rw[h4] at this
 have e1:((("[":String):Str)).length=1:=rfl
 have e2:((("]":String):Str)).length=1:=rfl
 rw[e1] at this
 rw[e2];omega
def Bf (d:D):Prop:=uQ d=true
theorem sM:∀{ds:List D},(∀d,d∈ds->Bf d)->uj ds=true
 | [],_=>rfl
 |d :: ds,h=>by
  have h1:=sM λx hx=>h x (Ie _ hx)
  have q1:uQ d=true:=h d (Ig ..)
  rw[uj,q1,h1];rfl
def h9 {ds:List D}(h:∀d,d∈ds->Bf d):Bf (.tuple ds):=by show uQ (.tuple ds)=true;rw[uQ];exact sM h
def tm {ds:List D}(h:∀d,d∈ds->Bf d):Bf (.list ds):=by show uQ (.list ds)=true;rw[uQ];exact sM h
def EH {c k:Nat}{d:D}(h:Sq c k d)(hc:c<=100000)(hk:k<=64)(hf:Bf d):x6 d=true:=by
 unfold x6
 have h1:d.depth<=64:=Ji h.2.1 hk
 have h2:d.shown.length<=sizeLine:=Ji (Ji h.2.2 hc) (by rw[IV];omega)
 rw[h.1,Ik h1,Ik h2]
 have b:uQ d=true:=hf
 rw[b,Bool.or_true];rfl
def Gk:List Int:=[-1,0,1,2,3,4,5,6,7,8,9]
def ye:∀i∈Gk,(int i).showable=true/\(int i).shown.length<=20:=by decide +kernel
def vh {i:Int}(h: -1<=i/\i<=9):i∈Gk:=by
 simp only[Gk,Ih,JW,or_false]
 omega
def wu (d:D):Prop:=d=.none\/(∃b,d=.bool b)\/∃i:Int,d=.int i/\ -1<=i/\i<=9
def wu.sq {d:D}(h:wu d):Sq 20 0 d:=by
 rcases h with rfl | ⟨b,rfl⟩ | ⟨i,rfl,h⟩
 ·exact⟨by simp[PyData.showable],by simp[PyData.depth],by rw[PyData.shown];decide⟩
 ·exact⟨by simp[PyData.showable],by simp[PyData.depth],by rw[PyData.shown];cases b <;> decide⟩
 ·exact⟨(ye i (vh h)).1,by simp[PyData.depth],(ye i (vh h)).2⟩
def wu.bf {d:D}(h:wu d):Bf d:=by
 rcases h with rfl | ⟨b,rfl⟩ | ⟨i,rfl,h⟩ <;> exact by simp[Bf,uQ]
def wu.scr {d:D}(h:wu d):bz d=false:=by
 rcases h with rfl | ⟨b,rfl⟩ | ⟨i,rfl,h⟩ <;> rfl
section
variable {vs:List Nv}{β β1 β2:Int}{fa:VF D}{fr:VF (List D)}{d:D}{ds:List D}
def ac {fa:VF D}{fr:VF (List D)}(h:fa vs β=.ok d β)(h':fr vs β=.ok ds β):ab fa fr vs β=.ok (d :: ds) β:=by rw[cu,h];dsimp only[R.bnd];rw[h']
def an:af vs β=.ok [] β:=rfl
def tp (h:fr vs β=.ok ds β)(hz:ds.length<=1000:=by simp):az fr vs β=.ok (.tuple ds) β:=iN h hz
def lp (h:fr vs β=.ok ds β)(hz:ds.length<=1000:=by simp):bG fr vs β=.ok (.list ds) β:=fG h hz
def ck (d:D):cst d vs β=.ok d β:=rfl
end
def Ec {vs:List Nv}{β:Int}:f2 (cst (.int 10)) (cst (.int 39)) xT vs β=.ok (.int 1000000000000000000000000000000000000000) β:=aG (x:=.int 10) (y:=.int 39) rfl rfl (by rfl)
def bL {P:D->Prop}{x y:D}(hx:P x)(hy:P y):∀d,d∈ [x,y]->P d:=λd hd=>by
 rcases Ih.mp hd with rfl |hd
 ·exact hx
 ·rw[I0] at hd;subst hd;exact hy
def fo {i:Int}(h: -1<=i/\i<=9):wu (.int i):=.inr (.inr ⟨i,rfl,h⟩)
def Ge (e:D):Prop:=bz e=false/\∀es,e=.tuple es->es.length<=100/\∀x,x∈es->bz x=false
def wU (n:Int):D->Bool
 | .tuple [x,y]=>eO x n && eO y n
 |_=>false
def Er {n:Int}{d:D}(h:wU n d=true):∃p:Pr,d=aA p/\(0<=p.1/\p.1 < n)/\(0<=p.2/\p.2 < n):=by
 unfold wU at h
 split at h
 ·rename_i x y
  rw[IE] at h
  cases x with
  |int a=>
   cases y with
   |int b=>exact⟨(a,b),rfl,Jn h.1,Jn h.2⟩
   |_=>cases h.2
  |_=>cases h.1
 ·cases h
def x8:List D->FR:=b6 2 2 (iP il)
theorem jo {es:List D}:(decide ((es.length:Int)=2)=false/\∀n,wU n (.tuple es)=false)\/∃x y,es= [x,y]:=by
 match es with
 | []=>exact .inl ⟨rfl,λ_=>rfl⟩
 | [_]=>exact .inl ⟨rfl,λ_=>rfl⟩
 | [x,y]=>exact .inr ⟨x,y,rfl⟩
 |_ :: _ :: _ :: _=>exact .inl ⟨Ir (by simp;omega),λ_=>rfl⟩
theorem Ff {d:D}{n:Int}(h:Ge d):x8 [d,.int n]=.ok (.bool (wU n d)) false:=by
 show fin (iP il [.fz d,.fz (.int n)] 0)=_
 unfold iP
 have g0:gv 0 (vl [.fz d,.fz (.int n)]) 0=.ok d 0:=rfl
 have t1:=qD g0 h.1
 cases hy:mO d with
 |false=>
  rw[hy] at t1
  rw[ki (d:=.bool false) (b:=false) (β':=0) ?a]
  ·cases d <;> first |rfl |cases hy
  case a=>rw[mB (i3 (bb t1))];rfl
 |true=>
  obtain⟨es,rfl⟩:=lI hy
  rw[hy] at t1
  have t2:=oV (k:=2) g0
  rcases jo (es:=es) with⟨q,z⟩ | ⟨x,y,rfl⟩
  ·rw[q] at t2
   rw[z n,ki (d:=.bool false) (b:=false) (β':=0) (by rw[mB (b8 (bb t1) t2)];rfl)];rfl
  ·rw[aH (env':=[.fz (.tuple [x,y]),.fz (.int n)]) (β':=0) (by rw[lg (b8 (bb t1) t2)];rfl)]
   have hx:=(h.2 _ rfl).2 x (Ig ..)
   have hy':=(h.2 _ rfl).2 y (Ie _ (Ig ..))
   have e1:aL il (ab (f2 (gv 0) (cst (.int 0)) cW) (ab (gv 1) af)) (vl [.fz (.tuple [x,y]),.fz (.int n)]) 0=.ok (.bool (eO x n)) 0:=aV (ds:=[x,.int n]) rfl (pK hx)
   have e2:aL il (ab (f2 (gv 0) (cst (.int 1)) cW) (ab (gv 1) af)) (vl [.fz (.tuple [x,y]),.fz (.int n)]) 0=.ok (.bool (eO y n)) 0:=aV (ds:=[y,.int n]) rfl (pK hy')
   rw[vJ,oW e1 e2];rfl
def z7:List D->FR:=b6 1 1 jL
def Eo {d:D}(h:bz d=false):z7 [d]=.ok (.bool (pN d)) false:=by
 have:=uO [d] (by rw[jN h];exact λz=>by cases z)
 rw[jN h] at this
 exact this
def Sp (p:Pr):Prop:=(0<=p.1/\p.1<=8)/\(0<=p.2/\p.2<=8)
def El (e:D):Prop:=Ge e/\Sq 100 8 e/\Bf e
def CZ {es:List D}(hl:es.length<=100)(h:∀x,x∈es->bz x=false):Ge (.tuple es):=⟨rfl,λes' e=>by cases e;exact⟨hl,h⟩⟩
def pA {es:List D}(hl:es.length<=3)(h:∀x,x∈es->wu x):El (.tuple es):=by
 refine⟨CZ (by omega) λx hx=>(h x hx).scr,(gO (c:=20) (k:=0) λd hd=>(h d hd).sq).mono ?_ (by omega),h9 λd hd=>(h d hd).bf⟩
 omega
def Aa {es:List D}(hl:es.length<=3)(h:∀x,x∈es->wu x):El (.list es):=by
 refine⟨⟨rfl,λes' e=>by cases e⟩,(tV (c:=20) (k:=0) λd hd=>(h d hd).sq).mono ?_ (by omega),tm λd hd=>(h d hd).bf⟩
 omega
def rY {p:Pr}(h:Sp p):El (aA p):=pA (es:=[.int p.1,.int p.2]) (by simp) (bL (fo (by have:=h.1;omega)) (fo (by have:=h.2;omega)))
def FH:D->Bool
 | .tuple es=>decide (es.length<=100) && es.all λx=> !bz x
 |_=>true
def fL:List D:=[.none,.bool true,.bool false,.int (-1),.int 0,.int 1,.str "",.str "1",.tuple [],.list [],.tuple [.int 0],.tuple [.int 1,.tuple []],.list [.int 0],.dict [(.str "a",.int 1)],.tuple [.int 0,.int 1],.int 1000000000000000000000000000000000000000,.tuple [.tuple [.int 0,.int 1]],.str "a"]
def AL:∀x∈fL,(x.showable=true/\x.depth<=5/\x.shown.length<=60)/\uQ x=true/\bz x=false/\FH x=true:=by decide +kernel
def qg {o:D}(h:o∈fL):El o:=by
 obtain⟨h1,h2,h3,h4⟩:=AL o h
 refine⟨⟨h3,λes e=>?_⟩,Sq.mono (c:=60) (k:=5) h1 (by omega) (by omega),h2⟩
 subst e
 have hb:(decide (es.length<=100) && es.all λx=> !bz x)=true:=h4
 rw[IE,Jh,JH] at hb
 exact⟨hb.1,λx hx=>by have:=hb.2 x hx;rwa [JQ] at this⟩
noncomputable def Dz:List D->Int->FB:=kL 2 0 (gF bM)
def E5 (β:Int):∃o β',Dz [] β=.ok o false β'/\o∈fL:=by
 show ∃o β',xD (gF bM [.bx,.no] β)=.ok o false β'/\o∈fL
 unfold gF
 rw[aH (env':=[.bx,.fz (.list (fL.take 13))]) (β':=β) ?a]
 case a=>
  rw[vv,lp (ds:=fL.take 13) (ac (ck _) (ac (ck _) (ac (ck _) (ac (ck _) (ac (ck _) (ac (ck _) (ac (ck _) (ac (ck _) (ac (tp an) (ac (lp an) (ac (tp (ac (ck _) an)) (ac (tp (ac (ck _) (ac (tp an) an))) (ac (lp (ac (ck _) an)) an))))))))))))) (by show (13:Nat)<=1000;omega)]
  rfl
 rw[aH (env':=[.bx,.fz (.list fL)]) (β':=β) ?b]
 case b=>
  rw[vv,aG (x:=.list (fL.take 13)) (y:=.list (fL.drop 13)) (d:=.list fL) (β1:=β) (β2:=β) rfl (lp (ds:=fL.drop 13) (ac (ck _) (ac (tp (ac (ck _) (ac (ck _) an))) (ac Ec (ac (tp (ac (tp (ac (ck _) (ac (ck _) an))) an)) (ac (ck _) an))))) (by show (5:Nat)<=1000;omega)) ?c]
  ·rfl
  case c=>rw[qe (by show (13 + 5:Nat)<=10000;omega)];rfl
 obtain⟨j,hj,ej⟩:=cT (m:=18) (by omega) (by omega) β
 have hlen:fL.length=18:=rfl
 obtain⟨o,ho⟩:∃o,fL[j]? =some o:=⟨_,HU (by omega)⟩
 have e:f2 (gv 1) (iY 0 bM (ab (cst (.int 18)) af)) cW (vl [.bx,.fz (.list fL)]) β=.ok o (β / ((18:Nat):Int)):=aG (x:=.list fL) (y:=.int j) rfl (cN (ds:=[.int 18]) (by rfl) rfl ej) (show jb fL (j:Int)=some o from dm ho)
 rw[vJ,e]
 exact⟨o,_,rfl,Ij ho⟩
noncomputable def CF:List D->FR:=b6 2 2 kc
def Ft (b:Bool):CF [.bool b,.bool b]=.ok (.bool true) false:=by cases b <;> rfl
def yL {a b:List D}(h:a.length + b.length<=1000):lq (.tuple a) (.tuple b)=some (.tuple (a ++ b)):=HV (by rw[IV];omega)
def yV {fa fb:VF D}{vs:List Nv}{β:Int}{ds:List D}{i:Nat}(ha:fa vs β=.ok (.tuple ds) β)(hb:fb vs β=.ok (.int ((i:Nat):Int)) β):kq fa (sv fb) (λ_ β=>.ok none β) vs β=.ok (.tuple (ds.drop i)) β:=by
 unfold kq sv
 rw[ha];dsimp only[R.bnd]
 rw[hb];dsimp only[R.bnd]
 congr 2
 unfold cutD
 rw[HT.qK,HT.vf]
 by_cases h:i<=ds.length
 ·rw[Kx h];exact JB (by rw[Km];omega)
 ·rw[Nat.min_eq_right (by omega),List.drop_length,List.drop_of_length_le (by omega)];simp
def yF {fa fb:VF D}{vs:List Nv}{β:Int}{ds:List D}{i:Nat}(ha:fa vs β=.ok (.tuple ds) β)(hb:fb vs β=.ok (.int ((i:Nat):Int)) β):kq fa (λ_ β=>.ok none β) (sv fb) vs β=.ok (.tuple (ds.take i)) β:=by
 unfold kq sv
 rw[ha];dsimp only[R.bnd]
 rw[hb];dsimp only[R.bnd]
 congr 2
 unfold cutD
 rw[HT.qK,HT.vf]
 by_cases h:i<=ds.length
 ·rw[Kx h];rfl
 ·rw[Nat.min_eq_right (by omega),JB (show ds.length<=i by omega)];simp
structure WP (r:SO)(Q:SO->Prop):Prop where
 out:Q r
section
variable {m m' m1 m2:SF}{env env1:En}{β β1 β2 z:Int}{Q:SO->Prop}{f fa fb:VF D}{t:VF Bool}{d e:D}{L La Lb:List Nat}{i j:Nat}{c:Bool}
def wp_at (env1:En)(e:env=env1)(k:WP (m env1 β) Q):WP (m env β) Q:=by rw[e];exact k
def wp_seq (h:m env β=.nx env1 β1)(k:WP (m' env1 β1) Q):WP (aF m m' env β) Q:=by rw[aH h];exact k
theorem tO (h:WP (aF m n0 env β) Q):WP (m env β) Q:=by
 obtain⟨h⟩:=h
 unfold aF at h
 cases e:m env β with
 |_=>rw[e] at h;exact⟨h⟩
def vt (q:Q (.nx env β)):WP (n0 env β) Q:=⟨q⟩
def iu (h:f (vl env) β=.ok d β1)(k:WP (m' ((aO L env).set i (.fz d)) β1) Q):WP (aF (bJ i L f) m' env β) Q:=wp_seq (by unfold bJ;rw[h];rfl) k
def uU (h:f (vl env) β=.ok d β1)(k:WP (m' ((aO L env).set i (.ow d)) β1) Q):WP (aF (j8 i L f) m' env β) Q:=wp_seq (by unfold j8;rw[h];rfl) k
def An (h:f (vl env) β=.ok (.list [.int z]) β1)(k:WP (m' ((nV (aO L env)).set i .bx) z) Q):WP (aF (vK i L f) m' env β) Q:=wp_seq (by unfold vK;rw[h];rfl) k
def wp_bind {t:Tg}(h:f (vl env) β=.ok d β1)(hb:cM t d (aO L env)=some env1)(k:WP (m' env1 β1) Q):WP (aF (qW t L f) m' env β) Q:=wp_seq (by unfold qW;rw[h];dsimp only[toS];rw[hb]) k
def zF {ds:List D}(hi:env[i]? =some (.ow (.list ds)))(h:f (vl env) β=.ok d β1)(hL:(aO L env)[i]? =some (.ow (.list ds)))(hz:ds.length<=1000)(k:WP (m' ((aO L env).set i (.ow (.list (ds ++ [d])))) β1) Q):WP (aF (nG i L f) m' env β) Q:=wp_seq (vb hi h hL hz) k
def iR (h:t (vl env) β=.ok false β1)(k:WP (m' (aO L env) β1) Q):WP (aF (kZ L t m1 n0) m' env β) Q:=wp_seq (by rw[lg h];rfl) k
def cg (h:t (vl env) β=.ok true β1)(k:WP (aF m1 m' (aO L env) β1) Q):WP (aF (kZ L t m1 m2) m' env β) Q:=by
 have:aF (kZ L t m1 m2) m' env β=aF m1 m' (aO L env) β1:=by unfold aF;rw[mB h]
 rw[this];exact k
def Gj (h:t (vl env) β=.ok true β1)(k:WP (m1 (aO L env) β1) Q):WP (kZ L t m1 m2 env β) Q:=by rw[mB h];exact k
def GQ (h:t (vl env) β=.ok false β1)(k:WP (m2 (aO L env) β1) Q):WP (kZ L t m1 m2 env β) Q:=by rw[lg h];exact k
def kT (h:f (vl env) β=.ok d β1)(q:Q (.rt d false β1)):WP (bQ f env β) Q:=⟨by unfold bQ;rw[h];exact q⟩
def cm (h:f (vl env) β=.ok d β1)(q:Q (.rt d false β1)):WP (aF (bQ f) m' env β) Q:=⟨by unfold aF bQ;rw[h];exact q⟩
def eR {R:FR}(h:WP (m env β) λr=>fin r=R):fin (m env β)=R:=h.out
def tD {t:Tg}{fi:VF (List D)}{ds:List D}(I:Nat->En->Int->Prop)(hi:fi (vl env) β=.ok ds β1)(h0:I 0 (aO L env) β1)
  (hs:∀i d env β,ds[i]? =some d->I i env β->∃env1,cM t d env=some env1/\WP (m env1 β) λr=>∃env2 β2,r=.nx env2 β2/\I (i + 1) env2 β2)
  (k:∀env β,I ds.length env β->WP (m' env β) Q):WP (aF (dH t L fi m) m' env β) Q:=by
 obtain⟨env',β',e,h⟩:=fT (t:=t) (m:=m) I (ds:=ds) (k:=0) h0 λi d env β hd h=>by
  rw[Jq] at h
  obtain⟨env1,e1,⟨env2,β2,e2,h2⟩⟩:=hs i d env β hd h
  exact⟨env1,e1,env2,β2,e2,by rw[Jq];exact h2⟩
 rw[Jq] at h
 exact wp_seq ((iF hi).trans e) (k _ _ h)
end
def ze (c:Int)(hc:0<=c/\c<=100)(ns:List Int)(vs:List Nv)(β:Int)(h:gv 0 vs β=.ok (b7 ns) β):∃m:Nat,m<=101/\j9 (f2 (cst (.int 1)) (f2 (f1 (gv 0) dE) (cst (.int c)) (uk λi j=>.int (if j < i then j else i))) (uk λi j=>.int (if j > i then j else i))) vs β=.ok (cx 0 m) β:=by
 have e1:f2 (cst (.int 1)) (f2 (f1 (gv 0) dE) (cst (.int c)) (uk λi j=>.int (if j < i then j else i))) (uk λi j=>.int (if j > i then j else i)) vs β=.ok (.int (if (if c < ((ns.map int).length:Int) then c else ((ns.map int).length:Int)) > 1 then (if c < ((ns.map int).length:Int) then c else ((ns.map int).length:Int)) else 1)) β:=
  aG (x:=.int 1) rfl (aG (x:=.int (ns.map int).length) (y:=.int c) (cJ h rfl) rfl rfl) rfl
 generalize ((ns.map int).length:Nat)=k at e1
 refine⟨(if (if c < (k:Int) then c else (k:Int)) > 1 then (if c < (k:Int) then c else (k:Int)) else 1).toNat,?_,l9 (e1.trans ?_) ?_⟩
 ·split <;> split <;> omega
 ·congr 2
  split <;> split <;> omega
 ·split <;> split <;> omega
def pe {ds:List D}{k:Nat}(h:k < ds.length):∃d,ds[k]? =some d/\d∈ds/\jb ds (k:Int)=some d:=⟨ds[k],HU h,JI h,dm (HU h)⟩
def Ei {fa fb:VF D}{vs:List Nv}{β:Int}{ds:List D}{i:Nat}(ha:fa vs β=.ok (.tuple ds) β)(hb:fb vs β=.ok (.int (i:Nat)) β):kq fa (λ_ β=>.ok none β) (sv fb) vs β=.ok (.tuple (ds.take i)) β:=yF ha hb
def EG {fa fb:VF D}{vs:List Nv}{β:Int}{ds:List D}{i:Nat}(ha:fa vs β=.ok (.tuple ds) β)(hb:fb vs β=.ok (.int (i:Nat)) β):kq fa (sv fb) (λ_ β=>.ok none β) vs β=.ok (.tuple (ds.drop i)) β:=yV ha hb
def zR {fa fb:VF D}{vs:List Nv}{β β1 β2:Int}{a b:List D}(h1:fa vs β=.ok (.tuple a) β1)(h2:fb vs β1=.ok (.tuple b) β2)(hz:a.length + b.length<=1000):f2 fa fb lq vs β=.ok (.tuple (a ++ b)) β2:=aG h1 h2 (yL hz)
def FX {fa:VF D}{vs:List Nv}{β:Int}{i:Nat}(h:fa vs β=.ok (.int (i:Nat)) β):f2 fa (cst (.int 1)) bS vs β=.ok (.int ((i + 1:Nat):Int)) β:=aG h rfl (by show some (int ((i:Int) + 1))=_;rw[show ((i + 1:Nat):Int)=(i:Int) + 1 by omega])
section
variable {m m' m1 m2:SF}{env env1:En}{β β1 β2 z:Int}{Q:SO->Prop}{f fa fb:VF D}{t:VF Bool}{d e:D}{L La Lb:List Nat}{i j:Nat}{c:Bool}
def A6 {t:Tg}{fi:VF (List D)}{ds:List D}(g:D->Bool)(r:D)(I:En->Int->Prop)(hi:fi (vl env) β=.ok ds β1)(h0:I (aO L env) β1)
  (hs:∀d,d∈ds->∀env β,I env β->∃env1,cM t d env=some env1/\WP (m env1 β) λs=>(g d=true/\∃β2,s=.rt r false β2)\/(g d=false/\∃env2 β2,s=.nx env2 β2/\I env2 β2))
  (kr:∀d β,d∈ds->g d=true->Q (.rt r false β)) (k:(∀d,d∈ds->g d=false)->∀env β,I env β->WP (m' env β) Q):WP (aF (dH t L fi m) m' env β) Q:=by
 have key:∀(es:List D),(∀d,d∈es->d∈ds)->∀env β,I env β->(∃d β2,d∈es/\g d=true/\jv t m es env β=.rt r false β2)\/((∀d,d∈es->g d=false)/\∃env2 β2,jv t m es env β=.nx env2 β2/\I env2 β2):=by
  intro es
  induction es with
  |nil=>exact λ_ env β h=>.inr ⟨(λd hd=>by cases hd),env,β,rfl,h⟩
  |cons d es ih=>
   intro hd env β h
   obtain⟨env1,e1,⟨h1⟩⟩:=hs d (hd d (Ig ..)) env β h
   rcases h1 with⟨hg,β2,e2⟩ | ⟨hg,env2,β2,e2,h2⟩
   ·exact .inl ⟨d,β2,Ig ..,hg,by unfold jv;rw[e1];dsimp only;rw[e2]⟩
   ·have e3:jv t m (d :: es) env β=jv t m es env2 β2:=by conv=>lhs;unfold jv;rw[e1];dsimp only;rw[e2]
    rw[e3]
    rcases ih (λd h=>hd d (Ie _ h)) env2 β2 h2 with⟨d',β3,hm,hg',e4⟩ | ⟨hn,env3,β3,e4,h3⟩
    ·exact .inl ⟨d',β3,Ie _ hm,hg',e4⟩
    ·exact .inr ⟨λd' hd'=>(Ih.mp hd').elim (λe=>e▸hg) (hn d'),env3,β3,e4,h3⟩
 rcases key ds (λ_ h=>h) _ _ h0 with⟨d,β2,hm,hg,e⟩ | ⟨hn,env2,β2,e,h2⟩
 ·exact⟨by rw[ki ((iF hi).trans e)];exact kr d β2 hm hg⟩
 ·exact wp_seq ((iF hi).trans e) (k hn _ _ h2)
end
def gV {n:Nat}{l:List Pr}{d:D}(h8:n<=8)(w:OM.Wn n l)(hd:kh d=some (l.map aA)):aZ d=some (.list ((OM.aX n (OM.Mem l)).map aA)):=by
 unfold aZ
 rw[hd]
 simp only[eN]
 rw[Fm h8 w,HV (DW h8 w)]
noncomputable def ie:List D->FR:=b6 6 1 cB
def Cb {n:Nat}{ps:List Pr}(h8:n<=8)(w:OM.Wn n ps){d:D}(hd:kh d=some (ps.map aA)):ie [d]=.ok (.tuple ((OM.aX n (OM.Tr (OM.Mem ps))).map aA)) false:=by
 have blen:∀{l:List Pr},OM.BR n ps l->l.length<=64:=λ{l} B=>by
  have:=OM.nh (l:=l) (m:=OM.eQ n) (OM.iW B.ris) λx hx=>OM.fO.mpr (B.wn x hx)
  have hg:(OM.eQ n).length=n * n:=by unfold OM.eQ;simp
  have hn:n * n<=64:=JX h8 h8
  omega
 show fin (cB [.fz d,.no,.no,.no,.no,.no] 0)=_
 unfold cB
 have B0:=OM.xf (ps:=ps) w
 have e0:f1 (gv 0) aZ [.da d,.no,.no,.no,.no,.no] 0=.ok (.list ((OM.aX n (OM.Mem ps)).map aA)) 0:=cJ rfl (gV h8 w hd)
 rw[aH (env':=[.fz d,.fz (.list ((OM.aX n (OM.Mem ps)).map aA)),.no,.no,.no,.no]) (β':=0) ?h0]
 case h0=>
  show toS (f1 (gv 0) aZ [.da d,.no,.no,.no,.no,.no] 0) _=_
  rw[e0];rfl
 rw[aH (env':=[.fz d,.fz (.list ((OM.aX n (OM.Mem ps)).map aA)),.fz (.int (-1)),.no,.no,.no]) (β':=0) (by rfl)]
 obtain⟨env',β',ew,rfl,x,sz,a,b,rfl⟩:=jj (L:=[] ++ []) (t:=fg (f2 (gv 2) (f1 (gv 1) dE) (eM true)))
  (m:=aF (bJ 2 [] (f1 (gv 1) dE)) (aF (bJ 3 [] (bG af)) (aF (dH (.two 4 5) [1] (eY (gv 1)) (bJ 3 ([] ++ ([] ++ [4])) (f2 (gv 3) (b5 2 [5,4] (.two 0 1) (eY (gv 1)) (fg (f2 (gv 0) (gv 2) (eM false))) (az (ab (gv 3) (ab (gv 1) af)))) jt))) (bJ 1 ([] ++ []) (f1 (f2 (gv 1) (gv 3) jt) aZ)))))
  (λk env β=>β=0/\∃(l:List Pr) (sz:Int) (x a b:Sl),env= [.fz d,.fz (.list (l.map aA)),.fz (.int sz),x,a,b]/\OM.BR n ps l/\(sz= -1\/∃lp,OM.BR n ps lp/\l=OM.iy n lp/\sz=lp.length)/\k=2 * (64 - l.length) + (if sz=l.length then 0 else 1))
  (λenv β=>β=0/\∃(x sz a b:Sl),env= [.fz d,.fz (.list ((OM.aX n (OM.Tr (OM.Mem ps))).map aA)),sz,x,a,b])
  (n:=1000) (k:=2 * (64 - (OM.aX n (OM.Mem ps)).length) + (if (-1:Int)=(OM.aX n (OM.Mem ps)).length then 0 else 1)) (env:=[.fz d,.fz (.list ((OM.aX n (OM.Mem ps)).map aA)),.fz (.int (-1)),.no,.no,.no]) (β:=0)
  (by split <;> omega) ⟨rfl,_,_,_,_,_,rfl,B0,.inl rfl,rfl⟩ (by
   rintro k env β ⟨rfl,l,sz,x,a,b,rfl,B,hsz,rfl⟩
   have hl:=blen B
   have et:fg (f2 (gv 2) (f1 (gv 1) dE) (eM true)) [.da d,.da (.list (l.map aA)),.da (.int sz),x.val,a.val,b.val] 0=.ok (!decide (sz=((l.map aA).length:Nat))) 0:=iK (neg:=true) rfl rfl
   rw[IC] at et
   refine⟨_,_,et,?_⟩
   by_cases c:sz=(l.length:Nat)
   ·refine .inl ⟨by rw[Ik c];rfl,rfl,x,.fz (.int sz),a,b,?_⟩
    rcases hsz with h | ⟨lp,Bp,rfl,h⟩
    ·omega
    ·show [Sl.fz d,.fz (.list ((OM.iy n lp).map aA)),.fz (.int sz),x,a,b]=_
     rw[OM.zK Bp (by omega)]
   ·refine .inr ⟨by rw[Ir c];rfl,?_⟩
    obtain⟨B2,hs⟩:=OM.qU B
    have hl2:=blen B2
    have hge:l.length<=(OM.iy n l).length:=OM.nh (OM.iW B.ris) hs
    have eturn:∃x' a' b':Sl,aF (bJ 2 [] (f1 (gv 1) dE)) (aF (bJ 3 [] (bG af)) (aF (dH (.two 4 5) [1] (eY (gv 1)) (bJ 3 ([] ++ ([] ++ [4])) (f2 (gv 3) (b5 2 [5,4] (.two 0 1) (eY (gv 1)) (fg (f2 (gv 0) (gv 2) (eM false))) (az (ab (gv 3) (ab (gv 1) af)))) jt))) (bJ 1 ([] ++ []) (f1 (f2 (gv 1) (gv 3) jt) aZ)))) [.fz d,.fz (.list (l.map aA)),.fz (.int sz),x,a,b] 0
      =.nx [.fz d,.fz (.list ((OM.iy n l).map aA)),.fz (.int (l.length:Nat)),x',a',b'] 0:=by
     rw[aH (env':=[.fz d,.fz (.list (l.map aA)),.fz (.int (l.length:Nat)),x,a,b]) (β':=0) ?g1]
     case g1=>
      show SO.nx [.fz d,.fz (.list (l.map aA)),.fz (.int ((l.map aA).length:Nat)),x,a,b] 0=_
      rw[IC]
     have e3:bG af [.da d,.da (.list (l.map aA)),.da (.int (l.length:Nat)),x.val,a.val,b.val] 0=.ok (.list []) 0:=fG rfl (by simp)
     rw[aH (env':=[.fz d,.fz (.list (l.map aA)),.fz (.int (l.length:Nat)),.fz (.list []),a,b]) (β':=0) ?g2]
     case g2=>
      show toS (bG af [.da d,.da (.list (l.map aA)),.da (.int (l.length:Nat)),x.val,a.val,b.val] 0) _=_
      rw[e3];rfl
     obtain⟨env2,β2,ef,rfl,a2,b2,rfl⟩:=fT (t:=.two 4 5) (m:=bJ 3 ([] ++ ([] ++ [4])) (f2 (gv 3) (b5 2 [5,4] (.two 0 1) (eY (gv 1)) (fg (f2 (gv 0) (gv 2) (eM false))) (az (ab (gv 3) (ab (gv 1) af)))) jt)) (ds:=l.map aA) (k:=0)
      (λi env β=>β=0/\∃a b:Sl,env= [.fz d,.fz (.list (l.map aA)),.fz (.int (l.length:Nat)),.fz (.list (((l.take i).flatMap (su l)).map aA)),a,b]) (env:=[.fz d,.fz (.list (l.map aA)),.fz (.int (l.length:Nat)),.fz (.list []),a,b]) (β:=0) ⟨rfl,a,b,rfl⟩ (by
       rintro i d0 env β hi ⟨rfl,a,b,rfl⟩
       rw[Ip] at hi
       cases q:l[i]? with
       |none=>rw[q] at hi;cases hi
       |some p=>
        rw[q] at hi
        cases hi
        have hil:i < l.length:=(Im.mp q).1
        refine⟨[.fz d,.fz (.list (l.map aA)),.fz (.int (l.length:Nat)),.fz (.list (((l.take (0 + i)).flatMap (su l)).map aA)),.fz (.int p.1),.fz (.int p.2)],rfl,[.fz d,.fz (.list (l.map aA)),.fz (.int (l.length:Nat)),.fz (.list (((l.take (0 + i + 1)).flatMap (su l)).map aA)),.fz (.int p.1),.fz (.int p.2)],0,?_,rfl,_,_,rfl⟩
        have ec:b5 2 [5,4] (.two 0 1) (eY (gv 1)) (fg (f2 (gv 0) (gv 2) (eM false))) (az (ab (gv 3) (ab (gv 1) af))) [.da d,.da (.list (l.map aA)),.da (.int (l.length:Nat)),.da (.list (((l.take (0 + i)).flatMap (su l)).map aA)),.da (.int p.1),.da (.int p.2)] 0=.ok (.list ((su l p).map aA)) 0:=by
         rw[tw (l:=l) (e:=aA) (λq=>decide (q.1=p.2)) (λq=>aA (p.1,q.2)) rfl (by omega) (β1:=0)]
         ·unfold su;rw[K7];rfl
         ·intro q hq
          refine⟨_,rfl,iK (neg:=false) (i:=q.1) (j:=p.2) rfl rfl,λ_=>?_⟩
          exact iN (ds:=[.int p.1,.int q.2]) rfl (by simp)
        have hk:(l.take (0 + i)).length<=64:=by rw[Jf];omega
        have hfl:=qq l (l.take (0 + i))
        have hfl2:(l.take (0 + i)).length * l.length<=64 * 64:=JX hk (by omega)
        have hm1:=uY l p
        have e5:f2 (gv 3) (b5 2 [5,4] (.two 0 1) (eY (gv 1)) (fg (f2 (gv 0) (gv 2) (eM false))) (az (ab (gv 3) (ab (gv 1) af)))) jt [.da d,.da (.list (l.map aA)),.da (.int (l.length:Nat)),.da (.list (((l.take (0 + i)).flatMap (su l)).map aA)),.da (.int p.1),.da (.int p.2)] 0=.ok (.list (((l.take (0 + i + 1)).flatMap (su l)).map aA)) 0:=by
         refine aG rfl ec ?_
         rw[qe (by rw[IC,IC];omega),<-KA]
         have:l.take (0 + i + 1)=l.take (0 + i) ++ [p]:=by rw[Jq,JP,q];rfl
         rw[this,List.flatMap_append,List.flatMap_cons,List.flatMap_nil,JS]
        show toS (f2 (gv 3) (b5 2 [5,4] (.two 0 1) (eY (gv 1)) (fg (f2 (gv 0) (gv 2) (eM false))) (az (ab (gv 3) (ab (gv 1) af)))) jt [.da d,.da (.list (l.map aA)),.da (.int (l.length:Nat)),.da (.list (((l.take (0 + i)).flatMap (su l)).map aA)),.da (.int p.1),.da (.int p.2)] 0) _=_
        rw[e5];rfl)
     rw[Jq,IC,JB (HX _)] at ef
     rw[aH (env':=[.fz d,.fz (.list (l.map aA)),.fz (.int (l.length:Nat)),.fz (.list ((l.flatMap (su l)).map aA)),a2,b2]) (β':=0) ?g3]
     case g3=>exact ef
     have hfl:=qq l l
     have hfl2:l.length * l.length<=64 * 64:=JX (by omega) (by omega)
     have e6:f1 (f2 (gv 1) (gv 3) jt) aZ [.da d,.da (.list (l.map aA)),.da (.int (l.length:Nat)),.da (.list ((l.flatMap (su l)).map aA)),a2.val,b2.val] 0=.ok (.list ((OM.iy n l).map aA)) 0:=by
      refine cJ (x:=.list ((l ++ OM.more l).map aA)) (aG rfl rfl ?_) (gV h8 (OM.yZ B) rfl)
      rw[qe (by rw[IC,IC];omega),<-KA];rfl
     refine⟨.fz (.list ((l.flatMap (su l)).map aA)),a2,b2,?_⟩
     show toS (f1 (f2 (gv 1) (gv 3) jt) aZ [.da d,.da (.list (l.map aA)),.da (.int (l.length:Nat)),.da (.list ((l.flatMap (su l)).map aA)),a2.val,b2.val] 0) _=_
     rw[e6];rfl
    obtain⟨x',a',b',et2⟩:=eturn
    refine⟨_,_,_,et2,?_,rfl,_,_,_,_,_,rfl,B2,.inr ⟨l,B,rfl,rfl⟩,rfl⟩
    rw[HY c]
    split <;> omega)
 rw[aH ew]
 rfl
noncomputable def Bz:List D->FR:=b6 3 1 (aQ eZ x8 bF eJ)
def Fe (p:Pr):Ge (aA p):=⟨rfl,λes e=>by cases e;exact⟨by simp,λx hx=>by simp at hx;rcases hx with rfl |rfl <;> rfl⟩⟩
def B8 {n:Nat}{p:Pr}(h:(0<=p.1/\p.1 < n)/\(0<=p.2/\p.2 < n)):wU n (aA p)=true:=by
 show (eO (.int p.1) n && eO (.int p.2) n)=true
 rw[IE];exact⟨Ik h.1,Ik h.2⟩
open Classical in
theorem Bm {n:Nat}{l:List Pr}(h1:1<=n)(h8:n<=8)(wn:OM.Wn n l)(hl:l.length<=100):Bz [bW n l]=.ok (.bool (decide (OM.Ord n l))) false:=by
 show fin (aQ eZ x8 bF eJ [.fz (bW n l),.no,.no] 0)=_
 unfold aQ
 rw[aH (env':=[.fz (bW n l),.no,.no]) (β':=0) (by rfl)]
 rw[aH (env':=[.fz (bW n l),.fz (.int n),.no]) (β':=0) (by rfl)]
 rw[aH (env':=[.fz (bW n l),.fz (.int n),.fz (.tuple (l.map aA))]) (β':=0) (by rfl)]
 have e4:aL eZ (ab (gv 1) af) [.da (bW n l),.da (.int n),.da (.tuple (l.map aA))] 0=.ok (.bool true) 0:=aV rfl (yz h1 h8)
 rw[aH (env':=[.fz (bW n l),.fz (.int n),.fz (.tuple (l.map aA))]) (β':=0) ?h4]
 case h4=>
  refine lg ?_
  show fZ (qk (qj (aL eZ (ab (gv 1) af)))) _ [.da (bW n l),.da (.int n),.da (.tuple (l.map aA))] 0=_
  rw[pQ,sL,uz,e4]
  rfl
 have e5:b5 1 [1] (.nm 0) (eY (gv 2)) xi (aL x8 (ab (gv 0) (ab (gv 1) af))) [.da (bW n l),.da (.int n),.da (.tuple (l.map aA))] 0=.ok (.list (l.map λ_=>PyData.bool true)) 0:=by
  refine mZ (l:=l) (e:=aA) (λ_=>PyData.bool true) rfl (by omega) λp hp=>⟨_,rfl,?_⟩
  refine aV (b:=false) (ds:=[aA p,.int n]) rfl ?_
  rw[Ff (Fe p),B8 (wn p hp)]
 rw[aH (env':=[.fz (bW n l),.fz (.int n),.fz (.tuple (l.map aA))]) (β':=0) ?h5]
 case h5=>
  refine lg ?_
  show qk (qj (f1 (b5 1 [1] (.nm 0) (eY (gv 2)) xi (aL x8 (ab (gv 0) (ab (gv 1) af)))) (eV λbs=>bs.all id))) [.da (bW n l),.da (.int n),.da (.tuple (l.map aA))] 0=_
  rw[sL,uz,cJ (d:=.bool true) e5 (by simp only[eV];rw[iJ];simp)]
  rfl
 have e6:aL bF (ab (gv 1) (ab (gv 2) af)) [.da (bW n l),.da (.int n),.da (.tuple (l.map aA))] 0=.ok (.tuple ((OM.aX n (OM.Tr (OM.Mem l))).map aA)) 0:=aV rfl (by rw[yv h1 h8 wn])
 have e7:aL eJ (ab (gv 2) af) [.da (bW n l),.da (.int n),.da (.tuple (l.map aA))] 0=.ok (.bool (l.any λp=>decide (p.1=p.2))) 0:=aV rfl (by unfold eJ;simp only[eN];rw[HV (by omega)])
 show fin (toS (fH (f2 (gv 2) (aL bF (ab (gv 1) (ab (gv 2) af))) (eM false)) (f1 (aL eJ (ab (gv 2) af)) xA) [.da (bW n l),.da (.int n),.da (.tuple (l.map aA))] 0) _)=_
 unfold fH
 rw[aG (d:=.bool (decide (l=OM.aX n (OM.Tr (OM.Mem l))))) (x:=.tuple (l.map aA)) rfl e6 (by rw[rT];simp)]
 dsimp only[R.bnd]
 by_cases c:l=OM.aX n (OM.Tr (OM.Mem l))
 ·rw[Ik c]
  dsimp only
  rw[cJ (d:=.bool (!(l.any λp=>decide (p.1=p.2)))) e7 rfl]
  have key:(!(l.any λp=>decide (p.1=p.2)))=decide (OM.Ord n l):=by
   rw[Jz,JQ,Jh,List.any_eq_false]
   constructor
   ·intro h
    refine⟨h1,h8,wn,?_,λa ha=>h (a,a) ha (by simp),λa b d hab hbd=>?_⟩
    ·rw[c];exact OM.mI _ (OM.l8 n)
    ·rw[c]
     exact OM.aJ.mpr ⟨⟨(wn _ hab).1,(wn _ hbd).2⟩,.more hab (.one hbd)⟩
   ·intro O p hp he
    have he:=Jn he
    obtain⟨a,b⟩:=p
    simp only at he
    subst he
    exact O.irr a hp
  rw[key];rfl
 ·rw[Ir c,Ir λO=>c O.closed.symm]
  rfl
def D4 (x:D):Prop:=bz x=false/\∀qs,x=.tuple qs->qs.length<=100/\∀q,q∈qs->Ge q
def Gd (d:D):Prop:=bz d=false/\∀es,d=.tuple es->∀x,x∈es->D4 x
theorem sZ {n:Nat}:∀{ds:List D},ds.all (wU n)=true->∃ps:List Pr,ds=ps.map aA/\OM.Wn n ps
 | [],_=>⟨[],rfl,λr h=>by cases h⟩
 |d :: ds,h=>by
  rw[KY,IE] at h
  obtain⟨p,rfl,hp⟩:=Er h.1
  obtain⟨ps,rfl,hs⟩:=sZ h.2
  exact⟨p :: ps,rfl,λq hq=>(Ih.mp hq).elim (λe=>by rw[e];exact hp) (hs q)⟩
def Cq (n:Int)(q:D):Bool:= !(wU n q) || (match q with | .tuple [.int a,.int b]=>decide (a=b) |_=>false)
def min2 (a b:Int):fK tK (.tuple [.int a,.int b])=some (.int (if b < a then b else a)):=by
 show some (int (tK [a,b]))=_
 unfold tK
 simp only[argBest,Iv,JR]
 by_cases h:b < a
 ·simp[argBest,h]
 ·simp[argBest,h]
def max2 (a b:Int):fK uF (.tuple [.int a,.int b])=some (.int (if b > a then b else a)):=by
 show some (int (uF [a,b]))=_
 unfold uF
 by_cases h:b > a
 ·simp[argBest,h]
 ·simp[argBest,h]
noncomputable def DO:List D->FR:=b6 3 2 (dN z7 ie)
def qr {n:Int}{q:D}(h:wU n q=false):Cq n q=true:=by unfold Cq;rw[h];rfl
theorem uA {x:D}(h:pN x=true):∃a,x=.int a:=by cases x with
 |int a=>exact⟨a,rfl⟩
 |_=>cases h
theorem BW {x:D}{n:Int}(h:pN x=false):eO x n=false:=by cases x with
 |int a=>cases h
 |_=>rfl
def xV {n:Nat}{qs:List D}{v:Bool}(h8:n<=8)(hl:qs.length<=100)(hg:∀q,q∈qs->Ge q)(hv1:∀q,q∈qs->Cq n q=true->v=false)
  (hv2:(∀q,q∈qs->Cq n q=false)->∀l:List Pr,qs=l.map aA->OM.Wn n l->v=(decide (l=OM.aX n (OM.Mem l)) && decide (OM.aX n (OM.Tr (OM.Mem l))=l))):DO [.int n,.tuple qs]=.ok (.bool v) false:=by
 show fin (dN z7 ie [.fz (.int n),.fz (.tuple qs),.no] 0)=_
 refine eR ?_
 unfold dN
 refine A6 (Cq n) (.bool false) (λenv β=>∃s,env= [.fz (.int n),.fz (.tuple qs),s]/\β=0) (ds:=qs) rfl ⟨.no,rfl,rfl⟩ ?_ (λq β hq hb=>?_) (λhn env β ⟨s,e,eb⟩=>?_)
 ·rintro q hq env β ⟨s,rfl,rfl⟩
  refine⟨[.fz (.int n),.fz (.tuple qs),.fz q],rfl,?_⟩
  have h:=hg q hq
  have g0:gv 2 (vl [.fz (.int n),.fz (.tuple qs),.fz q]) 0=.ok q 0:=rfl
  have t1:=qD g0 h.1
  cases hy:mO q with
  |false=>
   rw[hy] at t1
   exact cg (i3 (bb t1)) (cm rfl (.inl ⟨qr (by cases q <;> first |rfl |cases hy),_,rfl⟩))
  |true=>
   obtain⟨es,rfl⟩:=lI hy
   rw[hy] at t1
   have t2:=oV (k:=2) g0
   rcases jo (es:=es) with⟨q,z⟩ | ⟨x,y,rfl⟩
   ·rw[q] at t2
    exact cg (b8 (bb t1) (i3 t2)) (cm rfl (.inl ⟨qr (z n),_,rfl⟩))
   ·have hx:=(h.2 _ rfl).2 x (Ig ..)
    have hy':=(h.2 _ rfl).2 y (Ie _ (Ig ..))
    have ea:=vT (oG (own:=1) (ixs:=[]) (t:=.nm 0) (fi:=eY (gv 2)) (fe:=aL z7 (ab (gv 0) af)) (vs:=vl [.fz (.int n),.fz (.tuple qs),.fz (.tuple [x,y])]) (β:=0) (ds:=[x,y]) (λe=>PyData.bool (pN e)) rfl (by simp) λe he=>⟨[.da e],rfl,aV (ds:=[e]) rfl (Eo (by
     rcases Ih.mp he with rfl |he
     ·exact hx
     ·rw[I0] at he;rw[he];exact hy'))⟩)
    cases hw: [x,y].all pN with
    |false=>
     rw[hw] at ea
     refine cg (b8 (bb t1) (b8 t2 (bb (mf ea)))) (cm rfl (.inl ⟨qr ?_,_,rfl⟩))
     show (eO x n && eO y n)=false
     simp only[KY,List.all_nil,Bool.and_true] at hw
     rcases Bool.and_eq_false_iff.mp hw with w |w
     ·rw[BW w];rfl
     ·rw[BW w,Bool.and_false]
    |true=>
     rw[hw] at ea
     simp only[KY,List.all_nil,Bool.and_true,IE] at hw
     obtain⟨a,rfl⟩:=uA hw.1
     obtain⟨b,rfl⟩:=uA hw.2
     refine iR (b8 (bb t1) (b8 t2 (bb (mf ea)))) ?_
     have u1:fg (f2 (f2 (gv 2) (cst (.int 0)) cW) (f2 (gv 2) (cst (.int 1)) cW) (eM false)) (vl [.fz (.int n),.fz (.tuple qs),.fz (.tuple [.int a,.int b])]) 0=.ok (decide (a=b)) 0:=iK (neg:=false) rfl rfl
     have u2:fg (f2 (f1 (gv 2) (fK tK)) (cst (.int 0)) xM) (vl [.fz (.int n),.fz (.tuple qs),.fz (.tuple [.int a,.int b])]) 0=.ok (decide ((if b < a then b else a) < 0)) 0:=g9 _ _ _ _ (aG (cJ (x:=.tuple [.int a,.int b]) rfl (min2 a b)) rfl rfl)
     have u3:fg (f2 (f1 (gv 2) (fK uF)) (gv 0) FZ) (vl [.fz (.int n),.fz (.tuple qs),.fz (.tuple [.int a,.int b])]) 0=.ok (decide ((n:Int)<=(if b > a then b else a))) 0:=g9 _ _ _ _ (aG (cJ (x:=.tuple [.int a,.int b]) rfl (max2 a b)) rfl rfl)
     have lb:Cq n (.tuple [.int a,.int b])=(decide (a=b) || (decide ((if b < a then b else a) < 0) || decide ((n:Int)<=(if b > a then b else a)))):=by
      show (!(decide (0<=a/\a < (n:Int)) && decide (0<=b/\b < (n:Int))) || decide (a=b))=_
      rw[Jz]
      simp only[Bool.or_eq_true,JQ,Bool.and_eq_false_iff,Jh,decide_eq_false_iff_not]
      constructor
      ·rintro ((h |h) |h)
       ·by_cases e:a=b
        ·exact .inl e
        ·right;split <;> split <;> omega
       ·by_cases e:a=b
        ·exact .inl e
        ·right;split <;> split <;> omega
       ·exact .inl h
      ·rintro (h |h |h)
       ·exact .inr h
       ·left;split at h <;> omega
       ·left;split at h <;> omega
     have tt:fZ (fg (f2 (f2 (gv 2) (cst (.int 0)) cW) (f2 (gv 2) (cst (.int 1)) cW) (eM false))) (fZ (fg (f2 (f1 (gv 2) (fK tK)) (cst (.int 0)) xM)) (fg (f2 (f1 (gv 2) (fK uF)) (gv 0) FZ))) (vl [.fz (.int n),.fz (.tuple qs),.fz (.tuple [.int a,.int b])]) 0=.ok (Cq n (.tuple [.int a,.int b])) 0:=by
      rw[lb]
      cases q1:decide (a=b) with
      |true=>rw[q1] at u1;exact i3 u1
      |false=>
       rw[q1] at u1
       refine b8 u1 ?_
       cases q2:decide ((if b < a then b else a) < 0) with
       |true=>rw[q2] at u2;exact i3 u2
       |false=>rw[q2] at u2;exact b8 u2 u3
     cases q3:Cq n (.tuple [.int a,.int b]) with
     |true=>rw[q3] at tt;exact Gj tt (kT rfl (.inl ⟨rfl,_,rfl⟩))
     |false=>rw[q3] at tt;exact GQ tt (vt (.inr ⟨rfl,_,_,rfl,_,rfl,rfl⟩))
 ·rw[hv1 q hq hb];rfl
 ·subst e;subst eb
  obtain⟨l,rfl,w⟩:=sZ (n:=n) (ds:=qs) (by
   rw[JH]
   intro q hq
   cases z:wU n q with
   |true=>rfl
   |false=>rw[<-hn q hq,qr z])
  have e1:f2 (f1 (gv 1) si) (f1 (gv 1) aZ) (eM false) (vl [.fz (.int n),.fz (.tuple (l.map aA)),s]) 0=.ok (.bool (decide (l=OM.aX n (OM.Mem l)))) 0:=aG (x:=.list (l.map aA)) (cJ (x:=.tuple (l.map aA)) rfl rfl) (cJ (x:=.tuple (l.map aA)) rfl (gV h8 w rfl)) (by rw[zw];simp)
  have e2:f2 (aL ie (ab (gv 1) af)) (gv 1) (eM false) (vl [.fz (.int n),.fz (.tuple (l.map aA)),s]) 0=.ok (.bool (decide (OM.aX n (OM.Tr (OM.Mem l))=l))) 0:=aG (aV (ds:=[.tuple (l.map aA)]) rfl (Cb h8 w rfl)) rfl (by rw[rT];simp)
  refine kT (oW e1 e2) ?_
  rw[hv2 hn l rfl w];rfl
def Aj {n:Nat}{l:List Pr}(h1:1<=n)(h8:n<=8)(w:OM.Wn n l)(irr:∀a,(a,a)∉l):(l=OM.aX n (OM.Mem l)/\OM.aX n (OM.Tr (OM.Mem l))=l)↔OM.Ord n l:=by
 constructor
 ·rintro⟨_,h⟩
  refine⟨h1,h8,w,?_,irr,λa b d hab hbd=>?_⟩
  ·rw[<-h];exact OM.bV _ _
  ·rw[<-h]
   exact OM.aJ.mpr ⟨⟨(w _ hab).1,(w _ hbd).2⟩,.more hab (.one hbd)⟩
 ·intro O
  refine⟨OM.fD O.ris (OM.bV _ _) λx=>?_,O.closed⟩
  rw[OM.aJ]
  exact⟨λh=>⟨w x h,h⟩,λh=>h.2⟩
noncomputable def Ak:List D->FR:=b6 1 1 (aN z7 DO)
theorem yU {x:D}(h:uN x=true):∃n:Nat,x=.int n/\1<=n/\n<=8:=by
 cases x with
 |int i=>
  have h:=Jn (show decide (1<=i/\i<=8)=true from h)
  exact⟨i.toNat,by rw[Int.toNat_of_nonneg (by omega)],by omega,by omega⟩
 |_=>cases h
theorem C4 {d:D}(h:Gd d):∃b,Bz [d]=.ok (.bool b) false/\Ak [d]=.ok (.bool b) false:=by
 have g1:gv 0 (vl [.fz d,.no,.no]) 0=.ok d 0:=rfl
 have g2:gv 0 (vl [.fz d]) 0=.ok d 0:=rfl
 have t1:=qD g1 h.1
 have t2:=qD g2 h.1
 cases hy:mO d with
 |false=>
  rw[hy] at t1 t2
  refine⟨false,?_,?_⟩
  ·show fin (aQ eZ x8 bF eJ [.fz d,.no,.no] 0)=_
   refine eR ?_
   unfold aQ
   exact cg (i3 (bb t1)) (cm rfl rfl)
  ·show fin (aN z7 DO [.fz d] 0)=_
   refine eR ?_
   unfold aN
   exact cg (i3 (bb t2)) (cm rfl rfl)
 |true=>
  obtain⟨es,rfl⟩:=lI hy
  rw[hy] at t1 t2
  have u1:=oV (k:=2) g1
  have u2:=oV (k:=2) g2
  rcases jo (es:=es) with⟨q,z⟩ | ⟨x,y,rfl⟩
  ·rw[q] at u1 u2
   refine⟨false,?_,?_⟩
   ·show fin (aQ eZ x8 bF eJ [.fz (.tuple es),.no,.no] 0)=_
    refine eR ?_
    unfold aQ
    exact cg (b8 (bb t1) u1) (cm rfl rfl)
   ·show fin (aN z7 DO [.fz (.tuple es)] 0)=_
    refine eR ?_
    unfold aN
    exact cg (b8 (bb t2) (i3 u2)) (cm rfl rfl)
  ·have hx:=(h.2 _ rfl) x (Ig ..)
   have hy':=(h.2 _ rfl) y (Ie _ (Ig ..))
   have em:=bb (mf (aV (F:=eZ) (fr:=ab (gv 1) af) (vs:=vl [.fz (.tuple [x,y]),.fz x,.fz y]) (β:=0) (ds:=[x]) rfl (sU hx.1)))
   have eu:=bb (qD (fa:=gv 2) (vs:=vl [.fz (.tuple [x,y]),.fz x,.fz y]) (β:=0) (d:=y) rfl hy'.1)
   have ey:f1 (f2 (gv 0) (cst (.int 1)) cW) (dB "tuple") (vl [.fz (.tuple [x,y])]) 0=.ok (.bool (mO y)) 0:=cJ (x:=y) rfl (rq hy'.1)
   have top:∀{m':SF} {Q:SO->Prop},WP (m' [.fz (.tuple [x,y]),.fz x,.fz y] 0) Q->WP (aF (kZ ([] ++ ([] ++ [])) (fZ (qk (qj (f1 (gv 0) (dB "tuple")))) (fg (f2 (f1 (gv 0) dE) (cst (.int 2)) (eM true)))) (bQ (cst (.bool false))) n0) (aF (bJ 1 ([] ++ []) (f2 (gv 0) (cst (.int 0)) cW)) (aF (bJ 2 ([] ++ []) (f2 (gv 0) (cst (.int 1)) cW)) m')) [.fz (.tuple [x,y]),.no,.no] 0) Q:=λk=>
    iR (b8 (bb t1) u1) (iu (d:=x) (aG (x:=.tuple [x,y]) (y:=.int 0) rfl rfl rfl) (iu (d:=y) (aG (x:=.tuple [x,y]) (y:=.int 1) rfl rfl rfl) k))
   have ew:qk (qj (aL z7 (ab (f2 (gv 0) (cst (.int 0)) cW) af))) (vl [.fz (.tuple [x,y])]) 0=.ok (!pN x) 0:=bb (mf (aV (ds:=[x]) rfl (Eo hx.1)))
   cases hm:uN x with
   |false=>
    rw[hm] at em
    refine⟨false,?_,?_⟩
    ·show fin (aQ eZ x8 bF eJ [.fz (.tuple [x,y]),.no,.no] 0)=_
     refine eR ?_
     unfold aQ
     exact top (cg (i3 em) (cm rfl rfl))
    ·show fin (aN z7 DO [.fz (.tuple [x,y])] 0)=_
     refine eR ?_
     unfold aN
     cases hw:pN x with
     |false=>
      rw[hw] at ew
      exact cg (b8 (bb t2) (b8 u2 (i3 ew))) (cm rfl rfl)
     |true=>
      rw[hw] at ew
      obtain⟨i,rfl⟩:=uA hw
      have ec:=bb (g9 _ _ _ _ (jK (lo:=1) (i:=i) (n:=8) (fa:=cst (.int 1)) (fb:=f2 (gv 0) (cst (.int 0)) cW) (fc:=cst (.int 8)) (g':=tQ) (vs:=vl [.fz (.tuple [.int i,y])]) (β:=0) (q:=decide (i<=8)) rfl rfl rfl rfl))
      rw[show (decide (1<=i) && decide (i<=8))=false by rw[<-K1];exact hm] at ec
      exact cg (b8 (bb t2) (b8 u2 (b8 ew ec))) (cm rfl rfl)
   |true=>
    rw[hm] at em
    obtain⟨n,rfl,n1,n8⟩:=yU hm
    have ec:=bb (g9 _ _ _ _ (jK (lo:=1) (i:=(n:Int)) (n:=8) (fa:=cst (.int 1)) (fb:=f2 (gv 0) (cst (.int 0)) cW) (fc:=cst (.int 8)) (g':=tQ) (vs:=vl [.fz (.tuple [.int n,y])]) (β:=0) (q:=decide ((n:Int)<=8)) rfl rfl rfl rfl))
    rw[show (decide (1<=(n:Int)) && decide ((n:Int)<=8))=true by rw[<-K1];exact hm] at ec
    have lw:∀{b:Bool},(mO y=false->b=false)->(mO y=true->DO [.int n,y]=.ok (.bool b) false)->Ak [.tuple [.int n,y]]=.ok (.bool b) false:=λ{b} k1 k2=>by
     show fin (aN z7 DO [.fz (.tuple [.int n,y])] 0)=_
     refine eR ?_
     unfold aN
     refine iR (b8 (bb t2) (b8 u2 (b8 ew ec))) ?_
     cases hz:mO y with
     |false=>
      rw[hz] at ey
      refine kT (d:=.bool false) (β1:=0) ?_ (by rw[k1 hz];rfl)
      unfold fH
      show L2.R.bnd (f1 (f2 (gv 0) (cst (.int 1)) cW) (dB "tuple") (vl [.fz (.tuple [.int n,y])]) 0) _=_
      rw[ey];rfl
     |true=>
      rw[hz] at ey
      exact kT (oW ey (aV (ds:=[.int n,y]) rfl (k2 hz))) rfl
    cases hz:mO y with
    |false=>
     rw[hz] at eu
     refine⟨false,?_,lw (λ_=>rfl) λq=>by rw[hz] at q;cases q⟩
     show fin (aQ eZ x8 bF eJ [.fz (.tuple [.int n,y]),.no,.no] 0)=_
     refine eR ?_
     unfold aQ
     exact top (cg (b8 em eu) (cm rfl rfl))
    |true=>
     obtain⟨qs,rfl⟩:=lI hz
     obtain⟨hl,hg⟩:=hy'.2 _ rfl
     rw[hz] at eu
     have ea:=vT (oG (own:=1) (ixs:=[1]) (t:=.nm 0) (fi:=eY (gv 2)) (fe:=aL x8 (ab (gv 0) (ab (gv 1) af))) (vs:=vl [.fz (.tuple [.int n,.tuple qs]),.fz (.int n),.fz (.tuple qs)]) (β:=0) (ds:=qs) (λe=>PyData.bool (wU n e)) rfl (by omega) λe he=>⟨[.da e,.da (.int n)],rfl,aV (ds:=[e,.int n]) rfl (Ff (hg e he))⟩)
     cases hp:qs.all (wU n) with
     |false=>
      rw[hp] at ea
      refine⟨false,?_,lw (λ_=>rfl) λ_=>xV n8 hl hg (λ_ _ _=>rfl) λhn=>?_⟩
      ·show fin (aQ eZ x8 bF eJ [.fz (.tuple [.int n,.tuple qs]),.no,.no] 0)=_
       refine eR ?_
       unfold aQ
       exact top (iR (b8 em eu) (cg (bb (mf ea)) (cm rfl rfl)))
      ·obtain⟨q,hq,hb⟩:=List.all_eq_false.mp hp
       have:=hn q hq
       rw[qr (by simpa using hb)] at this
       cases this
     |true=>
      obtain⟨l,rfl,w⟩:=sZ hp
      rw[IC] at hl
      classical
      refine⟨decide (OM.Ord n l),(Bm n1 n8 w hl).trans (by congr 2),lw (λq=>by cases q) λ_=>xV n8 (by rw[IC];exact hl) hg (λq hq hb=>?_) λhn l' e' w'=>?_⟩
      ·obtain⟨p,hp',rfl⟩:=Iz.mp hq
       have hb:(!(wU n (aA p)) || decide (p.1=p.2))=true:=hb
       rw[B8 (w p hp')] at hb
       have hb:=Jn (show decide (p.1=p.2)=true from hb)
       refine Ir λO=>O.irr p.1 ?_
       have:p=(p.1,p.1):=Prod.ext rfl hb.symm
       rw[<-this];exact hp'
      ·have el:l=l':=by
        have:∀{a b:List Pr},a.map aA=b.map aA->a=b:=λ{a}=>by
         induction a with
         |nil=>intro b e;cases b with
          |nil=>rfl
          |cons _ _=>cases e
         |cons p a ih=>intro b e;cases b with
          |nil=>cases e
          |cons q b=>
           simp only[Jp,List.cons.injEq] at e
           obtain⟨e1,e2⟩:=e
           have:p=q:=by
            obtain⟨a1,a2⟩:=p
            obtain⟨b1,b2⟩:=q
            simp only[aA] at e1
            cases e1;rfl
           rw[this,ih e2]
        exact this e'
       subst el
       rw[<-K1]
       have irr:∀a,(a,a)∉l:=λa ha=>by
        have:=hn _ (Iz.mpr ⟨_,ha,rfl⟩)
        have this:(!(wU n (aA (a,a))) || decide (a=a))=false:=this
        simp at this
       rw[Jz,Jh,Jh]
       exact (Aj n1 n8 w irr).symm
def AY {fa:VF D}{fr:VF (List D)}{vs:List Nv}{β β1 β2:Int}{d:D}{ds:List D}(h:fa vs β=.ok d β1)(h':fr vs β1=.ok ds β2):ab fa fr vs β=.ok (d :: ds) β2:=by rw[cu,h];dsimp only[R.bnd];rw[h']
def BM {fa fb fc:VF D}{vs:List Nv}{β:Int}{ds:List D}{i j:Nat}(ha:fa vs β=.ok (.tuple ds) β)(hb:fb vs β=.ok (.int ((i:Nat):Int)) β)(hc:fc vs β=.ok (.int ((j:Nat):Int)) β):kq fa (sv fb) (sv fc) vs β=.ok (.tuple ((ds.drop (min i ds.length)).take (min j ds.length - min i ds.length))) β:=by
 unfold kq sv
 rw[ha];dsimp only[R.bnd]
 rw[hb];dsimp only[R.bnd]
 rw[hc];dsimp only[R.bnd]
 congr 2
def Tk (d:D):Prop:=Gd d/\Sq 40000 10 d/\Bf d
def Tk.rp {d:D}(h:Tk d):mN d=some (.str d.shown):=HV (EH h.2.1 (by omega) (by omega) h.2.2)
def lH {qs:List D}(hl:qs.length<=100)(h:∀q,q∈qs->Ge q):D4 (.tuple qs):=⟨rfl,λes e=>by cases e;exact⟨hl,h⟩⟩
def lM (i:Int):D4 (.int i):=⟨rfl,λes e=>by cases e⟩
def sY {n:Nat}(h:n<=9):Sq 20 0 (.int n):=(fo (by omega)).sq
def uw {n:Nat}(h:n<=9):Bf (.int n):=wu.bf (fo (by omega))
def iM {n:Nat}{qs:List D}(hn:n<=9)(hl:qs.length<=70)(h:∀q,q∈qs->El q):Tk (.tuple [.int n,.tuple qs]):=by
 have s2:Sq 8000 9 (.tuple qs):=(gO (c:=100) (k:=8) λd hd=>(h d hd).2.1).mono (by have:(100 + 2) * qs.length<=102 * 70:=JX (by omega) hl;omega) (by omega)
 refine⟨⟨rfl,λes e=>?_⟩,(gO (c:=8000) (k:=9) (ds:=[.int n,.tuple qs]) (bL ((sY hn).mono (by omega) (by omega)) s2)).mono (by simp) (by omega),h9 (bL (uw hn) (h9 λd hd=>(h d hd).2.2))⟩
 cases e
 exact bL (lM _) (lH (by omega) λq hq=>(h q hq).1)
def vY {l:List Pr}(h:∀p,p∈l->Sp p):∀q,q∈l.map aA->El q:=λq hq=>by
 obtain⟨p,hp,rfl⟩:=Iz.mp hq
 exact rY (h p hp)
noncomputable def zt:List D->Int->FB:=kL 11 2 (fB bM)
def oE (n:Nat)(a b:Int)(o:D):List D:=[.tuple [],.tuple [aA (a,b),aA (a,b)],.tuple [aA (b,a)],.tuple [aA (a,a)],.tuple [.tuple [.int a,.int n]],.tuple [.tuple [.bool false,.int b]],.tuple [.list [.int a,.int b]],.tuple [o],.tuple [.tuple [.int a,.int b,.int 0]]]
def qH (n:Nat)(qs:List D):List D:=[.tuple [.int n,.tuple qs.reverse],.tuple [.int ((n - 1:Nat):Int),.tuple qs],.tuple [.int n,.list qs],.tuple [.int n,.tuple qs,.tuple []],.list [.int n,.tuple qs]]
def Nw (x:D):Prop:=∃es:List D,x=.tuple es/\es.length<=2/\∀e,e∈es->El e
def CM {n:Nat}{l:List Pr}{o:D}(O:OM.Ord n l)(ho:o∈fL)(β:Int):∃d β',zt [bW n l,o] β=.ok d false β'/\Tk d:=by
 have h1:=O.lo
 have h8:=O.hi
 have hl:=u4 O
 have hS:∀p,p∈l->Sp p:=λp hp=>by have:=O.wn p hp;exact⟨by omega,by omega⟩
 obtain⟨a,ha,ea⟩:=cT (m:=l.length + 1) (by omega) (by omega) β
 generalize β / ((l.length + 1:Nat):Int)=β1 at ea
 obtain⟨c1,hc1,ec1⟩:=cT (m:=n) h1 (by omega) β1
 generalize β1 / (n:Int)=β2 at ec1
 obtain⟨c2,hc2,ec2⟩:=cT (m:=n) h1 (by omega) β2
 generalize β2 / (n:Int)=β3 at ec2
 obtain⟨k,hk,ek⟩:=cT (m:=15) (by omega) (by omega) β3
 generalize β3 / ((15:Nat):Int)=β4 at ek
 have:WP (fB bM [.bx,.fz (bW n l),.fz o,.no,.no,.no,.no,.no,.no,.no,.no] β) λs=>∃d,xD s=.ok d false β4/\Tk d:=by
  unfold fB
  refine wp_bind (env1:=[.bx,.fz (bW n l),.fz o,.fz (.int n),.fz (.tuple (l.map aA)),.no,.no,.no,.no,.no,.no]) (d:=bW n l) rfl rfl ?_
  have hE:=vY hS
  have hql:(l.map aA).length=l.length:=IC ..
  obtain⟨p,hp,ep⟩:∃p:Pr,Sp p/\jb (((l.map aA).drop (min a (l.map aA).length)).take (min (a + 1) (l.map aA).length - min a (l.map aA).length) ++ [PyData.tuple [.int 0,.int ((n - 1:Nat):Int)]]) ((0:Nat):Int)=some (aA p):=by
   rcases IJ a l.length with q |q
   ·refine⟨l[a],hS _ (JI _),dm ?_⟩
    rw[hql,Kx (by omega),Kx (by omega),show a + 1 - a=1 by omega,Ki (by rw[hql];exact q)]
    simp
   ·refine⟨(0,((n - 1:Nat):Int)),⟨by simp,by simp only;omega⟩,dm ?_⟩
    rw[hql,Nat.min_eq_right (by omega),Nat.min_eq_right (by omega),Nat.sub_self,List.take_zero]
    rfl
  have esl:∀vs,gv 3 vs β1=.ok (.int n) β1->gv 4 vs β1=.ok (.tuple (l.map aA)) β1->gv 5 vs β1=.ok (.int a) β1->f2 (f2 (kq (gv 4) (sv (gv 5)) (sv (f2 (gv 5) (cst (.int 1)) bS))) (az (ab (az (ab (cst (.int 0)) (ab (f2 (gv 3) (cst (.int 1)) sh) af))) af)) lq) (cst (.int 0)) cW vs β1=.ok (aA p) β1:=λvs g3 g4 g5=>by
   refine aG (y:=.int ((0:Nat):Int)) (zR (BM (i:=a) (j:=a + 1) g4 g5 (FX g5)) (tp (ds:=[.tuple [.int 0,.int ((n - 1:Nat):Int)]]) (ac (tp (ac rfl (ac (aG (x:=.int n) (y:=.int 1) g3 rfl ?_) an))) an)) ?_) rfl ep
   ·show some (int ((n:Int) - 1))=_
    rw[show (n:Int) - 1=((n - 1:Nat):Int) by omega]
   ·rw[Jf,Km];simp only[List.length_singleton];omega
  generalize l.map aA=qs at hE hql esl
  refine iu (d:=.int a) (β1:=β1) (cN (ds:=[.int ((l.length + 1:Nat):Int)]) rfl (ac (FX (i:=l.length) (cJ (x:=.tuple qs) rfl (by show some (int qs.length)=_;rw[hql]))) an) ea) ?_
  obtain⟨x,y⟩:=p
  refine wp_bind (env1:=[.bx,.fz (bW n l),.fz o,.fz (.int n),.fz (.tuple qs),.fz (.int a),.fz (.int x),.fz (.int y),.no,.no,.no]) (d:=aA (x,y)) (esl _ rfl rfl rfl) rfl ?_
  have nw:∀d,d∈oE n x y o->Nw d:=by
   have pr2:∀u v:Int,0<=u->u<=8->0<=v->v<=8->El (aA (u,v)):=λu v a b c d=>rY ⟨⟨a,b⟩,c,d⟩
   have one:∀e,El e->Nw (.tuple [e]):=λe he=>⟨[e],rfl,by simp,λz hz=>by rw[I0] at hz;rw[hz];exact he⟩
   have sx:wu (.int x):=fo (by have:=hp.1;simp only at this;omega)
   have sy:wu (.int y):=fo (by have:=hp.2;simp only at this;omega)
   have b1:=hp.1
   have b2:=hp.2
   simp only at b1 b2
   intro d hd
   unfold oE at hd
   simp only[Ih,JW,or_false] at hd
   rcases hd with rfl |rfl |rfl |rfl |rfl |rfl |rfl |rfl |rfl
   ·exact⟨[],rfl,by simp,λz hz=>by cases hz⟩
   ·exact⟨_,rfl,by simp,bL (rY hp) (rY hp)⟩
   ·exact one _ (pr2 _ _ b2.1 b2.2 b1.1 b1.2)
   ·exact one _ (pr2 _ _ b1.1 b1.2 b1.1 b1.2)
   ·exact one _ (pA (by simp) (bL sx (fo (by omega))))
   ·exact one _ (pA (by simp) (bL (.inr (.inl ⟨_,rfl⟩)) sy))
   ·exact one _ (Aa (by simp) (bL sx sy))
   ·exact one _ (qg ho)
   ·exact one _ (pA (by simp) λz hz=>by
     simp only[Ih,JW,or_false] at hz
     rcases hz with rfl |rfl |rfl
     ·exact sx
     ·exact sy
     ·exact fo (by omega))
  refine uU (d:=.list (oE n x y o)) (lp (ds:=oE n x y o) (ac (tp an) (ac (tp (ac (tp (ac rfl (ac rfl an))) (ac (tp (ac rfl (ac rfl an))) an))) (ac (tp (ac (tp (ac rfl (ac rfl an))) an)) (ac (tp (ac (tp (ac rfl (ac rfl an))) an)) (ac (tp (ac (tp (ac rfl (ac rfl an))) an)) (ac (tp (ac (tp (ac rfl (ac rfl an))) an)) (ac (tp (ac (lp (ac rfl (ac rfl an))) an)) (ac (tp (ac rfl an)) (ac (tp (ac (tp (ac rfl (ac rfl (ac rfl an)))) an)) an))))))))) (by show (9:Nat)<=1000;omega)) ?_
  rw[mG (env:=[.bx,.fz (bW n l),.fz o,.fz (.int n),.fz (.tuple qs),.fz (.int a),.fz (.int x),.fz (.int y),.no,.no,.no]) (λj d e=>by have:=Ij e;simp at this)]
  have nl:(oE n x y o).length=9:=rfl
  generalize oE n x y o=N at nw nl
  refine wp_at [.bx,.fz (bW n l),.fz o,.fz (.int n),.fz (.tuple qs),.fz (.int a),.fz (.int x),.fz (.int y),.ow (.list N),.no,.no] rfl ?_
  refine zF (ds:=N) (d:=.tuple [aA (c1,c2)]) (β1:=β3) rfl ?_ rfl (by omega) ?_
  ·exact iN (ds:=[aA (c1,c2)]) (AY (iN (ds:=[.int c1,.int c2]) (AY (cN (ds:=[.int n]) rfl rfl ec1) (AY (cN (ds:=[.int n]) rfl rfl ec2) an)) (by simp)) an) (by simp)
  refine wp_at [.bx,.fz (bW n l),.fz o,.fz (.int n),.fz (.tuple qs),.fz (.int a),.fz (.int x),.fz (.int y),.ow (.list (N ++ [.tuple [aA (c1,c2)]])),.no,.no] rfl ?_
  have nw':∀d,d∈N ++ [.tuple [aA (c1,c2)]]->Nw d:=λd hd=>by
   rcases Iu.mp hd with h |h
   ·exact nw d h
   ·rw[I0] at h
    rw[h]
    exact⟨[aA (c1,c2)],rfl,by simp,λz hz=>by rw[I0] at hz;rw[hz];exact rY ⟨by simp only;omega,by simp only;omega⟩⟩
  have nl':(N ++ [PyData.tuple [aA (c1,c2)]]).length=10:=by rw[IQ,nl];rfl
  generalize N ++ [PyData.tuple [aA (c1,c2)]]=N' at nw' nl'
  refine iu (d:=.int k) (β1:=β4) (cN (ds:=[.int 15]) rfl rfl ek) ?_
  refine wp_at [.bx,.fz (bW n l),.fz o,.fz (.int n),.fz (.tuple qs),.fz (.int a),.fz (.int x),.fz (.int y),.ow (.list N'),.fz (.int k),.no] rfl ?_
  have tk:fg (f2 (gv 9) (cst (.int 10)) xM) (vl [.bx,.fz (bW n l),.fz o,.fz (.int n),.fz (.tuple qs),.fz (.int a),.fz (.int x),.fz (.int y),.ow (.list N'),.fz (.int k),.no]) β4=.ok (decide ((k:Int) < 10)) β4:=rfl
  by_cases q:(k:Int) < 10
  ·rw[Ik q] at tk
   refine cg tk ?_
   obtain⟨d,_,hd2,hd3⟩:=pe (ds:=N') (k:=k) (by omega)
   obtain⟨es,rfl,hes,hel⟩:=nw' d hd2
   have z1:(qs.take a).length<=64:=by rw[Jf];omega
   have z2:(qs.drop (a + 1)).length<=64:=by rw[Km];omega
   refine cm (d:=.tuple [.int n,.tuple (qs.take a ++ es ++ qs.drop (a + 1))]) (tp (ds:=[.int n,.tuple (qs.take a ++ es ++ qs.drop (a + 1))]) (ac rfl (ac (zR (zR (Ei (i:=a) rfl rfl) (aG (x:=.list N') (y:=.int k) rfl rfl hd3) (by omega)) (EG (i:=a + 1) rfl (FX rfl)) (by rw[IQ];omega)) an))) ⟨_,rfl,?_⟩
   refine iM (by omega) ?_ λz hz=>?_
   ·rw[IQ,IQ,Jf,Km];omega
   ·rcases Iu.mp hz with h |h
    ·rcases Iu.mp h with h |h
     ·exact hE z (JL h)
     ·exact hel z h
    ·exact hE z (List.mem_of_mem_drop h)
  ·rw[Ir q] at tk
   refine iR tk ?_
   refine iu (d:=.list (qH n qs)) (β1:=β4) (lp (ds:=qH n qs) (ac (tp (ac rfl (ac (cJ (x:=.tuple qs) rfl rfl) an))) (ac (tp (ac (aG (x:=.int n) (y:=.int 1) rfl rfl (by show some (int ((n:Int) - 1))=_;rw[show (n:Int) - 1=((n - 1:Nat):Int) by omega])) (ac rfl an))) (ac (tp (ac rfl (ac (cJ (x:=.tuple qs) rfl rfl) an))) (ac (tp (ac rfl (ac rfl (ac (tp an) an)))) (ac (lp (ac rfl (ac rfl an))) an))))) (by show (5:Nat)<=1000;omega)) ?_
   obtain⟨d,_,hd2,hd3⟩:=pe (ds:=qH n qs) (k:=k - 10) (by show k - 10 < 5;omega)
   refine kT (d:=d) (aG (x:=.list (qH n qs)) (y:=.int ((k - 10:Nat):Int)) rfl (aG (x:=.int k) (y:=.int 10) rfl rfl (by show some (int ((k:Int) - 10))=_;rw[show (k:Int) - 10=((k - 10:Nat):Int) by omega])) hd3) ⟨d,rfl,?_⟩
   have hz:qs.length<=64:=by omega
   have s2:Sq 8000 9 (.tuple qs):=(gO (c:=100) (k:=8) λd hd=>(hE d hd).2.1).mono (by have:(100 + 2) * qs.length<=102 * 70:=JX (by omega) (by omega);omega) (by omega)
   have s3:Sq 8000 9 (.list qs):=(tV (c:=100) (k:=8) λd hd=>(hE d hd).2.1).mono (by have:(100 + 2) * qs.length<=102 * 70:=JX (by omega) (by omega);omega) (by omega)
   have i1:Sq 8000 9 (.int n):=(sY (by omega)).mono (by omega) (by omega)
   have b1:Bf (.int n):=uw (by omega)
   unfold qH at hd2
   simp only[Ih,JW,or_false] at hd2
   rcases hd2 with rfl |rfl |rfl |rfl |rfl
   ·exact iM (by omega) (by rw[List.length_reverse];omega) λz hz=>hE z (mem_reverse.mp hz)
   ·exact iM (by omega) (by omega) hE
   ·refine⟨⟨rfl,λes e=>?_⟩,(gO (c:=8000) (k:=9) (bL i1 s3)).mono (by simp) (by omega),h9 (bL b1 (tm λd hd=>(hE d hd).2.2))⟩
    cases e
    exact bL (lM _) ⟨rfl,λes e=>by cases e⟩
   ·have th:∀{P:D->Prop},P (.int n)->P (.tuple qs)->P (.tuple [])->∀z,z∈ [int n,.tuple qs,.tuple []]->P z:=λ{P} a b c z hz=>by
     simp only[Ih,JW,or_false] at hz
     rcases hz with rfl |rfl |rfl
     ·exact a
     ·exact b
     ·exact c
    refine⟨⟨rfl,λes e=>?_⟩,(gO (c:=8000) (k:=9) (th i1 s2 ?_)).mono (by simp) (by omega),h9 (th b1 (h9 λd hd=>(hE d hd).2.2) rfl)⟩
    ·cases e
     exact th (lM _) (lH (by omega) λq hq=>(hE q hq).1) (lH (by simp) λq hq=>by cases hq)
    ·exact ((gO (c:=0) (k:=0) (ds:=[]) λd hd=>by cases hd).mono (by simp) (by omega))
   ·exact⟨⟨rfl,λes e=>by cases e⟩,(tV (c:=8000) (k:=9) (bL i1 s2)).mono (by simp) (by omega),tm (bL b1 (h9 λd hd=>(hE d hd).2.2))⟩
 obtain⟨⟨d,e,h⟩⟩:=this
 exact⟨d,β4,e,h⟩
def FL:D->Bool
 | .tuple qs=>decide (qs.length<=100) && qs.all λq=> !bz q && FH q
 |_=>true
def HF:D->Bool
 | .tuple es=>es.all λx=> !bz x && FL x
 |_=>true
def BS:∀x∈fL,FL x=true/\HF x=true:=by decide +kernel
def Ed {q:D}(h:bz q=false)(hb:FH q=true):Ge q:=⟨h,λes e=>by
 subst e
 have hb:(decide (es.length<=100) && es.all λx=> !bz x)=true:=hb
 rw[IE,Jh,JH] at hb
 exact⟨hb.1,λx hx=>by have:=hb.2 x hx;rwa [JQ] at this⟩⟩
def Ci {x:D}(h:bz x=false)(hb:FL x=true):D4 x:=⟨h,λqs e=>by
 subst e
 have hb:(decide (qs.length<=100) && qs.all λq=> !bz q && FH q)=true:=hb
 rw[IE,Jh,JH] at hb
 exact⟨hb.1,λq hq=>by
  have:=hb.2 q hq
  rw[IE,JQ] at this
  exact Ed this.1 this.2⟩⟩
def Dh {o:D}(h:o∈fL):Tk o:=by
 have e:=qg h
 refine⟨⟨e.1.1,λes q x hx=>?_⟩,e.2.1.mono (by omega) (by omega),e.2.2⟩
 have hb:=(BS o h).2
 subst q
 have hb:(es.all λx=> !bz x && FL x)=true:=hb
 have:=JH.mp hb x hx
 rw[IE,JQ] at this
 exact Ci this.1 this.2
def zE {x y:D}(gx:D4 x)(gy:D4 y)(ex:Sq 100 8 x/\Bf x)(ey:Sq 100 8 y/\Bf y):Tk (.tuple [x,y]):=
 ⟨⟨rfl,λes e=>by cases e;exact bL gx gy⟩,(gO (c:=100) (k:=8) (bL ex.1 ey.1)).mono (by simp) (by omega),h9 (bL ex.2 ey.2)⟩
noncomputable def ng:List D->Int->FB:=kL 8 1 (cO ie bM kP)
def wA {most:Nat}(hm1:1<=most)(hm8:most<=8)(β:Int):∃(n:Nat) (l:List Pr) (β':Int),ng [.int most] β=.ok (bW n l) false β'/\OM.Ord n l/\n<=most:=v3 (λh1 h8 w _=>Cb h8 w rfl) hm1 hm8 β
noncomputable def CY:List D->FR:=b6 9 1 (vi Df CF Bz Ak ng bM Dz zt)
def D1 (n:Nat)(l:List Pr)(o:D):List D:=[bW n l,o,.tuple [.int 8,.tuple []],.tuple [.int 9,.tuple []],.tuple [.int 0,.tuple []],.tuple [.bool true,.tuple []],.tuple [.int n,o],.tuple [.int ((n + 1:Nat):Int),.tuple (l.map aA)]]
def Fd {n:Nat}{l:List Pr}{o:D}(O:OM.Ord n l)(ho:o∈fL):∀d,d∈D1 n l o->Tk d:=by
 have hl:=u4 O
 have h8:=O.hi
 have hE:∀q,q∈l.map aA->El q:=vY λp hp=>by have:=O.wn p hp;exact⟨by omega,by omega⟩
 have nil:∀k:Nat,k<=9->Tk (.tuple [.int k,.tuple []]):=λk hk=>iM hk (by simp) λq hq=>by cases hq
 intro d hd
 unfold D1 at hd
 simp only[Ih,JW,or_false] at hd
 rcases hd with rfl |rfl |rfl |rfl |rfl |rfl |rfl |rfl
 ·exact iM (by omega) (by rw[IC];omega) hE
 ·exact Dh ho
 ·exact nil 8 (by omega)
 ·exact nil 9 (by omega)
 ·exact nil 0 (by omega)
 ·exact zE ⟨rfl,λes e=>by cases e⟩ (lH (by simp) λq hq=>by cases hq) ⟨(wu.sq (.inr (.inl ⟨_,rfl⟩))).mono (by omega) (by omega),rfl⟩ ⟨(gO (c:=0) (k:=0) (ds:=[]) λd hd=>by cases hd).mono (by simp) (by omega),rfl⟩
 ·exact zE (lM _) (Ci (qg ho).1.1 (BS o ho).1) ⟨(sY (by omega)).mono (by omega) (by omega),uw (by omega)⟩ (qg ho).2
 ·exact iM (by omega) (by rw[IC];omega) hE
def Fq (ns:List Int):CY [b7 ns]=.ok (.bool true) false:=by
 show fin (vi Df CF Bz Ak ng bM Dz zt [.fz (b7 ns),.no,.no,.no,.no,.no,.no,.no,.no] 0)=_
 refine eR ?_
 obtain⟨m,hm,em⟩:=ze 6 (by omega) ns (vl [.fz (b7 ns),.no,.no,.no,.no,.no,.no,.no,.no]) 0 rfl
 unfold vi
 refine tD (λ_ env _=>∃s1 s2 s3 s4 s5 s6 s7 s8,env= [.fz (b7 ns),s1,s2,s3,s4,s5,s6,s7,s8]) em ⟨_,_,_,_,_,_,_,_,rfl⟩ ?_ λenv β ⟨s1,s2,s3,s4,s5,s6,s7,s8,e⟩=>kT (d:=.bool true) rfl rfl
 rintro i d env β hi ⟨s1,s2,s3,s4,s5,s6,s7,s8,rfl⟩
 obtain⟨_,rfl⟩:=j3 hi
 rw[K9]
 refine⟨[.fz (b7 ns),.fz (.int i),s2,s3,s4,s5,s6,s7,s8],rfl,?_⟩
 obtain⟨z,ez⟩:=EF ns i
 obtain⟨j,hj,ej⟩:=cT (m:=4) (by omega) (by omega) z
 generalize z / ((4:Nat):Int)=β1 at ej
 obtain⟨t3,t4,t5,t6,t7,t8,hcl⟩:∃t3 t4 t5 t6 t7 t8:Sl,(nV (aO ([0] ++ ([1] ++ [])) [.fz (b7 ns),.fz (.int i),s2,s3,s4,s5,s6,s7,s8])).set 2 .bx= [.fz (b7 ns),.fz (.int i),.bx,t3,t4,t5,t6,t7,t8]:=⟨_,_,_,_,_,_,rfl⟩
 refine An (zp (ds:=[b7 ns,.int i]) rfl ez) (wp_at _ hcl ?_)
 obtain⟨most,m1,m8,hat⟩:∃most:Nat,1<=most/\most<=8/\jb [int 6,.int 6,.int 6,.int 8] (j:Int)=some (int most):=by
  match j,hj with
  | 0,_=>exact⟨6,by omega,by omega,dm (j:=0) rfl⟩
  | 1,_=>exact⟨6,by omega,by omega,dm (j:=1) rfl⟩
  | 2,_=>exact⟨6,by omega,by omega,dm (j:=2) rfl⟩
  | 3,_=>exact⟨8,by omega,by omega,dm (j:=3) rfl⟩
 obtain⟨n,l,β2,eo,O,_⟩:=wA m1 m8 β1
 refine iu (d:=bW n l) (β1:=β2) (cN (ds:=[.int most]) rfl (AY (aG (x:=.list [.int 6,.int 6,.int 6,.int 8]) (y:=.int j) (lp (ac (ck _) (ac (ck _) (ac (ck _) (ac (ck _) an))))) (cN (ds:=[.int 4]) rfl rfl ej) hat) an) eo) ?_
 obtain⟨o,β3,eod,ho⟩:=E5 β2
 refine iu (d:=o) (β1:=β3) (cN (ds:=[]) rfl rfl eod) ?_
 have hth:=Fd O ho
 refine uU (d:=.list (D1 n l o)) (lp (ds:=D1 n l o) (ac rfl (ac rfl (ac (tp (ac (ck _) (ac (tp an) an))) (ac (tp (ac (ck _) (ac (tp an) an))) (ac (tp (ac (ck _) (ac (tp an) an))) (ac (tp (ac (ck _) (ac (tp an) an))) (ac (tp (ac (Hy rfl) (ac rfl an))) (ac (tp (ac (FX (Hy rfl)) (ac (aG (x:=bW n l) (y:=.int 1) rfl rfl rfl) an))) an)))))))) (by show (8:Nat)<=1000;omega)) ?_
 have hzl:(D1 n l o).length=8:=rfl
 generalize D1 n l o=T at hth hzl
 refine wp_at [.fz (b7 ns),.fz (.int i),.bx,.fz (bW n l),.fz o,.ow (.list T),t6,t7,t8] rfl ?_
 refine tD (λk env _=>∃(T:List D) (s6:Sl),env= [.fz (b7 ns),.fz (.int i),.bx,.fz (bW n l),.fz o,.ow (.list T),s6,t7,t8]/\(∀d,d∈T->Tk d)/\T.length=8 + k) (l9 (n:=3) (ck _) (by omega)) ⟨T,t6,rfl,hth,hzl⟩ ?_ ?_
 ·rintro k d env β hk ⟨T,s6,rfl,hT,hz⟩
  have hk3:k < 3:=(j3 hk).1
  refine⟨[.fz (b7 ns),.fz (.int i),.bx,.fz (bW n l),.fz o,.ow (.list T),.fz d,t7,t8],rfl,?_⟩
  obtain⟨b,β4,eb,hb⟩:=CM O ho β
  refine tO (zF (ds:=T) (d:=b) (β1:=β4) rfl (cN (ds:=[bW n l,o]) rfl rfl eb) rfl (by omega) (vt ⟨_,_,rfl,T ++ [b],.fz d,rfl,λx hx=>?_,by rw[IQ,List.length_singleton];omega⟩))
  rcases Iu.mp hx with h |h
  ·exact hT x h
  ·rw[I0] at h;rw[h];exact hb
 rintro env β ⟨T,s6,rfl,hT,hz⟩
 rw[kA] at hz
 refine tO (tD (λ_ env _=>∃s7 s8,env= [.fz (b7 ns),.fz (.int i),.bx,.fz (bW n l),.fz o,.fz (.list T),s6,s7,s8]) (ds:=T) (β1:=β) rfl ⟨t7,t8,rfl⟩ ?_ λenv β ⟨s7,s8,e⟩=>vt ⟨_,_,rfl,_,_,_,_,_,_,_,_,e⟩)
 rintro k d env β hk ⟨s7,s8,rfl⟩
 refine⟨[.fz (b7 ns),.fz (.int i),.bx,.fz (bW n l),.fz o,.fz (.list T),s6,.fz d,s8],rfl,?_⟩
 have hd:=hT d (Ij hk)
 have hrp:=hd.rp
 obtain⟨b,e1,e2⟩:=C4 hd.1
 refine iu (d:=.str d.shown) (cJ (x:=d) rfl hrp) ?_
 exact tO (iR (b8 (c:=false) (bb (mf (c:=true) (aV (ds:=[.bool b,.bool b]) (ac (aV (ds:=[d]) rfl e1) (ac (aV (ds:=[d]) rfl e2) an)) (Ft b)))) (g9 _ _ _ _ (aG (x:=.str d.shown) (y:=.str d.shown) (cJ (x:=d) rfl hrp) rfl (by simp[DK])))) (vt ⟨_,_,rfl,_,_,rfl⟩))
end RM
namespace RO
open PySem L2
abbrev Fn (K:Frag)(mg:Str->Option Value)(x:Str)(st:Stmt)(ps:List Str)(f:Addr)(fd:FuncData):Prop:=k9 K mg x st ps f fd
abbrev Bt (mg:Str->Option Value):Prop:=lB mg
end RO
section
namespace L2
open PySem PySem.Spec PyProof.Rows
section
variable {K:Frag}{H H':Hp}{a:Addr}
theorem aE.snoc {x y:Int}(q:dA K H a [.int x,.int y]):∀{vs:List V} {ps:List (Int×Int)},aE K H vs ps->aE K H (vs ++ [.ref a]) (ps ++ [(x,y)])
 |_,_,.nil=>.cons ⟨a,rfl,q⟩ .nil
 |_,_,.cons r t=>.cons r (aE.snoc q t)
def aE.len {vs:List V}{ps:List (Int×Int)}(h:aE K H vs ps):vs.length=ps.length:=Paired.length h
def aE.same {vs:List V}{ps:List (Int×Int)}(h:aE K H vs ps)(s:ag H H'):aE K H' vs ps:=h.grow s.grow
def aE.at {vs:List V}{ps:List (Int×Int)}{i:Nat}{v:V}(h:aE K H vs ps)(e:vs[i]? =some v):∃p:Int×Int,ps[i]? =some p/\∃b,v=.ref b/\dA K H b [.int p.1,.int p.2]:=Paired.getP h e
def ag.put {o:HO}(s:ag H H')(h:H a=none)(hf:∀x y,H' a≠some (.aO x y)):ag H (L2.upd H' a o):=λb u e=>iA (s b u e) (ax e h) hf
def BQ (h:H a=none):∀x y,H a≠some (.aO x y):=λx y z=>by rw[h] at z;cases z
def EJ {xs:List V}(h:H a=some (.lst xs)):∀x y,H a≠some (.aO x y):=λx y z=>by rw[h] at z;cases z
end
end L2
namespace RO
open PySem L2
def zU (N:List Str)(sc:Scope)(NB:List Str)(own:Nat)(ixs:List Nat)(scope:Scope):Bool:=
 decide (scope.kind=.function) && (scope.names.all λy=>decide (scope.names.lookup y.1=some y.2)) &&
 (scope.names.all λy=>decide (y.2=.free->(sc.names.lookup y.1=some .cell\/sc.names.lookup y.1=some .free))) && decide NB.Nodup && decide (NB.length=own + ixs.length) &&
 ((List.range ixs.length).all λk=>decide (NB[own + k]? =N[ixs.getD k 0]?) && (match NB[own + k]? with |some x=>decide ((x,NameKind.free)∈scope.names) |none=>true))
def kO {X:Cx}{NB:List Str}{own:Nat}{ixs:List Nat}{scope:Scope}(h:zU X.N X.env.scope NB own ixs scope=true):cV X NB own ixs scope:=by
 unfold zU at h
 simp only[IE,JH,Jh,IH] at h
 obtain⟨⟨⟨⟨⟨h1,h3⟩,h4⟩,h5⟩,h6⟩,h7⟩:=h
 refine⟨h1,h3,h4,h5,h6,λk hk=>⟨(h7 k hk).1,λx hx=>?_⟩⟩
 have:=(h7 k hk).2
 rw[hx] at this
 simpa using this
section
variable {X:Cx}{tg l:Expr}{tl:TE}{K:Frag}{H H1:Hp}{a:Addr}{xs:List V}{σ:St}
def Gx (K:Frag)(tl:TE):TI:=λσ H R=>tl σ H λx H1=>∃a xs,x=.ref a/\((fC K H1 a xs/\R (wd K a) H1)\/(dA K H1 a xs/\R (B4 K a) H1))
end
def Hx (K:Frag){X:Cx}(h:X.K=K:=by rfl):zV X (DZ K):=by subst h;exact dQ
def Dp (K:Frag)(i j:Nat){X:Cx}{x y:Str}{px py pos:Pos}{k:Nat}(hN:X.N.Nodup)(hi:X.N[i]? =some x)(hj:X.N[j]? =some y)(hx:X.env.scope.names.lookup x=some .local)(hy:X.env.scope.names.lookup y=some .local)(hc:X.calm=true)(hK:X.K=K) :
  PG X (.Tuple [.Name x px,.Name y py] k pos) (By K 2 (nz (i7 i) (nz (i7 j) Ao))):=by
 subst hK
 exact l5 hc (cv (bZ hN hi (Or.inl hx) (Or.inr hx)) (cv (bZ hN hj (Or.inl hy) (Or.inr hy)) jJ))
section
open PySem.Spec PyProof.Rows
variable {X:Cx}{tg l:Expr}{tl:TE}
def Ds (hl:PE X l tl):PI X tg l (Gx X.K tl):=by
 intro pins s σ H R I h
 refine bP (hl pins s σ H _ I h) λv s1 ⟨x,H1,I1,r1,q1⟩=>?_
 obtain⟨a,xs,e,q⟩:=q1
 subst e
 cases r1
 rcases q with⟨hq,q⟩ | ⟨hq,q⟩
 ·obtain⟨its,rv,p,hz⟩:=I1.list hq
  refine KH p.isList ?_
  refine⟨s1.heap.objs.size,[s1.heap.objs.size],_,_,H1,rfl,I1.kept (t':=s1.toks) λb o e=>Ia _ e,kR a _,⟨_,IB _ rfl,rfl,rfl⟩,λb hb=>?_,q⟩
  have e:b=s1.heap.objs.size:=by simpa using hb
  subst e
  exact I1.fpOk (HX _) (I1.hok.fresh (HX _))
 ·obtain⟨its,rv,p,hz⟩:=I1.tuple hq
  refine K6 (show s1.heap.IsTuple a its.toArray from p) ?_
  refine⟨s1.heap.objs.size,[s1.heap.objs.size],_,_,H1,rfl,I1.kept (t':=s1.toks) λb o e=>Ia _ e,lX a _,⟨_,IB _ rfl,rfl,rfl⟩,λb hb=>?_,q⟩
  have e:b=s1.heap.objs.size:=by simpa using hb
  subst e
  exact I1.fpOk (HX _) (I1.hok.fresh (HX _))
end
section
variable {K:Frag}{H H1 H':Hp}{a:Addr}{xs:List V}{σ:St}
abbrev EA (J:It)(g:TG)(tb:TS)(D:Ends)(σ:St)(H:Hp):Prop:=∃W:Nat->Nat->St->Hp->Prop,(∃m,W 0 m σ H)/\∀i m σ H,W i m σ H->
   (J.stop i H/\D.nx σ H)\/(J.go i H/\∃N:St->Hp->Prop,(∀σ' H',N σ' H'->∃m',m' < m/\W (i + 1) m' σ' H')/\∀x H',J.yld i H x H'->g x σ H' λσ2 H2=>tb {D with nx:=N,ct:=N,bk:=D.nx} σ2 H2)
def BC (s:ag H1 H')(hq:fC K H1 a xs\/dA K H1 a xs):fC K H' a xs\/dA K H' a xs:=hq.elim (λq=>.inl (s.seq q)) λq=>.inr (q.grow s.grow)
def Bc {g:TG}{tb:TS}{D:Ends}(hq:fC K H1 a xs\/dA K H1 a xs)(Pv:Nat->St->Hp->Prop)(h0:Pv 0 σ H)(hl:∀i σ H',Pv i σ H'->ag H1 H')
  (hs:∀i x σ H,xs[i]? =some x->Pv i σ H->g x σ H λσ2 H2=>tb {D with nx:=Pv (i + 1),ct:=Pv (i + 1),bk:=D.nx} σ2 H2) (hd:∀σ H,Pv xs.length σ H->D.nx σ H) :
  (fC K H a xs/\EA (wd K a) g tb D σ H)\/(dA K H a xs/\EA (B4 K a) g tb D σ H):=
 hq.elim (λq=>.inl ⟨(hl _ _ _ h0).seq q,rZ Pv h0 (λi σ H' _ p=>(hl i σ H' p).seq q) hs hd⟩) λq=>.inr ⟨q.grow (hl _ _ _ h0).grow,AA Pv h0 (λi σ H' _ p=>q.grow (hl i σ H' p).grow) hs hd⟩
def vH (J:It)(own:Nat)(ixs:List Nat)(g:TG)(tt:TT)(te:TE)(Q:VK)(D:Addr)(σ:St)(H:Hp):Prop:=∃W:Nat->Nat->St->Hp->Prop,(∃m,W 0 m (pU own ixs σ) (upd H D (.lst [])))/\∀i m σ' H',W i m σ' H'->
   (J.stop i H'/\(∃acc,H' D=some (.lst acc))/\Q (.ref D) H')\/
   (J.go i H'/\∃N:St->Hp->Prop,(∀σ2 H2,N σ2 H2->∃m',m' < m/\W (i + 1) m' σ2 H2)/\∀x H2,J.yld i H' x H2->cR g tt te D x σ' H2 N)
structure rz (own:Nat)(ixs:List Nat)(wi:TI)(g:TG)(tt:TT)(te:TE)(σ:St)(H:Hp)(Q:VK):Prop where
 out:wi σ H λJ H1=>∀D,H1 D=none->vH J own ixs g tt te Q D σ H1
def tG {own:Nat}{ixs:List Nat}{wi:TI}{g:TG}{tt:TT}{te:TE}{Q:VK}(h:wi σ H λJ H1=>∀D,H1 D=none->vH J own ixs g tt te Q D σ H1):rz own ixs wi g tt te σ H Q:=⟨h⟩
def p7 {X:Cx}{NB:List Str}{own:Nat}{ixs:List Nat}{scope:Scope}{tg iter elt:Expr}{ifs:List Expr}{wi:TI}{g:TG}{tt:TT}{te:TE}{pos:Pos}(hc:X.calm=true)(S:cV X NB own ixs scope)(hi:PI X tg iter wi)
  (hg:∀C ex s3 H3 pn,PG (iL X NB scope C ex s3 H3 pn) tg g) (ht:∀C ex s3 H3 pn,Au (iL X NB scope C ex s3 H3 pn) ifs tt) (he:∀C ex s3 H3 pn,PE (iL X NB scope C ex s3 H3 pn) elt te)
  (hs:∀x,foldedSetIterable iter X.env x=pure x:=by intro _;rfl):PE X (.ListComp elt [⟨tg,iter,ifs,0⟩] scope pos) (rz own ixs wi g tt te):=
 λpins s σ H Q I h=>qw hc S hi hg ht he hs pins s σ H Q I h.out
section
variable {own:Nat}{ixs:List Nat}{g:TG}{tt:TT}{te:TE}{Q:VK}{D:Addr}
def AG (Pv:Nat->St->Hp->Prop)(h0:Pv 0 (pU own ixs σ) (upd H D (.lst [])))(hl:∀i σ H,i<=xs.length->Pv i σ H->fC K H a xs)
  (hs:∀i x σ H,xs[i]? =some x->Pv i σ H->cR g tt te D x σ H (Pv (i + 1))) (hd:∀σ H,Pv xs.length σ H->(∃acc,H D=some (.lst acc))/\Q (.ref D) H):vH (wd K a) own ixs g tt te Q D σ H:=wZ Pv h0 hl hs hd
def qt {lo:Int}{n:Nat}(Pv:Nat->St->Hp->Prop)(h0:Pv 0 (pU own ixs σ) (upd H D (.lst [])))
  (hs:∀i σ H,i < n->Pv i σ H->cR g tt te D (.int (lo + i)) σ H (Pv (i + 1))) (hd:∀σ H,Pv n σ H->(∃acc,H D=some (.lst acc))/\Q (.ref D) H):vH (xr lo n) own ixs g tt te Q D σ H:=sQ Pv h0 hs hd
end
def qz {i:Nat}{te:TE}{D:Addr}{x:V}{N:St->Hp->Prop}(h:te (σ.set i (some x)) H λv H5=>∃acc,H5 D=some (.lst acc)/\acc.length < sizeLine/\N (σ.set i (some x)) (upd H5 D (.lst (acc ++ [v])))):cR (i7 i) Cw te D x σ H N:=by
 unfold cR i7 Cw
 exact rH h
def xY {i j:Nat}{x y:V}{Q:St->Hp->Prop}(h:dA K H a [x,y])(q:Q ((σ.set i (some x)).set j (some y)) H):By K 2 (nz (i7 i) (nz (i7 j) Ao)) (.ref a) σ H Q:=⟨a,_,rfl,h,rfl,x,_,rfl,y,_,rfl,rfl,q⟩
def GK {c A B:Prop}[Decidable c](h:c)(a:A):if c then A else B:=by rw[HV h];exact a
def GA {c A B:Prop}[Decidable c](h:¬c)(b:B):if c then A else B:=by rw[HY h];exact b
def take_snoc {α:Type}{l:List α}{i:Nat}{x:α}(h:l[i]? =some x):l.take (i + 1)=l.take i ++ [x]:=by
 rw[JP,h];rfl
def take_all {α:Type}(l:List α):l.take l.length=l:=JB (HX _)
end
def iG (n:Nat):(OM.eQ n).length=n * n:=by unfold OM.eQ;simp
def Bj {n i:Nat}(h:i < n * n):(OM.eQ n)[i]? =some (((i / n:Nat):Int),((i % n:Nat):Int)):=by
 unfold OM.eQ
 rw[Ip,List.getElem?_range h];rfl
def Hj {n:Nat}(h:n<=8):n * n<=64:=JX h h
section
variable {P:Program}{w:World}{K:Frag}{mg:Str->Option Value}{base:Heap}
def u0 (K:Frag):Sp:=λvs H Q _=>∃n:Nat,vs= [.int n]/\1<=n/\n<=8/\∀H' l ws,ag H H'->H l=none->H' l=some (.lst ws)->aE K H' ws (OM.eQ n)->Q (.ref l) H'
def BH:aK ["many"] ["many"] (av gK):=⟨rfl,rfl,rfl,by decide +kernel,rfl,by decide +kernel,by decide +kernel⟩
def EX:(["number","many"]:List Str).Nodup:=by decide +kernel
def yX {f:Addr}{fd:FuncData}(F:Fn K mg "every_pair" gK ["many"] f fd)(B:Bt mg):dw P w K mg base Dr 1 f fd ["many"] (u0 K):=by
 refine F.F.ok BH (λvs H Q E h=>?_) (λcdv A outer s H vs Q E hr h=>?_)
 ·obtain⟨n,rfl,_⟩:=h;rfl
 ·obtain⟨n,rfl,h1,h8,k⟩:=h
  refine⟨_,fw (kN (p7 (NB:=["number","many"]) (own:=1) (ixs:=[0]) rfl (kO (by kernel_rfl)) (iI rfl B.range (aI (rE iz (pv 0) (pv 0)) bh))
   (λC ex s3 H3 pn=>bZ (i:=0) EX rfl (Or.inl rfl) (hf:=Or.inr rfl)) (λC ex s3 H3 pn=>oR)
   (λC ex s3 H3 pn=>tq (aI (rE j6 (pv 0) (pv 1)) (aI (rE jm (pv 0) (pv 1)) bh))))),?_⟩
  have hn:=Hj h8
  have e0:((n:Int) * (n:Int))=((n * n:Nat):Int):=by rw[Int.natCast_mul]
  refine tG ⟨_,rfl,_,rfl,_,_,rfl,rfl,.inl ⟨by omega,by omega⟩,_,rfl,by rw[e0];omega,by rw[e0];omega,λD hD=>?_⟩
  rw[e0,Jl]
  refine qt (λi σ' H'=>(∃v,σ'= [v,some (.int n)])/\ag H H'/\∃vs,H' D=some (.lst vs)/\aE K H' vs ((OM.eQ n).take i)) ⟨⟨none,rfl⟩,(ag.refl H).put hD (BQ hD),[],aq,.nil⟩ ?_ ?_
  ·rintro i σ' H' hi ⟨⟨v,rfl⟩,s1,vs,hv,hp⟩
   have hn0:(0:Int) < (n:Int):=by omega
   refine qz ⟨_,rfl,_,rfl,_,_,rfl,rfl,⟨hn0,by omega⟩,_,rfl,_,rfl,_,_,rfl,rfl,hn0,by show 2<=sizeLine;rw[IV];omega,λp hp0=>?_⟩
   have hpD:D≠p:=ax hv hp0
   have hl:=hp.len
   refine⟨vs,by rw[ao hpD];exact hv,?_,⟨_,rfl⟩,?_,vs ++ [.ref p],aq,?_⟩
   ·rw[hl,Jf,IV];rw[iG];omega
   ·exact (s1.put (s1.free hp0) (BQ hp0)).put hD (EJ (xs:=vs) (by rw[ao hpD];exact hv))
   ·rw[take_snoc (Bj hi)]
    have g1:fk H' (upd H' p (.tup [.int ((0 + (i:Int)) / n),.int ((0 + (i:Int)) % n)])):=fk.new hp0
    have g2:∀o,fk (upd H' p (.tup [.int ((0 + (i:Int)) / n),.int ((0 + (i:Int)) % n)])) (upd (upd H' p (.tup [.int ((0 + (i:Int)) / n),.int ((0 + (i:Int)) % n)])) D o):=λo=>fk.list (by rw[ao hpD];exact hv)
    refine aE.snoc ?_ (hp.grow (g1.trans (g2 _)))
    refine (dA.grow ?_ (g2 _))
    refine .inl (.inl ?_)
    rw[aq,K9];rfl
  ·rintro σ' H' ⟨_,s1,vs,hv,hp⟩
   refine⟨⟨_,hv⟩,k H' D vs s1 hD hv ?_⟩
   rw[<-iG n,take_all] at hp
   exact hp
end
end RO
end
namespace RO
open PySem L2
structure TabAt (n:Nat)(M:OM.Tb)(L:Addr)(r:Nat->Addr)(H:Hp):Prop where
 top:H L=some (.lst ((List.range n).map λi=>V.ref (r i)))
 row:∀i,i < n->H (r i)=some (.lst ((List.range n).map λj=>V.bl (M i j)))
 inj:∀i j,i < n->j < n->r i=r j->i=j
 ne:∀i,i < n->r i≠L
def vd {n x:Nat}(h:x < n):xI n (x:Int)=some x:=by
 unfold xI;rw[HV (by omega),HV (by omega)];simp
def pe {α:Type}{xs:List α}{x:Nat}(h:x < xs.length):jb xs (x:Int)=xs[x]?:=by
 unfold jb;rw[vd h];rfl
def du {f:Nat->V}{n x:Nat}(h:x < n):jb ((List.range n).map f) (x:Int)=some (f x):=by
 rw[pe (by simpa using h),Ip,List.getElem?_range h];rfl
def oO {f:Nat->V}{n x:Nat}(h:x < n):xI ((List.range n).map f).length (x:Int)=some x:=by
 rw[IC,KL];exact vd h
def wK {f:Nat->V}{n y:Nat}{v:V}:((List.range n).map f).set y v=(List.range n).map λj=>if j=y then v else f j:=by
 apply KJ
 intro i
 by_cases hi:i < n
 ·by_cases e:y=i
  ·subst e;simp[List.getElem?_set,hi]
  ·have e':¬i=y:=λz=>e z.symm
   simp[List.getElem?_set,hi,e,e']
 ·rw[Kc (by simp;omega),Kc (by simp;omega)]
section
variable {n:Nat}{M:OM.Tb}{L:Addr}{r:Nat->Addr}{H H':Hp}
def TabAt.set (T:TabAt n M L r H){x y:Nat}(hx:x < n):TabAt n (M.set x y) L r (upd H (r x) (.lst (((List.range n).map λj=>V.bl (M x j)).set y (.bl true)))):=by
 refine⟨by rw[ao (T.ne x hx).symm];exact T.top,λi hi=>?_,T.inj,T.ne⟩
 by_cases e:i=x
 ·subst e
  rw[aq,wK]
  refine congrArg _ (congrArg _ (J5 λj _=>?_))
  unfold OM.Tb.set
  by_cases c:j=y
  ·simp[c]
  ·simp[c]
 ·rw[ao (λz=>e (T.inj i x hi hx z)),T.row i hi]
  refine congrArg _ (congrArg _ (J5 λj _=>?_))
  unfold OM.Tb.set;simp[e]
def TabAt.same (T:TabAt n M L r H)(s:ag H H'):TabAt n M L r H':=⟨s _ _ T.top,λi hi=>s _ _ (T.row i hi),T.inj,T.ne⟩
end
def p6 {n:Nat}{ps:List (Int×Int)}(w:OM.Wn n ps){p:Int×Int}(h:p∈ps):∃u v:Nat,p=((u:Int),(v:Int))/\u < n/\v < n:=by
 obtain⟨x,y⟩:=p
 have q:=w _ h
 simp only at q
 exact⟨x.toNat,y.toNat,by rw[Int.toNat_of_nonneg q.1.1,Int.toNat_of_nonneg q.2.1],by omega,by omega⟩
def fx {M0 M:OM.Tb}{m:Nat}{D D':Nat->Nat->Prop}(P:OM.Phase M0 M m D)(h:∀a b,D a b↔D' a b):OM.Phase M0 M m D':=λa b=>by rw[P a b,h a b]
def iU {l:List (Int×Int)}{u v a b:Nat}:(((a:Int),(b:Int))∈l\/(a=u/\b=v))↔((a:Int),(b:Int))∈l ++ [((u:Int),(v:Int))]:=by
 rw[Iu,I0,Prod.mk.injEq]
 constructor
 ·rintro (h | ⟨h1,h2⟩)
  ·exact .inl h
  ·exact .inr ⟨by omega,by omega⟩
 ·rintro (h | ⟨h1,h2⟩)
  ·exact .inl h
  ·exact .inr ⟨by omega,by omega⟩
def BI {M:OM.Tb}{u v a b:Nat}:M.set u v a b=true↔M a b=true\/(a=u/\b=v):=by
 unfold OM.Tb.set
 by_cases c:a=u/\b=v
 ·simp[c]
 ·rw[HY c];exact⟨.inl,λh=>h.resolve_right c⟩
def Eu (n:Nat)(x:V):(List.replicate n [x]).flatten=(List.range n).map λ_=>x:=by
 rw[List.flatten_replicate_singleton,List.map_const',KL]
section
variable {P:Program}{w:World}{K:Frag}{mg:Str->Option Value}{base:Heap}
def y6 (K:Frag):Sp:=λvs H Q _=>∃(n:Nat) (a:Addr) (xs:List V) (ps:List (Int×Int)),vs= [.int n,.ref a]/\1<=n/\n<=8/\(fC K H a xs\/dA K H a xs)/\aE K H xs ps/\OM.Wn n ps/\
 ∀H' t ws,ag H H'->H t=none->H' t=some (.tup ws)->aE K H' ws (OM.aX n (OM.Tr (OM.Mem ps)))->Q (.ref t) H'
def dz:aK ["many","pairs","corners","leads","a","b","middle"] ["many","pairs"] (av j7):=⟨rfl,rfl,rfl,by decide +kernel,rfl,by decide +kernel,by decide +kernel⟩
def Ek:(["start","many"]:List Str).Nodup:=by decide +kernel
def CS:(["a","b","leads"]:List Str).Nodup:=by decide +kernel
set_option maxHeartbeats 1000000 in
theorem xw {f g:Addr}{fd gd:FuncData}(F:Fn K mg "closed" j7 ["many","pairs"] f fd)(G:Fn K mg "every_pair" gK ["many"] g gd)(GE:dw P w K mg base Dr 1 g gd ["many"] (u0 K))(B:Bt mg):dw P w K mg base Dr 2 f fd ["many","pairs"] (y6 K):=by
 refine F.F.ok dz (λvs H Q E h=>?_) (λcdv A outer s H vs Q E hr h=>?_)
 ·obtain⟨n,a,xs,ps,rfl,_⟩:=h;rfl
 ·obtain⟨n,a,xs,ps,rfl,h1,h8,hq,hp,wn,k⟩:=h
  refine⟨_,eT (nj (i:=2) dz.nd rfl (Or.inl rfl) (lJ GE hr rfl G.mg G.F.kp G.b .nil EZ (aI (pv 0) bh)))
   (eT (nj (i:=3) dz.nd rfl (Or.inr rfl) (p7 (NB:=["start","many"]) (own:=1) (ixs:=[0]) rfl (kO (by kernel_rfl)) (iI rfl B.range (aI (pv 0) bh))
    (λC ex s3 H3 pn=>bZ (i:=0) Ek rfl (Or.inl rfl) (hf:=Or.inr rfl)) (λC ex s3 H3 pn=>oR) (λC ex s3 H3 pn=>rE Du (yN (aI vg bh)) (pv 1))))
   (eT (qf PassesOwn.never rfl (Ds (pv 1)) (l5 rfl (cv (bZ (i:=4) dz.nd rfl (Or.inl rfl)) (cv (bZ (i:=5) dz.nd rfl (Or.inl rfl)) jJ)))
    (fw (nv vg (sO (i6 dQ (pv 3) (pv 4) (λ_ _=>rfl)) (pv 5) set_list))))
   (eT (qf PassesOwn.never rfl (iI rfl B.range (aI (pv 0) bh)) (bZ (i:=6) dz.nd rfl (Or.inl rfl))
    (fw (qf PassesOwn.never rfl (vp (pv 2)) (l5 rfl (cv (bZ (i:=4) dz.nd rfl (Or.inl rfl)) (cv (bZ (i:=5) dz.nd rfl (Or.inl rfl)) jJ)))
     (fw (Cj (PW.pt (Cz (uv (i6 dQ (i6 dQ (pv 3) (pv 4) (λ_ _=>rfl)) (pv 6) (λ_ _=>rfl))) (BL (uv (i6 dQ (i6 dQ (pv 3) (pv 6) (λ_ _=>rfl)) (pv 5) (λ_ _=>rfl))))))
      (fw (nv vg (sO (i6 dQ (pv 3) (pv 4) (λ_ _=>rfl)) (pv 5) set_list))) vR)))))
   (fw (kN (fS ja rfl B.tuple (by decide +kernel) (aI (p7 (NB:=["a","b","leads"]) (own:=2) (ixs:=[3]) rfl (kO (by kernel_rfl)) (vp (pv 2))
    (λC ex s3 H3 pn=>Dp K 0 1 CS rfl rfl rfl rfl rfl rfl)
    (λC ex s3 H3 pn=>u7 (uv (i6 (Hx K) (i6 (Hx K) (pv 2) (pv 0) (λ_ _=>rfl)) (pv 1) (λ_ _=>rfl)))) (λC ex s3 H3 pn=>tq (aI (pv 0) (aI (pv 1) bh)))) bh))))))),?_⟩
  have hn:=Hj h8
  have hn0:(0:Int)<=(n:Int):=by omega
  refine⟨_,rfl,n,rfl,h1,h8,λH1 c ws s1 hc0 hc hw=>?_⟩
  have hwl:ws.length=n * n:=by rw[hw.len,iG]
  have gw:OM.Wn n (OM.eQ n):=λp hp=>OM.fO.mp hp
  refine tG ?_
  refine⟨_,rfl,n,rfl,by omega,by omega,λD hD=>?_⟩
  rw[Jl]
  refine qt (λi σ' H'=>(∃v,σ'= [v,some (.int n)])/\ag H1 H'/\∃r:Nat->Addr,H' D=some (.lst ((List.range i).map λk=>V.ref (r k)))/\
   (∀k,k < i->H' (r k)=some (.lst ((List.range n).map λ_=>V.bl false))/\H1 (r k)=none/\r k≠D)/\∀j k,j < i->k < i->r j=r k->j=k)
   ?_ ?_ ?_
  ·exact⟨⟨none,rfl⟩,(ag.refl H1).put hD (BQ hD),λ_=>0,aq,λk hk=>absurd hk (Nat.not_lt_zero _),λj k hj=>absurd hj (Nat.not_lt_zero _)⟩
  ·rintro i σ' H' hi ⟨⟨v,rfl⟩,s2,r,hr0,hr1,hr2⟩
   refine qz ⟨by show 1<=sizeLine;rw[IV];omega,λp hp0=>⟨_,rfl,p,n,[.bl false],rfl,rfl,aq,by omega,by omega,by show 1 * (n:Int).toNat<=sizeLine;rw[IV];omega,λq hq0=>?_⟩⟩
   have hqp:q≠p:=by intro e;subst e;rw[aq] at hq0;cases hq0
   have hq1:H' q=none:=by rw[ao hqp] at hq0;exact hq0
   have hDp:D≠p:=ax hr0 hp0
   have hDq:D≠q:=ax hr0 hq1
   rw[Jl,Eu]
   refine⟨_,by rw[ao hDq,ao hDp];exact hr0,by rw[IC,KL,IV];omega,⟨_,rfl⟩,((s2.put (s2.free hp0) (BQ hp0)).put (s2.free hq1) (BQ hq0)).put hD (EJ (by rw[ao hDq,ao hDp];exact hr0)),λk=>if k=i then q else r k,?_,λk hk=>?_,λj k hj hk e=>?_⟩
   ·have e:(List.range i).map (λk=>V.ref (r k))=(List.range i).map (λk=>V.ref (if k=i then q else r k)):=J5 λk hk=>by
     have:=IH.mp hk
     rw[HY (by omega)]
    rw[aq,List.range_succ,KA,e]
    simp
   ·dsimp only
    by_cases e:k=i
    ·rw[HV e]
     exact⟨by rw[ao hDq.symm,aq],s2.free hq1,hDq.symm⟩
    ·rw[HY e]
     obtain⟨a1,a2,a3⟩:=hr1 k (by omega)
     exact⟨by rw[ao a3,ao (ax a1 hq1),ao (ax a1 hp0)];exact a1,a2,a3⟩
   ·dsimp only at e
    by_cases ej:j=i
    ·by_cases ek:k=i
     ·omega
     ·rw[HV ej,HY ek] at e
      exact absurd e.symm (ax (hr1 k (by omega)).1 hq1)
    ·by_cases ek:k=i
     ·rw[HY ej,HV ek] at e
      exact absurd e (ax (hr1 j (by omega)).1 hq1)
     ·rw[HY ej,HY ek] at e
      exact hr2 j k (by omega) (by omega) e
  rintro σ2 H2 ⟨_,s2,r,hr0,hr1,hr2⟩
  refine⟨⟨_,hr0⟩,?_⟩
  have sep:∀i,i < n->H1 (r i)=none:=λi hi=>(hr1 i hi).2.1
  have T0:TabAt n (λ_ _=>false) D r H2:=⟨hr0,λi hi=>(hr1 i hi).1,hr2,λi hi=>(hr1 i hi).2.2⟩
  refine⟨_,rfl,a,xs,rfl,Bc (H1:=H1) (BC s1 hq) (λi σ' H'=>(∃x y,σ'= [some (.int n),some (.ref a),some (.ref c),some (.ref D),x,y,none])/\ag H1 H'/\∃M,TabAt n M D r H'/\∀u v:Nat,M u v=true↔((u:Int),(v:Int))∈ps.take i)
   ⟨⟨none,none,rfl⟩,s2,_,T0,λu v=>by simp⟩ (λi σ' H' q=>q.2.1) ?_ ?_⟩
  ·rintro i x σ' H' hx ⟨⟨_,_,rfl⟩,s3,M,T,hM⟩
   obtain⟨p,hpi,b,rfl,hb⟩:=(hp.same (s1.trans s3)).at hx
   obtain⟨u,v,rfl,hu,hv⟩:=p6 wn (Ij hpi)
   refine xY hb ?_
   refine⟨_,rfl,_,rfl,D,_,u,_,rfl,rfl,.inl (.inl T.top),du hu,_,rfl,r u,_,v,v,rfl,rfl,T.row u hu,oO hv,⟨_,_,rfl⟩,s3.put (sep u hu) (EJ (T.row u hu)),_,T.set hu,λx y=>?_⟩
   rw[take_snoc hpi,<-iU,BI,hM]
  rintro σ3 H3 ⟨⟨x3,y3,rfl⟩,s3,M3,T3,hM3⟩
  rw[hp.len,take_all] at hM3
  refine⟨_,rfl,n,rfl,by omega,by omega,?_⟩
  rw[Jl]
  refine xm (λm σ' H'=>(∃x y z,σ'= [some (.int n),some (.ref a),some (.ref c),some (.ref D),x,y,z])/\ag H1 H'/\∃M,TabAt n M D r H'/\OM.Tab n ps M/\OM.A4 M m)
   ⟨⟨_,_,_,rfl⟩,s3,M3,T3,⟨λa b h=>by have:=wn _ ((hM3 a b).mp h);simp only at this;omega,λa b h=>(hM3 a b).mpr h,λa b h=>.one ((hM3 a b).mp h)⟩,λk a b hk=>absurd hk (Nat.not_lt_zero _)⟩ ?_ ?_
  ·rintro m σ' H' hm ⟨⟨_,_,_,rfl⟩,s4,M,T,TT,Th⟩
   rw[K9]
   refine⟨_,rfl,c,rfl,⟨ws,.inl (.inl (s4 _ _ hc))⟩,rZ (xs:=ws) (λi σ' H'=>(∃x y,σ'= [some (.int n),some (.ref a),some (.ref c),some (.ref D),x,y,some (.int m)])/\ag H1 H'/\∃M',TabAt n M' D r H'/\OM.Phase M M' m λu v=>((u:Int),(v:Int))∈(OM.eQ n).take i)
    ⟨⟨_,_,rfl⟩,s4,M,T,fx (OM.Phase.start M m) λa b=>by simp⟩ (λi σ' H' _ q=>.inl (.inl (q.2.1 _ _ hc))) ?_ ?_⟩
   ·rintro i x σ' H' hx ⟨⟨_,_,rfl⟩,s5,M',T',Ph⟩
    obtain⟨p,hpi,b,rfl,hb⟩:=(hw.same s5).at hx
    obtain⟨u,v,rfl,hu,hv⟩:=p6 gw (Ij hpi)
    refine xY hb ?_
    have st:=Ph.step u v
    refine⟨_,rfl,_,rfl,D,_,u,_,rfl,rfl,.inl (.inl T'.top),du hu,_,rfl,r u,_,m,_,rfl,rfl,.inl (.inl (T'.row u hu)),du hm,_,rfl,?_⟩
    by_cases c1:M' u m=true
    ·refine GK c1 ?_
     refine⟨_,rfl,_,rfl,D,_,m,_,rfl,rfl,.inl (.inl T'.top),du hm,_,rfl,r m,_,v,_,rfl,rfl,.inl (.inl (T'.row m hm)),du hv,_,rfl,?_⟩
     by_cases c2:M' m v=true
     ·refine GK c2 ?_
      rw[HV ⟨c1,c2⟩] at st
      refine⟨_,rfl,_,rfl,D,_,u,_,rfl,rfl,.inl (.inl T'.top),du hu,_,rfl,r u,_,v,v,rfl,rfl,T'.row u hu,oO hv,⟨_,_,rfl⟩,s5.put (sep u hu) (EJ (T'.row u hu)),_,T'.set hu,fx st λa b=>?_⟩
      rw[take_snoc hpi];exact iU
     ·refine GA c2 ?_
      rw[HY λz=>c2 z.2] at st
      refine⟨⟨_,_,rfl⟩,s5,_,T',fx st λa b=>?_⟩
      rw[take_snoc hpi];exact iU
    ·refine GA c1 ?_
     rw[HY λz=>c1 z.1] at st
     refine qQ ⟨⟨_,_,rfl⟩,s5,_,T',fx st λa b=>?_⟩
     rw[take_snoc hpi];exact iU
   ·rintro σ' H' ⟨⟨_,_,rfl⟩,s5,M',T',Ph⟩
    rw[hw.len,take_all] at Ph
    have dn:=Ph.done (n:=n) (λa b ha hb=>OM.fO.mpr ⟨⟨by simp,by simp;omega⟩,by simp,by simp;omega⟩) TT.inn Th
    exact⟨⟨_,_,_,rfl⟩,s5,M',T',TT.phase Ph,dn.1⟩
  rintro σ4 H4 ⟨⟨x4,y4,z4,rfl⟩,s4,M,T,TT,Th⟩
  refine tG ⟨_,rfl,c,rfl,⟨ws,.inl (.inl (s4 _ _ hc))⟩,λD' hD'=>AG (xs:=ws) (λi σ' H'=>(∃x y,σ'= [x,y,some (.ref D)])/\ag H4 H'/\∃vs,H' D'=some (.lst vs)/\aE K H' vs (((OM.eQ n).take i).filter λp=>M p.1.toNat p.2.toNat))
   ⟨⟨_,_,rfl⟩,(ag.refl H4).put hD' (BQ hD'),[],aq,.nil⟩ (λi σ' H' _ q=>.inl (.inl (q.2.1 _ _ (s4 _ _ hc)))) ?_ ?_⟩
  ·rintro i x σ' H' hx ⟨⟨_,_,rfl⟩,s5,vs,hv,hpv⟩
   obtain⟨p,hpi,b,rfl,hb⟩:=(hw.same (s4.trans s5)).at hx
   obtain⟨u,v,rfl,hu,hv'⟩:=p6 gw (Ij hpi)
   refine xY hb ?_
   have T':=T.same s5
   refine⟨_,rfl,_,rfl,D,_,u,_,rfl,rfl,.inl (.inl T'.top),du hu,_,rfl,r u,_,v,_,rfl,rfl,.inl (.inl (T'.row u hu)),du hv',_,rfl,?_⟩
   by_cases c1:M u v=true
   ·refine GK c1 ?_
    refine⟨_,rfl,_,rfl,by show 2<=sizeLine;rw[IV];omega,λp hp0=>?_⟩
    have hpD:D'≠p:=ax hv hp0
    refine⟨vs,by rw[ao hpD];exact hv,?_,⟨_,_,rfl⟩,(s5.put (s5.free hp0) (BQ hp0)).put hD' (EJ (by rw[ao hpD];exact hv)),_,aq,?_⟩
    ·rw[hpv.len]
     refine Nat.lt_of_le_of_lt (KP ..) ?_
     rw[Jf,iG,IV];omega
    ·rw[take_snoc hpi,List.filter_append,List.filter_cons_of_pos (by simpa using c1),List.filter_nil]
     have g1:fk H' (upd H' p (.tup [.int u,.int v])):=fk.new hp0
     have g2:∀o,fk (upd H' p (.tup [.int u,.int v])) (upd (upd H' p (.tup [.int u,.int v])) D' o):=λo=>fk.list (by rw[ao hpD];exact hv)
     refine aE.snoc ?_ (hpv.grow (g1.trans (g2 _)))
     exact dA.grow (.inl (.inl aq)) (g2 _)
   ·refine GA c1 ?_
    refine⟨⟨_,_,rfl⟩,s5,vs,hv,?_⟩
    rw[take_snoc hpi,List.filter_append,List.filter_cons_of_neg (by simpa using c1),List.filter_nil,JS]
    exact hpv
  ·rintro σ' H' ⟨_,s5,vs,hv,hpv⟩
   rw[hw.len,take_all] at hpv
   refine⟨⟨_,hv⟩,D',vs,rfl,.inl ⟨.inl (.inl hv),λt ht=>?_⟩⟩
   have sA:ag H H':=(s1.trans s4).trans s5
   refine k _ t vs (sA.put (sA.free ht) (BQ ht)) (sA.free ht) aq ?_
   have e:((OM.eQ n).filter λp=>M p.1.toNat p.2.toNat)=OM.aX n (OM.Tr (OM.Mem ps)):=by
    unfold OM.aX
    refine List.filter_congr λp hp=>?_
    obtain⟨u,v,rfl,hu,hv⟩:=p6 gw hp
    have:=TT.all wn Th u v
    simp only[Jl]
    rw[Jz,this]
    simp
   rw[e] at hpv
   exact hpv.grow (fk.new ht)
end
end RO
namespace RO
open PySem L2 RM
section
variable {P:Program}{w:World}{K:Frag}{mg:Str->Option Value}{base:Heap}{ca:Str->Addr}
def HL {k:Nat}{f:Addr}{fd:FuncData}{ps:List Str}{sp:Sp}(F:dw P w K mg base Dr k f fd ps sp):dw P w K mg base (o5 P w) k f fd ps sp:=
 ⟨F.len,λA outer s H args us vs Q E hr he hb hv hs=>K2 (F.run A outer s H args us vs Q E hr he hb hv hs) λr s' h=>by
  cases r with
  |ok x=>cases x <;> exact h
  |error e=>exact h.elim⟩
def ud {G H:Hp}(s:ag G H){ws:List V}{ps:List Pr}(h:aE K H ws ps):aE K (ku G H) ws ps:=Paired.mapP h λv p ⟨a,e,q⟩=>⟨a,e,mn s q⟩
def l6 {ds:List D}(h:bF ds≠.bad):∃(n:Nat) (d:D) (ps:List Pr),ds= [.int n,d]/\kh d=some (ps.map aA)/\1<=n/\n<=8/\OM.Wn n ps/\bF ds=.ok (.tuple ((OM.aX n (OM.Tr (OM.Mem ps))).map aA)) false:=by
 unfold bF at h
 split at h
 ·rename_i n d
  cases q:kh d with
  |none=>rw[q] at h;exact absurd rfl h
  |some es=>
   rw[q] at h
   dsimp only at h
   cases q2:dc es with
   |none=>rw[q2] at h;exact absurd rfl h
   |some ps=>
    rw[q2] at h
    dsimp only at h
    by_cases c:1<=n/\n<=8/\OM.Wn n.toNat ps
    ·have e:((n.toNat:Nat):Int)=n:=by omega
     refine⟨n.toNat,d,ps,by rw[e],by rw[q,iV q2],by omega,by omega,c.2.2,?_⟩
     unfold bF
     dsimp only
     rw[q]
     dsimp only
     rw[q2]
     dsimp only
     rw[HV c]
    ·rw[HY c] at h;exact absurd rfl h
 ·exact absurd rfl h
def sX {f g:Addr}{fd gd:FuncData}(F:k9 K mg "closed" j7 ["many","pairs"] f fd)(E:k9 K mg "every_pair" gK ["many"] g gd)(B:lB mg):gM P w K mg base ca "closed" ["many","pairs"] 3 bF:=by
 refine⟨⟨f,fd,F.mg,F.F.kp,F.b,((HL (xw F E (yX E B) B)).mono (by decide)).imp ?_⟩,λds h=>?_⟩
 ·rintro vs H Q X ⟨G,ds,s,hl,r,h⟩
  have hb:bF ds≠.bad:=λz=>by rw[z] at h;exact h
  obtain⟨n,d,ps,rfl,hd,h1,h8,wn,e⟩:=l6 hb
  rw[e] at h
  cases r with
  |cons r1 r=>
   cases r with
   |cons r2 r=>
    cases r
    cases r1
    obtain⟨a,xs,rfl,hq,hr⟩:=(jr.seq (B:=none) (G:=G) (H:=G) (.inl r2) hd (ag.refl _))
    refine⟨n,a,xs,ps,rfl,h1,h8,hq.elim (λq=>.inl (s.seq q)) (λq=>.inr (q.grow s.grow)),(hr.pairs).grow s.grow,wn,λH' t ws hh ht ht' hp=>?_⟩
    have s2:=s.trans hh
    refine h (.ref t) (ku G H') H' hh oH (qM s2) (λb m hb=>by rw[uP hh m];exact hb) ?_
    exact .tup (mn s2 (.inl (.inl ht'))) (aE.rps (ud s2 hp))
 ·obtain⟨n,d,ps,rfl,_⟩:=l6 h
  rfl
end
end RO
section
namespace RO
open PySem L2 RM
def Ct {K:Frag}{ca:Str->Addr}(vs:List V)(H:Hp)(Q:VK)(E:XK)(h:vQ K vs H Q E):z6 K ca 1 CY vs H Q E:=by
 obtain⟨a,ns,rfl,hS,q⟩:=h
 refine⟨H,[b7 ns],ag.refl _,rfl,.cons (.scr hS) .nil,?_⟩
 rw[Fq]
 intro v G' H' s1 s2 s3 s4 fv
 have fv:Rp K G' v (.bool true):=fv
 cases fv
 exact q H' s1
def all_mk:BO:=by
 intro l w K h mg fa f22 X G hfa od22 an22 sl22 oc22 kV22 dc22 pm22 cd22 ct22 tMOST_THINGS F1 F2 F3 F4 F5 F6 F7 F8 F9 F10 F11 F12 F13 F14 F15 F16 F17 F18 F19 F20 F21 a22 l22 c22 k22 zB yMOST_THINGS
 have e:=hfa.symm.trans (PySem.W.mg_of X G a22)
 cases e
 have B:lB mg:=FC X G zB
 have fJ:=PySem.W.mg_of X G yMOST_THINGS
 obtain⟨f1,d1,bo⟩:=F1.ex
 obtain⟨f2,d2,cH⟩:=F2.ex
 obtain⟨f3,d3,dS⟩:=F3.ex
 obtain⟨f4,d4,dU⟩:=F4.ex
 obtain⟨f5,d5,jG⟩:=F5.ex
 obtain⟨f6,d6,fQ⟩:=F6.ex
 obtain⟨f7,d7,cX⟩:=F7.ex
 obtain⟨f8,d8,df⟩:=F8.ex
 obtain⟨f9,d9,cK⟩:=F9.ex
 obtain⟨f10,d10,dh⟩:=F10.ex
 obtain⟨f11,d11,c7⟩:=F11.ex
 obtain⟨f12,d12,ar⟩:=F12.ex
 obtain⟨f13,d13,aR⟩:=F13.ex
 obtain⟨f14,d14,cn⟩:=F14.ex
 obtain⟨f15,d15,cZ⟩:=F15.ex
 obtain⟨f16,d16,bD⟩:=F16.ex
 obtain⟨f17,d17,aP⟩:=F17.ex
 obtain⟨f18,d18,cj⟩:=F18.ex
 obtain⟨f19,d19,cc⟩:=F19.ex
 obtain⟨f20,d20,bE⟩:=F20.ex
 obtain⟨f21,d21,cI⟩:=F21.ex
 have U22:=tS (st:=RQ.jc) l22 c22 k22
 have E9:k9 K mg "law" RQ.jc ["script"] fa _:=⟨PySem.W.mg_of X G a22,U22,U22.binds (ps:=["script"]) λ_ _ _ _ _ _=>z8 λ_=>rfl⟩
 obtain⟨ca,hca⟩:∃ca:Str->Addr,True:=⟨λ_=>0,trivial⟩
 refine⟨PySem.W.fnOf "law" "law" (fq RQ.jc) (bY RQ.jc) (av RQ.jc) .none kV22 dc22 pm22 an22 cd22 ct22,λs v=>.of_eq rfl,λbase _ _=>?_⟩
 have c9:=(RQ.pG (P:=l.prog) (w:=w) (base:=base) (ca:=ca) bo B).imp uO
 have gn:=(RQ.oS (P:=l.prog) (w:=w) (base:=base) (ca:=ca) cH B c9).imp AS
 have kE:=(RQ.rB (P:=l.prog) (w:=w) (base:=base) (ca:=ca) dS B c9 fJ).imp CC
 have kI:=RQ.qy (P:=l.prog) (w:=w) (base:=base) (ca:=ca) dU B gn
 have Ai:=RQ.mS (P:=l.prog) (w:=w) (base:=base) (ca:=ca) jG B
 have mh:=sX (P:=l.prog) (w:=w) (base:=base) (ca:=ca) fQ jG B
 have jw:=(RQ.pO (P:=l.prog) (w:=w) (base:=base) (ca:=ca) cX B).imp C5
 have jz:=RQ.o7 (P:=l.prog) (w:=w) (base:=base) (ca:=ca) df B kE kI mh jw
 have ij:=RQ.nI (P:=l.prog) (w:=w) (base:=base) (ca:=ca) cK B
 have jh:=RQ.pB (P:=l.prog) (w:=w) (base:=base) (ca:=ca) dh B
 have ju:=RQ.qh (P:=l.prog) (w:=w) (base:=base) (ca:=ca) c7 B ij jh
 have ay:=RQ.nF (P:=l.prog) (w:=w) (base:=base) ar B
 have cp:=RQ.mX (P:=l.prog) (w:=w) (base:=base) (ca:=ca) aR B
 have gP:=RQ.ml (P:=l.prog) (w:=w) (base:=base) (ca:=ca) cn B
 have jq:=RQ.pX (P:=l.prog) (w:=w) (base:=base) cZ B ay
 have dG:=RQ.jW (P:=l.prog) (w:=w) (base:=base) bD B ay
 have bX:=RQ.lu (P:=l.prog) (w:=w) (base:=base) (ca:=ca) aP B
 have gN:=RQ.lT (P:=l.prog) (w:=w) (base:=base) (ca:=ca) cj B bX ay dG
 have fY:=RQ.l4 (P:=l.prog) (w:=w) (base:=base) (ca:=ca) cc B cp bX
 have dF:=RQ.kf (P:=l.prog) (w:=w) (base:=base) (ca:=ca) bE B cp fY
 have iD:=RQ.nN (P:=l.prog) (w:=w) (base:=base) cI B ay
 have ES:=RQ.Be (P:=l.prog) (w:=w) (base:=base) (ca:=ca) E9 B ju gP jz dF gN ay jq iD
 exact dw.imp (sp:=z6 K ca 1 CY) ES Ct
end RO
theorem PySem.Challenge.cw_rowsorder_k01_orders_known_holds : PySem.Challenge.rw_rowsorder_k01_orders_known.Holds :=
 RO.head RO.all_mk
end
