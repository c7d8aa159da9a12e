import PyProof.Rows.All
import KE.RegKIsAll
import KE.KSortTup
import KE.KFromBytes
import KE.KStateDown
import Wide.FinOn
import PySem.Challenge.RW_rowsorder_k07_what_is_no_order
set_option Elab.async false
set_option linter.all false
set_option maxRecDepth 100000
set_option maxHeartbeats 1000000
def KO:=@PySem.wpAny_bind
def KP:=@List.getElem?_eq_getElem
def KQ:=@PySem.Heap.get?_push_of_some
def KR:=@Nat.le_refl
def KS:=@PySem.wpAny_pure
def KU:=@if_pos
def KW:=@List.mem_cons_of_mem
def KY:=@PySem.Heap.lt_size
def KZ:=@List.mem_cons
def K0:=@if_neg
def K1:=@List.size_toArray
def K2:=@List.getElem?_map
def K3:=@List.mem_cons_self
def K4:=@List.getElem?_set_self
def K5:=@List.getElem?_set_ne
def K6:=@Bool.false_eq_true
def K7:=@decide_eq_true
def K8:=@List.mem_of_getElem?
def K9:=@List.mem_map
def Ld:=@List.getElem?_eq_some_iff
def Lf:=@PySem.Heap.get?_push_size
def Lg:=@decide_eq_false
def Lh:=@Bool.false_ne_true
def Lj:=@Nat.lt_of_lt_of_le
def Lk:=@List.length_map
def Ll:=@List.mem_range
def Lm:=@Array.getElem?_eq_getElem
def Ln:=@Nat.lt_irrefl
def Lo:=@PySem.sizeLine_eq
def Lp:=@List.mem_append
def Lq:=@List.mem_iff_getElem
def Lr:=@Nat.ne_of_lt
def Ls:=@List.mem_append_right
def Lu:=@List.length_cons
def Lv:=@Array.getD_eq_getD_getElem?
def Lw:=@List.getElem?_append_right
def Lx:=@PySem.W.mg_of
def Lz:=@if_false
def LA:=@List.getElem?_append_left
def LB:=@Bool.and_eq_true
def LC:=@List.length_append
def LD:=@Nat.zero_le
def LF:=@PySem.W.kia_one
def LG:=@List.nodup_cons
def LH:=@Array.getElem?_eq_some_iff
def LI:=@PySem.wpAny_setState_of
def LJ:=@PySem.Heap.get?_update_self
def LK:=@Int.toNat_natCast
def LL:=@List.map_cons
def LM:=@Nat.lt_or_ge
def LN:=@PySem.Heap.get?_update_other
def LO:=@if_true
def LP:=@PySem.mem_of_lookup
def LQ:=@List.length_set
def LR:=@PySem.wpAny_mono
def LS:=@List.pairwise_map
def LU:=@List.length_take
def LV:=@List.getElem_mem
def LW:=@List.mem_singleton
def LX:=@List.getElem?_replicate
def LY:=@PySem.wpAny_truthy_bool
def LZ:=@Bool.eq_iff_iff
def L3:=@List.toList_toArray
def L4:=@Nat.le_trans
def L5:=@PySem.wpAny_holding
def L6:=@List.getD_eq_getElem?_getD
def L7:=@List.mem_filterMap
def L8:=@List.length_replicate
def L9:=@Array.getElem?_toList
def Ma:=@PySem.Heap.size_push
def Mb:=@PySem.boot_len
def Mc:=@Option.isSome_iff_exists
def Me:=@List.Pairwise.imp_of_mem
def Mf:=@List.set_eq_of_length_le
def Mg:=@List.eq_of_mem_replicate
def Mh:=@PySem.Value.isInt_shape
def Mi:=@PySem.F.plainAttrs_list
def Mj:=@List.map_congr_left
def Mk:=@PyProof.Rows.F.plain_set_update_loop
def Ml:=@Int.zero_add
def Mm:=@PySem.wpAny_passesOwn
def Mn:=@List.getElem?_eq_none
def Mo:=@List.append_assoc
def Mp:=@List.take_add_one
def Mq:=@decide_eq_true_eq
def Mr:=@List.mem_append_left
def Ms:=@Array.mem_toList_iff
def Mu:=@List.pairwise_iff_getElem
def Mv:=@PySem.Around.under_plainId
def Mw:=@List.all_eq_true
def My:=@Nat.lt_trans
def Mz:=@Nat.zero_add
def MA:=@List.nodup_range
def MB:=@PySem.F.called_set
def MC:=@List.lookup_cons
def MD:=@List.replicate_succ
def ME:=@Bool.not_true
def MF:=@List.append_nil
def MG:=@PySem.codeAny_builtin
def MH:=@List.map_append
def MI:=@PySem.W.cellsFrom_some
def MJ:=@List.take_of_length_le
def ML:=@Array.getElem?_eq_none
def MM:=@PySem.SeqAt.canLay_of_shaped
def MN:=@PySem.wpAny_pyIter_list
def MO:=@PySem.wpAny_newObj_type
def MP:=@Nat.le_of_lt
def MQ:=@PySem.codeAny_mono
def MR:=@PySem.wpAny_setField
def MS:=@Nat.mul_le_mul
def MT:=@PyProof.Rows.callWith_type1
def MU:=@List.mem_of_mem_take
def MV:=@PySem.wpAny_askSetting
def MW:=@PySem.wpAny_call_entry
def MX:=@List.any_cons
def MY:=@List.filterMap_cons
def MZ:=@Array.length_toList
def M1:=@Array.toList_append
def M4:=@List.mem_filter
def M5:=@PySem.wpAny_execs_nil
def M6:=@PySem.wpAny_Call_Name_kw
def M7:=@PySem.F.args_tuple_add_2
def M8:=@List.length_erase_of_mem
def M9:=@PySem.call_meets
def Na:=@PySem.isSubtype_type
def Nb:=@List.flatten_cons
def Nc:=@Bool.not_eq_true'
def Nd:=@Nat.lt_trichotomy
def Nf:=@List.ext_getElem?
def Ng:=@List.length_range
open List (length_nil of_mem_zip foldl_cons not_mem_nil map_map set_set)
open PySem.W (Frag)
open PySem.PyData (int)
namespace HD
open PySem PySem.W
noncomputable abbrev Bm:=@PySem.W.Fast.tw10156331382660048174
noncomputable abbrev Hk:=@PySem.W.Fast.tw11892475500146522536
noncomputable abbrev JM:=@PySem.W.Fast.tw6613529449190102663
noncomputable abbrev Gh:=@PySem.W.Fast.tw14364793385576792824
noncomputable abbrev Fv:=@PySem.W.Fast.tw17154629097778926822
noncomputable abbrev CS:=@PySem.W.Fast.tw12822647523644345616
noncomputable def wz (p:Program):Thread:=
 ⟨do
  let code <-Fv p.main
  let frame <-CS code mainNs mainNs
  let _ <-run (.body (behindTheImports p) {scope:=p.main.scope,locals:=mainNs,globals:=mainNs,cells:=[],code,frame:=some frame})
  ret .none,
  .builtin "claim.caller" {},default,[]⟩
def A7 (p:Program):topStub p=wz p:=by
 unfold topStub wz Fv CS
 rw[<-PySem.W.Fast.te17154629097778926822,<-PySem.W.Fast.te12822647523644345616]
noncomputable def kE (p:Program)(w:World)(n₀:Nat)(ann:Option Value):Nat->SharedT->Thread->Option SharedT
 | 0,_,_=>none
 |n + 1,s,t=>match through t with
  |true=>some s
  |false=>match JM n₀ ann t with
   |false=>none
   |true=>match Bm (Hk Gh) p w s t with
    |some (s',t')=>kE p w n₀ ann n s' t'
    |none=>none
theorem rW {p:Program}{w:World}{n₀:Nat}{ann:Option Value}:∀{n:Nat} {s s':SharedT} {t:Thread},kE p w n₀ ann n s t=some s'->topRun treeTable p w n₀ ann n s.abs t=some s'.abs
 | 0,_,_,_,h=>by cases h
 |n + 1,s,s',t,h=>by
  unfold kE at h
  unfold topRun
  cases ht:through t with
  |true=>rw[ht] at h;cases h;rfl
  |false=>
   rw[ht] at h
   have hq:JM n₀ ann t=stepOk n₀ ann t:=by unfold JM;rw[<-PySem.W.Fast.te6613529449190102663]
   dsimp only at h
   rw[hq] at h
   cases hk:stepOk n₀ ann t with
   |false=>rw[hk] at h;cases h
   |true=>
    rw[hk] at h
    have hq:Bm (Hk Gh) p w s t=stepT (denote treeTable) p w s t:=by unfold Bm Hk Gh;rw[<-PySem.W.Fast.te10156331382660048174,<-PySem.W.Fast.te11892475500146522536,<-PySem.W.Fast.te14364793385576792824]
    dsimp only at h
    rw[hq] at h
    cases hs:stepT (denote treeTable) p w s t with
    |none=>rw[hs] at h;cases h
    |some r=>obtain⟨s₂,t₂⟩:=r;rw[hs] at h;rw[stepT_spec hs];exact rW h
def treeOf (l:List Obj):BT:=(l.foldl (λ(x:BT×Nat) o=>(x.1.ins x.2 o,x.2 + 1)) (.nil,0)).1
noncomputable def CU (P:Params):BT:=treeOf (boot_heap P).objs.toList
abbrev pk:Nat:=11
abbrev A2:Life:={}
def boot_abs (P:Params):absHeap (CU P) pk A2=boot_heap P:=by kernel_rfl
def zJ (w:World):((boot_heap w.params).isNs mainGlobals && (Array.mk ([]:List GenState)).size == 0,(boot_heap w.params).objs.size,(boot_heap w.params).nsMap mainGlobals "__annotations__")=(true,pk,some (.ref 6)):=by kernel_rfl
noncomputable def tZ (w:World)(os:OsState):SharedT:=⟨CU w.params,pk,A2,Array.mk [],boot_drawn,boot_toks,os⟩
noncomputable def zp (p:Program)(w:World)(s:Shared):Bool:=staticsOk (importedModules p.main.body) (boot_heap w.params) s.heap && namesBound p s.heap && gensDone s && laidKept (boot_heap w.params) s.heap
def DM {p q:Program}{loose:List Str}{Xt:Shared->Bool}{α:Type}{Yf:Shared->α}{Ya:World->α}{N:Nat}{g0:Bool}
  (e:opening p=plainProg p.main.scope.names) (hN:Nat.ble 600 N=true) (f:∀s,fenceModules? p s=some s)
  (run:∀(w:World) (os:OsState),(kE p w pk (some (.ref 6)) N (tZ w os) (wz p)).map (λs=>(zp p w s.abs,openSeen q loose (importedModules p.main.body) Xt g0 s.abs,Yf s.abs))=some (true,openGood q loose,Ya w)):LeftO p q loose Xt Yf Ya N g0:=λw=>by
 obtain⟨⟨h,gs,d,k,os⟩,e,e'⟩:=Option.map_eq_some_iff.mp (boot_open e hN f w)
 obtain⟨rfl,rfl,rfl,rfl⟩:h=boot_heap w.params/\gs=Array.mk []/\d=boot_drawn/\k=boot_toks:=by simpa using e'
 obtain⟨z1,z2,z3⟩:_/\_/\_:=by simpa only [Prod.mk.injEq] using zJ w
 obtain⟨s',r,ls⟩:=Option.map_eq_some_iff.mp (run w os)
 obtain⟨l1,l2,l3⟩:_/\_/\_:=by simpa only [Prod.mk.injEq] using ls
 have r:=rW r
 have ha:(tZ w os).abs=⟨boot_heap w.params,Array.mk [],boot_drawn,boot_toks,os⟩:=by
  show Shared.mk (absHeap (CU w.params) pk A2) _ _ _ _=_
  rw[boot_abs]
  rfl
 rw[ha,<-A7] at r
 have t:topFrom treeTable p w N ⟨boot_heap w.params,Array.mk [],boot_drawn,boot_toks,os⟩=some s'.abs:=by
  unfold topFrom
  dsimp only
  rw[z1,z2,z3,r]
  show (match zp p w s'.abs with |true=>_ |false=>_)=_
  rw[l1]
 unfold openEnds
 rw[e]
 show (topFrom treeTable p w N _).map _=_
 rw[t]
 exact congrArg some (Prod.ext l2 l3)
theorem map_two {α β γ:Type}{o:Option α}{f:α->β}{g:α->γ}{b:β}{c:γ}(h:o.map f=some b)(k:o.map g=some c):o.map (λs=>(f s,g s))=some (b,c):=by
 cases o with
 |none=>cases h
 |some x=>cases h;cases k;rfl
noncomputable abbrev Ci (p:Program)(N:Nat)(w:World)(os:OsState):Option SharedT:=kE p w pk (some (.ref 6)) N (tZ w os) (wz p)
def EK {p q:Program}{loose:List Str}{Xt:Shared->Bool}{α:Type}{Yf:Shared->α}{Ya:World->α}{N:Nat}{g0:Bool}
  (e:opening p=plainProg p.main.scope.names) (hN:Nat.ble 600 N=true) (f:∀s,fenceModules? p s=some s)
  (r1:∀w os,(Ci p N w os).map (λs=>(zp p w s.abs,(openSeen q loose (importedModules p.main.body) Xt g0 s.abs).1,Yf s.abs))=some (true,(openGood q loose).1,Ya w))
  (r2:∀w os,(Ci p N w os).map (λs=>(openSeen q loose (importedModules p.main.body) Xt g0 s.abs).2)=some (openGood q loose).2):LeftO p q loose Xt Yf Ya N g0:=
 DM e hN f λw os=>by
  have h:=map_two (r1 w os) (r2 w os)
  unfold Ci at h
  cases z:kE p w pk (some (.ref 6)) N (tZ w os) (wz p) with
  |none=>rw[z] at h;cases h
  |some x=>
   rw[z] at h
   simp only[Option.map_some,Option.some.injEq,Prod.mk.injEq] at h ⊢
   exact⟨h.1.1,Prod.ext h.1.2.1 h.2,h.1.2.2⟩
section
open PyProof.Rows
section
variable (q : Program) (loose mods : List Str) (Xt : Shared → Bool) (g0 : Bool) (s : Shared)
noncomputable abbrev o1 := seen ((recsOf q).map (·.name)) (ownsOf q) [] { s with gens := Array.mk [] }
noncomputable abbrev o2 := s.heap.bltView
noncomputable abbrev o3 : Bool :=
  let lw := looseW q loose
  let h := s.heap
  h.keysOk lw ((recsOf q).map (·.name)) ((litsOf q).map (·.1)) ((clssOf q lw).map (·.name)) && h.accountedOkI mods && h.isNs mainGlobals && h.isNs builtinsNs && tablesOk q h && Xt s && (if g0 then s.gens.size == 0 else !leftWithCleanup s.gens)
noncomputable abbrev o4 : Bool := tabsOk q s
noncomputable abbrev o5 := pinSeenD q (drecsOf q) s
noncomputable abbrev o6 := plainSeenE q (looseW q loose) s
noncomputable abbrev o7 := plainSeenD q loose s
noncomputable abbrev o8 := wideSeen q s
noncomputable abbrev o9 := clsSeenW q loose s
end
theorem left_in5 {p q : Program} {loose : List Str} {Xt : Shared → Bool} {α : Type} {Yf : Shared → α} {Ya : World → α} {N : Nat} {g0 : Bool}
    (e : opening p = plainProg p.main.scope.names) (hN : Nat.ble 600 N = true) (f : ∀ s, fenceModules? p s = some s)
    (r1 : ∀ w os, (Ci p N w os).map (fun s => (zp p w s.abs, Yf s.abs)) = some (true, Ya w))
    (r2 : ∀ w os, (Ci p N w os).map (fun s => o1 q s.abs) = some (expectedOf q))
    (r3 : ∀ w os, (Ci p N w os).map (fun s => (o2 s.abs, o3 q loose (importedModules p.main.body) Xt g0 s.abs)) = some (bltViewBooted, true))
    (r4 : ∀ w os, (Ci p N w os).map (fun s => (o6 q loose s.abs, o7 q loose s.abs, o8 q s.abs, o9 q loose s.abs)) = some (plainGoodE q (looseW q loose), plainGoodD q loose, wideGood q, clsGoodW q loose)) 
    (r5 : ∀ w os, (Ci p N w os).map (fun s => (o4 q s.abs, o5 q s.abs)) = some (true, pinGoodD (drecsOf q))) : LeftO p q loose Xt Yf Ya N g0 :=
  DM e hN f fun w os => by
    have h1 := r1 w os
    have h2 := r2 w os
    have h3 := r3 w os
    have h4 := r4 w os
    have h5 := r5 w os
    unfold Ci at h1 h2 h3 h4 h5
    cases z : kE p w pk (some (.ref 6)) N (tZ w os) (wz p) with
    | none => rw [z] at h1; cases h1
    | some x =>
      rw [z] at h1 h2 h3 h4 h5
      simp only [Option.map_some, Option.some.injEq, Prod.mk.injEq] at h1 h2 h3 h4 h5 ⊢
      exact ⟨h1.1, Prod.ext h2 (Prod.ext h3.1 (Prod.ext h3.2 (Prod.ext h5.1 (Prod.ext h5.2 (Prod.ext h4.1 (Prod.ext h4.2.1 (Prod.ext h4.2.2.1 h4.2.2.2))))))), h1.2⟩
end
end HD
section
set_option Elab.async false
namespace L2
open PySem PySem.Spec PyProof.Rows
abbrev Key:=Sum Int Str
def sx:Key->Value->Bool
 | .inl k,v=>Value.isInt k v
 | .inr x,v=>Value.isStrOf x v
def Jr (w:World):Key->Int
 | .inl k=>hashInt k
 | .inr x=>hashStr w x
theorem bY:∀{k:Key} {v:Value},sx k v=true->(∃i t,k=Sum.inl i/\v=Value.int i t)\/(∃x t,k=Sum.inr x/\v=Value.str x t)
 | .inl i,v,h=>by
  obtain⟨t,e⟩:=Mh (k:=i) (v:=v) h
  exact .inl ⟨i,t,rfl,e⟩
 | .inr x,v,h=>by
  obtain⟨t,e⟩:=Value.isStrOf_shape (x:=x) (v:=v) h
  exact .inr ⟨x,t,rfl,e⟩
def AF (i:Int)(t:Tok):sx (.inl i) (.int i t)=true:=by simp[sx,Value.isInt]
def Ay (x:Str)(t:Tok):sx (.inr x) (.str x t)=true:=by simp[sx,Value.isStrOf]
def FQ (a b:Int):decide ((Sum.inl a:Key)=Sum.inl b)=(a == b):=by
 by_cases e:a=b
 ·subst e;simp
 ·have h:¬(Sum.inl a:Key)=Sum.inl b:=λq=>e (Sum.inl.inj q)
  rw[Lg h]
  exact (beq_eq_false_iff_ne.mpr e).symm
def GQ (a b:Str):decide ((Sum.inr a:Key)=Sum.inr b)=decide (a=b):=by
 by_cases e:a=b
 ·subst e;simp
 ·have h:¬(Sum.inr a:Key)=Sum.inr b:=λq=>e (Sum.inr.inj q)
  rw[Lg h,Lg e]
def FA (a:Int)(b:Str):decide ((Sum.inl a:Key)=Sum.inr b)=false:=Lg (λq=>nomatch q)
def FO (a:Str)(b:Int):decide ((Sum.inr a:Key)=Sum.inl b)=false:=Lg (λq=>nomatch q)
def dE (prog:Program)(w:World):PySem.KeyKind prog w Key where
 is:=sx
 hash:=Jr w
 inj:=λv a b ha hb=>by
  rcases bY ha with⟨i,t,rfl,rfl⟩ | ⟨x,t,rfl,rfl⟩
  ·rcases bY hb with⟨j,u,rfl,e⟩ | ⟨y,u,rfl,e⟩
   ·injection e with e1 _;rw[e1]
   ·exact nomatch e
  ·rcases bY hb with⟨j,u,rfl,e⟩ | ⟨y,u,rfl,e⟩
   ·exact nomatch e
   ·injection e with e1 _;rw[e1]
 byValue:=λk v h=>by
  rcases bY h with⟨i,t,rfl,rfl⟩ | ⟨x,t,rfl,rfl⟩ <;> rfl
 pyHash:=λhv h=>by
  rcases bY hv with⟨i,t,rfl,rfl⟩ | ⟨x,t,rfl,rfl⟩
  ·exact wpAny_pyHash_int h
  ·exact wpAny_pyHash_str h
 eqBool:=λhu hv h=>by
  rcases bY hu with⟨i,t,rfl,rfl⟩ | ⟨x,t,rfl,rfl⟩
  ·rcases bY hv with⟨j,u,rfl,rfl⟩ | ⟨y,u,rfl,rfl⟩
   ·rw[FQ] at h;exact wpAny_eqBool_int h
   ·rw[FA] at h;exact SeqAt.EqAt.int_str i t y u _ _ _ _ h
  ·rcases bY hv with⟨j,u,rfl,rfl⟩ | ⟨y,u,rfl,rfl⟩
   ·rw[FO] at h;exact SeqAt.EqAt.str_int x t j u _ _ _ _ h
   ·rw[GQ] at h;exact wpAny_eqBool_str h
 «strs»:=λk x t v h=>by
  rcases bY h with⟨i,u,rfl,e⟩ | ⟨y,u,rfl,e⟩
  ·exact nomatch e
  ·injection e with e1 _
   subst e1
   cases v <;> rfl
def vR (prog:Program)(w:World)(i:Int)(t:Tok):(dE prog w).is (.inl i) (.int i t)=true:=AF i t
def vO (prog:Program)(w:World)(x:Str)(t:Tok):(dE prog w).is (.inr x) (.str x t)=true:=Ay x t
inductive V where
 |non |bl (b:Bool) |int (i:Int) |str (x:Str) |byt (b:Array UInt8) |flt (b:UInt64) |ref (a:Addr) |ty (n:String)
 deriving DecidableEq
def RelV:V->Value->Prop
 | .non,u=>u=Value.none
 | .bl b,u=>u=Value.bool b
 | .int i,u=>∃t,u=Value.int i t
 | .str x,u=>∃t,u=Value.str x t
 | .byt b,u=>∃t,u=Value.bytes b t
 | .flt b,u=>∃t,u=Value.float b t
 | .ref a,u=>u=Value.ref a
 | .ty n,u=>u=Value.type n
abbrev Vals:List V->List Value->Prop:=Paired RelV
def Vals.length {xs:List V}{us:List Value}(r:Vals xs us):xs.length=us.length:=Paired.length r
theorem Vals.get:∀{xs:List V} {us:List Value} {i:Nat} {x:V},Vals xs us->xs[i]? =some x->∃u,us[i]? =some u/\RelV x u
 |_,_,_,_,.nil,e=>by simp at e
 |_,_,0,_,.cons r _,e=>by simp at e;subst e;exact⟨_,rfl,r⟩
 |_,_,i + 1,x,.cons _ t,e=>by
  obtain⟨u,h1,h2⟩:=Vals.get (i:=i) (x:=x) t (by simpa using e)
  exact⟨u,by simpa using h1,h2⟩
theorem Vals.set {x:V}{u:Value}(r:RelV x u):∀{xs:List V} {us:List Value} (i:Nat),Vals xs us->Vals (xs.set i x) (us.set i u)
 |_,_,_,.nil=>.nil
 |_,_,0,.cons _ t=>.cons r t
 |_,_,i + 1,.cons q t=>.cons q (Vals.set r i t)
theorem Vals.append:∀{xs ys:List V} {us ws:List Value},Vals xs us->Vals ys ws->Vals (xs ++ ys) (us ++ ws)
 |_,_,_,_,.nil,s=>s
 |_,_,_,_,.cons r t,s=>.cons r (Vals.append t s)
theorem Vals.take:∀{xs:List V} {us:List Value} (n:Nat),Vals xs us->Vals (xs.take n) (us.take n)
 |_,_,0,_=>.nil
 |_,_,_ + 1,.nil=>.nil
 |_,_,n + 1,.cons r t=>.cons r (Vals.take n t)
theorem Vals.drop:∀{xs:List V} {us:List Value} (n:Nat),Vals xs us->Vals (xs.drop n) (us.drop n)
 |_,_,0,r=>r
 |_,_,_ + 1,.nil=>.nil
 |_,_,n + 1,.cons _ t=>Vals.drop n t
def FE:Option V->Option Value->Prop
 |some v,some u=>RelV v u
 |none,none=>True
 |_,_=>False
def KV {κ:Type}:List (κ×V)->List (κ×Value)->Prop:=Paired λ(p:κ×V) (q:κ×Value)=>p.1=q.1/\RelV p.2 q.2
def kV:Key->V
 | .inl i=>.int i
 | .inr x=>.str x
inductive HO where
 |lst (xs:List V)
 |tup (xs:List V)
 |dK (kvs:List (Key×V)) |dT (kvs:List (List Key×V))
 |set (S:Int->Bool) (n:Nat)
 |ins (C dx:Addr) (fs:List (Str×V))
 |own (x:Addr)
 |xd (fs:List (Str×V))
 |met (f x:Addr)
 |oA (lo hi:Int)
 |bt (o:Obj) (u:HO)
 |tbl (ps:Array Value)
 |ext (φ:Heap->Prop)
abbrev Hp:=Addr->Option HO
def upd (H:Hp)(a:Addr)(o:HO):Hp:=λb=>if b=a then some o else H b
def az {H:Hp}{a:Addr}{o:HO}:upd H a o a=some o:=by unfold upd;rw[KU rfl]
def aI {H:Hp}{a b:Addr}{o:HO}(h:b≠a):upd H a o b=H b:=by unfold upd;rw[K0 h]
def Dd {H:Hp}{a:Addr}{o u:HO}:upd (upd H a o) a u=upd H a u:=by
 funext b;unfold upd;split <;> rfl
def Ft {H:Hp}{a b:Addr}{o u:HO}(h:H a=some o)(h':H b=some u)(d:o≠u):a≠b:=by
 intro e;subst e;rw[h] at h';exact d (Option.some.inj h')
def aM {H:Hp}{a b:Addr}{o:HO}(h:H a=some o)(h':H b=none):a≠b:=by
 intro e;subst e;rw[h] at h';cases h'
section
variable (P:Program)(w:World)
def vK (h:Heap)(a:Addr)(items:Array Value):Prop:=∃o,h.get? a=some o/\o.cls=.type "tuple"/\∃n,o.data=.seq items n/\o.dict=none
def vK.isTup {h:Heap}{a:Addr}{items:Array Value}(x:vK h a items):IsTup h a items:=let ⟨o,e,c,n,d,_⟩:=x;⟨o,e,c,n,d⟩
def vK.new (h:Heap)(items:Array Value):vK (h.push {cls:=.type "tuple",data:=.seq items}) h.objs.size items:=⟨_,Lf _ rfl,rfl,_,rfl,rfl⟩
def bL (H:Hp)(h:Heap)(a:Addr):HO->Prop
 | .lst xs=>xs.length<=sizeLine/\∃(its:List Value) (n:Nat),Vals xs its/\h.get? a=some {cls:=.type "list",data:=.seq its.toArray n}
 | .tup xs=>xs.length<=sizeLine/\∃its:List Value,Vals xs its/\vK h a its.toArray
 | .dK kvs=>kvs.length<=sizeLine/\(a == sysModules)=false/\∃vs,KV kvs vs/\h.DictOf (dE P w) a vs
 | .dT kvs=>kvs.length<=sizeLine/\(a == sysModules)=false/\∃xs:List (List Key×Addr×Value),
   Paired (λ(p:List Key×V) (q:List Key×Addr×Value)=>p.1=q.1/\(H q.2.1=some (.tup (p.1.map kV))\/∃o,H q.2.1=some (.bt o (.tup (p.1.map kV))))/\RelV p.2 q.2.2) kvs xs/\
   ∃o es ep,h.get? a=some o/\o.ExactDict/\o.data=.dict es ep/\es.toList=xs.map (entryOfKey (tupleKind (dE P w)))/\(xs.map (·.1)).Nodup
 | .set S n=>h.SetOf (intKind P w) a S n
 | .ins C dx fs=>H dx=some (.own a)/\fs.length<=1000/\dx≠a/\h.get? a=some (PySem.W.instObj C dx)/\
   ∃mA,h.Ns1 dx mA/\(∀f,FE (fs.lookup f) (mA f))/\PySem.Within mA (fs.map (·.1))
 | .own _=>∃o,h.get? a=some o
 | .xd fs=>∃mA,h.Ns1 a mA/\∀f,FE (fs.lookup f) (mA f)
 | .oA lo hi=>∃t u v,h.get? a=some {cls:=.type "range",data:=.fields #[.int lo t,.int hi u,.int 1 v]}
 | .bt o u=>h.get? a=some o/\bL H h a u
 | .tbl ps=>h.get? a=some {cls:=.none,data:=.fields ps}
 | .met f x=>h.get? a=some (PySem.W.methodObj (.ref f) (.ref x))
 | .ext φ=>φ h/\(∃o,h.get? a=some o)/\∀h1 h2:Heap,φ h1->(∀o,h1.get? a=some o->h2.get? a=some o)->φ h2
def jS (H:Hp)(h:Heap):Prop:=∀a o,H a=some o->bL P w H h a o
end
section
variable {P:Program}{w:World}{H H':Hp}{h h':Heap}{a:Addr}{o:HO}
theorem bL.lt (x:bL P w H h a o):a < h.objs.size:=by
 cases o with
 |lst xs=>obtain⟨_,_,_,_,e⟩:=x;exact KY e
 |tup xs=>obtain⟨_,_,_,p⟩:=x;exact p.isTup.lt
 |dK kvs=>obtain⟨_,_,_,_,o,_,_,e,_⟩:=x;exact KY e
 |dT kvs=>obtain⟨_,_,_,_,o,_,_,e,_⟩:=x;exact KY e
 |set S n=>obtain⟨o,_,_,_,e,_⟩:=x;exact KY e
 |ins C dx fs=>obtain⟨_,_,_,e,_⟩:=x;exact KY e
 |own y=>obtain⟨_,e⟩:=x;exact KY e
 |xd fs=>obtain⟨_,⟨_,_,_,e,_⟩,_⟩:=x;exact KY e
 |oA lo hi=>obtain⟨_,_,_,e⟩:=x;exact KY e
 |bt ob u=>obtain⟨e,_⟩:=x;exact KY e
 |tbl ps=>exact KY (show h.get? a=some _ from x)
 |met f y=>exact KY (show h.get? a=some _ from x)
 |ext φ=>obtain⟨_,⟨_,e⟩,_⟩:=x;exact KY e
theorem Paired.mapP {α β:Type}{F G:α->β->Prop}:∀{l₁:List α} {l₂:List β},Paired F l₁ l₂->(∀a b,F a b->G a b)->Paired G l₁ l₂
 |_,_,.nil,_=>.nil
 |_,_,.cons r t,f=>.cons (f _ _ r) (Paired.mapP t f)
theorem bL.stay (x:bL P w H h a o)(k:∀b u,(b=a\/H b=some (.own a))->h.get? b=some u->h'.get? b=some u)
  (ho:∀b,H b=some (.own a)->H' b=some (.own a)) (ht:∀b xs,(H b=some (.tup xs)\/∃o,H b=some (.bt o (.tup xs)))->(H' b=some (.tup xs)\/∃o,H' b=some (.bt o (.tup xs)))):bL P w H' h' a o:=by
 induction o with
 |lst xs=>obtain⟨z,its,n,r,e⟩:=x;exact⟨z,its,n,r,k _ _ (.inl rfl) e⟩
 |tup xs=>obtain⟨z,its,r,ob,e,c⟩:=x;exact⟨z,its,r,ob,k _ _ (.inl rfl) e,c⟩
 |dK kvs=>obtain⟨z,y,vs,r,ob,es,ep,e,c⟩:=x;exact⟨z,y,vs,r,ob,es,ep,k _ _ (.inl rfl) e,c⟩
 |dT kvs=>
  obtain⟨z,y,xs,r,ob,es,ep,e,c⟩:=x
  exact⟨z,y,xs,Paired.mapP r λp q z=>⟨z.1,ht _ _ z.2.1,z.2.2⟩,ob,es,ep,k _ _ (.inl rfl) e,c⟩
 |set S n=>obtain⟨ob,es,ep,t,e,c⟩:=x;exact⟨ob,es,ep,t,k _ _ (.inl rfl) e,c⟩
 |ins C dx fs=>
  obtain⟨d,z,ne,e,mA,⟨od,es,ep,e2,c⟩,r⟩:=x
  exact⟨ho _ d,z,ne,k _ _ (.inl rfl) e,mA,⟨od,es,ep,k _ _ (.inr d) e2,c⟩,r⟩
 |own y=>obtain⟨ob,e⟩:=x;exact⟨ob,k _ _ (.inl rfl) e⟩
 |xd fs=>obtain⟨mA,⟨od,es,ep,e,c⟩,r⟩:=x;exact⟨mA,⟨od,es,ep,k _ _ (.inl rfl) e,c⟩,r⟩
 |oA lo hi=>obtain⟨t,u,v,e⟩:=x;exact⟨t,u,v,k _ _ (.inl rfl) e⟩
 |bt ob u ih=>obtain⟨e,q⟩:=x;exact⟨k _ _ (.inl rfl) e,ih q⟩
 |tbl ps=>
  have e:h.get? a=some {cls:=.none,data:=.fields ps}:=x
  show h'.get? a=some {cls:=.none,data:=.fields ps}
  exact k a _ (.inl rfl) e
 |met f y=>
  have e:h.get? a=some (PySem.W.methodObj (.ref f) (.ref y)):=x
  show h'.get? a=some (PySem.W.methodObj (.ref f) (.ref y))
  exact k a _ (.inl rfl) e
 |ext φ=>obtain⟨p,⟨o,e⟩,st⟩:=x;exact⟨st _ _ p λo q=>k _ _ (.inl rfl) q,⟨o,k _ _ (.inl rfl) e⟩,st⟩
def jS.lt (x:jS P w H h)(e:H a=some o):a < h.objs.size:=(x a o e).lt
theorem jS.fresh (x:jS P w H h)(e:h.objs.size<=a):H a=none:=by
 cases q:H a with
 |none=>rfl
 |some u=>exact absurd (Lj (x.lt q) e) (Ln _)
def jS.kept (x:jS P w H h)(k:∀b u,h.get? b=some u->h'.get? b=some u):jS P w H h':=λa o e=>
 (x a o e).stay (λb u _ q=>k b u q) (λ_ q=>q) λ_ _ q=>q
def jS.laid (x:jS P w H h)(k:∀b u,h.get? b=some u->h'.get? b=some u)(hp:h.objs.size<=a)(new:bL P w (upd H a o) h' a o):jS P w (upd H a o) h':=λb u e=>by
 have hn:=x.fresh hp
 by_cases hb:b=a
 ·subst hb;rw[az] at e;cases e;exact new
 ·rw[aI hb] at e
  exact (x b u e).stay (λc v _ q=>k c v q) (λc q=>by rw[aI (aM q hn)];exact q) λc xs q=>q.imp (λq=>by rw[aI (aM q hn)];exact q) λ⟨o,q⟩=>⟨o,by rw[aI (aM q hn)];exact q⟩
end
def Rd (H:Hp)(a:Addr)(u:HO):Prop:=H a=some u\/∃o,H a=some (.bt o u)
def Rd.ok {P:Program}{w:World}{H:Hp}{h:Heap}{a:Addr}{u:HO}(r:Rd H a u)(x:jS P w H h):bL P w H h a u:=by
 rcases r with r | ⟨o,r⟩
 ·exact x a u r
 ·obtain⟨_,q⟩:=x a _ r
  exact q
def Ik:Option HO->Prop
 |some (.lst _)=>True
 |some (.dK _)=>True
 |some (.dT _)=>True
 |some (.set _ _)=>True
 |some (.ins _ _ _)=>True
 |some (.ext _)=>True
 |_=>False
section
variable {P:Program}{w:World}{H:Hp}{h h':Heap}{x e:Addr}{o':HO}
def jS.write (ok:jS P w H h)(mu:Ik (H x))(he:e=x\/H e=some (.own x))(k:∀b u,b≠e->h.get? b=some u->h'.get? b=some u)(heo:∃u,h'.get? e=some u)
  (new:bL P w (upd H x o') h' x o'):jS P w (upd H x o') h':=λb u q=>by
 have nown:∀c y,H c=some (.own y)->c≠x:=λc y r z=>by subst z;rw[r] at mu;exact mu
 have ntup:∀c xs,H c=some (.tup xs)->c≠x:=λc xs r z=>by subst z;rw[r] at mu;exact mu
 by_cases hb:b=x
 ·subst hb;rw[az] at q;cases q;exact new
 ·rw[aI hb] at q
  by_cases hbe:b=e
  ·have q':H b=some (.own x):=by
    rcases he with z |z
    ·exact absurd (hbe.trans z) hb
    ·rw[hbe];exact z
   rw[q] at q';cases q'
   obtain⟨v,hv⟩:=heo
   exact⟨v,by rw[hbe];exact hv⟩
  ·refine (ok b u q).stay (λc v hc r=>k c v ?_ r) (λc r=>by rw[aI (nown c b r)];exact r) λc xs r=>r.imp (λr=>by rw[aI (ntup c xs r)];exact r) λ⟨o,r⟩=>⟨o,by rw[aI (λz=>by subst z;rw[r] at mu;exact mu)];exact r⟩
   rcases hc with rfl |hc
   ·exact hbe
   ·rintro rfl
    rcases he with z |z
    ·exact nown c b hc z
    ·rw[hc] at z;cases z;exact hb rfl
end
structure Un (fs ex:List Addr)(H H':Hp)(h h':Heap):Prop where
 keep:∀b o,h.get? b=some o->H b=none->b∉fs->b∉ex->h'.get? b=some o
 slot:∀b o,h.get? b=some o->H b=none->b∈fs->b∉ex->∃sl,h'.get? b=some {o with slots:=sl}
 free:∀b o,h.get? b=some o->H b=none->b∉ex->H' b=none
 there:∀b o,h.get? b=some o->b∉ex->∃o',h'.get? b=some o'
 tups:∀b xs,H b=some (.tup xs)->H' b=some (.tup xs)
 frzs:∀b o u,H b=some (.bt o u)->H' b=some (.bt o u)
 tbls:∀b ps,H b=some (.tbl ps)->∃more,H' b=some (.tbl (ps ++ more))
section
variable {fs fs' ex ex':List Addr}{H H1 H2:Hp}{h h1 h2 h':Heap}{a x e:Addr}{o:HO}
def Un.any (u:Un fs ex H H1 h h1){b:Addr}{ob:Obj}(q:h.get? b=some ob)(n:H b=none)(hx:b∉ex):∃sl,h1.get? b=some {ob with slots:=sl}:=by
 by_cases hb:b∈fs
 ·exact u.slot b ob q n hb hx
 ·exact⟨ob.slots,u.keep b ob q n hb hx⟩
def Un.kept (k:∀b u,h.get? b=some u->h'.get? b=some u):Un fs ex H H h h':=
 ⟨λb ob q _ _ _=>k b ob q,λb ob q _ _ _=>⟨ob.slots,k b ob q⟩,λ_ _ _ n _=>n,λb ob q _=>⟨ob,k b ob q⟩,λ_ _ q=>q,λ_ _ _ q=>q,λ_ ps q=>⟨#[],by rw[q];simp⟩⟩
def Un.refl:Un fs ex H H h h:=Un.kept λ_ _ q=>q
def Un.laid (k:∀b u,h.get? b=some u->h'.get? b=some u)(hp:h.objs.size<=a)(hn:H a=none):Un fs ex H (upd H a o) h h' where
 keep:=λb u q _ _ _=>k b u q
 slot:=λb u q _ _ _=>⟨u.slots,k b u q⟩
 free:=λb u q n _=>by rw[aI (Lr (Lj (KY q) hp))];exact n
 there:=λb u q _=>⟨u,k b u q⟩
 tups:=λb xs q=>by rw[aI (aM q hn)];exact q
 frzs:=λb u xs q=>by rw[aI (aM q hn)];exact q
 tbls:=λb ps q=>⟨#[],by rw[aI (aM q hn),q];simp⟩
def Un.write (mu:Ik (H x))(he:e=x\/H e=some (.own x))(k:∀b u,b≠e->h.get? b=some u->h'.get? b=some u)(heo:∃u,h'.get? e=some u):Un fs ex H (upd H x o) h h':=by
 have hx:∀b,H b=none->b≠x:=λb n z=>by subst z;rw[n] at mu;exact mu
 have hb:∀b,H b=none->b≠e:=λb n z=>by
  subst z
  rcases he with r |r
  ·exact hx b n r
  ·rw[n] at r;cases r
 have hm:∀b u,H b=some u->¬Ik (some u)->b≠x:=λb u q nm z=>by subst z;rw[q] at mu;exact nm mu
 refine⟨λb u q n _ _=>k b u (hb b n) q,λb u q n _ _=>⟨u.slots,k b u (hb b n) q⟩,λb u q n _=>by rw[aI (hx b n)];exact n,λb u q _=>?_,
  λb xs q=>by rw[aI (hm b _ q λz=>z)];exact q,λb u xs q=>by rw[aI (hm b _ q λz=>z)];exact q,λb ps q=>⟨#[],by rw[aI (hm b _ q λz=>z),q];simp⟩⟩
 by_cases hbe:b=e
 ·subst hbe;exact heo
 ·exact⟨u,k b u hbe q⟩
end
def Jp (h:Heap)(H:Hp):List Addr:=(List.range h.objs.size).filter λa=>(H a).isSome
def ug (h:Heap)(H:Hp):Heap:=PySem.W.hideAll h (Jp h H)
def z8 (h:Heap)(H:Hp):(ug h H).objs.size=h.objs.size:=PySem.W.hideAll_size _ _
def A6 {h:Heap}{H:Hp}{b:Addr}{o:Obj}(e:h.get? b=some o)(n:H b=none):(ug h H).get? b=some o:=
 PySem.W.hideAll_get _ e λhm=>by
  have q:(H b).isSome=true:=(M4.mp hm).2
  rw[n] at q;simp at q
theorem Ea {h:Heap}{H:Hp}{b:Addr}{o:Obj}(e:(ug h H).get? b=some o):h.get? b=some o/\H b=none:=by
 have e':h.get? b=some o:=PySem.W.of_hideAll (Jp h H) e
 refine⟨e',?_⟩
 cases q:H b with
 |none=>rfl
 |some x=>
  have hm:b∈Jp h H:=M4.mpr ⟨Ll.mpr (KY e'),by simp[q]⟩
  have z:(ug h H).get? b=none:=PySem.W.hideAll_none (Jp h H) hm
  rw[z] at e;cases e
def EF (g h:Heap)(L:Addr):List (Addr×Obj):=(List.range h.objs.size).filterMap λa=>if a=L\/(g.get? a).isSome=true then none else (h.get? a).map λo=>(a,o)
def rest (g h:Heap)(L d:Addr):List (Addr×Obj):=(EF g h L).filter λp=>decide (p.1≠d)
structure Mod (K:Frag)(mg:Str->Option Value)(base:Heap):Prop where
 kin:K.In base
 glob:base.Ns mainGlobals mg
 blt:∃mb,base.Ns builtinsNs mb/\∀x:Str,x≠"__name__"->mb x=bootBuiltins x
 nolimit:base.NoLimit
 sys:∃mm,base.Ns sysModules mm
structure Cx where
 prog:Program
 w:World
 K:Frag
 mg:Str->Option Value
 base:Heap
 A:Around
 N:List Str
 s₀:Shared
 H₀:Hp
 env:Env
 outer:List Env
 stack:List Env
 ex:List Addr
 fn:Str->Bool
 calm:Bool
 pn:List (Addr×Obj)
 xe:Value->Shared->Prop
def dD (l:List Env):List Addr:=l.filterMap (·.frame)
abbrev Cx.fs (X:Cx):List Addr:=dD X.outer
def y1 (sc:Scope)(x:Str):Prop:=sc.names.lookup x=some .local\/sc.names.lookup x=some .cell\/sc.names.lookup x=some .free
def Loc (sc:Scope)(x:Str):Prop:=sc.names.lookup x=some .local\/sc.names.lookup x=some .cell
def Look (env:Env)(h:Heap)(m:Str->Option Value)(x:Str)(u:Value):Prop:=
 (env.kindOf x=some .local/\m x=some u)\/((env.kindOf x=some .cell\/env.kindOf x=some .free)/\∃c,env.cells.lookup x=some c/\h.IsCell c (some u))
structure Cx.Ok (X:Cx):Prop where
 mod:Mod X.K X.mg X.base
 kind:X.env.scope.kind=.function
 glob:X.env.globals=mainGlobals
 blt:X.env.builtins=builtinsNs
 above:X.s₀.heap.objs.size<=X.env.locals
 inj:∀x y c,X.env.cells.lookup x=some c->X.env.cells.lookup y=some c->x=y
 has:∀x,(X.env.kindOf x=some .cell\/X.env.kindOf x=some .free)->∃c,X.env.cells.lookup x=some c
 cab:∀x c,X.fn x=true->X.env.cells.lookup x=some c->X.s₀.heap.objs.size<=c
 hd:X.calm=true->X.A.handled=none
 frames:X.A.frames=some X.stack
 stk:X.stack=X.outer\/(X.stack=X.env :: X.outer/\X.env.frame=some X.env.locals)
 exf:∀b∈X.ex,b≠X.env.locals/\∀x c,X.env.cells.lookup x=some c->c≠b
 bs:∀b o,X.base.get? b=some o->X.s₀.heap.get? b=some o/\X.H₀ b=none
 bsz:X.base.objs.size<=X.s₀.heap.objs.size
 noex:∀b o,X.base.get? b=some o->b∉X.ex
 exfs:∀b∈X.ex,b∉X.fs
 funs:X.s₀.heap.FunFrames X.base X.outer
 frf:∀b∈X.fs,X.H₀ b=none
structure Inv (X:Cx)(pins:List (Addr×Obj))(σ:List (Option V))(H:Hp)(s:Shared):Prop where
 ok:X.Ok
 os:s.os=X.s₀.os
 bare:AllBare s.gens
 base:Un X.fs X.ex X.H₀ H X.s₀.heap s.heap
 loc:∃m,s.heap.Ns X.env.locals m/\∀(i:Nat) (x:Str) (v:V),X.N[i]? =some x->σ[i]? =some (some v)->y1 X.env.scope x->∃u,RelV v u/\Look X.env s.heap m x u
 cell:∀x c,X.env.cells.lookup x=some c->∃v,s.heap.IsCell c v
 free:H X.env.locals=none
 freeC:∀x c,X.env.cells.lookup x=some c->H c=none
 pin:∀p∈X.pn ++ pins,s.heap.get? p.1=some p.2/\H p.1=none/\p.1≠X.env.locals/\p.1∉X.fs/\∀v,p.2.data≠.cell v
 hok:jS X.prog X.w H s.heap
 len:σ.length=X.N.length
section
variable {X:Cx}{pins:List (Addr×Obj)}{σ:List (Option V)}{H H':Hp}{s:Shared}{h':Heap}
def Cx.Ok.nofr (ok:X.Ok){b:Addr}{o:Obj}(e:X.base.get? b=some o):b∉X.fs:=λhb=>by
 have:=(ok.funs.mem hb).1
 rw[e] at this;cases this
def Inv.bs (I:Inv X pins σ H s):∀b o,X.base.get? b=some o->s.heap.get? b=some o/\H b=none:=λb o e=>
 ⟨I.base.keep b o (I.ok.bs b o e).1 (I.ok.bs b o e).2 (I.ok.nofr e) (I.ok.noex b o e),I.base.free b o (I.ok.bs b o e).1 (I.ok.bs b o e).2 (I.ok.noex b o e)⟩
def Inv.bk (I:Inv X pins σ H s):∀b o,X.base.get? b=some o->s.heap.get? b=some o:=λb o e=>(I.bs b o e).1
def Inv.mod (I:Inv X pins σ H s):Mod X.K X.mg X.base:=I.ok.mod
def Inv.kIn (I:Inv X pins σ H s):X.K.In s.heap:=I.ok.mod.kin.keeps I.bk
def Inv.lt (I:Inv X pins σ H s):X.env.locals < s.heap.objs.size:=let ⟨_,hn,_⟩:=I.loc;hn.lt
def Inv.sz (I:Inv X pins σ H s):X.s₀.heap.objs.size<=s.heap.objs.size:=L4 I.ok.above (MP I.lt)
def Inv.nofs (I:Inv X pins σ H s){a:Addr}(h:s.heap.objs.size<=a):a∉X.fs:=λhb=>by
 obtain⟨_,o,ho,_⟩:=I.ok.funs.mem hb
 exact absurd (Lj (KY ho) (L4 I.sz h)) (Ln _)
def Inv.cne (I:Inv X pins σ H s):∀x c,X.env.cells.lookup x=some c->c≠X.env.locals:=λx c e z=>by
 obtain⟨v,o,ho,hd⟩:=I.cell x c e
 obtain⟨m,⟨o',es,ep,ho',hd',_⟩,_⟩:=I.loc
 rw[z,ho'] at ho;cases ho;rw[hd'] at hd;cases hd
def Inv.funs (I:Inv X pins σ H s):s.heap.FunFrames X.base X.outer:=by
 have all:∀(l:List Env),(∀b∈dD l,b∈X.fs)->X.s₀.heap.FunFrames X.base l->s.heap.FunFrames X.base l:=by
  intro l
  induction l with
  |nil=>intro _ _;trivial
  |cons env r ih=>
   intro hs hl
   obtain⟨hk,⟨L,o,hf,hn,ho,hd⟩,hr⟩:=hl
   have hL:L∈X.fs:=hs L (by unfold dD;rw[MY,hf];exact K3)
   obtain⟨sl,e⟩:=I.base.slot L o ho (I.ok.frf L hL) hL λz=>I.ok.exfs L z hL
   exact⟨hk,⟨L,_,hf,hn,e,hd⟩,ih (λb hb=>hs b (by unfold dD;rw[MY,hf];exact KW _ hb)) hr⟩
 exact all X.outer (λ_ hb=>hb) I.ok.funs
def Inv.stack (I:Inv X pins σ H s):s.heap.FunFrames X.base X.stack:=by
 rcases I.ok.stk with e | ⟨e,hf⟩
 ·rw[e];exact I.funs
 ·rw[e]
  obtain⟨m,hn,_⟩:=I.loc
  refine .cons (by rw[I.ok.kind];decide) hf hn ?_ I.funs
  exact Heap.get?_none_of_le (L4 I.ok.bsz I.ok.above)
def Inv.stkSub (I:Inv X pins σ H s):∀b∈dD X.stack,b∈X.env.locals :: X.fs:=λb hb=>by
 rcases I.ok.stk with e | ⟨e,hf⟩
 ·rw[e] at hb;exact KW _ hb
 ·rw[e] at hb
  unfold dD at hb
  rw[MY,hf] at hb
  exact hb
def Inv.stkFree (I:Inv X pins σ H s):∀b∈dD X.stack,H b=none:=λb hb=>by
 rcases KZ.mp (I.stkSub b hb) with e |hb
 ·rw[e];exact I.free
 ·obtain⟨_,o,ho,_⟩:=I.ok.funs.mem hb
  exact I.base.free b o ho (I.ok.frf b hb) λz=>I.ok.exfs b z hb
def Inv.step {g':Array GenState}{t':Nat}{d':Drawn}{ch:List Addr}(I:Inv X pins σ H s)
  (hch:∀b∈ch,(b∈X.ex\/X.s₀.heap.objs.size<=b)/\b≠X.env.locals/\(∀x c,X.env.cells.lookup x=some c->c≠b)/\∀p∈X.pn ++ pins,p.1≠b)
  (keep:∀b o,b≠X.env.locals->b∉X.fs->b∉ch->s.heap.get? b=some o->H b=none->h'.get? b=some o)
  (slot:∀b o,b≠X.env.locals->b∈X.fs->b∉ch->s.heap.get? b=some o->H b=none->∃sl,h'.get? b=some {o with slots:=sl}) (free:∀b o,b∉ch->s.heap.get? b=some o->H b=none->H' b=none)
  (there:∀b o,b∉ch->s.heap.get? b=some o->∃o',h'.get? b=some o')
  (tups:∀b xs,H b=some (.tup xs)->H' b=some (.tup xs)) (frzs:∀b o u,H b=some (.bt o u)->H' b=some (.bt o u)) (tbls:∀b ps,H b=some (.tbl ps)->∃more,H' b=some (.tbl (ps ++ more)))
  (ns:∀m,s.heap.Ns X.env.locals m->h'.Ns X.env.locals m) (hok:jS X.prog X.w H' h') (hg:AllBare g') :
  Inv X pins σ H' {s with heap:=h',gens:=g',drawn:=d',toks:=t'}:=by
 have neL:∀b o,X.s₀.heap.get? b=some o->b≠X.env.locals:=λb o e=>Lr (Lj (KY e) I.ok.above)
 have neC:∀b o,X.s₀.heap.get? b=some o->b∉X.ex->b∉ch:=λb o e hx hb=>by
  rcases (hch b hb).1 with z |z
  ·exact hx z
  ·exact absurd (Lj (KY e) z) (Ln _)
 have cellK:∀x c,X.env.cells.lookup x=some c->∀v,s.heap.IsCell c v->h'.IsCell c v:=λx c e v ⟨o,ho,hd⟩=>by
  have nch:c∉ch:=λz=>(hch c z).2.2.1 x c e rfl
  by_cases hc:c∈X.fs
  ·obtain⟨sl,q⟩:=slot c o (I.cne x c e) hc nch ho (I.freeC x c e)
   exact⟨_,q,hd⟩
  ·exact⟨o,keep c o (I.cne x c e) hc nch ho (I.freeC x c e),hd⟩
 refine⟨I.ok,I.os,hg,⟨λb o e n hb hx=>?_,λb o e n hb hx=>?_,λb o e n hx=>?_,λb o e hx=>?_,λb xs e=>tups b xs (I.base.tups b xs e),λb o xs e=>frzs b o xs (I.base.frzs b o xs e),λb ps e=>?_⟩,?_,λx c e=>?_,?_,λx c e=>?_,λp hp=>?_,hok,I.len⟩
 ·exact keep b o (neL b o e) hb (neC b o e hx) (I.base.keep b o e n hb hx) (I.base.free b o e n hx)
 ·obtain⟨sl,e1⟩:=I.base.slot b o e n hb hx
  obtain⟨sl',e2⟩:=slot b _ (neL b o e) hb (neC b o e hx) e1 (I.base.free b o e n hx)
  exact⟨sl',e2⟩
 ·obtain⟨o',e1⟩:=I.base.there b o e hx
  exact free b o' (neC b o e hx) e1 (I.base.free b o e n hx)
 ·obtain⟨o',e1⟩:=I.base.there b o e hx
  exact there b o' (neC b o e hx) e1
 ·obtain⟨m1,e1⟩:=I.base.tbls b ps e
  obtain⟨m2,e2⟩:=tbls b _ e1
  exact⟨m1 ++ m2,by rw[e2,Array.append_assoc]⟩
 ·obtain⟨m,hn,hl⟩:=I.loc
  refine⟨m,ns m hn,λi x v e1 e2 e3=>?_⟩
  obtain⟨u,r,l⟩:=hl i x v e1 e2 e3
  refine⟨u,r,?_⟩
  rcases l with l | ⟨k,c,e,z⟩
  ·exact .inl l
  ·exact .inr ⟨k,c,e,cellK x c e _ z⟩
 ·obtain⟨v,z⟩:=I.cell x c e
  exact⟨v,cellK x c e v z⟩
 ·obtain⟨m,⟨o,_,_,ho,_⟩,_⟩:=I.loc
  exact free _ o (λz=>(hch _ z).2.1 rfl) ho I.free
 ·obtain⟨v,o,ho,hd⟩:=I.cell x c e
  exact free c o (λz=>(hch c z).2.2.1 x c e rfl) ho (I.freeC x c e)
 ·obtain⟨e,n,ne,nf,d⟩:=I.pin p hp
  have nch:p.1∉ch:=λz=>(hch p.1 z).2.2.2 p hp rfl
  exact⟨keep p.1 p.2 ne nf nch e n,free p.1 p.2 nch e n,ne,nf,d⟩
def Inv.un {t':Nat}(I:Inv X pins σ H s)(u:Un X.fs [] H H' s.heap h')(hok:jS X.prog X.w H' h'):Inv X pins σ H' {s with heap:=h',toks:=t'}:=by
 obtain⟨m,⟨o,es,ep,ho,r⟩,_⟩:=id I.loc
 obtain⟨sl,hL⟩:=u.any ho I.free (by simp)
 exact I.step (g':=s.gens) (d':=s.drawn) (ch:=[]) (λ_ z=>nomatch z) (λb o _ hb _ e n=>u.keep b o e n hb (by simp)) (λb o _ hb _ e n=>u.slot b o e n hb (by simp)) (λb o _ e n=>u.free b o e n (by simp)) (λb o _ e=>u.there b o e (by simp)) u.tups u.frzs u.tbls (λm' hm=>by
  obtain⟨o',es',ep',ho',r'⟩:=hm
  rw[ho] at ho';cases ho'
  exact⟨_,es',ep',hL,r'⟩) hok I.bare
def Inv.call {g':Array GenState}{t':Nat}{d':Drawn}{ch:List Addr}(I:Inv X pins σ H s)(u:Un (dD X.stack) ch H H' s.heap h')(hok:jS X.prog X.w H' h')(hg:AllBare g')
  (hch:∀b∈ch,(b∈X.ex\/X.s₀.heap.objs.size<=b)/\b≠X.env.locals/\(∀x c,X.env.cells.lookup x=some c->c≠b)/\∀p∈X.pn ++ pins,p.1≠b) :
  Inv X pins σ H' {s with heap:=h',gens:=g',drawn:=d',toks:=t'}:=by
 obtain⟨m,⟨o,es,ep,ho,r⟩,_⟩:=id I.loc
 obtain⟨sl,hL⟩:=u.any ho I.free λz=>(hch _ z).2.1 rfl
 exact I.step (ch:=ch) hch (λb o hL hb hc e n=>u.keep b o e n (λz=>(KZ.mp (I.stkSub b z)).elim hL hb) hc) (λb o _ _ hc e n=>u.any e n hc) (λb o hc e n=>u.free b o e n hc) (λb o hc e=>u.there b o e hc) u.tups u.frzs u.tbls (λm' hm=>by
  obtain⟨o',es',ep',ho',r'⟩:=hm
  rw[ho] at ho';cases ho'
  exact⟨_,es',ep',hL,r'⟩) hok hg
def Inv.turned {t':Nat}{it:Addr}(I:Inv X pins σ H s)(k:∀b o,b≠it->s.heap.get? b=some o->h'.get? b=some o)(hn:H it=none)(hL:it≠X.env.locals)
  (h1:it∈X.ex\/X.s₀.heap.objs.size<=it) (h2:∀x c,X.env.cells.lookup x=some c->c≠it) (h3:∀p∈X.pn ++ pins,p.1≠it):Inv X pins σ H {s with heap:=h',toks:=t'}:=by
 have nit:∀b u,H b=some u->b≠it:=λb u e z=>by rw[z,hn] at e;cases e
 refine I.step (g':=s.gens) (d':=s.drawn) (ch:=[it]) (λb hb=>?_) (λb o _ _ hc e _=>k b o (λz=>hc (by simp[z])) e) (λb o _ _ hc e _=>⟨o.slots,k b o (λz=>hc (by simp[z])) e⟩) (λ_ _ _ _ n=>n)
  (λb o hc e=>⟨o,k b o (λz=>hc (by simp[z])) e⟩) (λ_ _ e=>e) (λ_ _ _ e=>e) (λb ps e=>⟨#[],by rw[e];simp⟩) (λm hm=>?_) (λb u e=>?_) I.bare
 ·have e:b=it:=by simpa using hb
  subst e
  exact⟨h1,hL,h2,h3⟩
 ·obtain⟨o,es,ep,ho,r⟩:=hm
  exact⟨o,es,ep,k _ o (Ne.symm hL) ho,r⟩
 ·refine (I.hok b u e).stay (λc v hc q=>k c v ?_ q) (λ_ q=>q) λ_ _ q=>q
  rcases hc with z |z
  ·rw[z];exact nit b u e
  ·exact nit c _ z
def Inv.tok (I:Inv X pins σ H s)(t:Nat):Inv X pins σ H {s with toks:=t}:=I.un (h':=s.heap) (t':=t) Un.refl I.hok
def Inv.kept {t':Nat}(I:Inv X pins σ H s)(k:∀b u,s.heap.get? b=some u->h'.get? b=some u):Inv X pins σ H {s with heap:=h',toks:=t'}:=I.un (Un.kept k) (I.hok.kept k)
def Inv.laid {a:Addr}{o:HO}{t':Nat}(I:Inv X pins σ H s)(k:∀b u,s.heap.get? b=some u->h'.get? b=some u)(hp:s.heap.objs.size<=a)(new:bL X.prog X.w (upd H a o) h' a o) :
  Inv X pins σ (upd H a o) {s with heap:=h',toks:=t'}:=I.un (Un.laid k hp (I.hok.fresh hp)) (I.hok.laid k hp new)
def Inv.write {x e:Addr}{o:HO}{t':Nat}(I:Inv X pins σ H s)(mu:Ik (H x))(he:e=x\/H e=some (.own x))(k:∀b u,b≠e->s.heap.get? b=some u->h'.get? b=some u)(heo:∃u,h'.get? e=some u)
  (new:bL X.prog X.w (upd H x o) h' x o):Inv X pins σ (upd H x o) {s with heap:=h',toks:=t'}:=I.un (Un.write mu he k heo) (I.hok.write mu he k heo new)
def Inv.pins_of {pins':List (Addr×Obj)}(I:Inv X pins σ H s)(h:∀p∈pins',s.heap.get? p.1=some p.2/\H p.1=none/\p.1≠X.env.locals/\p.1∉X.fs/\∀v,p.2.data≠.cell v):Inv X pins' σ H s:=
 ⟨I.ok,I.os,I.bare,I.base,I.loc,I.cell,I.free,I.freeC,λp hp=>(Lp.mp hp).elim (λz=>I.pin p (Mr _ z)) (h p),I.hok,I.len⟩
def pV {N:List Str}(hN:N.Nodup){i j:Nat}{x:Str}(a:N[i]? =some x)(b:N[j]? =some x):i=j:=by
 obtain⟨h1,e1⟩:=Ld.mp a
 obtain⟨h2,e2⟩:=Ld.mp b
 exact (List.getElem_inj hN).mp (e1.trans e2.symm)
def sg {M:Model}{A:Around}{E:Value->Shared->Prop}{i:Nat}{x:Str}{v:V}{u:Value}{Q:Unit->Shared->Prop}(I:Inv X pins σ H s)(hN:X.N.Nodup)(hi:X.N[i]? =some x)(hx:Loc X.env.scope x)(r:RelV v u)
  (h:∀s',Inv X pins (σ.set i (some v)) H s'->(∃a,Heap.SameBut a s.heap s'.heap/\(a=X.env.locals\/X.env.cells.lookup x=some a))->Q () s') (hf:X.fn x=true\/X.env.scope.names.lookup x=some .local:=by first |exact .inl rfl |exact .inr rfl |assumption):wpAny M A (storeName X.env x u) Q E s:=by
 obtain⟨m,hn,hl⟩:=id I.loc
 have hcls:(X.env.scope.kind == .class || (X.env.scope.kind == .module && X.env.locals != X.env.globals))=false:=by rw[I.ok.kind];rfl
 have hiσ:i < σ.length:=by rw[I.len];exact (Ld.mp hi).1
 have cne:=I.cne
 have tracked:∀{a:Addr} {h':Heap},(∃o,s.heap.get? a=some o/\H a=none)->Heap.SameBut a s.heap h'->jS X.prog X.w H h':=λ{a h'} ha hs b ob e=>by
  obtain⟨_,_,hfree⟩:=ha
  refine (I.hok b ob e).stay (λc w' hc q=>(hs.2 c ?_).trans q) (λ_ q=>q) λ_ _ q=>q
  rintro rfl
  rcases hc with rfl |hc
  ·rw[hfree] at e;cases e
  ·rw[hfree] at hc;cases hc
 rcases hx with hk |hk
 ·refine wpAny_storeName_local hk hn (λh' hn' hs=>?_) hcls
  obtain⟨oL,_,_,hoL,_⟩:=id hn
  refine h _ ⟨I.ok,I.os,I.bare,⟨λb o e n hb hx=>?_,λb o e n hb hx=>?_,I.base.free,λb o e hx=>?_,I.base.tups,I.base.frzs,I.base.tbls⟩,⟨_,hn',λj y v' e1 e2 e3=>?_⟩,λy c e=>?_,I.free,I.freeC,λp hp=>?_,tracked ⟨oL,hoL,I.free⟩ hs,by simpa using I.len⟩ ⟨_,hs,.inl rfl⟩
  ·exact (hs.2 b (Lr (Lj (KY e) I.ok.above))).trans (I.base.keep b o e n hb hx)
  ·obtain⟨sl,e1⟩:=I.base.slot b o e n hb hx
   exact⟨sl,(hs.2 b (Lr (Lj (KY e) I.ok.above))).trans e1⟩
  ·obtain⟨o',e1⟩:=I.base.there b o e hx
   exact⟨o',(hs.2 b (Lr (Lj (KY e) I.ok.above))).trans e1⟩
  ·by_cases hj:j=i
   ·subst hj
    rw[hi] at e1;cases e1
    rw[K4 hiσ] at e2
    cases e2
    exact⟨u,r,.inl ⟨hk,by simp⟩⟩
   ·rw[K5 (Ne.symm hj)] at e2
    obtain⟨u',r',q⟩:=hl j y v' e1 e2 e3
    refine⟨u',r',?_⟩
    rcases q with⟨k,e⟩ | ⟨k,c,e,z⟩
    ·refine .inl ⟨k,?_⟩
     have:y≠x:=λe=>hj (pV hN e1 (e▸hi))
     simp[this,e]
    ·exact .inr ⟨k,c,e,z.sameBut hs (cne y c e)⟩
  ·obtain⟨w',z⟩:=I.cell y c e
   exact⟨w',z.sameBut hs (cne y c e)⟩
  ·obtain⟨e,n,ne,nf,d⟩:=I.pin p hp
   exact⟨(hs.2 p.1 ne).trans e,n,ne,nf,d⟩
 ·have hfn:X.fn x=true:=by
   rcases hf with z |z
   ·exact z
   ·rw[z] at hk;cases hk
  obtain⟨c,hc⟩:=I.ok.has x (.inl hk)
  obtain⟨w',z⟩:=I.cell x c hc
  refine wpAny_storeName_cell I.ok.kind hk hc z (λh' hc' hs=>?_)
  obtain⟨oc,hoc,hocd⟩:=id z
  refine h {s with heap:=h'} ⟨I.ok,I.os,I.bare,⟨λb o e n hb hx=>?_,λb o e n hb hx=>?_,I.base.free,λb o e hx=>?_,I.base.tups,I.base.frzs,I.base.tbls⟩,⟨m,hn.sameBut hs (Ne.symm (cne x c hc)),λj y v' e1 e2 e3=>?_⟩,λy c' e=>?_,I.free,I.freeC,λp hp=>?_,tracked ⟨oc,hoc,I.freeC x c hc⟩ hs,by simpa using I.len⟩ ⟨c,hs,.inr hc⟩
  ·exact (hs.2 b (Lr (Lj (KY e) (I.ok.cab x c hfn hc)))).trans (I.base.keep b o e n hb hx)
  ·obtain⟨sl,e1⟩:=I.base.slot b o e n hb hx
   exact⟨sl,(hs.2 b (Lr (Lj (KY e) (I.ok.cab x c hfn hc)))).trans e1⟩
  ·obtain⟨o',e1⟩:=I.base.there b o e hx
   exact⟨o',(hs.2 b (Lr (Lj (KY e) (I.ok.cab x c hfn hc)))).trans e1⟩
  ·by_cases hj:j=i
   ·subst hj
    rw[hi] at e1;cases e1
    rw[K4 hiσ] at e2
    cases e2
    exact⟨u,r,.inr ⟨.inl hk,c,hc,hc'⟩⟩
   ·rw[K5 (Ne.symm hj)] at e2
    obtain⟨u',r',q⟩:=hl j y v' e1 e2 e3
    refine⟨u',r',?_⟩
    rcases q with q | ⟨k,c',e,z'⟩
    ·exact .inl q
    ·refine .inr ⟨k,c',e,z'.sameBut hs ?_⟩
     rintro rfl
     exact hj (pV hN e1 (I.ok.inj _ _ _ e hc▸hi))
  ·by_cases hcc:c'=c
   ·subst hcc;exact⟨_,hc'⟩
   ·obtain⟨w2,z2⟩:=I.cell y c' e
    exact⟨w2,z2.sameBut hs hcc⟩
  ·obtain⟨e,n,ne,nf,d⟩:=I.pin p hp
   refine⟨(hs.2 p.1 ?_).trans e,n,ne,nf,d⟩
   intro q
   rw[q,hoc] at e
   have q':oc=p.2:=Option.some.inj e
   exact d w' (by rw[<-q'];exact hocd)
def mO {M:Model}{A:Around}{E:Value->Shared->Prop}{i:Nat}{x:Str}{v:V}{u:Value}{Q:Unit->Shared->Prop}(I:Inv X pins σ H s)(hN:X.N.Nodup)(hi:X.N[i]? =some x)(hx:Loc X.env.scope x)(r:RelV v u)
  (h:∀s',Inv X pins (σ.set i (some v)) H s'->Q () s') (hf:X.fn x=true\/X.env.scope.names.lookup x=some .local:=by first |exact .inl rfl |exact .inr rfl |assumption):wpAny M A (storeName X.env x u) Q E s:=
 sg I hN hi hx r (λs' I' _=>h s' I') hf
def Inv.call' {s':Shared}{ch:List Addr}(I:Inv X pins σ H s)(ho:s'.os=s.os)(u:Un (dD X.stack) ch H H' s.heap s'.heap)(hok:jS X.prog X.w H' s'.heap)(hg:AllBare s'.gens)
  (hch:∀b∈ch,(b∈X.ex\/X.s₀.heap.objs.size<=b)/\b≠X.env.locals/\(∀x c,X.env.cells.lookup x=some c->c≠b)/\∀p∈X.pn ++ pins,p.1≠b):Inv X pins σ H' s':=by
 obtain⟨h',g',d',t',o'⟩:=s'
 have e:o'=s.os:=ho
 subst e
 exact I.call (g':=g') (t':=t') (d':=d') u hok hg hch
end
abbrev XK:=Value->Option Addr->Hp->Prop
abbrev St:=List (Option V)
abbrev VK:=V->Hp->Prop
abbrev TE:=St->Hp->VK->Prop
abbrev TT:=St->Hp->(Bool->Hp->Prop)->Prop
abbrev TA:=St->Hp->(List V->Hp->Prop)->Prop
structure Ends where
 nx:St->Hp->Prop
 rt:VK
 bk:St->Hp->Prop:=λ_ _=>False
 ct:St->Hp->Prop:=λ_ _=>False
abbrev TS:=Ends->St->Hp->Prop
def EP (X:Cx)(pins:List (Addr×Obj))(σ:St)(Q:VK)(u:Value)(s':Shared):Prop:=∃v H',Inv X pins σ H' s'/\RelV v u/\Q v H'
def TP (X:Cx)(pins:List (Addr×Obj))(σ:St)(Q:Bool->Hp->Prop)(b:Bool)(s':Shared):Prop:=∃H',Inv X pins σ H' s'/\Q b H'
def AP (X:Cx)(pins:List (Addr×Obj))(σ:St)(Q:List V->Hp->Prop)(us:List Value)(s':Shared):Prop:=∃vs H',Inv X pins σ H' s'/\Vals vs us/\Q vs H'
def SP (X:Cx)(pins:List (Addr×Obj))(D:Ends)(f:Flow)(s':Shared):Prop:=
 match f with
 | .next=>∃σ' H',Inv X pins σ' H' s'/\D.nx σ' H'
 | .brk=>∃σ' H',Inv X pins σ' H' s'/\D.bk σ' H'
 | .cont=>∃σ' H',Inv X pins σ' H' s'/\D.ct σ' H'
 | .ret u=>∃v σ' H',Inv X pins σ' H' s'/\RelV v u/\D.rt v H'
def PE (X:Cx)(e:Expr)(t:TE):Prop:=
 ∀(pins:List (Addr×Obj)) (s:Shared) (σ:St) (H:Hp) (Q:VK),Inv X pins σ H s->t σ H Q->wpAny (model X.prog X.w) X.A (eval e X.env) (EP X pins σ Q) X.xe s
def PT (X:Cx)(e:Expr)(t:TT):Prop:=
 ∀(pins:List (Addr×Obj)) (s:Shared) (σ:St) (H:Hp) (Q:Bool->Hp->Prop),Inv X pins σ H s->t σ H Q->wpAny (model X.prog X.w) X.A (isTrue e X.env (eval e X.env)) (TP X pins σ Q) X.xe s
def PW (X:Cx)(e:Expr)(t:TT):Prop:=
 ∀(whole:Sem Value) (pins:List (Addr×Obj)) (s:Shared) (σ:St) (H:Hp) (Q:Bool->Hp->Prop),Inv X pins σ H s->t σ H Q->wpAny (model X.prog X.w) X.A (isTrue e X.env whole) (TP X pins σ Q) X.xe s
def PW.pt {X:Cx}{e:Expr}{t:TT}(h:PW X e t):PT X e t:=h _
def PA (X:Cx)(es:List Expr)(t:TA):Prop:=
 ∀(pos:Pos) (pins:List (Addr×Obj)) (s:Shared) (σ:St) (H:Hp) (Q:List V->Hp->Prop),Inv X pins σ H s->t σ H Q->wpAny (model X.prog X.w) X.A (spliced (backTo pos (starEach es X.env))) (AP X pins σ Q) X.xe s
def PS (X:Cx)(st:Stmt)(t:TS):Prop:=
 ∀(pins:List (Addr×Obj)) (s:Shared) (σ:St) (H:Hp) (D:Ends),Inv X pins σ H s->t D σ H->wpAny (model X.prog X.w) X.A (exec st X.env) (SP X pins D) X.xe s
def oB (X:Cx)(st:List Stmt)(t:TS):Prop:=
 ∀(pins:List (Addr×Obj)) (s:Shared) (σ:St) (H:Hp) (D:Ends),Inv X pins σ H s->t D σ H->wpAny (model X.prog X.w) X.A (execs st X.env) (SP X pins D) X.xe s
def cq {α:Type}{t:Sem α}{Q Q':α->Shared->Prop}{M:Model}{A:Around}{E:Value->Shared->Prop}{s:Shared}(h:wpAny M A t Q E s)(hQ:∀a s,Q a s->Q' a s):wpAny M A t Q' E s:=LR h hQ λ_ _ x=>x
section
variable {X:Cx}
def bin {a b:Expr}{ta tb:TE}(ha:PE X a ta)(hb:PE X b tb){pins:List (Addr×Obj)}{s:Shared}{σ:St}{H:Hp}{R:V->V->Hp->Prop}(I:Inv X pins σ H s)(h:ta σ H λx H1=>tb σ H1 λy H2=>R x y H2)
  {α:Type} {Q:α->Shared->Prop} {f:Value->Value->Sem α}
  (hf:∀v u s2 x y H2,Inv X pins σ H2 s2->RelV x v->RelV y u->R x y H2->wpAny (model X.prog X.w) X.A (f v u) Q X.xe s2) :
  wpAny (model X.prog X.w) X.A (eval a X.env) (λv s₁=>wpAny (model X.prog X.w) X.A (eval b X.env) (λu s₂=>wpAny (model X.prog X.w) X.A (f v u) Q X.xe s₂) X.xe s₁) X.xe s:=by
 refine cq (ha pins s σ H _ I h) λv s1 ⟨x,H1,I1,r1,q1⟩=>?_
 refine cq (hb pins s1 σ H1 _ I1 q1) λu s2 ⟨y,H2,I2,r2,q2⟩=>?_
 exact hf v u s2 x y H2 I2 r1 r2 q2
def D9 (i:Nat):TE:=λσ H Q=>∃v,σ[i]? =some (some v)/\Q v H
def tC (v:V):TE:=λ_ H Q=>Q v H
def i4 {i:Nat}{x:Str}{pos:Pos}(hN:X.N[i]? =some x)(hv:y1 X.env.scope x)(hd:(x == ("__debug__":Str))=false:=by decide)(hcd:(x == ("__classdict__":Str))=false:=by decide):PE X (.Name x pos) (D9 i):=by
 intro pins s σ H Q I h
 obtain⟨v,e,h⟩:=h
 obtain⟨m,hn,hl⟩:=I.loc
 obtain⟨u,r,l⟩:=hl i x v hN e hv
 have fin:EP X pins σ Q u s:=⟨v,H,I,r,h⟩
 rcases l with⟨hk,hm⟩ | ⟨hk,c,hc,hcell⟩
 ·exact wpAny_Name (wpAny_loadName_local I.ok.kind hk hn hm fin) hd
 ·rcases hk with hk |hk
  ·exact wpAny_Name (wpAny_loadName_cell I.ok.kind hk hc hcell fin) hd
  ·exact wpAny_Name (wpAny_loadName_free I.ok.kind hk hc hcell fin hcd) hd
def p8 {i j pos}:PE X (.Constant (.int i) j pos) (tC (.int i)):=λ_ _ _ H _ I h=>wpAny_Constant_int ⟨.int i,H,I.tok _,⟨_,rfl⟩,h⟩
def rQ {b j pos}:PE X (.Constant (.bool b) j pos) (tC (.bl b)):=λ_ _ _ H _ I h=>Constant_bool ⟨.bl b,H,I,rfl,h⟩
def Gp {j pos}:PE X (.Constant .none j pos) (tC .non):=λ_ _ _ H _ I h=>Constant_none ⟨.non,H,I,rfl,h⟩
def p4 {x j pos}:PE X (.Constant (.str x) j pos) (tC (.str x)):=λ_ _ _ H _ I h=>Calls.Constant_str ⟨.str x,H,I.tok _,⟨_,rfl⟩,h⟩
def Gl (X:Cx)(x:Str):Prop:=X.env.kindOf x=some .globalImplicit
def mw {E:Value->Shared->Prop}{pins:List (Addr×Obj)}{s:Shared}{σ:St}{H:Hp}{x:Str}{u:Value}{pos:Pos}{Q:Value->Shared->Prop}(I:Inv X pins σ H s)(hg:Gl X x)(hm:X.mg x=some u)(h:Q u s)
  (hd:(x == ("__debug__":Str))=false:=by decide):wpAny (model X.prog X.w) X.A (eval (.Name x pos) X.env) Q E s:=
 Calls.Name_function_global I.ok.kind hg (Calls.loadGlobal_global (by rw[I.ok.glob];exact I.mod.glob.keeps I.bk) hm h) hd
def qx {E:Value->Shared->Prop}{pins:List (Addr×Obj)}{s:Shared}{σ:St}{H:Hp}{x:Str}{u:Value}{pos:Pos}{Q:Value->Shared->Prop}(I:Inv X pins σ H s)(hg:Gl X x)(hm:X.mg x=none)(hv:bootBuiltins x=some u)(h:Q u s)
  (hn:x≠"__name__":=by decide) (hd:(x == ("__debug__":Str))=false:=by decide):wpAny (model X.prog X.w) X.A (eval (.Name x pos) X.env) Q E s:=by
 obtain⟨mb,h1,h2⟩:=I.mod.blt
 exact Calls.Name_function_global I.ok.kind hg (Calls.loadGlobal_builtin (by rw[I.ok.glob];exact I.mod.glob.keeps I.bk) hm (by rw[I.ok.blt];exact h1.keeps I.bk) ((h2 x hn).trans hv) h) hd
def cv {x:Str}{v:V}{u:Value}{pos:Pos}(hg:Gl X x)(hm:X.mg x=some u)(r:RelV v u)(hd:(x == ("__debug__":Str))=false:=by decide):PE X (.Name x pos) (tC v):=
 λ_ _ _ H _ I h=>mw I hg hm ⟨v,H,I,r,h⟩ hd
def yy {x:Str}{v:V}{u:Value}{pos:Pos}(hg:Gl X x)(hm:X.mg x=none)(hv:bootBuiltins x=some u)(r:RelV v u)(hn:x≠"__name__":=by decide)(hd:(x == ("__debug__":Str))=false:=by decide):PE X (.Name x pos) (tC v):=
 λ_ _ _ H _ I h=>qx I hg hm hv ⟨v,H,I,r,h⟩ hn hd
variable {a b:Expr}{ta tb:TE}{pos:Pos}
def PC (X:Cx)(op:CmpOp)(a b:Expr)(t:TE):Prop:=
 ∀(pins:List (Addr×Obj)) (s:Shared) (σ:St) (H:Hp) (Q:VK),Inv X pins σ H s->t σ H Q->
  wpAny (model X.prog X.w) X.A (eval a X.env) (λv s₁=>wpAny (model X.prog X.w) X.A (eval b X.env) (λu s₂=>wpAny (model X.prog X.w) X.A (compareOp op v u) (EP X pins σ Q) X.xe s₂) X.xe s₁) X.xe s
def tB (t:TE):TT:=λσ H Q=>t σ H λx H1=>∃c,x=.bl c/\Q c H1
def JH {op:CmpOp}{t:TE}(h:PC X op a b t)(h1:behindInMarks op b=false:=by first |exact nobehind _ (by decide) (by decide) |rfl):PT X (.Compare a [op] [b] pos) (tB t):=by
 intro pins s σ H Q I hw
 refine wpAny_isTrue_Compare1 (cq (h pins s σ H _ I hw) λv s1 h1=>cq h1 λu s2 h2=>cq h2 λc s3 ⟨x,H1,I1,r1,q1⟩=>?_) h1
 obtain⟨d,rfl,q⟩:=q1
 cases r1
 exact LY ⟨H1,I1,q⟩
def p0 {e:Expr}{t:TE}(h:PE X e t)(he:∀whole,isTrue e X.env whole=(do let v <-whole;standAt e.pos;holding [v] (truthy v)):=by intro _;rfl):PT X e (tB t):=by
 intro pins s σ H Q I hw
 refine isTrue_plain (cq (h pins s σ H _ I hw) λv s1 ⟨x,H1,I1,r1,q1⟩=>?_) (he _)
 obtain⟨d,rfl,q⟩:=q1
 cases r1
 exact LY ⟨H1,I1,q⟩
variable {tA tB':TT}{rest:List Expr}
def Ka (t u:TT):TT:=λσ H Q=>t σ H λc H1=>if c=true then u σ H1 Q else Q false H1
def KD (t u:TT):TT:=λσ H Q=>t σ H λc H1=>if c=true then Q true H1 else u σ H1 Q
def JU (t:TT):TT:=λσ H Q=>t σ H λc H1=>Q (!c) H1
theorem EU (ha:PT X a tA):PW X (.BoolOp .And [a] pos) tA:=by
 intro wh pins s σ H Q I h
 refine isTrue_and (cq (ha pins s σ H Q I h) λc s1 e=>?_)
 cases c with
 |true=>exact isTrue_and_nil e
 |false=>exact e
theorem CZ (ha:PT X a tA):PW X (.BoolOp .Or [a] pos) tA:=by
 intro wh pins s σ H Q I h
 refine isTrue_or (cq (ha pins s σ H Q I h) λc s1 e=>?_)
 cases c with
 |false=>exact isTrue_or_nil e
 |true=>exact e
theorem FC (ha:PT X a tA)(hb:PW X (.BoolOp .And (b :: rest) pos) tB'):PW X (.BoolOp .And (a :: b :: rest) pos) (Ka tA tB'):=by
 intro wh pins s σ H Q I h
 refine isTrue_and (cq (ha pins s σ H _ I h) λc s1 ⟨H1,I1,q1⟩=>?_)
 cases c with
 |true=>exact hb wh pins s1 σ H1 Q I1 q1
 |false=>exact⟨H1,I1,q1⟩
theorem Fq (ha:PT X a tA)(hb:PW X (.BoolOp .Or (b :: rest) pos) tB'):PW X (.BoolOp .Or (a :: b :: rest) pos) (KD tA tB'):=by
 intro wh pins s σ H Q I h
 refine isTrue_or (cq (ha pins s σ H _ I h) λc s1 ⟨H1,I1,q1⟩=>?_)
 cases c with
 |true=>exact⟨H1,I1,q1⟩
 |false=>exact hb wh pins s1 σ H1 Q I1 q1
def yd (ha:PT X a tA):PT X (.UnaryOp .Not a pos) (JU tA):=by
 intro pins s σ H Q I h
 exact isTrue_not (ha pins s σ H (λc H1=>Q (!c) H1) I h)
def HH (ta tb:TE):TE:=λσ H Q=>ta σ H λx H1=>∃c,x=.bl c/\if c=true then tb σ H1 Q else Q (.bl false) H1
def Iq (ta:TE):TE:=λσ H Q=>ta σ H λx H1=>∃c,x=.bl c/\Q (.bl (!c)) H1
def FL {op}{t:TE}(h:PE X a t):PE X (.BoolOp op [a] pos) t:=λpins s σ H Q I hw=>BoolOp_one (h pins s σ H Q I hw)
theorem GP (ha:PE X a ta)(hb:PE X (.BoolOp .And (b :: rest) pos) tb):PE X (.BoolOp .And (a :: b :: rest) pos) (HH ta tb):=by
 intro pins s σ H Q I h
 refine BoolOp_and (cq (ha pins s σ H _ I h) λv s1 ⟨x,H1,I1,r1,q1⟩=>?_)
 obtain⟨c,rfl,q1⟩:=q1
 cases r1
 refine LY ?_
 cases c with
 |true=>exact hb pins s1 σ H1 Q I1 q1
 |false=>exact⟨.bl false,H1,I1,rfl,q1⟩
def He (ha:PE X a ta):PE X (.UnaryOp .Not a pos) (Iq ta):=by
 intro pins s σ H Q I h
 refine UnaryOp_ (cq (ha pins s σ H _ I h) λv s1 ⟨x,H1,I1,r1,q1⟩=>?_)
 obtain⟨c,rfl,q1⟩:=q1
 cases r1
 exact not_of (LY ⟨.bl (!c),H1,I1,rfl,q1⟩)
end
def gR (K:Frag)(H:Hp)(a:Addr)(xs:List V):Prop:=
 Rd H a (.lst xs)\/
  ∃(o:Obj) (its:Array Value) (n:Nat),K.lookup a=some o/\o.cls=.type "list"/\o.dict=none/\o.data=.seq its n/\its.size<=sizeLine/\Vals xs its.toList
def gj (K:Frag)(H:Hp)(a:Addr)(xs:List V):Prop:=
 Rd H a (.tup xs)\/
  ∃(o:Obj) (its:Array Value) (n:Nat),K.lookup a=some o/\o.cls=.type "tuple"/\o.data=.seq its n/\its.size<=sizeLine/\Vals xs its.toList/\o.dict=none
def Jv:Value->Option V
 | .none=>some .non
 | .bool b=>some (.bl b)
 | .int i _=>some (.int i)
 | .str x _=>some (.str x)
 | .bytes b _=>some (.byt b)
 | .float b _=>some (.flt b)
 | .ref a=>some (.ref a)
 | .type n=>some (.ty n)
 |_=>none
theorem RelV.abs {x:V}{u:Value}(r:RelV x u):Jv u=some x:=by
 cases x with
 |non=>cases r;rfl
 |bl _=>cases r;rfl
 |int _=>obtain⟨t,rfl⟩:=r;rfl
 |str _=>obtain⟨t,rfl⟩:=r;rfl
 |byt _=>obtain⟨t,rfl⟩:=r;rfl
 |flt _=>obtain⟨t,rfl⟩:=r;rfl
 |ref _=>cases r;rfl
 |ty _=>cases r;rfl
def RelV.inj {x y:V}{u:Value}(r:RelV x u)(q:RelV y u):x=y:=Option.some.inj (r.abs.symm.trans q.abs)
theorem Vals.inj:∀{xs ys:List V} {us:List Value},Vals xs us->Vals ys us->xs=ys
 |_,_,_,.nil,.nil=>rfl
 |_,_,_,.cons r t,.cons r' t'=>by rw[r.inj r',Vals.inj t t']
section
variable {X:Cx}{pins:List (Addr×Obj)}{σ:St}{H:Hp}{s:Shared}{a:Addr}{xs ys:List V}
def Inv.list (I:Inv X pins σ H s)(h:gR X.K H a xs):∃its:List Value,Vals xs its/\PlainL s.heap a its.toArray/\xs.length<=sizeLine:=by
 rcases h with h | ⟨o,its,n,hk,hc,hd,hs,hz,r⟩
 ·obtain⟨z,its,n,r,e⟩:=h.ok I.hok
  exact⟨its,r,⟨_,n,e,rfl,rfl,rfl⟩,z⟩
 ·refine⟨its.toList,r,⟨o,n,I.kIn a o hk,hc,hd,by simpa using hs⟩,?_⟩
  have e:=r.length
  simp only[MZ] at e
  omega
def Inv.tuple (I:Inv X pins σ H s)(h:gj X.K H a xs):∃its:List Value,Vals xs its/\IsTup s.heap a its.toArray/\xs.length<=sizeLine:=by
 rcases h with h | ⟨o,its,n,hk,hc,hs,hz,r,_⟩
 ·obtain⟨z,its,r,p⟩:=h.ok I.hok
  exact⟨its,r,p.isTup,z⟩
 ·refine⟨its.toList,r,⟨o,I.kIn a o hk,hc,n,by simpa using hs⟩,?_⟩
  have e:=r.length
  simp only[MZ] at e
  omega
def Inv.list_inj (I:Inv X pins σ H s)(h:gR X.K H a xs)(h':gR X.K H a ys):xs=ys:=by
 obtain⟨its,r,⟨o,n,e,_,_,d⟩,_⟩:=I.list h
 obtain⟨its',r',⟨o',n',e',_,_,d'⟩,_⟩:=I.list h'
 rw[e] at e';cases e'
 rw[d] at d'
 injection d' with d1 _
 have:its=its':=by simpa using congrArg Array.toList d1
 subst this
 exact r.inj r'
def Inv.tuple_inj (I:Inv X pins σ H s)(h:gj X.K H a xs)(h':gj X.K H a ys):xs=ys:=by
 obtain⟨its,r,⟨o,e,_,n,d⟩,_⟩:=I.tuple h
 obtain⟨its',r',⟨o',e',_,n',d'⟩,_⟩:=I.tuple h'
 rw[e] at e';cases e'
 rw[d] at d'
 injection d' with d1 _
 have:its=its':=by simpa using congrArg Array.toList d1
 subst this
 exact r.inj r'
end
abbrev Cx.wish (X:Cx)(E:Value->Shared->Prop):Cx:={X with xe:=E}
abbrev Cx.nox (X:Cx):Cx:=X.wish λ_ _=>False
def Cx.Ok.wish {X:Cx}(ok:X.Ok)(E:Value->Shared->Prop):(X.wish E).Ok:=
 ⟨ok.mod,ok.kind,ok.glob,ok.blt,ok.above,ok.inj,ok.has,ok.cab,ok.hd,ok.frames,ok.stk,ok.exf,ok.bs,ok.bsz,ok.noex,ok.exfs,ok.funs,ok.frf⟩
def Cx.Ok.unwish {X:Cx}{E:Value->Shared->Prop}(ok:(X.wish E).Ok):X.Ok:=
 ⟨ok.mod,ok.kind,ok.glob,ok.blt,ok.above,ok.inj,ok.has,ok.cab,ok.hd,ok.frames,ok.stk,ok.exf,ok.bs,ok.bsz,ok.noex,ok.exfs,ok.funs,ok.frf⟩
section
variable {X:Cx}{pins:List (Addr×Obj)}{σ:St}{H:Hp}{s:Shared}{E:Value->Shared->Prop}
def Inv.wish (I:Inv X pins σ H s)(E:Value->Shared->Prop):Inv (X.wish E) pins σ H s:=⟨I.ok.wish E,I.os,I.bare,I.base,I.loc,I.cell,I.free,I.freeC,I.pin,I.hok,I.len⟩
def Inv.unwish (I:Inv (X.wish E) pins σ H s):Inv X pins σ H s:=⟨I.ok.unwish,I.os,I.bare,I.base,I.loc,I.cell,I.free,I.freeC,I.pin,I.hok,I.len⟩
theorem SP.unwish {D:Ends}{f:Flow}{s':Shared}(h:SP (X.wish E) pins D f s'):SP X pins D f s':=by
 cases f with
 |next=>obtain⟨σ',H',I,q⟩:=h;exact⟨σ',H',I.unwish,q⟩
 |brk=>obtain⟨σ',H',I,q⟩:=h;exact⟨σ',H',I.unwish,q⟩
 |cont=>obtain⟨σ',H',I,q⟩:=h;exact⟨σ',H',I.unwish,q⟩
 |ret u=>obtain⟨v,σ',H',I,r,q⟩:=h;exact⟨v,σ',H',I.unwish,r,q⟩
def oB.nox {st:List Stmt}{t:TS}(h:oB X.nox st t):oB X st t:=λpins s σ H D I hw=>
 LR (h pins s σ H D (I.wish _) hw) (λ_ _ q=>q.unwish) λ_ _ z=>False.elim z
end
section
variable {X:Cx}{st:Stmt}{rest:List Stmt}{t u:TS}{e:Expr}{te:TE}{pos:Pos}
def Ip:TS:=λD σ H=>D.nx σ H
def JZ (t u:TS):TS:=λD σ H=>t {D with nx:=u D} σ H
def oK:oB X [] Ip:=λ_ _ σ H _ I h=>M5 ⟨σ,H,I,h⟩
theorem b9 (h1:PS X st t)(h2:oB X rest u):oB X (st :: rest) (JZ t u):=by
 intro pins s σ H D I h
 refine wpAny_execs_cons (cq (h1 pins s σ H {D with nx:=u D} I h) λf s1 q=>?_)
 cases f with
 |next=>
  obtain⟨σ',H',I',q⟩:=q
  exact h2 pins s1 σ' H' D I' q
 |ret v=>exact q
 |brk=>exact q
 |cont=>exact q
theorem cZ (h1:PS X st t):oB X [st] t:=by
 intro pins s σ H D I h
 refine wpAny_execs_cons (cq (h1 pins s σ H D I h) λf s1 q=>?_)
 cases f with
 |next=>exact M5 q
 |ret v=>exact q
 |brk=>exact q
 |cont=>exact q
def Inv.quiet {pins:List (Addr×Obj)}{σ:St}{H:Hp}{s:Shared}(I:Inv X pins σ H s):interactive X.env=false:=by simp[interactive,I.ok.kind]
def HB (te:TE):TS:=λD σ H=>te σ H λ_ H1=>D.nx σ H1
def ua (he:PE X e te)(hs:swapsWith e none pos.line X.env=pure false:=by rfl):PS X (.Expr e pos) (HB te):=by
 intro pins s σ H D I h
 exact wpAny_Expr_any (cq (he pins s σ H _ I h) λv s1 ⟨x,H1,I1,r1,q1⟩=>⟨σ,H1,I1,q1⟩) I.quiet hs
def JN (te:TE):TS:=λD σ H=>te σ H D.rt
def iB (he:PE X e te):PS X (.Return (some e) pos) (JN te):=by
 intro pins s σ H D I h
 exact wpAny_Return_some (cq (he pins s σ H _ I h) λv s1 ⟨x,H1,I1,r1,q1⟩=>⟨x,σ,H1,I1,r1,q1⟩)
def Kg (c:TT)(t u:TS):TS:=λD σ H=>c σ H λb H1=>if b=true then t D σ H1 else u D σ H1
theorem za {c:Expr}{a b:List Stmt}{tc:TT}(hc:PT X c tc)(ha:oB X a t)(hb:oB X b u):PS X (.If c a b pos) (Kg tc t u):=by
 intro pins s σ H D I h
 refine wpAny_If (cq (hc pins s σ H _ I h) λd s1 ⟨H1,I1,q1⟩=>?_)
 cases d with
 |true=>exact ha pins s1 σ H1 D I1 q1
 |false=>exact hb pins s1 σ H1 D I1 q1
end
abbrev TG:=V->St->Hp->(St->Hp->Prop)->Prop
abbrev GZ:=List V->St->Hp->(St->Hp->Prop)->Prop
def PG (X:Cx)(target:Expr)(t:TG):Prop:=
 ∀(pins:List (Addr×Obj)) (s:Shared) (σ:St) (H:Hp) (v:V) (u:Value) (Q:St->Hp->Prop),Inv X pins σ H s->RelV v u->t v σ H Q->
  wpAny (model X.prog X.w) X.A (assign target X.env u) (λ_ s'=>∃σ' H',Inv X pins σ' H' s'/\Q σ' H') X.xe s
def Ji (X:Cx)(ts:List Expr)(t:GZ):Prop:=
 ∀(pins:List (Addr×Obj)) (s:Shared) (σ:St) (H:Hp) (vs:List V) (us:List Value) (Q:St->Hp->Prop),Inv X pins σ H s->Vals vs us->t vs σ H Q->
  wpAny (model X.prog X.w) X.A (assignInOrder ((assignEach ts X.env).map (·.2)) us) (λ_ s'=>∃σ' H',Inv X pins σ' H' s'/\Q σ' H') X.xe s
abbrev Hj:=V->V->V->Hp->(Hp->Prop)->Prop
def ui (X:Cx)(t:Hj):Prop:=
 ∀(pins:List (Addr×Obj)) (s:Shared) (σ:St) (H:Hp) (o i v:V) (ov iv u:Value) (Q:Hp->Prop),Inv X pins σ H s->RelV o ov->RelV i iv->RelV v u->t o i v H Q->
  wpAny (model X.prog X.w) X.A (setItem ov iv u) (λ_ s'=>∃H',Inv X pins σ H' s'/\Q H') X.xe s
section
variable {X:Cx}{pos:Pos}
def lu (i:Nat):TG:=λv σ H Q=>Q (σ.set i (some v)) H
def cx {i:Nat}{x:Str}(hN:X.N.Nodup)(hi:X.N[i]? =some x)(hx:Loc X.env.scope x)(hf:X.fn x=true\/X.env.scope.names.lookup x=some .local:=by first |exact .inl rfl |exact .inr rfl |assumption):PG X (.Name x pos) (lu i):=by
 intro pins s σ H v u Q I r h
 exact wpAny_assign_Name (mO I hN hi hx r (λs' I'=>⟨_,H,I',h⟩) hf)
def DQ:GZ:=λvs σ H Q=>vs= []/\Q σ H
def qr (t:TG)(u:GZ):GZ:=λvs σ H Q=>∃v r,vs=v :: r/\t v σ H λσ' H'=>u r σ' H' Q
def mh:Ji X [] DQ:=by
 intro pins s σ H vs us Q I r h
 obtain⟨e,h⟩:=h
 subst e
 cases r
 exact assignInOrder_nil ⟨σ,H,I,h⟩
theorem cV {e:Expr}{es:List Expr}{t:TG}{u:GZ}(h1:PG X e t)(h2:Ji X es u)
  (hs:(assignEach (e :: es) X.env).map (·.2)=assign e X.env :: (assignEach es X.env).map (·.2):=by rfl):Ji X (e :: es) (qr t u):=by
 intro pins s σ H vs us Q I r h
 obtain⟨v,vr,e1,h⟩:=h
 subst e1
 cases r with
 |cons r rr=>
  rw[hs]
  refine assignInOrder_cons (cq (h1 pins s σ H _ _ _ I r h) λ_ s1 ⟨σ1,H1,I1,q1⟩=>?_)
  exact h2 pins s1 σ1 H1 _ _ Q I1 rr q1
def EG (K:Frag)(n:Nat)(t:GZ):TG:=λv σ H Q=>∃a xs,v=.ref a/\gj K H a xs/\xs.length=n/\t xs σ H Q
def ql {es:List Expr}{k:Nat}{t:GZ}{n:Nat}(hc:X.calm=true)(h:Ji X es t)
  (hn:(assignEach es X.env).length=n:=by rfl) (hst:(assignEach es X.env).findIdx? (·.1)=none:=by rfl):PG X (.Tuple es k pos) (EG X.K n t):=by
 intro pins s σ H v u Q I r hw
 obtain⟨a,xs,e1,hq,hl,hw⟩:=hw
 subst e1
 cases r
 obtain⟨its,rv,ht,hz⟩:=I.tuple hq
 refine assign_Tuple_tuple (I.ok.hd hc) ht (by simp[hn,<-hl,rv.length]) hst λh' hx=>?_
 have I1:Inv X pins σ H {s with heap:=h'}:=I.kept (t':=s.toks) λb o e=>hx b o (Lr (KY e)) e
 exact h pins _ σ H xs _ Q I1 (by simpa using rv) hw
def JE (to ti:TE)(t:Hj):TG:=λv σ H Q=>to σ H λo H1=>ti σ H1 λi H2=>t o i v H2 λH3=>Q σ H3
def xf {o i:Expr}{to ti:TE}{t:Hj}(ho:PE X o to)(hi:PE X i ti)(hs:ui X t)
  (ha:∀v,assign (.Subscript o i pos) X.env v=(do
   let ov <-holding [v] (eval o X.env)
   let iv <-holding [v,ov] (eval i X.env)
   standAt pos
   holding [v,ov,iv] (setItem ov iv v)
   release [v,ov,iv] []):=by intro _;rfl):PG X (.Subscript o i pos) (JE to ti t):=by
 intro pins s σ H v u Q I r h
 rw[ha]
 refine KO (L5 (cq (ho pins s σ H _ I h) λov s1 ⟨x,H1,I1,r1,q1⟩=>?_))
 refine KO (L5 (cq (hi pins s1 σ H1 _ I1 q1) λiv s2 ⟨y,H2,I2,r2,q2⟩=>?_))
 refine KO (wpAny_standAt (KO (L5 (cq (hs pins s2 σ H2 x y v ov iv u _ I2 r1 r2 r q2) λ_ s3 ⟨H3,I3,q3⟩=>?_))))
 exact wpAny_release ⟨σ,H3,I3,q3⟩
def IA (te:TE)(g:TG):TS:=λD σ H=>te σ H λx H1=>g x σ H1 D.nx
def tq {tg e:Expr}{te:TE}{g:TG}(he:PE X e te)(hg:PG X tg g)(hs:swapsWithSole [tg] e pos.line X.env=pure false:=by rfl)(hw:swappedStores [tg] e X.env=pure none:=by rfl)
  (h1:(assignEach [tg] X.env).map (·.2)= [assign tg X.env]:=by rfl):PS X (.Assign [tg] e pos) (IA te g):=by
 intro pins s σ H D I h
 refine wpAny_Assign_stores (cq (he pins s σ H _ I h) λv s1 ⟨x,H1,I1,r1,q1⟩=>?_) hs hw
 rw[h1]
 exact cq (hg pins s1 σ H1 x v _ I1 r1 q1) λ_ s2 q=>q
def jK {i:Nat}{x:Str}{e:Expr}{te:TE}{pos':Pos}(hN:X.N.Nodup)(hi:X.N[i]? =some x)(hx:Loc X.env.scope x)(he:PE X e te)(hs:swapsWith e (some (.Name x pos')) pos.line X.env=pure false:=by rfl)(hf:X.fn x=true\/X.env.scope.names.lookup x=some .local:=by first |exact .inl rfl |exact .inr rfl |assumption) :
  PS X (.Assign [.Name x pos'] e pos) (IA te (lu i)):=by
 intro pins s σ H D I h
 refine wpAny_Assign_Name (cq (he pins s σ H _ I h) λv s1 ⟨y,H1,I1,r1,q1⟩=>?_) hs
 exact mO I1 hN hi hx r1 (λs2 I2=>⟨_,H1,I2,q1⟩) hf
end
section
variable {X:Cx}{pos:Pos}
def Gb (c:TT)(tb:TS):TS:=λD σ H=>∃W:Nat->St->Hp->Prop,(∃m,W m σ H)/\∀m σ H,W m σ H->
 c σ H λb H1=>if b=true then ∃N:St->Hp->Prop,(∀σ' H',N σ' H'->∃m',m' < m/\W m' σ' H')/\tb {D with nx:=N,ct:=N,bk:=D.nx} σ H1 else D.nx σ H1
theorem BM {c:Expr}{body:List Stmt}{tc:TT}{tb:TS}(hp:PassesOwn (model X.prog X.w) X.A X.env X.xe)(hc:PT X c tc)(hb:oB X body tb):PS X (.While c body [] pos) (Gb tc tb):=by
 intro pins s σ H D I h
 obtain⟨W,⟨m0,w0⟩,turn⟩:=h
 refine wpAny_While (codeAny_whileLoop (λn s'=>∃σ' H',Inv X pins σ' H' s'/\W n σ' H') ?_ m0 ⟨σ,H,I,w0⟩)
 rintro n s1 ⟨σ1,H1,I1,w1⟩
 refine Mm hp (cq (hc pins s1 σ1 H1 _ I1 (turn n σ1 H1 w1)) λb s2 ⟨H2,I2,q2⟩=>?_)
 cases b with
 |true=>
  obtain⟨N,hN,q2⟩:=q2
  rw[KU rfl]
  refine Mm hp (cq (hb pins s2 σ1 H2 _ I2 q2) λf s3 q3=>?_)
  cases f with
  |next=>
   obtain⟨σ3,H3,I3,n3⟩:=q3
   obtain⟨m',hm,w3⟩:=hN σ3 H3 n3
   exact⟨m',hm,σ3,H3,I3,w3⟩
  |cont=>
   obtain⟨σ3,H3,I3,n3⟩:=q3
   obtain⟨m',hm,w3⟩:=hN σ3 H3 n3
   exact⟨m',hm,σ3,H3,I3,w3⟩
  |brk=>exact q3
  |ret v=>exact q3
 |false=>
  rw[K0 Lh]
  exact M5 ⟨σ1,H2,I2,q2⟩
end
structure It where
 go:Nat->Hp->Prop
 yld:Nat->Hp->V->Hp->Prop
 stop:Nat->Hp->Prop
def rO (X:Cx)(pins:List (Addr×Obj))(H:Hp)(b:Addr):Prop:=
 H b=none/\b≠X.env.locals/\b∉X.fs/\(b∈X.ex\/X.s₀.heap.objs.size<=b)/\(∀x c,X.env.cells.lookup x=some c->c≠b)/\∀p∈X.pn ++ pins,p.1≠b
def Inv.fpOk {X:Cx}{pins:List (Addr×Obj)}{σ:St}{H H':Hp}{s:Shared}{b:Addr}(I:Inv X pins σ H s)(hb:s.heap.objs.size<=b)(hn:H' b=none):rO X pins H' b:=by
 refine⟨hn,Nat.ne_of_gt (Lj I.lt hb),I.nofs hb,.inr (L4 I.sz hb),λx c e z=>?_,λp hp z=>?_⟩
 ·obtain⟨v,q⟩:=I.cell x c e
  exact absurd (Lj q.lt (by rw[z];exact hb)) (Ln _)
 ·exact absurd (Lj (KY (I.pin p hp).1) (by rw[z];exact hb)) (Ln _)
structure Turn (P:Program)(w:World)(K:Frag)(tg:Expr)(J:It)(fp:List Addr)(it:Addr)(tn:Nat->Heap->Prop):Prop where
 mem:it∈fp
 obj:∀i h,tn i h->∀b∈fp,∃o,h.get? b=some o/\∀v,o.data≠.cell v
 keep:∀i h h',tn i h->(∀b∈fp,∀o,h.get? b=some o->h'.get? b=some o)->tn i h'
 item:∀(X:Cx),X.prog=P->X.w=w->X.K=K->X.calm=true->∀(i:Nat) (pins:List (Addr×Obj)) (s:Shared) (σ:St) (H:Hp) (E:Value->Shared->Prop),Inv X pins σ H s->(∀b∈fp,rO X pins H b)->tn i s.heap->J.go i H->
  wpAny (model P w) X.A (pyNext (.ref it)) (λr s1=>∃u,r=some u/\
   wpAny (model P w) X.A (letOwnedTupleGo tg (.ref it) u) (λ_ s2=>∃x H',Inv X pins σ H' s2/\RelV x u/\J.yld i H x H'/\tn (i + 1) s2.heap/\∀b∈fp,H' b=none) E s1) E s
 done:∀(X:Cx),X.prog=P->X.w=w->X.K=K->X.calm=true->∀(i:Nat) (pins:List (Addr×Obj)) (s:Shared) (σ:St) (H:Hp) (E:Value->Shared->Prop),Inv X pins σ H s->(∀b∈fp,rO X pins H b)->tn i s.heap->J.stop i H->
  wpAny (model P w) X.A (pyNext (.ref it)) (λr s1=>r=none/\Inv X pins σ H s1) E s
 self:∀(A:Around) (i:Nat) (s:Shared) (Q:Value->Shared->Prop) (E:Value->Shared->Prop),tn i s.heap->Q (.ref it) s->wpAny (model P w) A (pyIter (.ref it)) Q E s
abbrev TI:=St->Hp->(It->Hp->Prop)->Prop
def Kl (X:Cx)(pins:List (Addr×Obj))(σ:St)(tg:Expr)(R:It->Hp->Prop)(itv:Value)(s2:Shared):Prop:=
 ∃(it:Addr) (fp:List Addr) (tn:Nat->Heap->Prop) (J:It) (H':Hp),itv=.ref it/\Inv X pins σ H' s2/\Turn X.prog X.w X.K tg J fp it tn/\tn 0 s2.heap/\(∀b∈fp,rO X pins H' b)/\R J H'
def PI (X:Cx)(tg iter:Expr)(wi:TI):Prop:=
 ∀(pins:List (Addr×Obj)) (s:Shared) (σ:St) (H:Hp) (R:It->Hp->Prop),Inv X pins σ H s->wi σ H R->
  wpAny (model X.prog X.w) X.A (eval iter X.env) (λv s1=>wpAny (model X.prog X.w) X.A (pyIter v) (Kl X pins σ tg R) X.xe s1) X.xe s
def Bf {M:Model}{A:Around}{E:Value->Shared->Prop}{s:Shared}{tg:Expr}{it:Addr}{u:Value}{o:Obj}{n:String}{vs:Array Value}{Q:Unit->Shared->Prop}(ho:s.heap.get? it=some o)(hc:o.cls=.type n)(hd:o.data=.fields vs)
  (hn: ["enumerate","zip","dict_itemiterator","dict_reverseitemiterator","odict_iterator","itertools.zip_longest","itertools.pairwise"].contains n=false) (hQ:Q () s):wpAny M A (letOwnedTupleGo tg (.ref it) u) Q E s:=by
 unfold letOwnedTupleGo
 cases tg <;> first
  |exact KS hQ
  | (cases u <;> first
    |exact KS hQ
    | (refine KO (wpAny_load ho ?_)
       rw[hc,hd]
       show wpAny M A (if (["enumerate","zip","dict_itemiterator","dict_reverseitemiterator","odict_iterator","itertools.zip_longest","itertools.pairwise"].contains n && vs[0]? == some (rawInt _))=true then _ else _) Q E s
       rw[K0 (by intro h;rw[hn,Bool.false_and] at h;cases h)]
       exact KS hQ))
def zR (K:Frag)(a:Addr):It:=
 ⟨λi H=>∃xs x,gR K H a xs/\xs[i]? =some x,λi H x H'=>H'=H/\∀xs,gR K H a xs->xs[i]? =some x,λi H=>∃xs,gR K H a xs/\xs.length<=i⟩
def Fj (K:Frag)(a:Addr):It:=
 ⟨λi H=>∃xs x,gj K H a xs/\xs[i]? =some x,λi H x H'=>H'=H/\∀xs,gj K H a xs->xs[i]? =some x,λi H=>∃xs,gj K H a xs/\xs.length<=i⟩
def z7 (lo:Int)(n:Nat):It:=⟨λi _=>i < n,λi H x H'=>H'=H/\x=.int (lo + i),λi _=>n<=i⟩
def nQ {P:Program}{w:World}{K:Frag}{tg:Expr}(a it:Addr):Turn P w K tg (zR K a) [it] it (λi h=>h.IsListIter it a i) where
 mem:=by simp
 obj:=λi h st b hb=>by
  have e:b=it:=by simpa using hb
  subst e
  obtain⟨o,e,c,d⟩:=st
  exact⟨o,e,λv z=>by rw[d] at z;cases z⟩
 keep:=λi h h' st k=>st.at λo e=>k it (by simp) o e
 item:=by
  intro X hP hw hK hc i pins s σ H E I hf st hg
  subst hP hw hK
  obtain⟨xs,x,hq,hx⟩:=hg
  obtain⟨its,rv,p,hz⟩:=I.list hq
  obtain⟨u,hu,ru⟩:=rv.get hx
  obtain⟨f0,f1,f2,f3,f4,f5⟩:=hf it (by simp)
  refine wpAny_pyNext_list_item st p.isList (x:=u) (by simpa using hu) λh' st' sb=>?_
  have I1:Inv X pins σ H {s with heap:=h'}:=I.turned (t':=s.toks) (λb o hb e=>(sb.2 b hb).trans e) f0 f1 f3 f4 f5
  obtain⟨o,e,c,d⟩:=id st'
  exact⟨u,rfl,Bf (s:={s with heap:=h'}) e c d (by decide) ⟨x,H,I1,ru,⟨rfl,λys hy=>by rw[I.list_inj hy hq];exact hx⟩,st',λb hb=>(hf b hb).1⟩⟩
 done:=by
  intro X hP hw hK hc i pins s σ H E I hf st hg
  subst hP hw hK
  obtain⟨xs,hq,hx⟩:=hg
  obtain⟨its,rv,p,hz⟩:=I.list hq
  obtain⟨f0,f1,f2,f3,f4,f5⟩:=hf it (by simp)
  have hl:=rv.length
  exact wpAny_pyNext_list_end (I.ok.hd hc) st p.isList (by simp;omega) λh' eb=>⟨rfl,I.turned (t':=s.toks) (λb o hb e=>eb b o hb e) f0 f1 f3 f4 f5⟩
 self:=λ_ _ _ _ _ st h=>wpAny_pyIter_listiter st h
def qF {P:Program}{w:World}{K:Frag}{tg:Expr}(a it:Addr):Turn P w K tg (Fj K a) [it] it (λi h=>h.IsTupleIter it a i) where
 mem:=by simp
 obj:=λi h st b hb=>by
  have e:b=it:=by simpa using hb
  subst e
  obtain⟨o,e,c,d⟩:=st
  exact⟨o,e,λv z=>by rw[d] at z;cases z⟩
 keep:=λi h h' st k=>st.at λo e=>k it (by simp) o e
 item:=by
  intro X hP hw hK hc i pins s σ H E I hf st hg
  subst hP hw hK
  obtain⟨xs,x,hq,hx⟩:=hg
  obtain⟨its,rv,p,hz⟩:=I.tuple hq
  obtain⟨u,hu,ru⟩:=rv.get hx
  obtain⟨f0,f1,f2,f3,f4,f5⟩:=hf it (by simp)
  refine wpAny_pyNext_tuple_item st (show s.heap.IsTuple a its.toArray from p) (x:=u) (by simpa using hu) λh' st' sb=>?_
  have I1:Inv X pins σ H {s with heap:=h'}:=I.turned (t':=s.toks) (λb o hb e=>(sb.2 b hb).trans e) f0 f1 f3 f4 f5
  obtain⟨o,e,c,d⟩:=id st'
  exact⟨u,rfl,Bf (s:={s with heap:=h'}) e c d (by decide) ⟨x,H,I1,ru,⟨rfl,λys hy=>by rw[I.tuple_inj hy hq];exact hx⟩,st',λb hb=>(hf b hb).1⟩⟩
 done:=by
  intro X hP hw hK hc i pins s σ H E I hf st hg
  subst hP hw hK
  obtain⟨xs,hq,hx⟩:=hg
  obtain⟨its,rv,p,hz⟩:=I.tuple hq
  obtain⟨f0,f1,f2,f3,f4,f5⟩:=hf it (by simp)
  have hl:=rv.length
  exact wpAny_pyNext_tuple_end (I.ok.hd hc) st (show s.heap.IsTuple a its.toArray from p) (by simp;omega) λh' eb=>⟨rfl,I.turned (t':=s.toks) (λb o hb e=>eb b o hb e) f0 f1 f3 f4 f5⟩
 self:=λ_ _ _ _ _ st h=>wpAny_pyIter_tupleiter st h
def xQ {P:Program}{w:World}{K:Frag}{tg:Expr}(it:Addr)(lo:Int)(n:Nat):Turn P w K tg (z7 lo n) [it] it (λi h=>IsRangeIter h it (lo + (i:Nat) * 1) ((n:Int) - (i:Nat)) 1) where
 mem:=by simp
 obj:=λi h st b hb=>by
  have e:b=it:=by simpa using hb
  subst e
  exact⟨_,st,λv z=>by
   have z':Data.fields _=Data.cell v:=z
   cases z'⟩
 keep:=λi h h' st k=>k it (by simp) _ st
 item:=by
  intro X hP hw hK hc i pins s σ H E I hf st hg
  subst hP hw hK
  obtain⟨f0,f1,f2,f3,f4,f5⟩:=hf it (by simp)
  have W:=Walks.range (prog:=X.prog) (w:=X.w) (I.ok.hd hc) it lo 1 n
  refine W.item i s _ _ hg st λv h' tk hv st' kk=>?_
  obtain⟨t,rfl⟩:=hv
  have I1:Inv X pins σ H {s with heap:=h',toks:=tk}:=I.turned (λb o hb e=>kk b o (by simpa using hb) e) f0 f1 f3 f4 f5
  refine⟨_,rfl,Bf (s:={s with heap:=h',toks:=tk}) (n:="range_iterator") st' rfl rfl (by decide) ⟨.int (lo + i),H,I1,⟨t,?_⟩,⟨rfl,rfl⟩,st',λb hb=>(hf b hb).1⟩⟩
  rw[Int.mul_one]
 done:=by
  intro X hP hw hK hc i pins s σ H E I hf st hg
  subst hP hw hK
  obtain⟨f0,f1,f2,f3,f4,f5⟩:=hf it (by simp)
  exact wpAny_pyNext_range_end (I.ok.hd hc) st (by have:n<=i:=hg;omega) λh' eb=>⟨rfl,I.turned (t':=s.toks) (λb o hb e=>eb b o hb e) f0 f1 f3 f4 f5⟩
 self:=λ_ _ _ _ _ st h=>wpAny_pyIter_rangeiter st h
section
variable {X:Cx}{tg:Expr}
def HM (K:Frag)(tl:TE):TI:=λσ H R=>tl σ H λx H1=>∃a,x=.ref a/\(∃xs,gR K H1 a xs)/\R (zR K a) H1
def yI {l:Expr}{tl:TE}(hl:PE X l tl):PI X tg l (HM X.K tl):=by
 intro pins s σ H R I h
 refine cq (hl pins s σ H _ I h) λv s1 ⟨x,H1,I1,r1,q1⟩=>?_
 obtain⟨a,e,⟨xs,hq⟩,q⟩:=q1
 subst e
 cases r1
 obtain⟨its,rv,p,hz⟩:=I1.list hq
 refine MN p.isList ?_
 refine⟨s1.heap.objs.size,[s1.heap.objs.size],_,_,H1,rfl,I1.kept (t':=s1.toks) λb o e=>KQ _ e,nQ a _,⟨_,Lf _ rfl,rfl,rfl⟩,λb hb=>?_,q⟩
 have e:b=s1.heap.objs.size:=by simpa using hb
 subst e
 exact I1.fpOk (KR _) (I1.hok.fresh (KR _))
def uX {pins:List (Addr×Obj)}{σ:St}{H:Hp}{s:Shared}{R:It->Hp->Prop}{E:Value->Shared->Prop}{lo hi:Int}{t u v:Tok}{tk:Nat}(I:Inv X pins σ H s)(h1: -(2 ^ 62)<=lo)(h2:lo < 2 ^ 62)(h3: -(2 ^ 62)<=hi)(h4:hi < 2 ^ 62)
  (q:R (z7 lo (hi - lo).toNat) H):wpAny (model X.prog X.w) X.A (pyIter (.ref s.heap.objs.size)) (Kl X pins σ tg R) E {s with heap:=s.heap.push {cls:=.type "range",data:=.fields #[.int lo t,.int hi u,.int 1 v]},toks:=tk}:=by
 refine wpAny_pyIter_range (IsRange.new ..) (small_one h1 h2 h3 h4) ?_
 have I1:Inv X pins σ H {s with heap:=s.heap.push {cls:=.type "range",data:=.fields #[.int lo t,.int hi u,.int 1 v]},toks:=tk}:=I.kept λb o e=>KQ _ e
 refine⟨(s.heap.push {cls:=.type "range",data:=.fields #[.int lo t,.int hi u,.int 1 v]}).objs.size,[(s.heap.push {cls:=.type "range",data:=.fields #[.int lo t,.int hi u,.int 1 v]}).objs.size],_,_,H,rfl,
  I1.kept (t':=tk) λb o e=>KQ _ e,xQ _ lo (hi - lo).toNat,?_,λb hb=>?_,q⟩
 ·have e1:lo + ((0:Nat):Int) * 1=lo:=by simp
  have e2:(((hi - lo).toNat:Nat):Int) - ((0:Nat):Int)=Builtin.Range.rangeSize lo hi 1:=by rw[rangeSize_one];split <;> omega
  show IsRangeIter _ _ (lo + ((0:Nat):Int) * 1) ((((hi - lo).toNat:Nat):Int) - ((0:Nat):Int)) 1
  rw[e1,e2]
  exact Lf _ rfl
 ·have e:b=(s.heap.push {cls:=.type "range",data:=.fields #[.int lo t,.int hi u,.int 1 v]}).objs.size:=by simpa using hb
  subst e
  exact I1.fpOk (KR _) (I1.hok.fresh (KR _))
def Jb (ta:TA):TI:=λσ H R=>ta σ H λvs H1=>∃j:Int,vs= [.int j]/\ -(2 ^ 62)<=j/\j < 2 ^ 62/\R (z7 0 j.toNat) H1
def Iv (ta:TA):TI:=λσ H R=>ta σ H λvs H1=>∃i j:Int,vs= [.int i,.int j]/\(-(2 ^ 62)<=i/\i < 2 ^ 62/\ -(2 ^ 62)<=j/\j < 2 ^ 62)/\R (z7 i (j - i).toNat) H1
theorem kM {a:Expr}{ta:TA}{p pos:Pos}(hg:Gl X "range")(hm:X.mg "range"=none)(ha:PA X [a] ta)(hs:starEach [a] X.env= [(false,eval a X.env)]:=by rfl):PI X tg (.Call (.Name "range" p) [a] [] pos) (Jb ta):=by
 intro pins s σ H R I h
 refine Call_ (qx I hg hm boot_range (MT (cq (ha pos pins s σ H _ I h) λus s1 ⟨vs,H1,I1,r1,q1⟩=>?_) hs rfl))
 obtain⟨j,e,q1,q2,q⟩:=q1
 subst e
 cases r1 with
 |cons r rr=>
  cases rr
  obtain⟨t,rfl⟩:=r
  exact call_range_1 (uX I1 (by omega) (by omega) q1 q2 (by simpa using q))
theorem zA {a b:Expr}{ta:TA}{p pos:Pos}(hg:Gl X "range")(hm:X.mg "range"=none)(ha:PA X [a,b] ta)(hs:starEach [a,b] X.env= [(false,eval a X.env),(false,eval b X.env)]:=by rfl)(hs2:starEach [b] X.env= [(false,eval b X.env)]:=by rfl) :
  PI X tg (.Call (.Name "range" p) [a,b] [] pos) (Iv ta):=by
 intro pins s σ H R I h
 refine Call_ (qx I hg hm boot_range (MT (cq (ha pos pins s σ H _ I h) λus s1 ⟨vs,H1,I1,r1,q1⟩=>?_) (by rw[hs,hs2]) (by rw[hs2];rfl)))
 obtain⟨i,j,e,⟨q1,q2,q3,q4⟩,q⟩:=q1
 subst e
 cases r1 with
 |cons r rr=>
  cases rr with
  |cons r' rr=>
   cases rr
   obtain⟨t,rfl⟩:=r
   obtain⟨t',rfl⟩:=r'
   exact call_range_2 (uX I1 q1 q2 q3 q4 q)
def Js (wi:TI)(g:TG)(tb:TS):TS:=λD σ H=>wi σ H λJ H1=>∃W:Nat->Nat->St->Hp->Prop,(∃m,W 0 m σ H1)/\∀i m σ H,W i m σ H->
 (J.stop i H/\D.nx σ H)\/(J.go i H/\∃N:St->Hp->Prop,(∀σ' H',N σ' H'->∃m',m' < m/\W (i + 1) m' σ' H')/\∀x H',J.yld i H x H'->g x σ H' λσ2 H2=>tb {D with nx:=N,ct:=N,bk:=D.nx} σ2 H2)
def qf (fp:List Addr)(h:Heap):List (Addr×Obj):=fp.filterMap λb=>(h.get? b).map λo=>(b,o)
def jd {fp:List Addr}{h:Heap}{b:Addr}{o:Obj}(hb:b∈fp)(e:h.get? b=some o):(b,o)∈qf fp h:=L7.mpr ⟨b,hb,by rw[e];rfl⟩
theorem Ai {fp:List Addr}{h:Heap}{p:Addr×Obj}(hp:p∈qf fp h):p.1∈fp/\h.get? p.1=some p.2:=by
 obtain⟨b,hb,e⟩:=L7.mp hp
 cases q:h.get? b with
 |none=>rw[q] at e;cases e
 |some o=>
  rw[q] at e
  have e':(b,o)=p:=Option.some.inj e
  subst e'
  exact⟨hb,q⟩
def Inv.pinned {pins:List (Addr×Obj)}{σ:St}{H:Hp}{s:Shared}{fp:List Addr}(I:Inv X pins σ H s)(hf:∀b∈fp,rO X pins H b)(ho:∀b∈fp,∃o,s.heap.get? b=some o/\∀v,o.data≠.cell v):Inv X (pins ++ qf fp s.heap) σ H s:=
 I.pins_of λp hp=>(Lp.mp hp).elim (λz=>I.pin p (Ls _ z)) λz=>by
  obtain⟨hb,e⟩:=Ai z
  obtain⟨f0,f1,f2,_⟩:=hf p.1 hb
  obtain⟨o,e',d⟩:=ho p.1 hb
  rw[e] at e';cases e'
  exact⟨e,f0,f1,f2,d⟩
def Inv.unpinned {pins pl:List (Addr×Obj)}{σ:St}{H:Hp}{s:Shared}(I:Inv X (pins ++ pl) σ H s):Inv X pins σ H s:=I.pins_of λp hp=>I.pin p (Ls _ (Mr _ hp))
def uR {iter:Expr}{body:List Stmt}{wi:TI}{g:TG}{tb:TS}{pos:Pos}(hp:PassesOwn (model X.prog X.w) X.A X.env X.xe)(hc:X.calm=true)(hi:PI X tg iter wi)(hg:PG X tg g)(hb:oB X body tb)
  (hs:∀x,foldedSetIterable iter X.env x=pure x:=by intro _;rfl):PS X (.For tg iter body [] pos) (Js wi g tb):=by
 intro pins s σ H D I h
 refine wpAny_For (cq (hi pins s σ H _ I h) λv s1 h1=>cq h1 λitv s2 h2=>?_) hs
 obtain⟨it,fp,tn,J,H2,e,I2,T,st2,f2,W,⟨m0,w0⟩,turn⟩:=h2
 subst e
 have stat:∀{H':Hp},(∀b∈fp,H' b=none)->∀b∈fp,rO X pins H' b:=λhn b hb=>⟨hn b hb,(f2 b hb).2⟩
 refine codeAny_forLoop_any (λn s'=>∃i σ' H',Inv X pins σ' H' s'/\tn i s'.heap/\(∀b∈fp,H' b=none)/\W i n σ' H') ?_ m0 ⟨0,σ,H2,I2,st2,λb hb=>(f2 b hb).1,w0⟩
 rintro n s3 ⟨i,σ3,H3,I3,st3,fr3,w3⟩
 rcases turn i n σ3 H3 w3 with⟨stop,qn⟩ | ⟨go,N,hN,step⟩
 ·refine Mm hp (cq (T.done X rfl rfl rfl hc i pins s3 σ3 H3 X.xe I3 (stat fr3) st3 stop) λr s4 ⟨hr,I4⟩=>?_)
  subst hr
  exact M5 ⟨σ3,H3,I4,qn⟩
 ·refine Mm hp (cq (T.item X rfl rfl rfl hc i pins s3 σ3 H3 X.xe I3 (stat fr3) st3 go) λr s4 ⟨u,hr,h4⟩=>?_)
  subst hr
  refine Mm hp (cq h4 λ_ s5 ⟨x,H5,I5,r5,y5,st5,fr5⟩=>?_)
  have I5':=I5.pinned (stat fr5) (T.obj _ _ st5)
  refine Mm hp (cq (hg _ s5 σ3 H5 x u _ I5' r5 (step x H5 y5)) λ_ s6 ⟨σ6,H6,I6,q6⟩=>?_)
  refine Mm hp (cq (hb _ s6 σ6 H6 _ I6 q6) λf s7 q7=>?_)
  have again:∀{σ7:St} {H7:Hp},Inv X (pins ++ qf fp s5.heap) σ7 H7 s7->N σ7 H7->∃m,m < n/\∃i σ' H',Inv X pins σ' H' s7/\tn i s7.heap/\(∀b∈fp,H' b=none)/\W i m σ' H':=λ{σ7 H7} I7 n7=>by
   obtain⟨m',hm,w7⟩:=hN σ7 H7 n7
   refine⟨m',hm,i + 1,σ7,H7,I7.unpinned,T.keep _ _ _ st5 λb hb o e=>(I7.pin (b,o) (Ls _ (Ls _ (jd hb e)))).1,λb hb=>?_,w7⟩
   obtain⟨o,e,d⟩:=T.obj _ _ st5 b hb
   exact (I7.pin (b,o) (Ls _ (Ls _ (jd hb e)))).2.1
  cases f with
  |next=>obtain⟨σ7,H7,I7,n7⟩:=q7;exact again I7 n7
  |cont=>obtain⟨σ7,H7,I7,n7⟩:=q7;exact again I7 n7
  |brk=>obtain⟨σ7,H7,I7,q7⟩:=q7;exact⟨σ7,H7,I7.unpinned,q7⟩
  |ret v=>obtain⟨x7,σ7,H7,I7,r7,q7⟩:=q7;exact⟨x7,σ7,H7,I7.unpinned,r7,q7⟩
end
def vB {K:Frag}{a:Addr}{xs:List V}{g:TG}{tb:TS}{D:Ends}{σ:St}{H:Hp}(Pv:Nat->St->Hp->Prop)(h0:Pv 0 σ H)(hl:∀i σ H,i<=xs.length->Pv i σ H->gR K H a xs)
  (hs:∀i x σ H,xs[i]? =some x->Pv i σ H->g x σ H λσ2 H2=>tb {D with nx:=Pv (i + 1),ct:=Pv (i + 1),bk:=D.nx} σ2 H2) (hd:∀σ H,Pv xs.length σ H->D.nx σ H) :
  ∃W:Nat->Nat->St->Hp->Prop,(∃m,W 0 m σ H)/\∀i m σ H,W i m σ H->
   ((zR K a).stop i H/\D.nx σ H)\/((zR K a).go i H/\∃N:St->Hp->Prop,(∀σ' H',N σ' H'->∃m',m' < m/\W (i + 1) m' σ' H')/\∀x H',(zR K a).yld i H x H'->g x σ H' λσ2 H2=>tb {D with nx:=N,ct:=N,bk:=D.nx} σ2 H2):=by
 refine⟨λi m σ H=>m=xs.length - i/\i<=xs.length/\Pv i σ H,⟨xs.length,by simp,LD _,h0⟩,?_⟩
 rintro i m σ H ⟨rfl,hi,p⟩
 have q:=hl i σ H hi p
 by_cases hlt:i < xs.length
 ·refine .inr ⟨⟨xs,xs[i],q,by simp[hlt]⟩,Pv (i + 1),λσ' H' p'=>⟨xs.length - (i + 1),by omega,rfl,hlt,p'⟩,λx H' y=>?_⟩
  obtain⟨e,y⟩:=y
  subst e
  exact hs i x σ _ (y xs q) p
 ·have e:i=xs.length:=by omega
  subst e
  exact .inl ⟨⟨xs,q,KR _⟩,hd σ H p⟩
def EB {K:Frag}{a:Addr}{xs:List V}{g:TG}{tb:TS}{D:Ends}{σ:St}{H:Hp}(Pv:Nat->St->Hp->Prop)(h0:Pv 0 σ H)(hl:∀i σ H,i<=xs.length->Pv i σ H->gj K H a xs)
  (hs:∀i x σ H,xs[i]? =some x->Pv i σ H->g x σ H λσ2 H2=>tb {D with nx:=Pv (i + 1),ct:=Pv (i + 1),bk:=D.nx} σ2 H2) (hd:∀σ H,Pv xs.length σ H->D.nx σ H) :
  ∃W:Nat->Nat->St->Hp->Prop,(∃m,W 0 m σ H)/\∀i m σ H,W i m σ H->
   ((Fj K a).stop i H/\D.nx σ H)\/((Fj K a).go i H/\∃N:St->Hp->Prop,(∀σ' H',N σ' H'->∃m',m' < m/\W (i + 1) m' σ' H')/\∀x H',(Fj K a).yld i H x H'->g x σ H' λσ2 H2=>tb {D with nx:=N,ct:=N,bk:=D.nx} σ2 H2):=by
 refine⟨λi m σ H=>m=xs.length - i/\i<=xs.length/\Pv i σ H,⟨xs.length,by simp,LD _,h0⟩,?_⟩
 rintro i m σ H ⟨rfl,hi,p⟩
 have q:=hl i σ H hi p
 by_cases hlt:i < xs.length
 ·refine .inr ⟨⟨xs,xs[i],q,by simp[hlt]⟩,Pv (i + 1),λσ' H' p'=>⟨xs.length - (i + 1),by omega,rfl,hlt,p'⟩,λx H' y=>?_⟩
  obtain⟨e,y⟩:=y
  subst e
  exact hs i x σ _ (y xs q) p
 ·have e:i=xs.length:=by omega
  subst e
  exact .inl ⟨⟨xs,q,KR _⟩,hd σ H p⟩
def Al {lo:Int}{n:Nat}{g:TG}{tb:TS}{D:Ends}{σ:St}{H:Hp}(Pv:Nat->St->Hp->Prop)(h0:Pv 0 σ H)
  (hs:∀i σ H,i < n->Pv i σ H->g (.int (lo + i)) σ H λσ2 H2=>tb {D with nx:=Pv (i + 1),ct:=Pv (i + 1),bk:=D.nx} σ2 H2) (hd:∀σ H,Pv n σ H->D.nx σ H) :
  ∃W:Nat->Nat->St->Hp->Prop,(∃m,W 0 m σ H)/\∀i m σ H,W i m σ H->
   ((z7 lo n).stop i H/\D.nx σ H)\/((z7 lo n).go i H/\∃N:St->Hp->Prop,(∀σ' H',N σ' H'->∃m',m' < m/\W (i + 1) m' σ' H')/\∀x H',(z7 lo n).yld i H x H'->g x σ H' λσ2 H2=>tb {D with nx:=N,ct:=N,bk:=D.nx} σ2 H2):=by
 refine⟨λi m σ H=>m=n - i/\i<=n/\Pv i σ H,⟨n,by simp,LD _,h0⟩,?_⟩
 rintro i m σ H ⟨rfl,hi,p⟩
 by_cases hlt:i < n
 ·refine .inr ⟨hlt,Pv (i + 1),λσ' H' p'=>⟨n - (i + 1),by omega,rfl,hlt,p'⟩,λx H' y=>?_⟩
  obtain⟨e,y⟩:=y
  subst e y
  exact hs i σ _ hlt p
 ·have e:i=n:=by omega
  subst e
  exact .inl ⟨KR _,hd σ H p⟩
abbrev R2:=V->V->Hp->VK->Prop
def me (X:Cx)(f:Value->Value->Sem Value)(r:R2):Prop:=
 ∀(pins:List (Addr×Obj)) (s:Shared) (σ:St) (H:Hp) (x y:V) (v u:Value) (Q:VK),Inv X pins σ H s->RelV x v->RelV y u->r x y H Q->
  wpAny (model X.prog X.w) X.A (f v u) (EP X pins σ Q) X.xe s
def Jc (X:Cx)(f:Value->Sem Value)(r:V->Hp->VK->Prop):Prop:=
 ∀(pins:List (Addr×Obj)) (s:Shared) (σ:St) (H:Hp) (x:V) (v:Value) (Q:VK),Inv X pins σ H s->RelV x v->r x H Q->
  wpAny (model X.prog X.w) X.A (f v) (EP X pins σ Q) X.xe s
def cW (X:Cx)(f:Value)(r:List V->Hp->VK->Prop):Prop:=
 ∀(pins:List (Addr×Obj)) (s:Shared) (σ:St) (H:Hp) (xs:List V) (us:List Value) (Q:VK),Inv X pins σ H s->Vals xs us->r xs H Q->
  wpAny (model X.prog X.w) X.A (call f us) (EP X pins σ Q) X.xe s
def Kb (X:Cx)(r:V->Hp->(Bool->Hp->Prop)->Prop):Prop:=
 ∀(pins:List (Addr×Obj)) (s:Shared) (σ:St) (H:Hp) (x:V) (v:Value) (Q:Bool->Hp->Prop),Inv X pins σ H s->RelV x v->r x H Q->
  wpAny (model X.prog X.w) X.A (truthy v) (TP X pins σ Q) X.xe s
def Je (r:R2)(ta tb:TE):TE:=λσ H Q=>ta σ H λx H1=>tb σ H1 λy H2=>r x y H2 Q
def Kz (r:V->Hp->VK->Prop)(ta:TE):TE:=λσ H Q=>ta σ H λx H1=>r x H1 Q
def rI (C:Int->Int->Prop)(g:Int->Int->V):R2:=λx y H Q=>∃i j,x=.int i/\y=.int j/\C i j/\Q (g i j) H
def DN (g:Int->Int->V):R2:=λx y H Q=>∃i j,x=.int i/\y=.int j/\Q (g i j) H
def rU (g:Int->V):V->Hp->VK->Prop:=λx H Q=>∃i,x=.int i/\Q (g i) H
section
variable {X:Cx}{a b c:Expr}{ta tb tc:TE}{pos:Pos}
def Gm (ha:PE X a ta)(hb:PE X b tb){pins:List (Addr×Obj)}{s:Shared}{σ:St}{H:Hp}{R:V->V->Hp->Prop}(I:Inv X pins σ H s)
  (h:ta σ H λx H1=>tb σ H1 λy H2=>R x y H2) {Q:Value->Shared->Prop} {f:Value->Value->Sem Value}
  (hf:∀v u s2 x y H2,Inv X pins σ H2 s2->RelV x v->RelV y u->R x y H2->wpAny (model X.prog X.w) X.A (f v u) Q X.xe s2) :
  wpAny (model X.prog X.w) X.A (eval a X.env) (λv s₁=>wpAny (model X.prog X.w) X.A (eval b X.env) (λu s₂=>wpAny (model X.prog X.w) X.A (f v u) Q X.xe s₂) X.xe s₁) X.xe s:=by
 refine cq (ha pins s σ H _ I h) λv s1 ⟨x,H1,I1,r1,q1⟩=>?_
 refine cq (hb pins s1 σ H1 _ I1 q1) λu s2 ⟨y,H2,I2,r2,q2⟩=>?_
 exact hf v u s2 x y H2 I2 r1 r2 q2
def qN {op:Operator}{r:R2}(ho:me X (binaryOp op) r)(ha:PE X a ta)(hb:PE X b tb):PE X (.BinOp a op b pos) (Je r ta tb):=by
 intro pins s σ H Q I h
 exact wpAny_BinOp (Gm ha hb I h λv u s2 x y H2 I2 rx ry q=>ho pins s2 σ H2 x y v u Q I2 rx ry q)
def IM {op:UnaryOp}{r:V->Hp->VK->Prop}(ho:Jc X (unaryOp op) r)(ha:PE X a ta):PE X (.UnaryOp op a pos) (Kz r ta):=by
 intro pins s σ H Q I h
 exact UnaryOp_ (cq (ha pins s σ H _ I h) λv s1 ⟨x,H1,I1,r1,q1⟩=>ho pins s1 σ H1 x v Q I1 r1 q1)
def Jf {f:Value->Value->Sem Value}{C:Int->Int->Prop}{g:Int->Int->Int}
  (rule:∀(i j:Int) (t u:Tok) (s:Shared) (Q:Value->Shared->Prop) (E:Value->Shared->Prop),C i j->Q (.int (g i j) s.toks) {s with toks:=s.toks + 1}->wpAny (model X.prog X.w) X.A (f (.int i t) (.int j u)) Q E s) :
  me X f (rI C λi j=>.int (g i j)):=by
 intro pins s σ H x y v u Q I rx ry h
 obtain⟨i,j,rfl,rfl,hc,q⟩:=h
 obtain⟨t,rfl⟩:=rx
 obtain⟨t',rfl⟩:=ry
 exact rule i j t t' s _ _ hc ⟨.int (g i j),H,I.tok _,⟨_,rfl⟩,q⟩
def J3 {f:Value->Value->Sem Value}{g:Int->Int->Int}
  (rule:∀(i j:Int) (t u:Tok) (s:Shared) (Q:Value->Shared->Prop) (E:Value->Shared->Prop),Q (.int (g i j) s.toks) {s with toks:=s.toks + 1}->wpAny (model X.prog X.w) X.A (f (.int i t) (.int j u)) Q E s) :
  me X f (DN λi j=>.int (g i j)):=by
 intro pins s σ H x y v u Q I rx ry h
 obtain⟨i,j,rfl,rfl,q⟩:=h
 obtain⟨t,rfl⟩:=rx
 obtain⟨t',rfl⟩:=ry
 exact rule i j t t' s _ _ ⟨.int (g i j),H,I.tok _,⟨_,rfl⟩,q⟩
def IP {f:Value->Value->Sem Value}{g:Int->Int->Bool}
  (rule:∀(i j:Int) (t u:Tok) (s:Shared) (Q:Value->Shared->Prop) (E:Value->Shared->Prop),Q (.bool (g i j)) s->wpAny (model X.prog X.w) X.A (f (.int i t) (.int j u)) Q E s) :
  me X f (DN λi j=>.bl (g i j)):=by
 intro pins s σ H x y v u Q I rx ry h
 obtain⟨i,j,rfl,rfl,q⟩:=h
 obtain⟨t,rfl⟩:=rx
 obtain⟨t',rfl⟩:=ry
 exact rule i j t t' s _ _ ⟨.bl (g i j),H,I,rfl,q⟩
def DK (i j:Int):Prop:=0 < j/\j < 1073741824
def Hh (i j:Int):Prop:=0<=j/\j<=1000000/\i.natAbs < 2 ^ 64
def Cv (i j:Int):Prop:=(-(2 ^ 64) < i/\i < 2 ^ 64)\/(-(2 ^ 64) < j/\j < 2 ^ 64)
def Cv.ok {i j:Int}(h:Cv i j):IntMulOk i j:=by
 rcases h with⟨h1,h2⟩ | ⟨h1,h2⟩
 ·exact .of_left (intBits_le_64 h1 h2)
 ·exact .of_right (intBits_le_64 h1 h2)
def lE:me X (binaryOp .Add) (DN λi j=>.int (i + j)):=J3 λ_ _ _ _ _ _ _ q=>add_int q
def j6:me X (binaryOp .Mult) (rI Cv λi j=>.int (i * j)):=Jf λ_ _ _ _ _ _ _ hc q=>mul_int q hc.ok
def l0:me X (binaryOp .FloorDiv) (rI DK λi j=>.int (i / j)):=Jf λi j _ _ _ _ _ hc q=>by
 have h1:(0:Int) < j:=hc.1
 have h2:j < 1073741824:=hc.2
 exact floordiv_int (by omega) (by rw[Int.fdiv_eq_ediv_of_nonneg i (by omega)];exact q) (.inl (PyProof.noPylong_small (by omega)))
def lF:me X (binaryOp .Mod) (rI (λ_ j=>0 < j) λi j=>.int (i % j)):=Jf λi j _ _ _ _ _ hc q=>by
 have h1:(0:Int) < j:=hc
 exact mod_int' (by omega) (by rw[Int.fmod_eq_emod_of_nonneg i (by omega)];exact q)
def Gd:me X (binaryOp .Pow) (rI Hh λi j=>.int (i ^ j.toNat)):=Jf λ_ _ _ _ _ _ _ hc q=>pow_int_small hc.1 hc.2.1 hc.2.2 q
def KJ {f:Value->Sem Value}{g:Int->Int}
  (rule:∀(i:Int) (t:Tok) (s:Shared) (Q:Value->Shared->Prop) (E:Value->Shared->Prop),Q (.int (g i) s.toks) {s with toks:=s.toks + 1}->wpAny (model X.prog X.w) X.A (f (.int i t)) Q E s) :
  Jc X f (rU λi=>.int (g i)):=by
 intro pins s σ H x v Q I rx h
 obtain⟨i,rfl,q⟩:=h
 obtain⟨t,rfl⟩:=rx
 exact rule i t s _ _ ⟨.int (g i),H,I.tok _,⟨_,rfl⟩,q⟩
def CT:Jc X (unaryOp .USub) (rU λi=>.int (-i)):=KJ λ_ _ _ _ _ q=>neg_int q
end
def Kf:V->V->Bool
 | .non,.non=>true | .non,.int _=>true | .int _,.non=>true | .non,.bl _=>true | .bl _,.non=>true | .non,.str _=>true | .str _,.non=>true
 | .int _,.int _=>true | .bl _,.bl _=>true | .str _,.str _=>true | .byt _,.byt _=>true
 | .int _,.str _=>true | .str _,.int _=>true | .bl _,.str _=>true | .str _,.bl _=>true
 |_,_=>false
def Ky:R2:=λx y H Q=>Kf x y=true/\Q (.bl (!decide (x=y))) H
def Ei {i j:Int}:decide (V.int i=V.int j)=(i == j):=by
 rw[LZ]
 simp
def GL {i j:Bool}:decide (V.bl i=V.bl j)=(i == j):=by
 rw[LZ]
 simp
def DF {i j:Str}:decide (V.str i=V.str j)=(i == j):=by
 rw[LZ]
 simp
def El {i j:Array UInt8}:decide (V.byt i=V.byt j)=(i.toList == j.toList):=by
 rw[LZ]
 cases i
 cases j
 simp
section
variable {X:Cx}{a b c:Expr}{ta tb tc:TE}{pos:Pos}
def dq {pins:List (Addr×Obj)}{σ:St}{H:Hp}{s:Shared}{Q:VK}{k k':Bool}(I:Inv X pins σ H s)(q:Q (.bl k) H)(e:k=k'):EP X pins σ Q (.bool k') s:=by
 subst e
 exact⟨.bl k,H,I,rfl,q⟩
theorem IH:me X (compareOp .NotEq) Ky:=by
 intro pins s σ H x y v u Q I rx ry h
 obtain⟨hs,q⟩:=h
 cases x with
 |non=>
  cases rx
  cases y with
  |non=>cases ry;exact PySem.EqNone.ne_none_none (dq I q (by simp))
  |bl j=>cases ry;exact PySem.EqNone.ne_none_bool (dq I q (by simp))
  |int j=>obtain⟨t',rfl⟩:=ry;exact PySem.EqNone.ne_none_int (dq I q (by simp))
  |str j=>obtain⟨t',rfl⟩:=ry;exact PySem.EqNone.ne_none_str (dq I q (by simp))
  |_=>exact absurd (show false=true from hs) Lh
 |bl i=>
  cases rx
  cases y with
  |non=>cases ry;exact PySem.EqNone.ne_bool_none (dq I q (by simp))
  |bl j=>cases ry;exact ne_bool (dq I q (congrArg not GL))
  |str j=>obtain⟨t',rfl⟩:=ry;exact PySem.EqMixed.ne_bool_str (dq I q (by simp))
  |_=>exact absurd (show false=true from hs) Lh
 |int i=>
  obtain⟨t,rfl⟩:=rx
  cases y with
  |non=>cases ry;exact PySem.EqNone.ne_int_none (dq I q (by simp))
  |int j=>obtain⟨t',rfl⟩:=ry;exact ne_int (dq I q (congrArg not Ei))
  |str j=>obtain⟨t',rfl⟩:=ry;exact PySem.EqMixed.ne_int_str (dq I q (by simp))
  |_=>exact absurd (show false=true from hs) Lh
 |str i=>
  obtain⟨t,rfl⟩:=rx
  cases y with
  |non=>cases ry;exact PySem.EqNone.ne_str_none (dq I q (by simp))
  |bl j=>cases ry;exact PySem.EqMixed.ne_str_bool (dq I q (by simp))
  |int j=>obtain⟨t',rfl⟩:=ry;exact PySem.EqMixed.ne_str_int (dq I q (by simp))
  |str j=>obtain⟨t',rfl⟩:=ry;exact ne_str (dq I q (congrArg not DF))
  |_=>exact absurd (show false=true from hs) Lh
 |byt i=>
  obtain⟨t,rfl⟩:=rx
  cases y with
  |byt j=>obtain⟨t',rfl⟩:=ry;exact PySem.W.ne_bytes (dq I q (congrArg not El))
  |_=>exact absurd (show false=true from hs) Lh
 |_=>cases y <;> exact absurd (show false=true from hs) Lh
def E8:me X (compareOp .Lt) (DN λi j=>.bl (decide (i < j))):=IP λ_ _ _ _ _ _ _ q=>lt_int q
def BU:me X (compareOp .LtE) (DN λi j=>.bl (decide (i<=j))):=IP λ_ _ _ _ _ _ _ q=>le_int q
def aS (b:Expr){op:CmpOp}(h:op≠.In:=by decide)(h2:op≠.NotIn:=by decide):behindInMarks op b=false:=by
 have e1:(op == CmpOp.In)=false:=by cases op <;> first |rfl |exact absurd rfl h
 have e2:(op == CmpOp.NotIn)=false:=by cases op <;> first |rfl |exact absurd rfl h2
 cases b <;> simp[behindInMarks,e1,e2]
def Ec {op:CmpOp}{r:R2}(ho:me X (compareOp op) r)(ha:PE X a ta)(hb:PE X b tb)(hm:behindInMarks op b=false):PE X (.Compare a [op] [b] pos) (Je r ta tb):=by
 intro pins s σ H Q I h
 exact wpAny_Compare1 (Gm ha hb I h λv u s2 x y H2 I2 rx ry q=>ho pins s2 σ H2 x y v u Q I2 rx ry q) hm
def HK (t:TE):TT:=λσ H Q=>t σ H λx H'=>∃k,x=.bl k/\Q k H'
def yQ {op:CmpOp}{r:R2}(ho:me X (compareOp op) r)(ha:PE X a ta)(hb:PE X b tb)(hm:behindInMarks op b=false):PT X (.Compare a [op] [b] pos) (HK (Je r ta tb)):=by
 intro pins s σ H Q I h
 refine wpAny_isTrue_Compare1 (cq (ha pins s σ H _ I h) λv s1 ⟨x,H1,I1,r1,q1⟩=>cq (hb pins s1 σ H1 _ I1 q1) λu s2 ⟨y,H2,I2,r2,q2⟩=>
  cq (ho pins s2 σ H2 x y v u _ I2 r1 r2 q2) λc s3 ⟨z,H3,I3,r3,k,e,q3⟩=>?_) hm
 subst e
 cases r3
 exact LY ⟨H3,I3,q3⟩
def G8 (r r':R2)(ta tb tc:TE):TE:=λσ H Q=>ta σ H λx H1=>tb σ H1 λy H2=>r x y H2 λz H3=>∃k,z=.bl k/\
 (if k=true then tc σ H3 λw' H4=>r' y w' H4 Q else Q (.bl false) H3)
theorem Bg {op op':CmpOp}{r r':R2}(ho:me X (compareOp op) r)(ho':me X (compareOp op') r')(ha:PE X a ta)(hb:PE X b tb)(hc:PE X c tc)
  (hm:lastMarks [op,op'] [b,c]=false:=by with_unfolding_all rfl):PE X (.Compare a [op,op'] [b,c] pos) (G8 r r' ta tb tc):=by
 intro pins s σ H Q I h
 refine Compare_chain (cq (ha pins s σ H _ I h) λv s1 ⟨x,H1,I1,r1,q1⟩=>chain_link (cq (hb pins s1 σ H1 _ I1 q1) λu s2 ⟨y,H2,I2,r2,q2⟩=>
  cq (ho pins s2 σ H2 x y v u _ I2 r1 r2 q2) λd s3 ⟨z,H3,I3,r3,k,e,q3⟩=>?_)) hm
 subst e
 cases r3
 refine LY ?_
 cases k with
 |false=>exact ite_ff ⟨.bl false,H3,I3,rfl,q3⟩
 |true=>exact ite_tt (chain_last (cq (hc pins s3 σ H3 _ I3 q3) λw' s4 ⟨z',H4,I4,r4,q4⟩=>ho' pins s4 σ H4 y z' u w' Q I4 r2 r4 q4))
def Im (K:Frag)(x:V)(H:Hp)(k:Bool):Prop:=
 match x with
 | .non=>k=false
 | .bl b=>k=b
 | .int i=>k=(i != 0)
 | .str y=>y.length<=sizeLine/\k=((y.length:Int) != 0)
 | .byt y=>y.size<=sizeLine/\k=((y.size:Int) != 0)
 | .ref p=>(∃xs,gR K H p xs/\k= !xs.isEmpty)\/(∃xs,gj K H p xs/\k= !xs.isEmpty)\/∃kvs,H p=some (.dK kvs)/\k= !kvs.isEmpty
 |_=>False
def ye {κ:Type}{kvs:List (κ×V)}{vs:List (κ×Value)}(r:KV kvs vs):(!vs.isEmpty)= !kvs.isEmpty:=by
 cases r <;> rfl
def qh {xs:List V}{its:List Value}(r:Vals xs its):(!its.toArray.isEmpty)= !xs.isEmpty:=by
 cases r <;> simp
def nR:(sizeLine:Nat) < 2 ^ 63:=by rw[Lo];decide
theorem FT:Kb X (λx H Q=>∃k,Im X.K x H k/\Q k H):=by
 intro pins s σ H x v Q I rx h
 obtain⟨k,e,q⟩:=h
 have hl:=nR
 have hs:sizeLine=16777216:=Lo
 cases x with
 |non=>
  cases rx
  have e':k=false:=e
  subst e'
  exact truthy_none ⟨H,I,q⟩
 |bl b=>
  cases rx
  have e':k=b:=e
  subst e'
  exact LY ⟨H,I,q⟩
 |int i=>
  obtain⟨t,rfl⟩:=rx
  have e':k=(i != 0):=e
  subst e'
  exact PySem.P.truthy_int ⟨H,I,q⟩
 |str y=>
  obtain⟨t,rfl⟩:=rx
  obtain⟨hy,e'⟩:y.length<=sizeLine/\k=((y.length:Int) != 0):=e
  subst e'
  exact PySem.P.truthy_str (by omega) ⟨H,I.tok _,q⟩
 |byt y=>
  obtain⟨t,rfl⟩:=rx
  obtain⟨hy,e'⟩:y.size<=sizeLine/\k=((y.size:Int) != 0):=e
  subst e'
  exact PySem.W.truthy_bytes (by omega) ⟨H,I.tok _,q⟩
 |ref p=>
  cases rx
  have e':(∃xs,gR X.K H p xs/\k= !xs.isEmpty)\/(∃xs,gj X.K H p xs/\k= !xs.isEmpty)\/∃kvs,H p=some (.dK kvs)/\k= !kvs.isEmpty:=e
  rcases e' with⟨xs,hx,e'⟩ | ⟨xs,hx,e'⟩ | ⟨kvs,hx,e'⟩
  ·subst e'
   obtain⟨its,r,pl,hz⟩:=I.list hx
   have hlen:=r.length
   exact wpAny_truthy_list pl.isList (by simp only[K1];omega) ⟨H,I.tok _,by rw[qh r];exact q⟩
  ·subst e'
   obtain⟨its,r,pl,hz⟩:=I.tuple hx
   have hlen:=r.length
   exact truthy_tuple pl (by simp only[K1];omega) ⟨H,I.tok _,by rw[qh r];exact q⟩
  ·subst e'
   obtain⟨hz,hS,vs,r,m⟩:kvs.length<=sizeLine/\(p == sysModules)=false/\∃vs,KV kvs vs/\s.heap.DictOf (dE X.prog X.w) p vs:=I.hok p _ hx
   have hlen:kvs.length=vs.length:=Paired.length r
   exact wpAny_truthy_dict hS m (by omega) ⟨H,I.tok _,by rw[ye r];exact q⟩
 |_=>exact (show False from e).elim
def CY (ha:PE X a ta)(he:∀whole,isTrue a X.env whole=(do let v <-whole;standAt a.pos;holding [v] (truthy v))) :
  PT X a (λσ H Q=>ta σ H λx H'=>∃k,Im X.K x H' k/\Q k H'):=by
 intro pins s σ H Q I h
 exact isTrue_plain (cq (ha pins s σ H _ I h) λv s1 ⟨x,H1,I1,r1,q1⟩=>FT pins s1 σ H1 x v Q I1 r1 q1) (he _)
theorem vals1 {x:V}{us:List Value}(r:Vals [x] us):∃u,us= [u]/\RelV x u:=by
 cases r with
 |cons r1 r2=>cases r2;exact⟨_,rfl,r1⟩
theorem vals2 {x y:V}{us:List Value}(r:Vals [x,y] us):∃u w',us= [u,w']/\RelV x u/\RelV y w':=by
 cases r with
 |cons r1 r2=>
  cases r2 with
  |cons r3 r4=>cases r4;exact⟨_,_,rfl,r1,r3⟩
def C3:cW X (.builtin "abs") (λxs H Q=>∃i,xs= [.int i]/\Q (.int (if i < 0 then -i else i)) H):=by
 intro pins s σ H xs us Q I r h
 obtain⟨i,rfl,q⟩:=h
 obtain⟨u,rfl,t,rfl⟩:=vals1 r
 exact call_abs_int λu tk=>⟨.int (if i < 0 then -i else i),H,I.tok _,⟨_,rfl⟩,q⟩
def AQ (hc:X.calm=true):cW X (.builtin "max") (λxs H Q=>∃i j,xs= [.int i,.int j]/\Q (.int (if j > i then j else i)) H):=by
 intro pins s σ H xs us Q I r h
 obtain⟨i,j,rfl,q⟩:=h
 obtain⟨u,w',rfl,⟨t,rfl⟩,⟨t',rfl⟩⟩:=vals2 r
 refine max_two_ints (I.ok.hd hc) λh' tk k=>⟨_,H,I.kept k,?_,q⟩
 by_cases hj:j > i
 ·rw[KU hj,KU hj];exact⟨_,rfl⟩
 ·rw[K0 hj,K0 hj];exact⟨_,rfl⟩
def z5 (hc:X.calm=true):cW X (.builtin "min") (λxs H Q=>∃i j,xs= [.int i,.int j]/\Q (.int (if j < i then j else i)) H):=by
 intro pins s σ H xs us Q I r h
 obtain⟨i,j,rfl,q⟩:=h
 obtain⟨u,w',rfl,⟨t,rfl⟩,⟨t',rfl⟩⟩:=vals2 r
 refine min_two_ints (I.ok.hd hc) λh' tk k=>⟨_,H,I.kept k,?_,q⟩
 by_cases hj:j < i
 ·rw[KU hj,KU hj];exact⟨_,rfl⟩
 ·rw[K0 hj,K0 hj];exact⟨_,rfl⟩
def Hz (K:Frag)(x:V)(H:Hp)(n:Nat):Prop:=
 match x with
 | .str y=>y.length<=sizeLine/\n=y.length
 | .byt y=>y.size<=sizeLine/\n=y.size
 | .ref p=>(∃xs,gR K H p xs/\n=xs.length)\/∃xs,gj K H p xs/\n=xs.length
 |_=>False
theorem dF:cW X (.builtin "len") (λxs H Q=>∃x n,xs= [x]/\Hz X.K x H n/\Q (.int n) H):=by
 intro pins s σ H xs us Q I r h
 obtain⟨x,n,rfl,e,q⟩:=h
 obtain⟨u,rfl,rx⟩:=vals1 r
 have hl:=nR
 have hs:sizeLine=16777216:=Lo
 cases x with
 |str y=>
  obtain⟨t,rfl⟩:=rx
  obtain⟨hy,e'⟩:y.length<=sizeLine/\n=y.length:=e
  subst e'
  exact len_str (by omega) ⟨.int _,H,I.tok _,⟨_,rfl⟩,q⟩
 |byt y=>
  obtain⟨t,rfl⟩:=rx
  obtain⟨hy,e'⟩:y.size<=sizeLine/\n=y.size:=e
  subst e'
  exact PySem.W.len_bytes (by omega) ⟨.int _,H,I.tok _,⟨_,rfl⟩,q⟩
 |ref p=>
  cases rx
  have e':(∃xs,gR X.K H p xs/\n=xs.length)\/∃xs,gj X.K H p xs/\n=xs.length:=e
  rcases e' with⟨xs,hx,e'⟩ | ⟨xs,hx,e'⟩
  ·subst e'
   obtain⟨its,r',pl,hz⟩:=I.list hx
   have hlen:=r'.length
   exact Calls.call_len_list pl.isList (by simp only[K1];omega) ⟨.int xs.length,H,I.tok _,⟨_,by simp only[K1];rw[hlen]⟩,q⟩
  ·subst e'
   obtain⟨its,r',pl,hz⟩:=I.tuple hx
   have hlen:=r'.length
   exact len_tuple pl (by simp only[K1];omega) ⟨.int xs.length,H,I.tok _,⟨_,by simp only[K1];rw[hlen]⟩,q⟩
 |_=>exact (show False from e).elim
def vF:cW X (.builtin "divmod") (λxs H Q=>∃i j,xs= [.int i,.int j]/\DK i j/\∀p,H p=none->Q (.ref p) (upd H p (.tup [.int (i / j),.int (i % j)]))):=by
 intro pins s σ H xs us Q I r h
 obtain⟨i,j,rfl,⟨h1,h2⟩,q⟩:=h
 obtain⟨u,w',rfl,⟨t,rfl⟩,⟨t',rfl⟩⟩:=vals2 r
 refine divmod_int (by omega) ?_ (.inl (PyProof.noPylong_small (by omega)))
 rw[Int.fdiv_eq_ediv_of_nonneg i (by omega),Int.fmod_eq_emod_of_nonneg i (by omega)]
 have hn:H s.heap.objs.size=none:=I.hok.fresh (KR _)
 refine⟨.ref s.heap.objs.size,_,?_,rfl,q _ hn⟩
 refine I.laid (λb o e=>KQ _ e) (KR _) ⟨by simp only[Lu,length_nil];rw[Lo];decide,[.int (i / j) s.toks,.int (i % j) (s.toks + 1)],.cons ⟨_,rfl⟩ (.cons ⟨_,rfl⟩ .nil),?_⟩
 exact⟨_,Lf s.heap rfl,rfl,0,rfl,rfl⟩
end
structure GF (h:Heap)(x dx C:Addr)(mA:Str->Option Value):Prop where
 obj:h.get? x=some (PySem.W.instObj C dx)
 ns:h.Ns1 dx mA
 ne:dx≠x
def AA {h:Heap}{dx:Addr}{mA:Str->Option Value}(n:h.Ns1 dx mA):∃od,h.get? dx=some od/\∀name,PySem.W.lookIn name od=some (mA name):=by
 obtain⟨o,es,ep,ho,hd,hk,_,hm⟩:=n
 refine⟨o,ho,λname=>?_⟩
 have e:=hm name
 unfold nsFind findBy at e
 rw[<-Array.find?_toList] at e
 unfold PySem.W.lookIn
 rw[hd]
 dsimp only
 split
 ·rename_i y q
  rw[q] at e
  exact congrArg some e
 ·rename_i q
  rw[q] at e
  have a:es.toList.any (·.refKey)=false:=by
   rw[List.any_eq_false]
   intro y hy
   obtain⟨z,t,hkey⟩:=hk y (Ms.mp hy)
   simp[DictEntry.refKey,hkey]
  have a':¬es.toList.any (·.refKey)=true:=by rw[a];exact Lh
  rw[K0 a']
  exact congrArg some e
def GF.look {h:Heap}{x dx C:Addr}{mA:Str->Option Value}(I:GF h x dx C mA):∃od,PySem.W.InstAt h x (PySem.W.instObj C dx) C (some od)/\∀name,PySem.W.lookIn name od=some (mA name):=
 let ⟨od,ho,hl⟩:=AA I.ns
 ⟨od,⟨I.obj,rfl,rfl,ho⟩,hl⟩
section
variable {P:Program}{w:World}{H H':Hp}{h h':Heap}{a C dx:Addr}{fs fs':List (Str×V)}
def Ds (hok:jS P w H h)(e:H a=some (.ins C dx fs)):∃mA,GF h a dx C mA/\(∀f,FE (fs.lookup f) (mA f))/\PySem.Within mA (fs.map (·.1))/\fs.length<=1000/\H dx=some (.own a):=by
 obtain⟨d,z,ne,ob,mA,n,r,q⟩:=(show bL P w H h a (.ins C dx fs) from hok a _ e)
 exact⟨mA,⟨ob,n,ne⟩,r,q,z,d⟩
end
structure J8 (K:Frag)(C:Addr):Prop where
 pg:PySem.W.plainGet K C Str.empty=true
 hd:PySem.W.hasDictIn K C=true
 po:PySem.W.plainOver K C=true
 sa:PySem.W.findIn K (.ref C) "__setattr__"=some (some (.builtin "object.__setattr__"))
def J8.get {K:Frag}{C:Addr}(c:J8 K C)(f:Str):PySem.W.plainGet K C f=true:=c.pg
section
variable {X:Cx}{pins:List (Addr×Obj)}{σ:St}{H:Hp}{s:Shared}{A:Around}{E:Value->Shared->Prop}{Q:Value->Shared->Prop}{c:Value}{b:Bool}
inductive ot (K:Frag)(H:Hp):V->Value->Prop where
 |non:ot K H .non (.type "NoneType")
 |bl (x:Bool):ot K H (.bl x) (.type "bool")
 |int (i:Int):ot K H (.int i) (.type "int")
 |str (x:Str):ot K H (.str x) (.type "str")
 |flt (x:UInt64):ot K H (.flt x) (.type "float")
 |lst {a:Addr} {xs:List V} (e:H a=some (.lst xs)):ot K H (.ref a) (.type "list")
 |bt {a:Addr} {o:Obj} {xs:List V} (e:H a=some (.bt o (.lst xs))):ot K H (.ref a) (.type "list")
 |tup {a:Addr} {xs:List V} (e:H a=some (.tup xs)):ot K H (.ref a) (.type "tuple")
 |dK {a:Addr} {kvs:List (Key×V)} (e:H a=some (.dK kvs)):ot K H (.ref a) (.type "dict")
 |dT {a:Addr} {kvs:List (List Key×V)} (e:H a=some (.dT kvs)):ot K H (.ref a) (.type "dict")
 |ins {a C dx:Addr} {fs:List (Str×V)} (e:H a=some (.ins C dx fs)) (cl:J8 K C) (ha:PySem.W.findIn K (.ref C) "__class__"=some (some (.builtin "object.__class__")))
   (hn:PySem.W.specialIn K (.builtin "object.__class__") "__get__"=some (some (.builtin "getset_descriptor.__get__"))) (htk:PySem.W.takesIn K (.builtin "object.__class__")=some true)
   (hm:PySem.W.mroIn K C (.type "object")=some true):ot K H (.ref a) (.ref C)
theorem iK {x:V}{u t:Value}(I:Inv X pins σ H s)(rx:RelV x u)(ty:ot X.K H x t)(e:PySem.W.kitOne X.K t c=some b)(h:∀tk,Q (.bool b) {s with toks:=tk}) :
  wpAny (model X.prog X.w) A (call (.builtin "isinstance") [u,c]) Q E s:=by
 cases ty with
 |non=>cases (show u=Value.none from rx);exact LF PySem.W.kitx_none I.kIn True.intro e (λz=>nomatch z) h
 |bl y=>cases (show u=Value.bool y from rx);exact LF PySem.W.kitx_bool I.kIn True.intro e (λz=>nomatch z) h
 |int i=>obtain⟨t,q⟩:=(show ∃t,u=Value.int i t from rx);cases q;exact LF PySem.W.kitx_int I.kIn True.intro e (λz=>nomatch z) h
 |str y=>obtain⟨t,q⟩:=(show ∃t,u=Value.str y t from rx);cases q;exact LF PySem.W.kitx_str I.kIn True.intro e (λz=>nomatch z) h
 |flt y=>obtain⟨t,q⟩:=(show ∃t,u=Value.float y t from rx);cases q;exact LF PySem.W.kitx_float I.kIn True.intro e (λz=>nomatch z) h
 | @lst a xs ea=>
  cases (show u=Value.ref a from rx)
  obtain⟨_,_,n,_,h1⟩:=(show bL X.prog X.w H s.heap a (.lst xs) from I.hok a _ ea)
  exact LF PySem.W.kitx_list I.kIn ⟨_,h1,rfl⟩ e (λz=>nomatch z) h
 | @bt a ob xs ea=>
  cases (show u=Value.ref a from rx)
  obtain⟨_,_,_,n,_,h1⟩:=(show bL X.prog X.w H s.heap a (.bt ob (.lst xs)) from I.hok a _ ea)
  exact LF PySem.W.kitx_list I.kIn ⟨_,h1,rfl⟩ e (λz=>nomatch z) h
 | @tup a xs ea=>
  cases (show u=Value.ref a from rx)
  obtain⟨_,_,_,p⟩:=(show bL X.prog X.w H s.heap a (.tup xs) from I.hok a _ ea)
  obtain⟨o,h1,h2,_⟩:=p
  exact LF PySem.W.kitx_tuple I.kIn ⟨o,h1,h2⟩ e (λz=>nomatch z) h
 | @dK a kvs ea=>
  cases (show u=Value.ref a from rx)
  obtain⟨_,_,vs,_,p⟩:=(show bL X.prog X.w H s.heap a (.dK kvs) from I.hok a _ ea)
  obtain⟨o,es,ep,h1,h2,_⟩:=p
  exact LF PySem.W.kitx_dict I.kIn ⟨o,h1,h2.1⟩ e (λz=>nomatch z) h
 | @dT a kvs ea=>
  cases (show u=Value.ref a from rx)
  obtain⟨_,_,xs,_,o,es,ep,h1,h2,_⟩:=(show bL X.prog X.w H s.heap a (.dT kvs) from I.hok a _ ea)
  exact LF PySem.W.kitx_dict I.kIn ⟨o,h1,h2.1⟩ e (λz=>nomatch z) h
 | @ins a C dx fs ea cl ha hn htk hm=>
  cases (show u=Value.ref a from rx)
  obtain⟨mA,O,_⟩:=Ds I.hok ea
  obtain⟨od,J,_⟩:=O.look
  exact LF (PySem.W.kitx_own (cl.get _) cl.hd ha hn htk hm) I.kIn J e (λz=>nomatch z) h
end
structure dN (k:Nat)(A:Around):Prop where
 hd:A.handled=none
 dp:A.depth + 3 * k + 5 < recursionLimit
 un:A.units + 16 * k + 200 < cLine
 gd:A.guards=some []
def dN.mono {j k:Nat}{A:Around}(r:dN k A)(h:j<=k):dN j A:=⟨r.hd,by have:=r.dp;omega,by have:=r.un;omega,r.gd⟩
def dN.deeper {k:Nat}{A:Around}(r:dN (k + 1) A)(env:Env):dN k (A.deeper env):=
 ⟨r.hd,by have:=r.dp;show A.depth + 1 + 3 * k + 5 < _;omega,by have:=r.un;show A.units + 3 + 16 * k + 200 < _;omega,r.gd⟩
def dN.depth {k:Nat}{A:Around}(r:dN k A):A.depth < recursionLimit:=by have:=r.dp;omega
def dN.units {k:Nat}{A:Around}(r:dN k A):A.units + 64 < cLine:=by have:=r.un;omega
def JD:TA:=λ_ H Q=>Q [] H
def IL (ta:TE)(tr:TA):TA:=λσ H Q=>ta σ H λx H1=>tr σ H1 λxs H2=>Q (x :: xs) H2
section
variable {X:Cx}{e:Expr}{es:List Expr}{te:TE}{t:TA}{pos:Pos}
def aU:PA X [] JD:=λ_ _ _ _ H Q I h=>Calls.spliced_nil ⟨[],H,I,.nil,h⟩
def ay (ha:PE X e te)(hr:PA X es t)(hs:starEach (e :: es) X.env=(false,eval e X.env) :: starEach es X.env:=by rfl):PA X (e :: es) (IL te t):=by
 intro pos pins s σ H Q I h
 rw[hs]
 show wpAny _ _ (spliced ((false,eval e X.env) :: backTo pos (starEach es X.env))) _ _ s
 refine Calls.spliced_cons (cq (ha pins s σ H _ I h) λu s1 ⟨x,H1,I1,r1,q1⟩=>?_)
 exact cq (hr pos pins s1 σ H1 _ I1 q1) λus s2 ⟨xs,H2,I2,r2,q2⟩=>⟨x :: xs,H2,I2,.cons r1 r2,q2⟩
def Jy (t:TA):TE:=λσ H Q=>t σ H λxs H1=>xs.length<=sizeLine/\∀p,H1 p=none->Q (.ref p) (upd H1 p (.tup xs))
def JS (t:TA):TE:=λσ H Q=>t σ H λxs H1=>xs.length<=sizeLine/\∀p,H1 p=none->Q (.ref p) (upd H1 p (.lst xs))
def xi {x1}(h:PA X es t):PE X (.Tuple es x1 pos) (Jy t):=by
 intro pins s σ H Q I hq
 refine wpAny_Tuple_spliced (cq (h pos pins s σ H _ I hq) λus s1 ⟨xs,H1,I1,r,z,q⟩=>⟨by rw[<-r.length];exact z,?_⟩)
 have hf:H1 s1.heap.objs.size=none:=I1.hok.fresh (KR _)
 refine⟨.ref s1.heap.objs.size,upd H1 s1.heap.objs.size (.tup xs),I1.laid (t':=s1.toks) (λb u e=>KQ _ e) (KR _) ?_,rfl,q _ hf⟩
 exact⟨z,us,r,vK.new _ _⟩
def mX (h:PA X es t):PE X (.List es pos) (JS t):=by
 intro pins s σ H Q I hq
 refine wpAny_List_spliced (cq (h pos pins s σ H _ I hq) λus s1 ⟨xs,H1,I1,r,z,q⟩=>⟨by rw[<-r.length];exact z,?_⟩)
 have hf:H1 s1.heap.objs.size=none:=I1.hok.fresh (KR _)
 refine⟨.ref s1.heap.objs.size,upd H1 s1.heap.objs.size (.lst xs),I1.laid (t':=s1.toks) (λb u e=>KQ _ e) (KR _) ?_,rfl,q _ hf⟩
 exact⟨z,us,0,r,Lf _ rfl⟩
end
abbrev Sp:=List V->Hp->VK->XK->Prop
abbrev vY:=List Env->Hp->Shared->XK->Value->Shared->Prop
structure xa (P:Program)(w:World)(K:Frag)(mg:Str->Option Value)(base:Heap)(A:Around)(outer:List Env)(s:Shared)(H:Hp):Prop where
 frames:A.frames=some outer
 mod:Mod K mg base
 bs:∀b o,base.get? b=some o->s.heap.get? b=some o/\H b=none
 bsz:base.objs.size<=s.heap.objs.size
 funs:s.heap.FunFrames base outer
 frf:∀b∈dD outer,H b=none
 hok:jS P w H s.heap
 bare:AllBare s.gens
def CE (outer:List Env)(P:Program)(w:World)(H:Hp)(s:Shared)(Q:VK)(u:Value)(s':Shared):Prop:=
 ∃v H',s'.os=s.os/\AllBare s'.gens/\Un (dD outer) [] H H' s.heap s'.heap/\jS P w H' s'.heap/\RelV v u/\Q v H'
def CR (CX:vY)(outer:List Env)(P:Program)(w:World)(H:Hp)(s:Shared)(Q:VK)(E:XK)(r:Result)(s':Shared):Prop:=
 match r with
 | .ok (.ret u)=>CE outer P w H s Q u s'
 | .ok _=>False
 | .error e=>CX outer H s E e s'
structure fq (P:Program)(w:World)(K:Frag)(mg:Str->Option Value)(base:Heap)(CX:vY)(k:Nat)(f:Addr)(fd:FuncData)(ps:List Str)(sp:Sp):Prop where
 len:∀vs H Q E,sp vs H Q E->vs.length=ps.length
 run:∀(A:Around) (outer:List Env) (s:Shared) (H:Hp) (args:Args) (us:List Value) (vs:List V) (Q:VK) (E:XK),dN k A->xa P w K mg base A outer s H->BindsTo s fd args (ps.zip us)->Vals vs us->sp vs H Q E->
  codeAny (model P w) A (.call (.ref f) args) (CR CX outer P w H s Q E) s
def fq.mono {P:Program}{w:World}{K:Frag}{mg:Str->Option Value}{base:Heap}{CX:vY}{j k:Nat}{f:Addr}{fd:FuncData}{ps:List Str}{sp:Sp}(F:fq P w K mg base CX j f fd ps sp)(h:j<=k) :
  fq P w K mg base CX k f fd ps sp:=⟨F.len,λA outer s H args us vs Q E hr=>F.run A outer s H args us vs Q E (hr.mono h)⟩
def fq.imp {P:Program}{w:World}{K:Frag}{mg:Str->Option Value}{base:Heap}{CX:vY}{k:Nat}{f:Addr}{fd:FuncData}{ps:List Str}{sp sp':Sp}(F:fq P w K mg base CX k f fd ps sp)
  (h:∀vs H Q E,sp' vs H Q E->sp vs H Q E):fq P w K mg base CX k f fd ps sp':=
 ⟨λvs H Q E q=>F.len vs H Q E (h _ _ _ _ q),λA outer s H args us vs Q E hr he hb hv hs=>F.run A outer s H args us vs Q E hr he hb hv (h _ _ _ _ hs)⟩
section
variable {X:Cx}{pins:List (Addr×Obj)}{σ:St}{H:Hp}{s s':Shared}
def Inv.env0 (I:Inv X pins σ H s):xa X.prog X.w X.K X.mg X.base X.A X.stack s H:=
 ⟨I.ok.frames,I.ok.mod,I.bs,L4 I.ok.bsz I.sz,I.stack,I.stkFree,I.hok,I.bare⟩
def Inv.after {Q:VK}{u:Value}(I:Inv X pins σ H s)(h:CE X.stack X.prog X.w H s Q u s'):EP X pins σ Q u s':=by
 obtain⟨v,H',os,bare,un,hok,r,q⟩:=h
 obtain⟨hh,g,d,t,os'⟩:=s'
 obtain rfl:os'=s.os:=os
 exact⟨v,H',I.call (h':=hh) (g':=g) (d':=d) (t':=t) (ch:=[]) un hok bare (λb z=>absurd z (by simp)),r,q⟩
end
def Fg (sp:Sp)(dvs:List V)(E:XK)(t:TA):TE:=λσ H Q=>t σ H λvs H1=>sp (vs ++ dvs) H1 Q E
def Binds (K:Frag)(fd:FuncData)(ps:List Str)(ds:List Value):Prop:=
 ∀(s:Shared) (us:List Value),K.In s.heap->(us ++ ds).length=ps.length->BindsTo s fd ⟨us,[]⟩ (ps.zip (us ++ ds))
def Binds.all {K:Frag}{fd:FuncData}{ps:List Str}(h:∀us:List Value,us.length=ps.length->bindArgs fd ⟨us,[]⟩=pure (ps.zip us)):Binds K fd ps []:=λs us _ hl=>by
 rw[MF] at hl ⊢
 exact .of_eq (h us hl)
def Passes (CX:vY)(X:Cx)(E:XK):Prop:=∀(pins:List (Addr×Obj)) (σ:St) (H:Hp) (s:Shared) (e:Value) (s':Shared),Inv X pins σ H s->CX X.stack H s E e s'->X.xe e s'
section
variable {X:Cx}{CX:vY}{k:Nat}{f C:Addr}{fd:FuncData}{ps:List Str}{sp:Sp}{dvs:List V}{ds:List Value}{E:XK}{x m:Str}{p pos apos:Pos}{e o:Expr}{es:List Expr}{ta:TE}{t:TA}
theorem GS {pins:List (Addr×Obj)}{σ:St}{H:Hp}{s:Shared}{Q:VK}{us:List Value}{vs:List V}(F:fq X.prog X.w X.K X.mg X.base CX k f fd ps sp)(hr:dN k X.A)(hb:Binds X.K fd ps ds)(hd:Vals dvs ds)(hx:Passes CX X E)
  (I:Inv X pins σ H s) (r:Vals vs us) (h:sp (vs ++ dvs) H Q E):wpAny (model X.prog X.w) X.A (call (.ref f) us) (EP X pins σ Q) X.xe s:=by
 have r2:Vals (vs ++ dvs) (us ++ ds):=r.append hd
 have hl:(us ++ ds).length=ps.length:=by rw[<-r2.length];exact F.len _ _ _ _ h
 refine wpAny_call (MQ (F.run X.A X.stack s H ⟨us,[]⟩ (us ++ ds) (vs ++ dvs) Q E hr I.env0 (hb s us I.kIn hl) r2 h) λr s' hq=>?_)
 cases r with
 |error e=>exact hx pins σ H s e s' I hq
 |ok fl=>
  cases fl with
  |ret u=>exact I.after hq
  |next=>exact False.elim hq
  |brk=>exact False.elim hq
  |cont=>exact False.elim hq
def oV (F:fq X.prog X.w X.K X.mg X.base CX k f fd ps sp)(hr:dN k X.A)(hg:Gl X x)(hm:X.mg x=some (.ref f))(hk:PySem.W.keepIn X.K (.ref f)=true)(hb:Binds X.K fd ps ds)(hd:Vals dvs ds)(hx:Passes CX X E)
  (ha:PA X (e :: es) t) (hdb:(x == ("__debug__":Str))=false:=by decide) (he:starEach (e :: es) X.env=(false,eval e X.env) :: starEach es X.env:=by rfl) (hpl:(backTo pos (starEach es X.env)).any (·.1)=false:=by rfl) :
  PE X (.Call (.Name x p) (e :: es) [] pos) (Fg sp dvs E t):=by
 intro pins s σ H Q I h
 refine M6 (mw I hg hm ?_ hdb)
 refine PySem.W.callWith_K (h₀:=X.base) I.ok.mod.kin hk (cq (ha pos pins s σ H _ I h) λus s1 ⟨vs,H1,I1,r,q⟩=>⟨I1.kIn,?_⟩) he hpl
 exact GS F hr hb hd hx I1 r q
end
structure aH (N P:List Str)(sc:Scope):Prop where
 kind:sc.kind=.function
 co:sc.isCoroutine=false
 gen:sc.isGenerator=false
 nd:N.Nodup
 pre:N.take P.length=P
 par:∀x∈P,sc.names.lookup x=some .local\/sc.names.lookup x=some .cell
 nofree:∀y∈sc.names,y.2≠.free
theorem sf {kindOf:Str->Option NameKind}{x:Str}:∀{binds:List (Str×Value)} {m:Str->Option Value},(∀v,(x,v)∉binds)->bindL kindOf binds m x=m x
 | [],_,_=>rfl
 | (n,v) :: r,m,h=>by
  unfold bindL
  rw[sf λw hw=>h w (KW _ hw)]
  split
  ·have:x≠n:=by rintro rfl;exact h v K3
   simp[this]
  ·rfl
theorem rY {kindOf:Str->Option NameKind}{x:Str}:∀{binds:List (Str×Value)} {m:Str->Option Value},(∀v,(x,v)∉binds)->bindC kindOf binds m x=m x
 | [],_,_=>rfl
 | (n,v) :: r,m,h=>by
  unfold bindC
  rw[rY λw hw=>h w (KW _ hw)]
  split
  ·rfl
  ·have:x≠n:=by rintro rfl;exact h v K3
   simp[this]
theorem sy {kindOf:Str->Option NameKind}{x:Str}{v:Value}:∀{P:List Str} {vs:List Value} {i:Nat} {m:Str->Option Value},P.Nodup->P[i]? =some x->vs[i]? =some v->kindOf x=some .local->
  bindL kindOf (P.zip vs) m x=some v
 | [],_,_,_,_,h,_,_=>by simp at h
 |_ :: _,[],_,_,_,_,h,_=>by simp at h
 |p :: P,w :: vs,0,m,nd,h1,h2,hk=>by
  simp at h1 h2;subst h1;subst h2
  show bindL kindOf ((p,w) :: P.zip vs) m p=_
  unfold bindL
  rw[sf λv hv=>(LG.mp nd).1 (of_mem_zip hv).1,KU hk]
  simp
 |p :: P,w :: vs,i + 1,m,nd,h1,h2,hk=>by
  show bindL kindOf ((p,w) :: P.zip vs) m x=_
  unfold bindL
  exact sy (i:=i) (LG.mp nd).2 (by simpa using h1) (by simpa using h2) hk
theorem sq {kindOf:Str->Option NameKind}{x:Str}{v:Value}:∀{P:List Str} {vs:List Value} {i:Nat} {m:Str->Option Value},P.Nodup->P[i]? =some x->vs[i]? =some v->kindOf x≠some .local->
  bindC kindOf (P.zip vs) m x=some v
 | [],_,_,_,_,h,_,_=>by simp at h
 |_ :: _,[],_,_,_,_,h,_=>by simp at h
 |p :: P,w :: vs,0,m,nd,h1,h2,hk=>by
  simp at h1 h2;subst h1;subst h2
  show bindC kindOf ((p,w) :: P.zip vs) m p=_
  unfold bindC
  rw[rY λv hv=>(LG.mp nd).1 (of_mem_zip hv).1,K0 hk]
  simp
 |p :: P,w :: vs,i + 1,m,nd,h1,h2,hk=>by
  show bindC kindOf ((p,w) :: P.zip vs) m x=_
  unfold bindC
  exact sq (i:=i) (LG.mp nd).2 (by simpa using h1) (by simpa using h2) hk
def start (N:List Str)(vs:List V):St:=vs.map some ++ List.replicate (N.length - vs.length) none
def jX (CX:vY)(P:Program)(w:World)(K:Frag)(mg:Str->Option Value)(base:Heap)(N:List Str)(qual:Str)(scope:Scope)(f:Addr)(cd:Value)(A:Around)(outer:List Env)(s:Shared)(H:Hp)(E:XK):Cx where
 prog:=P
 w:=w
 K:=K
 mg:=mg
 base:=base
 A:=A.deeper (envOfC qual scope s.heap.objs.size f cd)
 N:=N
 s₀:=s
 H₀:=H
 env:=envOfC qual scope s.heap.objs.size f cd
 outer:=outer
 stack:=envOfC qual scope s.heap.objs.size f cd :: outer
 ex:=[]
 calm:=true
 fn:=λ_=>true
 pn:=[]
 xe:=λe s'=>wpAny (model P w) (A.deeper (envOfC qual scope s.heap.objs.size f cd)) (leaving (envOfC qual scope s.heap.objs.size f cd) e) (λ_ s''=>CX outer H s E e s'') (λe' s''=>CX outer H s E e' s'') s'
def vD {sc:Scope}{n:Nat}{x:Str}(h:sc.names.lookup x=some .cell):∃c,(cellsFrom n sc.names []).lookup x=some c:=by
 have q:=MI sc.names n [] (.inl h)
 exact Mc.mp q
def sv {CX:vY}{P:Program}{w:World}{K:Frag}{mg:Str->Option Value}{base:Heap}{N ps:List Str}{qual:Str}{scope:Scope}{f:Addr}{cd:Value}{A:Around}{outer:List Env}{s s1:Shared}{H:Hp}{E:XK}{us:List Value}{vs:List V}
  (S:aH N ps scope) (hd:A.handled=none) (e0:xa P w K mg base A outer s H) (hl:vs.length=ps.length) (r:Vals vs us)
  (x:InCallC s s.heap.objs.size (bindL (envOfC qual scope s.heap.objs.size f cd).kindOf (ps.zip us) λ_=>none) (cellsFrom (s.heap.objs.size + 1) scope.names []) (bindC (envOfC qual scope s.heap.objs.size f cd).kindOf (ps.zip us) λ_=>none) s1) :
  Inv (jX CX P w K mg base N qual scope f cd A outer s H E) [] (start N vs) H s1:=by
 have hpl:ps.length<=N.length:=by have:=congrArg List.length S.pre;rw[LU] at this;omega
 obtain⟨h1,tk,rfl,hk⟩:=x.done
 have noA:∀b:Addr,b∉(jX CX P w K mg base N qual scope f cd A outer s H E).ex:=λb z=>absurd (show b∈([]:List Addr) from z) (by simp)
 refine⟨⟨e0.mod,S.kind,rfl,rfl,KR _,λy z c h1 h2=>?_,λy hy=>?_,λy c _ h=>?_,λ_=>hd,Around.frames_deeper e0.frames,.inr ⟨rfl,rfl⟩,λb z=>absurd z (noA b),e0.bs,e0.bsz,λb _ _=>noA b,λb z=>absurd z (noA b),e0.funs,e0.frf⟩,
  rfl,e0.bare,Un.kept hk,⟨_,x.toInCall.ns,λi y v h1 h2 h3=>?_⟩,λy c h=>⟨_,x.cell y c h⟩,e0.hok.fresh (KR _),λy c h=>?_,λp hp=>absurd (show p∈([]:List (Addr×Obj)) from hp) (by simp),e0.hok.kept hk,?_⟩
 ·exact name_of_addr x.apart (LP h1) (LP h2)
 ·have hy:scope.names.lookup y=some .cell\/scope.names.lookup y=some .free:=hy
  rcases hy with hy |hy
  ·exact vD hy
  ·exact absurd rfl (S.nofree _ (LP hy))
 ·exact MP (x.above y c (LP h))
 ·have hi:i < vs.length:=by
   unfold start at h2
   by_cases hi:i < vs.length
   ·exact hi
   ·rw[Lw (by simpa using hi)] at h2
    rw[LX] at h2
    split at h2 <;> cases h2
  have ha:vs[i]? =some v:=by
   unfold start at h2
   rw[LA (by simpa using hi),K2] at h2
   cases e:vs[i]? with
   |none=>rw[e] at h2;cases h2
   |some a=>rw[e] at h2;cases h2;rfl
  obtain⟨u,hu,rv⟩:=r.get ha
  have hp:ps[i]? =some y:=by
   rw[<-S.pre,List.getElem?_take_of_lt (by omega)];exact h1
  have ndP:ps.Nodup:=by rw[<-S.pre];exact S.nd.sublist (List.take_sublist _ _)
  refine⟨u,rv,?_⟩
  rcases S.par y (K8 hp) with k |k
  ·exact .inl ⟨k,sy ndP hp hu k⟩
  ·obtain⟨c,e⟩:=vD (n:=s.heap.objs.size + 1) k
   refine .inr ⟨.inl k,c,e,?_⟩
   have q:=x.cell y c e
   rw[sq ndP hp hu (by show scope.names.lookup y≠_;rw[k];decide)] at q
   exact q
 ·exact e0.hok.fresh (MP (x.above y c (LP h)))
 ·unfold start
  show _=N.length
  rw[LC,Lk,L8]
  omega
theorem E4 {CX:vY}{P:Program}{w:World}{K:Frag}{mg:Str->Option Value}{base:Heap}{k:Nat}{f:Addr}{name qual:Str}{params:Arguments}{body:List Stmt}{scope:Scope}{dV kV doc pm cdv ct oc:Value}{an od:Option Addr}
  {osl:Array (Option Value)} {N ps:List Str} {sp:Sp} (lk:K.lookup f=some ⟨oc,od,.func (PySem.W.fnOf name qual params body scope dV kV doc pm an cdv ct),osl⟩) (hcd:PySem.W.codeIn K cdv qual=true) (S:aH N ps scope)
  (len:∀vs H Q E,sp vs H Q E->vs.length=ps.length)
  (hbody:∀(A:Around) (outer:List Env) (s:Shared) (H:Hp) (vs:List V) (Q:VK) (E:XK),dN k (A.deeper (envOfC qual scope s.heap.objs.size f cdv))->sp vs H Q E->
   ∃t,oB (jX CX P w K mg base N qual scope f cdv A outer s H E) body t/\t {nx:=λ_ H'=>Q .non H',rt:=Q} (start N vs) H) :
  fq P w K mg base CX (k + 1) f (PySem.W.fnOf name qual params body scope dV kV doc pm an cdv ct) ps sp:=by
 refine⟨len,λA outer s H args us vs Q E hr e0 hb r hsp=>?_⟩
 have hl:=len _ _ _ _ hsp
 have KX:K.In s.heap:=e0.mod.kin.keeps λb o e=>(e0.bs b o e).1
 have lim:s.heap.NoLimit:=e0.mod.nolimit.keeps λb o e=>(e0.bs b o e).1
 have hkind:∀y∈ps.zip us,scope.names.lookup y.1=some .local\/(scope.names.lookup y.1=some .cell/\((cellsFrom (s.heap.objs.size + 1) scope.names []).lookup y.1).isSome=true):=λ⟨n,v⟩ hy=>by
  rcases S.par n (of_mem_zip hy).1 with q |q
  ·exact .inl q
  ·exact .inr ⟨q,MI _ _ _ (.inl q)⟩
 refine codeAny_call_function hr.depth (KX _ _ lk) rfl S.co S.gen rfl (PySem.W.codeRec_of KX hcd) (hb _ _ _ _ ?_)
 refine wpAny_newFunctionEnv_cells S.kind hkind λenv he s1 x=>?_
 subst he
 refine⟨lim.keeps x.toInCall.keep,codeAny_func ?_⟩
 obtain⟨t,ht,hq⟩:=hbody A outer s H vs Q E (hr.deeper _) hsp
 have I:Inv (jX CX P w K mg base N qual scope f cdv A outer s H E) [] (start N vs) H s1:=sv S hr.hd e0 hl r x
 refine LR (ht [] s1 (start N vs) H _ I hq) (λfl s' hs=>?_) λe s' hs=>hs
 have fin:∀{σ':St} {H':Hp} {v:V} {u:Value},Inv (jX CX P w K mg base N qual scope f cdv A outer s H E) [] σ' H' s'->RelV v u->Q v H'->CE outer P w H s Q u s':=
  λ{σ' H' v u} J rv q=>⟨v,H',J.os,J.bare,J.base,J.hok,rv,q⟩
 cases fl with
 |ret u=>
  obtain⟨v,σ',H',J,rv,q⟩:=hs
  exact fin J rv q
 |next=>
  obtain⟨σ',H',J,q⟩:=hs
  exact fin (v:=V.non) (u:=Value.none) J rfl q
 |brk=>
  obtain⟨_,_,_,q⟩:=hs
  exact False.elim q
 |cont=>
  obtain⟨_,_,_,q⟩:=hs
  exact False.elim q
section
variable {X:Cx}{x:Str}{p pos:Pos}{e:Expr}{es:List Expr}{t:TA}{id T:String}{r:List V->Hp->VK->Prop}
def Kr (r:List V->Hp->VK->Prop)(t:TA):TE:=λσ H Q=>t σ H λvs H1=>r vs H1 Q
def bz (hc:cW X (.builtin id) r)(hg:Gl X x)(hm:X.mg x=none)(hv:bootBuiltins x=some (.builtin id))(ha:PA X (e :: es) t)(hn:x≠"__name__":=by decide)(hdb:(x == ("__debug__":Str))=false:=by decide)
  (he:starEach (e :: es) X.env=(false,eval e X.env) :: starEach es X.env:=by rfl) (hpl:(backTo pos (starEach es X.env)).any (·.1)=false:=by rfl):PE X (.Call (.Name x p) (e :: es) [] pos) (Kr r t):=by
 intro pins s σ H Q I h
 refine M6 (qx I hg hm hv ?_ hn hdb)
 exact PyProof.Rows.callWith_builtin1 (cq (ha pos pins s σ H _ I h) λus s1 ⟨vs,H1,I1,r1,q1⟩=>hc pins s1 σ H1 vs us Q I1 r1 q1) he hpl
def iV (hc:cW X (.type T) r)(hg:Gl X x)(hm:X.mg x=none)(hv:bootBuiltins x=some (.type T))(ha:PA X (e :: es) t)(hn:x≠"__name__":=by decide)(hdb:(x == ("__debug__":Str))=false:=by decide)
  (he:starEach (e :: es) X.env=(false,eval e X.env) :: starEach es X.env:=by rfl) (hpl:(backTo pos (starEach es X.env)).any (·.1)=false:=by rfl):PE X (.Call (.Name x p) (e :: es) [] pos) (Kr r t):=by
 intro pins s σ H Q I h
 refine M6 (qx I hg hm hv ?_ hn hdb)
 exact MT (cq (ha pos pins s σ H _ I h) λus s1 ⟨vs,H1,I1,r1,q1⟩=>hc pins s1 σ H1 vs us Q I1 r1 q1) he hpl
end
end L2
namespace HT
open PySem PyProof.Rows
section
open PySem.SeqAt
open PySem.AutoSeq1 (wpAny_loadPart')
open PySem.MeetsSeq PySem.MeetsSeq2 PySem.MeetsSeq3
end
section
variable {prog:Program}{w:World}{A:Around}{E:Value->Shared->Prop}{s:Shared}
def Ez {t b:Addr}{vs ws:List Value}{Q:Value->Shared->Prop}(ht:IsTup s.heap t vs.toArray)(hb:IsTup s.heap b ws.toArray)(hv:vs≠ [])
  (h1:ws= []->Q (.ref t) s) (h2:ws≠ []->Q (.ref s.heap.objs.size) {s with heap:=s.heap.push {cls:=.type "tuple",data:=.seq (vs ++ ws).toArray}})
  (hsz:vs.length + ws.length<=sizeLine):wpAny (model prog w) A (binaryOp .Add (.ref t) (.ref b)) Q E s:=by
 obtain⟨⟨cls,dd,data,sl⟩,ho,hc,n,hd⟩:=id ht
 obtain⟨⟨cls2,dd2,data2,sl2⟩,ho2,hc2,n2,hd2⟩:=id hb
 simp only at hc hd hc2 hd2
 subst hc hd hc2 hd2
 have e:vs.toArray ++ ws.toArray=(vs ++ ws).toArray:=by simp
 by_cases hw:ws= []
 ·exact concat_meets ⟨_,ho,rfl⟩ ⟨_,ho2,rfl⟩ noFill_tuple_add seq_tuple_add PySem.F.slot_tuple_add PySem.F.entry_tuple_add (M7 _ _)
   (tuple_addW1 t b vs.toArray ws.toArray n n2 dd dd2 sl sl2 (by simpa using hv) (by simp[hw])) ⟨ho,ho2,h1 hw⟩
 ·refine concat_meets ⟨_,ho,rfl⟩ ⟨_,ho2,rfl⟩ noFill_tuple_add seq_tuple_add PySem.F.slot_tuple_add PySem.F.entry_tuple_add (M7 _ _)
   (tuple_addW2 t b vs.toArray ws.toArray n n2 dd dd2 sl sl2 (by simpa using hv) (by simpa using hw) (by rw[K1,K1];exact hsz)) ⟨ho,ho2,?_⟩
  rw[e]
  exact h2 hw
def x6 (n d:Nat):Option Int->Nat
 |none=>d
 |some v=>if v < 0 then (v + (n:Int)).toNat else min v.toNat n
end
end HT
namespace L2
open PySem PySem.Spec PyProof.Rows
abbrev TO:=St->Hp->(Option Int->Hp->Prop)->Prop
section
variable {X:Cx}{e:Expr}{te:TE}{lo hi:Option Expr}{tl th:TO}{pos p2:Pos}
def Kx (X:Cx)(r:V->Option Int->Option Int->Hp->VK->Prop):Prop:=
 ∀(pins:List (Addr×Obj)) (s:Shared) (σ:St) (H:Hp) (x:V) (v vl vu:Value) (lo hi:Option Int) (sl:Addr) (Q:VK),Inv X pins σ H s->RelV x v->s.heap.IsSliceOf sl vl vu .none->IsPart vl lo->IsPart vu hi->r x lo hi H Q->
  ∃T id,typeLookup (.type T) "__getitem__"=pure (some (.builtin id))/\s.TypeIs v T/\wpAny (model X.prog X.w) X.A (getItem v (.ref sl)) (EP X pins σ Q) X.xe s
def Dg (xs:List V)(lo hi:Option Int):List V:=(xs.drop (HT.x6 xs.length 0 lo)).take (HT.x6 xs.length xs.length hi - HT.x6 xs.length 0 lo)
def u6 (xs:List V)(lo hi:Option Int):(Dg xs lo hi).length<=xs.length:=by
 unfold Dg
 rw[LU,List.length_drop]
 omega
def IX (K:Frag):R2:=λx y H Q=>∃a b xs ys,x=.ref a/\y=.ref b/\gj K H a xs/\gj K H b ys/\xs≠ []/\xs.length + ys.length<=sizeLine/\
 (ys= []->Q (.ref a) H)/\(ys≠ []->∀p,H p=none->Q (.ref p) (upd H p (.tup (xs ++ ys))))
theorem Vals.nil_iff {xs:List V}{us:List Value}(r:Vals xs us):us= []↔xs= []:=by
 cases r with
 |nil=>simp
 |cons _ _=>simp
def D8:me X (binaryOp .Add) (IX X.K):=by
 intro pins s σ H x y v u Q I rx ry h
 obtain⟨a,b,xs,ys,rfl,rfl,ha,hb,hx,hz,q1,q2⟩:=h
 cases rx
 cases ry
 obtain⟨its,r1,p1,_⟩:=I.tuple ha
 obtain⟨its2,r2,p2,_⟩:=I.tuple hb
 refine HT.Ez p1 p2 (λz=>hx (r1.nil_iff.mp z)) (λz=>⟨.ref a,H,I,rfl,q1 (r2.nil_iff.mp z)⟩) (λz=>?_) (by rw[<-r1.length,<-r2.length];exact hz)
 refine⟨.ref s.heap.objs.size,_,I.laid (t':=s.toks) (o:=.tup (xs ++ ys)) (λb ob q=>KQ _ q) (KR _) ?_,rfl,q2 (λw=>z (r2.nil_iff.mpr w)) _ (I.hok.fresh (KR _))⟩
 exact⟨by rw[LC];exact hz,_,r1.append r2,vK.new _ _⟩
end
def AU (n:Nat)(i:Int):Option Nat:=if 0<=i then (if i < n then some i.toNat else none) else if -(n:Int)<=i then some (i + n).toNat else none
def lx {α:Type}(xs:List α)(i:Int):Option α:=(AU xs.length i).bind λj=>xs[j]?
def y9 {n:Nat}{i:Int}{j:Nat}(h:AU n i=some j):seqIndex? i n=some j/\j < n/\ -(n:Int)<=i/\i < n:=by
 unfold AU at h
 by_cases h0:0<=i
 ·rw[KU h0] at h
  by_cases h1:i < n
  ·rw[KU h1] at h
   have e:i.toNat=j:=Option.some.inj h
   exact⟨by rw[seqIndex_of h0 h1,e],by omega,by omega,h1⟩
  ·rw[K0 h1] at h;cases h
 ·rw[K0 h0] at h
  by_cases h1: -(n:Int)<=i
  ·rw[KU h1] at h
   have e:(i + n).toNat=j:=Option.some.inj h
   exact⟨by rw[seqIndex_neg (by omega) h1,e],by omega,h1,by omega⟩
  ·rw[K0 h1] at h;cases h
theorem sU {α:Type}{xs:List α}{i:Int}{v:α}(h:lx xs i=some v):∃j,seqIndex? i xs.length=some j/\xs[j]? =some v/\j < xs.length/\ -(xs.length:Int)<=i/\i < xs.length:=by
 unfold lx at h
 cases e:AU xs.length i with
 |none=>rw[e] at h;cases h
 |some j=>
  rw[e] at h
  obtain⟨h1,h2,h3,h4⟩:=y9 e
  exact⟨j,h1,h,h2,h3,h4⟩
def oQ {α:Type}{xs:List α}{j:Nat}{v:α}(h:xs[j]? =some v):lx xs (j:Int)=some v:=by
 have hj:j < xs.length:=(Ld.mp h).1
 have e:AU xs.length (j:Int)=some j:=by
  unfold AU
  rw[KU (by omega),KU (by omega)];simp
 unfold lx;rw[e];exact h
def y0 (b:Expr):Prop:=∀o i,subscripted b false o i=operate [o,i] (getItem o i)
def By (X:Cx)(r:R2):Prop:=
 ∀(value slice:Expr) (pins:List (Addr×Obj)) (s:Shared) (σ:St) (H:Hp) (x y:V) (v u:Value) (Q:VK),Inv X pins σ H s->RelV x v->RelV y u->r x y H Q->
  subscripted slice false v u=operate [v,u] (getItem v u)->wpAny (model X.prog X.w) X.A (subscriptTail value slice v u) (EP X pins σ Q) X.xe s
def KA (X:Cx)(id:String)(r:V->List V->Hp->VK->Prop):Prop:=
 ∀(pins:List (Addr×Obj)) (s:Shared) (σ:St) (H:Hp) (x:V) (xs:List V) (v:Value) (us:List Value) (Q:VK),Inv X pins σ H s->RelV x v->Vals xs us->r x xs H Q->
  wpAny (model X.prog X.w) X.A (call (.builtin id) (v :: us)) (EP X pins σ Q) X.xe s
section
variable {X:Cx}{a b:Expr}{ta tb:TE}{pos:Pos}
def By.or {r r':R2}(h:By X r)(h':By X r'):By X (λx y H Q=>r x y H Q\/r' x y H Q):=by
 intro value slice pins s σ H x y v u Q I rx ry q hs
 rcases q with q |q
 ·exact h value slice pins s σ H x y v u Q I rx ry q hs
 ·exact h' value slice pins s σ H x y v u Q I rx ry q hs
def kz {r:R2}(hr:By X r)(ha:PE X a ta)(hb:PE X b tb)(hs:y0 b):PE X (.Subscript a b pos) (Je r ta tb):=by
 intro pins s σ H Q I h
 exact Subscript_ (Gm ha hb I h λv u s2 x y H2 I2 rx ry q=>hr a b pins s2 σ H2 x y v u Q I2 rx ry q (hs _ _))
def G9 (K:Frag):R2:=λx y H Q=>∃p xs i v,x=.ref p/\y=.int i/\gR K H p xs/\lx xs i=some v/\Q v H
def Ih (K:Frag):R2:=λx y H Q=>∃p xs i v,x=.ref p/\y=.int i/\gj K H p xs/\lx xs i=some v/\Q v H
def Ij:R2:=λx y H Q=>∃z i c,x=.str z/\y=.int i/\z.length<=sizeLine/\lx z.cps.toList i=some c/\Q (.str ⟨#[c]⟩) H
def e8:By X (G9 X.K):=by
 intro value slice pins s σ H x y v u Q I rx ry h hs
 obtain⟨p,xs,i,z,rfl,rfl,hq,he,q⟩:=h
 cases rx
 obtain⟨t,rfl⟩:=ry
 obtain⟨its,r,pl,hz⟩:=I.list hq
 obtain⟨j,h1,h2,h3,h4,h5⟩:=sU he
 obtain⟨w,ew,rw'⟩:=r.get h2
 have hl:=r.length
 have hn:=nR
 have fin:EP X pins σ Q w s:=⟨z,H,I,rw',q⟩
 by_cases h0:0<=i
 ·have hj:i.toNat=j:=by
   rw[seqIndex_of h0 h5] at h1
   exact Option.some.inj h1
  exact item_listR pl.isList h0 (by omega) (by rw[hj];simpa using ew) fin hs
 ·have hj:(i + (its.toArray.size:Int)).toNat=j:=by
   rw[seqIndex_neg (by omega) h4] at h1
   rw[K1,<-hl]
   exact Option.some.inj h1
  exact subscriptTail_builtinR (x:=w) pl.isList.typeIs slot_list_getitem.lookup
   (wpAny_getItem_list_neg (Q:=λr s'=>r=w/\EP X pins σ Q r s') pl.isList (by omega) (by rw[K1] <;> omega) (by omega) (by rw[hj];simpa using ew) ⟨rfl,fin⟩) hs
def Gg:By X (Ih X.K):=by
 intro value slice pins s σ H x y v u Q I rx ry h hs
 obtain⟨p,xs,i,z,rfl,rfl,hq,he,q⟩:=h
 cases rx
 obtain⟨t,rfl⟩:=ry
 obtain⟨its,r,pl,hz⟩:=I.tuple hq
 obtain⟨j,h1,h2,h3,h4,h5⟩:=sU he
 obtain⟨w,ew,rw'⟩:=r.get h2
 have hl:=r.length
 have hn:=nR
 have fin:EP X pins σ Q w s:=⟨z,H,I,rw',q⟩
 exact subscriptTail_builtinR (x:=w) pl.typeIs slot_tuple_getitem.lookup
  (getItem_tuple (j:=j) (Q:=λr s'=>r=w/\EP X pins σ Q r s') pl (by omega) (by omega) (by rw[K1,<-hl];exact h1) (by simpa using ew) ⟨rfl,fin⟩) hs
def FD:By X Ij:=by
 intro value slice pins s σ H x y v u Q I rx ry h hs
 obtain⟨z,i,c,rfl,rfl,hz,he,q⟩:=h
 obtain⟨t,rfl⟩:=rx
 obtain⟨t',rfl⟩:=ry
 obtain⟨j,h1,h2,h3,h4,h5⟩:=sU he
 have hl:z.cps.toList.length=z.length:=by simp[Str.length]
 rw[hl] at h1 h4 h5
 have hn:=nR
 exact tail_any (typeIs_str s z t) slot_str_getitem.lookup (getItem_str (c:=c) (by
  have e1:decide (i < -(2 ^ 63:Int))=false:=Lg (by omega)
  have e2:decide (i>=2 ^ 63)=false:=Lg (by omega)
  rw[e1,e2,Bool.or_false]) (by rw[h1];simpa using h2) ⟨.str ⟨#[c]⟩,H,I.tok _,⟨_,rfl⟩,q⟩) hs
def Ki (K:Frag):R2:=λx y H Q=>G9 K x y H Q\/Ih K x y H Q\/Ij x y H Q
def cU:By X (Ki X.K):=e8.or (Gg.or FD)
def xB (its:List Value)(n j:Nat)(u:Value):Obj.mapSeq (·.setIfInBounds j u) {cls:=.type "list",data:=.seq its.toArray n}={cls:=.type "list",data:=.seq (its.set j u).toArray n}:=by
 simp[Obj.mapSeq]
def Inv.lst {pins:List (Addr×Obj)}{σ:St}{H:Hp}{s:Shared}{p:Addr}{xs:List V}(I:Inv X pins σ H s)(h:H p=some (.lst xs)) :
  ∃(its:List Value) (n:Nat),Vals xs its/\s.heap.get? p=some {cls:=.type "list",data:=.seq its.toArray n}/\xs.length<=sizeLine:=by
 obtain⟨z,its,n,r,e⟩:=I.hok p _ h
 exact⟨its,n,r,e,z⟩
def Inv.lstUpd {pins:List (Addr×Obj)}{σ:St}{H:Hp}{s:Shared}{p:Addr}{xs ys:List V}{its its':List Value}{n n':Nat}{f:Obj->Obj}(I:Inv X pins σ H s)(h:H p=some (.lst xs))
  (ho:s.heap.get? p=some {cls:=.type "list",data:=.seq its.toArray n}) (hf:f {cls:=.type "list",data:=.seq its.toArray n}={cls:=.type "list",data:=.seq its'.toArray n'}) (r:Vals ys its') (hz:ys.length<=sizeLine) (t:Nat) :
  Inv X pins σ (upd H p (.lst ys)) {s with heap:=s.heap.update p f,toks:=t}:=by
 have e:(s.heap.update p f).get? p=some {cls:=.type "list",data:=.seq its'.toArray n'}:=by
  rw[LJ f ho (by rw[hf] <;> rfl),hf]
 refine I.write (x:=p) (e:=p) (by rw[h];trivial) (.inl rfl) (λb u hb q=>(LN _ _ (Ne.symm hb)).trans q) ⟨_,e⟩ ?_
 exact⟨hz,its',n',r,e⟩
def IK:V->V->V->Hp->(Hp->Prop)->Prop:=λo i v H Q=>∃p xs k j,o=.ref p/\i=.int k/\H p=some (.lst xs)/\AU xs.length k=some j/\Q (upd H p (.lst (xs.set j v)))
def set_list:ui X IK:=by
 intro pins s σ H o i v ov iv u Q I ro ri rv h
 obtain⟨p,xs,k,j,rfl,rfl,hp,hj,q⟩:=h
 cases ro
 obtain⟨t,rfl⟩:=ri
 obtain⟨its,n,r,ho,hz⟩:=I.lst hp
 obtain⟨h1,h2,h3,h4⟩:=y9 hj
 have hl:=r.length
 have hn:=nR
 have I':Inv X pins σ (upd H p (.lst (xs.set j v))) {s with heap:=s.heap.update p (Obj.mapSeq (·.setIfInBounds j u))}:=
  I.lstUpd hp ho (xB its n j u) (r.set rv j) (by rw[LQ];exact hz) s.toks
 by_cases h0:0<=k
 ·have hk:k.toNat=j:=by
   rw[seqIndex_of h0 h4] at h1
   exact Option.some.inj h1
  exact PySem.W.ki_setAt ho h0 (by omega) (by rw[K1,<-hl];exact h4) (by rw[hk];exact⟨_,I',q⟩)
 ·have hk:(k + (its.toArray.size:Int)).toNat=j:=by
   rw[seqIndex_neg (by omega) h3] at h1
   rw[K1,<-hl]
   exact Option.some.inj h1
  exact PySem.W.ki_setBack ho (by omega) (by rw[K1,<-hl];exact h3) (by omega) (by rw[hk];exact⟨_,I',q⟩)
def uP (lo hi:Option Int)(n:Nat):(sliceBounds lo hi none n).1=((HT.x6 n 0 lo:Nat):Int)/\(sliceBounds lo hi none n).2.1=((HT.x6 n n hi:Nat):Int)/\(sliceBounds lo hi none n).2.2=1:=by
 refine⟨?_,?_,rfl⟩
 ·cases lo with
  |none=>simp[sliceBounds,HT.x6]
  |some i=>
   simp only[sliceBounds,HT.x6,Option.getD_none,show (1:Int) > 0 by decide,LO]
   by_cases h:i < 0
   ·simp only[h,LO] <;> omega
   ·simp only[h,Lz] <;> omega
 ·cases hi with
  |none=>simp[sliceBounds,HT.x6]
  |some i=>
   simp only[sliceBounds,HT.x6,Option.getD_none,show (1:Int) > 0 by decide,LO]
   by_cases h:i < 0
   ·simp only[h,LO] <;> omega
   ·simp only[h,Lz] <;> omega
def rF (its:List Value)(lo hi:Option Int):slicePick its.toArray lo hi none=((its.drop (HT.x6 its.length 0 lo)).take (HT.x6 its.length its.length hi - HT.x6 its.length 0 lo)).toArray:=by
 obtain⟨h1,h2,h3⟩:=uP lo hi its.toArray.size
 unfold slicePick
 rw[h1,h2,h3]
 simp only[sliceRange_one,pick_run,K1] <;> rfl
def Jx (K:Frag):V->Option Int->Option Int->Hp->VK->Prop:=λx lo hi H Q=>∃a xs,x=.ref a/\gR K H a xs/\∀p,H p=none->Q (.ref p) (upd H p (.lst (Dg xs lo hi)))
def Jd:Kx X (Jx X.K):=by
 intro pins s σ H x v vl vu lo hi sl Q I rx hs pl pu h
 obtain⟨a,xs,rfl,hx,q⟩:=h
 cases rx
 obtain⟨its,r,ht,hz⟩:=I.list hx
 have hlen:=r.length
 refine⟨"list",_,slot_list_getitem.lookup,ht.isList.typeIs,?_⟩
 refine wpAny_getItem_list_slice ht.isList hs pl pu .none (by simp) ?_ (by rw[K1] <;> omega)
 rw[rF,<-hlen]
 refine⟨.ref s.heap.objs.size,_,I.laid (t':=s.toks) (o:=.lst (Dg xs lo hi)) (λb ob q=>KQ _ q) (KR _) ?_,rfl,q _ (I.hok.fresh (KR _))⟩
 exact⟨L4 (u6 xs lo hi) hz,_,0,(r.drop (HT.x6 xs.length 0 lo)).take (HT.x6 xs.length xs.length hi - HT.x6 xs.length 0 lo),Lf _ rfl⟩
def jv:cW X (.type "list") (λxs H Q=>∃p ys,xs= [.ref p]/\(gR X.K H p ys\/gj X.K H p ys)/\∀l,H l=none->Q (.ref l) (upd H l (.lst ys))):=by
 intro pins s σ H xs us Q I r h
 obtain⟨p,ys,rfl,hq,q⟩:=h
 obtain⟨u,rfl,rx⟩:=vals1 r
 cases rx
 have fin:∀(its:List Value),Vals ys its->ys.length<=sizeLine->∀(h':Heap) (c':Nat),(∀b o',s.heap.get? b=some o'->h'.get? b=some o')->
   h'.get? s.heap.objs.size=some {cls:=.type "list",dict:=none,data:=.seq its.toArray c',slots:=#[]}->EP X pins σ Q (.ref s.heap.objs.size) {s with heap:=h'}:=λits r' hz h' c' kp e=>
  ⟨.ref s.heap.objs.size,_,I.laid (t':=s.toks) kp (KR _) (show bL X.prog X.w _ h' _ (.lst ys) from⟨hz,its,c',r',e⟩),rfl,q _ (I.hok.fresh (KR _))⟩
 rcases hq with hq |hq
 ·obtain⟨its,r',pl,hz⟩:=I.list hq
  have hlen:=r'.length
  obtain⟨o,ho,hc,n,hd⟩:=pl.isList
  exact call_list_seq p (.inl rfl) ho hc hd (λh' c' kp e=>fin its r' hz h' c' kp e) (by simp only[K1] <;> omega)
 ·obtain⟨its,r',pl,hz⟩:=I.tuple hq
  have hlen:=r'.length
  obtain⟨o,ho,hc,n,hd⟩:=pl
  exact call_list_seq p (.inr rfl) ho hc hd (λh' c' kp e=>fin its r' hz h' c' kp e) (by simp only[K1] <;> omega)
def lr:cW X (.type "tuple") (λxs H Q=>∃p ys,xs= [.ref p]/\((gR X.K H p ys/\∀l,H l=none->Q (.ref l) (upd H l (.tup ys)))\/(gj X.K H p ys/\Q (.ref p) H))):=by
 intro pins s σ H xs us Q I r h
 obtain⟨p,ys,rfl,h⟩:=h
 obtain⟨u,rfl,rx⟩:=vals1 r
 cases rx
 rcases h with⟨hq,q⟩ | ⟨hq,q⟩
 ·obtain⟨its,r',pl,hz⟩:=I.list hq
  have hlen:=r'.length
  refine call_tuple_list pl.isList (λh' kp=>?_) (by simp only[K1] <;> omega)
  have I1:Inv X pins σ H {s with heap:=h'}:=I.kept (t':=s.toks) kp
  have I2:Inv X pins σ (upd H h'.objs.size (.tup ys)) {s with heap:=h'.push {cls:=.type "tuple",data:=.seq its.toArray}}:=
   I1.laid (t':=s.toks) (λb o e=>KQ _ e) (KR _) (show bL X.prog X.w _ _ _ (.tup ys) from⟨hz,its,r',vK.new _ _⟩)
  exact⟨.ref h'.objs.size,_,I2,rfl,q _ (I1.hok.fresh (KR _))⟩
 ·obtain⟨its,r',pl,hz⟩:=I.tuple hq
  exact call_tuple_same pl ⟨.ref p,H,I,rfl,q⟩
def Ko (K:Frag)(T:String)(x:V)(H:Hp):Prop:=match x with
 | .str _=>T="str"
 | .int _=>T="int"
 | .ref p=>(T="list"/\∃xs,gR K H p xs)\/(T="tuple"/\∃o,K.lookup p=some o/\o.cls=.type "tuple"/\o.dict=none)\/
   (T="dict"/\((∃kvs,H p=some (.dK kvs))\/∃kvs,H p=some (.dT kvs)))\/(T="set"/\∃S n,H p=some (.set S n))
 |_=>False
theorem FY {pins:List (Addr×Obj)}{σ:St}{H:Hp}{s:Shared}{T:String}{x:V}{v:Value}(I:Inv X pins σ H s)(r:RelV x v)(ty:Ko X.K T x H) :
  s.TypeIs v T/\∀a,v=.ref a->∃ob,s.heap.get? a=some ob/\ob.dict=none:=by
 cases x with
 |str z=>
  obtain⟨t,rfl⟩:=r
  cases (show T="str" from ty)
  exact⟨typeIs_str s z t,λ_ e=>nomatch e⟩
 |int i=>
  obtain⟨t,rfl⟩:=r
  cases (show T="int" from ty)
  exact⟨typeIs_int s i t,λ_ e=>nomatch e⟩
 |ref p=>
  cases r
  rcases ty with⟨rfl,xs,hq⟩ | ⟨rfl,o,hk,hc,hd⟩ | ⟨rfl,hk⟩ | ⟨rfl,S,n,hk⟩
  ·obtain⟨its,_,pl,_⟩:=I.list hq
   refine⟨pl.isList.typeIs,λa e=>?_⟩
   cases e
   obtain⟨o,n,e,c,hd,_⟩:=pl
   exact⟨o,e,hd⟩
  ·refine⟨⟨o,I.kIn p o hk,hc⟩,λa e=>?_⟩
   cases e
   exact⟨o,I.kIn _ o hk,hd⟩
  ·have z:∃o,s.heap.get? p=some o/\o.ExactDict:=by
    rcases hk with⟨kvs,hk⟩ | ⟨kvs,hk⟩
    ·obtain⟨_,_,_,_,o,_,_,e,ex,_⟩:=I.hok p _ hk
     exact⟨o,e,ex⟩
    ·obtain⟨_,_,_,_,o,_,_,e,ex,_⟩:=I.hok p _ hk
     exact⟨o,e,ex⟩
   obtain⟨o,e,ex⟩:=z
   refine⟨⟨o,e,ex.1⟩,λa e2=>?_⟩
   cases e2
   exact⟨o,e,ex.2.1⟩
  ·obtain⟨o,_,_,_,e,ex,_⟩:=I.hok p _ hk
   refine⟨⟨o,e,ex.1⟩,λa e2=>?_⟩
   cases e2
   exact⟨o,e,ex.2.1⟩
 |_=>exact False.elim ty
def KH (K:Frag)(T:String)(r:V->List V->Hp->VK->Prop)(to:TE)(t:TA):TE:=λσ H Q=>to σ H λx H1=>Ko K T x H1/\t σ H1 λxs H2=>r x xs H2 Q
variable {o e:Expr}{es:List Expr}{to:TE}{t:TA}{name:Str}{apos cpos:Pos}{T id:String}{r:V->List V->Hp->VK->Prop}
def wC (pa:PlainAttrs T)(slot:Slot T name id)(hty:typeOf (.builtin id)=pure (.type "method_descriptor"))(hm:KA X id r)(ho:PE X o to)(ha:PA X (e :: es) t)
  (hbase:attributeBase o name X.env (eval o X.env)=eval o X.env:=by rfl)
  (hfew:((backTo cpos (starEach (e :: es) X.env)).all (λx=> !x.1) && (backToKw cpos (keywordEach [] X.env)).all (λx=>x.1.isSome)
   && decide ((e :: es).length + ([]:List Keyword).length + (if ([]:List Keyword).isEmpty then 0 else 1) < 30))=true:=by rfl)
  (hline:(apos.endLine == cpos.line)=true:=by rfl) (hs:starEach (e :: es) X.env=(false,eval e X.env) :: starEach es X.env:=by rfl) (hplain:(backTo cpos (starEach es X.env)).any (·.1)=false:=by rfl) :
  PE X (.Call (.Attribute o name apos) (e :: es) [] cpos) (KH X.K T r to t):=by
 intro pins s σ H Q I h
 refine wpAny_Call_method_late hbase hfew hline rfl (cq (ho pins s σ H _ I h) λv s1 ⟨x,H1,I1,r1,ty,q1⟩=>?_)
 obtain⟨h1,h2⟩:=FY I1 r1 ty
 refine⟨T,id,pa,slot,hty,h1,h2,?_⟩
 have hA:=ha cpos pins s1 σ H1 _ I1 q1
 rw[hs] at hA ⊢
 refine Calls.callWith_builtin (by show (false || (backTo cpos (starEach es X.env)).any (·.1))=false;rw[hplain] <;> rfl) (Calls.evalArgs_plain ?_)
 exact cq hA λus s2 ⟨vs,H2,I2,r2,q2⟩=>hm pins s2 σ H2 x vs v us Q I2 r1 r2 q2
end
def Ig (X:Cx)(id:String)(r:V->List V->Hp->VK->Prop):Prop:=
 ∀(pins:List (Addr×Obj)) (s:Shared) (σ:St) (H:Hp) (x:V) (xs:List V) (v:Value) (us:List Value) (Q:VK),Inv X pins σ H s->RelV x v->Vals xs us->r x xs H Q->
  wpAny (model X.prog X.w) X.A (call (.builtin id) (v :: us)) (EP X pins σ Q) X.xe s
theorem Vals.one:∀{x:V} {us:List Value},Vals [x] us->∃u,us= [u]/\RelV x u
 |_,_,.cons r .nil=>⟨_,rfl,r⟩
theorem Vals.eraseIdx:∀{xs:List V} {us:List Value} (i:Nat),Vals xs us->Vals (xs.eraseIdx i) (us.eraseIdx i)
 |_,_,_,.nil=>.nil
 |_,_,0,.cons _ t=>t
 |_,_,i + 1,.cons r t=>.cons r (Vals.eraseIdx i t)
theorem Vals.rep {xs:List V}{us:List Value}(h:Vals xs us):∀k:Nat,Vals (List.replicate k xs).flatten (List.replicate k us).flatten
 | 0=>.nil
 |k + 1=>by
  rw[MD,MD,Nb,Nb]
  exact Vals.append h (Vals.rep h k)
theorem sE {α:Type}:∀(l:List α) (i:Nat),(l.eraseIdx i).length<=l.length
 | [],_=>KR _
 |_ :: _,0=>Nat.le_succ _
 |_ :: r,i + 1=>Nat.succ_le_succ (sE r i)
theorem foldl_rep (its:List Value):∀(k:Nat) (acc:List Value),
  List.foldl (λx1 x2=>x1 ++ x2) acc.toArray (List.replicate k its.toArray)=(acc ++ (List.replicate k its).flatten).toArray
 | 0,acc=>by simp
 |k + 1,acc=>by
  have e:acc.toArray ++ its.toArray=(acc ++ its).toArray:=by simp
  have e2:(acc ++ its) ++ (List.replicate k its).flatten=acc ++ (List.replicate (k + 1) its).flatten:=by
   rw[MD,Nb,Mo]
  rw[<-e2,<-foldl_rep its k (acc ++ its),<-e,MD,foldl_cons]
section
variable {X:Cx}{pins:List (Addr×Obj)}{σ:St}{H:Hp}{s:Shared}{l b:Addr}{xs ys zs:List V}
def Inv.lset {its its':List Value}{n:Nat}{f:Array Value->Array Value}{t':Nat}(I:Inv X pins σ H s)(hH:H l=some (.lst xs))
  (e:s.heap.get? l=some {cls:=.type "list",data:=.seq its.toArray n}) (hf:f its.toArray=its'.toArray) (hv:Vals ys its') (hz:ys.length<=sizeLine) :
  Inv X pins σ (upd H l (.lst ys)) {s with heap:=s.heap.update l (Obj.mapSeq f),toks:=t'}:=by
 have q:=PySem.IsL.update e f
 rw[hf] at q
 refine I.write (x:=l) (e:=l) (by rw[hH];exact trivial) (.inl rfl) (λb' u hb hu=>(LN s.heap (Obj.mapSeq f) (Ne.symm hb)).trans hu) ⟨_,q⟩ ?_
 exact⟨hz,its',_,hv,q⟩
def Inv.lnew {its:List Value}{t':Nat}(I:Inv X pins σ H s)(hv:Vals ys its)(hz:ys.length<=sizeLine) :
  Inv X pins σ (upd H s.heap.objs.size (.lst ys)) {s with heap:=s.heap.push {cls:=.type "list",data:=.seq its.toArray},toks:=t'}:=
 I.laid (λ_ _ q=>KQ _ q) (KR _) ⟨hz,its,0,hv,Lf _ rfl⟩
def Inv.fresh (I:Inv X pins σ H s):H s.heap.objs.size=none:=I.hok.fresh (KR _)
def Inv.lstM (I:Inv X pins σ H s)(hH:H l=some (.lst xs)):xs.length<=sizeLine/\∃(its:List Value) (n:Nat),Vals xs its/\xs.length=its.length/\s.heap.get? l=some {cls:=.type "list",data:=.seq its.toArray n}:=by
 obtain⟨z,its,n,r,e⟩:=I.hok l _ hH
 exact⟨z,its,n,r,r.length,e⟩
def wq {n:Nat}(h:n<=sizeLine):Builtin.List.listTooLong n=false:=by
 unfold Builtin.List.listTooLong
 exact Lg (by omega)
end
section
variable {X:Cx}
def EE:V->List V->Hp->VK->Prop:=λx vs H Q=>∃l xs y,x=.ref l/\vs= [y]/\H l=some (.lst xs)/\xs.length < sizeLine/\Q .non (upd H l (.lst (xs ++ [y])))
def nz:Ig X "list.append" EE:=by
 intro pins s σ H x vs v us Q I rx rv h
 obtain⟨l,xs,y,rfl,rfl,hH,hz,q⟩:=h
 cases rx
 obtain⟨u,rfl,ru⟩:=rv.one
 obtain⟨z,its,n,r,hl,e⟩:=I.lstM hH
 refine M9 F.slot_list_append ⟨_,e,rfl⟩ F.entry_list_append (F.args_list_append_2 _ _) (PySem.list_append l its.toArray n u (by rw[K1];omega)) ⟨e,?_⟩
 refine⟨.non,_,I.lset (its':=its ++ [u]) hH e (by simp) (r.append (.cons ru .nil)) ?_,rfl,q⟩
 rw[LC,List.length_singleton]
 omega
def ES:V->List V->Hp->VK->Prop:=λx vs H Q=>∃l b xs zs,x=.ref l/\vs= [.ref b]/\H l=some (.lst xs)/\H b=some (.lst zs)/\xs.length + zs.length<=sizeLine/\Q .non (upd H l (.lst (xs ++ zs)))
def Hn:Ig X "list.extend" ES:=by
 intro pins s σ H x vs v us Q I rx rv h
 obtain⟨l,b,xs,zs,rfl,rfl,hH,hB,hz,q⟩:=h
 cases rx
 obtain⟨u,rfl,ru⟩:=rv.one
 cases ru
 obtain⟨z,its,n,r,hl,e⟩:=I.lstM hH
 obtain⟨z2,its2,n2,r2,hl2,e2⟩:=I.lstM hB
 have hsz:its.toArray.size + its2.toArray.size<=sizeLine:=by rw[K1,K1];omega
 have hlong:¬(!its.toArray.isEmpty && Builtin.List.listTooLong (its.toArray.size + its2.toArray.size))=true:=by
  rw[wq hsz,Bool.and_false]
  exact Lh
 refine M9 F.slot_list_extend ⟨_,e,rfl⟩ F.entry_list_extend (F.args_list_extend_2 _ _)
  (AutoSeq1.list_extend_list_list_0 l its.toArray n b its2.toArray n2 hlong (by rw[K1];omega) (by omega)) ⟨e,e2,?_⟩
 refine⟨.non,_,I.lset (its':=its ++ its2) hH e (by simp) (r.append r2) ?_,rfl,q⟩
 rw[LC]
 omega
def Gk:V->List V->Hp->VK->Prop:=λx vs H Q=>∃l xs i k y,x=.ref l/\vs= [.int i]/\H l=some (.lst xs)/\ -(2 ^ 63)<=i/\i < 2 ^ 63/\seqIndex? i xs.length=some k/\xs[k]? =some y/\Q y (upd H l (.lst (xs.eraseIdx k)))
def CL:Ig X "list.pop" Gk:=by
 intro pins s σ H x vs v us Q I rx rv h
 obtain⟨l,xs,i,k,y,rfl,rfl,hH,h1,h2,hk,hy,q⟩:=h
 cases rx
 obtain⟨u,rfl,ru⟩:=rv.one
 obtain⟨t,rfl⟩:=ru
 obtain⟨z,its,n,r,hl,e⟩:=I.lstM hH
 obtain⟨w,hw,rw'⟩:=r.get hy
 refine M9 F.slot_list_pop ⟨_,e,rfl⟩ F.entry_list_pop (F.args_list_pop_2 _ _)
  (MeetsSeq.list_pop_at l its.toArray n i t k w (fitsIndex_both h1 h2) (by rw[K1,<-hl];exact hk) (by rw[<-L9];exact hw) (by rw[K1];omega)) ⟨e,?_⟩
 refine⟨y,_,I.lset (its':=its.eraseIdx k) hH e ?_ (r.eraseIdx k) ?_,rw',q⟩
 ·show its.toArray.eraseIdxIfInBounds k=(its.eraseIdx k).toArray
  rw[List.eraseIdxIfInBounds_toArray]
 ·have:=sE xs k
  omega
def Ke:R2:=λx y H Q=>∃l b xs zs,x=.ref l/\y=.ref b/\H l=some (.lst xs)/\H b=some (.lst zs)/\xs.length + zs.length<=sizeLine/\∀p,H p=none->Q (.ref p) (upd H p (.lst (xs ++ zs)))
def CN:me X (binaryOp .Add) Ke:=by
 intro pins s σ H x y v u Q I rx ry h
 obtain⟨l,b,xs,zs,rfl,rfl,hH,hB,hz,q⟩:=h
 cases rx
 cases ry
 obtain⟨z,its,n,r,hl,e⟩:=I.lstM hH
 obtain⟨z2,its2,n2,r2,hl2,e2⟩:=I.lstM hB
 refine PySem.P.add_list e e2 ?_ (by rw[K1,K1];omega)
 have ea:its.toArray ++ its2.toArray=(its ++ its2).toArray:=by simp
 rw[ea]
 exact⟨.ref _,_,I.lnew (t':=s.toks) (r.append r2) (by rw[LC];omega),rfl,q _ I.fresh⟩
def JB:R2:=λx y H Q=>∃l k xs,x=.ref l/\y=.int k/\H l=some (.lst xs)/\ -(2 ^ 63)<=k/\k < 2 ^ 63/\xs.length * k.toNat<=sizeLine/\
 ∀p,H p=none->Q (.ref p) (upd H p (.lst (List.replicate k.toNat xs).flatten))
theorem len_rep {α:Type}(xs:List α)(k:Nat):(List.replicate k xs).flatten.length=k * xs.length:=by
 induction k with
 |zero=>simp
 |succ k ih=>rw[MD,Nb,LC,ih,Nat.succ_mul,Nat.add_comm]
def Gx:me X (binaryOp .Mult) JB:=by
 intro pins s σ H x y v u Q I rx ry h
 obtain⟨l,k,xs,rfl,rfl,hH,h1,h2,hz,q⟩:=h
 cases rx
 obtain⟨t,rfl⟩:=ry
 obtain⟨z,its,n,r,hl,e⟩:=I.lstM hH
 have hlen:its.toArray.size * k.toNat<=sizeLine:=by rw[K1,<-hl];exact hz
 have hcap:¬its.toArray.size * k.toNat > (2 ^ 63 - 1) / 8:=by
  have:(sizeLine:Nat)<=(2 ^ 63 - 1) / 8:=by decide
  omega
 have hfit:¬(!Builtin.List.listFitsIndex k)=true:=by
  rw[fitsIndex_both h1 h2]
  exact Lh
 have hlong:¬Builtin.List.listTooLong (its.toArray.size * k.toNat)=true:=by
  rw[wq hlen]
  exact Lh
 have hnew:List.foldl (λx1 x2=>x1 ++ x2) #[] (List.replicate (if its.toArray.isEmpty=true then 0 else k.toNat) its.toArray)=(List.replicate k.toNat its).flatten.toArray:=by
  have f0:∀m:Nat,List.foldl (λx1 x2=>x1 ++ x2) #[] (List.replicate m its.toArray)=(List.replicate m its).flatten.toArray:=λm=>by
   have:=foldl_rep its m []
   rw[List.nil_append] at this
   exact this
  rw[f0]
  cases its with
  |nil=>simp
  |cons a r'=>rw[K0 (by simp)]
 refine wpAny_binaryOp_repeat_ref (T:="list") (U:="int") (by decide) ⟨_,e,rfl⟩ (λs'=>typeIs_int s' k t) noFill_list_mul F.fills_int_mul F.slot_int_rmul repeat_list F.slot_int_index.lookup
  (M9 F.slot_int_rmul (typeIs_int s k t) F.entry_int_rmul (F.args_int_rmul_2 _ _) (int___rmul___int_list k t l its.toArray n)
   ⟨e,rfl,⟨_,e,rfl⟩,M9 F.slot_list_mul ⟨_,e,rfl⟩ F.entry_list_mul (F.args_list_mul_2 _ _) (AutoListH.list___mul___list_int_3 l its.toArray n k t hfit hcap hlong) ⟨e,?_⟩⟩)
 rw[hnew]
 exact⟨.ref _,_,I.lnew (t':=s.toks) (r.rep k.toNat) (by rw[len_rep,Nat.mul_comm];exact hz),rfl,q _ I.fresh⟩
end
end L2
namespace Att
open PySem PySem.W PySem.Calls PyProof.Rows
theorem oF {P:Params}{h:Heap}:∀(ns:List Int) (vs:List Value),WellAll P h vs (ns.map WData.int)->IntsAre vs ns:=by
 intro ns
 induction ns with
 |nil=>
  intro vs w
  rw[List.map_nil] at w
  cases w
  exact .nil
 |cons n ns ih=>
  intro vs w
  rw[LL] at w
  cases w with
  |cons a b=>
   cases a
   exact .cons _ _ (ih _ b)
theorem AI {l:OpenLaw}{n:Nat}(hn:l.most=some n){P:Params}{h:Heap}{args:List WData}{vals:List Value}
  (hpre:l.row.toRowW.claim.pre args=true) (hwl:WellAll P h vals args) :
  ∃a vs ns,vals= [Value.ref a]/\args= [WData.list (ns.map WData.int)]/\h.get? a=some {cls:=.type "list",data:=.seq vs.toArray}/\IntsAre vs ns/\ns.length<=n:=by
 have hsh:WShape.hasAll [] args [.list .int]=true:=(pre_splitW hpre).1
 have hc:l.pre.holds [] {args:=args}=true:=(pre_splitW hpre).2
 obtain⟨d,r,rfl,h1,h2⟩:=hasAllW_cons hsh
 obtain rfl:=hasAllW_nil h2
 obtain⟨xs,rfl,h3⟩:=hasW_list h1
 obtain⟨ns,rfl⟩:=items_int h3
 have hlen:ns.length<=n:=by
  unfold OpenLaw.pre at hc
  have h4:(WTm.not (.lt (.lit (.int (n:Int))) (.len (.arg 0)))).holds [] {args:=[.list (ns.map .int)]}=true:=by
   have h4:=(holds_andW hc).1
   rw[hn] at h4
   exact h4
  have h5:=condW_of h4 (w_not (w_lt w_lit (w_len_list (w_arg rfl))))
  rw[Lk] at h5
  refine Nat.le_of_not_lt λq=>?_
  have q':(n:Int) < ((ns.length:Nat):Int):=by omega
  first
   | (rw[K7 q'] at h5;exact absurd h5 (by decide))
   | (simp at h5;omega)
 cases hwl with
 |cons w1 w2=>
  cases w2
  cases w1 with
  |list ho hall=>exact⟨_,_,ns,rfl,rfl,ho,oF ns _ hall,hlen⟩
def Am (l:OpenLaw)(args:List WData):l.row.toRowW.claim.post args (.bool true) args=true:=
 postW_of (r:=l.row.toRowW) (X:=(true == true))
  (show WShape.has [] (.bool true) .bool=true by first |rfl |decide |simp[WShape.has,WShape.arms,WShape.armsAll])
  (show (WTm.eq .res (.lit (.bool true))).value [] {args:=args,res:=some (.bool true),after:=args}=some (.bool (true == true)) from w_eq_bool (w_res rfl) w_lit) rfl
def v5 {l:OpenLaw}{n:Nat}{q:Program}{loose:List Str}{XP:(Str->Option Value)->Heap->Prop}{YP:World->Heap->Prop}{d:DefRec}
  (hn:l.most=some n) (hdf:d.params.defaults= [])
  (call:∀(w:World) (s₀ s₁:Shared) (mg mb:Str->Option Value) (fa:Addr) (o:Obj) (pm cd doc:Value) (a:Addr) (vs:List Value) (ns:List Int),
   Ground q loose [] XP w s₀ mg mb s₁.heap->YP w s₁.heap->
   s₁.heap.get? fa=some o->o.data=.func (docDef d.name d.params d.body d.scope pm cd doc)->s₁.heap.CodeRec cd d.name->mg d.name=some (.ref fa)->
   s₁.heap.get? a=some {cls:=.type "list",data:=.seq vs.toArray}->IntsAre vs ns->ns.length<=n->s₁.gens=#[]->
   codeAny (model l.prog w) callerA (.call (.ref fa) ⟨[.ref a],[]⟩) (λr s'=>r=.ok (.ret (.bool true))/\OldK s₁.heap s'.heap/\s'.os=s₁.os/\AllBare s'.gens) s₁) :
  WalkO q loose XP YP l.row.toRowW d [] (λf vs=>PySem.call f vs):=by
 intro w s₀ s₁ mg mb G Y fa o pm cd doc dV kV ho hd hcd hD hmg hg args vals as hpre hlay hrd hwl hlo
 obtain rfl:dV=.none:=Dflts.none hD hdf
 obtain rfl:kV=.none:=Dflts.noKw hD
 obtain⟨a,vs,ns,rfl,rfl,hobj,hints,hlen⟩:=AI hn hpre hwl
 refine enter_call (MQ (call w s₀ s₁ mg mb fa o pm cd doc a vs ns G Y ho (fd_plain hd) hcd hmg hobj hints hlen hg) λr s' hq=>?_)
 obtain⟨rfl,h2,h3,h4⟩:=hq
 exact⟨.inl ⟨.bool true,.bool true,[],rfl,λ_=>rfl,.bool true,Am l _,λ_=>⟨List.Pairwise.nil,λ_ hm=>(nomatch hm)⟩⟩,h2,h3,h4⟩
end Att
namespace L2
open PySem PySem.Spec PyProof.Rows
theorem sH:∀{vs:List Value} {ns:List Int},IntsAre vs ns->Vals (ns.map V.int) vs
 |_,_,.nil=>.nil
 |_,_,.cons n t h=>.cons ⟨t,rfl⟩ (sH h)
def FP (H:Hp):Prop:=∀b,H b=none\/∃o xs,H b=some (.bt o (.lst xs))
theorem C0 {P:Program}{w:World}{K:Frag}{mg mb:Str->Option Value}{CX:vY}{k:Nat}{fa a:Addr}{fd:FuncData}{x:Str}{sp:Sp}{s₁:Shared}{vs:List Value}{ns:List Int}
  (KX:K.In s₁.heap) (hns:s₁.heap.Ns mainGlobals mg) (hb:s₁.heap.Ns builtinsNs mb) (hbb:∀x:Str,x≠"__name__"->mb x=bootBuiltins x) (hlim:s₁.heap.NoLimit) (hsys:∃mm,s₁.heap.Ns sysModules mm) (hg:s₁.gens=#[])
  (ha:s₁.heap.get? a=some {cls:=.type "list",data:=.seq vs.toArray}) (hi:IntsAre vs ns) (hl:ns.length<=sizeLine) (hr:dN k callerA)
  (F:∀base:Heap,K.In base->base.Ns mainGlobals mg->fq P w K mg base CX k fa fd [x] sp) (hbind:∀(s:Shared) (u:Value),BindsTo s fd ⟨[u],[]⟩ [(x,u)])
  (hsp:∀H:Hp,FP H->gR K H a (ns.map V.int)->sp [.ref a] H (λv _=>v=.bl true) λ_ _ _=>False)
  (hCX:∀H e s',CX [] H s₁ (λ_ _ _=>False) e s'->False) :
  codeAny (model P w) callerA (.call (.ref fa) ⟨[.ref a],[]⟩) (λr s'=>r=.ok (.ret (.bool true))/\OldK s₁.heap s'.heap/\s'.os=s₁.os/\AllBare s'.gens) s₁:=by
 have rv:=sH hi
 have lenV:=hi.length
 have core:∀H:Hp,FP H->gR K H a (ns.map V.int)->jS P w H s₁.heap->(∀b,H b≠none->b=a)->(H a≠none->K.lookup a=none)->
   codeAny (model P w) callerA (.call (.ref fa) ⟨[.ref a],[]⟩) (λr s'=>r=.ok (.ret (.bool true))/\OldK s₁.heap s'.heap/\s'.os=s₁.os/\AllBare s'.gens) s₁:=by
  intro H hO hS hok hA hK
  have base_of:∀{b:Addr} {o:Obj},s₁.heap.get? b=some o->H b=none->(ug s₁.heap H).get? b=some o:=λe n=>A6 e n
  have noA:∀{b:Addr} {o:Obj} {es:Array DictEntry} {ep:Nat},s₁.heap.get? b=some o->o.data=.dict es ep->H b=none:=λ{b o es ep} e d=>by
   cases q:H b with
   |none=>rfl
   |some u=>
    have e':b=a:=hA b (by rw[q];simp)
    subst e'
    rw[ha] at e;cases e
    have d':Data.seq vs.toArray _=Data.dict es ep:=d
    cases d'
  have nsK:∀{b:Addr} {m:Str->Option Value},s₁.heap.Ns b m->(ug s₁.heap H).Ns b m:=λ{b m} ⟨o,es,ep,e,d,r⟩=>⟨o,es,ep,base_of e (noA e d),d,r⟩
  have hKb:K.In (ug s₁.heap H):=λb o e=>base_of (KX b o e) (by
   cases q:H b with
   |none=>rfl
   |some u=>
    have e':b=a:=hA b (by rw[q];simp)
    subst e'
    rw[hK (by rw[q];simp)] at e;cases e)
  have hM:Mod K mg (ug s₁.heap H):=⟨hKb,nsK hns,⟨mb,nsK hb,hbb⟩,let ⟨mc,h1,h2⟩:=hlim;⟨mc,nsK h1,h2⟩,let ⟨mm,h1⟩:=hsys;⟨mm,nsK h1⟩⟩
  have e0:xa P w K mg (ug s₁.heap H) callerA [] s₁ H:=⟨rfl,hM,λb o e=>Ea e,Nat.le_of_eq (z8 _ _),trivial,λb hb=>absurd (show b∈([]:List Addr) from hb) (by simp),hok,.of_eq hg⟩
  refine MQ ((F _ hKb (nsK hns)).run callerA [] s₁ H ⟨[.ref a],[]⟩ [.ref a] [.ref a] _ _ hr e0 (hbind s₁ (.ref a)) (.cons rfl .nil) (hsp H hO hS)) λr s' h=>?_
  cases r with
  |error e=>exact (hCX H e s' h).elim
  |ok fl=>
   cases fl with
   |next=>exact False.elim h
   |brk=>exact False.elim h
   |cont=>exact False.elim h
   |ret u=>
    obtain⟨v,H',os,bare,un,hok',r',q⟩:=h
    have q':v=.bl true:=q
    subst q'
    obtain rfl:u=Value.bool true:=r'
    refine⟨rfl,OldK.of_keep λb o e=>?_,os,bare⟩
    cases q:H b with
    |none=>exact un.keep b o e q (by intro z;exact absurd (show b∈([]:List Addr) from z) (by simp)) (by simp)
    |some u=>
     rcases hO b with z | ⟨ob,xs,z⟩
     ·rw[q] at z;cases z
     ·have z2:=un.frzs b ob _ z
      obtain⟨e1,_⟩:=hok b _ z
      obtain⟨e2,_⟩:=hok' b _ z2
      rw[e] at e1;cases e1
      exact e2
 cases hk:K.lookup a with
 |some o=>
  have e:=KX a o hk
  rw[ha] at e
  cases e
  refine core (λ_=>none) (λ_=>.inl rfl) (.inr ⟨_,vs.toArray,_,hk,rfl,rfl,rfl,by rw[K1,lenV];exact hl,by simpa using rv⟩) (λb u z=>by have z':(none:Option HO)=some u:=z;cases z') (λb z=>absurd rfl z) λz=>absurd rfl z
 |none=>
  refine core (λb=>if b=a then some (.bt {cls:=.type "list",data:=.seq vs.toArray} (.lst (ns.map V.int))) else none) (λb=>?_) (.inl (.inr ⟨{cls:=.type "list",data:=.seq vs.toArray},KU rfl⟩)) (λb u z=>?_) (λb z=>?_) λ_=>hk
  ·by_cases hb:b=a
   ·exact .inr ⟨_,_,KU hb⟩
   ·exact .inl (K0 hb)
  ·by_cases hb:b=a
   ·have z':=(KU hb).symm.trans z
    cases z'
    subst hb
    exact⟨ha,by rw[Lk];exact hl,vs,_,rv,ha⟩
   ·have z':=(K0 hb).symm.trans z
    cases z'
  ·by_cases hb:b=a
   ·exact hb
   ·exact absurd (K0 hb) z
def D1 {l:PySem.W.OpenLaw}{n k:Nat}{q:Program}{loose:List Str}{XP:(Str->Option Value)->Heap->Prop}{YP:World->Heap->Prop}{d:DefRec}{K:Params->Frag}{CX:World->vY}{sp:World->Sp}{x:Str}
  (hn:l.most=some n) (hn2:n<=sizeLine) (hdf:d.params.defaults= []) (hi:PyProof.Rows.importsNone q=true) (hr:dN k callerA)
  (hY:∀(w:World) (h:Heap),YP w h->(K w.params).In h)
  (F:∀(w:World) (mg:Str->Option Value) (fa:Addr) (h:Heap),(K w.params).In h->h.Ns mainGlobals mg->mg d.name=some (.ref fa)->
   ∃fd:FuncData,(∀(s:Shared) (u:Value),BindsTo s fd ⟨[u],[]⟩ [(x,u)])/\
    ∀base:Heap,(K w.params).In base->base.Ns mainGlobals mg->fq l.prog w (K w.params) mg base (CX w) k fa fd [x] (sp w))
  (hsp:∀(w:World) (H:Hp) (a:Addr) (ns:List Int),ns.length<=n->FP H->gR (K w.params) H a (ns.map V.int)->sp w [.ref a] H (λv _=>v=.bl true) λ_ _ _=>False)
  (hCX:∀(w:World) (H:Hp) (s:Shared) (e:Value) (s':Shared),CX w [] H s (λ_ _ _=>False) e s'->False) :
  PySem.W.WalkO q loose XP YP l.row.toRowW d [] (λf vs=>PySem.call f vs):=by
 refine Att.v5 hn hdf λw s₀ s₁ mg mb fa o pm cd doc a vs ns G Y ho hd hcd hmg hobj hints hlen hg=>?_
 have KX:=hY w _ Y
 obtain⟨fd,hb,hF⟩:=F w mg fa _ KX G.T.g hmg
 exact C0 KX G.T.g G.T.b G.T.builtins G.T.nolimit (let ⟨mm,h1,_⟩:=(G.T.seer hi).mods;⟨mm,h1⟩) hg hobj hints (L4 hlen hn2) hr hF hb (λH hO hS=>hsp w H a ns hlen hO hS) λH e s'=>hCX w H s₁ e s'
def ic (s:Stmt):Arguments:=match s with
 | .FunctionDef _ a _ _ _ _ _ _ _ _=>a
 |_=>{posonlyargs:=[],args:=[],vararg:=none,kwonlyargs:=[],kw_defaults:=[],kwarg:=none,defaults:=[]}
def bN (s:Stmt):List Stmt:=match s with
 | .FunctionDef _ _ b _ _ _ _ _ _ _=>b
 |_=>[]
def ak (s:Stmt):Scope:=match s with
 | .FunctionDef _ _ _ _ _ _ sc _ _ _=>sc
 |_=>{kind:=.function,names:=[],isGenerator:=false,isCoroutine:=false}
abbrev xZ:vY:=λ_ _ _ _ _ _=>False
abbrev E0:XK:=λ_ _ _=>False
def Fh {X:Cx}:Passes xZ X E0:=λ_ _ _ _ _ _ _ h=>h.elim
structure AY (K:Frag)(x qual:Str)(st:Stmt)(f:Addr)(fd:FuncData):Prop where
 ex:∃(oc:Value) (od:Option Addr) (kV doc pm:Value) (an:Option Addr) (cdv ct:Value) (osl:Array (Option Value)),
  fd=PySem.W.fnOf x qual (ic st) (bN st) (ak st) .none kV doc pm an cdv ct/\K.lookup f=some ⟨oc,od,.func fd,osl⟩/\PySem.W.codeIn K cdv qual=true
 kp:PySem.W.keepIn K (.ref f)=true
section
variable {P:Program}{w:World}{K:Frag}{mg:Str->Option Value}{base:Heap}
def AY.ok {x qual:Str}{st:Stmt}{f:Addr}{fd:FuncData}{N ps:List Str}{k:Nat}{sp:Sp}(F:AY K x qual st f fd)(S:aH N ps (ak st))(len:∀vs H Q E,sp vs H Q E->vs.length=ps.length)
  (hbody:∀(cdv:Value) (A:Around) (outer:List Env) (s:Shared) (H:Hp) (vs:List V) (Q:VK) (E:XK),dN k (A.deeper (envOfC qual (ak st) s.heap.objs.size f cdv))->sp vs H Q E->
   ∃t,oB (jX xZ P w K mg base N qual (ak st) f cdv A outer s H E).nox (bN st) t/\t {nx:=λ_ H'=>Q .non H',rt:=Q} (start N vs) H):fq P w K mg base xZ (k + 1) f fd ps sp:=by
 obtain⟨oc,od,kV,doc,pm,an,cdv,ct,osl,rfl,lk,hcd⟩:=F.ex
 refine E4 lk hcd S len λA outer s H vs Q E hr hsp=>?_
 obtain⟨t,h,q⟩:=hbody cdv A outer s H vs Q E hr hsp
 exact⟨t,h.nox,q⟩
def AY.binds {x qual:Str}{st:Stmt}{f:Addr}{fd:FuncData}{ps:List Str}(F:AY K x qual st f fd)
  (h:∀(kV doc pm:Value) (an:Option Addr) (cdv ct:Value) (us:List Value),us.length=ps.length->bindArgs (PySem.W.fnOf x qual (ic st) (bN st) (ak st) .none kV doc pm an cdv ct) ⟨us,[]⟩=pure (ps.zip us)):Binds K fd ps []:=by
 obtain⟨oc,od,kV,doc,pm,an,cdv,ct,osl,rfl,lk,hcd⟩:=F.ex
 exact .all (h kV doc pm an cdv ct)
def xo {x qual:Str}{st:Stmt}{f:Addr}{oc:Value}{od an:Option Addr}{osl:Array (Option Value)}{kV doc pm cdv ct:Value}(l:K.lookup f=some ⟨oc,od,.func (PySem.W.fnOf x qual (ic st) (bN st) (ak st) .none kV doc pm an cdv ct),osl⟩)
  (c:PySem.W.codeIn K cdv qual=true) (k:PySem.W.keepIn K (.ref f)=true):AY K x qual st f (PySem.W.fnOf x qual (ic st) (bN st) (ak st) .none kV doc pm an cdv ct):=⟨⟨oc,od,kV,doc,pm,an,cdv,ct,osl,rfl,l,c⟩,k⟩
end
section
variable {X:Cx}
def pv (i:Nat){x:Str}{pos:Pos}(hN:X.N[i]? =some x:=by rfl)(hv:y1 X.env.scope x:=by first |exact Or.inl rfl |exact Or.inr (Or.inl rfl) |exact Or.inr (Or.inr rfl))(hd:(x == ("__debug__":Str))=false:=by decide)
  (hcd:(x == ("__classdict__":Str))=false:=by decide):PE X (.Name x pos) (D9 i):=i4 hN hv hd hcd
end
def rl {A B:Prop}(h:B):if false=true then A else B:=by
 rw[K0 Lh]
 exact h
def xr {A B:Prop}(h:A):if true=true then A else B:=by
 rw[KU rfl]
 exact h
def JP (o:Obj):Prop:=∃vs q t,o.data=.fields vs/\vs[1]? =some (.str q t)
def Gv:List Value->Prop
 | []=>True
 | .int _ _ :: .int _ _ :: .ref _ :: r=>Gv r
 |_=>False
theorem Gv.app:∀{l m:List Value},Gv l->Gv m->Gv (l ++ m)
 | [],_,_,h=>h
 | .int _ _ :: .int _ _ :: .ref _ :: r,_,h,k=>Gv.app (l:=r) h k
def Kt (H:Hp)(b:Addr):HO->Prop
 | .tbl ps=>∃more:Array Value,H b=some (.tbl (ps ++ more))/\Gv more.toList/\∀c,Value.ref c∈more.toList->∃o,H c=some (.bt o (.own 0))/\JP o
 |o=>H b=some o
theorem Kt.of {H:Hp}{b:Addr}{o:HO}(h:H b=some o):Kt H b o:=by
 cases o with
 |tbl ps=>exact⟨#[],by rw[h];simp,trivial,λc hc=>by simp at hc⟩
 |_=>exact h
def ax (H H':Hp):Prop:=∀b o,H b=some o->Kt H' b o
def ax.refl (H:Hp):ax H H:=λ_ _ h=>Kt.of h
theorem Kt.some {H:Hp}{b:Addr}{o:HO}(h:Kt H b o):∃u,H b=Option.some u/\((∀ps,o≠.tbl ps)->u=o)/\((∃ps,o=.tbl ps)->∃ps,u=.tbl ps):=by
 cases o with
 |tbl ps=>obtain⟨m,e,_⟩:=h;exact⟨_,e,λz=>absurd rfl (z ps),λ_=>⟨_,rfl⟩⟩
 |_=>exact⟨_,h,λ_=>rfl,λ⟨ps,z⟩=>by cases z⟩
theorem Kt.step {H H':Hp}{b:Addr}{o:HO}(h:Kt H b o)(s:ax H H'):Kt H' b o:=by
 cases o with
 |tbl ps=>
  obtain⟨m,e,t1,k⟩:=h
  obtain⟨m2,e2,t2,k2⟩:=s b _ e
  refine⟨m ++ m2,by rw[e2,Array.append_assoc],by rw[M1];exact t1.app t2,λc hc=>?_⟩
  rw[M1,Lp] at hc
  rcases hc with hc |hc
  ·obtain⟨o,eo,io⟩:=k c hc;exact⟨o,s c _ eo,io⟩
  ·exact k2 c hc
 |lst xs=>exact s b _ h
 |tup xs=>exact s b _ h
 |dK xs=>exact s b _ h
 |dT xs=>exact s b _ h
 |set S n=>exact s b _ h
 |ins C dx fs=>exact s b _ h
 |own x=>exact s b _ h
 |xd fs=>exact s b _ h
 |met f x=>exact s b _ h
 |oA lo hi=>exact s b _ h
 |bt o u=>exact s b _ h
 |ext φ=>exact s b _ h
def ax.trans {H H1 H2:Hp}(a:ax H H1)(b:ax H1 H2):ax H H2:=λc o h=>(a c o h).step b
theorem ax.free {H H':Hp}(e:ax H H'){l:Addr}(h:H' l=Option.none):H l=Option.none:=by
 cases q:H l with
 |none=>rfl
 |some o=>
  obtain⟨u,z,_⟩:=(e l o q).some
  rw[z] at h
  cases h
def ax.seq {K:Frag}{H H':Hp}{a:Addr}{xs:List V}(e:ax H H')(h:gR K H a xs):gR K H' a xs:=by
 rcases h with (h | ⟨o,h⟩) |h
 ·exact .inl (.inl (e _ _ h))
 ·exact .inl (.inr ⟨o,e _ _ h⟩)
 ·exact .inr h
end L2
end
section
namespace RQ
open PySem L2
def top (i:Nat):Stmt:=PySem.Challenge.pw_rowsorder_k07_what_is_no_order.main.body.getD i (.Pass ⟨0,0,0,0⟩)
abbrev jr:Stmt:=top 2
abbrev jg:Stmt:=top 3
abbrev kG:Stmt:=top 4
abbrev kU:Stmt:=top 5
abbrev dH:Stmt:=top 7
abbrev i3:Stmt:=top 25
abbrev jm:Stmt:=top 23
abbrev fW:Stmt:=top 26
abbrev bH:Stmt:=top 27
abbrev oR:Stmt:=top 28
abbrev mB:Stmt:=top 29
abbrev oW:Stmt:=top 30
abbrev fP:Stmt:=top 32
abbrev l8:Stmt:=top 34
abbrev mf:Stmt:=top 36
abbrev ij:Stmt:=top 39
abbrev kO:Stmt:=top 40
abbrev kQ:Stmt:=top 43
abbrev sS:Stmt:=top 51
abbrev fH:Stmt:=top 52
abbrev fQ:Stmt:=top 54
abbrev mH:Stmt:=top 56
abbrev fK:Stmt:=top 60
abbrev g8:Stmt:=top 61
abbrev fY:Stmt:=top 62
abbrev oU:Stmt:=top 64
abbrev ji:Stmt:=top 66
abbrev eS:Stmt:=top 65
abbrev kN:Stmt:=top 70
abbrev jF:Stmt:=top 72
abbrev gc:Stmt:=top 78
abbrev gX:Stmt:=top 80
abbrev kR:Stmt:=top 81
abbrev mE:Stmt:=top 83
abbrev kC:Stmt:=top 86
abbrev cR:Stmt:=top 88
abbrev jE:Stmt:=top 94
abbrev kS:Stmt:=top 95
abbrev fI:Stmt:=top 97
abbrev ie:Stmt:=top 99
abbrev dX:Stmt:=top 100
abbrev jB:Stmt:=top 101
abbrev hX:Stmt:=top 102
abbrev di:Stmt:=top 103
abbrev eT:Stmt:=top 104
abbrev gk:Stmt:=top 105
abbrev fG:Stmt:=top 107
abbrev eZ:Stmt:=top 108
abbrev fM:Stmt:=top 109
abbrev hU:Stmt:=top 110
abbrev lg:Stmt:=top 111
end RQ
namespace RO
open PySem L2
abbrev jD:Stmt:=RQ.dH
abbrev ml:Stmt:=RQ.top 24
abbrev jU:Stmt:=RQ.top 106
end RO
end
namespace L2
open PySem PySem.Spec PyProof.Rows
def Rc (h:Heap)(e:Addr)(cls:Value)(T:Addr)(fl:Value):Prop:=∃oe vs oT ts,h.get? e=some oe/\oe.cls=cls/\oe.dict=none/\oe.data=.fields vs/\vs[1]? =some (.ref T)/\vs[2]? =some .none/\T≠e/\h.get? T=some oT/\oT.data=.fields ts/\ts[3]? =some fl
abbrev Keeps (F:List Addr)(ch:List Addr)(h h':Heap):Prop:=∀b o,h.get? b=some o->b∉F->b∉ch->h'.get? b=some o
abbrev Slots (F:List Addr)(h h':Heap):Prop:=∀b o,h.get? b=some o->b∈F->∃sl,h'.get? b=some {o with slots:=sl}
section
variable {M:Model}{A:Around}{E:Value->Shared->Prop}{s:Shared}{base:Heap}{env:Env}{outer:List Env}{L e:Addr}{cls:Value}{Q:Unit->Shared->Prop}
def Cn {oe:Obj}{vs:Array Value}{head:Value}{hadNext:Bool}(hfr:A.frames=some (env :: outer))(hl:s.heap.FunFrames base (env :: outer))(hf:env.frame=some L)(he:s.heap.get? e=some oe)(hc:oe.cls=cls)(hdd:oe.dict=none)(hd:oe.data=.fields vs)(hsz:1 < vs.size)(h2:vs[2]? =some .none)
  (h:∀h' T,Keeps (dD (env :: outer)) [e] s.heap h'->Slots (dD (env :: outer)) s.heap h'->s.heap.get? T=none->Rc h' e cls T (rawInt L)->Q () {s with heap:=h'}) :
  wpAny M A (do let a <-frameOf env;let pl <-entryPlaceOf L hadNext;let b <-EntryCells.newEntry head a .none (rawInt L) .none pl;setField (.ref e) 1 b) Q E s:=by
 have eF:e∉dD (env :: outer):=λz=>by
  obtain⟨_,o,q,n⟩:=hl.mem z
  rw[he] at q;cases q;exact n _ hd
 refine KO (wpAny_frameOf_fun hfr hl hf λh1 s1=>?_)
 refine KO (wpAny_entryPlaceOf λpl hpl=>?_)
 unfold EntryCells.newEntry newFields
 refine KO (MO ?_ (hpl.sizeOk5 _ _ _ _ _))
 have e1:h1.get? e=some oe:=(s1.2.1 e eF).trans he
 have e2:=KQ (h:=h1) {cls:=.type "traceback",dict:=none,data:=.fields ([head,.ref L,.none,rawInt L,.none] ++ (if pl.isEmpty then List.replicate 6 Value.none else pl)).toArray} e1
 have tn:h1.objs.size≠e:=Nat.ne_of_gt (KY e1)
 refine MR e2 hd hsz (h _ h1.objs.size (λb o q hb hn=>?_) (λb o q hb=>?_) ?_ ?_)
 ·have hbe:b≠e:=by simpa using hn
  have q1:h1.get? b=some o:=(s1.2.1 b hb).trans q
  rw[LN _ _ (Ne.symm hbe)]
  exact KQ _ q1
 ·obtain⟨sl,q1⟩:=s1.2.2 b o q
  have hbe:b≠e:=λz=>eF (z▸hb)
  refine⟨sl,?_⟩
  rw[LN _ _ (Ne.symm hbe)]
  exact KQ _ q1
 ·cases q:s.heap.get? h1.objs.size with
  |none=>rfl
  |some o=>obtain⟨sl,q1⟩:=s1.2.2 _ o q;exact absurd (KY q1) (Ln _)
 ·have d3:=Obj.data_mapFields hd (·.setIfInBounds 1 (Value.ref h1.objs.size))
  have e3:=LJ (Obj.mapFields (·.setIfInBounds 1 (Value.ref h1.objs.size))) e2 (Obj.isFreed_of_fields d3)
  refine⟨_,_,_,_,e3,(Obj.cls_mapFields _ _).trans hc,?_,d3,by simp[hsz],by rw[Array.getElem?_setIfInBounds_ne (by omega)];exact h2,tn,(LN _ _ (Ne.symm tn)).trans (Lf h1 rfl),rfl,?_⟩
  ·unfold Obj.mapFields
   split <;> exact hdd
  ·rcases hpl with rfl | ⟨_,_,_,_,_,_,_,rfl⟩ <;> simp
def xH {oe:Obj}{vs:Array Value}(hfr:A.frames=some (env :: outer))(hl:s.heap.FunFrames base (env :: outer))(hf:env.frame=some L)(he:s.heap.get? e=some oe)(hc:oe.cls=cls)(hdd:oe.dict=none)(hd:oe.data=.fields vs)(h1:vs[1]? =some .none)(h2:vs[2]? =some .none)
  (h:∀h' T,Keeps (dD (env :: outer)) [e] s.heap h'->Slots (dD (env :: outer)) s.heap h'->s.heap.get? T=none->Rc h' e cls T (rawInt L)->Q () {s with heap:=h'}):wpAny M A (noteFrame (.ref e) env) Q E s:=by
 unfold noteFrame
 simp only[hf]
 refine KO (wpAny_field he hd h1 ?_)
 rw[K0 (by decide)]
 exact Cn hfr hl hf he hc hdd hd (LH.mp h1).1 h2 h
def r6 {T0:Addr}(hfr:A.frames=some (env :: outer))(hl:s.heap.FunFrames base (env :: outer))(hf:env.frame=some L)(r:Rc s.heap e cls T0 .none)
  (h:∀h' T,Keeps (dD (env :: outer)) [e,T0] s.heap h'->Slots (dD (env :: outer)) s.heap h'->(s.heap.get? T=none\/T=T0)->Rc h' e cls T (rawInt L)->Q () {s with heap:=h'}):wpAny M A (noteFrame (.ref e) env) Q E s:=by
 obtain⟨oe,vs,oT,ts,he,hc,hdd,hd,h1,h2,hTe,hT,hdT,h3⟩:=r
 have tF:T0∉dD (env :: outer):=λz=>by
  obtain⟨_,o,q,n⟩:=hl.mem z
  rw[hT] at q;cases q;exact n _ hdT
 unfold noteFrame
 simp only[hf]
 refine KO (wpAny_field he hd h1 ?_)
 rw[KU (show (Value.ref T0 != Value.none)=true from by simp)]
 refine KO (wpAny_field hT hdT h3 ?_)
 rw[K0 (show ¬((Value.none == rawInt L)=true) from by simp[rawInt])]
 refine KO (MR hT hdT (LH.mp h3).1 ?_)
 have oth:∀b,b≠T0->(s.heap.update T0 (Obj.mapFields (·.setIfInBounds 3 Value.none))).get? b=s.heap.get? b:=λb hb=>LN _ _ (Ne.symm hb)
 have nf:∀b o,s.heap.get? b=some o->(∀ws,o.data≠.fields ws)->b≠T0:=λb o q n z=>by
  rw[z,hT] at q;cases q;exact n _ hdT
 refine Cn (base:=base) hfr (hl.of_keeps λb o q n=>⟨o,(oth b (nf b o q n)).trans q,rfl⟩) hf ((oth e (Ne.symm hTe)).trans he) hc hdd hd (LH.mp h1).1 h2 λh' T kp sl tn rc=>?_
 refine h h' T (λb o q hb hn=>?_) (λb o q hb=>?_) ?_ rc
 ·simp only[KZ,not_mem_nil,or_false,not_or] at hn
  exact kp b o ((oth b hn.2).trans q) hb (by simp[hn.1])
 ·exact sl b o ((oth b λz=>tF (z▸hb)).trans q) hb
 ·by_cases z:T=T0
  ·exact .inr z
  ·exact .inl ((oth T z).symm.trans tn)
def oP {T:Addr}{fl:Value}(r:Rc s.heap e cls T fl)(h:∀h',Keeps [] [T] s.heap h'->Rc h' e cls T .none->Q () {s with heap:=h'}):wpAny M A (setFlight (.ref e) none) Q E s:=by
 obtain⟨oe,vs,oT,ts,he,hc,hdd,hd,h1,h2,hTe,hT,hdT,h3⟩:=r
 have sz:3 < ts.size:=(LH.mp h3).1
 unfold setFlight
 refine KO (wpAny_field he hd h1 ?_)
 rw[KU (show (Value.ref T != Value.none)=true from by simp)]
 refine MR hT hdT sz (h _ (λb o q _ hn=>?_) ?_)
 ·have hb:b≠T:=by simpa using hn
  exact (LN _ _ (Ne.symm hb)).trans q
 ·have d3:=Obj.data_mapFields hdT (·.setIfInBounds 3 ((none:Option Addr).elim Value.none λf=>rawInt f))
  exact⟨oe,vs,_,_,(LN _ _ hTe).trans he,hc,hdd,hd,h1,h2,hTe,LJ _ hT (Obj.isFreed_of_fields d3),d3,by simp[sz]⟩
end
section
variable {P:Program}{w:World}
theorem bL.there {H:Hp}{h:Heap}{a:Addr}{o:HO}(x:bL P w H h a o):∃u,h.get? a=some u:=by
 cases o with
 |lst xs=>obtain⟨_,_,_,_,e⟩:=x;exact⟨_,e⟩
 |tup xs=>obtain⟨_,_,_,u,e,_⟩:=x;exact⟨u,e⟩
 |dK kvs=>obtain⟨_,_,_,_,o,_,_,e,_⟩:=x;exact⟨_,e⟩
 |dT kvs=>obtain⟨_,_,_,_,o,_,_,e,_⟩:=x;exact⟨_,e⟩
 |set S n=>obtain⟨o,_,_,_,e,_⟩:=x;exact⟨_,e⟩
 |ins C dx fs=>obtain⟨_,_,_,e,_⟩:=x;exact⟨_,e⟩
 |own y=>obtain⟨_,e⟩:=x;exact⟨_,e⟩
 |xd fs=>obtain⟨_,⟨_,_,_,e,_⟩,_⟩:=x;exact⟨_,e⟩
 |oA lo hi=>obtain⟨_,_,_,e⟩:=x;exact⟨_,e⟩
 |bt ob u=>obtain⟨e,_⟩:=x;exact⟨_,e⟩
 |tbl ps=>exact⟨_,show h.get? a=some _ from x⟩
 |met f y=>exact⟨_,show h.get? a=some _ from x⟩
 |ext φ=>obtain⟨_,⟨_,e⟩,_⟩:=x;exact⟨_,e⟩
end
structure Lies (h₀:Heap)(H:Hp)(h:Heap)(e:Addr)(cls:Value):Prop where
 free:H e=none
 new:h₀.get? e=none
 ob:∃T,Rc h e cls T .none/\H T=none/\h₀.get? T=none
def mq (P:Program)(w:World):vY:=λouter H s E e s'=>∃ea cls H',e=.ref ea/\s'.os=s.os/\AllBare s'.gens/\Un (dD outer) [] H H' s.heap s'.heap/\jS P w H' s'.heap/\Lies s.heap H' s'.heap ea cls/\E cls none H'
section
variable {P:Program}{w:World}{M:Model}{A:Around}{E':Value->Shared->Prop}{s:Shared}{env:Env}{outer:List Env}{L e:Addr}{cls:Value}{base h₀:Heap}{H:Hp}{Q:Unit->Shared->Prop}
def l5 {h h':Heap}(hok:jS P w H h)(k:∀b o,h.get? b=some o->(∃u,H b=some u)->h'.get? b=some o):jS P w H h':=λa o ha=>
 (hok a o ha).stay (λb u hb q=>k b u q (hb.elim (λz=>⟨o,by rw[z];exact ha⟩) λz=>⟨_,z⟩)) (λ_ q=>q) λ_ _ q=>q
def Bl (hfr:A.frames=some (env :: outer))(hf:env.frame=some L)(hfn:s.heap.FunFrames base (env :: outer))(hok:jS P w H s.heap)(hff:∀b∈dD (env :: outer),H b=none)(Ly:Lies h₀ H s.heap e cls)(hex:∀b o,h₀.get? b=some o->∃o',s.heap.get? b=some o')
  (hQ:∀h',(∀b o,s.heap.get? b=some o->b∉dD (env :: outer)->((∃o0,h₀.get? b=some o0)\/∃u,H b=some u)->h'.get? b=some o)->(∀b o,s.heap.get? b=some o->b∈dD (env :: outer)->∃sl,h'.get? b=some {o with slots:=sl})->Lies h₀ H h' e cls->jS P w H h'->Q () {s with heap:=h'}) :
  wpAny M A (leaving env (.ref e)) Q E' s:=by
 obtain⟨fr,nw,T0,rc,hHT,hnT⟩:=Ly
 obtain⟨oe,vs,oT,ts,he,hc,hdd,hd,h1,h2,hTe,hT,hdT,h3⟩:=id rc
 have tF:T0∉dD (env :: outer):=λz=>by
  obtain⟨_,o,q,n⟩:=hfn.mem z
  rw[hT] at q;cases q;exact n _ hdT
 unfold leaving
 refine KO (r6 hfr hfn hf rc λh4 T kp sl tn rc4=>oP rc4 λh5 kp5 rc5=>?_)
 have nT:∀b o,s.heap.get? b=some o->b≠T0->b≠T:=λb o q n z=>by
  rcases tn with tn |tn
  ·rw[z,tn] at q;cases q
  ·exact n (z.trans tn)
 have kept:∀b o,s.heap.get? b=some o->b∉dD (env :: outer)->((∃o0,h₀.get? b=some o0)\/∃u,H b=some u)->h5.get? b=some o:=λb o q hb hor=>by
  have be:b≠e:=λz=>by subst z;rcases hor with⟨_,z⟩ | ⟨_,z⟩ <;> simp_all
  have bT:b≠T0:=λz=>by subst z;rcases hor with⟨_,z⟩ | ⟨_,z⟩ <;> simp_all
  exact kp5 b o (kp b o q hb (by simp[be,bT])) (by simp) (by simp[nT b o q bT])
 have slot:∀b o,s.heap.get? b=some o->b∈dD (env :: outer)->∃sl,h5.get? b=some {o with slots:=sl}:=λb o q hb=>by
  obtain⟨x,q4⟩:=sl b o q hb
  exact⟨x,kp5 b _ q4 (by simp) (by simp[nT b o q λz=>tF (z▸hb)])⟩
 have fresh:H T=none/\h₀.get? T=none:=by
  rcases tn with tn |tn
  ·refine⟨?_,?_⟩
   ·cases q:H T with
    |none=>rfl
    |some u=>obtain⟨o,qo⟩:=(hok T u q).there;rw[tn] at qo;cases qo
   ·cases q:h₀.get? T with
    |none=>rfl
    |some u=>obtain⟨o,qo⟩:=hex T u q;rw[tn] at qo;cases qo
  ·rw[tn];exact⟨hHT,hnT⟩
 refine hQ h5 kept slot ⟨fr,nw,T,rc5,fresh.1,fresh.2⟩ (l5 hok λb o q hu=>kept b o q (λz=>?_) (.inr hu))
 obtain⟨u,hu⟩:=hu
 rw[hff b z] at hu;cases hu
def xD {h:Heap}{args:List Value}(hfr:A.frames=some (env :: outer))(hf:env.frame=some L)(hfn:h.FunFrames base (env :: outer))(hok:jS P w H h)(hff:∀b∈dD (env :: outer),H b=none)(hex:∀b o,h₀.get? b=some o->∃o',h.get? b=some o')(hx:Heap.MadeExcOf h s.heap e cls args)
  (hQ:∀h',(∀b o,h.get? b=some o->b∉dD (env :: outer)->h'.get? b=some o)->(∀b o,h.get? b=some o->b∈dD (env :: outer)->∃sl,h'.get? b=some {o with slots:=sl})->Lies h₀ H h' e cls->jS P w H h'->Q () {s with heap:=h'}) :
  wpAny M A (leaving env (.ref e)) Q E' s:=by
 obtain⟨t,he,_,_⟩:=hx.there
 unfold leaving
 refine KO (xH (cls:=cls) hfr (hfn.of_keeps λb o q _=>⟨o,hx.keeps b o q,rfl⟩) hf he rfl rfl rfl rfl rfl λh4 T kp sl tn rc4=>oP rc4 λh5 kp5 rc5=>?_)
 have ne:∀b o,h.get? b=some o->b≠e:=λb o q z=>by rw[z,hx.new] at q;cases q
 have nT:∀b o,h.get? b=some o->b≠T:=λb o q z=>by
  have:=hx.keeps b o q
  rw[z,tn] at this;cases this
 have kept:∀b o,h.get? b=some o->b∉dD (env :: outer)->h5.get? b=some o:=λb o q hb=>kp5 b o (kp b o (hx.keeps b o q) hb (by simp[ne b o q])) (by simp) (by simp[nT b o q])
 have slot:∀b o,h.get? b=some o->b∈dD (env :: outer)->∃sl,h5.get? b=some {o with slots:=sl}:=λb o q hb=>by
  obtain⟨x,q4⟩:=sl b o (hx.keeps b o q) hb
  exact⟨x,kp5 b _ q4 (by simp) (by simp[nT b o q])⟩
 have fresh:∀{b:Addr},h.get? b=none->H b=none/\h₀.get? b=none:=λ{b} hb=>by
  refine⟨?_,?_⟩
  ·cases q:H b with
   |none=>rfl
   |some u=>obtain⟨o,qo⟩:=(hok b u q).there;rw[hb] at qo;cases qo
  ·cases q:h₀.get? b with
   |none=>rfl
   |some u=>obtain⟨o,qo⟩:=hex b u q;rw[hb] at qo;cases qo
 have no:h.get? T=none:=by
  cases q:h.get? T with
  |none=>rfl
  |some o=>exact absurd rfl (nT T o q)
 obtain⟨f1,f2⟩:=fresh hx.new
 obtain⟨g1,g2⟩:=fresh no
 refine hQ h5 kept slot ⟨f1,f2,T,rc5,g1,g2⟩ (l5 hok λb o q hu=>kept b o q λz=>?_)
 obtain⟨u,hu⟩:=hu
 rw[hff b z] at hu;cases hu
end
section
variable {P:Program}{w:World}{K:Frag}{mg:Str->Option Value}{base:Heap}{N:List Str}{qual:Str}{scope:Scope}{f:Addr}{cd:Value}{A:Around}{outer:List Env}{s0:Shared}{H0:Hp}{E:XK}
def aN:Passes (mq P w) (jX (mq P w) P w K mg base N qual scope f cd A outer s0 H0 E) E:=by
 intro pins σ H s e s' I hcx
 obtain⟨ea,cls,H',rfl,os,bare,un,hok,Ly,q⟩:=hcx
 have I':=I.call' os un hok bare (λb hb=>absurd hb (by simp))
 have old:∀{b:Addr},s.heap.get? b=none->s0.heap.get? b=none:=λ{b} hb=>by
  cases z:s0.heap.get? b with
  |none=>rfl
  |some o=>obtain⟨o',z'⟩:=I.base.there b o z (show b∉([]:List Addr) by simp);rw[hb] at z';cases z'
 have Ly0:Lies s0.heap H' s'.heap ea cls:=by
  obtain⟨fr,nw,T,rc,hHT,hnT⟩:=Ly
  exact⟨fr,old nw,T,rc,hHT,old hnT⟩
 have above:s0.heap.objs.size<=(envOfC qual scope s0.heap.objs.size f cd).locals:=I.ok.above
 refine Bl (base:=base) (h₀:=s0.heap) I'.ok.frames rfl I'.stack I'.hok I'.stkFree Ly0 (λb o z=>I'.base.there b o z (show b∉([]:List Addr) by simp)) λh' kept slot Ly' hok'=>?_
 have nL:∀{b:Addr} {o:Obj},s0.heap.get? b=some o->b∉dD outer->b∉dD (envOfC qual scope s0.heap.objs.size f cd :: outer):=λ{b o} z hb hm=>by
  rcases KZ.mp (I'.stkSub b hm) with e |e
  ·have:=KY z
   rw[e] at this
   exact absurd (Lj this above) (Ln _)
  ·exact hb e
 have inn:∀{b:Addr},b∈dD outer->b∈dD (envOfC qual scope s0.heap.objs.size f cd :: outer):=λ{b} hb=>by
  obtain⟨en,h1,h2⟩:=L7.mp hb
  exact L7.mpr ⟨en,KW _ h1,h2⟩
 refine⟨ea,cls,H',rfl,os.trans I.os,bare,⟨λb o z n hb _=>?_,λb o z n hb _=>?_,λb o z n _=>I'.base.free b o z n (show b∉([]:List Addr) by simp),λb o z _=>?_,I'.base.tups,I'.base.frzs,I'.base.tbls⟩,hok',Ly',q⟩
 ·exact kept b o (I'.base.keep b o z n hb (show b∉([]:List Addr) by simp)) (nL z hb) (.inl ⟨o,z⟩)
 ·obtain⟨sl,z1⟩:=I'.base.slot b o z n hb (show b∉([]:List Addr) by simp)
  obtain⟨sl2,z2⟩:=slot b _ z1 (inn hb)
  exact⟨sl2,z2⟩
 ·obtain⟨o',z1⟩:=I'.base.there b o z (show b∉([]:List Addr) by simp)
  by_cases hb:b∈dD (envOfC qual scope s0.heap.objs.size f cd :: outer)
  ·obtain⟨sl,z2⟩:=slot b o' z1 hb
   exact⟨_,z2⟩
  ·exact⟨o',kept b o' z1 hb (.inl ⟨o,z⟩)⟩
def Fy (C:Addr)(E:XK)(t:TA):TS:=λ_ σ H=>t σ H λvs H1=>vs.length<=sizeLine/\E (.ref C) none H1
def Bd {x:Str}{C:Addr}{np cpos pos:Pos}{e0:Expr}{es:List Expr}{t:TA}{Bn newId initId:String}{bmB:List Value}(FB:ExcBaseFacts Bn newId initId bmB)(hbb:bmB.contains (.type "BaseException")=true)(q:PySem.W.excIn K C bmB newId=true)
  (hg:Gl (jX (mq P w) P w K mg base N qual scope f cd A outer s0 H0 E) x) (hm:mg x=some (.ref C)) (ha:PA (jX (mq P w) P w K mg base N qual scope f cd A outer s0 H0 E) (e0 :: es) t)
  (he:starEach (e0 :: es) (envOfC qual scope s0.heap.objs.size f cd)=(false,eval e0 (envOfC qual scope s0.heap.objs.size f cd)) :: starEach es (envOfC qual scope s0.heap.objs.size f cd):=by rfl)
  (hpl:(backTo cpos (starEach es (envOfC qual scope s0.heap.objs.size f cd))).any (·.1)=false:=by rfl) (hdb:(x == ("__debug__":Str))=false:=by decide) :
  PS (jX (mq P w) P w K mg base N qual scope f cd A outer s0 H0 E) (.Raise (some (.Call (.Name x np) (e0 :: es) [] cpos)) none pos) (Fy C E t):=by
 intro pins s σ H D I h
 have own:∀{hh:Heap},K.In hh->∃bm Nn nm qn bs hdct sn sub ab col dd k0 k1 k2 k3 k5 mN,hh.get? C=some (excClassObj nm qn C Nn bs bm hdct sn sub ab col dd k0 k1 k2 k3 k5 newId)/\hh.Ns Nn mN/\mN "__init__"=none/\OwnTail hh bmB bm:=λ{hh} X=>by
  have q:=q
  unfold PySem.W.excIn at q
  split at q
  ·rename_i dd cdd sl ho
   split at q
   ·rename_i C' bm k0 k1 k2 k3 n k5 hm hs
    simp only[LB,beq_iff_eq,Nc] at q
    obtain⟨⟨⟨⟨⟨rfl,rfl⟩,hdel⟩,ht⟩,hok⟩,hni⟩:=q
    obtain⟨nm,bs,mro,ns,qn,hd,sn,sub,ab,col,del⟩:=cdd
    dsimp only at hm hdel hok hni
    subst hm hdel
    have hsl:sl=#[k0,k1,k2,k3,some (.builtin n),k5]:=by
     obtain⟨l⟩:=sl
     simp only at hs
     rw[hs]
    subst hsl
    exact⟨bm,ns,nm,qn,bs,hd,sn,sub,ab,col,dd,k0,k1,k2,k3,k5,_,X _ _ ho,.of_isNs (PySem.W.isNs_of_in X hok),PySem.W.nsMap_none_of_in X hok hni,PySem.W.tail_of_in X ht⟩
   ·cases q
  ·cases q
 obtain⟨bm,Nn,nm,qn,bs,hdct,sn,sub,ab,col,dd,k0,k1,k2,k3,k5,mN,hC,hN,hni,TL⟩:=own I.ok.mod.kin
 have hA:=ha cpos pins s σ H _ I h
 refine wpAny_Raise_call_subT (C:=C) (nm:=nm) (q:=qn) (N:=Nn) (bs:=bs) (bm:=bm) (hdct:=hdct) (sn:=sn) (sub:=sub) (ab:=ab) (col:=col) (dd:=dd) (k0:=k0) (k1:=k1) (k2:=k2) (k3:=k3) (k5:=k5) FB (mN:=mN) (TL.hasType hbb) (I.ok.hd rfl) ?_ hni (mw I hg hm ⟨rfl,?_⟩ hdb)
 ·show (backTo cpos (starEach (e0 :: es) (envOfC qual scope s0.heap.objs.size f cd))).any (·.1)=false
  rw[he]
  show (false || (backTo cpos (starEach es (envOfC qual scope s0.heap.objs.size f cd))).any (·.1))=false
  rw[hpl];rfl
 have hA:wpAny _ _ (spliced (backTo cpos (starEach (e0 :: es) (envOfC qual scope s0.heap.objs.size f cd)))) _ _ s:=hA
 show wpAny _ _ (evalArgs (.ref C) true (backTo cpos (starEach (e0 :: es) (envOfC qual scope s0.heap.objs.size f cd))) []) _ _ s
 rw[he] at hA ⊢
 refine Calls.evalArgs_plain (cq hA λus s2 ⟨vs,H2,I2,r2,hl2,q2⟩=>⟨rfl,by show us.length<=_;rw[<-r2.length];exact hl2,I2.bk _ _ hC,hN.keeps I2.bk,TL.keeps I2.bk,λh' e hx=>?_⟩)
 have above:s0.heap.objs.size<=(envOfC qual scope s0.heap.objs.size f cd).locals:=I2.ok.above
 have nil:∀b:Addr,b∉([]:List Addr):=λb=>by simp
 refine xD (s:={s2 with heap:=h'}) (h:=s2.heap) (base:=base) (h₀:=s0.heap) I2.ok.frames rfl I2.stack I2.hok I2.stkFree (λb o z=>I2.base.there b o z (nil b)) hx λh2 kept slot Ly hok=>?_
 have nL:∀{b:Addr} {o:Obj},s0.heap.get? b=some o->b∉dD outer->b∉dD (envOfC qual scope s0.heap.objs.size f cd :: outer):=λ{b o} z hb hm=>by
  rcases KZ.mp (I2.stkSub b hm) with e |e
  ·have:=KY z
   rw[e] at this
   exact absurd (Lj this above) (Ln _)
  ·exact hb e
 have inn:∀{b:Addr},b∈dD outer->b∈dD (envOfC qual scope s0.heap.objs.size f cd :: outer):=λ{b} hb=>by
  obtain⟨en,h1,h2⟩:=L7.mp hb
  exact L7.mpr ⟨en,KW _ h1,h2⟩
 refine⟨e,.ref C,H2,rfl,I2.os,I2.bare,⟨λb o z n hb _=>?_,λb o z n hb _=>?_,λb o z n _=>I2.base.free b o z n (nil b),λb o z _=>?_,I2.base.tups,I2.base.frzs,I2.base.tbls⟩,hok,Ly,q2⟩
 ·exact kept b o (I2.base.keep b o z n hb (nil b)) (nL z hb)
 ·obtain⟨sl,z1⟩:=I2.base.slot b o z n hb (nil b)
  obtain⟨sl2,z2⟩:=slot b _ z1 (inn hb)
  exact⟨sl2,z2⟩
 ·obtain⟨o',z1⟩:=I2.base.there b o z (nil b)
  by_cases hb:b∈dD (envOfC qual scope s0.heap.objs.size f cd :: outer)
  ·obtain⟨sl,z2⟩:=slot b o' z1 hb
   exact⟨_,z2⟩
  ·exact⟨o',kept b o' z1 hb⟩
end
section
variable {X:Cx}{pins:List (Addr×Obj)}{σ:St}{H:Hp}{s:Shared}{h':Heap}{e T:Addr}{oe oT:Obj}{vs ts:Array Value}
def Inv.exc {tk:Nat}(I:Inv X pins σ H s)(hex:X.ex= [])(he:s.heap.get? e=some oe)(hd:oe.data=.fields vs)(hT:s.heap.get? T=some oT)(hdT:oT.data=.fields ts)(n1:X.s₀.heap.get? e=none)(n2:X.s₀.heap.get? T=none)(pn:∀p∈X.pn ++ pins,p.1≠e/\p.1≠T)
  (kept:∀b o,s.heap.get? b=some o->b∉dD X.stack->b≠e->b≠T->h'.get? b=some o) (slot:∀b o,s.heap.get? b=some o->b∈dD X.stack->∃sl,h'.get? b=some {o with slots:=sl}) (hok:jS X.prog X.w H h') :
  Inv X pins σ H {s with heap:=h',toks:=tk}:=by
 have nil:∀b:Addr,b∉X.ex:=λb=>by rw[hex];simp
 have any:∀b o,s.heap.get? b=some o->(∀ws,o.data≠.fields ws)->∃sl,h'.get? b=some {o with slots:=sl}:=λb o q n=>by
  by_cases hb:b∈dD X.stack
  ·exact slot b o q hb
  ·refine⟨o.slots,kept b o q hb (λz=>?_) λz=>?_⟩
   ·rw[z,he] at q;cases q;exact n _ hd
   ·rw[z,hT] at q;cases q;exact n _ hdT
 have cellK:∀{c:Addr} {v:Option Value},s.heap.IsCell c v->h'.IsCell c v:=λ{c v} ⟨o,ho,hdc⟩=>by
  obtain⟨sl,q⟩:=any c o ho λws z=>by rw[hdc] at z;cases z
  exact⟨_,q,hdc⟩
 have nsub:∀{b:Addr},b≠X.env.locals->b∉X.fs->b∉dD X.stack:=λ{b} h1 h2 hb=>(KZ.mp (I.stkSub b hb)).elim h1 h2
 have neL:∀b o,X.s₀.heap.get? b=some o->b≠X.env.locals:=λb o q=>Lr (Lj (KY q) I.ok.above)
 have ne2:∀b o,X.s₀.heap.get? b=some o->b≠e/\b≠T:=λb o q=>⟨λz=>by (rw[z,n1] at q;cases q),λz=>by (rw[z,n2] at q;cases q)⟩
 refine⟨I.ok,I.os,I.bare,⟨λb o q n hb hx=>?_,λb o q n hb hx=>?_,I.base.free,λb o q hx=>?_,I.base.tups,I.base.frzs,I.base.tbls⟩,?_,λx c q=>?_,I.free,I.freeC,λp hp=>?_,hok,I.len⟩
 ·exact kept b o (I.base.keep b o q n hb hx) (nsub (neL b o q) hb) (ne2 b o q).1 (ne2 b o q).2
 ·obtain⟨sl,q1⟩:=I.base.slot b o q n hb hx
  by_cases hs:b∈dD X.stack
  ·obtain⟨sl2,q2⟩:=slot b _ q1 hs
   exact⟨sl2,q2⟩
  ·exact⟨sl,kept b _ q1 hs (ne2 b o q).1 (ne2 b o q).2⟩
 ·obtain⟨o',q1⟩:=I.base.there b o q hx
  by_cases hs:b∈dD X.stack
  ·obtain⟨sl2,q2⟩:=slot b _ q1 hs
   exact⟨_,q2⟩
  ·exact⟨o',kept b _ q1 hs (ne2 b o q).1 (ne2 b o q).2⟩
 ·obtain⟨m,⟨o,es,ep,ho,hdd,r⟩,hl⟩:=I.loc
  obtain⟨sl,q⟩:=any _ o ho λws z=>by rw[hdd] at z;cases z
  refine⟨m,⟨_,es,ep,q,hdd,r⟩,λi x v e1 e2 e3=>?_⟩
  obtain⟨u,r',l⟩:=hl i x v e1 e2 e3
  refine⟨u,r',?_⟩
  rcases l with l | ⟨k,c,q,z⟩
  ·exact .inl l
  ·exact .inr ⟨k,c,q,cellK z⟩
 ·obtain⟨v,z⟩:=I.cell x c q
  exact⟨v,cellK z⟩
 ·obtain⟨q,n,ne,nf,d⟩:=I.pin p hp
  exact⟨kept p.1 p.2 q (nsub ne nf) (pn p hp).1 (pn p hp).2,n,ne,nf,d⟩
def iN (e:Addr)(cls:Value)(h:Heap):Prop:=∃o vs,h.get? e=some o/\o.cls=cls/\o.dict=none/\o.data=.fields vs/\vs[2]? =some .none
def Rc.isExc {h:Heap}{e T:Addr}{cls fl:Value}(r:Rc h e cls T fl):iN e cls h:=let ⟨oe,vs,_,_,a,b,c,d,_,f,_⟩:=r;⟨oe,vs,a,b,c,d,f⟩
def Inv.track {cls:Value}(I:Inv X pins σ H s)(he:iN e cls s.heap)(hn:H e=none)(n1:X.s₀.heap.get? e=none)(hL:e≠X.env.locals)(hc:∀x c,X.env.cells.lookup x=some c->c≠e)(pn:∀p∈X.pn ++ pins,p.1≠e) :
  Inv X pins σ (upd H e (.ext (iN e cls))) s:=by
 have un:∀{b:Addr},b≠e->upd H e (.ext (iN e cls)) b=H b:=λ{b} z=>aI z
 have keepT:∀{b:Addr} {o:HO},H b=some o->upd H e (.ext (iN e cls)) b=some o:=λ{b o} q=>by rw[un (aM q hn)];exact q
 refine⟨I.ok,I.os,I.bare,⟨I.base.keep,I.base.slot,λb o q n hx=>?_,I.base.there,λb xs q=>keepT (I.base.tups b xs q),λb o u q=>keepT (I.base.frzs b o u q),λb ps q=>?_⟩,I.loc,I.cell,?_,λx c q=>?_,λp hp=>?_,λa o ha=>?_,I.len⟩
 ·rw[un (λz=>by rw[z,n1] at q;cases q)];exact I.base.free b o q n hx
 ·obtain⟨m,q1⟩:=I.base.tbls b ps q
  exact⟨m,keepT q1⟩
 ·rw[un hL.symm];exact I.free
 ·rw[un (hc x c q)];exact I.freeC x c q
 ·obtain⟨q,n,ne,nf,d⟩:=I.pin p hp
  exact⟨q,by rw[un (pn p hp)];exact n,ne,nf,d⟩
 ·by_cases z:a=e
  ·subst z
   rw[az] at ha
   cases ha
   obtain⟨o,vs,q,c⟩:=he
   exact⟨⟨o,vs,q,c⟩,⟨o,q⟩,λh1 h2 ⟨o1,v1,q1,c1⟩ k=>⟨o1,v1,k o1 q1,c1⟩⟩
  ·rw[un z] at ha
   exact (I.hok a o ha).stay (λb u _ q=>q) (λb q=>keepT q) λb xs q=>q.imp keepT λ⟨o,q⟩=>⟨o,keepT q⟩
def zz {M:Model}{A:Around}{E:Value->Shared->Prop}{i:Nat}{x:Str}{v:V}{Q:Unit->Shared->Prop}(I:Inv X pins σ H s)(hN:X.N.Nodup)(hi:X.N[i]? =some x)(hk:X.env.scope.names.lookup x=some .local)(hv:σ[i]? =some (some v))
  (h:∀s',Inv X pins (σ.set i none) H s'->Q () s'):wpAny M A (unbindName X.env x) Q E s:=by
 obtain⟨m,hn,hl⟩:=id I.loc
 have hcls:(X.env.scope.kind == .class || (X.env.scope.kind == .module && X.env.locals != X.env.globals))=false:=by rw[I.ok.kind];rfl
 obtain⟨u,_,look⟩:=hl i x v hi hv (.inl hk)
 have hm:m x=some u:=by
  rcases look with⟨_,q⟩ | ⟨k,_⟩
  ·exact q
  ·have hk':X.env.kindOf x=some .local:=hk
   rw[hk'] at k
   rcases k with k |k <;> cases k
 refine wpAny_unbindName_local hk hn hm hcls λh' u' hn' hs=>?_
 obtain⟨oL,_,_,hoL,_⟩:=id hn
 have same:∀{b:Addr} {o:Obj},b≠X.env.locals->s.heap.get? b=some o->h'.get? b=some o:=λ{b o} z q=>(hs.2 b z).trans q
 have neL:∀{b:Addr} {o:Obj},X.s₀.heap.get? b=some o->b≠X.env.locals:=λ{b o} q=>Lr (Lj (KY q) I.ok.above)
 have hok:jS X.prog X.w H h':=l5 I.hok λb o q hu=>same (λz=>by obtain⟨w',hw⟩:=hu;rw[z,I.free] at hw;cases hw) q
 refine h _ ⟨I.ok,I.os,I.bare,⟨λb o q n hb hx=>same (neL q) (I.base.keep b o q n hb hx),λb o q n hb hx=>?_,I.base.free,λb o q hx=>?_,I.base.tups,I.base.frzs,I.base.tbls⟩,⟨_,hn',λj y v' e1 e2 e3=>?_⟩,λy c q=>?_,I.free,I.freeC,λp hp=>?_,hok,by simpa using I.len⟩
 ·obtain⟨sl,q1⟩:=I.base.slot b o q n hb hx
  exact⟨sl,same (neL q) q1⟩
 ·obtain⟨o',q1⟩:=I.base.there b o q hx
  exact⟨o',same (neL q) q1⟩
 ·by_cases hj:j=i
  ·subst hj
   rw[K4 (by rw[I.len];exact (Ld.mp hi).1)] at e2
   cases e2
  ·rw[K5 (Ne.symm hj)] at e2
   obtain⟨u2,r',q⟩:=hl j y v' e1 e2 e3
   refine⟨u2,r',?_⟩
   rcases q with⟨k,q⟩ | ⟨k,c,q,z⟩
   ·have:y≠x:=λz=>hj (pV hN e1 (z▸hi))
    exact .inl ⟨k,by simp[this,q]⟩
   ·exact .inr ⟨k,c,q,z.sameBut hs (I.cne y c q)⟩
 ·obtain⟨w',z⟩:=I.cell y c q
  exact⟨w',z.sameBut hs (I.cne y c q)⟩
 ·obtain⟨q,n,ne,nf,d⟩:=I.pin p hp
  exact⟨same ne q,n,ne,nf,d⟩
end
def yb (bmB:List Value)(newId:String)(C:Addr)(bm:List Value)(h:Heap):Prop:=∃Nn nm qn bs hdct sn sub ab col dd k0 k1 k2 k3 k5,h.get? C=some (excClassObj nm qn C Nn bs bm hdct sn sub ab col dd k0 k1 k2 k3 k5 newId)/\OwnTail h bmB bm
def mroIn (K:Frag)(C:Addr):List Value:=match K.lookup C with
 |some ⟨_,_,.cls cd,_⟩=>cd.mro
 |_=>[]
def yX {K:Frag}{C:Addr}{bmB:List Value}{newId:String}(q:PySem.W.excIn K C bmB newId=true):∃bm,mroIn K C=.ref C :: bm/\∀{h:Heap},K.In h->yb bmB newId C bm h:=by
 have q0:=q
 unfold PySem.W.excIn at q
 split at q
 ·rename_i dd cdd sl ho
  split at q
  ·rename_i C' bm k0 k1 k2 k3 n k5 hm hs
   simp only[LB,beq_iff_eq,Nc] at q
   obtain⟨⟨⟨⟨⟨rfl,rfl⟩,hdel⟩,ht⟩,hok⟩,hni⟩:=q
   refine⟨bm,by unfold mroIn;rw[ho];exact hm,λ{h} X=>?_⟩
   obtain⟨nm,bs,mro,ns,qn,hd,sn,sub,ab,col,del⟩:=cdd
   dsimp only at hm hdel hok hni
   subst hm hdel
   have hsl:sl=#[k0,k1,k2,k3,some (.builtin n),k5]:=by
    obtain⟨l⟩:=sl
    simp only at hs
    rw[hs]
   subst hsl
   exact⟨ns,nm,qn,bs,hd,sn,sub,ab,col,dd,k0,k1,k2,k3,k5,X _ _ ho,PySem.W.tail_of_in X ht⟩
  ·cases q
 ·cases q
def CJ {M:Model}{A:Around}{E:Value->Shared->Prop}{s:Shared}{Q:Bool->Shared->Prop}{C D e:Addr}{oe:Obj}{bm bmD bmB bmB2:List Value}{nC nD:String}(oC:yb bmB nC C bm s.heap)(oD:yb bmB2 nD D bmD s.heap)(he:s.heap.get? e=some oe)(hcls:oe.cls=.ref C)
  (hb:bmB2.contains (.type "BaseException")=true) (hup:(Value.ref C :: bm).contains (.ref D)=true) (hq:Q true s):wpAny M A (excMatches (.ref e) (.ref D)) Q E s:=by
 obtain⟨N1,nm1,qn1,bs1,hd1,sn1,sub1,ab1,col1,dd1,a0,a1,a2,a3,a5,hC,TC⟩:=oC
 obtain⟨N2,nm2,qn2,bs2,hd2,sn2,sub2,ab2,col2,dd2,b0,b1,b2,b3,b5,hD,TD⟩:=oD
 have hcB:(Value.ref D :: bmD).contains (.type "BaseException")=true:=by rw[List.contains_cons,TD.hasType hb,Bool.or_true]
 have f:=tc_notTuple
 obtain⟨h,g,d,t,os⟩:=s
 unfold excMatches
 repeat (first
  | (with_reducible refine wpAny_loadPart_at he ?_;rw[hcls])
  |with_reducible refine wpAny_loadPart_at hD ?_
  | (with_reducible refine wpAny_isSubtype_exc hD ?_;rw[hcB])
  | (with_reducible refine wpAny_isSubtype_exc hC ?_;rw[hup])
  |wp_step)
 exact hq
def Mt (K:Frag)(cls:Value)(D:Addr):Prop:=∀{M:Model} {A:Around} {E:Value->Shared->Prop} {s:Shared} {Q:Bool->Shared->Prop} {e:Addr} {oe:Obj},K.In s.heap->s.heap.get? e=some oe->oe.cls=cls->Q true s->wpAny M A (excMatches (.ref e) (.ref D)) Q E s
def HP {K:Frag}{C D:Addr}{bmB bmB2:List Value}{nC nD:String}(qC:PySem.W.excIn K C bmB nC=true)(qD:PySem.W.excIn K D bmB2 nD=true)(hb:bmB2.contains (.type "BaseException")=true)(hup:(mroIn K C).contains (.ref D)=true):Mt K (.ref C) D:=by
 intro M A E s Q e oe X he hc hq
 obtain⟨bm,e1,o1⟩:=yX qC
 obtain⟨bmD,e2,o2⟩:=yX qD
 rw[e1] at hup
 exact CJ (o1 X) (o2 X) he hc hb hup hq
abbrev Cx.inTry (X:Cx)(Ex:Value->Shared->Prop)(pn:List (Addr×Obj)):Cx:={X with xe:=Ex,pn:=pn}
abbrev Cx.inEx (X:Cx)(e:Addr):Cx:={X with A:=X.A.mark (some (.ref e)),calm:=false,xe:=λ_ _=>False}
section
variable {X:Cx}{pins:List (Addr×Obj)}{σ:St}{H:Hp}{s:Shared}
def Inv.toTry (I:Inv X pins σ H s)(Ex:Value->Shared->Prop):Inv (X.inTry Ex (X.pn ++ pins)) [] σ H s:=
 ⟨⟨I.ok.mod,I.ok.kind,I.ok.glob,I.ok.blt,I.ok.above,I.ok.inj,I.ok.has,I.ok.cab,I.ok.hd,I.ok.frames,I.ok.stk,I.ok.exf,I.ok.bs,I.ok.bsz,I.ok.noex,I.ok.exfs,I.ok.funs,I.ok.frf⟩,I.os,I.bare,I.base,I.loc,I.cell,I.free,I.freeC,λp hp=>I.pin p (by simpa using hp),I.hok,I.len⟩
def Inv.ofTry {Ex:Value->Shared->Prop}{pins2:List (Addr×Obj)}(I:Inv (X.inTry Ex (X.pn ++ pins)) pins2 σ H s):Inv X pins σ H s:=
 ⟨⟨I.ok.mod,I.ok.kind,I.ok.glob,I.ok.blt,I.ok.above,I.ok.inj,I.ok.has,I.ok.cab,I.ok.hd,I.ok.frames,I.ok.stk,I.ok.exf,I.ok.bs,I.ok.bsz,I.ok.noex,I.ok.exfs,I.ok.funs,I.ok.frf⟩,I.os,I.bare,I.base,I.loc,I.cell,I.free,I.freeC,λp hp=>I.pin p (Mr _ hp),I.hok,I.len⟩
def Inv.toEx (I:Inv X pins σ H s)(e:Addr):Inv (X.inEx e) pins σ H s:=
 ⟨⟨I.ok.mod,I.ok.kind,I.ok.glob,I.ok.blt,I.ok.above,I.ok.inj,I.ok.has,I.ok.cab,λz=>absurd z Lh,I.ok.frames,I.ok.stk,I.ok.exf,I.ok.bs,I.ok.bsz,I.ok.noex,I.ok.exfs,I.ok.funs,I.ok.frf⟩,I.os,I.bare,I.base,I.loc,I.cell,I.free,I.freeC,I.pin,I.hok,I.len⟩
def Inv.ofEx {e:Addr}(ok:X.Ok)(I:Inv (X.inEx e) pins σ H s):Inv X pins σ H s:=
 ⟨ok,I.os,I.bare,I.base,I.loc,I.cell,I.free,I.freeC,I.pin,I.hok,I.len⟩
theorem SP.ofTry {Ex:Value->Shared->Prop}{D:Ends}{f:Flow}{s':Shared}(h:SP (X.inTry Ex (X.pn ++ pins)) [] D f s'):SP X pins D f s':=by
 cases f with
 |next=>obtain⟨σ',H',I,q⟩:=h;exact⟨σ',H',I.ofTry,q⟩
 |brk=>obtain⟨σ',H',I,q⟩:=h;exact⟨σ',H',I.ofTry,q⟩
 |cont=>obtain⟨σ',H',I,q⟩:=h;exact⟨σ',H',I.ofTry,q⟩
 |ret u=>obtain⟨v,σ',H',I,r,q⟩:=h;exact⟨v,σ',H',I.ofTry,r,q⟩
end
def Fi (i:Nat)(D:Ends):Ends:={nx:=λσ H=>D.nx ((σ.set i (some .non)).set i none) H,rt:=D.rt,bk:=λσ H=>D.bk ((σ.set i (some .non)).set i none) H,ct:=λσ H=>D.ct ((σ.set i (some .non)).set i none) H}
def JK (K:Frag)(Dc:Addr)(i len:Nat)(tb:XK->TS)(th:Addr->TS):TS:=λD σ H=>∃Eb:XK,tb Eb D σ H/\∀cls d H',Eb cls d H'->Mt K cls Dc/\∀(ea:Addr) (σ':St),H' ea=none->σ'.length=len->th ea (Fi i D) (σ'.set i (some (.ref ea))) (upd H' ea (.ext (iN ea cls)))
section
variable {X:Cx}
def Ga {n x:Str}{i:Nat}{Dc:Addr}{np hpos pos:Pos}{body suite:List Stmt}{b0:Stmt}{tb:XK->TS}{th:Addr->TS}(hst:X.stack=X.env :: X.outer)(hfr:X.env.frame=some X.env.locals)(hex:X.ex= [])
  (hb:∀Eb Ex pn,Passes (mq X.prog X.w) (X.inTry Ex pn) Eb->oB (X.inTry Ex pn) body (tb Eb)) (hs:∀e,oB (X.inEx e) (b0 :: suite) (th e)) (hg:Gl X x) (hm:X.mg x=some (.ref Dc)) (hN:X.N.Nodup) (hi:X.N[i]? =some n) (hk:X.env.scope.names.lookup n=some .local)
  (hdb:(x == ("__debug__":Str))=false:=by decide) :
  PS X (.Try body [.ExceptHandler (some (.Name x np)) (some n) (b0 :: suite) hpos] [] [] pos) (JK X.K Dc i X.N.length tb th):=by
 intro pins s σ H D I h
 obtain⟨Eb,h1,h2⟩:=h
 refine wpAny_Try_except ?_
 refine LR (hb Eb (λe s₁=>wpAny (model X.prog X.w) X.A (noteFrame e X.env) (λ_ s₂=>wpAny (model X.prog X.w) X.A (setFlight e none) (λ_ s₃=>wpAny (model X.prog X.w) X.A (handleBy e X.env [.ExceptHandler (some (.Name x np)) (some n) (b0 :: suite) hpos]) (SP X pins D) X.xe s₃) X.xe s₂) X.xe s₁) (X.pn ++ pins) ?_ [] s σ H D (I.toTry _) h1) (λf s1 q=>?_) λe s1 q=>q
 ·intro pins2 σ2 H2 s2 e s3 I2 hcx
  obtain⟨ea,cls,H',rfl,os,bare,un,hok,Ly,q⟩:=hcx
  have I3:Inv X pins σ2 H' s3:=(I2.call' os un hok bare (λb hb=>absurd hb (by simp))).ofTry
  have I2':Inv X pins σ2 H2 s2:=I2.ofTry
  have nil:∀b:Addr,b∉X.ex:=λb=>by rw[hex];simp
  obtain⟨mt,hth⟩:=h2 cls none H' q
  obtain⟨fr,nw,T,rc,hHT,hnT⟩:=Ly
  obtain⟨oe,vs,oT,ts,he,hc,hdd,hd,hv1,hv2,hTe,hT,hdT,hv3⟩:=id rc
  have old:∀{b:Addr},s2.heap.get? b=none->X.s₀.heap.get? b=none:=λ{b} hb=>by
   cases z:X.s₀.heap.get? b with
   |none=>rfl
   |some o=>obtain⟨o',z'⟩:=I2'.base.there b o z (nil b);rw[hb] at z';cases z'
  have hpn:∀p∈X.pn ++ pins,p.1≠ea/\p.1≠T:=λp hp=>by
   have:=(I2'.pin p hp).1
   exact⟨λz=>by (rw[z,nw] at this;cases this),λz=>by (rw[z,hnT] at this;cases this)⟩
  have hfn:=I3.stack
  have mem:∀{b:Addr},b∈dD X.stack->∃o,s3.heap.get? b=some o/\∀ws,o.data≠.fields ws:=λ{b} hb=>(hfn.mem hb).2
  have tF:T∉dD X.stack:=λz=>by
   obtain⟨o,q,n⟩:=mem z
   rw[hT] at q;cases q;exact n _ hdT
  have hfn':s3.heap.FunFrames X.base (X.env :: X.outer):=by rw[<-hst];exact hfn
  have step:∀{h':Heap} {tk:Nat},Keeps (dD X.stack) [ea,T] s3.heap h'->Slots (dD X.stack) s3.heap h'->Inv X pins σ2 H' {s3 with heap:=h',toks:=tk}:=λ{h' tk} kp sl=>by
   have kept:∀b o,s3.heap.get? b=some o->b∉dD X.stack->b≠ea->b≠T->h'.get? b=some o:=λb o q hb n1 n2=>kp b o q hb (by simp[n1,n2])
   refine I3.exc hex he hd hT hdT (old nw) (old hnT) hpn kept sl (l5 I3.hok λb o q hu=>?_)
   obtain⟨u,hu⟩:=hu
   refine kept b o q (λz=>?_) (λz=>?_) λz=>?_
   ·rw[I3.stkFree b z] at hu;cases hu
   ·rw[z,fr] at hu;cases hu
   ·rw[z,hHT] at hu;cases hu
  have hfr':X.A.frames=some (X.env :: X.outer):=by rw[<-hst];exact I3.ok.frames
  have more:∀{h4 h5:Heap} {T2:Addr},(s3.heap.get? T2=none\/T2=T)->Keeps [] [T2] h4 h5->Keeps (dD X.stack) [ea,T] s3.heap h4->Slots (dD X.stack) s3.heap h4->Keeps (dD X.stack) [ea,T] s3.heap h5/\Slots (dD X.stack) s3.heap h5:=λ{h4 h5 T2} tn k5 kp sl=>by
   have nT:∀b o,s3.heap.get? b=some o->b≠T->b≠T2:=λb o q n z=>by
    rcases tn with tn |tn
    ·rw[z,tn] at q;cases q
    ·exact n (z.trans tn)
   refine⟨λb o q hb hn=>k5 b o (kp b o q hb hn) (by simp) ?_,λb o q hb=>?_⟩
   ·simp only[KZ,not_mem_nil,or_false,not_or] at hn
    simp[nT b o q hn.2]
   ·obtain⟨x,q4⟩:=sl b o q hb
    exact⟨x,k5 b _ q4 (by simp) (by simp[nT b o q λz=>tF (z▸hb)])⟩
  have key:∀{h5:Heap} {T2:Addr},(s3.heap.get? T2=none\/T2=T)->Rc h5 ea cls T2 .none->Keeps (dD X.stack) [ea,T] s3.heap h5->Slots (dD X.stack) s3.heap h5->wpAny (model X.prog X.w) X.A (handleBy (.ref ea) X.env [.ExceptHandler (some (.Name x np)) (some n) (b0 :: suite) hpos]) (SP X pins D) X.xe {s3 with heap:=h5}:=λ{h5 T2} tn rc5 kp5 sl5=>by
   have I5:Inv X pins σ2 H' {s3 with heap:=h5}:=step (tk:=s3.toks) kp5 sl5
   obtain⟨oe5,vs5,he5,hc5,_,_⟩:=rc5.isExc
   refine wpAny_handleBy_cons (codeAny_handlers_test (mw (X:=X.inEx ea) (I5.toEx ea) hg hm ?_ hdb)) (by intro q;cases q)
   refine mt I5.kIn he5 hc5 ?_
   refine codeAny_handlers_suite_as (oP (s:={s3 with heap:=h5}) rc5 λh6 k6 rc6=>?_)
   obtain⟨kp6,sl6⟩:=more tn k6 kp5 sl5
   have I6:Inv X pins σ2 H' {s3 with heap:=h6}:=step (tk:=s3.toks) kp6 sl6
   have eL:ea≠X.env.locals:=λz=>by
    obtain⟨m,⟨o,es,ep,ho,hdd,r⟩,_⟩:=I3.loc
    rw[<-z,he] at ho;cases ho
    rw[hd] at hdd;cases hdd
   have eC:∀y c,X.env.cells.lookup y=some c->c≠ea:=λy c q z=>by
    obtain⟨v,o,ho,hdd⟩:=I3.cell y c q
    rw[z,he] at ho;cases ho
    rw[hd] at hdd;cases hdd
   have I7:=I6.track (cls:=cls) rc6.isExc fr (old nw) eL eC λp hp=>(hpn p hp).1
   refine mO I7 hN hi (.inl hk) (v:=.ref ea) rfl (λs8 I8=>?_) (.inr hk)
   refine LR (hs ea pins s8 _ _ (Fi i D) (I8.toEx ea) (hth ea σ2 fr I3.len)) (λf s9 q9=>?_) λ_ _ z=>z.elim
   have back:∀{σ9:St} {H9:Hp} {Q:Unit->Shared->Prop},Inv (X.inEx ea) pins σ9 H9 s9->(∀s',Inv X pins ((σ9.set i (some .non)).set i none) H9 s'->Q () s')->wpAny (model X.prog X.w) X.A (do bindName X.env n .none;unbindBehindTheSuite X.env n hpos) Q X.xe s9:=λ{σ9 H9 Q} I9 hQ=>by
    refine KO (wpAny_bindName (mO (I9.ofEx I.ok) hN hi (.inl hk) (v:=.non) rfl (λs10 I10=>?_) (.inr hk)))
    have hl:i < σ9.length:=by rw[I9.len];exact (Ld.mp hi).1
    exact wpAny_onRaise (zz (v:=.non) I10 hN hi hk (by rw[K4 hl]) hQ)
   cases f with
   |next=>obtain⟨σ9,H9,I9,q⟩:=q9;exact back I9 λs' I'=>⟨_,H9,I',q⟩
   |brk=>obtain⟨σ9,H9,I9,q⟩:=q9;exact back I9 λs' I'=>⟨_,H9,I',q⟩
   |cont=>obtain⟨σ9,H9,I9,q⟩:=q9;exact back I9 λs' I'=>⟨_,H9,I',q⟩
   |ret u=>obtain⟨v,σ9,H9,I9,r,q⟩:=q9;exact back I9 λs' I'=>⟨v,_,H9,I',r,q⟩
  refine r6 hfr' hfn' hfr rc λh4 T2 kp4 sl4 tn rc4=>oP (s:={s3 with heap:=h4}) rc4 λh5 k5 rc5=>?_
  rw[<-hst] at kp4 sl4
  obtain⟨kp5,sl5⟩:=more tn k5 kp4 sl4
  exact key tn rc5 kp5 sl5
 ·cases f with
  |next=>exact M5 (SP.ofTry q)
  |brk=>exact SP.ofTry q
  |cont=>exact SP.ofTry q
  |ret u=>exact SP.ofTry q
end
structure dO (K:Frag)(mg:Str->Option Value)(x:Str)(st:Stmt)(ps:List Str)(f:Addr)(fd:FuncData):Prop where
 mg:mg x=some (.ref f)
 F:AY K x x st f fd
 b:Binds K fd ps []
structure Exc (K:Frag)(mg:Str->Option Value)(ca:Str->Addr)(x:Str):Prop where
 mg:mg x=some (.ref (ca x))
 ex:PySem.W.excIn K (ca x) [.type "ValueError",.type "Exception",.type "BaseException",.type "object"] "ValueError.__new__"=true
def Exc.ca {K:Frag}{mg:Str->Option Value}{ca:Str->Addr}{x:Str}(h:Exc K mg ca x):ca x=ca x:=rfl
structure dQ (mg:Str->Option Value):Prop where
 len:mg "len"=none
 range:mg "range"=none
 enumerate:mg "enumerate"=none
 zip:mg "zip"=none
 min:mg "min"=none
 max:mg "max"=none
 sum:mg "sum"=none
 abs:mg "abs"=none
 sorted:mg "sorted"=none
 reversed:mg "reversed"=none
 int:mg "int"=none
 str:mg "str"=none
 bool:mg "bool"=none
 list:mg "list"=none
 tuple:mg "tuple"=none
 dict:mg "dict"=none
 set:mg "set"=none
 isinstance:mg "isinstance"=none
 repr:mg "repr"=none
 any:mg "any"=none
 all:mg "all"=none
 divmod:mg "divmod"=none
end L2
namespace L2
open PySem
section
variable {K:Frag}{h:Heap}{mg:Str->Option Value}
theorem qR {α:Type}{P:List α->Prop}(q:∀a,P [a]):∀us:List α,us.length=1->P us
 | [a],_=>q a
theorem ln2 {α:Type}{P:List α->Prop}(q:∀a b,P [a,b]):∀us:List α,us.length=2->P us
 | [a,b],_=>q a b
theorem Ks {α:Type}{P:List α->Prop}(q:∀a b c,P [a,b,c]):∀us:List α,us.length=3->P us
 | [a,b,c],_=>q a b c
def aO (x:Str)(st:Stmt)(ps:List Str):Prop:=∀(kV doc pm:Value) (an:Option Addr) (cdv ct:Value) (us:List Value),us.length=ps.length->bindArgs (PySem.W.fnOf x x (ic st) (bN st) (ak st) .none kV doc pm an cdv ct) ⟨us,[]⟩=pure (ps.zip us)
structure Fo (K:Frag)(mg:Str->Option Value)(x:Str)(st:Stmt)(ps:List Str):Prop where
 ex:∃f fd,dO K mg x st ps f fd
def bb {x:Str}{st:Stmt}{ps:List Str}{f:Addr}{oc:Value}{od an:Option Addr}{sl:Array (Option Value)}{kV doc pm cdv ct:Value}(X:K.In h)(G:h.Ns mainGlobals mg)(b:aO x st ps)(a:PySem.W.nsIn K mainGlobals x=some (some (.ref f)))
  (l:K.lookup f=some ⟨oc,od,.func (PySem.W.fnOf x x (ic st) (bN st) (ak st) .none kV doc pm an cdv ct),sl⟩) (c:PySem.W.codeIn K cdv x=true) (k:PySem.W.keepIn K (.ref f)=true):Fo K mg x st ps:=
 ⟨⟨f,_,Lx X G a,xo l c k,(xo l c k).binds b⟩⟩
def JX:List Str:=["len","range","enumerate","zip","min","max","sum","abs","sorted","reversed","int","str","bool","list","tuple","dict","set","isinstance","repr","any","all","divmod"]
def JJ (K:Frag):Bool:=JX.all λx=>match PySem.W.nsIn K mainGlobals x with
 |some none=>true
 |_=>false
def Gr (q:JJ K=true){x:Str}(hx:x∈JX):PySem.W.nsIn K mainGlobals x=some none:=by
 have:=Mw.mp q x hx
 split at this
 ·assumption
 ·cases this
def Hy (X:K.In h)(G:h.Ns mainGlobals mg)(q:JJ K=true):dQ mg:=by
 have key:∀{x:Str},x∈JX->mg x=none:=λhx=>PySem.W.mg_none_of X G (Gr q hx)
 constructor <;> exact key (by decide)
end
end L2
section
set_option Elab.async false
namespace RO
open PySem L2
def yE (K:Frag):Sp:=λvs H Q _=>∃(a:Addr) (ns:List Int),vs= [.ref a]/\gR K H a (ns.map V.int)/\∀H',ax H H'->Q (.bl true) H'
def uN:aO "_law_marks" jU ["e"]:=λ_ _ _ _ _ _=>qR λ_=>rfl
def yp:aO "is_whole" RQ.jr ["thing"]:=λ_ _ _ _ _ _=>qR λ_=>rfl
def ym:aO "is_below" RQ.jg ["thing","bound"]:=λ_ _ _ _ _ _=>ln2 λ_ _=>rfl
def zN:aO "is_many" RQ.kG ["thing"]:=λ_ _ _ _ _ _=>qR λ_=>rfl
def Ac:aO "is_pair" RQ.kU ["thing","many"]:=λ_ _ _ _ _ _=>ln2 λ_ _=>rfl
def ub:aO "every_pair" RQ.dH ["many"]:=λ_ _ _ _ _ _=>qR λ_=>rfl
def Ce:aO "closed" ml ["many","pairs"]:=λ_ _ _ _ _ _=>ln2 λ_ _=>rfl
def xl:aO "has_ring" RQ.i3 ["pairs"]:=λ_ _ _ _ _ _=>qR λ_=>rfl
def yv:aO "is_order" RQ.jm ["thing"]:=λ_ _ _ _ _ _=>qR λ_=>rfl
def tu:aO "need_order" RQ.fW ["thing"]:=λ_ _ _ _ _ _=>qR λ_=>rfl
def i6:aO "need_order_and_thing" RQ.bH ["order","thing"]:=λ_ _ _ _ _ _=>ln2 λ_ _=>rfl
def DE:aO "ahead" RQ.oR ["order","thing"]:=λ_ _ _ _ _ _=>ln2 λ_ _=>rfl
def CG:aO "behind" RQ.mB ["order","thing"]:=λ_ _ _ _ _ _=>ln2 λ_ _=>rfl
def D5:aO "apart" RQ.oW ["order","thing"]:=λ_ _ _ _ _ _=>ln2 λ_ _=>rfl
def sO:aO "next_pairs" RQ.fP ["order"]:=λ_ _ _ _ _ _=>qR λ_=>rfl
def A8:aO "turned" RQ.l8 ["order"]:=λ_ _ _ _ _ _=>qR λ_=>rfl
def Bw:aO "is_row" RQ.mf ["thing","order"]:=λ_ _ _ _ _ _=>ln2 λ_ _=>rfl
def vE:aO "rows_many" RQ.ij ["order"]:=λ_ _ _ _ _ _=>qR λ_=>rfl
def Aj:aO "nth_row" RQ.kO ["order","number"]:=λ_ _ _ _ _ _=>ln2 λ_ _=>rfl
def z9:aO "rank_of" RQ.kQ ["order","row"]:=λ_ _ _ _ _ _=>ln2 λ_ _=>rfl
def G6:aO "tell" RQ.sS ["thing","order"]:=λ_ _ _ _ _ _=>ln2 λ_ _=>rfl
def uv:aO "first_left" RQ.fH ["order","rows"]:=λ_ _ _ _ _ _=>ln2 λ_ _=>rfl
def sY:aO "most_apart" RQ.fQ ["order"]:=λ_ _ _ _ _ _=>qR λ_=>rfl
def A3:aO "chains" RQ.mH ["order"]:=λ_ _ _ _ _ _=>qR λ_=>rfl
def tj:aO "are_chains" RQ.fK ["thing","order"]:=λ_ _ _ _ _ _=>ln2 λ_ _=>rfl
def wL:aO "chain_row" RQ.g8 ["order","chain"]:=λ_ _ _ _ _ _=>ln2 λ_ _=>rfl
def uw:aO "chain_rows" RQ.fY ["order"]:=λ_ _ _ _ _ _=>qR λ_=>rfl
def Ey:aO "turns" RQ.oU ["order"]:=λ_ _ _ _ _ _=>qR λ_=>rfl
def xj:aO "is_sharp" RQ.ji ["order","a","b"]:=λ_ _ _ _ _ _=>Ks λ_ _ _=>rfl
def qZ:aO "sharp_turns" RQ.eS ["order"]:=λ_ _ _ _ _ _=>qR λ_=>rfl
def AR:aO "is_ring" RQ.kN ["thing","order"]:=λ_ _ _ _ _ _=>ln2 λ_ _=>rfl
def wY:aO "together" RQ.jF ["order","some"]:=λ_ _ _ _ _ _=>ln2 λ_ _=>rfl
def uE:aO "are_points" RQ.gc ["thing","order"]:=λ_ _ _ _ _ _=>ln2 λ_ _=>rfl
def vf:aO "points_of" RQ.gX ["order","rows"]:=λ_ _ _ _ _ _=>ln2 λ_ _=>rfl
def zC:aO "rows_of" RQ.kR ["order","points"]:=λ_ _ _ _ _ _=>ln2 λ_ _=>rfl
def BZ:aO "forced" RQ.mE ["order","turn"]:=λ_ _ _ _ _ _=>ln2 λ_ _=>rfl
def zL:aO "is_knot" RQ.kC ["thing","order"]:=λ_ _ _ _ _ _=>ln2 λ_ _=>rfl
def mW:aO "points_or_knot" RQ.cR ["order"]:=λ_ _ _ _ _ _=>qR λ_=>rfl
def xt:aO "two_rows" RQ.jE ["order"]:=λ_ _ _ _ _ _=>qR λ_=>rfl
def zS:aO "one_row" RQ.kS ["order"]:=λ_ _ _ _ _ _=>qR λ_=>rfl
def tY:aO "show_order" RQ.fI ["order"]:=λ_ _ _ _ _ _=>qR λ_=>rfl
def uZ:aO "_law_cell" RQ.ie ["script","k"]:=λ_ _ _ _ _ _=>ln2 λ_ _=>rfl
def yt:aO "_law_mix" RQ.dX ["cell","k"]:=λ_ _ _ _ _ _=>ln2 λ_ _=>rfl
def yh:aO "_law_box" RQ.jB ["script","k"]:=λ_ _ _ _ _ _=>ln2 λ_ _=>rfl
def vp:aO "_law_take" RQ.hX ["box","many"]:=λ_ _ _ _ _ _=>ln2 λ_ _=>rfl
def oG:aO "_law_mixed_up" RQ.di ["box","some"]:=λ_ _ _ _ _ _=>ln2 λ_ _=>rfl
def ra:aO "_law_closed" RQ.eT ["pairs"]:=λ_ _ _ _ _ _=>qR λ_=>rfl
def tK:aO "_law_order" RQ.gk ["box","most"]:=λ_ _ _ _ _ _=>ln2 λ_ _=>rfl
def uG:aO "_law_first" RQ.fG ["kind","order"]:=λ_ _ _ _ _ _=>ln2 λ_ _=>rfl
def qX:aO "_law_second" RQ.eZ ["kind","order"]:=λ_ _ _ _ _ _=>ln2 λ_ _=>rfl
def tw:aO "_law_third" RQ.fM ["kind","order"]:=λ_ _ _ _ _ _=>ln2 λ_ _=>rfl
def wm:aO "_law_said" RQ.hU ["part","kind","order"]:=λ_ _ _ _ _ _=>Ks λ_ _ _=>rfl
def Fl:Prop:=∀{l:PySem.W.OpenLaw} {w:World} {K:Frag} {h:Heap} {mg:Str->Option Value} {fa f53 R q0 q1 q2 q3 q4 q5 q6 q7 q8 q9 q10 q11:Addr} (X:K.In h) (G:h.Ns mainGlobals mg) (hfa:mg "law"=some (.ref fa))
  {od53 an53:Option Addr} {sl53:Array (Option Value)} {oc53 kV53 dc53 pm53 cd53 ct53:Value} {tMOST_THINGS:Tok}
  (F1:Fo K mg "_law_marks" jU ["e"])
  (F2:Fo K mg "is_whole" RQ.jr ["thing"])
  (F3:Fo K mg "is_below" RQ.jg ["thing","bound"])
  (F4:Fo K mg "is_many" RQ.kG ["thing"])
  (F5:Fo K mg "is_pair" RQ.kU ["thing","many"])
  (F6:Fo K mg "every_pair" RQ.dH ["many"])
  (F7:Fo K mg "closed" ml ["many","pairs"])
  (F8:Fo K mg "has_ring" RQ.i3 ["pairs"])
  (F9:Fo K mg "is_order" RQ.jm ["thing"])
  (F10:Fo K mg "need_order" RQ.fW ["thing"])
  (F11:Fo K mg "need_order_and_thing" RQ.bH ["order","thing"])
  (F12:Fo K mg "ahead" RQ.oR ["order","thing"])
  (F13:Fo K mg "behind" RQ.mB ["order","thing"])
  (F14:Fo K mg "apart" RQ.oW ["order","thing"])
  (F15:Fo K mg "next_pairs" RQ.fP ["order"])
  (F16:Fo K mg "turned" RQ.l8 ["order"])
  (F17:Fo K mg "is_row" RQ.mf ["thing","order"])
  (F18:Fo K mg "rows_many" RQ.ij ["order"])
  (F19:Fo K mg "nth_row" RQ.kO ["order","number"])
  (F20:Fo K mg "rank_of" RQ.kQ ["order","row"])
  (F21:Fo K mg "tell" RQ.sS ["thing","order"])
  (F22:Fo K mg "first_left" RQ.fH ["order","rows"])
  (F23:Fo K mg "most_apart" RQ.fQ ["order"])
  (F24:Fo K mg "chains" RQ.mH ["order"])
  (F25:Fo K mg "are_chains" RQ.fK ["thing","order"])
  (F26:Fo K mg "chain_row" RQ.g8 ["order","chain"])
  (F27:Fo K mg "chain_rows" RQ.fY ["order"])
  (F28:Fo K mg "turns" RQ.oU ["order"])
  (F29:Fo K mg "is_sharp" RQ.ji ["order","a","b"])
  (F30:Fo K mg "sharp_turns" RQ.eS ["order"])
  (F31:Fo K mg "is_ring" RQ.kN ["thing","order"])
  (F32:Fo K mg "together" RQ.jF ["order","some"])
  (F33:Fo K mg "are_points" RQ.gc ["thing","order"])
  (F34:Fo K mg "points_of" RQ.gX ["order","rows"])
  (F35:Fo K mg "rows_of" RQ.kR ["order","points"])
  (F36:Fo K mg "forced" RQ.mE ["order","turn"])
  (F37:Fo K mg "is_knot" RQ.kC ["thing","order"])
  (F38:Fo K mg "points_or_knot" RQ.cR ["order"])
  (F39:Fo K mg "two_rows" RQ.jE ["order"])
  (F40:Fo K mg "one_row" RQ.kS ["order"])
  (F41:Fo K mg "show_order" RQ.fI ["order"])
  (F42:Fo K mg "_law_cell" RQ.ie ["script","k"])
  (F43:Fo K mg "_law_mix" RQ.dX ["cell","k"])
  (F44:Fo K mg "_law_box" RQ.jB ["script","k"])
  (F45:Fo K mg "_law_take" RQ.hX ["box","many"])
  (F46:Fo K mg "_law_mixed_up" RQ.di ["box","some"])
  (F47:Fo K mg "_law_closed" RQ.eT ["pairs"])
  (F48:Fo K mg "_law_order" RQ.gk ["box","most"])
  (F49:Fo K mg "_law_first" RQ.fG ["kind","order"])
  (F50:Fo K mg "_law_second" RQ.eZ ["kind","order"])
  (F51:Fo K mg "_law_third" RQ.fM ["kind","order"])
  (F52:Fo K mg "_law_said" RQ.hU ["part","kind","order"])
  (a53:PySem.W.nsIn K mainGlobals "law"=some (some (.ref f53))) (l53:K.lookup f53=some ⟨oc53,od53,.func (PySem.W.fnOf "law" "law" (ic RQ.lg) (bN RQ.lg) (ak RQ.lg) .none kV53 dc53 pm53 an53 cd53 ct53),sl53⟩) (c53:PySem.W.codeIn K cd53 "law"=true) (k53:PySem.W.keepIn K (.ref f53)=true)
  (zB:JJ K=true)
  (yMOST_THINGS:PySem.W.nsIn K mainGlobals "MOST_THINGS"=some (some (.int 8 tMOST_THINGS)))
  (mR:PySem.W.nsIn K mainGlobals "RankError"=some (some (.ref R)))
  (n0:PySem.W.nsIn K mainGlobals "NoOrder"=some (some (.ref q0)))
  (n1:PySem.W.nsIn K mainGlobals "NoMany"=some (some (.ref q1)))
  (n2:PySem.W.nsIn K mainGlobals "NoPairs"=some (some (.ref q2)))
  (n3:PySem.W.nsIn K mainGlobals "Ring"=some (some (.ref q3)))
  (n4:PySem.W.nsIn K mainGlobals "NoThing"=some (some (.ref q4)))
  (n5:PySem.W.nsIn K mainGlobals "NoRow"=some (some (.ref q5)))
  (n6:PySem.W.nsIn K mainGlobals "NoRows"=some (some (.ref q6)))
  (n7:PySem.W.nsIn K mainGlobals "NoNumber"=some (some (.ref q7)))
  (n8:PySem.W.nsIn K mainGlobals "NoChain"=some (some (.ref q8)))
  (n9:PySem.W.nsIn K mainGlobals "NoTurns"=some (some (.ref q9)))
  (n10:PySem.W.nsIn K mainGlobals "NoPoints"=some (some (.ref q10)))
  (n11:PySem.W.nsIn K mainGlobals "NoText"=some (some (.ref q11)))
  (zV:PySem.W.nsIn K mainGlobals "ValueError"=some none)
  (eR:PySem.W.excIn K R [.type "ValueError",.type "Exception",.type "BaseException",.type "object"] "ValueError.__new__"=true)
  (e0:PySem.W.excIn K q0 [.type "ValueError",.type "Exception",.type "BaseException",.type "object"] "ValueError.__new__"=true)
  (e1:PySem.W.excIn K q10 [.type "ValueError",.type "Exception",.type "BaseException",.type "object"] "ValueError.__new__"=true)
  (e2:PySem.W.excIn K q6 [.type "ValueError",.type "Exception",.type "BaseException",.type "object"] "ValueError.__new__"=true)
  (up0:(L2.mroIn K q0).contains (.ref R)=true)
  (g1_0:(PySem.W.clsIn K q0).isSome=true)
  (g2_0:PySem.W.findIn K (.ref q0) "__getattribute__"=some (some (.builtin "BaseException.__getattribute__")))
  (g3_0:PySem.W.findIn K (.ref q0) "__getattr__"=some none)
  (g4_0:PySem.W.findIn K (.ref q0) "__class__"=some (some (.builtin "object.__class__")))
  (g7_0:PySem.W.mroIn K q0 (.type "object")=some true)
  (g8_0:PySem.W.mroIn K q0 (.type "BaseException")=some true)
  (kR0:PySem.W.kitOne K (.ref q0) (.ref R)=some true)
  (kV0:PySem.W.kitOne K (.ref q0) (.type "ValueError")=some true)
  (kt0_0:PySem.W.kitOne K (.ref q0) (.ref q0)=some true)
  (kt0_1:PySem.W.kitOne K (.ref q0) (.ref q1)=some false)
  (kt0_2:PySem.W.kitOne K (.ref q0) (.ref q2)=some false)
  (kt0_3:PySem.W.kitOne K (.ref q0) (.ref q3)=some false)
  (kt0_4:PySem.W.kitOne K (.ref q0) (.ref q4)=some false)
  (kt0_5:PySem.W.kitOne K (.ref q0) (.ref q5)=some false)
  (kt0_6:PySem.W.kitOne K (.ref q0) (.ref q6)=some false)
  (kt0_7:PySem.W.kitOne K (.ref q0) (.ref q7)=some false)
  (kt0_8:PySem.W.kitOne K (.ref q0) (.ref q8)=some false)
  (kt0_9:PySem.W.kitOne K (.ref q0) (.ref q9)=some false)
  (kt0_10:PySem.W.kitOne K (.ref q0) (.ref q10)=some false)
  (kt0_11:PySem.W.kitOne K (.ref q0) (.ref q11)=some false)
  (g5:PySem.W.specialIn K (.builtin "object.__class__") "__get__"=some (some (.builtin "getset_descriptor.__get__")))
  (g6:PySem.W.takesIn K (.builtin "object.__class__")=some true),∃fd:FuncData,(∀(s:Shared) (v:Value),BindsTo s fd ⟨[v],[]⟩ [("script",v)])/\∀base:Heap,K.In base->base.Ns mainGlobals mg->fq l.prog w K mg base (mq l.prog w) 10 fa fd ["script"] (yE K)
def walk {l:PySem.W.OpenLaw}{q:Program}{loose:List Str}{XP:(Str->Option Value)->Heap->Prop}{YP:World->Heap->Prop}{d:DefRec}{K:Params->Frag}(hn:l.most=some 63)(hdf:d.params.defaults= [])(hi:PyProof.Rows.importsNone q=true)
  (hY:∀(w:World) (h:Heap),YP w h->(K w.params).In h)
  (F:∀(w:World) (mg:Str->Option Value) (fa:Addr) (h:Heap),(K w.params).In h->h.Ns mainGlobals mg->mg d.name=some (.ref fa)->
   ∃fd:FuncData,(∀(s:Shared) (u:Value),BindsTo s fd ⟨[u],[]⟩ [("script",u)])/\∀base:Heap,(K w.params).In base->base.Ns mainGlobals mg->fq l.prog w (K w.params) mg base (mq l.prog w) 10 fa fd ["script"] (yE (K w.params))) :
  PySem.W.WalkO q loose XP YP l.row.toRowW d [] (λf vs=>PySem.call f vs):=
 L2.D1 (n:=63) (k:=10) (x:="script") (CX:=λw=>mq l.prog w) (sp:=λw=>yE (K w.params)) hn (by decide) hdf hi ⟨rfl,by decide,by decide,rfl⟩ hY F (λ_ _ a ns hl _ hS=>⟨a,ns,rfl,hS,λ_ _=>rfl⟩) λ_ _ _ _ _ z=>by
  obtain⟨_,_,_,_,_,_,_,_,_,z⟩:=z
  exact z
end RO
namespace HD
noncomputable def vw:PySem.Program:=PySem.W.view PySem.Challenge.pw_rowsorder_k07_what_is_no_order [1,2,3,4,5,6,7,9,10,11,12,13,14,15,16,17,18,19,20,21,23,24,25,26,27,28,29,30,31,32,33,34,36,37,38,39,40,41,42,43,44,45,46,47,48,49,50,51,52,54,55,56,57,58,59,60,61,62,64,65,66,67,68,69,70,71,72,73,74,75,76,78,79,80,81,82,83,84,85,86,87,88,89,90,91,92,93,94,95,97,99,100,101,102,103,104,105,106,107,108,109,110,111]
def Ej:PySem.Challenge.rw_rowsorder_k07_what_is_no_order.wellSaid=true:=by kernel_rfl
end HD
section
set_option hygiene false in
local macro_rules | `(tactic|o_head $H)=>`(tactic|exact h)
set_option maxHeartbeats 0 in
theorem HD.d (h:PySem.Challenge.rw_rowsorder_k07_what_is_no_order.row.Holds):PySem.Challenge.rw_rowsorder_k07_what_is_no_order.Holds:=by
 w_on;(refine PySem.W.holds_law HD.Ej λEj=>?_);k_head
end
abbrev HD.aa:List Nat:=[2,3,15,17,18,20,21,22,24,25,27,28,29,31,32,34,35,36,38,39,41,42,43,46,47,48,51,52,53,60,61,62,63,66,73,74,75,78,85,86,87,90,97,98,99,102,109,110,111,114,121,122,123,126,133,134,135,138,145,146,147,150,157,158,159,162,169,170,171,174,181,182,183,186,193,194,195,198,205,207,208,210,211,212,213,214,217,220,221,222,225,226,227,230,231,232,234,235,237,238,239,241,242,244,245,246,249,250,251,254,255,256,259,260,261,263,264,266,267,268,271,272,273,276,277,278,281,282,283,285,286,288,289,290,293,294,295,297,298,300,301,302,304,305,307,308,309,311,312,314,315,316,318,319,321,322,323,325,326,328,329,330,333,334,335,337,338,340,341,342,344,345,347,348,349,352,353,354,357,358,359,362,363,364,367,368,369,372,373,374,376,377,379,380,381,383,384,386,387,388,391,392,393,396,397,398,400,401,403,404,405,407,408,410,411,412,415,416,417,420,421,422,425,426,427,429,430,432,433,434,437,438,439,442,443,444,447,448,449,452,453,454,456,457,459,460,461,464,465,466,468,469,471,472,473,475,476,478,479,480,483,484,485,487,488,490,491,492,494,495,497,498,499,501,502,504,505,506,509,510,511,514,515,516,519,520,521,523,524,526,527,528,530,531,533,534,535,537,538,540,541,542,545,546,547,549,550,552,553,554,557,558,559,562,563,564,567,568,569,571,572,574,575,576,578,579,581,582,583,585,586,588,589,590,592,593,595,596,597,599,600,602,603,604,607,608,609,612,613,614,616,617,619,620,621,623,624,626,627,628,631,632,633,635,636,638,639,640,642,643,645,646,647,649,650,652,653,654,656,657,659,660,661,663,664,666,667,668,671,672,673,675,676,678,679,680,682,683,685,686,687,689,690,692,693,694,696,697,699,700,701,703,704,706,707,708,710,711,713,714,715,717,718,720,721]
def HD.ke:∀P,HD.aa=(HD.d.heap_1 P).map (·.1):=λ_=>by kernel_rfl
section
open PySem PySem.W PyProof.Rows
def HD.l1:∀w os,(HD.Ci PySem.Challenge.rw_rowsorder_k07_what_is_no_order.row.prog 10992 w os).map (fun s => (HD.zp PySem.Challenge.rw_rowsorder_k07_what_is_no_order.row.prog w s.abs, (PySem.W.kHook HD.d.heap_1 HD.aa HD.ke).obs s.abs)) = some (true, (PySem.W.kHook HD.d.heap_1 HD.aa HD.ke).val w) := fun w os => by kernel_rfl
def HD.l2:∀w os,(HD.Ci PySem.Challenge.rw_rowsorder_k07_what_is_no_order.row.prog 10992 w os).map (fun s => HD.o1 HD.vw s.abs) = some (expectedOf HD.vw) := fun w os => by kernel_rfl
def HD.l5:∀w os,(HD.Ci PySem.Challenge.rw_rowsorder_k07_what_is_no_order.row.prog 10992 w os).map (fun s => (HD.o4 HD.vw s.abs, HD.o5 HD.vw s.abs)) = some (true, pinGoodD (drecsOf HD.vw)) := fun w os => by kernel_rfl
def HD.l3:∀w os,(HD.Ci PySem.Challenge.rw_rowsorder_k07_what_is_no_order.row.prog 10992 w os).map (fun s => (HD.o2 s.abs, HD.o3 HD.vw [] (PySem.importedModules PySem.Challenge.rw_rowsorder_k07_what_is_no_order.row.prog.main.body) (fun s => PySem.W.xlAt HD.vw [] s && PySem.W.recOk PySem.Challenge.rw_rowsorder_k07_what_is_no_order.row.records s) true s.abs)) = some (bltViewBooted, true) := fun w os => by kernel_rfl
def HD.l4:∀w os,(HD.Ci PySem.Challenge.rw_rowsorder_k07_what_is_no_order.row.prog 10992 w os).map (fun s => (HD.o6 HD.vw [] s.abs, HD.o7 HD.vw [] s.abs, HD.o8 HD.vw s.abs, HD.o9 HD.vw [] s.abs)) = some (plainGoodE HD.vw (looseW HD.vw []), plainGoodD HD.vw [], wideGood HD.vw, clsGoodW HD.vw []) := fun w os => by kernel_rfl
end
def HD.left:PySem.W.LeftO PySem.Challenge.rw_rowsorder_k07_what_is_no_order.row.prog HD.vw [] (λs=>PySem.W.xlAt HD.vw [] s && PySem.W.recOk PySem.Challenge.rw_rowsorder_k07_what_is_no_order.row.records s) (PySem.W.kHook HD.d.heap_1 HD.aa HD.ke).obs (PySem.W.kHook HD.d.heap_1 HD.aa HD.ke).val 10992:=
 HD.left_in5 (by kernel_rfl) (by kernel_rfl) (λs=>by kernel_rfl) HD.l1 HD.l2 HD.l3 HD.l4 HD.l5
open PySem PySem.W PyProof.Rows L2
set_option maxRecDepth 100000 in
set_option maxHeartbeats 0 in
theorem RO.head (hA:RO.Fl):PySem.Challenge.rw_rowsorder_k07_what_is_no_order.Holds:=by
 w_on;(refine PySem.W.holds_law HD.Ej λEj=>?_)
 refine PySem.W.holds_open (q:=HD.vw) (loose:=[]) (Xt:=λs=>PySem.W.xlAt HD.vw [] s && PySem.W.recOk (PySem.W.RowW.records _) s) (XP:=PySem.W.XL HD.vw []) (Yf:=PySem.W.Hook.obs (kHook HD.d.heap_1 HD.aa HD.ke)) (Ya:=PySem.W.Hook.val (kHook HD.d.heap_1 HD.aa HD.ke)) (YP:=PySem.W.Hook.says (kHook HD.d.heap_1 HD.aa HD.ke)) (N:=10992) HD.left (PySem.W.Hook.of (kHook HD.d.heap_1 HD.aa HD.ke)) (PySem.W.Hook.keeps (kHook HD.d.heap_1 HD.aa HD.ke)) (λs e=>PySem.W.xl_of s (Bool.and_eq_true_iff.mp e).1) PySem.W.XL.keeps (by rfl) (by rfl) (by rfl) (λs e=>PySem.W.recFacts_of (Bool.and_eq_true_iff.mp e).2) (by rfl) (by first |assumption |decide +kernel) (by decide +kernel) ⟨rfl,rfl,rfl,rfl,rfl,by decide +kernel⟩ ?hw ?hc
 (case hw=>w_witness2)
 k_fill
 refine RO.walk (l:=PySem.Challenge.rw_rowsorder_k07_what_is_no_order) rfl rfl ?hi (λw h Y=>PySem.W.kIn_of Y) ?F
 case hi=>kernel_rfl
 case F=>
  intro w mg fa h KX G hmg
  refine' hA KX G hmg ?F1 ?F2 ?F3 ?F4 ?F5 ?F6 ?F7 ?F8 ?F9 ?F10 ?F11 ?F12 ?F13 ?F14 ?F15 ?F16 ?F17 ?F18 ?F19 ?F20 ?F21 ?F22 ?F23 ?F24 ?F25 ?F26 ?F27 ?F28 ?F29 ?F30 ?F31 ?F32 ?F33 ?F34 ?F35 ?F36 ?F37 ?F38 ?F39 ?F40 ?F41 ?F42 ?F43 ?F44 ?F45 ?F46 ?F47 ?F48 ?F49 ?F50 ?F51 ?F52 ?a53 ?l53 ?c53 ?k53 ?zB ?yMOST_THINGS ?mR ?n0 ?n1 ?n2 ?n3 ?n4 ?n5 ?n6 ?n7 ?n8 ?n9 ?n10 ?n11 ?zV ?eR ?e0 ?e1 ?e2 ?up0 ?g1_0 ?g2_0 ?g3_0 ?g4_0 ?g7_0 ?g8_0 ?kR0 ?kV0 ?kt0_0 ?kt0_1 ?kt0_2 ?kt0_3 ?kt0_4 ?kt0_5 ?kt0_6 ?kt0_7 ?kt0_8 ?kt0_9 ?kt0_10 ?kt0_11 ?g5 ?g6
  case F1=>refine' bb KX G RO.uN ?a ?l ?c ?k;(case a=>k_is);(case l=>k_is);(case c=>k_is);(case k=>k_is)
  case F2=>refine' bb KX G RO.yp ?a ?l ?c ?k;(case a=>k_is);(case l=>k_is);(case c=>k_is);(case k=>k_is)
  case F3=>refine' bb KX G RO.ym ?a ?l ?c ?k;(case a=>k_is);(case l=>k_is);(case c=>k_is);(case k=>k_is)
  case F4=>refine' bb KX G RO.zN ?a ?l ?c ?k;(case a=>k_is);(case l=>k_is);(case c=>k_is);(case k=>k_is)
  case F5=>refine' bb KX G RO.Ac ?a ?l ?c ?k;(case a=>k_is);(case l=>k_is);(case c=>k_is);(case k=>k_is)
  case F6=>refine' bb KX G RO.ub ?a ?l ?c ?k;(case a=>k_is);(case l=>k_is);(case c=>k_is);(case k=>k_is)
  case F7=>refine' bb KX G RO.Ce ?a ?l ?c ?k;(case a=>k_is);(case l=>k_is);(case c=>k_is);(case k=>k_is)
  case F8=>refine' bb KX G RO.xl ?a ?l ?c ?k;(case a=>k_is);(case l=>k_is);(case c=>k_is);(case k=>k_is)
  case F9=>refine' bb KX G RO.yv ?a ?l ?c ?k;(case a=>k_is);(case l=>k_is);(case c=>k_is);(case k=>k_is)
  case F10=>refine' bb KX G RO.tu ?a ?l ?c ?k;(case a=>k_is);(case l=>k_is);(case c=>k_is);(case k=>k_is)
  case F11=>refine' bb KX G RO.i6 ?a ?l ?c ?k;(case a=>k_is);(case l=>k_is);(case c=>k_is);(case k=>k_is)
  case F12=>refine' bb KX G RO.DE ?a ?l ?c ?k;(case a=>k_is);(case l=>k_is);(case c=>k_is);(case k=>k_is)
  case F13=>refine' bb KX G RO.CG ?a ?l ?c ?k;(case a=>k_is);(case l=>k_is);(case c=>k_is);(case k=>k_is)
  case F14=>refine' bb KX G RO.D5 ?a ?l ?c ?k;(case a=>k_is);(case l=>k_is);(case c=>k_is);(case k=>k_is)
  case F15=>refine' bb KX G RO.sO ?a ?l ?c ?k;(case a=>k_is);(case l=>k_is);(case c=>k_is);(case k=>k_is)
  case F16=>refine' bb KX G RO.A8 ?a ?l ?c ?k;(case a=>k_is);(case l=>k_is);(case c=>k_is);(case k=>k_is)
  case F17=>refine' bb KX G RO.Bw ?a ?l ?c ?k;(case a=>k_is);(case l=>k_is);(case c=>k_is);(case k=>k_is)
  case F18=>refine' bb KX G RO.vE ?a ?l ?c ?k;(case a=>k_is);(case l=>k_is);(case c=>k_is);(case k=>k_is)
  case F19=>refine' bb KX G RO.Aj ?a ?l ?c ?k;(case a=>k_is);(case l=>k_is);(case c=>k_is);(case k=>k_is)
  case F20=>refine' bb KX G RO.z9 ?a ?l ?c ?k;(case a=>k_is);(case l=>k_is);(case c=>k_is);(case k=>k_is)
  case F21=>refine' bb KX G RO.G6 ?a ?l ?c ?k;(case a=>k_is);(case l=>k_is);(case c=>k_is);(case k=>k_is)
  case F22=>refine' bb KX G RO.uv ?a ?l ?c ?k;(case a=>k_is);(case l=>k_is);(case c=>k_is);(case k=>k_is)
  case F23=>refine' bb KX G RO.sY ?a ?l ?c ?k;(case a=>k_is);(case l=>k_is);(case c=>k_is);(case k=>k_is)
  case F24=>refine' bb KX G RO.A3 ?a ?l ?c ?k;(case a=>k_is);(case l=>k_is);(case c=>k_is);(case k=>k_is)
  case F25=>refine' bb KX G RO.tj ?a ?l ?c ?k;(case a=>k_is);(case l=>k_is);(case c=>k_is);(case k=>k_is)
  case F26=>refine' bb KX G RO.wL ?a ?l ?c ?k;(case a=>k_is);(case l=>k_is);(case c=>k_is);(case k=>k_is)
  case F27=>refine' bb KX G RO.uw ?a ?l ?c ?k;(case a=>k_is);(case l=>k_is);(case c=>k_is);(case k=>k_is)
  case F28=>refine' bb KX G RO.Ey ?a ?l ?c ?k;(case a=>k_is);(case l=>k_is);(case c=>k_is);(case k=>k_is)
  case F29=>refine' bb KX G RO.xj ?a ?l ?c ?k;(case a=>k_is);(case l=>k_is);(case c=>k_is);(case k=>k_is)
  case F30=>refine' bb KX G RO.qZ ?a ?l ?c ?k;(case a=>k_is);(case l=>k_is);(case c=>k_is);(case k=>k_is)
  case F31=>refine' bb KX G RO.AR ?a ?l ?c ?k;(case a=>k_is);(case l=>k_is);(case c=>k_is);(case k=>k_is)
  case F32=>refine' bb KX G RO.wY ?a ?l ?c ?k;(case a=>k_is);(case l=>k_is);(case c=>k_is);(case k=>k_is)
  case F33=>refine' bb KX G RO.uE ?a ?l ?c ?k;(case a=>k_is);(case l=>k_is);(case c=>k_is);(case k=>k_is)
  case F34=>refine' bb KX G RO.vf ?a ?l ?c ?k;(case a=>k_is);(case l=>k_is);(case c=>k_is);(case k=>k_is)
  case F35=>refine' bb KX G RO.zC ?a ?l ?c ?k;(case a=>k_is);(case l=>k_is);(case c=>k_is);(case k=>k_is)
  case F36=>refine' bb KX G RO.BZ ?a ?l ?c ?k;(case a=>k_is);(case l=>k_is);(case c=>k_is);(case k=>k_is)
  case F37=>refine' bb KX G RO.zL ?a ?l ?c ?k;(case a=>k_is);(case l=>k_is);(case c=>k_is);(case k=>k_is)
  case F38=>refine' bb KX G RO.mW ?a ?l ?c ?k;(case a=>k_is);(case l=>k_is);(case c=>k_is);(case k=>k_is)
  case F39=>refine' bb KX G RO.xt ?a ?l ?c ?k;(case a=>k_is);(case l=>k_is);(case c=>k_is);(case k=>k_is)
  case F40=>refine' bb KX G RO.zS ?a ?l ?c ?k;(case a=>k_is);(case l=>k_is);(case c=>k_is);(case k=>k_is)
  case F41=>refine' bb KX G RO.tY ?a ?l ?c ?k;(case a=>k_is);(case l=>k_is);(case c=>k_is);(case k=>k_is)
  case F42=>refine' bb KX G RO.uZ ?a ?l ?c ?k;(case a=>k_is);(case l=>k_is);(case c=>k_is);(case k=>k_is)
  case F43=>refine' bb KX G RO.yt ?a ?l ?c ?k;(case a=>k_is);(case l=>k_is);(case c=>k_is);(case k=>k_is)
  case F44=>refine' bb KX G RO.yh ?a ?l ?c ?k;(case a=>k_is);(case l=>k_is);(case c=>k_is);(case k=>k_is)
  case F45=>refine' bb KX G RO.vp ?a ?l ?c ?k;(case a=>k_is);(case l=>k_is);(case c=>k_is);(case k=>k_is)
  case F46=>refine' bb KX G RO.oG ?a ?l ?c ?k;(case a=>k_is);(case l=>k_is);(case c=>k_is);(case k=>k_is)
  case F47=>refine' bb KX G RO.ra ?a ?l ?c ?k;(case a=>k_is);(case l=>k_is);(case c=>k_is);(case k=>k_is)
  case F48=>refine' bb KX G RO.tK ?a ?l ?c ?k;(case a=>k_is);(case l=>k_is);(case c=>k_is);(case k=>k_is)
  case F49=>refine' bb KX G RO.uG ?a ?l ?c ?k;(case a=>k_is);(case l=>k_is);(case c=>k_is);(case k=>k_is)
  case F50=>refine' bb KX G RO.qX ?a ?l ?c ?k;(case a=>k_is);(case l=>k_is);(case c=>k_is);(case k=>k_is)
  case F51=>refine' bb KX G RO.tw ?a ?l ?c ?k;(case a=>k_is);(case l=>k_is);(case c=>k_is);(case k=>k_is)
  case F52=>refine' bb KX G RO.wm ?a ?l ?c ?k;(case a=>k_is);(case l=>k_is);(case c=>k_is);(case k=>k_is)
  case a53=>k_is
  case l53=>k_is
  case c53=>k_is
  case k53=>k_is
  case zB=>kernel_rfl
  case yMOST_THINGS=>k_is
  case mR=>k_is
  case n0=>k_is
  case n1=>k_is
  case n2=>k_is
  case n3=>k_is
  case n4=>k_is
  case n5=>k_is
  case n6=>k_is
  case n7=>k_is
  case n8=>k_is
  case n9=>k_is
  case n10=>k_is
  case n11=>k_is
  case zV=>k_is
  case eR=>kernel_rfl
  case e0=>kernel_rfl
  case e1=>kernel_rfl
  case e2=>kernel_rfl
  case up0=>kernel_rfl
  case g1_0=>kernel_rfl
  case g2_0=>kernel_rfl
  case g3_0=>kernel_rfl
  case g4_0=>kernel_rfl
  case g7_0=>kernel_rfl
  case g8_0=>kernel_rfl
  case kR0=>kit_is
  case kV0=>kit_is
  case kt0_0=>kit_is
  case kt0_1=>kit_is
  case kt0_2=>kit_is
  case kt0_3=>kit_is
  case kt0_4=>kit_is
  case kt0_5=>kit_is
  case kt0_6=>kit_is
  case kt0_7=>kit_is
  case kt0_8=>kit_is
  case kt0_9=>kit_is
  case kt0_10=>kit_is
  case kt0_11=>kit_is
  case g5=>kernel_rfl
  case g6=>kernel_rfl
end
namespace L2.ST
open PySem PySem.SetTable
abbrev js (xs:Array Nat):Prop:=xs.toList.Pairwise (· < ·)
def hJ {xs:Array Nat}(h:js xs){i k d:Nat}(hik:i < k)(hk:k < xs.size):xs.getD i d < xs.getD k d:=by
 have hi:i < xs.size:=My hik hk
 have:=Mu.mp h i k (by simpa using hi) (by simpa using hk) hik
 simpa[Array.getD,hi,hk] using this
theorem B9 {xs:Array Nat}{j:Nat}(h:js xs):∀(fuel lo hi:Nat),lo<=hi->hi<=xs.size->hi - lo<=fuel->
  (∀i,i < lo->xs.getD i j < j)->(∀i,hi<=i->i < xs.size->j<=xs.getD i j)->
  below.go xs j fuel lo hi<=xs.size/\(∀i,i < below.go xs j fuel lo hi->xs.getD i j < j)/\(∀i,below.go xs j fuel lo hi<=i->i < xs.size->j<=xs.getD i j):=by
 intro fuel
 induction fuel with
 |zero=>
  intro lo hi h1 h2 h3 h4 h5
  have:lo=hi:=by omega
  subst this
  exact⟨h2,h4,h5⟩
 |succ fuel ih=>
  intro lo hi h1 h2 h3 h4 h5
  unfold below.go
  by_cases hlt:lo < hi
  ·rw[KU hlt]
   dsimp only
   by_cases hm:xs.getD ((lo + hi) / 2) j < j
   ·rw[KU hm]
    refine ih _ _ (by omega) h2 (by omega) (λi hi'=>?_) h5
    by_cases e:i=(lo + hi) / 2
    ·rw[e];exact hm
    ·exact My (hJ h (show i < (lo + hi) / 2 by omega) (by omega)) hm
   ·rw[K0 hm]
    refine ih _ _ (by omega) (by omega) (by omega) h4 (λi hi' hs=>?_)
    by_cases e:i=(lo + hi) / 2
    ·rw[e];omega
    ·have:=hJ (d:=j) h (show (lo + hi) / 2 < i by omega) hs
     omega
  ·rw[K0 hlt]
   have:lo=hi:=by omega
   subst this
   exact⟨h2,h4,h5⟩
def dt {xs:Array Nat}(h:js xs)(j:Nat) :
  below xs j<=xs.size/\(∀i,i < below xs j->xs.getD i j < j)/\(∀i,below xs j<=i->i < xs.size->j<=xs.getD i j):=
 B9 h xs.size 0 xs.size (LD _) (KR _) (by omega) (λi hi=>by omega) (λi h1 h2=>by omega)
def zU {xs:Array Nat}(h:js xs){i j:Nat}(hi:xs[i]? =some j):below xs j=i:=by
 obtain⟨b1,b2,b3⟩:=dt h j
 have hs:i < xs.size:=(LH.mp hi).1
 have hv:xs.getD i j=j:=by rw[Lv,hi];rfl
 rcases Nd i (below xs j) with c |c |c
 ·have:=b2 i c;omega
 ·exact c.symm
 ·have hb:below xs j < xs.size:=by omega
  have q:=b3 (below xs j) (KR _) hb
  have:=hJ (d:=j) h c hs
  omega
def zc (j:Nat):has #[] j=false:=by
 unfold has
 simp
def rZ {t:SetTable}(h:js t.place){i j:Nat}(hi:t.place[i]? =some j):t.slot j=.live i:=by
 unfold slot
 dsimp only
 rw[zU h hi,KU (by simp[hi])]
def xM {t:SetTable}(hd:t.dummies=#[]){j:Nat}(hj:j∉t.place):t.slot j=.empty:=by
 unfold slot
 dsimp only
 have:¬(t.place[below t.place j]? == some j)=true:=by
  intro e
  have e':t.place[below t.place j]? =some j:=by simpa using e
  obtain⟨h1,h2⟩:=LH.mp e'
  exact hj (Array.mem_iff_getElem.mpr ⟨_,h1,h2⟩)
 rw[K0 this,hd,zc]
 rfl
def wN (mask:Nat)(p:Probe):Probe:=
 if p.more > 0 then {p with j:=p.j + 1,more:=p.more - 1} else
 {p with j:=(leap mask p.i p.perturb).1,more:=runEnd mask (leap mask p.i p.perturb).1 - (leap mask p.i p.perturb).1,i:=(leap mask p.i p.perturb).1,perturb:=(leap mask p.i p.perturb).2}
def zy (mask i perturb:Nat):Probe:={j:=i,more:=runEnd mask i - i,i,perturb,dummy:=none}
def st (mask:Nat)(h:Int):Probe:=zy mask (bits h % (mask + 1)) (bits h)
def Bh (t:SetTable)(p:Probe):t.advance p=wN t.mask p:=rfl
def E1 (t:SetTable)(h:Int):t.probeStart h=st t.mask h:=rfl
def dZ (mask:Nat):Nat->Probe->Probe
 | 0,p=>p
 |n + 1,p=>dZ mask n (wN mask p)
theorem jZ (mask:Nat):∀(n m:Nat) (p:Probe),dZ mask (n + m) p=dZ mask m (dZ mask n p)
 | 0,m,p=>by rw[Mz];rfl
 |n + 1,m,p=>by rw[Nat.add_right_comm];exact jZ mask n m (wN mask p)
def BH {mask:Nat}{p:Probe}(h:p.dummy=none):(wN mask p).dummy=none:=by
 unfold wN;split <;> exact h
def iU {mask i:Nat}(h:i<=mask):i<=runEnd mask i/\runEnd mask i<=mask/\runEnd mask i - i<=9:=by
 unfold runEnd;split <;> omega
def In (mask:Nat)(p:Probe):Prop:=p.j + p.more<=mask/\p.more<=9
def Gw {mask i q:Nat}(h:i<=mask):In mask (zy mask i q):=by
 have:=iU h
 unfold In zy;dsimp only;omega
def l6 (mask i q:Nat):(leap mask i q).1<=mask:=by
 unfold leap;exact Nat.lt_succ_iff.mp (Nat.mod_lt _ (Nat.succ_pos _))
def GW {mask:Nat}{p:Probe}(h:In mask p):In mask (wN mask p):=by
 unfold wN
 by_cases hm:p.more > 0
 ·rw[KU hm];unfold In at *;dsimp only;omega
 ·rw[K0 hm]
  have:=iU (l6 mask p.i p.perturb)
  unfold In;dsimp only;omega
theorem zr {mask:Nat}:∀(n:Nat) {p:Probe},In mask p->In mask (dZ mask n p)
 | 0,_,h=>h
 |n + 1,_,h=>zr n (GW h)
def HX (mask:Nat)(h:Int):In mask (st mask h):=Gw (Nat.lt_succ_iff.mp (Nat.mod_lt _ (Nat.succ_pos _)))
theorem vN (mask:Nat):∀(k:Nat) (p:Probe),p.more=k->dZ mask (k + 1) p={p with j:=(leap mask p.i p.perturb).1,more:=runEnd mask (leap mask p.i p.perturb).1 - (leap mask p.i p.perturb).1,i:=(leap mask p.i p.perturb).1,perturb:=(leap mask p.i p.perturb).2}
 | 0,p,h=>by
  show wN mask p=_
  unfold wN
  rw[K0 (by omega)]
 |k + 1,p,h=>by
  have e:wN mask p={p with j:=p.j + 1,more:=p.more - 1}:=by unfold wN;rw[KU (by omega)]
  show dZ mask (k + 1) (wN mask p)=_
  rw[e,vN mask k _ (by dsimp only;omega)]
def nJ (mask i q:Nat):dZ mask (runEnd mask i - i + 1) (zy mask i q)=zy mask (leap mask i q).1 (leap mask i q).2:=by
 exact vN mask _ (zy mask i q) rfl
theorem jI (mask i q:Nat):∀(k:Nat),k<=runEnd mask i - i->(dZ mask k (zy mask i q))={zy mask i q with j:=i + k,more:=runEnd mask i - i - k}
 | 0,_=>rfl
 |k + 1,h=>by
  rw[jZ mask k 1,jI mask i q k (by omega)]
  show wN mask _=_
  unfold wN
  rw[KU (by dsimp only;omega)]
  simp only[Probe.mk.injEq]
  refine⟨by omega,by omega,?_⟩
  trivial
def fh (mask:Nat):Nat->Nat×Nat->Nat×Nat
 | 0,x=>x
 |k + 1,x=>fh mask k (leap mask x.1 x.2)
theorem nZ (mask:Nat):∀(k i q:Nat),i<=mask->∃n,n<=10 * k/\dZ mask n (zy mask i q)=zy mask (fh mask k (i,q)).1 (fh mask k (i,q)).2
 | 0,i,q,_=>⟨0,KR _,rfl⟩
 |k + 1,i,q,h=>by
  obtain⟨n,hn,e⟩:=nZ mask k (leap mask i q).1 (leap mask i q).2 (l6 _ _ _)
  have:=iU h
  refine⟨(runEnd mask i - i + 1) + n,by omega,?_⟩
  rw[jZ,nJ,e]
  rfl
theorem sD (mask:Nat):∀(a b:Nat) (x:Nat×Nat),fh mask (a + b) x=fh mask b (fh mask a x)
 | 0,b,x=>by rw[Mz];rfl
 |a + 1,b,x=>by rw[Nat.add_right_comm];exact sD mask a b (leap mask x.1 x.2)
theorem vL (mask:Nat):∀(k:Nat) (x:Nat×Nat),x.1<=mask->(fh mask k x).1<=mask
 | 0,_,h=>h
 |k + 1,x,_=>vL mask k _ (l6 mask x.1 x.2)
theorem lj (mask:Nat):∀(k:Nat) (x:Nat×Nat),(fh mask k x).2=x.2 / 32 ^ k
 | 0,x=>by simp[fh]
 |k + 1,x=>by
  show (fh mask k (leap mask x.1 x.2)).2=_
  rw[lj mask k,Nat.pow_succ,Nat.mul_comm,<-Nat.div_div_eq_div_mul]
  rfl
def nx (mask i:Nat):Nat:=(i * 5 + 1) % (mask + 1)
def AZ (mask:Nat):Nat->Nat->Nat
 | 0,i=>i
 |k + 1,i=>AZ mask k (nx mask i)
theorem oS (mask:Nat):∀(a b i:Nat),AZ mask (a + b) i=AZ mask b (AZ mask a i)
 | 0,b,i=>by rw[Mz];rfl
 |a + 1,b,i=>by rw[Nat.add_right_comm];exact oS mask a b (nx mask i)
theorem qc (mask:Nat):∀(k i:Nat),fh mask k (i,0)=(AZ mask k i,0)
 | 0,_=>rfl
 |k + 1,i=>by
  show fh mask k (leap mask i 0)=_
  have:leap mask i 0=(nx mask i,0):=by simp[leap,nx]
  rw[this,qc mask k]
  rfl
def Bi (mask:Nat):Prop:=mask=7\/mask=31\/mask=127
def HI (mask:Nat)(hm:Bi mask):AZ mask (mask + 1) 0=0/\∀j,j<=mask->∃k,k<=mask/\AZ mask k 0=j:=by
 have h7:∀j:Nat,j < 8->∃k,k < 8/\AZ 7 k 0=j:=by decide +kernel
 have h31:∀j:Nat,j < 32->∃k,k < 32/\AZ 31 k 0=j:=by decide +kernel
 have h127:∀j:Nat,j < 128->∃k,k < 128/\AZ 127 k 0=j:=by decide +kernel
 rcases hm with rfl |rfl |rfl
 ·exact⟨by decide +kernel,λj hj=>let ⟨k,a,b⟩:=h7 j (by omega);⟨k,by omega,b⟩⟩
 ·exact⟨by decide +kernel,λj hj=>let ⟨k,a,b⟩:=h31 j (by omega);⟨k,by omega,b⟩⟩
 ·exact⟨by decide +kernel,λj hj=>let ⟨k,a,b⟩:=h127 j (by omega);⟨k,by omega,b⟩⟩
def Iw {mask:Nat}(hm:Bi mask){i j:Nat}(hi:i<=mask)(hj:j<=mask):∃k,k<=mask/\AZ mask k i=j:=by
 obtain⟨z,o⟩:=HI mask hm
 obtain⟨a,ha,ea⟩:=o i hi
 obtain⟨b,hb,eb⟩:=o j hj
 have back:AZ mask (mask + 1 - a) i=0:=by
  rw[<-ea,<-oS,show a + (mask + 1 - a)=mask + 1 by omega];exact z
 by_cases hab:a<=b
 ·refine⟨b - a,by omega,?_⟩
  rw[<-ea,<-oS,show a + (b - a)=b by omega];exact eb
 ·refine⟨mask + 1 - a + b,by omega,?_⟩
  rw[oS,back];exact eb
def pM {mask:Nat}(hm:Bi mask){i q j:Nat}(hi:i<=mask)(hq:q < 2 ^ 64)(hj:j<=mask):∃k,k<=mask + 13/\(fh mask k (i,q)).1=j:=by
 have hz:(fh mask 13 (i,q)).2=0:=by
  rw[lj]
  exact Nat.div_eq_of_lt (Lj hq (by decide))
 obtain⟨k,hk,e⟩:=Iw hm (vL mask 13 (i,q) hi) hj
 refine⟨13 + k,by omega,?_⟩
 rw[sD]
 have:fh mask 13 (i,q)=((fh mask 13 (i,q)).1,0):=Prod.ext rfl hz
 rw[this,qc]
 exact e
def yO (h:Int):bits h < 2 ^ 64:=by
 unfold bits
 have:=Int.emod_lt_of_pos h (show (0:Int) < 2 ^ 64 by decide)
 have:=Int.emod_nonneg h (show (2 ^ 64:Int)≠0 by decide)
 omega
def Bz {mask:Nat}(hm:Bi mask)(h:Int){j:Nat}(hj:j<=mask):∃n,n < 10 * turns mask/\(dZ mask n (st mask h)).j=j:=by
 have hi:bits h % (mask + 1)<=mask:=Nat.lt_succ_iff.mp (Nat.mod_lt _ (Nat.succ_pos _))
 obtain⟨k,hk,e⟩:=pM hm hi (yO h) hj
 obtain⟨n,hn,q⟩:=nZ mask k (bits h % (mask + 1)) (bits h) hi
 refine⟨n,by unfold turns;omega,?_⟩
 show (dZ mask n (zy mask _ _)).j=j
 rw[q];exact e
theorem Bv {t:SetTable}{hashAt:Nat->Int}{h:Int}:∀(n fuel:Nat) (p:Probe),n < fuel->p.dummy=none->
  (∀m,m < n->∃i,t.slot (dZ t.mask m p).j=.live i/\hashAt i≠h)->t.slot (dZ t.mask n p).j=.empty->
  probe.go t hashAt h fuel p=some (.empty (dZ t.mask n p).j none):=by
 intro n
 induction n with
 |zero=>
  intro fuel p hf hd _ he
  obtain⟨f,rfl⟩:∃f,fuel=f + 1:=⟨fuel - 1,by omega⟩
  unfold probe.go
  have he':t.slot p.j=.empty:=he
  rw[he',hd]
  rfl
 |succ n ih=>
  intro fuel p hf hd hl he
  obtain⟨f,rfl⟩:∃f,fuel=f + 1:=⟨fuel - 1,by omega⟩
  unfold probe.go
  obtain⟨i,e,ne⟩:=hl 0 (by omega)
  have e':t.slot p.j=.live i:=e
  rw[e']
  dsimp only
  rw[K0 (by simpa using ne),Bh]
  exact ih f (wN t.mask p) (by omega) (BH hd) (λm hm=>hl (m + 1) (by omega)) he
theorem Br {t:SetTable}{hashAt:Nat->Int}{h:Int}:∀(n fuel:Nat) (p:Probe),n < fuel->
  (∀m,m<=n->∃i,t.slot (dZ t.mask m p).j=.live i)->(∃i,t.slot (dZ t.mask n p).j=.live i/\hashAt i=h)->
  ∃j i next,probe.go t hashAt h fuel p=some (.candidate j i next)/\t.slot j=.live i/\hashAt i=h:=by
 intro n
 induction n with
 |zero=>
  intro fuel p hf _ he
  obtain⟨f,rfl⟩:∃f,fuel=f + 1:=⟨fuel - 1,by omega⟩
  obtain⟨i,e,eh⟩:=he
  have e':t.slot p.j=.live i:=e
  unfold probe.go
  rw[e']
  dsimp only
  rw[KU (by simpa using eh)]
  exact⟨p.j,i,_,rfl,e',eh⟩
 |succ n ih=>
  intro fuel p hf hl he
  obtain⟨f,rfl⟩:∃f,fuel=f + 1:=⟨fuel - 1,by omega⟩
  obtain⟨i,e⟩:=hl 0 (by omega)
  have e':t.slot p.j=.live i:=e
  unfold probe.go
  rw[e']
  dsimp only
  by_cases hh:hashAt i=h
  ·rw[KU (by simpa using hh)]
   exact⟨p.j,i,_,rfl,e',hh⟩
  ·rw[K0 (by simpa using hh),Bh]
   exact ih f (wN t.mask p) (by omega) (λm hm=>hl (m + 1) (by omega)) he
def Reach (mask:Nat)(L:Nat->Prop)(h:Int)(j:Nat):Prop:=∃n,n < 10 * turns mask/\(dZ mask n (st mask h)).j=j/\∀m,m < n->L (dZ mask m (st mask h)).j
def Reach.mono {mask:Nat}{L L':Nat->Prop}{h:Int}{j:Nat}(r:Reach mask L h j)(k:∀x,L x->L' x):Reach mask L' h j:=
 let ⟨n,a,b,c⟩:=r;⟨n,a,b,λm hm=>k _ (c m hm)⟩
structure Tab (t:SetTable)(hs:List Int):Prop where
 mask:Bi t.mask
 dum:t.dummies=#[]
 rise:js t.place
 le:∀j,j∈t.place->j<=t.mask
 size:t.place.size=hs.length
 load:t.place.size * 5 < t.mask * 3
 reach:∀(i j:Nat) (h:Int),t.place[i]? =some j->hs[i]? =some h->Reach t.mask (· ∈t.place) h j
 plain:t.plain=true
theorem cc {α:Type}[DecidableEq α]:∀{l m:List α},l.Nodup->(∀x,x∈l->x∈m)->l.length<=m.length
 | [],_,_,_=>LD _
 |a :: l,m,hn,hs=>by
  have ha:=hs a (K3 ..)
  have hl:=LG.mp hn
  have:=cc (l:=l) (m:=m.erase a) hl.2 λx hx=>by
   refine (List.mem_erase_of_ne ?_).mpr (hs x (KW _ hx))
   rintro rfl;exact hl.1 hx
  rw[M8 ha] at this
  have:0 < m.length:=List.length_pos_of_mem ha
  simp only[Lu];omega
def xJ {mask:Nat}{xs:Array Nat}(hl:xs.size<=mask):∃j,j<=mask/\j∉xs:=by
 refine Classical.byContradiction λhc=>?_
 have all:∀j,j∈List.range (mask + 1)->j∈xs.toList:=λj hj=>by
  have:=Ll.mp hj
  refine Classical.byContradiction λhn=>hc ⟨j,by omega,λz=>hn (by simpa using z)⟩
 have:=cc MA all
 simp at this
 omega
theorem uh {P:Nat->Prop}(h:∃n,P n):∃n,P n/\∀m,m < n->¬P m:=by
 obtain⟨n,hn⟩:=h
 induction n using Nat.strongRecOn with
 |_ n ih=>
  by_cases hc:∃m,m < n/\P m
  ·obtain⟨m,hm,hp⟩:=hc
   exact ih m hm hp
  ·exact⟨n,hn,λm hm hp=>hc ⟨m,hm,hp⟩⟩
section
variable {t:SetTable}{hs:List Int}
def Tab.load' (T:Tab t hs):t.place.size<=t.mask:=by have:=T.load;omega
def Tab.slotL (T:Tab t hs){j:Nat}(hj:j∈t.place):∃i,t.slot j=.live i/\t.place[i]? =some j:=by
 obtain⟨i,hi,e⟩:=Array.mem_iff_getElem.mp hj
 have q:t.place[i]? =some j:=by rw[Lm hi,e]
 exact⟨i,rZ T.rise q,q⟩
def Tab.slotE (T:Tab t hs){j:Nat}(hj:j∉t.place):t.slot j=.empty:=xM T.dum hj
def Tab.first (T:Tab t hs)(h:Int):∃n,n < 10 * turns t.mask/\(dZ t.mask n (st t.mask h)).j∉t.place/\∀m,m < n->(dZ t.mask m (st t.mask h)).j∈t.place:=by
 obtain⟨j,hj,hn⟩:=xJ T.load'
 obtain⟨n,h1,h2⟩:=Bz T.mask h hj
 obtain⟨k,hk,hlt⟩:=uh (P:=λn=>(dZ t.mask n (st t.mask h)).j∉t.place) ⟨n,by rw[h2];exact hn⟩
 refine⟨k,?_,hk,λm hm=>Classical.byContradiction λz=>hlt m hm z⟩
 rcases LM n k with c |c
 ·exact absurd (show (dZ t.mask n (st t.mask h)).j∉t.place by rw[h2];exact hn) (hlt n c)
 ·omega
def Tab.absent (T:Tab t hs){hashAt:Nat->Int}(ha:∀i,i < hs.length->some (hashAt i)=hs[i]?){h:Int}(hn:h∉hs) :
  ∃j,t.probe hashAt h (t.probeStart h)=some (.empty j none)/\j∉t.place/\j<=t.mask/\Reach t.mask (· ∈t.place) h j:=by
 obtain⟨n,h1,h2,h3⟩:=T.first h
 refine⟨(dZ t.mask n (st t.mask h)).j,?_,h2,?_,⟨n,h1,rfl,h3⟩⟩
 ·unfold probe
  rw[E1]
  refine Bv n _ _ h1 rfl (λm hm=>?_) (T.slotE h2)
  obtain⟨i,e,q⟩:=T.slotL (h3 m hm)
  refine⟨i,e,λz=>hn ?_⟩
  have hi:i < hs.length:=by rw[<-T.size];exact (LH.mp q).1
  have:=ha i hi
  rw[z] at this
  exact K8 this.symm
 ·have:=zr n (HX t.mask h)
  unfold In at this;omega
def Tab.present (T:Tab t hs){hashAt:Nat->Int}(ha:∀i,i < hs.length->some (hashAt i)=hs[i]?){h:Int}(hm:h∈hs) :
  ∃j i next,t.probe hashAt h (t.probeStart h)=some (.candidate j i next)/\t.slot j=.live i/\i < hs.length/\hs[i]? =some h:=by
 obtain⟨i,hi,e⟩:=Lq.mp hm
 have hi':hs[i]? =some h:=by rw[KP hi,e]
 have hp:i < t.place.size:=by rw[T.size];exact hi
 obtain⟨n,h1,h2,h3⟩:=T.reach i t.place[i] h (Lm hp) hi'
 have hj:(dZ t.mask n (st t.mask h)).j∈t.place:=by rw[h2];exact Array.getElem_mem hp
 obtain⟨j',i',nx,g1,g2,g3⟩:=Br (t:=t) (hashAt:=hashAt) (h:=h) n (10 * turns t.mask) (st t.mask h) h1 (λm hm=>by
   rcases LM m n with c |c
   ·obtain⟨i,e,_⟩:=T.slotL (h3 m c);exact⟨i,e⟩
   ·have:m=n:=by omega
    subst this
    obtain⟨i,e,_⟩:=T.slotL hj;exact⟨i,e⟩)
  ⟨i,by rw[h2];exact rZ T.rise (Lm hp),by
   have:=ha i hi
   rw[hi'] at this
   exact Option.some.inj this⟩
 have hi2:i' < t.place.size:=by
  unfold slot at g2
  dsimp only at g2
  split at g2
  ·rename_i c
   have c':t.place[below t.place j']? =some j':=by simpa using c
   cases g2
   exact (LH.mp c').1
  ·split at g2 <;> cases g2
 refine⟨j',i',nx,by unfold probe;rw[E1];exact g1,g2,by rw[<-T.size];exact hi2,?_⟩
 have:=ha i' (by rw[<-T.size];exact hi2)
 rw[g3] at this
 exact this.symm
end
def bR {α:Type}(xs:Array α)(p:Nat)(x:α)(_:p<=xs.size):(insertAt xs p x).toList=xs.toList.take p ++ x :: xs.toList.drop p:=by
 unfold insertAt
 simp[Array.toList_extract,List.extract_eq_take_drop]
 rw[MJ (by simp)]
def su (t:SetTable)(j:Nat)(hd:t.dummies=#[]):(t.put j).1={t with place:=insertAt t.place (below t.place j) j}/\(t.put j).2=below t.place j:=by
 unfold put
 dsimp only
 rw[hd,zc]
 exact⟨by simp,rfl⟩
section
variable {t:SetTable}{hs:List Int}
def mD {α:Type}{xs:Array α}{p:Nat}{x y:α}(hp:p<=xs.size):y∈insertAt xs p x↔y∈xs\/y=x:=by
 rw[<-Ms,bR xs p x hp,Lp,KZ,<-Ms]
 have:y∈xs.toList↔y∈xs.toList.take p\/y∈xs.toList.drop p:=by
  conv=>lhs;rw[<-List.take_append_drop p xs.toList]
  exact Lp
 rw[this]
 constructor
 ·rintro (a |a |a)
  ·exact .inl (.inl a)
  ·exact .inr a
  ·exact .inl (.inr a)
 ·rintro ((a |a) |a)
  ·exact .inl a
  ·exact .inr (.inr a)
  ·exact .inr (.inl a)
def rh {xs:Array Nat}(h:js xs){j:Nat}(hj:j∉xs):js (insertAt xs (below xs j) j):=by
 obtain⟨b1,b2,b3⟩:=dt h j
 unfold js
 rw[bR _ _ _ b1]
 have hl:∀y,y∈xs.toList.take (below xs j)->y < j:=λy hy=>by
  obtain⟨i,hi,e⟩:=Lq.mp hy
  have hi1:i < below xs j:=by simp at hi;omega
  have hi2:i < xs.size:=by omega
  have:=b2 i hi1
  rw[Lv,Lm hi2] at this
  simp at e this
  omega
 have hr:∀y,y∈xs.toList.drop (below xs j)->j < y:=λy hy=>by
  obtain⟨i,hi,e⟩:=Lq.mp hy
  have hi2:below xs j + i < xs.size:=by simp at hi;omega
  have:=b3 (below xs j + i) (by omega) hi2
  rw[Lv,Lm hi2] at this
  simp at e this
  rcases LM j y with c |c
  ·exact c
  ·have:j=y:=by omega
   exact absurd (by rw[this,<-e];exact Array.getElem_mem _) hj
 refine List.pairwise_append.mpr ⟨List.Pairwise.sublist (List.take_sublist ..) h,List.pairwise_cons.mpr ⟨λy hy=>hr y hy,List.Pairwise.sublist (List.drop_sublist ..) h⟩,λa ha b hb=>?_⟩
 rcases KZ.mp hb with rfl |hb
 ·exact hl a ha
 ·exact My (hl a ha) (hr b hb)
def wt {α:Type}(l:List α)(p:Nat)(x:α)(hp:p<=l.length)(i:Nat):(l.take p ++ x :: l.drop p)[i]? =if i < p then l[i]? else if i=p then some x else l[i - 1]?:=by
 rcases Nd i p with c |c |c
 ·rw[KU c,LA (by simp;omega),List.getElem?_take_of_lt c]
 ·subst c
  rw[K0 (Ln _),KU rfl,Lw (by simp;omega),LU,Nat.min_eq_left hp,Nat.sub_self]
  rfl
 ·rw[K0 (by omega),K0 (by omega),Lw (by simp;omega),LU,Nat.min_eq_left hp]
  obtain⟨k,rfl⟩:∃k,i=p + 1 + k:=⟨i - (p + 1),by omega⟩
  rw[show p + 1 + k - p=k + 1 by omega,List.getElem?_cons_succ,List.getElem?_drop]
  congr 1
  omega
def Tab.put (T:Tab t hs){j:Nat}{h:Int}(hj:j∉t.place)(hm:j<=t.mask)(r:Reach t.mask (· ∈t.place) h j)(hf:(t.place.size + 1) * 5 < t.mask * 3) :
  Tab (t.put j).1 (hs.take (t.put j).2 ++ h :: hs.drop (t.put j).2)/\(t.put j).2<=hs.length:=by
 obtain⟨e1,e2⟩:=su t j T.dum
 obtain⟨b1,b2,b3⟩:=dt T.rise j
 have hsz:(insertAt t.place (below t.place j) j).size=t.place.size + 1:=by
  rw[<-MZ,bR _ _ _ b1]
  simp;omega
 have hl:below t.place j<=hs.length:=by rw[<-T.size];exact b1
 rw[e1,e2]
 refine⟨⟨T.mask,T.dum,rh T.rise hj,λy hy=>?_,?_,?_,λi y g hy hg=>?_,T.plain⟩,hl⟩
 ·rcases (mD b1).mp hy with z |z
  ·exact T.le y z
  ·rw[z];exact hm
 ·show (insertAt t.place _ j).size=_
  rw[hsz,T.size];simp;omega
 ·show (insertAt t.place _ j).size * 5 < t.mask * 3
  rw[hsz];exact hf
 ·show Reach t.mask (· ∈insertAt t.place (below t.place j) j) g y
  have hy':(t.place.toList.take (below t.place j) ++ j :: t.place.toList.drop (below t.place j))[i]? =some y:=by
   rw[<-bR _ _ _ b1,L9];exact hy
  rw[wt _ _ _ (by simpa using b1)] at hy'
  rw[wt _ _ _ hl] at hg
  have old:∀{g y},Reach t.mask (· ∈t.place) g y->Reach t.mask (· ∈insertAt t.place (below t.place j) j) g y:=λr=>r.mono λx hx=>(mD b1).mpr (.inl hx)
  split at hy'
  ·rename_i c
   rw[KU c] at hg
   exact old (T.reach i y g (by simpa using hy') hg)
  ·rename_i c
   rw[K0 c] at hg
   split at hy'
   ·rename_i c2
    rw[KU c2] at hg
    cases hg;cases hy'
    exact old r
   ·rename_i c2
    rw[K0 c2] at hg
    exact old (T.reach (i - 1) y g (by simpa using hy') hg)
end
abbrev own (o:Array (Option Nat))(j:Nat):Option Nat:=o.getD j none
theorem zP {mask:Nat}{o:Array (Option Nat)}(hsz:o.size=mask + 1):∀(fuel i q:Nat) (j:Nat),i<=mask->layClean.free mask o fuel i q=some j->
  ∃n,n < 10 * fuel/\(dZ mask n (zy mask i q)).j=j/\(∀m,m < n->(own o (dZ mask m (zy mask i q)).j).isSome=true)/\own o j=none/\j<=mask:=by
 intro fuel
 induction fuel with
 |zero=>intro i q j _ h;unfold layClean.free at h;cases h
 |succ fuel ih=>
  intro i q j hi h
  unfold layClean.free at h
  have hr:=iU hi
  have ind:∀k,k<=runEnd mask i - i->o.getD (i + k) (some 0)=own o (i + k):=λk hk=>by
   have:i + k < o.size:=by omega
   simp[own,Array.getD,this]
  cases hf:(List.range (runEnd mask i + 1 - i)).find? λk=>(o.getD (i + k) (some 0)).isNone with
  |some k=>
   rw[hf] at h
   dsimp only at h
   have hk:=List.find?_eq_some_iff_getElem.mp hf
   obtain⟨hn,ix,hix,eix,hbef⟩:=hk
   have ek:ix=k:=by simpa using eix
   subst ek
   have hix':ix < runEnd mask i + 1 - i:=by simpa using hix
   cases h
   refine⟨ix,by omega,?_,λm hm=>?_,?_,by omega⟩
   ·rw[jI mask i q ix (by omega)]
   ·rw[jI mask i q m (by omega)]
    have:=hbef m hm
    simp only[List.getElem_range] at this
    rw[ind m (by omega)] at this
    dsimp only
    cases e:own o (i + m) with
    |none=>rw[e] at this;simp at this
    |some _=>rfl
   ·rw[ind ix (by omega)] at hn
    cases e:own o (i + ix) with
    |none=>rfl
    |some _=>rw[e] at hn;simp at hn
  |none=>
   rw[hf] at h
   dsimp only at h
   obtain⟨n,h1,h2,h3,h4,h5⟩:=ih _ _ j (l6 mask i q) h
   have hnone:=List.find?_eq_none.mp hf
   refine⟨(runEnd mask i - i + 1) + n,by omega,?_,λm hm=>?_,h4,h5⟩
   ·rw[jZ,nJ];exact h2
   ·rcases LM m (runEnd mask i - i + 1) with c |c
    ·rw[jI mask i q m (by omega)]
     have:=hnone m (Ll.mpr (by omega))
     rw[ind m (by omega)] at this
     dsimp only
     cases e:own o (i + m) with
     |none=>rw[e] at this;simp at this
     |some _=>rfl
    ·obtain⟨k,rfl⟩:∃k,m=(runEnd mask i - i + 1) + k:=⟨m - (runEnd mask i - i + 1),by omega⟩
     rw[jZ,nJ]
     exact h3 k (by omega)
theorem zu {mask:Nat}{o:Array (Option Nat)}(hsz:o.size=mask + 1):∀(fuel i q k:Nat),i<=mask->k < fuel->own o (fh mask k (i,q)).1=none->∃j,layClean.free mask o fuel i q=some j:=by
 intro fuel
 induction fuel with
 |zero=>intro i q k _ hk;omega
 |succ fuel ih=>
  intro i q k hi hk hn
  unfold layClean.free
  cases hf:(List.range (runEnd mask i + 1 - i)).find? λk=>(o.getD (i + k) (some 0)).isNone with
  |some k=>exact⟨_,rfl⟩
  |none=>
   dsimp only
   cases k with
   |zero=>
    have hr:=iU hi
    have:=List.find?_eq_none.mp hf 0 (Ll.mpr (by omega))
    have e:own o i=none:=hn
    have hi2:i < o.size:=by omega
    simp[own,Array.getD,hi2] at e this
    rw[e] at this;simp at this
   |succ k=>exact ih _ _ k (l6 mask i q) (by omega) hn
structure Lay (mask:Nat)(o:Array (Option Nat))(hs:List Int):Prop where
 size:o.size=mask + 1
 all:∀k h,hs[k]? =some h->∃j,own o j=some k/\Reach mask (λx=>(own o x).isSome=true) h j
 one:∀j j' k,own o j=some k->own o j'=some k->j=j'
 le:∀j k,own o j=some k->j<=mask/\k < hs.length
def my {o:Array (Option Nat)}{j x k:Nat}(hj:j < o.size):own (o.setIfInBounds j (some k)) x=if x=j then some k else own o x:=by
 unfold own
 rw[Lv,Lv,Array.getElem?_setIfInBounds]
 by_cases e:x=j
 ·subst e;simp[hj]
 ·rw[K0 e,K0 (λz=>e z.symm)]
def Cr {mask:Nat}(hm:Bi mask){o:Array (Option Nat)}{hs:List Int}(L:Lay mask o hs)(h:Int)(hl:hs.length<=mask) :
  ∃j,layClean.free mask o (turns mask) (bits h % (mask + 1)) (bits h)=some j/\Lay mask (o.setIfInBounds j (some hs.length)) (hs ++ [h]):=by
 have hi:bits h % (mask + 1)<=mask:=Nat.lt_succ_iff.mp (Nat.mod_lt _ (Nat.succ_pos _))
 have hfree:∃j,j<=mask/\own o j=none:=by
  refine Classical.byContradiction λhc=>?_
  have hall:∀j,j<=mask->∃k,own o j=some k:=λj hj=>by
   cases e:own o j with
   |none=>exact absurd ⟨j,hj,e⟩ hc
   |some k=>exact⟨k,rfl⟩
  have nd:((List.range (mask + 1)).map λj=>(own o j).getD 0).Nodup:=by
   refine LS.mpr ?_
   refine Me ?_ MA
   intro a b ha hb hab e
   obtain⟨ka,ea⟩:=hall a (by have:=Ll.mp ha;omega)
   obtain⟨kb,eb⟩:=hall b (by have:=Ll.mp hb;omega)
   rw[ea,eb] at e
   simp at e
   subst e
   exact hab (L.one a b ka ea eb)
  have:=cc (m:=List.range hs.length) nd λx hx=>by
   obtain⟨j,hj,rfl⟩:=K9.mp hx
   obtain⟨k,e⟩:=hall j (by have:=Ll.mp hj;omega)
   rw[e]
   exact Ll.mpr (L.le j k e).2
  simp at this
  omega
 obtain⟨j0,hj0,hn0⟩:=hfree
 obtain⟨k,hk,ek⟩:=pM hm hi (yO h) hj0
 obtain⟨j,hj⟩:=zu L.size (turns mask) _ (bits h) k hi (by unfold turns;omega) (by rw[ek];exact hn0)
 refine⟨j,hj,?_⟩
 obtain⟨n,h1,h2,h3,h4,h5⟩:=zP L.size _ _ _ _ hi hj
 have hjs:j < o.size:=by rw[L.size];omega
 have grow:∀x,(own o x).isSome=true->(own (o.setIfInBounds j (some hs.length)) x).isSome=true:=λx hx=>by
  rw[my hjs];split
  ·rfl
  ·exact hx
 refine⟨by rw[Array.size_setIfInBounds];exact L.size,λk g hg=>?_,λa b c ea eb=>?_,λa c ea=>?_⟩
 ·rcases LM k hs.length with c |c
  ·rw[LA c] at hg
   obtain⟨x,ex,rx⟩:=L.all k g hg
   refine⟨x,?_,rx.mono grow⟩
   rw[my hjs,K0 (λz=>?_)]
   ·exact ex
   ·subst z;rw[ex] at h4;cases h4
  ·rw[Lw c] at hg
   have:k=hs.length:=by
    have:=(Ld.mp hg).1
    simp at this;omega
   subst this
   simp at hg
   subst hg
   exact⟨j,by rw[my hjs,KU rfl],n,h1,h2,λm hm=>grow _ (h3 m hm)⟩
 ·rw[my hjs] at ea eb
  split at ea
  ·cases ea
   split at eb
   ·omega
   ·have:=(L.le _ _ eb).2;omega
  ·split at eb
   ·cases eb
    have:=(L.le _ _ ea).2;omega
   ·exact L.one _ _ _ ea eb
 ·rw[my hjs] at ea
  rw[LC]
  split at ea
  ·cases ea;simp;omega
  ·have:=L.le _ _ ea;simp;omega
theorem yP {mask:Nat}(hm:Bi mask):∀(rest hs:List Int) (o:Array (Option Nat)),Lay mask o hs->hs.length + rest.length<=mask->
  ∃o',rest.foldl (init:=some (o,hs.length)) (λacc h=>do
   let (owner,k) <-acc
   let j <-layClean.free mask owner (turns mask) (bits h % (mask + 1)) (bits h)
   pure (owner.setIfInBounds j (some k),k + 1))=some (o',hs.length + rest.length)/\Lay mask o' (hs ++ rest)
 | [],hs,o,L,_=>⟨o,rfl,by rw[MF];exact L⟩
 |h :: rest,hs,o,L,hl=>by
  simp only[Lu] at hl
  obtain⟨j,e,L'⟩:=Cr hm L h (by omega)
  obtain⟨o',e',L2⟩:=yP hm rest (hs ++ [h]) _ L' (by simp;omega)
  refine⟨o',?_,by rw[Mo] at L2;exact L2⟩
  rw[foldl_cons]
  simp only[Option.bind_eq_bind,Option.bind_some,e,Option.pure_def]
  have el:(hs ++ [h]).length=hs.length + 1:=by simp
  rw[el] at e'
  simp only[Option.bind_eq_bind,Option.pure_def] at e'
  rw[e']
  simp;omega
def yS (n j:Nat):own (Array.replicate n none) j=none:=by
 unfold own
 rw[Lv,Array.getElem?_replicate]
 split <;> rfl
def DJ (mask:Nat):Lay mask (Array.replicate (mask + 1) none) []:=
 ⟨by simp,λk h e=>by simp at e,λj j' k e _=>by (rw[yS] at e;cases e),λj k e=>by (rw[yS] at e;cases e)⟩
def Ag {mask:Nat}(hm:Bi mask)(hs:Array Int)(hl:hs.size * 5 < mask * 3)(finger moves:Nat)(led:Bool) :
  ∃t order,laid mask finger moves led true hs=some (t,order)/\t.led=led/\t.mask=mask/\order.toList.Nodup/\(∀k,k∈order.toList↔k < hs.size)/\
   Tab t (order.toList.map λk=>hs.toList.getD k 0):=by
 obtain⟨o,e,L⟩:=yP hm hs.toList [] _ (DJ mask) (by simp;omega)
 simp only[List.nil_append] at L
 have ec:layClean mask hs=some o:=by
  unfold layClean
  rw[<-Array.foldl_toList]
  simp only[length_nil] at e
  rw[e];rfl
 have hlive:∀j k,(j,k)∈((List.range (mask + 1)).filterMap λj=>(o.getD j none).map (j, ·))↔own o j=some k:=λj k=>by
  rw[L7]
  constructor
  ·rintro⟨x,_,q⟩
   cases ex:o.getD x none with
   |none=>rw[ex] at q;cases q
   |some y=>rw[ex] at q;simp at q;rw[<-q.1,<-q.2];exact ex
  ·intro q
   refine⟨j,Ll.mpr (by have:=(L.le j k q).1;omega),?_⟩
   have:o.getD j none=some k:=q
   rw[this];rfl
 have hpw:((List.range (mask + 1)).filterMap λj=>(o.getD j none).map (j, ·)).Pairwise (λa b=>a.1 < b.1):=by
  refine List.pairwise_filterMap.mpr ?_
  refine List.Pairwise.imp ?_ List.pairwise_lt_range
  intro a b hab x hx y hy
  cases ea:o.getD a none with
  |none=>rw[ea] at hx;cases hx
  |some u=>
   cases eb:o.getD b none with
   |none=>rw[eb] at hy;cases hy
   |some v=>
    rw[ea] at hx;rw[eb] at hy
    simp at hx hy
    rw[<-hx,<-hy];exact hab
 generalize hlv:((List.range (mask + 1)).filterMap λj=>(o.getD j none).map (j, ·))=live at hlive hpw
 refine⟨{mask,place:=(live.map (·.1)).toArray,dummies:=#[],finger,led,moves,plain:=true},(live.map (·.2)).toArray,?_,rfl,rfl,?_,λk=>?_,?_⟩
 ·unfold laid
  rw[ec]
  simp only[Option.bind_eq_bind,Option.bind_some,Option.pure_def,hlv]
 ·have:(live.map (·.2)).Nodup:=by
   refine LS.mpr (Me ?_ hpw)
   intro a b ha hb hab ee
   have h1:=(hlive a.1 a.2).mp ha
   have h2:=(hlive b.1 b.2).mp hb
   rw[ee] at h1
   have:=L.one _ _ _ h1 h2
   omega
  simpa using this
 ·rw[K9]
  constructor
  ·rintro⟨x,hx,rfl⟩
   have:=(L.le x.1 x.2 ((hlive x.1 x.2).mp hx)).2
   simpa using this
  ·intro hk
   have hk':k < hs.toList.length:=by simpa using hk
   obtain⟨j,ej,_⟩:=L.all k _ (KP hk')
   exact⟨(j,k),(hlive j k).mpr ej,rfl⟩
 ·have hord:live.length=hs.size:=by
   have a1:(live.map (·.2)).Nodup:=by
    refine LS.mpr (Me ?_ hpw)
    intro a b ha hb hab ee
    have h1:=(hlive a.1 a.2).mp ha
    have h2:=(hlive b.1 b.2).mp hb
    rw[ee] at h1
    have:=L.one _ _ _ h1 h2
    omega
   have b1:=cc (m:=List.range hs.size) a1 λx hx=>by
    obtain⟨y,hy,rfl⟩:=K9.mp hx
    have:=(L.le y.1 y.2 ((hlive y.1 y.2).mp hy)).2
    exact Ll.mpr (by simpa using this)
   have b2:=cc (l:=List.range hs.size) (m:=live.map (·.2)) MA λx hx=>by
    have hk':x < hs.toList.length:=by simpa using Ll.mp hx
    obtain⟨j,ej,_⟩:=L.all x _ (KP hk')
    exact K9.mpr ⟨(j,x),(hlive j x).mpr ej,rfl⟩
   simp at b1 b2
   omega
  refine⟨hm,rfl,?_,λj hj=>?_,?_,?_,λi j h hi hh=>?_,rfl⟩
  ·show (live.map (·.1)).toArray.toList.Pairwise _
   rw[L3]
   exact LS.mpr hpw
  ·have:j∈live.map (·.1):=by simpa using hj
   obtain⟨x,hx,rfl⟩:=K9.mp this
   exact (L.le x.1 x.2 ((hlive x.1 x.2).mp hx)).1
  ·simp
  ·show (live.map (·.1)).toArray.size * 5 < mask * 3
   simp[hord];exact hl
  ·have hi':(live.map (·.1))[i]? =some j:=by simpa using hi
   have hh':((live.map (·.2)).map λk=>hs.toList.getD k 0)[i]? =some h:=by simpa using hh
   rw[K2] at hi'
   rw[K2,K2] at hh'
   cases ex:live[i]? with
   |none=>rw[ex] at hi';cases hi'
   |some x=>
    rw[ex] at hi' hh'
    simp at hi' hh'
    have hxl:=(hlive x.1 x.2).mp (K8 ex)
    have hk:=(L.le _ _ hxl).2
    have hk2:x.2 < hs.size:=by simpa using hk
    obtain⟨j2,ej2,r⟩:=L.all x.2 h (by
     rw[KP hk]
     simp[hk2] at hh'
     simpa using hh')
    have:j2=j:=by rw[<-hi'];exact L.one _ _ _ ej2 hxl
    subst this
    refine r.mono λy hy=>?_
    show y∈(live.map (·.1)).toArray
    cases ey:own o y with
    |none=>rw[ey] at hy;cases hy
    |some k=>
     have:y∈live.map (·.1):=K9.mpr ⟨(y,k),(hlive y k).mpr ey,rfl⟩
     simpa using this
abbrev Pr:=Int×Int
def hp (p:Pr):Int:=reduceHash (Builtin.Tuple.tupleHashOf [hashInt p.1,hashInt p.2])
def Sm (p:Pr):Prop:=(0<=p.1/\p.1 < 8)/\(0<=p.2/\p.2 < 8)
def pP:List Pr:=(List.range 64).map λk=>(((k / 8:Nat):Int),((k % 8:Nat):Int))
def lH {p:Pr}(h:Sm p):p∈pP:=by
 unfold pP
 obtain⟨⟨a,b⟩,c,d⟩:=h
 refine K9.mpr ⟨p.1.toNat * 8 + p.2.toNat,Ll.mpr (by omega),?_⟩
 refine Prod.ext ?_ ?_ <;> dsimp only <;> omega
def BA:(pP.map hp).Nodup:=by decide +kernel
theorem mi {α β:Type}{f:α->β}:∀{l:List α},(l.map f).Nodup->∀a b,a∈l->b∈l->f a=f b->a=b
 | [],_,_,_,h,_,_=>by cases h
 |x :: l,hn,a,b,ha,hb,e=>by
  have hn':=LG.mp hn
  rcases KZ.mp ha with ea |ha
  ·rcases KZ.mp hb with eb |hb
   ·rw[ea,eb]
   ·exact absurd (K9.mpr ⟨b,hb,by rw[<-e,ea]⟩) hn'.1
  ·rcases KZ.mp hb with eb |hb
   ·exact absurd (K9.mpr ⟨a,ha,by rw[e,eb]⟩) hn'.1
   ·exact mi hn'.2 a b ha hb e
def GD {p q:Pr}(hp1:Sm p)(hq:Sm q)(e:hp p=hp q):p=q:=mi BA p q (lH hp1) (lH hq) e
def xm {l:List Pr}(hn:l.Nodup)(h:∀p,p∈l->Sm p):l.length<=64:=by
 have:=cc (m:=pP) hn λx hx=>lH (h x hx)
 simpa[pP] using this
section
variable {prog:Program}{w:World}{A:Around}{E:Value->Shared->Prop}{s:Shared}
abbrev bI (prog:Program)(w:World)(h:Heap)(p:Pr)(a:Addr):Prop:=IsTupleKey (intKind prog w) h [p.1,p.2] a
def bI.inj {h:Heap}{p q:Pr}{a:Addr}(x:bI prog w h p a)(y:bI prog w h q a):p=q:=by
 have:=IsTupleKey.inj x y
 simp at this
 exact Prod.ext this.1 this.2
structure ui (f:Pr->Int)(prog:Program)(w:World)(led:Bool)(h:Heap)(S:Addr)(ps:List (Addr×Pr)):Prop where
 ex:∃o ep t,h.get? S=some o/\o.ExactSet/\o.data=.set (ps.map λq=>(f q.2,Value.ref q.1)).toArray ep t/\Tab t (ps.map λq=>f q.2)/\t.led=led
 at':∀q,q∈ps->bI prog w h q.2 q.1/\Sm q.2
 nd:(ps.map (·.2)).Nodup
def qu {t:SetTable}{hs:List Int}(T:Tab t hs){n:Nat}(e:n=hs.length):t.fits n=true:=by
 unfold SetTable.fits SetTable.fill
 have:=T.load'
 simp[T.size,T.dum,e]
 rw[T.size] at this;exact this
def BJ (a:Addr)(wanted:Nat):setRelay a wanted=(do
  let (es,_,t) <-setState a
  if SetTable.sizeAbove wanted > sizeLine then unsupported "set:memory"
  let (es,t) <-(do
   let some (t,order):=t.relaid (es.map (·.1)) wanted |unsupported "internal:set-table-without-room"
   let es':=order.filterMap (es[·]?)
   if es'.size != es.size then unsupported "internal:set-table-lost-an-element"
   pure (es',t))
  storeSet a es t):=rfl
def zK (a:Addr)(x:Value)(h:Int)(fuel:Nat):setSearchFrom a x h true (fuel + 1) none=(do
  let (es,_,t) <-setState a
  if t.gaveWay then unsupported "set:on-a-table-that-gave-way"
  let some met:=t.probe (λi=>(es[i]?.map (·.1)).getD 0) h (t.probeStart h) |unsupported "internal:set-table-without-an-empty-slot"
  match met with
  | .empty j dummy=>
   match dummy with
   |none=>return .free j false
   |some d=>
    if true && t.slot d != .dummy then rule "set.search.the-dummy-was-taken";return <-setSearchFrom a x h true fuel none
    return .free d true
  | .candidate j i next=>
   if !t.led then
    if <-searchCouldBeSeen x ((es.filter (·.1 == h)).toList.map (·.2)) then unsupported "set:the-search-would-show-the-table"
   let some (_,y):=es[i]? |unsupported "internal:set-entry"
   let equal <-holding [y] (eqBool y x)
   let (es',_,t') <-setState a
   if true && equal then return .there none
   let some same:=t'.sameMemory t.moves t.mask |unsupported "set.changed-during-lookup:is-the-new-block-at-the-old-address"
   let still <-match (if same then t'.slot j else .empty) with
    | .live i'=>match es'[i']? with
     |some (_,y')=>do pure (if <-isSame y' y then some i' else none)
     |none=>pure none
    |_=>pure none
   match still with
   |none=>rule "set.search.anew";setSearchFrom a x h true fuel none
   |some i'=>if equal then return .there (some i') else setSearchFrom a x h true fuel (some next)):=rfl
theorem vM (n:Nat){v:Value}(h:carriedByValue v=true):ofAClassStatement n v=pure false:=by
 cases v with
 |ref a=>simp[carriedByValue] at h
 |_=>first |rfl | (unfold ofAClassStatement;rfl)
def yk (n:Nat){v:Value}{k:Int}(h:(intKind prog w).is k v=true):hashByValue n v=pure true:=by
 obtain⟨t,rfl⟩:=Mh h
 cases n <;> rfl
def mF {p:Pr}{a:Addr}{Q:Bool->Shared->Prop}(hk:bI prog w s.heap p a)(h:Q false s):wpAny (model prog w) A (ofAClassStatement 8 (.ref a)) Q E s:=by
 have hT:=hk.typeIs
 obtain⟨o,items,n,ho,hc,hd,hi⟩:=hk
 unfold ofAClassStatement
 refine KO (wpAny_typeOf hT ?_)
 dsimp only
 rw[KU (by decide)]
 refine KO (KS ?_)
 simp only[ME,K6,Lz]
 refine KO (wpAny_seqItems ho hd ?_)
 dsimp only
 refine KO ?_
 rw[<-Array.forIn_toList]
 refine wpAny_forIn_list _ (λrest r s'=>r.1=none/\s'=s/\∀v∈rest,carriedByValue v=true) _ ?_ ?_ _ _ ⟨rfl,rfl,hi.byValue⟩
 ·rintro v rest r s' ⟨hr,rfl,hall⟩
  rw[vM _ (hall v K3)]
  refine KO (KS ?_)
  simp only[K6,Lz]
  exact KS ⟨rfl,rfl,λu hu'=>hall u (KW _ hu')⟩
 ·rintro⟨r1,r2⟩ s' ⟨hr,rfl,_⟩
  simp only at hr
  subst hr
  exact KS h
def wj {p:Pr}{a:Addr}{Q:Bool->Shared->Prop}(hk:bI prog w s.heap p a)(h:Q true s):wpAny (model prog w) A (hashByValue 8 (.ref a)) Q E s:=by
 have hT:=hk.typeIs
 obtain⟨o,items,n,ho,hc,hd,hi⟩:=hk
 unfold hashByValue
 refine KO (wpAny_specialOf hT F.slot_tuple_hash.lookup ?_)
 dsimp only
 refine KO (wpAny_seqItems ho hd ?_)
 simp only[Option.getD_some]
 refine KO ?_
 rw[<-Array.forIn_toList]
 refine wpAny_forIn_list _ (λrest r s'=>r.1=none/\s'=s/\∀v∈rest,∃k,(intKind prog w).is k v=true) _ ?_ ?_ _ _ ⟨rfl,rfl,λv hv=>?_⟩
 ·rintro v rest r s' ⟨hr,rfl,hall⟩
  obtain⟨k,hk⟩:=hall v K3
  rw[yk _ hk]
  refine KO (KS ?_)
  simp only[ME,K6,Lz]
  exact KS ⟨rfl,rfl,λu hu'=>hall u (KW _ hu')⟩
 ·rintro⟨r1,r2⟩ s' ⟨hr,rfl,_⟩
  simp only at hr
  subst hr
  exact KS h
 ·generalize items.toList=l at *
  cases hi with
  |cons h1 hi=>
   cases hi with
   |cons h2 hi=>
    cases hi
    rcases KZ.mp hv with rfl |hv
    ·exact⟨_,h1⟩
    ·rcases KZ.mp hv with rfl |hv
     ·exact⟨_,h2⟩
     ·cases hv
def xC {p:Pr}{a:Addr}(hk:bI prog w s.heap p a):∀(l:List Value) {Q:Bool->Shared->Prop},(∀v∈l,∃q b,v=.ref b/\bI prog w s.heap q b)->Q false s->wpAny (model prog w) A (searchCouldBeSeen (.ref a) l) Q E s:=by
 intro l Q hl h
 unfold searchCouldBeSeen
 refine KO ?_
 refine wpAny_forIn_list _ (λrest r s'=>r.1=none/\s'=s/\∀v∈rest,∃q b,v=.ref b/\bI prog w s.heap q b) _ ?_ ?_ _ _ ⟨rfl,rfl,hl⟩
 ·rintro v rest r s' ⟨hr,rfl,hall⟩
  obtain⟨q,b,rfl,hb⟩:=hall v K3
  have hrest:=λu hu'=>hall u (KW _ hu')
  dsimp only
  split
  ·exact KS ⟨rfl,rfl,hrest⟩
  ·refine KO (wpAny_eqIsQuiet_tuple hk ?_)
   simp only[ME,K6,Lz]
   refine KO (wpAny_eqIsQuiet_tuple hb ?_)
   simp only[ME,K6,Lz]
   refine KO (mF hk ?_)
   simp only[K6,Lz]
   refine KO (mF hb ?_)
   simp only[K6,Lz]
   exact KS ⟨rfl,rfl,hrest⟩
 ·rintro⟨r1,r2⟩ s' ⟨hr,rfl,_⟩
  simp only at hr
  subst hr
  exact KS h
end
section
variable {prog:Program}{w:World}{A:Around}{E:Value->Shared->Prop}{s:Shared}
def uU (t:SetTable)(hs:Array Int)(wanted:Nat)(hp:t.plain=true):t.relaid hs wanted=laid (sizeAbove wanted - 1) t.finger (t.movedTo (sizeAbove wanted - 1)) t.led true hs:=by
 unfold relaid;rw[hp]
def E2:sizeAbove (grown 5)=32/\sizeAbove (grown 19)=128:=by decide +kernel
theorem filterMap_get {α:Type}(es:Array α):∀(order:List Nat),(∀k,k∈order->k < es.size)->∃l:List α,order.filterMap (λi=>es[i]?)=l/\l.length=order.length/\(∀(i k:Nat),order[i]? =some k->l[i]? =es[k]?)/\∀x,x∈l->∃k,k∈order/\es[k]? =some x
 | [],_=>⟨[],rfl,rfl,λi k h=>by simp at h,λx hx=>by cases hx⟩
 |k :: r,h=>by
  obtain⟨l,e1,e2,e3,e4⟩:=filterMap_get es r λx hx=>h x (KW _ hx)
  have hk:=h k (K3 ..)
  refine⟨es[k] :: l,by rw[MY,Lm hk,e1],by simp[e2],λi x hi=>?_,λx hx=>?_⟩
  ·cases i with
   |zero=>simp at hi;subst hi;simp[hk]
   |succ i=>simp at hi;simpa using e3 i x hi
  ·rcases KZ.mp hx with rfl |hx
   ·exact⟨k,K3 ..,by simp[hk]⟩
   ·obtain⟨y,hy,q⟩:=e4 x hx
    exact⟨y,KW _ hy,q⟩
abbrev dB (f:Pr->Int)(q:Addr×Pr):Int×Value:=(f q.2,Value.ref q.1)
def sW (f:Pr->Int){mask:Nat}(hm:Bi mask){ps:List (Addr×Pr)}(hl:ps.length * 5 < mask * 3)(finger moves:Nat)(led:Bool) :
  ∃(t:SetTable) (order:Array Nat) (ps':List (Addr×Pr)),laid mask finger moves led true ((ps.map (dB f)).toArray.map (·.1))=some (t,order)/\order.filterMap (λi=>(ps.map (dB f)).toArray[i]?)=(ps'.map (dB f)).toArray/\ps'.length=ps.length/\
   (∀q,q∈ps'↔q∈ps)/\Tab t (ps'.map λq=>f q.2)/\t.led=led:=by
 obtain⟨t,order,e,el,em,nd,mem,T⟩:=Ag hm ((ps.map (dB f)).toArray.map (·.1)) (by simpa using hl) finger moves led
 have hsz:((ps.map (dB f)).toArray.map (·.1)).size=ps.length:=by simp
 obtain⟨ps',f1,f2,f3,f4⟩:=filterMap_get ps.toArray order.toList λk hk=>by
  have:=(mem k).mp hk;rw[hsz] at this;simpa using this
 have hlen:order.toList.length=ps.length:=by
  have a1:=cc (m:=List.range ps.length) nd λx hx=>Ll.mpr (by have:=(mem x).mp hx;rwa [hsz] at this)
  have a2:=cc (l:=List.range ps.length) (m:=order.toList) MA λx hx=>(mem x).mpr (by rw[hsz];exact Ll.mp hx)
  simp at a1 a2 ⊢;omega
 refine⟨t,order,ps',e,?_,by omega,λq=>⟨λhq=>?_,λhq=>?_⟩,?_,el⟩
 ·apply Array.toList_inj.mp
  rw[Array.toList_filterMap,<-f1]
  simp only[L3]
  rw[List.map_filterMap]
  congr 1
  funext i
  simp
 ·obtain⟨k,_,q2⟩:=f4 q hq
  rw[List.getElem?_toArray] at q2
  exact K8 q2
 ·obtain⟨k,hk,q2⟩:=Lq.mp hq
  have hko:k∈order.toList:=(mem k).mpr (by rw[hsz];exact hk)
  obtain⟨i,hi,e2⟩:=Lq.mp hko
  have:=f3 i k (by rw[KP hi,e2])
  rw[List.getElem?_toArray,KP hk,q2] at this
  exact K8 this
 ·have:(order.toList.map λk=>((ps.map (dB f)).toArray.map (·.1)).toList.getD k 0)=ps'.map λq=>f q.2:=by
   apply Nf
   intro i
   rw[K2,K2]
   cases hi:order.toList[i]? with
   |none=>
    have:ps'[i]? =none:=List.getElem?_eq_none_iff.mpr (by rw[f2];exact List.getElem?_eq_none_iff.mp hi)
    rw[this];rfl
   |some k=>
    have hk:k < ps.length:=by have:=(mem k).mp (K8 hi);rwa [hsz] at this
    have:=f3 i k hi
    rw[List.getElem?_toArray,KP hk] at this
    rw[this]
    simp[hk]
  rw[<-this];exact T
theorem oq:∀{l m:List Int},m.Nodup->(∀x,x∈m->x∈l)->l.length<=m.length->l.Nodup
 | [],_,_,_,_=>List.nodup_nil
 |a :: l,m,hn,hs,hl=>by
  by_cases ha:a∈m
  ·have hnot:a∉l:=λz=>by
    have:=cc (m:=l) hn λx hx=>by
     rcases KZ.mp (hs x hx) with e |e
     ·rw[e];exact z
     ·exact e
    simp only[Lu] at hl;omega
   refine LG.mpr ⟨hnot,oq (m:=m.erase a) (hn.erase a) (λx hx=>?_) ?_⟩
   ·have:=(hn.mem_erase_iff).mp hx
    rcases KZ.mp (hs x this.2) with e |e
    ·exact absurd e this.1
    ·exact e
   ·rw[M8 ha];simp only[Lu] at hl;omega
  ·have:=cc (m:=l) hn λx hx=>by
    rcases KZ.mp (hs x hx) with e |e
    ·exact absurd (e▸hx) ha
    ·exact e
   simp only[Lu] at hl;omega
def tT (a:Addr)(es:Array (Int×Value)):byScan (.ref a) es=false:=by unfold byScan Value.scannable;simp
def xW {t:SetTable}(h:Bi t.mask):t.gaveWay=false:=by
 unfold SetTable.gaveWay
 rcases h with e |e |e <;> rw[e] <;> decide
def ui.add {f:Pr->Int}(hinj:∀p q,Sm p->Sm q->f p=f q->p=q){led:Bool}{S a:Addr}{ps:List (Addr×Pr)}{p:Pr}{Q:Bool->Shared->Prop}(P:ui f prog w led s.heap S ps)(hk:bI prog w s.heap p a)(hs:Sm p)(hu:A.units < cLine)
  (h:∀(b:Bool) (h':Heap) (ps':List (Addr×Pr)),Heap.SameBut S s.heap h'->ui f prog w led h' S ps'->(∀q,q∈ps'->q∈ps\/q=(a,p))->(∀q,q∈ps->q∈ps')->(∃q,q∈ps'/\q.2=p)->Q b {s with heap:=h'}) :
  wpAny (model prog w) A (setAddHashed S (.ref a) (f p)) Q E s:=by
 obtain⟨o,ep,t,ho,hex,hd,T,hled⟩:=P.ex
 have hfit:t.fits (ps.map (dB f)).toArray.size=true:=qu T (by simp)
 have ha:∀i,i < (ps.map λq=>f q.2).length->some ((((ps.map (dB f)).toArray)[i]?.map (·.1)).getD 0)=(ps.map λq=>f q.2)[i]?:=λi hi=>by
  have hi':i < ps.length:=by simpa using hi
  simp[hi']
 unfold setAddHashed
 refine L5 ?_
 unfold setAddHashedIn
 refine KO (LI ho hd hfit ?_)
 dsimp only
 rw[tT]
 simp only[K6,Lz]
 unfold setSearch
 rw[zK]
 refine KO (KO (LI ho hd hfit ?_))
 dsimp only
 rw[xW T.mask]
 simp only[K6,Lz]
 by_cases hm:f p∈ps.map λq=>f q.2
 ·
  obtain⟨j,i,nx,e1,e2,e3,e4⟩:=T.present ha hm
  rw[e1]
  dsimp only
  have hi:i < ps.length:=by simpa using e3
  have e5:f (ps[i].2)=f p:=by
   rw[K2,KP hi] at e4
   simpa using e4
  have hq:=P.at' ps[i] (LV hi)
  have e6:ps[i].2=p:=hinj _ _ hq.2 hs e5
  have hget:((ps.map (dB f)).toArray)[i]? =some (f ps[i].2,.ref ps[i].1):=by simp[hi]
  have rest:wpAny (model prog w) A (do
    let some (_,y):=((ps.map (dB f)).toArray)[i]? |unsupported "internal:set-entry"
    let equal <-holding [y] (eqBool y (.ref a))
    let (es',_,t') <-setState S
    if true && equal then return SetFound.there none
    let some same:=t'.sameMemory t.moves t.mask |unsupported "set.changed-during-lookup:is-the-new-block-at-the-old-address"
    let still <-match (if same then t'.slot j else .empty) with
     | .live i'=>match es'[i']? with
      |some (_,y')=>do pure (if <-isSame y' y then some i' else none)
      |none=>pure none
     |_=>pure none
    match still with
    |none=>rule "set.search.anew";setSearchFrom S (.ref a) (f p) true 99999 none
    |some i'=>if equal then return .there (some i') else setSearchFrom S (.ref a) (f p) true 99999 (some nx))
    (λr s'=>s'=s/\r=.there none) E s:=by
   rw[hget]
   dsimp only
   refine KO (L5 (wpAny_eqBool_tuple hu hq.1 hk ?_))
   rw[K7 (by rw[e6])]
   refine KO (LI ho hd hfit ?_)
   dsimp only
   simp only[Bool.and_self,LO]
   exact KS ⟨rfl,rfl⟩
  have fin:∀r s',s'=s/\r=SetFound.there none->wpAny (model prog w) A (match r with
    | .free slot wasDummy=>(do
     let (es,_,t) <-setState S
     let (t,p'):=t.put slot
     let byValue <-if t.plain then hashByValue 8 (.ref a) else pure true
     let t:=if byValue then t else {t with plain:=false}
     storeSet S (SetTable.insertAt es p' (f p,.ref a)) t
     if !wasDummy && t.tooFull then setRelay S (SetTable.grown (es.size + 1))
     return true)
    |_=>pure false) Q E s':=by
   rintro r s' ⟨rfl,rfl⟩
   exact KS (h false s'.heap ps (Heap.SameBut.refl ..) P (λq hq=>.inl hq) (λq hq=>hq) ⟨ps[i],LV hi,e6⟩)
  cases hl:led with
  |true=>
   rw[hled,hl]
   simp only[ME,K6,Lz]
   exact LR rest (λr s' hr=>fin r s' hr) λ_ _ x=>x
  |false=>
   rw[hled,hl]
   simp only[Bool.not_false,LO]
   refine KO (xC hk _ (λv hv=>?_) ?_)
   ·obtain⟨x,hx,rfl⟩:=K9.mp hv
    have hx':x∈(ps.map (dB f)).toArray:=(Array.mem_filter.mp (Ms.mp hx)).1
    have hx2:x∈ps.map (dB f):=by simpa using hx'
    obtain⟨q,hq,rfl⟩:=K9.mp hx2
    exact⟨q.2,q.1,rfl,(P.at' q hq).1⟩
   ·simp only[K6,Lz]
    exact LR rest (λr s' hr=>fin r s' hr) λ_ _ x=>x
 ·
  obtain⟨j,e1,e2,e3,e4⟩:=T.absent ha hm
  rw[e1]
  dsimp only
  refine KS ?_
  dsimp only
  refine KO (LI ho hd hfit ?_)
  dsimp only
  obtain⟨q1,q2⟩:=su t j T.dum
  have hpl:(t.put j).1.plain=true:=by rw[q1];exact T.plain
  rw[hpl]
  simp only[LO]
  refine KO (wj hk ?_)
  simp only[LO]
  have hb:(t.put j).2<=ps.length:=by
   rw[q2]
   have:=(dt T.rise j).1
   rw[T.size] at this;simpa using this
  have hins:insertAt (ps.map (dB f)).toArray (t.put j).2 (f p,Value.ref a)=((ps.take (t.put j).2 ++ (a,p) :: ps.drop (t.put j).2).map (dB f)).toArray:=by
   apply Array.toList_inj.mp
   rw[bR _ _ _ (by simpa using hb)]
   simp[List.map_take,List.map_drop]
  rw[hins]
  generalize hps':ps.take (t.put j).2 ++ (a,p) :: ps.drop (t.put j).2=ps1
  have mem1:∀q,q∈ps1↔q∈ps\/q=(a,p):=λq=>by
   rw[<-hps',Lp,KZ]
   conv=>rhs;rw[<-List.take_append_drop (t.put j).2 ps,Lp]
   constructor
   ·rintro (z |z |z)
    ·exact .inl (.inl z)
    ·exact .inr z
    ·exact .inl (.inr z)
   ·rintro ((z |z) |z)
    ·exact .inl z
    ·exact .inr (.inr z)
    ·exact .inr (.inl z)
  have len1:ps1.length=ps.length + 1:=by rw[<-hps'];simp;omega
  have nd1:(ps1.map (·.2)).Nodup:=by
   have hnot:p∉ps.map (·.2):=λz=>by
    obtain⟨q,hq,e⟩:=K9.mp z
    exact hm (K9.mpr ⟨q,hq,by rw[e]⟩)
   have perm:(ps1.map (·.2)).Perm (p :: ps.map (·.2)):=by
    rw[<-hps']
    have:(ps.take (t.put j).2 ++ (a,p) :: ps.drop (t.put j).2).Perm ((a,p) :: ps):=by
     refine List.perm_middle.trans ?_
     rw[List.take_append_drop]
    exact this.map (·.2)
   exact perm.nodup_iff.mpr (LG.mpr ⟨hnot,P.nd⟩)
  have ne:∀b q,bI prog w s.heap q b->b≠S:=λb q ⟨o',_,_,ho',_,hd',_⟩ e=>by
   subst e
   rw[ho] at ho';cases ho'
   rw[hd] at hd';cases hd'
  have at1:∀{h':Heap},Heap.SameBut S s.heap h'->∀q,q∈ps1->bI prog w h' q.2 q.1/\Sm q.2:=λ{h'} hsb q hq=>by
   have key:∀{b:Addr} {q:Pr},bI prog w s.heap q b->bI prog w h' q b:=λ{b q} hb=>by
    have hne:=ne b q hb
    obtain⟨o',i',n',ho',r'⟩:=hb
    exact⟨o',i',n',(hsb.2 b hne).trans ho',r'⟩
   rcases (mem1 q).mp hq with z |z
   ·exact⟨key (P.at' q z).1,(P.at' q z).2⟩
   ·subst z;exact⟨key hk,hs⟩
  have hlen64:ps1.length<=64:=by
   have:=xm nd1 λx hx=>by
    obtain⟨q,hq,rfl⟩:=K9.mp hx
    exact (at1 (Heap.SameBut.refl ..) q hq).2
   simpa using this
  have hsize:((ps1.map (dB f)).toArray).size<=sizeLine:=by rw[Lo];simp;omega
  refine KO (wpAny_storeSet_of ho hd ?_ hsize)
  have ho1:(s.heap.update S (Obj.putSet (ps1.map (dB f)).toArray (t.put j).1)).get? S=some {o with data:=.set (ps1.map (dB f)).toArray (ep + 1) (t.put j).1}:=by
   have:=LJ (Obj.putSet (ps1.map (dB f)).toArray (t.put j).1) ho (by rw[putSet_of _ _ hd];rfl)
   rw[putSet_of _ _ hd] at this;exact this
  have sb1:=Heap.SameBut.update s.heap S (Obj.putSet (ps1.map (dB f)).toArray (t.put j).1)
  have hex1:({o with data:=.set (ps1.map (dB f)).toArray (ep + 1) (t.put j).1}:Obj).ExactSet:=hex
  have psz:(t.put j).1.place.size=ps.length + 1:=by
   rw[q1]
   show (insertAt t.place (below t.place j) j).size=_
   rw[<-MZ,bR _ _ _ (dt T.rise j).1]
   have:=T.size
   simp at this ⊢
   have:=(dt T.rise j).1
   omega
  have dum1:(t.put j).1.dummies=#[]:=by rw[q1];exact T.dum
  have mask1:(t.put j).1.mask=t.mask:=by rw[q1]
  have tsz:t.place.size=ps.length:=by simpa using T.size
  simp only[Bool.not_false,Bool.true_and]
  cases htf:(t.put j).1.tooFull with
  |false=>
   simp only[K6,Lz]
   have hload:(t.place.size + 1) * 5 < t.mask * 3:=by
    unfold SetTable.tooFull SetTable.fill at htf
    rw[psz,dum1,mask1] at htf
    simp at htf
    rw[tsz];exact htf
   obtain⟨T1,_⟩:=T.put e2 e3 e4 hload
   refine KO (KS (KS (h true _ ps1 sb1 ⟨⟨_,ep + 1,_,ho1,hex1,rfl,?_,?_⟩,at1 sb1,nd1⟩ (λq hq=>(mem1 q).mp hq) (λq hq=>(mem1 q).mpr (.inl hq)) ⟨(a,p),(mem1 _).mpr (.inr rfl),rfl⟩)))
   ·rw[<-hps']
    simpa[List.map_take,List.map_drop] using T1
   ·rw[q1];exact hled
  |true=>
   simp only[LO]
   have hfull:t.mask * 3<=(ps.length + 1) * 5:=by
    unfold SetTable.tooFull SetTable.fill at htf
    rw[psz,dum1,mask1] at htf
    simpa using htf
   have hload:=T.load
   rw[tsz] at hload
   have hcase:∃mask',Bi mask'/\sizeAbove (grown (ps.length + 1)) - 1=mask'/\sizeAbove (grown (ps.length + 1))<=sizeLine/\(ps.length + 1) * 5 < mask' * 3:=by
    rcases T.mask with e |e |e
    ·have:ps.length + 1=5:=by rw[e] at hfull hload;omega
     rw[this,E2.1]
     exact⟨31,.inr (.inl rfl),rfl,by rw[Lo];decide,by decide⟩
    ·have:ps.length + 1=19:=by rw[e] at hfull hload;omega
     rw[this,E2.2]
     exact⟨127,.inr (.inr rfl),rfl,by rw[Lo];decide,by decide⟩
    ·rw[e] at hfull;omega
   obtain⟨mask',hm3,em,hline,hl2⟩:=hcase
   have hes:(ps.map (dB f)).toArray.size + 1=ps.length + 1:=by simp
   rw[hes,BJ]
   have hfit1:(t.put j).1.fits ((ps1.map (dB f)).toArray).size=true:=by
    unfold SetTable.fits SetTable.fill
    have hpl2:ps.length + 1<=t.mask:=by
     rcases T.mask with e |e |e <;> rw[e] at hload ⊢ <;> omega
    rw[psz,dum1,mask1]
    simp[len1,hpl2]
   refine KO (KO (LI ho1 rfl hfit1 ?_))
   dsimp only
   rw[K0 (by omega)]
   rw[uU _ _ _ hpl,em]
   obtain⟨t2,order,ps2,g1,g2,g3,g4,g5,g6⟩:=sW f hm3 (ps:=ps1) (by rw[len1];exact hl2) (t.put j).1.finger ((t.put j).1.movedTo mask') (t.put j).1.led
   rw[g1]
   simp only[bind_pure_comp,pure_bind]
   rw[g2]
   have hne:((ps2.map (dB f)).toArray.size != (ps1.map (dB f)).toArray.size)=false:=by simp[g3]
   rw[hne]
   simp only[K6,Lz]
   have hsize2:((ps2.map (dB f)).toArray).size<=sizeLine:=by rw[Lo];simp;omega
   refine KO (KS ?_)
   refine wpAny_storeSet_of ho1 rfl ?_ hsize2
   have ho2:((s.heap.update S (Obj.putSet (ps1.map (dB f)).toArray (t.put j).1)).update S (Obj.putSet (ps2.map (dB f)).toArray t2)).get? S=some {o with data:=.set (ps2.map (dB f)).toArray (ep + 1 + 1) t2}:=by
    have:=LJ (Obj.putSet (ps2.map (dB f)).toArray t2) ho1 (by rw[putSet_of (ep:=ep + 1) _ _ rfl];rfl)
    rw[putSet_of (ep:=ep + 1) _ _ rfl] at this;exact this
   have sb2:=sb1.trans (Heap.SameBut.update _ S (Obj.putSet (ps2.map (dB f)).toArray t2))
   have nd2:(ps2.map (·.2)).Nodup:=by
    have hmem:∀q,q∈ps2.map (·.2)↔q∈ps1.map (·.2):=λq=>by
     rw[K9,K9]
     exact⟨λ⟨x,hx,e⟩=>⟨x,(g4 x).mp hx,e⟩,λ⟨x,hx,e⟩=>⟨x,(g4 x).mpr hx,e⟩⟩
    have hnd:(ps2.map λq=>f q.2).Nodup:=by
     refine oq (m:=ps1.map λq=>f q.2) ?_ (λx hx=>?_) (by simp[g3])
     ·have:(ps1.map λq=>f q.2)=(ps1.map (·.2)).map f:=by simp
      rw[this]
      refine LS.mpr (Me ?_ nd1)
      intro x y hx hy hxy e
      obtain⟨q,hq,rfl⟩:=K9.mp hx
      obtain⟨r,hr,rfl⟩:=K9.mp hy
      exact hxy (hinj _ _ (at1 sb1 q hq).2 (at1 sb1 r hr).2 e)
     ·obtain⟨q,hq,rfl⟩:=K9.mp hx
      exact K9.mpr ⟨q,(g4 q).mpr hq,rfl⟩
    have:(ps2.map λq=>f q.2)=(ps2.map (·.2)).map f:=by simp
    rw[this] at hnd
    exact (LS.mp hnd).imp λhxy e=>hxy (by rw[e])
   refine KS (h true _ ps2 sb2 ⟨⟨_,ep + 1 + 1,t2,ho2,hex,rfl,g5,?_⟩,λq hq=>at1 sb2 q ((g4 q).mp hq),nd2⟩ (λq hq=>(mem1 q).mp ((g4 q).mp hq)) (λq hq=>(g4 q).mpr ((mem1 q).mpr (.inl hq))) ⟨(a,p),(g4 _).mpr ((mem1 _).mpr (.inr rfl)),rfl⟩)
   rw[g6,q1];exact hled
end
def jn (w:World):Bool:= !(w.params.followText "set-order")
def AS (prog:Program)(w:World)(p:Pr):Int:=tupleKeyHash (intKind prog w) [p.1,p.2]
def Dk (prog:Program)(w:World):∀p q,Sm p->Sm q->AS prog w p=AS prog w q->p=q:=λp q h1 h2 e=>GD h1 h2 e
section
variable {prog:Program}{w:World}{A:Around}{E:Value->Shared->Prop}{s:Shared}{R:Result->Shared->Prop}{I:Addr}{fp wr:List Addr}{n:Nat}{P:Nat->Value->Prop}{St:Nat->Heap->Prop}
def cS (prog:Program)(w:World)(h:Heap)(vs:List Value)(ps:List Pr):Prop:=vs.length=ps.length/\∀(i:Nat) (v:Value) (p:Pr),vs[i]? =some v->ps[i]? =some p->∃a,v=.ref a/\bI prog w h p a/\Sm p
abbrev oN (prog:Program)(w:World)(h:Heap)(S:Addr)(vs:List Value)(ps:List Pr)(k:Nat):Prop:=∃qs:List (Addr×Pr),ui (AS prog w) prog w (jn w) h S qs/\
 (∀q,q∈qs->Value.ref q.1∈vs.take k/\q.2∈ps.take k)/\∀p,p∈ps.take k->p∈qs.map (·.2)
theorem mK (W:Walks prog w A.in1 I fp wr n P St)(S:Addr)(hSf:S∉fp){vs:List Value}{ps:List Pr}(hn:vs.length=n)(hP:∀i v,P i v->vs[i]? =some v)(hu:A.in1.units < cLine)(h₀:Heap)
  (hps:cS prog w h₀ vs ps) (hwr:∀b o,b∈S :: wr->h₀.get? b=some o->False):∀(k i:Nat) (s:Shared),n - i=k->i<=n->St i s.heap->(∀b o,h₀.get? b=some o->s.heap.get? b=some o)->oN prog w s.heap S vs ps i->
   (∀h' tk,(∀b o,b∉S :: wr->s.heap.get? b=some o->h'.get? b=some o)->oN prog w h' S vs ps n->R (.ok (.ret .none)) {s with heap:=h',toks:=tk})->
   codeAny (model prog w) A (.builtin "set.update.loop" ⟨[.ref S,.ref I],[]⟩) R s:=by
 have nw:S∉wr:=λh=>hSf (W.sub _ h)
 intro k
 induction k with
 |zero=>
  intro i s hk hi hst hk0 hF hR
  obtain rfl:i=n:=by omega
  refine MG PyProof.Rows.F.entry_set_update_loop ?_
  rw[Mv Mk _]
  show wpAny _ A.in1 (pyNext (.ref I) >>= λr=>_) _ _ s
  refine KO (W.done s _ _ hst λh' tk hm=>?_)
  show wpAny _ A.in1 (ret Value.none) _ _ _
  refine KS (hR h' tk (λb o hb e=>hm b o (λz=>hb (KW _ z)) e) ?_)
  obtain⟨qs,Q1,Q2,Q3⟩:=hF
  obtain⟨o,ep,t,ho,r⟩:=Q1.ex
  refine⟨qs,⟨⟨o,ep,t,hm S o nw ho,r⟩,λq hq=>⟨?_,(Q1.at' q hq).2⟩,Q1.nd⟩,Q2,Q3⟩
  obtain⟨m,hm1,hm2⟩:=Lq.mp (MU (Q2 q hq).1)
  have hm1':m < ps.length:=by rw[<-hps.1];exact hm1
  obtain⟨a,ea,ha,_⟩:=hps.2 m vs[m] ps[m] (KP hm1) (KP hm1')
  rw[hm2] at ea
  cases ea
  obtain⟨o',it',n',ho',r'⟩:=(Q1.at' q hq).1
  obtain⟨o2,it2,n2,ho2,r2⟩:=ha
  have:o'=o2:=Option.some.inj (ho'.symm.trans (hk0 _ _ ho2))
  subst this
  exact⟨o',it',n',hm _ _ (λz=>hwr _ _ (KW _ z) ho2) ho',r'⟩
 |succ k ih=>
  intro i s hk hi hst hk0 hF hR
  have hlt:i < n:=by omega
  refine MG PyProof.Rows.F.entry_set_update_loop ?_
  rw[Mv Mk _]
  show wpAny _ A.in1 (pyNext (.ref I) >>= λr=>_) _ _ s
  refine KO (W.item i s _ _ hlt hst λv h1 tk1 hv hst1 hm=>?_)
  have hvi:=hP i v hv
  have hip:i < ps.length:=by rw[<-hps.1,hn];exact hlt
  obtain⟨a,rfl,ha,hsm⟩:=hps.2 i v ps[i] hvi (KP hip)
  have k1:∀b o,h₀.get? b=some o->h1.get? b=some o:=λb o e=>hm b o (λz=>hwr b o (KW _ z) e) (hk0 b o e)
  obtain⟨qs,Q1,Q2,Q3⟩:=hF
  have old:∀{q:Addr×Pr} {h:Heap},q∈qs->(∀b o,h₀.get? b=some o->h.get? b=some o)->bI prog w h q.2 q.1:=λ{q h} hq kk=>by
   obtain⟨m,hm1,hm2⟩:=Lq.mp (MU (Q2 q hq).1)
   have hm1':m < ps.length:=by rw[<-hps.1];exact hm1
   obtain⟨a,ea,ha,_⟩:=hps.2 m vs[m] ps[m] (KP hm1) (KP hm1')
   rw[hm2] at ea
   cases ea
   obtain⟨o',it',n',ho',r'⟩:=(Q1.at' q hq).1
   obtain⟨o2,it2,n2,ho2,r2⟩:=ha
   have:o'=o2:=Option.some.inj (ho'.symm.trans (hk0 _ _ ho2))
   subst this
   exact⟨o',it',n',kk _ _ ho2,r'⟩
  have P1:ui (AS prog w) prog w (jn w) h1 S qs:=by
   obtain⟨o,ep,t,ho,r⟩:=Q1.ex
   exact⟨⟨o,ep,t,hm S o nw ho,r⟩,λq hq=>⟨old hq k1,(Q1.at' q hq).2⟩,Q1.nd⟩
  have ha1:bI prog w h1 ps[i] a:=by
   obtain⟨o',it',n',ho',r'⟩:=ha
   exact⟨o',it',n',k1 _ _ ho',r'⟩
  show wpAny _ A.in1 (holding [Value.ref a] (setAdd S (.ref a)) >>= λ_=>_) _ _ _
  refine KO (L5 ?_)
  unfold setAdd
  refine L5 (KO (wpAny_pyHash_tuple hu ha1 ?_))
  refine ui.add (Dk prog w) (s:={s with heap:=h1,toks:=tk1 + ([ps[i].1,ps[i].2].length + 1)}) P1 ha1 hsm hu λb h2 qs' sb P2 m1 m2 m3=>?_
  have sbS:∀b o,h₀.get? b=some o->h2.get? b=some o:=λb o e=>(sb.2 b (λz=>hwr b o (by rw[z];exact K3) e)).trans (k1 b o e)
  refine KS ⟨plainId_quiet Mk _,ih (i + 1) _ (by omega) hlt (W.frame _ _ _ hst1 λb hb o e=>?_) sbS ⟨qs',P2,λq hq=>?_,λp hp=>?_⟩ λh' tk hm' F'=>?_⟩
  ·rw[sb.2 b λz=>hSf (by rw[<-z];exact hb)];exact e
  ·have htk:∀{α:Type} {l:List α} {x:α},x∈l.take i->x∈l.take (i + 1):=λ{α l x} hx=>by
    rw[Mp];exact Mr _ hx
   rcases m1 q hq with z |z
   ·exact⟨htk (Q2 q z).1,htk (Q2 q z).2⟩
   ·subst z
    refine⟨?_,?_⟩
    ·rw[Mp,hvi];exact Ls _ (by simp)
    ·rw[Mp,KP hip];exact Ls _ (by simp)
  ·rw[Mp,KP hip] at hp
   rcases Lp.mp hp with z |z
   ·obtain⟨q,hq,rfl⟩:=K9.mp (Q3 p z)
    exact K9.mpr ⟨q,m2 q hq,rfl⟩
   ·have:p=ps[i]:=by simpa using z
    obtain⟨q,hq,e⟩:=m3
    exact K9.mpr ⟨q,hq,by rw[e,this]⟩
  ·refine hR h' tk (λb o hb e=>hm' b o hb ?_) F'
   show h2.get? b=some o
   rw[sb.2 b λz=>hb (by rw[z];exact K3)]
   exact hm b o (λz=>hb (KW _ z)) e
def vA (a:Value){Q1:Value->Shared->Prop}
  (h:Q1 (.ref s.heap.objs.size) {s with heap:=s.heap.push {cls:=.type "set",dict:=none,data:=.set #[] 0 (.fresh 0 0 (jn w))}}) :
  codeAny (model prog w) A (.call (.builtin "set.__new__") ⟨[.type "set",a],[]⟩) (wants Q1 E) s:=by
 refine codeAny_of_tree ?_
 show wpAny _ A.in1 (do (checkBuiltinCall "set.__new__" ⟨[.type "set",a],[]⟩);again (.builtin "set.__new__" ⟨[.type "set",a],[]⟩)) _ _ s
 refine KO (wpAny_of_eq (F.newCall_set_1 a) (KS ⟨plainId_quiet F.plain_set_new _,MG F.entry_set_new ?_⟩))
 rw[Mv F.plain_set_new _]
 (unfold Builtin.«set.__new__» Builtin.Frozenset.newClass)
 have hsub0:=sub_set_self
 obtain⟨hp0,g0,d0,tk0,os0⟩:=s
 dsimp only
 wp_walk
 (refine MV (KS ?_))
 dsimp only
 simp only[newObj]
 (refine KO (wpAny_alloc (KS ?_)))
 exact KS h
def Aw (led:Bool):Tab (.fresh 0 0 led) []:=
 ⟨.inl rfl,rfl,List.Pairwise.nil,λj h=>(by cases (Ms.mpr h)),rfl,(by show (0:Nat) * 5 < 7 * 3;decide),λi j h e=>(by simp[SetTable.fresh] at e),rfl⟩
structure Src (prog:Program)(w:World)(h:Heap)(l:Addr)(vs:List Value)(T:String)(itO:Obj)(St:Addr->Nat->Heap->Prop):Prop where
 ty:∃o,h.get? l=some o/\o.cls=.type T
 ns:isSubtype (.type T) (.type "set")=pure false
 nf:isSubtype (.type T) (.type "frozenset")=pure false
 nd:(Value.type T == Value.type "dict")=false
 it:∀(A:Around) (s1:Shared) (Q:Value->Shared->Prop) (E:Value->Shared->Prop),(∀b o,h.get? b=some o->s1.heap.get? b=some o)->Q (.ref s1.heap.objs.size) {s1 with heap:=s1.heap.push itO}->wpAny (model prog w) A (pyIter (.ref l)) Q E s1
 st:∀(h1:Heap),(∀b o,h.get? b=some o->h1.get? b=some o)->St h1.objs.size 0 (h1.push itO)
 wk:∀(A:Around) (I:Addr),A.handled=none->l≠I->Walks prog w A I [I,l] [I] vs.length (λi v=>vs[i]? =some v) (St I)
def Src.list {h:Heap}{l:Addr}{vs:List Value}(hl:h.IsList l vs.toArray):Src prog w h l vs "list" {cls:=.type "list_iterator",data:=.fields #[.ref l,.int 0 0]} (λI i h'=>h'.IsListIter I l i/\h'.IsList l vs.toArray):=by
 obtain⟨o,ho,hc,n,hd⟩:=id hl
 refine⟨⟨o,ho,hc⟩,F.sub_list_set,F.sub_list_frozenset,by decide,λA s1 Q E k hQ=>MN ⟨o,k _ _ ho,hc,n,hd⟩ hQ,λh1 k=>⟨⟨_,Lf _ rfl,rfl,rfl⟩,⟨o,KQ _ (k _ _ ho),hc,n,hd⟩⟩,λA I hh hne=>?_⟩
 have:=Walks.list (prog:=prog) (w:=w) hh I l hne vs.toArray
 simpa using this
def sub_tuple_set:isSubtype (.type "tuple") (.type "set")=pure false:=by rw[Na];kernel_rfl
def sub_tuple_frozenset:isSubtype (.type "tuple") (.type "frozenset")=pure false:=by rw[Na];kernel_rfl
def Src.tuple {h:Heap}{l:Addr}{vs:List Value}(hl:h.IsTuple l vs.toArray):Src prog w h l vs "tuple" {cls:=.type "tuple_iterator",data:=.fields #[.ref l,.int 0 0]} (λI i h'=>h'.IsTupleIter I l i/\h'.IsTuple l vs.toArray):=by
 obtain⟨o,ho,hc,n,hd⟩:=id hl
 refine⟨⟨o,ho,hc⟩,sub_tuple_set,sub_tuple_frozenset,by decide,λA s1 Q E k hQ=>wpAny_pyIter_tuple ⟨o,k _ _ ho,hc,n,hd⟩ hQ,λh1 k=>⟨⟨_,Lf _ rfl,rfl,rfl⟩,⟨o,KQ _ (k _ _ ho),hc,n,hd⟩⟩,λA I hh hne=>?_⟩
 have:=Walks.tuple (prog:=prog) (w:=w) hh I l hne vs.toArray
 simpa using this
set_option maxHeartbeats 3200000 in
theorem pb {l:Addr}{vs:List Value}{ps:List Pr}{T:String}{itO:Obj}{St:Addr->Nat->Heap->Prop}{Q:Value->Shared->Prop}(X:Src prog w s.heap l vs T itO St)(hh:A.handled=none)(hu:A.units + 64 < cLine)(hps:cS prog w s.heap vs ps)
  (h:∀(h':Heap) (tk:Nat),oN prog w h' s.heap.objs.size vs ps vs.length->(∀b o,s.heap.get? b=some o->h'.get? b=some o)->Q (.ref s.heap.objs.size) {s with heap:=h',toks:=tk}) :
  wpAny (model prog w) A (call (.type "set") [.ref l]) Q E s:=by
 obtain⟨c0,tl0,hmro0⟩:=MB.mro
 have hmade0:=MB.made
 have hsub0:=MB.sub
 refine wpAny_call (codeAny_of_tree ?_)
 show wpAny _ _ (callAny (.type "set") ⟨[.ref l],[]⟩) _ _ _
 refine KS ⟨Code.quiet_builtin _ (by decide +kernel),MG F.entry_type_call ?_⟩
 (rw[Around.under_plain (weight_type_call_type "set" [.ref l] []) rfl])
 have g1:=MB.notType
 have g2:=MB.canCreate
 have g3:=F.typeCall_set_1 (.ref l)
 repeat (any_goals (first |assumption |wp_step))
 refine MQ (vA (.ref l) (E:=E) (Q1:=λobj s1=>obj=.ref s.heap.objs.size/\s1={s with heap:=s.heap.push {cls:=.type "set",dict:=none,data:=.set #[] 0 (.fresh 0 0 (jn w))}}) ⟨rfl,rfl⟩) λr s1 hr=>?_
 cases r with
 |error e=>exact hr
 |ok fl=>
  cases fl with
  |ret obj=>
   obtain⟨rfl,rfl⟩:=hr
   generalize hO:({cls:=.type "set",dict:=none,data:=.set #[] 0 (.fresh 0 0 (jn w))}:Obj)=O
   have hS0:(s.heap.push O).get? s.heap.objs.size=some O:=Lf _ (by rw[<-hO];rfl)
   have hT0:Shared.TypeIs {s with heap:=s.heap.push O} (.ref s.heap.objs.size) "set":=⟨_,hS0,by rw[<-hO]⟩
   have g4:=MB.init.lookup
   have g5:=MB.init.bind (.ref s.heap.objs.size)
   repeat (any_goals (first |assumption |wp_step))
   refine MQ (codeAny_call_builtin (R:=wants (λr s2=>r=.none/\∃h' tk,s2={s with heap:=h',toks:=tk}/\oN prog w h' s.heap.objs.size vs ps vs.length/\(∀b o,s.heap.get? b=some o->h'.get? b=some o)) E)
    MB.init.plain F.entry_set_init (check_set_init_1 hT0 ?_)) λr2 s2 hr2=>?_
   ·obtain⟨ol,hol,hcl⟩:=X.ty
    have hol':(s.heap.push O).get? l=some ol:=KQ _ hol
    have e1:=X.ns
    have e2:=X.nf
    have e3:=X.nd
    have hTl:Shared.TypeIs {s with heap:=s.heap.push O} (.ref l) T:=⟨ol,hol',hcl⟩
    have hdat:O.data=.set #[] 0 (.fresh 0 0 (jn w)):=by rw[<-hO]
    (unfold Builtin.«set.__init__» noKeywords Builtin.Frozenset.updateFrom)
    subst hO
    obtain⟨oc,od,odt,osl⟩:=ol
    simp only at hcl
    subst hcl
    (generalize hPI0:pyIter=PI0)
    wp_walk
    subst hPI0
    have kp:∀b o,s.heap.get? b=some o->(s.heap.push {cls:=.type "set",dict:=none,data:=.set #[] 0 (.fresh 0 0 (jn w))}).get? b=some o:=λb o e=>KQ _ e
    refine X.it _ _ _ _ kp ?_
    refine KO (wpAny_runValue ?_)
    have hlS:l < s.heap.objs.size:=KY hol
    have hh3:A.in1.in1.in1.handled=none:=by simp[hh]
    have hneI:l≠(s.heap.push {cls:=.type "set",dict:=none,data:=.set #[] 0 (.fresh 0 0 (jn w))}).objs.size:=by
     rw[Ma];exact Lr (Nat.lt_succ_of_lt hlS)
    have hSf:s.heap.objs.size∉ [(s.heap.push {cls:=.type "set",dict:=none,data:=.set #[] 0 (.fresh 0 0 (jn w))}).objs.size,l]:=by
     rw[Ma]
     intro z
     rcases KZ.mp z with e |z
     ·exact absurd e (Lr (Nat.lt_succ_self _))
     ·exact absurd (LW.mp z) (Nat.ne_of_gt hlS)
    refine mK (X.wk _ _ hh3 hneI) s.heap.objs.size hSf rfl (λi v e=>e) (by simp;omega) s.heap hps (λb o hb e=>?_) (vs.length - 0) 0 _ (by omega) (LD _) (X.st _ kp) (λb o e=>KQ _ (kp b o e)) ?_ ?_
    ·have hlt:=KY e
     rw[Ma] at hb
     rcases KZ.mp hb with z |z
     ·exact absurd hlt (by rw[z];exact Ln _)
     ·rw[LW.mp z] at hlt
      exact absurd hlt (Nat.not_lt.mpr (Nat.le_succ _))
    ·refine⟨[],⟨⟨_,0,_,KQ _ hS0,⟨rfl,rfl,rfl⟩,rfl,Aw _,rfl⟩,λq hq=>(by cases hq),List.nodup_nil⟩,λq hq=>(by cases hq),λp hp=>(by simp at hp)⟩
    ·intro h' tk hm F'
     show wpAny _ _ _ _ _ _
     refine KS ?_
     show wpAny _ _ (ret Value.none) _ _ _
     refine KS ⟨rfl,h',tk,rfl,F',λb o e=>hm b o (λz=>?_) (KQ _ (kp b o e))⟩
     have hlt:=KY e
     rw[Ma] at z
     rcases KZ.mp z with z |z
     ·exact absurd hlt (by rw[z];exact Ln _)
     ·rw[LW.mp z] at hlt
      exact absurd hlt (Nat.not_lt.mpr (Nat.le_succ _))
   ·cases r2 with
    |error e=>exact hr2
    |ok fl2=>
     cases fl2 with
     |ret r=>
      obtain⟨rfl,h',tk,rfl,hF,hk⟩:=hr2
      repeat (any_goals (first |assumption |wp_step))
      exact h _ _ hF hk
     |_=>exact hr2.elim
  |_=>exact hr.elim
end
end L2.ST
namespace L2.SO
open PySem PySem.W PyProof.Rows
def jQ {α:Type}(lt:Nat->Nat->Bool):KasT α->α
 | .ret a=>a
 | .ask i j k=>jQ lt (k (lt i j))
theorem dW {α β:Type}(lt:Nat->Nat->Bool)(f:α->KasT β):∀t:KasT α,jQ lt (t.bind f)=jQ lt (f (jQ lt t))
 | .ret _=>rfl
 | .ask i j k=>dW lt f (k (lt i j))
def uS {α:Type}(n:Nat)(lt:Nat->Nat->Bool):KasT α->Prop
 | .ret _=>True
 | .ask i j k=>i < n/\j < n/\uS n lt (k (lt i j))
theorem gG {α β:Type}{n:Nat}{lt:Nat->Nat->Bool}{f:α->KasT β}:∀{t:KasT α},uS n lt t->uS n lt (f (jQ lt t))->uS n lt (t.bind f)
 | .ret _,_,h=>h
 | .ask i j k,h,h'=>⟨h.1,h.2.1,gG h.2.2 h'⟩
section
variable {n:Nat}{key:Nat->Int}
abbrev og (key:Nat->Int)(i j:Nat):Bool:=decide (key i < key j)
abbrev Kp (key:Nat->Int)(p:Array Nat)(k:Nat):Int:=key (p.getD k 0)
structure Pm (n:Nat)(p:Array Nat):Prop where
 sz:p.size=n
 nd:p.toList.Nodup
 lt:∀x,x∈p->x < n
def Pm.at {p:Array Nat}(P:Pm n p){k:Nat}(hk:k < n):p.getD k 0 < n:=by
 have h:k < p.size:=by rw[P.sz];exact hk
 simp only[Array.getD,h,dif_pos]
 exact P.lt _ (Array.getElem_mem h)
def Pm.ne {p:Array Nat}(P:Pm n p){i k:Nat}(hi:i < n)(hk:k < n)(hne:i≠k):p.getD i 0≠p.getD k 0:=by
 have h1:i < p.toList.length:=by simpa using (by rw[P.sz];exact hi:i < p.size)
 have h2:k < p.toList.length:=by simpa using (by rw[P.sz];exact hk:k < p.size)
 have h1':i < p.size:=by rw[P.sz];exact hi
 have h2':k < p.size:=by rw[P.sz];exact hk
 have a1:p.getD i 0=p.toList[i]:=by simp[Array.getD,h1']
 have a2:p.getD k 0=p.toList[k]:=by simp[Array.getD,h2']
 rw[a1,a2]
 have q:=Mu.mp P.nd
 rcases LM i k with c |c
 ·exact q i k h1 h2 c
 ·exact (q k i h2 h1 (by omega)).symm
def Pm.perm {p q:Array Nat}(P:Pm n p)(h:q.Perm p):Pm n q:=by
 have h':=Array.perm_iff_toList_perm.mp h
 exact⟨by rw[h.size_eq];exact P.sz,h'.nodup_iff.mpr P.nd,λx hx=>P.lt x (by simpa using h'.mem_iff.mp (by simpa using hx))⟩
def v9 (n:Nat):Pm n (List.toArray (List.range n)):=⟨by simp,by simpa using MA,λx hx=>by simpa using hx⟩
def Inj (n:Nat)(key:Nat->Int):Prop:=∀i j,i < n->j < n->key i=key j->i=j
def Pm.tri {p:Array Nat}(P:Pm n p)(hi:Inj n key){i k:Nat}(h1:i < n)(h2:k < n)(hne:i≠k):Kp key p i < Kp key p k\/Kp key p k < Kp key p i:=by
 have:Kp key p i≠Kp key p k:=λe=>P.ne h1 h2 hne (hi _ _ (P.at h1) (P.at h2) e)
 omega
def Up (key:Nat->Int)(p:Array Nat)(m:Nat):Prop:=∀i j,i < j->j < m->Kp key p i < Kp key p j
def Dn (key:Nat->Int)(p:Array Nat)(m:Nat):Prop:=∀i j,i < j->j < m->Kp key p j < Kp key p i
def Up.snoc {p:Array Nat}{m:Nat}(U:Up key p m)(h1:1<=m)(h:Kp key p (m - 1) < Kp key p m):Up key p (m + 1):=λi j hij hj=>by
 rcases LM j m with c |c
 ·exact U i j hij c
 ·have:j=m:=by omega
  subst this
  rcases LM i (j - 1) with d |d
  ·exact Int.lt_trans (U i (j - 1) d (by omega)) h
  ·have:i=j - 1:=by omega
   rw[this];exact h
def Dn.snoc {p:Array Nat}{m:Nat}(U:Dn key p m)(h1:1<=m)(h:Kp key p m < Kp key p (m - 1)):Dn key p (m + 1):=λi j hij hj=>by
 rcases LM j m with c |c
 ·exact U i j hij c
 ·have:j=m:=by omega
  subst this
  rcases LM i (j - 1) with d |d
  ·exact Int.lt_trans h (U i (j - 1) d (by omega))
  ·have:i=j - 1:=by omega
   rw[this];exact h
theorem qj {p:Array Nat}(P:Pm n p)(hi:Inj n key):∀(f m:Nat),1<=m->m + f<=n->Up key p m->
  ∃r,(jQ (og key) (kas_asc p f m)=r/\uS n (og key) (kas_asc p f m))/\m<=r/\r<=m + f/\Up key p r/\(r < m + f->Kp key p r < Kp key p (r - 1))
 | 0,m,_,_,U=>⟨m,⟨rfl,trivial⟩,KR _,KR _,U,λh=>absurd h (Ln _)⟩
 |f + 1,m,h1,hn,U=>by
  have b1:p.getD m 0 < n:=P.at (by omega)
  have b2:p.getD (m - 1) 0 < n:=P.at (by omega)
  unfold kas_asc jQ uS
  by_cases c:Kp key p m < Kp key p (m - 1)
  ·rw[show og key (p.getD m 0) (p.getD (m - 1) 0)=true from K7 c]
   simp only[LO]
   exact⟨m,⟨rfl,b1,b2,trivial⟩,KR _,by omega,U,λ_=>c⟩
  ·rw[show og key (p.getD m 0) (p.getD (m - 1) 0)=false from Lg c]
   simp only[K6,Lz]
   have up:Kp key p (m - 1) < Kp key p m:=(P.tri hi (by omega) (by omega) (by omega)).resolve_right c
   obtain⟨r,⟨e,o⟩,a,b,u,d⟩:=qj P hi f (m + 1) (by omega) (by omega) (U.snoc h1 up)
   exact⟨r,⟨e,b1,b2,o⟩,by omega,by omega,u,λh=>d (by omega)⟩
theorem so {p:Array Nat}(P:Pm n p)(hi:Inj n key):∀(f m:Nat),1<=m->m + f<=n->Dn key p m->
  ∃r,(jQ (og key) (kas_desc f p m 0)=(p,r,0)/\uS n (og key) (kas_desc f p m 0))/\m<=r/\r<=m + f/\Dn key p r
 | 0,m,_,_,U=>⟨m,⟨rfl,trivial⟩,KR _,KR _,U⟩
 |f + 1,m,h1,hn,U=>by
  have b1:p.getD m 0 < n:=P.at (by omega)
  have b2:p.getD (m - 1) 0 < n:=P.at (by omega)
  unfold kas_desc jQ uS
  by_cases c:Kp key p m < Kp key p (m - 1)
  ·rw[show og key (p.getD m 0) (p.getD (m - 1) 0)=true from K7 c]
   simp only[LO,Ln,gt_iff_lt,Lz]
   obtain⟨r,⟨e,o⟩,a,b,u⟩:=so P hi f (m + 1) (by omega) (by omega) (U.snoc h1 c)
   exact⟨r,⟨e,b1,b2,o⟩,by omega,by omega,u⟩
  ·rw[show og key (p.getD m 0) (p.getD (m - 1) 0)=false from Lg c]
   simp only[K6,Lz]
   unfold jQ uS
   have up:Kp key p (m - 1) < Kp key p m:=(P.tri hi (by omega) (by omega) (by omega)).resolve_right c
   rw[show og key (p.getD (m - 1) 0) (p.getD m 0)=true from K7 up]
   simp only[LO]
   exact⟨m,⟨rfl,b1,b2,b2,b1,trivial⟩,KR _,by omega,U⟩
def CD {p:Array Nat}{j k:Nat}(hj:j<=p.size)(hk:k < j):(kas_rev p 0 j).getD k 0=p.getD (j - 1 - k) 0:=by
 unfold kas_rev
 rw[Lv,getElem?_mirror_all hj k,KU ⟨LD _,hk⟩,Lv]
 congr 2
 omega
def GN {p:Array Nat}{m:Nat}(hm:m<=p.size)(D:Dn key p m):Up key (kas_rev p 0 m) m:=λi j hij hj=>by
 unfold Kp
 rw[CD hm (by omega),CD hm hj]
 exact D (m - 1 - j) (m - 1 - i) (by omega) (by omega)
def Pm.rev {p:Array Nat}(P:Pm n p)(j:Nat):Pm n (kas_rev p 0 j):=P.perm (mirror_perm ..)
def wR {p:Array Nat}(P:Pm n p)(hi:Inj n key)(h1:1<=n) :
  ∃m q,(jQ (og key) (kas_count n p)=(m,q)/\uS n (og key) (kas_count n p))/\Pm n q/\1<=m/\m<=n/\Up key q m:=by
 obtain⟨r,⟨e,o⟩,a,b,u,d⟩:=qj P hi (n - 1) 1 (KR _) (by omega) (λi j hij hj=>by omega)
 have rest:∃m q,(jQ (og key) (if (r == n)=true then KasT.ret (r,p) else if r > 1 then .ask (p.getD 0 0) (p.getD (r - 1) 0) λc=>if c=true then .ret (r,p) else kas_descPart r n (kas_rev p 0 r) else kas_descPart r n p)=(m,q)/\
   uS n (og key) (if (r == n)=true then KasT.ret (r,p) else if r > 1 then .ask (p.getD 0 0) (p.getD (r - 1) 0) λc=>if c=true then .ret (r,p) else kas_descPart r n (kas_rev p 0 r) else kas_descPart r n p))/\Pm n q/\1<=m/\m<=n/\Up key q m:=by
  by_cases c:(r == n)=true
  ·rw[KU c]
   exact⟨r,p,⟨rfl,trivial⟩,P,a,by omega,u⟩
  ·rw[K0 c]
   have hrn:r≠n:=by simpa using c
   have dd:=d (by omega)
   by_cases c2:r > 1
   ·rw[KU c2]
    unfold jQ uS
    rw[show og key (p.getD 0 0) (p.getD (r - 1) 0)=true from K7 (u 0 (r - 1) (by omega) (by omega))]
    simp only[LO]
    exact⟨r,p,⟨rfl,P.at (by omega),P.at (by omega),trivial⟩,P,a,by omega,u⟩
   ·rw[K0 c2]
    have hr1:r=1:=by omega
    subst hr1
    unfold kas_descPart
    rw[dW]
    have D2:Dn key p 2:=λi j hij hj=>by
     have e1:i=0:=by omega
     have e2:j=1:=by omega
     rw[e1,e2];exact dd
    obtain⟨x,⟨e2,o2⟩,a2,b2,u2⟩:=so P hi (n - 2) 2 (by omega) (by omega) D2
    obtain⟨y,⟨e3,o3⟩,a3,b3,u3,_⟩:=qj (P.rev x) hi (n - x) x (by omega) (by omega) (GN (by rw[P.sz];omega) u2)
    rw[show n - (1 + 1)=n - 2 from rfl,show (1 + 1:Nat)=2 from rfl]
    have t3:uS n (og key) (kas_tail3 x n p):=by
     unfold kas_tail3
     exact gG o3 trivial
    refine⟨y,kas_rev p 0 x,⟨?_,gG o2 ?_⟩,P.rev x,by omega,by omega,u3⟩
    ·rw[e2]
     simp only[Ln,gt_iff_lt,Lz]
     unfold kas_tail3
     rw[dW,e3]
     rfl
    ·rw[e2]
     simp only[Ln,gt_iff_lt,Lz]
     exact t3
 obtain⟨m,q,⟨f1,f2⟩,f3⟩:=rest
 refine⟨m,q,⟨?_,?_⟩,f3⟩
 ·unfold kas_count
  rw[dW,e]
  exact f1
 ·unfold kas_count
  refine gG o ?_
  rw[e]
  exact f2
theorem place_spec {p:Array Nat}{k:Nat}(P:Pm n p)(hi:Inj n key)(hk:k < n)(U:Up key p k):∀(f l r:Nat),l<=r->r<=k->r - l<=f->(∀i,i < l->Kp key p i < Kp key p k)->(∀i,r<=i->i < k->Kp key p k < Kp key p i)->
  ∃x,(jQ (og key) (kas_place p k f l r)=x/\uS n (og key) (kas_place p k f l r))/\x<=k/\(∀i,i < x->Kp key p i < Kp key p k)/\(∀i,x<=i->i < k->Kp key p k < Kp key p i)
 | 0,l,r,h1,h2,h3,a,b=>⟨l,⟨rfl,trivial⟩,by omega,a,λi hi=>b i (by omega)⟩
 |f + 1,l,r,h1,h2,h3,a,b=>by
  unfold kas_place
  by_cases c:l>=r
  ·rw[KU c]
   exact⟨l,⟨rfl,trivial⟩,by omega,a,λi hi=>b i (by omega)⟩
  ·rw[K0 c]
   have b1:p.getD k 0 < n:=P.at hk
   have b2:p.getD ((l + r) / 2) 0 < n:=P.at (by omega)
   unfold jQ uS
   by_cases d:Kp key p k < Kp key p ((l + r) / 2)
   ·rw[show og key (p.getD k 0) (p.getD ((l + r) / 2) 0)=true from K7 d]
    simp only[LO]
    have side:∀i,(l + r) / 2<=i->i < k->Kp key p k < Kp key p i:=λi h1 h2=>by
     rcases LM ((l + r) / 2) i with z |z
     ·exact Int.lt_trans d (U _ _ z h2)
     ·have:i=(l + r) / 2:=by omega
      rw[this];exact d
    obtain⟨x,⟨e1,e2⟩,e3⟩:=place_spec P hi hk U f l ((l + r) / 2) (by omega) (by omega) (by omega) a side
    exact⟨x,⟨e1,b1,b2,e2⟩,e3⟩
   ·rw[show og key (p.getD k 0) (p.getD ((l + r) / 2) 0)=false from Lg d]
    simp only[K6,Lz]
    have d':Kp key p ((l + r) / 2) < Kp key p k:=(P.tri hi (by omega) hk (by omega)).resolve_right d
    have side:∀i,i < (l + r) / 2 + 1->Kp key p i < Kp key p k:=λi h=>by
     rcases LM i ((l + r) / 2) with z |z
     ·exact Int.lt_trans (U _ _ z (by omega)) d'
     ·have:i=(l + r) / 2:=by omega
      rw[this];exact d'
    obtain⟨x,⟨e1,e2⟩,e3⟩:=place_spec P hi hk U f ((l + r) / 2 + 1) r (by omega) h2 (by omega) side b
    exact⟨x,⟨e1,b1,b2,e2⟩,e3⟩
def BD {p:Array Nat}{k l j:Nat}(hk:k < p.size)(hl:l<=k):(bubble p k (k - l)).getD j 0=if j=l then p.getD k 0 else if l < j/\j<=k then p.getD (j - 1) 0 else p.getD j 0:=by
 rw[Lv,getElem?_bubble hk (k - l) (by omega) j,show k - (k - l)=l by omega]
 simp only[Lv]
 split
 ·rfl
 ·split <;> rfl
theorem vv (hi:Inj n key):∀(f k:Nat) (p:Array Nat),Pm n p->1<=k->k + f=n->Up key p k->∃q,(jQ (og key) (kas_bin f p k)=q/\uS n (og key) (kas_bin f p k))/\Pm n q/\Up key q n
 | 0,k,p,P,_,e,U=>⟨p,⟨rfl,trivial⟩,P,by rw[<-e];exact U⟩
 |f + 1,k,p,P,h1,e,U=>by
  have hk:k < n:=by omega
  obtain⟨l,⟨el,ol⟩,hl,a,b⟩:=place_spec P hi hk U k 0 k (LD _) (KR _) (by omega) (λi h=>by omega) (λi h h'=>by omega)
  have side:Up key (bubble p k (k - l)) (k + 1):=λi j hij hj=>by
   have hks:k < p.size:=by rw[P.sz];exact hk
   unfold Kp
   rw[BD hks hl,BD hks hl]
   by_cases i1:i=l
   ·rw[KU i1,K0 (by omega)]
    by_cases j2:l < j/\j<=k
    ·rw[KU j2];exact b _ (by omega) (by omega)
    ·omega
   ·rw[K0 i1]
    by_cases i2:l < i/\i<=k
    ·rw[KU i2,K0 (by omega),KU (by omega)]
     exact U _ _ (by omega) (by omega)
    ·rw[K0 i2]
     by_cases j1:j=l
     ·rw[KU j1];exact a _ (by omega)
     ·rw[K0 j1]
      by_cases j2:l < j/\j<=k
      ·rw[KU j2]
       rcases LM i (j - 1) with z |z
       ·exact U _ _ z (by omega)
       ·omega
      ·rw[K0 j2];exact U _ _ hij (by omega)
  obtain⟨q,⟨q1,q2⟩,q3⟩:=vv hi f (k + 1) (bubble p k (k - l)) (P.perm (bubble_perm ..)) (by omega) (by omega) side
  refine⟨q,⟨?_,?_⟩,q3⟩
  ·unfold kas_bin;rw[dW,el];exact q1
  ·unfold kas_bin;refine gG ol ?_;rw[el];exact q2
def zQ (hi:Inj n key)(h2:2<=n):∃q,(jQ (og key) (kas_sort n)=q/\uS n (og key) (kas_sort n))/\Pm n q/\Up key q n:=by
 obtain⟨m,q,⟨e,o⟩,P,a,b,u⟩:=wR (v9 n) hi (by omega)
 by_cases c:m < n
 ·obtain⟨q',⟨e1,o1⟩,r⟩:=vv hi (n - m) m q P a (by omega) u
  refine⟨q',⟨?_,?_⟩,r⟩
  ·unfold kas_sort;rw[dW,e];dsimp only;rw[KU c,Nat.max_eq_left a];exact e1
  ·unfold kas_sort;refine gG o ?_;rw[e];dsimp only;rw[KU c,Nat.max_eq_left a];exact o1
 ·refine⟨q,⟨?_,?_⟩,P,λi j hij hj=>u i j hij (by omega)⟩
  ·unfold kas_sort;rw[dW,e];dsimp only;rw[K0 c];rfl
  ·unfold kas_sort;refine gG o ?_;rw[e];dsimp only;rw[K0 c];trivial
theorem wp_run {α:Type}{n:Nat}{lt:Nat->Nat->Bool}{cmp:Nat->Nat->(Bool->Shared->Prop)->Shared->Prop}{Q:α->Shared->Prop}{s:Shared} :
  ∀(t:KasT α),(∀i j C,i < n->j < n->C (lt i j) s->cmp i j C s)->uS n lt t->Q (jQ lt t) s->t.kasWp cmp Q s
 | .ret a,_,_,h=>h
 | .ask i j k,hc,ho,h=>hc i j _ ho.1 ho.2.1 (wp_run (k (lt i j)) hc ho.2.2 h)
end
end L2.SO
namespace L2.ST
open PySem PySem.SetTable PySem.W PyProof.Rows
def code (p:Pr):Int:=p.1 * 8 + p.2
def yN {p q:Pr}(h1:Sm p)(h2:Sm q):code p < code q↔p.1 < q.1\/(p.1=q.1/\p.2 < q.2):=by
 unfold code Sm at *;omega
def code_inj {p q:Pr}(h1:Sm p)(h2:Sm q)(e:code p=code q):p=q:=by
 unfold code Sm at *
 refine Prod.ext ?_ ?_ <;> omega
section
variable {prog:Program}{w:World}{A:Around}{E:Value->Shared->Prop}{s:Shared}
abbrev rz (ps:List Pr)(i:Nat):Int:=code (ps.getD i (0,0))
def BB {ps:List Pr}(nd:ps.Nodup)(hs:∀p,p∈ps->Sm p):L2.SO.Inj ps.length (rz ps):=λi j hi hj e=>by
 have a1:ps.getD i (0,0)=ps[i]:=by simp[hi]
 have a2:ps.getD j (0,0)=ps[j]:=by simp[hj]
 unfold rz at e
 rw[a1,a2] at e
 have e':=code_inj (hs _ (LV hi)) (hs _ (LV hj)) e
 have q:=Mu.mp nd
 rcases Nd i j with c |c |c
 ·exact absurd e' (q i j hi hj c)
 ·exact c
 ·exact absurd e'.symm (q j i hj hi c)
theorem DY {a b:Addr}{p q:Pr}{Q:Bool->Shared->Prop}(ha:bI prog w s.heap p a)(hb:bI prog w s.heap q b)(hp:Sm p)(hq:Sm q)(h:Q (decide (code p < code q)) s) :
  wpAny (model prog w) A (keyLt' (tuples' true) (.ref a) (.ref b)) Q E s:=by
 obtain⟨oa,ia,na,hoa,hca,hda,hia⟩:=ha
 obtain⟨ob,ib,nb,hob,hcb,hdb,hib⟩:=hb
 obtain⟨l1,rfl⟩:∃l,ia=List.toArray l:=⟨ia.toList,by simp⟩
 obtain⟨l2,rfl⟩:∃l,ib=List.toArray l:=⟨ib.toList,by simp⟩
 simp only[L3] at hia hib
 cases hia with
 | @cons _ v1 _ _ h1 hia=>
  cases hia with
  | @cons _ v2 _ _ h2 hia=>
   cases hia
   cases hib with
   | @cons _ u1 _ _ g1 hib=>
    cases hib with
    | @cons _ u2 _ _ g2 hib=>
     cases hib
     obtain⟨t1,rfl⟩:=Mh h1
     obtain⟨t2,rfl⟩:=Mh h2
     obtain⟨t3,rfl⟩:=Mh g1
     obtain⟨t4,rfl⟩:=Mh g2
     refine kat_lt hoa hda hob hdb ?_
     have hc:=yN hp hq
     refine kat_cons (wpAny_eqBool_int ?_)
     by_cases e1:p.1=q.1
     ·rw[show (p.1 == q.1)=true by simpa using e1]
      refine kat_yes (kat_cons (wpAny_eqBool_int ?_))
      by_cases e2:p.2=q.2
      ·rw[show (p.2 == q.2)=true by simpa using e2]
       refine kat_yes (kat_nil ?_)
       have:decide (code p < code q)=false:=Lg (by rw[hc];omega)
       rw[this] at h
       simpa using h
      ·rw[show (p.2 == q.2)=false by simpa using e2]
       refine kat_no ?_
       show wpAny _ _ (oneLt' false _ _) _ _ _
       refine kat_one _ _ (lt_int ?_)
       have:decide (code p < code q)=decide (p.2 < q.2):=by
        by_cases z:p.2 < q.2
        ·rw[K7 z];exact K7 (hc.mpr (.inr ⟨e1,z⟩))
        ·rw[Lg z];exact Lg (by rw[hc];omega)
       rw[this] at h;exact h
     ·rw[show (p.1 == q.1)=false by simpa using e1]
      refine kat_no ?_
      show wpAny _ _ (oneLt' true _ _) _ _ _
      refine oneLt_int ?_
      have:decide (code p < code q)=decide (p.1 < q.1):=by
       by_cases z:p.1 < q.1
       ·rw[K7 z];exact K7 (hc.mpr (.inl z))
       ·rw[Lg z];exact Lg (by rw[hc];omega)
      rw[this] at h;exact h
theorem yL:∀{vs:List Value} {ps:List Pr},cS prog w s.heap vs ps->∃fs,KatTups s.heap vs fs/\fs.length=vs.length/\∀v∈fs,∃(i:Int) (t:Tok),v=.int i t
 | [],ps,_=>⟨[],KatTups.nil,rfl,λv hv=>by cases hv⟩
 |v :: vs,[],h=>by have:=h.1;simp at this
 |v :: vs,p :: ps,h=>by
  obtain⟨a,rfl,⟨o,items,n,ho,hc,hd,hi⟩,_⟩:=h.2 0 v p rfl rfl
  obtain⟨fs,k,e,f⟩:=yL (vs:=vs) (ps:=ps) ⟨by simpa using h.1,λi v p h1 h2=>h.2 (i + 1) v p (by simpa using h1) (by simpa using h2)⟩
  obtain⟨l1,rfl⟩:∃l,items=List.toArray l:=⟨items.toList,by simp⟩
  simp only[L3] at hi
  cases hi with
  | @cons _ v1 _ _ h1 hi=>
   obtain⟨t1,rfl⟩:=Mh h1
   exact⟨_ :: fs,KatTups.cons ho hc hd rfl k,by simp[e],λv hv=>by
    rcases KZ.mp hv with z |z
    ·exact⟨_,_,z⟩
    ·exact f v z⟩
def u9 {a:Addr}{vs:List Value}{ps:List Pr}{n:Nat}{P:PySem.Fin->Shared->Prop}(ho:s.heap.get? a=some (seqObj "list" vs.toArray n))(hps:cS prog w s.heap vs ps)(nd:ps.Nodup)(h64:vs.length < 64)
  (h:∀(h':Heap) (c:Nat) (ix:Array Nat),L2.SO.Pm vs.length ix->L2.SO.Up (rz ps) ix vs.length->(∀b o,b≠a->s.heap.get? b=some o->h'.get? b=some o)->
   h'.get? a=some (seqObj "list" (ix.toList.map λi=>vs.getD i Value.none).toArray c)->P (.done (.ret .none)) {s with heap:=h'}) :
  wpAny (model prog w) A (Builtin.«list.sort» ⟨[.ref a],[]⟩) P E s:=by
 have ha:a < s.heap.objs.size:=KY ho
 obtain⟨e1,ho1⟩:∃e1,(s.heap.update a (Obj.mapSeq λ_=>(#[]:Array Value))).get? a=some (seqObj "list" #[] e1):=⟨_,get?_update_seq ho λ_=>#[]⟩
 generalize hH1:(s.heap.update a (Obj.mapSeq λ_=>(#[]:Array Value)))=H1 at ho1
 have sb1:Heap.SameBut a s.heap H1:=by rw[<-hH1];exact Heap.SameBut.update ..
 have kp2:∀b o,H1.get? b=some o->((H1.push (seqObj "tuple" vs.toArray 0)).push (seqObj "list" #[] 0)).get? b=some o:=λb o e=>KQ _ (KQ _ e)
 generalize hH2:((H1.push (seqObj "tuple" vs.toArray 0)).push (seqObj "list" #[] 0))=H2 at kp2
 have kp:∀b o,b≠a->s.heap.get? b=some o->H2.get? b=some o:=λb o hb e=>kp2 b o ((sb1.2 b hb).trans e)
 have ho2:=kp2 _ _ ho1
 have hps2:cS prog w H2 vs ps:=⟨hps.1,λi v p h1 h2=>by
  obtain⟨b,e,⟨o,it,m,hb,hc,hd,r⟩,hs⟩:=hps.2 i v p h1 h2
  refine⟨b,e,⟨o,it,m,kp b o (λz=>?_) hb,hc,hd,r⟩,hs⟩
  subst z
  rw[ho] at hb;cases hb
  exact absurd hc (by simp[seqObj])⟩
 have hz:vs.length<=sizeLine:=by rw[Lo];omega
 rw[list_sort_plain]
 refine KO (listItems_at ho rfl (KO (listUpdate_at ho rfl ?_ (by simpa using hz) (LD _))))
 rw[hH1]
 refine KO (seqEpoch_at (s:={s with heap:=H1}) ho1 rfl (KO (wpAny_newTuple ?_ (by simpa using hz))))
 refine KO (wpAny_newList ?_ (LD _))
 refine L5 ?_
 show wpAny (model prog w) A _ P E {s with heap:=(H1.push (seqObj "tuple" vs.toArray 0)).push (seqObj "list" #[] 0)}
 rw[hH2]
 have fin:∀(ix:Array Nat) (st:SortSt),L2.SO.Pm vs.length ix->L2.SO.Up (rz ps) ix vs.length->(arrOf st).map (·.2)=List.toArray (ix.toList.map λi=>vs.getD i Value.none)->failedOf st=none->
   wpAny (model prog w) A (do
    let sorted:=(arrOf st).map (·.2)
    let touched:=(<-seqEpoch a) != e1
    Builtin.List.listUpdate (.ref a) λ_=>sorted
    if let some e:=failedOf st then rule "list.sort.comparison-raised";throw e
    if touched then rule "list.sort.modified";raiseError "ValueError" "list modified during sort"
    ret .none) P E {s with heap:=H2}:=λix st P1 U1 hout hf=>by
  dsimp only
  rw[hout]
  have hsz:(List.toArray (ix.toList.map λi=>vs.getD i Value.none)).size=vs.length:=by simp[P1.sz]
  refine KO (seqEpoch_at (s:={s with heap:=H2}) ho2 rfl ?_)
  refine KO (listUpdate_at (s:={s with heap:=H2}) ho2 rfl ?_ (LD _) (L4 (Nat.le_of_eq hsz) (Nat.le_succ_of_le hz)))
  rw[hf]
  simp only[bne_self_eq_false,K6,Lz]
  obtain⟨c2,hc2⟩:∃c2,(H2.update a (Obj.mapSeq λ_=>List.toArray (ix.toList.map λi=>vs.getD i Value.none))).get? a=some (seqObj "list" (List.toArray (ix.toList.map λi=>vs.getD i Value.none)) c2):=⟨_,get?_update_seq ho2 λ_=>List.toArray (ix.toList.map λi=>vs.getD i Value.none)⟩
  exact KS (h _ c2 ix P1 U1 (λb o hb e=>((Heap.SameBut.update H2 a _).2 b hb).trans (kp b o hb e)) hc2)
 by_cases h2:vs.length < 2
 ·have h2':vs.toArray.size < 2:=by simpa using h2
  dsimp only
  rw[KU h2',KU h2']
  refine KO (KS ?_)
  rw[StateT.run_pure]
  refine KO (KS ?_)
  refine fin (List.toArray (List.range vs.length)) (SortSt.mk' general' (vs.toArray.zip vs.toArray) #[] 7 none) (L2.SO.v9 _) (λi j hij hj=>by omega) ?_ rfl
  have:∀{l:List Value},l.length < 2->((l.toArray.zip l.toArray).map (·.2))=List.toArray ((List.range l.length).map λi=>l.getD i Value.none):=λ{l} hl=>by
   match l,hl with
   | [],_=>simp
   | [x],_=>simp
  exact (this h2).trans (by simp)
 ·have h2':¬vs.toArray.size < 2:=by simpa using h2
  dsimp only
  rw[K0 h2',K0 h2']
  obtain⟨fs,kt,fl,ff⟩:=yL (s:={s with heap:=H2}) hps2
  refine KO (kat_kind (s:={s with heap:=H2}) (T:=.type "int") kt (by omega) (λv hv=>?_) (by decide) ?_)
  ·obtain⟨i,t,rfl⟩:=ff v hv
   exact .now
  ·rw[show ((Value.type "int" != Value.type "tuple"):Bool)=true by decide]
   have hinj:L2.SO.Inj vs.length (rz ps):=by
    rw[hps.1]
    refine BB nd λp hp=>?_
    obtain⟨i,hi,e⟩:=Lq.mp hp
    have hi':i < vs.length:=by rw[hps.1];exact hi
    obtain⟨_,_,_,hs⟩:=hps.2 i vs[i] p (KP hi') (by rw[KP hi,e])
    exact hs
   obtain⟨ix,⟨er,ok⟩,P1,U1⟩:=L2.SO.zQ hinj (by omega)
   refine KO (LR (kat_run (s:={s with heap:=H2}) (κ:=tuples' true) (ks:=vs) (Q:=λst s'=>s'={s with heap:=H2}/\arrOf st=ix.map (kas_item (vs.toArray.zip vs.toArray))/\failedOf st=none)
    (G:=λp s'=>p=ix/\s'={s with heap:=H2}) rfl (by omega) h64 (λp st s' a1 a2 a3 a4=>?_) (L2.SO.wp_run (n:=vs.length) (lt:=L2.SO.og (rz ps)) _ (λi j C hi hj hC=>?_) ok ⟨er,rfl⟩)) ?_ λ_ _ x=>x)
   ·obtain⟨rfl,rfl⟩:=a4
    exact⟨rfl,a2,a3⟩
   ·unfold kas_ask
    have hi':i < ps.length:=by rw[<-hps.1];exact hi
    have hj':j < ps.length:=by rw[<-hps.1];exact hj
    obtain⟨b1,eb1,hb1,s1⟩:=hps2.2 i vs[i] ps[i] (KP hi) (KP hi')
    obtain⟨b2,eb2,hb2,s2⟩:=hps2.2 j vs[j] ps[j] (KP hj) (KP hj')
    have e1:vs.getD i Value.none=.ref b1:=by rw[<-eb1];simp[hi]
    have e2:vs.getD j Value.none=.ref b2:=by rw[<-eb2];simp[hj]
    rw[e1,e2]
    refine DY (s:={s with heap:=H2}) hb1 hb2 s1 s2 ?_
    have:L2.SO.og (rz ps) i j=decide (code ps[i] < code ps[j]):=by
     unfold L2.SO.og rz;simp[hi',hj']
    rw[<-this];exact hC
   ·rintro⟨⟨⟩,st⟩ s' ⟨rfl,har,hf⟩
    exact fin ix st P1 U1 (kat_snds rfl har) hf
end
def bS:Slot "set_iterator" "__next__" "set_iterator.__next__":=
 Slot.of (owner:="set_iterator") (n:="__next__") (by rw[typeLookup_type,builtinLookup_eq_fast];kernel_rfl) (by decide +kernel) (by decide +kernel) (by decide +kernel) (by first |exact .inl (by decide +kernel) |exact .inr (by decide +kernel)) (by rw[Na];kernel_rfl)
def iR:entryFor table "set_iterator.__next__"=some Builtin.«set_iterator.__next__»:=entryFor_of_tree (by kernel_rfl)
def jO (a:Value):argsOk "set_iterator.__next__" ⟨[a],[]⟩:=by unfold argsOk;kernel_rfl
def qp:entryFor table "set.__iter__"=some Builtin.«frozenset.__iter__»:=entryFor_alias (id':="frozenset.__iter__") (by kernel_rfl) rfl (by decide +kernel) (by kernel_rfl)
def jN:Slot "set_iterator" "__iter__" "set_iterator.__iter__":=
 Slot.of (owner:="set_iterator") (n:="__iter__") (by rw[typeLookup_type,builtinLookup_eq_fast];kernel_rfl) (by decide +kernel) (by decide +kernel) (by decide +kernel) (by first |exact .inl (by decide +kernel) |exact .inr (by decide +kernel)) (by rw[Na];kernel_rfl)
def nk:entryFor table "set_iterator.__iter__"=some Builtin.«dict_keyiterator.__iter__»:=entryFor_alias (id':="dict_keyiterator.__iter__") (by kernel_rfl) rfl (by decide +kernel) (by kernel_rfl)
def oy (a:Value):argsOk "set_iterator.__iter__" ⟨[a],[]⟩:=by unfold argsOk;kernel_rfl
def D3 (a:Addr)(slot given ep0:Nat):setNext a slot given ep0=(do
  let (es,epoch,t) <-setState a
  if (<-ask).params.followText "set-order" then
   if epoch != ep0 then unsupported "set_iterator.__next__:elements-changed"
   return ((<-setWalk a)[given]?).map λe=>(e.2,slot)
  if !t.plain && es.size > 1 then unsupported "set_iterator.__next__:the-table-is-plain-no-more"
  let u:Unit <-(show Sem Unit from do if !t.led && !es.isEmpty then unsupported "set:maker-not-led")
  let i:=SetTable.below t.place slot
  return match es[i]?,t.place[i]? with
   |some (_,x),some j=>some (x,j + 1)
   |_,_=>none):=by
 unfold setNext setsByText
 simp only[bind_assoc,pure_bind]
 rfl
def D4 (a:Addr):setWalk a=(do
  let (es,epoch,t) <-setState a
  if (<-ask).params.followText "set-order" then return pickOrder ((<-ask).params.setOrder a epoch) es
  if !t.plain && es.size > 1 then return (<-drawOrder es.size es.toList).toArray
  let u:Unit <-(show Sem Unit from do if !t.led && es.size > 1 then unsupported "set:maker-not-led")
  return es):=by
 unfold setWalk setsByText
 simp only[bind_assoc,pure_bind]
 rfl
def BS (a:Addr):setDrawn a=(do
  let (es,_,t) <-setState a
  let byText <-(do return (<-ask).params.followText "set-order")
  return !byText && (!t.plain && es.size > 1)):=rfl
theorem gO {α:Type}:∀(l:List α) (i:Nat) (h:i < l.length),(l[i] :: l.eraseIdx i).Perm l
 |a :: l,0,_=>List.Perm.refl _
 |a :: l,i + 1,h=>by
  have hi:i < l.length:=by simpa using h
  show (l[i] :: a :: l.eraseIdx i).Perm (a :: l)
  exact (List.Perm.swap ..).trans ((gO l i hi).cons a)
theorem r9 {α:Type}(next:Nat->Nat):∀(fuel k:Nat) (left:List α) (out:Array α),left.length=fuel->(pickOrder.go next fuel k left out).toList.Perm (out.toList ++ left)
 | 0,k,left,out,h=>by
  have:left= []:=List.length_eq_zero_iff.mp h
  subst this
  unfold pickOrder.go
  simp
 |fuel + 1,k,left,out,h=>by
  unfold pickOrder.go
  have hlt:next k % left.length < left.length:=Nat.mod_lt _ (by omega)
  rw[KP hlt]
  dsimp only
  refine (r9 next fuel (k + 1) _ _ (by rw[List.length_eraseIdx_of_lt hlt];omega)).trans ?_
  rw[Array.toList_push,Mo]
  refine List.Perm.append_left _ ?_
  exact gO left _ hlt
def j4 {α:Type}(next:Nat->Nat)(xs:Array α):(pickOrder next xs).toList.Perm xs.toList:=by
 have:=r9 next xs.size 0 xs.toList #[] (by simp)
 simpa[pickOrder] using this
section
variable {prog:Program}{w:World}{A:Around}{E:Value->Shared->Prop}{s:Shared}
def told (w:World)(S:Addr)(ep:Nat)(es:Array (Int×Value)):Array (Int×Value):=if w.params.followText "set-order" then pickOrder (w.params.setOrder S ep) es else es
def se (w:World)(S:Addr)(ep:Nat)(es:Array (Int×Value)):(told w S ep es).toList.Perm es.toList:=by
 unfold told;split
 ·exact j4 _ _
 ·exact List.Perm.refl _
abbrev uW (S:Addr)(slot k n ep:Nat):Obj:={cls:=.type "set_iterator",data:=.fields #[.int (slot:Int) 0,.int (k:Int) 0,.ref S,.int (n:Int) 0,.int (ep:Int) 0]}
structure mV (w:World)(S:Addr)(o:Obj)(es:Array (Int×Value))(ep:Nat)(t:SetTable)(I:Addr)(k:Nat)(h:Heap):Prop where
 set:h.get? S=some o
 data:o.data=.set es ep t
 cls:o.cls=.type "set"
 tab:Tab t (es.toList.map (·.1))
 led:t.led=jn w
 it:∃slot,h.get? I=some (uW S slot k es.size ep)/\(jn w=true->slot=if k=0 then 0 else t.place.getD (k - 1) 0 + 1)
def mV.fits {S I:Addr}{o:Obj}{es:Array (Int×Value)}{ep k:Nat}{t:SetTable}{h:Heap}(X:mV w S o es ep t I k h):t.fits es.size=true:=qu X.tab (by simp)
theorem yU {S I:Addr}{o:Obj}{es:Array (Int×Value)}{ep k slot:Nat}{t:SetTable}{Q:Option (Value×Nat)->Shared->Prop}(X:mV w S o es ep t I k s.heap)(hk:k<=es.size)(hs:jn w=true->slot=if k=0 then 0 else t.place.getD (k - 1) 0 + 1)
  (h:∀(r:Option (Value×Nat)),(k < es.size->∃x nx,r=some (x,nx)/\(told w S ep es)[k]?.map (·.2)=some x/\(jn w=true->nx=t.place.getD k 0 + 1))->(k=es.size->r=none)->Q r s) :
  wpAny (model prog w) A (setNext S slot k ep) Q E s:=by
 rw[D3]
 refine KO (LI X.set X.data X.fits ?_)
 dsimp only
 refine KO (MV ?_)
 dsimp only
 cases hb:w.params.followText "set-order" with
 |true=>
  rw[KU (show (model prog w).w.params.followText "set-order"=true from hb)]
  simp only[bne_self_eq_false,K6,Lz]
  rw[D4]
  refine KO (KO (LI X.set X.data X.fits ?_))
  dsimp only
  refine KO (MV ?_)
  dsimp only
  rw[KU (show (model prog w).w.params.followText "set-order"=true from hb)]
  refine KO (MV (KS (KS ?_)))
  have et:told w S ep es=pickOrder (w.params.setOrder S ep) es:=by unfold told;rw[KU hb]
  have hsz:(pickOrder (w.params.setOrder S ep) es).size=es.size:=by
   have:=(j4 (w.params.setOrder S ep) es).length_eq;simpa using this
  refine h _ (λhlt=>?_) (λe=>?_)
  ·have hlt':k < (pickOrder (w.params.setOrder S ep) es).size:=by rw[hsz];exact hlt
   refine⟨(pickOrder (w.params.setOrder S ep) es)[k].2,slot,?_,?_,λz=>?_⟩
   ·show Option.map _ (pickOrder (w.params.setOrder S ep) es)[k]? =_
    rw[Lm hlt'];rfl
   ·rw[et,Lm hlt'];rfl
   ·unfold jn at z;rw[hb] at z;cases z
  ·show Option.map _ (pickOrder (w.params.setOrder S ep) es)[k]? =_
   rw[ML (by rw[hsz];omega)];rfl
 |false=>
  rw[K0 (show ¬(model prog w).w.params.followText "set-order"=true by intro z;rw[show (model prog w).w.params.followText "set-order"=false from hb] at z;cases z)]
  have hl:jn w=true:=by unfold jn;rw[hb];rfl
  rw[X.tab.plain,X.led,hl]
  simp only[ME,Bool.false_and,K6,Lz]
  have et:told w S ep es=es:=by unfold told;rw[hb];simp
  have hps:t.place.size=es.size:=by simpa using X.tab.size
  have hbl:below t.place slot=k:=by
   rw[hs hl]
   obtain⟨b1,b2,b3⟩:=dt X.tab.rise (if k=0 then 0 else t.place.getD (k - 1) 0 + 1)
   by_cases k0:k=0
   ·subst k0
    simp only[LO] at b1 b2 b3 ⊢
    rcases Nat.eq_zero_or_pos (below t.place 0) with z |z
    ·exact z
    ·have:=b2 0 z;omega
   ·rw[K0 k0] at b1 b2 b3 ⊢
    have hk1:k - 1 < t.place.size:=by omega
    rcases Nd (below t.place (t.place.getD (k - 1) 0 + 1)) k with z |z |z
    ·have q:=b3 (k - 1) (by omega) hk1
     have e:t.place.getD (k - 1) (t.place.getD (k - 1) 0 + 1)=t.place.getD (k - 1) 0:=by simp[Array.getD,hk1]
     omega
    ·exact z
    ·have hks:k < t.place.size:=by omega
     have q:=b2 k z
     have e:t.place.getD k (t.place.getD (k - 1) 0 + 1)=t.place.getD k 0:=by simp[Array.getD,hks]
     have:=hJ (d:=0) X.tab.rise (show k - 1 < k by omega) hks
     omega
  refine KS ?_
  rw[hbl]
  refine h _ (λhlt=>?_) (λe=>?_)
  ·have hlt2:k < t.place.size:=by omega
   refine⟨es[k].2,t.place[k] + 1,?_,?_,λ_=>?_⟩
   ·rw[Lm hlt,Lm hlt2]
   ·rw[et,Lm hlt];rfl
   ·simp[Array.getD,hlt2]
  ·rw[ML (by omega)]
def zt {S I:Addr}{o:Obj}{es:Array (Int×Value)}{ep:Nat}{t:SetTable}(hh:A.handled=none)(hne:S≠I) :
  Walks prog w A I [I,S] [I] es.size (λi v=>(told w S ep es)[i]?.map (·.2)=some v) (λi h=>mV w S o es ep t I i h) where
 sub:=λb hb=>KZ.mpr (.inl (LW.mp hb))
 frame:=λi h h' X k=>by
  obtain⟨slot,e,r⟩:=X.it
  exact⟨k S (by simp) _ X.set,X.data,X.cls,X.tab,X.led,slot,k I (by simp) _ e,r⟩
 item:=λi s Q E hi X hQ=>by
  obtain⟨slot,e,r⟩:=X.it
  have hT:s.TypeIs (.ref I) "set_iterator":=⟨_,e,rfl⟩
  unfold pyNext
  refine KO (wpAny_attempt (wpAny_callSpecial?_slot (name:=Str.ofString "__next__") hT bS (MW bS hT iR ?_ (jO _))))
  unfold Builtin.«set_iterator.__next__»
  refine KO (m:=slotArgs "__next__" 0 _) (KS ?_)
  dsimp only
  unfold fieldsOf
  refine KO (KO (wpAny_load e (KS ?_)))
  dsimp only
  unfold setEntries
  refine KO (KO (LI X.set X.data X.fits (KS ?_)))
  dsimp only
  rw[K0 (by simp)]
  refine KO ?_
  simp only[LK]
  refine yU X (MP hi) r λrr h1 _=>?_
  obtain⟨x,nx,rfl,h2,h3⟩:=h1 hi
  dsimp only
  refine KO (MR e rfl (by simp) ?_)
  have e2:=LJ (Obj.mapFields λvs=>vs.setIfInBounds 0 (rawInt (nx:Int))) e rfl
  refine KO (MR e2 rfl (by simp) ?_)
  refine KS ⟨x,rfl,KS ?_⟩
  have sb:=(Heap.SameBut.update s.heap I (Obj.mapFields λvs=>vs.setIfInBounds 0 (rawInt (nx:Int)))).trans (Heap.SameBut.update _ I (Obj.mapFields λvs=>vs.setIfInBounds 1 (rawInt ((i:Int) + 1))))
  refine hQ x _ _ h2 ⟨(sb.2 S hne).trans X.set,X.data,X.cls,X.tab,X.led,nx,?_,λz=>?_⟩ λb o hb eb=>(sb.2 b (by simpa using hb)).trans eb
  ·exact LJ (Obj.mapFields λvs=>vs.setIfInBounds 1 (rawInt ((i:Int) + 1))) e2 rfl
  ·rw[K0 (by omega)];exact h3 z
 done:=λs Q E X hQ=>by
  obtain⟨slot,e,r⟩:=X.it
  have hT:s.TypeIs (.ref I) "set_iterator":=⟨_,e,rfl⟩
  unfold pyNext
  refine KO (wpAny_attempt (wpAny_callSpecial?_slot (name:=Str.ofString "__next__") hT bS (MW bS hT iR ?_ (jO _))))
  unfold Builtin.«set_iterator.__next__»
  refine KO (m:=slotArgs "__next__" 0 _) (KS ?_)
  dsimp only
  unfold fieldsOf
  refine KO (KO (wpAny_load e (KS ?_)))
  dsimp only
  unfold setEntries
  refine KO (KO (LI X.set X.data X.fits (KS ?_)))
  dsimp only
  rw[K0 (by simp)]
  refine KO ?_
  simp only[LK]
  refine yU X (KR _) r λrr _ h1=>?_
  rw[h1 rfl]
  dsimp only
  refine KO (MR e rfl (by simp) ?_)
  (show wpAny _ _ (newExc (.type "StopIteration") [] >>= λx=>raiseNew x) _ _ _)
  refine KO ?_
  simp only[newExc,newTuple]
  (refine KO (MO ?_ (by size_fits)))
  (refine KO (m:=firstArgMember _ _) (wpAny_of_eq (a:=Value.none) (by first |rfl | (simp only[firstArgMember];rfl)) ?_))
  (refine MO ?_ (by size_fits))
  simp only[raiseNew]
  refine KO (wpAny_handled ?_)
  (rw[show A.in1.handled=none from hh])
  refine KO (KS (wpAny_throw ?_))
  refine KO (wpAny_isInstance (T:="StopIteration") (b:=true) ⟨_,Lf _ rfl,rfl⟩ isSubtype_stop (KS (hQ _ _ λb o hb eb=>?_)))
  exact KQ _ (KQ _ (((Heap.SameBut.update ..).2 b (by simpa using hb)).trans eb))
 self:=λi s Q E X hQ=>by
  obtain⟨slot,e,r⟩:=X.it
  have hT:s.TypeIs (.ref I) "set_iterator":=⟨_,e,rfl⟩
  refine wpAny_pyIter_slot hT jN (MW jN hT nk ?_ (oy _))
  show wpAny _ _ (ret (.ref I)) _ _ s
  exact KS ⟨_,rfl,"set_iterator",_,hT,bS.lookup,hQ⟩
def Ba {S:Addr}{o:Obj}{es:Array (Int×Value)}{ep:Nat}{t:SetTable}{Q:Value->Shared->Prop}(ho:s.heap.get? S=some o)(hd:o.data=.set es ep t)(hc:o.cls=.type "set")(T:Tab t (es.toList.map (·.1)))(hl:t.led=jn w)
  (h:Q (.ref s.heap.objs.size) {s with heap:=s.heap.push (uW S 0 0 es.size ep)}):wpAny (model prog w) A (pyIter (.ref S)) Q E s:=by
 have hT:s.TypeIs (.ref S) "set":=⟨o,ho,hc⟩
 have hf:t.fits es.size=true:=qu T (by simp)
 refine wpAny_pyIter_slot hT F.slot_set_iter (MW F.slot_set_iter hT qp ?_ (F.args_set_iter_1 _))
 unfold Builtin.«frozenset.__iter__» Builtin.Frozenset.slot0
 refine KO (KO (m:=slotArgs "__iter__" 0 _) (KS (KS ?_)))
 unfold Builtin.Frozenset.sizeOf setEntries
 refine KO (KO (KO (LI ho hd hf (KS (KS ?_)))))
 rw[BS]
 refine KO (KO (LI ho hd hf ?_))
 dsimp only
 refine KO (KO (MV (KS (KS ?_))))
 rw[T.plain]
 simp only[ME,Bool.false_and,Bool.and_false,K6,Lz]
 refine KO (KS ?_)
 unfold setEpoch
 refine KO (KO (LI ho hd hf (KS ?_)))
 refine KO (MO (KS ⟨_,rfl,"set_iterator",_,⟨_,Lf _ rfl,rfl⟩,bS.lookup,h⟩))
def vd {S:Addr}{o:Obj}{es:Array (Int×Value)}{ep:Nat}{t:SetTable}{Q:List Value->Shared->Prop}(hh:A.handled=none)(ho:s.heap.get? S=some o)(hd:o.data=.set es ep t)(hc:o.cls=.type "set")(T:Tab t (es.toList.map (·.1)))(hl:t.led=jn w)
  (hn:es.size<=64) (h:∀h' tk vs,vs=(told w S ep es).toList.map (·.2)->(∀b o,s.heap.get? b=some o->h'.get? b=some o)->Q vs {s with heap:=h',toks:=tk}):wpAny (model prog w) A (collect (.ref S)) Q E s:=by
 have hz:es.size<=sizeLine:=by rw[Lo];omega
 unfold collect
 (refine KO (wpAny_runValue (MG F.entry_proto_collect ?_)))
 (rw[Mv F.plain_proto_collect _])
 show wpAny _ A.in1 (newList [] >>= λl=>again (.builtin "list.__iadd__" ⟨[l,.ref S],[]⟩)) _ _ s
 refine KO (MO ?_)
 (refine KS ⟨plainId_quiet F.plain_list_iadd _,MG F.entry_list_iadd ?_⟩)
 (rw[Mv F.plain_list_iadd _])
 show wpAny _ A.in1 (Builtin.List.listExtendWith (.ref s.heap.objs.size) (.ref S) (.ref s.heap.objs.size)) _ _ {s with heap:=s.heap.push (seqObj "list" #[] 0)}
 generalize hH:s.heap.push (seqObj "list" #[] 0)=H1
 have kp1:∀b o,s.heap.get? b=some o->H1.get? b=some o:=λb o e=>by rw[<-hH];exact KQ _ e
 have hD:H1.get? s.heap.objs.size=some (seqObj "list" #[] 0):=by rw[<-hH];exact Lf _ rfl
 have hHs:H1.objs.size=s.heap.objs.size + 1:=by rw[<-hH];exact Ma ..
 have hSD:S≠s.heap.objs.size:=Lr (KY ho)
 have hT:Shared.TypeIs {s with heap:=H1} (.ref S) "set":=⟨o,kp1 _ _ ho,hc⟩
 unfold Builtin.List.listExtendWith
 refine KO (wpAny_typeOf hT ?_)
 have h1:Builtin.List.listSameRef (.ref s.heap.objs.size) (.ref S)=false:=by simp[Builtin.List.listSameRef,Ne.symm hSD]
 have h2:(Value.type "set" == Value.type "list")=false:=by decide
 have h3:(Value.type "set" == Value.type "tuple")=false:=by decide
 rw[h1,h2,h3]
 simp only[Bool.or_false,K6,Lz]
 refine KO (Ba (s:={s with heap:=H1}) (kp1 _ _ ho) hd hc T hl ?_)
 refine KO (L5 ?_)
 unfold Builtin.List.listLengthHint
 have hT2:Shared.TypeIs {s with heap:=H1.push (uW S 0 0 es.size ep)} (.ref S) "set":=⟨o,KQ _ (kp1 _ _ ho),hc⟩
 refine KO (wpAny_specialOf hT2 F.slot_set_len.lookup ?_)
 wp_delta
 refine KO (wpAny_isInstance hT2 (b:=true) (by rw[Na];kernel_rfl) ?_)
 show wpAny _ A.in1 (typeOf (Value.ref S) >>= λ_=>_) _ _ _
 refine KO (wpAny_typeOf hT2 ?_)
 refine KS ?_
 show wpAny _ A.in1 (rule "list.extend.makes-room" >>= λ_=>Builtin.List.listTouch (.ref s.heap.objs.size) >>= λ_=>again (.builtin "list.extend.loop" ⟨[.ref s.heap.objs.size,.ref H1.objs.size,.ref s.heap.objs.size],[]⟩)) _ _ _
 refine KO (wpAny_rule (KO ?_))
 generalize hH2:H1.push (uW S 0 0 es.size ep)=H2
 have kp2:∀b o,H1.get? b=some o->H2.get? b=some o:=λb o e=>by rw[<-hH2];exact KQ _ e
 have hI:H2.get? H1.objs.size=some (uW S 0 0 es.size ep):=by rw[<-hH2];exact Lf _ rfl
 have hS0:=kp2 _ _ hD
 show wpAny _ A.in1 (updateSeq s.heap.objs.size (·.push .none) >>= λ_=>updateSeq s.heap.objs.size (·.pop)) _ _ _
 refine KO (wpAny_updateSeq (s:={s with heap:=H2}) hS0 rfl ?_)
 have hS2:=LJ (Obj.mapSeq (·.push Value.none)) hS0 rfl
 refine wpAny_updateSeq (hz:=by seq_fits) hS2 rfl ?_
 have hS3:=LJ (Obj.mapSeq (·.pop)) hS2 rfl
 have oth:∀b o,b≠s.heap.objs.size->H2.get? b=some o->((H2.update s.heap.objs.size (Obj.mapSeq (·.push Value.none))).update s.heap.objs.size (Obj.mapSeq (·.pop))).get? b=some o:=λb o hb e=>
  ((Heap.SameBut.update _ s.heap.objs.size (Obj.mapSeq (·.pop))).2 b hb).trans (((Heap.SameBut.update H2 s.heap.objs.size (Obj.mapSeq (·.push Value.none))).2 b hb).trans e)
 have hIS:S≠H1.objs.size:=by rw[hHs];exact Lr (Nat.lt_succ_of_lt (KY ho))
 have hID:H1.objs.size≠s.heap.objs.size:=by rw[hHs];exact Nat.succ_ne_self _
 have hDf:s.heap.objs.size∉ [H1.objs.size,S]:=λz=>by
  rcases KZ.mp z with e |z
  ·exact hID e.symm
  ·exact hSD (LW.mp z).symm
 have X0:mV w S o es ep t H1.objs.size 0 ((H2.update s.heap.objs.size (Obj.mapSeq (·.push Value.none))).update s.heap.objs.size (Obj.mapSeq (·.pop))):=
  ⟨oth _ _ hSD (kp2 _ _ (kp1 _ _ ho)),hd,hc,T,hl,0,oth _ _ hID hI,λ_=>rfl⟩
 refine KS ⟨plainId_quiet F.plain_extend_loop _,codeAny_extend_loopS (zt (A:=A.in1) (o:=o) (t:=t) hh hIS).toS hz _ hDf _ es.size 0 _ _ _ rfl (LD _) X0 hS3 (ItemsOf.nil _) λs' acc' c' hm hS' hacc=>?_⟩
 show wpAny _ A (load s.heap.objs.size >>= λ_=>_) _ _ s'
 refine KO (wpAny_load hS' (KS ?_))
 obtain⟨h',g',d',tk',os'⟩:=s'
 have eg:g'=s.gens:=hm.gens
 have ed:d'=s.drawn:=hm.drawn
 have eo:os'=s.os:=hm.os
 subst eg ed eo
 refine h h' tk' acc'.toList ?_ λb ob e=>hm.heap b ob (λhb=>?_) (oth b ob (Lr (KY e)) (kp2 _ _ (kp1 _ _ e)))
 ·have hts:(told w S ep es).size=es.size:=by have:=(se w S ep es).length_eq;simpa using this
  apply Nf
  intro i
  rw[K2]
  by_cases hi:i < es.size
  ·have hi1:i < acc'.size:=by rw[hacc.1];exact hi
   have q:=hacc.2 i acc'[i] (Lm hi1)
   rw[L9,L9,Lm hi1]
   exact q.symm
  ·rw[L9,L9,ML (by rw[hacc.1];omega),ML (by omega)];rfl
 ·have hlt:=KY e
  rcases KZ.mp hb with z |z
  ·rw[z] at hlt;exact Ln _ hlt
  ·rw[LW.mp z,hHs] at hlt;exact absurd hlt (Nat.not_lt.mpr (Nat.le_succ _))
end
end L2.ST
namespace OM
abbrev Pr:=Int×Int
def C8 (p q:Pr):Prop:=p.1 < q.1\/(p.1=q.1/\p.2 < q.2)
instance (p q:Pr):Decidable (C8 p q):=by unfold C8;infer_instance
def je (p:Pr):¬C8 p p:=by unfold C8;omega
def AB {p q r:Pr}(a:C8 p q)(b:C8 q r):C8 p r:=by unfold C8 at *;omega
abbrev uq (l:List Pr):Prop:=l.Pairwise C8
theorem jo:∀{l m:List Pr},uq l->uq m->(∀x,x∈l↔x∈m)->l=m
 | [],[],_,_,_=>rfl
 | [],b :: m,_,_,h=>absurd ((h b).mpr (K3 ..)) (by simp)
 |a :: l,[],_,_,h=>absurd ((h a).mp (K3 ..)) (by simp)
 |a :: l,b :: m,hl,hm,h=>by
  have hl':=List.pairwise_cons.mp hl
  have hm':=List.pairwise_cons.mp hm
  have e:a=b:=by
   rcases KZ.mp ((h a).mp (K3 ..)) with e |e
   ·exact e
   ·rcases KZ.mp ((h b).mpr (K3 ..)) with e' |e'
    ·exact e'.symm
    ·exact absurd (AB (hm'.1 a e) (hl'.1 b e')) (je _)
  subst e
  congr 1
  refine jo hl'.2 hm'.2 λx=>⟨λhx=>?_,λhx=>?_⟩
  ·rcases KZ.mp ((h x).mp (KW _ hx)) with e |e
   ·subst e;exact absurd (hl'.1 x hx) (je _)
   ·exact e
  ·rcases KZ.mp ((h x).mpr (KW _ hx)) with e |e
   ·subst e;exact absurd (hm'.1 x hx) (je _)
   ·exact e
def kH {l:List Pr}(h:uq l):l.Nodup:=h.imp λ{a b} hab e=>by subst e;exact je _ hab
def pZ {l:List Pr}(p:Pr->Bool)(h:uq l):uq (l.filter p):=h.sublist List.filter_sublist
def gL (n:Nat):List Pr:=(List.range (n * n)).map λk=>(((k / n:Nat):Int),((k % n:Nat):Int))
def gK {n:Nat}{p:Pr}:p∈gL n↔(0<=p.1/\p.1 < n)/\(0<=p.2/\p.2 < n):=by
 unfold gL
 rw[K9]
 constructor
 ·rintro⟨k,hk,rfl⟩
  have hk:=Ll.mp hk
  have hn:0 < n:=by
   rcases Nat.eq_zero_or_pos n with e |e
   ·subst e;omega
   ·exact e
  have h1:k / n < n:=Nat.div_lt_of_lt_mul hk
  have h2:k % n < n:=Nat.mod_lt _ hn
  generalize k / n=q at h1
  generalize k % n=r at h2
  exact⟨⟨Int.natCast_nonneg _,by dsimp only;omega⟩,⟨Int.natCast_nonneg _,by dsimp only;omega⟩⟩
 ·rintro⟨⟨a0,a1⟩,⟨b0,b1⟩⟩
  have hn:0 < n:=by omega
  refine⟨p.1.toNat * n + p.2.toNat,Ll.mpr ?_,?_⟩
  ·have h1:p.1.toNat + 1<=n:=by omega
   have h2:p.2.toNat < n:=by omega
   have:=Nat.mul_le_mul_right n h1
   rw[Nat.add_mul] at this
   omega
  ·have h2:p.2.toNat < n:=by omega
   have e1:(p.1.toNat * n + p.2.toNat) / n=p.1.toNat:=by
    rw[Nat.mul_comm,Nat.mul_add_div hn,Nat.div_eq_of_lt h2];rfl
   have e2:(p.1.toNat * n + p.2.toNat) % n=p.2.toNat:=by
    rw[Nat.mul_comm,Nat.mul_add_mod,Nat.mod_eq_of_lt h2]
   rw[e1,e2]
   refine Prod.ext ?_ ?_ <;> dsimp only <;> omega
def qm (n:Nat):uq (gL n):=by
 unfold gL
 refine LS.mpr (Me ?_ List.pairwise_lt_range)
 intro a b ha hb hab
 have ha:=Ll.mp ha
 have hb:=Ll.mp hb
 have hn:0 < n:=by
  rcases Nat.eq_zero_or_pos n with e |e
  ·subst e;omega
  ·exact e
 have h1:a / n<=b / n:=Nat.div_le_div_right (MP hab)
 have e1:=Nat.div_add_mod a n
 have e2:=Nat.div_add_mod b n
 unfold C8
 dsimp only
 rcases LM (a / n) (b / n) with c |c
 ·left;omega
 ·right
  have e:a / n=b / n:=by omega
  rw[e] at e1
  omega
open Classical in
noncomputable def bP (n:Nat)(R:Int->Int->Prop):List Pr:=(gL n).filter λp=>decide (R p.1 p.2)
def bg {n:Nat}{R:Int->Int->Prop}{p:Pr}:p∈bP n R↔((0<=p.1/\p.1 < n)/\(0<=p.2/\p.2 < n))/\R p.1 p.2:=by
 unfold bP
 rw[M4,gK]
 simp
def cY (n:Nat)(R:Int->Int->Prop):uq (bP n R):=pZ _ (qm n)
def xV {n:Nat}{R S:Int->Int->Prop}(h:∀a b:Int,0<=a->a < n->0<=b->b < n->(R a b↔S a b)):bP n R=bP n S:=by
 refine jo (cY n R) (cY n S) λx=>?_
 rw[bg,bg]
 constructor
 ·rintro⟨⟨⟨a,b⟩,c,d⟩,r⟩;exact⟨⟨⟨a,b⟩,c,d⟩,(h _ _ a b c d).mp r⟩
 ·rintro⟨⟨⟨a,b⟩,c,d⟩,r⟩;exact⟨⟨⟨a,b⟩,c,d⟩,(h _ _ a b c d).mpr r⟩
def Wn (n:Nat)(l:List Pr):Prop:=∀p,p∈l->(0<=p.1/\p.1 < n)/\(0<=p.2/\p.2 < n)
abbrev Mem (l:List Pr)(a b:Int):Prop:=(a,b)∈l
def Ak {n:Nat}{l:List Pr}(w:Wn n l)(r:uq l):bP n (Mem l)=l:=by
 refine jo (cY n _) r λx=>?_
 rw[bg]
 exact⟨λh=>h.2,λh=>⟨w x h,h⟩⟩
def sV (n:Nat)(R:Int->Int->Prop):Wn n (bP n R):=λ_ h=>(bg.mp h).1
def BF (n:Nat)(R:Int->Int->Prop):(bP n R).length<=n * n:=by
 unfold bP
 refine L4 (List.length_filter_le ..) ?_
 unfold gL;simp
inductive Tr (R:Int->Int->Prop):Int->Int->Prop
 |one {a b}:R a b->Tr R a b
 |more {a b c}:R a b->Tr R b c->Tr R a c
theorem Tr.trans {R:Int->Int->Prop}{a b c:Int}(h:Tr R a b)(k:Tr R b c):Tr R a c:=by
 induction h with
 |one r=>exact .more r k
 |more r _ ih=>exact .more r (ih k)
theorem Tr.least {R S:Int->Int->Prop}(f:∀a b,R a b->S a b)(t:∀a b c,S a b->S b c->S a c){a b:Int}(h:Tr R a b):S a b:=by
 induction h with
 |one r=>exact f _ _ r
 |more r _ ih=>exact t _ _ _ (f _ _ r) ih
structure Ord (n:Nat)(l:List Pr):Prop where
 lo:1<=n
 hi:n<=8
 wn:Wn n l
 ris:uq l
 irr:∀a,(a,a)∉l
 tr:∀a b c,(a,b)∈l->(b,c)∈l->(a,c)∈l
def Ord.tr_mem {n:Nat}{l:List Pr}(O:Ord n l){a b:Int}:Tr (Mem l) a b↔(a,b)∈l:=
 ⟨λh=>h.least (λ_ _ r=>r) λa b c=>O.tr a b c,λh=>.one h⟩
def Ord.closed {n:Nat}{l:List Pr}(O:Ord n l):bP n (Tr (Mem l))=l:=by
 rw[xV (S:=Mem l) λa b _ _ _ _=>O.tr_mem,Ak O.wn O.ris]
def FG {n:Nat}{l:List Pr}(h1:1<=n)(h8:n<=8)(w:Wn n l)(hr:∀a,¬Tr (Mem l) a a):Ord n (bP n (Tr (Mem l))):=
 ⟨h1,h8,sV n _,cY n _,λa h=>hr a (bg.mp h).2,λa b c h k=>bg.mpr ⟨⟨(bg.mp h).1.1,(bg.mp k).1.2⟩,(bg.mp h).2.trans (bg.mp k).2⟩⟩
theorem fD {l m:List Pr}(hl:l.Nodup)(h:∀x,x∈l->x∈m):l.length<=m.length:=by
 induction l generalizing m with
 |nil=>exact LD _
 |cons a l ih=>
  have ha:=h a (K3 ..)
  have hl':=LG.mp hl
  have:=ih (m:=m.erase a) hl'.2 λx hx=>by
   refine (List.mem_erase_of_ne ?_).mpr (h x (KW _ hx))
   rintro rfl;exact hl'.1 hx
  rw[M8 ha] at this
  have:0 < m.length:=List.length_pos_of_mem ha
  simp only[Lu];omega
def sub_eq {l m:List Pr}(hl:uq l)(hm:uq m)(h:∀x,x∈l->x∈m)(e:l.length=m.length):l=m:=by
 refine jo hl hm λx=>⟨h x,λhx=>Classical.byContradiction λhn=>?_⟩
 have:=fD (l:=x :: l) (m:=m) (LG.mpr ⟨hn,kH hl⟩) λy hy=>by
  rcases KZ.mp hy with e |e
  ·subst e;exact hx
  ·exact h y e
 simp only[Lu] at this
 omega
def more (l:List Pr):List Pr:=l.flatMap λp=>(l.filter λq=>decide (q.1=p.2)).map λq=>(p.1,q.2)
def pH {l:List Pr}{x:Pr}:x∈more l↔∃b,(x.1,b)∈l/\(b,x.2)∈l:=by
 unfold more
 rw[List.mem_flatMap]
 constructor
 ·rintro⟨p,hp,hx⟩
  obtain⟨q,hq,rfl⟩:=K9.mp hx
  obtain⟨hq,e⟩:=M4.mp hq
  have e:q.1=p.2:=by simpa using e
  exact⟨p.2,hp,by rw[<-e];exact hq⟩
 ·rintro⟨b,h1,h2⟩
  exact⟨(x.1,b),h1,K9.mpr ⟨(b,x.2),M4.mpr ⟨h2,by simp⟩,rfl⟩⟩
noncomputable def jW (n:Nat)(l:List Pr):List Pr:=bP n (Mem (l ++ more l))
structure EV (n:Nat)(ps l:List Pr):Prop where
 wn:Wn n l
 ris:uq l
 sub:∀x,x∈ps->x∈l
 sup:∀x,x∈l->Tr (Mem ps) x.1 x.2
def zv {n:Nat}{ps:List Pr}(w:Wn n ps):EV n ps (bP n (Mem ps)):=
 ⟨sV n _,cY n _,λx hx=>bg.mpr ⟨w x hx,hx⟩,λ_ hx=>.one (bg.mp hx).2⟩
def Bs {n:Nat}{ps l:List Pr}(B:EV n ps l):Wn n (l ++ more l):=λx hx=>by
 rcases Lp.mp hx with h |h
 ·exact B.wn x h
 ·obtain⟨b,h1,h2⟩:=pH.mp h
  exact⟨(B.wn _ h1).1,(B.wn _ h2).2⟩
def u0 {n:Nat}{ps l:List Pr}(B:EV n ps l):EV n ps (jW n l)/\∀x,x∈l->x∈jW n l:=by
 have hs:∀x,x∈l->x∈jW n l:=λx hx=>bg.mpr ⟨B.wn x hx,Mr _ hx⟩
 refine⟨⟨sV n _,cY n _,λx hx=>hs x (B.sub x hx),λx hx=>?_⟩,hs⟩
 rcases Lp.mp (bg.mp hx).2 with h |h
 ·exact B.sup _ h
 ·obtain⟨b,h1,h2⟩:=pH.mp h
  exact (B.sup _ h1).trans (B.sup _ h2)
def Cs {n:Nat}{ps l:List Pr}(B:EV n ps l)(e:(jW n l).length=l.length):jW n l=bP n (Tr (Mem ps)):=by
 obtain⟨B2,hs⟩:=u0 B
 have q:l=jW n l:=sub_eq B.ris B2.ris hs e.symm
 refine jo B2.ris (cY n _) λx=>⟨λh=>bg.mpr ⟨B2.wn x h,B2.sup x h⟩,λh=>?_⟩
 rw[<-q]
 have tr:∀a b c:Int,(a,b)∈l->(b,c)∈l->(a,c)∈l:=λa b c h1 h2=>by
  rw[q]
  exact bg.mpr ⟨⟨(B.wn _ h1).1,(B.wn _ h2).2⟩,Ls _ (pH.mpr ⟨b,h1,h2⟩)⟩
 exact (bg.mp h).2.least (S:=Mem l) (λa b r=>B.sub _ r) tr
abbrev Tb:=Nat->Nat->Bool
def Tb.set (M:Tb)(a b:Nat):Tb:=λx y=>if x=a/\y=b then true else M x y
def Eu (M:Tb)(m:Nat):Prop:=∀k a b,k < m->M a k=true->M k b=true->M a b=true
def Phase (M0 M:Tb)(m:Nat)(D:Nat->Nat->Prop):Prop:=∀a b,M a b=true↔M0 a b=true\/(D a b/\M0 a m=true/\M0 m b=true)
def Phase.start (M:Tb)(m:Nat):Phase M M m λ_ _=>False:=λa b=>by simp
def Phase.row {M0 M:Tb}{m:Nat}{D:Nat->Nat->Prop}(P:Phase M0 M m D)(a:Nat):M a m=true↔M0 a m=true:=by
 rw[P]
 exact⟨λh=>h.elim id λh=>h.2.1,.inl⟩
def Phase.col {M0 M:Tb}{m:Nat}{D:Nat->Nat->Prop}(P:Phase M0 M m D)(b:Nat):M m b=true↔M0 m b=true:=by
 rw[P]
 exact⟨λh=>h.elim id λh=>h.2.2,.inl⟩
def Phase.step {M0 M:Tb}{m:Nat}{D:Nat->Nat->Prop}(P:Phase M0 M m D)(x y:Nat) :
  Phase M0 (if M x m=true/\M m y=true then M.set x y else M) m (λa b=>D a b\/(a=x/\b=y)):=λa b=>by
 have r:=P.row x
 have c:=P.col y
 by_cases h:M x m=true/\M m y=true
 ·rw[KU h]
  unfold Tb.set
  by_cases e:a=x/\b=y
  ·rw[KU e]
   obtain⟨rfl,rfl⟩:=e
   simp only[true_iff]
   exact .inr ⟨.inr (by simp),r.mp h.1,c.mp h.2⟩
  ·rw[K0 e,P]
   constructor
   ·rintro (q | ⟨d,q⟩)
    ·exact .inl q
    ·exact .inr ⟨.inl d,q⟩
   ·rintro (q | ⟨d |d,q⟩)
    ·exact .inl q
    ·exact .inr ⟨d,q⟩
    ·exact absurd d e
 ·rw[K0 h,P]
  constructor
  ·rintro (q | ⟨d,q⟩)
   ·exact .inl q
   ·exact .inr ⟨.inl d,q⟩
  ·rintro (q | ⟨d | ⟨rfl,rfl⟩,q1,q2⟩)
   ·exact .inl q
   ·exact .inr ⟨d,q1,q2⟩
   ·exact absurd ⟨r.mpr q1,c.mpr q2⟩ h
def Phase.done {M0 M:Tb}{m n:Nat}{D:Nat->Nat->Prop}(P:Phase M0 M m D)(hD:∀a b,a < n->b < n->D a b)(hM:∀a b,M0 a b=true->a < n/\b < n)(T:Eu M0 m) :
  Eu M (m + 1)/\∀a b,M a b=true->a < n/\b < n:=by
 have hM':∀a b,M a b=true->a < n/\b < n:=λa b h=>by
  rcases (P a b).mp h with q | ⟨_,q1,q2⟩
  ·exact hM a b q
  ·exact⟨(hM _ _ q1).1,(hM _ _ q2).2⟩
 have put:∀a b,M0 a m=true->M0 m b=true->M a b=true:=λa b h1 h2=>(P a b).mpr (.inr ⟨hD a b (hM _ _ h1).1 (hM _ _ h2).2,h1,h2⟩)
 refine⟨λk a b hk h1 h2=>?_,hM'⟩
 rcases LM k m with c |c
 ·rcases (P a k).mp h1 with q1 | ⟨_,q1,q1'⟩
  ·rcases (P k b).mp h2 with q2 | ⟨_,q2,q2'⟩
   ·exact (P a b).mpr (.inl (T k a b c q1 q2))
   ·exact put a b (T k a m c q1 q2) q2'
  ·rcases (P k b).mp h2 with q2 | ⟨_,q2,q2'⟩
   ·exact put a b q1 (T k m b c q1' q2)
   ·exact put a b q1 q2'
 ·have e:k=m:=by omega
  subst e
  exact put a b ((P.row a).mp h1) ((P.col b).mp h2)
structure Tab (n:Nat)(ps:List Pr)(M:Tb):Prop where
 inn:∀a b,M a b=true->a < n/\b < n
 sub:∀a b:Nat,((a:Int),(b:Int))∈ps->M a b=true
 sup:∀a b:Nat,M a b=true->Tr (Mem ps) a b
def Tab.phase {n:Nat}{ps:List Pr}{M0 M:Tb}{m:Nat}{D:Nat->Nat->Prop}(T:Tab n ps M0)(P:Phase M0 M m D):Tab n ps M:=
 ⟨λa b h=>by
  rcases (P a b).mp h with q | ⟨_,q1,q2⟩
  ·exact T.inn a b q
  ·exact⟨(T.inn _ _ q1).1,(T.inn _ _ q2).2⟩,
  λa b h=>(P a b).mpr (.inl (T.sub a b h)),
  λa b h=>by
  rcases (P a b).mp h with q | ⟨_,q1,q2⟩
  ·exact T.sup a b q
  ·exact (T.sup _ _ q1).trans (T.sup _ _ q2)⟩
def Tab.all {n:Nat}{ps:List Pr}{M:Tb}(w:Wn n ps)(T:Tab n ps M)(H:Eu M n)(a b:Nat):M a b=true↔Tr (Mem ps) a b:=by
 refine⟨T.sup a b,λh=>?_⟩
 have key:∀{x y:Int},Tr (Mem ps) x y->M x.toNat y.toNat=true:=λ{x y} h=>by
  induction h with
  | @one x y r=>
   have:=w _ r
   refine T.sub _ _ ?_
   have e1:((x.toNat:Nat):Int)=x:=by simp only at this;omega
   have e2:((y.toNat:Nat):Int)=y:=by simp only at this;omega
   rw[e1,e2];exact r
  | @more x y z r _ ih=>
   have:=w _ r
   have e1:((x.toNat:Nat):Int)=x:=by simp only at this;omega
   have e2:((y.toNat:Nat):Int)=y:=by simp only at this;omega
   have q:M x.toNat y.toNat=true:=T.sub _ _ (by rw[e1,e2];exact r)
   exact H y.toNat _ _ (T.inn _ _ q).2 q ih
 have:=key h
 simpa using this
end OM
namespace L2.ST
open PySem PySem.SetTable PySem.W PyProof.Rows
section
variable {prog:Program}{w:World}{A:Around}{E:Value->Shared->Prop}{s:Shared}
def FK {ps:List Pr}(hs:∀p,p∈ps->Sm p){ix:Array Nat}(P:L2.SO.Pm ps.length ix)(U:L2.SO.Up (rz ps) ix ps.length):OM.uq (ix.toList.map λi=>ps.getD i (0,0)):=by
 refine LS.mpr (Mu.mpr λi j hi hj hij=>?_)
 have hi':i < ix.size:=by simpa using hi
 have hj':j < ix.size:=by simpa using hj
 have q:=U i j hij (by rw[<-P.sz];exact hj')
 unfold L2.SO.Kp rz at q
 have ei:ix.getD i 0=ix.toList[i]:=by simp[Array.getD,hi']
 have ej:ix.getD j 0=ix.toList[j]:=by simp[Array.getD,hj']
 rw[ei,ej] at q
 have ai:ix.toList[i] < ps.length:=P.lt _ (by simp)
 have aj:ix.toList[j] < ps.length:=P.lt _ (by simp)
 have bi:Sm (ps.getD ix.toList[i] (0,0)):=by rw[L6,KP ai];exact hs _ (LV ai)
 have bj:Sm (ps.getD ix.toList[j] (0,0)):=by rw[L6,KP aj];exact hs _ (LV aj)
 exact (yN bi bj).mp q
def GH {n:Nat}{ix:Array Nat}(P:L2.SO.Pm n ix){k:Nat}(hk:k < n):k∈ix.toList:=by
 refine Classical.byContradiction λhn=>?_
 have:=cc (l:=k :: ix.toList) (m:=List.range n) (LG.mpr ⟨hn,P.nd⟩) λx hx=>by
  rcases KZ.mp hx with e |e
  ·rw[e];exact Ll.mpr hk
  ·exact Ll.mpr (P.lt x (by simpa using e))
 simp[P.sz] at this
 omega
theorem HY {h:Heap}{vs:List Value}{ps:List Pr}(hps:cS prog w h vs ps){ix:Array Nat}(P:L2.SO.Pm vs.length ix) :
  cS prog w h (ix.toList.map λi=>vs.getD i Value.none) (ix.toList.map λi=>ps.getD i (0,0)):=by
 refine⟨by simp,λi v p h1 h2=>?_⟩
 rw[K2] at h1 h2
 cases e:ix.toList[i]? with
 |none=>rw[e] at h1;cases h1
 |some k=>
  rw[e] at h1 h2
  have hk:k < vs.length:=P.lt k (by simpa using K8 e)
  have hk':k < ps.length:=by rw[<-hps.1];exact hk
  simp[hk,hk'] at h1 h2
  exact hps.2 k v p (by rw[KP hk,h1]) (by rw[KP hk',h2])
def As {v:Value}{vs:List Value}{ps:List Pr}{Q:Value->Shared->Prop}(hps:cS prog w s.heap vs ps)(nd:ps.Nodup)(h64:vs.length < 64)
  (hcol:∀(Q':List Value->Shared->Prop),(∀h' tk,(∀b o,s.heap.get? b=some o->h'.get? b=some o)->Q' vs {s with heap:=h',toks:=tk})->wpAny (model prog w) A.in1 (collect v) Q' (λe s'=>E e s') s)
  (h:∀(h1 h':Heap) (tk:Nat) (D:Addr) (out:List Value) (qs:List Pr) (c:Nat),(∀b o,s.heap.get? b=some o->h1.get? b=some o)->D=h1.objs.size->(∀b o,h1.get? b=some o->h'.get? b=some o)->h'.get? D=some (seqObj "list" out.toArray c)->cS prog w h' out qs->(∀u,u∈out->u∈vs)->OM.uq qs->(∀p,p∈qs↔p∈ps)->
   Q (.ref D) {s with heap:=h',toks:=tk}):wpAny (model prog w) A (call (.builtin "sorted") [v]) Q E s:=by
 have hsm:∀p,p∈ps->Sm p:=λp hp=>by
  obtain⟨i,hi,e⟩:=Lq.mp hp
  have hi':i < vs.length:=by rw[hps.1];exact hi
  obtain⟨_,_,_,hs⟩:=hps.2 i vs[i] p (KP hi') (by rw[KP hi,e])
  exact hs
 (refine Calls.call_function_entry kind_sorted plain_sorted entry_sorted (args_sorted1 _) ?_)
 unfold Builtin.«sorted»
 refine KO (m:=checkCount "sorted" 1 1 ([v]:List Value).length) (KS ?_)
 refine KO (hcol _ λh1 tk1 k1=>?_)
 have hz:vs.length<=sizeLine:=by rw[Lo];omega
 refine KO (wpAny_newList ?_ hz)
 show wpAny _ _ _ _ _ {s with heap:=h1.push (seqObj "list" vs.toArray 0),toks:=tk1}
 have hoL:(h1.push (seqObj "list" vs.toArray 0)).get? h1.objs.size=some (seqObj "list" vs.toArray 0):=Lf _ rfl
 have kp:∀b o,s.heap.get? b=some o->(h1.push (seqObj "list" vs.toArray 0)).get? b=some o:=λb o e=>KQ _ (k1 b o e)
 have hp1:cS prog w (h1.push (seqObj "list" vs.toArray 0)) vs ps:=⟨hps.1,λi v p a b=>by
  obtain⟨c,e,⟨o,it,n,ho,r⟩,hs⟩:=hps.2 i v p a b
  exact⟨c,e,⟨o,it,n,kp _ _ ho,r⟩,hs⟩⟩
 have hne:∀b o,s.heap.get? b=some o->b≠h1.objs.size:=λb o e=>Lr (KY (k1 b o e))
 refine KO (L5 (MW slot_list_sort ⟨_,hoL,rfl⟩ entry_list_sort ?_ (args_list_sort _)))
 refine u9 (s:={s with heap:=h1.push (seqObj "list" vs.toArray 0),toks:=tk1}) hoL hp1 nd h64 λh' c ix P U hk ho=>?_
 refine⟨_,rfl,KS ⟨_,rfl,?_⟩⟩
 have kk:∀b o,s.heap.get? b=some o->h'.get? b=some o:=λb o e=>hk b o (hne b o e) (kp b o e)
 have P':L2.SO.Pm ps.length ix:=by rw[<-hps.1];exact P
 have k2:∀b o,h1.get? b=some o->h'.get? b=some o:=λb o e=>hk b o (Lr (KY e)) (KQ _ e)
 refine h h1 h' tk1 h1.objs.size _ (ix.toList.map λi=>ps.getD i (0,0)) c k1 rfl k2 ho (HY ⟨hps.1,λi v p a b=>?_⟩ P) (λu hu=>?_) (FK hsm P' (by rw[<-hps.1];exact U)) λp=>⟨λhp=>?_,λhp=>?_⟩
 ·obtain⟨c,e,⟨o,it,n,ho,r⟩,hs⟩:=hps.2 i v p a b
  exact⟨c,e,⟨o,it,n,kk _ _ ho,r⟩,hs⟩
 ·obtain⟨i,hi,rfl⟩:=K9.mp hu
  have:i < vs.length:=P.lt i (by simpa using hi)
  rw[L6,KP this]
  exact LV this
 ·obtain⟨i,hi,rfl⟩:=K9.mp hp
  have:i < ps.length:=P'.lt i (by simpa using hi)
  rw[L6,KP this]
  exact LV this
 ·obtain⟨i,hi,e⟩:=Lq.mp hp
  refine K9.mpr ⟨i,GH P' hi,?_⟩
  rw[L6,KP hi,e];rfl
end
end L2.ST
namespace L2
open PySem PySem.Spec PyProof.Rows
abbrev Pr:=Int×Int
abbrev Sm:=L2.ST.Sm
section
variable {X:Cx}{pins:List (Addr×Obj)}{σ:St}{H H':Hp}{s:Shared}
def gS (H H':Hp):Prop:=(∀b xs,H b=some (.tup xs)->H' b=some (.tup xs))/\∀b o u,H b=some (.bt o u)->H' b=some (.bt o u)
def gS.trans {H H1 H2:Hp}(a:gS H H1)(b:gS H1 H2):gS H H2:=⟨λc xs h=>b.1 c xs (a.1 c xs h),λc o u h=>b.2 c o u (a.2 c o u h)⟩
def ax.grow {H H':Hp}(e:ax H H'):gS H H':=⟨λb xs h=>e b _ h,λb o u h=>e b _ h⟩
def gS.new {H:Hp}{l:Addr}{o:HO}(h:H l=none):gS H (upd H l o):=⟨λb xs e=>by rw[aI (aM e h)];exact e,λb o' u e=>by rw[aI (aM e h)];exact e⟩
def ax.new {H:Hp}{l:Addr}{o:HO}(h:H l=none):ax H (upd H l o):=λb u e=>Kt.of (by rw[aI (aM e h)];exact e)
def gj.grow {K:Frag}{a:Addr}{xs:List V}(h:gj K H a xs)(g:gS H H'):gj K H' a xs:=by
 rcases h with (h | ⟨o,h⟩) |h
 ·exact .inl (.inl (g.1 _ _ h))
 ·exact .inl (.inr ⟨o,g.2 _ _ _ h⟩)
 ·exact .inr h
def gS.list {a:Addr}{ys:List V}{o:HO}(h:H a=some (.lst ys)):gS H (upd H a o):=
 ⟨λb xs e=>by rw[aI (Ft e h (by intro z;cases z))];exact e,λb o' u e=>by rw[aI (Ft e h (by intro z;cases z))];exact e⟩
theorem rL {α β:Type}{f:α->β}:∀{l:List α} {m:List β},m.Perm (l.map f)->∃l':List α,m=l'.map f/\l'.Perm l:=by
 intro l m h
 generalize hk:l.map f=k at h
 induction h generalizing l with
 |nil=>
  have:l= []:=by simpa using hk
  exact⟨[],rfl,by rw[this]⟩
 | @cons x m1 m2 _ ih=>
  cases l with
  |nil=>cases hk
  |cons a l=>
   simp only[LL,List.cons.injEq] at hk
   obtain⟨l',e,p⟩:=ih hk.2
   exact⟨a :: l',by rw[LL,hk.1,e],p.cons a⟩
 |swap x y m1=>
  cases l with
  |nil=>cases hk
  |cons a l=>
   cases l with
   |nil=>simp at hk
   |cons b l=>
    simp only[LL,List.cons.injEq] at hk
    exact⟨b :: a :: l,by rw[LL,LL,hk.1,hk.2.1,hk.2.2],List.Perm.swap ..⟩
 |trans _ _ ih1 ih2=>
  obtain⟨l1,e1,p1⟩:=ih2 hk
  obtain⟨l2,e2,p2⟩:=ih1 e1.symm
  exact⟨l2,e2,p2.trans p1⟩
def aY (K:Frag)(H:Hp):List V->List Pr->Prop:=Paired λv p=>∃a,v=.ref a/\gj K H a [.int p.1,.int p.2]
def aY.grow {K:Frag}{vs:List V}{ps:List Pr}(h:aY K H vs ps)(g:gS H H'):aY K H' vs ps:=Paired.mapP h λv p ⟨a,e,q⟩=>⟨a,e,q.grow g⟩
theorem Paired.getP {α β:Type}{F:α->β->Prop}:∀{l:List α} {m:List β} {i:Nat} {x:α},Paired F l m->l[i]? =some x->∃y,m[i]? =some y/\F x y
 |_,_,_,_,.nil,e=>by simp at e
 |_,_,0,_,.cons r _,e=>by simp at e;subst e;exact⟨_,rfl,r⟩
 |_,_,i + 1,x,.cons _ t,e=>by
  obtain⟨u,h1,h2⟩:=Paired.getP (i:=i) (x:=x) t (by simpa using e)
  exact⟨u,by simpa using h1,h2⟩
theorem Paired.getQ {α β:Type}{F:α->β->Prop}:∀{l:List α} {m:List β} {i:Nat} {y:β},Paired F l m->m[i]? =some y->∃x,l[i]? =some x/\F x y
 |_,_,_,_,.nil,e=>by simp at e
 |_,_,0,_,.cons r _,e=>by simp at e;subst e;exact⟨_,rfl,r⟩
 |_,_,i + 1,x,.cons _ t,e=>by
  obtain⟨u,h1,h2⟩:=Paired.getQ (i:=i) (y:=x) t (by simpa using e)
  exact⟨u,by simpa using h1,h2⟩
theorem uA (I:Inv X pins σ H s){a:Addr}{p:Pr}(h:gj X.K H a [.int p.1,.int p.2]):L2.ST.bI X.prog X.w s.heap p a:=by
 obtain⟨its,r,⟨o,ho,hc,n,hd⟩,_⟩:=I.tuple h
 cases r with
 |cons r1 r=>
  cases r with
  |cons r2 r=>
   cases r
   obtain⟨t1,rfl⟩:=r1
   obtain⟨t2,rfl⟩:=r2
   exact⟨o,_,n,ho,hc,hd,.cons (intKind_is ..) (.cons (intKind_is ..) .nil)⟩
def pairs_at (I:Inv X pins σ H s){vs:List V}{us:List Value}{ps:List Pr}(hv:Vals vs us)(h:aY X.K H vs ps)(hs:∀p,p∈ps->Sm p):L2.ST.cS X.prog X.w s.heap us ps:=by
 refine⟨by rw[<-hv.length];exact Paired.length h,λi u p e1 e2=>?_⟩
 obtain⟨v,ev,a,rfl,q⟩:=Paired.getQ h e2
 obtain⟨u',eu,ru⟩:=hv.get ev
 rw[e1] at eu;cases eu
 cases ru
 exact⟨a,rfl,uA I q,hs p (K8 e2)⟩
theorem qO (I:Inv X pins σ H s){vs:List V}{us:List Value}{ps:List Pr}(hv:Vals vs us)(h:aY X.K H vs ps){h':Heap}(k:∀b o,s.heap.get? b=some o->h'.get? b=some o):∀{out:List Value} {qs:List Pr},
  (∀u,u∈out->u∈us)->L2.ST.cS X.prog X.w h' out qs->∃ws,Vals ws out/\aY X.K H ws qs
 | [],[],_,_=>⟨[],.nil,.nil⟩
 | [],_ :: _,_,hp=>by have:=hp.1;simp at this
 |_ :: _,[],_,hp=>by have:=hp.1;simp at this
 |u :: out,q :: qs,hm,hp=>by
  obtain⟨ws,a1,a2⟩:=qO I hv h k (out:=out) (qs:=qs) (λx hx=>hm x (KW _ hx)) ⟨by have:=hp.1;simpa using this,λi v p e1 e2=>hp.2 (i + 1) v p (by simpa using e1) (by simpa using e2)⟩
  obtain⟨i,hi,e⟩:=Lq.mp (hm u (K3 ..))
  have hi':i < vs.length:=by rw[hv.length];exact hi
  obtain⟨u',eu,ru⟩:=hv.get (KP hi')
  rw[KP hi,e] at eu
  cases eu
  obtain⟨p,ep,a,ea,qa⟩:=Paired.getP h (KP hi')
  rw[ea] at ru
  cases ru
  obtain⟨b,eb,hb,_⟩:=hp.2 0 (.ref a) q rfl rfl
  cases eb
  have pa:L2.ST.bI X.prog X.w h' p a:=by
   obtain⟨o,it,n,ho,r⟩:=uA I qa
   exact⟨o,it,n,k _ _ ho,r⟩
  have:p=q:=L2.ST.bI.inj pa hb
  subst this
  exact⟨.ref a :: ws,.cons rfl a1,.cons ⟨a,rfl,qa⟩ a2⟩
def yq (I:Inv X pins σ H s){vs:List V}{us:List Value}{ps:List Pr}(hv:Vals vs us)(hp:aY X.K H vs ps)(hlen:ps.length < 64){Q:VK}
  (q:∀l ws qs,H l=none->aY X.K H ws qs->OM.uq qs->(∀p,p∈qs↔p∈ps)->Q (.ref l) (upd H l (.lst ws)))
  {h1 h':Heap} {tk:Nat} {D:Addr} {out:List Value} {qs:List Pr} {c:Nat} (k1:∀b o,s.heap.get? b=some o->h1.get? b=some o) (eD:D=h1.objs.size) (k2:∀b o,h1.get? b=some o->h'.get? b=some o)
  (ho:h'.get? D=some (seqObj "list" out.toArray c)) (hpq:L2.ST.cS X.prog X.w h' out qs) (hm:∀u,u∈out->u∈us) (hr:OM.uq qs) (hmem:∀p,p∈qs↔p∈ps):EP X pins σ Q (.ref D) {s with heap:=h',toks:=tk}:=by
 obtain⟨ws,r1,r2⟩:=qO I hv hp (λb o e=>k2 b o (k1 b o e)) hm hpq
 have I1:Inv X pins σ H {s with heap:=h1,toks:=tk}:=I.kept k1
 have hf:H D=none:=by rw[eD];exact I1.hok.fresh (KR _)
 have hz:ws.length<=sizeLine:=by
  have e1:=r1.length
  have e2:out.length=qs.length:=hpq.1
  have e3:=OM.fD (OM.kH hr) λx hx=>(hmem x).mp hx
  rw[Lo];omega
 have I2:Inv X pins σ (upd H D (.lst ws)) {s with heap:=h',toks:=tk}:=I1.laid (t':=tk) k2 (by rw[eD];exact KR _) (show bL X.prog X.w _ h' _ (.lst ws) from⟨hz,out,c,r1,ho⟩)
 exact⟨.ref D,_,I2,rfl,q D ws qs hf r2 hr hmem⟩
abbrev vq (qs:List (Addr×Pr)):List V:=qs.map λq=>V.ref q.1
abbrev pq (qs:List (Addr×Pr)):List Pr:=qs.map (·.2)
def Fp (prog:Program)(w:World)(S:Addr)(qs:List (Addr×Pr))(h:Heap):Prop:=∃o ep t,h.get? S=some o/\o.ExactSet/\o.data=.set (qs.map λq=>(L2.ST.AS prog w q.2,Value.ref q.1)).toArray ep t/\L2.ST.Tab t (qs.map λq=>L2.ST.AS prog w q.2)/\t.led=L2.ST.jn w
def zH (prog:Program)(w:World)(S:Addr)(qs:List (Addr×Pr)):HO:=.ext (Fp prog w S qs)
def IF (P:Program)(w:World)(K:Frag):List V->Hp->VK->Prop:=λxs H Q=>∃a vs ps,xs= [.ref a]/\(gR K H a vs\/gj K H a vs)/\aY K H vs ps/\(∀p,p∈ps->Sm p)/\
 ∀S qs,H S=none->aY K H (vq qs) (pq qs)->(pq qs).Nodup->(∀p,p∈pq qs↔p∈ps)->Q (.ref S) (upd H S (zH P w S qs))
def B7 (hc:X.calm=true)(hu:X.A.units + 64 < cLine):cW X (.type "set") (IF X.prog X.w X.K):=by
 intro pins s σ H xs us Q I r h
 obtain⟨a,vs,ps,rfl,hq,hp,hs,q⟩:=h
 obtain⟨u,rfl,rx⟩:=vals1 r
 cases rx
 have hh:=I.ok.hd hc
 have core:∀{its:List Value} {T:String} {itO:Obj} {St:Addr->Nat->Heap->Prop},Vals vs its->L2.ST.Src X.prog X.w s.heap a its T itO St->wpAny (model X.prog X.w) X.A (call (.type "set") [.ref a]) (EP X pins σ Q) X.xe s:=λ{its T itO St} rv src=>by
  refine L2.ST.pb src hh hu (pairs_at I rv hp hs) λh' tk F k=>?_
  obtain⟨qs,P1,P2,P3⟩:=F
  have hlen:its.length=vs.length:=rv.length.symm
  have back:∀qv:Addr×Pr,qv∈qs->∃b,b=qv.1/\gj X.K H b [.int qv.2.1,.int qv.2.2]:=λqv hqv=>by
   obtain⟨i,hi,e⟩:=Lq.mp (MU (P2 qv hqv).1)
   have hi':i < vs.length:=by rw[<-hlen];exact hi
   obtain⟨u',eu,ru⟩:=rv.get (KP hi')
   rw[KP hi,e] at eu
   cases eu
   obtain⟨p,ep,b,eb,qb⟩:=Paired.getP hp (KP hi')
   rw[eb] at ru
   cases ru
   have pa:L2.ST.bI X.prog X.w h' p qv.1:=by
    obtain⟨o,it,n,ho,r⟩:=uA I qb
    exact⟨o,it,n,k _ _ ho,r⟩
   have:p=qv.2:=L2.ST.bI.inj pa (P1.at' qv hqv).1
   subst this
   exact⟨_,rfl,qb⟩
  have hpv:∀{l:List (Addr×Pr)},(∀x,x∈l->x∈qs)->aY X.K H (vq l) (pq l):=λ{l}=>by
   induction l with
   |nil=>intro _;exact .nil
   |cons y l ih=>
    intro hl
    obtain⟨b,eb,qb⟩:=back y (hl y (K3 ..))
    subst eb
    exact .cons ⟨_,rfl,qb⟩ (ih λx hx=>hl x (KW _ hx))
  have hmem:∀p,p∈pq qs↔p∈ps:=λp=>by
   have hpl:ps.length=its.length:=by rw[hlen];exact (Paired.length hp).symm
   constructor
   ·intro hx
    obtain⟨qv,hqv,rfl⟩:=K9.mp hx
    exact MU (P2 qv hqv).2
   ·intro hx
    exact P3 p (by rw[<-hpl,MJ (KR _)];exact hx)
  have hf:H s.heap.objs.size=none:=I.hok.fresh (KR _)
  obtain⟨o,ep,t,ho,r1⟩:=P1.ex
  have new:bL X.prog X.w (upd H s.heap.objs.size (zH X.prog X.w s.heap.objs.size qs)) h' s.heap.objs.size (zH X.prog X.w s.heap.objs.size qs):=
   ⟨⟨o,ep,t,ho,r1⟩,⟨o,ho⟩,λh1 h2 ⟨o1,ep1,t1,g1,g2⟩ kk=>⟨o1,ep1,t1,kk _ g1,g2⟩⟩
  exact⟨.ref _,_,I.laid (t':=tk) k (KR _) new,rfl,q _ qs hf (hpv λx hx=>hx) P1.nd hmem⟩
 rcases hq with hq |hq
 ·obtain⟨its,rv,pl,hz⟩:=I.list hq
  exact core rv (L2.ST.Src.list pl.isList)
 ·obtain⟨its,rv,pl,hz⟩:=I.tuple hq
  exact core rv (L2.ST.Src.tuple pl)
def ve (P:Program)(w:World)(K:Frag):List V->Hp->VK->Prop:=λxs H Q=>∃S qs,xs= [.ref S]/\H S=some (zH P w S qs)/\aY K H (vq qs) (pq qs)/\(∀p,p∈pq qs->Sm p)/\(pq qs).Nodup/\qs.length < 64/\
 ∀l ws rs,H l=none->aY K H ws rs->OM.uq rs->(∀p,p∈rs↔p∈pq qs)->Q (.ref l) (upd H l (.lst ws))
def tP (hc:X.calm=true):cW X (.builtin "sorted") (ve X.prog X.w X.K):=by
 intro pins s σ H xs us Q I r h
 obtain⟨S,qs,rfl,hS,hp,hs,nd,hl,q⟩:=h
 obtain⟨u,rfl,rx⟩:=vals1 r
 cases rx
 have hh:=I.ok.hd hc
 obtain⟨⟨o,ep,t,ho,hex,hd,T,hled⟩,_,_⟩:Fp X.prog X.w S qs s.heap/\_:=I.hok S _ hS
 have T':L2.ST.Tab t ((qs.map λq=>(L2.ST.AS X.prog X.w q.2,Value.ref q.1)).toArray.toList.map (·.1)):=by
  rw[L3,map_map];exact T
 have htp:=L2.ST.se X.w S ep (qs.map λq=>(L2.ST.AS X.prog X.w q.2,Value.ref q.1)).toArray
 have hmem:∀x,x∈(L2.ST.told X.w S ep (qs.map λq=>(L2.ST.AS X.prog X.w q.2,Value.ref q.1)).toArray).toList->∃q,q∈qs/\x=(L2.ST.AS X.prog X.w q.2,Value.ref q.1):=λx hx=>by
  have:=htp.mem_iff.mp hx
  simp only[L3] at this
  obtain⟨q,hq,e⟩:=K9.mp this
  exact⟨q,hq,e.symm⟩
 obtain⟨q2,e2,p2⟩:∃q2:List (Addr×Pr),(L2.ST.told X.w S ep (qs.map λq=>(L2.ST.AS X.prog X.w q.2,Value.ref q.1)).toArray).toList=q2.map (λq=>(L2.ST.AS X.prog X.w q.2,Value.ref q.1))/\q2.Perm qs:=by
  have:=htp
  simp only[L3] at this
  exact rL this
 have hp2:aY X.K H (vq q2) (pq q2):=by
  have key:∀{l:List (Addr×Pr)},(∀x,x∈l->x∈qs)->aY X.K H (vq l) (pq l):=λ{l}=>by
   induction l with
   |nil=>intro _;exact .nil
   |cons y l ih=>
    intro hl
    obtain⟨i,hi,e⟩:=Lq.mp (hl y (K3 ..))
    obtain⟨p,ep',a,ea,qa⟩:=Paired.getP (l:=vq qs) (m:=pq qs) (i:=i) (x:=.ref y.1) hp (by simp[hi,e])
    have:p=y.2:=by simp[hi,e] at ep';exact ep'.symm
    subst this
    exact .cons ⟨a,ea,qa⟩ (ih λx hx=>hl x (KW _ hx))
  exact key λx hx=>p2.mem_iff.mp hx
 have hv2:Vals (vq q2) (q2.map λq=>Value.ref q.1):=by
  induction q2 with
  |nil=>exact .nil
  |cons y l ih=>exact .cons rfl (by
    clear ih e2 p2 hp2
    induction l with
    |nil=>exact .nil
    |cons z l ih2=>exact .cons rfl ih2)
 have hm2:∀p,p∈pq q2↔p∈pq qs:=λp=>(p2.map (·.2)).mem_iff
 have hpa:=pairs_at I hv2 hp2 λp hpp=>hs p ((hm2 p).mp hpp)
 have hl2:q2.length < 64:=by rw[p2.length_eq];exact hl
 refine L2.ST.As (v:=.ref S) hpa ((p2.map (·.2)).nodup_iff.mpr nd) (by simpa using hl2) (λQ' hQ'=>L2.ST.vd (by simpa using hh) ho hd hex.1 T' hled (by simp;omega) λh' tk vs ev k=>?_) λh1 h' tk D out qs' c k1 eD k2 ho' hpq hm hr hmem'=>?_
 ·rw[ev,e2]
  rw[map_map]
  exact hQ' h' tk k
 ·exact yq I hv2 hp2 (by simpa using hl2) (λl ws rs a1 a2 a3 a4=>q l ws rs a1 a2 a3 λp=>(a4 p).trans (hm2 p)) k1 eD k2 ho' hpq hm hr hmem'
end
def ni (cells:List (Str×Addr)):List (Str×NameKind)->List (Str×Addr)->List (Str×Addr)
 | [],cs=>cs
 | (n,k) :: r,cs=>ni cells r (if k == .free then (n,(cells.lookup n).getD 0) :: cs else cs)
def ph {scope:Scope}{env:Env}(h:∀y∈scope.names,y.2=.free->∃c,env.cells.lookup y.1=some c):closureFor scope env=pure (ni env.cells scope.names []):=by
 unfold closureFor
 have key:∀(l:List (Str×NameKind)) (cs:List (Str×Addr)),(∀y∈l,y.2=.free->∃c,env.cells.lookup y.1=some c)->
   (forIn l cs (λ(x:Str×NameKind) (r:List (Str×Addr))=>if (x.2 == NameKind.free)=true then (do let a <-cellOf env x.1;pure (ForInStep.yield ((x.1,a) :: r)):Sem _) else pure (ForInStep.yield r)):Sem (List (Str×Addr)))=pure (ni env.cells l cs):=by
  intro l
  induction l with
  |nil=>intro cs _;rfl
  |cons y l ih=>
   intro cs hy
   obtain⟨n,k⟩:=y
   rw[List.forIn_cons]
   unfold ni
   by_cases hk:(k == NameKind.free)=true
   ·have hk':k=.free:=by simpa using hk
    obtain⟨c,hc⟩:=hy (n,k) (K3 ..) hk'
    have hce:cellOf env n=pure c:=by unfold cellOf;rw[hc]
    simp only[hk,LO]
    have hc':env.cells.lookup n=some c:=hc
    rw[hce,hc']
    simp only[pure_bind,Option.getD_some]
    exact ih _ λz hz=>hy z (KW _ hz)
   ·simp only[hk,Lz,K6]
    simp only[pure_bind]
    exact ih _ λz hz=>hy z (KW _ hz)
 have:=key scope.names [] h
 simp only[bind_pure_comp] at this ⊢
 first
  |exact this
  | (rw[this];rfl)
  | (simpa using this)
theorem sd {cells:List (Str×Addr)}{x:Str}:∀{l:List (Str×NameKind)} {cs:List (Str×Addr)},((x,NameKind.free)∈l\/cs.lookup x=some ((cells.lookup x).getD 0))->(ni cells l cs).lookup x=some ((cells.lookup x).getD 0)
 | [],cs,h=>by
  rcases h with h |h
  ·cases h
  ·exact h
 | (n,k) :: r,cs,h=>by
  unfold ni
  refine sd ?_
  by_cases hk:(k == NameKind.free)=true
  ·rw[KU hk]
   by_cases hx:x=n
   ·subst hx;right;simp
   ·rcases h with h |h
    ·rcases KZ.mp h with e |e
     ·injection e with e1 _;exact absurd e1 hx
     ·exact .inl e
    ·right
     rw[MC,show (x == n)=false by simpa using hx]
     exact h
  ·rw[K0 hk]
   rcases h with h |h
   ·rcases KZ.mp h with e |e
    ·injection e with _ e2;exact absurd (by rw[<-e2];rfl) hk
    ·exact .inl e
   ·exact .inr h
theorem mZ {cells:List (Str×Addr)}{x:Str}{c:Addr}:∀{l:List (Str×NameKind)} {cs:List (Str×Addr)},(ni cells l cs).lookup x=some c->((x,NameKind.free)∈l/\c=(cells.lookup x).getD 0)\/cs.lookup x=some c
 | [],cs,h=>.inr h
 | (n,k) :: r,cs,h=>by
  unfold ni at h
  rcases mZ h with⟨a,b⟩ |a
  ·exact .inl ⟨KW _ a,b⟩
  ·by_cases hk:(k == NameKind.free)=true
   ·rw[KU hk,MC] at a
    by_cases hx:x=n
    ·subst hx
     simp at a
     have:k=.free:=by simpa using hk
     subst this
     exact .inl ⟨K3 ..,a.symm⟩
    ·rw[show (x == n)=false by simpa using hx] at a
     exact .inr a
   ·rw[K0 hk] at a
    exact .inr a
theorem om {f:Str->NameKind->NameKind}{x:Str}:∀(l:List (Str×NameKind)),(l.map λy=>(y.1,f y.1 y.2)).lookup x=(l.lookup x).map (f x)
 | []=>rfl
 | (n,k) :: l=>by
  rw[LL,MC,MC]
  by_cases hx:x=n
  ·subst hx;simp
  ·have hb:(x == n)=false:=by simpa using hx
   simp only[hb]
   exact om l
def pL (scope:Scope)(env:Env)(x:Str):(relabel scope env).names.lookup x=(scope.names.lookup x).map λk=>if (k == .free && env.scope.kind == .function && env.kindOf x == some .cell) then .cell else k:=by
 have e:(relabel scope env).names=scope.names.map λy=>(y.1,if (y.2 == .free && env.scope.kind == .function && env.kindOf y.1 == some .cell) then .cell else y.2):=by
  unfold relabel
  dsimp only
  refine Mj λy _=>?_
  obtain⟨n,k⟩:=y
  dsimp only
  split <;> rfl
 rw[e]
 exact om (f:=λn k=>if (k == .free && env.scope.kind == .function && env.kindOf n == some .cell) then .cell else k) scope.names
theorem lC:∀(l:List (Str×NameKind)) (n:Nat) (acc:List (Str×Addr)),cellsFrom n l acc=cellsFrom n l [] ++ acc
 | [],_,_=>rfl
 | (x,k) :: r,n,acc=>by
  unfold cellsFrom
  split
  ·rw[lC r (n + 1) ((x,n) :: acc),lC r (n + 1) [(x,n)],Mo];rfl
  ·exact lC r n acc
theorem pK:∀{l:List (Str×NameKind)} {n:Nat} {x:Str} {c:Addr},(x,c)∈cellsFrom n l []->n<=c/\(x,NameKind.cell)∈l
 | [],_,_,_,h=>by cases h
 | (y,k) :: r,n,x,c,h=>by
  unfold cellsFrom at h
  split at h
  ·rename_i hk
   have hk:k=.cell:=by simpa using hk
   rw[lC] at h
   rcases Lp.mp h with h |h
   ·have:=pK h;exact⟨by omega,KW _ this.2⟩
   ·rw[LW] at h;cases h;subst hk;exact⟨KR _,K3 ..⟩
  ·have:=pK h;exact⟨this.1,KW _ this.2⟩
abbrev EM (X:Cx)(scope:Scope)(C:Addr):List (Str×Addr):=cellsFrom (C + 1) scope.names (ni X.env.cells scope.names [])
def Es {M:Model}{A:Around}{E:Value->Shared->Prop}{s:Shared}{scope:Scope}{g:Addr}{cl:List (Str×Addr)}{qual:Str}{env:Env}{Q:Env->Shared->Prop}
  (h:∀h',h'.Ns s.heap.objs.size (λ_=>none)->(∀b o,s.heap.get? b=some o->h'.get? b=some o)->CellsOk h' (s.heap.objs.size + 1) (cellsFrom (s.heap.objs.size + 1) scope.names [])->Q (newEnv scope s.heap.objs.size g (cellsFrom (s.heap.objs.size + 1) scope.names cl) qual none .none (some env) builtinsNs) {s with heap:=h'}) :
  wpAny M A (newFunctionEnv scope g cl [] qual none .none (some env)) Q E s:=by
 simp only[newFunctionEnv,Option.isSome_some,LO]
 refine KO (wpAny_alloc ?_)
 refine KO (wpAny_layCells _ (λname kind cells=>by cases hkc:kind == NameKind.cell <;> simp[hkc]) _ _ _ _ ?_)
 have ok:=cellsFrom_ok scope.names (s.heap.push {cls:=.type "dict",data:=.dict #[]}) (s.heap.objs.size + 1) [] ⟨λ_ _ hm=>(nomatch hm),List.Pairwise.nil⟩ (by rw[Ma];exact KR _)
 rw[Ma] at ok
 rw[show ({s with heap:=s.heap.push {cls:=.type "dict",data:=.dict #[]}}:Shared).heap.objs.size=s.heap.objs.size + 1 from Ma ..]
 rw[List.forIn_nil]
 exact KO (KS (KS (h _ ((Heap.Ns.new s.heap (.type "dict")).keeps (pushCells_keeps _ _)) (λb o e=>pushCells_keeps _ _ b o (KQ _ e)) ok)))
def iA (X:Cx)(NB:List Str)(scope:Scope)(C:Addr)(ex:List Addr)(s3:Shared)(H3:Hp)(pn:List (Addr×Obj)):Cx:=
 {X with N:=NB,s₀:=s3,H₀:=H3,env:=compEnvC scope (EM X scope C) C X.env,outer:=X.stack,ex:=ex,fn:=λx=>scope.names.lookup x == some .cell,pn:=pn,xe:=λ_ _=>False}
def td (own:Nat)(ixs:List Nat)(σ:St):St:=List.replicate own none ++ ixs.map λi=>(σ[i]?).join
structure cL (X:Cx)(NB:List Str)(own:Nat)(ixs:List Nat)(scope:Scope):Prop where
 kind:scope.kind=.function
 names:∀y∈scope.names,scope.names.lookup y.1=some y.2
 frees:∀y∈scope.names,y.2=.free->X.env.kindOf y.1=some .cell\/X.env.kindOf y.1=some .free
 nd:NB.Nodup
 len:NB.length=own + ixs.length
 at':∀k,k < ixs.length->NB[own + k]? =X.N[ixs.getD k 0]?/\∀x,NB[own + k]? =some x->(x,NameKind.free)∈scope.names
section
variable {X:Cx}{NB:List Str}{own:Nat}{ixs:List Nat}{scope:Scope}{pins:List (Addr×Obj)}{σ:St}{H:Hp}{s:Shared}
def Ax (S:cL X NB own ixs scope)(I:Inv X pins σ H s){fp:List Addr}(hfp:∀b∈fp,rO X pins H b)(hob:∀b∈fp,∃o,s.heap.get? b=some o){h1:Heap}{tk:Nat}
  (hn:h1.Ns s.heap.objs.size (λ_=>none)) (hk:∀b o,s.heap.get? b=some o->h1.get? b=some o) (hcl:CellsOk h1 (s.heap.objs.size + 1) (cellsFrom (s.heap.objs.size + 1) scope.names [])) :
  Inv (iA X NB scope s.heap.objs.size fp s H (X.pn ++ pins)) [] (td own ixs σ) H {s with heap:=h1,toks:=tk}:=by
 have stk:=I.stack
 have frees:∀{x:Str},(x,NameKind.free)∈scope.names->∃c,X.env.cells.lookup x=some c:=λ{x} hx=>I.ok.has x (S.frees _ hx rfl)
 have clE:∀{x:Str} {c:Addr},(EM X scope s.heap.objs.size).lookup x=some c->((x,c)∈cellsFrom (s.heap.objs.size + 1) scope.names []/\s.heap.objs.size < c)\/((x,NameKind.free)∈scope.names/\X.env.cells.lookup x=some c):=λ{x c} h=>by
  unfold EM at h
  rw[lC,List.lookup_append] at h
  cases q:(cellsFrom (s.heap.objs.size + 1) scope.names []).lookup x with
  |some c'=>
   rw[q] at h
   cases h
   have hm:=LP q
   exact .inl ⟨hm,(pK hm).1⟩
  |none=>
   rw[q] at h
   have h:(ni X.env.cells scope.names []).lookup x=some c:=h
   rcases mZ h with⟨a,b⟩ |a
   ·obtain⟨c',e⟩:=frees a
    rw[e] at b
    exact .inr ⟨a,by rw[e,b];rfl⟩
   ·simp at a
 have clF:∀{x:Str},(x,NameKind.free)∈scope.names->(EM X scope s.heap.objs.size).lookup x=some ((X.env.cells.lookup x).getD 0):=λ{x} hm=>by
  unfold EM
  rw[lC,List.lookup_append]
  cases q:(cellsFrom (s.heap.objs.size + 1) scope.names []).lookup x with
  |some c'=>
   have h1:=S.names _ (pK (LP q)).2
   have h2:=S.names _ hm
   dsimp only at h1 h2
   rw[h1] at h2
   cases h2
  |none=>exact sd (.inl hm)
 have kindB:∀x,(iA X NB scope s.heap.objs.size fp s H (X.pn ++ pins)).env.kindOf x=(scope.names.lookup x).map λk=>if (k == .free && X.env.scope.kind == .function && X.env.kindOf x == some .cell) then .cell else k:=λx=>pL scope X.env x
 have isFree:∀{x:Str},((iA X NB scope s.heap.objs.size fp s H (X.pn ++ pins)).env.kindOf x=some .cell\/(iA X NB scope s.heap.objs.size fp s H (X.pn ++ pins)).env.kindOf x=some .free)->(x,NameKind.free)∈scope.names\/scope.names.lookup x=some .cell:=λ{x} h=>by
  rw[kindB] at h
  cases e:scope.names.lookup x with
  |none=>rw[e] at h;simp at h
  |some k=>
   have hm:=LP e
   cases k with
   |free=>exact .inl hm
   |cell=>exact .inr rfl
   |_=>rw[e] at h;simp at h
 have neN:∀b o,s.heap.get? b=some o->b≠s.heap.objs.size:=λb o e=>Lr (KY e)
 have cellN:∀{x:Str} {c:Addr},X.env.cells.lookup x=some c->c < s.heap.objs.size:=λ{x c} e=>by
  obtain⟨v,o,ho,_⟩:=I.cell x c e
  exact KY ho
 have ok:(iA X NB scope s.heap.objs.size fp s H (X.pn ++ pins)).Ok:=by
  refine⟨I.ok.mod,S.kind,I.ok.glob,I.ok.blt,KR _,λx y c h1 h2=>?_,λx hx=>?_,λx c h hc=>?_,I.ok.hd,I.ok.frames,.inl rfl,λb hb=>?_,I.bs,L4 I.ok.bsz I.sz,λb o e hb=>?_,λb hb hs=>?_,stk,I.stkFree⟩
  ·rcases clE h1 with⟨a,l1⟩ | ⟨a,l1⟩
   ·rcases clE h2 with⟨b,l2⟩ | ⟨b,l2⟩
    ·exact name_of_addr hcl.apart a b
    ·exact absurd (My l1 (cellN l2)) (Ln _)
   ·rcases clE h2 with⟨b,l2⟩ | ⟨b,l2⟩
    ·exact absurd (My l2 (cellN l1)) (Ln _)
    ·exact I.ok.inj x y c l1 l2
  ·rcases isFree hx with hm |hm
   ·exact⟨_,clF hm⟩
   ·obtain⟨c,hc⟩:=Mc.mp (MI scope.names (s.heap.objs.size + 1) (ni X.env.cells scope.names []) (.inl hm))
    exact⟨c,hc⟩
  ·rcases clE hc with⟨a,l1⟩ | ⟨a,l1⟩
   ·exact MP l1
   ·have h1:=S.names _ a
    dsimp only at h1
    have h:(scope.names.lookup x == some NameKind.cell)=true:=h
    rw[h1] at h
    cases h
  ·obtain⟨_,f1,f2,f3,f4,f5⟩:=hfp b hb
   obtain⟨o,ho⟩:=hob b hb
   refine⟨neN b o ho,λx c h z=>?_⟩
   rcases clE h with⟨a,l1⟩ | ⟨a,l1⟩
   ·rw[z] at l1
    exact Ln _ (My l1 (KY ho))
   ·exact f4 x c l1 z
  ·obtain⟨_,f1,f2,f3,f4,f5⟩:=hfp b hb
   rcases f3 with f3 |f3
   ·exact I.ok.noex b o e f3
   ·exact absurd (Lj (KY e) (L4 I.ok.bsz f3)) (Ln _)
  ·obtain⟨_,f1,f2,f3,f4,f5⟩:=hfp b hb
   rcases KZ.mp (I.stkSub b hs) with z |z
   ·exact f1 z
   ·exact f2 z
 refine⟨ok,rfl,I.bare,Un.kept hk,⟨_,hn,λi x v h1' h2' h3'=>?_⟩,λx c h=>?_,I.hok.fresh (KR _),λx c h=>?_,λp hp=>?_,I.hok.kept hk,?_⟩
 ·
  have h1':NB[i]? =some x:=h1'
  have hown:own<=i:=by
   refine Classical.byContradiction λhc=>?_
   have hlt:i < own:=Nat.lt_of_not_le hc
   unfold td at h2'
   rw[LA (by simpa using hlt),LX,KU hlt] at h2'
   cases h2'
  obtain⟨k,rfl⟩:∃k,i=own + k:=⟨i - own,by omega⟩
  have hk':k < ixs.length:=by
   have:=(Ld.mp h1').1
   rw[S.len] at this;omega
  obtain⟨e1,e2⟩:=S.at' k hk'
  have hm:=e2 x h1'
  unfold td at h2'
  rw[Lw (by simp),L8,Nat.add_sub_cancel_left,K2,KP hk'] at h2'
  simp only[Option.map_some,Option.some.injEq] at h2'
  have hix:ixs.getD k 0=ixs[k]:=by simp[hk']
  have hσ:σ[ixs[k]]? =some (some v):=by
   cases e:σ[ixs[k]]? with
   |none=>rw[e] at h2';cases h2'
   |some o=>rw[e] at h2';simp at h2';rw[h2']
  rw[e1,hix] at h1'
  have hkind:=S.frees _ hm rfl
  have hvis:y1 X.env.scope x:=hkind.elim (λz=>.inr (.inl z)) (λz=>.inr (.inr z))
  obtain⟨m,hm',hl⟩:=I.loc
  obtain⟨u,r,look⟩:=hl _ x v h1' hσ hvis
  refine⟨u,r,.inr ⟨?_,?_⟩⟩
  ·rw[kindB]
   have hfr:scope.names.lookup x=some .free:=S.names _ hm
   rw[hfr]
   simp only[Option.map_some]
   split
   ·exact .inl rfl
   ·exact .inr rfl
  ·rcases look with⟨z,_⟩ | ⟨_,c,hc,hcell⟩
   ·rcases hkind with q |q
    ·rw[q] at z;cases z
    ·rw[q] at z;cases z
   ·refine⟨c,?_,?_⟩
    ·have:=clF hm
     rw[hc] at this
     exact this
    ·obtain⟨o,ho,hd⟩:=hcell
     exact⟨o,hk _ _ ho,hd⟩
 ·rcases clE h with⟨a,_⟩ | ⟨_,l1⟩
  ·exact⟨_,(hcl.empty _ _ a).1⟩
  ·obtain⟨v,o,ho,hd⟩:=I.cell x c l1
   exact⟨v,o,hk _ _ ho,hd⟩
 ·rcases clE h with⟨_,l1⟩ | ⟨_,l1⟩
  ·exact I.hok.fresh (MP l1)
  ·exact I.freeC x c l1
 ·have hp':p∈X.pn ++ pins:=by
   rcases Lp.mp hp with z |z
   ·exact z
   ·cases z
  obtain⟨e,n,ne,nf,d⟩:=I.pin p hp'
  refine⟨hk _ _ e,n,neN _ _ e,λz=>?_,d⟩
  rcases KZ.mp (I.stkSub _ z) with q |q
  ·exact ne q
  ·exact nf q
 ·show (td own ixs σ).length=NB.length
  unfold td
  rw[S.len];simp
end
abbrev zf (ifs:List Expr)(env:Env):Sem Bool:=forIn ifs true λc r=>if r=true then do let ok <-isTrue c env (eval c env);pure (ForInStep.yield ok) else pure (ForInStep.yield r)
theorem AO {prog:Program}{w:World}{A:Around}{R:Result->Shared->Prop}{s:Shared}{elt target iter:Expr}{ifs:List Expr}{scope:Scope}{pos:Pos}{it acc:Value}{env:Env}(I:Nat->Shared->Prop)
  (turn:∀n s,I n s->wpAny (model prog w) A (pyNext it) (λr s1=>match r with
   |none=>R (.ok .next) s1
   |some v=>wpAny (model prog w) A (letOwnedTupleGo target it v) (λ_ s1'=>wpAny (model prog w) A (assign target env v) (λ_ s2=>
     wpAny (model prog w) A (zf ifs env) (λok s3=>
      if ok=true then wpAny (model prog w) A (eval elt env) (λx s4=>wpAny (model prog w) A (call (.builtin "list.append") [acc,x]) (λ_ s5=>∃m,m < n/\I m s5) (λ_ _=>False) s4) (λ_ _=>False) s3
      else ∃m,m < n/\I m s3) (λ_ _=>False) s2) (λ_ _=>False) s1') (λ_ _=>False) s1) (λ_ _=>False) s)
  (n:Nat) (h:I n s):codeAny (model prog w) A (.compLoop (.ListComp elt [⟨target,iter,ifs,0⟩] scope pos) 0 it acc env) R s:=by
 refine codeAny_loop rfl I (λn s hI=>?_) n h
 (show wpAny _ A ((compTurn (.ListComp elt [⟨target,iter,ifs,0⟩] scope pos) 0 it acc env).onRaise (λx=>do (noteFrame x env);theTreesLotGoes x)) _ _ s)
 refine wpAny_noted ?_
 rw[compTurn_list]
 refine KO (wpAny_standAt (KO (LR (turn n s hI) (λr s1 h1=>?_) λ_ _ z=>z.elim)))
 cases r with
 |none=>exact KS h1
 |some v=>
  refine KO (LR h1 (λ_ s1' h1'=>?_) λ_ _ z=>z.elim)
  refine KO (LR h1' (λ_ s2 h2=>KO (LR h2 (λok s3 h3=>?_) λ_ _ z=>z.elim)) λ_ _ z=>z.elim)
  cases ok with
  |false=>exact KS ⟨rfl,h3⟩
  |true=>exact KO (KO (LR h3 (λx s4 h4=>KO (LR h4 (λ_ s5 h5=>KS (KS ⟨rfl,h5⟩)) λ_ _ z=>z.elim)) λ_ _ z=>z.elim))
def BR (X:Cx)(ifs:List Expr)(t:TT):Prop:=
 ∀(pins:List (Addr×Obj)) (s:Shared) (σ:St) (H:Hp) (Q:Bool->Hp->Prop),Inv X pins σ H s->t σ H Q->wpAny (model X.prog X.w) X.A (zf ifs X.env) (TP X pins σ Q) X.xe s
def GG:TT:=λ_ H Q=>Q true H
def ud {X:Cx}:BR X [] GG:=λpins s σ H Q I h=>KS ⟨H,I,h⟩
def y7 {X:Cx}{c:Expr}{t:TT}(h:PT X c t):BR X [c] t:=λpins s σ H Q I q=>wpAny_tests_one (h pins s σ H Q I q)
def x9 (own:Nat)(ixs:List Nat)(wi:TI)(g:TG)(tt:TT)(te:TE)(σ:St)(H:Hp)(Q:VK):Prop:=wi σ H λJ H1=>∀D,H1 D=none->∃W:Nat->Nat->St->Hp->Prop,(∃m,W 0 m (td own ixs σ) (upd H1 D (.lst [])))/\∀i m σ' H',W i m σ' H'->
 (J.stop i H'/\(∃acc,H' D=some (.lst acc))/\Q (.ref D) H')\/
 (J.go i H'/\∃N:St->Hp->Prop,(∀σ2 H2,N σ2 H2->∃m',m' < m/\W (i + 1) m' σ2 H2)/\∀x H2,J.yld i H' x H2->g x σ' H2 λσ3 H3=>tt σ3 H3 λb H4=>
  if b=true then te σ3 H4 λv H5=>∃acc,H5 D=some (.lst acc)/\acc.length < sizeLine/\N σ3 (upd H5 D (.lst (acc ++ [v]))) else N σ3 H4)
section
variable {X:Cx}{NB:List Str}{own:Nat}{ixs:List Nat}{scope:Scope}{elt tg iter:Expr}{ifs:List Expr}{pos:Pos}{wi:TI}{g:TG}{tt:TT}{te:TE}
def sI (hc:X.calm=true)(S:cL X NB own ixs scope)
  (hg:∀C ex s3 H3 pn,PG (iA X NB scope C ex s3 H3 pn) tg g) (ht:∀C ex s3 H3 pn,BR (iA X NB scope C ex s3 H3 pn) ifs tt) (he:∀C ex s3 H3 pn,PE (iA X NB scope C ex s3 H3 pn) elt te)
  {pins:List (Addr×Obj)} {σ:St} {H1:Hp} {s2:Shared} {it:Addr} {fp:List Addr} {tn:Nat->Heap->Prop} {J:It} {Q:VK} (I2:Inv X pins σ H1 s2) (T:Turn X.prog X.w X.K tg J fp it tn) (st2:tn 0 s2.heap) (f2:∀b∈fp,rO X pins H1 b)
  (hQ:∀D,H1 D=none->∃W:Nat->Nat->St->Hp->Prop,(∃m,W 0 m (td own ixs σ) (upd H1 D (.lst [])))/\∀i m σ' H',W i m σ' H'->
   (J.stop i H'/\(∃acc,H' D=some (.lst acc))/\Q (.ref D) H')\/
   (J.go i H'/\∃N:St->Hp->Prop,(∀σ2 H2,N σ2 H2->∃m',m' < m/\W (i + 1) m' σ2 H2)/\∀x H2,J.yld i H' x H2->g x σ' H2 λσ3 H3=>tt σ3 H3 λb H4=>
    if b=true then te σ3 H4 λv H5=>∃acc,H5 D=some (.lst acc)/\acc.length < sizeLine/\N σ3 (upd H5 D (.lst (acc ++ [v]))) else N σ3 H4))
  {E:Value->Shared->Prop} {RR:Value->Addr->Result->Shared->Prop}
  (fin:∀D C H' s' m,Inv X pins σ H' s'->Q (.ref D) H'->s'.heap.Ns C m->H' C=none->C≠X.env.locals->(∀x c,X.env.cells.lookup x=some c->c≠C)->X.s₀.heap.objs.size<=C->(∀p∈X.pn ++ pins,p.1≠C)->RR (.ref D) C (.ok .next) s') :
  wpAny (model X.prog X.w) X.A (newList []) (λacc s3=>wpAny (model X.prog X.w) X.A (newFunctionEnv scope X.env.globals (ni X.env.cells scope.names []) [] X.env.qual none .none (some X.env)) (λcenv s4=>
   codeAny (model X.prog X.w) X.A (.compStart (.ListComp elt [⟨tg,iter,ifs,0⟩] scope pos) 0 (.ref it) acc {cenv with scope:=relabel scope X.env}) (RR acc cenv.locals) s4) E s3) E s2:=by
 refine wpAny_newList ?_ (LD _)
 have hD:H1 s2.heap.objs.size=none:=I2.hok.fresh (KR _)
 obtain⟨W,⟨m0,w0⟩,turn⟩:=hQ s2.heap.objs.size hD
 generalize hs3:({s2 with heap:=s2.heap.push (seqObj "list" ([]:List Value).toArray 0)}:Shared)=s3
 have I3:Inv X pins σ (upd H1 s2.heap.objs.size (.lst [])) s3:=by
  rw[<-hs3]
  exact I2.lnew (ys:=[]) (its:=[]) (t':=s2.toks) .nil (LD _)
 have k3:∀b o,s2.heap.get? b=some o->s3.heap.get? b=some o:=λb o e=>by rw[<-hs3];exact KQ _ e
 have sz3:s3.heap.objs.size=s2.heap.objs.size + 1:=by rw[<-hs3];exact Ma ..
 have ob2:∀b∈fp,∃o,s2.heap.get? b=some o:=λb hb=>let ⟨o,e,_⟩:=T.obj 0 _ st2 b hb;⟨o,e⟩
 have neD:∀b∈fp,b≠s2.heap.objs.size:=λb hb=>let ⟨o,e⟩:=ob2 b hb;Lr (KY e)
 have f3:∀b∈fp,rO X pins (upd H1 s2.heap.objs.size (.lst [])) b:=λb hb=>by
  obtain⟨a1,a2⟩:=f2 b hb
  exact⟨by rw[aI (neD b hb)];exact a1,a2⟩
 have st3:tn 0 s3.heap:=T.keep _ _ _ st2 λb _ o e=>k3 b o e
 refine Es λh4 hn4 k4 ok4=>?_
 have I4:Inv (iA X NB scope s3.heap.objs.size fp s3 (upd H1 s2.heap.objs.size (.lst [])) (X.pn ++ pins)) [] (td own ixs σ) (upd H1 s2.heap.objs.size (.lst [])) {s3 with heap:=h4}:=
  Ax S I3 f3 (λb hb=>let ⟨o,e⟩:=ob2 b hb;⟨o,k3 _ _ e⟩) hn4 k4 ok4
 have st4:tn 0 h4:=T.keep _ _ _ st3 λb _ o e=>k4 b o e
 generalize hB:iA X NB scope s3.heap.objs.size fp s3 (upd H1 s2.heap.objs.size (.lst [])) (X.pn ++ pins)=B at I4
 have hgB:PG B tg g:=by rw[<-hB];exact hg _ _ _ _ _
 have htB:BR B ifs tt:=by rw[<-hB];exact ht _ _ _ _ _
 have heB:PE B elt te:=by rw[<-hB];exact he _ _ _ _ _
 have eP:B.prog=X.prog:=by rw[<-hB];rfl
 have eW:B.w=X.w:=by rw[<-hB];rfl
 have eK:B.K=X.K:=by rw[<-hB];rfl
 have eA:B.A=X.A:=by rw[<-hB];rfl
 have eC:B.calm=true:=by rw[<-hB];exact hc
 have eX:B.xe=λ_ _=>False:=by rw[<-hB];rfl
 have eE:B.env=compEnvC scope (EM X scope s3.heap.objs.size) s3.heap.objs.size X.env:=by rw[<-hB];rfl
 have ex:B.ex=fp:=by rw[<-hB];rfl
 have eL:B.env.locals=s3.heap.objs.size:=by rw[eE];rfl
 have stat:∀{H':Hp},(∀b∈fp,H' b=none)->∀b∈fp,rO B [] H' b:=λ{H'} hn b hb=>by
  obtain⟨a1,a2,a3,a4,a5,a6⟩:=f3 b hb
  obtain⟨o,eo⟩:=ob2 b hb
  refine⟨hn b hb,?_,λz=>?_,.inl (by rw[ex];exact hb),λx c e z=>?_,λp hp z=>?_⟩
  ·rw[eL];exact Lr (KY (k3 _ _ eo))
  ·have hz:b∈dD X.stack:=by rw[<-hB] at z;exact z
   rcases KZ.mp (I3.stkSub b hz) with q |q
   ·exact a2 q
   ·exact a3 q
  ·rw[eE] at e
   have e:(EM X scope s3.heap.objs.size).lookup x=some c:=e
   unfold EM at e
   rw[lC,List.lookup_append] at e
   cases q:(cellsFrom (s3.heap.objs.size + 1) scope.names []).lookup x with
   |some c'=>
    rw[q] at e
    cases e
    have l1:=(pK (LP q)).1
    rw[z] at l1
    exact Ln _ (My l1 (KY (k3 _ _ eo)))
   |none=>
    rw[q] at e
    have e:(ni X.env.cells scope.names []).lookup x=some c:=e
    rcases mZ e with⟨m1,m2⟩ |m1
    ·obtain⟨c',e'⟩:=I3.ok.has x (S.frees _ m1 rfl)
     rw[e'] at m2
     exact a5 x c' e' (by rw[<-z,m2];rfl)
    ·simp at m1
  ·have hp':p∈X.pn ++ pins:=by
    rw[<-hB] at hp
    rcases Lp.mp hp with q |q
    ·exact q
    ·cases q
   exact a6 p hp' z
 have back:∀{σ':St} {H':Hp} {s':Shared},Inv B [] σ' H' s'->Inv X pins σ H' s':=λ{σ' H' s'} J'=>by
  have u:=J'.base
  have os:=J'.os
  have bare:=J'.bare
  have hok:=J'.hok
  subst hB
  exact I3.call' (ch:=fp) os u hok bare λb hb=>by
   obtain⟨a1,a2,a3,a4,a5,a6⟩:=f3 b hb
   exact⟨a4,a2,a5,a6⟩
 have loop:∀s5:Shared,s5={s3 with heap:=h4}->
   codeAny (model X.prog X.w) X.A (.compLoop (.ListComp elt [⟨tg,iter,ifs,0⟩] scope pos) 0 (.ref it) (.ref s2.heap.objs.size) (compEnvC scope (EM X scope s3.heap.objs.size) s3.heap.objs.size X.env)) (RR (.ref s2.heap.objs.size) s3.heap.objs.size) s5:=by
  rintro s5 rfl
  refine AO (λn s'=>∃i σ' H',Inv B [] σ' H' s'/\tn i s'.heap/\(∀b∈fp,H' b=none)/\W i n σ' H') ?_ m0 ⟨0,_,_,I4,st4,λb hb=>(f3 b hb).1,w0⟩
  rintro n s6 ⟨i,σ6,H6,I6,st6,fr6,w6⟩
  rcases turn i n σ6 H6 w6 with⟨stop,⟨acc,hacc⟩,qn⟩ | ⟨go,N,hN,step⟩
  ·have:=T.done B eP eW eK eC i [] s6 σ6 H6 (λ_ _=>False) I6 (stat fr6) st6 stop
   rw[eA] at this
   refine cq this λr s7 ⟨hr,I7⟩=>?_
   subst hr
   obtain⟨m7,hn7,_⟩:=I7.loc
   rw[eL] at hn7
   have J7:=back I7
   refine fin _ _ H6 s7 m7 J7 qn hn7 (by rw[<-eL];exact I7.free) (λz=>?_) (λx c e z=>?_) ?_ λp hp z=>?_
   ·have:=I3.lt
    rw[<-z] at this
    exact Ln _ this
   ·obtain⟨v,o,ho,_⟩:=I3.cell x c e
    exact absurd (KY ho) (by rw[z];exact Ln _)
   ·exact I3.sz
   ·have:=KY (I3.pin p hp).1
    rw[z] at this
    exact Ln _ this
  ·have hitem:=T.item B eP eW eK eC i [] s6 σ6 H6 (λ_ _=>False) I6 (stat fr6) st6 go
   rw[eA] at hitem
   refine cq hitem λr s7 ⟨u,hr,h7⟩=>?_
   subst hr
   refine cq h7 λ_ s8 ⟨x,H8,I8,r8,y8,st8,fr8⟩=>?_
   have I8':=I8.pinned (stat fr8) (T.obj _ _ st8)
   have ha:=hgB _ s8 σ6 H8 x u _ I8' r8 (step x H8 y8)
   rw[eP,eW,eA,eE,eX] at ha
   refine cq ha λ_ s9 ⟨σ9,H9,I9,q9⟩=>?_
   have hb:=htB _ s9 σ9 H9 _ I9 q9
   rw[eP,eW,eA,eE,eX] at hb
   refine cq hb λok s10 ⟨H10,I10,q10⟩=>?_
   have again:∀{σ7:St} {H7:Hp} {s7:Shared},Inv B ([] ++ qf fp s8.heap) σ7 H7 s7->N σ7 H7->∃m,m < n/\∃i σ' H',Inv B [] σ' H' s7/\tn i s7.heap/\(∀b∈fp,H' b=none)/\W i m σ' H':=λ{σ7 H7 s7} I7 n7=>by
    obtain⟨m',hm,w7⟩:=hN σ7 H7 n7
    refine⟨m',hm,i + 1,σ7,H7,I7.unpinned,T.keep _ _ _ st8 λb hb o e=>(I7.pin (b,o) (Ls _ (Ls _ (jd hb e)))).1,λb hb=>?_,w7⟩
    obtain⟨o,e,d⟩:=T.obj _ _ st8 b hb
    exact (I7.pin (b,o) (Ls _ (Ls _ (jd hb e)))).2.1
   cases ok with
   |false=>
    simp only[K6,Lz] at q10 ⊢
    exact again I10 q10
   |true=>
    simp only[LO] at q10 ⊢
    have hv:=heB _ s10 σ9 H10 _ I10 q10
    rw[eP,eW,eA,eE,eX] at hv
    refine cq hv λy s11 ⟨v,H11,I11,r11,acc,hacc,hz,q11⟩=>?_
    have hap:=nz (X:=B) _ s11 σ9 H11 (.ref s2.heap.objs.size) [v] (.ref s2.heap.objs.size) [y] (λz H'=>z=.non/\N σ9 H') I11 rfl (.cons r11 .nil) ⟨_,acc,v,rfl,rfl,hacc,hz,rfl,q11⟩
    rw[eP,eW,eA,eX] at hap
    exact cq hap λ_ s12 ⟨_,H12,I12,_,_,q12⟩=>again I12 q12
 exact codeAny_compStart_list (loop _ rfl) (T.self X.A 0 _ _ _ st4 (loop _ rfl))
def we (hc:X.calm=true)(S:cL X NB own ixs scope)(hi:PI X tg iter wi)
  (hg:∀C ex s3 H3 pn,PG (iA X NB scope C ex s3 H3 pn) tg g) (ht:∀C ex s3 H3 pn,BR (iA X NB scope C ex s3 H3 pn) ifs tt) (he:∀C ex s3 H3 pn,PE (iA X NB scope C ex s3 H3 pn) elt te)
  (hs:∀x,foldedSetIterable iter X.env x=pure x:=by intro _;rfl) :
  PE X (.ListComp elt [⟨tg,iter,ifs,0⟩] scope pos) (x9 own ixs wi g tt te):=by
 intro pins s σ H Q I h
 rw[eval_ListComp]
 refine wpAny_comprehension_free (use:=none) rfl hs (ph λy hy e=>I.ok.has _ (S.frees y hy e)) S.kind (λy hy e=>by rw[S.names y hy,e]) ?_
 refine cq (hi pins s σ H _ I h) λv s1 h1=>cq h1 λitv s2 h2=>?_
 obtain⟨it,fp,tn,J,H2,e,I2,T,st2,f2,q2⟩:=h2
 subst e
 refine sI hc S hg ht he I2 T st2 f2 q2 (RR:=λacc C=>compPost (model X.prog X.w) X.A X.xe none (EP X pins σ Q) acc C) λD C H' s' m J' q hn hC n1 n2 n3 n4=>?_
 refine⟨m,hn,λh'' sb=>⟨.ref D,H',?_,rfl,q⟩⟩
 exact J'.turned (t':=s'.toks) (it:=C) (λb o hb e=>sb.extBut b o hb e) hC n1 (.inr n3) n2 n4
def Cb {i:Nat}{y:Str}{py spos:Pos}(hc:X.calm=true)(S:cL X NB own ixs scope)(hi:PI X tg iter wi)
  (hg:∀C ex s3 H3 pn,PG (iA X NB scope C ex s3 H3 pn) tg g) (ht:∀C ex s3 H3 pn,BR (iA X NB scope C ex s3 H3 pn) ifs tt) (he:∀C ex s3 H3 pn,PE (iA X NB scope C ex s3 H3 pn) elt te)
  (hN:X.N.Nodup) (hy:X.N[i]? =some y) (hl:X.env.scope.names.lookup y=some .local)
  (hsw:swapsWith (.ListComp elt [⟨tg,iter,ifs,0⟩] scope pos) (some (.Name y py)) spos.line X.env=pure true)
  (hs:∀x,foldedSetIterable iter X.env x=pure x:=by intro _;rfl) :
  PS X (.Assign [.Name y py] (.ListComp elt [⟨tg,iter,ifs,0⟩] scope pos) spos) (λD σ H=>x9 own ixs wi g tt te σ H λv H'=>D.nx (σ.set i (some v)) H'):=by
 intro pins s σ H D I h
 rw[exec_Assign_Name_used _ _ _ _ hsw]
 refine KO (wpAny_standAt (KO ?_))
 show wpAny _ X.A (comprehension (.ListComp elt [⟨tg,iter,ifs,0⟩] scope pos) scope X.env _ (newList []) false (eval iter X.env) (some (assign (.Name y py) X.env)) >>= λ_=>pure ()) _ _ s
 refine KO (LR (wpAny_comprehension_free (use:=some (assign (.Name y py) X.env)) (Q:=λ_ s'=>SP X pins D .next s') rfl hs (ph λy hy e=>I.ok.has _ (S.frees y hy e)) S.kind (λy hy e=>by rw[S.names y hy,e]) ?_)
  (λ_ s' hq=>KS (KS hq)) λ_ _ e=>e)
 refine cq (hi pins s σ H _ I h) λv s1 h1=>cq h1 λitv s2 h2=>?_
 obtain⟨it,fp,tn,J,H2,e,I2,T,st2,f2,q2⟩:=h2
 subst e
 refine sI hc S hg ht he I2 T st2 f2 q2 (Q:=λv H'=>D.nx (σ.set i (some v)) H') (RR:=λacc C=>compPost (model X.prog X.w) X.A X.xe (some (assign (.Name y py) X.env)) (λ_ s'=>SP X pins D .next s') acc C) λD' C H' s' m J' q hn hC n1 n2 n3 n4=>?_
 show wpAny _ X.A (assign (.Name y py) X.env (.ref D')) _ _ s'
 refine wpAny_assign_Name (sg J' hN hy (.inl hl) (v:=.ref D') rfl (λs'' I'' ⟨a,sb,ha⟩=>?_) (.inr hl))
 have hCa:C≠a:=by
  rcases ha with z |z
  ·rw[z];exact n1
  ·exact (n2 _ _ z).symm
 refine⟨m,hn.sameBut sb hCa,λh3 sb3=>⟨_,H',?_,q⟩⟩
 exact I''.turned (t':=s''.toks) (it:=C) (λb o hb e=>sb3.extBut b o hb e) hC n1 (.inr n3) n2 n4
end
section
variable {own:Nat}{ixs:List Nat}{g:TG}{tt:TT}{te:TE}{σ:St}{H:Hp}{Q:VK}{K:Frag}{D a:Addr}{xs:List V}
abbrev dG (g:TG)(tt:TT)(te:TE)(D:Addr)(x:V)(σ:St)(H:Hp)(N:St->Hp->Prop):Prop:=g x σ H λσ3 H3=>tt σ3 H3 λb H4=>
  if b=true then te σ3 H4 λv H5=>∃acc,H5 D=some (.lst acc)/\acc.length < sizeLine/\N σ3 (upd H5 D (.lst (acc ++ [v]))) else N σ3 H4
def Ab (Pv:Nat->St->Hp->Prop)(h0:Pv 0 (td own ixs σ) (upd H D (.lst [])))(hl:∀i σ H,i<=xs.length->Pv i σ H->gR K H a xs)
  (hs:∀i x σ H,xs[i]? =some x->Pv i σ H->dG g tt te D x σ H (Pv (i + 1))) (hd:∀σ H,Pv xs.length σ H->(∃acc,H D=some (.lst acc))/\Q (.ref D) H) :
  ∃W:Nat->Nat->St->Hp->Prop,(∃m,W 0 m (td own ixs σ) (upd H D (.lst [])))/\∀i m σ' H',W i m σ' H'->
   ((zR K a).stop i H'/\(∃acc,H' D=some (.lst acc))/\Q (.ref D) H')\/
   ((zR K a).go i H'/\∃N:St->Hp->Prop,(∀σ2 H2,N σ2 H2->∃m',m' < m/\W (i + 1) m' σ2 H2)/\∀x H2,(zR K a).yld i H' x H2->dG g tt te D x σ' H2 N):=by
 refine⟨λi m σ H=>m=xs.length - i/\i<=xs.length/\Pv i σ H,⟨xs.length,by simp,LD _,h0⟩,?_⟩
 rintro i m σ H ⟨rfl,hi,p⟩
 have q:=hl i σ H hi p
 by_cases hlt:i < xs.length
 ·refine .inr ⟨⟨xs,xs[i],q,by simp[hlt]⟩,Pv (i + 1),λσ' H' p'=>⟨xs.length - (i + 1),by omega,rfl,hlt,p'⟩,λx H' y=>?_⟩
  obtain⟨e,y⟩:=y
  subst e
  exact hs i x σ _ (y xs q) p
 ·have e:i=xs.length:=by omega
  subst e
  exact .inl ⟨⟨xs,q,KR _⟩,hd σ H p⟩
def wV {lo:Int}{n:Nat}(Pv:Nat->St->Hp->Prop)(h0:Pv 0 (td own ixs σ) (upd H D (.lst [])))
  (hs:∀i σ H,i < n->Pv i σ H->dG g tt te D (.int (lo + i)) σ H (Pv (i + 1))) (hd:∀σ H,Pv n σ H->(∃acc,H D=some (.lst acc))/\Q (.ref D) H) :
  ∃W:Nat->Nat->St->Hp->Prop,(∃m,W 0 m (td own ixs σ) (upd H D (.lst [])))/\∀i m σ' H',W i m σ' H'->
   ((z7 lo n).stop i H'/\(∃acc,H' D=some (.lst acc))/\Q (.ref D) H')\/
   ((z7 lo n).go i H'/\∃N:St->Hp->Prop,(∀σ2 H2,N σ2 H2->∃m',m' < m/\W (i + 1) m' σ2 H2)/\∀x H2,(z7 lo n).yld i H' x H2->dG g tt te D x σ' H2 N):=by
 refine⟨λi m σ H=>m=n - i/\i<=n/\Pv i σ H,⟨n,by simp,LD _,h0⟩,?_⟩
 rintro i m σ H ⟨rfl,hi,p⟩
 by_cases hlt:i < n
 ·refine .inr ⟨hlt,Pv (i + 1),λσ' H' p'=>⟨n - (i + 1),by omega,rfl,hlt,p'⟩,λx H' y=>?_⟩
  obtain⟨e,y⟩:=y
  subst e y
  exact hs i σ _ hlt p
 ·have e:i=n:=by omega
  subst e
  exact .inl ⟨KR _,hd σ H p⟩
end
mutual
inductive Rep (K:Frag)(H:Hp):V->PyData->Prop
 |non:Rep K H .non .none
 |bl (b:Bool):Rep K H (.bl b) (.bool b)
 |int (i:Int):Rep K H (.int i) (.int i)
 |str (x:Str):Rep K H (.str x) (.str x)
 |tup {a:Addr} {xs:List V} {ds:List PyData}:gj K H a xs->kf K H xs ds->Rep K H (.ref a) (.tuple ds)
 |lst {a:Addr} {xs:List V} {ds:List PyData}:gR K H a xs->kf K H xs ds->Rep K H (.ref a) (.list ds)
inductive kf (K:Frag)(H:Hp):List V->List PyData->Prop
 |nil:kf K H [] []
 |cons {x:V} {xs:List V} {d:PyData} {ds:List PyData}:Rep K H x d->kf K H xs ds->kf K H (x :: xs) (d :: ds)
end
section
variable {X:Cx}{pins:List (Addr×Obj)}{σ:St}{H H':Hp}{s:Shared}
mutual
theorem Rep.reads (I:Inv X pins σ H s):∀{x:V} {d:PyData} {u:Value},Rep X.K H x d->RelV x u->∃as,Reads s.heap u d as
 |_,_,_,.non,r=>by cases r;exact⟨_,.none⟩
 |_,_,_,.bl b,r=>by cases r;exact⟨_,.bool b⟩
 |_,_,_,.int i,r=>by obtain⟨t,rfl⟩:=r;exact⟨_,.int i t⟩
 |_,_,_,.str x,r=>by obtain⟨t,rfl⟩:=r;exact⟨_,.str x t⟩
 |_,_,_,.tup h hs,r=>by
  cases r
  obtain⟨its,rv,⟨o,ho,hc,n,hd⟩,_⟩:=I.tuple h
  obtain⟨as,q⟩:=kf.reads I hs rv
  exact⟨_,.tuple ho hc hd (by simpa using q)⟩
 |_,_,_,.lst h hs,r=>by
  cases r
  obtain⟨its,rv,pl,_⟩:=I.list h
  obtain⟨o,ho,hc,n,hd⟩:=pl.isList
  obtain⟨as,q⟩:=kf.reads I hs rv
  exact⟨_,.list ho hc hd (by simpa using q)⟩
theorem kf.reads (I:Inv X pins σ H s):∀{xs:List V} {ds:List PyData} {us:List Value},kf X.K H xs ds->Vals xs us->∃as,ReadsAll s.heap us ds as
 |_,_,_,.nil,r=>by cases r;exact⟨_,.nil⟩
 |_,_,_,.cons h hs,r=>by
  cases r with
  |cons r1 r2=>
   obtain⟨as,q⟩:=Rep.reads I h r1
   obtain⟨bs,q'⟩:=kf.reads I hs r2
   exact⟨_,.cons q q'⟩
end
def Gz (K:Frag)(neg:Bool):R2:=λx y H Q=>∃d e,Rep K H x d/\Rep K H y e/\SeqAt.shaped d=true/\SeqAt.shaped e=true/\Q (.bl (if neg then !PyData.eqv d e else PyData.eqv d e)) H
def bc (hu:X.A.units + 64 < cLine):me X (compareOp .Eq) (Gz X.K false):=by
 intro pins s σ H x y v u Q I rx ry h
 obtain⟨d,e,h1,h2,s1,s2,q⟩:=h
 obtain⟨as,r1⟩:=h1.reads I rx
 obtain⟨bs,r2⟩:=h2.reads I ry
 exact SeqAt.compareEq_shaped r1 r2 s1 s2 hu ⟨.bl _,H,I,rfl,q⟩
def nM (hu:X.A.units + 64 < cLine):me X (compareOp .NotEq) (Gz X.K true):=by
 intro pins s σ H x y v u Q I rx ry h
 obtain⟨d,e,h1,h2,s1,s2,q⟩:=h
 obtain⟨as,r1⟩:=h1.reads I rx
 obtain⟨bs,r2⟩:=h2.reads I ry
 exact SeqAt.compareNe_shaped r1 r2 s1 s2 hu ⟨.bl _,H,I,rfl,q⟩
def Ie (K:Frag)(neg:Bool):R2:=λx y H Q=>∃p xs d ds,y=.ref p/\(gR K H p xs\/gj K H p xs)/\kf K H xs ds/\Rep K H x d/\SeqAt.shaped d=true/\(∀e,e∈ds->SeqAt.shaped e=true)/\
 Q (.bl (if neg then !(ds.any λe=>PyData.eqv e d) else ds.any λe=>PyData.eqv e d)) H
theorem kf.at' {K:Frag}:∀{xs:List V} {ds:List PyData} {i:Nat} {x:V},kf K H xs ds->xs[i]? =some x->∃d,ds[i]? =some d/\Rep K H x d
 |_,_,_,_,.nil,e=>by simp at e
 |_,_,0,_,.cons r _,e=>by simp at e;subst e;exact⟨_,rfl,r⟩
 |_,_,i + 1,x,.cons _ t,e=>by
  obtain⟨u,h1,h2⟩:=kf.at' (i:=i) (x:=x) t (by simpa using e)
  exact⟨u,by simpa using h1,h2⟩
open Classical in
theorem wD (I:Inv X pins σ H s)(d:PyData):∀{xs:List V} {us:List Value} {ds:List PyData},Vals xs us->kf X.K H xs ds->(∀e,e∈ds->SeqAt.shaped e=true)->∃f:Value->Bool,us.any f=(ds.any λe=>PyData.eqv e d)/\∀u,u∈us->∃e as,e∈ds/\Reads s.heap u e as/\f u=PyData.eqv e d:=by
 intro xs us ds hv hr hs
 let f:Value->Bool:=λu=>if h:∃e as,SeqAt.shaped e=true/\Reads s.heap u e as then PyData.eqv (Classical.choose h) d else false
 have hf:∀{u:Value} {e:PyData} {as:List Addr},SeqAt.shaped e=true->Reads s.heap u e as->f u=PyData.eqv e d:=λ{u e as} h1 h2=>by
  have hx:∃e as,SeqAt.shaped e=true/\Reads s.heap u e as:=⟨e,as,h1,h2⟩
  show (if h:∃e as,SeqAt.shaped e=true/\Reads s.heap u e as then PyData.eqv (Classical.choose h) d else false)=_
  rw[dif_pos hx]
  obtain⟨bs,q1,q2⟩:=Classical.choose_spec hx
  rw[SeqAt.Reads.unique _ _ _ _ _ (MM q1) q2 h2]
 refine⟨f,?_,?_⟩
 ·induction hv generalizing ds with
  |nil=>cases hr;rfl
  | @cons x u xs us r1 r2 ih=>
   cases hr with
   | @cons _ _ e es h1 h2=>
    obtain⟨as,q⟩:=h1.reads I r1
    rw[MX,MX,hf (hs e (K3 ..)) q,ih h2 λz hz=>hs z (KW _ hz)]
 ·intro u hu
  obtain⟨i,hi,e0⟩:=Lq.mp hu
  have hi':i < xs.length:=by rw[hv.length];exact hi
  obtain⟨u',eu,ru⟩:=hv.get (KP hi')
  rw[KP hi,e0] at eu
  cases eu
  obtain⟨e,ee,re⟩:=kf.at' hr (KP hi')
  obtain⟨as,q⟩:=re.reads I ru
  have hm:=K8 ee
  exact⟨e,as,hm,q,hf (hs e hm) q⟩
def Cf (hu:X.A.units + 100 < cLine):me X (compareOp .In) (Ie X.K false):=by
 intro pins s σ H x y v u Q I rx ry h
 obtain⟨p,xs,d,ds,rfl,hq,hs,hx,s1,s2,q⟩:=h
 cases ry
 obtain⟨bs,r2⟩:=hx.reads I rx
 have key:∀{e:PyData} {as:List Addr} {u:Value},SeqAt.shaped e=true->Reads s.heap u e as->SeqAt.EqAt X.A.in1 s u v (PyData.eqv e d):=λ{e as u} h1 h2=>by
  refine SeqAt.eqAt_reads _ _ _ _ _ _ _ _ h2 r2 (MM h1) (MM s1) ?_
  have:=SeqAt.depth_of_shaped h1
  show X.A.units + 1 + _ < _
  omega
 rcases hq with hq |hq
 ·obtain⟨its,r,pl,hz⟩:=I.list hq
  obtain⟨f,e1,e2⟩:=wD I d r hs s2
  refine SeqAt.in_listAt f pl.isList (λw hw=>?_) ⟨.bl _,H,I,rfl,?_⟩
  ·obtain⟨e,as,hm,rd,ef⟩:=e2 w (by simpa using hw)
   rw[ef];exact key (s2 e hm) rd
  ·rw[show its.toArray.any f=its.any f by simp,e1];exact q
 ·obtain⟨its,r,pl,hz⟩:=I.tuple hq
  obtain⟨f,e1,e2⟩:=wD I d r hs s2
  refine SeqAt.in_tupleAt f pl (λw hw=>?_) ⟨.bl _,H,I,rfl,?_⟩
  ·obtain⟨e,as,hm,rd,ef⟩:=e2 w (by simpa using hw)
   rw[ef];exact key (s2 e hm) rd
  ·rw[show its.toArray.any f=its.any f by simp,e1];exact q
inductive DT (K:Frag)(H:Hp):V->String->Prop
 |non:DT K H .non "NoneType"
 |bl (b:Bool):DT K H (.bl b) "bool"
 |int (i:Int):DT K H (.int i) "int"
 |str (x:Str):DT K H (.str x) "str"
 |tup {a:Addr} {xs:List V}:gj K H a xs->DT K H (.ref a) "tuple"
 |lst {a:Addr} {xs:List V}:gR K H a xs->DT K H (.ref a) "list"
 |dic {a:Addr} {kvs:List (Key×V)}:H a=some (.dK kvs)->DT K H (.ref a) "dict"
def J2 (K:Frag):List V->Hp->VK->Prop:=λxs H Q=>∃x T t b,xs= [x,.ty T]/\DT K H x t/\PySem.W.kitOne K (.type t) (.type T)=some b/\Q (.bl b) H
theorem Be:cW X (.builtin "isinstance") (J2 X.K):=by
 intro pins s σ H xs us Q I r h
 obtain⟨x,T,t,b,rfl,ty,e,q⟩:=h
 obtain⟨u,c,rfl,rx,rc⟩:=vals2 r
 cases rc
 have fin:∀tk,EP X pins σ Q (.bool b) {s with toks:=tk}:=λtk=>⟨.bl b,H,I.tok tk,rfl,q⟩
 cases ty with
 |non=>exact iK I rx .non e fin
 |bl b=>exact iK I rx (.bl b) e fin
 |int i=>exact iK I rx (.int i) e fin
 |str z=>exact iK I rx (.str z) e fin
 |dic hk=>exact iK I rx (.dK hk) e fin
 |tup hq=>
  cases rx
  obtain⟨its,rv,⟨o,h1,h2,_⟩,_⟩:=I.tuple hq
  exact LF PySem.W.kitx_tuple I.kIn ⟨o,h1,h2⟩ e (λz=>nomatch z) fin
 |lst hq=>
  cases rx
  obtain⟨its,rv,pl,_⟩:=I.list hq
  obtain⟨o,h1,h2,_⟩:=pl.isList
  exact LF PySem.W.kitx_list I.kIn ⟨o,h1,h2⟩ e (λz=>nomatch z) fin
def wb {A:Around}{its:List Value}{bs:List Bool}(hv:Vals (bs.map V.bl) its):TruthOf X.prog X.w A (λi v=>its[i]? =some v) (λi=>bs.getD i false):=λi v s Q E hi hq=>by
 have hl:=hv.length
 have hi2:i < bs.length:=by
  have:=(Ld.mp hi).1
  rw[<-hl] at this;simpa using this
 obtain⟨u,eu,ru⟩:=hv.get (i:=i) (x:=.bl bs[i]) (by simp[hi2])
 rw[hi] at eu;cases eu
 cases ru
 refine LY ?_
 have:bs.getD i false=bs[i]:=by simp[hi2]
 rw[<-this];exact hq
theorem range_all (bs:List Bool):(List.range bs.length).all (λi=>bs.getD i false)=bs.all id:=by
 induction bs with
 |nil=>rfl
 |cons b bs ih=>
  rw[Lu,List.range_succ_eq_map,List.all_cons,List.all_map,List.all_cons,<-ih]
  rfl
theorem range_any (bs:List Bool):(List.range bs.length).any (λi=>bs.getD i false)=bs.any id:=by
 induction bs with
 |nil=>rfl
 |cons b bs ih=>
  rw[Lu,List.range_succ_eq_map,MX,List.any_map,MX,<-ih]
  rfl
def yw (K:Frag)(f:List Bool->Bool):List V->Hp->VK->Prop:=λxs H Q=>∃a bs,xs= [.ref a]/\gR K H a (bs.map V.bl)/\Q (.bl (f bs)) H
def pO (hc:X.calm=true){a:Addr}{bs:List Bool}{Q:VK}(I:Inv X pins σ H s)(hq:gR X.K H a (bs.map V.bl)){f:List Bool->Bool}{g:(Nat->Bool)->Nat->Bool}(hfg:g (λi=>bs.getD i false) bs.length=f bs)(q:Q (.bl (f bs)) H) :
  wpAny (model X.prog X.w) X.A.in1 (pyIter (.ref a)) (λit s2=>∃Ii fp wr n P St tr,it=.ref Ii/\Walks X.prog X.w X.A.in1 Ii fp wr n P St/\St 0 s2.heap/\TruthOf X.prog X.w X.A.in1 P tr/\
   ∀h' tk,(∀b o,b∉wr->s2.heap.get? b=some o->h'.get? b=some o)->EP X pins σ Q (.bool (g tr n)) {s2 with heap:=h',toks:=tk}) X.xe s:=by
 obtain⟨its,rv,pl,hz⟩:=I.list hq
 have hh:X.A.in1.handled=none:=I.ok.hd hc
 have hlen:its.length=bs.length:=by rw[<-rv.length];simp
 obtain⟨o,ho,_⟩:=id pl.isList
 refine MN pl.isList ?_
 have W:=Walks.list (prog:=X.prog) (w:=X.w) hh s.heap.objs.size a (Lr (KY ho)) its.toArray
 refine⟨s.heap.objs.size,_,_,_,_,_,λi=>bs.getD i false,rfl,W,⟨⟨_,Lf _ rfl,rfl,rfl⟩,pl.isList.push _⟩,?_,λh' tk k=>?_⟩
 ·have:=wb (X:=X) (A:=X.A.in1) rv
  simpa using this
 ·have e:its.toArray.size=bs.length:=by simpa using hlen
  rw[e,hfg]
  have I1:Inv X pins σ H {s with heap:=s.heap.push {cls:=.type "list_iterator",data:=.fields #[.ref a,.int 0 0]}}:=I.kept (t':=s.toks) λb o e=>KQ _ e
  have hf:H s.heap.objs.size=none:=I.hok.fresh (KR _)
  have fp:=I.fpOk (H':=H) (b:=s.heap.objs.size) (KR _) hf
  refine⟨.bl _,H,I1.turned (it:=s.heap.objs.size) (t':=tk) (λb o hb e=>k b o (by simpa using hb) e) hf fp.2.1 fp.2.2.2.1 fp.2.2.2.2.1 fp.2.2.2.2.2,rfl,q⟩
def qJ (hc:X.calm=true):cW X (.builtin "all") (yw X.K λbs=>bs.all id):=by
 intro pins s σ H xs us Q I r h
 obtain⟨a,bs,rfl,hq,q⟩:=h
 obtain⟨u,rfl,rx⟩:=vals1 r
 cases rx
 exact call_all_walk (pO hc I hq (f:=λbs=>bs.all id) (g:=λtr n=>(List.range n).all tr) (range_all bs) q)
def Bo (hc:X.calm=true):cW X (.builtin "any") (yw X.K λbs=>bs.any id):=by
 intro pins s σ H xs us Q I r h
 obtain⟨a,bs,rfl,hq,q⟩:=h
 obtain⟨u,rfl,rx⟩:=vals1 r
 cases rx
 exact call_any_walk (pO hc I hq (f:=λbs=>bs.any id) (g:=λtr n=>(List.range n).any tr) (range_any bs) q)
def CI:cW X (.type "range") (λxs H Q=>∃n:Int,xs= [.int n]/\∀p,H p=none->Q (.ref p) (upd H p (.oA 0 n))):=by
 intro pins s σ H xs us Q I r h
 obtain⟨n,rfl,q⟩:=h
 obtain⟨u,rfl,rx⟩:=vals1 r
 obtain⟨t,rfl⟩:=rx
 refine call_range_1 ⟨.ref s.heap.objs.size,upd H s.heap.objs.size (.oA 0 n),?_,rfl,q _ (I.hok.fresh (KR _))⟩
 exact I.laid (λb o e=>KQ _ e) (KR _) ⟨_,_,_,Lf _ rfl⟩
def rM (hc:X.calm=true):cW X (.type "list") (λxs H Q=>∃p n,xs= [.ref p]/\H p=some (.oA 0 n)/\0<=n/\n<=1000/\∀l,H l=none->Q (.ref l) (upd H l (.lst ((List.range n.toNat).map λ(i:Nat)=>V.int (i:Int))))):=by
 intro pins s σ H xs us Q I r h
 obtain⟨p,n,rfl,hp,h0,h1,q⟩:=h
 obtain⟨u,rfl,rx⟩:=vals1 r
 cases rx
 obtain⟨t,u,v,hr⟩:∃t u v,s.heap.get? p=some {cls:=.type "range",data:=.fields #[.int 0 t,.int n u,.int 1 v]}:=I.hok p _ hp
 have hsz:Builtin.Range.rangeSize 0 n 1=(n.toNat:Int):=by rw[rangeSize_one];split <;> omega
 refine call_list_range (I.ok.hd hc) hr (small_one (by omega) (by omega) (by omega) (by omega)) hsz (by omega) λh' tk acc c k hS hacc=>?_
 have hv:Vals ((List.range n.toNat).map λ(i:Nat)=>V.int (i:Int)) acc.toList:=by
  have key:∀(m:Nat) (us:List Value) (j:Nat),us.length=m->(∀(i:Nat) (v:Value),us[i]? =some v->∃t,v=Value.int ((j + i:Nat):Int) t)->Vals ((List.range' j m).map λ(i:Nat)=>V.int (i:Int)) us:=by
   intro m
   induction m with
   |zero=>intro us j hl _;cases us with
    |nil=>exact .nil
    |cons a b=>simp at hl
   |succ m ih=>
    intro us j hl hh
    cases us with
    |nil=>simp at hl
    |cons u us=>
     rw[List.range'_succ,LL]
     refine .cons (by have:=hh 0 u rfl;simp at this;exact this) (ih us (j + 1) (by simpa using hl) λi v hi=>?_)
     obtain⟨t,e⟩:=hh (i + 1) v (by simpa using hi)
     exact⟨t,by rw[e];congr 2;omega⟩
  have:=key n.toNat acc.toList 0 (by simpa using hacc.1) λi v hi=>by
   obtain⟨t,e⟩:=hacc.2 i v (by simpa using hi)
   exact⟨t,by rw[e];simp⟩
  rw[List.range_eq_range'];exact this
 refine⟨.ref s.heap.objs.size,_,I.laid (t':=tk) k (KR _) (show bL X.prog X.w _ h' _ (.lst _) from⟨by simp;rw[Lo];omega,acc.toList,c,hv,by simpa using hS⟩),rfl,q _ (I.hok.fresh (KR _))⟩
end
structure oo (k:Nat)(A:Around):Prop where
 dp:A.depth + 3 * k + 5 < recursionLimit
 un:A.units + 16 * k + 200 < cLine
 gd:A.guards=some []
def dN.mark {k:Nat}{A:Around}(r:dN k A)(v:Option Value):oo k (A.mark v):=⟨r.dp,r.un,r.gd⟩
def oo.deeper {k:Nat}{A:Around}(r:oo (k + 1) A)(env:Env):oo k (A.deeper env):=
 ⟨by have:=r.dp;show A.depth + 1 + 3 * k + 5 < _;omega,by have:=r.un;show A.units + 3 + 16 * k + 200 < _;omega,r.gd⟩
structure rR (P:Program)(w:World)(K:Frag)(mg:Str->Option Value)(base:Heap)(CX:vY)(k:Nat)(f:Addr)(fd:FuncData)(ps:List Str)(sp:Sp):Prop where
 len:∀vs H Q E,sp vs H Q E->vs.length=ps.length
 run:∀(A:Around) (outer:List Env) (s:Shared) (H:Hp) (args:Args) (us:List Value) (vs:List V) (Q:VK) (E:XK),oo k A->xa P w K mg base A outer s H->BindsTo s fd args (ps.zip us)->Vals vs us->sp vs H Q E->
  codeAny (model P w) A (.call (.ref f) args) (CR CX outer P w H s Q E) s
abbrev ze (CX:vY)(P:Program)(w:World)(K:Frag)(mg:Str->Option Value)(base:Heap)(N:List Str)(qual:Str)(scope:Scope)(f:Addr)(cd:Value)(A:Around)(outer:List Env)(s:Shared)(H:Hp)(E:XK):Cx:=
 {jX CX P w K mg base N qual scope f cd A outer s H E with calm:=false}
def xO {CX:vY}{P:Program}{w:World}{K:Frag}{mg:Str->Option Value}{base:Heap}{N ps:List Str}{qual:Str}{scope:Scope}{f:Addr}{cd:Value}{A:Around}{outer:List Env}{s s1:Shared}{H:Hp}{E:XK}{us:List Value}{vs:List V}
  (S:aH N ps scope) (e0:xa P w K mg base A outer s H) (hl:vs.length=ps.length) (r:Vals vs us)
  (x:InCallC s s.heap.objs.size (bindL (envOfC qual scope s.heap.objs.size f cd).kindOf (ps.zip us) λ_=>none) (cellsFrom (s.heap.objs.size + 1) scope.names []) (bindC (envOfC qual scope s.heap.objs.size f cd).kindOf (ps.zip us) λ_=>none) s1) :
  Inv (ze CX P w K mg base N qual scope f cd A outer s H E) [] (start N vs) H s1:=by
 have e1:xa P w K mg base {A with handled:=none} outer s H:=⟨e0.frames,e0.mod,e0.bs,e0.bsz,e0.funs,e0.frf,e0.hok,e0.bare⟩
 have I:=sv (CX:=CX) (E:=E) (A:={A with handled:=none}) S rfl e1 hl r x
 exact⟨⟨I.ok.mod,I.ok.kind,I.ok.glob,I.ok.blt,I.ok.above,I.ok.inj,I.ok.has,I.ok.cab,λz=>absurd z Lh,Around.frames_deeper e0.frames,I.ok.stk,I.ok.exf,I.ok.bs,I.ok.bsz,I.ok.noex,I.ok.exfs,I.ok.funs,I.ok.frf⟩,I.os,I.bare,I.base,I.loc,I.cell,I.free,I.freeC,I.pin,I.hok,I.len⟩
section
variable {P:Program}{w:World}{K:Frag}{mg:Str->Option Value}{base:Heap}
theorem AY.okH {x qual:Str}{st:Stmt}{f:Addr}{fd:FuncData}{N ps:List Str}{k:Nat}{sp:Sp}(F:AY K x qual st f fd)(S:aH N ps (ak st))(len:∀vs H Q E,sp vs H Q E->vs.length=ps.length)
  (hbody:∀(cdv:Value) (A:Around) (outer:List Env) (s:Shared) (H:Hp) (vs:List V) (Q:VK) (E:XK),oo k (A.deeper (envOfC qual (ak st) s.heap.objs.size f cdv))->sp vs H Q E->
   ∃t,oB (ze xZ P w K mg base N qual (ak st) f cdv A outer s H E).nox (bN st) t/\t {nx:=λ_ H'=>Q .non H',rt:=Q} (start N vs) H):rR P w K mg base xZ (k + 1) f fd ps sp:=by
 obtain⟨oc,od,kV,doc,pm,an,cdv,ct,osl,rfl,lk,hcd⟩:=F.ex
 refine⟨len,λA outer s H args us vs Q E hr e0 hb r hsp=>?_⟩
 have hl:=len _ _ _ _ hsp
 have KX:K.In s.heap:=e0.mod.kin.keeps λb o e=>(e0.bs b o e).1
 have lim:s.heap.NoLimit:=e0.mod.nolimit.keeps λb o e=>(e0.bs b o e).1
 have hkind:∀y∈ps.zip us,(ak st).names.lookup y.1=some .local\/((ak st).names.lookup y.1=some .cell/\((cellsFrom (s.heap.objs.size + 1) (ak st).names []).lookup y.1).isSome=true):=λ⟨n,v⟩ hy=>by
  rcases S.par n (of_mem_zip hy).1 with q |q
  ·exact .inl q
  ·exact .inr ⟨q,MI _ _ _ (.inl q)⟩
 have hdep:A.depth < recursionLimit:=by have:=hr.dp;omega
 refine codeAny_call_function hdep (KX _ _ lk) rfl S.co S.gen rfl (PySem.W.codeRec_of KX hcd) (hb _ _ _ _ ?_)
 refine wpAny_newFunctionEnv_cells S.kind hkind λenv he s1 x=>?_
 subst he
 refine⟨lim.keeps x.toInCall.keep,codeAny_func ?_⟩
 obtain⟨t,ht,hq⟩:=hbody cdv A outer s H vs Q E (hr.deeper _) hsp
 have I:Inv (ze xZ P w K mg base N qual (ak st) f cdv A outer s H E) [] (start N vs) H s1:=xO S e0 hl r x
 refine LR (ht.nox [] s1 (start N vs) H _ I hq) (λfl s' hs=>?_) λe s' hs=>hs
 have fin:∀{σ':St} {H':Hp} {v:V} {u:Value},Inv (ze xZ P w K mg base N qual (ak st) f cdv A outer s H E) [] σ' H' s'->RelV v u->Q v H'->CE outer P w H s Q u s':=
  λ{σ' H' v u} J rv q=>⟨v,H',J.os,J.bare,J.base,J.hok,rv,q⟩
 cases fl with
 |ret u=>
  obtain⟨v,σ',H',J,rv,q⟩:=hs
  exact fin J rv q
 |next=>
  obtain⟨σ',H',J,q⟩:=hs
  exact fin (v:=V.non) (u:=Value.none) J rfl q
 |brk=>
  obtain⟨_,_,_,q⟩:=hs
  exact False.elim q
 |cont=>
  obtain⟨_,_,_,q⟩:=hs
  exact False.elim q
def AY.A0 {x qual:Str}{st:Stmt}{f:Addr}{fd:FuncData}{N ps:List Str}{k:Nat}{sp:Sp}(F:AY K x qual st f fd)(S:aH N ps (ak st))(len:∀vs H Q E,sp vs H Q E->vs.length=ps.length)
  (hbody:∀(cdv:Value) (A:Around) (outer:List Env) (s:Shared) (H:Hp) (vs:List V) (Q:VK) (E:XK),dN k (A.deeper (envOfC qual (ak st) s.heap.objs.size f cdv))->sp vs H Q E->
   ∃t,oB (jX (mq P w) P w K mg base N qual (ak st) f cdv A outer s H E) (bN st) t/\t {nx:=λ_ H'=>Q .non H',rt:=Q} (start N vs) H):fq P w K mg base (mq P w) (k + 1) f fd ps sp:=by
 obtain⟨oc,od,kV,doc,pm,an,cdv,ct,osl,rfl,lk,hcd⟩:=F.ex
 exact E4 lk hcd S len λA outer s H vs Q E hr hsp=>hbody cdv A outer s H vs Q E hr hsp
end
section
variable {X:Cx}{CX:vY}{k:Nat}{f:Addr}{fd:FuncData}{ps:List Str}{sp:Sp}{dvs:List V}{ds:List Value}{E:XK}{x:Str}{p pos:Pos}{e:Expr}{es:List Expr}{t:TA}
theorem BN (F:rR X.prog X.w X.K X.mg X.base CX k f fd ps sp)(hr:oo k X.A)(hg:Gl X x)(hm:X.mg x=some (.ref f))(hk:PySem.W.keepIn X.K (.ref f)=true)(hb:Binds X.K fd ps ds)(hd:Vals dvs ds)(hx:Passes CX X E)
  (ha:PA X (e :: es) t) (hdb:(x == ("__debug__":Str))=false:=by decide) (he:starEach (e :: es) X.env=(false,eval e X.env) :: starEach es X.env:=by rfl) (hpl:(backTo pos (starEach es X.env)).any (·.1)=false:=by rfl) :
  PE X (.Call (.Name x p) (e :: es) [] pos) (Fg sp dvs E t):=by
 intro pins s σ H Q I h
 refine M6 (mw I hg hm ?_ hdb)
 refine PySem.W.callWith_K (h₀:=X.base) I.ok.mod.kin hk (cq (ha pos pins s σ H _ I h) λus s1 ⟨vs,H1,I1,r,q⟩=>⟨I1.kIn,?_⟩) he hpl
 have r2:Vals (vs ++ dvs) (us ++ ds):=r.append hd
 have hl:(us ++ ds).length=ps.length:=by rw[<-r2.length];exact F.len _ _ _ _ q
 refine wpAny_call (MQ (F.run X.A X.stack s1 H1 ⟨us,[]⟩ (us ++ ds) (vs ++ dvs) Q E hr I1.env0 (hb s1 us I1.kIn hl) r2 q) λr s' hq=>?_)
 cases r with
 |error e=>exact hx pins σ H1 s1 e s' I1 hq
 |ok fl=>
  cases fl with
  |ret u=>exact I1.after hq
  |next=>exact False.elim hq
  |brk=>exact False.elim hq
  |cont=>exact False.elim hq
end
section
variable {prog:Program}{w:World}{A:Around}{E:Value->Shared->Prop}{s:Shared}{K:Frag}{x D:Addr}{ox:Obj}
structure v8 (K:Frag)(D:Addr):Prop where
 cl:(PySem.W.clsIn K D).isSome=true
 ga:PySem.W.findIn K (.ref D) "__getattribute__"=some (some (.builtin "BaseException.__getattribute__"))
 gn:PySem.W.findIn K (.ref D) "__getattr__"=some none
 cls:PySem.W.findIn K (.ref D) "__class__"=some (some (.builtin "object.__class__"))
 get:PySem.W.specialIn K (.builtin "object.__class__") "__get__"=some (some (.builtin "getset_descriptor.__get__"))
 tk:PySem.W.takesIn K (.builtin "object.__class__")=some true
 ob:PySem.W.mroIn K D (.type "object")=some true
 be:PySem.W.mroIn K D (.type "BaseException")=some true
def BK (e:v8 K D):PySem.W.findObj K D none "__class__"=some (.bind (.builtin "getset_descriptor.__get__") (.builtin "object.__class__")):=by
 obtain⟨cd,hc⟩:=Mc.mp e.cl
 unfold PySem.W.findObj
 rw[hc,Option.bind_some,e.cls,Option.bind_some]
 simp[e.get,e.tk]
def zD {M:Model}{nameV:Value}{Q:Unit->Shared->Prop}(e:v8 K D)(X:K.In s.heap)(I:PySem.W.InstAt s.heap x ox D none)(hq:Q () s):wpAny M A (checkBuiltinCall "BaseException.__getattribute__" ⟨[.ref x,nameV],[]⟩) Q E s:=by
 have hk:builtinKind "BaseException.__getattribute__"=some .slot:=by decide +kernel
 have hsp:splitId "BaseException.__getattribute__"=some ("BaseException","__getattribute__"):=by decide +kernel
 have ha:=F.args_bexc_ga (.ref x) nameV
 have L0:=I.type (M:=M)
 have L1:=PySem.W.looks_mroIn (M:=M) X e.be
 simp only[checkBuiltinCall,hk,hsp]
 obtain⟨hh,g,d,t,os⟩:=s
 refine KO ?_
 unfold isInstance
 repeat (first
  |with_reducible refine L0.at ?_
  |with_reducible refine L1.at ?_
  |wp_step)
 exact hq
def Dt {tk:Tok}{Q:Fin->Shared->Prop}(e:v8 K D)(X:K.In s.heap)(I:PySem.W.InstAt s.heap x ox D none)(hq:Q (.done (.ret (.ref D))) s):wpAny (model prog w) A (Builtin.«object.__getattribute__» ⟨[.ref x,.str "__class__" tk],[]⟩) Q E s:=by
 have L0:=I.type (M:=model prog w)
 have L1:=PySem.W.looks_find (M:=model prog w) X I (BK e)
 obtain⟨hh,g,d,t,os⟩:=s
 repeat (any_goals (first
  |assumption
  |with_reducible refine L0.at ?_
  |with_reducible refine L1.at ?_
  |wp_step))
 exact PySem.W.class_get X I e.ob (KS hq)
def GJ {tk:Tok}{Q:Value->Shared->Prop}(FB:ExcAttrFacts "ValueError")(e:v8 K D)(X:K.In s.heap)(I:PySem.W.InstAt s.heap x ox D none)(hq:Q (.ref D) s):wpAny (model prog w) A (getAttrBy (.ref x) (.str "__class__" tk) false) Q E s:=by
 have f3:=FB.ga.bind (.ref x)
 have hx2:(Value.builtin "BaseException.__getattribute__" == Value.builtin "object.__getattribute__")=false:=by decide +kernel
 have hx1:(onTheHeap (Value.ref D) && Value.builtin "BaseException.__getattribute__" == Value.builtin "object.__getattribute__")=false:=by rw[hx2];rfl
 have L0:=I.type (M:=model prog w)
 have L1:=PySem.W.looks_findIn (M:=model prog w) X e.ga
 have L2:=PySem.W.looks_findIn (M:=model prog w) X e.gn
 obtain⟨hh,g,d,t,os⟩:=s
 repeat (any_goals (first
  |assumption
  |with_reducible refine L0.at ?_
  |with_reducible refine L1.at ?_
  |with_reducible refine L2.at ?_
  |wp_step))
 exact codeAny_call_builtin FB.ga.plain F.entry_bexc_ga (zD e X I (Dt e X I (PySem.W.handed_on rfl hq)))
def Ct {Q:Option Value->Shared->Prop}(FB:ExcAttrFacts "ValueError")(e:v8 K D)(X:K.In s.heap)(I:PySem.W.InstAt s.heap x ox D none)(hq:Q (some (.ref D)) {s with toks:=s.toks + 1}):wpAny (model prog w) A (getAttr? (.ref x) "__class__") Q E s:=by
 unfold getAttr? getAttrBy?
 exact KO (wpAny_mkText (KO (wpAny_attempt (GJ FB e X I (KS hq)))))
def iN.inst {h:Heap}(i:iN x (.ref D) h):∃ox,PySem.W.InstAt h x ox D none:=by
 obtain⟨o,vs,a,b,c,d,_⟩:=i
 exact⟨o,a,b,by unfold PySem.W.notCls;rw[d],by rw[c];trivial⟩
def Cu (e:v8 K D):PySem.W.KitX K (.ref x) (.ref D) (iN x (.ref D)) where
 ty:=λ_ _ _ i=>let ⟨_,I⟩:=i.inst;I.type
 it:=λ_ _ X _=>by
  obtain⟨cdD,hcD⟩:=Mc.mp e.cl
  unfold PySem.W.clsIn at hcD
  split at hcD
  ·rename_i c' d' cd' sl' ho
   intro A' Q' E' s' k q
   unfold isType loadHead
   exact KO (wpAny_loadPart (k _ _ (X _ _ ho)) (KS q))
  ·cases hcD
 ne:=λh tp dd its n sl X htp=>by
  obtain⟨cdD,hcD⟩:=Mc.mp e.cl
  refine Bool.eq_false_iff.mpr λq=>?_
  have e:D=tp:=Value.ref.inj (beq_iff_eq.mp q)
  subst e
  unfold PySem.W.clsIn at hcD
  split at hcD
  ·rename_i c' d' cd' sl' ho
   have z:=(X _ _ ho).symm.trans htp
   cases z
  ·cases hcD
 ca:=λX i k=>let ⟨_,I⟩:=i.inst;Ct F.excAttr_ValueError e X I k
end
end L2
namespace L2
open PySem PySem.SeqAt PySem.Spec PyProof.Rows
section
variable {X:Cx}
def IV (K:Frag):List V->Hp->VK->Prop:=λxs H Q=>∃(x D:Addr) (c:V) (C:Value) (b:Bool),xs= [.ref x,c]/\(∀u,RelV c u->u=C)/\H x=some (.ext (iN x (.ref D)))/\v8 K D/\PySem.W.kitOne K (.ref D) C=some b/\Q (.bl b) H
def bF:cW X (.builtin "isinstance") (IV X.K):=by
 intro pins s σ H xs us Q I r h
 obtain⟨x,D,c,C,b,rfl,hc,hx,e,k,q⟩:=h
 obtain⟨u,v,rfl,rx,rc⟩:=vals2 r
 cases rx
 rw[hc v rc]
 obtain⟨p,_,_⟩:=(show bL X.prog X.w H s.heap x (.ext (iN x (.ref D))) from I.hok x _ hx)
 exact LF (Cu e) I.kIn p k (λz=>nomatch z) λtk=>⟨.bl b,H,I.tok tk,rfl,q⟩
theorem lJ:∀{bs:List Bool} {us:List Value},Vals (bs.map V.bl) us->us=bs.map Value.bool
 | [],_,.nil=>rfl
 |b :: bs,_,.cons r rs=>by rw[lJ rs];cases r;rfl
def wg {bs:List Bool}(k:Bool)(A:Around)(s:Shared)(y:Value)(hy:y∈bs.map Value.bool):EqAt A s y (.bool k) (isBoolOf k y):=by
 obtain⟨b,_,rfl⟩:=K9.mp hy
 exact EqAt.bool_bool b k
theorem uk (k:Bool)(bs:List Bool):(bs.map Value.bool).countP (isBoolOf k)=bs.count k:=by
 induction bs with
 |nil=>rfl
 |cons b bs ih=>rw[LL,List.countP_cons,List.count_cons,ih];cases b <;> cases k <;> rfl
def ET (K:Frag):V->List V->Hp->VK->Prop:=λx vs H Q=>∃(a:Addr) (bs:List Bool) (k:Bool),x=.ref a/\vs= [.bl k]/\gR K H a (bs.map V.bl)/\Q (.int (bs.count k:Nat)) H
def Aq:Ig X "list.count" (ET X.K):=by
 intro pins s σ H x vs v us Q I rx rv h
 obtain⟨a,bs,k,rfl,rfl,hq,q⟩:=h
 cases rx
 obtain⟨u,rfl,ru⟩:=vals1 rv
 cases ru
 obtain⟨its,rs,pl,hz⟩:=I.list hq
 have hits:=lJ rs
 subst hits
 obtain⟨⟨cls,dd,data,sl⟩,ho,hc,n,hd⟩:=id pl.isList
 simp only at hc hd
 subst hc hd
 refine M9 PySem.F.slot_list_count ⟨_,ho,rfl⟩ PySem.F.entry_list_count (PySem.F.args_list_count_2 _ _) (list_countAt a (bs.map Value.bool).toArray n dd sl (.bool k) (isBoolOf k)) ⟨ho,λy hy=>wg k _ _ y (by simpa using hy),?_⟩
 rw[show (bs.map Value.bool).toArray.toList=bs.map Value.bool from rfl,uk]
 exact⟨.int (bs.count k:Nat),H,I.tok _,⟨_,rfl⟩,q⟩
def ER (K:Frag):V->List V->Hp->VK->Prop:=λx vs H Q=>∃(a:Addr) (bs:List Bool) (k:Bool),x=.ref a/\vs= [.bl k]/\gR K H a (bs.map V.bl)/\k∈bs/\Q (.int (bs.idxOf k:Nat)) H
def Ad:Ig X "list.index" (ER X.K):=by
 intro pins s σ H x vs v us Q I rx rv h
 obtain⟨a,bs,k,rfl,rfl,hq,hk,q⟩:=h
 cases rx
 obtain⟨u,rfl,ru⟩:=vals1 rv
 cases ru
 obtain⟨its,rs,pl,hz⟩:=I.list hq
 have hits:=lJ rs
 subst hits
 obtain⟨⟨cls,dd,data,sl⟩,ho,hc,n,hd⟩:=id pl.isList
 simp only at hc hd
 subst hc hd
 have hj:bs.idxOf k < bs.length:=List.idxOf_lt_length_iff.mpr hk
 have hsz:(sizeLine:Int) < 2 ^ 63 - 1:=by decide +kernel
 rw[Lk] at hz
 refine M9 PySem.F.slot_list_index ⟨_,ho,rfl⟩ PySem.F.entry_list_index (PySem.F.args_list_index_2 _ _)
  (list_indexAt a (bs.map Value.bool).toArray n dd sl (.bool k) (isBoolOf k) (bs.idxOf k) (by simpa using hj) (by omega) ?_ ?_) ⟨ho,λy hy=>wg k _ _ y (by simpa using hy),?_⟩
 ·simp[isBoolOf,List.getElem_idxOf hj]
 ·intro m hm hlt
  have hm':m < bs.length:=by simpa using hm
  have hne:bs[m]≠k:=λz=>by
   have:=List.not_of_lt_findIdx (p:=(· == k)) hlt
   simp[z] at this
  simpa[isBoolOf] using hne
 ·exact⟨.int (bs.idxOf k:Nat),H,I.tok _,⟨_,rfl⟩,q⟩
end
end L2
namespace L2
open PySem PySem.Spec PyProof.Rows
abbrev D:=PyData
def kD:Key->D
 | .inl i=>.int i
 | .inr x=>.str x
mutual
inductive Rp (K:Frag)(G:Hp):V->D->Prop
 |non:Rp K G .non .none
 |bl (b:Bool):Rp K G (.bl b) (.bool b)
 |int (i:Int):Rp K G (.int i) (.int i)
 |str (x:Str):Rp K G (.str x) (.str x)
 |tup {a:Addr} {xs:List V} {ds:List D}:gj K G a xs->de K G xs ds->Rp K G (.ref a) (.tuple ds)
 |lst {a:Addr} {xs:List V} {ds:List D}:G a=some (.lst xs)->de K G xs ds->Rp K G (.ref a) (.list ds)
 |scr {a:Addr} {ns:List Int}:gR K G a (ns.map V.int)->Rp K G (.ref a) (.dict [(.none,.list (ns.map int))])
 |dK {a:Addr} {kvs:List (Key×V)} {ds:List (D×D)}:G a=some (.dK kvs)->AX K G kvs ds->Rp K G (.ref a) (.dict ds)
 |dT {a:Addr} {kvs:List (List Key×V)} {ds:List (D×D)}:G a=some (.dT kvs)->AV K G kvs ds->Rp K G (.ref a) (.dict ds)
inductive de (K:Frag)(G:Hp):List V->List D->Prop
 |nil:de K G [] []
 |cons {x:V} {xs:List V} {d:D} {ds:List D}:Rp K G x d->de K G xs ds->de K G (x :: xs) (d :: ds)
inductive AX (K:Frag)(G:Hp):List (Key×V)->List (D×D)->Prop
 |nil:AX K G [] []
 |cons {k:Key} {x:V} {xs:List (Key×V)} {d:D} {ds:List (D×D)}:Rp K G x d->AX K G xs ds->AX K G ((k,x) :: xs) ((kD k,d) :: ds)
inductive AV (K:Frag)(G:Hp):List (List Key×V)->List (D×D)->Prop
 |nil:AV K G [] []
 |cons {k:List Key} {x:V} {xs:List (List Key×V)} {d:D} {ds:List (D×D)}:Rp K G x d->AV K G xs ds->AV K G ((k,x) :: xs) ((.tuple (k.map kD),d) :: ds)
end
section
variable {K:Frag}{G G' H H':Hp}
def Ht {b:Addr}{o:HO}(h:Kt H b o)(hu:∀ps,o≠.tbl ps):H b=some o:=by
 obtain⟨u,e,k,_⟩:=h.some
 rw[e,k hu]
theorem jY {a b:Addr}{o u:HO}(h:Kt H b u)(hb:b≠a)(ha:∀x y,H a≠some (.bt x y)):Kt (upd H a o) b u:=by
 cases u with
 |tbl ps=>
  obtain⟨m,e,t,k⟩:=h
  refine⟨m,by rw[aI hb];exact e,t,λc hc=>?_⟩
  obtain⟨x,ex,ix⟩:=k c hc
  exact⟨x,by rw[aI (λz=>ha x _ (z▸ex))];exact ex,ix⟩
 |_=>exact (aI hb).trans h
def Rd.mono {a:Addr}{u:HO}(h:Rd G a u)(s:ax G G')(hu:∀ps,u≠.tbl ps:=by intro _ z;cases z):Rd G' a u:=h.elim (λe=>.inl (Ht (s _ _ e) hu)) λ⟨o,e⟩=>.inr ⟨o,s _ _ e⟩
mutual
theorem Rp.mono (s:ax G G'):∀{x:V} {d:D},Rp K G x d->Rp K G' x d
 |_,_,.non=>.non
 |_,_,.bl b=>.bl b
 |_,_,.int i=>.int i
 |_,_,.str x=>.str x
 |_,_,.tup h hs=>.tup (h.grow s.grow) (de.mono s hs)
 |_,_,.lst h hs=>.lst (s _ _ h) (de.mono s hs)
 |_,_,.scr h=>.scr (s.seq h)
 |_,_,.dK h hs=>.dK (s _ _ h) (AX.mono s hs)
 |_,_,.dT h hs=>.dT (s _ _ h) (AV.mono s hs)
theorem de.mono (s:ax G G'):∀{xs:List V} {ds:List D},de K G xs ds->de K G' xs ds
 |_,_,.nil=>.nil
 |_,_,.cons h hs=>.cons (Rp.mono s h) (de.mono s hs)
theorem AX.mono (s:ax G G'):∀{xs:List (Key×V)} {ds:List (D×D)},AX K G xs ds->AX K G' xs ds
 |_,_,.nil=>.nil
 |_,_,.cons h hs=>.cons (Rp.mono s h) (AX.mono s hs)
theorem AV.mono (s:ax G G'):∀{xs:List (List Key×V)} {ds:List (D×D)},AV K G xs ds->AV K G' xs ds
 |_,_,.nil=>.nil
 |_,_,.cons h hs=>.cons (Rp.mono s h) (AV.mono s hs)
end
theorem de.len:∀{xs:List V} {ds:List D},de K G xs ds->xs.length=ds.length
 |_,_,.nil=>rfl
 |_,_,.cons _ t=>by simp[de.len t]
theorem de.at:∀{xs:List V} {ds:List D} {i:Nat} {d:D},de K G xs ds->ds[i]? =some d->∃x,xs[i]? =some x/\Rp K G x d
 |_,_,_,_,.nil,e=>by simp at e
 |_,_,0,_,.cons r _,e=>by simp at e;subst e;exact⟨_,rfl,r⟩
 |_,_,i + 1,x,.cons _ t,e=>by
  obtain⟨u,h1,h2⟩:=de.at (i:=i) (d:=x) t (by simpa using e)
  exact⟨u,by simpa using h1,h2⟩
theorem de.at':∀{xs:List V} {ds:List D} {i:Nat} {x:V},de K G xs ds->xs[i]? =some x->∃d,ds[i]? =some d/\Rp K G x d
 |_,_,_,_,.nil,e=>by simp at e
 |_,_,0,_,.cons r _,e=>by simp at e;subst e;exact⟨_,rfl,r⟩
 |_,_,i + 1,x,.cons _ t,e=>by
  obtain⟨u,h1,h2⟩:=de.at' (i:=i) (x:=x) t (by simpa using e)
  exact⟨u,by simpa using h1,h2⟩
theorem de.append:∀{xs ys:List V} {ds es:List D},de K G xs ds->de K G ys es->de K G (xs ++ ys) (ds ++ es)
 |_,_,_,_,.nil,s=>s
 |_,_,_,_,.cons r t,s=>.cons r (de.append t s)
def de.snoc {xs:List V}{ds:List D}{x:V}{d:D}(h:de K G xs ds)(q:Rp K G x d):de K G (xs ++ [x]) (ds ++ [d]):=h.append (.cons q .nil)
mutual
def Co:D->Bool
 | .dict _=>false
 | .list ds=>rG ds
 | .tuple ds=>rG ds
 |_=>true
def rG:List D->Bool
 | []=>true
 |d :: ds=>Co d && rG ds
end
mutual
theorem Rp.rep:∀{x:V} {d:D},Rp K G x d->Co d=true->Rep K G x d
 |_,_,.non,_=>.non
 |_,_,.bl b,_=>.bl b
 |_,_,.int i,_=>.int i
 |_,_,.str x,_=>.str x
 |_,_,.tup h hs,e=>.tup h (de.reps hs (by simpa[Co] using e))
 |_,_,.lst h hs,e=>.lst (.inl (.inl h)) (de.reps hs (by simpa[Co] using e))
 |_,_,.scr _,e=>by simp[Co] at e
 |_,_,.dK _ _,e=>by simp[Co] at e
 |_,_,.dT _ _,e=>by simp[Co] at e
theorem de.reps:∀{xs:List V} {ds:List D},de K G xs ds->rG ds=true->kf K G xs ds
 |_,_,.nil,_=>.nil
 |_,_,.cons h hs,e=>.cons (Rp.rep h (by simp[rG] at e;exact e.1)) (de.reps hs (by simp[rG] at e;exact e.2))
end
def Own (K:Frag)(G H:Hp)(a:Addr):D->Prop
 | .list ds=>∃xs,H a=some (.lst xs)/\de K G xs ds
 | .dict ds=>(∃kvs,H a=some (.dK kvs)/\AX K G kvs ds)\/∃kvs,H a=some (.dT kvs)/\AV K G kvs ds
 |_=>False
def Own.obj {a:Addr}{d:D}(h:Own K G H a d):∃o,H a=some o:=by
 cases d <;> first |exact h.elim |skip
 ·obtain⟨xs,e,_⟩:=h;exact⟨_,e⟩
 ·rcases h with⟨_,e,_⟩ | ⟨_,e,_⟩ <;> exact⟨_,e⟩
def Own.mono {a:Addr}{d:D}(h:Own K G H a d)(s:ax G G')(m:∀o,H a=some o->Kt H' a o):Own K G' H' a d:=by
 cases d <;> first |exact h.elim |skip
 ·obtain⟨xs,e,r⟩:=h;exact⟨xs,m _ e,r.mono s⟩
 ·rcases h with⟨k,e,r⟩ | ⟨k,e,r⟩
  ·exact .inl ⟨k,m _ e,r.mono s⟩
  ·exact .inr ⟨k,m _ e,r.mono s⟩
def Own.rp {a:Addr}{d:D}(h:Own K G H a d)(n:G a=none){G':Hp}(s:ax G G')(e:∀o,H a=some o->G' a=some o):Rp K G' (.ref a) d:=by
 cases d <;> first |exact h.elim |skip
 ·obtain⟨xs,q,r⟩:=h;exact .lst (e _ q) (r.mono s)
 ·rcases h with⟨k,q,r⟩ | ⟨k,q,r⟩
  ·exact .dK (e _ q) (r.mono s)
  ·exact .dT (e _ q) (r.mono s)
def lA (K:Frag)(B:Option Addr)(G H:Hp)(v:V)(d:D):Prop:=Rp K G v d\/∃a,v=.ref a/\B≠some a/\Own K G H a d
def gV (B:Option Addr)(H H':Hp):Prop:=(∀b o,H b=some o->B≠some b->Kt H' b o)/\∀b o u,H b=some (.bt o u)->H' b=some (.bt o u)
def gV.refl (B:Option Addr)(H:Hp):gV B H H:=⟨λ_ _ h _=>Kt.of h,λ_ _ _ h=>h⟩
theorem yc {B:Option Addr}{b:Addr}{o:HO}(h1:Kt H b o)(y:gV B H H')(n:B≠some b):Kt H' b o:=by
 cases o with
 |tbl ps=>
  obtain⟨m,e,t,k⟩:=h1
  obtain⟨m2,e2,t2,k2⟩:=y.1 b _ e n
  refine⟨m ++ m2,by rw[e2,Array.append_assoc],by rw[M1];exact t.app t2,λc hc=>?_⟩
  rw[M1,Lp] at hc
  rcases hc with hc |hc
  ·obtain⟨o,eo,io⟩:=k c hc;exact⟨o,y.2 c _ _ eo,io⟩
  ·exact k2 c hc
 |_=>exact y.1 b _ h1 n
def gV.trans {B:Option Addr}{H1:Hp}(x:gV B H H1)(y:gV B H1 H'):gV B H H':=⟨λb o h n=>yc (x.1 b o h n) y n,λb o u h=>y.2 b o u (x.2 b o u h)⟩
def ax.mov (s:ax H H')(B:Option Addr):gV B H H':=⟨λb o h _=>s b o h,λb o u h=>s b _ h⟩
def lA.mono {B:Option Addr}{v:V}{d:D}(h:lA K B G H v d)(s:ax G G')(m:gV B H H'):lA K B G' H' v d:=by
 rcases h with h | ⟨a,e,n,h⟩
 ·exact .inl (h.mono s)
 ·exact .inr ⟨a,e,n,h.mono s λo q=>m.1 a o q n⟩
def lA.rpH {B:Option Addr}{v:V}{d:D}(h:lA K B G H v d)(s:ax G H):Rp K H v d:=by
 rcases h with h | ⟨a,rfl,n,h⟩
 ·exact h.mono s
 ·cases d <;> first |exact h.elim |skip
  ·obtain⟨xs,q,r⟩:=h;exact .lst q (r.mono s)
  ·rcases h with⟨k,q,r⟩ | ⟨k,q,r⟩
   ·exact .dK q (r.mono s)
   ·exact .dT q (r.mono s)
def lA.list {B:Option Addr}{v:V}{ds:List D}(h:lA K B G H v (.list ds))(s:ax G H):∃a xs,v=.ref a/\Rd H a (.lst xs)/\de K G xs ds:=by
 rcases h with h | ⟨a,rfl,n,xs,q,r⟩
 ·cases h with
  |lst h r=>exact⟨_,_,rfl,.inl (s _ _ h),r⟩
 ·exact⟨a,xs,rfl,.inl q,r⟩
def lA.tuple {B:Option Addr}{v:V}{ds:List D}(h:lA K B G H v (.tuple ds))(s:ax G H):∃a xs,v=.ref a/\gj K H a xs/\de K G xs ds:=by
 rcases h with h | ⟨a,rfl,n,h⟩
 ·cases h with
  |tup h r=>exact⟨_,_,rfl,h.grow s.grow,r⟩
 ·exact h.elim
def lA.int {B:Option Addr}{v:V}{i:Int}(h:lA K B G H v (.int i)):v=.int i:=by
 rcases h with h | ⟨a,rfl,n,h⟩
 ·cases h;rfl
 ·exact h.elim
def lA.bool {B:Option Addr}{v:V}{b:Bool}(h:lA K B G H v (.bool b)):v=.bl b:=by
 rcases h with h | ⟨a,rfl,n,h⟩
 ·cases h;rfl
 ·exact h.elim
def lA.str {B:Option Addr}{v:V}{x:Str}(h:lA K B G H v (.str x)):v=.str x:=by
 rcases h with h | ⟨a,rfl,n,h⟩
 ·cases h;rfl
 ·exact h.elim
def lA.none {B:Option Addr}{v:V}(h:lA K B G H v .none):v=.non:=by
 rcases h with h | ⟨a,rfl,n,h⟩
 ·cases h;rfl
 ·exact h.elim
end
def Fz:HO->Prop
 | .tup _=>True
 | .bt _ _=>True
 |_=>False
def Mx (H:Hp)(b:Addr):Prop:=H b≠none/\∀o,H b=some o->¬Fz o
def Mx.lst {H:Hp}{b:Addr}{xs:List V}(h:H b=some (.lst xs)):Mx H b:=⟨by rw[h];simp,λys z=>by rw[h] at z;cases z;exact λy=>y⟩
theorem Mx.same {H H':Hp}{b:Addr}(h:Mx H b)(m:∀o,H b=some o->Kt H' b o):Mx H' b:=by
 obtain⟨h1,h2⟩:=h
 cases e:H b with
 |none=>exact absurd e h1
 |some o=>
  obtain⟨u,eu,k1,k2⟩:=(m o e).some
  refine⟨by rw[eu];simp,λxs z=>?_⟩
  rw[eu] at z
  cases z
  by_cases c:∃ps,o=.tbl ps
  ·obtain⟨ps,e⟩:=k2 c;rw[e];exact λy=>y
  ·rw[k1 λps e=>c ⟨ps,e⟩];exact h2 o e
def Own.mx {K:Frag}{G H:Hp}{a:Addr}{d:D}(h:Own K G H a d):Mx H a:=by
 cases d <;> first |exact h.elim |skip
 ·obtain⟨xs,e,_⟩:=h;exact Mx.lst e
 ·rcases h with⟨k,e,_⟩ | ⟨k,e,_⟩ <;> exact⟨by rw[e];simp,λys z=>by rw[e] at z;cases z;exact λy=>y⟩
open Classical in
noncomputable def nH (G H:Hp):Hp:=λb=>match G b with
 |some o=>some o
 |none=>match H b with
  |some o=>if Fz o then some o else none
  |none=>none
def sr {G H:Hp}:ax G (nH G H):=λb o e=>Kt.of (by unfold nH;rw[e])
theorem zj {G H:Hp}(s:ax G H){b:Addr}{o:HO}(e:H b=some o)(f:Fz o):nH G H b=some o:=by
 unfold nH
 cases q:G b with
 |some u=>
  obtain⟨u',eu,k1,k2⟩:=(s b u q).some
  rw[e] at eu
  cases eu
  by_cases c:∃ps,u=.tbl ps
  ·obtain⟨ps,z⟩:=k2 c;subst z;exact f.elim
  ·rw[k1 λps z=>c ⟨ps,z⟩]
 |none=>simp only[e];rw[KU f]
theorem vb {G H:Hp}(s:ax G H):ax (nH G H) H:=λb o e=>by
 unfold nH at e
 cases q:G b with
 |some u=>rw[q] at e;cases e;exact s b _ q
 |none=>
  rw[q] at e
  cases q2:H b with
  |none=>rw[q2] at e;cases e
  |some u=>
   rw[q2] at e
   dsimp only at e
   split at e
   ·cases e;exact Kt.of q2
   ·cases e
theorem y2 {G H H':Hp}(hh:ax H H'){b:Addr}(m:Mx H b):nH G H' b=G b:=by
 unfold nH
 cases q:G b with
 |some u=>rfl
 |none=>
  obtain⟨h1,h2⟩:=m
  cases e:H b with
  |none=>exact absurd e h1
  |some o=>
   have hm:=(show Mx H b from⟨h1,h2⟩).same (hh b)
   cases e2:H' b with
   |none=>rfl
   |some u=>simp only;rw[K0 (hm.2 u e2)]
def qG {K:Frag}{G H:Hp}(s:ax G H){a:Addr}{xs:List V}(h:gj K H a xs):gj K (nH G H) a xs:=by
 rcases h with (h | ⟨o,h⟩) |h
 ·exact .inl (.inl (zj s h trivial))
 ·exact .inl (.inr ⟨o,zj s h trivial⟩)
 ·exact .inr h
structure Fx where
 K:Frag
 H0:Hp
 G0:Hp
 par:List Addr
 ca:Str->Addr
 br:Nat->Bool
 bx:Option Addr
inductive Sl where
 |no |fz (d:D) |ow (d:D) |bx |br (d:D)
abbrev En:=List Sl
inductive Nv where
 |no |da (d:D) |bx
def Sl.val:Sl->Nv
 | .no=>.no
 | .fz d=>.da d
 | .ow d=>.da d
 | .br d=>.da d
 | .bx=>.bx
def vl (env:En):List Nv:=env.map Sl.val
def Kd (Γ:Fx)(B:Option Addr)(G H:Hp)(i:Nat)(o:Option (Option V)):Sl->Prop
 | .no=>True
 | .fz d=>∃v,o=some (some v)/\Rp Γ.K G v d
 | .ow d=>∃a,o=some (some (.ref a))/\Γ.H0 a=none/\G a=none/\B≠some a/\Own Γ.K G H a d
 | .bx=>∃a,o=some (some (.ref a))/\B=some a
 | .br d=>Γ.br i=true/\∃a,o=some (some (.ref a))/\B≠some a/\a∉Γ.par/\Own Γ.K G H a d
structure SR (Γ:Fx)(B:Option Addr)(G H:Hp)(σ:St)(env:En)(β:Int):Prop where
 sub:ax G H
 old:ax Γ.G0 G
 new:∀b,Mx Γ.H0 b->Γ.G0 b=none->G b=none
 keep:∀b o,Γ.H0 b=some o->b∉Γ.par->Kt H b o
 pin:∀b,b∈Γ.par->Mx H b
 fix:∀b,Γ.bx=some b->B=some b
 box:∀b,B=some b->H b=some (.lst [.int β])/\G b=none/\(b∈Γ.par\/Γ.H0 b=none)
 len:σ.length=env.length
 slot:∀(i:Nat) (s:Sl),env[i]? =some s->Kd Γ B G H i (σ[i]?) s
 sep:∀(i j:Nat) (a:Addr) (d e:D),env[i]? =some (.ow d)->env[j]? =some (.ow e)->σ[i]? =some (some (.ref a))->σ[j]? =some (some (.ref a))->i=j
structure Ext (G H G' H':Hp):Prop where
 hh:ax H H'
 gg:ax G G'
 gh:ax G' H'
 on:∀b,Mx H b->G' b=G b
def Ext.refl {G H:Hp}(s:ax G H):Ext G H G H:=⟨ax.refl _,ax.refl _,s,λ_ _=>rfl⟩
def Ext.tups {G H H':Hp}(s:ax G H)(hh:ax H H'):Ext G H (nH G H') H':=⟨hh,sr,vb (s.trans hh),λ_ m=>y2 hh m⟩
def Ext.new {G H:Hp}(s:ax G H){p:Addr}{o:HO}(h:H p=none):Ext G H (upd G p o) (upd H p o):=by
 refine⟨ax.new h,ax.new (s.free h),λb u e=>?_,λb hb=>?_⟩
 ·by_cases z:b=p
  ·subst z;rw[az] at e;exact Kt.of (by rw[az];exact e)
  ·rw[aI z] at e;exact jY (s b u e) z (λx y w=>by rw[h] at w;cases w)
 ·exact aI (λz=>hb.1 (by rw[z];exact h))
def Ext.own {G H:Hp}(s:ax G H){p:Addr}{o:HO}(h:H p=none):Ext G H G (upd H p o):=
 ⟨ax.new h,ax.refl _,s.trans (ax.new h),λ_ _=>rfl⟩
def Ext.trans {G H G1 H1 G2 H2:Hp}(x:Ext G H G1 H1)(y:Ext G1 H1 G2 H2):Ext G H G2 H2:=by
 refine⟨x.hh.trans y.hh,x.gg.trans y.gg,y.gh,λb hb=>?_⟩
 rw[y.on b (hb.same λo e=>x.hh b o e),x.on b hb]
section
variable {Γ:Fx}{B:Option Addr}{G H G' H':Hp}{σ:St}{env:En}{β:Int}
def SR.there (I:SR Γ B G H σ env β){b:Addr}(h:Γ.H0 b≠none):H b≠none:=by
 by_cases hp:b∈Γ.par
 ·exact (I.pin b hp).1
 ·cases e:Γ.H0 b with
  |none=>exact absurd e h
  |some o=>obtain⟨u,eu,_⟩:=(I.keep b o e hp).some;rw[eu];simp
def SR.thereM (I:SR Γ B G H σ env β){b:Addr}(h:Mx Γ.H0 b):Mx H b:=by
 by_cases hp:b∈Γ.par
 ·exact I.pin b hp
 ·exact h.same λo e=>I.keep b o e hp
def SR.ext (I:SR Γ B G H σ env β)(x:Ext G H G' H'):SR Γ B G' H' σ env β:=by
 refine⟨x.gh,I.old.trans x.gg,λb h1 h2=>?_,λb o h1 h2=>(I.keep b o h1 h2).step x.hh,λb hb=>?_,I.fix,λb e=>?_,I.len,λi s e=>?_,I.sep⟩
 ·rw[x.on b (I.thereM h1)];exact I.new b h1 h2
 ·exact (I.pin b hb).same λo e=>x.hh b o e
 ·obtain⟨h1,h2,h3⟩:=I.box b e
  exact⟨x.hh b _ h1,by rw[x.on b (Mx.lst h1)];exact h2,h3⟩
 ·have q:=I.slot i s e
  cases s with
  |no=>trivial
  |fz d=>obtain⟨v,h1,h2⟩:=q;exact⟨v,h1,h2.mono x.gg⟩
  |ow d=>
   obtain⟨a,h1,h2,h3,h4,h5⟩:=q
   exact⟨a,h1,h2,by rw[x.on a h5.mx];exact h3,h4,h5.mono x.gg λo q=>x.hh a o q⟩
  |bx=>exact q
  |br d=>obtain⟨b1,a,h1,h4,hp,h5⟩:=q;exact⟨b1,a,h1,h4,hp,h5.mono x.gg λo q=>x.hh a o q⟩
def iJ (env:En)(i:Nat):En:=match env[i]? with
 |some (.ow d)=>env.set i (.fz d)
 |_=>env
def bt (L:List Nat)(env:En):En:=L.foldl iJ env
def h9 (L M:List Nat)(env:En):bt (L ++ M) env=bt M (bt L env):=by unfold bt;rw[List.foldl_append]
def yu (env:En)(i:Nat)(s:Sl)(h:∀t,env[i]? =some t->t.val=s.val):vl (env.set i s)=vl env:=by
 unfold vl
 apply Nf
 intro j
 rw[K2,K2,List.getElem?_set]
 by_cases e:i=j
 ·subst e
  by_cases hi:i < env.length
  ·simp only[LO,hi]
   have:=h _ (KP hi)
   simp[KP hi,this]
  ·simp only[LO,hi,Lz]
   rw[Mn (by omega)]
 ·simp[e]
def Dh (env:En)(i:Nat):vl (iJ env i)=vl env:=by
 unfold iJ
 split
 ·rename_i d e
  exact yu _ _ _ λt ht=>by rw[e] at ht;cases ht;rfl
 ·rfl
theorem o9 (L:List Nat)(env:En):vl (bt L env)=vl env:=by
 unfold bt
 induction L generalizing env with
 |nil=>rfl
 |cons i L ih=>rw[foldl_cons,ih,Dh]
theorem Fu {i:Nat}{d:D}(h:(vl env)[i]? =some (.da d)):env[i]? =some (.fz d)\/env[i]? =some (.ow d)\/env[i]? =some (.br d):=by
 unfold vl at h
 rw[K2] at h
 cases e:env[i]? with
 |none=>rw[e] at h;simp at h
 |some s=>
  rw[e] at h
  cases s with
  |no=>simp[Sl.val] at h
  |fz d'=>simp[Sl.val] at h;subst h;exact .inl rfl
  |ow d'=>simp[Sl.val] at h;subst h;exact .inr (.inl rfl)
  |bx=>simp[Sl.val] at h
  |br d'=>simp[Sl.val] at h;subst h;exact .inr (.inr rfl)
theorem HE {i:Nat}(h:(vl env)[i]? =some .bx):env[i]? =some .bx:=by
 unfold vl at h
 rw[K2] at h
 cases e:env[i]? with
 |none=>rw[e] at h;simp at h
 |some s=>
  rw[e] at h
  cases s with
  |bx=>rfl
  |_=>simp[Sl.val] at h
def SR.freeze (I:SR Γ B G H σ env β)(i:Nat)(hb:Γ.br i=false){d:D}(h:(vl env)[i]? =some (.da d)):∃G' v,SR Γ B G' H σ (iJ env i) β/\ax G G'/\σ[i]? =some (some v)/\Rp Γ.K G' v d:=by
 rcases Fu h with e |e |e
 ·obtain⟨v,h1,h2⟩:=I.slot i _ e
  exact⟨G,v,by unfold iJ;rw[e];exact I,ax.refl _,h1,h2⟩
 rotate_left
 ·obtain⟨z,_⟩:=I.slot i _ e
  rw[hb] at z;cases z
 ·obtain⟨a,h1,h2,h3,h4,h5⟩:=I.slot i _ e
  obtain⟨o,ho⟩:=h5.obj
  have sG:ax G (upd G a o):=ax.new h3
  have hi:i < env.length:=(Ld.mp e).1
  have hr:Rp Γ.K (upd G a o) (.ref a) d:=h5.rp h3 sG λo' q=>by rw[ho] at q;cases q;exact az
  refine⟨upd G a o,.ref a,?_,sG,h1,hr⟩
  unfold iJ
  rw[e]
  refine⟨λb u q=>?_,I.old.trans sG,λb n1 n2=>?_,I.keep,I.pin,I.fix,λb q=>?_,by rw[LQ];exact I.len,λj s q=>?_,λj k c d1 d2 q1 q2 q3 q4=>?_⟩
  ·by_cases z:b=a
   ·subst z;rw[az] at q;cases q;exact Kt.of ho
   ·rw[aI z] at q;exact I.sub b u q
  ·rw[aI (λz=>n1.1 (by rw[z];exact h2))];exact I.new b n1 n2
  ·obtain⟨k1,k2,k3⟩:=I.box b q
   exact⟨k1,by rw[aI (λz=>h4 (by rw[<-z];exact q))];exact k2,k3⟩
  ·by_cases z:j=i
   ·subst z
    rw[K4 hi] at q
    cases q
    exact⟨.ref a,h1,hr⟩
   ·rw[K5 (Ne.symm z)] at q
    have w:=I.slot j s q
    cases s with
    |no=>trivial
    |fz d'=>obtain⟨v,w1,w2⟩:=w;exact⟨v,w1,w2.mono sG⟩
    |ow d'=>
     obtain⟨c,w1,w2,w3,w4,w5⟩:=w
     have ca:c≠a:=λz2=>z (I.sep j i c d' d q e w1 (by rw[z2];exact h1))
     exact⟨c,w1,w2,by rw[aI ca];exact w3,w4,w5.mono sG λo q=>Kt.of q⟩
    |bx=>exact w
    |br d'=>obtain⟨b1,c,w1,w4,wp,w5⟩:=w;exact⟨b1,c,w1,w4,wp,w5.mono sG λo q=>Kt.of q⟩
  ·have ne:∀{j:Nat} {d':D},(env.set i (Sl.fz d))[j]? =some (.ow d')->env[j]? =some (.ow d'):=λ{j d'} q=>by
    by_cases z:j=i
    ·subst z;rw[K4 hi] at q;cases q
    ·rw[K5 (Ne.symm z)] at q;exact q
   exact I.sep j k c d1 d2 (ne q1) (ne q2) q3 q4
theorem SR.bt (I:SR Γ B G H σ env β)(L:List Nat)(hb:∀i,i∈L->Γ.br i=false):∃G',SR Γ B G' H σ (bt L env) β/\ax G G':=by
 induction L generalizing env G with
 |nil=>exact⟨G,I,ax.refl _⟩
 |cons i L ih=>
  show ∃G',SR Γ B G' H σ (L2.bt L (iJ env i)) β/\ax G G'
  have key:∃G1,SR Γ B G1 H σ (iJ env i) β/\ax G G1:=by
   cases e:env[i]? with
   |none=>exact⟨G,by unfold iJ;rw[e];exact I,ax.refl _⟩
   |some s=>
    cases s with
    |ow d=>
     obtain⟨G1,v,h1,h2,_⟩:=I.freeze i (hb i (K3 ..)) (d:=d) (by unfold vl;rw[K2,e];rfl)
     exact⟨G1,h1,h2⟩
    |_=>exact⟨G,by unfold iJ;rw[e];exact I,ax.refl _⟩
  obtain⟨G1,I1,s1⟩:=key
  obtain⟨G2,I2,s2⟩:=ih I1 λj hj=>hb j (KW _ hj)
  exact⟨G2,I2,s1.trans s2⟩
def SR.set (I:SR Γ B G H σ env β){i:Nat}(hi:i < env.length){v:V}{d:D}(h:Rp Γ.K G v d):SR Γ B G H (σ.set i (some v)) (env.set i (.fz d)) β:=by
 have hs:i < σ.length:=by rw[I.len];exact hi
 refine⟨I.sub,I.old,I.new,I.keep,I.pin,I.fix,I.box,by rw[LQ,LQ];exact I.len,λj s q=>?_,λj k c d1 d2 q1 q2 q3 q4=>?_⟩
 ·by_cases z:j=i
  ·subst z
   rw[K4 hi] at q
   cases q
   exact⟨v,by rw[K4 hs],h⟩
  ·rw[K5 (Ne.symm z)] at q ⊢
   exact I.slot j s q
 ·have ne:∀{j:Nat} {d':D},(env.set i (Sl.fz d))[j]? =some (.ow d')->j≠i/\env[j]? =some (.ow d'):=λ{j d'} q=>by
   by_cases z:j=i
   ·subst z;rw[K4 hi] at q;cases q
   ·rw[K5 (Ne.symm z)] at q;exact⟨z,q⟩
  obtain⟨n1,e1⟩:=ne q1
  obtain⟨n2,e2⟩:=ne q2
  rw[K5 (Ne.symm n1)] at q3
  rw[K5 (Ne.symm n2)] at q4
  exact I.sep j k c d1 d2 e1 e2 q3 q4
def SR.setOw (I:SR Γ B G H σ env β){i:Nat}(hi:i < env.length){a:Addr}{d:D}(h0:Γ.H0 a=none)(hg:G a=none)(hb:B≠some a)(h:Own Γ.K G H a d)(hn:∀(j:Nat) (d':D),env[j]? =some (.ow d')->j≠i->σ[j]?≠some (some (.ref a))):SR Γ B G H (σ.set i (some (.ref a))) (env.set i (.ow d)) β:=by
 have hs:i < σ.length:=by rw[I.len];exact hi
 refine⟨I.sub,I.old,I.new,I.keep,I.pin,I.fix,I.box,by rw[LQ,LQ];exact I.len,λj s q=>?_,λj k c d1 d2 q1 q2 q3 q4=>?_⟩
 ·by_cases z:j=i
  ·subst z
   rw[K4 hi] at q
   cases q
   exact⟨a,by rw[K4 hs],h0,hg,hb,h⟩
  ·rw[K5 (Ne.symm z)] at q ⊢
   exact I.slot j s q
 ·by_cases z1:j=i
  ·by_cases z2:k=i
   ·rw[z1,z2]
   ·subst z1
    rw[K5 (Ne.symm z2)] at q2 q4
    rw[K4 hs] at q3
    cases q3
    exact absurd q4 (hn k d2 q2 z2)
  ·by_cases z2:k=i
   ·subst z2
    rw[K5 (Ne.symm z1)] at q1 q3
    rw[K4 hs] at q4
    cases q4
    exact absurd q3 (hn j d1 q1 z1)
   ·rw[K5 (Ne.symm z1)] at q1 q3
    rw[K5 (Ne.symm z2)] at q2 q4
    exact I.sep j k c d1 d2 q1 q2 q3 q4
def SR.fresh (I:SR Γ B G H σ env β){a:Addr}(h:H a=none):Γ.H0 a=none/\G a=none/\B≠some a/\∀(j:Nat) (d:D),env[j]? =some (.ow d)->σ[j]?≠some (some (.ref a)):=by
 have hB:B≠some a:=λz=>by rw[(I.box a z).1] at h;cases h
 refine⟨?_,I.sub.free h,hB,λj d e z=>?_⟩
 ·cases e:Γ.H0 a with
  |none=>rfl
  |some o=>exact absurd h (I.there (by rw[e];simp))
 ·obtain⟨c,h1,_,_,_,h5⟩:=I.slot j _ e
  rw[z] at h1
  cases h1
  obtain⟨o,ho⟩:=h5.obj
  rw[h] at ho;cases ho
def SR.write (I:SR Γ B G H σ env β)(hb:∀j,Γ.br j=false){i:Nat}{a:Addr}{d d':D}{o:HO}(e:env[i]? =some (.ow d))(ea:σ[i]? =some (some (.ref a)))(h:∀H',H' a=some o->ax G H'->Own Γ.K G H' a d'):SR Γ B G (upd H a o) σ (env.set i (.ow d')) β:=by
 obtain⟨a',h1,h2,h3,h4,h5⟩:=I.slot i _ e
 rw[ea] at h1;cases h1
 have hi:i < env.length:=(Ld.mp e).1
 have ha:∀x y,H a≠some (.bt x y):=λx y w=>h5.mx.2 _ w trivial
 have sub:ax G (upd H a o):=λb u q=>jY (I.sub b u q) (λz=>by rw[z,h3] at q;cases q) ha
 refine⟨sub,I.old,I.new,λb u q n=>?_,λb q=>?_,I.fix,λb q=>?_,by rw[LQ];exact I.len,λj s q=>?_,λj k c d1 d2 q1 q2 q3 q4=>?_⟩
 ·exact jY (I.keep b u q n) (λz=>by rw[z,h2] at q;cases q) ha
 ·by_cases z:b=a
  ·subst z;exact (h _ az sub).mx
  ·exact (I.pin b q).same λo e=>Kt.of (by rw[aI z];exact e)
 ·obtain⟨k1,k2,k3⟩:=I.box b q
  exact⟨by rw[aI (λz=>h4 (by rw[<-z];exact q))];exact k1,k2,k3⟩
 ·by_cases z:j=i
  ·subst z
   rw[K4 hi] at q
   cases q
   exact⟨a,ea,h2,h3,h4,h _ az sub⟩
  ·rw[K5 (Ne.symm z)] at q
   have w:=I.slot j s q
   cases s with
   |no=>trivial
   |fz d1=>exact w
   |ow d1=>
    obtain⟨c,w1,w2,w3,w4,w5⟩:=w
    have ca:c≠a:=λz2=>z (I.sep j i c d1 d q e w1 (by rw[z2];exact ea))
    exact⟨c,w1,w2,w3,w4,w5.mono (ax.refl _) λo q=>Kt.of (by rw[aI ca];exact q)⟩
   |bx=>exact w
   |br d1=>obtain⟨b1,_⟩:=w;rw[hb j] at b1;cases b1
 ·have back:∀{j:Nat} {d1:D},(env.set i (Sl.ow d'))[j]? =some (.ow d1)->∃d2,env[j]? =some (.ow d2):=λ{j d1} q=>by
   by_cases z:j=i
   ·subst z;exact⟨d,e⟩
   ·rw[K5 (Ne.symm z)] at q;exact⟨d1,q⟩
  obtain⟨_,b1⟩:=back q1
  obtain⟨_,b2⟩:=back q2
  exact I.sep j k c _ _ b1 b2 q3 q4
end
inductive R (α:Type) where
 |ok (a:α) (β:Int)
 |exc (c:Str)
 |bad
def R.bnd {α γ:Type}(r:R α)(k:α->Int->R γ):R γ:=match r with
 | .ok a β=>k a β
 | .exc c=>.exc c
 | .bad=>.bad
def R.of {α:Type}(o:Option α)(β:Int):R α:=match o with
 |some a=>.ok a β
 |none=>.bad
abbrev VF (α:Type):=List Nv->Int->R α
def Kp (Γ:Fx)(H':Hp):Prop:=∀b o,Γ.H0 b=some o->b∉Γ.par->Kt H' b o
def Out {α:Type}(Γ:Fx)(E:XK)(r:R α)(P:α->Int->Prop):Prop:=match r with
 | .ok a β=>P a β
 | .exc c=>∀H',Kp Γ H'->E (.ref (Γ.ca c)) none H'
 | .bad=>False
section
variable {α γ:Type}{Γ:Fx}{E:XK}
theorem Out.bnd {r:R α}{k:α->Int->R γ}{P:γ->Int->Prop}(h:Out Γ E (r.bnd k) P):Out Γ E r λa β=>Out Γ E (k a β) P:=by
 cases r with
 |ok a β=>exact h
 |exc c=>exact h
 |bad=>exact h
theorem Out.imp {r:R α}{P P':α->Int->Prop}(h:Out Γ E r P)(i:∀a β,P a β->P' a β):Out Γ E r P':=by
 cases r with
 |ok a β=>exact i a β h
 |exc c=>exact h
 |bad=>exact h
theorem Out.of {o:Option α}{β:Int}{P:α->Int->Prop}(h:Out Γ E (R.of o β) P):∃a,o=some a/\P a β:=by
 cases o with
 |none=>exact h.elim
 |some a=>exact⟨a,rfl,h⟩
end
inductive Md where
 |b |v |w
def VO (K:Frag)(B:Option Addr)(H G' H':Hp):Md->D->V->Prop
 | .b,d,v=>lA K B G' H' v d
 | .v,d,v=>Rp K G' v d
 | .w,d,v=>∃a,v=.ref a/\H a=none/\G' a=none/\Own K G' H' a d
def pT (Γ:Fx)(E:XK)(f:VF D)(L:List Nat)(md:Md):TE:=λσ H Q=>∃env G B β,SR Γ B G H σ env β/\
 Out Γ E (f (vl env) β) λd β'=>∀v G' H',SR Γ B G' H' σ (bt L env) β'->ax G G'->gV B H H'->VO Γ.K B H G' H' md d v->Q v H'
def SE (X:Cx)(Γ:Fx)(E:XK)(e:Expr)(f:VF D)(L:List Nat)(md:Md):Prop:=PE X e (pT Γ E f L md)
def qT (Γ:Fx)(E:XK)(f:VF Bool)(L:List Nat):TT:=λσ H Q=>∃env G B β,SR Γ B G H σ env β/\
 Out Γ E (f (vl env) β) λc β'=>∀G' H',SR Γ B G' H' σ (bt L env) β'->ax G G'->gV B H H'->Q c H'
def C7 (X:Cx)(Γ:Fx)(E:XK)(e:Expr)(f:VF Bool)(L:List Nat):Prop:=PT X e (qT Γ E f L)
def Ee (X:Cx)(Γ:Fx)(E:XK)(e:Expr)(f:VF Bool)(L:List Nat):Prop:=PW X e (qT Γ E f L)
def aT (Γ:Fx)(E:XK)(f:VF (List D))(L:List Nat):TA:=λσ H Q=>∃env G B β,SR Γ B G H σ env β/\
 Out Γ E (f (vl env) β) λds β'=>∀vs G' H',SR Γ B G' H' σ (bt L env) β'->ax G G'->gV B H H'->de Γ.K G' vs ds->Q vs H'
def SA (X:Cx)(Γ:Fx)(E:XK)(es:List Expr)(f:VF (List D))(L:List Nat):Prop:=PA X es (aT Γ E f L)
def PE.post' {X:Cx}{e:Expr}{t u:TE}(h:PE X e t)(m:∀σ H Q,u σ H Q->t σ H Q):PE X e u:=λpins s σ H Q I q=>h pins s σ H Q I (m σ H Q q)
def PT.post {X:Cx}{e:Expr}{t u:TT}(h:PT X e t)(m:∀σ H Q,u σ H Q->t σ H Q):PT X e u:=λpins s σ H Q I q=>h pins s σ H Q I (m σ H Q q)
def PW.post {X:Cx}{e:Expr}{t u:TT}(h:PW X e t)(m:∀σ H Q,u σ H Q->t σ H Q):PW X e u:=λwh pins s σ H Q I q=>h wh pins s σ H Q I (m σ H Q q)
def PA.post {X:Cx}{es:List Expr}{t u:TA}(h:PA X es t)(m:∀σ H Q,u σ H Q->t σ H Q):PA X es u:=λpos pins s σ H Q I q=>h pos pins s σ H Q I (m σ H Q q)
def PS.post {X:Cx}{st:Stmt}{t u:TS}(h:PS X st t)(m:∀D σ H,u D σ H->t D σ H):PS X st u:=λpins s σ H D I q=>h pins s σ H D I (m D σ H q)
def dat:Option Nv->Option D
 |some (.da d)=>some d
 |_=>none
def gv (i:Nat):VF D:=λvs β=>R.of (dat vs[i]?) β
def cst (d:D):VF D:=λ_ β=>.ok d β
section
variable {X:Cx}{Γ:Fx}{E:XK}{e a b c:Expr}{f fa fb fc:VF D}{L La Lb Lc:List Nat}{md ma mb mc:Md}{pos:Pos}
theorem join_some {o:Option Nv}{d:D}(h:dat o=some d):o=some (.da d):=by
 cases o with
 |none=>cases h
 |some o=>cases o with
  |da x=>cases h;rfl
  |_=>cases h
def SR.letIn {B:Option Addr}{G H:Hp}{σ:St}{env:En}{β:Int}(I:SR Γ B G H σ env β){p:Addr}{d:D}(h0:Γ.H0 p=none)(hg:G p=none)(hb:B≠some p)(hn:∀(j:Nat) (d':D),env[j]? =some (.ow d')->σ[j]?≠some (some (.ref p)))(h:Own Γ.K G H p d) :
  ∃G',SR Γ B G' H σ env β/\ax G G'/\Rp Γ.K G' (.ref p) d:=by
 obtain⟨o,ho⟩:=h.obj
 have sG:ax G (upd G p o):=ax.new hg
 refine⟨upd G p o,⟨λb u q=>?_,I.old.trans sG,λb n1 n2=>?_,I.keep,I.pin,I.fix,λb q=>?_,I.len,λj s q=>?_,I.sep⟩,sG,h.rp hg sG λo' q=>by rw[ho] at q;cases q;exact az⟩
 ·by_cases z:b=p
  ·subst z;rw[az] at q;cases q;exact Kt.of ho
  ·rw[aI z] at q;exact I.sub b u q
 ·rw[aI (λz=>n1.1 (by rw[z];exact h0))];exact I.new b n1 n2
 ·obtain⟨k1,k2,k3⟩:=I.box b q
  exact⟨k1,by rw[aI (λz=>hb (by rw[<-z];exact q))];exact k2,k3⟩
 ·have w:=I.slot j s q
  cases s with
  |no=>trivial
  |fz d'=>obtain⟨v,w1,w2⟩:=w;exact⟨v,w1,w2.mono sG⟩
  |ow d'=>
   obtain⟨c,w1,w2,w3,w4,w5⟩:=w
   have ca:c≠p:=λz2=>hn j d' q (by rw[<-z2];exact w1)
   exact⟨c,w1,w2,by rw[aI ca];exact w3,w4,w5.mono sG λo q=>Kt.of q⟩
  |bx=>exact w
  |br d'=>obtain⟨b1,c,w1,w4,wp,w5⟩:=w;exact⟨b1,c,w1,w4,wp,w5.mono sG λo q=>Kt.of q⟩
def zh {env:En}{i j:Nat}{d:D}(h:(iJ env i)[j]? =some (.ow d)):env[j]? =some (.ow d):=by
 unfold iJ at h
 split at h
 ·rename_i d' e
  by_cases z:i=j
  ·subst z
   rw[K4 (Ld.mp e).1] at h;cases h
  ·rw[K5 z] at h;exact h
 ·exact h
theorem uJ {L:List Nat}{env:En}{j:Nat}{d:D}(h:(bt L env)[j]? =some (.ow d)):env[j]? =some (.ow d):=by
 unfold bt at h
 induction L generalizing env with
 |nil=>exact h
 |cons i L ih=>exact zh (ih h)
def SR.letW {B:Option Addr}{G H G' H':Hp}{σ:St}{env:En}{β β':Int}{L:List Nat}{d:D}{v:V}(I:SR Γ B G H σ env β)(I':SR Γ B G' H' σ (L2.bt L env) β')(h:VO Γ.K B H G' H' .w d v):∃G2,SR Γ B G2 H' σ (L2.bt L env) β'/\ax G' G2/\Rp Γ.K G2 v d:=by
 obtain⟨p,rfl,h1,h2,h3⟩:=h
 obtain⟨q1,q2,q3,q4⟩:=I.fresh h1
 exact I'.letIn q1 h2 q3 (λj d' e=>q4 j d' (uJ e)) h3
def SE.wv (h:SE X Γ E e f L .w):SE X Γ E e f L .v:=by
 refine PE.post' h λσ H Q ⟨env,G,B,β,I,o⟩=>⟨env,G,B,β,I,o.imp λd β' k v G' H' I' s m vo=>?_⟩
 obtain⟨G2,I2,s2,r⟩:=I.letW I' vo
 exact k v G2 H' I2 (s.trans s2) m r
theorem VO.brw {B:Option Addr}{H G' H':Hp}{d:D}{v:V}{K:Frag}(h:VO K B H G' H' md d v)(hB:∀x,B=some x->H x≠none):lA K B G' H' v d:=by
 cases md with
 |b=>exact h
 |v=>exact .inl h
 |w=>
  obtain⟨p,rfl,h1,h2,h3⟩:=h
  exact .inr ⟨p,rfl,λz=>hB p z h1,h3⟩
def SR.boxThere {B:Option Addr}{G H:Hp}{σ:St}{env:En}{β:Int}(I:SR Γ B G H σ env β):∀x,B=some x->H x≠none:=λx e=>by rw[(I.box x e).1];simp
def aC (i:Nat){x:Str}(hN:X.N[i]? =some x:=by rfl)(hv:y1 X.env.scope x:=by first |exact Or.inl rfl |exact Or.inr (Or.inl rfl) |exact Or.inr (Or.inr rfl))(hd:(x == ("__debug__":Str))=false:=by decide)
  (hcd:(x == ("__classdict__":Str))=false:=by decide):SE X Γ E (.Name x pos) (gv i) [] .b:=by
 refine PE.post' (i4 hN hv hd hcd) λσ H Q ⟨env,G,B,β,I,o⟩=>?_
 obtain⟨d,e,k⟩:=o.of
 have e:=join_some e
 rcases Fu e with q |q |q
 ·obtain⟨v,h1,h2⟩:=I.slot i _ q
  exact⟨v,h1,k v G H I (ax.refl _) (gV.refl _ _) (.inl h2)⟩
 ·obtain⟨p,h1,h2,h3,h4,h5⟩:=I.slot i _ q
  exact⟨.ref p,h1,k _ G H I (ax.refl _) (gV.refl _ _) (.inr ⟨p,rfl,h4,h5⟩)⟩
 ·obtain⟨_,p,h1,h4,_,h5⟩:=I.slot i _ q
  exact⟨.ref p,h1,k _ G H I (ax.refl _) (gV.refl _ _) (.inr ⟨p,rfl,h4,h5⟩)⟩
def aF (i:Nat)(hb:Γ.br i=false){x:Str}(hN:X.N[i]? =some x:=by rfl)(hv:y1 X.env.scope x:=by first |exact Or.inl rfl |exact Or.inr (Or.inl rfl) |exact Or.inr (Or.inr rfl))(hd:(x == ("__debug__":Str))=false:=by decide)
  (hcd:(x == ("__classdict__":Str))=false:=by decide):SE X Γ E (.Name x pos) (gv i) [i] .v:=by
 refine PE.post' (i4 hN hv hd hcd) λσ H Q ⟨env,G,B,β,I,o⟩=>?_
 obtain⟨d,e,k⟩:=o.of
 obtain⟨G',v,I',s,h1,h2⟩:=I.freeze i hb (join_some e)
 exact⟨v,h1,k v G' H I' s (gV.refl _ _) h2⟩
def A1 {v:V}{d:D}(h:PE X e (tC v))(r:∀G,Rp Γ.K G v d):SE X Γ E e (cst d) [] .v:=by
 refine PE.post' h λσ H Q ⟨env,G,B,β,I,o⟩=>?_
 exact o v G H I (ax.refl _) (gV.refl _ _) (r G)
def aE {i:Int}{j}:SE X Γ E (.Constant (.int i) j pos) (cst (.int i)) [] .v:=A1 p8 λ_=>.int i
def l7 {i:Bool}{j}:SE X Γ E (.Constant (.bool i) j pos) (cst (.bool i)) [] .v:=A1 rQ λ_=>.bl i
def cu {j}:SE X Γ E (.Constant .none j pos) (cst .none) [] .v:=A1 Gp λ_=>.non
def lV {x:Str}{j}:SE X Γ E (.Constant (.str x) j pos) (cst (.str x)) [] .v:=A1 p4 λ_=>.str x
def ED {x:Str}{i:Int}{t:Tok}(hg:Gl X x)(hm:X.mg x=some (.int i t))(hd:(x == ("__debug__":Str))=false:=by decide):SE X Γ E (.Name x pos) (cst (.int i)) [] .v:=A1 (cv hg hm (show RelV (.int i) _ from⟨_,rfl⟩) hd) λ_=>.int i
def two {W:V->V->Hp->Prop}{B:Option Addr}{G H:Hp}{σ:St}{env:En}{β:Int}(I:SR Γ B G H σ env β)
  (h:Out Γ E (fa (vl env) β) λd1 β1=>Out Γ E (fb (vl env) β1) λd2 β2=>∀x y G2 H2,SR Γ B G2 H2 σ (bt (La ++ Lb) env) β2->ax G G2->gV B H H2->lA Γ.K B G2 H2 x d1->lA Γ.K B G2 H2 y d2->W x y H2) :
  pT Γ E fa La ma σ H λx H1=>pT Γ E fb Lb mb σ H1 λy H2=>W x y H2:=by
 refine⟨env,G,B,β,I,h.imp λd1 β1 h x G1 H1 I1 s1 m1 vx=>⟨bt La env,G1,B,β1,I1,?_⟩⟩
 rw[o9]
 refine h.imp λd2 β2 k y G2 H2 I2 s2 m2 vy=>?_
 refine k x y G2 H2 (by rw[h9];exact I2) (s1.trans s2) (m1.trans m2) ((vx.brw I.boxThere).mono s2 m2) (vy.brw I1.boxThere)
def oJ (K:Frag)(r:R2)(g:D->D->Option D)(md:Md):Prop:=∀(B:Option Addr) (G H:Hp) (x y:V) (dx dy d:D) (Q:VK),ax G H->(∀x,B=some x->H x≠none)->lA K B G H x dx->lA K B G H y dy->g dx dy=some d->
 (∀v G' H',Ext G H G' H'->VO K B H G' H' md d v->Q v H')->r x y H Q
def f2 (fa fb:VF D)(g:D->D->Option D):VF D:=λvs β=>(fa vs β).bnd λx β1=>(fb vs β1).bnd λy β2=>R.of (g x y) β2
theorem iS {B:Option Addr}{H H2:Hp}(m:gV B H H2)(hB:∀x,B=some x->H2 x≠none){p:Addr}(h:H2 p=none):H p=none:=by
 cases e:H p with
 |none=>rfl
 |some o=>obtain⟨u,eu,_⟩:=(m.1 p o e λz=>hB p z h).some;rw[eu] at h;cases h
theorem VO.back {K:Frag}{B:Option Addr}{H H2 G' H':Hp}{d:D}{v:V}(h:VO K B H2 G' H' md d v)(m:gV B H H2)(hB:∀x,B=some x->H2 x≠none):VO K B H G' H' md d v:=by
 cases md with
 |b=>exact h
 |v=>exact h
 |w=>obtain⟨p,e,h1,h2,h3⟩:=h;exact⟨p,e,iS m hB h1,h2,h3⟩
def mM {r:R2}{g:D->D->Option D}{Q:VK}(pr:oJ Γ.K r g md){B:Option Addr}{G H:Hp}{σ:St}{env:En}{β:Int}(I:SR Γ B G H σ env β)
  (h:Out Γ E (f2 fa fb g (vl env) β) λd β'=>∀v G' H',SR Γ B G' H' σ (bt (La ++ Lb) env) β'->ax G G'->gV B H H'->VO Γ.K B H G' H' md d v->Q v H') :
  pT Γ E fa La ma σ H λx H1=>pT Γ E fb Lb mb σ H1 λy H2=>r x y H2 Q:=by
 refine two I (h.bnd.imp λd1 β1 h=>h.bnd.imp λd2 β2 h x y G2 H2 I2 s2 m2 bx by'=>?_)
 obtain⟨d,e,k⟩:=h.of
 refine pr B G2 H2 x y d1 d2 d Q I2.sub I2.boxThere bx by' e λv G' H' x' vo=>?_
 exact k v G' H' (I2.ext x') (s2.trans x'.gg) (m2.trans (x'.hh.mov B)) (vo.back m2 I2.boxThere)
def bO {op:Operator}{r:R2}{g:D->D->Option D}(ho:me X (binaryOp op) r)(pr:oJ Γ.K r g md)(ha:SE X Γ E a fa La ma)(hb:SE X Γ E b fb Lb mb):SE X Γ E (.BinOp a op b pos) (f2 fa fb g) (La ++ Lb) md:=
 PE.post' (qN ho ha hb) λσ H Q ⟨env,G,B,β,I,o⟩=>mM pr I o
def o8 {op:CmpOp}{r:R2}{g:D->D->Option D}(ho:me X (compareOp op) r)(pr:oJ Γ.K r g md)(ha:SE X Γ E a fa La ma)(hb:SE X Γ E b fb Lb mb)(hm:behindInMarks op b=false):SE X Γ E (.Compare a [op] [b] pos) (f2 fa fb g) (La ++ Lb) md:=
 PE.post' (Ec ho ha hb hm) λσ H Q ⟨env,G,B,β,I,o⟩=>mM pr I o
def fE {r:R2}{g:D->D->Option D}(hr:By X r)(pr:oJ Γ.K r g md)(ha:SE X Γ E a fa La ma)(hb:SE X Γ E b fb Lb mb)(hs:y0 b):SE X Γ E (.Subscript a b pos) (f2 fa fb g) (La ++ Lb) md:=
 PE.post' (kz hr ha hb hs) λσ H Q ⟨env,G,B,β,I,o⟩=>mM pr I o
def C6 (K:Frag)(r:V->Hp->VK->Prop)(g:D->Option D)(md:Md):Prop:=∀(B:Option Addr) (G H:Hp) (x:V) (dx d:D) (Q:VK),ax G H->(∀x,B=some x->H x≠none)->lA K B G H x dx->g dx=some d->
 (∀v G' H',Ext G H G' H'->VO K B H G' H' md d v->Q v H')->r x H Q
def f1 (fa:VF D)(g:D->Option D):VF D:=λvs β=>(fa vs β).bnd λx β1=>R.of (g x) β1
def jH {r:V->Hp->VK->Prop}{g:D->Option D}{Q:VK}(pr:C6 Γ.K r g md){B:Option Addr}{G H:Hp}{σ:St}{env:En}{β:Int}(I:SR Γ B G H σ env β)
  (h:Out Γ E (f1 fa g (vl env) β) λd β'=>∀v G' H',SR Γ B G' H' σ (bt La env) β'->ax G G'->gV B H H'->VO Γ.K B H G' H' md d v->Q v H') :
  pT Γ E fa La ma σ H λx H1=>r x H1 Q:=by
 refine⟨env,G,B,β,I,h.bnd.imp λd1 β1 h x G1 H1 I1 s1 m1 vx=>?_⟩
 obtain⟨d,e,k⟩:=h.of
 refine pr B G1 H1 x d1 d Q I1.sub I1.boxThere (vx.brw I.boxThere) e λv G' H' x' vo=>?_
 exact k v G' H' (I1.ext x') (s1.trans x'.gg) (m1.trans (x'.hh.mov B)) (vo.back m1 I1.boxThere)
def E6 {op:UnaryOp}{r:V->Hp->VK->Prop}{g:D->Option D}(ho:Jc X (unaryOp op) r)(pr:C6 Γ.K r g md)(ha:SE X Γ E a fa La ma):SE X Γ E (.UnaryOp op a pos) (f1 fa g) La md:=
 PE.post' (IM ho ha) λσ H Q ⟨env,G,B,β,I,o⟩=>jH pr I o
def bX {id:String}{r:List V->Hp->VK->Prop}{g:D->Option D}{x:Str}{p:Pos}(hc:cW X (.builtin id) r)(pr:C6 Γ.K (λx=>r [x]) g md)(hg:Gl X x)(hm:X.mg x=none)(hv:bootBuiltins x=some (.builtin id))(ha:SE X Γ E a fa La ma)(hn:x≠"__name__":=by decide)(hdb:(x == ("__debug__":Str))=false:=by decide)
  (he:starEach [a] X.env=(false,eval a X.env) :: starEach [] X.env:=by rfl):SE X Γ E (.Call (.Name x p) [a] [] pos) (f1 fa g) La md:=
 PE.post' (bz hc hg hm hv (ay ha aU he) hn hdb he) λσ H Q ⟨env,G,B,β,I,o⟩=>jH (r:=λx=>r [x]) pr I o
def mn {id:String}{r:List V->Hp->VK->Prop}{g:D->Option D}{x:Str}{p:Pos}(hc:cW X (.type id) r)(pr:C6 Γ.K (λx=>r [x]) g md)(hg:Gl X x)(hm:X.mg x=none)(hv:bootBuiltins x=some (.type id))(ha:SE X Γ E a fa La ma)(hn:x≠"__name__":=by decide)(hdb:(x == ("__debug__":Str))=false:=by decide)
  (he:starEach [a] X.env=(false,eval a X.env) :: starEach [] X.env:=by rfl):SE X Γ E (.Call (.Name x p) [a] [] pos) (f1 fa g) La md:=
 PE.post' (iV hc hg hm hv (ay ha aU he) hn hdb he) λσ H Q ⟨env,G,B,β,I,o⟩=>jH (r:=λx=>r [x]) pr I o
def wd {id:String}{r:List V->Hp->VK->Prop}{g:D->D->Option D}{x:Str}{p:Pos}(hc:cW X (.builtin id) r)(pr:oJ Γ.K (λx y=>r [x,y]) g md)(hg:Gl X x)(hm:X.mg x=none)(hv:bootBuiltins x=some (.builtin id))(ha:SE X Γ E a fa La ma)(hb:SE X Γ E b fb Lb mb)(hn:x≠"__name__":=by decide)(hdb:(x == ("__debug__":Str))=false:=by decide)
  (he:starEach [a,b] X.env=(false,eval a X.env) :: starEach [b] X.env:=by rfl) (he2:starEach [b] X.env=(false,eval b X.env) :: starEach [] X.env:=by rfl) (hpl:(backTo pos (starEach [b] X.env)).any (·.1)=false:=by rfl):SE X Γ E (.Call (.Name x p) [a,b] [] pos) (f2 fa fb g) (La ++ Lb) md:=
 PE.post' (bz hc hg hm hv (ay ha (ay hb aU he2) he) hn hdb he hpl) λσ H Q ⟨env,G,B,β,I,o⟩=>mM (r:=λx y=>r [x,y]) pr I o
def la (fa fb:VF D):VF D:=λvs β=>(fa vs β).bnd λx β1=>match x with
 | .bool true=>fb vs β1
 | .bool false=>.ok (.bool false) β1
 |_=>.bad
def qL {op}(h:SE X Γ E a fa La md):SE X Γ E (.BoolOp op [a] pos) fa La md:=FL h
theorem pj {rest:List Expr}(ha:SE X Γ E a fa La ma)(hb:SE X Γ E (.BoolOp .And (b :: rest) pos) fb Lb .v)(hbr:∀i,i∈Lb->Γ.br i=false):SE X Γ E (.BoolOp .And (a :: b :: rest) pos) (la fa fb) (La ++ Lb) .v:=by
 refine PE.post' (GP ha hb) λσ H Q ⟨env,G,B,β,I,o⟩=>?_
 refine⟨env,G,B,β,I,o.bnd.imp λd1 β1 h x G1 H1 I1 s1 m1 vx=>?_⟩
 have bx:=vx.brw I.boxThere
 cases d1 with
 |bool c=>
  obtain rfl:=bx.bool
  refine⟨c,rfl,?_⟩
  cases c with
  |true=>exact xr ⟨_,G1,B,β1,I1,by rw[o9];exact h.imp λd β' k v G' H' I' s' m' vo=>k v G' H' (by rw[h9];exact I') (s1.trans s') (m1.trans m') vo⟩
  |false=>
   obtain⟨G2,I2,s2⟩:=I1.bt Lb hbr
   exact rl (h _ G2 H1 (by rw[h9];exact I2) (s1.trans s2) m1 (.bl false))
 |_=>exact h.elim
def C1:D->Option D
 | .bool c=>some (.bool (!c))
 |_=>none
theorem Bx (ha:SE X Γ E a fa La ma):SE X Γ E (.UnaryOp .Not a pos) (f1 fa C1) La .v:=by
 refine PE.post' (He ha) λσ H Q ⟨env,G,B,β,I,o⟩=>?_
 refine jH (r:=λx H1 Q=>∃c,x=.bl c/\Q (.bl (!c)) H1) ?_ I o
 intro B G H x dx d Q s hB bx e k
 cases dx with
 |bool c=>
  obtain rfl:=bx.bool
  cases e
  exact⟨c,rfl,k _ G H (Ext.refl s) (.bl _)⟩
 |_=>cases e
def Gu:D->Option Bool
 | .none=>some false
 | .bool b=>some b
 | .int i=>some (i != 0)
 | .str y=>if y.length<=sizeLine then some ((y.length:Int) != 0) else none
 | .list ds=>some (!ds.isEmpty)
 | .tuple ds=>some (!ds.isEmpty)
 | .dict _=>none
def vG (fa:VF D):VF Bool:=λvs β=>(fa vs β).bnd λx β1=>R.of (Gu x) β1
def oh {K:Frag}{G:Hp}{xs:List V}{ds:List D}(r:de K G xs ds):(!ds.isEmpty)= !xs.isEmpty:=by cases r <;> rfl
theorem iz (hK:X.K=Γ.K)(ha:SE X Γ E a fa La ma)(he:∀whole,isTrue a X.env whole=(do let v <-whole;standAt a.pos;holding [v] (truthy v)):=by intro _;rfl):C7 X Γ E a (vG fa) La:=by
 refine PT.post (CY ha he) λσ H Q ⟨env,G,B,β,I,o⟩=>?_
 refine⟨env,G,B,β,I,o.bnd.imp λd1 β1 h x G1 H1 I1 s1 m1 vx=>?_⟩
 obtain⟨c,e,k⟩:=h.of
 have bx:=vx.brw I.boxThere
 refine⟨c,?_,k G1 H1 I1 s1 m1⟩
 rw[hK]
 cases d1 with
 |none=>obtain rfl:=bx.none;cases e;rfl
 |bool b=>obtain rfl:=bx.bool;cases e;rfl
 |int i=>obtain rfl:=bx.int;cases e;rfl
 |str y=>
  obtain rfl:=bx.str
  simp only[Gu] at e
  split at e
  ·cases e;exact⟨by assumption,rfl⟩
  ·cases e
 |list ds=>obtain⟨p,xs,rfl,hq,r⟩:=bx.list I1.sub;cases e;exact .inl ⟨xs,.inl hq,oh r⟩
 |tuple ds=>obtain⟨p,xs,rfl,hq,r⟩:=bx.tuple I1.sub;cases e;exact .inr (.inl ⟨xs,hq,oh r⟩)
 |dict ds=>cases e
def dr (fa:VF D):VF Bool:=λvs β=>(fa vs β).bnd λx β1=>match x with
 | .bool c=>.ok c β1
 |_=>.bad
theorem a8 {op:CmpOp}{r:R2}{g:D->D->Option D}(ho:me X (compareOp op) r)(pr:oJ Γ.K r g .v)(ha:SE X Γ E a fa La ma)(hb:SE X Γ E b fb Lb mb)(hm:behindInMarks op b=false):C7 X Γ E (.Compare a [op] [b] pos) (dr (f2 fa fb g)) (La ++ Lb):=by
 refine PT.post (yQ ho ha hb hm) λσ H Q ⟨env,G,B,β,I,o⟩=>?_
 refine mM pr I (o.bnd.imp λd β' h v G' H' I' s' m' vo=>?_)
 cases d with
 |bool c=>cases vo;exact⟨c,rfl,h G' H' I' s' m'⟩
 |_=>exact h.elim
def xG (t:VF Bool):VF Bool:=λvs β=>(t vs β).bnd λc β1=>.ok (!c) β1
def KI (t u:VF Bool):VF Bool:=λvs β=>(t vs β).bnd λc β1=>if c=true then u vs β1 else .ok false β1
def qQ (t u:VF Bool):VF Bool:=λvs β=>(t vs β).bnd λc β1=>if c=true then .ok true β1 else u vs β1
variable {ta tb tc:VF Bool}
def jz (ha:C7 X Γ E a ta La):C7 X Γ E (.UnaryOp .Not a pos) (xG ta) La:=by
 refine PT.post (yd ha) λσ H Q ⟨env,G,B,β,I,o⟩=>?_
 exact⟨env,G,B,β,I,o.bnd.imp λc β1 h=>h⟩
def Ee.t (h:Ee X Γ E e ta La):C7 X Γ E e ta La:=PW.pt h
def uF (ha:C7 X Γ E a ta La):Ee X Γ E (.BoolOp .Or [a] pos) ta La:=CZ ha
theorem yZ {rest:List Expr}(ha:C7 X Γ E a ta La)(hb:Ee X Γ E (.BoolOp .Or (b :: rest) pos) tb Lb)(hbr:∀i,i∈Lb->Γ.br i=false):Ee X Γ E (.BoolOp .Or (a :: b :: rest) pos) (qQ ta tb) (La ++ Lb):=by
 refine PW.post (Fq ha hb) λσ H Q ⟨env,G,B,β,I,o⟩=>?_
 refine⟨env,G,B,β,I,o.bnd.imp λc β1 h G1 H1 I1 s1 m1=>?_⟩
 cases c with
 |true=>
  obtain⟨G2,I2,s2⟩:=I1.bt Lb hbr
  exact xr (h G2 H1 (by rw[h9];exact I2) (s1.trans s2) m1)
 |false=>exact rl ⟨_,G1,B,β1,I1,by rw[o9];exact Out.imp h λd β' k G' H' I' s' m'=>k G' H' (by rw[h9];exact I') (s1.trans s') (m1.trans m')⟩
def KC (t:VF Bool)(fa fb:VF D):VF D:=λvs β=>(t vs β).bnd λc β1=>if c=true then fa vs β1 else fb vs β1
def ao:VF (List D):=λ_ β=>.ok [] β
def ae (fa:VF D)(fr:VF (List D)):VF (List D):=λvs β=>(fa vs β).bnd λx β1=>(fr vs β1).bnd λxs β2=>.ok (x :: xs) β2
variable {fr:VF (List D)}{es:List Expr}
def aq:SA X Γ E [] ao []:=PA.post aU λσ H Q ⟨env,G,B,β,I,o⟩=>o [] G H I (ax.refl _) (gV.refl _ _) .nil
def ag (ha:SE X Γ E a fa La .v)(hr:SA X Γ E es fr Lb)(hs:starEach (a :: es) X.env=(false,eval a X.env) :: starEach es X.env:=by rfl):SA X Γ E (a :: es) (ae fa fr) (La ++ Lb):=by
 refine PA.post (ay ha hr hs) λσ H Q ⟨env,G,B,β,I,o⟩=>?_
 refine⟨env,G,B,β,I,o.bnd.imp λd1 β1 h x G1 H1 I1 s1 m1 vx=>⟨bt La env,G1,B,β1,I1,?_⟩⟩
 rw[o9]
 refine h.bnd.imp λds β2 k xs G2 H2 I2 s2 m2 r=>?_
 exact k (x :: xs) G2 H2 (by rw[h9];exact I2) (s1.trans s2) (m1.trans m2) (.cons (vx.mono s2) r)
def a7 (fr:VF (List D)):VF D:=λvs β=>(fr vs β).bnd λds β1=>if ds.length<=sizeLine then .ok (.tuple ds) β1 else .bad
def cy (fr:VF (List D)):VF D:=λvs β=>(fr vs β).bnd λds β1=>if ds.length<=sizeLine then .ok (.list ds) β1 else .bad
def dM {x1}(h:SA X Γ E es fr L):SE X Γ E (.Tuple es x1 pos) (a7 fr) L .v:=by
 refine PE.post' (xi h) λσ H Q ⟨env,G,B,β,I,o⟩=>?_
 refine⟨env,G,B,β,I,o.bnd.imp λds β1 k xs G1 H1 I1 s1 m1 r=>?_⟩
 by_cases hz:ds.length<=sizeLine
 ·rw[KU hz] at k
  refine⟨by rw[r.len];exact hz,λp hp=>?_⟩
  have x:=Ext.new I1.sub (o:=.tup xs) hp
  exact k _ _ _ (I1.ext x) (s1.trans x.gg) (m1.trans (x.hh.mov B)) (.tup (.inl (.inl az)) (r.mono x.gg))
 ·rw[K0 hz] at k;exact k.elim
def dS (h:SA X Γ E es fr L):SE X Γ E (.List es pos) (cy fr) L .w:=by
 refine PE.post' (mX h) λσ H Q ⟨env,G,B,β,I,o⟩=>?_
 refine⟨env,G,B,β,I,o.bnd.imp λds β1 k xs G1 H1 I1 s1 m1 r=>?_⟩
 by_cases hz:ds.length<=sizeLine
 ·rw[KU hz] at k
  refine⟨by rw[r.len];exact hz,λp hp=>?_⟩
  have x:=Ext.own I1.sub (o:=.lst xs) hp
  exact k _ _ _ (I1.ext x) s1 (m1.trans (x.hh.mov B)) ⟨p,rfl,iS m1 I1.boxThere hp,I1.sub.free hp,xs,az,r⟩
 ·rw[K0 hz] at k;exact k.elim
inductive FR where
 |ok (d:D) (fresh:Bool)
 |exc (c:Str)
 |bad
def FV (K:Frag)(H G' H':Hp)(fr:Bool)(d:D)(v:V):Prop:=if fr=true then ∃a,v=.ref a/\H a=none/\G' a=none/\Own K G' H' a d else Rp K G' v d
def C9 (K:Frag)(ca:Str->Addr)(n:Nat)(F:List D->FR):Sp:=λvs H Q E=>∃G ds,ax G H/\ds.length=n/\de K G vs ds/\match F ds with
 | .ok d fr=>∀v G' H',ax H H'->ax G G'->ax G' H'->(∀b,Mx H b->G b=none->G' b=none)->FV K H G' H' fr d v->Q v H'
 | .exc c=>∀H',ax H H'->E (.ref (ca c)) none H'
 | .bad=>False
structure bo (P:Program)(w:World)(K:Frag)(mg:Str->Option Value)(base:Heap)(ca:Str->Addr)(x:Str)(ps:List Str)(k:Nat)(F:List D->FR):Prop where
 ex:∃f fd,mg x=some (.ref f)/\PySem.W.keepIn K (.ref f)=true/\Binds K fd ps []/\fq P w K mg base (mq P w) k f fd ps (C9 K ca ps.length F)
 len:∀ds,F ds≠.bad->ds.length=ps.length
def aA (F:List D->FR)(fr:VF (List D)):VF D:=λvs β=>(fr vs β).bnd λds β1=>match F ds with
 | .ok d _=>.ok d β1
 | .exc c=>.exc c
 | .bad=>.bad
def va (F:List D->FR)(fr:VF (List D)):VF D:=λvs β=>(fr vs β).bnd λds β1=>match F ds with
 | .ok d true=>.ok d β1
 | .ok _ false=>.bad
 | .exc c=>.exc c
 | .bad=>.bad
def SR.called {B:Option Addr}{G1 H1 G2 H2:Hp}{σ:St}{env:En}{β:Int}(I1:SR Γ B G1 H1 σ env β)(h:ax H1 H2)(g:ax G1 G2)(s:ax G2 H2)(n:∀b,Mx H1 b->G1 b=none->G2 b=none):SR Γ B G2 H2 σ env β/\gV B H1 H2:=by
 refine⟨⟨s,I1.old.trans g,λb n1 n2=>?_,λb o e np=>(I1.keep b o e np).step h,λb hb=>?_,I1.fix,λb e=>?_,I1.len,λi t e=>?_,I1.sep⟩,h.mov B⟩
 ·exact n b (I1.thereM n1) (I1.new b n1 n2)
 ·exact (I1.pin b hb).same λo e=>h b o e
 ·obtain⟨h1,h2,h3⟩:=I1.box b e
  exact⟨h b _ h1,n b (Mx.lst h1) h2,h3⟩
 ·have q:=I1.slot i t e
  cases t with
  |no=>trivial
  |fz d=>obtain⟨v,h1,h2⟩:=q;exact⟨v,h1,h2.mono g⟩
  |ow d=>
   obtain⟨p,h1,h2,h3,h4,h5⟩:=q
   exact⟨p,h1,h2,n p h5.mx h3,h4,h5.mono g λo q=>h p o q⟩
  |bx=>exact q
  |br d=>obtain⟨b1,p,h1,h4,hp,h5⟩:=q;exact⟨b1,p,h1,h4,hp,h5.mono g λo q=>h p o q⟩
def SR.kp {B:Option Addr}{G H H':Hp}{σ:St}{env:En}{β:Int}(I:SR Γ B G H σ env β)(h:ax H H'):Kp Γ H':=λb o e n=>(I.keep b o e n).step h
theorem rS {F:List D->FR}{ps:List Str}{Q:VK}{B:Option Addr}{G H:Hp}{σ:St}{env:En}{β:Int}(I:SR Γ B G H σ env β)(hK:X.K=Γ.K){wv:Bool}
  (h:Out Γ E (if wv=true then va F fr (vl env) β else aA F fr (vl env) β) λd β'=>∀v G' H',SR Γ B G' H' σ (bt L env) β'->ax G G'->gV B H H'->VO Γ.K B H G' H' (if wv=true then .w else .v) d v->Q v H') (hl:∀ds,F ds≠.bad->ds.length=ps.length) :
  aT Γ E fr L σ H λvs H1=>C9 X.K Γ.ca ps.length F vs H1 Q E:=by
 refine⟨env,G,B,β,I,?_⟩
 have h:Out Γ E (fr (vl env) β) λds β1=>Out Γ E (match F ds with
   | .ok d true=>.ok d β1
   | .ok d false=>if wv=true then .bad else .ok d β1
   | .exc c=>.exc c
   | .bad=>.bad) λd β'=>∀v G' H',SR Γ B G' H' σ (bt L env) β'->ax G G'->gV B H H'->VO Γ.K B H G' H' (if wv=true then .w else .v) d v->Q v H':=by
  cases wv with
  |true=>
   simp only[LO] at h ⊢
   refine h.bnd.imp λds β1 h=>?_
   cases q:F ds with
   |ok d b=>rw[q] at h;cases b <;> exact h
   |exc c=>rw[q] at h;exact h
   |bad=>rw[q] at h;exact h
  |false=>
   simp only[K6,Lz] at h ⊢
   refine h.bnd.imp λds β1 h=>?_
   cases q:F ds with
   |ok d b=>rw[q] at h;cases b <;> exact h
   |exc c=>rw[q] at h;exact h
   |bad=>rw[q] at h;exact h
 refine h.imp λds β1 k vs G1 H1 I1 s1 m1 r=>?_
 refine⟨G1,ds,I1.sub,?_,by rw[hK];exact r,?_⟩
 ·exact hl ds λz=>by rw[z] at k;exact k
 cases q:F ds with
 |bad=>rw[q] at k;exact k
 |exc c=>rw[q] at k;exact λH' s=>k H' (I1.kp s)
 |ok d b=>
  rw[q] at k
  intro v G' H' hh hg hs hn fv
  obtain⟨I2,m2⟩:=I1.called hh hg hs hn
  cases b with
  |true=>
   obtain⟨p,rfl,p1,p2,p3⟩:∃a,v=.ref a/\H1 a=none/\G' a=none/\Own X.K G' H' a d:=fv
   rw[hK] at p3
   have hp:=iS m1 I1.boxThere p1
   cases wv with
   |true=>exact k _ G' H' I2 (s1.trans hg) (m1.trans m2) ⟨p,rfl,hp,p2,p3⟩
   |false=>
    obtain⟨q1,q2,q3,q4⟩:=I1.fresh p1
    obtain⟨G3,I3,s3,r3⟩:=I2.letIn q1 p2 q3 q4 p3
    exact k _ G3 H' I3 ((s1.trans hg).trans s3) (m1.trans m2) r3
  |false=>
   cases wv with
   |true=>exact k.elim
   |false=>
    have fv:Rp X.K G' v d:=fv
    rw[hK] at fv
    exact k _ G' H' I2 (s1.trans hg) (m1.trans m2) fv
def aw {x:Str}{ps:List Str}{k:Nat}{F:List D->FR}{p:Pos}(hf:bo X.prog X.w X.K X.mg X.base Γ.ca x ps k F)(hr:dN k X.A)(hx:Passes (mq X.prog X.w) X E)(hK:X.K=Γ.K)(hg:Gl X x)(ha:SA X Γ E (a :: es) fr L)(hdb:(x == ("__debug__":Str))=false:=by decide)
  (he:starEach (a :: es) X.env=(false,eval a X.env) :: starEach es X.env:=by rfl) (hpl:(backTo pos (starEach es X.env)).any (·.1)=false:=by rfl):SE X Γ E (.Call (.Name x p) (a :: es) [] pos) (aA F fr) L .v:=by
 obtain⟨f,fd,hm,hk,hb,hF⟩:=hf.ex
 refine PE.post' (oV (dvs:=[]) hF hr hg hm hk hb .nil hx ha hdb he hpl) λσ H Q ⟨env,G,B,β,I,o⟩=>?_
 show aT Γ E fr L σ H λvs H1=>C9 X.K Γ.ca ps.length F (vs ++ []) H1 Q E
 have:=rS (Q:=Q) (wv:=false) (ps:=ps) I hK o hf.len
 simpa using this
def Bj {x:Str}{ps:List Str}{k:Nat}{F:List D->FR}{p:Pos}(hf:bo X.prog X.w X.K X.mg X.base Γ.ca x ps k F)(hr:dN k X.A)(hx:Passes (mq X.prog X.w) X E)(hK:X.K=Γ.K)(hg:Gl X x)(ha:SA X Γ E (a :: es) fr L)(hdb:(x == ("__debug__":Str))=false:=by decide)
  (he:starEach (a :: es) X.env=(false,eval a X.env) :: starEach es X.env:=by rfl) (hpl:(backTo pos (starEach es X.env)).any (·.1)=false:=by rfl):SE X Γ E (.Call (.Name x p) (a :: es) [] pos) (va F fr) L .w:=by
 obtain⟨f,fd,hm,hk,hb,hF⟩:=hf.ex
 refine PE.post' (oV (dvs:=[]) hF hr hg hm hk hb .nil hx ha hdb he hpl) λσ H Q ⟨env,G,B,β,I,o⟩=>?_
 show aT Γ E fr L σ H λvs H1=>C9 X.K Γ.ca ps.length F (vs ++ []) H1 Q E
 have:=rS (Q:=Q) (wv:=true) (ps:=ps) I hK o hf.len
 simpa using this
end
inductive SO where
 |nx (env:En) (β:Int)
 |bk (env:En) (β:Int)
 |ct (env:En) (β:Int)
 |rt (d:D) (fr:Bool) (β:Int)
 |exc (c:Str)
 |bad
abbrev SF:=En->Int->SO
def RV (Γ:Fx)(G' H':Hp)(fr:Bool)(d:D)(v:V):Prop:=if fr=true then ∃a,v=.ref a/\Γ.H0 a=none/\G' a=none/\Own Γ.K G' H' a d else Rp Γ.K G' v d
def rJ (Γ:Fx)(E:XK)(G:Hp)(N:Ends):SO->Prop
 | .nx env β=>∀B G' H' σ,SR Γ B G' H' σ env β->ax G G'->N.nx σ H'
 | .bk env β=>∀B G' H' σ,SR Γ B G' H' σ env β->ax G G'->N.bk σ H'
 | .ct env β=>∀B G' H' σ,SR Γ B G' H' σ env β->ax G G'->N.ct σ H'
 | .rt d fr β=>∀B G' H' σ env v,SR Γ B G' H' σ env β->ax G G'->RV Γ G' H' fr d v->N.rt v H'
 | .exc c=>∀H',Kp Γ H'->E (.ref (Γ.ca c)) none H'
 | .bad=>False
def sT (Γ:Fx)(E:XK)(m:SF):TS:=λN σ H=>∃env G B β,SR Γ B G H σ env β/\rJ Γ E G N (m env β)
def SS (X:Cx)(Γ:Fx)(E:XK)(st:Stmt)(m:SF):Prop:=PS X st (sT Γ E m)
def Ar (X:Cx)(Γ:Fx)(E:XK)(st:List Stmt)(m:SF):Prop:=oB X st (sT Γ E m)
def oB.post {X:Cx}{st:List Stmt}{t u:TS}(h:oB X st t)(m:∀D σ H,u D σ H->t D σ H):oB X st u:=λpins s σ H D I q=>h pins s σ H D I (m D σ H q)
def aV (m m':SF):SF:=λenv β=>match m env β with
 | .nx env' β'=>m' env' β'
 |r=>r
def uT:SF:=λenv β=>.nx env β
section
variable {X:Cx}{Γ:Fx}{E:XK}{e a b c:Expr}{f fa fb:VF D}{L La Lb:List Nat}{md ma mb:Md}{pos:Pos}{st:Stmt}{sts:List Stmt}{m m':SF}{ta:VF Bool}
theorem rJ.weak {G G1:Hp}{N:Ends}{r:SO}(h:rJ Γ E G N r)(s:ax G G1):rJ Γ E G1 N r:=by
 cases r with
 |nx env β=>exact λB G' H' σ I s'=>h B G' H' σ I (s.trans s')
 |bk env β=>exact λB G' H' σ I s'=>h B G' H' σ I (s.trans s')
 |ct env β=>exact λB G' H' σ I s'=>h B G' H' σ I (s.trans s')
 |rt d fr β=>exact λB G' H' σ env v I s'=>h B G' H' σ env v I (s.trans s')
 |exc c=>exact h
 |bad=>exact h
def fB:Ar X Γ E [] uT:=oB.post oK λN σ H ⟨env,G,B,β,I,o⟩=>o B G H σ I (ax.refl _)
theorem aG (h:SS X Γ E st m)(h':Ar X Γ E sts m'):Ar X Γ E (st :: sts) (aV m m'):=by
 refine oB.post (b9 h h') λN σ H ⟨env,G,B,β,I,o⟩=>?_
 refine⟨env,G,B,β,I,?_⟩
 unfold aV at o
 cases q:m env β with
 |nx env' β'=>rw[q] at o;exact λB' G' H' σ' I' s'=>⟨env',G',B',β',I',o.weak s'⟩
 |bk env' β'=>rw[q] at o;exact o
 |ct env' β'=>rw[q] at o;exact o
 |rt d fr β'=>rw[q] at o;exact o
 |exc c=>rw[q] at o;exact o
 |bad=>rw[q] at o;exact o
def av (h:SS X Γ E st m):Ar X Γ E [st] m:=cZ h
def toS {α:Type}(r:R α)(k:α->Int->SO):SO:=match r with
 | .ok x β=>k x β
 | .exc c=>.exc c
 | .bad=>.bad
theorem cE {α:Type}{G:Hp}{N:Ends}{r:R α}{k:α->Int->SO}{P:α->Int->Prop}(h:rJ Γ E G N (toS r k))(i:∀x β,rJ Γ E G N (k x β)->P x β):Out Γ E r P:=by
 cases r with
 |ok x β=>exact i x β h
 |exc c=>exact h
 |bad=>exact h
def SR.set' {B:Option Addr}{G H:Hp}{σ:St}{env:En}{β:Int}(I:SR Γ B G H σ env β)(i:Nat){v:V}{d:D}(h:Rp Γ.K G v d):SR Γ B G H (σ.set i (some v)) (env.set i (.fz d)) β:=by
 by_cases hi:i < env.length
 ·exact I.set hi h
 ·have h1:env.set i (.fz d)=env:=Mf (by omega)
  have h2:σ.set i (some v)=σ:=Mf (by rw[I.len];omega)
  rw[h1,h2];exact I
def SR.setOw' {B:Option Addr}{G H:Hp}{σ:St}{env:En}{β:Int}(I:SR Γ B G H σ env β)(i:Nat){a:Addr}{d:D}(h0:Γ.H0 a=none)(hg:G a=none)(hb:B≠some a)(h:Own Γ.K G H a d)(hn:∀(j:Nat) (d':D),env[j]? =some (.ow d')->σ[j]?≠some (some (.ref a))):SR Γ B G H (σ.set i (some (.ref a))) (env.set i (.ow d)) β:=by
 by_cases hi:i < env.length
 ·exact I.setOw hi h0 hg hb h λj d' e _=>hn j d' e
 ·have h1:env.set i (.ow d)=env:=Mf (by omega)
  have h2:σ.set i (some (.ref a))=σ:=Mf (by rw[I.len];omega)
  rw[h1,h2];exact I
def b6 (i:Nat)(L:List Nat)(f:VF D):SF:=λenv β=>toS (f (vl env) β) λd β'=>.nx ((bt L env).set i (.fz d)) β'
def bG {i:Nat}{x:Str}{pos':Pos}(he:SE X Γ E e f L .v)(hN:X.N.Nodup)(hi:X.N[i]? =some x:=by rfl)(hx:Loc X.env.scope x:=by first |exact Or.inl rfl |exact Or.inr rfl)(hs:swapsWith e (some (.Name x pos')) pos.line X.env=pure false:=by rfl)(hf:X.fn x=true\/X.env.scope.names.lookup x=some .local:=by first |exact .inl rfl |exact .inr rfl |assumption) :
  SS X Γ E (.Assign [.Name x pos'] e pos) (b6 i L f):=by
 refine PS.post (jK hN hi hx he hs hf) λN σ H ⟨env,G,B,β,I,o⟩=>?_
 refine⟨env,G,B,β,I,cE o λd β' k v G' H' I' s' m' vo=>?_⟩
 exact k B G' H' _ (I'.set' i vo) s'
def wA (i:Nat)(L:List Nat)(f:VF D):SF:=λenv β=>toS (f (vl env) β) λd β'=>.nx ((bt L env).set i (.ow d)) β'
def ue {i:Nat}{x:Str}{pos':Pos}(he:SE X Γ E e f L .w)(hN:X.N.Nodup)(hi:X.N[i]? =some x:=by rfl)(hx:Loc X.env.scope x:=by first |exact Or.inl rfl |exact Or.inr rfl)(hs:swapsWith e (some (.Name x pos')) pos.line X.env=pure false:=by rfl)(hf:X.fn x=true\/X.env.scope.names.lookup x=some .local:=by first |exact .inl rfl |exact .inr rfl |assumption) :
  SS X Γ E (.Assign [.Name x pos'] e pos) (wA i L f):=by
 refine PS.post (jK hN hi hx he hs hf) λN σ H ⟨env,G,B,β,I,o⟩=>?_
 refine⟨env,G,B,β,I,cE o λd β' k v G' H' I' s' m' vo=>?_⟩
 obtain⟨p,rfl,h1,h2,h3⟩:=vo
 obtain⟨q1,q2,q3,q4⟩:=I.fresh h1
 exact k B G' H' _ (I'.setOw' i q1 h2 q3 h3 λj d' z=>q4 j d' (uJ z)) s'
def aR (L:List Nat)(f:VF D):SF:=λenv β=>toS (f (vl env) β) λ_ β'=>.nx (bt L env) β'
def aK (he:SE X Γ E e f L md)(hs:swapsWith e none pos.line X.env=pure false:=by rfl):SS X Γ E (.Expr e pos) (aR L f):=by
 refine PS.post (ua he hs) λN σ H ⟨env,G,B,β,I,o⟩=>?_
 exact⟨env,G,B,β,I,cE o λd β' k v G' H' I' s' m' vo=>k B G' H' _ I' s'⟩
def cX (f:VF D):SF:=λenv β=>toS (f (vl env) β) λd β'=>.rt d false β'
def bZ (he:SE X Γ E e f L .v):SS X Γ E (.Return (some e) pos) (cX f):=by
 refine PS.post (iB he) λN σ H ⟨env,G,B,β,I,o⟩=>?_
 exact⟨env,G,B,β,I,cE o λd β' k v G' H' I' s' m' vo=>k B G' H' σ _ v I' s' vo⟩
def mQ (f:VF D):SF:=λenv β=>toS (f (vl env) β) λd β'=>.rt d true β'
def mz (he:SE X Γ E e f L .w):SS X Γ E (.Return (some e) pos) (mQ f):=by
 refine PS.post (iB he) λN σ H ⟨env,G,B,β,I,o⟩=>?_
 refine⟨env,G,B,β,I,cE o λd β' k v G' H' I' s' m' vo=>?_⟩
 obtain⟨p,rfl,h1,h2,h3⟩:=vo
 obtain⟨q1,_⟩:=I.fresh h1
 exact k B G' H' σ _ _ I' s' ⟨p,rfl,q1,h2,h3⟩
def BI (i:Nat):SF:=λenv β=>match env[i]? with
 |some (.fz d)=>.rt d false β
 |some (.ow d)=>.rt d true β
 |_=>.bad
theorem DV (i:Nat){x:Str}{p:Pos}(hN:X.N[i]? =some x:=by rfl)(hv:y1 X.env.scope x:=by first |exact Or.inl rfl |exact Or.inr (Or.inl rfl) |exact Or.inr (Or.inr rfl))(hd:(x == ("__debug__":Str))=false:=by decide)
  (hcd:(x == ("__classdict__":Str))=false:=by decide):SS X Γ E (.Return (some (.Name x p)) pos) (BI i):=by
 refine PS.post (iB (i4 hN hv hd hcd)) λN σ H ⟨env,G,B,β,I,o⟩=>?_
 unfold BI at o
 cases q:env[i]? with
 |none=>rw[q] at o;exact o.elim
 |some s=>
  rw[q] at o
  cases s with
  |no=>exact o.elim
  |bx=>exact o.elim
  |br d=>exact o.elim
  |fz d=>
   obtain⟨v,h1,h2⟩:=I.slot i _ q
   exact⟨v,h1,o B G H σ env v I (ax.refl _) h2⟩
  |ow d=>
   obtain⟨p,h1,h2,h3,h4,h5⟩:=I.slot i _ q
   exact⟨_,h1,o B G H σ env _ I (ax.refl _) ⟨p,rfl,h2,h3,h5⟩⟩
def fx (L:List Nat)(t:VF Bool)(m m':SF):SF:=λenv β=>toS (t (vl env) β) λc β'=>if c=true then m (bt L env) β' else m' (bt L env) β'
theorem bq {x y:List Stmt}(hc:C7 X Γ E c ta L)(ha:Ar X Γ E x m)(hb:Ar X Γ E y m'):SS X Γ E (.If c x y pos) (fx L ta m m'):=by
 refine PS.post (za hc ha hb) λN σ H ⟨env,G,B,β,I,o⟩=>?_
 refine⟨env,G,B,β,I,cE o λd β' k G' H' I' s' m'=>?_⟩
 cases d with
 |true=>exact xr ⟨_,G',B,β',I',rJ.weak k s'⟩
 |false=>exact rl ⟨_,G',B,β',I',rJ.weak k s'⟩
def jA (L:List Nat)(t:VF Bool)(m:SF):Nat->SF
 | 0=>λ_ _=>.bad
 |n + 1=>λenv β=>toS (t (vl env) β) λc β'=>if c=true then (match m (bt L env) β' with
   | .nx env2 β2=>jA L t m n env2 β2
   | .ct env2 β2=>jA L t m n env2 β2
   | .bk env2 β2=>.nx env2 β2
   |r=>r) else .nx (bt L env) β'
theorem vc {x:List Stmt}(n:Nat)(hp:PassesOwn (model X.prog X.w) X.A X.env X.xe)(hc:C7 X Γ E c ta L)(hb:Ar X Γ E x m):SS X Γ E (.While c x [] pos) (jA L ta m n):=by
 refine PS.post (BM hp hc hb) λN σ H ⟨env,G,B,β,I,o⟩=>?_
 refine⟨λk σ H=>∃env G1 B β,SR Γ B G1 H σ env β/\ax G G1/\rJ Γ E G1 N (jA L ta m k env β),⟨n,env,G,B,β,I,ax.refl _,o⟩,?_⟩
 rintro k σ H ⟨env,G1,B,β,I,sG,o⟩
 cases k with
 |zero=>exact o.elim
 |succ k=>
  refine⟨env,G1,B,β,I,cE o λd β' q G' H' I' s' m'=>?_⟩
  cases d with
  |false=>exact rl (q B G' H' σ I' s')
  |true=>
   refine xr ⟨λσ H=>∃env G1 B β,SR Γ B G1 H σ env β/\ax G G1/\rJ Γ E G1 N (jA L ta m k env β),λσ' H' h=>⟨k,Nat.lt_succ_self k,h⟩,bt L env,G',B,β',I',?_⟩
   rw[KU rfl] at q
   cases r:m (bt L env) β' with
   |nx env2 β2=>rw[r] at q;exact λB2 G2 H2 σ2 I2 s2=>⟨env2,G2,B2,β2,I2,(sG.trans s').trans s2,rJ.weak q (s'.trans s2)⟩
   |ct env2 β2=>rw[r] at q;exact λB2 G2 H2 σ2 I2 s2=>⟨env2,G2,B2,β2,I2,(sG.trans s').trans s2,rJ.weak q (s'.trans s2)⟩
   |bk env2 β2=>rw[r] at q;exact λB2 G2 H2 σ2 I2 s2=>q B2 G2 H2 σ2 I2 (s'.trans s2)
   |rt d fr β2=>rw[r] at q;exact rJ.weak q s'
   |exc c=>rw[r] at q;exact q
   |bad=>rw[r] at q;exact q
def Walk (K:Frag)(B:Option Addr)(G H1:Hp)(ds:List D)(J:It):Prop:=∀Gc H (i:Nat),ax G Gc->ax Gc H->gV B H1 H->
 (i < ds.length->J.go i H/\∀x H',J.yld i H x H'->∃G' d,Ext Gc H G' H'/\ds[i]? =some d/\Rp K G' x d)/\(ds.length<=i->J.stop i H)
def iT (Γ:Fx)(E:XK)(f:VF (List D))(L:List Nat)(md:Md):TI:=λσ H Rr=>∃env G B β,SR Γ B G H σ env β/\
 Out Γ E (f (vl env) β) λds β'=>∀J G' H',SR Γ B G' H' σ (bt L env) β'->ax G G'->gV B H H'->Walk Γ.K B G' (match md with | .b=>H' |_=>λ_=>none) ds J->Rr J H'
def SI (X:Cx)(Γ:Fx)(E:XK)(tg e:Expr)(f:VF (List D))(L:List Nat)(md:Md):Prop:=PI X tg e (iT Γ E f L md)
def PI.post {X:Cx}{tg e:Expr}{t u:TI}(h:PI X tg e t)(m:∀σ H Q,u σ H Q->t σ H Q):PI X tg e u:=λpins s σ H Q I q=>h pins s σ H Q I (m σ H Q q)
variable {tg:Expr}
def oH:D->Option (List D)
 | .list ds=>some ds
 | .tuple ds=>some ds
 |_=>none
def fm (fa:VF D):VF (List D):=λvs β=>(fa vs β).bnd λx β1=>R.of (oH x) β1
end
def KL (K:Frag)(tl:TE):TI:=λσ H R=>tl σ H λx H1=>∃a xs,x=.ref a/\((gR K H1 a xs/\R (zR K a) H1)\/(gj K H1 a xs/\R (Fj K a) H1))
section
variable {X:Cx}{tg l:Expr}{tl:TE}
def EZ (hl:PE X l tl):PI X tg l (KL X.K tl):=by
 intro pins s σ H R I h
 refine cq (hl pins s σ H _ I h) λv s1 ⟨x,H1,I1,r1,q1⟩=>?_
 obtain⟨a,xs,e,q⟩:=q1
 subst e
 cases r1
 rcases q with⟨hq,q⟩ | ⟨hq,q⟩
 ·obtain⟨its,rv,p,hz⟩:=I1.list hq
  refine MN p.isList ?_
  refine⟨s1.heap.objs.size,[s1.heap.objs.size],_,_,H1,rfl,I1.kept (t':=s1.toks) λb o e=>KQ _ e,nQ a _,⟨_,Lf _ rfl,rfl,rfl⟩,λb hb=>?_,q⟩
  have e:b=s1.heap.objs.size:=by simpa using hb
  subst e
  exact I1.fpOk (KR _) (I1.hok.fresh (KR _))
 ·obtain⟨its,rv,p,hz⟩:=I1.tuple hq
  refine wpAny_pyIter_tuple (show s1.heap.IsTuple a its.toArray from p) ?_
  refine⟨s1.heap.objs.size,[s1.heap.objs.size],_,_,H1,rfl,I1.kept (t':=s1.toks) λb o e=>KQ _ e,qF a _,⟨_,Lf _ rfl,rfl,rfl⟩,λb hb=>?_,q⟩
  have e:b=s1.heap.objs.size:=by simpa using hb
  subst e
  exact I1.fpOk (KR _) (I1.hok.fresh (KR _))
end
section
variable {X:Cx}{Γ:Fx}{E:XK}{e a b c:Expr}{f fa fb:VF D}{L La Lb:List Nat}{md ma mb:Md}{pos:Pos}{st:Stmt}{sts:List Stmt}{m m':SF}{ta:VF Bool}{tg:Expr}
def nS {K:Frag}{B:Option Addr}{G H1:Hp}{p:Addr}{xs:List V}{ds:List D}(h:∀Gc H,ax G Gc->ax Gc H->gV B H1 H->gR K H p xs)(r:de K G xs ds):Walk K B G H1 ds (zR K p):=λGc H i s1 s2 m=>by
 have hq:=h Gc H s1 s2 m
 refine⟨λhi=>⟨?_,λx H' y=>?_⟩,λhi=>⟨xs,hq,by rw[r.len];exact hi⟩⟩
 ·have hi':i < xs.length:=by rw[r.len];exact hi
  exact⟨xs,xs[i],hq,by simp[hi']⟩
 ·obtain⟨rfl,y⟩:=y
  obtain⟨d,e,q⟩:=r.at' (y xs hq)
  exact⟨Gc,d,Ext.refl s2,e,q.mono s1⟩
def vi {K:Frag}{B:Option Addr}{G H1:Hp}{p:Addr}{xs:List V}{ds:List D}(h:∀Gc H,ax G Gc->ax Gc H->gV B H1 H->gj K H p xs)(r:de K G xs ds):Walk K B G H1 ds (Fj K p):=λGc H i s1 s2 m=>by
 have hq:=h Gc H s1 s2 m
 refine⟨λhi=>⟨?_,λx H' y=>?_⟩,λhi=>⟨xs,hq,by rw[r.len];exact hi⟩⟩
 ·have hi':i < xs.length:=by rw[r.len];exact hi
  exact⟨xs,xs[i],hq,by simp[hi']⟩
 ·obtain⟨rfl,y⟩:=y
  obtain⟨d,e,q⟩:=r.at' (y xs hq)
  exact⟨Gc,d,Ext.refl s2,e,q.mono s1⟩
theorem Kh (hK:X.K=Γ.K)(ha:SE X Γ E a fa La .v):SI X Γ E tg a (fm fa) La .v:=by
 refine PI.post (EZ ha) λσ H Q ⟨env,G,B,β,I,o⟩=>?_
 refine⟨env,G,B,β,I,o.bnd.imp λd1 β1 h x G1 H1 I1 s1 m1 vx=>?_⟩
 obtain⟨ds,e,k⟩:=h.of
 rw[hK]
 have vx:Rp Γ.K G1 x d1:=vx
 cases d1 with
 |list l=>
  cases e
  cases vx with
  | @lst p xs _ hq r=>exact⟨p,xs,rfl,.inl ⟨.inl (Rd.mono (.inl hq) I1.sub),k _ G1 H1 I1 s1 m1 (nS (λGc H t1 t2 _=>.inl (Rd.mono (.inl hq) (t1.trans t2))) r)⟩⟩
 |tuple l=>
  cases e
  cases vx with
  | @tup p xs _ hq r=>exact⟨p,xs,rfl,.inr ⟨hq.grow I1.sub.grow,k _ G1 H1 I1 s1 m1 (vi (λGc H t1 t2 _=>hq.grow (t1.trans t2).grow) r)⟩⟩
 |_=>cases e
theorem u7 (hK:X.K=Γ.K)(ha:SE X Γ E a fa La ma):SI X Γ E tg a (fm fa) La .b:=by
 refine PI.post (EZ ha) λσ H Q ⟨env,G,B,β,I,o⟩=>?_
 refine⟨env,G,B,β,I,o.bnd.imp λd1 β1 h x G1 H1 I1 s1 m1 vx=>?_⟩
 obtain⟨ds,e,k⟩:=h.of
 rw[hK]
 have vx:=vx.brw I.boxThere
 cases d1 with
 |list l=>
  cases e
  rcases vx with vx | ⟨p,rfl,hb,xs,q,r⟩
  ·cases vx with
   | @lst p xs _ hq r=>exact⟨p,xs,rfl,.inl ⟨.inl (Rd.mono (.inl hq) I1.sub),k _ G1 H1 I1 s1 m1 (nS (λGc H t1 t2 _=>.inl (Rd.mono (.inl hq) (t1.trans t2))) r)⟩⟩
  ·exact⟨p,xs,rfl,.inl ⟨.inl (.inl q),k _ G1 H1 I1 s1 m1 (nS (λGc H t1 t2 mv=>.inl (.inl (mv.1 p _ q hb))) r)⟩⟩
 |tuple l=>
  cases e
  rcases vx with vx | ⟨p,rfl,hb,q⟩
  ·cases vx with
   | @tup p xs _ hq r=>exact⟨p,xs,rfl,.inr ⟨hq.grow I1.sub.grow,k _ G1 H1 I1 s1 m1 (vi (λGc H t1 t2 _=>hq.grow (t1.trans t2).grow) r)⟩⟩
  ·exact q.elim
 |_=>cases e
def cw (lo:Int)(n:Nat):List D:=(List.range n).map λ(k:Nat)=>int (lo + k)
def sh (lo:Int)(n:Nat):(cw lo n).length=n:=by unfold cw;simp
def vt {K:Frag}{B:Option Addr}{G H1:Hp}(lo:Int)(n:Nat):Walk K B G H1 (cw lo n) (z7 lo n):=λGc H i s1 s2 m=>by
 rw[sh]
 refine⟨λhi=>⟨hi,λx H' y=>?_⟩,λhi=>hi⟩
 obtain⟨rfl,rfl⟩:=y
 refine⟨Gc,.int (lo + i),Ext.refl s2,?_,.int _⟩
 unfold cw
 rw[K2,List.getElem?_range hi];rfl
def A0 (j:Int):Bool:=Nat.ble j.natAbs 1000000
def nE {j:Int}(h:A0 j=true): -(2 ^ 62)<=j/\j < 2 ^ 62:=by
 have:=Nat.le_of_ble_eq_true h
 omega
def nV {j:Int}(h: -1000<=j)(h2:j<=10000):A0 j=true:=Nat.ble_eq_true_of_le (by omega)
def kc (fa:VF D):VF (List D):=λvs β=>(fa vs β).bnd λx β1=>match x with
 | .int j=>if A0 j=true then .ok (cw 0 j.toNat) β1 else .bad
 |_=>.bad
def sJ (fa fb:VF D):VF (List D):=λvs β=>(fa vs β).bnd λx β1=>(fb vs β1).bnd λy β2=>match x,y with
 | .int i,.int j=>if (A0 i && A0 j)=true then .ok (cw i (j - i).toNat) β2 else .bad
 |_,_=>.bad
theorem pf {p:Pos}(hg:Gl X "range")(hm:X.mg "range"=none)(ha:SE X Γ E a fa La ma)(hs:starEach [a] X.env= [(false,eval a X.env)]:=by rfl)(hs':starEach [a] X.env=(false,eval a X.env) :: starEach [] X.env:=by rfl):SI X Γ E tg (.Call (.Name "range" p) [a] [] pos) (kc fa) La md:=by
 refine PI.post (kM hg hm (ay ha aU hs') hs) λσ H Q ⟨env,G,B,β,I,o⟩=>?_
 refine⟨env,G,B,β,I,o.bnd.imp λd1 β1 h x G1 H1 I1 s1 m1 vx=>?_⟩
 have vx:=vx.brw I.boxThere
 cases d1 with
 |int j=>
  obtain rfl:=vx.int
  dsimp only at h
  by_cases hj:A0 j=true
  ·rw[KU hj] at h
   exact⟨j,rfl,(nE hj).1,(nE hj).2,h _ G1 H1 I1 s1 m1 (vt 0 _)⟩
  ·rw[K0 hj] at h;exact h.elim
 |_=>exact h.elim
def HL {p:Pos}(hg:Gl X "range")(hm:X.mg "range"=none)(ha:SE X Γ E a fa La ma)(hb:SE X Γ E b fb Lb mb)(hs:starEach [a,b] X.env= [(false,eval a X.env),(false,eval b X.env)]:=by rfl)(hs2:starEach [b] X.env= [(false,eval b X.env)]:=by rfl)(hs':starEach [a,b] X.env=(false,eval a X.env) :: starEach [b] X.env:=by rfl)(hs3:starEach [b] X.env=(false,eval b X.env) :: starEach [] X.env:=by rfl):SI X Γ E tg (.Call (.Name "range" p) [a,b] [] pos) (sJ fa fb) (La ++ Lb) md:=by
 refine PI.post (zA hg hm (ay ha (ay hb aU hs3) hs') hs hs2) λσ H Q ⟨env,G,B,β,I,o⟩=>?_
 refine two (W:=λx y H2=>∃i j:Int,[x,y]= [.int i,.int j]/\(-(2 ^ 62)<=i/\i < 2 ^ 62/\ -(2 ^ 62)<=j/\j < 2 ^ 62)/\Q (z7 i (j - i).toNat) H2) I (o.bnd.imp λd1 β1 h=>h.bnd.imp λd2 β2 h x y G2 H2 I2 s2 m2 bx by'=>?_)
 obtain⟨i,j,rfl,rfl⟩:∃i j,d1=.int i/\d2=.int j:=by
  cases d1 <;> cases d2 <;> first |exact h.elim |exact⟨_,_,rfl,rfl⟩
 obtain rfl:=bx.int
 obtain rfl:=by'.int
 dsimp only at h
 by_cases hj:(A0 i && A0 j)=true
 ·rw[KU hj] at h
  rw[LB] at hj
  exact⟨i,j,rfl,⟨(nE hj.1).1,(nE hj.1).2,(nE hj.2).1,(nE hj.2).2⟩,h _ G2 H2 I2 s2 m2 (vt i _)⟩
 ·rw[K0 hj] at h;exact h.elim
inductive Tg where
 |nm (i:Nat)
 |two (i j:Nat)
def pairD:D->Option (D×D)
 | .tuple [x,y]=>some (x,y)
 |_=>none
def Cz {d x y:D}(h:pairD d=some (x,y)):d=.tuple [x,y]:=by
 unfold pairD at h
 split at h
 ·cases h;rfl
 ·cases h
def gQ:Tg->D->En->Option En
 | .nm i,d,env=>some (env.set i (.fz d))
 | .two i j,d,env=>(pairD d).map λp=>(env.set i (.fz p.1)).set j (.fz p.2)
def vk:Tg->D->List Nv->Option (List Nv)
 | .nm i,d,vs=>some (vs.set i (.da d))
 | .two i j,d,vs=>(pairD d).map λp=>(vs.set i (.da p.1)).set j (.da p.2)
def xc (env:En)(i:Nat)(s:Sl):vl (env.set i s)=(vl env).set i s.val:=by unfold vl;rw[List.map_set]
theorem Dw (t:Tg)(d:D)(env:En):(gQ t d env).map vl=vk t d (vl env):=by
 cases t with
 |nm i=>show some (vl _)=some _;rw[xc];rfl
 |two i j=>
  show ((pairD d).map _).map vl=(pairD d).map _
  cases pairD d with
  |none=>rfl
  |some p=>show some (vl _)=some _;rw[xc,xc];rfl
def gT (Γ:Fx)(t:Tg):TG:=λv σ H Q=>∃env G B β d env',SR Γ B G H σ env β/\Rp Γ.K G v d/\gQ t d env=some env'/\∀σ',SR Γ B G H σ' env' β->Q σ' H
def SG (X:Cx)(Γ:Fx)(tg:Expr)(t:Tg):Prop:=PG X tg (gT Γ t)
def PG.post {X:Cx}{tg:Expr}{t u:TG}(h:PG X tg t)(m:∀v σ H Q,u v σ H Q->t v σ H Q):PG X tg u:=λpins s σ H v uu Q I r q=>h pins s σ H v uu Q I r (m v σ H Q q)
def lq {i:Nat}{x:Str}(hN:X.N.Nodup)(hi:X.N[i]? =some x:=by rfl)(hx:Loc X.env.scope x:=by first |exact Or.inl rfl |exact Or.inr rfl)(hf:X.fn x=true\/X.env.scope.names.lookup x=some .local:=by first |exact .inl rfl |exact .inr rfl |assumption):SG X Γ (.Name x pos) (.nm i):=by
 refine PG.post (cx hN hi hx hf) λv σ H Q ⟨env,G,B,β,d,env',I,r,e,k⟩=>?_
 cases e
 exact k _ (I.set' i r)
theorem lL {i j:Nat}{x y:Str}{px py:Pos}{n:Nat}(hN:X.N.Nodup)(hc:X.calm=true:=by rfl)(hK:X.K=Γ.K:=by rfl)(hi:X.N[i]? =some x:=by rfl)(hj:X.N[j]? =some y:=by rfl)(hx:Loc X.env.scope x:=by first |exact Or.inl rfl |exact Or.inr rfl)(hy:Loc X.env.scope y:=by first |exact Or.inl rfl |exact Or.inr rfl)
  (hf:X.fn x=true\/X.env.scope.names.lookup x=some .local:=by first |exact .inl rfl |exact .inr rfl |assumption) (hf':X.fn y=true\/X.env.scope.names.lookup y=some .local:=by first |exact .inl rfl |exact .inr rfl |assumption):SG X Γ (.Tuple [.Name x px,.Name y py] n pos) (.two i j):=by
 refine PG.post (ql (n:=2) hc (cV (cx hN hi hx hf) (cV (cx hN hj hy hf') mh))) λv σ H Q ⟨env,G,B,β,d,env',I,r,e,k⟩=>?_
 rw[hK]
 have e:(pairD d).map (λp=>(env.set i (.fz p.1)).set j (.fz p.2))=some env':=e
 cases q:pairD d with
 |none=>rw[q] at e;cases e
 |some p=>
  obtain⟨dx,dy⟩:=p
  rw[q] at e
  cases e
  obtain rfl:=Cz q
  cases r with
  | @tup p xs _ hq r=>
   cases r with
   |cons r1 r=>
    cases r with
    |cons r2 r=>
     cases r
     exact⟨p,_,rfl,hq.grow I.sub.grow,rfl,_,_,rfl,_,_,rfl,rfl,k _ ((I.set' i r1).set' j r2)⟩
def ux (t:Tg)(m:SF):List D->SF
 | []=>λenv β=>.nx env β
 |d :: ds=>λenv β=>match gQ t d env with
  |none=>.bad
  |some env1=>match m env1 β with
   | .nx env2 β2=>ux t m ds env2 β2
   | .ct env2 β2=>ux t m ds env2 β2
   | .bk env2 β2=>.nx env2 β2
   |r=>r
def gN (t:Tg)(L:List Nat)(fi:VF (List D))(m:SF):SF:=λenv β=>toS (fi (vl env) β) λds β'=>ux t m ds (bt L env) β'
def kr {t:Tg}{fi:VF (List D)}{x:List Stmt}(hp:PassesOwn (model X.prog X.w) X.A X.env X.xe)(hc:X.calm=true)(hi:SI X Γ E tg e fi L .v)(hg:SG X Γ tg t)(hb:Ar X Γ E x m)(hs:∀x,foldedSetIterable e X.env x=pure x:=by intro _;rfl):SS X Γ E (.For tg e x [] pos) (gN t L fi m):=by
 refine PS.post (uR hp hc hi hg hb hs) λN σ H ⟨env,G,B,β,I,o⟩=>?_
 refine⟨env,G,B,β,I,cE o λds β' q J G' H' I' s' m' w=>?_⟩
 have w:Walk Γ.K B G' (λ_=>none) ds J:=w
 refine⟨λi n σ H=>n=ds.length - i/\i<=ds.length/\∃env G1 B β,SR Γ B G1 H σ env β/\ax G' G1/\rJ Γ E G1 N (ux t m (ds.drop i) env β),⟨ds.length,by simp,LD _,bt L env,G',B,β',I',ax.refl _,by rw[List.drop_zero];exact rJ.weak q s'⟩,?_⟩
 rintro i n σ H ⟨rfl,hi,env,G1,B1,β1,I1,s1,q⟩
 obtain⟨w1,w2⟩:=w G1 H i s1 I1.sub ⟨(λb o e=>by cases e),λb o u e=>by cases e⟩
 by_cases hlt:i < ds.length
 ·obtain⟨go,yl⟩:=w1 hlt
  refine .inr ⟨go,λσ H=>∃env G2 B β,SR Γ B G2 H σ env β/\ax G' G2/\rJ Γ E G2 N (ux t m (ds.drop (i + 1)) env β),λσ2 H2 h=>⟨ds.length - (i + 1),by omega,rfl,hlt,h⟩,λx H2 y=>?_⟩
  obtain⟨G2,d,x2,ed,rd⟩:=yl x H2 y
  have I2:=I1.ext x2
  have q:=rJ.weak q x2.gg
  rw[List.drop_eq_getElem_cons hlt] at q
  have ed':ds[i]=d:=by rw[KP hlt] at ed;exact Option.some.inj ed
  rw[ed'] at q
  unfold ux at q
  cases eb:gQ t d env with
  |none=>rw[eb] at q;exact q.elim
  |some env1=>
   rw[eb] at q
   refine⟨env,G2,B1,β1,d,env1,I2,rd,eb,λσ3 I3=>⟨env1,G2,B1,β1,I3,?_⟩⟩
   have s2:=s1.trans x2.gg
   dsimp only at q
   cases r:m env1 β1 with
   |nx env2 β2=>rw[r] at q;exact λB2 G3 H3 σ2 I2 s3=>⟨env2,G3,B2,β2,I2,s2.trans s3,rJ.weak q s3⟩
   |ct env2 β2=>rw[r] at q;exact λB2 G3 H3 σ2 I2 s3=>⟨env2,G3,B2,β2,I2,s2.trans s3,rJ.weak q s3⟩
   |bk env2 β2=>rw[r] at q;exact λB2 G3 H3 σ2 I2 s3=>q B2 G3 H3 σ2 I2 s3
   |rt d fr β2=>rw[r] at q;exact q
   |exc c=>rw[r] at q;exact q
   |bad=>rw[r] at q;exact q
 ·have e:i=ds.length:=by omega
  subst e
  rw[List.drop_length] at q
  exact .inl ⟨w2 (KR _),q B1 G1 H σ I1 (ax.refl _)⟩
end
abbrev Fx.iA (Γ:Fx)(H0 G0:Hp)(par:List Addr)(br:Nat->Bool)(bx:Option Addr):Fx:=⟨Γ.K,H0,G0,par,Γ.ca,br,bx⟩
def hG (own:Nat)(ixs:List Nat)(vs:List Nv):List Nv:=List.replicate own .no ++ ixs.map λi=>(vs[i]?).getD .no
def IZ:Option Sl->Sl
 |some (.ow d)=>.br d
 |some s=>s
 |none=>.no
def benv (own:Nat)(ixs:List Nat)(env:En):En:=List.replicate own .no ++ ixs.map λi=>IZ env[i]?
theorem DL (o:Option Sl):(IZ o).val=(o.map Sl.val).getD .no:=by
 cases o with
 |none=>rfl
 |some s=>cases s <;> rfl
def DI (own:Nat)(ixs:List Nat)(env:En):vl (benv own ixs env)=hG own ixs (vl env):=by
 unfold vl benv hG
 rw[MH,List.map_replicate,map_map]
 congr 1
 refine Mj λi _=>?_
 show (IZ env[i]?).val=_
 rw[DL,K2]
def xg (env:En):Prop:=∀(i:Nat) (d:D),env[i]?≠some (.ow d)
theorem wo {env:En}(h:xg env)(L:List Nat):bt L env=env:=by
 unfold bt
 induction L with
 |nil=>rfl
 |cons i L ih=>
  rw[foldl_cons]
  have:iJ env i=env:=by
   unfold iJ
   split
   ·rename_i d e;exact absurd e (h i d)
   ·rfl
  rw[this];exact ih
def si (own:Nat)(ixs:List Nat)(env:En):xg (benv own ixs env):=λi d e=>by
 unfold benv at e
 have hm:=K8 e
 rcases Lp.mp hm with h |h
 ·have:=Mg h;cases this
 ·obtain⟨k,_,hk⟩:=K9.mp h
  cases q:env[k]? with
  |none=>rw[q] at hk;cases hk
  |some s=>rw[q] at hk;cases s <;> cases hk
def pe {env:En}(h:xg env)(i:Nat)(d:D):xg (env.set i (.fz d)):=λj d' e=>by
 by_cases z:i=j
 ·subst z
  by_cases hi:i < env.length
  ·rw[K4 hi] at e;cases e
  ·rw[Mf (by omega)] at e;exact h _ _ e
 ·rw[K5 z] at e;exact h _ _ e
theorem zE {env env1:En}{t:Tg}{d:D}(h:xg env)(e:gQ t d env=some env1):xg env1:=by
 cases t with
 |nm i=>cases e;exact pe h i d
 |two i j=>
  have e:(pairD d).map _=some env1:=e
  cases q:pairD d with
  |none=>rw[q] at e;cases e
  |some p=>rw[q] at e;cases e;exact pe (pe h _ _) _ _
theorem zX {env env1:En}{t:Tg}{d:D}(e:gQ t d env=some env1)(d':D):gQ t d' env1=gQ t d' env:=by
 cases t with
 |nm i=>cases e;show some _=some _;rw[set_set]
 |two i j=>
  have e:(pairD d).map _=some env1:=e
  cases q:pairD d with
  |none=>rw[q] at e;cases e
  |some p=>
   rw[q] at e;cases e
   show (pairD d').map _=(pairD d').map _
   cases pairD d' with
   |none=>rfl
   |some p'=>
    show some _=some _
    congr 1
    dsimp only
    by_cases z:i=j
    ·subst z;simp[set_set]
    ·rw[List.set_comm _ _ (Ne.symm z),set_set,set_set]
def Ext.mov {G H G' H':Hp}(x:Ext G H G' H')(B:Option Addr):gV B H H':=x.hh.mov B
section
variable {Γ:Fx}{B:Option Addr}{G H G1 H1 Gc Hc:Hp}{σ σ':St}{env envb:En}{β β':Int}{own:Nat}{ixs:List Nat}{Da:Addr}{acc:List V}
def xT (envb:En):Nat->Bool:=λj=>match envb[j]? with
 |some (.br _)=>true
 |_=>false
def SR.block (I:SR Γ B G H σ env β)(own:Nat)(ixs:List Nat)(hD:H Da=none):SR (Γ.iA (upd H Da (.lst [])) G (Da :: B.toList) (xT (benv own ixs env)) B) B G (upd H Da (.lst [])) (td own ixs σ) (benv own ixs env) β:=by
 obtain⟨q1,q2,q3,q4⟩:=I.fresh hD
 have nB:∀b,B=some b->b≠Da:=λb e z=>q3 (by rw[<-z];exact e)
 refine⟨I.sub.trans (ax.new hD),ax.refl _,λb _ h=>h,λb o h _=>Kt.of h,λb hb=>?_,λb e=>e,λb e=>?_,?_,λi s e=>?_,λi j c d d' e=>absurd e (si own ixs env i d)⟩
 ·rcases KZ.mp hb with z |z
  ·subst z;exact Mx.lst az
  ·have z':B=some b:=by simpa using z
   exact Mx.lst (by rw[aI (nB b z')];exact (I.box b z').1)
 ·obtain⟨h1,h2,_⟩:=I.box b e
  exact⟨by rw[aI (nB b e)];exact h1,h2,.inl (KW _ (by simpa using e))⟩
 ·unfold td benv;simp
 ·by_cases hi:i < own
  ·unfold benv at e
   rw[LA (by simpa using hi),LX,KU hi] at e
   cases e;trivial
  ·have e0:=e
   unfold benv at e
   rw[Lw (by simpa using hi),L8,K2] at e
   cases ek:ixs[i - own]? with
   |none=>rw[ek] at e;cases e
   |some k=>
    rw[ek] at e
    have e:IZ env[k]? =s:=Option.some.inj e
    have es:(td own ixs σ)[i]? =some ((σ[k]?).join):=by
     unfold td
     rw[Lw (by simpa using hi),L8,K2,ek];rfl
    rw[es]
    cases q:env[k]? with
    |none=>rw[q] at e;subst e;trivial
    |some t=>
     rw[q] at e
     have w:=I.slot k t q
     cases t with
     |no=>subst e;trivial
     |fz d=>subst e;obtain⟨v,h1,h2⟩:=w;exact⟨v,by rw[h1];rfl,h2⟩
     |bx=>subst e;obtain⟨a,h1,h2⟩:=w;exact⟨a,by rw[h1];rfl,h2⟩
     |ow d=>
      subst e
      obtain⟨a,h1,h2,h3,h4,h5⟩:=w
      obtain⟨o,ho⟩:=h5.obj
      have aD:a≠Da:=aM ho hD
      refine⟨by show xT _ i=true;unfold xT;rw[e0];rfl,a,by rw[h1];rfl,h4,?_,h5.mono (ax.refl _) λo q=>Kt.of (by rw[aI aD];exact q)⟩
      intro hm
      rcases KZ.mp hm with z |z
      ·exact aD z
      ·exact h4 (by simpa using z)
     |br d=>
      subst e
      obtain⟨b1,a,h1,h4,hp,h5⟩:=w
      obtain⟨o,ho⟩:=h5.obj
      have aD:a≠Da:=aM ho hD
      refine⟨by show xT _ i=true;unfold xT;rw[e0];rfl,a,by rw[h1];rfl,h4,?_,h5.mono (ax.refl _) λo q=>Kt.of (by rw[aI aD];exact q)⟩
      intro hm
      rcases KZ.mp hm with z |z
      ·exact aD z
      ·exact h4 (by simpa using z)
def SR.unblock (I:SR Γ B G H σ env β){br:Nat->Bool}(hD:H Da=none)(J:SR (Γ.iA (upd H Da (.lst [])) G (Da :: B.toList) br B) B Gc Hc σ' envb β'):SR Γ B Gc Hc σ env β'/\gV B H Hc/\Gc Da=none:=by
 obtain⟨q1,q2,q3,q4⟩:=I.fresh hD
 have up:∀{b:Addr},Mx H b->Mx (upd H Da (.lst [])) b:=λ{b} h=>h.same λo e=>Kt.of (by rw[aI (aM e hD)];exact e)
 have mv0:∀b o,H b=some o->B≠some b->Kt Hc b o:=λb o e n=>J.keep b o (show upd H Da (.lst []) b=some o by rw[aI (aM e hD)];exact e) λhm=>by
  rcases KZ.mp hm with z |z
  ·rw[z,hD] at e;cases e
  ·exact n (by simpa using z)
 have mv:gV B H Hc:=⟨mv0,λb o u e=>mv0 b _ e λz=>by rw[(I.box b z).1] at e;cases e⟩
 refine⟨⟨J.sub,I.old.trans J.old,λb h1 h2=>J.new b (up (I.thereM h1)) (I.new b h1 h2),λb o h1 h2=>yc (I.keep b o h1 h2) mv λz=>?_,λb hb=>J.thereM (up (I.pin b hb)),I.fix,λb e=>?_,I.len,λi s e=>?_,I.sep⟩,mv,J.new Da (Mx.lst (show upd H Da (.lst []) Da=some (.lst []) from az)) q2⟩
 ·obtain⟨_,_,h3⟩:=I.box b z
  rcases h3 with h3 |h3
  ·exact h2 h3
  ·rw[h1] at h3;cases h3
 ·obtain⟨j1,j2,_⟩:=J.box b e
  exact⟨j1,j2,(I.box b e).2.2⟩
 ·have w:=I.slot i s e
  cases s with
  |no=>trivial
  |fz d=>obtain⟨v,h1,h2⟩:=w;exact⟨v,h1,h2.mono J.old⟩
  |bx=>exact w
  |ow d=>
   obtain⟨a,h1,h2,h3,h4,h5⟩:=w
   exact⟨a,h1,h2,J.new a (up h5.mx) h3,h4,h5.mono J.old λo q=>mv.1 a o q h4⟩
  |br d=>
   obtain⟨b1,a,h1,h4,hp,h5⟩:=w
   exact⟨b1,a,h1,h4,hp,h5.mono J.old λo q=>mv.1 a o q h4⟩
def SR.updD {ys:List V}(J:SR Γ B G H σ env β)(hp:Da∈Γ.par)(h0:Mx Γ.H0 Da)(g0:Γ.G0 Da=none)(hB:B≠some Da):SR Γ B G (upd H Da (.lst ys)) σ env β:=by
 have gD:=J.new Da h0 g0
 have ha:∀x y,H Da≠some (.bt x y):=λx y w=>(J.pin Da hp).2 _ w trivial
 refine⟨λb u q=>jY (J.sub b u q) (λz=>by rw[z,gD] at q;cases q) ha,J.old,J.new,λb u q n=>jY (J.keep b u q n) (λz=>n (by rw[z];exact hp)) ha,λb hb=>?_,J.fix,λb e=>?_,J.len,λi s e=>?_,J.sep⟩
 ·by_cases z:b=Da
  ·subst z;exact Mx.lst az
  ·exact (J.pin b hb).same λo e=>Kt.of (by rw[aI z];exact e)
 ·obtain⟨h1,h2⟩:=J.box b e
  exact⟨by rw[aI (λz=>hB (by rw[<-z];exact e))];exact h1,h2⟩
 ·have w:=J.slot i s e
  cases s with
  |no=>trivial
  |fz d=>exact w
  |bx=>exact w
  |ow d=>
   obtain⟨a,h1,h2,h3,h4,h5⟩:=w
   have aD:a≠Da:=λz=>h0.1 (by rw[<-z];exact h2)
   exact⟨a,h1,h2,h3,h4,h5.mono (ax.refl _) λo q=>Kt.of (by rw[aI aD];exact q)⟩
  |br d=>
   obtain⟨b1,a,h1,h4,hpa,h5⟩:=w
   have aD:a≠Da:=λz=>hpa (by rw[z];exact hp)
   exact⟨b1,a,h1,h4,hpa,h5.mono (ax.refl _) λo q=>Kt.of (by rw[aI aD];exact q)⟩
end
def R.okb {α γ:Type}(r:R α)(k:α->Int->R γ):R γ:=match r with
 | .ok a β=>k a β
 |_=>.bad
def iQ (t:Tg)(ft:VF Bool)(fe:VF D)(vs:List Nv):List D->Int->R (List D)
 | [],β=>.ok [] β
 |d :: ds,β=>match vk t d vs with
  |none=>.bad
  |some vs1=>(ft vs1 β).okb λc β1=>if c=true then (fe vs1 β1).okb λx β2=>(iQ t ft fe vs ds β2).okb λxs β3=>.ok (x :: xs) β3 else iQ t ft fe vs ds β1
def bV (own:Nat)(ixs:List Nat)(t:Tg)(fi:VF (List D))(ft:VF Bool)(fe:VF D):VF D:=λvs β=>(fi vs β).bnd λds β1=>if ds.length<=sizeLine then (iQ t ft fe (hG own ixs vs) ds β1).okb λxs β2=>.ok (.list xs) β2 else .bad
def AW:VF Bool:=λ_ β=>.ok true β
def E5 (own:Nat)(ixs Lc:List Nat)(j:Nat):Bool:=decide (j < own) || (match ixs[j - own]? with
 |some i=>Lc.contains i
 |none=>false)
theorem DR {α γ:Type}{Γ:Fx}{E:XK}{r:R α}{k:α->Int->R γ}{P:γ->Int->Prop}(h:Out Γ E (r.okb k) P):∃a β,r=.ok a β/\Out Γ E (k a β) P:=by
 cases r with
 |ok a β=>exact⟨a,β,rfl,h⟩
 |exc c=>exact h.elim
 |bad=>exact h.elim
section
variable {X:Cx}{Γ:Fx}{E:XK}{tg iter elt:Expr}{ifs:List Expr}{scope:Scope}{NB:List Str}{own:Nat}{ixs Li Lc Lt Le:List Nat}{t:Tg}{fi:VF (List D)}{ft:VF Bool}{fe:VF D}{pos:Pos}
def lY {X:Cx}{Γ:Fx}{E:XK}:BR X [] (qT Γ E AW []):=λpins s σ H Q I ⟨env,G,B,β,J,o⟩=>ud pins s σ H Q I (o G H J (ax.refl _) (gV.refl _ _))
def oO {X:Cx}{Γ:Fx}{E:XK}{c:Expr}{ta:VF Bool}{L:List Nat}(h:C7 X Γ E c ta L):BR X [c] (qT Γ E ta L):=y7 h
def B5 {NB:List Str}{scope:Scope}{C:Addr}{ex:List Addr}{s3:Shared}{H3:Hp}{pn:List (Addr×Obj)}{P:Program}{w:World}:Passes (mq P w) (iA X NB scope C ex s3 H3 pn) E0:=λpins σ H s e s' I h=>by
 obtain⟨_,_,_,_,_,_,_,_,_,q⟩:=h
 exact q.elim
abbrev gU (Γ:Fx)(t:Tg):TG:=λv σ H Q=>∃H0 G0 par br bx,gT (Γ.iA H0 G0 par br bx) t v σ H Q
abbrev tU (Γ:Fx)(own:Nat)(ixs Lc:List Nat)(ft:VF Bool)(Lt:List Nat):TT:=λσ H Q=>∃H0 G0 par br bx,(∀j,E5 own ixs Lc j=true->br j=false)/\qT (Γ.iA H0 G0 par br bx) E0 ft Lt σ H Q
abbrev eU (Γ:Fx)(own:Nat)(ixs Lc:List Nat)(fe:VF D)(Le:List Nat):TE:=λσ H Q=>∃H0 G0 par br bx,(∀j,E5 own ixs Lc j=true->br j=false)/\pT (Γ.iA H0 G0 par br bx) E0 fe Le .v σ H Q
def EX {σ:St}{H:Hp}{Q:VK}(hLc:∀i,i∈Lc->Γ.br i=false)(h:pT Γ E (bV own ixs t fi ft fe) (Li ++ Lc) .w σ H Q):x9 own ixs (iT Γ E fi Li .b) (gU Γ t) (tU Γ own ixs Lc ft Lt) (eU Γ own ixs Lc fe Le) σ H Q:=by
 obtain⟨env,G,B,β,I,o⟩:=h
 refine⟨env,G,B,β,I,o.bnd.imp λds β1 h J G1 H1 I1 s1 m1 wk Da hD=>?_⟩
 have wk:Walk Γ.K B G1 H1 ds J:=wk
 by_cases hz:ds.length<=sizeLine
 case neg=>rw[K0 hz] at h;exact h.elim
 rw[KU hz] at h
 obtain⟨xs0,β0,e0,h⟩:=DR h
 have h:∀v G' H',SR Γ B G' H' σ (bt (Li ++ Lc) env) β0->ax G G'->gV B H H'->VO Γ.K B H G' H' .w (.list xs0) v->Q v H':=h
 obtain⟨G2,I2,s2⟩:=I1.bt Lc hLc
 rw[<-h9] at I2
 obtain⟨q1,q2,q3,q4⟩:=I2.fresh hD
 have Ib0:=I2.block own ixs hD
 generalize hbr:xT (benv own ixs (bt (Li ++ Lc) env))=br at Ib0
 have hbo:∀j,E5 own ixs Lc j=true->br j=false:=by
  intro j hj
  rw[<-hbr]
  unfold xT
  split
  ·rename_i d e
   exfalso
   unfold benv at e
   by_cases hjo:j < own
   ·rw[LA (by simpa using hjo),LX,KU hjo] at e;cases e
   ·rw[Lw (by simpa using hjo),L8,K2] at e
    unfold E5 at hj
    rw[Lg hjo,Bool.false_or] at hj
    cases ek:ixs[j - own]? with
    |none=>rw[ek] at hj;cases hj
    |some k=>
     rw[ek] at hj e
     have hk:k∈Lc:=by simpa using hj
     have e:IZ (bt (Li ++ Lc) env)[k]? =.br d:=Option.some.inj e
     cases q:(bt (Li ++ Lc) env)[k]? with
     |none=>rw[q] at e;cases e
     |some s=>
      rw[q] at e
      cases s with
      |no=>cases e
      |fz _=>cases e
      |bx=>cases e
      |br d'=>
       obtain⟨b1,_⟩:=I2.slot k _ q
       rw[hLc k hk] at b1;cases b1
      |ow d'=>
       rw[h9] at q
       have key:∀(M:List Nat) (en:En),k∈M->∀d',(bt M en)[k]?≠some (.ow d'):=by
        intro M
        induction M with
        |nil=>intro en hm;cases hm
        |cons i M ih=>
         intro en hm d' z
         rcases KZ.mp hm with y |y
         ·subst y
          have z1:(iJ en k)[k]? =some (.ow d'):=uJ (L:=M) z
          have z2:=zh z1
          unfold iJ at z1
          rw[z2] at z1
          dsimp only at z1
          rw[K4 (Ld.mp z2).1] at z1;cases z1
         ·exact ih (iJ en i) y d' z
       exact key Lc _ hk d' q
  ·rfl
 have evb:vl (benv own ixs (bt (Li ++ Lc) env))=hG own ixs (vl env):=by rw[DI,o9]
 refine⟨λi n σ' H'=>n=ds.length - i/\i<=ds.length/\∃envb Gc β' acc accd,SR (Γ.iA (upd H1 Da (.lst [])) G2 (Da :: B.toList) br B) B Gc H' σ' envb β'/\(envb=benv own ixs (bt (Li ++ Lc) env)\/∃d,gQ t d (benv own ixs (bt (Li ++ Lc) env))=some envb)/\
   H' Da=some (.lst acc)/\de Γ.K Gc acc accd/\accd.length<=i/\∃xs,iQ t ft fe (hG own ixs (vl env)) (ds.drop i) β'=.ok xs β0/\accd ++ xs=xs0,
  ⟨ds.length,by simp,LD _,_,G2,β1,[],[],Ib0,.inl rfl,az,.nil,LD _,xs0,by rw[List.drop_zero];exact e0,rfl⟩,?_⟩
 rintro i n σ' H' ⟨rfl,hi',envb,Gc,β',acc,accd,Ib,eb,hacc,racc,lacc,xs,ec,exs⟩
 obtain⟨Io,mv,gD⟩:=I2.unblock hD Ib
 obtain⟨w1,w2⟩:=wk Gc H' i (s2.trans Ib.old) Ib.sub mv
 by_cases hlt:i < ds.length
 ·obtain⟨go,yl⟩:=w1 hlt
  refine .inr ⟨go,λσ' H'=>∃envb Gc β' acc accd,SR (Γ.iA (upd H1 Da (.lst [])) G2 (Da :: B.toList) br B) B Gc H' σ' envb β'/\(envb=benv own ixs (bt (Li ++ Lc) env)\/∃d,gQ t d (benv own ixs (bt (Li ++ Lc) env))=some envb)/\
   H' Da=some (.lst acc)/\de Γ.K Gc acc accd/\accd.length<=i + 1/\∃xs,iQ t ft fe (hG own ixs (vl env)) (ds.drop (i + 1)) β'=.ok xs β0/\accd ++ xs=xs0,λσ2 H2 hh=>⟨ds.length - (i + 1),by omega,rfl,hlt,hh⟩,λx H2 y=>?_⟩
  obtain⟨G3,d,x3,ed,rd⟩:=yl x H2 y
  have I3:=Ib.ext x3
  have ed':ds[i]=d:=by rw[KP hlt] at ed;exact Option.some.inj ed
  rw[List.drop_eq_getElem_cons hlt,ed'] at ec
  unfold iQ at ec
  cases ebv:vk t d (hG own ixs (vl env)) with
  |none=>rw[ebv] at ec;cases ec
  |some vs1=>
   rw[ebv] at ec
   dsimp only at ec
   obtain⟨env1,eb1,ev1⟩:∃env1,gQ t d (benv own ixs (bt (Li ++ Lc) env))=some env1/\vl env1=vs1:=by
    have:=Dw t d (benv own ixs (bt (Li ++ Lc) env))
    rw[evb,ebv] at this
    cases q:gQ t d (benv own ixs (bt (Li ++ Lc) env)) with
    |none=>rw[q] at this;cases this
    |some env1=>rw[q] at this;exact⟨env1,rfl,Option.some.inj this⟩
   have eb2:gQ t d envb=some env1:=by
    rcases eb with rfl | ⟨d0,eb⟩
    ·exact eb1
    ·rw[zX eb];exact eb1
   have no1:xg env1:=zE (si _ _ _) eb1
   have a2:H2 Da=some (.lst acc):=x3.hh _ _ hacc
   refine⟨_,_,_,_,_,envb,G3,B,β',d,env1,I3,rd,eb2,λσ3 I4=>?_⟩
   refine⟨_,_,_,_,_,hbo,env1,G3,B,β',I4,?_⟩
   rw[ev1]
   cases et:ft vs1 β' with
   |exc c=>rw[et] at ec;cases ec
   |bad=>rw[et] at ec;cases ec
   |ok c β2=>
    rw[et] at ec
    intro G4 H4 I5 s4 m4
    rw[wo no1] at I5
    have a4:H4 Da=some (.lst acc):=m4.1 _ _ a2 q3
    cases c with
    |false=>
     refine rl ⟨env1,G4,β2,acc,accd,I5,.inr ⟨d,eb1⟩,a4,racc.mono (x3.gg.trans s4),by omega,xs,?_,exs⟩
     exact ec
    |true=>
     refine xr ⟨_,_,_,_,_,hbo,env1,G4,B,β2,I5,?_⟩
     rw[ev1]
     have ec:((fe vs1 β2).okb λx β3=>(iQ t ft fe (hG own ixs (vl env)) (ds.drop (i + 1)) β3).okb λxs β4=>R.ok (x :: xs) β4)=R.ok xs β0:=ec
     cases ee:fe vs1 β2 with
     |exc c=>rw[ee] at ec;cases ec
     |bad=>rw[ee] at ec;cases ec
     |ok dx β3=>
      rw[ee] at ec
      intro v G5 H5 I6 s5 m5 vo
      rw[wo no1] at I6
      have a5:H5 Da=some (.lst acc):=m5.1 _ _ a4 q3
      have ec:((iQ t ft fe (hG own ixs (vl env)) (ds.drop (i + 1)) β3).okb λxs β4=>R.ok (dx :: xs) β4)=R.ok xs β0:=ec
      cases er:iQ t ft fe (hG own ixs (vl env)) (ds.drop (i + 1)) β3 with
      |exc c=>rw[er] at ec;cases ec
      |bad=>rw[er] at ec;cases ec
      |ok ys β4=>
       rw[er] at ec
       cases ec
       refine⟨acc,a5,by rw[racc.len];omega,env1,G5,β3,acc ++ [v],accd ++ [dx],?_,.inr ⟨d,eb1⟩,az,(racc.mono ((x3.gg.trans s4).trans s5)).snoc vo,by rw[LC];simp;omega,ys,er,by rw[<-exs,Mo];rfl⟩
       refine I6.updD (K3 ..) (Mx.lst (show upd H1 Da (.lst []) Da=some (.lst []) from az)) (I2.sub.free hD) q3
 ·have e:i=ds.length:=by omega
  subst e
  rw[List.drop_length] at ec
  cases ec
  rw[MF] at exs
  subst exs
  refine .inl ⟨w2 (KR _),⟨acc,hacc⟩,h _ Gc H' Io ((s1.trans s2).trans Ib.old) (m1.trans mv) ⟨Da,rfl,iS m1 I1.boxThere hD,gD,acc,hacc,racc⟩⟩
def bU (hg:∀H0 G0 par br bx C ex s3 H3 pn,SG (iA X NB scope C ex s3 H3 pn) (Γ.iA H0 G0 par br bx) tg t)(C:Addr)(ex:List Addr)(s3:Shared)(H3:Hp)(pn:List (Addr×Obj)):PG (iA X NB scope C ex s3 H3 pn) tg (gU Γ t):=by
 rintro pins s σ H v u Q I r ⟨H0,G0,par,br,bx,q⟩
 exact hg H0 G0 par br bx C ex s3 H3 pn pins s σ H v u Q I r q
def ig (Lc:List Nat)(hc:X.calm=true)(S:cL X NB own ixs scope)(hLc:∀i,i∈Lc->Γ.br i=false)(hi:SI X Γ E tg iter fi Li .b)
  (hg:∀H0 G0 par br bx C ex s3 H3 pn,SG (iA X NB scope C ex s3 H3 pn) (Γ.iA H0 G0 par br bx) tg t)
  (ht:∀H0 G0 par br bx C ex s3 H3 pn,(∀j,E5 own ixs Lc j=true->br j=false)->BR (iA X NB scope C ex s3 H3 pn) ifs (qT (Γ.iA H0 G0 par br bx) E0 ft Lt))
  (he:∀H0 G0 par br bx C ex s3 H3 pn,(∀j,E5 own ixs Lc j=true->br j=false)->SE (iA X NB scope C ex s3 H3 pn) (Γ.iA H0 G0 par br bx) E0 elt fe Le .v)
  (hs:∀x,foldedSetIterable iter X.env x=pure x:=by intro _;rfl) :
  SE X Γ E (.ListComp elt [⟨tg,iter,ifs,0⟩] scope pos) (bV own ixs t fi ft fe) (Li ++ Lc) .w:=by
 refine PE.post' (we (g:=gU Γ t) (tt:=tU Γ own ixs Lc ft Lt) (te:=eU Γ own ixs Lc fe Le) hc S hi (bU hg) (λC ex s3 H3 pn=>?_) (λC ex s3 H3 pn=>?_) hs) λσ H Q h=>EX hLc h
 ·rintro pins s σ H Q I ⟨H0,G0,par,br,bx,b,q⟩
  exact ht H0 G0 par br bx C ex s3 H3 pn b pins s σ H Q I q
 ·rintro pins s σ H Q I ⟨H0,G0,par,br,bx,b,q⟩
  exact he H0 G0 par br bx C ex s3 H3 pn b pins s σ H Q I q
def Dp {i:Nat}{y:Str}{py spos:Pos}(Lc:List Nat)(hc:X.calm=true)(S:cL X NB own ixs scope)(hLc:∀i,i∈Lc->Γ.br i=false)(hi:SI X Γ E tg iter fi Li .b)
  (hg:∀H0 G0 par br bx C ex s3 H3 pn,SG (iA X NB scope C ex s3 H3 pn) (Γ.iA H0 G0 par br bx) tg t)
  (ht:∀H0 G0 par br bx C ex s3 H3 pn,(∀j,E5 own ixs Lc j=true->br j=false)->BR (iA X NB scope C ex s3 H3 pn) ifs (qT (Γ.iA H0 G0 par br bx) E0 ft Lt))
  (he:∀H0 G0 par br bx C ex s3 H3 pn,(∀j,E5 own ixs Lc j=true->br j=false)->SE (iA X NB scope C ex s3 H3 pn) (Γ.iA H0 G0 par br bx) E0 elt fe Le .v)
  (hN:X.N.Nodup) (hy:X.N[i]? =some y:=by rfl) (hl:X.env.scope.names.lookup y=some .local:=by rfl)
  (hsw:swapsWith (.ListComp elt [⟨tg,iter,ifs,0⟩] scope pos) (some (.Name y py)) spos.line X.env=pure true:=by rfl)
  (hs:∀x,foldedSetIterable iter X.env x=pure x:=by intro _;rfl) :
  SS X Γ E (.Assign [.Name y py] (.ListComp elt [⟨tg,iter,ifs,0⟩] scope pos) spos) (b6 i (Li ++ Lc) (bV own ixs t fi ft fe)):=by
 refine PS.post (Cb (g:=gU Γ t) (tt:=tU Γ own ixs Lc ft Lt) (te:=eU Γ own ixs Lc fe Le) hc S hi (bU hg) (λC ex s3 H3 pn=>?_) (λC ex s3 H3 pn=>?_) hN hy hl hsw hs) λN σ H ⟨env,G,B,β,I,o⟩=>?_
 ·rintro pins s σ H Q I ⟨H0,G0,par,br,bx,b,q⟩
  exact ht H0 G0 par br bx C ex s3 H3 pn b pins s σ H Q I q
 ·rintro pins s σ H Q I ⟨H0,G0,par,br,bx,b,q⟩
  exact he H0 G0 par br bx C ex s3 H3 pn b pins s σ H Q I q
 refine EX hLc ⟨env,G,B,β,I,cE o λd β' k v G' H' I' s' m' vo=>?_⟩
 obtain⟨G2,I2,s2,r⟩:=I.letW I' vo
 exact k B G2 H' _ (I2.set' i r) (s'.trans s2)
end
def fin:SO->FR
 | .nx _ _=>.ok .none false
 | .rt d fr _=>.ok d fr
 | .exc c=>.exc c
 |_=>.bad
def AM (n:Nat)(ds:List D):En:=ds.map Sl.fz ++ List.replicate (n - ds.length) .no
def aP (n p:Nat)(m:SF):List D->FR:=λds=>if ds.length=p then fin (m (AM n ds) 0) else .bad
abbrev Fx.fn (K:Frag)(H G:Hp)(ca:Str->Addr):Fx:=⟨K,H,G,[],ca,λ_=>false,none⟩
def SR.start {K:Frag}{H G:Hp}{ca:Str->Addr}{N:List Str}{vs:List V}{ds:List D}(s:ax G H)(r:de K G vs ds)(hn:ds.length<=N.length):SR (Fx.fn K H G ca) none G H (start N vs) (AM N.length ds) 0:=by
 have hl:=r.len
 refine⟨s,ax.refl _,λb _ h=>h,λb o h _=>Kt.of h,λb h=>(by cases h),λb h=>(by cases h),λb h=>(by cases h),?_,λi t e=>?_,λi j a d e h=>?_⟩
 ·unfold L2.start AM;simp;omega
 ·unfold AM at e
  by_cases hi:i < ds.length
  ·rw[LA (by simpa using hi),K2,KP hi] at e
   cases e
   obtain⟨x,hx,rx⟩:=r.at (KP hi)
   refine⟨x,?_,rx⟩
   unfold L2.start
   rw[LA (by simpa[hl] using hi),K2,hx];rfl
  ·rw[Lw (by simpa using hi),LX] at e
   split at e
   ·cases e;trivial
   ·cases e
 ·unfold AM at h
  have hm:=K8 h
  rcases Lp.mp hm with z |z
  ·obtain⟨_,_,z⟩:=K9.mp z;cases z
  ·have:=Mg z;cases this
section
variable {P:Program}{w:World}{K:Frag}{mg:Str->Option Value}{base:Heap}{ca:Str->Addr}
def aL {x qual:Str}{st:Stmt}{f:Addr}{fd:FuncData}{N ps:List Str}{k:Nat}{m:SF}(F:AY K x qual st f fd)(S:aH N ps (ak st))
  (hbody:∀(cdv:Value) (A:Around) (outer:List Env) (s:Shared) (H G:Hp) (E:XK),dN k (A.deeper (envOfC qual (ak st) s.heap.objs.size f cdv))->Ar (jX (mq P w) P w K mg base N qual (ak st) f cdv A outer s H E) (Fx.fn K H G ca) E (bN st) m) :
  fq P w K mg base (mq P w) (k + 1) f fd ps (C9 K ca ps.length (aP N.length ps.length m)):=by
 have hpn:ps.length<=N.length:=by have:=congrArg List.length S.pre;rw[LU] at this;omega
 refine F.A0 S (λvs H Q E h=>?_) (λcdv A outer s H vs Q E hr h=>?_)
 ·obtain⟨G,ds,sG,hl,r,_⟩:=h
  rw[r.len];exact hl
 ·obtain⟨G,ds,sG,hl,r,h⟩:=h
  refine⟨_,hbody cdv A outer s H G E hr,?_⟩
  have I:=SR.start (ca:=ca) (N:=N) sG r (by omega)
  refine⟨_,G,none,0,I,?_⟩
  unfold aP at h
  rw[KU hl] at h
  have fin':∀{B G' H' σ env β},SR (Fx.fn K H G ca) B G' H' σ env β->ax H H':=λJ b o e=>J.keep b o e (λz=>by cases z)
  cases q:m (AM N.length ds) 0 with
  |nx env β=>rw[q] at h;exact λB G' H' σ J s'=>h .non G' H' (fin' J) s' J.sub (λb h1 h2=>J.new b h1 h2) Rp.non
  |bk env β=>rw[q] at h;exact h.elim
  |ct env β=>rw[q] at h;exact h.elim
  |rt d fr β=>
   rw[q] at h
   refine λB G' H' σ env v J s' rv=>h v G' H' (fin' J) s' J.sub (λb h1 h2=>J.new b h1 h2) ?_
   cases fr with
   |true=>exact rv
   |false=>exact rv
  |exc c=>rw[q] at h;exact λH' kp=>h H' λb o e=>kp b o e (λz=>by cases z)
  |bad=>rw[q] at h;exact h.elim
def DZ {n:Nat}{F F':List D->FR}(h:∀ds,ds.length=n->F' ds≠.bad->F ds=F' ds){vs:List V}{H:Hp}{Q:VK}{E:XK}(q:C9 K ca n F' vs H Q E):C9 K ca n F vs H Q E:=by
 obtain⟨G,ds,s,hl,r,q⟩:=q
 refine⟨G,ds,s,hl,r,?_⟩
 by_cases hb:F' ds=.bad
 ·rw[hb] at q;exact q.elim
 ·rw[h ds hl hb];exact q
def bo.imp {x:Str}{ps:List Str}{k:Nat}{F F':List D->FR}(h:bo P w K mg base ca x ps k F)(i:∀ds,F' ds≠.bad->F ds=F' ds):bo P w K mg base ca x ps k F':=by
 obtain⟨f,fd,a,b,c,d⟩:=h.ex
 exact⟨⟨f,fd,a,b,c,d.imp λvs H Q E q=>DZ (λds _=>i ds) q⟩,λds hn=>h.len ds (by rw[i ds hn];exact hn)⟩
def aJ {n p:Nat}{m:SF}(ds:List D)(h:aP n p m ds≠.bad):ds.length=p:=by
 unfold aP at h
 by_cases hl:ds.length=p
 ·exact hl
 ·rw[K0 hl] at h;exact absurd rfl h
def pN {N:List Str}{qual:Str}{scope:Scope}{f:Addr}{cd:Value}{A:Around}{outer:List Env}{s0:Shared}{H0:Hp}{E:XK}{Γ:Fx}{x:Str}{C:Addr}{np cpos pos:Pos}{e0:Expr}{es:List Expr}{fr:VF (List D)}{L:List Nat}(q:PySem.W.excIn K C [.type "ValueError",.type "Exception",.type "BaseException",.type "object"] "ValueError.__new__"=true)(hca:Γ.ca x=C)
  (hg:Gl (jX (mq P w) P w K mg base N qual scope f cd A outer s0 H0 E) x) (hm:mg x=some (.ref C)) (ha:SA (jX (mq P w) P w K mg base N qual scope f cd A outer s0 H0 E) Γ E (e0 :: es) fr L)
  (he:starEach (e0 :: es) (envOfC qual scope s0.heap.objs.size f cd)=(false,eval e0 (envOfC qual scope s0.heap.objs.size f cd)) :: starEach es (envOfC qual scope s0.heap.objs.size f cd):=by rfl)
  (hpl:(backTo cpos (starEach es (envOfC qual scope s0.heap.objs.size f cd))).any (·.1)=false:=by rfl) (hdb:(x == ("__debug__":Str))=false:=by decide) :
  SS (jX (mq P w) P w K mg base N qual scope f cd A outer s0 H0 E) Γ E (.Raise (some (.Call (.Name x np) (e0 :: es) [] cpos)) none pos) (λenv β=>toS (fr (vl env) β) λds _=>if ds.length<=sizeLine then .exc x else .bad):=by
 refine PS.post (Bd PySem.F.excBase_ValueError (by decide +kernel) q hg hm ha he hpl hdb) λD σ H ⟨env,G,B,β,I,o⟩=>?_
 refine⟨env,G,B,β,I,cE o λds β' k vs G' H' I' s' m' r=>?_⟩
 by_cases hz:ds.length<=sizeLine
 ·rw[KU hz] at k
  refine⟨by rw[r.len];exact hz,?_⟩
  have:=k H' (I'.kp (ax.refl _))
  rw[hca] at this
  exact this
 ·rw[K0 hz] at k;exact k.elim
end
section
variable {X:Cx}{Γ:Fx}{E:XK}{e a b c:Expr}{f fa fb:VF D}{L La Lb:List Nat}{md ma mb:Md}{pos apos cpos np:Pos}
def xX:Option Sl->Bool
 |some (.ow (.list _))=>true
 |_=>false
theorem uo {o:Option Sl}(h:xX o=true):∃ds,o=some (.ow (.list ds)):=by
 cases o with
 |none=>cases h
 |some s=>
  cases s with
  |ow d=>cases d with
   |list ds=>exact⟨ds,rfl⟩
   |_=>cases h
  |_=>cases h
def Hm (i:Nat)(env:En)(β:Int)(g:List D->Option (List D)):SO:=match env[i]? with
 |some (.ow (.list ds))=>(match g ds with
  |some es=>.nx (env.set i (.ow (.list es))) β
  |none=>.bad)
 |_=>.bad
def x8 (i:Nat)(L:List Nat)(f:VF D):SF:=λenv β=>if xX env[i]? =true then toS (f (vl env) β) λd β'=>Hm i (bt L env) β' λds=>if ds.length < sizeLine then some (ds ++ [d]) else none else .bad
def zo {Γ:Fx}{E:XK}{G:Hp}{N:Ends}{i:Nat}{env:En}{β:Int}{g:List D->Option (List D)}(h:rJ Γ E G N (Hm i env β g)):∃ds es,env[i]? =some (.ow (.list ds))/\g ds=some es/\rJ Γ E G N (.nx (env.set i (.ow (.list es))) β):=by
 unfold Hm at h
 split at h
 ·rename_i ds q
  cases e:g ds with
  |none=>rw[e] at h;exact h.elim
  |some es=>rw[e] at h;exact⟨ds,es,q,e,h⟩
 ·exact h.elim
def Ao (i:Nat){x:Str}(hb:∀j,Γ.br j=false)(he:SE X Γ E e f L .v)(hN:X.N[i]? =some x:=by rfl)(hv:y1 X.env.scope x:=by first |exact Or.inl rfl |exact Or.inr (Or.inl rfl) |exact Or.inr (Or.inr rfl))(hd:(x == ("__debug__":Str))=false:=by decide)
  (hcd:(x == ("__classdict__":Str))=false:=by decide)
  (hbase:attributeBase (.Name x np) "append" X.env (eval (.Name x np) X.env)=eval (.Name x np) X.env:=by rfl)
  (hfew:((backTo cpos (starEach [e] X.env)).all (λx=> !x.1) && (backToKw cpos (keywordEach [] X.env)).all (λx=>x.1.isSome)
   && decide ([e].length + ([]:List Keyword).length + (if ([]:List Keyword).isEmpty then 0 else 1) < 30))=true:=by rfl)
  (hline:(apos.endLine == cpos.line)=true:=by rfl) (hs:starEach [e] X.env=(false,eval e X.env) :: starEach [] X.env:=by rfl)
  (hsw:swapsWith (.Call (.Attribute (.Name x np) "append" apos) [e] [] cpos) none pos.line X.env=pure false:=by rfl) :
  SS X Γ E (.Expr (.Call (.Attribute (.Name x np) "append" apos) [e] [] cpos) pos) (x8 i L f):=by
 refine PS.post (ua (wC Mi PySem.F.slot_list_append PySem.F.type_list_append nz (i4 hN hv hd hcd) (ay he aU hs) hbase hfew hline hs rfl) hsw) λN σ H ⟨env,G,B,β,I,o⟩=>?_
 unfold x8 at o
 by_cases hO:xX env[i]? =true
 case neg=>rw[K0 hO] at o;exact o.elim
 rw[KU hO] at o
 obtain⟨ds0,q0⟩:=uo hO
 obtain⟨p,h1,_,_,_,xs,h5,_⟩:=I.slot i _ q0
 refine⟨_,h1,.inl ⟨rfl,xs,.inl (.inl h5)⟩,?_⟩
 refine⟨env,G,B,β,I,cE o λd β' k v G' H' I' s' m' vo=>?_⟩
 obtain⟨ds,es,q,eg,k⟩:=zo k
 by_cases hz:ds.length < sizeLine
 case neg=>rw[K0 hz] at eg;cases eg
 rw[KU hz] at eg
 cases eg
 obtain⟨p',g1,_,_,_,ys,g5,g6⟩:=I'.slot i _ q
 rw[h1] at g1;cases g1
 refine⟨p,ys,v,rfl,rfl,g5,by rw[g6.len];exact hz,?_⟩
 exact k B G' _ σ (I'.write hb q h1 λH2 e2 s2=>⟨_,e2,g6.snoc vo⟩) s'
def Inv.lstR {pins:List (Addr×Obj)}{σ:St}{H:Hp}{s:Shared}{l:Addr}{xs:List V}(I:Inv X pins σ H s)(hH:Rd H l (.lst xs)):xs.length<=sizeLine/\∃(its:List Value) (n:Nat),Vals xs its/\xs.length=its.length/\s.heap.get? l=some {cls:=.type "list",data:=.seq its.toArray n}:=by
 obtain⟨z,its,n,r,e⟩:=hH.ok I.hok
 exact⟨z,its,n,r,r.length,e⟩
end
section
variable {K:Frag}{X:Cx}
def Ca {g:Int->Int->V}{gd:D->D->Option D}(h:∀dx dy d,gd dx dy=some d->∃i j,dx=.int i/\dy=.int j/\∀G,Rp K G (g i j) d):oJ K (DN g) gd .v:=by
 intro B G H x y dx dy d Q s hB bx by' e k
 obtain⟨i,j,rfl,rfl,r⟩:=h _ _ _ e
 obtain rfl:=bx.int
 obtain rfl:=by'.int
 exact⟨i,j,rfl,rfl,k _ G H (Ext.refl s) (r G)⟩
def zi {C:Int->Int->Prop}{g:Int->Int->V}{gd:D->D->Option D}(h:∀dx dy d,gd dx dy=some d->∃i j,dx=.int i/\dy=.int j/\C i j/\∀G,Rp K G (g i j) d):oJ K (rI C g) gd .v:=by
 intro B G H x y dx dy d Q s hB bx by' e k
 obtain⟨i,j,rfl,rfl,c,r⟩:=h _ _ _ e
 obtain rfl:=bx.int
 obtain rfl:=by'.int
 exact⟨i,j,rfl,rfl,c,k _ G H (Ext.refl s) (r G)⟩
def gI (c:Int->Int->Bool)(g:Int->Int->D):D->D->Option D
 | .int i,.int j=>if c i j=true then some (g i j) else none
 |_,_=>none
def AH (g:Int->Int->D):D->D->Option D
 | .int i,.int j=>some (g i j)
 |_,_=>none
def yx {c:Int->Int->Bool}{g:Int->Int->D}{dx dy d:D}(h:gI c g dx dy=some d):∃i j,dx=.int i/\dy=.int j/\c i j=true/\d=g i j:=by
 unfold gI at h
 split at h
 ·split at h
  ·cases h;exact⟨_,_,rfl,rfl,by assumption,rfl⟩
  ·cases h
 ·cases h
def o5 {g:Int->Int->D}{dx dy d:D}(h:AH g dx dy=some d):∃i j,dx=.int i/\dy=.int j/\d=g i j:=by
 unfold AH at h
 split at h
 ·cases h;exact⟨_,_,rfl,rfl,rfl⟩
 ·cases h
def Cc:D->D->Option D:=gI (λ_ j=>decide (0 < j) && decide (j < 1073741824)) λi j=>.int (i / j)
def DX:oJ K (rI DK λi j=>.int (i / j)) Cc .v:=zi λdx dy d h=>by obtain⟨i,j,rfl,rfl,c,rfl⟩:=yx h;exact⟨i,j,rfl,rfl,by simpa[DK] using c,λ_=>.int _⟩
def mJ:D->D->Option D:=gI (λ_ j=>decide (0 < j)) λi j=>.int (i % j)
def sF:oJ K (rI (λ_ j=>0 < j) λi j=>.int (i % j)) mJ .v:=zi λdx dy d h=>by obtain⟨i,j,rfl,rfl,c,rfl⟩:=yx h;exact⟨i,j,rfl,rfl,by simpa using c,λ_=>.int _⟩
def FH (i j:Int):Bool:=decide (0<=j) && decide (j<=1000000) && decide (i.natAbs < 2 ^ 64)
def HJ:D->D->Option D:=gI FH λi j=>.int (i ^ j.toNat)
def DA {i j:Int}(h:FH i j=true):Hh i j:=by
 unfold FH at h
 simp only[LB,Mq] at h
 exact⟨h.1.1,h.1.2,h.2⟩
def Iu:oJ K (rI Hh λi j=>.int (i ^ j.toNat)) HJ .v:=zi λdx dy d h=>by obtain⟨i,j,rfl,rfl,c,rfl⟩:=yx h;exact⟨i,j,rfl,rfl,DA c,λ_=>.int _⟩
def Gf:D->D->Option D:=AH λi j=>.bool (decide (i < j))
def Bq:D->D->Option D:=AH λi j=>.bool (decide (i<=j))
def Iz:oJ K (DN λi j=>.bl (decide (i < j))) Gf .v:=Ca λdx dy d h=>by obtain⟨i,j,rfl,rfl,rfl⟩:=o5 h;exact⟨i,j,rfl,rfl,λ_=>.bl _⟩
def GI:oJ K (DN λi j=>.bl (decide (i<=j))) Bq .v:=Ca λdx dy d h=>by obtain⟨i,j,rfl,rfl,rfl⟩:=o5 h;exact⟨i,j,rfl,rfl,λ_=>.bl _⟩
mutual
theorem yM:∀d:D,d.canLay0=true->Co d=true
 | .none,_=>rfl
 | .bool _,_=>rfl
 | .int _,_=>rfl
 | .str _,_=>rfl
 | .list ds,h=>by simp only[PyData.canLay0] at h;simp only[Co];exact pW ds h
 | .tuple ds,h=>by simp only[PyData.canLay0] at h;simp only[Co];exact pW ds h
 | .dict _,h=>by simp[PyData.canLay0] at h
theorem pW:∀ds:List D,PyData.canLayAll0 ds=true->rG ds=true
 | [],_=>rfl
 |d :: ds,h=>by
  simp only[PyData.canLayAll0,LB] at h
  simp only[rG,LB]
  exact⟨yM d h.1,pW ds h.2⟩
end
def tI {d:D}(h:SeqAt.shaped d=true):Co d=true:=yM d (MM h)
theorem yT:∀{ds:List D},(ds.all SeqAt.shaped)=true->rG ds=true
 | [],_=>rfl
 |d :: ds,h=>by
  rw[List.all_cons,LB] at h
  simp only[rG,LB]
  exact⟨tI h.1,yT h.2⟩
def cA (neg:Bool)(x y:D):Option D:=if (SeqAt.shaped x && SeqAt.shaped y)=true then some (.bool (if neg then !PyData.eqv x y else PyData.eqv x y)) else none
def b7 {neg:Bool}:oJ K (Gz K neg) (cA neg) .v:=by
 intro B G H x y dx dy d Q s hB bx by' e k
 unfold cA at e
 split at e
 ·rename_i h
  rw[LB] at h
  cases e
  exact⟨dx,dy,(bx.rpH s).rep (tI h.1),(by'.rpH s).rep (tI h.2),h.1,h.2,k _ G H (Ext.refl s) (.bl _)⟩
 ·cases e
def Jh (neg:Bool)(x y:D):Option D:=match oH y with
 |some ds=>if (SeqAt.shaped x && ds.all SeqAt.shaped)=true then some (.bool (if neg then !(ds.any λe=>PyData.eqv e x) else ds.any λe=>PyData.eqv e x)) else none
 |none=>none
theorem lA.seq {B:Option Addr}{G H:Hp}{v:V}{d:D}{ds:List D}(h:lA K B G H v d)(e:oH d=some ds)(s:ax G H):∃a xs,v=.ref a/\(gR K H a xs\/gj K H a xs)/\de K G xs ds:=by
 cases d with
 |list l=>cases e;obtain⟨a,xs,e,q,r⟩:=h.list s;exact⟨a,xs,e,.inl (.inl q),r⟩
 |tuple l=>cases e;obtain⟨a,xs,e,q,r⟩:=h.tuple s;exact⟨a,xs,e,.inr q,r⟩
 |_=>cases e
theorem HR {neg:Bool}:oJ K (Ie K neg) (Jh neg) .v:=by
 intro B G H x y dx dy d Q s hB bx by' e k
 unfold Jh at e
 cases q:oH dy with
 |none=>rw[q] at e;cases e
 |some ds=>
  rw[q] at e
  dsimp only at e
  split at e
  ·rename_i h
   rw[LB] at h
   cases e
   obtain⟨a,xs,rfl,hq,r⟩:=by'.seq q s
   refine⟨a,xs,dx,ds,rfl,hq,(r.mono s).reps (yT h.2),(bx.rpH s).rep (tI h.1),h.1,λe he=>Mw.mp h.2 e he,k _ G H (Ext.refl s) (.bl _)⟩
  ·cases e
def EA:D->Bool
 | .none=>true
 |_=>false
theorem de.ints {G:Hp}:∀ns:List Int,de K G (ns.map V.int) (ns.map int)
 | []=>.nil
 |n :: ns=>.cons (.int n) (de.ints ns)
theorem AX.noNone {G:Hp}{kvs:List (Key×V)}{d:D}{r:List (D×D)}(h:AX K G kvs ((.none,d) :: r)):False:=by
 generalize e:(PyData.none,d) :: r=l at h
 cases h with
 |nil=>cases e
 | @cons k x xs d' ds _ _=>
  injection e with e1 _
  injection e1 with e2 _
  cases k <;> cases e2
theorem AV.noNone {G:Hp}{kvs:List (List Key×V)}{d:D}{r:List (D×D)}(h:AV K G kvs ((.none,d) :: r)):False:=by
 generalize e:(PyData.none,d) :: r=l at h
 cases h with
 |nil=>cases e
 | @cons k x xs d' ds _ _=>
  injection e with e1 _
  injection e1 with e2 _
  cases e2
def lA.scr {B:Option Addr}{G H:Hp}{v:V}{ds:List D}(h:lA K B G H v (.dict [(.none,.list ds)]))(s:ax G H):∃a xs,v=.ref a/\gR K H a xs/\de K G xs ds:=by
 rcases h with h | ⟨a,rfl,n,h⟩
 ·cases h with
  | @scr a ns q=>exact⟨a,_,rfl,s.seq q,de.ints ns⟩
  |dK _ r=>exact r.noNone.elim
  |dT _ r=>exact r.noNone.elim
 ·rcases h with⟨_,_,r⟩ | ⟨_,_,r⟩
  ·exact r.noNone.elim
  ·exact r.noNone.elim
def jR:D->D->Option D
 | .list ds,.int i=>lx ds i
 | .tuple ds,.int i=>lx ds i
 | .str z,.int i=>if z.length<=sizeLine then (lx z.cps.toList i).map λc=>.str ⟨#[c]⟩ else none
 | .dict [(.none,.list ds)],.int i=>lx ds i
 |_,_=>none
theorem tG {G:Hp}{xs:List V}{ds:List D}{i:Int}{d:D}(r:de K G xs ds)(h:lx ds i=some d):∃x,lx xs i=some x/\Rp K G x d:=by
 unfold lx at h ⊢
 rw[r.len]
 cases e:AU ds.length i with
 |none=>rw[e] at h;cases h
 |some j=>rw[e] at h;exact r.at h
theorem kZ:oJ K (Ki K) jR .v:=by
 intro B G H x y dx dy d Q s hB bx by' e k
 cases dx with
 |list ds=>
  cases dy with
  |int i=>
   obtain rfl:=by'.int
   obtain⟨a,xs,rfl,q,r⟩:=bx.list s
   obtain⟨v,ev,rv⟩:=tG r e
   exact .inl ⟨a,xs,i,v,rfl,rfl,.inl q,ev,k _ G H (Ext.refl s) rv⟩
  |_=>cases e
 |tuple ds=>
  cases dy with
  |int i=>
   obtain rfl:=by'.int
   obtain⟨a,xs,rfl,q,r⟩:=bx.tuple s
   obtain⟨v,ev,rv⟩:=tG r e
   exact .inr (.inl ⟨a,xs,i,v,rfl,rfl,q,ev,k _ G H (Ext.refl s) rv⟩)
  |_=>cases e
 |str z=>
  cases dy with
  |int i=>
   obtain rfl:=by'.int
   obtain rfl:=bx.str
   simp only[jR] at e
   split at e
   ·rename_i hz
    cases q:lx z.cps.toList i with
    |none=>rw[q] at e;cases e
    |some c=>rw[q] at e;cases e;exact .inr (.inr ⟨z,i,c,rfl,rfl,hz,q,k _ G H (Ext.refl s) (.str _)⟩)
   ·cases e
  |_=>cases e
 |none=>cases dy <;> cases e
 |bool b=>cases dy <;> cases e
 |int b=>cases dy <;> cases e
 |dict b=>
  obtain⟨ds,i,rfl,rfl,e⟩:∃ds i,b= [(.none,.list ds)]/\dy=.int i/\lx ds i=some d:=by
   unfold jR at e
   split at e
   ·contradiction
   ·contradiction
   ·contradiction
   ·rename_i h;cases h;exact⟨_,_,rfl,rfl,e⟩
   ·cases e
  obtain rfl:=by'.int
  obtain⟨a,xs,rfl,q,r⟩:=bx.scr s
  obtain⟨v,ev,rv⟩:=tG r e
  exact .inl ⟨a,xs,i,v,rfl,rfl,q,ev,k _ G H (Ext.refl s) rv⟩
def gJ:D->Option D
 | .list ds=>some (.int ds.length)
 | .tuple ds=>some (.int ds.length)
 | .str z=>if z.length<=sizeLine then some (.int z.length) else none
 | .dict [(.none,.list ds)]=>some (.int ds.length)
 |_=>none
def J5 (K:Frag):List V->Hp->VK->Prop:=λxs H Q=>∃x n,xs= [x]/\Hz K x H n/\Q (.int n) H
def lX:C6 K (λx=>J5 K [x]) gJ .v:=by
 intro B G H x dx d Q s hB bx e k
 unfold gJ at e
 split at e
 ·cases e;obtain⟨a,xs,rfl,q,r⟩:=bx.list s;exact⟨_,_,rfl,.inl ⟨xs,.inl q,r.len.symm⟩,k _ G H (Ext.refl s) (.int _)⟩
 ·cases e;obtain⟨a,xs,rfl,q,r⟩:=bx.tuple s;exact⟨_,_,rfl,.inr ⟨xs,q,r.len.symm⟩,k _ G H (Ext.refl s) (.int _)⟩
 ·obtain rfl:=bx.str
  split at e
  ·rename_i hz;cases e;exact⟨_,_,rfl,⟨hz,rfl⟩,k _ G H (Ext.refl s) (.int _)⟩
  ·cases e
 ·cases e;obtain⟨a,xs,rfl,q,r⟩:=bx.scr s;exact⟨_,_,rfl,.inl ⟨xs,q,r.len.symm⟩,k _ G H (Ext.refl s) (.int _)⟩
 ·cases e
def BX:D->Option D
 | .list ds=>some (.tuple ds)
 | .tuple ds=>some (.tuple ds)
 |_=>none
theorem Eo:C6 K (λx H Q=>∃p ys,[x]= [.ref p]/\((gR K H p ys/\∀l,H l=none->Q (.ref l) (upd H l (.tup ys)))\/(gj K H p ys/\Q (.ref p) H))) BX .v:=by
 intro B G H x dx d Q s hB bx e k
 cases dx with
 |list ds=>
  cases e
  obtain⟨a,xs,rfl,q,r⟩:=bx.list s
  refine⟨a,xs,rfl,.inl ⟨.inl q,λl hl=>?_⟩⟩
  have x:=Ext.new s (o:=.tup xs) hl
  exact k _ _ _ x (.tup (.inl (.inl az)) (r.mono x.gg))
 |tuple ds=>
  cases e
  rcases bx with bx | ⟨_,_,_,z⟩
  ·cases bx with
   | @tup a xs _ hq r=>exact⟨a,xs,rfl,.inr ⟨hq.grow s.grow,k _ G H (Ext.refl s) (.tup hq r)⟩⟩
  ·exact z.elim
 |_=>cases e
def yC:D->Option D
 | .list ds=>some (.list ds)
 | .tuple ds=>some (.list ds)
 |_=>none
def yf:C6 K (λx H Q=>∃p ys,[x]= [.ref p]/\(gR K H p ys\/gj K H p ys)/\∀l,H l=none->Q (.ref l) (upd H l (.lst ys))) yC .w:=by
 intro B G H x dx d Q s hB bx e k
 obtain⟨ds,e1,rfl⟩:∃ds,oH dx=some ds/\d=.list ds:=by
  cases dx <;> cases e <;> exact⟨_,rfl,rfl⟩
 obtain⟨a,xs,rfl,hq,r⟩:=bx.seq e1 s
 refine⟨a,xs,rfl,hq,λl hl=>?_⟩
 exact k _ _ _ (Ext.own s (o:=.lst xs) hl) ⟨l,rfl,hl,s.free hl,xs,az,r⟩
def kg:List D->Option (List Bool)
 | []=>some []
 | .bool b :: ds=>(kg ds).map (b :: ·)
 |_=>none
theorem sk {G:Hp}:∀{ds:List D} {bs:List Bool} {xs:List V},kg ds=some bs->de K G xs ds->xs=bs.map V.bl
 | [],bs,xs,e,r=>by cases e;cases r;rfl
 | .bool b :: ds,bs,xs,e,r=>by
  cases r with
  |cons r1 r2=>
   cases r1
   simp only[kg] at e
   cases q:kg ds with
   |none=>rw[q] at e;cases e
   |some cs=>rw[q] at e;cases e;rw[sk q r2];rfl
 | .none :: _,_,_,e,_=>by cases e
 | .int _ :: _,_,_,e,_=>by cases e
 | .str _ :: _,_,_,e,_=>by cases e
 | .list _ :: _,_,_,e,_=>by cases e
 | .tuple _ :: _,_,_,e,_=>by cases e
 | .dict _ :: _,_,_,e,_=>by cases e
def iy (f:List Bool->Bool):D->Option D
 | .list ds=>(kg ds).map λbs=>.bool (f bs)
 |_=>none
theorem oI {f:List Bool->Bool}:C6 K (λx=>yw K f [x]) (iy f) .v:=by
 intro B G H x dx d Q s hB bx e k
 cases dx with
 |list ds=>
  simp only[iy] at e
  cases q:kg ds with
  |none=>rw[q] at e;cases e
  |some bs=>
   rw[q] at e
   cases e
   obtain⟨a,xs,rfl,hq,r⟩:=bx.list s
   obtain rfl:=sk q r
   exact⟨a,bs,rfl,.inl hq,k _ G H (Ext.refl s) (.bl _)⟩
 |_=>cases e
def Fe:R2:=λx y H Q=>∃l b xs zs,x=.ref l/\y=.ref b/\Rd H l (.lst xs)/\Rd H b (.lst zs)/\xs.length + zs.length<=sizeLine/\∀p,H p=none->Q (.ref p) (upd H p (.lst (xs ++ zs)))
def oZ:me X (binaryOp .Add) Fe:=by
 intro pins s σ H x y v u Q I rx ry h
 obtain⟨l,b,xs,zs,rfl,rfl,hH,hB,hz,q⟩:=h
 cases rx
 cases ry
 obtain⟨z,its,n,r,hl,e⟩:=I.lstR hH
 obtain⟨z2,its2,n2,r2,hl2,e2⟩:=I.lstR hB
 refine PySem.P.add_list e e2 ?_ (by rw[K1,K1];omega)
 have ea:its.toArray ++ its2.toArray=(its ++ its2).toArray:=by simp
 rw[ea]
 exact⟨.ref _,_,I.lnew (t':=s.toks) (r.append r2) (by rw[LC];omega),rfl,q _ I.fresh⟩
def kY:D->D->Option D
 | .list a,.list b=>if a.length + b.length<=sizeLine then some (.list (a ++ b)) else none
 |_,_=>none
def yF:oJ K Fe kY .w:=by
 intro B G H x y dx dy d Q s hB bx by' e k
 cases dx <;> cases dy <;> first | (cases e;done) |skip
 rename_i a b
 simp only[kY] at e
 split at e
 ·rename_i hz
  cases e
  obtain⟨p,xs,rfl,q1,r1⟩:=bx.list s
  obtain⟨p2,ys,rfl,q2,r2⟩:=by'.list s
  refine⟨p,p2,xs,ys,rfl,rfl,q1,q2,by rw[r1.len,r2.len];exact hz,λl hl=>?_⟩
  exact k _ _ _ (Ext.own s (o:=.lst (xs ++ ys)) hl) ⟨l,rfl,hl,s.free hl,_,az,r1.append r2⟩
 ·cases e
def dC:D->D->Option D:=AH λi j=>.int (i + j)
def lT:oJ K (DN λi j=>.int (i + j)) dC .v:=Ca λdx dy d h=>by obtain⟨i,j,rfl,rfl,rfl⟩:=o5 h;exact⟨i,j,rfl,rfl,λ_=>.int _⟩
def fy:D->D->Option D:=gI (λi j=>(decide (-(2 ^ 64) < i) && decide (i < 2 ^ 64)) || (decide (-(2 ^ 64) < j) && decide (j < 2 ^ 64))) λi j=>.int (i * j)
def lB:oJ K (rI Cv λi j=>.int (i * j)) fy .v:=zi λdx dy d h=>by obtain⟨i,j,rfl,rfl,c,rfl⟩:=yx h;exact⟨i,j,rfl,rfl,by simpa[Cv] using c,λ_=>.int _⟩
def IS:D->Option D
 | .int i=>some (.int (-i))
 |_=>none
theorem EY:C6 K (rU λi=>.int (-i)) IS .v:=by
 intro B G H x dx d Q s hB bx e k
 cases dx with
 |int i=>cases e;obtain rfl:=bx.int;exact⟨i,rfl,k _ G H (Ext.refl s) (.int _)⟩
 |_=>cases e
def Ia:D->String
 | .none=>"NoneType"
 | .bool _=>"bool"
 | .int _=>"int"
 | .str _=>"str"
 | .list _=>"list"
 | .tuple _=>"tuple"
 | .dict _=>"dict"
def CB (d:D)(T:String):Bool:=Ia d == T || (T == "int" && Ia d == "bool")
def gC:D->Bool
 | .dict ((.none,_) :: _)=>true
 |_=>false
def lb (T:String)(d:D):Option D:=if gC d=true then none else some (.bool (CB d T))
def Kk (K:Frag)(H:Hp)(x:V)(t:String):Prop:=DT K H x t\/(t="dict"/\∃a kvs,x=.ref a/\H a=some (.dT kvs))
def HU (K:Frag):List V->Hp->VK->Prop:=λxs H Q=>∃x T t b,xs= [x,.ty T]/\Kk K H x t/\PySem.W.kitOne K (.type t) (.type T)=some b/\Q (.bl b) H
def BG:cW X (.builtin "isinstance") (HU X.K):=by
 intro pins s σ H xs us Q I r h
 obtain⟨x,T,t,b,rfl,ty,e,q⟩:=h
 rcases ty with ty | ⟨rfl,a,kvs,rfl,hk⟩
 ·exact Be pins s σ H _ us Q I r ⟨x,T,t,b,rfl,ty,e,q⟩
 ·obtain⟨u,c,rfl,rx,rc⟩:=vals2 r
  cases rc
  cases rx
  obtain⟨_,_,_,_,o,_,_,e2,ex,_⟩:=I.hok a _ hk
  exact LF PySem.W.kitx_dict I.kIn ⟨o,e2,ex.1⟩ e (λz=>nomatch z) λtk=>⟨.bl b,H,I.tok tk,rfl,q⟩
theorem lA.ty {B:Option Addr}{G H:Hp}{v:V}{d:D}(h:lA K B G H v d)(s:ax G H)(n:gC d=false):Kk K H v (Ia d):=by
 cases d with
 |none=>obtain rfl:=h.none;exact .inl .non
 |bool b=>obtain rfl:=h.bool;exact .inl (.bl b)
 |int b=>obtain rfl:=h.int;exact .inl (.int b)
 |str b=>obtain rfl:=h.str;exact .inl (.str b)
 |list b=>obtain⟨a,xs,rfl,q,_⟩:=h.list s;exact .inl (.lst (.inl q))
 |tuple b=>obtain⟨a,xs,rfl,q,_⟩:=h.tuple s;exact .inl (.tup q)
 |dict b=>
  rcases h with h | ⟨a,rfl,_,h⟩
  ·cases h with
   |scr _=>cases n
   |dK q _=>exact .inl (.dic (s _ _ q))
   |dT q _=>exact .inr ⟨rfl,_,_,rfl,s _ _ q⟩
  ·rcases h with⟨_,q,_⟩ | ⟨_,q,_⟩
   ·exact .inl (.dic q)
   ·exact .inr ⟨rfl,_,_,rfl,q⟩
theorem HZ {d:D}{T:String}(hT:T∈ ["int","bool","str","list","tuple","dict"]):PySem.W.kitOne K (.type (Ia d)) (.type T)=some (CB d T):=by
 simp only[KZ,not_mem_nil,or_false] at hT
 cases d with
 |dict l=>rcases hT with rfl |rfl |rfl |rfl |rfl |rfl <;> rfl
 |none=>rcases hT with rfl |rfl |rfl |rfl |rfl |rfl <;> rfl
 |bool _=>rcases hT with rfl |rfl |rfl |rfl |rfl |rfl <;> rfl
 |int _=>rcases hT with rfl |rfl |rfl |rfl |rfl |rfl <;> rfl
 |str _=>rcases hT with rfl |rfl |rfl |rfl |rfl |rfl <;> rfl
 |list _=>rcases hT with rfl |rfl |rfl |rfl |rfl |rfl <;> rfl
 |tuple _=>rcases hT with rfl |rfl |rfl |rfl |rfl |rfl <;> rfl
def pd {a:Expr}{fa:VF D}{La:List Nat}{ma:Md}{Γ:Fx}{E:XK}{pos p p2:Pos}(T:String){y:Str}(hT:T∈ ["int","bool","str","list","tuple","dict"])(hK:X.K=Γ.K)(hg:Gl X "isinstance")(hm:X.mg "isinstance"=none)(hgT:Gl X y)(hmT:X.mg y=none)(hvT:bootBuiltins y=some (.type T))(ha:SE X Γ E a fa La ma)
  (hnT:y≠"__name__":=by decide) (hdT:(y == ("__debug__":Str))=false:=by decide)
  (he:starEach [a,.Name y p2] X.env=(false,eval a X.env) :: starEach [.Name y p2] X.env:=by rfl) (he2:starEach [.Name y p2] X.env=(false,eval (.Name y p2) X.env) :: starEach [] X.env:=by rfl) (hpl:(backTo pos (starEach [.Name y p2] X.env)).any (·.1)=false:=by rfl) :
  SE X Γ E (.Call (.Name "isinstance" p) [a,.Name y p2] [] pos) (f1 fa (lb T)) La .v:=by
 refine PE.post' (bz BG hg hm (by decide +kernel) (ay ha (ay (yy hgT hmT hvT (show RelV (.ty T) _ from rfl) hnT hdT) aU he2) he) (by decide) (by decide) he hpl) λσ H Q ⟨env,G,B,β,I,o⟩=>?_
 refine jH (r:=λx H1 Q=>HU X.K [x,.ty T] H1 Q) ?_ I o
 intro B G H x dx d Q s hB bx e k
 unfold lb at e
 split at e
 ·cases e
 ·rename_i hn
  cases e
  rw[hK]
  exact⟨x,T,Ia dx,CB dx T,rfl,bx.ty s (by simpa using hn),HZ hT,k _ G H (Ext.refl s) (.bl _)⟩
def i7 (fa fb fc:VF D)(g g':D->D->Option D):VF D:=λvs β=>(fa vs β).bnd λx β1=>(fb vs β1).bnd λy β2=>match g x y with
 |some (.bool true)=>(fc vs β2).bnd λz β3=>R.of (g' y z) β3
 |some (.bool false)=>.ok (.bool false) β2
 |_=>.bad
theorem v7 {a b c:Expr}{fa fb fc:VF D}{ma mb mc:Md}{Γ:Fx}{E:XK}{pos:Pos}{op op':CmpOp}{r r':R2}{g g':D->D->Option D}(ho:me X (compareOp op) r)(ho':me X (compareOp op') r')(pr:oJ Γ.K r g .v)(pr':oJ Γ.K r' g' .v)(ha:SE X Γ E a fa [] ma)(hb:SE X Γ E b fb [] mb)(hc:SE X Γ E c fc [] mc)
  (hm:lastMarks [op,op'] [b,c]=false:=by with_unfolding_all rfl):SE X Γ E (.Compare a [op,op'] [b,c] pos) (i7 fa fb fc g g') [] .v:=by
 refine PE.post' (Bg ho ho' ha hb hc hm) λσ H Q ⟨env,G,B,β,I,o⟩=>?_
 refine two (W:=λx y H2=>r x y H2 λz H3=>∃k,z=.bl k/\(if k=true then pT Γ E fc [] mc σ H3 λw' H4=>r' y w' H4 Q else Q (.bl false) H3)) I (o.bnd.imp λd1 β1 h=>h.bnd.imp λd2 β2 h x y G2 H2 I2 s2 m2 bx by'=>?_)
 obtain⟨cb,ec,h⟩:∃cb,g d1 d2=some (.bool cb)/\Out Γ E (if cb=true then (fc (vl env) β2).bnd λz β3=>R.of (g' d2 z) β3 else .ok (.bool false) β2) λd β'=>∀v G' H',SR Γ B G' H' σ (bt [] env) β'->ax G G'->gV B H H'->VO Γ.K B H G' H' .v d v->Q v H':=by
  split at h
  ·rename_i q;exact⟨true,q,by rw[KU rfl];exact h⟩
  ·rename_i q;exact⟨false,q,by rw[K0 Lh];exact h⟩
  ·exact h.elim
 refine pr B G2 H2 x y d1 d2 _ _ I2.sub I2.boxThere bx by' ec λv G' H' x' vo=>?_
 cases vo
 refine⟨cb,rfl,?_⟩
 have I3:=I2.ext x'
 cases cb with
 |false=>rw[K0 Lh] at h;exact rl (h _ G' H' I3 (s2.trans x'.gg) (m2.trans (x'.mov B)) (.bl false))
 |true=>
  rw[KU rfl] at h
  refine xr ⟨env,G',B,β2,I3,h.bnd.imp λd3 β3 h z G4 H4 I4 s4 m4 vz=>?_⟩
  obtain⟨d,e,k⟩:=h.of
  refine pr' B G4 H4 y z d2 d3 d Q I4.sub I4.boxThere (by'.mono (x'.gg.trans s4) ((x'.mov B).trans m4)) (vz.brw I3.boxThere) e λv G5 H5 x5 vo=>?_
  exact k v G5 H5 (I4.ext x5) (((s2.trans x'.gg).trans s4).trans x5.gg) (((m2.trans (x'.mov B)).trans m4).trans (x5.mov B)) vo
end
def dN.u1 {k:Nat}{A:Around}(r:dN k A):A.units + 100 < cLine:=by have:=r.un;omega
def Kw (N:List Str)(sc:Scope)(NB:List Str)(own:Nat)(ixs:List Nat)(scope:Scope):Bool:=
 decide (scope.kind=.function) && (scope.names.all λy=>decide (scope.names.lookup y.1=some y.2)) &&
 (scope.names.all λy=>decide (y.2=.free->(sc.names.lookup y.1=some .cell\/sc.names.lookup y.1=some .free))) && decide NB.Nodup && decide (NB.length=own + ixs.length) &&
 ((List.range ixs.length).all λk=>decide (NB[own + k]? =N[ixs.getD k 0]?) && (match NB[own + k]? with |some x=>decide ((x,NameKind.free)∈scope.names) |none=>true))
def jh {X:Cx}{NB:List Str}{own:Nat}{ixs:List Nat}{scope:Scope}(h:Kw X.N X.env.scope NB own ixs scope=true):cL X NB own ixs scope:=by
 unfold Kw at h
 simp only[LB,Mw,Mq,Ll] at h
 obtain⟨⟨⟨⟨⟨h1,h3⟩,h4⟩,h5⟩,h6⟩,h7⟩:=h
 refine⟨h1,h3,h4,h5,h6,λk hk=>⟨(h7 k hk).1,λx hx=>?_⟩⟩
 have:=(h7 k hk).2
 rw[hx] at this
 simpa using this
section
variable {X:Cx}{Γ:Fx}{E:XK}{e a b c:Expr}{f fa fb fc:VF D}{L La Lb:List Nat}{md ma mb mc:Md}{pos:Pos}{K:Frag}
def tN (fa:VF D)(neg:Bool):VF Bool:=λvs β=>(fa vs β).bnd λx β1=>.ok (if neg then !EA x else EA x) β1
def oT (Γ:Fx)(E:XK)(f:VF (Option Int))(L:List Nat):TO:=λσ H Q=>∃env G B β,SR Γ B G H σ env β/\
 Out Γ E (f (vl env) β) λd β'=>∀G' H',SR Γ B G' H' σ (bt L env) β'->ax G G'->gV B H H'->Q d H'
def Ha:oJ K (λx y H Q=>∃i j,[x,y]= [.int i,.int j]/\Q (.int (if j > i then j else i)) H) (AH λi j=>.int (if j > i then j else i)) .v:=by
 intro B G H x y dx dy d Q s hB bx by' e k
 obtain⟨i,j,rfl,rfl,rfl⟩:=o5 e
 obtain rfl:=bx.int
 obtain rfl:=by'.int
 exact⟨i,j,rfl,k _ G H (Ext.refl s) (.int _)⟩
def Hb:oJ K (λx y H Q=>∃i j,[x,y]= [.int i,.int j]/\Q (.int (if j < i then j else i)) H) (AH λi j=>.int (if j < i then j else i)) .v:=by
 intro B G H x y dx dy d Q s hB bx by' e k
 obtain⟨i,j,rfl,rfl,rfl⟩:=o5 e
 obtain rfl:=bx.int
 obtain rfl:=by'.int
 exact⟨i,j,rfl,k _ G H (Ext.refl s) (.int _)⟩
end
inductive FB where
 |ok (d:D) (fresh:Bool) (β:Int)
 |bad
def HG (K:Frag)(n:Nat)(F:List D->Int->FB):Sp:=λvs H Q _=>∃b rest G ds β,vs=.ref b :: rest/\H b=some (.lst [.int β])/\G b=none/\ax G H/\ds.length=n/\de K G rest ds/\match F ds β with
 | .ok d fr β'=>∀v G' H',gV (some b) H H'->H' b=some (.lst [.int β'])->ax G G'->ax G' H'->(∀c,Mx H c->G c=none->G' c=none)->FV K H G' H' fr d v->Q v H'
 | .bad=>False
structure sN (P:Program)(w:World)(K:Frag)(mg:Str->Option Value)(base:Heap)(x:Str)(ps:List Str)(k:Nat)(F:List D->Int->FB):Prop where
 ex:∃f fd,mg x=some (.ref f)/\PySem.W.keepIn K (.ref f)=true/\Binds K fd ps []/\fq P w K mg base (mq P w) k f fd ps (HG K (ps.length - 1) F)
 len:∀ds β,F ds β≠.bad->ds.length=ps.length - 1
def xA (vs:List Nv)(i:Nat):Bool:=match vs[i]? with
 |some .bx=>true
 |_=>false
def oi (i:Nat)(F:List D->Int->FB)(fr:VF (List D)):VF D:=λvs β=>if xA vs i=true then (fr vs β).bnd λds β1=>match F ds β1 with
 | .ok d _ β2=>.ok d β2
 | .bad=>.bad else .bad
def JY (i:Nat)(F:List D->Int->FB)(fr:VF (List D)):VF D:=λvs β=>if xA vs i=true then (fr vs β).bnd λds β1=>match F ds β1 with
 | .ok d true β2=>.ok d β2
 |_=>.bad else .bad
section
variable {X:Cx}{Γ:Fx}{E:XK}{e a b c:Expr}{f fa fb fc:VF D}{L La Lb:List Nat}{md ma mb mc:Md}{pos:Pos}{K:Frag}{es:List Expr}{fr:VF (List D)}
def DB {env:En}{i:Nat}(h:xA (vl env) i=true):env[i]? =some .bx:=by
 unfold xA at h
 split at h
 ·exact HE (by assumption)
 ·cases h
def D0 {env:En}{i j:Nat}{d:D}(h:(iJ env i)[j]? =some (.br d)):env[j]? =some (.br d):=by
 unfold iJ at h
 split at h
 ·rename_i d' e
  by_cases z:i=j
  ·subst z
   rw[K4 (Ld.mp e).1] at h;cases h
  ·rw[K5 z] at h;exact h
 ·exact h
theorem GY {L:List Nat}{env:En}{j:Nat}{d:D}(h:(bt L env)[j]? =some (.br d)):env[j]? =some (.br d):=by
 unfold bt at h
 induction L generalizing env with
 |nil=>exact h
 |cons i L ih=>exact D0 (ih h)
def SR.calledB {p:Addr}{β β':Int}{G1 H1 G2 H2:Hp}{σ:St}{env:En}(I1:SR Γ (some p) G1 H1 σ env β)(h:gV (some p) H1 H2)(hp:H2 p=some (.lst [.int β']))(g:ax G1 G2)(s:ax G2 H2)(n:∀b,Mx H1 b->G1 b=none->G2 b=none):SR Γ (some p) G2 H2 σ env β':=by
 obtain⟨b1,b2,b3⟩:=I1.box p rfl
 refine⟨s,I1.old.trans g,λb n1 n2=>n b (I1.thereM n1) (I1.new b n1 n2),λb o e np=>yc (I1.keep b o e np) h λz=>?_,λb hb=>?_,I1.fix,λb e=>?_,I1.len,λi t e=>?_,I1.sep⟩
 ·cases z
  rcases b3 with b3 |b3
  ·exact np b3
  ·rw[e] at b3;cases b3
 ·by_cases z:p=b
  ·subst z;exact Mx.lst hp
  ·exact (I1.pin b hb).same λo q=>h.1 b o q λy=>z (Option.some.inj y)
 ·cases e
  exact⟨hp,n p (Mx.lst b1) b2,b3⟩
 ·have q:=I1.slot i t e
  cases t with
  |no=>trivial
  |fz d=>obtain⟨v,h1,h2⟩:=q;exact⟨v,h1,h2.mono g⟩
  |ow d=>
   obtain⟨c,h1,h2,h3,h4,h5⟩:=q
   exact⟨c,h1,h2,n c h5.mx h3,h4,h5.mono g λo q=>h.1 c o q h4⟩
  |bx=>exact q
  |br d=>obtain⟨b1,c,h1,h4,hpp,h5⟩:=q;exact⟨b1,c,h1,h4,hpp,h5.mono g λo q=>h.1 c o q h4⟩
theorem Eh {F:List D->Int->FB}{ps:List Str}{Q:VK}{B:Option Addr}{G H:Hp}{σ:St}{env:En}{β:Int}{i:Nat}{p:Addr}(I:SR Γ B G H σ env β)(hK:X.K=Γ.K)(hp:B=some p){wv:Bool}
  (h:Out Γ E (fr (vl env) β) λds β1=>Out Γ E (match F ds β1 with
   | .ok d true β2=>.ok d β2
   | .ok d false β2=>if wv=true then .bad else .ok d β2
   | .bad=>.bad) λd β'=>∀v G' H',SR Γ B G' H' σ (bt L env) β'->ax G G'->gV B H H'->VO Γ.K B H G' H' (if wv=true then .w else .v) d v->Q v H') (hl:∀ds β,F ds β≠.bad->ds.length=ps.length - 1) :
  aT Γ E fr L σ H λvs H1=>HG X.K (ps.length - 1) F (.ref p :: vs) H1 Q E:=by
 subst hp
 refine⟨env,G,_,β,I,h.imp λds β1 k vs G1 H1 I1 s1 m1 r=>?_⟩
 obtain⟨b1,b2,b3⟩:=I1.box p rfl
 refine⟨p,vs,G1,ds,β1,rfl,b1,b2,I1.sub,hl ds β1 λz=>by rw[z] at k;exact k,by rw[hK];exact r,?_⟩
 cases q:F ds β1 with
 |bad=>rw[q] at k;exact k
 |ok d fr' β2=>
  rw[q] at k
  intro v G' H' hh hb hg hs hn fv
  have I2:=I1.calledB hh hb hg hs hn
  cases fr' with
  |true=>
   obtain⟨c,rfl,p1,p2,p3⟩:∃a,v=.ref a/\H1 a=none/\G' a=none/\Own X.K G' H' a d:=fv
   rw[hK] at p3
   have hp:=iS m1 I1.boxThere p1
   cases wv with
   |true=>exact k _ G' H' I2 (s1.trans hg) (m1.trans hh) ⟨c,rfl,hp,p2,p3⟩
   |false=>
    obtain⟨q1,q2,q3,q4⟩:=I1.fresh p1
    obtain⟨G3,I3,s3,r3⟩:=I2.letIn q1 p2 q3 q4 p3
    exact k _ G3 H' I3 ((s1.trans hg).trans s3) (m1.trans hh) r3
  |false=>
   cases wv with
   |true=>exact k.elim
   |false=>
    have fv:Rp X.K G' v d:=fv
    rw[hK] at fv
    exact k _ G' H' I2 (s1.trans hg) (m1.trans hh) fv
theorem GO {F:List D->Int->FB}{ps:List Str}{Q:VK}{i:Nat}{σ:St}{H:Hp}(hK:X.K=Γ.K){wv:Bool}(hl:∀ds β,F ds β≠.bad->ds.length=ps.length - 1)(h:pT Γ E (if wv=true then JY i F fr else oi i F fr) L (if wv=true then .w else .v) σ H Q) :
  D9 i σ H λx H1=>aT Γ E fr L σ H1 λvs H2=>HG X.K (ps.length - 1) F (x :: vs) H2 Q E:=by
 obtain⟨env,G,B,β,I,o⟩:=h
 have hi:xA (vl env) i=true:=by
  by_cases hi:xA (vl env) i=true
  ·exact hi
  ·exfalso
   cases wv with
   |true=>simp only[LO] at o;unfold JY at o;rw[K0 hi] at o;exact o
   |false=>simp only[K6,Lz] at o;unfold oi at o;rw[K0 hi] at o;exact o
 obtain⟨p,e1,e2⟩:=I.slot i _ (DB hi)
 refine⟨.ref p,e1,Eh (i:=i) (ps:=ps) I hK e2 (wv:=wv) ?_ hl⟩
 cases wv with
 |true=>
  simp only[LO] at o ⊢
  unfold JY at o
  rw[KU hi] at o
  refine o.bnd.imp λds β1 h=>?_
  cases q:F ds β1 with
  |bad=>rw[q] at h;exact h
  |ok d b β2=>rw[q] at h;cases b <;> exact h
 |false=>
  simp only[K6,Lz] at o ⊢
  unfold oi at o
  rw[KU hi] at o
  refine o.bnd.imp λds β1 h=>?_
  cases q:F ds β1 with
  |bad=>rw[q] at h;exact h
  |ok d b β2=>rw[q] at h;cases b <;> exact h
def qe {x y:Str}{ps:List Str}{k:Nat}{F:List D->Int->FB}{p np:Pos}(i:Nat)(hf:sN X.prog X.w X.K X.mg X.base x ps k F)(hr:dN k X.A)(hx:Passes (mq X.prog X.w) X E)(hK:X.K=Γ.K)(hg:Gl X x)(ha:SA X Γ E es fr L)(hN:X.N[i]? =some y:=by rfl)(hv:y1 X.env.scope y:=by first |exact Or.inl rfl |exact Or.inr (Or.inl rfl) |exact Or.inr (Or.inr rfl))(hd:(y == ("__debug__":Str))=false:=by decide)
  (hcd:(y == ("__classdict__":Str))=false:=by decide) (hdb:(x == ("__debug__":Str))=false:=by decide)
  (he:starEach (.Name y np :: es) X.env=(false,eval (.Name y np) X.env) :: starEach es X.env:=by rfl) (hpl:(backTo pos (starEach es X.env)).any (·.1)=false:=by rfl):SE X Γ E (.Call (.Name x p) (.Name y np :: es) [] pos) (oi i F fr) L .v:=by
 obtain⟨f,fd,hm,hk,hb,hF⟩:=hf.ex
 refine PE.post' (oV (dvs:=[]) hF hr hg hm hk hb .nil hx (ay (i4 hN hv hd hcd) ha he) hdb he hpl) λσ H Q h=>?_
 have:=GO (Q:=Q) (wv:=false) (ps:=ps) hK hf.len (by simpa using h)
 show D9 i σ H λx H1=>aT Γ E fr L σ H1 λvs H2=>HG X.K (ps.length - 1) F ((x :: vs) ++ []) H2 Q E
 simpa using this
def Bk:D->Option Int
 | .list [.int z]=>some z
 |_=>none
def Ek {d:D}{z:Int}(h:Bk d=some z):d=.list [.int z]:=by
 unfold Bk at h
 split at h
 ·cases h;rfl
 ·cases h
def KN (f0:VF D)(F:List D->Int->FB)(n:Int):VF D:=λvs β=>(f0 vs β).bnd λd0 β1=>match Bk d0 with
 |some z=>(match F [.int n] z with
  | .ok d _ _=>.ok d β1
  | .bad=>.bad)
 |none=>.bad
def rC (env:En):En:=env.map λs=>match s with
 | .bx=>.no
 |s=>s
theorem CK {env:En}{i:Nat}{s:Sl}(h:(rC env)[i]? =some s)(n:s≠.no):env[i]? =some s/\s≠.bx:=by
 unfold rC at h
 rw[K2] at h
 cases e:env[i]? with
 |none=>rw[e] at h;cases h
 |some t=>
  rw[e] at h
  have h:=Option.some.inj h
  cases t with
  |bx=>exact absurd h.symm n
  |no=>exact absurd h.symm n
  |fz d=>subst h;exact⟨rfl,λz=>by cases z⟩
  |ow d=>subst h;exact⟨rfl,λz=>by cases z⟩
  |br d=>subst h;exact⟨rfl,λz=>by cases z⟩
def zm (i:Nat)(L:List Nat)(f:VF D):SF:=λenv β=>toS (f (vl env) β) λd _=>match Bk d with
 |some z=>.nx ((rC (bt L env)).set i .bx) z
 |none=>.bad
theorem Dy {i:Nat}{x:Str}{pos':Pos}(hbx:Γ.bx=none)(he:SE X Γ E e f L .w)(hN:X.N.Nodup)(hi:X.N[i]? =some x:=by rfl)(hx:Loc X.env.scope x:=by first |exact Or.inl rfl |exact Or.inr rfl)(hs:swapsWith e (some (.Name x pos')) pos.line X.env=pure false:=by rfl)(hf:X.fn x=true\/X.env.scope.names.lookup x=some .local:=by first |exact .inl rfl |exact .inr rfl |assumption) :
  SS X Γ E (.Assign [.Name x pos'] e pos) (zm i L f):=by
 refine PS.post (jK hN hi hx he hs hf) λN σ H ⟨env,G,B,β,I,o⟩=>?_
 refine⟨env,G,B,β,I,cE o λd β' k v G' H' I' s' m' vo=>?_⟩
 cases q:Bk d with
 |none=>rw[q] at k;exact k.elim
 |some z=>
  rw[q] at k
  obtain rfl:=Ek q
  obtain⟨p,rfl,h1,h2,xs,h3,r⟩:=vo
  have hx2:H' p=some (.lst [.int z]):=by
   cases r with
   |cons r1 r2=>
    cases r1
    cases r2
    exact h3
  obtain⟨q1,q2,q3,q4⟩:=I.fresh h1
  refine k (some p) G' H' _ ⟨I'.sub,I'.old,I'.new,I'.keep,I'.pin,λb e=>(by rw[hbx] at e;cases e),λb e=>?_,?_,λj t e=>?_,λj j' c d1 d2 e1 e2 e3 e4=>?_⟩ s'
  ·cases e;exact⟨hx2,h2,.inr q1⟩
  ·rw[LQ,LQ];unfold rC;rw[Lk];exact I'.len
  ·by_cases hj:j=i
   ·subst hj
    by_cases hl:j < (rC (bt L env)).length
    ·rw[K4 hl] at e
     cases e
     refine⟨p,?_,rfl⟩
     rw[K4]
     rw[I'.len];unfold rC at hl;simpa using hl
    ·rw[Mn (by rw[LQ];omega)] at e;cases e
   ·rw[K5 (Ne.symm hj)] at e ⊢
    by_cases hn:t=.no
    ·subst hn;trivial
    ·obtain⟨e1,nb⟩:=CK e hn
     have w:=I'.slot j t e1
     cases t with
     |no=>trivial
     |fz d=>exact w
     |bx=>exact absurd rfl nb
     |ow d=>
      obtain⟨a',g1,g2,g3,g4,g5⟩:=w
      exact⟨a',g1,g2,g3,λy=>q4 j d (uJ e1) (by cases y;exact g1),g5⟩
     |br d=>
      obtain⟨b1,a',g1,g4,hpp,g5⟩:=w
      have e0:env[j]? =some (.br d):=GY e1
      obtain⟨_,a2,f1,_,_,f5⟩:=I.slot j _ e0
      rw[g1] at f1;cases f1
      obtain⟨o,ho⟩:=f5.obj
      exact⟨b1,a',g1,λy=>(by cases y;rw[h1] at ho;cases ho),hpp,g5⟩
  ·have back:∀{j:Nat} {d1:D},((rC (bt L env)).set i Sl.bx)[j]? =some (.ow d1)->j≠i/\(bt L env)[j]? =some (.ow d1):=λ{j d1} e=>by
    by_cases hj:j=i
    ·subst hj
     by_cases hl:j < (rC (bt L env)).length
     ·rw[K4 hl] at e;cases e
     ·rw[Mn (by rw[LQ];omega)] at e;cases e
    ·rw[K5 (Ne.symm hj)] at e
     exact⟨hj,(CK e (λy=>by cases y)).1⟩
   obtain⟨n1,w1⟩:=back e1
   obtain⟨n2,w2⟩:=back e2
   rw[K5 (Ne.symm n1)] at e3
   rw[K5 (Ne.symm n2)] at e4
   exact I'.sep j j' c d1 d2 w1 w2 e3 e4
end
section
variable {P:Program}{w:World}{K:Frag}{mg:Str->Option Value}{base:Heap}{ca:Str->Addr}
def DP:SO->FB
 | .nx _ β=>.ok .none false β
 | .rt d fr β=>.ok d fr β
 |_=>.bad
def xY (n:Nat)(ds:List D):En:=.bx :: ds.map Sl.fz ++ List.replicate (n - 1 - ds.length) .no
def wI (n p:Nat)(m:SF):List D->Int->FB:=λds β=>if ds.length=p then DP (m (xY n ds) β) else .bad
abbrev Fx.fb (K:Frag)(H G:Hp)(ca:Str->Addr)(b:Addr):Fx:=⟨K,H,G,[b],ca,λ_=>false,some b⟩
def SR.startB {H G:Hp}{N:List Str}{b:Addr}{vs:List V}{ds:List D}{β:Int}(s:ax G H)(hb:H b=some (.lst [.int β]))(gb:G b=none)(r:de K G vs ds)(hn:ds.length + 1<=N.length):SR (Fx.fb K H G ca b) (some b) G H (L2.start N (.ref b :: vs)) (xY N.length ds) β:=by
 have hl:=r.len
 refine⟨s,ax.refl _,λc _ h=>h,λc o h _=>Kt.of h,λc h=>?_,λc h=>h,λc h=>?_,?_,λi t e=>?_,λi j a d e h=>?_⟩
 ·have:c=b:=by simpa using h
  subst this;exact Mx.lst hb
 ·cases h;exact⟨hb,gb,.inl (by simp)⟩
 ·unfold L2.start xY;simp;omega
 ·cases i with
  |zero=>
   unfold xY at e
   cases e
   exact⟨b,rfl,rfl⟩
  |succ i=>
   unfold xY at e
   have e:(ds.map Sl.fz ++ List.replicate (N.length - 1 - ds.length) Sl.no)[i]? =some t:=by simpa using e
   by_cases hi:i < ds.length
   ·rw[LA (by simpa using hi),K2,KP hi] at e
    cases e
    obtain⟨x,hx,rx⟩:=r.at (KP hi)
    refine⟨x,?_,rx⟩
    unfold L2.start
    have hi':i < vs.length:=by rw[hl];exact hi
    rw[LA (by simp;exact hi'),K2,List.getElem?_cons_succ,hx];rfl
   ·rw[Lw (by simpa using hi),LX] at e
    split at e
    ·cases e;trivial
    ·cases e
 ·unfold xY at h
  have hm:=K8 h
  rcases KZ.mp hm with z |hm
  ·cases z
  rcases Lp.mp hm with z |z
  ·obtain⟨_,_,z⟩:=K9.mp z;cases z
  ·have:=Mg z;cases this
def wa {x qual:Str}{st:Stmt}{f:Addr}{fd:FuncData}{N:List Str}{ps:List Str}{k:Nat}{m:SF}(F:AY K x qual st f fd)(S:aH N ps (ak st))(hp:1<=ps.length)
  (hbody:∀(cdv:Value) (A:Around) (outer:List Env) (s:Shared) (H G:Hp) (b:Addr) (E:XK),dN k (A.deeper (envOfC qual (ak st) s.heap.objs.size f cdv))->Ar (jX (mq P w) P w K mg base N qual (ak st) f cdv A outer s H E) (Fx.fb K H G ca b) E (bN st) m) :
  fq P w K mg base (mq P w) (k + 1) f fd ps (HG K (ps.length - 1) (wI N.length (ps.length - 1) m)):=by
 have hpn:ps.length<=N.length:=by have:=congrArg List.length S.pre;rw[LU] at this;omega
 refine F.A0 S (λvs H Q E h=>?_) (λcdv A outer s H vs Q E hr h=>?_)
 ·obtain⟨b,rest,G,ds,β,rfl,hb,gb,sG,hl,r,_⟩:=h
  rw[Lu,r.len];omega
 ·obtain⟨b,rest,G,ds,β,rfl,hb,gb,sG,hl,r,h⟩:=h
  refine⟨_,hbody cdv A outer s H G b E hr,?_⟩
  have I:=SR.startB (ca:=ca) (N:=N) sG hb gb r (by omega)
  refine⟨_,G,some b,β,I,?_⟩
  unfold wI at h
  rw[KU hl] at h
  have fin':∀{B G' H' σ env β},SR (Fx.fb K H G ca b) B G' H' σ env β->gV (some b) H H'/\H' b=some (.lst [.int β]):=λJ=>by
   have e:=J.fix b rfl
   have k:∀c o,H c=some o->some b≠some c->Kt _ c o:=λc o ec n=>J.keep c o ec λz=>n (show some b=some c by rw[show c=b by simpa using z])
   exact⟨⟨k,λc o u ec=>k c _ ec λz=>by cases z;rw[hb] at ec;cases ec⟩,(J.box b e).1⟩
  cases q:m (xY N.length ds) β with
  |nx env β'=>rw[q] at h;exact λB G' H' σ J s'=>h .non G' H' (fin' J).1 (fin' J).2 s' J.sub (λc h1 h2=>J.new c h1 h2) Rp.non
  |bk env β'=>rw[q] at h;exact h.elim
  |ct env β'=>rw[q] at h;exact h.elim
  |rt d fr β'=>
   rw[q] at h
   refine λB G' H' σ env v J s' rv=>h v G' H' (fin' J).1 (fin' J).2 s' J.sub (λc h1 h2=>J.new c h1 h2) ?_
   cases fr with
   |true=>exact rv
   |false=>exact rv
  |exc c=>rw[q] at h;exact h.elim
  |bad=>rw[q] at h;exact h.elim
def wG {n p:Nat}{m:SF}(ds:List D)(β:Int)(h:wI n p m ds β≠.bad):ds.length=p:=by
 unfold wI at h
 by_cases hl:ds.length=p
 ·exact hl
 ·rw[K0 hl] at h;exact absurd rfl h
end
def a9 (p:Pr):D:=.tuple [.int p.1,.int p.2]
def vm:D->Option Pr
 | .tuple [.int a,.int b]=>some (a,b)
 |_=>none
def CM {d:D}{p:Pr}(h:vm d=some p):d=a9 p:=by
 unfold vm at h
 split at h
 ·cases h;rfl
 ·cases h
def Aa (p:Pr):vm (a9 p)=some p:=rfl
def fA:List D->Option (List Pr)
 | []=>some []
 |d :: ds=>match vm d,fA ds with
  |some p,some ps=>some (p :: ps)
  |_,_=>none
theorem kA:∀{ds:List D} {ps:List Pr},fA ds=some ps->ds=ps.map a9
 | [],ps,h=>by cases h;rfl
 |d :: ds,ps,h=>by
  unfold fA at h
  split at h
  ·rename_i p qs h1 h2;cases h;rw[CM h1,kA h2];rfl
  ·cases h
theorem gE:∀ps:List Pr,fA (ps.map a9)=some ps
 | []=>rfl
 |p :: ps=>by
  show (match vm (a9 p),fA (ps.map a9) with
   |some p,some ps=>some (p :: ps)
   |_,_=>none)=_
  rw[Aa,gE ps]
section
variable {K:Frag}{X:Cx}{G H:Hp}
theorem de.pairs:∀{ps:List Pr} {xs:List V},de K G xs (ps.map a9)->aY K G xs ps
 | [],_,.nil=>.nil
 |p :: ps,_,.cons r t=>by
  cases r with
  |tup hq r=>
   cases r with
   |cons r1 r=>
    cases r with
    |cons r2 r=>cases r;cases r1;cases r2;exact .cons ⟨_,rfl,hq⟩ (de.pairs t)
theorem aY.rps:∀{ps:List Pr} {xs:List V},aY K G xs ps->de K G xs (ps.map a9)
 | [],_,.nil=>.nil
 |p :: ps,_,.cons r t=>by
  obtain⟨a,rfl,q⟩:=r
  exact .cons (.tup q (.cons (.int _) (.cons (.int _) .nil))) (aY.rps t)
def Ho (p:Pr):Bool:=decide (0<=p.1) && decide (p.1 < 8) && decide (0<=p.2) && decide (p.2 < 8)
def FZ {p:Pr}(h:Ho p=true):Sm p:=by
 unfold Ho at h
 simp only[LB,Mq] at h
 exact⟨⟨h.1.1.1,h.1.1.2⟩,h.1.2,h.2⟩
noncomputable def cg (d:D):Option D:=match oH d with
 |some ds=>(match fA ds with
  |some ps=>if ps.all Ho=true/\(OM.bP 8 (OM.Mem ps)).length < 64 then some (.list ((OM.bP 8 (OM.Mem ps)).map a9)) else none
  |none=>none)
 |none=>none
variable {Γ:Fx}{E:XK}{e a b c:Expr}{f fa fb fc:VF D}{L La Lb:List Nat}{md ma mb mc:Md}{pos:Pos}
theorem p6 {p1 p2 pos2:Pos}(hc:X.calm=true)(hu:X.A.units + 64 < cLine)(hK:X.K=Γ.K)(hg:Gl X "sorted")(hm:X.mg "sorted"=none)(hg2:Gl X "set")(hm2:X.mg "set"=none)(ha:SE X Γ E a fa La ma)
  (he:starEach [a] X.env=(false,eval a X.env) :: starEach [] X.env:=by rfl)
  (he2:starEach [.Call (.Name "set" p2) [a] [] pos2] X.env=(false,eval (.Call (.Name "set" p2) [a] [] pos2) X.env) :: starEach [] X.env:=by rfl) :
  SE X Γ E (.Call (.Name "sorted" p1) [.Call (.Name "set" p2) [a] [] pos2] [] pos) (f1 fa cg) La .w:=by
 refine PE.post' (bz (tP hc) hg hm (by decide +kernel) (ay (iV (B7 hc hu) hg2 hm2 (by decide +kernel) (ay ha aU he) (by decide) (by decide) he) aU he2) (by decide) (by decide) he2) λσ H Q ⟨env,G,B,β,I,o⟩=>?_
 refine jH (r:=λx H1 Q=>IF X.prog X.w X.K [x] H1 λy H2=>ve X.prog X.w X.K [y] H2 Q) ?_ I o
 intro B G H x dx d Q s hB bx e k
 rw[hK]
 unfold cg at e
 cases q:oH dx with
 |none=>rw[q] at e;cases e
 |some ds=>
  rw[q] at e
  dsimp only at e
  cases q2:fA ds with
  |none=>rw[q2] at e;cases e
  |some ps=>
   rw[q2] at e
   dsimp only at e
   split at e
   ·rename_i hh
    obtain⟨h1,h2⟩:=hh
    cases e
    obtain⟨p,xs,rfl,hq,r⟩:=bx.seq q s
    rw[kA q2] at r
    have pv:=(r.mono s).pairs
    have sm:∀p,p∈ps->Sm p:=λp hp=>FZ (Mw.mp h1 p hp)
    refine⟨p,xs,ps,rfl,hq,pv,sm,λS qs hS hpv nd hm=>?_⟩
    have qsl:qs.length < 64:=by
     have:(pq qs).length<=(OM.bP 8 (OM.Mem ps)).length:=OM.fD nd λx hx=>by
      have hx':=(hm x).mp hx
      have hs:=sm x hx'
      exact OM.bg.mpr ⟨⟨⟨hs.1.1,hs.1.2⟩,hs.2.1,hs.2.2⟩,hx'⟩
     simp only[Lk] at this
     omega
    have xS:=Ext.own s (o:=zH X.prog X.w S qs) hS
    refine⟨S,qs,rfl,az,hpv.grow (gS.new hS),λp hp=>sm p ((hm p).mp hp),nd,qsl,λl ws rs hl hpw hr hmem=>?_⟩
    have ers:rs=OM.bP 8 (OM.Mem ps):=OM.jo hr (OM.cY _ _) λx=>by
     rw[hmem x,hm x,OM.bg]
     constructor
     ·intro hx;have hs:=sm x hx;exact⟨⟨⟨hs.1.1,hs.1.2⟩,hs.2.1,hs.2.2⟩,hx⟩
     ·intro hx;exact hx.2
    subst ers
    have hlH:H l=none:=by
     by_cases z:l=S
     ·subst z;exact hS
     ·rw[aI z] at hl;exact hl
    have lS:l≠S:=λz=>by subst z;rw[az] at hl;cases hl
    have hh:ax H (upd (upd H S (zH X.prog X.w S qs)) l (.lst ws)):=(ax.new hS).trans (ax.new hl)
    have xx:=Ext.tups s hh
    refine k _ _ _ xx ⟨l,rfl,hlH,?_,ws,az,?_⟩
    ·unfold nH
     rw[s.free hlH,az]
     exact K0 λy=>y
    ·refine aY.rps (Paired.mapP hpw λv p ⟨a,ea,qa⟩=>⟨a,ea,qG (s.trans hh) ?_⟩)
     exact qa.grow (gS.new hl)
   ·cases e
end
section
variable {K:Frag}{X:Cx}{G H:Hp}{Γ:Fx}{E:XK}{e a b c:Expr}{f fa fb fc:VF D}{L La Lb:List Nat}{md ma mb mc:Md}{pos apos cpos np:Pos}
def gH:D->Option D
 | .int n=>if 0<=n/\n<=1000 then some (.list (cw 0 n.toNat)) else none
 |_=>none
def zF (n:Nat):de K G ((List.range n).map λ(i:Nat)=>V.int (i:Int)) (cw 0 n):=by
 have key:∀l:List Nat,de K G (l.map λ(i:Nat)=>V.int (i:Int)) (l.map λ(k:Nat)=>int (0 + k)):=by
  intro l
  induction l with
  |nil=>exact .nil
  |cons x l ih=>exact .cons (by show Rp K G (.int (x:Int)) (.int (0 + (x:Int)));rw[Ml];exact .int _) ih
 exact key _
theorem yg {p1 p2 pos2:Pos}(hc:X.calm=true)(hg:Gl X "list")(hm:X.mg "list"=none)(hg2:Gl X "range")(hm2:X.mg "range"=none)(ha:SE X Γ E a fa La ma)
  (he:starEach [a] X.env=(false,eval a X.env) :: starEach [] X.env:=by rfl)
  (he2:starEach [.Call (.Name "range" p2) [a] [] pos2] X.env=(false,eval (.Call (.Name "range" p2) [a] [] pos2) X.env) :: starEach [] X.env:=by rfl) :
  SE X Γ E (.Call (.Name "list" p1) [.Call (.Name "range" p2) [a] [] pos2] [] pos) (f1 fa gH) La .w:=by
 refine PE.post' (iV (rM hc) hg hm (by decide +kernel) (ay (iV CI hg2 hm2 (by decide +kernel) (ay ha aU he) (by decide) (by decide) he) aU he2) (by decide) (by decide) he2) λσ H Q ⟨env,G,B,β,I,o⟩=>?_
 refine jH (r:=λx H1 Q=>∃n:Int,[x]= [.int n]/\∀p,H1 p=none->(λ(y:V) (H2:Hp)=>∃(p:Addr) (n:Int),[y]= [V.ref p]/\H2 p=some (.oA 0 n)/\0<=n/\n<=1000/\∀l,H2 l=none->Q (.ref l) (upd H2 l (.lst ((List.range n.toNat).map λ(i:Nat)=>V.int (i:Int))))) (V.ref p) (upd H1 p (.oA 0 n))) ?_ I o
 intro B G H x dx d Q s hB bx e k
 cases dx with
 |int n=>
  obtain rfl:=bx.int
  simp only[gH] at e
  split at e
  ·rename_i hh
   cases e
   refine⟨n,rfl,λp hp=>⟨p,n,rfl,az,hh.1,hh.2,λl hl=>?_⟩⟩
   have hlp:l≠p:=λz=>by subst z;rw[az] at hl;cases hl
   have hlH:H l=none:=by rw[aI hlp] at hl;exact hl
   have x1:=Ext.own s (o:=.oA 0 n) hp
   have x2:=Ext.own x1.gh (o:=.lst ((List.range n.toNat).map λ(i:Nat)=>V.int (i:Int))) hl
   exact k _ _ _ (x1.trans x2) ⟨l,rfl,hlH,s.free hlH,_,az,zF _⟩
  ·cases e
 |_=>cases e
def Eg:D->Option D
 | .int i=>some (.int (if i < 0 then -i else i))
 |_=>none
theorem HS:C6 K (λx H Q=>∃i,[x]= [.int i]/\Q (.int (if i < 0 then -i else i)) H) Eg .v:=by
 intro B G H x dx d Q s hB bx e k
 cases dx with
 |int i=>cases e;obtain rfl:=bx.int;exact⟨i,rfl,k _ G H (Ext.refl s) (.int _)⟩
 |_=>cases e
noncomputable def JR (d:D):Option D:=match d with
 | .list ds=>(match fA ds with
  |some ps=>if ps.all Ho=true/\ps.Nodup/\ps.length < 64 then some (.list ((OM.bP 8 (OM.Mem ps)).map a9)) else none
  |none=>none)
 |_=>none
def zx (ds:List D)(k:D):Option (D×List D):=match k with
 | .int i=>if -(2 ^ 63)<=i/\i < 2 ^ 63 then (match seqIndex? i ds.length with
  |some n=>(match ds[n]? with
   |some d=>some (d,ds.eraseIdx n)
   |none=>none)
  |none=>none) else none
 |_=>none
def i5 (i j:Nat)(L:List Nat)(f:VF D):SF:=λenv β=>if xX env[i]? =true/\xX env[j]? =true/\i≠j then toS (f (vl env) β) λk β'=>match (bt L env)[j]? with
 |some (.ow (.list es))=>(match zx es k with
  |some (d,es')=>Hm i ((bt L env).set j (.ow (.list es'))) β' λds=>if ds.length < sizeLine then some (ds ++ [d]) else none
  |none=>.bad)
 |_=>.bad else .bad
theorem de.eraseIdx:∀{xs:List V} {ds:List D} (i:Nat),de K G xs ds->de K G (xs.eraseIdx i) (ds.eraseIdx i)
 |_,_,_,.nil=>.nil
 |_,_,0,.cons _ t=>t
 |_,_,i + 1,.cons r t=>.cons r (de.eraseIdx i t)
theorem Au (i j:Nat){x y:Str}{np2 apos2 cpos2:Pos}(hb:∀j,Γ.br j=false)(he:SE X Γ E e f L md)(hN:X.N[i]? =some x:=by rfl)(hv:y1 X.env.scope x:=by first |exact Or.inl rfl |exact Or.inr (Or.inl rfl) |exact Or.inr (Or.inr rfl))(hd:(x == ("__debug__":Str))=false:=by decide)
  (hcd:(x == ("__classdict__":Str))=false:=by decide)
  (hN2:X.N[j]? =some y:=by rfl) (hv2:y1 X.env.scope y:=by first |exact Or.inl rfl |exact Or.inr (Or.inl rfl) |exact Or.inr (Or.inr rfl)) (hd2:(y == ("__debug__":Str))=false:=by decide)
  (hcd2:(y == ("__classdict__":Str))=false:=by decide)
  (hbase:attributeBase (.Name x np) "append" X.env (eval (.Name x np) X.env)=eval (.Name x np) X.env:=by rfl)
  (hfew:((backTo cpos (starEach [.Call (.Attribute (.Name y np2) "pop" apos2) [e] [] cpos2] X.env)).all (λx=> !x.1) && (backToKw cpos (keywordEach [] X.env)).all (λx=>x.1.isSome)
   && decide ([Expr.Call (.Attribute (.Name y np2) "pop" apos2) [e] [] cpos2].length + ([]:List Keyword).length + (if ([]:List Keyword).isEmpty then 0 else 1) < 30))=true:=by rfl)
  (hline:(apos.endLine == cpos.line)=true:=by rfl) (hs:starEach [.Call (.Attribute (.Name y np2) "pop" apos2) [e] [] cpos2] X.env=(false,eval (.Call (.Attribute (.Name y np2) "pop" apos2) [e] [] cpos2) X.env) :: starEach [] X.env:=by rfl)
  (hbase2:attributeBase (.Name y np2) "pop" X.env (eval (.Name y np2) X.env)=eval (.Name y np2) X.env:=by rfl)
  (hfew2:((backTo cpos2 (starEach [e] X.env)).all (λx=> !x.1) && (backToKw cpos2 (keywordEach [] X.env)).all (λx=>x.1.isSome)
   && decide ([e].length + ([]:List Keyword).length + (if ([]:List Keyword).isEmpty then 0 else 1) < 30))=true:=by rfl)
  (hline2:(apos2.endLine == cpos2.line)=true:=by rfl) (hs2:starEach [e] X.env=(false,eval e X.env) :: starEach [] X.env:=by rfl)
  (hsw:swapsWith (.Call (.Attribute (.Name x np) "append" apos) [.Call (.Attribute (.Name y np2) "pop" apos2) [e] [] cpos2] [] cpos) none pos.line X.env=pure false:=by rfl) :
  SS X Γ E (.Expr (.Call (.Attribute (.Name x np) "append" apos) [.Call (.Attribute (.Name y np2) "pop" apos2) [e] [] cpos2] [] cpos) pos) (i5 i j L f):=by
 refine PS.post (ua (wC Mi PySem.F.slot_list_append PySem.F.type_list_append nz (i4 hN hv hd hcd)
  (ay (wC Mi PySem.F.slot_list_pop PySem.F.type_list_pop CL (i4 hN2 hv2 hd2 hcd2) (ay he aU hs2) hbase2 hfew2 hline2 hs2 rfl) aU hs) hbase hfew hline hs rfl) hsw) λN σ H ⟨env,G,B,β,I,o⟩=>?_
 unfold i5 at o
 by_cases hO:xX env[i]? =true/\xX env[j]? =true/\i≠j
 case neg=>rw[K0 hO] at o;exact o.elim
 rw[KU hO] at o
 obtain⟨hO1,hO2,hij⟩:=hO
 obtain⟨ds0,q0⟩:=uo hO1
 obtain⟨es0,w0⟩:=uo hO2
 obtain⟨p,h1,_,_,_,xs,h5,_⟩:=I.slot i _ q0
 obtain⟨q,k1,_,_,_,ys,k5,_⟩:=I.slot j _ w0
 refine⟨_,h1,.inl ⟨rfl,xs,.inl (.inl h5)⟩,?_⟩
 refine⟨_,k1,.inl ⟨rfl,ys,.inl (.inl k5)⟩,?_⟩
 refine⟨env,G,B,β,I,cE o λkd β' k v G' H' I' s' m' vo=>?_⟩
 cases ej:(bt L env)[j]? with
 |none=>rw[ej] at k;exact k.elim
 |some sj=>
  rw[ej] at k
  cases sj with
  |ow dj=>
   cases dj with
   |list es=>
    dsimp only at k
    cases ep:zx es kd with
    |none=>rw[ep] at k;exact k.elim
    |some pr=>
     obtain⟨d,es'⟩:=pr
     rw[ep] at k
     dsimp only at k
     unfold zx at ep
     cases kd <;> first | (cases ep;done) |skip
     rename_i ii
     dsimp only at ep
     split at ep
     ·rename_i hr
      cases eI:seqIndex? ii es.length with
      |none=>rw[eI] at ep;cases ep
      |some n=>
       rw[eI] at ep
       dsimp only at ep
       cases eD:es[n]? with
       |none=>rw[eD] at ep;cases ep
       |some d0=>
        rw[eD] at ep
        cases ep
        obtain rfl:=(vo.brw I.boxThere).int
        obtain⟨q',g1,_,_,_,zs,g5,g6⟩:=I'.slot j _ ej
        rw[k1] at g1;cases g1
        obtain⟨xv,ex,rx⟩:=g6.at eD
        refine⟨q,zs,ii,n,xv,rfl,rfl,g5,hr.1,hr.2,by rw[g6.len];exact eI,ex,?_⟩
        have I2:=I'.write hb ej k1 (o:=.lst (zs.eraseIdx n)) (d':=.list (es.eraseIdx n)) λH2 e2 s2=>⟨_,e2,g6.eraseIdx n⟩
        obtain⟨ds,fs,eq,eg,k⟩:=zo k
        by_cases hz:ds.length < sizeLine
        case neg=>rw[K0 hz] at eg;cases eg
        rw[KU hz] at eg
        cases eg
        obtain⟨p',f1,_,_,_,us,f5,f6⟩:=I2.slot i _ eq
        rw[h1] at f1;cases f1
        refine⟨p,us,xv,rfl,rfl,f5,by rw[f6.len];exact hz,?_⟩
        exact k B G' _ σ (I2.write hb eq h1 λH2 e2 s2=>⟨_,e2,f6.snoc rx⟩) s'
     ·cases ep
   |_=>exact k.elim
  |_=>exact k.elim
end
def cT:List D->Int->FB
 | [.int m],β=>if 0 < m/\m < 1073741824 then .ok (.int (β % m)) false (β / m) else .bad
 |_,_=>.bad
def zl {ds:List D}{β:Int}(h:cT ds β≠.bad):∃m,ds= [.int m]/\0 < m/\m < 1073741824:=by
 unfold cT at h
 split at h
 ·rename_i m
  by_cases hh:0 < m/\m < 1073741824
  ·exact⟨m,rfl,hh.1,hh.2⟩
  ·rw[K0 hh] at h;exact absurd rfl h
 ·exact absurd rfl h
def tf {m β:Int}(h0:0 < m)(h1:m < 1073741824):cT [.int m] β=.ok (.int (β % m)) false (β / m):=KU ⟨h0,h1⟩
def constsOf:List Expr->Option (List Int)
 | []=>some []
 | .Constant (.int i) _ _ :: es=>(constsOf es).map λr=>i :: r
 |_=>none
def Kj (ns:List Int):VF (List D):=λ_ β=>.ok (ns.map int) β
theorem rV {X:Cx}{Γ:Fx}{E:XK}:∀{es:List Expr} {ns:List Int},constsOf es=some ns->SA X Γ E es (Kj ns) []
 | [],ns,h=>by
  have e:ns= []:=by unfold constsOf at h;exact (Option.some.inj h).symm
  subst e
  exact aq
 |e :: es,ns,h=>by
  unfold constsOf at h
  split at h
  ·cases ‹_ :: _= []›
  ·next i a b es' heq=>
   cases heq
   cases q:constsOf es with
   |none=>rw[q] at h;cases h
   |some r=>
    rw[q] at h
    have e2:i :: r=ns:=Option.some.inj h
    subst e2
    exact ag aE (rV q) rfl
  ·cases h
section
variable {P:Program}{w:World}{K:Frag}{mg:Str->Option Value}{base:Heap}
def Dl {X:Cx}{i j:Nat}{x y:Str}{px py pos:Pos}{k:Nat}(hN:X.N.Nodup)(hi:X.N[i]? =some x)(hj:X.N[j]? =some y)(hx:X.env.scope.names.lookup x=some .local)(hy:X.env.scope.names.lookup y=some .local)(hc:X.calm=true) :
  PG X (.Tuple [.Name x px,.Name y py] k pos) (EG X.K 2 (qr (lu i) (qr (lu j) DQ))):=
 ql hc (cV (cx hN hi (Or.inl hx) (Or.inr hx)) (cV (cx hN hj (Or.inl hy) (Or.inr hy)) mh))
def Bb {b:Addr}{β m:Int}{H:Hp}{Q:VK}{G:Hp}(hb:H b=some (.lst [.int β]))(s:ax G H){p:Addr}(hp:H p=none)
  (kk:∀v G' H',gV (some b) H H'->H' b=some (.lst [.int (β / m)])->ax G G'->ax G' H'->(∀c,Mx H c->G c=none->G' c=none)->FV K H G' H' false (.int (β % m)) v->Q v H') (gb:G b=none) :
  Q (.int (β % m)) (upd (upd H p (.tup [.int (β / m),.int (β % m)])) b (.lst [.int (β / m)])):=by
 have hbp:b≠p:=aM hb hp
 refine kk _ G _ ⟨λc o e n=>Kt.of (by rw[aI (λz=>n (by rw[z])),aI (aM e hp)];exact e),λc o u e=>by rw[aI (λz=>by rw[z,hb] at e;cases e),aI (aM e hp)];exact e⟩ az (ax.refl _) (λc o e=>?_) (λc _ h=>h) (.int _)
 obtain⟨u,eu,_⟩:=(s c o e).some
 exact jY (jY (s c o e) (aM eu hp) λx y w=>by rw[hp] at w;cases w) (λz=>by rw[z,gb] at e;cases e) λx y w=>by rw[aI hbp,hb] at w;cases w
end
def Hv (W:Addr->Str->Prop):Sp:=λvs H Q _=>∃(ea D:Addr) (x:Str),vs= [.ref ea]/\H ea=some (.ext (iN ea (.ref D)))/\W D x/\∀H',ax H H'->Q (.str x) H'
def jt:En->Bool
 | []=>true
 | .no :: env=>jt env
 | .fz _ :: env=>jt env
 |_=>false
theorem gq:∀{env:En} {i:Nat} {s:Sl},jt env=true->env[i]? =some s->s=.no\/∃d,s=.fz d
 | [],_,_,_,e=>by simp at e
 | .no :: env,0,_,_,e=>by simp at e;exact .inl e.symm
 | .fz d :: env,0,_,_,e=>by simp at e;exact .inr ⟨d,e.symm⟩
 | .no :: env,i + 1,s,h,e=>gq (env:=env) h (by simpa using e)
 | .fz d :: env,i + 1,s,h,e=>gq (env:=env) h (by simpa using e)
 | .ow _ :: _,_,_,h,_=>by cases h
 | .br _ :: _,_,_,h,_=>by cases h
 | .bx :: _,_,_,h,_=>by cases h
section
variable {X:Cx}{Γ:Fx}{E:XK}{m:SF}
def SR.drop {B:Option Addr}{G H:Hp}{σ:St}{env:En}{β:Int}(I:SR Γ B G H σ env β)(hf:jt env=true):SR (Fx.fn Γ.K H G Γ.ca) none G H σ env 0:=by
 refine⟨I.sub,ax.refl _,λb _ h=>h,λb o h _=>Kt.of h,λb h=>(by cases h),λb h=>(by cases h),λb h=>(by cases h),I.len,λi s e=>?_,λi j a d e h=>?_⟩
 ·rcases gq hf e with rfl | ⟨d,rfl⟩
  ·trivial
  ·exact I.slot i _ e
 ·rcases gq hf h with z | ⟨_,z⟩ <;> cases z
def SR.undrop {B B':Option Addr}{G H G' H':Hp}{σ σ':St}{env env':En}{β β':Int}(I:SR Γ B G H σ env β)(J:SR (Fx.fn Γ.K H G Γ.ca) B' G' H' σ' env' β'):SR Γ B G' H' σ (List.replicate env.length .no) β:=by
 have kp:∀b o,H b=some o->Kt H' b o:=λb o e=>J.keep b o e (by simp)
 have ks:ax H H':=kp
 refine⟨J.sub,I.old.trans J.old,λb h1 h2=>J.new b (I.thereM h1) (I.new b h1 h2),λb o h1 h2=>(I.keep b o h1 h2).step ks,λb hb=>(I.pin b hb).same (kp b),I.fix,λb e=>?_,by rw[L8];exact I.len,λi s e=>?_,λi j a d e h=>?_⟩
 ·obtain⟨h1,h2,h3⟩:=I.box b e
  exact⟨kp b _ h1,J.new b (Mx.lst h1) h2,h3⟩
 ·rw[Mg (K8 e)];trivial
 ·have:=Mg (K8 h);cases this
def SR.forget {B:Option Addr}{G H H':Hp}{σ:St}{env:En}{β:Int}(I:SR Γ B G H σ env β)(hh:ax H H'):SR Γ B G H' σ env β:=I.ext ⟨hh,ax.refl _,I.sub.trans hh,λ_ _=>rfl⟩
end
structure DU (P:Program)(w:World)(K:Frag)(mg:Str->Option Value)(base:Heap)(ca:Str->Addr)(x y:Str)(marks:Str->Option Str):Prop where
 ex:∃(gm Dc:Addr) (dm:FuncData) (W:Addr->Str->Prop),rR P w K mg base xZ 1 gm dm ["e"] (Hv W)/\mg y=some (.ref gm)/\PySem.W.keepIn K (.ref gm)=true/\Binds K dm ["e"] []/\mg x=some (.ref Dc)/\∀c z,marks c=some z->Mt K (.ref (ca c)) Dc/\W (ca c) z
section
variable {κ:Type}[DecidableEq κ]
def putK (kvs:List (κ×V))(k:κ)(v:V):List (κ×V):=
 if (kvs.any λkv=>decide (kv.1=k))=true then kvs.map (λkv=>if kv.1=k then (kv.1,v) else kv) else kvs ++ [(k,v)]
def wJ (kvs:List (κ×V))(k:κ)(v:V):(putK kvs k v).length<=kvs.length + 1:=by
 unfold putK
 split
 ·rw[Lk];omega
 ·rw[LC,Lu,length_nil];omega
theorem KV.any {kvs:List (κ×V)}{vs:List (κ×Value)}(r:KV kvs vs)(k:κ):(kvs.any λkv=>decide (kv.1=k))=vs.any λkv=>decide (kv.1=k):=by
 unfold KV at r
 induction r with
 |nil=>rfl
 |cons h t ih=>rw[MX,MX,ih,h.1]
theorem KV.repl {kvs:List (κ×V)}{vs:List (κ×Value)}(r:KV kvs vs)(k:κ){y:V}{u:Value}(ry:RelV y u) :
  KV (kvs.map λkv=>if kv.1=k then (kv.1,y) else kv) (vs.map λkv=>if kv.1=k then (kv.1,u) else kv):=by
 unfold KV at r ⊢
 induction r with
 |nil=>exact .nil
 | @cons p q ps qs h t ih=>
  rw[LL,LL]
  refine .cons ?_ ih
  obtain⟨h1,h2⟩:=h
  by_cases e:p.1=k
  ·rw[KU e,KU (h1.symm.trans e)];exact⟨h1,ry⟩
  ·rw[K0 e,K0 (λz=>e (h1.trans z))];exact⟨h1,h2⟩
def KV.put {kvs:List (κ×V)}{vs:List (κ×Value)}(r:KV kvs vs)(k:κ){y:V}{u:Value}(ry:RelV y u):KV (putK kvs k y) (stored vs k u):=by
 unfold putK stored
 rw[r.any k]
 by_cases e:(vs.any λkv=>decide (kv.1=k))=true
 ·rw[KU e,KU e];exact r.repl k ry
 ·rw[K0 e,K0 e];exact Paired.snoc r ⟨rfl,ry⟩
end
theorem Ic {P:Program}{w:World}{k:Key}{u:Value}(r:RelV (kV k) u):(dE P w).is k u=true:=by
 cases k with
 |inl i=>obtain⟨t,e⟩:=(show ∃t,u=Value.int i t from r);subst e;exact vR P w i t
 |inr x=>obtain⟨t,e⟩:=(show ∃t,u=Value.str x t from r);subst e;exact vO P w x t
section
variable {P:Program}{w:World}{H:Hp}{h:Heap}{a:Addr}
def IJ {u:HO}(ok:jS P w H h)(e:Rd H a u):bL P w H h a u:=e.ok ok
def IT {kvs:List (Key×V)}(ok:jS P w H h)(e:Rd H a (.dK kvs)):kvs.length<=sizeLine/\(a == sysModules)=false/\∃vs,KV kvs vs/\h.DictOf (dE P w) a vs:=
 show bL P w H h a (.dK kvs) from IJ ok e
def Ir {kvs:List (Key×V)}(ok:jS P w H h)(e:H a=some (.dK kvs)):kvs.length<=sizeLine/\(a == sysModules)=false/\∃vs,KV kvs vs/\h.DictOf (dE P w) a vs:=IT ok (.inl e)
end
section
variable {X:Cx}{pins:List (Addr×Obj)}{σ:St}{H:Hp}{s:Shared}{a:Addr}{y v:V}{u r:Value}{o:Option V}{A:Around}{E:Value->Shared->Prop}
def Inv.big (I:Inv X pins σ H s):sysModules < s.heap.objs.size:=by
 have h:mainGlobals < s.heap.objs.size:=(I.mod.glob.keeps I.bk).lt
 exact My (by decide) h
def Dv {h':Heap}{t':Nat}{ob:HO}(I:Inv X pins σ H s)(mu:Ik (H a))(hs:Heap.SameBut a s.heap h')(he:∃q,h'.get? a=some q)(new:bL X.prog X.w (upd H a ob) h' a ob) :
  Inv X pins σ (upd H a ob) {s with heap:=h',toks:=t'}:=
 I.write (x:=a) (e:=a) mu (.inl rfl) (λb q hb z=>(hs.2 b hb).trans z) he new
def Hd {P:Program}{w:World}{H':Hp}{h':Heap}{kvs:List (Key×V)}{vs:List (Key×Value)}(z:kvs.length<=sizeLine)(hd:(a == sysModules)=false)(rel:KV kvs vs)(dd:h'.DictOf (dE P w) a vs) :
  bL P w H' h' a (.dK kvs):=⟨z,hd,vs,rel,dd⟩
end
def vI {P:Program}{w:World}{H:Hp}(h:Heap)(hb:sysModules < h.objs.size):bL P w H (h.push {cls:=.type "dict",data:=.dict #[]}) h.objs.size (.dK []):=
 ⟨LD _,beq_eq_false_iff_ne.mpr (Ne.symm (Lr hb)),[],.nil,Heap.DictOf.new h⟩
def GR:TE:=λ_ H Q=>∀p,H p=none->Q (.ref p) (upd H p (.dK []))
section
variable {X:Cx}{pos:Pos}
def Cq:PE X (.Dict [] [] pos) GR:=λpins s σ H Q I h=>
 wpAny_Dict_empty ⟨.ref s.heap.objs.size,_,I.laid (a:=s.heap.objs.size) (o:=.dK []) (t':=s.toks) (λ_ _ q=>KQ _ q) (KR _) (vI s.heap I.big),rfl,h _ (I.hok.fresh (KR _))⟩
end
def xP:List (TE×TE)->St->Hp->(List (V×V)->Hp->Prop)->Prop
 | [],_,H,Q=>Q [] H
 | (tk,tv) :: r,σ,H,Q=>tk σ H λx H1=>tv σ H1 λy H2=>xP r σ H2 λps H3=>Q ((x,y) :: ps) H3
abbrev VV:List (V×V)->List (Value×Value)->Prop:=Paired λp q=>RelV p.1 q.1/\RelV p.2 q.2
def Jm (X:Cx)(pos:Pos)(keys:List (Option Expr))(values:List Expr)(trs:List (TE×TE)):Prop:=
 ∀(pins:List (Addr×Obj)) (s:Shared) (σ:St) (H:Hp) (Q:List (V×V)->Hp->Prop),Inv X pins σ H s->xP trs σ H Q->
  wpAny (model X.prog X.w) X.A (evalPairs (pairTrees keys values X.env pos)) (λvs s'=>∃ps H',Inv X pins σ H' s'/\VV ps vs/\Q ps H') X.xe s
def EI {X:Cx}{pos:Pos}:Jm X pos [] [] []:=λpins s σ H Q I h=>pairTrees_nil_walk ⟨[],H,I,.nil,h⟩
def CH {X:Cx}{pos:Pos}{k v:Expr}{ks:List (Option Expr)}{vs:List Expr}{tk tv:TE}{trs:List (TE×TE)}(hk:PE X k tk)(hv:PE X v tv)(hr:Jm X pos ks vs trs) :
  Jm X pos (some k :: ks) (v :: vs) ((tk,tv) :: trs):=λpins s σ H Q I h=>
 pairTrees_cons_walk (cq (hk pins s σ H _ I h) λu s1 ⟨x,H1,I1,rx,q1⟩=>cq (hv pins s1 σ H1 _ I1 q1) λw2 s2 ⟨y,H2,I2,ry,q2⟩=>
  cq (hr pins s2 σ H2 _ I2 q2) λws s3 ⟨ps,H3,I3,rel,q3⟩=>⟨(x,y) :: ps,H3,I3,.cons ⟨rx,ry⟩ rel,q3⟩)
def pC (kvs more:List (Key×V)):List (Key×V):=more.foldl (λacc kv=>putK acc kv.1 kv.2) kvs
theorem KV.merge:∀{more:List (Key×V)} {rs:List (Key×Value)} {kvs:List (Key×V)} {vs:List (Key×Value)},KV more rs->KV kvs vs->KV (pC kvs more) (merged vs rs):=by
 intro more rs kvs vs r
 unfold KV at r
 induction r generalizing kvs vs with
 |nil=>intro q;exact q
 | @cons p q ps qs h t ih=>
  intro r0
  have e:KV (putK kvs p.1 p.2) (stored vs q.1 q.2):=by
   have:=r0.put p.1 h.2
   rw[<-h.1];exact this
  exact ih e
theorem ll:∀(more kvs:List (Key×V)),(pC kvs more).length<=kvs.length + more.length
 | [],kvs=>by show kvs.length<=kvs.length + 0;omega
 |p :: r,kvs=>by
  have h1:=ll r (putK kvs p.1 p.2)
  have h2:=wJ kvs p.1 p.2
  show (pC (putK kvs p.1 p.2) r).length<=_
  rw[Lu];omega
theorem pF {P:Program}{w:World}:∀{kvs:List (Key×V)} {ws:List (Value×Value)},VV (kvs.map λkv=>(kV kv.1,kv.2)) ws->∃rs,Carries (dE P w) ws rs/\KV kvs rs
 | [],_,r=>by rw[List.map_nil] at r;cases r;exact⟨[],True.intro,.nil⟩
 |p :: kvs,_,r=>by
  rw[LL] at r
  cases r with
  | @cons a b as bs h t=>
   obtain⟨rs,c,q⟩:=pF (P:=P) (w:=w) t
   obtain⟨b1,b2⟩:=b
   exact⟨(p.1,b2) :: rs,⟨Ic h.1,rfl,c⟩,.cons ⟨rfl,h.2⟩ q⟩
def HW (trs:List (TE×TE)):TE:=λσ H Q=>∀p,H p=none->xP trs σ (upd H p (.dK [])) λps H2=>H2 p=some (.dK [])/\∃kvs:List (Key×V),ps=kvs.map (λkv=>(kV kv.1,kv.2))/\kvs.length<=15/\Q (.ref p) (upd H2 p (.dK (pC [] kvs)))
def Dr {X:Cx}{pos:Pos}{keys:List (Option Expr)}{values:List Expr}{trs:List (TE×TE)}(h:Jm X pos keys values trs)(hall:keys.all (·.isSome)=true)(hl:keys.length=values.length)(h0:keys≠ [])
  (h15:keys.length<=15):PE X (.Dict keys values pos) (HW trs):=by
 intro pins s σ H Q I q
 have hn:=I.hok.fresh (KR s.heap.objs.size)
 have I1:=I.laid (a:=s.heap.objs.size) (o:=.dK []) (h':=s.heap.push {cls:=.type "dict",data:=.dict #[]}) (t':=s.toks) (λ_ _ q=>KQ _ q) (KR _) (vI s.heap I.big)
 refine wpAny_Dict_walk (knd:=dE X.prog X.w) hall hl h0 h15 (cq (h pins _ σ _ _ I1 (q _ hn)) λws s2 ⟨ps,H2,I2,rel,e,kvs,ep,lk,q2⟩=>?_)
 subst ep
 obtain⟨rs,c,rk⟩:=pF (P:=X.prog) (w:=X.w) rel
 obtain⟨z,hd,vs0,r0,dd⟩:=Ir I2.hok e
 cases r0
 refine⟨rs,c,dd,λh' dd' hs=>⟨.ref s.heap.objs.size,_,?_,rfl,q2⟩⟩
 have hz:(pC [] kvs).length<=sizeLine:=by
  have h1:=ll kvs []
  rw[length_nil] at h1
  rw[Lo];omega
 have he:∃q,h'.get? s.heap.objs.size=some q:=let ⟨q,_,_,hq,_⟩:=dd';⟨q,hq⟩
 exact Dv I2 (by rw[e];exact True.intro) hs he (Hd hz hd (rk.merge .nil) dd')
section
variable {X:Cx}{Γ:Fx}{E:XK}{pos:Pos}
def DC {k:Str}{i:Int}{j j'}{p p':Pos}:SE X Γ E (.Dict [some (.Constant (.str k) j p)] [.Constant (.int i) j' p'] pos) (cst (.dict [(.str k,.int i)])) [] .v:=by
 refine PE.post' (Dr (CH p4 p8 EI) rfl rfl (by simp) (by simp)) ?_
 rintro σ H Q ⟨env,G,B,β,I,o⟩ p hp
 have o:∀v G' H',SR Γ B G' H' σ (bt [] env) β->ax G G'->gV B H H'->Rp Γ.K G' v (.dict [(.str k,.int i)])->Q v H':=o
 refine⟨az,[(.inr k,.int i)],rfl,by simp,?_⟩
 rw[Dd]
 have xn:=Ext.new I.sub (o:=.dK [((.inr k:Key),V.int i)]) hp
 exact o _ _ _ (I.ext xn) xn.gg (xn.hh.mov B) (.dK (kvs:=[((.inr k:Key),V.int i)]) az (.cons (.int i) .nil))
end
end L2
namespace L2
open PySem PySem.Spec PyProof.Rows PySem.MeetsSeq PySem.MeetsSeq2 PySem.MeetsSeq3
def Ff (K:Frag):R2:=λx y H Q=>∃a b xs ys,x=.ref a/\y=.ref b/\gj K H a xs/\gj K H b ys/\xs.length + ys.length<=sizeLine/\
 (xs= []->Q (.ref b) H)/\(xs≠ []->ys= []->Q (.ref a) H)/\(xs≠ []->ys≠ []->∀p,H p=none->Q (.ref p) (upd H p (.tup (xs ++ ys))))
section
variable {X:Cx}
def BL:me X (binaryOp .Add) (Ff X.K):=by
 intro pins s σ H x y v u Q I rx ry h
 obtain⟨a,b,xs,ys,rfl,rfl,ha,hb,hz,q0,q1,q2⟩:=h
 by_cases hx:xs= []
 ·cases rx
  cases ry
  obtain⟨its,r1,p1,_⟩:=I.tuple ha
  obtain⟨its2,r2,p2,_⟩:=I.tuple hb
  obtain⟨⟨cls,dd,data,sl⟩,ho,hc,n,hd⟩:=id p1
  obtain⟨⟨cls2,dd2,data2,sl2⟩,ho2,hc2,n2,hd2⟩:=id p2
  simp only at hc hd hc2 hd2
  subst hc hd hc2 hd2
  have he:its= []:=r1.nil_iff.mpr hx
  exact concat_meets ⟨_,ho,rfl⟩ ⟨_,ho2,rfl⟩ noFill_tuple_add seq_tuple_add PySem.F.slot_tuple_add PySem.F.entry_tuple_add (M7 _ _)
   (tuple_addW0 a b its.toArray its2.toArray n n2 dd dd2 sl sl2 (by simp[he])) ⟨ho,ho2,.ref b,H,I,rfl,q0 hx⟩
 ·exact D8 pins s σ H _ _ v u Q I rx ry ⟨a,b,xs,ys,rfl,rfl,ha,hb,hx,hz,q1 hx,q2 hx⟩
end
def zq:D->D->Option D
 | .tuple a,.tuple b=>if a.length + b.length<=sizeLine then some (.tuple (a ++ b)) else none
 |_,_=>none
def Gs {K:Frag}:oJ K (Ff K) zq .v:=by
 intro B G H x y dx dy d Q s hB bx by' e k
 cases dx <;> cases dy <;> first | (cases e;done) |skip
 rename_i a b
 simp only[zq] at e
 split at e
 ·rename_i hz
  cases e
  rcases bx with bx | ⟨_,_,_,q⟩
  case inr=>exact q.elim
  rcases by' with by' | ⟨_,_,_,q⟩
  case inr=>exact q.elim
  cases bx with
  | @tup p xs _ hp r1=>
   cases by' with
   | @tup q ys _ hq r2=>
    refine⟨p,q,xs,ys,rfl,rfl,hp.grow s.grow,hq.grow s.grow,by rw[r1.len,r2.len];exact hz,λz=>?_,λz z'=>?_,λ_ _ l hl=>?_⟩
    ·subst z
     cases r1
     exact k _ G H (Ext.refl s) (.tup hq r2)
    ·subst z'
     cases r2
     rw[MF] at k
     exact k _ G H (Ext.refl s) (.tup hp r1)
    ·have xn:=Ext.new s (o:=.tup (xs ++ ys)) hl
     exact k _ _ _ xn (.tup (.inl (.inl az)) ((r1.append r2).mono xn.gg))
 ·cases e
end L2
namespace L2
open PySem PySem.Spec PyProof.Rows
def isStar:Expr->Bool
 | .Starred _ _=>true
 |_=>false
def zZ {a:Expr}{es:List Expr}{env:Env}(h:isStar a=false):starEach (a :: es) env=(false,eval a env) :: starEach es env:=by
 cases a <;> first |rfl |cases h
def FU (sc:Scope)(x:Str):Bool:=match sc.names.lookup x with
 |some .local=>true
 |some .cell=>true
 |some .free=>true
 |_=>false
def DO {sc:Scope}{x:Str}(h:FU sc x=true):y1 sc x:=by
 unfold FU at h
 unfold y1
 split at h
 ·exact .inl (by assumption)
 ·exact .inr (.inl (by assumption))
 ·exact .inr (.inr (by assumption))
 ·cases h
def uV (N:List Str)(sc:Scope):List (Str×Nat)->Bool
 | []=>true
 | (x,i) :: r=>decide (N[i]? =some x) && (FU sc x && ((!(x == ("__debug__":Str))) && ((!(x == ("__classdict__":Str))) && uV N sc r)))
theorem yY {N:List Str}{sc:Scope}:∀{l:List (Str×Nat)} {x:Str} {i:Nat},uV N sc l=true->l.lookup x=some i->N[i]? =some x/\y1 sc x/\(x == ("__debug__":Str))=false/\(x == ("__classdict__":Str))=false
 | [],_,_,_,h=>by cases h
 | (y,j) :: r,x,i,h,e=>by
  simp only[uV,LB,Mq,Nc] at h
  obtain⟨h1,h2,h3,h4,h5⟩:=h
  rw[MC] at e
  split at e
  ·rename_i q
   have q:x=y:=by simpa using q
   subst q
   cases e
   exact⟨h1,DO h2,h3,h4⟩
  ·exact yY h5 e
def Ap:Expr->Option Int
 | .Constant (.int i) _ _=>some i
 |_=>none
theorem oM {e:Expr}{i:Int}(h:Ap e=some i):∃j p,e=.Constant (.int i) j p:=by
 cases e with
 |Constant c j p=>cases c <;> first | (cases h;exact⟨_,_,rfl⟩) |cases h
 |_=>cases h
def Jw (op:UnaryOp)(e:Expr):Option Int:=match op with
 | .USub=>Ap e
 |_=>none
def E3:Operator->Bool
 | .Pow=>true
 |_=>false
def CA {o:Operator}(h:E3 o=true):o=.Pow:=by cases o <;> first |rfl |cases h
def GB (ks:List (Option Expr))(vs:List Expr):Option (Str×Int):=match ks,vs with
 | [some (.Constant (.str k) _ _)],[v]=>(Ap v).map λi=>(k,i)
 |_,_=>none
def Dm {ks:List (Option Expr)}{vs:List Expr}{r:Str×Int}(h:GB ks vs=some r):∃j p j' p',ks= [some (.Constant (.str r.1) j p)]/\vs= [.Constant (.int r.2) j' p']:=by
 unfold GB at h
 split at h
 ·rename_i k j p v
  cases q:Ap v with
  |none=>rw[q] at h;cases h
  |some i=>
   rw[q] at h
   cases h
   obtain⟨j',p',rfl⟩:=oM q
   exact⟨_,_,_,_,rfl,rfl⟩
 ·cases h
def Jz:Const->Option D
 | .int i=>some (.int i)
 | .bool b=>some (.bool b)
 | .none=>some .none
 | .str x=>some (.str x)
 |_=>none
mutual
def rD (nm:List (Str×Nat)):Expr->Option (VF D×List Nat)
 | .Name x _=>(nm.lookup x).map λi=>(gv i,[i])
 | .Constant c _ _=>(Jz c).map λd=>(cst d,[])
 | .UnaryOp op a _=>(Jw op a).map λi=>(cst (.int (-i)),[])
 | .BinOp a o b _=>if E3 o=true then (Ap a).bind λi=>(Ap b).map λj=>(f2 (cst (.int i)) (cst (.int j)) HJ,[]) else none
 | .Dict ks vs _=>(GB ks vs).map λr=>(cst (.dict [(.str r.1,.int r.2)]),[])
 | .Tuple es _ _=>(EW nm es).map λr=>(a7 r.1,r.2)
 | .List es _=>(EW nm es).map λr=>(cy r.1,r.2)
 | .BoolOp ..=>none
 | .NamedExpr ..=>none
 | .Lambda ..=>none
 | .IfExp ..=>none
 | .Set ..=>none
 | .ListComp ..=>none
 | .SetComp ..=>none
 | .DictComp ..=>none
 | .GeneratorExp ..=>none
 | .Await ..=>none
 | .Yield ..=>none
 | .YieldFrom ..=>none
 | .Compare ..=>none
 | .Call ..=>none
 | .FormattedValue ..=>none
 | .JoinedStr ..=>none
 | .Attribute ..=>none
 | .Subscript ..=>none
 | .Starred ..=>none
 | .Slice ..=>none
def EW (nm:List (Str×Nat)):List Expr->Option (VF (List D)×List Nat)
 | []=>some (ao,[])
 |e :: es=>(rD nm e).bind λr=>(EW nm es).map λq=>(ae r.1 q.1,r.2 ++ q.2)
end
section
variable {X:Cx}{Γ:Fx}{E:XK}{nm:List (Str×Nat)}
theorem ky {α β:Type}{o:Option α}{f:α->β}{b:β}(h:o.map f=some b):∃a,o=some a/\f a=b:=by
 cases o with
 |none=>cases h
 |some a=>exact⟨a,rfl,Option.some.inj h⟩
theorem yW {α β:Type}{o:Option α}{f:α->Option β}{b:β}(h:o.bind f=some b):∃a,o=some a/\f a=some b:=by
 cases o with
 |none=>cases h
 |some a=>exact⟨a,rfl,h⟩
mutual
theorem Fc (hc:uV X.N X.env.scope nm=true)(hb:∀i,Γ.br i=false):∀{e:Expr} {f:VF D} {L:List Nat},rD nm e=some (f,L)->SE X Γ E e f L .v/\isStar e=false
 | .Name x p,f,L,h=>by
  rw[rD] at h
  obtain⟨i,q,e⟩:=ky h
  cases e
  obtain⟨h1,h2,h3,h4⟩:=yY hc q
  exact⟨aF i (hb i) h1 h2 h3 h4,rfl⟩
 | .Constant c j p,f,L,h=>by
  rw[rD] at h
  obtain⟨d,q,e⟩:=ky h
  cases e
  cases c <;> first | (cases q;first |exact⟨aE,rfl⟩ |exact⟨l7,rfl⟩ |exact⟨cu,rfl⟩ |exact⟨lV,rfl⟩) |cases q
 | .UnaryOp op a p,f,L,h=>by
  rw[rD] at h
  obtain⟨i,q,e⟩:=ky h
  cases e
  cases op <;> first | (cases q;done) |skip
  obtain⟨j,p,rfl⟩:=oM q
  exact⟨E6 CT EY aE,rfl⟩
 | .BinOp a op b p,f,L,h=>by
  rw[rD] at h
  split at h
  ·rename_i ho
   obtain rfl:=CA ho
   obtain⟨i,q,h⟩:=yW h
   obtain⟨j,q2,e⟩:=ky h
   cases e
   obtain⟨j1,p1,rfl⟩:=oM q
   obtain⟨j2,p2,rfl⟩:=oM q2
   exact⟨bO Gd Iu aE aE,rfl⟩
  ·cases h
 | .Dict ks vs p,f,L,h=>by
  rw[rD] at h
  obtain⟨r,q,e⟩:=ky h
  cases e
  obtain⟨_,_,_,_,rfl,rfl⟩:=Dm q
  exact⟨DC,rfl⟩
 | .Tuple es c p,f,L,h=>by
  rw[rD] at h
  obtain⟨r,q,e⟩:=ky h
  cases e
  exact⟨dM (sZ hc hb q),rfl⟩
 | .List es p,f,L,h=>by
  rw[rD] at h
  obtain⟨r,q,e⟩:=ky h
  cases e
  exact⟨SE.wv (dS (sZ hc hb q)),rfl⟩
 | .BoolOp ..,_,_,h=>by rw[rD] at h;cases h
 | .NamedExpr ..,_,_,h=>by rw[rD] at h;cases h
 | .Lambda ..,_,_,h=>by rw[rD] at h;cases h
 | .IfExp ..,_,_,h=>by rw[rD] at h;cases h
 | .Set ..,_,_,h=>by rw[rD] at h;cases h
 | .ListComp ..,_,_,h=>by rw[rD] at h;cases h
 | .SetComp ..,_,_,h=>by rw[rD] at h;cases h
 | .DictComp ..,_,_,h=>by rw[rD] at h;cases h
 | .GeneratorExp ..,_,_,h=>by rw[rD] at h;cases h
 | .Await ..,_,_,h=>by rw[rD] at h;cases h
 | .Yield ..,_,_,h=>by rw[rD] at h;cases h
 | .YieldFrom ..,_,_,h=>by rw[rD] at h;cases h
 | .Compare ..,_,_,h=>by rw[rD] at h;cases h
 | .Call ..,_,_,h=>by rw[rD] at h;cases h
 | .FormattedValue ..,_,_,h=>by rw[rD] at h;cases h
 | .JoinedStr ..,_,_,h=>by rw[rD] at h;cases h
 | .Attribute ..,_,_,h=>by rw[rD] at h;cases h
 | .Subscript ..,_,_,h=>by rw[rD] at h;cases h
 | .Starred ..,_,_,h=>by rw[rD] at h;cases h
 | .Slice ..,_,_,h=>by rw[rD] at h;cases h
theorem sZ (hc:uV X.N X.env.scope nm=true)(hb:∀i,Γ.br i=false):∀{es:List Expr} {f:VF (List D)} {L:List Nat},EW nm es=some (f,L)->SA X Γ E es f L
 | [],f,L,h=>by rw[EW] at h;cases h;exact aq
 |e :: es,f,L,h=>by
  rw[EW] at h
  obtain⟨r,q,h⟩:=yW h
  obtain⟨r2,q2,e⟩:=ky h
  cases e
  obtain⟨a,b⟩:=Fc hc hb q
  exact ag a (sZ hc hb q2) (zZ b)
end
def EJ {es:List Expr}{p:Pos}{t:Option Expr}{l:Nat}{env:Env}:swapsWith (.List es p) t l env=pure false:=rfl
def Fm {e:Expr}{f:VF D}{L:List Nat}(nm:List (Str×Nat))(hc:uV X.N X.env.scope nm=true)(hb:∀i,Γ.br i=false)(h:rD nm e=some (f,L)):SE X Γ E e f L .v:=(Fc hc hb h).1
def IC {es:List Expr}{f:VF (List D)}{L:List Nat}{pos:Pos}(nm:List (Str×Nat))(hc:uV X.N X.env.scope nm=true)(hb:∀i,Γ.br i=false)(h:EW nm es=some (f,L)):SE X Γ E (.List es pos) (cy f) L .w:=dS (sZ hc hb h)
def Hw {i:Nat}{x:Str}{es:List Expr}{f:VF (List D)}{L:List Nat}{pos' p pos:Pos}(nm:List (Str×Nat))(hc:uV X.N X.env.scope nm=true)(hb:∀i,Γ.br i=false)(h:EW nm es=some (f,L))(hN:X.N.Nodup)(hi:X.N[i]? =some x)(hx:Loc X.env.scope x)(hf:X.fn x=true\/X.env.scope.names.lookup x=some .local) :
  SS X Γ E (.Assign [.Name x pos'] (.List es p) pos) (b6 i L (cy f)):=bG (SE.wv (IC nm hc hb h)) hN hi hx EJ hf
end
end L2
namespace L2
open PySem
section
variable {α γ:Type}
@[simp] theorem lR (a:α)(β:Int)(k:α->Int->R γ):(R.ok a β).bnd k=k a β:=rfl
@[simp] theorem Jo (c:Str)(k:α->Int->R γ):(R.exc c:R α).bnd k=.exc c:=rfl
@[simp] theorem Jj (k:α->Int->R γ):(R.bad:R α).bnd k=.bad:=rfl
@[simp] theorem JG (a:α)(β:Int)(k:α->Int->R γ):(R.ok a β).okb k=k a β:=rfl
@[simp] theorem uc (a:α)(β:Int):R.of (some a) β=.ok a β:=rfl
@[simp] theorem of_none (β:Int):(R.of none β:R α)=.bad:=rfl
@[simp] theorem J4 (a:α)(β:Int)(k:α->Int->SO):toS (.ok a β) k=k a β:=rfl
@[simp] theorem Jk (c:Str)(k:α->Int->SO):toS (.exc c:R α) k=.exc c:=rfl
@[simp] theorem Jq (k:α->Int->SO):toS (.bad:R α) k=.bad:=rfl
end
section
variable (f fa fb fc:VF D)(t u:VF Bool)(m m':SF)(vs:List Nv)(β:Int)(env:En)(i j:Nat)(L:List Nat)
@[simp] theorem Fs:gv i vs β=R.of (dat vs[i]?) β:=rfl
@[simp] theorem xR (d:D):dat (some (.da d))=some d:=rfl
@[simp] theorem JC (d:D):cst d vs β=.ok d β:=rfl
@[simp] theorem Km (g:D->Option D):f1 fa g vs β=(fa vs β).bnd λx β1=>R.of (g x) β1:=rfl
@[simp] theorem Kn (g:D->D->Option D):f2 fa fb g vs β=(fa vs β).bnd λx β1=>(fb vs β1).bnd λy β2=>R.of (g x y) β2:=rfl
@[simp] theorem yz:ao vs β=.ok [] β:=rfl
@[simp] theorem dJ (fr:VF (List D)):ae fa fr vs β=(fa vs β).bnd λx β1=>(fr vs β1).bnd λxs β2=>.ok (x :: xs) β2:=rfl
@[simp] theorem nh:vG fa vs β=(fa vs β).bnd λx β1=>R.of (Gu x) β1:=rfl
@[simp] theorem nI:xG t vs β=(t vs β).bnd λc β1=>.ok (!c) β1:=rfl
@[simp] theorem J1:KI t u vs β=(t vs β).bnd λc β1=>if c=true then u vs β1 else .ok false β1:=rfl
@[simp] theorem lZ:qQ t u vs β=(t vs β).bnd λc β1=>if c=true then .ok true β1 else u vs β1:=rfl
@[simp] theorem Ku (n:Bool):tN fa n vs β=(fa vs β).bnd λx β1=>.ok (if n then !EA x else EA x) β1:=rfl
@[simp] theorem JT:KC t fa fb vs β=(t vs β).bnd λc β1=>if c=true then fa vs β1 else fb vs β1:=rfl
@[simp] theorem sR (c:Bool){β1:Int}(h:fa vs β=.ok (.bool c) β1):dr fa vs β=.ok c β1:=by unfold dr;rw[h];rfl
@[simp] theorem wX:vl []= []:=rfl
@[simp] theorem uM (s:Sl):vl (s :: env)=s.val :: vl env:=rfl
@[simp] theorem yr (d:D):(Sl.fz d).val=.da d:=rfl
@[simp] theorem JW (d:D):(Sl.ow d).val=.da d:=rfl
@[simp] theorem JL:Sl.no.val=.no:=rfl
@[simp] theorem J9:Sl.bx.val=.bx:=rfl
@[simp] theorem Jn:bt [] env=env:=rfl
@[simp] theorem IU:bt (i :: L) env=bt L (iJ env i):=rfl
@[simp] theorem Jl:aV m m' env β=(match m env β with
 | .nx env' β'=>m' env' β'
 |r=>r):=rfl
@[simp] theorem Kc:fx L t m m' env β=toS (t (vl env) β) λc β'=>if c=true then m (bt L env) β' else m' (bt L env) β':=rfl
@[simp] theorem Et:cX f env β=toS (f (vl env) β) λd β'=>.rt d false β':=rfl
@[simp] theorem IW:mQ f env β=toS (f (vl env) β) λd β'=>.rt d true β':=rfl
@[simp] theorem J6:uT env β=.nx env β:=rfl
@[simp] theorem Jg:b6 i L f env β=toS (f (vl env) β) λd β'=>.nx ((bt L env).set i (.fz d)) β':=rfl
@[simp] theorem Hr:wA i L f env β=toS (f (vl env) β) λd β'=>.nx ((bt L env).set i (.ow d)) β':=rfl
@[simp] theorem Ja:aR L f env β=toS (f (vl env) β) λ_ β'=>.nx (bt L env) β':=rfl
end
def aZ {m m':SF}{env env':En}{β β':Int}(h:m env β=.nx env' β'):aV m m' env β=m' env' β':=by unfold aV;rw[h]
def kI {m m':SF}{env:En}{β β':Int}{d:D}{b:Bool}(h:m env β=.rt d b β'):aV m m' env β=.rt d b β':=by unfold aV;rw[h]
def kl {m m':SF}{env:En}{β:Int}{c:Str}(h:m env β=.exc c):aV m m' env β=.exc c:=by unfold aV;rw[h]
def bD {L:List Nat}{t:VF Bool}{m m':SF}{env:En}{β β':Int}(h:t (vl env) β=.ok true β'):fx L t m m' env β=m (bt L env) β':=by unfold fx;rw[h];rfl
def au {L:List Nat}{t:VF Bool}{m m':SF}{env:En}{β β':Int}(h:t (vl env) β=.ok false β'):fx L t m m' env β=m' (bt L env) β':=by unfold fx;rw[h];rfl
def cj {F:List D->FR}{fr:VF (List D)}{vs:List Nv}{β β1:Int}{ds:List D}{d:D}{b:Bool}(h:fr vs β=.ok ds β1)(e:F ds=.ok d b):aA F fr vs β=.ok d β1:=by unfold aA;rw[h];dsimp only[R.bnd];rw[e]
def ar {F:List D->FR}{fr:VF (List D)}{vs:List Nv}{β β1:Int}{ds:List D}{c:Str}(h:fr vs β=.ok ds β1)(e:F ds=.exc c):aA F fr vs β=.exc c:=by unfold aA;rw[h];dsimp only[R.bnd];rw[e]
def CF {F:List D->FR}{fr:VF (List D)}{vs:List Nv}{β β1:Int}{ds:List D}{d:D}(h:fr vs β=.ok ds β1)(e:F ds=.ok d true):va F fr vs β=.ok d β1:=by unfold va;rw[h];dsimp only[R.bnd];rw[e]
def jT {fa:VF D}{g:D->Option D}{vs:List Nv}{β β1:Int}{x d:D}(h:fa vs β=.ok x β1)(e:g x=some d):f1 fa g vs β=.ok d β1:=by unfold f1;rw[h];dsimp only[R.bnd];rw[e];rfl
def bp {fa fb:VF D}{g:D->D->Option D}{vs:List Nv}{β β1 β2:Int}{x y d:D}(h:fa vs β=.ok x β1)(h':fb vs β1=.ok y β2)(e:g x y=some d):f2 fa fb g vs β=.ok d β2:=by unfold f2;rw[h];dsimp only[R.bnd];rw[h'];dsimp only[R.bnd];rw[e];rfl
def ly {i:Nat}{F:List D->Int->FB}{fr:VF (List D)}{vs:List Nv}{β β1 β2:Int}{ds:List D}{d:D}{b:Bool}(hi:xA vs i=true)(h:fr vs β=.ok ds β1)(e:F ds β1=.ok d b β2):oi i F fr vs β=.ok d β2:=by unfold oi;rw[KU hi,h];dsimp only[R.bnd];rw[e]
def sz (n:Nat)(h:n<=1000):n<=sizeLine:=by rw[Lo];omega
def Il (n:Nat)(h:n<=1000):n < sizeLine:=by rw[Lo];omega
def oY {fr:VF (List D)}{vs:List Nv}{β β1:Int}{ds:List D}(h:fr vs β=.ok ds β1)(hz:ds.length<=1000):a7 fr vs β=.ok (.tuple ds) β1:=by unfold a7;rw[h];exact KU (sz _ hz)
def hE {fr:VF (List D)}{vs:List Nv}{β β1:Int}{ds:List D}(h:fr vs β=.ok ds β1)(hz:ds.length<=1000):cy fr vs β=.ok (.list ds) β1:=by unfold cy;rw[h];exact KU (sz _ hz)
def BE {i:Nat}{env:En}{β:Int}{g:List D->Option (List D)}{ds es:List D}(h:env[i]? =some (.ow (.list ds)))(e:g ds=some es):Hm i env β g=.nx (env.set i (.ow (.list es))) β:=by unfold Hm;rw[h];dsimp only;rw[e]
def EL {i:Nat}{L:List Nat}{f:VF D}{env:En}{β β':Int}{ds:List D}{d:D}(hi:env[i]? =some (.ow (.list ds)))(hf:f (vl env) β=.ok d β')(hL:(bt L env)[i]? =some (.ow (.list ds)))(hz:ds.length<=1000):x8 i L f env β=.nx ((bt L env).set i (.ow (.list (ds ++ [d])))) β':=by
 unfold x8
 rw[KU (by rw[hi];rfl),hf]
 exact BE hL (KU (Il _ hz))
def wU {i j:Nat}{L:List Nat}{f:VF D}{env:En}{β β':Int}{ds es es':List D}{k d:D}(hi:env[i]? =some (.ow (.list ds)))(hj:env[j]? =some (.ow (.list es)))(hij:i≠j)(hf:f (vl env) β=.ok k β')(hL:bt L env=env)(hp:zx es k=some (d,es'))(hz:ds.length<=1000):i5 i j L f env β=.nx ((env.set j (.ow (.list es'))).set i (.ow (.list (ds ++ [d])))) β':=by
 unfold i5
 rw[KU ⟨by rw[hi];rfl,by rw[hj];rfl,hij⟩,hf,hL]
 dsimp only[toS]
 rw[hj]
 dsimp only
 rw[hp]
 exact BE (by rw[K5 (Ne.symm hij)];exact hi) (KU (Il _ hz))
def qw {α:Type}{own:Nat}{ixs:List Nat}{t:Tg}{fi:VF (List D)}{fe:VF D}{vs:List Nv}{β β1:Int}{l:List α}{e:α->D}(h:α->D)(hi:fi vs β=.ok (l.map e) β1)(hz:l.length<=1000)
  (hh:∀x,x∈l->∃vs1,vk t (e x) (hG own ixs vs)=some vs1/\fe vs1 β1=.ok (h x) β1):bV own ixs t fi AW fe vs β=.ok (.list (l.map h)) β1:=by
 unfold bV
 rw[hi]
 dsimp only[R.bnd]
 rw[KU (sz _ (by rw[Lk];exact hz))]
 have key:∀m:List α,(∀x,x∈m->x∈l)->iQ t AW fe (hG own ixs vs) (m.map e) β1=.ok (m.map h) β1:=by
  intro m
  induction m with
  |nil=>intro _;rfl
  |cons x m ih=>
   intro hm
   obtain⟨vs1,e1,e2⟩:=hh x (hm x (K3 ..))
   rw[LL]
   unfold iQ
   rw[e1]
   dsimp only
   show (R.ok true β1).okb _=_
   dsimp only[R.okb]
   rw[KU rfl,e2]
   dsimp only
   rw[ih λy hy=>hm y (KW _ hy)];rfl
 rw[key l λ_ h=>h];rfl
def xk {α:Type}{own:Nat}{ixs:List Nat}{t:Tg}{fi:VF (List D)}{ft:VF Bool}{fe:VF D}{vs:List Nv}{β β1:Int}{l:List α}{e:α->D}(g:α->Bool)(h:α->D)(hi:fi vs β=.ok (l.map e) β1)(hz:l.length<=1000)
  (hh:∀x,x∈l->∃vs1,vk t (e x) (hG own ixs vs)=some vs1/\ft vs1 β1=.ok (g x) β1/\(g x=true->fe vs1 β1=.ok (h x) β1)):bV own ixs t fi ft fe vs β=.ok (.list ((l.filter g).map h)) β1:=by
 unfold bV
 rw[hi]
 dsimp only[R.bnd]
 rw[KU (sz _ (by rw[Lk];exact hz))]
 have key:∀m:List α,(∀x,x∈m->x∈l)->iQ t ft fe (hG own ixs vs) (m.map e) β1=.ok ((m.filter g).map h) β1:=by
  intro m
  induction m with
  |nil=>intro _;rfl
  |cons x m ih=>
   intro hm
   obtain⟨vs1,e1,e2,e3⟩:=hh x (hm x (K3 ..))
   have ih:=ih λy hy=>hm y (KW _ hy)
   rw[LL]
   unfold iQ
   rw[e1]
   dsimp only
   rw[e2]
   dsimp only[R.okb]
   cases q:g x with
   |true=>
    rw[KU rfl,e3 q]
    dsimp only
    rw[ih,List.filter_cons_of_pos q];rfl
   |false=>
    rw[K0 Lh,ih,List.filter_cons_of_neg (by rw[q];exact Lh)]
 rw[key l λ_ h=>h];rfl
theorem iL {t:Tg}{m:SF}(Pv:Nat->En->Int->Prop):∀{ds:List D} {k:Nat} {env:En} {β:Int},Pv k env β->
  (∀i d env β,ds[i]? =some d->Pv (k + i) env β->∃env1,gQ t d env=some env1/\∃env2 β2,m env1 β=.nx env2 β2/\Pv (k + i + 1) env2 β2)->∃env' β',ux t m ds env β=.nx env' β'/\Pv (k + ds.length) env' β'
 | [],k,env,β,h0,_=>⟨env,β,rfl,h0⟩
 |d :: ds,k,env,β,h0,hs=>by
  obtain⟨env1,e1,env2,β2,e2,h1⟩:=hs 0 d env β rfl h0
  obtain⟨env',β',e3,h2⟩:=iL Pv (t:=t) (m:=m) (ds:=ds) (k:=k + 1) h1 λi d' en be hi hp=>by
   have:=hs (i + 1) d' en be (by simpa using hi) (by rw[show k + (i + 1)=k + 1 + i by omega];exact hp)
   rw[show k + (i + 1) + 1=k + 1 + i + 1 by omega] at this
   exact this
  refine⟨env',β',?_,by rw[Lu,show k + (ds.length + 1)=k + 1 + ds.length by omega];exact h2⟩
  unfold ux
  rw[e1]
  dsimp only
  rw[e2]
  exact e3
theorem lU {L:List Nat}{t:VF Bool}{m:SF}(Pv:Nat->En->Int->Prop)(Dn:En->Int->Prop):∀{n k:Nat} {env:En} {β:Int},k < n->Pv k env β->
  (∀k env β,Pv k env β->∃c β1,t (vl env) β=.ok c β1/\((c=false/\Dn (bt L env) β1)\/(c=true/\∃env2 β2 k',m (bt L env) β1=.nx env2 β2/\k' < k/\Pv k' env2 β2)))->∃env' β',jA L t m n env β=.nx env' β'/\Dn env' β'
 | 0,k,env,β,hk,_,_=>by omega
 |n + 1,k,env,β,hk,h0,hs=>by
  obtain⟨c,β1,e1,hc⟩:=hs k env β h0
  unfold jA
  rw[e1]
  dsimp only[toS]
  rcases hc with⟨rfl,hd⟩ | ⟨rfl,env2,β2,k',e2,hl,h1⟩
  ·exact⟨_,_,rfl,hd⟩
  ·rw[KU rfl,e2]
   exact lU Pv Dn (n:=n) (k:=k') (by omega) h1 hs
end L2
namespace RM
open PySem L2
def pz:SF:=(cX (la (f1 (gv 0) (lb "int")) (f1 (f1 (gv 0) (lb "bool")) C1)))
def qH (bM:List D->FR):SF:=(cX (la (aA bM (ae (gv 0) ao)) (i7 (cst (.int 0)) (gv 0) (gv 1) Bq Gf)))
def rT (bM:List D->FR):SF:=(cX (la (aA bM (ae (gv 0) ao)) (i7 (cst (.int 1)) (gv 0) (cst (.int 8)) Bq Bq)))
def kW (dk:List D->FR):SF:=(aV (fx ([] ++ ([] ++ [])) (qQ (xG (vG (f1 (gv 0) (lb "tuple")))) (dr (f2 (f1 (gv 0) gJ) (cst (.int 2)) (cA true))))
 (cX (cst (.bool false)))
 uT)
 (cX (la (aA dk (ae (f2 (gv 0) (cst (.int 0)) jR) (ae (gv 1) ao))) (aA dk (ae (f2 (gv 0) (cst (.int 1)) jR) (ae (gv 1) ao))))))
def uL:SF:=(mQ (bV 1 [0] (.nm 0) (kc (f2 (gv 0) (gv 0) fy)) AW (a7 (ae (f2 (gv 0) (gv 1) Cc) (ae (f2 (gv 0) (gv 1) mJ) ao)))))
def qi:SF:=(cX (f1 (bV 2 [] (.two 0 1) (fm (gv 0)) AW (f2 (gv 0) (gv 1) (cA false))) (iy λbs=>bs.any id)))
def eN (gB gr iI eH:List D->FR):SF:=(aV (fx ([] ++ ([] ++ [])) (qQ (xG (vG (f1 (gv 0) (lb "tuple")))) (dr (f2 (f1 (gv 0) gJ) (cst (.int 2)) (cA true))))
 (cX (cst (.bool false)))
 uT)
 (aV (b6 1 ([] ++ []) (f2 (gv 0) (cst (.int 0)) jR))
 (aV (b6 2 ([] ++ []) (f2 (gv 0) (cst (.int 1)) jR))
 (aV (fx (([1] ++ []) ++ []) (qQ (xG (vG (aA gB (ae (gv 1) ao)))) (xG (vG (f1 (gv 2) (lb "tuple")))))
 (cX (cst (.bool false)))
 uT)
 (aV (fx ([] ++ [1]) (xG (vG (f1 (bV 1 [1] (.nm 0) (fm (gv 2)) AW (aA gr (ae (gv 0) (ae (gv 1) ao)))) (iy λbs=>bs.all id))))
 (cX (cst (.bool false)))
 uT)
 (cX (la (f2 (gv 2) (aA iI (ae (gv 1) (ae (gv 2) ao))) (cA false)) (f1 (aA eH (ae (gv 2) ao)) C1))))))))
def fS (eM:List D->FR):SF:=(fx ([0] ++ []) (xG (vG (aA eM (ae (gv 0) ao))))
 (λenv β=>toS ((ae (cst (.str "this is no order")) ao) (vl env) β) λds _=>if ds.length<=sizeLine then .exc "NoOrder" else .bad)
 uT)
def fj:SF:=(aV (fx ([] ++ []) (dr (f2 (gv 1) (f1 (gv 0) gJ) Gf))
 (cX (f2 (gv 0) (gv 1) jR))
 uT)
 (cX (cst (.int 0))))
def iY:SF:=(aV (b6 2 [] (cy (Kj [48271,69621,16807,39373,30269,40014,40692,50021,61687,71993,83869,95561,30307]))) (aV (b6 3 ((((([] ++ []) ++ []) ++ ([] ++ ([] ++ []))) ++ ([] ++ [])) ++ ([] ++ ([] ++ []))) (f2 (f2 (f2 (f2 (f2 (gv 0) (cst (.int 2147483647)) mJ) (cst (.int 12345)) dC) (f2 (gv 2) (f2 (gv 1) (cst (.int 13)) mJ) jR) fy) (f2 (cst (.int 977)) (gv 1) fy) dC) (f2 (cst (.int 7919)) (f2 (gv 1) (cst (.int 13)) Cc) fy) dC))
 (aV (b6 3 ([] ++ []) (f2 (gv 3) (cst (.int 1000000007)) mJ))
 (cX (f2 (f2 (f2 (f2 (gv 3) (gv 3) fy) (f2 (cst (.int 48271)) (gv 1) fy) dC) (cst (.int 1000000007)) mJ) (cst (.int 7)) Cc)))))
def i8 (dw dY:List D->FR):SF:=(aV (b6 2 ([0] ++ ([1] ++ [])) (aA dw (ae (gv 0) (ae (gv 1) ao))))
 (aV (fx (([] ++ []) ++ []) (dr (f2 (f2 (gv 2) (cst (.int 2)) mJ) (cst (.int 0)) (cA false)))
 (mQ (cy (ae (f2 (f1 (gv 2) Eg) (cst (.int 2)) Cc) ao)))
 uT)
 (aV (b6 3 [] (cst (.int 0)))
 (aV (gN (.nm 4) [] (kc (cst (.int 40)))
 (b6 3 (([] ++ []) ++ ([2] ++ ([4] ++ []))) (f2 (f2 (gv 3) (cst (.int 142857143)) fy) (aA dY (ae (gv 2) (ae (gv 4) ao))) dC)))
 (mQ (cy (ae (gv 3) ao)))))))
def df (aW:List D->Int->FB):SF:=(aV (wA 2 [] (f1 (gv 1) yC))
 (aV (wA 3 [] (cy ao))
 (aV (jA ([] ++ []) (dr (f2 (gv 2) (cy ao) (cA true)))
 (i5 3 2 ([] ++ []) (oi 0 aW (ae (f1 (gv 2) gJ) ao))) 1000)
 (BI 3))))
noncomputable def eY:SF:=(aV (b6 1 [] (f1 (gv 0) cg))
 (aV (b6 2 [] (f1 (cst (.int 1)) IS))
 (aV (jA ([] ++ []) (dr (f2 (gv 2) (f1 (gv 1) gJ) (cA true)))
 (aV (b6 2 [] (f1 (gv 1) gJ))
 (aV (b6 3 [] (cy ao))
 (aV (gN (.two 4 5) [1] (fm (gv 1))
 (b6 3 ([] ++ ([] ++ [4])) (f2 (gv 3) (bV 2 [5,4] (.two 0 1) (fm (gv 1)) (dr (f2 (gv 0) (gv 2) (cA false))) (a7 (ae (gv 3) (ae (gv 1) ao)))) kY)))
 (b6 1 ([] ++ []) (f1 (f2 (gv 1) (gv 3) kY) cg))))) 1000)
 (cX (f1 (gv 1) BX)))))
def fU (cn:List D->FR)(aW bQ:List D->Int->FB):SF:=(aV (b6 2 ([] ++ ([1] ++ [])) (f2 (cst (.int 1)) (oi 0 aW (ae (gv 1) ao)) dC))
 (aV (b6 3 ([] ++ []) (oi 0 bQ (ae (f1 (gv 2) gH) ao)))
 (aV (b6 4 (([] ++ ([] ++ ([] ++ ([] ++ [])))) ++ ([] ++ [])) (f2 (cy (ae (cst (.int 2)) (ae (cst (.int 3)) (ae (cst (.int 4)) (ae (cst (.int 7)) ao))))) (oi 0 aW (ae (cst (.int 4)) ao)) jR))
 (aV (wA 5 [] (cy ao))
 (aV (gN (.nm 6) [] (kc (gv 2))
 (gN (.nm 7) (([] ++ []) ++ []) (sJ (f2 (gv 6) (cst (.int 1)) dC) (gv 2))
 (fx (([4] ++ []) ++ []) (dr (f2 (oi 0 aW (ae (gv 4) ao)) (cst (.int 0)) (cA false)))
 (x8 5 (([] ++ []) ++ (([] ++ []) ++ [])) (a7 (ae (f2 (gv 3) (gv 6) jR) (ae (f2 (gv 3) (gv 7) jR) ao))))
 uT)))
 (cX (a7 (ae (gv 2) (ae (aA cn (ae (gv 5) ao)) ao)))))))))
def pG:SF:=(aV (b6 3 ([] ++ []) (f2 (gv 0) (cst (.int 1)) jR))
 (aV (fx ([] ++ [2]) (xG (vG (f1 (bV 2 [1,2,3] (.two 0 1) (fm (gv 3)) (dr (f2 (gv 1) (gv 2) (cA false))) (f2 (a7 (ae (gv 0) (ae (gv 3) ao))) (gv 4) (Jh false))) (iy λbs=>bs.all id))))
 (cX (cst (.bool false)))
 uT)
 (cX (f1 (bV 2 [2,1,3] (.two 0 1) (fm (gv 3)) (dr (f2 (gv 0) (gv 2) (cA false))) (f2 (a7 (ae (gv 3) (ae (gv 1) ao))) (gv 4) (Jh false))) (iy λbs=>bs.all id)))))
def eQ (b8 dU:List D->FR):SF:=(mQ (bV 2 [0] (.two 0 1) (fm (aA b8 (ae (gv 0) ao))) (vG (aA dU (ae (gv 2) (ae (gv 0) (ae (gv 1) ao))))) (a7 (ae (gv 0) (ae (gv 1) ao)))))
def IQ:D->Bool
 | .int _=>true
 |_=>false
def km:List D->FR
 | [d]=>if gC d=true then .bad else .ok (.bool (IQ d)) false
 |_=>.bad
def uj {d:D}(h:gC d=false):km [d]=.ok (.bool (IQ d)) false:=K0 (by rw[h];exact Lh)
def Dj (ds:List D)(h:km ds≠.bad):aP 1 1 pz ds=km ds:=by
 unfold km at h
 split at h
 ·rename_i d
  cases q:gC d with
  |true=>rw[q] at h;exact absurd rfl h
  |false=>
   rw[uj q]
   have e1:lb "int" d=some (.bool (CB d "int")):=by unfold lb;rw[q];rfl
   have e2:lb "bool" d=some (.bool (CB d "bool")):=by unfold lb;rw[q];rfl
   show fin (cX (la (f1 (gv 0) (lb "int")) (f1 (f1 (gv 0) (lb "bool")) C1)) [.fz d] 0)=_
   unfold cX la f1 gv
   simp only[uM,wX,yr,List.getElem?_cons_zero,xR,uc,lR,e1,e2]
   cases d <;> rfl
 ·exact absurd rfl h
def j7 (d:D)(n:Int):Bool:=match d with
 | .int i=>decide (0<=i/\i < n)
 |_=>false
def ki:List D->FR
 | [d,.int n]=>if gC d=true then .bad else .ok (.bool (j7 d n)) false
 |_=>.bad
def tS {d:D}{n:Int}(h:gC d=false):ki [d,.int n]=.ok (.bool (j7 d n)) false:=K0 (by rw[h];exact Lh)
def vh {i lo n:Int}{vs:List Nv}{β:Int}{fa fb fc:VF D}{g':D->D->Option D}{q:Bool}(ha:fa vs β=.ok (.int lo) β)(hb:fb vs β=.ok (.int i) β)(hc:fc vs β=.ok (.int n) β)(hq:g' (.int i) (.int n)=some (.bool q)):i7 fa fb fc Bq g' vs β=.ok (.bool (decide (lo<=i) && q)) β:=by
 unfold i7
 rw[ha];dsimp only[R.bnd];rw[hb];dsimp only[R.bnd]
 show (match (some (PyData.bool (decide (lo<=i))):Option D) with
  |some (.bool true)=>_
  |some (.bool false)=>_
  |_=>_)=_
 by_cases h:lo<=i
 ·rw[K7 h]
  dsimp only
  rw[hc]
  dsimp only[R.bnd]
  rw[hq];rfl
 ·rw[Lg h];rfl
def EN (ds:List D)(h:ki ds≠.bad):aP 2 2 (qH km) ds=ki ds:=by
 unfold ki at h
 split at h
 ·rename_i d n
  cases q:gC d with
  |true=>rw[q] at h;exact absurd rfl h
  |false=>
   rw[tS q]
   show fin (cX (la (aA km (ae (gv 0) ao)) (i7 (cst (.int 0)) (gv 0) (gv 1) Bq Gf)) [.fz d,.fz (.int n)] 0)=_
   unfold cX la aA
   simp only[uM,wX,yr,dJ,yz,Fs,List.getElem?_cons_zero,xR,uc,lR,uj q]
   cases d with
   |int i=>
    show fin (toS (i7 (cst (.int 0)) (gv 0) (gv 1) Bq Gf [.da (.int i),.da (.int n)] 0) _)=_
    rw[vh (lo:=0) (i:=i) (n:=n) rfl rfl rfl rfl]
    show FR.ok (.bool (decide (0<=i) && decide (i < n))) false=.ok (.bool (decide (0<=i/\i < n))) false
    rw[Bool.decide_and]
   |_=>rfl
 ·exact absurd rfl h
def Fb (d:D):Bool:=match d with
 | .int i=>decide (1<=i/\i<=8)
 |_=>false
def jP:List D->FR
 | [d]=>if gC d=true then .bad else .ok (.bool (Fb d)) false
 |_=>.bad
def BP {d:D}(h:gC d=false):jP [d]=.ok (.bool (Fb d)) false:=K0 (by rw[h];exact Lh)
def Gn (ds:List D)(h:jP ds≠.bad):aP 1 1 (rT km) ds=jP ds:=by
 unfold jP at h
 split at h
 ·rename_i d
  cases q:gC d with
  |true=>rw[q] at h;exact absurd rfl h
  |false=>
   rw[BP q]
   show fin (cX (la (aA km (ae (gv 0) ao)) (i7 (cst (.int 1)) (gv 0) (cst (.int 8)) Bq Bq)) [.fz d] 0)=_
   unfold cX la aA
   simp only[uM,wX,yr,dJ,yz,Fs,List.getElem?_cons_zero,xR,uc,lR,uj q]
   cases d with
   |int i=>
    show fin (toS (i7 (cst (.int 1)) (gv 0) (cst (.int 8)) Bq Bq [.da (.int i)] 0) _)=_
    rw[vh (lo:=1) (i:=i) (n:=8) rfl rfl rfl rfl]
    show FR.ok (.bool (decide (1<=i) && decide (i<=8))) false=.ok (.bool (decide (1<=i/\i<=8))) false
    rw[Bool.decide_and]
   |_=>rfl
 ·exact absurd rfl h
def bh (n:Nat)(l:List Pr):D:=.tuple [.int n,.tuple (l.map a9)]
noncomputable def cH:List D->FR
 | [.int n,d]=>(match oH d with
  |some ds=>(match fA ds with
   |some ps=>(open Classical in if 1<=n/\n<=8/\OM.Wn n.toNat ps then .ok (.tuple ((OM.bP n.toNat (OM.Tr (OM.Mem ps))).map a9)) false else .bad)
   |none=>.bad)
  |none=>.bad)
 |_=>.bad
def A9 {n:Nat}{ps:List Pr}(h1:1<=n)(h8:n<=8)(w:OM.Wn n ps):cH [.int n,.tuple (ps.map a9)]=.ok (.tuple ((OM.bP n (OM.Tr (OM.Mem ps))).map a9)) false:=by
 unfold cH
 simp only[oH,gE]
 rw[KU ⟨by omega,by omega,by rw[LK];exact w⟩,LK]
def kx:List D->FR
 | [.tuple ds]=>(match fA ds with
  |some ps=>if ps.length<=1000 then .ok (.bool (ps.any λp=>decide (p.1=p.2))) false else .bad
  |none=>.bad)
 |_=>.bad
theorem mY {α:Type}(f:α->Bool):∀l:List α,kg (l.map λx=>PyData.bool (f x))=some (l.map f)
 | []=>rfl
 |x :: l=>by
  show (kg (l.map λx=>PyData.bool (f x))).map (f x :: ·)=_
  rw[mY f l];rfl
def F0 (ds:List D)(h:kx ds≠.bad):aP 1 1 qi ds=kx ds:=by
 unfold kx at h
 split at h
 ·rename_i ds
  cases q:fA ds with
  |none=>rw[q] at h;exact absurd rfl h
  |some ps=>
   rw[q] at h
   dsimp only at h
   by_cases hz:ps.length<=1000
   case neg=>rw[K0 hz] at h;exact absurd rfl h
   obtain rfl:=kA q
   have e:kx [.tuple (ps.map a9)]=.ok (.bool (ps.any λp=>decide (p.1=p.2))) false:=by
    unfold kx;simp only[gE];rw[KU hz]
   rw[e]
   have ec:bV 2 [] (.two 0 1) (fm (gv 0)) AW (f2 (gv 0) (gv 1) (cA false)) [.da (.tuple (ps.map a9))] 0=.ok (.list (ps.map λp=>PyData.bool (decide (p.1=p.2)))) 0:=by
    exact qw (l:=ps) (e:=a9) (λp=>PyData.bool (decide (p.1=p.2))) rfl hz λp hp=>⟨_,rfl,rfl⟩
   show fin (toS ((bV 2 [] (.two 0 1) (fm (gv 0)) AW (f2 (gv 0) (gv 1) (cA false)) [.da (.tuple (ps.map a9))] 0).bnd λx β1=>R.of (iy (λbs=>bs.any id) x) β1) λd β'=>.rt d false β')=_
   rw[ec]
   simp only[lR,iy]
   rw[mY]
   simp[fin,List.any_map]
 ·exact absurd rfl h
theorem yB:∀l:List Pr,PyData.canLayAll0 (l.map a9)=true
 | []=>rfl
 |p :: l=>by
  show ((a9 p).canLay0 && PyData.canLayAll0 (l.map a9))=true
  rw[yB l];rfl
theorem zk:∀l:List Pr,PyData.depthAll (l.map a9)<=1
 | []=>by show (0:Nat)<=1;omega
 |p :: l=>by
  show max (a9 p).depth (PyData.depthAll (l.map a9))<=1
  have h1:(a9 p).depth=1:=by simp[a9,PyData.depth,PyData.depthAll]
  have h2:=zk l
  omega
def pQ (l:List Pr):SeqAt.shaped (.tuple (l.map a9))=true:=by
 unfold SeqAt.shaped
 have h1:(PyData.tuple (l.map a9)).canLay0=true:=by simp only[PyData.canLay0];exact yB l
 have h2:(PyData.tuple (l.map a9)).depth<=64:=by simp only[PyData.depth];have:=zk l;omega
 rw[h1,K7 h2];rfl
def Hg (p q:Pr):PyData.eqv (a9 p) (a9 q)=decide (p=q):=by
 obtain⟨a,b⟩:=p
 obtain⟨c,d⟩:=q
 simp only[a9,PyData.eqv,PyData.eqvAll,Bool.and_true]
 rw[LZ]
 simp
theorem yJ:∀l m:List Pr,PyData.eqvAll (l.map a9) (m.map a9)=decide (l=m)
 | [],[]=>rfl
 | [],_ :: _=>rfl
 |_ :: _,[]=>rfl
 |p :: l,q :: m=>by
  show (PyData.eqv (a9 p) (a9 q) && PyData.eqvAll (l.map a9) (m.map a9))=_
  rw[Hg,yJ l m,LZ]
  simp
def DS {n:Nat}{l:List Pr}(O:OM.Ord n l):l.length < 64:=by
 have h8:=O.hi
 have e:=O.closed
 by_cases h:l.length < 64
 ·exact h
 ·exfalso
  have h1:l.length<=n * n:=by rw[<-e];exact OM.BF _ _
  have h2:n * n<=64:=MS h8 h8
  have hn:n=8:=by
   by_cases h7:n<=7
   ·have:n * n<=7 * 7:=MS h7 h7
    omega
   ·omega
  have hlen:l.length=n * n:=by subst hn;omega
  have hg:l=OM.gL n:=by
   refine OM.sub_eq O.ris (OM.qm n) (λx hx=>OM.gK.mpr (O.wn x hx)) ?_
   rw[hlen];unfold OM.gL;simp
  have:((0:Int),(0:Int))∈l:=by rw[hg];exact OM.gK.mpr ⟨⟨by omega,by omega⟩,by omega,by omega⟩
  exact O.irr 0 this
def wu {n:Nat}(h1:1<=n)(h8:n<=8):jP [.int n]=.ok (.bool true) false:=by
 rw[BP rfl]
 show FR.ok (.bool (decide (1<=(n:Int)/\(n:Int)<=8))) false=_
 rw[K7 (by omega)]
def B8 (neg:Bool)(l m:List Pr):cA neg (.tuple (l.map a9)) (.tuple (m.map a9))=some (.bool (if neg then !decide (l=m) else decide (l=m))):=by
 unfold cA
 rw[pQ,pQ]
 simp only[Bool.and_self,LO,PyData.eqv,yJ]
abbrev bW (ns:List Int):D:=.dict [(.none,.list (ns.map int))]
def pR {i j:Int}(h: -(2 ^ 64) < i/\i < 2 ^ 64):fy (.int i) (.int j)=some (.int (i * j)):=KU (by dsimp only;rw[K7 h.1,K7 h.2];rfl)
def Hi {i j:Int}(h: -(2 ^ 64) < j/\j < 2 ^ 64):fy (.int i) (.int j)=some (.int (i * j)):=KU (by dsimp only;rw[K7 h.1,K7 h.2,Bool.and_self,Bool.or_true])
def qI {i j:Int}(h:0 < j):mJ (.int i) (.int j)=some (.int (i % j)):=KU (K7 h)
def A5 {i j:Int}(h:0 < j)(h2:j < 1073741824):Cc (.int i) (.int j)=some (.int (i / j)):=KU (by dsimp only;rw[K7 h,K7 h2];rfl)
theorem l9 {α β:Type}(f:α->β)(l:List α)(i:Int):lx (l.map f) i=(lx l i).map f:=by
 unfold lx
 rw[Lk]
 cases AU l.length i with
 |none=>rfl
 |some j=>simp
def uO {α:Type}{l:List α}{k:Nat}(h:k < l.length):lx l (k:Int)=some l[k]:=oQ (KP h)
def FX {fa fb:VF D}{vs:List Nv}{β β1 β2:Int}{i j:Int}(h:fa vs β=.ok (.int i) β1)(h':fb vs β1=.ok (.int j) β2):dr (f2 fa fb Gf) vs β=.ok (decide (i < j)) β2:=sR _ _ _ _ (bp h h' rfl)
def mL {neg:Bool}{fa fb:VF D}{vs:List Nv}{β β1 β2:Int}{i j:Int}(h:fa vs β=.ok (.int i) β1)(h':fb vs β1=.ok (.int j) β2):dr (f2 fa fb (cA neg)) vs β=.ok (if neg then !decide (i=j) else decide (i=j)) β2:=by
 refine sR _ _ _ _ (bp h h' ?_)
 cases neg <;> rfl
def GX (ns:List Int)(k:Nat):∃z,aP 2 2 fj [bW ns,.int k]=.ok (.int z) false:=by
 show ∃z,fin (fj [.fz (bW ns),.fz (.int k)] 0)=.ok (.int z) false
 unfold fj
 have e:dr (f2 (gv 1) (f1 (gv 0) gJ) Gf) [.da (bW ns),.da (.int k)] 0=.ok (decide ((k:Int) < (ns.map int).length)) 0:=FX rfl rfl
 by_cases h:k < ns.length
 ·refine⟨ns[k],?_⟩
  rw[K7 (by simp;exact h)] at e
  rw[kI (d:=.int ns[k]) (b:=false) (β':=0)]
  ·rfl
  ·rw[bD e]
   show toS (f2 (gv 0) (gv 1) jR [.da (bW ns),.da (.int k)] 0) _=_
   rw[bp (x:=bW ns) (y:=.int k) (d:=.int ns[k]) (β1:=0) (β2:=0) rfl rfl]
   ·rfl
   ·show lx (ns.map int) (k:Int)=_
    rw[l9,uO h];rfl
 ·refine⟨0,?_⟩
  rw[Lg (by simp;omega)] at e
  rw[aZ (env':=[.fz (bW ns),.fz (.int k)]) (β':=0)]
  ·rfl
  ·rw[au e];rfl
noncomputable def yH:List D->FR:=aP 2 2 fj
noncomputable def CW:List D->FR:=aP 4 2 iY
abbrev w8:List Int:=[48271,69621,16807,39373,30269,40014,40692,50021,61687,71993,83869,95561,30307]
def IY (c k:Int):∃z,CW [.int c,.int k]=.ok (.int z) false:=by
 show ∃z,fin (iY [.fz (.int c),.fz (.int k),.no,.no] 0)=.ok (.int z) false
 unfold iY
 rw[aZ (env':=[.fz (.int c),.fz (.int k),.fz (.list (w8.map int)),.no]) (β':=0) (by rfl)]
 obtain⟨j,hj⟩:∃j:Nat,k % 13=j:=⟨(k % 13).toNat,by omega⟩
 have hj13:j < w8.length:=by show j < 13;omega
 have e1:f2 (f2 (f2 (f2 (f2 (gv 0) (cst (.int 2147483647)) mJ) (cst (.int 12345)) dC) (f2 (gv 2) (f2 (gv 1) (cst (.int 13)) mJ) jR) fy) (f2 (cst (.int 977)) (gv 1) fy) dC) (f2 (cst (.int 7919)) (f2 (gv 1) (cst (.int 13)) Cc) fy) dC [.da (.int c),.da (.int k),.da (.list (w8.map int)),.no] 0
   =.ok (.int ((c % 2147483647 + 12345) * w8[j] + 977 * k + 7919 * (k / 13))) 0:=by
  refine bp (bp (bp (bp (bp (x:=.int c) (y:=.int 2147483647) rfl rfl (qI (by omega))) rfl rfl) (bp (x:=.list (w8.map int)) rfl (bp (x:=.int k) (y:=.int 13) rfl rfl (qI (by omega))) (d:=.int w8[j]) ?_) (pR ⟨by omega,by omega⟩)) (bp (x:=.int 977) (y:=.int k) rfl rfl (pR ⟨by omega,by omega⟩)) rfl) (bp (x:=.int 7919) rfl (bp (x:=.int k) (y:=.int 13) rfl rfl (A5 (by omega) (by omega))) (pR ⟨by omega,by omega⟩)) rfl
  show lx (w8.map int) (k % 13)=_
  rw[hj,l9,uO hj13];rfl
 generalize ((c % 2147483647 + 12345) * w8[j] + 977 * k + 7919 * (k / 13))=st at e1
 rw[aZ (env':=[.fz (.int c),.fz (.int k),.fz (.list (w8.map int)),.fz (.int st)]) (β':=0) ?h]
 case h=>
  show toS (f2 _ _ dC [.da (.int c),.da (.int k),.da (.list (w8.map int)),.no] 0) _=_
  rw[e1];rfl
 have e2:f2 (gv 3) (cst (.int 1000000007)) mJ [.da (.int c),.da (.int k),.da (.list (w8.map int)),.da (.int st)] 0=.ok (.int (st % 1000000007)) 0:=bp rfl rfl (qI (by omega))
 rw[aZ (env':=[.fz (.int c),.fz (.int k),.fz (.list (w8.map int)),.fz (.int (st % 1000000007))]) (β':=0) ?h2]
 case h2=>
  show toS (f2 (gv 3) (cst (.int 1000000007)) mJ [.da (.int c),.da (.int k),.da (.list (w8.map int)),.da (.int st)] 0) _=_
  rw[e2];rfl
 have hb: -(2 ^ 64) < st % 1000000007/\st % 1000000007 < 2 ^ 64:=⟨by omega,by omega⟩
 generalize st % 1000000007=u at hb
 have e3:f2 (f2 (f2 (f2 (gv 3) (gv 3) fy) (f2 (cst (.int 48271)) (gv 1) fy) dC) (cst (.int 1000000007)) mJ) (cst (.int 7)) Cc [.da (.int c),.da (.int k),.da (.list (w8.map int)),.da (.int u)] 0=.ok (.int ((u * u + 48271 * k) % 1000000007 / 7)) 0:=
  bp (bp (bp (bp (x:=.int u) (y:=.int u) rfl rfl (pR hb)) (bp (x:=.int 48271) (y:=.int k) rfl rfl (pR ⟨by omega,by omega⟩)) rfl) rfl (qI (by omega))) rfl (A5 (by omega) (by omega))
 refine⟨(u * u + 48271 * k) % 1000000007 / 7,?_⟩
 show fin (toS (f2 _ (cst (.int 7)) Cc [.da (.int c),.da (.int k),.da (.list (w8.map int)),.da (.int u)] 0) _)=_
 rw[e3];rfl
noncomputable def Gj:List D->FR:=aP 5 2 (i8 yH CW)
def HQ (ns:List Int)(k:Nat):∃z,Gj [bW ns,.int k]=.ok (.list [.int z]) true:=by
 obtain⟨c,hc⟩:=GX ns k
 show ∃z,fin (i8 yH CW [.fz (bW ns),.fz (.int k),.no,.no,.no] 0)=.ok (.list [.int z]) true
 unfold i8
 have e0:aA yH (ae (gv 0) (ae (gv 1) ao)) [.da (bW ns),.da (.int k),.no,.no,.no] 0=.ok (.int c) 0:=cj rfl hc
 rw[aZ (env':=[.fz (bW ns),.fz (.int k),.fz (.int c),.no,.no]) (β':=0) ?h]
 case h=>
  show toS (aA yH _ [.da (bW ns),.da (.int k),.no,.no,.no] 0) _=_
  rw[e0];rfl
 have e1:dr (f2 (f2 (gv 2) (cst (.int 2)) mJ) (cst (.int 0)) (cA false)) [.da (bW ns),.da (.int k),.da (.int c),.no,.no] 0=.ok (decide (c % 2=0)) 0:=mL (neg:=false) (bp rfl rfl (qI (by omega))) rfl
 by_cases h:c % 2=0
 ·rw[K7 h] at e1
  refine⟨(if c < 0 then -c else c) / 2,?_⟩
  rw[kI (d:=.list [.int ((if c < 0 then -c else c) / 2)]) (b:=true) (β':=0)]
  ·rfl
  ·rw[bD e1]
   show toS (cy (ae (f2 (f1 (gv 2) Eg) (cst (.int 2)) Cc) ao) [.da (bW ns),.da (.int k),.da (.int c),.no,.no] 0) _=_
   rw[hE (ds:=[.int ((if c < 0 then -c else c) / 2)]) (β1:=0)]
   ·rfl
   ·have e2:f2 (f1 (gv 2) Eg) (cst (.int 2)) Cc [.da (bW ns),.da (.int k),.da (.int c),.no,.no] 0=.ok (.int ((if c < 0 then -c else c) / 2)) 0:=bp (jT (x:=.int c) rfl rfl) rfl (A5 (by omega) (by omega))
    rw[dJ,e2];rfl
   ·simp
 ·rw[Lg h] at e1
  rw[aZ (env':=[.fz (bW ns),.fz (.int k),.fz (.int c),.no,.no]) (β':=0) (by rw[au e1];rfl)]
  rw[aZ (env':=[.fz (bW ns),.fz (.int k),.fz (.int c),.fz (.int 0),.no]) (β':=0) (by rfl)]
  obtain⟨env',β',el,z,x,rfl,rfl⟩:=iL (t:=.nm 4) (m:=b6 3 (([] ++ []) ++ ([2] ++ ([4] ++ []))) (f2 (f2 (gv 3) (cst (.int 142857143)) fy) (aA CW (ae (gv 2) (ae (gv 4) ao))) dC)) (ds:=cw 0 40) (k:=0)
   (λ_ env β=>∃(z:Int) (x:Sl),env= [.fz (bW ns),.fz (.int k),.fz (.int c),.fz (.int z),x]/\β=0) (env:=[.fz (bW ns),.fz (.int k),.fz (.int c),.fz (.int 0),.no]) (β:=0) ⟨0,.no,rfl,rfl⟩ (by
    rintro i d env β hi ⟨z,x,rfl,rfl⟩
    obtain⟨j,rfl⟩:∃j:Int,d=.int j:=by
     unfold cw at hi
     rw[K2] at hi
     cases q:(List.range 40)[i]? with
     |none=>rw[q] at hi;cases hi
     |some j=>rw[q] at hi;cases hi;exact⟨_,rfl⟩
    obtain⟨y,hy⟩:=IY c j
    refine⟨_,rfl,_,_,?_,z * 142857143 + y,.fz (.int j),rfl,rfl⟩
    show toS (f2 (f2 (gv 3) (cst (.int 142857143)) fy) (aA CW (ae (gv 2) (ae (gv 4) ao))) dC [.da (bW ns),.da (.int k),.da (.int c),.da (.int z),.da (.int j)] 0) _=_
    rw[bp (d:=.int (z * 142857143 + y)) (bp (x:=.int z) (y:=.int 142857143) (β1:=0) (β2:=0) rfl rfl (Hi ⟨by omega,by omega⟩)) (cj (ds:=[.int c,.int j]) (β1:=0) rfl hy) rfl]
    rfl)
  refine⟨z,?_⟩
  rw[aZ (env':=[.fz (bW ns),.fz (.int k),.fz (.int c),.fz (.int z),x]) (β':=0) ?h2]
  case h2=>exact el
  show fin (toS (cy (ae (gv 3) ao) [.da (bW ns),.da (.int k),.da (.int c),.da (.int z),x.val] 0) _)=_
  rw[hE (ds:=[.int z]) (β1:=0) rfl (by simp)]
  rfl
noncomputable def pA:List D->Int->FB:=wI 4 1 (df cT)
theorem lay_ints:∀ns:List Int,PyData.canLayAll0 (ns.map int)=true
 | []=>rfl
 |n :: ns=>by
  show ((int n).canLay0 && PyData.canLayAll0 (ns.map int))=true
  rw[lay_ints ns];rfl
theorem vn:∀ns:List Int,PyData.depthAll (ns.map int)=0
 | []=>rfl
 |n :: ns=>by
  show max (int n).depth (PyData.depthAll (ns.map int))=0
  rw[vn ns];rfl
def shaped_ints (ns:List Int):SeqAt.shaped (.list (ns.map int))=true:=by
 unfold SeqAt.shaped
 have h1:(PyData.list (ns.map int)).canLay0=true:=by simp only[PyData.canLay0];exact lay_ints ns
 have h2:(PyData.list (ns.map int)).depth<=64:=by simp only[PyData.depth];rw[vn];omega
 rw[h1,K7 h2];rfl
theorem wx:∀l m:List Int,PyData.eqvAll (l.map int) (m.map int)=decide (l=m)
 | [],[]=>rfl
 | [],_ :: _=>rfl
 |_ :: _,[]=>rfl
 |p :: l,q :: m=>by
  show ((p == q) && PyData.eqvAll (l.map int) (m.map int))=_
  rw[wx l m,LZ]
  simp
def C5 (neg:Bool)(l m:List Int):cA neg (.list (l.map int)) (.list (m.map int))=some (.bool (if neg then !decide (l=m) else decide (l=m))):=by
 unfold cA
 rw[shaped_ints,shaped_ints]
 simp only[Bool.and_self,LO,PyData.eqv,wx]
theorem gO {α:Type}:∀{l:List α} {k:Nat} {x:α},l[k]? =some x->(x :: l.eraseIdx k).Perm l
 | [],_,_,h=>by simp at h
 |y :: l,0,x,h=>by simp at h;subst h;exact List.Perm.refl _
 |y :: l,k + 1,x,h=>by
  have h:l[k]? =some x:=by simpa using h
  have ih:=gO h
  show (x :: y :: l.eraseIdx k).Perm (y :: l)
  exact (List.Perm.swap y x _).trans (ih.cons y)
theorem rX {α β:Type}(f:α->β):∀(l:List α) (k:Nat),(l.map f).eraseIdx k=(l.eraseIdx k).map f
 | [],_=>rfl
 |_ :: _,0=>rfl
 |x :: l,k + 1=>by simp[rX f l k]
def Em (ns:List Int)(hz:ns.length<=100)(β:Int):∃(ms:List Int) (β':Int),pA [.list (ns.map int)] β=.ok (.list (ms.map int)) true β'/\ms.Perm ns:=by
 show ∃(ms:List Int) (β':Int),DP (df cT [.bx,.fz (.list (ns.map int)),.no,.no] β)=.ok (.list (ms.map int)) true β'/\ms.Perm ns
 unfold df
 rw[aZ (env':=[.bx,.fz (.list (ns.map int)),.ow (.list (ns.map int)),.no]) (β':=β) (by rfl)]
 have ez:cy ao [Nv.bx,.da (.list (ns.map int)),.da (.list (ns.map int)),.no] β=.ok (.list []) β:=hE rfl (by simp)
 rw[aZ (env':=[.bx,.fz (.list (ns.map int)),.ow (.list (ns.map int)),.ow (.list [])]) (β':=β) ?h]
 case h=>
  show toS (cy ao [Nv.bx,.da (.list (ns.map int)),.da (.list (ns.map int)),.no] β) _=_
  rw[ez];rfl
 obtain⟨env',β',ew,ms,rfl,hp⟩:=lU (L:=[] ++ []) (t:=dr (f2 (gv 2) (cy ao) (cA true))) (m:=i5 3 2 ([] ++ []) (oi 0 cT (ae (f1 (gv 2) gJ) ao)))
  (λk env β=>∃ls ms:List Int,env= [.bx,.fz (.list (ns.map int)),.ow (.list (ls.map int)),.ow (.list (ms.map int))]/\(ms ++ ls).Perm ns/\k=ls.length)
  (λenv β=>∃ms:List Int,env= [.bx,.fz (.list (ns.map int)),.ow (.list []),.ow (.list (ms.map int))]/\ms.Perm ns) (n:=1000) (k:=ns.length) (env:=[.bx,.fz (.list (ns.map int)),.ow (.list (ns.map int)),.ow (.list [])]) (β:=β) (by omega) ⟨ns,[],rfl,by simp,rfl⟩ (by
   rintro k env β ⟨ls,ms,rfl,hp,rfl⟩
   have e1:cy ao [Nv.bx,.da (.list (ns.map int)),.da (.list (ls.map int)),.da (.list (ms.map int))] β=.ok (.list (([]:List Int).map int)) β:=hE rfl (by simp)
   have et:dr (f2 (gv 2) (cy ao) (cA true)) [Nv.bx,.da (.list (ns.map int)),.da (.list (ls.map int)),.da (.list (ms.map int))] β=.ok (!decide (ls= [])) β:=
    sR _ _ _ _ (bp (x:=.list (ls.map int)) rfl e1 (by rw[C5];rfl))
   refine⟨_,_,et,?_⟩
   have hlen:=hp.length_eq
   rw[LC] at hlen
   cases ls with
   |nil=>exact .inl ⟨rfl,ms,rfl,by simpa using hp⟩
   |cons y ys=>
    refine .inr ⟨rfl,?_⟩
    have hm:(0:Int) < ((y :: ys).length:Nat)/\(((y :: ys).length:Nat):Int) < 1073741824:=by
     have:(y :: ys).length<=100:=by omega
     constructor
     ·simp
     ·omega
    obtain⟨j,hj⟩:∃j:Nat,β % (((y :: ys).length:Nat):Int)=j:=⟨(β % (((y :: ys).length:Nat):Int)).toNat,by have:=Int.emod_nonneg β (b:=(((y :: ys).length:Nat):Int)) (by omega);omega⟩
    have hj2:j < (y :: ys).length:=by have:=Int.emod_lt_of_pos β hm.1;omega
    have ef:oi 0 cT (ae (f1 (gv 2) gJ) ao) [Nv.bx,.da (.list (ns.map int)),.da (.list ((y :: ys).map int)),.da (.list (ms.map int))] β=.ok (.int (j:Int)) (β / (((y :: ys).length:Nat):Int)):=by
     refine ly (ds:=[.int (((y :: ys).length:Nat):Int)]) (b:=false) (by rfl) ?_ (by rw[tf hm.1 hm.2,hj])
     show R.ok [int ((((y :: ys).map int).length:Nat):Int)] β=_
     rw[Lk]
    have hpop:zx ((y :: ys).map int) (.int (j:Int))=some (.int (y :: ys)[j],((y :: ys).eraseIdx j).map int):=by
     unfold zx
     dsimp only
     rw[KU ⟨by omega,by omega⟩]
     have es:seqIndex? (j:Int) ((y :: ys).map int).length=some j:=by
      rw[Lk]
      exact PySem.StrLaws.seqIndex_nonneg (by omega) (by omega)
     rw[es]
     dsimp only
     rw[K2,KP hj2,rX];rfl
    refine⟨[.bx,.fz (.list (ns.map int)),.ow (.list (((y :: ys).eraseIdx j).map int)),.ow (.list ((ms ++ [(y :: ys)[j]]).map int))],β / (((y :: ys).length:Nat):Int),((y :: ys).eraseIdx j).length,?_,?_,(y :: ys).eraseIdx j,ms ++ [(y :: ys)[j]],rfl,?_,rfl⟩
    ·show i5 3 2 ([] ++ []) (oi 0 cT (ae (f1 (gv 2) gJ) ao)) [.bx,.fz (.list (ns.map int)),.ow (.list ((y :: ys).map int)),.ow (.list (ms.map int))] β=_
     rw[wU (ds:=ms.map int) (es:=(y :: ys).map int) (by rfl) (by rfl) (by decide) ef (by rfl) hpop (by rw[Lk];omega),MH]
     rfl
    ·rw[List.length_eraseIdx]
     rw[KU hj2]
     show (y :: ys).length - 1 < (y :: ys).length
     simp
    ·rw[Mo]
     exact (List.Perm.append_left ms (gO (KP hj2))).trans hp)
 refine⟨ms,β',?_,hp⟩
 rw[aZ ew]
 rfl
def HC {n:Nat}{l:List Pr}(h8:n<=8)(w:OM.Wn n l):OM.bP 8 (OM.Mem l)=OM.bP n (OM.Mem l):=by
 refine OM.jo (OM.cY _ _) (OM.cY _ _) λx=>?_
 rw[OM.bg,OM.bg]
 constructor
 ·rintro⟨_,h⟩;exact⟨w x h,h⟩
 ·rintro⟨h1,h⟩;exact⟨⟨⟨h1.1.1,by omega⟩,h1.2.1,by omega⟩,h⟩
def Dq {n:Nat}{l:List Pr}(h1:1<=n)(h8:n<=8)(w:OM.Wn n l)(nd:l.Nodup)(irr:∀a,(a,a)∉l):l.length < 64:=by
 have:=OM.fD (l:=(0,0) :: l) (m:=OM.gL n) (LG.mpr ⟨irr 0,nd⟩) (λx hx=>by
  rcases KZ.mp hx with e |e
  ·subst e;exact OM.gK.mpr ⟨⟨by simp,by simp;omega⟩,by simp,by simp;omega⟩
  ·exact OM.gK.mpr (w x e))
 have hg:(OM.gL n).length=n * n:=by unfold OM.gL;simp
 have hn:n * n<=64:=MS h8 h8
 rw[hg,Lu] at this
 omega
def FJ {n:Nat}{l:List Pr}(h8:n<=8)(w:OM.Wn n l):l.all Ho=true:=by
 rw[Mw]
 intro p hp
 have:=w p hp
 unfold Ho
 rw[K7 this.1.1,K7 (by omega:p.1 < 8),K7 this.2.1,K7 (by omega:p.2 < 8)];rfl
def nX {n:Nat}{l:List Pr}{d:D}(h8:n<=8)(w:OM.Wn n l)(hl:(OM.bP n (OM.Mem l)).length < 64)(hd:oH d=some (l.map a9)):cg d=some (.list ((OM.bP n (OM.Mem l)).map a9)):=by
 unfold cg
 rw[hd]
 simp only[gE]
 rw[HC h8 w,KU ⟨FJ h8 w,hl⟩]
def wM (l:List Pr)(p:Pr):List Pr:=(l.filter λq=>decide (q.1=p.2)).map λq=>(p.1,q.2)
def yG (l:List Pr)(p:Pr):(wM l p).length<=l.length:=by unfold wM;rw[Lk];exact List.length_filter_le ..
theorem vU (l m:List Pr):(m.flatMap (wM l)).length<=m.length * l.length:=by
 induction m with
 |nil=>simp
 |cons p m ih=>
  rw[List.flatMap_cons,LC,Lu,Nat.succ_mul]
  have:=yG l p
  omega
def oX {a b:List D}(h:a.length + b.length<=10000):kY (.list a) (.list b)=some (.list (a ++ b)):=KU (by rw[Lo];omega)
noncomputable def iH:List D->FR:=aP 6 1 eY
def Ah {n:Nat}{ps:List Pr}(h1:1<=n)(h8:n<=8)(w:OM.Wn n ps)(irr:∀a,¬OM.Tr (OM.Mem ps) a a):iH [.list (ps.map a9)]=.ok (.tuple ((OM.bP n (OM.Tr (OM.Mem ps))).map a9)) false:=by
 have blen:∀{l:List Pr},OM.EV n ps l->l.length < 64:=λ{l} B=>Dq h1 h8 B.wn (OM.kH B.ris) λa ha=>irr a (B.sup _ ha)
 show fin (eY [.fz (.list (ps.map a9)),.no,.no,.no,.no,.no] 0)=_
 unfold eY
 have B0:=OM.zv (ps:=ps) w
 have e0:f1 (gv 0) cg [.da (.list (ps.map a9)),.no,.no,.no,.no,.no] 0=.ok (.list ((OM.bP n (OM.Mem ps)).map a9)) 0:=jT rfl (nX h8 w (blen B0) rfl)
 rw[aZ (env':=[.fz (.list (ps.map a9)),.fz (.list ((OM.bP n (OM.Mem ps)).map a9)),.no,.no,.no,.no]) (β':=0) ?h0]
 case h0=>
  show toS (f1 (gv 0) cg [.da (.list (ps.map a9)),.no,.no,.no,.no,.no] 0) _=_
  rw[e0];rfl
 rw[aZ (env':=[.fz (.list (ps.map a9)),.fz (.list ((OM.bP n (OM.Mem ps)).map a9)),.fz (.int (-1)),.no,.no,.no]) (β':=0) (by rfl)]
 obtain⟨env',β',ew,rfl,x,sz,a,b,rfl⟩:=lU (L:=[] ++ []) (t:=dr (f2 (gv 2) (f1 (gv 1) gJ) (cA true)))
  (m:=aV (b6 2 [] (f1 (gv 1) gJ)) (aV (b6 3 [] (cy ao)) (aV (gN (.two 4 5) [1] (fm (gv 1)) (b6 3 ([] ++ ([] ++ [4])) (f2 (gv 3) (bV 2 [5,4] (.two 0 1) (fm (gv 1)) (dr (f2 (gv 0) (gv 2) (cA false))) (a7 (ae (gv 3) (ae (gv 1) ao)))) kY))) (b6 1 ([] ++ []) (f1 (f2 (gv 1) (gv 3) kY) cg)))))
  (λk env β=>β=0/\∃(l:List Pr) (sz:Int) (x a b:Sl),env= [.fz (.list (ps.map a9)),.fz (.list (l.map a9)),.fz (.int sz),x,a,b]/\OM.EV n ps l/\(sz= -1\/∃lp,OM.EV n ps lp/\l=OM.jW n lp/\sz=lp.length)/\k=2 * (64 - l.length) + (if sz=l.length then 0 else 1))
  (λenv β=>β=0/\∃(x sz a b:Sl),env= [.fz (.list (ps.map a9)),.fz (.list ((OM.bP n (OM.Tr (OM.Mem ps))).map a9)),sz,x,a,b])
  (n:=1000) (k:=2 * (64 - (OM.bP n (OM.Mem ps)).length) + (if (-1:Int)=(OM.bP n (OM.Mem ps)).length then 0 else 1)) (env:=[.fz (.list (ps.map a9)),.fz (.list ((OM.bP n (OM.Mem ps)).map a9)),.fz (.int (-1)),.no,.no,.no]) (β:=0)
  (by split <;> omega) ⟨rfl,_,_,_,_,_,rfl,B0,.inl rfl,rfl⟩ (by
   rintro k env β ⟨rfl,l,sz,x,a,b,rfl,B,hsz,rfl⟩
   have hl:=blen B
   have et:dr (f2 (gv 2) (f1 (gv 1) gJ) (cA true)) [.da (.list (ps.map a9)),.da (.list (l.map a9)),.da (.int sz),x.val,a.val,b.val] 0=.ok (!decide (sz=((l.map a9).length:Nat))) 0:=mL (neg:=true) rfl rfl
   rw[Lk] at et
   refine⟨_,_,et,?_⟩
   by_cases c:sz=(l.length:Nat)
   ·refine .inl ⟨by rw[K7 c];rfl,rfl,x,.fz (.int sz),a,b,?_⟩
    rcases hsz with h | ⟨lp,Bp,rfl,h⟩
    ·omega
    ·show [Sl.fz (.list (ps.map a9)),.fz (.list ((OM.jW n lp).map a9)),.fz (.int sz),x,a,b]=_
     rw[OM.Cs Bp (by omega)]
   ·refine .inr ⟨by rw[Lg c];rfl,?_⟩
    obtain⟨B2,hs⟩:=OM.u0 B
    have hl2:=blen B2
    have hge:l.length<=(OM.jW n l).length:=OM.fD (OM.kH B.ris) hs
    have eturn:∃x' a' b':Sl,aV (b6 2 [] (f1 (gv 1) gJ)) (aV (b6 3 [] (cy ao)) (aV (gN (.two 4 5) [1] (fm (gv 1)) (b6 3 ([] ++ ([] ++ [4])) (f2 (gv 3) (bV 2 [5,4] (.two 0 1) (fm (gv 1)) (dr (f2 (gv 0) (gv 2) (cA false))) (a7 (ae (gv 3) (ae (gv 1) ao)))) kY))) (b6 1 ([] ++ []) (f1 (f2 (gv 1) (gv 3) kY) cg)))) [.fz (.list (ps.map a9)),.fz (.list (l.map a9)),.fz (.int sz),x,a,b] 0
      =.nx [.fz (.list (ps.map a9)),.fz (.list ((OM.jW n l).map a9)),.fz (.int (l.length:Nat)),x',a',b'] 0:=by
     rw[aZ (env':=[.fz (.list (ps.map a9)),.fz (.list (l.map a9)),.fz (.int (l.length:Nat)),x,a,b]) (β':=0) ?g1]
     case g1=>
      show SO.nx [.fz (.list (ps.map a9)),.fz (.list (l.map a9)),.fz (.int ((l.map a9).length:Nat)),x,a,b] 0=_
      rw[Lk]
     have e3:cy ao [.da (.list (ps.map a9)),.da (.list (l.map a9)),.da (.int (l.length:Nat)),x.val,a.val,b.val] 0=.ok (.list []) 0:=hE rfl (by simp)
     rw[aZ (env':=[.fz (.list (ps.map a9)),.fz (.list (l.map a9)),.fz (.int (l.length:Nat)),.fz (.list []),a,b]) (β':=0) ?g2]
     case g2=>
      show toS (cy ao [.da (.list (ps.map a9)),.da (.list (l.map a9)),.da (.int (l.length:Nat)),x.val,a.val,b.val] 0) _=_
      rw[e3];rfl
     obtain⟨env2,β2,ef,rfl,a2,b2,rfl⟩:=iL (t:=.two 4 5) (m:=b6 3 ([] ++ ([] ++ [4])) (f2 (gv 3) (bV 2 [5,4] (.two 0 1) (fm (gv 1)) (dr (f2 (gv 0) (gv 2) (cA false))) (a7 (ae (gv 3) (ae (gv 1) ao)))) kY)) (ds:=l.map a9) (k:=0)
      (λi env β=>β=0/\∃a b:Sl,env= [.fz (.list (ps.map a9)),.fz (.list (l.map a9)),.fz (.int (l.length:Nat)),.fz (.list (((l.take i).flatMap (wM l)).map a9)),a,b]) (env:=[.fz (.list (ps.map a9)),.fz (.list (l.map a9)),.fz (.int (l.length:Nat)),.fz (.list []),a,b]) (β:=0) ⟨rfl,a,b,rfl⟩ (by
       rintro i d env β hi ⟨rfl,a,b,rfl⟩
       rw[K2] at hi
       cases q:l[i]? with
       |none=>rw[q] at hi;cases hi
       |some p=>
        rw[q] at hi
        cases hi
        have hil:i < l.length:=(Ld.mp q).1
        refine⟨[.fz (.list (ps.map a9)),.fz (.list (l.map a9)),.fz (.int (l.length:Nat)),.fz (.list (((l.take (0 + i)).flatMap (wM l)).map a9)),.fz (.int p.1),.fz (.int p.2)],rfl,[.fz (.list (ps.map a9)),.fz (.list (l.map a9)),.fz (.int (l.length:Nat)),.fz (.list (((l.take (0 + i + 1)).flatMap (wM l)).map a9)),.fz (.int p.1),.fz (.int p.2)],0,?_,rfl,_,_,rfl⟩
        have ec:bV 2 [5,4] (.two 0 1) (fm (gv 1)) (dr (f2 (gv 0) (gv 2) (cA false))) (a7 (ae (gv 3) (ae (gv 1) ao))) [.da (.list (ps.map a9)),.da (.list (l.map a9)),.da (.int (l.length:Nat)),.da (.list (((l.take (0 + i)).flatMap (wM l)).map a9)),.da (.int p.1),.da (.int p.2)] 0=.ok (.list ((wM l p).map a9)) 0:=by
         rw[xk (l:=l) (e:=a9) (λq=>decide (q.1=p.2)) (λq=>a9 (p.1,q.2)) rfl (by omega) (β1:=0)]
         ·unfold wM;rw[map_map];rfl
         ·intro q hq
          refine⟨_,rfl,mL (neg:=false) (i:=q.1) (j:=p.2) rfl rfl,λ_=>?_⟩
          exact oY (ds:=[.int p.1,.int q.2]) rfl (by simp)
        have hk:(l.take (0 + i)).length<=63:=by rw[LU];omega
        have hfl:=vU l (l.take (0 + i))
        have hfl2:(l.take (0 + i)).length * l.length<=63 * 63:=MS hk (by omega)
        have hm1:=yG l p
        have e5:f2 (gv 3) (bV 2 [5,4] (.two 0 1) (fm (gv 1)) (dr (f2 (gv 0) (gv 2) (cA false))) (a7 (ae (gv 3) (ae (gv 1) ao)))) kY [.da (.list (ps.map a9)),.da (.list (l.map a9)),.da (.int (l.length:Nat)),.da (.list (((l.take (0 + i)).flatMap (wM l)).map a9)),.da (.int p.1),.da (.int p.2)] 0=.ok (.list (((l.take (0 + i + 1)).flatMap (wM l)).map a9)) 0:=by
         refine bp rfl ec ?_
         rw[oX (by rw[Lk,Lk];omega),<-MH]
         have:l.take (0 + i + 1)=l.take (0 + i) ++ [p]:=by rw[Mz,Mp,q];rfl
         rw[this,List.flatMap_append,List.flatMap_cons,List.flatMap_nil,MF]
        show toS (f2 (gv 3) (bV 2 [5,4] (.two 0 1) (fm (gv 1)) (dr (f2 (gv 0) (gv 2) (cA false))) (a7 (ae (gv 3) (ae (gv 1) ao)))) kY [.da (.list (ps.map a9)),.da (.list (l.map a9)),.da (.int (l.length:Nat)),.da (.list (((l.take (0 + i)).flatMap (wM l)).map a9)),.da (.int p.1),.da (.int p.2)] 0) _=_
        rw[e5];rfl)
     rw[Mz,Lk,MJ (KR _)] at ef
     rw[aZ (env':=[.fz (.list (ps.map a9)),.fz (.list (l.map a9)),.fz (.int (l.length:Nat)),.fz (.list ((l.flatMap (wM l)).map a9)),a2,b2]) (β':=0) ?g3]
     case g3=>exact ef
     have hfl:=vU l l
     have hfl2:l.length * l.length<=63 * 63:=MS (by omega) (by omega)
     have e6:f1 (f2 (gv 1) (gv 3) kY) cg [.da (.list (ps.map a9)),.da (.list (l.map a9)),.da (.int (l.length:Nat)),.da (.list ((l.flatMap (wM l)).map a9)),a2.val,b2.val] 0=.ok (.list ((OM.jW n l).map a9)) 0:=by
      refine jT (x:=.list ((l ++ OM.more l).map a9)) (bp rfl rfl ?_) (nX h8 (OM.Bs B) hl2 rfl)
      rw[oX (by rw[Lk,Lk];omega),<-MH];rfl
     refine⟨.fz (.list ((l.flatMap (wM l)).map a9)),a2,b2,?_⟩
     show toS (f1 (f2 (gv 1) (gv 3) kY) cg [.da (.list (ps.map a9)),.da (.list (l.map a9)),.da (.int (l.length:Nat)),.da (.list ((l.flatMap (wM l)).map a9)),a2.val,b2.val] 0) _=_
     rw[e6];rfl
    obtain⟨x',a',b',et2⟩:=eturn
    refine⟨_,_,_,et2,?_,rfl,_,_,_,_,_,rfl,B2,.inr ⟨l,B,rfl,rfl⟩,rfl⟩
    rw[K0 c]
    split <;> omega)
 rw[aZ ew]
 rfl
def wB (ms:List Int)(ps:List Pr):Prop:=∀p,p∈ps->∃i j:Nat,i < j/\ms[i]? =some p.1/\ms[j]? =some p.2
theorem p9 {α:Type}:∀{l:List α} {i j:Nat} {x:α},l.Nodup->l[i]? =some x->l[j]? =some x->i=j
 | [],_,_,_,_,h,_=>by simp at h
 |y :: l,0,0,_,_,_,_=>rfl
 |y :: l,0,j + 1,x,nd,h1,h2=>by
  simp at h1
  subst h1
  exact absurd (K8 (by simpa using h2)) (LG.mp nd).1
 |y :: l,i + 1,0,x,nd,h1,h2=>by
  simp at h2
  subst h2
  exact absurd (K8 (by simpa using h1)) (LG.mp nd).1
 |y :: l,i + 1,j + 1,x,nd,h1,h2=>by
  rw[p9 (l:=l) (i:=i) (j:=j) (LG.mp nd).2 (by simpa using h1) (by simpa using h2)]
def Bu {ms:List Int}{ps:List Pr}(nd:ms.Nodup)(h:wB ms ps){a b:Int}(t:OM.Tr (OM.Mem ps) a b):∃i j:Nat,i < j/\ms[i]? =some a/\ms[j]? =some b:=by
 refine t.least (S:=λa b=>∃i j:Nat,i < j/\ms[i]? =some a/\ms[j]? =some b) (λa b r=>h _ r) ?_
 rintro a b c ⟨i,j,hij,h1,h2⟩ ⟨k,l,hkl,h3,h4⟩
 have:=p9 nd h2 h3
 exact⟨i,l,by omega,h1,h4⟩
def AG {ms:List Int}{ps:List Pr}(nd:ms.Nodup)(h:wB ms ps)(a:Int):¬OM.Tr (OM.Mem ps) a a:=λt=>by
 obtain⟨i,j,hij,h1,h2⟩:=Bu nd h t
 have:=p9 nd h1 h2
 omega
def oA (n:Nat):List Int:=(List.range n).map λ(k:Nat)=>(k:Int)
def yV (n:Nat):(oA n).length=n:=by unfold oA;simp
def yD {n:Nat}{x:Int}:x∈oA n↔0<=x/\x < n:=by
 unfold oA
 rw[K9]
 constructor
 ·rintro⟨k,hk,rfl⟩
  have:=Ll.mp hk
  omega
 ·intro h
  exact⟨x.toNat,Ll.mpr (by omega),by omega⟩
def zW (n:Nat):(oA n).Nodup:=by
 unfold oA
 rw[List.nodup_iff_pairwise_ne,LS]
 exact (List.nodup_iff_pairwise_ne.mp MA).imp λ{a b} h e=>h (by omega)
def Av (n:Nat):cw 0 n=(oA n).map int:=by
 unfold cw oA
 rw[map_map]
 refine Mj λk _=>?_
 show int (0 + (k:Int))=_
 rw[Ml];rfl
theorem iG {lo:Int}{n i:Nat}{d:D}(h:(cw lo n)[i]? =some d):i < n/\d=.int (lo + i):=by
 unfold cw at h
 rw[K2] at h
 cases q:(List.range n)[i]? with
 |none=>rw[q] at h;cases h
 |some j=>
  rw[q] at h
  cases h
  obtain⟨hi,ej⟩:=Ld.mp q
  rw[Ng] at hi
  rw[List.getElem_range] at ej
  subst ej
  exact⟨hi,rfl⟩
def vC {n:Nat}(h:n<=1000):gH (.int n)=some (.list ((oA n).map int)):=by
 unfold gH
 dsimp only
 rw[KU ⟨by omega,by omega⟩,LK,Av]
def ko {fa:VF D}{vs:List Nv}{β β1:Int}{n:Nat}(h:fa vs β=.ok (.int n) β1)(hn:n<=1000):kc fa vs β=.ok (cw 0 n) β1:=by
 unfold kc
 rw[h]
 simp only[lR]
 rw[KU (nV (by omega) (by omega)),LK]
def CC {fa fb:VF D}{vs:List Nv}{β β1 β2:Int}{i j:Int}(h:fa vs β=.ok (.int i) β1)(h':fb vs β1=.ok (.int j) β2)(hi:0<=i/\i<=1000)(hj:0<=j/\j<=1000):sJ fa fb vs β=.ok (cw i (j - i).toNat) β2:=by
 unfold sJ
 rw[h]
 simp only[lR]
 rw[h']
 simp only[lR]
 rw[KU (by rw[nV (by omega) (by omega),nV (by omega) (by omega)];rfl)]
def qP {t:Tg}{L:List Nat}{fi:VF (List D)}{m:SF}{env:En}{β β1:Int}{ds:List D}(h:fi (vl env) β=.ok ds β1):gN t L fi m env β=ux t m ds (bt L env) β1:=by unfold gN;rw[h];rfl
noncomputable def uI:List D->Int->FB:=wI 8 1 (fU iH cT pA)
def zI {n:Nat}{ms:List Int}{ps:List Pr}(h1:1<=n)(h8:n<=8)(hp:ms.Perm (oA n))(ha:wB ms ps):OM.Wn n ps/\(∀a,¬OM.Tr (OM.Mem ps) a a)/\OM.Ord n (OM.bP n (OM.Tr (OM.Mem ps))):=by
 have nd:ms.Nodup:=hp.nodup_iff.mpr (zW n)
 have w:OM.Wn n ps:=λp hm=>by
  obtain⟨i,j,_,e1,e2⟩:=ha p hm
  have m1:=yD.mp (hp.mem_iff.mp (K8 e1))
  have m2:=yD.mp (hp.mem_iff.mp (K8 e2))
  exact⟨m1,m2⟩
 have ir:=λa=>AG nd ha a
 exact⟨w,ir,OM.FG h1 h8 w ir⟩
def mr {m:Nat}(h:1<=m)(h2:m<=1000)(β:Int):∃j:Nat,j < m/\cT [.int m] β=.ok (.int (j:Int)) false (β / m):=by
 refine⟨(β % m).toNat,?_,?_⟩
 ·have h0:=Int.emod_nonneg β (b:=(m:Int)) (by omega)
  have h3:=Int.emod_lt_of_pos β (b:=(m:Int)) (by omega)
  omega
 ·rw[tf (by omega) (by omega)]
  have h0:=Int.emod_nonneg β (b:=(m:Int)) (by omega)
  rw[show ((β % m).toNat:Int)=β % m by omega]
def Cw {most:Nat}(hm1:1<=most)(hm8:most<=8)(β:Int):∃(n:Nat) (l:List Pr) (β':Int),uI [.int most] β=.ok (bh n l) false β'/\OM.Ord n l/\n<=most:=by
 obtain⟨j,hj,ej⟩:=mr hm1 (by omega) β
 show ∃(n:Nat) (l:List Pr) (β':Int),DP (fU iH cT pA [.bx,.fz (.int most),.no,.no,.no,.no,.no,.no] β)=.ok (bh n l) false β'/\OM.Ord n l/\n<=most
 unfold fU
 generalize hβ1:β / (most:Int)=β1 at ej
 have n8:1 + j<=8:=by omega
 have e1:f2 (cst (.int 1)) (oi 0 cT (ae (gv 1) ao)) dC [Nv.bx,.da (.int most),.no,.no,.no,.no,.no,.no] β=.ok (.int ((1 + j:Nat):Int)) β1:=by
  refine bp (x:=.int 1) rfl (ly (by rfl) rfl ej) ?_
  show some (int (1 + (j:Int)))=_
  rw[show ((1 + j:Nat):Int)=1 + (j:Int) by omega]
 rw[aZ (env':=[.bx,.fz (.int most),.fz (.int ((1 + j:Nat):Int)),.no,.no,.no,.no,.no]) (β':=β1) ?g1]
 case g1=>
  show toS (f2 (cst (.int 1)) (oi 0 cT (ae (gv 1) ao)) dC [Nv.bx,.da (.int most),.no,.no,.no,.no,.no,.no] β) _=_
  rw[e1];rfl
 generalize hn:1 + j=n at n8
 have n1:1<=n:=by omega
 obtain⟨ms,β2,em,hp⟩:=Em (oA n) (by rw[yV];omega) β1
 have hml:ms.length=n:=by rw[hp.length_eq,yV]
 have e2:oi 0 pA (ae (f1 (gv 2) gH) ao) [Nv.bx,.da (.int most),.da (.int n),.no,.no,.no,.no,.no] β1=.ok (.list (ms.map int)) β2:=by
  refine ly (ds:=[.list ((oA n).map int)]) (b:=true) (β1:=β1) (by rfl) ?_ em
  rw[dJ,jT (x:=.int n) (d:=.list ((oA n).map int)) (β1:=β1) rfl (vC (by omega))];rfl
 rw[aZ (env':=[.bx,.fz (.int most),.fz (.int n),.fz (.list (ms.map int)),.no,.no,.no,.no]) (β':=β2) ?g2]
 case g2=>
  show toS (oi 0 pA (ae (f1 (gv 2) gH) ao) [Nv.bx,.da (.int most),.da (.int n),.no,.no,.no,.no,.no] β1) _=_
  rw[e2];rfl
 obtain⟨q,hq,eq⟩:=mr (m:=4) (by omega) (by omega) β2
 obtain⟨th,hth,hthv⟩:∃th:Nat,([2,3,4,7]:List Nat)[q]? =some th/\1<=th/\th<=7:=by
  rcases (show q=0\/q=1\/q=2\/q=3 by omega) with rfl |rfl |rfl |rfl
  ·exact⟨2,rfl,by omega,by omega⟩
  ·exact⟨3,rfl,by omega,by omega⟩
  ·exact⟨4,rfl,by omega,by omega⟩
  ·exact⟨7,rfl,by omega,by omega⟩
 generalize hβ3:β2 / ((4:Nat):Int)=β3 at eq
 have e3:f2 (cy (ae (cst (.int 2)) (ae (cst (.int 3)) (ae (cst (.int 4)) (ae (cst (.int 7)) ao))))) (oi 0 cT (ae (cst (.int 4)) ao)) jR [Nv.bx,.da (.int most),.da (.int n),.da (.list (ms.map int)),.no,.no,.no,.no] β2=.ok (.int th) β3:=by
  refine bp (x:=.list (([2,3,4,7]:List Nat).map λ(k:Nat)=>int (k:Int))) (y:=.int q) (hE rfl (by simp)) (ly (ds:=[.int 4]) (by rfl) rfl eq) ?_
  show lx (([2,3,4,7]:List Nat).map λ(k:Nat)=>int (k:Int)) (q:Int)=_
  rw[l9,oQ hth];rfl
 rw[aZ (env':=[.bx,.fz (.int most),.fz (.int n),.fz (.list (ms.map int)),.fz (.int th),.no,.no,.no]) (β':=β3) ?g3]
 case g3=>
  show toS (f2 (cy (ae (cst (.int 2)) (ae (cst (.int 3)) (ae (cst (.int 4)) (ae (cst (.int 7)) ao))))) (oi 0 cT (ae (cst (.int 4)) ao)) jR [Nv.bx,.da (.int most),.da (.int n),.da (.list (ms.map int)),.no,.no,.no,.no] β2) _=_
  rw[e3];rfl
 have e4:cy ao [Nv.bx,.da (.int most),.da (.int n),.da (.list (ms.map int)),.da (.int th),.no,.no,.no] β3=.ok (.list []) β3:=hE rfl (by simp)
 rw[aZ (env':=[.bx,.fz (.int most),.fz (.int n),.fz (.list (ms.map int)),.fz (.int th),.ow (.list []),.no,.no]) (β':=β3) ?g4]
 case g4=>
  show toS (cy ao [Nv.bx,.da (.int most),.da (.int n),.da (.list (ms.map int)),.da (.int th),.no,.no,.no] β3) _=_
  rw[e4];rfl
 obtain⟨env',β',ef,ps,a,b,rfl,hal,hpl⟩:=iL (t:=.nm 6) (m:=gN (.nm 7) (([] ++ []) ++ []) (sJ (f2 (gv 6) (cst (.int 1)) dC) (gv 2))
   (fx (([4] ++ []) ++ []) (dr (f2 (oi 0 cT (ae (gv 4) ao)) (cst (.int 0)) (cA false)))
   (x8 5 (([] ++ []) ++ (([] ++ []) ++ [])) (a7 (ae (f2 (gv 3) (gv 6) jR) (ae (f2 (gv 3) (gv 7) jR) ao)))) uT)) (ds:=cw 0 n) (k:=0)
  (λi env β=>∃(ps:List Pr) (a b:Sl),env= [.bx,.fz (.int most),.fz (.int n),.fz (.list (ms.map int)),.fz (.int th),.ow (.list (ps.map a9)),a,b]/\wB ms ps/\ps.length<=8 * i)
  (env:=[.bx,.fz (.int most),.fz (.int n),.fz (.list (ms.map int)),.fz (.int th),.ow (.list []),.no,.no]) (β:=β3) ⟨[],.no,.no,rfl,λp hp=>(by cases hp),by simp⟩ (by
   rintro i d env β hi ⟨ps,a,b,rfl,hal,hpl⟩
   obtain⟨hin,rfl⟩:=iG hi
   refine⟨[.bx,.fz (.int most),.fz (.int n),.fz (.list (ms.map int)),.fz (.int th),.ow (.list (ps.map a9)),.fz (.int (0 + (i:Int))),b],rfl,?_⟩
   have er:sJ (f2 (gv 6) (cst (.int 1)) dC) (gv 2) [Nv.bx,.da (.int most),.da (.int n),.da (.list (ms.map int)),.da (.int th),.da (.list (ps.map a9)),.da (.int (0 + (i:Int))),b.val] β=.ok (cw (0 + (i:Int) + 1) ((n:Int) - (0 + (i:Int) + 1)).toNat) β:=CC rfl rfl ⟨by omega,by omega⟩ ⟨by omega,by omega⟩
   rw[qP (env:=[.bx,.fz (.int most),.fz (.int n),.fz (.list (ms.map int)),.fz (.int th),.ow (.list (ps.map a9)),.fz (.int (0 + (i:Int))),b]) er]
   obtain⟨env',β',ef,qs,b,rfl,hal2,hql⟩:=iL (t:=.nm 7) (m:=fx (([4] ++ []) ++ []) (dr (f2 (oi 0 cT (ae (gv 4) ao)) (cst (.int 0)) (cA false)))
     (x8 5 (([] ++ []) ++ (([] ++ []) ++ [])) (a7 (ae (f2 (gv 3) (gv 6) jR) (ae (f2 (gv 3) (gv 7) jR) ao)))) uT) (ds:=cw (0 + (i:Int) + 1) ((n:Int) - (0 + (i:Int) + 1)).toNat) (k:=0)
    (λk env β=>∃(qs:List Pr) (b:Sl),env= [.bx,.fz (.int most),.fz (.int n),.fz (.list (ms.map int)),.fz (.int th),.ow (.list (qs.map a9)),.fz (.int (0 + (i:Int))),b]/\wB ms qs/\qs.length<=8 * i + k)
    (env:=[.bx,.fz (.int most),.fz (.int n),.fz (.list (ms.map int)),.fz (.int th),.ow (.list (ps.map a9)),.fz (.int (0 + (i:Int))),b]) (β:=β) ⟨ps,b,rfl,hal,by omega⟩ (by
     rintro k d env β hk ⟨qs,b,rfl,hal,hql⟩
     obtain⟨hkn,rfl⟩:=iG hk
     have hkn:i + 1 + k < n:=by omega
     refine⟨[.bx,.fz (.int most),.fz (.int n),.fz (.list (ms.map int)),.fz (.int th),.ow (.list (qs.map a9)),.fz (.int (0 + (i:Int))),.fz (.int (0 + (i:Int) + 1 + (k:Int)))],rfl,?_⟩
     obtain⟨z,hz,ez⟩:=mr hthv.1 (by omega) β
     have et:dr (f2 (oi 0 cT (ae (gv 4) ao)) (cst (.int 0)) (cA false)) [Nv.bx,.da (.int most),.da (.int n),.da (.list (ms.map int)),.da (.int th),.da (.list (qs.map a9)),.da (.int (0 + (i:Int))),.da (.int (0 + (i:Int) + 1 + (k:Int)))] β=.ok (decide ((z:Int)=0)) (β / th):=mL (neg:=false) (ly (ds:=[.int th]) (by rfl) rfl ez) rfl
     by_cases c:(z:Int)=0
     ·rw[K7 c] at et
      have h1:i < ms.length:=by omega
      have h2:i + 1 + k < ms.length:=by omega
      refine⟨[.bx,.fz (.int most),.fz (.int n),.fz (.list (ms.map int)),.fz (.int th),.ow (.list ((qs ++ [(ms[i],ms[i + 1 + k])]).map a9)),.fz (.int (0 + (i:Int))),.fz (.int (0 + (i:Int) + 1 + (k:Int)))],β / th,?_,qs ++ [(ms[i],ms[i + 1 + k])],_,rfl,?_,?_⟩
      ·rw[bD et]
       have ep:a7 (ae (f2 (gv 3) (gv 6) jR) (ae (f2 (gv 3) (gv 7) jR) ao)) [Nv.bx,.da (.int most),.da (.int n),.da (.list (ms.map int)),.da (.int th),.da (.list (qs.map a9)),.da (.int (0 + (i:Int))),.da (.int (0 + (i:Int) + 1 + (k:Int)))] (β / th)=.ok (a9 (ms[i],ms[i + 1 + k])) (β / th):=by
        refine oY (ds:=[.int ms[i],.int ms[i + 1 + k]]) ?_ (by simp)
        have a1:f2 (gv 3) (gv 6) jR [Nv.bx,.da (.int most),.da (.int n),.da (.list (ms.map int)),.da (.int th),.da (.list (qs.map a9)),.da (.int (0 + (i:Int))),.da (.int (0 + (i:Int) + 1 + (k:Int)))] (β / th)=.ok (.int ms[i]) (β / th):=by
         refine bp rfl rfl ?_
         show lx (ms.map int) (0 + (i:Int))=_
         rw[Ml,l9,uO h1];rfl
        have a2:f2 (gv 3) (gv 7) jR [Nv.bx,.da (.int most),.da (.int n),.da (.list (ms.map int)),.da (.int th),.da (.list (qs.map a9)),.da (.int (0 + (i:Int))),.da (.int (0 + (i:Int) + 1 + (k:Int)))] (β / th)=.ok (.int ms[i + 1 + k]) (β / th):=by
         refine bp rfl rfl ?_
         show lx (ms.map int) (0 + (i:Int) + 1 + (k:Int))=_
         rw[show (0 + (i:Int) + 1 + (k:Int))=((i + 1 + k:Nat):Int) by omega,l9,uO h2];rfl
        rw[dJ,a1]
        dsimp only[R.bnd]
        rw[dJ,a2];rfl
       have:=EL (i:=5) (L:=([] ++ []) ++ (([] ++ []) ++ [])) (env:=[.bx,.fz (.int most),.fz (.int n),.fz (.list (ms.map int)),.fz (.int th),.ow (.list (qs.map a9)),.fz (.int (0 + (i:Int))),.fz (.int (0 + (i:Int) + 1 + (k:Int)))]) (ds:=qs.map a9) (by rfl) ep (by rfl) (by rw[Lk];omega)
       rw[MH]
       exact this
      ·intro p hp
       rcases Lp.mp hp with hp |hp
       ·exact hal p hp
       ·have:p=(ms[i],ms[i + 1 + k]):=by simpa using hp
        subst this
        exact⟨i,i + 1 + k,by omega,KP h1,KP h2⟩
      ·rw[LC];simp;omega
     ·rw[Lg c] at et
      refine⟨_,_,by rw[au et];rfl,qs,_,rfl,hal,by omega⟩)
   have hlen:(cw (0 + (i:Int) + 1) ((n:Int) - (0 + (i:Int) + 1)).toNat).length<=7:=by rw[sh];omega
   exact⟨_,_,ef,qs,_,b,rfl,hal2,by omega⟩)
 rw[aZ (env':=[.bx,.fz (.int most),.fz (.int n),.fz (.list (ms.map int)),.fz (.int th),.ow (.list (ps.map a9)),a,b]) (β':=β') ?g5]
 case g5=>
  rw[qP (env:=[.bx,.fz (.int most),.fz (.int n),.fz (.list (ms.map int)),.fz (.int th),.ow (.list []),.no,.no]) (ko (n:=n) rfl (by omega))]
  exact ef
 obtain⟨w,ir,O⟩:=zI n1 n8 hp hal
 refine⟨n,OM.bP n (OM.Tr (OM.Mem ps)),β',?_,O,by omega⟩
 have e9:a7 (ae (gv 2) (ae (aA iH (ae (gv 5) ao)) ao)) [Nv.bx,.da (.int most),.da (.int n),.da (.list (ms.map int)),.da (.int th),.da (.list (ps.map a9)),a.val,b.val] β'=.ok (bh n (OM.bP n (OM.Tr (OM.Mem ps)))) β':=by
  refine oY (ds:=[.int n,.tuple ((OM.bP n (OM.Tr (OM.Mem ps))).map a9)]) ?_ (by simp)
  have a1:aA iH (ae (gv 5) ao) [Nv.bx,.da (.int most),.da (.int n),.da (.list (ms.map int)),.da (.int th),.da (.list (ps.map a9)),a.val,b.val] β'=.ok (.tuple ((OM.bP n (OM.Tr (OM.Mem ps))).map a9)) β':=cj rfl (Ah n1 n8 w ir)
  rw[dJ]
  show (R.ok (int n) β').bnd _=_
  dsimp only[R.bnd]
  rw[dJ,a1];rfl
 show DP (toS (a7 (ae (gv 2) (ae (aA iH (ae (gv 5) ao)) ao)) [Nv.bx,.da (.int most),.da (.int n),.da (.list (ms.map int)),.da (.int th),.da (.list (ps.map a9)),a.val,b.val] β') _)=_
 rw[e9];rfl
theorem Ed {fa fb:VF D}{vs:List Nv}{β:Int}{a b:Bool}(h:fa vs β=.ok (.bool a) β)(h':fb vs β=.ok (.bool b) β):la fa fb vs β=.ok (.bool (a && b)) β:=by
 unfold la
 rw[h]
 dsimp only[R.bnd]
 cases a with
 |true=>exact h'
 |false=>rfl
def J0 {n:Nat}{l:List Pr}{fa:VF D}{vs:List Nv}{β:Int}(h:fa vs β=.ok (bh n l) β):f2 fa (cst (.int 0)) jR vs β=.ok (.int n) β:=bp h rfl rfl
def j9 (n:Nat):(OM.gL n).length=n * n:=by unfold OM.gL;simp
def E7 {fa:VF D}{vs:List Nv}{β:Int}{c:Bool}(h:fa vs β=.ok (.bool c) β):vG fa vs β=.ok c β:=by rw[nh,h];rfl
end RM
namespace L2
open PySem PyProof.Rows
section
variable {X:Cx}{Γ:Fx}{E:XK}{pos:Pos}
def Du:SE X Γ E (.Dict [] [] pos) (cst (.dict [])) [] .v:=by
 refine PE.post' Cq ?_
 rintro σ H Q ⟨env,G,B,β,I,o⟩ p hp
 have o:∀v G' H',SR Γ B G' H' σ (bt [] env) β->ax G G'->gV B H H'->Rp Γ.K G' v (.dict [])->Q v H':=o
 have xn:=Ext.new I.sub (o:=.dK []) hp
 exact o _ _ _ (I.ext xn) xn.gg (xn.hh.mov B) (.dK (kvs:=[]) az .nil)
end
end L2
namespace L2
open PySem PySem.Spec PyProof.Rows
def v3 (marks:Str->Option Str)(m:SF):SF:=λenv β=>if jt env=true then (match m env 0 with
 | .rt d fr _=>.rt d fr β
 | .exc c=>(match marks c with
  |some x=>.rt (.str x) false β
  |none=>.bad)
 | .nx e _=>if jt e=true then .nx e β else .bad
 |_=>.bad) else .bad
section
variable {X:Cx}{Γ:Fx}{E:XK}{m:SF}
def SR.undropN {B B':Option Addr}{G H G' H':Hp}{σ σ':St}{env env':En}{β β':Int}(I:SR Γ B G H σ env β)(J:SR (Fx.fn Γ.K H G Γ.ca) B' G' H' σ' env' β')(hf:jt env'=true):SR Γ B G' H' σ' env' β:=by
 have kp:∀b o,H b=some o->Kt H' b o:=λb o e=>J.keep b o e (by simp)
 have ks:ax H H':=kp
 refine⟨J.sub,I.old.trans J.old,λb h1 h2=>J.new b (I.thereM h1) (I.new b h1 h2),λb o h1 h2=>(I.keep b o h1 h2).step ks,λb hb=>(I.pin b hb).same (kp b),I.fix,λb e=>?_,J.len,λi s e=>?_,λi j a d e h=>?_⟩
 ·obtain⟨h1,h2,h3⟩:=I.box b e
  exact⟨kp b _ h1,J.new b (Mx.lst h1) h2,h3⟩
 ·rcases gq hf e with rfl | ⟨d,rfl⟩
  ·trivial
  ·exact J.slot i _ e
 ·rcases gq hf h with z | ⟨_,z⟩ <;> cases z
def Cd {n x y:Str}{i k:Nat}{Dc gm:Addr}{dm:FuncData}{W:Addr->Str->Prop}{marks:Str->Option Str}{np hpos pos cp fp ap rp:Pos}{body:List Stmt}(hb:∀Eb Ex pn H G,Passes (mq X.prog X.w) (X.inTry Ex pn) Eb->Ar (X.inTry Ex pn) (Fx.fn Γ.K H G Γ.ca) Eb body m)
  (hM:rR X.prog X.w X.K X.mg X.base xZ k gm dm ["e"] (Hv W)) (hr:∀e,oo k (X.inEx e).A) (hmg:X.mg y=some (.ref gm)) (hkp:PySem.W.keepIn X.K (.ref gm)=true) (hbi:Binds X.K dm ["e"] [])
  (hw:∀c z,marks c=some z->Mt X.K (.ref (Γ.ca c)) Dc/\W (Γ.ca c) z)
  (hm:X.mg x=some (.ref Dc)) (hN:X.N.Nodup) (hgy:∀e,Gl (X.inEx e) y:=by intro _;rfl) (hst:X.stack=X.env :: X.outer:=by rfl) (hfr:X.env.frame=some X.env.locals:=by rfl) (hex:X.ex= []:=by rfl) (hg:Gl X x:=by rfl) (hi:X.N[i]? =some n:=by rfl) (hk:X.env.scope.names.lookup n=some .local:=by rfl)
  (hd:(n == ("__debug__":Str))=false:=by decide) (hcd:(n == ("__classdict__":Str))=false:=by decide)
  (hdb:(x == ("__debug__":Str))=false:=by decide) (hdy:(y == ("__debug__":Str))=false:=by decide)
  (he:∀e,starEach [.Name n ap] (X.inEx e).env=(false,eval (.Name n ap) (X.inEx e).env) :: starEach [] (X.inEx e).env:=by intro _;rfl) :
  SS X Γ E (.Try body [.ExceptHandler (some (.Name x np)) (some n) [.Return (some (.Call (.Name y fp) [.Name n ap] [] cp)) rp] hpos] [] [] pos) (v3 marks m):=by
 have hbU:∀Eb Ex pn,Passes (mq X.prog X.w) (X.inTry Ex pn) Eb->oB (X.inTry Ex pn) body (λD σ H=>∃H0 G0,sT (Fx.fn Γ.K H0 G0 Γ.ca) Eb m D σ H):=λEb Ex pn hp pins s σ H D I ⟨H0,G0,q⟩=>hb Eb Ex pn H0 G0 hp pins s σ H D I q
 have hsU:∀e,oB (X.inEx e) [.Return (some (.Call (.Name y fp) [.Name n ap] [] cp)) rp] _:=λe=>cZ (iB (BN hM (hr e) (hgy e) hmg hkp hbi .nil Fh (ay (i4 (i:=i) hi (Or.inl hk) hd hcd) aU (he e)) hdy (he e) rfl))
 refine PS.post (Ga (i:=i) hst hfr hex hbU hsU hg hm hN hi hk hdb) λN σ H ⟨env,G,B,β,I,o⟩=>?_
 unfold v3 at o
 by_cases hf:jt env=true
 case neg=>rw[K0 hf] at o;exact o.elim
 rw[KU hf] at o
 refine⟨λcls _ H'=>∃c z,cls=.ref (Γ.ca c)/\marks c=some z/\ax H H'/\m env 0=.exc c,⟨H,G,env,G,none,0,I.drop hf,?_⟩,?_⟩
 ·cases q:m env 0 with
  |nx e b=>
   rw[q] at o
   dsimp only at o
   by_cases hf2:jt e=true
   case neg=>rw[K0 hf2] at o;exact o.elim
   rw[KU hf2] at o
   intro B' G' H' σ' J s
   exact o B G' H' σ' (I.undropN J hf2) s
  |bk e b=>rw[q] at o;exact o.elim
  |ct e b=>rw[q] at o;exact o.elim
  |bad=>rw[q] at o;exact o.elim
  |rt d fr b=>
   rw[q] at o
   intro B' G' H' σ' env' v J s rv
   refine o B G' H' σ _ v (I.undrop J) s ?_
   unfold RV at rv ⊢
   cases fr with
   |false=>exact rv
   |true=>
    rw[KU rfl] at rv ⊢
    obtain⟨a,rfl,h1,h2,h3⟩:=rv
    exact⟨a,rfl,(I.fresh h1).1,h2,h3⟩
  |exc c=>
   rw[q] at o
   intro H' kp
   cases q2:marks c with
   |none=>dsimp only at o;rw[q2] at o;exact o.elim
   |some z=>exact⟨c,z,rfl,q2,λb u e=>kp b u e (by simp),rfl⟩
 ·rintro cls d H' ⟨c,z,rfl,q2,s',q⟩
  rw[q] at o
  dsimp only at o
  rw[q2] at o
  obtain⟨w1,w2⟩:=hw c z q2
  refine⟨w1,λea σ' hea hlen=>?_⟩
  have hil:i < σ'.length:=by rw[hlen];exact (Ld.mp hi).1
  refine⟨.ref ea,K4 hil,ea,_,z,rfl,az,w2,λH2 s2=>?_⟩
  exact o B G H2 σ _ (.str z) (I.forget ((s'.trans (ax.new hea)).trans s2)) (ax.refl _) (Rp.str z)
def Ew {n x y:Str}{i k:Nat}{marks:Str->Option Str}{np hpos pos cp fp ap rp:Pos}{body:List Stmt}(M:DU X.prog X.w X.K X.mg X.base Γ.ca x y marks)(hr:dN (k + 1) X.A)(hb:∀Eb Ex pn H G,Passes (mq X.prog X.w) (X.inTry Ex pn) Eb->Ar (X.inTry Ex pn) (Fx.fn Γ.K H G Γ.ca) Eb body m)
  (hN:X.N.Nodup) (hgy:∀e,Gl (X.inEx e) y:=by intro _;rfl) (hst:X.stack=X.env :: X.outer:=by rfl) (hfr:X.env.frame=some X.env.locals:=by rfl) (hex:X.ex= []:=by rfl) (hg:Gl X x:=by rfl) (hi:X.N[i]? =some n:=by rfl) (hk:X.env.scope.names.lookup n=some .local:=by rfl)
  (hd:(n == ("__debug__":Str))=false:=by decide) (hcd:(n == ("__classdict__":Str))=false:=by decide)
  (hdb:(x == ("__debug__":Str))=false:=by decide) (hdy:(y == ("__debug__":Str))=false:=by decide)
  (he:∀e,starEach [.Name n ap] (X.inEx e).env=(false,eval (.Name n ap) (X.inEx e).env) :: starEach [] (X.inEx e).env:=by intro _;rfl) :
  SS X Γ E (.Try body [.ExceptHandler (some (.Name x np)) (some n) [.Return (some (.Call (.Name y fp) [.Name n ap] [] cp)) rp] hpos] [] [] pos) (v3 marks m):=by
 obtain⟨gm,Dc,dm,W,h1,h2,h3,h4,h5,h6⟩:=M.ex
 exact Cd (i:=i) hb h1 (λe=>((hr.mono (by omega)).mark _)) h2 h3 h4 h6 h5 hN hgy hst hfr hex hg hi hk hd hcd hdb hdy he
end
def dP:SF:=λ_ _=>.bad
def Iy:VF D:=λ_ _=>.bad
section
variable {X:Cx}{Γ:Fx}{E:XK}
def bf {sts:List Stmt}:Ar X Γ E sts dP:=λpins s σ H D I ⟨env,G,B,β,J,o⟩=>o.elim
def GK {e:Expr}{L:List Nat}{md:Md}:SE X Γ E e Iy L md:=λpins s σ H Q I ⟨env,G,B,β,J,o⟩=>o.elim
end
end L2
namespace RM
open PySem L2
def bA (af:List D->FR):SF:=(aV (aR ([0] ++ []) (aA af (ae (gv 0) ao)))
 dP)
def jj (aB:List D->FR):SF:=(aV (aR ([0] ++ ([1] ++ [])) (aA aB (ae (gv 0) (ae (gv 1) ao))))
 dP)
def g7 (aB:List D->FR):SF:=(aV (aR ([0] ++ ([1] ++ [])) (aA aB (ae (gv 0) (ae (gv 1) ao))))
 dP)
def jG (aB:List D->FR):SF:=(aV (aR ([0] ++ ([1] ++ [])) (aA aB (ae (gv 0) (ae (gv 1) ao))))
 dP)
def dg (af:List D->FR):SF:=(aV (aR ([0] ++ []) (aA af (ae (gv 0) ao)))
 dP)
def gZ (af:List D->FR):SF:=(aV (aR ([0] ++ []) (aA af (ae (gv 0) ao)))
 dP)
def hZ (af:List D->FR):SF:=(aV (aR ([1] ++ []) (aA af (ae (gv 1) ao)))
 dP)
def dI (af:List D->FR):SF:=(aV (aR ([0] ++ []) (aA af (ae (gv 0) ao)))
 dP)
def fJ (af:List D->FR):SF:=(aV (aR ([0] ++ []) (aA af (ae (gv 0) ao)))
 dP)
def fZ (af:List D->FR):SF:=(aV (aR ([0] ++ []) (aA af (ae (gv 0) ao)))
 dP)
def kP (af:List D->FR):SF:=(aV (aR ([1] ++ []) (aA af (ae (gv 1) ao)))
 dP)
def dc (af:List D->FR):SF:=(aV (aR ([0] ++ []) (aA af (ae (gv 0) ao)))
 dP)
def dh (af:List D->FR):SF:=(aV (aR ([0] ++ []) (aA af (ae (gv 0) ao)))
 dP)
def mC (af:List D->FR):SF:=(aV (aR ([0] ++ []) (aA af (ae (gv 0) ao)))
 dP)
def gf (af:List D->FR):SF:=(aV (aR ([1] ++ []) (aA af (ae (gv 1) ao)))
 dP)
def gY (af:List D->FR):SF:=(aV (aR ([0] ++ []) (aA af (ae (gv 0) ao)))
 dP)
def fF (cz bE:List D->FR):SF:=(mQ (bV 1 [0] (.nm 0) (fm (aA cz (ae (gv 0) ao))) AW (aA bE (ae (gv 1) (ae (gv 0) ao)))))
def jf (af:List D->FR):SF:=(aV (aR ([0] ++ []) (aA af (ae (gv 0) ao)))
 dP)
def kB (af:List D->FR):SF:=(aV (aR ([1] ++ []) (aA af (ae (gv 1) ao)))
 dP)
def ja (af:List D->FR):SF:=(aV (aR ([0] ++ []) (aA af (ae (gv 0) ao)))
 dP)
def fV (af:List D->FR):SF:=(aV (aR ([1] ++ []) (aA af (ae (gv 1) ao)))
 dP)
def g9 (gF:List D->FR):SF:=(aV (fx (([1] ++ ([0] ++ [])) ++ ([] ++ [])) (qQ (xG (vG (aA gF (ae (gv 1) (ae (gv 0) ao))))) (dr (f2 (f1 (gv 1) gJ) (cst (.int 2)) (cA true))))
 (λenv β=>toS ((ae (cst (.str "these are no two rows that tell the order")) ao) (vl env) β) λds _=>if ds.length<=sizeLine then .exc "NoRows" else .bad)
 uT)
 dP)
def kX (bw:List D->FR):SF:=(aV (fx ([1] ++ ([0] ++ [])) (xG (vG (aA bw (ae (gv 1) (ae (gv 0) ao)))))
 (λenv β=>toS ((ae (cst (.str "these are no points of the order")) ao) (vl env) β) λds _=>if ds.length<=sizeLine then .exc "NoPoints" else .bad)
 uT)
 dP)
def mT (af:List D->FR):SF:=(aV (aR ([0] ++ []) (aA af (ae (gv 0) ao)))
 dP)
def kJ (af:List D->FR):SF:=(aV (aR ([1] ++ []) (aA af (ae (gv 1) ao)))
 dP)
def cF (af:List D->FR):SF:=(aV (aR ([0] ++ []) (aA af (ae (gv 0) ao)))
 dP)
def jJ (aX:List D->FR):SF:=(aV (b6 1 ([0] ++ []) (aA aX (ae (gv 0) ao)))
 dP)
def kF (b8:List D->FR):SF:=(cX (f2 (f1 (aA b8 (ae (gv 0) ao)) gJ) (cst (.int 0)) (cA false)))
def fL (bu:List D->FR):SF:=(aV (b6 1 (([0] ++ []) ++ []) (bV 2 [] (.two 0 1) (fm (aA bu (ae (gv 0) ao))) AW Iy))
 dP)
def fO (kL iO kT bu iE cN iD du gp gu gF:List D->FR):SF:=(fx ([] ++ []) (dr (f2 (gv 0) (cst (.int 0)) (cA false)))
 (aR ([1] ++ ([] ++ [])) (aA kL (ae (gv 1) (ae (cst .none) ao))))
 (fx ([] ++ []) (dr (f2 (gv 0) (cst (.int 1)) (cA false)))
 (aR ([1] ++ ([] ++ [])) (aA iO (ae (gv 1) (ae (cst .none) ao))))
 (fx ([] ++ []) (dr (f2 (gv 0) (cst (.int 2)) (cA false)))
 (aR ([1] ++ ([] ++ [])) (aA kT (ae (gv 1) (ae (cst .none) ao))))
 (fx ([] ++ []) (dr (f2 (gv 0) (cst (.int 3)) (cA false)))
 (aR ([1] ++ []) (aA bu (ae (gv 1) ao)))
 (fx ([] ++ []) (dr (f2 (gv 0) (cst (.int 4)) (cA false)))
 (aR ([1] ++ []) (aA iE (ae (gv 1) ao)))
 (fx ([] ++ []) (dr (f2 (gv 0) (cst (.int 5)) (cA false)))
 (aR ([1] ++ []) (aA cN (ae (gv 1) ao)))
 (fx ([] ++ []) (dr (f2 (gv 0) (cst (.int 6)) (cA false)))
 (aR ([] ++ ([1] ++ [])) (aA iD (ae (cst .none) (ae (gv 1) ao))))
 (fx ([] ++ []) (dr (f2 (gv 0) (cst (.int 7)) (cA false)))
 (aR ([1] ++ []) (aA du (ae (gv 1) ao)))
 (fx ([] ++ []) (dr (f2 (gv 0) (cst (.int 8)) (cA false)))
 (aR ([1] ++ ([] ++ [])) (aA gp (ae (gv 1) (ae (cst .none) ao))))
 (fx ([] ++ []) (dr (f2 (gv 0) (cst (.int 9)) (cA false)))
 (aR ([1] ++ ([] ++ [])) (aA gu (ae (gv 1) (ae (cst .none) ao))))
 (aR ([] ++ ([1] ++ [])) (aA gF (ae (cst .none) (ae (gv 1) ao))))))))))))))
def eV (cG cI cz cJ bE cM b8 cm gA eB:List D->FR):SF:=(fx ([] ++ []) (dr (f2 (gv 0) (cst (.int 0)) (cA false)))
 (aR ([1] ++ ([] ++ [])) (aA cG (ae (gv 1) (ae (cst .none) ao))))
 (fx ([] ++ []) (dr (f2 (gv 0) (cst (.int 1)) (cA false)))
 (aR ([1] ++ []) (aA cI (ae (gv 1) ao)))
 (fx ([] ++ []) (dr (f2 (gv 0) (cst (.int 2)) (cA false)))
 (aR ([1] ++ []) (aA cz (ae (gv 1) ao)))
 (fx ([] ++ []) (dr (f2 (gv 0) (cst (.int 3)) (cA false)))
 (aR ([] ++ ([1] ++ [])) (aA cJ (ae (cst .none) (ae (gv 1) ao))))
 (fx ([] ++ []) (dr (f2 (gv 0) (cst (.int 4)) (cA false)))
 (aR ([1] ++ ([] ++ [])) (aA bE (ae (gv 1) (ae (cst .none) ao))))
 (fx ([] ++ []) (dr (f2 (gv 0) (cst (.int 5)) (cA false)))
 (aR ([1] ++ []) (aA cM (ae (gv 1) ao)))
 (fx ([] ++ []) (dr (f2 (gv 0) (cst (.int 6)) (cA false)))
 (aR ([1] ++ []) (aA b8 (ae (gv 1) ao)))
 (fx ([] ++ []) (dr (f2 (gv 0) (cst (.int 7)) (cA false)))
 (aR ([1] ++ []) (aA cm (ae (gv 1) ao)))
 (fx ([] ++ []) (dr (f2 (gv 0) (cst (.int 8)) (cA false)))
 (aR ([] ++ ([1] ++ [])) (aA gA (ae (cst .none) (ae (gv 1) ao))))
 (aR ([1] ++ ([] ++ [])) (aA eB (ae (gv 1) (ae (cst .none) ao)))))))))))))
def fX (bw dv gx iC gy aX eO gz:List D->FR):SF:=(fx ([] ++ []) (dr (f2 (gv 0) (cst (.int 0)) (cA false)))
 (aR ([] ++ ([1] ++ [])) (aA bw (ae (cst .none) (ae (gv 1) ao))))
 (fx ([] ++ []) (dr (f2 (gv 0) (cst (.int 1)) (cA false)))
 (aR ([1] ++ ([] ++ [])) (aA dv (ae (gv 1) (ae (cst .none) ao))))
 (fx ([] ++ []) (dr (f2 (gv 0) (cst (.int 2)) (cA false)))
 (aR ([1] ++ ([] ++ [])) (aA gx (ae (gv 1) (ae (cst .none) ao))))
 (fx ([] ++ []) (dr (f2 (gv 0) (cst (.int 3)) (cA false)))
 (aR ([1] ++ ([] ++ [])) (aA iC (ae (gv 1) (ae (cst .none) ao))))
 (fx ([] ++ []) (dr (f2 (gv 0) (cst (.int 4)) (cA false)))
 (aR ([] ++ ([1] ++ [])) (aA gy (ae (cst .none) (ae (gv 1) ao))))
 (fx ([] ++ []) (dr (f2 (gv 0) (cst (.int 5)) (cA false)))
 (aR ([1] ++ []) (aA aX (ae (gv 1) ao)))
 (fx ([] ++ []) (dr (f2 (gv 0) (cst (.int 6)) (cA false)))
 (aR ([1] ++ []) (aA eO (ae (gv 1) ao)))
 (aR ([1] ++ []) (aA gz (ae (gv 1) ao))))))))))
def gW (marks:Str->Option Str)(cD ck cP:List D->FR):SF:=(aV (v3 marks (fx ([] ++ []) (dr (f2 (gv 0) (cst (.int 0)) (cA false)))
 (aR ([1] ++ ([2] ++ [])) (aA cD (ae (gv 1) (ae (gv 2) ao))))
 (fx ([] ++ []) (dr (f2 (gv 0) (cst (.int 1)) (cA false)))
 (aR ([1] ++ ([2] ++ [])) (aA ck (ae (gv 1) (ae (gv 2) ao))))
 (aR ([1] ++ ([2] ++ [])) (aA cP (ae (gv 1) (ae (gv 2) ao)))))))
 (cX (cst (.str "told"))))
def yK (eG dz:List D->FR)(cB aW:List D->Int->FB):SF:=(aV (gN (.nm 1) ([] ++ ([] ++ [])) (kc (f2 (cst (.int 1)) (f2 (f1 (gv 0) gJ) (cst (.int 4)) (AH λi j=>.int (if j < i then j else i))) (AH λi j=>.int (if j > i then j else i))))
 (aV (zm 2 ([0] ++ ([1] ++ [])) (va eG (ae (gv 0) (ae (gv 1) ao))))
 (aV (b6 3 ([] ++ []) (oi 2 cB (ae (cst (.int 6)) ao)))
 (aV (b6 4 ([] ++ (([] ++ ((([] ++ ([] ++ [])) ++ (([] ++ ([] ++ [])) ++ [])) ++ [])) ++ (([] ++ ((([] ++ ([] ++ [])) ++ (([] ++ ([] ++ [])) ++ [])) ++ [])) ++ (([] ++ ((([] ++ ([] ++ [])) ++ []) ++ [])) ++ (([] ++ ((([] ++ ([] ++ [])) ++ []) ++ [])) ++ (([] ++ ([] ++ [])) ++ (([] ++ ([] ++ [])) ++ []))))))) (cy (ae (cst .none) (ae (a7 (ae (cst (.int 3)) (ae (a7 (ae (a7 (ae (cst (.int 0)) (ae (cst (.int 1)) ao))) (ae (a7 (ae (cst (.int 1)) (ae (cst (.int 2)) ao))) ao))) ao))) (ae (a7 (ae (cst (.int 2)) (ae (a7 (ae (a7 (ae (cst (.int 0)) (ae (cst (.int 1)) ao))) (ae (a7 (ae (cst (.int 1)) (ae (cst (.int 0)) ao))) ao))) ao))) (ae (a7 (ae (cst (.int 2)) (ae (a7 (ae (a7 (ae (cst (.int 0)) (ae (cst (.int 0)) ao))) ao)) ao))) (ae (a7 (ae (cst (.int 2)) (ae (a7 (ae (a7 (ae (cst (.int 0)) (ae (cst (.int 2)) ao))) ao)) ao))) (ae (a7 (ae (cst (.int 9)) (ae (a7 ao) ao))) (ae (a7 (ae (cst (.int 0)) (ae (a7 ao) ao))) ao)))))))))
 (aV (b6 4 ([] ++ (([] ++ ((([] ++ ([] ++ [])) ++ (([] ++ ([] ++ [])) ++ [])) ++ [])) ++ ((([] ++ []) ++ (([] ++ []) ++ [])) ++ ([] ++ (([] ++ []) ++ (([] ++ ([] ++ [])) ++ ([] ++ ([] ++ [])))))))) (f2 (gv 4) (cy (ae (a7 (ae (cst (.int 3)) (ae (a7 (ae (a7 (ae (cst (.int 0)) (ae (cst (.int 2)) ao))) (ae (a7 (ae (cst (.int 0)) (ae (cst (.int 1)) ao))) ao))) ao))) (ae (a7 (ae (f2 (gv 3) (cst (.int 0)) jR) (ae (f1 (f2 (gv 3) (cst (.int 1)) jR) yC) ao))) (ae (f1 (gv 3) yC) (ae (f2 (gv 3) (cst (.int 0)) jR) (ae (a7 (ae (cst (.bool true)) (ae (a7 ao) ao))) (ae (cst (.str "1")) (ae (cst (.dict [])) ao)))))))) kY))
 (aV (b6 4 ([] ++ (([] ++ ((([] ++ ([] ++ [])) ++ (([] ++ ([] ++ [])) ++ [])) ++ [])) ++ ((([] ++ []) ++ []) ++ (([] ++ ([] ++ [])) ++ [])))) (f2 (gv 4) (cy (ae (a7 (ae (cst (.int 3)) (ae (a7 (ae (a7 (ae (cst (.int 0)) (ae (cst (.int 1)) ao))) (ae (a7 (ae (cst (.int 0)) (ae (cst (.int 1)) ao))) ao))) ao))) (ae (a7 (ae (f2 (gv 3) (cst (.int 0)) jR) ao)) (ae (f2 (gv 3) (a7 (ae (a7 ao) ao)) zq) ao)))) kY))
 (gN (.nm 5) [] (kc (cst (.int 4)))
 (aV (b6 6 ([] ++ ([] ++ [])) (f2 (gv 4) (oi 2 aW (ae (cst (.int 17)) ao)) jR))
 (gN (.nm 7) [] (kc (cst (.int 3)))
 (gN (.nm 8) (([] ++ ([] ++ ([] ++ []))) ++ []) (kc (f2 (cy (ae (cst (.int 11)) (ae (cst (.int 10)) (ae (cst (.int 8)) ao)))) (gv 7) jR))
 (fx (([7] ++ ([8] ++ ([6] ++ []))) ++ []) (dr (f2 (aA dz (ae (gv 7) (ae (gv 8) (ae (gv 6) ao)))) (cst (.str "order")) (cA true)))
 (cX (cst (.bool false)))
 uT)))))))))))
 (cX (cst (.bool true))))
end RM
section
set_option maxHeartbeats 0
namespace RQ
open PySem L2 RM
section
variable {P:Program}{w:World}{K:Frag}{mg:Str->Option Value}{base:Heap}{ca:Str->Addr}
def u4:aH ["thing"] ["thing"] (ak jr):=⟨rfl,rfl,rfl,by decide +kernel,rfl,by decide +kernel,by decide +kernel⟩
def tm {f:Addr}{fd:FuncData}(F:dO K mg "is_whole" jr ["thing"] f fd)(B:dQ mg):bo P w K mg base ca "is_whole" ["thing"] 1 (aP 1 1 (pz)):=
 ⟨⟨f,fd,F.mg,F.F.kp,F.b,aL (N:=["thing"]) (k:=0) F.F u4 λcdv A outer s H G E hr=>
  (av (bZ (pj (pd "int" (by decide) rfl rfl B.isinstance rfl B.int (by decide +kernel) (aC 0)) (qL (Bx (pd "bool" (by decide) rfl rfl B.isinstance rfl B.bool (by decide +kernel) (aC 0)))) (λ_ _=>rfl))))⟩,λds h=>aJ ds h⟩
def vJ:aH ["thing","bound"] ["thing","bound"] (ak jg):=⟨rfl,rfl,rfl,by decide +kernel,rfl,by decide +kernel,by decide +kernel⟩
def tO {f:Addr}{fd:FuncData}{bM:List D->FR}(F:dO K mg "is_below" jg ["thing","bound"] f fd)(B:dQ mg)(eJ:bo P w K mg base ca "is_whole" ["thing"] 1 bM):bo P w K mg base ca "is_below" ["thing","bound"] 2 (aP 2 2 (qH bM)):=
 ⟨⟨f,fd,F.mg,F.F.kp,F.b,aL (N:=["thing","bound"]) (k:=1) F.F vJ λcdv A outer s H G E hr=>
  (av (bZ (pj (aw eJ (hr.mono (by decide)) aN rfl rfl (ag (aF 0 rfl) aq)) (qL (v7 BU E8 GI Iz aE (aC 0) (aC 1))) (λ_ _=>rfl))))⟩,λds h=>aJ ds h⟩
def ya:aH ["thing"] ["thing"] (ak kG):=⟨rfl,rfl,rfl,by decide +kernel,rfl,by decide +kernel,by decide +kernel⟩
def vQ {f:Addr}{fd:FuncData}{bM:List D->FR}(F:dO K mg "is_many" kG ["thing"] f fd)(B:dQ mg)(eJ:bo P w K mg base ca "is_whole" ["thing"] 1 bM){rB:Tok}(ik:mg "MOST_THINGS"=some (.int 8 rB)):bo P w K mg base ca "is_many" ["thing"] 2 (aP 1 1 (rT bM)):=
 ⟨⟨f,fd,F.mg,F.F.kp,F.b,aL (N:=["thing"]) (k:=1) F.F ya λcdv A outer s H G E hr=>
  (av (bZ (pj (aw eJ (hr.mono (by decide)) aN rfl rfl (ag (aF 0 rfl) aq)) (qL (v7 BU BU GI GI aE (aC 0) (ED (by rfl) ik))) (λ_ _=>rfl))))⟩,λds h=>aJ ds h⟩
def xq:aH ["thing","many"] ["thing","many"] (ak kU):=⟨rfl,rfl,rfl,by decide +kernel,rfl,by decide +kernel,by decide +kernel⟩
def wF {f:Addr}{fd:FuncData}{dk:List D->FR}(F:dO K mg "is_pair" kU ["thing","many"] f fd)(B:dQ mg)(ju:bo P w K mg base ca "is_below" ["thing","bound"] 2 dk):bo P w K mg base ca "is_pair" ["thing","many"] 3 (aP 2 2 (kW dk)):=
 ⟨⟨f,fd,F.mg,F.F.kp,F.b,aL (N:=["thing","many"]) (k:=2) F.F xq λcdv A outer s H G E hr=>
  (aG (bq (Ee.t (yZ (jz (iz rfl (pd "tuple" (by decide) rfl rfl B.isinstance rfl B.tuple (by decide +kernel) (aC 0)))) (uF (a8 (nM hr.units) b7 (bX dF lX rfl B.len Mb (aC 0)) aE (aS _))) (λ_ _=>rfl)))
  (av (bZ l7))
  fB)
  (av (bZ (pj (aw ju (hr.mono (by decide)) aN rfl rfl (ag (fE cU kZ (aC 0) aE (λ_ _=>rfl)) (ag (aF 1 rfl) aq))) (qL (aw ju (hr.mono (by decide)) aN rfl rfl (ag (fE cU kZ (aC 0) aE (λ_ _=>rfl)) (ag (aF 1 rfl) aq)))) (λ_ _=>rfl)))))⟩,λds h=>aJ ds h⟩
def rA:aH ["many"] ["many"] (ak dH):=⟨rfl,rfl,rfl,by decide +kernel,rfl,by decide +kernel,by decide +kernel⟩
def qz {f:Addr}{fd:FuncData}(F:dO K mg "every_pair" dH ["many"] f fd)(B:dQ mg):bo P w K mg base ca "every_pair" ["many"] 1 (aP 1 1 (uL)):=
 ⟨⟨f,fd,F.mg,F.F.kp,F.b,aL (N:=["many"]) (k:=0) F.F rA λcdv A outer s H G E hr=>
  (av (mz (ig (NB:=["number","many"]) (own:=1) (ixs:=[0]) [] rfl (jh (by kernel_rfl)) (λ_ _=>rfl) (pf rfl B.range (bO j6 lB (aC 0) (aC 0))) (λH0 G0 par br bx C ex s3 H3 pn=>(lq (i:=0) (show (["number","many"]:List Str).Nodup by decide +kernel))) (λH0 G0 par br bx C ex s3 H3 pn hB1=>lY) (λH0 G0 par br bx C ex s3 H3 pn hB1=>(dM (ag (bO l0 DX (aC 0) (aC 1)) (ag (bO lF sF (aC 0) (aC 1)) aq)))))))⟩,λds h=>aJ ds h⟩
def vW:aH ["pairs"] ["pairs"] (ak i3):=⟨rfl,rfl,rfl,by decide +kernel,rfl,by decide +kernel,by decide +kernel⟩
def tx {f:Addr}{fd:FuncData}(F:dO K mg "has_ring" i3 ["pairs"] f fd)(B:dQ mg):bo P w K mg base ca "has_ring" ["pairs"] 1 (aP 1 1 (qi)):=
 ⟨⟨f,fd,F.mg,F.F.kp,F.b,aL (N:=["pairs"]) (k:=0) F.F vW λcdv A outer s H G E hr=>
  (av (bZ (bX (Bo rfl) oI rfl B.any (by decide +kernel) (ig (NB:=["a","b"]) (own:=2) (ixs:=[]) [] rfl (jh (by kernel_rfl)) (λ_ _=>rfl) (u7 rfl (aC 0)) (λH0 G0 par br bx C ex s3 H3 pn=>(lL (i:=0) (j:=1) (show (["a","b"]:List Str).Nodup by decide +kernel))) (λH0 G0 par br bx C ex s3 H3 pn hB1=>lY) (λH0 G0 par br bx C ex s3 H3 pn hB1=>(o8 (bc hr.units) b7 (aC 0) (aC 1) (aS _)))))))⟩,λds h=>aJ ds h⟩
def j5:aH ["thing","many","pairs"] ["thing"] (ak jm):=⟨rfl,rfl,rfl,by decide +kernel,rfl,by decide +kernel,by decide +kernel⟩
def tH {f:Addr}{fd:FuncData}{gB gr iI eH:List D->FR}(F:dO K mg "is_order" jm ["thing"] f fd)(B:dQ mg)(nr:bo P w K mg base ca "is_many" ["thing"] 2 gB)(nA:bo P w K mg base ca "is_pair" ["thing","many"] 3 gr)(pD:bo P w K mg base ca "closed" ["many","pairs"] 3 iI)(lz:bo P w K mg base ca "has_ring" ["pairs"] 1 eH):bo P w K mg base ca "is_order" ["thing"] 4 (aP 3 1 (eN gB gr iI eH)):=
 ⟨⟨f,fd,F.mg,F.F.kp,F.b,aL (N:=["thing","many","pairs"]) (k:=3) F.F j5 λcdv A outer s H G E hr=>
  (aG (bq (Ee.t (yZ (jz (iz rfl (pd "tuple" (by decide) rfl rfl B.isinstance rfl B.tuple (by decide +kernel) (aC 0)))) (uF (a8 (nM hr.units) b7 (bX dF lX rfl B.len Mb (aC 0)) aE (aS _))) (λ_ _=>rfl)))
  (av (bZ l7))
  fB)
  (aG (bG (i:=1) (fE cU kZ (aC 0) aE (λ_ _=>rfl)) j5.nd)
  (aG (bG (i:=2) (fE cU kZ (aC 0) aE (λ_ _=>rfl)) j5.nd)
  (aG (bq (Ee.t (yZ (jz (iz rfl (aw nr (hr.mono (by decide)) aN rfl rfl (ag (aF 1 rfl) aq)))) (uF (jz (iz rfl (pd "tuple" (by decide) rfl rfl B.isinstance rfl B.tuple (by decide +kernel) (aC 2))))) (λ_ _=>rfl)))
  (av (bZ l7))
  fB)
  (aG (bq (jz (iz rfl (bX (qJ rfl) oI rfl B.all (by decide +kernel) (ig (NB:=["pair","many"]) (own:=1) (ixs:=[1]) [1] rfl (jh (by kernel_rfl)) (λ_ _=>rfl) (u7 rfl (aC 2)) (λH0 G0 par br bx C ex s3 H3 pn=>(lq (i:=0) (show (["pair","many"]:List Str).Nodup by decide +kernel))) (λH0 G0 par br bx C ex s3 H3 pn hB1=>lY) (λH0 G0 par br bx C ex s3 H3 pn hB1=>(aw nA (hr.mono (by decide)) B5 rfl rfl (ag (aF 0 (hB1 0 (by decide))) (ag (aF 1 (hB1 1 (by decide))) aq))))))))
  (av (bZ l7))
  fB)
  (av (bZ (pj (o8 (bc hr.units) b7 (aC 2) (aw pD (hr.mono (by decide)) aN rfl rfl (ag (aF 1 rfl) (ag (aF 2 rfl) aq))) (aS _)) (qL (Bx (aw lz (hr.mono (by decide)) aN rfl rfl (ag (aF 2 rfl) aq)))) (λ_ _=>rfl)))))))))⟩,λds h=>aJ ds h⟩
def rP:aH ["thing"] ["thing"] (ak fW):=⟨rfl,rfl,rfl,by decide +kernel,rfl,by decide +kernel,by decide +kernel⟩
def o6 {f:Addr}{fd:FuncData}{eM:List D->FR}(F:dO K mg "need_order" fW ["thing"] f fd)(B:dQ mg)(lQ:bo P w K mg base ca "is_order" ["thing"] 4 eM)(iW:Exc K mg ca "NoOrder"):bo P w K mg base ca "need_order" ["thing"] 5 (aP 1 1 (fS eM)):=
 ⟨⟨f,fd,F.mg,F.F.kp,F.b,aL (N:=["thing"]) (k:=4) F.F rP λcdv A outer s H G E hr=>
  (av (bq (jz (iz rfl (aw lQ (hr.mono (by decide)) aN rfl rfl (ag (aF 0 rfl) aq))))
  (av (pN iW.ex iW.ca rfl iW.mg (ag lV aq)))
  fB))⟩,λds h=>aJ ds h⟩
def iM:aH ["order","thing"] ["order","thing"] (ak bH):=⟨rfl,rfl,rfl,by decide +kernel,rfl,by decide +kernel,by decide +kernel⟩
def ip {f:Addr}{fd:FuncData}{af:List D->FR}(F:dO K mg "need_order_and_thing" bH ["order","thing"] f fd)(B:dQ mg)(ah:bo P w K mg base ca "need_order" ["thing"] 5 af):bo P w K mg base ca "need_order_and_thing" ["order","thing"] 6 (aP 2 2 (bA af)):=
 ⟨⟨f,fd,F.mg,F.F.kp,F.b,aL (N:=["order","thing"]) (k:=5) F.F iM λcdv A outer s H G E hr=>
  (aG (aK (aw ah (hr.mono (by decide)) aN rfl rfl (ag (aF 0 rfl) aq)))
  bf)⟩,λds h=>aJ ds h⟩
def C2:aH ["order","thing"] ["order","thing"] (ak oR):=⟨rfl,rfl,rfl,by decide +kernel,rfl,by decide +kernel,by decide +kernel⟩
def zM {f:Addr}{fd:FuncData}{aB:List D->FR}(F:dO K mg "ahead" oR ["order","thing"] f fd)(B:dQ mg)(aQ:bo P w K mg base ca "need_order_and_thing" ["order","thing"] 6 aB):bo P w K mg base ca "ahead" ["order","thing"] 7 (aP 2 2 (jj aB)):=
 ⟨⟨f,fd,F.mg,F.F.kp,F.b,aL (N:=["order","thing"]) (k:=6) F.F C2 λcdv A outer s H G E hr=>
  (aG (aK (aw aQ (hr.mono (by decide)) aN rfl rfl (ag (aF 0 rfl) (ag (aF 1 rfl) aq))))
  bf)⟩,λds h=>aJ ds h⟩
def AE:aH ["order","thing"] ["order","thing"] (ak mB):=⟨rfl,rfl,rfl,by decide +kernel,rfl,by decide +kernel,by decide +kernel⟩
def xh {f:Addr}{fd:FuncData}{aB:List D->FR}(F:dO K mg "behind" mB ["order","thing"] f fd)(B:dQ mg)(aQ:bo P w K mg base ca "need_order_and_thing" ["order","thing"] 6 aB):bo P w K mg base ca "behind" ["order","thing"] 7 (aP 2 2 (g7 aB)):=
 ⟨⟨f,fd,F.mg,F.F.kp,F.b,aL (N:=["order","thing"]) (k:=6) F.F AE λcdv A outer s H G E hr=>
  (aG (aK (aw aQ (hr.mono (by decide)) aN rfl rfl (ag (aF 0 rfl) (ag (aF 1 rfl) aq))))
  bf)⟩,λds h=>aJ ds h⟩
def BY:aH ["order","thing","met"] ["order","thing"] (ak oW):=⟨rfl,rfl,rfl,by decide +kernel,rfl,by decide +kernel,by decide +kernel⟩
def zY {f:Addr}{fd:FuncData}{aB:List D->FR}(F:dO K mg "apart" oW ["order","thing"] f fd)(B:dQ mg)(aQ:bo P w K mg base ca "need_order_and_thing" ["order","thing"] 6 aB):bo P w K mg base ca "apart" ["order","thing"] 7 (aP 3 2 (jG aB)):=
 ⟨⟨f,fd,F.mg,F.F.kp,F.b,aL (N:=["order","thing","met"]) (k:=6) F.F BY λcdv A outer s H G E hr=>
  (aG (aK (aw aQ (hr.mono (by decide)) aN rfl rfl (ag (aF 0 rfl) (ag (aF 1 rfl) aq))))
  bf)⟩,λds h=>aJ ds h⟩
def rf:aH ["order"] ["order"] (ak fP):=⟨rfl,rfl,rfl,by decide +kernel,rfl,by decide +kernel,by decide +kernel⟩
def pU {f:Addr}{fd:FuncData}{af:List D->FR}(F:dO K mg "next_pairs" fP ["order"] f fd)(B:dQ mg)(ah:bo P w K mg base ca "need_order" ["thing"] 5 af):bo P w K mg base ca "next_pairs" ["order"] 6 (aP 1 1 (dg af)):=
 ⟨⟨f,fd,F.mg,F.F.kp,F.b,aL (N:=["order"]) (k:=5) F.F rf λcdv A outer s H G E hr=>
  (aG (aK (aw ah (hr.mono (by decide)) aN rfl rfl (ag (aF 0 rfl) aq)))
  bf)⟩,λds h=>aJ ds h⟩
def AD:aH ["order"] ["order"] (ak l8):=⟨rfl,rfl,rfl,by decide +kernel,rfl,by decide +kernel,by decide +kernel⟩
def yi {f:Addr}{fd:FuncData}{af:List D->FR}(F:dO K mg "turned" l8 ["order"] f fd)(B:dQ mg)(ah:bo P w K mg base ca "need_order" ["thing"] 5 af):bo P w K mg base ca "turned" ["order"] 6 (aP 1 1 (gZ af)):=
 ⟨⟨f,fd,F.mg,F.F.kp,F.b,aL (N:=["order"]) (k:=5) F.F AD λcdv A outer s H G E hr=>
  (aG (aK (aw ah (hr.mono (by decide)) aN rfl rfl (ag (aF 0 rfl) aq)))
  bf)⟩,λds h=>aJ ds h⟩
def zT:aH ["thing","order"] ["thing","order"] (ak mf):=⟨rfl,rfl,rfl,by decide +kernel,rfl,by decide +kernel,by decide +kernel⟩
def w9 {f:Addr}{fd:FuncData}{af:List D->FR}(F:dO K mg "is_row" mf ["thing","order"] f fd)(B:dQ mg)(ah:bo P w K mg base ca "need_order" ["thing"] 5 af):bo P w K mg base ca "is_row" ["thing","order"] 6 (aP 2 2 (hZ af)):=
 ⟨⟨f,fd,F.mg,F.F.kp,F.b,aL (N:=["thing","order"]) (k:=5) F.F zT λcdv A outer s H G E hr=>
  (aG (aK (aw ah (hr.mono (by decide)) aN rfl rfl (ag (aF 1 rfl) aq)))
  bf)⟩,λds h=>aJ ds h⟩
def tD:aH ["order"] ["order"] (ak ij):=⟨rfl,rfl,rfl,by decide +kernel,rfl,by decide +kernel,by decide +kernel⟩
def rn {f:Addr}{fd:FuncData}{af:List D->FR}(F:dO K mg "rows_many" ij ["order"] f fd)(B:dQ mg)(ah:bo P w K mg base ca "need_order" ["thing"] 5 af):bo P w K mg base ca "rows_many" ["order"] 6 (aP 1 1 (dI af)):=
 ⟨⟨f,fd,F.mg,F.F.kp,F.b,aL (N:=["order"]) (k:=5) F.F tD λcdv A outer s H G E hr=>
  (aG (aK (aw ah (hr.mono (by decide)) aN rfl rfl (ag (aF 0 rfl) aq)))
  bf)⟩,λds h=>aJ ds h⟩
def wZ:aH ["order","number","masks","ways","row","placed","left","step","choice"] ["order","number"] (ak kO):=⟨rfl,rfl,rfl,by decide +kernel,rfl,by decide +kernel,by decide +kernel⟩
def vT {f:Addr}{fd:FuncData}{af:List D->FR}(F:dO K mg "nth_row" kO ["order","number"] f fd)(B:dQ mg)(ah:bo P w K mg base ca "need_order" ["thing"] 5 af):bo P w K mg base ca "nth_row" ["order","number"] 6 (aP 9 2 (fJ af)):=
 ⟨⟨f,fd,F.mg,F.F.kp,F.b,aL (N:=["order","number","masks","ways","row","placed","left","step","choice"]) (k:=5) F.F wZ λcdv A outer s H G E hr=>
  (aG (aK (aw ah (hr.mono (by decide)) aN rfl rfl (ag (aF 0 rfl) aq)))
  bf)⟩,λds h=>aJ ds h⟩
def xK:aH ["order","row","masks","ways","rank","placed","thing","lesser"] ["order","row"] (ak kQ):=⟨rfl,rfl,rfl,by decide +kernel,rfl,by decide +kernel,by decide +kernel⟩
def uY {f:Addr}{fd:FuncData}{af:List D->FR}(F:dO K mg "rank_of" kQ ["order","row"] f fd)(B:dQ mg)(ah:bo P w K mg base ca "need_order" ["thing"] 5 af):bo P w K mg base ca "rank_of" ["order","row"] 6 (aP 8 2 (fZ af)):=
 ⟨⟨f,fd,F.mg,F.F.kp,F.b,aL (N:=["order","row","masks","ways","rank","placed","thing","lesser"]) (k:=5) F.F xK λcdv A outer s H G E hr=>
  (aG (aK (aw ah (hr.mono (by decide)) aN rfl rfl (ag (aF 0 rfl) aq)))
  bf)⟩,λds h=>aJ ds h⟩
def D7:aH ["thing","order"] ["thing","order"] (ak sS):=⟨rfl,rfl,rfl,by decide +kernel,rfl,by decide +kernel,by decide +kernel⟩
def C4 {f:Addr}{fd:FuncData}{af:List D->FR}(F:dO K mg "tell" sS ["thing","order"] f fd)(B:dQ mg)(ah:bo P w K mg base ca "need_order" ["thing"] 5 af):bo P w K mg base ca "tell" ["thing","order"] 6 (aP 2 2 (kP af)):=
 ⟨⟨f,fd,F.mg,F.F.kp,F.b,aL (N:=["thing","order"]) (k:=5) F.F D7 λcdv A outer s H G E hr=>
  (aG (aK (aw ah (hr.mono (by decide)) aN rfl rfl (ag (aF 1 rfl) aq)))
  bf)⟩,λds h=>aJ ds h⟩
def rE:aH ["order","rows","pair"] ["order","rows"] (ak fH):=⟨rfl,rfl,rfl,by decide +kernel,rfl,by decide +kernel,by decide +kernel⟩
def qq {f:Addr}{fd:FuncData}{af:List D->FR}(F:dO K mg "first_left" fH ["order","rows"] f fd)(B:dQ mg)(ah:bo P w K mg base ca "need_order" ["thing"] 5 af):bo P w K mg base ca "first_left" ["order","rows"] 6 (aP 3 2 (dc af)):=
 ⟨⟨f,fd,F.mg,F.F.kp,F.b,aL (N:=["order","rows","pair"]) (k:=5) F.F rE λcdv A outer s H G E hr=>
  (aG (aK (aw ah (hr.mono (by decide)) aN rfl rfl (ag (aF 0 rfl) aq)))
  bf)⟩,λds h=>aJ ds h⟩
def qW:aH ["order","groups","longer"] ["order"] (ak fQ):=⟨rfl,rfl,rfl,by decide +kernel,rfl,by decide +kernel,by decide +kernel⟩
def o4 {f:Addr}{fd:FuncData}{af:List D->FR}(F:dO K mg "most_apart" fQ ["order"] f fd)(B:dQ mg)(ah:bo P w K mg base ca "need_order" ["thing"] 5 af):bo P w K mg base ca "most_apart" ["order"] 6 (aP 3 1 (dh af)):=
 ⟨⟨f,fd,F.mg,F.F.kp,F.b,aL (N:=["order","groups","longer"]) (k:=5) F.F qW λcdv A outer s H G E hr=>
  (aG (aK (aw ah (hr.mono (by decide)) aN rfl rfl (ag (aF 0 rfl) aq)))
  bf)⟩,λds h=>aJ ds h⟩
def Af:aH ["order"] ["order"] (ak mH):=⟨rfl,rfl,rfl,by decide +kernel,rfl,by decide +kernel,by decide +kernel⟩
def wQ {f:Addr}{fd:FuncData}{af:List D->FR}(F:dO K mg "chains" mH ["order"] f fd)(B:dQ mg)(ah:bo P w K mg base ca "need_order" ["thing"] 5 af):bo P w K mg base ca "chains" ["order"] 6 (aP 1 1 (mC af)):=
 ⟨⟨f,fd,F.mg,F.F.kp,F.b,aL (N:=["order"]) (k:=5) F.F Af λcdv A outer s H G E hr=>
  (aG (aK (aw ah (hr.mono (by decide)) aN rfl rfl (ag (aF 0 rfl) aq)))
  bf)⟩,λds h=>aJ ds h⟩
def qV:aH ["thing","order","held","chain"] ["thing","order"] (ak fK):=⟨rfl,rfl,rfl,by decide +kernel,rfl,by decide +kernel,by decide +kernel⟩
def qd {f:Addr}{fd:FuncData}{af:List D->FR}(F:dO K mg "are_chains" fK ["thing","order"] f fd)(B:dQ mg)(ah:bo P w K mg base ca "need_order" ["thing"] 5 af):bo P w K mg base ca "are_chains" ["thing","order"] 6 (aP 4 2 (gf af)):=
 ⟨⟨f,fd,F.mg,F.F.kp,F.b,aL (N:=["thing","order","held","chain"]) (k:=5) F.F qV λcdv A outer s H G E hr=>
  (aG (aK (aw ah (hr.mono (by decide)) aN rfl rfl (ag (aF 1 rfl) aq)))
  bf)⟩,λds h=>aJ ds h⟩
def uB:aH ["order","chain"] ["order","chain"] (ak g8):=⟨rfl,rfl,rfl,by decide +kernel,rfl,by decide +kernel,by decide +kernel⟩
def rg {f:Addr}{fd:FuncData}{af:List D->FR}(F:dO K mg "chain_row" g8 ["order","chain"] f fd)(B:dQ mg)(ah:bo P w K mg base ca "need_order" ["thing"] 5 af):bo P w K mg base ca "chain_row" ["order","chain"] 6 (aP 2 2 (gY af)):=
 ⟨⟨f,fd,F.mg,F.F.kp,F.b,aL (N:=["order","chain"]) (k:=5) F.F uB λcdv A outer s H G E hr=>
  (aG (aK (aw ah (hr.mono (by decide)) aN rfl rfl (ag (aF 0 rfl) aq)))
  bf)⟩,λds h=>aJ ds h⟩
def rm:aH ["order"] ["order"] (ak fY):=⟨rfl,rfl,rfl,by decide +kernel,rfl,by decide +kernel,by decide +kernel⟩
def qt {f:Addr}{fd:FuncData}{cz bE:List D->FR}(F:dO K mg "chain_rows" fY ["order"] f fd)(B:dQ mg)(iF:bo P w K mg base ca "chains" ["order"] 6 cz)(dA:bo P w K mg base ca "chain_row" ["order","chain"] 6 bE):bo P w K mg base ca "chain_rows" ["order"] 7 (aP 1 1 (fF cz bE)):=
 ⟨⟨f,fd,F.mg,F.F.kp,F.b,aL (N:=["order"]) (k:=6) F.F rm λcdv A outer s H G E hr=>
  (av (mz (ig (NB:=["chain","order"]) (own:=1) (ixs:=[0]) [0] rfl (jh (by kernel_rfl)) (λ_ _=>rfl) (u7 rfl (aw iF (hr.mono (by decide)) aN rfl rfl (ag (aF 0 rfl) aq))) (λH0 G0 par br bx C ex s3 H3 pn=>(lq (i:=0) (show (["chain","order"]:List Str).Nodup by decide +kernel))) (λH0 G0 par br bx C ex s3 H3 pn hB1=>lY) (λH0 G0 par br bx C ex s3 H3 pn hB1=>(aw dA (hr.mono (by decide)) B5 rfl rfl (ag (aF 1 (hB1 1 (by decide))) (ag (aF 0 (hB1 0 (by decide))) aq)))))))⟩,λds h=>aJ ds h⟩
def Ck:aH ["order"] ["order"] (ak oU):=⟨rfl,rfl,rfl,by decide +kernel,rfl,by decide +kernel,by decide +kernel⟩
def zG {f:Addr}{fd:FuncData}{af:List D->FR}(F:dO K mg "turns" oU ["order"] f fd)(B:dQ mg)(ah:bo P w K mg base ca "need_order" ["thing"] 5 af):bo P w K mg base ca "turns" ["order"] 6 (aP 1 1 (jf af)):=
 ⟨⟨f,fd,F.mg,F.F.kp,F.b,aL (N:=["order"]) (k:=5) F.F Ck λcdv A outer s H G E hr=>
  (aG (aK (aw ah (hr.mono (by decide)) aN rfl rfl (ag (aF 0 rfl) aq)))
  bf)⟩,λds h=>aJ ds h⟩
def nY:aH ["order","a","b","pairs"] ["order","a","b"] (ak ji):=⟨rfl,rfl,rfl,by decide +kernel,rfl,by decide +kernel,by decide +kernel⟩
def uH {f:Addr}{fd:FuncData}(F:dO K mg "is_sharp" ji ["order","a","b"] f fd)(B:dQ mg):bo P w K mg base ca "is_sharp" ["order","a","b"] 1 (aP 4 3 (pG)):=
 ⟨⟨f,fd,F.mg,F.F.kp,F.b,aL (N:=["order","a","b","pairs"]) (k:=0) F.F nY λcdv A outer s H G E hr=>
  (aG (bG (i:=3) (fE cU kZ (aC 0) aE (λ_ _=>rfl)) nY.nd)
  (aG (bq (jz (iz rfl (bX (qJ rfl) oI rfl B.all (by decide +kernel) (ig (NB:=["one","other","a","b","pairs"]) (own:=2) (ixs:=[1,2,3]) [2] rfl (jh (by kernel_rfl)) (λ_ _=>rfl) (u7 rfl (aC 3)) (λH0 G0 par br bx C ex s3 H3 pn=>(lL (i:=0) (j:=1) (show (["one","other","a","b","pairs"]:List Str).Nodup by decide +kernel))) (λH0 G0 par br bx C ex s3 H3 pn hB1=>(oO (a8 (bc hr.units) b7 (aC 1) (aC 2) (aS _)))) (λH0 G0 par br bx C ex s3 H3 pn hB1=>(o8 (Cf hr.u1) HR (dM (ag (aF 0 (hB1 0 (by decide))) (ag (aF 3 (hB1 3 (by decide))) aq))) (aC 4) (by with_unfolding_all rfl)))))))
  (av (bZ l7))
  fB)
  (av (bZ (bX (qJ rfl) oI rfl B.all (by decide +kernel) (ig (NB:=["one","other","b","a","pairs"]) (own:=2) (ixs:=[2,1,3]) [1] rfl (jh (by kernel_rfl)) (λ_ _=>rfl) (u7 rfl (aC 3)) (λH0 G0 par br bx C ex s3 H3 pn=>(lL (i:=0) (j:=1) (show (["one","other","b","a","pairs"]:List Str).Nodup by decide +kernel))) (λH0 G0 par br bx C ex s3 H3 pn hB2=>(oO (a8 (bc hr.units) b7 (aC 0) (aC 2) (aS _)))) (λH0 G0 par br bx C ex s3 H3 pn hB2=>(o8 (Cf hr.u1) HR (dM (ag (aF 3 (hB2 3 (by decide))) (ag (aF 1 (hB2 1 (by decide))) aq))) (aC 4) (by with_unfolding_all rfl)))))))))⟩,λds h=>aJ ds h⟩
def qk:aH ["order"] ["order"] (ak eS):=⟨rfl,rfl,rfl,by decide +kernel,rfl,by decide +kernel,by decide +kernel⟩
def oz {f:Addr}{fd:FuncData}{b8 dU:List D->FR}(F:dO K mg "sharp_turns" eS ["order"] f fd)(B:dQ mg)(fT:bo P w K mg base ca "turns" ["order"] 6 b8)(lG:bo P w K mg base ca "is_sharp" ["order","a","b"] 1 dU):bo P w K mg base ca "sharp_turns" ["order"] 7 (aP 1 1 (eQ b8 dU)):=
 ⟨⟨f,fd,F.mg,F.F.kp,F.b,aL (N:=["order"]) (k:=6) F.F qk λcdv A outer s H G E hr=>
  (av (mz (ig (NB:=["a","b","order"]) (own:=2) (ixs:=[0]) [0] rfl (jh (by kernel_rfl)) (λ_ _=>rfl) (u7 rfl (aw fT (hr.mono (by decide)) aN rfl rfl (ag (aF 0 rfl) aq))) (λH0 G0 par br bx C ex s3 H3 pn=>(lL (i:=0) (j:=1) (show (["a","b","order"]:List Str).Nodup by decide +kernel))) (λH0 G0 par br bx C ex s3 H3 pn hB1=>(oO (iz rfl (aw lG (hr.mono (by decide)) B5 rfl rfl (ag (aF 2 (hB1 2 (by decide))) (ag (aF 0 (hB1 0 (by decide))) (ag (aF 1 (hB1 1 (by decide))) aq))))))) (λH0 G0 par br bx C ex s3 H3 pn hB1=>(dM (ag (aF 0 (hB1 0 (by decide))) (ag (aF 1 (hB1 1 (by decide))) aq)))))))⟩,λds h=>aJ ds h⟩
def yo:aH ["thing","order"] ["thing","order"] (ak kN):=⟨rfl,rfl,rfl,by decide +kernel,rfl,by decide +kernel,by decide +kernel⟩
def vS {f:Addr}{fd:FuncData}{af:List D->FR}(F:dO K mg "is_ring" kN ["thing","order"] f fd)(B:dQ mg)(ah:bo P w K mg base ca "need_order" ["thing"] 5 af):bo P w K mg base ca "is_ring" ["thing","order"] 6 (aP 2 2 (kB af)):=
 ⟨⟨f,fd,F.mg,F.F.kp,F.b,aL (N:=["thing","order"]) (k:=5) F.F yo λcdv A outer s H G E hr=>
  (aG (aK (aw ah (hr.mono (by decide)) aN rfl rfl (ag (aF 1 rfl) aq)))
  bf)⟩,λds h=>aJ ds h⟩
def vg:aH ["order","some","masks","put","turn"] ["order","some"] (ak jF):=⟨rfl,rfl,rfl,by decide +kernel,rfl,by decide +kernel,by decide +kernel⟩
def uQ {f:Addr}{fd:FuncData}{af:List D->FR}(F:dO K mg "together" jF ["order","some"] f fd)(B:dQ mg)(ah:bo P w K mg base ca "need_order" ["thing"] 5 af):bo P w K mg base ca "together" ["order","some"] 6 (aP 5 2 (ja af)):=
 ⟨⟨f,fd,F.mg,F.F.kp,F.b,aL (N:=["order","some","masks","put","turn"]) (k:=5) F.F vg λcdv A outer s H G E hr=>
  (aG (aK (aw ah (hr.mono (by decide)) aN rfl rfl (ag (aF 0 rfl) aq)))
  bf)⟩,λds h=>aJ ds h⟩
def rH:aH ["thing","order","many"] ["thing","order"] (ak gc):=⟨rfl,rfl,rfl,by decide +kernel,rfl,by decide +kernel,by decide +kernel⟩
def qB {f:Addr}{fd:FuncData}{af:List D->FR}(F:dO K mg "are_points" gc ["thing","order"] f fd)(B:dQ mg)(ah:bo P w K mg base ca "need_order" ["thing"] 5 af):bo P w K mg base ca "are_points" ["thing","order"] 6 (aP 3 2 (fV af)):=
 ⟨⟨f,fd,F.mg,F.F.kp,F.b,aL (N:=["thing","order","many"]) (k:=5) F.F rH λcdv A outer s H G E hr=>
  (aG (aK (aw ah (hr.mono (by decide)) aN rfl rfl (ag (aF 1 rfl) aq)))
  bf)⟩,λds h=>aJ ds h⟩
def tW:aH ["order","rows"] ["order","rows"] (ak gX):=⟨rfl,rfl,rfl,by decide +kernel,rfl,by decide +kernel,by decide +kernel⟩
def rj {f:Addr}{fd:FuncData}{gF:List D->FR}(F:dO K mg "points_of" gX ["order","rows"] f fd)(B:dQ mg)(nU:bo P w K mg base ca "tell" ["thing","order"] 6 gF)(ku:Exc K mg ca "NoRows"):bo P w K mg base ca "points_of" ["order","rows"] 7 (aP 2 2 (g9 gF)):=
 ⟨⟨f,fd,F.mg,F.F.kp,F.b,aL (N:=["order","rows"]) (k:=6) F.F tW λcdv A outer s H G E hr=>
  (aG (bq (Ee.t (yZ (jz (iz rfl (aw nU (hr.mono (by decide)) aN rfl rfl (ag (aF 1 rfl) (ag (aF 0 rfl) aq))))) (uF (a8 (nM hr.units) b7 (bX dF lX rfl B.len Mb (aC 1)) aE (aS _))) (λ_ _=>rfl)))
  (av (pN ku.ex ku.ca rfl ku.mg (ag lV aq)))
  fB)
  bf)⟩,λds h=>aJ ds h⟩
def yj:aH ["order","points"] ["order","points"] (ak kR):=⟨rfl,rfl,rfl,by decide +kernel,rfl,by decide +kernel,by decide +kernel⟩
def vj {f:Addr}{fd:FuncData}{bw:List D->FR}(F:dO K mg "rows_of" kR ["order","points"] f fd)(B:dQ mg)(cQ:bo P w K mg base ca "are_points" ["thing","order"] 6 bw)(gP:Exc K mg ca "NoPoints"):bo P w K mg base ca "rows_of" ["order","points"] 7 (aP 2 2 (kX bw)):=
 ⟨⟨f,fd,F.mg,F.F.kp,F.b,aL (N:=["order","points"]) (k:=6) F.F yj λcdv A outer s H G E hr=>
  (aG (bq (jz (iz rfl (aw cQ (hr.mono (by decide)) aN rfl rfl (ag (aF 1 rfl) (ag (aF 0 rfl) aq)))))
  (av (pN gP.ex gP.ca rfl gP.mg (ag lV aq)))
  fB)
  bf)⟩,λds h=>aJ ds h⟩
def z6:aH ["order","turn"] ["order","turn"] (ak mE):=⟨rfl,rfl,rfl,by decide +kernel,rfl,by decide +kernel,by decide +kernel⟩
def yn {f:Addr}{fd:FuncData}{af:List D->FR}(F:dO K mg "forced" mE ["order","turn"] f fd)(B:dQ mg)(ah:bo P w K mg base ca "need_order" ["thing"] 5 af):bo P w K mg base ca "forced" ["order","turn"] 6 (aP 2 2 (mT af)):=
 ⟨⟨f,fd,F.mg,F.F.kp,F.b,aL (N:=["order","turn"]) (k:=5) F.F z6 λcdv A outer s H G E hr=>
  (aG (aK (aw ah (hr.mono (by decide)) aN rfl rfl (ag (aF 0 rfl) aq)))
  bf)⟩,λds h=>aJ ds h⟩
def xp:aH ["thing","order","table"] ["thing","order"] (ak kC):=⟨rfl,rfl,rfl,by decide +kernel,rfl,by decide +kernel,by decide +kernel⟩
def vX {f:Addr}{fd:FuncData}{af:List D->FR}(F:dO K mg "is_knot" kC ["thing","order"] f fd)(B:dQ mg)(ah:bo P w K mg base ca "need_order" ["thing"] 5 af):bo P w K mg base ca "is_knot" ["thing","order"] 6 (aP 3 2 (kJ af)):=
 ⟨⟨f,fd,F.mg,F.F.kp,F.b,aL (N:=["thing","order","table"]) (k:=5) F.F xp λcdv A outer s H G E hr=>
  (aG (aK (aw ah (hr.mono (by decide)) aN rfl rfl (ag (aF 1 rfl) aq)))
  bf)⟩,λds h=>aJ ds h⟩
def mS:aH ["order","table","knot"] ["order"] (ak cR):=⟨rfl,rfl,rfl,by decide +kernel,rfl,by decide +kernel,by decide +kernel⟩
def lK {f:Addr}{fd:FuncData}{af:List D->FR}(F:dO K mg "points_or_knot" cR ["order"] f fd)(B:dQ mg)(ah:bo P w K mg base ca "need_order" ["thing"] 5 af):bo P w K mg base ca "points_or_knot" ["order"] 6 (aP 3 1 (cF af)):=
 ⟨⟨f,fd,F.mg,F.F.kp,F.b,aL (N:=["order","table","knot"]) (k:=5) F.F mS λcdv A outer s H G E hr=>
  (aG (aK (aw ah (hr.mono (by decide)) aN rfl rfl (ag (aF 0 rfl) aq)))
  bf)⟩,λds h=>aJ ds h⟩
def oj:aH ["order","found"] ["order"] (ak jE):=⟨rfl,rfl,rfl,by decide +kernel,rfl,by decide +kernel,by decide +kernel⟩
def ur {f:Addr}{fd:FuncData}{aX:List D->FR}(F:dO K mg "two_rows" jE ["order"] f fd)(B:dQ mg)(bK:bo P w K mg base ca "points_or_knot" ["order"] 6 aX):bo P w K mg base ca "two_rows" ["order"] 7 (aP 2 1 (jJ aX)):=
 ⟨⟨f,fd,F.mg,F.F.kp,F.b,aL (N:=["order","found"]) (k:=6) F.F oj λcdv A outer s H G E hr=>
  (aG (bG (i:=1) (aw bK (hr.mono (by decide)) aN rfl rfl (ag (aF 0 rfl) aq)) oj.nd)
  bf)⟩,λds h=>aJ ds h⟩
def xF:aH ["order"] ["order"] (ak kS):=⟨rfl,rfl,rfl,by decide +kernel,rfl,by decide +kernel,by decide +kernel⟩
def vH {f:Addr}{fd:FuncData}{b8:List D->FR}(F:dO K mg "one_row" kS ["order"] f fd)(B:dQ mg)(fT:bo P w K mg base ca "turns" ["order"] 6 b8):bo P w K mg base ca "one_row" ["order"] 7 (aP 1 1 (kF b8)):=
 ⟨⟨f,fd,F.mg,F.F.kp,F.b,aL (N:=["order"]) (k:=6) F.F xF λcdv A outer s H G E hr=>
  (av (bZ (o8 (bc hr.units) b7 (bX dF lX rfl B.len Mb (aw fT (hr.mono (by decide)) aN rfl rfl (ag (aF 0 rfl) aq))) aE (aS _))))⟩,λds h=>aJ ds h⟩
def lh:aH ["order","words"] ["order"] (ak fI):=⟨rfl,rfl,rfl,by decide +kernel,rfl,by decide +kernel,by decide +kernel⟩
def qg {f:Addr}{fd:FuncData}{bu:List D->FR}(F:dO K mg "show_order" fI ["order"] f fd)(B:dQ mg)(cC:bo P w K mg base ca "next_pairs" ["order"] 6 bu):bo P w K mg base ca "show_order" ["order"] 7 (aP 2 1 (fL bu)):=
 ⟨⟨f,fd,F.mg,F.F.kp,F.b,aL (N:=["order","words"]) (k:=6) F.F lh λcdv A outer s H G E hr=>
  (aG (Dp (i:=1) (NB:=["a","b"]) (own:=2) (ixs:=[]) [] rfl (jh (by kernel_rfl)) (λ_ _=>rfl) (u7 rfl (aw cC (hr.mono (by decide)) aN rfl rfl (ag (aF 0 rfl) aq))) (λH0 G0 par br bx C ex s3 H3 pn=>(lL (i:=0) (j:=1) (show (["a","b"]:List Str).Nodup by decide +kernel))) (λH0 G0 par br bx C ex s3 H3 pn hB1=>lY) (λH0 G0 par br bx C ex s3 H3 pn hB1=>(GK (L:=[]) (md:=.v))) lh.nd)
  bf)⟩,λds h=>aJ ds h⟩
def tV:aH ["script","k"] ["script","k"] (ak ie):=⟨rfl,rfl,rfl,by decide +kernel,rfl,by decide +kernel,by decide +kernel⟩
def qY {f:Addr}{fd:FuncData}(F:dO K mg "_law_cell" ie ["script","k"] f fd)(B:dQ mg):bo P w K mg base ca "_law_cell" ["script","k"] 1 (aP 2 2 (fj)):=
 ⟨⟨f,fd,F.mg,F.F.kp,F.b,aL (N:=["script","k"]) (k:=0) F.F tV λcdv A outer s H G E hr=>
  (aG (bq (a8 E8 Iz (aC 1) (bX dF lX rfl B.len Mb (aC 0)) (aS _))
  (av (bZ (fE cU kZ (aC 0) (aC 1) (λ_ _=>rfl))))
  fB)
  (av (bZ aE)))⟩,λds h=>aJ ds h⟩
def hV:aH ["cell","k","some","stir"] ["cell","k"] (ak dX):=⟨rfl,rfl,rfl,by decide +kernel,rfl,by decide +kernel,by decide +kernel⟩
def sM:∃(es:List Expr) (p1 p2 p3:Pos),bN dX=.Assign [.Name "some" p1] (.List es p2) p3 :: (bN dX).drop 1/\constsOf es=some [48271,69621,16807,39373,30269,40014,40692,50021,61687,71993,83869,95561,30307]:=⟨_,_,_,_,rfl,by kernel_rfl⟩
def sX {f:Addr}{fd:FuncData}(F:dO K mg "_law_mix" dX ["cell","k"] f fd)(B:dQ mg):bo P w K mg base ca "_law_mix" ["cell","k"] 1 (aP 4 2 (iY)):=by
 obtain⟨es,p1,p2,p3,hb,hes⟩:=sM
 refine⟨⟨f,fd,F.mg,F.F.kp,F.b,aL (N:=["cell","k","some","stir"]) (k:=0) F.F hV λcdv A outer s H G E hr=>?_⟩,λds h=>aJ ds h⟩
 rw[hb]
 exact (aG (bG (i:=2) (SE.wv (dS (rV hes))) hV.nd) (aG (bG (i:=3) (bO lE lT (bO lE lT (bO j6 lB (bO lE lT (bO lF sF (aC 0) aE) aE) (fE cU kZ (aC 2) (bO lF sF (aC 1) aE) (λ_ _=>rfl))) (bO j6 lB aE (aC 1))) (bO j6 lB aE (bO l0 DX (aC 1) aE))) hV.nd)
  (aG (bG (i:=3) (bO lF sF (aC 3) aE) hV.nd)
  (av (bZ (bO l0 DX (bO lF sF (bO lE lT (bO j6 lB (aC 3) (aC 3)) (bO j6 lB aE (aC 1))) aE) aE))))))
def fu:aH ["script","k","cell","number","j"] ["script","k"] (ak jB):=⟨rfl,rfl,rfl,by decide +kernel,rfl,by decide +kernel,by decide +kernel⟩
def sP {f:Addr}{fd:FuncData}{dw dY:List D->FR}(F:dO K mg "_law_box" jB ["script","k"] f fd)(B:dQ mg)(j8:bo P w K mg base ca "_law_cell" ["script","k"] 1 dw)(lI:bo P w K mg base ca "_law_mix" ["cell","k"] 1 dY):bo P w K mg base ca "_law_box" ["script","k"] 2 (aP 5 2 (i8 dw dY)):=
 ⟨⟨f,fd,F.mg,F.F.kp,F.b,aL (N:=["script","k","cell","number","j"]) (k:=1) F.F fu λcdv A outer s H G E hr=>
  (aG (bG (i:=2) (aw j8 (hr.mono (by decide)) aN rfl rfl (ag (aF 0 rfl) (ag (aF 1 rfl) aq))) fu.nd)
  (aG (bq (a8 (bc hr.units) b7 (bO lF sF (aC 2) aE) aE (aS _))
  (av (mz (dS (ag (bO l0 DX (bX C3 HS rfl B.abs (by decide +kernel) (aC 2)) aE) aq))))
  fB)
  (aG (bG (i:=3) aE fu.nd)
  (aG (kr PassesOwn.leaving rfl (pf rfl B.range aE) (lq (i:=4) fu.nd)
  (av (bG (i:=3) (bO lE lT (bO j6 lB (aC 3) aE) (aw lI (hr.mono (by decide)) aN rfl rfl (ag (aF 2 rfl) (ag (aF 4 rfl) aq)))) fu.nd)))
  (av (mz (dS (ag (aF 3 rfl) aq))))))))⟩,λds h=>aJ ds h⟩
def mI:aH ["box","many","left","digit"] ["box","many"] (ak hX):=⟨rfl,rfl,rfl,by decide +kernel,rfl,by decide +kernel,by decide +kernel⟩
def rq {f:Addr}{fd:FuncData}(F:dO K mg "_law_take" hX ["box","many"] f fd)(B:dQ mg):sN P w K mg base "_law_take" ["box","many"] 1 cT:=by
 refine⟨⟨f,fd,F.mg,F.F.kp,F.b,?_⟩,λds β h=>?_⟩
 ·refine F.F.A0 mI (λvs H Q E h=>?_) (λcdv A outer s H vs Q E hr h=>?_)
  ·obtain⟨b,rest,G,ds,β,rfl,hb,gb,sG,hl,r,_⟩:=h
   rw[Lu,r.len,hl];rfl
  ·obtain⟨b,rest,G,ds,β,rfl,hb,gb,sG,hl,r,h⟩:=h
   obtain⟨m,rfl,h0,h1⟩:=zl (λz=>by rw[z] at h;exact h)
   rw[tf h0 h1] at h
   have kk:∀v G' H',gV (some b) H H'->H' b=some (.lst [.int (β / m)])->ax G G'->ax G' H'->(∀c,Mx H c->G c=none->G' c=none)->FV K H G' H' false (.int (β % m)) v->Q v H':=h
   cases r with
   |cons r1 r2=>
    cases r1
    cases r2
    refine⟨_,b9 (tq (bz vF rfl B.divmod (by decide +kernel) (ay (kz e8 (pv 0) p8 (λ_ _=>rfl)) (ay (pv 1) aU))) (Dl (i:=2) (j:=3) mI.nd rfl rfl rfl rfl rfl))
     (b9 (tq (pv 2) (xf (pv 0) p8 set_list)) (cZ (iB (pv 3)))),?_⟩
    refine⟨_,rfl,b,_,0,.int β,rfl,rfl,.inl (.inl hb),rfl,_,rfl,β,m,rfl,⟨h0,h1⟩,λp hp=>⟨p,_,rfl,.inl (.inl az),rfl,_,_,rfl,_,_,rfl,rfl,?_⟩⟩
    have hbp:b≠p:=aM hb hp
    exact⟨_,rfl,_,rfl,b,[.int β],0,0,rfl,rfl,by rw[aI hbp];exact hb,rfl,_,rfl,Bb hb sG hp kk gb⟩
 ·obtain⟨m,rfl,_⟩:=zl h
  rfl
def dR:aH ["box","some","left","found"] ["box","some"] (ak di):=⟨rfl,rfl,rfl,by decide +kernel,rfl,by decide +kernel,by decide +kernel⟩
def mU {f:Addr}{fd:FuncData}{aW:List D->Int->FB}(F:dO K mg "_law_mixed_up" di ["box","some"] f fd)(B:dQ mg)(bB:sN P w K mg base "_law_take" ["box","many"] 1 aW):sN P w K mg base "_law_mixed_up" ["box","some"] 2 (wI 4 1 (df aW)):=
 ⟨⟨f,fd,F.mg,F.F.kp,F.b,wa (ca:=λ_=>0) (N:=["box","some","left","found"]) (k:=1) F.F dR (by decide) λcdv A outer s H G b E hr=>
  (aG (ue (i:=2) (mn jv yf rfl B.list (by decide +kernel) (aC 1)) dR.nd)
  (aG (ue (i:=3) (dS aq) dR.nd)
  (aG (vc 1000 PassesOwn.leaving (a8 (nM hr.units) b7 (aC 2) (dS aq) (aS _))
  (av (Au 3 2 (λ_=>rfl) (qe 0 bB (hr.mono (by decide)) aN rfl rfl (ag (bX dF lX rfl B.len Mb (aC 2)) aq)))))
  (av (DV 3)))))⟩,λds β h=>wG ds β h⟩
def bC:aH ["pairs","found","size","more","a","b"] ["pairs"] (ak eT):=⟨rfl,rfl,rfl,by decide +kernel,rfl,by decide +kernel,by decide +kernel⟩
def ou {f:Addr}{fd:FuncData}(F:dO K mg "_law_closed" eT ["pairs"] f fd)(B:dQ mg):bo P w K mg base ca "_law_closed" ["pairs"] 1 (aP 6 1 (eY)):=
 ⟨⟨f,fd,F.mg,F.F.kp,F.b,aL (N:=["pairs","found","size","more","a","b"]) (k:=0) F.F bC λcdv A outer s H G E hr=>
  (aG (bG (i:=1) (SE.wv (p6 rfl hr.units rfl rfl B.sorted rfl B.set (aC 0))) bC.nd)
  (aG (bG (i:=2) (E6 CT EY aE) bC.nd)
  (aG (vc 1000 PassesOwn.leaving (a8 (nM hr.units) b7 (aC 2) (bX dF lX rfl B.len Mb (aC 1)) (aS _))
  (aG (bG (i:=2) (bX dF lX rfl B.len Mb (aC 1)) bC.nd)
  (aG (bG (i:=3) (SE.wv (dS aq)) bC.nd)
  (aG (kr PassesOwn.leaving rfl (Kh rfl (aF 1 rfl)) (lL (i:=4) (j:=5) bC.nd)
  (av (bG (i:=3) (SE.wv (bO oZ yF (aC 3) (ig (NB:=["c","d","b","a"]) (own:=2) (ixs:=[5,4]) [4] rfl (jh (by kernel_rfl)) (λ_ _=>rfl) (u7 rfl (aC 1)) (λH0 G0 par br bx C ex s3 H3 pn=>(lL (i:=0) (j:=1) (show (["c","d","b","a"]:List Str).Nodup by decide +kernel))) (λH0 G0 par br bx C ex s3 H3 pn hB1=>(oO (a8 (bc hr.units) b7 (aC 0) (aC 2) (aS _)))) (λH0 G0 par br bx C ex s3 H3 pn hB1=>(dM (ag (aF 3 (hB1 3 (by decide))) (ag (aF 1 (hB1 1 (by decide))) aq))))))) bC.nd)))
  (av (bG (i:=1) (SE.wv (p6 rfl hr.units rfl rfl B.sorted rfl B.set (bO oZ yF (aC 1) (aC 3)))) bC.nd))))))
  (av (bZ (mn lr Eo rfl B.tuple (by decide +kernel) (aC 1)))))))⟩,λds h=>aJ ds h⟩
def b4:aH ["box","most","many","names","thin","pairs","i","j"] ["box","most"] (ak gk):=⟨rfl,rfl,rfl,by decide +kernel,rfl,by decide +kernel,by decide +kernel⟩
def p7 {f:Addr}{fd:FuncData}{cn:List D->FR}{aW bQ:List D->Int->FB}(F:dO K mg "_law_order" gk ["box","most"] f fd)(B:dQ mg)(iq:bo P w K mg base ca "_law_closed" ["pairs"] 1 cn)(bB:sN P w K mg base "_law_take" ["box","many"] 1 aW)(fC:sN P w K mg base "_law_mixed_up" ["box","some"] 2 bQ):sN P w K mg base "_law_order" ["box","most"] 3 (wI 8 1 (fU cn aW bQ)):=
 ⟨⟨f,fd,F.mg,F.F.kp,F.b,wa (ca:=ca) (N:=["box","most","many","names","thin","pairs","i","j"]) (k:=2) F.F b4 (by decide) λcdv A outer s H G b E hr=>
  (aG (bG (i:=2) (bO lE lT aE (qe 0 bB (hr.mono (by decide)) aN rfl rfl (ag (aF 1 rfl) aq))) b4.nd)
  (aG (bG (i:=3) (qe 0 fC (hr.mono (by decide)) aN rfl rfl (ag (SE.wv (yg rfl rfl B.list rfl B.range (aC 2))) aq)) b4.nd)
  (aG (bG (i:=4) (fE cU kZ (dS (ag aE (ag aE (ag aE (ag aE aq))))) (qe 0 bB (hr.mono (by decide)) aN rfl rfl (ag aE aq)) (λ_ _=>rfl)) b4.nd)
  (aG (ue (i:=5) (dS aq) b4.nd)
  (aG (kr PassesOwn.leaving rfl (pf rfl B.range (aC 2)) (lq (i:=6) b4.nd)
  (av (kr PassesOwn.leaving rfl (HL rfl B.range (bO lE lT (aC 6) aE) (aC 2)) (lq (i:=7) b4.nd)
  (av (bq (a8 (bc hr.units) b7 (qe 0 bB (hr.mono (by decide)) aN rfl rfl (ag (aF 4 rfl) aq)) aE (aS _))
  (av (Ao 5 (λ_=>rfl) (dM (ag (fE cU kZ (aC 3) (aC 6) (λ_ _=>rfl)) (ag (fE cU kZ (aC 3) (aC 7) (λ_ _=>rfl)) aq)))))
  fB)))))
  (av (bZ (dM (ag (aF 2 rfl) (ag (aw iq (hr.mono (by decide)) aN rfl rfl (ag (aF 5 rfl) aq)) aq))))))))))⟩,λds β h=>wG ds β h⟩
def rN:aH ["kind","order"] ["kind","order"] (ak fG):=⟨rfl,rfl,rfl,by decide +kernel,rfl,by decide +kernel,by decide +kernel⟩
def pI {f:Addr}{fd:FuncData}{kL iO kT bu iE cN iD du gp gu gF:List D->FR}(F:dO K mg "_law_first" fG ["kind","order"] f fd)(B:dQ mg)(tL:bo P w K mg base ca "ahead" ["order","thing"] 7 kL)(pJ:bo P w K mg base ca "behind" ["order","thing"] 7 iO)(tR:bo P w K mg base ca "apart" ["order","thing"] 7 kT)(cC:bo P w K mg base ca "next_pairs" ["order"] 6 bu)(pB:bo P w K mg base ca "turned" ["order"] 6 iE)(jC:bo P w K mg base ca "show_order" ["order"] 7 cN)(qM:bo P w K mg base ca "is_row" ["thing","order"] 6 iD)(jV:bo P w K mg base ca "rows_many" ["order"] 6 du)(nc:bo P w K mg base ca "nth_row" ["order","number"] 6 gp)(nP:bo P w K mg base ca "rank_of" ["order","row"] 6 gu)(nU:bo P w K mg base ca "tell" ["thing","order"] 6 gF):bo P w K mg base ca "_law_first" ["kind","order"] 8 (aP 2 2 (fO kL iO kT bu iE cN iD du gp gu gF)):=
 ⟨⟨f,fd,F.mg,F.F.kp,F.b,aL (N:=["kind","order"]) (k:=7) F.F rN λcdv A outer s H G E hr=>
  (av (bq (a8 (bc hr.units) b7 (aC 0) aE (aS _))
  (av (aK (aw tL (hr.mono (by decide)) aN rfl rfl (ag (aF 1 rfl) (ag cu aq)))))
  (av (bq (a8 (bc hr.units) b7 (aC 0) aE (aS _))
  (av (aK (aw pJ (hr.mono (by decide)) aN rfl rfl (ag (aF 1 rfl) (ag cu aq)))))
  (av (bq (a8 (bc hr.units) b7 (aC 0) aE (aS _))
  (av (aK (aw tR (hr.mono (by decide)) aN rfl rfl (ag (aF 1 rfl) (ag cu aq)))))
  (av (bq (a8 (bc hr.units) b7 (aC 0) aE (aS _))
  (av (aK (aw cC (hr.mono (by decide)) aN rfl rfl (ag (aF 1 rfl) aq))))
  (av (bq (a8 (bc hr.units) b7 (aC 0) aE (aS _))
  (av (aK (aw pB (hr.mono (by decide)) aN rfl rfl (ag (aF 1 rfl) aq))))
  (av (bq (a8 (bc hr.units) b7 (aC 0) aE (aS _))
  (av (aK (aw jC (hr.mono (by decide)) aN rfl rfl (ag (aF 1 rfl) aq))))
  (av (bq (a8 (bc hr.units) b7 (aC 0) aE (aS _))
  (av (aK (aw qM (hr.mono (by decide)) aN rfl rfl (ag cu (ag (aF 1 rfl) aq)))))
  (av (bq (a8 (bc hr.units) b7 (aC 0) aE (aS _))
  (av (aK (aw jV (hr.mono (by decide)) aN rfl rfl (ag (aF 1 rfl) aq))))
  (av (bq (a8 (bc hr.units) b7 (aC 0) aE (aS _))
  (av (aK (aw nc (hr.mono (by decide)) aN rfl rfl (ag (aF 1 rfl) (ag cu aq)))))
  (av (bq (a8 (bc hr.units) b7 (aC 0) aE (aS _))
  (av (aK (aw nP (hr.mono (by decide)) aN rfl rfl (ag (aF 1 rfl) (ag cu aq)))))
  (av (aK (aw nU (hr.mono (by decide)) aN rfl rfl (ag cu (ag (aF 1 rfl) aq)))))))))))))))))))))))))⟩,λds h=>aJ ds h⟩
def o7:aH ["kind","order"] ["kind","order"] (ak eZ):=⟨rfl,rfl,rfl,by decide +kernel,rfl,by decide +kernel,by decide +kernel⟩
def oE {f:Addr}{fd:FuncData}{cG cI cz cJ bE cM b8 cm gA eB:List D->FR}(F:dO K mg "_law_second" eZ ["kind","order"] f fd)(B:dQ mg)(iZ:bo P w K mg base ca "first_left" ["order","rows"] 6 cG)(jc:bo P w K mg base ca "most_apart" ["order"] 6 cI)(iF:bo P w K mg base ca "chains" ["order"] 6 cz)(i9:bo P w K mg base ca "are_chains" ["thing","order"] 6 cJ)(dA:bo P w K mg base ca "chain_row" ["order","chain"] 6 bE)(jx:bo P w K mg base ca "chain_rows" ["order"] 7 cM)(fT:bo P w K mg base ca "turns" ["order"] 6 b8)(iw:bo P w K mg base ca "sharp_turns" ["order"] 7 cm)(nu:bo P w K mg base ca "is_ring" ["thing","order"] 6 gA)(lO:bo P w K mg base ca "together" ["order","some"] 6 eB):bo P w K mg base ca "_law_second" ["kind","order"] 8 (aP 2 2 (eV cG cI cz cJ bE cM b8 cm gA eB)):=
 ⟨⟨f,fd,F.mg,F.F.kp,F.b,aL (N:=["kind","order"]) (k:=7) F.F o7 λcdv A outer s H G E hr=>
  (av (bq (a8 (bc hr.units) b7 (aC 0) aE (aS _))
  (av (aK (aw iZ (hr.mono (by decide)) aN rfl rfl (ag (aF 1 rfl) (ag cu aq)))))
  (av (bq (a8 (bc hr.units) b7 (aC 0) aE (aS _))
  (av (aK (aw jc (hr.mono (by decide)) aN rfl rfl (ag (aF 1 rfl) aq))))
  (av (bq (a8 (bc hr.units) b7 (aC 0) aE (aS _))
  (av (aK (aw iF (hr.mono (by decide)) aN rfl rfl (ag (aF 1 rfl) aq))))
  (av (bq (a8 (bc hr.units) b7 (aC 0) aE (aS _))
  (av (aK (aw i9 (hr.mono (by decide)) aN rfl rfl (ag cu (ag (aF 1 rfl) aq)))))
  (av (bq (a8 (bc hr.units) b7 (aC 0) aE (aS _))
  (av (aK (aw dA (hr.mono (by decide)) aN rfl rfl (ag (aF 1 rfl) (ag cu aq)))))
  (av (bq (a8 (bc hr.units) b7 (aC 0) aE (aS _))
  (av (aK (aw jx (hr.mono (by decide)) aN rfl rfl (ag (aF 1 rfl) aq))))
  (av (bq (a8 (bc hr.units) b7 (aC 0) aE (aS _))
  (av (aK (aw fT (hr.mono (by decide)) aN rfl rfl (ag (aF 1 rfl) aq))))
  (av (bq (a8 (bc hr.units) b7 (aC 0) aE (aS _))
  (av (aK (aw iw (hr.mono (by decide)) aN rfl rfl (ag (aF 1 rfl) aq))))
  (av (bq (a8 (bc hr.units) b7 (aC 0) aE (aS _))
  (av (aK (aw nu (hr.mono (by decide)) aN rfl rfl (ag cu (ag (aF 1 rfl) aq)))))
  (av (aK (aw lO (hr.mono (by decide)) aN rfl rfl (ag (aF 1 rfl) (ag cu aq)))))))))))))))))))))))⟩,λds h=>aJ ds h⟩
def rK:aH ["kind","order"] ["kind","order"] (ak fM):=⟨rfl,rfl,rfl,by decide +kernel,rfl,by decide +kernel,by decide +kernel⟩
def pX {f:Addr}{fd:FuncData}{bw dv gx iC gy aX eO gz:List D->FR}(F:dO K mg "_law_third" fM ["kind","order"] f fd)(B:dQ mg)(cQ:bo P w K mg base ca "are_points" ["thing","order"] 6 bw)(j3:bo P w K mg base ca "points_of" ["order","rows"] 7 dv)(ny:bo P w K mg base ca "rows_of" ["order","points"] 7 gx)(qy:bo P w K mg base ca "forced" ["order","turn"] 6 iC)(nq:bo P w K mg base ca "is_knot" ["thing","order"] 6 gy)(bK:bo P w K mg base ca "points_or_knot" ["order"] 6 aX)(lM:bo P w K mg base ca "two_rows" ["order"] 7 eO)(nG:bo P w K mg base ca "one_row" ["order"] 7 gz):bo P w K mg base ca "_law_third" ["kind","order"] 8 (aP 2 2 (fX bw dv gx iC gy aX eO gz)):=
 ⟨⟨f,fd,F.mg,F.F.kp,F.b,aL (N:=["kind","order"]) (k:=7) F.F rK λcdv A outer s H G E hr=>
  (av (bq (a8 (bc hr.units) b7 (aC 0) aE (aS _))
  (av (aK (aw cQ (hr.mono (by decide)) aN rfl rfl (ag cu (ag (aF 1 rfl) aq)))))
  (av (bq (a8 (bc hr.units) b7 (aC 0) aE (aS _))
  (av (aK (aw j3 (hr.mono (by decide)) aN rfl rfl (ag (aF 1 rfl) (ag cu aq)))))
  (av (bq (a8 (bc hr.units) b7 (aC 0) aE (aS _))
  (av (aK (aw ny (hr.mono (by decide)) aN rfl rfl (ag (aF 1 rfl) (ag cu aq)))))
  (av (bq (a8 (bc hr.units) b7 (aC 0) aE (aS _))
  (av (aK (aw qy (hr.mono (by decide)) aN rfl rfl (ag (aF 1 rfl) (ag cu aq)))))
  (av (bq (a8 (bc hr.units) b7 (aC 0) aE (aS _))
  (av (aK (aw nq (hr.mono (by decide)) aN rfl rfl (ag cu (ag (aF 1 rfl) aq)))))
  (av (bq (a8 (bc hr.units) b7 (aC 0) aE (aS _))
  (av (aK (aw bK (hr.mono (by decide)) aN rfl rfl (ag (aF 1 rfl) aq))))
  (av (bq (a8 (bc hr.units) b7 (aC 0) aE (aS _))
  (av (aK (aw lM (hr.mono (by decide)) aN rfl rfl (ag (aF 1 rfl) aq))))
  (av (aK (aw nG (hr.mono (by decide)) aN rfl rfl (ag (aF 1 rfl) aq))))))))))))))))))⟩,λds h=>aJ ds h⟩
def mP:aH ["part","kind","order","e"] ["part","kind","order"] (ak hU):=⟨rfl,rfl,rfl,by decide +kernel,rfl,by decide +kernel,by decide +kernel⟩
def qU {f:Addr}{fd:FuncData}{marks:Str->Option Str}{cD ck cP:List D->FR}(F:dO K mg "_law_said" hU ["part","kind","order"] f fd)(B:dQ mg)(jl:bo P w K mg base ca "_law_first" ["kind","order"] 8 cD)(il:bo P w K mg base ca "_law_second" ["kind","order"] 8 ck)(i0:bo P w K mg base ca "_law_third" ["kind","order"] 8 cP)(MK:DU P w K mg base ca "RankError" "_law_marks" marks):bo P w K mg base ca "_law_said" ["part","kind","order"] 9 (aP 4 3 (gW marks cD ck cP)):=
 ⟨⟨f,fd,F.mg,F.F.kp,F.b,aL (N:=["part","kind","order","e"]) (k:=8) F.F mP λcdv A outer s H G E hr=>
  (aG (Ew (i:=3) MK hr (λEb Ex pn H G hpT=>
  (av (bq (a8 (bc hr.units) b7 (aC 0) aE (aS _))
  (av (aK (aw jl (hr.mono (by decide)) hpT rfl rfl (ag (aF 1 rfl) (ag (aF 2 rfl) aq)))))
  (av (bq (a8 (bc hr.units) b7 (aC 0) aE (aS _))
  (av (aK (aw il (hr.mono (by decide)) hpT rfl rfl (ag (aF 1 rfl) (ag (aF 2 rfl) aq)))))
  (av (aK (aw i0 (hr.mono (by decide)) hpT rfl rfl (ag (aF 1 rfl) (ag (aF 2 rfl) aq))))))))))
  mP.nd)
  (av (bZ lV)))⟩,λds h=>aJ ds h⟩
def gM:aH ["script","k","box","order","some","turn","thing","part","kind"] ["script"] (ak lg):=⟨rfl,rfl,rfl,by decide +kernel,rfl,by decide +kernel,by decide +kernel⟩
def DH {f:Addr}{fd:FuncData}{eG dz:List D->FR}{cB aW:List D->Int->FB}(F:dO K mg "law" lg ["script"] f fd)(B:dQ mg)(lD:bo P w K mg base ca "_law_box" ["script","k"] 2 eG)(kh:bo P w K mg base ca "_law_said" ["part","kind","order"] 9 dz)(jq:sN P w K mg base "_law_order" ["box","most"] 3 cB)(bB:sN P w K mg base "_law_take" ["box","many"] 1 aW):fq P w K mg base (mq P w) 10 f fd ["script"] (C9 K ca 1 (aP 9 1 (yK eG dz cB aW))):=
 aL (N:=["script","k","box","order","some","turn","thing","part","kind"]) (k:=9) F.F gM λcdv A outer s H G E hr=>
  (@aG _ _ _ _ _ _ _ (kr PassesOwn.leaving rfl (pf rfl B.range (wd (AQ rfl) Ha rfl B.max (by decide +kernel) aE (wd (z5 rfl) Hb rfl B.min (by decide +kernel) (bX dF lX rfl B.len Mb (aC 0)) aE))) (lq (i:=1) gM.nd)
  (@aG _ _ _ _ _ _ _ (Dy (i:=2) rfl (Bj lD (hr.mono (by decide)) aN rfl rfl (ag (aF 0 rfl) (ag (aF 1 rfl) aq))) gM.nd)
  (@aG _ _ _ _ _ _ _ (bG (i:=3) (qe 2 jq (hr.mono (by decide)) aN rfl rfl (ag aE aq)) gM.nd)
  (@aG _ _ _ _ _ _ _ (@Hw _ _ _ 4 _ _ (ae (cst .none) (ae (a7 (ae (cst (.int 3)) (ae (a7 (ae (a7 (ae (cst (.int 0)) (ae (cst (.int 1)) ao))) (ae (a7 (ae (cst (.int 1)) (ae (cst (.int 2)) ao))) ao))) ao))) (ae (a7 (ae (cst (.int 2)) (ae (a7 (ae (a7 (ae (cst (.int 0)) (ae (cst (.int 1)) ao))) (ae (a7 (ae (cst (.int 1)) (ae (cst (.int 0)) ao))) ao))) ao))) (ae (a7 (ae (cst (.int 2)) (ae (a7 (ae (a7 (ae (cst (.int 0)) (ae (cst (.int 0)) ao))) ao)) ao))) (ae (a7 (ae (cst (.int 2)) (ae (a7 (ae (a7 (ae (cst (.int 0)) (ae (cst (.int 2)) ao))) ao)) ao))) (ae (a7 (ae (cst (.int 9)) (ae (a7 ao) ao))) (ae (a7 (ae (cst (.int 0)) (ae (a7 ao) ao))) ao))))))) ([] ++ (([] ++ ((([] ++ ([] ++ [])) ++ (([] ++ ([] ++ [])) ++ [])) ++ [])) ++ (([] ++ ((([] ++ ([] ++ [])) ++ (([] ++ ([] ++ [])) ++ [])) ++ [])) ++ (([] ++ ((([] ++ ([] ++ [])) ++ []) ++ [])) ++ (([] ++ ((([] ++ ([] ++ [])) ++ []) ++ [])) ++ (([] ++ ([] ++ [])) ++ (([] ++ ([] ++ [])) ++ []))))))) _ _ _ [] (by kernel_rfl) (λ_=>rfl) (by kernel_rfl) gM.nd rfl (by first |exact Or.inl rfl |exact Or.inr rfl) (by first |exact .inl rfl |exact .inr rfl))
  (@aG _ _ _ _ _ _ _ (bG (i:=4) (SE.wv (bO oZ yF (aC 4) (dS (ag (@Fm _ _ _ _ (a7 (ae (cst (.int 3)) (ae (a7 (ae (a7 (ae (cst (.int 0)) (ae (cst (.int 2)) ao))) (ae (a7 (ae (cst (.int 0)) (ae (cst (.int 1)) ao))) ao))) ao))) ([] ++ ((([] ++ ([] ++ [])) ++ (([] ++ ([] ++ [])) ++ [])) ++ [])) [] (by kernel_rfl) (λ_=>rfl) (by kernel_rfl)) (ag (dM (ag (fE cU kZ (aC 3) aE (λ_ _=>rfl)) (ag (SE.wv (mn jv yf rfl B.list (by decide +kernel) (fE cU kZ (aC 3) aE (λ_ _=>rfl)))) aq))) (ag (SE.wv (mn jv yf rfl B.list (by decide +kernel) (aC 3))) (ag (fE cU kZ (aC 3) aE (λ_ _=>rfl)) (ag (dM (ag l7 (ag (dM aq) aq))) (ag lV (ag Du aq)))))))))) gM.nd)
  (@aG _ _ _ _ _ _ _ (bG (i:=4) (SE.wv (bO oZ yF (aC 4) (dS (ag (@Fm _ _ _ _ (a7 (ae (cst (.int 3)) (ae (a7 (ae (a7 (ae (cst (.int 0)) (ae (cst (.int 1)) ao))) (ae (a7 (ae (cst (.int 0)) (ae (cst (.int 1)) ao))) ao))) ao))) ([] ++ ((([] ++ ([] ++ [])) ++ (([] ++ ([] ++ [])) ++ [])) ++ [])) [] (by kernel_rfl) (λ_=>rfl) (by kernel_rfl)) (ag (dM (ag (fE cU kZ (aC 3) aE (λ_ _=>rfl)) aq)) (ag (bO BL Gs (aC 3) (dM (ag (dM aq) aq))) aq)))))) gM.nd)
  (@av _ _ _ _ _ (kr PassesOwn.leaving rfl (pf rfl B.range aE) (lq (i:=5) gM.nd)
  (@aG _ _ _ _ _ _ _ (bG (i:=6) (fE cU kZ (aC 4) (qe 2 bB (hr.mono (by decide)) aN rfl rfl (ag aE aq)) (λ_ _=>rfl)) gM.nd)
  (@av _ _ _ _ _ (kr PassesOwn.leaving rfl (pf rfl B.range aE) (lq (i:=7) gM.nd)
  (@av _ _ _ _ _ (kr PassesOwn.leaving rfl (pf rfl B.range (fE cU kZ (dS (ag aE (ag aE (ag aE aq)))) (aC 7) (λ_ _=>rfl))) (lq (i:=8) gM.nd)
  (av (bq (a8 (nM hr.units) b7 (aw kh (hr.mono (by decide)) aN rfl rfl (ag (aF 7 rfl) (ag (aF 8 rfl) (ag (aF 6 rfl) aq)))) lV (aS _))
  (av (bZ l7))
  fB)))))))))))))))
  (av (bZ l7)))
end
end RQ
end
namespace RM
open PySem L2
def uf {t:VF Bool}{vs:List Nv}{β:Int}{a:Bool}(h:t vs β=.ok a β):xG t vs β=.ok (!a) β:=by rw[nI,h];rfl
def Dx:D->Bool
 | .tuple _=>true
 |_=>false
theorem EO {d:D}(h:Dx d=true):∃ds,d=.tuple ds:=by
 cases d with
 |tuple ds=>exact⟨ds,rfl⟩
 |_=>cases h
def Cg {d:D}(h:gC d=false):lb "tuple" d=some (.bool (Dx d)):=by
 unfold lb;rw[h];cases d <;> rfl
section
variable {fa fb:VF D}{vs:List Nv}{β:Int}
def HF {d:D}(ha:fa vs β=.ok d β)(h:gC d=false):vG (f1 fa (lb "tuple")) vs β=.ok (Dx d) β:=E7 (jT ha (Cg h))
def II {ds:List D}(ha:fa vs β=.ok (.tuple ds) β):f1 fa gJ vs β=.ok (.int ds.length) β:=jT ha rfl
def Gy {ds:List D}{k:Int}(ha:fa vs β=.ok (.tuple ds) β):dr (f2 (f1 fa gJ) (cst (.int k)) (cA true)) vs β=.ok (!decide ((ds.length:Int)=k)) β:=mL (neg:=true) (II ha) rfl
def IB {t u:VF Bool}(h:t vs β=.ok true β):qQ t u vs β=.ok true β:=by rw[lZ,h];rfl
def E9 {t u:VF Bool}{c:Bool}(h:t vs β=.ok false β)(h':u vs β=.ok c β):qQ t u vs β=.ok c β:=by rw[lZ,h];exact h'
end
section
variable {vs:List Nv}{β β1 β2:Int}{fa:VF D}{fr:VF (List D)}{d:D}{ds:List D}
def ac {fa:VF D}{fr:VF (List D)}(h:fa vs β=.ok d β)(h':fr vs β=.ok ds β):ae fa fr vs β=.ok (d :: ds) β:=by rw[dJ,h];dsimp only[R.bnd];rw[h']
def an:ao vs β=.ok [] β:=rfl
def tp (h:fr vs β=.ok ds β)(hz:ds.length<=1000:=by simp):a7 fr vs β=.ok (.tuple ds) β:=oY h hz
def lp (h:fr vs β=.ok ds β)(hz:ds.length<=1000:=by simp):cy fr vs β=.ok (.list ds) β:=hE h hz
end
def jy:List Str:=["order","many","pairs","ring","thing","row","rows","number","chain","turns","points","text"]
def Ae (tbl:List (Str×Nat))(c:Str):Option Str:=(tbl.lookup c).map λj=>jy.getD j ""
def Ge (e:D):Prop:=gC e=false/\∀es,e=.tuple es->es.length<=100/\∀x,x∈es->gC x=false
def JA (n:Int):D->Bool
 | .tuple [x,y]=>j7 x n && j7 y n
 |_=>false
def Hl:List D->FR:=aP 2 2 (kW ki)
theorem xU {es:List D}:(decide ((es.length:Int)=2)=false/\∀n,JA n (.tuple es)=false)\/∃x y,es= [x,y]:=by
 match es with
 | []=>exact .inl ⟨rfl,λ_=>rfl⟩
 | [_]=>exact .inl ⟨rfl,λ_=>rfl⟩
 | [x,y]=>exact .inr ⟨x,y,rfl⟩
 |_ :: _ :: _ :: _=>exact .inl ⟨Lg (by simp;omega),λ_=>rfl⟩
theorem JI {d:D}{n:Int}(h:Ge d):Hl [d,.int n]=.ok (.bool (JA n d)) false:=by
 show fin (kW ki [.fz d,.fz (.int n)] 0)=_
 unfold kW
 have g0:gv 0 (vl [.fz d,.fz (.int n)]) 0=.ok d 0:=rfl
 have t1:=HF g0 h.1
 cases hy:Dx d with
 |false=>
  rw[hy] at t1
  rw[kI (d:=.bool false) (b:=false) (β':=0) ?a]
  ·cases d <;> first |rfl |cases hy
  case a=>rw[bD (IB (uf t1))];rfl
 |true=>
  obtain⟨es,rfl⟩:=EO hy
  rw[hy] at t1
  have t2:=Gy (k:=2) g0
  rcases xU (es:=es) with⟨q,z⟩ | ⟨x,y,rfl⟩
  ·rw[q] at t2
   rw[z n,kI (d:=.bool false) (b:=false) (β':=0) (by rw[bD (E9 (uf t1) t2)];rfl)];rfl
  ·rw[aZ (env':=[.fz (.tuple [x,y]),.fz (.int n)]) (β':=0) (by rw[au (E9 (uf t1) t2)];rfl)]
   have hx:=(h.2 _ rfl).2 x (K3 ..)
   have hy':=(h.2 _ rfl).2 y (KW _ (K3 ..))
   have e1:aA ki (ae (f2 (gv 0) (cst (.int 0)) jR) (ae (gv 1) ao)) (vl [.fz (.tuple [x,y]),.fz (.int n)]) 0=.ok (.bool (j7 x n)) 0:=cj (ds:=[x,.int n]) rfl (tS hx)
   have e2:aA ki (ae (f2 (gv 0) (cst (.int 1)) jR) (ae (gv 1) ao)) (vl [.fz (.tuple [x,y]),.fz (.int n)]) 0=.ok (.bool (j7 y n)) 0:=cj (ds:=[y,.int n]) rfl (tS hy')
   rw[Et,Ed e1 e2];rfl
def Sp (p:Pr):Prop:=(0<=p.1/\p.1<=8)/\(0<=p.2/\p.2<=8)
def Cj {a b:List D}(h:a.length + b.length<=1000):zq (.tuple a) (.tuple b)=some (.tuple (a ++ b)):=KU (by rw[Lo];omega)
structure WP (r:SO)(Q:SO->Prop):Prop where
 out:Q r
section
variable {m m' m1 m2:SF}{env env1:En}{β β1 β2 z:Int}{Q:SO->Prop}{f fa fb:VF D}{t:VF Bool}{d e:D}{L La Lb:List Nat}{i j:Nat}{c:Bool}
def wp_at (env1:En)(e:env=env1)(k:WP (m env1 β) Q):WP (m env β) Q:=by rw[e];exact k
def wp_seq (h:m env β=.nx env1 β1)(k:WP (m' env1 β1) Q):WP (aV m m' env β) Q:=by rw[aZ h];exact k
theorem xI (h:WP (aV m uT env β) Q):WP (m env β) Q:=by
 obtain⟨h⟩:=h
 unfold aV at h
 cases e:m env β with
 |_=>rw[e] at h;exact⟨h⟩
def yA (q:Q (.nx env β)):WP (uT env β) Q:=⟨q⟩
def pE (h:f (vl env) β=.ok d β1)(k:WP (m' ((bt L env).set i (.fz d)) β1) Q):WP (aV (b6 i L f) m' env β) Q:=wp_seq (by unfold b6;rw[h];rfl) k
def Di (h:f (vl env) β=.ok (.list [.int z]) β1)(k:WP (m' ((rC (bt L env)).set i .bx) z) Q):WP (aV (zm i L f) m' env β) Q:=wp_seq (by unfold zm;rw[h];rfl) k
def JF (h:t (vl env) β=.ok false β1)(k:WP (m2 (bt L env) β1) Q):WP (fx L t m1 m2 env β) Q:=by rw[au h];exact k
def G7 (h:f (vl env) β=.ok d β1)(q:Q (.rt d false β1)):WP (cX f env β) Q:=⟨by unfold cX;rw[h];exact q⟩
def GC {R:FR}(h:WP (m env β) λr=>fin r=R):fin (m env β)=R:=h.out
def uK {t:Tg}{fi:VF (List D)}{ds:List D}(I:Nat->En->Int->Prop)(hi:fi (vl env) β=.ok ds β1)(h0:I 0 (bt L env) β1)
  (hs:∀i d env β,ds[i]? =some d->I i env β->∃env1,gQ t d env=some env1/\WP (m env1 β) λr=>∃env2 β2,r=.nx env2 β2/\I (i + 1) env2 β2)
  (k:∀env β,I ds.length env β->WP (m' env β) Q):WP (aV (gN t L fi m) m' env β) Q:=by
 obtain⟨env',β',e,h⟩:=iL (t:=t) (m:=m) I (ds:=ds) (k:=0) h0 λi d env β hd h=>by
  rw[Mz] at h
  obtain⟨env1,e1,⟨env2,β2,e2,h2⟩⟩:=hs i d env β hd h
  exact⟨env1,e1,env2,β2,e2,by rw[Mz];exact h2⟩
 rw[Mz] at h
 exact wp_seq ((qP hi).trans e) (k _ _ h)
end
def BV (c:Int)(hc:0<=c/\c<=100)(ns:List Int)(vs:List Nv)(β:Int)(h:gv 0 vs β=.ok (bW ns) β):∃m:Nat,m<=101/\kc (f2 (cst (.int 1)) (f2 (f1 (gv 0) gJ) (cst (.int c)) (AH λi j=>.int (if j < i then j else i))) (AH λi j=>.int (if j > i then j else i))) vs β=.ok (cw 0 m) β:=by
 have e1:f2 (cst (.int 1)) (f2 (f1 (gv 0) gJ) (cst (.int c)) (AH λi j=>.int (if j < i then j else i))) (AH λi j=>.int (if j > i then j else i)) vs β=.ok (.int (if (if c < ((ns.map int).length:Int) then c else ((ns.map int).length:Int)) > 1 then (if c < ((ns.map int).length:Int) then c else ((ns.map int).length:Int)) else 1)) β:=
  bp (x:=.int 1) rfl (bp (x:=.int (ns.map int).length) (y:=.int c) (jT h rfl) rfl rfl) rfl
 generalize ((ns.map int).length:Nat)=k at e1
 refine⟨(if (if c < (k:Int) then c else (k:Int)) > 1 then (if c < (k:Int) then c else (k:Int)) else 1).toNat,?_,ko (e1.trans ?_) ?_⟩
 ·split <;> split <;> omega
 ·congr 2
  split <;> split <;> omega
 ·split <;> split <;> omega
def Cp {ds:List D}{k:Nat}(h:k < ds.length):∃d,ds[k]? =some d/\d∈ds/\lx ds (k:Int)=some d:=⟨ds[k],KP h,LV h,oQ (KP h)⟩
noncomputable def xy:List D->FR:=aP 3 1 (eN jP Hl cH kx)
def ID (p:Pr):Ge (a9 p):=⟨rfl,λes e=>by cases e;exact⟨by simp,λx hx=>by simp at hx;rcases hx with rfl |rfl <;> rfl⟩⟩
def HA {n:Nat}{p:Pr}(h:(0<=p.1/\p.1 < n)/\(0<=p.2/\p.2 < n)):JA n (a9 p)=true:=by
 show (j7 (.int p.1) n && j7 (.int p.2) n)=true
 rw[LB];exact⟨K7 h.1,K7 h.2⟩
open Classical in
theorem DG {n:Nat}{l:List Pr}(h1:1<=n)(h8:n<=8)(wn:OM.Wn n l)(hl:l.length<=100):xy [bh n l]=.ok (.bool (decide (OM.Ord n l))) false:=by
 show fin (eN jP Hl cH kx [.fz (bh n l),.no,.no] 0)=_
 unfold eN
 rw[aZ (env':=[.fz (bh n l),.no,.no]) (β':=0) (by rfl)]
 rw[aZ (env':=[.fz (bh n l),.fz (.int n),.no]) (β':=0) (by rfl)]
 rw[aZ (env':=[.fz (bh n l),.fz (.int n),.fz (.tuple (l.map a9))]) (β':=0) (by rfl)]
 have e4:aA jP (ae (gv 1) ao) [.da (bh n l),.da (.int n),.da (.tuple (l.map a9))] 0=.ok (.bool true) 0:=cj rfl (wu h1 h8)
 rw[aZ (env':=[.fz (bh n l),.fz (.int n),.fz (.tuple (l.map a9))]) (β':=0) ?h4]
 case h4=>
  refine au ?_
  show qQ (xG (vG (aA jP (ae (gv 1) ao)))) _ [.da (bh n l),.da (.int n),.da (.tuple (l.map a9))] 0=_
  rw[lZ,nI,nh,e4]
  rfl
 have e5:bV 1 [1] (.nm 0) (fm (gv 2)) AW (aA Hl (ae (gv 0) (ae (gv 1) ao))) [.da (bh n l),.da (.int n),.da (.tuple (l.map a9))] 0=.ok (.list (l.map λ_=>PyData.bool true)) 0:=by
  refine qw (l:=l) (e:=a9) (λ_=>PyData.bool true) rfl (by omega) λp hp=>⟨_,rfl,?_⟩
  refine cj (b:=false) (ds:=[a9 p,.int n]) rfl ?_
  rw[JI (ID p),HA (wn p hp)]
 rw[aZ (env':=[.fz (bh n l),.fz (.int n),.fz (.tuple (l.map a9))]) (β':=0) ?h5]
 case h5=>
  refine au ?_
  show xG (vG (f1 (bV 1 [1] (.nm 0) (fm (gv 2)) AW (aA Hl (ae (gv 0) (ae (gv 1) ao)))) (iy λbs=>bs.all id))) [.da (bh n l),.da (.int n),.da (.tuple (l.map a9))] 0=_
  rw[nI,nh,jT (d:=.bool true) e5 (by simp only[iy];rw[mY];simp)]
  rfl
 have e6:aA cH (ae (gv 1) (ae (gv 2) ao)) [.da (bh n l),.da (.int n),.da (.tuple (l.map a9))] 0=.ok (.tuple ((OM.bP n (OM.Tr (OM.Mem l))).map a9)) 0:=cj rfl (by rw[A9 h1 h8 wn])
 have e7:aA kx (ae (gv 2) ao) [.da (bh n l),.da (.int n),.da (.tuple (l.map a9))] 0=.ok (.bool (l.any λp=>decide (p.1=p.2))) 0:=cj rfl (by unfold kx;simp only[gE];rw[KU (by omega)])
 show fin (toS (la (f2 (gv 2) (aA cH (ae (gv 1) (ae (gv 2) ao))) (cA false)) (f1 (aA kx (ae (gv 2) ao)) C1) [.da (bh n l),.da (.int n),.da (.tuple (l.map a9))] 0) _)=_
 unfold la
 rw[bp (d:=.bool (decide (l=OM.bP n (OM.Tr (OM.Mem l))))) (x:=.tuple (l.map a9)) rfl e6 (by rw[B8];simp)]
 dsimp only[R.bnd]
 by_cases c:l=OM.bP n (OM.Tr (OM.Mem l))
 ·rw[K7 c]
  dsimp only
  rw[jT (d:=.bool (!(l.any λp=>decide (p.1=p.2)))) e7 rfl]
  have key:(!(l.any λp=>decide (p.1=p.2)))=decide (OM.Ord n l):=by
   rw[LZ,Nc,Mq,List.any_eq_false]
   constructor
   ·intro h
    refine⟨h1,h8,wn,?_,λa ha=>h (a,a) ha (by simp),λa b d hab hbd=>?_⟩
    ·rw[c];exact OM.pZ _ (OM.qm n)
    ·rw[c]
     exact OM.bg.mpr ⟨⟨(wn _ hab).1,(wn _ hbd).2⟩,.more hab (.one hbd)⟩
   ·intro O p hp he
    have he:=of_decide_eq_true he
    obtain⟨a,b⟩:=p
    simp only at he
    subst he
    exact O.irr a hp
  rw[key];rfl
 ·rw[Lg c,Lg λO=>c O.closed.symm]
  rfl
def wO (n:Nat)(l:List Pr):List D:=[.none,bh 3 [(0,1),(1,2)],bh 2 [(0,1),(1,0)],bh 2 [(0,0)],bh 2 [(0,2)],bh 9 [],bh 0 []] ++ [bh 3 [(0,2),(0,1)],.tuple [.int n,.list (l.map a9)],.list [.int n,.tuple (l.map a9)],.int n,.tuple [.bool true,.tuple []],.str "1",.dict []] ++ [bh 3 [(0,1),(0,1)],.tuple [.int n],.tuple ([.int n,.tuple (l.map a9)] ++ [.tuple []])]
def pw {n:Nat}{l:List Pr}(h1:1<=n)(h8:n<=8)(wn:OM.Wn n l)(hl:l.length<=100)(h:¬OM.Ord n l):xy [bh n l]=.ok (.bool false) false:=by
 classical
 rw[DG h1 h8 wn hl]
 congr 2
 exact Lg h
def GV {n:Nat}{ds:List D}(h1:1<=n)(h8:n<=8):xy [.tuple [.int n,.list ds]]=.ok (.bool false) false:=by
 show fin (eN jP Hl cH kx [.fz (.tuple [.int n,.list ds]),.no,.no] 0)=_
 unfold eN
 rw[aZ (env':=[.fz (.tuple [.int n,.list ds]),.no,.no]) (β':=0) (by rfl)]
 rw[aZ (env':=[.fz (.tuple [.int n,.list ds]),.fz (.int n),.no]) (β':=0) (by rfl)]
 rw[aZ (env':=[.fz (.tuple [.int n,.list ds]),.fz (.int n),.fz (.list ds)]) (β':=0) (by rfl)]
 have e4:aA jP (ae (gv 1) ao) [.da (.tuple [.int n,.list ds]),.da (.int n),.da (.list ds)] 0=.ok (.bool true) 0:=cj rfl (wu h1 h8)
 rw[kI (d:=.bool false) (b:=false) (β':=0) ?h4]
 ·rfl
 case h4=>
  rw[bD (β':=0) ?h]
  ·rfl
  show qQ (xG (vG (aA jP (ae (gv 1) ao)))) _ [.da (.tuple [.int n,.list ds]),.da (.int n),.da (.list ds)] 0=_
  rw[lZ,nI,nh,e4]
  rfl
def FN {n:Nat}{l:List Pr}(O:OM.Ord n l):∀d,d∈wO n l->xy [d]=.ok (.bool false) false:=by
 intro d hd
 unfold wO at hd
 simp only[List.cons_append,List.nil_append,KZ,not_mem_nil,or_false] at hd
 rcases hd with rfl |rfl |rfl |rfl |rfl |rfl |rfl |rfl |rfl |rfl |rfl |rfl |rfl |rfl |rfl |rfl |rfl
 ·rfl
 ·exact pw (by omega) (by omega) (by unfold OM.Wn;decide) (by simp) λO=>absurd (O.tr 0 1 2 (by simp) (by simp)) (by decide)
 ·exact pw (by omega) (by omega) (by unfold OM.Wn;decide) (by simp) λO=>absurd (O.tr 0 1 0 (by simp) (by simp)) (by decide)
 ·exact pw (by omega) (by omega) (by unfold OM.Wn;decide) (by simp) λO=>O.irr 0 (by simp)
 ·rfl
 ·rfl
 ·rfl
 ·exact pw (by omega) (by omega) (by unfold OM.Wn;decide) (by simp) λO=>absurd O.ris (by unfold OM.uq;decide)
 ·exact GV O.lo O.hi
 ·rfl
 ·rfl
 ·rfl
 ·rfl
 ·rfl
 ·exact pw (by omega) (by omega) (by unfold OM.Wn;decide) (by simp) λO=>absurd O.ris (by unfold OM.uq;decide)
 ·rfl
 ·rfl
noncomputable def nF:List D->FR:=aP 1 1 (fS xy)
def JO {d:D}(h:xy [d]=.ok (.bool false) false):nF [d]=.exc "NoOrder":=by
 show fin (fS xy [.fz d] 0)=_
 unfold fS
 rw[bD (uf (E7 (cj (ds:=[d]) rfl h)))]
 rfl
section
variable {L:List Nat}{f:VF D}{m':SF}{env:En}{β β1:Int}{c:Str}{d:D}
def xE (h:f (vl env) β=.exc c):aR L f env β=.exc c:=by unfold aR;rw[h];rfl
def xS (h:f (vl env) β=.exc c):aV (aR L f) m' env β=.exc c:=kl (xE h)
end
noncomputable def pY:List D->FR:=aP 4 3 pG
noncomputable def ba:List D->FR:=aP 2 2 (bA nF)
noncomputable def tQ:List D->FR:=aP 2 2 (jj ba)
noncomputable def qE:List D->FR:=aP 2 2 (g7 ba)
noncomputable def sQ:List D->FR:=aP 3 2 (jG ba)
noncomputable def cO:List D->FR:=aP 1 1 (dg nF)
noncomputable def pS:List D->FR:=aP 1 1 (gZ nF)
noncomputable def qK:List D->FR:=aP 2 2 (hZ nF)
noncomputable def kn:List D->FR:=aP 1 1 (dI nF)
noncomputable def nt:List D->FR:=aP 9 2 (fJ nF)
noncomputable def nv:List D->FR:=aP 8 2 (fZ nF)
noncomputable def nK:List D->FR:=aP 2 2 (kP nF)
noncomputable def jb:List D->FR:=aP 3 2 (dc nF)
noncomputable def jk:List D->FR:=aP 3 1 (dh nF)
noncomputable def iX:List D->FR:=aP 1 1 (mC nF)
noncomputable def jw:List D->FR:=aP 4 2 (gf nF)
noncomputable def fk:List D->FR:=aP 2 2 (gY nF)
noncomputable def fR:List D->FR:=aP 1 1 (jf nF)
noncomputable def nW:List D->FR:=aP 2 2 (kB nF)
noncomputable def lN:List D->FR:=aP 5 2 (ja nF)
noncomputable def cK:List D->FR:=aP 3 2 (fV nF)
noncomputable def p5:List D->FR:=aP 2 2 (mT nF)
noncomputable def nO:List D->FR:=aP 3 2 (kJ nF)
noncomputable def bJ:List D->FR:=aP 3 1 (cF nF)
noncomputable def kq:List D->FR:=aP 2 2 (g9 nK)
noncomputable def nN:List D->FR:=aP 2 2 (kX cK)
noncomputable def jM:List D->FR:=aP 1 1 (fF iX fk)
noncomputable def iu:List D->FR:=aP 1 1 (eQ fR pY)
noncomputable def lP:List D->FR:=aP 2 1 (jJ bJ)
noncomputable def nj:List D->FR:=aP 1 1 (kF fR)
noncomputable def jL:List D->FR:=aP 2 1 (fL cO)
noncomputable def fN:List D->FR:=aP 2 2 (fO tQ qE sQ cO pS jL qK kn nt nv nK)
noncomputable def fg:List D->FR:=aP 2 2 (eV jb jk iX jw fk jM fR iu nW lN)
noncomputable def gi:List D->FR:=aP 2 2 (fX cK kq nN p5 nO bJ lP nj)
section
variable {a:D}(h:nF [a]=.exc "NoOrder")
include h
def cf:ba [a,.none]=.exc "NoOrder":=by
 show fin (bA nF [.fz a,.fz .none] 0)=_
 unfold bA
 rw[xS (ar (ds:=[a]) rfl h)];rfl
def EH:tQ [a,.none]=.exc "NoOrder":=by
 show fin (jj ba [.fz a,.fz .none] 0)=_
 unfold jj
 rw[xS (ar (ds:=[a,.none]) rfl (cf h))];rfl
def B6:qE [a,.none]=.exc "NoOrder":=by
 show fin (g7 ba [.fz a,.fz .none] 0)=_
 unfold g7
 rw[xS (ar (ds:=[a,.none]) rfl (cf h))];rfl
def EC:sQ [a,.none]=.exc "NoOrder":=by
 show fin (jG ba [.fz a,.fz .none,.no] 0)=_
 unfold jG
 rw[xS (ar (ds:=[a,.none]) rfl (cf h))];rfl
def mj:cO [a]=.exc "NoOrder":=by
 show fin (dg nF [.fz a] 0)=_
 unfold dg
 rw[xS (ar (ds:=[a]) rfl h)];rfl
def CQ:pS [a]=.exc "NoOrder":=by
 show fin (gZ nF [.fz a] 0)=_
 unfold gZ
 rw[xS (ar (ds:=[a]) rfl h)];rfl
def CO:qK [.none,a]=.exc "NoOrder":=by
 show fin (hZ nF [.fz .none,.fz a] 0)=_
 unfold hZ
 rw[xS (ar (ds:=[a]) rfl h)];rfl
def wc:kn [a]=.exc "NoOrder":=by
 show fin (dI nF [.fz a] 0)=_
 unfold dI
 rw[xS (ar (ds:=[a]) rfl h)];rfl
def AN:nt [a,.none]=.exc "NoOrder":=by
 show fin (fJ nF [.fz a,.fz .none,.no,.no,.no,.no,.no,.no,.no] 0)=_
 unfold fJ
 rw[xS (ar (ds:=[a]) rfl h)];rfl
def AK:nv [a,.none]=.exc "NoOrder":=by
 show fin (fZ nF [.fz a,.fz .none,.no,.no,.no,.no,.no,.no] 0)=_
 unfold fZ
 rw[xS (ar (ds:=[a]) rfl h)];rfl
def Cy:nK [.none,a]=.exc "NoOrder":=by
 show fin (kP nF [.fz .none,.fz a] 0)=_
 unfold kP
 rw[xS (ar (ds:=[a]) rfl h)];rfl
def um:jb [a,.none]=.exc "NoOrder":=by
 show fin (dc nF [.fz a,.fz .none,.no] 0)=_
 unfold dc
 rw[xS (ar (ds:=[a]) rfl h)];rfl
def tE:jk [a]=.exc "NoOrder":=by
 show fin (dh nF [.fz a,.no,.no] 0)=_
 unfold dh
 rw[xS (ar (ds:=[a]) rfl h)];rfl
def vV:iX [a]=.exc "NoOrder":=by
 show fin (mC nF [.fz a] 0)=_
 unfold mC
 rw[xS (ar (ds:=[a]) rfl h)];rfl
def t9:jw [.none,a]=.exc "NoOrder":=by
 show fin (gf nF [.fz .none,.fz a,.no,.no] 0)=_
 unfold gf
 rw[xS (ar (ds:=[a]) rfl h)];rfl
def vZ:fk [a,.none]=.exc "NoOrder":=by
 show fin (gY nF [.fz a,.fz .none] 0)=_
 unfold gY
 rw[xS (ar (ds:=[a]) rfl h)];rfl
def tM:fR [a]=.exc "NoOrder":=by
 show fin (jf nF [.fz a] 0)=_
 unfold jf
 rw[xS (ar (ds:=[a]) rfl h)];rfl
def zO:nW [.none,a]=.exc "NoOrder":=by
 show fin (kB nF [.fz .none,.fz a] 0)=_
 unfold kB
 rw[xS (ar (ds:=[a]) rfl h)];rfl
def xu:lN [a,.none]=.exc "NoOrder":=by
 show fin (ja nF [.fz a,.fz .none,.no,.no,.no] 0)=_
 unfold ja
 rw[xS (ar (ds:=[a]) rfl h)];rfl
def lW:cK [.none,a]=.exc "NoOrder":=by
 show fin (fV nF [.fz .none,.fz a,.no] 0)=_
 unfold fV
 rw[xS (ar (ds:=[a]) rfl h)];rfl
def A4:p5 [a,.none]=.exc "NoOrder":=by
 show fin (mT nF [.fz a,.fz .none] 0)=_
 unfold mT
 rw[xS (ar (ds:=[a]) rfl h)];rfl
def zw:nO [.none,a]=.exc "NoOrder":=by
 show fin (kJ nF [.fz .none,.fz a,.no] 0)=_
 unfold kJ
 rw[xS (ar (ds:=[a]) rfl h)];rfl
def iP:bJ [a]=.exc "NoOrder":=by
 show fin (cF nF [.fz a,.no,.no] 0)=_
 unfold cF
 rw[xS (ar (ds:=[a]) rfl h)];rfl
def wH:kq [a,.none]=.exc "NoOrder":=by
 show fin (g9 nK [.fz a,.fz .none] 0)=_
 unfold g9
 rw[kl (c:="NoOrder") ?q]; · rfl
 have e:aA nK (ae (gv 1) (ae (gv 0) ao)) (vl [.fz a,.fz .none]) 0=.exc "NoOrder":=(ar (ds:=[.none,a]) rfl (Cy h))
 unfold fx
 rw[lZ,nI,nh,e];rfl
def AL:nN [a,.none]=.exc "NoOrder":=by
 show fin (kX cK [.fz a,.fz .none] 0)=_
 unfold kX
 rw[kl (c:="NoOrder") ?q]; · rfl
 have e:aA cK (ae (gv 1) (ae (gv 0) ao)) (vl [.fz a,.fz .none]) 0=.exc "NoOrder":=(ar (ds:=[.none,a]) rfl (lW h))
 unfold fx
 rw[nI,nh,e];rfl
def tJ:jM [a]=.exc "NoOrder":=by
 show fin (fF iX fk [.fz a] 0)=_
 unfold fF
 have e:aA iX (ae (gv 0) ao) (vl [.fz a]) 0=.exc "NoOrder":=(ar (ds:=[a]) rfl (vV h))
 unfold mQ bV fm
 rw[e];rfl
def qS:iu [a]=.exc "NoOrder":=by
 show fin (eQ fR pY [.fz a] 0)=_
 unfold eQ
 have e:aA fR (ae (gv 0) ao) (vl [.fz a]) 0=.exc "NoOrder":=(ar (ds:=[a]) rfl (tM h))
 unfold mQ bV fm
 rw[e];rfl
def xb:lP [a]=.exc "NoOrder":=by
 show fin (jJ bJ [.fz a,.no] 0)=_
 unfold jJ
 have e:aA bJ (ae (gv 0) ao) (vl [.fz a,.no]) 0=.exc "NoOrder":=(ar (ds:=[a]) rfl (iP h))
 rw[kl (c:="NoOrder") (by unfold b6;rw[e];rfl)];rfl
def Az:nj [a]=.exc "NoOrder":=by
 show fin (kF fR [.fz a] 0)=_
 unfold kF
 have e:aA fR (ae (gv 0) ao) (vl [.fz a]) 0=.exc "NoOrder":=(ar (ds:=[a]) rfl (tM h))
 unfold cX f2 f1
 rw[e];rfl
def sL:jL [a]=.exc "NoOrder":=by
 show fin (fL cO [.fz a,.no] 0)=_
 unfold fL
 have e:aA cO (ae (gv 0) ao) (vl [.fz a,.no]) 0=.exc "NoOrder":=(ar (ds:=[a]) rfl (mj h))
 rw[kl (c:="NoOrder") (by unfold b6 bV fm;rw[e];rfl)];rfl
theorem tX {w:Nat}(hw:w < 11):fN [.int w,a]=.exc "NoOrder":=by
 show fin (fO tQ qE sQ cO pS jL qK kn nt nv nK [.fz (.int w),.fz a] 0)=_
 unfold fO
 match w,hw with
 | 0,_=>rw[bD (β':=0) (by rfl),xE (ar (ds:=[a,.none]) rfl (EH h))];rfl
 | 1,_=>rw[au (β':=0) (by rfl),bD (β':=0) (by rfl),xE (ar (ds:=[a,.none]) rfl (B6 h))];rfl
 | 2,_=>rw[au (β':=0) (by rfl),au (β':=0) (by rfl),bD (β':=0) (by rfl),xE (ar (ds:=[a,.none]) rfl (EC h))];rfl
 | 3,_=>rw[au (β':=0) (by rfl),au (β':=0) (by rfl),au (β':=0) (by rfl),bD (β':=0) (by rfl),xE (ar (ds:=[a]) rfl (mj h))];rfl
 | 4,_=>rw[au (β':=0) (by rfl),au (β':=0) (by rfl),au (β':=0) (by rfl),au (β':=0) (by rfl),bD (β':=0) (by rfl),xE (ar (ds:=[a]) rfl (CQ h))];rfl
 | 5,_=>rw[au (β':=0) (by rfl),au (β':=0) (by rfl),au (β':=0) (by rfl),au (β':=0) (by rfl),au (β':=0) (by rfl),bD (β':=0) (by rfl),xE (ar (ds:=[a]) rfl (sL h))];rfl
 | 6,_=>rw[au (β':=0) (by rfl),au (β':=0) (by rfl),au (β':=0) (by rfl),au (β':=0) (by rfl),au (β':=0) (by rfl),au (β':=0) (by rfl),bD (β':=0) (by rfl),xE (ar (ds:=[.none,a]) rfl (CO h))];rfl
 | 7,_=>rw[au (β':=0) (by rfl),au (β':=0) (by rfl),au (β':=0) (by rfl),au (β':=0) (by rfl),au (β':=0) (by rfl),au (β':=0) (by rfl),au (β':=0) (by rfl),bD (β':=0) (by rfl),xE (ar (ds:=[a]) rfl (wc h))];rfl
 | 8,_=>rw[au (β':=0) (by rfl),au (β':=0) (by rfl),au (β':=0) (by rfl),au (β':=0) (by rfl),au (β':=0) (by rfl),au (β':=0) (by rfl),au (β':=0) (by rfl),au (β':=0) (by rfl),bD (β':=0) (by rfl),xE (ar (ds:=[a,.none]) rfl (AN h))];rfl
 | 9,_=>rw[au (β':=0) (by rfl),au (β':=0) (by rfl),au (β':=0) (by rfl),au (β':=0) (by rfl),au (β':=0) (by rfl),au (β':=0) (by rfl),au (β':=0) (by rfl),au (β':=0) (by rfl),au (β':=0) (by rfl),bD (β':=0) (by rfl),xE (ar (ds:=[a,.none]) rfl (AK h))];rfl
 | 10,_=>rw[au (β':=0) (by rfl),au (β':=0) (by rfl),au (β':=0) (by rfl),au (β':=0) (by rfl),au (β':=0) (by rfl),au (β':=0) (by rfl),au (β':=0) (by rfl),au (β':=0) (by rfl),au (β':=0) (by rfl),au (β':=0) (by rfl),xE (ar (ds:=[.none,a]) rfl (Cy h))];rfl
theorem rb {w:Nat}(hw:w < 10):fg [.int w,a]=.exc "NoOrder":=by
 show fin (eV jb jk iX jw fk jM fR iu nW lN [.fz (.int w),.fz a] 0)=_
 unfold eV
 match w,hw with
 | 0,_=>rw[bD (β':=0) (by rfl),xE (ar (ds:=[a,.none]) rfl (um h))];rfl
 | 1,_=>rw[au (β':=0) (by rfl),bD (β':=0) (by rfl),xE (ar (ds:=[a]) rfl (tE h))];rfl
 | 2,_=>rw[au (β':=0) (by rfl),au (β':=0) (by rfl),bD (β':=0) (by rfl),xE (ar (ds:=[a]) rfl (vV h))];rfl
 | 3,_=>rw[au (β':=0) (by rfl),au (β':=0) (by rfl),au (β':=0) (by rfl),bD (β':=0) (by rfl),xE (ar (ds:=[.none,a]) rfl (t9 h))];rfl
 | 4,_=>rw[au (β':=0) (by rfl),au (β':=0) (by rfl),au (β':=0) (by rfl),au (β':=0) (by rfl),bD (β':=0) (by rfl),xE (ar (ds:=[a,.none]) rfl (vZ h))];rfl
 | 5,_=>rw[au (β':=0) (by rfl),au (β':=0) (by rfl),au (β':=0) (by rfl),au (β':=0) (by rfl),au (β':=0) (by rfl),bD (β':=0) (by rfl),xE (ar (ds:=[a]) rfl (tJ h))];rfl
 | 6,_=>rw[au (β':=0) (by rfl),au (β':=0) (by rfl),au (β':=0) (by rfl),au (β':=0) (by rfl),au (β':=0) (by rfl),au (β':=0) (by rfl),bD (β':=0) (by rfl),xE (ar (ds:=[a]) rfl (tM h))];rfl
 | 7,_=>rw[au (β':=0) (by rfl),au (β':=0) (by rfl),au (β':=0) (by rfl),au (β':=0) (by rfl),au (β':=0) (by rfl),au (β':=0) (by rfl),au (β':=0) (by rfl),bD (β':=0) (by rfl),xE (ar (ds:=[a]) rfl (qS h))];rfl
 | 8,_=>rw[au (β':=0) (by rfl),au (β':=0) (by rfl),au (β':=0) (by rfl),au (β':=0) (by rfl),au (β':=0) (by rfl),au (β':=0) (by rfl),au (β':=0) (by rfl),au (β':=0) (by rfl),bD (β':=0) (by rfl),xE (ar (ds:=[.none,a]) rfl (zO h))];rfl
 | 9,_=>rw[au (β':=0) (by rfl),au (β':=0) (by rfl),au (β':=0) (by rfl),au (β':=0) (by rfl),au (β':=0) (by rfl),au (β':=0) (by rfl),au (β':=0) (by rfl),au (β':=0) (by rfl),au (β':=0) (by rfl),xE (ar (ds:=[a,.none]) rfl (xu h))];rfl
theorem uD {w:Nat}(hw:w < 8):gi [.int w,a]=.exc "NoOrder":=by
 show fin (fX cK kq nN p5 nO bJ lP nj [.fz (.int w),.fz a] 0)=_
 unfold fX
 match w,hw with
 | 0,_=>rw[bD (β':=0) (by rfl),xE (ar (ds:=[.none,a]) rfl (lW h))];rfl
 | 1,_=>rw[au (β':=0) (by rfl),bD (β':=0) (by rfl),xE (ar (ds:=[a,.none]) rfl (wH h))];rfl
 | 2,_=>rw[au (β':=0) (by rfl),au (β':=0) (by rfl),bD (β':=0) (by rfl),xE (ar (ds:=[a,.none]) rfl (AL h))];rfl
 | 3,_=>rw[au (β':=0) (by rfl),au (β':=0) (by rfl),au (β':=0) (by rfl),bD (β':=0) (by rfl),xE (ar (ds:=[a,.none]) rfl (A4 h))];rfl
 | 4,_=>rw[au (β':=0) (by rfl),au (β':=0) (by rfl),au (β':=0) (by rfl),au (β':=0) (by rfl),bD (β':=0) (by rfl),xE (ar (ds:=[.none,a]) rfl (zw h))];rfl
 | 5,_=>rw[au (β':=0) (by rfl),au (β':=0) (by rfl),au (β':=0) (by rfl),au (β':=0) (by rfl),au (β':=0) (by rfl),bD (β':=0) (by rfl),xE (ar (ds:=[a]) rfl (iP h))];rfl
 | 6,_=>rw[au (β':=0) (by rfl),au (β':=0) (by rfl),au (β':=0) (by rfl),au (β':=0) (by rfl),au (β':=0) (by rfl),au (β':=0) (by rfl),bD (β':=0) (by rfl),xE (ar (ds:=[a]) rfl (xb h))];rfl
 | 7,_=>rw[au (β':=0) (by rfl),au (β':=0) (by rfl),au (β':=0) (by rfl),au (β':=0) (by rfl),au (β':=0) (by rfl),au (β':=0) (by rfl),au (β':=0) (by rfl),xE (ar (ds:=[a]) rfl (Az h))];rfl
end
def BC:List (Str×Nat):=[("NoOrder",0)]
def Ju:Ae BC "NoOrder"=some ("order":Str):=by kernel_rfl
noncomputable def CP:List D->FR:=aP 4 3 (gW (Ae BC) fN fg gi)
def IE (p:Nat):Nat:=if p=0 then 11 else if p=1 then 10 else 8
def Fw {a:D}(h:nF [a]=.exc "NoOrder"){p k:Nat}(hp:p < 3)(hk:k < IE p):CP [.int p,.int k,a]=.ok (.str "order") false:=by
 show fin (gW (Ae BC) fN fg gi [.fz (.int p),.fz (.int k),.fz a,.no] 0)=_
 unfold gW
 rw[kI (d:=.str "order") (b:=false) (β':=0) ?q]
 ·rfl
 case q=>
  unfold v3
  refine (KU (by rfl)).trans ?_
  have e:fx ([] ++ []) (dr (f2 (gv 0) (cst (.int 0)) (cA false))) (aR ([1] ++ ([2] ++ [])) (aA fN (ae (gv 1) (ae (gv 2) ao)))) (fx ([] ++ []) (dr (f2 (gv 0) (cst (.int 1)) (cA false))) (aR ([1] ++ ([2] ++ [])) (aA fg (ae (gv 1) (ae (gv 2) ao)))) (aR ([1] ++ ([2] ++ [])) (aA gi (ae (gv 1) (ae (gv 2) ao))))) [.fz (.int p),.fz (.int k),.fz a,.no] 0=.exc "NoOrder":=by
   match p,hp,hk with
   | 0,_,hk=>rw[bD (β':=0) (by rfl),xE (ar (ds:=[.int k,a]) rfl (tX h hk))]
   | 1,_,hk=>rw[au (β':=0) (by rfl),bD (β':=0) (by rfl),xE (ar (ds:=[.int k,a]) rfl (rb h hk))]
   | 2,_,hk=>rw[au (β':=0) (by rfl),au (β':=0) (by rfl),xE (ar (ds:=[.int k,a]) rfl (uD h hk))]
  rw[e]
  dsimp only
  rw[Ju]
noncomputable def Gi:List D->FR:=aP 9 1 (yK Gj CP uI cT)
def Hx (ns:List Int):Gi [bW ns]=.ok (.bool true) false:=by
 show fin (yK Gj CP uI cT [.fz (bW ns),.no,.no,.no,.no,.no,.no,.no,.no] 0)=_
 refine GC ?_
 obtain⟨m0,hm0,em⟩:=BV 4 (by omega) ns (vl [.fz (bW ns),.no,.no,.no,.no,.no,.no,.no,.no]) 0 rfl
 unfold yK
 refine uK (λ_ env _=>∃s1 s2 s3 s4 s5 s6 s7 s8,env= [.fz (bW ns),s1,s2,s3,s4,s5,s6,s7,s8]) em ⟨_,_,_,_,_,_,_,_,rfl⟩ ?_ λenv β ⟨s1,s2,s3,s4,s5,s6,s7,s8,e⟩=>G7 (d:=.bool true) rfl rfl
 rintro i d env β hi ⟨s1,s2,s3,s4,s5,s6,s7,s8,rfl⟩
 obtain⟨_,rfl⟩:=iG hi
 rw[Ml]
 refine⟨[.fz (bW ns),.fz (.int i),s2,s3,s4,s5,s6,s7,s8],rfl,?_⟩
 obtain⟨z,ez⟩:=HQ ns i
 obtain⟨t3,t4,t5,t6,t7,t8,hcl⟩:∃t3 t4 t5 t6 t7 t8:Sl,(rC (bt ([0] ++ ([1] ++ [])) [.fz (bW ns),.fz (.int i),s2,s3,s4,s5,s6,s7,s8])).set 2 .bx= [.fz (bW ns),.fz (.int i),.bx,t3,t4,t5,t6,t7,t8]:=⟨_,_,_,_,_,_,rfl⟩
 refine Di (CF (ds:=[bW ns,.int i]) rfl ez) (wp_at _ hcl ?_)
 obtain⟨n,l,β1,e1,O,h6⟩:=Cw (most:=6) (by omega) (by omega) z
 have hll:=DS O
 refine pE (d:=bh n l) (ly (ds:=[.int 6]) (by rfl) rfl e1) (wp_at [.fz (bW ns),.fz (.int i),.bx,.fz (bh n l),t4,t5,t6,t7,t8] rfl ?_)
 refine pE (d:=.list [.none,bh 3 [(0,1),(1,2)],bh 2 [(0,1),(1,0)],bh 2 [(0,0)],bh 2 [(0,2)],bh 9 [],bh 0 []]) (lp (ac rfl (ac (tp (ac rfl (ac (tp (ac (tp (ac rfl (ac rfl an))) (ac (tp (ac rfl (ac rfl an))) an))) an))) (ac (tp (ac rfl (ac (tp (ac (tp (ac rfl (ac rfl an))) (ac (tp (ac rfl (ac rfl an))) an))) an))) (ac (tp (ac rfl (ac (tp (ac (tp (ac rfl (ac rfl an))) an)) an))) (ac (tp (ac rfl (ac (tp (ac (tp (ac rfl (ac rfl an))) an)) an))) (ac (tp (ac rfl (ac (tp an) an))) (ac (tp (ac rfl (ac (tp an) an))) an)))))))) (wp_at [.fz (bW ns),.fz (.int i),.bx,.fz (bh n l),.fz (.list [.none,bh 3 [(0,1),(1,2)],bh 2 [(0,1),(1,0)],bh 2 [(0,0)],bh 2 [(0,2)],bh 9 [],bh 0 []]),t5,t6,t7,t8] rfl ?_)
 refine pE (d:=.list ([.none,bh 3 [(0,1),(1,2)],bh 2 [(0,1),(1,0)],bh 2 [(0,0)],bh 2 [(0,2)],bh 9 [],bh 0 []] ++ [bh 3 [(0,2),(0,1)],.tuple [.int n,.list (l.map a9)],.list [.int n,.tuple (l.map a9)],.int n,.tuple [.bool true,.tuple []],.str "1",.dict []])) (bp rfl (lp (ac (tp (ac rfl (ac (tp (ac (tp (ac rfl (ac rfl an))) (ac (tp (ac rfl (ac rfl an))) an))) an))) (ac (tp (ac (J0 (n:=n) (l:=l) rfl) (ac (jT (x:=.tuple (l.map a9)) (bp rfl rfl rfl) rfl) an))) (ac (jT rfl rfl) (ac (J0 (n:=n) (l:=l) rfl) (ac (tp (ac rfl (ac (tp an) an))) (ac rfl (ac rfl an)))))))) (oX (by show (7 + 7:Nat)<=10000;omega))) (wp_at [.fz (bW ns),.fz (.int i),.bx,.fz (bh n l),.fz (.list ([.none,bh 3 [(0,1),(1,2)],bh 2 [(0,1),(1,0)],bh 2 [(0,0)],bh 2 [(0,2)],bh 9 [],bh 0 []] ++ [bh 3 [(0,2),(0,1)],.tuple [.int n,.list (l.map a9)],.list [.int n,.tuple (l.map a9)],.int n,.tuple [.bool true,.tuple []],.str "1",.dict []])),t5,t6,t7,t8] rfl ?_)
 refine pE (d:=.list (wO n l)) (bp rfl (lp (ac (tp (ac rfl (ac (tp (ac (tp (ac rfl (ac rfl an))) (ac (tp (ac rfl (ac rfl an))) an))) an))) (ac (tp (ac (J0 (n:=n) (l:=l) rfl) an)) (ac (bp (x:=.tuple [.int n,.tuple (l.map a9)]) (y:=.tuple [.tuple []]) rfl (tp (ac (tp an) an)) (Cj (by show (2 + 1:Nat)<=1000;omega))) an)))) (oX (by show (14 + 3:Nat)<=10000;omega))) (wp_at [.fz (bW ns),.fz (.int i),.bx,.fz (bh n l),.fz (.list (wO n l)),t5,t6,t7,t8] rfl ?_)
 refine xI (uK (ds:=cw 0 4) (β1:=β1) (λ_ env _=>∃s5 s6 s7 s8,env= [.fz (bW ns),.fz (.int i),.bx,.fz (bh n l),.fz (.list (wO n l)),s5,s6,s7,s8]) (ko (n:=4) rfl (by omega)) ⟨_,_,_,_,rfl⟩ ?_ ?_)
 ·rintro q d env β hq ⟨s5,s6,s7,s8,rfl⟩
  obtain⟨hq4,rfl⟩:=iG hq
  rw[Ml]
  refine⟨[.fz (bW ns),.fz (.int i),.bx,.fz (bh n l),.fz (.list (wO n l)),.fz (.int q),s6,s7,s8],rfl,?_⟩
  obtain⟨j,hj,ej⟩:=mr (m:=17) (by omega) (by omega) β
  obtain⟨a,ha⟩:∃o,(wO n l)[j]? =some o:=⟨_,KP (by show j < 17;omega)⟩
  have hno:=JO (FN O a (K8 ha))
  have e:f2 (gv 4) (oi 2 cT (ae (cst (.int 17)) ao)) jR (vl [.fz (bW ns),.fz (.int i),.bx,.fz (bh n l),.fz (.list (wO n l)),.fz (.int q),s6,s7,s8]) β=.ok a (β / ((17:Nat):Int)):=bp (x:=.list (wO n l)) (y:=.int j) rfl (ly (ds:=[.int 17]) (by rfl) rfl ej) (show lx (wO n l) (j:Int)=some a from oQ ha)
  refine pE e (wp_at [.fz (bW ns),.fz (.int i),.bx,.fz (bh n l),.fz (.list (wO n l)),.fz (.int q),.fz a,s7,s8] rfl ?_)
  generalize β / ((17:Nat):Int)=β2
  refine xI (uK (ds:=cw 0 3) (β1:=β2) (λ_ env _=>∃s7 s8,env= [.fz (bW ns),.fz (.int i),.bx,.fz (bh n l),.fz (.list (wO n l)),.fz (.int q),.fz a,s7,s8]) (ko (n:=3) rfl (by omega)) ⟨_,_,rfl⟩ ?_ ?_)
  ·rintro p d env β hp ⟨s7,s8,rfl⟩
   obtain⟨hp3,rfl⟩:=iG hp
   rw[Ml]
   refine⟨[.fz (bW ns),.fz (.int i),.bx,.fz (bh n l),.fz (.list (wO n l)),.fz (.int q),.fz a,.fz (.int p),s8],rfl,?_⟩
   have hix:f2 (cy (ae (cst (.int 11)) (ae (cst (.int 10)) (ae (cst (.int 8)) ao)))) (gv 7) jR (vl [.fz (bW ns),.fz (.int i),.bx,.fz (bh n l),.fz (.list (wO n l)),.fz (.int q),.fz a,.fz (.int p),s8]) β=.ok (.int (IE p:Nat)) β:=by
    refine bp (x:=.list [.int 11,.int 10,.int 8]) (y:=.int p) (lp (ac rfl (ac rfl (ac rfl an)))) rfl ?_
    match p,hp3 with
    | 0,_=>rfl
    | 1,_=>rfl
    | 2,_=>rfl
   refine xI (uK (ds:=cw 0 (IE p)) (β1:=β) (λ_ env _=>∃s8,env= [.fz (bW ns),.fz (.int i),.bx,.fz (bh n l),.fz (.list (wO n l)),.fz (.int q),.fz a,.fz (.int p),s8]) (ko (n:=IE p) hix (by unfold IE;by_cases c:p=0 <;> by_cases c2:p=1 <;> simp[c,c2])) ⟨_,rfl⟩ ?_ ?_)
   ·rintro k d env β hk ⟨s8,rfl⟩
    obtain⟨hk9,rfl⟩:=iG hk
    rw[Ml]
    refine⟨[.fz (bW ns),.fz (.int i),.bx,.fz (bh n l),.fz (.list (wO n l)),.fz (.int q),.fz a,.fz (.int p),.fz (.int k)],rfl,?_⟩
    exact JF (sR _ _ _ _ (bp (x:=.str "order") (y:=.str "order") (cj (ds:=[.int p,.int k,a]) (ac rfl (ac rfl (ac rfl an))) (Fw hno hp3 hk9)) rfl (by kernel_rfl))) (yA ⟨_,_,rfl,_,rfl⟩)
   ·rintro env β ⟨s8,rfl⟩
    exact yA ⟨_,_,rfl,_,_,rfl⟩
  ·rintro env β ⟨s7,s8,rfl⟩
   exact yA ⟨_,_,rfl,_,_,_,_,rfl⟩
 ·rintro env β ⟨s5,s6,s7,s8,rfl⟩
  exact yA ⟨_,_,rfl,_,_,_,_,_,_,_,_,rfl⟩
end RM
namespace RO
open PySem L2
abbrev Fn (K:Frag)(mg:Str->Option Value)(x:Str)(st:Stmt)(ps:List Str)(f:Addr)(fd:FuncData):Prop:=dO K mg x st ps f fd
abbrev Bt (mg:Str->Option Value):Prop:=dQ mg
end RO
section
namespace L2
open PySem PySem.Spec PyProof.Rows
section
variable {K:Frag}{H H':Hp}{a:Addr}
theorem aY.snoc {x y:Int}(q:gj K H a [.int x,.int y]):∀{vs:List V} {ps:List (Int×Int)},aY K H vs ps->aY K H (vs ++ [.ref a]) (ps ++ [(x,y)])
 |_,_,.nil=>.cons ⟨a,rfl,q⟩ .nil
 |_,_,.cons r t=>.cons r (aY.snoc q t)
def aY.len {vs:List V}{ps:List (Int×Int)}(h:aY K H vs ps):vs.length=ps.length:=Paired.length h
def aY.same {vs:List V}{ps:List (Int×Int)}(h:aY K H vs ps)(s:ax H H'):aY K H' vs ps:=h.grow s.grow
def aY.at {vs:List V}{ps:List (Int×Int)}{i:Nat}{v:V}(h:aY K H vs ps)(e:vs[i]? =some v):∃p:Int×Int,ps[i]? =some p/\∃b,v=.ref b/\gj K H b [.int p.1,.int p.2]:=Paired.getP h e
def ax.put {o:HO}(s:ax H H')(h:H a=none)(hf:∀x y,H' a≠some (.bt x y)):ax H (L2.upd H' a o):=λb u e=>jY (s b u e) (aM e h) hf
def Fd (h:H a=none):∀x y,H a≠some (.bt x y):=λx y z=>by rw[h] at z;cases z
def Hq {xs:List V}(h:H a=some (.lst xs)):∀x y,H a≠some (.bt x y):=λx y z=>by rw[h] at z;cases z
end
end L2
namespace RO
open PySem L2
def B3 (N:List Str)(sc:Scope)(NB:List Str)(own:Nat)(ixs:List Nat)(scope:Scope):Bool:=
 decide (scope.kind=.function) && (scope.names.all λy=>decide (scope.names.lookup y.1=some y.2)) &&
 (scope.names.all λy=>decide (y.2=.free->(sc.names.lookup y.1=some .cell\/sc.names.lookup y.1=some .free))) && decide NB.Nodup && decide (NB.length=own + ixs.length) &&
 ((List.range ixs.length).all λk=>decide (NB[own + k]? =N[ixs.getD k 0]?) && (match NB[own + k]? with |some x=>decide ((x,NameKind.free)∈scope.names) |none=>true))
def ng {X:Cx}{NB:List Str}{own:Nat}{ixs:List Nat}{scope:Scope}(h:B3 X.N X.env.scope NB own ixs scope=true):cL X NB own ixs scope:=by
 unfold B3 at h
 simp only[LB,Mw,Mq,Ll] at h
 obtain⟨⟨⟨⟨⟨h1,h3⟩,h4⟩,h5⟩,h6⟩,h7⟩:=h
 refine⟨h1,h3,h4,h5,h6,λk hk=>⟨(h7 k hk).1,λx hx=>?_⟩⟩
 have:=(h7 k hk).2
 rw[hx] at this
 simpa using this
section
variable {X:Cx}{tg l:Expr}{tl:TE}{K:Frag}{H H1:Hp}{a:Addr}{xs:List V}{σ:St}
def JQ (K:Frag)(tl:TE):TI:=λσ H R=>tl σ H λx H1=>∃a xs,x=.ref a/\((gR K H1 a xs/\R (zR K a) H1)\/(gj K H1 a xs/\R (Fj K a) H1))
end
def Kv (K:Frag){X:Cx}(h:X.K=K:=by rfl):By X (G9 K):=by subst h;exact e8
def GU (K:Frag)(i j:Nat){X:Cx}{x y:Str}{px py pos:Pos}{k:Nat}(hN:X.N.Nodup)(hi:X.N[i]? =some x)(hj:X.N[j]? =some y)(hx:X.env.scope.names.lookup x=some .local)(hy:X.env.scope.names.lookup y=some .local)(hc:X.calm=true)(hK:X.K=K) :
  PG X (.Tuple [.Name x px,.Name y py] k pos) (EG K 2 (qr (lu i) (qr (lu j) DQ))):=by
 subst hK
 exact ql hc (cV (cx hN hi (Or.inl hx) (Or.inr hx)) (cV (cx hN hj (Or.inl hy) (Or.inr hy)) mh))
section
open PySem.Spec PyProof.Rows
variable {X:Cx}{tg l:Expr}{tl:TE}
def Gq (hl:PE X l tl):PI X tg l (JQ X.K tl):=by
 intro pins s σ H R I h
 refine cq (hl pins s σ H _ I h) λv s1 ⟨x,H1,I1,r1,q1⟩=>?_
 obtain⟨a,xs,e,q⟩:=q1
 subst e
 cases r1
 rcases q with⟨hq,q⟩ | ⟨hq,q⟩
 ·obtain⟨its,rv,p,hz⟩:=I1.list hq
  refine MN p.isList ?_
  refine⟨s1.heap.objs.size,[s1.heap.objs.size],_,_,H1,rfl,I1.kept (t':=s1.toks) λb o e=>KQ _ e,nQ a _,⟨_,Lf _ rfl,rfl,rfl⟩,λb hb=>?_,q⟩
  have e:b=s1.heap.objs.size:=by simpa using hb
  subst e
  exact I1.fpOk (KR _) (I1.hok.fresh (KR _))
 ·obtain⟨its,rv,p,hz⟩:=I1.tuple hq
  refine wpAny_pyIter_tuple (show s1.heap.IsTuple a its.toArray from p) ?_
  refine⟨s1.heap.objs.size,[s1.heap.objs.size],_,_,H1,rfl,I1.kept (t':=s1.toks) λb o e=>KQ _ e,qF a _,⟨_,Lf _ rfl,rfl,rfl⟩,λb hb=>?_,q⟩
  have e:b=s1.heap.objs.size:=by simpa using hb
  subst e
  exact I1.fpOk (KR _) (I1.hok.fresh (KR _))
end
section
variable {K:Frag}{H H1 H':Hp}{a:Addr}{xs:List V}{σ:St}
abbrev I0 (J:It)(g:TG)(tb:TS)(D:Ends)(σ:St)(H:Hp):Prop:=∃W:Nat->Nat->St->Hp->Prop,(∃m,W 0 m σ H)/\∀i m σ H,W i m σ H->
   (J.stop i H/\D.nx σ H)\/(J.go i H/\∃N:St->Hp->Prop,(∀σ' H',N σ' H'->∃m',m' < m/\W (i + 1) m' σ' H')/\∀x H',J.yld i H x H'->g x σ H' λσ2 H2=>tb {D with nx:=N,ct:=N,bk:=D.nx} σ2 H2)
def De (s:ax H1 H')(hq:gR K H1 a xs\/gj K H1 a xs):gR K H' a xs\/gj K H' a xs:=hq.elim (λq=>.inl (s.seq q)) λq=>.inr (q.grow s.grow)
def DD {g:TG}{tb:TS}{D:Ends}(hq:gR K H1 a xs\/gj K H1 a xs)(Pv:Nat->St->Hp->Prop)(h0:Pv 0 σ H)(hl:∀i σ H',Pv i σ H'->ax H1 H')
  (hs:∀i x σ H,xs[i]? =some x->Pv i σ H->g x σ H λσ2 H2=>tb {D with nx:=Pv (i + 1),ct:=Pv (i + 1),bk:=D.nx} σ2 H2) (hd:∀σ H,Pv xs.length σ H->D.nx σ H) :
  (gR K H a xs/\I0 (zR K a) g tb D σ H)\/(gj K H a xs/\I0 (Fj K a) g tb D σ H):=
 hq.elim (λq=>.inl ⟨(hl _ _ _ h0).seq q,vB Pv h0 (λi σ H' _ p=>(hl i σ H' p).seq q) hs hd⟩) λq=>.inr ⟨q.grow (hl _ _ _ h0).grow,EB Pv h0 (λi σ H' _ p=>q.grow (hl i σ H' p).grow) hs hd⟩
def zb (J:It)(own:Nat)(ixs:List Nat)(g:TG)(tt:TT)(te:TE)(Q:VK)(D:Addr)(σ:St)(H:Hp):Prop:=∃W:Nat->Nat->St->Hp->Prop,(∃m,W 0 m (td own ixs σ) (upd H D (.lst [])))/\∀i m σ' H',W i m σ' H'->
   (J.stop i H'/\(∃acc,H' D=some (.lst acc))/\Q (.ref D) H')\/
   (J.go i H'/\∃N:St->Hp->Prop,(∀σ2 H2,N σ2 H2->∃m',m' < m/\W (i + 1) m' σ2 H2)/\∀x H2,J.yld i H' x H2->dG g tt te D x σ' H2 N)
structure wy (own:Nat)(ixs:List Nat)(wi:TI)(g:TG)(tt:TT)(te:TE)(σ:St)(H:Hp)(Q:VK):Prop where
 out:wi σ H λJ H1=>∀D,H1 D=none->zb J own ixs g tt te Q D σ H1
def xw {own:Nat}{ixs:List Nat}{wi:TI}{g:TG}{tt:TT}{te:TE}{Q:VK}(h:wi σ H λJ H1=>∀D,H1 D=none->zb J own ixs g tt te Q D σ H1):wy own ixs wi g tt te σ H Q:=⟨h⟩
def uy {X:Cx}{NB:List Str}{own:Nat}{ixs:List Nat}{scope:Scope}{tg iter elt:Expr}{ifs:List Expr}{wi:TI}{g:TG}{tt:TT}{te:TE}{pos:Pos}(hc:X.calm=true)(S:cL X NB own ixs scope)(hi:PI X tg iter wi)
  (hg:∀C ex s3 H3 pn,PG (iA X NB scope C ex s3 H3 pn) tg g) (ht:∀C ex s3 H3 pn,BR (iA X NB scope C ex s3 H3 pn) ifs tt) (he:∀C ex s3 H3 pn,PE (iA X NB scope C ex s3 H3 pn) elt te)
  (hs:∀x,foldedSetIterable iter X.env x=pure x:=by intro _;rfl):PE X (.ListComp elt [⟨tg,iter,ifs,0⟩] scope pos) (wy own ixs wi g tt te):=
 λpins s σ H Q I h=>we hc S hi hg ht he hs pins s σ H Q I h.out
section
variable {own:Nat}{ixs:List Nat}{g:TG}{tt:TT}{te:TE}{Q:VK}{D:Addr}
def DW (Pv:Nat->St->Hp->Prop)(h0:Pv 0 (td own ixs σ) (upd H D (.lst [])))(hl:∀i σ H,i<=xs.length->Pv i σ H->gR K H a xs)
  (hs:∀i x σ H,xs[i]? =some x->Pv i σ H->dG g tt te D x σ H (Pv (i + 1))) (hd:∀σ H,Pv xs.length σ H->(∃acc,H D=some (.lst acc))/\Q (.ref D) H):zb (zR K a) own ixs g tt te Q D σ H:=Ab Pv h0 hl hs hd
def u5 {lo:Int}{n:Nat}(Pv:Nat->St->Hp->Prop)(h0:Pv 0 (td own ixs σ) (upd H D (.lst [])))
  (hs:∀i σ H,i < n->Pv i σ H->dG g tt te D (.int (lo + i)) σ H (Pv (i + 1))) (hd:∀σ H,Pv n σ H->(∃acc,H D=some (.lst acc))/\Q (.ref D) H):zb (z7 lo n) own ixs g tt te Q D σ H:=wV Pv h0 hs hd
end
def wK {i:Nat}{te:TE}{D:Addr}{x:V}{N:St->Hp->Prop}(h:te (σ.set i (some x)) H λv H5=>∃acc,H5 D=some (.lst acc)/\acc.length < sizeLine/\N (σ.set i (some x)) (upd H5 D (.lst (acc ++ [v])))):dG (lu i) GG te D x σ H N:=by
 unfold dG lu GG
 exact xr h
def B4 {i j:Nat}{x y:V}{Q:St->Hp->Prop}(h:gj K H a [x,y])(q:Q ((σ.set i (some x)).set j (some y)) H):EG K 2 (qr (lu i) (qr (lu j) DQ)) (.ref a) σ H Q:=⟨a,_,rfl,h,rfl,x,_,rfl,y,_,rfl,rfl,q⟩
def Jt {c A B:Prop}[Decidable c](h:c)(a:A):if c then A else B:=by rw[KU h];exact a
def JV {c A B:Prop}[Decidable c](h:¬c)(b:B):if c then A else B:=by rw[K0 h];exact b
def take_snoc {α:Type}{l:List α}{i:Nat}{x:α}(h:l[i]? =some x):l.take (i + 1)=l.take i ++ [x]:=by
 rw[Mp,h];rfl
def take_all {α:Type}(l:List α):l.take l.length=l:=MJ (KR _)
end
def j9 (n:Nat):(OM.gL n).length=n * n:=by unfold OM.gL;simp
def Ef {n i:Nat}(h:i < n * n):(OM.gL n)[i]? =some (((i / n:Nat):Int),((i % n:Nat):Int)):=by
 unfold OM.gL
 rw[K2,List.getElem?_range h];rfl
def Kq {n:Nat}(h:n<=8):n * n<=64:=MS h h
section
variable {P:Program}{w:World}{K:Frag}{mg:Str->Option Value}{base:Heap}
def y6 (K:Frag):Sp:=λvs H Q _=>∃n:Nat,vs= [.int n]/\1<=n/\n<=8/\∀H' l ws,ax H H'->H l=none->H' l=some (.lst ws)->aY K H' ws (OM.gL n)->Q (.ref l) H'
def D6:aH ["many"] ["many"] (ak jD):=⟨rfl,rfl,rfl,by decide +kernel,rfl,by decide +kernel,by decide +kernel⟩
def HN:(["number","many"]:List Str).Nodup:=by decide +kernel
def BO {f:Addr}{fd:FuncData}(F:Fn K mg "every_pair" jD ["many"] f fd)(B:Bt mg):fq P w K mg base xZ 1 f fd ["many"] (y6 K):=by
 refine F.F.ok D6 (λvs H Q E h=>?_) (λcdv A outer s H vs Q E hr h=>?_)
 ·obtain⟨n,rfl,_⟩:=h;rfl
 ·obtain⟨n,rfl,h1,h8,k⟩:=h
  refine⟨_,cZ (iB (uy (NB:=["number","many"]) (own:=1) (ixs:=[0]) rfl (ng (by kernel_rfl)) (kM rfl B.range (ay (qN j6 (pv 0) (pv 0)) aU))
   (λC ex s3 H3 pn=>cx (i:=0) HN rfl (Or.inl rfl) (hf:=Or.inr rfl)) (λC ex s3 H3 pn=>ud)
   (λC ex s3 H3 pn=>xi (ay (qN l0 (pv 0) (pv 1)) (ay (qN lF (pv 0) (pv 1)) aU))))),?_⟩
  have hn:=Kq h8
  have e0:((n:Int) * (n:Int))=((n * n:Nat):Int):=by rw[Int.natCast_mul]
  refine xw ⟨_,rfl,_,rfl,_,_,rfl,rfl,.inl ⟨by omega,by omega⟩,_,rfl,by rw[e0];omega,by rw[e0];omega,λD hD=>?_⟩
  rw[e0,LK]
  refine u5 (λi σ' H'=>(∃v,σ'= [v,some (.int n)])/\ax H H'/\∃vs,H' D=some (.lst vs)/\aY K H' vs ((OM.gL n).take i)) ⟨⟨none,rfl⟩,(ax.refl H).put hD (Fd hD),[],az,.nil⟩ ?_ ?_
  ·rintro i σ' H' hi ⟨⟨v,rfl⟩,s1,vs,hv,hp⟩
   have hn0:(0:Int) < (n:Int):=by omega
   refine wK ⟨_,rfl,_,rfl,_,_,rfl,rfl,⟨hn0,by omega⟩,_,rfl,_,rfl,_,_,rfl,rfl,hn0,by show 2<=sizeLine;rw[Lo];omega,λp hp0=>?_⟩
   have hpD:D≠p:=aM hv hp0
   have hl:=hp.len
   refine⟨vs,by rw[aI hpD];exact hv,?_,⟨_,rfl⟩,?_,vs ++ [.ref p],az,?_⟩
   ·rw[hl,LU,Lo];rw[j9];omega
   ·exact (s1.put (s1.free hp0) (Fd hp0)).put hD (Hq (xs:=vs) (by rw[aI hpD];exact hv))
   ·rw[take_snoc (Ef hi)]
    have g1:gS H' (upd H' p (.tup [.int ((0 + (i:Int)) / n),.int ((0 + (i:Int)) % n)])):=gS.new hp0
    have g2:∀o,gS (upd H' p (.tup [.int ((0 + (i:Int)) / n),.int ((0 + (i:Int)) % n)])) (upd (upd H' p (.tup [.int ((0 + (i:Int)) / n),.int ((0 + (i:Int)) % n)])) D o):=λo=>gS.list (by rw[aI hpD];exact hv)
    refine aY.snoc ?_ (hp.grow (g1.trans (g2 _)))
    refine (gj.grow ?_ (g2 _))
    refine .inl (.inl ?_)
    rw[az,Ml];rfl
  ·rintro σ' H' ⟨_,s1,vs,hv,hp⟩
   refine⟨⟨_,hv⟩,k H' D vs s1 hD hv ?_⟩
   rw[<-j9 n,take_all] at hp
   exact hp
end
end RO
end
namespace RO
open PySem L2
structure TabAt (n:Nat)(M:OM.Tb)(L:Addr)(r:Nat->Addr)(H:Hp):Prop where
 top:H L=some (.lst ((List.range n).map λi=>V.ref (r i)))
 row:∀i,i < n->H (r i)=some (.lst ((List.range n).map λj=>V.bl (M i j)))
 inj:∀i j,i < n->j < n->r i=r j->i=j
 ne:∀i,i < n->r i≠L
def yR {n x:Nat}(h:x < n):AU n (x:Int)=some x:=by
 unfold AU;rw[KU (by omega),KU (by omega)];simp
def Cp {α:Type}{xs:List α}{x:Nat}(h:x < xs.length):lx xs (x:Int)=xs[x]?:=by
 unfold lx;rw[yR h];rfl
def fo {f:Nat->V}{n x:Nat}(h:x < n):lx ((List.range n).map f) (x:Int)=some (f x):=by
 rw[Cp (by simpa using h),K2,List.getElem?_range h];rfl
def sC {f:Nat->V}{n x:Nat}(h:x < n):AU ((List.range n).map f).length (x:Int)=some x:=by
 rw[Lk,Ng];exact yR h
def An {f:Nat->V}{n y:Nat}{v:V}:((List.range n).map f).set y v=(List.range n).map λj=>if j=y then v else f j:=by
 apply Nf
 intro i
 by_cases hi:i < n
 ·by_cases e:y=i
  ·subst e;simp[List.getElem?_set,hi]
  ·have e':¬i=y:=λz=>e z.symm
   simp[List.getElem?_set,hi,e,e']
 ·rw[Mn (by simp;omega),Mn (by simp;omega)]
section
variable {n:Nat}{M:OM.Tb}{L:Addr}{r:Nat->Addr}{H H':Hp}
def TabAt.set (T:TabAt n M L r H){x y:Nat}(hx:x < n):TabAt n (M.set x y) L r (upd H (r x) (.lst (((List.range n).map λj=>V.bl (M x j)).set y (.bl true)))):=by
 refine⟨by rw[aI (T.ne x hx).symm];exact T.top,λi hi=>?_,T.inj,T.ne⟩
 by_cases e:i=x
 ·subst e
  rw[az,An]
  refine congrArg _ (congrArg _ (Mj λj _=>?_))
  unfold OM.Tb.set
  by_cases c:j=y
  ·simp[c]
  ·simp[c]
 ·rw[aI (λz=>e (T.inj i x hi hx z)),T.row i hi]
  refine congrArg _ (congrArg _ (Mj λj _=>?_))
  unfold OM.Tb.set;simp[e]
def TabAt.same (T:TabAt n M L r H)(s:ax H H'):TabAt n M L r H':=⟨s _ _ T.top,λi hi=>s _ _ (T.row i hi),T.inj,T.ne⟩
end
def uz {n:Nat}{ps:List (Int×Int)}(w:OM.Wn n ps){p:Int×Int}(h:p∈ps):∃u v:Nat,p=((u:Int),(v:Int))/\u < n/\v < n:=by
 obtain⟨x,y⟩:=p
 have q:=w _ h
 simp only at q
 exact⟨x.toNat,y.toNat,by rw[Int.toNat_of_nonneg q.1.1,Int.toNat_of_nonneg q.2.1],by omega,by omega⟩
def hW {M0 M:OM.Tb}{m:Nat}{D D':Nat->Nat->Prop}(P:OM.Phase M0 M m D)(h:∀a b,D a b↔D' a b):OM.Phase M0 M m D':=λa b=>by rw[P a b,h a b]
def kK {l:List (Int×Int)}{u v a b:Nat}:(((a:Int),(b:Int))∈l\/(a=u/\b=v))↔((a:Int),(b:Int))∈l ++ [((u:Int),(v:Int))]:=by
 rw[Lp,LW,Prod.mk.injEq]
 constructor
 ·rintro (h | ⟨h1,h2⟩)
  ·exact .inl h
  ·exact .inr ⟨by omega,by omega⟩
 ·rintro (h | ⟨h1,h2⟩)
  ·exact .inl h
  ·exact .inr ⟨by omega,by omega⟩
def Ep {M:OM.Tb}{u v a b:Nat}:M.set u v a b=true↔M a b=true\/(a=u/\b=v):=by
 unfold OM.Tb.set
 by_cases c:a=u/\b=v
 ·simp[c]
 ·rw[K0 c];exact⟨.inl,λh=>h.resolve_right c⟩
def Hs (n:Nat)(x:V):(List.replicate n [x]).flatten=(List.range n).map λ_=>x:=by
 rw[List.flatten_replicate_singleton,List.map_const',Ng]
section
variable {P:Program}{w:World}{K:Frag}{mg:Str->Option Value}{base:Heap}
def BQ (K:Frag):Sp:=λvs H Q _=>∃(n:Nat) (a:Addr) (xs:List V) (ps:List (Int×Int)),vs= [.int n,.ref a]/\1<=n/\n<=8/\(gR K H a xs\/gj K H a xs)/\aY K H xs ps/\OM.Wn n ps/\
 ∀H' t ws,ax H H'->H t=none->H' t=some (.tup ws)->aY K H' ws (OM.bP n (OM.Tr (OM.Mem ps)))->Q (.ref t) H'
def fw:aH ["many","pairs","corners","leads","a","b","middle"] ["many","pairs"] (ak ml):=⟨rfl,rfl,rfl,by decide +kernel,rfl,by decide +kernel,by decide +kernel⟩
def Hu:(["start","many"]:List Str).Nodup:=by decide +kernel
def Hf:(["a","b","leads"]:List Str).Nodup:=by decide +kernel
set_option maxHeartbeats 1000000 in
theorem AJ {f g:Addr}{fd gd:FuncData}(F:Fn K mg "closed" ml ["many","pairs"] f fd)(G:Fn K mg "every_pair" jD ["many"] g gd)(GE:fq P w K mg base xZ 1 g gd ["many"] (y6 K))(B:Bt mg):fq P w K mg base xZ 2 f fd ["many","pairs"] (BQ K):=by
 refine F.F.ok fw (λvs H Q E h=>?_) (λcdv A outer s H vs Q E hr h=>?_)
 ·obtain⟨n,a,xs,ps,rfl,_⟩:=h;rfl
 ·obtain⟨n,a,xs,ps,rfl,h1,h8,hq,hp,wn,k⟩:=h
  refine⟨_,b9 (jK (i:=2) fw.nd rfl (Or.inl rfl) (oV GE hr rfl G.mg G.F.kp G.b .nil Fh (ay (pv 0) aU)))
   (b9 (jK (i:=3) fw.nd rfl (Or.inr rfl) (uy (NB:=["start","many"]) (own:=1) (ixs:=[0]) rfl (ng (by kernel_rfl)) (kM rfl B.range (ay (pv 0) aU))
    (λC ex s3 H3 pn=>cx (i:=0) Hu rfl (Or.inl rfl) (hf:=Or.inr rfl)) (λC ex s3 H3 pn=>ud) (λC ex s3 H3 pn=>qN Gx (mX (ay rQ aU)) (pv 1))))
   (b9 (uR PassesOwn.never rfl (Gq (pv 1)) (ql rfl (cV (cx (i:=4) fw.nd rfl (Or.inl rfl)) (cV (cx (i:=5) fw.nd rfl (Or.inl rfl)) mh)))
    (cZ (tq rQ (xf (kz e8 (pv 3) (pv 4) (λ_ _=>rfl)) (pv 5) set_list))))
   (b9 (uR PassesOwn.never rfl (kM rfl B.range (ay (pv 0) aU)) (cx (i:=6) fw.nd rfl (Or.inl rfl))
    (cZ (uR PassesOwn.never rfl (yI (pv 2)) (ql rfl (cV (cx (i:=4) fw.nd rfl (Or.inl rfl)) (cV (cx (i:=5) fw.nd rfl (Or.inl rfl)) mh)))
     (cZ (za (PW.pt (FC (p0 (kz e8 (kz e8 (pv 3) (pv 4) (λ_ _=>rfl)) (pv 6) (λ_ _=>rfl))) (EU (p0 (kz e8 (kz e8 (pv 3) (pv 6) (λ_ _=>rfl)) (pv 5) (λ_ _=>rfl))))))
      (cZ (tq rQ (xf (kz e8 (pv 3) (pv 4) (λ_ _=>rfl)) (pv 5) set_list))) oK)))))
   (cZ (iB (iV lr rfl B.tuple (by decide +kernel) (ay (uy (NB:=["a","b","leads"]) (own:=2) (ixs:=[3]) rfl (ng (by kernel_rfl)) (yI (pv 2))
    (λC ex s3 H3 pn=>GU K 0 1 Hf rfl rfl rfl rfl rfl rfl)
    (λC ex s3 H3 pn=>y7 (p0 (kz (Kv K) (kz (Kv K) (pv 2) (pv 0) (λ_ _=>rfl)) (pv 1) (λ_ _=>rfl)))) (λC ex s3 H3 pn=>xi (ay (pv 0) (ay (pv 1) aU)))) aU))))))),?_⟩
  have hn:=Kq h8
  have hn0:(0:Int)<=(n:Int):=by omega
  refine⟨_,rfl,n,rfl,h1,h8,λH1 c ws s1 hc0 hc hw=>?_⟩
  have hwl:ws.length=n * n:=by rw[hw.len,j9]
  have gw:OM.Wn n (OM.gL n):=λp hp=>OM.gK.mp hp
  refine xw ?_
  refine⟨_,rfl,n,rfl,by omega,by omega,λD hD=>?_⟩
  rw[LK]
  refine u5 (λi σ' H'=>(∃v,σ'= [v,some (.int n)])/\ax H1 H'/\∃r:Nat->Addr,H' D=some (.lst ((List.range i).map λk=>V.ref (r k)))/\
   (∀k,k < i->H' (r k)=some (.lst ((List.range n).map λ_=>V.bl false))/\H1 (r k)=none/\r k≠D)/\∀j k,j < i->k < i->r j=r k->j=k)
   ?_ ?_ ?_
  ·exact⟨⟨none,rfl⟩,(ax.refl H1).put hD (Fd hD),λ_=>0,az,λk hk=>absurd hk (Nat.not_lt_zero _),λj k hj=>absurd hj (Nat.not_lt_zero _)⟩
  ·rintro i σ' H' hi ⟨⟨v,rfl⟩,s2,r,hr0,hr1,hr2⟩
   refine wK ⟨by show 1<=sizeLine;rw[Lo];omega,λp hp0=>⟨_,rfl,p,n,[.bl false],rfl,rfl,az,by omega,by omega,by show 1 * (n:Int).toNat<=sizeLine;rw[Lo];omega,λq hq0=>?_⟩⟩
   have hqp:q≠p:=by intro e;subst e;rw[az] at hq0;cases hq0
   have hq1:H' q=none:=by rw[aI hqp] at hq0;exact hq0
   have hDp:D≠p:=aM hr0 hp0
   have hDq:D≠q:=aM hr0 hq1
   rw[LK,Hs]
   refine⟨_,by rw[aI hDq,aI hDp];exact hr0,by rw[Lk,Ng,Lo];omega,⟨_,rfl⟩,((s2.put (s2.free hp0) (Fd hp0)).put (s2.free hq1) (Fd hq0)).put hD (Hq (by rw[aI hDq,aI hDp];exact hr0)),λk=>if k=i then q else r k,?_,λk hk=>?_,λj k hj hk e=>?_⟩
   ·have e:(List.range i).map (λk=>V.ref (r k))=(List.range i).map (λk=>V.ref (if k=i then q else r k)):=Mj λk hk=>by
     have:=Ll.mp hk
     rw[K0 (by omega)]
    rw[az,List.range_succ,MH,e]
    simp
   ·dsimp only
    by_cases e:k=i
    ·rw[KU e]
     exact⟨by rw[aI hDq.symm,az],s2.free hq1,hDq.symm⟩
    ·rw[K0 e]
     obtain⟨a1,a2,a3⟩:=hr1 k (by omega)
     exact⟨by rw[aI a3,aI (aM a1 hq1),aI (aM a1 hp0)];exact a1,a2,a3⟩
   ·dsimp only at e
    by_cases ej:j=i
    ·by_cases ek:k=i
     ·omega
     ·rw[KU ej,K0 ek] at e
      exact absurd e.symm (aM (hr1 k (by omega)).1 hq1)
    ·by_cases ek:k=i
     ·rw[K0 ej,KU ek] at e
      exact absurd e (aM (hr1 j (by omega)).1 hq1)
     ·rw[K0 ej,K0 ek] at e
      exact hr2 j k (by omega) (by omega) e
  rintro σ2 H2 ⟨_,s2,r,hr0,hr1,hr2⟩
  refine⟨⟨_,hr0⟩,?_⟩
  have sep:∀i,i < n->H1 (r i)=none:=λi hi=>(hr1 i hi).2.1
  have T0:TabAt n (λ_ _=>false) D r H2:=⟨hr0,λi hi=>(hr1 i hi).1,hr2,λi hi=>(hr1 i hi).2.2⟩
  refine⟨_,rfl,a,xs,rfl,DD (H1:=H1) (De s1 hq) (λi σ' H'=>(∃x y,σ'= [some (.int n),some (.ref a),some (.ref c),some (.ref D),x,y,none])/\ax H1 H'/\∃M,TabAt n M D r H'/\∀u v:Nat,M u v=true↔((u:Int),(v:Int))∈ps.take i)
   ⟨⟨none,none,rfl⟩,s2,_,T0,λu v=>by simp⟩ (λi σ' H' q=>q.2.1) ?_ ?_⟩
  ·rintro i x σ' H' hx ⟨⟨_,_,rfl⟩,s3,M,T,hM⟩
   obtain⟨p,hpi,b,rfl,hb⟩:=(hp.same (s1.trans s3)).at hx
   obtain⟨u,v,rfl,hu,hv⟩:=uz wn (K8 hpi)
   refine B4 hb ?_
   refine⟨_,rfl,_,rfl,D,_,u,_,rfl,rfl,.inl (.inl T.top),fo hu,_,rfl,r u,_,v,v,rfl,rfl,T.row u hu,sC hv,⟨_,_,rfl⟩,s3.put (sep u hu) (Hq (T.row u hu)),_,T.set hu,λx y=>?_⟩
   rw[take_snoc hpi,<-kK,Ep,hM]
  rintro σ3 H3 ⟨⟨x3,y3,rfl⟩,s3,M3,T3,hM3⟩
  rw[hp.len,take_all] at hM3
  refine⟨_,rfl,n,rfl,by omega,by omega,?_⟩
  rw[LK]
  refine Al (λm σ' H'=>(∃x y z,σ'= [some (.int n),some (.ref a),some (.ref c),some (.ref D),x,y,z])/\ax H1 H'/\∃M,TabAt n M D r H'/\OM.Tab n ps M/\OM.Eu M m)
   ⟨⟨_,_,_,rfl⟩,s3,M3,T3,⟨λa b h=>by have:=wn _ ((hM3 a b).mp h);simp only at this;omega,λa b h=>(hM3 a b).mpr h,λa b h=>.one ((hM3 a b).mp h)⟩,λk a b hk=>absurd hk (Nat.not_lt_zero _)⟩ ?_ ?_
  ·rintro m σ' H' hm ⟨⟨_,_,_,rfl⟩,s4,M,T,TT,Th⟩
   rw[Ml]
   refine⟨_,rfl,c,rfl,⟨ws,.inl (.inl (s4 _ _ hc))⟩,vB (xs:=ws) (λi σ' H'=>(∃x y,σ'= [some (.int n),some (.ref a),some (.ref c),some (.ref D),x,y,some (.int m)])/\ax H1 H'/\∃M',TabAt n M' D r H'/\OM.Phase M M' m λu v=>((u:Int),(v:Int))∈(OM.gL n).take i)
    ⟨⟨_,_,rfl⟩,s4,M,T,hW (OM.Phase.start M m) λa b=>by simp⟩ (λi σ' H' _ q=>.inl (.inl (q.2.1 _ _ hc))) ?_ ?_⟩
   ·rintro i x σ' H' hx ⟨⟨_,_,rfl⟩,s5,M',T',Ph⟩
    obtain⟨p,hpi,b,rfl,hb⟩:=(hw.same s5).at hx
    obtain⟨u,v,rfl,hu,hv⟩:=uz gw (K8 hpi)
    refine B4 hb ?_
    have st:=Ph.step u v
    refine⟨_,rfl,_,rfl,D,_,u,_,rfl,rfl,.inl (.inl T'.top),fo hu,_,rfl,r u,_,m,_,rfl,rfl,.inl (.inl (T'.row u hu)),fo hm,_,rfl,?_⟩
    by_cases c1:M' u m=true
    ·refine Jt c1 ?_
     refine⟨_,rfl,_,rfl,D,_,m,_,rfl,rfl,.inl (.inl T'.top),fo hm,_,rfl,r m,_,v,_,rfl,rfl,.inl (.inl (T'.row m hm)),fo hv,_,rfl,?_⟩
     by_cases c2:M' m v=true
     ·refine Jt c2 ?_
      rw[KU ⟨c1,c2⟩] at st
      refine⟨_,rfl,_,rfl,D,_,u,_,rfl,rfl,.inl (.inl T'.top),fo hu,_,rfl,r u,_,v,v,rfl,rfl,T'.row u hu,sC hv,⟨_,_,rfl⟩,s5.put (sep u hu) (Hq (T'.row u hu)),_,T'.set hu,hW st λa b=>?_⟩
      rw[take_snoc hpi];exact kK
     ·refine JV c2 ?_
      rw[K0 λz=>c2 z.2] at st
      refine⟨⟨_,_,rfl⟩,s5,_,T',hW st λa b=>?_⟩
      rw[take_snoc hpi];exact kK
    ·refine JV c1 ?_
     rw[K0 λz=>c1 z.1] at st
     refine rl ⟨⟨_,_,rfl⟩,s5,_,T',hW st λa b=>?_⟩
     rw[take_snoc hpi];exact kK
   ·rintro σ' H' ⟨⟨_,_,rfl⟩,s5,M',T',Ph⟩
    rw[hw.len,take_all] at Ph
    have dn:=Ph.done (n:=n) (λa b ha hb=>OM.gK.mpr ⟨⟨by simp,by simp;omega⟩,by simp,by simp;omega⟩) TT.inn Th
    exact⟨⟨_,_,_,rfl⟩,s5,M',T',TT.phase Ph,dn.1⟩
  rintro σ4 H4 ⟨⟨x4,y4,z4,rfl⟩,s4,M,T,TT,Th⟩
  refine xw ⟨_,rfl,c,rfl,⟨ws,.inl (.inl (s4 _ _ hc))⟩,λD' hD'=>DW (xs:=ws) (λi σ' H'=>(∃x y,σ'= [x,y,some (.ref D)])/\ax H4 H'/\∃vs,H' D'=some (.lst vs)/\aY K H' vs (((OM.gL n).take i).filter λp=>M p.1.toNat p.2.toNat))
   ⟨⟨_,_,rfl⟩,(ax.refl H4).put hD' (Fd hD'),[],az,.nil⟩ (λi σ' H' _ q=>.inl (.inl (q.2.1 _ _ (s4 _ _ hc)))) ?_ ?_⟩
  ·rintro i x σ' H' hx ⟨⟨_,_,rfl⟩,s5,vs,hv,hpv⟩
   obtain⟨p,hpi,b,rfl,hb⟩:=(hw.same (s4.trans s5)).at hx
   obtain⟨u,v,rfl,hu,hv'⟩:=uz gw (K8 hpi)
   refine B4 hb ?_
   have T':=T.same s5
   refine⟨_,rfl,_,rfl,D,_,u,_,rfl,rfl,.inl (.inl T'.top),fo hu,_,rfl,r u,_,v,_,rfl,rfl,.inl (.inl (T'.row u hu)),fo hv',_,rfl,?_⟩
   by_cases c1:M u v=true
   ·refine Jt c1 ?_
    refine⟨_,rfl,_,rfl,by show 2<=sizeLine;rw[Lo];omega,λp hp0=>?_⟩
    have hpD:D'≠p:=aM hv hp0
    refine⟨vs,by rw[aI hpD];exact hv,?_,⟨_,_,rfl⟩,(s5.put (s5.free hp0) (Fd hp0)).put hD' (Hq (by rw[aI hpD];exact hv)),_,az,?_⟩
    ·rw[hpv.len]
     refine Nat.lt_of_le_of_lt (List.length_filter_le ..) ?_
     rw[LU,j9,Lo];omega
    ·rw[take_snoc hpi,List.filter_append,List.filter_cons_of_pos (by simpa using c1),List.filter_nil]
     have g1:gS H' (upd H' p (.tup [.int u,.int v])):=gS.new hp0
     have g2:∀o,gS (upd H' p (.tup [.int u,.int v])) (upd (upd H' p (.tup [.int u,.int v])) D' o):=λo=>gS.list (by rw[aI hpD];exact hv)
     refine aY.snoc ?_ (hpv.grow (g1.trans (g2 _)))
     exact gj.grow (.inl (.inl az)) (g2 _)
   ·refine JV c1 ?_
    refine⟨⟨_,_,rfl⟩,s5,vs,hv,?_⟩
    rw[take_snoc hpi,List.filter_append,List.filter_cons_of_neg (by simpa using c1),List.filter_nil,MF]
    exact hpv
  ·rintro σ' H' ⟨_,s5,vs,hv,hpv⟩
   rw[hw.len,take_all] at hpv
   refine⟨⟨_,hv⟩,D',vs,rfl,.inl ⟨.inl (.inl hv),λt ht=>?_⟩⟩
   have sA:ax H H':=(s1.trans s4).trans s5
   refine k _ t vs (sA.put (sA.free ht) (Fd ht)) (sA.free ht) az ?_
   have e:((OM.gL n).filter λp=>M p.1.toNat p.2.toNat)=OM.bP n (OM.Tr (OM.Mem ps)):=by
    unfold OM.bP
    refine List.filter_congr λp hp=>?_
    obtain⟨u,v,rfl,hu,hv⟩:=uz gw hp
    have:=TT.all wn Th u v
    simp only[LK]
    rw[LZ,this]
    simp
   rw[e] at hpv
   exact hpv.grow (gS.new ht)
end
end RO
namespace RO
open PySem L2 RM
section
variable {P:Program}{w:World}{K:Frag}{mg:Str->Option Value}{base:Heap}{ca:Str->Addr}
def KG {k:Nat}{f:Addr}{fd:FuncData}{ps:List Str}{sp:Sp}(F:fq P w K mg base xZ k f fd ps sp):fq P w K mg base (mq P w) k f fd ps sp:=
 ⟨F.len,λA outer s H args us vs Q E hr he hb hv hs=>MQ (F.run A outer s H args us vs Q E hr he hb hv hs) λr s' h=>by
  cases r with
  |ok x=>cases x <;> exact h
  |error e=>exact h.elim⟩
def xN {G H:Hp}(s:ax G H){ws:List V}{ps:List Pr}(h:aY K H ws ps):aY K (nH G H) ws ps:=Paired.mapP h λv p ⟨a,e,q⟩=>⟨a,e,qG s q⟩
def qA {ds:List D}(h:cH ds≠.bad):∃(n:Nat) (d:D) (ps:List Pr),ds= [.int n,d]/\oH d=some (ps.map a9)/\1<=n/\n<=8/\OM.Wn n ps/\cH ds=.ok (.tuple ((OM.bP n (OM.Tr (OM.Mem ps))).map a9)) false:=by
 unfold cH at h
 split at h
 ·rename_i n d
  cases q:oH d with
  |none=>rw[q] at h;exact absurd rfl h
  |some es=>
   rw[q] at h
   dsimp only at h
   cases q2:fA es with
   |none=>rw[q2] at h;exact absurd rfl h
   |some ps=>
    rw[q2] at h
    dsimp only at h
    by_cases c:1<=n/\n<=8/\OM.Wn n.toNat ps
    ·have e:((n.toNat:Nat):Int)=n:=by omega
     refine⟨n.toNat,d,ps,by rw[e],by rw[q,kA q2],by omega,by omega,c.2.2,?_⟩
     unfold cH
     dsimp only
     rw[q]
     dsimp only
     rw[q2]
     dsimp only
     rw[KU c]
    ·rw[K0 c] at h;exact absurd rfl h
 ·exact absurd rfl h
def wW {f g:Addr}{fd gd:FuncData}(F:dO K mg "closed" ml ["many","pairs"] f fd)(E:dO K mg "every_pair" jD ["many"] g gd)(B:dQ mg):bo P w K mg base ca "closed" ["many","pairs"] 3 cH:=by
 refine⟨⟨f,fd,F.mg,F.F.kp,F.b,((KG (AJ F E (BO E B) B)).mono (by decide)).imp ?_⟩,λds h=>?_⟩
 ·rintro vs H Q X ⟨G,ds,s,hl,r,h⟩
  have hb:cH ds≠.bad:=λz=>by rw[z] at h;exact h
  obtain⟨n,d,ps,rfl,hd,h1,h8,wn,e⟩:=qA hb
  rw[e] at h
  cases r with
  |cons r1 r=>
   cases r with
   |cons r2 r=>
    cases r
    cases r1
    obtain⟨a,xs,rfl,hq,hr⟩:=(lA.seq (B:=none) (G:=G) (H:=G) (.inl r2) hd (ax.refl _))
    refine⟨n,a,xs,ps,rfl,h1,h8,hq.elim (λq=>.inl (s.seq q)) (λq=>.inr (q.grow s.grow)),(hr.pairs).grow s.grow,wn,λH' t ws hh ht ht' hp=>?_⟩
    have s2:=s.trans hh
    refine h (.ref t) (nH G H') H' hh sr (vb s2) (λb m hb=>by rw[y2 hh m];exact hb) ?_
    exact .tup (qG s2 (.inl (.inl ht'))) (aY.rps (xN s2 hp))
 ·obtain⟨n,d,ps,rfl,_⟩:=qA h
  rfl
end
end RO
namespace RO
open PySem L2
def strsOf:List Expr->Option (List Str)
 | []=>some []
 | .Constant (.str i) _ _ :: es=>(strsOf es).map λr=>i :: r
 |_=>none
theorem zd {X:Cx}:∀{es:List Expr} {ns:List Str},strsOf es=some ns->PA X es λ_ H Q=>Q (ns.map V.str) H
 | [],ns,h=>by
  have e:ns= []:=by unfold strsOf at h;exact (Option.some.inj h).symm
  subst e
  exact aU
 |e :: es,ns,h=>by
  unfold strsOf at h
  split at h
  ·cases ‹_ :: _= []›
  ·next i a b es' heq=>
   cases heq
   cases q:strsOf es with
   |none=>rw[q] at h;cases h
   |some r=>
    rw[q] at h
    have e2:i :: r=ns:=Option.some.inj h
    subst e2
    exact ay p4 (zd q) rfl
  ·cases h
open RM (jy)
structure Er (mg:Str->Option Value)(R c0 c1 c2 c3 c4 c5 c6 c7 c8 c9 c10 c11:Addr):Prop where
 mR:mg "RankError"=some (.ref R)
 m0:mg "NoOrder"=some (.ref c0)
 m1:mg "NoMany"=some (.ref c1)
 m2:mg "NoPairs"=some (.ref c2)
 m3:mg "Ring"=some (.ref c3)
 m4:mg "NoThing"=some (.ref c4)
 m5:mg "NoRow"=some (.ref c5)
 m6:mg "NoRows"=some (.ref c6)
 m7:mg "NoNumber"=some (.ref c7)
 m8:mg "NoChain"=some (.ref c8)
 m9:mg "NoTurns"=some (.ref c9)
 m10:mg "NoPoints"=some (.ref c10)
 m11:mg "NoText"=some (.ref c11)
structure Dz (K:Frag)(D R c0 c1 c2 c3 c4 c5 c6 c7 c8 c9 c10 c11:Addr)(j:Nat):Prop where
 ex:v8 K D
 R:PySem.W.kitOne K (.ref D) (.ref R)=some true
 V:PySem.W.kitOne K (.ref D) (.type "ValueError")=some true
 k0:PySem.W.kitOne K (.ref D) (.ref c0)=some (decide (0=j))
 k1:PySem.W.kitOne K (.ref D) (.ref c1)=some (decide (1=j))
 k2:PySem.W.kitOne K (.ref D) (.ref c2)=some (decide (2=j))
 k3:PySem.W.kitOne K (.ref D) (.ref c3)=some (decide (3=j))
 k4:PySem.W.kitOne K (.ref D) (.ref c4)=some (decide (4=j))
 k5:PySem.W.kitOne K (.ref D) (.ref c5)=some (decide (5=j))
 k6:PySem.W.kitOne K (.ref D) (.ref c6)=some (decide (6=j))
 k7:PySem.W.kitOne K (.ref D) (.ref c7)=some (decide (7=j))
 k8:PySem.W.kitOne K (.ref D) (.ref c8)=some (decide (8=j))
 k9:PySem.W.kitOne K (.ref D) (.ref c9)=some (decide (9=j))
 k10:PySem.W.kitOne K (.ref D) (.ref c10)=some (decide (10=j))
 k11:PySem.W.kitOne K (.ref D) (.ref c11)=some (decide (11=j))
 j12:j < 12
section
variable {P:Program}{w:World}{K:Frag}{mg:Str->Option Value}{base:Heap}
def zg (K:Frag)(R c0 c1 c2 c3 c4 c5 c6 c7 c8 c9 c10 c11:Addr):Sp:=λvs H Q _=>∃(ea D:Addr) (j:Nat),vs= [.ref ea]/\H ea=some (.ext (iN ea (.ref D)))/\Dz K D R c0 c1 c2 c3 c4 c5 c6 c7 c8 c9 c10 c11 j/\∀H',ax H H'->Q (.str (jy.getD j "")) H'
def l4:aH ["e","found","words"] ["e"] (ak jU):=⟨rfl,rfl,rfl,by decide +kernel,rfl,by decide +kernel,by decide +kernel⟩
def vP:∃(es:List Expr) (p1 p2 p3:Pos),bN jU=(bN jU).take 5 ++ .Assign [.Name "words" p1] (.List es p2) p3 :: (bN jU).drop 6/\strsOf es=some jy:=⟨_,_,_,_,rfl,by kernel_rfl⟩
def Cm (j:Nat):List Bool:=[decide (0=j),decide (1=j),decide (2=j),decide (3=j),decide (4=j),decide (5=j),decide (6=j),decide (7=j),decide (8=j),decide (9=j),decide (10=j),decide (11=j)]
def BW:∀j,j < 12->(Cm j).count true=1:=by decide +kernel
def FI:∀j,j < 12->(Cm j).idxOf true=j:=by decide +kernel
def FW:∀j,j < 12->true∈Cm j:=by decide +kernel
def CV (j:Nat)(h:j < 12):lx (jy.map V.str) (j:Int)=some (.str (jy.getD j "")):=by
 have:j=0\/j=1\/j=2\/j=3\/j=4\/j=5\/j=6\/j=7\/j=8\/j=9\/j=10\/j=11:=by omega
 rcases this with rfl |rfl |rfl |rfl |rfl |rfl |rfl |rfl |rfl |rfl |rfl |rfl <;> rfl
def fD {n:Nat}(h:n<=100):n<=sizeLine:=by rw[Lo];omega
set_option maxHeartbeats 2000000 in
theorem Bc {f R c0 c1 c2 c3 c4 c5 c6 c7 c8 c9 c10 c11:Addr}{fd:FuncData}(F:Fn K mg "_law_marks" jU ["e"] f fd)(e:Er mg R c0 c1 c2 c3 c4 c5 c6 c7 c8 c9 c10 c11)(B:Bt mg)(hv:mg "ValueError"=none):rR P w K mg base xZ 1 f fd ["e"] (zg K R c0 c1 c2 c3 c4 c5 c6 c7 c8 c9 c10 c11):=by
 refine F.F.okH l4 (λvs H Q E h=>?_) (λcdv A outer s H vs Q E hr h=>?_)
 ·obtain⟨ea,D,j,rfl,_⟩:=h;rfl
 ·obtain⟨ea,D,j,rfl,hx,kt,k⟩:=h
  obtain⟨es,p1,p2,p3,hb,hes⟩:=vP
  rw[hb]
  refine⟨_,b9 (za (PW.pt (Fq (yd (p0 (bz bF rfl B.isinstance (by decide +kernel) (ay (pv 0) (ay (cv rfl e.mR (show RelV (.ref R) _ from rfl)) aU))) λ_=>rfl)) (CZ (yd (p0 (bz bF rfl B.isinstance (by decide +kernel) (ay (pv 0) (ay (yy rfl hv (by decide +kernel) (show RelV (.ty "ValueError") _ from rfl)) aU))) λ_=>rfl))))) (cZ (iB p4)) oK)
   (b9 (jK (i:=1) l4.nd rfl (Or.inl rfl) (mX (ay (bz bF rfl B.isinstance (by decide +kernel) (ay (pv 0) (ay (cv rfl e.m0 (show RelV (.ref c0) _ from rfl)) aU))) (ay (bz bF rfl B.isinstance (by decide +kernel) (ay (pv 0) (ay (cv rfl e.m1 (show RelV (.ref c1) _ from rfl)) aU))) (ay (bz bF rfl B.isinstance (by decide +kernel) (ay (pv 0) (ay (cv rfl e.m2 (show RelV (.ref c2) _ from rfl)) aU))) (ay (bz bF rfl B.isinstance (by decide +kernel) (ay (pv 0) (ay (cv rfl e.m3 (show RelV (.ref c3) _ from rfl)) aU))) aU))))))
   (b9 (jK (i:=1) l4.nd rfl (Or.inl rfl) (qN CN (pv 1) (mX (ay (bz bF rfl B.isinstance (by decide +kernel) (ay (pv 0) (ay (cv rfl e.m4 (show RelV (.ref c4) _ from rfl)) aU))) (ay (bz bF rfl B.isinstance (by decide +kernel) (ay (pv 0) (ay (cv rfl e.m5 (show RelV (.ref c5) _ from rfl)) aU))) (ay (bz bF rfl B.isinstance (by decide +kernel) (ay (pv 0) (ay (cv rfl e.m6 (show RelV (.ref c6) _ from rfl)) aU))) (ay (bz bF rfl B.isinstance (by decide +kernel) (ay (pv 0) (ay (cv rfl e.m7 (show RelV (.ref c7) _ from rfl)) aU))) aU)))))))
   (b9 (jK (i:=1) l4.nd rfl (Or.inl rfl) (qN CN (pv 1) (mX (ay (bz bF rfl B.isinstance (by decide +kernel) (ay (pv 0) (ay (cv rfl e.m8 (show RelV (.ref c8) _ from rfl)) aU))) (ay (bz bF rfl B.isinstance (by decide +kernel) (ay (pv 0) (ay (cv rfl e.m9 (show RelV (.ref c9) _ from rfl)) aU))) (ay (bz bF rfl B.isinstance (by decide +kernel) (ay (pv 0) (ay (cv rfl e.m10 (show RelV (.ref c10) _ from rfl)) aU))) (ay (bz bF rfl B.isinstance (by decide +kernel) (ay (pv 0) (ay (cv rfl e.m11 (show RelV (.ref c11) _ from rfl)) aU))) aU)))))))
   (b9 (za (yQ IH (wC Mi PySem.F.slot_list_count PySem.F.type_list_count Aq (pv 1) (ay rQ aU)) p8 (aS _)) (cZ (iB p4)) oK)
   (b9 (jK (i:=2) l4.nd rfl (Or.inl rfl) (mX (zd hes)))
   (cZ (iB (kz e8 (pv 2) (wC Mi PySem.F.slot_list_index PySem.F.type_list_index Ad (pv 1) (ay rQ aU)) (λ_ _=>rfl))))))))),?_⟩
  refine⟨_,rfl,ea,D,_,_,true,rfl,λu r=>r,hx,kt.ex,kt.R,_,rfl,rl ?_⟩
  refine⟨_,rfl,ea,D,_,_,true,rfl,λu r=>r,hx,kt.ex,kt.V,_,rfl,rl ?_⟩
  refine⟨_,rfl,ea,D,_,_,_,rfl,λu r=>r,hx,kt.ex,kt.k0,_,rfl,ea,D,_,_,_,rfl,λu r=>r,hx,kt.ex,kt.k1,_,rfl,ea,D,_,_,_,rfl,λu r=>r,hx,kt.ex,kt.k2,_,rfl,ea,D,_,_,_,rfl,λu r=>r,hx,kt.ex,kt.k3,fD (by show 4<=100;omega),λq1 h1=>?_⟩
  have s1:=ax.new (o:=.lst [.bl (decide (0=j)),.bl (decide (1=j)),.bl (decide (2=j)),.bl (decide (3=j))]) h1
  refine⟨_,rfl,_,rfl,ea,D,_,_,_,rfl,λu r=>r,s1 _ _ hx,kt.ex,kt.k4,_,rfl,ea,D,_,_,_,rfl,λu r=>r,s1 _ _ hx,kt.ex,kt.k5,_,rfl,ea,D,_,_,_,rfl,λu r=>r,s1 _ _ hx,kt.ex,kt.k6,_,rfl,ea,D,_,_,_,rfl,λu r=>r,s1 _ _ hx,kt.ex,kt.k7,fD (by show 4<=100;omega),λq2 h2=>?_⟩
  refine⟨q1,q2,_,_,rfl,rfl,ax.new h2 _ _ az,az,fD (by show 8<=100;omega),λq3 h3=>?_⟩
  have s2:=s1.trans (ax.new (o:=.lst [.bl (decide (4=j)),.bl (decide (5=j)),.bl (decide (6=j)),.bl (decide (7=j))]) h2)
  have s3:=s2.trans (ax.new (o:=.lst ([.bl (decide (0=j)),.bl (decide (1=j)),.bl (decide (2=j)),.bl (decide (3=j))] ++ [.bl (decide (4=j)),.bl (decide (5=j)),.bl (decide (6=j)),.bl (decide (7=j))])) h3)
  refine⟨_,rfl,_,rfl,ea,D,_,_,_,rfl,λu r=>r,s3 _ _ hx,kt.ex,kt.k8,_,rfl,ea,D,_,_,_,rfl,λu r=>r,s3 _ _ hx,kt.ex,kt.k9,_,rfl,ea,D,_,_,_,rfl,λu r=>r,s3 _ _ hx,kt.ex,kt.k10,_,rfl,ea,D,_,_,_,rfl,λu r=>r,s3 _ _ hx,kt.ex,kt.k11,fD (by show 4<=100;omega),λq4 h4=>?_⟩
  refine⟨q3,q4,_,_,rfl,rfl,ax.new h4 _ _ az,az,fD (by show 12<=100;omega),λq5 h5=>?_⟩
  have s5:=(s3.trans (ax.new (o:=.lst [.bl (decide (8=j)),.bl (decide (9=j)),.bl (decide (10=j)),.bl (decide (11=j))]) h4)).trans (ax.new (o:=.lst ([.bl (decide (0=j)),.bl (decide (1=j)),.bl (decide (2=j)),.bl (decide (3=j))] ++ [.bl (decide (4=j)),.bl (decide (5=j)),.bl (decide (6=j)),.bl (decide (7=j))] ++ [.bl (decide (8=j)),.bl (decide (9=j)),.bl (decide (10=j)),.bl (decide (11=j))])) h5)
  refine⟨_,rfl,.inl ⟨rfl,_,.inl (.inl az)⟩,q5,Cm j,true,rfl,rfl,.inl (.inl az),?_⟩
  rw[BW j kt.j12]
  refine⟨rfl,_,rfl,rl ?_⟩
  refine⟨fD (by show 12<=100;decide),λq6 h6=>?_⟩
  have n56:q5≠q6:=aM az h6
  refine⟨_,rfl,_,rfl,.inl ⟨rfl,_,.inl (.inl ((aI n56).trans az))⟩,q5,Cm j,true,rfl,rfl,.inl (.inl ((aI n56).trans az)),FW j kt.j12,?_⟩
  rw[FI j kt.j12]
  exact⟨q6,_,_,_,rfl,rfl,.inl (.inl az),CV j kt.j12,k _ (s5.trans (ax.new h6))⟩
end
def GA {P:Program}{w:World}{K:Frag}{mg:Str->Option Value}{base:Heap}{ca:Str->Addr}{f R c0 c1 c2 c3 c4 c5 c6 c7 c8 c9 c10 c11:Addr}{fd:FuncData}{tbl:List (Str×Nat)}(F:dO K mg "_law_marks" jU ["e"] f fd)(e:Er mg R c0 c1 c2 c3 c4 c5 c6 c7 c8 c9 c10 c11)(B:dQ mg)(hv:mg "ValueError"=none)
  (ha:∀c j,tbl.lookup c=some j->Mt K (.ref (ca c)) R/\Dz K (ca c) R c0 c1 c2 c3 c4 c5 c6 c7 c8 c9 c10 c11 j):DU P w K mg base ca "RankError" "_law_marks" (RM.Ae tbl):=by
 have O:rR P w K mg base xZ 1 f fd ["e"] (zg K R c0 c1 c2 c3 c4 c5 c6 c7 c8 c9 c10 c11):=Bc F e B hv
 refine⟨f,R,fd,λD x=>∃j,Dz K D R c0 c1 c2 c3 c4 c5 c6 c7 c8 c9 c10 c11 j/\x=jy.getD j "",?_,F.mg,F.F.kp,F.b,e.mR,λc z h=>?_⟩
 ·exact⟨λvs H Q E q=>by obtain⟨ea,D,x,rfl,_⟩:=q;rfl,λA outer s H args us vs Q E hr he hb hv' hs=>O.run A outer s H args us vs Q E hr he hb hv' (by
   obtain⟨ea,D,x,rfl,hx,⟨j,kj,rfl⟩,q⟩:=hs
   exact⟨ea,D,j,rfl,hx,kj,q⟩)⟩
 ·unfold RM.Ae at h
  cases q:tbl.lookup c with
  |none=>rw[q] at h;cases h
  |some j=>
   rw[q] at h
   cases h
   exact⟨(ha c j q).1,j,(ha c j q).2,rfl⟩
end RO
section
namespace RO
open PySem L2 RM
def FF {K:Frag}{ca:Str->Addr}(vs:List V)(H:Hp)(Q:VK)(E:XK)(h:yE K vs H Q E):C9 K ca 1 Gi vs H Q E:=by
 obtain⟨a,ns,rfl,hS,q⟩:=h
 refine⟨H,[bW ns],ax.refl _,rfl,.cons (.scr hS) .nil,?_⟩
 rw[Hx]
 intro v G' H' s1 s2 s3 s4 fv
 have fv:Rp K G' v (.bool true):=fv
 cases fv
 exact q H' s1
def all_mk:Fl:=by
 intro l w K h mg fa f53 R q0 q1 q2 q3 q4 q5 q6 q7 q8 q9 q10 q11 X G hfa od53 an53 sl53 oc53 kV53 dc53 pm53 cd53 ct53 tMOST_THINGS F1 F2 F3 F4 F5 F6 F7 F8 F9 F10 F11 F12 F13 F14 F15 F16 F17 F18 F19 F20 F21 F22 F23 F24 F25 F26 F27 F28 F29 F30 F31 F32 F33 F34 F35 F36 F37 F38 F39 F40 F41 F42 F43 F44 F45 F46 F47 F48 F49 F50 F51 F52 a53 l53 c53 k53 zB yMOST_THINGS mR n0 n1 n2 n3 n4 n5 n6 n7 n8 n9 n10 n11 zV eR e0 e1 e2 up0 g1_0 g2_0 g3_0 g4_0 g7_0 g8_0 kR0 kV0 kt0_0 kt0_1 kt0_2 kt0_3 kt0_4 kt0_5 kt0_6 kt0_7 kt0_8 kt0_9 kt0_10 kt0_11 g5 g6
 have e:=hfa.symm.trans (Lx X G a53)
 cases e
 have B:dQ mg:=Hy X G zB
 have ik:=Lx X G yMOST_THINGS
 obtain⟨f1,d1,uC⟩:=F1.ex
 obtain⟨f2,d2,bM⟩:=F2.ex
 obtain⟨f3,d3,dk⟩:=F3.ex
 obtain⟨f4,d4,gB⟩:=F4.ex
 obtain⟨f5,d5,gr⟩:=F5.ex
 obtain⟨f6,d6,mG⟩:=F6.ex
 obtain⟨f7,d7,iI⟩:=F7.ex
 obtain⟨f8,d8,eH⟩:=F8.ex
 obtain⟨f9,d9,eM⟩:=F9.ex
 obtain⟨f10,d10,af⟩:=F10.ex
 obtain⟨f11,d11,aB⟩:=F11.ex
 obtain⟨f12,d12,kL⟩:=F12.ex
 obtain⟨f13,d13,iO⟩:=F13.ex
 obtain⟨f14,d14,kT⟩:=F14.ex
 obtain⟨f15,d15,bu⟩:=F15.ex
 obtain⟨f16,d16,iE⟩:=F16.ex
 obtain⟨f17,d17,iD⟩:=F17.ex
 obtain⟨f18,d18,du⟩:=F18.ex
 obtain⟨f19,d19,gp⟩:=F19.ex
 obtain⟨f20,d20,gu⟩:=F20.ex
 obtain⟨f21,d21,gF⟩:=F21.ex
 obtain⟨f22,d22,cG⟩:=F22.ex
 obtain⟨f23,d23,cI⟩:=F23.ex
 obtain⟨f24,d24,cz⟩:=F24.ex
 obtain⟨f25,d25,cJ⟩:=F25.ex
 obtain⟨f26,d26,bE⟩:=F26.ex
 obtain⟨f27,d27,cM⟩:=F27.ex
 obtain⟨f28,d28,b8⟩:=F28.ex
 obtain⟨f29,d29,dU⟩:=F29.ex
 obtain⟨f30,d30,cm⟩:=F30.ex
 obtain⟨f31,d31,gA⟩:=F31.ex
 obtain⟨f32,d32,eB⟩:=F32.ex
 obtain⟨f33,d33,bw⟩:=F33.ex
 obtain⟨f34,d34,dv⟩:=F34.ex
 obtain⟨f35,d35,gx⟩:=F35.ex
 obtain⟨f36,d36,iC⟩:=F36.ex
 obtain⟨f37,d37,gy⟩:=F37.ex
 obtain⟨f38,d38,aX⟩:=F38.ex
 obtain⟨f39,d39,eO⟩:=F39.ex
 obtain⟨f40,d40,gz⟩:=F40.ex
 obtain⟨f41,d41,cN⟩:=F41.ex
 obtain⟨f42,d42,dw⟩:=F42.ex
 obtain⟨f43,d43,dY⟩:=F43.ex
 obtain⟨f44,d44,eG⟩:=F44.ex
 obtain⟨f45,d45,aW⟩:=F45.ex
 obtain⟨f46,d46,bQ⟩:=F46.ex
 obtain⟨f47,d47,cn⟩:=F47.ex
 obtain⟨f48,d48,cB⟩:=F48.ex
 obtain⟨f49,d49,cD⟩:=F49.ex
 obtain⟨f50,d50,ck⟩:=F50.ex
 obtain⟨f51,d51,cP⟩:=F51.ex
 obtain⟨f52,d52,dz⟩:=F52.ex
 have U53:=xo (st:=RQ.lg) l53 c53 k53
 have HV:dO K mg "law" RQ.lg ["script"] fa _:=⟨Lx X G a53,U53,U53.binds (ps:=["script"]) λ_ _ _ _ _ _=>qR λ_=>rfl⟩
 obtain⟨ca,hca⟩:∃ca:Str->Addr,ca "NoOrder"=q0/\ca "NoPoints"=q10/\ca "NoRows"=q6:=⟨λs=>if s="NoOrder" then q0 else if s="NoPoints" then q10 else if s="NoRows" then q6 else 0,by first |rfl |decide |simp,by first |rfl |decide |simp,by first |rfl |decide |simp⟩
 have iW:Exc K mg ca "NoOrder":=⟨by rw[hca.1];exact Lx X G n0,by rw[hca.1];exact e0⟩
 have gP:Exc K mg ca "NoPoints":=⟨by rw[hca.2.1];exact Lx X G n10,by rw[hca.2.1];exact e1⟩
 have ku:Exc K mg ca "NoRows":=⟨by rw[hca.2.2];exact Lx X G n6,by rw[hca.2.2];exact e2⟩
 refine⟨PySem.W.fnOf "law" "law" (ic RQ.lg) (bN RQ.lg) (ak RQ.lg) .none kV53 dc53 pm53 an53 cd53 ct53,λs v=>.of_eq rfl,λbase _ _=>?_⟩
 have er:Er mg R q0 q1 q2 q3 q4 q5 q6 q7 q8 q9 q10 q11:=⟨Lx X G mR,Lx X G n0,Lx X G n1,Lx X G n2,Lx X G n3,Lx X G n4,Lx X G n5,Lx X G n6,Lx X G n7,Lx X G n8,Lx X G n9,Lx X G n10,Lx X G n11⟩
 have kt0:Dz K q0 R q0 q1 q2 q3 q4 q5 q6 q7 q8 q9 q10 q11 0:=⟨⟨g1_0,g2_0,g3_0,g4_0,g5,g6,g7_0,g8_0⟩,kR0,kV0,kt0_0,kt0_1,kt0_2,kt0_3,kt0_4,kt0_5,kt0_6,kt0_7,kt0_8,kt0_9,kt0_10,kt0_11,by decide⟩
 have mt0:Mt K (.ref q0) R:=HP e0 eR (by decide) up0
 have MK:DU l.prog w K mg base ca "RankError" "_law_marks" (RM.Ae BC):=by
  refine GA uC er B (PySem.W.mg_none_of X G zV) λc j h=>?_
  unfold BC at h
  by_cases z0:c="NoOrder"
  ·subst z0
   cases h
   rw[hca.1];exact⟨mt0,kt0⟩
  simp only[MC,List.lookup_nil,beq_false_of_ne z0] at h
  cases h
 have eJ:=(RQ.tm (P:=l.prog) (w:=w) (base:=base) (ca:=ca) bM B).imp Dj
 have ju:=(RQ.tO (P:=l.prog) (w:=w) (base:=base) (ca:=ca) dk B eJ).imp EN
 have nr:=(RQ.vQ (P:=l.prog) (w:=w) (base:=base) (ca:=ca) gB B eJ ik).imp Gn
 have nA:=RQ.wF (P:=l.prog) (w:=w) (base:=base) (ca:=ca) gr B ju
 have Df:=RQ.qz (P:=l.prog) (w:=w) (base:=base) (ca:=ca) mG B
 have pD:=wW (P:=l.prog) (w:=w) (base:=base) (ca:=ca) iI mG B
 have lz:=(RQ.tx (P:=l.prog) (w:=w) (base:=base) (ca:=ca) eH B).imp F0
 have lQ:=RQ.tH (P:=l.prog) (w:=w) (base:=base) (ca:=ca) eM B nr nA pD lz
 have ah:=RQ.o6 (P:=l.prog) (w:=w) (base:=base) (ca:=ca) af B lQ iW
 have aQ:=RQ.ip (P:=l.prog) (w:=w) (base:=base) (ca:=ca) aB B ah
 have tL:=RQ.zM (P:=l.prog) (w:=w) (base:=base) (ca:=ca) kL B aQ
 have pJ:=RQ.xh (P:=l.prog) (w:=w) (base:=base) (ca:=ca) iO B aQ
 have tR:=RQ.zY (P:=l.prog) (w:=w) (base:=base) (ca:=ca) kT B aQ
 have cC:=RQ.pU (P:=l.prog) (w:=w) (base:=base) (ca:=ca) bu B ah
 have pB:=RQ.yi (P:=l.prog) (w:=w) (base:=base) (ca:=ca) iE B ah
 have qM:=RQ.w9 (P:=l.prog) (w:=w) (base:=base) (ca:=ca) iD B ah
 have jV:=RQ.rn (P:=l.prog) (w:=w) (base:=base) (ca:=ca) du B ah
 have nc:=RQ.vT (P:=l.prog) (w:=w) (base:=base) (ca:=ca) gp B ah
 have nP:=RQ.uY (P:=l.prog) (w:=w) (base:=base) (ca:=ca) gu B ah
 have nU:=RQ.C4 (P:=l.prog) (w:=w) (base:=base) (ca:=ca) gF B ah
 have iZ:=RQ.qq (P:=l.prog) (w:=w) (base:=base) (ca:=ca) cG B ah
 have jc:=RQ.o4 (P:=l.prog) (w:=w) (base:=base) (ca:=ca) cI B ah
 have iF:=RQ.wQ (P:=l.prog) (w:=w) (base:=base) (ca:=ca) cz B ah
 have i9:=RQ.qd (P:=l.prog) (w:=w) (base:=base) (ca:=ca) cJ B ah
 have dA:=RQ.rg (P:=l.prog) (w:=w) (base:=base) (ca:=ca) bE B ah
 have jx:=RQ.qt (P:=l.prog) (w:=w) (base:=base) (ca:=ca) cM B iF dA
 have fT:=RQ.zG (P:=l.prog) (w:=w) (base:=base) (ca:=ca) b8 B ah
 have lG:=RQ.uH (P:=l.prog) (w:=w) (base:=base) (ca:=ca) dU B
 have iw:=RQ.oz (P:=l.prog) (w:=w) (base:=base) (ca:=ca) cm B fT lG
 have nu:=RQ.vS (P:=l.prog) (w:=w) (base:=base) (ca:=ca) gA B ah
 have lO:=RQ.uQ (P:=l.prog) (w:=w) (base:=base) (ca:=ca) eB B ah
 have cQ:=RQ.qB (P:=l.prog) (w:=w) (base:=base) (ca:=ca) bw B ah
 have j3:=RQ.rj (P:=l.prog) (w:=w) (base:=base) (ca:=ca) dv B nU ku
 have ny:=RQ.vj (P:=l.prog) (w:=w) (base:=base) (ca:=ca) gx B cQ gP
 have qy:=RQ.yn (P:=l.prog) (w:=w) (base:=base) (ca:=ca) iC B ah
 have nq:=RQ.vX (P:=l.prog) (w:=w) (base:=base) (ca:=ca) gy B ah
 have bK:=RQ.lK (P:=l.prog) (w:=w) (base:=base) (ca:=ca) aX B ah
 have lM:=RQ.ur (P:=l.prog) (w:=w) (base:=base) (ca:=ca) eO B bK
 have nG:=RQ.vH (P:=l.prog) (w:=w) (base:=base) (ca:=ca) gz B fT
 have jC:=RQ.qg (P:=l.prog) (w:=w) (base:=base) (ca:=ca) cN B cC
 have j8:=RQ.qY (P:=l.prog) (w:=w) (base:=base) (ca:=ca) dw B
 have lI:=RQ.sX (P:=l.prog) (w:=w) (base:=base) (ca:=ca) dY B
 have lD:=RQ.sP (P:=l.prog) (w:=w) (base:=base) (ca:=ca) eG B j8 lI
 have bB:=RQ.rq (P:=l.prog) (w:=w) (base:=base) aW B
 have fC:=RQ.mU (P:=l.prog) (w:=w) (base:=base) bQ B bB
 have iq:=RQ.ou (P:=l.prog) (w:=w) (base:=base) (ca:=ca) cn B
 have jq:=RQ.p7 (P:=l.prog) (w:=w) (base:=base) (ca:=ca) cB B iq bB fC
 have jl:=RQ.pI (P:=l.prog) (w:=w) (base:=base) (ca:=ca) cD B tL pJ tR cC pB jC qM jV nc nP nU
 have il:=RQ.oE (P:=l.prog) (w:=w) (base:=base) (ca:=ca) ck B iZ jc iF i9 dA jx fT iw nu lO
 have i0:=RQ.pX (P:=l.prog) (w:=w) (base:=base) (ca:=ca) cP B cQ j3 ny qy nq bK lM nG
 have kh:=RQ.qU (P:=l.prog) (w:=w) (base:=base) (ca:=ca) dz B jl il i0 MK
 have IG:=RQ.DH (P:=l.prog) (w:=w) (base:=base) (ca:=ca) HV B lD kh jq bB
 exact fq.imp (sp:=C9 K ca 1 Gi) IG FF
end RO
theorem PySem.Challenge.cw_rowsorder_k07_what_is_no_order_holds : PySem.Challenge.rw_rowsorder_k07_what_is_no_order.Holds :=
 RO.head RO.all_mk
end
