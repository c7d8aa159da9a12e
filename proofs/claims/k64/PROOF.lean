import PyProof.Rows.All
import KE.RegKIsAll
import KE.KSortTup
import KE.KDictOf
import KE.KNestM
import KE.KFromBytes
import KE.KLam
import KE.KMinKey
import KE.KStateDown
import Wide.FinOn
import PySem.Challenge.RW_rowsorder_k64_builds_refused
set_option Elab.async false
set_option linter.all false
set_option maxRecDepth 100000
set_option maxHeartbeats 1000000
def Ji:=@PySem.wpAny_bind
def Jj:=@PySem.Heap.get?_push_of_some
def Jk:=@if_pos
def Jl:=@Nat.le_refl
def Jm:=@PySem.Heap.lt_size
def Jn:=@List.mem_cons
def Jo:=@List.size_toArray
def Jp:=@PySem.wpAny_pure
def Jq:=@List.getElem?_set_self
def Jr:=@List.getElem?_eq_getElem
def Js:=@List.getElem?_set_ne
def Jt:=@PySem.Heap.get?_push_size
def Ju:=@if_neg
def Jv:=@decide_eq_true
def Jw:=@List.getElem?_eq_some_iff
def Jx:=@List.mem_cons_of_mem
def Jy:=@decide_eq_false
def Jz:=@Nat.lt_of_lt_of_le
def JA:=@Bool.false_ne_true
def JB:=@List.mem_cons_self
def JC:=@List.getElem?_map
def JD:=@Bool.and_eq_true
def JE:=@List.length_map
def JF:=@PySem.W.mg_of
def JG:=@List.not_mem_nil
def JH:=@Nat.ne_of_lt
def JI:=@List.mem_of_getElem?
def JJ:=@Nat.lt_irrefl
def JK:=@List.mem_append_right
def JL:=@PySem.sizeLine_eq
def JM:=@List.length_cons
def JN:=@decide_eq_true_eq
def JO:=@Int.toNat_natCast
def JP:=@List.length_append
def JQ:=@Bool.eq_iff_iff
def JR:=@PySem.W.kia_one
def JS:=@List.mem_singleton
def JT:=@List.mem_append
def JU:=@PySem.wpAny_newObj_type
def JV:=@List.getElem?_append_left
def JW:=@PySem.mem_of_lookup
def JX:=@List.replicate_succ
def JY:=@Nat.zero_le
def JZ:=@PyProof.Rows.slot_tuple_getitem
def J0:=@List.getElem?_append_right
def J1:=@PySem.Heap.get?_update_other
def J2:=@PySem.Heap.size_push
def J3:=@or_false
def J4:=@List.mem_filter
def J5:=@List.length_set
def J6:=@List.mem_range
def J8:=@List.map_congr_left
def J9:=@PySem.wpAny_mono
def Ka:=@Int.zero_add
def Kb:=@PySem.wpAny_field
def Kc:=@List.map_cons
def Kd:=@List.getElem?_replicate
def Ke:=@PySem.wpAny_truthy_bool
def Kf:=@PyProof.Rows.callWith_type1
def Kg:=@List.nodup_cons
def Kh:=@Nat.le_trans
def Ki:=@List.length_replicate
def Kj:=@Option.isSome_iff_exists
def Kk:=@List.set_eq_of_length_le
def Kl:=@List.eq_of_mem_replicate
def Km:=@if_true
def Kn:=@List.flatten_cons
def Ko:=@List.length_take
def Kq:=@List.all_eq_true
def Kr:=@PySem.boot_len
def Ks:=@PySem.W.cellsFrom_some
def Ku:=@List.mem_filterMap
def Kv:=@PySem.codeAny_mono
def Kw:=@Bool.false_eq_true
def Kx:=@Nat.zero_add
def Ky:=@PySem.wpAny_passesOwn
def Kz:=@PySem.Heap.get?_update_self
def KA:=@List.getElem?_eq_none
def KC:=@Array.getElem?_eq_some_iff
def KD:=@List.lookup_cons
def KG:=@Nat.lt_trans
def KH:=@PySem.F.called_set
def KI:=@PySem.wpAny_callSpecial?_slot
def KJ:=@List.any_cons
def KL:=@PySem.wpAny_Call_Name_kw
def KN:=@PySem.wpAny_pyIter_tuple
def KO:=@List.map_append
def KP:=@Int.emod_nonneg
def KQ:=@Int.emod_lt_of_pos
def KR:=@PySem.SeqAt.canLay_of_shaped
def KS:=@PySem.wpAny_pyIter_list
def KU:=@List.append_assoc
def KW:=@Bool.not_eq_true'
def KY:=@List.length_range
def KZ:=@List.mem_map
def K0:=@List.mem_append_left
def K1:=@if_false
def K2:=@List.length_drop
def K3:=@PySem.Around.under_plainId
def K4:=@PySem.wpAny_holding
def K5:=@PySem.wpAny_newFunctionEnv_cells
def K6:=@Array.toList_append
def K7:=@List.getElem?_range
def K8:=@PySem.wpAny_execs_nil
def K9:=@List.of_mem_zip
def Ld:=@PySem.codeAny_builtin
def Lf:=@beq_false_of_ne
def Lg:=@Nat.le_of_lt
def Lj:=@PySem.F.args_tuple_add_2
def Lk:=@List.lookup_append
def Lm:=@PySem.wpAny_comprehension_free
def Ln:=@List.all_map
def Lo:=@PySem.Obj.data_mapFields
def Lp:=@List.idxOf_lt_length_iff
def Lq:=@PySem.AutoSeq1.wpAny_loadPart'
def Lr:=@PySem.wpAny_setField
def Ls:=@PySem.wpAny_pyIter_enum
def Lu:=@of_decide_eq_true
open List (append_nil foldl_cons all_cons range'_succ set_set)
open PySem.W (Frag)
open PySem.PyData (int)
namespace HD
open PySem PySem.W
noncomputable abbrev Ad:=@PySem.W.Fast.tw10156331382660048174
noncomputable abbrev DQ:=@PySem.W.Fast.tw11892475500146522536
noncomputable abbrev HK:=@PySem.W.Fast.tw6613529449190102663
noncomputable abbrev DC:=@PySem.W.Fast.tw14364793385576792824
noncomputable abbrev Co:=@PySem.W.Fast.tw17154629097778926822
noncomputable abbrev Ab:=@PySem.W.Fast.tw12822647523644345616
noncomputable def tf (p:Program):Thread:=
 ⟨do
  let code <-Co p.main
  let frame <-Ab code mainNs mainNs
  let _ <-run (.body (behindTheImports p) {scope:=p.main.scope,locals:=mainNs,globals:=mainNs,cells:=[],code,frame:=some frame})
  ret .none,
  .builtin "claim.caller" {},default,[]⟩
def zU (p:Program):topStub p=tf p:=by
 unfold topStub tf Co Ab
 rw[<-PySem.W.Fast.te17154629097778926822,<-PySem.W.Fast.te12822647523644345616]
noncomputable def jV (p:Program)(w:World)(n₀:Nat)(ann:Option Value):Nat->SharedT->Thread->Option SharedT
 | 0,_,_=>none
 |n + 1,s,t=>match through t with
  |true=>some s
  |false=>match HK n₀ ann t with
   |false=>none
   |true=>match Ad (DQ DC) p w s t with
    |some (s',t')=>jV p w n₀ ann n s' t'
    |none=>none
theorem pJ {p:Program}{w:World}{n₀:Nat}{ann:Option Value}:∀{n:Nat} {s s':SharedT} {t:Thread},jV p w n₀ ann n s t=some s'->topRun treeTable p w n₀ ann n s.abs t=some s'.abs
 | 0,_,_,_,h=>by cases h
 |n + 1,s,s',t,h=>by
  unfold jV at h
  unfold topRun
  cases ht:through t with
  |true=>rw[ht] at h;cases h;rfl
  |false=>
   rw[ht] at h
   have hq:HK n₀ ann t=stepOk n₀ ann t:=by unfold HK;rw[<-PySem.W.Fast.te6613529449190102663]
   dsimp only at h
   rw[hq] at h
   cases hk:stepOk n₀ ann t with
   |false=>rw[hk] at h;cases h
   |true=>
    rw[hk] at h
    have hq:Ad (DQ DC) p w s t=stepT (denote treeTable) p w s t:=by unfold Ad DQ DC;rw[<-PySem.W.Fast.te10156331382660048174,<-PySem.W.Fast.te11892475500146522536,<-PySem.W.Fast.te14364793385576792824]
    dsimp only at h
    rw[hq] at h
    cases hs:stepT (denote treeTable) p w s t with
    |none=>rw[hs] at h;cases h
    |some r=>obtain⟨s₂,t₂⟩:=r;rw[hs] at h;rw[stepT_spec hs];exact pJ h
def treeOf (l:List Obj):BT:=(l.foldl (λ(x:BT×Nat) o=>(x.1.ins x.2 o,x.2 + 1)) (.nil,0)).1
noncomputable def zX (P:Params):BT:=treeOf (boot_heap P).objs.toList
abbrev oN:Nat:=11
abbrev yD:Life:={}
def boot_abs (P:Params):absHeap (zX P) oN yD=boot_heap P:=by kernel_rfl
def xB (w:World):((boot_heap w.params).isNs mainGlobals && (Array.mk ([]:List GenState)).size == 0,(boot_heap w.params).objs.size,(boot_heap w.params).nsMap mainGlobals "__annotations__")=(true,oN,some (.ref 6)):=by kernel_rfl
noncomputable def qM (w:World)(os:OsState):SharedT:=⟨zX w.params,oN,yD,Array.mk [],boot_drawn,boot_toks,os⟩
noncomputable def wI (p:Program)(w:World)(s:Shared):Bool:=staticsOk (importedModules p.main.body) (boot_heap w.params) s.heap && namesBound p s.heap && gensDone s && laidKept (boot_heap w.params) s.heap
def B8 {p q:Program}{loose:List Str}{Xt:Shared->Bool}{α:Type}{Yf:Shared->α}{Ya:World->α}{N:Nat}{g0:Bool}
  (e:opening p=plainProg p.main.scope.names) (hN:Nat.ble 600 N=true) (f:∀s,fenceModules? p s=some s)
  (run:∀(w:World) (os:OsState),(jV p w oN (some (.ref 6)) N (qM w os) (tf p)).map (λs=>(wI p w s.abs,openSeen q loose (importedModules p.main.body) Xt g0 s.abs,Yf s.abs))=some (true,openGood q loose,Ya w)):LeftO p q loose Xt Yf Ya N g0:=λw=>by
 obtain⟨⟨h,gs,d,k,os⟩,e,e'⟩:=Option.map_eq_some_iff.mp (boot_open e hN f w)
 obtain⟨rfl,rfl,rfl,rfl⟩:h=boot_heap w.params/\gs=Array.mk []/\d=boot_drawn/\k=boot_toks:=by simpa using e'
 obtain⟨z1,z2,z3⟩:_/\_/\_:=by simpa only [Prod.mk.injEq] using xB w
 obtain⟨s',r,ls⟩:=Option.map_eq_some_iff.mp (run w os)
 obtain⟨l1,l2,l3⟩:_/\_/\_:=by simpa only [Prod.mk.injEq] using ls
 have r:=pJ r
 have ha:(qM w os).abs=⟨boot_heap w.params,Array.mk [],boot_drawn,boot_toks,os⟩:=by
  show Shared.mk (absHeap (zX w.params) oN yD) _ _ _ _=_
  rw[boot_abs]
  rfl
 rw[ha,<-zU] at r
 have t:topFrom treeTable p w N ⟨boot_heap w.params,Array.mk [],boot_drawn,boot_toks,os⟩=some s'.abs:=by
  unfold topFrom
  dsimp only
  rw[z1,z2,z3,r]
  show (match wI p w s'.abs with |true=>_ |false=>_)=_
  rw[l1]
 unfold openEnds
 rw[e]
 show (topFrom treeTable p w N _).map _=_
 rw[t]
 exact congrArg some (Prod.ext l2 l3)
theorem map_two {α β γ:Type}{o:Option α}{f:α->β}{g:α->γ}{b:β}{c:γ}(h:o.map f=some b)(k:o.map g=some c):o.map (λs=>(f s,g s))=some (b,c):=by
 cases o with
 |none=>cases h
 |some x=>cases h;cases k;rfl
noncomputable abbrev vF (p:Program)(N:Nat)(w:World)(os:OsState):Option SharedT:=jV p w oN (some (.ref 6)) N (qM w os) (tf p)
def BW {p q:Program}{loose:List Str}{Xt:Shared->Bool}{α:Type}{Yf:Shared->α}{Ya:World->α}{N:Nat}{g0:Bool}
  (e:opening p=plainProg p.main.scope.names) (hN:Nat.ble 600 N=true) (f:∀s,fenceModules? p s=some s)
  (r1:∀w os,(vF p N w os).map (λs=>(wI p w s.abs,(openSeen q loose (importedModules p.main.body) Xt g0 s.abs).1))=some (true,(openGood q loose).1))
  (r2:∀w os,(vF p N w os).map (λs=>(openSeen q loose (importedModules p.main.body) Xt g0 s.abs).2)=some (openGood q loose).2)
  (r3:∀w os,(vF p N w os).map (λs=>Yf s.abs)=some (Ya w)):LeftO p q loose Xt Yf Ya N g0:=
 B8 e hN f λw os=>by
  have h:=map_two (r1 w os) (map_two (r2 w os) (r3 w os))
  unfold vF at h
  cases z:jV p w oN (some (.ref 6)) N (qM w os) (tf p) with
  |none=>rw[z] at h;cases h
  |some x=>
   rw[z] at h
   simp only[Option.map_some,Option.some.injEq,Prod.mk.injEq] at h ⊢
   exact⟨h.1.1,Prod.ext h.1.2 h.2.1,h.2.2⟩
end HD
section
set_option Elab.async false
namespace L2
open PySem PySem.Spec PyProof.Rows
abbrev Key:=Sum Int Str
def pW:Key->Value->Bool
 | .inl k,v=>Value.isInt k v
 | .inr x,v=>Value.isStrOf x v
def HV (w:World):Key->Int
 | .inl k=>hashInt k
 | .inr x=>hashStr w x
theorem b9:∀{k:Key} {v:Value},pW k v=true->(∃i t,k=Sum.inl i/\v=Value.int i t)\/(∃x t,k=Sum.inr x/\v=Value.str x t)
 | .inl i,v,h=>by
  obtain⟨t,e⟩:=Value.isInt_shape (k:=i) (v:=v) h
  exact .inl ⟨i,t,rfl,e⟩
 | .inr x,v,h=>by
  obtain⟨t,e⟩:=Value.isStrOf_shape (x:=x) (v:=v) h
  exact .inr ⟨x,t,rfl,e⟩
def xl (i:Int)(t:Tok):pW (.inl i) (.int i t)=true:=by simp[pW,Value.isInt]
def ym (x:Str)(t:Tok):pW (.inr x) (.str x t)=true:=by simp[pW,Value.isStrOf]
def Df (a b:Int):decide ((Sum.inl a:Key)=Sum.inl b)=(a == b):=by
 by_cases e:a=b
 ·subst e;simp
 ·have h:¬(Sum.inl a:Key)=Sum.inl b:=λq=>e (Sum.inl.inj q)
  rw[Jy h]
  exact (beq_eq_false_iff_ne.mpr e).symm
def Dh (a b:Str):decide ((Sum.inr a:Key)=Sum.inr b)=decide (a=b):=by
 by_cases e:a=b
 ·subst e;simp
 ·have h:¬(Sum.inr a:Key)=Sum.inr b:=λq=>e (Sum.inr.inj q)
  rw[Jy h,Jy e]
def Ez (a:Int)(b:Str):decide ((Sum.inl a:Key)=Sum.inr b)=false:=Jy (λq=>nomatch q)
def Ec (a:Str)(b:Int):decide ((Sum.inr a:Key)=Sum.inl b)=false:=Jy (λq=>nomatch q)
def dR (prog:Program)(w:World):PySem.KeyKind prog w Key where
 is:=pW
 hash:=HV w
 inj:=λv a b ha hb=>by
  rcases b9 ha with⟨i,t,rfl,rfl⟩ | ⟨x,t,rfl,rfl⟩
  ·rcases b9 hb with⟨j,u,rfl,e⟩ | ⟨y,u,rfl,e⟩
   ·injection e with e1 _;rw[e1]
   ·exact nomatch e
  ·rcases b9 hb with⟨j,u,rfl,e⟩ | ⟨y,u,rfl,e⟩
   ·exact nomatch e
   ·injection e with e1 _;rw[e1]
 byValue:=λk v h=>by
  rcases b9 h with⟨i,t,rfl,rfl⟩ | ⟨x,t,rfl,rfl⟩ <;> rfl
 pyHash:=λhv h=>by
  rcases b9 hv with⟨i,t,rfl,rfl⟩ | ⟨x,t,rfl,rfl⟩
  ·exact wpAny_pyHash_int h
  ·exact wpAny_pyHash_str h
 eqBool:=λhu hv h=>by
  rcases b9 hu with⟨i,t,rfl,rfl⟩ | ⟨x,t,rfl,rfl⟩
  ·rcases b9 hv with⟨j,u,rfl,rfl⟩ | ⟨y,u,rfl,rfl⟩
   ·rw[Df] at h;exact wpAny_eqBool_int h
   ·rw[Ez] at h;exact SeqAt.EqAt.int_str i t y u _ _ _ _ h
  ·rcases b9 hv with⟨j,u,rfl,rfl⟩ | ⟨y,u,rfl,rfl⟩
   ·rw[Ec] at h;exact SeqAt.EqAt.str_int x t j u _ _ _ _ h
   ·rw[Dh] at h;exact wpAny_eqBool_str h
 «strs»:=λk x t v h=>by
  rcases b9 h with⟨i,u,rfl,e⟩ | ⟨y,u,rfl,e⟩
  ·exact nomatch e
  ·injection e with e1 _
   subst e1
   cases v <;> rfl
def sZ (prog:Program)(w:World)(i:Int)(t:Tok):(dR prog w).is (.inl i) (.int i t)=true:=xl i t
def sk (prog:Program)(w:World)(x:Str)(t:Tok):(dR prog w).is (.inr x) (.str x t)=true:=ym x t
inductive V where
 |non |bl (b:Bool) |int (i:Int) |str (x:Str) |byt (b:Array UInt8) |flt (b:UInt64) |ref (a:Addr) |ty (n:String)
 deriving DecidableEq
def RelV:V->Value->Prop
 | .non,u=>u=Value.none
 | .bl b,u=>u=Value.bool b
 | .int i,u=>∃t,u=Value.int i t
 | .str x,u=>∃t,u=Value.str x t
 | .byt b,u=>∃t,u=Value.bytes b t
 | .flt b,u=>∃t,u=Value.float b t
 | .ref a,u=>u=Value.ref a
 | .ty n,u=>u=Value.type n
abbrev Vals:List V->List Value->Prop:=Paired RelV
def Vals.length {xs:List V}{us:List Value}(r:Vals xs us):xs.length=us.length:=Paired.length r
theorem Vals.get:∀{xs:List V} {us:List Value} {i:Nat} {x:V},Vals xs us->xs[i]? =some x->∃u,us[i]? =some u/\RelV x u
 |_,_,_,_,.nil,e=>by simp at e
 |_,_,0,_,.cons r _,e=>by simp at e;subst e;exact⟨_,rfl,r⟩
 |_,_,i + 1,x,.cons _ t,e=>by
  obtain⟨u,h1,h2⟩:=Vals.get (i:=i) (x:=x) t (by simpa using e)
  exact⟨u,by simpa using h1,h2⟩
theorem Vals.set {x:V}{u:Value}(r:RelV x u):∀{xs:List V} {us:List Value} (i:Nat),Vals xs us->Vals (xs.set i x) (us.set i u)
 |_,_,_,.nil=>.nil
 |_,_,0,.cons _ t=>.cons r t
 |_,_,i + 1,.cons q t=>.cons q (Vals.set r i t)
theorem Vals.append:∀{xs ys:List V} {us ws:List Value},Vals xs us->Vals ys ws->Vals (xs ++ ys) (us ++ ws)
 |_,_,_,_,.nil,s=>s
 |_,_,_,_,.cons r t,s=>.cons r (Vals.append t s)
theorem Vals.take:∀{xs:List V} {us:List Value} (n:Nat),Vals xs us->Vals (xs.take n) (us.take n)
 |_,_,0,_=>.nil
 |_,_,_ + 1,.nil=>.nil
 |_,_,n + 1,.cons r t=>.cons r (Vals.take n t)
theorem Vals.drop:∀{xs:List V} {us:List Value} (n:Nat),Vals xs us->Vals (xs.drop n) (us.drop n)
 |_,_,0,r=>r
 |_,_,_ + 1,.nil=>.nil
 |_,_,n + 1,.cons _ t=>Vals.drop n t
def Du:Option V->Option Value->Prop
 |some v,some u=>RelV v u
 |none,none=>True
 |_,_=>False
def KV {κ:Type}:List (κ×V)->List (κ×Value)->Prop:=Paired λ(p:κ×V) (q:κ×Value)=>p.1=q.1/\RelV p.2 q.2
def kV:Key->V
 | .inl i=>.int i
 | .inr x=>.str x
inductive HO where
 |lst (xs:List V)
 |tup (xs:List V)
 |dK (kvs:List (Key×V)) |dT (kvs:List (List Key×V))
 |set (S:Int->Bool) (n:Nat)
 |ins (C dx:Addr) (fs:List (Str×V))
 |own (x:Addr)
 |xd (fs:List (Str×V))
 |met (f x:Addr)
 |fo (lo hi:Int)
 |a7 (o:Obj) (u:HO)
 |tbl (ps:Array Value)
 |ext (φ:Heap->Prop)
abbrev Hp:=Addr->Option HO
def upd (H:Hp)(a:Addr)(o:HO):Hp:=λb=>if b=a then some o else H b
def aq {H:Hp}{a:Addr}{o:HO}:upd H a o a=some o:=by unfold upd;rw[Jk rfl]
def aw {H:Hp}{a b:Addr}{o:HO}(h:b≠a):upd H a o b=H b:=by unfold upd;rw[Ju h]
def BZ {H:Hp}{a:Addr}{o u:HO}:upd (upd H a o) a u=upd H a u:=by
 funext b;unfold upd;split <;> rfl
def CL {H:Hp}{a b:Addr}{o u:HO}(h:H a=some o)(h':H b=some u)(d:o≠u):a≠b:=by
 intro e;subst e;rw[h] at h';exact d (Option.some.inj h')
def aE {H:Hp}{a b:Addr}{o:HO}(h:H a=some o)(h':H b=none):a≠b:=by
 intro e;subst e;rw[h] at h';cases h'
section
variable (P:Program)(w:World)
def mK (h:Heap)(a:Addr)(items:Array Value):Prop:=∃o,h.get? a=some o/\o.cls=.type "tuple"/\∃n,o.data=.seq items n/\o.dict=none
def mK.isTup {h:Heap}{a:Addr}{items:Array Value}(x:mK h a items):IsTup h a items:=let ⟨o,e,c,n,d,_⟩:=x;⟨o,e,c,n,d⟩
def mK.new (h:Heap)(items:Array Value):mK (h.push {cls:=.type "tuple",data:=.seq items}) h.objs.size items:=⟨_,Jt _ rfl,rfl,_,rfl,rfl⟩
def bP (H:Hp)(h:Heap)(a:Addr):HO->Prop
 | .lst xs=>xs.length<=sizeLine/\∃(its:List Value) (n:Nat),Vals xs its/\h.get? a=some {cls:=.type "list",data:=.seq its.toArray n}
 | .tup xs=>xs.length<=sizeLine/\∃its:List Value,Vals xs its/\mK h a its.toArray
 | .dK kvs=>kvs.length<=sizeLine/\(a == sysModules)=false/\∃vs,KV kvs vs/\h.DictOf (dR P w) a vs
 | .dT kvs=>kvs.length<=sizeLine/\(a == sysModules)=false/\∃xs:List (List Key×Addr×Value),
   Paired (λ(p:List Key×V) (q:List Key×Addr×Value)=>p.1=q.1/\(H q.2.1=some (.tup (p.1.map kV))\/∃o,H q.2.1=some (.a7 o (.tup (p.1.map kV))))/\RelV p.2 q.2.2) kvs xs/\
   ∃o es ep,h.get? a=some o/\o.ExactDict/\o.data=.dict es ep/\es.toList=xs.map (entryOfKey (tupleKind (dR P w)))/\(xs.map (·.1)).Nodup
 | .set S n=>h.SetOf (intKind P w) a S n
 | .ins C dx fs=>H dx=some (.own a)/\fs.length<=1000/\dx≠a/\h.get? a=some (PySem.W.instObj C dx)/\
   ∃mA,h.Ns1 dx mA/\(∀f,Du (fs.lookup f) (mA f))/\PySem.Within mA (fs.map (·.1))
 | .own _=>∃o,h.get? a=some o
 | .xd fs=>∃mA,h.Ns1 a mA/\∀f,Du (fs.lookup f) (mA f)
 | .fo lo hi=>∃t u v,h.get? a=some {cls:=.type "range",data:=.fields #[.int lo t,.int hi u,.int 1 v]}
 | .a7 o u=>h.get? a=some o/\bP H h a u
 | .tbl ps=>h.get? a=some {cls:=.none,data:=.fields ps}
 | .met f x=>h.get? a=some (PySem.W.methodObj (.ref f) (.ref x))
 | .ext φ=>φ h/\(∃o,h.get? a=some o)/\∀h1 h2:Heap,φ h1->(∀o,h1.get? a=some o->h2.get? a=some o)->φ h2
def ju (H:Hp)(h:Heap):Prop:=∀a o,H a=some o->bP P w H h a o
end
section
variable {P:Program}{w:World}{H H':Hp}{h h':Heap}{a:Addr}{o:HO}
theorem bP.lt (x:bP P w H h a o):a < h.objs.size:=by
 cases o with
 |lst xs=>obtain⟨_,_,_,_,e⟩:=x;exact Jm e
 |tup xs=>obtain⟨_,_,_,p⟩:=x;exact p.isTup.lt
 |dK kvs=>obtain⟨_,_,_,_,o,_,_,e,_⟩:=x;exact Jm e
 |dT kvs=>obtain⟨_,_,_,_,o,_,_,e,_⟩:=x;exact Jm e
 |set S n=>obtain⟨o,_,_,_,e,_⟩:=x;exact Jm e
 |ins C dx fs=>obtain⟨_,_,_,e,_⟩:=x;exact Jm e
 |own y=>obtain⟨_,e⟩:=x;exact Jm e
 |xd fs=>obtain⟨_,⟨_,_,_,e,_⟩,_⟩:=x;exact Jm e
 |fo lo hi=>obtain⟨_,_,_,e⟩:=x;exact Jm e
 |a7 ob u=>obtain⟨e,_⟩:=x;exact Jm e
 |tbl ps=>exact Jm (show h.get? a=some _ from x)
 |met f y=>exact Jm (show h.get? a=some _ from x)
 |ext φ=>obtain⟨_,⟨_,e⟩,_⟩:=x;exact Jm e
theorem Paired.mapP {α β:Type}{F G:α->β->Prop}:∀{l₁:List α} {l₂:List β},Paired F l₁ l₂->(∀a b,F a b->G a b)->Paired G l₁ l₂
 |_,_,.nil,_=>.nil
 |_,_,.cons r t,f=>.cons (f _ _ r) (Paired.mapP t f)
theorem bP.stay (x:bP P w H h a o)(k:∀b u,(b=a\/H b=some (.own a))->h.get? b=some u->h'.get? b=some u)
  (ho:∀b,H b=some (.own a)->H' b=some (.own a)) (ht:∀b xs,(H b=some (.tup xs)\/∃o,H b=some (.a7 o (.tup xs)))->(H' b=some (.tup xs)\/∃o,H' b=some (.a7 o (.tup xs)))):bP P w H' h' a o:=by
 induction o with
 |lst xs=>obtain⟨z,its,n,r,e⟩:=x;exact⟨z,its,n,r,k _ _ (.inl rfl) e⟩
 |tup xs=>obtain⟨z,its,r,ob,e,c⟩:=x;exact⟨z,its,r,ob,k _ _ (.inl rfl) e,c⟩
 |dK kvs=>obtain⟨z,y,vs,r,ob,es,ep,e,c⟩:=x;exact⟨z,y,vs,r,ob,es,ep,k _ _ (.inl rfl) e,c⟩
 |dT kvs=>
  obtain⟨z,y,xs,r,ob,es,ep,e,c⟩:=x
  exact⟨z,y,xs,Paired.mapP r λp q z=>⟨z.1,ht _ _ z.2.1,z.2.2⟩,ob,es,ep,k _ _ (.inl rfl) e,c⟩
 |set S n=>obtain⟨ob,es,ep,t,e,c⟩:=x;exact⟨ob,es,ep,t,k _ _ (.inl rfl) e,c⟩
 |ins C dx fs=>
  obtain⟨d,z,ne,e,mA,⟨od,es,ep,e2,c⟩,r⟩:=x
  exact⟨ho _ d,z,ne,k _ _ (.inl rfl) e,mA,⟨od,es,ep,k _ _ (.inr d) e2,c⟩,r⟩
 |own y=>obtain⟨ob,e⟩:=x;exact⟨ob,k _ _ (.inl rfl) e⟩
 |xd fs=>obtain⟨mA,⟨od,es,ep,e,c⟩,r⟩:=x;exact⟨mA,⟨od,es,ep,k _ _ (.inl rfl) e,c⟩,r⟩
 |fo lo hi=>obtain⟨t,u,v,e⟩:=x;exact⟨t,u,v,k _ _ (.inl rfl) e⟩
 |a7 ob u ih=>obtain⟨e,q⟩:=x;exact⟨k _ _ (.inl rfl) e,ih q⟩
 |tbl ps=>
  have e:h.get? a=some {cls:=.none,data:=.fields ps}:=x
  show h'.get? a=some {cls:=.none,data:=.fields ps}
  exact k a _ (.inl rfl) e
 |met f y=>
  have e:h.get? a=some (PySem.W.methodObj (.ref f) (.ref y)):=x
  show h'.get? a=some (PySem.W.methodObj (.ref f) (.ref y))
  exact k a _ (.inl rfl) e
 |ext φ=>obtain⟨p,⟨o,e⟩,st⟩:=x;exact⟨st _ _ p λo q=>k _ _ (.inl rfl) q,⟨o,k _ _ (.inl rfl) e⟩,st⟩
def ju.lt (x:ju P w H h)(e:H a=some o):a < h.objs.size:=(x a o e).lt
theorem ju.fresh (x:ju P w H h)(e:h.objs.size<=a):H a=none:=by
 cases q:H a with
 |none=>rfl
 |some u=>exact absurd (Jz (x.lt q) e) (JJ _)
def ju.kept (x:ju P w H h)(k:∀b u,h.get? b=some u->h'.get? b=some u):ju P w H h':=λa o e=>
 (x a o e).stay (λb u _ q=>k b u q) (λ_ q=>q) λ_ _ q=>q
def ju.laid (x:ju P w H h)(k:∀b u,h.get? b=some u->h'.get? b=some u)(hp:h.objs.size<=a)(new:bP P w (upd H a o) h' a o):ju P w (upd H a o) h':=λb u e=>by
 have hn:=x.fresh hp
 by_cases hb:b=a
 ·subst hb;rw[aq] at e;cases e;exact new
 ·rw[aw hb] at e
  exact (x b u e).stay (λc v _ q=>k c v q) (λc q=>by rw[aw (aE q hn)];exact q) λc xs q=>q.imp (λq=>by rw[aw (aE q hn)];exact q) λ⟨o,q⟩=>⟨o,by rw[aw (aE q hn)];exact q⟩
end
def Rd (H:Hp)(a:Addr)(u:HO):Prop:=H a=some u\/∃o,H a=some (.a7 o u)
def Rd.ok {P:Program}{w:World}{H:Hp}{h:Heap}{a:Addr}{u:HO}(r:Rd H a u)(x:ju P w H h):bP P w H h a u:=by
 rcases r with r | ⟨o,r⟩
 ·exact x a u r
 ·obtain⟨_,q⟩:=x a _ r
  exact q
def FX:Option HO->Prop
 |some (.lst _)=>True
 |some (.dK _)=>True
 |some (.dT _)=>True
 |some (.set _ _)=>True
 |some (.ins _ _ _)=>True
 |some (.ext _)=>True
 |_=>False
section
variable {P:Program}{w:World}{H:Hp}{h h':Heap}{x e:Addr}{o':HO}
def ju.write (ok:ju P w H h)(mu:FX (H x))(he:e=x\/H e=some (.own x))(k:∀b u,b≠e->h.get? b=some u->h'.get? b=some u)(heo:∃u,h'.get? e=some u)
  (new:bP P w (upd H x o') h' x o'):ju P w (upd H x o') h':=λb u q=>by
 have nown:∀c y,H c=some (.own y)->c≠x:=λc y r z=>by subst z;rw[r] at mu;exact mu
 have ntup:∀c xs,H c=some (.tup xs)->c≠x:=λc xs r z=>by subst z;rw[r] at mu;exact mu
 by_cases hb:b=x
 ·subst hb;rw[aq] at q;cases q;exact new
 ·rw[aw hb] at q
  by_cases hbe:b=e
  ·have q':H b=some (.own x):=by
    rcases he with z |z
    ·exact absurd (hbe.trans z) hb
    ·rw[hbe];exact z
   rw[q] at q';cases q'
   obtain⟨v,hv⟩:=heo
   exact⟨v,by rw[hbe];exact hv⟩
  ·refine (ok b u q).stay (λc v hc r=>k c v ?_ r) (λc r=>by rw[aw (nown c b r)];exact r) λc xs r=>r.imp (λr=>by rw[aw (ntup c xs r)];exact r) λ⟨o,r⟩=>⟨o,by rw[aw (λz=>by subst z;rw[r] at mu;exact mu)];exact r⟩
   rcases hc with rfl |hc
   ·exact hbe
   ·rintro rfl
    rcases he with z |z
    ·exact nown c b hc z
    ·rw[hc] at z;cases z;exact hb rfl
end
structure Un (fs ex:List Addr)(H H':Hp)(h h':Heap):Prop where
 keep:∀b o,h.get? b=some o->H b=none->b∉fs->b∉ex->h'.get? b=some o
 slot:∀b o,h.get? b=some o->H b=none->b∈fs->b∉ex->∃sl,h'.get? b=some {o with slots:=sl}
 free:∀b o,h.get? b=some o->H b=none->b∉ex->H' b=none
 there:∀b o,h.get? b=some o->b∉ex->∃o',h'.get? b=some o'
 tups:∀b xs,H b=some (.tup xs)->H' b=some (.tup xs)
 frzs:∀b o u,H b=some (.a7 o u)->H' b=some (.a7 o u)
 tbls:∀b ps,H b=some (.tbl ps)->∃more,H' b=some (.tbl (ps ++ more))
section
variable {fs fs' ex ex':List Addr}{H H1 H2:Hp}{h h1 h2 h':Heap}{a x e:Addr}{o:HO}
def Un.any (u:Un fs ex H H1 h h1){b:Addr}{ob:Obj}(q:h.get? b=some ob)(n:H b=none)(hx:b∉ex):∃sl,h1.get? b=some {ob with slots:=sl}:=by
 by_cases hb:b∈fs
 ·exact u.slot b ob q n hb hx
 ·exact⟨ob.slots,u.keep b ob q n hb hx⟩
def Un.kept (k:∀b u,h.get? b=some u->h'.get? b=some u):Un fs ex H H h h':=
 ⟨λb ob q _ _ _=>k b ob q,λb ob q _ _ _=>⟨ob.slots,k b ob q⟩,λ_ _ _ n _=>n,λb ob q _=>⟨ob,k b ob q⟩,λ_ _ q=>q,λ_ _ _ q=>q,λ_ ps q=>⟨#[],by rw[q];simp⟩⟩
def Un.refl:Un fs ex H H h h:=Un.kept λ_ _ q=>q
def Un.laid (k:∀b u,h.get? b=some u->h'.get? b=some u)(hp:h.objs.size<=a)(hn:H a=none):Un fs ex H (upd H a o) h h' where
 keep:=λb u q _ _ _=>k b u q
 slot:=λb u q _ _ _=>⟨u.slots,k b u q⟩
 free:=λb u q n _=>by rw[aw (JH (Jz (Jm q) hp))];exact n
 there:=λb u q _=>⟨u,k b u q⟩
 tups:=λb xs q=>by rw[aw (aE q hn)];exact q
 frzs:=λb u xs q=>by rw[aw (aE q hn)];exact q
 tbls:=λb ps q=>⟨#[],by rw[aw (aE q hn),q];simp⟩
def Un.write (mu:FX (H x))(he:e=x\/H e=some (.own x))(k:∀b u,b≠e->h.get? b=some u->h'.get? b=some u)(heo:∃u,h'.get? e=some u):Un fs ex H (upd H x o) h h':=by
 have hx:∀b,H b=none->b≠x:=λb n z=>by subst z;rw[n] at mu;exact mu
 have hb:∀b,H b=none->b≠e:=λb n z=>by
  subst z
  rcases he with r |r
  ·exact hx b n r
  ·rw[n] at r;cases r
 have hm:∀b u,H b=some u->¬FX (some u)->b≠x:=λb u q nm z=>by subst z;rw[q] at mu;exact nm mu
 refine⟨λb u q n _ _=>k b u (hb b n) q,λb u q n _ _=>⟨u.slots,k b u (hb b n) q⟩,λb u q n _=>by rw[aw (hx b n)];exact n,λb u q _=>?_,
  λb xs q=>by rw[aw (hm b _ q λz=>z)];exact q,λb u xs q=>by rw[aw (hm b _ q λz=>z)];exact q,λb ps q=>⟨#[],by rw[aw (hm b _ q λz=>z),q];simp⟩⟩
 by_cases hbe:b=e
 ·subst hbe;exact heo
 ·exact⟨u,k b u hbe q⟩
end
def GN (h:Heap)(H:Hp):List Addr:=(List.range h.objs.size).filter λa=>(H a).isSome
def rN (h:Heap)(H:Hp):Heap:=PySem.W.hideAll h (GN h H)
def yu (h:Heap)(H:Hp):(rN h H).objs.size=h.objs.size:=PySem.W.hideAll_size _ _
def yL {h:Heap}{H:Hp}{b:Addr}{o:Obj}(e:h.get? b=some o)(n:H b=none):(rN h H).get? b=some o:=
 PySem.W.hideAll_get _ e λhm=>by
  have q:(H b).isSome=true:=(J4.mp hm).2
  rw[n] at q;simp at q
theorem B6 {h:Heap}{H:Hp}{b:Addr}{o:Obj}(e:(rN h H).get? b=some o):h.get? b=some o/\H b=none:=by
 have e':h.get? b=some o:=PySem.W.of_hideAll (GN h H) e
 refine⟨e',?_⟩
 cases q:H b with
 |none=>rfl
 |some x=>
  have hm:b∈GN h H:=J4.mpr ⟨J6.mpr (Jm e'),by simp[q]⟩
  have z:(rN h H).get? b=none:=PySem.W.hideAll_none (GN h H) hm
  rw[z] at e;cases e
def B9 (g h:Heap)(L:Addr):List (Addr×Obj):=(List.range h.objs.size).filterMap λa=>if a=L\/(g.get? a).isSome=true then none else (h.get? a).map λo=>(a,o)
def rest (g h:Heap)(L d:Addr):List (Addr×Obj):=(B9 g h L).filter λp=>decide (p.1≠d)
structure Mod (K:Frag)(mg:Str->Option Value)(base:Heap):Prop where
 kin:K.In base
 glob:base.Ns mainGlobals mg
 blt:∃mb,base.Ns builtinsNs mb/\∀x:Str,x≠"__name__"->mb x=bootBuiltins x
 nolimit:base.NoLimit
 sys:∃mm,base.Ns sysModules mm
structure Cx where
 prog:Program
 w:World
 K:Frag
 mg:Str->Option Value
 base:Heap
 A:Around
 N:List Str
 s₀:Shared
 H₀:Hp
 env:Env
 outer:List Env
 stack:List Env
 ex:List Addr
 fn:Str->Bool
 calm:Bool
 pn:List (Addr×Obj)
 xe:Value->Shared->Prop
def dG (l:List Env):List Addr:=l.filterMap (·.frame)
abbrev Cx.fs (X:Cx):List Addr:=dG X.outer
def uf (sc:Scope)(x:Str):Prop:=sc.names.lookup x=some .local\/sc.names.lookup x=some .cell\/sc.names.lookup x=some .free
def Loc (sc:Scope)(x:Str):Prop:=sc.names.lookup x=some .local\/sc.names.lookup x=some .cell
def Look (env:Env)(h:Heap)(m:Str->Option Value)(x:Str)(u:Value):Prop:=
 (env.kindOf x=some .local/\m x=some u)\/((env.kindOf x=some .cell\/env.kindOf x=some .free)/\∃c,env.cells.lookup x=some c/\h.IsCell c (some u))
structure Cx.Ok (X:Cx):Prop where
 mod:Mod X.K X.mg X.base
 kind:X.env.scope.kind=.function
 glob:X.env.globals=mainGlobals
 blt:X.env.builtins=builtinsNs
 above:X.s₀.heap.objs.size<=X.env.locals
 inj:∀x y c,X.env.cells.lookup x=some c->X.env.cells.lookup y=some c->x=y
 has:∀x,(X.env.kindOf x=some .cell\/X.env.kindOf x=some .free)->∃c,X.env.cells.lookup x=some c
 cab:∀x c,X.fn x=true->X.env.cells.lookup x=some c->X.s₀.heap.objs.size<=c
 hd:X.calm=true->X.A.handled=none
 frames:X.A.frames=some X.stack
 stk:X.stack=X.outer\/(X.stack=X.env :: X.outer/\X.env.frame=some X.env.locals)
 exf:∀b∈X.ex,b≠X.env.locals/\∀x c,X.env.cells.lookup x=some c->c≠b
 bs:∀b o,X.base.get? b=some o->X.s₀.heap.get? b=some o/\X.H₀ b=none
 bsz:X.base.objs.size<=X.s₀.heap.objs.size
 noex:∀b o,X.base.get? b=some o->b∉X.ex
 exfs:∀b∈X.ex,b∉X.fs
 funs:X.s₀.heap.FunFrames X.base X.outer
 frf:∀b∈X.fs,X.H₀ b=none
structure Inv (X:Cx)(pins:List (Addr×Obj))(σ:List (Option V))(H:Hp)(s:Shared):Prop where
 ok:X.Ok
 os:s.os=X.s₀.os
 bare:AllBare s.gens
 base:Un X.fs X.ex X.H₀ H X.s₀.heap s.heap
 loc:∃m,s.heap.Ns X.env.locals m/\∀(i:Nat) (x:Str) (v:V),X.N[i]? =some x->σ[i]? =some (some v)->uf X.env.scope x->∃u,RelV v u/\Look X.env s.heap m x u
 cell:∀x c,X.env.cells.lookup x=some c->∃v,s.heap.IsCell c v
 free:H X.env.locals=none
 freeC:∀x c,X.env.cells.lookup x=some c->H c=none
 pin:∀p∈X.pn ++ pins,s.heap.get? p.1=some p.2/\H p.1=none/\p.1≠X.env.locals/\p.1∉X.fs/\∀v,p.2.data≠.cell v
 hok:ju X.prog X.w H s.heap
 len:σ.length=X.N.length
section
variable {X:Cx}{pins:List (Addr×Obj)}{σ:List (Option V)}{H H':Hp}{s:Shared}{h':Heap}
def Cx.Ok.nofr (ok:X.Ok){b:Addr}{o:Obj}(e:X.base.get? b=some o):b∉X.fs:=λhb=>by
 have:=(ok.funs.mem hb).1
 rw[e] at this;cases this
def Inv.bs (I:Inv X pins σ H s):∀b o,X.base.get? b=some o->s.heap.get? b=some o/\H b=none:=λb o e=>
 ⟨I.base.keep b o (I.ok.bs b o e).1 (I.ok.bs b o e).2 (I.ok.nofr e) (I.ok.noex b o e),I.base.free b o (I.ok.bs b o e).1 (I.ok.bs b o e).2 (I.ok.noex b o e)⟩
def Inv.bk (I:Inv X pins σ H s):∀b o,X.base.get? b=some o->s.heap.get? b=some o:=λb o e=>(I.bs b o e).1
def Inv.mod (I:Inv X pins σ H s):Mod X.K X.mg X.base:=I.ok.mod
def Inv.kIn (I:Inv X pins σ H s):X.K.In s.heap:=I.ok.mod.kin.keeps I.bk
def Inv.lt (I:Inv X pins σ H s):X.env.locals < s.heap.objs.size:=let ⟨_,hn,_⟩:=I.loc;hn.lt
def Inv.sz (I:Inv X pins σ H s):X.s₀.heap.objs.size<=s.heap.objs.size:=Kh I.ok.above (Lg I.lt)
def Inv.nofs (I:Inv X pins σ H s){a:Addr}(h:s.heap.objs.size<=a):a∉X.fs:=λhb=>by
 obtain⟨_,o,ho,_⟩:=I.ok.funs.mem hb
 exact absurd (Jz (Jm ho) (Kh I.sz h)) (JJ _)
def Inv.cne (I:Inv X pins σ H s):∀x c,X.env.cells.lookup x=some c->c≠X.env.locals:=λx c e z=>by
 obtain⟨v,o,ho,hd⟩:=I.cell x c e
 obtain⟨m,⟨o',es,ep,ho',hd',_⟩,_⟩:=I.loc
 rw[z,ho'] at ho;cases ho;rw[hd'] at hd;cases hd
def Inv.funs (I:Inv X pins σ H s):s.heap.FunFrames X.base X.outer:=by
 have all:∀(l:List Env),(∀b∈dG l,b∈X.fs)->X.s₀.heap.FunFrames X.base l->s.heap.FunFrames X.base l:=by
  intro l
  induction l with
  |nil=>intro _ _;trivial
  |cons env r ih=>
   intro hs hl
   obtain⟨hk,⟨L,o,hf,hn,ho,hd⟩,hr⟩:=hl
   have hL:L∈X.fs:=hs L (by unfold dG;rw[List.filterMap_cons,hf];exact JB)
   obtain⟨sl,e⟩:=I.base.slot L o ho (I.ok.frf L hL) hL λz=>I.ok.exfs L z hL
   exact⟨hk,⟨L,_,hf,hn,e,hd⟩,ih (λb hb=>hs b (by unfold dG;rw[List.filterMap_cons,hf];exact Jx _ hb)) hr⟩
 exact all X.outer (λ_ hb=>hb) I.ok.funs
def Inv.stack (I:Inv X pins σ H s):s.heap.FunFrames X.base X.stack:=by
 rcases I.ok.stk with e | ⟨e,hf⟩
 ·rw[e];exact I.funs
 ·rw[e]
  obtain⟨m,hn,_⟩:=I.loc
  refine .cons (by rw[I.ok.kind];decide) hf hn ?_ I.funs
  exact Heap.get?_none_of_le (Kh I.ok.bsz I.ok.above)
def Inv.stkSub (I:Inv X pins σ H s):∀b∈dG X.stack,b∈X.env.locals :: X.fs:=λb hb=>by
 rcases I.ok.stk with e | ⟨e,hf⟩
 ·rw[e] at hb;exact Jx _ hb
 ·rw[e] at hb
  unfold dG at hb
  rw[List.filterMap_cons,hf] at hb
  exact hb
def Inv.stkFree (I:Inv X pins σ H s):∀b∈dG X.stack,H b=none:=λb hb=>by
 rcases Jn.mp (I.stkSub b hb) with e |hb
 ·rw[e];exact I.free
 ·obtain⟨_,o,ho,_⟩:=I.ok.funs.mem hb
  exact I.base.free b o ho (I.ok.frf b hb) λz=>I.ok.exfs b z hb
def Inv.step {g':Array GenState}{t':Nat}{d':Drawn}{ch:List Addr}(I:Inv X pins σ H s)
  (hch:∀b∈ch,(b∈X.ex\/X.s₀.heap.objs.size<=b)/\b≠X.env.locals/\(∀x c,X.env.cells.lookup x=some c->c≠b)/\∀p∈X.pn ++ pins,p.1≠b)
  (keep:∀b o,b≠X.env.locals->b∉X.fs->b∉ch->s.heap.get? b=some o->H b=none->h'.get? b=some o)
  (slot:∀b o,b≠X.env.locals->b∈X.fs->b∉ch->s.heap.get? b=some o->H b=none->∃sl,h'.get? b=some {o with slots:=sl}) (free:∀b o,b∉ch->s.heap.get? b=some o->H b=none->H' b=none)
  (there:∀b o,b∉ch->s.heap.get? b=some o->∃o',h'.get? b=some o')
  (tups:∀b xs,H b=some (.tup xs)->H' b=some (.tup xs)) (frzs:∀b o u,H b=some (.a7 o u)->H' b=some (.a7 o u)) (tbls:∀b ps,H b=some (.tbl ps)->∃more,H' b=some (.tbl (ps ++ more)))
  (ns:∀m,s.heap.Ns X.env.locals m->h'.Ns X.env.locals m) (hok:ju X.prog X.w H' h') (hg:AllBare g') :
  Inv X pins σ H' {s with heap:=h',gens:=g',drawn:=d',toks:=t'}:=by
 have neL:∀b o,X.s₀.heap.get? b=some o->b≠X.env.locals:=λb o e=>JH (Jz (Jm e) I.ok.above)
 have neC:∀b o,X.s₀.heap.get? b=some o->b∉X.ex->b∉ch:=λb o e hx hb=>by
  rcases (hch b hb).1 with z |z
  ·exact hx z
  ·exact absurd (Jz (Jm e) z) (JJ _)
 have cellK:∀x c,X.env.cells.lookup x=some c->∀v,s.heap.IsCell c v->h'.IsCell c v:=λx c e v ⟨o,ho,hd⟩=>by
  have nch:c∉ch:=λz=>(hch c z).2.2.1 x c e rfl
  by_cases hc:c∈X.fs
  ·obtain⟨sl,q⟩:=slot c o (I.cne x c e) hc nch ho (I.freeC x c e)
   exact⟨_,q,hd⟩
  ·exact⟨o,keep c o (I.cne x c e) hc nch ho (I.freeC x c e),hd⟩
 refine⟨I.ok,I.os,hg,⟨λb o e n hb hx=>?_,λb o e n hb hx=>?_,λb o e n hx=>?_,λb o e hx=>?_,λb xs e=>tups b xs (I.base.tups b xs e),λb o xs e=>frzs b o xs (I.base.frzs b o xs e),λb ps e=>?_⟩,?_,λx c e=>?_,?_,λx c e=>?_,λp hp=>?_,hok,I.len⟩
 ·exact keep b o (neL b o e) hb (neC b o e hx) (I.base.keep b o e n hb hx) (I.base.free b o e n hx)
 ·obtain⟨sl,e1⟩:=I.base.slot b o e n hb hx
  obtain⟨sl',e2⟩:=slot b _ (neL b o e) hb (neC b o e hx) e1 (I.base.free b o e n hx)
  exact⟨sl',e2⟩
 ·obtain⟨o',e1⟩:=I.base.there b o e hx
  exact free b o' (neC b o e hx) e1 (I.base.free b o e n hx)
 ·obtain⟨o',e1⟩:=I.base.there b o e hx
  exact there b o' (neC b o e hx) e1
 ·obtain⟨m1,e1⟩:=I.base.tbls b ps e
  obtain⟨m2,e2⟩:=tbls b _ e1
  exact⟨m1 ++ m2,by rw[e2,Array.append_assoc]⟩
 ·obtain⟨m,hn,hl⟩:=I.loc
  refine⟨m,ns m hn,λi x v e1 e2 e3=>?_⟩
  obtain⟨u,r,l⟩:=hl i x v e1 e2 e3
  refine⟨u,r,?_⟩
  rcases l with l | ⟨k,c,e,z⟩
  ·exact .inl l
  ·exact .inr ⟨k,c,e,cellK x c e _ z⟩
 ·obtain⟨v,z⟩:=I.cell x c e
  exact⟨v,cellK x c e v z⟩
 ·obtain⟨m,⟨o,_,_,ho,_⟩,_⟩:=I.loc
  exact free _ o (λz=>(hch _ z).2.1 rfl) ho I.free
 ·obtain⟨v,o,ho,hd⟩:=I.cell x c e
  exact free c o (λz=>(hch c z).2.2.1 x c e rfl) ho (I.freeC x c e)
 ·obtain⟨e,n,ne,nf,d⟩:=I.pin p hp
  have nch:p.1∉ch:=λz=>(hch p.1 z).2.2.2 p hp rfl
  exact⟨keep p.1 p.2 ne nf nch e n,free p.1 p.2 nch e n,ne,nf,d⟩
def Inv.un {t':Nat}(I:Inv X pins σ H s)(u:Un X.fs [] H H' s.heap h')(hok:ju X.prog X.w H' h'):Inv X pins σ H' {s with heap:=h',toks:=t'}:=by
 obtain⟨m,⟨o,es,ep,ho,r⟩,_⟩:=id I.loc
 obtain⟨sl,hL⟩:=u.any ho I.free (by simp)
 exact I.step (g':=s.gens) (d':=s.drawn) (ch:=[]) (λ_ z=>nomatch z) (λb o _ hb _ e n=>u.keep b o e n hb (by simp)) (λb o _ hb _ e n=>u.slot b o e n hb (by simp)) (λb o _ e n=>u.free b o e n (by simp)) (λb o _ e=>u.there b o e (by simp)) u.tups u.frzs u.tbls (λm' hm=>by
  obtain⟨o',es',ep',ho',r'⟩:=hm
  rw[ho] at ho';cases ho'
  exact⟨_,es',ep',hL,r'⟩) hok I.bare
def Inv.call {g':Array GenState}{t':Nat}{d':Drawn}{ch:List Addr}(I:Inv X pins σ H s)(u:Un (dG X.stack) ch H H' s.heap h')(hok:ju X.prog X.w H' h')(hg:AllBare g')
  (hch:∀b∈ch,(b∈X.ex\/X.s₀.heap.objs.size<=b)/\b≠X.env.locals/\(∀x c,X.env.cells.lookup x=some c->c≠b)/\∀p∈X.pn ++ pins,p.1≠b) :
  Inv X pins σ H' {s with heap:=h',gens:=g',drawn:=d',toks:=t'}:=by
 obtain⟨m,⟨o,es,ep,ho,r⟩,_⟩:=id I.loc
 obtain⟨sl,hL⟩:=u.any ho I.free λz=>(hch _ z).2.1 rfl
 exact I.step (ch:=ch) hch (λb o hL hb hc e n=>u.keep b o e n (λz=>(Jn.mp (I.stkSub b z)).elim hL hb) hc) (λb o _ _ hc e n=>u.any e n hc) (λb o hc e n=>u.free b o e n hc) (λb o hc e=>u.there b o e hc) u.tups u.frzs u.tbls (λm' hm=>by
  obtain⟨o',es',ep',ho',r'⟩:=hm
  rw[ho] at ho';cases ho'
  exact⟨_,es',ep',hL,r'⟩) hok hg
def Inv.turned {t':Nat}{it:Addr}(I:Inv X pins σ H s)(k:∀b o,b≠it->s.heap.get? b=some o->h'.get? b=some o)(hn:H it=none)(hL:it≠X.env.locals)
  (h1:it∈X.ex\/X.s₀.heap.objs.size<=it) (h2:∀x c,X.env.cells.lookup x=some c->c≠it) (h3:∀p∈X.pn ++ pins,p.1≠it):Inv X pins σ H {s with heap:=h',toks:=t'}:=by
 have nit:∀b u,H b=some u->b≠it:=λb u e z=>by rw[z,hn] at e;cases e
 refine I.step (g':=s.gens) (d':=s.drawn) (ch:=[it]) (λb hb=>?_) (λb o _ _ hc e _=>k b o (λz=>hc (by simp[z])) e) (λb o _ _ hc e _=>⟨o.slots,k b o (λz=>hc (by simp[z])) e⟩) (λ_ _ _ _ n=>n)
  (λb o hc e=>⟨o,k b o (λz=>hc (by simp[z])) e⟩) (λ_ _ e=>e) (λ_ _ _ e=>e) (λb ps e=>⟨#[],by rw[e];simp⟩) (λm hm=>?_) (λb u e=>?_) I.bare
 ·have e:b=it:=by simpa using hb
  subst e
  exact⟨h1,hL,h2,h3⟩
 ·obtain⟨o,es,ep,ho,r⟩:=hm
  exact⟨o,es,ep,k _ o (Ne.symm hL) ho,r⟩
 ·refine (I.hok b u e).stay (λc v hc q=>k c v ?_ q) (λ_ q=>q) λ_ _ q=>q
  rcases hc with z |z
  ·rw[z];exact nit b u e
  ·exact nit c _ z
def Inv.tok (I:Inv X pins σ H s)(t:Nat):Inv X pins σ H {s with toks:=t}:=I.un (h':=s.heap) (t':=t) Un.refl I.hok
def Inv.kept {t':Nat}(I:Inv X pins σ H s)(k:∀b u,s.heap.get? b=some u->h'.get? b=some u):Inv X pins σ H {s with heap:=h',toks:=t'}:=I.un (Un.kept k) (I.hok.kept k)
def Inv.laid {a:Addr}{o:HO}{t':Nat}(I:Inv X pins σ H s)(k:∀b u,s.heap.get? b=some u->h'.get? b=some u)(hp:s.heap.objs.size<=a)(new:bP X.prog X.w (upd H a o) h' a o) :
  Inv X pins σ (upd H a o) {s with heap:=h',toks:=t'}:=I.un (Un.laid k hp (I.hok.fresh hp)) (I.hok.laid k hp new)
def Inv.write {x e:Addr}{o:HO}{t':Nat}(I:Inv X pins σ H s)(mu:FX (H x))(he:e=x\/H e=some (.own x))(k:∀b u,b≠e->s.heap.get? b=some u->h'.get? b=some u)(heo:∃u,h'.get? e=some u)
  (new:bP X.prog X.w (upd H x o) h' x o):Inv X pins σ (upd H x o) {s with heap:=h',toks:=t'}:=I.un (Un.write mu he k heo) (I.hok.write mu he k heo new)
def Inv.pins_of {pins':List (Addr×Obj)}(I:Inv X pins σ H s)(h:∀p∈pins',s.heap.get? p.1=some p.2/\H p.1=none/\p.1≠X.env.locals/\p.1∉X.fs/\∀v,p.2.data≠.cell v):Inv X pins' σ H s:=
 ⟨I.ok,I.os,I.bare,I.base,I.loc,I.cell,I.free,I.freeC,λp hp=>(JT.mp hp).elim (λz=>I.pin p (K0 _ z)) (h p),I.hok,I.len⟩
def lF {N:List Str}(hN:N.Nodup){i j:Nat}{x:Str}(a:N[i]? =some x)(b:N[j]? =some x):i=j:=by
 obtain⟨h1,e1⟩:=Jw.mp a
 obtain⟨h2,e2⟩:=Jw.mp b
 exact (List.getElem_inj hN).mp (e1.trans e2.symm)
def pN {M:Model}{A:Around}{E:Value->Shared->Prop}{i:Nat}{x:Str}{v:V}{u:Value}{Q:Unit->Shared->Prop}(I:Inv X pins σ H s)(hN:X.N.Nodup)(hi:X.N[i]? =some x)(hx:Loc X.env.scope x)(r:RelV v u)
  (h:∀s',Inv X pins (σ.set i (some v)) H s'->(∃a,Heap.SameBut a s.heap s'.heap/\(a=X.env.locals\/X.env.cells.lookup x=some a))->Q () s') (hf:X.fn x=true\/X.env.scope.names.lookup x=some .local:=by first |exact .inl rfl |exact .inr rfl |assumption):wpAny M A (storeName X.env x u) Q E s:=by
 obtain⟨m,hn,hl⟩:=id I.loc
 have hcls:(X.env.scope.kind == .class || (X.env.scope.kind == .module && X.env.locals != X.env.globals))=false:=by rw[I.ok.kind];rfl
 have hiσ:i < σ.length:=by rw[I.len];exact (Jw.mp hi).1
 have cne:=I.cne
 have tracked:∀{a:Addr} {h':Heap},(∃o,s.heap.get? a=some o/\H a=none)->Heap.SameBut a s.heap h'->ju X.prog X.w H h':=λ{a h'} ha hs b ob e=>by
  obtain⟨_,_,hfree⟩:=ha
  refine (I.hok b ob e).stay (λc w' hc q=>(hs.2 c ?_).trans q) (λ_ q=>q) λ_ _ q=>q
  rintro rfl
  rcases hc with rfl |hc
  ·rw[hfree] at e;cases e
  ·rw[hfree] at hc;cases hc
 rcases hx with hk |hk
 ·refine wpAny_storeName_local hk hn (λh' hn' hs=>?_) hcls
  obtain⟨oL,_,_,hoL,_⟩:=id hn
  refine h _ ⟨I.ok,I.os,I.bare,⟨λb o e n hb hx=>?_,λb o e n hb hx=>?_,I.base.free,λb o e hx=>?_,I.base.tups,I.base.frzs,I.base.tbls⟩,⟨_,hn',λj y v' e1 e2 e3=>?_⟩,λy c e=>?_,I.free,I.freeC,λp hp=>?_,tracked ⟨oL,hoL,I.free⟩ hs,by simpa using I.len⟩ ⟨_,hs,.inl rfl⟩
  ·exact (hs.2 b (JH (Jz (Jm e) I.ok.above))).trans (I.base.keep b o e n hb hx)
  ·obtain⟨sl,e1⟩:=I.base.slot b o e n hb hx
   exact⟨sl,(hs.2 b (JH (Jz (Jm e) I.ok.above))).trans e1⟩
  ·obtain⟨o',e1⟩:=I.base.there b o e hx
   exact⟨o',(hs.2 b (JH (Jz (Jm e) I.ok.above))).trans e1⟩
  ·by_cases hj:j=i
   ·subst hj
    rw[hi] at e1;cases e1
    rw[Jq hiσ] at e2
    cases e2
    exact⟨u,r,.inl ⟨hk,by simp⟩⟩
   ·rw[Js (Ne.symm hj)] at e2
    obtain⟨u',r',q⟩:=hl j y v' e1 e2 e3
    refine⟨u',r',?_⟩
    rcases q with⟨k,e⟩ | ⟨k,c,e,z⟩
    ·refine .inl ⟨k,?_⟩
     have:y≠x:=λe=>hj (lF hN e1 (e▸hi))
     simp[this,e]
    ·exact .inr ⟨k,c,e,z.sameBut hs (cne y c e)⟩
  ·obtain⟨w',z⟩:=I.cell y c e
   exact⟨w',z.sameBut hs (cne y c e)⟩
  ·obtain⟨e,n,ne,nf,d⟩:=I.pin p hp
   exact⟨(hs.2 p.1 ne).trans e,n,ne,nf,d⟩
 ·have hfn:X.fn x=true:=by
   rcases hf with z |z
   ·exact z
   ·rw[z] at hk;cases hk
  obtain⟨c,hc⟩:=I.ok.has x (.inl hk)
  obtain⟨w',z⟩:=I.cell x c hc
  refine wpAny_storeName_cell I.ok.kind hk hc z (λh' hc' hs=>?_)
  obtain⟨oc,hoc,hocd⟩:=id z
  refine h {s with heap:=h'} ⟨I.ok,I.os,I.bare,⟨λb o e n hb hx=>?_,λb o e n hb hx=>?_,I.base.free,λb o e hx=>?_,I.base.tups,I.base.frzs,I.base.tbls⟩,⟨m,hn.sameBut hs (Ne.symm (cne x c hc)),λj y v' e1 e2 e3=>?_⟩,λy c' e=>?_,I.free,I.freeC,λp hp=>?_,tracked ⟨oc,hoc,I.freeC x c hc⟩ hs,by simpa using I.len⟩ ⟨c,hs,.inr hc⟩
  ·exact (hs.2 b (JH (Jz (Jm e) (I.ok.cab x c hfn hc)))).trans (I.base.keep b o e n hb hx)
  ·obtain⟨sl,e1⟩:=I.base.slot b o e n hb hx
   exact⟨sl,(hs.2 b (JH (Jz (Jm e) (I.ok.cab x c hfn hc)))).trans e1⟩
  ·obtain⟨o',e1⟩:=I.base.there b o e hx
   exact⟨o',(hs.2 b (JH (Jz (Jm e) (I.ok.cab x c hfn hc)))).trans e1⟩
  ·by_cases hj:j=i
   ·subst hj
    rw[hi] at e1;cases e1
    rw[Jq hiσ] at e2
    cases e2
    exact⟨u,r,.inr ⟨.inl hk,c,hc,hc'⟩⟩
   ·rw[Js (Ne.symm hj)] at e2
    obtain⟨u',r',q⟩:=hl j y v' e1 e2 e3
    refine⟨u',r',?_⟩
    rcases q with q | ⟨k,c',e,z'⟩
    ·exact .inl q
    ·refine .inr ⟨k,c',e,z'.sameBut hs ?_⟩
     rintro rfl
     exact hj (lF hN e1 (I.ok.inj _ _ _ e hc▸hi))
  ·by_cases hcc:c'=c
   ·subst hcc;exact⟨_,hc'⟩
   ·obtain⟨w2,z2⟩:=I.cell y c' e
    exact⟨w2,z2.sameBut hs hcc⟩
  ·obtain⟨e,n,ne,nf,d⟩:=I.pin p hp
   refine⟨(hs.2 p.1 ?_).trans e,n,ne,nf,d⟩
   intro q
   rw[q,hoc] at e
   have q':oc=p.2:=Option.some.inj e
   exact d w' (by rw[<-q'];exact hocd)
def iJ {M:Model}{A:Around}{E:Value->Shared->Prop}{i:Nat}{x:Str}{v:V}{u:Value}{Q:Unit->Shared->Prop}(I:Inv X pins σ H s)(hN:X.N.Nodup)(hi:X.N[i]? =some x)(hx:Loc X.env.scope x)(r:RelV v u)
  (h:∀s',Inv X pins (σ.set i (some v)) H s'->Q () s') (hf:X.fn x=true\/X.env.scope.names.lookup x=some .local:=by first |exact .inl rfl |exact .inr rfl |assumption):wpAny M A (storeName X.env x u) Q E s:=
 pN I hN hi hx r (λs' I' _=>h s' I') hf
def Inv.call' {s':Shared}{ch:List Addr}(I:Inv X pins σ H s)(ho:s'.os=s.os)(u:Un (dG X.stack) ch H H' s.heap s'.heap)(hok:ju X.prog X.w H' s'.heap)(hg:AllBare s'.gens)
  (hch:∀b∈ch,(b∈X.ex\/X.s₀.heap.objs.size<=b)/\b≠X.env.locals/\(∀x c,X.env.cells.lookup x=some c->c≠b)/\∀p∈X.pn ++ pins,p.1≠b):Inv X pins σ H' s':=by
 obtain⟨h',g',d',t',o'⟩:=s'
 have e:o'=s.os:=ho
 subst e
 exact I.call (g':=g') (t':=t') (d':=d') u hok hg hch
end
abbrev XK:=Value->Option Addr->Hp->Prop
abbrev St:=List (Option V)
abbrev VK:=V->Hp->Prop
abbrev TE:=St->Hp->VK->Prop
abbrev TT:=St->Hp->(Bool->Hp->Prop)->Prop
abbrev TA:=St->Hp->(List V->Hp->Prop)->Prop
structure Ends where
 nx:St->Hp->Prop
 rt:VK
 bk:St->Hp->Prop:=λ_ _=>False
 ct:St->Hp->Prop:=λ_ _=>False
abbrev TS:=Ends->St->Hp->Prop
def EP (X:Cx)(pins:List (Addr×Obj))(σ:St)(Q:VK)(u:Value)(s':Shared):Prop:=∃v H',Inv X pins σ H' s'/\RelV v u/\Q v H'
def TP (X:Cx)(pins:List (Addr×Obj))(σ:St)(Q:Bool->Hp->Prop)(b:Bool)(s':Shared):Prop:=∃H',Inv X pins σ H' s'/\Q b H'
def AP (X:Cx)(pins:List (Addr×Obj))(σ:St)(Q:List V->Hp->Prop)(us:List Value)(s':Shared):Prop:=∃vs H',Inv X pins σ H' s'/\Vals vs us/\Q vs H'
def SP (X:Cx)(pins:List (Addr×Obj))(D:Ends)(f:Flow)(s':Shared):Prop:=
 match f with
 | .next=>∃σ' H',Inv X pins σ' H' s'/\D.nx σ' H'
 | .brk=>∃σ' H',Inv X pins σ' H' s'/\D.bk σ' H'
 | .cont=>∃σ' H',Inv X pins σ' H' s'/\D.ct σ' H'
 | .ret u=>∃v σ' H',Inv X pins σ' H' s'/\RelV v u/\D.rt v H'
def PE (X:Cx)(e:Expr)(t:TE):Prop:=
 ∀(pins:List (Addr×Obj)) (s:Shared) (σ:St) (H:Hp) (Q:VK),Inv X pins σ H s->t σ H Q->wpAny (model X.prog X.w) X.A (eval e X.env) (EP X pins σ Q) X.xe s
def PT (X:Cx)(e:Expr)(t:TT):Prop:=
 ∀(pins:List (Addr×Obj)) (s:Shared) (σ:St) (H:Hp) (Q:Bool->Hp->Prop),Inv X pins σ H s->t σ H Q->wpAny (model X.prog X.w) X.A (isTrue e X.env (eval e X.env)) (TP X pins σ Q) X.xe s
def PW (X:Cx)(e:Expr)(t:TT):Prop:=
 ∀(whole:Sem Value) (pins:List (Addr×Obj)) (s:Shared) (σ:St) (H:Hp) (Q:Bool->Hp->Prop),Inv X pins σ H s->t σ H Q->wpAny (model X.prog X.w) X.A (isTrue e X.env whole) (TP X pins σ Q) X.xe s
def PW.pt {X:Cx}{e:Expr}{t:TT}(h:PW X e t):PT X e t:=h _
def PA (X:Cx)(es:List Expr)(t:TA):Prop:=
 ∀(pos:Pos) (pins:List (Addr×Obj)) (s:Shared) (σ:St) (H:Hp) (Q:List V->Hp->Prop),Inv X pins σ H s->t σ H Q->wpAny (model X.prog X.w) X.A (spliced (backTo pos (starEach es X.env))) (AP X pins σ Q) X.xe s
def PS (X:Cx)(st:Stmt)(t:TS):Prop:=
 ∀(pins:List (Addr×Obj)) (s:Shared) (σ:St) (H:Hp) (D:Ends),Inv X pins σ H s->t D σ H->wpAny (model X.prog X.w) X.A (exec st X.env) (SP X pins D) X.xe s
def me (X:Cx)(st:List Stmt)(t:TS):Prop:=
 ∀(pins:List (Addr×Obj)) (s:Shared) (σ:St) (H:Hp) (D:Ends),Inv X pins σ H s->t D σ H->wpAny (model X.prog X.w) X.A (execs st X.env) (SP X pins D) X.xe s
def bW {α:Type}{t:Sem α}{Q Q':α->Shared->Prop}{M:Model}{A:Around}{E:Value->Shared->Prop}{s:Shared}(h:wpAny M A t Q E s)(hQ:∀a s,Q a s->Q' a s):wpAny M A t Q' E s:=J9 h hQ λ_ _ x=>x
section
variable {X:Cx}
def bin {a b:Expr}{ta tb:TE}(ha:PE X a ta)(hb:PE X b tb){pins:List (Addr×Obj)}{s:Shared}{σ:St}{H:Hp}{R:V->V->Hp->Prop}(I:Inv X pins σ H s)(h:ta σ H λx H1=>tb σ H1 λy H2=>R x y H2)
  {α:Type} {Q:α->Shared->Prop} {f:Value->Value->Sem α}
  (hf:∀v u s2 x y H2,Inv X pins σ H2 s2->RelV x v->RelV y u->R x y H2->wpAny (model X.prog X.w) X.A (f v u) Q X.xe s2) :
  wpAny (model X.prog X.w) X.A (eval a X.env) (λv s₁=>wpAny (model X.prog X.w) X.A (eval b X.env) (λu s₂=>wpAny (model X.prog X.w) X.A (f v u) Q X.xe s₂) X.xe s₁) X.xe s:=by
 refine bW (ha pins s σ H _ I h) λv s1 ⟨x,H1,I1,r1,q1⟩=>?_
 refine bW (hb pins s1 σ H1 _ I1 q1) λu s2 ⟨y,H2,I2,r2,q2⟩=>?_
 exact hf v u s2 x y H2 I2 r1 r2 q2
def yj (i:Nat):TE:=λσ H Q=>∃v,σ[i]? =some (some v)/\Q v H
def tC (v:V):TE:=λ_ H Q=>Q v H
def gC {i:Nat}{x:Str}{pos:Pos}(hN:X.N[i]? =some x)(hv:uf X.env.scope x)(hd:(x == ("__debug__":Str))=false:=by decide)(hcd:(x == ("__classdict__":Str))=false:=by decide):PE X (.Name x pos) (yj i):=by
 intro pins s σ H Q I h
 obtain⟨v,e,h⟩:=h
 obtain⟨m,hn,hl⟩:=I.loc
 obtain⟨u,r,l⟩:=hl i x v hN e hv
 have fin:EP X pins σ Q u s:=⟨v,H,I,r,h⟩
 rcases l with⟨hk,hm⟩ | ⟨hk,c,hc,hcell⟩
 ·exact wpAny_Name (wpAny_loadName_local I.ok.kind hk hn hm fin) hd
 ·rcases hk with hk |hk
  ·exact wpAny_Name (wpAny_loadName_cell I.ok.kind hk hc hcell fin) hd
  ·exact wpAny_Name (wpAny_loadName_free I.ok.kind hk hc hcell fin hcd) hd
def lI {i j pos}:PE X (.Constant (.int i) j pos) (tC (.int i)):=λ_ _ _ H _ I h=>wpAny_Constant_int ⟨.int i,H,I.tok _,⟨_,rfl⟩,h⟩
def tO {b j pos}:PE X (.Constant (.bool b) j pos) (tC (.bl b)):=λ_ _ _ H _ I h=>Constant_bool ⟨.bl b,H,I,rfl,h⟩
def C4 {j pos}:PE X (.Constant .none j pos) (tC .non):=λ_ _ _ H _ I h=>Constant_none ⟨.non,H,I,rfl,h⟩
def zh {x j pos}:PE X (.Constant (.str x) j pos) (tC (.str x)):=λ_ _ _ H _ I h=>Calls.Constant_str ⟨.str x,H,I.tok _,⟨_,rfl⟩,h⟩
def Gl (X:Cx)(x:Str):Prop:=X.env.kindOf x=some .globalImplicit
def j5 {E:Value->Shared->Prop}{pins:List (Addr×Obj)}{s:Shared}{σ:St}{H:Hp}{x:Str}{u:Value}{pos:Pos}{Q:Value->Shared->Prop}(I:Inv X pins σ H s)(hg:Gl X x)(hm:X.mg x=some u)(h:Q u s)
  (hd:(x == ("__debug__":Str))=false:=by decide):wpAny (model X.prog X.w) X.A (eval (.Name x pos) X.env) Q E s:=
 Calls.Name_function_global I.ok.kind hg (Calls.loadGlobal_global (by rw[I.ok.glob];exact I.mod.glob.keeps I.bk) hm h) hd
def kR {E:Value->Shared->Prop}{pins:List (Addr×Obj)}{s:Shared}{σ:St}{H:Hp}{x:Str}{u:Value}{pos:Pos}{Q:Value->Shared->Prop}(I:Inv X pins σ H s)(hg:Gl X x)(hm:X.mg x=none)(hv:bootBuiltins x=some u)(h:Q u s)
  (hn:x≠"__name__":=by decide) (hd:(x == ("__debug__":Str))=false:=by decide):wpAny (model X.prog X.w) X.A (eval (.Name x pos) X.env) Q E s:=by
 obtain⟨mb,h1,h2⟩:=I.mod.blt
 exact Calls.Name_function_global I.ok.kind hg (Calls.loadGlobal_builtin (by rw[I.ok.glob];exact I.mod.glob.keeps I.bk) hm (by rw[I.ok.blt];exact h1.keeps I.bk) ((h2 x hn).trans hv) h) hd
def bV {x:Str}{v:V}{u:Value}{pos:Pos}(hg:Gl X x)(hm:X.mg x=some u)(r:RelV v u)(hd:(x == ("__debug__":Str))=false:=by decide):PE X (.Name x pos) (tC v):=
 λ_ _ _ H _ I h=>j5 I hg hm ⟨v,H,I,r,h⟩ hd
def we {x:Str}{v:V}{u:Value}{pos:Pos}(hg:Gl X x)(hm:X.mg x=none)(hv:bootBuiltins x=some u)(r:RelV v u)(hn:x≠"__name__":=by decide)(hd:(x == ("__debug__":Str))=false:=by decide):PE X (.Name x pos) (tC v):=
 λ_ _ _ H _ I h=>kR I hg hm hv ⟨v,H,I,r,h⟩ hn hd
variable {a b:Expr}{ta tb:TE}{pos:Pos}
def PC (X:Cx)(op:CmpOp)(a b:Expr)(t:TE):Prop:=
 ∀(pins:List (Addr×Obj)) (s:Shared) (σ:St) (H:Hp) (Q:VK),Inv X pins σ H s->t σ H Q->
  wpAny (model X.prog X.w) X.A (eval a X.env) (λv s₁=>wpAny (model X.prog X.w) X.A (eval b X.env) (λu s₂=>wpAny (model X.prog X.w) X.A (compareOp op v u) (EP X pins σ Q) X.xe s₂) X.xe s₁) X.xe s
def tB (t:TE):TT:=λσ H Q=>t σ H λx H1=>∃c,x=.bl c/\Q c H1
def HN {op:CmpOp}{t:TE}(h:PC X op a b t)(h1:behindInMarks op b=false:=by first |exact nobehind _ (by decide) (by decide) |rfl):PT X (.Compare a [op] [b] pos) (tB t):=by
 intro pins s σ H Q I hw
 refine wpAny_isTrue_Compare1 (bW (h pins s σ H _ I hw) λv s1 h1=>bW h1 λu s2 h2=>bW h2 λc s3 ⟨x,H1,I1,r1,q1⟩=>?_) h1
 obtain⟨d,rfl,q⟩:=q1
 cases r1
 exact Ke ⟨H1,I1,q⟩
def lU {e:Expr}{t:TE}(h:PE X e t)(he:∀whole,isTrue e X.env whole=(do let v <-whole;standAt e.pos;holding [v] (truthy v)):=by intro _;rfl):PT X e (tB t):=by
 intro pins s σ H Q I hw
 refine isTrue_plain (bW (h pins s σ H _ I hw) λv s1 ⟨x,H1,I1,r1,q1⟩=>?_) (he _)
 obtain⟨d,rfl,q⟩:=q1
 cases r1
 exact Ke ⟨H1,I1,q⟩
variable {tA tB':TT}{rest:List Expr}
def HM (t u:TT):TT:=λσ H Q=>t σ H λc H1=>if c=true then u σ H1 Q else Q false H1
def Jc (t u:TT):TT:=λσ H Q=>t σ H λc H1=>if c=true then Q true H1 else u σ H1 Q
def Hf (t:TT):TT:=λσ H Q=>t σ H λc H1=>Q (!c) H1
theorem wy (ha:PT X a tA):PW X (.BoolOp .And [a] pos) tA:=by
 intro wh pins s σ H Q I h
 refine isTrue_and (bW (ha pins s σ H Q I h) λc s1 e=>?_)
 cases c with
 |true=>exact isTrue_and_nil e
 |false=>exact e
theorem z7 (ha:PT X a tA):PW X (.BoolOp .Or [a] pos) tA:=by
 intro wh pins s σ H Q I h
 refine isTrue_or (bW (ha pins s σ H Q I h) λc s1 e=>?_)
 cases c with
 |false=>exact isTrue_or_nil e
 |true=>exact e
theorem Ae (ha:PT X a tA)(hb:PW X (.BoolOp .And (b :: rest) pos) tB'):PW X (.BoolOp .And (a :: b :: rest) pos) (HM tA tB'):=by
 intro wh pins s σ H Q I h
 refine isTrue_and (bW (ha pins s σ H _ I h) λc s1 ⟨H1,I1,q1⟩=>?_)
 cases c with
 |true=>exact hb wh pins s1 σ H1 Q I1 q1
 |false=>exact⟨H1,I1,q1⟩
theorem CH (ha:PT X a tA)(hb:PW X (.BoolOp .Or (b :: rest) pos) tB'):PW X (.BoolOp .Or (a :: b :: rest) pos) (Jc tA tB'):=by
 intro wh pins s σ H Q I h
 refine isTrue_or (bW (ha pins s σ H _ I h) λc s1 ⟨H1,I1,q1⟩=>?_)
 cases c with
 |true=>exact⟨H1,I1,q1⟩
 |false=>exact hb wh pins s1 σ H1 Q I1 q1
def vp (ha:PT X a tA):PT X (.UnaryOp .Not a pos) (Hf tA):=by
 intro pins s σ H Q I h
 exact isTrue_not (ha pins s σ H (λc H1=>Q (!c) H1) I h)
def FL (ta tb:TE):TE:=λσ H Q=>ta σ H λx H1=>∃c,x=.bl c/\if c=true then tb σ H1 Q else Q (.bl false) H1
def Ga (ta:TE):TE:=λσ H Q=>ta σ H λx H1=>∃c,x=.bl c/\Q (.bl (!c)) H1
def D1 {op}{t:TE}(h:PE X a t):PE X (.BoolOp op [a] pos) t:=λpins s σ H Q I hw=>BoolOp_one (h pins s σ H Q I hw)
theorem Dv (ha:PE X a ta)(hb:PE X (.BoolOp .And (b :: rest) pos) tb):PE X (.BoolOp .And (a :: b :: rest) pos) (FL ta tb):=by
 intro pins s σ H Q I h
 refine BoolOp_and (bW (ha pins s σ H _ I h) λv s1 ⟨x,H1,I1,r1,q1⟩=>?_)
 obtain⟨c,rfl,q1⟩:=q1
 cases r1
 refine Ke ?_
 cases c with
 |true=>exact hb pins s1 σ H1 Q I1 q1
 |false=>exact⟨.bl false,H1,I1,rfl,q1⟩
def El (ha:PE X a ta):PE X (.UnaryOp .Not a pos) (Ga ta):=by
 intro pins s σ H Q I h
 refine UnaryOp_ (bW (ha pins s σ H _ I h) λv s1 ⟨x,H1,I1,r1,q1⟩=>?_)
 obtain⟨c,rfl,q1⟩:=q1
 cases r1
 exact not_of (Ke ⟨.bl (!c),H1,I1,rfl,q1⟩)
end
def fP (K:Frag)(H:Hp)(a:Addr)(xs:List V):Prop:=
 Rd H a (.lst xs)\/
  ∃(o:Obj) (its:Array Value) (n:Nat),K.lookup a=some o/\o.cls=.type "list"/\o.dict=none/\o.data=.seq its n/\its.size<=sizeLine/\Vals xs its.toList
def dW (K:Frag)(H:Hp)(a:Addr)(xs:List V):Prop:=
 Rd H a (.tup xs)\/
  ∃(o:Obj) (its:Array Value) (n:Nat),K.lookup a=some o/\o.cls=.type "tuple"/\o.data=.seq its n/\its.size<=sizeLine/\Vals xs its.toList/\o.dict=none
def Ij:Value->Option V
 | .none=>some .non
 | .bool b=>some (.bl b)
 | .int i _=>some (.int i)
 | .str x _=>some (.str x)
 | .bytes b _=>some (.byt b)
 | .float b _=>some (.flt b)
 | .ref a=>some (.ref a)
 | .type n=>some (.ty n)
 |_=>none
theorem RelV.abs {x:V}{u:Value}(r:RelV x u):Ij u=some x:=by
 cases x with
 |non=>cases r;rfl
 |bl _=>cases r;rfl
 |int _=>obtain⟨t,rfl⟩:=r;rfl
 |str _=>obtain⟨t,rfl⟩:=r;rfl
 |byt _=>obtain⟨t,rfl⟩:=r;rfl
 |flt _=>obtain⟨t,rfl⟩:=r;rfl
 |ref _=>cases r;rfl
 |ty _=>cases r;rfl
def RelV.inj {x y:V}{u:Value}(r:RelV x u)(q:RelV y u):x=y:=Option.some.inj (r.abs.symm.trans q.abs)
theorem Vals.inj:∀{xs ys:List V} {us:List Value},Vals xs us->Vals ys us->xs=ys
 |_,_,_,.nil,.nil=>rfl
 |_,_,_,.cons r t,.cons r' t'=>by rw[r.inj r',Vals.inj t t']
section
variable {X:Cx}{pins:List (Addr×Obj)}{σ:St}{H:Hp}{s:Shared}{a:Addr}{xs ys:List V}
def Inv.list (I:Inv X pins σ H s)(h:fP X.K H a xs):∃its:List Value,Vals xs its/\PlainL s.heap a its.toArray/\xs.length<=sizeLine:=by
 rcases h with h | ⟨o,its,n,hk,hc,hd,hs,hz,r⟩
 ·obtain⟨z,its,n,r,e⟩:=h.ok I.hok
  exact⟨its,r,⟨_,n,e,rfl,rfl,rfl⟩,z⟩
 ·refine⟨its.toList,r,⟨o,n,I.kIn a o hk,hc,hd,by simpa using hs⟩,?_⟩
  have e:=r.length
  simp only[Array.length_toList] at e
  omega
def Inv.tuple (I:Inv X pins σ H s)(h:dW X.K H a xs):∃its:List Value,Vals xs its/\IsTup s.heap a its.toArray/\xs.length<=sizeLine:=by
 rcases h with h | ⟨o,its,n,hk,hc,hs,hz,r,_⟩
 ·obtain⟨z,its,r,p⟩:=h.ok I.hok
  exact⟨its,r,p.isTup,z⟩
 ·refine⟨its.toList,r,⟨o,I.kIn a o hk,hc,n,by simpa using hs⟩,?_⟩
  have e:=r.length
  simp only[Array.length_toList] at e
  omega
def Inv.list_inj (I:Inv X pins σ H s)(h:fP X.K H a xs)(h':fP X.K H a ys):xs=ys:=by
 obtain⟨its,r,⟨o,n,e,_,_,d⟩,_⟩:=I.list h
 obtain⟨its',r',⟨o',n',e',_,_,d'⟩,_⟩:=I.list h'
 rw[e] at e';cases e'
 rw[d] at d'
 injection d' with d1 _
 have:its=its':=by simpa using congrArg Array.toList d1
 subst this
 exact r.inj r'
def Inv.tuple_inj (I:Inv X pins σ H s)(h:dW X.K H a xs)(h':dW X.K H a ys):xs=ys:=by
 obtain⟨its,r,⟨o,e,_,n,d⟩,_⟩:=I.tuple h
 obtain⟨its',r',⟨o',e',_,n',d'⟩,_⟩:=I.tuple h'
 rw[e] at e';cases e'
 rw[d] at d'
 injection d' with d1 _
 have:its=its':=by simpa using congrArg Array.toList d1
 subst this
 exact r.inj r'
end
abbrev Cx.wish (X:Cx)(E:Value->Shared->Prop):Cx:={X with xe:=E}
abbrev Cx.nox (X:Cx):Cx:=X.wish λ_ _=>False
def Cx.Ok.wish {X:Cx}(ok:X.Ok)(E:Value->Shared->Prop):(X.wish E).Ok:=
 ⟨ok.mod,ok.kind,ok.glob,ok.blt,ok.above,ok.inj,ok.has,ok.cab,ok.hd,ok.frames,ok.stk,ok.exf,ok.bs,ok.bsz,ok.noex,ok.exfs,ok.funs,ok.frf⟩
def Cx.Ok.unwish {X:Cx}{E:Value->Shared->Prop}(ok:(X.wish E).Ok):X.Ok:=
 ⟨ok.mod,ok.kind,ok.glob,ok.blt,ok.above,ok.inj,ok.has,ok.cab,ok.hd,ok.frames,ok.stk,ok.exf,ok.bs,ok.bsz,ok.noex,ok.exfs,ok.funs,ok.frf⟩
section
variable {X:Cx}{pins:List (Addr×Obj)}{σ:St}{H:Hp}{s:Shared}{E:Value->Shared->Prop}
def Inv.wish (I:Inv X pins σ H s)(E:Value->Shared->Prop):Inv (X.wish E) pins σ H s:=⟨I.ok.wish E,I.os,I.bare,I.base,I.loc,I.cell,I.free,I.freeC,I.pin,I.hok,I.len⟩
def Inv.unwish (I:Inv (X.wish E) pins σ H s):Inv X pins σ H s:=⟨I.ok.unwish,I.os,I.bare,I.base,I.loc,I.cell,I.free,I.freeC,I.pin,I.hok,I.len⟩
theorem SP.unwish {D:Ends}{f:Flow}{s':Shared}(h:SP (X.wish E) pins D f s'):SP X pins D f s':=by
 cases f with
 |next=>obtain⟨σ',H',I,q⟩:=h;exact⟨σ',H',I.unwish,q⟩
 |brk=>obtain⟨σ',H',I,q⟩:=h;exact⟨σ',H',I.unwish,q⟩
 |cont=>obtain⟨σ',H',I,q⟩:=h;exact⟨σ',H',I.unwish,q⟩
 |ret u=>obtain⟨v,σ',H',I,r,q⟩:=h;exact⟨v,σ',H',I.unwish,r,q⟩
def me.nox {st:List Stmt}{t:TS}(h:me X.nox st t):me X st t:=λpins s σ H D I hw=>
 J9 (h pins s σ H D (I.wish _) hw) (λ_ _ q=>q.unwish) λ_ _ z=>False.elim z
end
section
variable {X:Cx}{st:Stmt}{rest:List Stmt}{t u:TS}{e:Expr}{te:TE}{pos:Pos}
def Fm:TS:=λD σ H=>D.nx σ H
def HG (t u:TS):TS:=λD σ H=>t {D with nx:=u D} σ H
def qB:me X [] Fm:=λ_ _ σ H _ I h=>K8 ⟨σ,H,I,h⟩
theorem cR (h1:PS X st t)(h2:me X rest u):me X (st :: rest) (HG t u):=by
 intro pins s σ H D I h
 refine wpAny_execs_cons (bW (h1 pins s σ H {D with nx:=u D} I h) λf s1 q=>?_)
 cases f with
 |next=>
  obtain⟨σ',H',I',q⟩:=q
  exact h2 pins s1 σ' H' D I' q
 |ret v=>exact q
 |brk=>exact q
 |cont=>exact q
theorem dk (h1:PS X st t):me X [st] t:=by
 intro pins s σ H D I h
 refine wpAny_execs_cons (bW (h1 pins s σ H D I h) λf s1 q=>?_)
 cases f with
 |next=>exact K8 q
 |ret v=>exact q
 |brk=>exact q
 |cont=>exact q
def Inv.quiet {pins:List (Addr×Obj)}{σ:St}{H:Hp}{s:Shared}(I:Inv X pins σ H s):interactive X.env=false:=by simp[interactive,I.ok.kind]
def E3 (te:TE):TS:=λD σ H=>te σ H λ_ H1=>D.nx σ H1
def qQ (he:PE X e te)(hs:swapsWith e none pos.line X.env=pure false:=by rfl):PS X (.Expr e pos) (E3 te):=by
 intro pins s σ H D I h
 exact wpAny_Expr_any (bW (he pins s σ H _ I h) λv s1 ⟨x,H1,I1,r1,q1⟩=>⟨σ,H1,I1,q1⟩) I.quiet hs
def Im (te:TE):TS:=λD σ H=>te σ H D.rt
def hX (he:PE X e te):PS X (.Return (some e) pos) (Im te):=by
 intro pins s σ H D I h
 exact wpAny_Return_some (bW (he pins s σ H _ I h) λv s1 ⟨x,H1,I1,r1,q1⟩=>⟨x,σ,H1,I1,r1,q1⟩)
def Ho (c:TT)(t u:TS):TS:=λD σ H=>c σ H λb H1=>if b=true then t D σ H1 else u D σ H1
theorem zi {c:Expr}{a b:List Stmt}{tc:TT}(hc:PT X c tc)(ha:me X a t)(hb:me X b u):PS X (.If c a b pos) (Ho tc t u):=by
 intro pins s σ H D I h
 refine wpAny_If (bW (hc pins s σ H _ I h) λd s1 ⟨H1,I1,q1⟩=>?_)
 cases d with
 |true=>exact ha pins s1 σ H1 D I1 q1
 |false=>exact hb pins s1 σ H1 D I1 q1
end
abbrev TG:=V->St->Hp->(St->Hp->Prop)->Prop
abbrev EE:=List V->St->Hp->(St->Hp->Prop)->Prop
def PG (X:Cx)(target:Expr)(t:TG):Prop:=
 ∀(pins:List (Addr×Obj)) (s:Shared) (σ:St) (H:Hp) (v:V) (u:Value) (Q:St->Hp->Prop),Inv X pins σ H s->RelV v u->t v σ H Q->
  wpAny (model X.prog X.w) X.A (assign target X.env u) (λ_ s'=>∃σ' H',Inv X pins σ' H' s'/\Q σ' H') X.xe s
def GL (X:Cx)(ts:List Expr)(t:EE):Prop:=
 ∀(pins:List (Addr×Obj)) (s:Shared) (σ:St) (H:Hp) (vs:List V) (us:List Value) (Q:St->Hp->Prop),Inv X pins σ H s->Vals vs us->t vs σ H Q->
  wpAny (model X.prog X.w) X.A (assignInOrder ((assignEach ts X.env).map (·.2)) us) (λ_ s'=>∃σ' H',Inv X pins σ' H' s'/\Q σ' H') X.xe s
abbrev C5:=V->V->V->Hp->(Hp->Prop)->Prop
def Gv (X:Cx)(t:C5):Prop:=
 ∀(pins:List (Addr×Obj)) (s:Shared) (σ:St) (H:Hp) (o i v:V) (ov iv u:Value) (Q:Hp->Prop),Inv X pins σ H s->RelV o ov->RelV i iv->RelV v u->t o i v H Q->
  wpAny (model X.prog X.w) X.A (setItem ov iv u) (λ_ s'=>∃H',Inv X pins σ H' s'/\Q H') X.xe s
section
variable {X:Cx}{pos:Pos}
def jr (i:Nat):TG:=λv σ H Q=>Q (σ.set i (some v)) H
def cu {i:Nat}{x:Str}(hN:X.N.Nodup)(hi:X.N[i]? =some x)(hx:Loc X.env.scope x)(hf:X.fn x=true\/X.env.scope.names.lookup x=some .local:=by first |exact .inl rfl |exact .inr rfl |assumption):PG X (.Name x pos) (jr i):=by
 intro pins s σ H v u Q I r h
 exact wpAny_assign_Name (iJ I hN hi hx r (λs' I'=>⟨_,H,I',h⟩) hf)
def Bq:EE:=λvs σ H Q=>vs= []/\Q σ H
def nH (t:TG)(u:EE):EE:=λvs σ H Q=>∃v r,vs=v :: r/\t v σ H λσ' H'=>u r σ' H' Q
def lH:GL X [] Bq:=by
 intro pins s σ H vs us Q I r h
 obtain⟨e,h⟩:=h
 subst e
 cases r
 exact assignInOrder_nil ⟨σ,H,I,h⟩
theorem cY {e:Expr}{es:List Expr}{t:TG}{u:EE}(h1:PG X e t)(h2:GL X es u)
  (hs:(assignEach (e :: es) X.env).map (·.2)=assign e X.env :: (assignEach es X.env).map (·.2):=by rfl):GL X (e :: es) (nH t u):=by
 intro pins s σ H vs us Q I r h
 obtain⟨v,vr,e1,h⟩:=h
 subst e1
 cases r with
 |cons r rr=>
  rw[hs]
  refine assignInOrder_cons (bW (h1 pins s σ H _ _ _ I r h) λ_ s1 ⟨σ1,H1,I1,q1⟩=>?_)
  exact h2 pins s1 σ1 H1 _ _ Q I1 rr q1
def Bz (K:Frag)(n:Nat)(t:EE):TG:=λv σ H Q=>∃a xs,v=.ref a/\dW K H a xs/\xs.length=n/\t xs σ H Q
def nN {es:List Expr}{k:Nat}{t:EE}{n:Nat}(hc:X.calm=true)(h:GL X es t)
  (hn:(assignEach es X.env).length=n:=by rfl) (hst:(assignEach es X.env).findIdx? (·.1)=none:=by rfl):PG X (.Tuple es k pos) (Bz X.K n t):=by
 intro pins s σ H v u Q I r hw
 obtain⟨a,xs,e1,hq,hl,hw⟩:=hw
 subst e1
 cases r
 obtain⟨its,rv,ht,hz⟩:=I.tuple hq
 refine assign_Tuple_tuple (I.ok.hd hc) ht (by simp[hn,<-hl,rv.length]) hst λh' hx=>?_
 have I1:Inv X pins σ H {s with heap:=h'}:=I.kept (t':=s.toks) λb o e=>hx b o (JH (Jm e)) e
 exact h pins _ σ H xs _ Q I1 (by simpa using rv) hw
def IB (to ti:TE)(t:C5):TG:=λv σ H Q=>to σ H λo H1=>ti σ H1 λi H2=>t o i v H2 λH3=>Q σ H3
def qV {o i:Expr}{to ti:TE}{t:C5}(ho:PE X o to)(hi:PE X i ti)(hs:Gv X t)
  (ha:∀v,assign (.Subscript o i pos) X.env v=(do
   let ov <-holding [v] (eval o X.env)
   let iv <-holding [v,ov] (eval i X.env)
   standAt pos
   holding [v,ov,iv] (setItem ov iv v)
   release [v,ov,iv] []):=by intro _;rfl):PG X (.Subscript o i pos) (IB to ti t):=by
 intro pins s σ H v u Q I r h
 rw[ha]
 refine Ji (K4 (bW (ho pins s σ H _ I h) λov s1 ⟨x,H1,I1,r1,q1⟩=>?_))
 refine Ji (K4 (bW (hi pins s1 σ H1 _ I1 q1) λiv s2 ⟨y,H2,I2,r2,q2⟩=>?_))
 refine Ji (wpAny_standAt (Ji (K4 (bW (hs pins s2 σ H2 x y v ov iv u _ I2 r1 r2 r q2) λ_ s3 ⟨H3,I3,q3⟩=>?_))))
 exact wpAny_release ⟨σ,H3,I3,q3⟩
def FO (te:TE)(g:TG):TS:=λD σ H=>te σ H λx H1=>g x σ H1 D.nx
def nX {tg e:Expr}{te:TE}{g:TG}(he:PE X e te)(hg:PG X tg g)(hs:swapsWithSole [tg] e pos.line X.env=pure false:=by rfl)(hw:swappedStores [tg] e X.env=pure none:=by rfl)
  (h1:(assignEach [tg] X.env).map (·.2)= [assign tg X.env]:=by rfl):PS X (.Assign [tg] e pos) (FO te g):=by
 intro pins s σ H D I h
 refine wpAny_Assign_stores (bW (he pins s σ H _ I h) λv s1 ⟨x,H1,I1,r1,q1⟩=>?_) hs hw
 rw[h1]
 exact bW (hg pins s1 σ H1 x v _ I1 r1 q1) λ_ s2 q=>q
def jB {i:Nat}{x:Str}{e:Expr}{te:TE}{pos':Pos}(hN:X.N.Nodup)(hi:X.N[i]? =some x)(hx:Loc X.env.scope x)(he:PE X e te)(hs:swapsWith e (some (.Name x pos')) pos.line X.env=pure false:=by rfl)(hf:X.fn x=true\/X.env.scope.names.lookup x=some .local:=by first |exact .inl rfl |exact .inr rfl |assumption) :
  PS X (.Assign [.Name x pos'] e pos) (FO te (jr i)):=by
 intro pins s σ H D I h
 refine wpAny_Assign_Name (bW (he pins s σ H _ I h) λv s1 ⟨y,H1,I1,r1,q1⟩=>?_) hs
 exact iJ I1 hN hi hx r1 (λs2 I2=>⟨_,H1,I2,q1⟩) hf
def Ip (i j:Nat)(ta:TA):TS:=λD σ H=>ta σ H λvs H1=>∃v w,vs= [v,w]/\D.nx ((σ.set i (some v)).set j (some w)) H1
def Dz {i j:Nat}{x y:Str}{a b:Expr}{ta:TA}{px py pt:Pos}{kt k2 pt2}(hc:X.calm=true)(hN:X.N.Nodup)(hi:X.N[i]? =some x)(hj:X.N[j]? =some y)(hij:i≠j)
  (hx:X.env.scope.names.lookup x=some .local) (hy:X.env.scope.names.lookup y=some .local) (ha:PA X [a,b] ta)
  (hw:swappedStores [.Tuple [.Name x px,.Name y py] kt pt] (.Tuple [a,b] k2 pt2) X.env=pure (some [x,y]))
  (hs:swapsWithSole [.Tuple [.Name x px,.Name y py] kt pt] (.Tuple [a,b] k2 pt2) pos.line X.env=pure false:=by rfl) :
  PS X (.Assign [.Tuple [.Name x px,.Name y py] kt pt] (.Tuple [a,b] k2 pt2) pos) (Ip i j ta):=by
 intro pins s σ H D I h
 rw[exec_Assign_arm]
 refine Ji (wpAny_standAt ?_)
 rw[hs]
 refine Ji (Jp ?_)
 rw[Ju (by decide)]
 refine Ji (Tuple_ (bW (ha _ pins s σ H _ I h) λus s1 ⟨vs,H1,I1,r1,q1⟩=>?_))
 obtain⟨v,w,e1,q1⟩:=q1
 subst e1
 obtain⟨u1,u2,rfl,rv,rw'⟩:∃u1 u2,us= [u1,u2]/\RelV v u1/\RelV w u2:=by
  cases r1 with
  |cons p q=>
   cases q with
   |cons p' q'=>
    cases q'
    exact⟨_,_,rfl,p,p'⟩
 refine JU ?_ (by show 2<=sizeLine;decide)
 have I2:Inv X pins σ H1 {s1 with heap:=s1.heap.push {cls:=.type "tuple",data:=.seq [u1,u2].toArray}}:=I1.kept (t':=s1.toks) λb o e=>Jj _ e
 rw[hw]
 refine Ji (Jp ?_)
 show wpAny (model X.prog X.w) X.A (do rule "assign.swapped-stores";let items <-unpackItems (.ref s1.heap.objs.size) 2 none;assignInOrder [λv=>bindName X.env y v,λv=>bindName X.env x v] items.reverse;pure Flow.next) _ _ _
 refine Ji (wpAny_rule (Ji (unpackItems_tuple (items:=#[u1,u2]) (I.ok.hd hc) (IsTup.new s1.heap _) λh' hx'=>?_)))
 have I3:=I2.kept (h':=h') (t':=s1.toks) λb o e=>hx' b o (JH (Jm e)) e
 show wpAny _ _ (assignInOrder [λv=>bindName X.env y v,λv=>bindName X.env x v] [u2,u1] >>= λ_=>pure Flow.next) _ _ _
 refine Ji (assignInOrder_cons (wpAny_bindName (iJ I3 hN hj (.inl hy) rw' (λs2 I4=>?_) (.inr hy))))
 refine assignInOrder_cons (wpAny_bindName (iJ I4 hN hi (.inl hx) rv (λs3 I5=>assignInOrder_nil (Jp ?_)) (.inr hx)))
 rw[List.set_comm _ _ (Ne.symm hij)] at I5
 exact⟨_,H1,I5,q1⟩
end
section
variable {X:Cx}{pos:Pos}
def EF (c:TT)(tb:TS):TS:=λD σ H=>∃W:Nat->St->Hp->Prop,(∃m,W m σ H)/\∀m σ H,W m σ H->
 c σ H λb H1=>if b=true then ∃N:St->Hp->Prop,(∀σ' H',N σ' H'->∃m',m' < m/\W m' σ' H')/\tb {D with nx:=N,ct:=N,bk:=D.nx} σ H1 else D.nx σ H1
theorem yM {c:Expr}{body:List Stmt}{tc:TT}{tb:TS}(hp:PassesOwn (model X.prog X.w) X.A X.env X.xe)(hc:PT X c tc)(hb:me X body tb):PS X (.While c body [] pos) (EF tc tb):=by
 intro pins s σ H D I h
 obtain⟨W,⟨m0,w0⟩,turn⟩:=h
 refine wpAny_While (codeAny_whileLoop (λn s'=>∃σ' H',Inv X pins σ' H' s'/\W n σ' H') ?_ m0 ⟨σ,H,I,w0⟩)
 rintro n s1 ⟨σ1,H1,I1,w1⟩
 refine Ky hp (bW (hc pins s1 σ1 H1 _ I1 (turn n σ1 H1 w1)) λb s2 ⟨H2,I2,q2⟩=>?_)
 cases b with
 |true=>
  obtain⟨N,hN,q2⟩:=q2
  rw[Jk rfl]
  refine Ky hp (bW (hb pins s2 σ1 H2 _ I2 q2) λf s3 q3=>?_)
  cases f with
  |next=>
   obtain⟨σ3,H3,I3,n3⟩:=q3
   obtain⟨m',hm,w3⟩:=hN σ3 H3 n3
   exact⟨m',hm,σ3,H3,I3,w3⟩
  |cont=>
   obtain⟨σ3,H3,I3,n3⟩:=q3
   obtain⟨m',hm,w3⟩:=hN σ3 H3 n3
   exact⟨m',hm,σ3,H3,I3,w3⟩
  |brk=>exact q3
  |ret v=>exact q3
 |false=>
  rw[Ju JA]
  exact K8 ⟨σ1,H2,I2,q2⟩
end
structure It where
 go:Nat->Hp->Prop
 yld:Nat->Hp->V->Hp->Prop
 stop:Nat->Hp->Prop
def iN (X:Cx)(pins:List (Addr×Obj))(H:Hp)(b:Addr):Prop:=
 H b=none/\b≠X.env.locals/\b∉X.fs/\(b∈X.ex\/X.s₀.heap.objs.size<=b)/\(∀x c,X.env.cells.lookup x=some c->c≠b)/\∀p∈X.pn ++ pins,p.1≠b
def Inv.fpOk {X:Cx}{pins:List (Addr×Obj)}{σ:St}{H H':Hp}{s:Shared}{b:Addr}(I:Inv X pins σ H s)(hb:s.heap.objs.size<=b)(hn:H' b=none):iN X pins H' b:=by
 refine⟨hn,Nat.ne_of_gt (Jz I.lt hb),I.nofs hb,.inr (Kh I.sz hb),λx c e z=>?_,λp hp z=>?_⟩
 ·obtain⟨v,q⟩:=I.cell x c e
  exact absurd (Jz q.lt (by rw[z];exact hb)) (JJ _)
 ·exact absurd (Jz (Jm (I.pin p hp).1) (by rw[z];exact hb)) (JJ _)
structure Turn (P:Program)(w:World)(K:Frag)(tg:Expr)(J:It)(fp:List Addr)(it:Addr)(tn:Nat->Heap->Prop):Prop where
 mem:it∈fp
 obj:∀i h,tn i h->∀b∈fp,∃o,h.get? b=some o/\∀v,o.data≠.cell v
 keep:∀i h h',tn i h->(∀b∈fp,∀o,h.get? b=some o->h'.get? b=some o)->tn i h'
 item:∀(X:Cx),X.prog=P->X.w=w->X.K=K->X.calm=true->∀(i:Nat) (pins:List (Addr×Obj)) (s:Shared) (σ:St) (H:Hp) (E:Value->Shared->Prop),Inv X pins σ H s->(∀b∈fp,iN X pins H b)->tn i s.heap->J.go i H->
  wpAny (model P w) X.A (pyNext (.ref it)) (λr s1=>∃u,r=some u/\
   wpAny (model P w) X.A (letOwnedTupleGo tg (.ref it) u) (λ_ s2=>∃x H',Inv X pins σ H' s2/\RelV x u/\J.yld i H x H'/\tn (i + 1) s2.heap/\∀b∈fp,H' b=none) E s1) E s
 done:∀(X:Cx),X.prog=P->X.w=w->X.K=K->X.calm=true->∀(i:Nat) (pins:List (Addr×Obj)) (s:Shared) (σ:St) (H:Hp) (E:Value->Shared->Prop),Inv X pins σ H s->(∀b∈fp,iN X pins H b)->tn i s.heap->J.stop i H->
  wpAny (model P w) X.A (pyNext (.ref it)) (λr s1=>r=none/\Inv X pins σ H s1) E s
 self:∀(A:Around) (i:Nat) (s:Shared) (Q:Value->Shared->Prop) (E:Value->Shared->Prop),tn i s.heap->Q (.ref it) s->wpAny (model P w) A (pyIter (.ref it)) Q E s
abbrev TI:=St->Hp->(It->Hp->Prop)->Prop
def IQ (X:Cx)(pins:List (Addr×Obj))(σ:St)(tg:Expr)(R:It->Hp->Prop)(itv:Value)(s2:Shared):Prop:=
 ∃(it:Addr) (fp:List Addr) (tn:Nat->Heap->Prop) (J:It) (H':Hp),itv=.ref it/\Inv X pins σ H' s2/\Turn X.prog X.w X.K tg J fp it tn/\tn 0 s2.heap/\(∀b∈fp,iN X pins H' b)/\R J H'
def PI (X:Cx)(tg iter:Expr)(wi:TI):Prop:=
 ∀(pins:List (Addr×Obj)) (s:Shared) (σ:St) (H:Hp) (R:It->Hp->Prop),Inv X pins σ H s->wi σ H R->
  wpAny (model X.prog X.w) X.A (eval iter X.env) (λv s1=>wpAny (model X.prog X.w) X.A (pyIter v) (IQ X pins σ tg R) X.xe s1) X.xe s
def vO {M:Model}{A:Around}{E:Value->Shared->Prop}{s:Shared}{tg:Expr}{it:Addr}{u:Value}{o:Obj}{n:String}{vs:Array Value}{Q:Unit->Shared->Prop}(ho:s.heap.get? it=some o)(hc:o.cls=.type n)(hd:o.data=.fields vs)
  (hn: ["enumerate","zip","dict_itemiterator","dict_reverseitemiterator","odict_iterator","itertools.zip_longest","itertools.pairwise"].contains n=false) (hQ:Q () s):wpAny M A (letOwnedTupleGo tg (.ref it) u) Q E s:=by
 unfold letOwnedTupleGo
 cases tg <;> first
  |exact Jp hQ
  | (cases u <;> first
    |exact Jp hQ
    | (refine Ji (wpAny_load ho ?_)
       rw[hc,hd]
       show wpAny M A (if (["enumerate","zip","dict_itemiterator","dict_reverseitemiterator","odict_iterator","itertools.zip_longest","itertools.pairwise"].contains n && vs[0]? == some (rawInt _))=true then _ else _) Q E s
       rw[Ju (by intro h;rw[hn,Bool.false_and] at h;cases h)]
       exact Jp hQ))
def yr (K:Frag)(a:Addr):It:=
 ⟨λi H=>∃xs x,fP K H a xs/\xs[i]? =some x,λi H x H'=>H'=H/\∀xs,fP K H a xs->xs[i]? =some x,λi H=>∃xs,fP K H a xs/\xs.length<=i⟩
def CG (K:Frag)(a:Addr):It:=
 ⟨λi H=>∃xs x,dW K H a xs/\xs[i]? =some x,λi H x H'=>H'=H/\∀xs,dW K H a xs->xs[i]? =some x,λi H=>∃xs,dW K H a xs/\xs.length<=i⟩
def vH (lo:Int)(n:Nat):It:=⟨λi _=>i < n,λi H x H'=>H'=H/\x=.int (lo + i),λi _=>n<=i⟩
def lW {P:Program}{w:World}{K:Frag}{tg:Expr}(a it:Addr):Turn P w K tg (yr K a) [it] it (λi h=>h.IsListIter it a i) where
 mem:=by simp
 obj:=λi h st b hb=>by
  have e:b=it:=by simpa using hb
  subst e
  obtain⟨o,e,c,d⟩:=st
  exact⟨o,e,λv z=>by rw[d] at z;cases z⟩
 keep:=λi h h' st k=>st.at λo e=>k it (by simp) o e
 item:=by
  intro X hP hw hK hc i pins s σ H E I hf st hg
  subst hP hw hK
  obtain⟨xs,x,hq,hx⟩:=hg
  obtain⟨its,rv,p,hz⟩:=I.list hq
  obtain⟨u,hu,ru⟩:=rv.get hx
  obtain⟨f0,f1,f2,f3,f4,f5⟩:=hf it (by simp)
  refine wpAny_pyNext_list_item st p.isList (x:=u) (by simpa using hu) λh' st' sb=>?_
  have I1:Inv X pins σ H {s with heap:=h'}:=I.turned (t':=s.toks) (λb o hb e=>(sb.2 b hb).trans e) f0 f1 f3 f4 f5
  obtain⟨o,e,c,d⟩:=id st'
  exact⟨u,rfl,vO (s:={s with heap:=h'}) e c d (by decide) ⟨x,H,I1,ru,⟨rfl,λys hy=>by rw[I.list_inj hy hq];exact hx⟩,st',λb hb=>(hf b hb).1⟩⟩
 done:=by
  intro X hP hw hK hc i pins s σ H E I hf st hg
  subst hP hw hK
  obtain⟨xs,hq,hx⟩:=hg
  obtain⟨its,rv,p,hz⟩:=I.list hq
  obtain⟨f0,f1,f2,f3,f4,f5⟩:=hf it (by simp)
  have hl:=rv.length
  exact wpAny_pyNext_list_end (I.ok.hd hc) st p.isList (by simp;omega) λh' eb=>⟨rfl,I.turned (t':=s.toks) (λb o hb e=>eb b o hb e) f0 f1 f3 f4 f5⟩
 self:=λ_ _ _ _ _ st h=>wpAny_pyIter_listiter st h
def nR {P:Program}{w:World}{K:Frag}{tg:Expr}(a it:Addr):Turn P w K tg (CG K a) [it] it (λi h=>h.IsTupleIter it a i) where
 mem:=by simp
 obj:=λi h st b hb=>by
  have e:b=it:=by simpa using hb
  subst e
  obtain⟨o,e,c,d⟩:=st
  exact⟨o,e,λv z=>by rw[d] at z;cases z⟩
 keep:=λi h h' st k=>st.at λo e=>k it (by simp) o e
 item:=by
  intro X hP hw hK hc i pins s σ H E I hf st hg
  subst hP hw hK
  obtain⟨xs,x,hq,hx⟩:=hg
  obtain⟨its,rv,p,hz⟩:=I.tuple hq
  obtain⟨u,hu,ru⟩:=rv.get hx
  obtain⟨f0,f1,f2,f3,f4,f5⟩:=hf it (by simp)
  refine wpAny_pyNext_tuple_item st (show s.heap.IsTuple a its.toArray from p) (x:=u) (by simpa using hu) λh' st' sb=>?_
  have I1:Inv X pins σ H {s with heap:=h'}:=I.turned (t':=s.toks) (λb o hb e=>(sb.2 b hb).trans e) f0 f1 f3 f4 f5
  obtain⟨o,e,c,d⟩:=id st'
  exact⟨u,rfl,vO (s:={s with heap:=h'}) e c d (by decide) ⟨x,H,I1,ru,⟨rfl,λys hy=>by rw[I.tuple_inj hy hq];exact hx⟩,st',λb hb=>(hf b hb).1⟩⟩
 done:=by
  intro X hP hw hK hc i pins s σ H E I hf st hg
  subst hP hw hK
  obtain⟨xs,hq,hx⟩:=hg
  obtain⟨its,rv,p,hz⟩:=I.tuple hq
  obtain⟨f0,f1,f2,f3,f4,f5⟩:=hf it (by simp)
  have hl:=rv.length
  exact wpAny_pyNext_tuple_end (I.ok.hd hc) st (show s.heap.IsTuple a its.toArray from p) (by simp;omega) λh' eb=>⟨rfl,I.turned (t':=s.toks) (λb o hb e=>eb b o hb e) f0 f1 f3 f4 f5⟩
 self:=λ_ _ _ _ _ st h=>wpAny_pyIter_tupleiter st h
def ug {P:Program}{w:World}{K:Frag}{tg:Expr}(it:Addr)(lo:Int)(n:Nat):Turn P w K tg (vH lo n) [it] it (λi h=>IsRangeIter h it (lo + (i:Nat) * 1) ((n:Int) - (i:Nat)) 1) where
 mem:=by simp
 obj:=λi h st b hb=>by
  have e:b=it:=by simpa using hb
  subst e
  exact⟨_,st,λv z=>by
   have z':Data.fields _=Data.cell v:=z
   cases z'⟩
 keep:=λi h h' st k=>k it (by simp) _ st
 item:=by
  intro X hP hw hK hc i pins s σ H E I hf st hg
  subst hP hw hK
  obtain⟨f0,f1,f2,f3,f4,f5⟩:=hf it (by simp)
  have W:=Walks.range (prog:=X.prog) (w:=X.w) (I.ok.hd hc) it lo 1 n
  refine W.item i s _ _ hg st λv h' tk hv st' kk=>?_
  obtain⟨t,rfl⟩:=hv
  have I1:Inv X pins σ H {s with heap:=h',toks:=tk}:=I.turned (λb o hb e=>kk b o (by simpa using hb) e) f0 f1 f3 f4 f5
  refine⟨_,rfl,vO (s:={s with heap:=h',toks:=tk}) (n:="range_iterator") st' rfl rfl (by decide) ⟨.int (lo + i),H,I1,⟨t,?_⟩,⟨rfl,rfl⟩,st',λb hb=>(hf b hb).1⟩⟩
  rw[Int.mul_one]
 done:=by
  intro X hP hw hK hc i pins s σ H E I hf st hg
  subst hP hw hK
  obtain⟨f0,f1,f2,f3,f4,f5⟩:=hf it (by simp)
  exact wpAny_pyNext_range_end (I.ok.hd hc) st (by have:n<=i:=hg;omega) λh' eb=>⟨rfl,I.turned (t':=s.toks) (λb o hb e=>eb b o hb e) f0 f1 f3 f4 f5⟩
 self:=λ_ _ _ _ _ st h=>wpAny_pyIter_rangeiter st h
section
variable {X:Cx}{tg:Expr}
def Gs (K:Frag)(tl:TE):TI:=λσ H R=>tl σ H λx H1=>∃a,x=.ref a/\(∃xs,fP K H1 a xs)/\R (yr K a) H1
def vP {l:Expr}{tl:TE}(hl:PE X l tl):PI X tg l (Gs X.K tl):=by
 intro pins s σ H R I h
 refine bW (hl pins s σ H _ I h) λv s1 ⟨x,H1,I1,r1,q1⟩=>?_
 obtain⟨a,e,⟨xs,hq⟩,q⟩:=q1
 subst e
 cases r1
 obtain⟨its,rv,p,hz⟩:=I1.list hq
 refine KS p.isList ?_
 refine⟨s1.heap.objs.size,[s1.heap.objs.size],_,_,H1,rfl,I1.kept (t':=s1.toks) λb o e=>Jj _ e,lW a _,⟨_,Jt _ rfl,rfl,rfl⟩,λb hb=>?_,q⟩
 have e:b=s1.heap.objs.size:=by simpa using hb
 subst e
 exact I1.fpOk (Jl _) (I1.hok.fresh (Jl _))
def tX {pins:List (Addr×Obj)}{σ:St}{H:Hp}{s:Shared}{R:It->Hp->Prop}{E:Value->Shared->Prop}{lo hi:Int}{t u v:Tok}{tk:Nat}(I:Inv X pins σ H s)(h1: -(2 ^ 62)<=lo)(h2:lo < 2 ^ 62)(h3: -(2 ^ 62)<=hi)(h4:hi < 2 ^ 62)
  (q:R (vH lo (hi - lo).toNat) H):wpAny (model X.prog X.w) X.A (pyIter (.ref s.heap.objs.size)) (IQ X pins σ tg R) E {s with heap:=s.heap.push {cls:=.type "range",data:=.fields #[.int lo t,.int hi u,.int 1 v]},toks:=tk}:=by
 refine wpAny_pyIter_range (IsRange.new ..) (small_one h1 h2 h3 h4) ?_
 have I1:Inv X pins σ H {s with heap:=s.heap.push {cls:=.type "range",data:=.fields #[.int lo t,.int hi u,.int 1 v]},toks:=tk}:=I.kept λb o e=>Jj _ e
 refine⟨(s.heap.push {cls:=.type "range",data:=.fields #[.int lo t,.int hi u,.int 1 v]}).objs.size,[(s.heap.push {cls:=.type "range",data:=.fields #[.int lo t,.int hi u,.int 1 v]}).objs.size],_,_,H,rfl,
  I1.kept (t':=tk) λb o e=>Jj _ e,ug _ lo (hi - lo).toNat,?_,λb hb=>?_,q⟩
 ·have e1:lo + ((0:Nat):Int) * 1=lo:=by simp
  have e2:(((hi - lo).toNat:Nat):Int) - ((0:Nat):Int)=Builtin.Range.rangeSize lo hi 1:=by rw[rangeSize_one];split <;> omega
  show IsRangeIter _ _ (lo + ((0:Nat):Int) * 1) ((((hi - lo).toNat:Nat):Int) - ((0:Nat):Int)) 1
  rw[e1,e2]
  exact Jt _ rfl
 ·have e:b=(s.heap.push {cls:=.type "range",data:=.fields #[.int lo t,.int hi u,.int 1 v]}).objs.size:=by simpa using hb
  subst e
  exact I1.fpOk (Jl _) (I1.hok.fresh (Jl _))
def CP (ta:TA):TI:=λσ H R=>ta σ H λvs H1=>∃j:Int,vs= [.int j]/\ -(2 ^ 62)<=j/\j < 2 ^ 62/\R (vH 0 j.toNat) H1
def E7 (ta:TA):TI:=λσ H R=>ta σ H λvs H1=>∃i j:Int,vs= [.int i,.int j]/\(-(2 ^ 62)<=i/\i < 2 ^ 62/\ -(2 ^ 62)<=j/\j < 2 ^ 62)/\R (vH i (j - i).toNat) H1
theorem jP {a:Expr}{ta:TA}{p pos:Pos}(hg:Gl X "range")(hm:X.mg "range"=none)(ha:PA X [a] ta)(hs:starEach [a] X.env= [(false,eval a X.env)]:=by rfl):PI X tg (.Call (.Name "range" p) [a] [] pos) (CP ta):=by
 intro pins s σ H R I h
 refine Call_ (kR I hg hm boot_range (Kf (bW (ha pos pins s σ H _ I h) λus s1 ⟨vs,H1,I1,r1,q1⟩=>?_) hs rfl))
 obtain⟨j,e,q1,q2,q⟩:=q1
 subst e
 cases r1 with
 |cons r rr=>
  cases rr
  obtain⟨t,rfl⟩:=r
  exact call_range_1 (tX I1 (by omega) (by omega) q1 q2 (by simpa using q))
theorem yg {a b:Expr}{ta:TA}{p pos:Pos}(hg:Gl X "range")(hm:X.mg "range"=none)(ha:PA X [a,b] ta)(hs:starEach [a,b] X.env= [(false,eval a X.env),(false,eval b X.env)]:=by rfl)(hs2:starEach [b] X.env= [(false,eval b X.env)]:=by rfl) :
  PI X tg (.Call (.Name "range" p) [a,b] [] pos) (E7 ta):=by
 intro pins s σ H R I h
 refine Call_ (kR I hg hm boot_range (Kf (bW (ha pos pins s σ H _ I h) λus s1 ⟨vs,H1,I1,r1,q1⟩=>?_) (by rw[hs,hs2]) (by rw[hs2];rfl)))
 obtain⟨i,j,e,⟨q1,q2,q3,q4⟩,q⟩:=q1
 subst e
 cases r1 with
 |cons r rr=>
  cases rr with
  |cons r' rr=>
   cases rr
   obtain⟨t,rfl⟩:=r
   obtain⟨t',rfl⟩:=r'
   exact call_range_2 (tX I1 q1 q2 q3 q4 q)
def Hs (wi:TI)(g:TG)(tb:TS):TS:=λD σ H=>wi σ H λJ H1=>∃W:Nat->Nat->St->Hp->Prop,(∃m,W 0 m σ H1)/\∀i m σ H,W i m σ H->
 (J.stop i H/\D.nx σ H)\/(J.go i H/\∃N:St->Hp->Prop,(∀σ' H',N σ' H'->∃m',m' < m/\W (i + 1) m' σ' H')/\∀x H',J.yld i H x H'->g x σ H' λσ2 H2=>tb {D with nx:=N,ct:=N,bk:=D.nx} σ2 H2)
def lX (fp:List Addr)(h:Heap):List (Addr×Obj):=fp.filterMap λb=>(h.get? b).map λo=>(b,o)
def eQ {fp:List Addr}{h:Heap}{b:Addr}{o:Obj}(hb:b∈fp)(e:h.get? b=some o):(b,o)∈lX fp h:=Ku.mpr ⟨b,hb,by rw[e];rfl⟩
theorem x6 {fp:List Addr}{h:Heap}{p:Addr×Obj}(hp:p∈lX fp h):p.1∈fp/\h.get? p.1=some p.2:=by
 obtain⟨b,hb,e⟩:=Ku.mp hp
 cases q:h.get? b with
 |none=>rw[q] at e;cases e
 |some o=>
  rw[q] at e
  have e':(b,o)=p:=Option.some.inj e
  subst e'
  exact⟨hb,q⟩
def Inv.pinned {pins:List (Addr×Obj)}{σ:St}{H:Hp}{s:Shared}{fp:List Addr}(I:Inv X pins σ H s)(hf:∀b∈fp,iN X pins H b)(ho:∀b∈fp,∃o,s.heap.get? b=some o/\∀v,o.data≠.cell v):Inv X (pins ++ lX fp s.heap) σ H s:=
 I.pins_of λp hp=>(JT.mp hp).elim (λz=>I.pin p (JK _ z)) λz=>by
  obtain⟨hb,e⟩:=x6 z
  obtain⟨f0,f1,f2,_⟩:=hf p.1 hb
  obtain⟨o,e',d⟩:=ho p.1 hb
  rw[e] at e';cases e'
  exact⟨e,f0,f1,f2,d⟩
def Inv.unpinned {pins pl:List (Addr×Obj)}{σ:St}{H:Hp}{s:Shared}(I:Inv X (pins ++ pl) σ H s):Inv X pins σ H s:=I.pins_of λp hp=>I.pin p (JK _ (K0 _ hp))
def qO {iter:Expr}{body:List Stmt}{wi:TI}{g:TG}{tb:TS}{pos:Pos}(hp:PassesOwn (model X.prog X.w) X.A X.env X.xe)(hc:X.calm=true)(hi:PI X tg iter wi)(hg:PG X tg g)(hb:me X body tb)
  (hs:∀x,foldedSetIterable iter X.env x=pure x:=by intro _;rfl):PS X (.For tg iter body [] pos) (Hs wi g tb):=by
 intro pins s σ H D I h
 refine wpAny_For (bW (hi pins s σ H _ I h) λv s1 h1=>bW h1 λitv s2 h2=>?_) hs
 obtain⟨it,fp,tn,J,H2,e,I2,T,st2,f2,W,⟨m0,w0⟩,turn⟩:=h2
 subst e
 have stat:∀{H':Hp},(∀b∈fp,H' b=none)->∀b∈fp,iN X pins H' b:=λhn b hb=>⟨hn b hb,(f2 b hb).2⟩
 refine codeAny_forLoop_any (λn s'=>∃i σ' H',Inv X pins σ' H' s'/\tn i s'.heap/\(∀b∈fp,H' b=none)/\W i n σ' H') ?_ m0 ⟨0,σ,H2,I2,st2,λb hb=>(f2 b hb).1,w0⟩
 rintro n s3 ⟨i,σ3,H3,I3,st3,fr3,w3⟩
 rcases turn i n σ3 H3 w3 with⟨stop,qn⟩ | ⟨go,N,hN,step⟩
 ·refine Ky hp (bW (T.done X rfl rfl rfl hc i pins s3 σ3 H3 X.xe I3 (stat fr3) st3 stop) λr s4 ⟨hr,I4⟩=>?_)
  subst hr
  exact K8 ⟨σ3,H3,I4,qn⟩
 ·refine Ky hp (bW (T.item X rfl rfl rfl hc i pins s3 σ3 H3 X.xe I3 (stat fr3) st3 go) λr s4 ⟨u,hr,h4⟩=>?_)
  subst hr
  refine Ky hp (bW h4 λ_ s5 ⟨x,H5,I5,r5,y5,st5,fr5⟩=>?_)
  have I5':=I5.pinned (stat fr5) (T.obj _ _ st5)
  refine Ky hp (bW (hg _ s5 σ3 H5 x u _ I5' r5 (step x H5 y5)) λ_ s6 ⟨σ6,H6,I6,q6⟩=>?_)
  refine Ky hp (bW (hb _ s6 σ6 H6 _ I6 q6) λf s7 q7=>?_)
  have again:∀{σ7:St} {H7:Hp},Inv X (pins ++ lX fp s5.heap) σ7 H7 s7->N σ7 H7->∃m,m < n/\∃i σ' H',Inv X pins σ' H' s7/\tn i s7.heap/\(∀b∈fp,H' b=none)/\W i m σ' H':=λ{σ7 H7} I7 n7=>by
   obtain⟨m',hm,w7⟩:=hN σ7 H7 n7
   refine⟨m',hm,i + 1,σ7,H7,I7.unpinned,T.keep _ _ _ st5 λb hb o e=>(I7.pin (b,o) (JK _ (JK _ (eQ hb e)))).1,λb hb=>?_,w7⟩
   obtain⟨o,e,d⟩:=T.obj _ _ st5 b hb
   exact (I7.pin (b,o) (JK _ (JK _ (eQ hb e)))).2.1
  cases f with
  |next=>obtain⟨σ7,H7,I7,n7⟩:=q7;exact again I7 n7
  |cont=>obtain⟨σ7,H7,I7,n7⟩:=q7;exact again I7 n7
  |brk=>obtain⟨σ7,H7,I7,q7⟩:=q7;exact⟨σ7,H7,I7.unpinned,q7⟩
  |ret v=>obtain⟨x7,σ7,H7,I7,r7,q7⟩:=q7;exact⟨x7,σ7,H7,I7.unpinned,r7,q7⟩
end
def sN {K:Frag}{a:Addr}{xs:List V}{g:TG}{tb:TS}{D:Ends}{σ:St}{H:Hp}(Pv:Nat->St->Hp->Prop)(h0:Pv 0 σ H)(hl:∀i σ H,i<=xs.length->Pv i σ H->fP K H a xs)
  (hs:∀i x σ H,xs[i]? =some x->Pv i σ H->g x σ H λσ2 H2=>tb {D with nx:=Pv (i + 1),ct:=Pv (i + 1),bk:=D.nx} σ2 H2) (hd:∀σ H,Pv xs.length σ H->D.nx σ H) :
  ∃W:Nat->Nat->St->Hp->Prop,(∃m,W 0 m σ H)/\∀i m σ H,W i m σ H->
   ((yr K a).stop i H/\D.nx σ H)\/((yr K a).go i H/\∃N:St->Hp->Prop,(∀σ' H',N σ' H'->∃m',m' < m/\W (i + 1) m' σ' H')/\∀x H',(yr K a).yld i H x H'->g x σ H' λσ2 H2=>tb {D with nx:=N,ct:=N,bk:=D.nx} σ2 H2):=by
 refine⟨λi m σ H=>m=xs.length - i/\i<=xs.length/\Pv i σ H,⟨xs.length,by simp,JY _,h0⟩,?_⟩
 rintro i m σ H ⟨rfl,hi,p⟩
 have q:=hl i σ H hi p
 by_cases hlt:i < xs.length
 ·refine .inr ⟨⟨xs,xs[i],q,by simp[hlt]⟩,Pv (i + 1),λσ' H' p'=>⟨xs.length - (i + 1),by omega,rfl,hlt,p'⟩,λx H' y=>?_⟩
  obtain⟨e,y⟩:=y
  subst e
  exact hs i x σ _ (y xs q) p
 ·have e:i=xs.length:=by omega
  subst e
  exact .inl ⟨⟨xs,q,Jl _⟩,hd σ H p⟩
def Bv {K:Frag}{a:Addr}{xs:List V}{g:TG}{tb:TS}{D:Ends}{σ:St}{H:Hp}(Pv:Nat->St->Hp->Prop)(h0:Pv 0 σ H)(hl:∀i σ H,i<=xs.length->Pv i σ H->dW K H a xs)
  (hs:∀i x σ H,xs[i]? =some x->Pv i σ H->g x σ H λσ2 H2=>tb {D with nx:=Pv (i + 1),ct:=Pv (i + 1),bk:=D.nx} σ2 H2) (hd:∀σ H,Pv xs.length σ H->D.nx σ H) :
  ∃W:Nat->Nat->St->Hp->Prop,(∃m,W 0 m σ H)/\∀i m σ H,W i m σ H->
   ((CG K a).stop i H/\D.nx σ H)\/((CG K a).go i H/\∃N:St->Hp->Prop,(∀σ' H',N σ' H'->∃m',m' < m/\W (i + 1) m' σ' H')/\∀x H',(CG K a).yld i H x H'->g x σ H' λσ2 H2=>tb {D with nx:=N,ct:=N,bk:=D.nx} σ2 H2):=by
 refine⟨λi m σ H=>m=xs.length - i/\i<=xs.length/\Pv i σ H,⟨xs.length,by simp,JY _,h0⟩,?_⟩
 rintro i m σ H ⟨rfl,hi,p⟩
 have q:=hl i σ H hi p
 by_cases hlt:i < xs.length
 ·refine .inr ⟨⟨xs,xs[i],q,by simp[hlt]⟩,Pv (i + 1),λσ' H' p'=>⟨xs.length - (i + 1),by omega,rfl,hlt,p'⟩,λx H' y=>?_⟩
  obtain⟨e,y⟩:=y
  subst e
  exact hs i x σ _ (y xs q) p
 ·have e:i=xs.length:=by omega
  subst e
  exact .inl ⟨⟨xs,q,Jl _⟩,hd σ H p⟩
def xt {lo:Int}{n:Nat}{g:TG}{tb:TS}{D:Ends}{σ:St}{H:Hp}(Pv:Nat->St->Hp->Prop)(h0:Pv 0 σ H)
  (hs:∀i σ H,i < n->Pv i σ H->g (.int (lo + i)) σ H λσ2 H2=>tb {D with nx:=Pv (i + 1),ct:=Pv (i + 1),bk:=D.nx} σ2 H2) (hd:∀σ H,Pv n σ H->D.nx σ H) :
  ∃W:Nat->Nat->St->Hp->Prop,(∃m,W 0 m σ H)/\∀i m σ H,W i m σ H->
   ((vH lo n).stop i H/\D.nx σ H)\/((vH lo n).go i H/\∃N:St->Hp->Prop,(∀σ' H',N σ' H'->∃m',m' < m/\W (i + 1) m' σ' H')/\∀x H',(vH lo n).yld i H x H'->g x σ H' λσ2 H2=>tb {D with nx:=N,ct:=N,bk:=D.nx} σ2 H2):=by
 refine⟨λi m σ H=>m=n - i/\i<=n/\Pv i σ H,⟨n,by simp,JY _,h0⟩,?_⟩
 rintro i m σ H ⟨rfl,hi,p⟩
 by_cases hlt:i < n
 ·refine .inr ⟨hlt,Pv (i + 1),λσ' H' p'=>⟨n - (i + 1),by omega,rfl,hlt,p'⟩,λx H' y=>?_⟩
  obtain⟨e,y⟩:=y
  subst e y
  exact hs i σ _ hlt p
 ·have e:i=n:=by omega
  subst e
  exact .inl ⟨Jl _,hd σ H p⟩
abbrev R2:=V->V->Hp->VK->Prop
def kN (X:Cx)(f:Value->Value->Sem Value)(r:R2):Prop:=
 ∀(pins:List (Addr×Obj)) (s:Shared) (σ:St) (H:Hp) (x y:V) (v u:Value) (Q:VK),Inv X pins σ H s->RelV x v->RelV y u->r x y H Q->
  wpAny (model X.prog X.w) X.A (f v u) (EP X pins σ Q) X.xe s
def GR (X:Cx)(f:Value->Sem Value)(r:V->Hp->VK->Prop):Prop:=
 ∀(pins:List (Addr×Obj)) (s:Shared) (σ:St) (H:Hp) (x:V) (v:Value) (Q:VK),Inv X pins σ H s->RelV x v->r x H Q->
  wpAny (model X.prog X.w) X.A (f v) (EP X pins σ Q) X.xe s
def cZ (X:Cx)(f:Value)(r:List V->Hp->VK->Prop):Prop:=
 ∀(pins:List (Addr×Obj)) (s:Shared) (σ:St) (H:Hp) (xs:List V) (us:List Value) (Q:VK),Inv X pins σ H s->Vals xs us->r xs H Q->
  wpAny (model X.prog X.w) X.A (call f us) (EP X pins σ Q) X.xe s
def Ig (X:Cx)(r:V->Hp->(Bool->Hp->Prop)->Prop):Prop:=
 ∀(pins:List (Addr×Obj)) (s:Shared) (σ:St) (H:Hp) (x:V) (v:Value) (Q:Bool->Hp->Prop),Inv X pins σ H s->RelV x v->r x H Q->
  wpAny (model X.prog X.w) X.A (truthy v) (TP X pins σ Q) X.xe s
def GG (r:R2)(ta tb:TE):TE:=λσ H Q=>ta σ H λx H1=>tb σ H1 λy H2=>r x y H2 Q
def IW (r:V->Hp->VK->Prop)(ta:TE):TE:=λσ H Q=>ta σ H λx H1=>r x H1 Q
def rI (C:Int->Int->Prop)(g:Int->Int->V):R2:=λx y H Q=>∃i j,x=.int i/\y=.int j/\C i j/\Q (g i j) H
def xh (g:Int->Int->V):R2:=λx y H Q=>∃i j,x=.int i/\y=.int j/\Q (g i j) H
def rU (g:Int->V):V->Hp->VK->Prop:=λx H Q=>∃i,x=.int i/\Q (g i) H
section
variable {X:Cx}{a b c:Expr}{ta tb tc:TE}{pos:Pos}
def DM (ha:PE X a ta)(hb:PE X b tb){pins:List (Addr×Obj)}{s:Shared}{σ:St}{H:Hp}{R:V->V->Hp->Prop}(I:Inv X pins σ H s)
  (h:ta σ H λx H1=>tb σ H1 λy H2=>R x y H2) {Q:Value->Shared->Prop} {f:Value->Value->Sem Value}
  (hf:∀v u s2 x y H2,Inv X pins σ H2 s2->RelV x v->RelV y u->R x y H2->wpAny (model X.prog X.w) X.A (f v u) Q X.xe s2) :
  wpAny (model X.prog X.w) X.A (eval a X.env) (λv s₁=>wpAny (model X.prog X.w) X.A (eval b X.env) (λu s₂=>wpAny (model X.prog X.w) X.A (f v u) Q X.xe s₂) X.xe s₁) X.xe s:=by
 refine bW (ha pins s σ H _ I h) λv s1 ⟨x,H1,I1,r1,q1⟩=>?_
 refine bW (hb pins s1 σ H1 _ I1 q1) λu s2 ⟨y,H2,I2,r2,q2⟩=>?_
 exact hf v u s2 x y H2 I2 r1 r2 q2
def lj {op:Operator}{r:R2}(ho:kN X (binaryOp op) r)(ha:PE X a ta)(hb:PE X b tb):PE X (.BinOp a op b pos) (GG r ta tb):=by
 intro pins s σ H Q I h
 exact wpAny_BinOp (DM ha hb I h λv u s2 x y H2 I2 rx ry q=>ho pins s2 σ H2 x y v u Q I2 rx ry q)
def FG {op:UnaryOp}{r:V->Hp->VK->Prop}(ho:GR X (unaryOp op) r)(ha:PE X a ta):PE X (.UnaryOp op a pos) (IW r ta):=by
 intro pins s σ H Q I h
 exact UnaryOp_ (bW (ha pins s σ H _ I h) λv s1 ⟨x,H1,I1,r1,q1⟩=>ho pins s1 σ H1 x v Q I1 r1 q1)
def GU {f:Value->Value->Sem Value}{C:Int->Int->Prop}{g:Int->Int->Int}
  (rule:∀(i j:Int) (t u:Tok) (s:Shared) (Q:Value->Shared->Prop) (E:Value->Shared->Prop),C i j->Q (.int (g i j) s.toks) {s with toks:=s.toks + 1}->wpAny (model X.prog X.w) X.A (f (.int i t) (.int j u)) Q E s) :
  kN X f (rI C λi j=>.int (g i j)):=by
 intro pins s σ H x y v u Q I rx ry h
 obtain⟨i,j,rfl,rfl,hc,q⟩:=h
 obtain⟨t,rfl⟩:=rx
 obtain⟨t',rfl⟩:=ry
 exact rule i j t t' s _ _ hc ⟨.int (g i j),H,I.tok _,⟨_,rfl⟩,q⟩
def Fi {f:Value->Value->Sem Value}{g:Int->Int->Int}
  (rule:∀(i j:Int) (t u:Tok) (s:Shared) (Q:Value->Shared->Prop) (E:Value->Shared->Prop),Q (.int (g i j) s.toks) {s with toks:=s.toks + 1}->wpAny (model X.prog X.w) X.A (f (.int i t) (.int j u)) Q E s) :
  kN X f (xh λi j=>.int (g i j)):=by
 intro pins s σ H x y v u Q I rx ry h
 obtain⟨i,j,rfl,rfl,q⟩:=h
 obtain⟨t,rfl⟩:=rx
 obtain⟨t',rfl⟩:=ry
 exact rule i j t t' s _ _ ⟨.int (g i j),H,I.tok _,⟨_,rfl⟩,q⟩
def DD {f:Value->Value->Sem Value}{g:Int->Int->Bool}
  (rule:∀(i j:Int) (t u:Tok) (s:Shared) (Q:Value->Shared->Prop) (E:Value->Shared->Prop),Q (.bool (g i j)) s->wpAny (model X.prog X.w) X.A (f (.int i t) (.int j u)) Q E s) :
  kN X f (xh λi j=>.bl (g i j)):=by
 intro pins s σ H x y v u Q I rx ry h
 obtain⟨i,j,rfl,rfl,q⟩:=h
 obtain⟨t,rfl⟩:=rx
 obtain⟨t',rfl⟩:=ry
 exact rule i j t t' s _ _ ⟨.bl (g i j),H,I,rfl,q⟩
def Ck (i j:Int):Prop:=0 < j/\j < 1073741824
def Eg (i j:Int):Prop:=0<=j/\j<=1000000/\i.natAbs < 2 ^ 64
def Ay (i j:Int):Prop:=(-(2 ^ 64) < i/\i < 2 ^ 64)\/(-(2 ^ 64) < j/\j < 2 ^ 64)
def Ay.ok {i j:Int}(h:Ay i j):IntMulOk i j:=by
 rcases h with⟨h1,h2⟩ | ⟨h1,h2⟩
 ·exact .of_left (intBits_le_64 h1 h2)
 ·exact .of_right (intBits_le_64 h1 h2)
def iY:kN X (binaryOp .Add) (xh λi j=>.int (i + j)):=Fi λ_ _ _ _ _ _ _ q=>add_int q
def Dq:kN X (binaryOp .Sub) (xh λi j=>.int (i - j)):=Fi λ_ _ _ _ _ _ _ q=>sub_int q
def jD:kN X (binaryOp .Mult) (rI Ay λi j=>.int (i * j)):=GU λ_ _ _ _ _ _ _ hc q=>mul_int q hc.ok
def rh:kN X (binaryOp .FloorDiv) (rI Ck λi j=>.int (i / j)):=GU λi j _ _ _ _ _ hc q=>by
 have h1:(0:Int) < j:=hc.1
 have h2:j < 1073741824:=hc.2
 exact floordiv_int (by omega) (by rw[Int.fdiv_eq_ediv_of_nonneg i (by omega)];exact q) (.inl (PyProof.noPylong_small (by omega)))
def kQ:kN X (binaryOp .Mod) (rI (λ_ j=>0 < j) λi j=>.int (i % j)):=GU λi j _ _ _ _ _ hc q=>by
 have h1:(0:Int) < j:=hc
 exact mod_int' (by omega) (by rw[Int.fmod_eq_emod_of_nonneg i (by omega)];exact q)
def AE:kN X (binaryOp .Pow) (rI Eg λi j=>.int (i ^ j.toNat)):=GU λ_ _ _ _ _ _ _ hc q=>pow_int_small hc.1 hc.2.1 hc.2.2 q
def Jf {f:Value->Sem Value}{g:Int->Int}
  (rule:∀(i:Int) (t:Tok) (s:Shared) (Q:Value->Shared->Prop) (E:Value->Shared->Prop),Q (.int (g i) s.toks) {s with toks:=s.toks + 1}->wpAny (model X.prog X.w) X.A (f (.int i t)) Q E s) :
  GR X f (rU λi=>.int (g i)):=by
 intro pins s σ H x v Q I rx h
 obtain⟨i,rfl,q⟩:=h
 obtain⟨t,rfl⟩:=rx
 exact rule i t s _ _ ⟨.int (g i),H,I.tok _,⟨_,rfl⟩,q⟩
def zw:GR X (unaryOp .USub) (rU λi=>.int (-i)):=Jf λ_ _ _ _ _ q=>neg_int q
end
def Hv:V->V->Bool
 | .non,.non=>true | .non,.int _=>true | .int _,.non=>true | .non,.bl _=>true | .bl _,.non=>true | .non,.str _=>true | .str _,.non=>true
 | .int _,.int _=>true | .bl _,.bl _=>true | .str _,.str _=>true | .byt _,.byt _=>true
 | .int _,.str _=>true | .str _,.int _=>true | .bl _,.str _=>true | .str _,.bl _=>true
 |_,_=>false
def IY:R2:=λx y H Q=>Hv x y=true/\Q (.bl (decide (x=y))) H
def wN {i j:Int}:decide (V.int i=V.int j)=(i == j):=by
 rw[JQ]
 simp
def C3 {i j:Bool}:decide (V.bl i=V.bl j)=(i == j):=by
 rw[JQ]
 simp
def BI {i j:Str}:decide (V.str i=V.str j)=(i == j):=by
 rw[JQ]
 simp
def AO {i j:Array UInt8}:decide (V.byt i=V.byt j)=(i.toList == j.toList):=by
 rw[JQ]
 cases i
 cases j
 simp
section
variable {X:Cx}{a b c:Expr}{ta tb tc:TE}{pos:Pos}
def du {pins:List (Addr×Obj)}{σ:St}{H:Hp}{s:Shared}{Q:VK}{k k':Bool}(I:Inv X pins σ H s)(q:Q (.bl k) H)(e:k=k'):EP X pins σ Q (.bool k') s:=by
 subst e
 exact⟨.bl k,H,I,rfl,q⟩
theorem FK:kN X (compareOp .Eq) IY:=by
 intro pins s σ H x y v u Q I rx ry h
 obtain⟨hs,q⟩:=h
 cases x with
 |non=>
  cases rx
  cases y with
  |non=>cases ry;exact PySem.EqNone.eq_none_none (du I q (by simp))
  |bl j=>cases ry;exact PySem.EqNone.eq_none_bool (du I q (by simp))
  |int j=>obtain⟨t',rfl⟩:=ry;exact PySem.EqNone.eq_none_int (du I q (by simp))
  |str j=>obtain⟨t',rfl⟩:=ry;exact PySem.EqNone.eq_none_str (du I q (by simp))
  |_=>exact absurd (show false=true from hs) JA
 |bl i=>
  cases rx
  cases y with
  |non=>cases ry;exact PySem.EqNone.eq_bool_none (du I q (by simp))
  |bl j=>cases ry;exact eq_bool (du I q C3)
  |str j=>obtain⟨t',rfl⟩:=ry;exact PySem.EqMixed.eq_bool_str (du I q (by simp))
  |_=>exact absurd (show false=true from hs) JA
 |int i=>
  obtain⟨t,rfl⟩:=rx
  cases y with
  |non=>cases ry;exact PySem.EqNone.eq_int_none (du I q (by simp))
  |int j=>obtain⟨t',rfl⟩:=ry;exact eq_int (du I q wN)
  |str j=>obtain⟨t',rfl⟩:=ry;exact PySem.EqMixed.eq_int_str (du I q (by simp))
  |_=>exact absurd (show false=true from hs) JA
 |str i=>
  obtain⟨t,rfl⟩:=rx
  cases y with
  |non=>cases ry;exact PySem.EqNone.eq_str_none (du I q (by simp))
  |bl j=>cases ry;exact PySem.EqMixed.eq_str_bool (du I q (by simp))
  |int j=>obtain⟨t',rfl⟩:=ry;exact PySem.EqMixed.eq_str_int (du I q (by simp))
  |str j=>obtain⟨t',rfl⟩:=ry;exact eq_str (du I q BI)
  |_=>exact absurd (show false=true from hs) JA
 |byt i=>
  obtain⟨t,rfl⟩:=rx
  cases y with
  |byt j=>obtain⟨t',rfl⟩:=ry;exact PySem.W.eq_bytes (du I q AO)
  |_=>exact absurd (show false=true from hs) JA
 |_=>cases y <;> exact absurd (show false=true from hs) JA
def qe:kN X (compareOp .Lt) (xh λi j=>.bl (decide (i < j))):=DD λ_ _ _ _ _ _ _ q=>lt_int q
def yB:kN X (compareOp .LtE) (xh λi j=>.bl (decide (i<=j))):=DD λ_ _ _ _ _ _ _ q=>le_int q
def CJ:kN X (compareOp .Gt) (xh λi j=>.bl (decide (j < i))):=DD λ_ _ _ _ _ _ _ q=>gt_int q
def bf (b:Expr){op:CmpOp}(h:op≠.In:=by decide)(h2:op≠.NotIn:=by decide):behindInMarks op b=false:=by
 have e1:(op == CmpOp.In)=false:=by cases op <;> first |rfl |exact absurd rfl h
 have e2:(op == CmpOp.NotIn)=false:=by cases op <;> first |rfl |exact absurd rfl h2
 cases b <;> simp[behindInMarks,e1,e2]
def qv {op:CmpOp}{r:R2}(ho:kN X (compareOp op) r)(ha:PE X a ta)(hb:PE X b tb)(hm:behindInMarks op b=false):PE X (.Compare a [op] [b] pos) (GG r ta tb):=by
 intro pins s σ H Q I h
 exact wpAny_Compare1 (DM ha hb I h λv u s2 x y H2 I2 rx ry q=>ho pins s2 σ H2 x y v u Q I2 rx ry q) hm
def Gq (t:TE):TT:=λσ H Q=>t σ H λx H'=>∃k,x=.bl k/\Q k H'
def A5 {op:CmpOp}{r:R2}(ho:kN X (compareOp op) r)(ha:PE X a ta)(hb:PE X b tb)(hm:behindInMarks op b=false):PT X (.Compare a [op] [b] pos) (Gq (GG r ta tb)):=by
 intro pins s σ H Q I h
 refine wpAny_isTrue_Compare1 (bW (ha pins s σ H _ I h) λv s1 ⟨x,H1,I1,r1,q1⟩=>bW (hb pins s1 σ H1 _ I1 q1) λu s2 ⟨y,H2,I2,r2,q2⟩=>
  bW (ho pins s2 σ H2 x y v u _ I2 r1 r2 q2) λc s3 ⟨z,H3,I3,r3,k,e,q3⟩=>?_) hm
 subst e
 cases r3
 exact Ke ⟨H3,I3,q3⟩
def D4 (r r':R2)(ta tb tc:TE):TE:=λσ H Q=>ta σ H λx H1=>tb σ H1 λy H2=>r x y H2 λz H3=>∃k,z=.bl k/\
 (if k=true then tc σ H3 λw' H4=>r' y w' H4 Q else Q (.bl false) H3)
theorem zN {op op':CmpOp}{r r':R2}(ho:kN X (compareOp op) r)(ho':kN X (compareOp op') r')(ha:PE X a ta)(hb:PE X b tb)(hc:PE X c tc)
  (hm:lastMarks [op,op'] [b,c]=false:=by with_unfolding_all rfl):PE X (.Compare a [op,op'] [b,c] pos) (D4 r r' ta tb tc):=by
 intro pins s σ H Q I h
 refine Compare_chain (bW (ha pins s σ H _ I h) λv s1 ⟨x,H1,I1,r1,q1⟩=>chain_link (bW (hb pins s1 σ H1 _ I1 q1) λu s2 ⟨y,H2,I2,r2,q2⟩=>
  bW (ho pins s2 σ H2 x y v u _ I2 r1 r2 q2) λd s3 ⟨z,H3,I3,r3,k,e,q3⟩=>?_)) hm
 subst e
 cases r3
 refine Ke ?_
 cases k with
 |false=>exact ite_ff ⟨.bl false,H3,I3,rfl,q3⟩
 |true=>exact ite_tt (chain_last (bW (hc pins s3 σ H3 _ I3 q3) λw' s4 ⟨z',H4,I4,r4,q4⟩=>ho' pins s4 σ H4 y z' u w' Q I4 r2 r4 q4))
def GA (K:Frag)(x:V)(H:Hp)(k:Bool):Prop:=
 match x with
 | .non=>k=false
 | .bl b=>k=b
 | .int i=>k=(i != 0)
 | .str y=>y.length<=sizeLine/\k=((y.length:Int) != 0)
 | .byt y=>y.size<=sizeLine/\k=((y.size:Int) != 0)
 | .ref p=>(∃xs,fP K H p xs/\k= !xs.isEmpty)\/(∃xs,dW K H p xs/\k= !xs.isEmpty)\/∃kvs,H p=some (.dK kvs)/\k= !kvs.isEmpty
 |_=>False
def vB {κ:Type}{kvs:List (κ×V)}{vs:List (κ×Value)}(r:KV kvs vs):(!vs.isEmpty)= !kvs.isEmpty:=by
 cases r <;> rfl
def oI {xs:List V}{its:List Value}(r:Vals xs its):(!its.toArray.isEmpty)= !xs.isEmpty:=by
 cases r <;> simp
def l4:(sizeLine:Nat) < 2 ^ 63:=by rw[JL];decide
theorem Ed:Ig X (λx H Q=>∃k,GA X.K x H k/\Q k H):=by
 intro pins s σ H x v Q I rx h
 obtain⟨k,e,q⟩:=h
 have hl:=l4
 have hs:sizeLine=16777216:=JL
 cases x with
 |non=>
  cases rx
  have e':k=false:=e
  subst e'
  exact truthy_none ⟨H,I,q⟩
 |bl b=>
  cases rx
  have e':k=b:=e
  subst e'
  exact Ke ⟨H,I,q⟩
 |int i=>
  obtain⟨t,rfl⟩:=rx
  have e':k=(i != 0):=e
  subst e'
  exact PySem.P.truthy_int ⟨H,I,q⟩
 |str y=>
  obtain⟨t,rfl⟩:=rx
  obtain⟨hy,e'⟩:y.length<=sizeLine/\k=((y.length:Int) != 0):=e
  subst e'
  exact PySem.P.truthy_str (by omega) ⟨H,I.tok _,q⟩
 |byt y=>
  obtain⟨t,rfl⟩:=rx
  obtain⟨hy,e'⟩:y.size<=sizeLine/\k=((y.size:Int) != 0):=e
  subst e'
  exact PySem.W.truthy_bytes (by omega) ⟨H,I.tok _,q⟩
 |ref p=>
  cases rx
  have e':(∃xs,fP X.K H p xs/\k= !xs.isEmpty)\/(∃xs,dW X.K H p xs/\k= !xs.isEmpty)\/∃kvs,H p=some (.dK kvs)/\k= !kvs.isEmpty:=e
  rcases e' with⟨xs,hx,e'⟩ | ⟨xs,hx,e'⟩ | ⟨kvs,hx,e'⟩
  ·subst e'
   obtain⟨its,r,pl,hz⟩:=I.list hx
   have hlen:=r.length
   exact wpAny_truthy_list pl.isList (by simp only[Jo];omega) ⟨H,I.tok _,by rw[oI r];exact q⟩
  ·subst e'
   obtain⟨its,r,pl,hz⟩:=I.tuple hx
   have hlen:=r.length
   exact truthy_tuple pl (by simp only[Jo];omega) ⟨H,I.tok _,by rw[oI r];exact q⟩
  ·subst e'
   obtain⟨hz,hS,vs,r,m⟩:kvs.length<=sizeLine/\(p == sysModules)=false/\∃vs,KV kvs vs/\s.heap.DictOf (dR X.prog X.w) p vs:=I.hok p _ hx
   have hlen:kvs.length=vs.length:=Paired.length r
   exact wpAny_truthy_dict hS m (by omega) ⟨H,I.tok _,by rw[vB r];exact q⟩
 |_=>exact (show False from e).elim
def yG (ha:PE X a ta)(he:∀whole,isTrue a X.env whole=(do let v <-whole;standAt a.pos;holding [v] (truthy v))) :
  PT X a (λσ H Q=>ta σ H λx H'=>∃k,GA X.K x H' k/\Q k H'):=by
 intro pins s σ H Q I h
 exact isTrue_plain (bW (ha pins s σ H _ I h) λv s1 ⟨x,H1,I1,r1,q1⟩=>Ed pins s1 σ H1 x v Q I1 r1 q1) (he _)
theorem vals1 {x:V}{us:List Value}(r:Vals [x] us):∃u,us= [u]/\RelV x u:=by
 cases r with
 |cons r1 r2=>cases r2;exact⟨_,rfl,r1⟩
theorem vals2 {x y:V}{us:List Value}(r:Vals [x,y] us):∃u w',us= [u,w']/\RelV x u/\RelV y w':=by
 cases r with
 |cons r1 r2=>
  cases r2 with
  |cons r3 r4=>cases r4;exact⟨_,_,rfl,r1,r3⟩
def xZ (hc:X.calm=true):cZ X (.builtin "max") (λxs H Q=>∃i j,xs= [.int i,.int j]/\Q (.int (if j > i then j else i)) H):=by
 intro pins s σ H xs us Q I r h
 obtain⟨i,j,rfl,q⟩:=h
 obtain⟨u,w',rfl,⟨t,rfl⟩,⟨t',rfl⟩⟩:=vals2 r
 refine max_two_ints (I.ok.hd hc) λh' tk k=>⟨_,H,I.kept k,?_,q⟩
 by_cases hj:j > i
 ·rw[Jk hj,Jk hj];exact⟨_,rfl⟩
 ·rw[Ju hj,Ju hj];exact⟨_,rfl⟩
def xU (hc:X.calm=true):cZ X (.builtin "min") (λxs H Q=>∃i j,xs= [.int i,.int j]/\Q (.int (if j < i then j else i)) H):=by
 intro pins s σ H xs us Q I r h
 obtain⟨i,j,rfl,q⟩:=h
 obtain⟨u,w',rfl,⟨t,rfl⟩,⟨t',rfl⟩⟩:=vals2 r
 refine min_two_ints (I.ok.hd hc) λh' tk k=>⟨_,H,I.kept k,?_,q⟩
 by_cases hj:j < i
 ·rw[Jk hj,Jk hj];exact⟨_,rfl⟩
 ·rw[Ju hj,Ju hj];exact⟨_,rfl⟩
def GF (K:Frag)(x:V)(H:Hp)(n:Nat):Prop:=
 match x with
 | .str y=>y.length<=sizeLine/\n=y.length
 | .byt y=>y.size<=sizeLine/\n=y.size
 | .ref p=>(∃xs,fP K H p xs/\n=xs.length)\/∃xs,dW K H p xs/\n=xs.length
 |_=>False
theorem fB:cZ X (.builtin "len") (λxs H Q=>∃x n,xs= [x]/\GF X.K x H n/\Q (.int n) H):=by
 intro pins s σ H xs us Q I r h
 obtain⟨x,n,rfl,e,q⟩:=h
 obtain⟨u,rfl,rx⟩:=vals1 r
 have hl:=l4
 have hs:sizeLine=16777216:=JL
 cases x with
 |str y=>
  obtain⟨t,rfl⟩:=rx
  obtain⟨hy,e'⟩:y.length<=sizeLine/\n=y.length:=e
  subst e'
  exact len_str (by omega) ⟨.int _,H,I.tok _,⟨_,rfl⟩,q⟩
 |byt y=>
  obtain⟨t,rfl⟩:=rx
  obtain⟨hy,e'⟩:y.size<=sizeLine/\n=y.size:=e
  subst e'
  exact PySem.W.len_bytes (by omega) ⟨.int _,H,I.tok _,⟨_,rfl⟩,q⟩
 |ref p=>
  cases rx
  have e':(∃xs,fP X.K H p xs/\n=xs.length)\/∃xs,dW X.K H p xs/\n=xs.length:=e
  rcases e' with⟨xs,hx,e'⟩ | ⟨xs,hx,e'⟩
  ·subst e'
   obtain⟨its,r',pl,hz⟩:=I.list hx
   have hlen:=r'.length
   exact Calls.call_len_list pl.isList (by simp only[Jo];omega) ⟨.int xs.length,H,I.tok _,⟨_,by simp only[Jo];rw[hlen]⟩,q⟩
  ·subst e'
   obtain⟨its,r',pl,hz⟩:=I.tuple hx
   have hlen:=r'.length
   exact len_tuple pl (by simp only[Jo];omega) ⟨.int xs.length,H,I.tok _,⟨_,by simp only[Jo];rw[hlen]⟩,q⟩
 |_=>exact (show False from e).elim
def tS:cZ X (.builtin "divmod") (λxs H Q=>∃i j,xs= [.int i,.int j]/\Ck i j/\∀p,H p=none->Q (.ref p) (upd H p (.tup [.int (i / j),.int (i % j)]))):=by
 intro pins s σ H xs us Q I r h
 obtain⟨i,j,rfl,⟨h1,h2⟩,q⟩:=h
 obtain⟨u,w',rfl,⟨t,rfl⟩,⟨t',rfl⟩⟩:=vals2 r
 refine divmod_int (by omega) ?_ (.inl (PyProof.noPylong_small (by omega)))
 rw[Int.fdiv_eq_ediv_of_nonneg i (by omega),Int.fmod_eq_emod_of_nonneg i (by omega)]
 have hn:H s.heap.objs.size=none:=I.hok.fresh (Jl _)
 refine⟨.ref s.heap.objs.size,_,?_,rfl,q _ hn⟩
 refine I.laid (λb o e=>Jj _ e) (Jl _) ⟨by simp only[JM,List.length_nil];rw[JL];decide,[.int (i / j) s.toks,.int (i % j) (s.toks + 1)],.cons ⟨_,rfl⟩ (.cons ⟨_,rfl⟩ .nil),?_⟩
 exact⟨_,Jt s.heap rfl,rfl,0,rfl,rfl⟩
end
structure DU (h:Heap)(x dx C:Addr)(mA:Str->Option Value):Prop where
 obj:h.get? x=some (PySem.W.instObj C dx)
 ns:h.Ns1 dx mA
 ne:dx≠x
def w9 {h:Heap}{dx:Addr}{mA:Str->Option Value}(n:h.Ns1 dx mA):∃od,h.get? dx=some od/\∀name,PySem.W.lookIn name od=some (mA name):=by
 obtain⟨o,es,ep,ho,hd,hk,_,hm⟩:=n
 refine⟨o,ho,λname=>?_⟩
 have e:=hm name
 unfold nsFind findBy at e
 rw[<-Array.find?_toList] at e
 unfold PySem.W.lookIn
 rw[hd]
 dsimp only
 split
 ·rename_i y q
  rw[q] at e
  exact congrArg some e
 ·rename_i q
  rw[q] at e
  have a:es.toList.any (·.refKey)=false:=by
   rw[List.any_eq_false]
   intro y hy
   obtain⟨z,t,hkey⟩:=hk y (Array.mem_toList_iff.mp hy)
   simp[DictEntry.refKey,hkey]
  have a':¬es.toList.any (·.refKey)=true:=by rw[a];exact JA
  rw[Ju a']
  exact congrArg some e
def DU.look {h:Heap}{x dx C:Addr}{mA:Str->Option Value}(I:DU h x dx C mA):∃od,PySem.W.InstAt h x (PySem.W.instObj C dx) C (some od)/\∀name,PySem.W.lookIn name od=some (mA name):=
 let ⟨od,ho,hl⟩:=w9 I.ns
 ⟨od,⟨I.obj,rfl,rfl,ho⟩,hl⟩
section
variable {P:Program}{w:World}{H H':Hp}{h h':Heap}{a C dx:Addr}{fs fs':List (Str×V)}
def Ci (hok:ju P w H h)(e:H a=some (.ins C dx fs)):∃mA,DU h a dx C mA/\(∀f,Du (fs.lookup f) (mA f))/\PySem.Within mA (fs.map (·.1))/\fs.length<=1000/\H dx=some (.own a):=by
 obtain⟨d,z,ne,ob,mA,n,r,q⟩:=(show bP P w H h a (.ins C dx fs) from hok a _ e)
 exact⟨mA,⟨ob,n,ne⟩,r,q,z,d⟩
end
structure Hj (K:Frag)(C:Addr):Prop where
 pg:PySem.W.plainGet K C Str.empty=true
 hd:PySem.W.hasDictIn K C=true
 po:PySem.W.plainOver K C=true
 sa:PySem.W.findIn K (.ref C) "__setattr__"=some (some (.builtin "object.__setattr__"))
def Hj.get {K:Frag}{C:Addr}(c:Hj K C)(f:Str):PySem.W.plainGet K C f=true:=c.pg
section
variable {X:Cx}{pins:List (Addr×Obj)}{σ:St}{H:Hp}{s:Shared}{A:Around}{E:Value->Shared->Prop}{Q:Value->Shared->Prop}{c:Value}{b:Bool}
inductive mJ (K:Frag)(H:Hp):V->Value->Prop where
 |non:mJ K H .non (.type "NoneType")
 |bl (x:Bool):mJ K H (.bl x) (.type "bool")
 |int (i:Int):mJ K H (.int i) (.type "int")
 |str (x:Str):mJ K H (.str x) (.type "str")
 |flt (x:UInt64):mJ K H (.flt x) (.type "float")
 |lst {a:Addr} {xs:List V} (e:H a=some (.lst xs)):mJ K H (.ref a) (.type "list")
 |a7 {a:Addr} {o:Obj} {xs:List V} (e:H a=some (.a7 o (.lst xs))):mJ K H (.ref a) (.type "list")
 |tup {a:Addr} {xs:List V} (e:H a=some (.tup xs)):mJ K H (.ref a) (.type "tuple")
 |dK {a:Addr} {kvs:List (Key×V)} (e:H a=some (.dK kvs)):mJ K H (.ref a) (.type "dict")
 |dT {a:Addr} {kvs:List (List Key×V)} (e:H a=some (.dT kvs)):mJ K H (.ref a) (.type "dict")
 |ins {a C dx:Addr} {fs:List (Str×V)} (e:H a=some (.ins C dx fs)) (cl:Hj K C) (ha:PySem.W.findIn K (.ref C) "__class__"=some (some (.builtin "object.__class__")))
   (hn:PySem.W.specialIn K (.builtin "object.__class__") "__get__"=some (some (.builtin "getset_descriptor.__get__"))) (htk:PySem.W.takesIn K (.builtin "object.__class__")=some true)
   (hm:PySem.W.mroIn K C (.type "object")=some true):mJ K H (.ref a) (.ref C)
theorem iy {x:V}{u t:Value}(I:Inv X pins σ H s)(rx:RelV x u)(ty:mJ X.K H x t)(e:PySem.W.kitOne X.K t c=some b)(h:∀tk,Q (.bool b) {s with toks:=tk}) :
  wpAny (model X.prog X.w) A (call (.builtin "isinstance") [u,c]) Q E s:=by
 cases ty with
 |non=>cases (show u=Value.none from rx);exact JR PySem.W.kitx_none I.kIn True.intro e (λz=>nomatch z) h
 |bl y=>cases (show u=Value.bool y from rx);exact JR PySem.W.kitx_bool I.kIn True.intro e (λz=>nomatch z) h
 |int i=>obtain⟨t,q⟩:=(show ∃t,u=Value.int i t from rx);cases q;exact JR PySem.W.kitx_int I.kIn True.intro e (λz=>nomatch z) h
 |str y=>obtain⟨t,q⟩:=(show ∃t,u=Value.str y t from rx);cases q;exact JR PySem.W.kitx_str I.kIn True.intro e (λz=>nomatch z) h
 |flt y=>obtain⟨t,q⟩:=(show ∃t,u=Value.float y t from rx);cases q;exact JR PySem.W.kitx_float I.kIn True.intro e (λz=>nomatch z) h
 | @lst a xs ea=>
  cases (show u=Value.ref a from rx)
  obtain⟨_,_,n,_,h1⟩:=(show bP X.prog X.w H s.heap a (.lst xs) from I.hok a _ ea)
  exact JR PySem.W.kitx_list I.kIn ⟨_,h1,rfl⟩ e (λz=>nomatch z) h
 | @a7 a ob xs ea=>
  cases (show u=Value.ref a from rx)
  obtain⟨_,_,_,n,_,h1⟩:=(show bP X.prog X.w H s.heap a (.a7 ob (.lst xs)) from I.hok a _ ea)
  exact JR PySem.W.kitx_list I.kIn ⟨_,h1,rfl⟩ e (λz=>nomatch z) h
 | @tup a xs ea=>
  cases (show u=Value.ref a from rx)
  obtain⟨_,_,_,p⟩:=(show bP X.prog X.w H s.heap a (.tup xs) from I.hok a _ ea)
  obtain⟨o,h1,h2,_⟩:=p
  exact JR PySem.W.kitx_tuple I.kIn ⟨o,h1,h2⟩ e (λz=>nomatch z) h
 | @dK a kvs ea=>
  cases (show u=Value.ref a from rx)
  obtain⟨_,_,vs,_,p⟩:=(show bP X.prog X.w H s.heap a (.dK kvs) from I.hok a _ ea)
  obtain⟨o,es,ep,h1,h2,_⟩:=p
  exact JR PySem.W.kitx_dict I.kIn ⟨o,h1,h2.1⟩ e (λz=>nomatch z) h
 | @dT a kvs ea=>
  cases (show u=Value.ref a from rx)
  obtain⟨_,_,xs,_,o,es,ep,h1,h2,_⟩:=(show bP X.prog X.w H s.heap a (.dT kvs) from I.hok a _ ea)
  exact JR PySem.W.kitx_dict I.kIn ⟨o,h1,h2.1⟩ e (λz=>nomatch z) h
 | @ins a C dx fs ea cl ha hn htk hm=>
  cases (show u=Value.ref a from rx)
  obtain⟨mA,O,_⟩:=Ci I.hok ea
  obtain⟨od,J,_⟩:=O.look
  exact JR (PySem.W.kitx_own (cl.get _) cl.hd ha hn htk hm) I.kIn J e (λz=>nomatch z) h
end
structure dX (k:Nat)(A:Around):Prop where
 hd:A.handled=none
 dp:A.depth + 3 * k + 5 < recursionLimit
 un:A.units + 16 * k + 200 < cLine
 gd:A.guards=some []
def dX.mono {j k:Nat}{A:Around}(r:dX k A)(h:j<=k):dX j A:=⟨r.hd,by have:=r.dp;omega,by have:=r.un;omega,r.gd⟩
def dX.deeper {k:Nat}{A:Around}(r:dX (k + 1) A)(env:Env):dX k (A.deeper env):=
 ⟨r.hd,by have:=r.dp;show A.depth + 1 + 3 * k + 5 < _;omega,by have:=r.un;show A.units + 3 + 16 * k + 200 < _;omega,r.gd⟩
def dX.depth {k:Nat}{A:Around}(r:dX k A):A.depth < recursionLimit:=by have:=r.dp;omega
def dX.units {k:Nat}{A:Around}(r:dX k A):A.units + 64 < cLine:=by have:=r.un;omega
def G6:TA:=λ_ H Q=>Q [] H
def Gi (ta:TE)(tr:TA):TA:=λσ H Q=>ta σ H λx H1=>tr σ H1 λxs H2=>Q (x :: xs) H2
section
variable {X:Cx}{e:Expr}{es:List Expr}{te:TE}{t:TA}{pos:Pos}
def aI:PA X [] G6:=λ_ _ _ _ H Q I h=>Calls.spliced_nil ⟨[],H,I,.nil,h⟩
def aj (ha:PE X e te)(hr:PA X es t)(hs:starEach (e :: es) X.env=(false,eval e X.env) :: starEach es X.env:=by rfl):PA X (e :: es) (Gi te t):=by
 intro pos pins s σ H Q I h
 rw[hs]
 show wpAny _ _ (spliced ((false,eval e X.env) :: backTo pos (starEach es X.env))) _ _ s
 refine Calls.spliced_cons (bW (ha pins s σ H _ I h) λu s1 ⟨x,H1,I1,r1,q1⟩=>?_)
 exact bW (hr pos pins s1 σ H1 _ I1 q1) λus s2 ⟨xs,H2,I2,r2,q2⟩=>⟨x :: xs,H2,I2,.cons r1 r2,q2⟩
def Ha (t:TA):TE:=λσ H Q=>t σ H λxs H1=>xs.length<=sizeLine/\∀p,H1 p=none->Q (.ref p) (upd H1 p (.tup xs))
def HH (t:TA):TE:=λσ H Q=>t σ H λxs H1=>xs.length<=sizeLine/\∀p,H1 p=none->Q (.ref p) (upd H1 p (.lst xs))
def ui {x1}(h:PA X es t):PE X (.Tuple es x1 pos) (Ha t):=by
 intro pins s σ H Q I hq
 refine wpAny_Tuple_spliced (bW (h pos pins s σ H _ I hq) λus s1 ⟨xs,H1,I1,r,z,q⟩=>⟨by rw[<-r.length];exact z,?_⟩)
 have hf:H1 s1.heap.objs.size=none:=I1.hok.fresh (Jl _)
 refine⟨.ref s1.heap.objs.size,upd H1 s1.heap.objs.size (.tup xs),I1.laid (t':=s1.toks) (λb u e=>Jj _ e) (Jl _) ?_,rfl,q _ hf⟩
 exact⟨z,us,r,mK.new _ _⟩
def lS (h:PA X es t):PE X (.List es pos) (HH t):=by
 intro pins s σ H Q I hq
 refine wpAny_List_spliced (bW (h pos pins s σ H _ I hq) λus s1 ⟨xs,H1,I1,r,z,q⟩=>⟨by rw[<-r.length];exact z,?_⟩)
 have hf:H1 s1.heap.objs.size=none:=I1.hok.fresh (Jl _)
 refine⟨.ref s1.heap.objs.size,upd H1 s1.heap.objs.size (.lst xs),I1.laid (t':=s1.toks) (λb u e=>Jj _ e) (Jl _) ?_,rfl,q _ hf⟩
 exact⟨z,us,0,r,Jt _ rfl⟩
end
abbrev Sp:=List V->Hp->VK->XK->Prop
abbrev rj:=List Env->Hp->Shared->XK->Value->Shared->Prop
structure tE (P:Program)(w:World)(K:Frag)(mg:Str->Option Value)(base:Heap)(A:Around)(outer:List Env)(s:Shared)(H:Hp):Prop where
 frames:A.frames=some outer
 mod:Mod K mg base
 bs:∀b o,base.get? b=some o->s.heap.get? b=some o/\H b=none
 bsz:base.objs.size<=s.heap.objs.size
 funs:s.heap.FunFrames base outer
 frf:∀b∈dG outer,H b=none
 hok:ju P w H s.heap
 bare:AllBare s.gens
def CE (outer:List Env)(P:Program)(w:World)(H:Hp)(s:Shared)(Q:VK)(u:Value)(s':Shared):Prop:=
 ∃v H',s'.os=s.os/\AllBare s'.gens/\Un (dG outer) [] H H' s.heap s'.heap/\ju P w H' s'.heap/\RelV v u/\Q v H'
def CR (CX:rj)(outer:List Env)(P:Program)(w:World)(H:Hp)(s:Shared)(Q:VK)(E:XK)(r:Result)(s':Shared):Prop:=
 match r with
 | .ok (.ret u)=>CE outer P w H s Q u s'
 | .ok _=>False
 | .error e=>CX outer H s E e s'
structure fF (P:Program)(w:World)(K:Frag)(mg:Str->Option Value)(base:Heap)(CX:rj)(k:Nat)(f:Addr)(fd:FuncData)(ps:List Str)(sp:Sp):Prop where
 len:∀vs H Q E,sp vs H Q E->vs.length=ps.length
 run:∀(A:Around) (outer:List Env) (s:Shared) (H:Hp) (args:Args) (us:List Value) (vs:List V) (Q:VK) (E:XK),dX k A->tE P w K mg base A outer s H->BindsTo s fd args (ps.zip us)->Vals vs us->sp vs H Q E->
  codeAny (model P w) A (.call (.ref f) args) (CR CX outer P w H s Q E) s
def fF.mono {P:Program}{w:World}{K:Frag}{mg:Str->Option Value}{base:Heap}{CX:rj}{j k:Nat}{f:Addr}{fd:FuncData}{ps:List Str}{sp:Sp}(F:fF P w K mg base CX j f fd ps sp)(h:j<=k) :
  fF P w K mg base CX k f fd ps sp:=⟨F.len,λA outer s H args us vs Q E hr=>F.run A outer s H args us vs Q E (hr.mono h)⟩
def fF.imp {P:Program}{w:World}{K:Frag}{mg:Str->Option Value}{base:Heap}{CX:rj}{k:Nat}{f:Addr}{fd:FuncData}{ps:List Str}{sp sp':Sp}(F:fF P w K mg base CX k f fd ps sp)
  (h:∀vs H Q E,sp' vs H Q E->sp vs H Q E):fF P w K mg base CX k f fd ps sp':=
 ⟨λvs H Q E q=>F.len vs H Q E (h _ _ _ _ q),λA outer s H args us vs Q E hr he hb hv hs=>F.run A outer s H args us vs Q E hr he hb hv (h _ _ _ _ hs)⟩
section
variable {X:Cx}{pins:List (Addr×Obj)}{σ:St}{H:Hp}{s s':Shared}
def Inv.env0 (I:Inv X pins σ H s):tE X.prog X.w X.K X.mg X.base X.A X.stack s H:=
 ⟨I.ok.frames,I.ok.mod,I.bs,Kh I.ok.bsz I.sz,I.stack,I.stkFree,I.hok,I.bare⟩
def Inv.after {Q:VK}{u:Value}(I:Inv X pins σ H s)(h:CE X.stack X.prog X.w H s Q u s'):EP X pins σ Q u s':=by
 obtain⟨v,H',os,bare,un,hok,r,q⟩:=h
 obtain⟨hh,g,d,t,os'⟩:=s'
 obtain rfl:os'=s.os:=os
 exact⟨v,H',I.call (h':=hh) (g':=g) (d':=d) (t':=t) (ch:=[]) un hok bare (λb z=>absurd z (by simp)),r,q⟩
end
def yR (sp:Sp)(dvs:List V)(E:XK)(t:TA):TE:=λσ H Q=>t σ H λvs H1=>sp (vs ++ dvs) H1 Q E
def Binds (K:Frag)(fd:FuncData)(ps:List Str)(ds:List Value):Prop:=
 ∀(s:Shared) (us:List Value),K.In s.heap->(us ++ ds).length=ps.length->BindsTo s fd ⟨us,[]⟩ (ps.zip (us ++ ds))
def Binds.all {K:Frag}{fd:FuncData}{ps:List Str}(h:∀us:List Value,us.length=ps.length->bindArgs fd ⟨us,[]⟩=pure (ps.zip us)):Binds K fd ps []:=λs us _ hl=>by
 rw[append_nil] at hl ⊢
 exact .of_eq (h us hl)
def Passes (CX:rj)(X:Cx)(E:XK):Prop:=∀(pins:List (Addr×Obj)) (σ:St) (H:Hp) (s:Shared) (e:Value) (s':Shared),Inv X pins σ H s->CX X.stack H s E e s'->X.xe e s'
section
variable {X:Cx}{CX:rj}{k:Nat}{f C:Addr}{fd:FuncData}{ps:List Str}{sp:Sp}{dvs:List V}{ds:List Value}{E:XK}{x m:Str}{p pos apos:Pos}{e o:Expr}{es:List Expr}{ta:TE}{t:TA}
theorem CT {pins:List (Addr×Obj)}{σ:St}{H:Hp}{s:Shared}{Q:VK}{us:List Value}{vs:List V}(F:fF X.prog X.w X.K X.mg X.base CX k f fd ps sp)(hr:dX k X.A)(hb:Binds X.K fd ps ds)(hd:Vals dvs ds)(hx:Passes CX X E)
  (I:Inv X pins σ H s) (r:Vals vs us) (h:sp (vs ++ dvs) H Q E):wpAny (model X.prog X.w) X.A (call (.ref f) us) (EP X pins σ Q) X.xe s:=by
 have r2:Vals (vs ++ dvs) (us ++ ds):=r.append hd
 have hl:(us ++ ds).length=ps.length:=by rw[<-r2.length];exact F.len _ _ _ _ h
 refine wpAny_call (Kv (F.run X.A X.stack s H ⟨us,[]⟩ (us ++ ds) (vs ++ dvs) Q E hr I.env0 (hb s us I.kIn hl) r2 h) λr s' hq=>?_)
 cases r with
 |error e=>exact hx pins σ H s e s' I hq
 |ok fl=>
  cases fl with
  |ret u=>exact I.after hq
  |next=>exact False.elim hq
  |brk=>exact False.elim hq
  |cont=>exact False.elim hq
def mS (F:fF X.prog X.w X.K X.mg X.base CX k f fd ps sp)(hr:dX k X.A)(hg:Gl X x)(hm:X.mg x=some (.ref f))(hk:PySem.W.keepIn X.K (.ref f)=true)(hb:Binds X.K fd ps ds)(hd:Vals dvs ds)(hx:Passes CX X E)
  (ha:PA X (e :: es) t) (hdb:(x == ("__debug__":Str))=false:=by decide) (he:starEach (e :: es) X.env=(false,eval e X.env) :: starEach es X.env:=by rfl) (hpl:(backTo pos (starEach es X.env)).any (·.1)=false:=by rfl) :
  PE X (.Call (.Name x p) (e :: es) [] pos) (yR sp dvs E t):=by
 intro pins s σ H Q I h
 refine KL (j5 I hg hm ?_ hdb)
 refine PySem.W.callWith_K (h₀:=X.base) I.ok.mod.kin hk (bW (ha pos pins s σ H _ I h) λus s1 ⟨vs,H1,I1,r,q⟩=>⟨I1.kIn,?_⟩) he hpl
 exact CT F hr hb hd hx I1 r q
end
structure aC (N P:List Str)(sc:Scope):Prop where
 kind:sc.kind=.function
 co:sc.isCoroutine=false
 gen:sc.isGenerator=false
 nd:N.Nodup
 pre:N.take P.length=P
 par:∀x∈P,sc.names.lookup x=some .local\/sc.names.lookup x=some .cell
 nofree:∀y∈sc.names,y.2≠.free
theorem pR {kindOf:Str->Option NameKind}{x:Str}:∀{binds:List (Str×Value)} {m:Str->Option Value},(∀v,(x,v)∉binds)->bindL kindOf binds m x=m x
 | [],_,_=>rfl
 | (n,v) :: r,m,h=>by
  unfold bindL
  rw[pR λw hw=>h w (Jx _ hw)]
  split
  ·have:x≠n:=by rintro rfl;exact h v JB
   simp[this]
  ·rfl
theorem qk {kindOf:Str->Option NameKind}{x:Str}:∀{binds:List (Str×Value)} {m:Str->Option Value},(∀v,(x,v)∉binds)->bindC kindOf binds m x=m x
 | [],_,_=>rfl
 | (n,v) :: r,m,h=>by
  unfold bindC
  rw[qk λw hw=>h w (Jx _ hw)]
  split
  ·rfl
  ·have:x≠n:=by rintro rfl;exact h v JB
   simp[this]
theorem pU {kindOf:Str->Option NameKind}{x:Str}{v:Value}:∀{P:List Str} {vs:List Value} {i:Nat} {m:Str->Option Value},P.Nodup->P[i]? =some x->vs[i]? =some v->kindOf x=some .local->
  bindL kindOf (P.zip vs) m x=some v
 | [],_,_,_,_,h,_,_=>by simp at h
 |_ :: _,[],_,_,_,_,h,_=>by simp at h
 |p :: P,w :: vs,0,m,nd,h1,h2,hk=>by
  simp at h1 h2;subst h1;subst h2
  show bindL kindOf ((p,w) :: P.zip vs) m p=_
  unfold bindL
  rw[pR λv hv=>(Kg.mp nd).1 (K9 hv).1,Jk hk]
  simp
 |p :: P,w :: vs,i + 1,m,nd,h1,h2,hk=>by
  show bindL kindOf ((p,w) :: P.zip vs) m x=_
  unfold bindL
  exact pU (i:=i) (Kg.mp nd).2 (by simpa using h1) (by simpa using h2) hk
theorem pF {kindOf:Str->Option NameKind}{x:Str}{v:Value}:∀{P:List Str} {vs:List Value} {i:Nat} {m:Str->Option Value},P.Nodup->P[i]? =some x->vs[i]? =some v->kindOf x≠some .local->
  bindC kindOf (P.zip vs) m x=some v
 | [],_,_,_,_,h,_,_=>by simp at h
 |_ :: _,[],_,_,_,_,h,_=>by simp at h
 |p :: P,w :: vs,0,m,nd,h1,h2,hk=>by
  simp at h1 h2;subst h1;subst h2
  show bindC kindOf ((p,w) :: P.zip vs) m p=_
  unfold bindC
  rw[qk λv hv=>(Kg.mp nd).1 (K9 hv).1,Ju hk]
  simp
 |p :: P,w :: vs,i + 1,m,nd,h1,h2,hk=>by
  show bindC kindOf ((p,w) :: P.zip vs) m x=_
  unfold bindC
  exact pF (i:=i) (Kg.mp nd).2 (by simpa using h1) (by simpa using h2) hk
def start (N:List Str)(vs:List V):St:=vs.map some ++ List.replicate (N.length - vs.length) none
def jz (CX:rj)(P:Program)(w:World)(K:Frag)(mg:Str->Option Value)(base:Heap)(N:List Str)(qual:Str)(scope:Scope)(f:Addr)(cd:Value)(A:Around)(outer:List Env)(s:Shared)(H:Hp)(E:XK):Cx where
 prog:=P
 w:=w
 K:=K
 mg:=mg
 base:=base
 A:=A.deeper (envOfC qual scope s.heap.objs.size f cd)
 N:=N
 s₀:=s
 H₀:=H
 env:=envOfC qual scope s.heap.objs.size f cd
 outer:=outer
 stack:=envOfC qual scope s.heap.objs.size f cd :: outer
 ex:=[]
 calm:=true
 fn:=λ_=>true
 pn:=[]
 xe:=λe s'=>wpAny (model P w) (A.deeper (envOfC qual scope s.heap.objs.size f cd)) (leaving (envOfC qual scope s.heap.objs.size f cd) e) (λ_ s''=>CX outer H s E e s'') (λe' s''=>CX outer H s E e' s'') s'
def ua {sc:Scope}{n:Nat}{x:Str}(h:sc.names.lookup x=some .cell):∃c,(cellsFrom n sc.names []).lookup x=some c:=by
 have q:=Ks sc.names n [] (.inl h)
 exact Kj.mp q
def qb {CX:rj}{P:Program}{w:World}{K:Frag}{mg:Str->Option Value}{base:Heap}{N ps:List Str}{qual:Str}{scope:Scope}{f:Addr}{cd:Value}{A:Around}{outer:List Env}{s s1:Shared}{H:Hp}{E:XK}{us:List Value}{vs:List V}
  (S:aC N ps scope) (hd:A.handled=none) (e0:tE P w K mg base A outer s H) (hl:vs.length=ps.length) (r:Vals vs us)
  (x:InCallC s s.heap.objs.size (bindL (envOfC qual scope s.heap.objs.size f cd).kindOf (ps.zip us) λ_=>none) (cellsFrom (s.heap.objs.size + 1) scope.names []) (bindC (envOfC qual scope s.heap.objs.size f cd).kindOf (ps.zip us) λ_=>none) s1) :
  Inv (jz CX P w K mg base N qual scope f cd A outer s H E) [] (start N vs) H s1:=by
 have hpl:ps.length<=N.length:=by have:=congrArg List.length S.pre;rw[Ko] at this;omega
 obtain⟨h1,tk,rfl,hk⟩:=x.done
 have noA:∀b:Addr,b∉(jz CX P w K mg base N qual scope f cd A outer s H E).ex:=λb z=>absurd (show b∈([]:List Addr) from z) (by simp)
 refine⟨⟨e0.mod,S.kind,rfl,rfl,Jl _,λy z c h1 h2=>?_,λy hy=>?_,λy c _ h=>?_,λ_=>hd,Around.frames_deeper e0.frames,.inr ⟨rfl,rfl⟩,λb z=>absurd z (noA b),e0.bs,e0.bsz,λb _ _=>noA b,λb z=>absurd z (noA b),e0.funs,e0.frf⟩,
  rfl,e0.bare,Un.kept hk,⟨_,x.toInCall.ns,λi y v h1 h2 h3=>?_⟩,λy c h=>⟨_,x.cell y c h⟩,e0.hok.fresh (Jl _),λy c h=>?_,λp hp=>absurd (show p∈([]:List (Addr×Obj)) from hp) (by simp),e0.hok.kept hk,?_⟩
 ·exact name_of_addr x.apart (JW h1) (JW h2)
 ·have hy:scope.names.lookup y=some .cell\/scope.names.lookup y=some .free:=hy
  rcases hy with hy |hy
  ·exact ua hy
  ·exact absurd rfl (S.nofree _ (JW hy))
 ·exact Lg (x.above y c (JW h))
 ·have hi:i < vs.length:=by
   unfold start at h2
   by_cases hi:i < vs.length
   ·exact hi
   ·rw[J0 (by simpa using hi)] at h2
    rw[Kd] at h2
    split at h2 <;> cases h2
  have ha:vs[i]? =some v:=by
   unfold start at h2
   rw[JV (by simpa using hi),JC] at h2
   cases e:vs[i]? with
   |none=>rw[e] at h2;cases h2
   |some a=>rw[e] at h2;cases h2;rfl
  obtain⟨u,hu,rv⟩:=r.get ha
  have hp:ps[i]? =some y:=by
   rw[<-S.pre,List.getElem?_take_of_lt (by omega)];exact h1
  have ndP:ps.Nodup:=by rw[<-S.pre];exact S.nd.sublist (List.take_sublist _ _)
  refine⟨u,rv,?_⟩
  rcases S.par y (JI hp) with k |k
  ·exact .inl ⟨k,pU ndP hp hu k⟩
  ·obtain⟨c,e⟩:=ua (n:=s.heap.objs.size + 1) k
   refine .inr ⟨.inl k,c,e,?_⟩
   have q:=x.cell y c e
   rw[pF ndP hp hu (by show scope.names.lookup y≠_;rw[k];decide)] at q
   exact q
 ·exact e0.hok.fresh (Lg (x.above y c (JW h)))
 ·unfold start
  show _=N.length
  rw[JP,JE,Ki]
  omega
theorem Cq {CX:rj}{P:Program}{w:World}{K:Frag}{mg:Str->Option Value}{base:Heap}{k:Nat}{f:Addr}{name qual:Str}{params:Arguments}{body:List Stmt}{scope:Scope}{dV kV doc pm cdv ct oc:Value}{an od:Option Addr}
  {osl:Array (Option Value)} {N ps:List Str} {sp:Sp} (lk:K.lookup f=some ⟨oc,od,.func (PySem.W.fnOf name qual params body scope dV kV doc pm an cdv ct),osl⟩) (hcd:PySem.W.codeIn K cdv qual=true) (S:aC N ps scope)
  (len:∀vs H Q E,sp vs H Q E->vs.length=ps.length)
  (hbody:∀(A:Around) (outer:List Env) (s:Shared) (H:Hp) (vs:List V) (Q:VK) (E:XK),dX k (A.deeper (envOfC qual scope s.heap.objs.size f cdv))->sp vs H Q E->
   ∃t,me (jz CX P w K mg base N qual scope f cdv A outer s H E) body t/\t {nx:=λ_ H'=>Q .non H',rt:=Q} (start N vs) H) :
  fF P w K mg base CX (k + 1) f (PySem.W.fnOf name qual params body scope dV kV doc pm an cdv ct) ps sp:=by
 refine⟨len,λA outer s H args us vs Q E hr e0 hb r hsp=>?_⟩
 have hl:=len _ _ _ _ hsp
 have KX:K.In s.heap:=e0.mod.kin.keeps λb o e=>(e0.bs b o e).1
 have lim:s.heap.NoLimit:=e0.mod.nolimit.keeps λb o e=>(e0.bs b o e).1
 have hkind:∀y∈ps.zip us,scope.names.lookup y.1=some .local\/(scope.names.lookup y.1=some .cell/\((cellsFrom (s.heap.objs.size + 1) scope.names []).lookup y.1).isSome=true):=λ⟨n,v⟩ hy=>by
  rcases S.par n (K9 hy).1 with q |q
  ·exact .inl q
  ·exact .inr ⟨q,Ks _ _ _ (.inl q)⟩
 refine codeAny_call_function hr.depth (KX _ _ lk) rfl S.co S.gen rfl (PySem.W.codeRec_of KX hcd) (hb _ _ _ _ ?_)
 refine K5 S.kind hkind λenv he s1 x=>?_
 subst he
 refine⟨lim.keeps x.toInCall.keep,codeAny_func ?_⟩
 obtain⟨t,ht,hq⟩:=hbody A outer s H vs Q E (hr.deeper _) hsp
 have I:Inv (jz CX P w K mg base N qual scope f cdv A outer s H E) [] (start N vs) H s1:=qb S hr.hd e0 hl r x
 refine J9 (ht [] s1 (start N vs) H _ I hq) (λfl s' hs=>?_) λe s' hs=>hs
 have fin:∀{σ':St} {H':Hp} {v:V} {u:Value},Inv (jz CX P w K mg base N qual scope f cdv A outer s H E) [] σ' H' s'->RelV v u->Q v H'->CE outer P w H s Q u s':=
  λ{σ' H' v u} J rv q=>⟨v,H',J.os,J.bare,J.base,J.hok,rv,q⟩
 cases fl with
 |ret u=>
  obtain⟨v,σ',H',J,rv,q⟩:=hs
  exact fin J rv q
 |next=>
  obtain⟨σ',H',J,q⟩:=hs
  exact fin (v:=V.non) (u:=Value.none) J rfl q
 |brk=>
  obtain⟨_,_,_,q⟩:=hs
  exact False.elim q
 |cont=>
  obtain⟨_,_,_,q⟩:=hs
  exact False.elim q
section
variable {X:Cx}{x:Str}{p pos:Pos}{e:Expr}{es:List Expr}{t:TA}{id T:String}{r:List V->Hp->VK->Prop}
def IG (r:List V->Hp->VK->Prop)(t:TA):TE:=λσ H Q=>t σ H λvs H1=>r vs H1 Q
def aY (hc:cZ X (.builtin id) r)(hg:Gl X x)(hm:X.mg x=none)(hv:bootBuiltins x=some (.builtin id))(ha:PA X (e :: es) t)(hn:x≠"__name__":=by decide)(hdb:(x == ("__debug__":Str))=false:=by decide)
  (he:starEach (e :: es) X.env=(false,eval e X.env) :: starEach es X.env:=by rfl) (hpl:(backTo pos (starEach es X.env)).any (·.1)=false:=by rfl):PE X (.Call (.Name x p) (e :: es) [] pos) (IG r t):=by
 intro pins s σ H Q I h
 refine KL (kR I hg hm hv ?_ hn hdb)
 exact PyProof.Rows.callWith_builtin1 (bW (ha pos pins s σ H _ I h) λus s1 ⟨vs,H1,I1,r1,q1⟩=>hc pins s1 σ H1 vs us Q I1 r1 q1) he hpl
def ei (hc:cZ X (.type T) r)(hg:Gl X x)(hm:X.mg x=none)(hv:bootBuiltins x=some (.type T))(ha:PA X (e :: es) t)(hn:x≠"__name__":=by decide)(hdb:(x == ("__debug__":Str))=false:=by decide)
  (he:starEach (e :: es) X.env=(false,eval e X.env) :: starEach es X.env:=by rfl) (hpl:(backTo pos (starEach es X.env)).any (·.1)=false:=by rfl):PE X (.Call (.Name x p) (e :: es) [] pos) (IG r t):=by
 intro pins s σ H Q I h
 refine KL (kR I hg hm hv ?_ hn hdb)
 exact Kf (bW (ha pos pins s σ H _ I h) λus s1 ⟨vs,H1,I1,r1,q1⟩=>hc pins s1 σ H1 vs us Q I1 r1 q1) he hpl
end
end L2
namespace HT
open PySem PyProof.Rows
section
open PySem.SeqAt
open PySem.AutoSeq1 (wpAny_loadPart')
open PySem.MeetsSeq PySem.MeetsSeq2 PySem.MeetsSeq3
end
section
variable {prog:Program}{w:World}{A:Around}{E:Value->Shared->Prop}{s:Shared}
def Bm {t b:Addr}{vs ws:List Value}{Q:Value->Shared->Prop}(ht:IsTup s.heap t vs.toArray)(hb:IsTup s.heap b ws.toArray)(hv:vs≠ [])
  (h1:ws= []->Q (.ref t) s) (h2:ws≠ []->Q (.ref s.heap.objs.size) {s with heap:=s.heap.push {cls:=.type "tuple",data:=.seq (vs ++ ws).toArray}})
  (hsz:vs.length + ws.length<=sizeLine):wpAny (model prog w) A (binaryOp .Add (.ref t) (.ref b)) Q E s:=by
 obtain⟨⟨cls,dd,data,sl⟩,ho,hc,n,hd⟩:=id ht
 obtain⟨⟨cls2,dd2,data2,sl2⟩,ho2,hc2,n2,hd2⟩:=id hb
 simp only at hc hd hc2 hd2
 subst hc hd hc2 hd2
 have e:vs.toArray ++ ws.toArray=(vs ++ ws).toArray:=by simp
 by_cases hw:ws= []
 ·exact concat_meets ⟨_,ho,rfl⟩ ⟨_,ho2,rfl⟩ noFill_tuple_add seq_tuple_add PySem.F.slot_tuple_add PySem.F.entry_tuple_add (Lj _ _)
   (tuple_addW1 t b vs.toArray ws.toArray n n2 dd dd2 sl sl2 (by simpa using hv) (by simp[hw])) ⟨ho,ho2,h1 hw⟩
 ·refine concat_meets ⟨_,ho,rfl⟩ ⟨_,ho2,rfl⟩ noFill_tuple_add seq_tuple_add PySem.F.slot_tuple_add PySem.F.entry_tuple_add (Lj _ _)
   (tuple_addW2 t b vs.toArray ws.toArray n n2 dd dd2 sl sl2 (by simpa using hv) (by simpa using hw) (by rw[Jo,Jo];exact hsz)) ⟨ho,ho2,?_⟩
  rw[e]
  exact h2 hw
def cX (n d:Nat):Option Int->Nat
 |none=>d
 |some v=>if v < 0 then (v + (n:Int)).toNat else min v.toNat n
def zM (n d:Nat):cX n d none=d:=rfl
def Bh (n d k:Nat):cX n d (some (k:Int))=min k n:=by
 show (if (k:Int) < 0 then ((k:Int) + (n:Int)).toNat else min (k:Int).toNat n)=min k n
 rw[Ju (by omega),JO]
theorem Dg (n d:Nat)(hd:d<=n)(o:Option Int):cX n d o<=n:=by
 cases o with
 |none=>exact hd
 |some v=>
  show (if v < 0 then (v + (n:Int)).toNat else min v.toNat n)<=n
  by_cases hv:v < 0
  ·rw[Jk hv];omega
  ·rw[Ju hv];exact Nat.min_le_right _ _
def wJ (v:Int)(n d:Nat):(if v < 0 then max (v + (n:Int)) 0 else min v (n:Int))=((cX n d (some v):Nat):Int):=by
 show (if v < 0 then max (v + (n:Int)) 0 else min v (n:Int))=(((if v < 0 then (v + (n:Int)).toNat else min v.toNat n):Nat):Int)
 by_cases hv:v < 0
 ·simp only[Jk hv];omega
 ·simp only[Ju hv];omega
def uo (lo hi:Option Int)(n:Nat):Builtin.Slice.sliceAdjust lo hi 1 (n:Int)=(((cX n 0 lo:Nat):Int),((cX n n hi:Nat):Int)):=by
 have h1:¬((1:Int) < 0):=by omega
 unfold Builtin.Slice.sliceAdjust
 simp only[h1,K1]
 refine Prod.ext ?_ ?_
 ·cases lo with
  |none=>rfl
  |some v=>exact wJ v n 0
 ·cases hi with
  |none=>rfl
  |some v=>exact wJ v n n
def u4 (i j:Nat):Builtin.Slice.slicePlaces (i:Int) (j:Int) 1=j - i:=by
 unfold Builtin.Slice.slicePlaces
 have h1:(1:Int) > 0:=by omega
 simp only[h1,Km,Int.ediv_one]
 split <;> omega
theorem nS {v:Value}{o:Option Int}{Q:Option Int->Shared->Prop}(p:IsPart v o)(h:Q o s):wpAny (model prog w) A (Builtin.Slice.slicePartIndex v) Q E s:=by
 cases p with
 |none=>exact slicePart_none h
 |int i t=>exact slicePart_int h
def iK {sl:Addr}{vl vu:Value}{lo hi:Option Int}{n:Nat}{Q:Int×Int×Nat->Shared->Prop}(hs:s.heap.IsSliceOf sl vl vu .none)(pl:IsPart vl lo)(pu:IsPart vu hi)
  (h:Q (((cX n 0 lo:Nat):Int),1,cX n n hi - cX n 0 lo) s):wpAny (model prog w) A (Builtin.Slice.sliceApplied (.ref sl) (pure (n:Int))) Q E s:=by
 obtain⟨os,hos,hcs,hds⟩:=id hs
 unfold Builtin.Slice.sliceApplied Builtin.Slice.sliceFields
 refine Ji (Ji (Kb hos hds (x:=vl) rfl (Ji (Kb hos hds (x:=vu) rfl (Ji (Kb hos hds (x:=.none) rfl (Jp ?_)))))))
 refine Ji (slicePart_none ?_)
 show wpAny _ _ (if ((1:Int) == 0)=true then _ else _) _ _ s
 rw[Ju (by decide)]
 refine Ji (nS pl (Ji (nS pu (Ji (Jp ?_)))))
 show wpAny _ _ (match Builtin.Slice.sliceAdjust lo hi 1 (n:Int) with | (lo,hi)=>pure (lo,(1:Int),Builtin.Slice.slicePlaces lo hi 1)) _ _ s
 rw[uo lo hi n]
 show wpAny _ _ (pure (((cX n 0 lo:Nat):Int),(1:Int),Builtin.Slice.slicePlaces ((cX n 0 lo:Nat):Int) ((cX n n hi:Nat):Int) 1)) _ _ s
 rw[u4]
 exact Jp h
def y1 (xs:Array Value)(i k:Nat):((List.range k).filterMap λ(m:Nat)=>xs[((i:Int) + (m:Int) * 1).toNat]?).toArray=((xs.toList.drop i).take k).toArray:=by
 have e:(λ(m:Nat)=>xs[((i:Int) + (m:Int) * 1).toNat]?)=λm=>xs[i + m]?:=by
  funext m
  have:((i:Int) + (m:Int) * 1).toNat=i + m:=by omega
  rw[this]
 rw[e]
 have:=pick_run xs i k
 rw[List.filterMap_map] at this
 have e2:((λx=>xs[x]?) ∘ λx=>i + x)=λm=>xs[i + m]?:=rfl
 rw[e2] at this
 rw[this]
def lu {t sl:Addr}{items:Array Value}{vl vu:Value}{lo hi:Option Int}{Q:Value->Shared->Prop}(ht:IsTup s.heap t items)(hs:s.heap.IsSliceOf sl vl vu .none)(pl:IsPart vl lo)(pu:IsPart vu hi)
  (hw:¬(cX items.size 0 lo=0/\cX items.size items.size hi=items.size))
  (h:Q (.ref s.heap.objs.size) {s with heap:=s.heap.push {cls:=.type "tuple",data:=.seq ((items.toList.drop (cX items.size 0 lo)).take (cX items.size items.size hi - cX items.size 0 lo)).toArray}})
  (hsz:items.size<=sizeLine):wpAny (model prog w) A (getItem (.ref t) (.ref sl)) Q E s:=by
 have htake:sizeOk (.seq ((items.toList.drop (cX items.size 0 lo)).take (cX items.size items.size hi - cX items.size 0 lo)).toArray):=by
  show ((items.toList.drop (cX items.size 0 lo)).take (cX items.size items.size hi - cX items.size 0 lo)).toArray.size<=sizeLine
  rw[Jo,Ko,K2,Array.length_toList]
  omega
 have hj:cX items.size items.size hi<=items.size:=Dg _ _ (Jl _) hi
 obtain⟨os,hos,hcs,hds⟩:=id hs
 have hTs:s.TypeIs (.ref sl) "slice":=⟨os,hos,hcs⟩
 unfold getItem
 try with_reducible refine K4 ?_
 first |refine Ji (Jp ?_) |skip
 refine Ji (wpAny_sequenceKey ht.typeIs (by decide) ?_)
 refine Ji (KI (name:=Str.ofString "__getitem__") ht.typeIs JZ
  (wpAny_call_entry JZ ht.typeIs entry_tuple_getitem ?_ (args_tuple_getitem _ _)))
 show wpAny _ _ (Builtin.Tuple.tupleItemsOf (.ref t) >>= _) _ _ s
 refine Ji (tupleItemsOf_ ht ?_)
 refine Ji (wpAny_typeOf hTs ?_)
 rw[Jk (by decide)]
 refine Ji (iK hs pl pu ?_)
 have hno:¬((((cX items.size 0 lo:Nat):Int) == 0 && (1:Int) == 1 && (cX items.size items.size hi - cX items.size 0 lo) == items.size)=true):=by
  intro q
  rw[JD,JD] at q
  have q1:((cX items.size 0 lo:Nat):Int)=0:=eq_of_beq q.1.1
  have q2:cX items.size items.size hi - cX items.size 0 lo=items.size:=eq_of_beq q.2
  exact hw ⟨by omega,by omega⟩
 show wpAny _ _ (if (((cX items.size 0 lo:Nat):Int) == 0 && (1:Int) == 1 && (cX items.size items.size hi - cX items.size 0 lo) == items.size)=true then _ else _) _ _ s
 rw[Ju hno,y1]
 first
  |exact Ji (m:=Builtin.Tuple.tupleExact _) (JU (Jp ⟨_,rfl,Jp h⟩) htake)
  |exact Ji (m:=Builtin.Tuple.tupleExact _) (JU (Ji (Jp (Jp ⟨_,rfl,Jp h⟩))) htake)
  |exact Ji (Ji (m:=Builtin.Tuple.tupleExact _) (JU (Jp (Jp ⟨_,rfl,Jp h⟩)) htake))
  |exact Ji (Ji (m:=Builtin.Tuple.tupleExact _) (JU (Jp ⟨_,rfl,Jp h⟩) htake))
end
end HT
namespace L2
open PySem PySem.Spec PyProof.Rows
abbrev TO:=St->Hp->(Option Int->Hp->Prop)->Prop
def PO (X:Cx)(e:Option Expr)(t:TO):Prop:=
 ∀(pins:List (Addr×Obj)) (s:Shared) (σ:St) (H:Hp) (Q:Option Int->Hp->Prop),Inv X pins σ H s->t σ H Q->
  wpAny (model X.prog X.w) X.A (evalPart e X.env) (λu s'=>∃o H',Inv X pins σ H' s'/\IsPart u o/\Q o H') X.xe s
def Bs:TO:=λ_ H Q=>Q none H
def FJ (t:TE):TO:=λσ H Q=>t σ H λx H1=>∃i,x=.int i/\Q (some i) H1
theorem intsAre_of {ns:List Int}:∀{us:List Value},Vals (ns.map V.int) us->IntsAre us ns:=by
 induction ns with
 |nil=>intro us r;rw[List.map_nil] at r;cases r;exact .nil
 |cons n ns ih=>
  intro us r
  rw[Kc] at r
  cases r with
  |cons r1 r2=>
   obtain⟨t,e⟩:=r1
   subst e
   exact .cons n t (ih r2)
section
variable {X:Cx}{e:Expr}{te:TE}{lo hi:Option Expr}{tl th:TO}{pos p2:Pos}
def BU:PO X none Bs:=by
 intro pins s σ H Q I h
 rw[evalPart_none]
 exact Jp ⟨none,H,I,.none,h⟩
def Ce (h:PE X e te):PO X (some e) (FJ te):=by
 intro pins s σ H Q I hw
 rw[evalPart_some]
 refine bW (h pins s σ H _ I hw) λu s1 ⟨x,H1,I1,r1,q1⟩=>?_
 obtain⟨i,rfl,q⟩:=q1
 obtain⟨t,rfl⟩:=r1
 exact⟨some i,H1,I1,.int i t,q⟩
def GX (X:Cx)(r:V->Option Int->Option Int->Hp->VK->Prop):Prop:=
 ∀(pins:List (Addr×Obj)) (s:Shared) (σ:St) (H:Hp) (x:V) (v vl vu:Value) (lo hi:Option Int) (sl:Addr) (Q:VK),Inv X pins σ H s->RelV x v->s.heap.IsSliceOf sl vl vu .none->IsPart vl lo->IsPart vu hi->r x lo hi H Q->
  ∃T id,typeLookup (.type T) "__getitem__"=pure (some (.builtin id))/\s.TypeIs v T/\wpAny (model X.prog X.w) X.A (getItem v (.ref sl)) (EP X pins σ Q) X.xe s
def Ja (r:V->Option Int->Option Int->Hp->VK->Prop)(te:TE)(tl th:TO):TE:=λσ H Q=>te σ H λx H1=>tl σ H1 λl H2=>th σ H2 λu H3=>r x l u H3 Q
def zo {r:V->Option Int->Option Int->Hp->VK->Prop}(hr:GX X r)(he:PE X e te)(hl:PO X lo tl)(hu:PO X hi th):PE X (.Subscript e (.Slice lo hi none p2) pos) (Ja r te tl th):=by
 intro pins s σ H Q I h
 refine Subscript_ (bW (he pins s σ H _ I h) λv s1 ⟨x,H1,I1,r1,q1⟩=>?_)
 refine wpAny_Slice (bW (hl pins s1 σ H1 _ I1 q1) λvl s2 ⟨l,H2,I2,pl,q2⟩=>bW (hu pins s2 σ H2 _ I2 q2) λvu s3 ⟨u,H3,I3,pu,q3⟩=>?_)
 rw[evalPart_none]
 refine Jp ?_
 have I4:Inv X pins σ H3 {s3 with heap:=s3.heap.push {cls:=.type "slice",data:=.fields #[vl,vu,.none]}}:=I3.kept (t':=s3.toks) λb ob q=>Jj _ q
 obtain⟨T,id,hT,ht,hg⟩:=hr pins {s3 with heap:=s3.heap.push {cls:=.type "slice",data:=.fields #[vl,vu,.none]}} σ H3 x v vl vu l u s3.heap.objs.size Q I4 r1 (Heap.IsSliceOf.new ..) pl pu q3
 show wpAny (model X.prog X.w) X.A (subscriptTail e (.Slice lo hi none p2) v (.ref s3.heap.objs.size)) (EP X pins σ Q) X.xe {s3 with heap:=s3.heap.push {cls:=.type "slice",data:=.fields #[vl,vu,.none]}}
 exact tail_any (ops:=[.ref s3.heap.objs.size,v]) ht hT hg (by with_unfolding_all rfl)
def pe (xs:List V)(lo hi:Option Int):List V:=(xs.drop (HT.cX xs.length 0 lo)).take (HT.cX xs.length xs.length hi - HT.cX xs.length 0 lo)
def mi (xs:List V)(lo hi:Option Int):(pe xs lo hi).length<=xs.length:=by
 unfold pe
 rw[Ko,K2]
 omega
def HB (K:Frag):V->Option Int->Option Int->Hp->VK->Prop:=λx lo hi H Q=>∃a xs,x=.ref a/\dW K H a xs/\
 ¬(HT.cX xs.length 0 lo=0/\HT.cX xs.length xs.length hi=xs.length)/\∀p,H p=none->Q (.ref p) (upd H p (.tup (pe xs lo hi)))
def Es:GX X (HB X.K):=by
 intro pins s σ H x v vl vu lo hi sl Q I rx hs pl pu h
 obtain⟨a,xs,rfl,hx,hw,q⟩:=h
 cases rx
 obtain⟨its,r,ht,hz⟩:=I.tuple hx
 have hlen:its.toArray.size=xs.length:=by rw[Jo];exact r.length.symm
 refine⟨"tuple",_,JZ.lookup,ht.typeIs,?_⟩
 refine HT.lu ht hs pl pu (by rw[hlen];exact hw) ?_ (by rw[hlen];exact hz)
 rw[hlen]
 refine⟨.ref s.heap.objs.size,_,I.laid (t':=s.toks) (o:=.tup (pe xs lo hi)) (λb ob q=>Jj _ q) (Jl _) ?_,rfl,q _ (I.hok.fresh (Jl _))⟩
 exact⟨Kh (mi xs lo hi) hz,_,(r.drop (HT.cX xs.length 0 lo)).take (HT.cX xs.length xs.length hi - HT.cX xs.length 0 lo),mK.new _ _⟩
def Gx (K:Frag):R2:=λx y H Q=>∃a b xs ys,x=.ref a/\y=.ref b/\dW K H a xs/\dW K H b ys/\xs≠ []/\xs.length + ys.length<=sizeLine/\
 (ys= []->Q (.ref a) H)/\(ys≠ []->∀p,H p=none->Q (.ref p) (upd H p (.tup (xs ++ ys))))
theorem Vals.nil_iff {xs:List V}{us:List Value}(r:Vals xs us):us= []↔xs= []:=by
 cases r with
 |nil=>simp
 |cons _ _=>simp
def Bw:kN X (binaryOp .Add) (Gx X.K):=by
 intro pins s σ H x y v u Q I rx ry h
 obtain⟨a,b,xs,ys,rfl,rfl,ha,hb,hx,hz,q1,q2⟩:=h
 cases rx
 cases ry
 obtain⟨its,r1,p1,_⟩:=I.tuple ha
 obtain⟨its2,r2,p2,_⟩:=I.tuple hb
 refine HT.Bm p1 p2 (λz=>hx (r1.nil_iff.mp z)) (λz=>⟨.ref a,H,I,rfl,q1 (r2.nil_iff.mp z)⟩) (λz=>?_) (by rw[<-r1.length,<-r2.length];exact hz)
 refine⟨.ref s.heap.objs.size,_,I.laid (t':=s.toks) (o:=.tup (xs ++ ys)) (λb ob q=>Jj _ q) (Jl _) ?_,rfl,q2 (λw=>z (r2.nil_iff.mpr w)) _ (I.hok.fresh (Jl _))⟩
 exact⟨by rw[JP];exact hz,_,r1.append r2,mK.new _ _⟩
end
def ue (n:Nat)(i:Int):Option Nat:=if 0<=i then (if i < n then some i.toNat else none) else if -(n:Int)<=i then some (i + n).toNat else none
def kg {α:Type}(xs:List α)(i:Int):Option α:=(ue xs.length i).bind λj=>xs[j]?
def wq {n:Nat}{i:Int}{j:Nat}(h:ue n i=some j):seqIndex? i n=some j/\j < n/\ -(n:Int)<=i/\i < n:=by
 unfold ue at h
 by_cases h0:0<=i
 ·rw[Jk h0] at h
  by_cases h1:i < n
  ·rw[Jk h1] at h
   have e:i.toNat=j:=Option.some.inj h
   exact⟨by rw[seqIndex_of h0 h1,e],by omega,by omega,h1⟩
  ·rw[Ju h1] at h;cases h
 ·rw[Ju h0] at h
  by_cases h1: -(n:Int)<=i
  ·rw[Jk h1] at h
   have e:(i + n).toNat=j:=Option.some.inj h
   exact⟨by rw[seqIndex_neg (by omega) h1,e],by omega,h1,by omega⟩
  ·rw[Ju h1] at h;cases h
theorem qL {α:Type}{xs:List α}{i:Int}{v:α}(h:kg xs i=some v):∃j,seqIndex? i xs.length=some j/\xs[j]? =some v/\j < xs.length/\ -(xs.length:Int)<=i/\i < xs.length:=by
 unfold kg at h
 cases e:ue xs.length i with
 |none=>rw[e] at h;cases h
 |some j=>
  rw[e] at h
  obtain⟨h1,h2,h3,h4⟩:=wq e
  exact⟨j,h1,h,h2,h3,h4⟩
def ja {α:Type}{xs:List α}{j:Nat}{v:α}(h:xs[j]? =some v):kg xs (j:Int)=some v:=by
 have hj:j < xs.length:=(Jw.mp h).1
 have e:ue xs.length (j:Int)=some j:=by
  unfold ue
  rw[Jk (by omega),Jk (by omega)];simp
 unfold kg;rw[e];exact h
def v7 (b:Expr):Prop:=∀o i,subscripted b false o i=operate [o,i] (getItem o i)
def zT (X:Cx)(r:R2):Prop:=
 ∀(value slice:Expr) (pins:List (Addr×Obj)) (s:Shared) (σ:St) (H:Hp) (x y:V) (v u:Value) (Q:VK),Inv X pins σ H s->RelV x v->RelV y u->r x y H Q->
  subscripted slice false v u=operate [v,u] (getItem v u)->wpAny (model X.prog X.w) X.A (subscriptTail value slice v u) (EP X pins σ Q) X.xe s
def Jd (X:Cx)(id:String)(r:V->List V->Hp->VK->Prop):Prop:=
 ∀(pins:List (Addr×Obj)) (s:Shared) (σ:St) (H:Hp) (x:V) (xs:List V) (v:Value) (us:List Value) (Q:VK),Inv X pins σ H s->RelV x v->Vals xs us->r x xs H Q->
  wpAny (model X.prog X.w) X.A (call (.builtin id) (v :: us)) (EP X pins σ Q) X.xe s
section
variable {X:Cx}{a b:Expr}{ta tb:TE}{pos:Pos}
def zT.or {r r':R2}(h:zT X r)(h':zT X r'):zT X (λx y H Q=>r x y H Q\/r' x y H Q):=by
 intro value slice pins s σ H x y v u Q I rx ry q hs
 rcases q with q |q
 ·exact h value slice pins s σ H x y v u Q I rx ry q hs
 ·exact h' value slice pins s σ H x y v u Q I rx ry q hs
def ki {r:R2}(hr:zT X r)(ha:PE X a ta)(hb:PE X b tb)(hs:v7 b):PE X (.Subscript a b pos) (GG r ta tb):=by
 intro pins s σ H Q I h
 exact Subscript_ (DM ha hb I h λv u s2 x y H2 I2 rx ry q=>hr a b pins s2 σ H2 x y v u Q I2 rx ry q (hs _ _))
def DJ (K:Frag):R2:=λx y H Q=>∃p xs i v,x=.ref p/\y=.int i/\fP K H p xs/\kg xs i=some v/\Q v H
def Gh (K:Frag):R2:=λx y H Q=>∃p xs i v,x=.ref p/\y=.int i/\dW K H p xs/\kg xs i=some v/\Q v H
def EU:R2:=λx y H Q=>∃z i c,x=.str z/\y=.int i/\z.length<=sizeLine/\kg z.cps.toList i=some c/\Q (.str ⟨#[c]⟩) H
def fS:zT X (DJ X.K):=by
 intro value slice pins s σ H x y v u Q I rx ry h hs
 obtain⟨p,xs,i,z,rfl,rfl,hq,he,q⟩:=h
 cases rx
 obtain⟨t,rfl⟩:=ry
 obtain⟨its,r,pl,hz⟩:=I.list hq
 obtain⟨j,h1,h2,h3,h4,h5⟩:=qL he
 obtain⟨w,ew,rw'⟩:=r.get h2
 have hl:=r.length
 have hn:=l4
 have fin:EP X pins σ Q w s:=⟨z,H,I,rw',q⟩
 by_cases h0:0<=i
 ·have hj:i.toNat=j:=by
   rw[seqIndex_of h0 h5] at h1
   exact Option.some.inj h1
  exact item_listR pl.isList h0 (by omega) (by rw[hj];simpa using ew) fin hs
 ·have hj:(i + (its.toArray.size:Int)).toNat=j:=by
   rw[seqIndex_neg (by omega) h4] at h1
   rw[Jo,<-hl]
   exact Option.some.inj h1
  exact subscriptTail_builtinR (x:=w) pl.isList.typeIs slot_list_getitem.lookup
   (wpAny_getItem_list_neg (Q:=λr s'=>r=w/\EP X pins σ Q r s') pl.isList (by omega) (by rw[Jo] <;> omega) (by omega) (by rw[hj];simpa using ew) ⟨rfl,fin⟩) hs
def C9:zT X (Gh X.K):=by
 intro value slice pins s σ H x y v u Q I rx ry h hs
 obtain⟨p,xs,i,z,rfl,rfl,hq,he,q⟩:=h
 cases rx
 obtain⟨t,rfl⟩:=ry
 obtain⟨its,r,pl,hz⟩:=I.tuple hq
 obtain⟨j,h1,h2,h3,h4,h5⟩:=qL he
 obtain⟨w,ew,rw'⟩:=r.get h2
 have hl:=r.length
 have hn:=l4
 have fin:EP X pins σ Q w s:=⟨z,H,I,rw',q⟩
 exact subscriptTail_builtinR (x:=w) pl.typeIs slot_tuple_getitem.lookup
  (getItem_tuple (j:=j) (Q:=λr s'=>r=w/\EP X pins σ Q r s') pl (by omega) (by omega) (by rw[Jo,<-hl];exact h1) (by simpa using ew) ⟨rfl,fin⟩) hs
def Ey:zT X EU:=by
 intro value slice pins s σ H x y v u Q I rx ry h hs
 obtain⟨z,i,c,rfl,rfl,hz,he,q⟩:=h
 obtain⟨t,rfl⟩:=rx
 obtain⟨t',rfl⟩:=ry
 obtain⟨j,h1,h2,h3,h4,h5⟩:=qL he
 have hl:z.cps.toList.length=z.length:=by simp[Str.length]
 rw[hl] at h1 h4 h5
 have hn:=l4
 exact tail_any (typeIs_str s z t) slot_str_getitem.lookup (getItem_str (c:=c) (by
  have e1:decide (i < -(2 ^ 63:Int))=false:=Jy (by omega)
  have e2:decide (i>=2 ^ 63)=false:=Jy (by omega)
  rw[e1,e2,Bool.or_false]) (by rw[h1];simpa using h2) ⟨.str ⟨#[c]⟩,H,I.tok _,⟨_,rfl⟩,q⟩) hs
def IM (K:Frag):R2:=λx y H Q=>DJ K x y H Q\/Gh K x y H Q\/EU x y H Q
def bI:zT X (IM X.K):=fS.or (C9.or Ey)
def vb (its:List Value)(n j:Nat)(u:Value):Obj.mapSeq (·.setIfInBounds j u) {cls:=.type "list",data:=.seq its.toArray n}={cls:=.type "list",data:=.seq (its.set j u).toArray n}:=by
 simp[Obj.mapSeq]
def Inv.lst {pins:List (Addr×Obj)}{σ:St}{H:Hp}{s:Shared}{p:Addr}{xs:List V}(I:Inv X pins σ H s)(h:H p=some (.lst xs)) :
  ∃(its:List Value) (n:Nat),Vals xs its/\s.heap.get? p=some {cls:=.type "list",data:=.seq its.toArray n}/\xs.length<=sizeLine:=by
 obtain⟨z,its,n,r,e⟩:=I.hok p _ h
 exact⟨its,n,r,e,z⟩
def Inv.lstUpd {pins:List (Addr×Obj)}{σ:St}{H:Hp}{s:Shared}{p:Addr}{xs ys:List V}{its its':List Value}{n n':Nat}{f:Obj->Obj}(I:Inv X pins σ H s)(h:H p=some (.lst xs))
  (ho:s.heap.get? p=some {cls:=.type "list",data:=.seq its.toArray n}) (hf:f {cls:=.type "list",data:=.seq its.toArray n}={cls:=.type "list",data:=.seq its'.toArray n'}) (r:Vals ys its') (hz:ys.length<=sizeLine) (t:Nat) :
  Inv X pins σ (upd H p (.lst ys)) {s with heap:=s.heap.update p f,toks:=t}:=by
 have e:(s.heap.update p f).get? p=some {cls:=.type "list",data:=.seq its'.toArray n'}:=by
  rw[Kz f ho (by rw[hf] <;> rfl),hf]
 refine I.write (x:=p) (e:=p) (by rw[h];trivial) (.inl rfl) (λb u hb q=>(J1 _ _ (Ne.symm hb)).trans q) ⟨_,e⟩ ?_
 exact⟨hz,its',n',r,e⟩
def FC:V->V->V->Hp->(Hp->Prop)->Prop:=λo i v H Q=>∃p xs k j,o=.ref p/\i=.int k/\H p=some (.lst xs)/\ue xs.length k=some j/\Q (upd H p (.lst (xs.set j v)))
def set_list:Gv X FC:=by
 intro pins s σ H o i v ov iv u Q I ro ri rv h
 obtain⟨p,xs,k,j,rfl,rfl,hp,hj,q⟩:=h
 cases ro
 obtain⟨t,rfl⟩:=ri
 obtain⟨its,n,r,ho,hz⟩:=I.lst hp
 obtain⟨h1,h2,h3,h4⟩:=wq hj
 have hl:=r.length
 have hn:=l4
 have I':Inv X pins σ (upd H p (.lst (xs.set j v))) {s with heap:=s.heap.update p (Obj.mapSeq (·.setIfInBounds j u))}:=
  I.lstUpd hp ho (vb its n j u) (r.set rv j) (by rw[J5];exact hz) s.toks
 by_cases h0:0<=k
 ·have hk:k.toNat=j:=by
   rw[seqIndex_of h0 h4] at h1
   exact Option.some.inj h1
  exact PySem.W.ki_setAt ho h0 (by omega) (by rw[Jo,<-hl];exact h4) (by rw[hk];exact⟨_,I',q⟩)
 ·have hk:(k + (its.toArray.size:Int)).toNat=j:=by
   rw[seqIndex_neg (by omega) h3] at h1
   rw[Jo,<-hl]
   exact Option.some.inj h1
  exact PySem.W.ki_setBack ho (by omega) (by rw[Jo,<-hl];exact h3) (by omega) (by rw[hk];exact⟨_,I',q⟩)
def rW (lo hi:Option Int)(n:Nat):(sliceBounds lo hi none n).1=((HT.cX n 0 lo:Nat):Int)/\(sliceBounds lo hi none n).2.1=((HT.cX n n hi:Nat):Int)/\(sliceBounds lo hi none n).2.2=1:=by
 refine⟨?_,?_,rfl⟩
 ·cases lo with
  |none=>simp[sliceBounds,HT.cX]
  |some i=>
   simp only[sliceBounds,HT.cX,Option.getD_none,show (1:Int) > 0 by decide,Km]
   by_cases h:i < 0
   ·simp only[h,Km] <;> omega
   ·simp only[h,K1] <;> omega
 ·cases hi with
  |none=>simp[sliceBounds,HT.cX]
  |some i=>
   simp only[sliceBounds,HT.cX,Option.getD_none,show (1:Int) > 0 by decide,Km]
   by_cases h:i < 0
   ·simp only[h,Km] <;> omega
   ·simp only[h,K1] <;> omega
def oP (its:List Value)(lo hi:Option Int):slicePick its.toArray lo hi none=((its.drop (HT.cX its.length 0 lo)).take (HT.cX its.length its.length hi - HT.cX its.length 0 lo)).toArray:=by
 obtain⟨h1,h2,h3⟩:=rW lo hi its.toArray.size
 unfold slicePick
 rw[h1,h2,h3]
 simp only[sliceRange_one,pick_run,Jo] <;> rfl
def HC (K:Frag):V->Option Int->Option Int->Hp->VK->Prop:=λx lo hi H Q=>∃a xs,x=.ref a/\fP K H a xs/\∀p,H p=none->Q (.ref p) (upd H p (.lst (pe xs lo hi)))
def GY:GX X (HC X.K):=by
 intro pins s σ H x v vl vu lo hi sl Q I rx hs pl pu h
 obtain⟨a,xs,rfl,hx,q⟩:=h
 cases rx
 obtain⟨its,r,ht,hz⟩:=I.list hx
 have hlen:=r.length
 refine⟨"list",_,slot_list_getitem.lookup,ht.isList.typeIs,?_⟩
 refine wpAny_getItem_list_slice ht.isList hs pl pu .none (by simp) ?_ (by rw[Jo] <;> omega)
 rw[oP,<-hlen]
 refine⟨.ref s.heap.objs.size,_,I.laid (t':=s.toks) (o:=.lst (pe xs lo hi)) (λb ob q=>Jj _ q) (Jl _) ?_,rfl,q _ (I.hok.fresh (Jl _))⟩
 exact⟨Kh (mi xs lo hi) hz,_,0,(r.drop (HT.cX xs.length 0 lo)).take (HT.cX xs.length xs.length hi - HT.cX xs.length 0 lo),Jt _ rfl⟩
def kW:cZ X (.type "list") (λxs H Q=>∃p ys,xs= [.ref p]/\(fP X.K H p ys\/dW X.K H p ys)/\∀l,H l=none->Q (.ref l) (upd H l (.lst ys))):=by
 intro pins s σ H xs us Q I r h
 obtain⟨p,ys,rfl,hq,q⟩:=h
 obtain⟨u,rfl,rx⟩:=vals1 r
 cases rx
 have fin:∀(its:List Value),Vals ys its->ys.length<=sizeLine->∀(h':Heap) (c':Nat),(∀b o',s.heap.get? b=some o'->h'.get? b=some o')->
   h'.get? s.heap.objs.size=some {cls:=.type "list",dict:=none,data:=.seq its.toArray c',slots:=#[]}->EP X pins σ Q (.ref s.heap.objs.size) {s with heap:=h'}:=λits r' hz h' c' kp e=>
  ⟨.ref s.heap.objs.size,_,I.laid (t':=s.toks) kp (Jl _) (show bP X.prog X.w _ h' _ (.lst ys) from⟨hz,its,c',r',e⟩),rfl,q _ (I.hok.fresh (Jl _))⟩
 rcases hq with hq |hq
 ·obtain⟨its,r',pl,hz⟩:=I.list hq
  have hlen:=r'.length
  obtain⟨o,ho,hc,n,hd⟩:=pl.isList
  exact call_list_seq p (.inl rfl) ho hc hd (λh' c' kp e=>fin its r' hz h' c' kp e) (by simp only[Jo] <;> omega)
 ·obtain⟨its,r',pl,hz⟩:=I.tuple hq
  have hlen:=r'.length
  obtain⟨o,ho,hc,n,hd⟩:=pl
  exact call_list_seq p (.inr rfl) ho hc hd (λh' c' kp e=>fin its r' hz h' c' kp e) (by simp only[Jo] <;> omega)
def fm:cZ X (.type "tuple") (λxs H Q=>∃p ys,xs= [.ref p]/\((fP X.K H p ys/\∀l,H l=none->Q (.ref l) (upd H l (.tup ys)))\/(dW X.K H p ys/\Q (.ref p) H))):=by
 intro pins s σ H xs us Q I r h
 obtain⟨p,ys,rfl,h⟩:=h
 obtain⟨u,rfl,rx⟩:=vals1 r
 cases rx
 rcases h with⟨hq,q⟩ | ⟨hq,q⟩
 ·obtain⟨its,r',pl,hz⟩:=I.list hq
  have hlen:=r'.length
  refine call_tuple_list pl.isList (λh' kp=>?_) (by simp only[Jo] <;> omega)
  have I1:Inv X pins σ H {s with heap:=h'}:=I.kept (t':=s.toks) kp
  have I2:Inv X pins σ (upd H h'.objs.size (.tup ys)) {s with heap:=h'.push {cls:=.type "tuple",data:=.seq its.toArray}}:=
   I1.laid (t':=s.toks) (λb o e=>Jj _ e) (Jl _) (show bP X.prog X.w _ _ _ (.tup ys) from⟨hz,its,r',mK.new _ _⟩)
  exact⟨.ref h'.objs.size,_,I2,rfl,q _ (I1.hok.fresh (Jl _))⟩
 ·obtain⟨its,r',pl,hz⟩:=I.tuple hq
  exact call_tuple_same pl ⟨.ref p,H,I,rfl,q⟩
def IF (K:Frag)(T:String)(x:V)(H:Hp):Prop:=match x with
 | .str _=>T="str"
 | .int _=>T="int"
 | .ref p=>(T="list"/\∃xs,fP K H p xs)\/(T="tuple"/\∃o,K.lookup p=some o/\o.cls=.type "tuple"/\o.dict=none)\/
   (T="dict"/\((∃kvs,H p=some (.dK kvs))\/∃kvs,H p=some (.dT kvs)))\/(T="set"/\∃S n,H p=some (.set S n))
 |_=>False
theorem DY {pins:List (Addr×Obj)}{σ:St}{H:Hp}{s:Shared}{T:String}{x:V}{v:Value}(I:Inv X pins σ H s)(r:RelV x v)(ty:IF X.K T x H) :
  s.TypeIs v T/\∀a,v=.ref a->∃ob,s.heap.get? a=some ob/\ob.dict=none:=by
 cases x with
 |str z=>
  obtain⟨t,rfl⟩:=r
  cases (show T="str" from ty)
  exact⟨typeIs_str s z t,λ_ e=>nomatch e⟩
 |int i=>
  obtain⟨t,rfl⟩:=r
  cases (show T="int" from ty)
  exact⟨typeIs_int s i t,λ_ e=>nomatch e⟩
 |ref p=>
  cases r
  rcases ty with⟨rfl,xs,hq⟩ | ⟨rfl,o,hk,hc,hd⟩ | ⟨rfl,hk⟩ | ⟨rfl,S,n,hk⟩
  ·obtain⟨its,_,pl,_⟩:=I.list hq
   refine⟨pl.isList.typeIs,λa e=>?_⟩
   cases e
   obtain⟨o,n,e,c,hd,_⟩:=pl
   exact⟨o,e,hd⟩
  ·refine⟨⟨o,I.kIn p o hk,hc⟩,λa e=>?_⟩
   cases e
   exact⟨o,I.kIn _ o hk,hd⟩
  ·have z:∃o,s.heap.get? p=some o/\o.ExactDict:=by
    rcases hk with⟨kvs,hk⟩ | ⟨kvs,hk⟩
    ·obtain⟨_,_,_,_,o,_,_,e,ex,_⟩:=I.hok p _ hk
     exact⟨o,e,ex⟩
    ·obtain⟨_,_,_,_,o,_,_,e,ex,_⟩:=I.hok p _ hk
     exact⟨o,e,ex⟩
   obtain⟨o,e,ex⟩:=z
   refine⟨⟨o,e,ex.1⟩,λa e2=>?_⟩
   cases e2
   exact⟨o,e,ex.2.1⟩
  ·obtain⟨o,_,_,_,e,ex,_⟩:=I.hok p _ hk
   refine⟨⟨o,e,ex.1⟩,λa e2=>?_⟩
   cases e2
   exact⟨o,e,ex.2.1⟩
 |_=>exact False.elim ty
def IX (K:Frag)(T:String)(r:V->List V->Hp->VK->Prop)(to:TE)(t:TA):TE:=λσ H Q=>to σ H λx H1=>IF K T x H1/\t σ H1 λxs H2=>r x xs H2 Q
variable {o e:Expr}{es:List Expr}{to:TE}{t:TA}{name:Str}{apos cpos:Pos}{T id:String}{r:V->List V->Hp->VK->Prop}
def yH (pa:PlainAttrs T)(slot:Slot T name id)(hty:typeOf (.builtin id)=pure (.type "method_descriptor"))(hm:Jd X id r)(ho:PE X o to)(ha:PA X (e :: es) t)
  (hbase:attributeBase o name X.env (eval o X.env)=eval o X.env:=by rfl)
  (hfew:((backTo cpos (starEach (e :: es) X.env)).all (λx=> !x.1) && (backToKw cpos (keywordEach [] X.env)).all (λx=>x.1.isSome)
   && decide ((e :: es).length + ([]:List Keyword).length + (if ([]:List Keyword).isEmpty then 0 else 1) < 30))=true:=by rfl)
  (hline:(apos.endLine == cpos.line)=true:=by rfl) (hs:starEach (e :: es) X.env=(false,eval e X.env) :: starEach es X.env:=by rfl) (hplain:(backTo cpos (starEach es X.env)).any (·.1)=false:=by rfl) :
  PE X (.Call (.Attribute o name apos) (e :: es) [] cpos) (IX X.K T r to t):=by
 intro pins s σ H Q I h
 refine wpAny_Call_method_late hbase hfew hline rfl (bW (ho pins s σ H _ I h) λv s1 ⟨x,H1,I1,r1,ty,q1⟩=>?_)
 obtain⟨h1,h2⟩:=DY I1 r1 ty
 refine⟨T,id,pa,slot,hty,h1,h2,?_⟩
 have hA:=ha cpos pins s1 σ H1 _ I1 q1
 rw[hs] at hA ⊢
 refine Calls.callWith_builtin (by show (false || (backTo cpos (starEach es X.env)).any (·.1))=false;rw[hplain] <;> rfl) (Calls.evalArgs_plain ?_)
 exact bW hA λus s2 ⟨vs,H2,I2,r2,q2⟩=>hm pins s2 σ H2 x vs v us Q I2 r1 r2 q2
end
def FN (X:Cx)(id:String)(r:V->List V->Hp->VK->Prop):Prop:=
 ∀(pins:List (Addr×Obj)) (s:Shared) (σ:St) (H:Hp) (x:V) (xs:List V) (v:Value) (us:List Value) (Q:VK),Inv X pins σ H s->RelV x v->Vals xs us->r x xs H Q->
  wpAny (model X.prog X.w) X.A (call (.builtin id) (v :: us)) (EP X pins σ Q) X.xe s
theorem Vals.one:∀{x:V} {us:List Value},Vals [x] us->∃u,us= [u]/\RelV x u
 |_,_,.cons r .nil=>⟨_,rfl,r⟩
theorem Vals.eraseIdx:∀{xs:List V} {us:List Value} (i:Nat),Vals xs us->Vals (xs.eraseIdx i) (us.eraseIdx i)
 |_,_,_,.nil=>.nil
 |_,_,0,.cons _ t=>t
 |_,_,i + 1,.cons r t=>.cons r (Vals.eraseIdx i t)
theorem Vals.rep {xs:List V}{us:List Value}(h:Vals xs us):∀k:Nat,Vals (List.replicate k xs).flatten (List.replicate k us).flatten
 | 0=>.nil
 |k + 1=>by
  rw[JX,JX,Kn,Kn]
  exact Vals.append h (Vals.rep h k)
theorem pV {α:Type}:∀(l:List α) (i:Nat),(l.eraseIdx i).length<=l.length
 | [],_=>Jl _
 |_ :: _,0=>Nat.le_succ _
 |_ :: r,i + 1=>Nat.succ_le_succ (pV r i)
theorem foldl_rep (its:List Value):∀(k:Nat) (acc:List Value),
  List.foldl (λx1 x2=>x1 ++ x2) acc.toArray (List.replicate k its.toArray)=(acc ++ (List.replicate k its).flatten).toArray
 | 0,acc=>by simp
 |k + 1,acc=>by
  have e:acc.toArray ++ its.toArray=(acc ++ its).toArray:=by simp
  have e2:(acc ++ its) ++ (List.replicate k its).flatten=acc ++ (List.replicate (k + 1) its).flatten:=by
   rw[JX,Kn,KU]
  rw[<-e2,<-foldl_rep its k (acc ++ its),<-e,JX,foldl_cons]
section
variable {X:Cx}{pins:List (Addr×Obj)}{σ:St}{H:Hp}{s:Shared}{l b:Addr}{xs ys zs:List V}
def Inv.lset {its its':List Value}{n:Nat}{f:Array Value->Array Value}{t':Nat}(I:Inv X pins σ H s)(hH:H l=some (.lst xs))
  (e:s.heap.get? l=some {cls:=.type "list",data:=.seq its.toArray n}) (hf:f its.toArray=its'.toArray) (hv:Vals ys its') (hz:ys.length<=sizeLine) :
  Inv X pins σ (upd H l (.lst ys)) {s with heap:=s.heap.update l (Obj.mapSeq f),toks:=t'}:=by
 have q:=PySem.IsL.update e f
 rw[hf] at q
 refine I.write (x:=l) (e:=l) (by rw[hH];exact trivial) (.inl rfl) (λb' u hb hu=>(J1 s.heap (Obj.mapSeq f) (Ne.symm hb)).trans hu) ⟨_,q⟩ ?_
 exact⟨hz,its',_,hv,q⟩
def Inv.lnew {its:List Value}{t':Nat}(I:Inv X pins σ H s)(hv:Vals ys its)(hz:ys.length<=sizeLine) :
  Inv X pins σ (upd H s.heap.objs.size (.lst ys)) {s with heap:=s.heap.push {cls:=.type "list",data:=.seq its.toArray},toks:=t'}:=
 I.laid (λ_ _ q=>Jj _ q) (Jl _) ⟨hz,its,0,hv,Jt _ rfl⟩
def Inv.fresh (I:Inv X pins σ H s):H s.heap.objs.size=none:=I.hok.fresh (Jl _)
def Inv.lstM (I:Inv X pins σ H s)(hH:H l=some (.lst xs)):xs.length<=sizeLine/\∃(its:List Value) (n:Nat),Vals xs its/\xs.length=its.length/\s.heap.get? l=some {cls:=.type "list",data:=.seq its.toArray n}:=by
 obtain⟨z,its,n,r,e⟩:=I.hok l _ hH
 exact⟨z,its,n,r,r.length,e⟩
def sD {n:Nat}(h:n<=sizeLine):Builtin.List.listTooLong n=false:=by
 unfold Builtin.List.listTooLong
 exact Jy (by omega)
end
section
variable {X:Cx}
def AL:V->List V->Hp->VK->Prop:=λx vs H Q=>∃l xs y,x=.ref l/\vs= [y]/\H l=some (.lst xs)/\xs.length < sizeLine/\Q .non (upd H l (.lst (xs ++ [y])))
def j0:FN X "list.append" AL:=by
 intro pins s σ H x vs v us Q I rx rv h
 obtain⟨l,xs,y,rfl,rfl,hH,hz,q⟩:=h
 cases rx
 obtain⟨u,rfl,ru⟩:=rv.one
 obtain⟨z,its,n,r,hl,e⟩:=I.lstM hH
 refine call_meets F.slot_list_append ⟨_,e,rfl⟩ F.entry_list_append (F.args_list_append_2 _ _) (PySem.list_append l its.toArray n u (by rw[Jo];omega)) ⟨e,?_⟩
 refine⟨.non,_,I.lset (its':=its ++ [u]) hH e (by simp) (r.append (.cons ru .nil)) ?_,rfl,q⟩
 rw[JP,List.length_singleton]
 omega
def AW:V->List V->Hp->VK->Prop:=λx vs H Q=>∃l b xs zs,x=.ref l/\vs= [.ref b]/\H l=some (.lst xs)/\H b=some (.lst zs)/\xs.length + zs.length<=sizeLine/\Q .non (upd H l (.lst (xs ++ zs)))
def EG:FN X "list.extend" AW:=by
 intro pins s σ H x vs v us Q I rx rv h
 obtain⟨l,b,xs,zs,rfl,rfl,hH,hB,hz,q⟩:=h
 cases rx
 obtain⟨u,rfl,ru⟩:=rv.one
 cases ru
 obtain⟨z,its,n,r,hl,e⟩:=I.lstM hH
 obtain⟨z2,its2,n2,r2,hl2,e2⟩:=I.lstM hB
 have hsz:its.toArray.size + its2.toArray.size<=sizeLine:=by rw[Jo,Jo];omega
 have hlong:¬(!its.toArray.isEmpty && Builtin.List.listTooLong (its.toArray.size + its2.toArray.size))=true:=by
  rw[sD hsz,Bool.and_false]
  exact JA
 refine call_meets F.slot_list_extend ⟨_,e,rfl⟩ F.entry_list_extend (F.args_list_extend_2 _ _)
  (AutoSeq1.list_extend_list_list_0 l its.toArray n b its2.toArray n2 hlong (by rw[Jo];omega) (by omega)) ⟨e,e2,?_⟩
 refine⟨.non,_,I.lset (its':=its ++ its2) hH e (by simp) (r.append r2) ?_,rfl,q⟩
 rw[JP]
 omega
def C0:V->List V->Hp->VK->Prop:=λx vs H Q=>∃l xs i k y,x=.ref l/\vs= [.int i]/\H l=some (.lst xs)/\ -(2 ^ 63)<=i/\i < 2 ^ 63/\seqIndex? i xs.length=some k/\xs[k]? =some y/\Q y (upd H l (.lst (xs.eraseIdx k)))
def Al:FN X "list.pop" C0:=by
 intro pins s σ H x vs v us Q I rx rv h
 obtain⟨l,xs,i,k,y,rfl,rfl,hH,h1,h2,hk,hy,q⟩:=h
 cases rx
 obtain⟨u,rfl,ru⟩:=rv.one
 obtain⟨t,rfl⟩:=ru
 obtain⟨z,its,n,r,hl,e⟩:=I.lstM hH
 obtain⟨w,hw,rw'⟩:=r.get hy
 refine call_meets F.slot_list_pop ⟨_,e,rfl⟩ F.entry_list_pop (F.args_list_pop_2 _ _)
  (MeetsSeq.list_pop_at l its.toArray n i t k w (fitsIndex_both h1 h2) (by rw[Jo,<-hl];exact hk) (by rw[<-Array.getElem?_toList];exact hw) (by rw[Jo];omega)) ⟨e,?_⟩
 refine⟨y,_,I.lset (its':=its.eraseIdx k) hH e ?_ (r.eraseIdx k) ?_,rw',q⟩
 ·show its.toArray.eraseIdxIfInBounds k=(its.eraseIdx k).toArray
  rw[List.eraseIdxIfInBounds_toArray]
 ·have:=pV xs k
  omega
def Hd:R2:=λx y H Q=>∃l b xs zs,x=.ref l/\y=.ref b/\H l=some (.lst xs)/\H b=some (.lst zs)/\xs.length + zs.length<=sizeLine/\∀p,H p=none->Q (.ref p) (upd H p (.lst (xs ++ zs)))
def u7:kN X (binaryOp .Add) Hd:=by
 intro pins s σ H x y v u Q I rx ry h
 obtain⟨l,b,xs,zs,rfl,rfl,hH,hB,hz,q⟩:=h
 cases rx
 cases ry
 obtain⟨z,its,n,r,hl,e⟩:=I.lstM hH
 obtain⟨z2,its2,n2,r2,hl2,e2⟩:=I.lstM hB
 refine PySem.P.add_list e e2 ?_ (by rw[Jo,Jo];omega)
 have ea:its.toArray ++ its2.toArray=(its ++ its2).toArray:=by simp
 rw[ea]
 exact⟨.ref _,_,I.lnew (t':=s.toks) (r.append r2) (by rw[JP];omega),rfl,q _ I.fresh⟩
def Hw:R2:=λx y H Q=>∃l k xs,x=.ref l/\y=.int k/\H l=some (.lst xs)/\ -(2 ^ 63)<=k/\k < 2 ^ 63/\xs.length * k.toNat<=sizeLine/\
 ∀p,H p=none->Q (.ref p) (upd H p (.lst (List.replicate k.toNat xs).flatten))
theorem len_rep {α:Type}(xs:List α)(k:Nat):(List.replicate k xs).flatten.length=k * xs.length:=by
 induction k with
 |zero=>simp
 |succ k ih=>rw[JX,Kn,JP,ih,Nat.succ_mul,Nat.add_comm]
def zI:kN X (binaryOp .Mult) Hw:=by
 intro pins s σ H x y v u Q I rx ry h
 obtain⟨l,k,xs,rfl,rfl,hH,h1,h2,hz,q⟩:=h
 cases rx
 obtain⟨t,rfl⟩:=ry
 obtain⟨z,its,n,r,hl,e⟩:=I.lstM hH
 have hlen:its.toArray.size * k.toNat<=sizeLine:=by rw[Jo,<-hl];exact hz
 have hcap:¬its.toArray.size * k.toNat > (2 ^ 63 - 1) / 8:=by
  have:(sizeLine:Nat)<=(2 ^ 63 - 1) / 8:=by decide
  omega
 have hfit:¬(!Builtin.List.listFitsIndex k)=true:=by
  rw[fitsIndex_both h1 h2]
  exact JA
 have hlong:¬Builtin.List.listTooLong (its.toArray.size * k.toNat)=true:=by
  rw[sD hlen]
  exact JA
 have hnew:List.foldl (λx1 x2=>x1 ++ x2) #[] (List.replicate (if its.toArray.isEmpty=true then 0 else k.toNat) its.toArray)=(List.replicate k.toNat its).flatten.toArray:=by
  have f0:∀m:Nat,List.foldl (λx1 x2=>x1 ++ x2) #[] (List.replicate m its.toArray)=(List.replicate m its).flatten.toArray:=λm=>by
   have:=foldl_rep its m []
   rw[List.nil_append] at this
   exact this
  rw[f0]
  cases its with
  |nil=>simp
  |cons a r'=>rw[Ju (by simp)]
 refine wpAny_binaryOp_repeat_ref (T:="list") (U:="int") (by decide) ⟨_,e,rfl⟩ (λs'=>typeIs_int s' k t) noFill_list_mul F.fills_int_mul F.slot_int_rmul repeat_list F.slot_int_index.lookup
  (call_meets F.slot_int_rmul (typeIs_int s k t) F.entry_int_rmul (F.args_int_rmul_2 _ _) (int___rmul___int_list k t l its.toArray n)
   ⟨e,rfl,⟨_,e,rfl⟩,call_meets F.slot_list_mul ⟨_,e,rfl⟩ F.entry_list_mul (F.args_list_mul_2 _ _) (AutoListH.list___mul___list_int_3 l its.toArray n k t hfit hcap hlong) ⟨e,?_⟩⟩)
 rw[hnew]
 exact⟨.ref _,_,I.lnew (t':=s.toks) (r.rep k.toNat) (by rw[len_rep,Nat.mul_comm];exact hz),rfl,q _ I.fresh⟩
end
end L2
namespace Att
open PySem PySem.W PySem.Calls PyProof.Rows
theorem mG {P:Params}{h:Heap}:∀(ns:List Int) (vs:List Value),WellAll P h vs (ns.map WData.int)->IntsAre vs ns:=by
 intro ns
 induction ns with
 |nil=>
  intro vs w
  rw[List.map_nil] at w
  cases w
  exact .nil
 |cons n ns ih=>
  intro vs w
  rw[Kc] at w
  cases w with
  |cons a b=>
   cases a
   exact .cons _ _ (ih _ b)
theorem xg {l:OpenLaw}{n:Nat}(hn:l.most=some n){P:Params}{h:Heap}{args:List WData}{vals:List Value}
  (hpre:l.row.toRowW.claim.pre args=true) (hwl:WellAll P h vals args) :
  ∃a vs ns,vals= [Value.ref a]/\args= [WData.list (ns.map WData.int)]/\h.get? a=some {cls:=.type "list",data:=.seq vs.toArray}/\IntsAre vs ns/\ns.length<=n:=by
 have hsh:WShape.hasAll [] args [.list .int]=true:=(pre_splitW hpre).1
 have hc:l.pre.holds [] {args:=args}=true:=(pre_splitW hpre).2
 obtain⟨d,r,rfl,h1,h2⟩:=hasAllW_cons hsh
 obtain rfl:=hasAllW_nil h2
 obtain⟨xs,rfl,h3⟩:=hasW_list h1
 obtain⟨ns,rfl⟩:=items_int h3
 have hlen:ns.length<=n:=by
  unfold OpenLaw.pre at hc
  have h4:(WTm.not (.lt (.lit (.int (n:Int))) (.len (.arg 0)))).holds [] {args:=[.list (ns.map .int)]}=true:=by
   have h4:=(holds_andW hc).1
   rw[hn] at h4
   exact h4
  have h5:=condW_of h4 (w_not (w_lt w_lit (w_len_list (w_arg rfl))))
  rw[JE] at h5
  refine Nat.le_of_not_lt λq=>?_
  have q':(n:Int) < ((ns.length:Nat):Int):=by omega
  first
   | (rw[Jv q'] at h5;exact absurd h5 (by decide))
   | (simp at h5;omega)
 cases hwl with
 |cons w1 w2=>
  cases w2
  cases w1 with
  |list ho hall=>exact⟨_,_,ns,rfl,rfl,ho,mG ns _ hall,hlen⟩
def xT (l:OpenLaw)(args:List WData):l.row.toRowW.claim.post args (.bool true) args=true:=
 postW_of (r:=l.row.toRowW) (X:=(true == true))
  (show WShape.has [] (.bool true) .bool=true by first |rfl |decide |simp[WShape.has,WShape.arms,WShape.armsAll])
  (show (WTm.eq .res (.lit (.bool true))).value [] {args:=args,res:=some (.bool true),after:=args}=some (.bool (true == true)) from w_eq_bool (w_res rfl) w_lit) rfl
def tK {l:OpenLaw}{n:Nat}{q:Program}{loose:List Str}{XP:(Str->Option Value)->Heap->Prop}{YP:World->Heap->Prop}{d:DefRec}
  (hn:l.most=some n) (hdf:d.params.defaults= [])
  (call:∀(w:World) (s₀ s₁:Shared) (mg mb:Str->Option Value) (fa:Addr) (o:Obj) (pm cd doc:Value) (a:Addr) (vs:List Value) (ns:List Int),
   Ground q loose [] XP w s₀ mg mb s₁.heap->YP w s₁.heap->
   s₁.heap.get? fa=some o->o.data=.func (docDef d.name d.params d.body d.scope pm cd doc)->s₁.heap.CodeRec cd d.name->mg d.name=some (.ref fa)->
   s₁.heap.get? a=some {cls:=.type "list",data:=.seq vs.toArray}->IntsAre vs ns->ns.length<=n->s₁.gens=#[]->
   codeAny (model l.prog w) callerA (.call (.ref fa) ⟨[.ref a],[]⟩) (λr s'=>r=.ok (.ret (.bool true))/\OldK s₁.heap s'.heap/\s'.os=s₁.os/\AllBare s'.gens) s₁) :
  WalkO q loose XP YP l.row.toRowW d [] (λf vs=>PySem.call f vs):=by
 intro w s₀ s₁ mg mb G Y fa o pm cd doc dV kV ho hd hcd hD hmg hg args vals as hpre hlay hrd hwl hlo
 obtain rfl:dV=.none:=Dflts.none hD hdf
 obtain rfl:kV=.none:=Dflts.noKw hD
 obtain⟨a,vs,ns,rfl,rfl,hobj,hints,hlen⟩:=xg hn hpre hwl
 refine enter_call (Kv (call w s₀ s₁ mg mb fa o pm cd doc a vs ns G Y ho (fd_plain hd) hcd hmg hobj hints hlen hg) λr s' hq=>?_)
 obtain⟨rfl,h2,h3,h4⟩:=hq
 exact⟨.inl ⟨.bool true,.bool true,[],rfl,λ_=>rfl,.bool true,xT l _,λ_=>⟨List.Pairwise.nil,λ_ hm=>(nomatch hm)⟩⟩,h2,h3,h4⟩
end Att
namespace L2
open PySem PySem.Spec PyProof.Rows
theorem ql:∀{vs:List Value} {ns:List Int},IntsAre vs ns->Vals (ns.map V.int) vs
 |_,_,.nil=>.nil
 |_,_,.cons n t h=>.cons ⟨t,rfl⟩ (ql h)
def EA (H:Hp):Prop:=∀b,H b=none\/∃o xs,H b=some (.a7 o (.lst xs))
theorem zG {P:Program}{w:World}{K:Frag}{mg mb:Str->Option Value}{CX:rj}{k:Nat}{fa a:Addr}{fd:FuncData}{x:Str}{sp:Sp}{s₁:Shared}{vs:List Value}{ns:List Int}
  (KX:K.In s₁.heap) (hns:s₁.heap.Ns mainGlobals mg) (hb:s₁.heap.Ns builtinsNs mb) (hbb:∀x:Str,x≠"__name__"->mb x=bootBuiltins x) (hlim:s₁.heap.NoLimit) (hsys:∃mm,s₁.heap.Ns sysModules mm) (hg:s₁.gens=#[])
  (ha:s₁.heap.get? a=some {cls:=.type "list",data:=.seq vs.toArray}) (hi:IntsAre vs ns) (hl:ns.length<=sizeLine) (hr:dX k callerA)
  (F:∀base:Heap,K.In base->base.Ns mainGlobals mg->fF P w K mg base CX k fa fd [x] sp) (hbind:∀(s:Shared) (u:Value),BindsTo s fd ⟨[u],[]⟩ [(x,u)])
  (hsp:∀H:Hp,EA H->fP K H a (ns.map V.int)->sp [.ref a] H (λv _=>v=.bl true) λ_ _ _=>False)
  (hCX:∀H e s',CX [] H s₁ (λ_ _ _=>False) e s'->False) :
  codeAny (model P w) callerA (.call (.ref fa) ⟨[.ref a],[]⟩) (λr s'=>r=.ok (.ret (.bool true))/\OldK s₁.heap s'.heap/\s'.os=s₁.os/\AllBare s'.gens) s₁:=by
 have rv:=ql hi
 have lenV:=hi.length
 have core:∀H:Hp,EA H->fP K H a (ns.map V.int)->ju P w H s₁.heap->(∀b,H b≠none->b=a)->(H a≠none->K.lookup a=none)->
   codeAny (model P w) callerA (.call (.ref fa) ⟨[.ref a],[]⟩) (λr s'=>r=.ok (.ret (.bool true))/\OldK s₁.heap s'.heap/\s'.os=s₁.os/\AllBare s'.gens) s₁:=by
  intro H hO hS hok hA hK
  have base_of:∀{b:Addr} {o:Obj},s₁.heap.get? b=some o->H b=none->(rN s₁.heap H).get? b=some o:=λe n=>yL e n
  have noA:∀{b:Addr} {o:Obj} {es:Array DictEntry} {ep:Nat},s₁.heap.get? b=some o->o.data=.dict es ep->H b=none:=λ{b o es ep} e d=>by
   cases q:H b with
   |none=>rfl
   |some u=>
    have e':b=a:=hA b (by rw[q];simp)
    subst e'
    rw[ha] at e;cases e
    have d':Data.seq vs.toArray _=Data.dict es ep:=d
    cases d'
  have nsK:∀{b:Addr} {m:Str->Option Value},s₁.heap.Ns b m->(rN s₁.heap H).Ns b m:=λ{b m} ⟨o,es,ep,e,d,r⟩=>⟨o,es,ep,base_of e (noA e d),d,r⟩
  have hKb:K.In (rN s₁.heap H):=λb o e=>base_of (KX b o e) (by
   cases q:H b with
   |none=>rfl
   |some u=>
    have e':b=a:=hA b (by rw[q];simp)
    subst e'
    rw[hK (by rw[q];simp)] at e;cases e)
  have hM:Mod K mg (rN s₁.heap H):=⟨hKb,nsK hns,⟨mb,nsK hb,hbb⟩,let ⟨mc,h1,h2⟩:=hlim;⟨mc,nsK h1,h2⟩,let ⟨mm,h1⟩:=hsys;⟨mm,nsK h1⟩⟩
  have e0:tE P w K mg (rN s₁.heap H) callerA [] s₁ H:=⟨rfl,hM,λb o e=>B6 e,Nat.le_of_eq (yu _ _),trivial,λb hb=>absurd (show b∈([]:List Addr) from hb) (by simp),hok,.of_eq hg⟩
  refine Kv ((F _ hKb (nsK hns)).run callerA [] s₁ H ⟨[.ref a],[]⟩ [.ref a] [.ref a] _ _ hr e0 (hbind s₁ (.ref a)) (.cons rfl .nil) (hsp H hO hS)) λr s' h=>?_
  cases r with
  |error e=>exact (hCX H e s' h).elim
  |ok fl=>
   cases fl with
   |next=>exact False.elim h
   |brk=>exact False.elim h
   |cont=>exact False.elim h
   |ret u=>
    obtain⟨v,H',os,bare,un,hok',r',q⟩:=h
    have q':v=.bl true:=q
    subst q'
    obtain rfl:u=Value.bool true:=r'
    refine⟨rfl,OldK.of_keep λb o e=>?_,os,bare⟩
    cases q:H b with
    |none=>exact un.keep b o e q (by intro z;exact absurd (show b∈([]:List Addr) from z) (by simp)) (by simp)
    |some u=>
     rcases hO b with z | ⟨ob,xs,z⟩
     ·rw[q] at z;cases z
     ·have z2:=un.frzs b ob _ z
      obtain⟨e1,_⟩:=hok b _ z
      obtain⟨e2,_⟩:=hok' b _ z2
      rw[e] at e1;cases e1
      exact e2
 cases hk:K.lookup a with
 |some o=>
  have e:=KX a o hk
  rw[ha] at e
  cases e
  refine core (λ_=>none) (λ_=>.inl rfl) (.inr ⟨_,vs.toArray,_,hk,rfl,rfl,rfl,by rw[Jo,lenV];exact hl,by simpa using rv⟩) (λb u z=>by have z':(none:Option HO)=some u:=z;cases z') (λb z=>absurd rfl z) λz=>absurd rfl z
 |none=>
  refine core (λb=>if b=a then some (.a7 {cls:=.type "list",data:=.seq vs.toArray} (.lst (ns.map V.int))) else none) (λb=>?_) (.inl (.inr ⟨{cls:=.type "list",data:=.seq vs.toArray},Jk rfl⟩)) (λb u z=>?_) (λb z=>?_) λ_=>hk
  ·by_cases hb:b=a
   ·exact .inr ⟨_,_,Jk hb⟩
   ·exact .inl (Ju hb)
  ·by_cases hb:b=a
   ·have z':=(Jk hb).symm.trans z
    cases z'
    subst hb
    exact⟨ha,by rw[JE];exact hl,vs,_,rv,ha⟩
   ·have z':=(Ju hb).symm.trans z
    cases z'
  ·by_cases hb:b=a
   ·exact hb
   ·exact absurd (Ju hb) z
def Bl {l:PySem.W.OpenLaw}{n k:Nat}{q:Program}{loose:List Str}{XP:(Str->Option Value)->Heap->Prop}{YP:World->Heap->Prop}{d:DefRec}{K:Params->Frag}{CX:World->rj}{sp:World->Sp}{x:Str}
  (hn:l.most=some n) (hn2:n<=sizeLine) (hdf:d.params.defaults= []) (hi:PyProof.Rows.importsNone q=true) (hr:dX k callerA)
  (hY:∀(w:World) (h:Heap),YP w h->(K w.params).In h)
  (F:∀(w:World) (mg:Str->Option Value) (fa:Addr) (h:Heap),(K w.params).In h->h.Ns mainGlobals mg->mg d.name=some (.ref fa)->
   ∃fd:FuncData,(∀(s:Shared) (u:Value),BindsTo s fd ⟨[u],[]⟩ [(x,u)])/\
    ∀base:Heap,(K w.params).In base->base.Ns mainGlobals mg->fF l.prog w (K w.params) mg base (CX w) k fa fd [x] (sp w))
  (hsp:∀(w:World) (H:Hp) (a:Addr) (ns:List Int),ns.length<=n->EA H->fP (K w.params) H a (ns.map V.int)->sp w [.ref a] H (λv _=>v=.bl true) λ_ _ _=>False)
  (hCX:∀(w:World) (H:Hp) (s:Shared) (e:Value) (s':Shared),CX w [] H s (λ_ _ _=>False) e s'->False) :
  PySem.W.WalkO q loose XP YP l.row.toRowW d [] (λf vs=>PySem.call f vs):=by
 refine Att.tK hn hdf λw s₀ s₁ mg mb fa o pm cd doc a vs ns G Y ho hd hcd hmg hobj hints hlen hg=>?_
 have KX:=hY w _ Y
 obtain⟨fd,hb,hF⟩:=F w mg fa _ KX G.T.g hmg
 exact zG KX G.T.g G.T.b G.T.builtins G.T.nolimit (let ⟨mm,h1,_⟩:=(G.T.seer hi).mods;⟨mm,h1⟩) hg hobj hints (Kh hlen hn2) hr hF hb (λH hO hS=>hsp w H a ns hlen hO hS) λH e s'=>hCX w H s₁ e s'
def gX (s:Stmt):Arguments:=match s with
 | .FunctionDef _ a _ _ _ _ _ _ _ _=>a
 |_=>{posonlyargs:=[],args:=[],vararg:=none,kwonlyargs:=[],kw_defaults:=[],kwarg:=none,defaults:=[]}
def cO (s:Stmt):List Stmt:=match s with
 | .FunctionDef _ _ b _ _ _ _ _ _ _=>b
 |_=>[]
def ai (s:Stmt):Scope:=match s with
 | .FunctionDef _ _ _ _ _ _ sc _ _ _=>sc
 |_=>{kind:=.function,names:=[],isGenerator:=false,isCoroutine:=false}
abbrev pB:rj:=λ_ _ _ _ _ _=>False
abbrev E0:XK:=λ_ _ _=>False
def Ai {X:Cx}:Passes pB X E0:=λ_ _ _ _ _ _ _ h=>h.elim
structure wY (K:Frag)(x qual:Str)(st:Stmt)(f:Addr)(fd:FuncData):Prop where
 ex:∃(oc:Value) (od:Option Addr) (kV doc pm:Value) (an:Option Addr) (cdv ct:Value) (osl:Array (Option Value)),
  fd=PySem.W.fnOf x qual (gX st) (cO st) (ai st) .none kV doc pm an cdv ct/\K.lookup f=some ⟨oc,od,.func fd,osl⟩/\PySem.W.codeIn K cdv qual=true
 kp:PySem.W.keepIn K (.ref f)=true
section
variable {P:Program}{w:World}{K:Frag}{mg:Str->Option Value}{base:Heap}
def wY.ok {x qual:Str}{st:Stmt}{f:Addr}{fd:FuncData}{N ps:List Str}{k:Nat}{sp:Sp}(F:wY K x qual st f fd)(S:aC N ps (ai st))(len:∀vs H Q E,sp vs H Q E->vs.length=ps.length)
  (hbody:∀(cdv:Value) (A:Around) (outer:List Env) (s:Shared) (H:Hp) (vs:List V) (Q:VK) (E:XK),dX k (A.deeper (envOfC qual (ai st) s.heap.objs.size f cdv))->sp vs H Q E->
   ∃t,me (jz pB P w K mg base N qual (ai st) f cdv A outer s H E).nox (cO st) t/\t {nx:=λ_ H'=>Q .non H',rt:=Q} (start N vs) H):fF P w K mg base pB (k + 1) f fd ps sp:=by
 obtain⟨oc,od,kV,doc,pm,an,cdv,ct,osl,rfl,lk,hcd⟩:=F.ex
 refine Cq lk hcd S len λA outer s H vs Q E hr hsp=>?_
 obtain⟨t,h,q⟩:=hbody cdv A outer s H vs Q E hr hsp
 exact⟨t,h.nox,q⟩
def wY.binds {x qual:Str}{st:Stmt}{f:Addr}{fd:FuncData}{ps:List Str}(F:wY K x qual st f fd)
  (h:∀(kV doc pm:Value) (an:Option Addr) (cdv ct:Value) (us:List Value),us.length=ps.length->bindArgs (PySem.W.fnOf x qual (gX st) (cO st) (ai st) .none kV doc pm an cdv ct) ⟨us,[]⟩=pure (ps.zip us)):Binds K fd ps []:=by
 obtain⟨oc,od,kV,doc,pm,an,cdv,ct,osl,rfl,lk,hcd⟩:=F.ex
 exact .all (h kV doc pm an cdv ct)
def vA {x qual:Str}{st:Stmt}{f:Addr}{oc:Value}{od an:Option Addr}{osl:Array (Option Value)}{kV doc pm cdv ct:Value}(l:K.lookup f=some ⟨oc,od,.func (PySem.W.fnOf x qual (gX st) (cO st) (ai st) .none kV doc pm an cdv ct),osl⟩)
  (c:PySem.W.codeIn K cdv qual=true) (k:PySem.W.keepIn K (.ref f)=true):wY K x qual st f (PySem.W.fnOf x qual (gX st) (cO st) (ai st) .none kV doc pm an cdv ct):=⟨⟨oc,od,kV,doc,pm,an,cdv,ct,osl,rfl,l,c⟩,k⟩
end
section
variable {X:Cx}
def pv (i:Nat){x:Str}{pos:Pos}(hN:X.N[i]? =some x:=by rfl)(hv:uf X.env.scope x:=by first |exact Or.inl rfl |exact Or.inr (Or.inl rfl) |exact Or.inr (Or.inr rfl))(hd:(x == ("__debug__":Str))=false:=by decide)
  (hcd:(x == ("__classdict__":Str))=false:=by decide):PE X (.Name x pos) (yj i):=gC hN hv hd hcd
end
def oW {A B:Prop}(h:B):if false=true then A else B:=by
 rw[Ju JA]
 exact h
def ub {A B:Prop}(h:A):if true=true then A else B:=by
 rw[Jk rfl]
 exact h
def Iw (o:Obj):Prop:=∃vs q t,o.data=.fields vs/\vs[1]? =some (.str q t)
def C2:List Value->Prop
 | []=>True
 | .int _ _ :: .int _ _ :: .ref _ :: r=>C2 r
 |_=>False
theorem C2.app:∀{l m:List Value},C2 l->C2 m->C2 (l ++ m)
 | [],_,_,h=>h
 | .int _ _ :: .int _ _ :: .ref _ :: r,_,h,k=>C2.app (l:=r) h k
def Kt (H:Hp)(b:Addr):HO->Prop
 | .tbl ps=>∃more:Array Value,H b=some (.tbl (ps ++ more))/\C2 more.toList/\∀c,Value.ref c∈more.toList->∃o,H c=some (.a7 o (.own 0))/\Iw o
 |o=>H b=some o
theorem Kt.of {H:Hp}{b:Addr}{o:HO}(h:H b=some o):Kt H b o:=by
 cases o with
 |tbl ps=>exact⟨#[],by rw[h];simp,trivial,λc hc=>by simp at hc⟩
 |_=>exact h
def ar (H H':Hp):Prop:=∀b o,H b=some o->Kt H' b o
def ar.refl (H:Hp):ar H H:=λ_ _ h=>Kt.of h
theorem Kt.some {H:Hp}{b:Addr}{o:HO}(h:Kt H b o):∃u,H b=Option.some u/\((∀ps,o≠.tbl ps)->u=o)/\((∃ps,o=.tbl ps)->∃ps,u=.tbl ps):=by
 cases o with
 |tbl ps=>obtain⟨m,e,_⟩:=h;exact⟨_,e,λz=>absurd rfl (z ps),λ_=>⟨_,rfl⟩⟩
 |_=>exact⟨_,h,λ_=>rfl,λ⟨ps,z⟩=>by cases z⟩
theorem Kt.step {H H':Hp}{b:Addr}{o:HO}(h:Kt H b o)(s:ar H H'):Kt H' b o:=by
 cases o with
 |tbl ps=>
  obtain⟨m,e,t1,k⟩:=h
  obtain⟨m2,e2,t2,k2⟩:=s b _ e
  refine⟨m ++ m2,by rw[e2,Array.append_assoc],by rw[K6];exact t1.app t2,λc hc=>?_⟩
  rw[K6,JT] at hc
  rcases hc with hc |hc
  ·obtain⟨o,eo,io⟩:=k c hc;exact⟨o,s c _ eo,io⟩
  ·exact k2 c hc
 |lst xs=>exact s b _ h
 |tup xs=>exact s b _ h
 |dK xs=>exact s b _ h
 |dT xs=>exact s b _ h
 |set S n=>exact s b _ h
 |ins C dx fs=>exact s b _ h
 |own x=>exact s b _ h
 |xd fs=>exact s b _ h
 |met f x=>exact s b _ h
 |fo lo hi=>exact s b _ h
 |a7 o u=>exact s b _ h
 |ext φ=>exact s b _ h
def ar.trans {H H1 H2:Hp}(a:ar H H1)(b:ar H1 H2):ar H H2:=λc o h=>(a c o h).step b
theorem ar.free {H H':Hp}(e:ar H H'){l:Addr}(h:H' l=Option.none):H l=Option.none:=by
 cases q:H l with
 |none=>rfl
 |some o=>
  obtain⟨u,z,_⟩:=(e l o q).some
  rw[z] at h
  cases h
def ar.seq {K:Frag}{H H':Hp}{a:Addr}{xs:List V}(e:ar H H')(h:fP K H a xs):fP K H' a xs:=by
 rcases h with (h | ⟨o,h⟩) |h
 ·exact .inl (.inl (e _ _ h))
 ·exact .inl (.inr ⟨o,e _ _ h⟩)
 ·exact .inr h
end L2
end
section
namespace RQ
open PySem L2
def top (i:Nat):Stmt:=PySem.Challenge.pw_rowsorder_k64_builds_refused.main.body.getD i (.Pass ⟨0,0,0,0⟩)
abbrev i8:Stmt:=top 2
abbrev i6:Stmt:=top 3
abbrev jS:Stmt:=top 4
abbrev jW:Stmt:=top 5
abbrev j7:Stmt:=top 6
abbrev dP:Stmt:=top 7
abbrev jl:Stmt:=top 29
abbrev i4:Stmt:=top 27
abbrev fY:Stmt:=top 30
abbrev bM:Stmt:=top 31
abbrev kY:Stmt:=top 34
abbrev fw:Stmt:=top 33
abbrev dJ:Stmt:=top 36
abbrev dS:Stmt:=top 35
abbrev jo:Stmt:=top 37
abbrev rJ:Stmt:=top 38
abbrev gR:Stmt:=top 43
abbrev gQ:Stmt:=top 44
abbrev fq:Stmt:=top 42
abbrev hR:Stmt:=top 40
abbrev hV:Stmt:=top 41
abbrev dq:Stmt:=top 47
abbrev ji:Stmt:=top 46
abbrev jQ:Stmt:=top 49
abbrev gY:Stmt:=top 54
abbrev ff:Stmt:=top 51
abbrev fu:Stmt:=top 52
abbrev dh:Stmt:=top 53
abbrev jm:Stmt:=top 59
abbrev hU:Stmt:=top 60
abbrev di:Stmt:=top 61
abbrev c9:Stmt:=top 62
abbrev g7:Stmt:=top 63
abbrev fW:Stmt:=top 64
abbrev gc:Stmt:=top 67
abbrev dH:Stmt:=top 68
abbrev c8:Stmt:=top 69
abbrev kf:Stmt:=top 70
end RQ
namespace RO
open PySem L2
abbrev i2:Stmt:=RQ.dP
abbrev lg:Stmt:=RQ.top 28
abbrev iI:Stmt:=RQ.top 65
abbrev sH:Stmt:=RQ.top 66
end RO
end
namespace L2.ST
open PySem PySem.SetTable
def IV (mask i perturb:Nat):Probe:={j:=i,more:=runEnd mask i - i,i,perturb,dummy:=none}
def st (mask:Nat)(h:Int):Probe:=IV mask (bits h % (mask + 1)) (bits h)
def nx (mask i:Nat):Nat:=(i * 5 + 1) % (mask + 1)
abbrev own (o:Array (Option Nat))(j:Nat):Option Nat:=o.getD j none
abbrev Pr:=Int×Int
def hp (p:Pr):Int:=reduceHash (Builtin.Tuple.tupleHashOf [hashInt p.1,hashInt p.2])
def td (w:World):Bool:= !(w.params.followText "set-order")
section
variable {prog:Program}{w:World}{A:Around}{E:Value->Shared->Prop}{s:Shared}{R:Result->Shared->Prop}{I:Addr}{fp wr:List Addr}{n:Nat}{P:Nat->Value->Prop}{St:Nat->Heap->Prop}
def tZ (a:Value){Q1:Value->Shared->Prop}
  (h:Q1 (.ref s.heap.objs.size) {s with heap:=s.heap.push {cls:=.type "set",dict:=none,data:=.set #[] 0 (.fresh 0 0 (td w))}}) :
  codeAny (model prog w) A (.call (.builtin "set.__new__") ⟨[.type "set",a],[]⟩) (wants Q1 E) s:=by
 refine codeAny_of_tree ?_
 show wpAny _ A.in1 (do (checkBuiltinCall "set.__new__" ⟨[.type "set",a],[]⟩);again (.builtin "set.__new__" ⟨[.type "set",a],[]⟩)) _ _ s
 refine Ji (wpAny_of_eq (F.newCall_set_1 a) (Jp ⟨plainId_quiet F.plain_set_new _,Ld F.entry_set_new ?_⟩))
 rw[K3 F.plain_set_new _]
 (unfold Builtin.«set.__new__» Builtin.Frozenset.newClass)
 have hsub0:=sub_set_self
 obtain⟨hp0,g0,d0,tk0,os0⟩:=s
 dsimp only
 wp_walk
 (refine wpAny_askSetting (Jp ?_))
 dsimp only
 simp only[newObj]
 (refine Ji (wpAny_alloc (Jp ?_)))
 exact Jp h
structure Src (prog:Program)(w:World)(h:Heap)(l:Addr)(vs:List Value)(T:String)(itO:Obj)(St:Addr->Nat->Heap->Prop):Prop where
 ty:∃o,h.get? l=some o/\o.cls=.type T
 ns:isSubtype (.type T) (.type "set")=pure false
 nf:isSubtype (.type T) (.type "frozenset")=pure false
 nd:(Value.type T == Value.type "dict")=false
 it:∀(A:Around) (s1:Shared) (Q:Value->Shared->Prop) (E:Value->Shared->Prop),(∀b o,h.get? b=some o->s1.heap.get? b=some o)->Q (.ref s1.heap.objs.size) {s1 with heap:=s1.heap.push itO}->wpAny (model prog w) A (pyIter (.ref l)) Q E s1
 st:∀(h1:Heap),(∀b o,h.get? b=some o->h1.get? b=some o)->St h1.objs.size 0 (h1.push itO)
 wk:∀(A:Around) (I:Addr),A.handled=none->l≠I->Walks prog w A I [I,l] [I] vs.length (λi v=>vs[i]? =some v) (St I)
def Src.list {h:Heap}{l:Addr}{vs:List Value}(hl:h.IsList l vs.toArray):Src prog w h l vs "list" {cls:=.type "list_iterator",data:=.fields #[.ref l,.int 0 0]} (λI i h'=>h'.IsListIter I l i/\h'.IsList l vs.toArray):=by
 obtain⟨o,ho,hc,n,hd⟩:=id hl
 refine⟨⟨o,ho,hc⟩,F.sub_list_set,F.sub_list_frozenset,by decide,λA s1 Q E k hQ=>KS ⟨o,k _ _ ho,hc,n,hd⟩ hQ,λh1 k=>⟨⟨_,Jt _ rfl,rfl,rfl⟩,⟨o,Jj _ (k _ _ ho),hc,n,hd⟩⟩,λA I hh hne=>?_⟩
 have:=Walks.list (prog:=prog) (w:=w) hh I l hne vs.toArray
 simpa using this
def sub_tuple_set:isSubtype (.type "tuple") (.type "set")=pure false:=by rw[isSubtype_type];kernel_rfl
def sub_tuple_frozenset:isSubtype (.type "tuple") (.type "frozenset")=pure false:=by rw[isSubtype_type];kernel_rfl
def Src.tuple {h:Heap}{l:Addr}{vs:List Value}(hl:h.IsTuple l vs.toArray):Src prog w h l vs "tuple" {cls:=.type "tuple_iterator",data:=.fields #[.ref l,.int 0 0]} (λI i h'=>h'.IsTupleIter I l i/\h'.IsTuple l vs.toArray):=by
 obtain⟨o,ho,hc,n,hd⟩:=id hl
 refine⟨⟨o,ho,hc⟩,sub_tuple_set,sub_tuple_frozenset,by decide,λA s1 Q E k hQ=>KN ⟨o,k _ _ ho,hc,n,hd⟩ hQ,λh1 k=>⟨⟨_,Jt _ rfl,rfl,rfl⟩,⟨o,Jj _ (k _ _ ho),hc,n,hd⟩⟩,λA I hh hne=>?_⟩
 have:=Walks.tuple (prog:=prog) (w:=w) hh I l hne vs.toArray
 simpa using this
end
end L2.ST
namespace OM
abbrev Pr:=Int×Int
def Au (p q:Pr):Prop:=p.1 < q.1\/(p.1=q.1/\p.2 < q.2)
instance (p q:Pr):Decidable (Au p q):=by unfold Au;infer_instance
def i5 (p:Pr):¬Au p p:=by unfold Au;omega
def yd {p q r:Pr}(a:Au p q)(b:Au q r):Au p r:=by unfold Au at *;omega
abbrev yA (l:List Pr):Prop:=l.Pairwise Au
theorem lr:∀{l m:List Pr},yA l->yA m->(∀x,x∈l↔x∈m)->l=m
 | [],[],_,_,_=>rfl
 | [],b :: m,_,_,h=>absurd ((h b).mpr (JB ..)) (by simp)
 |a :: l,[],_,_,h=>absurd ((h a).mp (JB ..)) (by simp)
 |a :: l,b :: m,hl,hm,h=>by
  have hl':=List.pairwise_cons.mp hl
  have hm':=List.pairwise_cons.mp hm
  have e:a=b:=by
   rcases Jn.mp ((h a).mp (JB ..)) with e |e
   ·exact e
   ·rcases Jn.mp ((h b).mpr (JB ..)) with e' |e'
    ·exact e'.symm
    ·exact absurd (yd (hm'.1 a e) (hl'.1 b e')) (i5 _)
  subst e
  congr 1
  refine lr hl'.2 hm'.2 λx=>⟨λhx=>?_,λhx=>?_⟩
  ·rcases Jn.mp ((h x).mp (Jx _ hx)) with e |e
   ·subst e;exact absurd (hl'.1 x hx) (i5 _)
   ·exact e
  ·rcases Jn.mp ((h x).mpr (Jx _ hx)) with e |e
   ·subst e;exact absurd (hm'.1 x hx) (i5 _)
   ·exact e
def yv {l:List Pr}(h:yA l):l.Nodup:=h.imp λ{a b} hab e=>by subst e;exact i5 _ hab
def gG {l:List Pr}(p:Pr->Bool)(h:yA l):yA (l.filter p):=h.sublist List.filter_sublist
def dE (n:Nat):List Pr:=(List.range (n * n)).map λk=>(((k / n:Nat):Int),((k % n:Nat):Int))
def cy {n:Nat}{p:Pr}:p∈dE n↔(0<=p.1/\p.1 < n)/\(0<=p.2/\p.2 < n):=by
 unfold dE
 rw[KZ]
 constructor
 ·rintro⟨k,hk,rfl⟩
  have hk:=J6.mp hk
  have hn:0 < n:=by
   rcases Nat.eq_zero_or_pos n with e |e
   ·subst e;omega
   ·exact e
  have h1:k / n < n:=Nat.div_lt_of_lt_mul hk
  have h2:k % n < n:=Nat.mod_lt _ hn
  generalize k / n=q at h1
  generalize k % n=r at h2
  exact⟨⟨Int.natCast_nonneg _,by dsimp only;omega⟩,⟨Int.natCast_nonneg _,by dsimp only;omega⟩⟩
 ·rintro⟨⟨a0,a1⟩,⟨b0,b1⟩⟩
  have hn:0 < n:=by omega
  refine⟨p.1.toNat * n + p.2.toNat,J6.mpr ?_,?_⟩
  ·have h1:p.1.toNat + 1<=n:=by omega
   have h2:p.2.toNat < n:=by omega
   have:=Nat.mul_le_mul_right n h1
   rw[Nat.add_mul] at this
   omega
  ·have h2:p.2.toNat < n:=by omega
   have e1:(p.1.toNat * n + p.2.toNat) / n=p.1.toNat:=by
    rw[Nat.mul_comm,Nat.mul_add_div hn,Nat.div_eq_of_lt h2];rfl
   have e2:(p.1.toNat * n + p.2.toNat) % n=p.2.toNat:=by
    rw[Nat.mul_comm,Nat.mul_add_mod,Nat.mod_eq_of_lt h2]
   rw[e1,e2]
   refine Prod.ext ?_ ?_ <;> dsimp only <;> omega
def iO (n:Nat):yA (dE n):=by
 unfold dE
 refine List.pairwise_map.mpr (List.Pairwise.imp_of_mem ?_ List.pairwise_lt_range)
 intro a b ha hb hab
 have ha:=J6.mp ha
 have hb:=J6.mp hb
 have hn:0 < n:=by
  rcases Nat.eq_zero_or_pos n with e |e
  ·subst e;omega
  ·exact e
 have h1:a / n<=b / n:=Nat.div_le_div_right (Lg hab)
 have e1:=Nat.div_add_mod a n
 have e2:=Nat.div_add_mod b n
 unfold Au
 dsimp only
 rcases Nat.lt_or_ge (a / n) (b / n) with c |c
 ·left;omega
 ·right
  have e:a / n=b / n:=by omega
  rw[e] at e1
  omega
open Classical in
noncomputable def i3 (n:Nat)(R:Int->Int->Prop):List Pr:=(dE n).filter λp=>decide (R p.1 p.2)
def k9 {n:Nat}{R:Int->Int->Prop}{p:Pr}:p∈i3 n R↔((0<=p.1/\p.1 < n)/\(0<=p.2/\p.2 < n))/\R p.1 p.2:=by
 unfold i3
 rw[J4,cy]
 simp
def nh (n:Nat)(R:Int->Int->Prop):yA (i3 n R):=gG _ (iO n)
def vn {n:Nat}{R S:Int->Int->Prop}(h:∀a b:Int,0<=a->a < n->0<=b->b < n->(R a b↔S a b)):i3 n R=i3 n S:=by
 refine lr (nh n R) (nh n S) λx=>?_
 rw[k9,k9]
 constructor
 ·rintro⟨⟨⟨a,b⟩,c,d⟩,r⟩;exact⟨⟨⟨a,b⟩,c,d⟩,(h _ _ a b c d).mp r⟩
 ·rintro⟨⟨⟨a,b⟩,c,d⟩,r⟩;exact⟨⟨⟨a,b⟩,c,d⟩,(h _ _ a b c d).mpr r⟩
def Wn (n:Nat)(l:List Pr):Prop:=∀p,p∈l->(0<=p.1/\p.1 < n)/\(0<=p.2/\p.2 < n)
abbrev Mem (l:List Pr)(a b:Int):Prop:=(a,b)∈l
def xm {n:Nat}{l:List Pr}(w:Wn n l)(r:yA l):i3 n (Mem l)=l:=by
 refine lr (nh n _) r λx=>?_
 rw[k9]
 exact⟨λh=>h.2,λh=>⟨w x h,h⟩⟩
def zk (n:Nat)(R:Int->Int->Prop):(i3 n R).length<=n * n:=by
 unfold i3
 refine Kh (List.length_filter_le ..) ?_
 unfold dE;simp
inductive Tr (R:Int->Int->Prop):Int->Int->Prop
 |one {a b}:R a b->Tr R a b
 |more {a b c}:R a b->Tr R b c->Tr R a c
theorem Tr.trans {R:Int->Int->Prop}{a b c:Int}(h:Tr R a b)(k:Tr R b c):Tr R a c:=by
 induction h with
 |one r=>exact .more r k
 |more r _ ih=>exact .more r (ih k)
theorem Tr.least {R S:Int->Int->Prop}(f:∀a b,R a b->S a b)(t:∀a b c,S a b->S b c->S a c){a b:Int}(h:Tr R a b):S a b:=by
 induction h with
 |one r=>exact f _ _ r
 |more r _ ih=>exact t _ _ _ (f _ _ r) ih
structure Ord (n:Nat)(l:List Pr):Prop where
 lo:1<=n
 hi:n<=8
 wn:Wn n l
 ris:yA l
 irr:∀a,(a,a)∉l
 tr:∀a b c,(a,b)∈l->(b,c)∈l->(a,c)∈l
def Ord.tr_mem {n:Nat}{l:List Pr}(O:Ord n l){a b:Int}:Tr (Mem l) a b↔(a,b)∈l:=
 ⟨λh=>h.least (λ_ _ r=>r) λa b c=>O.tr a b c,λh=>.one h⟩
def Ord.closed {n:Nat}{l:List Pr}(O:Ord n l):i3 n (Tr (Mem l))=l:=by
 rw[vn (S:=Mem l) λa b _ _ _ _=>O.tr_mem,xm O.wn O.ris]
theorem jn {l m:List Pr}(hl:l.Nodup)(h:∀x,x∈l->x∈m):l.length<=m.length:=by
 induction l generalizing m with
 |nil=>exact JY _
 |cons a l ih=>
  have ha:=h a (JB ..)
  have hl':=Kg.mp hl
  have:=ih (m:=m.erase a) hl'.2 λx hx=>by
   refine (List.mem_erase_of_ne ?_).mpr (h x (Jx _ hx))
   rintro rfl;exact hl'.1 hx
  rw[List.length_erase_of_mem ha] at this
  have:0 < m.length:=List.length_pos_of_mem ha
  simp only[JM];omega
def sub_eq {l m:List Pr}(hl:yA l)(hm:yA m)(h:∀x,x∈l->x∈m)(e:l.length=m.length):l=m:=by
 refine lr hl hm λx=>⟨h x,λhx=>Classical.byContradiction λhn=>?_⟩
 have:=jn (l:=x :: l) (m:=m) (Kg.mpr ⟨hn,yv hl⟩) λy hy=>by
  rcases Jn.mp hy with e |e
  ·subst e;exact hx
  ·exact h y e
 simp only[JM] at this
 omega
abbrev Tb:=Nat->Nat->Bool
def Tb.set (M:Tb)(a b:Nat):Tb:=λx y=>if x=a/\y=b then true else M x y
def A7 (M:Tb)(m:Nat):Prop:=∀k a b,k < m->M a k=true->M k b=true->M a b=true
def Phase (M0 M:Tb)(m:Nat)(D:Nat->Nat->Prop):Prop:=∀a b,M a b=true↔M0 a b=true\/(D a b/\M0 a m=true/\M0 m b=true)
def Phase.start (M:Tb)(m:Nat):Phase M M m λ_ _=>False:=λa b=>by simp
def Phase.row {M0 M:Tb}{m:Nat}{D:Nat->Nat->Prop}(P:Phase M0 M m D)(a:Nat):M a m=true↔M0 a m=true:=by
 rw[P]
 exact⟨λh=>h.elim id λh=>h.2.1,.inl⟩
def Phase.col {M0 M:Tb}{m:Nat}{D:Nat->Nat->Prop}(P:Phase M0 M m D)(b:Nat):M m b=true↔M0 m b=true:=by
 rw[P]
 exact⟨λh=>h.elim id λh=>h.2.2,.inl⟩
def Phase.step {M0 M:Tb}{m:Nat}{D:Nat->Nat->Prop}(P:Phase M0 M m D)(x y:Nat) :
  Phase M0 (if M x m=true/\M m y=true then M.set x y else M) m (λa b=>D a b\/(a=x/\b=y)):=λa b=>by
 have r:=P.row x
 have c:=P.col y
 by_cases h:M x m=true/\M m y=true
 ·rw[Jk h]
  unfold Tb.set
  by_cases e:a=x/\b=y
  ·rw[Jk e]
   obtain⟨rfl,rfl⟩:=e
   simp only[true_iff]
   exact .inr ⟨.inr (by simp),r.mp h.1,c.mp h.2⟩
  ·rw[Ju e,P]
   constructor
   ·rintro (q | ⟨d,q⟩)
    ·exact .inl q
    ·exact .inr ⟨.inl d,q⟩
   ·rintro (q | ⟨d |d,q⟩)
    ·exact .inl q
    ·exact .inr ⟨d,q⟩
    ·exact absurd d e
 ·rw[Ju h,P]
  constructor
  ·rintro (q | ⟨d,q⟩)
   ·exact .inl q
   ·exact .inr ⟨.inl d,q⟩
  ·rintro (q | ⟨d | ⟨rfl,rfl⟩,q1,q2⟩)
   ·exact .inl q
   ·exact .inr ⟨d,q1,q2⟩
   ·exact absurd ⟨r.mpr q1,c.mpr q2⟩ h
def Phase.done {M0 M:Tb}{m n:Nat}{D:Nat->Nat->Prop}(P:Phase M0 M m D)(hD:∀a b,a < n->b < n->D a b)(hM:∀a b,M0 a b=true->a < n/\b < n)(T:A7 M0 m) :
  A7 M (m + 1)/\∀a b,M a b=true->a < n/\b < n:=by
 have hM':∀a b,M a b=true->a < n/\b < n:=λa b h=>by
  rcases (P a b).mp h with q | ⟨_,q1,q2⟩
  ·exact hM a b q
  ·exact⟨(hM _ _ q1).1,(hM _ _ q2).2⟩
 have put:∀a b,M0 a m=true->M0 m b=true->M a b=true:=λa b h1 h2=>(P a b).mpr (.inr ⟨hD a b (hM _ _ h1).1 (hM _ _ h2).2,h1,h2⟩)
 refine⟨λk a b hk h1 h2=>?_,hM'⟩
 rcases Nat.lt_or_ge k m with c |c
 ·rcases (P a k).mp h1 with q1 | ⟨_,q1,q1'⟩
  ·rcases (P k b).mp h2 with q2 | ⟨_,q2,q2'⟩
   ·exact (P a b).mpr (.inl (T k a b c q1 q2))
   ·exact put a b (T k a m c q1 q2) q2'
  ·rcases (P k b).mp h2 with q2 | ⟨_,q2,q2'⟩
   ·exact put a b q1 (T k m b c q1' q2)
   ·exact put a b q1 q2'
 ·have e:k=m:=by omega
  subst e
  exact put a b ((P.row a).mp h1) ((P.col b).mp h2)
structure Tab (n:Nat)(ps:List Pr)(M:Tb):Prop where
 inn:∀a b,M a b=true->a < n/\b < n
 sub:∀a b:Nat,((a:Int),(b:Int))∈ps->M a b=true
 sup:∀a b:Nat,M a b=true->Tr (Mem ps) a b
def Tab.phase {n:Nat}{ps:List Pr}{M0 M:Tb}{m:Nat}{D:Nat->Nat->Prop}(T:Tab n ps M0)(P:Phase M0 M m D):Tab n ps M:=
 ⟨λa b h=>by
  rcases (P a b).mp h with q | ⟨_,q1,q2⟩
  ·exact T.inn a b q
  ·exact⟨(T.inn _ _ q1).1,(T.inn _ _ q2).2⟩,
  λa b h=>(P a b).mpr (.inl (T.sub a b h)),
  λa b h=>by
  rcases (P a b).mp h with q | ⟨_,q1,q2⟩
  ·exact T.sup a b q
  ·exact (T.sup _ _ q1).trans (T.sup _ _ q2)⟩
def Tab.all {n:Nat}{ps:List Pr}{M:Tb}(w:Wn n ps)(T:Tab n ps M)(H:A7 M n)(a b:Nat):M a b=true↔Tr (Mem ps) a b:=by
 refine⟨T.sup a b,λh=>?_⟩
 have key:∀{x y:Int},Tr (Mem ps) x y->M x.toNat y.toNat=true:=λ{x y} h=>by
  induction h with
  | @one x y r=>
   have:=w _ r
   refine T.sub _ _ ?_
   have e1:((x.toNat:Nat):Int)=x:=by simp only at this;omega
   have e2:((y.toNat:Nat):Int)=y:=by simp only at this;omega
   rw[e1,e2];exact r
  | @more x y z r _ ih=>
   have:=w _ r
   have e1:((x.toNat:Nat):Int)=x:=by simp only at this;omega
   have e2:((y.toNat:Nat):Int)=y:=by simp only at this;omega
   have q:M x.toNat y.toNat=true:=T.sub _ _ (by rw[e1,e2];exact r)
   exact H y.toNat _ _ (T.inn _ _ q).2 q ih
 have:=key h
 simpa using this
end OM
namespace L2
open PySem PySem.Spec PyProof.Rows
abbrev Pr:=Int×Int
section
variable {X:Cx}{pins:List (Addr×Obj)}{σ:St}{H H':Hp}{s:Shared}
def iC (H H':Hp):Prop:=(∀b xs,H b=some (.tup xs)->H' b=some (.tup xs))/\∀b o u,H b=some (.a7 o u)->H' b=some (.a7 o u)
def iC.trans {H H1 H2:Hp}(a:iC H H1)(b:iC H1 H2):iC H H2:=⟨λc xs h=>b.1 c xs (a.1 c xs h),λc o u h=>b.2 c o u (a.2 c o u h)⟩
def ar.grow {H H':Hp}(e:ar H H'):iC H H':=⟨λb xs h=>e b _ h,λb o u h=>e b _ h⟩
def iC.new {H:Hp}{l:Addr}{o:HO}(h:H l=none):iC H (upd H l o):=⟨λb xs e=>by rw[aw (aE e h)];exact e,λb o' u e=>by rw[aw (aE e h)];exact e⟩
def ar.new {H:Hp}{l:Addr}{o:HO}(h:H l=none):ar H (upd H l o):=λb u e=>Kt.of (by rw[aw (aE e h)];exact e)
def dW.grow {K:Frag}{a:Addr}{xs:List V}(h:dW K H a xs)(g:iC H H'):dW K H' a xs:=by
 rcases h with (h | ⟨o,h⟩) |h
 ·exact .inl (.inl (g.1 _ _ h))
 ·exact .inl (.inr ⟨o,g.2 _ _ _ h⟩)
 ·exact .inr h
def iC.list {a:Addr}{ys:List V}{o:HO}(h:H a=some (.lst ys)):iC H (upd H a o):=
 ⟨λb xs e=>by rw[aw (CL e h (by intro z;cases z))];exact e,λb o' u e=>by rw[aw (CL e h (by intro z;cases z))];exact e⟩
def bA (K:Frag)(H:Hp):List V->List Pr->Prop:=Paired λv p=>∃a,v=.ref a/\dW K H a [.int p.1,.int p.2]
def bA.grow {K:Frag}{vs:List V}{ps:List Pr}(h:bA K H vs ps)(g:iC H H'):bA K H' vs ps:=Paired.mapP h λv p ⟨a,e,q⟩=>⟨a,e,q.grow g⟩
theorem Paired.getP {α β:Type}{F:α->β->Prop}:∀{l:List α} {m:List β} {i:Nat} {x:α},Paired F l m->l[i]? =some x->∃y,m[i]? =some y/\F x y
 |_,_,_,_,.nil,e=>by simp at e
 |_,_,0,_,.cons r _,e=>by simp at e;subst e;exact⟨_,rfl,r⟩
 |_,_,i + 1,x,.cons _ t,e=>by
  obtain⟨u,h1,h2⟩:=Paired.getP (i:=i) (x:=x) t (by simpa using e)
  exact⟨u,by simpa using h1,h2⟩
end
def kE (cells:List (Str×Addr)):List (Str×NameKind)->List (Str×Addr)->List (Str×Addr)
 | [],cs=>cs
 | (n,k) :: r,cs=>kE cells r (if k == .free then (n,(cells.lookup n).getD 0) :: cs else cs)
def kB {scope:Scope}{env:Env}(h:∀y∈scope.names,y.2=.free->∃c,env.cells.lookup y.1=some c):closureFor scope env=pure (kE env.cells scope.names []):=by
 unfold closureFor
 have key:∀(l:List (Str×NameKind)) (cs:List (Str×Addr)),(∀y∈l,y.2=.free->∃c,env.cells.lookup y.1=some c)->
   (forIn l cs (λ(x:Str×NameKind) (r:List (Str×Addr))=>if (x.2 == NameKind.free)=true then (do let a <-cellOf env x.1;pure (ForInStep.yield ((x.1,a) :: r)):Sem _) else pure (ForInStep.yield r)):Sem (List (Str×Addr)))=pure (kE env.cells l cs):=by
  intro l
  induction l with
  |nil=>intro cs _;rfl
  |cons y l ih=>
   intro cs hy
   obtain⟨n,k⟩:=y
   rw[List.forIn_cons]
   unfold kE
   by_cases hk:(k == NameKind.free)=true
   ·have hk':k=.free:=by simpa using hk
    obtain⟨c,hc⟩:=hy (n,k) (JB ..) hk'
    have hce:cellOf env n=pure c:=by unfold cellOf;rw[hc]
    simp only[hk,Km]
    have hc':env.cells.lookup n=some c:=hc
    rw[hce,hc']
    simp only[pure_bind,Option.getD_some]
    exact ih _ λz hz=>hy z (Jx _ hz)
   ·simp only[hk,K1,Kw]
    simp only[pure_bind]
    exact ih _ λz hz=>hy z (Jx _ hz)
 have:=key scope.names [] h
 simp only[bind_pure_comp] at this ⊢
 first
  |exact this
  | (rw[this];rfl)
  | (simpa using this)
theorem qi {cells:List (Str×Addr)}{x:Str}:∀{l:List (Str×NameKind)} {cs:List (Str×Addr)},((x,NameKind.free)∈l\/cs.lookup x=some ((cells.lookup x).getD 0))->(kE cells l cs).lookup x=some ((cells.lookup x).getD 0)
 | [],cs,h=>by
  rcases h with h |h
  ·cases h
  ·exact h
 | (n,k) :: r,cs,h=>by
  unfold kE
  refine qi ?_
  by_cases hk:(k == NameKind.free)=true
  ·rw[Jk hk]
   by_cases hx:x=n
   ·subst hx;right;simp
   ·rcases h with h |h
    ·rcases Jn.mp h with e |e
     ·injection e with e1 _;exact absurd e1 hx
     ·exact .inl e
    ·right
     rw[KD,show (x == n)=false by simpa using hx]
     exact h
  ·rw[Ju hk]
   rcases h with h |h
   ·rcases Jn.mp h with e |e
    ·injection e with _ e2;exact absurd (by rw[<-e2];rfl) hk
    ·exact .inl e
   ·exact .inr h
theorem j3 {cells:List (Str×Addr)}{x:Str}{c:Addr}:∀{l:List (Str×NameKind)} {cs:List (Str×Addr)},(kE cells l cs).lookup x=some c->((x,NameKind.free)∈l/\c=(cells.lookup x).getD 0)\/cs.lookup x=some c
 | [],cs,h=>.inr h
 | (n,k) :: r,cs,h=>by
  unfold kE at h
  rcases j3 h with⟨a,b⟩ |a
  ·exact .inl ⟨Jx _ a,b⟩
  ·by_cases hk:(k == NameKind.free)=true
   ·rw[Jk hk,KD] at a
    by_cases hx:x=n
    ·subst hx
     simp at a
     have:k=.free:=by simpa using hk
     subst this
     exact .inl ⟨JB ..,a.symm⟩
    ·rw[show (x == n)=false by simpa using hx] at a
     exact .inr a
   ·rw[Ju hk] at a
    exact .inr a
theorem mq {f:Str->NameKind->NameKind}{x:Str}:∀(l:List (Str×NameKind)),(l.map λy=>(y.1,f y.1 y.2)).lookup x=(l.lookup x).map (f x)
 | []=>rfl
 | (n,k) :: l=>by
  rw[Kc,KD,KD]
  by_cases hx:x=n
  ·subst hx;simp
  ·have hb:(x == n)=false:=by simpa using hx
   simp only[hb]
   exact mq l
def oA (scope:Scope)(env:Env)(x:Str):(relabel scope env).names.lookup x=(scope.names.lookup x).map λk=>if (k == .free && env.scope.kind == .function && env.kindOf x == some .cell) then .cell else k:=by
 have e:(relabel scope env).names=scope.names.map λy=>(y.1,if (y.2 == .free && env.scope.kind == .function && env.kindOf y.1 == some .cell) then .cell else y.2):=by
  unfold relabel
  dsimp only
  refine J8 λy _=>?_
  obtain⟨n,k⟩:=y
  dsimp only
  split <;> rfl
 rw[e]
 exact mq (f:=λn k=>if (k == .free && env.scope.kind == .function && env.kindOf n == some .cell) then .cell else k) scope.names
theorem jA:∀(l:List (Str×NameKind)) (n:Nat) (acc:List (Str×Addr)),cellsFrom n l acc=cellsFrom n l [] ++ acc
 | [],_,_=>rfl
 | (x,k) :: r,n,acc=>by
  unfold cellsFrom
  split
  ·rw[jA r (n + 1) ((x,n) :: acc),jA r (n + 1) [(x,n)],KU];rfl
  ·exact jA r n acc
theorem lM:∀{l:List (Str×NameKind)} {n:Nat} {x:Str} {c:Addr},(x,c)∈cellsFrom n l []->n<=c/\(x,NameKind.cell)∈l
 | [],_,_,_,h=>by cases h
 | (y,k) :: r,n,x,c,h=>by
  unfold cellsFrom at h
  split at h
  ·rename_i hk
   have hk:k=.cell:=by simpa using hk
   rw[jA] at h
   rcases JT.mp h with h |h
   ·have:=lM h;exact⟨by omega,Jx _ this.2⟩
   ·rw[JS] at h;cases h;subst hk;exact⟨Jl _,JB ..⟩
  ·have:=lM h;exact⟨this.1,Jx _ this.2⟩
abbrev xW (X:Cx)(scope:Scope)(C:Addr):List (Str×Addr):=cellsFrom (C + 1) scope.names (kE X.env.cells scope.names [])
def wD {M:Model}{A:Around}{E:Value->Shared->Prop}{s:Shared}{scope:Scope}{g:Addr}{cl:List (Str×Addr)}{qual:Str}{env:Env}{Q:Env->Shared->Prop}
  (h:∀h',h'.Ns s.heap.objs.size (λ_=>none)->(∀b o,s.heap.get? b=some o->h'.get? b=some o)->CellsOk h' (s.heap.objs.size + 1) (cellsFrom (s.heap.objs.size + 1) scope.names [])->Q (newEnv scope s.heap.objs.size g (cellsFrom (s.heap.objs.size + 1) scope.names cl) qual none .none (some env) builtinsNs) {s with heap:=h'}) :
  wpAny M A (newFunctionEnv scope g cl [] qual none .none (some env)) Q E s:=by
 simp only[newFunctionEnv,Option.isSome_some,Km]
 refine Ji (wpAny_alloc ?_)
 refine Ji (wpAny_layCells _ (λname kind cells=>by cases hkc:kind == NameKind.cell <;> simp[hkc]) _ _ _ _ ?_)
 have ok:=cellsFrom_ok scope.names (s.heap.push {cls:=.type "dict",data:=.dict #[]}) (s.heap.objs.size + 1) [] ⟨λ_ _ hm=>(nomatch hm),List.Pairwise.nil⟩ (by rw[J2];exact Jl _)
 rw[J2] at ok
 rw[show ({s with heap:=s.heap.push {cls:=.type "dict",data:=.dict #[]}}:Shared).heap.objs.size=s.heap.objs.size + 1 from J2 ..]
 rw[List.forIn_nil]
 exact Ji (Jp (Jp (h _ ((Heap.Ns.new s.heap (.type "dict")).keeps (pushCells_keeps _ _)) (λb o e=>pushCells_keeps _ _ b o (Jj _ e)) ok)))
def dF (X:Cx)(NB:List Str)(scope:Scope)(C:Addr)(ex:List Addr)(s3:Shared)(H3:Hp)(pn:List (Addr×Obj)):Cx:=
 {X with N:=NB,s₀:=s3,H₀:=H3,env:=compEnvC scope (xW X scope C) C X.env,outer:=X.stack,ex:=ex,fn:=λx=>scope.names.lookup x == some .cell,pn:=pn,xe:=λ_ _=>False}
def mD (own:Nat)(ixs:List Nat)(σ:St):St:=List.replicate own none ++ ixs.map λi=>(σ[i]?).join
structure bG (X:Cx)(NB:List Str)(own:Nat)(ixs:List Nat)(scope:Scope):Prop where
 kind:scope.kind=.function
 names:∀y∈scope.names,scope.names.lookup y.1=some y.2
 frees:∀y∈scope.names,y.2=.free->X.env.kindOf y.1=some .cell\/X.env.kindOf y.1=some .free
 nd:NB.Nodup
 len:NB.length=own + ixs.length
 at':∀k,k < ixs.length->NB[own + k]? =X.N[ixs.getD k 0]?/\∀x,NB[own + k]? =some x->(x,NameKind.free)∈scope.names
section
variable {X:Cx}{NB:List Str}{own:Nat}{ixs:List Nat}{scope:Scope}{pins:List (Addr×Obj)}{σ:St}{H:Hp}{s:Shared}
def qg (S:bG X NB own ixs scope)(I:Inv X pins σ H s){fp:List Addr}(hfp:∀b∈fp,iN X pins H b)(hob:∀b∈fp,∃o,s.heap.get? b=some o){h1:Heap}{tk:Nat}
  (hn:h1.Ns s.heap.objs.size (λ_=>none)) (hk:∀b o,s.heap.get? b=some o->h1.get? b=some o) (hcl:CellsOk h1 (s.heap.objs.size + 1) (cellsFrom (s.heap.objs.size + 1) scope.names [])) :
  Inv (dF X NB scope s.heap.objs.size fp s H (X.pn ++ pins)) [] (mD own ixs σ) H {s with heap:=h1,toks:=tk}:=by
 have stk:=I.stack
 have frees:∀{x:Str},(x,NameKind.free)∈scope.names->∃c,X.env.cells.lookup x=some c:=λ{x} hx=>I.ok.has x (S.frees _ hx rfl)
 have clE:∀{x:Str} {c:Addr},(xW X scope s.heap.objs.size).lookup x=some c->((x,c)∈cellsFrom (s.heap.objs.size + 1) scope.names []/\s.heap.objs.size < c)\/((x,NameKind.free)∈scope.names/\X.env.cells.lookup x=some c):=λ{x c} h=>by
  unfold xW at h
  rw[jA,Lk] at h
  cases q:(cellsFrom (s.heap.objs.size + 1) scope.names []).lookup x with
  |some c'=>
   rw[q] at h
   cases h
   have hm:=JW q
   exact .inl ⟨hm,(lM hm).1⟩
  |none=>
   rw[q] at h
   have h:(kE X.env.cells scope.names []).lookup x=some c:=h
   rcases j3 h with⟨a,b⟩ |a
   ·obtain⟨c',e⟩:=frees a
    rw[e] at b
    exact .inr ⟨a,by rw[e,b];rfl⟩
   ·simp at a
 have clF:∀{x:Str},(x,NameKind.free)∈scope.names->(xW X scope s.heap.objs.size).lookup x=some ((X.env.cells.lookup x).getD 0):=λ{x} hm=>by
  unfold xW
  rw[jA,Lk]
  cases q:(cellsFrom (s.heap.objs.size + 1) scope.names []).lookup x with
  |some c'=>
   have h1:=S.names _ (lM (JW q)).2
   have h2:=S.names _ hm
   dsimp only at h1 h2
   rw[h1] at h2
   cases h2
  |none=>exact qi (.inl hm)
 have kindB:∀x,(dF X NB scope s.heap.objs.size fp s H (X.pn ++ pins)).env.kindOf x=(scope.names.lookup x).map λk=>if (k == .free && X.env.scope.kind == .function && X.env.kindOf x == some .cell) then .cell else k:=λx=>oA scope X.env x
 have isFree:∀{x:Str},((dF X NB scope s.heap.objs.size fp s H (X.pn ++ pins)).env.kindOf x=some .cell\/(dF X NB scope s.heap.objs.size fp s H (X.pn ++ pins)).env.kindOf x=some .free)->(x,NameKind.free)∈scope.names\/scope.names.lookup x=some .cell:=λ{x} h=>by
  rw[kindB] at h
  cases e:scope.names.lookup x with
  |none=>rw[e] at h;simp at h
  |some k=>
   have hm:=JW e
   cases k with
   |free=>exact .inl hm
   |cell=>exact .inr rfl
   |_=>rw[e] at h;simp at h
 have neN:∀b o,s.heap.get? b=some o->b≠s.heap.objs.size:=λb o e=>JH (Jm e)
 have cellN:∀{x:Str} {c:Addr},X.env.cells.lookup x=some c->c < s.heap.objs.size:=λ{x c} e=>by
  obtain⟨v,o,ho,_⟩:=I.cell x c e
  exact Jm ho
 have ok:(dF X NB scope s.heap.objs.size fp s H (X.pn ++ pins)).Ok:=by
  refine⟨I.ok.mod,S.kind,I.ok.glob,I.ok.blt,Jl _,λx y c h1 h2=>?_,λx hx=>?_,λx c h hc=>?_,I.ok.hd,I.ok.frames,.inl rfl,λb hb=>?_,I.bs,Kh I.ok.bsz I.sz,λb o e hb=>?_,λb hb hs=>?_,stk,I.stkFree⟩
  ·rcases clE h1 with⟨a,l1⟩ | ⟨a,l1⟩
   ·rcases clE h2 with⟨b,l2⟩ | ⟨b,l2⟩
    ·exact name_of_addr hcl.apart a b
    ·exact absurd (KG l1 (cellN l2)) (JJ _)
   ·rcases clE h2 with⟨b,l2⟩ | ⟨b,l2⟩
    ·exact absurd (KG l2 (cellN l1)) (JJ _)
    ·exact I.ok.inj x y c l1 l2
  ·rcases isFree hx with hm |hm
   ·exact⟨_,clF hm⟩
   ·obtain⟨c,hc⟩:=Kj.mp (Ks scope.names (s.heap.objs.size + 1) (kE X.env.cells scope.names []) (.inl hm))
    exact⟨c,hc⟩
  ·rcases clE hc with⟨a,l1⟩ | ⟨a,l1⟩
   ·exact Lg l1
   ·have h1:=S.names _ a
    dsimp only at h1
    have h:(scope.names.lookup x == some NameKind.cell)=true:=h
    rw[h1] at h
    cases h
  ·obtain⟨_,f1,f2,f3,f4,f5⟩:=hfp b hb
   obtain⟨o,ho⟩:=hob b hb
   refine⟨neN b o ho,λx c h z=>?_⟩
   rcases clE h with⟨a,l1⟩ | ⟨a,l1⟩
   ·rw[z] at l1
    exact JJ _ (KG l1 (Jm ho))
   ·exact f4 x c l1 z
  ·obtain⟨_,f1,f2,f3,f4,f5⟩:=hfp b hb
   rcases f3 with f3 |f3
   ·exact I.ok.noex b o e f3
   ·exact absurd (Jz (Jm e) (Kh I.ok.bsz f3)) (JJ _)
  ·obtain⟨_,f1,f2,f3,f4,f5⟩:=hfp b hb
   rcases Jn.mp (I.stkSub b hs) with z |z
   ·exact f1 z
   ·exact f2 z
 refine⟨ok,rfl,I.bare,Un.kept hk,⟨_,hn,λi x v h1' h2' h3'=>?_⟩,λx c h=>?_,I.hok.fresh (Jl _),λx c h=>?_,λp hp=>?_,I.hok.kept hk,?_⟩
 ·
  have h1':NB[i]? =some x:=h1'
  have hown:own<=i:=by
   refine Classical.byContradiction λhc=>?_
   have hlt:i < own:=Nat.lt_of_not_le hc
   unfold mD at h2'
   rw[JV (by simpa using hlt),Kd,Jk hlt] at h2'
   cases h2'
  obtain⟨k,rfl⟩:∃k,i=own + k:=⟨i - own,by omega⟩
  have hk':k < ixs.length:=by
   have:=(Jw.mp h1').1
   rw[S.len] at this;omega
  obtain⟨e1,e2⟩:=S.at' k hk'
  have hm:=e2 x h1'
  unfold mD at h2'
  rw[J0 (by simp),Ki,Nat.add_sub_cancel_left,JC,Jr hk'] at h2'
  simp only[Option.map_some,Option.some.injEq] at h2'
  have hix:ixs.getD k 0=ixs[k]:=by simp[hk']
  have hσ:σ[ixs[k]]? =some (some v):=by
   cases e:σ[ixs[k]]? with
   |none=>rw[e] at h2';cases h2'
   |some o=>rw[e] at h2';simp at h2';rw[h2']
  rw[e1,hix] at h1'
  have hkind:=S.frees _ hm rfl
  have hvis:uf X.env.scope x:=hkind.elim (λz=>.inr (.inl z)) (λz=>.inr (.inr z))
  obtain⟨m,hm',hl⟩:=I.loc
  obtain⟨u,r,look⟩:=hl _ x v h1' hσ hvis
  refine⟨u,r,.inr ⟨?_,?_⟩⟩
  ·rw[kindB]
   have hfr:scope.names.lookup x=some .free:=S.names _ hm
   rw[hfr]
   simp only[Option.map_some]
   split
   ·exact .inl rfl
   ·exact .inr rfl
  ·rcases look with⟨z,_⟩ | ⟨_,c,hc,hcell⟩
   ·rcases hkind with q |q
    ·rw[q] at z;cases z
    ·rw[q] at z;cases z
   ·refine⟨c,?_,?_⟩
    ·have:=clF hm
     rw[hc] at this
     exact this
    ·obtain⟨o,ho,hd⟩:=hcell
     exact⟨o,hk _ _ ho,hd⟩
 ·rcases clE h with⟨a,_⟩ | ⟨_,l1⟩
  ·exact⟨_,(hcl.empty _ _ a).1⟩
  ·obtain⟨v,o,ho,hd⟩:=I.cell x c l1
   exact⟨v,o,hk _ _ ho,hd⟩
 ·rcases clE h with⟨_,l1⟩ | ⟨_,l1⟩
  ·exact I.hok.fresh (Lg l1)
  ·exact I.freeC x c l1
 ·have hp':p∈X.pn ++ pins:=by
   rcases JT.mp hp with z |z
   ·exact z
   ·cases z
  obtain⟨e,n,ne,nf,d⟩:=I.pin p hp'
  refine⟨hk _ _ e,n,neN _ _ e,λz=>?_,d⟩
  rcases Jn.mp (I.stkSub _ z) with q |q
  ·exact ne q
  ·exact nf q
 ·show (mD own ixs σ).length=NB.length
  unfold mD
  rw[S.len];simp
end
abbrev vY (ifs:List Expr)(env:Env):Sem Bool:=forIn ifs true λc r=>if r=true then do let ok <-isTrue c env (eval c env);pure (ForInStep.yield ok) else pure (ForInStep.yield r)
theorem qh {prog:Program}{w:World}{A:Around}{R:Result->Shared->Prop}{s:Shared}{elt target iter:Expr}{ifs:List Expr}{scope:Scope}{pos:Pos}{it acc:Value}{env:Env}(I:Nat->Shared->Prop)
  (turn:∀n s,I n s->wpAny (model prog w) A (pyNext it) (λr s1=>match r with
   |none=>R (.ok .next) s1
   |some v=>wpAny (model prog w) A (letOwnedTupleGo target it v) (λ_ s1'=>wpAny (model prog w) A (assign target env v) (λ_ s2=>
     wpAny (model prog w) A (vY ifs env) (λok s3=>
      if ok=true then wpAny (model prog w) A (eval elt env) (λx s4=>wpAny (model prog w) A (call (.builtin "list.append") [acc,x]) (λ_ s5=>∃m,m < n/\I m s5) (λ_ _=>False) s4) (λ_ _=>False) s3
      else ∃m,m < n/\I m s3) (λ_ _=>False) s2) (λ_ _=>False) s1') (λ_ _=>False) s1) (λ_ _=>False) s)
  (n:Nat) (h:I n s):codeAny (model prog w) A (.compLoop (.ListComp elt [⟨target,iter,ifs,0⟩] scope pos) 0 it acc env) R s:=by
 refine codeAny_loop rfl I (λn s hI=>?_) n h
 (show wpAny _ A ((compTurn (.ListComp elt [⟨target,iter,ifs,0⟩] scope pos) 0 it acc env).onRaise (λx=>do (noteFrame x env);theTreesLotGoes x)) _ _ s)
 refine wpAny_noted ?_
 rw[compTurn_list]
 refine Ji (wpAny_standAt (Ji (J9 (turn n s hI) (λr s1 h1=>?_) λ_ _ z=>z.elim)))
 cases r with
 |none=>exact Jp h1
 |some v=>
  refine Ji (J9 h1 (λ_ s1' h1'=>?_) λ_ _ z=>z.elim)
  refine Ji (J9 h1' (λ_ s2 h2=>Ji (J9 h2 (λok s3 h3=>?_) λ_ _ z=>z.elim)) λ_ _ z=>z.elim)
  cases ok with
  |false=>exact Jp ⟨rfl,h3⟩
  |true=>exact Ji (Ji (J9 h3 (λx s4 h4=>Ji (J9 h4 (λ_ s5 h5=>Jp (Jp ⟨rfl,h5⟩)) λ_ _ z=>z.elim)) λ_ _ z=>z.elim))
def vh (X:Cx)(ifs:List Expr)(t:TT):Prop:=
 ∀(pins:List (Addr×Obj)) (s:Shared) (σ:St) (H:Hp) (Q:Bool->Hp->Prop),Inv X pins σ H s->t σ H Q->wpAny (model X.prog X.w) X.A (vY ifs X.env) (TP X pins σ Q) X.xe s
def ED:TT:=λ_ H Q=>Q true H
def mY {X:Cx}:vh X [] ED:=λpins s σ H Q I h=>Jp ⟨H,I,h⟩
def rG {X:Cx}{c:Expr}{t:TT}(h:PT X c t):vh X [c] t:=λpins s σ H Q I q=>wpAny_tests_one (h pins s σ H Q I q)
def vD (own:Nat)(ixs:List Nat)(wi:TI)(g:TG)(tt:TT)(te:TE)(σ:St)(H:Hp)(Q:VK):Prop:=wi σ H λJ H1=>∀D,H1 D=none->∃W:Nat->Nat->St->Hp->Prop,(∃m,W 0 m (mD own ixs σ) (upd H1 D (.lst [])))/\∀i m σ' H',W i m σ' H'->
 (J.stop i H'/\(∃acc,H' D=some (.lst acc))/\Q (.ref D) H')\/
 (J.go i H'/\∃N:St->Hp->Prop,(∀σ2 H2,N σ2 H2->∃m',m' < m/\W (i + 1) m' σ2 H2)/\∀x H2,J.yld i H' x H2->g x σ' H2 λσ3 H3=>tt σ3 H3 λb H4=>
  if b=true then te σ3 H4 λv H5=>∃acc,H5 D=some (.lst acc)/\acc.length < sizeLine/\N σ3 (upd H5 D (.lst (acc ++ [v]))) else N σ3 H4)
section
variable {X:Cx}{NB:List Str}{own:Nat}{ixs:List Nat}{scope:Scope}{elt tg iter:Expr}{ifs:List Expr}{pos:Pos}{wi:TI}{g:TG}{tt:TT}{te:TE}
def p0 (hc:X.calm=true)(S:bG X NB own ixs scope)
  (hg:∀C ex s3 H3 pn,PG (dF X NB scope C ex s3 H3 pn) tg g) (ht:∀C ex s3 H3 pn,vh (dF X NB scope C ex s3 H3 pn) ifs tt) (he:∀C ex s3 H3 pn,PE (dF X NB scope C ex s3 H3 pn) elt te)
  {pins:List (Addr×Obj)} {σ:St} {H1:Hp} {s2:Shared} {it:Addr} {fp:List Addr} {tn:Nat->Heap->Prop} {J:It} {Q:VK} (I2:Inv X pins σ H1 s2) (T:Turn X.prog X.w X.K tg J fp it tn) (st2:tn 0 s2.heap) (f2:∀b∈fp,iN X pins H1 b)
  (hQ:∀D,H1 D=none->∃W:Nat->Nat->St->Hp->Prop,(∃m,W 0 m (mD own ixs σ) (upd H1 D (.lst [])))/\∀i m σ' H',W i m σ' H'->
   (J.stop i H'/\(∃acc,H' D=some (.lst acc))/\Q (.ref D) H')\/
   (J.go i H'/\∃N:St->Hp->Prop,(∀σ2 H2,N σ2 H2->∃m',m' < m/\W (i + 1) m' σ2 H2)/\∀x H2,J.yld i H' x H2->g x σ' H2 λσ3 H3=>tt σ3 H3 λb H4=>
    if b=true then te σ3 H4 λv H5=>∃acc,H5 D=some (.lst acc)/\acc.length < sizeLine/\N σ3 (upd H5 D (.lst (acc ++ [v]))) else N σ3 H4))
  {E:Value->Shared->Prop} {RR:Value->Addr->Result->Shared->Prop}
  (fin:∀D C H' s' m,Inv X pins σ H' s'->Q (.ref D) H'->s'.heap.Ns C m->H' C=none->C≠X.env.locals->(∀x c,X.env.cells.lookup x=some c->c≠C)->X.s₀.heap.objs.size<=C->(∀p∈X.pn ++ pins,p.1≠C)->RR (.ref D) C (.ok .next) s') :
  wpAny (model X.prog X.w) X.A (newList []) (λacc s3=>wpAny (model X.prog X.w) X.A (newFunctionEnv scope X.env.globals (kE X.env.cells scope.names []) [] X.env.qual none .none (some X.env)) (λcenv s4=>
   codeAny (model X.prog X.w) X.A (.compStart (.ListComp elt [⟨tg,iter,ifs,0⟩] scope pos) 0 (.ref it) acc {cenv with scope:=relabel scope X.env}) (RR acc cenv.locals) s4) E s3) E s2:=by
 refine wpAny_newList ?_ (JY _)
 have hD:H1 s2.heap.objs.size=none:=I2.hok.fresh (Jl _)
 obtain⟨W,⟨m0,w0⟩,turn⟩:=hQ s2.heap.objs.size hD
 generalize hs3:({s2 with heap:=s2.heap.push (seqObj "list" ([]:List Value).toArray 0)}:Shared)=s3
 have I3:Inv X pins σ (upd H1 s2.heap.objs.size (.lst [])) s3:=by
  rw[<-hs3]
  exact I2.lnew (ys:=[]) (its:=[]) (t':=s2.toks) .nil (JY _)
 have k3:∀b o,s2.heap.get? b=some o->s3.heap.get? b=some o:=λb o e=>by rw[<-hs3];exact Jj _ e
 have sz3:s3.heap.objs.size=s2.heap.objs.size + 1:=by rw[<-hs3];exact J2 ..
 have ob2:∀b∈fp,∃o,s2.heap.get? b=some o:=λb hb=>let ⟨o,e,_⟩:=T.obj 0 _ st2 b hb;⟨o,e⟩
 have neD:∀b∈fp,b≠s2.heap.objs.size:=λb hb=>let ⟨o,e⟩:=ob2 b hb;JH (Jm e)
 have f3:∀b∈fp,iN X pins (upd H1 s2.heap.objs.size (.lst [])) b:=λb hb=>by
  obtain⟨a1,a2⟩:=f2 b hb
  exact⟨by rw[aw (neD b hb)];exact a1,a2⟩
 have st3:tn 0 s3.heap:=T.keep _ _ _ st2 λb _ o e=>k3 b o e
 refine wD λh4 hn4 k4 ok4=>?_
 have I4:Inv (dF X NB scope s3.heap.objs.size fp s3 (upd H1 s2.heap.objs.size (.lst [])) (X.pn ++ pins)) [] (mD own ixs σ) (upd H1 s2.heap.objs.size (.lst [])) {s3 with heap:=h4}:=
  qg S I3 f3 (λb hb=>let ⟨o,e⟩:=ob2 b hb;⟨o,k3 _ _ e⟩) hn4 k4 ok4
 have st4:tn 0 h4:=T.keep _ _ _ st3 λb _ o e=>k4 b o e
 generalize hB:dF X NB scope s3.heap.objs.size fp s3 (upd H1 s2.heap.objs.size (.lst [])) (X.pn ++ pins)=B at I4
 have hgB:PG B tg g:=by rw[<-hB];exact hg _ _ _ _ _
 have htB:vh B ifs tt:=by rw[<-hB];exact ht _ _ _ _ _
 have heB:PE B elt te:=by rw[<-hB];exact he _ _ _ _ _
 have eP:B.prog=X.prog:=by rw[<-hB];rfl
 have eW:B.w=X.w:=by rw[<-hB];rfl
 have eK:B.K=X.K:=by rw[<-hB];rfl
 have eA:B.A=X.A:=by rw[<-hB];rfl
 have eC:B.calm=true:=by rw[<-hB];exact hc
 have eX:B.xe=λ_ _=>False:=by rw[<-hB];rfl
 have eE:B.env=compEnvC scope (xW X scope s3.heap.objs.size) s3.heap.objs.size X.env:=by rw[<-hB];rfl
 have ex:B.ex=fp:=by rw[<-hB];rfl
 have eL:B.env.locals=s3.heap.objs.size:=by rw[eE];rfl
 have stat:∀{H':Hp},(∀b∈fp,H' b=none)->∀b∈fp,iN B [] H' b:=λ{H'} hn b hb=>by
  obtain⟨a1,a2,a3,a4,a5,a6⟩:=f3 b hb
  obtain⟨o,eo⟩:=ob2 b hb
  refine⟨hn b hb,?_,λz=>?_,.inl (by rw[ex];exact hb),λx c e z=>?_,λp hp z=>?_⟩
  ·rw[eL];exact JH (Jm (k3 _ _ eo))
  ·have hz:b∈dG X.stack:=by rw[<-hB] at z;exact z
   rcases Jn.mp (I3.stkSub b hz) with q |q
   ·exact a2 q
   ·exact a3 q
  ·rw[eE] at e
   have e:(xW X scope s3.heap.objs.size).lookup x=some c:=e
   unfold xW at e
   rw[jA,Lk] at e
   cases q:(cellsFrom (s3.heap.objs.size + 1) scope.names []).lookup x with
   |some c'=>
    rw[q] at e
    cases e
    have l1:=(lM (JW q)).1
    rw[z] at l1
    exact JJ _ (KG l1 (Jm (k3 _ _ eo)))
   |none=>
    rw[q] at e
    have e:(kE X.env.cells scope.names []).lookup x=some c:=e
    rcases j3 e with⟨m1,m2⟩ |m1
    ·obtain⟨c',e'⟩:=I3.ok.has x (S.frees _ m1 rfl)
     rw[e'] at m2
     exact a5 x c' e' (by rw[<-z,m2];rfl)
    ·simp at m1
  ·have hp':p∈X.pn ++ pins:=by
    rw[<-hB] at hp
    rcases JT.mp hp with q |q
    ·exact q
    ·cases q
   exact a6 p hp' z
 have back:∀{σ':St} {H':Hp} {s':Shared},Inv B [] σ' H' s'->Inv X pins σ H' s':=λ{σ' H' s'} J'=>by
  have u:=J'.base
  have os:=J'.os
  have bare:=J'.bare
  have hok:=J'.hok
  subst hB
  exact I3.call' (ch:=fp) os u hok bare λb hb=>by
   obtain⟨a1,a2,a3,a4,a5,a6⟩:=f3 b hb
   exact⟨a4,a2,a5,a6⟩
 have loop:∀s5:Shared,s5={s3 with heap:=h4}->
   codeAny (model X.prog X.w) X.A (.compLoop (.ListComp elt [⟨tg,iter,ifs,0⟩] scope pos) 0 (.ref it) (.ref s2.heap.objs.size) (compEnvC scope (xW X scope s3.heap.objs.size) s3.heap.objs.size X.env)) (RR (.ref s2.heap.objs.size) s3.heap.objs.size) s5:=by
  rintro s5 rfl
  refine qh (λn s'=>∃i σ' H',Inv B [] σ' H' s'/\tn i s'.heap/\(∀b∈fp,H' b=none)/\W i n σ' H') ?_ m0 ⟨0,_,_,I4,st4,λb hb=>(f3 b hb).1,w0⟩
  rintro n s6 ⟨i,σ6,H6,I6,st6,fr6,w6⟩
  rcases turn i n σ6 H6 w6 with⟨stop,⟨acc,hacc⟩,qn⟩ | ⟨go,N,hN,step⟩
  ·have:=T.done B eP eW eK eC i [] s6 σ6 H6 (λ_ _=>False) I6 (stat fr6) st6 stop
   rw[eA] at this
   refine bW this λr s7 ⟨hr,I7⟩=>?_
   subst hr
   obtain⟨m7,hn7,_⟩:=I7.loc
   rw[eL] at hn7
   have J7:=back I7
   refine fin _ _ H6 s7 m7 J7 qn hn7 (by rw[<-eL];exact I7.free) (λz=>?_) (λx c e z=>?_) ?_ λp hp z=>?_
   ·have:=I3.lt
    rw[<-z] at this
    exact JJ _ this
   ·obtain⟨v,o,ho,_⟩:=I3.cell x c e
    exact absurd (Jm ho) (by rw[z];exact JJ _)
   ·exact I3.sz
   ·have:=Jm (I3.pin p hp).1
    rw[z] at this
    exact JJ _ this
  ·have hitem:=T.item B eP eW eK eC i [] s6 σ6 H6 (λ_ _=>False) I6 (stat fr6) st6 go
   rw[eA] at hitem
   refine bW hitem λr s7 ⟨u,hr,h7⟩=>?_
   subst hr
   refine bW h7 λ_ s8 ⟨x,H8,I8,r8,y8,st8,fr8⟩=>?_
   have I8':=I8.pinned (stat fr8) (T.obj _ _ st8)
   have ha:=hgB _ s8 σ6 H8 x u _ I8' r8 (step x H8 y8)
   rw[eP,eW,eA,eE,eX] at ha
   refine bW ha λ_ s9 ⟨σ9,H9,I9,q9⟩=>?_
   have hb:=htB _ s9 σ9 H9 _ I9 q9
   rw[eP,eW,eA,eE,eX] at hb
   refine bW hb λok s10 ⟨H10,I10,q10⟩=>?_
   have again:∀{σ7:St} {H7:Hp} {s7:Shared},Inv B ([] ++ lX fp s8.heap) σ7 H7 s7->N σ7 H7->∃m,m < n/\∃i σ' H',Inv B [] σ' H' s7/\tn i s7.heap/\(∀b∈fp,H' b=none)/\W i m σ' H':=λ{σ7 H7 s7} I7 n7=>by
    obtain⟨m',hm,w7⟩:=hN σ7 H7 n7
    refine⟨m',hm,i + 1,σ7,H7,I7.unpinned,T.keep _ _ _ st8 λb hb o e=>(I7.pin (b,o) (JK _ (JK _ (eQ hb e)))).1,λb hb=>?_,w7⟩
    obtain⟨o,e,d⟩:=T.obj _ _ st8 b hb
    exact (I7.pin (b,o) (JK _ (JK _ (eQ hb e)))).2.1
   cases ok with
   |false=>
    simp only[Kw,K1] at q10 ⊢
    exact again I10 q10
   |true=>
    simp only[Km] at q10 ⊢
    have hv:=heB _ s10 σ9 H10 _ I10 q10
    rw[eP,eW,eA,eE,eX] at hv
    refine bW hv λy s11 ⟨v,H11,I11,r11,acc,hacc,hz,q11⟩=>?_
    have hap:=j0 (X:=B) _ s11 σ9 H11 (.ref s2.heap.objs.size) [v] (.ref s2.heap.objs.size) [y] (λz H'=>z=.non/\N σ9 H') I11 rfl (.cons r11 .nil) ⟨_,acc,v,rfl,rfl,hacc,hz,rfl,q11⟩
    rw[eP,eW,eA,eX] at hap
    exact bW hap λ_ s12 ⟨_,H12,I12,_,_,q12⟩=>again I12 q12
 exact codeAny_compStart_list (loop _ rfl) (T.self X.A 0 _ _ _ st4 (loop _ rfl))
def tP (hc:X.calm=true)(S:bG X NB own ixs scope)(hi:PI X tg iter wi)
  (hg:∀C ex s3 H3 pn,PG (dF X NB scope C ex s3 H3 pn) tg g) (ht:∀C ex s3 H3 pn,vh (dF X NB scope C ex s3 H3 pn) ifs tt) (he:∀C ex s3 H3 pn,PE (dF X NB scope C ex s3 H3 pn) elt te)
  (hs:∀x,foldedSetIterable iter X.env x=pure x:=by intro _;rfl) :
  PE X (.ListComp elt [⟨tg,iter,ifs,0⟩] scope pos) (vD own ixs wi g tt te):=by
 intro pins s σ H Q I h
 rw[eval_ListComp]
 refine Lm (use:=none) rfl hs (kB λy hy e=>I.ok.has _ (S.frees y hy e)) S.kind (λy hy e=>by rw[S.names y hy,e]) ?_
 refine bW (hi pins s σ H _ I h) λv s1 h1=>bW h1 λitv s2 h2=>?_
 obtain⟨it,fp,tn,J,H2,e,I2,T,st2,f2,q2⟩:=h2
 subst e
 refine p0 hc S hg ht he I2 T st2 f2 q2 (RR:=λacc C=>compPost (model X.prog X.w) X.A X.xe none (EP X pins σ Q) acc C) λD C H' s' m J' q hn hC n1 n2 n3 n4=>?_
 refine⟨m,hn,λh'' sb=>⟨.ref D,H',?_,rfl,q⟩⟩
 exact J'.turned (t':=s'.toks) (it:=C) (λb o hb e=>sb.extBut b o hb e) hC n1 (.inr n3) n2 n4
def y0 {i:Nat}{y:Str}{py spos:Pos}(hc:X.calm=true)(S:bG X NB own ixs scope)(hi:PI X tg iter wi)
  (hg:∀C ex s3 H3 pn,PG (dF X NB scope C ex s3 H3 pn) tg g) (ht:∀C ex s3 H3 pn,vh (dF X NB scope C ex s3 H3 pn) ifs tt) (he:∀C ex s3 H3 pn,PE (dF X NB scope C ex s3 H3 pn) elt te)
  (hN:X.N.Nodup) (hy:X.N[i]? =some y) (hl:X.env.scope.names.lookup y=some .local)
  (hsw:swapsWith (.ListComp elt [⟨tg,iter,ifs,0⟩] scope pos) (some (.Name y py)) spos.line X.env=pure true)
  (hs:∀x,foldedSetIterable iter X.env x=pure x:=by intro _;rfl) :
  PS X (.Assign [.Name y py] (.ListComp elt [⟨tg,iter,ifs,0⟩] scope pos) spos) (λD σ H=>vD own ixs wi g tt te σ H λv H'=>D.nx (σ.set i (some v)) H'):=by
 intro pins s σ H D I h
 rw[exec_Assign_Name_used _ _ _ _ hsw]
 refine Ji (wpAny_standAt (Ji ?_))
 show wpAny _ X.A (comprehension (.ListComp elt [⟨tg,iter,ifs,0⟩] scope pos) scope X.env _ (newList []) false (eval iter X.env) (some (assign (.Name y py) X.env)) >>= λ_=>pure ()) _ _ s
 refine Ji (J9 (Lm (use:=some (assign (.Name y py) X.env)) (Q:=λ_ s'=>SP X pins D .next s') rfl hs (kB λy hy e=>I.ok.has _ (S.frees y hy e)) S.kind (λy hy e=>by rw[S.names y hy,e]) ?_)
  (λ_ s' hq=>Jp (Jp hq)) λ_ _ e=>e)
 refine bW (hi pins s σ H _ I h) λv s1 h1=>bW h1 λitv s2 h2=>?_
 obtain⟨it,fp,tn,J,H2,e,I2,T,st2,f2,q2⟩:=h2
 subst e
 refine p0 hc S hg ht he I2 T st2 f2 q2 (Q:=λv H'=>D.nx (σ.set i (some v)) H') (RR:=λacc C=>compPost (model X.prog X.w) X.A X.xe (some (assign (.Name y py) X.env)) (λ_ s'=>SP X pins D .next s') acc C) λD' C H' s' m J' q hn hC n1 n2 n3 n4=>?_
 show wpAny _ X.A (assign (.Name y py) X.env (.ref D')) _ _ s'
 refine wpAny_assign_Name (pN J' hN hy (.inl hl) (v:=.ref D') rfl (λs'' I'' ⟨a,sb,ha⟩=>?_) (.inr hl))
 have hCa:C≠a:=by
  rcases ha with z |z
  ·rw[z];exact n1
  ·exact (n2 _ _ z).symm
 refine⟨m,hn.sameBut sb hCa,λh3 sb3=>⟨_,H',?_,q⟩⟩
 exact I''.turned (t':=s''.toks) (it:=C) (λb o hb e=>sb3.extBut b o hb e) hC n1 (.inr n3) n2 n4
end
section
variable {own:Nat}{ixs:List Nat}{g:TG}{tt:TT}{te:TE}{σ:St}{H:Hp}{Q:VK}{K:Frag}{D a:Addr}{xs:List V}
abbrev cJ (g:TG)(tt:TT)(te:TE)(D:Addr)(x:V)(σ:St)(H:Hp)(N:St->Hp->Prop):Prop:=g x σ H λσ3 H3=>tt σ3 H3 λb H4=>
  if b=true then te σ3 H4 λv H5=>∃acc,H5 D=some (.lst acc)/\acc.length < sizeLine/\N σ3 (upd H5 D (.lst (acc ++ [v]))) else N σ3 H4
def xy (Pv:Nat->St->Hp->Prop)(h0:Pv 0 (mD own ixs σ) (upd H D (.lst [])))(hl:∀i σ H,i<=xs.length->Pv i σ H->fP K H a xs)
  (hs:∀i x σ H,xs[i]? =some x->Pv i σ H->cJ g tt te D x σ H (Pv (i + 1))) (hd:∀σ H,Pv xs.length σ H->(∃acc,H D=some (.lst acc))/\Q (.ref D) H) :
  ∃W:Nat->Nat->St->Hp->Prop,(∃m,W 0 m (mD own ixs σ) (upd H D (.lst [])))/\∀i m σ' H',W i m σ' H'->
   ((yr K a).stop i H'/\(∃acc,H' D=some (.lst acc))/\Q (.ref D) H')\/
   ((yr K a).go i H'/\∃N:St->Hp->Prop,(∀σ2 H2,N σ2 H2->∃m',m' < m/\W (i + 1) m' σ2 H2)/\∀x H2,(yr K a).yld i H' x H2->cJ g tt te D x σ' H2 N):=by
 refine⟨λi m σ H=>m=xs.length - i/\i<=xs.length/\Pv i σ H,⟨xs.length,by simp,JY _,h0⟩,?_⟩
 rintro i m σ H ⟨rfl,hi,p⟩
 have q:=hl i σ H hi p
 by_cases hlt:i < xs.length
 ·refine .inr ⟨⟨xs,xs[i],q,by simp[hlt]⟩,Pv (i + 1),λσ' H' p'=>⟨xs.length - (i + 1),by omega,rfl,hlt,p'⟩,λx H' y=>?_⟩
  obtain⟨e,y⟩:=y
  subst e
  exact hs i x σ _ (y xs q) p
 ·have e:i=xs.length:=by omega
  subst e
  exact .inl ⟨⟨xs,q,Jl _⟩,hd σ H p⟩
def uW {lo:Int}{n:Nat}(Pv:Nat->St->Hp->Prop)(h0:Pv 0 (mD own ixs σ) (upd H D (.lst [])))
  (hs:∀i σ H,i < n->Pv i σ H->cJ g tt te D (.int (lo + i)) σ H (Pv (i + 1))) (hd:∀σ H,Pv n σ H->(∃acc,H D=some (.lst acc))/\Q (.ref D) H) :
  ∃W:Nat->Nat->St->Hp->Prop,(∃m,W 0 m (mD own ixs σ) (upd H D (.lst [])))/\∀i m σ' H',W i m σ' H'->
   ((vH lo n).stop i H'/\(∃acc,H' D=some (.lst acc))/\Q (.ref D) H')\/
   ((vH lo n).go i H'/\∃N:St->Hp->Prop,(∀σ2 H2,N σ2 H2->∃m',m' < m/\W (i + 1) m' σ2 H2)/\∀x H2,(vH lo n).yld i H' x H2->cJ g tt te D x σ' H2 N):=by
 refine⟨λi m σ H=>m=n - i/\i<=n/\Pv i σ H,⟨n,by simp,JY _,h0⟩,?_⟩
 rintro i m σ H ⟨rfl,hi,p⟩
 by_cases hlt:i < n
 ·refine .inr ⟨hlt,Pv (i + 1),λσ' H' p'=>⟨n - (i + 1),by omega,rfl,hlt,p'⟩,λx H' y=>?_⟩
  obtain⟨e,y⟩:=y
  subst e y
  exact hs i σ _ hlt p
 ·have e:i=n:=by omega
  subst e
  exact .inl ⟨Jl _,hd σ H p⟩
end
mutual
inductive Rep (K:Frag)(H:Hp):V->PyData->Prop
 |non:Rep K H .non .none
 |bl (b:Bool):Rep K H (.bl b) (.bool b)
 |int (i:Int):Rep K H (.int i) (.int i)
 |str (x:Str):Rep K H (.str x) (.str x)
 |tup {a:Addr} {xs:List V} {ds:List PyData}:dW K H a xs->jt K H xs ds->Rep K H (.ref a) (.tuple ds)
 |lst {a:Addr} {xs:List V} {ds:List PyData}:fP K H a xs->jt K H xs ds->Rep K H (.ref a) (.list ds)
inductive jt (K:Frag)(H:Hp):List V->List PyData->Prop
 |nil:jt K H [] []
 |cons {x:V} {xs:List V} {d:PyData} {ds:List PyData}:Rep K H x d->jt K H xs ds->jt K H (x :: xs) (d :: ds)
end
section
variable {X:Cx}{pins:List (Addr×Obj)}{σ:St}{H H':Hp}{s:Shared}
mutual
theorem Rep.reads (I:Inv X pins σ H s):∀{x:V} {d:PyData} {u:Value},Rep X.K H x d->RelV x u->∃as,Reads s.heap u d as
 |_,_,_,.non,r=>by cases r;exact⟨_,.none⟩
 |_,_,_,.bl b,r=>by cases r;exact⟨_,.bool b⟩
 |_,_,_,.int i,r=>by obtain⟨t,rfl⟩:=r;exact⟨_,.int i t⟩
 |_,_,_,.str x,r=>by obtain⟨t,rfl⟩:=r;exact⟨_,.str x t⟩
 |_,_,_,.tup h hs,r=>by
  cases r
  obtain⟨its,rv,⟨o,ho,hc,n,hd⟩,_⟩:=I.tuple h
  obtain⟨as,q⟩:=jt.reads I hs rv
  exact⟨_,.tuple ho hc hd (by simpa using q)⟩
 |_,_,_,.lst h hs,r=>by
  cases r
  obtain⟨its,rv,pl,_⟩:=I.list h
  obtain⟨o,ho,hc,n,hd⟩:=pl.isList
  obtain⟨as,q⟩:=jt.reads I hs rv
  exact⟨_,.list ho hc hd (by simpa using q)⟩
theorem jt.reads (I:Inv X pins σ H s):∀{xs:List V} {ds:List PyData} {us:List Value},jt X.K H xs ds->Vals xs us->∃as,ReadsAll s.heap us ds as
 |_,_,_,.nil,r=>by cases r;exact⟨_,.nil⟩
 |_,_,_,.cons h hs,r=>by
  cases r with
  |cons r1 r2=>
   obtain⟨as,q⟩:=Rep.reads I h r1
   obtain⟨bs,q'⟩:=jt.reads I hs r2
   exact⟨_,.cons q q'⟩
end
def D0 (K:Frag)(neg:Bool):R2:=λx y H Q=>∃d e,Rep K H x d/\Rep K H y e/\SeqAt.shaped d=true/\SeqAt.shaped e=true/\Q (.bl (if neg then !PyData.eqv d e else PyData.eqv d e)) H
def dU (hu:X.A.units + 64 < cLine):kN X (compareOp .Eq) (D0 X.K false):=by
 intro pins s σ H x y v u Q I rx ry h
 obtain⟨d,e,h1,h2,s1,s2,q⟩:=h
 obtain⟨as,r1⟩:=h1.reads I rx
 obtain⟨bs,r2⟩:=h2.reads I ry
 exact SeqAt.compareEq_shaped r1 r2 s1 s2 hu ⟨.bl _,H,I,rfl,q⟩
def eT (hu:X.A.units + 64 < cLine):kN X (compareOp .NotEq) (D0 X.K true):=by
 intro pins s σ H x y v u Q I rx ry h
 obtain⟨d,e,h1,h2,s1,s2,q⟩:=h
 obtain⟨as,r1⟩:=h1.reads I rx
 obtain⟨bs,r2⟩:=h2.reads I ry
 exact SeqAt.compareNe_shaped r1 r2 s1 s2 hu ⟨.bl _,H,I,rfl,q⟩
def FF (K:Frag)(neg:Bool):R2:=λx y H Q=>∃p xs d ds,y=.ref p/\(fP K H p xs\/dW K H p xs)/\jt K H xs ds/\Rep K H x d/\SeqAt.shaped d=true/\(∀e,e∈ds->SeqAt.shaped e=true)/\
 Q (.bl (if neg then !(ds.any λe=>PyData.eqv e d) else ds.any λe=>PyData.eqv e d)) H
theorem jt.at' {K:Frag}:∀{xs:List V} {ds:List PyData} {i:Nat} {x:V},jt K H xs ds->xs[i]? =some x->∃d,ds[i]? =some d/\Rep K H x d
 |_,_,_,_,.nil,e=>by simp at e
 |_,_,0,_,.cons r _,e=>by simp at e;subst e;exact⟨_,rfl,r⟩
 |_,_,i + 1,x,.cons _ t,e=>by
  obtain⟨u,h1,h2⟩:=jt.at' (i:=i) (x:=x) t (by simpa using e)
  exact⟨u,by simpa using h1,h2⟩
open Classical in
theorem rZ (I:Inv X pins σ H s)(d:PyData):∀{xs:List V} {us:List Value} {ds:List PyData},Vals xs us->jt X.K H xs ds->(∀e,e∈ds->SeqAt.shaped e=true)->∃f:Value->Bool,us.any f=(ds.any λe=>PyData.eqv e d)/\∀u,u∈us->∃e as,e∈ds/\Reads s.heap u e as/\f u=PyData.eqv e d:=by
 intro xs us ds hv hr hs
 let f:Value->Bool:=λu=>if h:∃e as,SeqAt.shaped e=true/\Reads s.heap u e as then PyData.eqv (Classical.choose h) d else false
 have hf:∀{u:Value} {e:PyData} {as:List Addr},SeqAt.shaped e=true->Reads s.heap u e as->f u=PyData.eqv e d:=λ{u e as} h1 h2=>by
  have hx:∃e as,SeqAt.shaped e=true/\Reads s.heap u e as:=⟨e,as,h1,h2⟩
  show (if h:∃e as,SeqAt.shaped e=true/\Reads s.heap u e as then PyData.eqv (Classical.choose h) d else false)=_
  rw[dif_pos hx]
  obtain⟨bs,q1,q2⟩:=Classical.choose_spec hx
  rw[SeqAt.Reads.unique _ _ _ _ _ (KR q1) q2 h2]
 refine⟨f,?_,?_⟩
 ·induction hv generalizing ds with
  |nil=>cases hr;rfl
  | @cons x u xs us r1 r2 ih=>
   cases hr with
   | @cons _ _ e es h1 h2=>
    obtain⟨as,q⟩:=h1.reads I r1
    rw[KJ,KJ,hf (hs e (JB ..)) q,ih h2 λz hz=>hs z (Jx _ hz)]
 ·intro u hu
  obtain⟨i,hi,e0⟩:=List.mem_iff_getElem.mp hu
  have hi':i < xs.length:=by rw[hv.length];exact hi
  obtain⟨u',eu,ru⟩:=hv.get (Jr hi')
  rw[Jr hi,e0] at eu
  cases eu
  obtain⟨e,ee,re⟩:=jt.at' hr (Jr hi')
  obtain⟨as,q⟩:=re.reads I ru
  have hm:=JI ee
  exact⟨e,as,hm,q,hf (hs e hm) q⟩
def zC (hu:X.A.units + 100 < cLine):kN X (compareOp .In) (FF X.K false):=by
 intro pins s σ H x y v u Q I rx ry h
 obtain⟨p,xs,d,ds,rfl,hq,hs,hx,s1,s2,q⟩:=h
 cases ry
 obtain⟨bs,r2⟩:=hx.reads I rx
 have key:∀{e:PyData} {as:List Addr} {u:Value},SeqAt.shaped e=true->Reads s.heap u e as->SeqAt.EqAt X.A.in1 s u v (PyData.eqv e d):=λ{e as u} h1 h2=>by
  refine SeqAt.eqAt_reads _ _ _ _ _ _ _ _ h2 r2 (KR h1) (KR s1) ?_
  have:=SeqAt.depth_of_shaped h1
  show X.A.units + 1 + _ < _
  omega
 rcases hq with hq |hq
 ·obtain⟨its,r,pl,hz⟩:=I.list hq
  obtain⟨f,e1,e2⟩:=rZ I d r hs s2
  refine SeqAt.in_listAt f pl.isList (λw hw=>?_) ⟨.bl _,H,I,rfl,?_⟩
  ·obtain⟨e,as,hm,rd,ef⟩:=e2 w (by simpa using hw)
   rw[ef];exact key (s2 e hm) rd
  ·rw[show its.toArray.any f=its.any f by simp,e1];exact q
 ·obtain⟨its,r,pl,hz⟩:=I.tuple hq
  obtain⟨f,e1,e2⟩:=rZ I d r hs s2
  refine SeqAt.in_tupleAt f pl (λw hw=>?_) ⟨.bl _,H,I,rfl,?_⟩
  ·obtain⟨e,as,hm,rd,ef⟩:=e2 w (by simpa using hw)
   rw[ef];exact key (s2 e hm) rd
  ·rw[show its.toArray.any f=its.any f by simp,e1];exact q
inductive AY (K:Frag)(H:Hp):V->String->Prop
 |non:AY K H .non "NoneType"
 |bl (b:Bool):AY K H (.bl b) "bool"
 |int (i:Int):AY K H (.int i) "int"
 |str (x:Str):AY K H (.str x) "str"
 |tup {a:Addr} {xs:List V}:dW K H a xs->AY K H (.ref a) "tuple"
 |lst {a:Addr} {xs:List V}:fP K H a xs->AY K H (.ref a) "list"
 |dic {a:Addr} {kvs:List (Key×V)}:H a=some (.dK kvs)->AY K H (.ref a) "dict"
def Iv (K:Frag):List V->Hp->VK->Prop:=λxs H Q=>∃x T t b,xs= [x,.ty T]/\AY K H x t/\PySem.W.kitOne K (.type t) (.type T)=some b/\Q (.bl b) H
theorem yJ:cZ X (.builtin "isinstance") (Iv X.K):=by
 intro pins s σ H xs us Q I r h
 obtain⟨x,T,t,b,rfl,ty,e,q⟩:=h
 obtain⟨u,c,rfl,rx,rc⟩:=vals2 r
 cases rc
 have fin:∀tk,EP X pins σ Q (.bool b) {s with toks:=tk}:=λtk=>⟨.bl b,H,I.tok tk,rfl,q⟩
 cases ty with
 |non=>exact iy I rx .non e fin
 |bl b=>exact iy I rx (.bl b) e fin
 |int i=>exact iy I rx (.int i) e fin
 |str z=>exact iy I rx (.str z) e fin
 |dic hk=>exact iy I rx (.dK hk) e fin
 |tup hq=>
  cases rx
  obtain⟨its,rv,⟨o,h1,h2,_⟩,_⟩:=I.tuple hq
  exact JR PySem.W.kitx_tuple I.kIn ⟨o,h1,h2⟩ e (λz=>nomatch z) fin
 |lst hq=>
  cases rx
  obtain⟨its,rv,pl,_⟩:=I.list hq
  obtain⟨o,h1,h2,_⟩:=pl.isList
  exact JR PySem.W.kitx_list I.kIn ⟨o,h1,h2⟩ e (λz=>nomatch z) fin
def tJ {A:Around}{its:List Value}{bs:List Bool}(hv:Vals (bs.map V.bl) its):TruthOf X.prog X.w A (λi v=>its[i]? =some v) (λi=>bs.getD i false):=λi v s Q E hi hq=>by
 have hl:=hv.length
 have hi2:i < bs.length:=by
  have:=(Jw.mp hi).1
  rw[<-hl] at this;simpa using this
 obtain⟨u,eu,ru⟩:=hv.get (i:=i) (x:=.bl bs[i]) (by simp[hi2])
 rw[hi] at eu;cases eu
 cases ru
 refine Ke ?_
 have:bs.getD i false=bs[i]:=by simp[hi2]
 rw[<-this];exact hq
theorem range_all (bs:List Bool):(List.range bs.length).all (λi=>bs.getD i false)=bs.all id:=by
 induction bs with
 |nil=>rfl
 |cons b bs ih=>
  rw[JM,List.range_succ_eq_map,all_cons,Ln,all_cons,<-ih]
  rfl
theorem range_any (bs:List Bool):(List.range bs.length).any (λi=>bs.getD i false)=bs.any id:=by
 induction bs with
 |nil=>rfl
 |cons b bs ih=>
  rw[JM,List.range_succ_eq_map,KJ,List.any_map,KJ,<-ih]
  rfl
def uA (K:Frag)(f:List Bool->Bool):List V->Hp->VK->Prop:=λxs H Q=>∃a bs,xs= [.ref a]/\fP K H a (bs.map V.bl)/\Q (.bl (f bs)) H
def oq (hc:X.calm=true){a:Addr}{bs:List Bool}{Q:VK}(I:Inv X pins σ H s)(hq:fP X.K H a (bs.map V.bl)){f:List Bool->Bool}{g:(Nat->Bool)->Nat->Bool}(hfg:g (λi=>bs.getD i false) bs.length=f bs)(q:Q (.bl (f bs)) H) :
  wpAny (model X.prog X.w) X.A.in1 (pyIter (.ref a)) (λit s2=>∃Ii fp wr n P St tr,it=.ref Ii/\Walks X.prog X.w X.A.in1 Ii fp wr n P St/\St 0 s2.heap/\TruthOf X.prog X.w X.A.in1 P tr/\
   ∀h' tk,(∀b o,b∉wr->s2.heap.get? b=some o->h'.get? b=some o)->EP X pins σ Q (.bool (g tr n)) {s2 with heap:=h',toks:=tk}) X.xe s:=by
 obtain⟨its,rv,pl,hz⟩:=I.list hq
 have hh:X.A.in1.handled=none:=I.ok.hd hc
 have hlen:its.length=bs.length:=by rw[<-rv.length];simp
 obtain⟨o,ho,_⟩:=id pl.isList
 refine KS pl.isList ?_
 have W:=Walks.list (prog:=X.prog) (w:=X.w) hh s.heap.objs.size a (JH (Jm ho)) its.toArray
 refine⟨s.heap.objs.size,_,_,_,_,_,λi=>bs.getD i false,rfl,W,⟨⟨_,Jt _ rfl,rfl,rfl⟩,pl.isList.push _⟩,?_,λh' tk k=>?_⟩
 ·have:=tJ (X:=X) (A:=X.A.in1) rv
  simpa using this
 ·have e:its.toArray.size=bs.length:=by simpa using hlen
  rw[e,hfg]
  have I1:Inv X pins σ H {s with heap:=s.heap.push {cls:=.type "list_iterator",data:=.fields #[.ref a,.int 0 0]}}:=I.kept (t':=s.toks) λb o e=>Jj _ e
  have hf:H s.heap.objs.size=none:=I.hok.fresh (Jl _)
  have fp:=I.fpOk (H':=H) (b:=s.heap.objs.size) (Jl _) hf
  refine⟨.bl _,H,I1.turned (it:=s.heap.objs.size) (t':=tk) (λb o hb e=>k b o (by simpa using hb) e) hf fp.2.1 fp.2.2.2.1 fp.2.2.2.2.1 fp.2.2.2.2.2,rfl,q⟩
def iu (hc:X.calm=true):cZ X (.builtin "all") (uA X.K λbs=>bs.all id):=by
 intro pins s σ H xs us Q I r h
 obtain⟨a,bs,rfl,hq,q⟩:=h
 obtain⟨u,rfl,rx⟩:=vals1 r
 cases rx
 exact call_all_walk (oq hc I hq (f:=λbs=>bs.all id) (g:=λtr n=>(List.range n).all tr) (range_all bs) q)
def zZ (hc:X.calm=true):cZ X (.builtin "any") (uA X.K λbs=>bs.any id):=by
 intro pins s σ H xs us Q I r h
 obtain⟨a,bs,rfl,hq,q⟩:=h
 obtain⟨u,rfl,rx⟩:=vals1 r
 cases rx
 exact call_any_walk (oq hc I hq (f:=λbs=>bs.any id) (g:=λtr n=>(List.range n).any tr) (range_any bs) q)
def tq:cZ X (.type "range") (λxs H Q=>∃n:Int,xs= [.int n]/\∀p,H p=none->Q (.ref p) (upd H p (.fo 0 n))):=by
 intro pins s σ H xs us Q I r h
 obtain⟨n,rfl,q⟩:=h
 obtain⟨u,rfl,rx⟩:=vals1 r
 obtain⟨t,rfl⟩:=rx
 refine call_range_1 ⟨.ref s.heap.objs.size,upd H s.heap.objs.size (.fo 0 n),?_,rfl,q _ (I.hok.fresh (Jl _))⟩
 exact I.laid (λb o e=>Jj _ e) (Jl _) ⟨_,_,_,Jt _ rfl⟩
def o6 (hc:X.calm=true):cZ X (.type "list") (λxs H Q=>∃p n,xs= [.ref p]/\H p=some (.fo 0 n)/\0<=n/\n<=1000/\∀l,H l=none->Q (.ref l) (upd H l (.lst ((List.range n.toNat).map λ(i:Nat)=>V.int (i:Int))))):=by
 intro pins s σ H xs us Q I r h
 obtain⟨p,n,rfl,hp,h0,h1,q⟩:=h
 obtain⟨u,rfl,rx⟩:=vals1 r
 cases rx
 obtain⟨t,u,v,hr⟩:∃t u v,s.heap.get? p=some {cls:=.type "range",data:=.fields #[.int 0 t,.int n u,.int 1 v]}:=I.hok p _ hp
 have hsz:Builtin.Range.rangeSize 0 n 1=(n.toNat:Int):=by rw[rangeSize_one];split <;> omega
 refine call_list_range (I.ok.hd hc) hr (small_one (by omega) (by omega) (by omega) (by omega)) hsz (by omega) λh' tk acc c k hS hacc=>?_
 have hv:Vals ((List.range n.toNat).map λ(i:Nat)=>V.int (i:Int)) acc.toList:=by
  have key:∀(m:Nat) (us:List Value) (j:Nat),us.length=m->(∀(i:Nat) (v:Value),us[i]? =some v->∃t,v=Value.int ((j + i:Nat):Int) t)->Vals ((List.range' j m).map λ(i:Nat)=>V.int (i:Int)) us:=by
   intro m
   induction m with
   |zero=>intro us j hl _;cases us with
    |nil=>exact .nil
    |cons a b=>simp at hl
   |succ m ih=>
    intro us j hl hh
    cases us with
    |nil=>simp at hl
    |cons u us=>
     rw[range'_succ,Kc]
     refine .cons (by have:=hh 0 u rfl;simp at this;exact this) (ih us (j + 1) (by simpa using hl) λi v hi=>?_)
     obtain⟨t,e⟩:=hh (i + 1) v (by simpa using hi)
     exact⟨t,by rw[e];congr 2;omega⟩
  have:=key n.toNat acc.toList 0 (by simpa using hacc.1) λi v hi=>by
   obtain⟨t,e⟩:=hacc.2 i v (by simpa using hi)
   exact⟨t,by rw[e];simp⟩
  rw[List.range_eq_range'];exact this
 refine⟨.ref s.heap.objs.size,_,I.laid (t':=tk) k (Jl _) (show bP X.prog X.w _ h' _ (.lst _) from⟨by simp;rw[JL];omega,acc.toList,c,hv,by simpa using hS⟩),rfl,q _ (I.hok.fresh (Jl _))⟩
end
def Rc (h:Heap)(e:Addr)(cls:Value)(T:Addr)(fl:Value):Prop:=∃oe vs oT ts,h.get? e=some oe/\oe.cls=cls/\oe.dict=none/\oe.data=.fields vs/\vs[1]? =some (.ref T)/\vs[2]? =some .none/\T≠e/\h.get? T=some oT/\oT.data=.fields ts/\ts[3]? =some fl
abbrev Keeps (F:List Addr)(ch:List Addr)(h h':Heap):Prop:=∀b o,h.get? b=some o->b∉F->b∉ch->h'.get? b=some o
abbrev Slots (F:List Addr)(h h':Heap):Prop:=∀b o,h.get? b=some o->b∈F->∃sl,h'.get? b=some {o with slots:=sl}
section
variable {M:Model}{A:Around}{E:Value->Shared->Prop}{s:Shared}{base:Heap}{env:Env}{outer:List Env}{L e:Addr}{cls:Value}{Q:Unit->Shared->Prop}
def zm {oe:Obj}{vs:Array Value}{head:Value}{hadNext:Bool}(hfr:A.frames=some (env :: outer))(hl:s.heap.FunFrames base (env :: outer))(hf:env.frame=some L)(he:s.heap.get? e=some oe)(hc:oe.cls=cls)(hdd:oe.dict=none)(hd:oe.data=.fields vs)(hsz:1 < vs.size)(h2:vs[2]? =some .none)
  (h:∀h' T,Keeps (dG (env :: outer)) [e] s.heap h'->Slots (dG (env :: outer)) s.heap h'->s.heap.get? T=none->Rc h' e cls T (rawInt L)->Q () {s with heap:=h'}) :
  wpAny M A (do let a <-frameOf env;let pl <-entryPlaceOf L hadNext;let b <-EntryCells.newEntry head a .none (rawInt L) .none pl;setField (.ref e) 1 b) Q E s:=by
 have eF:e∉dG (env :: outer):=λz=>by
  obtain⟨_,o,q,n⟩:=hl.mem z
  rw[he] at q;cases q;exact n _ hd
 refine Ji (wpAny_frameOf_fun hfr hl hf λh1 s1=>?_)
 refine Ji (wpAny_entryPlaceOf λpl hpl=>?_)
 unfold EntryCells.newEntry newFields
 refine Ji (JU ?_ (hpl.sizeOk5 _ _ _ _ _))
 have e1:h1.get? e=some oe:=(s1.2.1 e eF).trans he
 have e2:=Jj (h:=h1) {cls:=.type "traceback",dict:=none,data:=.fields ([head,.ref L,.none,rawInt L,.none] ++ (if pl.isEmpty then List.replicate 6 Value.none else pl)).toArray} e1
 have tn:h1.objs.size≠e:=Nat.ne_of_gt (Jm e1)
 refine Lr e2 hd hsz (h _ h1.objs.size (λb o q hb hn=>?_) (λb o q hb=>?_) ?_ ?_)
 ·have hbe:b≠e:=by simpa using hn
  have q1:h1.get? b=some o:=(s1.2.1 b hb).trans q
  rw[J1 _ _ (Ne.symm hbe)]
  exact Jj _ q1
 ·obtain⟨sl,q1⟩:=s1.2.2 b o q
  have hbe:b≠e:=λz=>eF (z▸hb)
  refine⟨sl,?_⟩
  rw[J1 _ _ (Ne.symm hbe)]
  exact Jj _ q1
 ·cases q:s.heap.get? h1.objs.size with
  |none=>rfl
  |some o=>obtain⟨sl,q1⟩:=s1.2.2 _ o q;exact absurd (Jm q1) (JJ _)
 ·have d3:=Lo hd (·.setIfInBounds 1 (Value.ref h1.objs.size))
  have e3:=Kz (Obj.mapFields (·.setIfInBounds 1 (Value.ref h1.objs.size))) e2 (Obj.isFreed_of_fields d3)
  refine⟨_,_,_,_,e3,(Obj.cls_mapFields _ _).trans hc,?_,d3,by simp[hsz],by rw[Array.getElem?_setIfInBounds_ne (by omega)];exact h2,tn,(J1 _ _ (Ne.symm tn)).trans (Jt h1 rfl),rfl,?_⟩
  ·unfold Obj.mapFields
   split <;> exact hdd
  ·rcases hpl with rfl | ⟨_,_,_,_,_,_,_,rfl⟩ <;> simp
def uH {oe:Obj}{vs:Array Value}(hfr:A.frames=some (env :: outer))(hl:s.heap.FunFrames base (env :: outer))(hf:env.frame=some L)(he:s.heap.get? e=some oe)(hc:oe.cls=cls)(hdd:oe.dict=none)(hd:oe.data=.fields vs)(h1:vs[1]? =some .none)(h2:vs[2]? =some .none)
  (h:∀h' T,Keeps (dG (env :: outer)) [e] s.heap h'->Slots (dG (env :: outer)) s.heap h'->s.heap.get? T=none->Rc h' e cls T (rawInt L)->Q () {s with heap:=h'}):wpAny M A (noteFrame (.ref e) env) Q E s:=by
 unfold noteFrame
 simp only[hf]
 refine Ji (Kb he hd h1 ?_)
 rw[Ju (by decide)]
 exact zm hfr hl hf he hc hdd hd (KC.mp h1).1 h2 h
def qm {T0:Addr}(hfr:A.frames=some (env :: outer))(hl:s.heap.FunFrames base (env :: outer))(hf:env.frame=some L)(r:Rc s.heap e cls T0 .none)
  (h:∀h' T,Keeps (dG (env :: outer)) [e,T0] s.heap h'->Slots (dG (env :: outer)) s.heap h'->(s.heap.get? T=none\/T=T0)->Rc h' e cls T (rawInt L)->Q () {s with heap:=h'}):wpAny M A (noteFrame (.ref e) env) Q E s:=by
 obtain⟨oe,vs,oT,ts,he,hc,hdd,hd,h1,h2,hTe,hT,hdT,h3⟩:=r
 have tF:T0∉dG (env :: outer):=λz=>by
  obtain⟨_,o,q,n⟩:=hl.mem z
  rw[hT] at q;cases q;exact n _ hdT
 unfold noteFrame
 simp only[hf]
 refine Ji (Kb he hd h1 ?_)
 rw[Jk (show (Value.ref T0 != Value.none)=true from by simp)]
 refine Ji (Kb hT hdT h3 ?_)
 rw[Ju (show ¬((Value.none == rawInt L)=true) from by simp[rawInt])]
 refine Ji (Lr hT hdT (KC.mp h3).1 ?_)
 have oth:∀b,b≠T0->(s.heap.update T0 (Obj.mapFields (·.setIfInBounds 3 Value.none))).get? b=s.heap.get? b:=λb hb=>J1 _ _ (Ne.symm hb)
 have nf:∀b o,s.heap.get? b=some o->(∀ws,o.data≠.fields ws)->b≠T0:=λb o q n z=>by
  rw[z,hT] at q;cases q;exact n _ hdT
 refine zm (base:=base) hfr (hl.of_keeps λb o q n=>⟨o,(oth b (nf b o q n)).trans q,rfl⟩) hf ((oth e (Ne.symm hTe)).trans he) hc hdd hd (KC.mp h1).1 h2 λh' T kp sl tn rc=>?_
 refine h h' T (λb o q hb hn=>?_) (λb o q hb=>?_) ?_ rc
 ·simp only[Jn,JG,J3,not_or] at hn
  exact kp b o ((oth b hn.2).trans q) hb (by simp[hn.1])
 ·exact sl b o ((oth b λz=>tF (z▸hb)).trans q) hb
 ·by_cases z:T=T0
  ·exact .inr z
  ·exact .inl ((oth T z).symm.trans tn)
def mU {T:Addr}{fl:Value}(r:Rc s.heap e cls T fl)(h:∀h',Keeps [] [T] s.heap h'->Rc h' e cls T .none->Q () {s with heap:=h'}):wpAny M A (setFlight (.ref e) none) Q E s:=by
 obtain⟨oe,vs,oT,ts,he,hc,hdd,hd,h1,h2,hTe,hT,hdT,h3⟩:=r
 have sz:3 < ts.size:=(KC.mp h3).1
 unfold setFlight
 refine Ji (Kb he hd h1 ?_)
 rw[Jk (show (Value.ref T != Value.none)=true from by simp)]
 refine Lr hT hdT sz (h _ (λb o q _ hn=>?_) ?_)
 ·have hb:b≠T:=by simpa using hn
  exact (J1 _ _ (Ne.symm hb)).trans q
 ·have d3:=Lo hdT (·.setIfInBounds 3 ((none:Option Addr).elim Value.none λf=>rawInt f))
  exact⟨oe,vs,_,_,(J1 _ _ hTe).trans he,hc,hdd,hd,h1,h2,hTe,Kz _ hT (Obj.isFreed_of_fields d3),d3,by simp[sz]⟩
end
section
variable {P:Program}{w:World}
theorem bP.there {H:Hp}{h:Heap}{a:Addr}{o:HO}(x:bP P w H h a o):∃u,h.get? a=some u:=by
 cases o with
 |lst xs=>obtain⟨_,_,_,_,e⟩:=x;exact⟨_,e⟩
 |tup xs=>obtain⟨_,_,_,u,e,_⟩:=x;exact⟨u,e⟩
 |dK kvs=>obtain⟨_,_,_,_,o,_,_,e,_⟩:=x;exact⟨_,e⟩
 |dT kvs=>obtain⟨_,_,_,_,o,_,_,e,_⟩:=x;exact⟨_,e⟩
 |set S n=>obtain⟨o,_,_,_,e,_⟩:=x;exact⟨_,e⟩
 |ins C dx fs=>obtain⟨_,_,_,e,_⟩:=x;exact⟨_,e⟩
 |own y=>obtain⟨_,e⟩:=x;exact⟨_,e⟩
 |xd fs=>obtain⟨_,⟨_,_,_,e,_⟩,_⟩:=x;exact⟨_,e⟩
 |fo lo hi=>obtain⟨_,_,_,e⟩:=x;exact⟨_,e⟩
 |a7 ob u=>obtain⟨e,_⟩:=x;exact⟨_,e⟩
 |tbl ps=>exact⟨_,show h.get? a=some _ from x⟩
 |met f y=>exact⟨_,show h.get? a=some _ from x⟩
 |ext φ=>obtain⟨_,⟨_,e⟩,_⟩:=x;exact⟨_,e⟩
end
structure Lies (h₀:Heap)(H:Hp)(h:Heap)(e:Addr)(cls:Value):Prop where
 free:H e=none
 new:h₀.get? e=none
 ob:∃T,Rc h e cls T .none/\H T=none/\h₀.get? T=none
def kU (P:Program)(w:World):rj:=λouter H s E e s'=>∃ea cls H',e=.ref ea/\s'.os=s.os/\AllBare s'.gens/\Un (dG outer) [] H H' s.heap s'.heap/\ju P w H' s'.heap/\Lies s.heap H' s'.heap ea cls/\E cls none H'
section
variable {P:Program}{w:World}{M:Model}{A:Around}{E':Value->Shared->Prop}{s:Shared}{env:Env}{outer:List Env}{L e:Addr}{cls:Value}{base h₀:Heap}{H:Hp}{Q:Unit->Shared->Prop}
def jO {h h':Heap}(hok:ju P w H h)(k:∀b o,h.get? b=some o->(∃u,H b=some u)->h'.get? b=some o):ju P w H h':=λa o ha=>
 (hok a o ha).stay (λb u hb q=>k b u q (hb.elim (λz=>⟨o,by rw[z];exact ha⟩) λz=>⟨_,z⟩)) (λ_ q=>q) λ_ _ q=>q
def Ax (hfr:A.frames=some (env :: outer))(hf:env.frame=some L)(hfn:s.heap.FunFrames base (env :: outer))(hok:ju P w H s.heap)(hff:∀b∈dG (env :: outer),H b=none)(Ly:Lies h₀ H s.heap e cls)(hex:∀b o,h₀.get? b=some o->∃o',s.heap.get? b=some o')
  (hQ:∀h',(∀b o,s.heap.get? b=some o->b∉dG (env :: outer)->((∃o0,h₀.get? b=some o0)\/∃u,H b=some u)->h'.get? b=some o)->(∀b o,s.heap.get? b=some o->b∈dG (env :: outer)->∃sl,h'.get? b=some {o with slots:=sl})->Lies h₀ H h' e cls->ju P w H h'->Q () {s with heap:=h'}) :
  wpAny M A (leaving env (.ref e)) Q E' s:=by
 obtain⟨fr,nw,T0,rc,hHT,hnT⟩:=Ly
 obtain⟨oe,vs,oT,ts,he,hc,hdd,hd,h1,h2,hTe,hT,hdT,h3⟩:=id rc
 have tF:T0∉dG (env :: outer):=λz=>by
  obtain⟨_,o,q,n⟩:=hfn.mem z
  rw[hT] at q;cases q;exact n _ hdT
 unfold leaving
 refine Ji (qm hfr hfn hf rc λh4 T kp sl tn rc4=>mU rc4 λh5 kp5 rc5=>?_)
 have nT:∀b o,s.heap.get? b=some o->b≠T0->b≠T:=λb o q n z=>by
  rcases tn with tn |tn
  ·rw[z,tn] at q;cases q
  ·exact n (z.trans tn)
 have kept:∀b o,s.heap.get? b=some o->b∉dG (env :: outer)->((∃o0,h₀.get? b=some o0)\/∃u,H b=some u)->h5.get? b=some o:=λb o q hb hor=>by
  have be:b≠e:=λz=>by subst z;rcases hor with⟨_,z⟩ | ⟨_,z⟩ <;> simp_all
  have bT:b≠T0:=λz=>by subst z;rcases hor with⟨_,z⟩ | ⟨_,z⟩ <;> simp_all
  exact kp5 b o (kp b o q hb (by simp[be,bT])) (by simp) (by simp[nT b o q bT])
 have slot:∀b o,s.heap.get? b=some o->b∈dG (env :: outer)->∃sl,h5.get? b=some {o with slots:=sl}:=λb o q hb=>by
  obtain⟨x,q4⟩:=sl b o q hb
  exact⟨x,kp5 b _ q4 (by simp) (by simp[nT b o q λz=>tF (z▸hb)])⟩
 have fresh:H T=none/\h₀.get? T=none:=by
  rcases tn with tn |tn
  ·refine⟨?_,?_⟩
   ·cases q:H T with
    |none=>rfl
    |some u=>obtain⟨o,qo⟩:=(hok T u q).there;rw[tn] at qo;cases qo
   ·cases q:h₀.get? T with
    |none=>rfl
    |some u=>obtain⟨o,qo⟩:=hex T u q;rw[tn] at qo;cases qo
  ·rw[tn];exact⟨hHT,hnT⟩
 refine hQ h5 kept slot ⟨fr,nw,T,rc5,fresh.1,fresh.2⟩ (jO hok λb o q hu=>kept b o q (λz=>?_) (.inr hu))
 obtain⟨u,hu⟩:=hu
 rw[hff b z] at hu;cases hu
def vC {h:Heap}{args:List Value}(hfr:A.frames=some (env :: outer))(hf:env.frame=some L)(hfn:h.FunFrames base (env :: outer))(hok:ju P w H h)(hff:∀b∈dG (env :: outer),H b=none)(hex:∀b o,h₀.get? b=some o->∃o',h.get? b=some o')(hx:Heap.MadeExcOf h s.heap e cls args)
  (hQ:∀h',(∀b o,h.get? b=some o->b∉dG (env :: outer)->h'.get? b=some o)->(∀b o,h.get? b=some o->b∈dG (env :: outer)->∃sl,h'.get? b=some {o with slots:=sl})->Lies h₀ H h' e cls->ju P w H h'->Q () {s with heap:=h'}) :
  wpAny M A (leaving env (.ref e)) Q E' s:=by
 obtain⟨t,he,_,_⟩:=hx.there
 unfold leaving
 refine Ji (uH (cls:=cls) hfr (hfn.of_keeps λb o q _=>⟨o,hx.keeps b o q,rfl⟩) hf he rfl rfl rfl rfl rfl λh4 T kp sl tn rc4=>mU rc4 λh5 kp5 rc5=>?_)
 have ne:∀b o,h.get? b=some o->b≠e:=λb o q z=>by rw[z,hx.new] at q;cases q
 have nT:∀b o,h.get? b=some o->b≠T:=λb o q z=>by
  have:=hx.keeps b o q
  rw[z,tn] at this;cases this
 have kept:∀b o,h.get? b=some o->b∉dG (env :: outer)->h5.get? b=some o:=λb o q hb=>kp5 b o (kp b o (hx.keeps b o q) hb (by simp[ne b o q])) (by simp) (by simp[nT b o q])
 have slot:∀b o,h.get? b=some o->b∈dG (env :: outer)->∃sl,h5.get? b=some {o with slots:=sl}:=λb o q hb=>by
  obtain⟨x,q4⟩:=sl b o (hx.keeps b o q) hb
  exact⟨x,kp5 b _ q4 (by simp) (by simp[nT b o q])⟩
 have fresh:∀{b:Addr},h.get? b=none->H b=none/\h₀.get? b=none:=λ{b} hb=>by
  refine⟨?_,?_⟩
  ·cases q:H b with
   |none=>rfl
   |some u=>obtain⟨o,qo⟩:=(hok b u q).there;rw[hb] at qo;cases qo
  ·cases q:h₀.get? b with
   |none=>rfl
   |some u=>obtain⟨o,qo⟩:=hex b u q;rw[hb] at qo;cases qo
 have no:h.get? T=none:=by
  cases q:h.get? T with
  |none=>rfl
  |some o=>exact absurd rfl (nT T o q)
 obtain⟨f1,f2⟩:=fresh hx.new
 obtain⟨g1,g2⟩:=fresh no
 refine hQ h5 kept slot ⟨f1,f2,T,rc5,g1,g2⟩ (jO hok λb o q hu=>kept b o q λz=>?_)
 obtain⟨u,hu⟩:=hu
 rw[hff b z] at hu;cases hu
end
section
variable {P:Program}{w:World}{K:Frag}{mg:Str->Option Value}{base:Heap}{N:List Str}{qual:Str}{scope:Scope}{f:Addr}{cd:Value}{A:Around}{outer:List Env}{s0:Shared}{H0:Hp}{E:XK}
def aK:Passes (kU P w) (jz (kU P w) P w K mg base N qual scope f cd A outer s0 H0 E) E:=by
 intro pins σ H s e s' I hcx
 obtain⟨ea,cls,H',rfl,os,bare,un,hok,Ly,q⟩:=hcx
 have I':=I.call' os un hok bare (λb hb=>absurd hb (by simp))
 have old:∀{b:Addr},s.heap.get? b=none->s0.heap.get? b=none:=λ{b} hb=>by
  cases z:s0.heap.get? b with
  |none=>rfl
  |some o=>obtain⟨o',z'⟩:=I.base.there b o z (show b∉([]:List Addr) by simp);rw[hb] at z';cases z'
 have Ly0:Lies s0.heap H' s'.heap ea cls:=by
  obtain⟨fr,nw,T,rc,hHT,hnT⟩:=Ly
  exact⟨fr,old nw,T,rc,hHT,old hnT⟩
 have above:s0.heap.objs.size<=(envOfC qual scope s0.heap.objs.size f cd).locals:=I.ok.above
 refine Ax (base:=base) (h₀:=s0.heap) I'.ok.frames rfl I'.stack I'.hok I'.stkFree Ly0 (λb o z=>I'.base.there b o z (show b∉([]:List Addr) by simp)) λh' kept slot Ly' hok'=>?_
 have nL:∀{b:Addr} {o:Obj},s0.heap.get? b=some o->b∉dG outer->b∉dG (envOfC qual scope s0.heap.objs.size f cd :: outer):=λ{b o} z hb hm=>by
  rcases Jn.mp (I'.stkSub b hm) with e |e
  ·have:=Jm z
   rw[e] at this
   exact absurd (Jz this above) (JJ _)
  ·exact hb e
 have inn:∀{b:Addr},b∈dG outer->b∈dG (envOfC qual scope s0.heap.objs.size f cd :: outer):=λ{b} hb=>by
  obtain⟨en,h1,h2⟩:=Ku.mp hb
  exact Ku.mpr ⟨en,Jx _ h1,h2⟩
 refine⟨ea,cls,H',rfl,os.trans I.os,bare,⟨λb o z n hb _=>?_,λb o z n hb _=>?_,λb o z n _=>I'.base.free b o z n (show b∉([]:List Addr) by simp),λb o z _=>?_,I'.base.tups,I'.base.frzs,I'.base.tbls⟩,hok',Ly',q⟩
 ·exact kept b o (I'.base.keep b o z n hb (show b∉([]:List Addr) by simp)) (nL z hb) (.inl ⟨o,z⟩)
 ·obtain⟨sl,z1⟩:=I'.base.slot b o z n hb (show b∉([]:List Addr) by simp)
  obtain⟨sl2,z2⟩:=slot b _ z1 (inn hb)
  exact⟨sl2,z2⟩
 ·obtain⟨o',z1⟩:=I'.base.there b o z (show b∉([]:List Addr) by simp)
  by_cases hb:b∈dG (envOfC qual scope s0.heap.objs.size f cd :: outer)
  ·obtain⟨sl,z2⟩:=slot b o' z1 hb
   exact⟨_,z2⟩
  ·exact⟨o',kept b o' z1 hb (.inl ⟨o,z⟩)⟩
def D9 (C:Addr)(E:XK)(t:TA):TS:=λ_ σ H=>t σ H λvs H1=>vs.length<=sizeLine/\E (.ref C) none H1
def zQ {x:Str}{C:Addr}{np cpos pos:Pos}{e0:Expr}{es:List Expr}{t:TA}{Bn newId initId:String}{bmB:List Value}(FB:ExcBaseFacts Bn newId initId bmB)(hbb:bmB.contains (.type "BaseException")=true)(q:PySem.W.excIn K C bmB newId=true)
  (hg:Gl (jz (kU P w) P w K mg base N qual scope f cd A outer s0 H0 E) x) (hm:mg x=some (.ref C)) (ha:PA (jz (kU P w) P w K mg base N qual scope f cd A outer s0 H0 E) (e0 :: es) t)
  (he:starEach (e0 :: es) (envOfC qual scope s0.heap.objs.size f cd)=(false,eval e0 (envOfC qual scope s0.heap.objs.size f cd)) :: starEach es (envOfC qual scope s0.heap.objs.size f cd):=by rfl)
  (hpl:(backTo cpos (starEach es (envOfC qual scope s0.heap.objs.size f cd))).any (·.1)=false:=by rfl) (hdb:(x == ("__debug__":Str))=false:=by decide) :
  PS (jz (kU P w) P w K mg base N qual scope f cd A outer s0 H0 E) (.Raise (some (.Call (.Name x np) (e0 :: es) [] cpos)) none pos) (D9 C E t):=by
 intro pins s σ H D I h
 have own:∀{hh:Heap},K.In hh->∃bm Nn nm qn bs hdct sn sub ab col dd k0 k1 k2 k3 k5 mN,hh.get? C=some (excClassObj nm qn C Nn bs bm hdct sn sub ab col dd k0 k1 k2 k3 k5 newId)/\hh.Ns Nn mN/\mN "__init__"=none/\OwnTail hh bmB bm:=λ{hh} X=>by
  have q:=q
  unfold PySem.W.excIn at q
  split at q
  ·rename_i dd cdd sl ho
   split at q
   ·rename_i C' bm k0 k1 k2 k3 n k5 hm hs
    simp only[JD,beq_iff_eq,KW] at q
    obtain⟨⟨⟨⟨⟨rfl,rfl⟩,hdel⟩,ht⟩,hok⟩,hni⟩:=q
    obtain⟨nm,bs,mro,ns,qn,hd,sn,sub,ab,col,del⟩:=cdd
    dsimp only at hm hdel hok hni
    subst hm hdel
    have hsl:sl=#[k0,k1,k2,k3,some (.builtin n),k5]:=by
     obtain⟨l⟩:=sl
     simp only at hs
     rw[hs]
    subst hsl
    exact⟨bm,ns,nm,qn,bs,hd,sn,sub,ab,col,dd,k0,k1,k2,k3,k5,_,X _ _ ho,.of_isNs (PySem.W.isNs_of_in X hok),PySem.W.nsMap_none_of_in X hok hni,PySem.W.tail_of_in X ht⟩
   ·cases q
  ·cases q
 obtain⟨bm,Nn,nm,qn,bs,hdct,sn,sub,ab,col,dd,k0,k1,k2,k3,k5,mN,hC,hN,hni,TL⟩:=own I.ok.mod.kin
 have hA:=ha cpos pins s σ H _ I h
 refine wpAny_Raise_call_subT (C:=C) (nm:=nm) (q:=qn) (N:=Nn) (bs:=bs) (bm:=bm) (hdct:=hdct) (sn:=sn) (sub:=sub) (ab:=ab) (col:=col) (dd:=dd) (k0:=k0) (k1:=k1) (k2:=k2) (k3:=k3) (k5:=k5) FB (mN:=mN) (TL.hasType hbb) (I.ok.hd rfl) ?_ hni (j5 I hg hm ⟨rfl,?_⟩ hdb)
 ·show (backTo cpos (starEach (e0 :: es) (envOfC qual scope s0.heap.objs.size f cd))).any (·.1)=false
  rw[he]
  show (false || (backTo cpos (starEach es (envOfC qual scope s0.heap.objs.size f cd))).any (·.1))=false
  rw[hpl];rfl
 have hA:wpAny _ _ (spliced (backTo cpos (starEach (e0 :: es) (envOfC qual scope s0.heap.objs.size f cd)))) _ _ s:=hA
 show wpAny _ _ (evalArgs (.ref C) true (backTo cpos (starEach (e0 :: es) (envOfC qual scope s0.heap.objs.size f cd))) []) _ _ s
 rw[he] at hA ⊢
 refine Calls.evalArgs_plain (bW hA λus s2 ⟨vs,H2,I2,r2,hl2,q2⟩=>⟨rfl,by show us.length<=_;rw[<-r2.length];exact hl2,I2.bk _ _ hC,hN.keeps I2.bk,TL.keeps I2.bk,λh' e hx=>?_⟩)
 have above:s0.heap.objs.size<=(envOfC qual scope s0.heap.objs.size f cd).locals:=I2.ok.above
 have nil:∀b:Addr,b∉([]:List Addr):=λb=>by simp
 refine vC (s:={s2 with heap:=h'}) (h:=s2.heap) (base:=base) (h₀:=s0.heap) I2.ok.frames rfl I2.stack I2.hok I2.stkFree (λb o z=>I2.base.there b o z (nil b)) hx λh2 kept slot Ly hok=>?_
 have nL:∀{b:Addr} {o:Obj},s0.heap.get? b=some o->b∉dG outer->b∉dG (envOfC qual scope s0.heap.objs.size f cd :: outer):=λ{b o} z hb hm=>by
  rcases Jn.mp (I2.stkSub b hm) with e |e
  ·have:=Jm z
   rw[e] at this
   exact absurd (Jz this above) (JJ _)
  ·exact hb e
 have inn:∀{b:Addr},b∈dG outer->b∈dG (envOfC qual scope s0.heap.objs.size f cd :: outer):=λ{b} hb=>by
  obtain⟨en,h1,h2⟩:=Ku.mp hb
  exact Ku.mpr ⟨en,Jx _ h1,h2⟩
 refine⟨e,.ref C,H2,rfl,I2.os,I2.bare,⟨λb o z n hb _=>?_,λb o z n hb _=>?_,λb o z n _=>I2.base.free b o z n (nil b),λb o z _=>?_,I2.base.tups,I2.base.frzs,I2.base.tbls⟩,hok,Ly,q2⟩
 ·exact kept b o (I2.base.keep b o z n hb (nil b)) (nL z hb)
 ·obtain⟨sl,z1⟩:=I2.base.slot b o z n hb (nil b)
  obtain⟨sl2,z2⟩:=slot b _ z1 (inn hb)
  exact⟨sl2,z2⟩
 ·obtain⟨o',z1⟩:=I2.base.there b o z (nil b)
  by_cases hb:b∈dG (envOfC qual scope s0.heap.objs.size f cd :: outer)
  ·obtain⟨sl,z2⟩:=slot b o' z1 hb
   exact⟨_,z2⟩
  ·exact⟨o',kept b o' z1 hb⟩
end
section
variable {X:Cx}{pins:List (Addr×Obj)}{σ:St}{H:Hp}{s:Shared}{h':Heap}{e T:Addr}{oe oT:Obj}{vs ts:Array Value}
def Inv.exc {tk:Nat}(I:Inv X pins σ H s)(hex:X.ex= [])(he:s.heap.get? e=some oe)(hd:oe.data=.fields vs)(hT:s.heap.get? T=some oT)(hdT:oT.data=.fields ts)(n1:X.s₀.heap.get? e=none)(n2:X.s₀.heap.get? T=none)(pn:∀p∈X.pn ++ pins,p.1≠e/\p.1≠T)
  (kept:∀b o,s.heap.get? b=some o->b∉dG X.stack->b≠e->b≠T->h'.get? b=some o) (slot:∀b o,s.heap.get? b=some o->b∈dG X.stack->∃sl,h'.get? b=some {o with slots:=sl}) (hok:ju X.prog X.w H h') :
  Inv X pins σ H {s with heap:=h',toks:=tk}:=by
 have nil:∀b:Addr,b∉X.ex:=λb=>by rw[hex];simp
 have any:∀b o,s.heap.get? b=some o->(∀ws,o.data≠.fields ws)->∃sl,h'.get? b=some {o with slots:=sl}:=λb o q n=>by
  by_cases hb:b∈dG X.stack
  ·exact slot b o q hb
  ·refine⟨o.slots,kept b o q hb (λz=>?_) λz=>?_⟩
   ·rw[z,he] at q;cases q;exact n _ hd
   ·rw[z,hT] at q;cases q;exact n _ hdT
 have cellK:∀{c:Addr} {v:Option Value},s.heap.IsCell c v->h'.IsCell c v:=λ{c v} ⟨o,ho,hdc⟩=>by
  obtain⟨sl,q⟩:=any c o ho λws z=>by rw[hdc] at z;cases z
  exact⟨_,q,hdc⟩
 have nsub:∀{b:Addr},b≠X.env.locals->b∉X.fs->b∉dG X.stack:=λ{b} h1 h2 hb=>(Jn.mp (I.stkSub b hb)).elim h1 h2
 have neL:∀b o,X.s₀.heap.get? b=some o->b≠X.env.locals:=λb o q=>JH (Jz (Jm q) I.ok.above)
 have ne2:∀b o,X.s₀.heap.get? b=some o->b≠e/\b≠T:=λb o q=>⟨λz=>by (rw[z,n1] at q;cases q),λz=>by (rw[z,n2] at q;cases q)⟩
 refine⟨I.ok,I.os,I.bare,⟨λb o q n hb hx=>?_,λb o q n hb hx=>?_,I.base.free,λb o q hx=>?_,I.base.tups,I.base.frzs,I.base.tbls⟩,?_,λx c q=>?_,I.free,I.freeC,λp hp=>?_,hok,I.len⟩
 ·exact kept b o (I.base.keep b o q n hb hx) (nsub (neL b o q) hb) (ne2 b o q).1 (ne2 b o q).2
 ·obtain⟨sl,q1⟩:=I.base.slot b o q n hb hx
  by_cases hs:b∈dG X.stack
  ·obtain⟨sl2,q2⟩:=slot b _ q1 hs
   exact⟨sl2,q2⟩
  ·exact⟨sl,kept b _ q1 hs (ne2 b o q).1 (ne2 b o q).2⟩
 ·obtain⟨o',q1⟩:=I.base.there b o q hx
  by_cases hs:b∈dG X.stack
  ·obtain⟨sl2,q2⟩:=slot b _ q1 hs
   exact⟨_,q2⟩
  ·exact⟨o',kept b _ q1 hs (ne2 b o q).1 (ne2 b o q).2⟩
 ·obtain⟨m,⟨o,es,ep,ho,hdd,r⟩,hl⟩:=I.loc
  obtain⟨sl,q⟩:=any _ o ho λws z=>by rw[hdd] at z;cases z
  refine⟨m,⟨_,es,ep,q,hdd,r⟩,λi x v e1 e2 e3=>?_⟩
  obtain⟨u,r',l⟩:=hl i x v e1 e2 e3
  refine⟨u,r',?_⟩
  rcases l with l | ⟨k,c,q,z⟩
  ·exact .inl l
  ·exact .inr ⟨k,c,q,cellK z⟩
 ·obtain⟨v,z⟩:=I.cell x c q
  exact⟨v,cellK z⟩
 ·obtain⟨q,n,ne,nf,d⟩:=I.pin p hp
  exact⟨kept p.1 p.2 q (nsub ne nf) (pn p hp).1 (pn p hp).2,n,ne,nf,d⟩
def dQ (e:Addr)(cls:Value)(h:Heap):Prop:=∃o vs,h.get? e=some o/\o.cls=cls/\o.dict=none/\o.data=.fields vs/\vs[2]? =some .none
def Rc.isExc {h:Heap}{e T:Addr}{cls fl:Value}(r:Rc h e cls T fl):dQ e cls h:=let ⟨oe,vs,_,_,a,b,c,d,_,f,_⟩:=r;⟨oe,vs,a,b,c,d,f⟩
def Inv.track {cls:Value}(I:Inv X pins σ H s)(he:dQ e cls s.heap)(hn:H e=none)(n1:X.s₀.heap.get? e=none)(hL:e≠X.env.locals)(hc:∀x c,X.env.cells.lookup x=some c->c≠e)(pn:∀p∈X.pn ++ pins,p.1≠e) :
  Inv X pins σ (upd H e (.ext (dQ e cls))) s:=by
 have un:∀{b:Addr},b≠e->upd H e (.ext (dQ e cls)) b=H b:=λ{b} z=>aw z
 have keepT:∀{b:Addr} {o:HO},H b=some o->upd H e (.ext (dQ e cls)) b=some o:=λ{b o} q=>by rw[un (aE q hn)];exact q
 refine⟨I.ok,I.os,I.bare,⟨I.base.keep,I.base.slot,λb o q n hx=>?_,I.base.there,λb xs q=>keepT (I.base.tups b xs q),λb o u q=>keepT (I.base.frzs b o u q),λb ps q=>?_⟩,I.loc,I.cell,?_,λx c q=>?_,λp hp=>?_,λa o ha=>?_,I.len⟩
 ·rw[un (λz=>by rw[z,n1] at q;cases q)];exact I.base.free b o q n hx
 ·obtain⟨m,q1⟩:=I.base.tbls b ps q
  exact⟨m,keepT q1⟩
 ·rw[un hL.symm];exact I.free
 ·rw[un (hc x c q)];exact I.freeC x c q
 ·obtain⟨q,n,ne,nf,d⟩:=I.pin p hp
  exact⟨q,by rw[un (pn p hp)];exact n,ne,nf,d⟩
 ·by_cases z:a=e
  ·subst z
   rw[aq] at ha
   cases ha
   obtain⟨o,vs,q,c⟩:=he
   exact⟨⟨o,vs,q,c⟩,⟨o,q⟩,λh1 h2 ⟨o1,v1,q1,c1⟩ k=>⟨o1,v1,k o1 q1,c1⟩⟩
  ·rw[un z] at ha
   exact (I.hok a o ha).stay (λb u _ q=>q) (λb q=>keepT q) λb xs q=>q.imp keepT λ⟨o,q⟩=>⟨o,keepT q⟩
def yh {M:Model}{A:Around}{E:Value->Shared->Prop}{i:Nat}{x:Str}{v:V}{Q:Unit->Shared->Prop}(I:Inv X pins σ H s)(hN:X.N.Nodup)(hi:X.N[i]? =some x)(hk:X.env.scope.names.lookup x=some .local)(hv:σ[i]? =some (some v))
  (h:∀s',Inv X pins (σ.set i none) H s'->Q () s'):wpAny M A (unbindName X.env x) Q E s:=by
 obtain⟨m,hn,hl⟩:=id I.loc
 have hcls:(X.env.scope.kind == .class || (X.env.scope.kind == .module && X.env.locals != X.env.globals))=false:=by rw[I.ok.kind];rfl
 obtain⟨u,_,look⟩:=hl i x v hi hv (.inl hk)
 have hm:m x=some u:=by
  rcases look with⟨_,q⟩ | ⟨k,_⟩
  ·exact q
  ·have hk':X.env.kindOf x=some .local:=hk
   rw[hk'] at k
   rcases k with k |k <;> cases k
 refine wpAny_unbindName_local hk hn hm hcls λh' u' hn' hs=>?_
 obtain⟨oL,_,_,hoL,_⟩:=id hn
 have same:∀{b:Addr} {o:Obj},b≠X.env.locals->s.heap.get? b=some o->h'.get? b=some o:=λ{b o} z q=>(hs.2 b z).trans q
 have neL:∀{b:Addr} {o:Obj},X.s₀.heap.get? b=some o->b≠X.env.locals:=λ{b o} q=>JH (Jz (Jm q) I.ok.above)
 have hok:ju X.prog X.w H h':=jO I.hok λb o q hu=>same (λz=>by obtain⟨w',hw⟩:=hu;rw[z,I.free] at hw;cases hw) q
 refine h _ ⟨I.ok,I.os,I.bare,⟨λb o q n hb hx=>same (neL q) (I.base.keep b o q n hb hx),λb o q n hb hx=>?_,I.base.free,λb o q hx=>?_,I.base.tups,I.base.frzs,I.base.tbls⟩,⟨_,hn',λj y v' e1 e2 e3=>?_⟩,λy c q=>?_,I.free,I.freeC,λp hp=>?_,hok,by simpa using I.len⟩
 ·obtain⟨sl,q1⟩:=I.base.slot b o q n hb hx
  exact⟨sl,same (neL q) q1⟩
 ·obtain⟨o',q1⟩:=I.base.there b o q hx
  exact⟨o',same (neL q) q1⟩
 ·by_cases hj:j=i
  ·subst hj
   rw[Jq (by rw[I.len];exact (Jw.mp hi).1)] at e2
   cases e2
  ·rw[Js (Ne.symm hj)] at e2
   obtain⟨u2,r',q⟩:=hl j y v' e1 e2 e3
   refine⟨u2,r',?_⟩
   rcases q with⟨k,q⟩ | ⟨k,c,q,z⟩
   ·have:y≠x:=λz=>hj (lF hN e1 (z▸hi))
    exact .inl ⟨k,by simp[this,q]⟩
   ·exact .inr ⟨k,c,q,z.sameBut hs (I.cne y c q)⟩
 ·obtain⟨w',z⟩:=I.cell y c q
  exact⟨w',z.sameBut hs (I.cne y c q)⟩
 ·obtain⟨q,n,ne,nf,d⟩:=I.pin p hp
  exact⟨same ne q,n,ne,nf,d⟩
end
def uv (bmB:List Value)(newId:String)(C:Addr)(bm:List Value)(h:Heap):Prop:=∃Nn nm qn bs hdct sn sub ab col dd k0 k1 k2 k3 k5,h.get? C=some (excClassObj nm qn C Nn bs bm hdct sn sub ab col dd k0 k1 k2 k3 k5 newId)/\OwnTail h bmB bm
def mroIn (K:Frag)(C:Addr):List Value:=match K.lookup C with
 |some ⟨_,_,.cls cd,_⟩=>cd.mro
 |_=>[]
def vR {K:Frag}{C:Addr}{bmB:List Value}{newId:String}(q:PySem.W.excIn K C bmB newId=true):∃bm,mroIn K C=.ref C :: bm/\∀{h:Heap},K.In h->uv bmB newId C bm h:=by
 have q0:=q
 unfold PySem.W.excIn at q
 split at q
 ·rename_i dd cdd sl ho
  split at q
  ·rename_i C' bm k0 k1 k2 k3 n k5 hm hs
   simp only[JD,beq_iff_eq,KW] at q
   obtain⟨⟨⟨⟨⟨rfl,rfl⟩,hdel⟩,ht⟩,hok⟩,hni⟩:=q
   refine⟨bm,by unfold mroIn;rw[ho];exact hm,λ{h} X=>?_⟩
   obtain⟨nm,bs,mro,ns,qn,hd,sn,sub,ab,col,del⟩:=cdd
   dsimp only at hm hdel hok hni
   subst hm hdel
   have hsl:sl=#[k0,k1,k2,k3,some (.builtin n),k5]:=by
    obtain⟨l⟩:=sl
    simp only at hs
    rw[hs]
   subst hsl
   exact⟨ns,nm,qn,bs,hd,sn,sub,ab,col,dd,k0,k1,k2,k3,k5,X _ _ ho,PySem.W.tail_of_in X ht⟩
  ·cases q
 ·cases q
def y7 {M:Model}{A:Around}{E:Value->Shared->Prop}{s:Shared}{Q:Bool->Shared->Prop}{C D e:Addr}{oe:Obj}{bm bmD bmB bmB2:List Value}{nC nD:String}(oC:uv bmB nC C bm s.heap)(oD:uv bmB2 nD D bmD s.heap)(he:s.heap.get? e=some oe)(hcls:oe.cls=.ref C)
  (hb:bmB2.contains (.type "BaseException")=true) (hup:(Value.ref C :: bm).contains (.ref D)=true) (hq:Q true s):wpAny M A (excMatches (.ref e) (.ref D)) Q E s:=by
 obtain⟨N1,nm1,qn1,bs1,hd1,sn1,sub1,ab1,col1,dd1,a0,a1,a2,a3,a5,hC,TC⟩:=oC
 obtain⟨N2,nm2,qn2,bs2,hd2,sn2,sub2,ab2,col2,dd2,b0,b1,b2,b3,b5,hD,TD⟩:=oD
 have hcB:(Value.ref D :: bmD).contains (.type "BaseException")=true:=by rw[List.contains_cons,TD.hasType hb,Bool.or_true]
 have f:=tc_notTuple
 obtain⟨h,g,d,t,os⟩:=s
 unfold excMatches
 repeat (first
  | (with_reducible refine wpAny_loadPart_at he ?_;rw[hcls])
  |with_reducible refine wpAny_loadPart_at hD ?_
  | (with_reducible refine wpAny_isSubtype_exc hD ?_;rw[hcB])
  | (with_reducible refine wpAny_isSubtype_exc hC ?_;rw[hup])
  |wp_step)
 exact hq
def Mt (K:Frag)(cls:Value)(D:Addr):Prop:=∀{M:Model} {A:Around} {E:Value->Shared->Prop} {s:Shared} {Q:Bool->Shared->Prop} {e:Addr} {oe:Obj},K.In s.heap->s.heap.get? e=some oe->oe.cls=cls->Q true s->wpAny M A (excMatches (.ref e) (.ref D)) Q E s
def r6 {K:Frag}{C D:Addr}{bmB bmB2:List Value}{nC nD:String}(qC:PySem.W.excIn K C bmB nC=true)(qD:PySem.W.excIn K D bmB2 nD=true)(hb:bmB2.contains (.type "BaseException")=true)(hup:(mroIn K C).contains (.ref D)=true):Mt K (.ref C) D:=by
 intro M A E s Q e oe X he hc hq
 obtain⟨bm,e1,o1⟩:=vR qC
 obtain⟨bmD,e2,o2⟩:=vR qD
 rw[e1] at hup
 exact y7 (o1 X) (o2 X) he hc hb hup hq
abbrev Cx.inTry (X:Cx)(Ex:Value->Shared->Prop)(pn:List (Addr×Obj)):Cx:={X with xe:=Ex,pn:=pn}
abbrev Cx.inEx (X:Cx)(e:Addr):Cx:={X with A:=X.A.mark (some (.ref e)),calm:=false,xe:=λ_ _=>False}
section
variable {X:Cx}{pins:List (Addr×Obj)}{σ:St}{H:Hp}{s:Shared}
def Inv.toTry (I:Inv X pins σ H s)(Ex:Value->Shared->Prop):Inv (X.inTry Ex (X.pn ++ pins)) [] σ H s:=
 ⟨⟨I.ok.mod,I.ok.kind,I.ok.glob,I.ok.blt,I.ok.above,I.ok.inj,I.ok.has,I.ok.cab,I.ok.hd,I.ok.frames,I.ok.stk,I.ok.exf,I.ok.bs,I.ok.bsz,I.ok.noex,I.ok.exfs,I.ok.funs,I.ok.frf⟩,I.os,I.bare,I.base,I.loc,I.cell,I.free,I.freeC,λp hp=>I.pin p (by simpa using hp),I.hok,I.len⟩
def Inv.ofTry {Ex:Value->Shared->Prop}{pins2:List (Addr×Obj)}(I:Inv (X.inTry Ex (X.pn ++ pins)) pins2 σ H s):Inv X pins σ H s:=
 ⟨⟨I.ok.mod,I.ok.kind,I.ok.glob,I.ok.blt,I.ok.above,I.ok.inj,I.ok.has,I.ok.cab,I.ok.hd,I.ok.frames,I.ok.stk,I.ok.exf,I.ok.bs,I.ok.bsz,I.ok.noex,I.ok.exfs,I.ok.funs,I.ok.frf⟩,I.os,I.bare,I.base,I.loc,I.cell,I.free,I.freeC,λp hp=>I.pin p (K0 _ hp),I.hok,I.len⟩
def Inv.toEx (I:Inv X pins σ H s)(e:Addr):Inv (X.inEx e) pins σ H s:=
 ⟨⟨I.ok.mod,I.ok.kind,I.ok.glob,I.ok.blt,I.ok.above,I.ok.inj,I.ok.has,I.ok.cab,λz=>absurd z JA,I.ok.frames,I.ok.stk,I.ok.exf,I.ok.bs,I.ok.bsz,I.ok.noex,I.ok.exfs,I.ok.funs,I.ok.frf⟩,I.os,I.bare,I.base,I.loc,I.cell,I.free,I.freeC,I.pin,I.hok,I.len⟩
def Inv.ofEx {e:Addr}(ok:X.Ok)(I:Inv (X.inEx e) pins σ H s):Inv X pins σ H s:=
 ⟨ok,I.os,I.bare,I.base,I.loc,I.cell,I.free,I.freeC,I.pin,I.hok,I.len⟩
theorem SP.ofTry {Ex:Value->Shared->Prop}{D:Ends}{f:Flow}{s':Shared}(h:SP (X.inTry Ex (X.pn ++ pins)) [] D f s'):SP X pins D f s':=by
 cases f with
 |next=>obtain⟨σ',H',I,q⟩:=h;exact⟨σ',H',I.ofTry,q⟩
 |brk=>obtain⟨σ',H',I,q⟩:=h;exact⟨σ',H',I.ofTry,q⟩
 |cont=>obtain⟨σ',H',I,q⟩:=h;exact⟨σ',H',I.ofTry,q⟩
 |ret u=>obtain⟨v,σ',H',I,r,q⟩:=h;exact⟨v,σ',H',I.ofTry,r,q⟩
end
def Cy (i:Nat)(D:Ends):Ends:={nx:=λσ H=>D.nx ((σ.set i (some .non)).set i none) H,rt:=D.rt,bk:=λσ H=>D.bk ((σ.set i (some .non)).set i none) H,ct:=λσ H=>D.ct ((σ.set i (some .non)).set i none) H}
def Hm (K:Frag)(Dc:Addr)(i len:Nat)(tb:XK->TS)(th:Addr->TS):TS:=λD σ H=>∃Eb:XK,tb Eb D σ H/\∀cls d H',Eb cls d H'->Mt K cls Dc/\∀(ea:Addr) (σ':St),H' ea=none->σ'.length=len->th ea (Cy i D) (σ'.set i (some (.ref ea))) (upd H' ea (.ext (dQ ea cls)))
structure fO (k:Nat)(A:Around):Prop where
 dp:A.depth + 3 * k + 5 < recursionLimit
 un:A.units + 16 * k + 200 < cLine
 gd:A.guards=some []
def dX.mark {k:Nat}{A:Around}(r:dX k A)(v:Option Value):fO k (A.mark v):=⟨r.dp,r.un,r.gd⟩
def fO.deeper {k:Nat}{A:Around}(r:fO (k + 1) A)(env:Env):fO k (A.deeper env):=
 ⟨by have:=r.dp;show A.depth + 1 + 3 * k + 5 < _;omega,by have:=r.un;show A.units + 3 + 16 * k + 200 < _;omega,r.gd⟩
def fO.mono {j k:Nat}{A:Around}(r:fO k A)(h:j<=k):fO j A:=⟨by have:=r.dp;omega,by have:=r.un;omega,r.gd⟩
def fO.units {k:Nat}{A:Around}(r:fO k A):A.units + 64 < cLine:=by have:=r.un;omega
structure wj (P:Program)(w:World)(K:Frag)(mg:Str->Option Value)(base:Heap)(CX:rj)(k:Nat)(f:Addr)(fd:FuncData)(ps:List Str)(sp:Sp):Prop where
 len:∀vs H Q E,sp vs H Q E->vs.length=ps.length
 run:∀(A:Around) (outer:List Env) (s:Shared) (H:Hp) (args:Args) (us:List Value) (vs:List V) (Q:VK) (E:XK),fO k A->tE P w K mg base A outer s H->BindsTo s fd args (ps.zip us)->Vals vs us->sp vs H Q E->
  codeAny (model P w) A (.call (.ref f) args) (CR CX outer P w H s Q E) s
abbrev ny (CX:rj)(P:Program)(w:World)(K:Frag)(mg:Str->Option Value)(base:Heap)(N:List Str)(qual:Str)(scope:Scope)(f:Addr)(cd:Value)(A:Around)(outer:List Env)(s:Shared)(H:Hp)(E:XK):Cx:=
 {jz CX P w K mg base N qual scope f cd A outer s H E with calm:=false}
def nM {CX:rj}{P:Program}{w:World}{K:Frag}{mg:Str->Option Value}{base:Heap}{N ps:List Str}{qual:Str}{scope:Scope}{f:Addr}{cd:Value}{A:Around}{outer:List Env}{s s1:Shared}{H:Hp}{E:XK}{us:List Value}{vs:List V}
  (S:aC N ps scope) (e0:tE P w K mg base A outer s H) (hl:vs.length=ps.length) (r:Vals vs us)
  (x:InCallC s s.heap.objs.size (bindL (envOfC qual scope s.heap.objs.size f cd).kindOf (ps.zip us) λ_=>none) (cellsFrom (s.heap.objs.size + 1) scope.names []) (bindC (envOfC qual scope s.heap.objs.size f cd).kindOf (ps.zip us) λ_=>none) s1) :
  Inv (ny CX P w K mg base N qual scope f cd A outer s H E) [] (start N vs) H s1:=by
 have e1:tE P w K mg base {A with handled:=none} outer s H:=⟨e0.frames,e0.mod,e0.bs,e0.bsz,e0.funs,e0.frf,e0.hok,e0.bare⟩
 have I:=qb (CX:=CX) (E:=E) (A:={A with handled:=none}) S rfl e1 hl r x
 exact⟨⟨I.ok.mod,I.ok.kind,I.ok.glob,I.ok.blt,I.ok.above,I.ok.inj,I.ok.has,I.ok.cab,λz=>absurd z JA,Around.frames_deeper e0.frames,I.ok.stk,I.ok.exf,I.ok.bs,I.ok.bsz,I.ok.noex,I.ok.exfs,I.ok.funs,I.ok.frf⟩,I.os,I.bare,I.base,I.loc,I.cell,I.free,I.freeC,I.pin,I.hok,I.len⟩
section
variable {P:Program}{w:World}{K:Frag}{mg:Str->Option Value}{base:Heap}
theorem wY.okH {x qual:Str}{st:Stmt}{f:Addr}{fd:FuncData}{N ps:List Str}{k:Nat}{sp:Sp}(F:wY K x qual st f fd)(S:aC N ps (ai st))(len:∀vs H Q E,sp vs H Q E->vs.length=ps.length)
  (hbody:∀(cdv:Value) (A:Around) (outer:List Env) (s:Shared) (H:Hp) (vs:List V) (Q:VK) (E:XK),fO k (A.deeper (envOfC qual (ai st) s.heap.objs.size f cdv))->sp vs H Q E->
   ∃t,me (ny pB P w K mg base N qual (ai st) f cdv A outer s H E).nox (cO st) t/\t {nx:=λ_ H'=>Q .non H',rt:=Q} (start N vs) H):wj P w K mg base pB (k + 1) f fd ps sp:=by
 obtain⟨oc,od,kV,doc,pm,an,cdv,ct,osl,rfl,lk,hcd⟩:=F.ex
 refine⟨len,λA outer s H args us vs Q E hr e0 hb r hsp=>?_⟩
 have hl:=len _ _ _ _ hsp
 have KX:K.In s.heap:=e0.mod.kin.keeps λb o e=>(e0.bs b o e).1
 have lim:s.heap.NoLimit:=e0.mod.nolimit.keeps λb o e=>(e0.bs b o e).1
 have hkind:∀y∈ps.zip us,(ai st).names.lookup y.1=some .local\/((ai st).names.lookup y.1=some .cell/\((cellsFrom (s.heap.objs.size + 1) (ai st).names []).lookup y.1).isSome=true):=λ⟨n,v⟩ hy=>by
  rcases S.par n (K9 hy).1 with q |q
  ·exact .inl q
  ·exact .inr ⟨q,Ks _ _ _ (.inl q)⟩
 have hdep:A.depth < recursionLimit:=by have:=hr.dp;omega
 refine codeAny_call_function hdep (KX _ _ lk) rfl S.co S.gen rfl (PySem.W.codeRec_of KX hcd) (hb _ _ _ _ ?_)
 refine K5 S.kind hkind λenv he s1 x=>?_
 subst he
 refine⟨lim.keeps x.toInCall.keep,codeAny_func ?_⟩
 obtain⟨t,ht,hq⟩:=hbody cdv A outer s H vs Q E (hr.deeper _) hsp
 have I:Inv (ny pB P w K mg base N qual (ai st) f cdv A outer s H E) [] (start N vs) H s1:=nM S e0 hl r x
 refine J9 (ht.nox [] s1 (start N vs) H _ I hq) (λfl s' hs=>?_) λe s' hs=>hs
 have fin:∀{σ':St} {H':Hp} {v:V} {u:Value},Inv (ny pB P w K mg base N qual (ai st) f cdv A outer s H E) [] σ' H' s'->RelV v u->Q v H'->CE outer P w H s Q u s':=
  λ{σ' H' v u} J rv q=>⟨v,H',J.os,J.bare,J.base,J.hok,rv,q⟩
 cases fl with
 |ret u=>
  obtain⟨v,σ',H',J,rv,q⟩:=hs
  exact fin J rv q
 |next=>
  obtain⟨σ',H',J,q⟩:=hs
  exact fin (v:=V.non) (u:=Value.none) J rfl q
 |brk=>
  obtain⟨_,_,_,q⟩:=hs
  exact False.elim q
 |cont=>
  obtain⟨_,_,_,q⟩:=hs
  exact False.elim q
def wY.yw {x qual:Str}{st:Stmt}{f:Addr}{fd:FuncData}{N ps:List Str}{k:Nat}{sp:Sp}(F:wY K x qual st f fd)(S:aC N ps (ai st))(len:∀vs H Q E,sp vs H Q E->vs.length=ps.length)
  (hbody:∀(cdv:Value) (A:Around) (outer:List Env) (s:Shared) (H:Hp) (vs:List V) (Q:VK) (E:XK),dX k (A.deeper (envOfC qual (ai st) s.heap.objs.size f cdv))->sp vs H Q E->
   ∃t,me (jz (kU P w) P w K mg base N qual (ai st) f cdv A outer s H E) (cO st) t/\t {nx:=λ_ H'=>Q .non H',rt:=Q} (start N vs) H):fF P w K mg base (kU P w) (k + 1) f fd ps sp:=by
 obtain⟨oc,od,kV,doc,pm,an,cdv,ct,osl,rfl,lk,hcd⟩:=F.ex
 exact Cq lk hcd S len λA outer s H vs Q E hr hsp=>hbody cdv A outer s H vs Q E hr hsp
end
section
variable {X:Cx}{CX:rj}{k:Nat}{f:Addr}{fd:FuncData}{ps:List Str}{sp:Sp}{dvs:List V}{ds:List Value}{E:XK}{x:Str}{p pos:Pos}{e:Expr}{es:List Expr}{t:TA}
theorem yP (F:wj X.prog X.w X.K X.mg X.base CX k f fd ps sp)(hr:fO k X.A)(hg:Gl X x)(hm:X.mg x=some (.ref f))(hk:PySem.W.keepIn X.K (.ref f)=true)(hb:Binds X.K fd ps ds)(hd:Vals dvs ds)(hx:Passes CX X E)
  (ha:PA X (e :: es) t) (hdb:(x == ("__debug__":Str))=false:=by decide) (he:starEach (e :: es) X.env=(false,eval e X.env) :: starEach es X.env:=by rfl) (hpl:(backTo pos (starEach es X.env)).any (·.1)=false:=by rfl) :
  PE X (.Call (.Name x p) (e :: es) [] pos) (yR sp dvs E t):=by
 intro pins s σ H Q I h
 refine KL (j5 I hg hm ?_ hdb)
 refine PySem.W.callWith_K (h₀:=X.base) I.ok.mod.kin hk (bW (ha pos pins s σ H _ I h) λus s1 ⟨vs,H1,I1,r,q⟩=>⟨I1.kIn,?_⟩) he hpl
 have r2:Vals (vs ++ dvs) (us ++ ds):=r.append hd
 have hl:(us ++ ds).length=ps.length:=by rw[<-r2.length];exact F.len _ _ _ _ q
 refine wpAny_call (Kv (F.run X.A X.stack s1 H1 ⟨us,[]⟩ (us ++ ds) (vs ++ dvs) Q E hr I1.env0 (hb s1 us I1.kIn hl) r2 q) λr s' hq=>?_)
 cases r with
 |error e=>exact hx pins σ H1 s1 e s' I1 hq
 |ok fl=>
  cases fl with
  |ret u=>exact I1.after hq
  |next=>exact False.elim hq
  |brk=>exact False.elim hq
  |cont=>exact False.elim hq
end
section
variable {prog:Program}{w:World}{A:Around}{E:Value->Shared->Prop}{s:Shared}{K:Frag}{x D:Addr}{ox:Obj}
structure si (K:Frag)(D:Addr):Prop where
 cl:(PySem.W.clsIn K D).isSome=true
 ga:PySem.W.findIn K (.ref D) "__getattribute__"=some (some (.builtin "BaseException.__getattribute__"))
 gn:PySem.W.findIn K (.ref D) "__getattr__"=some none
 cls:PySem.W.findIn K (.ref D) "__class__"=some (some (.builtin "object.__class__"))
 get:PySem.W.specialIn K (.builtin "object.__class__") "__get__"=some (some (.builtin "getset_descriptor.__get__"))
 tk:PySem.W.takesIn K (.builtin "object.__class__")=some true
 ob:PySem.W.mroIn K D (.type "object")=some true
 be:PySem.W.mroIn K D (.type "BaseException")=some true
def An (e:si K D):PySem.W.findObj K D none "__class__"=some (.bind (.builtin "getset_descriptor.__get__") (.builtin "object.__class__")):=by
 obtain⟨cd,hc⟩:=Kj.mp e.cl
 unfold PySem.W.findObj
 rw[hc,Option.bind_some,e.cls,Option.bind_some]
 simp[e.get,e.tk]
def xc {M:Model}{nameV:Value}{Q:Unit->Shared->Prop}(e:si K D)(X:K.In s.heap)(I:PySem.W.InstAt s.heap x ox D none)(hq:Q () s):wpAny M A (checkBuiltinCall "BaseException.__getattribute__" ⟨[.ref x,nameV],[]⟩) Q E s:=by
 have hk:builtinKind "BaseException.__getattribute__"=some .slot:=by decide +kernel
 have hsp:splitId "BaseException.__getattribute__"=some ("BaseException","__getattribute__"):=by decide +kernel
 have ha:=F.args_bexc_ga (.ref x) nameV
 have L0:=I.type (M:=M)
 have L1:=PySem.W.looks_mroIn (M:=M) X e.be
 simp only[checkBuiltinCall,hk,hsp]
 obtain⟨hh,g,d,t,os⟩:=s
 refine Ji ?_
 unfold isInstance
 repeat (first
  |with_reducible refine L0.at ?_
  |with_reducible refine L1.at ?_
  |wp_step)
 exact hq
def Bc {tk:Tok}{Q:Fin->Shared->Prop}(e:si K D)(X:K.In s.heap)(I:PySem.W.InstAt s.heap x ox D none)(hq:Q (.done (.ret (.ref D))) s):wpAny (model prog w) A (Builtin.«object.__getattribute__» ⟨[.ref x,.str "__class__" tk],[]⟩) Q E s:=by
 have L0:=I.type (M:=model prog w)
 have L1:=PySem.W.looks_find (M:=model prog w) X I (An e)
 obtain⟨hh,g,d,t,os⟩:=s
 repeat (any_goals (first
  |assumption
  |with_reducible refine L0.at ?_
  |with_reducible refine L1.at ?_
  |wp_step))
 exact PySem.W.class_get X I e.ob (Jp hq)
def DO {tk:Tok}{Q:Value->Shared->Prop}(FB:ExcAttrFacts "ValueError")(e:si K D)(X:K.In s.heap)(I:PySem.W.InstAt s.heap x ox D none)(hq:Q (.ref D) s):wpAny (model prog w) A (getAttrBy (.ref x) (.str "__class__" tk) false) Q E s:=by
 have f3:=FB.ga.bind (.ref x)
 have hx2:(Value.builtin "BaseException.__getattribute__" == Value.builtin "object.__getattribute__")=false:=by decide +kernel
 have hx1:(onTheHeap (Value.ref D) && Value.builtin "BaseException.__getattribute__" == Value.builtin "object.__getattribute__")=false:=by rw[hx2];rfl
 have L0:=I.type (M:=model prog w)
 have L1:=PySem.W.looks_findIn (M:=model prog w) X e.ga
 have L2:=PySem.W.looks_findIn (M:=model prog w) X e.gn
 obtain⟨hh,g,d,t,os⟩:=s
 repeat (any_goals (first
  |assumption
  |with_reducible refine L0.at ?_
  |with_reducible refine L1.at ?_
  |with_reducible refine L2.at ?_
  |wp_step))
 exact codeAny_call_builtin FB.ga.plain F.entry_bexc_ga (xc e X I (Bc e X I (PySem.W.handed_on rfl hq)))
def Aw {Q:Option Value->Shared->Prop}(FB:ExcAttrFacts "ValueError")(e:si K D)(X:K.In s.heap)(I:PySem.W.InstAt s.heap x ox D none)(hq:Q (some (.ref D)) {s with toks:=s.toks + 1}):wpAny (model prog w) A (getAttr? (.ref x) "__class__") Q E s:=by
 unfold getAttr? getAttrBy?
 exact Ji (wpAny_mkText (Ji (wpAny_attempt (DO FB e X I (Jp hq)))))
def dQ.inst {h:Heap}(i:dQ x (.ref D) h):∃ox,PySem.W.InstAt h x ox D none:=by
 obtain⟨o,vs,a,b,c,d,_⟩:=i
 exact⟨o,a,b,by unfold PySem.W.notCls;rw[d],by rw[c];trivial⟩
def Ac (e:si K D):PySem.W.KitX K (.ref x) (.ref D) (dQ x (.ref D)) where
 ty:=λ_ _ _ i=>let ⟨_,I⟩:=i.inst;I.type
 it:=λ_ _ X _=>by
  obtain⟨cdD,hcD⟩:=Kj.mp e.cl
  unfold PySem.W.clsIn at hcD
  split at hcD
  ·rename_i c' d' cd' sl' ho
   intro A' Q' E' s' k q
   unfold isType loadHead
   exact Ji (wpAny_loadPart (k _ _ (X _ _ ho)) (Jp q))
  ·cases hcD
 ne:=λh tp dd its n sl X htp=>by
  obtain⟨cdD,hcD⟩:=Kj.mp e.cl
  refine Bool.eq_false_iff.mpr λq=>?_
  have e:D=tp:=Value.ref.inj (beq_iff_eq.mp q)
  subst e
  unfold PySem.W.clsIn at hcD
  split at hcD
  ·rename_i c' d' cd' sl' ho
   have z:=(X _ _ ho).symm.trans htp
   cases z
  ·cases hcD
 ca:=λX i k=>let ⟨_,I⟩:=i.inst;Aw F.excAttr_ValueError e X I k
end
end L2
namespace L2
open PySem PySem.SeqAt PySem.Spec PyProof.Rows
section
variable {X:Cx}
def Gp (K:Frag):List V->Hp->VK->Prop:=λxs H Q=>∃(x D:Addr) (c:V) (C:Value) (b:Bool),xs= [.ref x,c]/\(∀u,RelV c u->u=C)/\H x=some (.ext (dQ x (.ref D)))/\si K D/\PySem.W.kitOne K (.ref D) C=some b/\Q (.bl b) H
def bj:cZ X (.builtin "isinstance") (Gp X.K):=by
 intro pins s σ H xs us Q I r h
 obtain⟨x,D,c,C,b,rfl,hc,hx,e,k,q⟩:=h
 obtain⟨u,v,rfl,rx,rc⟩:=vals2 r
 cases rx
 rw[hc v rc]
 obtain⟨p,_,_⟩:=(show bP X.prog X.w H s.heap x (.ext (dQ x (.ref D))) from I.hok x _ hx)
 exact JR (Ac e) I.kIn p k (λz=>nomatch z) λtk=>⟨.bl b,H,I.tok tk,rfl,q⟩
end
end L2
namespace L2
open PySem PySem.Spec PyProof.Rows
abbrev D:=PyData
def kD:Key->D
 | .inl i=>.int i
 | .inr x=>.str x
mutual
inductive Rp (K:Frag)(G:Hp):V->D->Prop
 |non:Rp K G .non .none
 |bl (b:Bool):Rp K G (.bl b) (.bool b)
 |int (i:Int):Rp K G (.int i) (.int i)
 |str (x:Str):Rp K G (.str x) (.str x)
 |tup {a:Addr} {xs:List V} {ds:List D}:dW K G a xs->cm K G xs ds->Rp K G (.ref a) (.tuple ds)
 |lst {a:Addr} {xs:List V} {ds:List D}:G a=some (.lst xs)->cm K G xs ds->Rp K G (.ref a) (.list ds)
 |scr {a:Addr} {ns:List Int}:fP K G a (ns.map V.int)->Rp K G (.ref a) (.dict [(.none,.list (ns.map int))])
 |dK {a:Addr} {kvs:List (Key×V)} {ds:List (D×D)}:G a=some (.dK kvs)->yy K G kvs ds->Rp K G (.ref a) (.dict ds)
 |dT {a:Addr} {kvs:List (List Key×V)} {ds:List (D×D)}:G a=some (.dT kvs)->yx K G kvs ds->Rp K G (.ref a) (.dict ds)
inductive cm (K:Frag)(G:Hp):List V->List D->Prop
 |nil:cm K G [] []
 |cons {x:V} {xs:List V} {d:D} {ds:List D}:Rp K G x d->cm K G xs ds->cm K G (x :: xs) (d :: ds)
inductive yy (K:Frag)(G:Hp):List (Key×V)->List (D×D)->Prop
 |nil:yy K G [] []
 |cons {k:Key} {x:V} {xs:List (Key×V)} {d:D} {ds:List (D×D)}:Rp K G x d->yy K G xs ds->yy K G ((k,x) :: xs) ((kD k,d) :: ds)
inductive yx (K:Frag)(G:Hp):List (List Key×V)->List (D×D)->Prop
 |nil:yx K G [] []
 |cons {k:List Key} {x:V} {xs:List (List Key×V)} {d:D} {ds:List (D×D)}:Rp K G x d->yx K G xs ds->yx K G ((k,x) :: xs) ((.tuple (k.map kD),d) :: ds)
end
section
variable {K:Frag}{G G' H H':Hp}
def F0 {b:Addr}{o:HO}(h:Kt H b o)(hu:∀ps,o≠.tbl ps):H b=some o:=by
 obtain⟨u,e,k,_⟩:=h.some
 rw[e,k hu]
theorem hW {a b:Addr}{o u:HO}(h:Kt H b u)(hb:b≠a)(ha:∀x y,H a≠some (.a7 x y)):Kt (upd H a o) b u:=by
 cases u with
 |tbl ps=>
  obtain⟨m,e,t,k⟩:=h
  refine⟨m,by rw[aw hb];exact e,t,λc hc=>?_⟩
  obtain⟨x,ex,ix⟩:=k c hc
  exact⟨x,by rw[aw (λz=>ha x _ (z▸ex))];exact ex,ix⟩
 |_=>exact (aw hb).trans h
def Rd.mono {a:Addr}{u:HO}(h:Rd G a u)(s:ar G G')(hu:∀ps,u≠.tbl ps:=by intro _ z;cases z):Rd G' a u:=h.elim (λe=>.inl (F0 (s _ _ e) hu)) λ⟨o,e⟩=>.inr ⟨o,s _ _ e⟩
mutual
theorem Rp.mono (s:ar G G'):∀{x:V} {d:D},Rp K G x d->Rp K G' x d
 |_,_,.non=>.non
 |_,_,.bl b=>.bl b
 |_,_,.int i=>.int i
 |_,_,.str x=>.str x
 |_,_,.tup h hs=>.tup (h.grow s.grow) (cm.mono s hs)
 |_,_,.lst h hs=>.lst (s _ _ h) (cm.mono s hs)
 |_,_,.scr h=>.scr (s.seq h)
 |_,_,.dK h hs=>.dK (s _ _ h) (yy.mono s hs)
 |_,_,.dT h hs=>.dT (s _ _ h) (yx.mono s hs)
theorem cm.mono (s:ar G G'):∀{xs:List V} {ds:List D},cm K G xs ds->cm K G' xs ds
 |_,_,.nil=>.nil
 |_,_,.cons h hs=>.cons (Rp.mono s h) (cm.mono s hs)
theorem yy.mono (s:ar G G'):∀{xs:List (Key×V)} {ds:List (D×D)},yy K G xs ds->yy K G' xs ds
 |_,_,.nil=>.nil
 |_,_,.cons h hs=>.cons (Rp.mono s h) (yy.mono s hs)
theorem yx.mono (s:ar G G'):∀{xs:List (List Key×V)} {ds:List (D×D)},yx K G xs ds->yx K G' xs ds
 |_,_,.nil=>.nil
 |_,_,.cons h hs=>.cons (Rp.mono s h) (yx.mono s hs)
end
theorem cm.len:∀{xs:List V} {ds:List D},cm K G xs ds->xs.length=ds.length
 |_,_,.nil=>rfl
 |_,_,.cons _ t=>by simp[cm.len t]
theorem cm.at:∀{xs:List V} {ds:List D} {i:Nat} {d:D},cm K G xs ds->ds[i]? =some d->∃x,xs[i]? =some x/\Rp K G x d
 |_,_,_,_,.nil,e=>by simp at e
 |_,_,0,_,.cons r _,e=>by simp at e;subst e;exact⟨_,rfl,r⟩
 |_,_,i + 1,x,.cons _ t,e=>by
  obtain⟨u,h1,h2⟩:=cm.at (i:=i) (d:=x) t (by simpa using e)
  exact⟨u,by simpa using h1,h2⟩
theorem cm.at':∀{xs:List V} {ds:List D} {i:Nat} {x:V},cm K G xs ds->xs[i]? =some x->∃d,ds[i]? =some d/\Rp K G x d
 |_,_,_,_,.nil,e=>by simp at e
 |_,_,0,_,.cons r _,e=>by simp at e;subst e;exact⟨_,rfl,r⟩
 |_,_,i + 1,x,.cons _ t,e=>by
  obtain⟨u,h1,h2⟩:=cm.at' (i:=i) (x:=x) t (by simpa using e)
  exact⟨u,by simpa using h1,h2⟩
theorem cm.append:∀{xs ys:List V} {ds es:List D},cm K G xs ds->cm K G ys es->cm K G (xs ++ ys) (ds ++ es)
 |_,_,_,_,.nil,s=>s
 |_,_,_,_,.cons r t,s=>.cons r (cm.append t s)
def cm.snoc {xs:List V}{ds:List D}{x:V}{d:D}(h:cm K G xs ds)(q:Rp K G x d):cm K G (xs ++ [x]) (ds ++ [d]):=h.append (.cons q .nil)
theorem cm.take:∀{xs:List V} {ds:List D} (n:Nat),cm K G xs ds->cm K G (xs.take n) (ds.take n)
 |_,_,0,_=>.nil
 |_,_,_ + 1,.nil=>.nil
 |_,_,n + 1,.cons r t=>.cons r (cm.take n t)
theorem cm.drop:∀{xs:List V} {ds:List D} (n:Nat),cm K G xs ds->cm K G (xs.drop n) (ds.drop n)
 |_,_,0,r=>r
 |_,_,_ + 1,.nil=>.nil
 |_,_,n + 1,.cons _ t=>cm.drop n t
theorem cm.set {x:V}{d:D}(r:Rp K G x d):∀{xs:List V} {ds:List D} (i:Nat),cm K G xs ds->cm K G (xs.set i x) (ds.set i d)
 |_,_,_,.nil=>.nil
 |_,_,0,.cons _ t=>.cons r t
 |_,_,i + 1,.cons q t=>.cons q (cm.set r i t)
theorem cm.rep {n:Nat}{xs:List V}{ds:List D}(h:cm K G xs ds):cm K G (List.replicate n xs).flatten (List.replicate n ds).flatten:=by
 induction n with
 |zero=>exact .nil
 |succ n ih=>rw[JX,JX,Kn,Kn];exact h.append ih
mutual
def Ah:D->Bool
 | .dict _=>false
 | .list ds=>o3 ds
 | .tuple ds=>o3 ds
 |_=>true
def o3:List D->Bool
 | []=>true
 |d :: ds=>Ah d && o3 ds
end
mutual
theorem Rp.rep:∀{x:V} {d:D},Rp K G x d->Ah d=true->Rep K G x d
 |_,_,.non,_=>.non
 |_,_,.bl b,_=>.bl b
 |_,_,.int i,_=>.int i
 |_,_,.str x,_=>.str x
 |_,_,.tup h hs,e=>.tup h (cm.reps hs (by simpa[Ah] using e))
 |_,_,.lst h hs,e=>.lst (.inl (.inl h)) (cm.reps hs (by simpa[Ah] using e))
 |_,_,.scr _,e=>by simp[Ah] at e
 |_,_,.dK _ _,e=>by simp[Ah] at e
 |_,_,.dT _ _,e=>by simp[Ah] at e
theorem cm.reps:∀{xs:List V} {ds:List D},cm K G xs ds->o3 ds=true->jt K G xs ds
 |_,_,.nil,_=>.nil
 |_,_,.cons h hs,e=>.cons (Rp.rep h (by simp[o3] at e;exact e.1)) (cm.reps hs (by simp[o3] at e;exact e.2))
end
def Own (K:Frag)(G H:Hp)(a:Addr):D->Prop
 | .list ds=>∃xs,H a=some (.lst xs)/\cm K G xs ds
 | .dict ds=>(∃kvs,H a=some (.dK kvs)/\yy K G kvs ds)\/∃kvs,H a=some (.dT kvs)/\yx K G kvs ds
 |_=>False
def Own.obj {a:Addr}{d:D}(h:Own K G H a d):∃o,H a=some o:=by
 cases d <;> first |exact h.elim |skip
 ·obtain⟨xs,e,_⟩:=h;exact⟨_,e⟩
 ·rcases h with⟨_,e,_⟩ | ⟨_,e,_⟩ <;> exact⟨_,e⟩
def Own.mono {a:Addr}{d:D}(h:Own K G H a d)(s:ar G G')(m:∀o,H a=some o->Kt H' a o):Own K G' H' a d:=by
 cases d <;> first |exact h.elim |skip
 ·obtain⟨xs,e,r⟩:=h;exact⟨xs,m _ e,r.mono s⟩
 ·rcases h with⟨k,e,r⟩ | ⟨k,e,r⟩
  ·exact .inl ⟨k,m _ e,r.mono s⟩
  ·exact .inr ⟨k,m _ e,r.mono s⟩
def Own.rp {a:Addr}{d:D}(h:Own K G H a d)(n:G a=none){G':Hp}(s:ar G G')(e:∀o,H a=some o->G' a=some o):Rp K G' (.ref a) d:=by
 cases d <;> first |exact h.elim |skip
 ·obtain⟨xs,q,r⟩:=h;exact .lst (e _ q) (r.mono s)
 ·rcases h with⟨k,q,r⟩ | ⟨k,q,r⟩
  ·exact .dK (e _ q) (r.mono s)
  ·exact .dT (e _ q) (r.mono s)
def kr (K:Frag)(B:Option Addr)(G H:Hp)(v:V)(d:D):Prop:=Rp K G v d\/∃a,v=.ref a/\B≠some a/\Own K G H a d
def gM (B:Option Addr)(H H':Hp):Prop:=(∀b o,H b=some o->B≠some b->Kt H' b o)/\∀b o u,H b=some (.a7 o u)->H' b=some (.a7 o u)
def gM.refl (B:Option Addr)(H:Hp):gM B H H:=⟨λ_ _ h _=>Kt.of h,λ_ _ _ h=>h⟩
theorem va {B:Option Addr}{b:Addr}{o:HO}(h1:Kt H b o)(y:gM B H H')(n:B≠some b):Kt H' b o:=by
 cases o with
 |tbl ps=>
  obtain⟨m,e,t,k⟩:=h1
  obtain⟨m2,e2,t2,k2⟩:=y.1 b _ e n
  refine⟨m ++ m2,by rw[e2,Array.append_assoc],by rw[K6];exact t.app t2,λc hc=>?_⟩
  rw[K6,JT] at hc
  rcases hc with hc |hc
  ·obtain⟨o,eo,io⟩:=k c hc;exact⟨o,y.2 c _ _ eo,io⟩
  ·exact k2 c hc
 |_=>exact y.1 b _ h1 n
def gM.trans {B:Option Addr}{H1:Hp}(x:gM B H H1)(y:gM B H1 H'):gM B H H':=⟨λb o h n=>va (x.1 b o h n) y n,λb o u h=>y.2 b o u (x.2 b o u h)⟩
def ar.mov (s:ar H H')(B:Option Addr):gM B H H':=⟨λb o h _=>s b o h,λb o u h=>s b _ h⟩
def kr.mono {B:Option Addr}{v:V}{d:D}(h:kr K B G H v d)(s:ar G G')(m:gM B H H'):kr K B G' H' v d:=by
 rcases h with h | ⟨a,e,n,h⟩
 ·exact .inl (h.mono s)
 ·exact .inr ⟨a,e,n,h.mono s λo q=>m.1 a o q n⟩
def kr.rpH {B:Option Addr}{v:V}{d:D}(h:kr K B G H v d)(s:ar G H):Rp K H v d:=by
 rcases h with h | ⟨a,rfl,n,h⟩
 ·exact h.mono s
 ·cases d <;> first |exact h.elim |skip
  ·obtain⟨xs,q,r⟩:=h;exact .lst q (r.mono s)
  ·rcases h with⟨k,q,r⟩ | ⟨k,q,r⟩
   ·exact .dK q (r.mono s)
   ·exact .dT q (r.mono s)
def kr.list {B:Option Addr}{v:V}{ds:List D}(h:kr K B G H v (.list ds))(s:ar G H):∃a xs,v=.ref a/\Rd H a (.lst xs)/\cm K G xs ds:=by
 rcases h with h | ⟨a,rfl,n,xs,q,r⟩
 ·cases h with
  |lst h r=>exact⟨_,_,rfl,.inl (s _ _ h),r⟩
 ·exact⟨a,xs,rfl,.inl q,r⟩
def kr.tuple {B:Option Addr}{v:V}{ds:List D}(h:kr K B G H v (.tuple ds))(s:ar G H):∃a xs,v=.ref a/\dW K H a xs/\cm K G xs ds:=by
 rcases h with h | ⟨a,rfl,n,h⟩
 ·cases h with
  |tup h r=>exact⟨_,_,rfl,h.grow s.grow,r⟩
 ·exact h.elim
def kr.int {B:Option Addr}{v:V}{i:Int}(h:kr K B G H v (.int i)):v=.int i:=by
 rcases h with h | ⟨a,rfl,n,h⟩
 ·cases h;rfl
 ·exact h.elim
def kr.bool {B:Option Addr}{v:V}{b:Bool}(h:kr K B G H v (.bool b)):v=.bl b:=by
 rcases h with h | ⟨a,rfl,n,h⟩
 ·cases h;rfl
 ·exact h.elim
def kr.str {B:Option Addr}{v:V}{x:Str}(h:kr K B G H v (.str x)):v=.str x:=by
 rcases h with h | ⟨a,rfl,n,h⟩
 ·cases h;rfl
 ·exact h.elim
def kr.none {B:Option Addr}{v:V}(h:kr K B G H v .none):v=.non:=by
 rcases h with h | ⟨a,rfl,n,h⟩
 ·cases h;rfl
 ·exact h.elim
end
def Fz:HO->Prop
 | .tup _=>True
 | .a7 _ _=>True
 |_=>False
def Mx (H:Hp)(b:Addr):Prop:=H b≠none/\∀o,H b=some o->¬Fz o
def Mx.lst {H:Hp}{b:Addr}{xs:List V}(h:H b=some (.lst xs)):Mx H b:=⟨by rw[h];simp,λys z=>by rw[h] at z;cases z;exact λy=>y⟩
theorem Mx.same {H H':Hp}{b:Addr}(h:Mx H b)(m:∀o,H b=some o->Kt H' b o):Mx H' b:=by
 obtain⟨h1,h2⟩:=h
 cases e:H b with
 |none=>exact absurd e h1
 |some o=>
  obtain⟨u,eu,k1,k2⟩:=(m o e).some
  refine⟨by rw[eu];simp,λxs z=>?_⟩
  rw[eu] at z
  cases z
  by_cases c:∃ps,o=.tbl ps
  ·obtain⟨ps,e⟩:=k2 c;rw[e];exact λy=>y
  ·rw[k1 λps e=>c ⟨ps,e⟩];exact h2 o e
def Own.mx {K:Frag}{G H:Hp}{a:Addr}{d:D}(h:Own K G H a d):Mx H a:=by
 cases d <;> first |exact h.elim |skip
 ·obtain⟨xs,e,_⟩:=h;exact Mx.lst e
 ·rcases h with⟨k,e,_⟩ | ⟨k,e,_⟩ <;> exact⟨by rw[e];simp,λys z=>by rw[e] at z;cases z;exact λy=>y⟩
open Classical in
noncomputable def oJ (G H:Hp):Hp:=λb=>match G b with
 |some o=>some o
 |none=>match H b with
  |some o=>if Fz o then some o else none
  |none=>none
def xA {G H:Hp}:ar G (oJ G H):=λb o e=>Kt.of (by unfold oJ;rw[e])
theorem wt {G H:Hp}(s:ar G H){b:Addr}{o:HO}(e:H b=some o)(f:Fz o):oJ G H b=some o:=by
 unfold oJ
 cases q:G b with
 |some u=>
  obtain⟨u',eu,k1,k2⟩:=(s b u q).some
  rw[e] at eu
  cases eu
  by_cases c:∃ps,u=.tbl ps
  ·obtain⟨ps,z⟩:=k2 c;subst z;exact f.elim
  ·rw[k1 λps z=>c ⟨ps,z⟩]
 |none=>simp only[e];rw[Jk f]
theorem Ak {G H:Hp}(s:ar G H):ar (oJ G H) H:=λb o e=>by
 unfold oJ at e
 cases q:G b with
 |some u=>rw[q] at e;cases e;exact s b _ q
 |none=>
  rw[q] at e
  cases q2:H b with
  |none=>rw[q2] at e;cases e
  |some u=>
   rw[q2] at e
   dsimp only at e
   split at e
   ·cases e;exact Kt.of q2
   ·cases e
theorem B5 {G H H':Hp}(hh:ar H H'){b:Addr}(m:Mx H b):oJ G H' b=G b:=by
 unfold oJ
 cases q:G b with
 |some u=>rfl
 |none=>
  obtain⟨h1,h2⟩:=m
  cases e:H b with
  |none=>exact absurd e h1
  |some o=>
   have hm:=(show Mx H b from⟨h1,h2⟩).same (hh b)
   cases e2:H' b with
   |none=>rfl
   |some u=>simp only;rw[Ju (hm.2 u e2)]
def sq {K:Frag}{G H:Hp}(s:ar G H){a:Addr}{xs:List V}(h:dW K H a xs):dW K (oJ G H) a xs:=by
 rcases h with (h | ⟨o,h⟩) |h
 ·exact .inl (.inl (wt s h trivial))
 ·exact .inl (.inr ⟨o,wt s h trivial⟩)
 ·exact .inr h
structure Fx where
 K:Frag
 H0:Hp
 G0:Hp
 par:List Addr
 ca:Str->Addr
 br:Nat->Bool
 bx:Option Addr
inductive Sl where
 |no |fz (d:D) |ow (d:D) |bx |br (d:D)
abbrev En:=List Sl
inductive Nv where
 |no |da (d:D) |bx
def Sl.val:Sl->Nv
 | .no=>.no
 | .fz d=>.da d
 | .ow d=>.da d
 | .br d=>.da d
 | .bx=>.bx
def vl (env:En):List Nv:=env.map Sl.val
def HJ (Γ:Fx)(B:Option Addr)(G H:Hp)(i:Nat)(o:Option (Option V)):Sl->Prop
 | .no=>True
 | .fz d=>∃v,o=some (some v)/\Rp Γ.K G v d
 | .ow d=>∃a,o=some (some (.ref a))/\Γ.H0 a=none/\G a=none/\B≠some a/\Own Γ.K G H a d
 | .bx=>∃a,o=some (some (.ref a))/\B=some a
 | .br d=>Γ.br i=true/\∃a,o=some (some (.ref a))/\B≠some a/\a∉Γ.par/\Own Γ.K G H a d
structure SR (Γ:Fx)(B:Option Addr)(G H:Hp)(σ:St)(env:En)(β:Int):Prop where
 sub:ar G H
 old:ar Γ.G0 G
 new:∀b,Mx Γ.H0 b->Γ.G0 b=none->G b=none
 keep:∀b o,Γ.H0 b=some o->b∉Γ.par->Kt H b o
 pin:∀b,b∈Γ.par->Mx H b
 fix:∀b,Γ.bx=some b->B=some b
 box:∀b,B=some b->H b=some (.lst [.int β])/\G b=none/\(b∈Γ.par\/Γ.H0 b=none)
 len:σ.length=env.length
 slot:∀(i:Nat) (s:Sl),env[i]? =some s->HJ Γ B G H i (σ[i]?) s
 sep:∀(i j:Nat) (a:Addr) (d e:D),env[i]? =some (.ow d)->env[j]? =some (.ow e)->σ[i]? =some (some (.ref a))->σ[j]? =some (some (.ref a))->i=j
structure Ext (G H G' H':Hp):Prop where
 hh:ar H H'
 gg:ar G G'
 gh:ar G' H'
 on:∀b,Mx H b->G' b=G b
def Ext.refl {G H:Hp}(s:ar G H):Ext G H G H:=⟨ar.refl _,ar.refl _,s,λ_ _=>rfl⟩
def Ext.new {G H:Hp}(s:ar G H){p:Addr}{o:HO}(h:H p=none):Ext G H (upd G p o) (upd H p o):=by
 refine⟨ar.new h,ar.new (s.free h),λb u e=>?_,λb hb=>?_⟩
 ·by_cases z:b=p
  ·subst z;rw[aq] at e;exact Kt.of (by rw[aq];exact e)
  ·rw[aw z] at e;exact hW (s b u e) z (λx y w=>by rw[h] at w;cases w)
 ·exact aw (λz=>hb.1 (by rw[z];exact h))
def Ext.own {G H:Hp}(s:ar G H){p:Addr}{o:HO}(h:H p=none):Ext G H G (upd H p o):=
 ⟨ar.new h,ar.refl _,s.trans (ar.new h),λ_ _=>rfl⟩
def Ext.trans {G H G1 H1 G2 H2:Hp}(x:Ext G H G1 H1)(y:Ext G1 H1 G2 H2):Ext G H G2 H2:=by
 refine⟨x.hh.trans y.hh,x.gg.trans y.gg,y.gh,λb hb=>?_⟩
 rw[y.on b (hb.same λo e=>x.hh b o e),x.on b hb]
section
variable {Γ:Fx}{B:Option Addr}{G H G' H':Hp}{σ:St}{env:En}{β:Int}
def SR.there (I:SR Γ B G H σ env β){b:Addr}(h:Γ.H0 b≠none):H b≠none:=by
 by_cases hp:b∈Γ.par
 ·exact (I.pin b hp).1
 ·cases e:Γ.H0 b with
  |none=>exact absurd e h
  |some o=>obtain⟨u,eu,_⟩:=(I.keep b o e hp).some;rw[eu];simp
def SR.thereM (I:SR Γ B G H σ env β){b:Addr}(h:Mx Γ.H0 b):Mx H b:=by
 by_cases hp:b∈Γ.par
 ·exact I.pin b hp
 ·exact h.same λo e=>I.keep b o e hp
def SR.ext (I:SR Γ B G H σ env β)(x:Ext G H G' H'):SR Γ B G' H' σ env β:=by
 refine⟨x.gh,I.old.trans x.gg,λb h1 h2=>?_,λb o h1 h2=>(I.keep b o h1 h2).step x.hh,λb hb=>?_,I.fix,λb e=>?_,I.len,λi s e=>?_,I.sep⟩
 ·rw[x.on b (I.thereM h1)];exact I.new b h1 h2
 ·exact (I.pin b hb).same λo e=>x.hh b o e
 ·obtain⟨h1,h2,h3⟩:=I.box b e
  exact⟨x.hh b _ h1,by rw[x.on b (Mx.lst h1)];exact h2,h3⟩
 ·have q:=I.slot i s e
  cases s with
  |no=>trivial
  |fz d=>obtain⟨v,h1,h2⟩:=q;exact⟨v,h1,h2.mono x.gg⟩
  |ow d=>
   obtain⟨a,h1,h2,h3,h4,h5⟩:=q
   exact⟨a,h1,h2,by rw[x.on a h5.mx];exact h3,h4,h5.mono x.gg λo q=>x.hh a o q⟩
  |bx=>exact q
  |br d=>obtain⟨b1,a,h1,h4,hp,h5⟩:=q;exact⟨b1,a,h1,h4,hp,h5.mono x.gg λo q=>x.hh a o q⟩
def iR (env:En)(i:Nat):En:=match env[i]? with
 |some (.ow d)=>env.set i (.fz d)
 |_=>env
def a7 (L:List Nat)(env:En):En:=L.foldl iR env
def cv (L M:List Nat)(env:En):a7 (L ++ M) env=a7 M (a7 L env):=by unfold a7;rw[List.foldl_append]
def u3 (env:En)(i:Nat)(s:Sl)(h:∀t,env[i]? =some t->t.val=s.val):vl (env.set i s)=vl env:=by
 unfold vl
 apply List.ext_getElem?
 intro j
 rw[JC,JC,List.getElem?_set]
 by_cases e:i=j
 ·subst e
  by_cases hi:i < env.length
  ·simp only[Km,hi]
   have:=h _ (Jr hi)
   simp[Jr hi,this]
  ·simp only[Km,hi,K1]
   rw[KA (by omega)]
 ·simp[e]
def BJ (env:En)(i:Nat):vl (iR env i)=vl env:=by
 unfold iR
 split
 ·rename_i d e
  exact u3 _ _ _ λt ht=>by rw[e] at ht;cases ht;rfl
 ·rfl
theorem eS (L:List Nat)(env:En):vl (a7 L env)=vl env:=by
 unfold a7
 induction L generalizing env with
 |nil=>rfl
 |cons i L ih=>rw[foldl_cons,ih,BJ]
theorem CF {i:Nat}{d:D}(h:(vl env)[i]? =some (.da d)):env[i]? =some (.fz d)\/env[i]? =some (.ow d)\/env[i]? =some (.br d):=by
 unfold vl at h
 rw[JC] at h
 cases e:env[i]? with
 |none=>rw[e] at h;simp at h
 |some s=>
  rw[e] at h
  cases s with
  |no=>simp[Sl.val] at h
  |fz d'=>simp[Sl.val] at h;subst h;exact .inl rfl
  |ow d'=>simp[Sl.val] at h;subst h;exact .inr (.inl rfl)
  |bx=>simp[Sl.val] at h
  |br d'=>simp[Sl.val] at h;subst h;exact .inr (.inr rfl)
theorem EW {i:Nat}(h:(vl env)[i]? =some .bx):env[i]? =some .bx:=by
 unfold vl at h
 rw[JC] at h
 cases e:env[i]? with
 |none=>rw[e] at h;simp at h
 |some s=>
  rw[e] at h
  cases s with
  |bx=>rfl
  |_=>simp[Sl.val] at h
def SR.freeze (I:SR Γ B G H σ env β)(i:Nat)(hb:Γ.br i=false){d:D}(h:(vl env)[i]? =some (.da d)):∃G' v,SR Γ B G' H σ (iR env i) β/\ar G G'/\σ[i]? =some (some v)/\Rp Γ.K G' v d:=by
 rcases CF h with e |e |e
 ·obtain⟨v,h1,h2⟩:=I.slot i _ e
  exact⟨G,v,by unfold iR;rw[e];exact I,ar.refl _,h1,h2⟩
 rotate_left
 ·obtain⟨z,_⟩:=I.slot i _ e
  rw[hb] at z;cases z
 ·obtain⟨a,h1,h2,h3,h4,h5⟩:=I.slot i _ e
  obtain⟨o,ho⟩:=h5.obj
  have sG:ar G (upd G a o):=ar.new h3
  have hi:i < env.length:=(Jw.mp e).1
  have hr:Rp Γ.K (upd G a o) (.ref a) d:=h5.rp h3 sG λo' q=>by rw[ho] at q;cases q;exact aq
  refine⟨upd G a o,.ref a,?_,sG,h1,hr⟩
  unfold iR
  rw[e]
  refine⟨λb u q=>?_,I.old.trans sG,λb n1 n2=>?_,I.keep,I.pin,I.fix,λb q=>?_,by rw[J5];exact I.len,λj s q=>?_,λj k c d1 d2 q1 q2 q3 q4=>?_⟩
  ·by_cases z:b=a
   ·subst z;rw[aq] at q;cases q;exact Kt.of ho
   ·rw[aw z] at q;exact I.sub b u q
  ·rw[aw (λz=>n1.1 (by rw[z];exact h2))];exact I.new b n1 n2
  ·obtain⟨k1,k2,k3⟩:=I.box b q
   exact⟨k1,by rw[aw (λz=>h4 (by rw[<-z];exact q))];exact k2,k3⟩
  ·by_cases z:j=i
   ·subst z
    rw[Jq hi] at q
    cases q
    exact⟨.ref a,h1,hr⟩
   ·rw[Js (Ne.symm z)] at q
    have w:=I.slot j s q
    cases s with
    |no=>trivial
    |fz d'=>obtain⟨v,w1,w2⟩:=w;exact⟨v,w1,w2.mono sG⟩
    |ow d'=>
     obtain⟨c,w1,w2,w3,w4,w5⟩:=w
     have ca:c≠a:=λz2=>z (I.sep j i c d' d q e w1 (by rw[z2];exact h1))
     exact⟨c,w1,w2,by rw[aw ca];exact w3,w4,w5.mono sG λo q=>Kt.of q⟩
    |bx=>exact w
    |br d'=>obtain⟨b1,c,w1,w4,wp,w5⟩:=w;exact⟨b1,c,w1,w4,wp,w5.mono sG λo q=>Kt.of q⟩
  ·have ne:∀{j:Nat} {d':D},(env.set i (Sl.fz d))[j]? =some (.ow d')->env[j]? =some (.ow d'):=λ{j d'} q=>by
    by_cases z:j=i
    ·subst z;rw[Jq hi] at q;cases q
    ·rw[Js (Ne.symm z)] at q;exact q
   exact I.sep j k c d1 d2 (ne q1) (ne q2) q3 q4
theorem SR.a7 (I:SR Γ B G H σ env β)(L:List Nat)(hb:∀i,i∈L->Γ.br i=false):∃G',SR Γ B G' H σ (a7 L env) β/\ar G G':=by
 induction L generalizing env G with
 |nil=>exact⟨G,I,ar.refl _⟩
 |cons i L ih=>
  show ∃G',SR Γ B G' H σ (L2.a7 L (iR env i)) β/\ar G G'
  have key:∃G1,SR Γ B G1 H σ (iR env i) β/\ar G G1:=by
   cases e:env[i]? with
   |none=>exact⟨G,by unfold iR;rw[e];exact I,ar.refl _⟩
   |some s=>
    cases s with
    |ow d=>
     obtain⟨G1,v,h1,h2,_⟩:=I.freeze i (hb i (JB ..)) (d:=d) (by unfold vl;rw[JC,e];rfl)
     exact⟨G1,h1,h2⟩
    |_=>exact⟨G,by unfold iR;rw[e];exact I,ar.refl _⟩
  obtain⟨G1,I1,s1⟩:=key
  obtain⟨G2,I2,s2⟩:=ih I1 λj hj=>hb j (Jx _ hj)
  exact⟨G2,I2,s1.trans s2⟩
def SR.set (I:SR Γ B G H σ env β){i:Nat}(hi:i < env.length){v:V}{d:D}(h:Rp Γ.K G v d):SR Γ B G H (σ.set i (some v)) (env.set i (.fz d)) β:=by
 have hs:i < σ.length:=by rw[I.len];exact hi
 refine⟨I.sub,I.old,I.new,I.keep,I.pin,I.fix,I.box,by rw[J5,J5];exact I.len,λj s q=>?_,λj k c d1 d2 q1 q2 q3 q4=>?_⟩
 ·by_cases z:j=i
  ·subst z
   rw[Jq hi] at q
   cases q
   exact⟨v,by rw[Jq hs],h⟩
  ·rw[Js (Ne.symm z)] at q ⊢
   exact I.slot j s q
 ·have ne:∀{j:Nat} {d':D},(env.set i (Sl.fz d))[j]? =some (.ow d')->j≠i/\env[j]? =some (.ow d'):=λ{j d'} q=>by
   by_cases z:j=i
   ·subst z;rw[Jq hi] at q;cases q
   ·rw[Js (Ne.symm z)] at q;exact⟨z,q⟩
  obtain⟨n1,e1⟩:=ne q1
  obtain⟨n2,e2⟩:=ne q2
  rw[Js (Ne.symm n1)] at q3
  rw[Js (Ne.symm n2)] at q4
  exact I.sep j k c d1 d2 e1 e2 q3 q4
def SR.setOw (I:SR Γ B G H σ env β){i:Nat}(hi:i < env.length){a:Addr}{d:D}(h0:Γ.H0 a=none)(hg:G a=none)(hb:B≠some a)(h:Own Γ.K G H a d)(hn:∀(j:Nat) (d':D),env[j]? =some (.ow d')->j≠i->σ[j]?≠some (some (.ref a))):SR Γ B G H (σ.set i (some (.ref a))) (env.set i (.ow d)) β:=by
 have hs:i < σ.length:=by rw[I.len];exact hi
 refine⟨I.sub,I.old,I.new,I.keep,I.pin,I.fix,I.box,by rw[J5,J5];exact I.len,λj s q=>?_,λj k c d1 d2 q1 q2 q3 q4=>?_⟩
 ·by_cases z:j=i
  ·subst z
   rw[Jq hi] at q
   cases q
   exact⟨a,by rw[Jq hs],h0,hg,hb,h⟩
  ·rw[Js (Ne.symm z)] at q ⊢
   exact I.slot j s q
 ·by_cases z1:j=i
  ·by_cases z2:k=i
   ·rw[z1,z2]
   ·subst z1
    rw[Js (Ne.symm z2)] at q2 q4
    rw[Jq hs] at q3
    cases q3
    exact absurd q4 (hn k d2 q2 z2)
  ·by_cases z2:k=i
   ·subst z2
    rw[Js (Ne.symm z1)] at q1 q3
    rw[Jq hs] at q4
    cases q4
    exact absurd q3 (hn j d1 q1 z1)
   ·rw[Js (Ne.symm z1)] at q1 q3
    rw[Js (Ne.symm z2)] at q2 q4
    exact I.sep j k c d1 d2 q1 q2 q3 q4
def SR.fresh (I:SR Γ B G H σ env β){a:Addr}(h:H a=none):Γ.H0 a=none/\G a=none/\B≠some a/\∀(j:Nat) (d:D),env[j]? =some (.ow d)->σ[j]?≠some (some (.ref a)):=by
 have hB:B≠some a:=λz=>by rw[(I.box a z).1] at h;cases h
 refine⟨?_,I.sub.free h,hB,λj d e z=>?_⟩
 ·cases e:Γ.H0 a with
  |none=>rfl
  |some o=>exact absurd h (I.there (by rw[e];simp))
 ·obtain⟨c,h1,_,_,_,h5⟩:=I.slot j _ e
  rw[z] at h1
  cases h1
  obtain⟨o,ho⟩:=h5.obj
  rw[h] at ho;cases ho
def SR.write (I:SR Γ B G H σ env β)(hb:∀j,Γ.br j=false){i:Nat}{a:Addr}{d d':D}{o:HO}(e:env[i]? =some (.ow d))(ea:σ[i]? =some (some (.ref a)))(h:∀H',H' a=some o->ar G H'->Own Γ.K G H' a d'):SR Γ B G (upd H a o) σ (env.set i (.ow d')) β:=by
 obtain⟨a',h1,h2,h3,h4,h5⟩:=I.slot i _ e
 rw[ea] at h1;cases h1
 have hi:i < env.length:=(Jw.mp e).1
 have ha:∀x y,H a≠some (.a7 x y):=λx y w=>h5.mx.2 _ w trivial
 have sub:ar G (upd H a o):=λb u q=>hW (I.sub b u q) (λz=>by rw[z,h3] at q;cases q) ha
 refine⟨sub,I.old,I.new,λb u q n=>?_,λb q=>?_,I.fix,λb q=>?_,by rw[J5];exact I.len,λj s q=>?_,λj k c d1 d2 q1 q2 q3 q4=>?_⟩
 ·exact hW (I.keep b u q n) (λz=>by rw[z,h2] at q;cases q) ha
 ·by_cases z:b=a
  ·subst z;exact (h _ aq sub).mx
  ·exact (I.pin b q).same λo e=>Kt.of (by rw[aw z];exact e)
 ·obtain⟨k1,k2,k3⟩:=I.box b q
  exact⟨by rw[aw (λz=>h4 (by rw[<-z];exact q))];exact k1,k2,k3⟩
 ·by_cases z:j=i
  ·subst z
   rw[Jq hi] at q
   cases q
   exact⟨a,ea,h2,h3,h4,h _ aq sub⟩
  ·rw[Js (Ne.symm z)] at q
   have w:=I.slot j s q
   cases s with
   |no=>trivial
   |fz d1=>exact w
   |ow d1=>
    obtain⟨c,w1,w2,w3,w4,w5⟩:=w
    have ca:c≠a:=λz2=>z (I.sep j i c d1 d q e w1 (by rw[z2];exact ea))
    exact⟨c,w1,w2,w3,w4,w5.mono (ar.refl _) λo q=>Kt.of (by rw[aw ca];exact q)⟩
   |bx=>exact w
   |br d1=>obtain⟨b1,_⟩:=w;rw[hb j] at b1;cases b1
 ·have back:∀{j:Nat} {d1:D},(env.set i (Sl.ow d'))[j]? =some (.ow d1)->∃d2,env[j]? =some (.ow d2):=λ{j d1} q=>by
   by_cases z:j=i
   ·subst z;exact⟨d,e⟩
   ·rw[Js (Ne.symm z)] at q;exact⟨d1,q⟩
  obtain⟨_,b1⟩:=back q1
  obtain⟨_,b2⟩:=back q2
  exact I.sep j k c _ _ b1 b2 q3 q4
end
inductive R (α:Type) where
 |ok (a:α) (β:Int)
 |exc (c:Str)
 |bad
def R.bnd {α γ:Type}(r:R α)(k:α->Int->R γ):R γ:=match r with
 | .ok a β=>k a β
 | .exc c=>.exc c
 | .bad=>.bad
def R.of {α:Type}(o:Option α)(β:Int):R α:=match o with
 |some a=>.ok a β
 |none=>.bad
abbrev VF (α:Type):=List Nv->Int->R α
def Kp (Γ:Fx)(H':Hp):Prop:=∀b o,Γ.H0 b=some o->b∉Γ.par->Kt H' b o
def Out {α:Type}(Γ:Fx)(E:XK)(r:R α)(P:α->Int->Prop):Prop:=match r with
 | .ok a β=>P a β
 | .exc c=>∀H',Kp Γ H'->E (.ref (Γ.ca c)) none H'
 | .bad=>False
section
variable {α γ:Type}{Γ:Fx}{E:XK}
theorem Out.bnd {r:R α}{k:α->Int->R γ}{P:γ->Int->Prop}(h:Out Γ E (r.bnd k) P):Out Γ E r λa β=>Out Γ E (k a β) P:=by
 cases r with
 |ok a β=>exact h
 |exc c=>exact h
 |bad=>exact h
theorem Out.imp {r:R α}{P P':α->Int->Prop}(h:Out Γ E r P)(i:∀a β,P a β->P' a β):Out Γ E r P':=by
 cases r with
 |ok a β=>exact i a β h
 |exc c=>exact h
 |bad=>exact h
theorem Out.of {o:Option α}{β:Int}{P:α->Int->Prop}(h:Out Γ E (R.of o β) P):∃a,o=some a/\P a β:=by
 cases o with
 |none=>exact h.elim
 |some a=>exact⟨a,rfl,h⟩
end
inductive Md where
 |b |v |w
def VO (K:Frag)(B:Option Addr)(H G' H':Hp):Md->D->V->Prop
 | .b,d,v=>kr K B G' H' v d
 | .v,d,v=>Rp K G' v d
 | .w,d,v=>∃a,v=.ref a/\H a=none/\G' a=none/\Own K G' H' a d
def pT (Γ:Fx)(E:XK)(f:VF D)(L:List Nat)(md:Md):TE:=λσ H Q=>∃env G B β,SR Γ B G H σ env β/\
 Out Γ E (f (vl env) β) λd β'=>∀v G' H',SR Γ B G' H' σ (a7 L env) β'->ar G G'->gM B H H'->VO Γ.K B H G' H' md d v->Q v H'
def SE (X:Cx)(Γ:Fx)(E:XK)(e:Expr)(f:VF D)(L:List Nat)(md:Md):Prop:=PE X e (pT Γ E f L md)
def qT (Γ:Fx)(E:XK)(f:VF Bool)(L:List Nat):TT:=λσ H Q=>∃env G B β,SR Γ B G H σ env β/\
 Out Γ E (f (vl env) β) λc β'=>∀G' H',SR Γ B G' H' σ (a7 L env) β'->ar G G'->gM B H H'->Q c H'
def yz (X:Cx)(Γ:Fx)(E:XK)(e:Expr)(f:VF Bool)(L:List Nat):Prop:=PT X e (qT Γ E f L)
def sU (X:Cx)(Γ:Fx)(E:XK)(e:Expr)(f:VF Bool)(L:List Nat):Prop:=PW X e (qT Γ E f L)
def aT (Γ:Fx)(E:XK)(f:VF (List D))(L:List Nat):TA:=λσ H Q=>∃env G B β,SR Γ B G H σ env β/\
 Out Γ E (f (vl env) β) λds β'=>∀vs G' H',SR Γ B G' H' σ (a7 L env) β'->ar G G'->gM B H H'->cm Γ.K G' vs ds->Q vs H'
def SA (X:Cx)(Γ:Fx)(E:XK)(es:List Expr)(f:VF (List D))(L:List Nat):Prop:=PA X es (aT Γ E f L)
def PE.post' {X:Cx}{e:Expr}{t u:TE}(h:PE X e t)(m:∀σ H Q,u σ H Q->t σ H Q):PE X e u:=λpins s σ H Q I q=>h pins s σ H Q I (m σ H Q q)
def PT.post {X:Cx}{e:Expr}{t u:TT}(h:PT X e t)(m:∀σ H Q,u σ H Q->t σ H Q):PT X e u:=λpins s σ H Q I q=>h pins s σ H Q I (m σ H Q q)
def PW.post {X:Cx}{e:Expr}{t u:TT}(h:PW X e t)(m:∀σ H Q,u σ H Q->t σ H Q):PW X e u:=λwh pins s σ H Q I q=>h wh pins s σ H Q I (m σ H Q q)
def PA.post {X:Cx}{es:List Expr}{t u:TA}(h:PA X es t)(m:∀σ H Q,u σ H Q->t σ H Q):PA X es u:=λpos pins s σ H Q I q=>h pos pins s σ H Q I (m σ H Q q)
def PS.post {X:Cx}{st:Stmt}{t u:TS}(h:PS X st t)(m:∀D σ H,u D σ H->t D σ H):PS X st u:=λpins s σ H D I q=>h pins s σ H D I (m D σ H q)
def dat:Option Nv->Option D
 |some (.da d)=>some d
 |_=>none
def gv (i:Nat):VF D:=λvs β=>R.of (dat vs[i]?) β
def cst (d:D):VF D:=λ_ β=>.ok d β
section
variable {X:Cx}{Γ:Fx}{E:XK}{e a b c:Expr}{f fa fb fc:VF D}{L La Lb Lc:List Nat}{md ma mb mc:Md}{pos:Pos}
theorem join_some {o:Option Nv}{d:D}(h:dat o=some d):o=some (.da d):=by
 cases o with
 |none=>cases h
 |some o=>cases o with
  |da x=>cases h;rfl
  |_=>cases h
def SR.letIn {B:Option Addr}{G H:Hp}{σ:St}{env:En}{β:Int}(I:SR Γ B G H σ env β){p:Addr}{d:D}(h0:Γ.H0 p=none)(hg:G p=none)(hb:B≠some p)(hn:∀(j:Nat) (d':D),env[j]? =some (.ow d')->σ[j]?≠some (some (.ref p)))(h:Own Γ.K G H p d) :
  ∃G',SR Γ B G' H σ env β/\ar G G'/\Rp Γ.K G' (.ref p) d:=by
 obtain⟨o,ho⟩:=h.obj
 have sG:ar G (upd G p o):=ar.new hg
 refine⟨upd G p o,⟨λb u q=>?_,I.old.trans sG,λb n1 n2=>?_,I.keep,I.pin,I.fix,λb q=>?_,I.len,λj s q=>?_,I.sep⟩,sG,h.rp hg sG λo' q=>by rw[ho] at q;cases q;exact aq⟩
 ·by_cases z:b=p
  ·subst z;rw[aq] at q;cases q;exact Kt.of ho
  ·rw[aw z] at q;exact I.sub b u q
 ·rw[aw (λz=>n1.1 (by rw[z];exact h0))];exact I.new b n1 n2
 ·obtain⟨k1,k2,k3⟩:=I.box b q
  exact⟨k1,by rw[aw (λz=>hb (by rw[<-z];exact q))];exact k2,k3⟩
 ·have w:=I.slot j s q
  cases s with
  |no=>trivial
  |fz d'=>obtain⟨v,w1,w2⟩:=w;exact⟨v,w1,w2.mono sG⟩
  |ow d'=>
   obtain⟨c,w1,w2,w3,w4,w5⟩:=w
   have ca:c≠p:=λz2=>hn j d' q (by rw[<-z2];exact w1)
   exact⟨c,w1,w2,by rw[aw ca];exact w3,w4,w5.mono sG λo q=>Kt.of q⟩
  |bx=>exact w
  |br d'=>obtain⟨b1,c,w1,w4,wp,w5⟩:=w;exact⟨b1,c,w1,w4,wp,w5.mono sG λo q=>Kt.of q⟩
def wB {env:En}{i j:Nat}{d:D}(h:(iR env i)[j]? =some (.ow d)):env[j]? =some (.ow d):=by
 unfold iR at h
 split at h
 ·rename_i d' e
  by_cases z:i=j
  ·subst z
   rw[Jq (Jw.mp e).1] at h;cases h
  ·rw[Js z] at h;exact h
 ·exact h
theorem qY {L:List Nat}{env:En}{j:Nat}{d:D}(h:(a7 L env)[j]? =some (.ow d)):env[j]? =some (.ow d):=by
 unfold a7 at h
 induction L generalizing env with
 |nil=>exact h
 |cons i L ih=>exact wB (ih h)
def SR.letW {B:Option Addr}{G H G' H':Hp}{σ:St}{env:En}{β β':Int}{L:List Nat}{d:D}{v:V}(I:SR Γ B G H σ env β)(I':SR Γ B G' H' σ (L2.a7 L env) β')(h:VO Γ.K B H G' H' .w d v):∃G2,SR Γ B G2 H' σ (L2.a7 L env) β'/\ar G' G2/\Rp Γ.K G2 v d:=by
 obtain⟨p,rfl,h1,h2,h3⟩:=h
 obtain⟨q1,q2,q3,q4⟩:=I.fresh h1
 exact I'.letIn q1 h2 q3 (λj d' e=>q4 j d' (qY e)) h3
def SE.wv (h:SE X Γ E e f L .w):SE X Γ E e f L .v:=by
 refine PE.post' h λσ H Q ⟨env,G,B,β,I,o⟩=>⟨env,G,B,β,I,o.imp λd β' k v G' H' I' s m vo=>?_⟩
 obtain⟨G2,I2,s2,r⟩:=I.letW I' vo
 exact k v G2 H' I2 (s.trans s2) m r
theorem VO.brw {B:Option Addr}{H G' H':Hp}{d:D}{v:V}{K:Frag}(h:VO K B H G' H' md d v)(hB:∀x,B=some x->H x≠none):kr K B G' H' v d:=by
 cases md with
 |b=>exact h
 |v=>exact .inl h
 |w=>
  obtain⟨p,rfl,h1,h2,h3⟩:=h
  exact .inr ⟨p,rfl,λz=>hB p z h1,h3⟩
def SR.boxThere {B:Option Addr}{G H:Hp}{σ:St}{env:En}{β:Int}(I:SR Γ B G H σ env β):∀x,B=some x->H x≠none:=λx e=>by rw[(I.box x e).1];simp
def av (i:Nat){x:Str}(hN:X.N[i]? =some x:=by rfl)(hv:uf X.env.scope x:=by first |exact Or.inl rfl |exact Or.inr (Or.inl rfl) |exact Or.inr (Or.inr rfl))(hd:(x == ("__debug__":Str))=false:=by decide)
  (hcd:(x == ("__classdict__":Str))=false:=by decide):SE X Γ E (.Name x pos) (gv i) [] .b:=by
 refine PE.post' (gC hN hv hd hcd) λσ H Q ⟨env,G,B,β,I,o⟩=>?_
 obtain⟨d,e,k⟩:=o.of
 have e:=join_some e
 rcases CF e with q |q |q
 ·obtain⟨v,h1,h2⟩:=I.slot i _ q
  exact⟨v,h1,k v G H I (ar.refl _) (gM.refl _ _) (.inl h2)⟩
 ·obtain⟨p,h1,h2,h3,h4,h5⟩:=I.slot i _ q
  exact⟨.ref p,h1,k _ G H I (ar.refl _) (gM.refl _ _) (.inr ⟨p,rfl,h4,h5⟩)⟩
 ·obtain⟨_,p,h1,h4,_,h5⟩:=I.slot i _ q
  exact⟨.ref p,h1,k _ G H I (ar.refl _) (gM.refl _ _) (.inr ⟨p,rfl,h4,h5⟩)⟩
def ak (i:Nat)(hb:Γ.br i=false){x:Str}(hN:X.N[i]? =some x:=by rfl)(hv:uf X.env.scope x:=by first |exact Or.inl rfl |exact Or.inr (Or.inl rfl) |exact Or.inr (Or.inr rfl))(hd:(x == ("__debug__":Str))=false:=by decide)
  (hcd:(x == ("__classdict__":Str))=false:=by decide):SE X Γ E (.Name x pos) (gv i) [i] .v:=by
 refine PE.post' (gC hN hv hd hcd) λσ H Q ⟨env,G,B,β,I,o⟩=>?_
 obtain⟨d,e,k⟩:=o.of
 obtain⟨G',v,I',s,h1,h2⟩:=I.freeze i hb (join_some e)
 exact⟨v,h1,k v G' H I' s (gM.refl _ _) h2⟩
def yX {v:V}{d:D}(h:PE X e (tC v))(r:∀G,Rp Γ.K G v d):SE X Γ E e (cst d) [] .v:=by
 refine PE.post' h λσ H Q ⟨env,G,B,β,I,o⟩=>?_
 exact o v G H I (ar.refl _) (gM.refl _ _) (r G)
def ao {i:Int}{j}:SE X Γ E (.Constant (.int i) j pos) (cst (.int i)) [] .v:=yX lI λ_=>.int i
def eh {i:Bool}{j}:SE X Γ E (.Constant (.bool i) j pos) (cst (.bool i)) [] .v:=yX tO λ_=>.bl i
def uN {j}:SE X Γ E (.Constant .none j pos) (cst .none) [] .v:=yX C4 λ_=>.non
def jw {x:Str}{j}:SE X Γ E (.Constant (.str x) j pos) (cst (.str x)) [] .v:=yX zh λ_=>.str x
def vW {x:Str}{i:Int}{t:Tok}(hg:Gl X x)(hm:X.mg x=some (.int i t))(hd:(x == ("__debug__":Str))=false:=by decide):SE X Γ E (.Name x pos) (cst (.int i)) [] .v:=yX (bV hg hm (show RelV (.int i) _ from⟨_,rfl⟩) hd) λ_=>.int i
def two {W:V->V->Hp->Prop}{B:Option Addr}{G H:Hp}{σ:St}{env:En}{β:Int}(I:SR Γ B G H σ env β)
  (h:Out Γ E (fa (vl env) β) λd1 β1=>Out Γ E (fb (vl env) β1) λd2 β2=>∀x y G2 H2,SR Γ B G2 H2 σ (a7 (La ++ Lb) env) β2->ar G G2->gM B H H2->kr Γ.K B G2 H2 x d1->kr Γ.K B G2 H2 y d2->W x y H2) :
  pT Γ E fa La ma σ H λx H1=>pT Γ E fb Lb mb σ H1 λy H2=>W x y H2:=by
 refine⟨env,G,B,β,I,h.imp λd1 β1 h x G1 H1 I1 s1 m1 vx=>⟨a7 La env,G1,B,β1,I1,?_⟩⟩
 rw[eS]
 refine h.imp λd2 β2 k y G2 H2 I2 s2 m2 vy=>?_
 refine k x y G2 H2 (by rw[cv];exact I2) (s1.trans s2) (m1.trans m2) ((vx.brw I.boxThere).mono s2 m2) (vy.brw I1.boxThere)
def mj (K:Frag)(r:R2)(g:D->D->Option D)(md:Md):Prop:=∀(B:Option Addr) (G H:Hp) (x y:V) (dx dy d:D) (Q:VK),ar G H->(∀x,B=some x->H x≠none)->kr K B G H x dx->kr K B G H y dy->g dx dy=some d->
 (∀v G' H',Ext G H G' H'->VO K B H G' H' md d v->Q v H')->r x y H Q
def f2 (fa fb:VF D)(g:D->D->Option D):VF D:=λvs β=>(fa vs β).bnd λx β1=>(fb vs β1).bnd λy β2=>R.of (g x y) β2
theorem gr {B:Option Addr}{H H2:Hp}(m:gM B H H2)(hB:∀x,B=some x->H2 x≠none){p:Addr}(h:H2 p=none):H p=none:=by
 cases e:H p with
 |none=>rfl
 |some o=>obtain⟨u,eu,_⟩:=(m.1 p o e λz=>hB p z h).some;rw[eu] at h;cases h
theorem VO.back {K:Frag}{B:Option Addr}{H H2 G' H':Hp}{d:D}{v:V}(h:VO K B H2 G' H' md d v)(m:gM B H H2)(hB:∀x,B=some x->H2 x≠none):VO K B H G' H' md d v:=by
 cases md with
 |b=>exact h
 |v=>exact h
 |w=>obtain⟨p,e,h1,h2,h3⟩:=h;exact⟨p,e,gr m hB h1,h2,h3⟩
def lD {r:R2}{g:D->D->Option D}{Q:VK}(pr:mj Γ.K r g md){B:Option Addr}{G H:Hp}{σ:St}{env:En}{β:Int}(I:SR Γ B G H σ env β)
  (h:Out Γ E (f2 fa fb g (vl env) β) λd β'=>∀v G' H',SR Γ B G' H' σ (a7 (La ++ Lb) env) β'->ar G G'->gM B H H'->VO Γ.K B H G' H' md d v->Q v H') :
  pT Γ E fa La ma σ H λx H1=>pT Γ E fb Lb mb σ H1 λy H2=>r x y H2 Q:=by
 refine two I (h.bnd.imp λd1 β1 h=>h.bnd.imp λd2 β2 h x y G2 H2 I2 s2 m2 bx by'=>?_)
 obtain⟨d,e,k⟩:=h.of
 refine pr B G2 H2 x y d1 d2 d Q I2.sub I2.boxThere bx by' e λv G' H' x' vo=>?_
 exact k v G' H' (I2.ext x') (s2.trans x'.gg) (m2.trans (x'.hh.mov B)) (vo.back m2 I2.boxThere)
def cc {op:Operator}{r:R2}{g:D->D->Option D}(ho:kN X (binaryOp op) r)(pr:mj Γ.K r g md)(ha:SE X Γ E a fa La ma)(hb:SE X Γ E b fb Lb mb):SE X Γ E (.BinOp a op b pos) (f2 fa fb g) (La ++ Lb) md:=
 PE.post' (lj ho ha hb) λσ H Q ⟨env,G,B,β,I,o⟩=>lD pr I o
def kP {op:CmpOp}{r:R2}{g:D->D->Option D}(ho:kN X (compareOp op) r)(pr:mj Γ.K r g md)(ha:SE X Γ E a fa La ma)(hb:SE X Γ E b fb Lb mb)(hm:behindInMarks op b=false):SE X Γ E (.Compare a [op] [b] pos) (f2 fa fb g) (La ++ Lb) md:=
 PE.post' (qv ho ha hb hm) λσ H Q ⟨env,G,B,β,I,o⟩=>lD pr I o
def cI {r:R2}{g:D->D->Option D}(hr:zT X r)(pr:mj Γ.K r g md)(ha:SE X Γ E a fa La ma)(hb:SE X Γ E b fb Lb mb)(hs:v7 b):SE X Γ E (.Subscript a b pos) (f2 fa fb g) (La ++ Lb) md:=
 PE.post' (ki hr ha hb hs) λσ H Q ⟨env,G,B,β,I,o⟩=>lD pr I o
def AX (K:Frag)(r:V->Hp->VK->Prop)(g:D->Option D)(md:Md):Prop:=∀(B:Option Addr) (G H:Hp) (x:V) (dx d:D) (Q:VK),ar G H->(∀x,B=some x->H x≠none)->kr K B G H x dx->g dx=some d->
 (∀v G' H',Ext G H G' H'->VO K B H G' H' md d v->Q v H')->r x H Q
def f1 (fa:VF D)(g:D->Option D):VF D:=λvs β=>(fa vs β).bnd λx β1=>R.of (g x) β1
def gS {r:V->Hp->VK->Prop}{g:D->Option D}{Q:VK}(pr:AX Γ.K r g md){B:Option Addr}{G H:Hp}{σ:St}{env:En}{β:Int}(I:SR Γ B G H σ env β)
  (h:Out Γ E (f1 fa g (vl env) β) λd β'=>∀v G' H',SR Γ B G' H' σ (a7 La env) β'->ar G G'->gM B H H'->VO Γ.K B H G' H' md d v->Q v H') :
  pT Γ E fa La ma σ H λx H1=>r x H1 Q:=by
 refine⟨env,G,B,β,I,h.bnd.imp λd1 β1 h x G1 H1 I1 s1 m1 vx=>?_⟩
 obtain⟨d,e,k⟩:=h.of
 refine pr B G1 H1 x d1 d Q I1.sub I1.boxThere (vx.brw I.boxThere) e λv G' H' x' vo=>?_
 exact k v G' H' (I1.ext x') (s1.trans x'.gg) (m1.trans (x'.hh.mov B)) (vo.back m1 I1.boxThere)
def CQ {op:UnaryOp}{r:V->Hp->VK->Prop}{g:D->Option D}(ho:GR X (unaryOp op) r)(pr:AX Γ.K r g md)(ha:SE X Γ E a fa La ma):SE X Γ E (.UnaryOp op a pos) (f1 fa g) La md:=
 PE.post' (FG ho ha) λσ H Q ⟨env,G,B,β,I,o⟩=>gS pr I o
def bQ {id:String}{r:List V->Hp->VK->Prop}{g:D->Option D}{x:Str}{p:Pos}(hc:cZ X (.builtin id) r)(pr:AX Γ.K (λx=>r [x]) g md)(hg:Gl X x)(hm:X.mg x=none)(hv:bootBuiltins x=some (.builtin id))(ha:SE X Γ E a fa La ma)(hn:x≠"__name__":=by decide)(hdb:(x == ("__debug__":Str))=false:=by decide)
  (he:starEach [a] X.env=(false,eval a X.env) :: starEach [] X.env:=by rfl):SE X Γ E (.Call (.Name x p) [a] [] pos) (f1 fa g) La md:=
 PE.post' (aY hc hg hm hv (aj ha aI he) hn hdb he) λσ H Q ⟨env,G,B,β,I,o⟩=>gS (r:=λx=>r [x]) pr I o
def jH {id:String}{r:List V->Hp->VK->Prop}{g:D->Option D}{x:Str}{p:Pos}(hc:cZ X (.type id) r)(pr:AX Γ.K (λx=>r [x]) g md)(hg:Gl X x)(hm:X.mg x=none)(hv:bootBuiltins x=some (.type id))(ha:SE X Γ E a fa La ma)(hn:x≠"__name__":=by decide)(hdb:(x == ("__debug__":Str))=false:=by decide)
  (he:starEach [a] X.env=(false,eval a X.env) :: starEach [] X.env:=by rfl):SE X Γ E (.Call (.Name x p) [a] [] pos) (f1 fa g) La md:=
 PE.post' (ei hc hg hm hv (aj ha aI he) hn hdb he) λσ H Q ⟨env,G,B,β,I,o⟩=>gS (r:=λx=>r [x]) pr I o
def sh {id:String}{r:List V->Hp->VK->Prop}{g:D->D->Option D}{x:Str}{p:Pos}(hc:cZ X (.builtin id) r)(pr:mj Γ.K (λx y=>r [x,y]) g md)(hg:Gl X x)(hm:X.mg x=none)(hv:bootBuiltins x=some (.builtin id))(ha:SE X Γ E a fa La ma)(hb:SE X Γ E b fb Lb mb)(hn:x≠"__name__":=by decide)(hdb:(x == ("__debug__":Str))=false:=by decide)
  (he:starEach [a,b] X.env=(false,eval a X.env) :: starEach [b] X.env:=by rfl) (he2:starEach [b] X.env=(false,eval b X.env) :: starEach [] X.env:=by rfl) (hpl:(backTo pos (starEach [b] X.env)).any (·.1)=false:=by rfl):SE X Γ E (.Call (.Name x p) [a,b] [] pos) (f2 fa fb g) (La ++ Lb) md:=
 PE.post' (aY hc hg hm hv (aj ha (aj hb aI he2) he) hn hdb he hpl) λσ H Q ⟨env,G,B,β,I,o⟩=>lD (r:=λx y=>r [x,y]) pr I o
def gP (fa fb:VF D):VF D:=λvs β=>(fa vs β).bnd λx β1=>match x with
 | .bool true=>fb vs β1
 | .bool false=>.ok (.bool false) β1
 |_=>.bad
def ky {op}(h:SE X Γ E a fa La md):SE X Γ E (.BoolOp op [a] pos) fa La md:=D1 h
theorem kG {rest:List Expr}(ha:SE X Γ E a fa La ma)(hb:SE X Γ E (.BoolOp .And (b :: rest) pos) fb Lb .v)(hbr:∀i,i∈Lb->Γ.br i=false):SE X Γ E (.BoolOp .And (a :: b :: rest) pos) (gP fa fb) (La ++ Lb) .v:=by
 refine PE.post' (Dv ha hb) λσ H Q ⟨env,G,B,β,I,o⟩=>?_
 refine⟨env,G,B,β,I,o.bnd.imp λd1 β1 h x G1 H1 I1 s1 m1 vx=>?_⟩
 have bx:=vx.brw I.boxThere
 cases d1 with
 |bool c=>
  obtain rfl:=bx.bool
  refine⟨c,rfl,?_⟩
  cases c with
  |true=>exact ub ⟨_,G1,B,β1,I1,by rw[eS];exact h.imp λd β' k v G' H' I' s' m' vo=>k v G' H' (by rw[cv];exact I') (s1.trans s') (m1.trans m') vo⟩
  |false=>
   obtain⟨G2,I2,s2⟩:=I1.a7 Lb hbr
   exact oW (h _ G2 H1 (by rw[cv];exact I2) (s1.trans s2) m1 (.bl false))
 |_=>exact h.elim
def AB:D->Option D
 | .bool c=>some (.bool (!c))
 |_=>none
theorem Av (ha:SE X Γ E a fa La ma):SE X Γ E (.UnaryOp .Not a pos) (f1 fa AB) La .v:=by
 refine PE.post' (El ha) λσ H Q ⟨env,G,B,β,I,o⟩=>?_
 refine gS (r:=λx H1 Q=>∃c,x=.bl c/\Q (.bl (!c)) H1) ?_ I o
 intro B G H x dx d Q s hB bx e k
 cases dx with
 |bool c=>
  obtain rfl:=bx.bool
  cases e
  exact⟨c,rfl,k _ G H (Ext.refl s) (.bl _)⟩
 |_=>cases e
def Ea:D->Option Bool
 | .none=>some false
 | .bool b=>some b
 | .int i=>some (i != 0)
 | .str y=>if y.length<=sizeLine then some ((y.length:Int) != 0) else none
 | .list ds=>some (!ds.isEmpty)
 | .tuple ds=>some (!ds.isEmpty)
 | .dict _=>none
def mZ (fa:VF D):VF Bool:=λvs β=>(fa vs β).bnd λx β1=>R.of (Ea x) β1
def l9 {K:Frag}{G:Hp}{xs:List V}{ds:List D}(r:cm K G xs ds):(!ds.isEmpty)= !xs.isEmpty:=by cases r <;> rfl
theorem dO (hK:X.K=Γ.K)(ha:SE X Γ E a fa La ma)(he:∀whole,isTrue a X.env whole=(do let v <-whole;standAt a.pos;holding [v] (truthy v)):=by intro _;rfl):yz X Γ E a (mZ fa) La:=by
 refine PT.post (yG ha he) λσ H Q ⟨env,G,B,β,I,o⟩=>?_
 refine⟨env,G,B,β,I,o.bnd.imp λd1 β1 h x G1 H1 I1 s1 m1 vx=>?_⟩
 obtain⟨c,e,k⟩:=h.of
 have bx:=vx.brw I.boxThere
 refine⟨c,?_,k G1 H1 I1 s1 m1⟩
 rw[hK]
 cases d1 with
 |none=>obtain rfl:=bx.none;cases e;rfl
 |bool b=>obtain rfl:=bx.bool;cases e;rfl
 |int i=>obtain rfl:=bx.int;cases e;rfl
 |str y=>
  obtain rfl:=bx.str
  simp only[Ea] at e
  split at e
  ·cases e;exact⟨by assumption,rfl⟩
  ·cases e
 |list ds=>obtain⟨p,xs,rfl,hq,r⟩:=bx.list I1.sub;cases e;exact .inl ⟨xs,.inl hq,l9 r⟩
 |tuple ds=>obtain⟨p,xs,rfl,hq,r⟩:=bx.tuple I1.sub;cases e;exact .inr (.inl ⟨xs,hq,l9 r⟩)
 |dict ds=>cases e
def dY (fa:VF D):VF Bool:=λvs β=>(fa vs β).bnd λx β1=>match x with
 | .bool c=>.ok c β1
 |_=>.bad
theorem bw {op:CmpOp}{r:R2}{g:D->D->Option D}(ho:kN X (compareOp op) r)(pr:mj Γ.K r g .v)(ha:SE X Γ E a fa La ma)(hb:SE X Γ E b fb Lb mb)(hm:behindInMarks op b=false):yz X Γ E (.Compare a [op] [b] pos) (dY (f2 fa fb g)) (La ++ Lb):=by
 refine PT.post (A5 ho ha hb hm) λσ H Q ⟨env,G,B,β,I,o⟩=>?_
 refine lD pr I (o.bnd.imp λd β' h v G' H' I' s' m' vo=>?_)
 cases d with
 |bool c=>cases vo;exact⟨c,rfl,h G' H' I' s' m'⟩
 |_=>exact h.elim
def sF (t:VF Bool):VF Bool:=λvs β=>(t vs β).bnd λc β1=>.ok (!c) β1
def uQ (t u:VF Bool):VF Bool:=λvs β=>(t vs β).bnd λc β1=>if c=true then u vs β1 else .ok false β1
def o4 (t u:VF Bool):VF Bool:=λvs β=>(t vs β).bnd λc β1=>if c=true then .ok true β1 else u vs β1
variable {ta tb tc:VF Bool}
def fK (ha:yz X Γ E a ta La):yz X Γ E (.UnaryOp .Not a pos) (sF ta) La:=by
 refine PT.post (vp ha) λσ H Q ⟨env,G,B,β,I,o⟩=>?_
 exact⟨env,G,B,β,I,o.bnd.imp λc β1 h=>h⟩
def sU.t (h:sU X Γ E e ta La):yz X Γ E e ta La:=PW.pt h
def ng (ha:yz X Γ E a ta La):sU X Γ E (.BoolOp .And [a] pos) ta La:=wy ha
def nu (ha:yz X Γ E a ta La):sU X Γ E (.BoolOp .Or [a] pos) ta La:=z7 ha
theorem qG {rest:List Expr}(ha:yz X Γ E a ta La)(hb:sU X Γ E (.BoolOp .And (b :: rest) pos) tb Lb)(hbr:∀i,i∈Lb->Γ.br i=false):sU X Γ E (.BoolOp .And (a :: b :: rest) pos) (uQ ta tb) (La ++ Lb):=by
 refine PW.post (Ae ha hb) λσ H Q ⟨env,G,B,β,I,o⟩=>?_
 refine⟨env,G,B,β,I,o.bnd.imp λc β1 h G1 H1 I1 s1 m1=>?_⟩
 cases c with
 |true=>exact ub ⟨_,G1,B,β1,I1,by rw[eS];exact Out.imp h λd β' k G' H' I' s' m'=>k G' H' (by rw[cv];exact I') (s1.trans s') (m1.trans m')⟩
 |false=>
  obtain⟨G2,I2,s2⟩:=I1.a7 Lb hbr
  exact oW (h G2 H1 (by rw[cv];exact I2) (s1.trans s2) m1)
theorem tQ {rest:List Expr}(ha:yz X Γ E a ta La)(hb:sU X Γ E (.BoolOp .Or (b :: rest) pos) tb Lb)(hbr:∀i,i∈Lb->Γ.br i=false):sU X Γ E (.BoolOp .Or (a :: b :: rest) pos) (o4 ta tb) (La ++ Lb):=by
 refine PW.post (CH ha hb) λσ H Q ⟨env,G,B,β,I,o⟩=>?_
 refine⟨env,G,B,β,I,o.bnd.imp λc β1 h G1 H1 I1 s1 m1=>?_⟩
 cases c with
 |true=>
  obtain⟨G2,I2,s2⟩:=I1.a7 Lb hbr
  exact ub (h G2 H1 (by rw[cv];exact I2) (s1.trans s2) m1)
 |false=>exact oW ⟨_,G1,B,β1,I1,by rw[eS];exact Out.imp h λd β' k G' H' I' s' m'=>k G' H' (by rw[cv];exact I') (s1.trans s') (m1.trans m')⟩
def Jg (t:VF Bool)(fa fb:VF D):VF D:=λvs β=>(t vs β).bnd λc β1=>if c=true then fa vs β1 else fb vs β1
def ag:VF (List D):=λ_ β=>.ok [] β
def ae (fa:VF D)(fr:VF (List D)):VF (List D):=λvs β=>(fa vs β).bnd λx β1=>(fr vs β1).bnd λxs β2=>.ok (x :: xs) β2
variable {fr:VF (List D)}{es:List Expr}
def ah:SA X Γ E [] ag []:=PA.post aI λσ H Q ⟨env,G,B,β,I,o⟩=>o [] G H I (ar.refl _) (gM.refl _ _) .nil
def af (ha:SE X Γ E a fa La .v)(hr:SA X Γ E es fr Lb)(hs:starEach (a :: es) X.env=(false,eval a X.env) :: starEach es X.env:=by rfl):SA X Γ E (a :: es) (ae fa fr) (La ++ Lb):=by
 refine PA.post (aj ha hr hs) λσ H Q ⟨env,G,B,β,I,o⟩=>?_
 refine⟨env,G,B,β,I,o.bnd.imp λd1 β1 h x G1 H1 I1 s1 m1 vx=>⟨a7 La env,G1,B,β1,I1,?_⟩⟩
 rw[eS]
 refine h.bnd.imp λds β2 k xs G2 H2 I2 s2 m2 r=>?_
 exact k (x :: xs) G2 H2 (by rw[cv];exact I2) (s1.trans s2) (m1.trans m2) (.cons (vx.mono s2) r)
def aL (fr:VF (List D)):VF D:=λvs β=>(fr vs β).bnd λds β1=>if ds.length<=sizeLine then .ok (.tuple ds) β1 else .bad
def bz (fr:VF (List D)):VF D:=λvs β=>(fr vs β).bnd λds β1=>if ds.length<=sizeLine then .ok (.list ds) β1 else .bad
def cQ {x1}(h:SA X Γ E es fr L):SE X Γ E (.Tuple es x1 pos) (aL fr) L .v:=by
 refine PE.post' (ui h) λσ H Q ⟨env,G,B,β,I,o⟩=>?_
 refine⟨env,G,B,β,I,o.bnd.imp λds β1 k xs G1 H1 I1 s1 m1 r=>?_⟩
 by_cases hz:ds.length<=sizeLine
 ·rw[Jk hz] at k
  refine⟨by rw[r.len];exact hz,λp hp=>?_⟩
  have x:=Ext.new I1.sub (o:=.tup xs) hp
  exact k _ _ _ (I1.ext x) (s1.trans x.gg) (m1.trans (x.hh.mov B)) (.tup (.inl (.inl aq)) (r.mono x.gg))
 ·rw[Ju hz] at k;exact k.elim
def bE (h:SA X Γ E es fr L):SE X Γ E (.List es pos) (bz fr) L .w:=by
 refine PE.post' (lS h) λσ H Q ⟨env,G,B,β,I,o⟩=>?_
 refine⟨env,G,B,β,I,o.bnd.imp λds β1 k xs G1 H1 I1 s1 m1 r=>?_⟩
 by_cases hz:ds.length<=sizeLine
 ·rw[Jk hz] at k
  refine⟨by rw[r.len];exact hz,λp hp=>?_⟩
  have x:=Ext.own I1.sub (o:=.lst xs) hp
  exact k _ _ _ (I1.ext x) s1 (m1.trans (x.hh.mov B)) ⟨p,rfl,gr m1 I1.boxThere hp,I1.sub.free hp,xs,aq,r⟩
 ·rw[Ju hz] at k;exact k.elim
inductive FR where
 |ok (d:D) (fresh:Bool)
 |exc (c:Str)
 |bad
def FV (K:Frag)(H G' H':Hp)(fr:Bool)(d:D)(v:V):Prop:=if fr=true then ∃a,v=.ref a/\H a=none/\G' a=none/\Own K G' H' a d else Rp K G' v d
def AH (K:Frag)(ca:Str->Addr)(n:Nat)(F:List D->FR):Sp:=λvs H Q E=>∃G ds,ar G H/\ds.length=n/\cm K G vs ds/\match F ds with
 | .ok d fr=>∀v G' H',ar H H'->ar G G'->ar G' H'->(∀b,Mx H b->G b=none->G' b=none)->FV K H G' H' fr d v->Q v H'
 | .exc c=>∀H',ar H H'->E (.ref (ca c)) none H'
 | .bad=>False
structure cn (P:Program)(w:World)(K:Frag)(mg:Str->Option Value)(base:Heap)(ca:Str->Addr)(x:Str)(ps:List Str)(k:Nat)(F:List D->FR):Prop where
 ex:∃f fd,mg x=some (.ref f)/\PySem.W.keepIn K (.ref f)=true/\Binds K fd ps []/\fF P w K mg base (kU P w) k f fd ps (AH K ca ps.length F)
 len:∀ds,F ds≠.bad->ds.length=ps.length
def aA (F:List D->FR)(fr:VF (List D)):VF D:=λvs β=>(fr vs β).bnd λds β1=>match F ds with
 | .ok d _=>.ok d β1
 | .exc c=>.exc c
 | .bad=>.bad
def su (F:List D->FR)(fr:VF (List D)):VF D:=λvs β=>(fr vs β).bnd λds β1=>match F ds with
 | .ok d true=>.ok d β1
 | .ok _ false=>.bad
 | .exc c=>.exc c
 | .bad=>.bad
def SR.called {B:Option Addr}{G1 H1 G2 H2:Hp}{σ:St}{env:En}{β:Int}(I1:SR Γ B G1 H1 σ env β)(h:ar H1 H2)(g:ar G1 G2)(s:ar G2 H2)(n:∀b,Mx H1 b->G1 b=none->G2 b=none):SR Γ B G2 H2 σ env β/\gM B H1 H2:=by
 refine⟨⟨s,I1.old.trans g,λb n1 n2=>?_,λb o e np=>(I1.keep b o e np).step h,λb hb=>?_,I1.fix,λb e=>?_,I1.len,λi t e=>?_,I1.sep⟩,h.mov B⟩
 ·exact n b (I1.thereM n1) (I1.new b n1 n2)
 ·exact (I1.pin b hb).same λo e=>h b o e
 ·obtain⟨h1,h2,h3⟩:=I1.box b e
  exact⟨h b _ h1,n b (Mx.lst h1) h2,h3⟩
 ·have q:=I1.slot i t e
  cases t with
  |no=>trivial
  |fz d=>obtain⟨v,h1,h2⟩:=q;exact⟨v,h1,h2.mono g⟩
  |ow d=>
   obtain⟨p,h1,h2,h3,h4,h5⟩:=q
   exact⟨p,h1,h2,n p h5.mx h3,h4,h5.mono g λo q=>h p o q⟩
  |bx=>exact q
  |br d=>obtain⟨b1,p,h1,h4,hp,h5⟩:=q;exact⟨b1,p,h1,h4,hp,h5.mono g λo q=>h p o q⟩
def SR.kp {B:Option Addr}{G H H':Hp}{σ:St}{env:En}{β:Int}(I:SR Γ B G H σ env β)(h:ar H H'):Kp Γ H':=λb o e n=>(I.keep b o e n).step h
theorem pS {F:List D->FR}{ps:List Str}{Q:VK}{B:Option Addr}{G H:Hp}{σ:St}{env:En}{β:Int}(I:SR Γ B G H σ env β)(hK:X.K=Γ.K){wv:Bool}
  (h:Out Γ E (if wv=true then su F fr (vl env) β else aA F fr (vl env) β) λd β'=>∀v G' H',SR Γ B G' H' σ (a7 L env) β'->ar G G'->gM B H H'->VO Γ.K B H G' H' (if wv=true then .w else .v) d v->Q v H') (hl:∀ds,F ds≠.bad->ds.length=ps.length) :
  aT Γ E fr L σ H λvs H1=>AH X.K Γ.ca ps.length F vs H1 Q E:=by
 refine⟨env,G,B,β,I,?_⟩
 have h:Out Γ E (fr (vl env) β) λds β1=>Out Γ E (match F ds with
   | .ok d true=>.ok d β1
   | .ok d false=>if wv=true then .bad else .ok d β1
   | .exc c=>.exc c
   | .bad=>.bad) λd β'=>∀v G' H',SR Γ B G' H' σ (a7 L env) β'->ar G G'->gM B H H'->VO Γ.K B H G' H' (if wv=true then .w else .v) d v->Q v H':=by
  cases wv with
  |true=>
   simp only[Km] at h ⊢
   refine h.bnd.imp λds β1 h=>?_
   cases q:F ds with
   |ok d b=>rw[q] at h;cases b <;> exact h
   |exc c=>rw[q] at h;exact h
   |bad=>rw[q] at h;exact h
  |false=>
   simp only[Kw,K1] at h ⊢
   refine h.bnd.imp λds β1 h=>?_
   cases q:F ds with
   |ok d b=>rw[q] at h;cases b <;> exact h
   |exc c=>rw[q] at h;exact h
   |bad=>rw[q] at h;exact h
 refine h.imp λds β1 k vs G1 H1 I1 s1 m1 r=>?_
 refine⟨G1,ds,I1.sub,?_,by rw[hK];exact r,?_⟩
 ·exact hl ds λz=>by rw[z] at k;exact k
 cases q:F ds with
 |bad=>rw[q] at k;exact k
 |exc c=>rw[q] at k;exact λH' s=>k H' (I1.kp s)
 |ok d b=>
  rw[q] at k
  intro v G' H' hh hg hs hn fv
  obtain⟨I2,m2⟩:=I1.called hh hg hs hn
  cases b with
  |true=>
   obtain⟨p,rfl,p1,p2,p3⟩:∃a,v=.ref a/\H1 a=none/\G' a=none/\Own X.K G' H' a d:=fv
   rw[hK] at p3
   have hp:=gr m1 I1.boxThere p1
   cases wv with
   |true=>exact k _ G' H' I2 (s1.trans hg) (m1.trans m2) ⟨p,rfl,hp,p2,p3⟩
   |false=>
    obtain⟨q1,q2,q3,q4⟩:=I1.fresh p1
    obtain⟨G3,I3,s3,r3⟩:=I2.letIn q1 p2 q3 q4 p3
    exact k _ G3 H' I3 ((s1.trans hg).trans s3) (m1.trans m2) r3
  |false=>
   cases wv with
   |true=>exact k.elim
   |false=>
    have fv:Rp X.K G' v d:=fv
    rw[hK] at fv
    exact k _ G' H' I2 (s1.trans hg) (m1.trans m2) fv
def ay {x:Str}{ps:List Str}{k:Nat}{F:List D->FR}{p:Pos}(hf:cn X.prog X.w X.K X.mg X.base Γ.ca x ps k F)(hr:dX k X.A)(hx:Passes (kU X.prog X.w) X E)(hK:X.K=Γ.K)(hg:Gl X x)(ha:SA X Γ E (a :: es) fr L)(hdb:(x == ("__debug__":Str))=false:=by decide)
  (he:starEach (a :: es) X.env=(false,eval a X.env) :: starEach es X.env:=by rfl) (hpl:(backTo pos (starEach es X.env)).any (·.1)=false:=by rfl):SE X Γ E (.Call (.Name x p) (a :: es) [] pos) (aA F fr) L .v:=by
 obtain⟨f,fd,hm,hk,hb,hF⟩:=hf.ex
 refine PE.post' (mS (dvs:=[]) hF hr hg hm hk hb .nil hx ha hdb he hpl) λσ H Q ⟨env,G,B,β,I,o⟩=>?_
 show aT Γ E fr L σ H λvs H1=>AH X.K Γ.ca ps.length F (vs ++ []) H1 Q E
 have:=pS (Q:=Q) (wv:=false) (ps:=ps) I hK o hf.len
 simpa using this
def y6 {x:Str}{ps:List Str}{k:Nat}{F:List D->FR}{p:Pos}(hf:cn X.prog X.w X.K X.mg X.base Γ.ca x ps k F)(hr:dX k X.A)(hx:Passes (kU X.prog X.w) X E)(hK:X.K=Γ.K)(hg:Gl X x)(ha:SA X Γ E (a :: es) fr L)(hdb:(x == ("__debug__":Str))=false:=by decide)
  (he:starEach (a :: es) X.env=(false,eval a X.env) :: starEach es X.env:=by rfl) (hpl:(backTo pos (starEach es X.env)).any (·.1)=false:=by rfl):SE X Γ E (.Call (.Name x p) (a :: es) [] pos) (su F fr) L .w:=by
 obtain⟨f,fd,hm,hk,hb,hF⟩:=hf.ex
 refine PE.post' (mS (dvs:=[]) hF hr hg hm hk hb .nil hx ha hdb he hpl) λσ H Q ⟨env,G,B,β,I,o⟩=>?_
 show aT Γ E fr L σ H λvs H1=>AH X.K Γ.ca ps.length F (vs ++ []) H1 Q E
 have:=pS (Q:=Q) (wv:=true) (ps:=ps) I hK o hf.len
 simpa using this
end
inductive SO where
 |nx (env:En) (β:Int)
 |bk (env:En) (β:Int)
 |ct (env:En) (β:Int)
 |rt (d:D) (fr:Bool) (β:Int)
 |exc (c:Str)
 |bad
abbrev SF:=En->Int->SO
def RV (Γ:Fx)(G' H':Hp)(fr:Bool)(d:D)(v:V):Prop:=if fr=true then ∃a,v=.ref a/\Γ.H0 a=none/\G' a=none/\Own Γ.K G' H' a d else Rp Γ.K G' v d
def o9 (Γ:Fx)(E:XK)(G:Hp)(N:Ends):SO->Prop
 | .nx env β=>∀B G' H' σ,SR Γ B G' H' σ env β->ar G G'->N.nx σ H'
 | .bk env β=>∀B G' H' σ,SR Γ B G' H' σ env β->ar G G'->N.bk σ H'
 | .ct env β=>∀B G' H' σ,SR Γ B G' H' σ env β->ar G G'->N.ct σ H'
 | .rt d fr β=>∀B G' H' σ env v,SR Γ B G' H' σ env β->ar G G'->RV Γ G' H' fr d v->N.rt v H'
 | .exc c=>∀H',Kp Γ H'->E (.ref (Γ.ca c)) none H'
 | .bad=>False
def sT (Γ:Fx)(E:XK)(m:SF):TS:=λN σ H=>∃env G B β,SR Γ B G H σ env β/\o9 Γ E G N (m env β)
def SS (X:Cx)(Γ:Fx)(E:XK)(st:Stmt)(m:SF):Prop:=PS X st (sT Γ E m)
def xj (X:Cx)(Γ:Fx)(E:XK)(st:List Stmt)(m:SF):Prop:=me X st (sT Γ E m)
def me.post {X:Cx}{st:List Stmt}{t u:TS}(h:me X st t)(m:∀D σ H,u D σ H->t D σ H):me X st u:=λpins s σ H D I q=>h pins s σ H D I (m D σ H q)
def aP (m m':SF):SF:=λenv β=>match m env β with
 | .nx env' β'=>m' env' β'
 |r=>r
def kh:SF:=λenv β=>.nx env β
section
variable {X:Cx}{Γ:Fx}{E:XK}{e a b c:Expr}{f fa fb:VF D}{L La Lb:List Nat}{md ma mb:Md}{pos:Pos}{st:Stmt}{sts:List Stmt}{m m':SF}{ta:VF Bool}
theorem o9.weak {G G1:Hp}{N:Ends}{r:SO}(h:o9 Γ E G N r)(s:ar G G1):o9 Γ E G1 N r:=by
 cases r with
 |nx env β=>exact λB G' H' σ I s'=>h B G' H' σ I (s.trans s')
 |bk env β=>exact λB G' H' σ I s'=>h B G' H' σ I (s.trans s')
 |ct env β=>exact λB G' H' σ I s'=>h B G' H' σ I (s.trans s')
 |rt d fr β=>exact λB G' H' σ env v I s'=>h B G' H' σ env v I (s.trans s')
 |exc c=>exact h
 |bad=>exact h
def bJ:xj X Γ E [] kh:=me.post qB λN σ H ⟨env,G,B,β,I,o⟩=>o B G H σ I (ar.refl _)
theorem au (h:SS X Γ E st m)(h':xj X Γ E sts m'):xj X Γ E (st :: sts) (aP m m'):=by
 refine me.post (cR h h') λN σ H ⟨env,G,B,β,I,o⟩=>?_
 refine⟨env,G,B,β,I,?_⟩
 unfold aP at o
 cases q:m env β with
 |nx env' β'=>rw[q] at o;exact λB' G' H' σ' I' s'=>⟨env',G',B',β',I',o.weak s'⟩
 |bk env' β'=>rw[q] at o;exact o
 |ct env' β'=>rw[q] at o;exact o
 |rt d fr β'=>rw[q] at o;exact o
 |exc c=>rw[q] at o;exact o
 |bad=>rw[q] at o;exact o
def ax (h:SS X Γ E st m):xj X Γ E [st] m:=dk h
def toS {α:Type}(r:R α)(k:α->Int->SO):SO:=match r with
 | .ok x β=>k x β
 | .exc c=>.exc c
 | .bad=>.bad
theorem cf {α:Type}{G:Hp}{N:Ends}{r:R α}{k:α->Int->SO}{P:α->Int->Prop}(h:o9 Γ E G N (toS r k))(i:∀x β,o9 Γ E G N (k x β)->P x β):Out Γ E r P:=by
 cases r with
 |ok x β=>exact i x β h
 |exc c=>exact h
 |bad=>exact h
def SR.set' {B:Option Addr}{G H:Hp}{σ:St}{env:En}{β:Int}(I:SR Γ B G H σ env β)(i:Nat){v:V}{d:D}(h:Rp Γ.K G v d):SR Γ B G H (σ.set i (some v)) (env.set i (.fz d)) β:=by
 by_cases hi:i < env.length
 ·exact I.set hi h
 ·have h1:env.set i (.fz d)=env:=Kk (by omega)
  have h2:σ.set i (some v)=σ:=Kk (by rw[I.len];omega)
  rw[h1,h2];exact I
def SR.setOw' {B:Option Addr}{G H:Hp}{σ:St}{env:En}{β:Int}(I:SR Γ B G H σ env β)(i:Nat){a:Addr}{d:D}(h0:Γ.H0 a=none)(hg:G a=none)(hb:B≠some a)(h:Own Γ.K G H a d)(hn:∀(j:Nat) (d':D),env[j]? =some (.ow d')->σ[j]?≠some (some (.ref a))):SR Γ B G H (σ.set i (some (.ref a))) (env.set i (.ow d)) β:=by
 by_cases hi:i < env.length
 ·exact I.setOw hi h0 hg hb h λj d' e _=>hn j d' e
 ·have h1:env.set i (.ow d)=env:=Kk (by omega)
  have h2:σ.set i (some (.ref a))=σ:=Kk (by rw[I.len];omega)
  rw[h1,h2];exact I
def dv (i:Nat)(L:List Nat)(f:VF D):SF:=λenv β=>toS (f (vl env) β) λd β'=>.nx ((a7 L env).set i (.fz d)) β'
def cz {i:Nat}{x:Str}{pos':Pos}(he:SE X Γ E e f L .v)(hN:X.N.Nodup)(hi:X.N[i]? =some x:=by rfl)(hx:Loc X.env.scope x:=by first |exact Or.inl rfl |exact Or.inr rfl)(hs:swapsWith e (some (.Name x pos')) pos.line X.env=pure false:=by rfl)(hf:X.fn x=true\/X.env.scope.names.lookup x=some .local:=by first |exact .inl rfl |exact .inr rfl |assumption) :
  SS X Γ E (.Assign [.Name x pos'] e pos) (dv i L f):=by
 refine PS.post (jB hN hi hx he hs hf) λN σ H ⟨env,G,B,β,I,o⟩=>?_
 refine⟨env,G,B,β,I,cf o λd β' k v G' H' I' s' m' vo=>?_⟩
 exact k B G' H' _ (I'.set' i vo) s'
def qt (i:Nat)(L:List Nat)(f:VF D):SF:=λenv β=>toS (f (vl env) β) λd β'=>.nx ((a7 L env).set i (.ow d)) β'
def mQ {i:Nat}{x:Str}{pos':Pos}(he:SE X Γ E e f L .w)(hN:X.N.Nodup)(hi:X.N[i]? =some x:=by rfl)(hx:Loc X.env.scope x:=by first |exact Or.inl rfl |exact Or.inr rfl)(hs:swapsWith e (some (.Name x pos')) pos.line X.env=pure false:=by rfl)(hf:X.fn x=true\/X.env.scope.names.lookup x=some .local:=by first |exact .inl rfl |exact .inr rfl |assumption) :
  SS X Γ E (.Assign [.Name x pos'] e pos) (qt i L f):=by
 refine PS.post (jB hN hi hx he hs hf) λN σ H ⟨env,G,B,β,I,o⟩=>?_
 refine⟨env,G,B,β,I,cf o λd β' k v G' H' I' s' m' vo=>?_⟩
 obtain⟨p,rfl,h1,h2,h3⟩:=vo
 obtain⟨q1,q2,q3,q4⟩:=I.fresh h1
 exact k B G' H' _ (I'.setOw' i q1 h2 q3 h3 λj d' z=>q4 j d' (qY z)) s'
def bu (L:List Nat)(f:VF D):SF:=λenv β=>toS (f (vl env) β) λ_ β'=>.nx (a7 L env) β'
def bc (he:SE X Γ E e f L md)(hs:swapsWith e none pos.line X.env=pure false:=by rfl):SS X Γ E (.Expr e pos) (bu L f):=by
 refine PS.post (qQ he hs) λN σ H ⟨env,G,B,β,I,o⟩=>?_
 exact⟨env,G,B,β,I,cf o λd β' k v G' H' I' s' m' vo=>k B G' H' _ I' s'⟩
def cj (f:VF D):SF:=λenv β=>toS (f (vl env) β) λd β'=>.rt d false β'
def bh (he:SE X Γ E e f L .v):SS X Γ E (.Return (some e) pos) (cj f):=by
 refine PS.post (hX he) λN σ H ⟨env,G,B,β,I,o⟩=>?_
 exact⟨env,G,B,β,I,cf o λd β' k v G' H' I' s' m' vo=>k B G' H' σ _ v I' s' vo⟩
def p9 (f:VF D):SF:=λenv β=>toS (f (vl env) β) λd β'=>.rt d true β'
def mX (he:SE X Γ E e f L .w):SS X Γ E (.Return (some e) pos) (p9 f):=by
 refine PS.post (hX he) λN σ H ⟨env,G,B,β,I,o⟩=>?_
 refine⟨env,G,B,β,I,cf o λd β' k v G' H' I' s' m' vo=>?_⟩
 obtain⟨p,rfl,h1,h2,h3⟩:=vo
 obtain⟨q1,_⟩:=I.fresh h1
 exact k B G' H' σ _ _ I' s' ⟨p,rfl,q1,h2,h3⟩
def zJ (i:Nat):SF:=λenv β=>match env[i]? with
 |some (.fz d)=>.rt d false β
 |some (.ow d)=>.rt d true β
 |_=>.bad
theorem BG (i:Nat){x:Str}{p:Pos}(hN:X.N[i]? =some x:=by rfl)(hv:uf X.env.scope x:=by first |exact Or.inl rfl |exact Or.inr (Or.inl rfl) |exact Or.inr (Or.inr rfl))(hd:(x == ("__debug__":Str))=false:=by decide)
  (hcd:(x == ("__classdict__":Str))=false:=by decide):SS X Γ E (.Return (some (.Name x p)) pos) (zJ i):=by
 refine PS.post (hX (gC hN hv hd hcd)) λN σ H ⟨env,G,B,β,I,o⟩=>?_
 unfold zJ at o
 cases q:env[i]? with
 |none=>rw[q] at o;exact o.elim
 |some s=>
  rw[q] at o
  cases s with
  |no=>exact o.elim
  |bx=>exact o.elim
  |br d=>exact o.elim
  |fz d=>
   obtain⟨v,h1,h2⟩:=I.slot i _ q
   exact⟨v,h1,o B G H σ env v I (ar.refl _) h2⟩
  |ow d=>
   obtain⟨p,h1,h2,h3,h4,h5⟩:=I.slot i _ q
   exact⟨_,h1,o B G H σ env _ I (ar.refl _) ⟨p,rfl,h2,h3,h5⟩⟩
def hZ (L:List Nat)(t:VF Bool)(m m':SF):SF:=λenv β=>toS (t (vl env) β) λc β'=>if c=true then m (a7 L env) β' else m' (a7 L env) β'
theorem bS {x y:List Stmt}(hc:yz X Γ E c ta L)(ha:xj X Γ E x m)(hb:xj X Γ E y m'):SS X Γ E (.If c x y pos) (hZ L ta m m'):=by
 refine PS.post (zi hc ha hb) λN σ H ⟨env,G,B,β,I,o⟩=>?_
 refine⟨env,G,B,β,I,cf o λd β' k G' H' I' s' m'=>?_⟩
 cases d with
 |true=>exact ub ⟨_,G',B,β',I',o9.weak k s'⟩
 |false=>exact oW ⟨_,G',B,β',I',o9.weak k s'⟩
def jN (L:List Nat)(t:VF Bool)(m:SF):Nat->SF
 | 0=>λ_ _=>.bad
 |n + 1=>λenv β=>toS (t (vl env) β) λc β'=>if c=true then (match m (a7 L env) β' with
   | .nx env2 β2=>jN L t m n env2 β2
   | .ct env2 β2=>jN L t m n env2 β2
   | .bk env2 β2=>.nx env2 β2
   |r=>r) else .nx (a7 L env) β'
theorem zg {x:List Stmt}(n:Nat)(hp:PassesOwn (model X.prog X.w) X.A X.env X.xe)(hc:yz X Γ E c ta L)(hb:xj X Γ E x m):SS X Γ E (.While c x [] pos) (jN L ta m n):=by
 refine PS.post (yM hp hc hb) λN σ H ⟨env,G,B,β,I,o⟩=>?_
 refine⟨λk σ H=>∃env G1 B β,SR Γ B G1 H σ env β/\ar G G1/\o9 Γ E G1 N (jN L ta m k env β),⟨n,env,G,B,β,I,ar.refl _,o⟩,?_⟩
 rintro k σ H ⟨env,G1,B,β,I,sG,o⟩
 cases k with
 |zero=>exact o.elim
 |succ k=>
  refine⟨env,G1,B,β,I,cf o λd β' q G' H' I' s' m'=>?_⟩
  cases d with
  |false=>exact oW (q B G' H' σ I' s')
  |true=>
   refine ub ⟨λσ H=>∃env G1 B β,SR Γ B G1 H σ env β/\ar G G1/\o9 Γ E G1 N (jN L ta m k env β),λσ' H' h=>⟨k,Nat.lt_succ_self k,h⟩,a7 L env,G',B,β',I',?_⟩
   rw[Jk rfl] at q
   cases r:m (a7 L env) β' with
   |nx env2 β2=>rw[r] at q;exact λB2 G2 H2 σ2 I2 s2=>⟨env2,G2,B2,β2,I2,(sG.trans s').trans s2,o9.weak q (s'.trans s2)⟩
   |ct env2 β2=>rw[r] at q;exact λB2 G2 H2 σ2 I2 s2=>⟨env2,G2,B2,β2,I2,(sG.trans s').trans s2,o9.weak q (s'.trans s2)⟩
   |bk env2 β2=>rw[r] at q;exact λB2 G2 H2 σ2 I2 s2=>q B2 G2 H2 σ2 I2 (s'.trans s2)
   |rt d fr β2=>rw[r] at q;exact o9.weak q s'
   |exc c=>rw[r] at q;exact q
   |bad=>rw[r] at q;exact q
def Walk (K:Frag)(B:Option Addr)(G H1:Hp)(ds:List D)(J:It):Prop:=∀Gc H (i:Nat),ar G Gc->ar Gc H->gM B H1 H->
 (i < ds.length->J.go i H/\∀x H',J.yld i H x H'->∃G' d,Ext Gc H G' H'/\ds[i]? =some d/\Rp K G' x d)/\(ds.length<=i->J.stop i H)
def iT (Γ:Fx)(E:XK)(f:VF (List D))(L:List Nat)(md:Md):TI:=λσ H Rr=>∃env G B β,SR Γ B G H σ env β/\
 Out Γ E (f (vl env) β) λds β'=>∀J G' H',SR Γ B G' H' σ (a7 L env) β'->ar G G'->gM B H H'->Walk Γ.K B G' (match md with | .b=>H' |_=>λ_=>none) ds J->Rr J H'
def SI (X:Cx)(Γ:Fx)(E:XK)(tg e:Expr)(f:VF (List D))(L:List Nat)(md:Md):Prop:=PI X tg e (iT Γ E f L md)
def PI.post {X:Cx}{tg e:Expr}{t u:TI}(h:PI X tg e t)(m:∀σ H Q,u σ H Q->t σ H Q):PI X tg e u:=λpins s σ H Q I q=>h pins s σ H Q I (m σ H Q q)
variable {tg:Expr}
def kA:D->Option (List D)
 | .list ds=>some ds
 | .tuple ds=>some ds
 |_=>none
def ij (fa:VF D):VF (List D):=λvs β=>(fa vs β).bnd λx β1=>R.of (kA x) β1
end
def IU (K:Frag)(tl:TE):TI:=λσ H R=>tl σ H λx H1=>∃a xs,x=.ref a/\((fP K H1 a xs/\R (yr K a) H1)\/(dW K H1 a xs/\R (CG K a) H1))
section
variable {X:Cx}{tg l:Expr}{tl:TE}
def Gn (hl:PE X l tl):PI X tg l (IU X.K tl):=by
 intro pins s σ H R I h
 refine bW (hl pins s σ H _ I h) λv s1 ⟨x,H1,I1,r1,q1⟩=>?_
 obtain⟨a,xs,e,q⟩:=q1
 subst e
 cases r1
 rcases q with⟨hq,q⟩ | ⟨hq,q⟩
 ·obtain⟨its,rv,p,hz⟩:=I1.list hq
  refine KS p.isList ?_
  refine⟨s1.heap.objs.size,[s1.heap.objs.size],_,_,H1,rfl,I1.kept (t':=s1.toks) λb o e=>Jj _ e,lW a _,⟨_,Jt _ rfl,rfl,rfl⟩,λb hb=>?_,q⟩
  have e:b=s1.heap.objs.size:=by simpa using hb
  subst e
  exact I1.fpOk (Jl _) (I1.hok.fresh (Jl _))
 ·obtain⟨its,rv,p,hz⟩:=I1.tuple hq
  refine KN (show s1.heap.IsTuple a its.toArray from p) ?_
  refine⟨s1.heap.objs.size,[s1.heap.objs.size],_,_,H1,rfl,I1.kept (t':=s1.toks) λb o e=>Jj _ e,nR a _,⟨_,Jt _ rfl,rfl,rfl⟩,λb hb=>?_,q⟩
  have e:b=s1.heap.objs.size:=by simpa using hb
  subst e
  exact I1.fpOk (Jl _) (I1.hok.fresh (Jl _))
end
section
variable {X:Cx}{Γ:Fx}{E:XK}{e a b c:Expr}{f fa fb:VF D}{L La Lb:List Nat}{md ma mb:Md}{pos:Pos}{st:Stmt}{sts:List Stmt}{m m':SF}{ta:VF Bool}{tg:Expr}
def qc {K:Frag}{B:Option Addr}{G H1:Hp}{p:Addr}{xs:List V}{ds:List D}(h:∀Gc H,ar G Gc->ar Gc H->gM B H1 H->fP K H p xs)(r:cm K G xs ds):Walk K B G H1 ds (yr K p):=λGc H i s1 s2 m=>by
 have hq:=h Gc H s1 s2 m
 refine⟨λhi=>⟨?_,λx H' y=>?_⟩,λhi=>⟨xs,hq,by rw[r.len];exact hi⟩⟩
 ·have hi':i < xs.length:=by rw[r.len];exact hi
  exact⟨xs,xs[i],hq,by simp[hi']⟩
 ·obtain⟨rfl,y⟩:=y
  obtain⟨d,e,q⟩:=r.at' (y xs hq)
  exact⟨Gc,d,Ext.refl s2,e,q.mono s1⟩
def zy {K:Frag}{B:Option Addr}{G H1:Hp}{p:Addr}{xs:List V}{ds:List D}(h:∀Gc H,ar G Gc->ar Gc H->gM B H1 H->dW K H p xs)(r:cm K G xs ds):Walk K B G H1 ds (CG K p):=λGc H i s1 s2 m=>by
 have hq:=h Gc H s1 s2 m
 refine⟨λhi=>⟨?_,λx H' y=>?_⟩,λhi=>⟨xs,hq,by rw[r.len];exact hi⟩⟩
 ·have hi':i < xs.length:=by rw[r.len];exact hi
  exact⟨xs,xs[i],hq,by simp[hi']⟩
 ·obtain⟨rfl,y⟩:=y
  obtain⟨d,e,q⟩:=r.at' (y xs hq)
  exact⟨Gc,d,Ext.refl s2,e,q.mono s1⟩
theorem qK (hK:X.K=Γ.K)(ha:SE X Γ E a fa La ma):SI X Γ E tg a (ij fa) La .b:=by
 refine PI.post (Gn ha) λσ H Q ⟨env,G,B,β,I,o⟩=>?_
 refine⟨env,G,B,β,I,o.bnd.imp λd1 β1 h x G1 H1 I1 s1 m1 vx=>?_⟩
 obtain⟨ds,e,k⟩:=h.of
 rw[hK]
 have vx:=vx.brw I.boxThere
 cases d1 with
 |list l=>
  cases e
  rcases vx with vx | ⟨p,rfl,hb,xs,q,r⟩
  ·cases vx with
   | @lst p xs _ hq r=>exact⟨p,xs,rfl,.inl ⟨.inl (Rd.mono (.inl hq) I1.sub),k _ G1 H1 I1 s1 m1 (qc (λGc H t1 t2 _=>.inl (Rd.mono (.inl hq) (t1.trans t2))) r)⟩⟩
  ·exact⟨p,xs,rfl,.inl ⟨.inl (.inl q),k _ G1 H1 I1 s1 m1 (qc (λGc H t1 t2 mv=>.inl (.inl (mv.1 p _ q hb))) r)⟩⟩
 |tuple l=>
  cases e
  rcases vx with vx | ⟨p,rfl,hb,q⟩
  ·cases vx with
   | @tup p xs _ hq r=>exact⟨p,xs,rfl,.inr ⟨hq.grow I1.sub.grow,k _ G1 H1 I1 s1 m1 (zy (λGc H t1 t2 _=>hq.grow (t1.trans t2).grow) r)⟩⟩
  ·exact q.elim
 |_=>cases e
def cP (lo:Int)(n:Nat):List D:=(List.range n).map λ(k:Nat)=>int (lo + k)
def iB (lo:Int)(n:Nat):(cP lo n).length=n:=by unfold cP;simp
def sO {K:Frag}{B:Option Addr}{G H1:Hp}(lo:Int)(n:Nat):Walk K B G H1 (cP lo n) (vH lo n):=λGc H i s1 s2 m=>by
 rw[iB]
 refine⟨λhi=>⟨hi,λx H' y=>?_⟩,λhi=>hi⟩
 obtain⟨rfl,rfl⟩:=y
 refine⟨Gc,.int (lo + i),Ext.refl s2,?_,.int _⟩
 unfold cP
 rw[JC,K7 hi];rfl
def yw (j:Int):Bool:=Nat.ble j.natAbs 1000000
def lR {j:Int}(h:yw j=true): -(2 ^ 62)<=j/\j < 2 ^ 62:=by
 have:=Nat.le_of_ble_eq_true h
 omega
def l6 {j:Int}(h: -1000<=j)(h2:j<=10000):yw j=true:=Nat.ble_eq_true_of_le (by omega)
def gz (fa:VF D):VF (List D):=λvs β=>(fa vs β).bnd λx β1=>match x with
 | .int j=>if yw j=true then .ok (cP 0 j.toNat) β1 else .bad
 |_=>.bad
def vZ (fa fb:VF D):VF (List D):=λvs β=>(fa vs β).bnd λx β1=>(fb vs β1).bnd λy β2=>match x,y with
 | .int i,.int j=>if (yw i && yw j)=true then .ok (cP i (j - i).toNat) β2 else .bad
 |_,_=>.bad
theorem mf {p:Pos}(hg:Gl X "range")(hm:X.mg "range"=none)(ha:SE X Γ E a fa La ma)(hs:starEach [a] X.env= [(false,eval a X.env)]:=by rfl)(hs':starEach [a] X.env=(false,eval a X.env) :: starEach [] X.env:=by rfl):SI X Γ E tg (.Call (.Name "range" p) [a] [] pos) (gz fa) La md:=by
 refine PI.post (jP hg hm (aj ha aI hs') hs) λσ H Q ⟨env,G,B,β,I,o⟩=>?_
 refine⟨env,G,B,β,I,o.bnd.imp λd1 β1 h x G1 H1 I1 s1 m1 vx=>?_⟩
 have vx:=vx.brw I.boxThere
 cases d1 with
 |int j=>
  obtain rfl:=vx.int
  dsimp only at h
  by_cases hj:yw j=true
  ·rw[Jk hj] at h
   exact⟨j,rfl,(lR hj).1,(lR hj).2,h _ G1 H1 I1 s1 m1 (sO 0 _)⟩
  ·rw[Ju hj] at h;exact h.elim
 |_=>exact h.elim
def E8 {p:Pos}(hg:Gl X "range")(hm:X.mg "range"=none)(ha:SE X Γ E a fa La ma)(hb:SE X Γ E b fb Lb mb)(hs:starEach [a,b] X.env= [(false,eval a X.env),(false,eval b X.env)]:=by rfl)(hs2:starEach [b] X.env= [(false,eval b X.env)]:=by rfl)(hs':starEach [a,b] X.env=(false,eval a X.env) :: starEach [b] X.env:=by rfl)(hs3:starEach [b] X.env=(false,eval b X.env) :: starEach [] X.env:=by rfl):SI X Γ E tg (.Call (.Name "range" p) [a,b] [] pos) (vZ fa fb) (La ++ Lb) md:=by
 refine PI.post (yg hg hm (aj ha (aj hb aI hs3) hs') hs hs2) λσ H Q ⟨env,G,B,β,I,o⟩=>?_
 refine two (W:=λx y H2=>∃i j:Int,[x,y]= [.int i,.int j]/\(-(2 ^ 62)<=i/\i < 2 ^ 62/\ -(2 ^ 62)<=j/\j < 2 ^ 62)/\Q (vH i (j - i).toNat) H2) I (o.bnd.imp λd1 β1 h=>h.bnd.imp λd2 β2 h x y G2 H2 I2 s2 m2 bx by'=>?_)
 obtain⟨i,j,rfl,rfl⟩:∃i j,d1=.int i/\d2=.int j:=by
  cases d1 <;> cases d2 <;> first |exact h.elim |exact⟨_,_,rfl,rfl⟩
 obtain rfl:=bx.int
 obtain rfl:=by'.int
 dsimp only at h
 by_cases hj:(yw i && yw j)=true
 ·rw[Jk hj] at h
  rw[JD] at hj
  exact⟨i,j,rfl,⟨(lR hj.1).1,(lR hj.1).2,(lR hj.2).1,(lR hj.2).2⟩,h _ G2 H2 I2 s2 m2 (sO i _)⟩
 ·rw[Ju hj] at h;exact h.elim
inductive Tg where
 |nm (i:Nat)
 |two (i j:Nat)
def pairD:D->Option (D×D)
 | .tuple [x,y]=>some (x,y)
 |_=>none
def zv {d x y:D}(h:pairD d=some (x,y)):d=.tuple [x,y]:=by
 unfold pairD at h
 split at h
 ·cases h;rfl
 ·cases h
def gF:Tg->D->En->Option En
 | .nm i,d,env=>some (env.set i (.fz d))
 | .two i j,d,env=>(pairD d).map λp=>(env.set i (.fz p.1)).set j (.fz p.2)
def mh:Tg->D->List Nv->Option (List Nv)
 | .nm i,d,vs=>some (vs.set i (.da d))
 | .two i j,d,vs=>(pairD d).map λp=>(vs.set i (.da p.1)).set j (.da p.2)
def uk (env:En)(i:Nat)(s:Sl):vl (env.set i s)=(vl env).set i s.val:=by unfold vl;rw[List.map_set]
theorem Bb (t:Tg)(d:D)(env:En):(gF t d env).map vl=mh t d (vl env):=by
 cases t with
 |nm i=>show some (vl _)=some _;rw[uk];rfl
 |two i j=>
  show ((pairD d).map _).map vl=(pairD d).map _
  cases pairD d with
  |none=>rfl
  |some p=>show some (vl _)=some _;rw[uk,uk];rfl
def gT (Γ:Fx)(t:Tg):TG:=λv σ H Q=>∃env G B β d env',SR Γ B G H σ env β/\Rp Γ.K G v d/\gF t d env=some env'/\∀σ',SR Γ B G H σ' env' β->Q σ' H
def SG (X:Cx)(Γ:Fx)(tg:Expr)(t:Tg):Prop:=PG X tg (gT Γ t)
def PG.post {X:Cx}{tg:Expr}{t u:TG}(h:PG X tg t)(m:∀v σ H Q,u v σ H Q->t v σ H Q):PG X tg u:=λpins s σ H v uu Q I r q=>h pins s σ H v uu Q I r (m v σ H Q q)
def gA {i:Nat}{x:Str}(hN:X.N.Nodup)(hi:X.N[i]? =some x:=by rfl)(hx:Loc X.env.scope x:=by first |exact Or.inl rfl |exact Or.inr rfl)(hf:X.fn x=true\/X.env.scope.names.lookup x=some .local:=by first |exact .inl rfl |exact .inr rfl |assumption):SG X Γ (.Name x pos) (.nm i):=by
 refine PG.post (cu hN hi hx hf) λv σ H Q ⟨env,G,B,β,d,env',I,r,e,k⟩=>?_
 cases e
 exact k _ (I.set' i r)
theorem qR {i j:Nat}{x y:Str}{px py:Pos}{n:Nat}(hN:X.N.Nodup)(hc:X.calm=true:=by rfl)(hK:X.K=Γ.K:=by rfl)(hi:X.N[i]? =some x:=by rfl)(hj:X.N[j]? =some y:=by rfl)(hx:Loc X.env.scope x:=by first |exact Or.inl rfl |exact Or.inr rfl)(hy:Loc X.env.scope y:=by first |exact Or.inl rfl |exact Or.inr rfl)
  (hf:X.fn x=true\/X.env.scope.names.lookup x=some .local:=by first |exact .inl rfl |exact .inr rfl |assumption) (hf':X.fn y=true\/X.env.scope.names.lookup y=some .local:=by first |exact .inl rfl |exact .inr rfl |assumption):SG X Γ (.Tuple [.Name x px,.Name y py] n pos) (.two i j):=by
 refine PG.post (nN (n:=2) hc (cY (cu hN hi hx hf) (cY (cu hN hj hy hf') lH))) λv σ H Q ⟨env,G,B,β,d,env',I,r,e,k⟩=>?_
 rw[hK]
 have e:(pairD d).map (λp=>(env.set i (.fz p.1)).set j (.fz p.2))=some env':=e
 cases q:pairD d with
 |none=>rw[q] at e;cases e
 |some p=>
  obtain⟨dx,dy⟩:=p
  rw[q] at e
  cases e
  obtain rfl:=zv q
  cases r with
  | @tup p xs _ hq r=>
   cases r with
   |cons r1 r=>
    cases r with
    |cons r2 r=>
     cases r
     exact⟨p,_,rfl,hq.grow I.sub.grow,rfl,_,_,rfl,_,_,rfl,rfl,k _ ((I.set' i r1).set' j r2)⟩
def rT (t:Tg)(m:SF):List D->SF
 | []=>λenv β=>.nx env β
 |d :: ds=>λenv β=>match gF t d env with
  |none=>.bad
  |some env1=>match m env1 β with
   | .nx env2 β2=>rT t m ds env2 β2
   | .ct env2 β2=>rT t m ds env2 β2
   | .bk env2 β2=>.nx env2 β2
   |r=>r
def iS (t:Tg)(L:List Nat)(fi:VF (List D))(m:SF):SF:=λenv β=>toS (fi (vl env) β) λds β'=>rT t m ds (a7 L env) β'
def jG {t:Tg}{fi:VF (List D)}{x:List Stmt}(hp:PassesOwn (model X.prog X.w) X.A X.env X.xe)(hc:X.calm=true)(hi:SI X Γ E tg e fi L .v)(hg:SG X Γ tg t)(hb:xj X Γ E x m)(hs:∀x,foldedSetIterable e X.env x=pure x:=by intro _;rfl):SS X Γ E (.For tg e x [] pos) (iS t L fi m):=by
 refine PS.post (qO hp hc hi hg hb hs) λN σ H ⟨env,G,B,β,I,o⟩=>?_
 refine⟨env,G,B,β,I,cf o λds β' q J G' H' I' s' m' w=>?_⟩
 have w:Walk Γ.K B G' (λ_=>none) ds J:=w
 refine⟨λi n σ H=>n=ds.length - i/\i<=ds.length/\∃env G1 B β,SR Γ B G1 H σ env β/\ar G' G1/\o9 Γ E G1 N (rT t m (ds.drop i) env β),⟨ds.length,by simp,JY _,a7 L env,G',B,β',I',ar.refl _,by rw[List.drop_zero];exact o9.weak q s'⟩,?_⟩
 rintro i n σ H ⟨rfl,hi,env,G1,B1,β1,I1,s1,q⟩
 obtain⟨w1,w2⟩:=w G1 H i s1 I1.sub ⟨(λb o e=>by cases e),λb o u e=>by cases e⟩
 by_cases hlt:i < ds.length
 ·obtain⟨go,yl⟩:=w1 hlt
  refine .inr ⟨go,λσ H=>∃env G2 B β,SR Γ B G2 H σ env β/\ar G' G2/\o9 Γ E G2 N (rT t m (ds.drop (i + 1)) env β),λσ2 H2 h=>⟨ds.length - (i + 1),by omega,rfl,hlt,h⟩,λx H2 y=>?_⟩
  obtain⟨G2,d,x2,ed,rd⟩:=yl x H2 y
  have I2:=I1.ext x2
  have q:=o9.weak q x2.gg
  rw[List.drop_eq_getElem_cons hlt] at q
  have ed':ds[i]=d:=by rw[Jr hlt] at ed;exact Option.some.inj ed
  rw[ed'] at q
  unfold rT at q
  cases eb:gF t d env with
  |none=>rw[eb] at q;exact q.elim
  |some env1=>
   rw[eb] at q
   refine⟨env,G2,B1,β1,d,env1,I2,rd,eb,λσ3 I3=>⟨env1,G2,B1,β1,I3,?_⟩⟩
   have s2:=s1.trans x2.gg
   dsimp only at q
   cases r:m env1 β1 with
   |nx env2 β2=>rw[r] at q;exact λB2 G3 H3 σ2 I2 s3=>⟨env2,G3,B2,β2,I2,s2.trans s3,o9.weak q s3⟩
   |ct env2 β2=>rw[r] at q;exact λB2 G3 H3 σ2 I2 s3=>⟨env2,G3,B2,β2,I2,s2.trans s3,o9.weak q s3⟩
   |bk env2 β2=>rw[r] at q;exact λB2 G3 H3 σ2 I2 s3=>q B2 G3 H3 σ2 I2 s3
   |rt d fr β2=>rw[r] at q;exact q
   |exc c=>rw[r] at q;exact q
   |bad=>rw[r] at q;exact q
 ·have e:i=ds.length:=by omega
  subst e
  rw[List.drop_length] at q
  exact .inl ⟨w2 (Jl _),q B1 G1 H σ I1 (ar.refl _)⟩
end
abbrev Fx.dF (Γ:Fx)(H0 G0:Hp)(par:List Addr)(br:Nat->Bool)(bx:Option Addr):Fx:=⟨Γ.K,H0,G0,par,Γ.ca,br,bx⟩
def gy (own:Nat)(ixs:List Nat)(vs:List Nv):List Nv:=List.replicate own .no ++ ixs.map λi=>(vs[i]?).getD .no
def E5:Option Sl->Sl
 |some (.ow d)=>.br d
 |some s=>s
 |none=>.no
def benv (own:Nat)(ixs:List Nat)(env:En):En:=List.replicate own .no ++ ixs.map λi=>E5 env[i]?
theorem Bo (o:Option Sl):(E5 o).val=(o.map Sl.val).getD .no:=by
 cases o with
 |none=>rfl
 |some s=>cases s <;> rfl
def BV (own:Nat)(ixs:List Nat)(env:En):vl (benv own ixs env)=gy own ixs (vl env):=by
 unfold vl benv gy
 rw[KO,List.map_replicate,List.map_map]
 congr 1
 refine J8 λi _=>?_
 show (E5 env[i]?).val=_
 rw[Bo,JC]
def uX (env:En):Prop:=∀(i:Nat) (d:D),env[i]?≠some (.ow d)
theorem sQ {env:En}(h:uX env)(L:List Nat):a7 L env=env:=by
 unfold a7
 induction L with
 |nil=>rfl
 |cons i L ih=>
  rw[foldl_cons]
  have:iR env i=env:=by
   unfold iR
   split
   ·rename_i d e;exact absurd e (h i d)
   ·rfl
  rw[this];exact ih
def pE (own:Nat)(ixs:List Nat)(env:En):uX (benv own ixs env):=λi d e=>by
 unfold benv at e
 have hm:=JI e
 rcases JT.mp hm with h |h
 ·have:=Kl h;cases this
 ·obtain⟨k,_,hk⟩:=KZ.mp h
  cases q:env[k]? with
  |none=>rw[q] at hk;cases hk
  |some s=>rw[q] at hk;cases s <;> cases hk
def oM {env:En}(h:uX env)(i:Nat)(d:D):uX (env.set i (.fz d)):=λj d' e=>by
 by_cases z:i=j
 ·subst z
  by_cases hi:i < env.length
  ·rw[Jq hi] at e;cases e
  ·rw[Kk (by omega)] at e;exact h _ _ e
 ·rw[Js z] at e;exact h _ _ e
theorem yo {env env1:En}{t:Tg}{d:D}(h:uX env)(e:gF t d env=some env1):uX env1:=by
 cases t with
 |nm i=>cases e;exact oM h i d
 |two i j=>
  have e:(pairD d).map _=some env1:=e
  cases q:pairD d with
  |none=>rw[q] at e;cases e
  |some p=>rw[q] at e;cases e;exact oM (oM h _ _) _ _
theorem ye {env env1:En}{t:Tg}{d:D}(e:gF t d env=some env1)(d':D):gF t d' env1=gF t d' env:=by
 cases t with
 |nm i=>cases e;show some _=some _;rw[set_set]
 |two i j=>
  have e:(pairD d).map _=some env1:=e
  cases q:pairD d with
  |none=>rw[q] at e;cases e
  |some p=>
   rw[q] at e;cases e
   show (pairD d').map _=(pairD d').map _
   cases pairD d' with
   |none=>rfl
   |some p'=>
    show some _=some _
    congr 1
    dsimp only
    by_cases z:i=j
    ·subst z;simp[set_set]
    ·rw[List.set_comm _ _ (Ne.symm z),set_set,set_set]
def Ext.mov {G H G' H':Hp}(x:Ext G H G' H')(B:Option Addr):gM B H H':=x.hh.mov B
section
variable {Γ:Fx}{B:Option Addr}{G H G1 H1 Gc Hc:Hp}{σ σ':St}{env envb:En}{β β':Int}{own:Nat}{ixs:List Nat}{Da:Addr}{acc:List V}
def uI (envb:En):Nat->Bool:=λj=>match envb[j]? with
 |some (.br _)=>true
 |_=>false
def SR.block (I:SR Γ B G H σ env β)(own:Nat)(ixs:List Nat)(hD:H Da=none):SR (Γ.dF (upd H Da (.lst [])) G (Da :: B.toList) (uI (benv own ixs env)) B) B G (upd H Da (.lst [])) (mD own ixs σ) (benv own ixs env) β:=by
 obtain⟨q1,q2,q3,q4⟩:=I.fresh hD
 have nB:∀b,B=some b->b≠Da:=λb e z=>q3 (by rw[<-z];exact e)
 refine⟨I.sub.trans (ar.new hD),ar.refl _,λb _ h=>h,λb o h _=>Kt.of h,λb hb=>?_,λb e=>e,λb e=>?_,?_,λi s e=>?_,λi j c d d' e=>absurd e (pE own ixs env i d)⟩
 ·rcases Jn.mp hb with z |z
  ·subst z;exact Mx.lst aq
  ·have z':B=some b:=by simpa using z
   exact Mx.lst (by rw[aw (nB b z')];exact (I.box b z').1)
 ·obtain⟨h1,h2,_⟩:=I.box b e
  exact⟨by rw[aw (nB b e)];exact h1,h2,.inl (Jx _ (by simpa using e))⟩
 ·unfold mD benv;simp
 ·by_cases hi:i < own
  ·unfold benv at e
   rw[JV (by simpa using hi),Kd,Jk hi] at e
   cases e;trivial
  ·have e0:=e
   unfold benv at e
   rw[J0 (by simpa using hi),Ki,JC] at e
   cases ek:ixs[i - own]? with
   |none=>rw[ek] at e;cases e
   |some k=>
    rw[ek] at e
    have e:E5 env[k]? =s:=Option.some.inj e
    have es:(mD own ixs σ)[i]? =some ((σ[k]?).join):=by
     unfold mD
     rw[J0 (by simpa using hi),Ki,JC,ek];rfl
    rw[es]
    cases q:env[k]? with
    |none=>rw[q] at e;subst e;trivial
    |some t=>
     rw[q] at e
     have w:=I.slot k t q
     cases t with
     |no=>subst e;trivial
     |fz d=>subst e;obtain⟨v,h1,h2⟩:=w;exact⟨v,by rw[h1];rfl,h2⟩
     |bx=>subst e;obtain⟨a,h1,h2⟩:=w;exact⟨a,by rw[h1];rfl,h2⟩
     |ow d=>
      subst e
      obtain⟨a,h1,h2,h3,h4,h5⟩:=w
      obtain⟨o,ho⟩:=h5.obj
      have aD:a≠Da:=aE ho hD
      refine⟨by show uI _ i=true;unfold uI;rw[e0];rfl,a,by rw[h1];rfl,h4,?_,h5.mono (ar.refl _) λo q=>Kt.of (by rw[aw aD];exact q)⟩
      intro hm
      rcases Jn.mp hm with z |z
      ·exact aD z
      ·exact h4 (by simpa using z)
     |br d=>
      subst e
      obtain⟨b1,a,h1,h4,hp,h5⟩:=w
      obtain⟨o,ho⟩:=h5.obj
      have aD:a≠Da:=aE ho hD
      refine⟨by show uI _ i=true;unfold uI;rw[e0];rfl,a,by rw[h1];rfl,h4,?_,h5.mono (ar.refl _) λo q=>Kt.of (by rw[aw aD];exact q)⟩
      intro hm
      rcases Jn.mp hm with z |z
      ·exact aD z
      ·exact h4 (by simpa using z)
def SR.unblock (I:SR Γ B G H σ env β){br:Nat->Bool}(hD:H Da=none)(J:SR (Γ.dF (upd H Da (.lst [])) G (Da :: B.toList) br B) B Gc Hc σ' envb β'):SR Γ B Gc Hc σ env β'/\gM B H Hc/\Gc Da=none:=by
 obtain⟨q1,q2,q3,q4⟩:=I.fresh hD
 have up:∀{b:Addr},Mx H b->Mx (upd H Da (.lst [])) b:=λ{b} h=>h.same λo e=>Kt.of (by rw[aw (aE e hD)];exact e)
 have mv0:∀b o,H b=some o->B≠some b->Kt Hc b o:=λb o e n=>J.keep b o (show upd H Da (.lst []) b=some o by rw[aw (aE e hD)];exact e) λhm=>by
  rcases Jn.mp hm with z |z
  ·rw[z,hD] at e;cases e
  ·exact n (by simpa using z)
 have mv:gM B H Hc:=⟨mv0,λb o u e=>mv0 b _ e λz=>by rw[(I.box b z).1] at e;cases e⟩
 refine⟨⟨J.sub,I.old.trans J.old,λb h1 h2=>J.new b (up (I.thereM h1)) (I.new b h1 h2),λb o h1 h2=>va (I.keep b o h1 h2) mv λz=>?_,λb hb=>J.thereM (up (I.pin b hb)),I.fix,λb e=>?_,I.len,λi s e=>?_,I.sep⟩,mv,J.new Da (Mx.lst (show upd H Da (.lst []) Da=some (.lst []) from aq)) q2⟩
 ·obtain⟨_,_,h3⟩:=I.box b z
  rcases h3 with h3 |h3
  ·exact h2 h3
  ·rw[h1] at h3;cases h3
 ·obtain⟨j1,j2,_⟩:=J.box b e
  exact⟨j1,j2,(I.box b e).2.2⟩
 ·have w:=I.slot i s e
  cases s with
  |no=>trivial
  |fz d=>obtain⟨v,h1,h2⟩:=w;exact⟨v,h1,h2.mono J.old⟩
  |bx=>exact w
  |ow d=>
   obtain⟨a,h1,h2,h3,h4,h5⟩:=w
   exact⟨a,h1,h2,J.new a (up h5.mx) h3,h4,h5.mono J.old λo q=>mv.1 a o q h4⟩
  |br d=>
   obtain⟨b1,a,h1,h4,hp,h5⟩:=w
   exact⟨b1,a,h1,h4,hp,h5.mono J.old λo q=>mv.1 a o q h4⟩
def SR.updD {ys:List V}(J:SR Γ B G H σ env β)(hp:Da∈Γ.par)(h0:Mx Γ.H0 Da)(g0:Γ.G0 Da=none)(hB:B≠some Da):SR Γ B G (upd H Da (.lst ys)) σ env β:=by
 have gD:=J.new Da h0 g0
 have ha:∀x y,H Da≠some (.a7 x y):=λx y w=>(J.pin Da hp).2 _ w trivial
 refine⟨λb u q=>hW (J.sub b u q) (λz=>by rw[z,gD] at q;cases q) ha,J.old,J.new,λb u q n=>hW (J.keep b u q n) (λz=>n (by rw[z];exact hp)) ha,λb hb=>?_,J.fix,λb e=>?_,J.len,λi s e=>?_,J.sep⟩
 ·by_cases z:b=Da
  ·subst z;exact Mx.lst aq
  ·exact (J.pin b hb).same λo e=>Kt.of (by rw[aw z];exact e)
 ·obtain⟨h1,h2⟩:=J.box b e
  exact⟨by rw[aw (λz=>hB (by rw[<-z];exact e))];exact h1,h2⟩
 ·have w:=J.slot i s e
  cases s with
  |no=>trivial
  |fz d=>exact w
  |bx=>exact w
  |ow d=>
   obtain⟨a,h1,h2,h3,h4,h5⟩:=w
   have aD:a≠Da:=λz=>h0.1 (by rw[<-z];exact h2)
   exact⟨a,h1,h2,h3,h4,h5.mono (ar.refl _) λo q=>Kt.of (by rw[aw aD];exact q)⟩
  |br d=>
   obtain⟨b1,a,h1,h4,hpa,h5⟩:=w
   have aD:a≠Da:=λz=>hpa (by rw[z];exact hp)
   exact⟨b1,a,h1,h4,hpa,h5.mono (ar.refl _) λo q=>Kt.of (by rw[aw aD];exact q)⟩
end
def R.okb {α γ:Type}(r:R α)(k:α->Int->R γ):R γ:=match r with
 | .ok a β=>k a β
 |_=>.bad
def gL (t:Tg)(ft:VF Bool)(fe:VF D)(vs:List Nv):List D->Int->R (List D)
 | [],β=>.ok [] β
 |d :: ds,β=>match mh t d vs with
  |none=>.bad
  |some vs1=>(ft vs1 β).okb λc β1=>if c=true then (fe vs1 β1).okb λx β2=>(gL t ft fe vs ds β2).okb λxs β3=>.ok (x :: xs) β3 else gL t ft fe vs ds β1
def bL (own:Nat)(ixs:List Nat)(t:Tg)(fi:VF (List D))(ft:VF Bool)(fe:VF D):VF D:=λvs β=>(fi vs β).bnd λds β1=>if ds.length<=sizeLine then (gL t ft fe (gy own ixs vs) ds β1).okb λxs β2=>.ok (.list xs) β2 else .bad
def kT:VF Bool:=λ_ β=>.ok true β
def CN (own:Nat)(ixs Lc:List Nat)(j:Nat):Bool:=decide (j < own) || (match ixs[j - own]? with
 |some i=>Lc.contains i
 |none=>false)
theorem BQ {α γ:Type}{Γ:Fx}{E:XK}{r:R α}{k:α->Int->R γ}{P:γ->Int->Prop}(h:Out Γ E (r.okb k) P):∃a β,r=.ok a β/\Out Γ E (k a β) P:=by
 cases r with
 |ok a β=>exact⟨a,β,rfl,h⟩
 |exc c=>exact h.elim
 |bad=>exact h.elim
section
variable {X:Cx}{Γ:Fx}{E:XK}{tg iter elt:Expr}{ifs:List Expr}{scope:Scope}{NB:List Str}{own:Nat}{ixs Li Lc Lt Le:List Nat}{t:Tg}{fi:VF (List D)}{ft:VF Bool}{fe:VF D}{pos:Pos}
def e9 {X:Cx}{Γ:Fx}{E:XK}:vh X [] (qT Γ E kT []):=λpins s σ H Q I ⟨env,G,B,β,J,o⟩=>mY pins s σ H Q I (o G H J (ar.refl _) (gM.refl _ _))
def AS {X:Cx}{Γ:Fx}{E:XK}{c:Expr}{ta:VF Bool}{L:List Nat}(h:yz X Γ E c ta L):vh X [c] (qT Γ E ta L):=rG h
def pD {NB:List Str}{scope:Scope}{C:Addr}{ex:List Addr}{s3:Shared}{H3:Hp}{pn:List (Addr×Obj)}{P:Program}{w:World}:Passes (kU P w) (dF X NB scope C ex s3 H3 pn) E0:=λpins σ H s e s' I h=>by
 obtain⟨_,_,_,_,_,_,_,_,_,q⟩:=h
 exact q.elim
abbrev gU (Γ:Fx)(t:Tg):TG:=λv σ H Q=>∃H0 G0 par br bx,gT (Γ.dF H0 G0 par br bx) t v σ H Q
abbrev tU (Γ:Fx)(own:Nat)(ixs Lc:List Nat)(ft:VF Bool)(Lt:List Nat):TT:=λσ H Q=>∃H0 G0 par br bx,(∀j,CN own ixs Lc j=true->br j=false)/\qT (Γ.dF H0 G0 par br bx) E0 ft Lt σ H Q
abbrev eU (Γ:Fx)(own:Nat)(ixs Lc:List Nat)(fe:VF D)(Le:List Nat):TE:=λσ H Q=>∃H0 G0 par br bx,(∀j,CN own ixs Lc j=true->br j=false)/\pT (Γ.dF H0 G0 par br bx) E0 fe Le .v σ H Q
def Cs {σ:St}{H:Hp}{Q:VK}(hLc:∀i,i∈Lc->Γ.br i=false)(h:pT Γ E (bL own ixs t fi ft fe) (Li ++ Lc) .w σ H Q):vD own ixs (iT Γ E fi Li .b) (gU Γ t) (tU Γ own ixs Lc ft Lt) (eU Γ own ixs Lc fe Le) σ H Q:=by
 obtain⟨env,G,B,β,I,o⟩:=h
 refine⟨env,G,B,β,I,o.bnd.imp λds β1 h J G1 H1 I1 s1 m1 wk Da hD=>?_⟩
 have wk:Walk Γ.K B G1 H1 ds J:=wk
 by_cases hz:ds.length<=sizeLine
 case neg=>rw[Ju hz] at h;exact h.elim
 rw[Jk hz] at h
 obtain⟨xs0,β0,e0,h⟩:=BQ h
 have h:∀v G' H',SR Γ B G' H' σ (a7 (Li ++ Lc) env) β0->ar G G'->gM B H H'->VO Γ.K B H G' H' .w (.list xs0) v->Q v H':=h
 obtain⟨G2,I2,s2⟩:=I1.a7 Lc hLc
 rw[<-cv] at I2
 obtain⟨q1,q2,q3,q4⟩:=I2.fresh hD
 have Ib0:=I2.block own ixs hD
 generalize hbr:uI (benv own ixs (a7 (Li ++ Lc) env))=br at Ib0
 have hbo:∀j,CN own ixs Lc j=true->br j=false:=by
  intro j hj
  rw[<-hbr]
  unfold uI
  split
  ·rename_i d e
   exfalso
   unfold benv at e
   by_cases hjo:j < own
   ·rw[JV (by simpa using hjo),Kd,Jk hjo] at e;cases e
   ·rw[J0 (by simpa using hjo),Ki,JC] at e
    unfold CN at hj
    rw[Jy hjo,Bool.false_or] at hj
    cases ek:ixs[j - own]? with
    |none=>rw[ek] at hj;cases hj
    |some k=>
     rw[ek] at hj e
     have hk:k∈Lc:=by simpa using hj
     have e:E5 (a7 (Li ++ Lc) env)[k]? =.br d:=Option.some.inj e
     cases q:(a7 (Li ++ Lc) env)[k]? with
     |none=>rw[q] at e;cases e
     |some s=>
      rw[q] at e
      cases s with
      |no=>cases e
      |fz _=>cases e
      |bx=>cases e
      |br d'=>
       obtain⟨b1,_⟩:=I2.slot k _ q
       rw[hLc k hk] at b1;cases b1
      |ow d'=>
       rw[cv] at q
       have key:∀(M:List Nat) (en:En),k∈M->∀d',(a7 M en)[k]?≠some (.ow d'):=by
        intro M
        induction M with
        |nil=>intro en hm;cases hm
        |cons i M ih=>
         intro en hm d' z
         rcases Jn.mp hm with y |y
         ·subst y
          have z1:(iR en k)[k]? =some (.ow d'):=qY (L:=M) z
          have z2:=wB z1
          unfold iR at z1
          rw[z2] at z1
          dsimp only at z1
          rw[Jq (Jw.mp z2).1] at z1;cases z1
         ·exact ih (iR en i) y d' z
       exact key Lc _ hk d' q
  ·rfl
 have evb:vl (benv own ixs (a7 (Li ++ Lc) env))=gy own ixs (vl env):=by rw[BV,eS]
 refine⟨λi n σ' H'=>n=ds.length - i/\i<=ds.length/\∃envb Gc β' acc accd,SR (Γ.dF (upd H1 Da (.lst [])) G2 (Da :: B.toList) br B) B Gc H' σ' envb β'/\(envb=benv own ixs (a7 (Li ++ Lc) env)\/∃d,gF t d (benv own ixs (a7 (Li ++ Lc) env))=some envb)/\
   H' Da=some (.lst acc)/\cm Γ.K Gc acc accd/\accd.length<=i/\∃xs,gL t ft fe (gy own ixs (vl env)) (ds.drop i) β'=.ok xs β0/\accd ++ xs=xs0,
  ⟨ds.length,by simp,JY _,_,G2,β1,[],[],Ib0,.inl rfl,aq,.nil,JY _,xs0,by rw[List.drop_zero];exact e0,rfl⟩,?_⟩
 rintro i n σ' H' ⟨rfl,hi',envb,Gc,β',acc,accd,Ib,eb,hacc,racc,lacc,xs,ec,exs⟩
 obtain⟨Io,mv,gD⟩:=I2.unblock hD Ib
 obtain⟨w1,w2⟩:=wk Gc H' i (s2.trans Ib.old) Ib.sub mv
 by_cases hlt:i < ds.length
 ·obtain⟨go,yl⟩:=w1 hlt
  refine .inr ⟨go,λσ' H'=>∃envb Gc β' acc accd,SR (Γ.dF (upd H1 Da (.lst [])) G2 (Da :: B.toList) br B) B Gc H' σ' envb β'/\(envb=benv own ixs (a7 (Li ++ Lc) env)\/∃d,gF t d (benv own ixs (a7 (Li ++ Lc) env))=some envb)/\
   H' Da=some (.lst acc)/\cm Γ.K Gc acc accd/\accd.length<=i + 1/\∃xs,gL t ft fe (gy own ixs (vl env)) (ds.drop (i + 1)) β'=.ok xs β0/\accd ++ xs=xs0,λσ2 H2 hh=>⟨ds.length - (i + 1),by omega,rfl,hlt,hh⟩,λx H2 y=>?_⟩
  obtain⟨G3,d,x3,ed,rd⟩:=yl x H2 y
  have I3:=Ib.ext x3
  have ed':ds[i]=d:=by rw[Jr hlt] at ed;exact Option.some.inj ed
  rw[List.drop_eq_getElem_cons hlt,ed'] at ec
  unfold gL at ec
  cases ebv:mh t d (gy own ixs (vl env)) with
  |none=>rw[ebv] at ec;cases ec
  |some vs1=>
   rw[ebv] at ec
   dsimp only at ec
   obtain⟨env1,eb1,ev1⟩:∃env1,gF t d (benv own ixs (a7 (Li ++ Lc) env))=some env1/\vl env1=vs1:=by
    have:=Bb t d (benv own ixs (a7 (Li ++ Lc) env))
    rw[evb,ebv] at this
    cases q:gF t d (benv own ixs (a7 (Li ++ Lc) env)) with
    |none=>rw[q] at this;cases this
    |some env1=>rw[q] at this;exact⟨env1,rfl,Option.some.inj this⟩
   have eb2:gF t d envb=some env1:=by
    rcases eb with rfl | ⟨d0,eb⟩
    ·exact eb1
    ·rw[ye eb];exact eb1
   have no1:uX env1:=yo (pE _ _ _) eb1
   have a2:H2 Da=some (.lst acc):=x3.hh _ _ hacc
   refine⟨_,_,_,_,_,envb,G3,B,β',d,env1,I3,rd,eb2,λσ3 I4=>?_⟩
   refine⟨_,_,_,_,_,hbo,env1,G3,B,β',I4,?_⟩
   rw[ev1]
   cases et:ft vs1 β' with
   |exc c=>rw[et] at ec;cases ec
   |bad=>rw[et] at ec;cases ec
   |ok c β2=>
    rw[et] at ec
    intro G4 H4 I5 s4 m4
    rw[sQ no1] at I5
    have a4:H4 Da=some (.lst acc):=m4.1 _ _ a2 q3
    cases c with
    |false=>
     refine oW ⟨env1,G4,β2,acc,accd,I5,.inr ⟨d,eb1⟩,a4,racc.mono (x3.gg.trans s4),by omega,xs,?_,exs⟩
     exact ec
    |true=>
     refine ub ⟨_,_,_,_,_,hbo,env1,G4,B,β2,I5,?_⟩
     rw[ev1]
     have ec:((fe vs1 β2).okb λx β3=>(gL t ft fe (gy own ixs (vl env)) (ds.drop (i + 1)) β3).okb λxs β4=>R.ok (x :: xs) β4)=R.ok xs β0:=ec
     cases ee:fe vs1 β2 with
     |exc c=>rw[ee] at ec;cases ec
     |bad=>rw[ee] at ec;cases ec
     |ok dx β3=>
      rw[ee] at ec
      intro v G5 H5 I6 s5 m5 vo
      rw[sQ no1] at I6
      have a5:H5 Da=some (.lst acc):=m5.1 _ _ a4 q3
      have ec:((gL t ft fe (gy own ixs (vl env)) (ds.drop (i + 1)) β3).okb λxs β4=>R.ok (dx :: xs) β4)=R.ok xs β0:=ec
      cases er:gL t ft fe (gy own ixs (vl env)) (ds.drop (i + 1)) β3 with
      |exc c=>rw[er] at ec;cases ec
      |bad=>rw[er] at ec;cases ec
      |ok ys β4=>
       rw[er] at ec
       cases ec
       refine⟨acc,a5,by rw[racc.len];omega,env1,G5,β3,acc ++ [v],accd ++ [dx],?_,.inr ⟨d,eb1⟩,aq,(racc.mono ((x3.gg.trans s4).trans s5)).snoc vo,by rw[JP];simp;omega,ys,er,by rw[<-exs,KU];rfl⟩
       refine I6.updD (JB ..) (Mx.lst (show upd H1 Da (.lst []) Da=some (.lst []) from aq)) (I2.sub.free hD) q3
 ·have e:i=ds.length:=by omega
  subst e
  rw[List.drop_length] at ec
  cases ec
  rw[append_nil] at exs
  subst exs
  refine .inl ⟨w2 (Jl _),⟨acc,hacc⟩,h _ Gc H' Io ((s1.trans s2).trans Ib.old) (m1.trans mv) ⟨Da,rfl,gr m1 I1.boxThere hD,gD,acc,hacc,racc⟩⟩
def bU (hg:∀H0 G0 par br bx C ex s3 H3 pn,SG (dF X NB scope C ex s3 H3 pn) (Γ.dF H0 G0 par br bx) tg t)(C:Addr)(ex:List Addr)(s3:Shared)(H3:Hp)(pn:List (Addr×Obj)):PG (dF X NB scope C ex s3 H3 pn) tg (gU Γ t):=by
 rintro pins s σ H v u Q I r ⟨H0,G0,par,br,bx,q⟩
 exact hg H0 G0 par br bx C ex s3 H3 pn pins s σ H v u Q I r q
def eZ (Lc:List Nat)(hc:X.calm=true)(S:bG X NB own ixs scope)(hLc:∀i,i∈Lc->Γ.br i=false)(hi:SI X Γ E tg iter fi Li .b)
  (hg:∀H0 G0 par br bx C ex s3 H3 pn,SG (dF X NB scope C ex s3 H3 pn) (Γ.dF H0 G0 par br bx) tg t)
  (ht:∀H0 G0 par br bx C ex s3 H3 pn,(∀j,CN own ixs Lc j=true->br j=false)->vh (dF X NB scope C ex s3 H3 pn) ifs (qT (Γ.dF H0 G0 par br bx) E0 ft Lt))
  (he:∀H0 G0 par br bx C ex s3 H3 pn,(∀j,CN own ixs Lc j=true->br j=false)->SE (dF X NB scope C ex s3 H3 pn) (Γ.dF H0 G0 par br bx) E0 elt fe Le .v)
  (hs:∀x,foldedSetIterable iter X.env x=pure x:=by intro _;rfl) :
  SE X Γ E (.ListComp elt [⟨tg,iter,ifs,0⟩] scope pos) (bL own ixs t fi ft fe) (Li ++ Lc) .w:=by
 refine PE.post' (tP (g:=gU Γ t) (tt:=tU Γ own ixs Lc ft Lt) (te:=eU Γ own ixs Lc fe Le) hc S hi (bU hg) (λC ex s3 H3 pn=>?_) (λC ex s3 H3 pn=>?_) hs) λσ H Q h=>Cs hLc h
 ·rintro pins s σ H Q I ⟨H0,G0,par,br,bx,b,q⟩
  exact ht H0 G0 par br bx C ex s3 H3 pn b pins s σ H Q I q
 ·rintro pins s σ H Q I ⟨H0,G0,par,br,bx,b,q⟩
  exact he H0 G0 par br bx C ex s3 H3 pn b pins s σ H Q I q
def Br {i:Nat}{y:Str}{py spos:Pos}(Lc:List Nat)(hc:X.calm=true)(S:bG X NB own ixs scope)(hLc:∀i,i∈Lc->Γ.br i=false)(hi:SI X Γ E tg iter fi Li .b)
  (hg:∀H0 G0 par br bx C ex s3 H3 pn,SG (dF X NB scope C ex s3 H3 pn) (Γ.dF H0 G0 par br bx) tg t)
  (ht:∀H0 G0 par br bx C ex s3 H3 pn,(∀j,CN own ixs Lc j=true->br j=false)->vh (dF X NB scope C ex s3 H3 pn) ifs (qT (Γ.dF H0 G0 par br bx) E0 ft Lt))
  (he:∀H0 G0 par br bx C ex s3 H3 pn,(∀j,CN own ixs Lc j=true->br j=false)->SE (dF X NB scope C ex s3 H3 pn) (Γ.dF H0 G0 par br bx) E0 elt fe Le .v)
  (hN:X.N.Nodup) (hy:X.N[i]? =some y:=by rfl) (hl:X.env.scope.names.lookup y=some .local:=by rfl)
  (hsw:swapsWith (.ListComp elt [⟨tg,iter,ifs,0⟩] scope pos) (some (.Name y py)) spos.line X.env=pure true:=by rfl)
  (hs:∀x,foldedSetIterable iter X.env x=pure x:=by intro _;rfl) :
  SS X Γ E (.Assign [.Name y py] (.ListComp elt [⟨tg,iter,ifs,0⟩] scope pos) spos) (dv i (Li ++ Lc) (bL own ixs t fi ft fe)):=by
 refine PS.post (y0 (g:=gU Γ t) (tt:=tU Γ own ixs Lc ft Lt) (te:=eU Γ own ixs Lc fe Le) hc S hi (bU hg) (λC ex s3 H3 pn=>?_) (λC ex s3 H3 pn=>?_) hN hy hl hsw hs) λN σ H ⟨env,G,B,β,I,o⟩=>?_
 ·rintro pins s σ H Q I ⟨H0,G0,par,br,bx,b,q⟩
  exact ht H0 G0 par br bx C ex s3 H3 pn b pins s σ H Q I q
 ·rintro pins s σ H Q I ⟨H0,G0,par,br,bx,b,q⟩
  exact he H0 G0 par br bx C ex s3 H3 pn b pins s σ H Q I q
 refine Cs hLc ⟨env,G,B,β,I,cf o λd β' k v G' H' I' s' m' vo=>?_⟩
 obtain⟨G2,I2,s2,r⟩:=I.letW I' vo
 exact k B G2 H' _ (I2.set' i r) (s'.trans s2)
end
def fin:SO->FR
 | .nx _ _=>.ok .none false
 | .rt d fr _=>.ok d fr
 | .exc c=>.exc c
 |_=>.bad
def xx (n:Nat)(ds:List D):En:=ds.map Sl.fz ++ List.replicate (n - ds.length) .no
def ba (n p:Nat)(m:SF):List D->FR:=λds=>if ds.length=p then fin (m (xx n ds) 0) else .bad
abbrev Fx.fn (K:Frag)(H G:Hp)(ca:Str->Addr):Fx:=⟨K,H,G,[],ca,λ_=>false,none⟩
def SR.start {K:Frag}{H G:Hp}{ca:Str->Addr}{N:List Str}{vs:List V}{ds:List D}(s:ar G H)(r:cm K G vs ds)(hn:ds.length<=N.length):SR (Fx.fn K H G ca) none G H (start N vs) (xx N.length ds) 0:=by
 have hl:=r.len
 refine⟨s,ar.refl _,λb _ h=>h,λb o h _=>Kt.of h,λb h=>(by cases h),λb h=>(by cases h),λb h=>(by cases h),?_,λi t e=>?_,λi j a d e h=>?_⟩
 ·unfold L2.start xx;simp;omega
 ·unfold xx at e
  by_cases hi:i < ds.length
  ·rw[JV (by simpa using hi),JC,Jr hi] at e
   cases e
   obtain⟨x,hx,rx⟩:=r.at (Jr hi)
   refine⟨x,?_,rx⟩
   unfold L2.start
   rw[JV (by simpa[hl] using hi),JC,hx];rfl
  ·rw[J0 (by simpa using hi),Kd] at e
   split at e
   ·cases e;trivial
   ·cases e
 ·unfold xx at h
  have hm:=JI h
  rcases JT.mp hm with z |z
  ·obtain⟨_,_,z⟩:=KZ.mp z;cases z
  ·have:=Kl z;cases this
section
variable {P:Program}{w:World}{K:Frag}{mg:Str->Option Value}{base:Heap}{ca:Str->Addr}
def aQ {x qual:Str}{st:Stmt}{f:Addr}{fd:FuncData}{N ps:List Str}{k:Nat}{m:SF}(F:wY K x qual st f fd)(S:aC N ps (ai st))
  (hbody:∀(cdv:Value) (A:Around) (outer:List Env) (s:Shared) (H G:Hp) (E:XK),dX k (A.deeper (envOfC qual (ai st) s.heap.objs.size f cdv))->xj (jz (kU P w) P w K mg base N qual (ai st) f cdv A outer s H E) (Fx.fn K H G ca) E (cO st) m) :
  fF P w K mg base (kU P w) (k + 1) f fd ps (AH K ca ps.length (ba N.length ps.length m)):=by
 have hpn:ps.length<=N.length:=by have:=congrArg List.length S.pre;rw[Ko] at this;omega
 refine F.yw S (λvs H Q E h=>?_) (λcdv A outer s H vs Q E hr h=>?_)
 ·obtain⟨G,ds,sG,hl,r,_⟩:=h
  rw[r.len];exact hl
 ·obtain⟨G,ds,sG,hl,r,h⟩:=h
  refine⟨_,hbody cdv A outer s H G E hr,?_⟩
  have I:=SR.start (ca:=ca) (N:=N) sG r (by omega)
  refine⟨_,G,none,0,I,?_⟩
  unfold ba at h
  rw[Jk hl] at h
  have fin':∀{B G' H' σ env β},SR (Fx.fn K H G ca) B G' H' σ env β->ar H H':=λJ b o e=>J.keep b o e (λz=>by cases z)
  cases q:m (xx N.length ds) 0 with
  |nx env β=>rw[q] at h;exact λB G' H' σ J s'=>h .non G' H' (fin' J) s' J.sub (λb h1 h2=>J.new b h1 h2) Rp.non
  |bk env β=>rw[q] at h;exact h.elim
  |ct env β=>rw[q] at h;exact h.elim
  |rt d fr β=>
   rw[q] at h
   refine λB G' H' σ env v J s' rv=>h v G' H' (fin' J) s' J.sub (λb h1 h2=>J.new b h1 h2) ?_
   cases fr with
   |true=>exact rv
   |false=>exact rv
  |exc c=>rw[q] at h;exact λH' kp=>h H' λb o e=>kp b o e (λz=>by cases z)
  |bad=>rw[q] at h;exact h.elim
def BF {n:Nat}{F F':List D->FR}(h:∀ds,ds.length=n->F' ds≠.bad->F ds=F' ds){vs:List V}{H:Hp}{Q:VK}{E:XK}(q:AH K ca n F' vs H Q E):AH K ca n F vs H Q E:=by
 obtain⟨G,ds,s,hl,r,q⟩:=q
 refine⟨G,ds,s,hl,r,?_⟩
 by_cases hb:F' ds=.bad
 ·rw[hb] at q;exact q.elim
 ·rw[h ds hl hb];exact q
def cn.imp {x:Str}{ps:List Str}{k:Nat}{F F':List D->FR}(h:cn P w K mg base ca x ps k F)(i:∀ds,F' ds≠.bad->F ds=F' ds):cn P w K mg base ca x ps k F':=by
 obtain⟨f,fd,a,b,c,d⟩:=h.ex
 exact⟨⟨f,fd,a,b,c,d.imp λvs H Q E q=>BF (λds _=>i ds) q⟩,λds hn=>h.len ds (by rw[i ds hn];exact hn)⟩
def aJ {n p:Nat}{m:SF}(ds:List D)(h:ba n p m ds≠.bad):ds.length=p:=by
 unfold ba at h
 by_cases hl:ds.length=p
 ·exact hl
 ·rw[Ju hl] at h;exact absurd rfl h
def iL {N:List Str}{qual:Str}{scope:Scope}{f:Addr}{cd:Value}{A:Around}{outer:List Env}{s0:Shared}{H0:Hp}{E:XK}{Γ:Fx}{x:Str}{C:Addr}{np cpos pos:Pos}{e0:Expr}{es:List Expr}{fr:VF (List D)}{L:List Nat}(q:PySem.W.excIn K C [.type "ValueError",.type "Exception",.type "BaseException",.type "object"] "ValueError.__new__"=true)(hca:Γ.ca x=C)
  (hg:Gl (jz (kU P w) P w K mg base N qual scope f cd A outer s0 H0 E) x) (hm:mg x=some (.ref C)) (ha:SA (jz (kU P w) P w K mg base N qual scope f cd A outer s0 H0 E) Γ E (e0 :: es) fr L)
  (he:starEach (e0 :: es) (envOfC qual scope s0.heap.objs.size f cd)=(false,eval e0 (envOfC qual scope s0.heap.objs.size f cd)) :: starEach es (envOfC qual scope s0.heap.objs.size f cd):=by rfl)
  (hpl:(backTo cpos (starEach es (envOfC qual scope s0.heap.objs.size f cd))).any (·.1)=false:=by rfl) (hdb:(x == ("__debug__":Str))=false:=by decide) :
  SS (jz (kU P w) P w K mg base N qual scope f cd A outer s0 H0 E) Γ E (.Raise (some (.Call (.Name x np) (e0 :: es) [] cpos)) none pos) (λenv β=>toS (fr (vl env) β) λds _=>if ds.length<=sizeLine then .exc x else .bad):=by
 refine PS.post (zQ PySem.F.excBase_ValueError (by decide +kernel) q hg hm ha he hpl hdb) λD σ H ⟨env,G,B,β,I,o⟩=>?_
 refine⟨env,G,B,β,I,cf o λds β' k vs G' H' I' s' m' r=>?_⟩
 by_cases hz:ds.length<=sizeLine
 ·rw[Jk hz] at k
  refine⟨by rw[r.len];exact hz,?_⟩
  have:=k H' (I'.kp (ar.refl _))
  rw[hca] at this
  exact this
 ·rw[Ju hz] at k;exact k.elim
end
section
variable {X:Cx}{Γ:Fx}{E:XK}{e a b c:Expr}{f fa fb:VF D}{L La Lb:List Nat}{md ma mb:Md}{pos apos cpos np:Pos}
def rq:Option Sl->Bool
 |some (.ow (.list _))=>true
 |_=>false
theorem mV {o:Option Sl}(h:rq o=true):∃ds,o=some (.ow (.list ds)):=by
 cases o with
 |none=>cases h
 |some s=>
  cases s with
  |ow d=>cases d with
   |list ds=>exact⟨ds,rfl⟩
   |_=>cases h
  |_=>cases h
def DE (i:Nat)(env:En)(β:Int)(g:List D->Option (List D)):SO:=match env[i]? with
 |some (.ow (.list ds))=>(match g ds with
  |some es=>.nx (env.set i (.ow (.list es))) β
  |none=>.bad)
 |_=>.bad
def vv (i:Nat)(L:List Nat)(f:VF D):SF:=λenv β=>if rq env[i]? =true then toS (f (vl env) β) λd β'=>DE i (a7 L env) β' λds=>if ds.length < sizeLine then some (ds ++ [d]) else none else .bad
def rQ {Γ:Fx}{E:XK}{G:Hp}{N:Ends}{i:Nat}{env:En}{β:Int}{g:List D->Option (List D)}(h:o9 Γ E G N (DE i env β g)):∃ds es,env[i]? =some (.ow (.list ds))/\g ds=some es/\o9 Γ E G N (.nx (env.set i (.ow (.list es))) β):=by
 unfold DE at h
 split at h
 ·rename_i ds q
  cases e:g ds with
  |none=>rw[e] at h;exact h.elim
  |some es=>rw[e] at h;exact⟨ds,es,q,e,h⟩
 ·exact h.elim
def xo (i:Nat){x:Str}(hb:∀j,Γ.br j=false)(he:SE X Γ E e f L .v)(hN:X.N[i]? =some x:=by rfl)(hv:uf X.env.scope x:=by first |exact Or.inl rfl |exact Or.inr (Or.inl rfl) |exact Or.inr (Or.inr rfl))(hd:(x == ("__debug__":Str))=false:=by decide)
  (hcd:(x == ("__classdict__":Str))=false:=by decide)
  (hbase:attributeBase (.Name x np) "append" X.env (eval (.Name x np) X.env)=eval (.Name x np) X.env:=by rfl)
  (hfew:((backTo cpos (starEach [e] X.env)).all (λx=> !x.1) && (backToKw cpos (keywordEach [] X.env)).all (λx=>x.1.isSome)
   && decide ([e].length + ([]:List Keyword).length + (if ([]:List Keyword).isEmpty then 0 else 1) < 30))=true:=by rfl)
  (hline:(apos.endLine == cpos.line)=true:=by rfl) (hs:starEach [e] X.env=(false,eval e X.env) :: starEach [] X.env:=by rfl)
  (hsw:swapsWith (.Call (.Attribute (.Name x np) "append" apos) [e] [] cpos) none pos.line X.env=pure false:=by rfl) :
  SS X Γ E (.Expr (.Call (.Attribute (.Name x np) "append" apos) [e] [] cpos) pos) (vv i L f):=by
 refine PS.post (qQ (yH PySem.F.plainAttrs_list PySem.F.slot_list_append PySem.F.type_list_append j0 (gC hN hv hd hcd) (aj he aI hs) hbase hfew hline hs rfl) hsw) λN σ H ⟨env,G,B,β,I,o⟩=>?_
 unfold vv at o
 by_cases hO:rq env[i]? =true
 case neg=>rw[Ju hO] at o;exact o.elim
 rw[Jk hO] at o
 obtain⟨ds0,q0⟩:=mV hO
 obtain⟨p,h1,_,_,_,xs,h5,_⟩:=I.slot i _ q0
 refine⟨_,h1,.inl ⟨rfl,xs,.inl (.inl h5)⟩,?_⟩
 refine⟨env,G,B,β,I,cf o λd β' k v G' H' I' s' m' vo=>?_⟩
 obtain⟨ds,es,q,eg,k⟩:=rQ k
 by_cases hz:ds.length < sizeLine
 case neg=>rw[Ju hz] at eg;cases eg
 rw[Jk hz] at eg
 cases eg
 obtain⟨p',g1,_,_,_,ys,g5,g6⟩:=I'.slot i _ q
 rw[h1] at g1;cases g1
 refine⟨p,ys,v,rfl,rfl,g5,by rw[g6.len];exact hz,?_⟩
 exact k B G' _ σ (I'.write hb q h1 λH2 e2 s2=>⟨_,e2,g6.snoc vo⟩) s'
def Inv.lstR {pins:List (Addr×Obj)}{σ:St}{H:Hp}{s:Shared}{l:Addr}{xs:List V}(I:Inv X pins σ H s)(hH:Rd H l (.lst xs)):xs.length<=sizeLine/\∃(its:List Value) (n:Nat),Vals xs its/\xs.length=its.length/\s.heap.get? l=some {cls:=.type "list",data:=.seq its.toArray n}:=by
 obtain⟨z,its,n,r,e⟩:=hH.ok I.hok
 exact⟨z,its,n,r,r.length,e⟩
def sv (i:Nat)(Le Li:List Nat)(fe fi:VF D):SF:=λenv β=>toS (fe (vl env) β) λd β1=>if rq (a7 Le env)[i]? =true then toS (fi (vl env) β1) λk β2=>DE i (a7 (Le ++ Li) env) β2 λds=>match k with
 | .int j=>(ue ds.length j).map λn=>ds.set n d
 |_=>none else .bad
theorem BM (i:Nat){x:Str}{spos:Pos}(hb:∀j,Γ.br j=false)(he:SE X Γ E e f La .v)(hi:SE X Γ E a fa Lb mb)(hN:X.N[i]? =some x:=by rfl)(hv:uf X.env.scope x:=by first |exact Or.inl rfl |exact Or.inr (Or.inl rfl) |exact Or.inr (Or.inr rfl))(hd:(x == ("__debug__":Str))=false:=by decide)
  (hcd:(x == ("__classdict__":Str))=false:=by decide)
  (hA:∀v,assign (.Subscript (.Name x np) a spos) X.env v=(do
   let ov <-holding [v] (eval (.Name x np) X.env)
   let iv <-holding [v,ov] (eval a X.env)
   standAt spos
   holding [v,ov,iv] (setItem ov iv v)
   release [v,ov,iv] []):=by intro _;rfl)
  (hs:swapsWithSole [.Subscript (.Name x np) a spos] e pos.line X.env=pure false:=by rfl) (hw:swappedStores [.Subscript (.Name x np) a spos] e X.env=pure none:=by rfl)
  (h1:(assignEach [.Subscript (.Name x np) a spos] X.env).map (·.2)= [assign (.Subscript (.Name x np) a spos) X.env]:=by rfl) :
  SS X Γ E (.Assign [.Subscript (.Name x np) a spos] e pos) (sv i La Lb f fa):=by
 refine PS.post (nX he (qV (gC hN hv hd hcd) hi set_list hA) hs hw h1) λN σ H ⟨env,G,B,β,I,o⟩=>?_
 refine⟨env,G,B,β,I,cf o λd β1 o v G1 H1 I1 s1 m1 vo=>?_⟩
 by_cases hO:rq (a7 La env)[i]? =true
 case neg=>rw[Ju hO] at o;exact o.elim
 rw[Jk hO] at o
 obtain⟨ds0,q0⟩:=mV hO
 obtain⟨p,h1,_,_,_,xs,h5,_⟩:=I1.slot i _ q0
 refine⟨_,h1,a7 La env,G1,B,β1,I1,?_⟩
 rw[eS]
 refine cf o λk β2 o w G2 H2 I2 s2 m2 vi=>?_
 rw[<-cv] at I2
 obtain⟨ds,es,q,eg,o⟩:=rQ o
 cases k with
 |int j=>
  dsimp only at eg
  obtain rfl:=(vi.brw I1.boxThere).int
  obtain⟨p',g1,_,_,_,ys,g5,g6⟩:=I2.slot i _ q
  rw[h1] at g1;cases g1
  cases en:ue ds.length j with
  |none=>rw[en] at eg;cases eg
  |some n=>
   rw[en] at eg
   cases eg
   have vo:Rp Γ.K G1 v d:=vo
   refine⟨p,ys,j,n,rfl,rfl,g5,by rw[g6.len];exact en,?_⟩
   exact o B G2 _ σ (I2.write hb q h1 λH3 e3 s3=>⟨_,e3,g6.set (vo.mono s2) n⟩) (s1.trans s2)
 |_=>cases eg
end
section
variable {K:Frag}{X:Cx}
def sd {g:Int->Int->V}{gd:D->D->Option D}(h:∀dx dy d,gd dx dy=some d->∃i j,dx=.int i/\dy=.int j/\∀G,Rp K G (g i j) d):mj K (xh g) gd .v:=by
 intro B G H x y dx dy d Q s hB bx by' e k
 obtain⟨i,j,rfl,rfl,r⟩:=h _ _ _ e
 obtain rfl:=bx.int
 obtain rfl:=by'.int
 exact⟨i,j,rfl,rfl,k _ G H (Ext.refl s) (r G)⟩
def vS {C:Int->Int->Prop}{g:Int->Int->V}{gd:D->D->Option D}(h:∀dx dy d,gd dx dy=some d->∃i j,dx=.int i/\dy=.int j/\C i j/\∀G,Rp K G (g i j) d):mj K (rI C g) gd .v:=by
 intro B G H x y dx dy d Q s hB bx by' e k
 obtain⟨i,j,rfl,rfl,c,r⟩:=h _ _ _ e
 obtain rfl:=bx.int
 obtain rfl:=by'.int
 exact⟨i,j,rfl,rfl,c,k _ G H (Ext.refl s) (r G)⟩
def gI (c:Int->Int->Bool)(g:Int->Int->D):D->D->Option D
 | .int i,.int j=>if c i j=true then some (g i j) else none
 |_,_=>none
def uF (g:Int->Int->D):D->D->Option D
 | .int i,.int j=>some (g i j)
 |_,_=>none
def wU {c:Int->Int->Bool}{g:Int->Int->D}{dx dy d:D}(h:gI c g dx dy=some d):∃i j,dx=.int i/\dy=.int j/\c i j=true/\d=g i j:=by
 unfold gI at h
 split at h
 ·split at h
  ·cases h;exact⟨_,_,rfl,rfl,by assumption,rfl⟩
  ·cases h
 ·cases h
def kK {g:Int->Int->D}{dx dy d:D}(h:uF g dx dy=some d):∃i j,dx=.int i/\dy=.int j/\d=g i j:=by
 unfold uF at h
 split at h
 ·cases h;exact⟨_,_,rfl,rfl,rfl⟩
 ·cases h
def CC:D->D->Option D:=uF λi j=>.int (i - j)
def FZ:mj K (xh λi j=>.int (i - j)) CC .v:=sd λdx dy d h=>by obtain⟨i,j,rfl,rfl,rfl⟩:=kK h;exact⟨i,j,rfl,rfl,λ_=>.int _⟩
def EL:D->D->Option D:=gI (λ_ j=>decide (0 < j) && decide (j < 1073741824)) λi j=>.int (i / j)
def Fj:mj K (rI Ck λi j=>.int (i / j)) EL .v:=vS λdx dy d h=>by obtain⟨i,j,rfl,rfl,c,rfl⟩:=wU h;exact⟨i,j,rfl,rfl,by simpa[Ck] using c,λ_=>.int _⟩
def jy:D->D->Option D:=gI (λ_ j=>decide (0 < j)) λi j=>.int (i % j)
def pK:mj K (rI (λ_ j=>0 < j) λi j=>.int (i % j)) jy .v:=vS λdx dy d h=>by obtain⟨i,j,rfl,rfl,c,rfl⟩:=wU h;exact⟨i,j,rfl,rfl,by simpa using c,λ_=>.int _⟩
def Em (i j:Int):Bool:=decide (0<=j) && decide (j<=1000000) && decide (i.natAbs < 2 ^ 64)
def A8:D->D->Option D:=gI Em λi j=>.int (i ^ j.toNat)
def Cf {i j:Int}(h:Em i j=true):Eg i j:=by
 unfold Em at h
 simp only[JD,JN] at h
 exact⟨h.1.1,h.1.2,h.2⟩
def CA:mj K (rI Eg λi j=>.int (i ^ j.toNat)) A8 .v:=vS λdx dy d h=>by obtain⟨i,j,rfl,rfl,c,rfl⟩:=wU h;exact⟨i,j,rfl,rfl,Cf c,λ_=>.int _⟩
def pG:D->D->Option D:=uF λi j=>.bool (decide (i < j))
def AA:D->D->Option D:=uF λi j=>.bool (decide (i<=j))
def Ek:D->D->Option D:=uF λi j=>.bool (decide (j < i))
def yq:mj K (xh λi j=>.bl (decide (i < j))) pG .v:=sd λdx dy d h=>by obtain⟨i,j,rfl,rfl,rfl⟩:=kK h;exact⟨i,j,rfl,rfl,λ_=>.bl _⟩
def Dw:mj K (xh λi j=>.bl (decide (i<=j))) AA .v:=sd λdx dy d h=>by obtain⟨i,j,rfl,rfl,rfl⟩:=kK h;exact⟨i,j,rfl,rfl,λ_=>.bl _⟩
def ER:mj K (xh λi j=>.bl (decide (j < i))) Ek .v:=sd λdx dy d h=>by obtain⟨i,j,rfl,rfl,rfl⟩:=kK h;exact⟨i,j,rfl,rfl,λ_=>.bl _⟩
mutual
theorem wG:∀d:D,d.canLay0=true->Ah d=true
 | .none,_=>rfl
 | .bool _,_=>rfl
 | .int _,_=>rfl
 | .str _,_=>rfl
 | .list ds,h=>by simp only[PyData.canLay0] at h;simp only[Ah];exact nZ ds h
 | .tuple ds,h=>by simp only[PyData.canLay0] at h;simp only[Ah];exact nZ ds h
 | .dict _,h=>by simp[PyData.canLay0] at h
theorem nZ:∀ds:List D,PyData.canLayAll0 ds=true->o3 ds=true
 | [],_=>rfl
 |d :: ds,h=>by
  simp only[PyData.canLayAll0,JD] at h
  simp only[o3,JD]
  exact⟨wG d h.1,nZ ds h.2⟩
end
def rz {d:D}(h:SeqAt.shaped d=true):Ah d=true:=wG d (KR h)
theorem wx:∀{ds:List D},(ds.all SeqAt.shaped)=true->o3 ds=true
 | [],_=>rfl
 |d :: ds,h=>by
  rw[all_cons,JD] at h
  simp only[o3,JD]
  exact⟨rz h.1,wx h.2⟩
def fN (neg:Bool)(x y:D):Option D:=if (SeqAt.shaped x && SeqAt.shaped y)=true then some (.bool (if neg then !PyData.eqv x y else PyData.eqv x y)) else none
def fA {neg:Bool}:mj K (D0 K neg) (fN neg) .v:=by
 intro B G H x y dx dy d Q s hB bx by' e k
 unfold fN at e
 split at e
 ·rename_i h
  rw[JD] at h
  cases e
  exact⟨dx,dy,(bx.rpH s).rep (rz h.1),(by'.rpH s).rep (rz h.2),h.1,h.2,k _ G H (Ext.refl s) (.bl _)⟩
 ·cases e
def Cb (neg:Bool)(x y:D):Option D:=match kA y with
 |some ds=>if (SeqAt.shaped x && ds.all SeqAt.shaped)=true then some (.bool (if neg then !(ds.any λe=>PyData.eqv e x) else ds.any λe=>PyData.eqv e x)) else none
 |none=>none
theorem kr.seq {B:Option Addr}{G H:Hp}{v:V}{d:D}{ds:List D}(h:kr K B G H v d)(e:kA d=some ds)(s:ar G H):∃a xs,v=.ref a/\(fP K H a xs\/dW K H a xs)/\cm K G xs ds:=by
 cases d with
 |list l=>cases e;obtain⟨a,xs,e,q,r⟩:=h.list s;exact⟨a,xs,e,.inl (.inl q),r⟩
 |tuple l=>cases e;obtain⟨a,xs,e,q,r⟩:=h.tuple s;exact⟨a,xs,e,.inr q,r⟩
 |_=>cases e
theorem FT {neg:Bool}:mj K (FF K neg) (Cb neg) .v:=by
 intro B G H x y dx dy d Q s hB bx by' e k
 unfold Cb at e
 cases q:kA dy with
 |none=>rw[q] at e;cases e
 |some ds=>
  rw[q] at e
  dsimp only at e
  split at e
  ·rename_i h
   rw[JD] at h
   cases e
   obtain⟨a,xs,rfl,hq,r⟩:=by'.seq q s
   refine⟨a,xs,dx,ds,rfl,hq,(r.mono s).reps (wx h.2),(bx.rpH s).rep (rz h.1),h.1,λe he=>Kq.mp h.2 e he,k _ G H (Ext.refl s) (.bl _)⟩
  ·cases e
def BD:D->Bool
 | .none=>true
 |_=>false
theorem cm.ints {G:Hp}:∀ns:List Int,cm K G (ns.map V.int) (ns.map int)
 | []=>.nil
 |n :: ns=>.cons (.int n) (cm.ints ns)
theorem yy.noNone {G:Hp}{kvs:List (Key×V)}{d:D}{r:List (D×D)}(h:yy K G kvs ((.none,d) :: r)):False:=by
 generalize e:(PyData.none,d) :: r=l at h
 cases h with
 |nil=>cases e
 | @cons k x xs d' ds _ _=>
  injection e with e1 _
  injection e1 with e2 _
  cases k <;> cases e2
theorem yx.noNone {G:Hp}{kvs:List (List Key×V)}{d:D}{r:List (D×D)}(h:yx K G kvs ((.none,d) :: r)):False:=by
 generalize e:(PyData.none,d) :: r=l at h
 cases h with
 |nil=>cases e
 | @cons k x xs d' ds _ _=>
  injection e with e1 _
  injection e1 with e2 _
  cases e2
def kr.scr {B:Option Addr}{G H:Hp}{v:V}{ds:List D}(h:kr K B G H v (.dict [(.none,.list ds)]))(s:ar G H):∃a xs,v=.ref a/\fP K H a xs/\cm K G xs ds:=by
 rcases h with h | ⟨a,rfl,n,h⟩
 ·cases h with
  | @scr a ns q=>exact⟨a,_,rfl,s.seq q,cm.ints ns⟩
  |dK _ r=>exact r.noNone.elim
  |dT _ r=>exact r.noNone.elim
 ·rcases h with⟨_,_,r⟩ | ⟨_,_,r⟩
  ·exact r.noNone.elim
  ·exact r.noNone.elim
def gN:D->D->Option D
 | .list ds,.int i=>kg ds i
 | .tuple ds,.int i=>kg ds i
 | .str z,.int i=>if z.length<=sizeLine then (kg z.cps.toList i).map λc=>.str ⟨#[c]⟩ else none
 | .dict [(.none,.list ds)],.int i=>kg ds i
 |_,_=>none
theorem qW {G:Hp}{xs:List V}{ds:List D}{i:Int}{d:D}(r:cm K G xs ds)(h:kg ds i=some d):∃x,kg xs i=some x/\Rp K G x d:=by
 unfold kg at h ⊢
 rw[r.len]
 cases e:ue ds.length i with
 |none=>rw[e] at h;cases h
 |some j=>rw[e] at h;exact r.at h
theorem fG:mj K (IM K) gN .v:=by
 intro B G H x y dx dy d Q s hB bx by' e k
 cases dx with
 |list ds=>
  cases dy with
  |int i=>
   obtain rfl:=by'.int
   obtain⟨a,xs,rfl,q,r⟩:=bx.list s
   obtain⟨v,ev,rv⟩:=qW r e
   exact .inl ⟨a,xs,i,v,rfl,rfl,.inl q,ev,k _ G H (Ext.refl s) rv⟩
  |_=>cases e
 |tuple ds=>
  cases dy with
  |int i=>
   obtain rfl:=by'.int
   obtain⟨a,xs,rfl,q,r⟩:=bx.tuple s
   obtain⟨v,ev,rv⟩:=qW r e
   exact .inr (.inl ⟨a,xs,i,v,rfl,rfl,q,ev,k _ G H (Ext.refl s) rv⟩)
  |_=>cases e
 |str z=>
  cases dy with
  |int i=>
   obtain rfl:=by'.int
   obtain rfl:=bx.str
   simp only[gN] at e
   split at e
   ·rename_i hz
    cases q:kg z.cps.toList i with
    |none=>rw[q] at e;cases e
    |some c=>rw[q] at e;cases e;exact .inr (.inr ⟨z,i,c,rfl,rfl,hz,q,k _ G H (Ext.refl s) (.str _)⟩)
   ·cases e
  |_=>cases e
 |none=>cases dy <;> cases e
 |bool b=>cases dy <;> cases e
 |int b=>cases dy <;> cases e
 |dict b=>
  obtain⟨ds,i,rfl,rfl,e⟩:∃ds i,b= [(.none,.list ds)]/\dy=.int i/\kg ds i=some d:=by
   unfold gN at e
   split at e
   ·contradiction
   ·contradiction
   ·contradiction
   ·rename_i h;cases h;exact⟨_,_,rfl,rfl,e⟩
   ·cases e
  obtain rfl:=by'.int
  obtain⟨a,xs,rfl,q,r⟩:=bx.scr s
  obtain⟨v,ev,rv⟩:=qW r e
  exact .inl ⟨a,xs,i,v,rfl,rfl,q,ev,k _ G H (Ext.refl s) rv⟩
def fR:D->Option D
 | .list ds=>some (.int ds.length)
 | .tuple ds=>some (.int ds.length)
 | .str z=>if z.length<=sizeLine then some (.int z.length) else none
 | .dict [(.none,.list ds)]=>some (.int ds.length)
 |_=>none
def Hn (K:Frag):List V->Hp->VK->Prop:=λxs H Q=>∃x n,xs= [x]/\GF K x H n/\Q (.int n) H
def ml:AX K (λx=>Hn K [x]) fR .v:=by
 intro B G H x dx d Q s hB bx e k
 unfold fR at e
 split at e
 ·cases e;obtain⟨a,xs,rfl,q,r⟩:=bx.list s;exact⟨_,_,rfl,.inl ⟨xs,.inl q,r.len.symm⟩,k _ G H (Ext.refl s) (.int _)⟩
 ·cases e;obtain⟨a,xs,rfl,q,r⟩:=bx.tuple s;exact⟨_,_,rfl,.inr ⟨xs,q,r.len.symm⟩,k _ G H (Ext.refl s) (.int _)⟩
 ·obtain rfl:=bx.str
  split at e
  ·rename_i hz;cases e;exact⟨_,_,rfl,⟨hz,rfl⟩,k _ G H (Ext.refl s) (.int _)⟩
  ·cases e
 ·cases e;obtain⟨a,xs,rfl,q,r⟩:=bx.scr s;exact⟨_,_,rfl,.inl ⟨xs,q,r.len.symm⟩,k _ G H (Ext.refl s) (.int _)⟩
 ·cases e
def rV:D->Option D
 | .list ds=>some (.tuple ds)
 | .tuple ds=>some (.tuple ds)
 |_=>none
theorem rC:AX K (λx H Q=>∃p ys,[x]= [.ref p]/\((fP K H p ys/\∀l,H l=none->Q (.ref l) (upd H l (.tup ys)))\/(dW K H p ys/\Q (.ref p) H))) rV .v:=by
 intro B G H x dx d Q s hB bx e k
 cases dx with
 |list ds=>
  cases e
  obtain⟨a,xs,rfl,q,r⟩:=bx.list s
  refine⟨a,xs,rfl,.inl ⟨.inl q,λl hl=>?_⟩⟩
  have x:=Ext.new s (o:=.tup xs) hl
  exact k _ _ _ x (.tup (.inl (.inl aq)) (r.mono x.gg))
 |tuple ds=>
  cases e
  rcases bx with bx | ⟨_,_,_,z⟩
  ·cases bx with
   | @tup a xs _ hq r=>exact⟨a,xs,rfl,.inr ⟨hq.grow s.grow,k _ G H (Ext.refl s) (.tup hq r)⟩⟩
  ·exact z.elim
 |_=>cases e
def wR:D->Option D
 | .list ds=>some (.list ds)
 | .tuple ds=>some (.list ds)
 |_=>none
def yS:AX K (λx H Q=>∃p ys,[x]= [.ref p]/\(fP K H p ys\/dW K H p ys)/\∀l,H l=none->Q (.ref l) (upd H l (.lst ys))) wR .w:=by
 intro B G H x dx d Q s hB bx e k
 obtain⟨ds,e1,rfl⟩:∃ds,kA dx=some ds/\d=.list ds:=by
  cases dx <;> cases e <;> exact⟨_,rfl,rfl⟩
 obtain⟨a,xs,rfl,hq,r⟩:=bx.seq e1 s
 refine⟨a,xs,rfl,hq,λl hl=>?_⟩
 exact k _ _ _ (Ext.own s (o:=.lst xs) hl) ⟨l,rfl,hl,s.free hl,xs,aq,r⟩
def jJ:List D->Option (List Bool)
 | []=>some []
 | .bool b :: ds=>(jJ ds).map (b :: ·)
 |_=>none
theorem pP {G:Hp}:∀{ds:List D} {bs:List Bool} {xs:List V},jJ ds=some bs->cm K G xs ds->xs=bs.map V.bl
 | [],bs,xs,e,r=>by cases e;cases r;rfl
 | .bool b :: ds,bs,xs,e,r=>by
  cases r with
  |cons r1 r2=>
   cases r1
   simp only[jJ] at e
   cases q:jJ ds with
   |none=>rw[q] at e;cases e
   |some cs=>rw[q] at e;cases e;rw[pP q r2];rfl
 | .none :: _,_,_,e,_=>by cases e
 | .int _ :: _,_,_,e,_=>by cases e
 | .str _ :: _,_,_,e,_=>by cases e
 | .list _ :: _,_,_,e,_=>by cases e
 | .tuple _ :: _,_,_,e,_=>by cases e
 | .dict _ :: _,_,_,e,_=>by cases e
def bX (f:List Bool->Bool):D->Option D
 | .list ds=>(jJ ds).map λbs=>.bool (f bs)
 |_=>none
theorem i1 {f:List Bool->Bool}:AX K (λx=>uA K f [x]) (bX f) .v:=by
 intro B G H x dx d Q s hB bx e k
 cases dx with
 |list ds=>
  simp only[bX] at e
  cases q:jJ ds with
  |none=>rw[q] at e;cases e
  |some bs=>
   rw[q] at e
   cases e
   obtain⟨a,xs,rfl,hq,r⟩:=bx.list s
   obtain rfl:=pP q r
   exact⟨a,bs,rfl,.inl hq,k _ G H (Ext.refl s) (.bl _)⟩
 |_=>cases e
def CB:R2:=λx y H Q=>∃l b xs zs,x=.ref l/\y=.ref b/\Rd H l (.lst xs)/\Rd H b (.lst zs)/\xs.length + zs.length<=sizeLine/\∀p,H p=none->Q (.ref p) (upd H p (.lst (xs ++ zs)))
def BC:kN X (binaryOp .Add) CB:=by
 intro pins s σ H x y v u Q I rx ry h
 obtain⟨l,b,xs,zs,rfl,rfl,hH,hB,hz,q⟩:=h
 cases rx
 cases ry
 obtain⟨z,its,n,r,hl,e⟩:=I.lstR hH
 obtain⟨z2,its2,n2,r2,hl2,e2⟩:=I.lstR hB
 refine PySem.P.add_list e e2 ?_ (by rw[Jo,Jo];omega)
 have ea:its.toArray ++ its2.toArray=(its ++ its2).toArray:=by simp
 rw[ea]
 exact⟨.ref _,_,I.lnew (t':=s.toks) (r.append r2) (by rw[JP];omega),rfl,q _ I.fresh⟩
def B4:D->D->Option D
 | .list a,.list b=>if a.length + b.length<=sizeLine then some (.list (a ++ b)) else none
 |_,_=>none
def Fq:mj K CB B4 .w:=by
 intro B G H x y dx dy d Q s hB bx by' e k
 cases dx <;> cases dy <;> first | (cases e;done) |skip
 rename_i a b
 simp only[B4] at e
 split at e
 ·rename_i hz
  cases e
  obtain⟨p,xs,rfl,q1,r1⟩:=bx.list s
  obtain⟨p2,ys,rfl,q2,r2⟩:=by'.list s
  refine⟨p,p2,xs,ys,rfl,rfl,q1,q2,by rw[r1.len,r2.len];exact hz,λl hl=>?_⟩
  exact k _ _ _ (Ext.own s (o:=.lst (xs ++ ys)) hl) ⟨l,rfl,hl,s.free hl,_,aq,r1.append r2⟩
 ·cases e
def cD:D->D->Option D:=uF λi j=>.int (i + j)
def jj:mj K (xh λi j=>.int (i + j)) cD .v:=sd λdx dy d h=>by obtain⟨i,j,rfl,rfl,rfl⟩:=kK h;exact⟨i,j,rfl,rfl,λ_=>.int _⟩
def cU:D->D->Option D:=gI (λi j=>(decide (-(2 ^ 64) < i) && decide (i < 2 ^ 64)) || (decide (-(2 ^ 64) < j) && decide (j < 2 ^ 64))) λi j=>.int (i * j)
def kJ:mj K (rI Ay λi j=>.int (i * j)) cU .v:=vS λdx dy d h=>by obtain⟨i,j,rfl,rfl,c,rfl⟩:=wU h;exact⟨i,j,rfl,rfl,by simpa[Ay] using c,λ_=>.int _⟩
def yF:D->D->Option D
 | .list a,.int k=>if -(2 ^ 63)<=k/\k < 2 ^ 63/\a.length * k.toNat<=sizeLine then some (.list (List.replicate k.toNat a).flatten) else none
 |_,_=>none
def EB {a b:Expr}{fa fb:VF D}{La Lb:List Nat}{mb:Md}{Γ:Fx}{E:XK}{pos:Pos}(ha:SE X Γ E a fa La .w)(hb:SE X Γ E b fb Lb mb):SE X Γ E (.BinOp a .Mult b pos) (f2 fa fb yF) (La ++ Lb) .w:=by
 refine PE.post' (lj zI ha hb) λσ H Q ⟨env,G,B,β,I,o⟩=>?_
 refine⟨env,G,B,β,I,o.bnd.imp λd1 β1 h x G1 H1 I1 s1 m1 vx=>⟨a7 La env,G1,B,β1,I1,?_⟩⟩
 rw[eS]
 refine h.bnd.imp λd2 β2 h y G2 H2 I2 s2 m2 vy=>?_
 obtain⟨d,e,k⟩:=h.of
 rw[<-cv] at I2
 obtain⟨p,rfl,p1,p2,p3⟩:=vx
 have by':=vy.brw I1.boxThere
 cases d1 <;> cases d2 <;> first | (cases e;done) |skip
 rename_i l j
 obtain rfl:=by'.int
 simp only[yF] at e
 split at e
 ·rename_i hz
  cases e
  obtain⟨xs,q,r⟩:=p3
  obtain⟨q1,q2,q3,q4⟩:=I.fresh p1
  have r2:=r.mono s2
  refine⟨p,j,xs,rfl,rfl,m2.1 _ _ q q3,hz.1,hz.2.1,by rw[r.len];exact hz.2.2,λl hl=>?_⟩
  have x:=Ext.own I2.sub (o:=.lst (List.replicate j.toNat xs).flatten) hl
  exact k _ _ _ (I2.ext x) ((s1.trans s2).trans x.gg) ((m1.trans m2).trans (x.hh.mov B)) ⟨l,rfl,gr (m1.trans m2) I2.boxThere hl,I2.sub.free hl,_,aq,r2.rep⟩
 ·cases e
def DS:D->Option D
 | .int i=>some (.int (-i))
 |_=>none
theorem Cw:AX K (rU λi=>.int (-i)) DS .v:=by
 intro B G H x dx d Q s hB bx e k
 cases dx with
 |int i=>cases e;obtain rfl:=bx.int;exact⟨i,rfl,k _ G H (Ext.refl s) (.int _)⟩
 |_=>cases e
def FH:D->String
 | .none=>"NoneType"
 | .bool _=>"bool"
 | .int _=>"int"
 | .str _=>"str"
 | .list _=>"list"
 | .tuple _=>"tuple"
 | .dict _=>"dict"
def yK (d:D)(T:String):Bool:=FH d == T || (T == "int" && FH d == "bool")
def dZ:D->Bool
 | .dict ((.none,_) :: _)=>true
 |_=>false
def ic (T:String)(d:D):Option D:=if dZ d=true then none else some (.bool (yK d T))
def IT (K:Frag)(H:Hp)(x:V)(t:String):Prop:=AY K H x t\/(t="dict"/\∃a kvs,x=.ref a/\H a=some (.dT kvs))
def FI (K:Frag):List V->Hp->VK->Prop:=λxs H Q=>∃x T t b,xs= [x,.ty T]/\IT K H x t/\PySem.W.kitOne K (.type t) (.type T)=some b/\Q (.bl b) H
def Ar:cZ X (.builtin "isinstance") (FI X.K):=by
 intro pins s σ H xs us Q I r h
 obtain⟨x,T,t,b,rfl,ty,e,q⟩:=h
 rcases ty with ty | ⟨rfl,a,kvs,rfl,hk⟩
 ·exact yJ pins s σ H _ us Q I r ⟨x,T,t,b,rfl,ty,e,q⟩
 ·obtain⟨u,c,rfl,rx,rc⟩:=vals2 r
  cases rc
  cases rx
  obtain⟨_,_,_,_,o,_,_,e2,ex,_⟩:=I.hok a _ hk
  exact JR PySem.W.kitx_dict I.kIn ⟨o,e2,ex.1⟩ e (λz=>nomatch z) λtk=>⟨.bl b,H,I.tok tk,rfl,q⟩
theorem kr.ty {B:Option Addr}{G H:Hp}{v:V}{d:D}(h:kr K B G H v d)(s:ar G H)(n:dZ d=false):IT K H v (FH d):=by
 cases d with
 |none=>obtain rfl:=h.none;exact .inl .non
 |bool b=>obtain rfl:=h.bool;exact .inl (.bl b)
 |int b=>obtain rfl:=h.int;exact .inl (.int b)
 |str b=>obtain rfl:=h.str;exact .inl (.str b)
 |list b=>obtain⟨a,xs,rfl,q,_⟩:=h.list s;exact .inl (.lst (.inl q))
 |tuple b=>obtain⟨a,xs,rfl,q,_⟩:=h.tuple s;exact .inl (.tup q)
 |dict b=>
  rcases h with h | ⟨a,rfl,_,h⟩
  ·cases h with
   |scr _=>cases n
   |dK q _=>exact .inl (.dic (s _ _ q))
   |dT q _=>exact .inr ⟨rfl,_,_,rfl,s _ _ q⟩
  ·rcases h with⟨_,q,_⟩ | ⟨_,q,_⟩
   ·exact .inl (.dic q)
   ·exact .inr ⟨rfl,_,_,rfl,q⟩
theorem Fg {d:D}{T:String}(hT:T∈ ["int","bool","str","list","tuple","dict"]):PySem.W.kitOne K (.type (FH d)) (.type T)=some (yK d T):=by
 simp only[Jn,JG,J3] at hT
 cases d with
 |dict l=>rcases hT with rfl |rfl |rfl |rfl |rfl |rfl <;> rfl
 |none=>rcases hT with rfl |rfl |rfl |rfl |rfl |rfl <;> rfl
 |bool _=>rcases hT with rfl |rfl |rfl |rfl |rfl |rfl <;> rfl
 |int _=>rcases hT with rfl |rfl |rfl |rfl |rfl |rfl <;> rfl
 |str _=>rcases hT with rfl |rfl |rfl |rfl |rfl |rfl <;> rfl
 |list _=>rcases hT with rfl |rfl |rfl |rfl |rfl |rfl <;> rfl
 |tuple _=>rcases hT with rfl |rfl |rfl |rfl |rfl |rfl <;> rfl
def ko {a:Expr}{fa:VF D}{La:List Nat}{ma:Md}{Γ:Fx}{E:XK}{pos p p2:Pos}(T:String){y:Str}(hT:T∈ ["int","bool","str","list","tuple","dict"])(hK:X.K=Γ.K)(hg:Gl X "isinstance")(hm:X.mg "isinstance"=none)(hgT:Gl X y)(hmT:X.mg y=none)(hvT:bootBuiltins y=some (.type T))(ha:SE X Γ E a fa La ma)
  (hnT:y≠"__name__":=by decide) (hdT:(y == ("__debug__":Str))=false:=by decide)
  (he:starEach [a,.Name y p2] X.env=(false,eval a X.env) :: starEach [.Name y p2] X.env:=by rfl) (he2:starEach [.Name y p2] X.env=(false,eval (.Name y p2) X.env) :: starEach [] X.env:=by rfl) (hpl:(backTo pos (starEach [.Name y p2] X.env)).any (·.1)=false:=by rfl) :
  SE X Γ E (.Call (.Name "isinstance" p) [a,.Name y p2] [] pos) (f1 fa (ic T)) La .v:=by
 refine PE.post' (aY Ar hg hm (by decide +kernel) (aj ha (aj (we hgT hmT hvT (show RelV (.ty T) _ from rfl) hnT hdT) aI he2) he) (by decide) (by decide) he hpl) λσ H Q ⟨env,G,B,β,I,o⟩=>?_
 refine gS (r:=λx H1 Q=>FI X.K [x,.ty T] H1 Q) ?_ I o
 intro B G H x dx d Q s hB bx e k
 unfold ic at e
 split at e
 ·cases e
 ·rename_i hn
  cases e
  rw[hK]
  exact⟨x,T,FH dx,yK dx T,rfl,bx.ty s (by simpa using hn),Fg hT,k _ G H (Ext.refl s) (.bl _)⟩
def jd (fa fb fc:VF D)(g g':D->D->Option D):VF D:=λvs β=>(fa vs β).bnd λx β1=>(fb vs β1).bnd λy β2=>match g x y with
 |some (.bool true)=>(fc vs β2).bnd λz β3=>R.of (g' y z) β3
 |some (.bool false)=>.ok (.bool false) β2
 |_=>.bad
theorem se {a b c:Expr}{fa fb fc:VF D}{ma mb mc:Md}{Γ:Fx}{E:XK}{pos:Pos}{op op':CmpOp}{r r':R2}{g g':D->D->Option D}(ho:kN X (compareOp op) r)(ho':kN X (compareOp op') r')(pr:mj Γ.K r g .v)(pr':mj Γ.K r' g' .v)(ha:SE X Γ E a fa [] ma)(hb:SE X Γ E b fb [] mb)(hc:SE X Γ E c fc [] mc)
  (hm:lastMarks [op,op'] [b,c]=false:=by with_unfolding_all rfl):SE X Γ E (.Compare a [op,op'] [b,c] pos) (jd fa fb fc g g') [] .v:=by
 refine PE.post' (zN ho ho' ha hb hc hm) λσ H Q ⟨env,G,B,β,I,o⟩=>?_
 refine two (W:=λx y H2=>r x y H2 λz H3=>∃k,z=.bl k/\(if k=true then pT Γ E fc [] mc σ H3 λw' H4=>r' y w' H4 Q else Q (.bl false) H3)) I (o.bnd.imp λd1 β1 h=>h.bnd.imp λd2 β2 h x y G2 H2 I2 s2 m2 bx by'=>?_)
 obtain⟨cb,ec,h⟩:∃cb,g d1 d2=some (.bool cb)/\Out Γ E (if cb=true then (fc (vl env) β2).bnd λz β3=>R.of (g' d2 z) β3 else .ok (.bool false) β2) λd β'=>∀v G' H',SR Γ B G' H' σ (a7 [] env) β'->ar G G'->gM B H H'->VO Γ.K B H G' H' .v d v->Q v H':=by
  split at h
  ·rename_i q;exact⟨true,q,by rw[Jk rfl];exact h⟩
  ·rename_i q;exact⟨false,q,by rw[Ju JA];exact h⟩
  ·exact h.elim
 refine pr B G2 H2 x y d1 d2 _ _ I2.sub I2.boxThere bx by' ec λv G' H' x' vo=>?_
 cases vo
 refine⟨cb,rfl,?_⟩
 have I3:=I2.ext x'
 cases cb with
 |false=>rw[Ju JA] at h;exact oW (h _ G' H' I3 (s2.trans x'.gg) (m2.trans (x'.mov B)) (.bl false))
 |true=>
  rw[Jk rfl] at h
  refine ub ⟨env,G',B,β2,I3,h.bnd.imp λd3 β3 h z G4 H4 I4 s4 m4 vz=>?_⟩
  obtain⟨d,e,k⟩:=h.of
  refine pr' B G4 H4 y z d2 d3 d Q I4.sub I4.boxThere (by'.mono (x'.gg.trans s4) ((x'.mov B).trans m4)) (vz.brw I3.boxThere) e λv G5 H5 x5 vo=>?_
  exact k v G5 H5 (I4.ext x5) (((s2.trans x'.gg).trans s4).trans x5.gg) (((m2.trans (x'.mov B)).trans m4).trans (x5.mov B)) vo
end
def dX.u1 {k:Nat}{A:Around}(r:dX k A):A.units + 100 < cLine:=by have:=r.un;omega
def IE (N:List Str)(sc:Scope)(NB:List Str)(own:Nat)(ixs:List Nat)(scope:Scope):Bool:=
 decide (scope.kind=.function) && (scope.names.all λy=>decide (scope.names.lookup y.1=some y.2)) &&
 (scope.names.all λy=>decide (y.2=.free->(sc.names.lookup y.1=some .cell\/sc.names.lookup y.1=some .free))) && decide NB.Nodup && decide (NB.length=own + ixs.length) &&
 ((List.range ixs.length).all λk=>decide (NB[own + k]? =N[ixs.getD k 0]?) && (match NB[own + k]? with |some x=>decide ((x,NameKind.free)∈scope.names) |none=>true))
def fJ {X:Cx}{NB:List Str}{own:Nat}{ixs:List Nat}{scope:Scope}(h:IE X.N X.env.scope NB own ixs scope=true):bG X NB own ixs scope:=by
 unfold IE at h
 simp only[JD,Kq,JN,J6] at h
 obtain⟨⟨⟨⟨⟨h1,h3⟩,h4⟩,h5⟩,h6⟩,h7⟩:=h
 refine⟨h1,h3,h4,h5,h6,λk hk=>⟨(h7 k hk).1,λx hx=>?_⟩⟩
 have:=(h7 k hk).2
 rw[hx] at this
 simpa using this
section
variable {X:Cx}{Γ:Fx}{E:XK}{e a b c:Expr}{f fa fb fc:VF D}{L La Lb:List Nat}{md ma mb mc:Md}{pos:Pos}{K:Frag}
def tN (fa:VF D)(neg:Bool):VF Bool:=λvs β=>(fa vs β).bnd λx β1=>.ok (if neg then !BD x else BD x) β1
def oT (Γ:Fx)(E:XK)(f:VF (Option Int))(L:List Nat):TO:=λσ H Q=>∃env G B β,SR Γ B G H σ env β/\
 Out Γ E (f (vl env) β) λd β'=>∀G' H',SR Γ B G' H' σ (a7 L env) β'->ar G G'->gM B H H'->Q d H'
def GZ (X:Cx)(Γ:Fx)(E:XK)(e:Option Expr)(f:VF (Option Int))(L:List Nat):Prop:=PO X e (oT Γ E f L)
def Ba:GZ X Γ E none (λ_ β=>.ok none β) []:=λpins s σ H Q I ⟨env,G,B,β,J,o⟩=>BU pins s σ H Q I (o G H J (ar.refl _) (gM.refl _ _))
def EV (fa:VF D):VF (Option Int):=λvs β=>(fa vs β).bnd λx β1=>match x with
 | .int i=>.ok (some i) β1
 |_=>.bad
theorem AQ (ha:SE X Γ E a fa La ma):GZ X Γ E (some a) (EV fa) La:=λpins s σ H Q I ⟨env,G,B,β,J,o⟩=>by
 refine Ce ha pins s σ H Q I ⟨env,G,B,β,J,o.bnd.imp λd1 β1 h x G1 H1 I1 s1 m1 vx=>?_⟩
 cases d1 with
 |int i=>exact⟨i,(vx.brw J.boxThere).int,h G1 H1 I1 s1 m1⟩
 |_=>exact h.elim
def cutD (xs:List D)(lo hi:Option Int):List D:=(xs.drop (HT.cX xs.length 0 lo)).take (HT.cX xs.length xs.length hi - HT.cX xs.length 0 lo)
def BB {G:Hp}{xs:List V}{ds:List D}(r:cm K G xs ds)(lo hi:Option Int):cm K G (pe xs lo hi) (cutD ds lo hi):=by
 unfold pe cutD
 rw[r.len]
 exact (r.drop _).take _
def CS:mj K (λx y H Q=>∃i j,[x,y]= [.int i,.int j]/\Q (.int (if j > i then j else i)) H) (uF λi j=>.int (if j > i then j else i)) .v:=by
 intro B G H x y dx dy d Q s hB bx by' e k
 obtain⟨i,j,rfl,rfl,rfl⟩:=kK e
 obtain rfl:=bx.int
 obtain rfl:=by'.int
 exact⟨i,j,rfl,k _ G H (Ext.refl s) (.int _)⟩
def Eh:mj K (λx y H Q=>∃i j,[x,y]= [.int i,.int j]/\Q (.int (if j < i then j else i)) H) (uF λi j=>.int (if j < i then j else i)) .v:=by
 intro B G H x y dx dy d Q s hB bx by' e k
 obtain⟨i,j,rfl,rfl,rfl⟩:=kK e
 obtain rfl:=bx.int
 obtain rfl:=by'.int
 exact⟨i,j,rfl,k _ G H (Ext.refl s) (.int _)⟩
end
structure gO (K:Frag)(mg:Str->Option Value)(x:Str)(st:Stmt)(ps:List Str)(f:Addr)(fd:FuncData):Prop where
 mg:mg x=some (.ref f)
 F:wY K x x st f fd
 b:Binds K fd ps []
structure Exc (K:Frag)(mg:Str->Option Value)(ca:Str->Addr)(x:Str):Prop where
 mg:mg x=some (.ref (ca x))
 ex:PySem.W.excIn K (ca x) [.type "ValueError",.type "Exception",.type "BaseException",.type "object"] "ValueError.__new__"=true
def Exc.ca {K:Frag}{mg:Str->Option Value}{ca:Str->Addr}{x:Str}(h:Exc K mg ca x):ca x=ca x:=rfl
structure h9 (mg:Str->Option Value):Prop where
 len:mg "len"=none
 range:mg "range"=none
 enumerate:mg "enumerate"=none
 zip:mg "zip"=none
 min:mg "min"=none
 max:mg "max"=none
 sum:mg "sum"=none
 abs:mg "abs"=none
 sorted:mg "sorted"=none
 reversed:mg "reversed"=none
 int:mg "int"=none
 str:mg "str"=none
 bool:mg "bool"=none
 list:mg "list"=none
 tuple:mg "tuple"=none
 dict:mg "dict"=none
 set:mg "set"=none
 isinstance:mg "isinstance"=none
 repr:mg "repr"=none
 any:mg "any"=none
 all:mg "all"=none
 divmod:mg "divmod"=none
inductive FB where
 |ok (d:D) (fresh:Bool) (β:Int)
 |bad
def EN (K:Frag)(n:Nat)(F:List D->Int->FB):Sp:=λvs H Q _=>∃b rest G ds β,vs=.ref b :: rest/\H b=some (.lst [.int β])/\G b=none/\ar G H/\ds.length=n/\cm K G rest ds/\match F ds β with
 | .ok d fr β'=>∀v G' H',gM (some b) H H'->H' b=some (.lst [.int β'])->ar G G'->ar G' H'->(∀c,Mx H c->G c=none->G' c=none)->FV K H G' H' fr d v->Q v H'
 | .bad=>False
structure kH (P:Program)(w:World)(K:Frag)(mg:Str->Option Value)(base:Heap)(x:Str)(ps:List Str)(k:Nat)(F:List D->Int->FB):Prop where
 ex:∃f fd,mg x=some (.ref f)/\PySem.W.keepIn K (.ref f)=true/\Binds K fd ps []/\fF P w K mg base (kU P w) k f fd ps (EN K (ps.length - 1) F)
 len:∀ds β,F ds β≠.bad->ds.length=ps.length - 1
def u6 (vs:List Nv)(i:Nat):Bool:=match vs[i]? with
 |some .bx=>true
 |_=>false
def j9 (i:Nat)(F:List D->Int->FB)(fr:VF (List D)):VF D:=λvs β=>if u6 vs i=true then (fr vs β).bnd λds β1=>match F ds β1 with
 | .ok d _ β2=>.ok d β2
 | .bad=>.bad else .bad
def Hh (i:Nat)(F:List D->Int->FB)(fr:VF (List D)):VF D:=λvs β=>if u6 vs i=true then (fr vs β).bnd λds β1=>match F ds β1 with
 | .ok d true β2=>.ok d β2
 |_=>.bad else .bad
section
variable {X:Cx}{Γ:Fx}{E:XK}{e a b c:Expr}{f fa fb fc:VF D}{L La Lb:List Nat}{md ma mb mc:Md}{pos:Pos}{K:Frag}{es:List Expr}{fr:VF (List D)}
def Be {env:En}{i:Nat}(h:u6 (vl env) i=true):env[i]? =some .bx:=by
 unfold u6 at h
 split at h
 ·exact EW (by assumption)
 ·cases h
def BL {env:En}{i j:Nat}{d:D}(h:(iR env i)[j]? =some (.br d)):env[j]? =some (.br d):=by
 unfold iR at h
 split at h
 ·rename_i d' e
  by_cases z:i=j
  ·subst z
   rw[Jq (Jw.mp e).1] at h;cases h
  ·rw[Js z] at h;exact h
 ·exact h
theorem Ee {L:List Nat}{env:En}{j:Nat}{d:D}(h:(a7 L env)[j]? =some (.br d)):env[j]? =some (.br d):=by
 unfold a7 at h
 induction L generalizing env with
 |nil=>exact h
 |cons i L ih=>exact BL (ih h)
def SR.calledB {p:Addr}{β β':Int}{G1 H1 G2 H2:Hp}{σ:St}{env:En}(I1:SR Γ (some p) G1 H1 σ env β)(h:gM (some p) H1 H2)(hp:H2 p=some (.lst [.int β']))(g:ar G1 G2)(s:ar G2 H2)(n:∀b,Mx H1 b->G1 b=none->G2 b=none):SR Γ (some p) G2 H2 σ env β':=by
 obtain⟨b1,b2,b3⟩:=I1.box p rfl
 refine⟨s,I1.old.trans g,λb n1 n2=>n b (I1.thereM n1) (I1.new b n1 n2),λb o e np=>va (I1.keep b o e np) h λz=>?_,λb hb=>?_,I1.fix,λb e=>?_,I1.len,λi t e=>?_,I1.sep⟩
 ·cases z
  rcases b3 with b3 |b3
  ·exact np b3
  ·rw[e] at b3;cases b3
 ·by_cases z:p=b
  ·subst z;exact Mx.lst hp
  ·exact (I1.pin b hb).same λo q=>h.1 b o q λy=>z (Option.some.inj y)
 ·cases e
  exact⟨hp,n p (Mx.lst b1) b2,b3⟩
 ·have q:=I1.slot i t e
  cases t with
  |no=>trivial
  |fz d=>obtain⟨v,h1,h2⟩:=q;exact⟨v,h1,h2.mono g⟩
  |ow d=>
   obtain⟨c,h1,h2,h3,h4,h5⟩:=q
   exact⟨c,h1,h2,n c h5.mx h3,h4,h5.mono g λo q=>h.1 c o q h4⟩
  |bx=>exact q
  |br d=>obtain⟨b1,c,h1,h4,hpp,h5⟩:=q;exact⟨b1,c,h1,h4,hpp,h5.mono g λo q=>h.1 c o q h4⟩
theorem BA {F:List D->Int->FB}{ps:List Str}{Q:VK}{B:Option Addr}{G H:Hp}{σ:St}{env:En}{β:Int}{i:Nat}{p:Addr}(I:SR Γ B G H σ env β)(hK:X.K=Γ.K)(hp:B=some p){wv:Bool}
  (h:Out Γ E (fr (vl env) β) λds β1=>Out Γ E (match F ds β1 with
   | .ok d true β2=>.ok d β2
   | .ok d false β2=>if wv=true then .bad else .ok d β2
   | .bad=>.bad) λd β'=>∀v G' H',SR Γ B G' H' σ (a7 L env) β'->ar G G'->gM B H H'->VO Γ.K B H G' H' (if wv=true then .w else .v) d v->Q v H') (hl:∀ds β,F ds β≠.bad->ds.length=ps.length - 1) :
  aT Γ E fr L σ H λvs H1=>EN X.K (ps.length - 1) F (.ref p :: vs) H1 Q E:=by
 subst hp
 refine⟨env,G,_,β,I,h.imp λds β1 k vs G1 H1 I1 s1 m1 r=>?_⟩
 obtain⟨b1,b2,b3⟩:=I1.box p rfl
 refine⟨p,vs,G1,ds,β1,rfl,b1,b2,I1.sub,hl ds β1 λz=>by rw[z] at k;exact k,by rw[hK];exact r,?_⟩
 cases q:F ds β1 with
 |bad=>rw[q] at k;exact k
 |ok d fr' β2=>
  rw[q] at k
  intro v G' H' hh hb hg hs hn fv
  have I2:=I1.calledB hh hb hg hs hn
  cases fr' with
  |true=>
   obtain⟨c,rfl,p1,p2,p3⟩:∃a,v=.ref a/\H1 a=none/\G' a=none/\Own X.K G' H' a d:=fv
   rw[hK] at p3
   have hp:=gr m1 I1.boxThere p1
   cases wv with
   |true=>exact k _ G' H' I2 (s1.trans hg) (m1.trans hh) ⟨c,rfl,hp,p2,p3⟩
   |false=>
    obtain⟨q1,q2,q3,q4⟩:=I1.fresh p1
    obtain⟨G3,I3,s3,r3⟩:=I2.letIn q1 p2 q3 q4 p3
    exact k _ G3 H' I3 ((s1.trans hg).trans s3) (m1.trans hh) r3
  |false=>
   cases wv with
   |true=>exact k.elim
   |false=>
    have fv:Rp X.K G' v d:=fv
    rw[hK] at fv
    exact k _ G' H' I2 (s1.trans hg) (m1.trans hh) fv
theorem DX {F:List D->Int->FB}{ps:List Str}{Q:VK}{i:Nat}{σ:St}{H:Hp}(hK:X.K=Γ.K){wv:Bool}(hl:∀ds β,F ds β≠.bad->ds.length=ps.length - 1)(h:pT Γ E (if wv=true then Hh i F fr else j9 i F fr) L (if wv=true then .w else .v) σ H Q) :
  yj i σ H λx H1=>aT Γ E fr L σ H1 λvs H2=>EN X.K (ps.length - 1) F (x :: vs) H2 Q E:=by
 obtain⟨env,G,B,β,I,o⟩:=h
 have hi:u6 (vl env) i=true:=by
  by_cases hi:u6 (vl env) i=true
  ·exact hi
  ·exfalso
   cases wv with
   |true=>simp only[Km] at o;unfold Hh at o;rw[Ju hi] at o;exact o
   |false=>simp only[Kw,K1] at o;unfold j9 at o;rw[Ju hi] at o;exact o
 obtain⟨p,e1,e2⟩:=I.slot i _ (Be hi)
 refine⟨.ref p,e1,BA (i:=i) (ps:=ps) I hK e2 (wv:=wv) ?_ hl⟩
 cases wv with
 |true=>
  simp only[Km] at o ⊢
  unfold Hh at o
  rw[Jk hi] at o
  refine o.bnd.imp λds β1 h=>?_
  cases q:F ds β1 with
  |bad=>rw[q] at h;exact h
  |ok d b β2=>rw[q] at h;cases b <;> exact h
 |false=>
  simp only[Kw,K1] at o ⊢
  unfold j9 at o
  rw[Jk hi] at o
  refine o.bnd.imp λds β1 h=>?_
  cases q:F ds β1 with
  |bad=>rw[q] at h;exact h
  |ok d b β2=>rw[q] at h;cases b <;> exact h
def iQ {x y:Str}{ps:List Str}{k:Nat}{F:List D->Int->FB}{p np:Pos}(i:Nat)(hf:kH X.prog X.w X.K X.mg X.base x ps k F)(hr:dX k X.A)(hx:Passes (kU X.prog X.w) X E)(hK:X.K=Γ.K)(hg:Gl X x)(ha:SA X Γ E es fr L)(hN:X.N[i]? =some y:=by rfl)(hv:uf X.env.scope y:=by first |exact Or.inl rfl |exact Or.inr (Or.inl rfl) |exact Or.inr (Or.inr rfl))(hd:(y == ("__debug__":Str))=false:=by decide)
  (hcd:(y == ("__classdict__":Str))=false:=by decide) (hdb:(x == ("__debug__":Str))=false:=by decide)
  (he:starEach (.Name y np :: es) X.env=(false,eval (.Name y np) X.env) :: starEach es X.env:=by rfl) (hpl:(backTo pos (starEach es X.env)).any (·.1)=false:=by rfl):SE X Γ E (.Call (.Name x p) (.Name y np :: es) [] pos) (j9 i F fr) L .v:=by
 obtain⟨f,fd,hm,hk,hb,hF⟩:=hf.ex
 refine PE.post' (mS (dvs:=[]) hF hr hg hm hk hb .nil hx (aj (gC hN hv hd hcd) ha he) hdb he hpl) λσ H Q h=>?_
 have:=DX (Q:=Q) (wv:=false) (ps:=ps) hK hf.len (by simpa using h)
 show yj i σ H λx H1=>aT Γ E fr L σ H1 λvs H2=>EN X.K (ps.length - 1) F ((x :: vs) ++ []) H2 Q E
 simpa using this
def zq:D->Option Int
 | .list [.int z]=>some z
 |_=>none
def AR {d:D}{z:Int}(h:zq d=some z):d=.list [.int z]:=by
 unfold zq at h
 split at h
 ·cases h;rfl
 ·cases h
def Jh (f0:VF D)(F:List D->Int->FB)(n:Int):VF D:=λvs β=>(f0 vs β).bnd λd0 β1=>match zq d0 with
 |some z=>(match F [.int n] z with
  | .ok d _ _=>.ok d β1
  | .bad=>.bad)
 |none=>.bad
def pj (env:En):En:=env.map λs=>match s with
 | .bx=>.no
 |s=>s
theorem zA {env:En}{i:Nat}{s:Sl}(h:(pj env)[i]? =some s)(n:s≠.no):env[i]? =some s/\s≠.bx:=by
 unfold pj at h
 rw[JC] at h
 cases e:env[i]? with
 |none=>rw[e] at h;cases h
 |some t=>
  rw[e] at h
  have h:=Option.some.inj h
  cases t with
  |bx=>exact absurd h.symm n
  |no=>exact absurd h.symm n
  |fz d=>subst h;exact⟨rfl,λz=>by cases z⟩
  |ow d=>subst h;exact⟨rfl,λz=>by cases z⟩
  |br d=>subst h;exact⟨rfl,λz=>by cases z⟩
def wz (i:Nat)(L:List Nat)(f:VF D):SF:=λenv β=>toS (f (vl env) β) λd _=>match zq d with
 |some z=>.nx ((pj (a7 L env)).set i .bx) z
 |none=>.bad
theorem AV {i:Nat}{x:Str}{pos':Pos}(hbx:Γ.bx=none)(he:SE X Γ E e f L .w)(hN:X.N.Nodup)(hi:X.N[i]? =some x:=by rfl)(hx:Loc X.env.scope x:=by first |exact Or.inl rfl |exact Or.inr rfl)(hs:swapsWith e (some (.Name x pos')) pos.line X.env=pure false:=by rfl)(hf:X.fn x=true\/X.env.scope.names.lookup x=some .local:=by first |exact .inl rfl |exact .inr rfl |assumption) :
  SS X Γ E (.Assign [.Name x pos'] e pos) (wz i L f):=by
 refine PS.post (jB hN hi hx he hs hf) λN σ H ⟨env,G,B,β,I,o⟩=>?_
 refine⟨env,G,B,β,I,cf o λd β' k v G' H' I' s' m' vo=>?_⟩
 cases q:zq d with
 |none=>rw[q] at k;exact k.elim
 |some z=>
  rw[q] at k
  obtain rfl:=AR q
  obtain⟨p,rfl,h1,h2,xs,h3,r⟩:=vo
  have hx2:H' p=some (.lst [.int z]):=by
   cases r with
   |cons r1 r2=>
    cases r1
    cases r2
    exact h3
  obtain⟨q1,q2,q3,q4⟩:=I.fresh h1
  refine k (some p) G' H' _ ⟨I'.sub,I'.old,I'.new,I'.keep,I'.pin,λb e=>(by rw[hbx] at e;cases e),λb e=>?_,?_,λj t e=>?_,λj j' c d1 d2 e1 e2 e3 e4=>?_⟩ s'
  ·cases e;exact⟨hx2,h2,.inr q1⟩
  ·rw[J5,J5];unfold pj;rw[JE];exact I'.len
  ·by_cases hj:j=i
   ·subst hj
    by_cases hl:j < (pj (a7 L env)).length
    ·rw[Jq hl] at e
     cases e
     refine⟨p,?_,rfl⟩
     rw[Jq]
     rw[I'.len];unfold pj at hl;simpa using hl
    ·rw[KA (by rw[J5];omega)] at e;cases e
   ·rw[Js (Ne.symm hj)] at e ⊢
    by_cases hn:t=.no
    ·subst hn;trivial
    ·obtain⟨e1,nb⟩:=zA e hn
     have w:=I'.slot j t e1
     cases t with
     |no=>trivial
     |fz d=>exact w
     |bx=>exact absurd rfl nb
     |ow d=>
      obtain⟨a',g1,g2,g3,g4,g5⟩:=w
      exact⟨a',g1,g2,g3,λy=>q4 j d (qY e1) (by cases y;exact g1),g5⟩
     |br d=>
      obtain⟨b1,a',g1,g4,hpp,g5⟩:=w
      have e0:env[j]? =some (.br d):=Ee e1
      obtain⟨_,a2,f1,_,_,f5⟩:=I.slot j _ e0
      rw[g1] at f1;cases f1
      obtain⟨o,ho⟩:=f5.obj
      exact⟨b1,a',g1,λy=>(by cases y;rw[h1] at ho;cases ho),hpp,g5⟩
  ·have back:∀{j:Nat} {d1:D},((pj (a7 L env)).set i Sl.bx)[j]? =some (.ow d1)->j≠i/\(a7 L env)[j]? =some (.ow d1):=λ{j d1} e=>by
    by_cases hj:j=i
    ·subst hj
     by_cases hl:j < (pj (a7 L env)).length
     ·rw[Jq hl] at e;cases e
     ·rw[KA (by rw[J5];omega)] at e;cases e
    ·rw[Js (Ne.symm hj)] at e
     exact⟨hj,(zA e (λy=>by cases y)).1⟩
   obtain⟨n1,w1⟩:=back e1
   obtain⟨n2,w2⟩:=back e2
   rw[Js (Ne.symm n1)] at e3
   rw[Js (Ne.symm n2)] at e4
   exact I'.sep j j' c d1 d2 w1 w2 e3 e4
end
section
variable {P:Program}{w:World}{K:Frag}{mg:Str->Option Value}{base:Heap}{ca:Str->Addr}
def xu:SO->FB
 | .nx _ β=>.ok .none false β
 | .rt d fr β=>.ok d fr β
 |_=>.bad
def u9 (n:Nat)(ds:List D):En:=.bx :: ds.map Sl.fz ++ List.replicate (n - 1 - ds.length) .no
def mr (n p:Nat)(m:SF):List D->Int->FB:=λds β=>if ds.length=p then xu (m (u9 n ds) β) else .bad
abbrev Fx.fb (K:Frag)(H G:Hp)(ca:Str->Addr)(b:Addr):Fx:=⟨K,H,G,[b],ca,λ_=>false,some b⟩
def SR.startB {H G:Hp}{N:List Str}{b:Addr}{vs:List V}{ds:List D}{β:Int}(s:ar G H)(hb:H b=some (.lst [.int β]))(gb:G b=none)(r:cm K G vs ds)(hn:ds.length + 1<=N.length):SR (Fx.fb K H G ca b) (some b) G H (L2.start N (.ref b :: vs)) (u9 N.length ds) β:=by
 have hl:=r.len
 refine⟨s,ar.refl _,λc _ h=>h,λc o h _=>Kt.of h,λc h=>?_,λc h=>h,λc h=>?_,?_,λi t e=>?_,λi j a d e h=>?_⟩
 ·have:c=b:=by simpa using h
  subst this;exact Mx.lst hb
 ·cases h;exact⟨hb,gb,.inl (by simp)⟩
 ·unfold L2.start u9;simp;omega
 ·cases i with
  |zero=>
   unfold u9 at e
   cases e
   exact⟨b,rfl,rfl⟩
  |succ i=>
   unfold u9 at e
   have e:(ds.map Sl.fz ++ List.replicate (N.length - 1 - ds.length) Sl.no)[i]? =some t:=by simpa using e
   by_cases hi:i < ds.length
   ·rw[JV (by simpa using hi),JC,Jr hi] at e
    cases e
    obtain⟨x,hx,rx⟩:=r.at (Jr hi)
    refine⟨x,?_,rx⟩
    unfold L2.start
    have hi':i < vs.length:=by rw[hl];exact hi
    rw[JV (by simp;exact hi'),JC,List.getElem?_cons_succ,hx];rfl
   ·rw[J0 (by simpa using hi),Kd] at e
    split at e
    ·cases e;trivial
    ·cases e
 ·unfold u9 at h
  have hm:=JI h
  rcases Jn.mp hm with z |hm
  ·cases z
  rcases JT.mp hm with z |z
  ·obtain⟨_,_,z⟩:=KZ.mp z;cases z
  ·have:=Kl z;cases this
def ll {x qual:Str}{st:Stmt}{f:Addr}{fd:FuncData}{N:List Str}{ps:List Str}{k:Nat}{m:SF}(F:wY K x qual st f fd)(S:aC N ps (ai st))(hp:1<=ps.length)
  (hbody:∀(cdv:Value) (A:Around) (outer:List Env) (s:Shared) (H G:Hp) (b:Addr) (E:XK),dX k (A.deeper (envOfC qual (ai st) s.heap.objs.size f cdv))->xj (jz (kU P w) P w K mg base N qual (ai st) f cdv A outer s H E) (Fx.fb K H G ca b) E (cO st) m) :
  fF P w K mg base (kU P w) (k + 1) f fd ps (EN K (ps.length - 1) (mr N.length (ps.length - 1) m)):=by
 have hpn:ps.length<=N.length:=by have:=congrArg List.length S.pre;rw[Ko] at this;omega
 refine F.yw S (λvs H Q E h=>?_) (λcdv A outer s H vs Q E hr h=>?_)
 ·obtain⟨b,rest,G,ds,β,rfl,hb,gb,sG,hl,r,_⟩:=h
  rw[JM,r.len];omega
 ·obtain⟨b,rest,G,ds,β,rfl,hb,gb,sG,hl,r,h⟩:=h
  refine⟨_,hbody cdv A outer s H G b E hr,?_⟩
  have I:=SR.startB (ca:=ca) (N:=N) sG hb gb r (by omega)
  refine⟨_,G,some b,β,I,?_⟩
  unfold mr at h
  rw[Jk hl] at h
  have fin':∀{B G' H' σ env β},SR (Fx.fb K H G ca b) B G' H' σ env β->gM (some b) H H'/\H' b=some (.lst [.int β]):=λJ=>by
   have e:=J.fix b rfl
   have k:∀c o,H c=some o->some b≠some c->Kt _ c o:=λc o ec n=>J.keep c o ec λz=>n (show some b=some c by rw[show c=b by simpa using z])
   exact⟨⟨k,λc o u ec=>k c _ ec λz=>by cases z;rw[hb] at ec;cases ec⟩,(J.box b e).1⟩
  cases q:m (u9 N.length ds) β with
  |nx env β'=>rw[q] at h;exact λB G' H' σ J s'=>h .non G' H' (fin' J).1 (fin' J).2 s' J.sub (λc h1 h2=>J.new c h1 h2) Rp.non
  |bk env β'=>rw[q] at h;exact h.elim
  |ct env β'=>rw[q] at h;exact h.elim
  |rt d fr β'=>
   rw[q] at h
   refine λB G' H' σ env v J s' rv=>h v G' H' (fin' J).1 (fin' J).2 s' J.sub (λc h1 h2=>J.new c h1 h2) ?_
   cases fr with
   |true=>exact rv
   |false=>exact rv
  |exc c=>rw[q] at h;exact h.elim
  |bad=>rw[q] at h;exact h.elim
def lG {n p:Nat}{m:SF}(ds:List D)(β:Int)(h:mr n p m ds β≠.bad):ds.length=p:=by
 unfold mr at h
 by_cases hl:ds.length=p
 ·exact hl
 ·rw[Ju hl] at h;exact absurd rfl h
end
def cH (p:Pr):D:=.tuple [.int p.1,.int p.2]
def tW:D->Option Pr
 | .tuple [.int a,.int b]=>some (a,b)
 |_=>none
def zt {d:D}{p:Pr}(h:tW d=some p):d=cH p:=by
 unfold tW at h
 split at h
 ·cases h;rfl
 ·cases h
def xk (p:Pr):tW (cH p)=some p:=rfl
def il:List D->Option (List Pr)
 | []=>some []
 |d :: ds=>match tW d,il ds with
  |some p,some ps=>some (p :: ps)
  |_,_=>none
theorem l0:∀{ds:List D} {ps:List Pr},il ds=some ps->ds=ps.map cH
 | [],ps,h=>by cases h;rfl
 |d :: ds,ps,h=>by
  unfold il at h
  split at h
  ·rename_i p qs h1 h2;cases h;rw[zt h1,l0 h2];rfl
  ·cases h
theorem i7:∀ps:List Pr,il (ps.map cH)=some ps
 | []=>rfl
 |p :: ps=>by
  show (match tW (cH p),il (ps.map cH) with
   |some p,some ps=>some (p :: ps)
   |_,_=>none)=_
  rw[xk,i7 ps]
section
variable {K:Frag}{X:Cx}{G H:Hp}
theorem cm.pairs:∀{ps:List Pr} {xs:List V},cm K G xs (ps.map cH)->bA K G xs ps
 | [],_,.nil=>.nil
 |p :: ps,_,.cons r t=>by
  cases r with
  |tup hq r=>
   cases r with
   |cons r1 r=>
    cases r with
    |cons r2 r=>cases r;cases r1;cases r2;exact .cons ⟨_,rfl,hq⟩ (cm.pairs t)
theorem bA.rps:∀{ps:List Pr} {xs:List V},bA K G xs ps->cm K G xs (ps.map cH)
 | [],_,.nil=>.nil
 |p :: ps,_,.cons r t=>by
  obtain⟨a,rfl,q⟩:=r
  exact .cons (.tup q (.cons (.int _) (.cons (.int _) .nil))) (bA.rps t)
def Je (p:Pr):Bool:=decide (0<=p.1) && decide (p.1 < 8) && decide (0<=p.2) && decide (p.2 < 8)
variable {Γ:Fx}{E:XK}{e a b c:Expr}{f fa fb fc:VF D}{L La Lb:List Nat}{md ma mb mc:Md}{pos:Pos}
end
section
variable {K:Frag}{X:Cx}{G H:Hp}{Γ:Fx}{E:XK}{e a b c:Expr}{f fa fb fc:VF D}{L La Lb:List Nat}{md ma mb mc:Md}{pos apos cpos np:Pos}
def fE:D->Option D
 | .int n=>if 0<=n/\n<=1000 then some (.list (cP 0 n.toNat)) else none
 |_=>none
def qp (n:Nat):cm K G ((List.range n).map λ(i:Nat)=>V.int (i:Int)) (cP 0 n):=by
 have key:∀l:List Nat,cm K G (l.map λ(i:Nat)=>V.int (i:Int)) (l.map λ(k:Nat)=>int (0 + k)):=by
  intro l
  induction l with
  |nil=>exact .nil
  |cons x l ih=>exact .cons (by show Rp K G (.int (x:Int)) (.int (0 + (x:Int)));rw[Ka];exact .int _) ih
 exact key _
theorem vI {p1 p2 pos2:Pos}(hc:X.calm=true)(hg:Gl X "list")(hm:X.mg "list"=none)(hg2:Gl X "range")(hm2:X.mg "range"=none)(ha:SE X Γ E a fa La ma)
  (he:starEach [a] X.env=(false,eval a X.env) :: starEach [] X.env:=by rfl)
  (he2:starEach [.Call (.Name "range" p2) [a] [] pos2] X.env=(false,eval (.Call (.Name "range" p2) [a] [] pos2) X.env) :: starEach [] X.env:=by rfl) :
  SE X Γ E (.Call (.Name "list" p1) [.Call (.Name "range" p2) [a] [] pos2] [] pos) (f1 fa fE) La .w:=by
 refine PE.post' (ei (o6 hc) hg hm (by decide +kernel) (aj (ei tq hg2 hm2 (by decide +kernel) (aj ha aI he) (by decide) (by decide) he) aI he2) (by decide) (by decide) he2) λσ H Q ⟨env,G,B,β,I,o⟩=>?_
 refine gS (r:=λx H1 Q=>∃n:Int,[x]= [.int n]/\∀p,H1 p=none->(λ(y:V) (H2:Hp)=>∃(p:Addr) (n:Int),[y]= [V.ref p]/\H2 p=some (.fo 0 n)/\0<=n/\n<=1000/\∀l,H2 l=none->Q (.ref l) (upd H2 l (.lst ((List.range n.toNat).map λ(i:Nat)=>V.int (i:Int))))) (V.ref p) (upd H1 p (.fo 0 n))) ?_ I o
 intro B G H x dx d Q s hB bx e k
 cases dx with
 |int n=>
  obtain rfl:=bx.int
  simp only[fE] at e
  split at e
  ·rename_i hh
   cases e
   refine⟨n,rfl,λp hp=>⟨p,n,rfl,aq,hh.1,hh.2,λl hl=>?_⟩⟩
   have hlp:l≠p:=λz=>by subst z;rw[aq] at hl;cases hl
   have hlH:H l=none:=by rw[aw hlp] at hl;exact hl
   have x1:=Ext.own s (o:=.fo 0 n) hp
   have x2:=Ext.own x1.gh (o:=.lst ((List.range n.toNat).map λ(i:Nat)=>V.int (i:Int))) hl
   exact k _ _ _ (x1.trans x2) ⟨l,rfl,hlH,s.free hlH,_,aq,qp _⟩
  ·cases e
 |_=>cases e
noncomputable def Iq (d:D):Option D:=match d with
 | .list ds=>(match il ds with
  |some ps=>if ps.all Je=true/\ps.Nodup/\ps.length < 64 then some (.list ((OM.i3 8 (OM.Mem ps)).map cH)) else none
  |none=>none)
 |_=>none
def xQ (ds:List D)(k:D):Option (D×List D):=match k with
 | .int i=>if -(2 ^ 63)<=i/\i < 2 ^ 63 then (match seqIndex? i ds.length with
  |some n=>(match ds[n]? with
   |some d=>some (d,ds.eraseIdx n)
   |none=>none)
  |none=>none) else none
 |_=>none
def i0 (i j:Nat)(L:List Nat)(f:VF D):SF:=λenv β=>if rq env[i]? =true/\rq env[j]? =true/\i≠j then toS (f (vl env) β) λk β'=>match (a7 L env)[j]? with
 |some (.ow (.list es))=>(match xQ es k with
  |some (d,es')=>DE i ((a7 L env).set j (.ow (.list es'))) β' λds=>if ds.length < sizeLine then some (ds ++ [d]) else none
  |none=>.bad)
 |_=>.bad else .bad
theorem cm.eraseIdx:∀{xs:List V} {ds:List D} (i:Nat),cm K G xs ds->cm K G (xs.eraseIdx i) (ds.eraseIdx i)
 |_,_,_,.nil=>.nil
 |_,_,0,.cons _ t=>t
 |_,_,i + 1,.cons r t=>.cons r (cm.eraseIdx i t)
theorem xI (i j:Nat){x y:Str}{np2 apos2 cpos2:Pos}(hb:∀j,Γ.br j=false)(he:SE X Γ E e f L md)(hN:X.N[i]? =some x:=by rfl)(hv:uf X.env.scope x:=by first |exact Or.inl rfl |exact Or.inr (Or.inl rfl) |exact Or.inr (Or.inr rfl))(hd:(x == ("__debug__":Str))=false:=by decide)
  (hcd:(x == ("__classdict__":Str))=false:=by decide)
  (hN2:X.N[j]? =some y:=by rfl) (hv2:uf X.env.scope y:=by first |exact Or.inl rfl |exact Or.inr (Or.inl rfl) |exact Or.inr (Or.inr rfl)) (hd2:(y == ("__debug__":Str))=false:=by decide)
  (hcd2:(y == ("__classdict__":Str))=false:=by decide)
  (hbase:attributeBase (.Name x np) "append" X.env (eval (.Name x np) X.env)=eval (.Name x np) X.env:=by rfl)
  (hfew:((backTo cpos (starEach [.Call (.Attribute (.Name y np2) "pop" apos2) [e] [] cpos2] X.env)).all (λx=> !x.1) && (backToKw cpos (keywordEach [] X.env)).all (λx=>x.1.isSome)
   && decide ([Expr.Call (.Attribute (.Name y np2) "pop" apos2) [e] [] cpos2].length + ([]:List Keyword).length + (if ([]:List Keyword).isEmpty then 0 else 1) < 30))=true:=by rfl)
  (hline:(apos.endLine == cpos.line)=true:=by rfl) (hs:starEach [.Call (.Attribute (.Name y np2) "pop" apos2) [e] [] cpos2] X.env=(false,eval (.Call (.Attribute (.Name y np2) "pop" apos2) [e] [] cpos2) X.env) :: starEach [] X.env:=by rfl)
  (hbase2:attributeBase (.Name y np2) "pop" X.env (eval (.Name y np2) X.env)=eval (.Name y np2) X.env:=by rfl)
  (hfew2:((backTo cpos2 (starEach [e] X.env)).all (λx=> !x.1) && (backToKw cpos2 (keywordEach [] X.env)).all (λx=>x.1.isSome)
   && decide ([e].length + ([]:List Keyword).length + (if ([]:List Keyword).isEmpty then 0 else 1) < 30))=true:=by rfl)
  (hline2:(apos2.endLine == cpos2.line)=true:=by rfl) (hs2:starEach [e] X.env=(false,eval e X.env) :: starEach [] X.env:=by rfl)
  (hsw:swapsWith (.Call (.Attribute (.Name x np) "append" apos) [.Call (.Attribute (.Name y np2) "pop" apos2) [e] [] cpos2] [] cpos) none pos.line X.env=pure false:=by rfl) :
  SS X Γ E (.Expr (.Call (.Attribute (.Name x np) "append" apos) [.Call (.Attribute (.Name y np2) "pop" apos2) [e] [] cpos2] [] cpos) pos) (i0 i j L f):=by
 refine PS.post (qQ (yH PySem.F.plainAttrs_list PySem.F.slot_list_append PySem.F.type_list_append j0 (gC hN hv hd hcd)
  (aj (yH PySem.F.plainAttrs_list PySem.F.slot_list_pop PySem.F.type_list_pop Al (gC hN2 hv2 hd2 hcd2) (aj he aI hs2) hbase2 hfew2 hline2 hs2 rfl) aI hs) hbase hfew hline hs rfl) hsw) λN σ H ⟨env,G,B,β,I,o⟩=>?_
 unfold i0 at o
 by_cases hO:rq env[i]? =true/\rq env[j]? =true/\i≠j
 case neg=>rw[Ju hO] at o;exact o.elim
 rw[Jk hO] at o
 obtain⟨hO1,hO2,hij⟩:=hO
 obtain⟨ds0,q0⟩:=mV hO1
 obtain⟨es0,w0⟩:=mV hO2
 obtain⟨p,h1,_,_,_,xs,h5,_⟩:=I.slot i _ q0
 obtain⟨q,k1,_,_,_,ys,k5,_⟩:=I.slot j _ w0
 refine⟨_,h1,.inl ⟨rfl,xs,.inl (.inl h5)⟩,?_⟩
 refine⟨_,k1,.inl ⟨rfl,ys,.inl (.inl k5)⟩,?_⟩
 refine⟨env,G,B,β,I,cf o λkd β' k v G' H' I' s' m' vo=>?_⟩
 cases ej:(a7 L env)[j]? with
 |none=>rw[ej] at k;exact k.elim
 |some sj=>
  rw[ej] at k
  cases sj with
  |ow dj=>
   cases dj with
   |list es=>
    dsimp only at k
    cases ep:xQ es kd with
    |none=>rw[ep] at k;exact k.elim
    |some pr=>
     obtain⟨d,es'⟩:=pr
     rw[ep] at k
     dsimp only at k
     unfold xQ at ep
     cases kd <;> first | (cases ep;done) |skip
     rename_i ii
     dsimp only at ep
     split at ep
     ·rename_i hr
      cases eI:seqIndex? ii es.length with
      |none=>rw[eI] at ep;cases ep
      |some n=>
       rw[eI] at ep
       dsimp only at ep
       cases eD:es[n]? with
       |none=>rw[eD] at ep;cases ep
       |some d0=>
        rw[eD] at ep
        cases ep
        obtain rfl:=(vo.brw I.boxThere).int
        obtain⟨q',g1,_,_,_,zs,g5,g6⟩:=I'.slot j _ ej
        rw[k1] at g1;cases g1
        obtain⟨xv,ex,rx⟩:=g6.at eD
        refine⟨q,zs,ii,n,xv,rfl,rfl,g5,hr.1,hr.2,by rw[g6.len];exact eI,ex,?_⟩
        have I2:=I'.write hb ej k1 (o:=.lst (zs.eraseIdx n)) (d':=.list (es.eraseIdx n)) λH2 e2 s2=>⟨_,e2,g6.eraseIdx n⟩
        obtain⟨ds,fs,eq,eg,k⟩:=rQ k
        by_cases hz:ds.length < sizeLine
        case neg=>rw[Ju hz] at eg;cases eg
        rw[Jk hz] at eg
        cases eg
        obtain⟨p',f1,_,_,_,us,f5,f6⟩:=I2.slot i _ eq
        rw[h1] at f1;cases f1
        refine⟨p,us,xv,rfl,rfl,f5,by rw[f6.len];exact hz,?_⟩
        exact k B G' _ σ (I2.write hb eq h1 λH2 e2 s2=>⟨_,e2,f6.snoc rx⟩) s'
     ·cases ep
   |_=>exact k.elim
  |_=>exact k.elim
end
def cC:List D->Int->FB
 | [.int m],β=>if 0 < m/\m < 1073741824 then .ok (.int (β % m)) false (β / m) else .bad
 |_,_=>.bad
def wM {ds:List D}{β:Int}(h:cC ds β≠.bad):∃m,ds= [.int m]/\0 < m/\m < 1073741824:=by
 unfold cC at h
 split at h
 ·rename_i m
  by_cases hh:0 < m/\m < 1073741824
  ·exact⟨m,rfl,hh.1,hh.2⟩
  ·rw[Ju hh] at h;exact absurd rfl h
 ·exact absurd rfl h
def rS {m β:Int}(h0:0 < m)(h1:m < 1073741824):cC [.int m] β=.ok (.int (β % m)) false (β / m):=Jk ⟨h0,h1⟩
section
variable {P:Program}{w:World}{K:Frag}{mg:Str->Option Value}{base:Heap}
def Bd {X:Cx}{i j:Nat}{x y:Str}{px py pos:Pos}{k:Nat}(hN:X.N.Nodup)(hi:X.N[i]? =some x)(hj:X.N[j]? =some y)(hx:X.env.scope.names.lookup x=some .local)(hy:X.env.scope.names.lookup y=some .local)(hc:X.calm=true) :
  PG X (.Tuple [.Name x px,.Name y py] k pos) (Bz X.K 2 (nH (jr i) (nH (jr j) Bq))):=
 nN hc (cY (cu hN hi (Or.inl hx) (Or.inr hx)) (cY (cu hN hj (Or.inl hy) (Or.inr hy)) lH))
def zE {b:Addr}{β m:Int}{H:Hp}{Q:VK}{G:Hp}(hb:H b=some (.lst [.int β]))(s:ar G H){p:Addr}(hp:H p=none)
  (kk:∀v G' H',gM (some b) H H'->H' b=some (.lst [.int (β / m)])->ar G G'->ar G' H'->(∀c,Mx H c->G c=none->G' c=none)->FV K H G' H' false (.int (β % m)) v->Q v H') (gb:G b=none) :
  Q (.int (β % m)) (upd (upd H p (.tup [.int (β / m),.int (β % m)])) b (.lst [.int (β / m)])):=by
 have hbp:b≠p:=aE hb hp
 refine kk _ G _ ⟨λc o e n=>Kt.of (by rw[aw (λz=>n (by rw[z])),aw (aE e hp)];exact e),λc o u e=>by rw[aw (λz=>by rw[z,hb] at e;cases e),aw (aE e hp)];exact e⟩ aq (ar.refl _) (λc o e=>?_) (λc _ h=>h) (.int _)
 obtain⟨u,eu,_⟩:=(s c o e).some
 exact hW (hW (s c o e) (aE eu hp) λx y w=>by rw[hp] at w;cases w) (λz=>by rw[z,gb] at e;cases e) λx y w=>by rw[aw hbp,hb] at w;cases w
end
end L2
namespace L2
open PySem PySem.SeqAt PySem.Spec PyProof.Rows
def qX {M:Model}{A:Around}{E:Value->Shared->Prop}{s:Shared}{β:Type}{b:Nat}(f:Nat->β->Sem (ForInStep β))(I:List Nat->β->Shared->Prop)(Q:β->Shared->Prop)
  (turn:∀x rest b s,I (x :: rest) b s->wpAny M A (f x b) (λr s'=>match r with | .yield b'=>I rest b' s' | .done b'=>Q b' s') E s)
  (fin:∀b s,I [] b s->Q b s) (c:β) (h:I (List.range' 0 b) c s):wpAny M A (forIn [0:b] c f) Q E s:=by
 rw[Std.Legacy.Range.forIn_eq_forIn_range']
 simp only[Std.Legacy.Range.size,Nat.sub_zero,Nat.add_sub_cancel,Nat.div_one]
 exact wpAny_forIn_list f I Q turn fin _ c h
def o7 (l:Addr)(items:Array Value)(n:Nat)(dd:Option Addr)(sl:Array (Option Value))(x:Value)(e:Value->Bool)(j:Nat)(hj:j < items.size)
  (hit:e items[j]=true) (hno:∀m (hm:m < items.size),m < j->e items[m]=false) :
  Meets (Builtin.«tuple.index» ⟨[.ref l,x],[]⟩)
   (λA R s=>s.heap.get? l=some {cls:=.type "tuple",dict:=dd,data:=.seq items n,slots:=sl}/\(∀y,y∈items->EqAt A.in1 s y x (e y))/\R (.ok (.ret (.int j s.toks))) {s with toks:=s.toks + 1}):=
 .of_wp λprog w A R s h=>by
  obtain⟨hp,g,d,tk,os⟩:=s;obtain⟨hl,he,h⟩:=h
  wp_walk using wpAny_loadPart' hl,qX _ (λrest b s'=>b.1=none/\s'=⟨hp,g,d,tk,os⟩/\∃i,i<=j/\rest=List.range' i (items.size - i)) _
  case turn=>
   rintro y rest b s' ⟨hb,rfl,i,hi,hr⟩
   obtain⟨m,hm⟩:∃m,items.size - i=m + 1:=⟨items.size - i - 1,by omega⟩
   rw[hm,range'_succ] at hr
   obtain⟨rfl,rfl⟩:=List.cons.inj hr
   have hlt:y < items.size:=by omega
   have e1:items[y]? =some items[y]:=by simp[hlt]
   simp only[e1]
   refine Ji (he _ (Array.getElem_mem hlt) prog w _ _ ?_)
   by_cases z:y=j
   ·subst z
    rw[hit]
    wp_walk
    exact⟨_,rfl,h⟩
   ·rw[hno y hlt (by omega)]
    wp_walk
    exact⟨rfl,rfl,y + 1,by omega,by congr 1;omega⟩
  case fin=>
   rintro b s' ⟨hb,rfl,i,hi,hr⟩
   obtain⟨m,hm⟩:∃m,items.size - i=m + 1:=⟨items.size - i - 1,by omega⟩
   rw[hm,range'_succ] at hr
   cases hr
  case h=>
   exact⟨rfl,rfl,0,JY _,by rw[Nat.min_self];rfl⟩
section
variable {K:Frag}{X:Cx}{G H:Hp}{Γ:Fx}{E:XK}{e a b c:Expr}{f fa fb fc:VF D}{L La Lb:List Nat}{md ma mb mc:Md}{pos apos cpos np:Pos}
def uY (k:Int):Value->Bool
 | .int i _=>i == k
 |_=>false
theorem kF {k:Int}:∀{ns:List Int} {us:List Value} (i:Nat) (h:i < us.length) (h2:i < ns.length),Vals (ns.map V.int) us->uY k us[i]=(ns[i] == k)
 | [],_,_,_,h2,_=>absurd h2 (Nat.not_lt_zero _)
 |n :: ns,_,0,_,_,.cons r _=>by obtain⟨t,rfl⟩:=r;rfl
 |n :: ns,_,i + 1,h,h2,.cons _ rs=>kF i (Nat.lt_of_succ_lt_succ h) (Nat.lt_of_succ_lt_succ h2) rs
theorem tG {k:Int}{t:Tok}(A:Around)(s:Shared):∀{ns:List Int} {us:List Value},Vals (ns.map V.int) us->∀y∈us,EqAt A s y (.int k t) (uY k y)
 | [],_,.nil,y,hy=>by cases hy
 |n :: ns,_,.cons r rs,y,hy=>by
  rcases Jn.mp hy with z |z
  ·subst z;obtain⟨t',rfl⟩:=r;exact EqAt.int_int n t' k t
  ·exact tG A s rs y z
def BH (K:Frag):V->List V->Hp->VK->Prop:=λx vs H Q=>∃(a:Addr) (ns:List Int) (k:Int),x=.ref a/\vs= [.int k]/\dW K H a (ns.map V.int)/\k∈ns/\Q (.int (ns.idxOf k:Nat)) H
def xX:FN X "tuple.index" (BH X.K):=by
 intro pins s σ H x vs v us Q I rx rv h
 obtain⟨a,ns,k,rfl,rfl,hq,hk,q⟩:=h
 cases rx
 obtain⟨u,rfl,ru⟩:=vals1 rv
 obtain⟨t,rfl⟩:=ru
 obtain⟨its,rs,pl,hz⟩:=I.tuple hq
 obtain⟨⟨cls,dd,data,sl⟩,ho,hc,n,hd⟩:=id pl
 simp only at hc hd
 subst hc hd
 have hj:ns.idxOf k < ns.length:=Lp.mpr hk
 have hlen:its.length=ns.length:=by rw[<-rs.length,JE]
 refine call_meets PySem.F.slot_tuple_index ⟨_,ho,rfl⟩ PySem.F.entry_tuple_index (PySem.F.args_tuple_index_2 _ _)
  (o7 a its.toArray n dd sl (.int k t) (uY k) (ns.idxOf k) (by simpa[hlen] using hj) ?_ ?_) ⟨ho,λy hy=>tG _ _ rs y (by simpa using hy),?_⟩
 ·have:=kF (k:=k) (ns.idxOf k) (by omega) hj rs
  simpa[List.getElem_idxOf hj] using this
 ·intro m hm hlt
  have hm':m < ns.length:=by simpa[hlen] using hm
  have hne:ns[m]≠k:=λz=>by
   have:=List.not_of_lt_findIdx (p:=(· == k)) hlt
   simp[z] at this
  have:=kF (k:=k) m (by omega) hm' rs
  rw[beq_eq_false_iff_ne.mpr hne] at this;simpa using this
 ·exact⟨.int (ns.idxOf k:Nat),H,I.tok _,⟨_,rfl⟩,q⟩
def Inv.tupleP {pins:List (Addr×Obj)}{σ:St}{s:Shared}{p:Addr}{xs:List V}(I:Inv X pins σ H s)(h:dW X.K H p xs):s.TypeIs (.ref p) "tuple"/\∀a,Value.ref p=.ref a->∃ob,s.heap.get? a=some ob/\ob.dict=none:=by
 rcases h with h | ⟨o,its,n,hk,hc,hs,hz,r,hd⟩
 ·obtain⟨_,_,_,o,e,c,n,d,hd⟩:=h.ok I.hok
  exact⟨⟨o,e,c⟩,λa z=>by cases z;exact⟨o,e,hd⟩⟩
 ·exact⟨⟨o,I.kIn p o hk,hc⟩,λa z=>by cases z;exact⟨o,I.kIn p o hk,hd⟩⟩
def HY (K:Frag)(r:V->List V->Hp->VK->Prop)(to:TE)(t:TA):TE:=λσ H Q=>to σ H λx H1=>(∃p xs,x=.ref p/\dW K H1 p xs)/\t σ H1 λxs H2=>r x xs H2 Q
def D7 {o e:Expr}{es:List Expr}{to:TE}{t:TA}{name:Str}{apos cpos:Pos}{id:String}{r:V->List V->Hp->VK->Prop}(slot:Slot "tuple" name id)(hty:typeOf (.builtin id)=pure (.type "method_descriptor"))(hm:FN X id r)(ho:PE X o to)(ha:PA X (e :: es) t)
  (hbase:attributeBase o name X.env (eval o X.env)=eval o X.env:=by rfl)
  (hfew:((backTo cpos (starEach (e :: es) X.env)).all (λx=> !x.1) && (backToKw cpos (keywordEach [] X.env)).all (λx=>x.1.isSome)
   && decide ((e :: es).length + ([]:List Keyword).length + (if ([]:List Keyword).isEmpty then 0 else 1) < 30))=true:=by rfl)
  (hline:(apos.endLine == cpos.line)=true:=by rfl) (hs:starEach (e :: es) X.env=(false,eval e X.env) :: starEach es X.env:=by rfl) (hplain:(backTo cpos (starEach es X.env)).any (·.1)=false:=by rfl) :
  PE X (.Call (.Attribute o name apos) (e :: es) [] cpos) (HY X.K r to t):=by
 intro pins s σ H Q I h
 refine wpAny_Call_method_late hbase hfew hline rfl (bW (ho pins s σ H _ I h) λv s1 ⟨x,H1,I1,r1,⟨p,ys,ex,hr⟩,q1⟩=>?_)
 subst ex
 cases r1
 obtain⟨h1,h2⟩:=I1.tupleP hr
 refine⟨"tuple",id,PySem.F.plainAttrs_tuple,slot,hty,h1,h2,?_⟩
 have hA:=ha cpos pins s1 σ H1 _ I1 q1
 rw[hs] at hA ⊢
 refine Calls.callWith_builtin (by show (false || (backTo cpos (starEach es X.env)).any (·.1))=false;rw[hplain] <;> rfl) (Calls.evalArgs_plain ?_)
 exact bW hA λus s2 ⟨vs,H2,I2,r2,q2⟩=>hm pins s2 σ H2 (.ref p) vs (.ref p) us Q I2 rfl r2 q2
def iF:List D->Option (List Int)
 | []=>some []
 | .int i :: ds=>(iF ds).map (i :: ·)
 |_=>none
theorem nq:∀{ds:List D} {ns:List Int},iF ds=some ns->ds=ns.map int
 | [],ns,h=>by cases h;rfl
 | .int i :: ds,ns,h=>by
  unfold iF at h
  cases q:iF ds with
  |none=>rw[q] at h;cases h
  |some ms=>rw[q] at h;cases h;rw[nq q];rfl
 | .none :: _,_,h=>by cases h
 | .bool _ :: _,_,h=>by cases h
 | .str _ :: _,_,h=>by cases h
 | .list _ :: _,_,h=>by cases h
 | .tuple _ :: _,_,h=>by cases h
 | .dict _ :: _,_,h=>by cases h
theorem iH:∀ns:List Int,iF (ns.map int)=some ns
 | []=>rfl
 |n :: ns=>by show (iF (ns.map int)).map (n :: ·)=_;rw[iH ns];rfl
theorem nY:∀{ns:List Int} {xs:List V},cm K G xs (ns.map int)->xs=ns.map V.int
 | [],_,.nil=>rfl
 |n :: ns,_,.cons r t=>by cases r;rw[nY t];rfl
def AK (d y:D):Option D:=match d,y with
 | .tuple ds,.int k=>(match iF ds with
  |some ns=>if k∈ns then some (.int (ns.idxOf k:Nat)) else none
  |none=>none)
 |_,_=>none
def wW:D->Bool
 | .tuple _=>true
 |_=>false
def lT (fa fb:VF D):VF D:=λvs β=>(fa vs β).bnd λx β1=>if wW x=true then (fb vs β1).bnd λy β2=>R.of (AK x y) β2 else .bad
theorem sV (hK:X.K=Γ.K)(ha:SE X Γ E a fa La ma)(hb:SE X Γ E b fb Lb mb)
  (hbase:attributeBase a "index" X.env (eval a X.env)=eval a X.env:=by rfl)
  (hfew:((backTo cpos (starEach [b] X.env)).all (λx=> !x.1) && (backToKw cpos (keywordEach [] X.env)).all (λx=>x.1.isSome)
   && decide ([b].length + ([]:List Keyword).length + (if ([]:List Keyword).isEmpty then 0 else 1) < 30))=true:=by rfl)
  (hline:(apos.endLine == cpos.line)=true:=by rfl) (hs:starEach [b] X.env=(false,eval b X.env) :: starEach [] X.env:=by rfl) :
  SE X Γ E (.Call (.Attribute a "index" apos) [b] [] cpos) (lT fa fb) (La ++ Lb) .v:=by
 refine PE.post' (D7 PySem.F.slot_tuple_index PySem.F.type_tuple_index xX ha (aj hb aI hs) hbase hfew hline hs rfl) λσ H Q ⟨env,G,B,β,I,o⟩=>?_
 refine⟨env,G,B,β,I,o.bnd.imp λd1 β1 h x G1 H1 I1 s1 m1 vx=>?_⟩
 have vx:=vx.brw I.boxThere
 cases d1 with
 |tuple ds=>
  rw[Jk (show wW (.tuple ds)=true from rfl)] at h
  obtain⟨p,xs,rfl,hq,r⟩:=vx.tuple I1.sub
  refine⟨⟨p,xs,rfl,by rw[hK];exact hq⟩,?_⟩
  refine⟨a7 La env,G1,B,β1,I1,?_⟩
  rw[eS]
  refine h.bnd.imp λd2 β2 h y G2 H2 I2 s2 m2 vy=>?_
  obtain⟨d,e,k⟩:=h.of
  have vy:=vy.brw I1.boxThere
  cases d2 with
  |int kk=>
   obtain rfl:=vy.int
   simp only[AK] at e
   cases q:iF ds with
   |none=>rw[q] at e;cases e
   |some ns=>
    rw[q] at e
    dsimp only at e
    split at e
    ·rename_i hk
     cases e
     have eds:=nq q
     subst eds
     have exs:=nY r
     subst exs
     have hq2:dW X.K H2 p (ns.map V.int):=by
      rw[hK]
      rcases hq with hq |hq
      ·rcases vx with vx | ⟨_,_,_,vx⟩
       ·cases vx with
        |tup g1 r9=>have z9:=nY r9;subst z9;exact (g1.grow (s2.trans I2.sub).grow)
       ·exact vx.elim
      ·exact .inr hq
     exact⟨p,ns,kk,rfl,rfl,hq2,hk,k _ G2 H2 (by rw[cv];exact I2) (s1.trans s2) (m1.trans m2) (.int _)⟩
    ·cases e
  |_=>simp only[AK] at e;cases e
 |_=>exact h.elim
end
end L2
namespace L2
open PySem PySem.Spec PyProof.Rows
def iW:En->Bool
 | []=>true
 | .no :: env=>iW env
 | .fz _ :: env=>iW env
 |_=>false
theorem gk:∀{env:En} {i:Nat} {s:Sl},iW env=true->env[i]? =some s->s=.no\/∃d,s=.fz d
 | [],_,_,_,e=>by simp at e
 | .no :: env,0,_,_,e=>by simp at e;exact .inl e.symm
 | .fz d :: env,0,_,_,e=>by simp at e;exact .inr ⟨d,e.symm⟩
 | .no :: env,i + 1,s,h,e=>gk (env:=env) h (by simpa using e)
 | .fz d :: env,i + 1,s,h,e=>gk (env:=env) h (by simpa using e)
 | .ow _ :: _,_,_,h,_=>by cases h
 | .br _ :: _,_,_,h,_=>by cases h
 | .bx :: _,_,_,h,_=>by cases h
section
variable {X:Cx}{Γ:Fx}{E:XK}{m:SF}
def SR.drop {B:Option Addr}{G H:Hp}{σ:St}{env:En}{β:Int}(I:SR Γ B G H σ env β)(hf:iW env=true):SR (Fx.fn Γ.K H G Γ.ca) none G H σ env 0:=by
 refine⟨I.sub,ar.refl _,λb _ h=>h,λb o h _=>Kt.of h,λb h=>(by cases h),λb h=>(by cases h),λb h=>(by cases h),I.len,λi s e=>?_,λi j a d e h=>?_⟩
 ·rcases gk hf e with rfl | ⟨d,rfl⟩
  ·trivial
  ·exact I.slot i _ e
 ·rcases gk hf h with z | ⟨_,z⟩ <;> cases z
def SR.undrop {B B':Option Addr}{G H G' H':Hp}{σ σ':St}{env env':En}{β β':Int}(I:SR Γ B G H σ env β)(J:SR (Fx.fn Γ.K H G Γ.ca) B' G' H' σ' env' β'):SR Γ B G' H' σ (List.replicate env.length .no) β:=by
 have kp:∀b o,H b=some o->Kt H' b o:=λb o e=>J.keep b o e (by simp)
 have ks:ar H H':=kp
 refine⟨J.sub,I.old.trans J.old,λb h1 h2=>J.new b (I.thereM h1) (I.new b h1 h2),λb o h1 h2=>(I.keep b o h1 h2).step ks,λb hb=>(I.pin b hb).same (kp b),I.fix,λb e=>?_,by rw[Ki];exact I.len,λi s e=>?_,λi j a d e h=>?_⟩
 ·obtain⟨h1,h2,h3⟩:=I.box b e
  exact⟨kp b _ h1,J.new b (Mx.lst h1) h2,h3⟩
 ·rw[Kl (JI e)];trivial
 ·have:=Kl (JI h);cases this
def SR.forget {B:Option Addr}{G H H':Hp}{σ:St}{env:En}{β:Int}(I:SR Γ B G H σ env β)(hh:ar H H'):SR Γ B G H' σ env β:=I.ext ⟨hh,ar.refl _,I.sub.trans hh,λ_ _=>rfl⟩
end
section
variable {X:Cx}{pins:List (Addr×Obj)}{σ:St}{H:Hp}{s:Shared}
def Inv.turnedL {t':Nat}{ch:List Addr}{h':Heap}(I:Inv X pins σ H s)(k:∀b o,b∉ch->s.heap.get? b=some o->h'.get? b=some o)(hf:∀b∈ch,iN X pins H b):Inv X pins σ H {s with heap:=h',toks:=t'}:=by
 have nit:∀b u,H b=some u->b∉ch:=λb u e z=>by rw[(hf b z).1] at e;cases e
 have nL:X.env.locals∉ch:=λz=>(hf _ z).2.1 rfl
 refine I.step (g':=s.gens) (d':=s.drawn) (ch:=ch) (λb hb=>?_) (λb o _ _ hc e _=>k b o hc e) (λb o _ _ hc e _=>⟨o.slots,k b o hc e⟩) (λ_ _ _ _ n=>n)
  (λb o hc e=>⟨o,k b o hc e⟩) (λ_ _ e=>e) (λ_ _ _ e=>e) (λb ps e=>⟨#[],by rw[e];simp⟩) (λm hm=>?_) (λb u e=>?_) I.bare
 ·obtain⟨f0,f1,f2,f3,f4,f5⟩:=hf b hb
  exact⟨f3,f1,f4,f5⟩
 ·obtain⟨o,es,ep,ho,r⟩:=hm
  exact⟨o,es,ep,k _ o nL ho,r⟩
 ·refine (I.hok b u e).stay (λc v hc q=>k c v ?_ q) (λ_ q=>q) λ_ _ q=>q
  rcases hc with z |z
  ·rw[z];exact nit b u e
  ·exact nit c _ z
end
def EI {n:Nat}(i j:Nat)(h:(i == j)=false):(n + i:Nat)≠n + j:=by
 have:i≠j:=by simpa using h
 omega
section
variable {X:Cx}{Γ:Fx}{E:XK}{e a b c:Expr}{f fa fb:VF D}{L La Lb:List Nat}{md ma mb:Md}{pos:Pos}
def wH (i j:Nat)(La Lb:List Nat)(fa fb:VF D):SF:=λenv β=>toS (fa (vl env) β) λd1 β1=>toS (fb (vl env) β1) λd2 β2=>.nx (((a7 (La ++ Lb) env).set i (.fz d1)).set j (.fz d2)) β2
def Bx {i j:Nat}{x y:Str}{px py pt:Pos}{kt k2 pt2}(hN:X.N.Nodup)(hij:i≠j)(ha:SE X Γ E a fa La .v)(hb:SE X Γ E b fb Lb .v)(hc:X.calm=true:=by rfl)(hi:X.N[i]? =some x:=by rfl)(hj:X.N[j]? =some y:=by rfl)
  (hx:X.env.scope.names.lookup x=some .local:=by rfl) (hy:X.env.scope.names.lookup y=some .local:=by rfl)
  (hs1:starEach [a,b] X.env=(false,eval a X.env) :: starEach [b] X.env:=by rfl) (hs2:starEach [b] X.env=(false,eval b X.env) :: starEach [] X.env:=by rfl)
  (hw:swappedStores [.Tuple [.Name x px,.Name y py] kt pt] (.Tuple [a,b] k2 pt2) X.env=pure (some [x,y]):=by rfl)
  (hs:swapsWithSole [.Tuple [.Name x px,.Name y py] kt pt] (.Tuple [a,b] k2 pt2) pos.line X.env=pure false:=by rfl) :
  SS X Γ E (.Assign [.Tuple [.Name x px,.Name y py] kt pt] (.Tuple [a,b] k2 pt2) pos) (wH i j La Lb fa fb):=by
 refine PS.post (Dz hc hN hi hj hij hx hy (aj ha (aj hb aI hs2) hs1) hw hs) λN σ H ⟨env,G,B,β,I,o⟩=>?_
 refine⟨env,G,B,β,I,cf o λd1 β1 k v G1 H1 I1 s1 m1 vo=>⟨a7 La env,G1,B,β1,I1,?_⟩⟩
 rw[eS]
 refine cf k λd2 β2 k w G2 H2 J s2 m2 vo2=>?_
 have vo:Rp Γ.K G1 v d1:=vo
 have vo2:Rp Γ.K G2 w d2:=vo2
 refine⟨_,_,rfl,k B G2 H2 _ ?_ (s1.trans s2)⟩
 rw[cv]
 exact (J.set' i (vo.mono s2)).set' j vo2
end
section
variable {κ:Type}[DecidableEq κ]
def putK (kvs:List (κ×V))(k:κ)(v:V):List (κ×V):=
 if (kvs.any λkv=>decide (kv.1=k))=true then kvs.map (λkv=>if kv.1=k then (kv.1,v) else kv) else kvs ++ [(k,v)]
def ud (kvs:List (κ×V))(k:κ)(v:V):(putK kvs k v).length<=kvs.length + 1:=by
 unfold putK
 split
 ·rw[JE];omega
 ·rw[JP,JM,List.length_nil];omega
theorem KV.any {kvs:List (κ×V)}{vs:List (κ×Value)}(r:KV kvs vs)(k:κ):(kvs.any λkv=>decide (kv.1=k))=vs.any λkv=>decide (kv.1=k):=by
 unfold KV at r
 induction r with
 |nil=>rfl
 |cons h t ih=>rw[KJ,KJ,ih,h.1]
theorem KV.repl {kvs:List (κ×V)}{vs:List (κ×Value)}(r:KV kvs vs)(k:κ){y:V}{u:Value}(ry:RelV y u) :
  KV (kvs.map λkv=>if kv.1=k then (kv.1,y) else kv) (vs.map λkv=>if kv.1=k then (kv.1,u) else kv):=by
 unfold KV at r ⊢
 induction r with
 |nil=>exact .nil
 | @cons p q ps qs h t ih=>
  rw[Kc,Kc]
  refine .cons ?_ ih
  obtain⟨h1,h2⟩:=h
  by_cases e:p.1=k
  ·rw[Jk e,Jk (h1.symm.trans e)];exact⟨h1,ry⟩
  ·rw[Ju e,Ju (λz=>e (h1.trans z))];exact⟨h1,h2⟩
def KV.put {kvs:List (κ×V)}{vs:List (κ×Value)}(r:KV kvs vs)(k:κ){y:V}{u:Value}(ry:RelV y u):KV (putK kvs k y) (stored vs k u):=by
 unfold putK stored
 rw[r.any k]
 by_cases e:(vs.any λkv=>decide (kv.1=k))=true
 ·rw[Jk e,Jk e];exact r.repl k ry
 ·rw[Ju e,Ju e];exact Paired.snoc r ⟨rfl,ry⟩
end
theorem Fy {P:Program}{w:World}{k:Key}{u:Value}(r:RelV (kV k) u):(dR P w).is k u=true:=by
 cases k with
 |inl i=>obtain⟨t,e⟩:=(show ∃t,u=Value.int i t from r);subst e;exact sZ P w i t
 |inr x=>obtain⟨t,e⟩:=(show ∃t,u=Value.str x t from r);subst e;exact sk P w x t
section
variable {P:Program}{w:World}{H:Hp}{h:Heap}{a:Addr}
def Gb {u:HO}(ok:ju P w H h)(e:Rd H a u):bP P w H h a u:=e.ok ok
def Gm {kvs:List (Key×V)}(ok:ju P w H h)(e:Rd H a (.dK kvs)):kvs.length<=sizeLine/\(a == sysModules)=false/\∃vs,KV kvs vs/\h.DictOf (dR P w) a vs:=
 show bP P w H h a (.dK kvs) from Gb ok e
def EO {kvs:List (Key×V)}(ok:ju P w H h)(e:H a=some (.dK kvs)):kvs.length<=sizeLine/\(a == sysModules)=false/\∃vs,KV kvs vs/\h.DictOf (dR P w) a vs:=Gm ok (.inl e)
end
section
variable {X:Cx}{pins:List (Addr×Obj)}{σ:St}{H:Hp}{s:Shared}{a:Addr}{y v:V}{u r:Value}{o:Option V}{A:Around}{E:Value->Shared->Prop}
def Inv.big (I:Inv X pins σ H s):sysModules < s.heap.objs.size:=by
 have h:mainGlobals < s.heap.objs.size:=(I.mod.glob.keeps I.bk).lt
 exact KG (by decide) h
def A4 {h':Heap}{t':Nat}{ob:HO}(I:Inv X pins σ H s)(mu:FX (H a))(hs:Heap.SameBut a s.heap h')(he:∃q,h'.get? a=some q)(new:bP X.prog X.w (upd H a ob) h' a ob) :
  Inv X pins σ (upd H a ob) {s with heap:=h',toks:=t'}:=
 I.write (x:=a) (e:=a) mu (.inl rfl) (λb q hb z=>(hs.2 b hb).trans z) he new
def DW {P:Program}{w:World}{H':Hp}{h':Heap}{kvs:List (Key×V)}{vs:List (Key×Value)}(z:kvs.length<=sizeLine)(hd:(a == sysModules)=false)(rel:KV kvs vs)(dd:h'.DictOf (dR P w) a vs) :
  bP P w H' h' a (.dK kvs):=⟨z,hd,vs,rel,dd⟩
end
def zx {P:Program}{w:World}{H:Hp}(h:Heap)(hb:sysModules < h.objs.size):bP P w H (h.push {cls:=.type "dict",data:=.dict #[]}) h.objs.size (.dK []):=
 ⟨JY _,beq_eq_false_iff_ne.mpr (Ne.symm (JH hb)),[],.nil,Heap.DictOf.new h⟩
def vd:List (TE×TE)->St->Hp->(List (V×V)->Hp->Prop)->Prop
 | [],_,H,Q=>Q [] H
 | (tk,tv) :: r,σ,H,Q=>tk σ H λx H1=>tv σ H1 λy H2=>vd r σ H2 λps H3=>Q ((x,y) :: ps) H3
abbrev VV:List (V×V)->List (Value×Value)->Prop:=Paired λp q=>RelV p.1 q.1/\RelV p.2 q.2
def GP (X:Cx)(pos:Pos)(keys:List (Option Expr))(values:List Expr)(trs:List (TE×TE)):Prop:=
 ∀(pins:List (Addr×Obj)) (s:Shared) (σ:St) (H:Hp) (Q:List (V×V)->Hp->Prop),Inv X pins σ H s->vd trs σ H Q->
  wpAny (model X.prog X.w) X.A (evalPairs (pairTrees keys values X.env pos)) (λvs s'=>∃ps H',Inv X pins σ H' s'/\VV ps vs/\Q ps H') X.xe s
def AI {X:Cx}{pos:Pos}:GP X pos [] [] []:=λpins s σ H Q I h=>pairTrees_nil_walk ⟨[],H,I,.nil,h⟩
def AF {X:Cx}{pos:Pos}{k v:Expr}{ks:List (Option Expr)}{vs:List Expr}{tk tv:TE}{trs:List (TE×TE)}(hk:PE X k tk)(hv:PE X v tv)(hr:GP X pos ks vs trs) :
  GP X pos (some k :: ks) (v :: vs) ((tk,tv) :: trs):=λpins s σ H Q I h=>
 pairTrees_cons_walk (bW (hk pins s σ H _ I h) λu s1 ⟨x,H1,I1,rx,q1⟩=>bW (hv pins s1 σ H1 _ I1 q1) λw2 s2 ⟨y,H2,I2,ry,q2⟩=>
  bW (hr pins s2 σ H2 _ I2 q2) λws s3 ⟨ps,H3,I3,rel,q3⟩=>⟨(x,y) :: ps,H3,I3,.cons ⟨rx,ry⟩ rel,q3⟩)
def ot (kvs more:List (Key×V)):List (Key×V):=more.foldl (λacc kv=>putK acc kv.1 kv.2) kvs
theorem KV.merge:∀{more:List (Key×V)} {rs:List (Key×Value)} {kvs:List (Key×V)} {vs:List (Key×Value)},KV more rs->KV kvs vs->KV (ot kvs more) (merged vs rs):=by
 intro more rs kvs vs r
 unfold KV at r
 induction r generalizing kvs vs with
 |nil=>intro q;exact q
 | @cons p q ps qs h t ih=>
  intro r0
  have e:KV (putK kvs p.1 p.2) (stored vs q.1 q.2):=by
   have:=r0.put p.1 h.2
   rw[<-h.1];exact this
  exact ih e
theorem km:∀(more kvs:List (Key×V)),(ot kvs more).length<=kvs.length + more.length
 | [],kvs=>by show kvs.length<=kvs.length + 0;omega
 |p :: r,kvs=>by
  have h1:=km r (putK kvs p.1 p.2)
  have h2:=ud kvs p.1 p.2
  show (ot (putK kvs p.1 p.2) r).length<=_
  rw[JM];omega
theorem nr {P:Program}{w:World}:∀{kvs:List (Key×V)} {ws:List (Value×Value)},VV (kvs.map λkv=>(kV kv.1,kv.2)) ws->∃rs,Carries (dR P w) ws rs/\KV kvs rs
 | [],_,r=>by rw[List.map_nil] at r;cases r;exact⟨[],True.intro,.nil⟩
 |p :: kvs,_,r=>by
  rw[Kc] at r
  cases r with
  | @cons a b as bs h t=>
   obtain⟨rs,c,q⟩:=nr (P:=P) (w:=w) t
   obtain⟨b1,b2⟩:=b
   exact⟨(p.1,b2) :: rs,⟨Fy h.1,rfl,c⟩,.cons ⟨rfl,h.2⟩ q⟩
def Fb (trs:List (TE×TE)):TE:=λσ H Q=>∀p,H p=none->vd trs σ (upd H p (.dK [])) λps H2=>H2 p=some (.dK [])/\∃kvs:List (Key×V),ps=kvs.map (λkv=>(kV kv.1,kv.2))/\kvs.length<=15/\Q (.ref p) (upd H2 p (.dK (ot [] kvs)))
def Bi {X:Cx}{pos:Pos}{keys:List (Option Expr)}{values:List Expr}{trs:List (TE×TE)}(h:GP X pos keys values trs)(hall:keys.all (·.isSome)=true)(hl:keys.length=values.length)(h0:keys≠ [])
  (h15:keys.length<=15):PE X (.Dict keys values pos) (Fb trs):=by
 intro pins s σ H Q I q
 have hn:=I.hok.fresh (Jl s.heap.objs.size)
 have I1:=I.laid (a:=s.heap.objs.size) (o:=.dK []) (h':=s.heap.push {cls:=.type "dict",data:=.dict #[]}) (t':=s.toks) (λ_ _ q=>Jj _ q) (Jl _) (zx s.heap I.big)
 refine wpAny_Dict_walk (knd:=dR X.prog X.w) hall hl h0 h15 (bW (h pins _ σ _ _ I1 (q _ hn)) λws s2 ⟨ps,H2,I2,rel,e,kvs,ep,lk,q2⟩=>?_)
 subst ep
 obtain⟨rs,c,rk⟩:=nr (P:=X.prog) (w:=X.w) rel
 obtain⟨z,hd,vs0,r0,dd⟩:=EO I2.hok e
 cases r0
 refine⟨rs,c,dd,λh' dd' hs=>⟨.ref s.heap.objs.size,_,?_,rfl,q2⟩⟩
 have hz:(ot [] kvs).length<=sizeLine:=by
  have h1:=km kvs []
  rw[List.length_nil] at h1
  rw[JL];omega
 have he:∃q,h'.get? s.heap.objs.size=some q:=let ⟨q,_,_,hq,_⟩:=dd';⟨q,hq⟩
 exact A4 I2 (by rw[e];exact True.intro) hs he (DW hz hd (rk.merge .nil) dd')
section
variable {X:Cx}{Γ:Fx}{E:XK}{pos:Pos}
def A3 {k:Str}{i:Int}{j j'}{p p':Pos}:SE X Γ E (.Dict [some (.Constant (.str k) j p)] [.Constant (.int i) j' p'] pos) (cst (.dict [(.str k,.int i)])) [] .v:=by
 refine PE.post' (Bi (AF zh lI AI) rfl rfl (by simp) (by simp)) ?_
 rintro σ H Q ⟨env,G,B,β,I,o⟩ p hp
 have o:∀v G' H',SR Γ B G' H' σ (a7 [] env) β->ar G G'->gM B H H'->Rp Γ.K G' v (.dict [(.str k,.int i)])->Q v H':=o
 refine⟨aq,[(.inr k,.int i)],rfl,by simp,?_⟩
 rw[BZ]
 have xn:=Ext.new I.sub (o:=.dK [((.inr k:Key),V.int i)]) hp
 exact o _ _ _ (I.ext xn) xn.gg (xn.hh.mov B) (.dK (kvs:=[((.inr k:Key),V.int i)]) aq (.cons (.int i) .nil))
end
section
variable {prog:Program}{w:World}{A:Around}{E:Value->Shared->Prop}{s:Shared}{it t:Addr}{i:Nat}{xs:Array Value}{Q:Value->Shared->Prop}
theorem Ia (hi:s.heap.IsTupleIter it t i)(ht:s.heap.IsTuple t xs)
  (k1:∀x,xs[i]? =some x->∀h',h'.IsTupleIter it t (i + 1)->Heap.SameBut it s.heap h'->Q x {s with heap:=h'})
  (k2:xs[i]? =none->A.handled=none/\∀h' e,Heap.ExtBut it s.heap h'->(∃o,h'.get? e=some o/\o.cls=.type "StopIteration")->E (.ref e) {s with heap:=h'}) :
  wpAny (model prog w) A (Builtin.SmallTypes.nextOf (.ref it)) Q E s:=by
 obtain⟨o,ho,hc,hd⟩:=id hi
 obtain⟨ol,hol, -,nl,hdl⟩:=ht
 refine Ji (KI (name:=Str.ofString "__next__") hi.typeIs F.slot_tuple_iterator_next (wpAny_call_entry F.slot_tuple_iterator_next hi.typeIs F.entry_tuple_iterator_next ?_ (F.args_tuple_iterator_next_1 _)))
 refine (show wpAny _ _ (field (.ref it) 0 >>= _) _ _ s from Ji (Kb ho hd (x:=.ref t) rfl ?_))
 refine (show wpAny _ _ (if (Value.ref t == Value.none)=true then _ else _) _ _ s from ?_)
 rw[Ju (by exact JA)]
 refine (show wpAny _ _ (field (.ref it) 1 >>= _) _ _ s from Ji (Kb ho hd (x:=.int i 0) rfl ?_))
 refine (show wpAny _ _ (seqItems? (.ref t) >>= _) _ _ s from Ji (wpAny_seqItems hol hdl ?_))
 cases hx:xs[i]? with
 |some x=>
  simp only[JO,hx]
  refine Ji (Lr ho hd (by simp) (Jp ⟨x,rfl,Jp (k1 x hx _ ?_ (Heap.SameBut.update ..))⟩))
  refine⟨_,Kz _ ho (Obj.isFreed_of_fields (Lo hd _)),(Obj.cls_mapFields ..).trans hc,?_⟩
  rw[Lo hd]
  simp[rawInt]
 |none=>
  obtain⟨hh,hE⟩:=k2 hx
  simp only[JO,hx]
  refine Ji (wpAny_rule (Ji (Lr ho hd (by simp) (show wpAny _ _ (newExc (.type "StopIteration") [] >>= _) _ _ _ from Ji ?_))))
  simp only[newExc,newTuple]
  refine Ji (JU (Ji (m:=firstArgMember _ _) (wpAny_of_eq (a:=Value.none) (by first |rfl | (simp only[firstArgMember];rfl)) (JU ?_ (by size_fits)))) (by size_fits))
  simp only[raiseNew]
  refine Ji (wpAny_handled ?_)
  have hh':A.in1.handled=none:=hh
  first |rw[hh'] |rw[hh]
  exact Ji (Jp (wpAny_throw (hE _ _ (((Heap.SameBut.update ..).extBut.push _).push _) ⟨_,Jt _ rfl,rfl⟩)))
def Ej (hh:A.handled=none)(hne:t≠it)(xs:Array Value):Draws prog w A it [it,t] xs.size (λi v=>xs[i]? =some v) (λi h=>h.IsTupleIter it t i/\h.IsTuple t xs) where
 live:=λ_ _ st=>let ⟨o,ho,_⟩:=st.1;⟨o,ho⟩
 frame:=λ_ _ _ st hk=>⟨st.1.at λo e=>hk it (by simp) o e,st.2.at λo e=>hk t (by simp) o e⟩
 item:=λi s Q E hi st k=>Ia st.1 st.2 (λx hx h' q1 q2=>k x h' s.toks hx ⟨q1,st.2.extBut q2.extBut hne⟩ q2) λz=>by simp at z;omega
 done:=λs Q E st k=>Ia st.1 st.2 (λx hx=>by simp at hx) λ_=>⟨hh,k⟩
end
abbrev C1 (t:Addr):Obj:={cls:=.type "tuple_iterator",data:=.fields #[.ref t,.int 0 0]}
abbrev GH (it:Addr):Obj:={cls:=.type "enumerate",data:=.fields #[.none,.bool false,.ref it,rawInt 0,.none,.none]}
def zj (t:Addr)(xs:Array Value)(n:Nat)(dc:Option Addr)(sl:Array (Option Value)) :
  Meets (Builtin.«enumerate.__new__» ⟨[.type "enumerate",.ref t],[]⟩) (λ_ R s=>s.heap.get? t=some ⟨.type "tuple",dc,.seq xs n,sl⟩/\
   R (.ok (.ret (.ref (s.heap.push (C1 t)).objs.size))) {s with heap:=(s.heap.push (C1 t)).push (GH s.heap.objs.size)}):=by
 refine .of_wp λprog w A R s h=>?_
 obtain⟨hp,g,d,tk,os⟩:=s
 obtain⟨hl,h⟩:=h
 have sb:=sub_enumerate
 have hT:Heap.IsTuple (Shared.heap ⟨hp,g,d,tk,os⟩) t xs:=⟨_,hl,rfl,n,rfl⟩
 wp_walk using Lq hl
 refine wpAny_stack_any λst=>Jp ?_
 split
 ·rename_i c _ _ _ _ _
  cases (c == Value.type "enumerate") <;> (wp_walk using Lq hl,KN hT;exact⟨_,rfl,h⟩)
 ·wp_walk using Lq hl,KN hT
  exact⟨_,rfl,h⟩
section
variable {prog:Program}{w:World}{A:Around}{E:Value->Shared->Prop}{s:Shared}
def vk {t:Addr}{xs:Array Value}{Q:Value->Shared->Prop}(hT:s.heap.IsTuple t xs)
  (k:∀h',IsEnum h' (s.heap.objs.size + 1) s.heap.objs.size 0 .none->h'.IsTupleIter s.heap.objs.size t 0->(∀b o,s.heap.get? b=some o->h'.get? b=some o)->Q (.ref (s.heap.objs.size + 1)) {s with heap:=h'}) :
  wpAny (model prog w) A (call (.type "enumerate") [.ref t]) Q E s:=by
 obtain⟨⟨c,dc,dt,sl⟩,hl,hc,n,hd⟩:=hT
 have hc:c=.type "tuple":=hc
 have hd:dt=.seq xs n:=hd
 subst hc hd
 refine callType_new F.called_enumerate (by decide) (F.typeCall_enumerate_1 _) (F.newCall_enumerate_1 _) (λob=>F.args_object_init_2 ob _) F.entry_enumerate_new (zj t xs n dc sl) ⟨hl,?_⟩
 have hz:(s.heap.push (C1 t)).objs.size=s.heap.objs.size + 1:=J2 ..
 have g2:((s.heap.push (C1 t)).push (GH s.heap.objs.size)).get? (s.heap.push (C1 t)).objs.size=some (GH s.heap.objs.size):=Jt _ rfl
 have g1:((s.heap.push (C1 t)).push (GH s.heap.objs.size)).get? s.heap.objs.size=some (C1 t):=Jj _ (Jt _ rfl)
 rw[hz] at g2
 show _/\_
 rw[hz]
 exact⟨⟨_,g2,rfl⟩,k _ g2 ⟨_,g1,rfl,rfl⟩ λb o e=>Jj _ (Jj _ e)⟩
end
def Dp {prog:Program}{w:World}{A:Around}{it t:Addr}{xs:Array Value}(hh:A.handled=none)(i:Nat)(hx:xs[i]? =none):Draws prog w A it [it,t] i (λ_ _=>False) (λj h=>j=i/\h.IsTupleIter it t i/\h.IsTuple t xs) where
 live:=λ_ _ st=>let ⟨o,ho,_⟩:=st.2.1;⟨o,ho⟩
 frame:=λ_ _ _ st hk=>⟨st.1,st.2.1.at λo e=>hk it (by simp) o e,st.2.2.at λo e=>hk t (by simp) o e⟩
 item:=λj s Q E hi st k=>absurd st.1 (by omega)
 done:=λs Q E st k=>Ia st.2.1 st.2.2 (λx h=>by rw[hx] at h;cases h) λ_=>⟨hh,k⟩
def HQ (K:Frag)(a:Addr):It:=
 ⟨λi H=>∃xs x,dW K H a xs/\xs[i]? =some x,
  λi H v H'=>∃x t,H t=none/\(∀xs,dW K H a xs->xs[i]? =some x)/\v=.ref t/\H'=upd H t (.tup [.int i,x]),
  λi H=>∃xs,dW K H a xs/\xs.length<=i⟩
abbrev pH (n:Nat):List Nat:=[n + 1,n]
def xw {h:Heap}{a n:Addr}{i:Nat}{its:Array Value}{b:Addr}(p:h.IsTuple a its)(q:h.IsTupleIter n b i):a≠n:=λz=>by
 subst z
 obtain⟨o,e,c,_⟩:=p
 obtain⟨o',e',c',_⟩:=q
 rw[e] at e';cases e'
 rw[c] at c'
 simp at c'
def yk {h:Heap}{a n it:Addr}{i:Int}{its:Array Value}{old:Value}(p:h.IsTuple a its)(q:IsEnum h n it i old):n≠a:=λz=>by
 subst z
 obtain⟨o,e,c,_⟩:=p
 rw[q] at e;cases e
 simp at c
def vj {P:Program}{w:World}{K:Frag}{elts:List Expr}{x1}{pos:Pos}(a:Addr)(n:Nat):Turn P w K (.Tuple elts x1 pos) (HQ K a) (pH n) (n + 1)
  (λi h=>(∃old,IsEnum h (n + 1) n i old)/\h.IsTupleIter n a i) where
 mem:=by simp
 obj:=λi h st c hc=>by
  obtain⟨⟨old,z1⟩,⟨o2,z2,_,d2⟩⟩:=st
  simp only[pH,Jn,JG,J3] at hc
  rcases hc with rfl |rfl
  ·exact⟨_,z1,λv z=>by
    have z':Data.fields _=Data.cell v:=z
    cases z'⟩
  ·exact⟨o2,z2,λv z=>by rw[d2] at z;cases z⟩
 keep:=λi h h' st k=>by
  obtain⟨⟨old,z1⟩,z2⟩:=st
  exact⟨⟨old,k _ (by simp) _ z1⟩,z2.at λo e=>k _ (by simp) o e⟩
 item:=by
  intro X hP hw hK hc i pins s σ H E I hf st hg
  subst hP hw hK
  obtain⟨xs,x,ha,hx⟩:=hg
  obtain⟨its,rv,p,hz⟩:=I.tuple ha
  have p:s.heap.IsTuple a its.toArray:=p
  obtain⟨u0,hu0,ru0⟩:=rv.get hx
  obtain⟨⟨old,z1⟩,z2⟩:=st
  have hh:X.A.in1.handled=none:=I.ok.hd hc
  have hlt:i < its.toArray.size:=by
   have:=Jw.mp hu0
   simpa using this.1
  refine wpAny_pyNext_enum_itemD (Ej hh (xw p z2) its.toArray) z1 ⟨z2,p⟩ hlt (EI 1 0 rfl) (by
   simp only[Jn,JG,J3,not_or]
   exact⟨EI 1 0 rfl,yk p z1⟩) λu h' tk hu q1 q2 q3 q4 q5=>?_
  have eu:u0=u:=by
   have hu:its.toArray[i]? =some u:=hu
   rw[List.getElem?_toArray,hu0] at hu
   exact Option.some.inj hu
  subst eu
  refine⟨_,rfl,wpAny_letOwnedTupleGo_enum (s:={s with heap:=h',toks:=tk + 1}) q1 λh2 r1 r2=>?_⟩
  have r2:∀c,c≠n + 1->h2.get? c=h'.get? c:=r2.2
  have lz:n + 1 < s.heap.objs.size:=Jm z1
  have hT:H s.heap.objs.size=none:=I.hok.fresh (Jl _)
  have I1:Inv X pins σ (upd H s.heap.objs.size (.tup [.int i,x])) {s with heap:=s.heap.push {cls:=.type "tuple",data:=.seq #[.int i tk,u0]},toks:=s.toks}:=
   I.laid (λb o e=>Jj _ e) (Jl _) ⟨by show 2<=sizeLine;rw[JL];omega,[.int i tk,u0],.cons ⟨tk,rfl⟩ (.cons ru0 .nil),mK.new _ _⟩
  have hf':∀c∈pH n,iN X pins (upd H s.heap.objs.size (.tup [.int i,x])) c:=λc hc=>⟨by
   rw[aw (λz=>?_)]
   ·exact (hf c hc).1
   ·subst z
    simp only[pH,Jn,JG,J3] at hc
    omega,(hf c hc).2⟩
  have I2:Inv X pins σ (upd H s.heap.objs.size (.tup [.int i,x])) {s with heap:=h2,toks:=tk + 1}:=by
   refine I1.turnedL (ch:=pH n) (λc o hc e=>?_) hf'
   have e:(s.heap.push {cls:=.type "tuple",data:=.seq #[.int i tk,u0]}).get? c=some o:=e
   simp only[pH,Jn,JG,J3,not_or] at hc
   rw[r2 c hc.1]
   by_cases z:c=s.heap.objs.size
   ·subst z
    rw[Jt _ rfl] at e
    rw[<-e];exact q3
   ·refine q5 c o hc.1 hc.2 ?_
    rw[Heap.get?_push_ne _ _ _ z] at e
    exact e
  refine⟨.ref s.heap.objs.size,_,I2,rfl,⟨x,_,hT,λxs' h'=>?_,rfl,rfl⟩,⟨⟨u0,r1⟩,q2.1.at λo e=>(r2 _ (EI 0 1 rfl)).trans e⟩,λc hc=>(hf' c hc).1⟩
  rw[I.tuple_inj h' ha];exact hx
 done:=by
  intro X hP hw hK hc i pins s σ H E I hf st hg
  subst hP hw hK
  obtain⟨xs,ha,hl⟩:=hg
  obtain⟨its,rv,p,hz⟩:=I.tuple ha
  obtain⟨⟨old,z1⟩,z2⟩:=st
  have hh:X.A.in1.handled=none:=I.ok.hd hc
  have l1:=rv.length
  refine wpAny_pyNext_enum_endD (Dp hh i (xs:=its.toArray) (by simp;omega)) z1 ⟨rfl,z2,p⟩ λh' q=>⟨rfl,?_⟩
  refine I.turnedL (t':=s.toks) (ch:=pH n) (λc o hc e=>?_) hf
  simp only[pH,Jn,JG,J3,not_or] at hc
  exact q c o hc.2 e
 self:=λ_ _ _ _ _ st h=>by
  obtain⟨⟨old,z1⟩,_⟩:=st
  exact Ls z1 h
def xO:bootBuiltins "enumerate"=some (.type "enumerate"):=by decide +kernel
section
variable {X:Cx}{Γ:Fx}{E:XK}{e a b c:Expr}{f fa fb:VF D}{L La Lb:List Nat}{md ma mb:Md}{pos:Pos}
def gH (ds:List D):List D:=ds.mapIdx λi d=>.tuple [.int i,d]
def Ap {K:Frag}{B:Option Addr}{G H1:Hp}{p:Addr}{xs:List V}{ds:List D}(hp:dW K G p xs)(r:cm K G xs ds):Walk K B G H1 (gH ds) (HQ K p):=λGc H i s1 s2 m=>by
 have hp':=hp.grow (s1.trans s2).grow
 have l1:=r.len
 have lz:(gH ds).length=ds.length:=by unfold gH;rw[List.length_mapIdx]
 refine⟨λhi=>⟨?_,λx H' y=>?_⟩,λhi=>⟨xs,hp',by omega⟩⟩
 ·have h1:i < xs.length:=by omega
  exact⟨xs,xs[i],hp',by simp[h1]⟩
 ·obtain⟨x,t,ht,hx,rfl,rfl⟩:=y
  obtain⟨d,ed,rd⟩:=r.at' (hx xs hp')
  have xn:=Ext.new s2 (o:=.tup [.int i,x]) ht
  refine⟨upd Gc t (.tup [.int i,x]),.tuple [.int i,d],xn,?_,.tup (.inl (.inl aq)) (.cons (.int i) (.cons (rd.mono (s1.trans xn.gg)) .nil))⟩
  unfold gH
  rw[List.getElem?_mapIdx,ed];rfl
end
end L2
namespace L2
open PySem PySem.Spec PyProof.Rows PySem.MeetsSeq PySem.MeetsSeq2 PySem.MeetsSeq3
def Cn (K:Frag):R2:=λx y H Q=>∃a b xs ys,x=.ref a/\y=.ref b/\dW K H a xs/\dW K H b ys/\xs.length + ys.length<=sizeLine/\
 (xs= []->Q (.ref b) H)/\(xs≠ []->ys= []->Q (.ref a) H)/\(xs≠ []->ys≠ []->∀p,H p=none->Q (.ref p) (upd H p (.tup (xs ++ ys))))
section
variable {X:Cx}
def Aq:kN X (binaryOp .Add) (Cn X.K):=by
 intro pins s σ H x y v u Q I rx ry h
 obtain⟨a,b,xs,ys,rfl,rfl,ha,hb,hz,q0,q1,q2⟩:=h
 by_cases hx:xs= []
 ·cases rx
  cases ry
  obtain⟨its,r1,p1,_⟩:=I.tuple ha
  obtain⟨its2,r2,p2,_⟩:=I.tuple hb
  obtain⟨⟨cls,dd,data,sl⟩,ho,hc,n,hd⟩:=id p1
  obtain⟨⟨cls2,dd2,data2,sl2⟩,ho2,hc2,n2,hd2⟩:=id p2
  simp only at hc hd hc2 hd2
  subst hc hd hc2 hd2
  have he:its= []:=r1.nil_iff.mpr hx
  exact concat_meets ⟨_,ho,rfl⟩ ⟨_,ho2,rfl⟩ noFill_tuple_add seq_tuple_add PySem.F.slot_tuple_add PySem.F.entry_tuple_add (Lj _ _)
   (tuple_addW0 a b its.toArray its2.toArray n n2 dd dd2 sl sl2 (by simp[he])) ⟨ho,ho2,.ref b,H,I,rfl,q0 hx⟩
 ·exact Bw pins s σ H _ _ v u Q I rx ry ⟨a,b,xs,ys,rfl,rfl,ha,hb,hx,hz,q1 hx,q2 hx⟩
end
def qq:D->D->Option D
 | .tuple a,.tuple b=>if a.length + b.length<=sizeLine then some (.tuple (a ++ b)) else none
 |_,_=>none
def DA {K:Frag}:mj K (Cn K) qq .v:=by
 intro B G H x y dx dy d Q s hB bx by' e k
 cases dx <;> cases dy <;> first | (cases e;done) |skip
 rename_i a b
 simp only[qq] at e
 split at e
 ·rename_i hz
  cases e
  rcases bx with bx | ⟨_,_,_,q⟩
  case inr=>exact q.elim
  rcases by' with by' | ⟨_,_,_,q⟩
  case inr=>exact q.elim
  cases bx with
  | @tup p xs _ hp r1=>
   cases by' with
   | @tup q ys _ hq r2=>
    refine⟨p,q,xs,ys,rfl,rfl,hp.grow s.grow,hq.grow s.grow,by rw[r1.len,r2.len];exact hz,λz=>?_,λz z'=>?_,λ_ _ l hl=>?_⟩
    ·subst z
     cases r1
     exact k _ G H (Ext.refl s) (.tup hq r2)
    ·subst z'
     cases r2
     rw[append_nil] at k
     exact k _ G H (Ext.refl s) (.tup hp r1)
    ·have xn:=Ext.new s (o:=.tup (xs ++ ys)) hl
     exact k _ _ _ xn (.tup (.inl (.inl aq)) ((r1.append r2).mono xn.gg))
 ·cases e
end L2
namespace L2
open PySem PySem.Spec PyProof.Rows
def isStar:Expr->Bool
 | .Starred _ _=>true
 |_=>false
def yt {a:Expr}{es:List Expr}{env:Env}(h:isStar a=false):starEach (a :: es) env=(false,eval a env) :: starEach es env:=by
 cases a <;> first |rfl |cases h
def Ds (sc:Scope)(x:Str):Bool:=match sc.names.lookup x with
 |some .local=>true
 |some .cell=>true
 |some .free=>true
 |_=>false
def BS {sc:Scope}{x:Str}(h:Ds sc x=true):uf sc x:=by
 unfold Ds at h
 unfold uf
 split at h
 ·exact .inl (by assumption)
 ·exact .inr (.inl (by assumption))
 ·exact .inr (.inr (by assumption))
 ·cases h
def uR (N:List Str)(sc:Scope):List (Str×Nat)->Bool
 | []=>true
 | (x,i) :: r=>decide (N[i]? =some x) && (Ds sc x && ((!(x == ("__debug__":Str))) && ((!(x == ("__classdict__":Str))) && uR N sc r)))
theorem wO {N:List Str}{sc:Scope}:∀{l:List (Str×Nat)} {x:Str} {i:Nat},uR N sc l=true->l.lookup x=some i->N[i]? =some x/\uf sc x/\(x == ("__debug__":Str))=false/\(x == ("__classdict__":Str))=false
 | [],_,_,_,h=>by cases h
 | (y,j) :: r,x,i,h,e=>by
  simp only[uR,JD,JN,KW] at h
  obtain⟨h1,h2,h3,h4,h5⟩:=h
  rw[KD] at e
  split at e
  ·rename_i q
   have q:x=y:=by simpa using q
   subst q
   cases e
   exact⟨h1,BS h2,h3,h4⟩
  ·exact wO h5 e
def yc:Expr->Option Int
 | .Constant (.int i) _ _=>some i
 |_=>none
theorem nc {e:Expr}{i:Int}(h:yc e=some i):∃j p,e=.Constant (.int i) j p:=by
 cases e with
 |Constant c j p=>cases c <;> first | (cases h;exact⟨_,_,rfl⟩) |cases h
 |_=>cases h
def G8 (op:UnaryOp)(e:Expr):Option Int:=match op with
 | .USub=>yc e
 |_=>none
def Cv:Operator->Bool
 | .Pow=>true
 |_=>false
def yE {o:Operator}(h:Cv o=true):o=.Pow:=by cases o <;> first |rfl |cases h
def Ew (ks:List (Option Expr))(vs:List Expr):Option (Str×Int):=match ks,vs with
 | [some (.Constant (.str k) _ _)],[v]=>(yc v).map λi=>(k,i)
 |_,_=>none
def BO {ks:List (Option Expr)}{vs:List Expr}{r:Str×Int}(h:Ew ks vs=some r):∃j p j' p',ks= [some (.Constant (.str r.1) j p)]/\vs= [.Constant (.int r.2) j' p']:=by
 unfold Ew at h
 split at h
 ·rename_i k j p v
  cases q:yc v with
  |none=>rw[q] at h;cases h
  |some i=>
   rw[q] at h
   cases h
   obtain⟨j',p',rfl⟩:=nc q
   exact⟨_,_,_,_,rfl,rfl⟩
 ·cases h
def Ie:Const->Option D
 | .int i=>some (.int i)
 | .bool b=>some (.bool b)
 | .none=>some .none
 | .str x=>some (.str x)
 |_=>none
mutual
def rD (nm:List (Str×Nat)):Expr->Option (VF D×List Nat)
 | .Name x _=>(nm.lookup x).map λi=>(gv i,[i])
 | .Constant c _ _=>(Ie c).map λd=>(cst d,[])
 | .UnaryOp op a _=>(G8 op a).map λi=>(cst (.int (-i)),[])
 | .BinOp a o b _=>if Cv o=true then (yc a).bind λi=>(yc b).map λj=>(f2 (cst (.int i)) (cst (.int j)) A8,[]) else none
 | .Dict ks vs _=>(Ew ks vs).map λr=>(cst (.dict [(.str r.1,.int r.2)]),[])
 | .Tuple es _ _=>(Cm nm es).map λr=>(aL r.1,r.2)
 | .List es _=>(Cm nm es).map λr=>(bz r.1,r.2)
 | .BoolOp ..=>none
 | .NamedExpr ..=>none
 | .Lambda ..=>none
 | .IfExp ..=>none
 | .Set ..=>none
 | .ListComp ..=>none
 | .SetComp ..=>none
 | .DictComp ..=>none
 | .GeneratorExp ..=>none
 | .Await ..=>none
 | .Yield ..=>none
 | .YieldFrom ..=>none
 | .Compare ..=>none
 | .Call ..=>none
 | .FormattedValue ..=>none
 | .JoinedStr ..=>none
 | .Attribute ..=>none
 | .Subscript ..=>none
 | .Starred ..=>none
 | .Slice ..=>none
def Cm (nm:List (Str×Nat)):List Expr->Option (VF (List D)×List Nat)
 | []=>some (ag,[])
 |e :: es=>(rD nm e).bind λr=>(Cm nm es).map λq=>(ae r.1 q.1,r.2 ++ q.2)
end
section
variable {X:Cx}{Γ:Fx}{E:XK}{nm:List (Str×Nat)}
theorem jF {α β:Type}{o:Option α}{f:α->β}{b:β}(h:o.map f=some b):∃a,o=some a/\f a=b:=by
 cases o with
 |none=>cases h
 |some a=>exact⟨a,rfl,Option.some.inj h⟩
theorem vT {α β:Type}{o:Option α}{f:α->Option β}{b:β}(h:o.bind f=some b):∃a,o=some a/\f a=some b:=by
 cases o with
 |none=>cases h
 |some a=>exact⟨a,rfl,h⟩
mutual
theorem Gd (hc:uR X.N X.env.scope nm=true)(hb:∀i,Γ.br i=false):∀{e:Expr} {f:VF D} {L:List Nat},rD nm e=some (f,L)->SE X Γ E e f L .v/\isStar e=false
 | .Name x p,f,L,h=>by
  rw[rD] at h
  obtain⟨i,q,e⟩:=jF h
  cases e
  obtain⟨h1,h2,h3,h4⟩:=wO hc q
  exact⟨ak i (hb i) h1 h2 h3 h4,rfl⟩
 | .Constant c j p,f,L,h=>by
  rw[rD] at h
  obtain⟨d,q,e⟩:=jF h
  cases e
  cases c <;> first | (cases q;first |exact⟨ao,rfl⟩ |exact⟨eh,rfl⟩ |exact⟨uN,rfl⟩ |exact⟨jw,rfl⟩) |cases q
 | .UnaryOp op a p,f,L,h=>by
  rw[rD] at h
  obtain⟨i,q,e⟩:=jF h
  cases e
  cases op <;> first | (cases q;done) |skip
  obtain⟨j,p,rfl⟩:=nc q
  exact⟨CQ zw Cw ao,rfl⟩
 | .BinOp a op b p,f,L,h=>by
  rw[rD] at h
  split at h
  ·rename_i ho
   obtain rfl:=yE ho
   obtain⟨i,q,h⟩:=vT h
   obtain⟨j,q2,e⟩:=jF h
   cases e
   obtain⟨j1,p1,rfl⟩:=nc q
   obtain⟨j2,p2,rfl⟩:=nc q2
   exact⟨cc AE CA ao ao,rfl⟩
  ·cases h
 | .Dict ks vs p,f,L,h=>by
  rw[rD] at h
  obtain⟨r,q,e⟩:=jF h
  cases e
  obtain⟨_,_,_,_,rfl,rfl⟩:=BO q
  exact⟨A3,rfl⟩
 | .Tuple es c p,f,L,h=>by
  rw[rD] at h
  obtain⟨r,q,e⟩:=jF h
  cases e
  exact⟨cQ (rE hc hb q),rfl⟩
 | .List es p,f,L,h=>by
  rw[rD] at h
  obtain⟨r,q,e⟩:=jF h
  cases e
  exact⟨SE.wv (bE (rE hc hb q)),rfl⟩
 | .BoolOp ..,_,_,h=>by rw[rD] at h;cases h
 | .NamedExpr ..,_,_,h=>by rw[rD] at h;cases h
 | .Lambda ..,_,_,h=>by rw[rD] at h;cases h
 | .IfExp ..,_,_,h=>by rw[rD] at h;cases h
 | .Set ..,_,_,h=>by rw[rD] at h;cases h
 | .ListComp ..,_,_,h=>by rw[rD] at h;cases h
 | .SetComp ..,_,_,h=>by rw[rD] at h;cases h
 | .DictComp ..,_,_,h=>by rw[rD] at h;cases h
 | .GeneratorExp ..,_,_,h=>by rw[rD] at h;cases h
 | .Await ..,_,_,h=>by rw[rD] at h;cases h
 | .Yield ..,_,_,h=>by rw[rD] at h;cases h
 | .YieldFrom ..,_,_,h=>by rw[rD] at h;cases h
 | .Compare ..,_,_,h=>by rw[rD] at h;cases h
 | .Call ..,_,_,h=>by rw[rD] at h;cases h
 | .FormattedValue ..,_,_,h=>by rw[rD] at h;cases h
 | .JoinedStr ..,_,_,h=>by rw[rD] at h;cases h
 | .Attribute ..,_,_,h=>by rw[rD] at h;cases h
 | .Subscript ..,_,_,h=>by rw[rD] at h;cases h
 | .Starred ..,_,_,h=>by rw[rD] at h;cases h
 | .Slice ..,_,_,h=>by rw[rD] at h;cases h
theorem rE (hc:uR X.N X.env.scope nm=true)(hb:∀i,Γ.br i=false):∀{es:List Expr} {f:VF (List D)} {L:List Nat},Cm nm es=some (f,L)->SA X Γ E es f L
 | [],f,L,h=>by rw[Cm] at h;cases h;exact ah
 |e :: es,f,L,h=>by
  rw[Cm] at h
  obtain⟨r,q,h⟩:=vT h
  obtain⟨r2,q2,e⟩:=jF h
  cases e
  obtain⟨a,b⟩:=Gd hc hb q
  exact af a (rE hc hb q2) (yt b)
end
def Bf {es:List Expr}{p:Pos}{t:Option Expr}{l:Nat}{env:Env}:swapsWith (.List es p) t l env=pure false:=rfl
def Ct {es:List Expr}{f:VF (List D)}{L:List Nat}{pos:Pos}(nm:List (Str×Nat))(hc:uR X.N X.env.scope nm=true)(hb:∀i,Γ.br i=false)(h:Cm nm es=some (f,L)):SE X Γ E (.List es pos) (bz f) L .w:=bE (rE hc hb h)
def Gj {i:Nat}{x:Str}{es:List Expr}{f:VF (List D)}{L:List Nat}{pos' p pos:Pos}(nm:List (Str×Nat))(hc:uR X.N X.env.scope nm=true)(hb:∀i,Γ.br i=false)(h:Cm nm es=some (f,L))(hN:X.N.Nodup)(hi:X.N[i]? =some x)(hx:Loc X.env.scope x)(hf:X.fn x=true\/X.env.scope.names.lookup x=some .local) :
  SS X Γ E (.Assign [.Name x pos'] (.List es p) pos) (dv i L (bz f)):=cz (SE.wv (Ct nm hc hb h)) hN hi hx Bf hf
end
end L2
namespace L2.ST
open PySem PySem.SetTable
section
variable {prog:Program}{w:World}{A:Around}{E:Value->Shared->Prop}{s:Shared}
set_option maxHeartbeats 3200000 in
theorem oZ {l:Addr}{vs:List Value}{ns:List Int}{T:String}{itO:Obj}{St:Addr->Nat->Heap->Prop}{Q:Value->Shared->Prop}(X:Src prog w s.heap l vs T itO St)(hh:A.handled=none)(hi:PyProof.Rows.IntsAre vs ns)(hb:vs.length + 1 < scanBound)
  (h:∀(h':Heap) (tk:Nat),h'.SetOf (intKind prog w) s.heap.objs.size (λk'=>(PyProof.Rows.firstMet (λi=>ns.getD i 0) vs.length).any (· == k')) (PyProof.Rows.firstMet (λi=>ns.getD i 0) vs.length).length->(∀b o,s.heap.get? b=some o->h'.get? b=some o)->Q (.ref s.heap.objs.size) {s with heap:=h',toks:=tk}) :
  wpAny (model prog w) A (call (.type "set") [.ref l]) Q E s:=by
 obtain⟨c0,tl0,hmro0⟩:=KH.mro
 have hmade0:=KH.made
 have hsub0:=KH.sub
 refine wpAny_call (codeAny_of_tree ?_)
 show wpAny _ _ (callAny (.type "set") ⟨[.ref l],[]⟩) _ _ _
 refine Jp ⟨Code.quiet_builtin _ (by decide +kernel),Ld F.entry_type_call ?_⟩
 (rw[Around.under_plain (weight_type_call_type "set" [.ref l] []) rfl])
 have g1:=KH.notType
 have g2:=KH.canCreate
 have g3:=F.typeCall_set_1 (.ref l)
 repeat (any_goals (first |assumption |wp_step))
 refine Kv (tZ (.ref l) (E:=E) (Q1:=λobj s1=>obj=.ref s.heap.objs.size/\s1={s with heap:=s.heap.push {cls:=.type "set",dict:=none,data:=.set #[] 0 (.fresh 0 0 (td w))}}) ⟨rfl,rfl⟩) λr s1 hr=>?_
 cases r with
 |error e=>exact hr
 |ok fl=>
  cases fl with
  |ret obj=>
   obtain⟨rfl,rfl⟩:=hr
   generalize hO:({cls:=.type "set",dict:=none,data:=.set #[] 0 (.fresh 0 0 (td w))}:Obj)=O
   have hS0:(s.heap.push O).get? s.heap.objs.size=some O:=Jt _ (by rw[<-hO];rfl)
   have hT0:Shared.TypeIs {s with heap:=s.heap.push O} (.ref s.heap.objs.size) "set":=⟨_,hS0,by rw[<-hO]⟩
   have g4:=KH.init.lookup
   have g5:=KH.init.bind (.ref s.heap.objs.size)
   repeat (any_goals (first |assumption |wp_step))
   refine Kv (codeAny_call_builtin (R:=wants (λr s2=>r=.none/\∃h' tk,s2={s with heap:=h',toks:=tk}/\h'.SetOf (intKind prog w) s.heap.objs.size (λk'=>(PyProof.Rows.firstMet (λi=>ns.getD i 0) vs.length).any (· == k')) (PyProof.Rows.firstMet (λi=>ns.getD i 0) vs.length).length/\(∀b o,s.heap.get? b=some o->h'.get? b=some o)) E)
    KH.init.plain F.entry_set_init (check_set_init_1 hT0 ?_)) λr2 s2 hr2=>?_
   ·obtain⟨ol,hol,hcl⟩:=X.ty
    have hol':(s.heap.push O).get? l=some ol:=Jj _ hol
    have e1:=X.ns
    have e2:=X.nf
    have e3:=X.nd
    have hTl:Shared.TypeIs {s with heap:=s.heap.push O} (.ref l) T:=⟨ol,hol',hcl⟩
    have hdat:O.data=.set #[] 0 (.fresh 0 0 (td w)):=by rw[<-hO]
    (unfold Builtin.«set.__init__» noKeywords Builtin.Frozenset.updateFrom)
    subst hO
    obtain⟨oc,od,odt,osl⟩:=ol
    simp only at hcl
    subst hcl
    (generalize hPI0:pyIter=PI0)
    wp_walk
    subst hPI0
    have kp:∀b o,s.heap.get? b=some o->(s.heap.push {cls:=.type "set",dict:=none,data:=.set #[] 0 (.fresh 0 0 (td w))}).get? b=some o:=λb o e=>Jj _ e
    refine X.it _ _ _ _ kp ?_
    refine Ji (wpAny_runValue ?_)
    have hlS:l < s.heap.objs.size:=Jm hol
    have hh3:A.in1.in1.in1.handled=none:=by simp[hh]
    have hneI:l≠(s.heap.push {cls:=.type "set",dict:=none,data:=.set #[] 0 (.fresh 0 0 (td w))}).objs.size:=by
     rw[J2];exact JH (Nat.lt_succ_of_lt hlS)
    have hSf:s.heap.objs.size∉ [(s.heap.push {cls:=.type "set",dict:=none,data:=.set #[] 0 (.fresh 0 0 (td w))}).objs.size,l]:=by
     rw[J2]
     intro z
     rcases Jn.mp z with e |z
     ·exact absurd e (JH (Nat.lt_succ_self _))
     ·exact absurd (JS.mp z) (Nat.ne_of_gt hlS)
    refine PyProof.Rows.codeAny_set_update_loopS ((X.wk _ _ hh3 hneI).toS) s.heap.objs.size hSf (λi=>ns.getD i 0) (λi v e=>PyProof.Rows.IntsAre.int_at hi i v e) hb (vs.length - 0) 0 _ (by omega) (JY _) (X.st _ kp) ?_ ?_
    ·exact PyProof.Rows.SetOf_congr ((PyProof.Rows.setObjOf_fresh (knd:=intKind prog w) (td w)).setOf (Jj _ hS0) (by unfold scanBound;omega)) (λ_=>rfl) rfl
    ·intro s' hm F'
     obtain⟨h',g',d',tk,os'⟩:=s'
     have eg:g'=s.gens:=hm.gens
     have ed:d'=s.drawn:=hm.drawn
     have eo:os'=s.os:=hm.os
     subst eg;subst ed;subst eo
     show wpAny _ _ _ _ _ _
     refine Jp ?_
     show wpAny _ _ (ret Value.none) _ _ _
     refine Jp ⟨rfl,h',tk,rfl,F',λb o e=>hm.heap b o (λz=>?_) (Jj _ (kp b o e))⟩
     have hlt:=Jm e
     rw[J2] at z
     rcases Jn.mp z with z |z
     ·exact absurd hlt (by rw[z];exact JJ _)
     ·rw[JS.mp z] at hlt
      exact absurd hlt (Nat.not_lt.mpr (Nat.le_succ _))
   ·cases r2 with
    |error e=>exact hr2
    |ok fl2=>
     cases fl2 with
     |ret r=>
      obtain⟨rfl,h',tk,rfl,hF,hk⟩:=hr2
      repeat (any_goals (first |assumption |wp_step))
      exact h _ _ hF hk
     |_=>exact hr2.elim
  |_=>exact hr.elim
end
end L2.ST
namespace L2
open PySem PyProof.Rows
section
variable {X:Cx}{K:Frag}{pins:List V}{σ:St}{H:Hp}{s:Shared}{E:XK}
def GC (ns:List Int)(k:Int):Bool:=(firstMet (λi=>ns.getD i 0) ns.length).any (· == k)
def pk (ns:List Int):Nat:=(firstMet (λi=>ns.getD i 0) ns.length).length
def CD (K:Frag):List V->Hp->VK->Prop:=λxs H Q=>∃a ns,xs= [.ref a]/\(fP K H a (ns.map V.int)\/dW K H a (ns.map V.int))/\ns.length<=1000/\∀S,H S=none->Q (.ref S) (upd H S (.set (GC ns) (pk ns)))
def xM (hc:X.calm=true):cZ X (.type "set") (CD X.K):=by
 intro pins s σ H xs us Q I r h
 obtain⟨a,ns,rfl,hq,hz,q⟩:=h
 obtain⟨u,rfl,rx⟩:=vals1 r
 cases rx
 have hh:=I.ok.hd hc
 have core:∀{its:List Value} {T:String} {itO:Obj} {St:Addr->Nat->Heap->Prop},Vals (ns.map V.int) its->L2.ST.Src X.prog X.w s.heap a its T itO St->wpAny (model X.prog X.w) X.A (call (.type "set") [.ref a]) (EP X pins σ Q) X.xe s:=λ{its T itO St} rv src=>by
  have hl:its.length=ns.length:=by rw[<-rv.length,JE]
  refine L2.ST.oZ src hh (intsAre_of rv) (by unfold scanBound;omega) λh' tk F k=>?_
  rw[hl] at F
  exact⟨.ref _,_,I.laid (t':=tk) (o:=.set (GC ns) (pk ns)) k (Jl _) F,rfl,q _ (I.hok.fresh (Jl _))⟩
 rcases hq with hq |hq
 ·obtain⟨its,rv,pl,hz⟩:=I.list hq
  exact core rv (L2.ST.Src.list pl.isList)
 ·obtain⟨its,rv,pl,hz⟩:=I.tuple hq
  exact core rv (L2.ST.Src.tuple pl)
def xV:cZ X (.builtin "len") (λxs H Q=>∃S f n,xs= [.ref S]/\H S=some (.set f n)/\Q (.int n) H):=by
 intro pins s σ H xs us Q I r h
 obtain⟨S,f,n,rfl,hS,q⟩:=h
 obtain⟨u,rfl,rx⟩:=vals1 r
 cases rx
 obtain⟨o,es,ep,t,ho,hex,hd,_,_,hb,hf,e⟩:s.heap.SetOf (intKind X.prog X.w) S f n:=I.hok _ _ hS
 refine call_len_set ho hex hd hf (by unfold scanBound at hb;omega) ⟨.int n,H,I.tok _,⟨_,by rw[e]⟩,q⟩
def mP (d:D):Option D:=match kA d with
 |some ds=>(match iF ds with
  |some ns=>if ns.length<=1000 then some (.int (pk ns)) else none
  |none=>none)
 |none=>none
theorem cm.intsB {G:Hp}:∀{ns:List Int} {xs:List V},cm K G xs (ns.map int)->xs=ns.map V.int
 | [],_,.nil=>rfl
 |n :: ns,_,.cons r t=>by cases r;rw[cm.intsB t];rfl
variable {Γ:Fx}{e a b c:Expr}{f fa fb fc:VF D}{L La Lb:List Nat}{md ma mb mc:Md}{pos:Pos}
theorem yn {p1 p2 pos2:Pos}(hc:X.calm=true)(hK:X.K=Γ.K)(hg:Gl X "len")(hm:X.mg "len"=none)(hg2:Gl X "set")(hm2:X.mg "set"=none)(ha:SE X Γ E a fa La ma)
  (he:starEach [a] X.env=(false,eval a X.env) :: starEach [] X.env:=by rfl)
  (he2:starEach [.Call (.Name "set" p2) [a] [] pos2] X.env=(false,eval (.Call (.Name "set" p2) [a] [] pos2) X.env) :: starEach [] X.env:=by rfl) :
  SE X Γ E (.Call (.Name "len" p1) [.Call (.Name "set" p2) [a] [] pos2] [] pos) (f1 fa mP) La .v:=by
 refine PE.post' (aY xV hg hm (by decide +kernel) (aj (ei (xM hc) hg2 hm2 (by decide +kernel) (aj ha aI he) (by decide) (by decide) he) aI he2) (by decide) (by decide) he2) λσ H Q ⟨env,G,B,β,I,o⟩=>?_
 refine gS (r:=λx H1 Q=>CD X.K [x] H1 λy H2=>∃S f n,[y]= [V.ref S]/\H2 S=some (.set f n)/\Q (.int n) H2) ?_ I o
 intro B G H x dx d Q s hB bx e k
 rw[hK]
 unfold mP at e
 cases q:kA dx with
 |none=>rw[q] at e;cases e
 |some ds=>
  rw[q] at e
  dsimp only at e
  cases q2:iF ds with
  |none=>rw[q2] at e;cases e
  |some ns=>
   rw[q2] at e
   dsimp only at e
   split at e
   ·rename_i hz
    cases e
    obtain⟨p,xs,rfl,hq,r⟩:=bx.seq q s
    rw[nq q2] at r
    have r:=r.intsB
    subst r
    exact⟨p,ns,rfl,hq,hz,λS hS=>⟨S,_,_,rfl,aq,k _ _ _ (Ext.own s hS) (.int _)⟩⟩
   ·cases e
end
end L2
namespace L2
open PySem
section
variable {K:Frag}{h:Heap}{mg:Str->Option Value}
theorem yI {α:Type}{P:List α->Prop}(q:∀a,P [a]):∀us:List α,us.length=1->P us
 | [a],_=>q a
theorem ln2 {α:Type}{P:List α->Prop}(q:∀a b,P [a,b]):∀us:List α,us.length=2->P us
 | [a,b],_=>q a b
theorem Hb {α:Type}{P:List α->Prop}(q:∀a b c,P [a,b,c]):∀us:List α,us.length=3->P us
 | [a,b,c],_=>q a b c
theorem Ht {α:Type}{P:List α->Prop}(q:∀a b c d,P [a,b,c,d]):∀us:List α,us.length=4->P us
 | [a,b,c,d],_=>q a b c d
theorem IZ {α:Type}{P:List α->Prop}(q:∀a b c d e,P [a,b,c,d,e]):∀us:List α,us.length=5->P us
 | [a,b,c,d,e],_=>q a b c d e
def aR (x:Str)(st:Stmt)(ps:List Str):Prop:=∀(kV doc pm:Value) (an:Option Addr) (cdv ct:Value) (us:List Value),us.length=ps.length->bindArgs (PySem.W.fnOf x x (gX st) (cO st) (ai st) .none kV doc pm an cdv ct) ⟨us,[]⟩=pure (ps.zip us)
structure Fo (K:Frag)(mg:Str->Option Value)(x:Str)(st:Stmt)(ps:List Str):Prop where
 ex:∃f fd,gO K mg x st ps f fd
def bt {x:Str}{st:Stmt}{ps:List Str}{f:Addr}{oc:Value}{od an:Option Addr}{sl:Array (Option Value)}{kV doc pm cdv ct:Value}(X:K.In h)(G:h.Ns mainGlobals mg)(b:aR x st ps)(a:PySem.W.nsIn K mainGlobals x=some (some (.ref f)))
  (l:K.lookup f=some ⟨oc,od,.func (PySem.W.fnOf x x (gX st) (cO st) (ai st) .none kV doc pm an cdv ct),sl⟩) (c:PySem.W.codeIn K cdv x=true) (k:PySem.W.keepIn K (.ref f)=true):Fo K mg x st ps:=
 ⟨⟨f,_,JF X G a,vA l c k,(vA l c k).binds b⟩⟩
def Iy:List Str:=["len","range","enumerate","zip","min","max","sum","abs","sorted","reversed","int","str","bool","list","tuple","dict","set","isinstance","repr","any","all","divmod"]
def HU (K:Frag):Bool:=Iy.all λx=>match PySem.W.nsIn K mainGlobals x with
 |some none=>true
 |_=>false
def Ei (q:HU K=true){x:Str}(hx:x∈Iy):PySem.W.nsIn K mainGlobals x=some none:=by
 have:=Kq.mp q x hx
 split at this
 ·assumption
 ·cases this
def FY (X:K.In h)(G:h.Ns mainGlobals mg)(q:HU K=true):h9 mg:=by
 have key:∀{x:Str},x∈Iy->mg x=none:=λhx=>PySem.W.mg_none_of X G (Ei q hx)
 constructor <;> exact key (by decide)
end
end L2
section
set_option Elab.async false
namespace RO
open PySem L2
def v3 (K:Frag):Sp:=λvs H Q _=>∃(a:Addr) (ns:List Int),vs= [.ref a]/\fP K H a (ns.map V.int)/\∀H',ar H H'->Q (.bl true) H'
theorem IJ {α:Type}{P:List α->Prop}(q:∀a b c d e f,P [a,b,c,d,e,f]):∀us:List α,us.length=6->P us
 | [a,b,c,d,e,f],_=>q a b c d e f
def oF:aR "_law_classes" iI ["e"]:=λ_ _ _ _ _ _=>yI λ_=>rfl
def sL:aR "_law_only" sH ["e","place"]:=λ_ _ _ _ _ _=>ln2 λ_ _=>rfl
def uy:aR "is_whole" RQ.i8 ["thing"]:=λ_ _ _ _ _ _=>yI λ_=>rfl
def vq:aR "is_below" RQ.i6 ["thing","bound"]:=λ_ _ _ _ _ _=>ln2 λ_ _=>rfl
def yi:aR "is_many" RQ.jS ["thing"]:=λ_ _ _ _ _ _=>yI λ_=>rfl
def xY:aR "is_pair" RQ.jW ["thing","many"]:=λ_ _ _ _ _ _=>ln2 λ_ _=>rfl
def xR:aR "is_line" RQ.j7 ["thing","many"]:=λ_ _ _ _ _ _=>ln2 λ_ _=>rfl
def rO:aR "every_pair" RQ.dP ["many"]:=λ_ _ _ _ _ _=>yI λ_=>rfl
def z8:aR "closed" lg ["many","pairs"]:=λ_ _ _ _ _ _=>ln2 λ_ _=>rfl
def vG:aR "has_ring" RQ.jl ["pairs"]:=λ_ _ _ _ _ _=>yI λ_=>rfl
def vJ:aR "is_order" RQ.i4 ["thing"]:=λ_ _ _ _ _ _=>yI λ_=>rfl
def rn:aR "need_order" RQ.fY ["thing"]:=λ_ _ _ _ _ _=>yI λ_=>rfl
def jc:aR "need_order_and_thing" RQ.bM ["order","thing"]:=λ_ _ _ _ _ _=>ln2 λ_ _=>rfl
def zR:aR "places" RQ.kY ["row"]:=λ_ _ _ _ _ _=>yI λ_=>rfl
def o5:aR "keeps_order" RQ.fw ["thing","order"]:=λ_ _ _ _ _ _=>ln2 λ_ _=>rfl
def oz:aR "stands_ahead" RQ.dJ ["tables","a","b"]:=λ_ _ _ _ _ _=>Hb λ_ _ _=>rfl
def om:aR "shared_pairs" RQ.dS ["many","rows"]:=λ_ _ _ _ _ _=>ln2 λ_ _=>rfl
def vt:aR "are_rows" RQ.jo ["thing","order"]:=λ_ _ _ _ _ _=>ln2 λ_ _=>rfl
def D8:aR "tell" RQ.rJ ["thing","order"]:=λ_ _ _ _ _ _=>ln2 λ_ _=>rfl
def tj:aR "need_both" RQ.gR ["one","other"]:=λ_ _ _ _ _ _=>ln2 λ_ _=>rfl
def sy:aR "need_room" RQ.gQ ["many"]:=λ_ _ _ _ _ _=>yI λ_=>rfl
def pb:aR "need_joined" RQ.fq ["one","other"]:=λ_ _ _ _ _ _=>ln2 λ_ _=>rfl
def tM:aR "behind_of" RQ.hR ["one","other"]:=λ_ _ _ _ _ _=>ln2 λ_ _=>rfl
def tV:aR "beside_of" RQ.hV ["one","other"]:=λ_ _ _ _ _ _=>ln2 λ_ _=>rfl
def mz:aR "need_replaced" RQ.dq ["order","thing","other"]:=λ_ _ _ _ _ _=>Hb λ_ _ _=>rfl
def uM:aR "replaced" RQ.ji ["order","thing","other"]:=λ_ _ _ _ _ _=>Hb λ_ _ _=>rfl
def ya:aR "without" RQ.jQ ["order","thing"]:=λ_ _ _ _ _ _=>ln2 λ_ _=>rfl
def tR:aR "need_rows" RQ.gY ["one","other","rows","others"]:=λ_ _ _ _ _ _=>Ht λ_ _ _ _=>rfl
def oX:aR "rows_behind" RQ.ff ["one","other","rows","others"]:=λ_ _ _ _ _ _=>Ht λ_ _ _ _=>rfl
def oU:aR "rows_beside" RQ.fu ["one","other","rows","others"]:=λ_ _ _ _ _ _=>Ht λ_ _ _ _=>rfl
def mw:aR "rows_replaced" RQ.dh ["order","thing","other","rows","others"]:=λ_ _ _ _ _ _=>IZ λ_ _ _ _ _=>rfl
def ve:aR "_law_box" RQ.jm ["script","k"]:=λ_ _ _ _ _ _=>ln2 λ_ _=>rfl
def tD:aR "_law_take" RQ.hU ["box","many"]:=λ_ _ _ _ _ _=>ln2 λ_ _=>rfl
def mF:aR "_law_no_order" RQ.di ["box"]:=λ_ _ _ _ _ _=>yI λ_=>rfl
def mH:aR "_law_shuffled" RQ.c9 ["box","some"]:=λ_ _ _ _ _ _=>ln2 λ_ _=>rfl
def sr:aR "_law_told" RQ.g7 ["many","rows"]:=λ_ _ _ _ _ _=>ln2 λ_ _=>rfl
def rF:aR "_law_small" RQ.fW ["box","most"]:=λ_ _ _ _ _ _=>ln2 λ_ _=>rfl
def qJ:aR "_law_asked" RQ.gc ["way_here","one","thing","other","rows","others"]:=λ_ _ _ _ _ _=>IJ λ_ _ _ _ _ _=>rfl
def nJ:aR "_law_told_by" RQ.dH ["way_here","one","thing","other","rows","others"]:=λ_ _ _ _ _ _=>IJ λ_ _ _ _ _ _=>rfl
def mB:aR "_law_bad_rows" RQ.c8 ["box","order"]:=λ_ _ _ _ _ _=>ln2 λ_ _=>rfl
def CM:Prop:=∀{l:PySem.W.OpenLaw} {w:World} {K:Frag} {h:Heap} {mg:Str->Option Value} {fa f41 R q0 q1 q2 q3 q4 q5 q6 q7 q8 q9 q10 q11 q12 q13 q14 q15:Addr} (X:K.In h) (G:h.Ns mainGlobals mg) (hfa:mg "law"=some (.ref fa))
  {od41 an41:Option Addr} {sl41:Array (Option Value)} {oc41 kV41 dc41 pm41 cd41 ct41:Value} {tMOST_THINGS:Tok}
  (F1:Fo K mg "_law_classes" iI ["e"])
  (F2:Fo K mg "_law_only" sH ["e","place"])
  (F3:Fo K mg "is_whole" RQ.i8 ["thing"])
  (F4:Fo K mg "is_below" RQ.i6 ["thing","bound"])
  (F5:Fo K mg "is_many" RQ.jS ["thing"])
  (F6:Fo K mg "is_pair" RQ.jW ["thing","many"])
  (F7:Fo K mg "is_line" RQ.j7 ["thing","many"])
  (F8:Fo K mg "every_pair" RQ.dP ["many"])
  (F9:Fo K mg "closed" lg ["many","pairs"])
  (F10:Fo K mg "has_ring" RQ.jl ["pairs"])
  (F11:Fo K mg "is_order" RQ.i4 ["thing"])
  (F12:Fo K mg "need_order" RQ.fY ["thing"])
  (F13:Fo K mg "need_order_and_thing" RQ.bM ["order","thing"])
  (F14:Fo K mg "places" RQ.kY ["row"])
  (F15:Fo K mg "keeps_order" RQ.fw ["thing","order"])
  (F16:Fo K mg "stands_ahead" RQ.dJ ["tables","a","b"])
  (F17:Fo K mg "shared_pairs" RQ.dS ["many","rows"])
  (F18:Fo K mg "are_rows" RQ.jo ["thing","order"])
  (F19:Fo K mg "tell" RQ.rJ ["thing","order"])
  (F20:Fo K mg "need_both" RQ.gR ["one","other"])
  (F21:Fo K mg "need_room" RQ.gQ ["many"])
  (F22:Fo K mg "need_joined" RQ.fq ["one","other"])
  (F23:Fo K mg "behind_of" RQ.hR ["one","other"])
  (F24:Fo K mg "beside_of" RQ.hV ["one","other"])
  (F25:Fo K mg "need_replaced" RQ.dq ["order","thing","other"])
  (F26:Fo K mg "replaced" RQ.ji ["order","thing","other"])
  (F27:Fo K mg "without" RQ.jQ ["order","thing"])
  (F28:Fo K mg "need_rows" RQ.gY ["one","other","rows","others"])
  (F29:Fo K mg "rows_behind" RQ.ff ["one","other","rows","others"])
  (F30:Fo K mg "rows_beside" RQ.fu ["one","other","rows","others"])
  (F31:Fo K mg "rows_replaced" RQ.dh ["order","thing","other","rows","others"])
  (F32:Fo K mg "_law_box" RQ.jm ["script","k"])
  (F33:Fo K mg "_law_take" RQ.hU ["box","many"])
  (F34:Fo K mg "_law_no_order" RQ.di ["box"])
  (F35:Fo K mg "_law_shuffled" RQ.c9 ["box","some"])
  (F36:Fo K mg "_law_told" RQ.g7 ["many","rows"])
  (F37:Fo K mg "_law_small" RQ.fW ["box","most"])
  (F38:Fo K mg "_law_asked" RQ.gc ["way_here","one","thing","other","rows","others"])
  (F39:Fo K mg "_law_told_by" RQ.dH ["way_here","one","thing","other","rows","others"])
  (F40:Fo K mg "_law_bad_rows" RQ.c8 ["box","order"])
  (a41:PySem.W.nsIn K mainGlobals "law"=some (some (.ref f41))) (l41:K.lookup f41=some ⟨oc41,od41,.func (PySem.W.fnOf "law" "law" (gX RQ.kf) (cO RQ.kf) (ai RQ.kf) .none kV41 dc41 pm41 an41 cd41 ct41),sl41⟩) (c41:PySem.W.codeIn K cd41 "law"=true) (k41:PySem.W.keepIn K (.ref f41)=true)
  (zB:HU K=true)
  (yMOST_THINGS:PySem.W.nsIn K mainGlobals "MOST_THINGS"=some (some (.int 8 tMOST_THINGS)))
  (mR:PySem.W.nsIn K mainGlobals "RankError"=some (some (.ref R)))
  (n0:PySem.W.nsIn K mainGlobals "NoOrder"=some (some (.ref q0)))
  (n1:PySem.W.nsIn K mainGlobals "NoMany"=some (some (.ref q1)))
  (n2:PySem.W.nsIn K mainGlobals "NoPairs"=some (some (.ref q2)))
  (n3:PySem.W.nsIn K mainGlobals "Ring"=some (some (.ref q3)))
  (n4:PySem.W.nsIn K mainGlobals "NoThing"=some (some (.ref q4)))
  (n5:PySem.W.nsIn K mainGlobals "NoRow"=some (some (.ref q5)))
  (n6:PySem.W.nsIn K mainGlobals "NoRows"=some (some (.ref q6)))
  (n7:PySem.W.nsIn K mainGlobals "NoNumber"=some (some (.ref q7)))
  (n8:PySem.W.nsIn K mainGlobals "NoChain"=some (some (.ref q8)))
  (n9:PySem.W.nsIn K mainGlobals "NoTurns"=some (some (.ref q9)))
  (n10:PySem.W.nsIn K mainGlobals "NoPoints"=some (some (.ref q10)))
  (n11:PySem.W.nsIn K mainGlobals "NoKind"=some (some (.ref q11)))
  (n12:PySem.W.nsIn K mainGlobals "TooMany"=some (some (.ref q12)))
  (n13:PySem.W.nsIn K mainGlobals "Bare"=some (some (.ref q13)))
  (n14:PySem.W.nsIn K mainGlobals "NoLine"=some (some (.ref q14)))
  (n15:PySem.W.nsIn K mainGlobals "NoText"=some (some (.ref q15)))
  (zV:PySem.W.nsIn K mainGlobals "ValueError"=some none)
  (eR:PySem.W.excIn K R [.type "ValueError",.type "Exception",.type "BaseException",.type "object"] "ValueError.__new__"=true)
  (e0:PySem.W.excIn K q13 [.type "ValueError",.type "Exception",.type "BaseException",.type "object"] "ValueError.__new__"=true)
  (e1:PySem.W.excIn K q0 [.type "ValueError",.type "Exception",.type "BaseException",.type "object"] "ValueError.__new__"=true)
  (e2:PySem.W.excIn K q6 [.type "ValueError",.type "Exception",.type "BaseException",.type "object"] "ValueError.__new__"=true)
  (e3:PySem.W.excIn K q4 [.type "ValueError",.type "Exception",.type "BaseException",.type "object"] "ValueError.__new__"=true)
  (e4:PySem.W.excIn K q12 [.type "ValueError",.type "Exception",.type "BaseException",.type "object"] "ValueError.__new__"=true)
  (up0:(L2.mroIn K q0).contains (.ref R)=true)
  (g1_0:(PySem.W.clsIn K q0).isSome=true)
  (g2_0:PySem.W.findIn K (.ref q0) "__getattribute__"=some (some (.builtin "BaseException.__getattribute__")))
  (g3_0:PySem.W.findIn K (.ref q0) "__getattr__"=some none)
  (g4_0:PySem.W.findIn K (.ref q0) "__class__"=some (some (.builtin "object.__class__")))
  (g7_0:PySem.W.mroIn K q0 (.type "object")=some true)
  (g8_0:PySem.W.mroIn K q0 (.type "BaseException")=some true)
  (kR0:PySem.W.kitOne K (.ref q0) (.ref R)=some true)
  (kV0:PySem.W.kitOne K (.ref q0) (.type "ValueError")=some true)
  (kt0_0:PySem.W.kitOne K (.ref q0) (.ref q0)=some true)
  (kt0_1:PySem.W.kitOne K (.ref q0) (.ref q1)=some false)
  (kt0_2:PySem.W.kitOne K (.ref q0) (.ref q2)=some false)
  (kt0_3:PySem.W.kitOne K (.ref q0) (.ref q3)=some false)
  (kt0_4:PySem.W.kitOne K (.ref q0) (.ref q4)=some false)
  (kt0_5:PySem.W.kitOne K (.ref q0) (.ref q5)=some false)
  (kt0_6:PySem.W.kitOne K (.ref q0) (.ref q6)=some false)
  (kt0_7:PySem.W.kitOne K (.ref q0) (.ref q7)=some false)
  (kt0_8:PySem.W.kitOne K (.ref q0) (.ref q8)=some false)
  (kt0_9:PySem.W.kitOne K (.ref q0) (.ref q9)=some false)
  (kt0_10:PySem.W.kitOne K (.ref q0) (.ref q10)=some false)
  (kt0_11:PySem.W.kitOne K (.ref q0) (.ref q11)=some false)
  (kt0_12:PySem.W.kitOne K (.ref q0) (.ref q12)=some false)
  (kt0_13:PySem.W.kitOne K (.ref q0) (.ref q13)=some false)
  (kt0_14:PySem.W.kitOne K (.ref q0) (.ref q14)=some false)
  (kt0_15:PySem.W.kitOne K (.ref q0) (.ref q15)=some false)
  (up4:(L2.mroIn K q4).contains (.ref R)=true)
  (g1_4:(PySem.W.clsIn K q4).isSome=true)
  (g2_4:PySem.W.findIn K (.ref q4) "__getattribute__"=some (some (.builtin "BaseException.__getattribute__")))
  (g3_4:PySem.W.findIn K (.ref q4) "__getattr__"=some none)
  (g4_4:PySem.W.findIn K (.ref q4) "__class__"=some (some (.builtin "object.__class__")))
  (g7_4:PySem.W.mroIn K q4 (.type "object")=some true)
  (g8_4:PySem.W.mroIn K q4 (.type "BaseException")=some true)
  (kR4:PySem.W.kitOne K (.ref q4) (.ref R)=some true)
  (kV4:PySem.W.kitOne K (.ref q4) (.type "ValueError")=some true)
  (kt4_0:PySem.W.kitOne K (.ref q4) (.ref q0)=some false)
  (kt4_1:PySem.W.kitOne K (.ref q4) (.ref q1)=some false)
  (kt4_2:PySem.W.kitOne K (.ref q4) (.ref q2)=some false)
  (kt4_3:PySem.W.kitOne K (.ref q4) (.ref q3)=some false)
  (kt4_4:PySem.W.kitOne K (.ref q4) (.ref q4)=some true)
  (kt4_5:PySem.W.kitOne K (.ref q4) (.ref q5)=some false)
  (kt4_6:PySem.W.kitOne K (.ref q4) (.ref q6)=some false)
  (kt4_7:PySem.W.kitOne K (.ref q4) (.ref q7)=some false)
  (kt4_8:PySem.W.kitOne K (.ref q4) (.ref q8)=some false)
  (kt4_9:PySem.W.kitOne K (.ref q4) (.ref q9)=some false)
  (kt4_10:PySem.W.kitOne K (.ref q4) (.ref q10)=some false)
  (kt4_11:PySem.W.kitOne K (.ref q4) (.ref q11)=some false)
  (kt4_12:PySem.W.kitOne K (.ref q4) (.ref q12)=some false)
  (kt4_13:PySem.W.kitOne K (.ref q4) (.ref q13)=some false)
  (kt4_14:PySem.W.kitOne K (.ref q4) (.ref q14)=some false)
  (kt4_15:PySem.W.kitOne K (.ref q4) (.ref q15)=some false)
  (up6:(L2.mroIn K q6).contains (.ref R)=true)
  (g1_6:(PySem.W.clsIn K q6).isSome=true)
  (g2_6:PySem.W.findIn K (.ref q6) "__getattribute__"=some (some (.builtin "BaseException.__getattribute__")))
  (g3_6:PySem.W.findIn K (.ref q6) "__getattr__"=some none)
  (g4_6:PySem.W.findIn K (.ref q6) "__class__"=some (some (.builtin "object.__class__")))
  (g7_6:PySem.W.mroIn K q6 (.type "object")=some true)
  (g8_6:PySem.W.mroIn K q6 (.type "BaseException")=some true)
  (kR6:PySem.W.kitOne K (.ref q6) (.ref R)=some true)
  (kV6:PySem.W.kitOne K (.ref q6) (.type "ValueError")=some true)
  (kt6_0:PySem.W.kitOne K (.ref q6) (.ref q0)=some false)
  (kt6_1:PySem.W.kitOne K (.ref q6) (.ref q1)=some false)
  (kt6_2:PySem.W.kitOne K (.ref q6) (.ref q2)=some false)
  (kt6_3:PySem.W.kitOne K (.ref q6) (.ref q3)=some false)
  (kt6_4:PySem.W.kitOne K (.ref q6) (.ref q4)=some false)
  (kt6_5:PySem.W.kitOne K (.ref q6) (.ref q5)=some false)
  (kt6_6:PySem.W.kitOne K (.ref q6) (.ref q6)=some true)
  (kt6_7:PySem.W.kitOne K (.ref q6) (.ref q7)=some false)
  (kt6_8:PySem.W.kitOne K (.ref q6) (.ref q8)=some false)
  (kt6_9:PySem.W.kitOne K (.ref q6) (.ref q9)=some false)
  (kt6_10:PySem.W.kitOne K (.ref q6) (.ref q10)=some false)
  (kt6_11:PySem.W.kitOne K (.ref q6) (.ref q11)=some false)
  (kt6_12:PySem.W.kitOne K (.ref q6) (.ref q12)=some false)
  (kt6_13:PySem.W.kitOne K (.ref q6) (.ref q13)=some false)
  (kt6_14:PySem.W.kitOne K (.ref q6) (.ref q14)=some false)
  (kt6_15:PySem.W.kitOne K (.ref q6) (.ref q15)=some false)
  (up12:(L2.mroIn K q12).contains (.ref R)=true)
  (g1_12:(PySem.W.clsIn K q12).isSome=true)
  (g2_12:PySem.W.findIn K (.ref q12) "__getattribute__"=some (some (.builtin "BaseException.__getattribute__")))
  (g3_12:PySem.W.findIn K (.ref q12) "__getattr__"=some none)
  (g4_12:PySem.W.findIn K (.ref q12) "__class__"=some (some (.builtin "object.__class__")))
  (g7_12:PySem.W.mroIn K q12 (.type "object")=some true)
  (g8_12:PySem.W.mroIn K q12 (.type "BaseException")=some true)
  (kR12:PySem.W.kitOne K (.ref q12) (.ref R)=some true)
  (kV12:PySem.W.kitOne K (.ref q12) (.type "ValueError")=some true)
  (kt12_0:PySem.W.kitOne K (.ref q12) (.ref q0)=some false)
  (kt12_1:PySem.W.kitOne K (.ref q12) (.ref q1)=some false)
  (kt12_2:PySem.W.kitOne K (.ref q12) (.ref q2)=some false)
  (kt12_3:PySem.W.kitOne K (.ref q12) (.ref q3)=some false)
  (kt12_4:PySem.W.kitOne K (.ref q12) (.ref q4)=some false)
  (kt12_5:PySem.W.kitOne K (.ref q12) (.ref q5)=some false)
  (kt12_6:PySem.W.kitOne K (.ref q12) (.ref q6)=some false)
  (kt12_7:PySem.W.kitOne K (.ref q12) (.ref q7)=some false)
  (kt12_8:PySem.W.kitOne K (.ref q12) (.ref q8)=some false)
  (kt12_9:PySem.W.kitOne K (.ref q12) (.ref q9)=some false)
  (kt12_10:PySem.W.kitOne K (.ref q12) (.ref q10)=some false)
  (kt12_11:PySem.W.kitOne K (.ref q12) (.ref q11)=some false)
  (kt12_12:PySem.W.kitOne K (.ref q12) (.ref q12)=some true)
  (kt12_13:PySem.W.kitOne K (.ref q12) (.ref q13)=some false)
  (kt12_14:PySem.W.kitOne K (.ref q12) (.ref q14)=some false)
  (kt12_15:PySem.W.kitOne K (.ref q12) (.ref q15)=some false)
  (up13:(L2.mroIn K q13).contains (.ref R)=true)
  (g1_13:(PySem.W.clsIn K q13).isSome=true)
  (g2_13:PySem.W.findIn K (.ref q13) "__getattribute__"=some (some (.builtin "BaseException.__getattribute__")))
  (g3_13:PySem.W.findIn K (.ref q13) "__getattr__"=some none)
  (g4_13:PySem.W.findIn K (.ref q13) "__class__"=some (some (.builtin "object.__class__")))
  (g7_13:PySem.W.mroIn K q13 (.type "object")=some true)
  (g8_13:PySem.W.mroIn K q13 (.type "BaseException")=some true)
  (kR13:PySem.W.kitOne K (.ref q13) (.ref R)=some true)
  (kV13:PySem.W.kitOne K (.ref q13) (.type "ValueError")=some true)
  (kt13_0:PySem.W.kitOne K (.ref q13) (.ref q0)=some false)
  (kt13_1:PySem.W.kitOne K (.ref q13) (.ref q1)=some false)
  (kt13_2:PySem.W.kitOne K (.ref q13) (.ref q2)=some false)
  (kt13_3:PySem.W.kitOne K (.ref q13) (.ref q3)=some false)
  (kt13_4:PySem.W.kitOne K (.ref q13) (.ref q4)=some false)
  (kt13_5:PySem.W.kitOne K (.ref q13) (.ref q5)=some false)
  (kt13_6:PySem.W.kitOne K (.ref q13) (.ref q6)=some false)
  (kt13_7:PySem.W.kitOne K (.ref q13) (.ref q7)=some false)
  (kt13_8:PySem.W.kitOne K (.ref q13) (.ref q8)=some false)
  (kt13_9:PySem.W.kitOne K (.ref q13) (.ref q9)=some false)
  (kt13_10:PySem.W.kitOne K (.ref q13) (.ref q10)=some false)
  (kt13_11:PySem.W.kitOne K (.ref q13) (.ref q11)=some false)
  (kt13_12:PySem.W.kitOne K (.ref q13) (.ref q12)=some false)
  (kt13_13:PySem.W.kitOne K (.ref q13) (.ref q13)=some true)
  (kt13_14:PySem.W.kitOne K (.ref q13) (.ref q14)=some false)
  (kt13_15:PySem.W.kitOne K (.ref q13) (.ref q15)=some false)
  (g5:PySem.W.specialIn K (.builtin "object.__class__") "__get__"=some (some (.builtin "getset_descriptor.__get__")))
  (g6:PySem.W.takesIn K (.builtin "object.__class__")=some true),∃fd:FuncData,(∀(s:Shared) (v:Value),BindsTo s fd ⟨[v],[]⟩ [("script",v)])/\∀base:Heap,K.In base->base.Ns mainGlobals mg->fF l.prog w K mg base (kU l.prog w) 11 fa fd ["script"] (v3 K)
def walk {l:PySem.W.OpenLaw}{q:Program}{loose:List Str}{XP:(Str->Option Value)->Heap->Prop}{YP:World->Heap->Prop}{d:DefRec}{K:Params->Frag}(hn:l.most=some 63)(hdf:d.params.defaults= [])(hi:PyProof.Rows.importsNone q=true)
  (hY:∀(w:World) (h:Heap),YP w h->(K w.params).In h)
  (F:∀(w:World) (mg:Str->Option Value) (fa:Addr) (h:Heap),(K w.params).In h->h.Ns mainGlobals mg->mg d.name=some (.ref fa)->
   ∃fd:FuncData,(∀(s:Shared) (u:Value),BindsTo s fd ⟨[u],[]⟩ [("script",u)])/\∀base:Heap,(K w.params).In base->base.Ns mainGlobals mg->fF l.prog w (K w.params) mg base (kU l.prog w) 11 fa fd ["script"] (v3 (K w.params))) :
  PySem.W.WalkO q loose XP YP l.row.toRowW d [] (λf vs=>PySem.call f vs):=
 L2.Bl (n:=63) (k:=11) (x:="script") (CX:=λw=>kU l.prog w) (sp:=λw=>v3 (K w.params)) hn (by decide) hdf hi ⟨rfl,by decide,by decide,rfl⟩ hY F (λ_ _ a ns hl _ hS=>⟨a,ns,rfl,hS,λ_ _=>rfl⟩) λ_ _ _ _ _ z=>by
  obtain⟨_,_,_,_,_,_,_,_,_,z⟩:=z
  exact z
end RO
namespace HD
noncomputable def vw:PySem.Program:=PySem.W.view PySem.Challenge.pw_rowsorder_k64_builds_refused [1,2,3,4,5,6,7,9,10,11,12,13,14,15,16,17,18,19,20,21,22,23,24,25,27,28,29,30,31,33,34,35,36,37,38,40,41,42,43,44,45,46,47,48,49,50,51,52,53,54,55,56,57,59,60,61,62,63,64,65,66,67,68,69,70]
def B7:PySem.Challenge.rw_rowsorder_k64_builds_refused.wellSaid=true:=by kernel_rfl
end HD
section
set_option hygiene false in
local macro_rules | `(tactic|o_head $H)=>`(tactic|exact h)
set_option maxHeartbeats 0 in
theorem HD.d (h:PySem.Challenge.rw_rowsorder_k64_builds_refused.row.Holds):PySem.Challenge.rw_rowsorder_k64_builds_refused.Holds:=by
 w_on;(refine PySem.W.holds_law HD.B7 λB7=>?_);k_head
end
abbrev HD.aa:List Nat:=[2,3,15,17,18,20,21,22,24,25,27,28,29,31,32,34,35,36,38,39,41,42,43,46,47,48,51,52,53,60,61,62,63,66,73,74,75,78,85,86,87,90,97,98,99,102,109,110,111,114,121,122,123,126,133,134,135,138,145,146,147,150,157,158,159,162,169,170,171,174,181,182,183,186,193,194,195,198,205,206,207,210,217,218,219,222,229,230,231,234,241,242,243,246,253,255,256,258,259,260,261,262,265,268,269,270,273,274,275,278,279,280,282,283,285,286,287,289,290,292,293,294,297,298,299,301,302,304,305,306,309,310,311,314,315,316,319,320,321,323,324,326,327,328,331,332,333,335,336,338,339,340,342,343,345,346,347,349,350,352,353,354,356,357,359,360,361,364,365,366,369,370,371,373,374,376,377,378,380,381,383,384,385,388,389,390,392,393,395,396,397,400,401,402,405,406,407,410,411,412,414,415,417,418,419,421,422,424,425,426,429,430,431,434,435,436,438,439,441,442,443,445,446,448,449,450,452,453,455,456,457,459,460,462,463,464,467,468,469,472,473,474,476,477,479,480,481,484,485,486,488,489,491,492,493,496,497,498,500,501,503,504,505,507,508,510,511]
def HD.ke:∀P,HD.aa=(HD.d.heap_1 P).map (·.1):=λ_=>by kernel_rfl
def HD.l1:∀w os,(HD.vF PySem.Challenge.rw_rowsorder_k64_builds_refused.row.prog 10200 w os).map (λs=>(HD.wI PySem.Challenge.rw_rowsorder_k64_builds_refused.row.prog w s.abs,(PySem.W.openSeen HD.vw [] (PySem.importedModules PySem.Challenge.rw_rowsorder_k64_builds_refused.row.prog.main.body) (λs=>PySem.W.xlAt HD.vw [] s && PySem.W.recOk PySem.Challenge.rw_rowsorder_k64_builds_refused.row.records s) true s.abs).1))=some (true,(PySem.W.openGood HD.vw []).1):=λw os=>by kernel_rfl
def HD.l2:∀w os,(HD.vF PySem.Challenge.rw_rowsorder_k64_builds_refused.row.prog 10200 w os).map (λs=>(PySem.W.openSeen HD.vw [] (PySem.importedModules PySem.Challenge.rw_rowsorder_k64_builds_refused.row.prog.main.body) (λs=>PySem.W.xlAt HD.vw [] s && PySem.W.recOk PySem.Challenge.rw_rowsorder_k64_builds_refused.row.records s) true s.abs).2)=some (PySem.W.openGood HD.vw []).2:=λw os=>by kernel_rfl
def HD.l3:∀w os,(HD.vF PySem.Challenge.rw_rowsorder_k64_builds_refused.row.prog 10200 w os).map (λs=>(PySem.W.kHook HD.d.heap_1 HD.aa HD.ke).obs s.abs)=some ((PySem.W.kHook HD.d.heap_1 HD.aa HD.ke).val w):=λw os=>by kernel_rfl
def HD.left:PySem.W.LeftO PySem.Challenge.rw_rowsorder_k64_builds_refused.row.prog HD.vw [] (λs=>PySem.W.xlAt HD.vw [] s && PySem.W.recOk PySem.Challenge.rw_rowsorder_k64_builds_refused.row.records s) (PySem.W.kHook HD.d.heap_1 HD.aa HD.ke).obs (PySem.W.kHook HD.d.heap_1 HD.aa HD.ke).val 10200:=
 HD.BW (by kernel_rfl) (by kernel_rfl) (λs=>by kernel_rfl) HD.l1 HD.l2 HD.l3
open PySem PySem.W PyProof.Rows L2
set_option maxRecDepth 100000 in
set_option maxHeartbeats 0 in
theorem RO.head (hA:RO.CM):PySem.Challenge.rw_rowsorder_k64_builds_refused.Holds:=by
 w_on;(refine PySem.W.holds_law HD.B7 λB7=>?_)
 refine PySem.W.holds_open (q:=HD.vw) (loose:=[]) (Xt:=λs=>PySem.W.xlAt HD.vw [] s && PySem.W.recOk (PySem.W.RowW.records _) s) (XP:=PySem.W.XL HD.vw []) (Yf:=PySem.W.Hook.obs (kHook HD.d.heap_1 HD.aa HD.ke)) (Ya:=PySem.W.Hook.val (kHook HD.d.heap_1 HD.aa HD.ke)) (YP:=PySem.W.Hook.says (kHook HD.d.heap_1 HD.aa HD.ke)) (N:=10200) HD.left (PySem.W.Hook.of (kHook HD.d.heap_1 HD.aa HD.ke)) (PySem.W.Hook.keeps (kHook HD.d.heap_1 HD.aa HD.ke)) (λs e=>PySem.W.xl_of s (Bool.and_eq_true_iff.mp e).1) PySem.W.XL.keeps (by rfl) (by rfl) (by rfl) (λs e=>PySem.W.recFacts_of (Bool.and_eq_true_iff.mp e).2) (by rfl) (by first |assumption |decide +kernel) (by decide +kernel) ⟨rfl,rfl,rfl,rfl,rfl,by decide +kernel⟩ ?hw ?hc
 (case hw=>w_witness2)
 k_fill
 refine RO.walk (l:=PySem.Challenge.rw_rowsorder_k64_builds_refused) rfl rfl ?hi (λw h Y=>PySem.W.kIn_of Y) ?F
 case hi=>kernel_rfl
 case F=>
  intro w mg fa h KX G hmg
  refine' hA KX G hmg ?F1 ?F2 ?F3 ?F4 ?F5 ?F6 ?F7 ?F8 ?F9 ?F10 ?F11 ?F12 ?F13 ?F14 ?F15 ?F16 ?F17 ?F18 ?F19 ?F20 ?F21 ?F22 ?F23 ?F24 ?F25 ?F26 ?F27 ?F28 ?F29 ?F30 ?F31 ?F32 ?F33 ?F34 ?F35 ?F36 ?F37 ?F38 ?F39 ?F40 ?a41 ?l41 ?c41 ?k41 ?zB ?yMOST_THINGS ?mR ?n0 ?n1 ?n2 ?n3 ?n4 ?n5 ?n6 ?n7 ?n8 ?n9 ?n10 ?n11 ?n12 ?n13 ?n14 ?n15 ?zV ?eR ?e0 ?e1 ?e2 ?e3 ?e4 ?up0 ?g1_0 ?g2_0 ?g3_0 ?g4_0 ?g7_0 ?g8_0 ?kR0 ?kV0 ?kt0_0 ?kt0_1 ?kt0_2 ?kt0_3 ?kt0_4 ?kt0_5 ?kt0_6 ?kt0_7 ?kt0_8 ?kt0_9 ?kt0_10 ?kt0_11 ?kt0_12 ?kt0_13 ?kt0_14 ?kt0_15 ?up4 ?g1_4 ?g2_4 ?g3_4 ?g4_4 ?g7_4 ?g8_4 ?kR4 ?kV4 ?kt4_0 ?kt4_1 ?kt4_2 ?kt4_3 ?kt4_4 ?kt4_5 ?kt4_6 ?kt4_7 ?kt4_8 ?kt4_9 ?kt4_10 ?kt4_11 ?kt4_12 ?kt4_13 ?kt4_14 ?kt4_15 ?up6 ?g1_6 ?g2_6 ?g3_6 ?g4_6 ?g7_6 ?g8_6 ?kR6 ?kV6 ?kt6_0 ?kt6_1 ?kt6_2 ?kt6_3 ?kt6_4 ?kt6_5 ?kt6_6 ?kt6_7 ?kt6_8 ?kt6_9 ?kt6_10 ?kt6_11 ?kt6_12 ?kt6_13 ?kt6_14 ?kt6_15 ?up12 ?g1_12 ?g2_12 ?g3_12 ?g4_12 ?g7_12 ?g8_12 ?kR12 ?kV12 ?kt12_0 ?kt12_1 ?kt12_2 ?kt12_3 ?kt12_4 ?kt12_5 ?kt12_6 ?kt12_7 ?kt12_8 ?kt12_9 ?kt12_10 ?kt12_11 ?kt12_12 ?kt12_13 ?kt12_14 ?kt12_15 ?up13 ?g1_13 ?g2_13 ?g3_13 ?g4_13 ?g7_13 ?g8_13 ?kR13 ?kV13 ?kt13_0 ?kt13_1 ?kt13_2 ?kt13_3 ?kt13_4 ?kt13_5 ?kt13_6 ?kt13_7 ?kt13_8 ?kt13_9 ?kt13_10 ?kt13_11 ?kt13_12 ?kt13_13 ?kt13_14 ?kt13_15 ?g5 ?g6
  case F1=>refine' bt KX G RO.oF ?a ?l ?c ?k;(case a=>k_is);(case l=>k_is);(case c=>k_is);(case k=>k_is)
  case F2=>refine' bt KX G RO.sL ?a ?l ?c ?k;(case a=>k_is);(case l=>k_is);(case c=>k_is);(case k=>k_is)
  case F3=>refine' bt KX G RO.uy ?a ?l ?c ?k;(case a=>k_is);(case l=>k_is);(case c=>k_is);(case k=>k_is)
  case F4=>refine' bt KX G RO.vq ?a ?l ?c ?k;(case a=>k_is);(case l=>k_is);(case c=>k_is);(case k=>k_is)
  case F5=>refine' bt KX G RO.yi ?a ?l ?c ?k;(case a=>k_is);(case l=>k_is);(case c=>k_is);(case k=>k_is)
  case F6=>refine' bt KX G RO.xY ?a ?l ?c ?k;(case a=>k_is);(case l=>k_is);(case c=>k_is);(case k=>k_is)
  case F7=>refine' bt KX G RO.xR ?a ?l ?c ?k;(case a=>k_is);(case l=>k_is);(case c=>k_is);(case k=>k_is)
  case F8=>refine' bt KX G RO.rO ?a ?l ?c ?k;(case a=>k_is);(case l=>k_is);(case c=>k_is);(case k=>k_is)
  case F9=>refine' bt KX G RO.z8 ?a ?l ?c ?k;(case a=>k_is);(case l=>k_is);(case c=>k_is);(case k=>k_is)
  case F10=>refine' bt KX G RO.vG ?a ?l ?c ?k;(case a=>k_is);(case l=>k_is);(case c=>k_is);(case k=>k_is)
  case F11=>refine' bt KX G RO.vJ ?a ?l ?c ?k;(case a=>k_is);(case l=>k_is);(case c=>k_is);(case k=>k_is)
  case F12=>refine' bt KX G RO.rn ?a ?l ?c ?k;(case a=>k_is);(case l=>k_is);(case c=>k_is);(case k=>k_is)
  case F13=>refine' bt KX G RO.jc ?a ?l ?c ?k;(case a=>k_is);(case l=>k_is);(case c=>k_is);(case k=>k_is)
  case F14=>refine' bt KX G RO.zR ?a ?l ?c ?k;(case a=>k_is);(case l=>k_is);(case c=>k_is);(case k=>k_is)
  case F15=>refine' bt KX G RO.o5 ?a ?l ?c ?k;(case a=>k_is);(case l=>k_is);(case c=>k_is);(case k=>k_is)
  case F16=>refine' bt KX G RO.oz ?a ?l ?c ?k;(case a=>k_is);(case l=>k_is);(case c=>k_is);(case k=>k_is)
  case F17=>refine' bt KX G RO.om ?a ?l ?c ?k;(case a=>k_is);(case l=>k_is);(case c=>k_is);(case k=>k_is)
  case F18=>refine' bt KX G RO.vt ?a ?l ?c ?k;(case a=>k_is);(case l=>k_is);(case c=>k_is);(case k=>k_is)
  case F19=>refine' bt KX G RO.D8 ?a ?l ?c ?k;(case a=>k_is);(case l=>k_is);(case c=>k_is);(case k=>k_is)
  case F20=>refine' bt KX G RO.tj ?a ?l ?c ?k;(case a=>k_is);(case l=>k_is);(case c=>k_is);(case k=>k_is)
  case F21=>refine' bt KX G RO.sy ?a ?l ?c ?k;(case a=>k_is);(case l=>k_is);(case c=>k_is);(case k=>k_is)
  case F22=>refine' bt KX G RO.pb ?a ?l ?c ?k;(case a=>k_is);(case l=>k_is);(case c=>k_is);(case k=>k_is)
  case F23=>refine' bt KX G RO.tM ?a ?l ?c ?k;(case a=>k_is);(case l=>k_is);(case c=>k_is);(case k=>k_is)
  case F24=>refine' bt KX G RO.tV ?a ?l ?c ?k;(case a=>k_is);(case l=>k_is);(case c=>k_is);(case k=>k_is)
  case F25=>refine' bt KX G RO.mz ?a ?l ?c ?k;(case a=>k_is);(case l=>k_is);(case c=>k_is);(case k=>k_is)
  case F26=>refine' bt KX G RO.uM ?a ?l ?c ?k;(case a=>k_is);(case l=>k_is);(case c=>k_is);(case k=>k_is)
  case F27=>refine' bt KX G RO.ya ?a ?l ?c ?k;(case a=>k_is);(case l=>k_is);(case c=>k_is);(case k=>k_is)
  case F28=>refine' bt KX G RO.tR ?a ?l ?c ?k;(case a=>k_is);(case l=>k_is);(case c=>k_is);(case k=>k_is)
  case F29=>refine' bt KX G RO.oX ?a ?l ?c ?k;(case a=>k_is);(case l=>k_is);(case c=>k_is);(case k=>k_is)
  case F30=>refine' bt KX G RO.oU ?a ?l ?c ?k;(case a=>k_is);(case l=>k_is);(case c=>k_is);(case k=>k_is)
  case F31=>refine' bt KX G RO.mw ?a ?l ?c ?k;(case a=>k_is);(case l=>k_is);(case c=>k_is);(case k=>k_is)
  case F32=>refine' bt KX G RO.ve ?a ?l ?c ?k;(case a=>k_is);(case l=>k_is);(case c=>k_is);(case k=>k_is)
  case F33=>refine' bt KX G RO.tD ?a ?l ?c ?k;(case a=>k_is);(case l=>k_is);(case c=>k_is);(case k=>k_is)
  case F34=>refine' bt KX G RO.mF ?a ?l ?c ?k;(case a=>k_is);(case l=>k_is);(case c=>k_is);(case k=>k_is)
  case F35=>refine' bt KX G RO.mH ?a ?l ?c ?k;(case a=>k_is);(case l=>k_is);(case c=>k_is);(case k=>k_is)
  case F36=>refine' bt KX G RO.sr ?a ?l ?c ?k;(case a=>k_is);(case l=>k_is);(case c=>k_is);(case k=>k_is)
  case F37=>refine' bt KX G RO.rF ?a ?l ?c ?k;(case a=>k_is);(case l=>k_is);(case c=>k_is);(case k=>k_is)
  case F38=>refine' bt KX G RO.qJ ?a ?l ?c ?k;(case a=>k_is);(case l=>k_is);(case c=>k_is);(case k=>k_is)
  case F39=>refine' bt KX G RO.nJ ?a ?l ?c ?k;(case a=>k_is);(case l=>k_is);(case c=>k_is);(case k=>k_is)
  case F40=>refine' bt KX G RO.mB ?a ?l ?c ?k;(case a=>k_is);(case l=>k_is);(case c=>k_is);(case k=>k_is)
  case a41=>k_is
  case l41=>k_is
  case c41=>k_is
  case k41=>k_is
  case zB=>kernel_rfl
  case yMOST_THINGS=>k_is
  case mR=>k_is
  case n0=>k_is
  case n1=>k_is
  case n2=>k_is
  case n3=>k_is
  case n4=>k_is
  case n5=>k_is
  case n6=>k_is
  case n7=>k_is
  case n8=>k_is
  case n9=>k_is
  case n10=>k_is
  case n11=>k_is
  case n12=>k_is
  case n13=>k_is
  case n14=>k_is
  case n15=>k_is
  case zV=>k_is
  case eR=>kernel_rfl
  case e0=>kernel_rfl
  case e1=>kernel_rfl
  case e2=>kernel_rfl
  case e3=>kernel_rfl
  case e4=>kernel_rfl
  case up0=>kernel_rfl
  case g1_0=>kernel_rfl
  case g2_0=>kernel_rfl
  case g3_0=>kernel_rfl
  case g4_0=>kernel_rfl
  case g7_0=>kernel_rfl
  case g8_0=>kernel_rfl
  case kR0=>kit_is
  case kV0=>kit_is
  case kt0_0=>kit_is
  case kt0_1=>kit_is
  case kt0_2=>kit_is
  case kt0_3=>kit_is
  case kt0_4=>kit_is
  case kt0_5=>kit_is
  case kt0_6=>kit_is
  case kt0_7=>kit_is
  case kt0_8=>kit_is
  case kt0_9=>kit_is
  case kt0_10=>kit_is
  case kt0_11=>kit_is
  case kt0_12=>kit_is
  case kt0_13=>kit_is
  case kt0_14=>kit_is
  case kt0_15=>kit_is
  case up4=>kernel_rfl
  case g1_4=>kernel_rfl
  case g2_4=>kernel_rfl
  case g3_4=>kernel_rfl
  case g4_4=>kernel_rfl
  case g7_4=>kernel_rfl
  case g8_4=>kernel_rfl
  case kR4=>kit_is
  case kV4=>kit_is
  case kt4_0=>kit_is
  case kt4_1=>kit_is
  case kt4_2=>kit_is
  case kt4_3=>kit_is
  case kt4_4=>kit_is
  case kt4_5=>kit_is
  case kt4_6=>kit_is
  case kt4_7=>kit_is
  case kt4_8=>kit_is
  case kt4_9=>kit_is
  case kt4_10=>kit_is
  case kt4_11=>kit_is
  case kt4_12=>kit_is
  case kt4_13=>kit_is
  case kt4_14=>kit_is
  case kt4_15=>kit_is
  case up6=>kernel_rfl
  case g1_6=>kernel_rfl
  case g2_6=>kernel_rfl
  case g3_6=>kernel_rfl
  case g4_6=>kernel_rfl
  case g7_6=>kernel_rfl
  case g8_6=>kernel_rfl
  case kR6=>kit_is
  case kV6=>kit_is
  case kt6_0=>kit_is
  case kt6_1=>kit_is
  case kt6_2=>kit_is
  case kt6_3=>kit_is
  case kt6_4=>kit_is
  case kt6_5=>kit_is
  case kt6_6=>kit_is
  case kt6_7=>kit_is
  case kt6_8=>kit_is
  case kt6_9=>kit_is
  case kt6_10=>kit_is
  case kt6_11=>kit_is
  case kt6_12=>kit_is
  case kt6_13=>kit_is
  case kt6_14=>kit_is
  case kt6_15=>kit_is
  case up12=>kernel_rfl
  case g1_12=>kernel_rfl
  case g2_12=>kernel_rfl
  case g3_12=>kernel_rfl
  case g4_12=>kernel_rfl
  case g7_12=>kernel_rfl
  case g8_12=>kernel_rfl
  case kR12=>kit_is
  case kV12=>kit_is
  case kt12_0=>kit_is
  case kt12_1=>kit_is
  case kt12_2=>kit_is
  case kt12_3=>kit_is
  case kt12_4=>kit_is
  case kt12_5=>kit_is
  case kt12_6=>kit_is
  case kt12_7=>kit_is
  case kt12_8=>kit_is
  case kt12_9=>kit_is
  case kt12_10=>kit_is
  case kt12_11=>kit_is
  case kt12_12=>kit_is
  case kt12_13=>kit_is
  case kt12_14=>kit_is
  case kt12_15=>kit_is
  case up13=>kernel_rfl
  case g1_13=>kernel_rfl
  case g2_13=>kernel_rfl
  case g3_13=>kernel_rfl
  case g4_13=>kernel_rfl
  case g7_13=>kernel_rfl
  case g8_13=>kernel_rfl
  case kR13=>kit_is
  case kV13=>kit_is
  case kt13_0=>kit_is
  case kt13_1=>kit_is
  case kt13_2=>kit_is
  case kt13_3=>kit_is
  case kt13_4=>kit_is
  case kt13_5=>kit_is
  case kt13_6=>kit_is
  case kt13_7=>kit_is
  case kt13_8=>kit_is
  case kt13_9=>kit_is
  case kt13_10=>kit_is
  case kt13_11=>kit_is
  case kt13_12=>kit_is
  case kt13_13=>kit_is
  case kt13_14=>kit_is
  case kt13_15=>kit_is
  case g5=>kernel_rfl
  case g6=>kernel_rfl
end
namespace L2
open PySem
section
variable {α γ:Type}
@[simp] theorem kx (a:α)(β:Int)(k:α->Int->R γ):(R.ok a β).bnd k=k a β:=rfl
@[simp] theorem GS (c:Str)(k:α->Int->R γ):(R.exc c:R α).bnd k=.exc c:=rfl
@[simp] theorem GK (k:α->Int->R γ):(R.bad:R α).bnd k=.bad:=rfl
@[simp] theorem HF (a:α)(β:Int)(k:α->Int->R γ):(R.ok a β).okb k=k a β:=rfl
@[simp] theorem qz (a:α)(β:Int):R.of (some a) β=.ok a β:=rfl
@[simp] theorem of_none (β:Int):(R.of none β:R α)=.bad:=rfl
@[simp] theorem Hl (a:α)(β:Int)(k:α->Int->SO):toS (.ok a β) k=k a β:=rfl
@[simp] theorem GI (c:Str)(k:α->Int->SO):toS (.exc c:R α) k=.exc c:=rfl
@[simp] theorem GW (k:α->Int->SO):toS (.bad:R α) k=.bad:=rfl
end
section
variable (f fa fb fc:VF D)(t u:VF Bool)(m m':SF)(vs:List Nv)(β:Int)(env:En)(i j:Nat)(L:List Nat)
@[simp] theorem CO:gv i vs β=R.of (dat vs[i]?) β:=rfl
@[simp] theorem vm (d:D):dat (some (.da d))=some d:=rfl
@[simp] theorem G9 (d:D):cst d vs β=.ok d β:=rfl
@[simp] theorem IL (g:D->Option D):f1 fa g vs β=(fa vs β).bnd λx β1=>R.of (g x) β1:=rfl
@[simp] theorem II (g:D->D->Option D):f2 fa fb g vs β=(fa vs β).bnd λx β1=>(fb vs β1).bnd λy β2=>R.of (g x y) β2:=rfl
@[simp] theorem v5:ag vs β=.ok [] β:=rfl
@[simp] theorem c3 (fr:VF (List D)):ae fa fr vs β=(fa vs β).bnd λx β1=>(fr vs β1).bnd λxs β2=>.ok (x :: xs) β2:=rfl
@[simp] theorem uC:mZ fa vs β=(fa vs β).bnd λx β1=>R.of (Ea x) β1:=rfl
@[simp] theorem uO:sF t vs β=(t vs β).bnd λc β1=>.ok (!c) β1:=rfl
@[simp] theorem uD:uQ t u vs β=(t vs β).bnd λc β1=>if c=true then u vs β1 else .ok false β1:=rfl
@[simp] theorem rg:o4 t u vs β=(t vs β).bnd λc β1=>if c=true then .ok true β1 else u vs β1:=rfl
@[simp] theorem IS (n:Bool):tN fa n vs β=(fa vs β).bnd λx β1=>.ok (if n then !BD x else BD x) β1:=rfl
@[simp] theorem Hk:Jg t fa fb vs β=(t vs β).bnd λc β1=>if c=true then fa vs β1 else fb vs β1:=rfl
@[simp] theorem kI (c:Bool){β1:Int}(h:fa vs β=.ok (.bool c) β1):dY fa vs β=.ok c β1:=by unfold dY;rw[h];rfl
@[simp] theorem uZ:vl []= []:=rfl
@[simp] theorem qu (s:Sl):vl (s :: env)=s.val :: vl env:=rfl
@[simp] theorem uV (d:D):(Sl.fz d).val=.da d:=rfl
@[simp] theorem Hr (d:D):(Sl.ow d).val=.da d:=rfl
@[simp] theorem HX:Sl.no.val=.no:=rfl
@[simp] theorem HW:Sl.bx.val=.bx:=rfl
@[simp] theorem GV:a7 [] env=env:=rfl
@[simp] theorem ES:a7 (i :: L) env=a7 L (iR env i):=rfl
@[simp] theorem GJ:aP m m' env β=(match m env β with
 | .nx env' β'=>m' env' β'
 |r=>r):=rfl
@[simp] theorem Il:hZ L t m m' env β=toS (t (vl env) β) λc β'=>if c=true then m (a7 L env) β' else m' (a7 L env) β':=rfl
@[simp] theorem iX:cj f env β=toS (f (vl env) β) λd β'=>.rt d false β':=rfl
@[simp] theorem Fe:p9 f env β=toS (f (vl env) β) λd β'=>.rt d true β':=rfl
@[simp] theorem HA:kh env β=.nx env β:=rfl
@[simp] theorem i9:dv i L f env β=toS (f (vl env) β) λd β'=>.nx ((a7 L env).set i (.fz d)) β':=rfl
@[simp] theorem tu:qt i L f env β=toS (f (vl env) β) λd β'=>.nx ((a7 L env).set i (.ow d)) β':=rfl
@[simp] theorem Fp:bu L f env β=toS (f (vl env) β) λ_ β'=>.nx (a7 L env) β':=rfl
end
def aV {m m':SF}{env env':En}{β β':Int}(h:m env β=.nx env' β'):aP m m' env β=m' env' β':=by unfold aP;rw[h]
def fT {m m':SF}{env:En}{β β':Int}{d:D}{b:Bool}(h:m env β=.rt d b β'):aP m m' env β=.rt d b β':=by unfold aP;rw[h]
def nI {m m':SF}{env:En}{β:Int}{c:Str}(h:m env β=.exc c):aP m m' env β=.exc c:=by unfold aP;rw[h]
def cV {L:List Nat}{t:VF Bool}{m m':SF}{env:En}{β β':Int}(h:t (vl env) β=.ok true β'):hZ L t m m' env β=m (a7 L env) β':=by unfold hZ;rw[h];rfl
def bH {L:List Nat}{t:VF Bool}{m m':SF}{env:En}{β β':Int}(h:t (vl env) β=.ok false β'):hZ L t m m' env β=m' (a7 L env) β':=by unfold hZ;rw[h];rfl
def aH {F:List D->FR}{fr:VF (List D)}{vs:List Nv}{β β1:Int}{ds:List D}{d:D}{b:Bool}(h:fr vs β=.ok ds β1)(e:F ds=.ok d b):aA F fr vs β=.ok d β1:=by unfold aA;rw[h];dsimp only[R.bnd];rw[e]
def aM {F:List D->FR}{fr:VF (List D)}{vs:List Nv}{β β1:Int}{ds:List D}{c:Str}(h:fr vs β=.ok ds β1)(e:F ds=.exc c):aA F fr vs β=.exc c:=by unfold aA;rw[h];dsimp only[R.bnd];rw[e]
def z5 {F:List D->FR}{fr:VF (List D)}{vs:List Nv}{β β1:Int}{ds:List D}{d:D}(h:fr vs β=.ok ds β1)(e:F ds=.ok d true):su F fr vs β=.ok d β1:=by unfold su;rw[h];dsimp only[R.bnd];rw[e]
def gK {fa:VF D}{g:D->Option D}{vs:List Nv}{β β1:Int}{x d:D}(h:fa vs β=.ok x β1)(e:g x=some d):f1 fa g vs β=.ok d β1:=by unfold f1;rw[h];dsimp only[R.bnd];rw[e];rfl
def bb {fa fb:VF D}{g:D->D->Option D}{vs:List Nv}{β β1 β2:Int}{x y d:D}(h:fa vs β=.ok x β1)(h':fb vs β1=.ok y β2)(e:g x y=some d):f2 fa fb g vs β=.ok d β2:=by unfold f2;rw[h];dsimp only[R.bnd];rw[h'];dsimp only[R.bnd];rw[e];rfl
def eO {i:Nat}{F:List D->Int->FB}{fr:VF (List D)}{vs:List Nv}{β β1 β2:Int}{ds:List D}{d:D}{b:Bool}(hi:u6 vs i=true)(h:fr vs β=.ok ds β1)(e:F ds β1=.ok d b β2):j9 i F fr vs β=.ok d β2:=by unfold j9;rw[Jk hi,h];dsimp only[R.bnd];rw[e]
def sz (n:Nat)(h:n<=1000):n<=sizeLine:=by rw[JL];omega
def Gy (n:Nat)(h:n<=1000):n < sizeLine:=by rw[JL];omega
def qP {fr:VF (List D)}{vs:List Nv}{β β1:Int}{ds:List D}(h:fr vs β=.ok ds β1)(hz:ds.length<=1000):aL fr vs β=.ok (.tuple ds) β1:=by unfold aL;rw[h];exact Jk (sz _ hz)
def jR {fr:VF (List D)}{vs:List Nv}{β β1:Int}{ds:List D}(h:fr vs β=.ok ds β1)(hz:ds.length<=1000):bz fr vs β=.ok (.list ds) β1:=by unfold bz;rw[h];exact Jk (sz _ hz)
def vc {i:Nat}{env:En}{β:Int}{g:List D->Option (List D)}{ds es:List D}(h:env[i]? =some (.ow (.list ds)))(e:g ds=some es):DE i env β g=.nx (env.set i (.ow (.list es))) β:=by unfold DE;rw[h];dsimp only;rw[e]
def Bu {i:Nat}{L:List Nat}{f:VF D}{env:En}{β β':Int}{ds:List D}{d:D}(hi:env[i]? =some (.ow (.list ds)))(hf:f (vl env) β=.ok d β')(hL:(a7 L env)[i]? =some (.ow (.list ds)))(hz:ds.length<=1000):vv i L f env β=.nx ((a7 L env).set i (.ow (.list (ds ++ [d])))) β':=by
 unfold vv
 rw[Jk (by rw[hi];rfl),hf]
 exact vc hL (Jk (Gy _ hz))
def uE {i j:Nat}{L:List Nat}{f:VF D}{env:En}{β β':Int}{ds es es':List D}{k d:D}(hi:env[i]? =some (.ow (.list ds)))(hj:env[j]? =some (.ow (.list es)))(hij:i≠j)(hf:f (vl env) β=.ok k β')(hL:a7 L env=env)(hp:xQ es k=some (d,es'))(hz:ds.length<=1000):i0 i j L f env β=.nx ((env.set j (.ow (.list es'))).set i (.ow (.list (ds ++ [d])))) β':=by
 unfold i0
 rw[Jk ⟨by rw[hi];rfl,by rw[hj];rfl,hij⟩,hf,hL]
 dsimp only[toS]
 rw[hj]
 dsimp only
 rw[hp]
 exact vc (by rw[Js (Ne.symm hij)];exact hi) (Jk (Gy _ hz))
def zz {i:Nat}{Le Li:List Nat}{fe fi:VF D}{env:En}{β β1 β2:Int}{ds:List D}{d:D}{k:Int}{n:Nat}(he:fe (vl env) β=.ok d β1)(h1:(a7 Le env)[i]? =some (.ow (.list ds)))(hi:fi (vl env) β1=.ok (.int k) β2)(h2:(a7 (Le ++ Li) env)[i]? =some (.ow (.list ds)))(hk:ue ds.length k=some n):sv i Le Li fe fi env β=.nx ((a7 (Le ++ Li) env).set i (.ow (.list (ds.set n d)))) β2:=by
 unfold sv
 rw[he]
 dsimp only[toS]
 rw[Jk (by rw[h1];rfl),hi]
 exact vc h2 (by dsimp only;rw[hk];rfl)
theorem nz {t:Tg}{ft:VF Bool}{fe:VF D}{vs:List Nv}(g:D->Bool)(h:D->D):∀{ds:List D} {β:Int},(∀d,d∈ds->∃vs1,mh t d vs=some vs1/\ft vs1 β=.ok (g d) β/\(g d=true->fe vs1 β=.ok (h d) β))->gL t ft fe vs ds β=.ok ((ds.filter g).map h) β
 | [],β,_=>rfl
 |d :: ds,β,hh=>by
  obtain⟨vs1,e1,e2,e3⟩:=hh d (JB ..)
  have ih:=nz (t:=t) (ft:=ft) (fe:=fe) (vs:=vs) g h (ds:=ds) (β:=β) λd' hd=>hh d' (Jx _ hd)
  unfold gL
  rw[e1]
  dsimp only
  rw[e2]
  dsimp only[R.okb]
  cases q:g d with
  |true=>
   rw[Jk rfl,e3 q]
   dsimp only
   rw[ih,List.filter_cons_of_pos q];rfl
  |false=>
   rw[Ju JA,ih,List.filter_cons_of_neg (by rw[q];exact JA)]
def uU {own:Nat}{ixs:List Nat}{t:Tg}{fi:VF (List D)}{ft:VF Bool}{fe:VF D}{vs:List Nv}{β β1:Int}{ds:List D}(g:D->Bool)(h:D->D)(hi:fi vs β=.ok ds β1)(hz:ds.length<=1000)
  (hh:∀d,d∈ds->∃vs1,mh t d (gy own ixs vs)=some vs1/\ft vs1 β1=.ok (g d) β1/\(g d=true->fe vs1 β1=.ok (h d) β1)):bL own ixs t fi ft fe vs β=.ok (.list ((ds.filter g).map h)) β1:=by
 unfold bL
 rw[hi]
 dsimp only[R.bnd]
 rw[Jk (sz _ hz),nz g h hh];rfl
def pO {own:Nat}{ixs:List Nat}{t:Tg}{fi:VF (List D)}{fe:VF D}{vs:List Nv}{β β1:Int}{ds:List D}(h:D->D)(hi:fi vs β=.ok ds β1)(hz:ds.length<=1000)
  (hh:∀d,d∈ds->∃vs1,mh t d (gy own ixs vs)=some vs1/\fe vs1 β1=.ok (h d) β1):bL own ixs t fi kT fe vs β=.ok (.list (ds.map h)) β1:=by
 rw[uU (ft:=kT) (λ_=>true) h hi hz λd hd=>let ⟨vs1,e1,e2⟩:=hh d hd;⟨vs1,e1,rfl,λ_=>e2⟩]
 rw[List.filter_eq_self.mpr (λ_ _=>rfl)]
def je {α:Type}{own:Nat}{ixs:List Nat}{t:Tg}{fi:VF (List D)}{fe:VF D}{vs:List Nv}{β β1:Int}{l:List α}{e:α->D}(h:α->D)(hi:fi vs β=.ok (l.map e) β1)(hz:l.length<=1000)
  (hh:∀x,x∈l->∃vs1,mh t (e x) (gy own ixs vs)=some vs1/\fe vs1 β1=.ok (h x) β1):bL own ixs t fi kT fe vs β=.ok (.list (l.map h)) β1:=by
 unfold bL
 rw[hi]
 dsimp only[R.bnd]
 rw[Jk (sz _ (by rw[JE];exact hz))]
 have key:∀m:List α,(∀x,x∈m->x∈l)->gL t kT fe (gy own ixs vs) (m.map e) β1=.ok (m.map h) β1:=by
  intro m
  induction m with
  |nil=>intro _;rfl
  |cons x m ih=>
   intro hm
   obtain⟨vs1,e1,e2⟩:=hh x (hm x (JB ..))
   rw[Kc]
   unfold gL
   rw[e1]
   dsimp only
   show (R.ok true β1).okb _=_
   dsimp only[R.okb]
   rw[Jk rfl,e2]
   dsimp only
   rw[ih λy hy=>hm y (Jx _ hy)];rfl
 rw[key l λ_ h=>h];rfl
theorem iD {t:Tg}{m:SF}(Pv:Nat->En->Int->Prop):∀{ds:List D} {k:Nat} {env:En} {β:Int},Pv k env β->
  (∀i d env β,ds[i]? =some d->Pv (k + i) env β->∃env1,gF t d env=some env1/\∃env2 β2,m env1 β=.nx env2 β2/\Pv (k + i + 1) env2 β2)->∃env' β',rT t m ds env β=.nx env' β'/\Pv (k + ds.length) env' β'
 | [],k,env,β,h0,_=>⟨env,β,rfl,h0⟩
 |d :: ds,k,env,β,h0,hs=>by
  obtain⟨env1,e1,env2,β2,e2,h1⟩:=hs 0 d env β rfl h0
  obtain⟨env',β',e3,h2⟩:=iD Pv (t:=t) (m:=m) (ds:=ds) (k:=k + 1) h1 λi d' en be hi hp=>by
   have:=hs (i + 1) d' en be (by simpa using hi) (by rw[show k + (i + 1)=k + 1 + i by omega];exact hp)
   rw[show k + (i + 1) + 1=k + 1 + i + 1 by omega] at this
   exact this
  refine⟨env',β',?_,by rw[JM,show k + (ds.length + 1)=k + 1 + ds.length by omega];exact h2⟩
  unfold rT
  rw[e1]
  dsimp only
  rw[e2]
  exact e3
theorem nj {L:List Nat}{t:VF Bool}{m:SF}(Pv:Nat->En->Int->Prop)(Dn:En->Int->Prop):∀{n k:Nat} {env:En} {β:Int},k < n->Pv k env β->
  (∀k env β,Pv k env β->∃c β1,t (vl env) β=.ok c β1/\((c=false/\Dn (a7 L env) β1)\/(c=true/\∃env2 β2 k',m (a7 L env) β1=.nx env2 β2/\k' < k/\Pv k' env2 β2)))->∃env' β',jN L t m n env β=.nx env' β'/\Dn env' β'
 | 0,k,env,β,hk,_,_=>by omega
 |n + 1,k,env,β,hk,h0,hs=>by
  obtain⟨c,β1,e1,hc⟩:=hs k env β h0
  unfold jN
  rw[e1]
  dsimp only[toS]
  rcases hc with⟨rfl,hd⟩ | ⟨rfl,env2,β2,k',e2,hl,h1⟩
  ·exact⟨_,_,rfl,hd⟩
  ·rw[Jk rfl,e2]
   exact nj Pv Dn (n:=n) (k:=k') (by omega) h1 hs
end L2
namespace RM
open PySem L2
def oi:SF:=(cj (gP (f1 (gv 0) (ic "int")) (f1 (f1 (gv 0) (ic "bool")) AB)))
def nO (bO:List D->FR):SF:=(cj (gP (aA bO (ae (gv 0) ag)) (jd (cst (.int 0)) (gv 0) (gv 1) AA pG)))
def pQ (bO:List D->FR):SF:=(cj (gP (aA bO (ae (gv 0) ag)) (jd (cst (.int 1)) (gv 0) (cst (.int 8)) AA AA)))
def jZ (aZ:List D->FR):SF:=(aP (hZ ([] ++ ([] ++ [])) (o4 (sF (mZ (f1 (gv 0) (ic "tuple")))) (dY (f2 (f1 (gv 0) fR) (cst (.int 2)) (fN true))))
 (cj (cst (.bool false)))
 kh)
 (cj (gP (aA aZ (ae (f2 (gv 0) (cst (.int 0)) gN) (ae (gv 1) ag))) (aA aZ (ae (f2 (gv 0) (cst (.int 1)) gN) (ae (gv 1) ag))))))
def lq:SF:=(p9 (bL 1 [0] (.nm 0) (gz (f2 (gv 0) (gv 0) cU)) kT (aL (ae (f2 (gv 0) (gv 1) EL) (ae (f2 (gv 0) (gv 1) jy) ag)))))
def nk:SF:=(cj (f1 (bL 2 [] (.two 0 1) (ij (gv 0)) kT (f2 (gv 0) (gv 1) (fN false))) (bX λbs=>bs.any id)))
def jb (gx gq iP ey:List D->FR):SF:=(aP (hZ ([] ++ ([] ++ [])) (o4 (sF (mZ (f1 (gv 0) (ic "tuple")))) (dY (f2 (f1 (gv 0) fR) (cst (.int 2)) (fN true))))
 (cj (cst (.bool false)))
 kh)
 (aP (dv 1 ([] ++ []) (f2 (gv 0) (cst (.int 0)) gN))
 (aP (dv 2 ([] ++ []) (f2 (gv 0) (cst (.int 1)) gN))
 (aP (hZ (([1] ++ []) ++ []) (o4 (sF (mZ (aA gx (ae (gv 1) ag)))) (sF (mZ (f1 (gv 2) (ic "tuple")))))
 (cj (cst (.bool false)))
 kh)
 (aP (hZ ([] ++ [1]) (sF (mZ (f1 (bL 1 [1] (.nm 0) (ij (gv 2)) kT (aA gq (ae (gv 0) (ae (gv 1) ag)))) (bX λbs=>bs.all id))))
 (cj (cst (.bool false)))
 kh)
 (cj (gP (f2 (gv 2) (aA iP (ae (gv 1) (ae (gv 2) ag))) (fN false)) (f1 (aA ey (ae (gv 2) ag)) AB))))))))
def dN (eN:List D->FR):SF:=(hZ ([0] ++ []) (sF (mZ (aA eN (ae (gv 0) ag))))
 (λenv β=>toS ((ae (cst (.str "this is no order")) ag) (vl env) β) λds _=>if ds.length<=sizeLine then .exc "NoOrder" else .bad)
 kh)
def aN (aO aZ:List D->FR):SF:=(aP (bu ([0] ++ []) (aA aO (ae (gv 0) ag)))
 (hZ ([1] ++ (([] ++ []) ++ [])) (sF (mZ (aA aZ (ae (gv 1) (ae (f2 (gv 0) (cst (.int 0)) gN) ag)))))
 (λenv β=>toS ((ae (cst (.str "this is no thing of the order")) ag) (vl env) β) λds _=>if ds.length<=sizeLine then .exc "NoThing" else .bad)
 kh))
def FU:D->Bool
 | .int _=>true
 |_=>false
def jL:List D->FR
 | [d]=>if dZ d=true then .bad else .ok (.bool (FU d)) false
 |_=>.bad
def qA {d:D}(h:dZ d=false):jL [d]=.ok (.bool (FU d)) false:=Ju (by rw[h];exact JA)
def BE (ds:List D)(h:jL ds≠.bad):ba 1 1 oi ds=jL ds:=by
 unfold jL at h
 split at h
 ·rename_i d
  cases q:dZ d with
  |true=>rw[q] at h;exact absurd rfl h
  |false=>
   rw[qA q]
   have e1:ic "int" d=some (.bool (yK d "int")):=by unfold ic;rw[q];rfl
   have e2:ic "bool" d=some (.bool (yK d "bool")):=by unfold ic;rw[q];rfl
   show fin (cj (gP (f1 (gv 0) (ic "int")) (f1 (f1 (gv 0) (ic "bool")) AB)) [.fz d] 0)=_
   unfold cj gP f1 gv
   simp only[qu,uZ,uV,List.getElem?_cons_zero,vm,qz,kx,e1,e2]
   cases d <;> rfl
 ·exact absurd rfl h
def dI (d:D)(n:Int):Bool:=match d with
 | .int i=>decide (0<=i/\i < n)
 |_=>false
def cx:List D->FR
 | [d,.int n]=>if dZ d=true then .bad else .ok (.bool (dI d n)) false
 |_=>.bad
def j6 {d:D}{n:Int}(h:dZ d=false):cx [d,.int n]=.ok (.bool (dI d n)) false:=Ju (by rw[h];exact JA)
def tT {i lo n:Int}{vs:List Nv}{β:Int}{fa fb fc:VF D}{g':D->D->Option D}{q:Bool}(ha:fa vs β=.ok (.int lo) β)(hb:fb vs β=.ok (.int i) β)(hc:fc vs β=.ok (.int n) β)(hq:g' (.int i) (.int n)=some (.bool q)):jd fa fb fc AA g' vs β=.ok (.bool (decide (lo<=i) && q)) β:=by
 unfold jd
 rw[ha];dsimp only[R.bnd];rw[hb];dsimp only[R.bnd]
 show (match (some (PyData.bool (decide (lo<=i))):Option D) with
  |some (.bool true)=>_
  |some (.bool false)=>_
  |_=>_)=_
 by_cases h:lo<=i
 ·rw[Jv h]
  dsimp only
  rw[hc]
  dsimp only[R.bnd]
  rw[hq];rfl
 ·rw[Jy h];rfl
def A6 (ds:List D)(h:cx ds≠.bad):ba 2 2 (nO jL) ds=cx ds:=by
 unfold cx at h
 split at h
 ·rename_i d n
  cases q:dZ d with
  |true=>rw[q] at h;exact absurd rfl h
  |false=>
   rw[j6 q]
   show fin (cj (gP (aA jL (ae (gv 0) ag)) (jd (cst (.int 0)) (gv 0) (gv 1) AA pG)) [.fz d,.fz (.int n)] 0)=_
   unfold cj gP aA
   simp only[qu,uZ,uV,c3,v5,CO,List.getElem?_cons_zero,vm,qz,kx,qA q]
   cases d with
   |int i=>
    show fin (toS (jd (cst (.int 0)) (gv 0) (gv 1) AA pG [.da (.int i),.da (.int n)] 0) _)=_
    rw[tT (lo:=0) (i:=i) (n:=n) rfl rfl rfl rfl]
    show FR.ok (.bool (decide (0<=i) && decide (i < n))) false=.ok (.bool (decide (0<=i/\i < n))) false
    rw[Bool.decide_and]
   |_=>rfl
 ·exact absurd rfl h
def Cu (d:D):Bool:=match d with
 | .int i=>decide (1<=i/\i<=8)
 |_=>false
def lx:List D->FR
 | [d]=>if dZ d=true then .bad else .ok (.bool (Cu d)) false
 |_=>.bad
def zf {d:D}(h:dZ d=false):lx [d]=.ok (.bool (Cu d)) false:=Ju (by rw[h];exact JA)
def Ep (ds:List D)(h:lx ds≠.bad):ba 1 1 (pQ jL) ds=lx ds:=by
 unfold lx at h
 split at h
 ·rename_i d
  cases q:dZ d with
  |true=>rw[q] at h;exact absurd rfl h
  |false=>
   rw[zf q]
   show fin (cj (gP (aA jL (ae (gv 0) ag)) (jd (cst (.int 1)) (gv 0) (cst (.int 8)) AA AA)) [.fz d] 0)=_
   unfold cj gP aA
   simp only[qu,uZ,uV,c3,v5,CO,List.getElem?_cons_zero,vm,qz,kx,qA q]
   cases d with
   |int i=>
    show fin (toS (jd (cst (.int 1)) (gv 0) (cst (.int 8)) AA AA [.da (.int i)] 0) _)=_
    rw[tT (lo:=1) (i:=i) (n:=8) rfl rfl rfl rfl]
    show FR.ok (.bool (decide (1<=i) && decide (i<=8))) false=.ok (.bool (decide (1<=i/\i<=8))) false
    rw[Bool.decide_and]
   |_=>rfl
 ·exact absurd rfl h
def az (n:Nat)(l:List Pr):D:=.tuple [.int n,.tuple (l.map cH)]
noncomputable def c4:List D->FR
 | [.int n,d]=>(match kA d with
  |some ds=>(match il ds with
   |some ps=>(open Classical in if 1<=n/\n<=8/\OM.Wn n.toNat ps then .ok (.tuple ((OM.i3 n.toNat (OM.Tr (OM.Mem ps))).map cH)) false else .bad)
   |none=>.bad)
  |none=>.bad)
 |_=>.bad
def As {n:Nat}{ps:List Pr}(h1:1<=n)(h8:n<=8)(w:OM.Wn n ps):c4 [.int n,.tuple (ps.map cH)]=.ok (.tuple ((OM.i3 n (OM.Tr (OM.Mem ps))).map cH)) false:=by
 unfold c4
 simp only[kA,i7]
 rw[Jk ⟨by omega,by omega,by rw[JO];exact w⟩,JO]
def kl:List D->FR
 | [.tuple ds]=>(match il ds with
  |some ps=>if ps.length<=1000 then .ok (.bool (ps.any λp=>decide (p.1=p.2))) false else .bad
  |none=>.bad)
 |_=>.bad
theorem gf {α:Type}(f:α->Bool):∀l:List α,jJ (l.map λx=>PyData.bool (f x))=some (l.map f)
 | []=>rfl
 |x :: l=>by
  show (jJ (l.map λx=>PyData.bool (f x))).map (f x :: ·)=_
  rw[gf f l];rfl
def D5 (ds:List D)(h:kl ds≠.bad):ba 1 1 nk ds=kl ds:=by
 unfold kl at h
 split at h
 ·rename_i ds
  cases q:il ds with
  |none=>rw[q] at h;exact absurd rfl h
  |some ps=>
   rw[q] at h
   dsimp only at h
   by_cases hz:ps.length<=1000
   case neg=>rw[Ju hz] at h;exact absurd rfl h
   obtain rfl:=l0 q
   have e:kl [.tuple (ps.map cH)]=.ok (.bool (ps.any λp=>decide (p.1=p.2))) false:=by
    unfold kl;simp only[i7];rw[Jk hz]
   rw[e]
   have ec:bL 2 [] (.two 0 1) (ij (gv 0)) kT (f2 (gv 0) (gv 1) (fN false)) [.da (.tuple (ps.map cH))] 0=.ok (.list (ps.map λp=>PyData.bool (decide (p.1=p.2)))) 0:=by
    exact je (l:=ps) (e:=cH) (λp=>PyData.bool (decide (p.1=p.2))) rfl hz λp hp=>⟨_,rfl,rfl⟩
   show fin (toS ((bL 2 [] (.two 0 1) (ij (gv 0)) kT (f2 (gv 0) (gv 1) (fN false)) [.da (.tuple (ps.map cH))] 0).bnd λx β1=>R.of (bX (λbs=>bs.any id) x) β1) λd β'=>.rt d false β')=_
   rw[ec]
   simp only[kx,bX]
   rw[gf]
   simp[fin,List.any_map]
 ·exact absurd rfl h
theorem vN:∀l:List Pr,PyData.canLayAll0 (l.map cH)=true
 | []=>rfl
 |p :: l=>by
  show ((cH p).canLay0 && PyData.canLayAll0 (l.map cH))=true
  rw[vN l];rfl
theorem vQ:∀l:List Pr,PyData.depthAll (l.map cH)<=1
 | []=>by show (0:Nat)<=1;omega
 |p :: l=>by
  show max (cH p).depth (PyData.depthAll (l.map cH))<=1
  have h1:(cH p).depth=1:=by simp[cH,PyData.depth,PyData.depthAll]
  have h2:=vQ l
  omega
def nK (l:List Pr):SeqAt.shaped (.tuple (l.map cH))=true:=by
 unfold SeqAt.shaped
 have h1:(PyData.tuple (l.map cH)).canLay0=true:=by simp only[PyData.canLay0];exact vN l
 have h2:(PyData.tuple (l.map cH)).depth<=64:=by simp only[PyData.depth];have:=vQ l;omega
 rw[h1,Jv h2];rfl
def DL (p q:Pr):PyData.eqv (cH p) (cH q)=decide (p=q):=by
 obtain⟨a,b⟩:=p
 obtain⟨c,d⟩:=q
 simp only[cH,PyData.eqv,PyData.eqvAll,Bool.and_true]
 rw[JQ]
 simp
theorem wL:∀l m:List Pr,PyData.eqvAll (l.map cH) (m.map cH)=decide (l=m)
 | [],[]=>rfl
 | [],_ :: _=>rfl
 |_ :: _,[]=>rfl
 |p :: l,q :: m=>by
  show (PyData.eqv (cH p) (cH q) && PyData.eqvAll (l.map cH) (m.map cH))=_
  rw[DL,wL l m,JQ]
  simp
def wo {n:Nat}{l:List Pr}(O:OM.Ord n l):l.length < 64:=by
 have h8:=O.hi
 have e:=O.closed
 by_cases h:l.length < 64
 ·exact h
 ·exfalso
  have h1:l.length<=n * n:=by rw[<-e];exact OM.zk _ _
  have h2:n * n<=64:=Nat.mul_le_mul h8 h8
  have hn:n=8:=by
   by_cases h7:n<=7
   ·have:n * n<=7 * 7:=Nat.mul_le_mul h7 h7
    omega
   ·omega
  have hlen:l.length=n * n:=by subst hn;omega
  have hg:l=OM.dE n:=by
   refine OM.sub_eq O.ris (OM.iO n) (λx hx=>OM.cy.mpr (O.wn x hx)) ?_
   rw[hlen];unfold OM.dE;simp
  have:((0:Int),(0:Int))∈l:=by rw[hg];exact OM.cy.mpr ⟨⟨by omega,by omega⟩,by omega,by omega⟩
  exact O.irr 0 this
def zl {n:Nat}(h1:1<=n)(h8:n<=8):lx [.int n]=.ok (.bool true) false:=by
 rw[zf rfl]
 show FR.ok (.bool (decide (1<=(n:Int)/\(n:Int)<=8))) false=_
 rw[Jv (by omega)]
def zS (neg:Bool)(l m:List Pr):fN neg (.tuple (l.map cH)) (.tuple (m.map cH))=some (.bool (if neg then !decide (l=m) else decide (l=m))):=by
 unfold fN
 rw[nK,nK]
 simp only[Bool.and_self,Km,PyData.eqv,wL]
abbrev cg (ns:List Int):D:=.dict [(.none,.list (ns.map int))]
def qx {i j:Int}(h: -(2 ^ 64) < i/\i < 2 ^ 64):cU (.int i) (.int j)=some (.int (i * j)):=Jk (by dsimp only;rw[Jv h.1,Jv h.2];rfl)
def Aj {i j:Int}(h: -(2 ^ 64) < j/\j < 2 ^ 64):cU (.int i) (.int j)=some (.int (i * j)):=Jk (by dsimp only;rw[Jv h.1,Jv h.2,Bool.and_self,Bool.or_true])
def ou {i j:Int}(h:0 < j):jy (.int i) (.int j)=some (.int (i % j)):=Jk (Jv h)
def FE {i j:Int}(h:0 < j)(h2:j < 1073741824):EL (.int i) (.int j)=some (.int (i / j)):=Jk (by dsimp only;rw[Jv h,Jv h2];rfl)
theorem rK {α β:Type}(f:α->β)(l:List α)(i:Int):kg (l.map f) i=(kg l i).map f:=by
 unfold kg
 rw[JE]
 cases ue l.length i with
 |none=>rfl
 |some j=>simp
def Dx {α:Type}{l:List α}{k:Nat}(h:k < l.length):kg l (k:Int)=some l[k]:=ja (Jr h)
def DN {fa fb:VF D}{vs:List Nv}{β β1 β2:Int}{i j:Int}(h:fa vs β=.ok (.int i) β1)(h':fb vs β1=.ok (.int j) β2):dY (f2 fa fb pG) vs β=.ok (decide (i < j)) β2:=kI _ _ _ _ (bb h h' rfl)
def la {neg:Bool}{fa fb:VF D}{vs:List Nv}{β β1 β2:Int}{i j:Int}(h:fa vs β=.ok (.int i) β1)(h':fb vs β1=.ok (.int j) β2):dY (f2 fa fb (fN neg)) vs β=.ok (if neg then !decide (i=j) else decide (i=j)) β2:=by
 refine kI _ _ _ _ (bb h h' ?_)
 cases neg <;> rfl
theorem lay_ints:∀ns:List Int,PyData.canLayAll0 (ns.map int)=true
 | []=>rfl
 |n :: ns=>by
  show ((int n).canLay0 && PyData.canLayAll0 (ns.map int))=true
  rw[lay_ints ns];rfl
theorem sg:∀ns:List Int,PyData.depthAll (ns.map int)=0
 | []=>rfl
 |n :: ns=>by
  show max (int n).depth (PyData.depthAll (ns.map int))=0
  rw[sg ns];rfl
def shaped_ints (ns:List Int):SeqAt.shaped (.list (ns.map int))=true:=by
 unfold SeqAt.shaped
 have h1:(PyData.list (ns.map int)).canLay0=true:=by simp only[PyData.canLay0];exact lay_ints ns
 have h2:(PyData.list (ns.map int)).depth<=64:=by simp only[PyData.depth];rw[sg];omega
 rw[h1,Jv h2];rfl
theorem sW:∀l m:List Int,PyData.eqvAll (l.map int) (m.map int)=decide (l=m)
 | [],[]=>rfl
 | [],_ :: _=>rfl
 |_ :: _,[]=>rfl
 |p :: l,q :: m=>by
  show ((p == q) && PyData.eqvAll (l.map int) (m.map int))=_
  rw[sW l m,JQ]
  simp
def sE (neg:Bool)(l m:List Int):fN neg (.list (l.map int)) (.list (m.map int))=some (.bool (if neg then !decide (l=m) else decide (l=m))):=by
 unfold fN
 rw[shaped_ints,shaped_ints]
 simp only[Bool.and_self,Km,PyData.eqv,sW]
theorem oK {α:Type}:∀{l:List α} {k:Nat} {x:α},l[k]? =some x->(x :: l.eraseIdx k).Perm l
 | [],_,_,h=>by simp at h
 |y :: l,0,x,h=>by simp at h;subst h;exact List.Perm.refl _
 |y :: l,k + 1,x,h=>by
  have h:l[k]? =some x:=by simpa using h
  have ih:=oK h
  show (x :: y :: l.eraseIdx k).Perm (y :: l)
  exact (List.Perm.swap y x _).trans (ih.cons y)
theorem p7 {α β:Type}(f:α->β):∀(l:List α) (k:Nat),(l.map f).eraseIdx k=(l.eraseIdx k).map f
 | [],_=>rfl
 |_ :: _,0=>rfl
 |x :: l,k + 1=>by simp[p7 f l k]
def A0 {a b:List D}(h:a.length + b.length<=10000):B4 (.list a) (.list b)=some (.list (a ++ b)):=Jk (by rw[JL];omega)
def fo (n:Nat):List Int:=(List.range n).map λ(k:Nat)=>(k:Int)
def dr (n:Nat):(fo n).length=n:=by unfold fo;simp
def g9 {n:Nat}{x:Int}:x∈fo n↔0<=x/\x < n:=by
 unfold fo
 rw[KZ]
 constructor
 ·rintro⟨k,hk,rfl⟩
  have:=J6.mp hk
  omega
 ·intro h
  exact⟨x.toNat,J6.mpr (by omega),by omega⟩
def qj (n:Nat):(fo n).Nodup:=by
 unfold fo
 rw[List.nodup_iff_pairwise_ne,List.pairwise_map]
 exact (List.nodup_iff_pairwise_ne.mp List.nodup_range).imp λ{a b} h e=>h (by omega)
def p8 (n:Nat):cP 0 n=(fo n).map int:=by
 unfold cP fo
 rw[List.map_map]
 refine J8 λk _=>?_
 show int (0 + (k:Int))=_
 rw[Ka];rfl
theorem gE {lo:Int}{n i:Nat}{d:D}(h:(cP lo n)[i]? =some d):i < n/\d=.int (lo + i):=by
 unfold cP at h
 rw[JC] at h
 cases q:(List.range n)[i]? with
 |none=>rw[q] at h;cases h
 |some j=>
  rw[q] at h
  cases h
  obtain⟨hi,ej⟩:=Jw.mp q
  rw[KY] at hi
  rw[List.getElem_range] at ej
  subst ej
  exact⟨hi,rfl⟩
def sC {n:Nat}(h:n<=1000):fE (.int n)=some (.list ((fo n).map int)):=by
 unfold fE
 dsimp only
 rw[Jk ⟨by omega,by omega⟩,JO,p8]
def ir {fa:VF D}{vs:List Nv}{β β1:Int}{n:Nat}(h:fa vs β=.ok (.int n) β1)(hn:n<=1000):gz fa vs β=.ok (cP 0 n) β1:=by
 unfold gz
 rw[h]
 simp only[kx]
 rw[Jk (l6 (by omega) (by omega)),JO]
def zL {fa fb:VF D}{vs:List Nv}{β β1 β2:Int}{i j:Int}(h:fa vs β=.ok (.int i) β1)(h':fb vs β1=.ok (.int j) β2)(hi:0<=i/\i<=1000)(hj:0<=j/\j<=1000):vZ fa fb vs β=.ok (cP i (j - i).toNat) β2:=by
 unfold vZ
 rw[h]
 simp only[kx]
 rw[h']
 simp only[kx]
 rw[Jk (by rw[l6 (by omega) (by omega),l6 (by omega) (by omega)];rfl)]
def lB {t:Tg}{L:List Nat}{fi:VF (List D)}{m:SF}{env:En}{β β1:Int}{ds:List D}(h:fi (vl env) β=.ok ds β1):iS t L fi m env β=rT t m ds (a7 L env) β1:=by unfold iS;rw[h];rfl
def iq {m:Nat}(h:1<=m)(h2:m<=1000)(β:Int):∃j:Nat,j < m/\cC [.int m] β=.ok (.int (j:Int)) false (β / m):=by
 refine⟨(β % m).toNat,?_,?_⟩
 ·have h0:=KP β (b:=(m:Int)) (by omega)
  have h3:=KQ β (b:=(m:Int)) (by omega)
  omega
 ·rw[rS (by omega) (by omega)]
  have h0:=KP β (b:=(m:Int)) (by omega)
  rw[show ((β % m).toNat:Int)=β % m by omega]
def BY (neg:Bool)(i j:Int):fN neg (.int i) (.int j)=some (.bool (if neg then !decide (i=j) else decide (i=j))):=rfl
theorem Bp {fa fb:VF D}{vs:List Nv}{β:Int}{a b:Bool}(h:fa vs β=.ok (.bool a) β)(h':fb vs β=.ok (.bool b) β):gP fa fb vs β=.ok (.bool (a && b)) β:=by
 unfold gP
 rw[h]
 dsimp only[R.bnd]
 cases a with
 |true=>exact h'
 |false=>rfl
def Az {fa fb:VF D}{vs:List Nv}{β:Int}{a b:Int}(h:fa vs β=.ok (.int a) β)(h':fb vs β=.ok (.int b) β):aL (ae fa (ae fb ag)) vs β=.ok (cH (a,b)) β:=by
 refine qP (ds:=[.int a,.int b]) ?_ (by simp)
 rw[c3,h]
 dsimp only[R.bnd]
 rw[c3,h'];rfl
def C7 {n:Nat}{l:List Pr}{fa:VF D}{vs:List Nv}{β:Int}(h:fa vs β=.ok (az n l) β):f2 fa (cst (.int 0)) gN vs β=.ok (.int n) β:=bb h rfl rfl
def CV:List D->FR:=ba 1 1 lq
def iG (n:Nat):(OM.dE n).length=n * n:=by unfold OM.dE;simp
def jK {fa:VF D}{vs:List Nv}{β:Int}{c:Bool}(h:fa vs β=.ok (.bool c) β):mZ fa vs β=.ok c β:=by rw[uC,h];rfl
def cB (aO:List D->FR):SF:=(aP (bu ([0] ++ []) (aA aO (ae (gv 0) ag)))
 (bu ([1] ++ []) (aA aO (ae (gv 1) ag))))
def dA:SF:=(hZ ([] ++ []) (dY (f2 (gv 0) (cst (.int 8)) Ek))
 (λenv β=>toS ((ae (cst (.str "there were more things than an order may have")) ag) (vl env) β) λds _=>if ds.length<=sizeLine then .exc "TooMany" else .bad)
 kh)
def fZ:SF:=(aP (dv 2 (([] ++ []) ++ []) (f2 (f2 (cst (.int 7919)) (gv 1) cU) (cst (.int 13)) cD))
 (aP (hZ ([] ++ []) (dY (f2 (gv 1) (f1 (gv 0) fR) pG))
 (dv 2 ([] ++ []) (f2 (gv 0) (gv 1) gN))
 kh)
 (aP (hZ (([] ++ []) ++ []) (dY (f2 (f2 (gv 2) (cst (.int 2)) jy) (cst (.int 0)) (fN false)))
 (p9 (bz (ae (f2 (gv 2) (cst (.int 2)) EL) ag)))
 kh)
 (aP (dv 3 [] (cst (.int 0)))
 (aP (iS (.nm 4) [] (gz (cst (.int 16)))
 (aP (dv 5 ((((([] ++ []) ++ []) ++ ([] ++ [])) ++ []) ++ []) (f2 (f2 (f2 (f2 (f2 (gv 2) (cst (.int 2147483647)) jy) (cst (.int 48271)) cU) (f2 (cst (.int 7919)) (gv 4) cU) cD) (cst (.int 1)) cD) (cst (.int 2147483647)) jy))
 (aP (dv 5 (([] ++ []) ++ []) (f2 (f2 (gv 5) (gv 5) cU) (cst (.int 2147483629)) jy))
 (dv 3 (([] ++ []) ++ (([] ++ ([] ++ [])) ++ [])) (f2 (f2 (gv 3) (cst (.int 2147483647)) cU) (f2 (f2 (gv 5) (f2 (gv 5) (cst (.int 13)) cD) cU) (cst (.int 2147483647)) jy) cD)))))
 (p9 (bz (ae (gv 3) ag))))))))
def c5 (aB:List D->Int->FB):SF:=(aP (qt 2 [] (f1 (gv 1) wR))
 (aP (qt 3 [] (bz ag))
 (aP (jN ([] ++ []) (dY (f2 (gv 2) (bz ag) (fN true)))
 (i0 3 2 ([] ++ []) (j9 0 aB (ae (f1 (gv 2) fR) ag))) 1000)
 (cj (f1 (gv 3) rV)))))
def g8:SF:=(aP (qt 2 [] (bz ag))
 (aP (iS (.nm 3) [] (gz (gv 0))
 (iS (.nm 4) [] (gz (gv 0))
 (hZ (([] ++ []) ++ ([] ++ [])) (uQ (dY (f2 (gv 3) (gv 4) (fN true))) (mZ (f1 (bL 1 [3,4] (.nm 0) (ij (gv 1)) kT (f2 (lT (gv 0) (gv 1)) (lT (gv 0) (gv 2)) pG)) (bX λbs=>bs.all id))))
 (vv 2 ([3] ++ ([4] ++ [])) (aL (ae (gv 3) (ae (gv 4) ag))))
 kh)))
 (cj (f1 (gv 2) rV))))
def fU (bD:List D->FR)(aB bZ:List D->Int->FB):SF:=(aP (dv 2 ([] ++ ([1] ++ [])) (f2 (cst (.int 1)) (j9 0 aB (ae (gv 1) ag)) cD))
 (aP (dv 3 (([] ++ ([] ++ [])) ++ []) (bL 1 [0,2] (.nm 0) (gz (f2 (cst (.int 1)) (j9 0 aB (ae (cst (.int 3)) ag)) cD)) kT (j9 1 bZ (ae (f1 (gv 2) fE) ag))))
 (cj (aL (ae (gv 2) (ae (aA bD (ae (gv 2) (ae (gv 3) ag))) ag))))))
end RM
namespace L2
open PySem PySem.Spec PyProof.Rows
def A9 {prog:Program}{w:World}{A:Around}{it t:Addr}{xs:Array Value}(hh:A.handled=none)(i:Nat)(hx:xs[i]? =none):Draws prog w A it [it,t] i (λ_ _=>False) (λj h=>j=i/\h.IsListIter it t i/\h.IsList t xs) where
 live:=λ_ _ st=>let ⟨o,ho,_⟩:=st.2.1;⟨o,ho⟩
 frame:=λ_ _ _ st hk=>⟨st.1,st.2.1.at λo e=>hk it (by simp) o e,st.2.2.at λo e=>hk t (by simp) o e⟩
 item:=λj s Q E hi st k=>absurd st.1 (by omega)
 done:=λs Q E st k=>wpAny_nextOf_list_end hh st.2.1 st.2.2 hx k
def D3 (K:Frag)(a:Addr):It:=
 ⟨λi H=>∃xs x,fP K H a xs/\xs[i]? =some x,
  λi H v H'=>∃x t,H t=none/\(∀xs,fP K H a xs->xs[i]? =some x)/\v=.ref t/\H'=upd H t (.tup [.int i,x]),
  λi H=>∃xs,fP K H a xs/\xs.length<=i⟩
def xK {h:Heap}{a n:Addr}{i:Nat}{its:Array Value}{b:Addr}(p:h.IsList a its)(q:h.IsListIter n b i):a≠n:=λz=>by
 subst z
 obtain⟨o,e,c,_⟩:=p
 obtain⟨o',e',c',_⟩:=q
 rw[e] at e';cases e'
 rw[c] at c'
 simp at c'
def xN {h:Heap}{a n it:Addr}{i:Int}{its:Array Value}{old:Value}(p:h.IsList a its)(q:IsEnum h n it i old):n≠a:=λz=>by
 subst z
 obtain⟨o,e,c,_⟩:=p
 rw[q] at e;cases e
 simp at c
def vE {P:Program}{w:World}{K:Frag}{elts:List Expr}{x1}{pos:Pos}(a:Addr)(n:Nat):Turn P w K (.Tuple elts x1 pos) (D3 K a) (pH n) (n + 1)
  (λi h=>(∃old,IsEnum h (n + 1) n i old)/\h.IsListIter n a i) where
 mem:=by simp
 obj:=λi h st c hc=>by
  obtain⟨⟨old,z1⟩,⟨o2,z2,_,d2⟩⟩:=st
  simp only[pH,Jn,JG,J3] at hc
  rcases hc with rfl |rfl
  ·exact⟨_,z1,λv z=>by
    have z':Data.fields _=Data.cell v:=z
    cases z'⟩
  ·exact⟨o2,z2,λv z=>by rw[d2] at z;cases z⟩
 keep:=λi h h' st k=>by
  obtain⟨⟨old,z1⟩,z2⟩:=st
  exact⟨⟨old,k _ (by simp) _ z1⟩,z2.at λo e=>k _ (by simp) o e⟩
 item:=by
  intro X hP hw hK hc i pins s σ H E I hf st hg
  subst hP hw hK
  obtain⟨xs,x,ha,hx⟩:=hg
  obtain⟨its,rv,p,hz⟩:=I.list ha
  have p:s.heap.IsList a its.toArray:=p.isList
  obtain⟨u0,hu0,ru0⟩:=rv.get hx
  obtain⟨⟨old,z1⟩,z2⟩:=st
  have hh:X.A.in1.handled=none:=I.ok.hd hc
  have hlt:i < its.toArray.size:=by
   have:=Jw.mp hu0
   simpa using this.1
  refine wpAny_pyNext_enum_itemD (Draws.list hh n a (xK p z2) its.toArray) z1 ⟨z2,p⟩ hlt (EI 1 0 rfl) (by
   simp only[Jn,JG,J3,not_or]
   exact⟨EI 1 0 rfl,xN p z1⟩) λu h' tk hu q1 q2 q3 q4 q5=>?_
  have eu:u0=u:=by
   have hu:its.toArray[i]? =some u:=hu
   rw[List.getElem?_toArray,hu0] at hu
   exact Option.some.inj hu
  subst eu
  refine⟨_,rfl,wpAny_letOwnedTupleGo_enum (s:={s with heap:=h',toks:=tk + 1}) q1 λh2 r1 r2=>?_⟩
  have r2:∀c,c≠n + 1->h2.get? c=h'.get? c:=r2.2
  have lz:n + 1 < s.heap.objs.size:=Jm z1
  have hT:H s.heap.objs.size=none:=I.hok.fresh (Jl _)
  have I1:Inv X pins σ (upd H s.heap.objs.size (.tup [.int i,x])) {s with heap:=s.heap.push {cls:=.type "tuple",data:=.seq #[.int i tk,u0]},toks:=s.toks}:=
   I.laid (λb o e=>Jj _ e) (Jl _) ⟨by show 2<=sizeLine;rw[JL];omega,[.int i tk,u0],.cons ⟨tk,rfl⟩ (.cons ru0 .nil),mK.new _ _⟩
  have hf':∀c∈pH n,iN X pins (upd H s.heap.objs.size (.tup [.int i,x])) c:=λc hc=>⟨by
   rw[aw (λz=>?_)]
   ·exact (hf c hc).1
   ·subst z
    simp only[pH,Jn,JG,J3] at hc
    omega,(hf c hc).2⟩
  have I2:Inv X pins σ (upd H s.heap.objs.size (.tup [.int i,x])) {s with heap:=h2,toks:=tk + 1}:=by
   refine I1.turnedL (ch:=pH n) (λc o hc e=>?_) hf'
   have e:(s.heap.push {cls:=.type "tuple",data:=.seq #[.int i tk,u0]}).get? c=some o:=e
   simp only[pH,Jn,JG,J3,not_or] at hc
   rw[r2 c hc.1]
   by_cases z:c=s.heap.objs.size
   ·subst z
    rw[Jt _ rfl] at e
    rw[<-e];exact q3
   ·refine q5 c o hc.1 hc.2 ?_
    rw[Heap.get?_push_ne _ _ _ z] at e
    exact e
  refine⟨.ref s.heap.objs.size,_,I2,rfl,⟨x,_,hT,λxs' h'=>?_,rfl,rfl⟩,⟨⟨u0,r1⟩,q2.1.at λo e=>(r2 _ (EI 0 1 rfl)).trans e⟩,λc hc=>(hf' c hc).1⟩
  rw[I.list_inj h' ha];exact hx
 done:=by
  intro X hP hw hK hc i pins s σ H E I hf st hg
  subst hP hw hK
  obtain⟨xs,ha,hl⟩:=hg
  obtain⟨its,rv,p,hz⟩:=I.list ha
  obtain⟨⟨old,z1⟩,z2⟩:=st
  have hh:X.A.in1.handled=none:=I.ok.hd hc
  have l1:=rv.length
  refine wpAny_pyNext_enum_endD (A9 hh i (xs:=its.toArray) (by simp;omega)) z1 ⟨rfl,z2,p.isList⟩ λh' q=>⟨rfl,?_⟩
  refine I.turnedL (t':=s.toks) (ch:=pH n) (λc o hc e=>?_) hf
  simp only[pH,Jn,JG,J3,not_or] at hc
  exact q c o hc.2 e
 self:=λ_ _ _ _ _ st h=>by
  obtain⟨⟨old,z1⟩,_⟩:=st
  exact Ls z1 h
section
variable {X:Cx}{Γ:Fx}{E:XK}{e a b c:Expr}{f fa fb:VF D}{L La Lb:List Nat}{md ma mb:Md}{pos:Pos}
def y2 {K:Frag}{B:Option Addr}{G H1:Hp}{p:Addr}{xs:List V}{ds:List D}(hp:∀Gc H,ar G Gc->ar Gc H->gM B H1 H->fP K H p xs)(r:cm K G xs ds):Walk K B G H1 (gH ds) (D3 K p):=λGc H i s1 s2 m=>by
 have hp':=hp Gc H s1 s2 m
 have l1:=r.len
 have lz:(gH ds).length=ds.length:=by unfold gH;rw[List.length_mapIdx]
 refine⟨λhi=>⟨?_,λx H' y=>?_⟩,λhi=>⟨xs,hp',by omega⟩⟩
 ·have h1:i < xs.length:=by omega
  exact⟨xs,xs[i],hp',by simp[h1]⟩
 ·obtain⟨x,t,ht,hx,rfl,rfl⟩:=y
  obtain⟨d,ed,rd⟩:=r.at' (hx xs hp')
  have xn:=Ext.new s2 (o:=.tup [.int i,x]) ht
  refine⟨upd Gc t (.tup [.int i,x]),.tuple [.int i,d],xn,?_,.tup (.inl (.inl aq)) (.cons (.int i) (.cons (rd.mono (s1.trans xn.gg)) .nil))⟩
  unfold gH
  rw[List.getElem?_mapIdx,ed];rfl
end
end L2
section
namespace HT
open PySem PySem.Spec PyProof.Rows
section
variable {prog:Program}{w:World}{A:Around}{E:Value->Shared->Prop}{s:Shared}
def kb {t sl:Addr}{items:Array Value}{vl vu:Value}{lo hi:Option Int}{Q:Value->Shared->Prop}(ht:IsTup s.heap t items)(hs:s.heap.IsSliceOf sl vl vu .none)(pl:IsPart vl lo)(pu:IsPart vu hi)
  (hw:cX items.size 0 lo=0/\cX items.size items.size hi=items.size) (h:Q (.ref t) s):wpAny (model prog w) A (getItem (.ref t) (.ref sl)) Q E s:=by
 obtain⟨os,hos,hcs,hds⟩:=id hs
 have hTs:s.TypeIs (.ref sl) "slice":=⟨os,hos,hcs⟩
 unfold getItem
 try with_reducible refine K4 ?_
 first |refine Ji (Jp ?_) |skip
 refine Ji (wpAny_sequenceKey ht.typeIs (by decide) ?_)
 refine Ji (KI (name:=Str.ofString "__getitem__") ht.typeIs JZ
  (wpAny_call_entry JZ ht.typeIs entry_tuple_getitem ?_ (args_tuple_getitem _ _)))
 show wpAny _ _ (Builtin.Tuple.tupleItemsOf (.ref t) >>= _) _ _ s
 refine Ji (tupleItemsOf_ ht ?_)
 refine Ji (wpAny_typeOf hTs ?_)
 rw[Jk (by decide)]
 refine Ji (iK hs pl pu ?_)
 rw[hw.1,hw.2]
 show wpAny _ _ (if (((0:Nat):Int) == 0 && (1:Int) == 1 && (items.size - 0) == items.size)=true then _ else _) _ _ s
 rw[Jk (by simp)]
 refine Ji ?_
 unfold Builtin.Tuple.tupleIsExact
 first
  |refine Ji (wpAny_typeOf ht.typeIs (Jp ?_))
  |refine Ji (wpAny_typeOf ht.typeIs ?_)
 first |rw[Jk (by decide)] |skip
 first
  |exact Ji (wpAny_rule (Jp ⟨_,rfl,Jp h⟩))
  |exact Ji (Ji (wpAny_rule (Jp ⟨_,rfl,Jp h⟩)))
end
end HT
namespace L2
open PySem PySem.Spec PyProof.Rows
section
variable {X:Cx}{Γ:Fx}{E:XK}{e a b c:Expr}{f fa fb fc:VF D}{L La Lb:List Nat}{md ma mb mc:Md}{pos:Pos}
def He (K:Frag):V->Option Int->Option Int->Hp->VK->Prop:=λx lo hi H Q=>∃a xs,x=.ref a/\dW K H a xs/\
 ((HT.cX xs.length 0 lo=0/\HT.cX xs.length xs.length hi=xs.length)->Q (.ref a) H)/\
 (¬(HT.cX xs.length 0 lo=0/\HT.cX xs.length xs.length hi=xs.length)->∀p,H p=none->Q (.ref p) (upd H p (.tup (pe xs lo hi))))
def Ca:GX X (He X.K):=by
 intro pins s σ H x v vl vu lo hi sl Q I rx hs pl pu h
 obtain⟨a,xs,rfl,hx,hw,q⟩:=h
 by_cases z:HT.cX xs.length 0 lo=0/\HT.cX xs.length xs.length hi=xs.length
 ·have hw:=hw z
  cases rx
  obtain⟨its,r,ht,hz⟩:=I.tuple hx
  have hlen:its.toArray.size=xs.length:=by rw[Jo];exact r.length.symm
  refine⟨"tuple",_,JZ.lookup,ht.typeIs,?_⟩
  exact HT.kb ht hs pl pu (by rw[hlen];exact z) ⟨.ref a,H,I,rfl,hw⟩
 ·exact Es pins s σ H (.ref a) v vl vu lo hi sl Q I rx hs pl pu ⟨a,xs,rfl,hx,z,q z⟩
def yU (fa:VF D)(fl fh:VF (Option Int)):VF D:=λvs β=>(fa vs β).bnd λx β1=>(fl vs β1).bnd λl β2=>(fh vs β2).bnd λh β3=>match x with
 | .tuple ds=>.ok (.tuple (cutD ds l h)) β3
 |_=>.bad
def uP {ds:List D}{lo hi:Option Int}(h:HT.cX ds.length 0 lo=0/\HT.cX ds.length ds.length hi=ds.length):cutD ds lo hi=ds:=by
 unfold cutD;rw[h.1,h.2];simp
theorem xp {lo hi:Option Expr}{fl fh:VF (Option Int)}{Ll Lh:List Nat}{p2:Pos}(hK:X.K=Γ.K)(ha:SE X Γ E a fa La ma)(hl:GZ X Γ E lo fl Ll)(hh:GZ X Γ E hi fh Lh):SE X Γ E (.Subscript a (.Slice lo hi none p2) pos) (yU fa fl fh) (La ++ Ll ++ Lh) .v:=by
 refine PE.post' (zo Ca ha hl hh) ?_
 rintro σ H Q ⟨env,G,B,β,I,o⟩
 refine⟨env,G,B,β,I,o.bnd.imp λd1 β1 h x G1 H1 I1 s1 m1 vx=>⟨a7 La env,G1,B,β1,I1,?_⟩⟩
 rw[eS]
 refine h.bnd.imp λl β2 h G2 H2 I2 s2 m2=>⟨a7 Ll (a7 La env),G2,B,β2,I2,?_⟩
 rw[eS,eS]
 refine h.bnd.imp λu β3 h G3 H3 I3 s3 m3=>?_
 rw[<-cv,<-cv,<-KU] at I3
 have bx:=((vx.brw I.boxThere).mono s2 m2).mono s3 m3
 cases d1 with
 |tuple ds=>
  obtain⟨p,xs,rfl,hq,r⟩:=bx.tuple I3.sub
  rw[hK]
  dsimp only at h
  refine⟨p,xs,rfl,hq,λz=>?_,λhw q hn=>?_⟩
  ·rw[r.len] at z
   rw[uP z] at h
   refine h _ _ _ I3 ((s1.trans s2).trans s3) ((m1.trans m2).trans m3) ?_
   rcases bx with bx | ⟨_,_,_,bx⟩
   ·exact bx
   ·exact bx.elim
  ·have x:=Ext.new I3.sub (o:=.tup (pe xs l u)) hn
   exact h _ _ _ (I3.ext x) (((s1.trans s2).trans s3).trans x.gg) (((m1.trans m2).trans m3).trans (x.mov B)) (.tup (.inl (.inl aq)) ((BB r l u).mono x.gg))
 |_=>exact h.elim
end
end L2
end
namespace L2
open PySem PySem.Spec PyProof.Rows
def Hi (K:Frag)(ta:TA):TI:=λσ H R=>ta σ H λvs H2=>(∃a xs,vs= [.ref a]/\dW K H2 a xs/\R (HQ K a) H2)\/∃a xs,vs= [.ref a]/\fP K H2 a xs/\R (D3 K a) H2
section
variable {X:Cx}
def DH {a:Expr}{ta:TA}{p pos pt:Pos}{elts:List Expr}{x1}(hg:Gl X "enumerate")(hm:X.mg "enumerate"=none)(ha:PA X [a] ta)(hs:starEach [a] X.env= [(false,eval a X.env)]:=by rfl) :
  PI X (.Tuple elts x1 pt) (.Call (.Name "enumerate" p) [a] [] pos) (Hi X.K ta):=by
 intro pins s σ H R I h
 refine Call_ (kR I hg hm xO (Kf (bW (ha pos pins s σ H _ I h) λus s1 ⟨vs,H1,I1,r1,q1⟩=>?_) hs rfl))
 have fp:∀c∈pH s1.heap.objs.size,iN X pins H1 c:=λc hc=>by
  have:s1.heap.objs.size<=c:=by
   simp only[pH,Jn,JG,J3] at hc
   rcases hc with rfl |rfl <;> first |exact Jl _ |exact Nat.le_add_right _ _
  exact I1.fpOk this (I1.hok.fresh this)
 rcases q1 with⟨a,xs,e,h1,q⟩ | ⟨a,xs,e,h1,q⟩
 ·subst e
  cases r1 with
  |cons r rr=>
   cases rr
   cases r
   obtain⟨its,rv,p1,hz⟩:=I1.tuple h1
   exact vk (show s1.heap.IsTuple a its.toArray from p1) λh' z1 z2 z3=>Ls z1 ⟨_,pH s1.heap.objs.size,_,_,H1,rfl,I1.kept (t':=s1.toks) z3,vj a s1.heap.objs.size,⟨⟨_,z1⟩,z2⟩,fp,q⟩
 ·subst e
  cases r1 with
  |cons r rr=>
   cases rr
   cases r
   obtain⟨its,rv,p1,hz⟩:=I1.list h1
   exact call_enumerate_list p1.isList λh' z1 z2 _ z3=>Ls z1 ⟨_,pH s1.heap.objs.size,_,_,H1,rfl,I1.kept (t':=s1.toks) z3,vE a s1.heap.objs.size,⟨⟨_,z1⟩,z2⟩,fp,q⟩
end
section
variable {X:Cx}{Γ:Fx}{E:XK}{e a b c:Expr}{f fa fb:VF D}{L La Lb:List Nat}{md ma mb:Md}{pos:Pos}
def C6 (fa:VF D):VF (List D):=λvs β=>(fa vs β).bnd λx β1=>match kA x with
 |some ds=>.ok (gH ds) β1
 |none=>.bad
theorem DP {p pt:Pos}{elts:List Expr}{x1}(hK:X.K=Γ.K)(hg:Gl X "enumerate")(hm:X.mg "enumerate"=none)(ha:SE X Γ E a fa La .v)(hs:starEach [a] X.env= [(false,eval a X.env)]:=by rfl)(hs':starEach [a] X.env=(false,eval a X.env) :: starEach [] X.env:=by rfl) :
  SI X Γ E (.Tuple elts x1 pt) (.Call (.Name "enumerate" p) [a] [] pos) (C6 fa) La .v:=by
 refine PI.post (DH hg hm (aj ha aI hs') hs) ?_
 rintro σ H Q ⟨env,G,B,β,I,o⟩
 refine⟨env,G,B,β,I,o.bnd.imp λd1 β1 h x G1 H1 I1 s1 m1 vx=>?_⟩
 have vx:Rp Γ.K G1 x d1:=vx
 rw[hK]
 cases d1 with
 |list ds=>
  cases vx with
  | @lst p xs _ hq r=>exact .inr ⟨p,xs,rfl,.inl (Rd.mono (.inl hq) I1.sub),h _ G1 H1 I1 s1 m1 (y2 (λGc H t1 t2 _=>.inl (Rd.mono (.inl hq) (t1.trans t2))) r)⟩
 |tuple ds=>
  cases vx with
  | @tup p xs _ hq r=>exact .inl ⟨p,xs,rfl,hq.grow I1.sub.grow,h _ G1 H1 I1 s1 m1 (Ap hq r)⟩
 |_=>exact h.elim
end
end L2
namespace RM
open PySem L2
def jX (aZ:List D->FR):SF:=(aP (hZ ([] ++ ([] ++ [])) (o4 (sF (mZ (f1 (gv 0) (ic "tuple")))) (dY (f2 (f1 (gv 0) fR) (gv 1) (fN true))))
 (cj (cst (.bool false)))
 kh)
 (cj (gP (f1 (bL 1 [1] (.nm 0) (ij (gv 0)) kT (aA aZ (ae (gv 0) (ae (gv 1) ag)))) (bX λbs=>bs.all id)) (f2 (f1 (gv 0) mP) (gv 1) (fN false)))))
def ly:SF:=(aP (qt 1 (([] ++ []) ++ []) (f2 (bz (ae (cst (.int 0)) ag)) (f1 (gv 0) fR) yF))
 (aP (iS (.two 2 3) [0] (C6 (gv 0))
 (sv 1 [2] [] (gv 2) (gv 3)))
 (zJ 1)))
def fg (gj cS:List D->FR):SF:=(aP (hZ ([0] ++ (([] ++ []) ++ [])) (sF (mZ (aA gj (ae (gv 0) (ae (f2 (gv 1) (cst (.int 0)) gN) ag)))))
 (cj (cst (.bool false)))
 kh)
 (aP (dv 2 ([0] ++ []) (aA cS (ae (gv 0) ag)))
 (cj (f1 (bL 2 [2] (.two 0 1) (ij (f2 (gv 1) (cst (.int 1)) gN)) kT (f2 (f2 (gv 2) (gv 0) gN) (f2 (gv 2) (gv 1) gN) pG)) (bX λbs=>bs.all id)))))
def jC:SF:=(cj (f1 (bL 1 [1,2] (.nm 0) (ij (gv 0)) kT (f2 (f2 (gv 0) (gv 1) gN) (f2 (gv 0) (gv 2) gN) pG)) (bX λbs=>bs.all id)))
def jI (cS cF cw:List D->FR):SF:=(aP (dv 2 ([] ++ []) (bL 1 [] (.nm 0) (ij (gv 1)) kT (aA cS (ae (gv 0) ag))))
 (cj (f1 (bL 2 [2] (.two 0 1) (ij (aA cF (ae (gv 0) ag))) (mZ (aA cw (ae (gv 2) (ae (gv 0) (ae (gv 1) ag))))) (aL (ae (gv 0) (ae (gv 1) ag)))) rV)))
def jh (cN:List D->FR):SF:=(aP (hZ ([] ++ ([] ++ [])) (o4 (sF (mZ (f1 (gv 0) (ic "list")))) (dY (f2 (f1 (gv 0) fR) (cst (.int 0)) (fN false))))
 (cj (cst (.bool false)))
 kh)
 (cj (f1 (bL 1 [1] (.nm 0) (ij (gv 0)) kT (aA cN (ae (gv 0) (ae (gv 1) ag)))) (bX λbs=>bs.all id))))
def ur (aO eJ cA:List D->FR):SF:=(aP (bu ([1] ++ []) (aA aO (ae (gv 1) ag)))
 (cj (gP (aA eJ (ae (gv 0) (ae (gv 1) ag))) (f2 (aA cA (ae (f2 (gv 1) (cst (.int 0)) gN) (ae (gv 0) ag))) (f2 (gv 1) (cst (.int 1)) gN) (fN false)))))
end RM
namespace L2
open PySem PySem.Spec PyProof.Rows
section
variable {X:Cx}{Γ:Fx}{E:XK}{m:SF}
def SR.undropN {B B':Option Addr}{G H G' H':Hp}{σ σ':St}{env env':En}{β β':Int}(I:SR Γ B G H σ env β)(J:SR (Fx.fn Γ.K H G Γ.ca) B' G' H' σ' env' β')(hf:iW env'=true):SR Γ B G' H' σ' env' β:=by
 have kp:∀b o,H b=some o->Kt H' b o:=λb o e=>J.keep b o e (by simp)
 have ks:ar H H':=kp
 refine⟨J.sub,I.old.trans J.old,λb h1 h2=>J.new b (I.thereM h1) (I.new b h1 h2),λb o h1 h2=>(I.keep b o h1 h2).step ks,λb hb=>(I.pin b hb).same (kp b),I.fix,λb e=>?_,J.len,λi s e=>?_,λi j a d e h=>?_⟩
 ·obtain⟨h1,h2,h3⟩:=I.box b e
  exact⟨kp b _ h1,J.new b (Mx.lst h1) h2,h3⟩
 ·rcases gk hf e with rfl | ⟨d,rfl⟩
  ·trivial
  ·exact J.slot i _ e
 ·rcases gk hf h with z | ⟨_,z⟩ <;> cases z
end
end L2
section
namespace PySem
open Sem (wp)
open AutoSeq1 (wpAny_loadPart')
section
variable {prog:Program}{w:World}{A:Around}{E:Value->Shared->Prop}{s:Shared}
def lA {Q:List Value->Shared->Prop}{r:Addr}{a b c:Int}{t u v:Tok}{n:Nat}(hh:A.handled=none)(hr:IsRange s.heap r a b c t u v)(hsmall:Builtin.Range.small a b c=true)
  (hn:Builtin.Range.rangeSize a b c=n) (hlen:n<=2 ^ 24)
  (hQ:∀h' tk (acc:Array Value),(∀b o',s.heap.get? b=some o'->h'.get? b=some o')->ItemsOf (λi v=>∃t,v=.int (a + i * c) t) acc n->Q acc.toList {s with heap:=h',toks:=tk}) :
  wpAny (model prog w) A (collect (.ref r)) Q E s:=by
 unfold collect
 refine Ji (wpAny_runValue (Ld F.entry_proto_collect ?_))
 rw[K3 F.plain_proto_collect _]
 show wpAny _ A.in1 (newList [] >>= λl=>again (.builtin "list.__iadd__" ⟨[l,.ref r],[]⟩)) _ _ s
 refine Ji (JU ?_)
 refine Jp ⟨plainId_quiet F.plain_list_iadd _,Ld F.entry_list_iadd ?_⟩
 rw[K3 F.plain_list_iadd _]
 show wpAny _ A.in1 (Builtin.List.listExtendWith (.ref s.heap.objs.size) (.ref r) (.ref s.heap.objs.size)) _ _ _
 have hS:(s.heap.push {cls:=.type "list",data:=.seq ([]:List Value).toArray}).get? s.heap.objs.size=some {cls:=.type "list",data:=.seq #[] 0}:=Jt _ rfl
 have fin':∀h' tk (acc':Array Value) (c':Nat),(∀b o,b≠s.heap.objs.size->(s.heap.push {cls:=.type "list",data:=.seq ([]:List Value).toArray}).get? b=some o->h'.get? b=some o)->h'.get? s.heap.objs.size=some {cls:=.type "list",dict:=none,data:=.seq acc' c',slots:=#[]}->ItemsOf (λi v=>∃t,v=.int (a + i * c) t) acc' n->
  wpAny (model prog w) A (match Value.ref s.heap.objs.size with
   |Value.ref a=>do
    match (<-load a).data with
     |Data.seq xs _=>pure xs.toList
     |_=>unsupported "internal:collect"
   |_=>unsupported "internal:collect") Q E {s with heap:=h',toks:=tk}:=by
  intro h' tk acc' c' hk hS' hacc
  show wpAny _ A (load s.heap.objs.size >>= _) _ _ _
  refine Ji (wpAny_load hS' ?_)
  refine Jp ?_
  exact hQ h' tk acc' (λb o' hb=>hk b o' (JH (Jm hb)) (Jj _ hb)) hacc
 refine J9 (wpAny_extend_range (A:=A) (R:=λr s'=>r=.ok (.ret (.ref s.heap.objs.size))/\wpAny (model prog w) A (match Value.ref s.heap.objs.size with
   |Value.ref a=>do
    match (<-load a).data with
     |Data.seq xs _=>pure xs.toList
     |_=>unsupported "internal:collect"
   |_=>unsupported "internal:collect") Q E s')
  (s:={s with heap:=s.heap.push {cls:=.type "list",data:=.seq ([]:List Value).toArray}}) hh (Jj _ hr) hsmall hn hlen _ _ 0 hS λh' tk acc' c' hk hS' hacc=>⟨rfl,fin' h' tk acc' c' hk hS' hacc⟩) (λfin s' h=>?_) (λe s' h=>?_)
 ·cases fin with
  |done f=>
   obtain⟨e,h⟩:=h
   cases e
   exact h
  |again c'=>exact⟨h.1,Kv h.2 λr s'' hr=>by obtain⟨rfl,h⟩:=hr;exact h⟩
 ·exact absurd h.1 (by simp)
end
def j8 (r:Addr)(a b c:Int)(t u v:Tok)(n:Nat)(hsmall:Builtin.Range.small a b c=true)(hn:Builtin.Range.rangeSize a b c=n)(hlen:n<=2 ^ 24) :
  Meets (Builtin.«tuple.__new__» ⟨[.type "tuple",.ref r],[]⟩)
   (λA R s=>A.handled=none/\IsRange s.heap r a b c t u v/\∀(h':Heap) tk (acc:Array Value),(∀b o',s.heap.get? b=some o'->h'.get? b=some o')->ItemsOf (λi v=>∃t,v=.int (a + i * c) t) acc n->R (.ok (.ret (.ref h'.objs.size))) {s with heap:=h'.push {cls:=.type "tuple",data:=.seq acc},toks:=tk}):=
 .of_wp λprog w A R s h=>by
  obtain⟨hp,g,d,tk,os⟩:=s;obtain⟨hh,hr,h⟩:=h
  have hsub:=sub_tuple_self
  have hinit:=init_tuple_lookup
  have hmh:=madeHere_tuple
  have hh1:A.in1.handled=none:=hh
  have hT:Shared.TypeIs ⟨hp,g,d,tk,os⟩ (.ref r) "range":=⟨_,hr,rfl⟩
  wp_walk using wpAny_loadPart' hr,wpAny_typeOf hT,lA hh1 hr hsmall hn hlen
  intro h' tk acc hk hacc
  show wpAny _ _ (Builtin.Tuple.tupleExact acc.toList.toArray >>= λv=>ret v) _ _ _
  unfold Builtin.Tuple.tupleExact
  refine Ji (JU ?_ (by show acc.toList.toArray.size<=sizeLine;simp only[Array.toArray_toList];rw[hacc.1,JL];omega))
  refine Jp ⟨_,rfl,?_⟩
  have e:acc.toList.toArray=acc:=by simp
  rw[e]
  exact h h' tk acc hk hacc
section
variable {prog:Program}{w:World}{A:Around}{E:Value->Shared->Prop}{s:Shared}
def oo {r:Addr}{a b c:Int}{t u v:Tok}{n:Nat}{Q:Value->Shared->Prop}(hh:A.handled=none)(hr:IsRange s.heap r a b c t u v)(hsmall:Builtin.Range.small a b c=true)(hn:Builtin.Range.rangeSize a b c=n)(hlen:n<=2 ^ 24)
  (h:∀(h':Heap) tk (acc:Array Value),(∀b o',s.heap.get? b=some o'->h'.get? b=some o')->ItemsOf (λi v=>∃t,v=.int (a + i * c) t) acc n->Q (.ref h'.objs.size) {s with heap:=h'.push {cls:=.type "tuple",data:=.seq acc},toks:=tk}) :
  wpAny (model prog w) A (call (.type "tuple") [.ref r]) Q E s:=
 callType_new F.called_tuple (by decide) (F.typeCall_tuple_1 _) (F.newCall_tuple_1 _) (λobj=>F.args_object_init_2 obj _) F.entry_tuple_new
  (j8 r a b c t u v n hsmall hn hlen) ⟨hh,hr,λh' tk acc hk hacc=>⟨⟨_,Jt _ rfl,rfl⟩,h h' tk acc hk hacc⟩⟩
end
end PySem
namespace L2
open PySem PySem.Spec PyProof.Rows
section
variable {K:Frag}{X:Cx}{G H:Hp}{Γ:Fx}{E:XK}{e a b c:Expr}{f fa fb fc:VF D}{L La Lb:List Nat}{md ma mb mc:Md}{pos apos cpos np:Pos}
def ra (hc:X.calm=true):cZ X (.type "tuple") (λxs H Q=>∃p n,xs= [.ref p]/\H p=some (.fo 0 n)/\0<=n/\n<=1000/\∀l,H l=none->Q (.ref l) (upd H l (.tup ((List.range n.toNat).map λ(i:Nat)=>V.int (i:Int))))):=by
 intro pins s σ H xs us Q I r h
 obtain⟨p,n,rfl,hp,h0,h1,q⟩:=h
 obtain⟨u,rfl,rx⟩:=vals1 r
 cases rx
 obtain⟨t,u,v,hr⟩:∃t u v,s.heap.get? p=some {cls:=.type "range",data:=.fields #[.int 0 t,.int n u,.int 1 v]}:=I.hok p _ hp
 have hsz:Builtin.Range.rangeSize 0 n 1=(n.toNat:Int):=by rw[rangeSize_one];split <;> omega
 refine oo (I.ok.hd hc) hr (small_one (by omega) (by omega) (by omega) (by omega)) hsz (by omega) λh' tk acc kp hacc=>?_
 have key:∀(m:Nat) (us:List Value) (j:Nat),us.length=m->(∀(i:Nat) (v:Value),us[i]? =some v->∃t,v=Value.int ((j + i:Nat):Int) t)->Vals ((List.range' j m).map λ(i:Nat)=>V.int (i:Int)) us:=by
  intro m
  induction m with
  |zero=>intro us j hl _;cases us with
   |nil=>exact .nil
   |cons a b=>simp at hl
  |succ m ih=>
   intro us j hl hh
   cases us with
   |nil=>simp at hl
   |cons u us=>
    rw[range'_succ,Kc]
    refine .cons (by have:=hh 0 u rfl;simp at this;exact this) (ih us (j + 1) (by simpa using hl) λi v hi=>?_)
    obtain⟨t,e⟩:=hh (i + 1) v (by simpa using hi)
    exact⟨t,by rw[e];congr 2;omega⟩
 have hv:Vals ((List.range n.toNat).map λ(i:Nat)=>V.int (i:Int)) acc.toList:=by
  have:=key n.toNat acc.toList 0 (by simpa using hacc.1) λi v hi=>by
   obtain⟨t,e⟩:=hacc.2 i v (by simpa using hi)
   exact⟨t,by rw[e];simp⟩
  rw[List.range_eq_range'];exact this
 have I1:Inv X pins σ H {s with heap:=h',toks:=tk}:=I.kept (t':=tk) kp
 have I2:Inv X pins σ (upd H h'.objs.size (.tup ((List.range n.toNat).map λ(i:Nat)=>V.int (i:Int)))) {s with heap:=h'.push {cls:=.type "tuple",data:=.seq acc},toks:=tk}:=
  I1.laid (t':=tk) (λb o e=>Jj _ e) (Jl _) (show bP X.prog X.w _ _ _ (.tup _) from⟨by simp;rw[JL];omega,acc.toList,hv,by simpa using mK.new _ _⟩)
 exact⟨.ref h'.objs.size,_,I2,rfl,q _ (I1.hok.fresh (Jl _))⟩
def jU:D->Option D
 | .int n=>if 0<=n/\n<=1000 then some (.tuple (cP 0 n.toNat)) else none
 |_=>none
theorem pC {p1 p2 pos2:Pos}(hc:X.calm=true)(hg:Gl X "tuple")(hm:X.mg "tuple"=none)(hg2:Gl X "range")(hm2:X.mg "range"=none)(ha:SE X Γ E a fa La ma)
  (he:starEach [a] X.env=(false,eval a X.env) :: starEach [] X.env:=by rfl)
  (he2:starEach [.Call (.Name "range" p2) [a] [] pos2] X.env=(false,eval (.Call (.Name "range" p2) [a] [] pos2) X.env) :: starEach [] X.env:=by rfl) :
  SE X Γ E (.Call (.Name "tuple" p1) [.Call (.Name "range" p2) [a] [] pos2] [] pos) (f1 fa jU) La .v:=by
 refine PE.post' (ei (ra hc) hg hm (by decide +kernel) (aj (ei tq hg2 hm2 (by decide +kernel) (aj ha aI he) (by decide) (by decide) he) aI he2) (by decide) (by decide) he2) λσ H Q ⟨env,G,B,β,I,o⟩=>?_
 refine gS (r:=λx H1 Q=>∃n:Int,[x]= [.int n]/\∀p,H1 p=none->(λ(y:V) (H2:Hp)=>∃(p:Addr) (n:Int),[y]= [V.ref p]/\H2 p=some (.fo 0 n)/\0<=n/\n<=1000/\∀l,H2 l=none->Q (.ref l) (upd H2 l (.tup ((List.range n.toNat).map λ(i:Nat)=>V.int (i:Int))))) (V.ref p) (upd H1 p (.fo 0 n))) ?_ I o
 intro B G H x dx d Q s hB bx e k
 cases dx with
 |int n=>
  obtain rfl:=bx.int
  simp only[jU] at e
  split at e
  ·rename_i hh
   cases e
   refine⟨n,rfl,λp hp=>⟨p,n,rfl,aq,hh.1,hh.2,λl hl=>?_⟩⟩
   have hlp:l≠p:=λz=>by subst z;rw[aq] at hl;cases hl
   have x1:=Ext.own s (o:=.fo 0 n) hp
   have x2:=Ext.new x1.gh (o:=.tup ((List.range n.toNat).map λ(i:Nat)=>V.int (i:Int))) hl
   exact k _ _ _ (x1.trans x2) (.tup (.inl (.inl aq)) (qp _))
  ·cases e
 |_=>cases e
end
end L2
end
namespace L2
open PySem PySem.Spec PyProof.Rows
def oR:entryFor table "proto.unchain"=some Builtin.«proto.unchain»:=entryFor_of_tree (by kernel_rfl)
def ph:plainId "proto.unchain"=true:=by decide +kernel
section
variable {prog:Program}{w:World}{A:Around}{E:Value->Shared->Prop}{s:Shared}
def AN {α:Type}{e h:Addr}{oe oh:Obj}{vs ws:Array Value}{Q:α->Shared->Prop}(hh:A.handled=some (.ref h))(ne:h≠e)(ho:s.heap.get? h=some oh)(hd:oh.data=.fields ws)(h2:ws[2]? =some .none)(he:s.heap.get? e=some oe)(hed:oe.data=.fields vs)(hs:2 < vs.size)
  (k:∀h',Heap.SameBut e s.heap h'->(∃o,h'.get? e=some o/\o.cls=oe.cls)->E (.ref e) {s with heap:=h'}):wpAny (model prog w) A (raiseNew (.ref e):Sem α) Q E s:=by
 unfold raiseNew
 refine Ji (wpAny_handled ?_)
 rw[hh]
 dsimp only
 have hne:(Value.ref h != Value.ref e)=true:=by simp[ne]
 rw[Jk hne]
 refine Ji (K4 (wpAny_runValue (Ld oR ?_)))
 rw[K3 ph _]
 show wpAny _ A.in1 (field (.ref h) 2 >>= _) _ _ s
 refine Ji (Kb ho hd (x:=.none) h2 ?_)
 show wpAny _ A.in1 (ret .none) _ _ s
 refine Jp ?_
 show wpAny _ A (updateField e 2 (.ref h) >>= _) _ _ s
 refine Ji ?_
 obtain⟨c,d,dt,sl⟩:=oe
 have hed:dt=.fields vs:=hed
 subst hed
 unfold updateField
 refine Ji (wpAny_load he ?_)
 dsimp only
 rw[Jk hs]
 refine wpAny_update he (wpAny_throw (k _ (Heap.SameBut.update ..) ⟨_,Kz _ he rfl,rfl⟩))
def AD {it h:Addr}{oh:Obj}{ws:Array Value}{x left step:Int}{Q:Option Value->Shared->Prop}(hh:A.handled=some (.ref h))(ho:s.heap.get? h=some oh)(hd:oh.data=.fields ws)(h2:ws[2]? =some .none)(hit:IsRangeIter s.heap it x left step)(hleft:left<=0)
  (hQ:∀h',Heap.ExtBut it s.heap h'->Q none {s with heap:=h'}):wpAny (model prog w) A (pyNext (.ref it)) Q E s:=by
 have hT:s.TypeIs (.ref it) "range_iterator":=⟨_,hit,rfl⟩
 unfold pyNext
 refine Ji (wpAny_attempt (KI (name:=Str.ofString "__next__") hT F.slot_range_iterator_next
  (wpAny_call_entry F.slot_range_iterator_next hT F.entry_range_iterator_next ?_ (F.args_range_iterator_next_1 _))))
 show wpAny _ _ (field (.ref it) 0 >>= _) _ _ s
 refine Ji (Kb hit rfl (x:=rawInt x) rfl ?_)
 show wpAny _ _ (field (.ref it) 1 >>= _) _ _ s
 refine Ji (Kb hit rfl (x:=rawInt left) rfl ?_)
 show wpAny _ _ (field (.ref it) 2 >>= _) _ _ s
 refine Ji (Kb hit rfl (x:=rawInt step) rfl ?_)
 show wpAny _ _ (if left<=0 then _ else _) _ _ s
 rw[Jk hleft]
 refine Ji (wpAny_rule (Ji ?_))
 show wpAny _ _ (newExc (.type "StopIteration") [] >>= _) _ _ _
 refine Ji ?_
 simp only[newExc,newTuple]
 refine Ji (JU ?_ (by size_fits))
 refine Ji (m:=firstArgMember _ _) (wpAny_of_eq (a:=Value.none) (by first |rfl | (simp only[firstArgMember];rfl)) ?_)
 refine JU ?_ (by size_fits)
 have lh:h < s.heap.objs.size:=Jm ho
 refine AN (h:=h) (show A.in1.handled=some (.ref h) from hh) (JH (Jz lh (by rw[J2];exact Nat.le_succ _))) (Jj _ (Jj _ ho)) hd h2 (Jt _ rfl) rfl (by simp;omega) λh' q1 ⟨o,q2,q3⟩=>?_
 refine Ji (wpAny_isInstance (T:="StopIteration") (b:=true) ⟨o,q2,q3⟩ isSubtype_stop (Jp (hQ _ λb ob hb e=>?_)))
 exact q1.extBut b ob (JH (Jz (Jm e) (by rw[J2];exact Nat.le_succ _))) (Jj _ (Jj _ e))
end
def sf:SF:=λ_ _=>.bad
section
variable {X:Cx}{Γ:Fx}{E:XK}
def jf {sts:List Stmt}:xj X Γ E sts sf:=λpins s σ H D I ⟨env,G,B,β,J,o⟩=>o.elim
end
def qE (X:Cx)(H:Hp):Prop:=∃(e:Addr) (cls:Value),X.A.handled=some (.ref e)/\H e=some (.ext (dQ e cls))
structure Am (P:Program)(w:World)(K:Frag)(tg:Expr)(J:It)(fp:List Addr)(it:Addr)(tn:Nat->Heap->Prop):Prop where
 mem:it∈fp
 obj:∀i h,tn i h->∀b∈fp,∃o,h.get? b=some o/\∀v,o.data≠.cell v
 keep:∀i h h',tn i h->(∀b∈fp,∀o,h.get? b=some o->h'.get? b=some o)->tn i h'
 item:∀(X:Cx),X.prog=P->X.w=w->X.K=K->∀(i:Nat) (pins:List (Addr×Obj)) (s:Shared) (σ:St) (H:Hp) (E:Value->Shared->Prop),qE X H->Inv X pins σ H s->(∀b∈fp,iN X pins H b)->tn i s.heap->J.go i H->
  wpAny (model P w) X.A (pyNext (.ref it)) (λr s1=>∃u,r=some u/\wpAny (model P w) X.A (letOwnedTupleGo tg (.ref it) u) (λ_ s2=>∃x H',Inv X pins σ H' s2/\RelV x u/\J.yld i H x H'/\tn (i + 1) s2.heap/\∀b∈fp,H' b=none) E s1) E s
 done:∀(X:Cx),X.prog=P->X.w=w->X.K=K->∀(i:Nat) (pins:List (Addr×Obj)) (s:Shared) (σ:St) (H:Hp) (E:Value->Shared->Prop),qE X H->Inv X pins σ H s->(∀b∈fp,iN X pins H b)->tn i s.heap->J.stop i H->
  wpAny (model P w) X.A (pyNext (.ref it)) (λr s1=>r=none/\Inv X pins σ H s1) E s
 self:∀(A:Around) (i:Nat) (s:Shared) (Q:Value->Shared->Prop) (E:Value->Shared->Prop),tn i s.heap->Q (.ref it) s->wpAny (model P w) A (pyIter (.ref it)) Q E s
def x9 {P:Program}{w:World}{K:Frag}{tg:Expr}(it:Addr)(lo:Int)(n:Nat):Am P w K tg (vH lo n) [it] it (λi h=>IsRangeIter h it (lo + (i:Nat)) ((n:Int) - (i:Nat)) 1) where
 mem:=by simp
 obj:=λi h st b hb=>by
  obtain rfl:b=it:=by simpa using hb
  exact⟨_,st,λv z=>by
   have z':Data.fields _=Data.cell v:=z
   cases z'⟩
 keep:=λi h h' st k=>k it (by simp) _ st
 item:=by
  intro X hP hw hK i pins s σ H E _ I hf st hg
  subst hP hw hK
  obtain⟨f0,f1,f2,f3,f4,f5⟩:=hf it (by simp)
  have hg:i < n:=hg
  refine wpAny_pyNext_range_item st (by omega) λh' st' sb=>?_
  have I1:Inv X pins σ H {s with heap:=h',toks:=s.toks + 1}:=I.turned (λb o hb e=>sb.extBut b o hb e) f0 f1 f3 f4 f5
  have st2:IsRangeIter h' it (lo + ((i + 1:Nat):Int)) ((n:Int) - ((i + 1:Nat):Int)) 1:=by
   have e1:lo + ((i + 1:Nat):Int)=lo + (i:Int) + 1:=by omega
   have e2:(n:Int) - ((i + 1:Nat):Int)=(n:Int) - (i:Int) - 1:=by omega
   rw[e1,e2];exact st'
  exact⟨_,rfl,vO (s:={s with heap:=h',toks:=s.toks + 1}) (n:="range_iterator") st2 rfl rfl (by decide) ⟨.int (lo + i),H,I1,⟨s.toks,rfl⟩,⟨rfl,rfl⟩,st2,λb hb=>(hf b hb).1⟩⟩
 done:=by
  intro X hP hw hK i pins s σ H E hr I hf st hg
  subst hP hw hK
  obtain⟨f0,f1,f2,f3,f4,f5⟩:=hf it (by simp)
  obtain⟨e,cls,hh,he⟩:=hr
  obtain⟨⟨o,vs,ho,_,_,hd,h2⟩,_⟩:=(show bP X.prog X.w H s.heap e (.ext (dQ e cls)) from I.hok e _ he)
  exact AD hh ho hd h2 st (by have:n<=i:=hg;omega) λh' eb=>⟨rfl,I.turned (t':=s.toks) (λb o hb e=>eb b o hb e) f0 f1 f3 f4 f5⟩
 self:=λ_ _ _ _ _ st h=>wpAny_pyIter_rangeiter st h
def IC (X:Cx)(pins:List (Addr×Obj))(σ:St)(tg:Expr)(R:It->Hp->Prop)(itv:Value)(s2:Shared):Prop:=
 ∃(it:Addr) (fp:List Addr) (tn:Nat->Heap->Prop) (J:It) (H':Hp),itv=.ref it/\Inv X pins σ H' s2/\Am X.prog X.w X.K tg J fp it tn/\tn 0 s2.heap/\(∀b∈fp,iN X pins H' b)/\R J H'
def Hx (X:Cx)(tg iter:Expr)(wi:TI):Prop:=
 ∀(pins:List (Addr×Obj)) (s:Shared) (σ:St) (H:Hp) (R:It->Hp->Prop),Inv X pins σ H s->wi σ H R->wpAny (model X.prog X.w) X.A (eval iter X.env) (λv s1=>wpAny (model X.prog X.w) X.A (pyIter v) (IC X pins σ tg R) X.xe s1) X.xe s
def Di (X:Cx)(own:Nat)(ixs:List Nat)(wi:TI)(g:TG)(tt:TT)(te:TE)(σ:St)(H:Hp)(Q:VK):Prop:=wi σ H λJ H1=>∀D,H1 D=none->∃W:Nat->Nat->St->Hp->Prop,(∀i m σ' H',W i m σ' H'->qE X H')/\(∃m,W 0 m (mD own ixs σ) (upd H1 D (.lst [])))/\∀i m σ' H',W i m σ' H'->
 (J.stop i H'/\(∃acc,H' D=some (.lst acc))/\Q (.ref D) H')\/
 (J.go i H'/\∃N:St->Hp->Prop,(∀σ2 H2,N σ2 H2->∃m',m' < m/\W (i + 1) m' σ2 H2)/\∀x H2,J.yld i H' x H2->g x σ' H2 λσ3 H3=>tt σ3 H3 λb H4=>
  if b=true then te σ3 H4 λv H5=>∃acc,H5 D=some (.lst acc)/\acc.length < sizeLine/\N σ3 (upd H5 D (.lst (acc ++ [v]))) else N σ3 H4)
section
variable {X:Cx}{tg:Expr}
theorem vU {a:Expr}{ta:TA}{p pos:Pos}(hg:Gl X "range")(hm:X.mg "range"=none)(ha:PA X [a] ta)(hs:starEach [a] X.env= [(false,eval a X.env)]:=by rfl):Hx X tg (.Call (.Name "range" p) [a] [] pos) (CP ta):=by
 intro pins s σ H R I h
 refine Call_ (kR I hg hm boot_range (Kf (bW (ha pos pins s σ H _ I h) λus s1 ⟨vs,H1,I1,r1,q1⟩=>?_) hs rfl))
 obtain⟨j,e,q1,q2,q⟩:=q1
 subst e
 cases r1 with
 |cons r rr=>
  cases rr
  obtain⟨t,rfl⟩:=r
  refine call_range_1 (wpAny_pyIter_range (IsRange.new ..) (small_one (by omega) (by omega) q1 q2) ?_)
  have sz:∀(h:Heap) (o:Obj),h.objs.size<=(h.push o).objs.size:=λh o=>by rw[J2];omega
  refine⟨_,[_],_,_,H1,rfl,I1.kept λb o e=>Jj _ (Jj _ e),x9 _ 0 j.toNat,?_,λb hb=>?_,q⟩
  ·have e1:(0:Int) + ((0:Nat):Int)=0:=by simp
   have e2:((j.toNat:Nat):Int) - ((0:Nat):Int)=Builtin.Range.rangeSize 0 j 1:=by rw[rangeSize_one];split <;> omega
   show IsRangeIter _ _ ((0:Int) + ((0:Nat):Int)) (((j.toNat:Nat):Int) - ((0:Nat):Int)) 1
   rw[e1,e2]
   exact Jt _ rfl
  ·rw[JS] at hb
   subst hb
   exact I1.fpOk (sz _ _) (I1.hok.fresh (sz _ _))
end
section
variable {X:Cx}{NB:List Str}{own:Nat}{ixs:List Nat}{scope:Scope}{elt tg iter:Expr}{ifs:List Expr}{pos:Pos}{wi:TI}{g:TG}{tt:TT}{te:TE}
def vM (S:bG X NB own ixs scope)
  (hg:∀C ex s3 H3 pn,PG (dF X NB scope C ex s3 H3 pn) tg g) (ht:∀C ex s3 H3 pn,vh (dF X NB scope C ex s3 H3 pn) ifs tt) (he:∀C ex s3 H3 pn,PE (dF X NB scope C ex s3 H3 pn) elt te)
  {pins:List (Addr×Obj)} {σ:St} {H1:Hp} {s2:Shared} {it:Addr} {fp:List Addr} {tn:Nat->Heap->Prop} {J:It} {Q:VK} (I2:Inv X pins σ H1 s2) (T:Am X.prog X.w X.K tg J fp it tn) (st2:tn 0 s2.heap) (f2:∀b∈fp,iN X pins H1 b)
  (hQ:∀D,H1 D=none->∃W:Nat->Nat->St->Hp->Prop,(∀i m σ' H',W i m σ' H'->qE X H')/\(∃m,W 0 m (mD own ixs σ) (upd H1 D (.lst [])))/\∀i m σ' H',W i m σ' H'->
   (J.stop i H'/\(∃acc,H' D=some (.lst acc))/\Q (.ref D) H')\/
   (J.go i H'/\∃N:St->Hp->Prop,(∀σ2 H2,N σ2 H2->∃m',m' < m/\W (i + 1) m' σ2 H2)/\∀x H2,J.yld i H' x H2->g x σ' H2 λσ3 H3=>tt σ3 H3 λb H4=>
    if b=true then te σ3 H4 λv H5=>∃acc,H5 D=some (.lst acc)/\acc.length < sizeLine/\N σ3 (upd H5 D (.lst (acc ++ [v]))) else N σ3 H4))
  {E:Value->Shared->Prop} {RR:Value->Addr->Result->Shared->Prop}
  (fin:∀D C H' s' m,Inv X pins σ H' s'->Q (.ref D) H'->s'.heap.Ns C m->H' C=none->C≠X.env.locals->(∀x c,X.env.cells.lookup x=some c->c≠C)->X.s₀.heap.objs.size<=C->(∀p∈X.pn ++ pins,p.1≠C)->RR (.ref D) C (.ok .next) s') :
  wpAny (model X.prog X.w) X.A (newList []) (λacc s3=>wpAny (model X.prog X.w) X.A (newFunctionEnv scope X.env.globals (kE X.env.cells scope.names []) [] X.env.qual none .none (some X.env)) (λcenv s4=>
   codeAny (model X.prog X.w) X.A (.compStart (.ListComp elt [⟨tg,iter,ifs,0⟩] scope pos) 0 (.ref it) acc {cenv with scope:=relabel scope X.env}) (RR acc cenv.locals) s4) E s3) E s2:=by
 refine wpAny_newList ?_ (JY _)
 have hD:H1 s2.heap.objs.size=none:=I2.hok.fresh (Jl _)
 obtain⟨W,wr,⟨m0,w0⟩,turn⟩:=hQ s2.heap.objs.size hD
 generalize hs3:({s2 with heap:=s2.heap.push (seqObj "list" ([]:List Value).toArray 0)}:Shared)=s3
 have I3:Inv X pins σ (upd H1 s2.heap.objs.size (.lst [])) s3:=by
  rw[<-hs3]
  exact I2.lnew (ys:=[]) (its:=[]) (t':=s2.toks) .nil (JY _)
 have k3:∀b o,s2.heap.get? b=some o->s3.heap.get? b=some o:=λb o e=>by rw[<-hs3];exact Jj _ e
 have sz3:s3.heap.objs.size=s2.heap.objs.size + 1:=by rw[<-hs3];exact J2 ..
 have ob2:∀b∈fp,∃o,s2.heap.get? b=some o:=λb hb=>let ⟨o,e,_⟩:=T.obj 0 _ st2 b hb;⟨o,e⟩
 have neD:∀b∈fp,b≠s2.heap.objs.size:=λb hb=>let ⟨o,e⟩:=ob2 b hb;JH (Jm e)
 have f3:∀b∈fp,iN X pins (upd H1 s2.heap.objs.size (.lst [])) b:=λb hb=>by
  obtain⟨a1,a2⟩:=f2 b hb
  exact⟨by rw[aw (neD b hb)];exact a1,a2⟩
 have st3:tn 0 s3.heap:=T.keep _ _ _ st2 λb _ o e=>k3 b o e
 refine wD λh4 hn4 k4 ok4=>?_
 have I4:Inv (dF X NB scope s3.heap.objs.size fp s3 (upd H1 s2.heap.objs.size (.lst [])) (X.pn ++ pins)) [] (mD own ixs σ) (upd H1 s2.heap.objs.size (.lst [])) {s3 with heap:=h4}:=
  qg S I3 f3 (λb hb=>let ⟨o,e⟩:=ob2 b hb;⟨o,k3 _ _ e⟩) hn4 k4 ok4
 have st4:tn 0 h4:=T.keep _ _ _ st3 λb _ o e=>k4 b o e
 generalize hB:dF X NB scope s3.heap.objs.size fp s3 (upd H1 s2.heap.objs.size (.lst [])) (X.pn ++ pins)=B at I4
 have hgB:PG B tg g:=by rw[<-hB];exact hg _ _ _ _ _
 have htB:vh B ifs tt:=by rw[<-hB];exact ht _ _ _ _ _
 have heB:PE B elt te:=by rw[<-hB];exact he _ _ _ _ _
 have eP:B.prog=X.prog:=by rw[<-hB];rfl
 have eW:B.w=X.w:=by rw[<-hB];rfl
 have eK:B.K=X.K:=by rw[<-hB];rfl
 have eA:B.A=X.A:=by rw[<-hB];rfl
 have eC:∀{H':Hp},qE X H'->qE B H':=λ{H'} h=>by unfold qE at h ⊢;rw[eA];exact h
 have eX:B.xe=λ_ _=>False:=by rw[<-hB];rfl
 have eE:B.env=compEnvC scope (xW X scope s3.heap.objs.size) s3.heap.objs.size X.env:=by rw[<-hB];rfl
 have ex:B.ex=fp:=by rw[<-hB];rfl
 have eL:B.env.locals=s3.heap.objs.size:=by rw[eE];rfl
 have stat:∀{H':Hp},(∀b∈fp,H' b=none)->∀b∈fp,iN B [] H' b:=λ{H'} hn b hb=>by
  obtain⟨a1,a2,a3,a4,a5,a6⟩:=f3 b hb
  obtain⟨o,eo⟩:=ob2 b hb
  refine⟨hn b hb,?_,λz=>?_,.inl (by rw[ex];exact hb),λx c e z=>?_,λp hp z=>?_⟩
  ·rw[eL];exact JH (Jm (k3 _ _ eo))
  ·have hz:b∈dG X.stack:=by rw[<-hB] at z;exact z
   rcases Jn.mp (I3.stkSub b hz) with q |q
   ·exact a2 q
   ·exact a3 q
  ·rw[eE] at e
   have e:(xW X scope s3.heap.objs.size).lookup x=some c:=e
   unfold xW at e
   rw[jA,Lk] at e
   cases q:(cellsFrom (s3.heap.objs.size + 1) scope.names []).lookup x with
   |some c'=>
    rw[q] at e
    cases e
    have l1:=(lM (JW q)).1
    rw[z] at l1
    exact JJ _ (KG l1 (Jm (k3 _ _ eo)))
   |none=>
    rw[q] at e
    have e:(kE X.env.cells scope.names []).lookup x=some c:=e
    rcases j3 e with⟨m1,m2⟩ |m1
    ·obtain⟨c',e'⟩:=I3.ok.has x (S.frees _ m1 rfl)
     rw[e'] at m2
     exact a5 x c' e' (by rw[<-z,m2];rfl)
    ·simp at m1
  ·have hp':p∈X.pn ++ pins:=by
    rw[<-hB] at hp
    rcases JT.mp hp with q |q
    ·exact q
    ·cases q
   exact a6 p hp' z
 have back:∀{σ':St} {H':Hp} {s':Shared},Inv B [] σ' H' s'->Inv X pins σ H' s':=λ{σ' H' s'} J'=>by
  have u:=J'.base
  have os:=J'.os
  have bare:=J'.bare
  have hok:=J'.hok
  subst hB
  exact I3.call' (ch:=fp) os u hok bare λb hb=>by
   obtain⟨a1,a2,a3,a4,a5,a6⟩:=f3 b hb
   exact⟨a4,a2,a5,a6⟩
 have loop:∀s5:Shared,s5={s3 with heap:=h4}->
   codeAny (model X.prog X.w) X.A (.compLoop (.ListComp elt [⟨tg,iter,ifs,0⟩] scope pos) 0 (.ref it) (.ref s2.heap.objs.size) (compEnvC scope (xW X scope s3.heap.objs.size) s3.heap.objs.size X.env)) (RR (.ref s2.heap.objs.size) s3.heap.objs.size) s5:=by
  rintro s5 rfl
  refine qh (λn s'=>∃i σ' H',Inv B [] σ' H' s'/\tn i s'.heap/\(∀b∈fp,H' b=none)/\W i n σ' H') ?_ m0 ⟨0,_,_,I4,st4,λb hb=>(f3 b hb).1,w0⟩
  rintro n s6 ⟨i,σ6,H6,I6,st6,fr6,w6⟩
  rcases turn i n σ6 H6 w6 with⟨stop,⟨acc,hacc⟩,qn⟩ | ⟨go,N,hN,step⟩
  ·have:=T.done B eP eW eK i [] s6 σ6 H6 (λ_ _=>False) (eC (wr _ _ _ _ w6)) I6 (stat fr6) st6 stop
   rw[eA] at this
   refine bW this λr s7 ⟨hr,I7⟩=>?_
   subst hr
   obtain⟨m7,hn7,_⟩:=I7.loc
   rw[eL] at hn7
   have J7:=back I7
   refine fin _ _ H6 s7 m7 J7 qn hn7 (by rw[<-eL];exact I7.free) (λz=>?_) (λx c e z=>?_) ?_ λp hp z=>?_
   ·have:=I3.lt
    rw[<-z] at this
    exact JJ _ this
   ·obtain⟨v,o,ho,_⟩:=I3.cell x c e
    exact absurd (Jm ho) (by rw[z];exact JJ _)
   ·exact I3.sz
   ·have:=Jm (I3.pin p hp).1
    rw[z] at this
    exact JJ _ this
  ·have hitem:=T.item B eP eW eK i [] s6 σ6 H6 (λ_ _=>False) (eC (wr _ _ _ _ w6)) I6 (stat fr6) st6 go
   rw[eA] at hitem
   refine bW hitem λr s7 ⟨u,hr,h7⟩=>?_
   subst hr
   refine bW h7 λ_ s8 ⟨x,H8,I8,r8,y8,st8,fr8⟩=>?_
   have I8':=I8.pinned (stat fr8) (T.obj _ _ st8)
   have ha:=hgB _ s8 σ6 H8 x u _ I8' r8 (step x H8 y8)
   rw[eP,eW,eA,eE,eX] at ha
   refine bW ha λ_ s9 ⟨σ9,H9,I9,q9⟩=>?_
   have hb:=htB _ s9 σ9 H9 _ I9 q9
   rw[eP,eW,eA,eE,eX] at hb
   refine bW hb λok s10 ⟨H10,I10,q10⟩=>?_
   have again:∀{σ7:St} {H7:Hp} {s7:Shared},Inv B ([] ++ lX fp s8.heap) σ7 H7 s7->N σ7 H7->∃m,m < n/\∃i σ' H',Inv B [] σ' H' s7/\tn i s7.heap/\(∀b∈fp,H' b=none)/\W i m σ' H':=λ{σ7 H7 s7} I7 n7=>by
    obtain⟨m',hm,w7⟩:=hN σ7 H7 n7
    refine⟨m',hm,i + 1,σ7,H7,I7.unpinned,T.keep _ _ _ st8 λb hb o e=>(I7.pin (b,o) (JK _ (JK _ (eQ hb e)))).1,λb hb=>?_,w7⟩
    obtain⟨o,e,d⟩:=T.obj _ _ st8 b hb
    exact (I7.pin (b,o) (JK _ (JK _ (eQ hb e)))).2.1
   cases ok with
   |false=>
    simp only[Kw,K1] at q10 ⊢
    exact again I10 q10
   |true=>
    simp only[Km] at q10 ⊢
    have hv:=heB _ s10 σ9 H10 _ I10 q10
    rw[eP,eW,eA,eE,eX] at hv
    refine bW hv λy s11 ⟨v,H11,I11,r11,acc,hacc,hz,q11⟩=>?_
    have hap:=j0 (X:=B) _ s11 σ9 H11 (.ref s2.heap.objs.size) [v] (.ref s2.heap.objs.size) [y] (λz H'=>z=.non/\N σ9 H') I11 rfl (.cons r11 .nil) ⟨_,acc,v,rfl,rfl,hacc,hz,rfl,q11⟩
    rw[eP,eW,eA,eX] at hap
    exact bW hap λ_ s12 ⟨_,H12,I12,_,_,q12⟩=>again I12 q12
 exact codeAny_compStart_list (loop _ rfl) (T.self X.A 0 _ _ _ st4 (loop _ rfl))
def xq (S:bG X NB own ixs scope)(hi:Hx X tg iter wi)
  (hg:∀C ex s3 H3 pn,PG (dF X NB scope C ex s3 H3 pn) tg g) (ht:∀C ex s3 H3 pn,vh (dF X NB scope C ex s3 H3 pn) ifs tt) (he:∀C ex s3 H3 pn,PE (dF X NB scope C ex s3 H3 pn) elt te)
  (hs:∀x,foldedSetIterable iter X.env x=pure x:=by intro _;rfl) :
  PE X (.ListComp elt [⟨tg,iter,ifs,0⟩] scope pos) (Di X own ixs wi g tt te):=by
 intro pins s σ H Q I h
 rw[eval_ListComp]
 refine Lm (use:=none) rfl hs (kB λy hy e=>I.ok.has _ (S.frees y hy e)) S.kind (λy hy e=>by rw[S.names y hy,e]) ?_
 refine bW (hi pins s σ H _ I h) λv s1 h1=>bW h1 λitv s2 h2=>?_
 obtain⟨it,fp,tn,J,H2,e,I2,T,st2,f2,q2⟩:=h2
 subst e
 refine vM S hg ht he I2 T st2 f2 q2 (RR:=λacc C=>compPost (model X.prog X.w) X.A X.xe none (EP X pins σ Q) acc C) λD C H' s' m J' q hn hC n1 n2 n3 n4=>?_
 refine⟨m,hn,λh'' sb=>⟨.ref D,H',?_,rfl,q⟩⟩
 exact J'.turned (t':=s'.toks) (it:=C) (λb o hb e=>sb.extBut b o hb e) hC n1 (.inr n3) n2 n4
end
def mE {M:Model}{A:Around}{E:Value->Shared->Prop}{s:Shared}{env:Env}{n:Str}{c:Addr}{v:Value}{Q:Unit->Shared->Prop}(hl:env.kindOf n=some .cell)(hc:env.cells.lookup n=some c)(hv:s.heap.IsCell c (some v))
  (h:∀h',h'.IsCell c none->Heap.SameBut c s.heap h'->Q () {s with heap:=h'}):wpAny M A (unbindName env n) Q E s:=by
 unfold unbindName
 refine Ji (wpAny_point (Ji ?_))
 unfold deleteName
 simp only[hl]
 refine Ji (wpAny_cellOf hc (Ji (wpAny_cellGet hv ?_)))
 simp only[Option.isSome_some,Km]
 exact wpAny_cellSet hv λh' h1 h2=>wpAny_point (h h' h1 h2)
section
variable {X:Cx}{pins:List (Addr×Obj)}{σ:St}{H:Hp}{s:Shared}
def uG {M:Model}{A:Around}{E:Value->Shared->Prop}{i:Nat}{x:Str}{v:V}{Q:Unit->Shared->Prop}(I:Inv X pins σ H s)(hN:X.N.Nodup)(hi:X.N[i]? =some x)(hk:X.env.scope.names.lookup x=some .cell)(hfn:X.fn x=true)(hv:σ[i]? =some (some v))
  (h:∀s',Inv X pins (σ.set i none) H s'->Q () s'):wpAny M A (unbindName X.env x) Q E s:=by
 obtain⟨m,hn,hl⟩:=id I.loc
 have cne:=I.cne
 obtain⟨u,_,look⟩:=hl i x v hi hv (.inr (.inl hk))
 obtain⟨c,hc,z⟩:∃c,X.env.cells.lookup x=some c/\s.heap.IsCell c (some u):=by
  rcases look with⟨q,_⟩ | ⟨_,c,q,z⟩
  ·have hk':X.env.kindOf x=some .cell:=hk
   rw[hk'] at q;cases q
  ·exact⟨c,q,z⟩
 refine mE hk hc z λh' hc' hs=>?_
 obtain⟨oc,hoc,hocd⟩:=id z
 have tracked:ju X.prog X.w H h':=jO I.hok λb o q hu=>(hs.2 b (λz=>by obtain⟨w',hw⟩:=hu;rw[z,I.freeC x c hc] at hw;cases hw)).trans q
 refine h {s with heap:=h'} ⟨I.ok,I.os,I.bare,⟨λb o e n hb hx=>?_,λb o e n hb hx=>?_,I.base.free,λb o e hx=>?_,I.base.tups,I.base.frzs,I.base.tbls⟩,⟨m,hn.sameBut hs (Ne.symm (cne x c hc)),λj y v' e1 e2 e3=>?_⟩,λy c' e=>?_,I.free,I.freeC,λp hp=>?_,tracked,by simpa using I.len⟩
 ·exact (hs.2 b (JH (Jz (Jm e) (I.ok.cab x c hfn hc)))).trans (I.base.keep b o e n hb hx)
 ·obtain⟨sl,e1⟩:=I.base.slot b o e n hb hx
  exact⟨sl,(hs.2 b (JH (Jz (Jm e) (I.ok.cab x c hfn hc)))).trans e1⟩
 ·obtain⟨o',e1⟩:=I.base.there b o e hx
  exact⟨o',(hs.2 b (JH (Jz (Jm e) (I.ok.cab x c hfn hc)))).trans e1⟩
 ·by_cases hj:j=i
  ·subst hj
   rw[Jq (by rw[I.len];exact (Jw.mp hi).1)] at e2
   cases e2
  ·rw[Js (Ne.symm hj)] at e2
   obtain⟨u',r',q⟩:=hl j y v' e1 e2 e3
   refine⟨u',r',?_⟩
   rcases q with q | ⟨k,c',e,z'⟩
   ·exact .inl q
   ·refine .inr ⟨k,c',e,z'.sameBut hs ?_⟩
    rintro rfl
    exact hj (lF hN e1 (I.ok.inj _ _ _ e hc▸hi))
 ·by_cases hcc:c'=c
  ·subst hcc;exact⟨_,hc'⟩
  ·obtain⟨w2,z2⟩:=I.cell y c' e
   exact⟨w2,z2.sameBut hs hcc⟩
 ·obtain⟨e,n,ne,nf,d⟩:=I.pin p hp
  refine⟨(hs.2 p.1 ?_).trans e,n,ne,nf,d⟩
  intro q
  rw[q,hoc] at e
  have q':oc=p.2:=Option.some.inj e
  exact d _ (by rw[<-q'];exact hocd)
def uK {M:Model}{A:Around}{E:Value->Shared->Prop}{i:Nat}{x:Str}{v:V}{Q:Unit->Shared->Prop}(I:Inv X pins σ H s)(hN:X.N.Nodup)(hi:X.N[i]? =some x)(hk:Loc X.env.scope x)(hf:X.fn x=true\/X.env.scope.names.lookup x=some .local)(hv:σ[i]? =some (some v))
  (h:∀s',Inv X pins (σ.set i none) H s'->Q () s'):wpAny M A (unbindName X.env x) Q E s:=by
 rcases hk with hk |hk
 ·exact yh I hN hi hk hv h
 ·refine uG I hN hi hk ?_ hv h
  rcases hf with z |z
  ·exact z
  ·rw[z] at hk;cases hk
end
section
variable {X:Cx}
def Cg {n x:Str}{i:Nat}{Dc:Addr}{np hpos pos:Pos}{body suite:List Stmt}{b0:Stmt}{tb:XK->TS}{th:Addr->TS}(hst:X.stack=X.env :: X.outer)(hfr:X.env.frame=some X.env.locals)(hex:X.ex= [])
  (hb:∀Eb Ex pn,Passes (kU X.prog X.w) (X.inTry Ex pn) Eb->me (X.inTry Ex pn) body (tb Eb)) (hs:∀e,me (X.inEx e) (b0 :: suite) (th e)) (hg:Gl X x) (hm:X.mg x=some (.ref Dc)) (hN:X.N.Nodup) (hi:X.N[i]? =some n) (hk:Loc X.env.scope n) (hf:X.fn n=true\/X.env.scope.names.lookup n=some .local)
  (hdb:(x == ("__debug__":Str))=false:=by decide) :
  PS X (.Try body [.ExceptHandler (some (.Name x np)) (some n) (b0 :: suite) hpos] [] [] pos) (Hm X.K Dc i X.N.length tb th):=by
 intro pins s σ H D I h
 obtain⟨Eb,h1,h2⟩:=h
 refine wpAny_Try_except ?_
 refine J9 (hb Eb (λe s₁=>wpAny (model X.prog X.w) X.A (noteFrame e X.env) (λ_ s₂=>wpAny (model X.prog X.w) X.A (setFlight e none) (λ_ s₃=>wpAny (model X.prog X.w) X.A (handleBy e X.env [.ExceptHandler (some (.Name x np)) (some n) (b0 :: suite) hpos]) (SP X pins D) X.xe s₃) X.xe s₂) X.xe s₁) (X.pn ++ pins) ?_ [] s σ H D (I.toTry _) h1) (λf s1 q=>?_) λe s1 q=>q
 ·intro pins2 σ2 H2 s2 e s3 I2 hcx
  obtain⟨ea,cls,H',rfl,os,bare,un,hok,Ly,q⟩:=hcx
  have I3:Inv X pins σ2 H' s3:=(I2.call' os un hok bare (λb hb=>absurd hb (by simp))).ofTry
  have I2':Inv X pins σ2 H2 s2:=I2.ofTry
  have nil:∀b:Addr,b∉X.ex:=λb=>by rw[hex];simp
  obtain⟨mt,hth⟩:=h2 cls none H' q
  obtain⟨fr,nw,T,rc,hHT,hnT⟩:=Ly
  obtain⟨oe,vs,oT,ts,he,hc,hdd,hd,hv1,hv2,hTe,hT,hdT,hv3⟩:=id rc
  have old:∀{b:Addr},s2.heap.get? b=none->X.s₀.heap.get? b=none:=λ{b} hb=>by
   cases z:X.s₀.heap.get? b with
   |none=>rfl
   |some o=>obtain⟨o',z'⟩:=I2'.base.there b o z (nil b);rw[hb] at z';cases z'
  have hpn:∀p∈X.pn ++ pins,p.1≠ea/\p.1≠T:=λp hp=>by
   have:=(I2'.pin p hp).1
   exact⟨λz=>by (rw[z,nw] at this;cases this),λz=>by (rw[z,hnT] at this;cases this)⟩
  have hfn:=I3.stack
  have mem:∀{b:Addr},b∈dG X.stack->∃o,s3.heap.get? b=some o/\∀ws,o.data≠.fields ws:=λ{b} hb=>(hfn.mem hb).2
  have tF:T∉dG X.stack:=λz=>by
   obtain⟨o,q,n⟩:=mem z
   rw[hT] at q;cases q;exact n _ hdT
  have hfn':s3.heap.FunFrames X.base (X.env :: X.outer):=by rw[<-hst];exact hfn
  have step:∀{h':Heap} {tk:Nat},Keeps (dG X.stack) [ea,T] s3.heap h'->Slots (dG X.stack) s3.heap h'->Inv X pins σ2 H' {s3 with heap:=h',toks:=tk}:=λ{h' tk} kp sl=>by
   have kept:∀b o,s3.heap.get? b=some o->b∉dG X.stack->b≠ea->b≠T->h'.get? b=some o:=λb o q hb n1 n2=>kp b o q hb (by simp[n1,n2])
   refine I3.exc hex he hd hT hdT (old nw) (old hnT) hpn kept sl (jO I3.hok λb o q hu=>?_)
   obtain⟨u,hu⟩:=hu
   refine kept b o q (λz=>?_) (λz=>?_) λz=>?_
   ·rw[I3.stkFree b z] at hu;cases hu
   ·rw[z,fr] at hu;cases hu
   ·rw[z,hHT] at hu;cases hu
  have hfr':X.A.frames=some (X.env :: X.outer):=by rw[<-hst];exact I3.ok.frames
  have more:∀{h4 h5:Heap} {T2:Addr},(s3.heap.get? T2=none\/T2=T)->Keeps [] [T2] h4 h5->Keeps (dG X.stack) [ea,T] s3.heap h4->Slots (dG X.stack) s3.heap h4->Keeps (dG X.stack) [ea,T] s3.heap h5/\Slots (dG X.stack) s3.heap h5:=λ{h4 h5 T2} tn k5 kp sl=>by
   have nT:∀b o,s3.heap.get? b=some o->b≠T->b≠T2:=λb o q n z=>by
    rcases tn with tn |tn
    ·rw[z,tn] at q;cases q
    ·exact n (z.trans tn)
   refine⟨λb o q hb hn=>k5 b o (kp b o q hb hn) (by simp) ?_,λb o q hb=>?_⟩
   ·simp only[Jn,JG,J3,not_or] at hn
    simp[nT b o q hn.2]
   ·obtain⟨x,q4⟩:=sl b o q hb
    exact⟨x,k5 b _ q4 (by simp) (by simp[nT b o q λz=>tF (z▸hb)])⟩
  have key:∀{h5:Heap} {T2:Addr},(s3.heap.get? T2=none\/T2=T)->Rc h5 ea cls T2 .none->Keeps (dG X.stack) [ea,T] s3.heap h5->Slots (dG X.stack) s3.heap h5->wpAny (model X.prog X.w) X.A (handleBy (.ref ea) X.env [.ExceptHandler (some (.Name x np)) (some n) (b0 :: suite) hpos]) (SP X pins D) X.xe {s3 with heap:=h5}:=λ{h5 T2} tn rc5 kp5 sl5=>by
   have I5:Inv X pins σ2 H' {s3 with heap:=h5}:=step (tk:=s3.toks) kp5 sl5
   obtain⟨oe5,vs5,he5,hc5,_,_⟩:=rc5.isExc
   refine wpAny_handleBy_cons (codeAny_handlers_test (j5 (X:=X.inEx ea) (I5.toEx ea) hg hm ?_ hdb)) (by intro q;cases q)
   refine mt I5.kIn he5 hc5 ?_
   refine codeAny_handlers_suite_as (mU (s:={s3 with heap:=h5}) rc5 λh6 k6 rc6=>?_)
   obtain⟨kp6,sl6⟩:=more tn k6 kp5 sl5
   have I6:Inv X pins σ2 H' {s3 with heap:=h6}:=step (tk:=s3.toks) kp6 sl6
   have eL:ea≠X.env.locals:=λz=>by
    obtain⟨m,⟨o,es,ep,ho,hdd,r⟩,_⟩:=I3.loc
    rw[<-z,he] at ho;cases ho
    rw[hd] at hdd;cases hdd
   have eC:∀y c,X.env.cells.lookup y=some c->c≠ea:=λy c q z=>by
    obtain⟨v,o,ho,hdd⟩:=I3.cell y c q
    rw[z,he] at ho;cases ho
    rw[hd] at hdd;cases hdd
   have I7:=I6.track (cls:=cls) rc6.isExc fr (old nw) eL eC λp hp=>(hpn p hp).1
   refine iJ I7 hN hi hk (v:=.ref ea) rfl (λs8 I8=>?_) hf
   refine J9 (hs ea pins s8 _ _ (Cy i D) (I8.toEx ea) (hth ea σ2 fr I3.len)) (λf s9 q9=>?_) λ_ _ z=>z.elim
   have back:∀{σ9:St} {H9:Hp} {Q:Unit->Shared->Prop},Inv (X.inEx ea) pins σ9 H9 s9->(∀s',Inv X pins ((σ9.set i (some .non)).set i none) H9 s'->Q () s')->wpAny (model X.prog X.w) X.A (do bindName X.env n .none;unbindBehindTheSuite X.env n hpos) Q X.xe s9:=λ{σ9 H9 Q} I9 hQ=>by
    refine Ji (wpAny_bindName (iJ (I9.ofEx I.ok) hN hi hk (v:=.non) rfl (λs10 I10=>?_) hf))
    have hl:i < σ9.length:=by rw[I9.len];exact (Jw.mp hi).1
    exact wpAny_onRaise (uK (v:=.non) I10 hN hi hk hf (by rw[Jq hl]) hQ)
   cases f with
   |next=>obtain⟨σ9,H9,I9,q⟩:=q9;exact back I9 λs' I'=>⟨_,H9,I',q⟩
   |brk=>obtain⟨σ9,H9,I9,q⟩:=q9;exact back I9 λs' I'=>⟨_,H9,I',q⟩
   |cont=>obtain⟨σ9,H9,I9,q⟩:=q9;exact back I9 λs' I'=>⟨_,H9,I',q⟩
   |ret u=>obtain⟨v,σ9,H9,I9,r,q⟩:=q9;exact back I9 λs' I'=>⟨v,_,H9,I',r,q⟩
  refine qm hfr' hfn' hfr rc λh4 T2 kp4 sl4 tn rc4=>mU (s:={s3 with heap:=h4}) rc4 λh5 k5 rc5=>?_
  rw[<-hst] at kp4 sl4
  obtain⟨kp5,sl5⟩:=more tn k5 kp4 sl4
  exact key tn rc5 kp5 sl5
 ·cases f with
  |next=>exact K8 (SP.ofTry q)
  |brk=>exact SP.ofTry q
  |cont=>exact SP.ofTry q
  |ret u=>exact SP.ofTry q
end
structure qr (P:Program)(w:World)(K:Frag)(mg:Str->Option Value)(base:Heap)(CX:rj)(k:Nat)(f:Addr)(fd:FuncData)(ps:List Str)(sp:Addr->Sp):Prop where
 len:∀x0 vs H Q E,sp x0 vs H Q E->vs.length=ps.length
 run:∀(x0:Addr) (A:Around) (outer:List Env) (s:Shared) (H:Hp) (args:Args) (us:List Value) (vs:List V) (Q:VK) (E:XK),fO k A->A.handled=some (.ref x0)->tE P w K mg base A outer s H->BindsTo s fd args (ps.zip us)->Vals vs us->sp x0 vs H Q E->
  codeAny (model P w) A (.call (.ref f) args) (CR CX outer P w H s Q E) s
section
variable {P:Program}{w:World}{K:Frag}{mg:Str->Option Value}{base:Heap}
theorem wY.okE {x qual:Str}{st:Stmt}{f:Addr}{fd:FuncData}{N ps:List Str}{k:Nat}{sp:Addr->Sp}(F:wY K x qual st f fd)(S:aC N ps (ai st))(len:∀e0 vs H Q E,sp e0 vs H Q E->vs.length=ps.length)
  (hbody:∀(e0:Addr) (cdv:Value) (A:Around) (outer:List Env) (s:Shared) (H:Hp) (vs:List V) (Q:VK) (E:XK),fO k (A.deeper (envOfC qual (ai st) s.heap.objs.size f cdv))->A.handled=some (.ref e0)->sp e0 vs H Q E->
   ∃t,me (ny pB P w K mg base N qual (ai st) f cdv A outer s H E).nox (cO st) t/\t {nx:=λ_ H'=>Q .non H',rt:=Q} (start N vs) H):qr P w K mg base pB (k + 1) f fd ps sp:=by
 obtain⟨oc,od,kV,doc,pm,an,cdv,ct,osl,rfl,lk,hcd⟩:=F.ex
 refine⟨len,λx0 A outer s H args us vs Q E hr hh e0 hb r hsp=>?_⟩
 have hl:=len _ _ _ _ _ hsp
 have KX:K.In s.heap:=e0.mod.kin.keeps λb o e=>(e0.bs b o e).1
 have lim:s.heap.NoLimit:=e0.mod.nolimit.keeps λb o e=>(e0.bs b o e).1
 have hkind:∀y∈ps.zip us,(ai st).names.lookup y.1=some .local\/((ai st).names.lookup y.1=some .cell/\((cellsFrom (s.heap.objs.size + 1) (ai st).names []).lookup y.1).isSome=true):=λ⟨n,v⟩ hy=>by
  rcases S.par n (K9 hy).1 with q |q
  ·exact .inl q
  ·exact .inr ⟨q,Ks _ _ _ (.inl q)⟩
 have hdep:A.depth < recursionLimit:=by have:=hr.dp;omega
 refine codeAny_call_function hdep (KX _ _ lk) rfl S.co S.gen rfl (PySem.W.codeRec_of KX hcd) (hb _ _ _ _ ?_)
 refine K5 S.kind hkind λenv he s1 x=>?_
 subst he
 refine⟨lim.keeps x.toInCall.keep,codeAny_func ?_⟩
 obtain⟨t,ht,hq⟩:=hbody x0 cdv A outer s H vs Q E (hr.deeper _) hh hsp
 have I:Inv (ny pB P w K mg base N qual (ai st) f cdv A outer s H E) [] (start N vs) H s1:=nM S e0 hl r x
 refine J9 (ht.nox [] s1 (start N vs) H _ I hq) (λfl s' hs=>?_) λe s' hs=>hs
 have fin:∀{σ':St} {H':Hp} {v:V} {u:Value},Inv (ny pB P w K mg base N qual (ai st) f cdv A outer s H E) [] σ' H' s'->RelV v u->Q v H'->CE outer P w H s Q u s':=
  λ{σ' H' v u} J rv q=>⟨v,H',J.os,J.bare,J.base,J.hok,rv,q⟩
 cases fl with
 |ret u=>
  obtain⟨v,σ',H',J,rv,q⟩:=hs
  exact fin J rv q
 |next=>
  obtain⟨σ',H',J,q⟩:=hs
  exact fin (v:=V.non) (u:=Value.none) J rfl q
 |brk=>
  obtain⟨_,_,_,q⟩:=hs
  exact False.elim q
 |cont=>
  obtain⟨_,_,_,q⟩:=hs
  exact False.elim q
end
section
variable {X:Cx}{CX:rj}{k:Nat}{f:Addr}{fd:FuncData}{ps:List Str}{sp:Sp}{dvs:List V}{ds:List Value}{E:XK}{x:Str}{p pos:Pos}{e:Expr}{es:List Expr}{t:TA}
theorem zY {spE:Addr->Sp}{x0:Addr}(F:qr X.prog X.w X.K X.mg X.base CX k f fd ps spE)(hr:fO k X.A)(hh:X.A.handled=some (.ref x0))(hg:Gl X x)(hm:X.mg x=some (.ref f))(hk:PySem.W.keepIn X.K (.ref f)=true)(hb:Binds X.K fd ps ds)(hd:Vals dvs ds)(hx:Passes CX X E)
  (ha:PA X (e :: es) t) (hdb:(x == ("__debug__":Str))=false:=by decide) (he:starEach (e :: es) X.env=(false,eval e X.env) :: starEach es X.env:=by rfl) (hpl:(backTo pos (starEach es X.env)).any (·.1)=false:=by rfl) :
  PE X (.Call (.Name x p) (e :: es) [] pos) (yR (spE x0) dvs E t):=by
 intro pins s σ H Q I h
 refine KL (j5 I hg hm ?_ hdb)
 refine PySem.W.callWith_K (h₀:=X.base) I.ok.mod.kin hk (bW (ha pos pins s σ H _ I h) λus s1 ⟨vs,H1,I1,r,q⟩=>⟨I1.kIn,?_⟩) he hpl
 have r2:Vals (vs ++ dvs) (us ++ ds):=r.append hd
 have hl:(us ++ ds).length=ps.length:=by rw[<-r2.length];exact F.len _ _ _ _ _ q
 refine wpAny_call (Kv (F.run x0 X.A X.stack s1 H1 ⟨us,[]⟩ (us ++ ds) (vs ++ dvs) Q E hr hh I1.env0 (hb s1 us I1.kIn hl) r2 q) λr s' hq=>?_)
 cases r with
 |error e=>exact hx pins σ H1 s1 e s' I1 hq
 |ok fl=>
  cases fl with
  |ret u=>exact I1.after hq
  |next=>exact False.elim hq
  |brk=>exact False.elim hq
  |cont=>exact False.elim hq
end
def yT (X:Cx)(J:It)(own:Nat)(ixs:List Nat)(g:TG)(tt:TT)(te:TE)(Q:VK)(D:Addr)(σ:St)(H:Hp):Prop:=∃W:Nat->Nat->St->Hp->Prop,(∀i m σ' H',W i m σ' H'->qE X H')/\(∃m,W 0 m (mD own ixs σ) (upd H D (.lst [])))/\∀i m σ' H',W i m σ' H'->
   (J.stop i H'/\(∃acc,H' D=some (.lst acc))/\Q (.ref D) H')\/
   (J.go i H'/\∃N:St->Hp->Prop,(∀σ2 H2,N σ2 H2->∃m',m' < m/\W (i + 1) m' σ2 H2)/\∀x H2,J.yld i H' x H2->cJ g tt te D x σ' H2 N)
structure xG (X:Cx)(own:Nat)(ixs:List Nat)(wi:TI)(g:TG)(tt:TT)(te:TE)(σ:St)(H:Hp)(Q:VK):Prop where
 out:wi σ H λJ H1=>∀D,H1 D=none->yT X J own ixs g tt te Q D σ H1
def tH {X:Cx}{NB:List Str}{own:Nat}{ixs:List Nat}{scope:Scope}{tg iter elt:Expr}{ifs:List Expr}{wi:TI}{g:TG}{tt:TT}{te:TE}{pos:Pos}(S:bG X NB own ixs scope)(hi:Hx X tg iter wi)
  (hg:∀C ex s3 H3 pn,PG (dF X NB scope C ex s3 H3 pn) tg g) (ht:∀C ex s3 H3 pn,vh (dF X NB scope C ex s3 H3 pn) ifs tt) (he:∀C ex s3 H3 pn,PE (dF X NB scope C ex s3 H3 pn) elt te)
  (hs:∀x,foldedSetIterable iter X.env x=pure x:=by intro _;rfl):PE X (.ListComp elt [⟨tg,iter,ifs,0⟩] scope pos) (xG X own ixs wi g tt te):=
 λpins s σ H Q I h=>xq S hi hg ht he hs pins s σ H Q I h.out
def l8 {X:Cx}{own:Nat}{ixs:List Nat}{g:TG}{tt:TT}{te:TE}{Q:VK}{D:Addr}{σ:St}{H:Hp}{lo:Int}{n:Nat}(Pv:Nat->St->Hp->Prop)(hr:∀i σ H,Pv i σ H->qE X H)(h0:Pv 0 (mD own ixs σ) (upd H D (.lst [])))
  (hs:∀i σ H,i < n->Pv i σ H->cJ g tt te D (.int (lo + i)) σ H (Pv (i + 1))) (hd:∀σ H,Pv n σ H->(∃acc,H D=some (.lst acc))/\Q (.ref D) H) :
  yT X (vH lo n) own ixs g tt te Q D σ H:=by
 refine⟨λi m σ H=>m=n - i/\i<=n/\Pv i σ H,λi m σ' H' h=>hr _ _ _ h.2.2,⟨n,by simp,JY _,h0⟩,?_⟩
 rintro i m σ H ⟨rfl,hi,p⟩
 by_cases hlt:i < n
 ·refine .inr ⟨hlt,Pv (i + 1),λσ' H' p'=>⟨n - (i + 1),by omega,rfl,hlt,p'⟩,λx H' y=>?_⟩
  obtain⟨e,y⟩:=y
  subst e y
  exact hs i σ _ hlt p
 ·have e:i=n:=by omega
  subst e
  exact .inl ⟨Jl _,hd σ H p⟩
def ET (W:Addr->Nat->Prop):Addr->Sp:=λx0 vs H Q _=>∃(D:Addr) (j p:Nat),vs= [.ref x0,.int p]/\p < 16/\H x0=some (.ext (dQ x0 (.ref D)))/\W D j/\∀H',ar H H'->Q (.bl (decide (p=j))) H'
def tm (marks:Str->Option Nat)(m:SF):SF:=λenv β=>if iW env=true then (match m env 0 with
 | .rt d fr _=>.rt d fr β
 | .exc c=>(match marks c with
  |some j=>.rt (.list [.int (j:Int)]) true β
  |none=>.bad)
 | .nx e _=>if iW e=true then .nx e β else .bad
 |_=>.bad) else .bad
section
variable {X:Cx}{Γ:Fx}{E:XK}{m:SF}
def zd {n x y z:Str}{i k c16:Nat}{Dc gm:Addr}{dm:FuncData}{W:Addr->Nat->Prop}{marks:Str->Option Nat}{np hpos pos cp fp ap rp p1 p2 p3 p4 p5 zp lp:Pos}{scope:Scope}{body:List Stmt}(hb:∀Eb Ex pn H G,Passes (kU X.prog X.w) (X.inTry Ex pn) Eb->xj (X.inTry Ex pn) (Fx.fn Γ.K H G Γ.ca) Eb body m)
  (hM:qr X.prog X.w X.K X.mg X.base pB k gm dm ["e","place"] (ET W)) (hr:∀e,fO k (X.inEx e).A) (hmg:X.mg y=some (.ref gm)) (hkp:PySem.W.keepIn X.K (.ref gm)=true) (hbi:Binds X.K dm ["e","place"] [])
  (hw:∀c j,marks c=some j->Mt X.K (.ref (Γ.ca c)) Dc/\W (Γ.ca c) j/\j < 16)
  (hm:X.mg x=some (.ref Dc)) (hN:X.N.Nodup) (hrg:X.mg "range"=none) (S:∀e,bG (X.inEx e) [z,n] 1 [i] scope)
  (hG:∀e C ex s3 H3 pn,PG (dF (X.inEx e) [z,n] scope C ex s3 H3 pn) (.Name z p2) (jr 0))
  (h0:∀e C ex s3 H3 pn (p:Pos),PE (dF (X.inEx e) [z,n] scope C ex s3 H3 pn) (.Name z p) (yj 0))
  (h1:∀e C ex s3 H3 pn,PE (dF (X.inEx e) [z,n] scope C ex s3 H3 pn) (.Name n ap) (yj 1))
  (hgy:∀e C ex s3 H3 pn,Gl (dF (X.inEx e) [z,n] scope C ex s3 H3 pn) y:=by intros;rfl) (hgr:∀e,Gl (X.inEx e) "range":=by intros;rfl)
  (hst:X.stack=X.env :: X.outer:=by rfl) (hfr:X.env.frame=some X.env.locals:=by rfl) (hex:X.ex= []:=by rfl) (hg:Gl X x:=by rfl) (hi:X.N[i]? =some n:=by rfl) (hk:Loc X.env.scope n:=by exact Or.inr rfl) (hf:X.fn n=true\/X.env.scope.names.lookup n=some .local:=by exact Or.inl rfl)
  (hdb:(x == ("__debug__":Str))=false:=by decide) (hdy:(y == ("__debug__":Str))=false:=by decide) :
  SS X Γ E (.Try body [.ExceptHandler (some (.Name x np)) (some n) [.Return (some (.ListComp (.Name z p1) [⟨.Name z p2,.Call (.Name "range" p3) [.Constant (.int 16) c16 p4] [] p5,[.Call (.Name y fp) [.Name n ap,.Name z zp] [] cp],0⟩] scope lp)) rp] hpos] [] [] pos) (tm marks m):=by
 have hbU:∀Eb Ex pn,Passes (kU X.prog X.w) (X.inTry Ex pn) Eb->me (X.inTry Ex pn) body (λD σ H=>∃H0 G0,sT (Fx.fn Γ.K H0 G0 Γ.ca) Eb m D σ H):=λEb Ex pn hp pins s σ H D I ⟨H0,G0,q⟩=>hb Eb Ex pn H0 G0 hp pins s σ H D I q
 have hsU:∀e,me (X.inEx e) [.Return (some (.ListComp (.Name z p1) [⟨.Name z p2,.Call (.Name "range" p3) [.Constant (.int 16) c16 p4] [] p5,[.Call (.Name y fp) [.Name n ap,.Name z zp] [] cp],0⟩] scope lp)) rp] _:=λe=>dk (hX (tH (S e) (vU (hgr e) hrg (aj lI aI)) (hG e)
  (λC ex s3 H3 pn=>rG (lU (zY (x0:=e) hM (hr e) rfl (hgy e C ex s3 H3 pn) hmg hkp hbi .nil Ai (aj (h1 e C ex s3 H3 pn) (aj (h0 e C ex s3 H3 pn zp) aI)) hdy rfl rfl) λ_=>rfl)) λC ex s3 H3 pn=>h0 e C ex s3 H3 pn p1))
 refine PS.post (Cg (i:=i) hst hfr hex hbU hsU hg hm hN hi hk hf hdb) λN σ H ⟨env,G,B,β,I,o⟩=>?_
 unfold tm at o
 by_cases hf:iW env=true
 case neg=>rw[Ju hf] at o;exact o.elim
 rw[Jk hf] at o
 refine⟨λcls _ H'=>∃c j,cls=.ref (Γ.ca c)/\marks c=some j/\ar H H'/\m env 0=.exc c,⟨H,G,env,G,none,0,I.drop hf,?_⟩,?_⟩
 ·cases q:m env 0 with
  |nx e b=>
   rw[q] at o
   dsimp only at o
   by_cases hf2:iW e=true
   case neg=>rw[Ju hf2] at o;exact o.elim
   rw[Jk hf2] at o
   intro B' G' H' σ' J s
   exact o B G' H' σ' (I.undropN J hf2) s
  |bk e b=>rw[q] at o;exact o.elim
  |ct e b=>rw[q] at o;exact o.elim
  |bad=>rw[q] at o;exact o.elim
  |rt d fr b=>
   rw[q] at o
   intro B' G' H' σ' env' v J s rv
   refine o B G' H' σ _ v (I.undrop J) s ?_
   unfold RV at rv ⊢
   cases fr with
   |false=>exact rv
   |true=>
    rw[Jk rfl] at rv ⊢
    obtain⟨a,rfl,h1,h2,h3⟩:=rv
    exact⟨a,rfl,(I.fresh h1).1,h2,h3⟩
  |exc c=>
   rw[q] at o
   intro H' kp
   cases q2:marks c with
   |none=>dsimp only at o;rw[q2] at o;exact o.elim
   |some z=>exact⟨c,z,rfl,q2,λb u e=>kp b u e (by simp),rfl⟩
 ·rintro cls d H' ⟨c,j,rfl,q2,s',q⟩
  rw[q] at o
  dsimp only at o
  rw[q2] at o
  obtain⟨w1,w2,hj⟩:=hw c j q2
  refine⟨w1,λea σ' hea hlen=>?_⟩
  have hil:i < σ'.length:=by rw[hlen];exact (Jw.mp hi).1
  refine⟨⟨16,rfl,by omega,by omega,λD' hD=>?_⟩⟩
  have sx:=s'.trans (ar.new (o:=.ext (dQ ea (.ref (Γ.ca c)))) hea)
  have nf:∀x y,upd H' ea (.ext (dQ ea (.ref (Γ.ca c)))) D'≠some (.a7 x y):=λx y z=>by rw[hD] at z;cases z
  refine l8 (lo:=0) (n:=16) (λa σ2 H2=>(∃v,σ2= [v,some (.ref ea)])/\ar (upd H' ea (.ext (dQ ea (.ref (Γ.ca c))))) H2/\H2 D'=some (.lst (if j < a then [.int (j:Int)] else []))) ?_ ?_ ?_ ?_
  ·exact λa σ2 H2 h=>⟨ea,.ref (Γ.ca c),rfl,h.2.1 _ _ aq⟩
  ·refine⟨⟨none,?_⟩,λb u e=>hW ((ar.refl _) b u e) (aE e hD) nf,aq⟩
   show [none,((σ'.set i (some (.ref ea)))[i]?).join]=_
   rw[Jq hil];rfl
  ·rintro a σ2 H2 ha ⟨⟨v,rfl⟩,s2,hv⟩
   unfold cJ jr
   refine⟨_,rfl,_,rfl,Γ.ca c,j,a,by rw[Ka];rfl,ha,s2 _ _ aq,w2,λH3 s3=>⟨_,rfl,?_⟩⟩
   have hv3:H3 D'=some (.lst (if j < a then [.int (j:Int)] else [])):=s3 _ _ hv
   have s4:=s2.trans s3
   show if decide (a=j)=true then _ else _
   by_cases ce:a=j
   ·rw[Jk (Jv ce)]
    subst ce
    rw[Ju (JJ a)] at hv3
    refine⟨_,rfl,_,hv3,by rw[JL];simp,⟨_,rfl⟩,λb u e=>hW (s4 b u e) (aE e hD) (λx y z=>by rw[hv3] at z;cases z),?_⟩
    rw[aq,Jk (Nat.lt_succ_self a),Ka];rfl
   ·rw[Ju (by simpa using ce)]
    refine⟨⟨_,rfl⟩,s4,?_⟩
    rw[hv3]
    by_cases c2:j < a
    ·rw[Jk c2,Jk (by omega)]
    ·rw[Ju c2,Ju (by omega)]
  ·rintro σ2 H2 ⟨_,s2,hv⟩
   refine⟨⟨_,hv⟩,?_⟩
   rw[Jk hj] at hv
   have hH:H D'=none:=sx.free hD
   refine o B G H2 σ _ (.ref D') (I.forget (sx.trans s2)) (ar.refl _) ?_
   unfold RV
   rw[Jk rfl]
   exact⟨D',rfl,(I.fresh hH).1,(I.fresh hH).2.1,_,hv,.cons (.int _) .nil⟩
structure GQ (P:Program)(w:World)(K:Frag)(mg:Str->Option Value)(base:Heap)(ca:Str->Addr)(x y:Str)(marks:Str->Option Nat):Prop where
 ex:∃(gm Dc:Addr) (dm:FuncData) (W:Addr->Nat->Prop),qr P w K mg base pB 2 gm dm ["e","place"] (ET W)/\mg y=some (.ref gm)/\PySem.W.keepIn K (.ref gm)=true/\Binds K dm ["e","place"] []/\mg x=some (.ref Dc)/\∀c j,marks c=some j->Mt K (.ref (ca c)) Dc/\W (ca c) j/\j < 16
def Bg {n x y z:Str}{i k c16:Nat}{marks:Str->Option Nat}{np hpos pos cp fp ap rp p1 p2 p3 p4 p5 zp lp:Pos}{scope:Scope}{body:List Stmt}(M:GQ X.prog X.w X.K X.mg X.base Γ.ca x y marks)(hr:dX (k + 2) X.A)(hb:∀Eb Ex pn H G,Passes (kU X.prog X.w) (X.inTry Ex pn) Eb->xj (X.inTry Ex pn) (Fx.fn Γ.K H G Γ.ca) Eb body m)
  (hN:X.N.Nodup) (hrg:X.mg "range"=none) (S:∀e,bG (X.inEx e) [z,n] 1 [i] scope) (nd:([z,n]:List Str).Nodup)
  (hlz:∀e C ex s3 H3 pn,(dF (X.inEx e) [z,n] scope C ex s3 H3 pn).env.scope.names.lookup z=some .local:=by intros;rfl)
  (hvn:∀e C ex s3 H3 pn,uf (dF (X.inEx e) [z,n] scope C ex s3 H3 pn).env.scope n:=by intros;exact Or.inr (Or.inl rfl))
  (hgy:∀e C ex s3 H3 pn,Gl (dF (X.inEx e) [z,n] scope C ex s3 H3 pn) y:=by intros;rfl) (hgr:∀e,Gl (X.inEx e) "range":=by intros;rfl)
  (hst:X.stack=X.env :: X.outer:=by rfl) (hfr:X.env.frame=some X.env.locals:=by rfl) (hex:X.ex= []:=by rfl) (hg:Gl X x:=by rfl) (hi:X.N[i]? =some n:=by rfl) (hk:Loc X.env.scope n:=by exact Or.inr rfl) (hf:X.fn n=true\/X.env.scope.names.lookup n=some .local:=by exact Or.inl rfl)
  (hdb:(x == ("__debug__":Str))=false:=by decide) (hdy:(y == ("__debug__":Str))=false:=by decide) (hzd:(z == ("__debug__":Str))=false:=by decide) (hzc:(z == ("__classdict__":Str))=false:=by decide) (hnd:(n == ("__debug__":Str))=false:=by decide) (hnc:(n == ("__classdict__":Str))=false:=by decide) :
  SS X Γ E (.Try body [.ExceptHandler (some (.Name x np)) (some n) [.Return (some (.ListComp (.Name z p1) [⟨.Name z p2,.Call (.Name "range" p3) [.Constant (.int 16) c16 p4] [] p5,[.Call (.Name y fp) [.Name n ap,.Name z zp] [] cp],0⟩] scope lp)) rp] hpos] [] [] pos) (tm marks m):=by
 obtain⟨gm,Dc,dm,W,h1,h2,h3,h4,h5,h6⟩:=M.ex
 exact zd (i:=i) hb h1 (λe=>(hr.mono (by omega)).mark _) h2 h3 h4 h6 h5 hN hrg S (λe C ex s3 H3 pn=>cu (i:=0) nd rfl (Or.inl (hlz e C ex s3 H3 pn)) (hf:=Or.inr (hlz e C ex s3 H3 pn))) (λe C ex s3 H3 pn p=>gC (i:=0) rfl (Or.inl (hlz e C ex s3 H3 pn)) hzd hzc) (λe C ex s3 H3 pn=>gC (i:=1) rfl (hvn e C ex s3 H3 pn) hnd hnc) hgy hgr hst hfr hex hg hi hk hf hdb hdy
end
end L2
namespace RM
open PySem L2
def bN (bF bC:List D->FR):SF:=(aP (bu ([0] ++ ([1] ++ [])) (aA bF (ae (gv 0) (ae (gv 1) ag))))
 (bu ((([] ++ []) ++ ([] ++ [])) ++ []) (aA bC (ae (f2 (f2 (gv 0) (cst (.int 0)) gN) (f2 (gv 1) (cst (.int 0)) gN) cD) ag))))
def gW (aF:List D->FR):SF:=(aP (bu ([0] ++ ([1] ++ [])) (aA aF (ae (gv 0) (ae (gv 1) ag))))
 sf)
def hJ (aF:List D->FR):SF:=(aP (bu ([0] ++ ([1] ++ [])) (aA aF (ae (gv 0) (ae (gv 1) ag))))
 sf)
def a9 (bF aG bC:List D->FR):SF:=(aP (bu ([0] ++ ([2] ++ [])) (aA bF (ae (gv 0) (ae (gv 2) ag))))
 (aP (bu ([0] ++ ([1] ++ [])) (aA aG (ae (gv 0) (ae (gv 1) ag))))
 (bu (((([] ++ []) ++ ([] ++ [])) ++ []) ++ []) (aA bC (ae (f2 (f2 (f2 (gv 0) (cst (.int 0)) gN) (f2 (gv 2) (cst (.int 0)) gN) cD) (cst (.int 1)) CC) ag)))))
def jg (aW:List D->FR):SF:=(aP (bu ([0] ++ ([1] ++ ([2] ++ []))) (aA aW (ae (gv 0) (ae (gv 1) (ae (gv 2) ag)))))
 sf)
def gp (aG:List D->FR):SF:=(aP (bu ([0] ++ ([1] ++ [])) (aA aG (ae (gv 0) (ae (gv 1) ag))))
 (aP (hZ (([] ++ []) ++ []) (dY (f2 (f2 (gv 0) (cst (.int 0)) gN) (cst (.int 1)) (fN false)))
 (λenv β=>toS ((ae (cst (.str "the order has this thing alone")) ag) (vl env) β) λds _=>if ds.length<=sizeLine then .exc "Bare" else .bad)
 kh)
 sf))
def gV (kz:List D->FR):SF:=(aP (hZ ([2] ++ ([0] ++ [])) (sF (mZ (aA kz (ae (gv 2) (ae (gv 0) ag)))))
 (λenv β=>toS ((ae (cst (.str "these are no rows that tell the first order")) ag) (vl env) β) λds _=>if ds.length<=sizeLine then .exc "NoRows" else .bad)
 kh)
 (hZ ([3] ++ ([1] ++ [])) (sF (mZ (aA kz (ae (gv 3) (ae (gv 1) ag)))))
 (λenv β=>toS ((ae (cst (.str "these are no rows that tell the other order")) ag) (vl env) β) λds _=>if ds.length<=sizeLine then .exc "NoRows" else .bad)
 kh))
def fj (aF aX:List D->FR):SF:=(aP (bu ([0] ++ ([1] ++ [])) (aA aF (ae (gv 0) (ae (gv 1) ag))))
 (aP (bu ([0] ++ ([1] ++ ([2] ++ ([3] ++ [])))) (aA aX (ae (gv 0) (ae (gv 1) (ae (gv 2) (ae (gv 3) ag))))))
 sf))
def fk (aF aX:List D->FR):SF:=(aP (bu ([0] ++ ([1] ++ [])) (aA aF (ae (gv 0) (ae (gv 1) ag))))
 (aP (bu ([0] ++ ([1] ++ ([2] ++ ([3] ++ [])))) (aA aX (ae (gv 0) (ae (gv 1) (ae (gv 2) (ae (gv 3) ag))))))
 sf))
def c6 (aW aX:List D->FR):SF:=(aP (bu ([0] ++ ([1] ++ ([2] ++ []))) (aA aW (ae (gv 0) (ae (gv 1) (ae (gv 2) ag)))))
 (aP (bu ([0] ++ ([2] ++ ([3] ++ ([4] ++ [])))) (aA aX (ae (gv 0) (ae (gv 2) (ae (gv 3) (ae (gv 4) ag))))))
 sf))
def df (aB:List D->Int->FB):SF:=(aP (dv 1 ([] ++ ([] ++ (([] ++ ([] ++ [])) ++ (([] ++ ([] ++ [])) ++ (([] ++ ((([] ++ ([] ++ [])) ++ []) ++ [])) ++ (([] ++ ((([] ++ ([] ++ [])) ++ (([] ++ ([] ++ [])) ++ [])) ++ [])) ++ (([] ++ ((([] ++ ([] ++ [])) ++ (([] ++ ([] ++ [])) ++ [])) ++ [])) ++ (([] ++ ([] ++ [])) ++ [])))))))) (bz (ae (cst .none) (ae (aL ag) (ae (aL (ae (cst (.int 0)) (ae (aL ag) ag))) (ae (aL (ae (cst (.int 9)) (ae (aL ag) ag))) (ae (aL (ae (cst (.int 2)) (ae (aL (ae (aL (ae (cst (.int 0)) (ae (cst (.int 2)) ag))) ag)) ag))) (ae (aL (ae (cst (.int 3)) (ae (aL (ae (aL (ae (cst (.int 0)) (ae (cst (.int 1)) ag))) (ae (aL (ae (cst (.int 1)) (ae (cst (.int 2)) ag))) ag))) ag))) (ae (aL (ae (cst (.int 2)) (ae (aL (ae (aL (ae (cst (.int 0)) (ae (cst (.int 1)) ag))) (ae (aL (ae (cst (.int 1)) (ae (cst (.int 0)) ag))) ag))) ag))) (ae (bz (ae (cst (.int 1)) (ae (aL ag) ag))) ag))))))))))
 (aP (dv 1 ([] ++ (([] ++ ([] ++ [])) ++ (([] ++ ((([] ++ ([] ++ [])) ++ []) ++ [])) ++ (([] ++ ((([] ++ ([] ++ [])) ++ []) ++ [])) ++ (([] ++ ((([] ++ ([] ++ [])) ++ (([] ++ ([] ++ [])) ++ (([] ++ ([] ++ [])) ++ []))) ++ [])) ++ ([] ++ (([] ++ ([] ++ ([] ++ []))) ++ []))))))) (f2 (gv 1) (bz (ae (aL (ae (cst (.bool true)) (ae (aL ag) ag))) (ae (aL (ae (cst (.int 2)) (ae (bz (ae (aL (ae (cst (.int 0)) (ae (cst (.int 1)) ag))) ag)) ag))) (ae (aL (ae (cst (.int 1)) (ae (aL (ae (aL (ae (cst (.int 0)) (ae (cst (.int 0)) ag))) ag)) ag))) (ae (aL (ae (cst (.int 3)) (ae (aL (ae (aL (ae (cst (.int 1)) (ae (cst (.int 2)) ag))) (ae (aL (ae (cst (.int 0)) (ae (cst (.int 1)) ag))) (ae (aL (ae (cst (.int 0)) (ae (cst (.int 2)) ag))) ag)))) ag))) (ae (cst (.str "1")) (ae (aL (ae (cst (.int 1)) (ae (aL ag) (ae (aL ag) ag)))) ag))))))) B4))
 (cj (f2 (gv 1) (j9 0 aB (ae (cst (.int 14)) ag)) gN))))
def fQ (dB dD cM cK eV b7 gu:List D->FR):SF:=(hZ ([] ++ []) (dY (f2 (gv 0) (cst (.int 0)) (fN false)))
 (bu ([1] ++ ([3] ++ [])) (aA dB (ae (gv 1) (ae (gv 3) ag))))
 (hZ ([] ++ []) (dY (f2 (gv 0) (cst (.int 1)) (fN false)))
 (bu ([1] ++ ([3] ++ [])) (aA dD (ae (gv 1) (ae (gv 3) ag))))
 (hZ ([] ++ []) (dY (f2 (gv 0) (cst (.int 2)) (fN false)))
 (bu ([1] ++ ([3] ++ ([4] ++ ([5] ++ [])))) (aA cM (ae (gv 1) (ae (gv 3) (ae (gv 4) (ae (gv 5) ag))))))
 (hZ ([] ++ []) (dY (f2 (gv 0) (cst (.int 3)) (fN false)))
 (bu ([1] ++ ([3] ++ ([4] ++ ([5] ++ [])))) (aA cK (ae (gv 1) (ae (gv 3) (ae (gv 4) (ae (gv 5) ag))))))
 (hZ ([] ++ []) (dY (f2 (gv 0) (cst (.int 4)) (fN false)))
 (bu ([1] ++ ([2] ++ ([3] ++ []))) (aA eV (ae (gv 1) (ae (gv 2) (ae (gv 3) ag)))))
 (hZ ([] ++ []) (dY (f2 (gv 0) (cst (.int 5)) (fN false)))
 (bu ([1] ++ ([2] ++ ([3] ++ ([4] ++ ([5] ++ []))))) (aA b7 (ae (gv 1) (ae (gv 2) (ae (gv 3) (ae (gv 4) (ae (gv 5) ag)))))))
 (bu ([1] ++ ([2] ++ [])) (aA gu (ae (gv 1) (ae (gv 2) ag))))))))))
def dM (marks:Str->Option Nat)(cT:List D->FR):SF:=(aP (tm marks (bu ([0] ++ ([1] ++ ([2] ++ ([3] ++ ([4] ++ ([5] ++ [])))))) (aA cT (ae (gv 0) (ae (gv 1) (ae (gv 2) (ae (gv 3) (ae (gv 4) (ae (gv 5) ag)))))))))
 (p9 (bz ag)))
def de (aB:List D->Int->FB):SF:=(aP (dv 2 ([] ++ []) (f1 (f2 (gv 1) (cst (.int 0)) gN) jU))
 (cj (f2 (bz (ae (bz ag) (ae (cst .none) (ae (aL (ae (gv 2) ag)) (ae (bz (ae (yU (gv 2) (EV (cst (.int 1))) (λ_ β=>.ok none β)) ag)) (ae (bz (ae (f2 (gv 2) (aL (ae (cst (.int 0)) ag)) qq) ag)) (ae (bz (ae (f1 (gv 2) wR) ag)) (ae (bz (ae (cst (.int 0)) ag)) ag)))))))) (j9 0 aB (ae (cst (.int 7)) ag)) gN)))
def wX (eB bD aS:List D->FR)(cG b6 aB bK:List D->Int->FB):SF:=(aP (iS (.nm 1) ([] ++ ([] ++ [])) (gz (f2 (cst (.int 1)) (f2 (f1 (gv 0) fR) (cst (.int 5)) (uF λi j=>.int (if j < i then j else i))) (uF λi j=>.int (if j > i then j else i))))
 (aP (wz 2 ([0] ++ ([1] ++ [])) (su eB (ae (gv 0) (ae (gv 1) ag))))
 (aP (wH 3 4 ([] ++ []) ([] ++ []) (j9 2 cG (ae (cst (.int 4)) ag)) (j9 2 cG (ae (cst (.int 4)) ag)))
 (aP (dv 5 [] (j9 2 b6 ag))
 (aP (dv 6 ((([] ++ []) ++ ([] ++ ([] ++ ([] ++ ([] ++ (([] ++ []) ++ (([] ++ []) ++ []))))))) ++ ([] ++ [])) (f2 (bz (ae (f2 (gv 3) (cst (.int 0)) gN) (ae (f1 (cst (.int 1)) DS) (ae (cst (.bool true)) (ae (cst .none) (ae (cst (.str "0")) (ae (aL (ae (cst (.int 0)) ag)) (ae (f2 (cst (.int 10)) (cst (.int 30)) A8) ag)))))))) (j9 2 aB (ae (cst (.int 7)) ag)) gN))
 (aP (dv 7 ([] ++ ([] ++ [])) (aL (ae (cst (.int 8)) (ae (aL ag) ag))))
 (aP (dv 8 ([] ++ (([] ++ (([] ++ []) ++ [])) ++ [])) (aL (ae (cst (.int 8)) (ae (aA bD (ae (cst (.int 8)) (ae (bz (ae (f1 (cst (.int 8)) jU) ag)) ag))) ag))))
 (aP (dv 9 ([3] ++ []) (j9 2 bK (ae (gv 3) ag)))
 (aP (iS (.nm 10) [] (gz (cst (.int 7)))
 (aP (hZ (([10] ++ ([5] ++ ([6] ++ ([5] ++ ([9] ++ ([9] ++ [])))))) ++ ([] ++ [])) (dY (f2 (aA aS (ae (gv 10) (ae (gv 5) (ae (gv 6) (ae (gv 5) (ae (gv 9) (ae (gv 9) ag))))))) (bz (ae (cst (.int 0)) ag)) (fN true)))
 (cj (cst (.bool false)))
 kh)
 (aP (hZ (([] ++ []) ++ (([10] ++ ([3] ++ ([] ++ ([5] ++ ([9] ++ ([9] ++ [])))))) ++ ([] ++ []))) (uQ (dY (f2 (gv 10) (cst (.int 4)) pG)) (dY (f2 (aA aS (ae (gv 10) (ae (gv 3) (ae (cst (.int 0)) (ae (gv 5) (ae (gv 9) (ae (gv 9) ag))))))) (bz (ae (cst (.int 0)) ag)) (fN true))))
 (cj (cst (.bool false)))
 kh)
 (aP (hZ (([] ++ []) ++ (([10] ++ ([3] ++ ([6] ++ ([4] ++ ([9] ++ ([9] ++ [])))))) ++ ([] ++ []))) (uQ (dY (f2 (gv 10) (cst (.int 3)) Ek)) (dY (f2 (aA aS (ae (gv 10) (ae (gv 3) (ae (gv 6) (ae (gv 4) (ae (gv 9) (ae (gv 9) ag))))))) (bz (ae (cst (.int 4)) ag)) (fN true))))
 (cj (cst (.bool false)))
 kh)
 (aP (hZ (([] ++ ([] ++ ([] ++ []))) ++ (([10] ++ ([3] ++ ([6] ++ ([5] ++ ([9] ++ ([9] ++ [])))))) ++ ([] ++ []))) (uQ (dY (f2 (gv 10) (aL (ae (cst (.int 4)) (ae (cst (.int 5)) ag))) (Cb false))) (dY (f2 (aA aS (ae (gv 10) (ae (gv 3) (ae (gv 6) (ae (gv 5) (ae (gv 9) (ae (gv 9) ag))))))) (bz (ae (cst (.int 0)) ag)) (fN true))))
 (cj (cst (.bool false)))
 kh)
 (hZ ([] ++ ([] ++ ([] ++ ([] ++ [])))) (dY (f2 (gv 10) (aL (ae (cst (.int 2)) (ae (cst (.int 3)) (ae (cst (.int 5)) ag)))) (Cb false)))
 (aP (dv 11 ([4] ++ []) (j9 2 bK (ae (gv 4) ag)))
 (hZ (([10] ++ ([3] ++ ([] ++ ([4] ++ ([9] ++ ([11] ++ [])))))) ++ ([] ++ [])) (dY (f2 (aA aS (ae (gv 10) (ae (gv 3) (ae (cst (.int 0)) (ae (gv 4) (ae (gv 9) (ae (gv 11) ag))))))) (bz (ae (cst (.int 6)) ag)) (fN true)))
 (cj (cst (.bool false)))
 kh))
 kh))))))
 (aP (iS (.nm 10) [] (gz (cst (.int 4)))
 (hZ (([10] ++ ([3] ++ ([] ++ ((([7] ++ ([8] ++ [])) ++ ([] ++ [])) ++ ([9] ++ ([9] ++ [])))))) ++ ([] ++ [])) (dY (f2 (aA aS (ae (gv 10) (ae (gv 3) (ae (cst (.int 0)) (ae (f2 (bz (ae (gv 7) (ae (gv 8) ag))) (j9 2 aB (ae (cst (.int 2)) ag)) gN) (ae (gv 9) (ae (gv 9) ag))))))) (bz (ae (cst (.int 12)) ag)) (fN true)))
 (cj (cst (.bool false)))
 kh))
 (aP (iS (.nm 10) ([] ++ []) (vZ (cst (.int 4)) (cst (.int 6)))
 (hZ (([10] ++ ([7] ++ ([] ++ (([] ++ ([] ++ [])) ++ ([9] ++ ([9] ++ [])))))) ++ ([] ++ [])) (dY (f2 (aA aS (ae (gv 10) (ae (gv 7) (ae (cst (.int 0)) (ae (aL (ae (cst (.int 2)) (ae (aL ag) ag))) (ae (gv 9) (ae (gv 9) ag))))))) (bz (ae (cst (.int 12)) ag)) (fN true)))
 (cj (cst (.bool false)))
 kh))
 (hZ (([] ++ (([] ++ ([] ++ [])) ++ ([] ++ ([3] ++ ([9] ++ ([9] ++ [])))))) ++ ([] ++ [])) (dY (f2 (aA aS (ae (cst (.int 6)) (ae (aL (ae (cst (.int 1)) (ae (aL ag) ag))) (ae (cst (.int 0)) (ae (gv 3) (ae (gv 9) (ae (gv 9) ag))))))) (bz (ae (cst (.int 13)) ag)) (fN true)))
 (cj (cst (.bool false)))
 kh))))))))))))
 (cj (cst (.bool true))))
end RM
namespace RQ
open PySem L2 RM
section
variable {P:Program}{w:World}{K:Frag}{mg:Str->Option Value}{base:Heap}{ca:Str->Addr}
def tI:aC ["thing"] ["thing"] (ai i8):=⟨rfl,rfl,rfl,by decide +kernel,rfl,by decide +kernel,by decide +kernel⟩
def rA {f:Addr}{fd:FuncData}(F:gO K mg "is_whole" i8 ["thing"] f fd)(B:h9 mg):cn P w K mg base ca "is_whole" ["thing"] 1 (ba 1 1 (oi)):=
 ⟨⟨f,fd,F.mg,F.F.kp,F.b,aQ (N:=["thing"]) (k:=0) F.F tI λcdv A outer s H G E hr=>
  (ax (bh (kG (ko "int" (by decide) rfl rfl B.isinstance rfl B.int (by decide +kernel) (av 0)) (ky (Av (ko "bool" (by decide) rfl rfl B.isinstance rfl B.bool (by decide +kernel) (av 0)))) (λ_ _=>rfl))))⟩,λds h=>aJ ds h⟩
def sm:aC ["thing","bound"] ["thing","bound"] (ai i6):=⟨rfl,rfl,rfl,by decide +kernel,rfl,by decide +kernel,by decide +kernel⟩
def rL {f:Addr}{fd:FuncData}{bO:List D->FR}(F:gO K mg "is_below" i6 ["thing","bound"] f fd)(B:h9 mg)(eM:cn P w K mg base ca "is_whole" ["thing"] 1 bO):cn P w K mg base ca "is_below" ["thing","bound"] 2 (ba 2 2 (nO bO)):=
 ⟨⟨f,fd,F.mg,F.F.kp,F.b,aQ (N:=["thing","bound"]) (k:=1) F.F sm λcdv A outer s H G E hr=>
  (ax (bh (kG (ay eM (hr.mono (by decide)) aK rfl rfl (af (ak 0 rfl) ah)) (ky (se yB qe Dw yq ao (av 0) (av 1))) (λ_ _=>rfl))))⟩,λds h=>aJ ds h⟩
def uj:aC ["thing"] ["thing"] (ai jS):=⟨rfl,rfl,rfl,by decide +kernel,rfl,by decide +kernel,by decide +kernel⟩
def tL {f:Addr}{fd:FuncData}{bO:List D->FR}(F:gO K mg "is_many" jS ["thing"] f fd)(B:h9 mg)(eM:cn P w K mg base ca "is_whole" ["thing"] 1 bO){ik:Tok}(cL:mg "MOST_THINGS"=some (.int 8 ik)):cn P w K mg base ca "is_many" ["thing"] 2 (ba 1 1 (pQ bO)):=
 ⟨⟨f,fd,F.mg,F.F.kp,F.b,aQ (N:=["thing"]) (k:=1) F.F uj λcdv A outer s H G E hr=>
  (ax (bh (kG (ay eM (hr.mono (by decide)) aK rfl rfl (af (ak 0 rfl) ah)) (ky (se yB yB Dw Dw ao (av 0) (vW (by rfl) cL))) (λ_ _=>rfl))))⟩,λds h=>aJ ds h⟩
def vK:aC ["thing","many"] ["thing","many"] (ai jW):=⟨rfl,rfl,rfl,by decide +kernel,rfl,by decide +kernel,by decide +kernel⟩
def sR {f:Addr}{fd:FuncData}{aZ:List D->FR}(F:gO K mg "is_pair" jW ["thing","many"] f fd)(B:h9 mg)(cq:cn P w K mg base ca "is_below" ["thing","bound"] 2 aZ):cn P w K mg base ca "is_pair" ["thing","many"] 3 (ba 2 2 (jZ aZ)):=
 ⟨⟨f,fd,F.mg,F.F.kp,F.b,aQ (N:=["thing","many"]) (k:=2) F.F vK λcdv A outer s H G E hr=>
  (au (bS (sU.t (tQ (fK (dO rfl (ko "tuple" (by decide) rfl rfl B.isinstance rfl B.tuple (by decide +kernel) (av 0)))) (nu (bw (eT hr.units) fA (bQ fB ml rfl B.len Kr (av 0)) ao (bf _))) (λ_ _=>rfl)))
  (ax (bh eh))
  bJ)
  (ax (bh (kG (ay cq (hr.mono (by decide)) aK rfl rfl (af (cI bI fG (av 0) ao (λ_ _=>rfl)) (af (ak 1 rfl) ah))) (ky (ay cq (hr.mono (by decide)) aK rfl rfl (af (cI bI fG (av 0) ao (λ_ _=>rfl)) (af (ak 1 rfl) ah)))) (λ_ _=>rfl)))))⟩,λds h=>aJ ds h⟩
def uT:aC ["thing","many"] ["thing","many"] (ai j7):=⟨rfl,rfl,rfl,by decide +kernel,rfl,by decide +kernel,by decide +kernel⟩
def so {f:Addr}{fd:FuncData}{aZ:List D->FR}(F:gO K mg "is_line" j7 ["thing","many"] f fd)(B:h9 mg)(cq:cn P w K mg base ca "is_below" ["thing","bound"] 2 aZ):cn P w K mg base ca "is_line" ["thing","many"] 3 (ba 2 2 (jX aZ)):=
 ⟨⟨f,fd,F.mg,F.F.kp,F.b,aQ (N:=["thing","many"]) (k:=2) F.F uT λcdv A outer s H G E hr=>
  (au (bS (sU.t (tQ (fK (dO rfl (ko "tuple" (by decide) rfl rfl B.isinstance rfl B.tuple (by decide +kernel) (av 0)))) (nu (bw (eT hr.units) fA (bQ fB ml rfl B.len Kr (av 0)) (av 1) (bf _))) (λ_ _=>rfl)))
  (ax (bh eh))
  bJ)
  (ax (bh (kG (bQ (iu rfl) i1 rfl B.all (by decide +kernel) (eZ (NB:=["one","many"]) (own:=1) (ixs:=[1]) [1] rfl (fJ (by kernel_rfl)) (λ_ _=>rfl) (qK rfl (av 0)) (λH0 G0 par br bx C ex s3 H3 pn=>(gA (i:=0) (show (["one","many"]:List Str).Nodup by decide +kernel))) (λH0 G0 par br bx C ex s3 H3 pn hB1=>e9) (λH0 G0 par br bx C ex s3 H3 pn hB1=>(ay cq (hr.mono (by decide)) pD rfl rfl (af (ak 0 (hB1 0 (by decide))) (af (ak 1 (hB1 1 (by decide))) ah)))))) (ky (kP (dU hr.units) fA (yn rfl rfl rfl B.len rfl B.set (av 0)) (av 1) (bf _))) (λ_ _=>rfl)))))⟩,λds h=>aJ ds h⟩
def pz:aC ["many"] ["many"] (ai dP):=⟨rfl,rfl,rfl,by decide +kernel,rfl,by decide +kernel,by decide +kernel⟩
def nU {f:Addr}{fd:FuncData}(F:gO K mg "every_pair" dP ["many"] f fd)(B:h9 mg):cn P w K mg base ca "every_pair" ["many"] 1 (ba 1 1 (lq)):=
 ⟨⟨f,fd,F.mg,F.F.kp,F.b,aQ (N:=["many"]) (k:=0) F.F pz λcdv A outer s H G E hr=>
  (ax (mX (eZ (NB:=["number","many"]) (own:=1) (ixs:=[0]) [] rfl (fJ (by kernel_rfl)) (λ_ _=>rfl) (mf rfl B.range (cc jD kJ (av 0) (av 0))) (λH0 G0 par br bx C ex s3 H3 pn=>(gA (i:=0) (show (["number","many"]:List Str).Nodup by decide +kernel))) (λH0 G0 par br bx C ex s3 H3 pn hB1=>e9) (λH0 G0 par br bx C ex s3 H3 pn hB1=>(cQ (af (cc rh Fj (av 0) (av 1)) (af (cc kQ pK (av 0) (av 1)) ah)))))))⟩,λds h=>aJ ds h⟩
def sX:aC ["pairs"] ["pairs"] (ai jl):=⟨rfl,rfl,rfl,by decide +kernel,rfl,by decide +kernel,by decide +kernel⟩
def qF {f:Addr}{fd:FuncData}(F:gO K mg "has_ring" jl ["pairs"] f fd)(B:h9 mg):cn P w K mg base ca "has_ring" ["pairs"] 1 (ba 1 1 (nk)):=
 ⟨⟨f,fd,F.mg,F.F.kp,F.b,aQ (N:=["pairs"]) (k:=0) F.F sX λcdv A outer s H G E hr=>
  (ax (bh (bQ (zZ rfl) i1 rfl B.any (by decide +kernel) (eZ (NB:=["a","b"]) (own:=2) (ixs:=[]) [] rfl (fJ (by kernel_rfl)) (λ_ _=>rfl) (qK rfl (av 0)) (λH0 G0 par br bx C ex s3 H3 pn=>(qR (i:=0) (j:=1) (show (["a","b"]:List Str).Nodup by decide +kernel))) (λH0 G0 par br bx C ex s3 H3 pn hB1=>e9) (λH0 G0 par br bx C ex s3 H3 pn hB1=>(kP (dU hr.units) fA (av 0) (av 1) (bf _)))))))⟩,λds h=>aJ ds h⟩
def jv:aC ["thing","many","pairs"] ["thing"] (ai i4):=⟨rfl,rfl,rfl,by decide +kernel,rfl,by decide +kernel,by decide +kernel⟩
def qH {f:Addr}{fd:FuncData}{gx gq iP ey:List D->FR}(F:gO K mg "is_order" i4 ["thing"] f fd)(B:h9 mg)(lV:cn P w K mg base ca "is_many" ["thing"] 2 gx)(l7:cn P w K mg base ca "is_pair" ["thing","many"] 3 gq)(nW:cn P w K mg base ca "closed" ["many","pairs"] 3 iP)(kC:cn P w K mg base ca "has_ring" ["pairs"] 1 ey):cn P w K mg base ca "is_order" ["thing"] 4 (ba 3 1 (jb gx gq iP ey)):=
 ⟨⟨f,fd,F.mg,F.F.kp,F.b,aQ (N:=["thing","many","pairs"]) (k:=3) F.F jv λcdv A outer s H G E hr=>
  (au (bS (sU.t (tQ (fK (dO rfl (ko "tuple" (by decide) rfl rfl B.isinstance rfl B.tuple (by decide +kernel) (av 0)))) (nu (bw (eT hr.units) fA (bQ fB ml rfl B.len Kr (av 0)) ao (bf _))) (λ_ _=>rfl)))
  (ax (bh eh))
  bJ)
  (au (cz (i:=1) (cI bI fG (av 0) ao (λ_ _=>rfl)) jv.nd)
  (au (cz (i:=2) (cI bI fG (av 0) ao (λ_ _=>rfl)) jv.nd)
  (au (bS (sU.t (tQ (fK (dO rfl (ay lV (hr.mono (by decide)) aK rfl rfl (af (ak 1 rfl) ah)))) (nu (fK (dO rfl (ko "tuple" (by decide) rfl rfl B.isinstance rfl B.tuple (by decide +kernel) (av 2))))) (λ_ _=>rfl)))
  (ax (bh eh))
  bJ)
  (au (bS (fK (dO rfl (bQ (iu rfl) i1 rfl B.all (by decide +kernel) (eZ (NB:=["pair","many"]) (own:=1) (ixs:=[1]) [1] rfl (fJ (by kernel_rfl)) (λ_ _=>rfl) (qK rfl (av 2)) (λH0 G0 par br bx C ex s3 H3 pn=>(gA (i:=0) (show (["pair","many"]:List Str).Nodup by decide +kernel))) (λH0 G0 par br bx C ex s3 H3 pn hB1=>e9) (λH0 G0 par br bx C ex s3 H3 pn hB1=>(ay l7 (hr.mono (by decide)) pD rfl rfl (af (ak 0 (hB1 0 (by decide))) (af (ak 1 (hB1 1 (by decide))) ah))))))))
  (ax (bh eh))
  bJ)
  (ax (bh (kG (kP (dU hr.units) fA (av 2) (ay nW (hr.mono (by decide)) aK rfl rfl (af (ak 1 rfl) (af (ak 2 rfl) ah))) (bf _)) (ky (Av (ay kC (hr.mono (by decide)) aK rfl rfl (af (ak 2 rfl) ah)))) (λ_ _=>rfl)))))))))⟩,λds h=>aJ ds h⟩
def pf:aC ["thing"] ["thing"] (ai fY):=⟨rfl,rfl,rfl,by decide +kernel,rfl,by decide +kernel,by decide +kernel⟩
def nE {f:Addr}{fd:FuncData}{eN:List D->FR}(F:gO K mg "need_order" fY ["thing"] f fd)(B:h9 mg)(kL:cn P w K mg base ca "is_order" ["thing"] 4 eN)(iw:Exc K mg ca "NoOrder"):cn P w K mg base ca "need_order" ["thing"] 5 (ba 1 1 (dN eN)):=
 ⟨⟨f,fd,F.mg,F.F.kp,F.b,aQ (N:=["thing"]) (k:=4) F.F pf λcdv A outer s H G E hr=>
  (ax (bS (fK (dO rfl (ay kL (hr.mono (by decide)) aK rfl rfl (af (ak 0 rfl) ah))))
  (ax (iL iw.ex iw.ca rfl iw.mg (af jw ah)))
  bJ))⟩,λds h=>aJ ds h⟩
def iU:aC ["order","thing"] ["order","thing"] (ai bM):=⟨rfl,rfl,rfl,by decide +kernel,rfl,by decide +kernel,by decide +kernel⟩
def ia {f:Addr}{fd:FuncData}{aO aZ:List D->FR}(F:gO K mg "need_order_and_thing" bM ["order","thing"] f fd)(B:h9 mg)(bB:cn P w K mg base ca "need_order" ["thing"] 5 aO)(cq:cn P w K mg base ca "is_below" ["thing","bound"] 2 aZ)(iA:Exc K mg ca "NoThing"):cn P w K mg base ca "need_order_and_thing" ["order","thing"] 6 (ba 2 2 (aN aO aZ)):=
 ⟨⟨f,fd,F.mg,F.F.kp,F.b,aQ (N:=["order","thing"]) (k:=5) F.F iU λcdv A outer s H G E hr=>
  (au (bc (ay bB (hr.mono (by decide)) aK rfl rfl (af (ak 0 rfl) ah)))
  (ax (bS (fK (dO rfl (ay cq (hr.mono (by decide)) aK rfl rfl (af (ak 1 rfl) (af (cI bI fG (av 0) ao (λ_ _=>rfl)) ah)))))
  (ax (iL iA.ex iA.ca rfl iA.mg (af jw ah)))
  bJ)))⟩,λds h=>aJ ds h⟩
def lJ:aC ["row","found","place","thing"] ["row"] (ai kY):=⟨rfl,rfl,rfl,by decide +kernel,rfl,by decide +kernel,by decide +kernel⟩
def um {f:Addr}{fd:FuncData}(F:gO K mg "places" kY ["row"] f fd)(B:h9 mg):cn P w K mg base ca "places" ["row"] 1 (ba 4 1 (ly)):=
 ⟨⟨f,fd,F.mg,F.F.kp,F.b,aQ (N:=["row","found","place","thing"]) (k:=0) F.F lJ λcdv A outer s H G E hr=>
  (au (mQ (i:=1) (EB (bE (af ao ah)) (bQ fB ml rfl B.len Kr (av 0))) lJ.nd)
  (au (jG PassesOwn.leaving rfl (DP rfl rfl B.enumerate (ak 0 rfl)) (qR (i:=2) (j:=3) lJ.nd)
  (ax (BM 1 (λ_=>rfl) (ak 2 rfl) (av 3))))
  (ax (BG 1))))⟩,λds h=>aJ ds h⟩
def jM:aC ["thing","order","place"] ["thing","order"] (ai fw):=⟨rfl,rfl,rfl,by decide +kernel,rfl,by decide +kernel,by decide +kernel⟩
def mO {f:Addr}{fd:FuncData}{gj cS:List D->FR}(F:gO K mg "keeps_order" fw ["thing","order"] f fd)(B:h9 mg)(lZ:cn P w K mg base ca "is_line" ["thing","many"] 3 gj)(iM:cn P w K mg base ca "places" ["row"] 1 cS):cn P w K mg base ca "keeps_order" ["thing","order"] 4 (ba 3 2 (fg gj cS)):=
 ⟨⟨f,fd,F.mg,F.F.kp,F.b,aQ (N:=["thing","order","place"]) (k:=3) F.F jM λcdv A outer s H G E hr=>
  (au (bS (fK (dO rfl (ay lZ (hr.mono (by decide)) aK rfl rfl (af (ak 0 rfl) (af (cI bI fG (av 1) ao (λ_ _=>rfl)) ah)))))
  (ax (bh eh))
  bJ)
  (au (cz (i:=2) (ay iM (hr.mono (by decide)) aK rfl rfl (af (ak 0 rfl) ah)) jM.nd)
  (ax (bh (bQ (iu rfl) i1 rfl B.all (by decide +kernel) (eZ (NB:=["a","b","place"]) (own:=2) (ixs:=[2]) [] rfl (fJ (by kernel_rfl)) (λ_ _=>rfl) (qK rfl (cI bI fG (av 1) ao (λ_ _=>rfl))) (λH0 G0 par br bx C ex s3 H3 pn=>(qR (i:=0) (j:=1) (show (["a","b","place"]:List Str).Nodup by decide +kernel))) (λH0 G0 par br bx C ex s3 H3 pn hB1=>e9) (λH0 G0 par br bx C ex s3 H3 pn hB1=>(kP qe yq (cI bI fG (av 2) (av 0) (λ_ _=>rfl)) (cI bI fG (av 2) (av 1) (λ_ _=>rfl)) (bf _)))))))))⟩,λds h=>aJ ds h⟩
def my:aC ["tables","a","b"] ["tables","a","b"] (ai dJ):=⟨rfl,rfl,rfl,by decide +kernel,rfl,by decide +kernel,by decide +kernel⟩
def lO {f:Addr}{fd:FuncData}(F:gO K mg "stands_ahead" dJ ["tables","a","b"] f fd)(B:h9 mg):cn P w K mg base ca "stands_ahead" ["tables","a","b"] 1 (ba 3 3 (jC)):=
 ⟨⟨f,fd,F.mg,F.F.kp,F.b,aQ (N:=["tables","a","b"]) (k:=0) F.F my λcdv A outer s H G E hr=>
  (ax (bh (bQ (iu rfl) i1 rfl B.all (by decide +kernel) (eZ (NB:=["place","a","b"]) (own:=1) (ixs:=[1,2]) [] rfl (fJ (by kernel_rfl)) (λ_ _=>rfl) (qK rfl (av 0)) (λH0 G0 par br bx C ex s3 H3 pn=>(gA (i:=0) (show (["place","a","b"]:List Str).Nodup by decide +kernel))) (λH0 G0 par br bx C ex s3 H3 pn hB1=>e9) (λH0 G0 par br bx C ex s3 H3 pn hB1=>(kP qe yq (cI bI fG (av 0) (av 1) (λ_ _=>rfl)) (cI bI fG (av 0) (av 2) (λ_ _=>rfl)) (bf _)))))))⟩,λds h=>aJ ds h⟩
def js:aC ["many","rows","tables"] ["many","rows"] (ai dS):=⟨rfl,rfl,rfl,by decide +kernel,rfl,by decide +kernel,by decide +kernel⟩
def lY {f:Addr}{fd:FuncData}{cS cF cw:List D->FR}(F:gO K mg "shared_pairs" dS ["many","rows"] f fd)(B:h9 mg)(iM:cn P w K mg base ca "places" ["row"] 1 cS)(iV:cn P w K mg base ca "every_pair" ["many"] 1 cF)(gB:cn P w K mg base ca "stands_ahead" ["tables","a","b"] 1 cw):cn P w K mg base ca "shared_pairs" ["many","rows"] 2 (ba 3 2 (jI cS cF cw)):=
 ⟨⟨f,fd,F.mg,F.F.kp,F.b,aQ (N:=["many","rows","tables"]) (k:=1) F.F js λcdv A outer s H G E hr=>
  (au (cz (i:=2) (SE.wv (eZ (NB:=["row"]) (own:=1) (ixs:=[]) [] rfl (fJ (by kernel_rfl)) (λ_ _=>rfl) (qK rfl (av 1)) (λH0 G0 par br bx C ex s3 H3 pn=>(gA (i:=0) (show (["row"]:List Str).Nodup by decide +kernel))) (λH0 G0 par br bx C ex s3 H3 pn hB1=>e9) (λH0 G0 par br bx C ex s3 H3 pn hB1=>(ay iM (hr.mono (by decide)) pD rfl rfl (af (ak 0 (hB1 0 (by decide))) ah))))) js.nd)
  (ax (bh (jH fm rC rfl B.tuple (by decide +kernel) (eZ (NB:=["a","b","tables"]) (own:=2) (ixs:=[2]) [2] rfl (fJ (by kernel_rfl)) (λ_ _=>rfl) (qK rfl (ay iV (hr.mono (by decide)) aK rfl rfl (af (ak 0 rfl) ah))) (λH0 G0 par br bx C ex s3 H3 pn=>(qR (i:=0) (j:=1) (show (["a","b","tables"]:List Str).Nodup by decide +kernel))) (λH0 G0 par br bx C ex s3 H3 pn hB2=>(AS (dO rfl (ay gB (hr.mono (by decide)) pD rfl rfl (af (ak 2 (hB2 2 (by decide))) (af (ak 0 (hB2 0 (by decide))) (af (ak 1 (hB2 1 (by decide))) ah))))))) (λH0 G0 par br bx C ex s3 H3 pn hB2=>(cQ (af (ak 0 (hB2 0 (by decide))) (af (ak 1 (hB2 1 (by decide))) ah)))))))))⟩,λds h=>aJ ds h⟩
def sY:aC ["thing","order"] ["thing","order"] (ai jo):=⟨rfl,rfl,rfl,by decide +kernel,rfl,by decide +kernel,by decide +kernel⟩
def rB {f:Addr}{fd:FuncData}{cN:List D->FR}(F:gO K mg "are_rows" jo ["thing","order"] f fd)(B:h9 mg)(ip:cn P w K mg base ca "keeps_order" ["thing","order"] 4 cN):cn P w K mg base ca "are_rows" ["thing","order"] 5 (ba 2 2 (jh cN)):=
 ⟨⟨f,fd,F.mg,F.F.kp,F.b,aQ (N:=["thing","order"]) (k:=4) F.F sY λcdv A outer s H G E hr=>
  (au (bS (sU.t (tQ (fK (dO rfl (ko "list" (by decide) rfl rfl B.isinstance rfl B.list (by decide +kernel) (av 0)))) (nu (bw (dU hr.units) fA (bQ fB ml rfl B.len Kr (av 0)) ao (bf _))) (λ_ _=>rfl)))
  (ax (bh eh))
  bJ)
  (ax (bh (bQ (iu rfl) i1 rfl B.all (by decide +kernel) (eZ (NB:=["row","order"]) (own:=1) (ixs:=[1]) [1] rfl (fJ (by kernel_rfl)) (λ_ _=>rfl) (qK rfl (av 0)) (λH0 G0 par br bx C ex s3 H3 pn=>(gA (i:=0) (show (["row","order"]:List Str).Nodup by decide +kernel))) (λH0 G0 par br bx C ex s3 H3 pn hB1=>e9) (λH0 G0 par br bx C ex s3 H3 pn hB1=>(ay ip (hr.mono (by decide)) pD rfl rfl (af (ak 0 (hB1 0 (by decide))) (af (ak 1 (hB1 1 (by decide))) ah)))))))))⟩,λds h=>aJ ds h⟩
def Bk:aC ["thing","order"] ["thing","order"] (ai rJ):=⟨rfl,rfl,rfl,by decide +kernel,rfl,by decide +kernel,by decide +kernel⟩
def yW {f:Addr}{fd:FuncData}{aO eJ cA:List D->FR}(F:gO K mg "tell" rJ ["thing","order"] f fd)(B:h9 mg)(bB:cn P w K mg base ca "need_order" ["thing"] 5 aO)(kM:cn P w K mg base ca "are_rows" ["thing","order"] 5 eJ)(gJ:cn P w K mg base ca "shared_pairs" ["many","rows"] 2 cA):cn P w K mg base ca "tell" ["thing","order"] 6 (ba 2 2 (ur aO eJ cA)):=
 ⟨⟨f,fd,F.mg,F.F.kp,F.b,aQ (N:=["thing","order"]) (k:=5) F.F Bk λcdv A outer s H G E hr=>
  (au (bc (ay bB (hr.mono (by decide)) aK rfl rfl (af (ak 1 rfl) ah)))
  (ax (bh (kG (ay kM (hr.mono (by decide)) aK rfl rfl (af (ak 0 rfl) (af (ak 1 rfl) ah))) (ky (kP (dU hr.units) fA (ay gJ (hr.mono (by decide)) aK rfl rfl (af (cI bI fG (av 1) ao (λ_ _=>rfl)) (af (ak 0 rfl) ah))) (cI bI fG (av 1) ao (λ_ _=>rfl)) (bf _))) (λ_ _=>rfl)))))⟩,λds h=>aJ ds h⟩
def rH:aC ["one","other"] ["one","other"] (ai gR):=⟨rfl,rfl,rfl,by decide +kernel,rfl,by decide +kernel,by decide +kernel⟩
def pd {f:Addr}{fd:FuncData}{aO:List D->FR}(F:gO K mg "need_both" gR ["one","other"] f fd)(B:h9 mg)(bB:cn P w K mg base ca "need_order" ["thing"] 5 aO):cn P w K mg base ca "need_both" ["one","other"] 6 (ba 2 2 (cB aO)):=
 ⟨⟨f,fd,F.mg,F.F.kp,F.b,aQ (N:=["one","other"]) (k:=5) F.F rH λcdv A outer s H G E hr=>
  (au (bc (ay bB (hr.mono (by decide)) aK rfl rfl (af (ak 0 rfl) ah)))
  (ax (bc (ay bB (hr.mono (by decide)) aK rfl rfl (af (ak 1 rfl) ah)))))⟩,λds h=>aJ ds h⟩
def qZ:aC ["many"] ["many"] (ai gQ):=⟨rfl,rfl,rfl,by decide +kernel,rfl,by decide +kernel,by decide +kernel⟩
def pw {f:Addr}{fd:FuncData}(F:gO K mg "need_room" gQ ["many"] f fd)(B:h9 mg)(iE:Exc K mg ca "TooMany"){ik:Tok}(cL:mg "MOST_THINGS"=some (.int 8 ik)):cn P w K mg base ca "need_room" ["many"] 1 (ba 1 1 (dA)):=
 ⟨⟨f,fd,F.mg,F.F.kp,F.b,aQ (N:=["many"]) (k:=0) F.F qZ λcdv A outer s H G E hr=>
  (ax (bS (bw CJ ER (av 0) (vW (by rfl) cL) (bf _))
  (ax (iL iE.ex iE.ca rfl iE.mg (af jw ah)))
  bJ))⟩,λds h=>aJ ds h⟩
def oH:aC ["one","other"] ["one","other"] (ai fq):=⟨rfl,rfl,rfl,by decide +kernel,rfl,by decide +kernel,by decide +kernel⟩
def mM {f:Addr}{fd:FuncData}{bF bC:List D->FR}(F:gO K mg "need_joined" fq ["one","other"] f fd)(B:h9 mg)(dC:cn P w K mg base ca "need_both" ["one","other"] 6 bF)(dz:cn P w K mg base ca "need_room" ["many"] 1 bC):cn P w K mg base ca "need_joined" ["one","other"] 7 (ba 2 2 (bN bF bC)):=
 ⟨⟨f,fd,F.mg,F.F.kp,F.b,aQ (N:=["one","other"]) (k:=6) F.F oH λcdv A outer s H G E hr=>
  (au (bc (ay dC (hr.mono (by decide)) aK rfl rfl (af (ak 0 rfl) (af (ak 1 rfl) ah))))
  (ax (bc (ay dz (hr.mono (by decide)) aK rfl rfl (af (cc iY jj (cI bI fG (av 0) ao (λ_ _=>rfl)) (cI bI fG (av 1) ao (λ_ _=>rfl))) ah)))))⟩,λds h=>aJ ds h⟩
def qS:aC ["one","other","many","between"] ["one","other"] (ai hR):=⟨rfl,rfl,rfl,by decide +kernel,rfl,by decide +kernel,by decide +kernel⟩
def oQ {f:Addr}{fd:FuncData}{aF:List D->FR}(F:gO K mg "behind_of" hR ["one","other"] f fd)(B:h9 mg)(a8:cn P w K mg base ca "need_joined" ["one","other"] 7 aF):cn P w K mg base ca "behind_of" ["one","other"] 8 (ba 4 2 (gW aF)):=
 ⟨⟨f,fd,F.mg,F.F.kp,F.b,aQ (N:=["one","other","many","between"]) (k:=7) F.F qS λcdv A outer s H G E hr=>
  (au (bc (ay a8 (hr.mono (by decide)) aK rfl rfl (af (ak 0 rfl) (af (ak 1 rfl) ah))))
  jf)⟩,λds h=>aJ ds h⟩
def rM:aC ["one","other"] ["one","other"] (ai hV):=⟨rfl,rfl,rfl,by decide +kernel,rfl,by decide +kernel,by decide +kernel⟩
def oY {f:Addr}{fd:FuncData}{aF:List D->FR}(F:gO K mg "beside_of" hV ["one","other"] f fd)(B:h9 mg)(a8:cn P w K mg base ca "need_joined" ["one","other"] 7 aF):cn P w K mg base ca "beside_of" ["one","other"] 8 (ba 2 2 (hJ aF)):=
 ⟨⟨f,fd,F.mg,F.F.kp,F.b,aQ (N:=["one","other"]) (k:=7) F.F rM λcdv A outer s H G E hr=>
  (au (bc (ay a8 (hr.mono (by decide)) aK rfl rfl (af (ak 0 rfl) (af (ak 1 rfl) ah))))
  jf)⟩,λds h=>aJ ds h⟩
def lN:aC ["order","thing","other"] ["order","thing","other"] (ai dq):=⟨rfl,rfl,rfl,by decide +kernel,rfl,by decide +kernel,by decide +kernel⟩
def k7 {f:Addr}{fd:FuncData}{bF aG bC:List D->FR}(F:gO K mg "need_replaced" dq ["order","thing","other"] f fd)(B:h9 mg)(dC:cn P w K mg base ca "need_both" ["one","other"] 6 bF)(bg:cn P w K mg base ca "need_order_and_thing" ["order","thing"] 6 aG)(dz:cn P w K mg base ca "need_room" ["many"] 1 bC):cn P w K mg base ca "need_replaced" ["order","thing","other"] 7 (ba 3 3 (a9 bF aG bC)):=
 ⟨⟨f,fd,F.mg,F.F.kp,F.b,aQ (N:=["order","thing","other"]) (k:=6) F.F lN λcdv A outer s H G E hr=>
  (au (bc (ay dC (hr.mono (by decide)) aK rfl rfl (af (ak 0 rfl) (af (ak 2 rfl) ah))))
  (au (bc (ay bg (hr.mono (by decide)) aK rfl rfl (af (ak 0 rfl) (af (ak 1 rfl) ah))))
  (ax (bc (ay dz (hr.mono (by decide)) aK rfl rfl (af (cc Dq FZ (cc iY jj (cI bI fG (av 0) ao (λ_ _=>rfl)) (cI bI fG (av 2) ao (λ_ _=>rfl))) ao) ah))))))⟩,λds h=>aJ ds h⟩
def tx:aC ["order","thing","other","many","stood","outer"] ["order","thing","other"] (ai ji):=⟨rfl,rfl,rfl,by decide +kernel,rfl,by decide +kernel,by decide +kernel⟩
def rf {f:Addr}{fd:FuncData}{aW:List D->FR}(F:gO K mg "replaced" ji ["order","thing","other"] f fd)(B:h9 mg)(bY:cn P w K mg base ca "need_replaced" ["order","thing","other"] 7 aW):cn P w K mg base ca "replaced" ["order","thing","other"] 8 (ba 6 3 (jg aW)):=
 ⟨⟨f,fd,F.mg,F.F.kp,F.b,aQ (N:=["order","thing","other","many","stood","outer"]) (k:=7) F.F tx λcdv A outer s H G E hr=>
  (au (bc (ay bY (hr.mono (by decide)) aK rfl rfl (af (ak 0 rfl) (af (ak 1 rfl) (af (ak 2 rfl) ah)))))
  jf)⟩,λds h=>aJ ds h⟩
def uz:aC ["order","thing","kept"] ["order","thing"] (ai jQ):=⟨rfl,rfl,rfl,by decide +kernel,rfl,by decide +kernel,by decide +kernel⟩
def sP {f:Addr}{fd:FuncData}{aG:List D->FR}(F:gO K mg "without" jQ ["order","thing"] f fd)(B:h9 mg)(bg:cn P w K mg base ca "need_order_and_thing" ["order","thing"] 6 aG)(oB:Exc K mg ca "Bare"):cn P w K mg base ca "without" ["order","thing"] 7 (ba 3 2 (gp aG)):=
 ⟨⟨f,fd,F.mg,F.F.kp,F.b,aQ (N:=["order","thing","kept"]) (k:=6) F.F uz λcdv A outer s H G E hr=>
  (au (bc (ay bg (hr.mono (by decide)) aK rfl rfl (af (ak 0 rfl) (af (ak 1 rfl) ah))))
  (au (bS (bw (dU hr.units) fA (cI bI fG (av 0) ao (λ_ _=>rfl)) ao (bf _))
  (ax (iL oB.ex oB.ca rfl oB.mg (af jw ah)))
  bJ)
  jf))⟩,λds h=>aJ ds h⟩
def qU:aC ["one","other","rows","others"] ["one","other","rows","others"] (ai gY):=⟨rfl,rfl,rfl,by decide +kernel,rfl,by decide +kernel,by decide +kernel⟩
def o8 {f:Addr}{fd:FuncData}{kz:List D->FR}(F:gO K mg "need_rows" gY ["one","other","rows","others"] f fd)(B:h9 mg)(rY:cn P w K mg base ca "tell" ["thing","order"] 6 kz)(fy:Exc K mg ca "NoRows"):cn P w K mg base ca "need_rows" ["one","other","rows","others"] 7 (ba 4 4 (gV kz)):=
 ⟨⟨f,fd,F.mg,F.F.kp,F.b,aQ (N:=["one","other","rows","others"]) (k:=6) F.F qU λcdv A outer s H G E hr=>
  (au (bS (fK (dO rfl (ay rY (hr.mono (by decide)) aK rfl rfl (af (ak 2 rfl) (af (ak 0 rfl) ah)))))
  (ax (iL fy.ex fy.ca rfl fy.mg (af jw ah)))
  bJ)
  (ax (bS (fK (dO rfl (ay rY (hr.mono (by decide)) aK rfl rfl (af (ak 3 rfl) (af (ak 1 rfl) ah)))))
  (ax (iL fy.ex fy.ca rfl fy.mg (af jw ah)))
  bJ)))⟩,λds h=>aJ ds h⟩
def nv:aC ["one","other","rows","others","count"] ["one","other","rows","others"] (ai ff):=⟨rfl,rfl,rfl,by decide +kernel,rfl,by decide +kernel,by decide +kernel⟩
def mL {f:Addr}{fd:FuncData}{aF aX:List D->FR}(F:gO K mg "rows_behind" ff ["one","other","rows","others"] f fd)(B:h9 mg)(a8:cn P w K mg base ca "need_joined" ["one","other"] 7 aF)(b8:cn P w K mg base ca "need_rows" ["one","other","rows","others"] 7 aX):cn P w K mg base ca "rows_behind" ["one","other","rows","others"] 8 (ba 5 4 (fj aF aX)):=
 ⟨⟨f,fd,F.mg,F.F.kp,F.b,aQ (N:=["one","other","rows","others","count"]) (k:=7) F.F nv λcdv A outer s H G E hr=>
  (au (bc (ay a8 (hr.mono (by decide)) aK rfl rfl (af (ak 0 rfl) (af (ak 1 rfl) ah))))
  (au (bc (ay b8 (hr.mono (by decide)) aK rfl rfl (af (ak 0 rfl) (af (ak 1 rfl) (af (ak 2 rfl) (af (ak 3 rfl) ah))))))
  jf))⟩,λds h=>aJ ds h⟩
def nG:aC ["one","other","rows","others","last","made"] ["one","other","rows","others"] (ai fu):=⟨rfl,rfl,rfl,by decide +kernel,rfl,by decide +kernel,by decide +kernel⟩
def mI {f:Addr}{fd:FuncData}{aF aX:List D->FR}(F:gO K mg "rows_beside" fu ["one","other","rows","others"] f fd)(B:h9 mg)(a8:cn P w K mg base ca "need_joined" ["one","other"] 7 aF)(b8:cn P w K mg base ca "need_rows" ["one","other","rows","others"] 7 aX):cn P w K mg base ca "rows_beside" ["one","other","rows","others"] 8 (ba 6 4 (fk aF aX)):=
 ⟨⟨f,fd,F.mg,F.F.kp,F.b,aQ (N:=["one","other","rows","others","last","made"]) (k:=7) F.F nG λcdv A outer s H G E hr=>
  (au (bc (ay a8 (hr.mono (by decide)) aK rfl rfl (af (ak 0 rfl) (af (ak 1 rfl) ah))))
  (au (bc (ay b8 (hr.mono (by decide)) aK rfl rfl (af (ak 0 rfl) (af (ak 1 rfl) (af (ak 2 rfl) (af (ak 3 rfl) ah))))))
  jf))⟩,λds h=>aJ ds h⟩
def lQ:aC ["order","thing","other","rows","others","count"] ["order","thing","other","rows","others"] (ai dh):=⟨rfl,rfl,rfl,by decide +kernel,rfl,by decide +kernel,by decide +kernel⟩
def lC {f:Addr}{fd:FuncData}{aW aX:List D->FR}(F:gO K mg "rows_replaced" dh ["order","thing","other","rows","others"] f fd)(B:h9 mg)(bY:cn P w K mg base ca "need_replaced" ["order","thing","other"] 7 aW)(b8:cn P w K mg base ca "need_rows" ["one","other","rows","others"] 7 aX):cn P w K mg base ca "rows_replaced" ["order","thing","other","rows","others"] 8 (ba 6 5 (c6 aW aX)):=
 ⟨⟨f,fd,F.mg,F.F.kp,F.b,aQ (N:=["order","thing","other","rows","others","count"]) (k:=7) F.F lQ λcdv A outer s H G E hr=>
  (au (bc (ay bY (hr.mono (by decide)) aK rfl rfl (af (ak 0 rfl) (af (ak 1 rfl) (af (ak 2 rfl) ah)))))
  (au (bc (ay b8 (hr.mono (by decide)) aK rfl rfl (af (ak 0 rfl) (af (ak 2 rfl) (af (ak 3 rfl) (af (ak 4 rfl) ah))))))
  jf))⟩,λds h=>aJ ds h⟩
def cE:aC ["script","k","here","number","j","part"] ["script","k"] (ai jm):=⟨rfl,rfl,rfl,by decide +kernel,rfl,by decide +kernel,by decide +kernel⟩
def rb {f:Addr}{fd:FuncData}(F:gO K mg "_law_box" jm ["script","k"] f fd)(B:h9 mg):cn P w K mg base ca "_law_box" ["script","k"] 1 (ba 6 2 (fZ)):=
 ⟨⟨f,fd,F.mg,F.F.kp,F.b,aQ (N:=["script","k","here","number","j","part"]) (k:=0) F.F cE λcdv A outer s H G E hr=>
  (au (cz (i:=2) (cc iY jj (cc jD kJ ao (av 1)) ao) cE.nd)
  (au (bS (bw qe yq (av 1) (bQ fB ml rfl B.len Kr (av 0)) (bf _))
  (ax (cz (i:=2) (cI bI fG (av 0) (av 1) (λ_ _=>rfl)) cE.nd))
  bJ)
  (au (bS (bw (dU hr.units) fA (cc kQ pK (av 2) ao) ao (bf _))
  (ax (mX (bE (af (cc rh Fj (av 2) ao) ah))))
  bJ)
  (au (cz (i:=3) ao cE.nd)
  (au (jG PassesOwn.leaving rfl (mf rfl B.range ao) (gA (i:=4) cE.nd)
  (au (cz (i:=5) (cc kQ pK (cc iY jj (cc iY jj (cc jD kJ (cc kQ pK (av 2) ao) ao) (cc jD kJ ao (av 4))) ao) ao) cE.nd)
  (au (cz (i:=5) (cc kQ pK (cc jD kJ (av 5) (av 5)) ao) cE.nd)
  (ax (cz (i:=3) (cc iY jj (cc jD kJ (av 3) ao) (cc kQ pK (cc jD kJ (av 5) (cc iY jj (av 5) ao)) ao)) cE.nd)))))
  (ax (mX (bE (af (ak 3 rfl) ah)))))))))⟩,λds h=>aJ ds h⟩
def kZ:aC ["box","many","left","digit"] ["box","many"] (ai hU):=⟨rfl,rfl,rfl,by decide +kernel,rfl,by decide +kernel,by decide +kernel⟩
def oV {f:Addr}{fd:FuncData}(F:gO K mg "_law_take" hU ["box","many"] f fd)(B:h9 mg):kH P w K mg base "_law_take" ["box","many"] 1 cC:=by
 refine⟨⟨f,fd,F.mg,F.F.kp,F.b,?_⟩,λds β h=>?_⟩
 ·refine F.F.yw kZ (λvs H Q E h=>?_) (λcdv A outer s H vs Q E hr h=>?_)
  ·obtain⟨b,rest,G,ds,β,rfl,hb,gb,sG,hl,r,_⟩:=h
   rw[JM,r.len,hl];rfl
  ·obtain⟨b,rest,G,ds,β,rfl,hb,gb,sG,hl,r,h⟩:=h
   obtain⟨m,rfl,h0,h1⟩:=wM (λz=>by rw[z] at h;exact h)
   rw[rS h0 h1] at h
   have kk:∀v G' H',gM (some b) H H'->H' b=some (.lst [.int (β / m)])->ar G G'->ar G' H'->(∀c,Mx H c->G c=none->G' c=none)->FV K H G' H' false (.int (β % m)) v->Q v H':=h
   cases r with
   |cons r1 r2=>
    cases r1
    cases r2
    refine⟨_,cR (nX (aY tS rfl B.divmod (by decide +kernel) (aj (ki fS (pv 0) lI (λ_ _=>rfl)) (aj (pv 1) aI))) (Bd (i:=2) (j:=3) kZ.nd rfl rfl rfl rfl rfl))
     (cR (nX (pv 2) (qV (pv 0) lI set_list)) (dk (hX (pv 3)))),?_⟩
    refine⟨_,rfl,b,_,0,.int β,rfl,rfl,.inl (.inl hb),rfl,_,rfl,β,m,rfl,⟨h0,h1⟩,λp hp=>⟨p,_,rfl,.inl (.inl aq),rfl,_,_,rfl,_,_,rfl,rfl,?_⟩⟩
    have hbp:b≠p:=aE hb hp
    exact⟨_,rfl,_,rfl,b,[.int β],0,0,rfl,rfl,by rw[aw hbp];exact hb,rfl,_,rfl,zE hb sG hp kk gb⟩
 ·obtain⟨m,rfl,_⟩:=wM h
  rfl
def eG:aC ["box","some"] ["box"] (ai di):=⟨rfl,rfl,rfl,by decide +kernel,rfl,by decide +kernel,by decide +kernel⟩
def kX {f:Addr}{fd:FuncData}{aB:List D->Int->FB}(F:gO K mg "_law_no_order" di ["box"] f fd)(B:h9 mg)(aU:kH P w K mg base "_law_take" ["box","many"] 1 aB):kH P w K mg base "_law_no_order" ["box"] 2 (mr 2 0 (df aB)):=
 ⟨⟨f,fd,F.mg,F.F.kp,F.b,ll (ca:=λ_=>0) (N:=["box","some"]) (k:=1) F.F eG (by decide) λcdv A outer s H G b E hr=>
  (@au _ _ _ _ _ _ _ (@Gj _ _ _ 1 _ _ (ae (cst .none) (ae (aL ag) (ae (aL (ae (cst (.int 0)) (ae (aL ag) ag))) (ae (aL (ae (cst (.int 9)) (ae (aL ag) ag))) (ae (aL (ae (cst (.int 2)) (ae (aL (ae (aL (ae (cst (.int 0)) (ae (cst (.int 2)) ag))) ag)) ag))) (ae (aL (ae (cst (.int 3)) (ae (aL (ae (aL (ae (cst (.int 0)) (ae (cst (.int 1)) ag))) (ae (aL (ae (cst (.int 1)) (ae (cst (.int 2)) ag))) ag))) ag))) (ae (aL (ae (cst (.int 2)) (ae (aL (ae (aL (ae (cst (.int 0)) (ae (cst (.int 1)) ag))) (ae (aL (ae (cst (.int 1)) (ae (cst (.int 0)) ag))) ag))) ag))) (ae (bz (ae (cst (.int 1)) (ae (aL ag) ag))) ag)))))))) ([] ++ ([] ++ (([] ++ ([] ++ [])) ++ (([] ++ ([] ++ [])) ++ (([] ++ ((([] ++ ([] ++ [])) ++ []) ++ [])) ++ (([] ++ ((([] ++ ([] ++ [])) ++ (([] ++ ([] ++ [])) ++ [])) ++ [])) ++ (([] ++ ((([] ++ ([] ++ [])) ++ (([] ++ ([] ++ [])) ++ [])) ++ [])) ++ (([] ++ ([] ++ [])) ++ [])))))))) _ _ _ [] (by kernel_rfl) (λ_=>rfl) (by kernel_rfl) eG.nd rfl (by first |exact Or.inl rfl |exact Or.inr rfl) (by first |exact .inl rfl |exact .inr rfl))
  (au (cz (i:=1) (SE.wv (cc BC Fq (av 1) (@Ct _ _ _ _ (ae (aL (ae (cst (.bool true)) (ae (aL ag) ag))) (ae (aL (ae (cst (.int 2)) (ae (bz (ae (aL (ae (cst (.int 0)) (ae (cst (.int 1)) ag))) ag)) ag))) (ae (aL (ae (cst (.int 1)) (ae (aL (ae (aL (ae (cst (.int 0)) (ae (cst (.int 0)) ag))) ag)) ag))) (ae (aL (ae (cst (.int 3)) (ae (aL (ae (aL (ae (cst (.int 1)) (ae (cst (.int 2)) ag))) (ae (aL (ae (cst (.int 0)) (ae (cst (.int 1)) ag))) (ae (aL (ae (cst (.int 0)) (ae (cst (.int 2)) ag))) ag)))) ag))) (ae (cst (.str "1")) (ae (aL (ae (cst (.int 1)) (ae (aL ag) (ae (aL ag) ag)))) ag)))))) (([] ++ ([] ++ [])) ++ (([] ++ ((([] ++ ([] ++ [])) ++ []) ++ [])) ++ (([] ++ ((([] ++ ([] ++ [])) ++ []) ++ [])) ++ (([] ++ ((([] ++ ([] ++ [])) ++ (([] ++ ([] ++ [])) ++ (([] ++ ([] ++ [])) ++ []))) ++ [])) ++ ([] ++ (([] ++ ([] ++ ([] ++ []))) ++ [])))))) _ [] (by kernel_rfl) (λ_=>rfl) (by kernel_rfl)))) eG.nd)
  (ax (bh (cI bI fG (av 1) (iQ 0 aU (hr.mono (by decide)) aK rfl rfl (af ao ah)) (λ_ _=>rfl))))))⟩,λds β h=>lG ds β h⟩
def eH:aC ["box","some","left","found"] ["box","some"] (ai c9):=⟨rfl,rfl,rfl,by decide +kernel,rfl,by decide +kernel,by decide +kernel⟩
def lb {f:Addr}{fd:FuncData}{aB:List D->Int->FB}(F:gO K mg "_law_shuffled" c9 ["box","some"] f fd)(B:h9 mg)(aU:kH P w K mg base "_law_take" ["box","many"] 1 aB):kH P w K mg base "_law_shuffled" ["box","some"] 2 (mr 4 1 (c5 aB)):=
 ⟨⟨f,fd,F.mg,F.F.kp,F.b,ll (ca:=λ_=>0) (N:=["box","some","left","found"]) (k:=1) F.F eH (by decide) λcdv A outer s H G b E hr=>
  (au (mQ (i:=2) (jH kW yS rfl B.list (by decide +kernel) (av 1)) eH.nd)
  (au (mQ (i:=3) (bE ah) eH.nd)
  (au (zg 1000 PassesOwn.leaving (bw (eT hr.units) fA (av 2) (bE ah) (bf _))
  (ax (xI 3 2 (λ_=>rfl) (iQ 0 aU (hr.mono (by decide)) aK rfl rfl (af (bQ fB ml rfl B.len Kr (av 2)) ah)))))
  (ax (bh (jH fm rC rfl B.tuple (by decide +kernel) (av 3)))))))⟩,λds β h=>lG ds β h⟩
def fV:aC ["many","rows","found","a","b"] ["many","rows"] (ai g7):=⟨rfl,rfl,rfl,by decide +kernel,rfl,by decide +kernel,by decide +kernel⟩
def pA {f:Addr}{fd:FuncData}(F:gO K mg "_law_told" g7 ["many","rows"] f fd)(B:h9 mg):cn P w K mg base ca "_law_told" ["many","rows"] 1 (ba 5 2 (g8)):=
 ⟨⟨f,fd,F.mg,F.F.kp,F.b,aQ (N:=["many","rows","found","a","b"]) (k:=0) F.F fV λcdv A outer s H G E hr=>
  (au (mQ (i:=2) (bE ah) fV.nd)
  (au (jG PassesOwn.leaving rfl (mf rfl B.range (av 0)) (gA (i:=3) fV.nd)
  (ax (jG PassesOwn.leaving rfl (mf rfl B.range (av 0)) (gA (i:=4) fV.nd)
  (ax (bS (sU.t (qG (bw (eT hr.units) fA (av 3) (av 4) (bf _)) (ng (dO rfl (bQ (iu rfl) i1 rfl B.all (by decide +kernel) (eZ (NB:=["row","a","b"]) (own:=1) (ixs:=[3,4]) [] rfl (fJ (by kernel_rfl)) (λ_ _=>rfl) (qK rfl (av 1)) (λH0 G0 par br bx C ex s3 H3 pn=>(gA (i:=0) (show (["row","a","b"]:List Str).Nodup by decide +kernel))) (λH0 G0 par br bx C ex s3 H3 pn hB1=>e9) (λH0 G0 par br bx C ex s3 H3 pn hB1=>(kP qe yq (sV rfl (av 0) (av 1)) (sV rfl (av 0) (av 2)) (bf _))))))) (λ_ _=>rfl)))
  (ax (xo 2 (λ_=>rfl) (cQ (af (ak 3 rfl) (af (ak 4 rfl) ah)))))
  bJ)))))
  (ax (bh (jH fm rC rfl B.tuple (by decide +kernel) (av 2))))))⟩,λds h=>aJ ds h⟩
def ig:aC ["box","most","many","rows"] ["box","most"] (ai fW):=⟨rfl,rfl,rfl,by decide +kernel,rfl,by decide +kernel,by decide +kernel⟩
def oG {f:Addr}{fd:FuncData}{bD:List D->FR}{aB bZ:List D->Int->FB}(F:gO K mg "_law_small" fW ["box","most"] f fd)(B:h9 mg)(dw:cn P w K mg base ca "_law_told" ["many","rows"] 1 bD)(aU:kH P w K mg base "_law_take" ["box","many"] 1 aB)(fL:kH P w K mg base "_law_shuffled" ["box","some"] 2 bZ):kH P w K mg base "_law_small" ["box","most"] 3 (mr 4 1 (fU bD aB bZ)):=
 ⟨⟨f,fd,F.mg,F.F.kp,F.b,ll (ca:=ca) (N:=["box","most","many","rows"]) (k:=2) F.F ig (by decide) λcdv A outer s H G b E hr=>
  (au (cz (i:=2) (cc iY jj ao (iQ 0 aU (hr.mono (by decide)) aK rfl rfl (af (ak 1 rfl) ah))) ig.nd)
  (au (Br (i:=3) (NB:=["turn","box","many"]) (own:=1) (ixs:=[0,2]) [] rfl (fJ (by kernel_rfl)) (λ_ _=>rfl) (mf rfl B.range (cc iY jj ao (iQ 0 aU (hr.mono (by decide)) aK rfl rfl (af ao ah)))) (λH0 G0 par br bx C ex s3 H3 pn=>(gA (i:=0) (show (["turn","box","many"]:List Str).Nodup by decide +kernel))) (λH0 G0 par br bx C ex s3 H3 pn hB1=>e9) (λH0 G0 par br bx C ex s3 H3 pn hB1=>(iQ 1 fL (hr.mono (by decide)) pD rfl rfl (af (SE.wv (vI rfl rfl B.list rfl B.range (av 2))) ah))) ig.nd)
  (ax (bh (cQ (af (ak 2 rfl) (af (ay dw (hr.mono (by decide)) aK rfl rfl (af (ak 2 rfl) (af (ak 3 rfl) ah))) ah)))))))⟩,λds β h=>lG ds β h⟩
def pq:aC ["way_here","one","thing","other","rows","others"] ["way_here","one","thing","other","rows","others"] (ai gc):=⟨rfl,rfl,rfl,by decide +kernel,rfl,by decide +kernel,by decide +kernel⟩
def oj {f:Addr}{fd:FuncData}{dB dD cM cK eV b7 gu:List D->FR}(F:gO K mg "_law_asked" gc ["way_here","one","thing","other","rows","others"] f fd)(B:h9 mg)(jx:cn P w K mg base ca "behind_of" ["one","other"] 8 dB)(jE:cn P w K mg base ca "beside_of" ["one","other"] 8 dD)(ib:cn P w K mg base ca "rows_behind" ["one","other","rows","others"] 8 cM)(ie:cn P w K mg base ca "rows_beside" ["one","other","rows","others"] 8 cK)(kq:cn P w K mg base ca "replaced" ["order","thing","other"] 8 eV)(fH:cn P w K mg base ca "rows_replaced" ["order","thing","other","rows","others"] 8 b7)(lP:cn P w K mg base ca "without" ["order","thing"] 7 gu):cn P w K mg base ca "_law_asked" ["way_here","one","thing","other","rows","others"] 9 (ba 6 6 (fQ dB dD cM cK eV b7 gu)):=
 ⟨⟨f,fd,F.mg,F.F.kp,F.b,aQ (N:=["way_here","one","thing","other","rows","others"]) (k:=8) F.F pq λcdv A outer s H G E hr=>
  (ax (bS (bw (dU hr.units) fA (av 0) ao (bf _))
  (ax (bc (ay jx (hr.mono (by decide)) aK rfl rfl (af (ak 1 rfl) (af (ak 3 rfl) ah)))))
  (ax (bS (bw (dU hr.units) fA (av 0) ao (bf _))
  (ax (bc (ay jE (hr.mono (by decide)) aK rfl rfl (af (ak 1 rfl) (af (ak 3 rfl) ah)))))
  (ax (bS (bw (dU hr.units) fA (av 0) ao (bf _))
  (ax (bc (ay ib (hr.mono (by decide)) aK rfl rfl (af (ak 1 rfl) (af (ak 3 rfl) (af (ak 4 rfl) (af (ak 5 rfl) ah)))))))
  (ax (bS (bw (dU hr.units) fA (av 0) ao (bf _))
  (ax (bc (ay ie (hr.mono (by decide)) aK rfl rfl (af (ak 1 rfl) (af (ak 3 rfl) (af (ak 4 rfl) (af (ak 5 rfl) ah)))))))
  (ax (bS (bw (dU hr.units) fA (av 0) ao (bf _))
  (ax (bc (ay kq (hr.mono (by decide)) aK rfl rfl (af (ak 1 rfl) (af (ak 2 rfl) (af (ak 3 rfl) ah))))))
  (ax (bS (bw (dU hr.units) fA (av 0) ao (bf _))
  (ax (bc (ay fH (hr.mono (by decide)) aK rfl rfl (af (ak 1 rfl) (af (ak 2 rfl) (af (ak 3 rfl) (af (ak 4 rfl) (af (ak 5 rfl) ah))))))))
  (ax (bc (ay lP (hr.mono (by decide)) aK rfl rfl (af (ak 1 rfl) (af (ak 2 rfl) ah)))))))))))))))))⟩,λds h=>aJ ds h⟩
def jq:aC ["way_here","one","thing","other","rows","others","e"] ["way_here","one","thing","other","rows","others"] (ai dH):=⟨rfl,rfl,rfl,by decide +kernel,rfl,by decide +kernel,by decide +kernel⟩
def l5 {f:Addr}{fd:FuncData}{marks:Str->Option Nat}{cT:List D->FR}(F:gO K mg "_law_told_by" dH ["way_here","one","thing","other","rows","others"] f fd)(B:h9 mg)(iZ:cn P w K mg base ca "_law_asked" ["way_here","one","thing","other","rows","others"] 9 cT)(MK:GQ P w K mg base ca "RankError" "_law_only" marks):cn P w K mg base ca "_law_told_by" ["way_here","one","thing","other","rows","others"] 10 (ba 7 6 (dM marks cT)):=
 ⟨⟨f,fd,F.mg,F.F.kp,F.b,aQ (N:=["way_here","one","thing","other","rows","others","e"]) (k:=9) F.F jq λcdv A outer s H G E hr=>
  (au (Bg (i:=6) MK hr (λEb Ex pn H G hpT=>
  (ax (bc (ay iZ (hr.mono (by decide)) hpT rfl rfl (af (ak 0 rfl) (af (ak 1 rfl) (af (ak 2 rfl) (af (ak 3 rfl) (af (ak 4 rfl) (af (ak 5 rfl) ah))))))))))
  jq.nd B.range (λe=>fJ (by kernel_rfl)) (by decide +kernel))
  (ax (mX (bE ah))))⟩,λds h=>aJ ds h⟩
def iz:aC ["box","order","row"] ["box","order"] (ai c8):=⟨rfl,rfl,rfl,by decide +kernel,rfl,by decide +kernel,by decide +kernel⟩
def lE {f:Addr}{fd:FuncData}{aB:List D->Int->FB}(F:gO K mg "_law_bad_rows" c8 ["box","order"] f fd)(B:h9 mg)(aU:kH P w K mg base "_law_take" ["box","many"] 1 aB):kH P w K mg base "_law_bad_rows" ["box","order"] 2 (mr 3 1 (de aB)):=
 ⟨⟨f,fd,F.mg,F.F.kp,F.b,ll (ca:=λ_=>0) (N:=["box","order","row"]) (k:=1) F.F iz (by decide) λcdv A outer s H G b E hr=>
  (au (cz (i:=2) (pC rfl rfl B.tuple rfl B.range (cI bI fG (av 1) ao (λ_ _=>rfl))) iz.nd)
  (ax (bh (cI bI fG (bE (af (SE.wv (bE ah)) (af uN (af (cQ (af (ak 2 rfl) ah)) (af (SE.wv (bE (af (xp rfl (av 2) (AQ ao) Ba) ah))) (af (SE.wv (bE (af (cc Aq DA (av 2) (cQ (af ao ah))) ah))) (af (SE.wv (bE (af (SE.wv (jH kW yS rfl B.list (by decide +kernel) (av 2))) ah))) (af (SE.wv (bE (af ao ah))) ah)))))))) (iQ 0 aU (hr.mono (by decide)) aK rfl rfl (af ao ah)) (λ_ _=>rfl)))))⟩,λds β h=>lG ds β h⟩
def eY:aC ["script","k","box","one","other","bad","no_thing","great","line","rows","way_here","others"] ["script"] (ai kf):=⟨rfl,rfl,rfl,by decide +kernel,rfl,by decide +kernel,by decide +kernel⟩
def AJ {f:Addr}{fd:FuncData}{eB bD aS:List D->FR}{cG b6 aB bK:List D->Int->FB}(F:gO K mg "law" kf ["script"] f fd)(B:h9 mg)(kn:cn P w K mg base ca "_law_box" ["script","k"] 1 eB)(dw:cn P w K mg base ca "_law_told" ["many","rows"] 1 bD)(bo:cn P w K mg base ca "_law_told_by" ["way_here","one","thing","other","rows","others"] 10 aS)(fX:kH P w K mg base "_law_small" ["box","most"] 3 cG)(fI:kH P w K mg base "_law_no_order" ["box"] 2 b6)(aU:kH P w K mg base "_law_take" ["box","many"] 1 aB)(dg:kH P w K mg base "_law_bad_rows" ["box","order"] 2 bK):fF P w K mg base (kU P w) 11 f fd ["script"] (AH K ca 1 (ba 12 1 (wX eB bD aS cG b6 aB bK))):=
 aQ (N:=["script","k","box","one","other","bad","no_thing","great","line","rows","way_here","others"]) (k:=10) F.F eY λcdv A outer s H G E hr=>
  (au (jG PassesOwn.leaving rfl (mf rfl B.range (sh (xZ rfl) CS rfl B.max (by decide +kernel) ao (sh (xU rfl) Eh rfl B.min (by decide +kernel) (bQ fB ml rfl B.len Kr (av 0)) ao))) (gA (i:=1) eY.nd)
  (au (AV (i:=2) rfl (y6 kn (hr.mono (by decide)) aK rfl rfl (af (ak 0 rfl) (af (ak 1 rfl) ah))) eY.nd)
  (au (Bx (i:=3) (j:=4) eY.nd (by decide) (iQ 2 fX (hr.mono (by decide)) aK rfl rfl (af ao ah)) (iQ 2 fX (hr.mono (by decide)) aK rfl rfl (af ao ah)))
  (au (cz (i:=5) (iQ 2 fI (hr.mono (by decide)) aK rfl rfl ah) eY.nd)
  (au (cz (i:=6) (cI bI fG (bE (af (cI bI fG (av 3) ao (λ_ _=>rfl)) (af (CQ zw Cw ao) (af eh (af uN (af jw (af (cQ (af ao ah)) (af (cc AE CA ao ao) ah)))))))) (iQ 2 aU (hr.mono (by decide)) aK rfl rfl (af ao ah)) (λ_ _=>rfl)) eY.nd)
  (au (cz (i:=7) (cQ (af ao (af (cQ ah) ah))) eY.nd)
  (au (cz (i:=8) (cQ (af ao (af (ay dw (hr.mono (by decide)) aK rfl rfl (af ao (af (SE.wv (bE (af (pC rfl rfl B.tuple rfl B.range ao) ah))) ah))) ah))) eY.nd)
  (au (cz (i:=9) (iQ 2 dg (hr.mono (by decide)) aK rfl rfl (af (ak 3 rfl) ah)) eY.nd)
  (au (jG PassesOwn.leaving rfl (mf rfl B.range ao) (gA (i:=10) eY.nd)
  (au (bS (bw (eT hr.units) fA (ay bo (hr.mono (by decide)) aK rfl rfl (af (ak 10 rfl) (af (ak 5 rfl) (af (ak 6 rfl) (af (ak 5 rfl) (af (ak 9 rfl) (af (ak 9 rfl) ah))))))) (bE (af ao ah)) (bf _))
  (ax (bh eh))
  bJ)
  (au (bS (sU.t (qG (bw qe yq (av 10) ao (bf _)) (ng (bw (eT hr.units) fA (ay bo (hr.mono (by decide)) aK rfl rfl (af (ak 10 rfl) (af (ak 3 rfl) (af ao (af (ak 5 rfl) (af (ak 9 rfl) (af (ak 9 rfl) ah))))))) (bE (af ao ah)) (bf _))) (λ_ _=>rfl)))
  (ax (bh eh))
  bJ)
  (au (bS (sU.t (qG (bw CJ ER (av 10) ao (bf _)) (ng (bw (eT hr.units) fA (ay bo (hr.mono (by decide)) aK rfl rfl (af (ak 10 rfl) (af (ak 3 rfl) (af (ak 6 rfl) (af (ak 4 rfl) (af (ak 9 rfl) (af (ak 9 rfl) ah))))))) (bE (af ao ah)) (bf _))) (λ_ _=>rfl)))
  (ax (bh eh))
  bJ)
  (au (bS (sU.t (qG (bw (zC hr.u1) FT (av 10) (cQ (af ao (af ao ah))) (by with_unfolding_all rfl)) (ng (bw (eT hr.units) fA (ay bo (hr.mono (by decide)) aK rfl rfl (af (ak 10 rfl) (af (ak 3 rfl) (af (ak 6 rfl) (af (ak 5 rfl) (af (ak 9 rfl) (af (ak 9 rfl) ah))))))) (bE (af ao ah)) (bf _))) (λ_ _=>rfl)))
  (ax (bh eh))
  bJ)
  (ax (bS (bw (zC hr.u1) FT (av 10) (cQ (af ao (af ao (af ao ah)))) (by with_unfolding_all rfl))
  (au (cz (i:=11) (iQ 2 dg (hr.mono (by decide)) aK rfl rfl (af (ak 4 rfl) ah)) eY.nd)
  (ax (bS (bw (eT hr.units) fA (ay bo (hr.mono (by decide)) aK rfl rfl (af (ak 10 rfl) (af (ak 3 rfl) (af ao (af (ak 4 rfl) (af (ak 9 rfl) (af (ak 11 rfl) ah))))))) (bE (af ao ah)) (bf _))
  (ax (bh eh))
  bJ)))
  bJ)))))))
  (au (jG PassesOwn.leaving rfl (mf rfl B.range ao) (gA (i:=10) eY.nd)
  (ax (bS (bw (eT hr.units) fA (ay bo (hr.mono (by decide)) aK rfl rfl (af (ak 10 rfl) (af (ak 3 rfl) (af ao (af (cI bI fG (bE (af (ak 7 rfl) (af (ak 8 rfl) ah))) (iQ 2 aU (hr.mono (by decide)) aK rfl rfl (af ao ah)) (λ_ _=>rfl)) (af (ak 9 rfl) (af (ak 9 rfl) ah))))))) (bE (af ao ah)) (bf _))
  (ax (bh eh))
  bJ)))
  (au (jG PassesOwn.leaving rfl (E8 rfl B.range ao ao) (gA (i:=10) eY.nd)
  (ax (bS (bw (eT hr.units) fA (ay bo (hr.mono (by decide)) aK rfl rfl (af (ak 10 rfl) (af (ak 7 rfl) (af ao (af (cQ (af ao (af (cQ ah) ah))) (af (ak 9 rfl) (af (ak 9 rfl) ah))))))) (bE (af ao ah)) (bf _))
  (ax (bh eh))
  bJ)))
  (ax (bS (bw (eT hr.units) fA (ay bo (hr.mono (by decide)) aK rfl rfl (af ao (af (cQ (af ao (af (cQ ah) ah))) (af ao (af (ak 3 rfl) (af (ak 9 rfl) (af (ak 9 rfl) ah))))))) (bE (af ao ah)) (bf _))
  (ax (bh eh))
  bJ)))))))))))))
  (ax (bh eh)))
end
end RQ
namespace RM
open PySem L2
theorem Et {t u:VF Bool}{vs:List Nv}{β:Int}{a b:Bool}(h:t vs β=.ok a β)(h':u vs β=.ok b β):uQ t u vs β=.ok (a && b) β:=by
 rw[uD,h];dsimp only[R.bnd]
 cases a with
 |true=>rw[Jk rfl,h'];rfl
 |false=>rfl
def cW {t:VF Bool}{vs:List Nv}{β:Int}{a:Bool}(h:t vs β=.ok a β):sF t vs β=.ok (!a) β:=by rw[uO,h];rfl
def DV {fa:VF D}{vs:List Nv}{β:Int}{l:List Pr}{f:Pr->Bool}(h:fa vs β=.ok (.list (l.map λq=>PyData.bool (f q))) β):f1 fa (bX λbs=>bs.all id) vs β=.ok (.bool (l.all f)) β:=by
 refine gK h ?_
 simp only[bX]
 rw[gf]
 simp[Ln]
def upTo (n:Nat)(f:Pr->Bool)(i k:Nat):List Pr:=(OM.dE n).filter λp=>(decide (p.1 < i) || (decide (p.1=i) && decide (p.2 < k))) && f p
def zc {n:Nat}(f:Pr->Bool)(i k:Nat)(h8:n<=8):(upTo n f i k).length<=64:=by
 have h1:(upTo n f i k).length<=(OM.dE n).length:=List.length_filter_le _ _
 rw[iG] at h1
 have:n * n<=64:=Nat.mul_le_mul h8 h8
 omega
def xi (n:Nat)(f:Pr->Bool):upTo n f 0 0= []:=by
 unfold upTo
 rw[List.filter_eq_nil_iff]
 intro p hp
 have:=OM.cy.mp hp
 rw[Jy (by omega),Jy (p:=p.2 < ((0:Nat):Int)) (by omega)];simp
def yY (n:Nat)(f:Pr->Bool):upTo n f n 0=(OM.dE n).filter f:=by
 unfold upTo
 refine List.filter_congr λp hp=>?_
 have:=(OM.cy.mp hp).1.2
 rw[Jv this];simp
def zK (n:Nat)(f:Pr->Bool)(i:Nat):upTo n f i n=upTo n f (i + 1) 0:=by
 unfold upTo
 refine List.filter_congr λp hp=>?_
 have h:=OM.cy.mp hp
 congr 1
 rw[JQ]
 simp only[Bool.or_eq_true,JD,JN]
 omega
def pL {n i k:Nat}(f:Pr->Bool)(hi:i < n)(hk:k < n):upTo n f i (k + 1)=upTo n f i k ++ if f ((i:Int),(k:Int))=true then [((i:Int),(k:Int))] else []:=by
 refine OM.lr (OM.gG _ (OM.iO n)) ?_ λx=>?_
 ·show List.Pairwise OM.Au _
  rw[List.pairwise_append]
  refine⟨OM.gG _ (OM.iO n),?_,λp hp q hq=>?_⟩
  ·split <;> simp
  ·unfold upTo at hp
   have h1:=(J4.mp hp).2
   simp only[Bool.or_eq_true,JD,JN] at h1
   split at hq
   ·have:q=((i:Int),(k:Int)):=by simpa using hq
    subst this
    show p.1 < (i:Int)\/(p.1=(i:Int)/\p.2 < (k:Int))
    exact h1.1
   ·cases hq
 ·rw[JT]
  unfold upTo
  rw[J4,J4,OM.cy]
  simp only[Bool.or_eq_true,JD,JN]
  constructor
  ·rintro⟨h1,h2,h3⟩
   by_cases z:x.1=i/\x.2=k
   ·obtain⟨xa,xb⟩:=x
    simp only at z h3
    obtain⟨rfl,rfl⟩:=z
    rw[Jk h3]
    exact .inr (JS.mpr rfl)
   ·exact .inl ⟨h1,by omega,h3⟩
  ·rintro (⟨h1,h2,h3⟩ |h)
   ·exact⟨h1,by omega,h3⟩
   ·split at h
    ·rename_i hf
     have:x=((i:Int),(k:Int)):=by simpa using h
     subst this
     exact⟨⟨⟨by show (0:Int)<=(i:Int);omega,by show (i:Int) < n;omega⟩,by show (0:Int)<=(k:Int);omega,by show (k:Int) < n;omega⟩,.inr ⟨rfl,by show (k:Int) < ((k + 1:Nat):Int);omega⟩,hf⟩
    ·cases h
def tupI (r:List Int):D:=.tuple (r.map int)
def wg {fa fb:VF D}{vs:List Nv}{β:Int}{r:List Int}{k:Int}(h:fa vs β=.ok (tupI r) β)(h':fb vs β=.ok (.int k) β)(hk:k∈r):lT fa fb vs β=.ok (.int (r.idxOf k:Nat)) β:=by
 unfold lT
 rw[h]
 dsimp only[R.bnd]
 rw[Jk (by rfl),h']
 dsimp only[R.bnd,AK,tupI]
 rw[iH]
 dsimp only
 rw[Jk hk];rfl
noncomputable def Aa:List D->FR:=ba 6 2 fZ
def Dt (ns:List Int)(k:Nat):∃z,Aa [cg ns,.int k]=.ok (.list [.int z]) true:=by
 show ∃z,fin (fZ [.fz (cg ns),.fz (.int k),.no,.no,.no,.no] 0)=.ok (.list [.int z]) true
 unfold fZ
 have e0:f2 (f2 (cst (.int 7919)) (gv 1) cU) (cst (.int 13)) cD [Nv.da (cg ns),.da (.int k),.no,.no,.no,.no] 0=.ok (.int (7919 * k + 13)) 0:=bb (bb (x:=.int 7919) (y:=.int k) rfl rfl (qx ⟨by omega,by omega⟩)) rfl rfl
 rw[aV (env':=[.fz (cg ns),.fz (.int k),.fz (.int (7919 * k + 13)),.no,.no,.no]) (β':=0) ?h0]
 case h0=>
  show toS (f2 (f2 (cst (.int 7919)) (gv 1) cU) (cst (.int 13)) cD [Nv.da (cg ns),.da (.int k),.no,.no,.no,.no] 0) _=_
  rw[e0];rfl
 obtain⟨c,hc⟩:∃c:Int,hZ ([] ++ []) (dY (f2 (gv 1) (f1 (gv 0) fR) pG)) (dv 2 ([] ++ []) (f2 (gv 0) (gv 1) gN)) kh [.fz (cg ns),.fz (.int k),.fz (.int (7919 * k + 13)),.no,.no,.no] 0=.nx [.fz (cg ns),.fz (.int k),.fz (.int c),.no,.no,.no] 0:=by
  have e:dY (f2 (gv 1) (f1 (gv 0) fR) pG) (vl [.fz (cg ns),.fz (.int k),.fz (.int (7919 * k + 13)),.no,.no,.no]) 0=.ok (decide ((k:Int) < (ns.map int).length)) 0:=DN rfl rfl
  by_cases h:k < ns.length
  ·rw[Jv (by simp;exact h)] at e
   refine⟨ns[k],?_⟩
   rw[cV e]
   show toS (f2 (gv 0) (gv 1) gN [Nv.da (cg ns),.da (.int k),.da (.int (7919 * k + 13)),.no,.no,.no] 0) _=_
   rw[bb (x:=cg ns) (y:=.int k) (d:=.int ns[k]) (β1:=0) (β2:=0) rfl rfl]
   ·rfl
   ·show kg (ns.map int) (k:Int)=_
    rw[rK,Dx h];rfl
  ·rw[Jy (by simp;omega)] at e
   exact⟨_,by rw[bH e];rfl⟩
 rw[aV hc]
 have e1:dY (f2 (f2 (gv 2) (cst (.int 2)) jy) (cst (.int 0)) (fN false)) (vl [.fz (cg ns),.fz (.int k),.fz (.int c),.no,.no,.no]) 0=.ok (decide (c % 2=0)) 0:=la (neg:=false) (bb rfl rfl (ou (by omega))) rfl
 by_cases h:c % 2=0
 ·rw[Jv h] at e1
  refine⟨c / 2,?_⟩
  rw[fT (d:=.list [.int (c / 2)]) (b:=true) (β':=0)]
  ·rfl
  ·rw[cV e1]
   show toS (bz (ae (f2 (gv 2) (cst (.int 2)) EL) ag) [Nv.da (cg ns),.da (.int k),.da (.int c),.no,.no,.no] 0) _=_
   rw[jR (ds:=[.int (c / 2)]) (β1:=0)]
   ·rfl
   ·have e2:f2 (gv 2) (cst (.int 2)) EL [Nv.da (cg ns),.da (.int k),.da (.int c),.no,.no,.no] 0=.ok (.int (c / 2)) 0:=bb (x:=.int c) rfl rfl (FE (by omega) (by omega))
    rw[c3,e2];rfl
   ·simp
 ·rw[Jy h] at e1
  rw[aV (env':=[.fz (cg ns),.fz (.int k),.fz (.int c),.no,.no,.no]) (β':=0) (by rw[bH e1];rfl)]
  rw[aV (env':=[.fz (cg ns),.fz (.int k),.fz (.int c),.fz (.int 0),.no,.no]) (β':=0) (by rfl)]
  obtain⟨env',β',el,z,x,y,rfl,rfl⟩:=iD (t:=.nm 4) (m:=aP (dv 5 ((((([] ++ []) ++ []) ++ ([] ++ [])) ++ []) ++ []) (f2 (f2 (f2 (f2 (f2 (gv 2) (cst (.int 2147483647)) jy) (cst (.int 48271)) cU) (f2 (cst (.int 7919)) (gv 4) cU) cD) (cst (.int 1)) cD) (cst (.int 2147483647)) jy))
    (aP (dv 5 (([] ++ []) ++ []) (f2 (f2 (gv 5) (gv 5) cU) (cst (.int 2147483629)) jy))
    (dv 3 (([] ++ []) ++ (([] ++ ([] ++ [])) ++ [])) (f2 (f2 (gv 3) (cst (.int 2147483647)) cU) (f2 (f2 (gv 5) (f2 (gv 5) (cst (.int 13)) cD) cU) (cst (.int 2147483647)) jy) cD)))) (ds:=cP 0 16) (k:=0)
   (λ_ env β=>∃(z:Int) (x y:Sl),env= [.fz (cg ns),.fz (.int k),.fz (.int c),.fz (.int z),x,y]/\β=0) (env:=[.fz (cg ns),.fz (.int k),.fz (.int c),.fz (.int 0),.no,.no]) (β:=0) ⟨0,.no,.no,rfl,rfl⟩ (by
    rintro i d env β hi ⟨z,x,y,rfl,rfl⟩
    obtain⟨_,rfl⟩:=gE hi
    generalize (0 + (i:Int))=j
    refine⟨[.fz (cg ns),.fz (.int k),.fz (.int c),.fz (.int z),.fz (.int j),y],rfl,?_⟩
    have b1:0<=c % 2147483647/\c % 2147483647 < 2147483647:=⟨KP _ (by omega),KQ _ (by omega)⟩
    have a1:f2 (f2 (f2 (f2 (f2 (gv 2) (cst (.int 2147483647)) jy) (cst (.int 48271)) cU) (f2 (cst (.int 7919)) (gv 4) cU) cD) (cst (.int 1)) cD) (cst (.int 2147483647)) jy (vl [.fz (cg ns),.fz (.int k),.fz (.int c),.fz (.int z),.fz (.int j),y]) 0=.ok (.int ((c % 2147483647 * 48271 + 7919 * j + 1) % 2147483647)) 0:=
     bb (bb (bb (bb (bb (x:=.int c) rfl rfl (ou (by omega))) rfl (Aj ⟨by omega,by omega⟩)) (bb (x:=.int 7919) (y:=.int j) rfl rfl (qx ⟨by omega,by omega⟩)) rfl) rfl rfl) rfl (ou (by omega))
    generalize hp:(c % 2147483647 * 48271 + 7919 * j + 1) % 2147483647=p at a1
    have bp:0<=p/\p < 2147483647:=by rw[<-hp];exact⟨KP _ (by omega),KQ _ (by omega)⟩
    rw[aV (env':=[.fz (cg ns),.fz (.int k),.fz (.int c),.fz (.int z),.fz (.int j),.fz (.int p)]) (β':=0) ?k1]
    case k1=>rw[i9,a1];rfl
    have a2:f2 (f2 (gv 5) (gv 5) cU) (cst (.int 2147483629)) jy (vl [.fz (cg ns),.fz (.int k),.fz (.int c),.fz (.int z),.fz (.int j),.fz (.int p)]) 0=.ok (.int (p * p % 2147483629)) 0:=
     bb (bb (x:=.int p) (y:=.int p) rfl rfl (qx ⟨by omega,by omega⟩)) rfl (ou (by omega))
    generalize hq:p * p % 2147483629=q at a2
    have bq:0<=q/\q < 2147483629:=by rw[<-hq];exact⟨KP _ (by omega),KQ _ (by omega)⟩
    rw[aV (env':=[.fz (cg ns),.fz (.int k),.fz (.int c),.fz (.int z),.fz (.int j),.fz (.int q)]) (β':=0) ?k2]
    case k2=>rw[i9,a2];rfl
    have a3:f2 (f2 (gv 3) (cst (.int 2147483647)) cU) (f2 (f2 (gv 5) (f2 (gv 5) (cst (.int 13)) cD) cU) (cst (.int 2147483647)) jy) cD (vl [.fz (cg ns),.fz (.int k),.fz (.int c),.fz (.int z),.fz (.int j),.fz (.int q)]) 0=.ok (.int (z * 2147483647 + q * (q + 13) % 2147483647)) 0:=
     bb (bb (x:=.int z) rfl rfl (Aj ⟨by omega,by omega⟩)) (bb (bb (x:=.int q) (y:=.int (q + 13)) rfl rfl (qx ⟨by omega,by omega⟩)) rfl (ou (by omega))) rfl
    refine⟨[.fz (cg ns),.fz (.int k),.fz (.int c),.fz (.int (z * 2147483647 + q * (q + 13) % 2147483647)),.fz (.int j),.fz (.int q)],0,?_,_,_,_,rfl,rfl⟩
    rw[i9,a3];rfl)
  refine⟨z,?_⟩
  rw[aV (env':=[.fz (cg ns),.fz (.int k),.fz (.int c),.fz (.int z),x,y]) (β':=0) ?h2]
  case h2=>exact el
  show fin (toS (bz (ae (gv 3) ag) [.da (cg ns),.da (.int k),.da (.int c),.da (.int z),x.val,y.val] 0) _)=_
  rw[jR (ds:=[.int z]) (β1:=0) rfl (by simp)]
  rfl
noncomputable def pY:List D->Int->FB:=mr 4 1 (c5 cC)
def DT (ns:List Int)(hz:ns.length<=100)(β:Int):∃(ms:List Int) (β':Int),pY [.list (ns.map int)] β=.ok (tupI ms) false β'/\ms.Perm ns:=by
 show ∃(ms:List Int) (β':Int),xu (c5 cC [.bx,.fz (.list (ns.map int)),.no,.no] β)=.ok (tupI ms) false β'/\ms.Perm ns
 unfold c5
 rw[aV (env':=[.bx,.fz (.list (ns.map int)),.ow (.list (ns.map int)),.no]) (β':=β) (by rfl)]
 have ez:bz ag [Nv.bx,.da (.list (ns.map int)),.da (.list (ns.map int)),.no] β=.ok (.list []) β:=jR rfl (by simp)
 rw[aV (env':=[.bx,.fz (.list (ns.map int)),.ow (.list (ns.map int)),.ow (.list [])]) (β':=β) ?h]
 case h=>
  show toS (bz ag [Nv.bx,.da (.list (ns.map int)),.da (.list (ns.map int)),.no] β) _=_
  rw[ez];rfl
 obtain⟨env',β',ew,ms,rfl,hp⟩:=nj (L:=[] ++ []) (t:=dY (f2 (gv 2) (bz ag) (fN true))) (m:=i0 3 2 ([] ++ []) (j9 0 cC (ae (f1 (gv 2) fR) ag)))
  (λk env β=>∃ls ms:List Int,env= [.bx,.fz (.list (ns.map int)),.ow (.list (ls.map int)),.ow (.list (ms.map int))]/\(ms ++ ls).Perm ns/\k=ls.length)
  (λenv β=>∃ms:List Int,env= [.bx,.fz (.list (ns.map int)),.ow (.list []),.ow (.list (ms.map int))]/\ms.Perm ns) (n:=1000) (k:=ns.length) (env:=[.bx,.fz (.list (ns.map int)),.ow (.list (ns.map int)),.ow (.list [])]) (β:=β) (by omega) ⟨ns,[],rfl,by simp,rfl⟩ (by
   rintro k env β ⟨ls,ms,rfl,hp,rfl⟩
   have e1:bz ag [Nv.bx,.da (.list (ns.map int)),.da (.list (ls.map int)),.da (.list (ms.map int))] β=.ok (.list (([]:List Int).map int)) β:=jR rfl (by simp)
   have et:dY (f2 (gv 2) (bz ag) (fN true)) [Nv.bx,.da (.list (ns.map int)),.da (.list (ls.map int)),.da (.list (ms.map int))] β=.ok (!decide (ls= [])) β:=
    kI _ _ _ _ (bb (x:=.list (ls.map int)) rfl e1 (by rw[sE];rfl))
   refine⟨_,_,et,?_⟩
   have hlen:=hp.length_eq
   rw[JP] at hlen
   cases ls with
   |nil=>exact .inl ⟨rfl,ms,rfl,by simpa using hp⟩
   |cons y ys=>
    refine .inr ⟨rfl,?_⟩
    have hm:(0:Int) < ((y :: ys).length:Nat)/\(((y :: ys).length:Nat):Int) < 1073741824:=by
     have:(y :: ys).length<=100:=by omega
     constructor
     ·simp
     ·omega
    obtain⟨j,hj⟩:∃j:Nat,β % (((y :: ys).length:Nat):Int)=j:=⟨(β % (((y :: ys).length:Nat):Int)).toNat,by have:=KP β (b:=(((y :: ys).length:Nat):Int)) (by omega);omega⟩
    have hj2:j < (y :: ys).length:=by have:=KQ β hm.1;omega
    have ef:j9 0 cC (ae (f1 (gv 2) fR) ag) [Nv.bx,.da (.list (ns.map int)),.da (.list ((y :: ys).map int)),.da (.list (ms.map int))] β=.ok (.int (j:Int)) (β / (((y :: ys).length:Nat):Int)):=by
     refine eO (ds:=[.int (((y :: ys).length:Nat):Int)]) (b:=false) (by rfl) ?_ (by rw[rS hm.1 hm.2,hj])
     show R.ok [int ((((y :: ys).map int).length:Nat):Int)] β=_
     rw[JE]
    have hpop:xQ ((y :: ys).map int) (.int (j:Int))=some (.int (y :: ys)[j],((y :: ys).eraseIdx j).map int):=by
     unfold xQ
     dsimp only
     rw[Jk ⟨by omega,by omega⟩]
     have es:seqIndex? (j:Int) ((y :: ys).map int).length=some j:=by
      rw[JE]
      exact PySem.StrLaws.seqIndex_nonneg (by omega) (by omega)
     rw[es]
     dsimp only
     rw[JC,Jr hj2,p7];rfl
    refine⟨[.bx,.fz (.list (ns.map int)),.ow (.list (((y :: ys).eraseIdx j).map int)),.ow (.list ((ms ++ [(y :: ys)[j]]).map int))],β / (((y :: ys).length:Nat):Int),((y :: ys).eraseIdx j).length,?_,?_,(y :: ys).eraseIdx j,ms ++ [(y :: ys)[j]],rfl,?_,rfl⟩
    ·show i0 3 2 ([] ++ []) (j9 0 cC (ae (f1 (gv 2) fR) ag)) [.bx,.fz (.list (ns.map int)),.ow (.list ((y :: ys).map int)),.ow (.list (ms.map int))] β=_
     rw[uE (ds:=ms.map int) (es:=(y :: ys).map int) (by rfl) (by rfl) (by decide) ef (by rfl) hpop (by rw[JE];omega),KO]
     rfl
    ·rw[List.length_eraseIdx]
     rw[Jk hj2]
     show (y :: ys).length - 1 < (y :: ys).length
     simp
    ·rw[KU]
     exact (List.Perm.append_left ms (oK (Jr hj2))).trans hp)
 refine⟨ms,β',?_,hp⟩
 rw[aV ew]
 rfl
def lL (rows:List (List Int))(p:Pr):Bool:= !decide (p.1=p.2) && rows.all λr=>decide (r.idxOf p.1 < r.idxOf p.2)
def Cj {α:Type}{fa:VF D}{vs:List Nv}{β:Int}{l:List α}{f:α->Bool}(h:fa vs β=.ok (.list (l.map λq=>PyData.bool (f q))) β):f1 fa (bX λbs=>bs.all id) vs β=.ok (.bool (l.all f)) β:=by
 refine gK h ?_
 simp only[bX]
 rw[gf]
 simp[Ln]
def kO:List D->FR:=ba 5 2 g8
def wV {n:Nat}{rows:List (List Int)}(h8:n<=8)(hr:rows.length<=100)(hp:∀r,r∈rows->r.Perm (fo n)):kO [.int n,.list (rows.map tupI)]=.ok (.tuple (((OM.dE n).filter (lL rows)).map cH)) false:=by
 show fin (g8 [.fz (.int n),.fz (.list (rows.map tupI)),.no,.no,.no] 0)=_
 unfold g8
 rw[aV (env':=[.fz (.int n),.fz (.list (rows.map tupI)),.ow (.list []),.no,.no]) (β':=0) ?g1]
 case g1=>rw[tu,jR (ds:=[]) rfl (by simp)];rfl
 obtain⟨env',β',ef,s,t,rfl,rfl⟩:=iD (t:=.nm 3) (m:=iS (.nm 4) [] (gz (gv 0))
   (hZ (([] ++ []) ++ ([] ++ [])) (uQ (dY (f2 (gv 3) (gv 4) (fN true))) (mZ (f1 (bL 1 [3,4] (.nm 0) (ij (gv 1)) kT (f2 (lT (gv 0) (gv 1)) (lT (gv 0) (gv 2)) pG)) (bX λbs=>bs.all id))))
   (vv 2 ([3] ++ ([4] ++ [])) (aL (ae (gv 3) (ae (gv 4) ag))))
   kh)) (ds:=cP 0 n) (k:=0)
  (λi env β=>∃s t:Sl,env= [.fz (.int n),.fz (.list (rows.map tupI)),.ow (.list ((upTo n (lL rows) i 0).map cH)),s,t]/\β=0)
  (env:=[.fz (.int n),.fz (.list (rows.map tupI)),.ow (.list []),.no,.no]) (β:=0) ⟨.no,.no,by rw[xi];rfl,rfl⟩ (by
   rintro i d env β hi ⟨s,t,rfl,rfl⟩
   obtain⟨hin,rfl⟩:=gE hi
   refine⟨[.fz (.int n),.fz (.list (rows.map tupI)),.ow (.list ((upTo n (lL rows) (0 + i) 0).map cH)),.fz (.int (0 + (i:Int))),t],rfl,?_⟩
   rw[Kx,Ka]
   obtain⟨env',β',ef,t2,rfl,rfl⟩:=iD (t:=.nm 4) (m:=hZ (([] ++ []) ++ ([] ++ [])) (uQ (dY (f2 (gv 3) (gv 4) (fN true))) (mZ (f1 (bL 1 [3,4] (.nm 0) (ij (gv 1)) kT (f2 (lT (gv 0) (gv 1)) (lT (gv 0) (gv 2)) pG)) (bX λbs=>bs.all id))))
     (vv 2 ([3] ++ ([4] ++ [])) (aL (ae (gv 3) (ae (gv 4) ag))))
     kh) (ds:=cP 0 n) (k:=0)
    (λk env β=>∃t:Sl,env= [.fz (.int n),.fz (.list (rows.map tupI)),.ow (.list ((upTo n (lL rows) i k).map cH)),.fz (.int i),t]/\β=0)
    (env:=[.fz (.int n),.fz (.list (rows.map tupI)),.ow (.list ((upTo n (lL rows) i 0).map cH)),.fz (.int i),t]) (β:=0) ⟨t,rfl,rfl⟩ (by
     rintro k d env β hk ⟨t,rfl,rfl⟩
     obtain⟨hkn,rfl⟩:=gE hk
     refine⟨[.fz (.int n),.fz (.list (rows.map tupI)),.ow (.list ((upTo n (lL rows) i (0 + k)).map cH)),.fz (.int i),.fz (.int (0 + (k:Int)))],rfl,?_⟩
     rw[Kx,Ka]
     have ec:bL 1 [3,4] (.nm 0) (ij (gv 1)) kT (f2 (lT (gv 0) (gv 1)) (lT (gv 0) (gv 2)) pG) (vl [.fz (.int n),.fz (.list (rows.map tupI)),.ow (.list ((upTo n (lL rows) i k).map cH)),.fz (.int i),.fz (.int k)]) 0=.ok (.list (rows.map λr=>PyData.bool (decide (r.idxOf (i:Int) < r.idxOf (k:Int))))) 0:=by
      refine je (l:=rows) (e:=tupI) (λr=>PyData.bool (decide (r.idxOf (i:Int) < r.idxOf (k:Int)))) rfl (by omega) λr hr=>⟨_,rfl,?_⟩
      have hp:=hp r hr
      refine bb (wg (r:=r) (k:=i) rfl rfl (hp.mem_iff.mpr (g9.mpr ⟨by omega,by omega⟩))) (wg (r:=r) (k:=k) rfl rfl (hp.mem_iff.mpr (g9.mpr ⟨by omega,by omega⟩))) ?_
      show some (PyData.bool (decide (((r.idxOf (i:Int):Nat):Int) < ((r.idxOf (k:Int):Nat):Int))))=_
      congr 2
      rw[JQ,JN,JN]
      omega
     have et:uQ (dY (f2 (gv 3) (gv 4) (fN true))) (mZ (f1 (bL 1 [3,4] (.nm 0) (ij (gv 1)) kT (f2 (lT (gv 0) (gv 1)) (lT (gv 0) (gv 2)) pG)) (bX λbs=>bs.all id))) (vl [.fz (.int n),.fz (.list (rows.map tupI)),.ow (.list ((upTo n (lL rows) i k).map cH)),.fz (.int i),.fz (.int k)]) 0=.ok (lL rows ((i:Int),(k:Int))) 0:=
      Et (la (neg:=true) (i:=i) (j:=k) rfl rfl) (jK (Cj ec))
     have hl:=zc (lL rows) i k h8
     by_cases c:lL rows ((i:Int),(k:Int))=true
     ·rw[c] at et
      refine⟨[.fz (.int n),.fz (.list (rows.map tupI)),.ow (.list ((upTo n (lL rows) i (k + 1)).map cH)),.fz (.int i),.fz (.int k)],0,?_,_,rfl,rfl⟩
      rw[cV et,pL (lL rows) hin hkn,Jk c,KO]
      exact Bu (i:=2) (L:=[3] ++ ([4] ++ [])) (env:=[.fz (.int n),.fz (.list (rows.map tupI)),.ow (.list ((upTo n (lL rows) i k).map cH)),.fz (.int i),.fz (.int k)]) (ds:=(upTo n (lL rows) i k).map cH) (by rfl) (Az rfl rfl) (by rfl) (by rw[JE];omega)
     ·rw[Bool.not_eq_true] at c
      rw[c] at et
      refine⟨[.fz (.int n),.fz (.list (rows.map tupI)),.ow (.list ((upTo n (lL rows) i (k + 1)).map cH)),.fz (.int i),.fz (.int k)],0,?_,_,rfl,rfl⟩
      rw[bH et,pL (lL rows) hin hkn,c]
      simp)
   rw[iB,Kx,zK] at ef
   refine⟨[.fz (.int n),.fz (.list (rows.map tupI)),.ow (.list ((upTo n (lL rows) (i + 1) 0).map cH)),.fz (.int i),t2],0,?_,_,_,rfl,rfl⟩
   rw[lB (env:=[.fz (.int n),.fz (.list (rows.map tupI)),.ow (.list ((upTo n (lL rows) i 0).map cH)),.fz (.int i),t]) (ir (n:=n) (β1:=0) rfl (by omega))]
   exact ef)
 rw[iB,Kx,yY] at ef
 rw[aV (env':=[.fz (.int n),.fz (.list (rows.map tupI)),.ow (.list (((OM.dE n).filter (lL rows)).map cH)),s,t]) (β':=0) ?g2]
 case g2=>
  rw[lB (env:=[.fz (.int n),.fz (.list (rows.map tupI)),.ow (.list []),.no,.no]) (ir (n:=n) (β1:=0) rfl (by omega))]
  exact ef
 rfl
def mT {rows:List (List Int)}{p:Pr}:lL rows p=true↔p.1≠p.2/\∀r,r∈rows->r.idxOf p.1 < r.idxOf p.2:=by
 unfold lL
 rw[JD,KW,decide_eq_false_iff_not,Kq]
 simp only[JN]
def qd {n:Nat}{rows:List (List Int)}(h1:1<=n)(h8:n<=8)(hne:rows≠ []):OM.Ord n ((OM.dE n).filter (lL rows)):=by
 refine⟨h1,h8,λp hm=>OM.cy.mp (J4.mp hm).1,OM.gG _ (OM.iO n),λa h=>?_,λa b c hab hbc=>?_⟩
 ·exact (mT.mp (J4.mp h).2).1 rfl
 ·obtain⟨g1,t1⟩:=J4.mp hab
  obtain⟨g2,t2⟩:=J4.mp hbc
  have g1:=OM.cy.mp g1
  have g2:=OM.cy.mp g2
  obtain⟨n1,q1⟩:=mT.mp t1
  obtain⟨n2,q2⟩:=mT.mp t2
  refine J4.mpr ⟨OM.cy.mpr ⟨g1.1,g2.2⟩,mT.mpr ⟨λe=>?_,λr hr=>KG (q1 r hr) (q2 r hr)⟩⟩
  simp only at e q1 q2
  subst e
  cases rows with
  |nil=>exact hne rfl
  |cons r rest=>
   have hr:r∈r :: rest:=JB ..
   exact absurd (KG (q1 r hr) (q2 r hr)) (JJ _)
theorem nQ {α:Type}{t:Tg}{fe:VF D}{vs:List Nv}(e:α->D)(P:α->Prop):∀{ds:List D} {β:Int},(∀d,d∈ds->∃vs1,mh t d vs=some vs1/\∀β,∃a β',fe vs1 β=.ok (e a) β'/\P a)->
  ∃(as:List α) (β':Int),gL t kT fe vs ds β=.ok (as.map e) β'/\as.length=ds.length/\∀a,a∈as->P a
 | [],β,_=>⟨[],β,rfl,rfl,λa h=>(by cases h)⟩
 |d :: ds,β,h=>by
  obtain⟨vs1,hb,hf⟩:=h d (JB ..)
  obtain⟨a,β1,ef,pa⟩:=hf β
  obtain⟨as,β2,ec,hl,hP⟩:=nQ e P (ds:=ds) (β:=β1) λd' hd=>h d' (Jx _ hd)
  refine⟨a :: as,β2,?_,by rw[JM,JM,hl],λx hx=>?_⟩
  ·unfold gL
   rw[hb]
   dsimp only[kT,R.okb]
   rw[Jk rfl,ef]
   dsimp only
   rw[ec];rfl
  ·rcases Jn.mp hx with z |z
   ·rw[z];exact pa
   ·exact hP x z
noncomputable def uL:List D->Int->FB:=mr 4 1 (fU kO cC pY)
def wu {most:Nat}(hm1:1<=most)(hm8:most<=8)(β:Int):∃(n:Nat) (l:List Pr) (β':Int),uL [.int most] β=.ok (az n l) false β'/\OM.Ord n l/\n<=most:=by
 obtain⟨j,hj,ej⟩:=iq hm1 (by omega) β
 show ∃(n:Nat) (l:List Pr) (β':Int),xu (fU kO cC pY [.bx,.fz (.int most),.no,.no] β)=.ok (az n l) false β'/\OM.Ord n l/\n<=most
 unfold fU
 generalize hβ1:β / (most:Int)=β1 at ej
 have n8:1 + j<=8:=by omega
 have e1:f2 (cst (.int 1)) (j9 0 cC (ae (gv 1) ag)) cD [Nv.bx,.da (.int most),.no,.no] β=.ok (.int ((1 + j:Nat):Int)) β1:=by
  refine bb (x:=.int 1) rfl (eO (by rfl) rfl ej) ?_
  show some (int (1 + (j:Int)))=_
  rw[show ((1 + j:Nat):Int)=1 + (j:Int) by omega]
 rw[aV (env':=[.bx,.fz (.int most),.fz (.int ((1 + j:Nat):Int)),.no]) (β':=β1) ?g1]
 case g1=>
  show toS (f2 (cst (.int 1)) (j9 0 cC (ae (gv 1) ag)) cD [Nv.bx,.da (.int most),.no,.no] β) _=_
  rw[e1];rfl
 have hnm:1 + j<=most:=by omega
 generalize hn:1 + j=n at n8 hnm
 have n1:1<=n:=by omega
 obtain⟨q,hq,eq⟩:=iq (m:=3) (by omega) (by omega) β1
 generalize hβ2:β1 / ((3:Nat):Int)=β2 at eq
 have e2:f2 (cst (.int 1)) (j9 0 cC (ae (cst (.int 3)) ag)) cD [Nv.bx,.da (.int most),.da (.int n),.no] β1=.ok (.int ((1 + q:Nat):Int)) β2:=by
  refine bb (x:=.int 1) rfl (eO (ds:=[.int 3]) (by rfl) rfl eq) ?_
  show some (int (1 + (q:Int)))=_
  rw[show ((1 + q:Nat):Int)=1 + (q:Int) by omega]
 obtain⟨rows,β3,ec,hl,hP⟩:=nQ (t:=.nm 0) (fe:=j9 1 pY (ae (f1 (gv 2) fE) ag)) (vs:=gy 1 [0,2] [Nv.bx,.da (.int most),.da (.int n),.no]) tupI (λr:List Int=>r.Perm (fo n)) (ds:=cP 0 (1 + q)) (β:=β2) (by
  intro d hd
  refine⟨[.da d,.bx,.da (.int n)],rfl,λb=>?_⟩
  obtain⟨ms,b',em,pm⟩:=DT (fo n) (by rw[dr];omega) b
  refine⟨ms,b',eO (ds:=[.list ((fo n).map int)]) (β1:=b) (by rfl) ?_ em,pm⟩
  rw[c3,gK (x:=.int n) (d:=.list ((fo n).map int)) (β1:=b) rfl (sC (by omega))];rfl)
 rw[iB] at hl
 have ef:bL 1 [0,2] (.nm 0) (gz (f2 (cst (.int 1)) (j9 0 cC (ae (cst (.int 3)) ag)) cD)) kT (j9 1 pY (ae (f1 (gv 2) fE) ag)) [Nv.bx,.da (.int most),.da (.int n),.no] β1=.ok (.list (rows.map tupI)) β3:=by
  unfold bL
  rw[ir (n:=1 + q) e2 (by omega)]
  dsimp only[R.bnd]
  rw[Jk (sz _ (by rw[iB];omega)),ec];rfl
 rw[aV (env':=[.bx,.fz (.int most),.fz (.int n),.fz (.list (rows.map tupI))]) (β':=β3) ?g2]
 case g2=>
  show toS (bL 1 [0,2] (.nm 0) (gz (f2 (cst (.int 1)) (j9 0 cC (ae (cst (.int 3)) ag)) cD)) kT (j9 1 pY (ae (f1 (gv 2) fE) ag)) [Nv.bx,.da (.int most),.da (.int n),.no] β1) _=_
  rw[ef];rfl
 have hne:rows≠ []:=λz=>by rw[z] at hl;simp at hl;omega
 refine⟨n,(OM.dE n).filter (lL rows),β3,?_,qd n1 n8 hne,hnm⟩
 rw[iX]
 show xu (toS (aL (ae (gv 2) (ae (aA kO (ae (gv 2) (ae (gv 3) ag))) ag)) [Nv.bx,.da (.int most),.da (.int n),.da (.list (rows.map tupI))] β3) _)=_
 have a1:aA kO (ae (gv 2) (ae (gv 3) ag)) [Nv.bx,.da (.int most),.da (.int n),.da (.list (rows.map tupI))] β3=.ok (.tuple (((OM.dE n).filter (lL rows)).map cH)) β3:=aH rfl (wV n8 (by omega) hP)
 rw[qP (ds:=[.int n,.tuple (((OM.dE n).filter (lL rows)).map cH)]) (β1:=β3) ?k3 (by simp)]
 case k3=>
  rw[c3]
  show (R.ok (int n) β3).bnd _=_
  dsimp only[R.bnd]
  rw[c3,a1];rfl
 rfl
def yZ:List D->FR:=ba 1 1 dA
def Fh {z:Int}(h:z<=8):yZ [.int z]=.ok .none false:=by
 show fin (dA [.fz (.int z)] 0)=_
 unfold dA
 have e:dY (f2 (gv 0) (cst (.int 8)) Ek) (vl [.fz (.int z)]) 0=.ok (decide (z > 8)) 0:=kI _ _ _ _ (bb (x:=.int z) rfl rfl rfl)
 rw[Jy (by omega)] at e
 rw[bH e];rfl
def za:D->Bool
 | .tuple _=>true
 |_=>false
theorem wK {d:D}(h:za d=true):∃ds,d=.tuple ds:=by
 cases d with
 |tuple ds=>exact⟨ds,rfl⟩
 |_=>cases h
def yC {d:D}(h:dZ d=false):ic "tuple" d=some (.bool (za d)):=by
 unfold ic;rw[h];cases d <;> rfl
section
variable {fa fb:VF D}{vs:List Nv}{β:Int}
def Cz {d:D}(ha:fa vs β=.ok d β)(h:dZ d=false):mZ (f1 fa (ic "tuple")) vs β=.ok (za d) β:=jK (gK ha (yC h))
def vX {l:List D}{f:D->Bool}(h:fa vs β=.ok (.list (l.map λq=>PyData.bool (f q))) β):f1 fa (bX λbs=>bs.all id) vs β=.ok (.bool (l.all f)) β:=by
 refine gK h ?_
 simp only[bX]
 rw[gf]
 simp[Ln]
def CI {ds:List D}(ha:fa vs β=.ok (.tuple ds) β):f1 fa fR vs β=.ok (.int ds.length) β:=gK ha rfl
def DG {ds:List D}{k:Int}(ha:fa vs β=.ok (.tuple ds) β):dY (f2 (f1 fa fR) (cst (.int k)) (fN true)) vs β=.ok (!decide ((ds.length:Int)=k)) β:=la (neg:=true) (CI ha) rfl
def zu {t u:VF Bool}(h:t vs β=.ok true β):o4 t u vs β=.ok true β:=by rw[rg,h];rfl
def p6 {t u:VF Bool}{c:Bool}(h:t vs β=.ok false β)(h':u vs β=.ok c β):o4 t u vs β=.ok c β:=by rw[rg,h];exact h'
def CK (h:fa vs β=.ok (.bool false) β):gP fa fb vs β=.ok (.bool false) β:=by unfold gP;rw[h];rfl
def Gf {d:D}(h:fa vs β=.ok (.bool true) β)(h':fb vs β=.ok d β):gP fa fb vs β=.ok d β:=by unfold gP;rw[h];exact h'
end
section
variable {vs:List Nv}{β β1 β2:Int}{fa:VF D}{fr:VF (List D)}{d:D}{ds:List D}
def ac {fa:VF D}{fr:VF (List D)}(h:fa vs β=.ok d β)(h':fr vs β=.ok ds β):ae fa fr vs β=.ok (d :: ds) β:=by rw[c3,h];dsimp only[R.bnd];rw[h']
def an:ag vs β=.ok [] β:=rfl
def tp (h:fr vs β=.ok ds β)(hz:ds.length<=1000:=by simp):aL fr vs β=.ok (.tuple ds) β:=qP h hz
def lp (h:fr vs β=.ok ds β)(hz:ds.length<=1000:=by simp):bz fr vs β=.ok (.list ds) β:=jR h hz
def ck (d:D):cst d vs β=.ok d β:=rfl
end
def Ao {d:D}(h:dZ d=false):ic "list" d=some (.bool (match d with | .list _=>true |_=>false)):=by
 unfold ic;rw[h];cases d <;> rfl
def De:D->Bool
 | .list _=>true
 |_=>false
theorem By {d:D}(h:De d=true):∃ds,d=.list ds:=by
 cases d with
 |list ds=>exact⟨ds,rfl⟩
 |_=>cases h
def EZ {fa:VF D}{vs:List Nv}{β:Int}{d:D}(ha:fa vs β=.ok d β)(h:dZ d=false):f1 fa (ic "list") vs β=.ok (.bool (De d)) β:=gK ha (by rw[Ao h];cases d <;> rfl)
def DI {fa:VF D}{vs:List Nv}{β:Int}{ds:List D}(ha:fa vs β=.ok (.list ds) β):f1 fa fR vs β=.ok (.int ds.length) β:=gK ha rfl
def Ge (e:D):Prop:=dZ e=false/\∀es,e=.tuple es->es.length<=100/\∀x,x∈es->dZ x=false
def HL (n:Int):D->Bool
 | .tuple [x,y]=>dI x n && dI y n
 |_=>false
def Gr:List D->FR:=ba 2 2 (jZ cx)
theorem uw {es:List D}:(decide ((es.length:Int)=2)=false/\∀n,HL n (.tuple es)=false)\/∃x y,es= [x,y]:=by
 match es with
 | []=>exact .inl ⟨rfl,λ_=>rfl⟩
 | [_]=>exact .inl ⟨rfl,λ_=>rfl⟩
 | [x,y]=>exact .inr ⟨x,y,rfl⟩
 |_ :: _ :: _ :: _=>exact .inl ⟨Jy (by simp;omega),λ_=>rfl⟩
theorem Ic {d:D}{n:Int}(h:Ge d):Gr [d,.int n]=.ok (.bool (HL n d)) false:=by
 show fin (jZ cx [.fz d,.fz (.int n)] 0)=_
 unfold jZ
 have g0:gv 0 (vl [.fz d,.fz (.int n)]) 0=.ok d 0:=rfl
 have t1:=Cz g0 h.1
 cases hy:za d with
 |false=>
  rw[hy] at t1
  rw[fT (d:=.bool false) (b:=false) (β':=0) ?a]
  ·cases d <;> first |rfl |cases hy
  case a=>rw[cV (zu (cW t1))];rfl
 |true=>
  obtain⟨es,rfl⟩:=wK hy
  rw[hy] at t1
  have t2:=DG (k:=2) g0
  rcases uw (es:=es) with⟨q,z⟩ | ⟨x,y,rfl⟩
  ·rw[q] at t2
   rw[z n,fT (d:=.bool false) (b:=false) (β':=0) (by rw[cV (p6 (cW t1) t2)];rfl)];rfl
  ·rw[aV (env':=[.fz (.tuple [x,y]),.fz (.int n)]) (β':=0) (by rw[bH (p6 (cW t1) t2)];rfl)]
   have hx:=(h.2 _ rfl).2 x (JB ..)
   have hy':=(h.2 _ rfl).2 y (Jx _ (JB ..))
   have e1:aA cx (ae (f2 (gv 0) (cst (.int 0)) gN) (ae (gv 1) ag)) (vl [.fz (.tuple [x,y]),.fz (.int n)]) 0=.ok (.bool (dI x n)) 0:=aH (ds:=[x,.int n]) rfl (j6 hx)
   have e2:aA cx (ae (f2 (gv 0) (cst (.int 1)) gN) (ae (gv 1) ag)) (vl [.fz (.tuple [x,y]),.fz (.int n)]) 0=.ok (.bool (dI y n)) 0:=aH (ds:=[y,.int n]) rfl (j6 hy')
   rw[iX,Bp e1 e2];rfl
def Sp (p:Pr):Prop:=(0<=p.1/\p.1<=8)/\(0<=p.2/\p.2<=8)
end RM
namespace RM
open PySem PySem.Spec L2 PyProof.Rows
theorem nA:∀(ns acc:List Int),acc.Nodup->(ns.foldl step_dedup acc).length<=acc.length + ns.length/\((ns.foldl step_dedup acc).length=acc.length + ns.length↔(ns.Nodup/\∀x,x∈ns->x∉acc))
 | [],acc,_=>by simp
 |n :: ns,acc,hn=>by
  rw[foldl_cons]
  by_cases h:n∈acc
  ·have e:step_dedup acc n=acc:=by unfold step_dedup;rw[Jk (by simpa using h)]
   rw[e]
   obtain⟨h1,h2⟩:=nA ns acc hn
   refine⟨by rw[JM];omega,⟨λz=>?_,λz=>absurd h (z.2 n (JB ..))⟩⟩
   rw[JM] at z;omega
  ·have e:step_dedup acc n=acc ++ [n]:=by unfold step_dedup;rw[Ju (by simpa using h)]
   have hn':(acc ++ [n]).Nodup:=by
    rw[List.nodup_append]
    refine⟨hn,Kg.mpr ⟨by simp,List.nodup_nil⟩,λa ha b hb=>?_⟩
    rw[JS] at hb
    subst hb
    exact λq=>h (q▸ha)
   rw[e]
   obtain⟨h1,h2⟩:=nA ns (acc ++ [n]) hn'
   rw[JP,List.length_singleton] at h1 h2
   refine⟨by rw[JM];omega,?_⟩
   rw[JM,show acc.length + (ns.length + 1)=acc.length + 1 + ns.length by omega,h2,Kg]
   constructor
   ·rintro⟨z1,z2⟩
    refine⟨⟨λq=>z2 n q (by simp),z1⟩,λx hx=>?_⟩
    rcases Jn.mp hx with rfl |hx
    ·exact h
    ·exact λq=>z2 x hx (K0 _ q)
   ·rintro⟨⟨z1,z2⟩,z3⟩
    refine⟨z2,λx hx q=>?_⟩
    rcases JT.mp q with q |q
    ·exact z3 x (Jx _ hx) q
    ·rw[JS] at q;subst q;exact z1 hx
def tY (ns:List Int):pk ns=ns.length↔ns.Nodup:=by
 have e:firstMet (λi=>ns.getD i 0) ns.length=ns.foldl step_dedup []:=by
  unfold firstMet
  congr 1
  refine List.ext_getElem (by simp) λi h1 h2=>?_
  simp[List.getD_eq_getElem?_getD,h2]
 unfold pk
 rw[e]
 have:=(nA ns [] List.nodup_nil).2
 simpa using this
theorem mn:∀{l m:List Int},l.Nodup->(∀x,x∈l->x∈m)->m.length<=l.length->l.Perm m
 | [],m,_,_,h=>by
  have:m= []:=List.length_eq_zero_iff.mp (by simpa using h)
  rw[this]
 |x :: l,m,nd,hs,h=>by
  obtain⟨h1,h2⟩:=Kg.mp nd
  have hx:x∈m:=hs x (JB ..)
  have pm:m.Perm (x :: m.erase x):=List.perm_cons_erase hx
  refine (List.Perm.cons x (mn (m:=m.erase x) h2 (λy hy=>?_) ?_)).trans pm.symm
  ·have hy':=pm.mem_iff.mp (hs y (Jx _ hy))
   rcases Jn.mp hy' with rfl |q
   ·exact absurd hy h1
   ·exact q
  ·have:=pm.length_eq
   rw[JM] at this h
   omega
def yN {n:Nat}{r:List Int}(hl:r.length=n)(hb:∀x,x∈r->0<=x/\x < n)(nd:r.Nodup):r.Perm (fo n):=mn nd (λx hx=>g9.mpr (hb x hx)) (by rw[dr];omega)
noncomputable def nV (n:Nat)(d:D):Bool:=@decide (∃r:List Int,d=tupI r/\r.Perm (fo n)) (Classical.propDecidable _)
def CZ {n:Nat}{d:D}(h:nV n d=true):∃r:List Int,d=tupI r/\r.Perm (fo n):=@Lu _ (Classical.propDecidable _) h
def sM {n:Nat}{r:List Int}(h:r.Perm (fo n)):nV n (tupI r)=true:=@Jv _ (Classical.propDecidable _) ⟨r,rfl,h⟩
def qI {n:Nat}{d:D}(h:∀r:List Int,d=tupI r->¬r.Perm (fo n)):nV n d=false:=@Jy _ (Classical.propDecidable _) λ⟨r,e,p⟩=>h r e p
def ni {r q:List Int}(h:tupI r=tupI q):r=q:=by
 unfold tupI at h
 have h:=PyData.tuple.inj h
 exact List.map_inj_right (λa b e=>int.inj e) |>.mp h
theorem xJ {d:D}{n:Int}(h:dI d n=true):∃i:Int,d=.int i/\0<=i/\i < n:=by
 cases d with
 |int i=>exact⟨i,rfl,Lu h⟩
 |_=>cases h
theorem pM {n:Int}:∀{ds:List D},(ds.all λe=>dI e n)=true->∃r:List Int,ds=r.map int/\∀x,x∈r->0<=x/\x < n
 | [],_=>⟨[],rfl,λx hx=>by cases hx⟩
 |d :: ds,h=>by
  rw[all_cons,JD] at h
  obtain⟨i,rfl,hi⟩:=xJ h.1
  obtain⟨r,rfl,hr⟩:=pM h.2
  refine⟨i :: r,rfl,λx hx=>?_⟩
  rcases Jn.mp hx with rfl |hx
  ·exact hi
  ·exact hr x hx
def yb {n:Nat}{r:List Int}(h:∀x,x∈r->0<=x/\x < (n:Int)):((r.map int).all λe=>dI e n)=true:=by
 rw[Ln,Kq]
 intro x hx
 exact Jv (h x hx)
theorem iH:∀r:List Int,iF (r.map int)=some r
 | []=>rfl
 |x :: r=>by
  have:=iH r
  simp only[Kc,iF,this]
  try rfl
def v8:List D->FR:=ba 2 2 (jX cx)
theorem DB {n:Nat}{d:D}(h8:n<=100)(h:Ge d):v8 [d,.int n]=.ok (.bool (nV n d)) false:=by
 show fin (jX cx [.fz d,.fz (.int n)] 0)=_
 unfold jX
 have g0:gv 0 (vl [.fz d,.fz (.int n)]) 0=.ok d 0:=rfl
 have t1:=Cz g0 h.1
 cases hy:za d with
 |false=>
  rw[hy] at t1
  rw[fT (d:=.bool false) (b:=false) (β':=0) (by rw[cV (zu (cW t1))];rfl),qI]
  ·rfl
  ·intro r e;subst e;cases hy
 |true=>
  obtain⟨es,rfl⟩:=wK hy
  rw[hy] at t1
  have t2:dY (f2 (f1 (gv 0) fR) (gv 1) (fN true)) (vl [.fz (.tuple es),.fz (.int n)]) 0=.ok (!decide ((es.length:Int)=n)) 0:=la (neg:=true) (CI g0) rfl
  by_cases hl:es.length=n
  ·rw[Jv (show (es.length:Int)=n by omega)] at t2
   rw[aV (env':=[.fz (.tuple es),.fz (.int n)]) (β':=0) (by rw[bH (p6 (cW t1) t2)];rfl)]
   have hs:=(h.2 _ rfl).2
   have ec:bL 1 [1] (.nm 0) (ij (gv 0)) kT (aA cx (ae (gv 0) (ae (gv 1) ag))) (vl [.fz (.tuple es),.fz (.int n)]) 0=.ok (.list (es.map λe=>PyData.bool (dI e n))) 0:=
    pO (λe=>PyData.bool (dI e n)) rfl (by omega) λe he=>⟨_,rfl,aH (ds:=[e,.int n]) rfl (j6 (hs e he))⟩
   have ea:=vX ec
   rw[iX]
   cases hb:(es.all λe=>dI e n) with
   |false=>
    rw[hb] at ea
    rw[CK ea,qI]
    ·rfl
    ·intro r e pm
     have e:=PyData.tuple.inj e
     subst e
     rw[yb λx hx=>g9.mp (pm.mem_iff.mp hx)] at hb
     cases hb
   |true=>
    rw[hb] at ea
    obtain⟨r,rfl,hr⟩:=pM hb
    have hrl:r.length=n:=by rw[JE] at hl;exact hl
    have es:f1 (gv 0) mP (vl [.fz (.tuple (r.map int)),.fz (.int n)]) 0=.ok (.int (pk r)) 0:=by
     refine gK g0 ?_
     show (match iF (r.map int) with |some ns=>if ns.length<=1000 then some (int (pk ns)) else none |none=>none)=_
     rw[iH]
     exact Jk (by omega)
    rw[Gf ea (bb es rfl (BY false (pk r) n))]
    show FR.ok (.bool (decide ((pk r:Int)=(n:Int)))) false=_
    by_cases nd:r.Nodup
    ·have:=(tY r).mpr nd
     rw[Jv (by omega),show nV n (.tuple (r.map int))=true from sM (yN hrl hr nd)]
    ·have:pk r≠r.length:=λq=>nd ((tY r).mp q)
     rw[Jy (by omega),qI]
     intro q e pm
     have e:=ni (r:=r) e
     subst e
     exact nd (pm.nodup_iff.mpr (qj n))
  ·rw[Jy (show ¬(es.length:Int)=n by omega)] at t2
   rw[fT (d:=.bool false) (b:=false) (β':=0) (by rw[cV (p6 (cW t1) t2)];rfl),qI]
   ·rfl
   ·intro r e pm
    have e:=PyData.tuple.inj e
    subst e
    have:=pm.length_eq
    rw[dr] at this
    rw[JE] at hl
    exact hl this
end RM
namespace RM
open PySem L2
def yp (r:List Int):List Int:=(List.range r.length).map λ(a:Nat)=>((r.idxOf (a:Int):Nat):Int)
def fC (r:List Int)(k:Nat):List Int:=(List.range r.length).map λ(a:Nat)=>if r.idxOf (a:Int) < k then ((r.idxOf (a:Int):Nat):Int) else 0
def xr {n:Nat}{r:List Int}(h:r.Perm (fo n)):fC r r.length=yp r:=by
 unfold fC yp
 refine J8 λa ha=>?_
 have hl:=h.length_eq
 rw[dr] at hl
 have:=J6.mp ha
 rw[Jk (Lp.mpr (h.mem_iff.mpr (g9.mpr ⟨by omega,by omega⟩)))]
def uS (r:List Int):fC r 0=List.replicate r.length 0:=by
 unfold fC
 refine List.ext_getElem (by simp) λi h1 h2=>by simp
def ux {n:Nat}{r:List Int}(h:r.Perm (fo n)){k:Nat}{x:Int}(hk:r[k]? =some x):(fC r k).set x.toNat (k:Int)=fC r (k + 1):=by
 have hl:=h.length_eq
 rw[dr] at hl
 have hx:=g9.mp (h.mem_iff.mp (JI hk))
 have nd:r.Nodup:=h.nodup_iff.mpr (qj n)
 obtain⟨hkl,hke⟩:=Jw.mp hk
 have hix:r.idxOf x=k:=by rw[<-hke];exact nd.idxOf_getElem k hkl
 unfold fC
 refine List.ext_getElem (by simp) λi h1 h2=>?_
 have hi:i < r.length:=by simpa using h2
 rw[List.getElem_set]
 simp only[List.getElem_map,List.getElem_range]
 by_cases e:x.toNat=i
 ·rw[Jk e]
  have ex:(i:Int)=x:=by omega
  rw[ex,hix,Jk (by omega)]
 ·rw[Ju e]
  have:r.idxOf (i:Int)≠k:=λq=>by
   have hm:(i:Int)∈r:=h.mem_iff.mpr (g9.mpr ⟨by omega,by omega⟩)
   have h3:=List.getElem_idxOf (Lp.mpr hm)
   simp only[q] at h3
   rw[hke] at h3
   omega
  by_cases z:r.idxOf (i:Int) < k
  ·rw[Jk z,Jk (by omega)]
  ·rw[Ju z,Ju (by omega)]
def zF {n:Nat}{r:List Int}(h:r.Perm (fo n)){a:Int}(ha:0<=a/\a < n):kg (yp r) a=some ((r.idxOf a:Nat):Int):=by
 have hl:=h.length_eq
 rw[dr] at hl
 have e:(a.toNat:Int)=a:=by omega
 have:=ja (xs:=yp r) (j:=a.toNat) (v:=((r.idxOf a:Nat):Int)) (by
  unfold yp
  rw[JC,K7 (by omega)]
  simp only[Option.map_some,e])
 rw[e] at this
 exact this
def E9:List D->FR:=ba 4 1 ly
def Fd {n:Nat}{r:List Int}{d:D}(h1:fR d=some (.int ((r.map int).length:Nat)))(h2:kA d=some (r.map int))(h100:n<=100)(h:r.Perm (fo n)):E9 [d]=.ok (.list ((yp r).map int)) true:=by
 have hl:=h.length_eq
 rw[dr] at hl
 show fin (ly [.fz (d),.no,.no,.no] 0)=_
 unfold ly
 rw[aV (env':=[.fz (d),.ow (.list ((fC r 0).map int)),.no,.no]) (β':=0) ?a]
 case a=>
  have e:f2 (bz (ae (cst (.int 0)) ag)) (f1 (gv 0) fR) yF (vl [.fz (d),.no,.no,.no]) 0=.ok (.list ((fC r 0).map int)) 0:=by
   refine bb (lp (ac (ck _) an)) (gK (x:=d) rfl h1) ?_
   rw[JE,uS,List.map_replicate]
   simp only[yF]
   rw[Jk ?q]
   ·congr 2
    rw[JO]
    induction r.length with
    |zero=>rfl
    |succ m ih=>first |rw[JX,JX,Kn,ih];rfl | (simp[JX] at ih ⊢;try exact ih)
   case q=>first | (constructor <;> first |omega | (show _<=_;simp;try omega)) | (rw[JL];simp;omega)
  rw[tu,e];rfl
 have ee:C6 (gv 0) (vl [.fz (d),.ow (.list ((fC r 0).map int)),.no,.no]) 0=.ok (gH (r.map int)) 0:=by
  show (match kA d with |some ds=>R.ok (gH ds) 0 |none=>.bad)=_
  rw[h2]
 obtain⟨env',β',ef,s,t,rfl,rfl⟩:=iD (t:=.two 2 3) (m:=sv 1 [2] [] (gv 2) (gv 3)) (ds:=gH (r.map int)) (k:=0)
  (λk env β=>∃s t:Sl,env= [.fz (d),.ow (.list ((fC r k).map int)),s,t]/\β=0)
  (env:=[.fz (d),.ow (.list ((fC r 0).map int)),.no,.no]) (β:=0) ⟨.no,.no,rfl,rfl⟩ (by
   rintro k d env β hk ⟨s,t,rfl,rfl⟩
   unfold gH at hk
   rw[List.getElem?_mapIdx,JC] at hk
   cases hx:r[k]? with
   |none=>rw[hx] at hk;cases hk
   |some x=>
    rw[hx] at hk
    cases hk
    have hxm:=g9.mp (h.mem_iff.mp (JI hx))
    refine⟨[.fz (d),.ow (.list ((fC r (0 + k)).map int)),.fz (.int k),.fz (.int x)],rfl,?_⟩
    rw[Kx]
    refine⟨[.fz (d),.ow (.list ((fC r (k + 1)).map int)),.fz (.int k),.fz (.int x)],0,?_,_,_,rfl,rfl⟩
    rw[zz (ds:=(fC r k).map int) (d:=.int k) (k:=x) (n:=x.toNat) (β1:=0) (β2:=0) rfl (by rfl) rfl (by rfl) ?b]
    ·rw[<-ux h hx,List.map_set];rfl
    case b=>
     unfold ue
     rw[Jk hxm.1,Jk (by rw[JE];unfold fC;simp;omega)])
 have hle:(gH (r.map int)).length=r.length:=by unfold gH;simp
 rw[Kx,hle,xr h] at ef
 rw[aV (env':=[.fz (d),.ow (.list ((yp r).map int)),s,t]) (β':=0) (by
  rw[lB (env:=[.fz (d),.ow (.list ((fC r 0).map int)),.no,.no]) ee]
  exact ef)]
 rfl
def IA {n:Nat}{r:List Int}(h100:n<=100)(h:r.Perm (fo n)):E9 [tupI r]=.ok (.list ((yp r).map int)) true:=Fd rfl rfl h100 h
def DR (l:List Pr)(r:List Int):Bool:=l.all λp=>decide (r.idxOf p.1 < r.idxOf p.2)
def Row (n:Nat)(l:List Pr)(r:List Int):Prop:=r.Perm (fo n)/\DR l r=true
noncomputable def qy (n:Nat)(l:List Pr)(d:D):Bool:=@decide (∃r:List Int,d=tupI r/\Row n l r) (Classical.propDecidable _)
def Fs {n:Nat}{l:List Pr}{d:D}(h:qy n l d=true):∃r:List Int,d=tupI r/\Row n l r:=@Lu _ (Classical.propDecidable _) h
def wb {n:Nat}{l:List Pr}{r:List Int}(h:Row n l r):qy n l (tupI r)=true:=@Jv _ (Classical.propDecidable _) ⟨r,rfl,h⟩
def Cr {n:Nat}{l:List Pr}{d:D}(h:∀r:List Int,d=tupI r->¬Row n l r):qy n l d=false:=@Jy _ (Classical.propDecidable _) λ⟨r,e,p⟩=>h r e p
noncomputable def GO:List D->FR:=ba 3 2 (fg v8 E9)
def Dr {n:Nat}{r:List Int}(h:r.Perm (fo n)){a b:Int}(ha:0<=a/\a < n)(hb:0<=b/\b < n){fp fa fb:VF D}{vs:List Nv}{β:Int}(hp:fp vs β=.ok (.list ((yp r).map int)) β)(h1:fa vs β=.ok (.int a) β)(h2:fb vs β=.ok (.int b) β) :
  f2 (f2 fp fa gN) (f2 fp fb gN) pG vs β=.ok (.bool (decide (r.idxOf a < r.idxOf b))) β:=by
 refine bb (bb hp h1 (show kg ((yp r).map int) a=_ by rw[rK,zF h ha];rfl)) (bb hp h2 (show kg ((yp r).map int) b=_ by rw[rK,zF h hb];rfl)) ?_
 show some (PyData.bool (decide (((r.idxOf a:Nat):Int) < ((r.idxOf b:Nat):Int))))=_
 congr 2
 rw[JQ,JN,JN]
 omega
theorem HI {n:Nat}{l:List Pr}{d:D}(O:OM.Ord n l)(h:Ge d):GO [d,az n l]=.ok (.bool (qy n l d)) false:=by
 have h8:=O.hi
 show fin (fg v8 E9 [.fz d,.fz (az n l),.no] 0)=_
 unfold fg
 have t:mZ (aA v8 (ae (gv 0) (ae (f2 (gv 1) (cst (.int 0)) gN) ag))) (vl [.fz d,.fz (az n l),.no]) 0=.ok (nV n d) 0:=jK (aH (ds:=[d,.int n]) (ac rfl (ac (C7 (n:=n) (l:=l) rfl) an)) (DB (by omega) h))
 cases q:nV n d with
 |false=>
  rw[q] at t
  rw[fT (d:=.bool false) (b:=false) (β':=0) (by rw[cV (cW t)];rfl),Cr]
  ·rfl
  ·rintro r rfl hr
   rw[sM hr.1] at q;cases q
 |true=>
  rw[q] at t
  obtain⟨r,rfl,pm⟩:=CZ q
  rw[aV (env':=[.fz (tupI r),.fz (az n l),.no]) (β':=0) (by rw[bH (cW t)];rfl)]
  rw[aV (env':=[.fz (tupI r),.fz (az n l),.fz (.list ((yp r).map int))]) (β':=0) (by rw[i9,aH (ds:=[tupI r]) (β1:=0) rfl (IA (by omega) pm)];rfl)]
  have ec:bL 2 [2] (.two 0 1) (ij (f2 (gv 1) (cst (.int 1)) gN)) kT (f2 (f2 (gv 2) (gv 0) gN) (f2 (gv 2) (gv 1) gN) pG) (vl [.fz (tupI r),.fz (az n l),.fz (.list ((yp r).map int))]) 0=.ok (.list (l.map λp=>PyData.bool (decide (r.idxOf p.1 < r.idxOf p.2)))) 0:=by
   refine je (l:=l) (e:=cH) (λp=>PyData.bool (decide (r.idxOf p.1 < r.idxOf p.2))) rfl (by have:=wo O;omega) λp hp=>⟨_,rfl,?_⟩
   have hw:=O.wn p hp
   exact Dr pm hw.1 hw.2 rfl rfl rfl
  rw[iX,DV (f:=λp=>decide (r.idxOf p.1 < r.idxOf p.2)) ec]
  show FR.ok (.bool (DR l r)) false=_
  cases qf:DR l r with
  |true=>rw[wb ⟨pm,qf⟩]
  |false=>
   rw[Cr]
   rintro r' e hr
   have e:=ni e
   subst e
   rw[hr.2] at qf;cases qf
def Gt (d:D):Prop:=dZ d=false/\∀ds,d=.list ds->ds.length<=100/\∀e,e∈ds->Ge e
noncomputable def wF (n:Nat)(l:List Pr)(d:D):Bool:=@decide (∃rs:List (List Int),d=.list (rs.map tupI)/\rs≠ []/\∀r,r∈rs->Row n l r) (Classical.propDecidable _)
def xC {n:Nat}{l:List Pr}{rs:List (List Int)}(h1:rs≠ [])(h:∀r,r∈rs->Row n l r):wF n l (.list (rs.map tupI))=true:=@Jv _ (Classical.propDecidable _) ⟨rs,rfl,h1,h⟩
def rP {n:Nat}{l:List Pr}{d:D}(h:∀rs:List (List Int),d=.list (rs.map tupI)->rs≠ []->∃r,r∈rs/\¬Row n l r):wF n l d=false:=@Jy _ (Classical.propDecidable _) λ⟨r,e,h1,h2⟩=>by
 obtain⟨x,hx,hn⟩:=h r e h1
 exact hn (h2 x hx)
theorem all_rows {n:Nat}{l:List Pr}:∀{ds:List D},ds.all (qy n l)=true->∃rs:List (List Int),ds=rs.map tupI/\∀r,r∈rs->Row n l r
 | [],_=>⟨[],rfl,λr hr=>by cases hr⟩
 |d :: ds,h=>by
  rw[all_cons,JD] at h
  obtain⟨r,rfl,hr⟩:=Fs h.1
  obtain⟨rs,rfl,hrs⟩:=all_rows h.2
  refine⟨r :: rs,rfl,λx hx=>?_⟩
  rcases Jn.mp hx with rfl |hx
  ·exact hr
  ·exact hrs x hx
noncomputable def Iu:List D->FR:=ba 2 2 (jh GO)
theorem HR {n:Nat}{l:List Pr}{d:D}(O:OM.Ord n l)(h:Gt d):Iu [d,az n l]=.ok (.bool (wF n l d)) false:=by
 show fin (jh GO [.fz d,.fz (az n l)] 0)=_
 unfold jh
 have e1:=EZ (fa:=gv 0) (vs:=vl [.fz d,.fz (az n l)]) (β:=0) rfl h.1
 cases q:De d with
 |false=>
  rw[q] at e1
  rw[fT (d:=.bool false) (b:=false) (β':=0) (by rw[cV (zu (cW (jK e1)))];rfl),rP]
  ·rfl
  ·rintro rs rfl;cases q
 |true=>
  rw[q] at e1
  obtain⟨ds,rfl⟩:=By q
  have hd:=h.2 ds rfl
  have t2:dY (f2 (f1 (gv 0) fR) (cst (.int 0)) (fN false)) (vl [.fz (.list ds),.fz (az n l)]) 0=.ok (decide ((ds.length:Int)=0)) 0:=la (neg:=false) (DI rfl) rfl
  cases ds with
  |nil=>
   rw[fT (d:=.bool false) (b:=false) (β':=0) (by rw[cV (p6 (cW (jK e1)) t2)];rfl),rP]
   ·rfl
   ·intro rs e hne
    have e:=PyData.list.inj e
    cases rs with
    |nil=>exact absurd rfl hne
    |cons=>cases e
  |cons x ds=>
   rw[Jy (by simp;omega)] at t2
   rw[aV (env':=[.fz (.list (x :: ds)),.fz (az n l)]) (β':=0) (by rw[bH (p6 (cW (jK e1)) t2)];rfl)]
   have ec:bL 1 [1] (.nm 0) (ij (gv 0)) kT (aA GO (ae (gv 0) (ae (gv 1) ag))) (vl [.fz (.list (x :: ds)),.fz (az n l)]) 0=.ok (.list ((x :: ds).map λe=>PyData.bool (qy n l e))) 0:=
    pO (λe=>PyData.bool (qy n l e)) rfl (by omega) λe he=>⟨_,rfl,aH (ds:=[e,az n l]) rfl (HI O (hd.2 e he))⟩
   rw[iX,vX (f:=qy n l) ec]
   cases qa:(x :: ds).all (qy n l) with
   |true=>
    obtain⟨rs,e,hrs⟩:=all_rows qa
    rw[e,xC (by rintro rfl;cases e) hrs];rfl
   |false=>
    rw[rP]
    ·rfl
    ·intro rs e hne
     have e:=PyData.list.inj e
     rw[e,Ln,List.all_eq_false] at qa
     obtain⟨r,hr,hx⟩:=qa
     exact⟨r,hr,λz=>hx (wb z)⟩
def Jb:List D->FR:=ba 3 3 jC
noncomputable def IK:List D->FR:=ba 3 2 (jI E9 CV Jb)
theorem any_ints (a:Int):∀s:List Int,((s.map int).any λe=>PyData.eqv e (.int a))=decide (a∈s)
 | []=>rfl
 |b :: s=>by
  rw[Kc,KJ,any_ints a s]
  show ((b == a) || _)=_
  rw[JQ]
  simp only[Bool.or_eq_true,beq_iff_eq,JN,Jn]
  exact⟨λh=>h.imp Eq.symm id,λh=>h.imp Eq.symm id⟩
def xf (s:List Int):(s.map int).all SeqAt.shaped=true:=by
 rw[Kq]
 intro d hd
 obtain⟨p,_,rfl⟩:=KZ.mp hd
 rfl
def wa (neg:Bool)(a:Int)(s:List Int):Cb neg (.int a) (tupI s)=some (.bool (if neg then !decide (a∈s) else decide (a∈s))):=by
 unfold Cb tupI
 simp only[kA,xf,any_ints]
 rfl
def zD {a b:List D}(h:a.length + b.length<=1000):qq (.tuple a) (.tuple b)=some (.tuple (a ++ b)):=Jk (by rw[JL];omega)
def Iz {fa fb:VF D}{vs:List Nv}{β β1 β2:Int}{r q:List Int}(h1:fa vs β=.ok (tupI r) β1)(h2:fb vs β1=.ok (tupI q) β2)(hz:r.length + q.length<=1000):f2 fa fb qq vs β=.ok (tupI (r ++ q)) β2:=
 bb h1 h2 (by unfold tupI;rw[zD (by simpa using hz),<-KO])
def mD (r:List Int)(i:Nat):Bool:=decide ((i:Int)∈r)
def yO {fa fb:VF D}{vs:List Nv}{β:Int}{ds:List D}{i:Nat}(ha:fa vs β=.ok (.tuple ds) β)(hb:fb vs β=.ok (.int ((i:Nat):Int)) β):yU fa (EV fb) (λ_ β=>.ok none β) vs β=.ok (.tuple (ds.drop i)) β:=by
 unfold yU EV
 rw[ha];dsimp only[R.bnd]
 rw[hb];dsimp only[R.bnd]
 congr 2
 unfold cutD
 rw[HT.zM,HT.Bh]
 by_cases h:i<=ds.length
 ·rw[Nat.min_eq_left h];exact List.take_of_length_le (by rw[K2];omega)
 ·rw[Nat.min_eq_right (by omega),List.drop_length,List.drop_of_length_le (by omega)];simp
structure WP (r:SO)(Q:SO->Prop):Prop where
 out:Q r
section
variable {m m' m1 m2:SF}{env env1:En}{β β1 β2 z:Int}{Q:SO->Prop}{f fa fb:VF D}{t:VF Bool}{d e:D}{L La Lb:List Nat}{i j:Nat}{c:Bool}
def wp_at (env1:En)(e:env=env1)(k:WP (m env1 β) Q):WP (m env β) Q:=by rw[e];exact k
def wp_seq (h:m env β=.nx env1 β1)(k:WP (m' env1 β1) Q):WP (aP m m' env β) Q:=by rw[aV h];exact k
def pX (q:Q (.nx env β)):WP (kh env β) Q:=⟨q⟩
def lK (h:f (vl env) β=.ok d β1)(k:WP (m' ((a7 L env).set i (.fz d)) β1) Q):WP (aP (dv i L f) m' env β) Q:=wp_seq (by unfold dv;rw[h];rfl) k
def AU (h:f (vl env) β=.ok (.list [.int z]) β1)(k:WP (m' ((pj (a7 L env)).set i .bx) z) Q):WP (aP (wz i L f) m' env β) Q:=wp_seq (by unfold wz;rw[h];rfl) k
def BN (h:f (vl env) β=.ok d β1)(k:WP (m' (a7 L env) β1) Q):WP (aP (bu L f) m' env β) Q:=wp_seq (by unfold bu;rw[h];rfl) k
def mW (h:t (vl env) β=.ok false β1)(k:WP (m' (a7 L env) β1) Q):WP (aP (hZ L t m1 kh) m' env β) Q:=wp_seq (by rw[bH h];rfl) k
def Hy (h:t (vl env) β=.ok true β1)(k:WP (m1 (a7 L env) β1) Q):WP (hZ L t m1 m2 env β) Q:=by rw[cV h];exact k
def xH (h:t (vl env) β=.ok false β1)(k:WP (m2 (a7 L env) β1) Q):WP (hZ L t m1 m2 env β) Q:=by rw[bH h];exact k
def yV (h:f (vl env) β=.ok d β1)(q:Q (.rt d false β1)):WP (cj f env β) Q:=⟨by unfold cj;rw[h];exact q⟩
def uB {R:FR}(h:WP (m env β) λr=>fin r=R):fin (m env β)=R:=h.out
def rm {t:Tg}{fi:VF (List D)}{ds:List D}(I:Nat->En->Int->Prop)(hi:fi (vl env) β=.ok ds β1)(h0:I 0 (a7 L env) β1)
  (hs:∀i d env β,ds[i]? =some d->I i env β->∃env1,gF t d env=some env1/\WP (m env1 β) λr=>∃env2 β2,r=.nx env2 β2/\I (i + 1) env2 β2)
  (k:∀env β,I ds.length env β->WP (m' env β) Q):WP (aP (iS t L fi m) m' env β) Q:=by
 obtain⟨env',β',e,h⟩:=iD (t:=t) (m:=m) I (ds:=ds) (k:=0) h0 λi d env β hd h=>by
  rw[Kx] at h
  obtain⟨env1,e1,⟨env2,β2,e2,h2⟩⟩:=hs i d env β hd h
  exact⟨env1,e1,env2,β2,e2,by rw[Kx];exact h2⟩
 rw[Kx] at h
 exact wp_seq ((lB hi).trans e) (k _ _ h)
end
def Af (c:Int)(hc:0<=c/\c<=100)(ns:List Int)(vs:List Nv)(β:Int)(h:gv 0 vs β=.ok (cg ns) β):∃m:Nat,m<=101/\gz (f2 (cst (.int 1)) (f2 (f1 (gv 0) fR) (cst (.int c)) (uF λi j=>.int (if j < i then j else i))) (uF λi j=>.int (if j > i then j else i))) vs β=.ok (cP 0 m) β:=by
 have e1:f2 (cst (.int 1)) (f2 (f1 (gv 0) fR) (cst (.int c)) (uF λi j=>.int (if j < i then j else i))) (uF λi j=>.int (if j > i then j else i)) vs β=.ok (.int (if (if c < ((ns.map int).length:Int) then c else ((ns.map int).length:Int)) > 1 then (if c < ((ns.map int).length:Int) then c else ((ns.map int).length:Int)) else 1)) β:=
  bb (x:=.int 1) rfl (bb (x:=.int (ns.map int).length) (y:=.int c) (gK h rfl) rfl rfl) rfl
 generalize ((ns.map int).length:Nat)=k at e1
 refine⟨(if (if c < (k:Int) then c else (k:Int)) > 1 then (if c < (k:Int) then c else (k:Int)) else 1).toNat,?_,ir (e1.trans ?_) ?_⟩
 ·split <;> split <;> omega
 ·congr 2
  split <;> split <;> omega
 ·split <;> split <;> omega
def oy {n:Nat}(h:n<=1000):jU (.int n)=some (tupI (fo n)):=by
 unfold jU tupI
 dsimp only
 rw[Jk ⟨by omega,by omega⟩,JO,p8]
def ze {ds:List D}{k:Nat}(h:k < ds.length):∃d,ds[k]? =some d/\d∈ds/\kg ds (k:Int)=some d:=⟨ds[k],Jr h,List.getElem_mem h,ja (Jr h)⟩
noncomputable def u5:List D->FR:=ba 3 1 (jb lx Gr c4 kl)
def Gz (p:Pr):Ge (cH p):=⟨rfl,λes e=>by cases e;exact⟨by simp,λx hx=>by simp at hx;rcases hx with rfl |rfl <;> rfl⟩⟩
def E4 {n:Nat}{p:Pr}(h:(0<=p.1/\p.1 < n)/\(0<=p.2/\p.2 < n)):HL n (cH p)=true:=by
 show (dI (.int p.1) n && dI (.int p.2) n)=true
 rw[JD];exact⟨Jv h.1,Jv h.2⟩
open Classical in
theorem v9 {n:Nat}{l:List Pr}(h1:1<=n)(h8:n<=8)(wn:OM.Wn n l)(hl:l.length<=100):u5 [az n l]=.ok (.bool (decide (OM.Ord n l))) false:=by
 show fin (jb lx Gr c4 kl [.fz (az n l),.no,.no] 0)=_
 unfold jb
 rw[aV (env':=[.fz (az n l),.no,.no]) (β':=0) (by rfl)]
 rw[aV (env':=[.fz (az n l),.fz (.int n),.no]) (β':=0) (by rfl)]
 rw[aV (env':=[.fz (az n l),.fz (.int n),.fz (.tuple (l.map cH))]) (β':=0) (by rfl)]
 have e4:aA lx (ae (gv 1) ag) [.da (az n l),.da (.int n),.da (.tuple (l.map cH))] 0=.ok (.bool true) 0:=aH rfl (zl h1 h8)
 rw[aV (env':=[.fz (az n l),.fz (.int n),.fz (.tuple (l.map cH))]) (β':=0) ?h4]
 case h4=>
  refine bH ?_
  show o4 (sF (mZ (aA lx (ae (gv 1) ag)))) _ [.da (az n l),.da (.int n),.da (.tuple (l.map cH))] 0=_
  rw[rg,uO,uC,e4]
  rfl
 have e5:bL 1 [1] (.nm 0) (ij (gv 2)) kT (aA Gr (ae (gv 0) (ae (gv 1) ag))) [.da (az n l),.da (.int n),.da (.tuple (l.map cH))] 0=.ok (.list (l.map λ_=>PyData.bool true)) 0:=by
  refine je (l:=l) (e:=cH) (λ_=>PyData.bool true) rfl (by omega) λp hp=>⟨_,rfl,?_⟩
  refine aH (b:=false) (ds:=[cH p,.int n]) rfl ?_
  rw[Ic (Gz p),E4 (wn p hp)]
 rw[aV (env':=[.fz (az n l),.fz (.int n),.fz (.tuple (l.map cH))]) (β':=0) ?h5]
 case h5=>
  refine bH ?_
  show sF (mZ (f1 (bL 1 [1] (.nm 0) (ij (gv 2)) kT (aA Gr (ae (gv 0) (ae (gv 1) ag)))) (bX λbs=>bs.all id))) [.da (az n l),.da (.int n),.da (.tuple (l.map cH))] 0=_
  rw[uO,uC,gK (d:=.bool true) e5 (by simp only[bX];rw[gf];simp)]
  rfl
 have e6:aA c4 (ae (gv 1) (ae (gv 2) ag)) [.da (az n l),.da (.int n),.da (.tuple (l.map cH))] 0=.ok (.tuple ((OM.i3 n (OM.Tr (OM.Mem l))).map cH)) 0:=aH rfl (by rw[As h1 h8 wn])
 have e7:aA kl (ae (gv 2) ag) [.da (az n l),.da (.int n),.da (.tuple (l.map cH))] 0=.ok (.bool (l.any λp=>decide (p.1=p.2))) 0:=aH rfl (by unfold kl;simp only[i7];rw[Jk (by omega)])
 show fin (toS (gP (f2 (gv 2) (aA c4 (ae (gv 1) (ae (gv 2) ag))) (fN false)) (f1 (aA kl (ae (gv 2) ag)) AB) [.da (az n l),.da (.int n),.da (.tuple (l.map cH))] 0) _)=_
 unfold gP
 rw[bb (d:=.bool (decide (l=OM.i3 n (OM.Tr (OM.Mem l))))) (x:=.tuple (l.map cH)) rfl e6 (by rw[zS];simp)]
 dsimp only[R.bnd]
 by_cases c:l=OM.i3 n (OM.Tr (OM.Mem l))
 ·rw[Jv c]
  dsimp only
  rw[gK (d:=.bool (!(l.any λp=>decide (p.1=p.2)))) e7 rfl]
  have key:(!(l.any λp=>decide (p.1=p.2)))=decide (OM.Ord n l):=by
   rw[JQ,KW,JN,List.any_eq_false]
   constructor
   ·intro h
    refine⟨h1,h8,wn,?_,λa ha=>h (a,a) ha (by simp),λa b d hab hbd=>?_⟩
    ·rw[c];exact OM.gG _ (OM.iO n)
    ·rw[c]
     exact OM.k9.mpr ⟨⟨(wn _ hab).1,(wn _ hbd).2⟩,.more hab (.one hbd)⟩
   ·intro O p hp he
    have he:=Lu he
    obtain⟨a,b⟩:=p
    simp only at he
    subst he
    exact O.irr a hp
  rw[key];rfl
 ·rw[Jy c,Jy λO=>c O.closed.symm]
  rfl
def ka:List D:=[.none,.tuple [],az 0 [],az 9 [],az 2 [(0,2)],az 3 [(0,1),(1,2)],az 2 [(0,1),(1,0)],.list [.int 1,.tuple []],.tuple [.bool true,.tuple []],.tuple [.int 2,.list [cH (0,1)]],az 1 [(0,0)],az 3 [(1,2),(0,1),(0,2)],.str "1",.tuple [.int 1,.tuple [],.tuple []]]
def rX {n:Nat}{l:List Pr}(h1:1<=n)(h8:n<=8)(wn:OM.Wn n l)(hl:l.length<=100)(h:¬OM.Ord n l):u5 [az n l]=.ok (.bool false) false:=by
 classical
 rw[v9 h1 h8 wn hl]
 congr 2
 exact Jy h
def Dy:∀d,d∈ka->u5 [d]=.ok (.bool false) false:=by
 intro d hd
 unfold ka at hd
 simp only[Jn,JG,J3] at hd
 rcases hd with rfl |rfl |rfl |rfl |rfl |rfl |rfl |rfl |rfl |rfl |rfl |rfl |rfl |rfl
 ·rfl
 ·rfl
 ·rfl
 ·rfl
 ·rfl
 ·exact rX (by omega) (by omega) (by unfold OM.Wn;decide) (by simp) λO=>absurd (O.tr 0 1 2 (by simp) (by simp)) (by decide)
 ·exact rX (by omega) (by omega) (by unfold OM.Wn;decide) (by simp) λO=>absurd (O.tr 0 1 0 (by simp) (by simp)) (by decide)
 ·rfl
 ·rfl
 ·rfl
 ·exact rX (by omega) (by omega) (by unfold OM.Wn;decide) (by simp) λO=>O.irr 0 (by simp)
 ·exact rX (by omega) (by omega) (by unfold OM.Wn;decide) (by simp) λO=>absurd O.ris (by unfold OM.yA;decide)
 ·rfl
 ·rfl
noncomputable def nF:List D->FR:=ba 1 1 (dN u5)
def HZ {d:D}(h:u5 [d]=.ok (.bool false) false):nF [d]=.exc "NoOrder":=by
 show fin (dN u5 [.fz d] 0)=_
 unfold dN
 rw[cV (cW (jK (aH (ds:=[d]) rfl h)))]
 rfl
def ku {n:Nat}{l:List Pr}(O:OM.Ord n l):nF [az n l]=.ok .none false:=by
 classical
 show fin (dN u5 [.fz (az n l)] 0)=_
 have h:=v9 O.lo O.hi O.wn (by have:=wo O;omega)
 rw[Jv O] at h
 exact uB (xH (cW (jK (aH (ds:=[az n l]) rfl h))) (pX rfl))
section
variable {L:List Nat}{f:VF D}{m':SF}{env:En}{β β1:Int}{c:Str}{d:D}
def xE (h:f (vl env) β=.exc c):bu L f env β=.exc c:=by unfold bu;rw[h];rfl
def xS (h:f (vl env) β=.exc c):aP (bu L f) m' env β=.exc c:=nI (xE h)
def oS (h:f (vl env) β=.ok d β1):aP (bu L f) m' env β=m' (a7 L env) β1:=aV (by unfold bu;rw[h];rfl)
def oE (h:f (vl env) β=.ok d β1):bu L f env β=.nx (a7 L env) β1:=by unfold bu;rw[h];rfl
end
noncomputable def kS:List D->FR:=ba 2 2 (cB nF)
noncomputable def mC:List D->FR:=ba 2 2 (bN kS yZ)
noncomputable def kc:List D->FR:=ba 2 2 (aN nF cx)
noncomputable def fM:List D->FR:=ba 3 3 (a9 kS kc yZ)
noncomputable def Ih:List D->FR:=ba 4 2 (gW mC)
noncomputable def DK:List D->FR:=ba 2 2 (hJ mC)
noncomputable def AM:List D->FR:=ba 2 2 (ur nF Iu IK)
noncomputable def k8:List D->FR:=ba 4 4 (gV AM)
noncomputable def Ir:List D->FR:=ba 5 4 (fj mC k8)
noncomputable def Dk:List D->FR:=ba 6 4 (fk mC k8)
noncomputable def CU:List D->FR:=ba 6 3 (jg fM)
noncomputable def Er:List D->FR:=ba 6 5 (c6 fM k8)
noncomputable def zH:List D->FR:=ba 3 2 (gp kc)
section
variable {a b:D}{c:Str}{n m:Nat}{l k:List Pr}
def xD (h:nF [a]=.exc c):kS [a,b]=.exc c:=by
 show fin (cB nF [.fz a,.fz b] 0)=_
 unfold cB
 rw[xS (aM (ds:=[a]) rfl h)];rfl
def FQ (h0:nF [a]=.ok .none false)(h:nF [b]=.exc c):kS [a,b]=.exc c:=by
 show fin (cB nF [.fz a,.fz b] 0)=_
 unfold cB
 rw[oS (aH (ds:=[a]) rfl h0),xE (aM (ds:=[b]) rfl h)];rfl
def sJ (h0:nF [a]=.ok .none false)(h:nF [b]=.ok .none false):kS [a,b]=.ok .none false:=by
 show fin (cB nF [.fz a,.fz b] 0)=_
 unfold cB
 rw[oS (aH (ds:=[a]) rfl h0),oE (aH (ds:=[b]) rfl h)];rfl
def EY {z:Int}(h:z > 8):yZ [.int z]=.exc "TooMany":=by
 show fin (dA [.fz (.int z)] 0)=_
 unfold dA
 have t:dY (f2 (gv 0) (cst (.int 8)) Ek) (vl [.fz (.int z)]) 0=.ok (decide (z > 8)) 0:=rfl
 rw[Jv h] at t
 rw[cV t];rfl
def zr (h:kS [a,b]=.exc c):mC [a,b]=.exc c:=by
 show fin (bN kS yZ [.fz a,.fz b] 0)=_
 unfold bN
 rw[xS (aM (ds:=[a,b]) rfl h)];rfl
def wd {env:En}{i j:Nat}{β:Int}(hi:gv i (vl env) β=.ok (az n l) β)(hj:gv j (vl env) β=.ok (az m k) β):f2 (f2 (gv i) (cst (.int 0)) gN) (f2 (gv j) (cst (.int 0)) gN) cD (vl env) β=.ok (.int ((n:Int) + m)) β:=bb (C7 (n:=n) (l:=l) hi) (C7 (n:=m) (l:=k) hj) rfl
def FP (O:OM.Ord n l)(O':OM.Ord m k)(h:n + m<=8):mC [az n l,az m k]=.ok .none false:=by
 show fin (bN kS yZ [.fz (az n l),.fz (az m k)] 0)=_
 unfold bN
 rw[oS (aH (ds:=[az n l,az m k]) rfl (sJ (ku O) (ku O'))),oE (aH (ds:=[.int ((n:Int) + m)]) (ac (wd (n:=n) (l:=l) (m:=m) (k:=k) rfl rfl) an) (Fh (by omega)))];rfl
def Ag (O:OM.Ord n l)(O':OM.Ord m k)(h:8 < n + m):mC [az n l,az m k]=.exc "TooMany":=by
 show fin (bN kS yZ [.fz (az n l),.fz (az m k)] 0)=_
 unfold bN
 rw[oS (aH (ds:=[az n l,az m k]) rfl (sJ (ku O) (ku O'))),xE (aM (ds:=[.int ((n:Int) + m)]) (ac (wd (n:=n) (l:=l) (m:=m) (k:=k) rfl rfl) an) (EY (by omega)))];rfl
def GB {t:D}(h:nF [a]=.exc c):kc [a,t]=.exc c:=by
 show fin (aN nF cx [.fz a,.fz t] 0)=_
 unfold aN
 rw[xS (aM (ds:=[a]) rfl h)];rfl
def zP {t:D}(O:OM.Ord n l)(h:cx [t,.int n]=.ok (.bool false) false):kc [az n l,t]=.exc "NoThing":=by
 show fin (aN nF cx [.fz (az n l),.fz t] 0)=_
 unfold aN
 rw[oS (aH (ds:=[az n l]) rfl (ku O))]
 rw[cV (cW (jK (aH (ds:=[t,.int n]) (ac rfl (ac (C7 (n:=n) (l:=l) rfl) an)) h)))];rfl
def uq {t:D}(O:OM.Ord n l)(h:cx [t,.int n]=.ok (.bool true) false):kc [az n l,t]=.ok .none false:=by
 show fin (aN nF cx [.fz (az n l),.fz t] 0)=_
 unfold aN
 rw[oS (aH (ds:=[az n l]) rfl (ku O))]
 rw[bH (cW (jK (aH (ds:=[t,.int n]) (ac rfl (ac (C7 (n:=n) (l:=l) rfl) an)) h)))];rfl
def zO {t:D}(h:kS [a,b]=.exc c):fM [a,t,b]=.exc c:=by
 show fin (a9 kS kc yZ [.fz a,.fz t,.fz b] 0)=_
 unfold a9
 rw[xS (aM (ds:=[a,b]) rfl h)];rfl
def FA {t:D}(h0:kS [a,b]=.ok .none false)(h:kc [a,t]=.exc c):fM [a,t,b]=.exc c:=by
 show fin (a9 kS kc yZ [.fz a,.fz t,.fz b] 0)=_
 unfold a9
 rw[oS (aH (ds:=[a,b]) rfl h0),xS (aM (ds:=[a,t]) rfl h)];rfl
def A2 {t:D}(O:OM.Ord n l)(O':OM.Ord m k)(h0:kc [az n l,t]=.ok .none false)(h:9 < n + m):fM [az n l,t,az m k]=.exc "TooMany":=by
 show fin (a9 kS kc yZ [.fz (az n l),.fz t,.fz (az m k)] 0)=_
 unfold a9
 rw[oS (aH (ds:=[az n l,az m k]) rfl (sJ (ku O) (ku O'))),oS (aH (ds:=[az n l,t]) rfl h0),xE (aM (ds:=[.int ((n:Int) + m - 1)]) (ac (bb (wd (n:=n) (l:=l) (m:=m) (k:=k) rfl rfl) rfl rfl) an) (EY (by omega)))];rfl
def Dl {t:D}(O:OM.Ord n l)(O':OM.Ord m k)(h0:kc [az n l,t]=.ok .none false)(h:n + m<=9):fM [az n l,t,az m k]=.ok .none false:=by
 show fin (a9 kS kc yZ [.fz (az n l),.fz t,.fz (az m k)] 0)=_
 unfold a9
 rw[oS (aH (ds:=[az n l,az m k]) rfl (sJ (ku O) (ku O'))),oS (aH (ds:=[az n l,t]) rfl h0),oE (aH (ds:=[.int ((n:Int) + m - 1)]) (ac (bb (wd (n:=n) (l:=l) (m:=m) (k:=k) rfl rfl) rfl rfl) an) (Fh (by omega)))];rfl
def FW {r r':D}(h:AM [r,a]=.ok (.bool false) false):k8 [a,b,r,r']=.exc "NoRows":=by
 show fin (gV AM [.fz a,.fz b,.fz r,.fz r'] 0)=_
 unfold gV
 rw[nI (c:="NoRows") (by rw[cV (cW (jK (aH (ds:=[r,a]) rfl h)))];rfl)];rfl
def Cp {t:D}(h:kc [a,t]=.exc c):zH [a,t]=.exc c:=by
 show fin (gp kc [.fz a,.fz t,.no] 0)=_
 unfold gp
 rw[xS (aM (ds:=[a,t]) rfl h)];rfl
def Fu {t:D}(h:kc [az 1 [],t]=.ok .none false):zH [az 1 [],t]=.exc "Bare":=by
 show fin (gp kc [.fz (az 1 []),.fz t,.no] 0)=_
 unfold gp
 rw[oS (aH (ds:=[az 1 [],t]) rfl h),nI (c:="Bare") (by rw[cV (β':=0) (by rfl)];rfl)];rfl
noncomputable def DZ:List D->FR:=ba 6 6 (fQ Ih DK Ir Dk CU Er zH)
variable {t r r':D}
def Hg (h:mC [a,b]=.exc c):Ih [a,b]=.exc c:=by
 show fin (gW mC [.fz a,.fz b,.no,.no] 0)=_
 unfold gW
 rw[xS (aM (ds:=[a,b]) rfl h)];rfl
def Gk (h:mC [a,b]=.exc c):DK [a,b]=.exc c:=by
 show fin (hJ mC [.fz a,.fz b] 0)=_
 unfold hJ
 rw[xS (aM (ds:=[a,b]) rfl h)];rfl
def Hq (h:mC [a,b]=.exc c\/(mC [a,b]=.ok .none false/\k8 [a,b,r,r']=.exc c)):Ir [a,b,r,r']=.exc c:=by
 show fin (fj mC k8 [.fz a,.fz b,.fz r,.fz r',.no] 0)=_
 unfold fj
 rcases h with h | ⟨h0,h⟩
 ·rw[xS (aM (ds:=[a,b]) rfl h)];rfl
 ·rw[oS (aH (ds:=[a,b]) rfl h0),xS (aM (ds:=[a,b,r,r']) rfl h)];rfl
def Fv (h:mC [a,b]=.exc c\/(mC [a,b]=.ok .none false/\k8 [a,b,r,r']=.exc c)):Dk [a,b,r,r']=.exc c:=by
 show fin (fk mC k8 [.fz a,.fz b,.fz r,.fz r',.no,.no] 0)=_
 unfold fk
 rcases h with h | ⟨h0,h⟩
 ·rw[xS (aM (ds:=[a,b]) rfl h)];rfl
 ·rw[oS (aH (ds:=[a,b]) rfl h0),xS (aM (ds:=[a,b,r,r']) rfl h)];rfl
def E6 (h:fM [a,t,b]=.exc c):CU [a,t,b]=.exc c:=by
 show fin (jg fM [.fz a,.fz t,.fz b,.no,.no,.no] 0)=_
 unfold jg
 rw[xS (aM (ds:=[a,t,b]) rfl h)];rfl
def Fl (h:fM [a,t,b]=.exc c\/(fM [a,t,b]=.ok .none false/\k8 [a,b,r,r']=.exc c)):Er [a,t,b,r,r']=.exc c:=by
 show fin (c6 fM k8 [.fz a,.fz t,.fz b,.fz r,.fz r',.no] 0)=_
 unfold c6
 rcases h with h | ⟨h0,h⟩
 ·rw[xS (aM (ds:=[a,t,b]) rfl h)];rfl
 ·rw[oS (aH (ds:=[a,t,b]) rfl h0),xS (aM (ds:=[a,b,r,r']) rfl h)];rfl
def Way (a t b r r':D)(c:Str):Nat->Prop
 | 0=>mC [a,b]=.exc c
 | 1=>mC [a,b]=.exc c
 | 2=>mC [a,b]=.exc c\/(mC [a,b]=.ok .none false/\k8 [a,b,r,r']=.exc c)
 | 3=>mC [a,b]=.exc c\/(mC [a,b]=.ok .none false/\k8 [a,b,r,r']=.exc c)
 | 4=>fM [a,t,b]=.exc c
 | 5=>fM [a,t,b]=.exc c\/(fM [a,t,b]=.ok .none false/\k8 [a,b,r,r']=.exc c)
 | 6=>zH [a,t]=.exc c
 |_=>False
theorem ask {w:Nat}(h:Way a t b r r' c w):DZ [.int w,a,t,b,r,r']=.exc c:=by
 show fin (fQ Ih DK Ir Dk CU Er zH [.fz (.int w),.fz a,.fz t,.fz b,.fz r,.fz r'] 0)=_
 unfold fQ
 match w,h with
 | 0,h=>rw[cV (β':=0) (by rfl),xE (aM (ds:=[a,b]) rfl (Hg h))];rfl
 | 1,h=>rw[bH (β':=0) (by rfl),cV (β':=0) (by rfl),xE (aM (ds:=[a,b]) rfl (Gk h))];rfl
 | 2,h=>rw[bH (β':=0) (by rfl),bH (β':=0) (by rfl),cV (β':=0) (by rfl),xE (aM (ds:=[a,b,r,r']) rfl (Hq h))];rfl
 | 3,h=>rw[bH (β':=0) (by rfl),bH (β':=0) (by rfl),bH (β':=0) (by rfl),cV (β':=0) (by rfl),xE (aM (ds:=[a,b,r,r']) rfl (Fv h))];rfl
 | 4,h=>rw[bH (β':=0) (by rfl),bH (β':=0) (by rfl),bH (β':=0) (by rfl),bH (β':=0) (by rfl),cV (β':=0) (by rfl),xE (aM (ds:=[a,t,b]) rfl (E6 h))];rfl
 | 5,h=>rw[bH (β':=0) (by rfl),bH (β':=0) (by rfl),bH (β':=0) (by rfl),bH (β':=0) (by rfl),bH (β':=0) (by rfl),cV (β':=0) (by rfl),xE (aM (ds:=[a,t,b,r,r']) rfl (Fl h))];rfl
 | 6,h=>rw[bH (β':=0) (by rfl),bH (β':=0) (by rfl),bH (β':=0) (by rfl),bH (β':=0) (by rfl),bH (β':=0) (by rfl),bH (β':=0) (by rfl),xE (aM (ds:=[a,t]) rfl h)];rfl
def xF:List (Str×Nat):=[("NoOrder",0),("NoThing",4),("NoRows",6),("TooMany",12),("Bare",13)]
noncomputable def CY:List D->FR:=ba 7 6 (dM (λx=>xF.lookup x) DZ)
def HS {w j:Nat}(h:Way a t b r r' c w)(hj:xF.lookup c=some j):CY [.int w,a,t,b,r,r']=.ok (.list [.int (j:Int)]) true:=by
 show fin (dM (λx=>xF.lookup x) DZ [.fz (.int w),.fz a,.fz t,.fz b,.fz r,.fz r',.no] 0)=_
 unfold dM
 rw[fT (d:=.list [.int (j:Int)]) (b:=true) (β':=0) ?q]
 ·rfl
 case q=>
  unfold tm
  refine (Jk (by rfl)).trans ?_
  rw[xE (aM (ds:=[.int w,a,t,b,r,r']) rfl (ask h))]
  dsimp only
  rw[hj]
end
noncomputable def Ef:List D->Int->FB:=mr 2 0 (df cC)
def Hz (β:Int):∃o β',Ef [] β=.ok o false β'/\o∈ka:=by
 show ∃o β',xu (df cC [.bx,.no] β)=.ok o false β'/\o∈ka
 unfold df
 rw[aV (env':=[.bx,.fz (.list (ka.take 8))]) (β':=β) ?a]
 case a=>
  rw[i9,lp (ds:=ka.take 8) (ac rfl (ac (tp an) (ac (tp (ac rfl (ac (tp an) an))) (ac (tp (ac rfl (ac (tp an) an))) (ac (tp (ac rfl (ac (tp (ac (tp (ac rfl (ac rfl an))) an)) an))) (ac (tp (ac rfl (ac (tp (ac (tp (ac rfl (ac rfl an))) (ac (tp (ac rfl (ac rfl an))) an))) an))) (ac (tp (ac rfl (ac (tp (ac (tp (ac rfl (ac rfl an))) (ac (tp (ac rfl (ac rfl an))) an))) an))) (ac (lp (ac rfl (ac (tp an) an))) an)))))))) (by show (8:Nat)<=1000;omega)]
  rfl
 rw[aV (env':=[.bx,.fz (.list ka)]) (β':=β) ?b]
 case b=>
  rw[i9,bb (x:=.list (ka.take 8)) (y:=.list (ka.drop 8)) (d:=.list ka) (β1:=β) (β2:=β) rfl (lp (ds:=ka.drop 8) (ac (tp (ac rfl (ac (tp an) an))) (ac (tp (ac rfl (ac (lp (ac (tp (ac rfl (ac rfl an))) an)) an))) (ac (tp (ac rfl (ac (tp (ac (tp (ac rfl (ac rfl an))) an)) an))) (ac (tp (ac rfl (ac (tp (ac (tp (ac rfl (ac rfl an))) (ac (tp (ac rfl (ac rfl an))) (ac (tp (ac rfl (ac rfl an))) an)))) an))) (ac rfl (ac (tp (ac rfl (ac (tp an) (ac (tp an) an)))) an)))))) (by show (6:Nat)<=1000;omega)) ?c]
  ·rfl
  case c=>rw[A0 (by show (8 + 6:Nat)<=10000;omega)];rfl
 obtain⟨j,hj,ej⟩:=iq (m:=14) (by omega) (by omega) β
 have hlen:ka.length=14:=rfl
 obtain⟨o,ho⟩:∃o,ka[j]? =some o:=⟨_,Jr (by omega)⟩
 have e:f2 (gv 1) (j9 0 cC (ae (cst (.int 14)) ag)) gN (vl [.bx,.fz (.list ka)]) β=.ok o (β / ((14:Nat):Int)):=bb (x:=.list ka) (y:=.int j) rfl (eO (ds:=[.int 14]) (by rfl) rfl ej) (show kg ka (j:Int)=some o from ja ho)
 rw[iX,e]
 exact⟨o,_,rfl,JI ho⟩
def bR (n:Nat):List D:=[.list [],.none,.tuple [tupI (fo n)],.list [.tuple (((fo n).map int).drop 1)],.list [tupI (fo n ++ [0])],.list [.list ((fo n).map int)],.list [.int 0]]
noncomputable def Ik:List D->Int->FB:=mr 3 1 (de cC)
def Gu {n:Nat}{l:List Pr}(O:OM.Ord n l)(β:Int):∃d β',Ik [az n l] β=.ok d false β'/\d∈bR n:=by
 show ∃d β',xu (de cC [.bx,.fz (az n l),.no] β)=.ok d false β'/\d∈bR n
 unfold de
 have h8:=O.hi
 rw[aV (env':=[.bx,.fz (az n l),.fz (tupI (fo n))]) (β':=β) ?a]
 case a=>rw[i9,gK (x:=.int n) (d:=tupI (fo n)) (β1:=β) (C7 (n:=n) (l:=l) rfl) (oy (by omega))];rfl
 obtain⟨j,hj,ej⟩:=iq (m:=7) (by omega) (by omega) β
 have hlen:(bR n).length=7:=rfl
 obtain⟨o,ho⟩:∃o,(bR n)[j]? =some o:=⟨_,Jr (by omega)⟩
 have e0:bz (ae (bz ag) (ae (cst .none) (ae (aL (ae (gv 2) ag)) (ae (bz (ae (yU (gv 2) (EV (cst (.int 1))) (λ_ β=>.ok none β)) ag)) (ae (bz (ae (f2 (gv 2) (aL (ae (cst (.int 0)) ag)) qq) ag)) (ae (bz (ae (f1 (gv 2) wR) ag)) (ae (bz (ae (cst (.int 0)) ag)) ag))))))) (vl [.bx,.fz (az n l),.fz (tupI (fo n))]) β=.ok (.list (bR n)) β:=
  lp (ds:=bR n) (ac (lp an) (ac rfl (ac (tp (ac rfl an)) (ac (lp (ac (yO (ds:=(fo n).map int) (i:=1) rfl rfl) an)) (ac (lp (ac (Iz (r:=fo n) (q:=[0]) rfl (tp (ac rfl an)) (by rw[dr];simp;omega)) an)) (ac (lp (ac rfl an)) (ac (lp (ac rfl an)) an))))))) (by show (7:Nat)<=1000;omega)
 rw[iX,bb (x:=.list (bR n)) (y:=.int j) e0 (eO (ds:=[.int 7]) (by rfl) rfl ej) (show kg (bR n) (j:Int)=some o from ja ho)]
 exact⟨o,_,rfl,JI ho⟩
def vV {n:Nat}{l:List Pr}{r:List Int}(h:Row n l r):r.length=n:=by rw[h.1.length_eq,dr]
def Fw {n:Nat}{l:List Pr}(O:OM.Ord n l){d:D}(h:d∈bR n):wF n l d=false:=by
 have h1:=O.lo
 unfold bR at h
 simp only[Jn,JG,J3] at h
 refine rP λrs e hne=>?_
 have one:∀x:D,d=.list [x]->∃r,rs= [r]/\x=tupI r:=λx hx=>by
  rw[hx] at e
  have e:=PyData.list.inj e
  match rs,e with
  | [r],e=>exact⟨r,rfl,(List.cons.inj e).1⟩
  | [],e=>cases e
  |_ :: _ :: _,e=>exact absurd (congrArg List.length e) (by simp)
 rcases h with rfl |rfl |rfl |rfl |rfl |rfl |rfl
 ·cases rs with
  |nil=>exact absurd rfl hne
  |cons r rs=>cases e
 ·cases e
 ·cases e
 ·obtain⟨r,rfl,hr⟩:=one _ rfl
  refine⟨r,JS.mpr rfl,λR=>?_⟩
  have:=congrArg List.length (PyData.tuple.inj hr)
  rw[K2,JE,JE,dr,vV R] at this
  omega
 ·obtain⟨r,rfl,hr⟩:=one _ rfl
  refine⟨r,JS.mpr rfl,λR=>?_⟩
  have:=vV R
  rw[<-ni hr,JP,dr] at this
  simp at this
 ·obtain⟨r,rfl,hr⟩:=one _ rfl
  cases hr
 ·obtain⟨r,rfl,hr⟩:=one _ rfl
  cases hr
def E2 {n:Nat}{l:List Pr}(O:OM.Ord n l){d:D}(h:d∈bR n):Gt d:=by
 have h8:=O.hi
 have gi:∀ns:List Int,ns.length<=100->Ge (tupI ns):=λns hz=>⟨rfl,λes e=>by
  cases e
  exact⟨by rw[JE];exact hz,λx hx=>by obtain⟨a,_,rfl⟩:=KZ.mp hx;rfl⟩⟩
 have hl:=dr n
 unfold bR at h
 simp only[Jn,JG,J3] at h
 have one:∀x:D,Ge x->Gt (.list [x]):=λx hx=>⟨rfl,λes e=>by cases e;exact⟨by simp,λy hy=>by rw[JS.mp hy];exact hx⟩⟩
 rcases h with rfl |rfl |rfl |rfl |rfl |rfl |rfl
 ·exact⟨rfl,λes e=>by cases e;exact⟨by simp,λy hy=>by cases hy⟩⟩
 ·exact⟨rfl,λes e=>by cases e⟩
 ·exact⟨rfl,λes e=>by cases e⟩
 ·refine one _ ?_
  rw[<-List.map_drop]
  exact gi _ (by rw[K2];omega)
 ·exact one _ (gi _ (by rw[JP,hl];simp;omega))
 ·exact one _ ⟨rfl,λes e=>by cases e⟩
 ·exact one _ ⟨rfl,λes e=>by cases e⟩
def Ft {n:Nat}{l:List Pr}(O:OM.Ord n l){d:D}(h:d∈bR n):AM [d,az n l]=.ok (.bool false) false:=by
 show fin (ur nF Iu IK [.fz d,.fz (az n l)] 0)=_
 refine uB (BN (aH (ds:=[az n l]) rfl (ku O)) ?_)
 have ea:=HR O (E2 O h)
 rw[Fw O h] at ea
 exact yV (CK (aH (ds:=[d,az n l]) rfl ea)) rfl
def EJ {fa:VF D}{fr:VF (List D)}{vs:List Nv}{β β1 β2:Int}{d:D}{ds:List D}(h:fa vs β=.ok d β1)(h':fr vs β1=.ok ds β2):ae fa fr vs β=.ok (d :: ds) β2:=by rw[c3,h];dsimp only[R.bnd];rw[h']
def B3 {m':SF}{env:En}{β β1 β2:Int}{Q:SO->Prop}{fa fb:VF D}{d e:D}{La Lb:List Nat}{i j:Nat}(h:fa (vl env) β=.ok d β1)(h':fb (vl env) β1=.ok e β2)(k:WP (m' (((a7 (La ++ Lb) env).set i (.fz d)).set j (.fz e)) β2) Q):WP (aP (wH i j La Lb fa fb) m' env β) Q:=wp_seq (by unfold wH;rw[h];dsimp only[toS];rw[h']) k
def Dd {t u:VF Bool}{vs:List Nv}{β β1 β2:Int}{c:Bool}(h:t vs β=.ok true β1)(h':u vs β1=.ok c β2):uQ t u vs β=.ok c β2:=by rw[uD,h];exact h'
def DF {t u:VF Bool}{vs:List Nv}{β β1:Int}(h:t vs β=.ok false β1):uQ t u vs β=.ok false β1:=by rw[uD,h];rfl
def rl {n:Nat}(h1:1<=n)(h8:n<=8):OM.Ord n []:=⟨h1,h8,(λp h=>by cases h),List.Pairwise.nil,(λa h=>by cases h),(λa b c h=>by cases h)⟩
def EC {n:Nat}(h1:1<=n):cx [.int 0,.int n]=.ok (.bool true) false:=by
 rw[j6 rfl]
 congr 2
 exact Jv ⟨by omega,by omega⟩
def tw {env:En}{β β1:Int}{fr:VF (List D)}{w j:Nat}{a t b r r':D}{c:Str}(ha:fr (vl env) β=.ok [.int w,a,t,b,r,r'] β1)(h:Way a t b r r' c w)(hj:xF.lookup c=some j):dY (f2 (aA CY fr) (bz (ae (cst (.int (j:Int))) ag)) (fN true)) (vl env) β=.ok false β1:=
 kI _ _ _ _ (bb (x:=.list ([(j:Int)].map int)) (y:=.list ([(j:Int)].map int)) (aH ha (HS h hj)) (lp (ac rfl an)) (by rw[sE,Jk rfl,Jv rfl];rfl))
noncomputable def D2:List D->FR:=ba 12 1 (wX Aa kO CY uL Ef cC Ik)
noncomputable def L8:List Pr:=(OM.dE 8).filter (lL [fo 8])
def Eu:OM.Ord 8 L8:=qd (by omega) (by omega) (by simp)
def EK (n:Nat):List D:=[.int n,.int (-1),.bool true,.none,.str "0",.tuple [.int 0],.int (10 ^ 30)]
def Dm {n:Nat}(h8:n<=8){t:D}(h:t∈EK n):cx [t,.int n]=.ok (.bool false) false:=by
 unfold EK at h
 simp only[Jn,JG,J3] at h
 have x:∀i:Int,¬(0<=i/\i < n)->cx [.int i,.int n]=.ok (.bool false) false:=λi hi=>by
  rw[j6 rfl]
  congr 2
  exact Jy hi
 rcases h with rfl |rfl |rfl |rfl |rfl |rfl |rfl
 ·exact x _ (by omega)
 ·exact x _ (by omega)
 ·rfl
 ·rfl
 ·rfl
 ·rfl
 ·exact x _ (by omega)
noncomputable abbrev le (ns:List Int)(i n m:Nat)(l k:List Pr)(bad nt rows:D)(s10 s11:Sl):En:=[.fz (cg ns),.fz (.int i),.bx,.fz (az n l),.fz (az m k),.fz bad,.fz nt,.fz (az 8 []),.fz (az 8 L8),.fz rows,s10,s11]
def Ff (ns:List Int):D2 [cg ns]=.ok (.bool true) false:=by
 show fin (wX Aa kO CY uL Ef cC Ik [.fz (cg ns),.no,.no,.no,.no,.no,.no,.no,.no,.no,.no,.no] 0)=_
 refine uB ?_
 obtain⟨m0,hm0,em⟩:=Af 5 (by omega) ns (vl [.fz (cg ns),.no,.no,.no,.no,.no,.no,.no,.no,.no,.no,.no]) 0 rfl
 unfold wX
 refine rm (λ_ env _=>∃s1 s2 s3 s4 s5 s6 s7 s8 s9 s10 s11,env= [.fz (cg ns),s1,s2,s3,s4,s5,s6,s7,s8,s9,s10,s11]) em ⟨_,_,_,_,_,_,_,_,_,_,_,rfl⟩ ?_ λenv β ⟨s1,s2,s3,s4,s5,s6,s7,s8,s9,s10,s11,e⟩=>yV (d:=.bool true) rfl rfl
 rintro i d env β hi ⟨s1,s2,s3,s4,s5,s6,s7,s8,s9,s10,s11,rfl⟩
 obtain⟨_,rfl⟩:=gE hi
 rw[Ka]
 refine⟨[.fz (cg ns),.fz (.int i),s2,s3,s4,s5,s6,s7,s8,s9,s10,s11],rfl,?_⟩
 obtain⟨z,ez⟩:=Dt ns i
 obtain⟨t3,t4,t5,t6,t7,t8,t9,t10,t11,hcl⟩:∃t3 t4 t5 t6 t7 t8 t9 t10 t11:Sl,(pj (a7 ([0] ++ ([1] ++ [])) [.fz (cg ns),.fz (.int i),s2,s3,s4,s5,s6,s7,s8,s9,s10,s11])).set 2 .bx= [.fz (cg ns),.fz (.int i),.bx,t3,t4,t5,t6,t7,t8,t9,t10,t11]:=⟨_,_,_,_,_,_,_,_,_,rfl⟩
 refine AU (z5 (ds:=[cg ns,.int i]) rfl ez) (wp_at _ hcl ?_)
 obtain⟨n,l,β1,e1,O,h4⟩:=wu (most:=4) (by omega) (by omega) z
 obtain⟨m,k,β2,e2,O',h4'⟩:=wu (most:=4) (by omega) (by omega) β1
 refine B3 (d:=az n l) (e:=az m k) (eO (ds:=[.int 4]) (by rfl) rfl e1) (eO (ds:=[.int 4]) (by rfl) rfl e2) (wp_at [.fz (cg ns),.fz (.int i),.bx,.fz (az n l),.fz (az m k),t5,t6,t7,t8,t9,t10,t11] rfl ?_)
 obtain⟨bad,β3,e3,hbad⟩:=Hz β2
 have hb:=HZ (Dy bad hbad)
 refine lK (d:=bad) (eO (ds:=[]) (by rfl) rfl e3) (wp_at [.fz (cg ns),.fz (.int i),.bx,.fz (az n l),.fz (az m k),.fz bad,t6,t7,t8,t9,t10,t11] rfl ?_)
 obtain⟨j,hj,ej⟩:=iq (m:=7) (by omega) (by omega) β3
 obtain⟨nt,hnt⟩:∃o,(EK n)[j]? =some o:=⟨_,Jr (by show j < 7;omega)⟩
 have hno:=Dm (n:=n) (by omega) (JI hnt)
 have e4:f2 (bz (ae (f2 (gv 3) (cst (.int 0)) gN) (ae (f1 (cst (.int 1)) DS) (ae (cst (.bool true)) (ae (cst .none) (ae (cst (.str "0")) (ae (aL (ae (cst (.int 0)) ag)) (ae (f2 (cst (.int 10)) (cst (.int 30)) A8) ag)))))))) (j9 2 cC (ae (cst (.int 7)) ag)) gN (vl [.fz (cg ns),.fz (.int i),.bx,.fz (az n l),.fz (az m k),.fz bad,t6,t7,t8,t9,t10,t11]) β3=.ok nt (β3 / ((7:Nat):Int)):=
  bb (x:=.list (EK n)) (y:=.int j) (lp (ds:=EK n) (ac (C7 (n:=n) (l:=l) rfl) (ac rfl (ac rfl (ac rfl (ac rfl (ac (tp (ac rfl an)) (ac (bb (x:=.int 10) (y:=.int 30) rfl rfl (by rfl)) an))))))) (by show (7:Nat)<=1000;omega)) (eO (ds:=[.int 7]) (by rfl) rfl ej) (show kg (EK n) (j:Int)=some nt from ja hnt)
 generalize β3 / ((7:Nat):Int)=β4 at e4
 refine lK e4 (wp_at [.fz (cg ns),.fz (.int i),.bx,.fz (az n l),.fz (az m k),.fz bad,.fz nt,t7,t8,t9,t10,t11] rfl ?_)
 refine lK (d:=az 8 []) (tp (ac rfl (ac (tp an) an))) (wp_at [.fz (cg ns),.fz (.int i),.bx,.fz (az n l),.fz (az m k),.fz bad,.fz nt,.fz (az 8 []),t8,t9,t10,t11] rfl ?_)
 refine lK (d:=az 8 L8) (tp (ac rfl (ac (aH (ds:=[.int (8:Nat),.list ([fo 8].map tupI)]) (ac rfl (ac (lp (ac (gK (x:=.int (8:Nat)) rfl (oy (by omega))) an)) an)) (wV (by omega) (by simp) λr hr=>by rw[JS.mp hr])) an))) (wp_at [.fz (cg ns),.fz (.int i),.bx,.fz (az n l),.fz (az m k),.fz bad,.fz nt,.fz (az 8 []),.fz (az 8 L8),t9,t10,t11] rfl ?_)
 obtain⟨rows,β5,e5,hrow⟩:=Gu O β4
 refine lK (d:=rows) (eO (ds:=[az n l]) (by rfl) rfl e5) (wp_at (le ns i n m l k bad nt rows t10 t11) rfl ?_)
 have hO8:=rl (n:=8) (by omega) (by omega)
 have hlo:=O.lo
 refine rm (ds:=cP 0 7) (β1:=β5) (λ_ env _=>∃s10 s11,env=le ns i n m l k bad nt rows s10 s11) (ir (n:=7) rfl (by omega)) ⟨_,_,rfl⟩ ?_ ?_
 ·rintro w d env β hw ⟨s10,s11,rfl⟩
  obtain⟨hw7,rfl⟩:=gE hw
  rw[Ka]
  refine⟨le ns i n m l k bad nt rows (.fz (.int w)) s11,rfl,?_⟩
  have c7:w=0\/w=1\/w=2\/w=3\/w=4\/w=5\/w=6:=by omega
  have w1:Way bad nt bad rows rows "NoOrder" w:=by
   rcases c7 with rfl |rfl |rfl |rfl |rfl |rfl |rfl
   ·exact zr (xD hb)
   ·exact zr (xD hb)
   ·exact .inl (zr (xD hb))
   ·exact .inl (zr (xD hb))
   ·exact zO (xD hb)
   ·exact .inl (zO (xD hb))
   ·exact Cp (GB hb)
  refine mW (tw (j:=0) (ac rfl (ac rfl (ac rfl (ac rfl (ac rfl (ac rfl an)))))) w1 rfl) (wp_at (le ns i n m l k bad nt rows (.fz (.int w)) s11) rfl ?_)
  have k2:dY (f2 (gv 10) (cst (.int 4)) pG) (vl (le ns i n m l k bad nt rows (.fz (.int w)) s11)) β=.ok (decide ((w:Int) < 4)) β:=rfl
  have q2:uQ (dY (f2 (gv 10) (cst (.int 4)) pG)) (dY (f2 (aA CY (ae (gv 10) (ae (gv 3) (ae (cst (.int 0)) (ae (gv 5) (ae (gv 9) (ae (gv 9) ag))))))) (bz (ae (cst (.int 0)) ag)) (fN true))) (vl (le ns i n m l k bad nt rows (.fz (.int w)) s11)) β=.ok false β:=by
   by_cases c:(w:Int) < 4
   ·rw[Jv c] at k2
    have w2:Way (az n l) (.int 0) bad rows rows "NoOrder" w:=by
     have x:mC [az n l,bad]=.exc "NoOrder":=zr (FQ (ku O) hb)
     rcases (show w=0\/w=1\/w=2\/w=3 by omega) with rfl |rfl |rfl |rfl
     ·exact x
     ·exact x
     ·exact .inl x
     ·exact .inl x
    exact Dd k2 (tw (j:=0) (ac rfl (ac rfl (ac rfl (ac rfl (ac rfl (ac rfl an)))))) w2 rfl)
   ·rw[Jy c] at k2
    exact DF k2
  refine mW q2 (wp_at (le ns i n m l k bad nt rows (.fz (.int w)) s11) rfl ?_)
  have k3:dY (f2 (gv 10) (cst (.int 3)) Ek) (vl (le ns i n m l k bad nt rows (.fz (.int w)) s11)) β=.ok (decide ((w:Int) > 3)) β:=rfl
  have q3:uQ (dY (f2 (gv 10) (cst (.int 3)) Ek)) (dY (f2 (aA CY (ae (gv 10) (ae (gv 3) (ae (gv 6) (ae (gv 4) (ae (gv 9) (ae (gv 9) ag))))))) (bz (ae (cst (.int 4)) ag)) (fN true))) (vl (le ns i n m l k bad nt rows (.fz (.int w)) s11)) β=.ok false β:=by
   by_cases c:(w:Int) > 3
   ·rw[Jv c] at k3
    have w3:Way (az n l) nt (az m k) rows rows "NoThing" w:=by
     have x:fM [az n l,nt,az m k]=.exc "NoThing":=FA (sJ (ku O) (ku O')) (zP O hno)
     rcases (show w=4\/w=5\/w=6 by omega) with rfl |rfl |rfl
     ·exact x
     ·exact .inl x
     ·exact Cp (zP O hno)
    exact Dd k3 (tw (j:=4) (ac rfl (ac rfl (ac rfl (ac rfl (ac rfl (ac rfl an)))))) w3 rfl)
   ·rw[Jy c] at k3
    exact DF k3
  refine mW q3 (wp_at (le ns i n m l k bad nt rows (.fz (.int w)) s11) rfl ?_)
  have k4:dY (f2 (gv 10) (aL (ae (cst (.int 4)) (ae (cst (.int 5)) ag))) (Cb false)) (vl (le ns i n m l k bad nt rows (.fz (.int w)) s11)) β=.ok (decide ((w:Int)∈([4,5]:List Int))) β:=kI _ _ _ _ (bb (x:=.int w) (y:=tupI [4,5]) rfl (tp (ac rfl (ac rfl an))) (wa false w [4,5]))
  have q4:uQ (dY (f2 (gv 10) (aL (ae (cst (.int 4)) (ae (cst (.int 5)) ag))) (Cb false))) (dY (f2 (aA CY (ae (gv 10) (ae (gv 3) (ae (gv 6) (ae (gv 5) (ae (gv 9) (ae (gv 9) ag))))))) (bz (ae (cst (.int 0)) ag)) (fN true))) (vl (le ns i n m l k bad nt rows (.fz (.int w)) s11)) β=.ok false β:=by
   by_cases c:(w:Int)∈([4,5]:List Int)
   ·rw[Jv c] at k4
    have w4:Way (az n l) nt bad rows rows "NoOrder" w:=by
     have x:fM [az n l,nt,bad]=.exc "NoOrder":=zO (FQ (ku O) hb)
     simp only[Jn,JG,J3] at c
     rcases (show w=4\/w=5 by omega) with rfl |rfl
     ·exact x
     ·exact .inl x
    exact Dd k4 (tw (j:=0) (ac rfl (ac rfl (ac rfl (ac rfl (ac rfl (ac rfl an)))))) w4 rfl)
   ·rw[Jy c] at k4
    exact DF k4
  refine mW q4 (wp_at (le ns i n m l k bad nt rows (.fz (.int w)) s11) rfl ?_)
  have k5:dY (f2 (gv 10) (aL (ae (cst (.int 2)) (ae (cst (.int 3)) (ae (cst (.int 5)) ag)))) (Cb false)) (vl (le ns i n m l k bad nt rows (.fz (.int w)) s11)) β=.ok (decide ((w:Int)∈([2,3,5]:List Int))) β:=kI _ _ _ _ (bb (x:=.int w) (y:=tupI [2,3,5]) rfl (tp (ac rfl (ac rfl (ac rfl an)))) (wa false w [2,3,5]))
  by_cases c:(w:Int)∈([2,3,5]:List Int)
  case neg=>rw[Jy c] at k5;exact xH k5 (pX ⟨_,_,rfl,_,_,rfl⟩)
  rw[Jv c] at k5
  refine Hy k5 (wp_at (le ns i n m l k bad nt rows (.fz (.int w)) s11) rfl ?_)
  obtain⟨others,β6,e6,hoth⟩:=Gu O' β
  refine lK (d:=others) (eO (ds:=[az m k]) (by rfl) rfl e6) (wp_at (le ns i n m l k bad nt rows (.fz (.int w)) (.fz others)) rfl ?_)
  have w5:Way (az n l) (.int 0) (az m k) rows others "NoRows" w:=by
   have x:=FP O O' (by omega)
   have y:k8 [az n l,az m k,rows,others]=.exc "NoRows":=FW (Ft O hrow)
   have v:=Dl O O' (uq O (EC hlo)) (by omega)
   simp only[Jn,JG,J3] at c
   rcases (show w=2\/w=3\/w=5 by omega) with rfl |rfl |rfl
   ·exact .inr ⟨x,y⟩
   ·exact .inr ⟨x,y⟩
   ·exact .inr ⟨v,y⟩
  exact xH (tw (j:=6) (ac rfl (ac rfl (ac rfl (ac rfl (ac rfl (ac rfl an)))))) w5 rfl) (pX ⟨_,_,rfl,_,_,rfl⟩)
 ·rintro env β ⟨s10,s11,rfl⟩
  refine rm (ds:=cP 0 4) (β1:=β) (λ_ env _=>∃s10 s11,env=le ns i n m l k bad nt rows s10 s11) (ir (n:=4) rfl (by omega)) ⟨_,_,rfl⟩ ?_ ?_
  ·rintro w d env β hw ⟨s10,s11,rfl⟩
   obtain⟨hw4,rfl⟩:=gE hw
   rw[Ka]
   refine⟨le ns i n m l k bad nt rows (.fz (.int w)) s11,rfl,?_⟩
   obtain⟨j,hj,ej⟩:=iq (m:=2) (by omega) (by omega) β
   obtain⟨x8,hx8⟩:∃o,([az 8 [],az 8 L8]:List D)[j]? =some o:=⟨_,Jr (by show j < 2;omega)⟩
   have big:mC [az n l,x8]=.exc "TooMany":=by
    have:=JI hx8
    simp only[Jn,JG,J3] at this
    rcases this with rfl |rfl
    ·exact Ag O hO8 (by omega)
    ·exact Ag O Eu (by omega)
   have w6:Way (az n l) (.int 0) x8 rows rows "TooMany" w:=by
    rcases (show w=0\/w=1\/w=2\/w=3 by omega) with rfl |rfl |rfl |rfl
    ·exact big
    ·exact big
    ·exact .inl big
    ·exact .inl big
   have e8:f2 (bz (ae (gv 7) (ae (gv 8) ag))) (j9 2 cC (ae (cst (.int 2)) ag)) gN (vl (le ns i n m l k bad nt rows (.fz (.int w)) s11)) β=.ok x8 (β / ((2:Nat):Int)):=bb (x:=.list [az 8 [],az 8 L8]) (y:=.int j) (lp (ac rfl (ac rfl an))) (eO (ds:=[.int 2]) (by rfl) rfl ej) (show kg [az 8 [],az 8 L8] (j:Int)=some x8 from ja hx8)
   exact xH (tw (j:=12) (EJ rfl (EJ rfl (EJ rfl (EJ e8 (EJ rfl (EJ rfl an)))))) w6 rfl) (pX ⟨_,_,rfl,_,_,rfl⟩)
  ·rintro env β ⟨s10,s11,rfl⟩
   refine rm (ds:=cP 4 2) (β1:=β) (λ_ env _=>∃s10 s11,env=le ns i n m l k bad nt rows s10 s11) (zL (i:=4) (j:=6) rfl rfl (by omega) (by omega)) ⟨_,_,rfl⟩ ?_ ?_
   ·rintro q d env β hq ⟨s10,s11,rfl⟩
    obtain⟨hq2,rfl⟩:=gE hq
    obtain⟨w,hw⟩:∃w:Nat,w=4 + q:=⟨_,rfl⟩
    rw[show (4:Int) + (q:Int)=(w:Int) by omega]
    refine⟨le ns i n m l k bad nt rows (.fz (.int w)) s11,rfl,?_⟩
    have w7:Way (az 8 []) (.int 0) (az 2 []) rows rows "TooMany" w:=by
     have x:=A2 hO8 (rl (n:=2) (by omega) (by omega)) (uq hO8 (EC (by omega))) (by omega)
     rcases (show w=4\/w=5 by omega) with rfl |rfl
     ·exact x
     ·exact .inl x
    exact xH (tw (j:=12) (ac rfl (ac rfl (ac rfl (ac (tp (ac rfl (ac (tp an) an))) (ac rfl (ac rfl an)))))) w7 rfl) (pX ⟨_,_,rfl,_,_,rfl⟩)
   ·rintro env β ⟨s10,s11,rfl⟩
    have w8:Way (az 1 []) (.int 0) (az n l) rows rows "Bare" 6:=Fu (uq (rl (by omega) (by omega)) (EC (by omega)))
    exact xH (tw (w:=6) (j:=13) (ac rfl (ac (tp (ac rfl (ac (tp an) an))) (ac rfl (ac rfl (ac rfl (ac rfl an)))))) w8 rfl) (pX ⟨_,_,rfl,_,_,_,_,_,_,_,_,_,_,_,rfl⟩)
end RM
namespace RO
open PySem L2
abbrev Fn (K:Frag)(mg:Str->Option Value)(x:Str)(st:Stmt)(ps:List Str)(f:Addr)(fd:FuncData):Prop:=gO K mg x st ps f fd
abbrev Bt (mg:Str->Option Value):Prop:=h9 mg
end RO
section
namespace L2
open PySem PySem.Spec PyProof.Rows
section
variable {K:Frag}{H H':Hp}{a:Addr}
theorem bA.snoc {x y:Int}(q:dW K H a [.int x,.int y]):∀{vs:List V} {ps:List (Int×Int)},bA K H vs ps->bA K H (vs ++ [.ref a]) (ps ++ [(x,y)])
 |_,_,.nil=>.cons ⟨a,rfl,q⟩ .nil
 |_,_,.cons r t=>.cons r (bA.snoc q t)
def bA.len {vs:List V}{ps:List (Int×Int)}(h:bA K H vs ps):vs.length=ps.length:=Paired.length h
def bA.same {vs:List V}{ps:List (Int×Int)}(h:bA K H vs ps)(s:ar H H'):bA K H' vs ps:=h.grow s.grow
def bA.at {vs:List V}{ps:List (Int×Int)}{i:Nat}{v:V}(h:bA K H vs ps)(e:vs[i]? =some v):∃p:Int×Int,ps[i]? =some p/\∃b,v=.ref b/\dW K H b [.int p.1,.int p.2]:=Paired.getP h e
def ar.put {o:HO}(s:ar H H')(h:H a=none)(hf:∀x y,H' a≠some (.a7 x y)):ar H (L2.upd H' a o):=λb u e=>hW (s b u e) (aE e h) hf
def Cc (h:H a=none):∀x y,H a≠some (.a7 x y):=λx y z=>by rw[h] at z;cases z
def EH {xs:List V}(h:H a=some (.lst xs)):∀x y,H a≠some (.a7 x y):=λx y z=>by rw[h] at z;cases z
end
end L2
namespace RO
open PySem L2
def y9 (N:List Str)(sc:Scope)(NB:List Str)(own:Nat)(ixs:List Nat)(scope:Scope):Bool:=
 decide (scope.kind=.function) && (scope.names.all λy=>decide (scope.names.lookup y.1=some y.2)) &&
 (scope.names.all λy=>decide (y.2=.free->(sc.names.lookup y.1=some .cell\/sc.names.lookup y.1=some .free))) && decide NB.Nodup && decide (NB.length=own + ixs.length) &&
 ((List.range ixs.length).all λk=>decide (NB[own + k]? =N[ixs.getD k 0]?) && (match NB[own + k]? with |some x=>decide ((x,NameKind.free)∈scope.names) |none=>true))
def jY {X:Cx}{NB:List Str}{own:Nat}{ixs:List Nat}{scope:Scope}(h:y9 X.N X.env.scope NB own ixs scope=true):bG X NB own ixs scope:=by
 unfold y9 at h
 simp only[JD,Kq,JN,J6] at h
 obtain⟨⟨⟨⟨⟨h1,h3⟩,h4⟩,h5⟩,h6⟩,h7⟩:=h
 refine⟨h1,h3,h4,h5,h6,λk hk=>⟨(h7 k hk).1,λx hx=>?_⟩⟩
 have:=(h7 k hk).2
 rw[hx] at this
 simpa using this
section
variable {X:Cx}{tg l:Expr}{tl:TE}{K:Frag}{H H1:Hp}{a:Addr}{xs:List V}{σ:St}
def HE (K:Frag)(tl:TE):TI:=λσ H R=>tl σ H λx H1=>∃a xs,x=.ref a/\((fP K H1 a xs/\R (yr K a) H1)\/(dW K H1 a xs/\R (CG K a) H1))
end
def ID (K:Frag){X:Cx}(h:X.K=K:=by rfl):zT X (DJ K):=by subst h;exact fS
def D6 (K:Frag)(i j:Nat){X:Cx}{x y:Str}{px py pos:Pos}{k:Nat}(hN:X.N.Nodup)(hi:X.N[i]? =some x)(hj:X.N[j]? =some y)(hx:X.env.scope.names.lookup x=some .local)(hy:X.env.scope.names.lookup y=some .local)(hc:X.calm=true)(hK:X.K=K) :
  PG X (.Tuple [.Name x px,.Name y py] k pos) (Bz K 2 (nH (jr i) (nH (jr j) Bq))):=by
 subst hK
 exact nN hc (cY (cu hN hi (Or.inl hx) (Or.inr hx)) (cY (cu hN hj (Or.inl hy) (Or.inr hy)) lH))
section
open PySem.Spec PyProof.Rows
variable {X:Cx}{tg l:Expr}{tl:TE}
def Eo (hl:PE X l tl):PI X tg l (HE X.K tl):=by
 intro pins s σ H R I h
 refine bW (hl pins s σ H _ I h) λv s1 ⟨x,H1,I1,r1,q1⟩=>?_
 obtain⟨a,xs,e,q⟩:=q1
 subst e
 cases r1
 rcases q with⟨hq,q⟩ | ⟨hq,q⟩
 ·obtain⟨its,rv,p,hz⟩:=I1.list hq
  refine KS p.isList ?_
  refine⟨s1.heap.objs.size,[s1.heap.objs.size],_,_,H1,rfl,I1.kept (t':=s1.toks) λb o e=>Jj _ e,lW a _,⟨_,Jt _ rfl,rfl,rfl⟩,λb hb=>?_,q⟩
  have e:b=s1.heap.objs.size:=by simpa using hb
  subst e
  exact I1.fpOk (Jl _) (I1.hok.fresh (Jl _))
 ·obtain⟨its,rv,p,hz⟩:=I1.tuple hq
  refine KN (show s1.heap.IsTuple a its.toArray from p) ?_
  refine⟨s1.heap.objs.size,[s1.heap.objs.size],_,_,H1,rfl,I1.kept (t':=s1.toks) λb o e=>Jj _ e,nR a _,⟨_,Jt _ rfl,rfl,rfl⟩,λb hb=>?_,q⟩
  have e:b=s1.heap.objs.size:=by simpa using hb
  subst e
  exact I1.fpOk (Jl _) (I1.hok.fresh (Jl _))
end
section
variable {K:Frag}{H H1 H':Hp}{a:Addr}{xs:List V}{σ:St}
abbrev E1 (J:It)(g:TG)(tb:TS)(D:Ends)(σ:St)(H:Hp):Prop:=∃W:Nat->Nat->St->Hp->Prop,(∃m,W 0 m σ H)/\∀i m σ H,W i m σ H->
   (J.stop i H/\D.nx σ H)\/(J.go i H/\∃N:St->Hp->Prop,(∀σ' H',N σ' H'->∃m',m' < m/\W (i + 1) m' σ' H')/\∀x H',J.yld i H x H'->g x σ H' λσ2 H2=>tb {D with nx:=N,ct:=N,bk:=D.nx} σ2 H2)
def B0 (s:ar H1 H')(hq:fP K H1 a xs\/dW K H1 a xs):fP K H' a xs\/dW K H' a xs:=hq.elim (λq=>.inl (s.seq q)) λq=>.inr (q.grow s.grow)
def Cd {g:TG}{tb:TS}{D:Ends}(hq:fP K H1 a xs\/dW K H1 a xs)(Pv:Nat->St->Hp->Prop)(h0:Pv 0 σ H)(hl:∀i σ H',Pv i σ H'->ar H1 H')
  (hs:∀i x σ H,xs[i]? =some x->Pv i σ H->g x σ H λσ2 H2=>tb {D with nx:=Pv (i + 1),ct:=Pv (i + 1),bk:=D.nx} σ2 H2) (hd:∀σ H,Pv xs.length σ H->D.nx σ H) :
  (fP K H a xs/\E1 (yr K a) g tb D σ H)\/(dW K H a xs/\E1 (CG K a) g tb D σ H):=
 hq.elim (λq=>.inl ⟨(hl _ _ _ h0).seq q,sN Pv h0 (λi σ H' _ p=>(hl i σ H' p).seq q) hs hd⟩) λq=>.inr ⟨q.grow (hl _ _ _ h0).grow,Bv Pv h0 (λi σ H' _ p=>q.grow (hl i σ H' p).grow) hs hd⟩
def wm (J:It)(own:Nat)(ixs:List Nat)(g:TG)(tt:TT)(te:TE)(Q:VK)(D:Addr)(σ:St)(H:Hp):Prop:=∃W:Nat->Nat->St->Hp->Prop,(∃m,W 0 m (mD own ixs σ) (upd H D (.lst [])))/\∀i m σ' H',W i m σ' H'->
   (J.stop i H'/\(∃acc,H' D=some (.lst acc))/\Q (.ref D) H')\/
   (J.go i H'/\∃N:St->Hp->Prop,(∀σ2 H2,N σ2 H2->∃m',m' < m/\W (i + 1) m' σ2 H2)/\∀x H2,J.yld i H' x H2->cJ g tt te D x σ' H2 N)
structure uc (own:Nat)(ixs:List Nat)(wi:TI)(g:TG)(tt:TT)(te:TE)(σ:St)(H:Hp)(Q:VK):Prop where
 out:wi σ H λJ H1=>∀D,H1 D=none->wm J own ixs g tt te Q D σ H1
def uJ {own:Nat}{ixs:List Nat}{wi:TI}{g:TG}{tt:TT}{te:TE}{Q:VK}(h:wi σ H λJ H1=>∀D,H1 D=none->wm J own ixs g tt te Q D σ H1):uc own ixs wi g tt te σ H Q:=⟨h⟩
def rR {X:Cx}{NB:List Str}{own:Nat}{ixs:List Nat}{scope:Scope}{tg iter elt:Expr}{ifs:List Expr}{wi:TI}{g:TG}{tt:TT}{te:TE}{pos:Pos}(hc:X.calm=true)(S:bG X NB own ixs scope)(hi:PI X tg iter wi)
  (hg:∀C ex s3 H3 pn,PG (dF X NB scope C ex s3 H3 pn) tg g) (ht:∀C ex s3 H3 pn,vh (dF X NB scope C ex s3 H3 pn) ifs tt) (he:∀C ex s3 H3 pn,PE (dF X NB scope C ex s3 H3 pn) elt te)
  (hs:∀x,foldedSetIterable iter X.env x=pure x:=by intro _;rfl):PE X (.ListComp elt [⟨tg,iter,ifs,0⟩] scope pos) (uc own ixs wi g tt te):=
 λpins s σ H Q I h=>tP hc S hi hg ht he hs pins s σ H Q I h.out
section
variable {own:Nat}{ixs:List Nat}{g:TG}{tt:TT}{te:TE}{Q:VK}{D:Addr}
def A1 (Pv:Nat->St->Hp->Prop)(h0:Pv 0 (mD own ixs σ) (upd H D (.lst [])))(hl:∀i σ H,i<=xs.length->Pv i σ H->fP K H a xs)
  (hs:∀i x σ H,xs[i]? =some x->Pv i σ H->cJ g tt te D x σ H (Pv (i + 1))) (hd:∀σ H,Pv xs.length σ H->(∃acc,H D=some (.lst acc))/\Q (.ref D) H):wm (yr K a) own ixs g tt te Q D σ H:=xy Pv h0 hl hs hd
def sI {lo:Int}{n:Nat}(Pv:Nat->St->Hp->Prop)(h0:Pv 0 (mD own ixs σ) (upd H D (.lst [])))
  (hs:∀i σ H,i < n->Pv i σ H->cJ g tt te D (.int (lo + i)) σ H (Pv (i + 1))) (hd:∀σ H,Pv n σ H->(∃acc,H D=some (.lst acc))/\Q (.ref D) H):wm (vH lo n) own ixs g tt te Q D σ H:=uW Pv h0 hs hd
end
def oO {i:Nat}{te:TE}{D:Addr}{x:V}{N:St->Hp->Prop}(h:te (σ.set i (some x)) H λv H5=>∃acc,H5 D=some (.lst acc)/\acc.length < sizeLine/\N (σ.set i (some x)) (upd H5 D (.lst (acc ++ [v])))):cJ (jr i) ED te D x σ H N:=by
 unfold cJ jr ED
 exact ub h
def yQ {i j:Nat}{x y:V}{Q:St->Hp->Prop}(h:dW K H a [x,y])(q:Q ((σ.set i (some x)).set j (some y)) H):Bz K 2 (nH (jr i) (nH (jr j) Bq)) (.ref a) σ H Q:=⟨a,_,rfl,h,rfl,x,_,rfl,y,_,rfl,rfl,q⟩
def HP {c A B:Prop}[Decidable c](h:c)(a:A):if c then A else B:=by rw[Jk h];exact a
def G7 {c A B:Prop}[Decidable c](h:¬c)(b:B):if c then A else B:=by rw[Ju h];exact b
def take_snoc {α:Type}{l:List α}{i:Nat}{x:α}(h:l[i]? =some x):l.take (i + 1)=l.take i ++ [x]:=by
 rw[List.take_add_one,h];rfl
def take_all {α:Type}(l:List α):l.take l.length=l:=List.take_of_length_le (Jl _)
end
def iG (n:Nat):(OM.dE n).length=n * n:=by unfold OM.dE;simp
def BX {n i:Nat}(h:i < n * n):(OM.dE n)[i]? =some (((i / n:Nat):Int),((i % n:Nat):Int)):=by
 unfold OM.dE
 rw[JC,K7 h];rfl
def IH {n:Nat}(h:n<=8):n * n<=64:=Nat.mul_le_mul h h
section
variable {P:Program}{w:World}{K:Frag}{mg:Str->Option Value}{base:Heap}
def wA (K:Frag):Sp:=λvs H Q _=>∃n:Nat,vs= [.int n]/\1<=n/\n<=8/\∀H' l ws,ar H H'->H l=none->H' l=some (.lst ws)->bA K H' ws (OM.dE n)->Q (.ref l) H'
def Bj:aC ["many"] ["many"] (ai i2):=⟨rfl,rfl,rfl,by decide +kernel,rfl,by decide +kernel,by decide +kernel⟩
def GD:(["number","many"]:List Str).Nodup:=by decide +kernel
def zW {f:Addr}{fd:FuncData}(F:Fn K mg "every_pair" i2 ["many"] f fd)(B:Bt mg):fF P w K mg base pB 1 f fd ["many"] (wA K):=by
 refine F.F.ok Bj (λvs H Q E h=>?_) (λcdv A outer s H vs Q E hr h=>?_)
 ·obtain⟨n,rfl,_⟩:=h;rfl
 ·obtain⟨n,rfl,h1,h8,k⟩:=h
  refine⟨_,dk (hX (rR (NB:=["number","many"]) (own:=1) (ixs:=[0]) rfl (jY (by kernel_rfl)) (jP rfl B.range (aj (lj jD (pv 0) (pv 0)) aI))
   (λC ex s3 H3 pn=>cu (i:=0) GD rfl (Or.inl rfl) (hf:=Or.inr rfl)) (λC ex s3 H3 pn=>mY)
   (λC ex s3 H3 pn=>ui (aj (lj rh (pv 0) (pv 1)) (aj (lj kQ (pv 0) (pv 1)) aI))))),?_⟩
  have hn:=IH h8
  have e0:((n:Int) * (n:Int))=((n * n:Nat):Int):=by rw[Int.natCast_mul]
  refine uJ ⟨_,rfl,_,rfl,_,_,rfl,rfl,.inl ⟨by omega,by omega⟩,_,rfl,by rw[e0];omega,by rw[e0];omega,λD hD=>?_⟩
  rw[e0,JO]
  refine sI (λi σ' H'=>(∃v,σ'= [v,some (.int n)])/\ar H H'/\∃vs,H' D=some (.lst vs)/\bA K H' vs ((OM.dE n).take i)) ⟨⟨none,rfl⟩,(ar.refl H).put hD (Cc hD),[],aq,.nil⟩ ?_ ?_
  ·rintro i σ' H' hi ⟨⟨v,rfl⟩,s1,vs,hv,hp⟩
   have hn0:(0:Int) < (n:Int):=by omega
   refine oO ⟨_,rfl,_,rfl,_,_,rfl,rfl,⟨hn0,by omega⟩,_,rfl,_,rfl,_,_,rfl,rfl,hn0,by show 2<=sizeLine;rw[JL];omega,λp hp0=>?_⟩
   have hpD:D≠p:=aE hv hp0
   have hl:=hp.len
   refine⟨vs,by rw[aw hpD];exact hv,?_,⟨_,rfl⟩,?_,vs ++ [.ref p],aq,?_⟩
   ·rw[hl,Ko,JL];rw[iG];omega
   ·exact (s1.put (s1.free hp0) (Cc hp0)).put hD (EH (xs:=vs) (by rw[aw hpD];exact hv))
   ·rw[take_snoc (BX hi)]
    have g1:iC H' (upd H' p (.tup [.int ((0 + (i:Int)) / n),.int ((0 + (i:Int)) % n)])):=iC.new hp0
    have g2:∀o,iC (upd H' p (.tup [.int ((0 + (i:Int)) / n),.int ((0 + (i:Int)) % n)])) (upd (upd H' p (.tup [.int ((0 + (i:Int)) / n),.int ((0 + (i:Int)) % n)])) D o):=λo=>iC.list (by rw[aw hpD];exact hv)
    refine bA.snoc ?_ (hp.grow (g1.trans (g2 _)))
    refine (dW.grow ?_ (g2 _))
    refine .inl (.inl ?_)
    rw[aq,Ka];rfl
  ·rintro σ' H' ⟨_,s1,vs,hv,hp⟩
   refine⟨⟨_,hv⟩,k H' D vs s1 hD hv ?_⟩
   rw[<-iG n,take_all] at hp
   exact hp
end
end RO
end
namespace RO
open PySem L2
structure TabAt (n:Nat)(M:OM.Tb)(L:Addr)(r:Nat->Addr)(H:Hp):Prop where
 top:H L=some (.lst ((List.range n).map λi=>V.ref (r i)))
 row:∀i,i < n->H (r i)=some (.lst ((List.range n).map λj=>V.bl (M i j)))
 inj:∀i j,i < n->j < n->r i=r j->i=j
 ne:∀i,i < n->r i≠L
def wc {n x:Nat}(h:x < n):ue n (x:Int)=some x:=by
 unfold ue;rw[Jk (by omega),Jk (by omega)];simp
def ze {α:Type}{xs:List α}{x:Nat}(h:x < xs.length):kg xs (x:Int)=xs[x]?:=by
 unfold kg;rw[wc h];rfl
def fD {f:Nat->V}{n x:Nat}(h:x < n):kg ((List.range n).map f) (x:Int)=some (f x):=by
 rw[ze (by simpa using h),JC,K7 h];rfl
def pZ {f:Nat->V}{n x:Nat}(h:x < n):ue ((List.range n).map f).length (x:Int)=some x:=by
 rw[JE,KY];exact wc h
def xP {f:Nat->V}{n y:Nat}{v:V}:((List.range n).map f).set y v=(List.range n).map λj=>if j=y then v else f j:=by
 apply List.ext_getElem?
 intro i
 by_cases hi:i < n
 ·by_cases e:y=i
  ·subst e;simp[List.getElem?_set,hi]
  ·have e':¬i=y:=λz=>e z.symm
   simp[List.getElem?_set,hi,e,e']
 ·rw[KA (by simp;omega),KA (by simp;omega)]
section
variable {n:Nat}{M:OM.Tb}{L:Addr}{r:Nat->Addr}{H H':Hp}
def TabAt.set (T:TabAt n M L r H){x y:Nat}(hx:x < n):TabAt n (M.set x y) L r (upd H (r x) (.lst (((List.range n).map λj=>V.bl (M x j)).set y (.bl true)))):=by
 refine⟨by rw[aw (T.ne x hx).symm];exact T.top,λi hi=>?_,T.inj,T.ne⟩
 by_cases e:i=x
 ·subst e
  rw[aq,xP]
  refine congrArg _ (congrArg _ (J8 λj _=>?_))
  unfold OM.Tb.set
  by_cases c:j=y
  ·simp[c]
  ·simp[c]
 ·rw[aw (λz=>e (T.inj i x hi hx z)),T.row i hi]
  refine congrArg _ (congrArg _ (J8 λj _=>?_))
  unfold OM.Tb.set;simp[e]
def TabAt.same (T:TabAt n M L r H)(s:ar H H'):TabAt n M L r H':=⟨s _ _ T.top,λi hi=>s _ _ (T.row i hi),T.inj,T.ne⟩
end
def qw {n:Nat}{ps:List (Int×Int)}(w:OM.Wn n ps){p:Int×Int}(h:p∈ps):∃u v:Nat,p=((u:Int),(v:Int))/\u < n/\v < n:=by
 obtain⟨x,y⟩:=p
 have q:=w _ h
 simp only at q
 exact⟨x.toNat,y.toNat,by rw[Int.toNat_of_nonneg q.1.1,Int.toNat_of_nonneg q.2.1],by omega,by omega⟩
def gZ {M0 M:OM.Tb}{m:Nat}{D D':Nat->Nat->Prop}(P:OM.Phase M0 M m D)(h:∀a b,D a b↔D' a b):OM.Phase M0 M m D':=λa b=>by rw[P a b,h a b]
def jT {l:List (Int×Int)}{u v a b:Nat}:(((a:Int),(b:Int))∈l\/(a=u/\b=v))↔((a:Int),(b:Int))∈l ++ [((u:Int),(v:Int))]:=by
 rw[JT,JS,Prod.mk.injEq]
 constructor
 ·rintro (h | ⟨h1,h2⟩)
  ·exact .inl h
  ·exact .inr ⟨by omega,by omega⟩
 ·rintro (h | ⟨h1,h2⟩)
  ·exact .inl h
  ·exact .inr ⟨by omega,by omega⟩
def AZ {M:OM.Tb}{u v a b:Nat}:M.set u v a b=true↔M a b=true\/(a=u/\b=v):=by
 unfold OM.Tb.set
 by_cases c:a=u/\b=v
 ·simp[c]
 ·rw[Ju c];exact⟨.inl,λh=>h.resolve_right c⟩
def EM (n:Nat)(x:V):(List.replicate n [x]).flatten=(List.range n).map λ_=>x:=by
 rw[List.flatten_replicate_singleton,List.map_const',KY]
section
variable {P:Program}{w:World}{K:Frag}{mg:Str->Option Value}{base:Heap}
def zb (K:Frag):Sp:=λvs H Q _=>∃(n:Nat) (a:Addr) (xs:List V) (ps:List (Int×Int)),vs= [.int n,.ref a]/\1<=n/\n<=8/\(fP K H a xs\/dW K H a xs)/\bA K H xs ps/\OM.Wn n ps/\
 ∀H' t ws,ar H H'->H t=none->H' t=some (.tup ws)->bA K H' ws (OM.i3 n (OM.Tr (OM.Mem ps)))->Q (.ref t) H'
def fx:aC ["many","pairs","corners","leads","a","b","middle"] ["many","pairs"] (ai lg):=⟨rfl,rfl,rfl,by decide +kernel,rfl,by decide +kernel,by decide +kernel⟩
def Gg:(["start","many"]:List Str).Nodup:=by decide +kernel
def C8:(["a","b","leads"]:List Str).Nodup:=by decide +kernel
set_option maxHeartbeats 1000000 in
theorem yf {f g:Addr}{fd gd:FuncData}(F:Fn K mg "closed" lg ["many","pairs"] f fd)(G:Fn K mg "every_pair" i2 ["many"] g gd)(GE:fF P w K mg base pB 1 g gd ["many"] (wA K))(B:Bt mg):fF P w K mg base pB 2 f fd ["many","pairs"] (zb K):=by
 refine F.F.ok fx (λvs H Q E h=>?_) (λcdv A outer s H vs Q E hr h=>?_)
 ·obtain⟨n,a,xs,ps,rfl,_⟩:=h;rfl
 ·obtain⟨n,a,xs,ps,rfl,h1,h8,hq,hp,wn,k⟩:=h
  refine⟨_,cR (jB (i:=2) fx.nd rfl (Or.inl rfl) (mS GE hr rfl G.mg G.F.kp G.b .nil Ai (aj (pv 0) aI)))
   (cR (jB (i:=3) fx.nd rfl (Or.inr rfl) (rR (NB:=["start","many"]) (own:=1) (ixs:=[0]) rfl (jY (by kernel_rfl)) (jP rfl B.range (aj (pv 0) aI))
    (λC ex s3 H3 pn=>cu (i:=0) Gg rfl (Or.inl rfl) (hf:=Or.inr rfl)) (λC ex s3 H3 pn=>mY) (λC ex s3 H3 pn=>lj zI (lS (aj tO aI)) (pv 1))))
   (cR (qO PassesOwn.never rfl (Eo (pv 1)) (nN rfl (cY (cu (i:=4) fx.nd rfl (Or.inl rfl)) (cY (cu (i:=5) fx.nd rfl (Or.inl rfl)) lH)))
    (dk (nX tO (qV (ki fS (pv 3) (pv 4) (λ_ _=>rfl)) (pv 5) set_list))))
   (cR (qO PassesOwn.never rfl (jP rfl B.range (aj (pv 0) aI)) (cu (i:=6) fx.nd rfl (Or.inl rfl))
    (dk (qO PassesOwn.never rfl (vP (pv 2)) (nN rfl (cY (cu (i:=4) fx.nd rfl (Or.inl rfl)) (cY (cu (i:=5) fx.nd rfl (Or.inl rfl)) lH)))
     (dk (zi (PW.pt (Ae (lU (ki fS (ki fS (pv 3) (pv 4) (λ_ _=>rfl)) (pv 6) (λ_ _=>rfl))) (wy (lU (ki fS (ki fS (pv 3) (pv 6) (λ_ _=>rfl)) (pv 5) (λ_ _=>rfl))))))
      (dk (nX tO (qV (ki fS (pv 3) (pv 4) (λ_ _=>rfl)) (pv 5) set_list))) qB)))))
   (dk (hX (ei fm rfl B.tuple (by decide +kernel) (aj (rR (NB:=["a","b","leads"]) (own:=2) (ixs:=[3]) rfl (jY (by kernel_rfl)) (vP (pv 2))
    (λC ex s3 H3 pn=>D6 K 0 1 C8 rfl rfl rfl rfl rfl rfl)
    (λC ex s3 H3 pn=>rG (lU (ki (ID K) (ki (ID K) (pv 2) (pv 0) (λ_ _=>rfl)) (pv 1) (λ_ _=>rfl)))) (λC ex s3 H3 pn=>ui (aj (pv 0) (aj (pv 1) aI)))) aI))))))),?_⟩
  have hn:=IH h8
  have hn0:(0:Int)<=(n:Int):=by omega
  refine⟨_,rfl,n,rfl,h1,h8,λH1 c ws s1 hc0 hc hw=>?_⟩
  have hwl:ws.length=n * n:=by rw[hw.len,iG]
  have gw:OM.Wn n (OM.dE n):=λp hp=>OM.cy.mp hp
  refine uJ ?_
  refine⟨_,rfl,n,rfl,by omega,by omega,λD hD=>?_⟩
  rw[JO]
  refine sI (λi σ' H'=>(∃v,σ'= [v,some (.int n)])/\ar H1 H'/\∃r:Nat->Addr,H' D=some (.lst ((List.range i).map λk=>V.ref (r k)))/\
   (∀k,k < i->H' (r k)=some (.lst ((List.range n).map λ_=>V.bl false))/\H1 (r k)=none/\r k≠D)/\∀j k,j < i->k < i->r j=r k->j=k)
   ?_ ?_ ?_
  ·exact⟨⟨none,rfl⟩,(ar.refl H1).put hD (Cc hD),λ_=>0,aq,λk hk=>absurd hk (Nat.not_lt_zero _),λj k hj=>absurd hj (Nat.not_lt_zero _)⟩
  ·rintro i σ' H' hi ⟨⟨v,rfl⟩,s2,r,hr0,hr1,hr2⟩
   refine oO ⟨by show 1<=sizeLine;rw[JL];omega,λp hp0=>⟨_,rfl,p,n,[.bl false],rfl,rfl,aq,by omega,by omega,by show 1 * (n:Int).toNat<=sizeLine;rw[JL];omega,λq hq0=>?_⟩⟩
   have hqp:q≠p:=by intro e;subst e;rw[aq] at hq0;cases hq0
   have hq1:H' q=none:=by rw[aw hqp] at hq0;exact hq0
   have hDp:D≠p:=aE hr0 hp0
   have hDq:D≠q:=aE hr0 hq1
   rw[JO,EM]
   refine⟨_,by rw[aw hDq,aw hDp];exact hr0,by rw[JE,KY,JL];omega,⟨_,rfl⟩,((s2.put (s2.free hp0) (Cc hp0)).put (s2.free hq1) (Cc hq0)).put hD (EH (by rw[aw hDq,aw hDp];exact hr0)),λk=>if k=i then q else r k,?_,λk hk=>?_,λj k hj hk e=>?_⟩
   ·have e:(List.range i).map (λk=>V.ref (r k))=(List.range i).map (λk=>V.ref (if k=i then q else r k)):=J8 λk hk=>by
     have:=J6.mp hk
     rw[Ju (by omega)]
    rw[aq,List.range_succ,KO,e]
    simp
   ·dsimp only
    by_cases e:k=i
    ·rw[Jk e]
     exact⟨by rw[aw hDq.symm,aq],s2.free hq1,hDq.symm⟩
    ·rw[Ju e]
     obtain⟨a1,a2,a3⟩:=hr1 k (by omega)
     exact⟨by rw[aw a3,aw (aE a1 hq1),aw (aE a1 hp0)];exact a1,a2,a3⟩
   ·dsimp only at e
    by_cases ej:j=i
    ·by_cases ek:k=i
     ·omega
     ·rw[Jk ej,Ju ek] at e
      exact absurd e.symm (aE (hr1 k (by omega)).1 hq1)
    ·by_cases ek:k=i
     ·rw[Ju ej,Jk ek] at e
      exact absurd e (aE (hr1 j (by omega)).1 hq1)
     ·rw[Ju ej,Ju ek] at e
      exact hr2 j k (by omega) (by omega) e
  rintro σ2 H2 ⟨_,s2,r,hr0,hr1,hr2⟩
  refine⟨⟨_,hr0⟩,?_⟩
  have sep:∀i,i < n->H1 (r i)=none:=λi hi=>(hr1 i hi).2.1
  have T0:TabAt n (λ_ _=>false) D r H2:=⟨hr0,λi hi=>(hr1 i hi).1,hr2,λi hi=>(hr1 i hi).2.2⟩
  refine⟨_,rfl,a,xs,rfl,Cd (H1:=H1) (B0 s1 hq) (λi σ' H'=>(∃x y,σ'= [some (.int n),some (.ref a),some (.ref c),some (.ref D),x,y,none])/\ar H1 H'/\∃M,TabAt n M D r H'/\∀u v:Nat,M u v=true↔((u:Int),(v:Int))∈ps.take i)
   ⟨⟨none,none,rfl⟩,s2,_,T0,λu v=>by simp⟩ (λi σ' H' q=>q.2.1) ?_ ?_⟩
  ·rintro i x σ' H' hx ⟨⟨_,_,rfl⟩,s3,M,T,hM⟩
   obtain⟨p,hpi,b,rfl,hb⟩:=(hp.same (s1.trans s3)).at hx
   obtain⟨u,v,rfl,hu,hv⟩:=qw wn (JI hpi)
   refine yQ hb ?_
   refine⟨_,rfl,_,rfl,D,_,u,_,rfl,rfl,.inl (.inl T.top),fD hu,_,rfl,r u,_,v,v,rfl,rfl,T.row u hu,pZ hv,⟨_,_,rfl⟩,s3.put (sep u hu) (EH (T.row u hu)),_,T.set hu,λx y=>?_⟩
   rw[take_snoc hpi,<-jT,AZ,hM]
  rintro σ3 H3 ⟨⟨x3,y3,rfl⟩,s3,M3,T3,hM3⟩
  rw[hp.len,take_all] at hM3
  refine⟨_,rfl,n,rfl,by omega,by omega,?_⟩
  rw[JO]
  refine xt (λm σ' H'=>(∃x y z,σ'= [some (.int n),some (.ref a),some (.ref c),some (.ref D),x,y,z])/\ar H1 H'/\∃M,TabAt n M D r H'/\OM.Tab n ps M/\OM.A7 M m)
   ⟨⟨_,_,_,rfl⟩,s3,M3,T3,⟨λa b h=>by have:=wn _ ((hM3 a b).mp h);simp only at this;omega,λa b h=>(hM3 a b).mpr h,λa b h=>.one ((hM3 a b).mp h)⟩,λk a b hk=>absurd hk (Nat.not_lt_zero _)⟩ ?_ ?_
  ·rintro m σ' H' hm ⟨⟨_,_,_,rfl⟩,s4,M,T,TT,Th⟩
   rw[Ka]
   refine⟨_,rfl,c,rfl,⟨ws,.inl (.inl (s4 _ _ hc))⟩,sN (xs:=ws) (λi σ' H'=>(∃x y,σ'= [some (.int n),some (.ref a),some (.ref c),some (.ref D),x,y,some (.int m)])/\ar H1 H'/\∃M',TabAt n M' D r H'/\OM.Phase M M' m λu v=>((u:Int),(v:Int))∈(OM.dE n).take i)
    ⟨⟨_,_,rfl⟩,s4,M,T,gZ (OM.Phase.start M m) λa b=>by simp⟩ (λi σ' H' _ q=>.inl (.inl (q.2.1 _ _ hc))) ?_ ?_⟩
   ·rintro i x σ' H' hx ⟨⟨_,_,rfl⟩,s5,M',T',Ph⟩
    obtain⟨p,hpi,b,rfl,hb⟩:=(hw.same s5).at hx
    obtain⟨u,v,rfl,hu,hv⟩:=qw gw (JI hpi)
    refine yQ hb ?_
    have st:=Ph.step u v
    refine⟨_,rfl,_,rfl,D,_,u,_,rfl,rfl,.inl (.inl T'.top),fD hu,_,rfl,r u,_,m,_,rfl,rfl,.inl (.inl (T'.row u hu)),fD hm,_,rfl,?_⟩
    by_cases c1:M' u m=true
    ·refine HP c1 ?_
     refine⟨_,rfl,_,rfl,D,_,m,_,rfl,rfl,.inl (.inl T'.top),fD hm,_,rfl,r m,_,v,_,rfl,rfl,.inl (.inl (T'.row m hm)),fD hv,_,rfl,?_⟩
     by_cases c2:M' m v=true
     ·refine HP c2 ?_
      rw[Jk ⟨c1,c2⟩] at st
      refine⟨_,rfl,_,rfl,D,_,u,_,rfl,rfl,.inl (.inl T'.top),fD hu,_,rfl,r u,_,v,v,rfl,rfl,T'.row u hu,pZ hv,⟨_,_,rfl⟩,s5.put (sep u hu) (EH (T'.row u hu)),_,T'.set hu,gZ st λa b=>?_⟩
      rw[take_snoc hpi];exact jT
     ·refine G7 c2 ?_
      rw[Ju λz=>c2 z.2] at st
      refine⟨⟨_,_,rfl⟩,s5,_,T',gZ st λa b=>?_⟩
      rw[take_snoc hpi];exact jT
    ·refine G7 c1 ?_
     rw[Ju λz=>c1 z.1] at st
     refine oW ⟨⟨_,_,rfl⟩,s5,_,T',gZ st λa b=>?_⟩
     rw[take_snoc hpi];exact jT
   ·rintro σ' H' ⟨⟨_,_,rfl⟩,s5,M',T',Ph⟩
    rw[hw.len,take_all] at Ph
    have dn:=Ph.done (n:=n) (λa b ha hb=>OM.cy.mpr ⟨⟨by simp,by simp;omega⟩,by simp,by simp;omega⟩) TT.inn Th
    exact⟨⟨_,_,_,rfl⟩,s5,M',T',TT.phase Ph,dn.1⟩
  rintro σ4 H4 ⟨⟨x4,y4,z4,rfl⟩,s4,M,T,TT,Th⟩
  refine uJ ⟨_,rfl,c,rfl,⟨ws,.inl (.inl (s4 _ _ hc))⟩,λD' hD'=>A1 (xs:=ws) (λi σ' H'=>(∃x y,σ'= [x,y,some (.ref D)])/\ar H4 H'/\∃vs,H' D'=some (.lst vs)/\bA K H' vs (((OM.dE n).take i).filter λp=>M p.1.toNat p.2.toNat))
   ⟨⟨_,_,rfl⟩,(ar.refl H4).put hD' (Cc hD'),[],aq,.nil⟩ (λi σ' H' _ q=>.inl (.inl (q.2.1 _ _ (s4 _ _ hc)))) ?_ ?_⟩
  ·rintro i x σ' H' hx ⟨⟨_,_,rfl⟩,s5,vs,hv,hpv⟩
   obtain⟨p,hpi,b,rfl,hb⟩:=(hw.same (s4.trans s5)).at hx
   obtain⟨u,v,rfl,hu,hv'⟩:=qw gw (JI hpi)
   refine yQ hb ?_
   have T':=T.same s5
   refine⟨_,rfl,_,rfl,D,_,u,_,rfl,rfl,.inl (.inl T'.top),fD hu,_,rfl,r u,_,v,_,rfl,rfl,.inl (.inl (T'.row u hu)),fD hv',_,rfl,?_⟩
   by_cases c1:M u v=true
   ·refine HP c1 ?_
    refine⟨_,rfl,_,rfl,by show 2<=sizeLine;rw[JL];omega,λp hp0=>?_⟩
    have hpD:D'≠p:=aE hv hp0
    refine⟨vs,by rw[aw hpD];exact hv,?_,⟨_,_,rfl⟩,(s5.put (s5.free hp0) (Cc hp0)).put hD' (EH (by rw[aw hpD];exact hv)),_,aq,?_⟩
    ·rw[hpv.len]
     refine Nat.lt_of_le_of_lt (List.length_filter_le ..) ?_
     rw[Ko,iG,JL];omega
    ·rw[take_snoc hpi,List.filter_append,List.filter_cons_of_pos (by simpa using c1),List.filter_nil]
     have g1:iC H' (upd H' p (.tup [.int u,.int v])):=iC.new hp0
     have g2:∀o,iC (upd H' p (.tup [.int u,.int v])) (upd (upd H' p (.tup [.int u,.int v])) D' o):=λo=>iC.list (by rw[aw hpD];exact hv)
     refine bA.snoc ?_ (hpv.grow (g1.trans (g2 _)))
     exact dW.grow (.inl (.inl aq)) (g2 _)
   ·refine G7 c1 ?_
    refine⟨⟨_,_,rfl⟩,s5,vs,hv,?_⟩
    rw[take_snoc hpi,List.filter_append,List.filter_cons_of_neg (by simpa using c1),List.filter_nil,append_nil]
    exact hpv
  ·rintro σ' H' ⟨_,s5,vs,hv,hpv⟩
   rw[hw.len,take_all] at hpv
   refine⟨⟨_,hv⟩,D',vs,rfl,.inl ⟨.inl (.inl hv),λt ht=>?_⟩⟩
   have sA:ar H H':=(s1.trans s4).trans s5
   refine k _ t vs (sA.put (sA.free ht) (Cc ht)) (sA.free ht) aq ?_
   have e:((OM.dE n).filter λp=>M p.1.toNat p.2.toNat)=OM.i3 n (OM.Tr (OM.Mem ps)):=by
    unfold OM.i3
    refine List.filter_congr λp hp=>?_
    obtain⟨u,v,rfl,hu,hv⟩:=qw gw hp
    have:=TT.all wn Th u v
    simp only[JO]
    rw[JQ,this]
    simp
   rw[e] at hpv
   exact hpv.grow (iC.new ht)
end
end RO
namespace RO
open PySem L2 RM
section
variable {P:Program}{w:World}{K:Frag}{mg:Str->Option Value}{base:Heap}{ca:Str->Addr}
def I0 {k:Nat}{f:Addr}{fd:FuncData}{ps:List Str}{sp:Sp}(F:fF P w K mg base pB k f fd ps sp):fF P w K mg base (kU P w) k f fd ps sp:=
 ⟨F.len,λA outer s H args us vs Q E hr he hb hv hs=>Kv (F.run A outer s H args us vs Q E hr he hb hv hs) λr s' h=>by
  cases r with
  |ok x=>cases x <;> exact h
  |error e=>exact h.elim⟩
def vf {G H:Hp}(s:ar G H){ws:List V}{ps:List Pr}(h:bA K H ws ps):bA K (oJ G H) ws ps:=Paired.mapP h λv p ⟨a,e,q⟩=>⟨a,e,sq s q⟩
def oa {ds:List D}(h:c4 ds≠.bad):∃(n:Nat) (d:D) (ps:List Pr),ds= [.int n,d]/\kA d=some (ps.map cH)/\1<=n/\n<=8/\OM.Wn n ps/\c4 ds=.ok (.tuple ((OM.i3 n (OM.Tr (OM.Mem ps))).map cH)) false:=by
 unfold c4 at h
 split at h
 ·rename_i n d
  cases q:kA d with
  |none=>rw[q] at h;exact absurd rfl h
  |some es=>
   rw[q] at h
   dsimp only at h
   cases q2:il es with
   |none=>rw[q2] at h;exact absurd rfl h
   |some ps=>
    rw[q2] at h
    dsimp only at h
    by_cases c:1<=n/\n<=8/\OM.Wn n.toNat ps
    ·have e:((n.toNat:Nat):Int)=n:=by omega
     refine⟨n.toNat,d,ps,by rw[e],by rw[q,l0 q2],by omega,by omega,c.2.2,?_⟩
     unfold c4
     dsimp only
     rw[q]
     dsimp only
     rw[q2]
     dsimp only
     rw[Jk c]
    ·rw[Ju c] at h;exact absurd rfl h
 ·exact absurd rfl h
def uh {f g:Addr}{fd gd:FuncData}(F:gO K mg "closed" lg ["many","pairs"] f fd)(E:gO K mg "every_pair" i2 ["many"] g gd)(B:h9 mg):cn P w K mg base ca "closed" ["many","pairs"] 3 c4:=by
 refine⟨⟨f,fd,F.mg,F.F.kp,F.b,((I0 (yf F E (zW E B) B)).mono (by decide)).imp ?_⟩,λds h=>?_⟩
 ·rintro vs H Q X ⟨G,ds,s,hl,r,h⟩
  have hb:c4 ds≠.bad:=λz=>by rw[z] at h;exact h
  obtain⟨n,d,ps,rfl,hd,h1,h8,wn,e⟩:=oa hb
  rw[e] at h
  cases r with
  |cons r1 r=>
   cases r with
   |cons r2 r=>
    cases r
    cases r1
    obtain⟨a,xs,rfl,hq,hr⟩:=(kr.seq (B:=none) (G:=G) (H:=G) (.inl r2) hd (ar.refl _))
    refine⟨n,a,xs,ps,rfl,h1,h8,hq.elim (λq=>.inl (s.seq q)) (λq=>.inr (q.grow s.grow)),(hr.pairs).grow s.grow,wn,λH' t ws hh ht ht' hp=>?_⟩
    have s2:=s.trans hh
    refine h (.ref t) (oJ G H') H' hh xA (Ak s2) (λb m hb=>by rw[B5 hh m];exact hb) ?_
    exact .tup (sq s2 (.inl (.inl ht'))) (bA.rps (vf s2 hp))
 ·obtain⟨n,d,ps,rfl,_⟩:=oa h
  rfl
end
end RO
namespace RO
open PySem L2
structure BK (mg:Str->Option Value)(R:Addr)(c:Nat->Addr):Prop where
 mR:mg "RankError"=some (.ref R)
 m0:mg "NoOrder"=some (.ref (c 0))
 m1:mg "NoMany"=some (.ref (c 1))
 m2:mg "NoPairs"=some (.ref (c 2))
 m3:mg "Ring"=some (.ref (c 3))
 m4:mg "NoThing"=some (.ref (c 4))
 m5:mg "NoRow"=some (.ref (c 5))
 m6:mg "NoRows"=some (.ref (c 6))
 m7:mg "NoNumber"=some (.ref (c 7))
 m8:mg "NoChain"=some (.ref (c 8))
 m9:mg "NoTurns"=some (.ref (c 9))
 m10:mg "NoPoints"=some (.ref (c 10))
 m11:mg "NoKind"=some (.ref (c 11))
 m12:mg "TooMany"=some (.ref (c 12))
 m13:mg "Bare"=some (.ref (c 13))
 m14:mg "NoLine"=some (.ref (c 14))
 m15:mg "NoText"=some (.ref (c 15))
structure jk (K:Frag)(D R:Addr)(c:Nat->Addr)(j:Nat):Prop where
 ex:si K D
 R:PySem.W.kitOne K (.ref D) (.ref R)=some true
 V:PySem.W.kitOne K (.ref D) (.type "ValueError")=some true
 k:∀i,i < 16->PySem.W.kitOne K (.ref D) (.ref (c i))=some (decide (i=j))
def b4 (a j:Nat):List V:=[.bl (decide (a=j)),.bl (decide (a + 1=j)),.bl (decide (a + 2=j)),.bl (decide (a + 3=j))]
def IP (j:Nat):List V:=((b4 0 j ++ b4 4 j) ++ b4 8 j) ++ b4 12 j
def jn {n:Nat}(h:n<=100):n<=sizeLine:=by rw[JL];omega
section
variable {P:Program}{w:World}{K:Frag}{mg:Str->Option Value}{base:Heap}
def pI (K:Frag)(R:Addr)(c:Nat->Addr):Sp:=λvs H Q _=>∃(ea D:Addr) (j:Nat),vs= [.ref ea]/\H ea=some (.ext (dQ ea (.ref D)))/\jk K D R c j/\∀q H',ar H H'->H q=none->H' q=some (.lst (IP j))->Q (.ref q) H'
def j4:aC ["e","found"] ["e"] (ai iI):=⟨rfl,rfl,rfl,by decide +kernel,rfl,by decide +kernel,by decide +kernel⟩
set_option maxHeartbeats 2000000 in
theorem vL {f R:Addr}{c:Nat->Addr}{fd:FuncData}(F:Fn K mg "_law_classes" iI ["e"] f fd)(e:BK mg R c)(B:Bt mg):wj P w K mg base pB 1 f fd ["e"] (pI K R c):=by
 refine F.F.okH j4 (λvs H Q E h=>?_) (λcdv A outer s H vs Q E hr h=>?_)
 ·obtain⟨ea,D,j,rfl,_⟩:=h;rfl
 ·obtain⟨ea,D,j,rfl,hx,kt,k⟩:=h
  refine⟨_,cR (jB (i:=1) j4.nd rfl (Or.inl rfl) (lS (aj (aY bj rfl B.isinstance (by decide +kernel) (aj (pv 0) (aj (bV rfl e.m0 (show RelV (.ref (c 0)) _ from rfl)) aI))) (aj (aY bj rfl B.isinstance (by decide +kernel) (aj (pv 0) (aj (bV rfl e.m1 (show RelV (.ref (c 1)) _ from rfl)) aI))) (aj (aY bj rfl B.isinstance (by decide +kernel) (aj (pv 0) (aj (bV rfl e.m2 (show RelV (.ref (c 2)) _ from rfl)) aI))) (aj (aY bj rfl B.isinstance (by decide +kernel) (aj (pv 0) (aj (bV rfl e.m3 (show RelV (.ref (c 3)) _ from rfl)) aI))) aI))))))
   (cR (jB (i:=1) j4.nd rfl (Or.inl rfl) (lj u7 (pv 1) (lS (aj (aY bj rfl B.isinstance (by decide +kernel) (aj (pv 0) (aj (bV rfl e.m4 (show RelV (.ref (c 4)) _ from rfl)) aI))) (aj (aY bj rfl B.isinstance (by decide +kernel) (aj (pv 0) (aj (bV rfl e.m5 (show RelV (.ref (c 5)) _ from rfl)) aI))) (aj (aY bj rfl B.isinstance (by decide +kernel) (aj (pv 0) (aj (bV rfl e.m6 (show RelV (.ref (c 6)) _ from rfl)) aI))) (aj (aY bj rfl B.isinstance (by decide +kernel) (aj (pv 0) (aj (bV rfl e.m7 (show RelV (.ref (c 7)) _ from rfl)) aI))) aI)))))))
   (cR (jB (i:=1) j4.nd rfl (Or.inl rfl) (lj u7 (pv 1) (lS (aj (aY bj rfl B.isinstance (by decide +kernel) (aj (pv 0) (aj (bV rfl e.m8 (show RelV (.ref (c 8)) _ from rfl)) aI))) (aj (aY bj rfl B.isinstance (by decide +kernel) (aj (pv 0) (aj (bV rfl e.m9 (show RelV (.ref (c 9)) _ from rfl)) aI))) (aj (aY bj rfl B.isinstance (by decide +kernel) (aj (pv 0) (aj (bV rfl e.m10 (show RelV (.ref (c 10)) _ from rfl)) aI))) (aj (aY bj rfl B.isinstance (by decide +kernel) (aj (pv 0) (aj (bV rfl e.m11 (show RelV (.ref (c 11)) _ from rfl)) aI))) aI)))))))
   (dk (hX (lj u7 (pv 1) (lS (aj (aY bj rfl B.isinstance (by decide +kernel) (aj (pv 0) (aj (bV rfl e.m12 (show RelV (.ref (c 12)) _ from rfl)) aI))) (aj (aY bj rfl B.isinstance (by decide +kernel) (aj (pv 0) (aj (bV rfl e.m13 (show RelV (.ref (c 13)) _ from rfl)) aI))) (aj (aY bj rfl B.isinstance (by decide +kernel) (aj (pv 0) (aj (bV rfl e.m14 (show RelV (.ref (c 14)) _ from rfl)) aI))) (aj (aY bj rfl B.isinstance (by decide +kernel) (aj (pv 0) (aj (bV rfl e.m15 (show RelV (.ref (c 15)) _ from rfl)) aI))) aI)))))))))),?_⟩
  refine⟨_,rfl,ea,D,_,_,_,rfl,λu r=>r,hx,kt.ex,kt.k 0 (by omega),_,rfl,ea,D,_,_,_,rfl,λu r=>r,hx,kt.ex,kt.k 1 (by omega),_,rfl,ea,D,_,_,_,rfl,λu r=>r,hx,kt.ex,kt.k 2 (by omega),_,rfl,ea,D,_,_,_,rfl,λu r=>r,hx,kt.ex,kt.k 3 (by omega),jn (by show 4<=100;omega),λq1 h1=>?_⟩
  have s1:=ar.new (o:=.lst (b4 0 j)) h1
  refine⟨_,rfl,_,rfl,ea,D,_,_,_,rfl,λu r=>r,s1 _ _ hx,kt.ex,kt.k 4 (by omega),_,rfl,ea,D,_,_,_,rfl,λu r=>r,s1 _ _ hx,kt.ex,kt.k 5 (by omega),_,rfl,ea,D,_,_,_,rfl,λu r=>r,s1 _ _ hx,kt.ex,kt.k 6 (by omega),_,rfl,ea,D,_,_,_,rfl,λu r=>r,s1 _ _ hx,kt.ex,kt.k 7 (by omega),jn (by show 4<=100;omega),λq2 h2=>?_⟩
  refine⟨q1,q2,_,_,rfl,rfl,ar.new h2 _ _ aq,aq,jn (by show 8<=100;omega),λq3 h3=>?_⟩
  have s3:=(s1.trans (ar.new (o:=.lst (b4 4 j)) h2)).trans (ar.new (o:=.lst (b4 0 j ++ b4 4 j)) h3)
  refine⟨_,rfl,_,rfl,ea,D,_,_,_,rfl,λu r=>r,s3 _ _ hx,kt.ex,kt.k 8 (by omega),_,rfl,ea,D,_,_,_,rfl,λu r=>r,s3 _ _ hx,kt.ex,kt.k 9 (by omega),_,rfl,ea,D,_,_,_,rfl,λu r=>r,s3 _ _ hx,kt.ex,kt.k 10 (by omega),_,rfl,ea,D,_,_,_,rfl,λu r=>r,s3 _ _ hx,kt.ex,kt.k 11 (by omega),jn (by show 4<=100;omega),λq4 h4=>?_⟩
  refine⟨q3,q4,_,_,rfl,rfl,ar.new h4 _ _ aq,aq,jn (by show 12<=100;omega),λq5 h5=>?_⟩
  have s5:=(s3.trans (ar.new (o:=.lst (b4 8 j)) h4)).trans (ar.new (o:=.lst ((b4 0 j ++ b4 4 j) ++ b4 8 j)) h5)
  refine⟨_,rfl,_,rfl,ea,D,_,_,_,rfl,λu r=>r,s5 _ _ hx,kt.ex,kt.k 12 (by omega),_,rfl,ea,D,_,_,_,rfl,λu r=>r,s5 _ _ hx,kt.ex,kt.k 13 (by omega),_,rfl,ea,D,_,_,_,rfl,λu r=>r,s5 _ _ hx,kt.ex,kt.k 14 (by omega),_,rfl,ea,D,_,_,_,rfl,λu r=>r,s5 _ _ hx,kt.ex,kt.k 15 (by omega),jn (by show 4<=100;omega),λq6 h6=>?_⟩
  refine⟨q5,q6,_,_,rfl,rfl,ar.new h6 _ _ aq,aq,jn (by show 16<=100;omega),λq7 h7=>?_⟩
  have s7:=(s5.trans (ar.new (o:=.lst (b4 12 j)) h6)).trans (ar.new (o:=.lst (IP j)) h7)
  refine k q7 _ s7 ?_ aq
  have back:∀{G:Hp} {a b:Addr} {o:HO},upd G a o b=none->G b=none:=λ{G a b o} h=>by
   by_cases z:b=a
   ·subst z;rw[aq] at h;cases h
   ·rw[aw z] at h;exact h
  exact back (back (back (back (back (back h7)))))
theorem qN {K:Frag}{H:Hp}:∀bs:List Bool,jt K H (bs.map V.bl) (bs.map PyData.bool)
 | []=>.nil
 |b :: bs=>.cons (.bl b) (qN bs)
theorem wZ:∀ns:List Bool,PyData.canLayAll0 (ns.map PyData.bool)=true
 | []=>rfl
 |n :: ns=>by
  show ((PyData.bool n).canLay0 && PyData.canLayAll0 (ns.map PyData.bool))=true
  rw[wZ ns];rfl
theorem wQ:∀ns:List Bool,PyData.depthAll (ns.map PyData.bool)=0
 | []=>rfl
 |n :: ns=>by
  show max (PyData.bool n).depth (PyData.depthAll (ns.map PyData.bool))=0
  rw[wQ ns];rfl
def nP (ns:List Bool):SeqAt.shaped (.list (ns.map PyData.bool))=true:=by
 unfold SeqAt.shaped
 have h1:(PyData.list (ns.map PyData.bool)).canLay0=true:=by simp only[PyData.canLay0];exact wZ ns
 have h2:(PyData.list (ns.map PyData.bool)).depth<=64:=by simp only[PyData.depth];rw[wQ];omega
 rw[h1,Jv h2];rfl
theorem wC:∀l m:List Bool,PyData.eqvAll (l.map PyData.bool) (m.map PyData.bool)=decide (l=m)
 | [],[]=>rfl
 | [],_ :: _=>rfl
 |_ :: _,[]=>rfl
 |p :: l,q :: m=>by
  show (PyData.eqv (.bool p) (.bool q) && PyData.eqvAll (l.map PyData.bool) (m.map PyData.bool))=_
  rw[wC l m,JQ]
  cases p <;> cases q <;> simp[PyData.eqv]
def vg (j:Nat):List Bool:=(List.range 16).map λa=>decide (a=j)
def BR:∀p,p < 16->∀j,j < 16->decide (vg j=vg p)=decide (p=j):=by decide +kernel
def AG (K:Frag)(R:Addr)(c:Nat->Addr):Addr->Sp:=λx0 vs H Q _=>∃(D:Addr) (j p:Nat),vs= [.ref x0,.int p]/\p < 16/\j < 16/\H x0=some (.ext (dQ x0 (.ref D)))/\jk K D R c j/\∀H',ar H H'->Q (.bl (decide (p=j))) H'
def CW:aC ["e","place"] ["e","place"] (ai sH):=⟨rfl,rfl,rfl,by decide +kernel,rfl,by decide +kernel,by decide +kernel⟩
def EX:(["k","place"]:List Str).Nodup:=by decide +kernel
set_option maxHeartbeats 2000000 in
theorem BP {f R fc:Addr}{c:Nat->Addr}{fd fdc:FuncData}(F:Fn K mg "_law_only" sH ["e","place"] f fd)(Fc:Fn K mg "_law_classes" iI ["e"] fc fdc)(e:BK mg R c)(B:Bt mg)(hv:mg "ValueError"=none):qr P w K mg base pB 2 f fd ["e","place"] (AG K R c):=by
 have O:wj P w K mg base pB 1 fc fdc ["e"] (pI K R c):=vL Fc e B
 refine F.F.okE CW (λx0 vs H Q E h=>?_) (λx0 cdv A outer s H vs Q E hr hh h=>?_)
 ·obtain⟨D,j,p,rfl,_⟩:=h;rfl
 ·obtain⟨D,j,p,rfl,hp,hj,hx,kt,k⟩:=h
  refine⟨_,cR (zi (PW.pt (CH (vp (lU (aY bj rfl B.isinstance (by decide +kernel) (aj (pv 0) (aj (bV rfl e.mR (show RelV (.ref R) _ from rfl)) aI))) λ_=>rfl)) (z7 (vp (lU (aY bj rfl B.isinstance (by decide +kernel) (aj (pv 0) (aj (we rfl hv (by decide +kernel) (show RelV (.ty "ValueError") _ from rfl)) aI))) λ_=>rfl))))) (dk (hX tO)) qB)
   (dk (hX (qv (dU hr.units) (yP O (hr.mono (by omega)) rfl Fc.mg Fc.F.kp Fc.b .nil Ai (aj (pv 0) aI))
    (tH (NB:=["k","place"]) (own:=1) (ixs:=[1]) (jY (by kernel_rfl)) (vU rfl B.range (aj lI aI))
     (λC ex s3 H3 pn=>cu (i:=0) EX rfl (Or.inl rfl) (hf:=Or.inr rfl)) (λC ex s3 H3 pn=>mY)
     (λC ex s3 H3 pn=>qv FK (pv 0) (pv 1) (bf _))) rfl))),?_⟩
  refine⟨_,rfl,x0,D,_,_,true,rfl,λu r=>r,hx,kt.ex,kt.R,_,rfl,oW ?_⟩
  refine⟨_,rfl,x0,D,_,_,true,rfl,λu r=>r,hx,kt.ex,kt.V,_,rfl,oW ?_⟩
  refine⟨_,rfl,x0,D,j,rfl,hx,kt,λq H1 s1 hq e1=>?_⟩
  refine⟨⟨16,rfl,by omega,by omega,λD' hD=>?_⟩⟩
  refine l8 (lo:=0) (n:=16) (λi σ' H'=>(∃v,σ'= [v,some (.int (p:Int))])/\ar H1 H'/\H' D'=some (.lst ((List.range i).map λ(a:Nat)=>V.bl (decide (V.int (0 + (a:Int))=V.int (p:Int)))))) ?_ ?_ ?_ ?_
  ·exact λi σ' H' h=>⟨x0,.ref D,hh,h.2.1 _ _ (s1 _ _ hx)⟩
  ·exact⟨⟨none,rfl⟩,(ar.refl H1).put hD (Cc hD),aq⟩
  ·rintro i σ' H' hi ⟨⟨v,rfl⟩,s2,hv'⟩
   refine oO ⟨_,rfl,_,rfl,rfl,_,hv',by rw[JE,KY,JL];omega,⟨_,rfl⟩,s2.put hD (EH hv'),?_⟩
   rw[aq,List.range_succ,KO];rfl
  ·rintro σ' H' ⟨_,s2,hv'⟩
   have e2:((List.range 16).map λ(a:Nat)=>V.bl (decide (V.int (0 + (a:Int))=V.int (p:Int))))=(vg p).map V.bl:=by
    unfold vg
    rw[List.map_map]
    refine J8 λa _=>?_
    show V.bl _=V.bl _
    congr 1
    rw[wN,Ka,JQ,JN,beq_iff_eq]
    omega
   rw[e2] at hv'
   have e1':H1 q=some (.lst ((vg j).map V.bl)):=e1
   refine⟨⟨_,hv'⟩,_,_,.lst (.inl (.inl (s2 _ _ e1'))) (qN _),.lst (.inl (.inl hv')) (qN _),nP _,nP _,?_⟩
   have e3:PyData.eqv (.list ((vg j).map PyData.bool)) (.list ((vg p).map PyData.bool))=decide (p=j):=by
    simp only[PyData.eqv,wC]
    exact BR p hp j hj
   rw[Ju JA,e3]
   exact k _ (s1.trans s2)
end
def Hu {P:Program}{w:World}{K:Frag}{mg:Str->Option Value}{base:Heap}{ca:Str->Addr}{f R fc:Addr}{c:Nat->Addr}{fd fdc:FuncData}{tbl:List (Str×Nat)}(F:gO K mg "_law_only" sH ["e","place"] f fd)(Fc:gO K mg "_law_classes" iI ["e"] fc fdc)(e:BK mg R c)(B:h9 mg)(hv:mg "ValueError"=none)
  (ha:∀x j,tbl.lookup x=some j->Mt K (.ref (ca x)) R/\jk K (ca x) R c j/\j < 16):GQ P w K mg base ca "RankError" "_law_only" (λx=>tbl.lookup x):=by
 have O:qr P w K mg base pB 2 f fd ["e","place"] (AG K R c):=BP F Fc e B hv
 refine⟨f,R,fd,λD j=>jk K D R c j/\j < 16,⟨λx0 vs H Q E q=>by obtain⟨D,j,p,rfl,_⟩:=q;rfl,λx0 A outer s H args us vs Q E hr hh he hb hv' hs=>O.run x0 A outer s H args us vs Q E hr hh he hb hv' (by
   obtain⟨D,j,p,rfl,hp,hx,⟨kj,hj⟩,q⟩:=hs
   exact⟨D,j,p,rfl,hp,hj,hx,kj,q⟩)⟩,F.mg,F.F.kp,F.b,e.mR,λx j h=>?_⟩
 obtain⟨h1,h2,h3⟩:=ha x j h
 exact⟨h1,⟨h2,h3⟩,h3⟩
end RO
section
namespace RO
open PySem L2 RM
def Dj {K:Frag}{ca:Str->Addr}(vs:List V)(H:Hp)(Q:VK)(E:XK)(h:v3 K vs H Q E):AH K ca 1 D2 vs H Q E:=by
 obtain⟨a,ns,rfl,hS,q⟩:=h
 refine⟨H,[cg ns],ar.refl _,rfl,.cons (.scr hS) .nil,?_⟩
 rw[Ff]
 intro v G' H' s1 s2 s3 s4 fv
 have fv:Rp K G' v (.bool true):=fv
 cases fv
 exact q H' s1
def all_mk:CM:=by
 intro l w K h mg fa f41 R q0 q1 q2 q3 q4 q5 q6 q7 q8 q9 q10 q11 q12 q13 q14 q15 X G hfa od41 an41 sl41 oc41 kV41 dc41 pm41 cd41 ct41 tMOST_THINGS F1 F2 F3 F4 F5 F6 F7 F8 F9 F10 F11 F12 F13 F14 F15 F16 F17 F18 F19 F20 F21 F22 F23 F24 F25 F26 F27 F28 F29 F30 F31 F32 F33 F34 F35 F36 F37 F38 F39 F40 a41 l41 c41 k41 zB yMOST_THINGS mR n0 n1 n2 n3 n4 n5 n6 n7 n8 n9 n10 n11 n12 n13 n14 n15 zV eR e0 e1 e2 e3 e4 up0 g1_0 g2_0 g3_0 g4_0 g7_0 g8_0 kR0 kV0 kt0_0 kt0_1 kt0_2 kt0_3 kt0_4 kt0_5 kt0_6 kt0_7 kt0_8 kt0_9 kt0_10 kt0_11 kt0_12 kt0_13 kt0_14 kt0_15 up4 g1_4 g2_4 g3_4 g4_4 g7_4 g8_4 kR4 kV4 kt4_0 kt4_1 kt4_2 kt4_3 kt4_4 kt4_5 kt4_6 kt4_7 kt4_8 kt4_9 kt4_10 kt4_11 kt4_12 kt4_13 kt4_14 kt4_15 up6 g1_6 g2_6 g3_6 g4_6 g7_6 g8_6 kR6 kV6 kt6_0 kt6_1 kt6_2 kt6_3 kt6_4 kt6_5 kt6_6 kt6_7 kt6_8 kt6_9 kt6_10 kt6_11 kt6_12 kt6_13 kt6_14 kt6_15 up12 g1_12 g2_12 g3_12 g4_12 g7_12 g8_12 kR12 kV12 kt12_0 kt12_1 kt12_2 kt12_3 kt12_4 kt12_5 kt12_6 kt12_7 kt12_8 kt12_9 kt12_10 kt12_11 kt12_12 kt12_13 kt12_14 kt12_15 up13 g1_13 g2_13 g3_13 g4_13 g7_13 g8_13 kR13 kV13 kt13_0 kt13_1 kt13_2 kt13_3 kt13_4 kt13_5 kt13_6 kt13_7 kt13_8 kt13_9 kt13_10 kt13_11 kt13_12 kt13_13 kt13_14 kt13_15 g5 g6
 have e:=hfa.symm.trans (JF X G a41)
 cases e
 have B:h9 mg:=FY X G zB
 have cL:=JF X G yMOST_THINGS
 obtain⟨f1,d1,og⟩:=F1.ex
 obtain⟨f2,d2,sS⟩:=F2.ex
 obtain⟨f3,d3,bO⟩:=F3.ex
 obtain⟨f4,d4,aZ⟩:=F4.ex
 obtain⟨f5,d5,gx⟩:=F5.ex
 obtain⟨f6,d6,gq⟩:=F6.ex
 obtain⟨f7,d7,gj⟩:=F7.ex
 obtain⟨f8,d8,cF⟩:=F8.ex
 obtain⟨f9,d9,iP⟩:=F9.ex
 obtain⟨f10,d10,ey⟩:=F10.ex
 obtain⟨f11,d11,eN⟩:=F11.ex
 obtain⟨f12,d12,aO⟩:=F12.ex
 obtain⟨f13,d13,aG⟩:=F13.ex
 obtain⟨f14,d14,cS⟩:=F14.ex
 obtain⟨f15,d15,cN⟩:=F15.ex
 obtain⟨f16,d16,cw⟩:=F16.ex
 obtain⟨f17,d17,cA⟩:=F17.ex
 obtain⟨f18,d18,eJ⟩:=F18.ex
 obtain⟨f19,d19,kz⟩:=F19.ex
 obtain⟨f20,d20,bF⟩:=F20.ex
 obtain⟨f21,d21,bC⟩:=F21.ex
 obtain⟨f22,d22,aF⟩:=F22.ex
 obtain⟨f23,d23,dB⟩:=F23.ex
 obtain⟨f24,d24,dD⟩:=F24.ex
 obtain⟨f25,d25,aW⟩:=F25.ex
 obtain⟨f26,d26,eV⟩:=F26.ex
 obtain⟨f27,d27,gu⟩:=F27.ex
 obtain⟨f28,d28,aX⟩:=F28.ex
 obtain⟨f29,d29,cM⟩:=F29.ex
 obtain⟨f30,d30,cK⟩:=F30.ex
 obtain⟨f31,d31,b7⟩:=F31.ex
 obtain⟨f32,d32,eB⟩:=F32.ex
 obtain⟨f33,d33,aB⟩:=F33.ex
 obtain⟨f34,d34,b6⟩:=F34.ex
 obtain⟨f35,d35,bZ⟩:=F35.ex
 obtain⟨f36,d36,bD⟩:=F36.ex
 obtain⟨f37,d37,cG⟩:=F37.ex
 obtain⟨f38,d38,cT⟩:=F38.ex
 obtain⟨f39,d39,aS⟩:=F39.ex
 obtain⟨f40,d40,bK⟩:=F40.ex
 have U41:=vA (st:=RQ.kf) l41 c41 k41
 have Gw:gO K mg "law" RQ.kf ["script"] fa _:=⟨JF X G a41,U41,U41.binds (ps:=["script"]) λ_ _ _ _ _ _=>yI λ_=>rfl⟩
 obtain⟨ca,hca⟩:∃ca:Str->Addr,ca "Bare"=q13/\ca "NoOrder"=q0/\ca "NoRows"=q6/\ca "NoThing"=q4/\ca "TooMany"=q12:=⟨λs=>if s="Bare" then q13 else if s="NoOrder" then q0 else if s="NoRows" then q6 else if s="NoThing" then q4 else if s="TooMany" then q12 else 0,by first |rfl |decide |simp,by first |rfl |decide |simp,by first |rfl |decide |simp,by first |rfl |decide |simp,by first |rfl |decide |simp⟩
 have oB:Exc K mg ca "Bare":=⟨by rw[hca.1];exact JF X G n13,by rw[hca.1];exact e0⟩
 have iw:Exc K mg ca "NoOrder":=⟨by rw[hca.2.1];exact JF X G n0,by rw[hca.2.1];exact e1⟩
 have fy:Exc K mg ca "NoRows":=⟨by rw[hca.2.2.1];exact JF X G n6,by rw[hca.2.2.1];exact e2⟩
 have iA:Exc K mg ca "NoThing":=⟨by rw[hca.2.2.2.1];exact JF X G n4,by rw[hca.2.2.2.1];exact e3⟩
 have iE:Exc K mg ca "TooMany":=⟨by rw[hca.2.2.2.2];exact JF X G n12,by rw[hca.2.2.2.2];exact e4⟩
 refine⟨PySem.W.fnOf "law" "law" (gX RQ.kf) (cO RQ.kf) (ai RQ.kf) .none kV41 dc41 pm41 an41 cd41 ct41,λs v=>.of_eq rfl,λbase _ _=>?_⟩
 have er:BK mg R (λi=>[q0,q1,q2,q3,q4,q5,q6,q7,q8,q9,q10,q11,q12,q13,q14,q15].getD i 0):=⟨JF X G mR,JF X G n0,JF X G n1,JF X G n2,JF X G n3,JF X G n4,JF X G n5,JF X G n6,JF X G n7,JF X G n8,JF X G n9,JF X G n10,JF X G n11,JF X G n12,JF X G n13,JF X G n14,JF X G n15⟩
 have kt0:jk K q0 R (λi=>[q0,q1,q2,q3,q4,q5,q6,q7,q8,q9,q10,q11,q12,q13,q14,q15].getD i 0) 0:=⟨⟨g1_0,g2_0,g3_0,g4_0,g5,g6,g7_0,g8_0⟩,kR0,kV0,λi hi=>by
  match i,hi with
  | 0,_=>exact kt0_0
  | 1,_=>exact kt0_1
  | 2,_=>exact kt0_2
  | 3,_=>exact kt0_3
  | 4,_=>exact kt0_4
  | 5,_=>exact kt0_5
  | 6,_=>exact kt0_6
  | 7,_=>exact kt0_7
  | 8,_=>exact kt0_8
  | 9,_=>exact kt0_9
  | 10,_=>exact kt0_10
  | 11,_=>exact kt0_11
  | 12,_=>exact kt0_12
  | 13,_=>exact kt0_13
  | 14,_=>exact kt0_14
  | 15,_=>exact kt0_15
  |i + 16,h=>omega⟩
 have mt0:Mt K (.ref q0) R:=r6 e1 eR (by decide) up0
 have kt4:jk K q4 R (λi=>[q0,q1,q2,q3,q4,q5,q6,q7,q8,q9,q10,q11,q12,q13,q14,q15].getD i 0) 4:=⟨⟨g1_4,g2_4,g3_4,g4_4,g5,g6,g7_4,g8_4⟩,kR4,kV4,λi hi=>by
  match i,hi with
  | 0,_=>exact kt4_0
  | 1,_=>exact kt4_1
  | 2,_=>exact kt4_2
  | 3,_=>exact kt4_3
  | 4,_=>exact kt4_4
  | 5,_=>exact kt4_5
  | 6,_=>exact kt4_6
  | 7,_=>exact kt4_7
  | 8,_=>exact kt4_8
  | 9,_=>exact kt4_9
  | 10,_=>exact kt4_10
  | 11,_=>exact kt4_11
  | 12,_=>exact kt4_12
  | 13,_=>exact kt4_13
  | 14,_=>exact kt4_14
  | 15,_=>exact kt4_15
  |i + 16,h=>omega⟩
 have mt4:Mt K (.ref q4) R:=r6 e3 eR (by decide) up4
 have kt6:jk K q6 R (λi=>[q0,q1,q2,q3,q4,q5,q6,q7,q8,q9,q10,q11,q12,q13,q14,q15].getD i 0) 6:=⟨⟨g1_6,g2_6,g3_6,g4_6,g5,g6,g7_6,g8_6⟩,kR6,kV6,λi hi=>by
  match i,hi with
  | 0,_=>exact kt6_0
  | 1,_=>exact kt6_1
  | 2,_=>exact kt6_2
  | 3,_=>exact kt6_3
  | 4,_=>exact kt6_4
  | 5,_=>exact kt6_5
  | 6,_=>exact kt6_6
  | 7,_=>exact kt6_7
  | 8,_=>exact kt6_8
  | 9,_=>exact kt6_9
  | 10,_=>exact kt6_10
  | 11,_=>exact kt6_11
  | 12,_=>exact kt6_12
  | 13,_=>exact kt6_13
  | 14,_=>exact kt6_14
  | 15,_=>exact kt6_15
  |i + 16,h=>omega⟩
 have mt6:Mt K (.ref q6) R:=r6 e2 eR (by decide) up6
 have kt12:jk K q12 R (λi=>[q0,q1,q2,q3,q4,q5,q6,q7,q8,q9,q10,q11,q12,q13,q14,q15].getD i 0) 12:=⟨⟨g1_12,g2_12,g3_12,g4_12,g5,g6,g7_12,g8_12⟩,kR12,kV12,λi hi=>by
  match i,hi with
  | 0,_=>exact kt12_0
  | 1,_=>exact kt12_1
  | 2,_=>exact kt12_2
  | 3,_=>exact kt12_3
  | 4,_=>exact kt12_4
  | 5,_=>exact kt12_5
  | 6,_=>exact kt12_6
  | 7,_=>exact kt12_7
  | 8,_=>exact kt12_8
  | 9,_=>exact kt12_9
  | 10,_=>exact kt12_10
  | 11,_=>exact kt12_11
  | 12,_=>exact kt12_12
  | 13,_=>exact kt12_13
  | 14,_=>exact kt12_14
  | 15,_=>exact kt12_15
  |i + 16,h=>omega⟩
 have mt12:Mt K (.ref q12) R:=r6 e4 eR (by decide) up12
 have kt13:jk K q13 R (λi=>[q0,q1,q2,q3,q4,q5,q6,q7,q8,q9,q10,q11,q12,q13,q14,q15].getD i 0) 13:=⟨⟨g1_13,g2_13,g3_13,g4_13,g5,g6,g7_13,g8_13⟩,kR13,kV13,λi hi=>by
  match i,hi with
  | 0,_=>exact kt13_0
  | 1,_=>exact kt13_1
  | 2,_=>exact kt13_2
  | 3,_=>exact kt13_3
  | 4,_=>exact kt13_4
  | 5,_=>exact kt13_5
  | 6,_=>exact kt13_6
  | 7,_=>exact kt13_7
  | 8,_=>exact kt13_8
  | 9,_=>exact kt13_9
  | 10,_=>exact kt13_10
  | 11,_=>exact kt13_11
  | 12,_=>exact kt13_12
  | 13,_=>exact kt13_13
  | 14,_=>exact kt13_14
  | 15,_=>exact kt13_15
  |i + 16,h=>omega⟩
 have mt13:Mt K (.ref q13) R:=r6 e0 eR (by decide) up13
 have MK:GQ l.prog w K mg base ca "RankError" "_law_only" (λx=>xF.lookup x):=by
  refine Hu sS og er B (PySem.W.mg_none_of X G zV) λc j h=>?_
  unfold xF at h
  by_cases z0:c="NoOrder"
  ·subst z0
   cases h
   rw[hca.2.1];exact⟨mt0,kt0,by omega⟩
  by_cases z4:c="NoThing"
  ·subst z4
   cases h
   rw[hca.2.2.2.1];exact⟨mt4,kt4,by omega⟩
  by_cases z6:c="NoRows"
  ·subst z6
   cases h
   rw[hca.2.2.1];exact⟨mt6,kt6,by omega⟩
  by_cases z12:c="TooMany"
  ·subst z12
   cases h
   rw[hca.2.2.2.2];exact⟨mt12,kt12,by omega⟩
  by_cases z13:c="Bare"
  ·subst z13
   cases h
   rw[hca.1];exact⟨mt13,kt13,by omega⟩
  simp only[KD,List.lookup_nil,Lf z0,Lf z4,Lf z6,Lf z12,Lf z13] at h
  cases h
 have eM:=(RQ.rA (P:=l.prog) (w:=w) (base:=base) (ca:=ca) bO B).imp BE
 have cq:=(RQ.rL (P:=l.prog) (w:=w) (base:=base) (ca:=ca) aZ B eM).imp A6
 have lV:=(RQ.tL (P:=l.prog) (w:=w) (base:=base) (ca:=ca) gx B eM cL).imp Ep
 have l7:=RQ.sR (P:=l.prog) (w:=w) (base:=base) (ca:=ca) gq B cq
 have lZ:=RQ.so (P:=l.prog) (w:=w) (base:=base) (ca:=ca) gj B cq
 have iV:=RQ.nU (P:=l.prog) (w:=w) (base:=base) (ca:=ca) cF B
 have nW:=uh (P:=l.prog) (w:=w) (base:=base) (ca:=ca) iP cF B
 have kC:=(RQ.qF (P:=l.prog) (w:=w) (base:=base) (ca:=ca) ey B).imp D5
 have kL:=RQ.qH (P:=l.prog) (w:=w) (base:=base) (ca:=ca) eN B lV l7 nW kC
 have bB:=RQ.nE (P:=l.prog) (w:=w) (base:=base) (ca:=ca) aO B kL iw
 have bg:=RQ.ia (P:=l.prog) (w:=w) (base:=base) (ca:=ca) aG B bB cq iA
 have iM:=RQ.um (P:=l.prog) (w:=w) (base:=base) (ca:=ca) cS B
 have ip:=RQ.mO (P:=l.prog) (w:=w) (base:=base) (ca:=ca) cN B lZ iM
 have gB:=RQ.lO (P:=l.prog) (w:=w) (base:=base) (ca:=ca) cw B
 have gJ:=RQ.lY (P:=l.prog) (w:=w) (base:=base) (ca:=ca) cA B iM iV gB
 have kM:=RQ.rB (P:=l.prog) (w:=w) (base:=base) (ca:=ca) eJ B ip
 have rY:=RQ.yW (P:=l.prog) (w:=w) (base:=base) (ca:=ca) kz B bB kM gJ
 have dC:=RQ.pd (P:=l.prog) (w:=w) (base:=base) (ca:=ca) bF B bB
 have dz:=RQ.pw (P:=l.prog) (w:=w) (base:=base) (ca:=ca) bC B iE cL
 have a8:=RQ.mM (P:=l.prog) (w:=w) (base:=base) (ca:=ca) aF B dC dz
 have jx:=RQ.oQ (P:=l.prog) (w:=w) (base:=base) (ca:=ca) dB B a8
 have jE:=RQ.oY (P:=l.prog) (w:=w) (base:=base) (ca:=ca) dD B a8
 have bY:=RQ.k7 (P:=l.prog) (w:=w) (base:=base) (ca:=ca) aW B dC bg dz
 have kq:=RQ.rf (P:=l.prog) (w:=w) (base:=base) (ca:=ca) eV B bY
 have lP:=RQ.sP (P:=l.prog) (w:=w) (base:=base) (ca:=ca) gu B bg oB
 have b8:=RQ.o8 (P:=l.prog) (w:=w) (base:=base) (ca:=ca) aX B rY fy
 have ib:=RQ.mL (P:=l.prog) (w:=w) (base:=base) (ca:=ca) cM B a8 b8
 have ie:=RQ.mI (P:=l.prog) (w:=w) (base:=base) (ca:=ca) cK B a8 b8
 have fH:=RQ.lC (P:=l.prog) (w:=w) (base:=base) (ca:=ca) b7 B bY b8
 have kn:=RQ.rb (P:=l.prog) (w:=w) (base:=base) (ca:=ca) eB B
 have aU:=RQ.oV (P:=l.prog) (w:=w) (base:=base) aB B
 have fI:=RQ.kX (P:=l.prog) (w:=w) (base:=base) b6 B aU
 have fL:=RQ.lb (P:=l.prog) (w:=w) (base:=base) bZ B aU
 have dw:=RQ.pA (P:=l.prog) (w:=w) (base:=base) (ca:=ca) bD B
 have fX:=RQ.oG (P:=l.prog) (w:=w) (base:=base) (ca:=ca) cG B dw aU fL
 have iZ:=RQ.oj (P:=l.prog) (w:=w) (base:=base) (ca:=ca) cT B jx jE ib ie kq fH lP
 have bo:=RQ.l5 (P:=l.prog) (w:=w) (base:=base) (ca:=ca) aS B iZ MK
 have dg:=RQ.lE (P:=l.prog) (w:=w) (base:=base) bK B aU
 have FD:=RQ.AJ (P:=l.prog) (w:=w) (base:=base) (ca:=ca) Gw B kn dw bo fX fI aU dg
 exact fF.imp (sp:=AH K ca 1 D2) FD Dj
end RO
theorem PySem.Challenge.cw_rowsorder_k64_builds_refused_holds : PySem.Challenge.rw_rowsorder_k64_builds_refused.Holds :=
 RO.head RO.all_mk
end
