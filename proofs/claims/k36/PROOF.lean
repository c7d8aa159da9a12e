import PyProof.Rows.All
import KE.RegKIsAll
import KE.KSortTup
import KE.KDictOf
import KE.KFromBytes
import KE.KDictList
import KE.KEqDict
import KE.KRevIter
import KE.KStateDown
import Wide.FinOn
import PySem.Challenge.RW_rowsorder_k36_two_rows_and_one
set_option Elab.async false
set_option linter.all false
set_option maxRecDepth 100000
set_option maxHeartbeats 1000000
set_option hygiene false
local macro_rules|`(@AC)=>`(⟨rfl,rfl,rfl,by decide +kernel,rfl,by decide +kernel,by decide +kernel⟩)|`(@AT)=>`(by omega)|`(@At)=>`(Inv X pins σ H s)|`(@A_)=>`((by decide))|`(@B_)=>`(Value->Shared->Prop)
def O8:=@PySem.wpAny_bind
def O9:=@List.getElem?_eq_getElem
def Pa:=@PySem.wpAny_pure
def Pb:=@PySem.Heap.get?_push_of_some
def Pc:=@List.length_map
def Pd:=@Nat.le_refl
def Pe:=@if_pos
def Pf:=@List.mem_cons
def Pg:=@if_neg
def Pj:=@List.mem_map
def Pk:=@List.mem_cons_of_mem
def Pl:=@PySem.Heap.get?_push_size
def Pn:=@List.mem_of_getElem?
def Po:=@PySem.Heap.lt_size
def Pp:=@List.mem_filter
def Pq:=@List.mem_cons_self
def Pt:=@List.getElem?_map
def Pu:=@decide_eq_true
def Pw:=@List.getElem?_eq_some_iff
def Px:=@decide_eq_false
def Py:=@Bool.false_eq_true
def Pz:=@List.mem_append
def PB:=@decide_eq_true_eq
def PD:=@Array.getElem?_eq_getElem
def PF:=@Bool.and_eq_true
def PH:=@List.getElem?_set_ne
def PJ:=@List.getElem?_append_left
def PK:=@List.getD_eq_getElem?_getD
def PL:=@List.map_cons
def PM:=@List.size_toArray
def PN:=@List.mem_range
def PQ:=@List.getElem?_set_self
def PR:=@List.length_cons
def PU:=@List.mem_singleton
def PV:=@List.map_append
def PX:=@PySem.sizeLine_eq
def PY:=@PySem.Heap.get?_update_self
def PZ:=@Bool.false_ne_true
def P0:=@List.length_append
def P4:=@Nat.ne_of_lt
def P5:=@List.mem_append_right
def P6:=@List.nodup_cons
def P7:=@List.getElem?_append_right
def P8:=@List.map_map
def P9:=@Nat.zero_le
def Qa:=@Nat.lt_of_lt_of_le
def Qb:=@if_false
def Qc:=@PySem.wpAny_holding
def Qd:=@Nat.lt_irrefl
def Qe:=@Int.toNat_natCast
def Qf:=@List.mem_iff_getElem
def Qg:=@Array.getD_eq_getD_getElem?
def Qh:=@List.mem_append_left
def Qi:=@List.all_eq_true
def Qj:=@List.pairwise_map
def Qk:=@Nat.zero_add
def Ql:=@List.not_mem_nil
def Qm:=@PySem.Heap.get?_update_other
def Qn:=@if_true
def Qo:=@Nat.lt_or_ge
def Qp:=@Nat.le_trans
def Qq:=@List.getElem?_eq_none
def Qr:=@PySem.W.kia_one
def Qs:=@List.length_filter_le
def Qt:=@PySem.boot_len
def Qu:=@List.map_congr_left
def Qv:=@PySem.wpAny_call_entry
def Qw:=@decide_eq_false_iff_not
def Qx:=@PySem.wpAny_newObj_type
def Qy:=@PySem.wpAny_setState_of
def Qz:=@Array.getElem?_eq_none
def QA:=@List.Pairwise.imp_of_mem
def QB:=@List.idxOf_lt_length_iff
def QC:=@List.replicate_succ
def QD:=@List.take_add_one
def QE:=@of_decide_eq_true
def QF:=@Array.getElem?_eq_some_iff
def QG:=@List.getElem_mem
def QH:=@PySem.mem_of_lookup
def QI:=@List.nodup_append
def QJ:=@PySem.Heap.size_push
def QK:=@Int.zero_add
def QL:=@Nat.mul_le_mul
def QM:=@List.length_set
def QN:=@PySem.codeAny_builtin
def QO:=@PyProof.Rows.callWith_type1
def QP:=@PySem.wpAny_callSpecial?_slot
def QQ:=@PySem.wpAny_mono
def QR:=@List.length_take
def QS:=@PySem.Around.under_plainId
def QT:=@List.nodup_iff_pairwise_ne
def QU:=@PySem.wpAny_dictEntries
def QV:=@List.append_assoc
def QW:=@Bool.not_eq_true'
def QX:=@PySem.builtinLookup_eq_fast
def QY:=@Nat.le_of_lt
def QZ:=@PySem.F.slot_dict_keyiterator_next
def Q0:=@PySem.wpAny_setField
def Q4:=@List.getElem?_replicate
def Q5:=@List.length_eq_zero_iff
def Q6:=@PySem.wpAny_truthy_bool
def Q7:=@List.length_range
def Q8:=@List.filter_congr
def Q9:=@PySem.wpAny_specialOf
def Ra:=@Bool.eq_iff_iff
def Rb:=@List.toList_toArray
def Rf:=@List.any_cons
def Rg:=@Array.getElem?_toList
def Rh:=@PySem.isSubtype_type
def Ri:=@PySem.size_of_entries
def Rj:=@PySem.Obj.data_mapDictKeys
def Rk:=@List.foldl_cons
def Rl:=@List.find?_cons
def Rm:=@List.set_eq_of_length_le
def Rn:=@PySem.Value.isInt_shape
def Ro:=@List.flatten_cons
def Rq:=@PySem.wpAny_typeNameOfWhole_keyiter
def Rt:=@List.filter_sublist
def Ru:=@List.getElem?_range
def Rv:=@List.nodup_range
def Rw:=@List.nodup_nil
def Rx:=@or_false
def Ry:=@List.take_of_length_le
def Rz:=@PySem.Obj.data_mapFields
def RA:=@PyProof.Rows.F.plain_set_update_loop
def RB:=@Option.map_some
def RC:=@PySem.wpAny_passesOwn
def RD:=@List.append_nil
def RE:=@List.length_replicate
def RF:=@List.getElem?_toArray
def RG:=@PySem.typeLookup_type
def RH:=@Bool.not_true
def RI:=@Bool.and_self
def RJ:=@PySem.wpAny_pyIter_list
def RK:=@List.ext_getElem?
def RL:=@Array.mem_toList_iff
def RN:=@List.pairwise_iff_getElem
def RP:=@PySem.wpAny_typeNameOf_keyiter
def RS:=@Nat.ne_of_gt
def RT:=@Nat.lt_trans
def RU:=@List.length_erase_of_mem
def RW:=@PySem.wpAny_typeOf
def RX:=@PySem.F.called_set
def RY:=@PySem.F.slot_list_getattribute
def RZ:=@PySem.Obj.isFreed_of_dict
def R0:=@Array.length_toList
def R1:=@PySem.plainId_quiet
def R3:=@List.mem_filterMap
def R4:=@PySem.wpAny_Call_Name_kw
def R5:=@PySem.wpAny_pyIter_tuple
def R6:=@List.getElem_idxOf
def R7:=@Option.map_eq_some_iff
def R8:=@Nat.le_succ
def R9:=@PySem.SeqAt.canLay_of_shaped
def Sa:=@List.filter_eq_nil_iff
def Sb:=@PySem.wpAny_notOrdered_dict
def Sd:=@PySem.Obj.isFreed_of_fields
def Se:=@PySem.wpAny_isInstance
def Sf:=@PySem.wpAny_forIn_list
def Sg:=@List.mem_of_mem_take
def Sh:=@PySem.wpAny_askSetting
def Si:=@List.range'_succ
def Sj:=@List.lookup_cons
def Sk:=@List.take_length
def Sn:=@List.all_cons
def So:=@beq_eq_false_iff_ne
def Sq:=@List.filterMap_cons
def Sr:=@Array.toList_append
def Ss:=@List.length_reverse
def Su:=@PySem.wpAny_dictEpoch
def Sv:=@List.drop_eq_getElem_cons
def Sw:=@Bool.or_eq_true
def Sx:=@PySem.codeAny_mono
def Sy:=@PySem.tupleKind_room_in1
def Sz:=@List.eq_of_mem_replicate
def SD:=@PySem.AutoSeq1.wpAny_loadPart'
def SH:=@List.Nodup.idxOf_getElem
def SJ:=@PySem.wpAny_rule
def SK:=@PySem.wpAny_seqItems
def SM:=@Nat.lt_trichotomy
def SN:=@Array.getElem_mem
def SQ:=@Option.isSome_map
def SU:=@PySem.wpAny_pyIter_enum
def SV:=@List.reverse_cons
def SW:=@List.idxOf_append
open List (length_nil nil_append drop_zero set_set)
open PySem.W (Frag)
open PySem.PyData (int)
namespace HD
open PySem PySem.W
noncomputable abbrev DY:=@PySem.W.Fast.tw10156331382660048174
noncomputable abbrev JU:=@PySem.W.Fast.tw11892475500146522536
noncomputable abbrev Nl:=@PySem.W.Fast.tw6613529449190102663
noncomputable abbrev Jm:=@PySem.W.Fast.tw14364793385576792824
noncomputable abbrev IH:=@PySem.W.Fast.tw17154629097778926822
noncomputable abbrev E4:=@PySem.W.Fast.tw12822647523644345616
noncomputable def yj(p:Program):Thread:=
 ⟨do
  let code <-IH p.main
  let frame <-E4 code mainNs mainNs
  let _ <-run (.body (behindTheImports p) {scope:=p.main.scope,locals:=mainNs,globals:=mainNs,cells:=[],code,frame:=some frame})
  ret .none,
  .builtin "claim.caller" {},default,[]⟩
def EL(p:Program):topStub p=yj p:=by
 unfold topStub yj IH E4
 rw[<-PySem.W.Fast.te17154629097778926822,<-PySem.W.Fast.te12822647523644345616]
noncomputable def mq(p:Program)(w:World)(n₀:Nat)(ann:Option Value):Nat->SharedT->Thread->Option SharedT
 | 0,_,_=>none
 |n+1,s,t=>match through t with
  |true=>some s
  |false=>match Nl n₀ ann t with
   |false=>none
   |true=>match DY (JU Jm) p w s t with
    |some (s',t')=>mq p w n₀ ann n s' t'
    |none=>none
theorem ub:∀{n:Nat} {s s':SharedT} {t:Thread},mq p w n₀ ann n s t=some s'->topRun treeTable p w n₀ ann n s.abs t=some s'.abs
 | 0,_,_,_,h=>by cases h
 |n+1,s,s',t,h=>by
  unfold mq at h
  unfold topRun
  cases ht:through t with
  |true=>rw[ht]at h;cases h;rfl
  |false=>
   rw[ht]at h
   have hq:Nl n₀ ann t=stepOk n₀ ann t:=by unfold Nl;rw[<-PySem.W.Fast.te6613529449190102663]
   dsimp only at h
   rw[hq]at h
   cases hk:stepOk n₀ ann t with
   |false=>rw[hk]at h;cases h
   |true=>
    rw[hk]at h
    have hq:DY (JU Jm) p w s t=stepT (denote treeTable) p w s t:=by unfold DY JU Jm;rw[<-PySem.W.Fast.te10156331382660048174,<-PySem.W.Fast.te11892475500146522536,<-PySem.W.Fast.te14364793385576792824]
    dsimp only at h
    rw[hq]at h
    cases hs:stepT (denote treeTable) p w s t with
    |none=>rw[hs]at h;cases h
    |some r=>let⟨s₂,t₂⟩:=r;rw[hs]at h;rw[stepT_spec hs];exact ub h
def treeOf(l:List Obj):BT:=(l.foldl (λ(x:BT×Nat) o=>(x.1.ins x.2 o,x.2+1)) (.nil,0)).1
noncomputable def D6(P:Params):BT:=treeOf (boot_heap P).objs.toList
abbrev rj:Nat:=11
abbrev DJ:Life:={}
def boot_abs(P:Params):absHeap (D6 P) rj DJ=boot_heap P:=by kernel_rfl
def BF(w:World):((boot_heap w.params).isNs mainGlobals&&(Array.mk ([]:List GenState)).size==0,(boot_heap w.params).objs.size,(boot_heap w.params).nsMap mainGlobals "__annotations__")=(true,rj,some (.ref 6)):=by kernel_rfl
noncomputable def vS(w:World)(os:OsState):SharedT:=⟨D6 w.params,rj,DJ,Array.mk [],boot_drawn,boot_toks,os⟩
noncomputable def Ax(p:Program)(w:World)(s:Shared):Bool:=staticsOk (importedModules p.main.body) (boot_heap w.params) s.heap&&namesBound p s.heap&&gensDone s&&laidKept (boot_heap w.params) s.heap
def Hf{p q:Program}{loose:List Str}{Xt:Shared->Bool}{α:Type}{Yf:Shared->α}{Ya:World->α}{N:Nat}{g0:Bool}
  (e:opening p=plainProg p.main.scope.names) (hN:Nat.ble 600 N=true) (f:∀s,fenceModules? p s=some s)
  (run:∀(w:World) (os:OsState),(mq p w rj (some (.ref 6)) N (vS w os) (yj p)).map (λs=>(Ax p w s.abs,openSeen q loose (importedModules p.main.body) Xt g0 s.abs,Yf s.abs))=some (true,openGood q loose,Ya w)):LeftO p q loose Xt Yf Ya N g0:=λw=>by
 let⟨⟨h,gs,d,k,os⟩,e,e'⟩:=R7.mp (boot_open e hN f w)
 obtain⟨rfl,rfl,rfl,rfl⟩:h=boot_heap w.params/\gs=Array.mk []/\d=boot_drawn/\k=boot_toks:=by simpa using e'
 obtain⟨z1,z2,z3⟩:_/\_/\_:=by simpa only [Prod.mk.injEq]using BF w
 let⟨s',r,ls⟩:=R7.mp (run w os)
 obtain⟨l1,l2,l3⟩:_/\_/\_:=by simpa only [Prod.mk.injEq]using ls
 have r:=ub r
 have ha:(vS w os).abs=⟨boot_heap w.params,Array.mk [],boot_drawn,boot_toks,os⟩:=by
  show Shared.mk (absHeap (D6 w.params) rj DJ) _ _ _ _=_
  rw[boot_abs]
  rfl
 rw[ha,<-EL]at r
 have t:topFrom treeTable p w N ⟨boot_heap w.params,Array.mk [],boot_drawn,boot_toks,os⟩=some s'.abs:=by
  unfold topFrom
  dsimp only
  rw[z1,z2,z3,r]
  show(match Ax p w s'.abs with|true=>_|false=>_)=_
  rw[l1]
 unfold openEnds
 rw[e]
 show(topFrom treeTable p w N _).map _=_
 rw[t]
 exact congrArg some (Prod.ext l2 l3)
theorem map_two{α β γ:Type}{o:Option α}{f:α->β}{g:α->γ}{b:β}{c:γ}(h:o.map f=some b)(k:o.map g=some c):o.map (λs=>(f s,g s))=some (b,c):=by
 cases o with
 |none=>cases h
 |some x=>cases h;cases k;rfl
noncomputable abbrev EN(p:Program)(N:Nat)(w:World)(os:OsState):Option SharedT:=mq p w rj (some (.ref 6)) N (vS w os) (yj p)
def Ip{p q:Program}{loose:List Str}{Xt:Shared->Bool}{α:Type}{Yf:Shared->α}{Ya:World->α}{N:Nat}{g0:Bool}
  (e:opening p=plainProg p.main.scope.names) (hN:Nat.ble 600 N=true) (f:∀s,fenceModules? p s=some s)
  (r1:∀w os,(EN p N w os).map (λs=>(Ax p w s.abs,(openSeen q loose (importedModules p.main.body) Xt g0 s.abs).1,Yf s.abs))=some (true,(openGood q loose).1,Ya w))
  (r2:∀w os,(EN p N w os).map (λs=>(openSeen q loose (importedModules p.main.body) Xt g0 s.abs).2)=some (openGood q loose).2):LeftO p q loose Xt Yf Ya N g0:=
 Hf e hN f λw os=>by
  have h:=map_two (r1 w os) (r2 w os)
  unfold EN at h
  cases z:mq p w rj (some (.ref 6)) N (vS w os) (yj p)with
  |none=>rw[z]at h;cases h
  |some x=>
   rw[z]at h
   simp only[RB,Option.some.injEq,Prod.mk.injEq]at h ⊢
   exact⟨h.1.1,Prod.ext h.1.2.1 h.2,h.1.2.2⟩
end HD
namespace L2
open PySem PySem.Spec PyProof.Rows
section
variable {P:Program}{w:World}{κ:Type}[DecidableEq κ]
def Lo(xs:List (κ×Addr×Value))(k:κ)(ep:Nat):Nat:=if(atKey xs k).isSome=true then ep else ep+1
def tE(kd:HeapKind P w κ)(h:Heap)(d:Addr)(xs:List (κ×Addr×Value))(ep:Nat):Prop:=
 ∃o es,h.get? d=some o/\o.ExactDict/\o.data=.dict es ep/\es.toList=xs.map (entryOfKey kd)/\(xs.map (·.1)).Nodup
variable {kd:HeapKind P w κ}{A:Around}{E:@B_}{s:Shared}
def su{v:Value}{Q:Unit->Shared->Prop}(r:kd.room A)(hk:kd.is s.heap k a)(is:∀x∈xs,kd.is s.heap x.1 x.2.1)(m:tE kd s.heap d xs ep)(z:xs.length<=sizeLine)
  (q:∀h',tE kd h' d (storedH xs k a v) (Lo xs k ep)->Heap.SameBut d s.heap h'->Q () {s with heap:=h',toks:=s.toks+kd.draws k}):wpAny (model P w) A (dictSet d (.ref a) v) Q E s:=by
 let⟨o,es,eo,ex,ed,el,nd⟩:=m
 unfold dictSet
 try(with_reducible refine Qc ?_)
 refine O8 (kd.pyHash r hk ?_)
 unfold dictSetHashed
 try(with_reducible refine Qc ?_)
 refine O8 (wpAny_dictFind_heap r hk eo ed el is nd (λno=>?_) (λj p hj=>?_))
 .have nk:=atKey_none_of_get no
  have nm:k∉xs.map (·.1):=not_mem_keys_of_get no
  refine O8 (SJ (wpAny_updateDictKeys (hz:=by have:=Ri el;omega) eo ed
   (q _ ⟨_,es.push ⟨kd.hash k,.ref a,v⟩,PY _ eo (RZ (Rj ed _)),ex.mapDictKeys _,by unfold Lo;rw[nk];exact Rj ed _,by rw[storedH_new nk];simp[el,entryOfKey],?_⟩ (Heap.SameBut.update ..))))
  rw[storedH_new nk,PV,QI]
  refine⟨nd,by simp,λx hx y hy e=>nm ?_⟩
  simp at hy
  rw[<-hy,<-e];exact hx
 .have ok:=atKey_of_get nd hj
  refine O8 (SJ (O8 (wpAny_updateDict eo ed
   (wpAny_point (q _ ⟨_,es.modify j λe=>{e with val:=v},PY _ eo (RZ (Obj.data_mapDict ed _)),ex.mapDict _,by unfold Lo;rw[ok];exact Obj.data_mapDict ed _,?_,by rw[storedH_old ok,keys_map_putAt];exact nd⟩ (Heap.SameBut.update ..))))))
  rw[storedH_old ok]
  have t:=modify_map_putAt (entryOfKey kd) (λe:DictEntry=>{e with val:=v}) k v (λ_ _=>rfl) nd hj
  rw[<-el]at t
  cases es
  simpa using t
def Ey{v:Value}{Q:Unit->Shared->Prop}(r:kd.room A.in1)(hk:kd.is s.heap k a)(is:∀x∈xs,kd.is s.heap x.1 x.2.1)(m:tE kd s.heap d xs ep)(z:xs.length<=sizeLine)
  (q:∀h',tE kd h' d (storedH xs k a v) (Lo xs k ep)->Heap.SameBut d s.heap h'->Q () {s with heap:=h',toks:=s.toks+kd.draws k}):wpAny (model P w) A (setItem (.ref d) (.ref a) v) Q E s:=by
 have ty:s.TypeIs (.ref d) "dict":=let⟨o,_,eo,ex,_⟩:=m;⟨o,eo,ex.1⟩
 unfold setItem
 try(with_reducible refine Qc ?_)
 refine O8 (wpAny_sequenceKey ty @A_ (O8 (QP ty slot_dict_setitem (Qv slot_dict_setitem ty entry_dict_setitem ?_ (args_dict_setitem _ _ _)))))
 refine O8 (Sb ty ?_)
 show wpAny _ _ (dictSet d (.ref a) v >>= _) _ _ s
 exact O8 (su r hk is m z λh' m' s'=>Pa ⟨.none,rfl,Pa (q h' m' s')⟩)
def sd{Q:@B_}(nm:(d==sysModules)=false)(m:tE kd s.heap d xs ep)
  (q:Q (.ref s.heap.objs.size) {s with heap:=s.heap.push {cls:=.type "dict_keyiterator",data:=.fields #[.ref d,.int 0 0,.int xs.length 0,.int ep 0]}}):wpAny (model P w) A (pyIter (.ref d)) Q E s:=by
 let⟨o,es,eo,ex,ed,el,nd⟩:=m
 have ty:s.TypeIs (.ref d) "dict":=⟨o,eo,ex.1⟩
 have sz:=Ri el
 refine wpAny_pyIter_slot ty F.slot_dict_iter (Qv F.slot_dict_iter ty F.entry_dict_iter ?_ (F.args_dict_iter_1 _))
 unfold Builtin.«dict.__iter__» Builtin.Dict.dictSlotNone
 refine O8 (O8 (Sb ty ?_))
 refine Pa ?_
 show wpAny _ _ (Builtin.Dict.showsAll d >>= _) _ _ s
 unfold Builtin.Dict.showsAll
 rw[Pg (by rw[nm];exact PZ)]
 refine O8 (Pa (O8 (QU eo ed (O8 (Su eo ed (O8 (Qx (Pa ⟨_,rfl,"dict_keyiterator",_,⟨_,Pl _ rfl,rfl⟩,QZ.lookup,?_⟩))))))))
 simpa[rawInt,sz]using q
def qU{Q:Option Value->Shared->Prop}(hi:s.heap.IsKeyIter it d i xs.length ep)(m:tE kd s.heap d xs ep)(hx:xs[i]? =some x)
  (q:∀h',h'.IsKeyIter it d (i+1) xs.length ep->Heap.SameBut it s.heap h'->Q (some (.ref x.2.1)) {s with heap:=h'}):wpAny (model P w) A (pyNext (.ref it)) Q E s:=by
 let⟨oi,ei,ci,di⟩:=id hi
 let⟨o,es,eo,ex,ed,el,nd⟩:=m
 have sz:=Ri el
 have tI:=hi.typeIs
 unfold pyNext
 refine O8 (wpAny_attempt (QP tI QZ (Qv QZ tI F.entry_dict_keyiterator_next ?_ (F.args_dict_keyiterator_next_1 _))))
 refine O8 (Pa (O8 (O8 ?_)))
 first|refine O8 (Rq tI (Pa ?_))|refine O8 (RP tI (Pa ?_))
 refine O8 (wpAny_fieldsOf ei di ?_)
 simp only[show Builtin.Dict_items.ownsTuple "dict_keyiterator"=false by decide,Py,Qb]
 show wpAny _ _ (if(Value.ref d==Value.none)=true then _ else _) _ _ s
 rw[Pg (show ¬((Value.ref d==Value.none)=true)from PZ)]
 refine O8 (Pa (O8 (QU eo ed ?_)))
 rw[Pg (by rw[sz];simp)]
 refine O8 (Pa (O8 (Su eo ed ?_)))
 rw[Pg (by simp)]
 refine Pa ?_
 have lt:i<es.size:=by
  rw[sz]
  rcases Qo i xs.length with h|h
  .exact h
  .simp[Qq h]at hx
 have ke:es[i].key=.ref x.2.1:=by
  have:=entry_at el i
  rw[hx,PD lt]at this
  simp at this
  rw[this];rfl
 simp only[show ¬((i:Int)<0)from @AT,Qb,Qe,PD lt]
 refine O8 ?_
 first|refine O8 (Rq tI (Pa ?_))|refine O8 (RP tI (Pa ?_))
 refine O8 (wpAny_isOneOf_keyiter tI ?_)
 show wpAny _ _ (setField (.ref it) 1 (rawInt ((i:Int)+1)) >>= _) _ _ s
 refine O8 (Q0 ei di (by simp) ?_)
 have hj:(s.heap.update it (Obj.mapFields (·.setIfInBounds 1 (rawInt ((i:Int)+1))))).IsKeyIter it d (i+1) xs.length ep:=
  ⟨_,PY _ ei (Sd (Rz di _)),(Obj.cls_mapFields ..).trans ci,by rw[Rz di];simp[rawInt]⟩
 refine O8 (Qc (O8 (wpAny_isOneOf_keyiter hj.typeIs ?_)))
 rw[ke]
 exact Pa (Pa ⟨_,rfl,Pa (q _ hj (Heap.SameBut.update ..))⟩)
def uA{Q:Option Value->Shared->Prop}(hh:A.handled=none)(hi:s.heap.IsKeyIter it d i xs.length ep)(m:tE kd s.heap d xs ep)(hx:xs.length<=i)
  (q:∀h',Heap.ExtBut it s.heap h'->Q none {s with heap:=h'}):wpAny (model P w) A (pyNext (.ref it)) Q E s:=by
 let⟨oi,ei,ci,di⟩:=id hi
 let⟨o,es,eo,ex,ed,el,nd⟩:=m
 have sz:=Ri el
 have tI:=hi.typeIs
 unfold pyNext
 refine O8 (wpAny_attempt (QP tI QZ (Qv QZ tI F.entry_dict_keyiterator_next ?_ (F.args_dict_keyiterator_next_1 _))))
 refine O8 (Pa (O8 (O8 ?_)))
 first|refine O8 (Rq tI (Pa ?_))|refine O8 (RP tI (Pa ?_))
 refine O8 (wpAny_fieldsOf ei di ?_)
 simp only[show Builtin.Dict_items.ownsTuple "dict_keyiterator"=false by decide,Py,Qb]
 show wpAny _ _ (if(Value.ref d==Value.none)=true then _ else _) _ _ s
 rw[Pg (show ¬((Value.ref d==Value.none)=true)from PZ)]
 refine O8 (Pa (O8 (QU eo ed ?_)))
 rw[Pg (by rw[sz];simp)]
 refine O8 (Pa (O8 (Su eo ed ?_)))
 rw[Pg (by simp)]
 refine Pa ?_
 simp only[show ¬((i:Int)<0)from @AT,Qb,Qe,Qz (show es.size<=i by omega)]
 refine O8 ?_
 first|refine O8 (Rq tI (Pa ?_))|refine O8 (RP tI (Pa ?_))
 show wpAny _ _ (setField (.ref it) 0 .none >>= _) _ _ s
 refine O8 (Q0 ei di (by simp) ?_)
 refine O8 ?_
 simp only[newExc,newTuple]
 refine O8 (Qx ?_ (by size_fits))
 refine O8 (wpAny_of_eq (by first|rfl|(simp only[firstArgMember];rfl)) (Qx ?_ (by size_fits)))
 simp only[raiseNew]
 refine O8 (wpAny_handled ?_)
 rw[show A.in1.handled=none from hh]
 refine O8 (Pa (wpAny_throw ?_))
 refine O8 (Se ⟨_,Pl _ rfl,rfl⟩ isSubtype_stop ?_)
 exact Pa (q _ (((Heap.SameBut.update ..).extBut.push _).push _))
end
end L2
section
set_option Elab.async false
namespace L2
open PySem PySem.Spec PyProof.Rows
abbrev Key:=Sum Int Str
def ue:Key->Value->Bool
 | .inl k,v=>Value.isInt k v
 | .inr x,v=>Value.isStrOf x v
def NO(w:World):Key->Int
 | .inl k=>hashInt k
 | .inr x=>hashStr w x
theorem cB:∀{k:Key} {v:Value},ue k v=true->(∃i t,k=Sum.inl i/\v=Value.int i t)\/(∃x t,k=Sum.inr x/\v=Value.str x t)
 | .inl i,v,h=>by
  obtain⟨t,e⟩:=Rn h
  exact .inl ⟨i,t,rfl,e⟩
 | .inr x,v,h=>by
  let⟨t,e⟩:=Value.isStrOf_shape h
  exact .inr ⟨x,t,rfl,e⟩
def BD(i:Int)(t:Tok):ue (.inl i) (.int i t)=true:=by simp[ue,Value.isInt]
def BW(x:Str)(t:Tok):ue (.inr x) (.str x t)=true:=by simp[ue,Value.isStrOf]
def Ke(a b:Int):decide ((Sum.inl a:Key)=Sum.inl b)=(a==b):=by
 by_cases e:a=b
 .subst e;simp
 .have h:¬(Sum.inl a:Key)=Sum.inl b:=λq=>e (Sum.inl.inj q)
  rw[Px h]
  exact(So.mpr e).symm
def JE(a b:Str):decide ((Sum.inr a:Key)=Sum.inr b)=decide (a=b):=by
 by_cases e:a=b
 .subst e;simp
 .have h:¬(Sum.inr a:Key)=Sum.inr b:=λq=>e (Sum.inr.inj q)
  rw[Px h,Px e]
def K8(a:Int)(b:Str):decide ((Sum.inl a:Key)=Sum.inr b)=false:=Px (λq=>nomatch q)
def KR(a:Str)(b:Int):decide ((Sum.inr a:Key)=Sum.inl b)=false:=Px (λq=>nomatch q)
def bQ(prog:Program)(w:World):PySem.KeyKind prog w Key where
 is:=ue
 hash:=NO w
 inj:=λv a b ha hb=>by
  rcases cB ha with⟨i,t,rfl,rfl⟩|⟨x,t,rfl,rfl⟩
  ·rcases cB hb with⟨j,u,rfl,e⟩|⟨y,u,rfl,e⟩
   ·injection e with e1 _;rw[e1]
   ·exact nomatch e
  ·rcases cB hb with⟨j,u,rfl,e⟩|⟨y,u,rfl,e⟩
   ·exact nomatch e
   ·injection e with e1 _;rw[e1]
 byValue:=λk v h=>by
  rcases cB h with⟨i,t,rfl,rfl⟩|⟨x,t,rfl,rfl⟩<;>rfl
 pyHash:=λhv h=>by
  rcases cB hv with⟨i,t,rfl,rfl⟩|⟨x,t,rfl,rfl⟩
  ·exact wpAny_pyHash_int h
  ·exact wpAny_pyHash_str h
 eqBool:=λhu hv h=>by
  rcases cB hu with⟨i,t,rfl,rfl⟩|⟨x,t,rfl,rfl⟩
  ·rcases cB hv with⟨j,u,rfl,rfl⟩|⟨y,u,rfl,rfl⟩
   ·rw[Ke]at h;exact wpAny_eqBool_int h
   ·rw[K8]at h;exact SeqAt.EqAt.int_str i t y u _ _ _ _ h
  ·rcases cB hv with⟨j,u,rfl,rfl⟩|⟨y,u,rfl,rfl⟩
   ·rw[KR]at h;exact SeqAt.EqAt.str_int x t j u _ _ _ _ h
   ·rw[JE]at h;exact wpAny_eqBool_str h
 «strs»:=λk x t v h=>by
  rcases cB h with⟨i,u,rfl,e⟩|⟨y,u,rfl,e⟩
  ·exact nomatch e
  ·injection e with e1 _
   subst e1
   cases v<;>rfl
def ym(prog:Program)(w:World)(i:Int)(t:Tok):(bQ prog w).is (.inl i) (.int i t)=true:=BD i t
def xR(prog:Program)(w:World)(x:Str)(t:Tok):(bQ prog w).is (.inr x) (.str x t)=true:=BW x t
inductive V where
 |non|bl (b:Bool)|int (i:Int)|str (x:Str)|byt (b:Array UInt8)|flt (b:UInt64)|ref (a:Addr)|ty (n:String)
 deriving DecidableEq
def RelV:V->Value->Prop
 | .non,u=>u=Value.none
 | .bl b,u=>u=Value.bool b
 | .int i,u=>∃t,u=Value.int i t
 | .str x,u=>∃t,u=Value.str x t
 | .byt b,u=>∃t,u=Value.bytes b t
 | .flt b,u=>∃t,u=Value.float b t
 | .ref a,u=>u=Value.ref a
 | .ty n,u=>u=Value.type n
abbrev Vals:List V->List Value->Prop:=Paired RelV
def Vals.length{xs:List V}{us:List Value}(r:Vals xs us):xs.length=us.length:=Paired.length r
theorem Vals.get:∀{xs:List V} {us:List Value} {i:Nat} {x:V},Vals xs us->xs[i]? =some x->∃u,us[i]? =some u/\RelV x u
 |_,_,_,_,.nil,e=>by simp at e
 |_,_,0,_,.cons r _,e=>by simp at e;subst e;exact⟨_,rfl,r⟩
 |_,_,i+1,x,.cons _ t,e=>by
  obtain⟨u,h1,h2⟩:=Vals.get t (by simpa using e)
  exact⟨u,by simpa using h1,h2⟩
theorem Vals.set{x:V}{u:Value}(r:RelV x u):∀{xs:List V} {us:List Value} (i:Nat),Vals xs us->Vals (xs.set i x) (us.set i u)
 |_,_,_,.nil=>.nil
 |_,_,0,.cons _ t=>.cons r t
 |_,_,i+1,.cons q t=>.cons q (Vals.set r i t)
theorem Vals.append:∀{xs ys:List V} {us ws:List Value},Vals xs us->Vals ys ws->Vals (xs++ys) (us++ws)
 |_,_,_,_,.nil,s=>s
 |_,_,_,_,.cons r t,s=>.cons r (Vals.append t s)
theorem Vals.take:∀{xs:List V} {us:List Value} (n:Nat),Vals xs us->Vals (xs.take n) (us.take n)
 |_,_,0,_=>.nil
 |_,_,_+1,.nil=>.nil
 |_,_,n+1,.cons r t=>.cons r (Vals.take n t)
theorem Vals.drop:∀{xs:List V} {us:List Value} (n:Nat),Vals xs us->Vals (xs.drop n) (us.drop n)
 |_,_,0,r=>r
 |_,_,_+1,.nil=>.nil
 |_,_,n+1,.cons _ t=>Vals.drop n t
def rD:Option V->Option Value->Prop
 |some v,some u=>RelV v u
 |none,none=>True
 |_,_=>False
def KV{κ:Type}:List (κ×V)->List (κ×Value)->Prop:=Paired λ(p:κ×V) (q:κ×Value)=>p.1=q.1/\RelV p.2 q.2
def kV:Key->V
 | .inl i=>.int i
 | .inr x=>.str x
inductive HO where
 |lst (xs:List V)
 |tup (xs:List V)
 |dK (kvs:List (Key×V))|dT (kvs:List (List Key×V)) (ep:Nat)
 |set (S:Int->Bool) (n:Nat)
 |ins (C dx:Addr) (fs:List (Str×V))
 |own (x:Addr)
 |xd (fs:List (Str×V))
 |met (f x:Addr)
 |ba (lo hi:Int)
 |a8 (o:Obj) (u:HO)
 |tbl (ps:Array Value)
 |ext (φ:Heap->Prop)
abbrev Hp:=Addr->Option HO
def upd(H:Hp)(a:Addr)(o:HO):Hp:=λb=>if b=a then some o else H b
def au{H:Hp}{a:Addr}{o:HO}:upd H a o a=some o:=by unfold upd;rw[Pe rfl]
def av{H:Hp}{a b:Addr}{o:HO}(h:b≠a):upd H a o b=H b:=by unfold upd;rw[Pg h]
def GA{H:Hp}{a:Addr}{o u:HO}:upd (upd H a o) a u=upd H a u:=by
 funext b;unfold upd;split<;>rfl
def mJ{H:Hp}{a b:Addr}{o u:HO}(h:H a=some o)(h':H b=some u)(d:o≠u):a≠b:=by
 intro e;subst e;rw[h]at h';exact d (Option.some.inj h')
def aL{H:Hp}{a b:Addr}{o:HO}(h:H a=some o)(h':H b=none):a≠b:=by
 intro e;subst e;rw[h]at h';cases h'
section
variable (P:Program)(w:World)
def v5(h:Heap)(a:Addr)(items:Array Value):Prop:=∃o,h.get? a=some o/\o.cls=.type "tuple"/\∃n,o.data=.seq items n/\o.dict=none
def v5.isTup{h:Heap}{a:Addr}{items:Array Value}(x:v5 h a items):IsTup h a items:=let⟨o,e,c,n,d,_⟩:=x;⟨o,e,c,n,d⟩
def v5.new(h:Heap)(items:Array Value):v5 (h.push {cls:=.type "tuple",data:=.seq items}) h.objs.size items:=⟨_,Pl _ rfl,rfl,_,rfl,rfl⟩
def bE(H:Hp)(h:Heap)(a:Addr):HO->Prop
 | .lst xs=>xs.length<=sizeLine/\∃(its:List Value) (n:Nat),Vals xs its/\h.get? a=some {cls:=.type "list",data:=.seq its.toArray n}
 | .tup xs=>xs.length<=sizeLine/\∃its:List Value,Vals xs its/\v5 h a its.toArray
 | .dK kvs=>kvs.length<=sizeLine/\(a==sysModules)=false/\∃vs,KV kvs vs/\h.DictOf (bQ P w) a vs
 | .dT kvs ep=>kvs.length<=sizeLine/\(a==sysModules)=false/\∃xs:List (List Key×Addr×Value),
   Paired (λ(p:List Key×V) (q:List Key×Addr×Value)=>p.1=q.1/\(H q.2.1=some (.tup (p.1.map kV))\/∃o,H q.2.1=some (.a8 o (.tup (p.1.map kV))))/\RelV p.2 q.2.2) kvs xs/\
   tE (tupleKind (bQ P w)) h a xs ep
 | .set S n=>h.SetOf (intKind P w) a S n
 | .ins C dx fs=>H dx=some (.own a)/\fs.length<=1000/\dx≠a/\h.get? a=some (PySem.W.instObj C dx)/\
   ∃mA,h.Ns1 dx mA/\(∀f,rD (fs.lookup f) (mA f))/\PySem.Within mA (fs.map (·.1))
 | .own _=>∃o,h.get? a=some o
 | .xd fs=>∃mA,h.Ns1 a mA/\∀f,rD (fs.lookup f) (mA f)
 | .ba lo hi=>∃t u v,h.get? a=some {cls:=.type "range",data:=.fields #[.int lo t,.int hi u,.int 1 v]}
 | .a8 o u=>h.get? a=some o/\bE H h a u
 | .tbl ps=>h.get? a=some {cls:=.none,data:=.fields ps}
 | .met f x=>h.get? a=some (PySem.W.methodObj (.ref f) (.ref x))
 | .ext φ=>φ h/\(∃o,h.get? a=some o)/\∀h1 h2:Heap,φ h1->(∀o,h1.get? a=some o->h2.get? a=some o)->φ h2
def lO(H:Hp)(h:Heap):Prop:=∀a o,H a=some o->bE P w H h a o
end
section
variable {P:Program}{w:World}{H H':Hp}{h h':Heap}{a:Addr}{o:HO}
theorem bE.lt(x:bE P w H h a o):a<h.objs.size:=by
 cases o with
 |lst xs=>let⟨_,_,_,_,e⟩:=x;exact Po e
 |tup xs=>let⟨_,_,_,p⟩:=x;exact p.isTup.lt
 |dK kvs=>let⟨_,_,_,_,o,_,_,e,_⟩:=x;exact Po e
 |dT kvs ep=>let⟨_,_,_,_,o,_,e,_⟩:=x;exact Po e
 |set S n=>let⟨o,_,_,_,e,_⟩:=x;exact Po e
 |ins C dx fs=>let⟨_,_,_,e,_⟩:=x;exact Po e
 |own y=>let⟨_,e⟩:=x;exact Po e
 |xd fs=>let⟨_,⟨_,_,_,e,_⟩,_⟩:=x;exact Po e
 |ba lo hi=>let⟨_,_,_,e⟩:=x;exact Po e
 |a8 ob u=>let⟨e,_⟩:=x;exact Po e
 |tbl ps=>exact Po (show h.get? a=some _ from x)
 |met f y=>exact Po (show h.get? a=some _ from x)
 |ext φ=>let⟨_,⟨_,e⟩,_⟩:=x;exact Po e
theorem Paired.mapP{α β:Type}{F G:α->β->Prop}:∀{l₁:List α} {l₂:List β},Paired F l₁ l₂->(∀a b,F a b->G a b)->Paired G l₁ l₂
 |_,_,.nil,_=>.nil
 |_,_,.cons r t,f=>.cons (f _ _ r) (Paired.mapP t f)
theorem bE.stay(x:bE P w H h a o)(k:∀b u,(b=a\/H b=some (.own a))->h.get? b=some u->h'.get? b=some u)
  (ho:∀b,H b=some (.own a)->H' b=some (.own a)) (ht:∀b xs,(H b=some (.tup xs)\/∃o,H b=some (.a8 o (.tup xs)))->(H' b=some (.tup xs)\/∃o,H' b=some (.a8 o (.tup xs)))):bE P w H' h' a o:=by
 induction o with
 |lst xs=>let⟨z,its,n,r,e⟩:=x;exact⟨z,its,n,r,k _ _ (.inl rfl) e⟩
 |tup xs=>let⟨z,its,r,ob,e,c⟩:=x;exact⟨z,its,r,ob,k _ _ (.inl rfl) e,c⟩
 |dK kvs=>let⟨z,y,vs,r,ob,es,ep,e,c⟩:=x;exact⟨z,y,vs,r,ob,es,ep,k _ _ (.inl rfl) e,c⟩
 |dT kvs ep=>
  let⟨z,y,xs,r,ob,es,e,c⟩:=x
  exact⟨z,y,xs,Paired.mapP r λp q z=>⟨z.1,ht _ _ z.2.1,z.2.2⟩,ob,es,k _ _ (.inl rfl) e,c⟩
 |set S n=>let⟨ob,es,ep,t,e,c⟩:=x;exact⟨ob,es,ep,t,k _ _ (.inl rfl) e,c⟩
 |ins C dx fs=>
  let⟨d,z,ne,e,mA,⟨od,es,ep,e2,c⟩,r⟩:=x
  exact⟨ho _ d,z,ne,k _ _ (.inl rfl) e,mA,⟨od,es,ep,k _ _ (.inr d) e2,c⟩,r⟩
 |own y=>let⟨ob,e⟩:=x;exact⟨ob,k _ _ (.inl rfl) e⟩
 |xd fs=>let⟨mA,⟨od,es,ep,e,c⟩,r⟩:=x;exact⟨mA,⟨od,es,ep,k _ _ (.inl rfl) e,c⟩,r⟩
 |ba lo hi=>let⟨t,u,v,e⟩:=x;exact⟨t,u,v,k _ _ (.inl rfl) e⟩
 |a8 ob u ih=>let⟨e,q⟩:=x;exact⟨k _ _ (.inl rfl) e,ih q⟩
 |tbl ps=>
  have e:h.get? a=some {cls:=.none,data:=.fields ps}:=x
  exact k a _ (.inl rfl) e
 |met f y=>
  have e:h.get? a=some (PySem.W.methodObj (.ref f) (.ref y)):=x
  exact k a _ (.inl rfl) e
 |ext φ=>let⟨p,⟨o,e⟩,st⟩:=x;exact⟨st _ _ p λo q=>k _ _ (.inl rfl) q,⟨o,k _ _ (.inl rfl) e⟩,st⟩
def lO.lt(x:lO P w H h)(e:H a=some o):a<h.objs.size:=(x a o e).lt
theorem lO.fresh(x:lO P w H h)(e:h.objs.size<=a):H a=none:=by
 cases q:H a with
 |none=>rfl
 |some u=>exact absurd (Qa (x.lt q) e) (Qd _)
def lO.kept(x:lO P w H h)(k:∀b u,h.get? b=some u->h'.get? b=some u):lO P w H h':=λa o e=>
 (x a o e).stay (λb u _ q=>k b u q) (λ_ q=>q) λ_ _ q=>q
def lO.laid(x:lO P w H h)(k:∀b u,h.get? b=some u->h'.get? b=some u)(hp:h.objs.size<=a)(new:bE P w (upd H a o) h' a o):lO P w (upd H a o) h':=λb u e=>by
 have hn:=x.fresh hp
 by_cases hb:b=a
 .subst hb;rw[au]at e;cases e;exact new
 .rw[av hb]at e
  exact(x b u e).stay (λc v _ q=>k c v q) (λc q=>by rw[av (aL q hn)];exact q) λc xs q=>q.imp (λq=>by rw[av (aL q hn)];exact q) λ⟨o,q⟩=>⟨o,by rw[av (aL q hn)];exact q⟩
end
def Rd(H:Hp)(a:Addr)(u:HO):Prop:=H a=some u\/∃o,H a=some (.a8 o u)
def Rd.ok{P:Program}{w:World}{H:Hp}{h:Heap}{a:Addr}{u:HO}(r:Rd H a u)(x:lO P w H h):bE P w H h a u:=by
 rcases r with r|⟨o,r⟩
 .exact x a u r
 .let⟨_,q⟩:=x a _ r
  exact q
def L1:Option HO->Prop
 |some (.lst _)=>True
 |some (.dK _)=>True
 |some (.dT _ _)=>True
 |some (.set _ _)=>True
 |some (.ins _ _ _)=>True
 |some (.ext _)=>True
 |_=>False
section
variable {P:Program}{w:World}{H:Hp}{h h':Heap}{x e:Addr}{o':HO}
def lO.write(ok:lO P w H h)(mu:L1 (H x))(he:e=x\/H e=some (.own x))(k:∀b u,b≠e->h.get? b=some u->h'.get? b=some u)(heo:∃u,h'.get? e=some u)
  (new:bE P w (upd H x o') h' x o'):lO P w (upd H x o') h':=λb u q=>by
 have nown:∀c y,H c=some (.own y)->c≠x:=λc y r z=>by subst z;rw[r]at mu;exact mu
 have ntup:∀c xs,H c=some (.tup xs)->c≠x:=λc xs r z=>by subst z;rw[r]at mu;exact mu
 by_cases hb:b=x
 .subst hb;rw[au]at q;cases q;exact new
 .rw[av hb]at q
  by_cases hbe:b=e
  .have q':H b=some (.own x):=by
    rcases he with z|z
    .exact absurd (hbe.trans z) hb
    .rw[hbe];exact z
   rw[q]at q';cases q'
   let⟨v,hv⟩:=heo
   exact⟨v,by rw[hbe];exact hv⟩
  .refine (ok b u q).stay (λc v hc r=>k c v ?_ r) (λc r=>by rw[av (nown c b r)];exact r) λc xs r=>r.imp (λr=>by rw[av (ntup c xs r)];exact r) λ⟨o,r⟩=>⟨o,by rw[av (λz=>by subst z;rw[r]at mu;exact mu)];exact r⟩
   rcases hc with rfl|hc
   .exact hbe
   .rintro rfl
    rcases he with z|z
    .exact nown c b hc z
    .rw[hc]at z;cases z;exact hb rfl
end
structure Un(fs ex:List Addr)(H H':Hp)(h h':Heap):Prop where
 keep:∀b o,h.get? b=some o->H b=none->b∉fs->b∉ex->h'.get? b=some o
 slot:∀b o,h.get? b=some o->H b=none->b∈fs->b∉ex->∃sl,h'.get? b=some {o with slots:=sl}
 free:∀b o,h.get? b=some o->H b=none->b∉ex->H' b=none
 there:∀b o,h.get? b=some o->b∉ex->∃o',h'.get? b=some o'
 tups:∀b xs,H b=some (.tup xs)->H' b=some (.tup xs)
 frzs:∀b o u,H b=some (.a8 o u)->H' b=some (.a8 o u)
 tbls:∀b ps,H b=some (.tbl ps)->∃more,H' b=some (.tbl (ps++more))
section
variable {fs fs' ex ex':List Addr}{H H1 H2:Hp}{h h1 h2 h':Heap}{a x e:Addr}{o:HO}
def Un.any(u:Un fs ex H H1 h h1){b:Addr}{ob:Obj}(q:h.get? b=some ob)(n:H b=none)(hx:b∉ex):∃sl,h1.get? b=some {ob with slots:=sl}:=by
 by_cases hb:b∈fs
 .exact u.slot b ob q n hb hx
 .exact⟨ob.slots,u.keep b ob q n hb hx⟩
def Un.kept(k:∀b u,h.get? b=some u->h'.get? b=some u):Un fs ex H H h h':=
 ⟨λb ob q _ _ _=>k b ob q,λb ob q _ _ _=>⟨ob.slots,k b ob q⟩,λ_ _ _ n _=>n,λb ob q _=>⟨ob,k b ob q⟩,λ_ _ q=>q,λ_ _ _ q=>q,λ_ ps q=>⟨#[],by rw[q];simp⟩⟩
def Un.refl:Un fs ex H H h h:=Un.kept λ_ _ q=>q
def Un.laid(k:∀b u,h.get? b=some u->h'.get? b=some u)(hp:h.objs.size<=a)(hn:H a=none):Un fs ex H (upd H a o) h h' where
 keep:=λb u q _ _ _=>k b u q
 slot:=λb u q _ _ _=>⟨u.slots,k b u q⟩
 free:=λb u q n _=>by rw[av (P4 (Qa (Po q) hp))];exact n
 there:=λb u q _=>⟨u,k b u q⟩
 tups:=λb xs q=>by rw[av (aL q hn)];exact q
 frzs:=λb u xs q=>by rw[av (aL q hn)];exact q
 tbls:=λb ps q=>⟨#[],by rw[av (aL q hn),q];simp⟩
def Un.write(mu:L1 (H x))(he:e=x\/H e=some (.own x))(k:∀b u,b≠e->h.get? b=some u->h'.get? b=some u)(heo:∃u,h'.get? e=some u):Un fs ex H (upd H x o) h h':=by
 have hx:∀b,H b=none->b≠x:=λb n z=>by subst z;rw[n]at mu;exact mu
 have hb:∀b,H b=none->b≠e:=λb n z=>by
  subst z
  rcases he with r|r
  .exact hx b n r
  .rw[n]at r;cases r
 have hm:∀b u,H b=some u->¬L1 (some u)->b≠x:=λb u q nm z=>by subst z;rw[q]at mu;exact nm mu
 refine⟨λb u q n _ _=>k b u (hb b n) q,λb u q n _ _=>⟨u.slots,k b u (hb b n) q⟩,λb u q n _=>by rw[av (hx b n)];exact n,λb u q _=>?_,
  λb xs q=>by rw[av (hm b _ q λz=>z)];exact q,λb u xs q=>by rw[av (hm b _ q λz=>z)];exact q,λb ps q=>⟨#[],by rw[av (hm b _ q λz=>z),q];simp⟩⟩
 by_cases hbe:b=e
 .subst hbe;exact heo
 .exact⟨u,k b u hbe q⟩
end
def M4(h:Heap)(H:Hp):List Addr:=(List.range h.objs.size).filter λa=>(H a).isSome
def uU(h:Heap)(H:Hp):Heap:=PySem.W.hideAll h (M4 h H)
def Cv(h:Heap)(H:Hp):(uU h H).objs.size=h.objs.size:=PySem.W.hideAll_size _ _
def C9{h:Heap}{H:Hp}{b:Addr}{o:Obj}(e:h.get? b=some o)(n:H b=none):(uU h H).get? b=some o:=
 PySem.W.hideAll_get _ e λhm=>by
  have q:(H b).isSome=true:=(Pp.mp hm).2
  rw[n]at q;simp at q
theorem Hj{h:Heap}{H:Hp}{b:Addr}{o:Obj}(e:(uU h H).get? b=some o):h.get? b=some o/\H b=none:=by
 have e':h.get? b=some o:=PySem.W.of_hideAll (M4 h H) e
 refine⟨e',?_⟩
 cases q:H b with
 |none=>rfl
 |some x=>
  have hm:b∈M4 h H:=Pp.mpr ⟨PN.mpr (Po e'),by simp[q]⟩
  have z:(uU h H).get? b=none:=PySem.W.hideAll_none (M4 h H) hm
  rw[z]at e;cases e
def HY(g h:Heap)(L:Addr):List (Addr×Obj):=(List.range h.objs.size).filterMap λa=>if a=L\/(g.get? a).isSome=true then none else(h.get? a).map λo=>(a,o)
def rest(g h:Heap)(L d:Addr):List (Addr×Obj):=(HY g h L).filter λp=>decide (p.1≠d)
structure Mod(K:Frag)(mg:Str->Option Value)(base:Heap):Prop where
 kin:K.In base
 glob:base.Ns mainGlobals mg
 blt:∃mb,base.Ns builtinsNs mb/\∀x:Str,x≠"__name__"->mb x=bootBuiltins x
 nolimit:base.NoLimit
 sys:∃mm,base.Ns sysModules mm
structure Cx where
 prog:Program
 w:World
 K:Frag
 mg:Str->Option Value
 base:Heap
 A:Around
 N:List Str
 s₀:Shared
 H₀:Hp
 env:Env
 outer:List Env
 stack:List Env
 ex:List Addr
 fn:Str->Bool
 calm:Bool
 pn:List (Addr×Obj)
 xe:@B_
def nH(l:List Env):List Addr:=l.filterMap (·.frame)
abbrev Cx.fs(X:Cx):List Addr:=nH X.outer
def yW(sc:Scope)(x:Str):Prop:=sc.names.lookup x=some .local\/sc.names.lookup x=some .cell\/sc.names.lookup x=some .free
def Loc(sc:Scope)(x:Str):Prop:=sc.names.lookup x=some .local\/sc.names.lookup x=some .cell
def Look(env:Env)(h:Heap)(m:Str->Option Value)(x:Str)(u:Value):Prop:=
 (env.kindOf x=some .local/\m x=some u)\/((env.kindOf x=some .cell\/env.kindOf x=some .free)/\∃c,env.cells.lookup x=some c/\h.IsCell c (some u))
structure Cx.Ok(X:Cx):Prop where
 mod:Mod X.K X.mg X.base
 kind:X.env.scope.kind=.function
 glob:X.env.globals=mainGlobals
 blt:X.env.builtins=builtinsNs
 above:X.s₀.heap.objs.size<=X.env.locals
 inj:∀x y c,X.env.cells.lookup x=some c->X.env.cells.lookup y=some c->x=y
 has:∀x,(X.env.kindOf x=some .cell\/X.env.kindOf x=some .free)->∃c,X.env.cells.lookup x=some c
 cab:∀x c,X.fn x=true->X.env.cells.lookup x=some c->X.s₀.heap.objs.size<=c
 hd:X.calm=true->X.A.handled=none
 frames:X.A.frames=some X.stack
 stk:X.stack=X.outer\/(X.stack=X.env::X.outer/\X.env.frame=some X.env.locals)
 exf:∀b∈X.ex,b≠X.env.locals/\∀x c,X.env.cells.lookup x=some c->c≠b
 bs:∀b o,X.base.get? b=some o->X.s₀.heap.get? b=some o/\X.H₀ b=none
 bsz:X.base.objs.size<=X.s₀.heap.objs.size
 noex:∀b o,X.base.get? b=some o->b∉X.ex
 exfs:∀b∈X.ex,b∉X.fs
 funs:X.s₀.heap.FunFrames X.base X.outer
 frf:∀b∈X.fs,X.H₀ b=none
structure Inv(X:Cx)(pins:List (Addr×Obj))(σ:List (Option V))(H:Hp)(s:Shared):Prop where
 ok:X.Ok
 os:s.os=X.s₀.os
 bare:AllBare s.gens
 base:Un X.fs X.ex X.H₀ H X.s₀.heap s.heap
 loc:∃m,s.heap.Ns X.env.locals m/\∀(i:Nat) (x:Str) (v:V),X.N[i]? =some x->σ[i]? =some (some v)->yW X.env.scope x->∃u,RelV v u/\Look X.env s.heap m x u
 cell:∀x c,X.env.cells.lookup x=some c->∃v,s.heap.IsCell c v
 free:H X.env.locals=none
 freeC:∀x c,X.env.cells.lookup x=some c->H c=none
 pin:∀p∈X.pn++pins,s.heap.get? p.1=some p.2/\H p.1=none/\p.1≠X.env.locals/\p.1∉X.fs/\∀v,p.2.data≠.cell v
 hok:lO X.prog X.w H s.heap
 len:σ.length=X.N.length
section
variable {X:Cx}{pins:List (Addr×Obj)}{σ:List (Option V)}{H H':Hp}{s:Shared}{h':Heap}
def Cx.Ok.nofr(ok:X.Ok){b:Addr}{o:Obj}(e:X.base.get? b=some o):b∉X.fs:=λhb=>by
 have:=(ok.funs.mem hb).1
 rw[e]at this;cases this
def Inv.bs(I:@At):∀b o,X.base.get? b=some o->s.heap.get? b=some o/\H b=none:=λb o e=>
 ⟨I.base.keep b o (I.ok.bs b o e).1 (I.ok.bs b o e).2 (I.ok.nofr e) (I.ok.noex b o e),I.base.free b o (I.ok.bs b o e).1 (I.ok.bs b o e).2 (I.ok.noex b o e)⟩
def Inv.bk(I:@At):∀b o,X.base.get? b=some o->s.heap.get? b=some o:=λb o e=>(I.bs b o e).1
def Inv.mod(I:@At):Mod X.K X.mg X.base:=I.ok.mod
def Inv.kIn(I:@At):X.K.In s.heap:=I.ok.mod.kin.keeps I.bk
def Inv.lt(I:@At):X.env.locals<s.heap.objs.size:=let⟨_,hn,_⟩:=I.loc;hn.lt
def Inv.sz(I:@At):X.s₀.heap.objs.size<=s.heap.objs.size:=Qp I.ok.above (QY I.lt)
def Inv.nofs(I:@At){a:Addr}(h:s.heap.objs.size<=a):a∉X.fs:=λhb=>by
 let⟨_,o,ho,_⟩:=I.ok.funs.mem hb
 exact absurd (Qa (Po ho) (Qp I.sz h)) (Qd _)
def Inv.cne(I:@At):∀x c,X.env.cells.lookup x=some c->c≠X.env.locals:=λx c e z=>by
 let⟨v,o,ho,hd⟩:=I.cell x c e
 let⟨m,⟨o',es,ep,ho',hd',_⟩,_⟩:=I.loc
 rw[z,ho']at ho;cases ho;rw[hd']at hd;cases hd
def Inv.funs(I:@At):s.heap.FunFrames X.base X.outer:=by
 have all:∀(l:List Env),(∀b∈nH l,b∈X.fs)->X.s₀.heap.FunFrames X.base l->s.heap.FunFrames X.base l:=by
  intro l
  induction l with
  |nil=>intro _ _;trivial
  |cons env r ih=>
   intro hs hl
   let⟨hk,⟨L,o,hf,hn,ho,hd⟩,hr⟩:=hl
   have hL:L∈X.fs:=hs L (by unfold nH;rw[Sq,hf];exact Pq)
   let⟨sl,e⟩:=I.base.slot L o ho (I.ok.frf L hL) hL λz=>I.ok.exfs L z hL
   exact⟨hk,⟨L,_,hf,hn,e,hd⟩,ih (λb hb=>hs b (by unfold nH;rw[Sq,hf];exact Pk _ hb)) hr⟩
 exact all X.outer (λ_ hb=>hb) I.ok.funs
def Inv.stack(I:@At):s.heap.FunFrames X.base X.stack:=by
 rcases I.ok.stk with e|⟨e,hf⟩
 .rw[e];exact I.funs
 .rw[e]
  let⟨m,hn,_⟩:=I.loc
  refine .cons (by rw[I.ok.kind];decide) hf hn ?_ I.funs
  exact Heap.get?_none_of_le (Qp I.ok.bsz I.ok.above)
def Inv.stkSub(I:@At):∀b∈nH X.stack,b∈X.env.locals::X.fs:=λb hb=>by
 rcases I.ok.stk with e|⟨e,hf⟩
 .rw[e]at hb;exact Pk _ hb
 .rw[e]at hb
  unfold nH at hb
  rw[Sq,hf]at hb
  exact hb
def Inv.stkFree(I:@At):∀b∈nH X.stack,H b=none:=λb hb=>by
 rcases Pf.mp (I.stkSub b hb)with e|hb
 .rw[e];exact I.free
 .let⟨_,o,ho,_⟩:=I.ok.funs.mem hb
  exact I.base.free b o ho (I.ok.frf b hb) λz=>I.ok.exfs b z hb
def Inv.step{g':Array GenState}{t':Nat}{d':Drawn}{ch:List Addr}(I:@At)
  (hch:∀b∈ch,(b∈X.ex\/X.s₀.heap.objs.size<=b)/\b≠X.env.locals/\(∀x c,X.env.cells.lookup x=some c->c≠b)/\∀p∈X.pn++pins,p.1≠b)
  (keep:∀b o,b≠X.env.locals->b∉X.fs->b∉ch->s.heap.get? b=some o->H b=none->h'.get? b=some o)
  (slot:∀b o,b≠X.env.locals->b∈X.fs->b∉ch->s.heap.get? b=some o->H b=none->∃sl,h'.get? b=some {o with slots:=sl}) (free:∀b o,b∉ch->s.heap.get? b=some o->H b=none->H' b=none)
  (there:∀b o,b∉ch->s.heap.get? b=some o->∃o',h'.get? b=some o')
  (tups:∀b xs,H b=some (.tup xs)->H' b=some (.tup xs)) (frzs:∀b o u,H b=some (.a8 o u)->H' b=some (.a8 o u)) (tbls:∀b ps,H b=some (.tbl ps)->∃more,H' b=some (.tbl (ps++more)))
  (ns:∀m,s.heap.Ns X.env.locals m->h'.Ns X.env.locals m) (hok:lO X.prog X.w H' h') (hg:AllBare g') :
  Inv X pins σ H' {s with heap:=h',gens:=g',drawn:=d',toks:=t'}:=by
 have neL:∀b o,X.s₀.heap.get? b=some o->b≠X.env.locals:=λb o e=>P4 (Qa (Po e) I.ok.above)
 have neC:∀b o,X.s₀.heap.get? b=some o->b∉X.ex->b∉ch:=λb o e hx hb=>by
  rcases(hch b hb).1 with z|z
  .exact hx z
  .exact absurd (Qa (Po e) z) (Qd _)
 have cellK:∀x c,X.env.cells.lookup x=some c->∀v,s.heap.IsCell c v->h'.IsCell c v:=λx c e v ⟨o,ho,hd⟩=>by
  have nch:c∉ch:=λz=>(hch c z).2.2.1 x c e rfl
  by_cases hc:c∈X.fs
  .let⟨sl,q⟩:=slot c o (I.cne x c e) hc nch ho (I.freeC x c e)
   exact⟨_,q,hd⟩
  .exact⟨o,keep c o (I.cne x c e) hc nch ho (I.freeC x c e),hd⟩
 refine⟨I.ok,I.os,hg,⟨λb o e n hb hx=>?_,λb o e n hb hx=>?_,λb o e n hx=>?_,λb o e hx=>?_,λb xs e=>tups b xs (I.base.tups b xs e),λb o xs e=>frzs b o xs (I.base.frzs b o xs e),λb ps e=>?_⟩,?_,λx c e=>?_,?_,λx c e=>?_,λp hp=>?_,hok,I.len⟩
 .exact keep b o (neL b o e) hb (neC b o e hx) (I.base.keep b o e n hb hx) (I.base.free b o e n hx)
 .let⟨sl,e1⟩:=I.base.slot b o e n hb hx
  let⟨sl',e2⟩:=slot b _ (neL b o e) hb (neC b o e hx) e1 (I.base.free b o e n hx)
  exact⟨sl',e2⟩
 .let⟨o',e1⟩:=I.base.there b o e hx
  exact free b o' (neC b o e hx) e1 (I.base.free b o e n hx)
 .let⟨o',e1⟩:=I.base.there b o e hx
  exact there b o' (neC b o e hx) e1
 .let⟨m1,e1⟩:=I.base.tbls b ps e
  let⟨m2,e2⟩:=tbls b _ e1
  exact⟨m1++m2,by rw[e2,Array.append_assoc]⟩
 .let⟨m,hn,hl⟩:=I.loc
  refine⟨m,ns m hn,λi x v e1 e2 e3=>?_⟩
  let⟨u,r,l⟩:=hl i x v e1 e2 e3
  refine⟨u,r,?_⟩
  rcases l with l|⟨k,c,e,z⟩
  .exact .inl l
  .exact .inr ⟨k,c,e,cellK x c e _ z⟩
 .let⟨v,z⟩:=I.cell x c e
  exact⟨v,cellK x c e v z⟩
 .let⟨m,⟨o,_,_,ho,_⟩,_⟩:=I.loc
  exact free _ o (λz=>(hch _ z).2.1 rfl) ho I.free
 .let⟨v,o,ho,hd⟩:=I.cell x c e
  exact free c o (λz=>(hch c z).2.2.1 x c e rfl) ho (I.freeC x c e)
 .let⟨e,n,ne,nf,d⟩:=I.pin p hp
  have nch:p.1∉ch:=λz=>(hch p.1 z).2.2.2 p hp rfl
  exact⟨keep p.1 p.2 ne nf nch e n,free p.1 p.2 nch e n,ne,nf,d⟩
def Inv.un{t':Nat}(I:@At)(u:Un X.fs [] H H' s.heap h')(hok:lO X.prog X.w H' h'):Inv X pins σ H' {s with heap:=h',toks:=t'}:=by
 let⟨m,⟨o,es,ep,ho,r⟩,_⟩:=id I.loc
 let⟨sl,hL⟩:=u.any ho I.free (by simp)
 exact I.step (ch:=[]) (λ_ z=>nomatch z) (λb o _ hb _ e n=>u.keep b o e n hb (by simp)) (λb o _ hb _ e n=>u.slot b o e n hb (by simp)) (λb o _ e n=>u.free b o e n (by simp)) (λb o _ e=>u.there b o e (by simp)) u.tups u.frzs u.tbls (λm' hm=>by
  let⟨o',es',ep',ho',r'⟩:=hm
  rw[ho]at ho';cases ho'
  exact⟨_,es',ep',hL,r'⟩) hok I.bare
def Inv.call{g':Array GenState}{t':Nat}{d':Drawn}{ch:List Addr}(I:@At)(u:Un (nH X.stack) ch H H' s.heap h')(hok:lO X.prog X.w H' h')(hg:AllBare g')
  (hch:∀b∈ch,(b∈X.ex\/X.s₀.heap.objs.size<=b)/\b≠X.env.locals/\(∀x c,X.env.cells.lookup x=some c->c≠b)/\∀p∈X.pn++pins,p.1≠b) :
  Inv X pins σ H' {s with heap:=h',gens:=g',drawn:=d',toks:=t'}:=by
 let⟨m,⟨o,es,ep,ho,r⟩,_⟩:=id I.loc
 let⟨sl,hL⟩:=u.any ho I.free λz=>(hch _ z).2.1 rfl
 exact I.step hch (λb o hL hb hc e n=>u.keep b o e n (λz=>(Pf.mp (I.stkSub b z)).elim hL hb) hc) (λb o _ _ hc e n=>u.any e n hc) (λb o hc e n=>u.free b o e n hc) (λb o hc e=>u.there b o e hc) u.tups u.frzs u.tbls (λm' hm=>by
  let⟨o',es',ep',ho',r'⟩:=hm
  rw[ho]at ho';cases ho'
  exact⟨_,es',ep',hL,r'⟩) hok hg
def Inv.turned{t':Nat}{it:Addr}(I:@At)(k:∀b o,b≠it->s.heap.get? b=some o->h'.get? b=some o)(hn:H it=none)(hL:it≠X.env.locals)
  (h1:it∈X.ex\/X.s₀.heap.objs.size<=it) (h2:∀x c,X.env.cells.lookup x=some c->c≠it) (h3:∀p∈X.pn++pins,p.1≠it):Inv X pins σ H {s with heap:=h',toks:=t'}:=by
 have nit:∀b u,H b=some u->b≠it:=λb u e z=>by rw[z,hn]at e;cases e
 refine I.step (ch:=[it]) (λb hb=>?_) (λb o _ _ hc e _=>k b o (λz=>hc (by simp[z])) e) (λb o _ _ hc e _=>⟨o.slots,k b o (λz=>hc (by simp[z])) e⟩) (λ_ _ _ _ n=>n)
  (λb o hc e=>⟨o,k b o (λz=>hc (by simp[z])) e⟩) (λ_ _ e=>e) (λ_ _ _ e=>e) (λb ps e=>⟨#[],by rw[e];simp⟩) (λm hm=>?_) (λb u e=>?_) I.bare
 .have e:b=it:=by simpa using hb
  subst e
  exact⟨h1,hL,h2,h3⟩
 .let⟨o,es,ep,ho,r⟩:=hm
  exact⟨o,es,ep,k _ o (Ne.symm hL) ho,r⟩
 .refine (I.hok b u e).stay (λc v hc q=>k c v ?_ q) (λ_ q=>q) λ_ _ q=>q
  rcases hc with z|z
  .rw[z];exact nit b u e
  .exact nit c _ z
def Inv.tok(I:@At)(t:Nat):Inv X pins σ H {s with toks:=t}:=I.un Un.refl I.hok
def Inv.kept{t':Nat}(I:@At)(k:∀b u,s.heap.get? b=some u->h'.get? b=some u):Inv X pins σ H {s with heap:=h',toks:=t'}:=I.un (Un.kept k) (I.hok.kept k)
def Inv.laid{a:Addr}{o:HO}{t':Nat}(I:@At)(k:∀b u,s.heap.get? b=some u->h'.get? b=some u)(hp:s.heap.objs.size<=a)(new:bE X.prog X.w (upd H a o) h' a o) :
  Inv X pins σ (upd H a o) {s with heap:=h',toks:=t'}:=I.un (Un.laid k hp (I.hok.fresh hp)) (I.hok.laid k hp new)
def Inv.write{x e:Addr}{o:HO}{t':Nat}(I:@At)(mu:L1 (H x))(he:e=x\/H e=some (.own x))(k:∀b u,b≠e->s.heap.get? b=some u->h'.get? b=some u)(heo:∃u,h'.get? e=some u)
  (new:bE X.prog X.w (upd H x o) h' x o):Inv X pins σ (upd H x o) {s with heap:=h',toks:=t'}:=I.un (Un.write mu he k heo) (I.hok.write mu he k heo new)
def Inv.pins_of{pins':List (Addr×Obj)}(I:@At)(h:∀p∈pins',s.heap.get? p.1=some p.2/\H p.1=none/\p.1≠X.env.locals/\p.1∉X.fs/\∀v,p.2.data≠.cell v):Inv X pins' σ H s:=
 ⟨I.ok,I.os,I.bare,I.base,I.loc,I.cell,I.free,I.freeC,λp hp=>(Pz.mp hp).elim (λz=>I.pin p (Qh _ z)) (h p),I.hok,I.len⟩
def yu{N:List Str}(hN:N.Nodup){i j:Nat}{x:Str}(a:N[i]? =some x)(b:N[j]? =some x):i=j:=by
 let⟨h1,e1⟩:=Pw.mp a
 let⟨h2,e2⟩:=Pw.mp b
 exact(List.getElem_inj hN).mp (e1.trans e2.symm)
def uy{M:Model}{A:Around}{E:@B_}{i:Nat}{x:Str}{v:V}{u:Value}{Q:Unit->Shared->Prop}(I:@At)(hN:X.N.Nodup)(hi:X.N[i]? =some x)(hx:Loc X.env.scope x)(r:RelV v u)
  (h:∀s',Inv X pins (σ.set i (some v)) H s'->(∃a,Heap.SameBut a s.heap s'.heap/\(a=X.env.locals\/X.env.cells.lookup x=some a))->Q () s') (hf:X.fn x=true\/X.env.scope.names.lookup x=some .local:=by first|exact .inl rfl|exact .inr rfl|assumption):wpAny M A (storeName X.env x u) Q E s:=by
 let⟨m,hn,hl⟩:=id I.loc
 have hcls:(X.env.scope.kind==.class||(X.env.scope.kind==.module&&X.env.locals != X.env.globals))=false:=by rw[I.ok.kind];rfl
 have hiσ:i<σ.length:=by rw[I.len];exact(Pw.mp hi).1
 have cne:=I.cne
 have tracked:∀{a:Addr} {h':Heap},(∃o,s.heap.get? a=some o/\H a=none)->Heap.SameBut a s.heap h'->lO X.prog X.w H h':=λ{a h'} ha hs b ob e=>by
  let⟨_,_,hfree⟩:=ha
  refine(I.hok b ob e).stay (λc w' hc q=>(hs.2 c ?_).trans q) (λ_ q=>q) λ_ _ q=>q
  rintro rfl
  rcases hc with rfl|hc
  .rw[hfree]at e;cases e
  .rw[hfree]at hc;cases hc
 rcases hx with hk|hk
 .refine wpAny_storeName_local hk hn (λh' hn' hs=>?_) hcls
  let⟨oL,_,_,hoL,_⟩:=id hn
  refine h _ ⟨I.ok,I.os,I.bare,⟨λb o e n hb hx=>?_,λb o e n hb hx=>?_,I.base.free,λb o e hx=>?_,I.base.tups,I.base.frzs,I.base.tbls⟩,⟨_,hn',λj y v' e1 e2 e3=>?_⟩,λy c e=>?_,I.free,I.freeC,λp hp=>?_,tracked ⟨oL,hoL,I.free⟩ hs,by simpa using I.len⟩ ⟨_,hs,.inl rfl⟩
  .exact (hs.2 b (P4 (Qa (Po e) I.ok.above))).trans (I.base.keep b o e n hb hx)
  .let⟨sl,e1⟩:=I.base.slot b o e n hb hx
   exact⟨sl,(hs.2 b (P4 (Qa (Po e) I.ok.above))).trans e1⟩
  .let⟨o',e1⟩:=I.base.there b o e hx
   exact⟨o',(hs.2 b (P4 (Qa (Po e) I.ok.above))).trans e1⟩
  .by_cases hj:j=i
   .subst hj
    rw[hi]at e1;cases e1
    rw[PQ hiσ]at e2
    cases e2
    exact⟨u,r,.inl ⟨hk,by simp⟩⟩
   .rw[PH (Ne.symm hj)]at e2
    let⟨u',r',q⟩:=hl j y v' e1 e2 e3
    refine⟨u',r',?_⟩
    rcases q with⟨k,e⟩|⟨k,c,e,z⟩
    .refine .inl ⟨k,?_⟩
     have:y≠x:=λe=>hj (yu hN e1 (e▸hi))
     simp[this,e]
    .exact .inr ⟨k,c,e,z.sameBut hs (cne y c e)⟩
  .let⟨w',z⟩:=I.cell y c e
   exact⟨w',z.sameBut hs (cne y c e)⟩
  .let⟨e,n,ne,nf,d⟩:=I.pin p hp
   exact⟨(hs.2 p.1 ne).trans e,n,ne,nf,d⟩
 .have hfn:X.fn x=true:=by
   rcases hf with z|z
   .exact z
   .rw[z]at hk;cases hk
  let⟨c,hc⟩:=I.ok.has x (.inl hk)
  let⟨w',z⟩:=I.cell x c hc
  refine wpAny_storeName_cell I.ok.kind hk hc z (λh' hc' hs=>?_)
  let⟨oc,hoc,hocd⟩:=id z
  refine h {s with heap:=h'} ⟨I.ok,I.os,I.bare,⟨λb o e n hb hx=>?_,λb o e n hb hx=>?_,I.base.free,λb o e hx=>?_,I.base.tups,I.base.frzs,I.base.tbls⟩,⟨m,hn.sameBut hs (Ne.symm (cne x c hc)),λj y v' e1 e2 e3=>?_⟩,λy c' e=>?_,I.free,I.freeC,λp hp=>?_,tracked ⟨oc,hoc,I.freeC x c hc⟩ hs,by simpa using I.len⟩ ⟨c,hs,.inr hc⟩
  .exact (hs.2 b (P4 (Qa (Po e) (I.ok.cab x c hfn hc)))).trans (I.base.keep b o e n hb hx)
  .let⟨sl,e1⟩:=I.base.slot b o e n hb hx
   exact⟨sl,(hs.2 b (P4 (Qa (Po e) (I.ok.cab x c hfn hc)))).trans e1⟩
  .let⟨o',e1⟩:=I.base.there b o e hx
   exact⟨o',(hs.2 b (P4 (Qa (Po e) (I.ok.cab x c hfn hc)))).trans e1⟩
  .by_cases hj:j=i
   .subst hj
    rw[hi]at e1;cases e1
    rw[PQ hiσ]at e2
    cases e2
    exact⟨u,r,.inr ⟨.inl hk,c,hc,hc'⟩⟩
   .rw[PH (Ne.symm hj)]at e2
    let⟨u',r',q⟩:=hl j y v' e1 e2 e3
    refine⟨u',r',?_⟩
    rcases q with q|⟨k,c',e,z'⟩
    .exact .inl q
    .refine .inr ⟨k,c',e,z'.sameBut hs ?_⟩
     rintro rfl
     exact hj (yu hN e1 (I.ok.inj _ _ _ e hc▸hi))
  .by_cases hcc:c'=c
   .subst hcc;exact⟨_,hc'⟩
   .let⟨w2,z2⟩:=I.cell y c' e
    exact⟨w2,z2.sameBut hs hcc⟩
  .let⟨e,n,ne,nf,d⟩:=I.pin p hp
   refine⟨(hs.2 p.1 ?_).trans e,n,ne,nf,d⟩
   intro q
   rw[q,hoc]at e
   have q':oc=p.2:=Option.some.inj e
   exact d w' (by rw[<-q'];exact hocd)
def xB{M:Model}{A:Around}{E:@B_}{i:Nat}{x:Str}{v:V}{u:Value}{Q:Unit->Shared->Prop}(I:@At)(hN:X.N.Nodup)(hi:X.N[i]? =some x)(hx:Loc X.env.scope x)(r:RelV v u)
  (h:∀s',Inv X pins (σ.set i (some v)) H s'->Q () s') (hf:X.fn x=true\/X.env.scope.names.lookup x=some .local:=by first|exact .inl rfl|exact .inr rfl|assumption):wpAny M A (storeName X.env x u) Q E s:=
 uy I hN hi hx r (λs' I' _=>h s' I') hf
def Inv.call'{s':Shared}{ch:List Addr}(I:@At)(ho:s'.os=s.os)(u:Un (nH X.stack) ch H H' s.heap s'.heap)(hok:lO X.prog X.w H' s'.heap)(hg:AllBare s'.gens)
  (hch:∀b∈ch,(b∈X.ex\/X.s₀.heap.objs.size<=b)/\b≠X.env.locals/\(∀x c,X.env.cells.lookup x=some c->c≠b)/\∀p∈X.pn++pins,p.1≠b):Inv X pins σ H' s':=by
 let⟨h',g',d',t',o'⟩:=s'
 have e:o'=s.os:=ho
 subst e
 exact I.call u hok hg hch
end
abbrev XK:=Value->Option Addr->Hp->Prop
abbrev St:=List (Option V)
abbrev VK:=V->Hp->Prop
abbrev TE:=St->Hp->VK->Prop
abbrev TT:=St->Hp->(Bool->Hp->Prop)->Prop
abbrev TA:=St->Hp->(List V->Hp->Prop)->Prop
structure Ends where
 nx:St->Hp->Prop
 rt:VK
 bk:St->Hp->Prop:=λ_ _=>False
 ct:St->Hp->Prop:=λ_ _=>False
abbrev TS:=Ends->St->Hp->Prop
def EP(X:Cx)(pins:List (Addr×Obj))(σ:St)(Q:VK)(u:Value)(s':Shared):Prop:=∃v H',Inv X pins σ H' s'/\RelV v u/\Q v H'
def TP(X:Cx)(pins:List (Addr×Obj))(σ:St)(Q:Bool->Hp->Prop)(b:Bool)(s':Shared):Prop:=∃H',Inv X pins σ H' s'/\Q b H'
def AP(X:Cx)(pins:List (Addr×Obj))(σ:St)(Q:List V->Hp->Prop)(us:List Value)(s':Shared):Prop:=∃vs H',Inv X pins σ H' s'/\Vals vs us/\Q vs H'
def SP(X:Cx)(pins:List (Addr×Obj))(D:Ends)(f:Flow)(s':Shared):Prop:=
 match f with
 | .next=>∃σ' H',Inv X pins σ' H' s'/\D.nx σ' H'
 | .brk=>∃σ' H',Inv X pins σ' H' s'/\D.bk σ' H'
 | .cont=>∃σ' H',Inv X pins σ' H' s'/\D.ct σ' H'
 | .ret u=>∃v σ' H',Inv X pins σ' H' s'/\RelV v u/\D.rt v H'
def PE(X:Cx)(e:Expr)(t:TE):Prop:=
 ∀(pins:List (Addr×Obj)) (s:Shared) (σ:St) (H:Hp) (Q:VK),@At->t σ H Q->wpAny (model X.prog X.w) X.A (eval e X.env) (EP X pins σ Q) X.xe s
def PT(X:Cx)(e:Expr)(t:TT):Prop:=
 ∀(pins:List (Addr×Obj)) (s:Shared) (σ:St) (H:Hp) (Q:Bool->Hp->Prop),@At->t σ H Q->wpAny (model X.prog X.w) X.A (isTrue e X.env (eval e X.env)) (TP X pins σ Q) X.xe s
def PW(X:Cx)(e:Expr)(t:TT):Prop:=
 ∀(whole:Sem Value) (pins:List (Addr×Obj)) (s:Shared) (σ:St) (H:Hp) (Q:Bool->Hp->Prop),@At->t σ H Q->wpAny (model X.prog X.w) X.A (isTrue e X.env whole) (TP X pins σ Q) X.xe s
def PW.pt{X:Cx}{e:Expr}{t:TT}(h:PW X e t):PT X e t:=h _
def PA(X:Cx)(es:List Expr)(t:TA):Prop:=
 ∀(pos:Pos) (pins:List (Addr×Obj)) (s:Shared) (σ:St) (H:Hp) (Q:List V->Hp->Prop),@At->t σ H Q->wpAny (model X.prog X.w) X.A (spliced (backTo pos (starEach es X.env))) (AP X pins σ Q) X.xe s
def PS(X:Cx)(st:Stmt)(t:TS):Prop:=
 ∀(pins:List (Addr×Obj)) (s:Shared) (σ:St) (H:Hp) (D:Ends),@At->t D σ H->wpAny (model X.prog X.w) X.A (exec st X.env) (SP X pins D) X.xe s
def ur(X:Cx)(st:List Stmt)(t:TS):Prop:=
 ∀(pins:List (Addr×Obj)) (s:Shared) (σ:St) (H:Hp) (D:Ends),@At->t D σ H->wpAny (model X.prog X.w) X.A (execs st X.env) (SP X pins D) X.xe s
def cn{α:Type}{t:Sem α}{Q Q':α->Shared->Prop}{M:Model}{A:Around}{E:@B_}{s:Shared}(h:wpAny M A t Q E s)(hQ:∀a s,Q a s->Q' a s):wpAny M A t Q' E s:=QQ h hQ λ_ _ x=>x
section
variable {X:Cx}
def bin{a b:Expr}{ta tb:TE}(ha:PE X a ta)(hb:PE X b tb){pins:List (Addr×Obj)}{s:Shared}{σ:St}{H:Hp}{R:V->V->Hp->Prop}(I:@At)(h:ta σ H λx H1=>tb σ H1 λy H2=>R x y H2)
  {α:Type} {Q:α->Shared->Prop} {f:Value->Value->Sem α}
  (hf:∀v u s2 x y H2,Inv X pins σ H2 s2->RelV x v->RelV y u->R x y H2->wpAny (model X.prog X.w) X.A (f v u) Q X.xe s2) :
  wpAny (model X.prog X.w) X.A (eval a X.env) (λv s₁=>wpAny (model X.prog X.w) X.A (eval b X.env) (λu s₂=>wpAny (model X.prog X.w) X.A (f v u) Q X.xe s₂) X.xe s₁) X.xe s:=by
 refine cn (ha pins s σ H _ I h) λv s1 ⟨x,H1,I1,r1,q1⟩=>?_
 exact cn (hb pins s1 σ H1 _ I1 q1) λu s2 ⟨y,H2,I2,r2,q2⟩=>(hf v u s2 x y H2 I2 r1 r2 q2)
def HC(i:Nat):TE:=λσ H Q=>∃v,σ[i]? =some (some v)/\Q v H
def tC(v:V):TE:=λ_ H Q=>Q v H
def g8{i:Nat}{x:Str}{pos:Pos}(hN:X.N[i]? =some x)(hv:yW X.env.scope x)(hd:(x==("__debug__":Str))=false:=by decide)(hcd:(x==("__classdict__":Str))=false:=by decide):PE X (.Name x pos) (HC i):=by
 intro pins s σ H Q I h
 let⟨v,e,h⟩:=h
 let⟨m,hn,hl⟩:=I.loc
 let⟨u,r,l⟩:=hl i x v hN e hv
 have fin:EP X pins σ Q u s:=⟨v,H,I,r,h⟩
 rcases l with⟨hk,hm⟩|⟨hk,c,hc,hcell⟩
 .exact wpAny_Name (wpAny_loadName_local I.ok.kind hk hn hm fin) hd
 .rcases hk with hk|hk
  .exact wpAny_Name (wpAny_loadName_cell I.ok.kind hk hc hcell fin) hd
  .exact wpAny_Name (wpAny_loadName_free I.ok.kind hk hc hcell fin hcd) hd
def yI{i j pos}:PE X (.Constant (.int i) j pos) (tC (.int i)):=λ_ _ _ H _ I h=>wpAny_Constant_int ⟨.int i,H,I.tok _,⟨_,rfl⟩,h⟩
def Bo{b j pos}:PE X (.Constant (.bool b) j pos) (tC (.bl b)):=λ_ _ _ H _ I h=>Constant_bool ⟨.bl b,H,I,rfl,h⟩
def EM{j pos}:PE X (.Constant .none j pos) (tC .non):=λ_ _ _ H _ I h=>Constant_none ⟨.non,H,I,rfl,h⟩
def JF{x j pos}:PE X (.Constant (.str x) j pos) (tC (.str x)):=λ_ _ _ H _ I h=>Calls.Constant_str ⟨.str x,H,I.tok _,⟨_,rfl⟩,h⟩
def Gl(X:Cx)(x:Str):Prop:=X.env.kindOf x=some .globalImplicit
def A1{E:@B_}{pins:List (Addr×Obj)}{s:Shared}{σ:St}{H:Hp}{x:Str}{u:Value}{pos:Pos}{Q:@B_}(I:@At)(hg:Gl X x)(hm:X.mg x=some u)(h:Q u s)
  (hd:(x==("__debug__":Str))=false:=by decide):wpAny (model X.prog X.w) X.A (eval (.Name x pos) X.env) Q E s:=
 Calls.Name_function_global I.ok.kind hg (Calls.loadGlobal_global (by rw[I.ok.glob];exact I.mod.glob.keeps I.bk) hm h) hd
def l4{E:@B_}{pins:List (Addr×Obj)}{s:Shared}{σ:St}{H:Hp}{x:Str}{u:Value}{pos:Pos}{Q:@B_}(I:@At)(hg:Gl X x)(hm:X.mg x=none)(hv:bootBuiltins x=some u)(h:Q u s)
  (hn:x≠"__name__":=by decide) (hd:(x==("__debug__":Str))=false:=by decide):wpAny (model X.prog X.w) X.A (eval (.Name x pos) X.env) Q E s:=by
 let⟨mb,h1,h2⟩:=I.mod.blt
 exact Calls.Name_function_global I.ok.kind hg (Calls.loadGlobal_builtin (by rw[I.ok.glob];exact I.mod.glob.keeps I.bk) hm (by rw[I.ok.blt];exact h1.keeps I.bk) ((h2 x hn).trans hv) h) hd
def Iy{x:Str}{v:V}{u:Value}{pos:Pos}(hg:Gl X x)(hm:X.mg x=some u)(r:RelV v u)(hd:(x==("__debug__":Str))=false:=by decide):PE X (.Name x pos) (tC v):=
 λ_ _ _ H _ I h=>A1 I hg hm ⟨v,H,I,r,h⟩ hd
def GL{x:Str}{v:V}{u:Value}{pos:Pos}(hg:Gl X x)(hm:X.mg x=none)(hv:bootBuiltins x=some u)(r:RelV v u)(hn:x≠"__name__":=by decide)(hd:(x==("__debug__":Str))=false:=by decide):PE X (.Name x pos) (tC v):=
 λ_ _ _ H _ I h=>l4 I hg hm hv ⟨v,H,I,r,h⟩ hn hd
variable {a b:Expr}{ta tb:TE}{pos:Pos}
def PC(X:Cx)(op:CmpOp)(a b:Expr)(t:TE):Prop:=
 ∀(pins:List (Addr×Obj)) (s:Shared) (σ:St) (H:Hp) (Q:VK),@At->t σ H Q->
  wpAny (model X.prog X.w) X.A (eval a X.env) (λv s₁=>wpAny (model X.prog X.w) X.A (eval b X.env) (λu s₂=>wpAny (model X.prog X.w) X.A (compareOp op v u) (EP X pins σ Q) X.xe s₂) X.xe s₁) X.xe s
def Fb(b:Expr){op:CmpOp}(h:op≠.In)(h2:op≠.NotIn):behindInMarks op b=false:=by
 have e1:(op==CmpOp.In)=false:=by cases op<;>first|rfl|exact absurd rfl h
 have e2:(op==CmpOp.NotIn)=false:=by cases op<;>first|rfl|exact absurd rfl h2
 cases b<;>simp[behindInMarks,e1,e2]
def Nw(ta:TE):TE:=λσ H Q=>ta σ H λx H1=>Q (.bl (decide (x=.non))) H1
def LJ(ta:TE):TE:=λσ H Q=>ta σ H λx H1=>Q (.bl (!decide (x=.non))) H1
theorem RelV.none_iff{x:V}{v:Value}(r:RelV x v):(v==Value.none)=decide (x=.non):=by
 cases x with
 |non=>cases r;rfl
 |bl _=>cases r;rfl
 |int _=>obtain⟨t,rfl⟩:=r;rfl
 |str _=>obtain⟨t,rfl⟩:=r;rfl
 |byt _=>obtain⟨t,rfl⟩:=r;rfl
 |flt _=>obtain⟨t,rfl⟩:=r;rfl
 |ref _=>cases r;rfl
 |ty _=>cases r;rfl
def J0{j pos'}(ha:PE X a ta):PC X .Is a (.Constant .none j pos') (Nw ta):=by
 intro pins s σ H Q I h
 refine cn (ha pins s σ H _ I h) λv s1 ⟨x,H1,I1,r1,q1⟩=>?_
 exact Constant_none (is_none_gen ⟨.bl _,H1,I1,by rw[r1.none_iff];rfl,q1⟩)
def Ga{j pos'}(ha:PE X a ta):PC X .IsNot a (.Constant .none j pos') (LJ ta):=by
 intro pins s σ H Q I h
 refine cn (ha pins s σ H _ I h) λv s1 ⟨x,H1,I1,r1,q1⟩=>?_
 exact Constant_none (isnot_none_gen ⟨.bl _,H1,I1,by rw[r1.none_iff];rfl,q1⟩)
def tB(t:TE):TT:=λσ H Q=>t σ H λx H1=>∃c,x=.bl c/\Q c H1
def Fg{op:CmpOp}{t:TE}(h:PC X op a b t)(h1:behindInMarks op b=false:=by first|exact Fb _ @A_ @A_|rfl):PT X (.Compare a [op] [b] pos) (tB t):=by
 intro pins s σ H Q I hw
 refine wpAny_isTrue_Compare1 (cn (h pins s σ H _ I hw) λv s1 h1=>cn h1 λu s2 h2=>cn h2 λc s3 ⟨x,H1,I1,r1,q1⟩=>?_) h1
 obtain⟨d,rfl,q⟩:=q1
 cases r1
 exact Q6 ⟨H1,I1,q⟩
def zH{e:Expr}{t:TE}(h:PE X e t)(he:∀whole,isTrue e X.env whole=(do let v <-whole;standAt e.pos;holding [v] (truthy v)):=by intro _;rfl):PT X e (tB t):=by
 intro pins s σ H Q I hw
 refine isTrue_plain (cn (h pins s σ H _ I hw) λv s1 ⟨x,H1,I1,r1,q1⟩=>?_) (he _)
 obtain⟨d,rfl,q⟩:=q1
 cases r1
 exact Q6 ⟨H1,I1,q⟩
variable {tA tB':TT}{rest:List Expr}
def Nt(t u:TT):TT:=λσ H Q=>t σ H λc H1=>if c=true then u σ H1 Q else Q false H1
def OY(t u:TT):TT:=λσ H Q=>t σ H λc H1=>if c=true then Q true H1 else u σ H1 Q
def NT(t:TT):TT:=λσ H Q=>t σ H λc H1=>Q (!c) H1
theorem AN(ha:PT X a tA):PW X (.BoolOp .And [a] pos) tA:=by
 intro wh pins s σ H Q I h
 refine isTrue_and (cn (ha pins s σ H Q I h) λc s1 e=>?_)
 cases c with
 |true=>exact isTrue_and_nil e
 |false=>exact e
theorem KC(ha:PT X a tA):PW X (.BoolOp .Or [a] pos) tA:=by
 intro wh pins s σ H Q I h
 refine isTrue_or (cn (ha pins s σ H Q I h) λc s1 e=>?_)
 cases c with
 |false=>exact isTrue_or_nil e
 |true=>exact e
theorem Ej(ha:PT X a tA)(hb:PW X (.BoolOp .And (b::rest) pos) tB'):PW X (.BoolOp .And (a::b::rest) pos) (Nt tA tB'):=by
 intro wh pins s σ H Q I h
 refine isTrue_and (cn (ha pins s σ H _ I h) λc s1 ⟨H1,I1,q1⟩=>?_)
 cases c with
 |true=>exact hb wh pins s1 σ H1 Q I1 q1
 |false=>exact⟨H1,I1,q1⟩
theorem Mf(ha:PT X a tA)(hb:PW X (.BoolOp .Or (b::rest) pos) tB'):PW X (.BoolOp .Or (a::b::rest) pos) (OY tA tB'):=by
 intro wh pins s σ H Q I h
 refine isTrue_or (cn (ha pins s σ H _ I h) λc s1 ⟨H1,I1,q1⟩=>?_)
 cases c with
 |true=>exact⟨H1,I1,q1⟩
 |false=>exact hb wh pins s1 σ H1 Q I1 q1
def Kw(ha:PT X a tA):PT X (.UnaryOp .Not a pos) (NT tA):=by
 intro pins s σ H Q I h
 exact isTrue_not (ha pins s σ H (λc H1=>Q (!c) H1) I h)
def LK(ta tb:TE):TE:=λσ H Q=>ta σ H λx H1=>∃c,x=.bl c/\if c=true then tb σ H1 Q else Q (.bl false) H1
def LM(ta:TE):TE:=λσ H Q=>ta σ H λx H1=>∃c,x=.bl c/\Q (.bl (!c)) H1
def Kg{op}{t:TE}(h:PE X a t):PE X (.BoolOp op [a] pos) t:=λpins s σ H Q I hw=>BoolOp_one (h pins s σ H Q I hw)
theorem K0(ha:PE X a ta)(hb:PE X (.BoolOp .And (b::rest) pos) tb):PE X (.BoolOp .And (a::b::rest) pos) (LK ta tb):=by
 intro pins s σ H Q I h
 refine BoolOp_and (cn (ha pins s σ H _ I h) λv s1 ⟨x,H1,I1,r1,q1⟩=>?_)
 obtain⟨c,rfl,q1⟩:=q1
 cases r1
 refine Q6 ?_
 cases c with
 |true=>exact hb pins s1 σ H1 Q I1 q1
 |false=>exact⟨.bl false,H1,I1,rfl,q1⟩
def KZ(ha:PE X a ta):PE X (.UnaryOp .Not a pos) (LM ta):=by
 intro pins s σ H Q I h
 refine UnaryOp_ (cn (ha pins s σ H _ I h) λv s1 ⟨x,H1,I1,r1,q1⟩=>?_)
 obtain⟨c,rfl,q1⟩:=q1
 cases r1
 exact not_of (Q6 ⟨.bl (!c),H1,I1,rfl,q1⟩)
end
def fU(K:Frag)(H:Hp)(a:Addr)(xs:List V):Prop:=
 Rd H a (.lst xs)\/
  ∃(o:Obj) (its:Array Value) (n:Nat),K.lookup a=some o/\o.cls=.type "list"/\o.dict=none/\o.data=.seq its n/\its.size<=sizeLine/\Vals xs its.toList
def fu(K:Frag)(H:Hp)(a:Addr)(xs:List V):Prop:=
 Rd H a (.tup xs)\/
  ∃(o:Obj) (its:Array Value) (n:Nat),K.lookup a=some o/\o.cls=.type "tuple"/\o.data=.seq its n/\its.size<=sizeLine/\Vals xs its.toList/\o.dict=none
def NG:Value->Option V
 | .none=>some .non
 | .bool b=>some (.bl b)
 | .int i _=>some (.int i)
 | .str x _=>some (.str x)
 | .bytes b _=>some (.byt b)
 | .float b _=>some (.flt b)
 | .ref a=>some (.ref a)
 | .type n=>some (.ty n)
 |_=>none
theorem RelV.abs{x:V}{u:Value}(r:RelV x u):NG u=some x:=by
 cases x with
 |non=>cases r;rfl
 |bl _=>cases r;rfl
 |int _=>obtain⟨t,rfl⟩:=r;rfl
 |str _=>obtain⟨t,rfl⟩:=r;rfl
 |byt _=>obtain⟨t,rfl⟩:=r;rfl
 |flt _=>obtain⟨t,rfl⟩:=r;rfl
 |ref _=>cases r;rfl
 |ty _=>cases r;rfl
def RelV.inj{x y:V}{u:Value}(r:RelV x u)(q:RelV y u):x=y:=Option.some.inj (r.abs.symm.trans q.abs)
theorem Vals.inj:∀{xs ys:List V} {us:List Value},Vals xs us->Vals ys us->xs=ys
 |_,_,_,.nil,.nil=>rfl
 |_,_,_,.cons r t,.cons r' t'=>by rw[r.inj r',Vals.inj t t']
section
variable {X:Cx}{pins:List (Addr×Obj)}{σ:St}{H:Hp}{s:Shared}{a:Addr}{xs ys:List V}
def Inv.list(I:@At)(h:fU X.K H a xs):∃its:List Value,Vals xs its/\PlainL s.heap a its.toArray/\xs.length<=sizeLine:=by
 rcases h with h|⟨o,its,n,hk,hc,hd,hs,hz,r⟩
 .let⟨z,its,n,r,e⟩:=h.ok I.hok
  exact⟨its,r,⟨_,n,e,rfl,rfl,rfl⟩,z⟩
 .refine⟨its.toList,r,⟨o,n,I.kIn a o hk,hc,hd,by simpa using hs⟩,?_⟩
  have e:=r.length
  simp only[R0]at e
  omega
def Inv.tuple(I:@At)(h:fu X.K H a xs):∃its:List Value,Vals xs its/\IsTup s.heap a its.toArray/\xs.length<=sizeLine:=by
 rcases h with h|⟨o,its,n,hk,hc,hs,hz,r,_⟩
 .let⟨z,its,r,p⟩:=h.ok I.hok
  exact⟨its,r,p.isTup,z⟩
 .refine⟨its.toList,r,⟨o,I.kIn a o hk,hc,n,by simpa using hs⟩,?_⟩
  have e:=r.length
  simp only[R0]at e
  omega
def Inv.list_inj(I:@At)(h:fU X.K H a xs)(h':fU X.K H a ys):xs=ys:=by
 let⟨its,r,⟨o,n,e,_,_,d⟩,_⟩:=I.list h
 let⟨its',r',⟨o',n',e',_,_,d'⟩,_⟩:=I.list h'
 rw[e]at e';cases e'
 rw[d]at d'
 injection d' with d1 _
 have:its=its':=by simpa using congrArg Array.toList d1
 subst this
 exact r.inj r'
def Inv.tuple_inj(I:@At)(h:fu X.K H a xs)(h':fu X.K H a ys):xs=ys:=by
 let⟨its,r,⟨o,e,_,n,d⟩,_⟩:=I.tuple h
 let⟨its',r',⟨o',e',_,n',d'⟩,_⟩:=I.tuple h'
 rw[e]at e';cases e'
 rw[d]at d'
 injection d' with d1 _
 have:its=its':=by simpa using congrArg Array.toList d1
 subst this
 exact r.inj r'
end
abbrev Cx.wish(X:Cx)(E:@B_):Cx:={X with xe:=E}
abbrev Cx.nox(X:Cx):Cx:=X.wish λ_ _=>False
def Cx.Ok.wish{X:Cx}(ok:X.Ok)(E:@B_):(X.wish E).Ok:=
 ⟨ok.mod,ok.kind,ok.glob,ok.blt,ok.above,ok.inj,ok.has,ok.cab,ok.hd,ok.frames,ok.stk,ok.exf,ok.bs,ok.bsz,ok.noex,ok.exfs,ok.funs,ok.frf⟩
def Cx.Ok.unwish{X:Cx}{E:@B_}(ok:(X.wish E).Ok):X.Ok:=
 ⟨ok.mod,ok.kind,ok.glob,ok.blt,ok.above,ok.inj,ok.has,ok.cab,ok.hd,ok.frames,ok.stk,ok.exf,ok.bs,ok.bsz,ok.noex,ok.exfs,ok.funs,ok.frf⟩
section
variable {X:Cx}{pins:List (Addr×Obj)}{σ:St}{H:Hp}{s:Shared}{E:@B_}
def Inv.wish(I:@At)(E:@B_):Inv (X.wish E) pins σ H s:=⟨I.ok.wish E,I.os,I.bare,I.base,I.loc,I.cell,I.free,I.freeC,I.pin,I.hok,I.len⟩
def Inv.unwish(I:Inv (X.wish E) pins σ H s):@At:=⟨I.ok.unwish,I.os,I.bare,I.base,I.loc,I.cell,I.free,I.freeC,I.pin,I.hok,I.len⟩
theorem SP.unwish{D:Ends}{f:Flow}{s':Shared}(h:SP (X.wish E) pins D f s'):SP X pins D f s':=by
 cases f with
 |next=>let⟨σ',H',I,q⟩:=h;exact⟨σ',H',I.unwish,q⟩
 |brk=>let⟨σ',H',I,q⟩:=h;exact⟨σ',H',I.unwish,q⟩
 |cont=>let⟨σ',H',I,q⟩:=h;exact⟨σ',H',I.unwish,q⟩
 |ret u=>let⟨v,σ',H',I,r,q⟩:=h;exact⟨v,σ',H',I.unwish,r,q⟩
def ur.nox{st:List Stmt}{t:TS}(h:ur X.nox st t):ur X st t:=λpins s σ H D I hw=>
 QQ (h pins s σ H D (I.wish _) hw) (λ_ _ q=>q.unwish) λ_ _ z=>False.elim z
end
section
variable {X:Cx}{st:Stmt}{rest:List Stmt}{t u:TS}{e:Expr}{te:TE}{pos:Pos}
def MN:TS:=λD σ H=>D.nx σ H
def Ou(t u:TS):TS:=λD σ H=>t {D with nx:=u D} σ H
def Aw:ur X [] MN:=λ_ _ σ H _ I h=>wpAny_execs_nil ⟨σ,H,I,h⟩
theorem iO(h1:PS X st t)(h2:ur X rest u):ur X (st::rest) (Ou t u):=by
 intro pins s σ H D I h
 refine wpAny_execs_cons (cn (h1 pins s σ H {D with nx:=u D} I h) λf s1 q=>?_)
 cases f with
 |next=>
  let⟨σ',H',I',q⟩:=q
  exact h2 pins s1 σ' H' D I' q
 |ret v=>exact q
 |brk=>exact q
 |cont=>exact q
theorem jf(h1:PS X st t):ur X [st] t:=by
 intro pins s σ H D I h
 refine wpAny_execs_cons (cn (h1 pins s σ H D I h) λf s1 q=>?_)
 cases f with
 |next=>exact wpAny_execs_nil q
 |ret v=>exact q
 |brk=>exact q
 |cont=>exact q
def Inv.quiet{pins:List (Addr×Obj)}{σ:St}{H:Hp}{s:Shared}(I:@At):interactive X.env=false:=by simp[interactive,I.ok.kind]
def MA(te:TE):TS:=λD σ H=>te σ H λ_ H1=>D.nx σ H1
def qd(he:PE X e te)(hs:swapsWith e none pos.line X.env=pure false:=by rfl):PS X (.Expr e pos) (MA te):=by
 intro pins s σ H D I h
 exact wpAny_Expr_any (cn (he pins s σ H _ I h) λv s1 ⟨x,H1,I1,r1,q1⟩=>⟨σ,H1,I1,q1⟩) I.quiet hs
def NH(te:TE):TS:=λD σ H=>te σ H D.rt
def oU(he:PE X e te):PS X (.Return (some e) pos) (NH te):=by
 intro pins s σ H D I h
 exact wpAny_Return_some (cn (he pins s σ H _ I h) λv s1 ⟨x,H1,I1,r1,q1⟩=>⟨x,σ,H1,I1,r1,q1⟩)
def Np(c:TT)(t u:TS):TS:=λD σ H=>c σ H λb H1=>if b=true then t D σ H1 else u D σ H1
theorem Je{c:Expr}{a b:List Stmt}{tc:TT}(hc:PT X c tc)(ha:ur X a t)(hb:ur X b u):PS X (.If c a b pos) (Np tc t u):=by
 intro pins s σ H D I h
 refine wpAny_If (cn (hc pins s σ H _ I h) λd s1 ⟨H1,I1,q1⟩=>?_)
 cases d with
 |true=>exact ha pins s1 σ H1 D I1 q1
 |false=>exact hb pins s1 σ H1 D I1 q1
end
abbrev TG:=V->St->Hp->(St->Hp->Prop)->Prop
abbrev Jq:=List V->St->Hp->(St->Hp->Prop)->Prop
def PG(X:Cx)(target:Expr)(t:TG):Prop:=
 ∀(pins:List (Addr×Obj)) (s:Shared) (σ:St) (H:Hp) (v:V) (u:Value) (Q:St->Hp->Prop),@At->RelV v u->t v σ H Q->
  wpAny (model X.prog X.w) X.A (assign target X.env u) (λ_ s'=>∃σ' H',Inv X pins σ' H' s'/\Q σ' H') X.xe s
def M5(X:Cx)(ts:List Expr)(t:Jq):Prop:=
 ∀(pins:List (Addr×Obj)) (s:Shared) (σ:St) (H:Hp) (vs:List V) (us:List Value) (Q:St->Hp->Prop),@At->Vals vs us->t vs σ H Q->
  wpAny (model X.prog X.w) X.A (assignInOrder ((assignEach ts X.env).map (·.2)) us) (λ_ s'=>∃σ' H',Inv X pins σ' H' s'/\Q σ' H') X.xe s
abbrev Kq:=V->V->V->Hp->(Hp->Prop)->Prop
def wa(X:Cx)(t:Kq):Prop:=
 ∀(pins:List (Addr×Obj)) (s:Shared) (σ:St) (H:Hp) (o i v:V) (ov iv u:Value) (Q:Hp->Prop),@At->RelV o ov->RelV i iv->RelV v u->t o i v H Q->
  wpAny (model X.prog X.w) X.A (setItem ov iv u) (λ_ s'=>∃H',Inv X pins σ H' s'/\Q H') X.xe s
section
variable {X:Cx}{pos:Pos}
def mN(i:Nat):TG:=λv σ H Q=>Q (σ.set i (some v)) H
def c6{i:Nat}{x:Str}(hN:X.N.Nodup)(hi:X.N[i]? =some x)(hx:Loc X.env.scope x)(hf:X.fn x=true\/X.env.scope.names.lookup x=some .local:=by first|exact .inl rfl|exact .inr rfl|assumption):PG X (.Name x pos) (mN i):=by
 intro pins s σ H v u Q I r h
 exact wpAny_assign_Name (xB I hN hi hx r (λs' I'=>⟨_,H,I',h⟩) hf)
def G9:Jq:=λvs σ H Q=>vs= []/\Q σ H
def qH(t:TG)(u:Jq):Jq:=λvs σ H Q=>∃v r,vs=v::r/\t v σ H λσ' H'=>u r σ' H' Q
def nK:M5 X [] G9:=by
 intro pins s σ H vs us Q I r h
 obtain⟨e,h⟩:=h
 subst e
 cases r
 exact assignInOrder_nil ⟨σ,H,I,h⟩
theorem eY{e:Expr}{es:List Expr}{t:TG}{u:Jq}(h1:PG X e t)(h2:M5 X es u)
  (hs:(assignEach (e::es) X.env).map (·.2)=assign e X.env::(assignEach es X.env).map (·.2):=by rfl):M5 X (e::es) (qH t u):=by
 intro pins s σ H vs us Q I r h
 obtain⟨v,vr,e1,h⟩:=h
 subst e1
 cases r with
 |cons r rr=>
  rw[hs]
  exact assignInOrder_cons (cn (h1 pins s σ H _ _ _ I r h) λ_ s1 ⟨σ1,H1,I1,q1⟩=>(h2 pins s1 σ1 H1 _ _ Q I1 rr q1))
def Ij(K:Frag)(n:Nat)(t:Jq):TG:=λv σ H Q=>∃a xs,v=.ref a/\fu K H a xs/\xs.length=n/\t xs σ H Q
def rL{es:List Expr}{k:Nat}{t:Jq}{n:Nat}(hc:X.calm=true)(h:M5 X es t)
  (hn:(assignEach es X.env).length=n:=by rfl) (hst:(assignEach es X.env).findIdx? (·.1)=none:=by rfl):PG X (.Tuple es k pos) (Ij X.K n t):=by
 intro pins s σ H v u Q I r hw
 obtain⟨a,xs,e1,hq,hl,hw⟩:=hw
 subst e1
 cases r
 let⟨its,rv,ht,hz⟩:=I.tuple hq
 refine assign_Tuple_tuple (I.ok.hd hc) ht (by simp[hn,<-hl,rv.length]) hst λh' hx=>?_
 have I1:Inv X pins σ H {s with heap:=h'}:=I.kept λb o e=>hx b o (P4 (Po e)) e
 exact h pins _ σ H xs _ Q I1 (by simpa using rv) hw
def NJ(to ti:TE)(t:Kq):TG:=λv σ H Q=>to σ H λo H1=>ti σ H1 λi H2=>t o i v H2 λH3=>Q σ H3
def vd{o i:Expr}{to ti:TE}{t:Kq}(ho:PE X o to)(hi:PE X i ti)(hs:wa X t)
  (ha:∀v,assign (.Subscript o i pos) X.env v=(do
   let ov <-holding [v] (eval o X.env)
   let iv <-holding [v,ov] (eval i X.env)
   standAt pos
   holding [v,ov,iv] (setItem ov iv v)
   release [v,ov,iv] []):=by intro _;rfl):PG X (.Subscript o i pos) (NJ to ti t):=by
 intro pins s σ H v u Q I r h
 rw[ha]
 refine O8 (Qc (cn (ho pins s σ H _ I h) λov s1 ⟨x,H1,I1,r1,q1⟩=>(O8 (Qc (cn (hi pins s1 σ H1 _ I1 q1) λiv s2 ⟨y,H2,I2,r2,q2⟩=>?_)))))
 exact O8 (wpAny_standAt (O8 (Qc (cn (hs pins s2 σ H2 x y v ov iv u _ I2 r1 r2 r q2) λ_ s3 ⟨H3,I3,q3⟩=>(wpAny_release ⟨σ,H3,I3,q3⟩)))))
def L4(te:TE)(g:TG):TS:=λD σ H=>te σ H λx H1=>g x σ H1 D.nx
def rX{tg e:Expr}{te:TE}{g:TG}(he:PE X e te)(hg:PG X tg g)(hs:swapsWithSole [tg] e pos.line X.env=pure false:=by rfl)(hw:swappedStores [tg] e X.env=pure none:=by rfl)
  (h1:(assignEach [tg] X.env).map (·.2)= [assign tg X.env]:=by rfl):PS X (.Assign [tg] e pos) (L4 te g):=by
 intro pins s σ H D I h
 refine wpAny_Assign_stores (cn (he pins s σ H _ I h) λv s1 ⟨x,H1,I1,r1,q1⟩=>?_) hs hw
 rw[h1]
 exact cn (hg pins s1 σ H1 x v _ I1 r1 q1) λ_ s2 q=>q
def rM{i:Nat}{x:Str}{e:Expr}{te:TE}{pos':Pos}(hN:X.N.Nodup)(hi:X.N[i]? =some x)(hx:Loc X.env.scope x)(he:PE X e te)(hs:swapsWith e (some (.Name x pos')) pos.line X.env=pure false:=by rfl)(hf:X.fn x=true\/X.env.scope.names.lookup x=some .local:=by first|exact .inl rfl|exact .inr rfl|assumption) :
  PS X (.Assign [.Name x pos'] e pos) (L4 te (mN i)):=by
 intro pins s σ H D I h
 exact wpAny_Assign_Name (cn (he pins s σ H _ I h) λv s1 ⟨y,H1,I1,r1,q1⟩=>(xB I1 hN hi hx r1 (λs2 I2=>⟨_,H1,I2,q1⟩) hf)) hs
end
section
variable {X:Cx}{pos:Pos}
def Kv(c:TT)(tb:TS):TS:=λD σ H=>∃W:Nat->St->Hp->Prop,(∃m,W m σ H)/\∀m σ H,W m σ H->
 c σ H λb H1=>if b=true then ∃N:St->Hp->Prop,(∀σ' H',N σ' H'->∃m',m'<m/\W m' σ' H')/\tb {D with nx:=N,ct:=N,bk:=D.nx} σ H1 else D.nx σ H1
theorem EK{c:Expr}{body:List Stmt}{tc:TT}{tb:TS}(hp:PassesOwn (model X.prog X.w) X.A X.env X.xe)(hc:PT X c tc)(hb:ur X body tb):PS X (.While c body [] pos) (Kv tc tb):=by
 intro pins s σ H D I h
 let⟨W,⟨m0,w0⟩,turn⟩:=h
 refine wpAny_While (codeAny_whileLoop (λn s'=>∃σ' H',Inv X pins σ' H' s'/\W n σ' H') ?_ m0 ⟨σ,H,I,w0⟩)
 rintro n s1 ⟨σ1,H1,I1,w1⟩
 refine RC hp (cn (hc pins s1 σ1 H1 _ I1 (turn n σ1 H1 w1)) λb s2 ⟨H2,I2,q2⟩=>?_)
 cases b with
 |true=>
  let⟨N,hN,q2⟩:=q2
  rw[Pe rfl]
  refine RC hp (cn (hb pins s2 σ1 H2 _ I2 q2) λf s3 q3=>?_)
  cases f with
  |next=>
   let⟨σ3,H3,I3,n3⟩:=q3
   let⟨m',hm,w3⟩:=hN σ3 H3 n3
   exact⟨m',hm,σ3,H3,I3,w3⟩
  |cont=>
   let⟨σ3,H3,I3,n3⟩:=q3
   let⟨m',hm,w3⟩:=hN σ3 H3 n3
   exact⟨m',hm,σ3,H3,I3,w3⟩
  |brk=>exact q3
  |ret v=>exact q3
 |false=>
  rw[Pg PZ]
  exact wpAny_execs_nil ⟨σ1,H2,I2,q2⟩
end
structure It where
 go:Nat->Hp->Prop
 yld:Nat->Hp->V->Hp->Prop
 stop:Nat->Hp->Prop
def ng(X:Cx)(pins:List (Addr×Obj))(H:Hp)(b:Addr):Prop:=
 H b=none/\b≠X.env.locals/\b∉X.fs/\(b∈X.ex\/X.s₀.heap.objs.size<=b)/\(∀x c,X.env.cells.lookup x=some c->c≠b)/\∀p∈X.pn++pins,p.1≠b
def Inv.fpOk{X:Cx}{pins:List (Addr×Obj)}{σ:St}{H H':Hp}{s:Shared}{b:Addr}(I:@At)(hb:s.heap.objs.size<=b)(hn:H' b=none):ng X pins H' b:=by
 refine⟨hn,RS (Qa I.lt hb),I.nofs hb,.inr (Qp I.sz hb),λx c e z=>?_,λp hp z=>?_⟩
 .let⟨v,q⟩:=I.cell x c e
  exact absurd (Qa q.lt (by rw[z];exact hb)) (Qd _)
 .exact absurd (Qa (Po (I.pin p hp).1) (by rw[z];exact hb)) (Qd _)
structure Turn(P:Program)(w:World)(K:Frag)(tg:Expr)(J:It)(fp:List Addr)(it:Addr)(tn:Nat->Heap->Prop):Prop where
 mem:it∈fp
 obj:∀i h,tn i h->∀b∈fp,∃o,h.get? b=some o/\∀v,o.data≠.cell v
 keep:∀i h h',tn i h->(∀b∈fp,∀o,h.get? b=some o->h'.get? b=some o)->tn i h'
 item:∀(X:Cx),X.prog=P->X.w=w->X.K=K->X.calm=true->∀(i:Nat) (pins:List (Addr×Obj)) (s:Shared) (σ:St) (H:Hp) (E:@B_),@At->(∀b∈fp,ng X pins H b)->tn i s.heap->J.go i H->
  wpAny (model P w) X.A (pyNext (.ref it)) (λr s1=>∃u,r=some u/\
   wpAny (model P w) X.A (letOwnedTupleGo tg (.ref it) u) (λ_ s2=>∃x H',Inv X pins σ H' s2/\RelV x u/\J.yld i H x H'/\tn (i+1) s2.heap/\∀b∈fp,H' b=none) E s1) E s
 done:∀(X:Cx),X.prog=P->X.w=w->X.K=K->X.calm=true->∀(i:Nat) (pins:List (Addr×Obj)) (s:Shared) (σ:St) (H:Hp) (E:@B_),@At->(∀b∈fp,ng X pins H b)->tn i s.heap->J.stop i H->
  wpAny (model P w) X.A (pyNext (.ref it)) (λr s1=>r=none/\Inv X pins σ H s1) E s
 self:∀(A:Around) (i:Nat) (s:Shared) (Q:@B_) (E:@B_),tn i s.heap->Q (.ref it) s->wpAny (model P w) A (pyIter (.ref it)) Q E s
abbrev TI:=St->Hp->(It->Hp->Prop)->Prop
def OU(X:Cx)(pins:List (Addr×Obj))(σ:St)(tg:Expr)(R:It->Hp->Prop)(itv:Value)(s2:Shared):Prop:=
 ∃(it:Addr) (fp:List Addr) (tn:Nat->Heap->Prop) (J:It) (H':Hp),itv=.ref it/\Inv X pins σ H' s2/\Turn X.prog X.w X.K tg J fp it tn/\tn 0 s2.heap/\(∀b∈fp,ng X pins H' b)/\R J H'
def PI(X:Cx)(tg iter:Expr)(wi:TI):Prop:=
 ∀(pins:List (Addr×Obj)) (s:Shared) (σ:St) (H:Hp) (R:It->Hp->Prop),@At->wi σ H R->
  wpAny (model X.prog X.w) X.A (eval iter X.env) (λv s1=>wpAny (model X.prog X.w) X.A (pyIter v) (OU X pins σ tg R) X.xe s1) X.xe s
def AL{M:Model}{A:Around}{E:@B_}{s:Shared}{tg:Expr}{it:Addr}{u:Value}{o:Obj}{n:String}{vs:Array Value}{Q:Unit->Shared->Prop}(ho:s.heap.get? it=some o)(hc:o.cls=.type n)(hd:o.data=.fields vs)
  (hn: ["enumerate","zip","dict_itemiterator","dict_reverseitemiterator","odict_iterator","itertools.zip_longest","itertools.pairwise"].contains n=false) (hQ:Q () s):wpAny M A (letOwnedTupleGo tg (.ref it) u) Q E s:=by
 unfold letOwnedTupleGo
 cases tg<;>first
  |exact Pa hQ
  | (cases u<;>first
    |exact Pa hQ
    | (refine O8 (wpAny_load ho ?_)
       rw[hc,hd]
       show wpAny M A (if(["enumerate","zip","dict_itemiterator","dict_reverseitemiterator","odict_iterator","itertools.zip_longest","itertools.pairwise"].contains n&&vs[0]?==some (rawInt _))=true then _ else _) Q E s
       rw[Pg (by intro h;rw[hn,Bool.false_and]at h;cases h)]
       exact Pa hQ))
def CM(K:Frag)(a:Addr):It:=
 ⟨λi H=>∃xs x,fU K H a xs/\xs[i]? =some x,λi H x H'=>H'=H/\∀xs,fU K H a xs->xs[i]? =some x,λi H=>∃xs,fU K H a xs/\xs.length<=i⟩
def Jb(K:Frag)(a:Addr):It:=
 ⟨λi H=>∃xs x,fu K H a xs/\xs[i]? =some x,λi H x H'=>H'=H/\∀xs,fu K H a xs->xs[i]? =some x,λi H=>∃xs,fu K H a xs/\xs.length<=i⟩
def CY(lo:Int)(n:Nat):It:=⟨λi _=>i<n,λi H x H'=>H'=H/\x=.int (lo+i),λi _=>n<=i⟩
def pC{P:Program}{w:World}{K:Frag}{tg:Expr}(a it:Addr):Turn P w K tg (CM K a) [it] it (λi h=>h.IsListIter it a i) where
 mem:=by simp
 obj:=λi h st b hb=>by
  have e:b=it:=by simpa using hb
  subst e
  let⟨o,e,c,d⟩:=st
  exact⟨o,e,λv z=>by rw[d]at z;cases z⟩
 keep:=λi h h' st k=>st.at λo e=>k it (by simp) o e
 item:=by
  intro X hP hw hK hc i pins s σ H E I hf st hg
  subst hP hw hK
  let⟨xs,x,hq,hx⟩:=hg
  let⟨its,rv,p,hz⟩:=I.list hq
  let⟨u,hu,ru⟩:=rv.get hx
  let⟨f0,f1,f2,f3,f4,f5⟩:=hf it (by simp)
  refine wpAny_pyNext_list_item st p.isList (by simpa using hu) λh' st' sb=>?_
  have I1:Inv X pins σ H {s with heap:=h'}:=I.turned (λb o hb e=>(sb.2 b hb).trans e) f0 f1 f3 f4 f5
  let⟨o,e,c,d⟩:=id st'
  exact⟨u,rfl,AL e c d @A_ ⟨x,H,I1,ru,⟨rfl,λys hy=>by rw[I.list_inj hy hq];exact hx⟩,st',λb hb=>(hf b hb).1⟩⟩
 done:=by
  intro X hP hw hK hc i pins s σ H E I hf st hg
  subst hP hw hK
  let⟨xs,hq,hx⟩:=hg
  let⟨its,rv,p,hz⟩:=I.list hq
  let⟨f0,f1,f2,f3,f4,f5⟩:=hf it (by simp)
  have hl:=rv.length
  exact wpAny_pyNext_list_end (I.ok.hd hc) st p.isList (by simp;omega) λh' eb=>⟨rfl,I.turned (λb o hb e=>eb b o hb e) f0 f1 f3 f4 f5⟩
 self:=λ_ _ _ _ _ st h=>wpAny_pyIter_listiter st h
def sF{P:Program}{w:World}{K:Frag}{tg:Expr}(a it:Addr):Turn P w K tg (Jb K a) [it] it (λi h=>h.IsTupleIter it a i) where
 mem:=by simp
 obj:=λi h st b hb=>by
  have e:b=it:=by simpa using hb
  subst e
  let⟨o,e,c,d⟩:=st
  exact⟨o,e,λv z=>by rw[d]at z;cases z⟩
 keep:=λi h h' st k=>st.at λo e=>k it (by simp) o e
 item:=by
  intro X hP hw hK hc i pins s σ H E I hf st hg
  subst hP hw hK
  let⟨xs,x,hq,hx⟩:=hg
  let⟨its,rv,p,hz⟩:=I.tuple hq
  let⟨u,hu,ru⟩:=rv.get hx
  let⟨f0,f1,f2,f3,f4,f5⟩:=hf it (by simp)
  refine wpAny_pyNext_tuple_item st (show s.heap.IsTuple a its.toArray from p) (by simpa using hu) λh' st' sb=>?_
  have I1:Inv X pins σ H {s with heap:=h'}:=I.turned (λb o hb e=>(sb.2 b hb).trans e) f0 f1 f3 f4 f5
  let⟨o,e,c,d⟩:=id st'
  exact⟨u,rfl,AL e c d @A_ ⟨x,H,I1,ru,⟨rfl,λys hy=>by rw[I.tuple_inj hy hq];exact hx⟩,st',λb hb=>(hf b hb).1⟩⟩
 done:=by
  intro X hP hw hK hc i pins s σ H E I hf st hg
  subst hP hw hK
  let⟨xs,hq,hx⟩:=hg
  let⟨its,rv,p,hz⟩:=I.tuple hq
  let⟨f0,f1,f2,f3,f4,f5⟩:=hf it (by simp)
  have hl:=rv.length
  exact wpAny_pyNext_tuple_end (I.ok.hd hc) st (show s.heap.IsTuple a its.toArray from p) (by simp;omega) λh' eb=>⟨rfl,I.turned (λb o hb e=>eb b o hb e) f0 f1 f3 f4 f5⟩
 self:=λ_ _ _ _ _ st h=>wpAny_pyIter_tupleiter st h
def y2{P:Program}{w:World}{K:Frag}{tg:Expr}(it:Addr)(lo:Int)(n:Nat):Turn P w K tg (CY lo n) [it] it (λi h=>IsRangeIter h it (lo+(i:Nat)*1) ((n:Int)-(i:Nat)) 1) where
 mem:=by simp
 obj:=λi h st b hb=>by
  have e:b=it:=by simpa using hb
  subst e
  exact⟨_,st,λv z=>by
   have z':Data.fields _=Data.cell v:=z
   cases z'⟩
 keep:=λi h h' st k=>k it (by simp) _ st
 item:=by
  intro X hP hw hK hc i pins s σ H E I hf st hg
  subst hP hw hK
  let⟨f0,f1,f2,f3,f4,f5⟩:=hf it (by simp)
  have W:=Walks.range (prog:=X.prog) (w:=X.w) (I.ok.hd hc) it lo 1 n
  refine W.item i s _ _ hg st λv h' tk hv st' kk=>?_
  obtain⟨t,rfl⟩:=hv
  have I1:Inv X pins σ H {s with heap:=h',toks:=tk}:=I.turned (λb o hb e=>kk b o (by simpa using hb) e) f0 f1 f3 f4 f5
  refine⟨_,rfl,AL st' rfl rfl @A_ ⟨.int (lo+i),H,I1,⟨t,?_⟩,⟨rfl,rfl⟩,st',λb hb=>(hf b hb).1⟩⟩
  rw[Int.mul_one]
 done:=by
  intro X hP hw hK hc i pins s σ H E I hf st hg
  subst hP hw hK
  let⟨f0,f1,f2,f3,f4,f5⟩:=hf it (by simp)
  exact wpAny_pyNext_range_end (I.ok.hd hc) st (by have:n<=i:=hg;omega) λh' eb=>⟨rfl,I.turned (λb o hb e=>eb b o hb e) f0 f1 f3 f4 f5⟩
 self:=λ_ _ _ _ _ st h=>wpAny_pyIter_rangeiter st h
section
variable {X:Cx}{tg:Expr}
def LR(K:Frag)(tl:TE):TI:=λσ H R=>tl σ H λx H1=>∃a,x=.ref a/\(∃xs,fU K H1 a xs)/\R (CM K a) H1
def AO{l:Expr}{tl:TE}(hl:PE X l tl):PI X tg l (LR X.K tl):=by
 intro pins s σ H R I h
 refine cn (hl pins s σ H _ I h) λv s1 ⟨x,H1,I1,r1,q1⟩=>?_
 let⟨a,e,⟨xs,hq⟩,q⟩:=q1
 subst e
 cases r1
 let⟨its,rv,p,hz⟩:=I1.list hq
 refine RJ p.isList ⟨s1.heap.objs.size,[s1.heap.objs.size],_,_,H1,rfl,I1.kept λb o e=>Pb _ e,pC a _,⟨_,Pl _ rfl,rfl,rfl⟩,λb hb=>?_,q⟩
 have e:b=s1.heap.objs.size:=by simpa using hb
 subst e
 exact I1.fpOk (Pd _) (I1.hok.fresh (Pd _))
def yq{pins:List (Addr×Obj)}{σ:St}{H:Hp}{s:Shared}{R:It->Hp->Prop}{E:@B_}{lo hi:Int}{t u v:Tok}{tk:Nat}(I:@At)(h1: -(2^62)<=lo)(h2:lo<2^62)(h3: -(2^62)<=hi)(h4:hi<2^62)
  (q:R (CY lo (hi-lo).toNat) H):wpAny (model X.prog X.w) X.A (pyIter (.ref s.heap.objs.size)) (OU X pins σ tg R) E {s with heap:=s.heap.push {cls:=.type "range",data:=.fields #[.int lo t,.int hi u,.int 1 v]},toks:=tk}:=by
 refine wpAny_pyIter_range (IsRange.new ..) (small_one h1 h2 h3 h4) ?_
 have I1:Inv X pins σ H {s with heap:=s.heap.push {cls:=.type "range",data:=.fields #[.int lo t,.int hi u,.int 1 v]},toks:=tk}:=I.kept λb o e=>Pb _ e
 refine⟨(s.heap.push {cls:=.type "range",data:=.fields #[.int lo t,.int hi u,.int 1 v]}).objs.size,[(s.heap.push {cls:=.type "range",data:=.fields #[.int lo t,.int hi u,.int 1 v]}).objs.size],_,_,H,rfl,
  I1.kept λb o e=>Pb _ e,y2 _ lo (hi-lo).toNat,?_,λb hb=>?_,q⟩
 .have e1:lo+((0:Nat):Int)*1=lo:=by simp
  have e2:(((hi-lo).toNat:Nat):Int)-((0:Nat):Int)=Builtin.Range.rangeSize lo hi 1:=by rw[rangeSize_one];split<;>omega
  rw[e1,e2]
  exact Pl _ rfl
 .have e:b=(s.heap.push {cls:=.type "range",data:=.fields #[.int lo t,.int hi u,.int 1 v]}).objs.size:=by simpa using hb
  subst e
  exact I1.fpOk (Pd _) (I1.hok.fresh (Pd _))
def Mw(ta:TA):TI:=λσ H R=>ta σ H λvs H1=>∃j:Int,vs= [.int j]/\ -(2^62)<=j/\j<2^62/\R (CY 0 j.toNat) H1
def L6(ta:TA):TI:=λσ H R=>ta σ H λvs H1=>∃i j:Int,vs= [.int i,.int j]/\(-(2^62)<=i/\i<2^62/\ -(2^62)<=j/\j<2^62)/\R (CY i (j-i).toNat) H1
theorem l6{a:Expr}{ta:TA}{p pos:Pos}(hg:Gl X "range")(hm:X.mg "range"=none)(ha:PA X [a] ta)(hs:starEach [a] X.env= [(false,eval a X.env)]:=by rfl):PI X tg (.Call (.Name "range" p) [a] [] pos) (Mw ta):=by
 intro pins s σ H R I h
 refine Call_ (l4 I hg hm boot_range (QO (cn (ha pos pins s σ H _ I h) λus s1 ⟨vs,H1,I1,r1,q1⟩=>?_) hs rfl))
 obtain⟨j,e,q1,q2,q⟩:=q1
 subst e
 cases r1 with
 |cons r rr=>
  cases rr
  obtain⟨t,rfl⟩:=r
  exact call_range_1 (yq I1 (@AT) (@AT) q1 q2 (by simpa using q))
theorem Ca{a b:Expr}{ta:TA}{p pos:Pos}(hg:Gl X "range")(hm:X.mg "range"=none)(ha:PA X [a,b] ta)(hs:starEach [a,b] X.env= [(false,eval a X.env),(false,eval b X.env)]:=by rfl)(hs2:starEach [b] X.env= [(false,eval b X.env)]:=by rfl) :
  PI X tg (.Call (.Name "range" p) [a,b] [] pos) (L6 ta):=by
 intro pins s σ H R I h
 refine Call_ (l4 I hg hm boot_range (QO (cn (ha pos pins s σ H _ I h) λus s1 ⟨vs,H1,I1,r1,q1⟩=>?_) (by rw[hs,hs2]) (by rw[hs2];rfl)))
 obtain⟨i,j,e,⟨q1,q2,q3,q4⟩,q⟩:=q1
 subst e
 cases r1 with
 |cons r rr=>
  cases rr with
  |cons r' rr=>
   cases rr
   obtain⟨t,rfl⟩:=r
   obtain⟨t',rfl⟩:=r'
   exact call_range_2 (yq I1 q1 q2 q3 q4 q)
def Nm(wi:TI)(g:TG)(tb:TS):TS:=λD σ H=>wi σ H λJ H1=>∃W:Nat->Nat->St->Hp->Prop,(∃m,W 0 m σ H1)/\∀i m σ H,W i m σ H->
 (J.stop i H/\D.nx σ H)\/(J.go i H/\∃N:St->Hp->Prop,(∀σ' H',N σ' H'->∃m',m'<m/\W (i+1) m' σ' H')/\∀x H',J.yld i H x H'->g x σ H' λσ2 H2=>tb {D with nx:=N,ct:=N,bk:=D.nx} σ2 H2)
def qN(fp:List Addr)(h:Heap):List (Addr×Obj):=fp.filterMap λb=>(h.get? b).map λo=>(b,o)
def kc{fp:List Addr}{h:Heap}{b:Addr}{o:Obj}(hb:b∈fp)(e:h.get? b=some o):(b,o)∈qN fp h:=R3.mpr ⟨b,hb,by rw[e];rfl⟩
theorem B6{fp:List Addr}{h:Heap}{p:Addr×Obj}(hp:p∈qN fp h):p.1∈fp/\h.get? p.1=some p.2:=by
 let⟨b,hb,e⟩:=R3.mp hp
 cases q:h.get? b with
 |none=>rw[q]at e;cases e
 |some o=>
  rw[q]at e
  have e':(b,o)=p:=Option.some.inj e
  subst e'
  exact⟨hb,q⟩
def Inv.pinned{pins:List (Addr×Obj)}{σ:St}{H:Hp}{s:Shared}{fp:List Addr}(I:@At)(hf:∀b∈fp,ng X pins H b)(ho:∀b∈fp,∃o,s.heap.get? b=some o/\∀v,o.data≠.cell v):Inv X (pins++qN fp s.heap) σ H s:=
 I.pins_of λp hp=>(Pz.mp hp).elim (λz=>I.pin p (P5 _ z)) λz=>by
  let⟨hb,e⟩:=B6 z
  let⟨f0,f1,f2,_⟩:=hf p.1 hb
  let⟨o,e',d⟩:=ho p.1 hb
  rw[e]at e';cases e'
  exact⟨e,f0,f1,f2,d⟩
def Inv.unpinned{pins pl:List (Addr×Obj)}{σ:St}{H:Hp}{s:Shared}(I:Inv X (pins++pl) σ H s):@At:=I.pins_of λp hp=>I.pin p (P5 _ (Qh _ hp))
def vB{iter:Expr}{body:List Stmt}{wi:TI}{g:TG}{tb:TS}{pos:Pos}(hp:PassesOwn (model X.prog X.w) X.A X.env X.xe)(hc:X.calm=true)(hi:PI X tg iter wi)(hg:PG X tg g)(hb:ur X body tb)
  (hs:∀x,foldedSetIterable iter X.env x=pure x:=by intro _;rfl):PS X (.For tg iter body [] pos) (Nm wi g tb):=by
 intro pins s σ H D I h
 refine wpAny_For (cn (hi pins s σ H _ I h) λv s1 h1=>cn h1 λitv s2 h2=>?_) hs
 let⟨it,fp,tn,J,H2,e,I2,T,st2,f2,W,⟨m0,w0⟩,turn⟩:=h2
 subst e
 have stat:∀{H':Hp},(∀b∈fp,H' b=none)->∀b∈fp,ng X pins H' b:=λhn b hb=>⟨hn b hb,(f2 b hb).2⟩
 refine codeAny_forLoop_any (λn s'=>∃i σ' H',Inv X pins σ' H' s'/\tn i s'.heap/\(∀b∈fp,H' b=none)/\W i n σ' H') ?_ m0 ⟨0,σ,H2,I2,st2,λb hb=>(f2 b hb).1,w0⟩
 rintro n s3 ⟨i,σ3,H3,I3,st3,fr3,w3⟩
 rcases turn i n σ3 H3 w3 with⟨stop,qn⟩|⟨go,N,hN,step⟩
 .refine RC hp (cn (T.done X rfl rfl rfl hc i pins s3 σ3 H3 X.xe I3 (stat fr3) st3 stop) λr s4 ⟨hr,I4⟩=>?_)
  subst hr
  exact wpAny_execs_nil ⟨σ3,H3,I4,qn⟩
 .refine RC hp (cn (T.item X rfl rfl rfl hc i pins s3 σ3 H3 X.xe I3 (stat fr3) st3 go) λr s4 ⟨u,hr,h4⟩=>?_)
  subst hr
  refine RC hp (cn h4 λ_ s5 ⟨x,H5,I5,r5,y5,st5,fr5⟩=>?_)
  have I5':=I5.pinned (stat fr5) (T.obj _ _ st5)
  refine RC hp (cn (hg _ s5 σ3 H5 x u _ I5' r5 (step x H5 y5)) λ_ s6 ⟨σ6,H6,I6,q6⟩=>(RC hp (cn (hb _ s6 σ6 H6 _ I6 q6) λf s7 q7=>?_)))
  have again:∀{σ7:St} {H7:Hp},Inv X (pins++qN fp s5.heap) σ7 H7 s7->N σ7 H7->∃m,m<n/\∃i σ' H',Inv X pins σ' H' s7/\tn i s7.heap/\(∀b∈fp,H' b=none)/\W i m σ' H':=λ{σ7 H7} I7 n7=>by
   let⟨m',hm,w7⟩:=hN σ7 H7 n7
   refine⟨m',hm,i+1,σ7,H7,I7.unpinned,T.keep _ _ _ st5 λb hb o e=>(I7.pin (b,o) (P5 _ (P5 _ (kc hb e)))).1,λb hb=>?_,w7⟩
   let⟨o,e,d⟩:=T.obj _ _ st5 b hb
   exact(I7.pin (b,o) (P5 _ (P5 _ (kc hb e)))).2.1
  cases f with
  |next=>let⟨σ7,H7,I7,n7⟩:=q7;exact again I7 n7
  |cont=>let⟨σ7,H7,I7,n7⟩:=q7;exact again I7 n7
  |brk=>let⟨σ7,H7,I7,q7⟩:=q7;exact⟨σ7,H7,I7.unpinned,q7⟩
  |ret v=>let⟨x7,σ7,H7,I7,r7,q7⟩:=q7;exact⟨x7,σ7,H7,I7.unpinned,r7,q7⟩
end
def xl{K:Frag}{a:Addr}{xs:List V}{g:TG}{tb:TS}{D:Ends}{σ:St}{H:Hp}(Pv:Nat->St->Hp->Prop)(h0:Pv 0 σ H)(hl:∀i σ H,i<=xs.length->Pv i σ H->fU K H a xs)
  (hs:∀i x σ H,xs[i]? =some x->Pv i σ H->g x σ H λσ2 H2=>tb {D with nx:=Pv (i+1),ct:=Pv (i+1),bk:=D.nx} σ2 H2) (hd:∀σ H,Pv xs.length σ H->D.nx σ H) :
  ∃W:Nat->Nat->St->Hp->Prop,(∃m,W 0 m σ H)/\∀i m σ H,W i m σ H->
   ((CM K a).stop i H/\D.nx σ H)\/((CM K a).go i H/\∃N:St->Hp->Prop,(∀σ' H',N σ' H'->∃m',m'<m/\W (i+1) m' σ' H')/\∀x H',(CM K a).yld i H x H'->g x σ H' λσ2 H2=>tb {D with nx:=N,ct:=N,bk:=D.nx} σ2 H2):=by
 refine⟨λi m σ H=>m=xs.length-i/\i<=xs.length/\Pv i σ H,⟨xs.length,by simp,P9 _,h0⟩,?_⟩
 rintro i m σ H ⟨rfl,hi,p⟩
 have q:=hl i σ H hi p
 by_cases hlt:i<xs.length
 .refine .inr ⟨⟨xs,xs[i],q,by simp[hlt]⟩,Pv (i+1),λσ' H' p'=>⟨xs.length-(i+1),@AT,rfl,hlt,p'⟩,λx H' y=>?_⟩
  let⟨e,y⟩:=y
  subst e
  exact hs i x σ _ (y xs q) p
 .have e:i=xs.length:=@AT
  subst e
  exact .inl ⟨⟨xs,q,Pd _⟩,hd σ H p⟩
def GJ{K:Frag}{a:Addr}{xs:List V}{g:TG}{tb:TS}{D:Ends}{σ:St}{H:Hp}(Pv:Nat->St->Hp->Prop)(h0:Pv 0 σ H)(hl:∀i σ H,i<=xs.length->Pv i σ H->fu K H a xs)
  (hs:∀i x σ H,xs[i]? =some x->Pv i σ H->g x σ H λσ2 H2=>tb {D with nx:=Pv (i+1),ct:=Pv (i+1),bk:=D.nx} σ2 H2) (hd:∀σ H,Pv xs.length σ H->D.nx σ H) :
  ∃W:Nat->Nat->St->Hp->Prop,(∃m,W 0 m σ H)/\∀i m σ H,W i m σ H->
   ((Jb K a).stop i H/\D.nx σ H)\/((Jb K a).go i H/\∃N:St->Hp->Prop,(∀σ' H',N σ' H'->∃m',m'<m/\W (i+1) m' σ' H')/\∀x H',(Jb K a).yld i H x H'->g x σ H' λσ2 H2=>tb {D with nx:=N,ct:=N,bk:=D.nx} σ2 H2):=by
 refine⟨λi m σ H=>m=xs.length-i/\i<=xs.length/\Pv i σ H,⟨xs.length,by simp,P9 _,h0⟩,?_⟩
 rintro i m σ H ⟨rfl,hi,p⟩
 have q:=hl i σ H hi p
 by_cases hlt:i<xs.length
 .refine .inr ⟨⟨xs,xs[i],q,by simp[hlt]⟩,Pv (i+1),λσ' H' p'=>⟨xs.length-(i+1),@AT,rfl,hlt,p'⟩,λx H' y=>?_⟩
  let⟨e,y⟩:=y
  subst e
  exact hs i x σ _ (y xs q) p
 .have e:i=xs.length:=@AT
  subst e
  exact .inl ⟨⟨xs,q,Pd _⟩,hd σ H p⟩
def B8{lo:Int}{n:Nat}{g:TG}{tb:TS}{D:Ends}{σ:St}{H:Hp}(Pv:Nat->St->Hp->Prop)(h0:Pv 0 σ H)
  (hs:∀i σ H,i<n->Pv i σ H->g (.int (lo+i)) σ H λσ2 H2=>tb {D with nx:=Pv (i+1),ct:=Pv (i+1),bk:=D.nx} σ2 H2) (hd:∀σ H,Pv n σ H->D.nx σ H) :
  ∃W:Nat->Nat->St->Hp->Prop,(∃m,W 0 m σ H)/\∀i m σ H,W i m σ H->
   ((CY lo n).stop i H/\D.nx σ H)\/((CY lo n).go i H/\∃N:St->Hp->Prop,(∀σ' H',N σ' H'->∃m',m'<m/\W (i+1) m' σ' H')/\∀x H',(CY lo n).yld i H x H'->g x σ H' λσ2 H2=>tb {D with nx:=N,ct:=N,bk:=D.nx} σ2 H2):=by
 refine⟨λi m σ H=>m=n-i/\i<=n/\Pv i σ H,⟨n,by simp,P9 _,h0⟩,?_⟩
 rintro i m σ H ⟨rfl,hi,p⟩
 by_cases hlt:i<n
 .refine .inr ⟨hlt,Pv (i+1),λσ' H' p'=>⟨n-(i+1),@AT,rfl,hlt,p'⟩,λx H' y=>?_⟩
  obtain⟨e,y⟩:=y
  subst e y
  exact hs i σ _ hlt p
 .have e:i=n:=@AT
  subst e
  exact .inl ⟨Pd _,hd σ H p⟩
abbrev R2:=V->V->Hp->VK->Prop
def pH(X:Cx)(f:Value->Value->Sem Value)(r:R2):Prop:=
 ∀(pins:List (Addr×Obj)) (s:Shared) (σ:St) (H:Hp) (x y:V) (v u:Value) (Q:VK),@At->RelV x v->RelV y u->r x y H Q->
  wpAny (model X.prog X.w) X.A (f v u) (EP X pins σ Q) X.xe s
def M1(X:Cx)(f:Value->Sem Value)(r:V->Hp->VK->Prop):Prop:=
 ∀(pins:List (Addr×Obj)) (s:Shared) (σ:St) (H:Hp) (x:V) (v:Value) (Q:VK),@At->RelV x v->r x H Q->
  wpAny (model X.prog X.w) X.A (f v) (EP X pins σ Q) X.xe s
def cW(X:Cx)(f:Value)(r:List V->Hp->VK->Prop):Prop:=
 ∀(pins:List (Addr×Obj)) (s:Shared) (σ:St) (H:Hp) (xs:List V) (us:List Value) (Q:VK),@At->Vals xs us->r xs H Q->
  wpAny (model X.prog X.w) X.A (call f us) (EP X pins σ Q) X.xe s
def Nq(X:Cx)(r:V->Hp->(Bool->Hp->Prop)->Prop):Prop:=
 ∀(pins:List (Addr×Obj)) (s:Shared) (σ:St) (H:Hp) (x:V) (v:Value) (Q:Bool->Hp->Prop),@At->RelV x v->r x H Q->
  wpAny (model X.prog X.w) X.A (truthy v) (TP X pins σ Q) X.xe s
def Nb(r:R2)(ta tb:TE):TE:=λσ H Q=>ta σ H λx H1=>tb σ H1 λy H2=>r x y H2 Q
def O6(r:V->Hp->VK->Prop)(ta:TE):TE:=λσ H Q=>ta σ H λx H1=>r x H1 Q
def rI(C:Int->Int->Prop)(g:Int->Int->V):R2:=λx y H Q=>∃i j,x=.int i/\y=.int j/\C i j/\Q (g i j) H
def Dy(g:Int->Int->V):R2:=λx y H Q=>∃i j,x=.int i/\y=.int j/\Q (g i j) H
def rU(g:Int->V):V->Hp->VK->Prop:=λx H Q=>∃i,x=.int i/\Q (g i) H
section
variable {X:Cx}{a b c:Expr}{ta tb tc:TE}{pos:Pos}
def Ks(ha:PE X a ta)(hb:PE X b tb){pins:List (Addr×Obj)}{s:Shared}{σ:St}{H:Hp}{R:V->V->Hp->Prop}(I:@At)
  (h:ta σ H λx H1=>tb σ H1 λy H2=>R x y H2) {Q:@B_} {f:Value->Value->Sem Value}
  (hf:∀v u s2 x y H2,Inv X pins σ H2 s2->RelV x v->RelV y u->R x y H2->wpAny (model X.prog X.w) X.A (f v u) Q X.xe s2) :
  wpAny (model X.prog X.w) X.A (eval a X.env) (λv s₁=>wpAny (model X.prog X.w) X.A (eval b X.env) (λu s₂=>wpAny (model X.prog X.w) X.A (f v u) Q X.xe s₂) X.xe s₁) X.xe s:=by
 refine cn (ha pins s σ H _ I h) λv s1 ⟨x,H1,I1,r1,q1⟩=>?_
 exact cn (hb pins s1 σ H1 _ I1 q1) λu s2 ⟨y,H2,I2,r2,q2⟩=>(hf v u s2 x y H2 I2 r1 r2 q2)
def tT{op:Operator}{r:R2}(ho:pH X (binaryOp op) r)(ha:PE X a ta)(hb:PE X b tb):PE X (.BinOp a op b pos) (Nb r ta tb):=by
 intro pins s σ H Q I h
 exact wpAny_BinOp (Ks ha hb I h λv u s2 x y H2 I2 rx ry q=>ho pins s2 σ H2 x y v u Q I2 rx ry q)
def LS{op:UnaryOp}{r:V->Hp->VK->Prop}(ho:M1 X (unaryOp op) r)(ha:PE X a ta):PE X (.UnaryOp op a pos) (O6 r ta):=by
 intro pins s σ H Q I h
 exact UnaryOp_ (cn (ha pins s σ H _ I h) λv s1 ⟨x,H1,I1,r1,q1⟩=>ho pins s1 σ H1 x v Q I1 r1 q1)
def Oh{f:Value->Value->Sem Value}{C:Int->Int->Prop}{g:Int->Int->Int}
  (rule:∀(i j:Int) (t u:Tok) (s:Shared) (Q:@B_) (E:@B_),C i j->Q (.int (g i j) s.toks) {s with toks:=s.toks+1}->wpAny (model X.prog X.w) X.A (f (.int i t) (.int j u)) Q E s) :
  pH X f (rI C λi j=>.int (g i j)):=by
 intro pins s σ H x y v u Q I rx ry h
 obtain⟨i,j,rfl,rfl,hc,q⟩:=h
 obtain⟨t,rfl⟩:=rx
 obtain⟨t',rfl⟩:=ry
 exact rule i j t t' s _ _ hc ⟨.int (g i j),H,I.tok _,⟨_,rfl⟩,q⟩
def Nj{f:Value->Value->Sem Value}{g:Int->Int->Int}
  (rule:∀(i j:Int) (t u:Tok) (s:Shared) (Q:@B_) (E:@B_),Q (.int (g i j) s.toks) {s with toks:=s.toks+1}->wpAny (model X.prog X.w) X.A (f (.int i t) (.int j u)) Q E s) :
  pH X f (Dy λi j=>.int (g i j)):=by
 intro pins s σ H x y v u Q I rx ry h
 obtain⟨i,j,rfl,rfl,q⟩:=h
 obtain⟨t,rfl⟩:=rx
 obtain⟨t',rfl⟩:=ry
 exact rule i j t t' s _ _ ⟨.int (g i j),H,I.tok _,⟨_,rfl⟩,q⟩
def JP{f:Value->Value->Sem Value}{g:Int->Int->Bool}
  (rule:∀(i j:Int) (t u:Tok) (s:Shared) (Q:@B_) (E:@B_),Q (.bool (g i j)) s->wpAny (model X.prog X.w) X.A (f (.int i t) (.int j u)) Q E s) :
  pH X f (Dy λi j=>.bl (g i j)):=by
 intro pins s σ H x y v u Q I rx ry h
 obtain⟨i,j,rfl,rfl,q⟩:=h
 obtain⟨t,rfl⟩:=rx
 obtain⟨t',rfl⟩:=ry
 exact rule i j t t' s _ _ ⟨.bl (g i j),H,I,rfl,q⟩
def HX(i j:Int):Prop:=0<j/\j<1073741824
def EF(i j:Int):Prop:=(-(2^64)<i/\i<2^64)\/(-(2^64)<j/\j<2^64)
def EF.ok{i j:Int}(h:EF i j):IntMulOk i j:=by
 rcases h with⟨h1,h2⟩|⟨h1,h2⟩
 .exact .of_left (intBits_le_64 h1 h2)
 .exact .of_right (intBits_le_64 h1 h2)
def gm:pH X (binaryOp .Add) (Dy λi j=>.int (i+j)):=Nj λ_ _ _ _ _ _ _ q=>add_int q
def jH:pH X (binaryOp .Mult) (rI EF λi j=>.int (i*j)):=Oh λ_ _ _ _ _ _ _ hc q=>mul_int q hc.ok
def nJ:pH X (binaryOp .FloorDiv) (rI HX λi j=>.int (i/j)):=Oh λi j _ _ _ _ _ hc q=>by
 have h1:(0:Int)<j:=hc.1
 have h2:j<1073741824:=hc.2
 exact floordiv_int (@AT) (by rw[Int.fdiv_eq_ediv_of_nonneg i (@AT)];exact q) (.inl (PyProof.noPylong_small (@AT)))
def nj:pH X (binaryOp .Mod) (rI (λ_ j=>0<j) λi j=>.int (i%j)):=Oh λi j _ _ _ _ _ hc q=>by
 have h1:(0:Int)<j:=hc
 exact mod_int' (@AT) (by rw[Int.fmod_eq_emod_of_nonneg i (@AT)];exact q)
def O4{f:Value->Sem Value}{g:Int->Int}
  (rule:∀(i:Int) (t:Tok) (s:Shared) (Q:@B_) (E:@B_),Q (.int (g i) s.toks) {s with toks:=s.toks+1}->wpAny (model X.prog X.w) X.A (f (.int i t)) Q E s) :
  M1 X f (rU λi=>.int (g i)):=by
 intro pins s σ H x v Q I rx h
 obtain⟨i,rfl,q⟩:=h
 obtain⟨t,rfl⟩:=rx
 exact rule i t s _ _ ⟨.int (g i),H,I.tok _,⟨_,rfl⟩,q⟩
def zC:M1 X (unaryOp .USub) (rU λi=>.int (-i)):=O4 λ_ _ _ _ _ q=>neg_int q
end
section
variable {X:Cx}{a b c:Expr}{ta tb tc:TE}{pos:Pos}
def Jg:pH X (compareOp .Lt) (Dy λi j=>.bl (decide (i<j))):=JP λ_ _ _ _ _ _ _ q=>lt_int q
def EU:pH X (compareOp .LtE) (Dy λi j=>.bl (decide (i<=j))):=JP λ_ _ _ _ _ _ _ q=>le_int q
def LA:pH X (compareOp .Gt) (Dy λi j=>.bl (decide (j<i))):=JP λ_ _ _ _ _ _ _ q=>gt_int q
def bo(b:Expr){op:CmpOp}(h:op≠.In:=by decide)(h2:op≠.NotIn:=by decide):behindInMarks op b=false:=by
 have e1:(op==CmpOp.In)=false:=by cases op<;>first|rfl|exact absurd rfl h
 have e2:(op==CmpOp.NotIn)=false:=by cases op<;>first|rfl|exact absurd rfl h2
 cases b<;>simp[behindInMarks,e1,e2]
def HQ{op:CmpOp}{r:R2}(ho:pH X (compareOp op) r)(ha:PE X a ta)(hb:PE X b tb)(hm:behindInMarks op b=false):PE X (.Compare a [op] [b] pos) (Nb r ta tb):=by
 intro pins s σ H Q I h
 exact wpAny_Compare1 (Ks ha hb I h λv u s2 x y H2 I2 rx ry q=>ho pins s2 σ H2 x y v u Q I2 rx ry q) hm
def L9(t:TE):TT:=λσ H Q=>t σ H λx H'=>∃k,x=.bl k/\Q k H'
def HM{op:CmpOp}{r:R2}(ho:pH X (compareOp op) r)(ha:PE X a ta)(hb:PE X b tb)(hm:behindInMarks op b=false):PT X (.Compare a [op] [b] pos) (L9 (Nb r ta tb)):=by
 intro pins s σ H Q I h
 refine wpAny_isTrue_Compare1 (cn (ha pins s σ H _ I h) λv s1 ⟨x,H1,I1,r1,q1⟩=>cn (hb pins s1 σ H1 _ I1 q1) λu s2 ⟨y,H2,I2,r2,q2⟩=>
  cn (ho pins s2 σ H2 x y v u _ I2 r1 r2 q2) λc s3 ⟨z,H3,I3,r3,k,e,q3⟩=>?_) hm
 subst e
 cases r3
 exact Q6 ⟨H3,I3,q3⟩
def JR(r r':R2)(ta tb tc:TE):TE:=λσ H Q=>ta σ H λx H1=>tb σ H1 λy H2=>r x y H2 λz H3=>∃k,z=.bl k/\
 (if k=true then tc σ H3 λw' H4=>r' y w' H4 Q else Q (.bl false) H3)
theorem D4{op op':CmpOp}{r r':R2}(ho:pH X (compareOp op) r)(ho':pH X (compareOp op') r')(ha:PE X a ta)(hb:PE X b tb)(hc:PE X c tc)
  (hm:lastMarks [op,op'] [b,c]=false:=by with_unfolding_all rfl):PE X (.Compare a [op,op'] [b,c] pos) (JR r r' ta tb tc):=by
 intro pins s σ H Q I h
 refine Compare_chain (cn (ha pins s σ H _ I h) λv s1 ⟨x,H1,I1,r1,q1⟩=>chain_link (cn (hb pins s1 σ H1 _ I1 q1) λu s2 ⟨y,H2,I2,r2,q2⟩=>
  cn (ho pins s2 σ H2 x y v u _ I2 r1 r2 q2) λd s3 ⟨z,H3,I3,r3,k,e,q3⟩=>?_)) hm
 subst e
 cases r3
 refine Q6 ?_
 cases k with
 |false=>exact ite_ff ⟨.bl false,H3,I3,rfl,q3⟩
 |true=>exact ite_tt (chain_last (cn (hc pins s3 σ H3 _ I3 q3) λw' s4 ⟨z',H4,I4,r4,q4⟩=>ho' pins s4 σ H4 y z' u w' Q I4 r2 r4 q4))
def LW(K:Frag)(x:V)(H:Hp)(k:Bool):Prop:=
 match x with
 | .non=>k=false
 | .bl b=>k=b
 | .int i=>k=(i != 0)
 | .str y=>y.length<=sizeLine/\k=((y.length:Int) != 0)
 | .byt y=>y.size<=sizeLine/\k=((y.size:Int) != 0)
 | .ref p=>(∃xs,fU K H p xs/\k= !xs.isEmpty)\/(∃xs,fu K H p xs/\k= !xs.isEmpty)\/∃kvs,H p=some (.dK kvs)/\k= !kvs.isEmpty
 |_=>False
def yZ{κ:Type}{kvs:List (κ×V)}{vs:List (κ×Value)}(r:KV kvs vs):(!vs.isEmpty)= !kvs.isEmpty:=by
 cases r<;>rfl
def rJ{xs:List V}{its:List Value}(r:Vals xs its):(!its.toArray.isEmpty)= !xs.isEmpty:=by
 cases r<;>simp
def o4:(sizeLine:Nat)<2^63:=by rw[PX];decide
theorem Jz:Nq X (λx H Q=>∃k,LW X.K x H k/\Q k H):=by
 intro pins s σ H x v Q I rx h
 let⟨k,e,q⟩:=h
 have hl:=o4
 have hs:sizeLine=16777216:=PX
 cases x with
 |non=>
  cases rx
  have e':k=false:=e
  subst e'
  exact truthy_none ⟨H,I,q⟩
 |bl b=>
  cases rx
  have e':k=b:=e
  subst e'
  exact Q6 ⟨H,I,q⟩
 |int i=>
  obtain⟨t,rfl⟩:=rx
  have e':k=(i != 0):=e
  subst e'
  exact PySem.P.truthy_int ⟨H,I,q⟩
 |str y=>
  obtain⟨t,rfl⟩:=rx
  obtain⟨hy,e'⟩:y.length<=sizeLine/\k=((y.length:Int) != 0):=e
  subst e'
  exact PySem.P.truthy_str (@AT) ⟨H,I.tok _,q⟩
 |byt y=>
  obtain⟨t,rfl⟩:=rx
  obtain⟨hy,e'⟩:y.size<=sizeLine/\k=((y.size:Int) != 0):=e
  subst e'
  exact PySem.W.truthy_bytes (@AT) ⟨H,I.tok _,q⟩
 |ref p=>
  cases rx
  have e':(∃xs,fU X.K H p xs/\k= !xs.isEmpty)\/(∃xs,fu X.K H p xs/\k= !xs.isEmpty)\/∃kvs,H p=some (.dK kvs)/\k= !kvs.isEmpty:=e
  rcases e' with⟨xs,hx,e'⟩|⟨xs,hx,e'⟩|⟨kvs,hx,e'⟩
  .subst e'
   let⟨its,r,pl,hz⟩:=I.list hx
   have hlen:=r.length
   exact wpAny_truthy_list pl.isList (by simp only[PM];omega) ⟨H,I.tok _,by rw[rJ r];exact q⟩
  .subst e'
   let⟨its,r,pl,hz⟩:=I.tuple hx
   have hlen:=r.length
   exact truthy_tuple pl (by simp only[PM];omega) ⟨H,I.tok _,by rw[rJ r];exact q⟩
  .subst e'
   obtain⟨hz,hS,vs,r,m⟩:kvs.length<=sizeLine/\(p==sysModules)=false/\∃vs,KV kvs vs/\s.heap.DictOf (bQ X.prog X.w) p vs:=I.hok p _ hx
   have hlen:kvs.length=vs.length:=Paired.length r
   exact wpAny_truthy_dict hS m (@AT) ⟨H,I.tok _,by rw[yZ r];exact q⟩
 |_=>exact(show False from e).elim
def Ef(ha:PE X a ta)(he:∀whole,isTrue a X.env whole=(do let v <-whole;standAt a.pos;holding [v] (truthy v))) :
  PT X a (λσ H Q=>ta σ H λx H'=>∃k,LW X.K x H' k/\Q k H'):=by
 intro pins s σ H Q I h
 exact isTrue_plain (cn (ha pins s σ H _ I h) λv s1 ⟨x,H1,I1,r1,q1⟩=>Jz pins s1 σ H1 x v Q I1 r1 q1) (he _)
theorem vals1{x:V}{us:List Value}(r:Vals [x] us):∃u,us= [u]/\RelV x u:=by
 cases r with
 |cons r1 r2=>cases r2;exact⟨_,rfl,r1⟩
theorem vals2{x y:V}{us:List Value}(r:Vals [x,y] us):∃u w',us= [u,w']/\RelV x u/\RelV y w':=by
 cases r with
 |cons r1 r2=>
  cases r2 with
  |cons r3 r4=>cases r4;exact⟨_,_,rfl,r1,r3⟩
def Dg:cW X (.builtin "abs") (λxs H Q=>∃i,xs= [.int i]/\Q (.int (if i<0 then -i else i)) H):=by
 intro pins s σ H xs us Q I r h
 obtain⟨i,rfl,q⟩:=h
 obtain⟨u,rfl,t,rfl⟩:=vals1 r
 exact call_abs_int λu tk=>⟨.int (if i<0 then -i else i),H,I.tok _,⟨_,rfl⟩,q⟩
def Cy(hc:X.calm=true):cW X (.builtin "max") (λxs H Q=>∃i j,xs= [.int i,.int j]/\Q (.int (if j>i then j else i)) H):=by
 intro pins s σ H xs us Q I r h
 obtain⟨i,j,rfl,q⟩:=h
 obtain⟨u,w',rfl,⟨t,rfl⟩,⟨t',rfl⟩⟩:=vals2 r
 refine max_two_ints (I.ok.hd hc) λh' tk k=>⟨_,H,I.kept k,?_,q⟩
 by_cases hj:j>i
 .rw[Pe hj,Pe hj];exact⟨_,rfl⟩
 .rw[Pg hj,Pg hj];exact⟨_,rfl⟩
def CG(hc:X.calm=true):cW X (.builtin "min") (λxs H Q=>∃i j,xs= [.int i,.int j]/\Q (.int (if j<i then j else i)) H):=by
 intro pins s σ H xs us Q I r h
 obtain⟨i,j,rfl,q⟩:=h
 obtain⟨u,w',rfl,⟨t,rfl⟩,⟨t',rfl⟩⟩:=vals2 r
 refine min_two_ints (I.ok.hd hc) λh' tk k=>⟨_,H,I.kept k,?_,q⟩
 by_cases hj:j<i
 .rw[Pe hj,Pe hj];exact⟨_,rfl⟩
 .rw[Pg hj,Pg hj];exact⟨_,rfl⟩
def Lz(K:Frag)(x:V)(H:Hp)(n:Nat):Prop:=
 match x with
 | .str y=>y.length<=sizeLine/\n=y.length
 | .byt y=>y.size<=sizeLine/\n=y.size
 | .ref p=>(∃xs,fU K H p xs/\n=xs.length)\/∃xs,fu K H p xs/\n=xs.length
 |_=>False
theorem b5:cW X (.builtin "len") (λxs H Q=>∃x n,xs= [x]/\Lz X.K x H n/\Q (.int n) H):=by
 intro pins s σ H xs us Q I r h
 obtain⟨x,n,rfl,e,q⟩:=h
 obtain⟨u,rfl,rx⟩:=vals1 r
 have hl:=o4
 have hs:sizeLine=16777216:=PX
 cases x with
 |str y=>
  obtain⟨t,rfl⟩:=rx
  obtain⟨hy,e'⟩:y.length<=sizeLine/\n=y.length:=e
  subst e'
  exact len_str (@AT) ⟨.int _,H,I.tok _,⟨_,rfl⟩,q⟩
 |byt y=>
  obtain⟨t,rfl⟩:=rx
  obtain⟨hy,e'⟩:y.size<=sizeLine/\n=y.size:=e
  subst e'
  exact PySem.W.len_bytes (@AT) ⟨.int _,H,I.tok _,⟨_,rfl⟩,q⟩
 |ref p=>
  cases rx
  have e':(∃xs,fU X.K H p xs/\n=xs.length)\/∃xs,fu X.K H p xs/\n=xs.length:=e
  rcases e' with⟨xs,hx,e'⟩|⟨xs,hx,e'⟩
  .subst e'
   let⟨its,r',pl,hz⟩:=I.list hx
   have hlen:=r'.length
   exact Calls.call_len_list pl.isList (by simp only[PM];omega) ⟨.int xs.length,H,I.tok _,⟨_,by simp only[PM];rw[hlen]⟩,q⟩
  .subst e'
   let⟨its,r',pl,hz⟩:=I.tuple hx
   have hlen:=r'.length
   exact len_tuple pl (by simp only[PM];omega) ⟨.int xs.length,H,I.tok _,⟨_,by simp only[PM];rw[hlen]⟩,q⟩
 |_=>exact(show False from e).elim
def xj:cW X (.builtin "divmod") (λxs H Q=>∃i j,xs= [.int i,.int j]/\HX i j/\∀p,H p=none->Q (.ref p) (upd H p (.tup [.int (i/j),.int (i%j)]))):=by
 intro pins s σ H xs us Q I r h
 obtain⟨i,j,rfl,⟨h1,h2⟩,q⟩:=h
 obtain⟨u,w',rfl,⟨t,rfl⟩,⟨t',rfl⟩⟩:=vals2 r
 refine divmod_int (@AT) ?_ (.inl (PyProof.noPylong_small (@AT)))
 rw[Int.fdiv_eq_ediv_of_nonneg i (@AT),Int.fmod_eq_emod_of_nonneg i (@AT)]
 have hn:H s.heap.objs.size=none:=I.hok.fresh (Pd _)
 refine⟨.ref s.heap.objs.size,_,?_,rfl,q _ hn⟩
 refine I.laid (λb o e=>Pb _ e) (Pd _) ⟨by simp only[PR,length_nil];rw[PX];decide,[.int (i/j) s.toks,.int (i%j) (s.toks+1)],.cons ⟨_,rfl⟩ (.cons ⟨_,rfl⟩ .nil),?_⟩
 exact⟨_,Pl s.heap rfl,rfl,0,rfl,rfl⟩
end
structure Jn(h:Heap)(x dx C:Addr)(mA:Str->Option Value):Prop where
 obj:h.get? x=some (PySem.W.instObj C dx)
 ns:h.Ns1 dx mA
 ne:dx≠x
def Bs{h:Heap}{dx:Addr}{mA:Str->Option Value}(n:h.Ns1 dx mA):∃od,h.get? dx=some od/\∀name,PySem.W.lookIn name od=some (mA name):=by
 let⟨o,es,ep,ho,hd,hk,_,hm⟩:=n
 refine⟨o,ho,λname=>?_⟩
 have e:=hm name
 unfold nsFind findBy at e
 rw[<-Array.find?_toList]at e
 unfold PySem.W.lookIn
 rw[hd]
 dsimp only
 split
 .rename_i y q
  rw[q]at e
  exact congrArg some e
 .rename_i q
  rw[q]at e
  have a:es.toList.any (·.refKey)=false:=by
   rw[List.any_eq_false]
   intro y hy
   let⟨z,t,hkey⟩:=hk y (RL.mp hy)
   simp[DictEntry.refKey,hkey]
  have a':¬es.toList.any (·.refKey)=true:=by rw[a];exact PZ
  rw[Pg a']
  exact congrArg some e
def Jn.look{h:Heap}{x dx C:Addr}{mA:Str->Option Value}(I:Jn h x dx C mA):∃od,PySem.W.InstAt h x (PySem.W.instObj C dx) C (some od)/\∀name,PySem.W.lookIn name od=some (mA name):=
 let⟨od,ho,hl⟩:=Bs I.ns
 ⟨od,⟨I.obj,rfl,rfl,ho⟩,hl⟩
theorem rD.some_of{v:V}{o:Option Value}(r:rD (some v) o):∃u,o=some u/\RelV v u:=by
 cases o with
 |none=>exact(show False from r).elim
 |some u=>exact⟨u,rfl,r⟩
section
variable {P:Program}{w:World}{H H':Hp}{h h':Heap}{a C dx:Addr}{fs fs':List (Str×V)}
def Hw(hok:lO P w H h)(e:H a=some (.ins C dx fs)):∃mA,Jn h a dx C mA/\(∀f,rD (fs.lookup f) (mA f))/\PySem.Within mA (fs.map (·.1))/\fs.length<=1000/\H dx=some (.own a):=by
 let⟨d,z,ne,ob,mA,n,r,q⟩:=(show bE P w H h a (.ins C dx fs)from hok a _ e)
 exact⟨mA,⟨ob,n,ne⟩,r,q,z,d⟩
end
structure Oj(K:Frag)(C:Addr):Prop where
 pg:PySem.W.plainGet K C Str.empty=true
 hd:PySem.W.hasDictIn K C=true
 po:PySem.W.plainOver K C=true
 sa:PySem.W.findIn K (.ref C) "__setattr__"=some (some (.builtin "object.__setattr__"))
def Oj.get{K:Frag}{C:Addr}(c:Oj K C)(f:Str):PySem.W.plainGet K C f=true:=c.pg
section
variable {X:Cx}{pins:List (Addr×Obj)}{σ:St}{H:Hp}{s:Shared}{A:Around}{E:@B_}{Q:@B_}{c:Value}{b:Bool}
inductive p9(K:Frag)(H:Hp):V->Value->Prop where
 |non:p9 K H .non (.type "NoneType")
 |bl (x:Bool):p9 K H (.bl x) (.type "bool")
 |int (i:Int):p9 K H (.int i) (.type "int")
 |str (x:Str):p9 K H (.str x) (.type "str")
 |flt (x:UInt64):p9 K H (.flt x) (.type "float")
 |lst {a:Addr} {xs:List V} (e:H a=some (.lst xs)):p9 K H (.ref a) (.type "list")
 |a8 {a:Addr} {o:Obj} {xs:List V} (e:H a=some (.a8 o (.lst xs))):p9 K H (.ref a) (.type "list")
 |tup {a:Addr} {xs:List V} (e:H a=some (.tup xs)):p9 K H (.ref a) (.type "tuple")
 |dK {a:Addr} {kvs:List (Key×V)} (e:H a=some (.dK kvs)):p9 K H (.ref a) (.type "dict")
 |dT {a:Addr} {kvs:List (List Key×V)} {ep:Nat} (e:H a=some (.dT kvs ep)):p9 K H (.ref a) (.type "dict")
 |ins {a C dx:Addr} {fs:List (Str×V)} (e:H a=some (.ins C dx fs)) (cl:Oj K C) (ha:PySem.W.findIn K (.ref C) "__class__"=some (some (.builtin "object.__class__")))
   (hn:PySem.W.specialIn K (.builtin "object.__class__") "__get__"=some (some (.builtin "getset_descriptor.__get__"))) (htk:PySem.W.takesIn K (.builtin "object.__class__")=some true)
   (hm:PySem.W.mroIn K C (.type "object")=some true):p9 K H (.ref a) (.ref C)
theorem jN{x:V}{u t:Value}(I:@At)(rx:RelV x u)(ty:p9 X.K H x t)(e:PySem.W.kitOne X.K t c=some b)(h:∀tk,Q (.bool b) {s with toks:=tk}) :
  wpAny (model X.prog X.w) A (call (.builtin "isinstance") [u,c]) Q E s:=by
 cases ty with
 |non=>cases(show u=Value.none from rx);exact Qr PySem.W.kitx_none I.kIn True.intro e (λz=>nomatch z) h
 |bl y=>cases(show u=Value.bool y from rx);exact Qr PySem.W.kitx_bool I.kIn True.intro e (λz=>nomatch z) h
 |int i=>let⟨t,q⟩:=(show ∃t,u=Value.int i t from rx);cases q;exact Qr PySem.W.kitx_int I.kIn True.intro e (λz=>nomatch z) h
 |str y=>let⟨t,q⟩:=(show ∃t,u=Value.str y t from rx);cases q;exact Qr PySem.W.kitx_str I.kIn True.intro e (λz=>nomatch z) h
 |flt y=>let⟨t,q⟩:=(show ∃t,u=Value.float y t from rx);cases q;exact Qr PySem.W.kitx_float I.kIn True.intro e (λz=>nomatch z) h
 | @lst a xs ea=>
  cases(show u=Value.ref a from rx)
  let⟨_,_,n,_,h1⟩:=(show bE X.prog X.w H s.heap a (.lst xs)from I.hok a _ ea)
  exact Qr PySem.W.kitx_list I.kIn ⟨_,h1,rfl⟩ e (λz=>nomatch z) h
 | @a8 a ob xs ea=>
  cases(show u=Value.ref a from rx)
  let⟨_,_,_,n,_,h1⟩:=(show bE X.prog X.w H s.heap a (.a8 ob (.lst xs))from I.hok a _ ea)
  exact Qr PySem.W.kitx_list I.kIn ⟨_,h1,rfl⟩ e (λz=>nomatch z) h
 | @tup a xs ea=>
  cases(show u=Value.ref a from rx)
  let⟨_,_,_,p⟩:=(show bE X.prog X.w H s.heap a (.tup xs)from I.hok a _ ea)
  let⟨o,h1,h2,_⟩:=p
  exact Qr PySem.W.kitx_tuple I.kIn ⟨o,h1,h2⟩ e (λz=>nomatch z) h
 | @dK a kvs ea=>
  cases(show u=Value.ref a from rx)
  let⟨_,_,vs,_,p⟩:=(show bE X.prog X.w H s.heap a (.dK kvs)from I.hok a _ ea)
  let⟨o,es,ep,h1,h2,_⟩:=p
  exact Qr PySem.W.kitx_dict I.kIn ⟨o,h1,h2.1⟩ e (λz=>nomatch z) h
 | @dT a kvs ep ea=>
  cases(show u=Value.ref a from rx)
  let⟨_,_,xs,_,o,es,h1,h2,_⟩:=(show bE X.prog X.w H s.heap a (.dT kvs ep)from I.hok a _ ea)
  exact Qr PySem.W.kitx_dict I.kIn ⟨o,h1,h2.1⟩ e (λz=>nomatch z) h
 | @ins a C dx fs ea cl ha hn htk hm=>
  cases(show u=Value.ref a from rx)
  let⟨mA,O,_⟩:=Hw I.hok ea
  let⟨od,J,_⟩:=O.look
  exact Qr (PySem.W.kitx_own (cl.get _) cl.hd ha hn htk hm) I.kIn J e (λz=>nomatch z) h
end
structure fV(k:Nat)(A:Around):Prop where
 hd:A.handled=none
 dp:A.depth+3*k+5<recursionLimit
 un:A.units+16*k+200<cLine
 gd:A.guards=some []
def fV.mono{j k:Nat}{A:Around}(r:fV k A)(h:j<=k):fV j A:=⟨r.hd,by have:=r.dp;omega,by have:=r.un;omega,r.gd⟩
def fV.deeper{k:Nat}{A:Around}(r:fV (k+1) A)(env:Env):fV k (A.deeper env):=
 ⟨r.hd,by have:=r.dp;show A.depth+1+3*k+5<_;omega,by have:=r.un;show A.units+3+16*k+200<_;omega,r.gd⟩
def fV.depth{k:Nat}{A:Around}(r:fV k A):A.depth<recursionLimit:=by have:=r.dp;omega
def fV.units{k:Nat}{A:Around}(r:fV k A):A.units+64<cLine:=by have:=r.un;omega
def N7:TA:=λ_ H Q=>Q [] H
def LO(ta:TE)(tr:TA):TA:=λσ H Q=>ta σ H λx H1=>tr σ H1 λxs H2=>Q (x::xs) H2
section
variable {X:Cx}{e:Expr}{es:List Expr}{te:TE}{t:TA}{pos:Pos}
def bD:PA X [] N7:=λ_ _ _ _ H Q I h=>Calls.spliced_nil ⟨[],H,I,.nil,h⟩
def aP(ha:PE X e te)(hr:PA X es t)(hs:starEach (e::es) X.env=(false,eval e X.env)::starEach es X.env:=by rfl):PA X (e::es) (LO te t):=by
 intro pos pins s σ H Q I h
 rw[hs]
 exact Calls.spliced_cons (cn (ha pins s σ H _ I h) λu s1 ⟨x,H1,I1,r1,q1⟩=>(cn (hr pos pins s1 σ H1 _ I1 q1) λus s2 ⟨xs,H2,I2,r2,q2⟩=>⟨x::xs,H2,I2,.cons r1 r2,q2⟩))
def Oo(t:TA):TE:=λσ H Q=>t σ H λxs H1=>xs.length<=sizeLine/\∀p,H1 p=none->Q (.ref p) (upd H1 p (.tup xs))
def NX(t:TA):TE:=λσ H Q=>t σ H λxs H1=>xs.length<=sizeLine/\∀p,H1 p=none->Q (.ref p) (upd H1 p (.lst xs))
def z5{x1}(h:PA X es t):PE X (.Tuple es x1 pos) (Oo t):=by
 intro pins s σ H Q I hq
 refine wpAny_Tuple_spliced (cn (h pos pins s σ H _ I hq) λus s1 ⟨xs,H1,I1,r,z,q⟩=>⟨by rw[<-r.length];exact z,?_⟩)
 have hf:H1 s1.heap.objs.size=none:=I1.hok.fresh (Pd _)
 refine⟨.ref s1.heap.objs.size,upd H1 s1.heap.objs.size (.tup xs),I1.laid (λb u e=>Pb _ e) (Pd _) ?_,rfl,q _ hf⟩
 exact⟨z,us,r,v5.new _ _⟩
def Ff(h:PA X es t):PE X (.List es pos) (NX t):=by
 intro pins s σ H Q I hq
 refine wpAny_List_spliced (cn (h pos pins s σ H _ I hq) λus s1 ⟨xs,H1,I1,r,z,q⟩=>⟨by rw[<-r.length];exact z,?_⟩)
 have hf:H1 s1.heap.objs.size=none:=I1.hok.fresh (Pd _)
 refine⟨.ref s1.heap.objs.size,upd H1 s1.heap.objs.size (.lst xs),I1.laid (λb u e=>Pb _ e) (Pd _) ?_,rfl,q _ hf⟩
 exact⟨z,us,0,r,Pl _ rfl⟩
end
abbrev Sp:=List V->Hp->VK->XK->Prop
abbrev BR:=List Env->Hp->Shared->XK->@B_
structure Hz(P:Program)(w:World)(K:Frag)(mg:Str->Option Value)(base:Heap)(A:Around)(outer:List Env)(s:Shared)(H:Hp):Prop where
 frames:A.frames=some outer
 mod:Mod K mg base
 bs:∀b o,base.get? b=some o->s.heap.get? b=some o/\H b=none
 bsz:base.objs.size<=s.heap.objs.size
 funs:s.heap.FunFrames base outer
 frf:∀b∈nH outer,H b=none
 hok:lO P w H s.heap
 bare:AllBare s.gens
def CE(outer:List Env)(P:Program)(w:World)(H:Hp)(s:Shared)(Q:VK)(u:Value)(s':Shared):Prop:=
 ∃v H',s'.os=s.os/\AllBare s'.gens/\Un (nH outer) [] H H' s.heap s'.heap/\lO P w H' s'.heap/\RelV v u/\Q v H'
def CR(CX:BR)(outer:List Env)(P:Program)(w:World)(H:Hp)(s:Shared)(Q:VK)(E:XK)(r:Result)(s':Shared):Prop:=
 match r with
 | .ok (.ret u)=>CE outer P w H s Q u s'
 | .ok _=>False
 | .error e=>CX outer H s E e s'
structure gS(P:Program)(w:World)(K:Frag)(mg:Str->Option Value)(base:Heap)(CX:BR)(k:Nat)(f:Addr)(fd:FuncData)(ps:List Str)(sp:Sp):Prop where
 len:∀vs H Q E,sp vs H Q E->vs.length=ps.length
 run:∀(A:Around) (outer:List Env) (s:Shared) (H:Hp) (args:Args) (us:List Value) (vs:List V) (Q:VK) (E:XK),fV k A->Hz P w K mg base A outer s H->BindsTo s fd args (ps.zip us)->Vals vs us->sp vs H Q E->
  codeAny (model P w) A (.call (.ref f) args) (CR CX outer P w H s Q E) s
def gS.mono{P:Program}{w:World}{K:Frag}{mg:Str->Option Value}{base:Heap}{CX:BR}{j k:Nat}{f:Addr}{fd:FuncData}{ps:List Str}{sp:Sp}(F:gS P w K mg base CX j f fd ps sp)(h:j<=k) :
  gS P w K mg base CX k f fd ps sp:=⟨F.len,λA outer s H args us vs Q E hr=>F.run A outer s H args us vs Q E (hr.mono h)⟩
def gS.imp{P:Program}{w:World}{K:Frag}{mg:Str->Option Value}{base:Heap}{CX:BR}{k:Nat}{f:Addr}{fd:FuncData}{ps:List Str}{sp sp':Sp}(F:gS P w K mg base CX k f fd ps sp)
  (h:∀vs H Q E,sp' vs H Q E->sp vs H Q E):gS P w K mg base CX k f fd ps sp':=
 ⟨λvs H Q E q=>F.len vs H Q E (h _ _ _ _ q),λA outer s H args us vs Q E hr he hb hv hs=>F.run A outer s H args us vs Q E hr he hb hv (h _ _ _ _ hs)⟩
section
variable {X:Cx}{pins:List (Addr×Obj)}{σ:St}{H:Hp}{s s':Shared}
def Inv.env0(I:@At):Hz X.prog X.w X.K X.mg X.base X.A X.stack s H:=
 ⟨I.ok.frames,I.ok.mod,I.bs,Qp I.ok.bsz I.sz,I.stack,I.stkFree,I.hok,I.bare⟩
def Inv.after{Q:VK}{u:Value}(I:@At)(h:CE X.stack X.prog X.w H s Q u s'):EP X pins σ Q u s':=by
 let⟨v,H',os,bare,un,hok,r,q⟩:=h
 let⟨hh,g,d,t,os'⟩:=s'
 obtain rfl:os'=s.os:=os
 exact⟨v,H',I.call un hok bare (λb z=>absurd z (by simp)),r,q⟩
end
def L5(sp:Sp)(dvs:List V)(E:XK)(t:TA):TE:=λσ H Q=>t σ H λvs H1=>sp (vs++dvs) H1 Q E
def Binds(K:Frag)(fd:FuncData)(ps:List Str)(ds:List Value):Prop:=
 ∀(s:Shared) (us:List Value),K.In s.heap->(us++ds).length=ps.length->BindsTo s fd ⟨us,[]⟩ (ps.zip (us++ds))
def Binds.all{K:Frag}{fd:FuncData}{ps:List Str}(h:∀us:List Value,us.length=ps.length->bindArgs fd ⟨us,[]⟩=pure (ps.zip us)):Binds K fd ps []:=λs us _ hl=>by
 rw[RD]at hl ⊢
 exact .of_eq (h us hl)
def Passes(CX:BR)(X:Cx)(E:XK):Prop:=∀(pins:List (Addr×Obj)) (σ:St) (H:Hp) (s:Shared) (e:Value) (s':Shared),@At->CX X.stack H s E e s'->X.xe e s'
section
variable {X:Cx}{CX:BR}{k:Nat}{f C:Addr}{fd:FuncData}{ps:List Str}{sp:Sp}{dvs:List V}{ds:List Value}{E:XK}{x m:Str}{p pos apos:Pos}{e o:Expr}{es:List Expr}{ta:TE}{t:TA}
theorem Lg{pins:List (Addr×Obj)}{σ:St}{H:Hp}{s:Shared}{Q:VK}{us:List Value}{vs:List V}(F:gS X.prog X.w X.K X.mg X.base CX k f fd ps sp)(hr:fV k X.A)(hb:Binds X.K fd ps ds)(hd:Vals dvs ds)(hx:Passes CX X E)
  (I:@At) (r:Vals vs us) (h:sp (vs++dvs) H Q E):wpAny (model X.prog X.w) X.A (call (.ref f) us) (EP X pins σ Q) X.xe s:=by
 have r2:Vals (vs++dvs) (us++ds):=r.append hd
 have hl:(us++ds).length=ps.length:=by rw[<-r2.length];exact F.len _ _ _ _ h
 refine wpAny_call (Sx (F.run X.A X.stack s H ⟨us,[]⟩ (us++ds) (vs++dvs) Q E hr I.env0 (hb s us I.kIn hl) r2 h) λr s' hq=>?_)
 cases r with
 |error e=>exact hx pins σ H s e s' I hq
 |ok fl=>
  cases fl with
  |ret u=>exact I.after hq
  |next=>exact False.elim hq
  |brk=>exact False.elim hq
  |cont=>exact False.elim hq
def nN(F:gS X.prog X.w X.K X.mg X.base CX k f fd ps sp)(hr:fV k X.A)(hg:Gl X x)(hm:X.mg x=some (.ref f))(hk:PySem.W.keepIn X.K (.ref f)=true)(hb:Binds X.K fd ps ds)(hd:Vals dvs ds)(hx:Passes CX X E)
  (ha:PA X (e::es) t) (hdb:(x==("__debug__":Str))=false:=by decide) (he:starEach (e::es) X.env=(false,eval e X.env)::starEach es X.env:=by rfl) (hpl:(backTo pos (starEach es X.env)).any (·.1)=false:=by rfl) :
  PE X (.Call (.Name x p) (e::es) [] pos) (L5 sp dvs E t):=by
 intro pins s σ H Q I h
 refine R4 (A1 I hg hm ?_ hdb)
 exact PySem.W.callWith_K I.ok.mod.kin hk (cn (ha pos pins s σ H _ I h) λus s1 ⟨vs,H1,I1,r,q⟩=>⟨I1.kIn,Lg F hr hb hd hx I1 r q⟩) he hpl
end
structure aH(N P:List Str)(sc:Scope):Prop where
 kind:sc.kind=.function
 co:sc.isCoroutine=false
 gen:sc.isGenerator=false
 nd:N.Nodup
 pre:N.take P.length=P
 par:∀x∈P,sc.names.lookup x=some .local\/sc.names.lookup x=some .cell
 nofree:∀y∈sc.names,y.2≠.free
theorem uv{kindOf:Str->Option NameKind}{x:Str}:∀{binds:List (Str×Value)} {m:Str->Option Value},(∀v,(x,v)∉binds)->bindL kindOf binds m x=m x
 | [],_,_=>rfl
 | (n,v)::r,m,h=>by
  unfold bindL
  rw[uv λw hw=>h w (Pk _ hw)]
  split
  ·have:x≠n:=by rintro rfl;exact h v Pq
   simp[this]
  .rfl
theorem uH{kindOf:Str->Option NameKind}{x:Str}:∀{binds:List (Str×Value)} {m:Str->Option Value},(∀v,(x,v)∉binds)->bindC kindOf binds m x=m x
 | [],_,_=>rfl
 | (n,v)::r,m,h=>by
  unfold bindC
  rw[uH λw hw=>h w (Pk _ hw)]
  split
  ·rfl
  ·have:x≠n:=by rintro rfl;exact h v Pq
   simp[this]
theorem uB{kindOf:Str->Option NameKind}{x:Str}{v:Value}:∀{P:List Str} {vs:List Value} {i:Nat} {m:Str->Option Value},P.Nodup->P[i]? =some x->vs[i]? =some v->kindOf x=some .local->
  bindL kindOf (P.zip vs) m x=some v
 | [],_,_,_,_,h,_,_=>by simp at h
 |_::_,[],_,_,_,_,h,_=>by simp at h
 |p::P,w::vs,0,m,nd,h1,h2,hk=>by
  simp at h1 h2;subst h1;subst h2
  show bindL kindOf ((p,w)::P.zip vs) m p=_
  unfold bindL
  rw[uv λv hv=>(P6.mp nd).1 (List.of_mem_zip hv).1,Pe hk]
  simp
 |p::P,w::vs,i+1,m,nd,h1,h2,hk=>by
  show bindL kindOf ((p,w)::P.zip vs) m x=_
  unfold bindL
  exact uB (i:=i) (P6.mp nd).2 (by simpa using h1) (by simpa using h2) hk
theorem uj{kindOf:Str->Option NameKind}{x:Str}{v:Value}:∀{P:List Str} {vs:List Value} {i:Nat} {m:Str->Option Value},P.Nodup->P[i]? =some x->vs[i]? =some v->kindOf x≠some .local->
  bindC kindOf (P.zip vs) m x=some v
 | [],_,_,_,_,h,_,_=>by simp at h
 |_::_,[],_,_,_,_,h,_=>by simp at h
 |p::P,w::vs,0,m,nd,h1,h2,hk=>by
  simp at h1 h2;subst h1;subst h2
  show bindC kindOf ((p,w)::P.zip vs) m p=_
  unfold bindC
  rw[uH λv hv=>(P6.mp nd).1 (List.of_mem_zip hv).1,Pg hk]
  simp
 |p::P,w::vs,i+1,m,nd,h1,h2,hk=>by
  show bindC kindOf ((p,w)::P.zip vs) m x=_
  unfold bindC
  exact uj (i:=i) (P6.mp nd).2 (by simpa using h1) (by simpa using h2) hk
def start(N:List Str)(vs:List V):St:=vs.map some++List.replicate (N.length-vs.length) none
def sV(CX:BR)(P:Program)(w:World)(K:Frag)(mg:Str->Option Value)(base:Heap)(N:List Str)(qual:Str)(scope:Scope)(f:Addr)(cd:Value)(A:Around)(outer:List Env)(s:Shared)(H:Hp)(E:XK):Cx where
 prog:=P
 w:=w
 K:=K
 mg:=mg
 base:=base
 A:=A.deeper (envOfC qual scope s.heap.objs.size f cd)
 N:=N
 s₀:=s
 H₀:=H
 env:=envOfC qual scope s.heap.objs.size f cd
 outer:=outer
 stack:=envOfC qual scope s.heap.objs.size f cd::outer
 ex:=[]
 calm:=true
 fn:=λ_=>true
 pn:=[]
 xe:=λe s'=>wpAny (model P w) (A.deeper (envOfC qual scope s.heap.objs.size f cd)) (leaving (envOfC qual scope s.heap.objs.size f cd) e) (λ_ s''=>CX outer H s E e s'') (λe' s''=>CX outer H s E e' s'') s'
def yi{sc:Scope}{n:Nat}{x:Str}(h:sc.names.lookup x=some .cell):∃c,(cellsFrom n sc.names []).lookup x=some c:=by
 have q:=PySem.W.cellsFrom_some sc.names n [] (.inl h)
 exact Option.isSome_iff_exists.mp q
def Ci{CX:BR}{P:Program}{w:World}{K:Frag}{mg:Str->Option Value}{base:Heap}{N ps:List Str}{qual:Str}{scope:Scope}{f:Addr}{cd:Value}{A:Around}{outer:List Env}{s s1:Shared}{H:Hp}{E:XK}{us:List Value}{vs:List V}
  (S:aH N ps scope) (hd:A.handled=none) (e0:Hz P w K mg base A outer s H) (hl:vs.length=ps.length) (r:Vals vs us)
  (x:InCallC s s.heap.objs.size (bindL (envOfC qual scope s.heap.objs.size f cd).kindOf (ps.zip us) λ_=>none) (cellsFrom (s.heap.objs.size+1) scope.names []) (bindC (envOfC qual scope s.heap.objs.size f cd).kindOf (ps.zip us) λ_=>none) s1) :
  Inv (sV CX P w K mg base N qual scope f cd A outer s H E) [] (start N vs) H s1:=by
 have hpl:ps.length<=N.length:=by have:=congrArg List.length S.pre;rw[QR]at this;omega
 obtain⟨h1,tk,rfl,hk⟩:=x.done
 have noA:∀b:Addr,b∉(sV CX P w K mg base N qual scope f cd A outer s H E).ex:=λb z=>absurd (show b∈([]:List Addr)from z) (by simp)
 refine⟨⟨e0.mod,S.kind,rfl,rfl,Pd _,λy z c h1 h2=>?_,λy hy=>?_,λy c _ h=>?_,λ_=>hd,Around.frames_deeper e0.frames,.inr ⟨rfl,rfl⟩,λb z=>absurd z (noA b),e0.bs,e0.bsz,λb _ _=>noA b,λb z=>absurd z (noA b),e0.funs,e0.frf⟩,
  rfl,e0.bare,Un.kept hk,⟨_,x.toInCall.ns,λi y v h1 h2 h3=>?_⟩,λy c h=>⟨_,x.cell y c h⟩,e0.hok.fresh (Pd _),λy c h=>?_,λp hp=>absurd (show p∈([]:List (Addr×Obj))from hp) (by simp),e0.hok.kept hk,?_⟩
 .exact name_of_addr x.apart (QH h1) (QH h2)
 .have hy:scope.names.lookup y=some .cell\/scope.names.lookup y=some .free:=hy
  rcases hy with hy|hy
  .exact yi hy
  .exact absurd rfl (S.nofree _ (QH hy))
 .exact QY (x.above y c (QH h))
 .have hi:i<vs.length:=by
   unfold start at h2
   by_cases hi:i<vs.length
   .exact hi
   .rw[P7 (by simpa using hi)]at h2
    rw[Q4]at h2
    split at h2<;>cases h2
  have ha:vs[i]? =some v:=by
   unfold start at h2
   rw[PJ (by simpa using hi),Pt]at h2
   cases e:vs[i]? with
   |none=>rw[e]at h2;cases h2
   |some a=>rw[e]at h2;cases h2;rfl
  let⟨u,hu,rv⟩:=r.get ha
  have hp:ps[i]? =some y:=by
   rw[<-S.pre,List.getElem?_take_of_lt (@AT)];exact h1
  have ndP:ps.Nodup:=by rw[<-S.pre];exact S.nd.sublist (List.take_sublist _ _)
  refine⟨u,rv,?_⟩
  rcases S.par y (Pn hp)with k|k
  .exact .inl ⟨k,uB ndP hp hu k⟩
  .obtain⟨c,e⟩:=yi k
   refine .inr ⟨.inl k,c,e,?_⟩
   have q:=x.cell y c e
   rw[uj ndP hp hu (by show scope.names.lookup y≠_;rw[k];decide)]at q
   exact q
 .exact e0.hok.fresh (QY (x.above y c (QH h)))
 .unfold start
  show _=N.length
  rw[P0,Pc,RE]
  omega
theorem IW{CX:BR}{P:Program}{w:World}{K:Frag}{mg:Str->Option Value}{base:Heap}{k:Nat}{f:Addr}{name qual:Str}{params:Arguments}{body:List Stmt}{scope:Scope}{dV kV doc pm cdv ct oc:Value}{an od:Option Addr}
  {osl:Array (Option Value)} {N ps:List Str} {sp:Sp} (lk:K.lookup f=some ⟨oc,od,.func (PySem.W.fnOf name qual params body scope dV kV doc pm an cdv ct),osl⟩) (hcd:PySem.W.codeIn K cdv qual=true) (S:aH N ps scope)
  (len:∀vs H Q E,sp vs H Q E->vs.length=ps.length)
  (hbody:∀(A:Around) (outer:List Env) (s:Shared) (H:Hp) (vs:List V) (Q:VK) (E:XK),fV k (A.deeper (envOfC qual scope s.heap.objs.size f cdv))->sp vs H Q E->
   ∃t,ur (sV CX P w K mg base N qual scope f cdv A outer s H E) body t/\t {nx:=λ_ H'=>Q .non H',rt:=Q} (start N vs) H) :
  gS P w K mg base CX (k+1) f (PySem.W.fnOf name qual params body scope dV kV doc pm an cdv ct) ps sp:=by
 refine⟨len,λA outer s H args us vs Q E hr e0 hb r hsp=>?_⟩
 have hl:=len _ _ _ _ hsp
 have KX:K.In s.heap:=e0.mod.kin.keeps λb o e=>(e0.bs b o e).1
 have lim:s.heap.NoLimit:=e0.mod.nolimit.keeps λb o e=>(e0.bs b o e).1
 have hkind:∀y∈ps.zip us,scope.names.lookup y.1=some .local\/(scope.names.lookup y.1=some .cell/\((cellsFrom (s.heap.objs.size+1) scope.names []).lookup y.1).isSome=true):=λ⟨n,v⟩ hy=>by
  rcases S.par n (List.of_mem_zip hy).1 with q|q
  .exact .inl q
  .exact .inr ⟨q,PySem.W.cellsFrom_some _ _ _ (.inl q)⟩
 refine codeAny_call_function hr.depth (KX _ _ lk) rfl S.co S.gen rfl (PySem.W.codeRec_of KX hcd) (hb _ _ _ _ (wpAny_newFunctionEnv_cells S.kind hkind λenv he s1 x=>?_))
 subst he
 refine⟨lim.keeps x.toInCall.keep,codeAny_func ?_⟩
 let⟨t,ht,hq⟩:=hbody A outer s H vs Q E (hr.deeper _) hsp
 have I:Inv (sV CX P w K mg base N qual scope f cdv A outer s H E) [] (start N vs) H s1:=Ci S hr.hd e0 hl r x
 refine QQ (ht [] s1 (start N vs) H _ I hq) (λfl s' hs=>?_) λe s' hs=>hs
 have fin:∀{σ':St} {H':Hp} {v:V} {u:Value},Inv (sV CX P w K mg base N qual scope f cdv A outer s H E) [] σ' H' s'->RelV v u->Q v H'->CE outer P w H s Q u s':=
  λ{σ' H' v u} J rv q=>⟨v,H',J.os,J.bare,J.base,J.hok,rv,q⟩
 cases fl with
 |ret u=>
  let⟨v,σ',H',J,rv,q⟩:=hs
  exact fin J rv q
 |next=>
  let⟨σ',H',J,q⟩:=hs
  exact fin (v:=V.non) J rfl q
 |brk=>
  let⟨_,_,_,q⟩:=hs
  exact False.elim q
 |cont=>
  let⟨_,_,_,q⟩:=hs
  exact False.elim q
section
variable {X:Cx}{x:Str}{p pos:Pos}{e:Expr}{es:List Expr}{t:TA}{id T:String}{r:List V->Hp->VK->Prop}
def Ob(r:List V->Hp->VK->Prop)(t:TA):TE:=λσ H Q=>t σ H λvs H1=>r vs H1 Q
def lU(hc:cW X (.builtin id) r)(hg:Gl X x)(hm:X.mg x=none)(hv:bootBuiltins x=some (.builtin id))(ha:PA X (e::es) t)(hn:x≠"__name__":=by decide)(hdb:(x==("__debug__":Str))=false:=by decide)
  (he:starEach (e::es) X.env=(false,eval e X.env)::starEach es X.env:=by rfl) (hpl:(backTo pos (starEach es X.env)).any (·.1)=false:=by rfl):PE X (.Call (.Name x p) (e::es) [] pos) (Ob r t):=by
 intro pins s σ H Q I h
 exact R4 (l4 I hg hm hv (PyProof.Rows.callWith_builtin1 (cn (ha pos pins s σ H _ I h) λus s1 ⟨vs,H1,I1,r1,q1⟩=>hc pins s1 σ H1 vs us Q I1 r1 q1) he hpl) hn hdb)
def jM(hc:cW X (.type T) r)(hg:Gl X x)(hm:X.mg x=none)(hv:bootBuiltins x=some (.type T))(ha:PA X (e::es) t)(hn:x≠"__name__":=by decide)(hdb:(x==("__debug__":Str))=false:=by decide)
  (he:starEach (e::es) X.env=(false,eval e X.env)::starEach es X.env:=by rfl) (hpl:(backTo pos (starEach es X.env)).any (·.1)=false:=by rfl):PE X (.Call (.Name x p) (e::es) [] pos) (Ob r t):=by
 intro pins s σ H Q I h
 exact R4 (l4 I hg hm hv (QO (cn (ha pos pins s σ H _ I h) λus s1 ⟨vs,H1,I1,r1,q1⟩=>hc pins s1 σ H1 vs us Q I1 r1 q1) he hpl) hn hdb)
end
end L2
namespace HT
open PySem PyProof.Rows
section
open PySem.SeqAt
open PySem.AutoSeq1 (wpAny_loadPart')
open PySem.MeetsSeq PySem.MeetsSeq2 PySem.MeetsSeq3
end
section
variable {prog:Program}{w:World}{A:Around}{E:@B_}{s:Shared}
def uc(n d:Nat):Option Int->Nat
 |none=>d
 |some v=>if v<0 then(v+(n:Int)).toNat else min v.toNat n
def DW(n d:Nat):uc n d none=d:=rfl
def Hd(n d k:Nat):uc n d (some (k:Int))=min k n:=by
 show(if(k:Int)<0 then((k:Int)+(n:Int)).toNat else min (k:Int).toNat n)=min k n
 rw[Pg (@AT),Qe]
end
end HT
namespace L2
open PySem PySem.Spec PyProof.Rows
abbrev TO:=St->Hp->(Option Int->Hp->Prop)->Prop
def PO(X:Cx)(e:Option Expr)(t:TO):Prop:=
 ∀(pins:List (Addr×Obj)) (s:Shared) (σ:St) (H:Hp) (Q:Option Int->Hp->Prop),@At->t σ H Q->
  wpAny (model X.prog X.w) X.A (evalPart e X.env) (λu s'=>∃o H',Inv X pins σ H' s'/\IsPart u o/\Q o H') X.xe s
def HB:TO:=λ_ H Q=>Q none H
def Mr(t:TE):TO:=λσ H Q=>t σ H λx H1=>∃i,x=.int i/\Q (some i) H1
theorem intsAre_of{ns:List Int}:∀{us:List Value},Vals (ns.map V.int) us->IntsAre us ns:=by
 induction ns with
 |nil=>intro us r;rw[List.map_nil]at r;cases r;exact .nil
 |cons n ns ih=>
  intro us r
  rw[PL]at r
  cases r with
  |cons r1 r2=>
   let⟨t,e⟩:=r1
   subst e
   exact .cons n t (ih r2)
section
variable {X:Cx}{e:Expr}{te:TE}{lo hi:Option Expr}{tl th:TO}{pos p2:Pos}
def Gk:PO X none HB:=by
 intro pins s σ H Q I h
 rw[evalPart_none]
 exact Pa ⟨none,H,I,.none,h⟩
def Iv(h:PE X e te):PO X (some e) (Mr te):=by
 intro pins s σ H Q I hw
 rw[evalPart_some]
 refine cn (h pins s σ H _ I hw) λu s1 ⟨x,H1,I1,r1,q1⟩=>?_
 obtain⟨i,rfl,q⟩:=q1
 obtain⟨t,rfl⟩:=r1
 exact⟨some i,H1,I1,.int i t,q⟩
def ON(X:Cx)(r:V->Option Int->Option Int->Hp->VK->Prop):Prop:=
 ∀(pins:List (Addr×Obj)) (s:Shared) (σ:St) (H:Hp) (x:V) (v vl vu:Value) (lo hi:Option Int) (sl:Addr) (Q:VK),@At->RelV x v->s.heap.IsSliceOf sl vl vu .none->IsPart vl lo->IsPart vu hi->r x lo hi H Q->
  ∃T id,typeLookup (.type T) "__getitem__"=pure (some (.builtin id))/\s.TypeIs v T/\wpAny (model X.prog X.w) X.A (getItem v (.ref sl)) (EP X pins σ Q) X.xe s
def O0(r:V->Option Int->Option Int->Hp->VK->Prop)(te:TE)(tl th:TO):TE:=λσ H Q=>te σ H λx H1=>tl σ H1 λl H2=>th σ H2 λu H3=>r x l u H3 Q
def C7{r:V->Option Int->Option Int->Hp->VK->Prop}(hr:ON X r)(he:PE X e te)(hl:PO X lo tl)(hu:PO X hi th):PE X (.Subscript e (.Slice lo hi none p2) pos) (O0 r te tl th):=by
 intro pins s σ H Q I h
 refine Subscript_ (cn (he pins s σ H _ I h) λv s1 ⟨x,H1,I1,r1,q1⟩=>(wpAny_Slice (cn (hl pins s1 σ H1 _ I1 q1) λvl s2 ⟨l,H2,I2,pl,q2⟩=>cn (hu pins s2 σ H2 _ I2 q2) λvu s3 ⟨u,H3,I3,pu,q3⟩=>?_)))
 rw[evalPart_none]
 refine Pa ?_
 have I4:Inv X pins σ H3 {s3 with heap:=s3.heap.push {cls:=.type "slice",data:=.fields #[vl,vu,.none]}}:=I3.kept λb ob q=>Pb _ q
 let⟨T,id,hT,ht,hg⟩:=hr pins {s3 with heap:=s3.heap.push {cls:=.type "slice",data:=.fields #[vl,vu,.none]}} σ H3 x v vl vu l u s3.heap.objs.size Q I4 r1 (Heap.IsSliceOf.new ..) pl pu q3
 exact tail_any ht hT hg (by with_unfolding_all rfl)
def CI(xs:List V)(lo hi:Option Int):List V:=(xs.drop (HT.uc xs.length 0 lo)).take (HT.uc xs.length xs.length hi-HT.uc xs.length 0 lo)
def xh(xs:List V)(lo hi:Option Int):(CI xs lo hi).length<=xs.length:=by
 unfold CI
 rw[QR,List.length_drop]
 omega
end
def wW(n:Nat)(i:Int):Option Nat:=if 0<=i then(if i<n then some i.toNat else none)else if -(n:Int)<=i then some (i+n).toNat else none
def lX{α:Type}(xs:List α)(i:Int):Option α:=(wW xs.length i).bind λj=>xs[j]?
def Ay{n:Nat}{i:Int}{j:Nat}(h:wW n i=some j):seqIndex? i n=some j/\j<n/\ -(n:Int)<=i/\i<n:=by
 unfold wW at h
 by_cases h0:0<=i
 .rw[Pe h0]at h
  by_cases h1:i<n
  .rw[Pe h1]at h
   have e:i.toNat=j:=Option.some.inj h
   exact⟨by rw[seqIndex_of h0 h1,e],@AT,@AT,h1⟩
  .rw[Pg h1]at h;cases h
 .rw[Pg h0]at h
  by_cases h1: -(n:Int)<=i
  .rw[Pe h1]at h
   have e:(i+n).toNat=j:=Option.some.inj h
   exact⟨by rw[seqIndex_neg (@AT) h1,e],@AT,h1,@AT ⟩
  .rw[Pg h1]at h;cases h
theorem uP{α:Type}{xs:List α}{i:Int}{v:α}(h:lX xs i=some v):∃j,seqIndex? i xs.length=some j/\xs[j]? =some v/\j<xs.length/\ -(xs.length:Int)<=i/\i<xs.length:=by
 unfold lX at h
 cases e:wW xs.length i with
 |none=>rw[e]at h;cases h
 |some j=>
  rw[e]at h
  let⟨h1,h2,h3,h4⟩:=Ay e
  exact⟨j,h1,h,h2,h3,h4⟩
def qg{α:Type}{xs:List α}{j:Nat}{v:α}(h:xs[j]? =some v):lX xs (j:Int)=some v:=by
 have hj:j<xs.length:=(Pw.mp h).1
 have e:wW xs.length (j:Int)=some j:=by
  unfold wW
  rw[Pe (@AT),Pe (@AT)];simp
 unfold lX;rw[e];exact h
def AI(b:Expr):Prop:=∀o i,subscripted b false o i=operate [o,i] (getItem o i)
def FH(X:Cx)(r:R2):Prop:=
 ∀(value slice:Expr) (pins:List (Addr×Obj)) (s:Shared) (σ:St) (H:Hp) (x y:V) (v u:Value) (Q:VK),@At->RelV x v->RelV y u->r x y H Q->
  subscripted slice false v u=operate [v,u] (getItem v u)->wpAny (model X.prog X.w) X.A (subscriptTail value slice v u) (EP X pins σ Q) X.xe s
def OH(X:Cx)(id:String)(r:V->List V->Hp->VK->Prop):Prop:=
 ∀(pins:List (Addr×Obj)) (s:Shared) (σ:St) (H:Hp) (x:V) (xs:List V) (v:Value) (us:List Value) (Q:VK),@At->RelV x v->Vals xs us->r x xs H Q->
  wpAny (model X.prog X.w) X.A (call (.builtin id) (v::us)) (EP X pins σ Q) X.xe s
section
variable {X:Cx}{a b:Expr}{ta tb:TE}{pos:Pos}
def FH.or{r r':R2}(h:FH X r)(h':FH X r'):FH X (λx y H Q=>r x y H Q\/r' x y H Q):=by
 intro value slice pins s σ H x y v u Q I rx ry q hs
 rcases q with q|q
 .exact h value slice pins s σ H x y v u Q I rx ry q hs
 .exact h' value slice pins s σ H x y v u Q I rx ry q hs
def mO{r:R2}(hr:FH X r)(ha:PE X a ta)(hb:PE X b tb)(hs:AI b):PE X (.Subscript a b pos) (Nb r ta tb):=by
 intro pins s σ H Q I h
 exact Subscript_ (Ks ha hb I h λv u s2 x y H2 I2 rx ry q=>hr a b pins s2 σ H2 x y v u Q I2 rx ry q (hs _ _))
def JY(K:Frag):R2:=λx y H Q=>∃p xs i v,x=.ref p/\y=.int i/\fU K H p xs/\lX xs i=some v/\Q v H
def Mp(K:Frag):R2:=λx y H Q=>∃p xs i v,x=.ref p/\y=.int i/\fu K H p xs/\lX xs i=some v/\Q v H
def LZ:R2:=λx y H Q=>∃z i c,x=.str z/\y=.int i/\z.length<=sizeLine/\lX z.cps.toList i=some c/\Q (.str ⟨#[c]⟩) H
def iC:FH X (JY X.K):=by
 intro value slice pins s σ H x y v u Q I rx ry h hs
 obtain⟨p,xs,i,z,rfl,rfl,hq,he,q⟩:=h
 cases rx
 obtain⟨t,rfl⟩:=ry
 let⟨its,r,pl,hz⟩:=I.list hq
 let⟨j,h1,h2,h3,h4,h5⟩:=uP he
 let⟨w,ew,rw'⟩:=r.get h2
 have hl:=r.length
 have hn:=o4
 have fin:EP X pins σ Q w s:=⟨z,H,I,rw',q⟩
 by_cases h0:0<=i
 .have hj:i.toNat=j:=by
   rw[seqIndex_of h0 h5]at h1
   exact Option.some.inj h1
  exact item_listR pl.isList h0 (@AT) (by rw[hj];simpa using ew) fin hs
 .have hj:(i+(its.toArray.size:Int)).toNat=j:=by
   rw[seqIndex_neg (@AT) h4]at h1
   rw[PM,<-hl]
   exact Option.some.inj h1
  exact subscriptTail_builtinR pl.isList.typeIs slot_list_getitem.lookup
   (wpAny_getItem_list_neg pl.isList (@AT) (by rw[PM]<;>omega) (@AT) (by rw[hj];simpa using ew) ⟨rfl,fin⟩) hs
def KO:FH X (Mp X.K):=by
 intro value slice pins s σ H x y v u Q I rx ry h hs
 obtain⟨p,xs,i,z,rfl,rfl,hq,he,q⟩:=h
 cases rx
 obtain⟨t,rfl⟩:=ry
 let⟨its,r,pl,hz⟩:=I.tuple hq
 let⟨j,h1,h2,h3,h4,h5⟩:=uP he
 let⟨w,ew,rw'⟩:=r.get h2
 have hl:=r.length
 have hn:=o4
 have fin:EP X pins σ Q w s:=⟨z,H,I,rw',q⟩
 exact subscriptTail_builtinR pl.typeIs slot_tuple_getitem.lookup
  (getItem_tuple pl (@AT) (@AT) (by rw[PM,<-hl];exact h1) (by simpa using ew) ⟨rfl,fin⟩) hs
def Ko:FH X LZ:=by
 intro value slice pins s σ H x y v u Q I rx ry h hs
 obtain⟨z,i,c,rfl,rfl,hz,he,q⟩:=h
 obtain⟨t,rfl⟩:=rx
 obtain⟨t',rfl⟩:=ry
 let⟨j,h1,h2,h3,h4,h5⟩:=uP he
 have hl:z.cps.toList.length=z.length:=by simp[Str.length]
 rw[hl]at h1 h4 h5
 have hn:=o4
 exact tail_any (typeIs_str s z t) slot_str_getitem.lookup (getItem_str (by
  have e1:decide (i < -(2^63:Int))=false:=Px (@AT)
  have e2:decide (i>=2^63)=false:=Px (@AT)
  rw[e1,e2,Bool.or_false]) (by rw[h1];simpa using h2) ⟨.str ⟨#[c]⟩,H,I.tok _,⟨_,rfl⟩,q⟩) hs
def OK(K:Frag):R2:=λx y H Q=>JY K x y H Q\/Mp K x y H Q\/LZ x y H Q
def bc:FH X (OK X.K):=iC.or (KO.or Ko)
def zM(its:List Value)(n j:Nat)(u:Value):Obj.mapSeq (·.setIfInBounds j u) {cls:=.type "list",data:=.seq its.toArray n}={cls:=.type "list",data:=.seq (its.set j u).toArray n}:=by
 simp[Obj.mapSeq]
def Inv.lst{pins:List (Addr×Obj)}{σ:St}{H:Hp}{s:Shared}{p:Addr}{xs:List V}(I:@At)(h:H p=some (.lst xs)) :
  ∃(its:List Value) (n:Nat),Vals xs its/\s.heap.get? p=some {cls:=.type "list",data:=.seq its.toArray n}/\xs.length<=sizeLine:=by
 let⟨z,its,n,r,e⟩:=I.hok p _ h
 exact⟨its,n,r,e,z⟩
def Inv.lstUpd{pins:List (Addr×Obj)}{σ:St}{H:Hp}{s:Shared}{p:Addr}{xs ys:List V}{its its':List Value}{n n':Nat}{f:Obj->Obj}(I:@At)(h:H p=some (.lst xs))
  (ho:s.heap.get? p=some {cls:=.type "list",data:=.seq its.toArray n}) (hf:f {cls:=.type "list",data:=.seq its.toArray n}={cls:=.type "list",data:=.seq its'.toArray n'}) (r:Vals ys its') (hz:ys.length<=sizeLine) (t:Nat) :
  Inv X pins σ (upd H p (.lst ys)) {s with heap:=s.heap.update p f,toks:=t}:=by
 have e:(s.heap.update p f).get? p=some {cls:=.type "list",data:=.seq its'.toArray n'}:=by
  rw[PY f ho (by rw[hf]<;>rfl),hf]
 refine I.write (by rw[h];trivial) (.inl rfl) (λb u hb q=>(Qm _ _ (Ne.symm hb)).trans q) ⟨_,e⟩ ?_
 exact⟨hz,its',n',r,e⟩
def LN:V->V->V->Hp->(Hp->Prop)->Prop:=λo i v H Q=>∃p xs k j,o=.ref p/\i=.int k/\H p=some (.lst xs)/\wW xs.length k=some j/\Q (upd H p (.lst (xs.set j v)))
def set_list:wa X LN:=by
 intro pins s σ H o i v ov iv u Q I ro ri rv h
 obtain⟨p,xs,k,j,rfl,rfl,hp,hj,q⟩:=h
 cases ro
 obtain⟨t,rfl⟩:=ri
 let⟨its,n,r,ho,hz⟩:=I.lst hp
 let⟨h1,h2,h3,h4⟩:=Ay hj
 have hl:=r.length
 have hn:=o4
 have I':Inv X pins σ (upd H p (.lst (xs.set j v))) {s with heap:=s.heap.update p (Obj.mapSeq (·.setIfInBounds j u))}:=
  I.lstUpd hp ho (zM its n j u) (r.set rv j) (by rw[QM];exact hz) s.toks
 by_cases h0:0<=k
 .have hk:k.toNat=j:=by
   rw[seqIndex_of h0 h4]at h1
   exact Option.some.inj h1
  exact PySem.W.ki_setAt ho h0 (@AT) (by rw[PM,<-hl];exact h4) (by rw[hk];exact⟨_,I',q⟩)
 .have hk:(k+(its.toArray.size:Int)).toNat=j:=by
   rw[seqIndex_neg (@AT) h3]at h1
   rw[PM,<-hl]
   exact Option.some.inj h1
  exact PySem.W.ki_setBack ho (@AT) (by rw[PM,<-hl];exact h3) (@AT) (by rw[hk];exact⟨_,I',q⟩)
def v7(lo hi:Option Int)(n:Nat):(sliceBounds lo hi none n).1=((HT.uc n 0 lo:Nat):Int)/\(sliceBounds lo hi none n).2.1=((HT.uc n n hi:Nat):Int)/\(sliceBounds lo hi none n).2.2=1:=by
 refine⟨?_,?_,rfl⟩
 .cases lo with
  |none=>simp[sliceBounds,HT.uc]
  |some i=>
   simp only[sliceBounds,HT.uc,Option.getD_none,show(1:Int)>0 by decide,Qn]
   by_cases h:i<0
   .simp only[h,Qn]<;>omega
   .simp only[h,Qb]<;>omega
 .cases hi with
  |none=>simp[sliceBounds,HT.uc]
  |some i=>
   simp only[sliceBounds,HT.uc,Option.getD_none,show(1:Int)>0 by decide,Qn]
   by_cases h:i<0
   .simp only[h,Qn]<;>omega
   .simp only[h,Qb]<;>omega
def sJ(its:List Value)(lo hi:Option Int):slicePick its.toArray lo hi none=((its.drop (HT.uc its.length 0 lo)).take (HT.uc its.length its.length hi-HT.uc its.length 0 lo)).toArray:=by
 let⟨h1,h2,h3⟩:=v7 lo hi its.toArray.size
 unfold slicePick
 rw[h1,h2,h3]
 simp only[sliceRange_one,pick_run,PM]<;>rfl
def Nx(K:Frag):V->Option Int->Option Int->Hp->VK->Prop:=λx lo hi H Q=>∃a xs,x=.ref a/\fU K H a xs/\∀p,H p=none->Q (.ref p) (upd H p (.lst (CI xs lo hi)))
def Ha:ON X (Nx X.K):=by
 intro pins s σ H x v vl vu lo hi sl Q I rx hs pl pu h
 obtain⟨a,xs,rfl,hx,q⟩:=h
 cases rx
 let⟨its,r,ht,hz⟩:=I.list hx
 have hlen:=r.length
 refine⟨"list",_,slot_list_getitem.lookup,ht.isList.typeIs,?_⟩
 refine wpAny_getItem_list_slice ht.isList hs pl pu .none (by simp) ?_ (by rw[PM]<;>omega)
 rw[sJ,<-hlen]
 refine⟨.ref s.heap.objs.size,_,I.laid (λb ob q=>Pb _ q) (Pd _) ?_,rfl,q _ (I.hok.fresh (Pd _))⟩
 exact⟨Qp (xh xs lo hi) hz,_,0,(r.drop (HT.uc xs.length 0 lo)).take (HT.uc xs.length xs.length hi-HT.uc xs.length 0 lo),Pl _ rfl⟩
def vM:cW X (.type "list") (λxs H Q=>∃p ys,xs= [.ref p]/\(fU X.K H p ys\/fu X.K H p ys)/\∀l,H l=none->Q (.ref l) (upd H l (.lst ys))):=by
 intro pins s σ H xs us Q I r h
 obtain⟨p,ys,rfl,hq,q⟩:=h
 obtain⟨u,rfl,rx⟩:=vals1 r
 cases rx
 have fin:∀(its:List Value),Vals ys its->ys.length<=sizeLine->∀(h':Heap) (c':Nat),(∀b o',s.heap.get? b=some o'->h'.get? b=some o')->
   h'.get? s.heap.objs.size=some {cls:=.type "list",dict:=none,data:=.seq its.toArray c',slots:=#[]}->EP X pins σ Q (.ref s.heap.objs.size) {s with heap:=h'}:=λits r' hz h' c' kp e=>
  ⟨.ref s.heap.objs.size,_,I.laid kp (Pd _) (show bE X.prog X.w _ h' _ (.lst ys)from⟨hz,its,c',r',e⟩),rfl,q _ (I.hok.fresh (Pd _))⟩
 rcases hq with hq|hq
 .let⟨its,r',pl,hz⟩:=I.list hq
  have hlen:=r'.length
  let⟨o,ho,hc,n,hd⟩:=pl.isList
  exact call_list_seq p (.inl rfl) ho hc hd (λh' c' kp e=>fin its r' hz h' c' kp e) (by simp only[PM]<;>omega)
 .let⟨its,r',pl,hz⟩:=I.tuple hq
  have hlen:=r'.length
  let⟨o,ho,hc,n,hd⟩:=pl
  exact call_list_seq p (.inr rfl) ho hc hd (λh' c' kp e=>fin its r' hz h' c' kp e) (by simp only[PM]<;>omega)
def bX:cW X (.type "tuple") (λxs H Q=>∃p ys,xs= [.ref p]/\((fU X.K H p ys/\∀l,H l=none->Q (.ref l) (upd H l (.tup ys)))\/(fu X.K H p ys/\Q (.ref p) H))):=by
 intro pins s σ H xs us Q I r h
 obtain⟨p,ys,rfl,h⟩:=h
 obtain⟨u,rfl,rx⟩:=vals1 r
 cases rx
 rcases h with⟨hq,q⟩|⟨hq,q⟩
 .let⟨its,r',pl,hz⟩:=I.list hq
  have hlen:=r'.length
  refine call_tuple_list pl.isList (λh' kp=>?_) (by simp only[PM]<;>omega)
  have I1:Inv X pins σ H {s with heap:=h'}:=I.kept kp
  have I2:Inv X pins σ (upd H h'.objs.size (.tup ys)) {s with heap:=h'.push {cls:=.type "tuple",data:=.seq its.toArray}}:=
   I1.laid (λb o e=>Pb _ e) (Pd _) (show bE X.prog X.w _ _ _ (.tup ys)from⟨hz,its,r',v5.new _ _⟩)
  exact⟨.ref h'.objs.size,_,I2,rfl,q _ (I1.hok.fresh (Pd _))⟩
 .let⟨its,r',pl,hz⟩:=I.tuple hq
  exact call_tuple_same pl ⟨.ref p,H,I,rfl,q⟩
def OI(K:Frag)(T:String)(x:V)(H:Hp):Prop:=match x with
 | .str _=>T="str"
 | .int _=>T="int"
 | .ref p=>(T="list"/\∃xs,fU K H p xs)\/(T="tuple"/\∃o,K.lookup p=some o/\o.cls=.type "tuple"/\o.dict=none)\/
   (T="dict"/\((∃kvs,H p=some (.dK kvs))\/∃kvs ep,H p=some (.dT kvs ep)))\/(T="set"/\∃S n,H p=some (.set S n))
 |_=>False
theorem Lm{pins:List (Addr×Obj)}{σ:St}{H:Hp}{s:Shared}{T:String}{x:V}{v:Value}(I:@At)(r:RelV x v)(ty:OI X.K T x H) :
  s.TypeIs v T/\∀a,v=.ref a->∃ob,s.heap.get? a=some ob/\ob.dict=none:=by
 cases x with
 |str z=>
  obtain⟨t,rfl⟩:=r
  cases(show T="str"from ty)
  exact⟨typeIs_str s z t,λ_ e=>nomatch e⟩
 |int i=>
  obtain⟨t,rfl⟩:=r
  cases(show T="int"from ty)
  exact⟨typeIs_int s i t,λ_ e=>nomatch e⟩
 |ref p=>
  cases r
  rcases ty with⟨rfl,xs,hq⟩|⟨rfl,o,hk,hc,hd⟩|⟨rfl,hk⟩|⟨rfl,S,n,hk⟩
  .let⟨its,_,pl,_⟩:=I.list hq
   refine⟨pl.isList.typeIs,λa e=>?_⟩
   cases e
   let⟨o,n,e,c,hd,_⟩:=pl
   exact⟨o,e,hd⟩
  .refine⟨⟨o,I.kIn p o hk,hc⟩,λa e=>?_⟩
   cases e
   exact⟨o,I.kIn _ o hk,hd⟩
  .have z:∃o,s.heap.get? p=some o/\o.ExactDict:=by
    rcases hk with⟨kvs,hk⟩|⟨kvs,_,hk⟩
    .let⟨_,_,_,_,o,_,_,e,ex,_⟩:=I.hok p _ hk
     exact⟨o,e,ex⟩
    .let⟨_,_,_,_,o,_,e,ex,_⟩:=I.hok p _ hk
     exact⟨o,e,ex⟩
   let⟨o,e,ex⟩:=z
   refine⟨⟨o,e,ex.1⟩,λa e2=>?_⟩
   cases e2
   exact⟨o,e,ex.2.1⟩
  .let⟨o,_,_,_,e,ex,_⟩:=I.hok p _ hk
   refine⟨⟨o,e,ex.1⟩,λa e2=>?_⟩
   cases e2
   exact⟨o,e,ex.2.1⟩
 |_=>exact False.elim ty
def O2(K:Frag)(T:String)(r:V->List V->Hp->VK->Prop)(to:TE)(t:TA):TE:=λσ H Q=>to σ H λx H1=>OI K T x H1/\t σ H1 λxs H2=>r x xs H2 Q
variable {o e:Expr}{es:List Expr}{to:TE}{t:TA}{name:Str}{apos cpos:Pos}{T id:String}{r:V->List V->Hp->VK->Prop}
def Bh(pa:PlainAttrs T)(slot:Slot T name id)(hty:typeOf (.builtin id)=pure (.type "method_descriptor"))(hm:OH X id r)(ho:PE X o to)(ha:PA X (e::es) t)
  (hbase:attributeBase o name X.env (eval o X.env)=eval o X.env:=by rfl)
  (hfew:((backTo cpos (starEach (e::es) X.env)).all (λx=> !x.1)&&(backToKw cpos (keywordEach [] X.env)).all (λx=>x.1.isSome)
   && decide ((e::es).length+([]:List Keyword).length+(if([]:List Keyword).isEmpty then 0 else 1)<30))=true:=by rfl)
  (hline:(apos.endLine==cpos.line)=true:=by rfl) (hs:starEach (e::es) X.env=(false,eval e X.env)::starEach es X.env:=by rfl) (hplain:(backTo cpos (starEach es X.env)).any (·.1)=false:=by rfl) :
  PE X (.Call (.Attribute o name apos) (e::es) [] cpos) (O2 X.K T r to t):=by
 intro pins s σ H Q I h
 refine wpAny_Call_method_late hbase hfew hline rfl (cn (ho pins s σ H _ I h) λv s1 ⟨x,H1,I1,r1,ty,q1⟩=>?_)
 let⟨h1,h2⟩:=Lm I1 r1 ty
 refine⟨T,id,pa,slot,hty,h1,h2,?_⟩
 have hA:=ha cpos pins s1 σ H1 _ I1 q1
 rw[hs]at hA ⊢
 refine Calls.callWith_builtin (by show(false||(backTo cpos (starEach es X.env)).any (·.1))=false;rw[hplain]<;>rfl) (Calls.evalArgs_plain ?_)
 exact cn hA λus s2 ⟨vs,H2,I2,r2,q2⟩=>hm pins s2 σ H2 x vs v us Q I2 r1 r2 q2
end
def Ng(X:Cx)(id:String)(r:V->List V->Hp->VK->Prop):Prop:=
 ∀(pins:List (Addr×Obj)) (s:Shared) (σ:St) (H:Hp) (x:V) (xs:List V) (v:Value) (us:List Value) (Q:VK),@At->RelV x v->Vals xs us->r x xs H Q->
  wpAny (model X.prog X.w) X.A (call (.builtin id) (v::us)) (EP X pins σ Q) X.xe s
theorem Vals.one:∀{x:V} {us:List Value},Vals [x] us->∃u,us= [u]/\RelV x u
 |_,_,.cons r .nil=>⟨_,rfl,r⟩
theorem Vals.eraseIdx:∀{xs:List V} {us:List Value} (i:Nat),Vals xs us->Vals (xs.eraseIdx i) (us.eraseIdx i)
 |_,_,_,.nil=>.nil
 |_,_,0,.cons _ t=>t
 |_,_,i+1,.cons r t=>.cons r (Vals.eraseIdx i t)
theorem Vals.rep{xs:List V}{us:List Value}(h:Vals xs us):∀k:Nat,Vals (List.replicate k xs).flatten (List.replicate k us).flatten
 | 0=>.nil
 |k+1=>by
  rw[QC,QC,Ro,Ro]
  exact Vals.append h (Vals.rep h k)
theorem tS{α:Type}:∀(l:List α) (i:Nat),(l.eraseIdx i).length<=l.length
 | [],_=>Pd _
 |_::_,0=>R8 _
 |_::r,i+1=>Nat.succ_le_succ (tS r i)
theorem foldl_rep(its:List Value):∀(k:Nat) (acc:List Value),
  List.foldl (λx1 x2=>x1++x2) acc.toArray (List.replicate k its.toArray)=(acc++(List.replicate k its).flatten).toArray
 | 0,acc=>by simp
 |k+1,acc=>by
  have e:acc.toArray++its.toArray=(acc++its).toArray:=by simp
  have e2:(acc++its)++(List.replicate k its).flatten=acc++(List.replicate (k+1) its).flatten:=by
   rw[QC,Ro,QV]
  rw[<-e2,<-foldl_rep its k (acc++its),<-e,QC,Rk]
section
variable {X:Cx}{pins:List (Addr×Obj)}{σ:St}{H:Hp}{s:Shared}{l b:Addr}{xs ys zs:List V}
def Inv.lset{its its':List Value}{n:Nat}{f:Array Value->Array Value}{t':Nat}(I:@At)(hH:H l=some (.lst xs))
  (e:s.heap.get? l=some {cls:=.type "list",data:=.seq its.toArray n}) (hf:f its.toArray=its'.toArray) (hv:Vals ys its') (hz:ys.length<=sizeLine) :
  Inv X pins σ (upd H l (.lst ys)) {s with heap:=s.heap.update l (Obj.mapSeq f),toks:=t'}:=by
 have q:=PySem.IsL.update e f
 rw[hf]at q
 refine I.write (by rw[hH];exact trivial) (.inl rfl) (λb' u hb hu=>(Qm s.heap (Obj.mapSeq f) (Ne.symm hb)).trans hu) ⟨_,q⟩ ?_
 exact⟨hz,its',_,hv,q⟩
def Inv.lnew{its:List Value}{t':Nat}(I:@At)(hv:Vals ys its)(hz:ys.length<=sizeLine) :
  Inv X pins σ (upd H s.heap.objs.size (.lst ys)) {s with heap:=s.heap.push {cls:=.type "list",data:=.seq its.toArray},toks:=t'}:=
 I.laid (λ_ _ q=>Pb _ q) (Pd _) ⟨hz,its,0,hv,Pl _ rfl⟩
def Inv.fresh(I:@At):H s.heap.objs.size=none:=I.hok.fresh (Pd _)
def Inv.lstM(I:@At)(hH:H l=some (.lst xs)):xs.length<=sizeLine/\∃(its:List Value) (n:Nat),Vals xs its/\xs.length=its.length/\s.heap.get? l=some {cls:=.type "list",data:=.seq its.toArray n}:=by
 let⟨z,its,n,r,e⟩:=I.hok l _ hH
 exact⟨z,its,n,r,r.length,e⟩
def EB{n:Nat}(h:n<=sizeLine):Builtin.List.listTooLong n=false:=by
 unfold Builtin.List.listTooLong
 exact Px (@AT)
end
section
variable {X:Cx}
def G7:V->List V->Hp->VK->Prop:=λx vs H Q=>∃l xs y,x=.ref l/\vs= [y]/\H l=some (.lst xs)/\xs.length<sizeLine/\Q .non (upd H l (.lst (xs++[y])))
def o9:Ng X "list.append" G7:=by
 intro pins s σ H x vs v us Q I rx rv h
 obtain⟨l,xs,y,rfl,rfl,hH,hz,q⟩:=h
 cases rx
 obtain⟨u,rfl,ru⟩:=rv.one
 let⟨z,its,n,r,hl,e⟩:=I.lstM hH
 refine call_meets F.slot_list_append ⟨_,e,rfl⟩ F.entry_list_append (F.args_list_append_2 _ _) (PySem.list_append l its.toArray n u (by rw[PM];omega)) ⟨e,?_⟩
 refine⟨.non,_,I.lset hH e (by simp) (r.append (.cons ru .nil)) ?_,rfl,q⟩
 rw[P0,List.length_singleton]
 omega
def JQ:V->List V->Hp->VK->Prop:=λx vs H Q=>∃l xs i k y,x=.ref l/\vs= [.int i]/\H l=some (.lst xs)/\ -(2^63)<=i/\i<2^63/\seqIndex? i xs.length=some k/\xs[k]? =some y/\Q y (upd H l (.lst (xs.eraseIdx k)))
def Du:Ng X "list.pop" JQ:=by
 intro pins s σ H x vs v us Q I rx rv h
 obtain⟨l,xs,i,k,y,rfl,rfl,hH,h1,h2,hk,hy,q⟩:=h
 cases rx
 obtain⟨u,rfl,ru⟩:=rv.one
 obtain⟨t,rfl⟩:=ru
 let⟨z,its,n,r,hl,e⟩:=I.lstM hH
 let⟨w,hw,rw'⟩:=r.get hy
 refine call_meets F.slot_list_pop ⟨_,e,rfl⟩ F.entry_list_pop (F.args_list_pop_2 _ _)
  (MeetsSeq.list_pop_at l its.toArray n i t k w (fitsIndex_both h1 h2) (by rw[PM,<-hl];exact hk) (by rw[<-Rg];exact hw) (by rw[PM];omega)) ⟨e,?_⟩
 refine⟨y,_,I.lset hH e ?_ (r.eraseIdx k) ?_,rw',q⟩
 .show its.toArray.eraseIdxIfInBounds k=(its.eraseIdx k).toArray
  rw[List.eraseIdxIfInBounds_toArray]
 .have:=tS xs k
  omega
def Ol:R2:=λx y H Q=>∃l k xs,x=.ref l/\y=.int k/\H l=some (.lst xs)/\ -(2^63)<=k/\k<2^63/\xs.length*k.toNat<=sizeLine/\
 ∀p,H p=none->Q (.ref p) (upd H p (.lst (List.replicate k.toNat xs).flatten))
theorem len_rep{α:Type}(xs:List α)(k:Nat):(List.replicate k xs).flatten.length=k*xs.length:=by
 induction k with
 |zero=>simp
 |succ k ih=>rw[QC,Ro,P0,ih,Nat.succ_mul,Nat.add_comm]
def Em:pH X (binaryOp .Mult) Ol:=by
 intro pins s σ H x y v u Q I rx ry h
 obtain⟨l,k,xs,rfl,rfl,hH,h1,h2,hz,q⟩:=h
 cases rx
 obtain⟨t,rfl⟩:=ry
 let⟨z,its,n,r,hl,e⟩:=I.lstM hH
 have hlen:its.toArray.size*k.toNat<=sizeLine:=by rw[PM,<-hl];exact hz
 have hcap:¬its.toArray.size*k.toNat>(2^63-1)/8:=by
  have:(sizeLine:Nat)<=(2^63-1)/8:=by decide
  omega
 have hfit:¬(!Builtin.List.listFitsIndex k)=true:=by
  rw[fitsIndex_both h1 h2]
  exact PZ
 have hlong:¬Builtin.List.listTooLong (its.toArray.size*k.toNat)=true:=by
  rw[EB hlen]
  exact PZ
 have hnew:List.foldl (λx1 x2=>x1++x2) #[] (List.replicate (if its.toArray.isEmpty=true then 0 else k.toNat) its.toArray)=(List.replicate k.toNat its).flatten.toArray:=by
  have f0:∀m:Nat,List.foldl (λx1 x2=>x1++x2) #[] (List.replicate m its.toArray)=(List.replicate m its).flatten.toArray:=λm=>by
   have:=foldl_rep its m []
   rw[nil_append]at this
   exact this
  rw[f0]
  cases its with
  |nil=>simp
  |cons a r'=>rw[Pg (by simp)]
 refine wpAny_binaryOp_repeat_ref @A_ ⟨_,e,rfl⟩ (λs'=>typeIs_int s' k t) noFill_list_mul F.fills_int_mul F.slot_int_rmul repeat_list F.slot_int_index.lookup
  (call_meets F.slot_int_rmul (typeIs_int s k t) F.entry_int_rmul (F.args_int_rmul_2 _ _) (int___rmul___int_list k t l its.toArray n)
   ⟨e,rfl,⟨_,e,rfl⟩,call_meets F.slot_list_mul ⟨_,e,rfl⟩ F.entry_list_mul (F.args_list_mul_2 _ _) (AutoListH.list___mul___list_int_3 l its.toArray n k t hfit hcap hlong) ⟨e,?_⟩⟩)
 rw[hnew]
 exact⟨.ref _,_,I.lnew (r.rep k.toNat) (by rw[len_rep,Nat.mul_comm];exact hz),rfl,q _ I.fresh⟩
end
end L2
namespace Att
open PySem PySem.W PySem.Calls PyProof.Rows
theorem p4{P:Params}{h:Heap}:∀(ns:List Int) (vs:List Value),WellAll P h vs (ns.map WData.int)->IntsAre vs ns:=by
 intro ns
 induction ns with
 |nil=>
  intro vs w
  rw[List.map_nil]at w
  cases w
  exact .nil
 |cons n ns ih=>
  intro vs w
  rw[PL]at w
  cases w with
  |cons a b=>
   cases a
   exact .cons _ _ (ih _ b)
theorem Cp{l:OpenLaw}{n:Nat}(hn:l.most=some n){P:Params}{h:Heap}{args:List WData}{vals:List Value}
  (hpre:l.row.toRowW.claim.pre args=true) (hwl:WellAll P h vals args) :
  ∃a vs ns,vals= [Value.ref a]/\args= [WData.list (ns.map WData.int)]/\h.get? a=some {cls:=.type "list",data:=.seq vs.toArray}/\IntsAre vs ns/\ns.length<=n:=by
 have hsh:WShape.hasAll [] args [.list .int]=true:=(pre_splitW hpre).1
 have hc:l.pre.holds [] {args:=args}=true:=(pre_splitW hpre).2
 obtain⟨d,r,rfl,h1,h2⟩:=hasAllW_cons hsh
 obtain rfl:=hasAllW_nil h2
 obtain⟨xs,rfl,h3⟩:=hasW_list h1
 obtain⟨ns,rfl⟩:=items_int h3
 have hlen:ns.length<=n:=by
  unfold OpenLaw.pre at hc
  have h4:(WTm.not (.lt (.lit (.int (n:Int))) (.len (.arg 0)))).holds [] {args:=[.list (ns.map .int)]}=true:=by
   have h4:=(holds_andW hc).1
   rw[hn]at h4
   exact h4
  have h5:=condW_of h4 (w_not (w_lt w_lit (w_len_list (w_arg rfl))))
  rw[Pc]at h5
  refine Nat.le_of_not_lt λq=>?_
  have q':(n:Int)<((ns.length:Nat):Int):=@AT
  first
   | (rw[Pu q']at h5;exact absurd h5 @A_)
   | (simp at h5;omega)
 cases hwl with
 |cons w1 w2=>
  cases w2
  cases w1 with
  |list ho hall=>exact⟨_,_,ns,rfl,rfl,ho,p4 ns _ hall,hlen⟩
def B4(l:OpenLaw)(args:List WData):l.row.toRowW.claim.post args (.bool true) args=true:=
 postW_of
  (show WShape.has [] (.bool true) .bool=true by first|rfl|decide|simp[WShape.has,WShape.arms,WShape.armsAll])
  (show(WTm.eq .res (.lit (.bool true))).value [] {args:=args,res:=some (.bool true),after:=args}=some (.bool (true==true))from w_eq_bool (w_res rfl) w_lit) rfl
def x9{l:OpenLaw}{n:Nat}{q:Program}{loose:List Str}{XP:(Str->Option Value)->Heap->Prop}{YP:World->Heap->Prop}{d:DefRec}
  (hn:l.most=some n) (hdf:d.params.defaults= [])
  (call:∀(w:World) (s₀ s₁:Shared) (mg mb:Str->Option Value) (fa:Addr) (o:Obj) (pm cd doc:Value) (a:Addr) (vs:List Value) (ns:List Int),
   Ground q loose [] XP w s₀ mg mb s₁.heap->YP w s₁.heap->
   s₁.heap.get? fa=some o->o.data=.func (docDef d.name d.params d.body d.scope pm cd doc)->s₁.heap.CodeRec cd d.name->mg d.name=some (.ref fa)->
   s₁.heap.get? a=some {cls:=.type "list",data:=.seq vs.toArray}->IntsAre vs ns->ns.length<=n->s₁.gens=#[]->
   codeAny (model l.prog w) callerA (.call (.ref fa) ⟨[.ref a],[]⟩) (λr s'=>r=.ok (.ret (.bool true))/\OldK s₁.heap s'.heap/\s'.os=s₁.os/\AllBare s'.gens) s₁) :
  WalkO q loose XP YP l.row.toRowW d [] (λf vs=>PySem.call f vs):=by
 intro w s₀ s₁ mg mb G Y fa o pm cd doc dV kV ho hd hcd hD hmg hg args vals as hpre hlay hrd hwl hlo
 obtain rfl:dV=.none:=Dflts.none hD hdf
 obtain rfl:kV=.none:=Dflts.noKw hD
 obtain⟨a,vs,ns,rfl,rfl,hobj,hints,hlen⟩:=Cp hn hpre hwl
 refine enter_call (Sx (call w s₀ s₁ mg mb fa o pm cd doc a vs ns G Y ho (fd_plain hd) hcd hmg hobj hints hlen hg) λr s' hq=>?_)
 obtain⟨rfl,h2,h3,h4⟩:=hq
 exact⟨.inl ⟨.bool true,.bool true,[],rfl,λ_=>rfl,.bool true,B4 l _,λ_=>⟨List.Pairwise.nil,λ_ hm=>(nomatch hm)⟩⟩,h2,h3,h4⟩
end Att
namespace L2
open PySem PySem.Spec PyProof.Rows
theorem tO:∀{vs:List Value} {ns:List Int},IntsAre vs ns->Vals (ns.map V.int) vs
 |_,_,.nil=>.nil
 |_,_,.cons n t h=>.cons ⟨t,rfl⟩ (tO h)
def KD(H:Hp):Prop:=∀b,H b=none\/∃o xs,H b=some (.a8 o (.lst xs))
theorem Dc{P:Program}{w:World}{K:Frag}{mg mb:Str->Option Value}{CX:BR}{k:Nat}{fa a:Addr}{fd:FuncData}{x:Str}{sp:Sp}{s₁:Shared}{vs:List Value}{ns:List Int}
  (KX:K.In s₁.heap) (hns:s₁.heap.Ns mainGlobals mg) (hb:s₁.heap.Ns builtinsNs mb) (hbb:∀x:Str,x≠"__name__"->mb x=bootBuiltins x) (hlim:s₁.heap.NoLimit) (hsys:∃mm,s₁.heap.Ns sysModules mm) (hg:s₁.gens=#[])
  (ha:s₁.heap.get? a=some {cls:=.type "list",data:=.seq vs.toArray}) (hi:IntsAre vs ns) (hl:ns.length<=sizeLine) (hr:fV k callerA)
  (F:∀base:Heap,K.In base->base.Ns mainGlobals mg->gS P w K mg base CX k fa fd [x] sp) (hbind:∀(s:Shared) (u:Value),BindsTo s fd ⟨[u],[]⟩ [(x,u)])
  (hsp:∀H:Hp,KD H->fU K H a (ns.map V.int)->sp [.ref a] H (λv _=>v=.bl true) λ_ _ _=>False)
  (hCX:∀H e s',CX [] H s₁ (λ_ _ _=>False) e s'->False) :
  codeAny (model P w) callerA (.call (.ref fa) ⟨[.ref a],[]⟩) (λr s'=>r=.ok (.ret (.bool true))/\OldK s₁.heap s'.heap/\s'.os=s₁.os/\AllBare s'.gens) s₁:=by
 have rv:=tO hi
 have lenV:=hi.length
 have core:∀H:Hp,KD H->fU K H a (ns.map V.int)->lO P w H s₁.heap->(∀b,H b≠none->b=a)->(H a≠none->K.lookup a=none)->
   codeAny (model P w) callerA (.call (.ref fa) ⟨[.ref a],[]⟩) (λr s'=>r=.ok (.ret (.bool true))/\OldK s₁.heap s'.heap/\s'.os=s₁.os/\AllBare s'.gens) s₁:=by
  intro H hO hS hok hA hK
  have base_of:∀{b:Addr} {o:Obj},s₁.heap.get? b=some o->H b=none->(uU s₁.heap H).get? b=some o:=λe n=>C9 e n
  have noA:∀{b:Addr} {o:Obj} {es:Array DictEntry} {ep:Nat},s₁.heap.get? b=some o->o.data=.dict es ep->H b=none:=λ{b o es ep} e d=>by
   cases q:H b with
   |none=>rfl
   |some u=>
    have e':b=a:=hA b (by rw[q];simp)
    subst e'
    rw[ha]at e;cases e
    have d':Data.seq vs.toArray _=Data.dict es ep:=d
    cases d'
  have nsK:∀{b:Addr} {m:Str->Option Value},s₁.heap.Ns b m->(uU s₁.heap H).Ns b m:=λ{b m} ⟨o,es,ep,e,d,r⟩=>⟨o,es,ep,base_of e (noA e d),d,r⟩
  have hKb:K.In (uU s₁.heap H):=λb o e=>base_of (KX b o e) (by
   cases q:H b with
   |none=>rfl
   |some u=>
    have e':b=a:=hA b (by rw[q];simp)
    subst e'
    rw[hK (by rw[q];simp)]at e;cases e)
  have hM:Mod K mg (uU s₁.heap H):=⟨hKb,nsK hns,⟨mb,nsK hb,hbb⟩,let⟨mc,h1,h2⟩:=hlim;⟨mc,nsK h1,h2⟩,let⟨mm,h1⟩:=hsys;⟨mm,nsK h1⟩⟩
  have e0:Hz P w K mg (uU s₁.heap H) callerA [] s₁ H:=⟨rfl,hM,λb o e=>Hj e,Nat.le_of_eq (Cv _ _),trivial,λb hb=>absurd (show b∈([]:List Addr)from hb) (by simp),hok,.of_eq hg⟩
  refine Sx ((F _ hKb (nsK hns)).run callerA [] s₁ H ⟨[.ref a],[]⟩ [.ref a] [.ref a] _ _ hr e0 (hbind s₁ (.ref a)) (.cons rfl .nil) (hsp H hO hS)) λr s' h=>?_
  cases r with
  |error e=>exact(hCX H e s' h).elim
  |ok fl=>
   cases fl with
   |next=>exact False.elim h
   |brk=>exact False.elim h
   |cont=>exact False.elim h
   |ret u=>
    let⟨v,H',os,bare,un,hok',r',q⟩:=h
    have q':v=.bl true:=q
    subst q'
    obtain rfl:u=Value.bool true:=r'
    refine⟨rfl,OldK.of_keep λb o e=>?_,os,bare⟩
    cases q:H b with
    |none=>exact un.keep b o e q (by intro z;exact absurd (show b∈([]:List Addr)from z) (by simp)) (by simp)
    |some u=>
     rcases hO b with z|⟨ob,xs,z⟩
     .rw[q]at z;cases z
     .have z2:=un.frzs b ob _ z
      let⟨e1,_⟩:=hok b _ z
      let⟨e2,_⟩:=hok' b _ z2
      rw[e]at e1;cases e1
      exact e2
 cases hk:K.lookup a with
 |some o=>
  have e:=KX a o hk
  rw[ha]at e
  cases e
  refine core (λ_=>none) (λ_=>.inl rfl) (.inr ⟨_,vs.toArray,_,hk,rfl,rfl,rfl,by rw[PM,lenV];exact hl,by simpa using rv⟩) (λb u z=>by have z':(none:Option HO)=some u:=z;cases z') (λb z=>absurd rfl z) λz=>absurd rfl z
 |none=>
  refine core (λb=>if b=a then some (.a8 {cls:=.type "list",data:=.seq vs.toArray} (.lst (ns.map V.int)))else none) (λb=>?_) (.inl (.inr ⟨{cls:=.type "list",data:=.seq vs.toArray},Pe rfl⟩)) (λb u z=>?_) (λb z=>?_) λ_=>hk
  .by_cases hb:b=a
   .exact .inr ⟨_,_,Pe hb⟩
   .exact .inl (Pg hb)
  .by_cases hb:b=a
   .have z':=(Pe hb).symm.trans z
    cases z'
    subst hb
    exact⟨ha,by rw[Pc];exact hl,vs,_,rv,ha⟩
   .have z':=(Pg hb).symm.trans z
    cases z'
  .by_cases hb:b=a
   .exact hb
   .exact absurd (Pg hb) z
def IA{l:PySem.W.OpenLaw}{n k:Nat}{q:Program}{loose:List Str}{XP:(Str->Option Value)->Heap->Prop}{YP:World->Heap->Prop}{d:DefRec}{K:Params->Frag}{CX:World->BR}{sp:World->Sp}{x:Str}
  (hn:l.most=some n) (hn2:n<=sizeLine) (hdf:d.params.defaults= []) (hi:PyProof.Rows.importsNone q=true) (hr:fV k callerA)
  (hY:∀(w:World) (h:Heap),YP w h->(K w.params).In h)
  (F:∀(w:World) (mg:Str->Option Value) (fa:Addr) (h:Heap),(K w.params).In h->h.Ns mainGlobals mg->mg d.name=some (.ref fa)->
   ∃fd:FuncData,(∀(s:Shared) (u:Value),BindsTo s fd ⟨[u],[]⟩ [(x,u)])/\
    ∀base:Heap,(K w.params).In base->base.Ns mainGlobals mg->gS l.prog w (K w.params) mg base (CX w) k fa fd [x] (sp w))
  (hsp:∀(w:World) (H:Hp) (a:Addr) (ns:List Int),ns.length<=n->KD H->fU (K w.params) H a (ns.map V.int)->sp w [.ref a] H (λv _=>v=.bl true) λ_ _ _=>False)
  (hCX:∀(w:World) (H:Hp) (s:Shared) (e:Value) (s':Shared),CX w [] H s (λ_ _ _=>False) e s'->False) :
  PySem.W.WalkO q loose XP YP l.row.toRowW d [] (λf vs=>PySem.call f vs):=by
 refine Att.x9 hn hdf λw s₀ s₁ mg mb fa o pm cd doc a vs ns G Y ho hd hcd hmg hobj hints hlen hg=>?_
 have KX:=hY w _ Y
 let⟨fd,hb,hF⟩:=F w mg fa _ KX G.T.g hmg
 exact Dc KX G.T.g G.T.b G.T.builtins G.T.nolimit (let⟨mm,h1,_⟩:=(G.T.seer hi).mods;⟨mm,h1⟩) hg hobj hints (Qp hlen hn2) hr hF hb (λH hO hS=>hsp w H a ns hlen hO hS) λH e s'=>hCX w H s₁ e s'
def jw(s:Stmt):Arguments:=match s with
 | .FunctionDef _ a _ _ _ _ _ _ _ _=>a
 |_=>{posonlyargs:=[],args:=[],vararg:=none,kwonlyargs:=[],kw_defaults:=[],kwarg:=none,defaults:=[]}
def c8(s:Stmt):List Stmt:=match s with
 | .FunctionDef _ _ b _ _ _ _ _ _ _=>b
 |_=>[]
def aq(s:Stmt):Scope:=match s with
 | .FunctionDef _ _ _ _ _ _ sc _ _ _=>sc
 |_=>{kind:=.function,names:=[],isGenerator:=false,isCoroutine:=false}
abbrev J3:BR:=λ_ _ _ _ _ _=>False
abbrev E0:XK:=λ_ _ _=>False
def LX{X:Cx}:Passes J3 X E0:=λ_ _ _ _ _ _ _ h=>h.elim
structure FL(K:Frag)(x qual:Str)(st:Stmt)(f:Addr)(fd:FuncData):Prop where
 ex:∃(oc:Value) (od:Option Addr) (kV doc pm:Value) (an:Option Addr) (cdv ct:Value) (osl:Array (Option Value)),
  fd=PySem.W.fnOf x qual (jw st) (c8 st) (aq st) .none kV doc pm an cdv ct/\K.lookup f=some ⟨oc,od,.func fd,osl⟩/\PySem.W.codeIn K cdv qual=true
 kp:PySem.W.keepIn K (.ref f)=true
section
variable {P:Program}{w:World}{K:Frag}{mg:Str->Option Value}{base:Heap}
def FL.ok{x qual:Str}{st:Stmt}{f:Addr}{fd:FuncData}{N ps:List Str}{k:Nat}{sp:Sp}(F:FL K x qual st f fd)(S:aH N ps (aq st))(len:∀vs H Q E,sp vs H Q E->vs.length=ps.length)
  (hbody:∀(cdv:Value) (A:Around) (outer:List Env) (s:Shared) (H:Hp) (vs:List V) (Q:VK) (E:XK),fV k (A.deeper (envOfC qual (aq st) s.heap.objs.size f cdv))->sp vs H Q E->
   ∃t,ur (sV J3 P w K mg base N qual (aq st) f cdv A outer s H E).nox (c8 st) t/\t {nx:=λ_ H'=>Q .non H',rt:=Q} (start N vs) H):gS P w K mg base J3 (k+1) f fd ps sp:=by
 obtain⟨oc,od,kV,doc,pm,an,cdv,ct,osl,rfl,lk,hcd⟩:=F.ex
 refine IW lk hcd S len λA outer s H vs Q E hr hsp=>?_
 let⟨t,h,q⟩:=hbody cdv A outer s H vs Q E hr hsp
 exact⟨t,h.nox,q⟩
def FL.binds{x qual:Str}{st:Stmt}{f:Addr}{fd:FuncData}{ps:List Str}(F:FL K x qual st f fd)
  (h:∀(kV doc pm:Value) (an:Option Addr) (cdv ct:Value) (us:List Value),us.length=ps.length->bindArgs (PySem.W.fnOf x qual (jw st) (c8 st) (aq st) .none kV doc pm an cdv ct) ⟨us,[]⟩=pure (ps.zip us)):Binds K fd ps []:=by
 obtain⟨oc,od,kV,doc,pm,an,cdv,ct,osl,rfl,lk,hcd⟩:=F.ex
 exact .all (h kV doc pm an cdv ct)
def yL{x qual:Str}{st:Stmt}{f:Addr}{oc:Value}{od an:Option Addr}{osl:Array (Option Value)}{kV doc pm cdv ct:Value}(l:K.lookup f=some ⟨oc,od,.func (PySem.W.fnOf x qual (jw st) (c8 st) (aq st) .none kV doc pm an cdv ct),osl⟩)
  (c:PySem.W.codeIn K cdv qual=true) (k:PySem.W.keepIn K (.ref f)=true):FL K x qual st f (PySem.W.fnOf x qual (jw st) (c8 st) (aq st) .none kV doc pm an cdv ct):=⟨⟨oc,od,kV,doc,pm,an,cdv,ct,osl,rfl,l,c⟩,k⟩
end
section
variable {X:Cx}
def pv(i:Nat){x:Str}{pos:Pos}(hN:X.N[i]? =some x:=by rfl)(hv:yW X.env.scope x:=by first|exact Or.inl rfl|exact Or.inr (Or.inl rfl)|exact Or.inr (Or.inr rfl))(hd:(x==("__debug__":Str))=false:=by decide)
  (hcd:(x==("__classdict__":Str))=false:=by decide):PE X (.Name x pos) (HC i):=g8 hN hv hd hcd
end
def wz{A B:Prop}(h:B):if false=true then A else B:=by
 rw[Pg PZ]
 exact h
def yg{A B:Prop}(h:A):if true=true then A else B:=by
 rw[Pe rfl]
 exact h
def N9(o:Obj):Prop:=∃vs q t,o.data=.fields vs/\vs[1]? =some (.str q t)
def KQ:List Value->Prop
 | []=>True
 | .int _ _::.int _ _::.ref _::r=>KQ r
 |_=>False
theorem KQ.app:∀{l m:List Value},KQ l->KQ m->KQ (l++m)
 | [],_,_,h=>h
 | .int _ _::.int _ _::.ref _::r,_,h,k=>KQ.app (l:=r) h k
def Kt(H:Hp)(b:Addr):HO->Prop
 | .tbl ps=>∃more:Array Value,H b=some (.tbl (ps++more))/\KQ more.toList/\∀c,Value.ref c∈more.toList->∃o,H c=some (.a8 o (.own 0))/\N9 o
 |o=>H b=some o
theorem Kt.of{H:Hp}{b:Addr}{o:HO}(h:H b=some o):Kt H b o:=by
 cases o with
 |tbl ps=>exact⟨#[],by rw[h];simp,trivial,λc hc=>by simp at hc⟩
 |_=>exact h
def ao(H H':Hp):Prop:=∀b o,H b=some o->Kt H' b o
def ao.refl(H:Hp):ao H H:=λ_ _ h=>Kt.of h
theorem Kt.some{H:Hp}{b:Addr}{o:HO}(h:Kt H b o):∃u,H b=Option.some u/\((∀ps,o≠.tbl ps)->u=o)/\((∃ps,o=.tbl ps)->∃ps,u=.tbl ps):=by
 cases o with
 |tbl ps=>let⟨m,e,_⟩:=h;exact⟨_,e,λz=>absurd rfl (z ps),λ_=>⟨_,rfl⟩⟩
 |_=>exact⟨_,h,λ_=>rfl,λ⟨ps,z⟩=>by cases z⟩
theorem Kt.step{H H':Hp}{b:Addr}{o:HO}(h:Kt H b o)(s:ao H H'):Kt H' b o:=by
 cases o with
 |tbl ps=>
  let⟨m,e,t1,k⟩:=h
  let⟨m2,e2,t2,k2⟩:=s b _ e
  refine⟨m++m2,by rw[e2,Array.append_assoc],by rw[Sr];exact t1.app t2,λc hc=>?_⟩
  rw[Sr,Pz]at hc
  rcases hc with hc|hc
  .let⟨o,eo,io⟩:=k c hc;exact⟨o,s c _ eo,io⟩
  .exact k2 c hc
 |lst xs=>exact s b _ h
 |tup xs=>exact s b _ h
 |dK xs=>exact s b _ h
 |dT xs ep=>exact s b _ h
 |set S n=>exact s b _ h
 |ins C dx fs=>exact s b _ h
 |own x=>exact s b _ h
 |xd fs=>exact s b _ h
 |met f x=>exact s b _ h
 |ba lo hi=>exact s b _ h
 |a8 o u=>exact s b _ h
 |ext φ=>exact s b _ h
def ao.trans{H H1 H2:Hp}(a:ao H H1)(b:ao H1 H2):ao H H2:=λc o h=>(a c o h).step b
theorem ao.free{H H':Hp}(e:ao H H'){l:Addr}(h:H' l=Option.none):H l=Option.none:=by
 cases q:H l with
 |none=>rfl
 |some o=>
  let⟨u,z,_⟩:=(e l o q).some
  rw[z]at h
  cases h
def ao.seq{K:Frag}{H H':Hp}{a:Addr}{xs:List V}(e:ao H H')(h:fU K H a xs):fU K H' a xs:=by
 rcases h with(h|⟨o,h⟩)|h
 .exact .inl (.inl (e _ _ h))
 .exact .inl (.inr ⟨o,e _ _ h⟩)
 .exact .inr h
end L2
end
section
namespace RQ
open PySem L2
def top(i:Nat):Stmt:=PySem.Challenge.pw_rowsorder_k36_two_rows_and_one.main.body.getD i (.Pass ⟨0,0,0,0⟩)
abbrev jX:Stmt:=top 2
abbrev jZ:Stmt:=top 3
abbrev mf:Stmt:=top 4
abbrev mi:Stmt:=top 5
abbrev fP:Stmt:=top 6
abbrev kx:Stmt:=top 13
abbrev kN:Stmt:=top 11
abbrev ie:Stmt:=top 14
abbrev jr:Stmt:=top 15
abbrev nR:Stmt:=top 17
abbrev qq:Stmt:=top 19
abbrev ml:Stmt:=top 21
abbrev hZ:Stmt:=top 22
abbrev fN:Stmt:=top 23
abbrev je:Stmt:=top 24
abbrev dY:Stmt:=top 27
abbrev mz:Stmt:=top 28
abbrev jy:Stmt:=top 26
abbrev ju:Stmt:=top 30
abbrev fI:Stmt:=top 29
abbrev dC:Stmt:=top 25
abbrev kg:Stmt:=top 31
abbrev mB:Stmt:=top 32
abbrev jx:Stmt:=top 34
abbrev gy:Stmt:=top 35
abbrev kH:Stmt:=top 36
abbrev jq:Stmt:=top 37
abbrev iE:Stmt:=top 38
abbrev ig:Stmt:=top 39
abbrev fm:Stmt:=top 40
abbrev gH:Stmt:=top 41
abbrev iz:Stmt:=top 42
abbrev ik:Stmt:=top 43
abbrev iB:Stmt:=top 44
abbrev gJ:Stmt:=top 45
abbrev jm:Stmt:=top 46
abbrev iD:Stmt:=top 47
abbrev dE:Stmt:=top 48
abbrev ic:Stmt:=top 49
abbrev mK:Stmt:=top 50
end RQ
namespace RO
open PySem L2
abbrev kF:Stmt:=RQ.fP
abbrev ou:Stmt:=RQ.top 12
end RO
end
namespace L2.ST
open PySem PySem.SetTable
abbrev j7(xs:Array Nat):Prop:=xs.toList.Pairwise (· < ·)
def jo(h:j7 xs)(hik:i<k)(hk:k<xs.size):xs.getD i d<xs.getD k d:=by
 have hi:i<xs.size:=RT hik hk
 have:=RN.mp h i k (by simpa using hi) (by simpa using hk) hik
 simpa[Array.getD,hi,hk]using this
theorem Fj{j:Nat}(h:j7 xs):∀(fuel lo hi:Nat),lo<=hi->hi<=xs.size->hi-lo<=fuel->
  (∀i,i<lo->xs.getD i j<j)->(∀i,hi<=i->i<xs.size->j<=xs.getD i j)->
  below.go xs j fuel lo hi<=xs.size/\(∀i,i<below.go xs j fuel lo hi->xs.getD i j<j)/\(∀i,below.go xs j fuel lo hi<=i->i<xs.size->j<=xs.getD i j):=by
 intro fuel
 induction fuel with
 |zero=>
  intro lo hi h1 h2 h3 h4 h5
  have:lo=hi:=@AT
  subst this
  exact⟨h2,h4,h5⟩
 |succ fuel ih=>
  intro lo hi h1 h2 h3 h4 h5
  unfold below.go
  by_cases hlt:lo<hi
  .rw[Pe hlt]
   dsimp only
   by_cases hm:xs.getD ((lo+hi)/2) j<j
   .rw[Pe hm]
    refine ih _ _ (@AT) h2 (@AT) (λi hi'=>?_) h5
    by_cases e:i=(lo+hi)/2
    .rw[e];exact hm
    .exact RT (jo h (show i<(lo+hi)/2 by omega) (@AT)) hm
   .rw[Pg hm]
    refine ih _ _ (@AT) (@AT) (@AT) h4 (λi hi' hs=>?_)
    by_cases e:i=(lo+hi)/2
    .rw[e];omega
    .have:=jo (d:=j) h (show(lo+hi)/2<i by omega) hs
     omega
  .rw[Pg hlt]
   have:lo=hi:=@AT
   subst this
   exact⟨h2,h4,h5⟩
def fq(h:j7 xs)(j:Nat) :
  below xs j<=xs.size/\(∀i,i<below xs j->xs.getD i j<j)/\(∀i,below xs j<=i->i<xs.size->j<=xs.getD i j):=
 Fj h xs.size 0 xs.size (P9 _) (Pd _) (@AT) (λi hi=>@AT) (λi h1 h2=>@AT)
def BC(h:j7 xs)(hi:xs[i]? =some j):below xs j=i:=by
 let⟨b1,b2,b3⟩:=fq h j
 have hs:i<xs.size:=(QF.mp hi).1
 have hv:xs.getD i j=j:=by rw[Qg,hi];rfl
 rcases SM i (below xs j)with c|c|c
 .have:=b2 i c;omega
 .exact c.symm
 .have hb:below xs j<xs.size:=@AT
  have q:=b3 (below xs j) (Pd _) hb
  have:=jo (d:=j) h c hs
  omega
def As(j:Nat):has #[] j=false:=by
 unfold has
 simp
def uz{t:SetTable}(h:j7 t.place){i j:Nat}(hi:t.place[i]? =some j):t.slot j=.live i:=by
 unfold slot
 dsimp only
 rw[BC h hi,Pe (by simp[hi])]
def zw{t:SetTable}(hd:t.dummies=#[]){j:Nat}(hj:j∉t.place):t.slot j=.empty:=by
 unfold slot
 dsimp only
 have:¬(t.place[below t.place j]?==some j)=true:=by
  intro e
  have e':t.place[below t.place j]? =some j:=by simpa using e
  let⟨h1,h2⟩:=QF.mp e'
  exact hj (Array.mem_iff_getElem.mpr ⟨_,h1,h2⟩)
 rw[Pg this,hd,As]
 rfl
def yz(mask:Nat)(p:Probe):Probe:=
 if p.more>0 then{p with j:=p.j+1,more:=p.more-1}else
 {p with j:=(leap mask p.i p.perturb).1,more:=runEnd mask (leap mask p.i p.perturb).1-(leap mask p.i p.perturb).1,i:=(leap mask p.i p.perturb).1,perturb:=(leap mask p.i p.perturb).2}
def CD(mask i perturb:Nat):Probe:={j:=i,more:=runEnd mask i-i,i,perturb,dummy:=none}
def st(mask:Nat)(h:Int):Probe:=CD mask (bits h%(mask+1)) (bits h)
def EJ(t:SetTable)(p:Probe):t.advance p=yz t.mask p:=rfl
def Jj(t:SetTable)(h:Int):t.probeStart h=st t.mask h:=rfl
def gB(mask:Nat):Nat->Probe->Probe
 | 0,p=>p
 |n+1,p=>gB mask n (yz mask p)
theorem lr(mask:Nat):∀(n m:Nat) (p:Probe),gB mask (n+m) p=gB mask m (gB mask n p)
 | 0,m,p=>by rw[Qk];rfl
 |n+1,m,p=>by rw[Nat.add_right_comm];exact lr mask n m (yz mask p)
def DU{mask:Nat}{p:Probe}(h:p.dummy=none):(yz mask p).dummy=none:=by
 unfold yz;split<;>exact h
def jO{mask i:Nat}(h:i<=mask):i<=runEnd mask i/\runEnd mask i<=mask/\runEnd mask i-i<=9:=by
 unfold runEnd;split<;>omega
def In(mask:Nat)(p:Probe):Prop:=p.j+p.more<=mask/\p.more<=9
def Jy{mask i q:Nat}(h:i<=mask):In mask (CD mask i q):=by
 have:=jO h
 unfold In CD;dsimp only;omega
def n0(mask i q:Nat):(leap mask i q).1<=mask:=by
 unfold leap;exact Nat.lt_succ_iff.mp (Nat.mod_lt _ (Nat.succ_pos _))
def J1{mask:Nat}{p:Probe}(h:In mask p):In mask (yz mask p):=by
 unfold yz
 by_cases hm:p.more>0
 .rw[Pe hm];unfold In at *;dsimp only;omega
 .rw[Pg hm]
  have:=jO (n0 mask p.i p.perturb)
  unfold In;dsimp only;omega
theorem A0{mask:Nat}:∀(n:Nat) {p:Probe},In mask p->In mask (gB mask n p)
 | 0,_,h=>h
 |n+1,_,h=>A0 n (J1 h)
def MP(mask:Nat)(h:Int):In mask (st mask h):=Jy (Nat.lt_succ_iff.mp (Nat.mod_lt _ (Nat.succ_pos _)))
theorem yv(mask:Nat):∀(k:Nat) (p:Probe),p.more=k->gB mask (k+1) p={p with j:=(leap mask p.i p.perturb).1,more:=runEnd mask (leap mask p.i p.perturb).1-(leap mask p.i p.perturb).1,i:=(leap mask p.i p.perturb).1,perturb:=(leap mask p.i p.perturb).2}
 | 0,p,h=>by
  show yz mask p=_
  unfold yz
  rw[Pg (@AT)]
 |k+1,p,h=>by
  have e:yz mask p={p with j:=p.j+1,more:=p.more-1}:=by unfold yz;rw[Pe (@AT)]
  show gB mask (k+1) (yz mask p)=_
  rw[e,yv mask k _ (by dsimp only;omega)]
def pz(mask i q:Nat):gB mask (runEnd mask i-i+1) (CD mask i q)=CD mask (leap mask i q).1 (leap mask i q).2:=by
 exact yv mask _ (CD mask i q) rfl
theorem ku(mask i q:Nat):∀(k:Nat),k<=runEnd mask i-i->(gB mask k (CD mask i q))={CD mask i q with j:=i+k,more:=runEnd mask i-i-k}
 | 0,_=>rfl
 |k+1,h=>by
  rw[lr mask k 1,ku mask i q k (@AT)]
  show yz mask _=_
  unfold yz
  rw[Pe (by dsimp only;omega)]
  simp only[Probe.mk.injEq]
  refine⟨@AT,@AT,?_⟩
  trivial
def gW(mask:Nat):Nat->Nat×Nat->Nat×Nat
 | 0,x=>x
 |k+1,x=>gW mask k (leap mask x.1 x.2)
theorem pX(mask:Nat):∀(k i q:Nat),i<=mask->∃n,n<=10*k/\gB mask n (CD mask i q)=CD mask (gW mask k (i,q)).1 (gW mask k (i,q)).2
 | 0,i,q,_=>⟨0,Pd _,rfl⟩
 |k+1,i,q,h=>by
  obtain⟨n,hn,e⟩:=pX mask k (leap mask i q).1 (leap mask i q).2 (n0 _ _ _)
  have:=jO h
  refine⟨(runEnd mask i-i+1)+n,@AT,?_⟩
  rw[lr,pz,e]
  rfl
theorem uh(mask:Nat):∀(a b:Nat) (x:Nat×Nat),gW mask (a+b) x=gW mask b (gW mask a x)
 | 0,b,x=>by rw[Qk];rfl
 |a+1,b,x=>by rw[Nat.add_right_comm];exact uh mask a b (leap mask x.1 x.2)
theorem xE(mask:Nat):∀(k:Nat) (x:Nat×Nat),x.1<=mask->(gW mask k x).1<=mask
 | 0,_,h=>h
 |k+1,x,_=>xE mask k _ (n0 mask x.1 x.2)
theorem mM(mask:Nat):∀(k:Nat) (x:Nat×Nat),(gW mask k x).2=x.2/32^k
 | 0,x=>by simp[gW]
 |k+1,x=>by
  show(gW mask k (leap mask x.1 x.2)).2=_
  rw[mM mask k,Nat.pow_succ,Nat.mul_comm,<-Nat.div_div_eq_div_mul]
  rfl
def nx(mask i:Nat):Nat:=(i*5+1)%(mask+1)
def CS(mask:Nat):Nat->Nat->Nat
 | 0,i=>i
 |k+1,i=>CS mask k (nx mask i)
theorem qj(mask:Nat):∀(a b i:Nat),CS mask (a+b) i=CS mask b (CS mask a i)
 | 0,b,i=>by rw[Qk];rfl
 |a+1,b,i=>by rw[Nat.add_right_comm];exact qj mask a b (nx mask i)
theorem qV(mask:Nat):∀(k i:Nat),gW mask k (i,0)=(CS mask k i,0)
 | 0,_=>rfl
 |k+1,i=>by
  show gW mask k (leap mask i 0)=_
  have:leap mask i 0=(nx mask i,0):=by simp[leap,nx]
  rw[this,qV mask k]
  rfl
def EZ(mask:Nat):Prop:=mask=7\/mask=31\/mask=127
def LV(mask:Nat)(hm:EZ mask):CS mask (mask+1) 0=0/\∀j,j<=mask->∃k,k<=mask/\CS mask k 0=j:=by
 have h7:∀j:Nat,j<8->∃k,k<8/\CS 7 k 0=j:=by decide +kernel
 have h31:∀j:Nat,j<32->∃k,k<32/\CS 31 k 0=j:=by decide +kernel
 have h127:∀j:Nat,j<128->∃k,k<128/\CS 127 k 0=j:=by decide +kernel
 rcases hm with rfl|rfl|rfl
 .exact⟨by decide +kernel,λj hj=>let⟨k,a,b⟩:=h7 j (@AT);⟨k,@AT,b⟩⟩
 .exact⟨by decide +kernel,λj hj=>let⟨k,a,b⟩:=h31 j (@AT);⟨k,@AT,b⟩⟩
 .exact⟨by decide +kernel,λj hj=>let⟨k,a,b⟩:=h127 j (@AT);⟨k,@AT,b⟩⟩
def MD{mask:Nat}(hm:EZ mask){i j:Nat}(hi:i<=mask)(hj:j<=mask):∃k,k<=mask/\CS mask k i=j:=by
 let⟨z,o⟩:=LV mask hm
 let⟨a,ha,ea⟩:=o i hi
 let⟨b,hb,eb⟩:=o j hj
 have back:CS mask (mask+1-a) i=0:=by
  rw[<-ea,<-qj,show a+(mask+1-a)=mask+1 by omega];exact z
 by_cases hab:a<=b
 .refine⟨b-a,@AT,?_⟩
  rw[<-ea,<-qj,show a+(b-a)=b by omega];exact eb
 .refine⟨mask+1-a+b,@AT,?_⟩
  rw[qj,back];exact eb
def rP{mask:Nat}(hm:EZ mask){i q j:Nat}(hi:i<=mask)(hq:q<2^64)(hj:j<=mask):∃k,k<=mask+13/\(gW mask k (i,q)).1=j:=by
 have hz:(gW mask 13 (i,q)).2=0:=by
  rw[mM]
  exact Nat.div_eq_of_lt (Qa hq @A_)
 let⟨k,hk,e⟩:=MD hm (xE mask 13 (i,q) hi) hj
 refine⟨13+k,@AT,?_⟩
 rw[uh]
 have:gW mask 13 (i,q)=((gW mask 13 (i,q)).1,0):=Prod.ext rfl hz
 rw[this,qV]
 exact e
def AR(h:Int):bits h<2^64:=by
 unfold bits
 have:=Int.emod_lt_of_pos h (show(0:Int)<2^64 by decide)
 have:=Int.emod_nonneg h (show(2^64:Int)≠0 by decide)
 omega
def EO{mask:Nat}(hm:EZ mask)(h:Int){j:Nat}(hj:j<=mask):∃n,n<10*turns mask/\(gB mask n (st mask h)).j=j:=by
 have hi:bits h%(mask+1)<=mask:=Nat.lt_succ_iff.mp (Nat.mod_lt _ (Nat.succ_pos _))
 let⟨k,hk,e⟩:=rP hm hi (AR h) hj
 let⟨n,hn,q⟩:=pX mask k (bits h%(mask+1)) (bits h) hi
 refine⟨n,by unfold turns;omega,?_⟩
 show(gB mask n (CD mask _ _)).j=j
 rw[q];exact e
theorem Eh{t:SetTable}{hashAt:Nat->Int}{h:Int}:∀(n fuel:Nat) (p:Probe),n<fuel->p.dummy=none->
  (∀m,m<n->∃i,t.slot (gB t.mask m p).j=.live i/\hashAt i≠h)->t.slot (gB t.mask n p).j=.empty->
  probe.go t hashAt h fuel p=some (.empty (gB t.mask n p).j none):=by
 intro n
 induction n with
 |zero=>
  intro fuel p hf hd _ he
  obtain⟨f,rfl⟩:∃f,fuel=f+1:=⟨fuel-1,@AT ⟩
  unfold probe.go
  have he':t.slot p.j=.empty:=he
  rw[he',hd]
  rfl
 |succ n ih=>
  intro fuel p hf hd hl he
  obtain⟨f,rfl⟩:∃f,fuel=f+1:=⟨fuel-1,@AT ⟩
  unfold probe.go
  let⟨i,e,ne⟩:=hl 0 (@AT)
  have e':t.slot p.j=.live i:=e
  rw[e']
  dsimp only
  rw[Pg (by simpa using ne),EJ]
  exact ih f (yz t.mask p) (@AT) (DU hd) (λm hm=>hl (m+1) (@AT)) he
theorem Ed{t:SetTable}{hashAt:Nat->Int}{h:Int}:∀(n fuel:Nat) (p:Probe),n<fuel->
  (∀m,m<=n->∃i,t.slot (gB t.mask m p).j=.live i)->(∃i,t.slot (gB t.mask n p).j=.live i/\hashAt i=h)->
  ∃j i next,probe.go t hashAt h fuel p=some (.candidate j i next)/\t.slot j=.live i/\hashAt i=h:=by
 intro n
 induction n with
 |zero=>
  intro fuel p hf _ he
  obtain⟨f,rfl⟩:∃f,fuel=f+1:=⟨fuel-1,@AT ⟩
  let⟨i,e,eh⟩:=he
  have e':t.slot p.j=.live i:=e
  unfold probe.go
  rw[e']
  dsimp only
  rw[Pe (by simpa using eh)]
  exact⟨p.j,i,_,rfl,e',eh⟩
 |succ n ih=>
  intro fuel p hf hl he
  obtain⟨f,rfl⟩:∃f,fuel=f+1:=⟨fuel-1,@AT ⟩
  let⟨i,e⟩:=hl 0 (@AT)
  have e':t.slot p.j=.live i:=e
  unfold probe.go
  rw[e']
  dsimp only
  by_cases hh:hashAt i=h
  .rw[Pe (by simpa using hh)]
   exact⟨p.j,i,_,rfl,e',hh⟩
  .rw[Pg (by simpa using hh),EJ]
   exact ih f (yz t.mask p) (@AT) (λm hm=>hl (m+1) (@AT)) he
def Reach(mask:Nat)(L:Nat->Prop)(h:Int)(j:Nat):Prop:=∃n,n<10*turns mask/\(gB mask n (st mask h)).j=j/\∀m,m<n->L (gB mask m (st mask h)).j
def Reach.mono{mask:Nat}{L L':Nat->Prop}{h:Int}{j:Nat}(r:Reach mask L h j)(k:∀x,L x->L' x):Reach mask L' h j:=
 let⟨n,a,b,c⟩:=r;⟨n,a,b,λm hm=>k _ (c m hm)⟩
structure Tab(t:SetTable)(hs:List Int):Prop where
 mask:EZ t.mask
 dum:t.dummies=#[]
 rise:j7 t.place
 le:∀j,j∈t.place->j<=t.mask
 size:t.place.size=hs.length
 load:t.place.size*5<t.mask*3
 reach:∀(i j:Nat) (h:Int),t.place[i]? =some j->hs[i]? =some h->Reach t.mask (· ∈t.place) h j
 plain:t.plain=true
theorem bN{α:Type}[DecidableEq α]:∀{l m:List α},l.Nodup->(∀x,x∈l->x∈m)->l.length<=m.length
 | [],_,_,_=>P9 _
 |a::l,m,hn,hs=>by
  have ha:=hs a (Pq ..)
  have hl:=P6.mp hn
  have:=bN (m:=m.erase a) hl.2 λx hx=>by
   refine(List.mem_erase_of_ne ?_).mpr (hs x (Pk _ hx))
   rintro rfl;exact hl.1 hx
  rw[RU ha]at this
  have:0<m.length:=List.length_pos_of_mem ha
  simp only[PR];omega
def zK{mask:Nat}{xs:Array Nat}(hl:xs.size<=mask):∃j,j<=mask/\j∉xs:=by
 refine Classical.byContradiction λhc=>?_
 have all:∀j,j∈List.range (mask+1)->j∈xs.toList:=λj hj=>by
  have:=PN.mp hj
  refine Classical.byContradiction λhn=>hc ⟨j,@AT,λz=>hn (by simpa using z)⟩
 have:=bN Rv all
 simp at this
 omega
theorem vP{P:Nat->Prop}(h:∃n,P n):∃n,P n/\∀m,m<n->¬P m:=by
 let⟨n,hn⟩:=h
 induction n using Nat.strongRecOn with
 |_ n ih=>
  by_cases hc:∃m,m<n/\P m
  .let⟨m,hm,hp⟩:=hc
   exact ih m hm hp
  .exact⟨n,hn,λm hm hp=>hc ⟨m,hm,hp⟩⟩
section
variable {t:SetTable}{hs:List Int}
def Tab.load'(T:Tab t hs):t.place.size<=t.mask:=by have:=T.load;omega
def Tab.slotL(T:Tab t hs){j:Nat}(hj:j∈t.place):∃i,t.slot j=.live i/\t.place[i]? =some j:=by
 let⟨i,hi,e⟩:=Array.mem_iff_getElem.mp hj
 have q:t.place[i]? =some j:=by rw[PD hi,e]
 exact⟨i,uz T.rise q,q⟩
def Tab.slotE(T:Tab t hs){j:Nat}(hj:j∉t.place):t.slot j=.empty:=zw T.dum hj
def Tab.first(T:Tab t hs)(h:Int):∃n,n<10*turns t.mask/\(gB t.mask n (st t.mask h)).j∉t.place/\∀m,m<n->(gB t.mask m (st t.mask h)).j∈t.place:=by
 let⟨j,hj,hn⟩:=zK T.load'
 let⟨n,h1,h2⟩:=EO T.mask h hj
 let⟨k,hk,hlt⟩:=vP (P:=λn=>(gB t.mask n (st t.mask h)).j∉t.place) ⟨n,by rw[h2];exact hn⟩
 refine⟨k,?_,hk,λm hm=>Classical.byContradiction λz=>hlt m hm z⟩
 rcases Qo n k with c|c
 .exact absurd (show(gB t.mask n (st t.mask h)).j∉t.place by rw[h2];exact hn) (hlt n c)
 .omega
def Tab.absent(T:Tab t hs){hashAt:Nat->Int}(ha:∀i,i<hs.length->some (hashAt i)=hs[i]?){h:Int}(hn:h∉hs) :
  ∃j,t.probe hashAt h (t.probeStart h)=some (.empty j none)/\j∉t.place/\j<=t.mask/\Reach t.mask (· ∈t.place) h j:=by
 let⟨n,h1,h2,h3⟩:=T.first h
 refine⟨(gB t.mask n (st t.mask h)).j,?_,h2,?_,⟨n,h1,rfl,h3⟩⟩
 .unfold probe
  rw[Jj]
  refine Eh n _ _ h1 rfl (λm hm=>?_) (T.slotE h2)
  let⟨i,e,q⟩:=T.slotL (h3 m hm)
  refine⟨i,e,λz=>hn ?_⟩
  have hi:i<hs.length:=by rw[<-T.size];exact(QF.mp q).1
  have:=ha i hi
  rw[z]at this
  exact Pn this.symm
 .have:=A0 n (MP t.mask h)
  unfold In at this;omega
def Tab.present(T:Tab t hs){hashAt:Nat->Int}(ha:∀i,i<hs.length->some (hashAt i)=hs[i]?){h:Int}(hm:h∈hs) :
  ∃j i next,t.probe hashAt h (t.probeStart h)=some (.candidate j i next)/\t.slot j=.live i/\i<hs.length/\hs[i]? =some h:=by
 let⟨i,hi,e⟩:=Qf.mp hm
 have hi':hs[i]? =some h:=by rw[O9 hi,e]
 have hp:i<t.place.size:=by rw[T.size];exact hi
 let⟨n,h1,h2,h3⟩:=T.reach i t.place[i] h (PD hp) hi'
 have hj:(gB t.mask n (st t.mask h)).j∈t.place:=by rw[h2];exact SN hp
 obtain⟨j',i',nx,g1,g2,g3⟩:=Ed (hashAt:=hashAt) (h:=h) n (10*turns t.mask) (st t.mask h) h1 (λm hm=>by
   rcases Qo m n with c|c
   .let⟨i,e,_⟩:=T.slotL (h3 m c);exact⟨i,e⟩
   .have:m=n:=@AT
    subst this
    let⟨i,e,_⟩:=T.slotL hj;exact⟨i,e⟩)
  ⟨i,by rw[h2];exact uz T.rise (PD hp),by
   have:=ha i hi
   rw[hi']at this
   exact Option.some.inj this⟩
 have hi2:i'<t.place.size:=by
  unfold slot at g2
  dsimp only at g2
  split at g2
  .rename_i c
   have c':t.place[below t.place j']? =some j':=by simpa using c
   cases g2
   exact(QF.mp c').1
  .split at g2<;>cases g2
 refine⟨j',i',nx,by unfold probe;rw[Jj];exact g1,g2,by rw[<-T.size];exact hi2,?_⟩
 have:=ha i' (by rw[<-T.size];exact hi2)
 rw[g3]at this
 exact this.symm
end
def cu{α:Type}(xs:Array α)(p:Nat)(x:α)(_:p<=xs.size):(insertAt xs p x).toList=xs.toList.take p++x::xs.toList.drop p:=by
 unfold insertAt
 simp[Array.toList_extract,List.extract_eq_take_drop]
 rw[Ry (by simp)]
def um(t:SetTable)(j:Nat)(hd:t.dummies=#[]):(t.put j).1={t with place:=insertAt t.place (below t.place j) j}/\(t.put j).2=below t.place j:=by
 unfold put
 dsimp only
 rw[hd,As]
 exact⟨by simp,rfl⟩
section
variable {t:SetTable}{hs:List Int}
def nO{α:Type}{xs:Array α}{p:Nat}{x y:α}(hp:p<=xs.size):y∈insertAt xs p x↔y∈xs\/y=x:=by
 rw[<-RL,cu xs p x hp,Pz,Pf,<-RL]
 have:y∈xs.toList↔y∈xs.toList.take p\/y∈xs.toList.drop p:=by
  conv=>lhs;rw[<-List.take_append_drop p xs.toList]
  exact Pz
 rw[this]
 constructor
 .rintro (a|a|a)
  .exact .inl (.inl a)
  .exact .inr a
  .exact .inl (.inr a)
 .rintro ((a|a)|a)
  .exact .inl a
  .exact .inr (.inr a)
  .exact .inr (.inl a)
def sM{xs:Array Nat}(h:j7 xs){j:Nat}(hj:j∉xs):j7 (insertAt xs (below xs j) j):=by
 let⟨b1,b2,b3⟩:=fq h j
 unfold j7
 rw[cu _ _ _ b1]
 have hl:∀y,y∈xs.toList.take (below xs j)->y<j:=λy hy=>by
  let⟨i,hi,e⟩:=Qf.mp hy
  have hi1:i<below xs j:=by simp at hi;omega
  have hi2:i<xs.size:=@AT
  have:=b2 i hi1
  rw[Qg,PD hi2]at this
  simp at e this
  omega
 have hr:∀y,y∈xs.toList.drop (below xs j)->j<y:=λy hy=>by
  let⟨i,hi,e⟩:=Qf.mp hy
  have hi2:below xs j+i<xs.size:=by simp at hi;omega
  have:=b3 (below xs j+i) (@AT) hi2
  rw[Qg,PD hi2]at this
  simp at e this
  rcases Qo j y with c|c
  .exact c
  .have:j=y:=@AT
   exact absurd (by rw[this,<-e];exact SN _) hj
 refine List.pairwise_append.mpr ⟨List.Pairwise.sublist (List.take_sublist ..) h,List.pairwise_cons.mpr ⟨λy hy=>hr y hy,List.Pairwise.sublist (List.drop_sublist ..) h⟩,λa ha b hb=>?_⟩
 rcases Pf.mp hb with rfl|hb
 .exact hl a ha
 .exact RT (hl a ha) (hr b hb)
def xG{α:Type}(l:List α)(p:Nat)(x:α)(hp:p<=l.length)(i:Nat):(l.take p++x::l.drop p)[i]? =if i<p then l[i]? else if i=p then some x else l[i-1]?:=by
 rcases SM i p with c|c|c
 .rw[Pe c,PJ (by simp;omega),List.getElem?_take_of_lt c]
 .subst c
  rw[Pg (Qd _),Pe rfl,P7 (by simp;omega),QR,Nat.min_eq_left hp,Nat.sub_self]
  rfl
 .rw[Pg (@AT),Pg (@AT),P7 (by simp;omega),QR,Nat.min_eq_left hp]
  obtain⟨k,rfl⟩:∃k,i=p+1+k:=⟨i-(p+1),@AT ⟩
  rw[show p+1+k-p=k+1 by omega,List.getElem?_cons_succ,List.getElem?_drop]
  congr 1
  omega
def Tab.put(T:Tab t hs){j:Nat}{h:Int}(hj:j∉t.place)(hm:j<=t.mask)(r:Reach t.mask (· ∈t.place) h j)(hf:(t.place.size+1)*5<t.mask*3) :
  Tab (t.put j).1 (hs.take (t.put j).2++h::hs.drop (t.put j).2)/\(t.put j).2<=hs.length:=by
 let⟨e1,e2⟩:=um t j T.dum
 let⟨b1,b2,b3⟩:=fq T.rise j
 have hsz:(insertAt t.place (below t.place j) j).size=t.place.size+1:=by
  rw[<-R0,cu _ _ _ b1]
  simp;omega
 have hl:below t.place j<=hs.length:=by rw[<-T.size];exact b1
 rw[e1,e2]
 refine⟨⟨T.mask,T.dum,sM T.rise hj,λy hy=>?_,?_,?_,λi y g hy hg=>?_,T.plain⟩,hl⟩
 .rcases (nO b1).mp hy with z|z
  .exact T.le y z
  .rw[z];exact hm
 .show (insertAt t.place _ j).size=_
  rw[hsz,T.size];simp;omega
 .show (insertAt t.place _ j).size*5<t.mask*3
  rw[hsz];exact hf
 .show Reach t.mask (· ∈insertAt t.place (below t.place j) j) g y
  have hy':(t.place.toList.take (below t.place j)++j::t.place.toList.drop (below t.place j))[i]? =some y:=by
   rw[<-cu _ _ _ b1,Rg];exact hy
  rw[xG _ _ _ (by simpa using b1)]at hy'
  rw[xG _ _ _ hl]at hg
  have old:∀{g y},Reach t.mask (· ∈t.place) g y->Reach t.mask (· ∈insertAt t.place (below t.place j) j) g y:=λr=>r.mono λx hx=>(nO b1).mpr (.inl hx)
  split at hy'
  .rename_i c
   rw[Pe c]at hg
   exact old (T.reach i y g (by simpa using hy') hg)
  .rename_i c
   rw[Pg c]at hg
   split at hy'
   .rename_i c2
    rw[Pe c2]at hg
    cases hg;cases hy'
    exact old r
   .rename_i c2
    rw[Pg c2]at hg
    exact old (T.reach (i-1) y g (by simpa using hy') hg)
end
abbrev own(o:Array (Option Nat))(j:Nat):Option Nat:=o.getD j none
theorem CA{mask:Nat}{o:Array (Option Nat)}(hsz:o.size=mask+1):∀(fuel i q:Nat) (j:Nat),i<=mask->layClean.free mask o fuel i q=some j->
  ∃n,n<10*fuel/\(gB mask n (CD mask i q)).j=j/\(∀m,m<n->(own o (gB mask m (CD mask i q)).j).isSome=true)/\own o j=none/\j<=mask:=by
 intro fuel
 induction fuel with
 |zero=>intro i q j _ h;unfold layClean.free at h;cases h
 |succ fuel ih=>
  intro i q j hi h
  unfold layClean.free at h
  have hr:=jO hi
  have ind:∀k,k<=runEnd mask i-i->o.getD (i+k) (some 0)=own o (i+k):=λk hk=>by
   have:i+k<o.size:=@AT
   simp[own,Array.getD,this]
  cases hf:(List.range (runEnd mask i+1-i)).find? λk=>(o.getD (i+k) (some 0)).isNone with
  |some k=>
   rw[hf]at h
   dsimp only at h
   have hk:=List.find?_eq_some_iff_getElem.mp hf
   let⟨hn,ix,hix,eix,hbef⟩:=hk
   have ek:ix=k:=by simpa using eix
   subst ek
   have hix':ix<runEnd mask i+1-i:=by simpa using hix
   cases h
   refine⟨ix,@AT,?_,λm hm=>?_,?_,@AT ⟩
   .rw[ku mask i q ix (@AT)]
   .rw[ku mask i q m (@AT)]
    have:=hbef m hm
    simp only[List.getElem_range]at this
    rw[ind m (@AT)]at this
    dsimp only
    cases e:own o (i+m)with
    |none=>rw[e]at this;simp at this
    |some _=>rfl
   .rw[ind ix (@AT)]at hn
    cases e:own o (i+ix)with
    |none=>rfl
    |some _=>rw[e]at hn;simp at hn
  |none=>
   rw[hf]at h
   dsimp only at h
   let⟨n,h1,h2,h3,h4,h5⟩:=ih _ _ j (n0 mask i q) h
   have hnone:=List.find?_eq_none.mp hf
   refine⟨(runEnd mask i-i+1)+n,@AT,?_,λm hm=>?_,h4,h5⟩
   .rw[lr,pz];exact h2
   .rcases Qo m (runEnd mask i-i+1)with c|c
    .rw[ku mask i q m (@AT)]
     have:=hnone m (PN.mpr (@AT))
     rw[ind m (@AT)]at this
     dsimp only
     cases e:own o (i+m)with
     |none=>rw[e]at this;simp at this
     |some _=>rfl
    .obtain⟨k,rfl⟩:∃k,m=(runEnd mask i-i+1)+k:=⟨m-(runEnd mask i-i+1),@AT ⟩
     rw[lr,pz]
     exact h3 k (@AT)
theorem BH{mask:Nat}{o:Array (Option Nat)}(hsz:o.size=mask+1):∀(fuel i q k:Nat),i<=mask->k<fuel->own o (gW mask k (i,q)).1=none->∃j,layClean.free mask o fuel i q=some j:=by
 intro fuel
 induction fuel with
 |zero=>intro i q k _ hk;omega
 |succ fuel ih=>
  intro i q k hi hk hn
  unfold layClean.free
  cases hf:(List.range (runEnd mask i+1-i)).find? λk=>(o.getD (i+k) (some 0)).isNone with
  |some k=>exact⟨_,rfl⟩
  |none=>
   dsimp only
   cases k with
   |zero=>
    have hr:=jO hi
    have:=List.find?_eq_none.mp hf 0 (PN.mpr (@AT))
    have e:own o i=none:=hn
    have hi2:i<o.size:=@AT
    simp[own,Array.getD,hi2]at e this
    rw[e]at this;simp at this
   |succ k=>exact ih _ _ k (n0 mask i q) (@AT) hn
structure Lay(mask:Nat)(o:Array (Option Nat))(hs:List Int):Prop where
 size:o.size=mask+1
 all:∀k h,hs[k]? =some h->∃j,own o j=some k/\Reach mask (λx=>(own o x).isSome=true) h j
 one:∀j j' k,own o j=some k->own o j'=some k->j=j'
 le:∀j k,own o j=some k->j<=mask/\k<hs.length
def nM(hj:j<o.size):own (o.setIfInBounds j (some k)) x=if x=j then some k else own o x:=by
 unfold own
 rw[Qg,Qg,Array.getElem?_setIfInBounds]
 by_cases e:x=j
 .subst e;simp[hj]
 .rw[Pg e,Pg (λz=>e z.symm)]
def C6{mask:Nat}(hm:EZ mask){o:Array (Option Nat)}{hs:List Int}(L:Lay mask o hs)(h:Int)(hl:hs.length<=mask) :
  ∃j,layClean.free mask o (turns mask) (bits h%(mask+1)) (bits h)=some j/\Lay mask (o.setIfInBounds j (some hs.length)) (hs++[h]):=by
 have hi:bits h%(mask+1)<=mask:=Nat.lt_succ_iff.mp (Nat.mod_lt _ (Nat.succ_pos _))
 have hfree:∃j,j<=mask/\own o j=none:=by
  refine Classical.byContradiction λhc=>?_
  have hall:∀j,j<=mask->∃k,own o j=some k:=λj hj=>by
   cases e:own o j with
   |none=>exact absurd ⟨j,hj,e⟩ hc
   |some k=>exact⟨k,rfl⟩
  have nd:((List.range (mask+1)).map λj=>(own o j).getD 0).Nodup:=by
   refine Qj.mpr (QA ?_ Rv)
   intro a b ha hb hab e
   let⟨ka,ea⟩:=hall a (by have:=PN.mp ha;omega)
   let⟨kb,eb⟩:=hall b (by have:=PN.mp hb;omega)
   rw[ea,eb]at e
   simp at e
   subst e
   exact hab (L.one a b ka ea eb)
  have:=bN nd λx hx=>by
   obtain⟨j,hj,rfl⟩:=Pj.mp hx
   let⟨k,e⟩:=hall j (by have:=PN.mp hj;omega)
   rw[e]
   exact PN.mpr (L.le j k e).2
  simp at this
  omega
 let⟨j0,hj0,hn0⟩:=hfree
 let⟨k,hk,ek⟩:=rP hm hi (AR h) hj0
 let⟨j,hj⟩:=BH L.size (turns mask) _ (bits h) k hi (by unfold turns;omega) (by rw[ek];exact hn0)
 refine⟨j,hj,?_⟩
 let⟨n,h1,h2,h3,h4,h5⟩:=CA L.size _ _ _ _ hi hj
 have hjs:j<o.size:=by rw[L.size];omega
 have grow:∀x,(own o x).isSome=true->(own (o.setIfInBounds j (some hs.length)) x).isSome=true:=λx hx=>by
  rw[nM hjs];split
  .rfl
  .exact hx
 refine⟨by rw[Array.size_setIfInBounds];exact L.size,λk g hg=>?_,λa b c ea eb=>?_,λa c ea=>?_⟩
 .rcases Qo k hs.length with c|c
  .rw[PJ c]at hg
   let⟨x,ex,rx⟩:=L.all k g hg
   refine⟨x,?_,rx.mono grow⟩
   rw[nM hjs,Pg (λz=>?_)]
   .exact ex
   .subst z;rw[ex]at h4;cases h4
  .rw[P7 c]at hg
   have:k=hs.length:=by
    have:=(Pw.mp hg).1
    simp at this;omega
   subst this
   simp at hg
   subst hg
   exact⟨j,by rw[nM hjs,Pe rfl],n,h1,h2,λm hm=>grow _ (h3 m hm)⟩
 .rw[nM hjs]at ea eb
  split at ea
  .cases ea
   split at eb
   .omega
   .have:=(L.le _ _ eb).2;omega
  .split at eb
   .cases eb
    have:=(L.le _ _ ea).2;omega
   .exact L.one _ _ _ ea eb
 .rw[nM hjs]at ea
  rw[P0]
  split at ea
  .cases ea;simp;omega
  .have:=L.le _ _ ea;simp;omega
theorem z7{mask:Nat}(hm:EZ mask):∀(rest hs:List Int) (o:Array (Option Nat)),Lay mask o hs->hs.length+rest.length<=mask->
  ∃o',rest.foldl (init:=some (o,hs.length)) (λacc h=>do
   let(owner,k) <-acc
   let j <-layClean.free mask owner (turns mask) (bits h%(mask+1)) (bits h)
   pure (owner.setIfInBounds j (some k),k+1))=some (o',hs.length+rest.length)/\Lay mask o' (hs++rest)
 | [],hs,o,L,_=>⟨o,rfl,by rw[RD];exact L⟩
 |h::rest,hs,o,L,hl=>by
  simp only[PR]at hl
  obtain⟨j,e,L'⟩:=C6 hm L h (@AT)
  let⟨o',e',L2⟩:=z7 hm rest (hs++[h]) _ L' (by simp;omega)
  refine⟨o',?_,by rw[QV]at L2;exact L2⟩
  rw[Rk]
  simp only[Option.bind_eq_bind,Option.bind_some,e,Option.pure_def]
  have el:(hs++[h]).length=hs.length+1:=by simp
  rw[el]at e'
  simp only[Option.bind_eq_bind,Option.pure_def]at e'
  rw[e']
  simp;omega
def AG(n j:Nat):own (Array.replicate n none) j=none:=by
 unfold own
 rw[Qg,Array.getElem?_replicate]
 split<;>rfl
def Gw(mask:Nat):Lay mask (Array.replicate (mask+1) none) []:=
 ⟨by simp,λk h e=>by simp at e,λj j' k e _=>by (rw[AG]at e;cases e),λj k e=>by (rw[AG]at e;cases e)⟩
def CO{mask:Nat}(hm:EZ mask)(hs:Array Int)(hl:hs.size*5<mask*3)(finger moves:Nat)(led:Bool) :
  ∃t order,laid mask finger moves led true hs=some (t,order)/\t.led=led/\t.mask=mask/\order.toList.Nodup/\(∀k,k∈order.toList↔k<hs.size)/\
   Tab t (order.toList.map λk=>hs.toList.getD k 0):=by
 let⟨o,e,L⟩:=z7 hm hs.toList [] _ (Gw mask) (by simp;omega)
 simp only[nil_append]at L
 have ec:layClean mask hs=some o:=by
  unfold layClean
  rw[<-Array.foldl_toList]
  simp only[length_nil]at e
  rw[e];rfl
 have hlive:∀j k,(j,k)∈((List.range (mask+1)).filterMap λj=>(o.getD j none).map (j, ·))↔own o j=some k:=λj k=>by
  rw[R3]
  constructor
  .rintro⟨x,_,q⟩
   cases ex:o.getD x none with
   |none=>rw[ex]at q;cases q
   |some y=>rw[ex]at q;simp at q;rw[<-q.1,<-q.2];exact ex
  .intro q
   refine⟨j,PN.mpr (by have:=(L.le j k q).1;omega),?_⟩
   have:o.getD j none=some k:=q
   rw[this];rfl
 have hpw:((List.range (mask+1)).filterMap λj=>(o.getD j none).map (j, ·)).Pairwise (λa b=>a.1<b.1):=by
  refine List.pairwise_filterMap.mpr (List.Pairwise.imp ?_ List.pairwise_lt_range)
  intro a b hab x hx y hy
  cases ea:o.getD a none with
  |none=>rw[ea]at hx;cases hx
  |some u=>
   cases eb:o.getD b none with
   |none=>rw[eb]at hy;cases hy
   |some v=>
    rw[ea]at hx;rw[eb]at hy
    simp at hx hy
    rw[<-hx,<-hy];exact hab
 generalize hlv:((List.range (mask+1)).filterMap λj=>(o.getD j none).map (j, ·))=live at hlive hpw
 refine⟨{mask,place:=(live.map (·.1)).toArray,dummies:=#[],finger,led,moves,plain:=true},(live.map (·.2)).toArray,?_,rfl,rfl,?_,λk=>?_,?_⟩
 .unfold laid
  rw[ec]
  simp only[Option.bind_eq_bind,Option.bind_some,Option.pure_def,hlv]
 .have:(live.map (·.2)).Nodup:=by
   refine Qj.mpr (QA ?_ hpw)
   intro a b ha hb hab ee
   have h1:=(hlive a.1 a.2).mp ha
   have h2:=(hlive b.1 b.2).mp hb
   rw[ee]at h1
   have:=L.one _ _ _ h1 h2
   omega
  simpa using this
 .rw[Pj]
  constructor
  .rintro⟨x,hx,rfl⟩
   have:=(L.le x.1 x.2 ((hlive x.1 x.2).mp hx)).2
   simpa using this
  .intro hk
   have hk':k<hs.toList.length:=by simpa using hk
   let⟨j,ej,_⟩:=L.all k _ (O9 hk')
   exact⟨(j,k),(hlive j k).mpr ej,rfl⟩
 .have hord:live.length=hs.size:=by
   have a1:(live.map (·.2)).Nodup:=by
    refine Qj.mpr (QA ?_ hpw)
    intro a b ha hb hab ee
    have h1:=(hlive a.1 a.2).mp ha
    have h2:=(hlive b.1 b.2).mp hb
    rw[ee]at h1
    have:=L.one _ _ _ h1 h2
    omega
   have b1:=bN a1 λx hx=>by
    obtain⟨y,hy,rfl⟩:=Pj.mp hx
    have:=(L.le y.1 y.2 ((hlive y.1 y.2).mp hy)).2
    exact PN.mpr (by simpa using this)
   have b2:=bN (m:=live.map (·.2)) Rv λx hx=>by
    have hk':x<hs.toList.length:=by simpa using PN.mp hx
    let⟨j,ej,_⟩:=L.all x _ (O9 hk')
    exact Pj.mpr ⟨(j,x),(hlive j x).mpr ej,rfl⟩
   simp at b1 b2
   omega
  refine⟨hm,rfl,?_,λj hj=>?_,?_,?_,λi j h hi hh=>?_,rfl⟩
  .show (live.map (·.1)).toArray.toList.Pairwise _
   rw[Rb]
   exact Qj.mpr hpw
  .have:j∈live.map (·.1):=by simpa using hj
   obtain⟨x,hx,rfl⟩:=Pj.mp this
   exact(L.le x.1 x.2 ((hlive x.1 x.2).mp hx)).1
  .simp
  .show (live.map (·.1)).toArray.size*5<mask*3
   simp[hord];exact hl
  .have hi':(live.map (·.1))[i]? =some j:=by simpa using hi
   have hh':((live.map (·.2)).map λk=>hs.toList.getD k 0)[i]? =some h:=by simpa using hh
   rw[Pt]at hi'
   rw[Pt,Pt]at hh'
   cases ex:live[i]? with
   |none=>rw[ex]at hi';cases hi'
   |some x=>
    rw[ex]at hi' hh'
    simp at hi' hh'
    have hxl:=(hlive x.1 x.2).mp (Pn ex)
    have hk:=(L.le _ _ hxl).2
    have hk2:x.2<hs.size:=by simpa using hk
    let⟨j2,ej2,r⟩:=L.all x.2 h (by
     rw[O9 hk]
     simp[hk2]at hh'
     simpa using hh')
    have:j2=j:=by rw[<-hi'];exact L.one _ _ _ ej2 hxl
    subst this
    refine r.mono λy hy=>?_
    cases ey:own o y with
    |none=>rw[ey]at hy;cases hy
    |some k=>
     have:y∈live.map (·.1):=Pj.mpr ⟨(y,k),(hlive y k).mpr ey,rfl⟩
     simpa using this
abbrev Pr:=Int×Int
def hp(p:Pr):Int:=reduceHash (Builtin.Tuple.tupleHashOf [hashInt p.1,hashInt p.2])
def Sm(p:Pr):Prop:=(0<=p.1/\p.1<8)/\(0<=p.2/\p.2<8)
def we:List Pr:=(List.range 64).map λk=>(((k/8:Nat):Int),((k%8:Nat):Int))
def nr(h:Sm p):p∈we:=by
 unfold we
 let⟨⟨a,b⟩,c,d⟩:=h
 refine Pj.mpr ⟨p.1.toNat*8+p.2.toNat,PN.mpr (@AT),?_⟩
 refine Prod.ext ?_ ?_<;>dsimp only<;>omega
def DQ:(we.map hp).Nodup:=by decide +kernel
theorem nQ{α β:Type}{f:α->β}:∀{l:List α},(l.map f).Nodup->∀a b,a∈l->b∈l->f a=f b->a=b
 | [],_,_,_,h,_,_=>by cases h
 |x::l,hn,a,b,ha,hb,e=>by
  have hn':=P6.mp hn
  rcases Pf.mp ha with ea|ha
  .rcases Pf.mp hb with eb|hb
   .rw[ea,eb]
   .exact absurd (Pj.mpr ⟨b,hb,by rw[<-e,ea]⟩) hn'.1
  .rcases Pf.mp hb with eb|hb
   .exact absurd (Pj.mpr ⟨a,ha,by rw[e,eb]⟩) hn'.1
   .exact nQ hn'.2 a b ha hb e
def J4(hp1:Sm p)(hq:Sm q)(e:hp p=hp q):p=q:=nQ DQ p q (nr hp1) (nr hq) e
def yR{l:List Pr}(hn:l.Nodup)(h:∀p,p∈l->Sm p):l.length<=64:=by
 have:=bN hn λx hx=>nr (h x hx)
 simpa[we]using this
section
variable {prog:Program}{w:World}{A:Around}{E:@B_}{s:Shared}
abbrev bW(prog:Program)(w:World)(h:Heap)(p:Pr)(a:Addr):Prop:=IsTupleKey (intKind prog w) h [p.1,p.2] a
def bW.inj(x:bW prog w h p a)(y:bW prog w h q a):p=q:=by
 have:=IsTupleKey.inj x y
 simp at this
 exact Prod.ext this.1 this.2
structure wa(f:Pr->Int)(prog:Program)(w:World)(led:Bool)(h:Heap)(S:Addr)(ps:List (Addr×Pr)):Prop where
 ex:∃o ep t,h.get? S=some o/\o.ExactSet/\o.data=.set (ps.map λq=>(f q.2,Value.ref q.1)).toArray ep t/\Tab t (ps.map λq=>f q.2)/\t.led=led
 at':∀q,q∈ps->bW prog w h q.2 q.1/\Sm q.2
 nd:(ps.map (·.2)).Nodup
def so(T:Tab t hs)(e:n=hs.length):t.fits n=true:=by
 unfold SetTable.fits SetTable.fill
 have:=T.load'
 simp[T.size,T.dum,e]
 rw[T.size]at this;exact this
def DO(a:Addr)(wanted:Nat):setRelay a wanted=(do
  let(es,_,t) <-setState a
  if SetTable.sizeAbove wanted>sizeLine then unsupported "set:memory"
  let(es,t) <-(do
   let some (t,order):=t.relaid (es.map (·.1)) wanted|unsupported "internal:set-table-without-room"
   let es':=order.filterMap (es[·]?)
   if es'.size != es.size then unsupported "internal:set-table-lost-an-element"
   pure (es',t))
  storeSet a es t):=rfl
def BS(a:Addr)(x:Value)(h:Int)(fuel:Nat):setSearchFrom a x h true (fuel+1) none=(do
  let(es,_,t) <-setState a
  if t.gaveWay then unsupported "set:on-a-table-that-gave-way"
  let some met:=t.probe (λi=>(es[i]?.map (·.1)).getD 0) h (t.probeStart h)|unsupported "internal:set-table-without-an-empty-slot"
  match met with
  | .empty j dummy=>
   match dummy with
   |none=>return .free j false
   |some d=>
    if true&&t.slot d != .dummy then rule "set.search.the-dummy-was-taken";return <-setSearchFrom a x h true fuel none
    return .free d true
  | .candidate j i next=>
   if !t.led then
    if <-searchCouldBeSeen x ((es.filter (·.1==h)).toList.map (·.2))then unsupported "set:the-search-would-show-the-table"
   let some (_,y):=es[i]?|unsupported "internal:set-entry"
   let equal <-holding [y] (eqBool y x)
   let(es',_,t') <-setState a
   if true&&equal then return .there none
   let some same:=t'.sameMemory t.moves t.mask|unsupported "set.changed-during-lookup:is-the-new-block-at-the-old-address"
   let still <-match(if same then t'.slot j else .empty)with
    | .live i'=>match es'[i']? with
     |some (_,y')=>do pure (if <-isSame y' y then some i' else none)
     |none=>pure none
    |_=>pure none
   match still with
   |none=>rule "set.search.anew";setSearchFrom a x h true fuel none
   |some i'=>if equal then return .there (some i')else setSearchFrom a x h true fuel (some next)):=rfl
theorem wG(n:Nat)(h:carriedByValue v=true):ofAClassStatement n v=pure false:=by
 cases v with
 |ref a=>simp[carriedByValue]at h
 |_=>first|rfl|(unfold ofAClassStatement;rfl)
def yS(n:Nat)(h:(intKind prog w).is k v=true):hashByValue n v=pure true:=by
 obtain⟨t,rfl⟩:=Rn h
 cases n<;>rfl
def oA{Q:Bool->Shared->Prop}(hk:bW prog w s.heap p a)(h:Q false s):wpAny (model prog w) A (ofAClassStatement 8 (.ref a)) Q E s:=by
 have hT:=hk.typeIs
 let⟨o,items,n,ho,hc,hd,hi⟩:=hk
 unfold ofAClassStatement
 refine O8 (RW hT ?_)
 dsimp only
 rw[Pe @A_]
 refine O8 (Pa ?_)
 simp only[RH,Py,Qb]
 refine O8 (SK ho hd ?_)
 dsimp only
 refine O8 ?_
 rw[<-Array.forIn_toList]
 refine Sf _ (λrest r s'=>r.1=none/\s'=s/\∀v∈rest,carriedByValue v=true) _ ?_ ?_ _ _ ⟨rfl,rfl,hi.byValue⟩
 .rintro v rest r s' ⟨hr,rfl,hall⟩
  rw[wG _ (hall v Pq)]
  refine O8 (Pa ?_)
  simp only[Py,Qb]
  exact Pa ⟨rfl,rfl,λu hu'=>hall u (Pk _ hu')⟩
 .rintro⟨r1,r2⟩ s' ⟨hr,rfl,_⟩
  simp only at hr
  subst hr
  exact Pa h
def wO{Q:Bool->Shared->Prop}(hk:bW prog w s.heap p a)(h:Q true s):wpAny (model prog w) A (hashByValue 8 (.ref a)) Q E s:=by
 have hT:=hk.typeIs
 let⟨o,items,n,ho,hc,hd,hi⟩:=hk
 unfold hashByValue
 refine O8 (Q9 hT F.slot_tuple_hash.lookup ?_)
 dsimp only
 refine O8 (SK ho hd ?_)
 simp only[Option.getD_some]
 refine O8 ?_
 rw[<-Array.forIn_toList]
 refine Sf _ (λrest r s'=>r.1=none/\s'=s/\∀v∈rest,∃k,(intKind prog w).is k v=true) _ ?_ ?_ _ _ ⟨rfl,rfl,λv hv=>?_⟩
 .rintro v rest r s' ⟨hr,rfl,hall⟩
  let⟨k,hk⟩:=hall v Pq
  rw[yS _ hk]
  refine O8 (Pa ?_)
  simp only[RH,Py,Qb]
  exact Pa ⟨rfl,rfl,λu hu'=>hall u (Pk _ hu')⟩
 .rintro⟨r1,r2⟩ s' ⟨hr,rfl,_⟩
  simp only at hr
  subst hr
  exact Pa h
 .generalize items.toList=l at *
  cases hi with
  |cons h1 hi=>
   cases hi with
   |cons h2 hi=>
    cases hi
    rcases Pf.mp hv with rfl|hv
    .exact⟨_,h1⟩
    .rcases Pf.mp hv with rfl|hv
     .exact⟨_,h2⟩
     .cases hv
def zA(hk:bW prog w s.heap p a):∀(l:List Value) {Q:Bool->Shared->Prop},(∀v∈l,∃q b,v=.ref b/\bW prog w s.heap q b)->Q false s->wpAny (model prog w) A (searchCouldBeSeen (.ref a) l) Q E s:=by
 intro l Q hl h
 unfold searchCouldBeSeen
 refine O8 (Sf _ (λrest r s'=>r.1=none/\s'=s/\∀v∈rest,∃q b,v=.ref b/\bW prog w s.heap q b) _ ?_ ?_ _ _ ⟨rfl,rfl,hl⟩)
 .rintro v rest r s' ⟨hr,rfl,hall⟩
  obtain⟨q,b,rfl,hb⟩:=hall v Pq
  have hrest:=λu hu'=>hall u (Pk _ hu')
  dsimp only
  split
  .exact Pa ⟨rfl,rfl,hrest⟩
  .refine O8 (wpAny_eqIsQuiet_tuple hk ?_)
   simp only[RH,Py,Qb]
   refine O8 (wpAny_eqIsQuiet_tuple hb ?_)
   simp only[RH,Py,Qb]
   refine O8 (oA hk ?_)
   simp only[Py,Qb]
   refine O8 (oA hb ?_)
   simp only[Py,Qb]
   exact Pa ⟨rfl,rfl,hrest⟩
 .rintro⟨r1,r2⟩ s' ⟨hr,rfl,_⟩
  simp only at hr
  subst hr
  exact Pa h
end
section
variable {prog:Program}{w:World}{A:Around}{E:@B_}{s:Shared}
def xM(t:SetTable)(hs:Array Int)(wanted:Nat)(hp:t.plain=true):t.relaid hs wanted=laid (sizeAbove wanted-1) t.finger (t.movedTo (sizeAbove wanted-1)) t.led true hs:=by
 unfold relaid;rw[hp]
def IV:sizeAbove (grown 5)=32/\sizeAbove (grown 19)=128:=by decide +kernel
theorem filterMap_get{α:Type}(es:Array α):∀(order:List Nat),(∀k,k∈order->k<es.size)->∃l:List α,order.filterMap (λi=>es[i]?)=l/\l.length=order.length/\(∀(i k:Nat),order[i]? =some k->l[i]? =es[k]?)/\∀x,x∈l->∃k,k∈order/\es[k]? =some x
 | [],_=>⟨[],rfl,rfl,λi k h=>by simp at h,λx hx=>by cases hx⟩
 |k::r,h=>by
  obtain⟨l,e1,e2,e3,e4⟩:=filterMap_get es r λx hx=>h x (Pk _ hx)
  have hk:=h k (Pq ..)
  refine⟨es[k]::l,by rw[Sq,PD hk,e1],by simp[e2],λi x hi=>?_,λx hx=>?_⟩
  .cases i with
   |zero=>simp at hi;subst hi;simp[hk]
   |succ i=>simp at hi;simpa using e3 i x hi
  .rcases Pf.mp hx with rfl|hx
   .exact⟨k,Pq ..,by simp[hk]⟩
   .let⟨y,hy,q⟩:=e4 x hx
    exact⟨y,Pk _ hy,q⟩
abbrev fH(f:Pr->Int)(q:Addr×Pr):Int×Value:=(f q.2,Value.ref q.1)
def vO(f:Pr->Int){mask:Nat}(hm:EZ mask){ps:List (Addr×Pr)}(hl:ps.length*5<mask*3)(finger moves:Nat)(led:Bool) :
  ∃(t:SetTable) (order:Array Nat) (ps':List (Addr×Pr)),laid mask finger moves led true ((ps.map (fH f)).toArray.map (·.1))=some (t,order)/\order.filterMap (λi=>(ps.map (fH f)).toArray[i]?)=(ps'.map (fH f)).toArray/\ps'.length=ps.length/\
   (∀q,q∈ps'↔q∈ps)/\Tab t (ps'.map λq=>f q.2)/\t.led=led:=by
 let⟨t,order,e,el,em,nd,mem,T⟩:=CO hm ((ps.map (fH f)).toArray.map (·.1)) (by simpa using hl) finger moves led
 have hsz:((ps.map (fH f)).toArray.map (·.1)).size=ps.length:=by simp
 let⟨ps',f1,f2,f3,f4⟩:=filterMap_get ps.toArray order.toList λk hk=>by
  have:=(mem k).mp hk;rw[hsz]at this;simpa using this
 have hlen:order.toList.length=ps.length:=by
  have a1:=bN nd λx hx=>PN.mpr (by have:=(mem x).mp hx;rwa [hsz]at this)
  have a2:=bN Rv λx hx=>(mem x).mpr (by rw[hsz];exact PN.mp hx)
  simp at a1 a2 ⊢;omega
 refine⟨t,order,ps',e,?_,@AT,λq=>⟨λhq=>?_,λhq=>?_⟩,?_,el⟩
 .apply Array.toList_inj.mp
  rw[Array.toList_filterMap,<-f1]
  simp only[Rb]
  rw[List.map_filterMap]
  congr 1
  funext i
  simp
 .let⟨k,_,q2⟩:=f4 q hq
  rw[RF]at q2
  exact Pn q2
 .let⟨k,hk,q2⟩:=Qf.mp hq
  have hko:k∈order.toList:=(mem k).mpr (by rw[hsz];exact hk)
  let⟨i,hi,e2⟩:=Qf.mp hko
  have:=f3 i k (by rw[O9 hi,e2])
  rw[RF,O9 hk,q2]at this
  exact Pn this
 .have:(order.toList.map λk=>((ps.map (fH f)).toArray.map (·.1)).toList.getD k 0)=ps'.map λq=>f q.2:=by
   apply RK
   intro i
   rw[Pt,Pt]
   cases hi:order.toList[i]? with
   |none=>
    have:ps'[i]? =none:=List.getElem?_eq_none_iff.mpr (by rw[f2];exact List.getElem?_eq_none_iff.mp hi)
    rw[this];rfl
   |some k=>
    have hk:k<ps.length:=by have:=(mem k).mp (Pn hi);rwa [hsz]at this
    have:=f3 i k hi
    rw[RF,O9 hk]at this
    rw[this]
    simp[hk]
  rw[<-this];exact T
theorem pK:∀{l m:List Int},m.Nodup->(∀x,x∈m->x∈l)->l.length<=m.length->l.Nodup
 | [],_,_,_,_=>Rw
 |a::l,m,hn,hs,hl=>by
  by_cases ha:a∈m
  ·have hnot:a∉l:=λz=>by
    have:=bN hn λx hx=>by
     rcases Pf.mp (hs x hx)with e|e
     .rw[e];exact z
     .exact e
    simp only[PR]at hl;omega
   refine P6.mpr ⟨hnot,pK (hn.erase a) (λx hx=>?_) ?_⟩
   .have:=(hn.mem_erase_iff).mp hx
    rcases Pf.mp (hs x this.2)with e|e
    .exact absurd e this.1
    .exact e
   .rw[RU ha];simp only[PR]at hl;omega
  .have:=bN hn λx hx=>by
    rcases Pf.mp (hs x hx)with e|e
    .exact absurd (e▸hx) ha
    .exact e
   simp only[PR]at hl;omega
def u9(a:Addr)(es:Array (Int×Value)):byScan (.ref a) es=false:=by unfold byScan Value.scannable;simp
def zk{t:SetTable}(h:EZ t.mask):t.gaveWay=false:=by
 unfold SetTable.gaveWay
 rcases h with e|e|e<;>rw[e]<;>decide
def wa.add{f:Pr->Int}(hinj:∀p q,Sm p->Sm q->f p=f q->p=q){led:Bool}{S a:Addr}{ps:List (Addr×Pr)}{p:Pr}{Q:Bool->Shared->Prop}(P:wa f prog w led s.heap S ps)(hk:bW prog w s.heap p a)(hs:Sm p)(hu:A.units<cLine)
  (h:∀(b:Bool) (h':Heap) (ps':List (Addr×Pr)),Heap.SameBut S s.heap h'->wa f prog w led h' S ps'->(∀q,q∈ps'->q∈ps\/q=(a,p))->(∀q,q∈ps->q∈ps')->(∃q,q∈ps'/\q.2=p)->Q b {s with heap:=h'}) :
  wpAny (model prog w) A (setAddHashed S (.ref a) (f p)) Q E s:=by
 let⟨o,ep,t,ho,hex,hd,T,hled⟩:=P.ex
 have hfit:t.fits (ps.map (fH f)).toArray.size=true:=so T (by simp)
 have ha:∀i,i<(ps.map λq=>f q.2).length->some ((((ps.map (fH f)).toArray)[i]?.map (·.1)).getD 0)=(ps.map λq=>f q.2)[i]?:=λi hi=>by
  have hi':i<ps.length:=by simpa using hi
  simp[hi']
 unfold setAddHashed
 refine Qc ?_
 unfold setAddHashedIn
 refine O8 (Qy ho hd hfit ?_)
 dsimp only
 rw[u9]
 simp only[Py,Qb]
 unfold setSearch
 rw[BS]
 refine O8 (O8 (Qy ho hd hfit ?_))
 dsimp only
 rw[zk T.mask]
 simp only[Py,Qb]
 by_cases hm:f p∈ps.map λq=>f q.2
 .
  let⟨j,i,nx,e1,e2,e3,e4⟩:=T.present ha hm
  rw[e1]
  dsimp only
  have hi:i<ps.length:=by simpa using e3
  have e5:f (ps[i].2)=f p:=by
   rw[Pt,O9 hi]at e4
   simpa using e4
  have hq:=P.at' ps[i] (QG hi)
  have e6:ps[i].2=p:=hinj _ _ hq.2 hs e5
  have hget:((ps.map (fH f)).toArray)[i]? =some (f ps[i].2,.ref ps[i].1):=by simp[hi]
  have rest:wpAny (model prog w) A (do
    let some (_,y):=((ps.map (fH f)).toArray)[i]?|unsupported "internal:set-entry"
    let equal <-holding [y] (eqBool y (.ref a))
    let(es',_,t') <-setState S
    if true&&equal then return SetFound.there none
    let some same:=t'.sameMemory t.moves t.mask|unsupported "set.changed-during-lookup:is-the-new-block-at-the-old-address"
    let still <-match(if same then t'.slot j else .empty)with
     | .live i'=>match es'[i']? with
      |some (_,y')=>do pure (if <-isSame y' y then some i' else none)
      |none=>pure none
     |_=>pure none
    match still with
    |none=>rule "set.search.anew";setSearchFrom S (.ref a) (f p) true 99999 none
    |some i'=>if equal then return .there (some i')else setSearchFrom S (.ref a) (f p) true 99999 (some nx))
    (λr s'=>s'=s/\r=.there none) E s:=by
   rw[hget]
   dsimp only
   refine O8 (Qc (wpAny_eqBool_tuple hu hq.1 hk ?_))
   rw[Pu (by rw[e6])]
   refine O8 (Qy ho hd hfit ?_)
   dsimp only
   simp only[RI,Qn]
   exact Pa ⟨rfl,rfl⟩
  have fin:∀r s',s'=s/\r=SetFound.there none->wpAny (model prog w) A (match r with
    | .free slot wasDummy=>(do
     let(es,_,t) <-setState S
     let(t,p'):=t.put slot
     let byValue <-if t.plain then hashByValue 8 (.ref a)else pure true
     let t:=if byValue then t else{t with plain:=false}
     storeSet S (SetTable.insertAt es p' (f p,.ref a)) t
     if !wasDummy&&t.tooFull then setRelay S (SetTable.grown (es.size+1))
     return true)
    |_=>pure false) Q E s':=by
   rintro r s' ⟨rfl,rfl⟩
   exact Pa (h false s'.heap ps (Heap.SameBut.refl ..) P (λq hq=>.inl hq) (λq hq=>hq) ⟨ps[i],QG hi,e6⟩)
  cases hl:led with
  |true=>
   rw[hled,hl]
   simp only[RH,Py,Qb]
   exact QQ rest (λr s' hr=>fin r s' hr) λ_ _ x=>x
  |false=>
   rw[hled,hl]
   simp only[Bool.not_false,Qn]
   refine O8 (zA hk _ (λv hv=>?_) ?_)
   .obtain⟨x,hx,rfl⟩:=Pj.mp hv
    have hx':x∈(ps.map (fH f)).toArray:=(Array.mem_filter.mp (RL.mp hx)).1
    have hx2:x∈ps.map (fH f):=by simpa using hx'
    obtain⟨q,hq,rfl⟩:=Pj.mp hx2
    exact⟨q.2,q.1,rfl,(P.at' q hq).1⟩
   .simp only[Py,Qb]
    exact QQ rest (λr s' hr=>fin r s' hr) λ_ _ x=>x
 .
  let⟨j,e1,e2,e3,e4⟩:=T.absent ha hm
  rw[e1]
  dsimp only
  refine Pa ?_
  dsimp only
  refine O8 (Qy ho hd hfit ?_)
  dsimp only
  let⟨q1,q2⟩:=um t j T.dum
  have hpl:(t.put j).1.plain=true:=by rw[q1];exact T.plain
  rw[hpl]
  simp only[Qn]
  refine O8 (wO hk ?_)
  simp only[Qn]
  have hb:(t.put j).2<=ps.length:=by
   rw[q2]
   have:=(fq T.rise j).1
   rw[T.size]at this;simpa using this
  have hins:insertAt (ps.map (fH f)).toArray (t.put j).2 (f p,Value.ref a)=((ps.take (t.put j).2++(a,p)::ps.drop (t.put j).2).map (fH f)).toArray:=by
   apply Array.toList_inj.mp
   rw[cu _ _ _ (by simpa using hb)]
   simp[List.map_take,List.map_drop]
  rw[hins]
  generalize hps':ps.take (t.put j).2++(a,p)::ps.drop (t.put j).2=ps1
  have mem1:∀q,q∈ps1↔q∈ps\/q=(a,p):=λq=>by
   rw[<-hps',Pz,Pf]
   conv=>rhs;rw[<-List.take_append_drop (t.put j).2 ps,Pz]
   constructor
   .rintro (z|z|z)
    .exact .inl (.inl z)
    .exact .inr z
    .exact .inl (.inr z)
   .rintro ((z|z)|z)
    .exact .inl z
    .exact .inr (.inr z)
    .exact .inr (.inl z)
  have len1:ps1.length=ps.length+1:=by rw[<-hps'];simp;omega
  have nd1:(ps1.map (·.2)).Nodup:=by
   have hnot:p∉ps.map (·.2):=λz=>by
    let⟨q,hq,e⟩:=Pj.mp z
    exact hm (Pj.mpr ⟨q,hq,by rw[e]⟩)
   have perm:(ps1.map (·.2)).Perm (p::ps.map (·.2)):=by
    rw[<-hps']
    have:(ps.take (t.put j).2++(a,p)::ps.drop (t.put j).2).Perm ((a,p)::ps):=by
     refine List.perm_middle.trans ?_
     rw[List.take_append_drop]
    exact this.map (·.2)
   exact perm.nodup_iff.mpr (P6.mpr ⟨hnot,P.nd⟩)
  have ne:∀b q,bW prog w s.heap q b->b≠S:=λb q ⟨o',_,_,ho',_,hd',_⟩ e=>by
   subst e
   rw[ho]at ho';cases ho'
   rw[hd]at hd';cases hd'
  have at1:∀{h':Heap},Heap.SameBut S s.heap h'->∀q,q∈ps1->bW prog w h' q.2 q.1/\Sm q.2:=λ{h'} hsb q hq=>by
   have key:∀{b:Addr} {q:Pr},bW prog w s.heap q b->bW prog w h' q b:=λ{b q} hb=>by
    have hne:=ne b q hb
    let⟨o',i',n',ho',r'⟩:=hb
    exact⟨o',i',n',(hsb.2 b hne).trans ho',r'⟩
   rcases(mem1 q).mp hq with z|z
   .exact⟨key (P.at' q z).1,(P.at' q z).2⟩
   .subst z;exact⟨key hk,hs⟩
  have hlen64:ps1.length<=64:=by
   have:=yR nd1 λx hx=>by
    obtain⟨q,hq,rfl⟩:=Pj.mp hx
    exact(at1 (Heap.SameBut.refl ..) q hq).2
   simpa using this
  have hsize:((ps1.map (fH f)).toArray).size<=sizeLine:=by rw[PX];simp;omega
  refine O8 (wpAny_storeSet_of ho hd ?_ hsize)
  have ho1:(s.heap.update S (Obj.putSet (ps1.map (fH f)).toArray (t.put j).1)).get? S=some {o with data:=.set (ps1.map (fH f)).toArray (ep+1) (t.put j).1}:=by
   have:=PY (Obj.putSet (ps1.map (fH f)).toArray (t.put j).1) ho (by rw[putSet_of _ _ hd];rfl)
   rw[putSet_of _ _ hd]at this;exact this
  have sb1:=Heap.SameBut.update s.heap S (Obj.putSet (ps1.map (fH f)).toArray (t.put j).1)
  have hex1:({o with data:=.set (ps1.map (fH f)).toArray (ep+1) (t.put j).1}:Obj).ExactSet:=hex
  have psz:(t.put j).1.place.size=ps.length+1:=by
   rw[q1]
   rw[<-R0,cu _ _ _ (fq T.rise j).1]
   have:=T.size
   simp at this ⊢
   have:=(fq T.rise j).1
   omega
  have dum1:(t.put j).1.dummies=#[]:=by rw[q1];exact T.dum
  have mask1:(t.put j).1.mask=t.mask:=by rw[q1]
  have tsz:t.place.size=ps.length:=by simpa using T.size
  simp only[Bool.not_false,Bool.true_and]
  cases htf:(t.put j).1.tooFull with
  |false=>
   simp only[Py,Qb]
   have hload:(t.place.size+1)*5<t.mask*3:=by
    unfold SetTable.tooFull SetTable.fill at htf
    rw[psz,dum1,mask1]at htf
    simp at htf
    rw[tsz];exact htf
   let⟨T1,_⟩:=T.put e2 e3 e4 hload
   refine O8 (Pa (Pa (h true _ ps1 sb1 ⟨⟨_,ep+1,_,ho1,hex1,rfl,?_,?_⟩,at1 sb1,nd1⟩ (λq hq=>(mem1 q).mp hq) (λq hq=>(mem1 q).mpr (.inl hq)) ⟨(a,p),(mem1 _).mpr (.inr rfl),rfl⟩)))
   .rw[<-hps']
    simpa[List.map_take,List.map_drop]using T1
   .rw[q1];exact hled
  |true=>
   simp only[Qn]
   have hfull:t.mask*3<=(ps.length+1)*5:=by
    unfold SetTable.tooFull SetTable.fill at htf
    rw[psz,dum1,mask1]at htf
    simpa using htf
   have hload:=T.load
   rw[tsz]at hload
   have hcase:∃mask',EZ mask'/\sizeAbove (grown (ps.length+1))-1=mask'/\sizeAbove (grown (ps.length+1))<=sizeLine/\(ps.length+1)*5<mask'*3:=by
    rcases T.mask with e|e|e
    .have:ps.length+1=5:=by rw[e]at hfull hload;omega
     rw[this,IV.1]
     exact⟨31,.inr (.inl rfl),rfl,by rw[PX];decide,by decide⟩
    .have:ps.length+1=19:=by rw[e]at hfull hload;omega
     rw[this,IV.2]
     exact⟨127,.inr (.inr rfl),rfl,by rw[PX];decide,by decide⟩
    .rw[e]at hfull;omega
   let⟨mask',hm3,em,hline,hl2⟩:=hcase
   have hes:(ps.map (fH f)).toArray.size+1=ps.length+1:=by simp
   rw[hes,DO]
   have hfit1:(t.put j).1.fits ((ps1.map (fH f)).toArray).size=true:=by
    unfold SetTable.fits SetTable.fill
    have hpl2:ps.length+1<=t.mask:=by
     rcases T.mask with e|e|e<;>rw[e]at hload ⊢ <;> omega
    rw[psz,dum1,mask1]
    simp[len1,hpl2]
   refine O8 (O8 (Qy ho1 rfl hfit1 ?_))
   dsimp only
   rw[Pg (@AT)]
   rw[xM _ _ _ hpl,em]
   obtain⟨t2,order,ps2,g1,g2,g3,g4,g5,g6⟩:=vO f hm3 (by rw[len1];exact hl2) (t.put j).1.finger ((t.put j).1.movedTo mask') (t.put j).1.led
   rw[g1]
   simp only[bind_pure_comp,pure_bind]
   rw[g2]
   have hne:((ps2.map (fH f)).toArray.size != (ps1.map (fH f)).toArray.size)=false:=by simp[g3]
   rw[hne]
   simp only[Py,Qb]
   have hsize2:((ps2.map (fH f)).toArray).size<=sizeLine:=by rw[PX];simp;omega
   refine O8 (Pa (wpAny_storeSet_of ho1 rfl ?_ hsize2))
   have ho2:((s.heap.update S (Obj.putSet (ps1.map (fH f)).toArray (t.put j).1)).update S (Obj.putSet (ps2.map (fH f)).toArray t2)).get? S=some {o with data:=.set (ps2.map (fH f)).toArray (ep+1+1) t2}:=by
    have:=PY (Obj.putSet (ps2.map (fH f)).toArray t2) ho1 (by rw[putSet_of _ _ rfl];rfl)
    rw[putSet_of _ _ rfl]at this;exact this
   have sb2:=sb1.trans (Heap.SameBut.update _ S (Obj.putSet (ps2.map (fH f)).toArray t2))
   have nd2:(ps2.map (·.2)).Nodup:=by
    have hmem:∀q,q∈ps2.map (·.2)↔q∈ps1.map (·.2):=λq=>by
     rw[Pj,Pj]
     exact⟨λ⟨x,hx,e⟩=>⟨x,(g4 x).mp hx,e⟩,λ⟨x,hx,e⟩=>⟨x,(g4 x).mpr hx,e⟩⟩
    have hnd:(ps2.map λq=>f q.2).Nodup:=by
     refine pK (m:=ps1.map λq=>f q.2) ?_ (λx hx=>?_) (by simp[g3])
     .have:(ps1.map λq=>f q.2)=(ps1.map (·.2)).map f:=by simp
      rw[this]
      refine Qj.mpr (QA ?_ nd1)
      intro x y hx hy hxy e
      obtain⟨q,hq,rfl⟩:=Pj.mp hx
      obtain⟨r,hr,rfl⟩:=Pj.mp hy
      exact hxy (hinj _ _ (at1 sb1 q hq).2 (at1 sb1 r hr).2 e)
     .obtain⟨q,hq,rfl⟩:=Pj.mp hx
      exact Pj.mpr ⟨q,(g4 q).mpr hq,rfl⟩
    have:(ps2.map λq=>f q.2)=(ps2.map (·.2)).map f:=by simp
    rw[this]at hnd
    exact(Qj.mp hnd).imp λhxy e=>hxy (by rw[e])
   refine Pa (h true _ ps2 sb2 ⟨⟨_,ep+1+1,t2,ho2,hex,rfl,g5,?_⟩,λq hq=>at1 sb2 q ((g4 q).mp hq),nd2⟩ (λq hq=>(mem1 q).mp ((g4 q).mp hq)) (λq hq=>(g4 q).mpr ((mem1 q).mpr (.inl hq))) ⟨(a,p),(g4 _).mpr ((mem1 _).mpr (.inr rfl)),rfl⟩)
   rw[g6,q1];exact hled
end
def ki(w:World):Bool:= !(w.params.followText "set-order")
def CW(prog:Program)(w:World)(p:Pr):Int:=tupleKeyHash (intKind prog w) [p.1,p.2]
def HA(prog:Program)(w:World):∀p q,Sm p->Sm q->CW prog w p=CW prog w q->p=q:=λp q h1 h2 e=>J4 h1 h2 e
section
variable {prog:Program}{w:World}{A:Around}{E:@B_}{s:Shared}{R:Result->Shared->Prop}{I:Addr}{fp wr:List Addr}{n:Nat}{P:Nat->Value->Prop}{St:Nat->Heap->Prop}
def dW(prog:Program)(w:World)(h:Heap)(vs:List Value)(ps:List Pr):Prop:=vs.length=ps.length/\∀(i:Nat) (v:Value) (p:Pr),vs[i]? =some v->ps[i]? =some p->∃a,v=.ref a/\bW prog w h p a/\Sm p
abbrev qy(prog:Program)(w:World)(h:Heap)(S:Addr)(vs:List Value)(ps:List Pr)(k:Nat):Prop:=∃qs:List (Addr×Pr),wa (CW prog w) prog w (ki w) h S qs/\
 (∀q,q∈qs->Value.ref q.1∈vs.take k/\q.2∈ps.take k)/\∀p,p∈ps.take k->p∈qs.map (·.2)
theorem oG(W:Walks prog w A.in1 I fp wr n P St)(S:Addr)(hSf:S∉fp){ps:List Pr}(hn:vs.length=n)(hP:∀i v,P i v->vs[i]? =some v)(hu:A.in1.units<cLine)(h₀:Heap)
  (hps:dW prog w h₀ vs ps) (hwr:∀b o,b∈S::wr->h₀.get? b=some o->False):∀(k i:Nat) (s:Shared),n-i=k->i<=n->St i s.heap->(∀b o,h₀.get? b=some o->s.heap.get? b=some o)->qy prog w s.heap S vs ps i->
   (∀h' tk,(∀b o,b∉S::wr->s.heap.get? b=some o->h'.get? b=some o)->qy prog w h' S vs ps n->R (.ok (.ret .none)) {s with heap:=h',toks:=tk})->
   codeAny (model prog w) A (.builtin "set.update.loop" ⟨[.ref S,.ref I],[]⟩) R s:=by
 have nw:S∉wr:=λh=>hSf (W.sub _ h)
 intro k
 induction k with
 |zero=>
  intro i s hk hi hst hk0 hF hR
  obtain rfl:i=n:=@AT
  refine QN PyProof.Rows.F.entry_set_update_loop ?_
  rw[QS RA _]
  refine O8 (W.done s _ _ hst λh' tk hm=>?_)
  refine Pa (hR h' tk (λb o hb e=>hm b o (λz=>hb (Pk _ z)) e) ?_)
  let⟨qs,Q1,Q2,Q3⟩:=hF
  let⟨o,ep,t,ho,r⟩:=Q1.ex
  refine⟨qs,⟨⟨o,ep,t,hm S o nw ho,r⟩,λq hq=>⟨?_,(Q1.at' q hq).2⟩,Q1.nd⟩,Q2,Q3⟩
  let⟨m,hm1,hm2⟩:=Qf.mp (Sg (Q2 q hq).1)
  have hm1':m<ps.length:=by rw[<-hps.1];exact hm1
  let⟨a,ea,ha,_⟩:=hps.2 m vs[m] ps[m] (O9 hm1) (O9 hm1')
  rw[hm2]at ea
  cases ea
  let⟨o',it',n',ho',r'⟩:=(Q1.at' q hq).1
  let⟨o2,it2,n2,ho2,r2⟩:=ha
  have:o'=o2:=Option.some.inj (ho'.symm.trans (hk0 _ _ ho2))
  subst this
  exact⟨o',it',n',hm _ _ (λz=>hwr _ _ (Pk _ z) ho2) ho',r'⟩
 |succ k ih=>
  intro i s hk hi hst hk0 hF hR
  have hlt:i<n:=@AT
  refine QN PyProof.Rows.F.entry_set_update_loop ?_
  rw[QS RA _]
  refine O8 (W.item i s _ _ hlt hst λv h1 tk1 hv hst1 hm=>?_)
  have hvi:=hP i v hv
  have hip:i<ps.length:=by rw[<-hps.1,hn];exact hlt
  obtain⟨a,rfl,ha,hsm⟩:=hps.2 i v ps[i] hvi (O9 hip)
  have k1:∀b o,h₀.get? b=some o->h1.get? b=some o:=λb o e=>hm b o (λz=>hwr b o (Pk _ z) e) (hk0 b o e)
  let⟨qs,Q1,Q2,Q3⟩:=hF
  have old:∀{q:Addr×Pr} {h:Heap},q∈qs->(∀b o,h₀.get? b=some o->h.get? b=some o)->bW prog w h q.2 q.1:=λ{q h} hq kk=>by
   let⟨m,hm1,hm2⟩:=Qf.mp (Sg (Q2 q hq).1)
   have hm1':m<ps.length:=by rw[<-hps.1];exact hm1
   let⟨a,ea,ha,_⟩:=hps.2 m vs[m] ps[m] (O9 hm1) (O9 hm1')
   rw[hm2]at ea
   cases ea
   let⟨o',it',n',ho',r'⟩:=(Q1.at' q hq).1
   let⟨o2,it2,n2,ho2,r2⟩:=ha
   have:o'=o2:=Option.some.inj (ho'.symm.trans (hk0 _ _ ho2))
   subst this
   exact⟨o',it',n',kk _ _ ho2,r'⟩
  have P1:wa (CW prog w) prog w (ki w) h1 S qs:=by
   let⟨o,ep,t,ho,r⟩:=Q1.ex
   exact⟨⟨o,ep,t,hm S o nw ho,r⟩,λq hq=>⟨old hq k1,(Q1.at' q hq).2⟩,Q1.nd⟩
  have ha1:bW prog w h1 ps[i] a:=by
   let⟨o',it',n',ho',r'⟩:=ha
   exact⟨o',it',n',k1 _ _ ho',r'⟩
  refine O8 (Qc ?_)
  unfold setAdd
  refine Qc (O8 (wpAny_pyHash_tuple hu ha1 (wa.add (HA prog w) P1 ha1 hsm hu λb h2 qs' sb P2 m1 m2 m3=>?_)))
  have sbS:∀b o,h₀.get? b=some o->h2.get? b=some o:=λb o e=>(sb.2 b (λz=>hwr b o (by rw[z];exact Pq) e)).trans (k1 b o e)
  refine Pa ⟨R1 RA _,ih (i+1) _ (@AT) hlt (W.frame _ _ _ hst1 λb hb o e=>?_) sbS ⟨qs',P2,λq hq=>?_,λp hp=>?_⟩ λh' tk hm' F'=>?_⟩
  .rw[sb.2 b λz=>hSf (by rw[<-z];exact hb)];exact e
  .have htk:∀{α:Type} {l:List α} {x:α},x∈l.take i->x∈l.take (i+1):=λ{α l x} hx=>by
    rw[QD];exact Qh _ hx
   rcases m1 q hq with z|z
   .exact⟨htk (Q2 q z).1,htk (Q2 q z).2⟩
   .subst z
    refine⟨?_,?_⟩
    .rw[QD,hvi];exact P5 _ (by simp)
    .rw[QD,O9 hip];exact P5 _ (by simp)
  .rw[QD,O9 hip]at hp
   rcases Pz.mp hp with z|z
   .obtain⟨q,hq,rfl⟩:=Pj.mp (Q3 p z)
    exact Pj.mpr ⟨q,m2 q hq,rfl⟩
   .have:p=ps[i]:=by simpa using z
    let⟨q,hq,e⟩:=m3
    exact Pj.mpr ⟨q,hq,by rw[e,this]⟩
  .refine hR h' tk (λb o hb e=>hm' b o hb ?_) F'
   rw[sb.2 b λz=>hb (by rw[z];exact Pq)]
   exact hm b o (λz=>hb (Pk _ z)) e
def wM(a:Value){Q1:@B_}
  (h:Q1 (.ref s.heap.objs.size) {s with heap:=s.heap.push {cls:=.type "set",dict:=none,data:=.set #[] 0 (.fresh 0 0 (ki w))}}) :
  codeAny (model prog w) A (.call (.builtin "set.__new__") ⟨[.type "set",a],[]⟩) (wants Q1 E) s:=by
 refine codeAny_of_tree ?_
 show wpAny _ A.in1 (do (checkBuiltinCall "set.__new__" ⟨[.type "set",a],[]⟩);again (.builtin "set.__new__" ⟨[.type "set",a],[]⟩)) _ _ s
 refine O8 (wpAny_of_eq (F.newCall_set_1 a) (Pa ⟨R1 F.plain_set_new _,QN F.entry_set_new ?_⟩))
 rw[QS F.plain_set_new _]
 (unfold Builtin.«set.__new__» Builtin.Frozenset.newClass)
 have hsub0:=sub_set_self
 let⟨hp0,g0,d0,tk0,os0⟩:=s
 dsimp only
 wp_walk
 (refine Sh (Pa ?_))
 dsimp only
 simp only[newObj]
 (refine O8 (wpAny_alloc (Pa ?_)))
 exact Pa h
def Cu(led:Bool):Tab (.fresh 0 0 led) []:=
 ⟨.inl rfl,rfl,List.Pairwise.nil,λj h=>(by cases(RL.mpr h)),rfl,(by show(0:Nat)*5<7*3;decide),λi j h e=>(by simp[SetTable.fresh]at e),rfl⟩
structure Src(prog:Program)(w:World)(h:Heap)(l:Addr)(vs:List Value)(T:String)(itO:Obj)(St:Addr->Nat->Heap->Prop):Prop where
 ty:∃o,h.get? l=some o/\o.cls=.type T
 ns:isSubtype (.type T) (.type "set")=pure false
 nf:isSubtype (.type T) (.type "frozenset")=pure false
 nd:(Value.type T==Value.type "dict")=false
 it:∀(A:Around) (s1:Shared) (Q:@B_) (E:@B_),(∀b o,h.get? b=some o->s1.heap.get? b=some o)->Q (.ref s1.heap.objs.size) {s1 with heap:=s1.heap.push itO}->wpAny (model prog w) A (pyIter (.ref l)) Q E s1
 st:∀(h1:Heap),(∀b o,h.get? b=some o->h1.get? b=some o)->St h1.objs.size 0 (h1.push itO)
 wk:∀(A:Around) (I:Addr),A.handled=none->l≠I->Walks prog w A I [I,l] [I] vs.length (λi v=>vs[i]? =some v) (St I)
def Src.list(hl:h.IsList l vs.toArray):Src prog w h l vs "list" {cls:=.type "list_iterator",data:=.fields #[.ref l,.int 0 0]} (λI i h'=>h'.IsListIter I l i/\h'.IsList l vs.toArray):=by
 let⟨o,ho,hc,n,hd⟩:=id hl
 refine⟨⟨o,ho,hc⟩,F.sub_list_set,F.sub_list_frozenset,by decide,λA s1 Q E k hQ=>RJ ⟨o,k _ _ ho,hc,n,hd⟩ hQ,λh1 k=>⟨⟨_,Pl _ rfl,rfl,rfl⟩,⟨o,Pb _ (k _ _ ho),hc,n,hd⟩⟩,λA I hh hne=>?_⟩
 have:=Walks.list (prog:=prog) (w:=w) hh I l hne vs.toArray
 simpa using this
def sub_tuple_set:isSubtype (.type "tuple") (.type "set")=pure false:=by rw[Rh];kernel_rfl
def sub_tuple_frozenset:isSubtype (.type "tuple") (.type "frozenset")=pure false:=by rw[Rh];kernel_rfl
def Src.tuple(hl:h.IsTuple l vs.toArray):Src prog w h l vs "tuple" {cls:=.type "tuple_iterator",data:=.fields #[.ref l,.int 0 0]} (λI i h'=>h'.IsTupleIter I l i/\h'.IsTuple l vs.toArray):=by
 let⟨o,ho,hc,n,hd⟩:=id hl
 refine⟨⟨o,ho,hc⟩,sub_tuple_set,sub_tuple_frozenset,by decide,λA s1 Q E k hQ=>R5 ⟨o,k _ _ ho,hc,n,hd⟩ hQ,λh1 k=>⟨⟨_,Pl _ rfl,rfl,rfl⟩,⟨o,Pb _ (k _ _ ho),hc,n,hd⟩⟩,λA I hh hne=>?_⟩
 have:=Walks.tuple (prog:=prog) (w:=w) hh I l hne vs.toArray
 simpa using this
set_option maxHeartbeats 3200000 in
theorem qJ{St:Addr->Nat->Heap->Prop}{Q:@B_}(X:Src prog w s.heap l vs T itO St)(hh:A.handled=none)(hu:A.units+64<cLine)(hps:dW prog w s.heap vs ps)
  (h:∀(h':Heap) (tk:Nat),qy prog w h' s.heap.objs.size vs ps vs.length->(∀b o,s.heap.get? b=some o->h'.get? b=some o)->Q (.ref s.heap.objs.size) {s with heap:=h',toks:=tk}) :
  wpAny (model prog w) A (call (.type "set") [.ref l]) Q E s:=by
 let⟨c0,tl0,hmro0⟩:=RX.mro
 have hmade0:=RX.made
 have hsub0:=RX.sub
 refine wpAny_call (codeAny_of_tree ?_)
 refine Pa ⟨Code.quiet_builtin _ (by decide +kernel),QN F.entry_type_call ?_⟩
 (rw[Around.under_plain (weight_type_call_type "set" [.ref l] []) rfl])
 have g1:=RX.notType
 have g2:=RX.canCreate
 have g3:=F.typeCall_set_1 (.ref l)
 repeat(any_goals(first|assumption|wp_step))
 refine Sx (wM (.ref l) (E:=E) (Q1:=λobj s1=>obj=.ref s.heap.objs.size/\s1={s with heap:=s.heap.push {cls:=.type "set",dict:=none,data:=.set #[] 0 (.fresh 0 0 (ki w))}}) ⟨rfl,rfl⟩) λr s1 hr=>?_
 cases r with
 |error e=>exact hr
 |ok fl=>
  cases fl with
  |ret obj=>
   obtain⟨rfl,rfl⟩:=hr
   generalize hO:({cls:=.type "set",dict:=none,data:=.set #[] 0 (.fresh 0 0 (ki w))}:Obj)=O
   have hS0:(s.heap.push O).get? s.heap.objs.size=some O:=Pl _ (by rw[<-hO];rfl)
   have hT0:Shared.TypeIs {s with heap:=s.heap.push O} (.ref s.heap.objs.size) "set":=⟨_,hS0,by rw[<-hO]⟩
   have g4:=RX.init.lookup
   have g5:=RX.init.bind (.ref s.heap.objs.size)
   repeat(any_goals(first|assumption|wp_step))
   refine Sx (codeAny_call_builtin (R:=wants (λr s2=>r=.none/\∃h' tk,s2={s with heap:=h',toks:=tk}/\qy prog w h' s.heap.objs.size vs ps vs.length/\(∀b o,s.heap.get? b=some o->h'.get? b=some o)) E)
    RX.init.plain F.entry_set_init (check_set_init_1 hT0 ?_)) λr2 s2 hr2=>?_
   .let⟨ol,hol,hcl⟩:=X.ty
    have hol':(s.heap.push O).get? l=some ol:=Pb _ hol
    have e1:=X.ns
    have e2:=X.nf
    have e3:=X.nd
    have hTl:Shared.TypeIs {s with heap:=s.heap.push O} (.ref l) T:=⟨ol,hol',hcl⟩
    have hdat:O.data=.set #[] 0 (.fresh 0 0 (ki w)):=by rw[<-hO]
    (unfold Builtin.«set.__init__» noKeywords Builtin.Frozenset.updateFrom)
    subst hO
    let⟨oc,od,odt,osl⟩:=ol
    simp only at hcl
    subst hcl
    (generalize hPI0:pyIter=PI0)
    wp_walk
    subst hPI0
    have kp:∀b o,s.heap.get? b=some o->(s.heap.push {cls:=.type "set",dict:=none,data:=.set #[] 0 (.fresh 0 0 (ki w))}).get? b=some o:=λb o e=>Pb _ e
    refine X.it _ _ _ _ kp (O8 (wpAny_runValue ?_))
    have hlS:l<s.heap.objs.size:=Po hol
    have hh3:A.in1.in1.in1.handled=none:=by simp[hh]
    have hneI:l≠(s.heap.push {cls:=.type "set",dict:=none,data:=.set #[] 0 (.fresh 0 0 (ki w))}).objs.size:=by
     rw[QJ];exact P4 (Nat.lt_succ_of_lt hlS)
    have hSf:s.heap.objs.size∉ [(s.heap.push {cls:=.type "set",dict:=none,data:=.set #[] 0 (.fresh 0 0 (ki w))}).objs.size,l]:=by
     rw[QJ]
     intro z
     rcases Pf.mp z with e|z
     .exact absurd e (P4 (Nat.lt_succ_self _))
     .exact absurd (PU.mp z) (RS hlS)
    refine oG (X.wk _ _ hh3 hneI) s.heap.objs.size hSf rfl (λi v e=>e) (by simp;omega) s.heap hps (λb o hb e=>?_) (vs.length-0) 0 _ (@AT) (P9 _) (X.st _ kp) (λb o e=>Pb _ (kp b o e)) ?_ ?_
    .have hlt:=Po e
     rw[QJ]at hb
     rcases Pf.mp hb with z|z
     .exact absurd hlt (by rw[z];exact Qd _)
     .rw[PU.mp z]at hlt
      exact absurd hlt (Nat.not_lt.mpr (R8 _))
    .refine⟨[],⟨⟨_,0,_,Pb _ hS0,⟨rfl,rfl,rfl⟩,rfl,Cu _,rfl⟩,λq hq=>(by cases hq),Rw⟩,λq hq=>(by cases hq),λp hp=>(by simp at hp)⟩
    .intro h' tk hm F'
     refine Pa ?_
     refine Pa ⟨rfl,h',tk,rfl,F',λb o e=>hm b o (λz=>?_) (Pb _ (kp b o e))⟩
     have hlt:=Po e
     rw[QJ]at z
     rcases Pf.mp z with z|z
     .exact absurd hlt (by rw[z];exact Qd _)
     .rw[PU.mp z]at hlt
      exact absurd hlt (Nat.not_lt.mpr (R8 _))
   .cases r2 with
    |error e=>exact hr2
    |ok fl2=>
     cases fl2 with
     |ret r=>
      obtain⟨rfl,h',tk,rfl,hF,hk⟩:=hr2
      repeat(any_goals(first|assumption|wp_step))
      exact h _ _ hF hk
     |_=>exact hr2.elim
  |_=>exact hr.elim
end
end L2.ST
namespace L2.SO
open PySem PySem.W PyProof.Rows
def lb{α:Type}(lt:Nat->Nat->Bool):KasT α->α
 | .ret a=>a
 | .ask i j k=>lb lt (k (lt i j))
theorem gu{α β:Type}(lt:Nat->Nat->Bool)(f:α->KasT β):∀t:KasT α,lb lt (t.bind f)=lb lt (f (lb lt t))
 | .ret _=>rfl
 | .ask i j k=>gu lt f (k (lt i j))
def wu{α:Type}(n:Nat)(lt:Nat->Nat->Bool):KasT α->Prop
 | .ret _=>True
 | .ask i j k=>i<n/\j<n/\wu n lt (k (lt i j))
theorem i5{α β:Type}{n:Nat}{lt:Nat->Nat->Bool}{f:α->KasT β}:∀{t:KasT α},wu n lt t->wu n lt (f (lb lt t))->wu n lt (t.bind f)
 | .ret _,_,h=>h
 | .ask i j k,h,h'=>⟨h.1,h.2.1,i5 h.2.2 h'⟩
section
variable {n:Nat}{key:Nat->Int}
abbrev qc(key:Nat->Int)(i j:Nat):Bool:=decide (key i<key j)
abbrev Kp(key:Nat->Int)(p:Array Nat)(k:Nat):Int:=key (p.getD k 0)
structure Pm(n:Nat)(p:Array Nat):Prop where
 sz:p.size=n
 nd:p.toList.Nodup
 lt:∀x,x∈p->x<n
def Pm.at(P:Pm n p)(hk:k<n):p.getD k 0<n:=by
 have h:k<p.size:=by rw[P.sz];exact hk
 simp only[Array.getD,h,dif_pos]
 exact P.lt _ (SN h)
def Pm.ne(P:Pm n p)(hi:i<n)(hk:k<n)(hne:i≠k):p.getD i 0≠p.getD k 0:=by
 have h1:i<p.toList.length:=by simpa using(by rw[P.sz];exact hi:i<p.size)
 have h2:k<p.toList.length:=by simpa using(by rw[P.sz];exact hk:k<p.size)
 have h1':i<p.size:=by rw[P.sz];exact hi
 have h2':k<p.size:=by rw[P.sz];exact hk
 have a1:p.getD i 0=p.toList[i]:=by simp[Array.getD,h1']
 have a2:p.getD k 0=p.toList[k]:=by simp[Array.getD,h2']
 rw[a1,a2]
 have q:=RN.mp P.nd
 rcases Qo i k with c|c
 .exact q i k h1 h2 c
 .exact (q k i h2 h1 (@AT)).symm
def Pm.perm(P:Pm n p)(h:q.Perm p):Pm n q:=by
 have h':=Array.perm_iff_toList_perm.mp h
 exact⟨by rw[h.size_eq];exact P.sz,h'.nodup_iff.mpr P.nd,λx hx=>P.lt x (by simpa using h'.mem_iff.mp (by simpa using hx))⟩
def xq(n:Nat):Pm n (List.toArray (List.range n)):=⟨by simp,by simpa using Rv,λx hx=>by simpa using hx⟩
def Inj(n:Nat)(key:Nat->Int):Prop:=∀i j,i<n->j<n->key i=key j->i=j
def Pm.Jd(P:Pm n p)(hi:Inj n key)(h1:i<n)(h2:k<n)(hne:i≠k):Kp key p i<Kp key p k\/Kp key p k<Kp key p i:=by
 have:Kp key p i≠Kp key p k:=λe=>P.ne h1 h2 hne (hi _ _ (P.at h1) (P.at h2) e)
 omega
def Up(key:Nat->Int)(p:Array Nat)(m:Nat):Prop:=∀i j,i<j->j<m->Kp key p i<Kp key p j
def Dn(key:Nat->Int)(p:Array Nat)(m:Nat):Prop:=∀i j,i<j->j<m->Kp key p j<Kp key p i
def Up.snoc(U:Up key p m)(h1:1<=m)(h:Kp key p (m-1)<Kp key p m):Up key p (m+1):=λi j hij hj=>by
 rcases Qo j m with c|c
 .exact U i j hij c
 .have:j=m:=@AT
  subst this
  rcases Qo i (j-1)with d|d
  .exact Int.lt_trans (U i (j-1) d (@AT)) h
  .have:i=j-1:=@AT
   rw[this];exact h
def Dn.snoc(U:Dn key p m)(h1:1<=m)(h:Kp key p m<Kp key p (m-1)):Dn key p (m+1):=λi j hij hj=>by
 rcases Qo j m with c|c
 .exact U i j hij c
 .have:j=m:=@AT
  subst this
  rcases Qo i (j-1)with d|d
  .exact Int.lt_trans h (U i (j-1) d (@AT))
  .have:i=j-1:=@AT
   rw[this];exact h
theorem qE(P:Pm n p)(hi:Inj n key):∀(f m:Nat),1<=m->m+f<=n->Up key p m->
  ∃r,(lb (qc key) (kas_asc p f m)=r/\wu n (qc key) (kas_asc p f m))/\m<=r/\r<=m+f/\Up key p r/\(r<m+f->Kp key p r<Kp key p (r-1))
 | 0,m,_,_,U=>⟨m,⟨rfl,trivial⟩,Pd _,Pd _,U,λh=>absurd h (Qd _)⟩
 |f+1,m,h1,hn,U=>by
  have b1:p.getD m 0<n:=P.at (@AT)
  have b2:p.getD (m-1) 0<n:=P.at (@AT)
  unfold kas_asc lb wu
  by_cases c:Kp key p m<Kp key p (m-1)
  .rw[show qc key (p.getD m 0) (p.getD (m-1) 0)=true from Pu c]
   simp only[Qn]
   exact⟨m,⟨rfl,b1,b2,trivial⟩,Pd _,@AT,U,λ_=>c⟩
  .rw[show qc key (p.getD m 0) (p.getD (m-1) 0)=false from Px c]
   simp only[Py,Qb]
   have up:Kp key p (m-1)<Kp key p m:=(P.Jd hi (@AT) (@AT) (@AT)).resolve_right c
   let⟨r,⟨e,o⟩,a,b,u,d⟩:=qE P hi f (m+1) (@AT) (@AT) (U.snoc h1 up)
   exact⟨r,⟨e,b1,b2,o⟩,@AT,@AT,u,λh=>d (@AT)⟩
theorem uw(P:Pm n p)(hi:Inj n key):∀(f m:Nat),1<=m->m+f<=n->Dn key p m->
  ∃r,(lb (qc key) (kas_desc f p m 0)=(p,r,0)/\wu n (qc key) (kas_desc f p m 0))/\m<=r/\r<=m+f/\Dn key p r
 | 0,m,_,_,U=>⟨m,⟨rfl,trivial⟩,Pd _,Pd _,U⟩
 |f+1,m,h1,hn,U=>by
  have b1:p.getD m 0<n:=P.at (@AT)
  have b2:p.getD (m-1) 0<n:=P.at (@AT)
  unfold kas_desc lb wu
  by_cases c:Kp key p m<Kp key p (m-1)
  .rw[show qc key (p.getD m 0) (p.getD (m-1) 0)=true from Pu c]
   simp only[Qn,Qd,gt_iff_lt,Qb]
   let⟨r,⟨e,o⟩,a,b,u⟩:=uw P hi f (m+1) (@AT) (@AT) (U.snoc h1 c)
   exact⟨r,⟨e,b1,b2,o⟩,@AT,@AT,u⟩
  .rw[show qc key (p.getD m 0) (p.getD (m-1) 0)=false from Px c]
   simp only[Py,Qb]
   unfold lb wu
   have up:Kp key p (m-1)<Kp key p m:=(P.Jd hi (@AT) (@AT) (@AT)).resolve_right c
   rw[show qc key (p.getD (m-1) 0) (p.getD m 0)=true from Pu up]
   simp only[Qn]
   exact⟨m,⟨rfl,b1,b2,b2,b1,trivial⟩,Pd _,@AT,U⟩
def DX(hj:j<=p.size)(hk:k<j):(kas_rev p 0 j).getD k 0=p.getD (j-1-k) 0:=by
 unfold kas_rev
 rw[Qg,getElem?_mirror_all hj k,Pe ⟨P9 _,hk⟩,Qg]
 congr 2
 omega
def Lf(hm:m<=p.size)(D:Dn key p m):Up key (kas_rev p 0 m) m:=λi j hij hj=>by
 unfold Kp
 rw[DX hm (@AT),DX hm hj]
 exact D (m-1-j) (m-1-i) (@AT) (@AT)
def Pm.rev(P:Pm n p)(j:Nat):Pm n (kas_rev p 0 j):=P.perm (mirror_perm ..)
def zZ(P:Pm n p)(hi:Inj n key)(h1:1<=n) :
  ∃m q,(lb (qc key) (kas_count n p)=(m,q)/\wu n (qc key) (kas_count n p))/\Pm n q/\1<=m/\m<=n/\Up key q m:=by
 let⟨r,⟨e,o⟩,a,b,u,d⟩:=qE P hi (n-1) 1 (Pd _) (@AT) (λi j hij hj=>@AT)
 have rest:∃m q,(lb (qc key) (if(r==n)=true then KasT.ret (r,p)else if r>1 then .ask (p.getD 0 0) (p.getD (r-1) 0) λc=>if c=true then .ret (r,p)else kas_descPart r n (kas_rev p 0 r)else kas_descPart r n p)=(m,q)/\
   wu n (qc key) (if(r==n)=true then KasT.ret (r,p)else if r>1 then .ask (p.getD 0 0) (p.getD (r-1) 0) λc=>if c=true then .ret (r,p)else kas_descPart r n (kas_rev p 0 r)else kas_descPart r n p))/\Pm n q/\1<=m/\m<=n/\Up key q m:=by
  by_cases c:(r==n)=true
  .rw[Pe c]
   exact⟨r,p,⟨rfl,trivial⟩,P,a,@AT,u⟩
  .rw[Pg c]
   have hrn:r≠n:=by simpa using c
   have dd:=d (@AT)
   by_cases c2:r>1
   .rw[Pe c2]
    unfold lb wu
    rw[show qc key (p.getD 0 0) (p.getD (r-1) 0)=true from Pu (u 0 (r-1) (@AT) (@AT))]
    simp only[Qn]
    exact⟨r,p,⟨rfl,P.at (@AT),P.at (@AT),trivial⟩,P,a,@AT,u⟩
   .rw[Pg c2]
    have hr1:r=1:=@AT
    subst hr1
    unfold kas_descPart
    rw[gu]
    have D2:Dn key p 2:=λi j hij hj=>by
     have e1:i=0:=@AT
     have e2:j=1:=@AT
     rw[e1,e2];exact dd
    let⟨x,⟨e2,o2⟩,a2,b2,u2⟩:=uw P hi (n-2) 2 (@AT) (@AT) D2
    let⟨y,⟨e3,o3⟩,a3,b3,u3,_⟩:=qE (P.rev x) hi (n-x) x (@AT) (@AT) (Lf (by rw[P.sz];omega) u2)
    rw[show n-(1+1)=n-2 from rfl,show(1+1:Nat)=2 from rfl]
    have t3:wu n (qc key) (kas_tail3 x n p):=by
     unfold kas_tail3
     exact i5 o3 trivial
    refine⟨y,kas_rev p 0 x,⟨?_,i5 o2 ?_⟩,P.rev x,@AT,@AT,u3⟩
    .rw[e2]
     simp only[Qd,gt_iff_lt,Qb]
     unfold kas_tail3
     rw[gu,e3]
     rfl
    .rw[e2]
     simp only[Qd,gt_iff_lt,Qb]
     exact t3
 let⟨m,q,⟨f1,f2⟩,f3⟩:=rest
 refine⟨m,q,⟨?_,?_⟩,f3⟩
 .unfold kas_count
  rw[gu,e]
  exact f1
 .unfold kas_count
  refine i5 o ?_
  rw[e]
  exact f2
theorem place_spec(P:Pm n p)(hi:Inj n key)(hk:k<n)(U:Up key p k):∀(f l r:Nat),l<=r->r<=k->r-l<=f->(∀i,i<l->Kp key p i<Kp key p k)->(∀i,r<=i->i<k->Kp key p k<Kp key p i)->
  ∃x,(lb (qc key) (kas_place p k f l r)=x/\wu n (qc key) (kas_place p k f l r))/\x<=k/\(∀i,i<x->Kp key p i<Kp key p k)/\(∀i,x<=i->i<k->Kp key p k<Kp key p i)
 | 0,l,r,h1,h2,h3,a,b=>⟨l,⟨rfl,trivial⟩,@AT,a,λi hi=>b i (@AT)⟩
 |f+1,l,r,h1,h2,h3,a,b=>by
  unfold kas_place
  by_cases c:l>=r
  ·rw[Pe c]
   exact⟨l,⟨rfl,trivial⟩,@AT,a,λi hi=>b i (@AT)⟩
  ·rw[Pg c]
   have b1:p.getD k 0<n:=P.at hk
   have b2:p.getD ((l+r)/2) 0<n:=P.at (@AT)
   unfold lb wu
   by_cases d:Kp key p k<Kp key p ((l+r)/2)
   .rw[show qc key (p.getD k 0) (p.getD ((l+r)/2) 0)=true from Pu d]
    simp only[Qn]
    have side:∀i,(l+r)/2<=i->i<k->Kp key p k<Kp key p i:=λi h1 h2=>by
     rcases Qo ((l+r)/2) i with z|z
     .exact Int.lt_trans d (U _ _ z h2)
     .have:i=(l+r)/2:=@AT
      rw[this];exact d
    let⟨x,⟨e1,e2⟩,e3⟩:=place_spec P hi hk U f l ((l+r)/2) (@AT) (@AT) (@AT) a side
    exact⟨x,⟨e1,b1,b2,e2⟩,e3⟩
   .rw[show qc key (p.getD k 0) (p.getD ((l+r)/2) 0)=false from Px d]
    simp only[Py,Qb]
    have d':Kp key p ((l+r)/2)<Kp key p k:=(P.Jd hi (@AT) hk (@AT)).resolve_right d
    have side:∀i,i<(l+r)/2+1->Kp key p i<Kp key p k:=λi h=>by
     rcases Qo i ((l+r)/2)with z|z
     .exact Int.lt_trans (U _ _ z (@AT)) d'
     .have:i=(l+r)/2:=@AT
      rw[this];exact d'
    let⟨x,⟨e1,e2⟩,e3⟩:=place_spec P hi hk U f ((l+r)/2+1) r (@AT) h2 (@AT) side b
    exact⟨x,⟨e1,b1,b2,e2⟩,e3⟩
def DB(hk:k<p.size)(hl:l<=k):(bubble p k (k-l)).getD j 0=if j=l then p.getD k 0 else if l<j/\j<=k then p.getD (j-1) 0 else p.getD j 0:=by
 rw[Qg,getElem?_bubble hk (k-l) (@AT) j,show k-(k-l)=l by omega]
 simp only[Qg]
 split
 .rfl
 .split<;>rfl
theorem xt(hi:Inj n key):∀(f k:Nat) (p:Array Nat),Pm n p->1<=k->k+f=n->Up key p k->∃q,(lb (qc key) (kas_bin f p k)=q/\wu n (qc key) (kas_bin f p k))/\Pm n q/\Up key q n
 | 0,k,p,P,_,e,U=>⟨p,⟨rfl,trivial⟩,P,by rw[<-e];exact U⟩
 |f+1,k,p,P,h1,e,U=>by
  have hk:k<n:=@AT
  let⟨l,⟨el,ol⟩,hl,a,b⟩:=place_spec P hi hk U k 0 k (P9 _) (Pd _) (@AT) (λi h=>@AT) (λi h h'=>@AT)
  have side:Up key (bubble p k (k-l)) (k+1):=λi j hij hj=>by
   have hks:k<p.size:=by rw[P.sz];exact hk
   unfold Kp
   rw[DB hks hl,DB hks hl]
   by_cases i1:i=l
   .rw[Pe i1,Pg (@AT)]
    by_cases j2:l<j/\j<=k
    .rw[Pe j2];exact b _ (@AT) (@AT)
    .omega
   .rw[Pg i1]
    by_cases i2:l<i/\i<=k
    .rw[Pe i2,Pg (@AT),Pe (@AT)]
     exact U _ _ (@AT) (@AT)
    .rw[Pg i2]
     by_cases j1:j=l
     .rw[Pe j1];exact a _ (@AT)
     .rw[Pg j1]
      by_cases j2:l<j/\j<=k
      .rw[Pe j2]
       rcases Qo i (j-1)with z|z
       .exact U _ _ z (@AT)
       .omega
      .rw[Pg j2];exact U _ _ hij (@AT)
  let⟨q,⟨q1,q2⟩,q3⟩:=xt hi f (k+1) (bubble p k (k-l)) (P.perm (bubble_perm ..)) (@AT) (@AT) side
  refine⟨q,⟨?_,?_⟩,q3⟩
  .unfold kas_bin;rw[gu,el];exact q1
  .unfold kas_bin;refine i5 ol ?_;rw[el];exact q2
def CB(hi:Inj n key)(h2:2<=n):∃q,(lb (qc key) (kas_sort n)=q/\wu n (qc key) (kas_sort n))/\Pm n q/\Up key q n:=by
 let⟨m,q,⟨e,o⟩,P,a,b,u⟩:=zZ (xq n) hi (@AT)
 by_cases c:m<n
 .let⟨q',⟨e1,o1⟩,r⟩:=xt hi (n-m) m q P a (@AT) u
  refine⟨q',⟨?_,?_⟩,r⟩
  .unfold kas_sort;rw[gu,e];dsimp only;rw[Pe c,Nat.max_eq_left a];exact e1
  .unfold kas_sort;refine i5 o ?_;rw[e];dsimp only;rw[Pe c,Nat.max_eq_left a];exact o1
 .refine⟨q,⟨?_,?_⟩,P,λi j hij hj=>u i j hij (@AT)⟩
  .unfold kas_sort;rw[gu,e];dsimp only;rw[Pg c];rfl
  .unfold kas_sort;refine i5 o ?_;rw[e];dsimp only;rw[Pg c];trivial
theorem wp_run{α:Type}{n:Nat}{lt:Nat->Nat->Bool}{cmp:Nat->Nat->(Bool->Shared->Prop)->Shared->Prop}{Q:α->Shared->Prop}{s:Shared} :
  ∀(t:KasT α),(∀i j C,i<n->j<n->C (lt i j) s->cmp i j C s)->wu n lt t->Q (lb lt t) s->t.kasWp cmp Q s
 | .ret a,_,_,h=>h
 | .ask i j k,hc,ho,h=>hc i j _ ho.1 ho.2.1 (wp_run (k (lt i j)) hc ho.2.2 h)
end
end L2.SO
namespace L2.ST
open PySem PySem.SetTable PySem.W PyProof.Rows
def code(p:Pr):Int:=p.1*8+p.2
def A2(h1:Sm p)(h2:Sm q):code p<code q↔p.1<q.1\/(p.1=q.1/\p.2<q.2):=by
 unfold code Sm at *;omega
def code_inj(h1:Sm p)(h2:Sm q)(e:code p=code q):p=q:=by
 unfold code Sm at *
 refine Prod.ext ?_ ?_<;>omega
section
variable {prog:Program}{w:World}{A:Around}{E:@B_}{s:Shared}
abbrev uQ(ps:List Pr)(i:Nat):Int:=code (ps.getD i (0,0))
def EE(nd:ps.Nodup)(hs:∀p,p∈ps->Sm p):L2.SO.Inj ps.length (uQ ps):=λi j hi hj e=>by
 have a1:ps.getD i (0,0)=ps[i]:=by simp[hi]
 have a2:ps.getD j (0,0)=ps[j]:=by simp[hj]
 unfold uQ at e
 rw[a1,a2]at e
 have e':=code_inj (hs _ (QG hi)) (hs _ (QG hj)) e
 have q:=RN.mp nd
 rcases SM i j with c|c|c
 .exact absurd e' (q i j hi hj c)
 .exact c
 .exact absurd e'.symm (q j i hj hi c)
theorem Gf{Q:Bool->Shared->Prop}(ha:bW prog w s.heap p a)(hb:bW prog w s.heap q b)(hp:Sm p)(hq:Sm q)(h:Q (decide (code p<code q)) s) :
  wpAny (model prog w) A (keyLt' (tuples' true) (.ref a) (.ref b)) Q E s:=by
 let⟨oa,ia,na,hoa,hca,hda,hia⟩:=ha
 let⟨ob,ib,nb,hob,hcb,hdb,hib⟩:=hb
 obtain⟨l1,rfl⟩:∃l,ia=List.toArray l:=⟨ia.toList,by simp⟩
 obtain⟨l2,rfl⟩:∃l,ib=List.toArray l:=⟨ib.toList,by simp⟩
 simp only[Rb]at hia hib
 cases hia with
 | @cons _ v1 _ _ h1 hia=>
  cases hia with
  | @cons _ v2 _ _ h2 hia=>
   cases hia
   cases hib with
   | @cons _ u1 _ _ g1 hib=>
    cases hib with
    | @cons _ u2 _ _ g2 hib=>
     cases hib
     obtain⟨t1,rfl⟩:=Rn h1
     obtain⟨t2,rfl⟩:=Rn h2
     obtain⟨t3,rfl⟩:=Rn g1
     obtain⟨t4,rfl⟩:=Rn g2
     refine kat_lt hoa hda hob hdb ?_
     have hc:=A2 hp hq
     refine kat_cons (wpAny_eqBool_int ?_)
     by_cases e1:p.1=q.1
     .rw[show(p.1==q.1)=true by simpa using e1]
      refine kat_yes (kat_cons (wpAny_eqBool_int ?_))
      by_cases e2:p.2=q.2
      .rw[show(p.2==q.2)=true by simpa using e2]
       refine kat_yes (kat_nil ?_)
       have:decide (code p<code q)=false:=Px (by rw[hc];omega)
       rw[this]at h
       simpa using h
      .rw[show(p.2==q.2)=false by simpa using e2]
       refine kat_no ?_
       refine kat_one _ _ (lt_int ?_)
       have:decide (code p<code q)=decide (p.2<q.2):=by
        by_cases z:p.2<q.2
        .rw[Pu z];exact Pu (hc.mpr (.inr ⟨e1,z⟩))
        .rw[Px z];exact Px (by rw[hc];omega)
       rw[this]at h;exact h
     .rw[show(p.1==q.1)=false by simpa using e1]
      refine kat_no ?_
      refine oneLt_int ?_
      have:decide (code p<code q)=decide (p.1<q.1):=by
       by_cases z:p.1<q.1
       .rw[Pu z];exact Pu (hc.mpr (.inl z))
       .rw[Px z];exact Px (by rw[hc];omega)
      rw[this]at h;exact h
theorem AM:∀{vs:List Value} {ps:List Pr},dW prog w s.heap vs ps->∃fs,KatTups s.heap vs fs/\fs.length=vs.length/\∀v∈fs,∃(i:Int) (t:Tok),v=.int i t
 | [],ps,_=>⟨[],KatTups.nil,rfl,λv hv=>by cases hv⟩
 |v::vs,[],h=>by have:=h.1;simp at this
 |v::vs,p::ps,h=>by
  obtain⟨a,rfl,⟨o,items,n,ho,hc,hd,hi⟩,_⟩:=h.2 0 v p rfl rfl
  obtain⟨fs,k,e,f⟩:=AM ⟨by simpa using h.1,λi v p h1 h2=>h.2 (i+1) v p (by simpa using h1) (by simpa using h2)⟩
  obtain⟨l1,rfl⟩:∃l,items=List.toArray l:=⟨items.toList,by simp⟩
  simp only[Rb]at hi
  cases hi with
  | @cons _ v1 _ _ h1 hi=>
   obtain⟨t1,rfl⟩:=Rn h1
   exact⟨_::fs,KatTups.cons ho hc hd rfl k,by simp[e],λv hv=>by
    rcases Pf.mp hv with z|z
    .exact⟨_,_,z⟩
    .exact f v z⟩
def yh{P:PySem.Fin->Shared->Prop}(ho:s.heap.get? a=some (seqObj "list" vs.toArray n))(hps:dW prog w s.heap vs ps)(nd:ps.Nodup)(h64:vs.length<64)
  (h:∀(h':Heap) (c:Nat) (ix:Array Nat),L2.SO.Pm vs.length ix->L2.SO.Up (uQ ps) ix vs.length->(∀b o,b≠a->s.heap.get? b=some o->h'.get? b=some o)->
   h'.get? a=some (seqObj "list" (ix.toList.map λi=>vs.getD i Value.none).toArray c)->P (.done (.ret .none)) {s with heap:=h'}) :
  wpAny (model prog w) A (Builtin.«list.sort» ⟨[.ref a],[]⟩) P E s:=by
 have ha:a<s.heap.objs.size:=Po ho
 obtain⟨e1,ho1⟩:∃e1,(s.heap.update a (Obj.mapSeq λ_=>(#[]:Array Value))).get? a=some (seqObj "list" #[] e1):=⟨_,get?_update_seq ho λ_=>#[]⟩
 generalize hH1:(s.heap.update a (Obj.mapSeq λ_=>(#[]:Array Value)))=H1 at ho1
 have sb1:Heap.SameBut a s.heap H1:=by rw[<-hH1];exact Heap.SameBut.update ..
 have kp2:∀b o,H1.get? b=some o->((H1.push (seqObj "tuple" vs.toArray 0)).push (seqObj "list" #[] 0)).get? b=some o:=λb o e=>Pb _ (Pb _ e)
 generalize hH2:((H1.push (seqObj "tuple" vs.toArray 0)).push (seqObj "list" #[] 0))=H2 at kp2
 have kp:∀b o,b≠a->s.heap.get? b=some o->H2.get? b=some o:=λb o hb e=>kp2 b o ((sb1.2 b hb).trans e)
 have ho2:=kp2 _ _ ho1
 have hps2:dW prog w H2 vs ps:=⟨hps.1,λi v p h1 h2=>by
  let⟨b,e,⟨o,it,m,hb,hc,hd,r⟩,hs⟩:=hps.2 i v p h1 h2
  refine⟨b,e,⟨o,it,m,kp b o (λz=>?_) hb,hc,hd,r⟩,hs⟩
  subst z
  rw[ho]at hb;cases hb
  exact absurd hc (by simp[seqObj])⟩
 have hz:vs.length<=sizeLine:=by rw[PX];omega
 rw[list_sort_plain]
 refine O8 (listItems_at ho rfl (O8 (listUpdate_at ho rfl ?_ (by simpa using hz) (P9 _))))
 rw[hH1]
 refine O8 (seqEpoch_at ho1 rfl (O8 (wpAny_newTuple ?_ (by simpa using hz))))
 refine O8 (wpAny_newList (Qc ?_) (P9 _))
 rw[hH2]
 have fin:∀(ix:Array Nat) (st:SortSt),L2.SO.Pm vs.length ix->L2.SO.Up (uQ ps) ix vs.length->(arrOf st).map (·.2)=List.toArray (ix.toList.map λi=>vs.getD i Value.none)->failedOf st=none->
   wpAny (model prog w) A (do
    let sorted:=(arrOf st).map (·.2)
    let touched:=(<-seqEpoch a) != e1
    Builtin.List.listUpdate (.ref a) λ_=>sorted
    if let some e:=failedOf st then rule "list.sort.comparison-raised";throw e
    if touched then rule "list.sort.modified";raiseError "ValueError" "list modified during sort"
    ret .none) P E {s with heap:=H2}:=λix st P1 U1 hout hf=>by
  dsimp only
  rw[hout]
  have hsz:(List.toArray (ix.toList.map λi=>vs.getD i Value.none)).size=vs.length:=by simp[P1.sz]
  refine O8 (seqEpoch_at ho2 rfl (O8 (listUpdate_at ho2 rfl ?_ (P9 _) (Qp (Nat.le_of_eq hsz) (Nat.le_succ_of_le hz)))))
  rw[hf]
  simp only[bne_self_eq_false,Py,Qb]
  obtain⟨c2,hc2⟩:∃c2,(H2.update a (Obj.mapSeq λ_=>List.toArray (ix.toList.map λi=>vs.getD i Value.none))).get? a=some (seqObj "list" (List.toArray (ix.toList.map λi=>vs.getD i Value.none)) c2):=⟨_,get?_update_seq ho2 λ_=>List.toArray (ix.toList.map λi=>vs.getD i Value.none)⟩
  exact Pa (h _ c2 ix P1 U1 (λb o hb e=>((Heap.SameBut.update H2 a _).2 b hb).trans (kp b o hb e)) hc2)
 by_cases h2:vs.length<2
 .have h2':vs.toArray.size<2:=by simpa using h2
  dsimp only
  rw[Pe h2',Pe h2']
  refine O8 (Pa ?_)
  rw[StateT.run_pure]
  refine O8 (Pa (fin (List.toArray (List.range vs.length)) (SortSt.mk' general' (vs.toArray.zip vs.toArray) #[] 7 none) (L2.SO.xq _) (λi j hij hj=>@AT) ?_ rfl))
  have:∀{l:List Value},l.length<2->((l.toArray.zip l.toArray).map (·.2))=List.toArray ((List.range l.length).map λi=>l.getD i Value.none):=λ{l} hl=>by
   match l,hl with
   | [],_=>simp
   | [x],_=>simp
  exact(this h2).trans (by simp)
 .have h2':¬vs.toArray.size<2:=by simpa using h2
  dsimp only
  rw[Pg h2',Pg h2']
  let⟨fs,kt,fl,ff⟩:=AM (s:={s with heap:=H2}) hps2
  refine O8 (kat_kind (T:=.type "int") kt (@AT) (λv hv=>?_) @A_ ?_)
  .obtain⟨i,t,rfl⟩:=ff v hv
   exact .now
  .rw[show((Value.type "int" != Value.type "tuple"):Bool)=true by decide]
   have hinj:L2.SO.Inj vs.length (uQ ps):=by
    rw[hps.1]
    refine EE nd λp hp=>?_
    let⟨i,hi,e⟩:=Qf.mp hp
    have hi':i<vs.length:=by rw[hps.1];exact hi
    let⟨_,_,_,hs⟩:=hps.2 i vs[i] p (O9 hi') (by rw[O9 hi,e])
    exact hs
   let⟨ix,⟨er,ok⟩,P1,U1⟩:=L2.SO.CB hinj (@AT)
   refine O8 (QQ (kat_run (Q:=λst s'=>s'={s with heap:=H2}/\arrOf st=ix.map (kas_item (vs.toArray.zip vs.toArray))/\failedOf st=none)
    (G:=λp s'=>p=ix/\s'={s with heap:=H2}) rfl (@AT) h64 (λp st s' a1 a2 a3 a4=>?_) (L2.SO.wp_run _ (λi j C hi hj hC=>?_) ok ⟨er,rfl⟩)) ?_ λ_ _ x=>x)
   .obtain⟨rfl,rfl⟩:=a4
    exact⟨rfl,a2,a3⟩
   .unfold kas_ask
    have hi':i<ps.length:=by rw[<-hps.1];exact hi
    have hj':j<ps.length:=by rw[<-hps.1];exact hj
    let⟨b1,eb1,hb1,s1⟩:=hps2.2 i vs[i] ps[i] (O9 hi) (O9 hi')
    let⟨b2,eb2,hb2,s2⟩:=hps2.2 j vs[j] ps[j] (O9 hj) (O9 hj')
    have e1:vs.getD i Value.none=.ref b1:=by rw[<-eb1];simp[hi]
    have e2:vs.getD j Value.none=.ref b2:=by rw[<-eb2];simp[hj]
    rw[e1,e2]
    refine Gf hb1 hb2 s1 s2 ?_
    have:L2.SO.qc (uQ ps) i j=decide (code ps[i]<code ps[j]):=by
     unfold L2.SO.qc uQ;simp[hi',hj']
    rw[<-this];exact hC
   .rintro⟨⟨⟩,st⟩ s' ⟨rfl,har,hf⟩
    exact fin ix st P1 U1 (kat_snds rfl har) hf
end
def cq:Slot "set_iterator" "__next__" "set_iterator.__next__":=
 Slot.of (owner:="set_iterator") (n:="__next__") (by rw[RG,QX];kernel_rfl) (by decide +kernel) (by decide +kernel) (by decide +kernel) (by first|exact .inl (by decide +kernel)|exact .inr (by decide +kernel)) (by rw[Rh];kernel_rfl)
def jQ:entryFor table "set_iterator.__next__"=some Builtin.«set_iterator.__next__»:=entryFor_of_tree (by kernel_rfl)
def kW(a:Value):argsOk "set_iterator.__next__" ⟨[a],[]⟩:=by unfold argsOk;kernel_rfl
def rf:entryFor table "set.__iter__"=some Builtin.«frozenset.__iter__»:=entryFor_alias (id':="frozenset.__iter__") (by kernel_rfl) rfl (by decide +kernel) (by kernel_rfl)
def k7:Slot "set_iterator" "__iter__" "set_iterator.__iter__":=
 Slot.of (owner:="set_iterator") (n:="__iter__") (by rw[RG,QX];kernel_rfl) (by decide +kernel) (by decide +kernel) (by decide +kernel) (by first|exact .inl (by decide +kernel)|exact .inr (by decide +kernel)) (by rw[Rh];kernel_rfl)
def pk:entryFor table "set_iterator.__iter__"=some Builtin.«dict_keyiterator.__iter__»:=entryFor_alias (id':="dict_keyiterator.__iter__") (by kernel_rfl) rfl (by decide +kernel) (by kernel_rfl)
def p5(a:Value):argsOk "set_iterator.__iter__" ⟨[a],[]⟩:=by unfold argsOk;kernel_rfl
def Gq(a:Addr)(slot given ep0:Nat):setNext a slot given ep0=(do
  let(es,epoch,t) <-setState a
  if(<-ask).params.followText "set-order"then
   if epoch != ep0 then unsupported "set_iterator.__next__:elements-changed"
   return((<-setWalk a)[given]?).map λe=>(e.2,slot)
  if !t.plain&&es.size>1 then unsupported "set_iterator.__next__:the-table-is-plain-no-more"
  let u:Unit <-(show Sem Unit from do if !t.led && !es.isEmpty then unsupported "set:maker-not-led")
  let i:=SetTable.below t.place slot
  return match es[i]?,t.place[i]? with
   |some (_,x),some j=>some (x,j+1)
   |_,_=>none):=by
 unfold setNext setsByText
 simp only[bind_assoc,pure_bind]
 rfl
def GR(a:Addr):setWalk a=(do
  let(es,epoch,t) <-setState a
  if(<-ask).params.followText "set-order"then return pickOrder ((<-ask).params.setOrder a epoch) es
  if !t.plain&&es.size>1 then return(<-drawOrder es.size es.toList).toArray
  let u:Unit <-(show Sem Unit from do if !t.led&&es.size>1 then unsupported "set:maker-not-led")
  return es):=by
 unfold setWalk setsByText
 simp only[bind_assoc,pure_bind]
 rfl
def E2(a:Addr):setDrawn a=(do
  let(es,_,t) <-setState a
  let byText <-(do return(<-ask).params.followText "set-order")
  return !byText&&(!t.plain&&es.size>1)):=rfl
theorem ja{α:Type}:∀(l:List α) (i:Nat) (h:i<l.length),(l[i]::l.eraseIdx i).Perm l
 |a::l,0,_=>List.Perm.refl _
 |a::l,i+1,h=>by
  have hi:i<l.length:=by simpa using h
  exact(List.Perm.swap ..).trans ((ja l i hi).cons a)
theorem uC{α:Type}(next:Nat->Nat):∀(fuel k:Nat) (left:List α) (out:Array α),left.length=fuel->(pickOrder.go next fuel k left out).toList.Perm (out.toList++left)
 | 0,k,left,out,h=>by
  have:left= []:=Q5.mp h
  subst this
  unfold pickOrder.go
  simp
 |fuel+1,k,left,out,h=>by
  unfold pickOrder.go
  have hlt:next k%left.length<left.length:=Nat.mod_lt _ (@AT)
  rw[O9 hlt]
  dsimp only
  refine(uC next fuel (k+1) _ _ (by rw[List.length_eraseIdx_of_lt hlt];omega)).trans ?_
  rw[Array.toList_push,QV]
  exact List.Perm.append_left _ (ja left _ hlt)
def lK{α:Type}(next:Nat->Nat)(xs:Array α):(pickOrder next xs).toList.Perm xs.toList:=by
 have:=uC next xs.size 0 xs.toList #[] (by simp)
 simpa[pickOrder]using this
section
variable {prog:Program}{w:World}{A:Around}{E:@B_}{s:Shared}
def told(w:World)(S:Addr)(ep:Nat)(es:Array (Int×Value)):Array (Int×Value):=if w.params.followText "set-order"then pickOrder (w.params.setOrder S ep) es else es
def t8(w:World)(S:Addr)(ep:Nat)(es:Array (Int×Value)):(told w S ep es).toList.Perm es.toList:=by
 unfold told;split
 .exact lK _ _
 .exact List.Perm.refl _
abbrev xO(S:Addr)(slot k n ep:Nat):Obj:={cls:=.type "set_iterator",data:=.fields #[.int (slot:Int) 0,.int (k:Int) 0,.ref S,.int (n:Int) 0,.int (ep:Int) 0]}
structure oD(w:World)(S:Addr)(o:Obj)(es:Array (Int×Value))(ep:Nat)(t:SetTable)(I:Addr)(k:Nat)(h:Heap):Prop where
 set:h.get? S=some o
 data:o.data=.set es ep t
 cls:o.cls=.type "set"
 tab:Tab t (es.toList.map (·.1))
 led:t.led=ki w
 it:∃slot,h.get? I=some (xO S slot k es.size ep)/\(ki w=true->slot=if k=0 then 0 else t.place.getD (k-1) 0+1)
def oD.fits(X:oD w S o es ep t I k h):t.fits es.size=true:=so X.tab (by simp)
theorem AB{S I:Addr}{o:Obj}{es:Array (Int×Value)}{ep k slot:Nat}{t:SetTable}{Q:Option (Value×Nat)->Shared->Prop}(X:oD w S o es ep t I k s.heap)(hk:k<=es.size)(hs:ki w=true->slot=if k=0 then 0 else t.place.getD (k-1) 0+1)
  (h:∀(r:Option (Value×Nat)),(k<es.size->∃x nx,r=some (x,nx)/\(told w S ep es)[k]?.map (·.2)=some x/\(ki w=true->nx=t.place.getD k 0+1))->(k=es.size->r=none)->Q r s) :
  wpAny (model prog w) A (setNext S slot k ep) Q E s:=by
 rw[Gq]
 refine O8 (Qy X.set X.data X.fits ?_)
 dsimp only
 refine O8 (Sh ?_)
 dsimp only
 cases hb:w.params.followText "set-order"with
 |true=>
  rw[Pe (show(model prog w).w.params.followText "set-order"=true from hb)]
  simp only[bne_self_eq_false,Py,Qb]
  rw[GR]
  refine O8 (O8 (Qy X.set X.data X.fits ?_))
  dsimp only
  refine O8 (Sh ?_)
  dsimp only
  rw[Pe (show(model prog w).w.params.followText "set-order"=true from hb)]
  refine O8 (Sh (Pa (Pa ?_)))
  have et:told w S ep es=pickOrder (w.params.setOrder S ep) es:=by unfold told;rw[Pe hb]
  have hsz:(pickOrder (w.params.setOrder S ep) es).size=es.size:=by
   have:=(lK (w.params.setOrder S ep) es).length_eq;simpa using this
  refine h _ (λhlt=>?_) (λe=>?_)
  .have hlt':k<(pickOrder (w.params.setOrder S ep) es).size:=by rw[hsz];exact hlt
   refine⟨(pickOrder (w.params.setOrder S ep) es)[k].2,slot,?_,?_,λz=>?_⟩
   .show Option.map _ (pickOrder (w.params.setOrder S ep) es)[k]? =_
    rw[PD hlt'];rfl
   .rw[et,PD hlt'];rfl
   .unfold ki at z;rw[hb]at z;cases z
  .show Option.map _ (pickOrder (w.params.setOrder S ep) es)[k]? =_
   rw[Qz (by rw[hsz];omega)];rfl
 |false=>
  rw[Pg (show ¬(model prog w).w.params.followText "set-order"=true by intro z;rw[show(model prog w).w.params.followText "set-order"=false from hb]at z;cases z)]
  have hl:ki w=true:=by unfold ki;rw[hb];rfl
  rw[X.tab.plain,X.led,hl]
  simp only[RH,Bool.false_and,Py,Qb]
  have et:told w S ep es=es:=by unfold told;rw[hb];simp
  have hps:t.place.size=es.size:=by simpa using X.tab.size
  have hbl:below t.place slot=k:=by
   rw[hs hl]
   let⟨b1,b2,b3⟩:=fq X.tab.rise (if k=0 then 0 else t.place.getD (k-1) 0+1)
   by_cases k0:k=0
   .subst k0
    simp only[Qn]at b1 b2 b3 ⊢
    rcases Nat.eq_zero_or_pos (below t.place 0)with z|z
    .exact z
    .have:=b2 0 z;omega
   .rw[Pg k0]at b1 b2 b3 ⊢
    have hk1:k-1<t.place.size:=@AT
    rcases SM (below t.place (t.place.getD (k-1) 0+1)) k with z|z|z
    .have q:=b3 (k-1) (@AT) hk1
     have e:t.place.getD (k-1) (t.place.getD (k-1) 0+1)=t.place.getD (k-1) 0:=by simp[Array.getD,hk1]
     omega
    .exact z
    .have hks:k<t.place.size:=@AT
     have q:=b2 k z
     have e:t.place.getD k (t.place.getD (k-1) 0+1)=t.place.getD k 0:=by simp[Array.getD,hks]
     have:=jo (d:=0) X.tab.rise (show k-1<k by omega) hks
     omega
  refine Pa ?_
  rw[hbl]
  refine h _ (λhlt=>?_) (λe=>?_)
  .have hlt2:k<t.place.size:=@AT
   refine⟨es[k].2,t.place[k]+1,?_,?_,λ_=>?_⟩
   .rw[PD hlt,PD hlt2]
   .rw[et,PD hlt];rfl
   .simp[Array.getD,hlt2]
  .rw[Qz (@AT)]
def BJ{o:Obj}{es:Array (Int×Value)}{ep:Nat}{t:SetTable}(hh:A.handled=none)(hne:S≠I) :
  Walks prog w A I [I,S] [I] es.size (λi v=>(told w S ep es)[i]?.map (·.2)=some v) (λi h=>oD w S o es ep t I i h) where
 sub:=λb hb=>Pf.mpr (.inl (PU.mp hb))
 frame:=λi h h' X k=>by
  let⟨slot,e,r⟩:=X.it
  exact⟨k S (by simp) _ X.set,X.data,X.cls,X.tab,X.led,slot,k I (by simp) _ e,r⟩
 item:=λi s Q E hi X hQ=>by
  let⟨slot,e,r⟩:=X.it
  have hT:s.TypeIs (.ref I) "set_iterator":=⟨_,e,rfl⟩
  unfold pyNext
  refine O8 (wpAny_attempt (QP hT cq (Qv cq hT jQ ?_ (kW _))))
  unfold Builtin.«set_iterator.__next__»
  refine O8 (Pa ?_)
  dsimp only
  unfold fieldsOf
  refine O8 (O8 (wpAny_load e (Pa ?_)))
  dsimp only
  unfold setEntries
  refine O8 (O8 (Qy X.set X.data X.fits (Pa ?_)))
  dsimp only
  rw[Pg (by simp)]
  refine O8 ?_
  simp only[Qe]
  refine AB X (QY hi) r λrr h1 _=>?_
  obtain⟨x,nx,rfl,h2,h3⟩:=h1 hi
  dsimp only
  refine O8 (Q0 e rfl (by simp) ?_)
  have e2:=PY (Obj.mapFields λvs=>vs.setIfInBounds 0 (rawInt (nx:Int))) e rfl
  refine O8 (Q0 e2 rfl (by simp) (Pa ⟨x,rfl,Pa ?_⟩))
  have sb:=(Heap.SameBut.update s.heap I (Obj.mapFields λvs=>vs.setIfInBounds 0 (rawInt (nx:Int)))).trans (Heap.SameBut.update _ I (Obj.mapFields λvs=>vs.setIfInBounds 1 (rawInt ((i:Int)+1))))
  refine hQ x _ _ h2 ⟨(sb.2 S hne).trans X.set,X.data,X.cls,X.tab,X.led,nx,?_,λz=>?_⟩ λb o hb eb=>(sb.2 b (by simpa using hb)).trans eb
  .exact PY (Obj.mapFields λvs=>vs.setIfInBounds 1 (rawInt ((i:Int)+1))) e2 rfl
  .rw[Pg (@AT)];exact h3 z
 done:=λs Q E X hQ=>by
  let⟨slot,e,r⟩:=X.it
  have hT:s.TypeIs (.ref I) "set_iterator":=⟨_,e,rfl⟩
  unfold pyNext
  refine O8 (wpAny_attempt (QP hT cq (Qv cq hT jQ ?_ (kW _))))
  unfold Builtin.«set_iterator.__next__»
  refine O8 (Pa ?_)
  dsimp only
  unfold fieldsOf
  refine O8 (O8 (wpAny_load e (Pa ?_)))
  dsimp only
  unfold setEntries
  refine O8 (O8 (Qy X.set X.data X.fits (Pa ?_)))
  dsimp only
  rw[Pg (by simp)]
  refine O8 ?_
  simp only[Qe]
  refine AB X (Pd _) r λrr _ h1=>?_
  rw[h1 rfl]
  dsimp only
  refine O8 (Q0 e rfl (by simp) ?_)
  (show wpAny _ _ (newExc (.type "StopIteration") [] >>= λx=>raiseNew x) _ _ _)
  refine O8 ?_
  simp only[newExc,newTuple]
  (refine O8 (Qx ?_ (by size_fits)))
  (refine O8 (wpAny_of_eq (by first|rfl|(simp only[firstArgMember];rfl)) ?_))
  (refine Qx ?_ (by size_fits))
  simp only[raiseNew]
  refine O8 (wpAny_handled ?_)
  (rw[show A.in1.handled=none from hh])
  refine O8 (Pa (wpAny_throw ?_))
  refine O8 (Se ⟨_,Pl _ rfl,rfl⟩ isSubtype_stop (Pa (hQ _ _ λb o hb eb=>?_)))
  exact Pb _ (Pb _ (((Heap.SameBut.update ..).2 b (by simpa using hb)).trans eb))
 self:=λi s Q E X hQ=>by
  let⟨slot,e,r⟩:=X.it
  have hT:s.TypeIs (.ref I) "set_iterator":=⟨_,e,rfl⟩
  refine wpAny_pyIter_slot hT k7 (Qv k7 hT pk ?_ (p5 _))
  exact Pa ⟨_,rfl,"set_iterator",_,hT,cq.lookup,hQ⟩
def FE{Q:@B_}(ho:s.heap.get? S=some o)(hd:o.data=.set es ep t)(hc:o.cls=.type "set")(T:Tab t (es.toList.map (·.1)))(hl:t.led=ki w)
  (h:Q (.ref s.heap.objs.size) {s with heap:=s.heap.push (xO S 0 0 es.size ep)}):wpAny (model prog w) A (pyIter (.ref S)) Q E s:=by
 have hT:s.TypeIs (.ref S) "set":=⟨o,ho,hc⟩
 have hf:t.fits es.size=true:=so T (by simp)
 refine wpAny_pyIter_slot hT F.slot_set_iter (Qv F.slot_set_iter hT rf ?_ (F.args_set_iter_1 _))
 unfold Builtin.«frozenset.__iter__» Builtin.Frozenset.slot0
 refine O8 (O8 (Pa (Pa ?_)))
 unfold Builtin.Frozenset.sizeOf setEntries
 refine O8 (O8 (O8 (Qy ho hd hf (Pa (Pa ?_)))))
 rw[E2]
 refine O8 (O8 (Qy ho hd hf ?_))
 dsimp only
 refine O8 (O8 (Sh (Pa (Pa ?_))))
 rw[T.plain]
 simp only[RH,Bool.false_and,Bool.and_false,Py,Qb]
 refine O8 (Pa ?_)
 unfold setEpoch
 refine O8 (O8 (Qy ho hd hf (Pa (O8 (Qx (Pa ⟨_,rfl,"set_iterator",_,⟨_,Pl _ rfl,rfl⟩,cq.lookup,h⟩))))))
def wZ{Q:List Value->Shared->Prop}(hh:A.handled=none)(ho:s.heap.get? S=some o)(hd:o.data=.set es ep t)(hc:o.cls=.type "set")(T:Tab t (es.toList.map (·.1)))(hl:t.led=ki w)
  (hn:es.size<=64) (h:∀h' tk vs,vs=(told w S ep es).toList.map (·.2)->(∀b o,s.heap.get? b=some o->h'.get? b=some o)->Q vs {s with heap:=h',toks:=tk}):wpAny (model prog w) A (collect (.ref S)) Q E s:=by
 have hz:es.size<=sizeLine:=by rw[PX];omega
 unfold collect
 (refine O8 (wpAny_runValue (QN F.entry_proto_collect ?_)))
 (rw[QS F.plain_proto_collect _])
 refine O8 (Qx ?_)
 (refine Pa ⟨R1 F.plain_list_iadd _,QN F.entry_list_iadd ?_⟩)
 (rw[QS F.plain_list_iadd _])
 show wpAny _ A.in1 (Builtin.List.listExtendWith (.ref s.heap.objs.size) (.ref S) (.ref s.heap.objs.size)) _ _ {s with heap:=s.heap.push (seqObj "list" #[] 0)}
 generalize hH:s.heap.push (seqObj "list" #[] 0)=H1
 have kp1:∀b o,s.heap.get? b=some o->H1.get? b=some o:=λb o e=>by rw[<-hH];exact Pb _ e
 have hD:H1.get? s.heap.objs.size=some (seqObj "list" #[] 0):=by rw[<-hH];exact Pl _ rfl
 have hHs:H1.objs.size=s.heap.objs.size+1:=by rw[<-hH];exact QJ ..
 have hSD:S≠s.heap.objs.size:=P4 (Po ho)
 have hT:Shared.TypeIs {s with heap:=H1} (.ref S) "set":=⟨o,kp1 _ _ ho,hc⟩
 unfold Builtin.List.listExtendWith
 refine O8 (RW hT ?_)
 have h1:Builtin.List.listSameRef (.ref s.heap.objs.size) (.ref S)=false:=by simp[Builtin.List.listSameRef,Ne.symm hSD]
 have h2:(Value.type "set"==Value.type "list")=false:=by decide
 have h3:(Value.type "set"==Value.type "tuple")=false:=by decide
 rw[h1,h2,h3]
 simp only[Bool.or_false,Py,Qb]
 refine O8 (FE (kp1 _ _ ho) hd hc T hl (O8 (Qc ?_)))
 unfold Builtin.List.listLengthHint
 have hT2:Shared.TypeIs {s with heap:=H1.push (xO S 0 0 es.size ep)} (.ref S) "set":=⟨o,Pb _ (kp1 _ _ ho),hc⟩
 refine O8 (Q9 hT2 F.slot_set_len.lookup ?_)
 wp_delta
 refine O8 (Se hT2 (b:=true) (by rw[Rh];kernel_rfl) ?_)
 refine O8 (RW hT2 (Pa ?_))
 refine O8 (SJ (O8 ?_))
 generalize hH2:H1.push (xO S 0 0 es.size ep)=H2
 have kp2:∀b o,H1.get? b=some o->H2.get? b=some o:=λb o e=>by rw[<-hH2];exact Pb _ e
 have hI:H2.get? H1.objs.size=some (xO S 0 0 es.size ep):=by rw[<-hH2];exact Pl _ rfl
 have hS0:=kp2 _ _ hD
 refine O8 (wpAny_updateSeq hS0 rfl ?_)
 have hS2:=PY (Obj.mapSeq (·.push Value.none)) hS0 rfl
 refine wpAny_updateSeq hS2 rfl ?_
 have hS3:=PY (Obj.mapSeq (·.pop)) hS2 rfl
 have oth:∀b o,b≠s.heap.objs.size->H2.get? b=some o->((H2.update s.heap.objs.size (Obj.mapSeq (·.push Value.none))).update s.heap.objs.size (Obj.mapSeq (·.pop))).get? b=some o:=λb o hb e=>
  ((Heap.SameBut.update _ s.heap.objs.size (Obj.mapSeq (·.pop))).2 b hb).trans (((Heap.SameBut.update H2 s.heap.objs.size (Obj.mapSeq (·.push Value.none))).2 b hb).trans e)
 have hIS:S≠H1.objs.size:=by rw[hHs];exact P4 (Nat.lt_succ_of_lt (Po ho))
 have hID:H1.objs.size≠s.heap.objs.size:=by rw[hHs];exact Nat.succ_ne_self _
 have hDf:s.heap.objs.size∉ [H1.objs.size,S]:=λz=>by
  rcases Pf.mp z with e|z
  .exact hID e.symm
  .exact hSD (PU.mp z).symm
 have X0:oD w S o es ep t H1.objs.size 0 ((H2.update s.heap.objs.size (Obj.mapSeq (·.push Value.none))).update s.heap.objs.size (Obj.mapSeq (·.pop))):=
  ⟨oth _ _ hSD (kp2 _ _ (kp1 _ _ ho)),hd,hc,T,hl,0,oth _ _ hID hI,λ_=>rfl⟩
 refine Pa ⟨R1 F.plain_extend_loop _,codeAny_extend_loopS (BJ (A:=A.in1) hh hIS).toS hz _ hDf _ es.size 0 _ _ _ rfl (P9 _) X0 hS3 (ItemsOf.nil _) λs' acc' c' hm hS' hacc=>?_⟩
 refine O8 (wpAny_load hS' (Pa ?_))
 let⟨h',g',d',tk',os'⟩:=s'
 have eg:g'=s.gens:=hm.gens
 have ed:d'=s.drawn:=hm.drawn
 have eo:os'=s.os:=hm.os
 subst eg ed eo
 refine h h' tk' acc'.toList ?_ λb ob e=>hm.heap b ob (λhb=>?_) (oth b ob (P4 (Po e)) (kp2 _ _ (kp1 _ _ e)))
 .have hts:(told w S ep es).size=es.size:=by have:=(t8 w S ep es).length_eq;simpa using this
  apply RK
  intro i
  rw[Pt]
  by_cases hi:i<es.size
  .have hi1:i<acc'.size:=by rw[hacc.1];exact hi
   have q:=hacc.2 i acc'[i] (PD hi1)
   rw[Rg,Rg,PD hi1]
   exact q.symm
  .rw[Rg,Rg,Qz (by rw[hacc.1];omega),Qz (@AT)];rfl
 .have hlt:=Po e
  rcases Pf.mp hb with z|z
  .rw[z]at hlt;exact Qd _ hlt
  .rw[PU.mp z,hHs]at hlt;exact absurd hlt (Nat.not_lt.mpr (R8 _))
end
end L2.ST
namespace OM
abbrev Pr:=Int×Int
def FO(p q:Pr):Prop:=p.1<q.1\/(p.1=q.1/\p.2<q.2)
def ko(p:Pr):¬FO p p:=by unfold FO;omega
def B5{p q r:Pr}(a:FO p q)(b:FO q r):FO p r:=by unfold FO at *;omega
abbrev uN(l:List Pr):Prop:=l.Pairwise FO
theorem fo:∀{l m:List Pr},uN l->uN m->(∀x,x∈l↔x∈m)->l=m
 | [],[],_,_,_=>rfl
 | [],b::m,_,_,h=>absurd ((h b).mpr (Pq ..)) (by simp)
 |a::l,[],_,_,h=>absurd ((h a).mp (Pq ..)) (by simp)
 |a::l,b::m,hl,hm,h=>by
  have hl':=List.pairwise_cons.mp hl
  have hm':=List.pairwise_cons.mp hm
  have e:a=b:=by
   rcases Pf.mp ((h a).mp (Pq ..))with e|e
   .exact e
   .rcases Pf.mp ((h b).mpr (Pq ..))with e'|e'
    .exact e'.symm
    .exact absurd (B5 (hm'.1 a e) (hl'.1 b e')) (ko _)
  subst e
  congr 1
  refine fo hl'.2 hm'.2 λx=>⟨λhx=>?_,λhx=>?_⟩
  .rcases Pf.mp ((h x).mp (Pk _ hx))with e|e
   .subst e;exact absurd (hl'.1 x hx) (ko _)
   .exact e
  .rcases Pf.mp ((h x).mpr (Pk _ hx))with e|e
   .subst e;exact absurd (hm'.1 x hx) (ko _)
   .exact e
def dS{l:List Pr}(h:uN l):l.Nodup:=h.imp λ{a b} hab e=>by subst e;exact ko _ hab
def cD{l:List Pr}(p:Pr->Bool)(h:uN l):uN (l.filter p):=h.sublist Rt
def bF(n:Nat):List Pr:=(List.range (n*n)).map λk=>(((k/n:Nat):Int),((k%n:Nat):Int))
def bh{n:Nat}{p:Pr}:p∈bF n↔(0<=p.1/\p.1<n)/\(0<=p.2/\p.2<n):=by
 unfold bF
 rw[Pj]
 constructor
 .rintro⟨k,hk,rfl⟩
  have hk:=PN.mp hk
  have hn:0<n:=by
   rcases Nat.eq_zero_or_pos n with e|e
   .subst e;omega
   .exact e
  have h1:k/n<n:=Nat.div_lt_of_lt_mul hk
  have h2:k%n<n:=Nat.mod_lt _ hn
  generalize k/n=q at h1
  generalize k%n=r at h2
  exact⟨⟨Int.natCast_nonneg _,by dsimp only;omega⟩,⟨Int.natCast_nonneg _,by dsimp only;omega⟩⟩
 .rintro⟨⟨a0,a1⟩,⟨b0,b1⟩⟩
  have hn:0<n:=@AT
  refine⟨p.1.toNat*n+p.2.toNat,PN.mpr ?_,?_⟩
  .have h1:p.1.toNat+1<=n:=@AT
   have h2:p.2.toNat<n:=@AT
   have:=Nat.mul_le_mul_right n h1
   rw[Nat.add_mul]at this
   omega
  .have h2:p.2.toNat<n:=@AT
   have e1:(p.1.toNat*n+p.2.toNat)/n=p.1.toNat:=by
    rw[Nat.mul_comm,Nat.mul_add_div hn,Nat.div_eq_of_lt h2];rfl
   have e2:(p.1.toNat*n+p.2.toNat)%n=p.2.toNat:=by
    rw[Nat.mul_comm,Nat.mul_add_mod,Nat.mod_eq_of_lt h2]
   rw[e1,e2]
   refine Prod.ext ?_ ?_<;>dsimp only<;>omega
def fL(n:Nat):uN (bF n):=by
 unfold bF
 refine Qj.mpr (QA ?_ List.pairwise_lt_range)
 intro a b ha hb hab
 have ha:=PN.mp ha
 have hb:=PN.mp hb
 have hn:0<n:=by
  rcases Nat.eq_zero_or_pos n with e|e
  .subst e;omega
  .exact e
 have h1:a/n<=b/n:=Nat.div_le_div_right (QY hab)
 have e1:=Nat.div_add_mod a n
 have e2:=Nat.div_add_mod b n
 unfold FO
 dsimp only
 rcases Qo (a/n) (b/n)with c|c
 .left;omega
 .right
  have e:a/n=b/n:=@AT
  rw[e]at e1
  omega
open Classical in
noncomputable def cy(n:Nat)(R:Int->Int->Prop):List Pr:=(bF n).filter λp=>decide (R p.1 p.2)
def aN{n:Nat}{R:Int->Int->Prop}{p:Pr}:p∈cy n R↔((0<=p.1/\p.1<n)/\(0<=p.2/\p.2<n))/\R p.1 p.2:=by
 unfold cy
 rw[Pp,bh]
 simp
def cC(n:Nat)(R:Int->Int->Prop):uN (cy n R):=cD _ (fL n)
def yF{n:Nat}{R S:Int->Int->Prop}(h:∀a b:Int,0<=a->a<n->0<=b->b<n->(R a b↔S a b)):cy n R=cy n S:=by
 refine fo (cC n R) (cC n S) λx=>?_
 rw[aN,aN]
 constructor
 .rintro⟨⟨⟨a,b⟩,c,d⟩,r⟩;exact⟨⟨⟨a,b⟩,c,d⟩,(h _ _ a b c d).mp r⟩
 .rintro⟨⟨⟨a,b⟩,c,d⟩,r⟩;exact⟨⟨⟨a,b⟩,c,d⟩,(h _ _ a b c d).mpr r⟩
def Wn(n:Nat)(l:List Pr):Prop:=∀p,p∈l->(0<=p.1/\p.1<n)/\(0<=p.2/\p.2<n)
abbrev Mem(l:List Pr)(a b:Int):Prop:=(a,b)∈l
def BO{n:Nat}{l:List Pr}(w:Wn n l)(r:uN l):cy n (Mem l)=l:=by
 refine fo (cC n _) r λx=>?_
 rw[aN]
 exact⟨λh=>h.2,λh=>⟨w x h,h⟩⟩
def n9(n:Nat)(R:Int->Int->Prop):Wn n (cy n R):=λ_ h=>(aN.mp h).1
def ER(n:Nat)(R:Int->Int->Prop):(cy n R).length<=n*n:=by
 unfold cy
 refine Qp (Qs ..) ?_
 unfold bF;simp
inductive Tr(R:Int->Int->Prop):Int->Int->Prop
 |one {a b}:R a b->Tr R a b
 |more {a b c}:R a b->Tr R b c->Tr R a c
theorem Tr.trans{R:Int->Int->Prop}{a b c:Int}(h:Tr R a b)(k:Tr R b c):Tr R a c:=by
 induction h with
 |one r=>exact .more r k
 |more r _ ih=>exact .more r (ih k)
theorem Tr.least{R S:Int->Int->Prop}(f:∀a b,R a b->S a b)(t:∀a b c,S a b->S b c->S a c){a b:Int}(h:Tr R a b):S a b:=by
 induction h with
 |one r=>exact f _ _ r
 |more r _ ih=>exact t _ _ _ (f _ _ r) ih
structure Ord(n:Nat)(l:List Pr):Prop where
 lo:1<=n
 hi:n<=8
 wn:Wn n l
 ris:uN l
 irr:∀a,(a,a)∉l
 tr:∀a b c,(a,b)∈l->(b,c)∈l->(a,c)∈l
def Ord.tr_mem{n:Nat}{l:List Pr}(O:Ord n l){a b:Int}:Tr (Mem l) a b↔(a,b)∈l:=
 ⟨λh=>h.least (λ_ _ r=>r) λa b c=>O.tr a b c,λh=>.one h⟩
def Ord.closed{n:Nat}{l:List Pr}(O:Ord n l):cy n (Tr (Mem l))=l:=by
 rw[yF λa b _ _ _ _=>O.tr_mem,BO O.wn O.ris]
def JH{n:Nat}{l:List Pr}(h1:1<=n)(h8:n<=8)(w:Wn n l)(hr:∀a,¬Tr (Mem l) a a):Ord n (cy n (Tr (Mem l))):=
 ⟨h1,h8,n9 n _,cC n _,λa h=>hr a (aN.mp h).2,λa b c h k=>aN.mpr ⟨⟨(aN.mp h).1.1,(aN.mp k).1.2⟩,(aN.mp h).2.trans (aN.mp k).2⟩⟩
theorem qY{l m:List Pr}(hl:l.Nodup)(h:∀x,x∈l->x∈m):l.length<=m.length:=by
 induction l generalizing m with
 |nil=>exact P9 _
 |cons a l ih=>
  have ha:=h a (Pq ..)
  have hl':=P6.mp hl
  have:=ih (m:=m.erase a) hl'.2 λx hx=>by
   refine(List.mem_erase_of_ne ?_).mpr (h x (Pk _ hx))
   rintro rfl;exact hl'.1 hx
  rw[RU ha]at this
  have:0<m.length:=List.length_pos_of_mem ha
  simp only[PR];omega
def sub_eq{l m:List Pr}(hl:uN l)(hm:uN m)(h:∀x,x∈l->x∈m)(e:l.length=m.length):l=m:=by
 refine fo hl hm λx=>⟨h x,λhx=>Classical.byContradiction λhn=>?_⟩
 have:=qY (P6.mpr ⟨hn,dS hl⟩) λy hy=>by
  rcases Pf.mp hy with e|e
  .subst e;exact hx
  .exact h y e
 simp only[PR]at this
 omega
def more(l:List Pr):List Pr:=l.flatMap λp=>(l.filter λq=>decide (q.1=p.2)).map λq=>(p.1,q.2)
def rT{l:List Pr}{x:Pr}:x∈more l↔∃b,(x.1,b)∈l/\(b,x.2)∈l:=by
 unfold more
 rw[List.mem_flatMap]
 constructor
 .rintro⟨p,hp,hx⟩
  obtain⟨q,hq,rfl⟩:=Pj.mp hx
  let⟨hq,e⟩:=Pp.mp hq
  have e:q.1=p.2:=by simpa using e
  exact⟨p.2,hp,by rw[<-e];exact hq⟩
 .rintro⟨b,h1,h2⟩
  exact⟨(x.1,b),h1,Pj.mpr ⟨(b,x.2),Pp.mpr ⟨h2,by simp⟩,rfl⟩⟩
noncomputable def lZ(n:Nat)(l:List Pr):List Pr:=cy n (Mem (l++more l))
structure IJ(n:Nat)(ps l:List Pr):Prop where
 wn:Wn n l
 ris:uN l
 sub:∀x,x∈ps->x∈l
 sup:∀x,x∈l->Tr (Mem ps) x.1 x.2
def Cw{n:Nat}{ps:List Pr}(w:Wn n ps):IJ n ps (cy n (Mem ps)):=
 ⟨n9 n _,cC n _,λx hx=>aN.mpr ⟨w x hx,hx⟩,λ_ hx=>.one (aN.mp hx).2⟩
def Ek{n:Nat}{ps l:List Pr}(B:IJ n ps l):Wn n (l++more l):=λx hx=>by
 rcases Pz.mp hx with h|h
 .exact B.wn x h
 .let⟨b,h1,h2⟩:=rT.mp h
  exact⟨(B.wn _ h1).1,(B.wn _ h2).2⟩
def yd{n:Nat}{ps l:List Pr}(B:IJ n ps l):IJ n ps (lZ n l)/\∀x,x∈l->x∈lZ n l:=by
 have hs:∀x,x∈l->x∈lZ n l:=λx hx=>aN.mpr ⟨B.wn x hx,Qh _ hx⟩
 refine⟨⟨n9 n _,cC n _,λx hx=>hs x (B.sub x hx),λx hx=>?_⟩,hs⟩
 rcases Pz.mp (aN.mp hx).2 with h|h
 .exact B.sup _ h
 .let⟨b,h1,h2⟩:=rT.mp h
  exact(B.sup _ h1).trans (B.sup _ h2)
def DZ{n:Nat}{ps l:List Pr}(B:IJ n ps l)(e:(lZ n l).length=l.length):lZ n l=cy n (Tr (Mem ps)):=by
 let⟨B2,hs⟩:=yd B
 have q:l=lZ n l:=sub_eq B.ris B2.ris hs e.symm
 refine fo B2.ris (cC n _) λx=>⟨λh=>aN.mpr ⟨B2.wn x h,B2.sup x h⟩,λh=>?_⟩
 rw[<-q]
 have tr:∀a b c:Int,(a,b)∈l->(b,c)∈l->(a,c)∈l:=λa b c h1 h2=>by
  rw[q]
  exact aN.mpr ⟨⟨(B.wn _ h1).1,(B.wn _ h2).2⟩,P5 _ (rT.mpr ⟨b,h1,h2⟩)⟩
 exact(aN.mp h).2.least (λa b r=>B.sub _ r) tr
abbrev Tb:=Nat->Nat->Bool
def Tb.set(M:Tb)(a b:Nat):Tb:=λx y=>if x=a/\y=b then true else M x y
def Iw(M:Tb)(m:Nat):Prop:=∀k a b,k<m->M a k=true->M k b=true->M a b=true
def Phase(M0 M:Tb)(m:Nat)(D:Nat->Nat->Prop):Prop:=∀a b,M a b=true↔M0 a b=true\/(D a b/\M0 a m=true/\M0 m b=true)
def Phase.start(M:Tb)(m:Nat):Phase M M m λ_ _=>False:=λa b=>by simp
def Phase.row{M0 M:Tb}{m:Nat}{D:Nat->Nat->Prop}(P:Phase M0 M m D)(a:Nat):M a m=true↔M0 a m=true:=by
 rw[P]
 exact⟨λh=>h.elim id λh=>h.2.1,.inl⟩
def Phase.col{M0 M:Tb}{m:Nat}{D:Nat->Nat->Prop}(P:Phase M0 M m D)(b:Nat):M m b=true↔M0 m b=true:=by
 rw[P]
 exact⟨λh=>h.elim id λh=>h.2.2,.inl⟩
def Phase.step{M0 M:Tb}{m:Nat}{D:Nat->Nat->Prop}(P:Phase M0 M m D)(x y:Nat) :
  Phase M0 (if M x m=true/\M m y=true then M.set x y else M) m (λa b=>D a b\/(a=x/\b=y)):=λa b=>by
 have r:=P.row x
 have c:=P.col y
 by_cases h:M x m=true/\M m y=true
 .rw[Pe h]
  unfold Tb.set
  by_cases e:a=x/\b=y
  .rw[Pe e]
   obtain⟨rfl,rfl⟩:=e
   simp only[true_iff]
   exact .inr ⟨.inr (by simp),r.mp h.1,c.mp h.2⟩
  .rw[Pg e,P]
   constructor
   .rintro (q|⟨d,q⟩)
    .exact .inl q
    .exact .inr ⟨.inl d,q⟩
   .rintro (q|⟨d|d,q⟩)
    .exact .inl q
    .exact .inr ⟨d,q⟩
    .exact absurd d e
 .rw[Pg h,P]
  constructor
  .rintro (q|⟨d,q⟩)
   .exact .inl q
   .exact .inr ⟨.inl d,q⟩
  .rintro (q|⟨d|⟨rfl,rfl⟩,q1,q2⟩)
   .exact .inl q
   .exact .inr ⟨d,q1,q2⟩
   .exact absurd ⟨r.mpr q1,c.mpr q2⟩ h
def Phase.done{M0 M:Tb}{m n:Nat}{D:Nat->Nat->Prop}(P:Phase M0 M m D)(hD:∀a b,a<n->b<n->D a b)(hM:∀a b,M0 a b=true->a<n/\b<n)(T:Iw M0 m) :
  Iw M (m+1)/\∀a b,M a b=true->a<n/\b<n:=by
 have hM':∀a b,M a b=true->a<n/\b<n:=λa b h=>by
  rcases(P a b).mp h with q|⟨_,q1,q2⟩
  .exact hM a b q
  .exact⟨(hM _ _ q1).1,(hM _ _ q2).2⟩
 have put:∀a b,M0 a m=true->M0 m b=true->M a b=true:=λa b h1 h2=>(P a b).mpr (.inr ⟨hD a b (hM _ _ h1).1 (hM _ _ h2).2,h1,h2⟩)
 refine⟨λk a b hk h1 h2=>?_,hM'⟩
 rcases Qo k m with c|c
 .rcases (P a k).mp h1 with q1|⟨_,q1,q1'⟩
  .rcases (P k b).mp h2 with q2|⟨_,q2,q2'⟩
   .exact (P a b).mpr (.inl (T k a b c q1 q2))
   .exact put a b (T k a m c q1 q2) q2'
  .rcases (P k b).mp h2 with q2|⟨_,q2,q2'⟩
   .exact put a b q1 (T k m b c q1' q2)
   .exact put a b q1 q2'
 .have e:k=m:=@AT
  subst e
  exact put a b ((P.row a).mp h1) ((P.col b).mp h2)
structure Tab(n:Nat)(ps:List Pr)(M:Tb):Prop where
 inn:∀a b,M a b=true->a<n/\b<n
 sub:∀a b:Nat,((a:Int),(b:Int))∈ps->M a b=true
 sup:∀a b:Nat,M a b=true->Tr (Mem ps) a b
def Tab.phase{n:Nat}{ps:List Pr}{M0 M:Tb}{m:Nat}{D:Nat->Nat->Prop}(T:Tab n ps M0)(P:Phase M0 M m D):Tab n ps M:=
 ⟨λa b h=>by
  rcases(P a b).mp h with q|⟨_,q1,q2⟩
  .exact T.inn a b q
  .exact⟨(T.inn _ _ q1).1,(T.inn _ _ q2).2⟩,
  λa b h=>(P a b).mpr (.inl (T.sub a b h)),
  λa b h=>by
  rcases(P a b).mp h with q|⟨_,q1,q2⟩
  .exact T.sup a b q
  .exact (T.sup _ _ q1).trans (T.sup _ _ q2)⟩
def Tab.all{n:Nat}{ps:List Pr}{M:Tb}(w:Wn n ps)(T:Tab n ps M)(H:Iw M n)(a b:Nat):M a b=true↔Tr (Mem ps) a b:=by
 refine⟨T.sup a b,λh=>?_⟩
 have key:∀{x y:Int},Tr (Mem ps) x y->M x.toNat y.toNat=true:=λ{x y} h=>by
  induction h with
  | @one x y r=>
   have:=w _ r
   refine T.sub _ _ ?_
   have e1:((x.toNat:Nat):Int)=x:=by simp only at this;omega
   have e2:((y.toNat:Nat):Int)=y:=by simp only at this;omega
   rw[e1,e2];exact r
  | @more x y z r _ ih=>
   have:=w _ r
   have e1:((x.toNat:Nat):Int)=x:=by simp only at this;omega
   have e2:((y.toNat:Nat):Int)=y:=by simp only at this;omega
   have q:M x.toNat y.toNat=true:=T.sub _ _ (by rw[e1,e2];exact r)
   exact H y.toNat _ _ (T.inn _ _ q).2 q ih
 have:=key h
 simpa using this
end OM
namespace L2.ST
open PySem PySem.SetTable PySem.W PyProof.Rows
section
variable {prog:Program}{w:World}{A:Around}{E:@B_}{s:Shared}
def JW(hs:∀p,p∈ps->Sm p)(P:L2.SO.Pm ps.length ix)(U:L2.SO.Up (uQ ps) ix ps.length):OM.uN (ix.toList.map λi=>ps.getD i (0,0)):=by
 refine Qj.mpr (RN.mpr λi j hi hj hij=>?_)
 have hi':i<ix.size:=by simpa using hi
 have hj':j<ix.size:=by simpa using hj
 have q:=U i j hij (by rw[<-P.sz];exact hj')
 unfold L2.SO.Kp uQ at q
 have ei:ix.getD i 0=ix.toList[i]:=by simp[Array.getD,hi']
 have ej:ix.getD j 0=ix.toList[j]:=by simp[Array.getD,hj']
 rw[ei,ej]at q
 have ai:ix.toList[i]<ps.length:=P.lt _ (by simp)
 have aj:ix.toList[j]<ps.length:=P.lt _ (by simp)
 have bi:Sm (ps.getD ix.toList[i] (0,0)):=by rw[PK,O9 ai];exact hs _ (QG ai)
 have bj:Sm (ps.getD ix.toList[j] (0,0)):=by rw[PK,O9 aj];exact hs _ (QG aj)
 exact(A2 bi bj).mp q
def KH(P:L2.SO.Pm n ix)(hk:k<n):k∈ix.toList:=by
 refine Classical.byContradiction λhn=>?_
 have:=bN (P6.mpr ⟨hn,P.nd⟩) λx hx=>by
  rcases Pf.mp hx with e|e
  .rw[e];exact PN.mpr hk
  .exact PN.mpr (P.lt x (by simpa using e))
 simp[P.sz]at this
 omega
theorem Ml(hps:dW prog w h vs ps)(P:L2.SO.Pm vs.length ix) :
  dW prog w h (ix.toList.map λi=>vs.getD i Value.none) (ix.toList.map λi=>ps.getD i (0,0)):=by
 refine⟨by simp,λi v p h1 h2=>?_⟩
 rw[Pt]at h1 h2
 cases e:ix.toList[i]? with
 |none=>rw[e]at h1;cases h1
 |some k=>
  rw[e]at h1 h2
  have hk:k<vs.length:=P.lt k (by simpa using Pn e)
  have hk':k<ps.length:=by rw[<-hps.1];exact hk
  simp[hk,hk']at h1 h2
  exact hps.2 k v p (by rw[O9 hk,h1]) (by rw[O9 hk',h2])
def uk{v:Value}{Q:@B_}(hps:dW prog w s.heap vs ps)(nd:ps.Nodup)(h64:vs.length<64)
  (hcol:∀(Q':List Value->Shared->Prop),(∀h' tk,(∀b o,s.heap.get? b=some o->h'.get? b=some o)->Q' vs {s with heap:=h',toks:=tk})->wpAny (model prog w) A.in1 (collect v) Q' (λe s'=>E e s') s)
  (h:∀(h1 h':Heap) (tk:Nat) (D:Addr) (out:List Value) (qs:List Pr) (c:Nat),(∀b o,s.heap.get? b=some o->h1.get? b=some o)->D=h1.objs.size->(∀b o,h1.get? b=some o->h'.get? b=some o)->h'.get? D=some (seqObj "list" out.toArray c)->dW prog w h' out qs->(∀u,u∈out->u∈vs)->OM.uN qs->(∀p,p∈qs↔p∈ps)->
   Q (.ref D) {s with heap:=h',toks:=tk}):wpAny (model prog w) A (call (.builtin "sorted") [v]) Q E s:=by
 have hsm:∀p,p∈ps->Sm p:=λp hp=>by
  let⟨i,hi,e⟩:=Qf.mp hp
  have hi':i<vs.length:=by rw[hps.1];exact hi
  let⟨_,_,_,hs⟩:=hps.2 i vs[i] p (O9 hi') (by rw[O9 hi,e])
  exact hs
 (refine Calls.call_function_entry kind_sorted plain_sorted entry_sorted (args_sorted1 _) ?_)
 unfold Builtin.«sorted»
 refine O8 (Pa (O8 (hcol _ λh1 tk1 k1=>?_)))
 have hz:vs.length<=sizeLine:=by rw[PX];omega
 refine O8 (wpAny_newList ?_ hz)
 have hoL:(h1.push (seqObj "list" vs.toArray 0)).get? h1.objs.size=some (seqObj "list" vs.toArray 0):=Pl _ rfl
 have kp:∀b o,s.heap.get? b=some o->(h1.push (seqObj "list" vs.toArray 0)).get? b=some o:=λb o e=>Pb _ (k1 b o e)
 have hp1:dW prog w (h1.push (seqObj "list" vs.toArray 0)) vs ps:=⟨hps.1,λi v p a b=>by
  let⟨c,e,⟨o,it,n,ho,r⟩,hs⟩:=hps.2 i v p a b
  exact⟨c,e,⟨o,it,n,kp _ _ ho,r⟩,hs⟩⟩
 have hne:∀b o,s.heap.get? b=some o->b≠h1.objs.size:=λb o e=>P4 (Po (k1 b o e))
 refine O8 (Qc (Qv slot_list_sort ⟨_,hoL,rfl⟩ entry_list_sort ?_ (args_list_sort _)))
 refine yh hoL hp1 nd h64 λh' c ix P U hk ho=>⟨_,rfl,Pa ⟨_,rfl,?_⟩⟩
 have kk:∀b o,s.heap.get? b=some o->h'.get? b=some o:=λb o e=>hk b o (hne b o e) (kp b o e)
 have P':L2.SO.Pm ps.length ix:=by rw[<-hps.1];exact P
 have k2:∀b o,h1.get? b=some o->h'.get? b=some o:=λb o e=>hk b o (P4 (Po e)) (Pb _ e)
 refine h h1 h' tk1 h1.objs.size _ (ix.toList.map λi=>ps.getD i (0,0)) c k1 rfl k2 ho (Ml ⟨hps.1,λi v p a b=>?_⟩ P) (λu hu=>?_) (JW hsm P' (by rw[<-hps.1];exact U)) λp=>⟨λhp=>?_,λhp=>?_⟩
 .let⟨c,e,⟨o,it,n,ho,r⟩,hs⟩:=hps.2 i v p a b
  exact⟨c,e,⟨o,it,n,kk _ _ ho,r⟩,hs⟩
 .obtain⟨i,hi,rfl⟩:=Pj.mp hu
  have:i<vs.length:=P.lt i (by simpa using hi)
  rw[PK,O9 this]
  exact QG this
 .obtain⟨i,hi,rfl⟩:=Pj.mp hp
  have:i<ps.length:=P'.lt i (by simpa using hi)
  rw[PK,O9 this]
  exact QG this
 .let⟨i,hi,e⟩:=Qf.mp hp
  refine Pj.mpr ⟨i,KH P' hi,?_⟩
  rw[PK,O9 hi,e];rfl
end
end L2.ST
namespace L2
open PySem PySem.Spec PyProof.Rows
abbrev Pr:=Int×Int
abbrev Sm:=L2.ST.Sm
section
variable {X:Cx}{pins:List (Addr×Obj)}{σ:St}{H H':Hp}{s:Shared}
def iS(H H':Hp):Prop:=(∀b xs,H b=some (.tup xs)->H' b=some (.tup xs))/\∀b o u,H b=some (.a8 o u)->H' b=some (.a8 o u)
def iS.trans{H H1 H2:Hp}(a:iS H H1)(b:iS H1 H2):iS H H2:=⟨λc xs h=>b.1 c xs (a.1 c xs h),λc o u h=>b.2 c o u (a.2 c o u h)⟩
def ao.grow{H H':Hp}(e:ao H H'):iS H H':=⟨λb xs h=>e b _ h,λb o u h=>e b _ h⟩
def iS.new{H:Hp}(h:H l=none):iS H (upd H l o):=⟨λb xs e=>by rw[av (aL e h)];exact e,λb o' u e=>by rw[av (aL e h)];exact e⟩
def ao.new{H:Hp}(h:H l=none):ao H (upd H l o):=λb u e=>Kt.of (by rw[av (aL e h)];exact e)
def fu.grow{K:Frag}{a:Addr}{xs:List V}(h:fu K H a xs)(g:iS H H'):fu K H' a xs:=by
 rcases h with(h|⟨o,h⟩)|h
 .exact .inl (.inl (g.1 _ _ h))
 .exact .inl (.inr ⟨o,g.2 _ _ _ h⟩)
 .exact .inr h
def iS.list(h:H a=some (.lst ys)):iS H (upd H a o):=
 ⟨λb xs e=>by rw[av (mJ e h (by intro z;cases z))];exact e,λb o' u e=>by rw[av (mJ e h (by intro z;cases z))];exact e⟩
theorem tL{α β:Type}{f:α->β}:∀{l:List α} {m:List β},m.Perm (l.map f)->∃l':List α,m=l'.map f/\l'.Perm l:=by
 intro l m h
 generalize hk:l.map f=k at h
 induction h generalizing l with
 |nil=>
  have:l= []:=by simpa using hk
  exact⟨[],rfl,by rw[this]⟩
 | @cons x m1 m2 _ ih=>
  cases l with
  |nil=>cases hk
  |cons a l=>
   simp only[PL,List.cons.injEq]at hk
   let⟨l',e,p⟩:=ih hk.2
   exact⟨a::l',by rw[PL,hk.1,e],p.cons a⟩
 |swap x y m1=>
  cases l with
  |nil=>cases hk
  |cons a l=>
   cases l with
   |nil=>simp at hk
   |cons b l=>
    simp only[PL,List.cons.injEq]at hk
    exact⟨b::a::l,by rw[PL,PL,hk.1,hk.2.1,hk.2.2],List.Perm.swap ..⟩
 |trans _ _ ih1 ih2=>
  let⟨l1,e1,p1⟩:=ih2 hk
  let⟨l2,e2,p2⟩:=ih1 e1.symm
  exact⟨l2,e2,p2.trans p1⟩
def aR(K:Frag)(H:Hp):List V->List Pr->Prop:=Paired λv p=>∃a,v=.ref a/\fu K H a [.int p.1,.int p.2]
def aR.grow{K:Frag}{vs:List V}{ps:List Pr}(h:aR K H vs ps)(g:iS H H'):aR K H' vs ps:=Paired.mapP h λv p ⟨a,e,q⟩=>⟨a,e,q.grow g⟩
theorem Paired.getP{α β:Type}{F:α->β->Prop}:∀{l:List α} {m:List β} {i:Nat} {x:α},Paired F l m->l[i]? =some x->∃y,m[i]? =some y/\F x y
 |_,_,_,_,.nil,e=>by simp at e
 |_,_,0,_,.cons r _,e=>by simp at e;subst e;exact⟨_,rfl,r⟩
 |_,_,i+1,x,.cons _ t,e=>by
  obtain⟨u,h1,h2⟩:=Paired.getP t (by simpa using e)
  exact⟨u,by simpa using h1,h2⟩
theorem Paired.getQ{α β:Type}{F:α->β->Prop}:∀{l:List α} {m:List β} {i:Nat} {y:β},Paired F l m->m[i]? =some y->∃x,l[i]? =some x/\F x y
 |_,_,_,_,.nil,e=>by simp at e
 |_,_,0,_,.cons r _,e=>by simp at e;subst e;exact⟨_,rfl,r⟩
 |_,_,i+1,x,.cons _ t,e=>by
  obtain⟨u,h1,h2⟩:=Paired.getQ t (by simpa using e)
  exact⟨u,by simpa using h1,h2⟩
theorem vJ(I:@At)(h:fu X.K H a [.int p.1,.int p.2]):L2.ST.bW X.prog X.w s.heap p a:=by
 let⟨its,r,⟨o,ho,hc,n,hd⟩,_⟩:=I.tuple h
 cases r with
 |cons r1 r=>
  cases r with
  |cons r2 r=>
   cases r
   obtain⟨t1,rfl⟩:=r1
   obtain⟨t2,rfl⟩:=r2
   exact⟨o,_,n,ho,hc,hd,.cons (intKind_is ..) (.cons (intKind_is ..) .nil)⟩
def pairs_at(I:@At)(hv:Vals vs us)(h:aR X.K H vs ps)(hs:∀p,p∈ps->Sm p):L2.ST.dW X.prog X.w s.heap us ps:=by
 refine⟨by rw[<-hv.length];exact Paired.length h,λi u p e1 e2=>?_⟩
 obtain⟨v,ev,a,rfl,q⟩:=Paired.getQ h e2
 let⟨u',eu,ru⟩:=hv.get ev
 rw[e1]at eu;cases eu
 cases ru
 exact⟨a,rfl,vJ I q,hs p (Pn e2)⟩
theorem rN(I:@At)(hv:Vals vs us)(h:aR X.K H vs ps)(k:∀b o,s.heap.get? b=some o->h'.get? b=some o):∀{out:List Value} {qs:List Pr},
  (∀u,u∈out->u∈us)->L2.ST.dW X.prog X.w h' out qs->∃ws,Vals ws out/\aR X.K H ws qs
 | [],[],_,_=>⟨[],.nil,.nil⟩
 | [],_::_,_,hp=>by have:=hp.1;simp at this
 |_::_,[],_,hp=>by have:=hp.1;simp at this
 |u::out,q::qs,hm,hp=>by
  obtain⟨ws,a1,a2⟩:=rN I hv h k (λx hx=>hm x (Pk _ hx)) ⟨by have:=hp.1;simpa using this,λi v p e1 e2=>hp.2 (i+1) v p (by simpa using e1) (by simpa using e2)⟩
  let⟨i,hi,e⟩:=Qf.mp (hm u (Pq ..))
  have hi':i<vs.length:=by rw[hv.length];exact hi
  let⟨u',eu,ru⟩:=hv.get (O9 hi')
  rw[O9 hi,e]at eu
  cases eu
  let⟨p,ep,a,ea,qa⟩:=Paired.getP h (O9 hi')
  rw[ea]at ru
  cases ru
  let⟨b,eb,hb,_⟩:=hp.2 0 (.ref a) q rfl rfl
  cases eb
  have pa:L2.ST.bW X.prog X.w h' p a:=by
   let⟨o,it,n,ho,r⟩:=vJ I qa
   exact⟨o,it,n,k _ _ ho,r⟩
  have:p=q:=L2.ST.bW.inj pa hb
  subst this
  exact⟨.ref a::ws,.cons rfl a1,.cons ⟨a,rfl,qa⟩ a2⟩
def Ae(K:Frag):List V->Hp->VK->Prop:=λxs H Q=>∃a vs ps,xs= [.ref a]/\fU K H a vs/\aR K H vs ps/\(∀p,p∈ps->Sm p)/\ps.Nodup/\ps.length<64/\
 ∀l ws qs,H l=none->aR K H ws qs->OM.uN qs->(∀p,p∈qs↔p∈ps)->Q (.ref l) (upd H l (.lst ws))
def qX(I:@At)(hv:Vals vs us)(hp:aR X.K H vs ps)(hlen:ps.length<64){Q:VK}
  (q:∀l ws qs,H l=none->aR X.K H ws qs->OM.uN qs->(∀p,p∈qs↔p∈ps)->Q (.ref l) (upd H l (.lst ws)))
  {h1 h':Heap} {tk:Nat} {D:Addr} {out:List Value} {qs:List Pr} {c:Nat} (k1:∀b o,s.heap.get? b=some o->h1.get? b=some o) (eD:D=h1.objs.size) (k2:∀b o,h1.get? b=some o->h'.get? b=some o)
  (ho:h'.get? D=some (seqObj "list" out.toArray c)) (hpq:L2.ST.dW X.prog X.w h' out qs) (hm:∀u,u∈out->u∈us) (hr:OM.uN qs) (hmem:∀p,p∈qs↔p∈ps):EP X pins σ Q (.ref D) {s with heap:=h',toks:=tk}:=by
 let⟨ws,r1,r2⟩:=rN I hv hp (λb o e=>k2 b o (k1 b o e)) hm hpq
 have I1:Inv X pins σ H {s with heap:=h1,toks:=tk}:=I.kept k1
 have hf:H D=none:=by rw[eD];exact I1.hok.fresh (Pd _)
 have hz:ws.length<=sizeLine:=by
  have e1:=r1.length
  have e2:out.length=qs.length:=hpq.1
  have e3:=OM.qY (OM.dS hr) λx hx=>(hmem x).mp hx
  rw[PX];omega
 have I2:Inv X pins σ (upd H D (.lst ws)) {s with heap:=h',toks:=tk}:=I1.laid k2 (by rw[eD];exact Pd _) (show bE X.prog X.w _ h' _ (.lst ws)from⟨hz,out,c,r1,ho⟩)
 exact⟨.ref D,_,I2,rfl,q D ws qs hf r2 hr hmem⟩
def pR:cW X (.builtin "sorted") (Ae X.K):=by
 intro pins s σ H xs us Q I r h
 obtain⟨a,vs,ps,rfl,hq,hp,hs,nd,hl,q⟩:=h
 obtain⟨u,rfl,rx⟩:=vals1 r
 cases rx
 let⟨its,rv,pl,hz⟩:=I.list hq
 have hpa:=pairs_at I rv hp hs
 have h64:its.length<64:=by rw[hpa.1];exact hl
 refine L2.ST.uk hpa nd h64 (λQ' hQ'=>collect_list pl.isList ?_ (by rw[PX];omega)) λh1 h' tk D out qs c k1 eD k2 ho hpq hm hr hmem=>?_
 .exact hQ' _ s.toks λb o e=>by
   rw[Heap.get?_update_ne _ _ _ _ (P4 (Po e)),Heap.get?_push_ne _ _ _ (P4 (Po e))];exact e
 .exact qX I rv hp hl q k1 eD k2 ho hpq hm hr hmem
abbrev vq(qs:List (Addr×Pr)):List V:=qs.map λq=>V.ref q.1
abbrev pq(qs:List (Addr×Pr)):List Pr:=qs.map (·.2)
def IT(prog:Program)(w:World)(S:Addr)(qs:List (Addr×Pr))(h:Heap):Prop:=∃o ep t,h.get? S=some o/\o.ExactSet/\o.data=.set (qs.map λq=>(L2.ST.CW prog w q.2,Value.ref q.1)).toArray ep t/\L2.ST.Tab t (qs.map λq=>L2.ST.CW prog w q.2)/\t.led=L2.ST.ki w
def Bx(prog:Program)(w:World)(S:Addr)(qs:List (Addr×Pr)):HO:=.ext (IT prog w S qs)
def MH(P:Program)(w:World)(K:Frag):List V->Hp->VK->Prop:=λxs H Q=>∃a vs ps,xs= [.ref a]/\(fU K H a vs\/fu K H a vs)/\aR K H vs ps/\(∀p,p∈ps->Sm p)/\
 ∀S qs,H S=none->aR K H (vq qs) (pq qs)->(pq qs).Nodup->(∀p,p∈pq qs↔p∈ps)->Q (.ref S) (upd H S (Bx P w S qs))
def EY(hc:X.calm=true)(hu:X.A.units+64<cLine):cW X (.type "set") (MH X.prog X.w X.K):=by
 intro pins s σ H xs us Q I r h
 obtain⟨a,vs,ps,rfl,hq,hp,hs,q⟩:=h
 obtain⟨u,rfl,rx⟩:=vals1 r
 cases rx
 have hh:=I.ok.hd hc
 have core:∀{its:List Value} {T:String} {itO:Obj} {St:Addr->Nat->Heap->Prop},Vals vs its->L2.ST.Src X.prog X.w s.heap a its T itO St->wpAny (model X.prog X.w) X.A (call (.type "set") [.ref a]) (EP X pins σ Q) X.xe s:=λ{its T itO St} rv src=>by
  refine L2.ST.qJ src hh hu (pairs_at I rv hp hs) λh' tk F k=>?_
  let⟨qs,P1,P2,P3⟩:=F
  have hlen:its.length=vs.length:=rv.length.symm
  have back:∀qv:Addr×Pr,qv∈qs->∃b,b=qv.1/\fu X.K H b [.int qv.2.1,.int qv.2.2]:=λqv hqv=>by
   let⟨i,hi,e⟩:=Qf.mp (Sg (P2 qv hqv).1)
   have hi':i<vs.length:=by rw[<-hlen];exact hi
   let⟨u',eu,ru⟩:=rv.get (O9 hi')
   rw[O9 hi,e]at eu
   cases eu
   let⟨p,ep,b,eb,qb⟩:=Paired.getP hp (O9 hi')
   rw[eb]at ru
   cases ru
   have pa:L2.ST.bW X.prog X.w h' p qv.1:=by
    let⟨o,it,n,ho,r⟩:=vJ I qb
    exact⟨o,it,n,k _ _ ho,r⟩
   have:p=qv.2:=L2.ST.bW.inj pa (P1.at' qv hqv).1
   subst this
   exact⟨_,rfl,qb⟩
  have hpv:∀{l:List (Addr×Pr)},(∀x,x∈l->x∈qs)->aR X.K H (vq l) (pq l):=λ{l}=>by
   induction l with
   |nil=>intro _;exact .nil
   |cons y l ih=>
    intro hl
    let⟨b,eb,qb⟩:=back y (hl y (Pq ..))
    subst eb
    exact .cons ⟨_,rfl,qb⟩ (ih λx hx=>hl x (Pk _ hx))
  have hmem:∀p,p∈pq qs↔p∈ps:=λp=>by
   have hpl:ps.length=its.length:=by rw[hlen];exact(Paired.length hp).symm
   constructor
   .intro hx
    obtain⟨qv,hqv,rfl⟩:=Pj.mp hx
    exact Sg (P2 qv hqv).2
   .intro hx
    exact P3 p (by rw[<-hpl,Ry (Pd _)];exact hx)
  have hf:H s.heap.objs.size=none:=I.hok.fresh (Pd _)
  let⟨o,ep,t,ho,r1⟩:=P1.ex
  have new:bE X.prog X.w (upd H s.heap.objs.size (Bx X.prog X.w s.heap.objs.size qs)) h' s.heap.objs.size (Bx X.prog X.w s.heap.objs.size qs):=
   ⟨⟨o,ep,t,ho,r1⟩,⟨o,ho⟩,λh1 h2 ⟨o1,ep1,t1,g1,g2⟩ kk=>⟨o1,ep1,t1,kk _ g1,g2⟩⟩
  exact⟨.ref _,_,I.laid k (Pd _) new,rfl,q _ qs hf (hpv λx hx=>hx) P1.nd hmem⟩
 rcases hq with hq|hq
 .let⟨its,rv,pl,hz⟩:=I.list hq
  exact core rv (L2.ST.Src.list pl.isList)
 .let⟨its,rv,pl,hz⟩:=I.tuple hq
  exact core rv (L2.ST.Src.tuple pl)
def xW(P:Program)(w:World)(K:Frag):List V->Hp->VK->Prop:=λxs H Q=>∃S qs,xs= [.ref S]/\H S=some (Bx P w S qs)/\aR K H (vq qs) (pq qs)/\(∀p,p∈pq qs->Sm p)/\(pq qs).Nodup/\qs.length<64/\
 ∀l ws rs,H l=none->aR K H ws rs->OM.uN rs->(∀p,p∈rs↔p∈pq qs)->Q (.ref l) (upd H l (.lst ws))
def wg(hc:X.calm=true):cW X (.builtin "sorted") (xW X.prog X.w X.K):=by
 intro pins s σ H xs us Q I r h
 obtain⟨S,qs,rfl,hS,hp,hs,nd,hl,q⟩:=h
 obtain⟨u,rfl,rx⟩:=vals1 r
 cases rx
 have hh:=I.ok.hd hc
 obtain⟨⟨o,ep,t,ho,hex,hd,T,hled⟩,_,_⟩:IT X.prog X.w S qs s.heap/\_:=I.hok S _ hS
 have T':L2.ST.Tab t ((qs.map λq=>(L2.ST.CW X.prog X.w q.2,Value.ref q.1)).toArray.toList.map (·.1)):=by
  rw[Rb,P8];exact T
 have htp:=L2.ST.t8 X.w S ep (qs.map λq=>(L2.ST.CW X.prog X.w q.2,Value.ref q.1)).toArray
 have hmem:∀x,x∈(L2.ST.told X.w S ep (qs.map λq=>(L2.ST.CW X.prog X.w q.2,Value.ref q.1)).toArray).toList->∃q,q∈qs/\x=(L2.ST.CW X.prog X.w q.2,Value.ref q.1):=λx hx=>by
  have:=htp.mem_iff.mp hx
  simp only[Rb]at this
  let⟨q,hq,e⟩:=Pj.mp this
  exact⟨q,hq,e.symm⟩
 obtain⟨q2,e2,p2⟩:∃q2:List (Addr×Pr),(L2.ST.told X.w S ep (qs.map λq=>(L2.ST.CW X.prog X.w q.2,Value.ref q.1)).toArray).toList=q2.map (λq=>(L2.ST.CW X.prog X.w q.2,Value.ref q.1))/\q2.Perm qs:=by
  have:=htp
  simp only[Rb]at this
  exact tL this
 have hp2:aR X.K H (vq q2) (pq q2):=by
  have key:∀{l:List (Addr×Pr)},(∀x,x∈l->x∈qs)->aR X.K H (vq l) (pq l):=λ{l}=>by
   induction l with
   |nil=>intro _;exact .nil
   |cons y l ih=>
    intro hl
    let⟨i,hi,e⟩:=Qf.mp (hl y (Pq ..))
    let⟨p,ep',a,ea,qa⟩:=Paired.getP (i:=i) (x:=.ref y.1) hp (by simp[hi,e])
    have:p=y.2:=by simp[hi,e]at ep';exact ep'.symm
    subst this
    exact .cons ⟨a,ea,qa⟩ (ih λx hx=>hl x (Pk _ hx))
  exact key λx hx=>p2.mem_iff.mp hx
 have hv2:Vals (vq q2) (q2.map λq=>Value.ref q.1):=by
  induction q2 with
  |nil=>exact .nil
  |cons y l ih=>exact .cons rfl (by
    clear ih e2 p2 hp2
    induction l with
    |nil=>exact .nil
    |cons z l ih2=>exact .cons rfl ih2)
 have hm2:∀p,p∈pq q2↔p∈pq qs:=λp=>(p2.map (·.2)).mem_iff
 have hpa:=pairs_at I hv2 hp2 λp hpp=>hs p ((hm2 p).mp hpp)
 have hl2:q2.length<64:=by rw[p2.length_eq];exact hl
 refine L2.ST.uk hpa ((p2.map (·.2)).nodup_iff.mpr nd) (by simpa using hl2) (λQ' hQ'=>L2.ST.wZ (by simpa using hh) ho hd hex.1 T' hled (by simp;omega) λh' tk vs ev k=>?_) λh1 h' tk D out qs' c k1 eD k2 ho' hpq hm hr hmem'=>?_
 .rw[ev,e2]
  rw[P8]
  exact hQ' h' tk k
 .exact qX I hv2 hp2 (by simpa using hl2) (λl ws rs a1 a2 a3 a4=>q l ws rs a1 a2 a3 λp=>(a4 p).trans (hm2 p)) k1 eD k2 ho' hpq hm hr hmem'
end
mutual
inductive Rep(K:Frag)(H:Hp):V->PyData->Prop
 |non:Rep K H .non .none
 |bl (b:Bool):Rep K H (.bl b) (.bool b)
 |int (i:Int):Rep K H (.int i) (.int i)
 |str (x:Str):Rep K H (.str x) (.str x)
 |tup {a:Addr} {xs:List V} {ds:List PyData}:fu K H a xs->lJ K H xs ds->Rep K H (.ref a) (.tuple ds)
 |lst {a:Addr} {xs:List V} {ds:List PyData}:fU K H a xs->lJ K H xs ds->Rep K H (.ref a) (.list ds)
inductive lJ(K:Frag)(H:Hp):List V->List PyData->Prop
 |nil:lJ K H [] []
 |cons {x:V} {xs:List V} {d:PyData} {ds:List PyData}:Rep K H x d->lJ K H xs ds->lJ K H (x::xs) (d::ds)
end
section
variable {X:Cx}{pins:List (Addr×Obj)}{σ:St}{H H':Hp}{s:Shared}
mutual
theorem Rep.reads(I:@At):∀{x:V} {d:PyData} {u:Value},Rep X.K H x d->RelV x u->∃as,Reads s.heap u d as
 |_,_,_,.non,r=>by cases r;exact⟨_,.none⟩
 |_,_,_,.bl b,r=>by cases r;exact⟨_,.bool b⟩
 |_,_,_,.int i,r=>by obtain⟨t,rfl⟩:=r;exact⟨_,.int i t⟩
 |_,_,_,.str x,r=>by obtain⟨t,rfl⟩:=r;exact⟨_,.str x t⟩
 |_,_,_,.tup h hs,r=>by
  cases r
  let⟨its,rv,⟨o,ho,hc,n,hd⟩,_⟩:=I.tuple h
  let⟨as,q⟩:=lJ.reads I hs rv
  exact⟨_,.tuple ho hc hd (by simpa using q)⟩
 |_,_,_,.lst h hs,r=>by
  cases r
  let⟨its,rv,pl,_⟩:=I.list h
  let⟨o,ho,hc,n,hd⟩:=pl.isList
  let⟨as,q⟩:=lJ.reads I hs rv
  exact⟨_,.list ho hc hd (by simpa using q)⟩
theorem lJ.reads(I:@At):∀{xs:List V} {ds:List PyData} {us:List Value},lJ X.K H xs ds->Vals xs us->∃as,ReadsAll s.heap us ds as
 |_,_,_,.nil,r=>by cases r;exact⟨_,.nil⟩
 |_,_,_,.cons h hs,r=>by
  cases r with
  |cons r1 r2=>
   obtain⟨as,q⟩:=Rep.reads I h r1
   let⟨bs,q'⟩:=lJ.reads I hs r2
   exact⟨_,.cons q q'⟩
end
def JG(K:Frag)(neg:Bool):R2:=λx y H Q=>∃d e,Rep K H x d/\Rep K H y e/\SeqAt.shaped d=true/\SeqAt.shaped e=true/\Q (.bl (if neg then !PyData.eqv d e else PyData.eqv d e)) H
def cU(hu:X.A.units+64<cLine):pH X (compareOp .Eq) (JG X.K false):=by
 intro pins s σ H x y v u Q I rx ry h
 let⟨d,e,h1,h2,s1,s2,q⟩:=h
 let⟨as,r1⟩:=h1.reads I rx
 let⟨bs,r2⟩:=h2.reads I ry
 exact SeqAt.compareEq_shaped r1 r2 s1 s2 hu ⟨.bl _,H,I,rfl,q⟩
def gA(hu:X.A.units+64<cLine):pH X (compareOp .NotEq) (JG X.K true):=by
 intro pins s σ H x y v u Q I rx ry h
 let⟨d,e,h1,h2,s1,s2,q⟩:=h
 let⟨as,r1⟩:=h1.reads I rx
 let⟨bs,r2⟩:=h2.reads I ry
 exact SeqAt.compareNe_shaped r1 r2 s1 s2 hu ⟨.bl _,H,I,rfl,q⟩
def Ma(K:Frag)(neg:Bool):R2:=λx y H Q=>∃p xs d ds,y=.ref p/\(fU K H p xs\/fu K H p xs)/\lJ K H xs ds/\Rep K H x d/\SeqAt.shaped d=true/\(∀e,e∈ds->SeqAt.shaped e=true)/\
 Q (.bl (if neg then !(ds.any λe=>PyData.eqv e d)else ds.any λe=>PyData.eqv e d)) H
theorem lJ.at'{K:Frag}:∀{xs:List V} {ds:List PyData} {i:Nat} {x:V},lJ K H xs ds->xs[i]? =some x->∃d,ds[i]? =some d/\Rep K H x d
 |_,_,_,_,.nil,e=>by simp at e
 |_,_,0,_,.cons r _,e=>by simp at e;subst e;exact⟨_,rfl,r⟩
 |_,_,i+1,x,.cons _ t,e=>by
  obtain⟨u,h1,h2⟩:=lJ.at' t (by simpa using e)
  exact⟨u,by simpa using h1,h2⟩
open Classical in
theorem xr(I:@At)(d:PyData):∀{xs:List V} {us:List Value} {ds:List PyData},Vals xs us->lJ X.K H xs ds->(∀e,e∈ds->SeqAt.shaped e=true)->∃f:Value->Bool,us.any f=(ds.any λe=>PyData.eqv e d)/\∀u,u∈us->∃e as,e∈ds/\Reads s.heap u e as/\f u=PyData.eqv e d:=by
 intro xs us ds hv hr hs
 let f:Value->Bool:=λu=>if h:∃e as,SeqAt.shaped e=true/\Reads s.heap u e as then PyData.eqv (Classical.choose h) d else false
 have hf:∀{u:Value} {e:PyData} {as:List Addr},SeqAt.shaped e=true->Reads s.heap u e as->f u=PyData.eqv e d:=λ{u e as} h1 h2=>by
  have hx:∃e as,SeqAt.shaped e=true/\Reads s.heap u e as:=⟨e,as,h1,h2⟩
  show(if h:∃e as,SeqAt.shaped e=true/\Reads s.heap u e as then PyData.eqv (Classical.choose h) d else false)=_
  rw[dif_pos hx]
  let⟨bs,q1,q2⟩:=Classical.choose_spec hx
  rw[SeqAt.Reads.unique _ _ _ _ _ (R9 q1) q2 h2]
 refine⟨f,?_,?_⟩
 .induction hv generalizing ds with
  |nil=>cases hr;rfl
  | @cons x u xs us r1 r2 ih=>
   cases hr with
   | @cons _ _ e es h1 h2=>
    let⟨as,q⟩:=h1.reads I r1
    rw[Rf,Rf,hf (hs e (Pq ..)) q,ih h2 λz hz=>hs z (Pk _ hz)]
 .intro u hu
  let⟨i,hi,e0⟩:=Qf.mp hu
  have hi':i<xs.length:=by rw[hv.length];exact hi
  let⟨u',eu,ru⟩:=hv.get (O9 hi')
  rw[O9 hi,e0]at eu
  cases eu
  let⟨e,ee,re⟩:=lJ.at' hr (O9 hi')
  let⟨as,q⟩:=re.reads I ru
  have hm:=Pn ee
  exact⟨e,as,hm,q,hf (hs e hm) q⟩
inductive HN(K:Frag)(H:Hp):V->String->Prop
 |non:HN K H .non "NoneType"
 |bl (b:Bool):HN K H (.bl b) "bool"
 |int (i:Int):HN K H (.int i) "int"
 |str (x:Str):HN K H (.str x) "str"
 |tup {a:Addr} {xs:List V}:fu K H a xs->HN K H (.ref a) "tuple"
 |lst {a:Addr} {xs:List V}:fU K H a xs->HN K H (.ref a) "list"
 |dic {a:Addr} {kvs:List (Key×V)}:H a=some (.dK kvs)->HN K H (.ref a) "dict"
def NS(K:Frag):List V->Hp->VK->Prop:=λxs H Q=>∃x T t b,xs= [x,.ty T]/\HN K H x t/\PySem.W.kitOne K (.type t) (.type T)=some b/\Q (.bl b) H
theorem E8:cW X (.builtin "isinstance") (NS X.K):=by
 intro pins s σ H xs us Q I r h
 obtain⟨x,T,t,b,rfl,ty,e,q⟩:=h
 obtain⟨u,c,rfl,rx,rc⟩:=vals2 r
 cases rc
 have fin:∀tk,EP X pins σ Q (.bool b) {s with toks:=tk}:=λtk=>⟨.bl b,H,I.tok tk,rfl,q⟩
 cases ty with
 |non=>exact jN I rx .non e fin
 |bl b=>exact jN I rx (.bl b) e fin
 |int i=>exact jN I rx (.int i) e fin
 |str z=>exact jN I rx (.str z) e fin
 |dic hk=>exact jN I rx (.dK hk) e fin
 |tup hq=>
  cases rx
  let⟨its,rv,⟨o,h1,h2,_⟩,_⟩:=I.tuple hq
  exact Qr PySem.W.kitx_tuple I.kIn ⟨o,h1,h2⟩ e (λz=>nomatch z) fin
 |lst hq=>
  cases rx
  let⟨its,rv,pl,_⟩:=I.list hq
  let⟨o,h1,h2,_⟩:=pl.isList
  exact Qr PySem.W.kitx_list I.kIn ⟨o,h1,h2⟩ e (λz=>nomatch z) fin
def ye{A:Around}{its:List Value}{bs:List Bool}(hv:Vals (bs.map V.bl) its):TruthOf X.prog X.w A (λi v=>its[i]? =some v) (λi=>bs.getD i false):=λi v s Q E hi hq=>by
 have hl:=hv.length
 have hi2:i<bs.length:=by
  have:=(Pw.mp hi).1
  rw[<-hl]at this;simpa using this
 obtain⟨u,eu,ru⟩:=hv.get (i:=i) (x:=.bl bs[i]) (by simp[hi2])
 rw[hi]at eu;cases eu
 cases ru
 refine Q6 ?_
 have:bs.getD i false=bs[i]:=by simp[hi2]
 rw[<-this];exact hq
theorem range_all(bs:List Bool):(List.range bs.length).all (λi=>bs.getD i false)=bs.all id:=by
 induction bs with
 |nil=>rfl
 |cons b bs ih=>
  rw[PR,List.range_succ_eq_map,Sn,List.all_map,Sn,<-ih]
  rfl
theorem range_any(bs:List Bool):(List.range bs.length).any (λi=>bs.getD i false)=bs.any id:=by
 induction bs with
 |nil=>rfl
 |cons b bs ih=>
  rw[PR,List.range_succ_eq_map,Rf,List.any_map,Rf,<-ih]
  rfl
def zJ(K:Frag)(f:List Bool->Bool):List V->Hp->VK->Prop:=λxs H Q=>∃a bs,xs= [.ref a]/\fU K H a (bs.map V.bl)/\Q (.bl (f bs)) H
def sx(hc:X.calm=true){a:Addr}{bs:List Bool}{Q:VK}(I:@At)(hq:fU X.K H a (bs.map V.bl)){f:List Bool->Bool}{g:(Nat->Bool)->Nat->Bool}(hfg:g (λi=>bs.getD i false) bs.length=f bs)(q:Q (.bl (f bs)) H) :
  wpAny (model X.prog X.w) X.A.in1 (pyIter (.ref a)) (λit s2=>∃Ii fp wr n P St tr,it=.ref Ii/\Walks X.prog X.w X.A.in1 Ii fp wr n P St/\St 0 s2.heap/\TruthOf X.prog X.w X.A.in1 P tr/\
   ∀h' tk,(∀b o,b∉wr->s2.heap.get? b=some o->h'.get? b=some o)->EP X pins σ Q (.bool (g tr n)) {s2 with heap:=h',toks:=tk}) X.xe s:=by
 obtain⟨its,rv,pl,hz⟩:=I.list hq
 have hh:X.A.in1.handled=none:=I.ok.hd hc
 have hlen:its.length=bs.length:=by rw[<-rv.length];simp
 obtain⟨o,ho,_⟩:=id pl.isList
 refine RJ pl.isList ?_
 have W:=Walks.list (prog:=X.prog) (w:=X.w) hh s.heap.objs.size a (P4 (Po ho)) its.toArray
 refine⟨s.heap.objs.size,_,_,_,_,_,λi=>bs.getD i false,rfl,W,⟨⟨_,Pl _ rfl,rfl,rfl⟩,pl.isList.push _⟩,?_,λh' tk k=>?_⟩
 ·have:=ye (X:=X) (A:=X.A.in1) rv
  simpa using this
 ·have e:its.toArray.size=bs.length:=by simpa using hlen
  rw[e,hfg]
  have I1:Inv X pins σ H {s with heap:=s.heap.push {cls:=.type "list_iterator",data:=.fields #[.ref a,.int 0 0]}}:=I.kept (t':=s.toks) λb o e=>Pb _ e
  have hf:H s.heap.objs.size=none:=I.hok.fresh (Pd _)
  have fp:=I.fpOk (H':=H) (b:=s.heap.objs.size) (Pd _) hf
  refine⟨.bl _,H,I1.turned (it:=s.heap.objs.size) (t':=tk) (λb o hb e=>k b o (by simpa using hb) e) hf fp.2.1 fp.2.2.2.1 fp.2.2.2.2.1 fp.2.2.2.2.2,rfl,q⟩
def qD(hc:X.calm=true):cW X (.builtin "all") (zJ X.K λbs=>bs.all id):=by
 intro pins s σ H xs us Q I r h
 obtain⟨a,bs,rfl,hq,q⟩:=h
 obtain⟨u,rfl,rx⟩:=vals1 r
 cases rx
 exact call_all_walk (sx hc I hq (f:=λbs=>bs.all id) (g:=λtr n=>(List.range n).all tr) (range_all bs) q)
def DI(hc:X.calm=true):cW X (.builtin "any") (zJ X.K λbs=>bs.any id):=by
 intro pins s σ H xs us Q I r h
 obtain⟨a,bs,rfl,hq,q⟩:=h
 obtain⟨u,rfl,rx⟩:=vals1 r
 cases rx
 exact call_any_walk (sx hc I hq (f:=λbs=>bs.any id) (g:=λtr n=>(List.range n).any tr) (range_any bs) q)
def DP:cW X (.type "range") (λxs H Q=>∃n:Int,xs= [.int n]/\∀p,H p=none->Q (.ref p) (upd H p (.ba 0 n))):=by
 intro pins s σ H xs us Q I r h
 obtain⟨n,rfl,q⟩:=h
 obtain⟨u,rfl,rx⟩:=vals1 r
 obtain⟨t,rfl⟩:=rx
 refine call_range_1 ⟨.ref s.heap.objs.size,upd H s.heap.objs.size (.ba 0 n),?_,rfl,q _ (I.hok.fresh (Pd _))⟩
 exact I.laid (λb o e=>Pb _ e) (Pd _) ⟨_,_,_,Pl _ rfl⟩
def tq(hc:X.calm=true):cW X (.type "list") (λxs H Q=>∃p n,xs= [.ref p]/\H p=some (.ba 0 n)/\0<=n/\n<=1000/\∀l,H l=none->Q (.ref l) (upd H l (.lst ((List.range n.toNat).map λ(i:Nat)=>V.int (i:Int))))):=by
 intro pins s σ H xs us Q I r h
 obtain⟨p,n,rfl,hp,h0,h1,q⟩:=h
 obtain⟨u,rfl,rx⟩:=vals1 r
 cases rx
 obtain⟨t,u,v,hr⟩:∃t u v,s.heap.get? p=some {cls:=.type "range",data:=.fields #[.int 0 t,.int n u,.int 1 v]}:=I.hok p _ hp
 have hsz:Builtin.Range.rangeSize 0 n 1=(n.toNat:Int):=by rw[rangeSize_one];split<;>omega
 refine call_list_range (I.ok.hd hc) hr (small_one (@AT) (@AT) (@AT) (@AT)) hsz (@AT) λh' tk acc c k hS hacc=>?_
 have hv:Vals ((List.range n.toNat).map λ(i:Nat)=>V.int (i:Int)) acc.toList:=by
  have key:∀(m:Nat) (us:List Value) (j:Nat),us.length=m->(∀(i:Nat) (v:Value),us[i]? =some v->∃t,v=Value.int ((j+i:Nat):Int) t)->Vals ((List.range' j m).map λ(i:Nat)=>V.int (i:Int)) us:=by
   intro m
   induction m with
   |zero=>intro us j hl _;cases us with
    |nil=>exact .nil
    |cons a b=>simp at hl
   |succ m ih=>
    intro us j hl hh
    cases us with
    |nil=>simp at hl
    |cons u us=>
     rw[Si,PL]
     refine .cons (by have:=hh 0 u rfl;simp at this;exact this) (ih us (j+1) (by simpa using hl) λi v hi=>?_)
     obtain⟨t,e⟩:=hh (i+1) v (by simpa using hi)
     exact⟨t,by rw[e];congr 2;omega⟩
  have:=key n.toNat acc.toList 0 (by simpa using hacc.1) λi v hi=>by
   obtain⟨t,e⟩:=hacc.2 i v (by simpa using hi)
   exact⟨t,by rw[e];simp⟩
  rw[List.range_eq_range'];exact this
 refine⟨.ref s.heap.objs.size,_,I.laid (t':=tk) k (Pd _) (show bE X.prog X.w _ h' _ (.lst _)from⟨by simp;rw[PX];omega,acc.toList,c,hv,by simpa using hS⟩),rfl,q _ (I.hok.fresh (Pd _))⟩
end
def Rc(h:Heap)(e:Addr)(cls:Value)(T:Addr)(fl:Value):Prop:=∃oe vs oT ts,h.get? e=some oe/\oe.cls=cls/\oe.dict=none/\oe.data=.fields vs/\vs[1]? =some (.ref T)/\vs[2]? =some .none/\T≠e/\h.get? T=some oT/\oT.data=.fields ts/\ts[3]? =some fl
abbrev Keeps(F:List Addr)(ch:List Addr)(h h':Heap):Prop:=∀b o,h.get? b=some o->b∉F->b∉ch->h'.get? b=some o
abbrev Slots(F:List Addr)(h h':Heap):Prop:=∀b o,h.get? b=some o->b∈F->∃sl,h'.get? b=some {o with slots:=sl}
section
variable {M:Model}{A:Around}{E:@B_}{s:Shared}{base:Heap}{env:Env}{outer:List Env}{L e:Addr}{cls:Value}{Q:Unit->Shared->Prop}
def K7{head:Value}{hadNext:Bool}(hfr:A.frames=some (env::outer))(hl:s.heap.FunFrames base (env::outer))(hf:env.frame=some L)(he:s.heap.get? e=some oe)(hc:oe.cls=cls)(hdd:oe.dict=none)(hd:oe.data=.fields vs)(hsz:1<vs.size)(h2:vs[2]? =some .none)
  (h:∀h' T,Keeps (nH (env::outer)) [e] s.heap h'->Slots (nH (env::outer)) s.heap h'->s.heap.get? T=none->Rc h' e cls T (rawInt L)->Q () {s with heap:=h'}) :
  wpAny M A (do let a <-frameOf env;let pl <-entryPlaceOf L hadNext;let b <-EntryCells.newEntry head a .none (rawInt L) .none pl;setField (.ref e) 1 b) Q E s:=by
 have eF:e∉nH (env::outer):=λz=>by
  let⟨_,o,q,n⟩:=hl.mem z
  rw[he]at q;cases q;exact n _ hd
 refine O8 (wpAny_frameOf_fun hfr hl hf λh1 s1=>(O8 (wpAny_entryPlaceOf λpl hpl=>?_)))
 unfold EntryCells.newEntry newFields
 refine O8 (Qx ?_ (hpl.sizeOk5 _ _ _ _ _))
 have e1:h1.get? e=some oe:=(s1.2.1 e eF).trans he
 have e2:=Pb {cls:=.type "traceback",dict:=none,data:=.fields ([head,.ref L,.none,rawInt L,.none]++(if pl.isEmpty then List.replicate 6 Value.none else pl)).toArray} e1
 have tn:h1.objs.size≠e:=RS (Po e1)
 refine Q0 e2 hd hsz (h _ h1.objs.size (λb o q hb hn=>?_) (λb o q hb=>?_) ?_ ?_)
 .have hbe:b≠e:=by simpa using hn
  have q1:h1.get? b=some o:=(s1.2.1 b hb).trans q
  rw[Qm _ _ (Ne.symm hbe)]
  exact Pb _ q1
 .let⟨sl,q1⟩:=s1.2.2 b o q
  have hbe:b≠e:=λz=>eF (z▸hb)
  refine⟨sl,?_⟩
  rw[Qm _ _ (Ne.symm hbe)]
  exact Pb _ q1
 .cases q:s.heap.get? h1.objs.size with
  |none=>rfl
  |some o=>let⟨sl,q1⟩:=s1.2.2 _ o q;exact absurd (Po q1) (Qd _)
 .have d3:=Rz hd (·.setIfInBounds 1 (Value.ref h1.objs.size))
  have e3:=PY (Obj.mapFields (·.setIfInBounds 1 (Value.ref h1.objs.size))) e2 (Sd d3)
  refine⟨_,_,_,_,e3,(Obj.cls_mapFields _ _).trans hc,?_,d3,by simp[hsz],by rw[Array.getElem?_setIfInBounds_ne (@AT)];exact h2,tn,(Qm _ _ (Ne.symm tn)).trans (Pl h1 rfl),rfl,?_⟩
  .unfold Obj.mapFields
   split<;>exact hdd
  .rcases hpl with rfl|⟨_,_,_,_,_,_,_,rfl⟩<;>simp
def CH(hfr:A.frames=some (env::outer))(hl:s.heap.FunFrames base (env::outer))(hf:env.frame=some L)(r:Rc s.heap e cls T0 .none)
  (h:∀h' T,Keeps (nH (env::outer)) [e,T0] s.heap h'->Slots (nH (env::outer)) s.heap h'->(s.heap.get? T=none\/T=T0)->Rc h' e cls T (rawInt L)->Q () {s with heap:=h'}):wpAny M A (noteFrame (.ref e) env) Q E s:=by
 let⟨oe,vs,oT,ts,he,hc,hdd,hd,h1,h2,hTe,hT,hdT,h3⟩:=r
 have tF:T0∉nH (env::outer):=λz=>by
  let⟨_,o,q,n⟩:=hl.mem z
  rw[hT]at q;cases q;exact n _ hdT
 unfold noteFrame
 simp only[hf]
 refine O8 (wpAny_field he hd h1 ?_)
 rw[Pe (show(Value.ref T0 != Value.none)=true from by simp)]
 refine O8 (wpAny_field hT hdT h3 ?_)
 rw[Pg (show ¬((Value.none==rawInt L)=true)from by simp[rawInt])]
 refine O8 (Q0 hT hdT (QF.mp h3).1 ?_)
 have oth:∀b,b≠T0->(s.heap.update T0 (Obj.mapFields (·.setIfInBounds 3 Value.none))).get? b=s.heap.get? b:=λb hb=>Qm _ _ (Ne.symm hb)
 have nf:∀b o,s.heap.get? b=some o->(∀ws,o.data≠.fields ws)->b≠T0:=λb o q n z=>by
  rw[z,hT]at q;cases q;exact n _ hdT
 refine K7 hfr (hl.of_keeps λb o q n=>⟨o,(oth b (nf b o q n)).trans q,rfl⟩) hf ((oth e (Ne.symm hTe)).trans he) hc hdd hd (QF.mp h1).1 h2 λh' T kp sl tn rc=>?_
 refine h h' T (λb o q hb hn=>?_) (λb o q hb=>?_) ?_ rc
 .simp only[Pf,Ql,Rx,not_or]at hn
  exact kp b o ((oth b hn.2).trans q) hb (by simp[hn.1])
 .exact sl b o ((oth b λz=>tF (z▸hb)).trans q) hb
 .by_cases z:T=T0
  .exact .inr z
  .exact .inl ((oth T z).symm.trans tn)
def HJ(r:Rc s.heap e cls T fl)(h:∀h',Keeps [] [T] s.heap h'->Rc h' e cls T .none->Q () {s with heap:=h'}):wpAny M A (setFlight (.ref e) none) Q E s:=by
 let⟨oe,vs,oT,ts,he,hc,hdd,hd,h1,h2,hTe,hT,hdT,h3⟩:=r
 have sz:3<ts.size:=(QF.mp h3).1
 unfold setFlight
 refine O8 (wpAny_field he hd h1 ?_)
 rw[Pe (show(Value.ref T != Value.none)=true from by simp)]
 refine Q0 hT hdT sz (h _ (λb o q _ hn=>?_) ?_)
 .have hb:b≠T:=by simpa using hn
  exact(Qm _ _ (Ne.symm hb)).trans q
 .have d3:=Rz hdT (·.setIfInBounds 3 ((none:Option Addr).elim Value.none λf=>rawInt f))
  exact⟨oe,vs,_,_,(Qm _ _ hTe).trans he,hc,hdd,hd,h1,h2,hTe,PY _ hT (Sd d3),d3,by simp[sz]⟩
end
section
variable {P:Program}{w:World}
theorem bE.there{H:Hp}(x:bE P w H h a o):∃u,h.get? a=some u:=by
 cases o with
 |lst xs=>let⟨_,_,_,_,e⟩:=x;exact⟨_,e⟩
 |tup xs=>let⟨_,_,_,u,e,_⟩:=x;exact⟨u,e⟩
 |dK kvs=>let⟨_,_,_,_,o,_,_,e,_⟩:=x;exact⟨_,e⟩
 |dT kvs ep=>let⟨_,_,_,_,o,_,e,_⟩:=x;exact⟨_,e⟩
 |set S n=>let⟨o,_,_,_,e,_⟩:=x;exact⟨_,e⟩
 |ins C dx fs=>let⟨_,_,_,e,_⟩:=x;exact⟨_,e⟩
 |own y=>let⟨_,e⟩:=x;exact⟨_,e⟩
 |xd fs=>let⟨_,⟨_,_,_,e,_⟩,_⟩:=x;exact⟨_,e⟩
 |ba lo hi=>let⟨_,_,_,e⟩:=x;exact⟨_,e⟩
 |a8 ob u=>let⟨e,_⟩:=x;exact⟨_,e⟩
 |tbl ps=>exact⟨_,show h.get? a=some _ from x⟩
 |met f y=>exact⟨_,show h.get? a=some _ from x⟩
 |ext φ=>let⟨_,⟨_,e⟩,_⟩:=x;exact⟨_,e⟩
end
structure Lies(h₀:Heap)(H:Hp)(h:Heap)(e:Addr)(cls:Value):Prop where
 free:H e=none
 new:h₀.get? e=none
 ob:∃T,Rc h e cls T .none/\H T=none/\h₀.get? T=none
def uL(P:Program)(w:World):BR:=λouter H s E e s'=>∃ea cls H',e=.ref ea/\s'.os=s.os/\AllBare s'.gens/\Un (nH outer) [] H H' s.heap s'.heap/\lO P w H' s'.heap/\Lies s.heap H' s'.heap ea cls/\E cls none H'
section
variable {P:Program}{w:World}{M:Model}{A:Around}{E':@B_}{s:Shared}{env:Env}{outer:List Env}{L e:Addr}{cls:Value}{base h₀:Heap}{H:Hp}{Q:Unit->Shared->Prop}
def DT(hok:lO P w H h)(k:∀b o,h.get? b=some o->(∃u,H b=some u)->h'.get? b=some o):lO P w H h':=λa o ha=>
 (hok a o ha).stay (λb u hb q=>k b u q (hb.elim (λz=>⟨o,by rw[z];exact ha⟩) λz=>⟨_,z⟩)) (λ_ q=>q) λ_ _ q=>q
def Ew(hfr:A.frames=some (env::outer))(hf:env.frame=some L)(hfn:s.heap.FunFrames base (env::outer))(hok:lO P w H s.heap)(hff:∀b∈nH (env::outer),H b=none)(Ly:Lies h₀ H s.heap e cls)(hex:∀b o,h₀.get? b=some o->∃o',s.heap.get? b=some o')
  (hQ:∀h',(∀b o,s.heap.get? b=some o->b∉nH (env::outer)->((∃o0,h₀.get? b=some o0)\/∃u,H b=some u)->h'.get? b=some o)->(∀b o,s.heap.get? b=some o->b∈nH (env::outer)->∃sl,h'.get? b=some {o with slots:=sl})->Lies h₀ H h' e cls->lO P w H h'->Q () {s with heap:=h'}) :
  wpAny M A (leaving env (.ref e)) Q E' s:=by
 let⟨fr,nw,T0,rc,hHT,hnT⟩:=Ly
 let⟨oe,vs,oT,ts,he,hc,hdd,hd,h1,h2,hTe,hT,hdT,h3⟩:=id rc
 have tF:T0∉nH (env::outer):=λz=>by
  let⟨_,o,q,n⟩:=hfn.mem z
  rw[hT]at q;cases q;exact n _ hdT
 unfold leaving
 refine O8 (CH hfr hfn hf rc λh4 T kp sl tn rc4=>HJ rc4 λh5 kp5 rc5=>?_)
 have nT:∀b o,s.heap.get? b=some o->b≠T0->b≠T:=λb o q n z=>by
  rcases tn with tn|tn
  .rw[z,tn]at q;cases q
  .exact n (z.trans tn)
 have kept:∀b o,s.heap.get? b=some o->b∉nH (env::outer)->((∃o0,h₀.get? b=some o0)\/∃u,H b=some u)->h5.get? b=some o:=λb o q hb hor=>by
  have be:b≠e:=λz=>by subst z;rcases hor with⟨_,z⟩|⟨_,z⟩<;>simp_all
  have bT:b≠T0:=λz=>by subst z;rcases hor with⟨_,z⟩|⟨_,z⟩<;>simp_all
  exact kp5 b o (kp b o q hb (by simp[be,bT])) (by simp) (by simp[nT b o q bT])
 have slot:∀b o,s.heap.get? b=some o->b∈nH (env::outer)->∃sl,h5.get? b=some {o with slots:=sl}:=λb o q hb=>by
  let⟨x,q4⟩:=sl b o q hb
  exact⟨x,kp5 b _ q4 (by simp) (by simp[nT b o q λz=>tF (z▸hb)])⟩
 have fresh:H T=none/\h₀.get? T=none:=by
  rcases tn with tn|tn
  .refine⟨?_,?_⟩
   .cases q:H T with
    |none=>rfl
    |some u=>let⟨o,qo⟩:=(hok T u q).there;rw[tn]at qo;cases qo
   .cases q:h₀.get? T with
    |none=>rfl
    |some u=>let⟨o,qo⟩:=hex T u q;rw[tn]at qo;cases qo
  .rw[tn];exact⟨hHT,hnT⟩
 refine hQ h5 kept slot ⟨fr,nw,T,rc5,fresh.1,fresh.2⟩ (DT hok λb o q hu=>kept b o q (λz=>?_) (.inr hu))
 let⟨u,hu⟩:=hu
 rw[hff b z]at hu;cases hu
end
section
variable {P:Program}{w:World}{K:Frag}{mg:Str->Option Value}{base:Heap}{N:List Str}{qual:Str}{scope:Scope}{f:Addr}{cd:Value}{A:Around}{outer:List Env}{s0:Shared}{H0:Hp}{E:XK}
def aQ:Passes (uL P w) (sV (uL P w) P w K mg base N qual scope f cd A outer s0 H0 E) E:=by
 intro pins σ H s e s' I hcx
 obtain⟨ea,cls,H',rfl,os,bare,un,hok,Ly,q⟩:=hcx
 have I':=I.call' os un hok bare (λb hb=>absurd hb (by simp))
 have old:∀{b:Addr},s.heap.get? b=none->s0.heap.get? b=none:=λ{b} hb=>by
  cases z:s0.heap.get? b with
  |none=>rfl
  |some o=>let⟨o',z'⟩:=I.base.there b o z (show b∉([]:List Addr) by simp);rw[hb]at z';cases z'
 have Ly0:Lies s0.heap H' s'.heap ea cls:=by
  let⟨fr,nw,T,rc,hHT,hnT⟩:=Ly
  exact⟨fr,old nw,T,rc,hHT,old hnT⟩
 have above:s0.heap.objs.size<=(envOfC qual scope s0.heap.objs.size f cd).locals:=I.ok.above
 refine Ew I'.ok.frames rfl I'.stack I'.hok I'.stkFree Ly0 (λb o z=>I'.base.there b o z (show b∉([]:List Addr) by simp)) λh' kept slot Ly' hok'=>?_
 have nL:∀{b:Addr} {o:Obj},s0.heap.get? b=some o->b∉nH outer->b∉nH (envOfC qual scope s0.heap.objs.size f cd::outer):=λ{b o} z hb hm=>by
  rcases Pf.mp (I'.stkSub b hm)with e|e
  .have:=Po z
   rw[e]at this
   exact absurd (Qa this above) (Qd _)
  .exact hb e
 have inn:∀{b:Addr},b∈nH outer->b∈nH (envOfC qual scope s0.heap.objs.size f cd::outer):=λ{b} hb=>by
  let⟨en,h1,h2⟩:=R3.mp hb
  exact R3.mpr ⟨en,Pk _ h1,h2⟩
 refine⟨ea,cls,H',rfl,os.trans I.os,bare,⟨λb o z n hb _=>?_,λb o z n hb _=>?_,λb o z n _=>I'.base.free b o z n (show b∉([]:List Addr) by simp),λb o z _=>?_,I'.base.tups,I'.base.frzs,I'.base.tbls⟩,hok',Ly',q⟩
 .exact kept b o (I'.base.keep b o z n hb (show b∉([]:List Addr) by simp)) (nL z hb) (.inl ⟨o,z⟩)
 .let⟨sl,z1⟩:=I'.base.slot b o z n hb (show b∉([]:List Addr) by simp)
  let⟨sl2,z2⟩:=slot b _ z1 (inn hb)
  exact⟨sl2,z2⟩
 .let⟨o',z1⟩:=I'.base.there b o z (show b∉([]:List Addr) by simp)
  by_cases hb:b∈nH (envOfC qual scope s0.heap.objs.size f cd::outer)
  .let⟨sl,z2⟩:=slot b o' z1 hb
   exact⟨_,z2⟩
  .exact⟨o',kept b o' z1 hb (.inl ⟨o,z⟩)⟩
end
abbrev D:=PyData
def kD:Key->D
 | .inl i=>.int i
 | .inr x=>.str x
mutual
inductive Rp(K:Frag)(G:Hp):V->D->Prop
 |non:Rp K G .non .none
 |bl (b:Bool):Rp K G (.bl b) (.bool b)
 |int (i:Int):Rp K G (.int i) (.int i)
 |str (x:Str):Rp K G (.str x) (.str x)
 |tup {a:Addr} {xs:List V} {ds:List D}:fu K G a xs->bS K G xs ds->Rp K G (.ref a) (.tuple ds)
 |lst {a:Addr} {xs:List V} {ds:List D}:G a=some (.lst xs)->bS K G xs ds->Rp K G (.ref a) (.list ds)
 |scr {a:Addr} {ns:List Int}:fU K G a (ns.map V.int)->Rp K G (.ref a) (.dict [(.none,.list (ns.map int))])
 |dK {a:Addr} {kvs:List (Key×V)} {ds:List (D×D)}:G a=some (.dK kvs)->yJ K G kvs ds->Rp K G (.ref a) (.dict ds)
 |dT {a:Addr} {kvs:List (List Key×V)} {ep:Nat} {ds:List (D×D)}:G a=some (.dT kvs ep)->mZ K G kvs ds->Rp K G (.ref a) (.dict ds)
inductive bS(K:Frag)(G:Hp):List V->List D->Prop
 |nil:bS K G [] []
 |cons {x:V} {xs:List V} {d:D} {ds:List D}:Rp K G x d->bS K G xs ds->bS K G (x::xs) (d::ds)
inductive yJ(K:Frag)(G:Hp):List (Key×V)->List (D×D)->Prop
 |one {k:Key} {x:V} {d:D}:Rp K G x d->yJ K G [(k,x)] [(kD k,d)]
 |cons {k:Key} {x:V} {xs:List (Key×V)} {d:D} {ds:List (D×D)}:Rp K G x d->yJ K G xs ds->yJ K G ((k,x)::xs) ((kD k,d)::ds)
inductive mZ(K:Frag)(G:Hp):List (List Key×V)->List (D×D)->Prop
 |nil:mZ K G [] []
 |cons {k:List Key} {x:V} {xs:List (List Key×V)} {d:D} {ds:List (D×D)}:Rp K G x d->mZ K G xs ds->mZ K G ((k,x)::xs) ((.tuple (k.map kD),d)::ds)
end
section
variable {K:Frag}{G G' H H':Hp}
def MO(h:Kt H b o)(hu:∀ps,o≠.tbl ps):H b=some o:=by
 obtain⟨u,e,k,_⟩:=h.some
 rw[e,k hu]
theorem lF(h:Kt H b u)(hb:b≠a)(ha:∀x y,H a≠some (.a8 x y)):Kt (upd H a o) b u:=by
 cases u with
 |tbl ps=>
  obtain⟨m,e,t,k⟩:=h
  refine⟨m,by rw[av hb];exact e,t,λc hc=>?_⟩
  obtain⟨x,ex,ix⟩:=k c hc
  exact⟨x,by rw[av (λz=>ha x _ (z▸ex))];exact ex,ix⟩
 |_=>exact(av hb).trans h
def Rd.mono(h:Rd G a u)(s:ao G G')(hu:∀ps,u≠.tbl ps:=by intro _ z;cases z):Rd G' a u:=h.elim (λe=>.inl (MO (s _ _ e) hu)) λ⟨o,e⟩=>.inr ⟨o,s _ _ e⟩
mutual
theorem Rp.mono(s:ao G G'):∀{x:V} {d:D},Rp K G x d->Rp K G' x d
 |_,_,.non=>.non
 |_,_,.bl b=>.bl b
 |_,_,.int i=>.int i
 |_,_,.str x=>.str x
 |_,_,.tup h hs=>.tup (h.grow s.grow) (bS.mono s hs)
 |_,_,.lst h hs=>.lst (s _ _ h) (bS.mono s hs)
 |_,_,.scr h=>.scr (s.seq h)
 |_,_,.dK h hs=>.dK (s _ _ h) (yJ.mono s hs)
 |_,_,.dT h hs=>.dT (s _ _ h) (mZ.mono s hs)
theorem bS.mono(s:ao G G'):∀{xs:List V} {ds:List D},bS K G xs ds->bS K G' xs ds
 |_,_,.nil=>.nil
 |_,_,.cons h hs=>.cons (Rp.mono s h) (bS.mono s hs)
theorem yJ.mono(s:ao G G'):∀{xs:List (Key×V)} {ds:List (D×D)},yJ K G xs ds->yJ K G' xs ds
 |_,_,.one h=>.one (Rp.mono s h)
 |_,_,.cons h hs=>.cons (Rp.mono s h) (yJ.mono s hs)
theorem mZ.mono(s:ao G G'):∀{xs:List (List Key×V)} {ds:List (D×D)},mZ K G xs ds->mZ K G' xs ds
 |_,_,.nil=>.nil
 |_,_,.cons h hs=>.cons (Rp.mono s h) (mZ.mono s hs)
end
theorem bS.len:∀{xs:List V} {ds:List D},bS K G xs ds->xs.length=ds.length
 |_,_,.nil=>rfl
 |_,_,.cons _ t=>by simp[bS.len t]
theorem bS.at:∀{xs:List V} {ds:List D} {i:Nat} {d:D},bS K G xs ds->ds[i]? =some d->∃x,xs[i]? =some x/\Rp K G x d
 |_,_,_,_,.nil,e=>by simp at e
 |_,_,0,_,.cons r _,e=>by simp at e;subst e;exact⟨_,rfl,r⟩
 |_,_,i+1,x,.cons _ t,e=>by
  obtain⟨u,h1,h2⟩:=bS.at (i:=i) (d:=x) t (by simpa using e)
  exact⟨u,by simpa using h1,h2⟩
theorem bS.at':∀{xs:List V} {ds:List D} {i:Nat} {x:V},bS K G xs ds->xs[i]? =some x->∃d,ds[i]? =some d/\Rp K G x d
 |_,_,_,_,.nil,e=>by simp at e
 |_,_,0,_,.cons r _,e=>by simp at e;subst e;exact⟨_,rfl,r⟩
 |_,_,i+1,x,.cons _ t,e=>by
  obtain⟨u,h1,h2⟩:=bS.at' (i:=i) (x:=x) t (by simpa using e)
  exact⟨u,by simpa using h1,h2⟩
theorem bS.append:∀{xs ys:List V} {ds es:List D},bS K G xs ds->bS K G ys es->bS K G (xs++ys) (ds++es)
 |_,_,_,_,.nil,s=>s
 |_,_,_,_,.cons r t,s=>.cons r (bS.append t s)
def bS.snoc(h:bS K G xs ds)(q:Rp K G x d):bS K G (xs++[x]) (ds++[d]):=h.append (.cons q .nil)
theorem bS.take:∀{xs:List V} {ds:List D} (n:Nat),bS K G xs ds->bS K G (xs.take n) (ds.take n)
 |_,_,0,_=>.nil
 |_,_,_+1,.nil=>.nil
 |_,_,n+1,.cons r t=>.cons r (bS.take n t)
theorem bS.drop:∀{xs:List V} {ds:List D} (n:Nat),bS K G xs ds->bS K G (xs.drop n) (ds.drop n)
 |_,_,0,r=>r
 |_,_,_+1,.nil=>.nil
 |_,_,n+1,.cons _ t=>bS.drop n t
theorem bS.set(r:Rp K G x d):∀{xs:List V} {ds:List D} (i:Nat),bS K G xs ds->bS K G (xs.set i x) (ds.set i d)
 |_,_,_,.nil=>.nil
 |_,_,0,.cons _ t=>.cons r t
 |_,_,i+1,.cons q t=>.cons q (bS.set r i t)
theorem bS.rep(h:bS K G xs ds):bS K G (List.replicate n xs).flatten (List.replicate n ds).flatten:=by
 induction n with
 |zero=>exact .nil
 |succ n ih=>rw[QC,QC,Ro,Ro];exact h.append ih
mutual
def DK:D->Bool
 | .dict _=>false
 | .list ds=>sY ds
 | .tuple ds=>sY ds
 |_=>true
def sY:List D->Bool
 | []=>true
 |d::ds=>DK d&&sY ds
end
mutual
theorem Rp.rep:∀{x:V} {d:D},Rp K G x d->DK d=true->Rep K G x d
 |_,_,.non,_=>.non
 |_,_,.bl b,_=>.bl b
 |_,_,.int i,_=>.int i
 |_,_,.str x,_=>.str x
 |_,_,.tup h hs,e=>.tup h (bS.reps hs (by simpa[DK]using e))
 |_,_,.lst h hs,e=>.lst (.inl (.inl h)) (bS.reps hs (by simpa[DK]using e))
 |_,_,.scr _,e=>by simp[DK]at e
 |_,_,.dK _ _,e=>by simp[DK]at e
 |_,_,.dT _ _,e=>by simp[DK]at e
theorem bS.reps:∀{xs:List V} {ds:List D},bS K G xs ds->sY ds=true->lJ K G xs ds
 |_,_,.nil,_=>.nil
 |_,_,.cons h hs,e=>.cons (Rp.rep h (by simp[sY]at e;exact e.1)) (bS.reps hs (by simp[sY]at e;exact e.2))
end
def Own(K:Frag)(G H:Hp)(a:Addr):D->Prop
 | .list ds=>∃xs,H a=some (.lst xs)/\bS K G xs ds
 | .dict ds=>(∃kvs,H a=some (.dK kvs)/\yJ K G kvs ds)\/∃q:List (List Key×V)×Nat,H a=some (.dT q.1 q.2)/\mZ K G q.1 ds
 |_=>False
def Own.obj(h:Own K G H a d):∃o,H a=some o:=by
 cases d<;>first|exact h.elim|skip
 ·obtain⟨xs,e,_⟩:=h;exact⟨_,e⟩
 ·rcases h with⟨_,e,_⟩|⟨_,e,_⟩<;>exact⟨_,e⟩
def Own.mono(h:Own K G H a d)(s:ao G G')(m:∀o,H a=some o->Kt H' a o):Own K G' H' a d:=by
 cases d<;>first|exact h.elim|skip
 ·obtain⟨xs,e,r⟩:=h;exact⟨xs,m _ e,r.mono s⟩
 ·rcases h with⟨k,e,r⟩|⟨k,e,r⟩
  ·exact .inl ⟨k,m _ e,r.mono s⟩
  ·exact .inr ⟨k,m _ e,r.mono s⟩
def Own.rp(h:Own K G H a d)(n:G a=none){G':Hp}(s:ao G G')(e:∀o,H a=some o->G' a=some o):Rp K G' (.ref a) d:=by
 cases d<;>first|exact h.elim|skip
 ·obtain⟨xs,q,r⟩:=h;exact .lst (e _ q) (r.mono s)
 ·rcases h with⟨k,q,r⟩|⟨k,q,r⟩
  ·exact .dK (e _ q) (r.mono s)
  ·exact .dT (e _ q) (r.mono s)
def lg(K:Frag)(B:Option Addr)(G H:Hp)(v:V)(d:D):Prop:=Rp K G v d\/∃a,v=.ref a/\B≠some a/\Own K G H a d
def iK(B:Option Addr)(H H':Hp):Prop:=(∀b o,H b=some o->B≠some b->Kt H' b o)/\∀b o u,H b=some (.a8 o u)->H' b=some (.a8 o u)
def iK.refl(B:Option Addr)(H:Hp):iK B H H:=⟨λ_ _ h _=>Kt.of h,λ_ _ _ h=>h⟩
theorem y6{B:Option Addr}(h1:Kt H b o)(y:iK B H H')(n:B≠some b):Kt H' b o:=by
 cases o with
 |tbl ps=>
  obtain⟨m,e,t,k⟩:=h1
  obtain⟨m2,e2,t2,k2⟩:=y.1 b _ e n
  refine⟨m++m2,by rw[e2,Array.append_assoc],by rw[Sr];exact t.app t2,λc hc=>?_⟩
  rw[Sr,Pz]at hc
  rcases hc with hc|hc
  ·obtain⟨o,eo,io⟩:=k c hc;exact⟨o,y.2 c _ _ eo,io⟩
  ·exact k2 c hc
 |_=>exact y.1 b _ h1 n
def iK.trans{B:Option Addr}(x:iK B H H1)(y:iK B H1 H'):iK B H H':=⟨λb o h n=>y6 (x.1 b o h n) y n,λb o u h=>y.2 b o u (x.2 b o u h)⟩
def ao.mov(s:ao H H')(B:Option Addr):iK B H H':=⟨λb o h _=>s b o h,λb o u h=>s b _ h⟩
def lg.mono{B:Option Addr}(h:lg K B G H v d)(s:ao G G')(m:iK B H H'):lg K B G' H' v d:=by
 rcases h with h|⟨a,e,n,h⟩
 ·exact .inl (h.mono s)
 ·exact .inr ⟨a,e,n,h.mono s λo q=>m.1 a o q n⟩
def lg.rpH{B:Option Addr}(h:lg K B G H v d)(s:ao G H):Rp K H v d:=by
 rcases h with h|⟨a,rfl,n,h⟩
 ·exact h.mono s
 ·cases d<;>first|exact h.elim|skip
  ·obtain⟨xs,q,r⟩:=h;exact .lst q (r.mono s)
  ·rcases h with⟨k,q,r⟩|⟨k,q,r⟩
   ·exact .dK q (r.mono s)
   ·exact .dT q (r.mono s)
def lg.list{B:Option Addr}(h:lg K B G H v (.list ds))(s:ao G H):∃a xs,v=.ref a/\Rd H a (.lst xs)/\bS K G xs ds:=by
 rcases h with h|⟨a,rfl,n,xs,q,r⟩
 ·cases h with
  |lst h r=>exact⟨_,_,rfl,.inl (s _ _ h),r⟩
 ·exact⟨a,xs,rfl,.inl q,r⟩
def lg.tuple{B:Option Addr}(h:lg K B G H v (.tuple ds))(s:ao G H):∃a xs,v=.ref a/\fu K H a xs/\bS K G xs ds:=by
 rcases h with h|⟨a,rfl,n,h⟩
 ·cases h with
  |tup h r=>exact⟨_,_,rfl,h.grow s.grow,r⟩
 ·exact h.elim
def lg.int{B:Option Addr}(h:lg K B G H v (.int i)):v=.int i:=by
 rcases h with h|⟨a,rfl,n,h⟩
 ·cases h;rfl
 ·exact h.elim
def lg.bool{B:Option Addr}(h:lg K B G H v (.bool b)):v=.bl b:=by
 rcases h with h|⟨a,rfl,n,h⟩
 ·cases h;rfl
 ·exact h.elim
def lg.str{B:Option Addr}(h:lg K B G H v (.str x)):v=.str x:=by
 rcases h with h|⟨a,rfl,n,h⟩
 ·cases h;rfl
 ·exact h.elim
def lg.none{B:Option Addr}(h:lg K B G H v .none):v=.non:=by
 rcases h with h|⟨a,rfl,n,h⟩
 ·cases h;rfl
 ·exact h.elim
end
def Fz:HO->Prop
 | .tup _=>True
 | .a8 _ _=>True
 |_=>False
def Mx(H:Hp)(b:Addr):Prop:=H b≠none/\∀o,H b=some o->¬Fz o
def Mx.lst{H:Hp}(h:H b=some (.lst xs)):Mx H b:=⟨by rw[h];simp,λys z=>by rw[h]at z;cases z;exact λy=>y⟩
theorem Mx.same{H H':Hp}(h:Mx H b)(m:∀o,H b=some o->Kt H' b o):Mx H' b:=by
 let⟨h1,h2⟩:=h
 cases e:H b with
 |none=>exact absurd e h1
 |some o=>
  let⟨u,eu,k1,k2⟩:=(m o e).some
  refine⟨by rw[eu];simp,λxs z=>?_⟩
  rw[eu]at z
  cases z
  by_cases c:∃ps,o=.tbl ps
  .let⟨ps,e⟩:=k2 c;rw[e];exact λy=>y
  .rw[k1 λps e=>c ⟨ps,e⟩];exact h2 o e
def Own.mx{K:Frag}{G H:Hp}(h:Own K G H a d):Mx H a:=by
 cases d<;>first|exact h.elim|skip
 .let⟨xs,e,_⟩:=h;exact Mx.lst e
 .rcases h with⟨k,e,_⟩|⟨k,e,_⟩<;>exact⟨by rw[e];simp,λys z=>by rw[e]at z;cases z;exact λy=>y⟩
open Classical in
noncomputable def jc(G H:Hp):Hp:=λb=>match G b with
 |some o=>some o
 |none=>match H b with
  |some o=>if Fz o then some o else none
  |none=>none
def pf{G H:Hp}:ao G (jc G H):=λb o e=>Kt.of (by unfold jc;rw[e])
theorem Bn{G H:Hp}(s:ao G H)(e:H b=some o)(f:Fz o):jc G H b=some o:=by
 unfold jc
 cases q:G b with
 |some u=>
  let⟨u',eu,k1,k2⟩:=(s b u q).some
  rw[e]at eu
  cases eu
  by_cases c:∃ps,u=.tbl ps
  .let⟨ps,z⟩:=k2 c;subst z;exact f.elim
  .rw[k1 λps z=>c ⟨ps,z⟩]
 |none=>simp only[e];rw[Pe f]
theorem wD{G H:Hp}(s:ao G H):ao (jc G H) H:=λb o e=>by
 unfold jc at e
 cases q:G b with
 |some u=>rw[q]at e;cases e;exact s b _ q
 |none=>
  rw[q]at e
  cases q2:H b with
  |none=>rw[q2]at e;cases e
  |some u=>
   rw[q2]at e
   dsimp only at e
   split at e
   .cases e;exact Kt.of q2
   .cases e
theorem A9{G H H':Hp}(hh:ao H H')(m:Mx H b):jc G H' b=G b:=by
 unfold jc
 cases q:G b with
 |some u=>rfl
 |none=>
  let⟨h1,h2⟩:=m
  cases e:H b with
  |none=>exact absurd e h1
  |some o=>
   have hm:=(show Mx H b from⟨h1,h2⟩).same (hh b)
   cases e2:H' b with
   |none=>rfl
   |some u=>simp only;rw[Pg (hm.2 u e2)]
def i6{K:Frag}{G H:Hp}(s:ao G H)(h:fu K H a xs):fu K (jc G H) a xs:=by
 rcases h with(h|⟨o,h⟩)|h
 .exact .inl (.inl (Bn s h trivial))
 .exact .inl (.inr ⟨o,Bn s h trivial⟩)
 .exact .inr h
structure Fx where
 K:Frag
 H0:Hp
 G0:Hp
 par:List Addr
 ca:Str->Addr
 br:Nat->Bool
 bx:Option Addr
inductive Sl where
 |no|fz (d:D)|ow (d:D)|bx|br (d:D)
abbrev En:=List Sl
inductive Nv where
 |no|da (d:D)|bx
def Sl.val:Sl->Nv
 | .no=>.no
 | .fz d=>.da d
 | .ow d=>.da d
 | .br d=>.da d
 | .bx=>.bx
def vl(env:En):List Nv:=env.map Sl.val
def NM(Γ:Fx)(B:Option Addr)(G H:Hp)(i:Nat)(o:Option (Option V)):Sl->Prop
 | .no=>True
 | .fz d=>∃v,o=some (some v)/\Rp Γ.K G v d
 | .ow d=>∃a,o=some (some (.ref a))/\Γ.H0 a=none/\G a=none/\B≠some a/\Own Γ.K G H a d
 | .bx=>∃a,o=some (some (.ref a))/\B=some a
 | .br d=>Γ.br i=true/\∃a,o=some (some (.ref a))/\B≠some a/\a∉Γ.par/\Own Γ.K G H a d
structure SR(Γ:Fx)(B:Option Addr)(G H:Hp)(σ:St)(env:En)(β:Int):Prop where
 sub:ao G H
 old:ao Γ.G0 G
 new:∀b,Mx Γ.H0 b->Γ.G0 b=none->G b=none
 keep:∀b o,Γ.H0 b=some o->b∉Γ.par->Kt H b o
 pin:∀b,b∈Γ.par->Mx H b
 fix:∀b,Γ.bx=some b->B=some b
 box:∀b,B=some b->H b=some (.lst [.int β])/\G b=none/\(b∈Γ.par\/Γ.H0 b=none)
 len:σ.length=env.length
 slot:∀(i:Nat) (s:Sl),env[i]? =some s->NM Γ B G H i (σ[i]?) s
 sep:∀(i j:Nat) (a:Addr) (d e:D),env[i]? =some (.ow d)->env[j]? =some (.ow e)->σ[i]? =some (some (.ref a))->σ[j]? =some (some (.ref a))->i=j
structure Ext(G H G' H':Hp):Prop where
 hh:ao H H'
 gg:ao G G'
 gh:ao G' H'
 on:∀b,Mx H b->G' b=G b
def Ext.refl{G H:Hp}(s:ao G H):Ext G H G H:=⟨ao.refl _,ao.refl _,s,λ_ _=>rfl⟩
def Ext.tups{G H H':Hp}(s:ao G H)(hh:ao H H'):Ext G H (jc G H') H':=⟨hh,pf,wD (s.trans hh),λ_ m=>A9 hh m⟩
def Ext.new{G H:Hp}(s:ao G H)(h:H p=none):Ext G H (upd G p o) (upd H p o):=by
 refine⟨ao.new h,ao.new (s.free h),λb u e=>?_,λb hb=>?_⟩
 .by_cases z:b=p
  .subst z;rw[au]at e;exact Kt.of (by rw[au];exact e)
  .rw[av z]at e;exact lF (s b u e) z (λx y w=>by rw[h]at w;cases w)
 .exact av (λz=>hb.1 (by rw[z];exact h))
def Ext.own{G H:Hp}(s:ao G H)(h:H p=none):Ext G H G (upd H p o):=
 ⟨ao.new h,ao.refl _,s.trans (ao.new h),λ_ _=>rfl⟩
def Ext.trans{G H G1 H1 G2 H2:Hp}(x:Ext G H G1 H1)(y:Ext G1 H1 G2 H2):Ext G H G2 H2:=by
 refine⟨x.hh.trans y.hh,x.gg.trans y.gg,y.gh,λb hb=>?_⟩
 rw[y.on b (hb.same λo e=>x.hh b o e),x.on b hb]
section
variable {Γ:Fx}{B:Option Addr}{G H G' H':Hp}{σ:St}{env:En}{β:Int}
def SR.there(I:SR Γ B G H σ env β)(h:Γ.H0 b≠none):H b≠none:=by
 by_cases hp:b∈Γ.par
 .exact (I.pin b hp).1
 .cases e:Γ.H0 b with
  |none=>exact absurd e h
  |some o=>let⟨u,eu,_⟩:=(I.keep b o e hp).some;rw[eu];simp
def SR.thereM(I:SR Γ B G H σ env β)(h:Mx Γ.H0 b):Mx H b:=by
 by_cases hp:b∈Γ.par
 .exact I.pin b hp
 .exact h.same λo e=>I.keep b o e hp
def SR.ext(I:SR Γ B G H σ env β)(x:Ext G H G' H'):SR Γ B G' H' σ env β:=by
 refine⟨x.gh,I.old.trans x.gg,λb h1 h2=>?_,λb o h1 h2=>(I.keep b o h1 h2).step x.hh,λb hb=>?_,I.fix,λb e=>?_,I.len,λi s e=>?_,I.sep⟩
 .rw[x.on b (I.thereM h1)];exact I.new b h1 h2
 .exact (I.pin b hb).same λo e=>x.hh b o e
 .let⟨h1,h2,h3⟩:=I.box b e
  exact⟨x.hh b _ h1,by rw[x.on b (Mx.lst h1)];exact h2,h3⟩
 .have q:=I.slot i s e
  cases s with
  |no=>trivial
  |fz d=>let⟨v,h1,h2⟩:=q;exact⟨v,h1,h2.mono x.gg⟩
  |ow d=>
   let⟨a,h1,h2,h3,h4,h5⟩:=q
   exact⟨a,h1,h2,by rw[x.on a h5.mx];exact h3,h4,h5.mono x.gg λo q=>x.hh a o q⟩
  |bx=>exact q
  |br d=>let⟨b1,a,h1,h4,hp,h5⟩:=q;exact⟨b1,a,h1,h4,hp,h5.mono x.gg λo q=>x.hh a o q⟩
def jV(env:En)(i:Nat):En:=match env[i]? with
 |some (.ow d)=>env.set i (.fz d)
 |_=>env
def a8(L:List Nat)(env:En):En:=L.foldl jV env
def b8(L M:List Nat)(env:En):a8 (L++M) env=a8 M (a8 L env):=by unfold a8;rw[List.foldl_append]
def yD(env:En)(i:Nat)(s:Sl)(h:∀t,env[i]? =some t->t.val=s.val):vl (env.set i s)=vl env:=by
 unfold vl
 apply RK
 intro j
 rw[Pt,Pt,List.getElem?_set]
 by_cases e:i=j
 .subst e
  by_cases hi:i<env.length
  .simp only[Qn,hi]
   have:=h _ (O9 hi)
   simp[O9 hi,this]
  .simp only[Qn,hi,Qb]
   rw[Qq (@AT)]
 .simp[e]
def Hy(env:En)(i:Nat):vl (jV env i)=vl env:=by
 unfold jV
 split
 .rename_i d e
  exact yD _ _ _ λt ht=>by rw[e]at ht;cases ht;rfl
 .rfl
theorem fB(L:List Nat)(env:En):vl (a8 L env)=vl env:=by
 unfold a8
 induction L generalizing env with
 |nil=>rfl
 |cons i L ih=>rw[Rk,ih,Hy]
theorem Jl{i:Nat}{d:D}(h:(vl env)[i]? =some (.da d)):env[i]? =some (.fz d)\/env[i]? =some (.ow d)\/env[i]? =some (.br d):=by
 unfold vl at h
 rw[Pt]at h
 cases e:env[i]? with
 |none=>rw[e]at h;simp at h
 |some s=>
  rw[e]at h
  cases s with
  |no=>simp[Sl.val]at h
  |fz d'=>simp[Sl.val]at h;subst h;exact .inl rfl
  |ow d'=>simp[Sl.val]at h;subst h;exact .inr (.inl rfl)
  |bx=>simp[Sl.val]at h
  |br d'=>simp[Sl.val]at h;subst h;exact .inr (.inr rfl)
theorem Mc{i:Nat}(h:(vl env)[i]? =some .bx):env[i]? =some .bx:=by
 unfold vl at h
 rw[Pt]at h
 cases e:env[i]? with
 |none=>rw[e]at h;simp at h
 |some s=>
  rw[e]at h
  cases s with
  |bx=>rfl
  |_=>simp[Sl.val]at h
def SR.freeze(I:SR Γ B G H σ env β)(i:Nat)(hb:Γ.br i=false){d:D}(h:(vl env)[i]? =some (.da d)):∃G' v,SR Γ B G' H σ (jV env i) β/\ao G G'/\σ[i]? =some (some v)/\Rp Γ.K G' v d:=by
 rcases Jl h with e|e|e
 .let⟨v,h1,h2⟩:=I.slot i _ e
  exact⟨G,v,by unfold jV;rw[e];exact I,ao.refl _,h1,h2⟩
 rotate_left
 .let⟨z,_⟩:=I.slot i _ e
  rw[hb]at z;cases z
 .let⟨a,h1,h2,h3,h4,h5⟩:=I.slot i _ e
  let⟨o,ho⟩:=h5.obj
  have sG:ao G (upd G a o):=ao.new h3
  have hi:i<env.length:=(Pw.mp e).1
  have hr:Rp Γ.K (upd G a o) (.ref a) d:=h5.rp h3 sG λo' q=>by rw[ho]at q;cases q;exact au
  refine⟨upd G a o,.ref a,?_,sG,h1,hr⟩
  unfold jV
  rw[e]
  refine⟨λb u q=>?_,I.old.trans sG,λb n1 n2=>?_,I.keep,I.pin,I.fix,λb q=>?_,by rw[QM];exact I.len,λj s q=>?_,λj k c d1 d2 q1 q2 q3 q4=>?_⟩
  .by_cases z:b=a
   .subst z;rw[au]at q;cases q;exact Kt.of ho
   .rw[av z]at q;exact I.sub b u q
  .rw[av (λz=>n1.1 (by rw[z];exact h2))];exact I.new b n1 n2
  .let⟨k1,k2,k3⟩:=I.box b q
   exact⟨k1,by rw[av (λz=>h4 (by rw[<-z];exact q))];exact k2,k3⟩
  .by_cases z:j=i
   .subst z
    rw[PQ hi]at q
    cases q
    exact⟨.ref a,h1,hr⟩
   .rw[PH (Ne.symm z)]at q
    have w:=I.slot j s q
    cases s with
    |no=>trivial
    |fz d'=>let⟨v,w1,w2⟩:=w;exact⟨v,w1,w2.mono sG⟩
    |ow d'=>
     let⟨c,w1,w2,w3,w4,w5⟩:=w
     have ca:c≠a:=λz2=>z (I.sep j i c d' d q e w1 (by rw[z2];exact h1))
     exact⟨c,w1,w2,by rw[av ca];exact w3,w4,w5.mono sG λo q=>Kt.of q⟩
    |bx=>exact w
    |br d'=>let⟨b1,c,w1,w4,wp,w5⟩:=w;exact⟨b1,c,w1,w4,wp,w5.mono sG λo q=>Kt.of q⟩
  .have ne:∀{j:Nat} {d':D},(env.set i (Sl.fz d))[j]? =some (.ow d')->env[j]? =some (.ow d'):=λ{j d'} q=>by
    by_cases z:j=i
    .subst z;rw[PQ hi]at q;cases q
    .rw[PH (Ne.symm z)]at q;exact q
   exact I.sep j k c d1 d2 (ne q1) (ne q2) q3 q4
theorem SR.a8(I:SR Γ B G H σ env β)(L:List Nat)(hb:∀i,i∈L->Γ.br i=false):∃G',SR Γ B G' H σ (a8 L env) β/\ao G G':=by
 induction L generalizing env G with
 |nil=>exact⟨G,I,ao.refl _⟩
 |cons i L ih=>
  show ∃G',SR Γ B G' H σ (L2.a8 L (jV env i)) β/\ao G G'
  have key:∃G1,SR Γ B G1 H σ (jV env i) β/\ao G G1:=by
   cases e:env[i]? with
   |none=>exact⟨G,by unfold jV;rw[e];exact I,ao.refl _⟩
   |some s=>
    cases s with
    |ow d=>
     obtain⟨G1,v,h1,h2,_⟩:=I.freeze i (hb i (Pq ..)) (d:=d) (by unfold vl;rw[Pt,e];rfl)
     exact⟨G1,h1,h2⟩
    |_=>exact⟨G,by unfold jV;rw[e];exact I,ao.refl _⟩
  obtain⟨G1,I1,s1⟩:=key
  obtain⟨G2,I2,s2⟩:=ih I1 λj hj=>hb j (Pk _ hj)
  exact⟨G2,I2,s1.trans s2⟩
def SR.set(I:SR Γ B G H σ env β)(hi:i<env.length)(h:Rp Γ.K G v d):SR Γ B G H (σ.set i (some v)) (env.set i (.fz d)) β:=by
 have hs:i<σ.length:=by rw[I.len];exact hi
 refine⟨I.sub,I.old,I.new,I.keep,I.pin,I.fix,I.box,by rw[QM,QM];exact I.len,λj s q=>?_,λj k c d1 d2 q1 q2 q3 q4=>?_⟩
 .by_cases z:j=i
  .subst z
   rw[PQ hi]at q
   cases q
   exact⟨v,by rw[PQ hs],h⟩
  .rw[PH (Ne.symm z)]at q ⊢
   exact I.slot j s q
 .have ne:∀{j:Nat} {d':D},(env.set i (Sl.fz d))[j]? =some (.ow d')->j≠i/\env[j]? =some (.ow d'):=λ{j d'} q=>by
   by_cases z:j=i
   .subst z;rw[PQ hi]at q;cases q
   .rw[PH (Ne.symm z)]at q;exact⟨z,q⟩
  let⟨n1,e1⟩:=ne q1
  let⟨n2,e2⟩:=ne q2
  rw[PH (Ne.symm n1)]at q3
  rw[PH (Ne.symm n2)]at q4
  exact I.sep j k c d1 d2 e1 e2 q3 q4
def SR.setOw(I:SR Γ B G H σ env β)(hi:i<env.length)(h0:Γ.H0 a=none)(hg:G a=none)(hb:B≠some a)(h:Own Γ.K G H a d)(hn:∀(j:Nat) (d':D),env[j]? =some (.ow d')->j≠i->σ[j]?≠some (some (.ref a))):SR Γ B G H (σ.set i (some (.ref a))) (env.set i (.ow d)) β:=by
 have hs:i<σ.length:=by rw[I.len];exact hi
 refine⟨I.sub,I.old,I.new,I.keep,I.pin,I.fix,I.box,by rw[QM,QM];exact I.len,λj s q=>?_,λj k c d1 d2 q1 q2 q3 q4=>?_⟩
 .by_cases z:j=i
  .subst z
   rw[PQ hi]at q
   cases q
   exact⟨a,by rw[PQ hs],h0,hg,hb,h⟩
  .rw[PH (Ne.symm z)]at q ⊢
   exact I.slot j s q
 .by_cases z1:j=i
  .by_cases z2:k=i
   .rw[z1,z2]
   .subst z1
    rw[PH (Ne.symm z2)]at q2 q4
    rw[PQ hs]at q3
    cases q3
    exact absurd q4 (hn k d2 q2 z2)
  .by_cases z2:k=i
   .subst z2
    rw[PH (Ne.symm z1)]at q1 q3
    rw[PQ hs]at q4
    cases q4
    exact absurd q3 (hn j d1 q1 z1)
   .rw[PH (Ne.symm z1)]at q1 q3
    rw[PH (Ne.symm z2)]at q2 q4
    exact I.sep j k c d1 d2 q1 q2 q3 q4
def SR.fresh(I:SR Γ B G H σ env β)(h:H a=none):Γ.H0 a=none/\G a=none/\B≠some a/\∀(j:Nat) (d:D),env[j]? =some (.ow d)->σ[j]?≠some (some (.ref a)):=by
 have hB:B≠some a:=λz=>by rw[(I.box a z).1]at h;cases h
 refine⟨?_,I.sub.free h,hB,λj d e z=>?_⟩
 .cases e:Γ.H0 a with
  |none=>rfl
  |some o=>exact absurd h (I.there (by rw[e];simp))
 .let⟨c,h1,_,_,_,h5⟩:=I.slot j _ e
  rw[z]at h1
  cases h1
  let⟨o,ho⟩:=h5.obj
  rw[h]at ho;cases ho
def SR.write(I:SR Γ B G H σ env β)(hb:∀j,Γ.br j=false)(e:env[i]? =some (.ow d))(ea:σ[i]? =some (some (.ref a)))(h:∀H',H' a=some o->ao G H'->Own Γ.K G H' a d'):SR Γ B G (upd H a o) σ (env.set i (.ow d')) β:=by
 let⟨a',h1,h2,h3,h4,h5⟩:=I.slot i _ e
 rw[ea]at h1;cases h1
 have hi:i<env.length:=(Pw.mp e).1
 have ha:∀x y,H a≠some (.a8 x y):=λx y w=>h5.mx.2 _ w trivial
 have sub:ao G (upd H a o):=λb u q=>lF (I.sub b u q) (λz=>by rw[z,h3]at q;cases q) ha
 refine⟨sub,I.old,I.new,λb u q n=>?_,λb q=>?_,I.fix,λb q=>?_,by rw[QM];exact I.len,λj s q=>?_,λj k c d1 d2 q1 q2 q3 q4=>?_⟩
 .exact lF (I.keep b u q n) (λz=>by rw[z,h2]at q;cases q) ha
 .by_cases z:b=a
  .subst z;exact(h _ au sub).mx
  .exact (I.pin b q).same λo e=>Kt.of (by rw[av z];exact e)
 .let⟨k1,k2,k3⟩:=I.box b q
  exact⟨by rw[av (λz=>h4 (by rw[<-z];exact q))];exact k1,k2,k3⟩
 .by_cases z:j=i
  .subst z
   rw[PQ hi]at q
   cases q
   exact⟨a,ea,h2,h3,h4,h _ au sub⟩
  .rw[PH (Ne.symm z)]at q
   have w:=I.slot j s q
   cases s with
   |no=>trivial
   |fz d1=>exact w
   |ow d1=>
    let⟨c,w1,w2,w3,w4,w5⟩:=w
    have ca:c≠a:=λz2=>z (I.sep j i c d1 d q e w1 (by rw[z2];exact ea))
    exact⟨c,w1,w2,w3,w4,w5.mono (ao.refl _) λo q=>Kt.of (by rw[av ca];exact q)⟩
   |bx=>exact w
   |br d1=>let⟨b1,_⟩:=w;rw[hb j]at b1;cases b1
 .have back:∀{j:Nat} {d1:D},(env.set i (Sl.ow d'))[j]? =some (.ow d1)->∃d2,env[j]? =some (.ow d2):=λ{j d1} q=>by
   by_cases z:j=i
   .subst z;exact⟨d,e⟩
   .rw[PH (Ne.symm z)]at q;exact⟨d1,q⟩
  let⟨_,b1⟩:=back q1
  let⟨_,b2⟩:=back q2
  exact I.sep j k c _ _ b1 b2 q3 q4
end
inductive R(α:Type) where
 |ok (a:α) (β:Int)
 |exc (c:Str)
 |bad
def R.bnd{α γ:Type}(r:R α)(k:α->Int->R γ):R γ:=match r with
 | .ok a β=>k a β
 | .exc c=>.exc c
 | .bad=>.bad
def R.of{α:Type}(o:Option α)(β:Int):R α:=match o with
 |some a=>.ok a β
 |none=>.bad
abbrev VF(α:Type):=List Nv->Int->R α
def Kp(Γ:Fx)(H':Hp):Prop:=∀b o,Γ.H0 b=some o->b∉Γ.par->Kt H' b o
def Out{α:Type}(Γ:Fx)(E:XK)(r:R α)(P:α->Int->Prop):Prop:=match r with
 | .ok a β=>P a β
 | .exc c=>∀H',Kp Γ H'->E (.ref (Γ.ca c)) none H'
 | .bad=>False
section
variable {α γ:Type}{Γ:Fx}{E:XK}
theorem Out.bnd{k:α->Int->R γ}{P:γ->Int->Prop}(h:Out Γ E (r.bnd k) P):Out Γ E r λa β=>Out Γ E (k a β) P:=by
 cases r with
 |ok a β=>exact h
 |exc c=>exact h
 |bad=>exact h
theorem Out.imp{P P':α->Int->Prop}(h:Out Γ E r P)(i:∀a β,P a β->P' a β):Out Γ E r P':=by
 cases r with
 |ok a β=>exact i a β h
 |exc c=>exact h
 |bad=>exact h
theorem Out.of{P:α->Int->Prop}(h:Out Γ E (R.of o β) P):∃a,o=some a/\P a β:=by
 cases o with
 |none=>exact h.elim
 |some a=>exact⟨a,rfl,h⟩
end
inductive Md where
 |b|v|w
def VO(K:Frag)(B:Option Addr)(H G' H':Hp):Md->D->V->Prop
 | .b,d,v=>lg K B G' H' v d
 | .v,d,v=>Rp K G' v d
 | .w,d,v=>∃a,v=.ref a/\H a=none/\G' a=none/\Own K G' H' a d
def pT(Γ:Fx)(E:XK)(f:VF D)(L:List Nat)(md:Md):TE:=λσ H Q=>∃env G B β,SR Γ B G H σ env β/\
 Out Γ E (f (vl env) β) λd β'=>∀v G' H',SR Γ B G' H' σ (a8 L env) β'->ao G G'->iK B H H'->VO Γ.K B H G' H' md d v->Q v H'
def SE(X:Cx)(Γ:Fx)(E:XK)(e:Expr)(f:VF D)(L:List Nat)(md:Md):Prop:=PE X e (pT Γ E f L md)
def qT(Γ:Fx)(E:XK)(f:VF Bool)(L:List Nat):TT:=λσ H Q=>∃env G B β,SR Γ B G H σ env β/\
 Out Γ E (f (vl env) β) λc β'=>∀G' H',SR Γ B G' H' σ (a8 L env) β'->ao G G'->iK B H H'->Q c H'
def yX(X:Cx)(Γ:Fx)(E:XK)(e:Expr)(f:VF Bool)(L:List Nat):Prop:=PT X e (qT Γ E f L)
def uE(X:Cx)(Γ:Fx)(E:XK)(e:Expr)(f:VF Bool)(L:List Nat):Prop:=PW X e (qT Γ E f L)
def aT(Γ:Fx)(E:XK)(f:VF (List D))(L:List Nat):TA:=λσ H Q=>∃env G B β,SR Γ B G H σ env β/\
 Out Γ E (f (vl env) β) λds β'=>∀vs G' H',SR Γ B G' H' σ (a8 L env) β'->ao G G'->iK B H H'->bS Γ.K G' vs ds->Q vs H'
def SA(X:Cx)(Γ:Fx)(E:XK)(es:List Expr)(f:VF (List D))(L:List Nat):Prop:=PA X es (aT Γ E f L)
def PE.post'{X:Cx}{e:Expr}(h:PE X e t)(m:∀σ H Q,u σ H Q->t σ H Q):PE X e u:=λpins s σ H Q I q=>h pins s σ H Q I (m σ H Q q)
def PT.post{X:Cx}{e:Expr}(h:PT X e t)(m:∀σ H Q,u σ H Q->t σ H Q):PT X e u:=λpins s σ H Q I q=>h pins s σ H Q I (m σ H Q q)
def PW.post{X:Cx}{e:Expr}(h:PW X e t)(m:∀σ H Q,u σ H Q->t σ H Q):PW X e u:=λwh pins s σ H Q I q=>h wh pins s σ H Q I (m σ H Q q)
def PA.post{X:Cx}{es:List Expr}(h:PA X es t)(m:∀σ H Q,u σ H Q->t σ H Q):PA X es u:=λpos pins s σ H Q I q=>h pos pins s σ H Q I (m σ H Q q)
def PS.post{X:Cx}{st:Stmt}(h:PS X st t)(m:∀D σ H,u D σ H->t D σ H):PS X st u:=λpins s σ H D I q=>h pins s σ H D I (m D σ H q)
def dat:Option Nv->Option D
 |some (.da d)=>some d
 |_=>none
def gv(i:Nat):VF D:=λvs β=>R.of (dat vs[i]?) β
def cst(d:D):VF D:=λ_ β=>.ok d β
section
variable {X:Cx}{Γ:Fx}{E:XK}{e a b c:Expr}{f fa fb fc:VF D}{L La Lb Lc:List Nat}{md ma mb mc:Md}{pos:Pos}
theorem join_some(h:dat o=some d):o=some (.da d):=by
 cases o with
 |none=>cases h
 |some o=>cases o with
  |da x=>cases h;rfl
  |_=>cases h
def SR.letIn(I:SR Γ B G H σ env β)(h0:Γ.H0 p=none)(hg:G p=none)(hb:B≠some p)(hn:∀(j:Nat) (d':D),env[j]? =some (.ow d')->σ[j]?≠some (some (.ref p)))(h:Own Γ.K G H p d) :
  ∃G',SR Γ B G' H σ env β/\ao G G'/\Rp Γ.K G' (.ref p) d:=by
 let⟨o,ho⟩:=h.obj
 have sG:ao G (upd G p o):=ao.new hg
 refine⟨upd G p o,⟨λb u q=>?_,I.old.trans sG,λb n1 n2=>?_,I.keep,I.pin,I.fix,λb q=>?_,I.len,λj s q=>?_,I.sep⟩,sG,h.rp hg sG λo' q=>by rw[ho]at q;cases q;exact au⟩
 .by_cases z:b=p
  .subst z;rw[au]at q;cases q;exact Kt.of ho
  .rw[av z]at q;exact I.sub b u q
 .rw[av (λz=>n1.1 (by rw[z];exact h0))];exact I.new b n1 n2
 .let⟨k1,k2,k3⟩:=I.box b q
  exact⟨k1,by rw[av (λz=>hb (by rw[<-z];exact q))];exact k2,k3⟩
 .have w:=I.slot j s q
  cases s with
  |no=>trivial
  |fz d'=>let⟨v,w1,w2⟩:=w;exact⟨v,w1,w2.mono sG⟩
  |ow d'=>
   let⟨c,w1,w2,w3,w4,w5⟩:=w
   have ca:c≠p:=λz2=>hn j d' q (by rw[<-z2];exact w1)
   exact⟨c,w1,w2,by rw[av ca];exact w3,w4,w5.mono sG λo q=>Kt.of q⟩
  |bx=>exact w
  |br d'=>let⟨b1,c,w1,w4,wp,w5⟩:=w;exact⟨b1,c,w1,w4,wp,w5.mono sG λo q=>Kt.of q⟩
def AD{env:En}{i j:Nat}{d:D}(h:(jV env i)[j]? =some (.ow d)):env[j]? =some (.ow d):=by
 unfold jV at h
 split at h
 .rename_i d' e
  by_cases z:i=j
  .subst z
   rw[PQ (Pw.mp e).1]at h;cases h
  .rw[PH z]at h;exact h
 .exact h
theorem vU{L:List Nat}{env:En}{j:Nat}{d:D}(h:(a8 L env)[j]? =some (.ow d)):env[j]? =some (.ow d):=by
 unfold a8 at h
 induction L generalizing env with
 |nil=>exact h
 |cons i L ih=>exact AD (ih h)
def SR.letW{B:Option Addr}{G H G' H':Hp}{σ:St}{env:En}{β β':Int}{L:List Nat}{d:D}{v:V}(I:SR Γ B G H σ env β)(I':SR Γ B G' H' σ (L2.a8 L env) β')(h:VO Γ.K B H G' H' .w d v):∃G2,SR Γ B G2 H' σ (L2.a8 L env) β'/\ao G' G2/\Rp Γ.K G2 v d:=by
 obtain⟨p,rfl,h1,h2,h3⟩:=h
 let⟨q1,q2,q3,q4⟩:=I.fresh h1
 exact I'.letIn q1 h2 q3 (λj d' e=>q4 j d' (vU e)) h3
def SE.wv(h:SE X Γ E e f L .w):SE X Γ E e f L .v:=by
 refine PE.post' h λσ H Q ⟨env,G,B,β,I,o⟩=>⟨env,G,B,β,I,o.imp λd β' k v G' H' I' s m vo=>?_⟩
 let⟨G2,I2,s2,r⟩:=I.letW I' vo
 exact k v G2 H' I2 (s.trans s2) m r
theorem VO.brw{B:Option Addr}{H G' H':Hp}{d:D}{v:V}{K:Frag}(h:VO K B H G' H' md d v)(hB:∀x,B=some x->H x≠none):lg K B G' H' v d:=by
 cases md with
 |b=>exact h
 |v=>exact .inl h
 |w=>
  obtain⟨p,rfl,h1,h2,h3⟩:=h
  exact .inr ⟨p,rfl,λz=>hB p z h1,h3⟩
def SR.boxThere(I:SR Γ B G H σ env β):∀x,B=some x->H x≠none:=λx e=>by rw[(I.box x e).1];simp
def af(i:Nat)(hN:X.N[i]? =some x:=by rfl)(hv:yW X.env.scope x:=by first|exact Or.inl rfl|exact Or.inr (Or.inl rfl)|exact Or.inr (Or.inr rfl))(hd:(x==("__debug__":Str))=false:=by decide)
  (hcd:(x==("__classdict__":Str))=false:=by decide):SE X Γ E (.Name x pos) (gv i) [] .b:=by
 refine PE.post' (g8 hN hv hd hcd) λσ H Q ⟨env,G,B,β,I,o⟩=>?_
 let⟨d,e,k⟩:=o.of
 have e:=join_some e
 rcases Jl e with q|q|q
 .let⟨v,h1,h2⟩:=I.slot i _ q
  exact⟨v,h1,k v G H I (ao.refl _) (iK.refl _ _) (.inl h2)⟩
 .let⟨p,h1,h2,h3,h4,h5⟩:=I.slot i _ q
  exact⟨.ref p,h1,k _ G H I (ao.refl _) (iK.refl _ _) (.inr ⟨p,rfl,h4,h5⟩)⟩
 .let⟨_,p,h1,h4,_,h5⟩:=I.slot i _ q
  exact⟨.ref p,h1,k _ G H I (ao.refl _) (iK.refl _ _) (.inr ⟨p,rfl,h4,h5⟩)⟩
def ar(i:Nat)(hb:Γ.br i=false)(hN:X.N[i]? =some x:=by rfl)(hv:yW X.env.scope x:=by first|exact Or.inl rfl|exact Or.inr (Or.inl rfl)|exact Or.inr (Or.inr rfl))(hd:(x==("__debug__":Str))=false:=by decide)
  (hcd:(x==("__classdict__":Str))=false:=by decide):SE X Γ E (.Name x pos) (gv i) [i] .v:=by
 refine PE.post' (g8 hN hv hd hcd) λσ H Q ⟨env,G,B,β,I,o⟩=>?_
 let⟨d,e,k⟩:=o.of
 let⟨G',v,I',s,h1,h2⟩:=I.freeze i hb (join_some e)
 exact⟨v,h1,k v G' H I' s (iK.refl _ _) h2⟩
def Dx(h:PE X e (tC v))(r:∀G,Rp Γ.K G v d):SE X Γ E e (cst d) [] .v:=by
 exact PE.post' h λσ H Q ⟨env,G,B,β,I,o⟩=>(o v G H I (ao.refl _) (iK.refl _ _) (r G))
def ay{j}:SE X Γ E (.Constant (.int i) j pos) (cst (.int i)) [] .v:=Dx yI λ_=>.int i
def jg{j}:SE X Γ E (.Constant (.bool i) j pos) (cst (.bool i)) [] .v:=Dx Bo λ_=>.bl i
def C5{j}:SE X Γ E (.Constant .none j pos) (cst .none) [] .v:=Dx EM λ_=>.non
def zI{j}:SE X Γ E (.Constant (.str x) j pos) (cst (.str x)) [] .v:=Dx JF λ_=>.str x
def GN(hg:Gl X x)(hm:X.mg x=some (.int i t))(hd:(x==("__debug__":Str))=false:=by decide):SE X Γ E (.Name x pos) (cst (.int i)) [] .v:=Dx (Iy hg hm (show RelV (.int i) _ from⟨_,rfl⟩) hd) λ_=>.int i
def two{W:V->V->Hp->Prop}(I:SR Γ B G H σ env β)
  (h:Out Γ E (fa (vl env) β) λd1 β1=>Out Γ E (fb (vl env) β1) λd2 β2=>∀x y G2 H2,SR Γ B G2 H2 σ (a8 (La++Lb) env) β2->ao G G2->iK B H H2->lg Γ.K B G2 H2 x d1->lg Γ.K B G2 H2 y d2->W x y H2) :
  pT Γ E fa La ma σ H λx H1=>pT Γ E fb Lb mb σ H1 λy H2=>W x y H2:=by
 refine⟨env,G,B,β,I,h.imp λd1 β1 h x G1 H1 I1 s1 m1 vx=>⟨a8 La env,G1,B,β1,I1,?_⟩⟩
 rw[fB]
 refine h.imp λd2 β2 k y G2 H2 I2 s2 m2 vy=>?_
 refine k x y G2 H2 (by rw[b8];exact I2) (s1.trans s2) (m1.trans m2) ((vx.brw I.boxThere).mono s2 m2) (vy.brw I1.boxThere)
def qf(K:Frag)(r:R2)(g:D->D->Option D)(md:Md):Prop:=∀(B:Option Addr) (G H:Hp) (x y:V) (dx dy d:D) (Q:VK),ao G H->(∀x,B=some x->H x≠none)->lg K B G H x dx->lg K B G H y dy->g dx dy=some d->
 (∀v G' H',Ext G H G' H'->VO K B H G' H' md d v->Q v H')->r x y H Q
def f2(fa fb:VF D)(g:D->D->Option D):VF D:=λvs β=>(fa vs β).bnd λx β1=>(fb vs β1).bnd λy β2=>R.of (g x y) β2
theorem gf(m:iK B H H2)(hB:∀x,B=some x->H2 x≠none)(h:H2 p=none):H p=none:=by
 cases e:H p with
 |none=>rfl
 |some o=>let⟨u,eu,_⟩:=(m.1 p o e λz=>hB p z h).some;rw[eu]at h;cases h
theorem VO.back{K:Frag}{B:Option Addr}{H H2 G' H':Hp}{d:D}{v:V}(h:VO K B H2 G' H' md d v)(m:iK B H H2)(hB:∀x,B=some x->H2 x≠none):VO K B H G' H' md d v:=by
 cases md with
 |b=>exact h
 |v=>exact h
 |w=>let⟨p,e,h1,h2,h3⟩:=h;exact⟨p,e,gf m hB h1,h2,h3⟩
def oy{g:D->D->Option D}{Q:VK}(pr:qf Γ.K r g md)(I:SR Γ B G H σ env β)
  (h:Out Γ E (f2 fa fb g (vl env) β) λd β'=>∀v G' H',SR Γ B G' H' σ (a8 (La++Lb) env) β'->ao G G'->iK B H H'->VO Γ.K B H G' H' md d v->Q v H') :
  pT Γ E fa La ma σ H λx H1=>pT Γ E fb Lb mb σ H1 λy H2=>r x y H2 Q:=by
 refine two I (h.bnd.imp λd1 β1 h=>h.bnd.imp λd2 β2 h x y G2 H2 I2 s2 m2 bx by'=>?_)
 let⟨d,e,k⟩:=h.of
 exact pr B G2 H2 x y d1 d2 d Q I2.sub I2.boxThere bx by' e λv G' H' x' vo=>(k v G' H' (I2.ext x') (s2.trans x'.gg) (m2.trans (x'.hh.mov B)) (vo.back m2 I2.boxThere))
def bG{g:D->D->Option D}(ho:pH X (binaryOp op) r)(pr:qf Γ.K r g md)(ha:SE X Γ E a fa La ma)(hb:SE X Γ E b fb Lb mb):SE X Γ E (.BinOp a op b pos) (f2 fa fb g) (La++Lb) md:=
 PE.post' (tT ho ha hb) λσ H Q ⟨env,G,B,β,I,o⟩=>oy pr I o
def gc{g:D->D->Option D}(ho:pH X (compareOp op) r)(pr:qf Γ.K r g md)(ha:SE X Γ E a fa La ma)(hb:SE X Γ E b fb Lb mb)(hm:behindInMarks op b=false):SE X Γ E (.Compare a [op] [b] pos) (f2 fa fb g) (La++Lb) md:=
 PE.post' (HQ ho ha hb hm) λσ H Q ⟨env,G,B,β,I,o⟩=>oy pr I o
def bI{g:D->D->Option D}(hr:FH X r)(pr:qf Γ.K r g md)(ha:SE X Γ E a fa La ma)(hb:SE X Γ E b fb Lb mb)(hs:AI b):SE X Γ E (.Subscript a b pos) (f2 fa fb g) (La++Lb) md:=
 PE.post' (mO hr ha hb hs) λσ H Q ⟨env,G,B,β,I,o⟩=>oy pr I o
def zW(K:Frag)(r:V->Hp->VK->Prop)(g:D->Option D)(md:Md):Prop:=∀(B:Option Addr) (G H:Hp) (x:V) (dx d:D) (Q:VK),ao G H->(∀x,B=some x->H x≠none)->lg K B G H x dx->g dx=some d->
 (∀v G' H',Ext G H G' H'->VO K B H G' H' md d v->Q v H')->r x H Q
def f1(fa:VF D)(g:D->Option D):VF D:=λvs β=>(fa vs β).bnd λx β1=>R.of (g x) β1
def jh{r:V->Hp->VK->Prop}{g:D->Option D}{Q:VK}(pr:zW Γ.K r g md)(I:SR Γ B G H σ env β)
  (h:Out Γ E (f1 fa g (vl env) β) λd β'=>∀v G' H',SR Γ B G' H' σ (a8 La env) β'->ao G G'->iK B H H'->VO Γ.K B H G' H' md d v->Q v H') :
  pT Γ E fa La ma σ H λx H1=>r x H1 Q:=by
 refine⟨env,G,B,β,I,h.bnd.imp λd1 β1 h x G1 H1 I1 s1 m1 vx=>?_⟩
 let⟨d,e,k⟩:=h.of
 exact pr B G1 H1 x d1 d Q I1.sub I1.boxThere (vx.brw I.boxThere) e λv G' H' x' vo=>(k v G' H' (I1.ext x') (s1.trans x'.gg) (m1.trans (x'.hh.mov B)) (vo.back m1 I1.boxThere))
def Df{r:V->Hp->VK->Prop}{g:D->Option D}(ho:M1 X (unaryOp op) r)(pr:zW Γ.K r g md)(ha:SE X Γ E a fa La ma):SE X Γ E (.UnaryOp op a pos) (f1 fa g) La md:=
 PE.post' (LS ho ha) λσ H Q ⟨env,G,B,β,I,o⟩=>jh pr I o
def bg{id:String}{r:List V->Hp->VK->Prop}{g:D->Option D}{x:Str}{p:Pos}(hc:cW X (.builtin id) r)(pr:zW Γ.K (λx=>r [x]) g md)(hg:Gl X x)(hm:X.mg x=none)(hv:bootBuiltins x=some (.builtin id))(ha:SE X Γ E a fa La ma)(hn:x≠"__name__":=by decide)(hdb:(x==("__debug__":Str))=false:=by decide)
  (he:starEach [a] X.env=(false,eval a X.env)::starEach [] X.env:=by rfl):SE X Γ E (.Call (.Name x p) [a] [] pos) (f1 fa g) La md:=
 PE.post' (lU hc hg hm hv (aP ha bD he) hn hdb he) λσ H Q ⟨env,G,B,β,I,o⟩=>jh pr I o
def dA{id:String}{r:List V->Hp->VK->Prop}{g:D->Option D}{x:Str}{p:Pos}(hc:cW X (.type id) r)(pr:zW Γ.K (λx=>r [x]) g md)(hg:Gl X x)(hm:X.mg x=none)(hv:bootBuiltins x=some (.type id))(ha:SE X Γ E a fa La ma)(hn:x≠"__name__":=by decide)(hdb:(x==("__debug__":Str))=false:=by decide)
  (he:starEach [a] X.env=(false,eval a X.env)::starEach [] X.env:=by rfl):SE X Γ E (.Call (.Name x p) [a] [] pos) (f1 fa g) La md:=
 PE.post' (jM hc hg hm hv (aP ha bD he) hn hdb he) λσ H Q ⟨env,G,B,β,I,o⟩=>jh pr I o
def xV{id:String}{r:List V->Hp->VK->Prop}{g:D->D->Option D}{x:Str}{p:Pos}(hc:cW X (.builtin id) r)(pr:qf Γ.K (λx y=>r [x,y]) g md)(hg:Gl X x)(hm:X.mg x=none)(hv:bootBuiltins x=some (.builtin id))(ha:SE X Γ E a fa La ma)(hb:SE X Γ E b fb Lb mb)(hn:x≠"__name__":=by decide)(hdb:(x==("__debug__":Str))=false:=by decide)
  (he:starEach [a,b] X.env=(false,eval a X.env)::starEach [b] X.env:=by rfl) (he2:starEach [b] X.env=(false,eval b X.env)::starEach [] X.env:=by rfl) (hpl:(backTo pos (starEach [b] X.env)).any (·.1)=false:=by rfl):SE X Γ E (.Call (.Name x p) [a,b] [] pos) (f2 fa fb g) (La++Lb) md:=
 PE.post' (lU hc hg hm hv (aP ha (aP hb bD he2) he) hn hdb he hpl) λσ H Q ⟨env,G,B,β,I,o⟩=>oy pr I o
def gR(fa fb:VF D):VF D:=λvs β=>(fa vs β).bnd λx β1=>match x with
 | .bool true=>fb vs β1
 | .bool false=>.ok (.bool false) β1
 |_=>.bad
def kM{op}(h:SE X Γ E a fa La md):SE X Γ E (.BoolOp op [a] pos) fa La md:=Kg h
theorem i8{rest:List Expr}(ha:SE X Γ E a fa La ma)(hb:SE X Γ E (.BoolOp .And (b::rest) pos) fb Lb .v)(hbr:∀i,i∈Lb->Γ.br i=false):SE X Γ E (.BoolOp .And (a::b::rest) pos) (gR fa fb) (La++Lb) .v:=by
 refine PE.post' (K0 ha hb) λσ H Q ⟨env,G,B,β,I,o⟩=>⟨env,G,B,β,I,o.bnd.imp λd1 β1 h x G1 H1 I1 s1 m1 vx=>?_⟩
 have bx:=vx.brw I.boxThere
 cases d1 with
 |bool c=>
  obtain rfl:=bx.bool
  refine⟨c,rfl,?_⟩
  cases c with
  |true=>exact yg ⟨_,G1,B,β1,I1,by rw[fB];exact h.imp λd β' k v G' H' I' s' m' vo=>k v G' H' (by rw[b8];exact I') (s1.trans s') (m1.trans m') vo⟩
  |false=>
   let⟨G2,I2,s2⟩:=I1.a8 Lb hbr
   exact wz (h _ G2 H1 (by rw[b8];exact I2) (s1.trans s2) m1 (.bl false))
 |_=>exact h.elim
def Cj:D->Option D
 | .bool c=>some (.bool (!c))
 |_=>none
theorem zE(ha:SE X Γ E a fa La ma):SE X Γ E (.UnaryOp .Not a pos) (f1 fa Cj) La .v:=by
 refine PE.post' (KZ ha) λσ H Q ⟨env,G,B,β,I,o⟩=>(jh (r:=λx H1 Q=>∃c,x=.bl c/\Q (.bl (!c)) H1) ?_ I o)
 intro B G H x dx d Q s hB bx e k
 cases dx with
 |bool c=>
  obtain rfl:=bx.bool
  cases e
  exact⟨c,rfl,k _ G H (Ext.refl s) (.bl _)⟩
 |_=>cases e
def Ln:D->Option Bool
 | .none=>some false
 | .bool b=>some b
 | .int i=>some (i != 0)
 | .str y=>if y.length<=sizeLine then some ((y.length:Int) != 0)else none
 | .list ds=>some (!ds.isEmpty)
 | .tuple ds=>some (!ds.isEmpty)
 | .dict _=>none
def mE(fa:VF D):VF Bool:=λvs β=>(fa vs β).bnd λx β1=>R.of (Ln x) β1
def pP{K:Frag}{G:Hp}{xs:List V}{ds:List D}(r:bS K G xs ds):(!ds.isEmpty)= !xs.isEmpty:=by cases r<;>rfl
theorem dm(hK:X.K=Γ.K)(ha:SE X Γ E a fa La ma)(he:∀whole,isTrue a X.env whole=(do let v <-whole;standAt a.pos;holding [v] (truthy v)):=by intro _;rfl):yX X Γ E a (mE fa) La:=by
 refine PT.post (Ef ha he) λσ H Q ⟨env,G,B,β,I,o⟩=>⟨env,G,B,β,I,o.bnd.imp λd1 β1 h x G1 H1 I1 s1 m1 vx=>?_⟩
 let⟨c,e,k⟩:=h.of
 have bx:=vx.brw I.boxThere
 refine⟨c,?_,k G1 H1 I1 s1 m1⟩
 rw[hK]
 cases d1 with
 |none=>obtain rfl:=bx.none;cases e;rfl
 |bool b=>obtain rfl:=bx.bool;cases e;rfl
 |int i=>obtain rfl:=bx.int;cases e;rfl
 |str y=>
  obtain rfl:=bx.str
  simp only[Ln]at e
  split at e
  .cases e;exact⟨by assumption,rfl⟩
  .cases e
 |list ds=>obtain⟨p,xs,rfl,hq,r⟩:=bx.list I1.sub;cases e;exact .inl ⟨xs,.inl hq,pP r⟩
 |tuple ds=>obtain⟨p,xs,rfl,hq,r⟩:=bx.tuple I1.sub;cases e;exact .inr (.inl ⟨xs,hq,pP r⟩)
 |dict ds=>cases e
def df(fa:VF D):VF Bool:=λvs β=>(fa vs β).bnd λx β1=>match x with
 | .bool c=>.ok c β1
 |_=>.bad
theorem bq{g:D->D->Option D}(ho:pH X (compareOp op) r)(pr:qf Γ.K r g .v)(ha:SE X Γ E a fa La ma)(hb:SE X Γ E b fb Lb mb)(hm:behindInMarks op b=false):yX X Γ E (.Compare a [op] [b] pos) (df (f2 fa fb g)) (La++Lb):=by
 refine PT.post (HM ho ha hb hm) λσ H Q ⟨env,G,B,β,I,o⟩=>(oy pr I (o.bnd.imp λd β' h v G' H' I' s' m' vo=>?_))
 cases d with
 |bool c=>cases vo;exact⟨c,rfl,h G' H' I' s' m'⟩
 |_=>exact h.elim
def tG(t:VF Bool):VF Bool:=λvs β=>(t vs β).bnd λc β1=>.ok (!c) β1
def AE(t u:VF Bool):VF Bool:=λvs β=>(t vs β).bnd λc β1=>if c=true then u vs β1 else .ok false β1
def om(t u:VF Bool):VF Bool:=λvs β=>(t vs β).bnd λc β1=>if c=true then .ok true β1 else u vs β1
variable {ta tb tc:VF Bool}
def gF(ha:yX X Γ E a ta La):yX X Γ E (.UnaryOp .Not a pos) (tG ta) La:=by
 exact PT.post (Kw ha) λσ H Q ⟨env,G,B,β,I,o⟩=>⟨env,G,B,β,I,o.bnd.imp λc β1 h=>h⟩
def uE.t(h:uE X Γ E e ta La):yX X Γ E e ta La:=PW.pt h
def oH(ha:yX X Γ E a ta La):uE X Γ E (.BoolOp .And [a] pos) ta La:=AN ha
def mX(ha:yX X Γ E a ta La):uE X Γ E (.BoolOp .Or [a] pos) ta La:=KC ha
theorem rV{rest:List Expr}(ha:yX X Γ E a ta La)(hb:uE X Γ E (.BoolOp .And (b::rest) pos) tb Lb)(hbr:∀i,i∈Lb->Γ.br i=false):uE X Γ E (.BoolOp .And (a::b::rest) pos) (AE ta tb) (La++Lb):=by
 refine PW.post (Ej ha hb) λσ H Q ⟨env,G,B,β,I,o⟩=>⟨env,G,B,β,I,o.bnd.imp λc β1 h G1 H1 I1 s1 m1=>?_⟩
 cases c with
 |true=>exact yg ⟨_,G1,B,β1,I1,by rw[fB];exact Out.imp h λd β' k G' H' I' s' m'=>k G' H' (by rw[b8];exact I') (s1.trans s') (m1.trans m')⟩
 |false=>
  let⟨G2,I2,s2⟩:=I1.a8 Lb hbr
  exact wz (h G2 H1 (by rw[b8];exact I2) (s1.trans s2) m1)
theorem ot{rest:List Expr}(ha:yX X Γ E a ta La)(hb:uE X Γ E (.BoolOp .Or (b::rest) pos) tb Lb)(hbr:∀i,i∈Lb->Γ.br i=false):uE X Γ E (.BoolOp .Or (a::b::rest) pos) (om ta tb) (La++Lb):=by
 refine PW.post (Mf ha hb) λσ H Q ⟨env,G,B,β,I,o⟩=>⟨env,G,B,β,I,o.bnd.imp λc β1 h G1 H1 I1 s1 m1=>?_⟩
 cases c with
 |true=>
  let⟨G2,I2,s2⟩:=I1.a8 Lb hbr
  exact yg (h G2 H1 (by rw[b8];exact I2) (s1.trans s2) m1)
 |false=>exact wz ⟨_,G1,B,β1,I1,by rw[fB];exact Out.imp h λd β' k G' H' I' s' m'=>k G' H' (by rw[b8];exact I') (s1.trans s') (m1.trans m')⟩
def O3(t:VF Bool)(fa fb:VF D):VF D:=λvs β=>(t vs β).bnd λc β1=>if c=true then fa vs β1 else fb vs β1
def ag:VF (List D):=λ_ β=>.ok [] β
def ab(fa:VF D)(fr:VF (List D)):VF (List D):=λvs β=>(fa vs β).bnd λx β1=>(fr vs β1).bnd λxs β2=>.ok (x::xs) β2
variable {fr:VF (List D)}{es:List Expr}
def ah:SA X Γ E [] ag []:=PA.post bD λσ H Q ⟨env,G,B,β,I,o⟩=>o [] G H I (ao.refl _) (iK.refl _ _) .nil
def ae(ha:SE X Γ E a fa La .v)(hr:SA X Γ E es fr Lb)(hs:starEach (a::es) X.env=(false,eval a X.env)::starEach es X.env:=by rfl):SA X Γ E (a::es) (ab fa fr) (La++Lb):=by
 refine PA.post (aP ha hr hs) λσ H Q ⟨env,G,B,β,I,o⟩=>⟨env,G,B,β,I,o.bnd.imp λd1 β1 h x G1 H1 I1 s1 m1 vx=>⟨a8 La env,G1,B,β1,I1,?_⟩⟩
 rw[fB]
 refine h.bnd.imp λds β2 k xs G2 H2 I2 s2 m2 r=>?_
 exact k (x::xs) G2 H2 (by rw[b8];exact I2) (s1.trans s2) (m1.trans m2) (.cons (vx.mono s2) r)
def bt(fr:VF (List D)):VF D:=λvs β=>(fr vs β).bnd λds β1=>if ds.length<=sizeLine then .ok (.tuple ds) β1 else .bad
def cz(fr:VF (List D)):VF D:=λvs β=>(fr vs β).bnd λds β1=>if ds.length<=sizeLine then .ok (.list ds) β1 else .bad
def bH{x1}(h:SA X Γ E es fr L):SE X Γ E (.Tuple es x1 pos) (bt fr) L .v:=by
 refine PE.post' (z5 h) λσ H Q ⟨env,G,B,β,I,o⟩=>⟨env,G,B,β,I,o.bnd.imp λds β1 k xs G1 H1 I1 s1 m1 r=>?_⟩
 by_cases hz:ds.length<=sizeLine
 .rw[Pe hz]at k
  refine⟨by rw[r.len];exact hz,λp hp=>?_⟩
  have x:=Ext.new I1.sub (o:=.tup xs) hp
  exact k _ _ _ (I1.ext x) (s1.trans x.gg) (m1.trans (x.hh.mov B)) (.tup (.inl (.inl au)) (r.mono x.gg))
 .rw[Pg hz]at k;exact k.elim
def cL(h:SA X Γ E es fr L):SE X Γ E (.List es pos) (cz fr) L .w:=by
 refine PE.post' (Ff h) λσ H Q ⟨env,G,B,β,I,o⟩=>⟨env,G,B,β,I,o.bnd.imp λds β1 k xs G1 H1 I1 s1 m1 r=>?_⟩
 by_cases hz:ds.length<=sizeLine
 .rw[Pe hz]at k
  refine⟨by rw[r.len];exact hz,λp hp=>?_⟩
  have x:=Ext.own I1.sub (o:=.lst xs) hp
  exact k _ _ _ (I1.ext x) s1 (m1.trans (x.hh.mov B)) ⟨p,rfl,gf m1 I1.boxThere hp,I1.sub.free hp,xs,au,r⟩
 .rw[Pg hz]at k;exact k.elim
inductive FR where
 |ok (d:D) (fresh:Bool)
 |exc (c:Str)
 |bad
def FV(K:Frag)(H G' H':Hp)(fr:Bool)(d:D)(v:V):Prop:=if fr=true then ∃a,v=.ref a/\H a=none/\G' a=none/\Own K G' H' a d else Rp K G' v d
def FT(K:Frag)(ca:Str->Addr)(n:Nat)(F:List D->FR):Sp:=λvs H Q E=>∃G ds,ao G H/\ds.length=n/\bS K G vs ds/\match F ds with
 | .ok d fr=>∀v G' H',ao H H'->ao G G'->ao G' H'->(∀b,Mx H b->G b=none->G' b=none)->FV K H G' H' fr d v->Q v H'
 | .exc c=>∀H',ao H H'->E (.ref (ca c)) none H'
 | .bad=>False
structure cN(P:Program)(w:World)(K:Frag)(mg:Str->Option Value)(base:Heap)(ca:Str->Addr)(x:Str)(ps:List Str)(k:Nat)(F:List D->FR):Prop where
 ex:∃f fd,mg x=some (.ref f)/\PySem.W.keepIn K (.ref f)=true/\Binds K fd ps []/\gS P w K mg base (uL P w) k f fd ps (FT K ca ps.length F)
 len:∀ds,F ds≠.bad->ds.length=ps.length
def az(F:List D->FR)(fr:VF (List D)):VF D:=λvs β=>(fr vs β).bnd λds β1=>match F ds with
 | .ok d _=>.ok d β1
 | .exc c=>.exc c
 | .bad=>.bad
def lq(F:List D->FR)(fr:VF (List D)):VF D:=λvs β=>(fr vs β).bnd λds β1=>match F ds with
 | .ok d true=>.ok d β1
 | .ok _ false=>.bad
 | .exc c=>.exc c
 | .bad=>.bad
def SR.called(I1:SR Γ B G1 H1 σ env β)(h:ao H1 H2)(g:ao G1 G2)(s:ao G2 H2)(n:∀b,Mx H1 b->G1 b=none->G2 b=none):SR Γ B G2 H2 σ env β/\iK B H1 H2:=by
 refine⟨⟨s,I1.old.trans g,λb n1 n2=>?_,λb o e np=>(I1.keep b o e np).step h,λb hb=>?_,I1.fix,λb e=>?_,I1.len,λi t e=>?_,I1.sep⟩,h.mov B⟩
 .exact n b (I1.thereM n1) (I1.new b n1 n2)
 .exact (I1.pin b hb).same λo e=>h b o e
 .let⟨h1,h2,h3⟩:=I1.box b e
  exact⟨h b _ h1,n b (Mx.lst h1) h2,h3⟩
 .have q:=I1.slot i t e
  cases t with
  |no=>trivial
  |fz d=>let⟨v,h1,h2⟩:=q;exact⟨v,h1,h2.mono g⟩
  |ow d=>
   let⟨p,h1,h2,h3,h4,h5⟩:=q
   exact⟨p,h1,h2,n p h5.mx h3,h4,h5.mono g λo q=>h p o q⟩
  |bx=>exact q
  |br d=>let⟨b1,p,h1,h4,hp,h5⟩:=q;exact⟨b1,p,h1,h4,hp,h5.mono g λo q=>h p o q⟩
def SR.kp(I:SR Γ B G H σ env β)(h:ao H H'):Kp Γ H':=λb o e n=>(I.keep b o e n).step h
theorem uJ{F:List D->FR}{ps:List Str}{Q:VK}(I:SR Γ B G H σ env β)(hK:X.K=Γ.K){wv:Bool}
  (h:Out Γ E (if wv=true then lq F fr (vl env) β else az F fr (vl env) β) λd β'=>∀v G' H',SR Γ B G' H' σ (a8 L env) β'->ao G G'->iK B H H'->VO Γ.K B H G' H' (if wv=true then .w else .v) d v->Q v H') (hl:∀ds,F ds≠.bad->ds.length=ps.length) :
  aT Γ E fr L σ H λvs H1=>FT X.K Γ.ca ps.length F vs H1 Q E:=by
 refine⟨env,G,B,β,I,?_⟩
 have h:Out Γ E (fr (vl env) β) λds β1=>Out Γ E (match F ds with
   | .ok d true=>.ok d β1
   | .ok d false=>if wv=true then .bad else .ok d β1
   | .exc c=>.exc c
   | .bad=>.bad) λd β'=>∀v G' H',SR Γ B G' H' σ (a8 L env) β'->ao G G'->iK B H H'->VO Γ.K B H G' H' (if wv=true then .w else .v) d v->Q v H':=by
  cases wv with
  |true=>
   simp only[Qn]at h ⊢
   refine h.bnd.imp λds β1 h=>?_
   cases q:F ds with
   |ok d b=>rw[q]at h;cases b<;>exact h
   |exc c=>rw[q]at h;exact h
   |bad=>rw[q]at h;exact h
  |false=>
   simp only[Py,Qb]at h ⊢
   refine h.bnd.imp λds β1 h=>?_
   cases q:F ds with
   |ok d b=>rw[q]at h;cases b<;>exact h
   |exc c=>rw[q]at h;exact h
   |bad=>rw[q]at h;exact h
 refine h.imp λds β1 k vs G1 H1 I1 s1 m1 r=>?_
 refine⟨G1,ds,I1.sub,?_,by rw[hK];exact r,?_⟩
 .exact hl ds λz=>by rw[z]at k;exact k
 cases q:F ds with
 |bad=>rw[q]at k;exact k
 |exc c=>rw[q]at k;exact λH' s=>k H' (I1.kp s)
 |ok d b=>
  rw[q]at k
  intro v G' H' hh hg hs hn fv
  let⟨I2,m2⟩:=I1.called hh hg hs hn
  cases b with
  |true=>
   obtain⟨p,rfl,p1,p2,p3⟩:∃a,v=.ref a/\H1 a=none/\G' a=none/\Own X.K G' H' a d:=fv
   rw[hK]at p3
   have hp:=gf m1 I1.boxThere p1
   cases wv with
   |true=>exact k _ G' H' I2 (s1.trans hg) (m1.trans m2) ⟨p,rfl,hp,p2,p3⟩
   |false=>
    let⟨q1,q2,q3,q4⟩:=I1.fresh p1
    let⟨G3,I3,s3,r3⟩:=I2.letIn q1 p2 q3 q4 p3
    exact k _ G3 H' I3 ((s1.trans hg).trans s3) (m1.trans m2) r3
  |false=>
   cases wv with
   |true=>exact k.elim
   |false=>
    have fv:Rp X.K G' v d:=fv
    rw[hK]at fv
    exact k _ G' H' I2 (s1.trans hg) (m1.trans m2) fv
def aJ{F:List D->FR}{p:Pos}(hf:cN X.prog X.w X.K X.mg X.base Γ.ca x ps k F)(hr:fV k X.A)(hx:Passes (uL X.prog X.w) X E)(hK:X.K=Γ.K)(hg:Gl X x)(ha:SA X Γ E (a::es) fr L)(hdb:(x==("__debug__":Str))=false:=by decide)
  (he:starEach (a::es) X.env=(false,eval a X.env)::starEach es X.env:=by rfl) (hpl:(backTo pos (starEach es X.env)).any (·.1)=false:=by rfl):SE X Γ E (.Call (.Name x p) (a::es) [] pos) (az F fr) L .v:=by
 let⟨f,fd,hm,hk,hb,hF⟩:=hf.ex
 refine PE.post' (nN hF hr hg hm hk hb .nil hx ha hdb he hpl) λσ H Q ⟨env,G,B,β,I,o⟩=>?_
 show aT Γ E fr L σ H λvs H1=>FT X.K Γ.ca ps.length F (vs++[]) H1 Q E
 have:=uJ (wv:=false) I hK o hf.len
 simpa using this
def rC{F:List D->FR}{p:Pos}(hf:cN X.prog X.w X.K X.mg X.base Γ.ca x ps k F)(hr:fV k X.A)(hx:Passes (uL X.prog X.w) X E)(hK:X.K=Γ.K)(hg:Gl X x)(ha:SA X Γ E (a::es) fr L)(hdb:(x==("__debug__":Str))=false:=by decide)
  (he:starEach (a::es) X.env=(false,eval a X.env)::starEach es X.env:=by rfl) (hpl:(backTo pos (starEach es X.env)).any (·.1)=false:=by rfl):SE X Γ E (.Call (.Name x p) (a::es) [] pos) (lq F fr) L .w:=by
 let⟨f,fd,hm,hk,hb,hF⟩:=hf.ex
 refine PE.post' (nN hF hr hg hm hk hb .nil hx ha hdb he hpl) λσ H Q ⟨env,G,B,β,I,o⟩=>?_
 show aT Γ E fr L σ H λvs H1=>FT X.K Γ.ca ps.length F (vs++[]) H1 Q E
 have:=uJ (wv:=true) I hK o hf.len
 simpa using this
end
structure jb(K:Frag)(mg:Str->Option Value)(x:Str)(st:Stmt)(ps:List Str)(f:Addr)(fd:FuncData):Prop where
 mg:mg x=some (.ref f)
 F:FL K x x st f fd
 b:Binds K fd ps []
structure ji(mg:Str->Option Value):Prop where
 len:mg "len"=none
 range:mg "range"=none
 enumerate:mg "enumerate"=none
 zip:mg "zip"=none
 min:mg "min"=none
 max:mg "max"=none
 sum:mg "sum"=none
 abs:mg "abs"=none
 sorted:mg "sorted"=none
 reversed:mg "reversed"=none
 int:mg "int"=none
 str:mg "str"=none
 bool:mg "bool"=none
 list:mg "list"=none
 tuple:mg "tuple"=none
 dict:mg "dict"=none
 set:mg "set"=none
 isinstance:mg "isinstance"=none
 repr:mg "repr"=none
 any:mg "any"=none
 all:mg "all"=none
 divmod:mg "divmod"=none
section
variable {X:Cx}{pins:List (Addr×Obj)}{σ:St}{H:Hp}{s:Shared}
def Inv.turnedL{t':Nat}{ch:List Addr}{h':Heap}(I:@At)(k:∀b o,b∉ch->s.heap.get? b=some o->h'.get? b=some o)(hf:∀b∈ch,ng X pins H b):Inv X pins σ H {s with heap:=h',toks:=t'}:=by
 have nit:∀b u,H b=some u->b∉ch:=λb u e z=>by rw[(hf b z).1]at e;cases e
 have nL:X.env.locals∉ch:=λz=>(hf _ z).2.1 rfl
 refine I.step (λb hb=>?_) (λb o _ _ hc e _=>k b o hc e) (λb o _ _ hc e _=>⟨o.slots,k b o hc e⟩) (λ_ _ _ _ n=>n)
  (λb o hc e=>⟨o,k b o hc e⟩) (λ_ _ e=>e) (λ_ _ _ e=>e) (λb ps e=>⟨#[],by rw[e];simp⟩) (λm hm=>?_) (λb u e=>?_) I.bare
 .let⟨f0,f1,f2,f3,f4,f5⟩:=hf b hb
  exact⟨f3,f1,f4,f5⟩
 .let⟨o,es,ep,ho,r⟩:=hm
  exact⟨o,es,ep,k _ o nL ho,r⟩
 .refine (I.hok b u e).stay (λc v hc q=>k c v ?_ q) (λ_ q=>q) λ_ _ q=>q
  rcases hc with z|z
  .rw[z];exact nit b u e
  .exact nit c _ z
end
def HL{H:Hp}(h:Rd H a u):H a≠none:=by
 rcases h with h|⟨o,h⟩<;>rw[h]<;>simp
def Lr(i j:Nat)(h:(i==j)=false):(n+i:Nat)≠n+j:=by
 have:i≠j:=by simpa using h
 omega
section
variable {κ:Type}[DecidableEq κ]
def lG(kvs:List (κ×V))(k:κ):Option V:=(kvs.find? λkv=>decide (kv.1=k)).map (·.2)
def putK(kvs:List (κ×V))(k:κ)(v:V):List (κ×V):=
 if(kvs.any λkv=>decide (kv.1=k))=true then kvs.map (λkv=>if kv.1=k then(kv.1,v)else kv)else kvs++[(k,v)]
def lx{r:List (κ×V)}(e:p.1=k):lG (p::r) k=some p.2:=by simp[lG,Rl,e]
def lH{r:List (κ×V)}(e:¬p.1=k):lG (p::r) k=lG r k:=by simp[lG,Rl,e]
theorem rz(k:κ):∀kvs:List (κ×V),(kvs.any λkv=>decide (kv.1=k))=(lG kvs k).isSome
 | []=>rfl
 |p::r=>by
  rw[Rf]
  by_cases e:p.1=k
  ·simp only[lx e,Pu e,Bool.true_or,Option.isSome_some]
  ·rw[lH e,Px e,Bool.false_or];exact rz k r
def gO(kvs:List (κ×V))(k:κ)(v:V):(putK kvs k v).length<=kvs.length+1:=by
 unfold putK
 split
 .rw[Pc];omega
 .rw[P0,PR,length_nil];omega
def Fd{kvs:List (κ×V)}{k:κ}(v:V)(h:lG kvs k=none):putK kvs k v=kvs++[(k,v)]:=by
 unfold putK
 rw[rz,h]
 exact Pg @A_
theorem rD.isSome_eq{o:Option V}{u:Option Value}(r:rD o u):o.isSome=u.isSome:=by
 cases o with
 |none=>cases u with
  |none=>rfl
  |some _=>exact(show False from r).elim
 |some _=>cases u with
  |none=>exact(show False from r).elim
  |some _=>rfl
theorem KV.val(r:KV kvs vs)(k:κ):rD (lG kvs k) (valueAt vs k):=by
 unfold KV at r
 induction r with
 |nil=>exact True.intro
 | @cons p q ps qs h t ih=>
  let⟨h1,h2⟩:=h
  by_cases e:p.1=k
  .have e':q.1=k:=h1.symm.trans e
   have b:valueAt (q::qs) k=some q.2:=by simp[valueAt,Rl,e']
   rw[lx e,b];exact h2
  .have e':¬q.1=k:=λz=>e (h1.trans z)
   have b:valueAt (q::qs) k=valueAt qs k:=by simp[valueAt,Rl,e']
   rw[lH e,b];exact ih
theorem KV.any(r:KV kvs vs)(k:κ):(kvs.any λkv=>decide (kv.1=k))=vs.any λkv=>decide (kv.1=k):=by
 unfold KV at r
 induction r with
 |nil=>rfl
 |cons h t ih=>rw[Rf,Rf,ih,h.1]
theorem KV.repl(r:KV kvs vs)(k:κ){y:V}{u:Value}(ry:RelV y u) :
  KV (kvs.map λkv=>if kv.1=k then(kv.1,y)else kv) (vs.map λkv=>if kv.1=k then(kv.1,u)else kv):=by
 unfold KV at r ⊢
 induction r with
 |nil=>exact .nil
 | @cons p q ps qs h t ih=>
  rw[PL,PL]
  refine .cons ?_ ih
  let⟨h1,h2⟩:=h
  by_cases e:p.1=k
  .rw[Pe e,Pe (h1.symm.trans e)];exact⟨h1,ry⟩
  .rw[Pg e,Pg (λz=>e (h1.trans z))];exact⟨h1,h2⟩
def KV.put(r:KV kvs vs)(k:κ){y:V}{u:Value}(ry:RelV y u):KV (putK kvs k y) (stored vs k u):=by
 unfold putK stored
 rw[r.any k]
 by_cases e:(vs.any λkv=>decide (kv.1=k))=true
 .rw[Pe e,Pe e];exact r.repl k ry
 .rw[Pg e,Pg e];exact Paired.snoc r ⟨rfl,ry⟩
def KV.length(r:KV kvs vs):kvs.length=vs.length:=Paired.length r
end
theorem xf{P:Program}{w:World}{u:Value}(r:RelV (kV k) u):(bQ P w).is k u=true:=by
 cases k with
 |inl i=>let⟨t,e⟩:=(show ∃t,u=Value.int i t from r);subst e;exact ym P w i t
 |inr x=>let⟨t,e⟩:=(show ∃t,u=Value.str x t from r);subst e;exact xR P w x t
theorem tY{P:Program}{w:World}:∀{ks:List Key} {us:List Value},Vals (ks.map kV) us->ItemsAre (bQ P w) ks us
 | [],_,r=>by rw[List.map_nil]at r;cases r;exact .nil
 |k::ks,_,r=>by
  rw[PL]at r
  cases r with
  |cons h t=>exact .cons (xf h) (tY t)
abbrev KT(H:Hp):List (List Key×V)->List (List Key×Addr×Value)->Prop:=Paired λp q=>p.1=q.1/\Rd H q.2.1 (.tup (p.1.map kV))/\RelV p.2 q.2.2
theorem KT.val{H:Hp}(r:KT H kvs xs)(k:List Key):rD (lG kvs k) ((atKey xs k).map (·.2)):=by
 induction r with
 |nil=>exact True.intro
 | @cons p q ps qs h t ih=>
  let⟨h1,_,h2⟩:=h
  by_cases e:p.1=k
  .have e':q.1=k:=h1.symm.trans e
   have b:atKey (q::qs) k=some q.2:=by simp[atKey,Rl,e']
   rw[lx e,b];exact h2
  .have e':¬q.1=k:=λz=>e (h1.trans z)
   have b:atKey (q::qs) k=atKey qs k:=by simp[atKey,Rl,e']
   rw[lH e,b];exact ih
theorem KT.repl{H:Hp}(r:KT H kvs xs)(k:List Key){y:V}{u:Value}(ry:RelV y u) :
  KT H (kvs.map λkv=>if kv.1=k then(kv.1,y)else kv) (xs.map (putAt k u)):=by
 induction r with
 |nil=>exact .nil
 | @cons p q ps qs h t ih=>
  rw[PL,PL]
  refine .cons ?_ ih
  let⟨h1,h2,h3⟩:=h
  unfold putAt
  by_cases e:p.1=k
  .rw[Pe e,Pe (h1.symm.trans e)];exact⟨h1,h2,ry⟩
  .rw[Pg e,Pg (λz=>e (h1.trans z))];exact⟨h1,h2,h3⟩
def KT.put{H:Hp}(r:KT H kvs xs)(k:List Key){y:V}{u:Value}(hb:Rd H b (.tup (k.map kV)))(ry:RelV y u) :
  KT H (putK kvs k y) (storedH xs k b u):=by
 have e:(kvs.any λkv=>decide (kv.1=k))=(atKey xs k).isSome:=by
  rw[rz,(r.val k).isSome_eq,SQ]
 unfold putK storedH
 rw[e]
 by_cases q:(atKey xs k).isSome=true
 .rw[Pe q,Pe q];exact r.repl k ry
 .rw[Pg q,Pg q];exact Paired.snoc r ⟨rfl,hb,ry⟩
def KT.keeps{H H':Hp}(r:KT H kvs xs)(ht:∀b ys,Rd H b (.tup ys)->Rd H' b (.tup ys)):KT H' kvs xs:=
 Paired.mapP r λ_ _ z=>⟨z.1,ht _ _ z.2.1,z.2.2⟩
section
variable {P:Program}{w:World}{H:Hp}{h:Heap}{a:Addr}
def Er{u:HO}(ok:lO P w H h)(e:Rd H a u):bE P w H h a u:=e.ok ok
def ya(ok:lO P w H h)(e:Rd H a (.dK kvs)):kvs.length<=sizeLine/\(a==sysModules)=false/\∃vs,KV kvs vs/\h.DictOf (bQ P w) a vs:=
 show bE P w H h a (.dK kvs)from Er ok e
def MB(ok:lO P w H h)(e:H a=some (.dK kvs)):kvs.length<=sizeLine/\(a==sysModules)=false/\∃vs,KV kvs vs/\h.DictOf (bQ P w) a vs:=ya ok (.inl e)
def lj(ok:lO P w H h)(e:Rd H a (.tup (ks.map kV))):(tupleKind (bQ P w)).is h ks a:=by
 let⟨_,its,r,o,h1,h2,n,h3⟩:=(show bE P w H h a (.tup (ks.map kV))from e.ok ok)
 exact⟨o,its.toArray,n,h1,h2,h3.1,by simpa using tY r⟩
def AX(ok:lO P w H h)(e:Rd H a (.dT kvs ep)):kvs.length<=sizeLine/\(a==sysModules)=false/\
  ∃xs,KT H kvs xs/\h.DictOfH (tupleKind (bQ P w)) a xs:=by
 let⟨z,y,xs,r,o,es,h1,h2,h3,h4,h5⟩:=(show bE P w H h a (.dT kvs ep)from Er ok e)
 refine⟨z,y,xs,r,o,es,_,h1,h2,h3,h4,λx hx=>?_,h5⟩
 have all:∀{l:List (List Key×V)} {m:List (List Key×Addr×Value)},KT H l m->∀x∈m,(tupleKind (bQ P w)).is h x.1 x.2.1:=by
  intro l m q
  induction q with
  |nil=>intro x hx;exact nomatch hx
  | @cons p q ps qs hq t ih=>
   intro x hx
   rcases Pf.mp hx with e|hx
   .subst e
    exact lj ok (by rw[<-hq.1];exact hq.2.1)
   .exact ih x hx
 exact all r x hx
def jA(ok:lO P w H h)(e:Rd H a (.dT kvs ep)):kvs.length<=sizeLine/\(a==sysModules)=false/\
  ∃xs,KT H kvs xs/\tE (tupleKind (bQ P w)) h a xs ep/\∀x∈xs,(tupleKind (bQ P w)).is h x.1 x.2.1:=by
 let⟨z,y,xs,r,d⟩:=(show bE P w H h a (.dT kvs ep)from Er ok e)
 refine⟨z,y,xs,r,d,?_⟩
 have all:∀{l:List (List Key×V)} {m:List (List Key×Addr×Value)},KT H l m->∀x∈m,(tupleKind (bQ P w)).is h x.1 x.2.1:=by
  intro l m q
  induction q with
  |nil=>intro x hx;cases hx
  |cons hq t ih=>
   intro x hx
   rcases Pf.mp hx with rfl|hx
   .exact lj ok (hq.1▸hq.2.1)
   .exact ih x hx
 exact all r
end
def JX(kvs:List (List Key×V))(k:List Key)(ep:Nat):Nat:=if(lG kvs k).isSome=true then ep else ep+1
def KT.ep{H:Hp}(r:KT H kvs xs)(k:List Key)(ep:Nat):Lo xs k ep=JX kvs k ep:=by
 unfold Lo JX
 rw[(r.val k).isSome_eq,SQ]
def o7(H:Hp)(a:Addr)(y:V)(r:Option V):Prop:=
 (∃kvs k,Rd H a (.dK kvs)/\y=kV k/\r=lG kvs k)\/∃kvs ep k b,Rd H a (.dT kvs ep)/\y=.ref b/\Rd H b (.tup (k.map kV))/\r=lG kvs k
def FC(H:Hp)(a:Addr)(y v:V)(H':Hp):Prop:=
 (∃kvs k,H a=some (.dK kvs)/\y=kV k/\kvs.length<sizeLine/\H'=upd H a (.dK (putK kvs k v)))\/
 ∃kvs ep k b,H a=some (.dT kvs ep)/\y=.ref b/\Rd H b (.tup (k.map kV))/\kvs.length<sizeLine/\H'=upd H a (.dT (putK kvs k v) (JX kvs k ep))
def o7.t{H:Hp}{a b:Addr}(e:H a=some (.dT kvs ep))(eb:Rd H b (.tup (k.map kV))):o7 H a (.ref b) (lG kvs k):=.inr ⟨kvs,ep,k,b,.inl e,rfl,eb,rfl⟩
def FC.t{H:Hp}{a b:Addr}{v:V}(e:H a=some (.dT kvs ep))(eb:Rd H b (.tup (k.map kV)))(hl:kvs.length<sizeLine) :
  FC H a (.ref b) v (upd H a (.dT (putK kvs k v) (JX kvs k ep))):=.inr ⟨kvs,ep,k,b,e,rfl,eb,hl,rfl⟩
section
variable {X:Cx}{pins:List (Addr×Obj)}{σ:St}{H:Hp}{s:Shared}{a:Addr}{y v:V}{u r:Value}{o:Option V}{A:Around}{E:@B_}
def Inv.big(I:@At):sysModules<s.heap.objs.size:=by
 have h:mainGlobals<s.heap.objs.size:=(I.mod.glob.keeps I.bk).lt
 exact RT @A_ h
def BI{Q:@B_}(hu:A.units+1<cLine)(I:@At)(g:o7 H a y (some v))(ry:RelV y u)(h:∀w' s',Inv X pins σ H s'->RelV v w'->Q w' s') :
  wpAny (model X.prog X.w) A (getItem (.ref a) u) Q E s:=by
 rcases g with⟨kvs,k,e,ey,l⟩|⟨kvs,ep,k,b,e,ey,eb,l⟩
 .subst ey
  let⟨z,hd,vs,rel,dd⟩:=ya I.hok e
  obtain⟨w',hw,rw'⟩:=rD.some_of (by rw[l];exact rel.val k)
  exact wpAny_getItem_of (xf ry) dd.mapOf hw (h w' _ (I.tok _) rw')
 .subst ey
  cases(show u=Value.ref b from ry)
  let⟨z,hd,xs,rel,dd⟩:=AX I.hok e
  obtain⟨w',hw,rw'⟩:=rD.some_of (by rw[l];exact rel.val k)
  let⟨p,hp,hp2⟩:=R7.mp hw
  refine wpAny_getItem_heap (Sy hu) (lj I.hok eb) dd hp ?_
  rw[hp2]
  exact h w' _ (I.tok _) rw'
def NY{Q:@B_}(hu:A.units+1<cLine)(I:@At)(g:o7 H a y o)(ry:RelV y u)(h:∀s',Inv X pins σ H s'->Q (.bool o.isSome) s') :
  wpAny (model X.prog X.w) A (compareOp .In u (.ref a)) Q E s:=by
 rcases g with⟨kvs,k,e,ey,l⟩|⟨kvs,ep,k,b,e,ey,eb,l⟩
 .subst ey
  let⟨z,hd,vs,rel,dd⟩:=ya I.hok e
  refine wpAny_in_of (xf ry) hd dd.mapOf ?_
  rw[<-(rel.val k).isSome_eq,<-l]
  exact h _ (I.tok _)
 .subst ey
  cases(show u=Value.ref b from ry)
  let⟨z,hd,xs,rel,dd⟩:=AX I.hok e
  refine wpAny_in_heap (Sy hu) (lj I.hok eb) hd dd ?_
  have q:=(rel.val k).isSome_eq
  rw[SQ]at q
  rw[<-q,<-l]
  exact h _ (I.tok _)
def Gb{Q:@B_}(hu:A.units+1<cLine)(I:@At)(g:o7 H a y o)(ry:RelV y u)(h:∀s',Inv X pins σ H s'->Q (.bool (!o.isSome)) s') :
  wpAny (model X.prog X.w) A (compareOp .NotIn u (.ref a)) Q E s:=by
 rcases g with⟨kvs,k,e,ey,l⟩|⟨kvs,ep,k,b,e,ey,eb,l⟩
 .subst ey
  let⟨z,hd,vs,rel,dd⟩:=ya I.hok e
  refine wpAny_notIn_of (xf ry) hd dd.mapOf ?_
  rw[<-(rel.val k).isSome_eq,<-l]
  exact h _ (I.tok _)
 .subst ey
  cases(show u=Value.ref b from ry)
  let⟨z,hd,xs,rel,dd⟩:=AX I.hok e
  refine wpAny_notIn_heap (Sy hu) (lj I.hok eb) hd dd ?_
  have q:=(rel.val k).isSome_eq
  rw[SQ]at q
  rw[<-q,<-l]
  exact h _ (I.tok _)
def oE{t':Nat}(I:@At)(mu:L1 (H a))(hs:Heap.SameBut a s.heap h')(he:∃q,h'.get? a=some q)(new:bE X.prog X.w (upd H a ob) h' a ob) :
  Inv X pins σ (upd H a ob) {s with heap:=h',toks:=t'}:=
 I.write mu (.inl rfl) (λb q hb z=>(hs.2 b hb).trans z) he new
def Kr{P:Program}{w:World}{H':Hp}(z:kvs.length<=sizeLine)(hd:(a==sysModules)=false)(rel:KV kvs vs)(dd:h'.DictOf (bQ P w) a vs) :
  bE P w H' h' a (.dK kvs):=⟨z,hd,vs,rel,dd⟩
def CJ{Q:Unit->Shared->Prop}(hu:A.units+1<cLine)(I:@At)(g:FC H a y v H')(ry:RelV y u)(rv:RelV v r)(h:∀s',Inv X pins σ H' s'->Q () s') :
  wpAny (model X.prog X.w) A (setItem (.ref a) u r) Q E s:=by
 rcases g with⟨kvs,k,e,ey,l,eH⟩|⟨kvs,ep,k,b,e,ey,eb,l,eH⟩
 .subst ey eH
  let⟨z,hd,vs,rel,dd⟩:=MB I.hok e
  have hz:vs.length<=sizeLine:=by rw[<-rel.length];exact z
  have hl:(putK kvs k v).length<=sizeLine:=by have:=gO kvs k v;omega
  refine wpAny_setItem_pairs (xf ry) dd λh' dd' hs=>h _ ?_
  have he:∃q,h'.get? a=some q:=let⟨q,_,_,hq,_⟩:=dd';⟨q,hq⟩
  exact oE I (by rw[e];exact True.intro) hs he (Kr hl hd (rel.put k rv) dd')
 .subst ey eH
  cases(show u=Value.ref b from ry)
  let⟨z,hd,xs,rel,dd,di⟩:=jA I.hok (.inl e)
  have hz:xs.length<=sizeLine:=by rw[<-Paired.length rel];exact z
  have hl:(putK kvs k v).length<=sizeLine:=by have:=gO kvs k v;omega
  refine Ey (Sy hu) (lj I.hok eb) di dd hz λh' dd' hs=>h _ ?_
  obtain⟨q,hq⟩:∃q,h'.get? a=some q:=let⟨q,_,hq,_⟩:=dd';⟨q,hq⟩
  refine oE I (by rw[e];exact True.intro) hs ⟨q,hq⟩ ⟨hl,hd,_,(rel.put k eb rv).keeps λc ys ec=>?_,rel.ep k ep▸dd'⟩
  exact ec.imp (λec=>by rw[av (mJ ec e (λz=>nomatch z))];exact ec) λ⟨o,ec⟩=>⟨o,by rw[av (mJ ec e (λz=>nomatch z))];exact ec⟩
end
def J2(i:Expr):Prop:=∀ov iv,subscripted i false ov iv=operate [ov,iv] (getItem ov iv)
def Gh{prog:Program}{w:World}{A:Around}{E:@B_}{s:Shared}{env:Env}{value slice:Expr}{pos:Pos}{T id:String}{Q:@B_}
  (hl:typeLookup (.type T) "__getitem__"=pure (some (.builtin id))) (hs:J2 slice)
  (h:wpAny (model prog w) A (eval value env) (λo s₁=>wpAny (model prog w) A (eval slice env) (λi s₂=>s₂.TypeIs o T/\wpAny (model prog w) A (getItem o i) Q E s₂) E s₁) E s) :
  wpAny (model prog w) A (eval (.Subscript value slice pos) env) Q E s:=by
 refine Subscript_ (QQ h (λo s₁ h₁=>QQ h₁ (λi s₂ h₂=>?_) λ_ _ x=>x) λ_ _ x=>x)
 let⟨hT,h₂⟩:=h₂
 unfold subscriptTail
 refine O8 ?_
 rw[getitemInPython_of_ne hT.not_modules]
 refine O8 (Q9 hT hl ?_)
 have fin:wpAny (model prog w) A (subscripted slice false o i) (λr s₃=>wpAny (model prog w) A (letTemporaryGo value o r >>= λ_=>pure r) Q E s₃) E s₂:=by
  rw[hs o i]
  exact wpAny_operating (QQ h₂ (λr s₃ h₃=>O8 (wpAny_letTemporaryGo (Pa h₃))) λ_ _ x=>x)
 first
  |exact Pa (O8 fin)
  |exact O8 (Pa (O8 fin))
  |exact O8 fin
def xu{X:Cx}{pins:List (Addr×Obj)}{σ:St}{H:Hp}{s:Shared}{a:Addr}{y:V}{o:Option V}(I:@At)(g:o7 H a y o):s.TypeIs (.ref a) "dict":=by
 rcases g with⟨kvs,k,e,_,_⟩|⟨kvs,ep,k,b,e,_,_,_⟩
 .let⟨_,_,vs,_,dd⟩:=ya I.hok e
  exact dd.typeIs
 .let⟨_,_,xs,_,dd⟩:=AX I.hok e
  exact dd.typeIs
def Mv(td ty:TE):TE:=λσ H Q=>td σ H λx H1=>ty σ H1 λy H2=>∃a v,x=.ref a/\o7 H2 a y (some v)/\Q v H2
def LB(td ty tv:TE):TS:=λD σ H=>tv σ H λv H1=>td σ H1 λx H2=>ty σ H2 λy H3=>∃a H4,x=.ref a/\FC H3 a y v H4/\D.nx σ H4
section
variable {X:Cx}{o i e value:Expr}{pos pos' tpos:Pos}{td ty tv:TE}
def FX(hu:X.A.units+1<cLine)(ho:PE X o td)(hi:PE X i ty)(hs:J2 i):PE X (.Subscript o i pos) (Mv td ty):=by
 intro pins s σ H Q I h
 refine Gh PySem.F.slot_dict_getitem.lookup hs (cn (ho pins s σ H _ I h) λu s1 ⟨x,H1,I1,rx,q1⟩=>cn (hi pins s1 σ H1 _ I1 q1) λiv s2 ⟨y,H2,I2,ry,a,v,ex,g,q2⟩=>?_)
 subst ex
 obtain rfl:u=Value.ref a:=rx
 exact⟨xu I2 g,BI hu I2 g ry λw' s3 I3 rw'=>⟨v,H2,I3,rw',q2⟩⟩
def GZ(hu:X.A.units+1<cLine)(ho:PE X o td)(hi:PE X i ty)(hv:PE X value tv)(hs:swapsWith value (some (.Subscript o i pos')) pos.line X.env=pure false) :
  PS X (.Assign [.Subscript o i pos'] value pos) (LB td ty tv):=by
 intro pins s σ H D I h
 refine wpAny_Assign_Subscript (cn (hv pins s σ H _ I h) λr s1 ⟨v,H1,I1,rv,q1⟩=>cn (ho pins s1 σ H1 _ I1 q1) λu s2 ⟨x,H2,I2,rx,q2⟩=>cn (hi pins s2 σ H2 _ I2 q2) λiv s3 ⟨y,H3,I3,ry,a,H4,ex,g,q3⟩=>?_) hs
 subst ex
 obtain rfl:u=Value.ref a:=rx
 exact CJ hu I3 g ry rv λs4 I4=>⟨σ,H4,I4,q3⟩
end
def wF{P:Program}{w:World}{H:Hp}(h:Heap)(hb:sysModules<h.objs.size):bE P w H (h.push {cls:=.type "dict",data:=.dict #[]}) h.objs.size (.dT [] 0):=
 ⟨P9 _,So.mpr (Ne.symm (P4 hb)),[],.nil,_,#[],Pl _ rfl,⟨rfl,rfl,rfl⟩,rfl,rfl,Rw⟩
def Kx:TE:=λ_ H Q=>∀p,H p=none->Q (.ref p) (upd H p (.dT [] 0))
section
variable {X:Cx}{pos:Pos}
def Fu:PE X (.Dict [] [] pos) Kx:=λpins s σ H Q I h=>
 wpAny_Dict_empty ⟨.ref s.heap.objs.size,_,I.laid (λ_ _ q=>Pb _ q) (Pd _) (wF s.heap I.big),rfl,h _ (I.hok.fresh (Pd _))⟩
end
end L2
namespace L2
open PySem
section
variable {K:Frag}{h:Heap}{mg:Str->Option Value}
theorem u5{α:Type}{P:List α->Prop}(q:∀a,P [a]):∀us:List α,us.length=1->P us
 | [a],_=>q a
theorem ln2{α:Type}{P:List α->Prop}(q:∀a b,P [a,b]):∀us:List α,us.length=2->P us
 | [a,b],_=>q a b
theorem Nd{α:Type}{P:List α->Prop}(q:∀a b c,P [a,b,c]):∀us:List α,us.length=3->P us
 | [a,b,c],_=>q a b c
def aY(x:Str)(st:Stmt)(ps:List Str):Prop:=∀(kV doc pm:Value) (an:Option Addr) (cdv ct:Value) (us:List Value),us.length=ps.length->bindArgs (PySem.W.fnOf x x (jw st) (c8 st) (aq st) .none kV doc pm an cdv ct) ⟨us,[]⟩=pure (ps.zip us)
structure Fo(K:Frag)(mg:Str->Option Value)(x:Str)(st:Stmt)(ps:List Str):Prop where
 ex:∃f fd,jb K mg x st ps f fd
def bu{st:Stmt}{oc:Value}{od an:Option Addr}{sl:Array (Option Value)}{kV doc pm cdv ct:Value}(X:K.In h)(G:h.Ns mainGlobals mg)(b:aY x st ps)(a:PySem.W.nsIn K mainGlobals x=some (some (.ref f)))
  (l:K.lookup f=some ⟨oc,od,.func (PySem.W.fnOf x x (jw st) (c8 st) (aq st) .none kV doc pm an cdv ct),sl⟩) (c:PySem.W.codeIn K cdv x=true) (k:PySem.W.keepIn K (.ref f)=true):Fo K mg x st ps:=
 ⟨⟨f,_,PySem.W.mg_of X G a,yL l c k,(yL l c k).binds b⟩⟩
def N5:List Str:=["len","range","enumerate","zip","min","max","sum","abs","sorted","reversed","int","str","bool","list","tuple","dict","set","isinstance","repr","any","all","divmod"]
def NR(K:Frag):Bool:=N5.all λx=>match PySem.W.nsIn K mainGlobals x with
 |some none=>true
 |_=>false
def J9(q:NR K=true)(hx:x∈N5):PySem.W.nsIn K mainGlobals x=some none:=by
 have:=Qi.mp q x hx
 split at this
 .assumption
 .cases this
def MM(X:K.In h)(G:h.Ns mainGlobals mg)(q:NR K=true):ji mg:=by
 have key:∀{x:Str},x∈N5->mg x=none:=λhx=>PySem.W.mg_none_of X G (J9 q hx)
 constructor<;>exact key @A_
end
end L2
namespace PySem
open Sem (wp)
namespace F
def vD:typeLookup (.type "list") "keys"=pure none:=by rw[RG,QX];kernel_rfl
end F
section
variable {prog:Program}{w:World}{A:Around}{E:@B_}{h:Heap}{g:Array GenState}{d:Drawn}{t:Nat}{os:OsState}{a:Addr}{o:Obj}
def p8{tk:Tok}{Q:Fin->Shared->Prop}{items:Array Value}{n:Nat}{sl:Array (Option Value)}(hx:h.get? a=some {cls:=.type "list",dict:=none,data:=.seq items n,slots:=sl})(hh:A.handled=none)
  (hq:∀h' t' e,(∀b q,h.get? b=some q->h'.get? b=some q)->(∃q,h'.get? e=some q/\q.cls=.type "AttributeError")->E (.ref e) ⟨h',g,d,t',os⟩) :
  wpAny (model prog w) A (Builtin.«object.__getattribute__» ⟨[.ref a,.str "keys" tk],[]⟩) Q E ⟨h,g,d,t,os⟩:=by
 have hT:(⟨h,g,d,t,os⟩:Shared).TypeIs (.ref a) "list":=⟨_,hx,rfl⟩
 have f4:=F.vD
 repeat(any_goals(first|assumption|wp_step))
 have hm:(Str.ofString (toString "'"++toString ((Manifest.find? "list").elim "list" λx=>x.tpName)++toString "' object has no attribute '")++Str.ofString "keys"++Str.ofString "'").length<=sizeLine:=by decide +kernel
 generalize(Str.ofString (toString "'"++toString ((Manifest.find? "list").elim "list" λx=>x.tpName)++toString "' object has no attribute '")++Str.ofString "keys"++Str.ofString "'")=msg at hm
 unfold raiseAttrError
 refine O8 (wpAny_mkStr (O8 ?_) hm)
 unfold newExc newTuple
 refine O8 (Qx ?_)
 refine O8 (wpAny_of_eq (a:=Value.none) (by first|rfl|kernel_rfl) (Qx ?_))
 dsimp only
 obtain⟨e,he⟩:∃e,(h.push {cls:=.type "tuple",data:=.seq #[Value.str msg t]}).objs.size=e:=⟨_,rfl⟩
 have hk:∀b q,h.get? b=some q->((h.push {cls:=.type "tuple",data:=.seq #[Value.str msg t]}).push {cls:=.type "AttributeError",data:=.fields (#[.ref h.objs.size,.none,.none,.none,.bool false,.none]++ownMembersOf (.type "AttributeError") [Value.str msg t])}).get? b=some q:=λb q hb=>Pb _ (Pb _ hb)
 have hv:=Pl (h.push {cls:=.type "tuple",data:=.seq #[Value.str msg t]}) (o:={cls:=.type "AttributeError",data:=.fields (#[.ref h.objs.size,.none,.none,.none,.bool false,.none]++ownMembersOf (.type "AttributeError") [Value.str msg t])}) rfl
 generalize((h.push {cls:=.type "tuple",data:=.seq #[Value.str msg t]}).push {cls:=.type "AttributeError",data:=.fields (#[.ref h.objs.size,.none,.none,.none,.bool false,.none]++ownMembersOf (.type "AttributeError") [Value.str msg t])})=h1 at hk hv
 rw[he]at hv ⊢
 have hv:h1.get? e=some {cls:=.type "AttributeError",data:=.fields #[.ref h.objs.size,.none,.none,.none,.bool false,.none,unsetMember,unsetMember]}:=hv
 have hn:h.get? e=none:=Heap.get?_none_of_le (by rw[<-he,QJ];omega)
 have hTe:∀t',(⟨h1,g,d,t',os⟩:Shared).TypeIs (.ref e) "AttributeError":=λt'=>⟨_,hv,rfl⟩
 have hTe2:=hTe (t+1+1)
 have f5:isSubtype (.type "AttributeError") (.type "AttributeError")=pure true:=by rw[Rh];kernel_rfl
 refine O8 (wpAny_mkText ?_)
 dsimp only
 clear hTe hT f4 hx
 unfold noteAttr
 repeat(any_goals(first|assumption|wp_step))
 unfold raiseNew
 refine O8 (wpAny_handled ?_)
 rw[hh]
 first
  |refine wpAny_throw ?_
  |refine O8 (Pa (wpAny_throw ?_))
 refine hq _ _ _ (λb q hb=>?_) ?_
 .rw[Qm h1 _ (λz=>by rw[<-z,hn]at hb;cases hb)];exact hk b q hb
 .exact⟨_,PY _ hv rfl,rfl⟩
def sr{tk:Tok}{E':Result->Shared->Prop}{items:Array Value}{n:Nat}{sl:Array (Option Value)}(hx:h.get? a=some {cls:=.type "list",dict:=none,data:=.seq items n,slots:=sl})(hh:A.handled=none)
  (hq:∀h' t' e,(∀b q,h.get? b=some q->h'.get? b=some q)->(∃q,h'.get? e=some q/\q.cls=.type "AttributeError")->E' (.error (.ref e)) ⟨h',g,d,t',os⟩) :
  codeAny (model prog w) A (.call (.builtin "list.__getattribute__") ⟨[.ref a,.str "keys" tk],[]⟩) E' ⟨h,g,d,t,os⟩:=
 codeAny_call_builtin RY.plain F.entry_list_ga (RY.check _ _ _ _ _ _ _ _ (show(⟨h,g,d,t,os⟩:Shared).TypeIs (.ref a) "list"from⟨_,hx,rfl⟩) (F.args_list_getattribute_2 _ _) (p8 hx hh hq))
def vX{tk:Tok}{Q:@B_}{items:Array Value}{n:Nat}{sl:Array (Option Value)}(hx:h.get? a=some {cls:=.type "list",dict:=none,data:=.seq items n,slots:=sl})(hh:A.handled=none)
  (hq:∀h' t' e,(∀b q,h.get? b=some q->h'.get? b=some q)->(∃q,h'.get? e=some q/\q.cls=.type "AttributeError")->E (.ref e) ⟨h',g,d,t',os⟩) :
  wpAny (model prog w) A (getAttrBy (.ref a) (.str "keys" tk) false) Q E ⟨h,g,d,t,os⟩:=by
 have hT:(⟨h,g,d,t,os⟩:Shared).TypeIs (.ref a) "list":=⟨_,hx,rfl⟩
 have f2:=RY.lookup
 have f3:=RY.bind (.ref a)
 repeat(any_goals(first|assumption|wp_step))
 refine sr hx hh λh' t' e hk hv=>?_
 have hT2:(⟨h',g,d,t',os⟩:Shared).TypeIs (.ref e) "AttributeError":=hv
 have f5:isSubtype (.type "AttributeError") (.type "AttributeError")=pure true:=by rw[Rh];kernel_rfl
 have f6:typeLookup (.type "list") "__getattr__"=pure none:=by rw[RG,QX];kernel_rfl
 have hq2:=hq h' t' e hk hv
 clear hq hT f2 f3
 dsimp only
 unfold getattributeRaised hookBehind hookOrError attributeErrorLeaves
 repeat(any_goals(first|assumption|wp_step))
def CC{Q:Option Value->Shared->Prop}{items:Array Value}{n:Nat}{sl:Array (Option Value)}(hx:h.get? a=some {cls:=.type "list",dict:=none,data:=.seq items n,slots:=sl})(hh:A.handled=none)
  (hq:∀h' t',(∀b q,h.get? b=some q->h'.get? b=some q)->Q none ⟨h',g,d,t',os⟩):wpAny (model prog w) A (getAttr? (.ref a) "keys") Q E ⟨h,g,d,t,os⟩:=by
 unfold getAttr? getAttrBy?
 refine O8 (wpAny_mkText (O8 (wpAny_attempt (vX hx hh λh' t' e hk hv=>?_))))
 have hT2:(⟨h',g,d,t',os⟩:Shared).TypeIs (.ref e) "AttributeError":=hv
 have f5:isSubtype (.type "AttributeError") (.type "AttributeError")=pure true:=by rw[Rh];kernel_rfl
 have hq2:=hq h' t' hk
 dsimp only
 repeat(any_goals(first|assumption|wp_step))
end
end PySem
section
namespace PySem
namespace F
def lP:entryFor table "dict.update.loop"=some Builtin.«dict.update.loop»:=entryFor_of_tree (by kernel_rfl)
def fR:plainId "dict.update.loop"=true:=by decide +kernel
end F
end PySem
namespace L2
open PySem PyProof.Rows
section
variable {X:Cx}{pins:List (Addr×Obj)}{σ:St}{H:Hp}{s:Shared}{a b d l it:Addr}{A:Around}{E:@B_}
def Cz{Q:Unit->Shared->Prop}(hu:A.units<cLine)(I:@At)(e:H a=some (.dT kvs ep))(eb:Rd H b (.tup (k.map kV)))(lk:kvs.length<sizeLine)(rv:RelV v r)
  (h:∀h' t',Heap.SameBut a s.heap h'->Inv X pins σ (upd H a (.dT (putK kvs k v) (JX kvs k ep))) {s with heap:=h',toks:=t'}->Q () {s with heap:=h',toks:=t'}) :
  wpAny (model X.prog X.w) A (dictSet a (.ref b) r) Q E s:=by
 let⟨z,hd,xs,rel,dd,di⟩:=jA I.hok (.inl e)
 have hz:xs.length<=sizeLine:=by rw[<-Paired.length rel];exact z
 have hl:(putK kvs k v).length<=sizeLine:=by have:=gO kvs k v;omega
 refine su hu (lj I.hok eb) di dd hz λh' dd' hs=>h _ _ hs ?_
 obtain⟨q,hq⟩:∃q,h'.get? a=some q:=let⟨q,_,hq,_⟩:=dd';⟨q,hq⟩
 refine oE I (by rw[e];exact True.intro) hs ⟨q,hq⟩ ⟨hl,hd,_,(rel.put k eb rv).keeps λc ys ec=>?_,rel.ep k ep▸dd'⟩
 exact ec.imp (λec=>by rw[av (mJ ec e (λz=>nomatch z))];exact ec) λ⟨o,ec⟩=>⟨o,by rw[av (mJ ec e (λz=>nomatch z))];exact ec⟩
theorem xI{result:Value}{R:Result->Shared->Prop}(hh:A.handled=none)(hu:A.units+1<cLine)(hnd:it≠d)(hl:∀o,fU X.K (upd H d o) l xs)(hf:∀o,ng X pins (upd H d o) it) :
  ∀(rest:List (Addr×Addr×List Key×V)) (i:Nat) (j:Int) (kvs:List (List Key×V)) (ep:Nat) (s:Shared),Inv X pins σ (upd H d (.dT kvs ep)) s->s.heap.IsListIter it l i->xs.drop i=rest.map (λq=>V.ref q.1)->
   (∀q,q∈rest->∀o,fu X.K (upd H d o) q.1 [V.ref q.2.1,q.2.2.2]/\Rd (upd H d o) q.2.1 (.tup (q.2.2.1.map kV)))->kvs.length+rest.length<=sizeLine->
   (∀h' t' e',Inv X pins σ (upd H d (.dT (rest.foldl (λa q=>putK a q.2.2.1 q.2.2.2) kvs) e')) {s with heap:=h',toks:=t'}->R (.ok (.ret result)) {s with heap:=h',toks:=t'})->
   codeAny (model X.prog X.w) A (.builtin "dict.update.loop" ⟨[.ref d,.ref it,rawInt j,result],[]⟩) R s
 | [],i,j,kvs,ep,s,I,hi,hx,_,_,hR=>by
  obtain⟨its,rv,pl,_⟩:=I.list (hl _)
  have hlen:its.length=xs.length:=rv.length.symm
  have hx:its.toArray[i]? =none:=by
   have:xs.length<=i:=by
    have:=congrArg List.length hx
    rw[List.length_drop]at this
    simp at this
    omega
   simp;omega
  refine QN F.lP ?_
  rw[QS F.fR _]
  refine O8 (wpAny_pyNext_list_end hh hi pl.isList hx λh' hk=>?_)
  have I':=I.turnedL (t':=s.toks) (ch:=[it]) (λb o hb e=>hk b o (λz=>hb (by simp[z])) e) (λb hb=>by rw[PU]at hb;exact hb▸hf _)
  exact O8 (Pa (Pa (hR h' s.toks _ I')))
 |q::rest,i,j,kvs,ep,s,I,hi,hx,hq,hz,hR=>by
  let⟨its,rv,pl,_⟩:=I.list (hl _)
  have hxi:xs[i]? =some (V.ref q.1):=by
   have:=congrArg List.head? hx
   rwa [List.head?_drop,PL,List.head?_cons]at this
  obtain⟨u,hu2,ru⟩:∃u,its[i]? =some u/\RelV (V.ref q.1) u:=Vals.get rv hxi
  cases ru
  refine QN F.lP ?_
  rw[QS F.fR _]
  refine O8 (wpAny_pyNext_list_item hi pl.isList (by simpa using hu2) λh' hi' hk=>?_)
  have I':=I.turnedL (t':=s.toks) (ch:=[it]) (λb o hb e=>(hk.2 b (λz=>hb (by simp[z]))).trans e) (λb hb=>by rw[PU]at hb;exact hb▸hf _)
  let⟨ht,hkey⟩:=hq q (Pq ..) (.dT kvs ep)
  let⟨ps,rp,tp,_⟩:=I'.tuple ht
  refine O8 (Qc ?_)
  obtain⟨u,w,rfl,ru,rw'⟩:∃u w,ps= [u,w]/\RelV (V.ref q.2.1) u/\RelV q.2.2.2 w:=by
   cases rp with
   |cons h1 r=>cases r with|cons h2 r=>cases r;exact⟨_,_,rfl,h1,h2⟩
  cases ru
  let⟨o,ho,hoc,n,hod⟩:=tp
  have hT:({s with heap:=h'}:Shared).TypeIs (.ref q.1) "tuple":=⟨o,ho,hoc⟩
  refine O8 (wpAny_tryCatch ?_)
  unfold Builtin.Dict.pairItems
  refine O8 (RW hT ?_)
  rw[Pe @A_]
  refine O8 (SK ho hod (Pa ?_))
  refine Qc ?_
  rw[PR]at hz
  refine Cz hu I' au hkey (@AT) rw' λh2 t2 hs2 I2=>?_
  have eH:upd (upd H d (.dT kvs ep)) d (.dT (putK kvs q.2.2.1 q.2.2.2) (JX kvs q.2.2.1 ep))=upd H d (.dT (putK kvs q.2.2.1 q.2.2.2) (JX kvs q.2.2.1 ep)):=by
   funext c;unfold upd;by_cases z:c=d<;>simp[z]
  rw[eH]at I2
  refine Pa ⟨R1 F.fR _,xI hh hu hnd hl hf rest (i+1) (j+1) _ _ _ I2 ?_ ?_ (λq' hq'=>hq q' (Pk _ hq')) ?_ λh3 t3 e3 I3=>hR h3 t3 e3 I3⟩
  .exact Heap.IsListIter.extBut hi' hs2.extBut hnd
  .rw[<-List.tail_drop,hx];rfl
  .have:=gO kvs q.2.2.1 q.2.2.2;omega
end
end L2
end
namespace L2
open PySem PyProof.Rows
section
variable {X:Cx}{K:Frag}{pins:List V}{σ:St}{H:Hp}{s:Shared}{E:XK}
def C4(K:Frag):List V->Hp->VK->Prop:=λxs H Q=>∃l,∃rest:List (Addr×Addr×List Key×V),xs= [.ref l]/\fU K H l (rest.map λq=>V.ref q.1)/\(∀q,q∈rest->fu K H q.1 [V.ref q.2.1,q.2.2.2]/\Rd H q.2.1 (.tup (q.2.2.1.map kV)))/\
 ∀d ep,H d=none->Q (.ref d) (upd H d (.dT (rest.foldl (λa q=>putK a q.2.2.1 q.2.2.2) []) ep))
def fU.up(h:fU K H l xs)(hd:H d=none):fU K (upd H d o) l xs:=by
 have s:ao H (upd H d o):=ao.new hd
 rcases h with h|h
 .exact .inl (h.mono s)
 .exact .inr h
def fu.up(h:fu K H l xs)(hd:H d=none):fu K (upd H d o) l xs:=by
 have s:ao H (upd H d o):=ao.new hd
 rcases h with h|h
 .exact .inl (h.mono s)
 .exact .inr h
def rG(hc:X.calm=true)(hu:X.A.units+2<cLine):cW X (.type "dict") (C4 X.K):=by
 intro pins s σ H xs us Q I r h
 obtain⟨l,rest,rfl,hl,hq,k⟩:=h
 obtain⟨u,rfl,rx⟩:=vals1 r
 cases rx
 have hh:=I.ok.hd hc
 have hd0:H s.heap.objs.size=none:=I.hok.fresh (Pd _)
 refine callType_codes (Q₁:=λobj s₁=>obj=.ref s.heap.objs.size/\s₁={s with heap:=s.heap.push {cls:=.type "dict",data:=.dict #[]}}) F.kt_called_dict (F.kt_typeCall_dict_1 _) F.entry_dict_init (kt_code_dict_new _ ⟨rfl,rfl⟩) ?_
 rintro obj s₁ ⟨rfl,rfl⟩
 have hnew:(s.heap.push {cls:=.type "dict",data:=.dict #[]}).DictOf (bQ X.prog X.w) s.heap.objs.size []:=Heap.DictOf.new s.heap
 have hsm:(s.heap.objs.size==sysModules)=false:=by
  have:=I.big
  rw[So];exact RS this
 have I1:Inv X pins σ (upd H s.heap.objs.size (.dT [] 0)) {s with heap:=s.heap.push {cls:=.type "dict",data:=.dict #[]},toks:=s.toks}:=I.laid (λ_ _=>Pb _) (Pd _) ⟨P9 _,hsm,[],.nil,_,_,Pl _ rfl,by trivial,rfl,rfl,Rw⟩
 refine⟨hnew.typeIs,F.args_dict_init_2 _ _,?_⟩
 unfold Builtin.«dict.__init__»
 refine O8 ?_
 unfold Builtin.Dict.selfAndRest
 refine O8 (Sb hnew.typeIs ?_)
 refine Pa ?_
 show wpAny _ _ (Builtin.Dict.updateFrom "dict.__init__" s.heap.objs.size (.ref l) [] .none) _ _ _
 unfold Builtin.Dict.updateFrom
 let⟨its,rv,pl,hz⟩:=I1.list (hl.up hd0)
 let⟨⟨cls,dd,data,sl⟩,n,ho,hoc,hod,hodd⟩:=id pl
 simp only at hoc hod hodd
 subst hoc hod hodd
 refine O8 (RW ⟨_,ho,rfl⟩ ?_)
 rw[Pe @A_]
 refine O8 (CC ho hh λh1 t1 hk1=>?_)
 have I2:=I1.kept (t':=t1) hk1
 let⟨its2,rv2,pl2,_⟩:=I2.list (hl.up hd0)
 rw[Pe (by rfl)]
 have hdl:s.heap.objs.size<h1.objs.size:=by
  obtain⟨o,e⟩:∃o,h1.get? s.heap.objs.size=some o:=⟨_,hk1 _ _ (Pl _ rfl)⟩
  exact Po e
 have hnd:h1.objs.size≠s.heap.objs.size:=RS hdl
 have hfi:H h1.objs.size=none:=by
  have:=I2.hok.fresh (Pd h1.objs.size)
  rwa [av hnd]at this
 refine O8 (SJ (O8 (RJ pl2.isList ?_)))
 have I3:Inv X pins σ (upd H s.heap.objs.size (.dT [] 0)) {s with heap:=h1.push {cls:=.type "list_iterator",data:=.fields #[.ref l,.int 0 0]},toks:=t1}:=I2.kept (λ_ _=>Pb _)
 refine Pa ⟨R1 F.fR _,xI (A:=X.A.in1) hh (by show X.A.units+1+1<cLine;exact hu) hnd (λo=>hl.up hd0) (λo=>I2.fpOk (Pd _) (by rw[av hnd];exact hfi)) rest 0 0 [] 0 _ I3 ⟨_,Pl _ rfl,rfl,rfl⟩ rfl (λq hq' o=>⟨(hq q hq').1.up hd0,(hq q hq').2.mono (ao.new hd0)⟩) (by rw[Pc]at hz;simpa using hz) λh' t' e' I4=>?_⟩
 exact⟨rfl,.ref _,_,I4,rfl,k _ _ hd0⟩
end
section
variable {X:Cx}{K:Frag}{σ:St}{G H:Hp}{s:Shared}{E:XK}
def lW(K:Frag):Bool:=K.all λp=>match p.2.cls,p.2.data with
 | .type "tuple",.seq its _=>match its.toList with
  | [.int _ _,.int _ _]=>false
  |_=>true
 |_,_=>true
theorem E9{α:Type}{a:Addr}{o:α}:∀{L:List (Addr×α)},L.lookup a=some o->(a,o)∈L
 | (b,u)::L,h=>by
  rw[Sj]at h
  cases c:a==b with
  |true=>rw[c]at h;cases h;rw[eq_of_beq c];exact Pq ..
  |false=>rw[c]at h;exact Pk _ (E9 h)
def vC{a:Addr}{i j:Int}(hn:lW K=true)(h:fu K G a [.int i,.int j]):Rd G a (.tup [.int i,.int j]):=by
 rcases h with h|⟨o,its,n,hk,hc,hd,hz,r,_⟩
 .exact h
 .exfalso
  unfold lW at hn
  rw[Qi]at hn
  have hm:(a,o)∈K:=E9 hk
  have:=hn _ hm
  simp only[hc,hd]at this
  generalize its.toList=us at r this
  cases r with
  |cons h1 r=>cases r with
   |cons h2 r=>
    cases r
    obtain⟨t1,rfl⟩:=h1
    obtain⟨t2,rfl⟩:=h2
    simp at this
def kP(p:Int×Int):List Key:=[.inl p.1,.inl p.2]
def qP:kP p=kP q↔p=q:=by
 unfold kP
 constructor
 .intro h
  simp at h
  exact Prod.ext h.1 h.2
 .intro h;rw[h]
def oK(acc:List ((Int×Int)×D))(p:Int×Int)(d:D):List ((Int×Int)×D):=
 if(acc.any λkv=>decide (kv.1=p))=true then acc.map λkv=>if kv.1=p then(kv.1,d)else kv else acc++[(p,d)]
abbrev KP(K:Frag)(G:Hp):List (List Key×V)->List ((Int×Int)×D)->Prop:=Paired λa b=>a.1=kP b.1/\Rp K G a.2 b.2
theorem KP.any(h:KP K G kvs acc)(p:Int×Int):(kvs.any λkv=>decide (kv.1=kP p))=acc.any λkv=>decide (kv.1=p):=by
 induction h with
 |nil=>rfl
 |cons h _ ih=>
  rw[Rf,Rf,ih,h.1]
  congr 1
  rw[decide_eq_decide];exact qP
theorem KP.repl(hv:Rp K G v d):∀{kvs:List (List Key×V)} {acc:List ((Int×Int)×D)},KP K G kvs acc->KP K G (kvs.map λkv=>if kv.1=kP p then(kv.1,v)else kv) (acc.map λkv=>if kv.1=p then(kv.1,d)else kv)
 |_,_,.nil=>.nil
 | (a,_)::_,(b,_)::_,.cons h1 t=>by
  rw[PL,PL]
  refine .cons ?_ (KP.repl hv t)
  obtain⟨e,h1⟩:=h1
  simp only at e h1
  subst e
  by_cases c:b=p
  .simp only[Pe (qP.mpr c),Pe c];exact⟨trivial,hv⟩
  .simp only[Pg (λz=>c (qP.mp z)),Pg c];exact⟨trivial,h1⟩
theorem KP.snoc(hv:Rp K G v d):∀{kvs:List (List Key×V)} {acc:List ((Int×Int)×D)},KP K G kvs acc->KP K G (kvs++[(kP p,v)]) (acc++[(p,d)])
 |_,_,.nil=>.cons ⟨rfl,hv⟩ .nil
 |_,_,.cons h1 t=>.cons h1 (KP.snoc hv t)
def KP.put(h:KP K G kvs acc)(p:Int×Int)(hv:Rp K G v d):KP K G (putK kvs (kP p) v) (oK acc p d):=by
 unfold putK oK
 rw[h.any p]
 split
 .exact h.repl hv
 .exact h.snoc hv
theorem KP.rp(h:KP K G kvs acc):mZ K G kvs (acc.map λx=>(.tuple [.int x.1.1,.int x.1.2],x.2)):=by
 induction h with
 |nil=>exact .nil
 | @cons a b _ _ h _ ih=>
  let⟨k,v⟩:=a
  obtain⟨e,h⟩:=h
  simp only at e h
  subst e
  exact .cons h ih
def MX:D->Option ((Int×Int)×D)
 | .tuple [.tuple [.int a,.int b],v]=>some ((a,b),v)
 |_=>none
def FP:List D->Option (List ((Int×Int)×D))
 | []=>some []
 |d::ds=>match MX d,FP ds with
  |some x,some L=>some (x::L)
  |_,_=>none
def Ld(h:MX d=some x):d=.tuple [.tuple [.int x.1.1,.int x.1.2],x.2]:=by
 unfold MX at h
 split at h
 .cases h;rfl
 .cases h
abbrev OV(K:Frag)(G:Hp):List (Addr×Addr×List Key×V)->List ((Int×Int)×D)->Prop:=Paired λq x=>q.2.2.1=kP x.1/\Rp K G q.2.2.2 x.2
theorem Bj(hn:lW K=true):∀{ds:List D} {xs:List V} {L:List ((Int×Int)×D)},bS K G xs ds->FP ds=some L->∃rest:List (Addr×Addr×List Key×V),xs=rest.map (λq=>V.ref q.1)/\OV K G rest L/\∀q,q∈rest->fu K G q.1 [V.ref q.2.1,q.2.2.2]/\Rd G q.2.1 (.tup (q.2.2.1.map kV))
 | [],_,L,.nil,h=>by cases h;exact⟨[],rfl,.nil,(λq hq=>by cases hq)⟩
 |d::ds,_,L,.cons (x:=x) h t,e=>by
  unfold FP at e
  cases e1:MX d with
  |none=>rw[e1]at e;cases e
  |some y=>
   cases e2:FP ds with
   |none=>rw[e1,e2]at e;cases e
   |some M=>
    rw[e1,e2]at e
    cases e
    obtain⟨rest,rfl,h1,h2⟩:=Bj hn t e2
    rw[Ld e1]at h
    cases h with
    | @tup a zs _ hq r=>
     cases r with
     | @cons z _ _ _ r1 r=>cases r with
      | @cons w _ _ _ r2 r=>
       cases r
       cases r1 with
       | @tup b ws _ hq2 r3=>
        have hw:ws= [V.int y.1.1,V.int y.1.2]:=by
         cases r3 with
         |cons a1 r3=>cases r3 with
          |cons a2 r3=>cases r3;cases a1;cases a2;rfl
        subst hw
        refine⟨(a,b,kP y.1,w)::rest,rfl,.cons ⟨rfl,r2⟩ h1,λq hq'=>?_⟩
        rcases Pf.mp hq' with rfl|hq'
        .exact⟨hq,vC hn hq2⟩
        .exact h2 q hq'
def rk:D->Option D
 | .list ds=>(FP ds).map λL=>.dict ((L.foldl (λa x=>oK a x.1 x.2) []).map λx=>(.tuple [.int x.1.1,.int x.1.2],x.2))
 |_=>none
theorem KP.fold:∀{rest:List (Addr×Addr×List Key×V)} {L:List ((Int×Int)×D)} {kvs:List (List Key×V)} {acc:List ((Int×Int)×D)},OV K G rest L->KP K G kvs acc->KP K G (rest.foldl (λa q=>putK a q.2.2.1 q.2.2.2) kvs) (L.foldl (λa x=>oK a x.1 x.2) acc)
 |_,_,_,_,.nil,h=>h
 |q::_,_,_,_,.cons h1 t,h=>by
  rw[Rk,Rk]
  refine KP.fold t ?_
  rw[h1.1]
  exact h.put _ h1.2
theorem Ai(hn:lW K=true):zW K (λx=>C4 K [x]) rk .v:=by
 intro B G H x dx d Q s hB bx e k
 cases dx with
 |list ds=>
  have e:((FP ds).map λL=>PyData.dict ((L.foldl (λa x=>oK a x.1 x.2) []).map λx=>(.tuple [.int x.1.1,.int x.1.2],x.2)))=some d:=e
  cases e1:FP ds with
  |none=>rw[e1]at e;cases e
  |some L=>
   rw[e1]at e
   cases e
   obtain⟨p,xs,rfl,hq,r⟩:=bx.list s
   obtain⟨rest,rfl,hR,h2⟩:=Bj hn r e1
   refine⟨p,rest,rfl,.inl hq,λq hq=>⟨(h2 q hq).1.grow s.grow,(h2 q hq).2.mono s⟩,λd ep hd=>?_⟩
   have xn:=Ext.new s (o:=.dT (rest.foldl (λa q=>putK a q.2.2.1 q.2.2.2) []) ep) hd
   exact k _ _ _ xn (.dT au ((KP.fold hR .nil).rp.mono xn.gg))
 |_=>cases e
end
end L2
section
set_option Elab.async false
namespace RO
open PySem L2
def AY(K:Frag):Sp:=λvs H Q _=>∃(a:Addr) (ns:List Int),vs= [.ref a]/\fU K H a (ns.map V.int)/\∀H',ao H H'->Q (.bl true) H'
def yE:aY "is_whole" RQ.jX ["thing"]:=λ_ _ _ _ _ _=>u5 λ_=>rfl
def z0:aY "is_below" RQ.jZ ["thing","bound"]:=λ_ _ _ _ _ _=>ln2 λ_ _=>rfl
def BN:aY "is_many" RQ.mf ["thing"]:=λ_ _ _ _ _ _=>u5 λ_=>rfl
def BB:aY "is_pair" RQ.mi ["thing","many"]:=λ_ _ _ _ _ _=>ln2 λ_ _=>rfl
def ve:aY "every_pair" RQ.fP ["many"]:=λ_ _ _ _ _ _=>u5 λ_=>rfl
def DG:aY "closed" ou ["many","pairs"]:=λ_ _ _ _ _ _=>ln2 λ_ _=>rfl
def zF:aY "has_ring" RQ.kx ["pairs"]:=λ_ _ _ _ _ _=>u5 λ_=>rfl
def zL:aY "is_order" RQ.kN ["thing"]:=λ_ _ _ _ _ _=>u5 λ_=>rfl
def vm:aY "need_order" RQ.ie ["thing"]:=λ_ _ _ _ _ _=>u5 λ_=>rfl
def xm:aY "are_apart" RQ.jr ["order","a","b"]:=λ_ _ _ _ _ _=>Nd λ_ _ _=>rfl
def DN:aY "places" RQ.nR ["row"]:=λ_ _ _ _ _ _=>u5 λ_=>rfl
def Gu:aY "turns" RQ.qq ["order"]:=λ_ _ _ _ _ _=>u5 λ_=>rfl
def Ck:aY "rows_by" RQ.ml ["points"]:=λ_ _ _ _ _ _=>u5 λ_=>rfl
def vf:aY "turn_table" RQ.hZ ["order"]:=λ_ _ _ _ _ _=>u5 λ_=>rfl
def sI:aY "forced_among" RQ.fN ["table","many","turn"]:=λ_ _ _ _ _ _=>Nd λ_ _ _=>rfl
def xZ:aY "back_turn" RQ.je ["turn"]:=λ_ _ _ _ _ _=>u5 λ_=>rfl
def oO:aY "forced_in_turn" RQ.dY ["table","many","turn"]:=λ_ _ _ _ _ _=>Nd λ_ _ _=>rfl
def CN:aY "path_to" RQ.mz ["came","turn"]:=λ_ _ _ _ _ _=>ln2 λ_ _=>rfl
def xo:aY "find_knot" RQ.jy ["table","many"]:=λ_ _ _ _ _ _=>ln2 λ_ _=>rfl
def x6:aY "points_by" RQ.ju ["order","chosen"]:=λ_ _ _ _ _ _=>ln2 λ_ _=>rfl
def qM:aY "chosen_turns" RQ.fI ["table","many"]:=λ_ _ _ _ _ _=>ln2 λ_ _=>rfl
def oM:aY "points_or_knot" RQ.dC ["order"]:=λ_ _ _ _ _ _=>u5 λ_=>rfl
def zx:aY "two_rows" RQ.kg ["order"]:=λ_ _ _ _ _ _=>u5 λ_=>rfl
def Bw:aY "one_row" RQ.mB ["order"]:=λ_ _ _ _ _ _=>u5 λ_=>rfl
def wQ:aY "_law_cell" RQ.jx ["script","k"]:=λ_ _ _ _ _ _=>ln2 λ_ _=>rfl
def zt:aY "_law_mix" RQ.gy ["cell","k"]:=λ_ _ _ _ _ _=>ln2 λ_ _=>rfl
def yQ:aY "_law_box" RQ.kH ["script","k"]:=λ_ _ _ _ _ _=>ln2 λ_ _=>rfl
def wx:aY "_law_take" RQ.jq ["box","many"]:=λ_ _ _ _ _ _=>ln2 λ_ _=>rfl
def uO:aY "_law_whole" RQ.iE ["thing"]:=λ_ _ _ _ _ _=>u5 λ_=>rfl
def vT:aY "_law_truth" RQ.ig ["found","due"]:=λ_ _ _ _ _ _=>ln2 λ_ _=>rfl
def p7:aY "_law_mixed_up" RQ.fm ["box","some"]:=λ_ _ _ _ _ _=>ln2 λ_ _=>rfl
def tj:aY "_law_closed" RQ.gH ["pairs"]:=λ_ _ _ _ _ _=>u5 λ_=>rfl
def uX:aY "_law_order" RQ.iz ["box","most"]:=λ_ _ _ _ _ _=>ln2 λ_ _=>rfl
def uW:aY "_law_apart" RQ.ik ["order","a","b"]:=λ_ _ _ _ _ _=>Nd λ_ _ _=>rfl
def vv:aY "_law_turns" RQ.iB ["order"]:=λ_ _ _ _ _ _=>u5 λ_=>rfl
def sR:aY "_law_is_row" RQ.gJ ["thing","many"]:=λ_ _ _ _ _ _=>ln2 λ_ _=>rfl
def yb:aY "_law_told" RQ.jm ["many","rows"]:=λ_ _ _ _ _ _=>ln2 λ_ _=>rfl
def uZ:aY "_law_crown" RQ.iD ["box"]:=λ_ _ _ _ _ _=>u5 λ_=>rfl
def pA:aY "_law_any_order" RQ.dE ["box","most"]:=λ_ _ _ _ _ _=>ln2 λ_ _=>rfl
def uT:aY "_law_right" RQ.ic ["found","order"]:=λ_ _ _ _ _ _=>ln2 λ_ _=>rfl
def IP:Prop:=∀{l:PySem.W.OpenLaw} {w:World} {K:Frag} {h:Heap} {mg:Str->Option Value} {fa f41:Addr} (X:K.In h) (G:h.Ns mainGlobals mg) (hfa:mg "law"=some (.ref fa))
  {od41 an41:Option Addr} {sl41:Array (Option Value)} {oc41 kV41 dc41 pm41 cd41 ct41:Value} {tMOST_THINGS:Tok}
  (F1:Fo K mg "is_whole" RQ.jX ["thing"])
  (F2:Fo K mg "is_below" RQ.jZ ["thing","bound"])
  (F3:Fo K mg "is_many" RQ.mf ["thing"])
  (F4:Fo K mg "is_pair" RQ.mi ["thing","many"])
  (F5:Fo K mg "every_pair" RQ.fP ["many"])
  (F6:Fo K mg "closed" ou ["many","pairs"])
  (F7:Fo K mg "has_ring" RQ.kx ["pairs"])
  (F8:Fo K mg "is_order" RQ.kN ["thing"])
  (F9:Fo K mg "need_order" RQ.ie ["thing"])
  (F10:Fo K mg "are_apart" RQ.jr ["order","a","b"])
  (F11:Fo K mg "places" RQ.nR ["row"])
  (F12:Fo K mg "turns" RQ.qq ["order"])
  (F13:Fo K mg "rows_by" RQ.ml ["points"])
  (F14:Fo K mg "turn_table" RQ.hZ ["order"])
  (F15:Fo K mg "forced_among" RQ.fN ["table","many","turn"])
  (F16:Fo K mg "back_turn" RQ.je ["turn"])
  (F17:Fo K mg "forced_in_turn" RQ.dY ["table","many","turn"])
  (F18:Fo K mg "path_to" RQ.mz ["came","turn"])
  (F19:Fo K mg "find_knot" RQ.jy ["table","many"])
  (F20:Fo K mg "points_by" RQ.ju ["order","chosen"])
  (F21:Fo K mg "chosen_turns" RQ.fI ["table","many"])
  (F22:Fo K mg "points_or_knot" RQ.dC ["order"])
  (F23:Fo K mg "two_rows" RQ.kg ["order"])
  (F24:Fo K mg "one_row" RQ.mB ["order"])
  (F25:Fo K mg "_law_cell" RQ.jx ["script","k"])
  (F26:Fo K mg "_law_mix" RQ.gy ["cell","k"])
  (F27:Fo K mg "_law_box" RQ.kH ["script","k"])
  (F28:Fo K mg "_law_take" RQ.jq ["box","many"])
  (F29:Fo K mg "_law_whole" RQ.iE ["thing"])
  (F30:Fo K mg "_law_truth" RQ.ig ["found","due"])
  (F31:Fo K mg "_law_mixed_up" RQ.fm ["box","some"])
  (F32:Fo K mg "_law_closed" RQ.gH ["pairs"])
  (F33:Fo K mg "_law_order" RQ.iz ["box","most"])
  (F34:Fo K mg "_law_apart" RQ.ik ["order","a","b"])
  (F35:Fo K mg "_law_turns" RQ.iB ["order"])
  (F36:Fo K mg "_law_is_row" RQ.gJ ["thing","many"])
  (F37:Fo K mg "_law_told" RQ.jm ["many","rows"])
  (F38:Fo K mg "_law_crown" RQ.iD ["box"])
  (F39:Fo K mg "_law_any_order" RQ.dE ["box","most"])
  (F40:Fo K mg "_law_right" RQ.ic ["found","order"])
  (a41:PySem.W.nsIn K mainGlobals "law"=some (some (.ref f41))) (l41:K.lookup f41=some ⟨oc41,od41,.func (PySem.W.fnOf "law" "law" (jw RQ.mK) (c8 RQ.mK) (aq RQ.mK) .none kV41 dc41 pm41 an41 cd41 ct41),sl41⟩) (c41:PySem.W.codeIn K cd41 "law"=true) (k41:PySem.W.keepIn K (.ref f41)=true)
  (zB:NR K=true)
  (yMOST_THINGS:PySem.W.nsIn K mainGlobals "MOST_THINGS"=some (some (.int 8 tMOST_THINGS)))
  (np:lW K=true),∃fd:FuncData,(∀(s:Shared) (v:Value),BindsTo s fd ⟨[v],[]⟩ [("script",v)])/\∀base:Heap,K.In base->base.Ns mainGlobals mg->gS l.prog w K mg base (uL l.prog w) 10 fa fd ["script"] (AY K)
def walk{l:PySem.W.OpenLaw}{q:Program}{loose:List Str}{XP:(Str->Option Value)->Heap->Prop}{YP:World->Heap->Prop}{d:DefRec}{K:Params->Frag}(hn:l.most=some 63)(hdf:d.params.defaults= [])(hi:PyProof.Rows.importsNone q=true)
  (hY:∀(w:World) (h:Heap),YP w h->(K w.params).In h)
  (F:∀(w:World) (mg:Str->Option Value) (fa:Addr) (h:Heap),(K w.params).In h->h.Ns mainGlobals mg->mg d.name=some (.ref fa)->
   ∃fd:FuncData,(∀(s:Shared) (u:Value),BindsTo s fd ⟨[u],[]⟩ [("script",u)])/\∀base:Heap,(K w.params).In base->base.Ns mainGlobals mg->gS l.prog w (K w.params) mg base (uL l.prog w) 10 fa fd ["script"] (AY (K w.params))) :
  PySem.W.WalkO q loose XP YP l.row.toRowW d [] (λf vs=>PySem.call f vs):=
 L2.IA (n:=63) (k:=10) (x:="script") (CX:=λw=>uL l.prog w) (sp:=λw=>AY (K w.params)) hn @A_ hdf hi ⟨rfl,by decide,by decide,rfl⟩ hY F (λ_ _ a ns hl _ hS=>⟨a,ns,rfl,hS,λ_ _=>rfl⟩) λ_ _ _ _ _ z=>by
  obtain⟨_,_,_,_,_,_,_,_,_,z⟩:=z
  exact z
end RO
namespace HD
noncomputable def vw:PySem.Program:=PySem.W.view PySem.Challenge.pw_rowsorder_k36_two_rows_and_one [1,2,3,4,5,6,8,9,11,12,13,14,15,17,19,21,22,23,24,25,26,27,28,29,30,31,32,34,35,36,37,38,39,40,41,42,43,44,45,46,47,48,49,50]
def GW:PySem.Challenge.rw_rowsorder_k36_two_rows_and_one.wellSaid=true:=by kernel_rfl
end HD
section
set_option hygiene false in
local macro_rules | `(tactic|o_head $H)=>`(tactic|exact h)
set_option maxHeartbeats 0 in
theorem HD.d(h:PySem.Challenge.rw_rowsorder_k36_two_rows_and_one.row.Holds):PySem.Challenge.rw_rowsorder_k36_two_rows_and_one.Holds:=by
 w_on;(refine PySem.W.holds_law HD.GW λGW=>?_);k_head
end
abbrev HD.aa:List Nat:=[2,3,15,17,18,20,21,22,24,25,27,28,29,31,32,34,35,36,38,39,41,42,43,46,47,48,55,56,57,58,61,68,69,70,73,76,77,78,81,82,83,86,87,88,90,91,93,94,95,97,98,100,101,102,104,105,107,108,109,112,113,114,117,118,119,122,123,124,127,128,129,131,132,134,135,136,138,139,141,142,143,145,146,148,149,150,152,153,155,156,157,159,160,162,163,164,167,168,169,172,173,174,176,177,179,180,181,183,184,186,187,188,190,191,193,194,195,197,198,200,201,202,204,205,207,208,209,211,212,214,215,216,218,219,221,222,223,225,226,228,229,230,232,233,235,236,237,240,241,242,244,245,247,248,249,251,252,254,255,256,259,260,261,264,265,266,269,270,271,274,275,276,279,280,281,284,285,286,289,290]
def HD.ke:∀P,HD.aa=(HD.d.heap_1 P).map (·.1):=λ_=>by kernel_rfl
def HD.l1:∀w os,(HD.EN PySem.Challenge.rw_rowsorder_k36_two_rows_and_one.row.prog 3432 w os).map (λs=>(HD.Ax PySem.Challenge.rw_rowsorder_k36_two_rows_and_one.row.prog w s.abs,(PySem.W.openSeen HD.vw [] (PySem.importedModules PySem.Challenge.rw_rowsorder_k36_two_rows_and_one.row.prog.main.body) (λs=>PySem.W.xlAt HD.vw [] s&&PySem.W.recOk PySem.Challenge.rw_rowsorder_k36_two_rows_and_one.row.records s) true s.abs).1,(PySem.W.kHook HD.d.heap_1 HD.aa HD.ke).obs s.abs))=some (true,(PySem.W.openGood HD.vw []).1,(PySem.W.kHook HD.d.heap_1 HD.aa HD.ke).val w):=λw os=>by kernel_rfl
def HD.l2:∀w os,(HD.EN PySem.Challenge.rw_rowsorder_k36_two_rows_and_one.row.prog 3432 w os).map (λs=>(PySem.W.openSeen HD.vw [] (PySem.importedModules PySem.Challenge.rw_rowsorder_k36_two_rows_and_one.row.prog.main.body) (λs=>PySem.W.xlAt HD.vw [] s&&PySem.W.recOk PySem.Challenge.rw_rowsorder_k36_two_rows_and_one.row.records s) true s.abs).2)=some (PySem.W.openGood HD.vw []).2:=λw os=>by kernel_rfl
def HD.left:PySem.W.LeftO PySem.Challenge.rw_rowsorder_k36_two_rows_and_one.row.prog HD.vw [] (λs=>PySem.W.xlAt HD.vw [] s&&PySem.W.recOk PySem.Challenge.rw_rowsorder_k36_two_rows_and_one.row.records s) (PySem.W.kHook HD.d.heap_1 HD.aa HD.ke).obs (PySem.W.kHook HD.d.heap_1 HD.aa HD.ke).val 3432:=
 HD.Ip (by kernel_rfl) (by kernel_rfl) (λs=>by kernel_rfl) HD.l1 HD.l2
open PySem PySem.W PyProof.Rows L2
set_option maxRecDepth 100000 in
set_option maxHeartbeats 0 in
theorem RO.head(hA:RO.IP):PySem.Challenge.rw_rowsorder_k36_two_rows_and_one.Holds:=by
 w_on;(refine PySem.W.holds_law HD.GW λGW=>?_)
 refine PySem.W.holds_open (q:=HD.vw) (loose:=[]) (Xt:=λs=>PySem.W.xlAt HD.vw [] s&&PySem.W.recOk (PySem.W.RowW.records _) s) (XP:=PySem.W.XL HD.vw []) (Yf:=PySem.W.Hook.obs (kHook HD.d.heap_1 HD.aa HD.ke)) (Ya:=PySem.W.Hook.val (kHook HD.d.heap_1 HD.aa HD.ke)) (YP:=PySem.W.Hook.says (kHook HD.d.heap_1 HD.aa HD.ke)) (N:=3432) HD.left (PySem.W.Hook.of (kHook HD.d.heap_1 HD.aa HD.ke)) (PySem.W.Hook.keeps (kHook HD.d.heap_1 HD.aa HD.ke)) (λs e=>PySem.W.xl_of s (Bool.and_eq_true_iff.mp e).1) PySem.W.XL.keeps (by rfl) (by rfl) (by rfl) (λs e=>PySem.W.recFacts_of (Bool.and_eq_true_iff.mp e).2) (by rfl) (by first|assumption|decide +kernel) (by decide +kernel) ⟨rfl,rfl,rfl,rfl,rfl,by decide +kernel⟩ ?hw ?hc
 (case hw=>w_witness2)
 k_fill
 refine RO.walk (l:=PySem.Challenge.rw_rowsorder_k36_two_rows_and_one) rfl rfl ?hi (λw h Y=>PySem.W.kIn_of Y) ?F
 case hi=>kernel_rfl
 case F=>
  intro w mg fa h KX G hmg
  refine' hA KX G hmg ?F1 ?F2 ?F3 ?F4 ?F5 ?F6 ?F7 ?F8 ?F9 ?F10 ?F11 ?F12 ?F13 ?F14 ?F15 ?F16 ?F17 ?F18 ?F19 ?F20 ?F21 ?F22 ?F23 ?F24 ?F25 ?F26 ?F27 ?F28 ?F29 ?F30 ?F31 ?F32 ?F33 ?F34 ?F35 ?F36 ?F37 ?F38 ?F39 ?F40 ?a41 ?l41 ?c41 ?k41 ?zB ?yMOST_THINGS ?np
  case F1=>refine' bu KX G RO.yE ?a ?l ?c ?k;(case a=>k_is);(case l=>k_is);(case c=>k_is);(case k=>k_is)
  case F2=>refine' bu KX G RO.z0 ?a ?l ?c ?k;(case a=>k_is);(case l=>k_is);(case c=>k_is);(case k=>k_is)
  case F3=>refine' bu KX G RO.BN ?a ?l ?c ?k;(case a=>k_is);(case l=>k_is);(case c=>k_is);(case k=>k_is)
  case F4=>refine' bu KX G RO.BB ?a ?l ?c ?k;(case a=>k_is);(case l=>k_is);(case c=>k_is);(case k=>k_is)
  case F5=>refine' bu KX G RO.ve ?a ?l ?c ?k;(case a=>k_is);(case l=>k_is);(case c=>k_is);(case k=>k_is)
  case F6=>refine' bu KX G RO.DG ?a ?l ?c ?k;(case a=>k_is);(case l=>k_is);(case c=>k_is);(case k=>k_is)
  case F7=>refine' bu KX G RO.zF ?a ?l ?c ?k;(case a=>k_is);(case l=>k_is);(case c=>k_is);(case k=>k_is)
  case F8=>refine' bu KX G RO.zL ?a ?l ?c ?k;(case a=>k_is);(case l=>k_is);(case c=>k_is);(case k=>k_is)
  case F9=>refine' bu KX G RO.vm ?a ?l ?c ?k;(case a=>k_is);(case l=>k_is);(case c=>k_is);(case k=>k_is)
  case F10=>refine' bu KX G RO.xm ?a ?l ?c ?k;(case a=>k_is);(case l=>k_is);(case c=>k_is);(case k=>k_is)
  case F11=>refine' bu KX G RO.DN ?a ?l ?c ?k;(case a=>k_is);(case l=>k_is);(case c=>k_is);(case k=>k_is)
  case F12=>refine' bu KX G RO.Gu ?a ?l ?c ?k;(case a=>k_is);(case l=>k_is);(case c=>k_is);(case k=>k_is)
  case F13=>refine' bu KX G RO.Ck ?a ?l ?c ?k;(case a=>k_is);(case l=>k_is);(case c=>k_is);(case k=>k_is)
  case F14=>refine' bu KX G RO.vf ?a ?l ?c ?k;(case a=>k_is);(case l=>k_is);(case c=>k_is);(case k=>k_is)
  case F15=>refine' bu KX G RO.sI ?a ?l ?c ?k;(case a=>k_is);(case l=>k_is);(case c=>k_is);(case k=>k_is)
  case F16=>refine' bu KX G RO.xZ ?a ?l ?c ?k;(case a=>k_is);(case l=>k_is);(case c=>k_is);(case k=>k_is)
  case F17=>refine' bu KX G RO.oO ?a ?l ?c ?k;(case a=>k_is);(case l=>k_is);(case c=>k_is);(case k=>k_is)
  case F18=>refine' bu KX G RO.CN ?a ?l ?c ?k;(case a=>k_is);(case l=>k_is);(case c=>k_is);(case k=>k_is)
  case F19=>refine' bu KX G RO.xo ?a ?l ?c ?k;(case a=>k_is);(case l=>k_is);(case c=>k_is);(case k=>k_is)
  case F20=>refine' bu KX G RO.x6 ?a ?l ?c ?k;(case a=>k_is);(case l=>k_is);(case c=>k_is);(case k=>k_is)
  case F21=>refine' bu KX G RO.qM ?a ?l ?c ?k;(case a=>k_is);(case l=>k_is);(case c=>k_is);(case k=>k_is)
  case F22=>refine' bu KX G RO.oM ?a ?l ?c ?k;(case a=>k_is);(case l=>k_is);(case c=>k_is);(case k=>k_is)
  case F23=>refine' bu KX G RO.zx ?a ?l ?c ?k;(case a=>k_is);(case l=>k_is);(case c=>k_is);(case k=>k_is)
  case F24=>refine' bu KX G RO.Bw ?a ?l ?c ?k;(case a=>k_is);(case l=>k_is);(case c=>k_is);(case k=>k_is)
  case F25=>refine' bu KX G RO.wQ ?a ?l ?c ?k;(case a=>k_is);(case l=>k_is);(case c=>k_is);(case k=>k_is)
  case F26=>refine' bu KX G RO.zt ?a ?l ?c ?k;(case a=>k_is);(case l=>k_is);(case c=>k_is);(case k=>k_is)
  case F27=>refine' bu KX G RO.yQ ?a ?l ?c ?k;(case a=>k_is);(case l=>k_is);(case c=>k_is);(case k=>k_is)
  case F28=>refine' bu KX G RO.wx ?a ?l ?c ?k;(case a=>k_is);(case l=>k_is);(case c=>k_is);(case k=>k_is)
  case F29=>refine' bu KX G RO.uO ?a ?l ?c ?k;(case a=>k_is);(case l=>k_is);(case c=>k_is);(case k=>k_is)
  case F30=>refine' bu KX G RO.vT ?a ?l ?c ?k;(case a=>k_is);(case l=>k_is);(case c=>k_is);(case k=>k_is)
  case F31=>refine' bu KX G RO.p7 ?a ?l ?c ?k;(case a=>k_is);(case l=>k_is);(case c=>k_is);(case k=>k_is)
  case F32=>refine' bu KX G RO.tj ?a ?l ?c ?k;(case a=>k_is);(case l=>k_is);(case c=>k_is);(case k=>k_is)
  case F33=>refine' bu KX G RO.uX ?a ?l ?c ?k;(case a=>k_is);(case l=>k_is);(case c=>k_is);(case k=>k_is)
  case F34=>refine' bu KX G RO.uW ?a ?l ?c ?k;(case a=>k_is);(case l=>k_is);(case c=>k_is);(case k=>k_is)
  case F35=>refine' bu KX G RO.vv ?a ?l ?c ?k;(case a=>k_is);(case l=>k_is);(case c=>k_is);(case k=>k_is)
  case F36=>refine' bu KX G RO.sR ?a ?l ?c ?k;(case a=>k_is);(case l=>k_is);(case c=>k_is);(case k=>k_is)
  case F37=>refine' bu KX G RO.yb ?a ?l ?c ?k;(case a=>k_is);(case l=>k_is);(case c=>k_is);(case k=>k_is)
  case F38=>refine' bu KX G RO.uZ ?a ?l ?c ?k;(case a=>k_is);(case l=>k_is);(case c=>k_is);(case k=>k_is)
  case F39=>refine' bu KX G RO.pA ?a ?l ?c ?k;(case a=>k_is);(case l=>k_is);(case c=>k_is);(case k=>k_is)
  case F40=>refine' bu KX G RO.uT ?a ?l ?c ?k;(case a=>k_is);(case l=>k_is);(case c=>k_is);(case k=>k_is)
  case a41=>k_is
  case l41=>k_is
  case c41=>k_is
  case k41=>k_is
  case zB=>kernel_rfl
  case yMOST_THINGS=>k_is
  case np=>kernel_rfl
end
namespace HD
open PySem PySem.W PyProof.Rows
section
variable (q:Program)(loose mods:List Str)(Xt:Shared->Bool)(g0:Bool)(s:Shared)
noncomputable abbrev o1:=seen ((recsOf q).map (·.name)) (ownsOf q) [] {s with gens:=Array.mk []}
end
end HD
namespace L2
open PySem PySem.Spec PyProof.Rows
def oV(cells:List (Str×Addr)):List (Str×NameKind)->List (Str×Addr)->List (Str×Addr)
 | [],cs=>cs
 | (n,k)::r,cs=>oV cells r (if k==.free then(n,(cells.lookup n).getD 0)::cs else cs)
def qF{scope:Scope}(h:∀y∈scope.names,y.2=.free->∃c,env.cells.lookup y.1=some c):closureFor scope env=pure (oV env.cells scope.names []):=by
 unfold closureFor
 have key:∀(l:List (Str×NameKind)) (cs:List (Str×Addr)),(∀y∈l,y.2=.free->∃c,env.cells.lookup y.1=some c)->
   (forIn l cs (λ(x:Str×NameKind) (r:List (Str×Addr))=>if(x.2==NameKind.free)=true then(do let a <-cellOf env x.1;pure (ForInStep.yield ((x.1,a)::r)):Sem _)else pure (ForInStep.yield r)):Sem (List (Str×Addr)))=pure (oV env.cells l cs):=by
  intro l
  induction l with
  |nil=>intro cs _;rfl
  |cons y l ih=>
   intro cs hy
   let⟨n,k⟩:=y
   rw[List.forIn_cons]
   unfold oV
   by_cases hk:(k==NameKind.free)=true
   .have hk':k=.free:=by simpa using hk
    let⟨c,hc⟩:=hy (n,k) (Pq ..) hk'
    have hce:cellOf env n=pure c:=by unfold cellOf;rw[hc]
    simp only[hk,Qn]
    have hc':env.cells.lookup n=some c:=hc
    rw[hce,hc']
    simp only[pure_bind,Option.getD_some]
    exact ih _ λz hz=>hy z (Pk _ hz)
   .simp only[hk,Qb,Py]
    simp only[pure_bind]
    exact ih _ λz hz=>hy z (Pk _ hz)
 have:=key scope.names [] h
 simp only[bind_pure_comp]at this ⊢
 first
  |exact this
  | (rw[this];rfl)
  | (simpa using this)
theorem uM:∀{l:List (Str×NameKind)} {cs:List (Str×Addr)},((x,NameKind.free)∈l\/cs.lookup x=some ((cells.lookup x).getD 0))->(oV cells l cs).lookup x=some ((cells.lookup x).getD 0)
 | [],cs,h=>by
  rcases h with h|h
  ·cases h
  ·exact h
 | (n,k)::r,cs,h=>by
  unfold oV
  refine uM ?_
  by_cases hk:(k==NameKind.free)=true
  ·rw[Pe hk]
   by_cases hx:x=n
   ·subst hx;right;simp
   ·rcases h with h|h
    ·rcases Pf.mp h with e|e
     ·injection e with e1 _;exact absurd e1 hx
     ·exact .inl e
    ·right
     rw[Sj,show(x==n)=false by simpa using hx]
     exact h
  ·rw[Pg hk]
   rcases h with h|h
   ·rcases Pf.mp h with e|e
    ·injection e with _ e2;exact absurd (by rw[<-e2];rfl) hk
    ·exact .inl e
   ·exact .inr h
theorem oS:∀{l:List (Str×NameKind)} {cs:List (Str×Addr)},(oV cells l cs).lookup x=some c->((x,NameKind.free)∈l/\c=(cells.lookup x).getD 0)\/cs.lookup x=some c
 | [],cs,h=>.inr h
 | (n,k)::r,cs,h=>by
  unfold oV at h
  rcases oS h with⟨a,b⟩|a
  ·exact .inl ⟨Pk _ a,b⟩
  ·by_cases hk:(k==NameKind.free)=true
   ·rw[Pe hk,Sj]at a
    by_cases hx:x=n
    ·subst hx
     simp at a
     have:k=.free:=by simpa using hk
     subst this
     exact .inl ⟨Pq ..,a.symm⟩
    .rw[show(x==n)=false by simpa using hx]at a
     exact .inr a
   .rw[Pg hk]at a
    exact .inr a
theorem pQ{f:Str->NameKind->NameKind}:∀(l:List (Str×NameKind)),(l.map λy=>(y.1,f y.1 y.2)).lookup x=(l.lookup x).map (f x)
 | []=>rfl
 | (n,k)::l=>by
  rw[PL,Sj,Sj]
  by_cases hx:x=n
  ·subst hx;simp
  ·have hb:(x==n)=false:=by simpa using hx
   simp only[hb]
   exact pQ l
def qK(scope:Scope)(env:Env)(x:Str):(relabel scope env).names.lookup x=(scope.names.lookup x).map λk=>if(k==.free&&env.scope.kind==.function&&env.kindOf x==some .cell)then .cell else k:=by
 have e:(relabel scope env).names=scope.names.map λy=>(y.1,if(y.2==.free&&env.scope.kind==.function&&env.kindOf y.1==some .cell)then .cell else y.2):=by
  unfold relabel
  dsimp only
  refine Qu λy _=>?_
  let⟨n,k⟩:=y
  dsimp only
  split<;>rfl
 rw[e]
 exact pQ (f:=λn k=>if(k==.free&&env.scope.kind==.function&&env.kindOf n==some .cell)then .cell else k) scope.names
theorem nq:∀(l:List (Str×NameKind)) (n:Nat) (acc:List (Str×Addr)),cellsFrom n l acc=cellsFrom n l []++acc
 | [],_,_=>rfl
 | (x,k)::r,n,acc=>by
  unfold cellsFrom
  split
  ·rw[nq r (n+1) ((x,n)::acc),nq r (n+1) [(x,n)],QV];rfl
  ·exact nq r n acc
theorem rS:∀{l:List (Str×NameKind)} {n:Nat} {x:Str} {c:Addr},(x,c)∈cellsFrom n l []->n<=c/\(x,NameKind.cell)∈l
 | [],_,_,_,h=>by cases h
 | (y,k)::r,n,x,c,h=>by
  unfold cellsFrom at h
  split at h
  ·rename_i hk
   have hk:k=.cell:=by simpa using hk
   rw[nq]at h
   rcases Pz.mp h with h|h
   .have:=rS h;exact⟨@AT,Pk _ this.2⟩
   .rw[PU]at h;cases h;subst hk;exact⟨Pd _,Pq ..⟩
  .have:=rS h;exact⟨this.1,Pk _ this.2⟩
abbrev GB(X:Cx)(scope:Scope)(C:Addr):List (Str×Addr):=cellsFrom (C+1) scope.names (oV X.env.cells scope.names [])
def Hh{M:Model}{A:Around}{E:@B_}{s:Shared}{scope:Scope}{g:Addr}{cl:List (Str×Addr)}{qual:Str}{env:Env}{Q:Env->Shared->Prop}
  (h:∀h',h'.Ns s.heap.objs.size (λ_=>none)->(∀b o,s.heap.get? b=some o->h'.get? b=some o)->CellsOk h' (s.heap.objs.size+1) (cellsFrom (s.heap.objs.size+1) scope.names [])->Q (newEnv scope s.heap.objs.size g (cellsFrom (s.heap.objs.size+1) scope.names cl) qual none .none (some env) builtinsNs) {s with heap:=h'}) :
  wpAny M A (newFunctionEnv scope g cl [] qual none .none (some env)) Q E s:=by
 simp only[newFunctionEnv,Option.isSome_some,Qn]
 refine O8 (wpAny_alloc ?_)
 refine O8 (wpAny_layCells _ (λname kind cells=>by cases hkc:kind==NameKind.cell<;>simp[hkc]) _ _ _ _ ?_)
 have ok:=cellsFrom_ok scope.names (s.heap.push {cls:=.type "dict",data:=.dict #[]}) (s.heap.objs.size+1) [] ⟨λ_ _ hm=>(nomatch hm),List.Pairwise.nil⟩ (by rw[QJ];exact Pd _)
 rw[QJ]at ok
 rw[show({s with heap:=s.heap.push {cls:=.type "dict",data:=.dict #[]}}:Shared).heap.objs.size=s.heap.objs.size+1 from QJ ..]
 rw[List.forIn_nil]
 exact O8 (Pa (Pa (h _ ((Heap.Ns.new s.heap (.type "dict")).keeps (pushCells_keeps _ _)) (λb o e=>pushCells_keeps _ _ b o (Pb _ e)) ok)))
def jG(X:Cx)(NB:List Str)(scope:Scope)(C:Addr)(ex:List Addr)(s3:Shared)(H3:Hp)(pn:List (Addr×Obj)):Cx:=
 {X with N:=NB,s₀:=s3,H₀:=H3,env:=compEnvC scope (GB X scope C) C X.env,outer:=X.stack,ex:=ex,fn:=λx=>scope.names.lookup x==some .cell,pn:=pn,xe:=λ_ _=>False}
def wt(own:Nat)(ixs:List Nat)(σ:St):St:=List.replicate own none++ixs.map λi=>(σ[i]?).join
structure dU(X:Cx)(NB:List Str)(own:Nat)(ixs:List Nat)(scope:Scope):Prop where
 kind:scope.kind=.function
 names:∀y∈scope.names,scope.names.lookup y.1=some y.2
 frees:∀y∈scope.names,y.2=.free->X.env.kindOf y.1=some .cell\/X.env.kindOf y.1=some .free
 nd:NB.Nodup
 len:NB.length=own+ixs.length
 at':∀k,k<ixs.length->NB[own+k]? =X.N[ixs.getD k 0]?/\∀x,NB[own+k]? =some x->(x,NameKind.free)∈scope.names
section
variable {X:Cx}{NB:List Str}{own:Nat}{ixs:List Nat}{scope:Scope}{pins:List (Addr×Obj)}{σ:St}{H:Hp}{s:Shared}
def Cb(S:dU X NB own ixs scope)(I:@At)(hfp:∀b∈fp,ng X pins H b)(hob:∀b∈fp,∃o,s.heap.get? b=some o){h1:Heap}{tk:Nat}
  (hn:h1.Ns s.heap.objs.size (λ_=>none)) (hk:∀b o,s.heap.get? b=some o->h1.get? b=some o) (hcl:CellsOk h1 (s.heap.objs.size+1) (cellsFrom (s.heap.objs.size+1) scope.names [])) :
  Inv (jG X NB scope s.heap.objs.size fp s H (X.pn++pins)) [] (wt own ixs σ) H {s with heap:=h1,toks:=tk}:=by
 have stk:=I.stack
 have frees:∀{x:Str},(x,NameKind.free)∈scope.names->∃c,X.env.cells.lookup x=some c:=λ{x} hx=>I.ok.has x (S.frees _ hx rfl)
 have clE:∀{x:Str} {c:Addr},(GB X scope s.heap.objs.size).lookup x=some c->((x,c)∈cellsFrom (s.heap.objs.size+1) scope.names []/\s.heap.objs.size<c)\/((x,NameKind.free)∈scope.names/\X.env.cells.lookup x=some c):=λ{x c} h=>by
  unfold GB at h
  rw[nq,List.lookup_append]at h
  cases q:(cellsFrom (s.heap.objs.size+1) scope.names []).lookup x with
  |some c'=>
   rw[q]at h
   cases h
   have hm:=QH q
   exact .inl ⟨hm,(rS hm).1⟩
  |none=>
   rw[q]at h
   have h:(oV X.env.cells scope.names []).lookup x=some c:=h
   rcases oS h with⟨a,b⟩|a
   .let⟨c',e⟩:=frees a
    rw[e]at b
    exact .inr ⟨a,by rw[e,b];rfl⟩
   .simp at a
 have clF:∀{x:Str},(x,NameKind.free)∈scope.names->(GB X scope s.heap.objs.size).lookup x=some ((X.env.cells.lookup x).getD 0):=λ{x} hm=>by
  unfold GB
  rw[nq,List.lookup_append]
  cases q:(cellsFrom (s.heap.objs.size+1) scope.names []).lookup x with
  |some c'=>
   have h1:=S.names _ (rS (QH q)).2
   have h2:=S.names _ hm
   dsimp only at h1 h2
   rw[h1]at h2
   cases h2
  |none=>exact uM (.inl hm)
 have kindB:∀x,(jG X NB scope s.heap.objs.size fp s H (X.pn++pins)).env.kindOf x=(scope.names.lookup x).map λk=>if(k==.free&&X.env.scope.kind==.function&&X.env.kindOf x==some .cell)then .cell else k:=λx=>qK scope X.env x
 have isFree:∀{x:Str},((jG X NB scope s.heap.objs.size fp s H (X.pn++pins)).env.kindOf x=some .cell\/(jG X NB scope s.heap.objs.size fp s H (X.pn++pins)).env.kindOf x=some .free)->(x,NameKind.free)∈scope.names\/scope.names.lookup x=some .cell:=λ{x} h=>by
  rw[kindB]at h
  cases e:scope.names.lookup x with
  |none=>rw[e]at h;simp at h
  |some k=>
   have hm:=QH e
   cases k with
   |free=>exact .inl hm
   |cell=>exact .inr rfl
   |_=>rw[e]at h;simp at h
 have neN:∀b o,s.heap.get? b=some o->b≠s.heap.objs.size:=λb o e=>P4 (Po e)
 have cellN:∀{x:Str} {c:Addr},X.env.cells.lookup x=some c->c<s.heap.objs.size:=λ{x c} e=>by
  let⟨v,o,ho,_⟩:=I.cell x c e
  exact Po ho
 have ok:(jG X NB scope s.heap.objs.size fp s H (X.pn++pins)).Ok:=by
  refine⟨I.ok.mod,S.kind,I.ok.glob,I.ok.blt,Pd _,λx y c h1 h2=>?_,λx hx=>?_,λx c h hc=>?_,I.ok.hd,I.ok.frames,.inl rfl,λb hb=>?_,I.bs,Qp I.ok.bsz I.sz,λb o e hb=>?_,λb hb hs=>?_,stk,I.stkFree⟩
  .rcases clE h1 with⟨a,l1⟩|⟨a,l1⟩
   .rcases clE h2 with⟨b,l2⟩|⟨b,l2⟩
    .exact name_of_addr hcl.apart a b
    .exact absurd (RT l1 (cellN l2)) (Qd _)
   .rcases clE h2 with⟨b,l2⟩|⟨b,l2⟩
    .exact absurd (RT l2 (cellN l1)) (Qd _)
    .exact I.ok.inj x y c l1 l2
  .rcases isFree hx with hm|hm
   .exact⟨_,clF hm⟩
   .let⟨c,hc⟩:=Option.isSome_iff_exists.mp (PySem.W.cellsFrom_some scope.names (s.heap.objs.size+1) (oV X.env.cells scope.names []) (.inl hm))
    exact⟨c,hc⟩
  .rcases clE hc with⟨a,l1⟩|⟨a,l1⟩
   .exact QY l1
   .have h1:=S.names _ a
    dsimp only at h1
    have h:(scope.names.lookup x==some NameKind.cell)=true:=h
    rw[h1]at h
    cases h
  .let⟨_,f1,f2,f3,f4,f5⟩:=hfp b hb
   let⟨o,ho⟩:=hob b hb
   refine⟨neN b o ho,λx c h z=>?_⟩
   rcases clE h with⟨a,l1⟩|⟨a,l1⟩
   .rw[z]at l1
    exact Qd _ (RT l1 (Po ho))
   .exact f4 x c l1 z
  .let⟨_,f1,f2,f3,f4,f5⟩:=hfp b hb
   rcases f3 with f3|f3
   .exact I.ok.noex b o e f3
   .exact absurd (Qa (Po e) (Qp I.ok.bsz f3)) (Qd _)
  .let⟨_,f1,f2,f3,f4,f5⟩:=hfp b hb
   rcases Pf.mp (I.stkSub b hs)with z|z
   .exact f1 z
   .exact f2 z
 refine⟨ok,rfl,I.bare,Un.kept hk,⟨_,hn,λi x v h1' h2' h3'=>?_⟩,λx c h=>?_,I.hok.fresh (Pd _),λx c h=>?_,λp hp=>?_,I.hok.kept hk,?_⟩
 .
  have h1':NB[i]? =some x:=h1'
  have hown:own<=i:=by
   refine Classical.byContradiction λhc=>?_
   have hlt:i<own:=Nat.lt_of_not_le hc
   unfold wt at h2'
   rw[PJ (by simpa using hlt),Q4,Pe hlt]at h2'
   cases h2'
  obtain⟨k,rfl⟩:∃k,i=own+k:=⟨i-own,@AT ⟩
  have hk':k<ixs.length:=by
   have:=(Pw.mp h1').1
   rw[S.len]at this;omega
  let⟨e1,e2⟩:=S.at' k hk'
  have hm:=e2 x h1'
  unfold wt at h2'
  rw[P7 (by simp),RE,Nat.add_sub_cancel_left,Pt,O9 hk']at h2'
  simp only[RB,Option.some.injEq]at h2'
  have hix:ixs.getD k 0=ixs[k]:=by simp[hk']
  have hσ:σ[ixs[k]]? =some (some v):=by
   cases e:σ[ixs[k]]? with
   |none=>rw[e]at h2';cases h2'
   |some o=>rw[e]at h2';simp at h2';rw[h2']
  rw[e1,hix]at h1'
  have hkind:=S.frees _ hm rfl
  have hvis:yW X.env.scope x:=hkind.elim (λz=>.inr (.inl z)) (λz=>.inr (.inr z))
  let⟨m,hm',hl⟩:=I.loc
  let⟨u,r,look⟩:=hl _ x v h1' hσ hvis
  refine⟨u,r,.inr ⟨?_,?_⟩⟩
  .rw[kindB]
   have hfr:scope.names.lookup x=some .free:=S.names _ hm
   rw[hfr]
   simp only[RB]
   split
   .exact .inl rfl
   .exact .inr rfl
  .rcases look with⟨z,_⟩|⟨_,c,hc,hcell⟩
   .rcases hkind with q|q
    .rw[q]at z;cases z
    .rw[q]at z;cases z
   .refine⟨c,?_,?_⟩
    .have:=clF hm
     rw[hc]at this
     exact this
    .let⟨o,ho,hd⟩:=hcell
     exact⟨o,hk _ _ ho,hd⟩
 .rcases clE h with⟨a,_⟩|⟨_,l1⟩
  .exact⟨_,(hcl.empty _ _ a).1⟩
  .let⟨v,o,ho,hd⟩:=I.cell x c l1
   exact⟨v,o,hk _ _ ho,hd⟩
 .rcases clE h with⟨_,l1⟩|⟨_,l1⟩
  .exact I.hok.fresh (QY l1)
  .exact I.freeC x c l1
 .have hp':p∈X.pn++pins:=by
   rcases Pz.mp hp with z|z
   .exact z
   .cases z
  let⟨e,n,ne,nf,d⟩:=I.pin p hp'
  refine⟨hk _ _ e,n,neN _ _ e,λz=>?_,d⟩
  rcases Pf.mp (I.stkSub _ z)with q|q
  .exact ne q
  .exact nf q
 .show (wt own ixs σ).length=NB.length
  unfold wt
  rw[S.len];simp
end
abbrev AQ(ifs:List Expr)(env:Env):Sem Bool:=forIn ifs true λc r=>if r=true then do let ok <-isTrue c env (eval c env);pure (ForInStep.yield ok)else pure (ForInStep.yield r)
theorem BA{prog:Program}{w:World}{A:Around}{R:Result->Shared->Prop}{s:Shared}{elt target iter:Expr}{ifs:List Expr}{scope:Scope}{pos:Pos}{it acc:Value}{env:Env}(I:Nat->Shared->Prop)
  (turn:∀n s,I n s->wpAny (model prog w) A (pyNext it) (λr s1=>match r with
   |none=>R (.ok .next) s1
   |some v=>wpAny (model prog w) A (letOwnedTupleGo target it v) (λ_ s1'=>wpAny (model prog w) A (assign target env v) (λ_ s2=>
     wpAny (model prog w) A (AQ ifs env) (λok s3=>
      if ok=true then wpAny (model prog w) A (eval elt env) (λx s4=>wpAny (model prog w) A (call (.builtin "list.append") [acc,x]) (λ_ s5=>∃m,m<n/\I m s5) (λ_ _=>False) s4) (λ_ _=>False) s3
      else ∃m,m<n/\I m s3) (λ_ _=>False) s2) (λ_ _=>False) s1') (λ_ _=>False) s1) (λ_ _=>False) s)
  (n:Nat) (h:I n s):codeAny (model prog w) A (.compLoop (.ListComp elt [⟨target,iter,ifs,0⟩] scope pos) 0 it acc env) R s:=by
 refine codeAny_loop rfl I (λn s hI=>?_) n h
 (show wpAny _ A ((compTurn (.ListComp elt [⟨target,iter,ifs,0⟩] scope pos) 0 it acc env).onRaise (λx=>do (noteFrame x env);theTreesLotGoes x)) _ _ s)
 refine wpAny_noted ?_
 rw[compTurn_list]
 refine O8 (wpAny_standAt (O8 (QQ (turn n s hI) (λr s1 h1=>?_) λ_ _ z=>z.elim)))
 cases r with
 |none=>exact Pa h1
 |some v=>
  refine O8 (QQ h1 (λ_ s1' h1'=>(O8 (QQ h1' (λ_ s2 h2=>O8 (QQ h2 (λok s3 h3=>?_) λ_ _ z=>z.elim)) λ_ _ z=>z.elim))) λ_ _ z=>z.elim)
  cases ok with
  |false=>exact Pa ⟨rfl,h3⟩
  |true=>exact O8 (O8 (QQ h3 (λx s4 h4=>O8 (QQ h4 (λ_ s5 h5=>Pa (Pa ⟨rfl,h5⟩)) λ_ _ z=>z.elim)) λ_ _ z=>z.elim))
def EI(X:Cx)(ifs:List Expr)(t:TT):Prop:=
 ∀(pins:List (Addr×Obj)) (s:Shared) (σ:St) (H:Hp) (Q:Bool->Hp->Prop),@At->t σ H Q->wpAny (model X.prog X.w) X.A (AQ ifs X.env) (TP X pins σ Q) X.xe s
def Kd:TT:=λ_ H Q=>Q true H
def uR{X:Cx}:EI X [] Kd:=λpins s σ H Q I h=>Pa ⟨H,I,h⟩
def Bg{X:Cx}(h:PT X c t):EI X [c] t:=λpins s σ H Q I q=>wpAny_tests_one (h pins s σ H Q I q)
def zh(own:Nat)(ixs:List Nat)(wi:TI)(g:TG)(tt:TT)(te:TE)(σ:St)(H:Hp)(Q:VK):Prop:=wi σ H λJ H1=>∀D,H1 D=none->∃W:Nat->Nat->St->Hp->Prop,(∃m,W 0 m (wt own ixs σ) (upd H1 D (.lst [])))/\∀i m σ' H',W i m σ' H'->
 (J.stop i H'/\(∃acc,H' D=some (.lst acc))/\Q (.ref D) H')\/
 (J.go i H'/\∃N:St->Hp->Prop,(∀σ2 H2,N σ2 H2->∃m',m'<m/\W (i+1) m' σ2 H2)/\∀x H2,J.yld i H' x H2->g x σ' H2 λσ3 H3=>tt σ3 H3 λb H4=>
  if b=true then te σ3 H4 λv H5=>∃acc,H5 D=some (.lst acc)/\acc.length<sizeLine/\N σ3 (upd H5 D (.lst (acc++[v])))else N σ3 H4)
section
variable {X:Cx}{NB:List Str}{own:Nat}{ixs:List Nat}{scope:Scope}{elt tg iter:Expr}{ifs:List Expr}{pos:Pos}{wi:TI}{g:TG}{tt:TT}{te:TE}
def uG(hc:X.calm=true)(S:dU X NB own ixs scope)
  (hg:∀C ex s3 H3 pn,PG (jG X NB scope C ex s3 H3 pn) tg g) (ht:∀C ex s3 H3 pn,EI (jG X NB scope C ex s3 H3 pn) ifs tt) (he:∀C ex s3 H3 pn,PE (jG X NB scope C ex s3 H3 pn) elt te)
  {pins:List (Addr×Obj)} {σ:St} {H1:Hp} {s2:Shared} {it:Addr} {fp:List Addr} {tn:Nat->Heap->Prop} {J:It} {Q:VK} (I2:Inv X pins σ H1 s2) (T:Turn X.prog X.w X.K tg J fp it tn) (st2:tn 0 s2.heap) (f2:∀b∈fp,ng X pins H1 b)
  (hQ:∀D,H1 D=none->∃W:Nat->Nat->St->Hp->Prop,(∃m,W 0 m (wt own ixs σ) (upd H1 D (.lst [])))/\∀i m σ' H',W i m σ' H'->
   (J.stop i H'/\(∃acc,H' D=some (.lst acc))/\Q (.ref D) H')\/
   (J.go i H'/\∃N:St->Hp->Prop,(∀σ2 H2,N σ2 H2->∃m',m'<m/\W (i+1) m' σ2 H2)/\∀x H2,J.yld i H' x H2->g x σ' H2 λσ3 H3=>tt σ3 H3 λb H4=>
    if b=true then te σ3 H4 λv H5=>∃acc,H5 D=some (.lst acc)/\acc.length<sizeLine/\N σ3 (upd H5 D (.lst (acc++[v])))else N σ3 H4))
  {E:@B_} {RR:Value->Addr->Result->Shared->Prop}
  (fin:∀D C H' s' m,Inv X pins σ H' s'->Q (.ref D) H'->s'.heap.Ns C m->H' C=none->C≠X.env.locals->(∀x c,X.env.cells.lookup x=some c->c≠C)->X.s₀.heap.objs.size<=C->(∀p∈X.pn++pins,p.1≠C)->RR (.ref D) C (.ok .next) s') :
  wpAny (model X.prog X.w) X.A (newList []) (λacc s3=>wpAny (model X.prog X.w) X.A (newFunctionEnv scope X.env.globals (oV X.env.cells scope.names []) [] X.env.qual none .none (some X.env)) (λcenv s4=>
   codeAny (model X.prog X.w) X.A (.compStart (.ListComp elt [⟨tg,iter,ifs,0⟩] scope pos) 0 (.ref it) acc {cenv with scope:=relabel scope X.env}) (RR acc cenv.locals) s4) E s3) E s2:=by
 refine wpAny_newList ?_ (P9 _)
 have hD:H1 s2.heap.objs.size=none:=I2.hok.fresh (Pd _)
 let⟨W,⟨m0,w0⟩,turn⟩:=hQ s2.heap.objs.size hD
 generalize hs3:({s2 with heap:=s2.heap.push (seqObj "list" ([]:List Value).toArray 0)}:Shared)=s3
 have I3:Inv X pins σ (upd H1 s2.heap.objs.size (.lst [])) s3:=by
  rw[<-hs3]
  exact I2.lnew .nil (P9 _)
 have k3:∀b o,s2.heap.get? b=some o->s3.heap.get? b=some o:=λb o e=>by rw[<-hs3];exact Pb _ e
 have sz3:s3.heap.objs.size=s2.heap.objs.size+1:=by rw[<-hs3];exact QJ ..
 have ob2:∀b∈fp,∃o,s2.heap.get? b=some o:=λb hb=>let⟨o,e,_⟩:=T.obj 0 _ st2 b hb;⟨o,e⟩
 have neD:∀b∈fp,b≠s2.heap.objs.size:=λb hb=>let⟨o,e⟩:=ob2 b hb;P4 (Po e)
 have f3:∀b∈fp,ng X pins (upd H1 s2.heap.objs.size (.lst [])) b:=λb hb=>by
  let⟨a1,a2⟩:=f2 b hb
  exact⟨by rw[av (neD b hb)];exact a1,a2⟩
 have st3:tn 0 s3.heap:=T.keep _ _ _ st2 λb _ o e=>k3 b o e
 refine Hh λh4 hn4 k4 ok4=>?_
 have I4:Inv (jG X NB scope s3.heap.objs.size fp s3 (upd H1 s2.heap.objs.size (.lst [])) (X.pn++pins)) [] (wt own ixs σ) (upd H1 s2.heap.objs.size (.lst [])) {s3 with heap:=h4}:=
  Cb S I3 f3 (λb hb=>let⟨o,e⟩:=ob2 b hb;⟨o,k3 _ _ e⟩) hn4 k4 ok4
 have st4:tn 0 h4:=T.keep _ _ _ st3 λb _ o e=>k4 b o e
 generalize hB:jG X NB scope s3.heap.objs.size fp s3 (upd H1 s2.heap.objs.size (.lst [])) (X.pn++pins)=B at I4
 have hgB:PG B tg g:=by rw[<-hB];exact hg _ _ _ _ _
 have htB:EI B ifs tt:=by rw[<-hB];exact ht _ _ _ _ _
 have heB:PE B elt te:=by rw[<-hB];exact he _ _ _ _ _
 have eP:B.prog=X.prog:=by rw[<-hB];rfl
 have eW:B.w=X.w:=by rw[<-hB];rfl
 have eK:B.K=X.K:=by rw[<-hB];rfl
 have eA:B.A=X.A:=by rw[<-hB];rfl
 have eC:B.calm=true:=by rw[<-hB];exact hc
 have eX:B.xe=λ_ _=>False:=by rw[<-hB];rfl
 have eE:B.env=compEnvC scope (GB X scope s3.heap.objs.size) s3.heap.objs.size X.env:=by rw[<-hB];rfl
 have ex:B.ex=fp:=by rw[<-hB];rfl
 have eL:B.env.locals=s3.heap.objs.size:=by rw[eE];rfl
 have stat:∀{H':Hp},(∀b∈fp,H' b=none)->∀b∈fp,ng B [] H' b:=λ{H'} hn b hb=>by
  let⟨a1,a2,a3,a4,a5,a6⟩:=f3 b hb
  let⟨o,eo⟩:=ob2 b hb
  refine⟨hn b hb,?_,λz=>?_,.inl (by rw[ex];exact hb),λx c e z=>?_,λp hp z=>?_⟩
  .rw[eL];exact P4 (Po (k3 _ _ eo))
  .have hz:b∈nH X.stack:=by rw[<-hB]at z;exact z
   rcases Pf.mp (I3.stkSub b hz)with q|q
   .exact a2 q
   .exact a3 q
  .rw[eE]at e
   have e:(GB X scope s3.heap.objs.size).lookup x=some c:=e
   unfold GB at e
   rw[nq,List.lookup_append]at e
   cases q:(cellsFrom (s3.heap.objs.size+1) scope.names []).lookup x with
   |some c'=>
    rw[q]at e
    cases e
    have l1:=(rS (QH q)).1
    rw[z]at l1
    exact Qd _ (RT l1 (Po (k3 _ _ eo)))
   |none=>
    rw[q]at e
    have e:(oV X.env.cells scope.names []).lookup x=some c:=e
    rcases oS e with⟨m1,m2⟩|m1
    .let⟨c',e'⟩:=I3.ok.has x (S.frees _ m1 rfl)
     rw[e']at m2
     exact a5 x c' e' (by rw[<-z,m2];rfl)
    .simp at m1
  .have hp':p∈X.pn++pins:=by
    rw[<-hB]at hp
    rcases Pz.mp hp with q|q
    .exact q
    .cases q
   exact a6 p hp' z
 have back:∀{σ':St} {H':Hp} {s':Shared},Inv B [] σ' H' s'->Inv X pins σ H' s':=λ{σ' H' s'} J'=>by
  have u:=J'.base
  have os:=J'.os
  have bare:=J'.bare
  have hok:=J'.hok
  subst hB
  exact I3.call' os u hok bare λb hb=>by
   let⟨a1,a2,a3,a4,a5,a6⟩:=f3 b hb
   exact⟨a4,a2,a5,a6⟩
 have loop:∀s5:Shared,s5={s3 with heap:=h4}->
   codeAny (model X.prog X.w) X.A (.compLoop (.ListComp elt [⟨tg,iter,ifs,0⟩] scope pos) 0 (.ref it) (.ref s2.heap.objs.size) (compEnvC scope (GB X scope s3.heap.objs.size) s3.heap.objs.size X.env)) (RR (.ref s2.heap.objs.size) s3.heap.objs.size) s5:=by
  rintro s5 rfl
  refine BA (λn s'=>∃i σ' H',Inv B [] σ' H' s'/\tn i s'.heap/\(∀b∈fp,H' b=none)/\W i n σ' H') ?_ m0 ⟨0,_,_,I4,st4,λb hb=>(f3 b hb).1,w0⟩
  rintro n s6 ⟨i,σ6,H6,I6,st6,fr6,w6⟩
  rcases turn i n σ6 H6 w6 with⟨stop,⟨acc,hacc⟩,qn⟩|⟨go,N,hN,step⟩
  .have:=T.done B eP eW eK eC i [] s6 σ6 H6 (λ_ _=>False) I6 (stat fr6) st6 stop
   rw[eA]at this
   refine cn this λr s7 ⟨hr,I7⟩=>?_
   subst hr
   let⟨m7,hn7,_⟩:=I7.loc
   rw[eL]at hn7
   have J7:=back I7
   refine fin _ _ H6 s7 m7 J7 qn hn7 (by rw[<-eL];exact I7.free) (λz=>?_) (λx c e z=>?_) ?_ λp hp z=>?_
   .have:=I3.lt
    rw[<-z]at this
    exact Qd _ this
   .let⟨v,o,ho,_⟩:=I3.cell x c e
    exact absurd (Po ho) (by rw[z];exact Qd _)
   .exact I3.sz
   .have:=Po (I3.pin p hp).1
    rw[z]at this
    exact Qd _ this
  .have hitem:=T.item B eP eW eK eC i [] s6 σ6 H6 (λ_ _=>False) I6 (stat fr6) st6 go
   rw[eA]at hitem
   refine cn hitem λr s7 ⟨u,hr,h7⟩=>?_
   subst hr
   refine cn h7 λ_ s8 ⟨x,H8,I8,r8,y8,st8,fr8⟩=>?_
   have I8':=I8.pinned (stat fr8) (T.obj _ _ st8)
   have ha:=hgB _ s8 σ6 H8 x u _ I8' r8 (step x H8 y8)
   rw[eP,eW,eA,eE,eX]at ha
   refine cn ha λ_ s9 ⟨σ9,H9,I9,q9⟩=>?_
   have hb:=htB _ s9 σ9 H9 _ I9 q9
   rw[eP,eW,eA,eE,eX]at hb
   refine cn hb λok s10 ⟨H10,I10,q10⟩=>?_
   have again:∀{σ7:St} {H7:Hp} {s7:Shared},Inv B ([]++qN fp s8.heap) σ7 H7 s7->N σ7 H7->∃m,m<n/\∃i σ' H',Inv B [] σ' H' s7/\tn i s7.heap/\(∀b∈fp,H' b=none)/\W i m σ' H':=λ{σ7 H7 s7} I7 n7=>by
    let⟨m',hm,w7⟩:=hN σ7 H7 n7
    refine⟨m',hm,i+1,σ7,H7,I7.unpinned,T.keep _ _ _ st8 λb hb o e=>(I7.pin (b,o) (P5 _ (P5 _ (kc hb e)))).1,λb hb=>?_,w7⟩
    let⟨o,e,d⟩:=T.obj _ _ st8 b hb
    exact(I7.pin (b,o) (P5 _ (P5 _ (kc hb e)))).2.1
   cases ok with
   |false=>
    simp only[Py,Qb]at q10 ⊢
    exact again I10 q10
   |true=>
    simp only[Qn]at q10 ⊢
    have hv:=heB _ s10 σ9 H10 _ I10 q10
    rw[eP,eW,eA,eE,eX]at hv
    refine cn hv λy s11 ⟨v,H11,I11,r11,acc,hacc,hz,q11⟩=>?_
    have hap:=o9 _ s11 σ9 H11 (.ref s2.heap.objs.size) [v] (.ref s2.heap.objs.size) [y] (λz H'=>z=.non/\N σ9 H') I11 rfl (.cons r11 .nil) ⟨_,acc,v,rfl,rfl,hacc,hz,rfl,q11⟩
    rw[eP,eW,eA,eX]at hap
    exact cn hap λ_ s12 ⟨_,H12,I12,_,_,q12⟩=>again I12 q12
 exact codeAny_compStart_list (loop _ rfl) (T.self X.A 0 _ _ _ st4 (loop _ rfl))
def xD(hc:X.calm=true)(S:dU X NB own ixs scope)(hi:PI X tg iter wi)
  (hg:∀C ex s3 H3 pn,PG (jG X NB scope C ex s3 H3 pn) tg g) (ht:∀C ex s3 H3 pn,EI (jG X NB scope C ex s3 H3 pn) ifs tt) (he:∀C ex s3 H3 pn,PE (jG X NB scope C ex s3 H3 pn) elt te)
  (hs:∀x,foldedSetIterable iter X.env x=pure x:=by intro _;rfl) :
  PE X (.ListComp elt [⟨tg,iter,ifs,0⟩] scope pos) (zh own ixs wi g tt te):=by
 intro pins s σ H Q I h
 rw[eval_ListComp]
 refine wpAny_comprehension_free rfl hs (qF λy hy e=>I.ok.has _ (S.frees y hy e)) S.kind (λy hy e=>by rw[S.names y hy,e]) (cn (hi pins s σ H _ I h) λv s1 h1=>cn h1 λitv s2 h2=>?_)
 let⟨it,fp,tn,J,H2,e,I2,T,st2,f2,q2⟩:=h2
 subst e
 refine uG hc S hg ht he I2 T st2 f2 q2 λD C H' s' m J' q hn hC n1 n2 n3 n4=>?_
 exact⟨m,hn,λh'' sb=>⟨.ref D,H',J'.turned (λb o hb e=>sb.extBut b o hb e) hC n1 (.inr n3) n2 n4,rfl,q⟩⟩
def Dv{i:Nat}{y:Str}{py spos:Pos}(hc:X.calm=true)(S:dU X NB own ixs scope)(hi:PI X tg iter wi)
  (hg:∀C ex s3 H3 pn,PG (jG X NB scope C ex s3 H3 pn) tg g) (ht:∀C ex s3 H3 pn,EI (jG X NB scope C ex s3 H3 pn) ifs tt) (he:∀C ex s3 H3 pn,PE (jG X NB scope C ex s3 H3 pn) elt te)
  (hN:X.N.Nodup) (hy:X.N[i]? =some y) (hl:X.env.scope.names.lookup y=some .local)
  (hsw:swapsWith (.ListComp elt [⟨tg,iter,ifs,0⟩] scope pos) (some (.Name y py)) spos.line X.env=pure true)
  (hs:∀x,foldedSetIterable iter X.env x=pure x:=by intro _;rfl) :
  PS X (.Assign [.Name y py] (.ListComp elt [⟨tg,iter,ifs,0⟩] scope pos) spos) (λD σ H=>zh own ixs wi g tt te σ H λv H'=>D.nx (σ.set i (some v)) H'):=by
 intro pins s σ H D I h
 rw[exec_Assign_Name_used _ _ _ _ hsw]
 refine O8 (wpAny_standAt (O8 ?_))
 refine O8 (QQ (wpAny_comprehension_free rfl hs (qF λy hy e=>I.ok.has _ (S.frees y hy e)) S.kind (λy hy e=>by rw[S.names y hy,e]) ?_)
  (λ_ s' hq=>Pa (Pa hq)) λ_ _ e=>e)
 refine cn (hi pins s σ H _ I h) λv s1 h1=>cn h1 λitv s2 h2=>?_
 let⟨it,fp,tn,J,H2,e,I2,T,st2,f2,q2⟩:=h2
 subst e
 refine uG hc S hg ht he I2 T st2 f2 q2 (Q:=λv H'=>D.nx (σ.set i (some v)) H') λD' C H' s' m J' q hn hC n1 n2 n3 n4=>?_
 refine wpAny_assign_Name (uy J' hN hy (.inl hl) (v:=.ref D') rfl (λs'' I'' ⟨a,sb,ha⟩=>?_) (.inr hl))
 have hCa:C≠a:=by
  rcases ha with z|z
  .rw[z];exact n1
  .exact (n2 _ _ z).symm
 exact⟨m,hn.sameBut sb hCa,λh3 sb3=>⟨_,H',I''.turned (λb o hb e=>sb3.extBut b o hb e) hC n1 (.inr n3) n2 n4,q⟩⟩
end
section
variable {own:Nat}{ixs:List Nat}{g:TG}{tt:TT}{te:TE}{σ:St}{H:Hp}{Q:VK}{K:Frag}{D a:Addr}{xs:List V}
abbrev fS(g:TG)(tt:TT)(te:TE)(D:Addr)(x:V)(σ:St)(H:Hp)(N:St->Hp->Prop):Prop:=g x σ H λσ3 H3=>tt σ3 H3 λb H4=>
  if b=true then te σ3 H4 λv H5=>∃acc,H5 D=some (.lst acc)/\acc.length<sizeLine/\N σ3 (upd H5 D (.lst (acc++[v])))else N σ3 H4
def Cr(Pv:Nat->St->Hp->Prop)(h0:Pv 0 (wt own ixs σ) (upd H D (.lst [])))(hl:∀i σ H,i<=xs.length->Pv i σ H->fU K H a xs)
  (hs:∀i x σ H,xs[i]? =some x->Pv i σ H->fS g tt te D x σ H (Pv (i+1))) (hd:∀σ H,Pv xs.length σ H->(∃acc,H D=some (.lst acc))/\Q (.ref D) H) :
  ∃W:Nat->Nat->St->Hp->Prop,(∃m,W 0 m (wt own ixs σ) (upd H D (.lst [])))/\∀i m σ' H',W i m σ' H'->
   ((CM K a).stop i H'/\(∃acc,H' D=some (.lst acc))/\Q (.ref D) H')\/
   ((CM K a).go i H'/\∃N:St->Hp->Prop,(∀σ2 H2,N σ2 H2->∃m',m'<m/\W (i+1) m' σ2 H2)/\∀x H2,(CM K a).yld i H' x H2->fS g tt te D x σ' H2 N):=by
 refine⟨λi m σ H=>m=xs.length-i/\i<=xs.length/\Pv i σ H,⟨xs.length,by simp,P9 _,h0⟩,?_⟩
 rintro i m σ H ⟨rfl,hi,p⟩
 have q:=hl i σ H hi p
 by_cases hlt:i<xs.length
 .refine .inr ⟨⟨xs,xs[i],q,by simp[hlt]⟩,Pv (i+1),λσ' H' p'=>⟨xs.length-(i+1),@AT,rfl,hlt,p'⟩,λx H' y=>?_⟩
  let⟨e,y⟩:=y
  subst e
  exact hs i x σ _ (y xs q) p
 .have e:i=xs.length:=@AT
  subst e
  exact .inl ⟨⟨xs,q,Pd _⟩,hd σ H p⟩
def y9{lo:Int}{n:Nat}(Pv:Nat->St->Hp->Prop)(h0:Pv 0 (wt own ixs σ) (upd H D (.lst [])))
  (hs:∀i σ H,i<n->Pv i σ H->fS g tt te D (.int (lo+i)) σ H (Pv (i+1))) (hd:∀σ H,Pv n σ H->(∃acc,H D=some (.lst acc))/\Q (.ref D) H) :
  ∃W:Nat->Nat->St->Hp->Prop,(∃m,W 0 m (wt own ixs σ) (upd H D (.lst [])))/\∀i m σ' H',W i m σ' H'->
   ((CY lo n).stop i H'/\(∃acc,H' D=some (.lst acc))/\Q (.ref D) H')\/
   ((CY lo n).go i H'/\∃N:St->Hp->Prop,(∀σ2 H2,N σ2 H2->∃m',m'<m/\W (i+1) m' σ2 H2)/\∀x H2,(CY lo n).yld i H' x H2->fS g tt te D x σ' H2 N):=by
 refine⟨λi m σ H=>m=n-i/\i<=n/\Pv i σ H,⟨n,by simp,P9 _,h0⟩,?_⟩
 rintro i m σ H ⟨rfl,hi,p⟩
 by_cases hlt:i<n
 .refine .inr ⟨hlt,Pv (i+1),λσ' H' p'=>⟨n-(i+1),@AT,rfl,hlt,p'⟩,λx H' y=>?_⟩
  obtain⟨e,y⟩:=y
  subst e y
  exact hs i σ _ hlt p
 .have e:i=n:=@AT
  subst e
  exact .inl ⟨Pd _,hd σ H p⟩
end
section
variable {P:Program}{w:World}{K:Frag}{mg:Str->Option Value}{base:Heap}
def FL.CU{st:Stmt}{k:Nat}(F:FL K x qual st f fd)(S:aH N ps (aq st))(len:∀vs H Q E,sp vs H Q E->vs.length=ps.length)
  (hbody:∀(cdv:Value) (A:Around) (outer:List Env) (s:Shared) (H:Hp) (vs:List V) (Q:VK) (E:XK),fV k (A.deeper (envOfC qual (aq st) s.heap.objs.size f cdv))->sp vs H Q E->
   ∃t,ur (sV (uL P w) P w K mg base N qual (aq st) f cdv A outer s H E) (c8 st) t/\t {nx:=λ_ H'=>Q .non H',rt:=Q} (start N vs) H):gS P w K mg base (uL P w) (k+1) f fd ps sp:=by
 obtain⟨oc,od,kV,doc,pm,an,cdv,ct,osl,rfl,lk,hcd⟩:=F.ex
 exact IW lk hcd S len λA outer s H vs Q E hr hsp=>hbody cdv A outer s H vs Q E hr hsp
end
section
variable {X:Cx}
def mF(hu:X.A.units+100<cLine):pH X (compareOp .NotIn) (Ma X.K true):=by
 intro pins s σ H x y v u Q I rx ry h
 obtain⟨p,xs,d,ds,rfl,hq,hs,hx,s1,s2,q⟩:=h
 cases ry
 let⟨bs,r2⟩:=hx.reads I rx
 have key:∀{e:PyData} {as:List Addr} {u:Value},SeqAt.shaped e=true->Reads s.heap u e as->SeqAt.EqAt X.A.in1 s u v (PyData.eqv e d):=λ{e as u} h1 h2=>by
  refine SeqAt.eqAt_reads _ _ _ _ _ _ _ _ h2 r2 (R9 h1) (R9 s1) ?_
  have:=SeqAt.depth_of_shaped h1
  show X.A.units+1+_<_
  omega
 rcases hq with hq|hq
 .let⟨its,r,pl,hz⟩:=I.list hq
  let⟨f,e1,e2⟩:=xr I d r hs s2
  refine SeqAt.notIn_listAt f pl.isList (λw hw=>?_) ⟨.bl _,H,I,rfl,?_⟩
  .let⟨e,as,hm,rd,ef⟩:=e2 w (by simpa using hw)
   rw[ef];exact key (s2 e hm) rd
  .rw[show its.toArray.any f=its.any f by simp,e1];exact q
 .let⟨its,r,pl,hz⟩:=I.tuple hq
  let⟨f,e1,e2⟩:=xr I d r hs s2
  refine SeqAt.notIn_tupleAt f pl (λw hw=>?_) ⟨.bl _,H,I,rfl,?_⟩
  .let⟨e,as,hm,rd,ef⟩:=e2 w (by simpa using hw)
   rw[ef];exact key (s2 e hm) rd
  .rw[show its.toArray.any f=its.any f by simp,e1];exact q
end
inductive SO where
 |nx (env:En) (β:Int)
 |bk (env:En) (β:Int)
 |ct (env:En) (β:Int)
 |rt (d:D) (fr:Bool) (β:Int)
 |exc (c:Str)
 |bad
abbrev SF:=En->Int->SO
def RV(Γ:Fx)(G' H':Hp)(fr:Bool)(d:D)(v:V):Prop:=if fr=true then ∃a,v=.ref a/\Γ.H0 a=none/\G' a=none/\Own Γ.K G' H' a d else Rp Γ.K G' v d
def tw(Γ:Fx)(E:XK)(G:Hp)(N:Ends):SO->Prop
 | .nx env β=>∀B G' H' σ,SR Γ B G' H' σ env β->ao G G'->N.nx σ H'
 | .bk env β=>∀B G' H' σ,SR Γ B G' H' σ env β->ao G G'->N.bk σ H'
 | .ct env β=>∀B G' H' σ,SR Γ B G' H' σ env β->ao G G'->N.ct σ H'
 | .rt d fr β=>∀B G' H' σ env v,SR Γ B G' H' σ env β->ao G G'->RV Γ G' H' fr d v->N.rt v H'
 | .exc c=>∀H',Kp Γ H'->E (.ref (Γ.ca c)) none H'
 | .bad=>False
def sT(Γ:Fx)(E:XK)(m:SF):TS:=λN σ H=>∃env G B β,SR Γ B G H σ env β/\tw Γ E G N (m env β)
def SS(X:Cx)(Γ:Fx)(E:XK)(st:Stmt)(m:SF):Prop:=PS X st (sT Γ E m)
def FN(X:Cx)(Γ:Fx)(E:XK)(st:List Stmt)(m:SF):Prop:=ur X st (sT Γ E m)
def ur.post{X:Cx}{st:List Stmt}(h:ur X st t)(m:∀D σ H,u D σ H->t D σ H):ur X st u:=λpins s σ H D I q=>h pins s σ H D I (m D σ H q)
def aF(m m':SF):SF:=λenv β=>match m env β with
 | .nx env' β'=>m' env' β'
 |r=>r
def nt:SF:=λenv β=>.nx env β
section
variable {X:Cx}{Γ:Fx}{E:XK}{e a b c:Expr}{f fa fb:VF D}{L La Lb:List Nat}{md ma mb:Md}{pos:Pos}{st:Stmt}{sts:List Stmt}{m m':SF}{ta:VF Bool}
theorem tw.weak(h:tw Γ E G N r)(s:ao G G1):tw Γ E G1 N r:=by
 cases r with
 |nx env β=>exact λB G' H' σ I s'=>h B G' H' σ I (s.trans s')
 |bk env β=>exact λB G' H' σ I s'=>h B G' H' σ I (s.trans s')
 |ct env β=>exact λB G' H' σ I s'=>h B G' H' σ I (s.trans s')
 |rt d fr β=>exact λB G' H' σ env v I s'=>h B G' H' σ env v I (s.trans s')
 |exc c=>exact h
 |bad=>exact h
def cf:FN X Γ E [] nt:=ur.post Aw λN σ H ⟨env,G,B,β,I,o⟩=>o B G H σ I (ao.refl _)
theorem ak(h:SS X Γ E st m)(h':FN X Γ E sts m'):FN X Γ E (st::sts) (aF m m'):=by
 refine ur.post (iO h h') λN σ H ⟨env,G,B,β,I,o⟩=>⟨env,G,B,β,I,?_⟩
 unfold aF at o
 cases q:m env β with
 |nx env' β'=>rw[q]at o;exact λB' G' H' σ' I' s'=>⟨env',G',B',β',I',o.weak s'⟩
 |bk env' β'=>rw[q]at o;exact o
 |ct env' β'=>rw[q]at o;exact o
 |rt d fr β'=>rw[q]at o;exact o
 |exc c=>rw[q]at o;exact o
 |bad=>rw[q]at o;exact o
def aw(h:SS X Γ E st m):FN X Γ E [st] m:=jf h
def toS{α:Type}(r:R α)(k:α->Int->SO):SO:=match r with
 | .ok x β=>k x β
 | .exc c=>.exc c
 | .bad=>.bad
theorem cx{α:Type}{G:Hp}{N:Ends}{r:R α}{k:α->Int->SO}{P:α->Int->Prop}(h:tw Γ E G N (toS r k))(i:∀x β,tw Γ E G N (k x β)->P x β):Out Γ E r P:=by
 cases r with
 |ok x β=>exact i x β h
 |exc c=>exact h
 |bad=>exact h
def SR.set'(I:SR Γ B G H σ env β)(i:Nat)(h:Rp Γ.K G v d):SR Γ B G H (σ.set i (some v)) (env.set i (.fz d)) β:=by
 by_cases hi:i<env.length
 .exact I.set hi h
 .have h1:env.set i (.fz d)=env:=Rm (@AT)
  have h2:σ.set i (some v)=σ:=Rm (by rw[I.len];omega)
  rw[h1,h2];exact I
def SR.setOw'(I:SR Γ B G H σ env β)(i:Nat){a:Addr}(h0:Γ.H0 a=none)(hg:G a=none)(hb:B≠some a)(h:Own Γ.K G H a d)(hn:∀(j:Nat) (d':D),env[j]? =some (.ow d')->σ[j]?≠some (some (.ref a))):SR Γ B G H (σ.set i (some (.ref a))) (env.set i (.ow d)) β:=by
 by_cases hi:i<env.length
 .exact I.setOw hi h0 hg hb h λj d' e _=>hn j d' e
 .have h1:env.set i (.ow d)=env:=Rm (@AT)
  have h2:σ.set i (some (.ref a))=σ:=Rm (by rw[I.len];omega)
  rw[h1,h2];exact I
def bp(i:Nat)(L:List Nat)(f:VF D):SF:=λenv β=>toS (f (vl env) β) λd β'=>.nx ((a8 L env).set i (.fz d)) β'
def a7{i:Nat}{x:Str}{pos':Pos}(he:SE X Γ E e f L .v)(hN:X.N.Nodup)(hi:X.N[i]? =some x:=by rfl)(hx:Loc X.env.scope x:=by first|exact Or.inl rfl|exact Or.inr rfl)(hs:swapsWith e (some (.Name x pos')) pos.line X.env=pure false:=by rfl)(hf:X.fn x=true\/X.env.scope.names.lookup x=some .local:=by first|exact .inl rfl|exact .inr rfl|assumption) :
  SS X Γ E (.Assign [.Name x pos'] e pos) (bp i L f):=by
 refine PS.post (rM hN hi hx he hs hf) λN σ H ⟨env,G,B,β,I,o⟩=>?_
 exact⟨env,G,B,β,I,cx o λd β' k v G' H' I' s' m' vo=>(k B G' H' _ (I'.set' i vo) s')⟩
def fE(i:Nat)(L:List Nat)(f:VF D):SF:=λenv β=>toS (f (vl env) β) λd β'=>.nx ((a8 L env).set i (.ow d)) β'
def eZ{i:Nat}{x:Str}{pos':Pos}(he:SE X Γ E e f L .w)(hN:X.N.Nodup)(hi:X.N[i]? =some x:=by rfl)(hx:Loc X.env.scope x:=by first|exact Or.inl rfl|exact Or.inr rfl)(hs:swapsWith e (some (.Name x pos')) pos.line X.env=pure false:=by rfl)(hf:X.fn x=true\/X.env.scope.names.lookup x=some .local:=by first|exact .inl rfl|exact .inr rfl|assumption) :
  SS X Γ E (.Assign [.Name x pos'] e pos) (fE i L f):=by
 refine PS.post (rM hN hi hx he hs hf) λN σ H ⟨env,G,B,β,I,o⟩=>⟨env,G,B,β,I,cx o λd β' k v G' H' I' s' m' vo=>?_⟩
 obtain⟨p,rfl,h1,h2,h3⟩:=vo
 let⟨q1,q2,q3,q4⟩:=I.fresh h1
 exact k B G' H' _ (I'.setOw' i q1 h2 q3 h3 λj d' z=>q4 j d' (vU z)) s'
def t9(L:List Nat)(f:VF D):SF:=λenv β=>toS (f (vl env) β) λ_ β'=>.nx (a8 L env) β'
def Bd(he:SE X Γ E e f L md)(hs:swapsWith e none pos.line X.env=pure false:=by rfl):SS X Γ E (.Expr e pos) (t9 L f):=by
 exact PS.post (qd he hs) λN σ H ⟨env,G,B,β,I,o⟩=>⟨env,G,B,β,I,cx o λd β' k v G' H' I' s' m' vo=>k B G' H' _ I' s'⟩
def bJ(f:VF D):SF:=λenv β=>toS (f (vl env) β) λd β'=>.rt d false β'
def aU(he:SE X Γ E e f L .v):SS X Γ E (.Return (some e) pos) (bJ f):=by
 exact PS.post (oU he) λN σ H ⟨env,G,B,β,I,o⟩=>⟨env,G,B,β,I,cx o λd β' k v G' H' I' s' m' vo=>k B G' H' σ _ v I' s' vo⟩
def k6(f:VF D):SF:=λenv β=>toS (f (vl env) β) λd β'=>.rt d true β'
def jd(he:SE X Γ E e f L .w):SS X Γ E (.Return (some e) pos) (k6 f):=by
 refine PS.post (oU he) λN σ H ⟨env,G,B,β,I,o⟩=>⟨env,G,B,β,I,cx o λd β' k v G' H' I' s' m' vo=>?_⟩
 obtain⟨p,rfl,h1,h2,h3⟩:=vo
 let⟨q1,_⟩:=I.fresh h1
 exact k B G' H' σ _ _ I' s' ⟨p,rfl,q1,h2,h3⟩
def pY(i:Nat):SF:=λenv β=>match env[i]? with
 |some (.fz d)=>.rt d false β
 |some (.ow d)=>.rt d true β
 |_=>.bad
theorem l5(i:Nat){p:Pos}(hN:X.N[i]? =some x:=by rfl)(hv:yW X.env.scope x:=by first|exact Or.inl rfl|exact Or.inr (Or.inl rfl)|exact Or.inr (Or.inr rfl))(hd:(x==("__debug__":Str))=false:=by decide)
  (hcd:(x==("__classdict__":Str))=false:=by decide):SS X Γ E (.Return (some (.Name x p)) pos) (pY i):=by
 refine PS.post (oU (g8 hN hv hd hcd)) λN σ H ⟨env,G,B,β,I,o⟩=>?_
 unfold pY at o
 cases q:env[i]? with
 |none=>rw[q]at o;exact o.elim
 |some s=>
  rw[q]at o
  cases s with
  |no=>exact o.elim
  |bx=>exact o.elim
  |br d=>exact o.elim
  |fz d=>
   let⟨v,h1,h2⟩:=I.slot i _ q
   exact⟨v,h1,o B G H σ env v I (ao.refl _) h2⟩
  |ow d=>
   let⟨p,h1,h2,h3,h4,h5⟩:=I.slot i _ q
   exact⟨_,h1,o B G H σ env _ I (ao.refl _) ⟨p,rfl,h2,h3,h5⟩⟩
def kh(L:List Nat)(t:VF Bool)(m m':SF):SF:=λenv β=>toS (t (vl env) β) λc β'=>if c=true then m (a8 L env) β' else m' (a8 L env) β'
theorem c7{x y:List Stmt}(hc:yX X Γ E c ta L)(ha:FN X Γ E x m)(hb:FN X Γ E y m'):SS X Γ E (.If c x y pos) (kh L ta m m'):=by
 refine PS.post (Je hc ha hb) λN σ H ⟨env,G,B,β,I,o⟩=>⟨env,G,B,β,I,cx o λd β' k G' H' I' s' m'=>?_⟩
 cases d with
 |true=>exact yg ⟨_,G',B,β',I',tw.weak k s'⟩
 |false=>exact wz ⟨_,G',B,β',I',tw.weak k s'⟩
def fX(L:List Nat)(t:VF Bool)(m:SF):Nat->SF
 | 0=>λ_ _=>.bad
 |n+1=>λenv β=>toS (t (vl env) β) λc β'=>if c=true then(match m (a8 L env) β' with
   | .nx env2 β2=>fX L t m n env2 β2
   | .ct env2 β2=>fX L t m n env2 β2
   | .bk env2 β2=>.nx env2 β2
   |r=>r)else .nx (a8 L env) β'
theorem lV{x:List Stmt}(n:Nat)(hp:PassesOwn (model X.prog X.w) X.A X.env X.xe)(hc:yX X Γ E c ta L)(hb:FN X Γ E x m):SS X Γ E (.While c x [] pos) (fX L ta m n):=by
 refine PS.post (EK hp hc hb) λN σ H ⟨env,G,B,β,I,o⟩=>⟨λk σ H=>∃env G1 B β,SR Γ B G1 H σ env β/\ao G G1/\tw Γ E G1 N (fX L ta m k env β),⟨n,env,G,B,β,I,ao.refl _,o⟩,?_⟩
 rintro k σ H ⟨env,G1,B,β,I,sG,o⟩
 cases k with
 |zero=>exact o.elim
 |succ k=>
  refine⟨env,G1,B,β,I,cx o λd β' q G' H' I' s' m'=>?_⟩
  cases d with
  |false=>exact wz (q B G' H' σ I' s')
  |true=>
   refine yg ⟨λσ H=>∃env G1 B β,SR Γ B G1 H σ env β/\ao G G1/\tw Γ E G1 N (fX L ta m k env β),λσ' H' h=>⟨k,Nat.lt_succ_self k,h⟩,a8 L env,G',B,β',I',?_⟩
   rw[Pe rfl]at q
   cases r:m (a8 L env) β' with
   |nx env2 β2=>rw[r]at q;exact λB2 G2 H2 σ2 I2 s2=>⟨env2,G2,B2,β2,I2,(sG.trans s').trans s2,tw.weak q (s'.trans s2)⟩
   |ct env2 β2=>rw[r]at q;exact λB2 G2 H2 σ2 I2 s2=>⟨env2,G2,B2,β2,I2,(sG.trans s').trans s2,tw.weak q (s'.trans s2)⟩
   |bk env2 β2=>rw[r]at q;exact λB2 G2 H2 σ2 I2 s2=>q B2 G2 H2 σ2 I2 (s'.trans s2)
   |rt d fr β2=>rw[r]at q;exact tw.weak q s'
   |exc c=>rw[r]at q;exact q
   |bad=>rw[r]at q;exact q
def Walk(K:Frag)(B:Option Addr)(G H1:Hp)(ds:List D)(J:It):Prop:=∀Gc H (i:Nat),ao G Gc->ao Gc H->iK B H1 H->
 (i<ds.length->J.go i H/\∀x H',J.yld i H x H'->∃G' d,Ext Gc H G' H'/\ds[i]? =some d/\Rp K G' x d)/\(ds.length<=i->J.stop i H)
def iT(Γ:Fx)(E:XK)(f:VF (List D))(L:List Nat)(md:Md):TI:=λσ H Rr=>∃env G B β,SR Γ B G H σ env β/\
 Out Γ E (f (vl env) β) λds β'=>∀J G' H',SR Γ B G' H' σ (a8 L env) β'->ao G G'->iK B H H'->Walk Γ.K B G' (match md with|.b=>H'|_=>λ_=>none) ds J->Rr J H'
def SI(X:Cx)(Γ:Fx)(E:XK)(tg e:Expr)(f:VF (List D))(L:List Nat)(md:Md):Prop:=PI X tg e (iT Γ E f L md)
def PI.post{X:Cx}{tg e:Expr}(h:PI X tg e t)(m:∀σ H Q,u σ H Q->t σ H Q):PI X tg e u:=λpins s σ H Q I q=>h pins s σ H Q I (m σ H Q q)
variable {tg:Expr}
def kn:D->Option (List D)
 | .list ds=>some ds
 | .tuple ds=>some ds
 |_=>none
def bV(fa:VF D):VF (List D):=λvs β=>(fa vs β).bnd λx β1=>R.of (kn x) β1
end
def O5(K:Frag)(tl:TE):TI:=λσ H R=>tl σ H λx H1=>∃a xs,x=.ref a/\((fU K H1 a xs/\R (CM K a) H1)\/(fu K H1 a xs/\R (Jb K a) H1))
section
variable {X:Cx}{tg l:Expr}{tl:TE}
def Jk(hl:PE X l tl):PI X tg l (O5 X.K tl):=by
 intro pins s σ H R I h
 refine cn (hl pins s σ H _ I h) λv s1 ⟨x,H1,I1,r1,q1⟩=>?_
 let⟨a,xs,e,q⟩:=q1
 subst e
 cases r1
 rcases q with⟨hq,q⟩|⟨hq,q⟩
 .let⟨its,rv,p,hz⟩:=I1.list hq
  refine RJ p.isList ⟨s1.heap.objs.size,[s1.heap.objs.size],_,_,H1,rfl,I1.kept λb o e=>Pb _ e,pC a _,⟨_,Pl _ rfl,rfl,rfl⟩,λb hb=>?_,q⟩
  have e:b=s1.heap.objs.size:=by simpa using hb
  subst e
  exact I1.fpOk (Pd _) (I1.hok.fresh (Pd _))
 .let⟨its,rv,p,hz⟩:=I1.tuple hq
  refine R5 (show s1.heap.IsTuple a its.toArray from p) ⟨s1.heap.objs.size,[s1.heap.objs.size],_,_,H1,rfl,I1.kept λb o e=>Pb _ e,sF a _,⟨_,Pl _ rfl,rfl,rfl⟩,λb hb=>?_,q⟩
  have e:b=s1.heap.objs.size:=by simpa using hb
  subst e
  exact I1.fpOk (Pd _) (I1.hok.fresh (Pd _))
end
section
variable {X:Cx}{Γ:Fx}{E:XK}{e a b c:Expr}{f fa fb:VF D}{L La Lb:List Nat}{md ma mb:Md}{pos:Pos}{st:Stmt}{sts:List Stmt}{m m':SF}{ta:VF Bool}{tg:Expr}
def pd{K:Frag}{B:Option Addr}{G H1:Hp}{p:Addr}{xs:List V}{ds:List D}(h:∀Gc H,ao G Gc->ao Gc H->iK B H1 H->fU K H p xs)(r:bS K G xs ds):Walk K B G H1 ds (CM K p):=λGc H i s1 s2 m=>by
 have hq:=h Gc H s1 s2 m
 refine⟨λhi=>⟨?_,λx H' y=>?_⟩,λhi=>⟨xs,hq,by rw[r.len];exact hi⟩⟩
 .have hi':i<xs.length:=by rw[r.len];exact hi
  exact⟨xs,xs[i],hq,by simp[hi']⟩
 .obtain⟨rfl,y⟩:=y
  let⟨d,e,q⟩:=r.at' (y xs hq)
  exact⟨Gc,d,Ext.refl s2,e,q.mono s1⟩
def xw{K:Frag}{B:Option Addr}{G H1:Hp}{p:Addr}{xs:List V}{ds:List D}(h:∀Gc H,ao G Gc->ao Gc H->iK B H1 H->fu K H p xs)(r:bS K G xs ds):Walk K B G H1 ds (Jb K p):=λGc H i s1 s2 m=>by
 have hq:=h Gc H s1 s2 m
 refine⟨λhi=>⟨?_,λx H' y=>?_⟩,λhi=>⟨xs,hq,by rw[r.len];exact hi⟩⟩
 .have hi':i<xs.length:=by rw[r.len];exact hi
  exact⟨xs,xs[i],hq,by simp[hi']⟩
 .obtain⟨rfl,y⟩:=y
  let⟨d,e,q⟩:=r.at' (y xs hq)
  exact⟨Gc,d,Ext.refl s2,e,q.mono s1⟩
theorem HI(hK:X.K=Γ.K)(ha:SE X Γ E a fa La .v):SI X Γ E tg a (bV fa) La .v:=by
 refine PI.post (Jk ha) λσ H Q ⟨env,G,B,β,I,o⟩=>⟨env,G,B,β,I,o.bnd.imp λd1 β1 h x G1 H1 I1 s1 m1 vx=>?_⟩
 let⟨ds,e,k⟩:=h.of
 rw[hK]
 have vx:Rp Γ.K G1 x d1:=vx
 cases d1 with
 |list l=>
  cases e
  cases vx with
  | @lst p xs _ hq r=>exact⟨p,xs,rfl,.inl ⟨.inl (Rd.mono (.inl hq) I1.sub),k _ G1 H1 I1 s1 m1 (pd (λGc H t1 t2 _=>.inl (Rd.mono (.inl hq) (t1.trans t2))) r)⟩⟩
 |tuple l=>
  cases e
  cases vx with
  | @tup p xs _ hq r=>exact⟨p,xs,rfl,.inr ⟨hq.grow I1.sub.grow,k _ G1 H1 I1 s1 m1 (xw (λGc H t1 t2 _=>hq.grow (t1.trans t2).grow) r)⟩⟩
 |_=>cases e
theorem nG(hK:X.K=Γ.K)(ha:SE X Γ E a fa La ma):SI X Γ E tg a (bV fa) La .b:=by
 refine PI.post (Jk ha) λσ H Q ⟨env,G,B,β,I,o⟩=>⟨env,G,B,β,I,o.bnd.imp λd1 β1 h x G1 H1 I1 s1 m1 vx=>?_⟩
 let⟨ds,e,k⟩:=h.of
 rw[hK]
 have vx:=vx.brw I.boxThere
 cases d1 with
 |list l=>
  cases e
  rcases vx with vx|⟨p,rfl,hb,xs,q,r⟩
  .cases vx with
   | @lst p xs _ hq r=>exact⟨p,xs,rfl,.inl ⟨.inl (Rd.mono (.inl hq) I1.sub),k _ G1 H1 I1 s1 m1 (pd (λGc H t1 t2 _=>.inl (Rd.mono (.inl hq) (t1.trans t2))) r)⟩⟩
  .exact⟨p,xs,rfl,.inl ⟨.inl (.inl q),k _ G1 H1 I1 s1 m1 (pd (λGc H t1 t2 mv=>.inl (.inl (mv.1 p _ q hb))) r)⟩⟩
 |tuple l=>
  cases e
  rcases vx with vx|⟨p,rfl,hb,q⟩
  .cases vx with
   | @tup p xs _ hq r=>exact⟨p,xs,rfl,.inr ⟨hq.grow I1.sub.grow,k _ G1 H1 I1 s1 m1 (xw (λGc H t1 t2 _=>hq.grow (t1.trans t2).grow) r)⟩⟩
  .exact q.elim
 |_=>cases e
def cI(lo:Int)(n:Nat):List D:=(List.range n).map λ(k:Nat)=>int (lo+k)
def dP(lo:Int)(n:Nat):(cI lo n).length=n:=by unfold cI;simp
def xi{K:Frag}{B:Option Addr}{G H1:Hp}(lo:Int)(n:Nat):Walk K B G H1 (cI lo n) (CY lo n):=λGc H i s1 s2 m=>by
 rw[dP]
 refine⟨λhi=>⟨hi,λx H' y=>?_⟩,λhi=>hi⟩
 obtain⟨rfl,rfl⟩:=y
 refine⟨Gc,.int (lo+i),Ext.refl s2,?_,.int _⟩
 unfold cI
 rw[Pt,Ru hi];rfl
def CU(j:Int):Bool:=Nat.ble j.natAbs 1000000
def pB(h:CU j=true): -(2^62)<=j/\j<2^62:=by
 have:=Nat.le_of_ble_eq_true h
 omega
def pF(h: -1000<=j)(h2:j<=10000):CU j=true:=Nat.ble_eq_true_of_le (@AT)
def bP(fa:VF D):VF (List D):=λvs β=>(fa vs β).bnd λx β1=>match x with
 | .int j=>if CU j=true then .ok (cI 0 j.toNat) β1 else .bad
 |_=>.bad
def tZ(fa fb:VF D):VF (List D):=λvs β=>(fa vs β).bnd λx β1=>(fb vs β1).bnd λy β2=>match x,y with
 | .int i,.int j=>if(CU i&&CU j)=true then .ok (cI i (j-i).toNat) β2 else .bad
 |_,_=>.bad
theorem iV{p:Pos}(hg:Gl X "range")(hm:X.mg "range"=none)(ha:SE X Γ E a fa La ma)(hs:starEach [a] X.env= [(false,eval a X.env)]:=by rfl)(hs':starEach [a] X.env=(false,eval a X.env)::starEach [] X.env:=by rfl):SI X Γ E tg (.Call (.Name "range" p) [a] [] pos) (bP fa) La md:=by
 refine PI.post (l6 hg hm (aP ha bD hs') hs) λσ H Q ⟨env,G,B,β,I,o⟩=>⟨env,G,B,β,I,o.bnd.imp λd1 β1 h x G1 H1 I1 s1 m1 vx=>?_⟩
 have vx:=vx.brw I.boxThere
 cases d1 with
 |int j=>
  obtain rfl:=vx.int
  dsimp only at h
  by_cases hj:CU j=true
  .rw[Pe hj]at h
   exact⟨j,rfl,(pB hj).1,(pB hj).2,h _ G1 H1 I1 s1 m1 (xi 0 _)⟩
  .rw[Pg hj]at h;exact h.elim
 |_=>exact h.elim
def Me{p:Pos}(hg:Gl X "range")(hm:X.mg "range"=none)(ha:SE X Γ E a fa La ma)(hb:SE X Γ E b fb Lb mb)(hs:starEach [a,b] X.env= [(false,eval a X.env),(false,eval b X.env)]:=by rfl)(hs2:starEach [b] X.env= [(false,eval b X.env)]:=by rfl)(hs':starEach [a,b] X.env=(false,eval a X.env)::starEach [b] X.env:=by rfl)(hs3:starEach [b] X.env=(false,eval b X.env)::starEach [] X.env:=by rfl):SI X Γ E tg (.Call (.Name "range" p) [a,b] [] pos) (tZ fa fb) (La++Lb) md:=by
 refine PI.post (Ca hg hm (aP ha (aP hb bD hs3) hs') hs hs2) λσ H Q ⟨env,G,B,β,I,o⟩=>(two I (o.bnd.imp λd1 β1 h=>h.bnd.imp λd2 β2 h x y G2 H2 I2 s2 m2 bx by'=>?_))
 obtain⟨i,j,rfl,rfl⟩:∃i j,d1=.int i/\d2=.int j:=by
  cases d1<;>cases d2<;>first|exact h.elim|exact⟨_,_,rfl,rfl⟩
 obtain rfl:=bx.int
 obtain rfl:=by'.int
 dsimp only at h
 by_cases hj:(CU i&&CU j)=true
 .rw[Pe hj]at h
  rw[PF]at hj
  exact⟨i,j,rfl,⟨(pB hj.1).1,(pB hj.1).2,(pB hj.2).1,(pB hj.2).2⟩,h _ G2 H2 I2 s2 m2 (xi i _)⟩
 .rw[Pg hj]at h;exact h.elim
inductive Tg where
 |nm (i:Nat)
 |two (i j:Nat)
def pairD:D->Option (D×D)
 | .tuple [x,y]=>some (x,y)
 |_=>none
def Ft(h:pairD d=some (x,y)):d=.tuple [x,y]:=by
 unfold pairD at h
 split at h
 .cases h;rfl
 .cases h
def hJ:Tg->D->En->Option En
 | .nm i,d,env=>some (env.set i (.fz d))
 | .two i j,d,env=>(pairD d).map λp=>(env.set i (.fz p.1)).set j (.fz p.2)
def k8:Tg->D->List Nv->Option (List Nv)
 | .nm i,d,vs=>some (vs.set i (.da d))
 | .two i j,d,vs=>(pairD d).map λp=>(vs.set i (.da p.1)).set j (.da p.2)
def yK(env:En)(i:Nat)(s:Sl):vl (env.set i s)=(vl env).set i s.val:=by unfold vl;rw[List.map_set]
theorem Iq(t:Tg)(d:D)(env:En):(hJ t d env).map vl=k8 t d (vl env):=by
 cases t with
 |nm i=>show some (vl _)=some _;rw[yK];rfl
 |two i j=>
  show((pairD d).map _).map vl=(pairD d).map _
  cases pairD d with
  |none=>rfl
  |some p=>show some (vl _)=some _;rw[yK,yK];rfl
def gT(Γ:Fx)(t:Tg):TG:=λv σ H Q=>∃env G B β d env',SR Γ B G H σ env β/\Rp Γ.K G v d/\hJ t d env=some env'/\∀σ',SR Γ B G H σ' env' β->Q σ' H
def SG(X:Cx)(Γ:Fx)(tg:Expr)(t:Tg):Prop:=PG X tg (gT Γ t)
def PG.post{X:Cx}{tg:Expr}(h:PG X tg t)(m:∀v σ H Q,u v σ H Q->t v σ H Q):PG X tg u:=λpins s σ H v uu Q I r q=>h pins s σ H v uu Q I r (m v σ H Q q)
def cc(hN:X.N.Nodup)(hi:X.N[i]? =some x:=by rfl)(hx:Loc X.env.scope x:=by first|exact Or.inl rfl|exact Or.inr rfl)(hf:X.fn x=true\/X.env.scope.names.lookup x=some .local:=by first|exact .inl rfl|exact .inr rfl|assumption):SG X Γ (.Name x pos) (.nm i):=by
 refine PG.post (c6 hN hi hx hf) λv σ H Q ⟨env,G,B,β,d,env',I,r,e,k⟩=>?_
 cases e
 exact k _ (I.set' i r)
theorem jJ{i j:Nat}{x y:Str}{px py:Pos}{n:Nat}(hN:X.N.Nodup)(hc:X.calm=true:=by rfl)(hK:X.K=Γ.K:=by rfl)(hi:X.N[i]? =some x:=by rfl)(hj:X.N[j]? =some y:=by rfl)(hx:Loc X.env.scope x:=by first|exact Or.inl rfl|exact Or.inr rfl)(hy:Loc X.env.scope y:=by first|exact Or.inl rfl|exact Or.inr rfl)
  (hf:X.fn x=true\/X.env.scope.names.lookup x=some .local:=by first|exact .inl rfl|exact .inr rfl|assumption) (hf':X.fn y=true\/X.env.scope.names.lookup y=some .local:=by first|exact .inl rfl|exact .inr rfl|assumption):SG X Γ (.Tuple [.Name x px,.Name y py] n pos) (.two i j):=by
 refine PG.post (rL hc (eY (c6 hN hi hx hf) (eY (c6 hN hj hy hf') nK))) λv σ H Q ⟨env,G,B,β,d,env',I,r,e,k⟩=>?_
 rw[hK]
 have e:(pairD d).map (λp=>(env.set i (.fz p.1)).set j (.fz p.2))=some env':=e
 cases q:pairD d with
 |none=>rw[q]at e;cases e
 |some p=>
  let⟨dx,dy⟩:=p
  rw[q]at e
  cases e
  obtain rfl:=Ft q
  cases r with
  | @tup p xs _ hq r=>
   cases r with
   |cons r1 r=>
    cases r with
    |cons r2 r=>
     cases r
     exact⟨p,_,rfl,hq.grow I.sub.grow,rfl,_,_,rfl,_,_,rfl,rfl,k _ ((I.set' i r1).set' j r2)⟩
def nE(t:Tg)(m:SF):List D->SF
 | []=>λenv β=>.nx env β
 |d::ds=>λenv β=>match hJ t d env with
  |none=>.bad
  |some env1=>match m env1 β with
   | .nx env2 β2=>nE t m ds env2 β2
   | .ct env2 β2=>nE t m ds env2 β2
   | .bk env2 β2=>.nx env2 β2
   |r=>r
def dg(t:Tg)(L:List Nat)(fi:VF (List D))(m:SF):SF:=λenv β=>toS (fi (vl env) β) λds β'=>nE t m ds (a8 L env) β'
def fA(hp:PassesOwn (model X.prog X.w) X.A X.env X.xe)(hc:X.calm=true)(hi:SI X Γ E tg e fi L .v)(hg:SG X Γ tg t)(hb:FN X Γ E x m)(hs:∀x,foldedSetIterable e X.env x=pure x:=by intro _;rfl):SS X Γ E (.For tg e x [] pos) (dg t L fi m):=by
 refine PS.post (vB hp hc hi hg hb hs) λN σ H ⟨env,G,B,β,I,o⟩=>⟨env,G,B,β,I,cx o λds β' q J G' H' I' s' m' w=>?_⟩
 have w:Walk Γ.K B G' (λ_=>none) ds J:=w
 refine⟨λi n σ H=>n=ds.length-i/\i<=ds.length/\∃env G1 B β,SR Γ B G1 H σ env β/\ao G' G1/\tw Γ E G1 N (nE t m (ds.drop i) env β),⟨ds.length,by simp,P9 _,a8 L env,G',B,β',I',ao.refl _,by rw[drop_zero];exact tw.weak q s'⟩,?_⟩
 rintro i n σ H ⟨rfl,hi,env,G1,B1,β1,I1,s1,q⟩
 let⟨w1,w2⟩:=w G1 H i s1 I1.sub ⟨(λb o e=>by cases e),λb o u e=>by cases e⟩
 by_cases hlt:i<ds.length
 .let⟨go,yl⟩:=w1 hlt
  refine .inr ⟨go,λσ H=>∃env G2 B β,SR Γ B G2 H σ env β/\ao G' G2/\tw Γ E G2 N (nE t m (ds.drop (i+1)) env β),λσ2 H2 h=>⟨ds.length-(i+1),@AT,rfl,hlt,h⟩,λx H2 y=>?_⟩
  let⟨G2,d,x2,ed,rd⟩:=yl x H2 y
  have I2:=I1.ext x2
  have q:=tw.weak q x2.gg
  rw[Sv hlt]at q
  have ed':ds[i]=d:=by rw[O9 hlt]at ed;exact Option.some.inj ed
  rw[ed']at q
  unfold nE at q
  cases eb:hJ t d env with
  |none=>rw[eb]at q;exact q.elim
  |some env1=>
   rw[eb]at q
   refine⟨env,G2,B1,β1,d,env1,I2,rd,eb,λσ3 I3=>⟨env1,G2,B1,β1,I3,?_⟩⟩
   have s2:=s1.trans x2.gg
   dsimp only at q
   cases r:m env1 β1 with
   |nx env2 β2=>rw[r]at q;exact λB2 G3 H3 σ2 I2 s3=>⟨env2,G3,B2,β2,I2,s2.trans s3,tw.weak q s3⟩
   |ct env2 β2=>rw[r]at q;exact λB2 G3 H3 σ2 I2 s3=>⟨env2,G3,B2,β2,I2,s2.trans s3,tw.weak q s3⟩
   |bk env2 β2=>rw[r]at q;exact λB2 G3 H3 σ2 I2 s3=>q B2 G3 H3 σ2 I2 s3
   |rt d fr β2=>rw[r]at q;exact q
   |exc c=>rw[r]at q;exact q
   |bad=>rw[r]at q;exact q
 .have e:i=ds.length:=@AT
  subst e
  rw[List.drop_length]at q
  exact .inl ⟨w2 (Pd _),q B1 G1 H σ I1 (ao.refl _)⟩
end
abbrev Fx.jG(Γ:Fx)(H0 G0:Hp)(par:List Addr)(br:Nat->Bool)(bx:Option Addr):Fx:=⟨Γ.K,H0,G0,par,Γ.ca,br,bx⟩
def fO(own:Nat)(ixs:List Nat)(vs:List Nv):List Nv:=List.replicate own .no++ixs.map λi=>(vs[i]?).getD .no
def LC:Option Sl->Sl
 |some (.ow d)=>.br d
 |some s=>s
 |none=>.no
def benv(own:Nat)(ixs:List Nat)(env:En):En:=List.replicate own .no++ixs.map λi=>LC env[i]?
theorem Gp(o:Option Sl):(LC o).val=(o.map Sl.val).getD .no:=by
 cases o with
 |none=>rfl
 |some s=>cases s<;>rfl
def GP(own:Nat)(ixs:List Nat)(env:En):vl (benv own ixs env)=fO own ixs (vl env):=by
 unfold vl benv fO
 rw[PV,List.map_replicate,P8]
 congr 1
 refine Qu λi _=>?_
 show(LC env[i]?).val=_
 rw[Gp,Pt]
def za(env:En):Prop:=∀(i:Nat) (d:D),env[i]?≠some (.ow d)
theorem w9{env:En}(h:za env)(L:List Nat):a8 L env=env:=by
 unfold a8
 induction L with
 |nil=>rfl
 |cons i L ih=>
  rw[Rk]
  have:jV env i=env:=by
   unfold jV
   split
   .rename_i d e;exact absurd e (h i d)
   .rfl
  rw[this];exact ih
def tW(own:Nat)(ixs:List Nat)(env:En):za (benv own ixs env):=λi d e=>by
 unfold benv at e
 have hm:=Pn e
 rcases Pz.mp hm with h|h
 .have:=Sz h;cases this
 .let⟨k,_,hk⟩:=Pj.mp h
  cases q:env[k]? with
  |none=>rw[q]at hk;cases hk
  |some s=>rw[q]at hk;cases s<;>cases hk
def sC{env:En}(h:za env)(i:Nat)(d:D):za (env.set i (.fz d)):=λj d' e=>by
 by_cases z:i=j
 .subst z
  by_cases hi:i<env.length
  .rw[PQ hi]at e;cases e
  .rw[Rm (@AT)]at e;exact h _ _ e
 .rw[PH z]at e;exact h _ _ e
theorem BL{env env1:En}{t:Tg}(h:za env)(e:hJ t d env=some env1):za env1:=by
 cases t with
 |nm i=>cases e;exact sC h i d
 |two i j=>
  have e:(pairD d).map _=some env1:=e
  cases q:pairD d with
  |none=>rw[q]at e;cases e
  |some p=>rw[q]at e;cases e;exact sC (sC h _ _) _ _
theorem BZ{env env1:En}{t:Tg}(e:hJ t d env=some env1)(d':D):hJ t d' env1=hJ t d' env:=by
 cases t with
 |nm i=>cases e;show some _=some _;rw[set_set]
 |two i j=>
  have e:(pairD d).map _=some env1:=e
  cases q:pairD d with
  |none=>rw[q]at e;cases e
  |some p=>
   rw[q]at e;cases e
   show(pairD d').map _=(pairD d').map _
   cases pairD d' with
   |none=>rfl
   |some p'=>
    show some _=some _
    congr 1
    dsimp only
    by_cases z:i=j
    .subst z;simp[set_set]
    .rw[List.set_comm _ _ (Ne.symm z),set_set,set_set]
def Ext.mov{G H G' H':Hp}(x:Ext G H G' H')(B:Option Addr):iK B H H':=x.hh.mov B
section
variable {Γ:Fx}{B:Option Addr}{G H G1 H1 Gc Hc:Hp}{σ σ':St}{env envb:En}{β β':Int}{own:Nat}{ixs:List Nat}{Da:Addr}{acc:List V}
def zR(envb:En):Nat->Bool:=λj=>match envb[j]? with
 |some (.br _)=>true
 |_=>false
def SR.block(I:SR Γ B G H σ env β)(own:Nat)(ixs:List Nat)(hD:H Da=none):SR (Γ.jG (upd H Da (.lst [])) G (Da::B.toList) (zR (benv own ixs env)) B) B G (upd H Da (.lst [])) (wt own ixs σ) (benv own ixs env) β:=by
 let⟨q1,q2,q3,q4⟩:=I.fresh hD
 have nB:∀b,B=some b->b≠Da:=λb e z=>q3 (by rw[<-z];exact e)
 refine⟨I.sub.trans (ao.new hD),ao.refl _,λb _ h=>h,λb o h _=>Kt.of h,λb hb=>?_,λb e=>e,λb e=>?_,?_,λi s e=>?_,λi j c d d' e=>absurd e (tW own ixs env i d)⟩
 .rcases Pf.mp hb with z|z
  .subst z;exact Mx.lst au
  .have z':B=some b:=by simpa using z
   exact Mx.lst (by rw[av (nB b z')];exact(I.box b z').1)
 .let⟨h1,h2,_⟩:=I.box b e
  exact⟨by rw[av (nB b e)];exact h1,h2,.inl (Pk _ (by simpa using e))⟩
 .unfold wt benv;simp
 .by_cases hi:i<own
  .unfold benv at e
   rw[PJ (by simpa using hi),Q4,Pe hi]at e
   cases e;trivial
  .have e0:=e
   unfold benv at e
   rw[P7 (by simpa using hi),RE,Pt]at e
   cases ek:ixs[i-own]? with
   |none=>rw[ek]at e;cases e
   |some k=>
    rw[ek]at e
    have e:LC env[k]? =s:=Option.some.inj e
    have es:(wt own ixs σ)[i]? =some ((σ[k]?).join):=by
     unfold wt
     rw[P7 (by simpa using hi),RE,Pt,ek];rfl
    rw[es]
    cases q:env[k]? with
    |none=>rw[q]at e;subst e;trivial
    |some t=>
     rw[q]at e
     have w:=I.slot k t q
     cases t with
     |no=>subst e;trivial
     |fz d=>subst e;let⟨v,h1,h2⟩:=w;exact⟨v,by rw[h1];rfl,h2⟩
     |bx=>subst e;let⟨a,h1,h2⟩:=w;exact⟨a,by rw[h1];rfl,h2⟩
     |ow d=>
      subst e
      let⟨a,h1,h2,h3,h4,h5⟩:=w
      let⟨o,ho⟩:=h5.obj
      have aD:a≠Da:=aL ho hD
      refine⟨by show zR _ i=true;unfold zR;rw[e0];rfl,a,by rw[h1];rfl,h4,?_,h5.mono (ao.refl _) λo q=>Kt.of (by rw[av aD];exact q)⟩
      intro hm
      rcases Pf.mp hm with z|z
      .exact aD z
      .exact h4 (by simpa using z)
     |br d=>
      subst e
      let⟨b1,a,h1,h4,hp,h5⟩:=w
      let⟨o,ho⟩:=h5.obj
      have aD:a≠Da:=aL ho hD
      refine⟨by show zR _ i=true;unfold zR;rw[e0];rfl,a,by rw[h1];rfl,h4,?_,h5.mono (ao.refl _) λo q=>Kt.of (by rw[av aD];exact q)⟩
      intro hm
      rcases Pf.mp hm with z|z
      .exact aD z
      .exact h4 (by simpa using z)
def SR.unblock(I:SR Γ B G H σ env β){br:Nat->Bool}(hD:H Da=none)(J:SR (Γ.jG (upd H Da (.lst [])) G (Da::B.toList) br B) B Gc Hc σ' envb β'):SR Γ B Gc Hc σ env β'/\iK B H Hc/\Gc Da=none:=by
 let⟨q1,q2,q3,q4⟩:=I.fresh hD
 have up:∀{b:Addr},Mx H b->Mx (upd H Da (.lst [])) b:=λ{b} h=>h.same λo e=>Kt.of (by rw[av (aL e hD)];exact e)
 have mv0:∀b o,H b=some o->B≠some b->Kt Hc b o:=λb o e n=>J.keep b o (show upd H Da (.lst []) b=some o by rw[av (aL e hD)];exact e) λhm=>by
  rcases Pf.mp hm with z|z
  .rw[z,hD]at e;cases e
  .exact n (by simpa using z)
 have mv:iK B H Hc:=⟨mv0,λb o u e=>mv0 b _ e λz=>by rw[(I.box b z).1]at e;cases e⟩
 refine⟨⟨J.sub,I.old.trans J.old,λb h1 h2=>J.new b (up (I.thereM h1)) (I.new b h1 h2),λb o h1 h2=>y6 (I.keep b o h1 h2) mv λz=>?_,λb hb=>J.thereM (up (I.pin b hb)),I.fix,λb e=>?_,I.len,λi s e=>?_,I.sep⟩,mv,J.new Da (Mx.lst (show upd H Da (.lst []) Da=some (.lst [])from au)) q2⟩
 .let⟨_,_,h3⟩:=I.box b z
  rcases h3 with h3|h3
  .exact h2 h3
  .rw[h1]at h3;cases h3
 .let⟨j1,j2,_⟩:=J.box b e
  exact⟨j1,j2,(I.box b e).2.2⟩
 .have w:=I.slot i s e
  cases s with
  |no=>trivial
  |fz d=>let⟨v,h1,h2⟩:=w;exact⟨v,h1,h2.mono J.old⟩
  |bx=>exact w
  |ow d=>
   let⟨a,h1,h2,h3,h4,h5⟩:=w
   exact⟨a,h1,h2,J.new a (up h5.mx) h3,h4,h5.mono J.old λo q=>mv.1 a o q h4⟩
  |br d=>
   let⟨b1,a,h1,h4,hp,h5⟩:=w
   exact⟨b1,a,h1,h4,hp,h5.mono J.old λo q=>mv.1 a o q h4⟩
def SR.wb(J:SR Γ B G H σ env β)(hp:Da∈Γ.par)(h0:Mx Γ.H0 Da)(g0:Γ.G0 Da=none)(hB:B≠some Da):SR Γ B G (upd H Da (.lst ys)) σ env β:=by
 have gD:=J.new Da h0 g0
 have ha:∀x y,H Da≠some (.a8 x y):=λx y w=>(J.pin Da hp).2 _ w trivial
 refine⟨λb u q=>lF (J.sub b u q) (λz=>by rw[z,gD]at q;cases q) ha,J.old,J.new,λb u q n=>lF (J.keep b u q n) (λz=>n (by rw[z];exact hp)) ha,λb hb=>?_,J.fix,λb e=>?_,J.len,λi s e=>?_,J.sep⟩
 .by_cases z:b=Da
  .subst z;exact Mx.lst au
  .exact (J.pin b hb).same λo e=>Kt.of (by rw[av z];exact e)
 .let⟨h1,h2⟩:=J.box b e
  exact⟨by rw[av (λz=>hB (by rw[<-z];exact e))];exact h1,h2⟩
 .have w:=J.slot i s e
  cases s with
  |no=>trivial
  |fz d=>exact w
  |bx=>exact w
  |ow d=>
   let⟨a,h1,h2,h3,h4,h5⟩:=w
   have aD:a≠Da:=λz=>h0.1 (by rw[<-z];exact h2)
   exact⟨a,h1,h2,h3,h4,h5.mono (ao.refl _) λo q=>Kt.of (by rw[av aD];exact q)⟩
  |br d=>
   let⟨b1,a,h1,h4,hpa,h5⟩:=w
   have aD:a≠Da:=λz=>hpa (by rw[z];exact hp)
   exact⟨b1,a,h1,h4,hpa,h5.mono (ao.refl _) λo q=>Kt.of (by rw[av aD];exact q)⟩
end
def R.okb{α γ:Type}(r:R α)(k:α->Int->R γ):R γ:=match r with
 | .ok a β=>k a β
 |_=>.bad
def eQ(t:Tg)(ft:VF Bool)(fe:VF D)(vs:List Nv):List D->Int->R (List D)
 | [],β=>.ok [] β
 |d::ds,β=>match k8 t d vs with
  |none=>.bad
  |some vs1=>(ft vs1 β).okb λc β1=>if c=true then(fe vs1 β1).okb λx β2=>(eQ t ft fe vs ds β2).okb λxs β3=>.ok (x::xs) β3 else eQ t ft fe vs ds β1
def aM(own:Nat)(ixs:List Nat)(t:Tg)(fi:VF (List D))(ft:VF Bool)(fe:VF D):VF D:=λvs β=>(fi vs β).bnd λds β1=>if ds.length<=sizeLine then(eQ t ft fe (fO own ixs vs) ds β1).okb λxs β2=>.ok (.list xs) β2 else .bad
def kJ:VF Bool:=λ_ β=>.ok true β
def IU(own:Nat)(ixs Lc:List Nat)(j:Nat):Bool:=decide (j<own)||(match ixs[j-own]? with
 |some i=>Lc.contains i
 |none=>false)
theorem HU{α γ:Type}{Γ:Fx}{E:XK}{r:R α}{k:α->Int->R γ}{P:γ->Int->Prop}(h:Out Γ E (r.okb k) P):∃a β,r=.ok a β/\Out Γ E (k a β) P:=by
 cases r with
 |ok a β=>exact⟨a,β,rfl,h⟩
 |exc c=>exact h.elim
 |bad=>exact h.elim
section
variable {X:Cx}{Γ:Fx}{E:XK}{tg iter elt:Expr}{ifs:List Expr}{scope:Scope}{NB:List Str}{own:Nat}{ixs Li Lc Lt Le:List Nat}{t:Tg}{fi:VF (List D)}{ft:VF Bool}{fe:VF D}{pos:Pos}
def dZ{X:Cx}{Γ:Fx}{E:XK}:EI X [] (qT Γ E kJ []):=λpins s σ H Q I ⟨env,G,B,β,J,o⟩=>uR pins s σ H Q I (o G H J (ao.refl _) (iK.refl _ _))
def fj{X:Cx}{Γ:Fx}{E:XK}(h:yX X Γ E c ta L):EI X [c] (qT Γ E ta L):=Bg h
def pV{NB:List Str}{scope:Scope}:Passes (uL P w) (jG X NB scope C ex s3 H3 pn) E0:=λpins σ H s e s' I h=>by
 let⟨_,_,_,_,_,_,_,_,_,q⟩:=h
 exact q.elim
abbrev gU(Γ:Fx)(t:Tg):TG:=λv σ H Q=>∃H0 G0 par br bx,gT (Γ.jG H0 G0 par br bx) t v σ H Q
abbrev tU(Γ:Fx)(own:Nat)(ixs Lc:List Nat)(ft:VF Bool)(Lt:List Nat):TT:=λσ H Q=>∃H0 G0 par br bx,(∀j,IU own ixs Lc j=true->br j=false)/\qT (Γ.jG H0 G0 par br bx) E0 ft Lt σ H Q
abbrev eU(Γ:Fx)(own:Nat)(ixs Lc:List Nat)(fe:VF D)(Le:List Nat):TE:=λσ H Q=>∃H0 G0 par br bx,(∀j,IU own ixs Lc j=true->br j=false)/\pT (Γ.jG H0 G0 par br bx) E0 fe Le .v σ H Q
def IF{σ:St}{H:Hp}{Q:VK}(hLc:∀i,i∈Lc->Γ.br i=false)(h:pT Γ E (aM own ixs t fi ft fe) (Li++Lc) .w σ H Q):zh own ixs (iT Γ E fi Li .b) (gU Γ t) (tU Γ own ixs Lc ft Lt) (eU Γ own ixs Lc fe Le) σ H Q:=by
 let⟨env,G,B,β,I,o⟩:=h
 refine⟨env,G,B,β,I,o.bnd.imp λds β1 h J G1 H1 I1 s1 m1 wk Da hD=>?_⟩
 have wk:Walk Γ.K B G1 H1 ds J:=wk
 by_cases hz:ds.length<=sizeLine
 case neg=>rw[Pg hz]at h;exact h.elim
 rw[Pe hz]at h
 let⟨xs0,β0,e0,h⟩:=HU h
 have h:∀v G' H',SR Γ B G' H' σ (a8 (Li++Lc) env) β0->ao G G'->iK B H H'->VO Γ.K B H G' H' .w (.list xs0) v->Q v H':=h
 let⟨G2,I2,s2⟩:=I1.a8 Lc hLc
 rw[<-b8]at I2
 let⟨q1,q2,q3,q4⟩:=I2.fresh hD
 have Ib0:=I2.block own ixs hD
 generalize hbr:zR (benv own ixs (a8 (Li++Lc) env))=br at Ib0
 have hbo:∀j,IU own ixs Lc j=true->br j=false:=by
  intro j hj
  rw[<-hbr]
  unfold zR
  split
  .rename_i d e
   exfalso
   unfold benv at e
   by_cases hjo:j<own
   .rw[PJ (by simpa using hjo),Q4,Pe hjo]at e;cases e
   .rw[P7 (by simpa using hjo),RE,Pt]at e
    unfold IU at hj
    rw[Px hjo,Bool.false_or]at hj
    cases ek:ixs[j-own]? with
    |none=>rw[ek]at hj;cases hj
    |some k=>
     rw[ek]at hj e
     have hk:k∈Lc:=by simpa using hj
     have e:LC (a8 (Li++Lc) env)[k]? =.br d:=Option.some.inj e
     cases q:(a8 (Li++Lc) env)[k]? with
     |none=>rw[q]at e;cases e
     |some s=>
      rw[q]at e
      cases s with
      |no=>cases e
      |fz _=>cases e
      |bx=>cases e
      |br d'=>
       let⟨b1,_⟩:=I2.slot k _ q
       rw[hLc k hk]at b1;cases b1
      |ow d'=>
       rw[b8]at q
       have key:∀(M:List Nat) (en:En),k∈M->∀d',(a8 M en)[k]?≠some (.ow d'):=by
        intro M
        induction M with
        |nil=>intro en hm;cases hm
        |cons i M ih=>
         intro en hm d' z
         rcases Pf.mp hm with y|y
         .subst y
          have z1:(jV en k)[k]? =some (.ow d'):=vU z
          have z2:=AD z1
          unfold jV at z1
          rw[z2]at z1
          dsimp only at z1
          rw[PQ (Pw.mp z2).1]at z1;cases z1
         .exact ih (jV en i) y d' z
       exact key Lc _ hk d' q
  .rfl
 have evb:vl (benv own ixs (a8 (Li++Lc) env))=fO own ixs (vl env):=by rw[GP,fB]
 refine⟨λi n σ' H'=>n=ds.length-i/\i<=ds.length/\∃envb Gc β' acc accd,SR (Γ.jG (upd H1 Da (.lst [])) G2 (Da::B.toList) br B) B Gc H' σ' envb β'/\(envb=benv own ixs (a8 (Li++Lc) env)\/∃d,hJ t d (benv own ixs (a8 (Li++Lc) env))=some envb)/\
   H' Da=some (.lst acc)/\bS Γ.K Gc acc accd/\accd.length<=i/\∃xs,eQ t ft fe (fO own ixs (vl env)) (ds.drop i) β'=.ok xs β0/\accd++xs=xs0,
  ⟨ds.length,by simp,P9 _,_,G2,β1,[],[],Ib0,.inl rfl,au,.nil,P9 _,xs0,by rw[drop_zero];exact e0,rfl⟩,?_⟩
 rintro i n σ' H' ⟨rfl,hi',envb,Gc,β',acc,accd,Ib,eb,hacc,racc,lacc,xs,ec,exs⟩
 let⟨Io,mv,gD⟩:=I2.unblock hD Ib
 let⟨w1,w2⟩:=wk Gc H' i (s2.trans Ib.old) Ib.sub mv
 by_cases hlt:i<ds.length
 .let⟨go,yl⟩:=w1 hlt
  refine .inr ⟨go,λσ' H'=>∃envb Gc β' acc accd,SR (Γ.jG (upd H1 Da (.lst [])) G2 (Da::B.toList) br B) B Gc H' σ' envb β'/\(envb=benv own ixs (a8 (Li++Lc) env)\/∃d,hJ t d (benv own ixs (a8 (Li++Lc) env))=some envb)/\
   H' Da=some (.lst acc)/\bS Γ.K Gc acc accd/\accd.length<=i+1/\∃xs,eQ t ft fe (fO own ixs (vl env)) (ds.drop (i+1)) β'=.ok xs β0/\accd++xs=xs0,λσ2 H2 hh=>⟨ds.length-(i+1),@AT,rfl,hlt,hh⟩,λx H2 y=>?_⟩
  let⟨G3,d,x3,ed,rd⟩:=yl x H2 y
  have I3:=Ib.ext x3
  have ed':ds[i]=d:=by rw[O9 hlt]at ed;exact Option.some.inj ed
  rw[Sv hlt,ed']at ec
  unfold eQ at ec
  cases ebv:k8 t d (fO own ixs (vl env))with
  |none=>rw[ebv]at ec;cases ec
  |some vs1=>
   rw[ebv]at ec
   dsimp only at ec
   obtain⟨env1,eb1,ev1⟩:∃env1,hJ t d (benv own ixs (a8 (Li++Lc) env))=some env1/\vl env1=vs1:=by
    have:=Iq t d (benv own ixs (a8 (Li++Lc) env))
    rw[evb,ebv]at this
    cases q:hJ t d (benv own ixs (a8 (Li++Lc) env))with
    |none=>rw[q]at this;cases this
    |some env1=>rw[q]at this;exact⟨env1,rfl,Option.some.inj this⟩
   have eb2:hJ t d envb=some env1:=by
    rcases eb with rfl|⟨d0,eb⟩
    .exact eb1
    .rw[BZ eb];exact eb1
   have no1:za env1:=BL (tW _ _ _) eb1
   have a2:H2 Da=some (.lst acc):=x3.hh _ _ hacc
   refine⟨_,_,_,_,_,envb,G3,B,β',d,env1,I3,rd,eb2,λσ3 I4=>⟨_,_,_,_,_,hbo,env1,G3,B,β',I4,?_⟩⟩
   rw[ev1]
   cases et:ft vs1 β' with
   |exc c=>rw[et]at ec;cases ec
   |bad=>rw[et]at ec;cases ec
   |ok c β2=>
    rw[et]at ec
    intro G4 H4 I5 s4 m4
    rw[w9 no1]at I5
    have a4:H4 Da=some (.lst acc):=m4.1 _ _ a2 q3
    cases c with
    |false=>
     exact wz ⟨env1,G4,β2,acc,accd,I5,.inr ⟨d,eb1⟩,a4,racc.mono (x3.gg.trans s4),@AT,xs,ec,exs⟩
    |true=>
     refine yg ⟨_,_,_,_,_,hbo,env1,G4,B,β2,I5,?_⟩
     rw[ev1]
     have ec:((fe vs1 β2).okb λx β3=>(eQ t ft fe (fO own ixs (vl env)) (ds.drop (i+1)) β3).okb λxs β4=>R.ok (x::xs) β4)=R.ok xs β0:=ec
     cases ee:fe vs1 β2 with
     |exc c=>rw[ee]at ec;cases ec
     |bad=>rw[ee]at ec;cases ec
     |ok dx β3=>
      rw[ee]at ec
      intro v G5 H5 I6 s5 m5 vo
      rw[w9 no1]at I6
      have a5:H5 Da=some (.lst acc):=m5.1 _ _ a4 q3
      have ec:((eQ t ft fe (fO own ixs (vl env)) (ds.drop (i+1)) β3).okb λxs β4=>R.ok (dx::xs) β4)=R.ok xs β0:=ec
      cases er:eQ t ft fe (fO own ixs (vl env)) (ds.drop (i+1)) β3 with
      |exc c=>rw[er]at ec;cases ec
      |bad=>rw[er]at ec;cases ec
      |ok ys β4=>
       rw[er]at ec
       cases ec
       refine⟨acc,a5,by rw[racc.len];omega,env1,G5,β3,acc++[v],accd++[dx],?_,.inr ⟨d,eb1⟩,au,(racc.mono ((x3.gg.trans s4).trans s5)).snoc vo,by rw[P0];simp;omega,ys,er,by rw[<-exs,QV];rfl⟩
       refine I6.wb (Pq ..) (Mx.lst (show upd H1 Da (.lst []) Da=some (.lst [])from au)) (I2.sub.free hD) q3
 .have e:i=ds.length:=@AT
  subst e
  rw[List.drop_length]at ec
  cases ec
  rw[RD]at exs
  subst exs
  refine .inl ⟨w2 (Pd _),⟨acc,hacc⟩,h _ Gc H' Io ((s1.trans s2).trans Ib.old) (m1.trans mv) ⟨Da,rfl,gf m1 I1.boxThere hD,gD,acc,hacc,racc⟩⟩
def bU(hg:∀H0 G0 par br bx C ex s3 H3 pn,SG (jG X NB scope C ex s3 H3 pn) (Γ.jG H0 G0 par br bx) tg t)(C:Addr)(ex:List Addr)(s3:Shared)(H3:Hp)(pn:List (Addr×Obj)):PG (jG X NB scope C ex s3 H3 pn) tg (gU Γ t):=by
 rintro pins s σ H v u Q I r ⟨H0,G0,par,br,bx,q⟩
 exact hg H0 G0 par br bx C ex s3 H3 pn pins s σ H v u Q I r q
def cH(Lc:List Nat)(hc:X.calm=true)(S:dU X NB own ixs scope)(hLc:∀i,i∈Lc->Γ.br i=false)(hi:SI X Γ E tg iter fi Li .b)
  (hg:∀H0 G0 par br bx C ex s3 H3 pn,SG (jG X NB scope C ex s3 H3 pn) (Γ.jG H0 G0 par br bx) tg t)
  (ht:∀H0 G0 par br bx C ex s3 H3 pn,(∀j,IU own ixs Lc j=true->br j=false)->EI (jG X NB scope C ex s3 H3 pn) ifs (qT (Γ.jG H0 G0 par br bx) E0 ft Lt))
  (he:∀H0 G0 par br bx C ex s3 H3 pn,(∀j,IU own ixs Lc j=true->br j=false)->SE (jG X NB scope C ex s3 H3 pn) (Γ.jG H0 G0 par br bx) E0 elt fe Le .v)
  (hs:∀x,foldedSetIterable iter X.env x=pure x:=by intro _;rfl) :
  SE X Γ E (.ListComp elt [⟨tg,iter,ifs,0⟩] scope pos) (aM own ixs t fi ft fe) (Li++Lc) .w:=by
 refine PE.post' (xD (tt:=tU Γ own ixs Lc ft Lt) (te:=eU Γ own ixs Lc fe Le) hc S hi (bU hg) (λC ex s3 H3 pn=>?_) (λC ex s3 H3 pn=>?_) hs) λσ H Q h=>IF hLc h
 .rintro pins s σ H Q I ⟨H0,G0,par,br,bx,b,q⟩
  exact ht H0 G0 par br bx C ex s3 H3 pn b pins s σ H Q I q
 .rintro pins s σ H Q I ⟨H0,G0,par,br,bx,b,q⟩
  exact he H0 G0 par br bx C ex s3 H3 pn b pins s σ H Q I q
def iw{y:Str}{py spos:Pos}(Lc:List Nat)(hc:X.calm=true)(S:dU X NB own ixs scope)(hLc:∀i,i∈Lc->Γ.br i=false)(hi:SI X Γ E tg iter fi Li .b)
  (hg:∀H0 G0 par br bx C ex s3 H3 pn,SG (jG X NB scope C ex s3 H3 pn) (Γ.jG H0 G0 par br bx) tg t)
  (ht:∀H0 G0 par br bx C ex s3 H3 pn,(∀j,IU own ixs Lc j=true->br j=false)->EI (jG X NB scope C ex s3 H3 pn) ifs (qT (Γ.jG H0 G0 par br bx) E0 ft Lt))
  (he:∀H0 G0 par br bx C ex s3 H3 pn,(∀j,IU own ixs Lc j=true->br j=false)->SE (jG X NB scope C ex s3 H3 pn) (Γ.jG H0 G0 par br bx) E0 elt fe Le .v)
  (hN:X.N.Nodup) (hy:X.N[i]? =some y:=by rfl) (hl:X.env.scope.names.lookup y=some .local:=by rfl)
  (hsw:swapsWith (.ListComp elt [⟨tg,iter,ifs,0⟩] scope pos) (some (.Name y py)) spos.line X.env=pure true:=by rfl)
  (hs:∀x,foldedSetIterable iter X.env x=pure x:=by intro _;rfl) :
  SS X Γ E (.Assign [.Name y py] (.ListComp elt [⟨tg,iter,ifs,0⟩] scope pos) spos) (bp i (Li++Lc) (aM own ixs t fi ft fe)):=by
 refine PS.post (Dv (tt:=tU Γ own ixs Lc ft Lt) (te:=eU Γ own ixs Lc fe Le) hc S hi (bU hg) (λC ex s3 H3 pn=>?_) (λC ex s3 H3 pn=>?_) hN hy hl hsw hs) λN σ H ⟨env,G,B,β,I,o⟩=>?_
 .rintro pins s σ H Q I ⟨H0,G0,par,br,bx,b,q⟩
  exact ht H0 G0 par br bx C ex s3 H3 pn b pins s σ H Q I q
 .rintro pins s σ H Q I ⟨H0,G0,par,br,bx,b,q⟩
  exact he H0 G0 par br bx C ex s3 H3 pn b pins s σ H Q I q
 refine IF hLc ⟨env,G,B,β,I,cx o λd β' k v G' H' I' s' m' vo=>?_⟩
 let⟨G2,I2,s2,r⟩:=I.letW I' vo
 exact k B G2 H' _ (I2.set' i r) (s'.trans s2)
end
def fin:SO->FR
 | .nx _ _=>.ok .none false
 | .rt d fr _=>.ok d fr
 | .exc c=>.exc c
 |_=>.bad
def B7(n:Nat)(ds:List D):En:=ds.map Sl.fz++List.replicate (n-ds.length) .no
def a9(n p:Nat)(m:SF):List D->FR:=λds=>if ds.length=p then fin (m (B7 n ds) 0)else .bad
abbrev Fx.fn(K:Frag)(H G:Hp)(ca:Str->Addr):Fx:=⟨K,H,G,[],ca,λ_=>false,none⟩
def SR.start{K:Frag}{ca:Str->Addr}(s:ao G H)(r:bS K G vs ds)(hn:ds.length<=N.length):SR (Fx.fn K H G ca) none G H (start N vs) (B7 N.length ds) 0:=by
 have hl:=r.len
 refine⟨s,ao.refl _,λb _ h=>h,λb o h _=>Kt.of h,λb h=>(by cases h),λb h=>(by cases h),λb h=>(by cases h),?_,λi t e=>?_,λi j a d e h=>?_⟩
 ·unfold L2.start B7;simp;omega
 ·unfold B7 at e
  by_cases hi:i<ds.length
  ·rw[PJ (by simpa using hi),Pt,O9 hi]at e
   cases e
   obtain⟨x,hx,rx⟩:=r.at (O9 hi)
   refine⟨x,?_,rx⟩
   unfold L2.start
   rw[PJ (by simpa[hl]using hi),Pt,hx];rfl
  ·rw[P7 (by simpa using hi),Q4]at e
   split at e
   ·cases e;trivial
   ·cases e
 ·unfold B7 at h
  have hm:=Pn h
  rcases Pz.mp hm with z|z
  ·obtain⟨_,_,z⟩:=Pj.mp z;cases z
  ·have:=Sz z;cases this
section
variable {P:Program}{w:World}{K:Frag}{mg:Str->Option Value}{base:Heap}{ca:Str->Addr}
def aS{st:Stmt}{f:Addr}{k:Nat}{m:SF}(F:FL K x qual st f fd)(S:aH N ps (aq st))
  (hbody:∀(cdv:Value) (A:Around) (outer:List Env) (s:Shared) (H G:Hp) (E:XK),fV k (A.deeper (envOfC qual (aq st) s.heap.objs.size f cdv))->FN (sV (uL P w) P w K mg base N qual (aq st) f cdv A outer s H E) (Fx.fn K H G ca) E (c8 st) m) :
  gS P w K mg base (uL P w) (k+1) f fd ps (FT K ca ps.length (a9 N.length ps.length m)):=by
 have hpn:ps.length<=N.length:=by have:=congrArg List.length S.pre;rw[QR]at this;omega
 refine F.CU S (λvs H Q E h=>?_) (λcdv A outer s H vs Q E hr h=>?_)
 .let⟨G,ds,sG,hl,r,_⟩:=h
  rw[r.len];exact hl
 .let⟨G,ds,sG,hl,r,h⟩:=h
  refine⟨_,hbody cdv A outer s H G E hr,?_⟩
  have I:=SR.start (ca:=ca) (N:=N) sG r (@AT)
  refine⟨_,G,none,0,I,?_⟩
  unfold a9 at h
  rw[Pe hl]at h
  have fin':∀{B G' H' σ env β},SR (Fx.fn K H G ca) B G' H' σ env β->ao H H':=λJ b o e=>J.keep b o e (λz=>by cases z)
  cases q:m (B7 N.length ds) 0 with
  |nx env β=>rw[q]at h;exact λB G' H' σ J s'=>h .non G' H' (fin' J) s' J.sub (λb h1 h2=>J.new b h1 h2) Rp.non
  |bk env β=>rw[q]at h;exact h.elim
  |ct env β=>rw[q]at h;exact h.elim
  |rt d fr β=>
   rw[q]at h
   refine λB G' H' σ env v J s' rv=>h v G' H' (fin' J) s' J.sub (λb h1 h2=>J.new b h1 h2) ?_
   cases fr with
   |true=>exact rv
   |false=>exact rv
  |exc c=>rw[q]at h;exact λH' kp=>h H' λb o e=>kp b o e (λz=>by cases z)
  |bad=>rw[q]at h;exact h.elim
def HW{F F':List D->FR}(h:∀ds,ds.length=n->F' ds≠.bad->F ds=F' ds){E:XK}(q:FT K ca n F' vs H Q E):FT K ca n F vs H Q E:=by
 let⟨G,ds,s,hl,r,q⟩:=q
 refine⟨G,ds,s,hl,r,?_⟩
 by_cases hb:F' ds=.bad
 .rw[hb]at q;exact q.elim
 .rw[h ds hl hb];exact q
def cN.imp{F F':List D->FR}(h:cN P w K mg base ca x ps k F)(i:∀ds,F' ds≠.bad->F ds=F' ds):cN P w K mg base ca x ps k F':=by
 let⟨f,fd,a,b,c,d⟩:=h.ex
 exact⟨⟨f,fd,a,b,c,d.imp λvs H Q E q=>HW (λds _=>i ds) q⟩,λds hn=>h.len ds (by rw[i ds hn];exact hn)⟩
def aO(ds:List D)(h:a9 n p m ds≠.bad):ds.length=p:=by
 unfold a9 at h
 by_cases hl:ds.length=p
 .exact hl
 .rw[Pg hl]at h;exact absurd rfl h
end
section
variable {X:Cx}{Γ:Fx}{E:XK}{e a b c:Expr}{f fa fb:VF D}{L La Lb:List Nat}{md ma mb:Md}{pos apos cpos np:Pos}
def wo:Option Sl->Bool
 |some (.ow (.list _))=>true
 |_=>false
theorem ql(h:wo o=true):∃ds,o=some (.ow (.list ds)):=by
 cases o with
 |none=>cases h
 |some s=>
  cases s with
  |ow d=>cases d with
   |list ds=>exact⟨ds,rfl⟩
   |_=>cases h
  |_=>cases h
def J8(i:Nat)(env:En)(β:Int)(g:List D->Option (List D)):SO:=match env[i]? with
 |some (.ow (.list ds))=>(match g ds with
  |some es=>.nx (env.set i (.ow (.list es))) β
  |none=>.bad)
 |_=>.bad
def mV(i:Nat)(L:List Nat)(f:VF D):SF:=λenv β=>if wo env[i]? =true then toS (f (vl env) β) λd β'=>J8 i (a8 L env) β' λds=>if ds.length<sizeLine then some (ds++[d])else none else .bad
def vW{Γ:Fx}{E:XK}{g:List D->Option (List D)}(h:tw Γ E G N (J8 i env β g)):∃ds es,env[i]? =some (.ow (.list ds))/\g ds=some es/\tw Γ E G N (.nx (env.set i (.ow (.list es))) β):=by
 unfold J8 at h
 split at h
 .rename_i ds q
  cases e:g ds with
  |none=>rw[e]at h;exact h.elim
  |some es=>rw[e]at h;exact⟨ds,es,q,e,h⟩
 .exact h.elim
def iG(i:Nat)(hb:∀j,Γ.br j=false)(he:SE X Γ E e f L .v)(hN:X.N[i]? =some x:=by rfl)(hv:yW X.env.scope x:=by first|exact Or.inl rfl|exact Or.inr (Or.inl rfl)|exact Or.inr (Or.inr rfl))(hd:(x==("__debug__":Str))=false:=by decide)
  (hcd:(x==("__classdict__":Str))=false:=by decide)
  (hbase:attributeBase (.Name x np) "append" X.env (eval (.Name x np) X.env)=eval (.Name x np) X.env:=by rfl)
  (hfew:((backTo cpos (starEach [e] X.env)).all (λx=> !x.1)&&(backToKw cpos (keywordEach [] X.env)).all (λx=>x.1.isSome)
   && decide ([e].length+([]:List Keyword).length+(if([]:List Keyword).isEmpty then 0 else 1)<30))=true:=by rfl)
  (hline:(apos.endLine==cpos.line)=true:=by rfl) (hs:starEach [e] X.env=(false,eval e X.env)::starEach [] X.env:=by rfl)
  (hsw:swapsWith (.Call (.Attribute (.Name x np) "append" apos) [e] [] cpos) none pos.line X.env=pure false:=by rfl) :
  SS X Γ E (.Expr (.Call (.Attribute (.Name x np) "append" apos) [e] [] cpos) pos) (mV i L f):=by
 refine PS.post (qd (Bh PySem.F.plainAttrs_list PySem.F.slot_list_append PySem.F.type_list_append o9 (g8 hN hv hd hcd) (aP he bD hs) hbase hfew hline hs rfl) hsw) λN σ H ⟨env,G,B,β,I,o⟩=>?_
 unfold mV at o
 by_cases hO:wo env[i]? =true
 case neg=>rw[Pg hO]at o;exact o.elim
 rw[Pe hO]at o
 let⟨ds0,q0⟩:=ql hO
 let⟨p,h1,_,_,_,xs,h5,_⟩:=I.slot i _ q0
 refine⟨_,h1,.inl ⟨rfl,xs,.inl (.inl h5)⟩,⟨env,G,B,β,I,cx o λd β' k v G' H' I' s' m' vo=>?_⟩⟩
 let⟨ds,es,q,eg,k⟩:=vW k
 by_cases hz:ds.length<sizeLine
 case neg=>rw[Pg hz]at eg;cases eg
 rw[Pe hz]at eg
 cases eg
 let⟨p',g1,_,_,_,ys,g5,g6⟩:=I'.slot i _ q
 rw[h1]at g1;cases g1
 refine⟨p,ys,v,rfl,rfl,g5,by rw[g6.len];exact hz,?_⟩
 exact k B G' _ σ (I'.write hb q h1 λH2 e2 s2=>⟨_,e2,g6.snoc vo⟩) s'
def Inv.lstR(I:@At)(hH:Rd H l (.lst xs)):xs.length<=sizeLine/\∃(its:List Value) (n:Nat),Vals xs its/\xs.length=its.length/\s.heap.get? l=some {cls:=.type "list",data:=.seq its.toArray n}:=by
 let⟨z,its,n,r,e⟩:=hH.ok I.hok
 exact⟨z,its,n,r,r.length,e⟩
def xg(i:Nat)(Le Li:List Nat)(fe fi:VF D):SF:=λenv β=>toS (fe (vl env) β) λd β1=>if wo (a8 Le env)[i]? =true then toS (fi (vl env) β1) λk β2=>J8 i (a8 (Le++Li) env) β2 λds=>match k with
 | .int j=>(wW ds.length j).map λn=>ds.set n d
 |_=>none else .bad
theorem GG(i:Nat){spos:Pos}(hb:∀j,Γ.br j=false)(he:SE X Γ E e f La .v)(hi:SE X Γ E a fa Lb mb)(hN:X.N[i]? =some x:=by rfl)(hv:yW X.env.scope x:=by first|exact Or.inl rfl|exact Or.inr (Or.inl rfl)|exact Or.inr (Or.inr rfl))(hd:(x==("__debug__":Str))=false:=by decide)
  (hcd:(x==("__classdict__":Str))=false:=by decide)
  (hA:∀v,assign (.Subscript (.Name x np) a spos) X.env v=(do
   let ov <-holding [v] (eval (.Name x np) X.env)
   let iv <-holding [v,ov] (eval a X.env)
   standAt spos
   holding [v,ov,iv] (setItem ov iv v)
   release [v,ov,iv] []):=by intro _;rfl)
  (hs:swapsWithSole [.Subscript (.Name x np) a spos] e pos.line X.env=pure false:=by rfl) (hw:swappedStores [.Subscript (.Name x np) a spos] e X.env=pure none:=by rfl)
  (h1:(assignEach [.Subscript (.Name x np) a spos] X.env).map (·.2)= [assign (.Subscript (.Name x np) a spos) X.env]:=by rfl) :
  SS X Γ E (.Assign [.Subscript (.Name x np) a spos] e pos) (xg i La Lb f fa):=by
 refine PS.post (rX he (vd (g8 hN hv hd hcd) hi set_list hA) hs hw h1) λN σ H ⟨env,G,B,β,I,o⟩=>⟨env,G,B,β,I,cx o λd β1 o v G1 H1 I1 s1 m1 vo=>?_⟩
 by_cases hO:wo (a8 La env)[i]? =true
 case neg=>rw[Pg hO]at o;exact o.elim
 rw[Pe hO]at o
 let⟨ds0,q0⟩:=ql hO
 let⟨p,h1,_,_,_,xs,h5,_⟩:=I1.slot i _ q0
 refine⟨_,h1,a8 La env,G1,B,β1,I1,?_⟩
 rw[fB]
 refine cx o λk β2 o w G2 H2 I2 s2 m2 vi=>?_
 rw[<-b8]at I2
 let⟨ds,es,q,eg,o⟩:=vW o
 cases k with
 |int j=>
  dsimp only at eg
  obtain rfl:=(vi.brw I1.boxThere).int
  let⟨p',g1,_,_,_,ys,g5,g6⟩:=I2.slot i _ q
  rw[h1]at g1;cases g1
  cases en:wW ds.length j with
  |none=>rw[en]at eg;cases eg
  |some n=>
   rw[en]at eg
   cases eg
   have vo:Rp Γ.K G1 v d:=vo
   refine⟨p,ys,j,n,rfl,rfl,g5,by rw[g6.len];exact en,?_⟩
   exact o B G2 _ σ (I2.write hb q h1 λH3 e3 s3=>⟨_,e3,g6.set (vo.mono s2) n⟩) (s1.trans s2)
 |_=>cases eg
end
section
variable {K:Frag}{X:Cx}
def Ar{g:Int->Int->V}{gd:D->D->Option D}(h:∀dx dy d,gd dx dy=some d->∃i j,dx=.int i/\dy=.int j/\∀G,Rp K G (g i j) d):qf K (Dy g) gd .v:=by
 intro B G H x y dx dy d Q s hB bx by' e k
 obtain⟨i,j,rfl,rfl,r⟩:=h _ _ _ e
 obtain rfl:=bx.int
 obtain rfl:=by'.int
 exact⟨i,j,rfl,rfl,k _ G H (Ext.refl s) (r G)⟩
def EH{C:Int->Int->Prop}{g:Int->Int->V}{gd:D->D->Option D}(h:∀dx dy d,gd dx dy=some d->∃i j,dx=.int i/\dy=.int j/\C i j/\∀G,Rp K G (g i j) d):qf K (rI C g) gd .v:=by
 intro B G H x y dx dy d Q s hB bx by' e k
 obtain⟨i,j,rfl,rfl,c,r⟩:=h _ _ _ e
 obtain rfl:=bx.int
 obtain rfl:=by'.int
 exact⟨i,j,rfl,rfl,c,k _ G H (Ext.refl s) (r G)⟩
def gI(c:Int->Int->Bool)(g:Int->Int->D):D->D->Option D
 | .int i,.int j=>if c i j=true then some (g i j)else none
 |_,_=>none
def Am(g:Int->Int->D):D->D->Option D
 | .int i,.int j=>some (g i j)
 |_,_=>none
def DL{c:Int->Int->Bool}{g:Int->Int->D}(h:gI c g dx dy=some d):∃i j,dx=.int i/\dy=.int j/\c i j=true/\d=g i j:=by
 unfold gI at h
 split at h
 .split at h
  .cases h;exact⟨_,_,rfl,rfl,by assumption,rfl⟩
  .cases h
 .cases h
def pE{g:Int->Int->D}(h:Am g dx dy=some d):∃i j,dx=.int i/\dy=.int j/\d=g i j:=by
 unfold Am at h
 split at h
 .cases h;exact⟨_,_,rfl,rfl,rfl⟩
 .cases h
def CT:D->D->Option D:=gI (λ_ j=>decide (0<j)&&decide (j<1073741824)) λi j=>.int (i/j)
def G6:qf K (rI HX λi j=>.int (i/j)) CT .v:=EH λdx dy d h=>by obtain⟨i,j,rfl,rfl,c,rfl⟩:=DL h;exact⟨i,j,rfl,rfl,by simpa[HX]using c,λ_=>.int _⟩
def nh:D->D->Option D:=gI (λ_ j=>decide (0<j)) λi j=>.int (i%j)
def ug:qf K (rI (λ_ j=>0<j) λi j=>.int (i%j)) nh .v:=EH λdx dy d h=>by obtain⟨i,j,rfl,rfl,c,rfl⟩:=DL h;exact⟨i,j,rfl,rfl,by simpa using c,λ_=>.int _⟩
def Lq:D->D->Option D:=Am λi j=>.bool (decide (i<j))
def IK:D->D->Option D:=Am λi j=>.bool (decide (i<=j))
def Ls:D->D->Option D:=Am λi j=>.bool (decide (j<i))
def Mb:qf K (Dy λi j=>.bl (decide (i<j))) Lq .v:=Ar λdx dy d h=>by obtain⟨i,j,rfl,rfl,rfl⟩:=pE h;exact⟨i,j,rfl,rfl,λ_=>.bl _⟩
def JT:qf K (Dy λi j=>.bl (decide (i<=j))) IK .v:=Ar λdx dy d h=>by obtain⟨i,j,rfl,rfl,rfl⟩:=pE h;exact⟨i,j,rfl,rfl,λ_=>.bl _⟩
def N4:qf K (Dy λi j=>.bl (decide (j<i))) Ls .v:=Ar λdx dy d h=>by obtain⟨i,j,rfl,rfl,rfl⟩:=pE h;exact⟨i,j,rfl,rfl,λ_=>.bl _⟩
mutual
theorem z6:∀d:D,d.canLay0=true->DK d=true
 | .none,_=>rfl
 | .bool _,_=>rfl
 | .int _,_=>rfl
 | .str _,_=>rfl
 | .list ds,h=>by simp only[PyData.canLay0]at h;simp only[DK];exact rQ ds h
 | .tuple ds,h=>by simp only[PyData.canLay0]at h;simp only[DK];exact rQ ds h
 | .dict _,h=>by simp[PyData.canLay0]at h
theorem rQ:∀ds:List D,PyData.canLayAll0 ds=true->sY ds=true
 | [],_=>rfl
 |d::ds,h=>by
  simp only[PyData.canLayAll0,PF]at h
  simp only[sY,PF]
  exact⟨z6 d h.1,rQ ds h.2⟩
end
def va(h:SeqAt.shaped d=true):DK d=true:=z6 d (R9 h)
theorem z8:∀{ds:List D},(ds.all SeqAt.shaped)=true->sY ds=true
 | [],_=>rfl
 |d::ds,h=>by
  rw[Sn,PF]at h
  simp only[sY,PF]
  exact⟨va h.1,z8 h.2⟩
def cR(neg:Bool)(x y:D):Option D:=if(SeqAt.shaped x&&SeqAt.shaped y)=true then some (.bool (if neg then !PyData.eqv x y else PyData.eqv x y))else none
def eT:qf K (JG K neg) (cR neg) .v:=by
 intro B G H x y dx dy d Q s hB bx by' e k
 unfold cR at e
 split at e
 ·rename_i h
  rw[PF]at h
  cases e
  exact⟨dx,dy,(bx.rpH s).rep (va h.1),(by'.rpH s).rep (va h.2),h.1,h.2,k _ G H (Ext.refl s) (.bl _)⟩
 ·cases e
def FW(neg:Bool)(x y:D):Option D:=match kn y with
 |some ds=>if(SeqAt.shaped x&&ds.all SeqAt.shaped)=true then some (.bool (if neg then !(ds.any λe=>PyData.eqv e x)else ds.any λe=>PyData.eqv e x))else none
 |none=>none
theorem lg.seq(h:lg K B G H v d)(e:kn d=some ds)(s:ao G H):∃a xs,v=.ref a/\(fU K H a xs\/fu K H a xs)/\bS K G xs ds:=by
 cases d with
 |list l=>cases e;obtain⟨a,xs,e,q,r⟩:=h.list s;exact⟨a,xs,e,.inl (.inl q),r⟩
 |tuple l=>cases e;obtain⟨a,xs,e,q,r⟩:=h.tuple s;exact⟨a,xs,e,.inr q,r⟩
 |_=>cases e
theorem HK:qf K (Ma K neg) (FW neg) .v:=by
 intro B G H x y dx dy d Q s hB bx by' e k
 unfold FW at e
 cases q:kn dy with
 |none=>rw[q]at e;cases e
 |some ds=>
  rw[q]at e
  dsimp only at e
  split at e
  ·rename_i h
   rw[PF]at h
   cases e
   obtain⟨a,xs,rfl,hq,r⟩:=by'.seq q s
   refine⟨a,xs,dx,ds,rfl,hq,(r.mono s).reps (z8 h.2),(bx.rpH s).rep (va h.1),h.1,λe he=>Qi.mp h.2 e he,k _ G H (Ext.refl s) (.bl _)⟩
  ·cases e
def xy:D->Bool
 | .none=>true
 |_=>false
theorem bS.ints:∀ns:List Int,bS K G (ns.map V.int) (ns.map int)
 | []=>.nil
 |n::ns=>.cons (.int n) (bS.ints ns)
theorem yJ.noNone(h:yJ K G kvs ((.none,d)::r)):False:=by
 generalize e:(PyData.none,d)::r=l at h
 cases h with
 | @one k x d' _=>
  injection e with e1 _
  injection e1 with e2 _
  cases k<;>cases e2
 | @cons k x xs d' ds _ _=>
  injection e with e1 _
  injection e1 with e2 _
  cases k<;>cases e2
theorem mZ.noNone(h:mZ K G kvs ((.none,d)::r)):False:=by
 generalize e:(PyData.none,d)::r=l at h
 cases h with
 |nil=>cases e
 | @cons k x xs d' ds _ _=>
  injection e with e1 _
  injection e1 with e2 _
  cases e2
def lg.scr(h:lg K B G H v (.dict [(.none,.list ds)]))(s:ao G H):∃a xs,v=.ref a/\fU K H a xs/\bS K G xs ds:=by
 rcases h with h|⟨a,rfl,n,h⟩
 ·cases h with
  | @scr a ns q=>exact⟨a,_,rfl,s.seq q,bS.ints ns⟩
  |dK _ r=>exact r.noNone.elim
  |dT _ r=>exact r.noNone.elim
 ·rcases h with⟨_,_,r⟩|⟨_,_,r⟩
  ·exact r.noNone.elim
  ·exact r.noNone.elim
def cT:D->D->Option D
 | .list ds,.int i=>lX ds i
 | .tuple ds,.int i=>lX ds i
 | .str z,.int i=>if z.length<=sizeLine then(lX z.cps.toList i).map λc=>.str ⟨#[c]⟩else none
 | .dict [(.none,.list ds)],.int i=>lX ds i
 |_,_=>none
theorem v9(r:bS K G xs ds)(h:lX ds i=some d):∃x,lX xs i=some x/\Rp K G x d:=by
 unfold lX at h ⊢
 rw[r.len]
 cases e:wW ds.length i with
 |none=>rw[e]at h;cases h
 |some j=>rw[e]at h;exact r.at h
theorem de:qf K (OK K) cT .v:=by
 intro B G H x y dx dy d Q s hB bx by' e k
 cases dx with
 |list ds=>
  cases dy with
  |int i=>
   obtain rfl:=by'.int
   obtain⟨a,xs,rfl,q,r⟩:=bx.list s
   obtain⟨v,ev,rv⟩:=v9 r e
   exact .inl ⟨a,xs,i,v,rfl,rfl,.inl q,ev,k _ G H (Ext.refl s) rv⟩
  |_=>cases e
 |tuple ds=>
  cases dy with
  |int i=>
   obtain rfl:=by'.int
   obtain⟨a,xs,rfl,q,r⟩:=bx.tuple s
   obtain⟨v,ev,rv⟩:=v9 r e
   exact .inr (.inl ⟨a,xs,i,v,rfl,rfl,q,ev,k _ G H (Ext.refl s) rv⟩)
  |_=>cases e
 |str z=>
  cases dy with
  |int i=>
   obtain rfl:=by'.int
   obtain rfl:=bx.str
   simp only[cT]at e
   split at e
   ·rename_i hz
    cases q:lX z.cps.toList i with
    |none=>rw[q]at e;cases e
    |some c=>rw[q]at e;cases e;exact .inr (.inr ⟨z,i,c,rfl,rfl,hz,q,k _ G H (Ext.refl s) (.str _)⟩)
   ·cases e
  |_=>cases e
 |none=>cases dy<;>cases e
 |bool b=>cases dy<;>cases e
 |int b=>cases dy<;>cases e
 |dict b=>
  obtain⟨ds,i,rfl,rfl,e⟩:∃ds i,b= [(.none,.list ds)]/\dy=.int i/\lX ds i=some d:=by
   unfold cT at e
   split at e
   ·contradiction
   ·contradiction
   ·contradiction
   ·rename_i h;cases h;exact⟨_,_,rfl,rfl,e⟩
   ·cases e
  obtain rfl:=by'.int
  obtain⟨a,xs,rfl,q,r⟩:=bx.scr s
  obtain⟨v,ev,rv⟩:=v9 r e
  exact .inl ⟨a,xs,i,v,rfl,rfl,q,ev,k _ G H (Ext.refl s) rv⟩
def dr:D->Option D
 | .list ds=>some (.int ds.length)
 | .tuple ds=>some (.int ds.length)
 | .str z=>if z.length<=sizeLine then some (.int z.length)else none
 | .dict [(.none,.list ds)]=>some (.int ds.length)
 |_=>none
def NC(K:Frag):List V->Hp->VK->Prop:=λxs H Q=>∃x n,xs= [x]/\Lz K x H n/\Q (.int n) H
def iP:zW K (λx=>NC K [x]) dr .v:=by
 intro B G H x dx d Q s hB bx e k
 unfold dr at e
 split at e
 ·cases e;obtain⟨a,xs,rfl,q,r⟩:=bx.list s;exact⟨_,_,rfl,.inl ⟨xs,.inl q,r.len.symm⟩,k _ G H (Ext.refl s) (.int _)⟩
 ·cases e;obtain⟨a,xs,rfl,q,r⟩:=bx.tuple s;exact⟨_,_,rfl,.inr ⟨xs,q,r.len.symm⟩,k _ G H (Ext.refl s) (.int _)⟩
 ·obtain rfl:=bx.str
  split at e
  ·rename_i hz;cases e;exact⟨_,_,rfl,⟨hz,rfl⟩,k _ G H (Ext.refl s) (.int _)⟩
  ·cases e
 ·cases e;obtain⟨a,xs,rfl,q,r⟩:=bx.scr s;exact⟨_,_,rfl,.inl ⟨xs,q,r.len.symm⟩,k _ G H (Ext.refl s) (.int _)⟩
 ·cases e
def fJ:D->Option D
 | .list ds=>some (.tuple ds)
 | .tuple ds=>some (.tuple ds)
 |_=>none
theorem kj:zW K (λx H Q=>∃p ys,[x]= [.ref p]/\((fU K H p ys/\∀l,H l=none->Q (.ref l) (upd H l (.tup ys)))\/(fu K H p ys/\Q (.ref p) H))) fJ .v:=by
 intro B G H x dx d Q s hB bx e k
 cases dx with
 |list ds=>
  cases e
  obtain⟨a,xs,rfl,q,r⟩:=bx.list s
  refine⟨a,xs,rfl,.inl ⟨.inl q,λl hl=>?_⟩⟩
  have x:=Ext.new s (o:=.tup xs) hl
  exact k _ _ _ x (.tup (.inl (.inl au)) (r.mono x.gg))
 |tuple ds=>
  cases e
  rcases bx with bx|⟨_,_,_,z⟩
  ·cases bx with
   | @tup a xs _ hq r=>exact⟨a,xs,rfl,.inr ⟨hq.grow s.grow,k _ G H (Ext.refl s) (.tup hq r)⟩⟩
  ·exact z.elim
 |_=>cases e
def Jc:D->Option D
 | .list ds=>some (.list ds)
 | .tuple ds=>some (.list ds)
 |_=>none
def KS:zW K (λx H Q=>∃p ys,[x]= [.ref p]/\(fU K H p ys\/fu K H p ys)/\∀l,H l=none->Q (.ref l) (upd H l (.lst ys))) Jc .w:=by
 intro B G H x dx d Q s hB bx e k
 obtain⟨ds,e1,rfl⟩:∃ds,kn dx=some ds/\d=.list ds:=by
  cases dx<;>cases e<;>exact⟨_,rfl,rfl⟩
 obtain⟨a,xs,rfl,hq,r⟩:=bx.seq e1 s
 refine⟨a,xs,rfl,hq,λl hl=>?_⟩
 exact k _ _ _ (Ext.own s (o:=.lst xs) hl) ⟨l,rfl,hl,s.free hl,xs,au,r⟩
def lI:List D->Option (List Bool)
 | []=>some []
 | .bool b::ds=>(lI ds).map (b :: ·)
 |_=>none
theorem tV:∀{ds:List D} {bs:List Bool} {xs:List V},lI ds=some bs->bS K G xs ds->xs=bs.map V.bl
 | [],bs,xs,e,r=>by cases e;cases r;rfl
 | .bool b::ds,bs,xs,e,r=>by
  cases r with
  |cons r1 r2=>
   cases r1
   simp only[lI]at e
   cases q:lI ds with
   |none=>rw[q]at e;cases e
   |some cs=>rw[q]at e;cases e;rw[tV q r2];rfl
 | .none::_,_,_,e,_=>by cases e
 | .int _::_,_,_,e,_=>by cases e
 | .str _::_,_,_,e,_=>by cases e
 | .list _::_,_,_,e,_=>by cases e
 | .tuple _::_,_,_,e,_=>by cases e
 | .dict _::_,_,_,e,_=>by cases e
def g7(f:List Bool->Bool):D->Option D
 | .list ds=>(lI ds).map λbs=>.bool (f bs)
 |_=>none
theorem qz{f:List Bool->Bool}:zW K (λx=>zJ K f [x]) (g7 f) .v:=by
 intro B G H x dx d Q s hB bx e k
 cases dx with
 |list ds=>
  simp only[g7]at e
  cases q:lI ds with
  |none=>rw[q]at e;cases e
  |some bs=>
   rw[q]at e
   cases e
   obtain⟨a,xs,rfl,hq,r⟩:=bx.list s
   obtain rfl:=tV q r
   exact⟨a,bs,rfl,.inl hq,k _ G H (Ext.refl s) (.bl _)⟩
 |_=>cases e
def Jh:R2:=λx y H Q=>∃l b xs zs,x=.ref l/\y=.ref b/\Rd H l (.lst xs)/\Rd H b (.lst zs)/\xs.length+zs.length<=sizeLine/\∀p,H p=none->Q (.ref p) (upd H p (.lst (xs++zs)))
def nX:pH X (binaryOp .Add) Jh:=by
 intro pins s σ H x y v u Q I rx ry h
 obtain⟨l,b,xs,zs,rfl,rfl,hH,hB,hz,q⟩:=h
 cases rx
 cases ry
 obtain⟨z,its,n,r,hl,e⟩:=I.lstR hH
 obtain⟨z2,its2,n2,r2,hl2,e2⟩:=I.lstR hB
 refine PySem.P.add_list e e2 ?_ (by rw[PM,PM];omega)
 have ea:its.toArray++its2.toArray=(its++its2).toArray:=by simp
 rw[ea]
 exact⟨.ref _,_,I.lnew (t':=s.toks) (r.append r2) (by rw[P0];omega),rfl,q _ I.fresh⟩
def jF:D->D->Option D
 | .list a,.list b=>if a.length+b.length<=sizeLine then some (.list (a++b))else none
 |_,_=>none
def wV:qf K Jh jF .w:=by
 intro B G H x y dx dy d Q s hB bx by' e k
 cases dx<;>cases dy<;>first|(cases e;done)|skip
 rename_i a b
 simp only[jF]at e
 split at e
 ·rename_i hz
  cases e
  obtain⟨p,xs,rfl,q1,r1⟩:=bx.list s
  obtain⟨p2,ys,rfl,q2,r2⟩:=by'.list s
  refine⟨p,p2,xs,ys,rfl,rfl,q1,q2,by rw[r1.len,r2.len];exact hz,λl hl=>?_⟩
  exact k _ _ _ (Ext.own s (o:=.lst (xs++ys)) hl) ⟨l,rfl,hl,s.free hl,_,au,r1.append r2⟩
 ·cases e
def bO:D->D->Option D:=Am λi j=>.int (i+j)
def gE:qf K (Dy λi j=>.int (i+j)) bO .v:=Ar λdx dy d h=>by obtain⟨i,j,rfl,rfl,rfl⟩:=pE h;exact⟨i,j,rfl,rfl,λ_=>.int _⟩
def cP:D->D->Option D:=gI (λi j=>(decide (-(2^64)<i)&&decide (i<2^64))||(decide (-(2^64)<j)&&decide (j<2^64))) λi j=>.int (i*j)
def j9:qf K (rI EF λi j=>.int (i*j)) cP .v:=EH λdx dy d h=>by obtain⟨i,j,rfl,rfl,c,rfl⟩:=DL h;exact⟨i,j,rfl,rfl,by simpa[EF]using c,λ_=>.int _⟩
def D8:D->D->Option D
 | .list a,.int k=>if -(2^63)<=k/\k<2^63/\a.length*k.toNat<=sizeLine then some (.list (List.replicate k.toNat a).flatten)else none
 |_,_=>none
def Jw(ha:SE X Γ E a fa La .w)(hb:SE X Γ E b fb Lb mb):SE X Γ E (.BinOp a .Mult b pos) (f2 fa fb D8) (La++Lb) .w:=by
 refine PE.post' (tT Em ha hb) λσ H Q ⟨env,G,B,β,I,o⟩=>?_
 refine⟨env,G,B,β,I,o.bnd.imp λd1 β1 h x G1 H1 I1 s1 m1 vx=>⟨a8 La env,G1,B,β1,I1,?_⟩⟩
 rw[fB]
 refine h.bnd.imp λd2 β2 h y G2 H2 I2 s2 m2 vy=>?_
 obtain⟨d,e,k⟩:=h.of
 rw[<-b8]at I2
 obtain⟨p,rfl,p1,p2,p3⟩:=vx
 have by':=vy.brw I1.boxThere
 cases d1<;>cases d2<;>first|(cases e;done)|skip
 rename_i l j
 obtain rfl:=by'.int
 simp only[D8]at e
 split at e
 ·rename_i hz
  cases e
  obtain⟨xs,q,r⟩:=p3
  obtain⟨q1,q2,q3,q4⟩:=I.fresh p1
  have r2:=r.mono s2
  refine⟨p,j,xs,rfl,rfl,m2.1 _ _ q q3,hz.1,hz.2.1,by rw[r.len];exact hz.2.2,λl hl=>?_⟩
  have x:=Ext.own I2.sub (o:=.lst (List.replicate j.toNat xs).flatten) hl
  exact k _ _ _ (I2.ext x) ((s1.trans s2).trans x.gg) ((m1.trans m2).trans (x.hh.mov B)) ⟨l,rfl,gf (m1.trans m2) I2.boxThere hl,I2.sub.free hl,_,au,r2.rep⟩
 ·cases e
def BK:D->Option D
 | .int i=>some (.int (-i))
 |_=>none
theorem D9:zW K (rU λi=>.int (-i)) BK .v:=by
 intro B G H x dx d Q s hB bx e k
 cases dx with
 |int i=>cases e;obtain rfl:=bx.int;exact⟨i,rfl,k _ G H (Ext.refl s) (.int _)⟩
 |_=>cases e
def Mz:D->String
 | .none=>"NoneType"
 | .bool _=>"bool"
 | .int _=>"int"
 | .str _=>"str"
 | .list _=>"list"
 | .tuple _=>"tuple"
 | .dict _=>"dict"
def C3(d:D)(T:String):Bool:=Mz d==T||(T=="int"&&Mz d=="bool")
def gN:D->Bool
 | .dict ((.none,_)::_)=>true
 |_=>false
def jL(T:String)(d:D):Option D:=if gN d=true then none else some (.bool (C3 d T))
def Oy(K:Frag)(H:Hp)(x:V)(t:String):Prop:=HN K H x t\/(t="dict"/\∃a kvs ep,x=.ref a/\H a=some (.dT kvs ep))
def Mt(K:Frag):List V->Hp->VK->Prop:=λxs H Q=>∃x T t b,xs= [x,.ty T]/\Oy K H x t/\PySem.W.kitOne K (.type t) (.type T)=some b/\Q (.bl b) H
def E5:cW X (.builtin "isinstance") (Mt X.K):=by
 intro pins s σ H xs us Q I r h
 obtain⟨x,T,t,b,rfl,ty,e,q⟩:=h
 rcases ty with ty|⟨rfl,a,kvs,ep,rfl,hk⟩
 ·exact E8 pins s σ H _ us Q I r ⟨x,T,t,b,rfl,ty,e,q⟩
 ·obtain⟨u,c,rfl,rx,rc⟩:=vals2 r
  cases rc
  cases rx
  obtain⟨_,_,_,_,o,_,e2,ex,_⟩:=I.hok a _ hk
  exact Qr PySem.W.kitx_dict I.kIn ⟨o,e2,ex.1⟩ e (λz=>nomatch z) λtk=>⟨.bl b,H,I.tok tk,rfl,q⟩
theorem lg.ty(h:lg K B G H v d)(s:ao G H)(n:gN d=false):Oy K H v (Mz d):=by
 cases d with
 |none=>obtain rfl:=h.none;exact .inl .non
 |bool b=>obtain rfl:=h.bool;exact .inl (.bl b)
 |int b=>obtain rfl:=h.int;exact .inl (.int b)
 |str b=>obtain rfl:=h.str;exact .inl (.str b)
 |list b=>obtain⟨a,xs,rfl,q,_⟩:=h.list s;exact .inl (.lst (.inl q))
 |tuple b=>obtain⟨a,xs,rfl,q,_⟩:=h.tuple s;exact .inl (.tup q)
 |dict b=>
  rcases h with h|⟨a,rfl,_,h⟩
  ·cases h with
   |scr _=>cases n
   |dK q _=>exact .inl (.dic (s _ _ q))
   |dT q _=>exact .inr ⟨rfl,_,_,_,rfl,s _ _ q⟩
  ·rcases h with⟨_,q,_⟩|⟨_,q,_⟩
   ·exact .inl (.dic q)
   ·exact .inr ⟨rfl,_,_,_,rfl,q⟩
theorem LU(hT:T∈ ["int","bool","str","list","tuple","dict"]):PySem.W.kitOne K (.type (Mz d)) (.type T)=some (C3 d T):=by
 simp only[Pf,Ql,Rx]at hT
 cases d with
 |dict l=>rcases hT with rfl|rfl|rfl|rfl|rfl|rfl<;>rfl
 |none=>rcases hT with rfl|rfl|rfl|rfl|rfl|rfl<;>rfl
 |bool _=>rcases hT with rfl|rfl|rfl|rfl|rfl|rfl<;>rfl
 |int _=>rcases hT with rfl|rfl|rfl|rfl|rfl|rfl<;>rfl
 |str _=>rcases hT with rfl|rfl|rfl|rfl|rfl|rfl<;>rfl
 |list _=>rcases hT with rfl|rfl|rfl|rfl|rfl|rfl<;>rfl
 |tuple _=>rcases hT with rfl|rfl|rfl|rfl|rfl|rfl<;>rfl
def jD{pos p p2:Pos}(T:String)(hT:T∈ ["int","bool","str","list","tuple","dict"])(hK:X.K=Γ.K)(hg:Gl X "isinstance")(hm:X.mg "isinstance"=none)(hgT:Gl X y)(hmT:X.mg y=none)(hvT:bootBuiltins y=some (.type T))(ha:SE X Γ E a fa La ma)
  (hnT:y≠"__name__":=by decide) (hdT:(y==("__debug__":Str))=false:=by decide)
  (he:starEach [a,.Name y p2] X.env=(false,eval a X.env)::starEach [.Name y p2] X.env:=by rfl) (he2:starEach [.Name y p2] X.env=(false,eval (.Name y p2) X.env)::starEach [] X.env:=by rfl) (hpl:(backTo pos (starEach [.Name y p2] X.env)).any (·.1)=false:=by rfl) :
  SE X Γ E (.Call (.Name "isinstance" p) [a,.Name y p2] [] pos) (f1 fa (jL T)) La .v:=by
 refine PE.post' (lU E5 hg hm (by decide +kernel) (aP ha (aP (GL hgT hmT hvT (show RelV (.ty T) _ from rfl) hnT hdT) bD he2) he) @A_ @A_ he hpl) λσ H Q ⟨env,G,B,β,I,o⟩=>?_
 refine jh (r:=λx H1 Q=>Mt X.K [x,.ty T] H1 Q) ?_ I o
 intro B G H x dx d Q s hB bx e k
 unfold jL at e
 split at e
 ·cases e
 ·rename_i hn
  cases e
  rw[hK]
  exact⟨x,T,Mz dx,C3 dx T,rfl,bx.ty s (by simpa using hn),LU hT,k _ G H (Ext.refl s) (.bl _)⟩
def nF(fa fb fc:VF D)(g g':D->D->Option D):VF D:=λvs β=>(fa vs β).bnd λx β1=>(fb vs β1).bnd λy β2=>match g x y with
 |some (.bool true)=>(fc vs β2).bnd λz β3=>R.of (g' y z) β3
 |some (.bool false)=>.ok (.bool false) β2
 |_=>.bad
theorem yt{pos:Pos}{g g':D->D->Option D}(ho:pH X (compareOp op) r)(ho':pH X (compareOp op') r')(pr:qf Γ.K r g .v)(pr':qf Γ.K r' g' .v)(ha:SE X Γ E a fa [] ma)(hb:SE X Γ E b fb [] mb)(hc:SE X Γ E c fc [] mc)
  (hm:lastMarks [op,op'] [b,c]=false:=by with_unfolding_all rfl):SE X Γ E (.Compare a [op,op'] [b,c] pos) (nF fa fb fc g g') [] .v:=by
 refine PE.post' (D4 ho ho' ha hb hc hm) λσ H Q ⟨env,G,B,β,I,o⟩=>?_
 refine two (W:=λx y H2=>r x y H2 λz H3=>∃k,z=.bl k/\(if k=true then pT Γ E fc [] mc σ H3 λw' H4=>r' y w' H4 Q else Q (.bl false) H3)) I (o.bnd.imp λd1 β1 h=>h.bnd.imp λd2 β2 h x y G2 H2 I2 s2 m2 bx by'=>?_)
 obtain⟨cb,ec,h⟩:∃cb,g d1 d2=some (.bool cb)/\Out Γ E (if cb=true then(fc (vl env) β2).bnd λz β3=>R.of (g' d2 z) β3 else .ok (.bool false) β2) λd β'=>∀v G' H',SR Γ B G' H' σ (a8 [] env) β'->ao G G'->iK B H H'->VO Γ.K B H G' H' .v d v->Q v H':=by
  split at h
  ·rename_i q;exact⟨true,q,by rw[Pe rfl];exact h⟩
  ·rename_i q;exact⟨false,q,by rw[Pg PZ];exact h⟩
  ·exact h.elim
 refine pr B G2 H2 x y d1 d2 _ _ I2.sub I2.boxThere bx by' ec λv G' H' x' vo=>?_
 cases vo
 refine⟨cb,rfl,?_⟩
 have I3:=I2.ext x'
 cases cb with
 |false=>rw[Pg PZ]at h;exact wz (h _ G' H' I3 (s2.trans x'.gg) (m2.trans (x'.mov B)) (.bl false))
 |true=>
  rw[Pe rfl]at h
  refine yg ⟨env,G',B,β2,I3,h.bnd.imp λd3 β3 h z G4 H4 I4 s4 m4 vz=>?_⟩
  obtain⟨d,e,k⟩:=h.of
  refine pr' B G4 H4 y z d2 d3 d Q I4.sub I4.boxThere (by'.mono (x'.gg.trans s4) ((x'.mov B).trans m4)) (vz.brw I3.boxThere) e λv G5 H5 x5 vo=>?_
  exact k v G5 H5 (I4.ext x5) (((s2.trans x'.gg).trans s4).trans x5.gg) (((m2.trans (x'.mov B)).trans m4).trans (x5.mov B)) vo
end
def fV.u1(r:fV k A):A.units+100<cLine:=by have:=r.un;omega
def OP(N:List Str)(sc:Scope)(NB:List Str)(own:Nat)(ixs:List Nat)(scope:Scope):Bool:=
 decide (scope.kind=.function)&&(scope.names.all λy=>decide (scope.names.lookup y.1=some y.2)) &&
 (scope.names.all λy=>decide (y.2=.free->(sc.names.lookup y.1=some .cell\/sc.names.lookup y.1=some .free)))&&decide NB.Nodup&&decide (NB.length=own+ixs.length) &&
 ((List.range ixs.length).all λk=>decide (NB[own+k]? =N[ixs.getD k 0]?)&&(match NB[own+k]? with|some x=>decide ((x,NameKind.free)∈scope.names)|none=>true))
def bR{X:Cx}{own:Nat}(h:OP X.N X.env.scope NB own ixs scope=true):dU X NB own ixs scope:=by
 unfold OP at h
 simp only[PF,Qi,PB,PN]at h
 let⟨⟨⟨⟨⟨h1,h3⟩,h4⟩,h5⟩,h6⟩,h7⟩:=h
 refine⟨h1,h3,h4,h5,h6,λk hk=>⟨(h7 k hk).1,λx hx=>?_⟩⟩
 have:=(h7 k hk).2
 rw[hx]at this
 simpa using this
section
variable {X:Cx}{Γ:Fx}{E:XK}{e a b c:Expr}{f fa fb fc:VF D}{L La Lb:List Nat}{md ma mb mc:Md}{pos:Pos}{K:Frag}
theorem E6(bx:lg K B G H x dx)(s:ao G H):decide (x=.non)=xy dx:=by
 cases dx with
 |none=>obtain rfl:=bx.none;rfl
 |bool b=>obtain rfl:=bx.bool;rfl
 |int b=>obtain rfl:=bx.int;rfl
 |str b=>obtain rfl:=bx.str;rfl
 |list b=>obtain⟨a,xs,rfl,_⟩:=bx.list s;rfl
 |tuple b=>obtain⟨a,xs,rfl,_⟩:=bx.tuple s;rfl
 |dict b=>
  rcases bx with bx|⟨a,rfl,_⟩
  .cases bx<;>rfl
  .rfl
def tN(fa:VF D)(neg:Bool):VF Bool:=λvs β=>(fa vs β).bnd λx β1=>.ok (if neg then !xy x else xy x) β1
def KY{j pos'}(ha:SE X Γ E a fa La ma):yX X Γ E (.Compare a [.Is] [.Constant .none j pos'] pos) (tN fa false) La:=by
 refine PT.post (Fg (J0 ha)) λσ H Q ⟨env,G,B,β,I,o⟩=>?_
 refine⟨env,G,B,β,I,o.bnd.imp λd1 β1 h x G1 H1 I1 s1 m1 vx=>⟨xy d1,?_,h G1 H1 I1 s1 m1⟩⟩
 rw[E6 (vx.brw I.boxThere) I1.sub]
def u4{j pos'}(ha:SE X Γ E a fa La ma):yX X Γ E (.Compare a [.IsNot] [.Constant .none j pos'] pos) (tN fa true) La:=by
 refine PT.post (Fg (Ga ha)) λσ H Q ⟨env,G,B,β,I,o⟩=>?_
 refine⟨env,G,B,β,I,o.bnd.imp λd1 β1 h x G1 H1 I1 s1 m1 vx=>⟨!xy d1,?_,h G1 H1 I1 s1 m1⟩⟩
 rw[E6 (vx.brw I.boxThere) I1.sub]
def oT(Γ:Fx)(E:XK)(f:VF (Option Int))(L:List Nat):TO:=λσ H Q=>∃env G B β,SR Γ B G H σ env β/\
 Out Γ E (f (vl env) β) λd β'=>∀G' H',SR Γ B G' H' σ (a8 L env) β'->ao G G'->iK B H H'->Q d H'
def MY(X:Cx)(Γ:Fx)(E:XK)(e:Option Expr)(f:VF (Option Int))(L:List Nat):Prop:=PO X e (oT Γ E f L)
def GF:MY X Γ E none (λ_ β=>.ok none β) []:=λpins s σ H Q I ⟨env,G,B,β,J,o⟩=>Gk pins s σ H Q I (o G H J (ao.refl _) (iK.refl _ _))
def Nh(fa:VF D):VF (Option Int):=λvs β=>(fa vs β).bnd λx β1=>match x with
 | .int i=>.ok (some i) β1
 |_=>.bad
theorem Hb(ha:SE X Γ E a fa La ma):MY X Γ E (some a) (Nh fa) La:=λpins s σ H Q I ⟨env,G,B,β,J,o⟩=>by
 refine Iv ha pins s σ H Q I ⟨env,G,B,β,J,o.bnd.imp λd1 β1 h x G1 H1 I1 s1 m1 vx=>?_⟩
 cases d1 with
 |int i=>exact⟨i,(vx.brw J.boxThere).int,h G1 H1 I1 s1 m1⟩
 |_=>exact h.elim
def cutD(xs:List D)(lo hi:Option Int):List D:=(xs.drop (HT.uc xs.length 0 lo)).take (HT.uc xs.length xs.length hi-HT.uc xs.length 0 lo)
def F0(r:bS K G xs ds)(lo hi:Option Int):bS K G (CI xs lo hi) (cutD ds lo hi):=by
 unfold CI cutD
 rw[r.len]
 exact(r.drop _).take _
def Nf(fa:VF D)(fl fh:VF (Option Int)):VF D:=λvs β=>(fa vs β).bnd λx β1=>(fl vs β1).bnd λl β2=>(fh vs β2).bnd λh β3=>match x with
 | .list ds=>.ok (.list (cutD ds l h)) β3
 |_=>.bad
theorem Dz{lo hi:Option Expr}{fl fh:VF (Option Int)}{Ll Lh:List Nat}{p2:Pos}(hK:X.K=Γ.K)(ha:SE X Γ E a fa La ma)(hl:MY X Γ E lo fl Ll)(hh:MY X Γ E hi fh Lh):SE X Γ E (.Subscript a (.Slice lo hi none p2) pos) (Nf fa fl fh) (La++Ll++Lh) .w:=by
 refine PE.post' (C7 Ha ha hl hh) λσ H Q ⟨env,G,B,β,I,o⟩=>⟨env,G,B,β,I,o.bnd.imp λd1 β1 h x G1 H1 I1 s1 m1 vx=>⟨a8 La env,G1,B,β1,I1,?_⟩⟩
 rw[fB]
 refine h.bnd.imp λl β2 h G2 H2 I2 s2 m2=>⟨a8 Ll (a8 La env),G2,B,β2,I2,?_⟩
 rw[fB,fB]
 refine h.bnd.imp λu β3 h G3 H3 I3 s3 m3=>?_
 rw[<-b8,<-b8,<-QV]at I3
 have bx:=((vx.brw I.boxThere).mono s2 m2).mono s3 m3
 cases d1 with
 |list ds=>
  obtain⟨p,xs,rfl,hq,r⟩:=bx.list I3.sub
  rw[hK]
  refine⟨p,xs,rfl,.inl hq,λq hn=>?_⟩
  have x:=Ext.own I3.sub (o:=.lst (CI xs l u)) hn
  exact h _ _ _ (I3.ext x) ((s1.trans s2).trans s3) (((m1.trans m2).trans m3).trans (x.mov B)) ⟨q,rfl,gf ((m1.trans m2).trans m3) I3.boxThere hn,I3.sub.free hn,_,au,F0 r l u⟩
 |_=>exact h.elim
def JZ:qf K (λx y H Q=>∃i j,[x,y]= [.int i,.int j]/\Q (.int (if j>i then j else i)) H) (Am λi j=>.int (if j>i then j else i)) .v:=by
 intro B G H x y dx dy d Q s hB bx by' e k
 obtain⟨i,j,rfl,rfl,rfl⟩:=pE e
 obtain rfl:=bx.int
 obtain rfl:=by'.int
 exact⟨i,j,rfl,k _ G H (Ext.refl s) (.int _)⟩
def JB:qf K (λx y H Q=>∃i j,[x,y]= [.int i,.int j]/\Q (.int (if j<i then j else i)) H) (Am λi j=>.int (if j<i then j else i)) .v:=by
 intro B G H x y dx dy d Q s hB bx by' e k
 obtain⟨i,j,rfl,rfl,rfl⟩:=pE e
 obtain rfl:=bx.int
 obtain rfl:=by'.int
 exact⟨i,j,rfl,k _ G H (Ext.refl s) (.int _)⟩
end
inductive FB where
 |ok (d:D) (fresh:Bool) (β:Int)
 |bad
def LG(K:Frag)(n:Nat)(F:List D->Int->FB):Sp:=λvs H Q _=>∃b rest G ds β,vs=.ref b::rest/\H b=some (.lst [.int β])/\G b=none/\ao G H/\ds.length=n/\bS K G rest ds/\match F ds β with
 | .ok d fr β'=>∀v G' H',iK (some b) H H'->H' b=some (.lst [.int β'])->ao G G'->ao G' H'->(∀c,Mx H c->G c=none->G' c=none)->FV K H G' H' fr d v->Q v H'
 | .bad=>False
structure kl(P:Program)(w:World)(K:Frag)(mg:Str->Option Value)(base:Heap)(x:Str)(ps:List Str)(k:Nat)(F:List D->Int->FB):Prop where
 ex:∃f fd,mg x=some (.ref f)/\PySem.W.keepIn K (.ref f)=true/\Binds K fd ps []/\gS P w K mg base (uL P w) k f fd ps (LG K (ps.length-1) F)
 len:∀ds β,F ds β≠.bad->ds.length=ps.length-1
def yU(vs:List Nv)(i:Nat):Bool:=match vs[i]? with
 |some .bx=>true
 |_=>false
def ij(i:Nat)(F:List D->Int->FB)(fr:VF (List D)):VF D:=λvs β=>if yU vs i=true then(fr vs β).bnd λds β1=>match F ds β1 with
 | .ok d _ β2=>.ok d β2
 | .bad=>.bad else .bad
def NL(i:Nat)(F:List D->Int->FB)(fr:VF (List D)):VF D:=λvs β=>if yU vs i=true then(fr vs β).bnd λds β1=>match F ds β1 with
 | .ok d true β2=>.ok d β2
 |_=>.bad else .bad
section
variable {X:Cx}{Γ:Fx}{E:XK}{e a b c:Expr}{f fa fb fc:VF D}{L La Lb:List Nat}{md ma mb mc:Md}{pos:Pos}{K:Frag}{es:List Expr}{fr:VF (List D)}
def Ic(h:yU (vl env) i=true):env[i]? =some .bx:=by
 unfold yU at h
 split at h
 .exact Mc (by assumption)
 .cases h
def GI{env:En}{i j:Nat}{d:D}(h:(jV env i)[j]? =some (.br d)):env[j]? =some (.br d):=by
 unfold jV at h
 split at h
 .rename_i d' e
  by_cases z:i=j
  .subst z
   rw[PQ (Pw.mp e).1]at h;cases h
  .rw[PH z]at h;exact h
 .exact h
theorem Ki{L:List Nat}{env:En}{j:Nat}{d:D}(h:(a8 L env)[j]? =some (.br d)):env[j]? =some (.br d):=by
 unfold a8 at h
 induction L generalizing env with
 |nil=>exact h
 |cons i L ih=>exact GI (ih h)
def SR.calledB(I1:SR Γ (some p) G1 H1 σ env β)(h:iK (some p) H1 H2)(hp:H2 p=some (.lst [.int β']))(g:ao G1 G2)(s:ao G2 H2)(n:∀b,Mx H1 b->G1 b=none->G2 b=none):SR Γ (some p) G2 H2 σ env β':=by
 let⟨b1,b2,b3⟩:=I1.box p rfl
 refine⟨s,I1.old.trans g,λb n1 n2=>n b (I1.thereM n1) (I1.new b n1 n2),λb o e np=>y6 (I1.keep b o e np) h λz=>?_,λb hb=>?_,I1.fix,λb e=>?_,I1.len,λi t e=>?_,I1.sep⟩
 .cases z
  rcases b3 with b3|b3
  .exact np b3
  .rw[e]at b3;cases b3
 .by_cases z:p=b
  .subst z;exact Mx.lst hp
  .exact (I1.pin b hb).same λo q=>h.1 b o q λy=>z (Option.some.inj y)
 .cases e
  exact⟨hp,n p (Mx.lst b1) b2,b3⟩
 .have q:=I1.slot i t e
  cases t with
  |no=>trivial
  |fz d=>let⟨v,h1,h2⟩:=q;exact⟨v,h1,h2.mono g⟩
  |ow d=>
   let⟨c,h1,h2,h3,h4,h5⟩:=q
   exact⟨c,h1,h2,n c h5.mx h3,h4,h5.mono g λo q=>h.1 c o q h4⟩
  |bx=>exact q
  |br d=>let⟨b1,c,h1,h4,hpp,h5⟩:=q;exact⟨b1,c,h1,h4,hpp,h5.mono g λo q=>h.1 c o q h4⟩
theorem He{F:List D->Int->FB}{ps:List Str}{Q:VK}{i:Nat}(I:SR Γ B G H σ env β)(hK:X.K=Γ.K)(hp:B=some p){wv:Bool}
  (h:Out Γ E (fr (vl env) β) λds β1=>Out Γ E (match F ds β1 with
   | .ok d true β2=>.ok d β2
   | .ok d false β2=>if wv=true then .bad else .ok d β2
   | .bad=>.bad) λd β'=>∀v G' H',SR Γ B G' H' σ (a8 L env) β'->ao G G'->iK B H H'->VO Γ.K B H G' H' (if wv=true then .w else .v) d v->Q v H') (hl:∀ds β,F ds β≠.bad->ds.length=ps.length-1) :
  aT Γ E fr L σ H λvs H1=>LG X.K (ps.length-1) F (.ref p::vs) H1 Q E:=by
 subst hp
 refine⟨env,G,_,β,I,h.imp λds β1 k vs G1 H1 I1 s1 m1 r=>?_⟩
 let⟨b1,b2,b3⟩:=I1.box p rfl
 refine⟨p,vs,G1,ds,β1,rfl,b1,b2,I1.sub,hl ds β1 λz=>by rw[z]at k;exact k,by rw[hK];exact r,?_⟩
 cases q:F ds β1 with
 |bad=>rw[q]at k;exact k
 |ok d fr' β2=>
  rw[q]at k
  intro v G' H' hh hb hg hs hn fv
  have I2:=I1.calledB hh hb hg hs hn
  cases fr' with
  |true=>
   obtain⟨c,rfl,p1,p2,p3⟩:∃a,v=.ref a/\H1 a=none/\G' a=none/\Own X.K G' H' a d:=fv
   rw[hK]at p3
   have hp:=gf m1 I1.boxThere p1
   cases wv with
   |true=>exact k _ G' H' I2 (s1.trans hg) (m1.trans hh) ⟨c,rfl,hp,p2,p3⟩
   |false=>
    let⟨q1,q2,q3,q4⟩:=I1.fresh p1
    let⟨G3,I3,s3,r3⟩:=I2.letIn q1 p2 q3 q4 p3
    exact k _ G3 H' I3 ((s1.trans hg).trans s3) (m1.trans hh) r3
  |false=>
   cases wv with
   |true=>exact k.elim
   |false=>
    have fv:Rp X.K G' v d:=fv
    rw[hK]at fv
    exact k _ G' H' I2 (s1.trans hg) (m1.trans hh) fv
theorem J5{F:List D->Int->FB}{ps:List Str}{Q:VK}{i:Nat}{σ:St}{H:Hp}(hK:X.K=Γ.K){wv:Bool}(hl:∀ds β,F ds β≠.bad->ds.length=ps.length-1)(h:pT Γ E (if wv=true then NL i F fr else ij i F fr) L (if wv=true then .w else .v) σ H Q) :
  HC i σ H λx H1=>aT Γ E fr L σ H1 λvs H2=>LG X.K (ps.length-1) F (x::vs) H2 Q E:=by
 let⟨env,G,B,β,I,o⟩:=h
 have hi:yU (vl env) i=true:=by
  by_cases hi:yU (vl env) i=true
  .exact hi
  .exfalso
   cases wv with
   |true=>simp only[Qn]at o;unfold NL at o;rw[Pg hi]at o;exact o
   |false=>simp only[Py,Qb]at o;unfold ij at o;rw[Pg hi]at o;exact o
 let⟨p,e1,e2⟩:=I.slot i _ (Ic hi)
 refine⟨.ref p,e1,He (i:=i) I hK e2 (wv:=wv) ?_ hl⟩
 cases wv with
 |true=>
  simp only[Qn]at o ⊢
  unfold NL at o
  rw[Pe hi]at o
  refine o.bnd.imp λds β1 h=>?_
  cases q:F ds β1 with
  |bad=>rw[q]at h;exact h
  |ok d b β2=>rw[q]at h;cases b<;>exact h
 |false=>
  simp only[Py,Qb]at o ⊢
  unfold ij at o
  rw[Pe hi]at o
  refine o.bnd.imp λds β1 h=>?_
  cases q:F ds β1 with
  |bad=>rw[q]at h;exact h
  |ok d b β2=>rw[q]at h;cases b<;>exact h
def hV{F:List D->Int->FB}{p np:Pos}(i:Nat)(hf:kl X.prog X.w X.K X.mg X.base x ps k F)(hr:fV k X.A)(hx:Passes (uL X.prog X.w) X E)(hK:X.K=Γ.K)(hg:Gl X x)(ha:SA X Γ E es fr L)(hN:X.N[i]? =some y:=by rfl)(hv:yW X.env.scope y:=by first|exact Or.inl rfl|exact Or.inr (Or.inl rfl)|exact Or.inr (Or.inr rfl))(hd:(y==("__debug__":Str))=false:=by decide)
  (hcd:(y==("__classdict__":Str))=false:=by decide) (hdb:(x==("__debug__":Str))=false:=by decide)
  (he:starEach (.Name y np::es) X.env=(false,eval (.Name y np) X.env)::starEach es X.env:=by rfl) (hpl:(backTo pos (starEach es X.env)).any (·.1)=false:=by rfl):SE X Γ E (.Call (.Name x p) (.Name y np::es) [] pos) (ij i F fr) L .v:=by
 let⟨f,fd,hm,hk,hb,hF⟩:=hf.ex
 refine PE.post' (nN hF hr hg hm hk hb .nil hx (aP (g8 hN hv hd hcd) ha he) hdb he hpl) λσ H Q h=>?_
 have:=J5 (wv:=false) hK hf.len (by simpa using h)
 show HC i σ H λx H1=>aT Γ E fr L σ H1 λvs H2=>LG X.K (ps.length-1) F ((x::vs)++[]) H2 Q E
 simpa using this
def EX:D->Option Int
 | .list [.int z]=>some z
 |_=>none
def Hg(h:EX d=some z):d=.list [.int z]:=by
 unfold EX at h
 split at h
 .cases h;rfl
 .cases h
def O7(f0:VF D)(F:List D->Int->FB)(n:Int):VF D:=λvs β=>(f0 vs β).bnd λd0 β1=>match EX d0 with
 |some z=>(match F [.int n] z with
  | .ok d _ _=>.ok d β1
  | .bad=>.bad)
 |none=>.bad
def sW(env:En):En:=env.map λs=>match s with
 | .bx=>.no
 |s=>s
theorem DC{env:En}{i:Nat}{s:Sl}(h:(sW env)[i]? =some s)(n:s≠.no):env[i]? =some s/\s≠.bx:=by
 unfold sW at h
 rw[Pt]at h
 cases e:env[i]? with
 |none=>rw[e]at h;cases h
 |some t=>
  rw[e]at h
  have h:=Option.some.inj h
  cases t with
  |bx=>exact absurd h.symm n
  |no=>exact absurd h.symm n
  |fz d=>subst h;exact⟨rfl,λz=>by cases z⟩
  |ow d=>subst h;exact⟨rfl,λz=>by cases z⟩
  |br d=>subst h;exact⟨rfl,λz=>by cases z⟩
def Af(i:Nat)(L:List Nat)(f:VF D):SF:=λenv β=>toS (f (vl env) β) λd _=>match EX d with
 |some z=>.nx ((sW (a8 L env)).set i .bx) z
 |none=>.bad
theorem Ia{i:Nat}{x:Str}{pos':Pos}(hbx:Γ.bx=none)(he:SE X Γ E e f L .w)(hN:X.N.Nodup)(hi:X.N[i]? =some x:=by rfl)(hx:Loc X.env.scope x:=by first|exact Or.inl rfl|exact Or.inr rfl)(hs:swapsWith e (some (.Name x pos')) pos.line X.env=pure false:=by rfl)(hf:X.fn x=true\/X.env.scope.names.lookup x=some .local:=by first|exact .inl rfl|exact .inr rfl|assumption) :
  SS X Γ E (.Assign [.Name x pos'] e pos) (Af i L f):=by
 refine PS.post (rM hN hi hx he hs hf) λN σ H ⟨env,G,B,β,I,o⟩=>⟨env,G,B,β,I,cx o λd β' k v G' H' I' s' m' vo=>?_⟩
 cases q:EX d with
 |none=>rw[q]at k;exact k.elim
 |some z=>
  rw[q]at k
  obtain rfl:=Hg q
  obtain⟨p,rfl,h1,h2,xs,h3,r⟩:=vo
  have hx2:H' p=some (.lst [.int z]):=by
   cases r with
   |cons r1 r2=>
    cases r1
    cases r2
    exact h3
  let⟨q1,q2,q3,q4⟩:=I.fresh h1
  refine k (some p) G' H' _ ⟨I'.sub,I'.old,I'.new,I'.keep,I'.pin,λb e=>(by rw[hbx]at e;cases e),λb e=>?_,?_,λj t e=>?_,λj j' c d1 d2 e1 e2 e3 e4=>?_⟩ s'
  .cases e;exact⟨hx2,h2,.inr q1⟩
  .rw[QM,QM];unfold sW;rw[Pc];exact I'.len
  .by_cases hj:j=i
   .subst hj
    by_cases hl:j<(sW (a8 L env)).length
    .rw[PQ hl]at e
     cases e
     refine⟨p,?_,rfl⟩
     rw[PQ]
     rw[I'.len];unfold sW at hl;simpa using hl
    .rw[Qq (by rw[QM];omega)]at e;cases e
   .rw[PH (Ne.symm hj)]at e ⊢
    by_cases hn:t=.no
    .subst hn;trivial
    .let⟨e1,nb⟩:=DC e hn
     have w:=I'.slot j t e1
     cases t with
     |no=>trivial
     |fz d=>exact w
     |bx=>exact absurd rfl nb
     |ow d=>
      let⟨a',g1,g2,g3,g4,g5⟩:=w
      exact⟨a',g1,g2,g3,λy=>q4 j d (vU e1) (by cases y;exact g1),g5⟩
     |br d=>
      let⟨b1,a',g1,g4,hpp,g5⟩:=w
      have e0:env[j]? =some (.br d):=Ki e1
      let⟨_,a2,f1,_,_,f5⟩:=I.slot j _ e0
      rw[g1]at f1;cases f1
      let⟨o,ho⟩:=f5.obj
      exact⟨b1,a',g1,λy=>(by cases y;rw[h1]at ho;cases ho),hpp,g5⟩
  .have back:∀{j:Nat} {d1:D},((sW (a8 L env)).set i Sl.bx)[j]? =some (.ow d1)->j≠i/\(a8 L env)[j]? =some (.ow d1):=λ{j d1} e=>by
    by_cases hj:j=i
    .subst hj
     by_cases hl:j<(sW (a8 L env)).length
     .rw[PQ hl]at e;cases e
     .rw[Qq (by rw[QM];omega)]at e;cases e
    .rw[PH (Ne.symm hj)]at e
     exact⟨hj,(DC e (λy=>by cases y)).1⟩
   let⟨n1,w1⟩:=back e1
   let⟨n2,w2⟩:=back e2
   rw[PH (Ne.symm n1)]at e3
   rw[PH (Ne.symm n2)]at e4
   exact I'.sep j j' c d1 d2 w1 w2 e3 e4
end
section
variable {P:Program}{w:World}{K:Frag}{mg:Str->Option Value}{base:Heap}{ca:Str->Addr}
def yk:SO->FB
 | .nx _ β=>.ok .none false β
 | .rt d fr β=>.ok d fr β
 |_=>.bad
def zy(n:Nat)(ds:List D):En:=.bx::ds.map Sl.fz++List.replicate (n-1-ds.length) .no
def p6(n p:Nat)(m:SF):List D->Int->FB:=λds β=>if ds.length=p then yk (m (zy n ds) β)else .bad
abbrev Fx.fb(K:Frag)(H G:Hp)(ca:Str->Addr)(b:Addr):Fx:=⟨K,H,G,[b],ca,λ_=>false,some b⟩
def SR.startB{b:Addr}(s:ao G H)(hb:H b=some (.lst [.int β]))(gb:G b=none)(r:bS K G vs ds)(hn:ds.length+1<=N.length):SR (Fx.fb K H G ca b) (some b) G H (L2.start N (.ref b::vs)) (zy N.length ds) β:=by
 have hl:=r.len
 refine⟨s,ao.refl _,λc _ h=>h,λc o h _=>Kt.of h,λc h=>?_,λc h=>h,λc h=>?_,?_,λi t e=>?_,λi j a d e h=>?_⟩
 .have:c=b:=by simpa using h
  subst this;exact Mx.lst hb
 .cases h;exact⟨hb,gb,.inl (by simp)⟩
 .unfold L2.start zy;simp;omega
 .cases i with
  |zero=>
   unfold zy at e
   cases e
   exact⟨b,rfl,rfl⟩
  |succ i=>
   unfold zy at e
   have e:(ds.map Sl.fz++List.replicate (N.length-1-ds.length) Sl.no)[i]? =some t:=by simpa using e
   by_cases hi:i<ds.length
   .rw[PJ (by simpa using hi),Pt,O9 hi]at e
    cases e
    let⟨x,hx,rx⟩:=r.at (O9 hi)
    refine⟨x,?_,rx⟩
    unfold L2.start
    have hi':i<vs.length:=by rw[hl];exact hi
    rw[PJ (by simp;exact hi'),Pt,List.getElem?_cons_succ,hx];rfl
   .rw[P7 (by simpa using hi),Q4]at e
    split at e
    .cases e;trivial
    .cases e
 .unfold zy at h
  have hm:=Pn h
  rcases Pf.mp hm with z|hm
  .cases z
  rcases Pz.mp hm with z|z
  .let⟨_,_,z⟩:=Pj.mp z;cases z
  .have:=Sz z;cases this
def oI{st:Stmt}{f:Addr}{k:Nat}{m:SF}(F:FL K x qual st f fd)(S:aH N ps (aq st))(hp:1<=ps.length)
  (hbody:∀(cdv:Value) (A:Around) (outer:List Env) (s:Shared) (H G:Hp) (b:Addr) (E:XK),fV k (A.deeper (envOfC qual (aq st) s.heap.objs.size f cdv))->FN (sV (uL P w) P w K mg base N qual (aq st) f cdv A outer s H E) (Fx.fb K H G ca b) E (c8 st) m) :
  gS P w K mg base (uL P w) (k+1) f fd ps (LG K (ps.length-1) (p6 N.length (ps.length-1) m)):=by
 have hpn:ps.length<=N.length:=by have:=congrArg List.length S.pre;rw[QR]at this;omega
 refine F.CU S (λvs H Q E h=>?_) (λcdv A outer s H vs Q E hr h=>?_)
 .obtain⟨b,rest,G,ds,β,rfl,hb,gb,sG,hl,r,_⟩:=h
  rw[PR,r.len];omega
 .obtain⟨b,rest,G,ds,β,rfl,hb,gb,sG,hl,r,h⟩:=h
  refine⟨_,hbody cdv A outer s H G b E hr,?_⟩
  have I:=SR.startB (ca:=ca) (N:=N) sG hb gb r (@AT)
  refine⟨_,G,some b,β,I,?_⟩
  unfold p6 at h
  rw[Pe hl]at h
  have fin':∀{B G' H' σ env β},SR (Fx.fb K H G ca b) B G' H' σ env β->iK (some b) H H'/\H' b=some (.lst [.int β]):=λJ=>by
   have e:=J.fix b rfl
   have k:∀c o,H c=some o->some b≠some c->Kt _ c o:=λc o ec n=>J.keep c o ec λz=>n (show some b=some c by rw[show c=b by simpa using z])
   exact⟨⟨k,λc o u ec=>k c _ ec λz=>by cases z;rw[hb]at ec;cases ec⟩,(J.box b e).1⟩
  cases q:m (zy N.length ds) β with
  |nx env β'=>rw[q]at h;exact λB G' H' σ J s'=>h .non G' H' (fin' J).1 (fin' J).2 s' J.sub (λc h1 h2=>J.new c h1 h2) Rp.non
  |bk env β'=>rw[q]at h;exact h.elim
  |ct env β'=>rw[q]at h;exact h.elim
  |rt d fr β'=>
   rw[q]at h
   refine λB G' H' σ env v J s' rv=>h v G' H' (fin' J).1 (fin' J).2 s' J.sub (λc h1 h2=>J.new c h1 h2) ?_
   cases fr with
   |true=>exact rv
   |false=>exact rv
  |exc c=>rw[q]at h;exact h.elim
  |bad=>rw[q]at h;exact h.elim
def oJ(ds:List D)(β:Int)(h:p6 n p m ds β≠.bad):ds.length=p:=by
 unfold p6 at h
 by_cases hl:ds.length=p
 .exact hl
 .rw[Pg hl]at h;exact absurd rfl h
end
def ax(p:Pr):D:=.tuple [.int p.1,.int p.2]
def sE:D->Option Pr
 | .tuple [.int a,.int b]=>some (a,b)
 |_=>none
def xJ(h:sE d=some p):d=ax p:=by
 unfold sE at h
 split at h
 .cases h;rfl
 .cases h
def Cn(p:Pr):sE (ax p)=some p:=rfl
def gx:List D->Option (List Pr)
 | []=>some []
 |d::ds=>match sE d,gx ds with
  |some p,some ps=>some (p::ps)
  |_,_=>none
theorem jR:∀{ds:List D} {ps:List Pr},gx ds=some ps->ds=ps.map ax
 | [],ps,h=>by cases h;rfl
 |d::ds,ps,h=>by
  unfold gx at h
  split at h
  ·rename_i p qs h1 h2;cases h;rw[xJ h1,jR h2];rfl
  ·cases h
theorem fy:∀ps:List Pr,gx (ps.map ax)=some ps
 | []=>rfl
 |p::ps=>by
  show(match sE (ax p),gx (ps.map ax)with
   |some p,some ps=>some (p::ps)
   |_,_=>none)=_
  rw[Cn,fy ps]
section
variable {K:Frag}{X:Cx}{G H:Hp}
theorem bS.pairs:∀{ps:List Pr} {xs:List V},bS K G xs (ps.map ax)->aR K G xs ps
 | [],_,.nil=>.nil
 |p::ps,_,.cons r t=>by
  cases r with
  |tup hq r=>
   cases r with
   |cons r1 r=>
    cases r with
    |cons r2 r=>cases r;cases r1;cases r2;exact .cons ⟨_,rfl,hq⟩ (bS.pairs t)
theorem aR.rps:∀{ps:List Pr} {xs:List V},aR K G xs ps->bS K G xs (ps.map ax)
 | [],_,.nil=>.nil
 |p::ps,_,.cons r t=>by
  obtain⟨a,rfl,q⟩:=r
  exact .cons (.tup q (.cons (.int _) (.cons (.int _) .nil))) (aR.rps t)
def Ku(p:Pr):Bool:=decide (0<=p.1)&&decide (p.1<8)&&decide (0<=p.2)&&decide (p.2<8)
def Fs(h:Ku p=true):Sm p:=by
 unfold Ku at h
 simp only[PF,PB]at h
 exact⟨⟨h.1.1.1,h.1.1.2⟩,h.1.2,h.2⟩
noncomputable def dk(d:D):Option D:=match kn d with
 |some ds=>(match gx ds with
  |some ps=>if ps.all Ku=true/\(OM.cy 8 (OM.Mem ps)).length<64 then some (.list ((OM.cy 8 (OM.Mem ps)).map ax))else none
  |none=>none)
 |none=>none
variable {Γ:Fx}{E:XK}{e a b c:Expr}{f fa fb fc:VF D}{L La Lb:List Nat}{md ma mb mc:Md}{pos:Pos}
theorem qQ{p1 p2 pos2:Pos}(hc:X.calm=true)(hu:X.A.units+64<cLine)(hK:X.K=Γ.K)(hg:Gl X "sorted")(hm:X.mg "sorted"=none)(hg2:Gl X "set")(hm2:X.mg "set"=none)(ha:SE X Γ E a fa La ma)
  (he:starEach [a] X.env=(false,eval a X.env)::starEach [] X.env:=by rfl)
  (he2:starEach [.Call (.Name "set" p2) [a] [] pos2] X.env=(false,eval (.Call (.Name "set" p2) [a] [] pos2) X.env)::starEach [] X.env:=by rfl) :
  SE X Γ E (.Call (.Name "sorted" p1) [.Call (.Name "set" p2) [a] [] pos2] [] pos) (f1 fa dk) La .w:=by
 refine PE.post' (lU (wg hc) hg hm (by decide +kernel) (aP (jM (EY hc hu) hg2 hm2 (by decide +kernel) (aP ha bD he) @A_ @A_ he) bD he2) @A_ @A_ he2) λσ H Q ⟨env,G,B,β,I,o⟩=>(jh (r:=λx H1 Q=>MH X.prog X.w X.K [x] H1 λy H2=>xW X.prog X.w X.K [y] H2 Q) ?_ I o)
 intro B G H x dx d Q s hB bx e k
 rw[hK]
 unfold dk at e
 cases q:kn dx with
 |none=>rw[q]at e;cases e
 |some ds=>
  rw[q]at e
  dsimp only at e
  cases q2:gx ds with
  |none=>rw[q2]at e;cases e
  |some ps=>
   rw[q2]at e
   dsimp only at e
   split at e
   .rename_i hh
    let⟨h1,h2⟩:=hh
    cases e
    obtain⟨p,xs,rfl,hq,r⟩:=bx.seq q s
    rw[jR q2]at r
    have pv:=(r.mono s).pairs
    have sm:∀p,p∈ps->Sm p:=λp hp=>Fs (Qi.mp h1 p hp)
    refine⟨p,xs,ps,rfl,hq,pv,sm,λS qs hS hpv nd hm=>?_⟩
    have qsl:qs.length<64:=by
     have:(pq qs).length<=(OM.cy 8 (OM.Mem ps)).length:=OM.qY nd λx hx=>by
      have hx':=(hm x).mp hx
      have hs:=sm x hx'
      exact OM.aN.mpr ⟨⟨⟨hs.1.1,hs.1.2⟩,hs.2.1,hs.2.2⟩,hx'⟩
     simp only[Pc]at this
     omega
    have xS:=Ext.own s (o:=Bx X.prog X.w S qs) hS
    refine⟨S,qs,rfl,au,hpv.grow (iS.new hS),λp hp=>sm p ((hm p).mp hp),nd,qsl,λl ws rs hl hpw hr hmem=>?_⟩
    have ers:rs=OM.cy 8 (OM.Mem ps):=OM.fo hr (OM.cC _ _) λx=>by
     rw[hmem x,hm x,OM.aN]
     constructor
     .intro hx;have hs:=sm x hx;exact⟨⟨⟨hs.1.1,hs.1.2⟩,hs.2.1,hs.2.2⟩,hx⟩
     .intro hx;exact hx.2
    subst ers
    have hlH:H l=none:=by
     by_cases z:l=S
     .subst z;exact hS
     .rw[av z]at hl;exact hl
    have lS:l≠S:=λz=>by subst z;rw[au]at hl;cases hl
    have hh:ao H (upd (upd H S (Bx X.prog X.w S qs)) l (.lst ws)):=(ao.new hS).trans (ao.new hl)
    have xx:=Ext.tups s hh
    refine k _ _ _ xx ⟨l,rfl,hlH,?_,ws,au,?_⟩
    .unfold jc
     rw[s.free hlH,au]
     exact Pg λy=>y
    .refine aR.rps (Paired.mapP hpw λv p ⟨a,ea,qa⟩=>⟨a,ea,i6 (s.trans hh) ?_⟩)
     exact qa.grow (iS.new hl)
   .cases e
end
section
variable {K:Frag}{X:Cx}{G H:Hp}{Γ:Fx}{E:XK}{e a b c:Expr}{f fa fb fc:VF D}{L La Lb:List Nat}{md ma mb mc:Md}{pos apos cpos np:Pos}
def bM:D->Option D
 | .int n=>if 0<=n/\n<=1000 then some (.list (cI 0 n.toNat))else none
 |_=>none
def BY(n:Nat):bS K G ((List.range n).map λ(i:Nat)=>V.int (i:Int)) (cI 0 n):=by
 have key:∀l:List Nat,bS K G (l.map λ(i:Nat)=>V.int (i:Int)) (l.map λ(k:Nat)=>int (0+k)):=by
  intro l
  induction l with
  |nil=>exact .nil
  |cons x l ih=>exact .cons (by show Rp K G (.int (x:Int)) (.int (0+(x:Int)));rw[QK];exact .int _) ih
 exact key _
theorem iX{p1 p2 pos2:Pos}(hc:X.calm=true)(hg:Gl X "list")(hm:X.mg "list"=none)(hg2:Gl X "range")(hm2:X.mg "range"=none)(ha:SE X Γ E a fa La ma)
  (he:starEach [a] X.env=(false,eval a X.env)::starEach [] X.env:=by rfl)
  (he2:starEach [.Call (.Name "range" p2) [a] [] pos2] X.env=(false,eval (.Call (.Name "range" p2) [a] [] pos2) X.env)::starEach [] X.env:=by rfl) :
  SE X Γ E (.Call (.Name "list" p1) [.Call (.Name "range" p2) [a] [] pos2] [] pos) (f1 fa bM) La .w:=by
 refine PE.post' (jM (tq hc) hg hm (by decide +kernel) (aP (jM DP hg2 hm2 (by decide +kernel) (aP ha bD he) @A_ @A_ he) bD he2) @A_ @A_ he2) λσ H Q ⟨env,G,B,β,I,o⟩=>(jh (r:=λx H1 Q=>∃n:Int,[x]= [.int n]/\∀p,H1 p=none->(λ(y:V) (H2:Hp)=>∃(p:Addr) (n:Int),[y]= [V.ref p]/\H2 p=some (.ba 0 n)/\0<=n/\n<=1000/\∀l,H2 l=none->Q (.ref l) (upd H2 l (.lst ((List.range n.toNat).map λ(i:Nat)=>V.int (i:Int))))) (V.ref p) (upd H1 p (.ba 0 n))) ?_ I o)
 intro B G H x dx d Q s hB bx e k
 cases dx with
 |int n=>
  obtain rfl:=bx.int
  simp only[bM]at e
  split at e
  .rename_i hh
   cases e
   refine⟨n,rfl,λp hp=>⟨p,n,rfl,au,hh.1,hh.2,λl hl=>?_⟩⟩
   have hlp:l≠p:=λz=>by subst z;rw[au]at hl;cases hl
   have hlH:H l=none:=by rw[av hlp]at hl;exact hl
   have x1:=Ext.own s (o:=.ba 0 n) hp
   have x2:=Ext.own x1.gh (o:=.lst ((List.range n.toNat).map λ(i:Nat)=>V.int (i:Int))) hl
   exact k _ _ _ (x1.trans x2) ⟨l,rfl,hlH,s.free hlH,_,au,BY _⟩
  .cases e
 |_=>cases e
def GY:D->Option D
 | .int i=>some (.int (if i<0 then -i else i))
 |_=>none
theorem MF:zW K (λx H Q=>∃i,[x]= [.int i]/\Q (.int (if i<0 then -i else i)) H) GY .v:=by
 intro B G H x dx d Q s hB bx e k
 cases dx with
 |int i=>cases e;obtain rfl:=bx.int;exact⟨i,rfl,k _ G H (Ext.refl s) (.int _)⟩
 |_=>cases e
noncomputable def iZ(d:D):Option D:=match d with
 | .list ds=>(match gx ds with
  |some ps=>if ps.all Ku=true/\ps.Nodup/\ps.length<64 then some (.list ((OM.cy 8 (OM.Mem ps)).map ax))else none
  |none=>none)
 |_=>none
theorem Ag:zW K (λx=>Ae K [x]) iZ .w:=by
 intro B G H x dx d Q s hB bx e k
 cases dx with
 |list ds=>
  simp only[iZ]at e
  cases q2:gx ds with
  |none=>rw[q2]at e;cases e
  |some ps=>
   rw[q2]at e
   dsimp only at e
   split at e
   .rename_i hh
    let⟨h1,h2,h3⟩:=hh
    cases e
    obtain⟨p,xs,rfl,hq,r⟩:=bx.list s
    rw[jR q2]at r
    have pv:=(r.mono s).pairs
    have sm:∀p,p∈ps->Sm p:=λp hp=>Fs (Qi.mp h1 p hp)
    refine⟨p,xs,ps,rfl,.inl hq,pv,sm,h2,h3,λl ws rs hl hpw hr hmem=>?_⟩
    have ers:rs=OM.cy 8 (OM.Mem ps):=OM.fo hr (OM.cC _ _) λx=>by
     rw[hmem x,OM.aN]
     constructor
     .intro hx;have hs:=sm x hx;exact⟨⟨⟨hs.1.1,hs.1.2⟩,hs.2.1,hs.2.2⟩,hx⟩
     .intro hx;exact hx.2
    subst ers
    have hh:ao H (upd H l (.lst ws)):=ao.new hl
    refine k _ _ _ (Ext.tups s hh) ⟨l,rfl,hl,?_,ws,au,?_⟩
    .unfold jc
     rw[s.free hl,au]
     exact Pg λy=>y
    .refine aR.rps (Paired.mapP hpw λv p ⟨a,ea,qa⟩=>⟨a,ea,i6 (s.trans hh) ?_⟩)
     exact qa.grow (iS.new hl)
   .cases e
 |_=>cases e
def CL(ds:List D)(k:D):Option (D×List D):=match k with
 | .int i=>if -(2^63)<=i/\i<2^63 then(match seqIndex? i ds.length with
  |some n=>(match ds[n]? with
   |some d=>some (d,ds.eraseIdx n)
   |none=>none)
  |none=>none)else none
 |_=>none
def mI(i j:Nat)(L:List Nat)(f:VF D):SF:=λenv β=>if wo env[i]? =true/\wo env[j]? =true/\i≠j then toS (f (vl env) β) λk β'=>match(a8 L env)[j]? with
 |some (.ow (.list es))=>(match CL es k with
  |some (d,es')=>J8 i ((a8 L env).set j (.ow (.list es'))) β' λds=>if ds.length<sizeLine then some (ds++[d])else none
  |none=>.bad)
 |_=>.bad else .bad
theorem bS.eraseIdx:∀{xs:List V} {ds:List D} (i:Nat),bS K G xs ds->bS K G (xs.eraseIdx i) (ds.eraseIdx i)
 |_,_,_,.nil=>.nil
 |_,_,0,.cons _ t=>t
 |_,_,i+1,.cons r t=>.cons r (bS.eraseIdx i t)
theorem Co(i j:Nat){x y:Str}{np2 apos2 cpos2:Pos}(hb:∀j,Γ.br j=false)(he:SE X Γ E e f L md)(hN:X.N[i]? =some x:=by rfl)(hv:yW X.env.scope x:=by first|exact Or.inl rfl|exact Or.inr (Or.inl rfl)|exact Or.inr (Or.inr rfl))(hd:(x==("__debug__":Str))=false:=by decide)
  (hcd:(x==("__classdict__":Str))=false:=by decide)
  (hN2:X.N[j]? =some y:=by rfl) (hv2:yW X.env.scope y:=by first|exact Or.inl rfl|exact Or.inr (Or.inl rfl)|exact Or.inr (Or.inr rfl)) (hd2:(y==("__debug__":Str))=false:=by decide)
  (hcd2:(y==("__classdict__":Str))=false:=by decide)
  (hbase:attributeBase (.Name x np) "append" X.env (eval (.Name x np) X.env)=eval (.Name x np) X.env:=by rfl)
  (hfew:((backTo cpos (starEach [.Call (.Attribute (.Name y np2) "pop" apos2) [e] [] cpos2] X.env)).all (λx=> !x.1)&&(backToKw cpos (keywordEach [] X.env)).all (λx=>x.1.isSome)
   && decide ([Expr.Call (.Attribute (.Name y np2) "pop" apos2) [e] [] cpos2].length+([]:List Keyword).length+(if([]:List Keyword).isEmpty then 0 else 1)<30))=true:=by rfl)
  (hline:(apos.endLine==cpos.line)=true:=by rfl) (hs:starEach [.Call (.Attribute (.Name y np2) "pop" apos2) [e] [] cpos2] X.env=(false,eval (.Call (.Attribute (.Name y np2) "pop" apos2) [e] [] cpos2) X.env)::starEach [] X.env:=by rfl)
  (hbase2:attributeBase (.Name y np2) "pop" X.env (eval (.Name y np2) X.env)=eval (.Name y np2) X.env:=by rfl)
  (hfew2:((backTo cpos2 (starEach [e] X.env)).all (λx=> !x.1)&&(backToKw cpos2 (keywordEach [] X.env)).all (λx=>x.1.isSome)
   && decide ([e].length+([]:List Keyword).length+(if([]:List Keyword).isEmpty then 0 else 1)<30))=true:=by rfl)
  (hline2:(apos2.endLine==cpos2.line)=true:=by rfl) (hs2:starEach [e] X.env=(false,eval e X.env)::starEach [] X.env:=by rfl)
  (hsw:swapsWith (.Call (.Attribute (.Name x np) "append" apos) [.Call (.Attribute (.Name y np2) "pop" apos2) [e] [] cpos2] [] cpos) none pos.line X.env=pure false:=by rfl) :
  SS X Γ E (.Expr (.Call (.Attribute (.Name x np) "append" apos) [.Call (.Attribute (.Name y np2) "pop" apos2) [e] [] cpos2] [] cpos) pos) (mI i j L f):=by
 refine PS.post (qd (Bh PySem.F.plainAttrs_list PySem.F.slot_list_append PySem.F.type_list_append o9 (g8 hN hv hd hcd)
  (aP (Bh PySem.F.plainAttrs_list PySem.F.slot_list_pop PySem.F.type_list_pop Du (g8 hN2 hv2 hd2 hcd2) (aP he bD hs2) hbase2 hfew2 hline2 hs2 rfl) bD hs) hbase hfew hline hs rfl) hsw) λN σ H ⟨env,G,B,β,I,o⟩=>?_
 unfold mI at o
 by_cases hO:wo env[i]? =true/\wo env[j]? =true/\i≠j
 case neg=>rw[Pg hO]at o;exact o.elim
 rw[Pe hO]at o
 let⟨hO1,hO2,hij⟩:=hO
 let⟨ds0,q0⟩:=ql hO1
 let⟨es0,w0⟩:=ql hO2
 let⟨p,h1,_,_,_,xs,h5,_⟩:=I.slot i _ q0
 let⟨q,k1,_,_,_,ys,k5,_⟩:=I.slot j _ w0
 refine⟨_,h1,.inl ⟨rfl,xs,.inl (.inl h5)⟩,?_⟩
 refine⟨_,k1,.inl ⟨rfl,ys,.inl (.inl k5)⟩,⟨env,G,B,β,I,cx o λkd β' k v G' H' I' s' m' vo=>?_⟩⟩
 cases ej:(a8 L env)[j]? with
 |none=>rw[ej]at k;exact k.elim
 |some sj=>
  rw[ej]at k
  cases sj with
  |ow dj=>
   cases dj with
   |list es=>
    dsimp only at k
    cases ep:CL es kd with
    |none=>rw[ep]at k;exact k.elim
    |some pr=>
     let⟨d,es'⟩:=pr
     rw[ep]at k
     dsimp only at k
     unfold CL at ep
     cases kd<;>first|(cases ep;done)|skip
     rename_i ii
     dsimp only at ep
     split at ep
     .rename_i hr
      cases eI:seqIndex? ii es.length with
      |none=>rw[eI]at ep;cases ep
      |some n=>
       rw[eI]at ep
       dsimp only at ep
       cases eD:es[n]? with
       |none=>rw[eD]at ep;cases ep
       |some d0=>
        rw[eD]at ep
        cases ep
        obtain rfl:=(vo.brw I.boxThere).int
        let⟨q',g1,_,_,_,zs,g5,g6⟩:=I'.slot j _ ej
        rw[k1]at g1;cases g1
        let⟨xv,ex,rx⟩:=g6.at eD
        refine⟨q,zs,ii,n,xv,rfl,rfl,g5,hr.1,hr.2,by rw[g6.len];exact eI,ex,?_⟩
        have I2:=I'.write hb ej k1 (d':=.list (es.eraseIdx n)) λH2 e2 s2=>⟨_,e2,g6.eraseIdx n⟩
        let⟨ds,fs,eq,eg,k⟩:=vW k
        by_cases hz:ds.length<sizeLine
        case neg=>rw[Pg hz]at eg;cases eg
        rw[Pe hz]at eg
        cases eg
        let⟨p',f1,_,_,_,us,f5,f6⟩:=I2.slot i _ eq
        rw[h1]at f1;cases f1
        refine⟨p,us,xv,rfl,rfl,f5,by rw[f6.len];exact hz,?_⟩
        exact k B G' _ σ (I2.write hb eq h1 λH2 e2 s2=>⟨_,e2,f6.snoc rx⟩) s'
     .cases ep
   |_=>exact k.elim
  |_=>exact k.elim
end
def cA:List D->Int->FB
 | [.int m],β=>if 0<m/\m<1073741824 then .ok (.int (β%m)) false (β/m)else .bad
 |_,_=>.bad
def AH(h:cA ds β≠.bad):∃m,ds= [.int m]/\0<m/\m<1073741824:=by
 unfold cA at h
 split at h
 .rename_i m
  by_cases hh:0<m/\m<1073741824
  .exact⟨m,rfl,hh.1,hh.2⟩
  .rw[Pg hh]at h;exact absurd rfl h
 .exact absurd rfl h
def v8(h0:0<m)(h1:m<1073741824):cA [.int m] β=.ok (.int (β%m)) false (β/m):=Pe ⟨h0,h1⟩
def constsOf:List Expr->Option (List Int)
 | []=>some []
 | .Constant (.int i) _ _::es=>(constsOf es).map λr=>i::r
 |_=>none
def Oz(ns:List Int):VF (List D):=λ_ β=>.ok (ns.map int) β
theorem uK{X:Cx}{Γ:Fx}{E:XK}:∀{es:List Expr} {ns:List Int},constsOf es=some ns->SA X Γ E es (Oz ns) []
 | [],ns,h=>by
  have e:ns= []:=by unfold constsOf at h;exact(Option.some.inj h).symm
  subst e
  exact ah
 |e::es,ns,h=>by
  unfold constsOf at h
  split at h
  .cases ‹_::_= []›
  .next i a b es' heq=>
   cases heq
   cases q:constsOf es with
   |none=>rw[q]at h;cases h
   |some r=>
    rw[q]at h
    have e2:i::r=ns:=Option.some.inj h
    subst e2
    exact ae ay (uK q) rfl
  .cases h
section
variable {P:Program}{w:World}{K:Frag}{mg:Str->Option Value}{base:Heap}
def Im{X:Cx}{px py pos:Pos}{k:Nat}(hN:X.N.Nodup)(hi:X.N[i]? =some x)(hj:X.N[j]? =some y)(hx:X.env.scope.names.lookup x=some .local)(hy:X.env.scope.names.lookup y=some .local)(hc:X.calm=true) :
  PG X (.Tuple [.Name x px,.Name y py] k pos) (Ij X.K 2 (qH (mN i) (qH (mN j) G9))):=
 rL hc (eY (c6 hN hi (Or.inl hx) (Or.inr hx)) (eY (c6 hN hj (Or.inl hy) (Or.inr hy)) nK))
def C0{b:Addr}{β m:Int}{H:Hp}{Q:VK}{G:Hp}(hb:H b=some (.lst [.int β]))(s:ao G H)(hp:H p=none)
  (kk:∀v G' H',iK (some b) H H'->H' b=some (.lst [.int (β/m)])->ao G G'->ao G' H'->(∀c,Mx H c->G c=none->G' c=none)->FV K H G' H' false (.int (β%m)) v->Q v H') (gb:G b=none) :
  Q (.int (β%m)) (upd (upd H p (.tup [.int (β/m),.int (β%m)])) b (.lst [.int (β/m)])):=by
 have hbp:b≠p:=aL hb hp
 refine kk _ G _ ⟨λc o e n=>Kt.of (by rw[av (λz=>n (by rw[z])),av (aL e hp)];exact e),λc o u e=>by rw[av (λz=>by rw[z,hb]at e;cases e),av (aL e hp)];exact e⟩ au (ao.refl _) (λc o e=>?_) (λc _ h=>h) (.int _)
 let⟨u,eu,_⟩:=(s c o e).some
 exact lF (lF (s c o e) (aL eu hp) λx y w=>by rw[hp]at w;cases w) (λz=>by rw[z,gb]at e;cases e) λx y w=>by rw[av hbp,hb]at w;cases w
end
end L2
namespace L2
open PySem PySem.SeqAt PySem.Spec PyProof.Rows
def vK{M:Model}{A:Around}{E:@B_}{s:Shared}{β:Type}{b:Nat}(f:Nat->β->Sem (ForInStep β))(I:List Nat->β->Shared->Prop)(Q:β->Shared->Prop)
  (turn:∀x rest b s,I (x::rest) b s->wpAny M A (f x b) (λr s'=>match r with|.yield b'=>I rest b' s'|.done b'=>Q b' s') E s)
  (fin:∀b s,I [] b s->Q b s) (c:β) (h:I (List.range' 0 b) c s):wpAny M A (forIn [0:b] c f) Q E s:=by
 rw[Std.Legacy.Range.forIn_eq_forIn_range']
 simp only[Std.Legacy.Range.size,Nat.sub_zero,Nat.add_sub_cancel,Nat.div_one]
 exact Sf f I Q turn fin _ c h
def tH(l:Addr)(items:Array Value)(n:Nat)(dd:Option Addr)(sl:Array (Option Value))(x:Value)(e:Value->Bool)(j:Nat)(hj:j<items.size)
  (hit:e items[j]=true) (hno:∀m (hm:m<items.size),m<j->e items[m]=false) :
  Meets (Builtin.«tuple.index» ⟨[.ref l,x],[]⟩)
   (λA R s=>s.heap.get? l=some {cls:=.type "tuple",dict:=dd,data:=.seq items n,slots:=sl}/\(∀y,y∈items->EqAt A.in1 s y x (e y))/\R (.ok (.ret (.int j s.toks))) {s with toks:=s.toks+1}):=
 .of_wp λprog w A R s h=>by
  let⟨hp,g,d,tk,os⟩:=s;let⟨hl,he,h⟩:=h
  wp_walk using wpAny_loadPart' hl,vK _ (λrest b s'=>b.1=none/\s'=⟨hp,g,d,tk,os⟩/\∃i,i<=j/\rest=List.range' i (items.size-i)) _
  case turn=>
   rintro y rest b s' ⟨hb,rfl,i,hi,hr⟩
   obtain⟨m,hm⟩:∃m,items.size-i=m+1:=⟨items.size-i-1,@AT ⟩
   rw[hm,Si]at hr
   obtain⟨rfl,rfl⟩:=List.cons.inj hr
   have hlt:y<items.size:=@AT
   have e1:items[y]? =some items[y]:=by simp[hlt]
   simp only[e1]
   refine O8 (he _ (SN hlt) prog w _ _ ?_)
   by_cases z:y=j
   .subst z
    rw[hit]
    wp_walk
    exact⟨_,rfl,h⟩
   .rw[hno y hlt (@AT)]
    wp_walk
    exact⟨rfl,rfl,y+1,@AT,by congr 1;omega⟩
  case fin=>
   rintro b s' ⟨hb,rfl,i,hi,hr⟩
   obtain⟨m,hm⟩:∃m,items.size-i=m+1:=⟨items.size-i-1,@AT ⟩
   rw[hm,Si]at hr
   cases hr
  case h=>
   exact⟨rfl,rfl,0,P9 _,by rw[Nat.min_self];rfl⟩
section
variable {K:Frag}{X:Cx}{G H:Hp}{Γ:Fx}{E:XK}{e a b c:Expr}{f fa fb fc:VF D}{L La Lb:List Nat}{md ma mb mc:Md}{pos apos cpos np:Pos}
def zS(k:Int):Value->Bool
 | .int i _=>i==k
 |_=>false
theorem m6:∀{ns:List Int} {us:List Value} (i:Nat) (h:i<us.length) (h2:i<ns.length),Vals (ns.map V.int) us->zS k us[i]=(ns[i]==k)
 | [],_,_,_,h2,_=>absurd h2 (Nat.not_lt_zero _)
 |n::ns,_,0,_,_,.cons r _=>by obtain⟨t,rfl⟩:=r;rfl
 |n::ns,_,i+1,h,h2,.cons _ rs=>m6 i (Nat.lt_of_succ_lt_succ h) (Nat.lt_of_succ_lt_succ h2) rs
theorem wy(A:Around)(s:Shared):∀{ns:List Int} {us:List Value},Vals (ns.map V.int) us->∀y∈us,EqAt A s y (.int k t) (zS k y)
 | [],_,.nil,y,hy=>by cases hy
 |n::ns,_,.cons r rs,y,hy=>by
  rcases Pf.mp hy with z|z
  ·subst z;obtain⟨t',rfl⟩:=r;exact EqAt.int_int n t' k t
  .exact wy A s rs y z
def FY(K:Frag):V->List V->Hp->VK->Prop:=λx vs H Q=>∃(a:Addr) (ns:List Int) (k:Int),x=.ref a/\vs= [.int k]/\fu K H a (ns.map V.int)/\k∈ns/\Q (.int (ns.idxOf k:Nat)) H
def Cc:Ng X "tuple.index" (FY X.K):=by
 intro pins s σ H x vs v us Q I rx rv h
 obtain⟨a,ns,k,rfl,rfl,hq,hk,q⟩:=h
 cases rx
 obtain⟨u,rfl,ru⟩:=vals1 rv
 obtain⟨t,rfl⟩:=ru
 let⟨its,rs,pl,hz⟩:=I.tuple hq
 let⟨⟨cls,dd,data,sl⟩,ho,hc,n,hd⟩:=id pl
 simp only at hc hd
 subst hc hd
 have hj:ns.idxOf k<ns.length:=QB.mpr hk
 have hlen:its.length=ns.length:=by rw[<-rs.length,Pc]
 refine call_meets PySem.F.slot_tuple_index ⟨_,ho,rfl⟩ PySem.F.entry_tuple_index (PySem.F.args_tuple_index_2 _ _)
  (tH a its.toArray n dd sl (.int k t) (zS k) (ns.idxOf k) (by simpa[hlen]using hj) ?_ ?_) ⟨ho,λy hy=>wy _ _ rs y (by simpa using hy),?_⟩
 .have:=m6 (k:=k) (ns.idxOf k) (@AT) hj rs
  simpa[R6 hj]using this
 .intro m hm hlt
  have hm':m<ns.length:=by simpa[hlen]using hm
  have hne:ns[m]≠k:=λz=>by
   have:=List.not_of_lt_findIdx hlt
   simp[z]at this
  have:=m6 (k:=k) m (@AT) hm' rs
  rw[So.mpr hne]at this;simpa using this
 .exact⟨.int (ns.idxOf k:Nat),H,I.tok _,⟨_,rfl⟩,q⟩
def Inv.tupleP(I:@At)(h:fu X.K H p xs):s.TypeIs (.ref p) "tuple"/\∀a,Value.ref p=.ref a->∃ob,s.heap.get? a=some ob/\ob.dict=none:=by
 rcases h with h|⟨o,its,n,hk,hc,hs,hz,r,hd⟩
 .let⟨_,_,_,o,e,c,n,d,hd⟩:=h.ok I.hok
  exact⟨⟨o,e,c⟩,λa z=>by cases z;exact⟨o,e,hd⟩⟩
 .exact⟨⟨o,I.kIn p o hk,hc⟩,λa z=>by cases z;exact⟨o,I.kIn p o hk,hd⟩⟩
def NP(K:Frag)(r:V->List V->Hp->VK->Prop)(to:TE)(t:TA):TE:=λσ H Q=>to σ H λx H1=>(∃p xs,x=.ref p/\fu K H1 p xs)/\t σ H1 λxs H2=>r x xs H2 Q
def K1{o e:Expr}{es:List Expr}{to:TE}{t:TA}{name:Str}{apos cpos:Pos}{id:String}{r:V->List V->Hp->VK->Prop}(slot:Slot "tuple" name id)(hty:typeOf (.builtin id)=pure (.type "method_descriptor"))(hm:Ng X id r)(ho:PE X o to)(ha:PA X (e::es) t)
  (hbase:attributeBase o name X.env (eval o X.env)=eval o X.env:=by rfl)
  (hfew:((backTo cpos (starEach (e::es) X.env)).all (λx=> !x.1)&&(backToKw cpos (keywordEach [] X.env)).all (λx=>x.1.isSome)
   && decide ((e::es).length+([]:List Keyword).length+(if([]:List Keyword).isEmpty then 0 else 1)<30))=true:=by rfl)
  (hline:(apos.endLine==cpos.line)=true:=by rfl) (hs:starEach (e::es) X.env=(false,eval e X.env)::starEach es X.env:=by rfl) (hplain:(backTo cpos (starEach es X.env)).any (·.1)=false:=by rfl) :
  PE X (.Call (.Attribute o name apos) (e::es) [] cpos) (NP X.K r to t):=by
 intro pins s σ H Q I h
 refine wpAny_Call_method_late hbase hfew hline rfl (cn (ho pins s σ H _ I h) λv s1 ⟨x,H1,I1,r1,⟨p,ys,ex,hr⟩,q1⟩=>?_)
 subst ex
 cases r1
 let⟨h1,h2⟩:=I1.tupleP hr
 refine⟨"tuple",id,PySem.F.plainAttrs_tuple,slot,hty,h1,h2,?_⟩
 have hA:=ha cpos pins s1 σ H1 _ I1 q1
 rw[hs]at hA ⊢
 refine Calls.callWith_builtin (by show(false||(backTo cpos (starEach es X.env)).any (·.1))=false;rw[hplain]<;>rfl) (Calls.evalArgs_plain ?_)
 exact cn hA λus s2 ⟨vs,H2,I2,r2,q2⟩=>hm pins s2 σ H2 (.ref p) vs (.ref p) us Q I2 rfl r2 q2
def kU:List D->Option (List Int)
 | []=>some []
 | .int i::ds=>(kU ds).map (i :: ·)
 |_=>none
theorem si:∀{ds:List D} {ns:List Int},kU ds=some ns->ds=ns.map int
 | [],ns,h=>by cases h;rfl
 | .int i::ds,ns,h=>by
  unfold kU at h
  cases q:kU ds with
  |none=>rw[q]at h;cases h
  |some ms=>rw[q]at h;cases h;rw[si q];rfl
 | .none::_,_,h=>by cases h
 | .bool _::_,_,h=>by cases h
 | .str _::_,_,h=>by cases h
 | .list _::_,_,h=>by cases h
 | .tuple _::_,_,h=>by cases h
 | .dict _::_,_,h=>by cases h
theorem jT:∀ns:List Int,kU (ns.map int)=some ns
 | []=>rfl
 |n::ns=>by show(kU (ns.map int)).map (n :: ·)=_;rw[jT ns];rfl
theorem rA:∀{ns:List Int} {xs:List V},bS K G xs (ns.map int)->xs=ns.map V.int
 | [],_,.nil=>rfl
 |n::ns,_,.cons r t=>by cases r;rw[rA t];rfl
def IB(d y:D):Option D:=match d,y with
 | .tuple ds,.int k=>(match kU ds with
  |some ns=>if k∈ns then some (.int (ns.idxOf k:Nat))else none
  |none=>none)
 |_,_=>none
def Ap:D->Bool
 | .tuple _=>true
 |_=>false
def pw(fa fb:VF D):VF D:=λvs β=>(fa vs β).bnd λx β1=>if Ap x=true then(fb vs β1).bnd λy β2=>R.of (IB x y) β2 else .bad
theorem wR(hK:X.K=Γ.K)(ha:SE X Γ E a fa La ma)(hb:SE X Γ E b fb Lb mb)
  (hbase:attributeBase a "index" X.env (eval a X.env)=eval a X.env:=by rfl)
  (hfew:((backTo cpos (starEach [b] X.env)).all (λx=> !x.1)&&(backToKw cpos (keywordEach [] X.env)).all (λx=>x.1.isSome)
   && decide ([b].length+([]:List Keyword).length+(if([]:List Keyword).isEmpty then 0 else 1)<30))=true:=by rfl)
  (hline:(apos.endLine==cpos.line)=true:=by rfl) (hs:starEach [b] X.env=(false,eval b X.env)::starEach [] X.env:=by rfl) :
  SE X Γ E (.Call (.Attribute a "index" apos) [b] [] cpos) (pw fa fb) (La++Lb) .v:=by
 refine PE.post' (K1 PySem.F.slot_tuple_index PySem.F.type_tuple_index Cc ha (aP hb bD hs) hbase hfew hline hs rfl) λσ H Q ⟨env,G,B,β,I,o⟩=>⟨env,G,B,β,I,o.bnd.imp λd1 β1 h x G1 H1 I1 s1 m1 vx=>?_⟩
 have vx:=vx.brw I.boxThere
 cases d1 with
 |tuple ds=>
  rw[Pe (show Ap (.tuple ds)=true from rfl)]at h
  obtain⟨p,xs,rfl,hq,r⟩:=vx.tuple I1.sub
  refine⟨⟨p,xs,rfl,by rw[hK];exact hq⟩,?_⟩
  refine⟨a8 La env,G1,B,β1,I1,?_⟩
  rw[fB]
  refine h.bnd.imp λd2 β2 h y G2 H2 I2 s2 m2 vy=>?_
  let⟨d,e,k⟩:=h.of
  have vy:=vy.brw I1.boxThere
  cases d2 with
  |int kk=>
   obtain rfl:=vy.int
   simp only[IB]at e
   cases q:kU ds with
   |none=>rw[q]at e;cases e
   |some ns=>
    rw[q]at e
    dsimp only at e
    split at e
    .rename_i hk
     cases e
     have eds:=si q
     subst eds
     have exs:=rA r
     subst exs
     have hq2:fu X.K H2 p (ns.map V.int):=by
      rw[hK]
      rcases hq with hq|hq
      .rcases vx with vx|⟨_,_,_,vx⟩
       .cases vx with
        |tup g1 r9=>have z9:=rA r9;subst z9;exact(g1.grow (s2.trans I2.sub).grow)
       .exact vx.elim
      .exact .inr hq
     exact⟨p,ns,kk,rfl,rfl,hq2,hk,k _ G2 H2 (by rw[b8];exact I2) (s1.trans s2) (m1.trans m2) (.int _)⟩
    .cases e
  |_=>simp only[IB]at e;cases e
 |_=>exact h.elim
end
end L2
namespace L2
open PySem PySem.Spec PyProof.Rows
section
variable {prog:Program}{w:World}{A:Around}{E:@B_}{s:Shared}{it t:Addr}{i:Nat}{xs:Array Value}{Q:@B_}
theorem Ny(hi:s.heap.IsTupleIter it t i)(ht:s.heap.IsTuple t xs)
  (k1:∀x,xs[i]? =some x->∀h',h'.IsTupleIter it t (i+1)->Heap.SameBut it s.heap h'->Q x {s with heap:=h'})
  (k2:xs[i]? =none->A.handled=none/\∀h' e,Heap.ExtBut it s.heap h'->(∃o,h'.get? e=some o/\o.cls=.type "StopIteration")->E (.ref e) {s with heap:=h'}) :
  wpAny (model prog w) A (Builtin.SmallTypes.nextOf (.ref it)) Q E s:=by
 let⟨o,ho,hc,hd⟩:=id hi
 obtain⟨ol,hol, -,nl,hdl⟩:=ht
 refine O8 (QP hi.typeIs F.slot_tuple_iterator_next (Qv F.slot_tuple_iterator_next hi.typeIs F.entry_tuple_iterator_next ?_ (F.args_tuple_iterator_next_1 _)))
 refine(show wpAny _ _ (field (.ref it) 0 >>= _) _ _ s from O8 (wpAny_field ho hd rfl ((show wpAny _ _ (if(Value.ref t==Value.none)=true then _ else _) _ _ s from ?_))))
 rw[Pg (by exact PZ)]
 refine(show wpAny _ _ (field (.ref it) 1 >>= _) _ _ s from O8 (wpAny_field ho hd rfl ((show wpAny _ _ (seqItems? (.ref t) >>= _) _ _ s from O8 (SK hol hdl ?_)))))
 cases hx:xs[i]? with
 |some x=>
  simp only[Qe,hx]
  refine O8 (Q0 ho hd (by simp) (Pa ⟨x,rfl,Pa (k1 x hx _ ⟨_,PY _ ho (Sd (Rz hd _)),(Obj.cls_mapFields ..).trans hc,?_⟩ (Heap.SameBut.update ..))⟩))
  rw[Rz hd]
  simp[rawInt]
 |none=>
  let⟨hh,hE⟩:=k2 hx
  simp only[Qe,hx]
  refine O8 (SJ (O8 (Q0 ho hd (by simp) (show wpAny _ _ (newExc (.type "StopIteration") [] >>= _) _ _ _ from O8 ?_))))
  simp only[newExc,newTuple]
  refine O8 (Qx (O8 (wpAny_of_eq (by first|rfl|(simp only[firstArgMember];rfl)) (Qx ?_ (by size_fits)))) (by size_fits))
  simp only[raiseNew]
  refine O8 (wpAny_handled ?_)
  have hh':A.in1.handled=none:=hh
  first|rw[hh']|rw[hh]
  exact O8 (Pa (wpAny_throw (hE _ _ (((Heap.SameBut.update ..).extBut.push _).push _) ⟨_,Pl _ rfl,rfl⟩)))
def K9(hh:A.handled=none)(hne:t≠it)(xs:Array Value):Draws prog w A it [it,t] xs.size (λi v=>xs[i]? =some v) (λi h=>h.IsTupleIter it t i/\h.IsTuple t xs) where
 live:=λ_ _ st=>let⟨o,ho,_⟩:=st.1;⟨o,ho⟩
 frame:=λ_ _ _ st hk=>⟨st.1.at λo e=>hk it (by simp) o e,st.2.at λo e=>hk t (by simp) o e⟩
 item:=λi s Q E hi st k=>Ny st.1 st.2 (λx hx h' q1 q2=>k x h' s.toks hx ⟨q1,st.2.extBut q2.extBut hne⟩ q2) λz=>by simp at z;omega
 done:=λs Q E st k=>Ny st.1 st.2 (λx hx=>by simp at hx) λ_=>⟨hh,k⟩
end
abbrev Ju(t:Addr):Obj:={cls:=.type "tuple_iterator",data:=.fields #[.ref t,.int 0 0]}
abbrev MV(it:Addr):Obj:={cls:=.type "enumerate",data:=.fields #[.none,.bool false,.ref it,rawInt 0,.none,.none]}
def FF(t:Addr)(xs:Array Value)(n:Nat)(dc:Option Addr)(sl:Array (Option Value)) :
  Meets (Builtin.«enumerate.__new__» ⟨[.type "enumerate",.ref t],[]⟩) (λ_ R s=>s.heap.get? t=some ⟨.type "tuple",dc,.seq xs n,sl⟩/\
   R (.ok (.ret (.ref (s.heap.push (Ju t)).objs.size))) {s with heap:=(s.heap.push (Ju t)).push (MV s.heap.objs.size)}):=by
 refine .of_wp λprog w A R s h=>?_
 let⟨hp,g,d,tk,os⟩:=s
 let⟨hl,h⟩:=h
 have sb:=sub_enumerate
 have hT:Heap.IsTuple (Shared.heap ⟨hp,g,d,tk,os⟩) t xs:=⟨_,hl,rfl,n,rfl⟩
 wp_walk using SD hl
 refine wpAny_stack_any λst=>Pa ?_
 split
 .rename_i c _ _ _ _ _
  cases(c==Value.type "enumerate")<;>(wp_walk using SD hl,R5 hT;exact⟨_,rfl,h⟩)
 .wp_walk using SD hl,R5 hT
  exact⟨_,rfl,h⟩
section
variable {prog:Program}{w:World}{A:Around}{E:@B_}{s:Shared}
def y1{t:Addr}{xs:Array Value}{Q:@B_}(hT:s.heap.IsTuple t xs)
  (k:∀h',IsEnum h' (s.heap.objs.size+1) s.heap.objs.size 0 .none->h'.IsTupleIter s.heap.objs.size t 0->(∀b o,s.heap.get? b=some o->h'.get? b=some o)->Q (.ref (s.heap.objs.size+1)) {s with heap:=h'}) :
  wpAny (model prog w) A (call (.type "enumerate") [.ref t]) Q E s:=by
 let⟨⟨c,dc,dt,sl⟩,hl,hc,n,hd⟩:=hT
 have hc:c=.type "tuple":=hc
 have hd:dt=.seq xs n:=hd
 subst hc hd
 refine callType_new F.called_enumerate @A_ (F.typeCall_enumerate_1 _) (F.newCall_enumerate_1 _) (λob=>F.args_object_init_2 ob _) F.entry_enumerate_new (FF t xs n dc sl) ⟨hl,?_⟩
 have hz:(s.heap.push (Ju t)).objs.size=s.heap.objs.size+1:=QJ ..
 have g2:((s.heap.push (Ju t)).push (MV s.heap.objs.size)).get? (s.heap.push (Ju t)).objs.size=some (MV s.heap.objs.size):=Pl _ rfl
 have g1:((s.heap.push (Ju t)).push (MV s.heap.objs.size)).get? s.heap.objs.size=some (Ju t):=Pb _ (Pl _ rfl)
 rw[hz]at g2
 rw[hz]
 exact⟨⟨_,g2,rfl⟩,k _ g2 ⟨_,g1,rfl,rfl⟩ λb o e=>Pb _ (Pb _ e)⟩
end
def Kl(hh:A.handled=none)(i:Nat)(hx:xs[i]? =none):Draws prog w A it [it,t] i (λ_ _=>False) (λj h=>j=i/\h.IsTupleIter it t i/\h.IsTuple t xs) where
 live:=λ_ _ st=>let⟨o,ho,_⟩:=st.2.1;⟨o,ho⟩
 frame:=λ_ _ _ st hk=>⟨st.1,st.2.1.at λo e=>hk it (by simp) o e,st.2.2.at λo e=>hk t (by simp) o e⟩
 item:=λj s Q E hi st k=>absurd st.1 (@AT)
 done:=λs Q E st k=>Ny st.2.1 st.2.2 (λx h=>by rw[hx]at h;cases h) λ_=>⟨hh,k⟩
def Ot(K:Frag)(a:Addr):It:=
 ⟨λi H=>∃xs x,fu K H a xs/\xs[i]? =some x,
  λi H v H'=>∃x t,H t=none/\(∀xs,fu K H a xs->xs[i]? =some x)/\v=.ref t/\H'=upd H t (.tup [.int i,x]),
  λi H=>∃xs,fu K H a xs/\xs.length<=i⟩
abbrev yA(n:Nat):List Nat:=[n+1,n]
def BV{h:Heap}{a n:Addr}{i:Nat}{its:Array Value}{b:Addr}(p:h.IsTuple a its)(q:h.IsTupleIter n b i):a≠n:=λz=>by
 subst z
 let⟨o,e,c,_⟩:=p
 let⟨o',e',c',_⟩:=q
 rw[e]at e';cases e'
 rw[c]at c'
 simp at c'
def Ce{a n it:Addr}(p:h.IsTuple a its)(q:IsEnum h n it i old):n≠a:=λz=>by
 subst z
 let⟨o,e,c,_⟩:=p
 rw[q]at e;cases e
 simp at c
def zd{P:Program}{w:World}{K:Frag}{elts:List Expr}{x1}{pos:Pos}(a:Addr)(n:Nat):Turn P w K (.Tuple elts x1 pos) (Ot K a) (yA n) (n+1)
  (λi h=>(∃old,IsEnum h (n+1) n i old)/\h.IsTupleIter n a i) where
 mem:=by simp
 obj:=λi h st c hc=>by
  let⟨⟨old,z1⟩,⟨o2,z2,_,d2⟩⟩:=st
  simp only[yA,Pf,Ql,Rx]at hc
  rcases hc with rfl|rfl
  .exact⟨_,z1,λv z=>by
    have z':Data.fields _=Data.cell v:=z
    cases z'⟩
  .exact⟨o2,z2,λv z=>by rw[d2]at z;cases z⟩
 keep:=λi h h' st k=>by
  let⟨⟨old,z1⟩,z2⟩:=st
  exact⟨⟨old,k _ (by simp) _ z1⟩,z2.at λo e=>k _ (by simp) o e⟩
 item:=by
  intro X hP hw hK hc i pins s σ H E I hf st hg
  subst hP hw hK
  let⟨xs,x,ha,hx⟩:=hg
  let⟨its,rv,p,hz⟩:=I.tuple ha
  have p:s.heap.IsTuple a its.toArray:=p
  let⟨u0,hu0,ru0⟩:=rv.get hx
  let⟨⟨old,z1⟩,z2⟩:=st
  have hh:X.A.in1.handled=none:=I.ok.hd hc
  have hlt:i<its.toArray.size:=by
   have:=Pw.mp hu0
   simpa using this.1
  refine wpAny_pyNext_enum_itemD (K9 hh (BV p z2) its.toArray) z1 ⟨z2,p⟩ hlt (Lr 1 0 rfl) (by
   simp only[Pf,Ql,Rx,not_or]
   exact⟨Lr 1 0 rfl,Ce p z1⟩) λu h' tk hu q1 q2 q3 q4 q5=>?_
  have eu:u0=u:=by
   have hu:its.toArray[i]? =some u:=hu
   rw[RF,hu0]at hu
   exact Option.some.inj hu
  subst eu
  refine⟨_,rfl,wpAny_letOwnedTupleGo_enum q1 λh2 r1 r2=>?_⟩
  have r2:∀c,c≠n+1->h2.get? c=h'.get? c:=r2.2
  have lz:n+1<s.heap.objs.size:=Po z1
  have hT:H s.heap.objs.size=none:=I.hok.fresh (Pd _)
  have I1:Inv X pins σ (upd H s.heap.objs.size (.tup [.int i,x])) {s with heap:=s.heap.push {cls:=.type "tuple",data:=.seq #[.int i tk,u0]},toks:=s.toks}:=
   I.laid (λb o e=>Pb _ e) (Pd _) ⟨by show 2<=sizeLine;rw[PX];omega,[.int i tk,u0],.cons ⟨tk,rfl⟩ (.cons ru0 .nil),v5.new _ _⟩
  have hf':∀c∈yA n,ng X pins (upd H s.heap.objs.size (.tup [.int i,x])) c:=λc hc=>⟨by
   rw[av (λz=>?_)]
   .exact (hf c hc).1
   .subst z
    simp only[yA,Pf,Ql,Rx]at hc
    omega,(hf c hc).2⟩
  have I2:Inv X pins σ (upd H s.heap.objs.size (.tup [.int i,x])) {s with heap:=h2,toks:=tk+1}:=by
   refine I1.turnedL (λc o hc e=>?_) hf'
   have e:(s.heap.push {cls:=.type "tuple",data:=.seq #[.int i tk,u0]}).get? c=some o:=e
   simp only[yA,Pf,Ql,Rx,not_or]at hc
   rw[r2 c hc.1]
   by_cases z:c=s.heap.objs.size
   .subst z
    rw[Pl _ rfl]at e
    rw[<-e];exact q3
   .refine q5 c o hc.1 hc.2 ?_
    rw[Heap.get?_push_ne _ _ _ z]at e
    exact e
  refine⟨.ref s.heap.objs.size,_,I2,rfl,⟨x,_,hT,λxs' h'=>?_,rfl,rfl⟩,⟨⟨u0,r1⟩,q2.1.at λo e=>(r2 _ (Lr 0 1 rfl)).trans e⟩,λc hc=>(hf' c hc).1⟩
  rw[I.tuple_inj h' ha];exact hx
 done:=by
  intro X hP hw hK hc i pins s σ H E I hf st hg
  subst hP hw hK
  let⟨xs,ha,hl⟩:=hg
  let⟨its,rv,p,hz⟩:=I.tuple ha
  let⟨⟨old,z1⟩,z2⟩:=st
  have hh:X.A.in1.handled=none:=I.ok.hd hc
  have l1:=rv.length
  refine wpAny_pyNext_enum_endD (Kl hh i (by simp;omega)) z1 ⟨rfl,z2,p⟩ λh' q=>⟨rfl,?_⟩
  refine I.turnedL (λc o hc e=>?_) hf
  simp only[yA,Pf,Ql,Rx,not_or]at hc
  exact q c o hc.2 e
 self:=λ_ _ _ _ _ st h=>by
  let⟨⟨old,z1⟩,_⟩:=st
  exact SU z1 h
def Cf:bootBuiltins "enumerate"=some (.type "enumerate"):=by decide +kernel
section
variable {X:Cx}{Γ:Fx}{E:XK}{e a b c:Expr}{f fa fb:VF D}{L La Lb:List Nat}{md ma mb:Md}{pos:Pos}
def iU(ds:List D):List D:=ds.mapIdx λi d=>.tuple [.int i,d]
def Ei{K:Frag}{B:Option Addr}{G H1:Hp}{p:Addr}{xs:List V}{ds:List D}(hp:fu K G p xs)(r:bS K G xs ds):Walk K B G H1 (iU ds) (Ot K p):=λGc H i s1 s2 m=>by
 have hp':=hp.grow (s1.trans s2).grow
 have l1:=r.len
 have lz:(iU ds).length=ds.length:=by unfold iU;rw[List.length_mapIdx]
 refine⟨λhi=>⟨?_,λx H' y=>?_⟩,λhi=>⟨xs,hp',@AT ⟩⟩
 .have h1:i<xs.length:=@AT
  exact⟨xs,xs[i],hp',by simp[h1]⟩
 .obtain⟨x,t,ht,hx,rfl,rfl⟩:=y
  let⟨d,ed,rd⟩:=r.at' (hx xs hp')
  have xn:=Ext.new s2 (o:=.tup [.int i,x]) ht
  refine⟨upd Gc t (.tup [.int i,x]),.tuple [.int i,d],xn,?_,.tup (.inl (.inl au)) (.cons (.int i) (.cons (rd.mono (s1.trans xn.gg)) .nil))⟩
  unfold iU
  rw[List.getElem?_mapIdx,ed];rfl
end
end L2
namespace L2
open PySem PyProof.Rows
section
variable {X:Cx}{K:Frag}{pins:List V}{σ:St}{H:Hp}{s:Shared}{E:XK}
theorem bS.intsB:∀{ns:List Int} {xs:List V},bS K G xs (ns.map int)->xs=ns.map V.int
 | [],_,.nil=>rfl
 |n::ns,_,.cons r t=>by cases r;rw[bS.intsB t];rfl
variable {Γ:Fx}{e a b c:Expr}{f fa fb fc:VF D}{L La Lb:List Nat}{md ma mb mc:Md}{pos:Pos}
def sortI(ns:List Int):List Int:=ns.mergeSort λa b=>decide (a<=b)
def sortI_perm(ns:List Int):(sortI ns).Perm ns:=List.mergeSort_perm ..
def Dj(ns:List Int):(sortI ns).Pairwise (· <= ·):=by
 have:=List.pairwise_mergeSort (le:=λa b:Int=>decide (a<=b)) (λa b c h1 h2=>by simp only[PB]at *;omega) (λa b=>by simp only[Sw,PB];omega) ns
 exact this.imp λh=>by simpa using h
def nv(h:ms.Perm ns)(h2:ms.Pairwise (· <= ·)):ms=sortI ns:=
 List.Perm.eq_of_pairwise (λa b _ _ h1 h2=>@AT) h2 (Dj ns) (h.trans (sortI_perm ns).symm)
def Lj(K:Frag):List V->Hp->VK->Prop:=λxs H Q=>∃a ns,xs= [.ref a]/\fU K H a (ns.map V.int)/\ns.length<64/\∀l,H l=none->Q (.ref l) (upd H l (.lst ((sortI ns).map V.int)))
theorem vg:∀{us:List Value} {ns:List Int},IntsAre us ns->Vals (ns.map V.int) us
 |_,_,.nil=>.nil
 |_,_,.cons n t hr=>.cons ⟨t,rfl⟩ (vg hr)
def zY:cW X (.builtin "sorted") (Lj X.K):=by
 intro pins s σ H xs us Q I r h
 obtain⟨a,ns,rfl,hq,hl,q⟩:=h
 obtain⟨u,rfl,rx⟩:=vals1 r
 cases rx
 let⟨its,rv,pl,hz⟩:=I.list hq
 have hil:its.length=ns.length:=by rw[<-rv.length,Pc]
 refine sorted_ints pl.isList (intsAre_of rv) (@AT) λout ns' a1 a2 a3=>?_
 obtain rfl:=nv a2 a3
 let⟨c,he⟩:=sortedAll_at s.heap its out
 have hf:H (s.heap.objs.size+1)=none:=I.hok.fresh (R8 _)
 have hz':((sortI ns).map V.int).length<=sizeLine:=by
  have:=a2.length_eq
  rw[Pc,PX];omega
 have I2:Inv X pins σ (upd H (s.heap.objs.size+1) (.lst ((sortI ns).map V.int))) {s with heap:=sortedAll s.heap its out,toks:=s.toks}:=I.laid (λ_ _=>sortedAll_old) (R8 _) (show bE X.prog X.w _ _ _ (.lst ((sortI ns).map V.int))from⟨hz',out.toList,c,vg a1,he⟩)
 exact⟨.ref _,_,I2,rfl,q _ hf⟩
end
end L2
namespace L2
open PySem
mutual
def kT:D->Bool
 | .none=>true
 | .bool _=>true
 | .int _=>true
 | .str _=>true
 | .tuple ds=>vY ds
 | .list _=>false
 | .dict _=>false
def vY:List D->Bool
 | []=>true
 |d::ds=>kT d&&vY ds
end
section
variable {P:Program}{w:World}{K:Frag}{mg:Str->Option Value}{base:Heap}{ca:Str->Addr}{G G' H H':Hp}
mutual
theorem Rp.flat(s:ao G H)(s':ao G' H):∀{x:V} {d:D},Rp K G' x d->kT d=true->Rp K (jc G H) x d
 |_,_,.non,_=>.non
 |_,_,.bl b,_=>.bl b
 |_,_,.int i,_=>.int i
 |_,_,.str x,_=>.str x
 |_,_,.tup h hs,e=>.tup (i6 s (h.grow s'.grow)) (bS.flat s s' hs (by simpa[kT]using e))
 |_,_,.lst h hs,e=>by simp[kT]at e
 |_,_,.scr h,e=>by simp[kT]at e
 |_,_,.dK h hs,e=>by simp[kT]at e
 |_,_,.dT h hs,e=>by simp[kT]at e
theorem bS.flat(s:ao G H)(s':ao G' H):∀{xs:List V} {ds:List D},bS K G' xs ds->vY ds=true->bS K (jc G H) xs ds
 |_,_,.nil,_=>.nil
 |_,_,.cons h hs,e=>by
  simp only[vY,PF]at e
  exact .cons (Rp.flat s s' h e.1) (bS.flat s s' hs e.2)
end
end
end L2
namespace L2
open PySem PySem.Spec PyProof.Rows
def Il(hh:A.handled=none)(i:Nat)(hx:xs[i]? =none):Draws prog w A it [it,t] i (λ_ _=>False) (λj h=>j=i/\h.IsListIter it t i/\h.IsList t xs) where
 live:=λ_ _ st=>let⟨o,ho,_⟩:=st.2.1;⟨o,ho⟩
 frame:=λ_ _ _ st hk=>⟨st.1,st.2.1.at λo e=>hk it (by simp) o e,st.2.2.at λo e=>hk t (by simp) o e⟩
 item:=λj s Q E hi st k=>absurd st.1 (@AT)
 done:=λs Q E st k=>wpAny_nextOf_list_end hh st.2.1 st.2.2 hx k
def Jp(K:Frag)(a:Addr):It:=
 ⟨λi H=>∃xs x,fU K H a xs/\xs[i]? =some x,
  λi H v H'=>∃x t,H t=none/\(∀xs,fU K H a xs->xs[i]? =some x)/\v=.ref t/\H'=upd H t (.tup [.int i,x]),
  λi H=>∃xs,fU K H a xs/\xs.length<=i⟩
def CK{h:Heap}{a n:Addr}{i:Nat}{its:Array Value}{b:Addr}(p:h.IsList a its)(q:h.IsListIter n b i):a≠n:=λz=>by
 subst z
 let⟨o,e,c,_⟩:=p
 let⟨o',e',c',_⟩:=q
 rw[e]at e';cases e'
 rw[c]at c'
 simp at c'
def BU{a n it:Addr}(p:h.IsList a its)(q:IsEnum h n it i old):n≠a:=λz=>by
 subst z
 let⟨o,e,c,_⟩:=p
 rw[q]at e;cases e
 simp at c
def zG{P:Program}{w:World}{K:Frag}{elts:List Expr}{x1}{pos:Pos}(a:Addr)(n:Nat):Turn P w K (.Tuple elts x1 pos) (Jp K a) (yA n) (n+1)
  (λi h=>(∃old,IsEnum h (n+1) n i old)/\h.IsListIter n a i) where
 mem:=by simp
 obj:=λi h st c hc=>by
  let⟨⟨old,z1⟩,⟨o2,z2,_,d2⟩⟩:=st
  simp only[yA,Pf,Ql,Rx]at hc
  rcases hc with rfl|rfl
  .exact⟨_,z1,λv z=>by
    have z':Data.fields _=Data.cell v:=z
    cases z'⟩
  .exact⟨o2,z2,λv z=>by rw[d2]at z;cases z⟩
 keep:=λi h h' st k=>by
  let⟨⟨old,z1⟩,z2⟩:=st
  exact⟨⟨old,k _ (by simp) _ z1⟩,z2.at λo e=>k _ (by simp) o e⟩
 item:=by
  intro X hP hw hK hc i pins s σ H E I hf st hg
  subst hP hw hK
  let⟨xs,x,ha,hx⟩:=hg
  let⟨its,rv,p,hz⟩:=I.list ha
  have p:s.heap.IsList a its.toArray:=p.isList
  let⟨u0,hu0,ru0⟩:=rv.get hx
  let⟨⟨old,z1⟩,z2⟩:=st
  have hh:X.A.in1.handled=none:=I.ok.hd hc
  have hlt:i<its.toArray.size:=by
   have:=Pw.mp hu0
   simpa using this.1
  refine wpAny_pyNext_enum_itemD (Draws.list hh n a (CK p z2) its.toArray) z1 ⟨z2,p⟩ hlt (Lr 1 0 rfl) (by
   simp only[Pf,Ql,Rx,not_or]
   exact⟨Lr 1 0 rfl,BU p z1⟩) λu h' tk hu q1 q2 q3 q4 q5=>?_
  have eu:u0=u:=by
   have hu:its.toArray[i]? =some u:=hu
   rw[RF,hu0]at hu
   exact Option.some.inj hu
  subst eu
  refine⟨_,rfl,wpAny_letOwnedTupleGo_enum q1 λh2 r1 r2=>?_⟩
  have r2:∀c,c≠n+1->h2.get? c=h'.get? c:=r2.2
  have lz:n+1<s.heap.objs.size:=Po z1
  have hT:H s.heap.objs.size=none:=I.hok.fresh (Pd _)
  have I1:Inv X pins σ (upd H s.heap.objs.size (.tup [.int i,x])) {s with heap:=s.heap.push {cls:=.type "tuple",data:=.seq #[.int i tk,u0]},toks:=s.toks}:=
   I.laid (λb o e=>Pb _ e) (Pd _) ⟨by show 2<=sizeLine;rw[PX];omega,[.int i tk,u0],.cons ⟨tk,rfl⟩ (.cons ru0 .nil),v5.new _ _⟩
  have hf':∀c∈yA n,ng X pins (upd H s.heap.objs.size (.tup [.int i,x])) c:=λc hc=>⟨by
   rw[av (λz=>?_)]
   .exact (hf c hc).1
   .subst z
    simp only[yA,Pf,Ql,Rx]at hc
    omega,(hf c hc).2⟩
  have I2:Inv X pins σ (upd H s.heap.objs.size (.tup [.int i,x])) {s with heap:=h2,toks:=tk+1}:=by
   refine I1.turnedL (λc o hc e=>?_) hf'
   have e:(s.heap.push {cls:=.type "tuple",data:=.seq #[.int i tk,u0]}).get? c=some o:=e
   simp only[yA,Pf,Ql,Rx,not_or]at hc
   rw[r2 c hc.1]
   by_cases z:c=s.heap.objs.size
   .subst z
    rw[Pl _ rfl]at e
    rw[<-e];exact q3
   .refine q5 c o hc.1 hc.2 ?_
    rw[Heap.get?_push_ne _ _ _ z]at e
    exact e
  refine⟨.ref s.heap.objs.size,_,I2,rfl,⟨x,_,hT,λxs' h'=>?_,rfl,rfl⟩,⟨⟨u0,r1⟩,q2.1.at λo e=>(r2 _ (Lr 0 1 rfl)).trans e⟩,λc hc=>(hf' c hc).1⟩
  rw[I.list_inj h' ha];exact hx
 done:=by
  intro X hP hw hK hc i pins s σ H E I hf st hg
  subst hP hw hK
  let⟨xs,ha,hl⟩:=hg
  let⟨its,rv,p,hz⟩:=I.list ha
  let⟨⟨old,z1⟩,z2⟩:=st
  have hh:X.A.in1.handled=none:=I.ok.hd hc
  have l1:=rv.length
  refine wpAny_pyNext_enum_endD (Il hh i (by simp;omega)) z1 ⟨rfl,z2,p.isList⟩ λh' q=>⟨rfl,?_⟩
  refine I.turnedL (λc o hc e=>?_) hf
  simp only[yA,Pf,Ql,Rx,not_or]at hc
  exact q c o hc.2 e
 self:=λ_ _ _ _ _ st h=>by
  let⟨⟨old,z1⟩,_⟩:=st
  exact SU z1 h
section
variable {X:Cx}{Γ:Fx}{E:XK}{e a b c:Expr}{f fa fb:VF D}{L La Lb:List Nat}{md ma mb:Md}{pos:Pos}
def ES{K:Frag}{B:Option Addr}{G H1:Hp}{p:Addr}{xs:List V}{ds:List D}(hp:∀Gc H,ao G Gc->ao Gc H->iK B H1 H->fU K H p xs)(r:bS K G xs ds):Walk K B G H1 (iU ds) (Jp K p):=λGc H i s1 s2 m=>by
 have hp':=hp Gc H s1 s2 m
 have l1:=r.len
 have lz:(iU ds).length=ds.length:=by unfold iU;rw[List.length_mapIdx]
 refine⟨λhi=>⟨?_,λx H' y=>?_⟩,λhi=>⟨xs,hp',@AT ⟩⟩
 .have h1:i<xs.length:=@AT
  exact⟨xs,xs[i],hp',by simp[h1]⟩
 .obtain⟨x,t,ht,hx,rfl,rfl⟩:=y
  let⟨d,ed,rd⟩:=r.at' (hx xs hp')
  have xn:=Ext.new s2 (o:=.tup [.int i,x]) ht
  refine⟨upd Gc t (.tup [.int i,x]),.tuple [.int i,d],xn,?_,.tup (.inl (.inl au)) (.cons (.int i) (.cons (rd.mono (s1.trans xn.gg)) .nil))⟩
  unfold iU
  rw[List.getElem?_mapIdx,ed];rfl
end
end L2
namespace L2
open PySem
section
variable {X:Cx}{Γ:Fx}{E:XK}{e a b c:Expr}{f fa fb fc:VF D}{L La Lb:List Nat}{md ma mb mc:Md}{pos:Pos}
def m8(F:List D->FR)(fa fb:VF D):VF D:=λvs β=>(fa vs β).bnd λd1 β1=>(fb vs β1).bnd λd2 β2=>match F [d1,d2]with
 | .ok d _=>if kT d=true then .ok d β2 else .bad
 | .exc c=>.exc c
 | .bad=>.bad
def Dd{a:Addr}(h:Own K G H a d)(e:kT d=true):False:=by
 cases d<;>first|exact h|(simp[kT]at e)
theorem uF{F:List D->FR}{p:Pos}(hf:cN X.prog X.w X.K X.mg X.base Γ.ca x ps k F)(hr:fV k X.A)(hx:Passes (uL X.prog X.w) X E)(hK:X.K=Γ.K)(hg:Gl X x)(ha:SE X Γ E a fa La ma)(hb:SE X Γ E b fb Lb mb)(hdb:(x==("__debug__":Str))=false:=by decide)
  (he:starEach [a,b] X.env=(false,eval a X.env)::starEach [b] X.env:=by rfl) (he2:starEach [b] X.env=(false,eval b X.env)::starEach [] X.env:=by rfl) (hpl:(backTo pos (starEach [b] X.env)).any (·.1)=false:=by rfl):SE X Γ E (.Call (.Name x p) [a,b] [] pos) (m8 F fa fb) (La++Lb) .v:=by
 let⟨f,fd,hm,hk,hbd,hF⟩:=hf.ex
 refine PE.post' (nN hF hr hg hm hk hbd .nil hx (aP ha (aP hb bD he2) he) hdb he hpl) λσ H Q ⟨env,G,B,β,I,o⟩=>⟨env,G,B,β,I,o.bnd.imp λd1 β1 h x G1 H1 I1 s1 m1 vx=>⟨a8 La env,G1,B,β1,I1,?_⟩⟩
 rw[fB]
 refine h.bnd.imp λd2 β2 k y G2 H2 I2 s2 m2 vy=>?_
 have bx:=((vx.brw I.boxThere).mono s2 m2).rpH I2.sub
 have bv:=(vy.brw I1.boxThere).rpH I2.sub
 rw[<-b8]at I2
 cases q:F [d1,d2]with
 |bad=>rw[q]at k;exact k.elim
 |exc c=>
  rw[q]at k
  refine⟨H2,[d1,d2],ao.refl _,hf.len _ (by rw[q];simp),by rw[hK];exact .cons bx (.cons bv .nil),?_⟩
  rw[q]
  exact λH' hh=>k H' λb o e n=>(I2.keep b o e n).step hh
 |ok d fr=>
  rw[q]at k
  refine⟨H2,[d1,d2],ao.refl _,hf.len _ (by rw[q];simp),by rw[hK];exact .cons bx (.cons bv .nil),?_⟩
  rw[q]
  intro v G' H' hh g1 g2 hn fv
  dsimp only at k
  by_cases hfl:kT d=true
  case neg=>rw[Pg hfl]at k;exact k.elim
  rw[Pe hfl]at k
  have sG:ao G2 H':=I2.sub.trans hh
  refine k v (jc G2 H') H' (I2.ext (Ext.tups I2.sub hh)) (s1.trans (s2.trans pf)) (m1.trans (m2.trans (hh.mov B))) ?_
  cases fr with
  |true=>let⟨a,_,_,_,w⟩:=fv;exact(Dd w hfl).elim
  |false=>
   have fv:Rp X.K G' v d:=fv
   rw[hK]at fv
   exact Rp.flat sG g2 fv hfl
end
end L2
namespace L2
open PySem PyProof.Rows
section
variable {X:Cx}{Γ:Fx}{E:XK}{pos:Pos}
def yy:SE X Γ E (.Dict [] [] pos) (cst (.dict [])) [] .w:=by
 refine PE.post' Fu ?_
 rintro σ H Q ⟨env,G,B,β,I,o⟩ p hp
 have o:∀v G' H',SR Γ B G' H' σ (a8 [] env) β->ao G G'->iK B H H'->VO Γ.K B H G' H' .w (.dict []) v->Q v H':=o
 have xn:=Ext.own I.sub (o:=.dT [] 0) hp
 exact o _ _ _ (I.ext xn) (ao.refl _) (xn.hh.mov B) ⟨p,rfl,hp,I.sub.free hp,.inr ⟨([],0),au,.nil⟩⟩
end
end L2
section
namespace PyProof.Rows
open PySem PySem.Spec PySem.Calls
section
variable {prog:Program}{w:World}{A:Around}{E:@B_}{s:Shared}
def rF{Q:List Value->Shared->Prop}(hl:s.heap.IsTuple l vs.toArray)
  (h:Q vs {s with heap:=(s.heap.push (seqObj "list" #[] 0)).update s.heap.objs.size (Obj.mapSeq (· ++ vs.toArray))}) (hsz:vs.length<=sizeLine) :
  wpAny (model prog w) A (collect (.ref l)) Q E s:=by
 let⟨o,ho,hc,n,hd⟩:=id hl
 unfold collect
 refine O8 (wpAny_runValue (QN entry_proto_collect' ?_))
 refine O8 (wpAny_newList (Pa ⟨Code.quiet_builtin _ (by decide +kernel),QN entry_list_iadd' ?_⟩))
 show wpAny _ _ (Builtin.List.listExtendWith (.ref s.heap.objs.size) (.ref l) (.ref s.heap.objs.size)) _ _ {s with heap:=s.heap.push (seqObj "list" #[] 0)}
 unfold Builtin.List.listExtendWith
 have ho':(s.heap.push (seqObj "list" #[] 0)).get? l=some o:=Pb _ ho
 refine O8 (RW ⟨o,ho',hc⟩ ?_)
 have ht:(Value.type "tuple"==Value.type "tuple")=true:=by rfl
 rw[Pe (by rw[ht,Bool.or_true])]
 refine O8 (listItems_at ho' hd (O8 (listItems_at (Pl _ rfl) rfl ?_)))
 rw[Pg (by simp)]
 refine O8 (listUpdate_at (Pl _ rfl) rfl ?_ (P9 _) (by show(#[]++vs.toArray).size<=sizeLine+1;simp only[Array.size_append,PM,length_nil];omega))
 refine Pa ?_
 show wpAny (model prog w) A (do
   let o <-load s.heap.objs.size
   match o.data with
   | .seq xs _=>pure xs.toList
   |_=>unsupported "internal:collect") Q E {s with heap:=(s.heap.push (seqObj "list" #[] 0)).update s.heap.objs.size (Obj.mapSeq (· ++ vs.toArray))}
 refine O8 (wpAny_load (get?_update_seq (Pl _ rfl) _) ?_)
 show wpAny _ _ (pure ((#[]:Array Value)++vs.toArray).toList) Q E _
 rw[show((#[]:Array Value)++vs.toArray).toList=vs by simp]
 exact Pa h
def vI{Q:@B_}(hl:s.heap.IsTuple l vs.toArray)(hI:IntsAre vs ns)(h64:vs.length<64)
  (h:∀(out:Array Value) (ns':List Int),IntsAre out.toList ns'->ns'.Perm ns->ns'.Pairwise (· <= ·)->Q (.ref (s.heap.objs.size+1)) {s with heap:=sortedAll s.heap vs out}) :
  wpAny (model prog w) A (call (.builtin "sorted") [.ref l]) Q E s:=by
 refine Calls.call_function_entry kind_sorted plain_sorted entry_sorted (args_sorted1 _) ?_
 unfold Builtin.«sorted»
 refine O8 (Pa ?_)
 refine O8 (rF hl ?_ (by rw[PX];omega))
 refine O8 (wpAny_newList ?_)
 have hsz:((s.heap.push (seqObj "list" #[] 0)).update s.heap.objs.size (Obj.mapSeq (· ++ vs.toArray))).objs.size=s.heap.objs.size+1:=by
  rw[Heap.size_update,size_push']
 have hoL:(((s.heap.push (seqObj "list" #[] 0)).update s.heap.objs.size (Obj.mapSeq (· ++ vs.toArray))).push (seqObj "list" vs.toArray 0)).get? (s.heap.objs.size+1)=some (seqObj "list" vs.toArray 0):=by
  rw[<-hsz];exact Pl _ rfl
 rw[hsz]
 exact O8 (Qc (Qv slot_list_sort ⟨_,hoL,rfl⟩ entry_list_sort (list_sort_tree hoL hI h64 λout ns' a1 a2 a3=>⟨_,rfl,Pa ⟨_,rfl,h out ns' a1 a2 a3⟩⟩) (args_list_sort _)))
end
end PyProof.Rows
namespace L2
open PySem PyProof.Rows
section
variable {X:Cx}{K:Frag}{pins:List V}{σ:St}{H:Hp}{s:Shared}{E:XK}
def Fq(K:Frag):List V->Hp->VK->Prop:=λxs H Q=>∃a ns,xs= [.ref a]/\(fU K H a (ns.map V.int)\/fu K H a (ns.map V.int))/\ns.length<64/\∀l,H l=none->Q (.ref l) (upd H l (.lst ((sortI ns).map V.int)))
def zQ:cW X (.builtin "sorted") (Fq X.K):=by
 intro pins s σ H xs us Q I r h
 obtain⟨a,ns,rfl,hq,hl,q⟩:=h
 rcases hq with hq|hq
 .exact zY pins s σ H [.ref a] us Q I r ⟨a,ns,rfl,hq,hl,q⟩
 obtain⟨u,rfl,rx⟩:=vals1 r
 cases rx
 let⟨its,rv,pl,hz⟩:=I.tuple hq
 have hil:its.length=ns.length:=by rw[<-rv.length,Pc]
 refine vI pl (intsAre_of rv) (@AT) λout ns' a1 a2 a3=>?_
 obtain rfl:=nv a2 a3
 let⟨c,he⟩:=sortedAll_at s.heap its out
 have hf:H (s.heap.objs.size+1)=none:=I.hok.fresh (R8 _)
 have hz':((sortI ns).map V.int).length<=sizeLine:=by
  have:=a2.length_eq
  rw[Pc,PX];omega
 have I2:Inv X pins σ (upd H (s.heap.objs.size+1) (.lst ((sortI ns).map V.int))) {s with heap:=sortedAll s.heap its out,toks:=s.toks}:=I.laid (λ_ _=>sortedAll_old) (R8 _) (show bE X.prog X.w _ _ _ (.lst ((sortI ns).map V.int))from⟨hz',out.toList,c,vg a1,he⟩)
 exact⟨.ref _,_,I2,rfl,q _ hf⟩
def rE(d:D):Option D:=match kn d with
 |some ds=>(match kU ds with
  |some ns=>if ns.length<64 then some (.list ((sortI ns).map int))else none
  |none=>none)
 |_=>none
theorem GO:zW K (λx=>Fq K [x]) rE .w:=by
 intro B G H x dx d Q s hB bx e k
 unfold rE at e
 cases q:kn dx with
 |none=>rw[q]at e;cases e
 |some ds=>
  rw[q]at e
  dsimp only at e
  cases q2:kU ds with
  |none=>rw[q2]at e;cases e
  |some ns=>
   rw[q2]at e
   dsimp only at e
   split at e
   .rename_i hz
    cases e
    obtain⟨p,xs,rfl,hq,r⟩:=bx.seq q s
    rw[si q2]at r
    have r:=r.intsB
    subst r
    refine⟨p,ns,rfl,hq,hz,λl hl=>?_⟩
    have hh:ao H (upd H l (.lst ((sortI ns).map V.int))):=ao.new hl
    refine k _ _ _ (Ext.tups s hh) ⟨l,rfl,hl,?_,_,au,bS.ints _⟩
    unfold jc
    rw[s.free hl,au]
    exact Pg λy=>y
   .cases e
end
end L2
end
namespace L2
open PySem
section
variable {α γ:Type}
@[simp] theorem mW(a:α)(β:Int)(k:α->Int->R γ):(R.ok a β).bnd k=k a β:=rfl
@[simp] theorem MS(c:Str)(k:α->Int->R γ):(R.exc c:R α).bnd k=.exc c:=rfl
@[simp] theorem MT(k:α->Int->R γ):(R.bad:R α).bnd k=.bad:=rfl
@[simp] theorem Oa(a:α)(β:Int)(k:α->Int->R γ):(R.ok a β).okb k=k a β:=rfl
@[simp] theorem vG(a:α)(β:Int):R.of (some a) β=.ok a β:=rfl
@[simp] theorem of_none(β:Int):(R.of none β:R α)=.bad:=rfl
@[simp] theorem N1(a:α)(β:Int)(k:α->Int->SO):toS (.ok a β) k=k a β:=rfl
@[simp] theorem Nc(c:Str)(k:α->Int->SO):toS (.exc c:R α) k=.exc c:=rfl
@[simp] theorem MU(k:α->Int->SO):toS (.bad:R α) k=.bad:=rfl
end
section
variable (f fa fb fc:VF D)(t u:VF Bool)(m m':SF)(vs:List Nv)(β:Int)(env:En)(i j:Nat)(L:List Nat)
@[simp] theorem II:gv i vs β=R.of (dat vs[i]?) β:=rfl
@[simp] theorem zv(d:D):dat (some (.da d))=some d:=rfl
@[simp] theorem N2(d:D):cst d vs β=.ok d β:=rfl
@[simp] theorem OR(g:D->Option D):f1 fa g vs β=(fa vs β).bnd λx β1=>R.of (g x) β1:=rfl
@[simp] theorem OF(g:D->D->Option D):f2 fa fb g vs β=(fa vs β).bnd λx β1=>(fb vs β1).bnd λy β2=>R.of (g x y) β2:=rfl
@[simp] theorem Be:ag vs β=.ok [] β:=rfl
@[simp] theorem bz(fr:VF (List D)):ab fa fr vs β=(fa vs β).bnd λx β1=>(fr vs β1).bnd λxs β2=>.ok (x::xs) β2:=rfl
@[simp] theorem zU:mE fa vs β=(fa vs β).bnd λx β1=>R.of (Ln x) β1:=rfl
@[simp] theorem ze:tG t vs β=(t vs β).bnd λc β1=>.ok (!c) β1:=rfl
@[simp] theorem Dq:AE t u vs β=(t vs β).bnd λc β1=>if c=true then u vs β1 else .ok false β1:=rfl
@[simp] theorem vp:om t u vs β=(t vs β).bnd λc β1=>if c=true then .ok true β1 else u vs β1:=rfl
@[simp] theorem Jf(n:Bool):tN fa n vs β=(fa vs β).bnd λx β1=>.ok (if n then !xy x else xy x) β1:=rfl
@[simp] theorem NI:O3 t fa fb vs β=(t vs β).bnd λc β1=>if c=true then fa vs β1 else fb vs β1:=rfl
@[simp] theorem du(c:Bool)(h:fa vs β=.ok (.bool c) β1):df fa vs β=.ok c β1:=by unfold df;rw[h];rfl
@[simp] theorem zz:vl []= []:=rfl
@[simp] theorem vb(s:Sl):vl (s::env)=s.val::vl env:=rfl
@[simp] theorem zc(d:D):(Sl.fz d).val=.da d:=rfl
@[simp] theorem Oi(d:D):(Sl.ow d).val=.da d:=rfl
@[simp] theorem Nz:Sl.no.val=.no:=rfl
@[simp] theorem Og:Sl.bx.val=.bx:=rfl
@[simp] theorem M9:a8 [] env=env:=rfl
@[simp] theorem MK:a8 (i::L) env=a8 L (jV env i):=rfl
@[simp] theorem MW:aF m m' env β=(match m env β with
 | .nx env' β'=>m' env' β'
 |r=>r):=rfl
@[simp] theorem NV:kh L t m m' env β=toS (t (vl env) β) λc β'=>if c=true then m (a8 L env) β' else m' (a8 L env) β':=rfl
@[simp] theorem mj:bJ f env β=toS (f (vl env) β) λd β'=>.rt d false β':=rfl
@[simp] theorem Ep:k6 f env β=toS (f (vl env) β) λd β'=>.rt d true β':=rfl
@[simp] theorem N3:nt env β=.nx env β:=rfl
@[simp] theorem jz:bp i L f env β=toS (f (vl env) β) λd β'=>.nx ((a8 L env).set i (.fz d)) β':=rfl
@[simp] theorem wA:fE i L f env β=toS (f (vl env) β) λd β'=>.nx ((a8 L env).set i (.ow d)) β':=rfl
@[simp] theorem LY:t9 L f env β=toS (f (vl env) β) λ_ β'=>.nx (a8 L env) β':=rfl
end
def aI{m m':SF}{env env':En}{β β':Int}(h:m env β=.nx env' β'):aF m m' env β=m' env' β':=by unfold aF;rw[h]
def kQ{m m':SF}{env:En}{β β':Int}(h:m env β=.rt d b β'):aF m m' env β=.rt d b β':=by unfold aF;rw[h]
def lN{L:List Nat}{t:VF Bool}{m m':SF}{env:En}{β β':Int}(h:t (vl env) β=.ok true β'):kh L t m m' env β=m (a8 L env) β':=by unfold kh;rw[h];rfl
def lY{L:List Nat}{t:VF Bool}{m m':SF}{env:En}{β β':Int}(h:t (vl env) β=.ok false β'):kh L t m m' env β=m' (a8 L env) β':=by unfold kh;rw[h];rfl
def aC{F:List D->FR}{vs:List Nv}{β β1:Int}(h:fr vs β=.ok ds β1)(e:F ds=.ok d b):az F fr vs β=.ok d β1:=by unfold az;rw[h];dsimp only[R.bnd];rw[e]
def yn{F:List D->FR}{vs:List Nv}{β β1:Int}(h:fr vs β=.ok ds β1)(e:F ds=.ok d true):lq F fr vs β=.ok d β1:=by unfold lq;rw[h];dsimp only[R.bnd];rw[e]
def b9{fa:VF D}{g:D->Option D}{vs:List Nv}{β β1:Int}(h:fa vs β=.ok x β1)(e:g x=some d):f1 fa g vs β=.ok d β1:=by unfold f1;rw[h];dsimp only[R.bnd];rw[e];rfl
def aK{fa fb:VF D}{g:D->D->Option D}{vs:List Nv}{β β1 β2:Int}(h:fa vs β=.ok x β1)(h':fb vs β1=.ok y β2)(e:g x y=some d):f2 fa fb g vs β=.ok d β2:=by unfold f2;rw[h];dsimp only[R.bnd];rw[h'];dsimp only[R.bnd];rw[e];rfl
def eO{i:Nat}{F:List D->Int->FB}{vs:List Nv}{β β1 β2:Int}(hi:yU vs i=true)(h:fr vs β=.ok ds β1)(e:F ds β1=.ok d b β2):ij i F fr vs β=.ok d β2:=by unfold ij;rw[Pe hi,h];dsimp only[R.bnd];rw[e]
def sz(n:Nat)(h:n<=1000):n<=sizeLine:=by rw[PX];omega
def L7(n:Nat)(h:n<=1000):n<sizeLine:=by rw[PX];omega
def kB{vs:List Nv}{β β1:Int}(h:fr vs β=.ok ds β1)(hz:ds.length<=1000):bt fr vs β=.ok (.tuple ds) β1:=by unfold bt;rw[h];exact Pe (sz _ hz)
def dH{vs:List Nv}{β β1:Int}(h:fr vs β=.ok ds β1)(hz:ds.length<=1000):cz fr vs β=.ok (.list ds) β1:=by unfold cz;rw[h];exact Pe (sz _ hz)
def zV{i:Nat}{env:En}{β:Int}{g:List D->Option (List D)}(h:env[i]? =some (.ow (.list ds)))(e:g ds=some es):J8 i env β g=.nx (env.set i (.ow (.list es))) β:=by unfold J8;rw[h];dsimp only;rw[e]
def vk{i:Nat}{L:List Nat}{f:VF D}{env:En}{β β':Int}(hi:env[i]? =some (.ow (.list ds)))(hf:f (vl env) β=.ok d β')(hL:(a8 L env)[i]? =some (.ow (.list ds)))(hz:ds.length<=1000):mV i L f env β=.nx ((a8 L env).set i (.ow (.list (ds++[d])))) β':=by
 unfold mV
 rw[Pe (by rw[hi];rfl),hf]
 exact zV hL (Pe (L7 _ hz))
def yH{i j:Nat}{L:List Nat}{f:VF D}{env:En}{β β':Int}(hi:env[i]? =some (.ow (.list ds)))(hj:env[j]? =some (.ow (.list es)))(hij:i≠j)(hf:f (vl env) β=.ok k β')(hL:a8 L env=env)(hp:CL es k=some (d,es'))(hz:ds.length<=1000):mI i j L f env β=.nx ((env.set j (.ow (.list es'))).set i (.ow (.list (ds++[d])))) β':=by
 unfold mI
 rw[Pe ⟨by rw[hi];rfl,by rw[hj];rfl,hij⟩,hf,hL]
 dsimp only[toS]
 rw[hj]
 dsimp only
 rw[hp]
 exact zV (by rw[PH (Ne.symm hij)];exact hi) (Pe (L7 _ hz))
def Dm{i:Nat}{fe fi:VF D}{env:En}{β β1 β2:Int}(he:fe (vl env) β=.ok d β1)(h1:(a8 Le env)[i]? =some (.ow (.list ds)))(hi:fi (vl env) β1=.ok (.int k) β2)(h2:(a8 (Le++Li) env)[i]? =some (.ow (.list ds)))(hk:wW ds.length k=some n):xg i Le Li fe fi env β=.nx ((a8 (Le++Li) env).set i (.ow (.list (ds.set n d)))) β2:=by
 unfold xg
 rw[he]
 dsimp only[toS]
 rw[Pe (by rw[h1];rfl),hi]
 exact zV h2 (by dsimp only;rw[hk];rfl)
theorem q8{t:Tg}{fe:VF D}{vs:List Nv}(g:D->Bool)(h:D->D):∀{ds:List D} {β:Int},(∀d,d∈ds->∃vs1,k8 t d vs=some vs1/\ft vs1 β=.ok (g d) β/\(g d=true->fe vs1 β=.ok (h d) β))->eQ t ft fe vs ds β=.ok ((ds.filter g).map h) β
 | [],β,_=>rfl
 |d::ds,β,hh=>by
  obtain⟨vs1,e1,e2,e3⟩:=hh d (Pq ..)
  have ih:=q8 g h λd' hd=>hh d' (Pk _ hd)
  unfold eQ
  rw[e1]
  dsimp only
  rw[e2]
  dsimp only[R.okb]
  cases q:g d with
  |true=>
   rw[Pe rfl,e3 q]
   dsimp only
   rw[ih,List.filter_cons_of_pos q];rfl
  |false=>
   rw[Pg PZ,ih,List.filter_cons_of_neg (by rw[q];exact PZ)]
def yG{own:Nat}{ixs:List Nat}{t:Tg}{ft:VF Bool}{fe:VF D}{vs:List Nv}{β β1:Int}(g:D->Bool)(h:D->D)(hi:fi vs β=.ok ds β1)(hz:ds.length<=1000)
  (hh:∀d,d∈ds->∃vs1,k8 t d (fO own ixs vs)=some vs1/\ft vs1 β1=.ok (g d) β1/\(g d=true->fe vs1 β1=.ok (h d) β1)):aM own ixs t fi ft fe vs β=.ok (.list ((ds.filter g).map h)) β1:=by
 unfold aM
 rw[hi]
 dsimp only[R.bnd]
 rw[Pe (sz _ hz),q8 g h hh];rfl
def BM{own:Nat}{ixs:List Nat}{t:Tg}{fe:VF D}{vs:List Nv}{β β1:Int}(h:D->D)(hi:fi vs β=.ok ds β1)(hz:ds.length<=1000)
  (hh:∀d,d∈ds->∃vs1,k8 t d (fO own ixs vs)=some vs1/\fe vs1 β1=.ok (h d) β1):aM own ixs t fi kJ fe vs β=.ok (.list (ds.map h)) β1:=by
 rw[yG (ft:=kJ) (λ_=>true) h hi hz λd hd=>let⟨vs1,e1,e2⟩:=hh d hd;⟨vs1,e1,rfl,λ_=>e2⟩]
 rw[List.filter_eq_self.mpr (λ_ _=>rfl)]
def cG{α:Type}{own:Nat}{ixs:List Nat}{t:Tg}{fi:VF (List D)}{fe:VF D}{vs:List Nv}{β β1:Int}{l:List α}{e:α->D}(h:α->D)(hi:fi vs β=.ok (l.map e) β1)(hz:l.length<=1000)
  (hh:∀x,x∈l->∃vs1,k8 t (e x) (fO own ixs vs)=some vs1/\fe vs1 β1=.ok (h x) β1):aM own ixs t fi kJ fe vs β=.ok (.list (l.map h)) β1:=by
 unfold aM
 rw[hi]
 dsimp only[R.bnd]
 rw[Pe (sz _ (by rw[Pc];exact hz))]
 have key:∀m:List α,(∀x,x∈m->x∈l)->eQ t kJ fe (fO own ixs vs) (m.map e) β1=.ok (m.map h) β1:=by
  intro m
  induction m with
  |nil=>intro _;rfl
  |cons x m ih=>
   intro hm
   let⟨vs1,e1,e2⟩:=hh x (hm x (Pq ..))
   rw[PL]
   unfold eQ
   rw[e1]
   dsimp only
   show(R.ok true β1).okb _=_
   dsimp only[R.okb]
   rw[Pe rfl,e2]
   dsimp only
   rw[ih λy hy=>hm y (Pk _ hy)];rfl
 rw[key l λ_ h=>h];rfl
def b7{α:Type}{own:Nat}{ixs:List Nat}{t:Tg}{fi:VF (List D)}{ft:VF Bool}{fe:VF D}{vs:List Nv}{β β1:Int}{l:List α}{e:α->D}(g:α->Bool)(h:α->D)(hi:fi vs β=.ok (l.map e) β1)(hz:l.length<=1000)
  (hh:∀x,x∈l->∃vs1,k8 t (e x) (fO own ixs vs)=some vs1/\ft vs1 β1=.ok (g x) β1/\(g x=true->fe vs1 β1=.ok (h x) β1)):aM own ixs t fi ft fe vs β=.ok (.list ((l.filter g).map h)) β1:=by
 unfold aM
 rw[hi]
 dsimp only[R.bnd]
 rw[Pe (sz _ (by rw[Pc];exact hz))]
 have key:∀m:List α,(∀x,x∈m->x∈l)->eQ t ft fe (fO own ixs vs) (m.map e) β1=.ok ((m.filter g).map h) β1:=by
  intro m
  induction m with
  |nil=>intro _;rfl
  |cons x m ih=>
   intro hm
   let⟨vs1,e1,e2,e3⟩:=hh x (hm x (Pq ..))
   have ih:=ih λy hy=>hm y (Pk _ hy)
   rw[PL]
   unfold eQ
   rw[e1]
   dsimp only
   rw[e2]
   dsimp only[R.okb]
   cases q:g x with
   |true=>
    rw[Pe rfl,e3 q]
    dsimp only
    rw[ih,List.filter_cons_of_pos q];rfl
   |false=>
    rw[Pg PZ,ih,List.filter_cons_of_neg (by rw[q];exact PZ)]
 rw[key l λ_ h=>h];rfl
theorem dq{t:Tg}{m:SF}(Pv:Nat->En->Int->Prop):∀{ds:List D} {k:Nat} {env:En} {β:Int},Pv k env β->
  (∀i d env β,ds[i]? =some d->Pv (k+i) env β->∃env1,hJ t d env=some env1/\∃env2 β2,m env1 β=.nx env2 β2/\Pv (k+i+1) env2 β2)->∃env' β',nE t m ds env β=.nx env' β'/\Pv (k+ds.length) env' β'
 | [],k,env,β,h0,_=>⟨env,β,rfl,h0⟩
 |d::ds,k,env,β,h0,hs=>by
  obtain⟨env1,e1,env2,β2,e2,h1⟩:=hs 0 d env β rfl h0
  obtain⟨env',β',e3,h2⟩:=dq Pv h1 λi d' en be hi hp=>by
   have:=hs (i+1) d' en be (by simpa using hi) (by rw[show k+(i+1)=k+1+i by omega];exact hp)
   rw[show k+(i+1)+1=k+1+i+1 by omega]at this
   exact this
  refine⟨env',β',?_,by rw[PR,show k+(ds.length+1)=k+1+ds.length by omega];exact h2⟩
  unfold nE
  rw[e1]
  dsimp only
  rw[e2]
  exact e3
theorem kf{L:List Nat}{t:VF Bool}{m:SF}(Pv:Nat->En->Int->Prop)(Dn:En->Int->Prop):∀{n k:Nat} {env:En} {β:Int},k<n->Pv k env β->
  (∀k env β,Pv k env β->∃c β1,t (vl env) β=.ok c β1/\((c=false/\Dn (a8 L env) β1)\/(c=true/\∃env2 β2 k',m (a8 L env) β1=.nx env2 β2/\k'<k/\Pv k' env2 β2)))->∃env' β',fX L t m n env β=.nx env' β'/\Dn env' β'
 | 0,k,env,β,hk,_,_=>@AT
 |n+1,k,env,β,hk,h0,hs=>by
  obtain⟨c,β1,e1,hc⟩:=hs k env β h0
  unfold fX
  rw[e1]
  dsimp only[toS]
  rcases hc with⟨rfl,hd⟩|⟨rfl,env2,β2,k',e2,hl,h1⟩
  .exact⟨_,_,rfl,hd⟩
  .rw[Pe rfl,e2]
   exact kf Pv Dn (@AT) h1 hs
end L2
namespace RM
open PySem L2
def sq:SF:=(bJ (gR (f1 (gv 0) (jL "int")) (f1 (f1 (gv 0) (jL "bool")) Cj)))
def sv(b6:List D->FR):SF:=(bJ (gR (az b6 (ab (gv 0) ag)) (nF (cst (.int 0)) (gv 0) (gv 1) IK Lq)))
def uq(b6:List D->FR):SF:=(bJ (gR (az b6 (ab (gv 0) ag)) (nF (cst (.int 1)) (gv 0) (cst (.int 8)) IK IK)))
def uD(fx:List D->FR):SF:=(aF (kh ([]++([]++[])) (om (tG (mE (f1 (gv 0) (jL "tuple")))) (df (f2 (f1 (gv 0) dr) (cst (.int 2)) (cR true))))
 (bJ (cst (.bool false)))
 nt)
 (bJ (gR (az fx (ab (f2 (gv 0) (cst (.int 0)) cT) (ab (gv 1) ag))) (az fx (ab (f2 (gv 0) (cst (.int 1)) cT) (ab (gv 1) ag))))))
def h9:SF:=(k6 (aM 1 [0] (.nm 0) (bP (f2 (gv 0) (gv 0) cP)) kJ (bt (ab (f2 (gv 0) (gv 1) CT) (ab (f2 (gv 0) (gv 1) nh) ag)))))
def sf:SF:=(bJ (f1 (aM 2 [] (.two 0 1) (bV (gv 0)) kJ (f2 (gv 0) (gv 1) (cR false))) (g7 λbs=>bs.any id)))
def iW(iL iJ jU fZ:List D->FR):SF:=(aF (kh ([]++([]++[])) (om (tG (mE (f1 (gv 0) (jL "tuple")))) (df (f2 (f1 (gv 0) dr) (cst (.int 2)) (cR true))))
 (bJ (cst (.bool false)))
 nt)
 (aF (bp 1 ([]++[]) (f2 (gv 0) (cst (.int 0)) cT))
 (aF (bp 2 ([]++[]) (f2 (gv 0) (cst (.int 1)) cT))
 (aF (kh (([1]++[])++[]) (om (tG (mE (az iL (ab (gv 1) ag)))) (tG (mE (f1 (gv 2) (jL "tuple")))))
 (bJ (cst (.bool false)))
 nt)
 (aF (kh ([]++[1]) (tG (mE (f1 (aM 1 [1] (.nm 0) (bV (gv 2)) kJ (az iJ (ab (gv 0) (ab (gv 1) ag)))) (g7 λbs=>bs.all id))))
 (bJ (cst (.bool false)))
 nt)
 (bJ (gR (f2 (gv 2) (az jU (ab (gv 1) (ab (gv 2) ag))) (cR false)) (f1 (az fZ (ab (gv 2) ag)) Cj))))))))
def pW:SF:=(bJ (gR (f2 (gv 1) (gv 2) (cR true)) (gR (f2 (bt (ab (gv 1) (ab (gv 2) ag))) (f2 (gv 0) (cst (.int 1)) cT) (FW true)) (f2 (bt (ab (gv 2) (ab (gv 1) ag))) (f2 (gv 0) (cst (.int 1)) cT) (FW true)))))
def gP:SF:=(aF (kh ([]++[]) (df (f2 (gv 1) (f1 (gv 0) dr) Lq))
 (bJ (f2 (gv 0) (gv 1) cT))
 nt)
 (bJ (cst (.int 0))))
def kO:SF:=(aF (bp 2 [] (cz (Oz [48271,69621,16807,39373,30269,40014,40692,50021,61687,71993,83869,95561,30307]))) (aF (bp 3 ((((([]++[])++[])++([]++([]++[])))++([]++[]))++([]++([]++[]))) (f2 (f2 (f2 (f2 (f2 (gv 0) (cst (.int 2147483647)) nh) (cst (.int 12345)) bO) (f2 (gv 2) (f2 (gv 1) (cst (.int 13)) nh) cT) cP) (f2 (cst (.int 977)) (gv 1) cP) bO) (f2 (cst (.int 7919)) (f2 (gv 1) (cst (.int 13)) CT) cP) bO))
 (aF (bp 3 ([]++[]) (f2 (gv 3) (cst (.int 1000000007)) nh))
 (bJ (f2 (f2 (f2 (f2 (gv 3) (gv 3) cP) (f2 (cst (.int 48271)) (gv 1) cP) bO) (cst (.int 1000000007)) nh) (cst (.int 7)) CT)))))
def kI(fC gp:List D->FR):SF:=(aF (bp 2 ([0]++([1]++[])) (az fC (ab (gv 0) (ab (gv 1) ag))))
 (aF (kh (([]++[])++[]) (df (f2 (f2 (gv 2) (cst (.int 2)) nh) (cst (.int 0)) (cR false)))
 (k6 (cz (ab (f2 (f1 (gv 2) GY) (cst (.int 2)) CT) ag)))
 nt)
 (aF (bp 3 [] (cst (.int 0)))
 (aF (dg (.nm 4) [] (bP (cst (.int 40)))
 (bp 3 (([]++[])++([2]++([4]++[]))) (f2 (f2 (gv 3) (cst (.int 142857143)) cP) (az gp (ab (gv 2) (ab (gv 4) ag))) bO)))
 (k6 (cz (ab (gv 3) ag)))))))
def fg(aB:List D->Int->FB):SF:=(aF (fE 2 [] (f1 (gv 1) Jc))
 (aF (fE 3 [] (cz ag))
 (aF (fX ([]++[]) (df (f2 (gv 2) (cz ag) (cR true)))
 (mI 3 2 ([]++[]) (ij 0 aB (ab (f1 (gv 2) dr) ag))) 1000)
 (pY 3))))
noncomputable def gG:SF:=(aF (bp 1 [] (f1 (gv 0) dk))
 (aF (bp 2 [] (f1 (cst (.int 1)) BK))
 (aF (fX ([]++[]) (df (f2 (gv 2) (f1 (gv 1) dr) (cR true)))
 (aF (bp 2 [] (f1 (gv 1) dr))
 (aF (bp 3 [] (cz ag))
 (aF (dg (.two 4 5) [1] (bV (gv 1))
 (bp 3 ([]++([]++[4])) (f2 (gv 3) (aM 2 [5,4] (.two 0 1) (bV (gv 1)) (df (f2 (gv 0) (gv 2) (cR false))) (bt (ab (gv 3) (ab (gv 1) ag)))) jF)))
 (bp 1 ([]++[]) (f1 (f2 (gv 1) (gv 3) jF) dk))))) 1000)
 (bJ (f1 (gv 1) fJ)))))
def iF(c5:List D->FR)(aB aA:List D->Int->FB):SF:=(aF (bp 2 ([]++([1]++[])) (f2 (cst (.int 1)) (ij 0 aB (ab (gv 1) ag)) bO))
 (aF (bp 3 ([]++[]) (ij 0 aA (ab (f1 (gv 2) bM) ag)))
 (aF (bp 4 (([]++([]++([]++([]++[]))))++([]++[])) (f2 (cz (ab (cst (.int 2)) (ab (cst (.int 3)) (ab (cst (.int 4)) (ab (cst (.int 7)) ag))))) (ij 0 aB (ab (cst (.int 4)) ag)) cT))
 (aF (fE 5 [] (cz ag))
 (aF (dg (.nm 6) [] (bP (gv 2))
 (dg (.nm 7) (([]++[])++[]) (tZ (f2 (gv 6) (cst (.int 1)) bO) (gv 2))
 (kh (([4]++[])++[]) (df (f2 (ij 0 aB (ab (gv 4) ag)) (cst (.int 0)) (cR false)))
 (mV 5 (([]++[])++(([]++[])++[])) (bt (ab (f2 (gv 3) (gv 6) cT) (ab (f2 (gv 3) (gv 7) cT) ag))))
 nt)))
 (bJ (bt (ab (gv 2) (ab (az c5 (ab (gv 5) ag)) ag)))))))))
def nW:SF:=(bJ (gR (f2 (gv 1) (gv 2) (cR true)) (gR (f2 (bt (ab (gv 1) (ab (gv 2) ag))) (f2 (gv 0) (cst (.int 1)) cT) (FW true)) (f2 (bt (ab (gv 2) (ab (gv 1) ag))) (f2 (gv 0) (cst (.int 1)) cT) (FW true)))))
def qp(bw cQ fG:List D->FR):SF:=(aF (t9 ([0]++[]) (az bw (ab (gv 0) ag)))
 (k6 (aM 2 [0] (.two 0 1) (bV (az cQ (ab (f2 (gv 0) (cst (.int 0)) cT) ag))) (mE (az fG (ab (gv 2) (ab (gv 0) (ab (gv 1) ag))))) (bt (ab (gv 0) (ab (gv 1) ag))))))
def wX:D->Bool
 | .int _=>true
 |_=>false
def lQ:List D->FR
 | [d]=>if gN d=true then .bad else .ok (.bool (wX d)) false
 |_=>.bad
def oB{d:D}(h:gN d=false):lQ [d]=.ok (.bool (wX d)) false:=Pg (by rw[h];exact PZ)
def Az(ds:List D)(h:lQ ds≠.bad):a9 1 1 sq ds=lQ ds:=by
 unfold lQ at h
 split at h
 .rename_i d
  cases q:gN d with
  |true=>rw[q]at h;exact absurd rfl h
  |false=>
   rw[oB q]
   have e1:jL "int" d=some (.bool (C3 d "int")):=by unfold jL;rw[q];rfl
   have e2:jL "bool" d=some (.bool (C3 d "bool")):=by unfold jL;rw[q];rfl
   show fin (bJ (gR (f1 (gv 0) (jL "int")) (f1 (f1 (gv 0) (jL "bool")) Cj)) [.fz d] 0)=_
   unfold bJ gR f1 gv
   simp only[vb,zz,zc,List.getElem?_cons_zero,zv,vG,mW,e1,e2]
   cases d<;>rfl
 .exact absurd rfl h
def El(d:D)(n:Int):Bool:=match d with
 | .int i=>decide (0<=i/\i<n)
 |_=>false
def j8:List D->FR
 | [d,.int n]=>if gN d=true then .bad else .ok (.bool (El d n)) false
 |_=>.bad
def HH{d:D}{n:Int}(h:gN d=false):j8 [d,.int n]=.ok (.bool (El d n)) false:=Pg (by rw[h];exact PZ)
def xp{i lo n:Int}{vs:List Nv}{β:Int}{fa fb fc:VF D}{g':D->D->Option D}{q:Bool}(ha:fa vs β=.ok (.int lo) β)(hb:fb vs β=.ok (.int i) β)(hc:fc vs β=.ok (.int n) β)(hq:g' (.int i) (.int n)=some (.bool q)):nF fa fb fc IK g' vs β=.ok (.bool (decide (lo<=i)&&q)) β:=by
 unfold nF
 rw[ha];dsimp only[R.bnd];rw[hb];dsimp only[R.bnd]
 show(match(some (PyData.bool (decide (lo<=i))):Option D)with
  |some (.bool true)=>_
  |some (.bool false)=>_
  |_=>_)=_
 by_cases h:lo<=i
 .rw[Pu h]
  dsimp only
  rw[hc]
  dsimp only[R.bnd]
  rw[hq];rfl
 .rw[Px h];rfl
def IC(ds:List D)(h:j8 ds≠.bad):a9 2 2 (sv lQ) ds=j8 ds:=by
 unfold j8 at h
 split at h
 .rename_i d n
  cases q:gN d with
  |true=>rw[q]at h;exact absurd rfl h
  |false=>
   rw[HH q]
   show fin (bJ (gR (az lQ (ab (gv 0) ag)) (nF (cst (.int 0)) (gv 0) (gv 1) IK Lq)) [.fz d,.fz (.int n)] 0)=_
   unfold bJ gR az
   simp only[vb,zz,zc,bz,Be,II,List.getElem?_cons_zero,zv,vG,mW,oB q]
   cases d with
   |int i=>
    rw[xp rfl rfl rfl rfl]
    show FR.ok (.bool (decide (0<=i)&&decide (i<n))) false=.ok (.bool (decide (0<=i/\i<n))) false
    rw[Bool.decide_and]
   |_=>rfl
 .exact absurd rfl h
def Ji(d:D):Bool:=match d with
 | .int i=>decide (1<=i/\i<=8)
 |_=>false
def mP:List D->FR
 | [d]=>if gN d=true then .bad else .ok (.bool (Ji d)) false
 |_=>.bad
def Es{d:D}(h:gN d=false):mP [d]=.ok (.bool (Ji d)) false:=Pg (by rw[h];exact PZ)
def KI(ds:List D)(h:mP ds≠.bad):a9 1 1 (uq lQ) ds=mP ds:=by
 unfold mP at h
 split at h
 .rename_i d
  cases q:gN d with
  |true=>rw[q]at h;exact absurd rfl h
  |false=>
   rw[Es q]
   show fin (bJ (gR (az lQ (ab (gv 0) ag)) (nF (cst (.int 1)) (gv 0) (cst (.int 8)) IK IK)) [.fz d] 0)=_
   unfold bJ gR az
   simp only[vb,zz,zc,bz,Be,II,List.getElem?_cons_zero,zv,vG,mW,oB q]
   cases d with
   |int i=>
    rw[xp rfl rfl rfl rfl]
    show FR.ok (.bool (decide (1<=i)&&decide (i<=8))) false=.ok (.bool (decide (1<=i/\i<=8))) false
    rw[Bool.decide_and]
   |_=>rfl
 .exact absurd rfl h
def pairF:List D->FR
 | [d,.int n]=>(match sE d with
  |some p=>.ok (.bool (decide ((0<=p.1/\p.1<n)/\(0<=p.2/\p.2<n)))) false
  |none=>.bad)
 |_=>.bad
def D0(p:Pr)(n:Int):pairF [ax p,.int n]=.ok (.bool (decide ((0<=p.1/\p.1<n)/\(0<=p.2/\p.2<n)))) false:=rfl
def Kh(ds:List D)(h:pairF ds≠.bad):a9 2 2 (uD j8) ds=pairF ds:=by
 unfold pairF at h
 split at h
 .rename_i d n
  cases q:sE d with
  |none=>rw[q]at h;exact absurd rfl h
  |some p=>
   obtain rfl:=xJ q
   rw[D0]
   let⟨a,b⟩:=p
   show fin (toS (gR (az j8 (ab (f2 (gv 0) (cst (.int 0)) cT) (ab (gv 1) ag))) (az j8 (ab (f2 (gv 0) (cst (.int 1)) cT) (ab (gv 1) ag))) [.da (.tuple [.int a,.int b]),.da (.int n)] 0) λd β'=>.rt d false β')=_
   have e1:az j8 (ab (f2 (gv 0) (cst (.int 0)) cT) (ab (gv 1) ag)) [.da (.tuple [.int a,.int b]),.da (.int n)] 0=.ok (.bool (decide (0<=a/\a<n))) 0:=rfl
   have e2:az j8 (ab (f2 (gv 0) (cst (.int 1)) cT) (ab (gv 1) ag)) [.da (.tuple [.int a,.int b]),.da (.int n)] 0=.ok (.bool (decide (0<=b/\b<n))) 0:=rfl
   unfold gR
   rw[e1]
   dsimp only[R.bnd]
   by_cases c:0<=a/\a<n
   .rw[Pu c,e2]
    show FR.ok (.bool (decide (0<=b/\b<n))) false=.ok (.bool (decide ((0<=a/\a<n)/\(0<=b/\b<n)))) false
    simp[c]
   .rw[Px c]
    show FR.ok (.bool false) false=.ok (.bool (decide ((0<=a/\a<n)/\(0<=b/\b<n)))) false
    simp[c]
 .exact absurd rfl h
def aE(n:Nat)(l:List Pr):D:=.tuple [.int n,.tuple (l.map ax)]
open Classical in
noncomputable def tR(f:Nat->List Pr->FR):D->FR:=λd=>if h:∃nl:Nat×List Pr,d=aE nl.1 nl.2/\OM.Ord nl.1 nl.2 then f (Classical.choose h).1 (Classical.choose h).2 else .bad
def Gg{p q:Pr}(h:ax p=ax q):p=q:=by
 let⟨a,b⟩:=p
 let⟨c,d⟩:=q
 unfold ax at h
 simp at h
 rw[h.1,h.2]
theorem pJ:∀{l m:List Pr},l.map ax=m.map ax->l=m
 | [],[],_=>rfl
 | [],_::_,h=>by cases h
 |_::_,[],h=>by cases h
 |p::l,q::m,h=>by
  simp only[PL,List.cons.injEq]at h
  rw[Gg h.1,pJ h.2]
def Fp{n m:Nat}{l k:List Pr}(h:aE n l=aE m k):n=m/\l=k:=by
 unfold aE at h
 simp only[PyData.tuple.injEq,List.cons.injEq,int.injEq,and_true]at h
 exact⟨@AT,pJ h.2⟩
def xY{f:Nat->List Pr->FR}{n:Nat}{l:List Pr}(O:OM.Ord n l):tR f (aE n l)=f n l:=by
 unfold tR
 have h:∃nl:Nat×List Pr,aE n l=aE nl.1 nl.2/\OM.Ord nl.1 nl.2:=⟨(n,l),rfl,O⟩
 rw[dif_pos h]
 let⟨e,_⟩:=Classical.choose_spec h
 let⟨e1,e2⟩:=Fp e
 rw[<-e1,<-e2]
def xT{f:Nat->List Pr->FR}{d:D}(h:tR f d≠.bad):∃n l,d=aE n l/\OM.Ord n l:=by
 unfold tR at h
 by_cases q:∃nl:Nat×List Pr,d=aE nl.1 nl.2/\OM.Ord nl.1 nl.2
 .let⟨nl,e,O⟩:=q;exact⟨nl.1,nl.2,e,O⟩
 .rw[dif_neg q]at h;exact absurd rfl h
noncomputable def dO:List D->FR
 | [.int n,d]=>(match kn d with
  |some ds=>(match gx ds with
   |some ps=>(open Classical in if 1<=n/\n<=8/\OM.Wn n.toNat ps then .ok (.tuple ((OM.cy n.toNat (OM.Tr (OM.Mem ps))).map ax)) false else .bad)
   |none=>.bad)
  |none=>.bad)
 |_=>.bad
def D5{n:Nat}{ps:List Pr}(h1:1<=n)(h8:n<=8)(w:OM.Wn n ps):dO [.int n,.tuple (ps.map ax)]=.ok (.tuple ((OM.cy n (OM.Tr (OM.Mem ps))).map ax)) false:=by
 unfold dO
 simp only[kn,fy]
 rw[Pe ⟨@AT,@AT,by rw[Qe];exact w⟩,Qe]
def kS:List D->FR
 | [.tuple ds]=>(match gx ds with
  |some ps=>if ps.length<=1000 then .ok (.bool (ps.any λp=>decide (p.1=p.2))) false else .bad
  |none=>.bad)
 |_=>.bad
theorem l7{α:Type}(f:α->Bool):∀l:List α,lI (l.map λx=>PyData.bool (f x))=some (l.map f)
 | []=>rfl
 |x::l=>by
  show(lI (l.map λx=>PyData.bool (f x))).map (f x :: ·)=_
  rw[l7 f l];rfl
def Kz(ds:List D)(h:kS ds≠.bad):a9 1 1 sf ds=kS ds:=by
 unfold kS at h
 split at h
 .rename_i ds
  cases q:gx ds with
  |none=>rw[q]at h;exact absurd rfl h
  |some ps=>
   rw[q]at h
   dsimp only at h
   by_cases hz:ps.length<=1000
   case neg=>rw[Pg hz]at h;exact absurd rfl h
   obtain rfl:=jR q
   have e:kS [.tuple (ps.map ax)]=.ok (.bool (ps.any λp=>decide (p.1=p.2))) false:=by
    unfold kS;simp only[fy];rw[Pe hz]
   rw[e]
   have ec:aM 2 [] (.two 0 1) (bV (gv 0)) kJ (f2 (gv 0) (gv 1) (cR false)) [.da (.tuple (ps.map ax))] 0=.ok (.list (ps.map λp=>PyData.bool (decide (p.1=p.2)))) 0:=by
    exact cG (e:=ax) (λp=>PyData.bool (decide (p.1=p.2))) rfl hz λp hp=>⟨_,rfl,rfl⟩
   show fin (toS ((aM 2 [] (.two 0 1) (bV (gv 0)) kJ (f2 (gv 0) (gv 1) (cR false)) [.da (.tuple (ps.map ax))] 0).bnd λx β1=>R.of (g7 (λbs=>bs.any id) x) β1) λd β'=>.rt d false β')=_
   rw[ec]
   simp only[mW,g7]
   rw[l7]
   simp[fin,List.any_map]
 .exact absurd rfl h
def tX(p:Pr):SeqAt.shaped (ax p)=true:=rfl
theorem qe:∀l:List Pr,PyData.canLayAll0 (l.map ax)=true
 | []=>rfl
 |p::l=>by
  show((ax p).canLay0&&PyData.canLayAll0 (l.map ax))=true
  rw[qe l];rfl
theorem qr:∀l:List Pr,PyData.depthAll (l.map ax)<=1
 | []=>by show(0:Nat)<=1;omega
 |p::l=>by
  show max (ax p).depth (PyData.depthAll (l.map ax))<=1
  have h1:(ax p).depth=1:=by simp[ax,PyData.depth,PyData.depthAll]
  have h2:=qr l
  omega
def rK(l:List Pr):SeqAt.shaped (.tuple (l.map ax))=true:=by
 unfold SeqAt.shaped
 have h1:(PyData.tuple (l.map ax)).canLay0=true:=by simp only[PyData.canLay0];exact qe l
 have h2:(PyData.tuple (l.map ax)).depth<=64:=by simp only[PyData.depth];have:=qr l;omega
 rw[h1,Pu h2];rfl
def rW(l:List Pr):SeqAt.shaped (.list (l.map ax))=true:=by
 unfold SeqAt.shaped
 have h1:(PyData.list (l.map ax)).canLay0=true:=by simp only[PyData.canLay0];exact qe l
 have h2:(PyData.list (l.map ax)).depth<=64:=by simp only[PyData.depth];have:=qr l;omega
 rw[h1,Pu h2];rfl
def FD(p q:Pr):PyData.eqv (ax p) (ax q)=decide (p=q):=by
 let⟨a,b⟩:=p
 let⟨c,d⟩:=q
 simp only[ax,PyData.eqv,PyData.eqvAll,Bool.and_true]
 rw[Ra]
 simp
theorem qi:∀l m:List Pr,PyData.eqvAll (l.map ax) (m.map ax)=decide (l=m)
 | [],[]=>rfl
 | [],_::_=>rfl
 |_::_,[]=>rfl
 |p::l,q::m=>by
  show(PyData.eqv (ax p) (ax q)&&PyData.eqvAll (l.map ax) (m.map ax))=_
  rw[FD,qi l m,Ra]
  simp
def Bf{n:Nat}{l:List Pr}(O:OM.Ord n l):l.length<64:=by
 have h8:=O.hi
 have e:=O.closed
 by_cases h:l.length<64
 .exact h
 .exfalso
  have h1:l.length<=n*n:=by rw[<-e];exact OM.ER _ _
  have h2:n*n<=64:=QL h8 h8
  have hn:n=8:=by
   by_cases h7:n<=7
   .have:n*n<=7*7:=QL h7 h7
    omega
   .omega
  have hlen:l.length=n*n:=by subst hn;omega
  have hg:l=OM.bF n:=by
   refine OM.sub_eq O.ris (OM.fL n) (λx hx=>OM.bh.mpr (O.wn x hx)) ?_
   rw[hlen];unfold OM.bF;simp
  have:((0:Int),(0:Int))∈l:=by rw[hg];exact OM.bh.mpr ⟨⟨@AT,@AT ⟩,@AT,@AT ⟩
  exact O.irr 0 this
def Fm{n:Nat}(h1:1<=n)(h8:n<=8):mP [.int n]=.ok (.bool true) false:=by
 rw[Es rfl]
 show FR.ok (.bool (decide (1<=(n:Int)/\(n:Int)<=8))) false=_
 rw[Pu (@AT)]
def wI(neg:Bool)(l m:List Pr):cR neg (.tuple (l.map ax)) (.tuple (m.map ax))=some (.bool (if neg then !decide (l=m)else decide (l=m))):=by
 unfold cR
 rw[rK,rK]
 simp only[RI,Qn,PyData.eqv,qi]
def Ex(neg:Bool)(l m:List Pr):cR neg (.list (l.map ax)) (.list (m.map ax))=some (.bool (if neg then !decide (l=m)else decide (l=m))):=by
 unfold cR
 rw[rW,rW]
 simp only[RI,Qn,PyData.eqv,qi]
def Hv{n:Nat}{l:List Pr}(O:OM.Ord n l):kS [.tuple (l.map ax)]=.ok (.bool false) false:=by
 have hl:=Bf O
 unfold kS
 simp only[fy]
 rw[Pe (@AT)]
 have:(l.any λp=>decide (p.1=p.2))=false:=by
  rw[List.any_eq_false]
  intro p hp
  simp only[PB]
  intro e
  let⟨a,b⟩:=p
  simp only at e
  subst e
  exact O.irr a hp
 rw[this]
def Cq{n:Nat}{l:List Pr}(O:OM.Ord n l):a9 3 1 (iW mP pairF dO kS) [aE n l]=.ok (.bool true) false:=by
 have hl:=Bf O
 show fin (iW mP pairF dO kS [.fz (aE n l),.no,.no] 0)=_
 unfold iW
 rw[aI (by rfl)]
 rw[aI (by rfl)]
 rw[aI (by rfl)]
 have e4:az mP (ab (gv 1) ag) [.da (aE n l),.da (.int n),.da (.tuple (l.map ax))] 0=.ok (.bool true) 0:=aC rfl (Fm O.lo O.hi)
 rw[aI (β':=0) ?h4]
 case h4=>
  refine lY ?_
  show om (tG (mE (az mP (ab (gv 1) ag)))) _ [.da (aE n l),.da (.int n),.da (.tuple (l.map ax))] 0=_
  rw[vp,ze,zU,e4]
  rfl
 have e5:aM 1 [1] (.nm 0) (bV (gv 2)) kJ (az pairF (ab (gv 0) (ab (gv 1) ag))) [.da (aE n l),.da (.int n),.da (.tuple (l.map ax))] 0=.ok (.list (l.map λ_=>PyData.bool true)) 0:=by
  refine cG (λ_=>PyData.bool true) rfl (@AT) λp hp=>⟨_,rfl,aC (b:=false) rfl ?_⟩
  rw[D0,Pu (by have:=O.wn p hp;exact this)]
 rw[aI (β':=0) ?h5]
 case h5=>
  refine lY ?_
  show tG (mE (f1 (aM 1 [1] (.nm 0) (bV (gv 2)) kJ (az pairF (ab (gv 0) (ab (gv 1) ag)))) (g7 λbs=>bs.all id))) [.da (aE n l),.da (.int n),.da (.tuple (l.map ax))] 0=_
  rw[ze,zU,b9 (d:=.bool true) e5 (by simp only[g7];rw[l7];simp)]
  rfl
 have e6:az dO (ab (gv 1) (ab (gv 2) ag)) [.da (aE n l),.da (.int n),.da (.tuple (l.map ax))] 0=.ok (.tuple (l.map ax)) 0:=aC rfl (by rw[D5 O.lo O.hi O.wn,O.closed])
 have e7:az kS (ab (gv 2) ag) [.da (aE n l),.da (.int n),.da (.tuple (l.map ax))] 0=.ok (.bool false) 0:=aC rfl (Hv O)
 show fin (toS (gR (f2 (gv 2) (az dO (ab (gv 1) (ab (gv 2) ag))) (cR false)) (f1 (az kS (ab (gv 2) ag)) Cj) [.da (aE n l),.da (.int n),.da (.tuple (l.map ax))] 0) _)=_
 unfold gR
 rw[aK (d:=.bool true) rfl e6 (by rw[wI];simp)]
 dsimp only[R.bnd]
 rw[b9 (d:=.bool true) e7 rfl]
 rfl
noncomputable def jW:List D->FR
 | [d]=>tR (λ_ _=>.ok (.bool true) false) d
 |_=>.bad
def uf{n:Nat}{l:List Pr}(O:OM.Ord n l):jW [aE n l]=.ok (.bool true) false:=by simp only[jW];exact xY O
def zf(ds:List D)(h:jW ds≠.bad):a9 3 1 (iW mP pairF dO kS) ds=jW ds:=by
 unfold jW at h
 split at h
 .obtain⟨n,l,rfl,O⟩:=xT h
  rw[Cq O,uf O]
 .exact absurd rfl h
noncomputable def mL:List D->FR
 | [d]=>tR (λ_ _=>.ok .none false) d
 |_=>.bad
def zX{n:Nat}{l:List Pr}(O:OM.Ord n l):mL [aE n l]=.ok .none false:=by simp only[mL];exact xY O
abbrev gn(ns:List Int):D:=.dict [(.none,.list (ns.map int))]
def ni(h: -(2^64)<i/\i<2^64):cP (.int i) (.int j)=some (.int (i*j)):=Pe (by dsimp only;rw[Pu h.1,Pu h.2];rfl)
def Js(h: -(2^64)<j/\j<2^64):cP (.int i) (.int j)=some (.int (i*j)):=Pe (by dsimp only;rw[Pu h.1,Pu h.2,RI,Bool.or_true])
def pj(h:0<j):nh (.int i) (.int j)=some (.int (i%j)):=Pe (Pu h)
def A7(h:0<j)(h2:j<1073741824):CT (.int i) (.int j)=some (.int (i/j)):=Pe (by dsimp only;rw[Pu h,Pu h2];rfl)
theorem iq{α β:Type}(f:α->β)(l:List α)(i:Int):lX (l.map f) i=(lX l i).map f:=by
 unfold lX
 rw[Pc]
 cases wW l.length i with
 |none=>rfl
 |some j=>simp
def oX{α:Type}{l:List α}{k:Nat}(h:k<l.length):lX l (k:Int)=some l[k]:=qg (O9 h)
def JV(h:fa vs β=.ok (.int i) β1)(h':fb vs β1=.ok (.int j) β2):df (f2 fa fb Lq) vs β=.ok (decide (i<j)) β2:=du _ _ _ _ (aK h h' rfl)
def eM(h:fa vs β=.ok (.int i) β1)(h':fb vs β1=.ok (.int j) β2):df (f2 fa fb (cR neg)) vs β=.ok (if neg then !decide (i=j)else decide (i=j)) β2:=by
 refine du _ _ _ _ (aK h h' ?_)
 cases neg<;>rfl
def Jr(ns:List Int)(k:Nat):∃z,a9 2 2 gP [gn ns,.int k]=.ok (.int z) false:=by
 show ∃z,fin (gP [.fz (gn ns),.fz (.int k)] 0)=.ok (.int z) false
 unfold gP
 have e:df (f2 (gv 1) (f1 (gv 0) dr) Lq) [.da (gn ns),.da (.int k)] 0=.ok (decide ((k:Int)<(ns.map int).length)) 0:=JV rfl rfl
 by_cases h:k<ns.length
 .refine⟨ns[k],?_⟩
  rw[Pu (by simp;exact h)]at e
  rw[kQ]
  .rfl
  .rw[lN e]
   show toS (f2 (gv 0) (gv 1) cT [.da (gn ns),.da (.int k)] 0) _=_
   rw[aK rfl rfl]
   .rfl
   .show lX (ns.map int) (k:Int)=_
    rw[iq,oX h];rfl
 .refine⟨0,?_⟩
  rw[Px (by simp;omega)]at e
  rw[aI]
  .rfl
  .rw[lY e];rfl
noncomputable def Av:List D->FR:=a9 2 2 gP
noncomputable def Ds:List D->FR:=a9 4 2 kO
abbrev FK:List Int:=[48271,69621,16807,39373,30269,40014,40692,50021,61687,71993,83869,95561,30307]
def Mn(c k:Int):∃z,Ds [.int c,.int k]=.ok (.int z) false:=by
 show ∃z,fin (kO [.fz (.int c),.fz (.int k),.no,.no] 0)=.ok (.int z) false
 unfold kO
 rw[aI (by rfl)]
 obtain⟨j,hj⟩:∃j:Nat,k%13=j:=⟨(k%13).toNat,@AT ⟩
 have hj13:j<FK.length:=by show j<13;omega
 have e1:f2 (f2 (f2 (f2 (f2 (gv 0) (cst (.int 2147483647)) nh) (cst (.int 12345)) bO) (f2 (gv 2) (f2 (gv 1) (cst (.int 13)) nh) cT) cP) (f2 (cst (.int 977)) (gv 1) cP) bO) (f2 (cst (.int 7919)) (f2 (gv 1) (cst (.int 13)) CT) cP) bO [.da (.int c),.da (.int k),.da (.list (FK.map int)),.no] 0
   =.ok (.int ((c%2147483647+12345)*FK[j]+977*k+7919*(k/13))) 0:=by
  refine aK (aK (aK (aK (aK rfl rfl (pj (@AT))) rfl rfl) (aK rfl (aK rfl rfl (pj (@AT))) ?_) (ni ⟨@AT,@AT ⟩)) (aK rfl rfl (ni ⟨@AT,@AT ⟩)) rfl) (aK rfl (aK rfl rfl (A7 (@AT) (@AT))) (ni ⟨@AT,@AT ⟩)) rfl
  show lX (FK.map int) (k%13)=_
  rw[hj,iq,oX hj13];rfl
 generalize((c%2147483647+12345)*FK[j]+977*k+7919*(k/13))=st at e1
 rw[aI ?h]
 case h=>
  show toS (f2 _ _ bO [.da (.int c),.da (.int k),.da (.list (FK.map int)),.no] 0) _=_
  rw[e1];rfl
 have e2:f2 (gv 3) (cst (.int 1000000007)) nh [.da (.int c),.da (.int k),.da (.list (FK.map int)),.da (.int st)] 0=.ok (.int (st%1000000007)) 0:=aK rfl rfl (pj (@AT))
 rw[aI ?h2]
 case h2=>
  show toS (f2 (gv 3) (cst (.int 1000000007)) nh [.da (.int c),.da (.int k),.da (.list (FK.map int)),.da (.int st)] 0) _=_
  rw[e2];rfl
 have hb: -(2^64)<st%1000000007/\st%1000000007<2^64:=⟨@AT,@AT ⟩
 generalize st%1000000007=u at hb
 have e3:f2 (f2 (f2 (f2 (gv 3) (gv 3) cP) (f2 (cst (.int 48271)) (gv 1) cP) bO) (cst (.int 1000000007)) nh) (cst (.int 7)) CT [.da (.int c),.da (.int k),.da (.list (FK.map int)),.da (.int u)] 0=.ok (.int ((u*u+48271*k)%1000000007/7)) 0:=
  aK (aK (aK (aK rfl rfl (ni hb)) (aK rfl rfl (ni ⟨@AT,@AT ⟩)) rfl) rfl (pj (@AT))) rfl (A7 (@AT) (@AT))
 refine⟨(u*u+48271*k)%1000000007/7,?_⟩
 show fin (toS (f2 _ (cst (.int 7)) CT [.da (.int c),.da (.int k),.da (.list (FK.map int)),.da (.int u)] 0) _)=_
 rw[e3];rfl
noncomputable def L0:List D->FR:=a9 5 2 (kI Av Ds)
def MI(ns:List Int)(k:Nat):∃z,L0 [gn ns,.int k]=.ok (.list [.int z]) true:=by
 let⟨c,hc⟩:=Jr ns k
 show ∃z,fin (kI Av Ds [.fz (gn ns),.fz (.int k),.no,.no,.no] 0)=.ok (.list [.int z]) true
 unfold kI
 have e0:az Av (ab (gv 0) (ab (gv 1) ag)) [.da (gn ns),.da (.int k),.no,.no,.no] 0=.ok (.int c) 0:=aC rfl hc
 rw[aI ?h]
 case h=>
  show toS (az Av _ [.da (gn ns),.da (.int k),.no,.no,.no] 0) _=_
  rw[e0];rfl
 have e1:df (f2 (f2 (gv 2) (cst (.int 2)) nh) (cst (.int 0)) (cR false)) [.da (gn ns),.da (.int k),.da (.int c),.no,.no] 0=.ok (decide (c%2=0)) 0:=eM (aK rfl rfl (pj (@AT))) rfl
 by_cases h:c%2=0
 .rw[Pu h]at e1
  refine⟨(if c<0 then -c else c)/2,?_⟩
  rw[kQ]
  .rfl
  .rw[lN e1]
   show toS (cz (ab (f2 (f1 (gv 2) GY) (cst (.int 2)) CT) ag) [.da (gn ns),.da (.int k),.da (.int c),.no,.no] 0) _=_
   rw[dH]
   .rfl
   .have e2:f2 (f1 (gv 2) GY) (cst (.int 2)) CT [.da (gn ns),.da (.int k),.da (.int c),.no,.no] 0=.ok (.int ((if c<0 then -c else c)/2)) 0:=aK (b9 rfl rfl) rfl (A7 (@AT) (@AT))
    rw[bz,e2];rfl
   .simp
 .rw[Px h]at e1
  rw[aI (by rw[lY e1];rfl)]
  rw[aI (by rfl)]
  obtain⟨env',β',el,z,x,rfl,rfl⟩:=dq (t:=.nm 4) (m:=bp 3 (([]++[])++([2]++([4]++[]))) (f2 (f2 (gv 3) (cst (.int 142857143)) cP) (az Ds (ab (gv 2) (ab (gv 4) ag))) bO)) (ds:=cI 0 40) (k:=0)
   (λ_ env β=>∃(z:Int) (x:Sl),env= [.fz (gn ns),.fz (.int k),.fz (.int c),.fz (.int z),x]/\β=0) ⟨0,.no,rfl,rfl⟩ (by
    rintro i d env β hi ⟨z,x,rfl,rfl⟩
    obtain⟨j,rfl⟩:∃j:Int,d=.int j:=by
     unfold cI at hi
     rw[Pt]at hi
     cases q:(List.range 40)[i]? with
     |none=>rw[q]at hi;cases hi
     |some j=>rw[q]at hi;cases hi;exact⟨_,rfl⟩
    let⟨y,hy⟩:=Mn c j
    refine⟨_,rfl,_,_,?_,z*142857143+y,.fz (.int j),rfl,rfl⟩
    show toS (f2 (f2 (gv 3) (cst (.int 142857143)) cP) (az Ds (ab (gv 2) (ab (gv 4) ag))) bO [.da (gn ns),.da (.int k),.da (.int c),.da (.int z),.da (.int j)] 0) _=_
    rw[aK (aK rfl rfl (Js ⟨@AT,@AT ⟩)) (aC rfl hy) rfl]
    rfl)
  refine⟨z,?_⟩
  rw[aI ?h2]
  case h2=>exact el
  show fin (toS (cz (ab (gv 3) ag) [.da (gn ns),.da (.int k),.da (.int c),.da (.int z),x.val] 0) _)=_
  rw[dH rfl (by simp)]
  rfl
noncomputable def dh:List D->Int->FB:=p6 4 1 (fg cA)
theorem lay_ints:∀ns:List Int,PyData.canLayAll0 (ns.map int)=true
 | []=>rfl
 |n::ns=>by
  show((int n).canLay0&&PyData.canLayAll0 (ns.map int))=true
  rw[lay_ints ns];rfl
theorem ra:∀ns:List Int,PyData.depthAll (ns.map int)=0
 | []=>rfl
 |n::ns=>by
  show max (int n).depth (PyData.depthAll (ns.map int))=0
  rw[ra ns];rfl
def shaped_ints(ns:List Int):SeqAt.shaped (.list (ns.map int))=true:=by
 unfold SeqAt.shaped
 have h1:(PyData.list (ns.map int)).canLay0=true:=by simp only[PyData.canLay0];exact lay_ints ns
 have h2:(PyData.list (ns.map int)).depth<=64:=by simp only[PyData.depth];rw[ra];omega
 rw[h1,Pu h2];rfl
theorem qO:∀l m:List Int,PyData.eqvAll (l.map int) (m.map int)=decide (l=m)
 | [],[]=>rfl
 | [],_::_=>rfl
 |_::_,[]=>rfl
 |p::l,q::m=>by
  show((p==q)&&PyData.eqvAll (l.map int) (m.map int))=_
  rw[qO l m,Ra]
  simp
def r6(neg:Bool)(l m:List Int):cR neg (.list (l.map int)) (.list (m.map int))=some (.bool (if neg then !decide (l=m)else decide (l=m))):=by
 unfold cR
 rw[shaped_ints,shaped_ints]
 simp only[RI,Qn,PyData.eqv,qO]
theorem ja{α:Type}:∀{l:List α} {k:Nat} {x:α},l[k]? =some x->(x::l.eraseIdx k).Perm l
 | [],_,_,h=>by simp at h
 |y::l,0,x,h=>by simp at h;subst h;exact List.Perm.refl _
 |y::l,k+1,x,h=>by
  have h:l[k]? =some x:=by simpa using h
  have ih:=ja h
  exact(List.Perm.swap y x _).trans (ih.cons y)
theorem tQ{α β:Type}(f:α->β):∀(l:List α) (k:Nat),(l.map f).eraseIdx k=(l.eraseIdx k).map f
 | [],_=>rfl
 |_::_,0=>rfl
 |x::l,k+1=>by simp[tQ f l k]
def og(ns:List Int)(hz:ns.length<=100)(β:Int):∃(ms:List Int) (β':Int),dh [.list (ns.map int)] β=.ok (.list (ms.map int)) true β'/\ms.Perm ns:=by
 show ∃(ms:List Int) (β':Int),yk (fg cA [.bx,.fz (.list (ns.map int)),.no,.no] β)=.ok (.list (ms.map int)) true β'/\ms.Perm ns
 unfold fg
 rw[aI (by rfl)]
 have ez:cz ag [Nv.bx,.da (.list (ns.map int)),.da (.list (ns.map int)),.no] β=.ok (.list []) β:=dH rfl (by simp)
 rw[aI (env':=[.bx,.fz (.list (ns.map int)),.ow (.list (ns.map int)),.ow (.list [])]) ?h]
 case h=>
  show toS (cz ag [Nv.bx,.da (.list (ns.map int)),.da (.list (ns.map int)),.no] β) _=_
  rw[ez];rfl
 obtain⟨env',β',ew,ms,rfl,hp⟩:=kf (L:=[]++[])
  (λk env β=>∃ls ms:List Int,env= [.bx,.fz (.list (ns.map int)),.ow (.list (ls.map int)),.ow (.list (ms.map int))]/\(ms++ls).Perm ns/\k=ls.length)
  (λenv β=>∃ms:List Int,env= [.bx,.fz (.list (ns.map int)),.ow (.list []),.ow (.list (ms.map int))]/\ms.Perm ns) (n:=1000) (env:=[.bx,.fz (.list (ns.map int)),.ow (.list (ns.map int)),.ow (.list [])]) (@AT) ⟨ns,[],rfl,by simp,rfl⟩ (by
   rintro k env β ⟨ls,ms,rfl,hp,rfl⟩
   have e1:cz ag [Nv.bx,.da (.list (ns.map int)),.da (.list (ls.map int)),.da (.list (ms.map int))] β=.ok (.list (([]:List Int).map int)) β:=dH rfl (by simp)
   have et:df (f2 (gv 2) (cz ag) (cR true)) [Nv.bx,.da (.list (ns.map int)),.da (.list (ls.map int)),.da (.list (ms.map int))] β=.ok (!decide (ls= [])) β:=
    du _ _ _ _ (aK rfl e1 (by rw[r6];rfl))
   refine⟨_,_,et,?_⟩
   have hlen:=hp.length_eq
   rw[P0]at hlen
   cases ls with
   |nil=>exact .inl ⟨rfl,ms,rfl,by simpa using hp⟩
   |cons y ys=>
    refine .inr ⟨rfl,?_⟩
    have hm:(0:Int)<((y::ys).length:Nat)/\(((y::ys).length:Nat):Int)<1073741824:=by
     have:(y::ys).length<=100:=@AT
     constructor
     .simp
     .omega
    obtain⟨j,hj⟩:∃j:Nat,β%(((y::ys).length:Nat):Int)=j:=⟨(β%(((y::ys).length:Nat):Int)).toNat,by have:=Int.emod_nonneg β (b:=(((y::ys).length:Nat):Int)) (@AT);omega⟩
    have hj2:j<(y::ys).length:=by have:=Int.emod_lt_of_pos β hm.1;omega
    have ef:ij 0 cA (ab (f1 (gv 2) dr) ag) [Nv.bx,.da (.list (ns.map int)),.da (.list ((y::ys).map int)),.da (.list (ms.map int))] β=.ok (.int (j:Int)) (β/(((y::ys).length:Nat):Int)):=by
     refine eO (by rfl) ?_ (by rw[v8 hm.1 hm.2,hj])
     show R.ok [int ((((y::ys).map int).length:Nat):Int)] β=_
     rw[Pc]
    have hpop:CL ((y::ys).map int) (.int (j:Int))=some (.int (y::ys)[j],((y::ys).eraseIdx j).map int):=by
     unfold CL
     dsimp only
     rw[Pe ⟨@AT,@AT ⟩]
     have es:seqIndex? (j:Int) ((y::ys).map int).length=some j:=by
      rw[Pc]
      exact PySem.StrLaws.seqIndex_nonneg (@AT) (@AT)
     rw[es]
     dsimp only
     rw[Pt,O9 hj2,tQ];rfl
    refine⟨[.bx,.fz (.list (ns.map int)),.ow (.list (((y::ys).eraseIdx j).map int)),.ow (.list ((ms++[(y::ys)[j]]).map int))],β/(((y::ys).length:Nat):Int),((y::ys).eraseIdx j).length,?_,?_,(y::ys).eraseIdx j,ms++[(y::ys)[j]],rfl,?_,rfl⟩
    .show mI 3 2 ([]++[]) (ij 0 cA (ab (f1 (gv 2) dr) ag)) [.bx,.fz (.list (ns.map int)),.ow (.list ((y::ys).map int)),.ow (.list (ms.map int))] β=_
     rw[yH (by rfl) (by rfl) @A_ ef (by rfl) hpop (by rw[Pc];omega),PV]
     rfl
    .rw[List.length_eraseIdx]
     rw[Pe hj2]
     simp
    .rw[QV]
     exact(List.Perm.append_left ms (ja (O9 hj2))).trans hp)
 refine⟨ms,β',?_,hp⟩
 rw[aI ew]
 rfl
def Ja(h8:n<=8)(w:OM.Wn n l):OM.cy 8 (OM.Mem l)=OM.cy n (OM.Mem l):=by
 refine OM.fo (OM.cC _ _) (OM.cC _ _) λx=>?_
 rw[OM.aN,OM.aN]
 constructor
 .rintro⟨_,h⟩;exact⟨w x h,h⟩
 .rintro⟨h1,h⟩;exact⟨⟨⟨h1.1.1,@AT ⟩,h1.2.1,@AT ⟩,h⟩
def Bc(h1:1<=n)(h8:n<=8)(w:OM.Wn n l)(nd:l.Nodup)(irr:∀a,(a,a)∉l):l.length<64:=by
 have:=OM.qY (m:=OM.bF n) (P6.mpr ⟨irr 0,nd⟩) (λx hx=>by
  rcases Pf.mp hx with e|e
  .subst e;exact OM.bh.mpr ⟨⟨by simp,by simp;omega⟩,by simp,by simp;omega⟩
  .exact OM.bh.mpr (w x e))
 have hg:(OM.bF n).length=n*n:=by unfold OM.bF;simp
 have hn:n*n<=64:=QL h8 h8
 rw[hg,PR]at this
 omega
def y7(h8:n<=8)(w:OM.Wn n l):l.all Ku=true:=by
 rw[Qi]
 intro p hp
 have:=w p hp
 unfold Ku
 rw[Pu this.1.1,Pu (@AT:p.1<8),Pu this.2.1,Pu (@AT:p.2<8)];rfl
def pN(h8:n<=8)(w:OM.Wn n l)(hl:(OM.cy n (OM.Mem l)).length<64)(hd:kn d=some (l.map ax)):dk d=some (.list ((OM.cy n (OM.Mem l)).map ax)):=by
 unfold dk
 rw[hd]
 simp only[fy]
 rw[Ja h8 w,Pe ⟨y7 h8 w,hl⟩]
def yT(l:List Pr)(p:Pr):List Pr:=(l.filter λq=>decide (q.1=p.2)).map λq=>(p.1,q.2)
def AZ(l:List Pr)(p:Pr):(yT l p).length<=l.length:=by unfold yT;rw[Pc];exact Qs ..
theorem yw(l m:List Pr):(m.flatMap (yT l)).length<=m.length*l.length:=by
 induction m with
 |nil=>simp
 |cons p m ih=>
  rw[List.flatMap_cons,P0,PR,Nat.succ_mul]
  have:=AZ l p
  omega
def nP(h:a.length+b.length<=10000):jF (.list a) (.list b)=some (.list (a++b)):=Pe (by rw[PX];omega)
noncomputable def jP:List D->FR:=a9 6 1 gG
def BP(h1:1<=n)(h8:n<=8)(w:OM.Wn n ps)(irr:∀a,¬OM.Tr (OM.Mem ps) a a):jP [.list (ps.map ax)]=.ok (.tuple ((OM.cy n (OM.Tr (OM.Mem ps))).map ax)) false:=by
 have blen:∀{l:List Pr},OM.IJ n ps l->l.length<64:=λ{l} B=>Bc h1 h8 B.wn (OM.dS B.ris) λa ha=>irr a (B.sup _ ha)
 show fin (gG [.fz (.list (ps.map ax)),.no,.no,.no,.no,.no] 0)=_
 unfold gG
 have B0:=OM.Cw w
 have e0:f1 (gv 0) dk [.da (.list (ps.map ax)),.no,.no,.no,.no,.no] 0=.ok (.list ((OM.cy n (OM.Mem ps)).map ax)) 0:=b9 rfl (pN h8 w (blen B0) rfl)
 rw[aI ?h0]
 case h0=>
  show toS (f1 (gv 0) dk [.da (.list (ps.map ax)),.no,.no,.no,.no,.no] 0) _=_
  rw[e0];rfl
 rw[aI (env':=[.fz (.list (ps.map ax)),.fz (.list ((OM.cy n (OM.Mem ps)).map ax)),.fz (.int (-1)),.no,.no,.no]) (by rfl)]
 obtain⟨env',β',ew,rfl,x,sz,a,b,rfl⟩:=kf (L:=[]++[])
  (λk env β=>β=0/\∃(l:List Pr) (sz:Int) (x a b:Sl),env= [.fz (.list (ps.map ax)),.fz (.list (l.map ax)),.fz (.int sz),x,a,b]/\OM.IJ n ps l/\(sz= -1\/∃lp,OM.IJ n ps lp/\l=OM.lZ n lp/\sz=lp.length)/\k=2*(64-l.length)+(if sz=l.length then 0 else 1))
  (λenv β=>β=0/\∃(x sz a b:Sl),env= [.fz (.list (ps.map ax)),.fz (.list ((OM.cy n (OM.Tr (OM.Mem ps))).map ax)),sz,x,a,b])
  (n:=1000)
  (by split<;>omega) ⟨rfl,_,_,_,_,_,rfl,B0,.inl rfl,rfl⟩ (by
   rintro k env β ⟨rfl,l,sz,x,a,b,rfl,B,hsz,rfl⟩
   have hl:=blen B
   have et:df (f2 (gv 2) (f1 (gv 1) dr) (cR true)) [.da (.list (ps.map ax)),.da (.list (l.map ax)),.da (.int sz),x.val,a.val,b.val] 0=.ok (!decide (sz=((l.map ax).length:Nat))) 0:=eM rfl rfl
   rw[Pc]at et
   refine⟨_,_,et,?_⟩
   by_cases c:sz=(l.length:Nat)
   .refine .inl ⟨by rw[Pu c];rfl,rfl,x,.fz (.int sz),a,b,?_⟩
    rcases hsz with h|⟨lp,Bp,rfl,h⟩
    .omega
    .show [Sl.fz (.list (ps.map ax)),.fz (.list ((OM.lZ n lp).map ax)),.fz (.int sz),x,a,b]=_
     rw[OM.DZ Bp (@AT)]
   .refine .inr ⟨by rw[Px c];rfl,?_⟩
    let⟨B2,hs⟩:=OM.yd B
    have hl2:=blen B2
    have hge:l.length<=(OM.lZ n l).length:=OM.qY (OM.dS B.ris) hs
    have eturn:∃x' a' b':Sl,aF (bp 2 [] (f1 (gv 1) dr)) (aF (bp 3 [] (cz ag)) (aF (dg (.two 4 5) [1] (bV (gv 1)) (bp 3 ([]++([]++[4])) (f2 (gv 3) (aM 2 [5,4] (.two 0 1) (bV (gv 1)) (df (f2 (gv 0) (gv 2) (cR false))) (bt (ab (gv 3) (ab (gv 1) ag)))) jF))) (bp 1 ([]++[]) (f1 (f2 (gv 1) (gv 3) jF) dk)))) [.fz (.list (ps.map ax)),.fz (.list (l.map ax)),.fz (.int sz),x,a,b] 0
      =.nx [.fz (.list (ps.map ax)),.fz (.list ((OM.lZ n l).map ax)),.fz (.int (l.length:Nat)),x',a',b'] 0:=by
     rw[aI ?g1]
     case g1=>
      show SO.nx [.fz (.list (ps.map ax)),.fz (.list (l.map ax)),.fz (.int ((l.map ax).length:Nat)),x,a,b] 0=_
      rw[Pc]
     have e3:cz ag [.da (.list (ps.map ax)),.da (.list (l.map ax)),.da (.int (l.length:Nat)),x.val,a.val,b.val] 0=.ok (.list []) 0:=dH rfl (by simp)
     rw[aI ?g2]
     case g2=>
      show toS (cz ag [.da (.list (ps.map ax)),.da (.list (l.map ax)),.da (.int (l.length:Nat)),x.val,a.val,b.val] 0) _=_
      rw[e3];rfl
     obtain⟨env2,β2,ef,rfl,a2,b2,rfl⟩:=dq (t:=.two 4 5) (m:=bp 3 ([]++([]++[4])) (f2 (gv 3) (aM 2 [5,4] (.two 0 1) (bV (gv 1)) (df (f2 (gv 0) (gv 2) (cR false))) (bt (ab (gv 3) (ab (gv 1) ag)))) jF)) (ds:=l.map ax)
      (λi env β=>β=0/\∃a b:Sl,env= [.fz (.list (ps.map ax)),.fz (.list (l.map ax)),.fz (.int (l.length:Nat)),.fz (.list (((l.take i).flatMap (yT l)).map ax)),a,b]) ⟨rfl,a,b,rfl⟩ (by
       rintro i d env β hi ⟨rfl,a,b,rfl⟩
       rw[Pt]at hi
       cases q:l[i]? with
       |none=>rw[q]at hi;cases hi
       |some p=>
        rw[q]at hi
        cases hi
        have hil:i<l.length:=(Pw.mp q).1
        refine⟨[.fz (.list (ps.map ax)),.fz (.list (l.map ax)),.fz (.int (l.length:Nat)),.fz (.list (((l.take (0+i)).flatMap (yT l)).map ax)),.fz (.int p.1),.fz (.int p.2)],rfl,[.fz (.list (ps.map ax)),.fz (.list (l.map ax)),.fz (.int (l.length:Nat)),.fz (.list (((l.take (0+i+1)).flatMap (yT l)).map ax)),.fz (.int p.1),.fz (.int p.2)],0,?_,rfl,_,_,rfl⟩
        have ec:aM 2 [5,4] (.two 0 1) (bV (gv 1)) (df (f2 (gv 0) (gv 2) (cR false))) (bt (ab (gv 3) (ab (gv 1) ag))) [.da (.list (ps.map ax)),.da (.list (l.map ax)),.da (.int (l.length:Nat)),.da (.list (((l.take (0+i)).flatMap (yT l)).map ax)),.da (.int p.1),.da (.int p.2)] 0=.ok (.list ((yT l p).map ax)) 0:=by
         rw[b7 (λq=>decide (q.1=p.2)) (λq=>ax (p.1,q.2)) rfl (@AT)]
         .unfold yT;rw[P8];rfl
         .intro q hq
          exact⟨_,rfl,eM rfl rfl,λ_=>(kB rfl (by simp))⟩
        have hk:(l.take (0+i)).length<=63:=by rw[QR];omega
        have hfl:=yw l (l.take (0+i))
        have hfl2:(l.take (0+i)).length*l.length<=63*63:=QL hk (@AT)
        have hm1:=AZ l p
        have e5:f2 (gv 3) (aM 2 [5,4] (.two 0 1) (bV (gv 1)) (df (f2 (gv 0) (gv 2) (cR false))) (bt (ab (gv 3) (ab (gv 1) ag)))) jF [.da (.list (ps.map ax)),.da (.list (l.map ax)),.da (.int (l.length:Nat)),.da (.list (((l.take (0+i)).flatMap (yT l)).map ax)),.da (.int p.1),.da (.int p.2)] 0=.ok (.list (((l.take (0+i+1)).flatMap (yT l)).map ax)) 0:=by
         refine aK rfl ec ?_
         rw[nP (by rw[Pc,Pc];omega),<-PV]
         have:l.take (0+i+1)=l.take (0+i)++[p]:=by rw[Qk,QD,q];rfl
         rw[this,List.flatMap_append,List.flatMap_cons,List.flatMap_nil,RD]
        show toS (f2 (gv 3) (aM 2 [5,4] (.two 0 1) (bV (gv 1)) (df (f2 (gv 0) (gv 2) (cR false))) (bt (ab (gv 3) (ab (gv 1) ag)))) jF [.da (.list (ps.map ax)),.da (.list (l.map ax)),.da (.int (l.length:Nat)),.da (.list (((l.take (0+i)).flatMap (yT l)).map ax)),.da (.int p.1),.da (.int p.2)] 0) _=_
        rw[e5];rfl)
     rw[Qk,Pc,Ry (Pd _)]at ef
     rw[aI ?g3]
     case g3=>exact ef
     have hfl:=yw l l
     have hfl2:l.length*l.length<=63*63:=QL (@AT) (@AT)
     have e6:f1 (f2 (gv 1) (gv 3) jF) dk [.da (.list (ps.map ax)),.da (.list (l.map ax)),.da (.int (l.length:Nat)),.da (.list ((l.flatMap (yT l)).map ax)),a2.val,b2.val] 0=.ok (.list ((OM.lZ n l).map ax)) 0:=by
      refine b9 (x:=.list ((l++OM.more l).map ax)) (aK rfl rfl ?_) (pN h8 (OM.Ek B) hl2 rfl)
      rw[nP (by rw[Pc,Pc];omega),<-PV];rfl
     refine⟨.fz (.list ((l.flatMap (yT l)).map ax)),a2,b2,?_⟩
     show toS (f1 (f2 (gv 1) (gv 3) jF) dk [.da (.list (ps.map ax)),.da (.list (l.map ax)),.da (.int (l.length:Nat)),.da (.list ((l.flatMap (yT l)).map ax)),a2.val,b2.val] 0) _=_
     rw[e6];rfl
    let⟨x',a',b',et2⟩:=eturn
    refine⟨_,_,_,et2,?_,rfl,_,_,_,_,_,rfl,B2,.inr ⟨l,B,rfl,rfl⟩,rfl⟩
    rw[Pg c]
    split<;>omega)
 rw[aI ew]
 rfl
def wN(ms:List Int)(ps:List Pr):Prop:=∀p,p∈ps->∃i j:Nat,i<j/\ms[i]? =some p.1/\ms[j]? =some p.2
theorem eR{α:Type}:∀{l:List α} {i j:Nat} {x:α},l.Nodup->l[i]? =some x->l[j]? =some x->i=j
 | [],_,_,_,_,h,_=>by simp at h
 |y::l,0,0,_,_,_,_=>rfl
 |y::l,0,j+1,x,nd,h1,h2=>by
  simp at h1
  subst h1
  exact absurd (Pn (by simpa using h2)) (P6.mp nd).1
 |y::l,i+1,0,x,nd,h1,h2=>by
  simp at h2
  subst h2
  exact absurd (Pn (by simpa using h1)) (P6.mp nd).1
 |y::l,i+1,j+1,x,nd,h1,h2=>by
  rw[eR (l:=l) (i:=i) (j:=j) (P6.mp nd).2 (by simpa using h1) (by simpa using h2)]
def Eb(nd:ms.Nodup)(h:wN ms ps)(t:OM.Tr (OM.Mem ps) a b):∃i j:Nat,i<j/\ms[i]? =some a/\ms[j]? =some b:=by
 refine t.least (S:=λa b=>∃i j:Nat,i<j/\ms[i]? =some a/\ms[j]? =some b) (λa b r=>h _ r) ?_
 rintro a b c ⟨i,j,hij,h1,h2⟩ ⟨k,l,hkl,h3,h4⟩
 have:=eR nd h2 h3
 exact⟨i,l,@AT,h1,h4⟩
def Bv(nd:ms.Nodup)(h:wN ms ps)(a:Int):¬OM.Tr (OM.Mem ps) a a:=λt=>by
 let⟨i,j,hij,h1,h2⟩:=Eb nd h t
 have:=eR nd h1 h2
 omega
def ba(n:Nat):List Int:=(List.range n).map λ(k:Nat)=>(k:Int)
def bf(n:Nat):(ba n).length=n:=by unfold ba;simp
def aG:x∈ba n↔0<=x/\x<n:=by
 unfold ba
 rw[Pj]
 constructor
 .rintro⟨k,hk,rfl⟩
  have:=PN.mp hk
  omega
 .intro h
  exact⟨x.toNat,PN.mpr (@AT),@AT ⟩
def cj(n:Nat):(ba n).Nodup:=by
 unfold ba
 rw[QT,Qj]
 exact(QT.mp Rv).imp λ{a b} h e=>h (@AT)
def jS(n:Nat):cI 0 n=(ba n).map int:=by
 unfold cI ba
 rw[P8]
 refine Qu λk _=>?_
 rw[QK];rfl
theorem iR(h:(cI lo n)[i]? =some d):i<n/\d=.int (lo+i):=by
 unfold cI at h
 rw[Pt]at h
 cases q:(List.range n)[i]? with
 |none=>rw[q]at h;cases h
 |some j=>
  rw[q]at h
  cases h
  let⟨hi,ej⟩:=Pw.mp q
  rw[Q7]at hi
  rw[List.getElem_range]at ej
  subst ej
  exact⟨hi,rfl⟩
def gZ{n:Nat}(h:n<=1000):bM (.int n)=some (.list ((ba n).map int)):=by
 unfold bM
 dsimp only
 rw[Pe ⟨@AT,@AT ⟩,Qe,jS]
def cY(h:fa vs β=.ok (.int n) β1)(hn:n<=1000):bP fa vs β=.ok (cI 0 n) β1:=by
 unfold bP
 rw[h]
 simp only[mW]
 rw[Pe (pF (@AT) (@AT)),Qe]
def EC(h:fa vs β=.ok (.int i) β1)(h':fb vs β1=.ok (.int j) β2)(hi:0<=i/\i<=1000)(hj:0<=j/\j<=1000):tZ fa fb vs β=.ok (cI i (j-i).toNat) β2:=by
 unfold tZ
 rw[h]
 simp only[mW]
 rw[h']
 simp only[mW]
 rw[Pe (by rw[pF (@AT) (@AT),pF (@AT) (@AT)];rfl)]
def dv(h:fi (vl env) β=.ok ds β1):dg t L fi m env β=nE t m ds (a8 L env) β1:=by unfold dg;rw[h];rfl
noncomputable def qm:List D->Int->FB:=p6 8 1 (iF jP cA dh)
def BG(h1:1<=n)(h8:n<=8)(hp:ms.Perm (ba n))(ha:wN ms ps):OM.Wn n ps/\(∀a,¬OM.Tr (OM.Mem ps) a a)/\OM.Ord n (OM.cy n (OM.Tr (OM.Mem ps))):=by
 have nd:ms.Nodup:=hp.nodup_iff.mpr (cj n)
 have w:OM.Wn n ps:=λp hm=>by
  let⟨i,j,_,e1,e2⟩:=ha p hm
  have m1:=aG.mp (hp.mem_iff.mp (Pn e1))
  have m2:=aG.mp (hp.mem_iff.mp (Pn e2))
  exact⟨m1,m2⟩
 have ir:=λa=>Bv nd ha a
 exact⟨w,ir,OM.JH h1 h8 w ir⟩
def iY(h:1<=m)(h2:m<=1000)(β:Int):∃j:Nat,j<m/\cA [.int m] β=.ok (.int (j:Int)) false (β/m):=by
 refine⟨(β%m).toNat,?_,?_⟩
 .have h0:=Int.emod_nonneg β (b:=(m:Int)) (@AT)
  have h3:=Int.emod_lt_of_pos β (b:=(m:Int)) (@AT)
  omega
 .rw[v8 (@AT) (@AT)]
  have h0:=Int.emod_nonneg β (b:=(m:Int)) (@AT)
  rw[show((β%m).toNat:Int)=β%m by omega]
def DF{most:Nat}(hm1:1<=most)(hm8:most<=8)(β:Int):∃(n:Nat) (l:List Pr) (β':Int),qm [.int most] β=.ok (aE n l) false β'/\OM.Ord n l/\n<=most:=by
 let⟨j,hj,ej⟩:=iY hm1 (@AT) β
 show ∃(n:Nat) (l:List Pr) (β':Int),yk (iF jP cA dh [.bx,.fz (.int most),.no,.no,.no,.no,.no,.no] β)=.ok (aE n l) false β'/\OM.Ord n l/\n<=most
 unfold iF
 generalize hβ1:β/(most:Int)=β1 at ej
 have n8:1+j<=8:=@AT
 have e1:f2 (cst (.int 1)) (ij 0 cA (ab (gv 1) ag)) bO [Nv.bx,.da (.int most),.no,.no,.no,.no,.no,.no] β=.ok (.int ((1+j:Nat):Int)) β1:=by
  refine aK rfl (eO (by rfl) rfl ej) ?_
  show some (int (1+(j:Int)))=_
  rw[show((1+j:Nat):Int)=1+(j:Int) by omega]
 rw[aI ?g1]
 case g1=>
  show toS (f2 (cst (.int 1)) (ij 0 cA (ab (gv 1) ag)) bO [Nv.bx,.da (.int most),.no,.no,.no,.no,.no,.no] β) _=_
  rw[e1];rfl
 generalize hn:1+j=n at n8
 have n1:1<=n:=@AT
 let⟨ms,β2,em,hp⟩:=og (ba n) (by rw[bf];omega) β1
 have hml:ms.length=n:=by rw[hp.length_eq,bf]
 have e2:ij 0 dh (ab (f1 (gv 2) bM) ag) [Nv.bx,.da (.int most),.da (.int n),.no,.no,.no,.no,.no] β1=.ok (.list (ms.map int)) β2:=by
  refine eO (by rfl) ?_ em
  rw[bz,b9 rfl (gZ (@AT))];rfl
 rw[aI ?g2]
 case g2=>
  show toS (ij 0 dh (ab (f1 (gv 2) bM) ag) [Nv.bx,.da (.int most),.da (.int n),.no,.no,.no,.no,.no] β1) _=_
  rw[e2];rfl
 let⟨q,hq,eq⟩:=iY (m:=4) (@AT) (@AT) β2
 obtain⟨th,hth,hthv⟩:∃th:Nat,([2,3,4,7]:List Nat)[q]? =some th/\1<=th/\th<=7:=by
  rcases(show q=0\/q=1\/q=2\/q=3 by omega)with rfl|rfl|rfl|rfl
  .exact⟨2,rfl,@AT,@AT ⟩
  .exact⟨3,rfl,@AT,@AT ⟩
  .exact⟨4,rfl,@AT,@AT ⟩
  .exact⟨7,rfl,@AT,@AT ⟩
 generalize hβ3:β2/((4:Nat):Int)=β3 at eq
 have e3:f2 (cz (ab (cst (.int 2)) (ab (cst (.int 3)) (ab (cst (.int 4)) (ab (cst (.int 7)) ag))))) (ij 0 cA (ab (cst (.int 4)) ag)) cT [Nv.bx,.da (.int most),.da (.int n),.da (.list (ms.map int)),.no,.no,.no,.no] β2=.ok (.int th) β3:=by
  refine aK (dH rfl (by simp)) (eO (by rfl) rfl eq) ?_
  show lX (([2,3,4,7]:List Nat).map λ(k:Nat)=>int (k:Int)) (q:Int)=_
  rw[iq,qg hth];rfl
 rw[aI ?g3]
 case g3=>
  show toS (f2 (cz (ab (cst (.int 2)) (ab (cst (.int 3)) (ab (cst (.int 4)) (ab (cst (.int 7)) ag))))) (ij 0 cA (ab (cst (.int 4)) ag)) cT [Nv.bx,.da (.int most),.da (.int n),.da (.list (ms.map int)),.no,.no,.no,.no] β2) _=_
  rw[e3];rfl
 have e4:cz ag [Nv.bx,.da (.int most),.da (.int n),.da (.list (ms.map int)),.da (.int th),.no,.no,.no] β3=.ok (.list []) β3:=dH rfl (by simp)
 rw[aI (env':=[.bx,.fz (.int most),.fz (.int n),.fz (.list (ms.map int)),.fz (.int th),.ow (.list []),.no,.no]) ?g4]
 case g4=>
  show toS (cz ag [Nv.bx,.da (.int most),.da (.int n),.da (.list (ms.map int)),.da (.int th),.no,.no,.no] β3) _=_
  rw[e4];rfl
 obtain⟨env',β',ef,ps,a,b,rfl,hal,hpl⟩:=dq (t:=.nm 6) (m:=dg (.nm 7) (([]++[])++[]) (tZ (f2 (gv 6) (cst (.int 1)) bO) (gv 2))
   (kh (([4]++[])++[]) (df (f2 (ij 0 cA (ab (gv 4) ag)) (cst (.int 0)) (cR false)))
   (mV 5 (([]++[])++(([]++[])++[])) (bt (ab (f2 (gv 3) (gv 6) cT) (ab (f2 (gv 3) (gv 7) cT) ag)))) nt)) (ds:=cI 0 n) (k:=0)
  (λi env β=>∃(ps:List Pr) (a b:Sl),env= [.bx,.fz (.int most),.fz (.int n),.fz (.list (ms.map int)),.fz (.int th),.ow (.list (ps.map ax)),a,b]/\wN ms ps/\ps.length<=8*i)
  ⟨[],.no,.no,rfl,λp hp=>(by cases hp),by simp⟩ (by
   rintro i d env β hi ⟨ps,a,b,rfl,hal,hpl⟩
   obtain⟨hin,rfl⟩:=iR hi
   refine⟨[.bx,.fz (.int most),.fz (.int n),.fz (.list (ms.map int)),.fz (.int th),.ow (.list (ps.map ax)),.fz (.int (0+(i:Int))),b],rfl,?_⟩
   have er:tZ (f2 (gv 6) (cst (.int 1)) bO) (gv 2) [Nv.bx,.da (.int most),.da (.int n),.da (.list (ms.map int)),.da (.int th),.da (.list (ps.map ax)),.da (.int (0+(i:Int))),b.val] β=.ok (cI (0+(i:Int)+1) ((n:Int)-(0+(i:Int)+1)).toNat) β:=EC rfl rfl ⟨@AT,@AT ⟩ ⟨@AT,@AT ⟩
   rw[dv er]
   obtain⟨env',β',ef,qs,b,rfl,hal2,hql⟩:=dq (t:=.nm 7) (m:=kh (([4]++[])++[]) (df (f2 (ij 0 cA (ab (gv 4) ag)) (cst (.int 0)) (cR false)))
     (mV 5 (([]++[])++(([]++[])++[])) (bt (ab (f2 (gv 3) (gv 6) cT) (ab (f2 (gv 3) (gv 7) cT) ag)))) nt) (ds:=cI (0+(i:Int)+1) ((n:Int)-(0+(i:Int)+1)).toNat) (k:=0)
    (λk env β=>∃(qs:List Pr) (b:Sl),env= [.bx,.fz (.int most),.fz (.int n),.fz (.list (ms.map int)),.fz (.int th),.ow (.list (qs.map ax)),.fz (.int (0+(i:Int))),b]/\wN ms qs/\qs.length<=8*i+k)
    ⟨ps,b,rfl,hal,@AT ⟩ (by
     rintro k d env β hk ⟨qs,b,rfl,hal,hql⟩
     obtain⟨hkn,rfl⟩:=iR hk
     have hkn:i+1+k<n:=@AT
     refine⟨[.bx,.fz (.int most),.fz (.int n),.fz (.list (ms.map int)),.fz (.int th),.ow (.list (qs.map ax)),.fz (.int (0+(i:Int))),.fz (.int (0+(i:Int)+1+(k:Int)))],rfl,?_⟩
     let⟨z,hz,ez⟩:=iY hthv.1 (@AT) β
     have et:df (f2 (ij 0 cA (ab (gv 4) ag)) (cst (.int 0)) (cR false)) [Nv.bx,.da (.int most),.da (.int n),.da (.list (ms.map int)),.da (.int th),.da (.list (qs.map ax)),.da (.int (0+(i:Int))),.da (.int (0+(i:Int)+1+(k:Int)))] β=.ok (decide ((z:Int)=0)) (β/th):=eM (eO (by rfl) rfl ez) rfl
     by_cases c:(z:Int)=0
     .rw[Pu c]at et
      have h1:i<ms.length:=@AT
      have h2:i+1+k<ms.length:=@AT
      refine⟨[.bx,.fz (.int most),.fz (.int n),.fz (.list (ms.map int)),.fz (.int th),.ow (.list ((qs++[(ms[i],ms[i+1+k])]).map ax)),.fz (.int (0+(i:Int))),.fz (.int (0+(i:Int)+1+(k:Int)))],β/th,?_,qs++[(ms[i],ms[i+1+k])],_,rfl,?_,?_⟩
      .rw[lN et]
       have ep:bt (ab (f2 (gv 3) (gv 6) cT) (ab (f2 (gv 3) (gv 7) cT) ag)) [Nv.bx,.da (.int most),.da (.int n),.da (.list (ms.map int)),.da (.int th),.da (.list (qs.map ax)),.da (.int (0+(i:Int))),.da (.int (0+(i:Int)+1+(k:Int)))] (β/th)=.ok (ax (ms[i],ms[i+1+k])) (β/th):=by
        refine kB ?_ (by simp)
        have a1:f2 (gv 3) (gv 6) cT [Nv.bx,.da (.int most),.da (.int n),.da (.list (ms.map int)),.da (.int th),.da (.list (qs.map ax)),.da (.int (0+(i:Int))),.da (.int (0+(i:Int)+1+(k:Int)))] (β/th)=.ok (.int ms[i]) (β/th):=by
         refine aK rfl rfl ?_
         show lX (ms.map int) (0+(i:Int))=_
         rw[QK,iq,oX h1];rfl
        have a2:f2 (gv 3) (gv 7) cT [Nv.bx,.da (.int most),.da (.int n),.da (.list (ms.map int)),.da (.int th),.da (.list (qs.map ax)),.da (.int (0+(i:Int))),.da (.int (0+(i:Int)+1+(k:Int)))] (β/th)=.ok (.int ms[i+1+k]) (β/th):=by
         refine aK rfl rfl ?_
         show lX (ms.map int) (0+(i:Int)+1+(k:Int))=_
         rw[show(0+(i:Int)+1+(k:Int))=((i+1+k:Nat):Int) by omega,iq,oX h2];rfl
        rw[bz,a1]
        dsimp only[R.bnd]
        rw[bz,a2];rfl
       have:=vk (i:=5) (L:=([]++[])++(([]++[])++[])) (env:=[.bx,.fz (.int most),.fz (.int n),.fz (.list (ms.map int)),.fz (.int th),.ow (.list (qs.map ax)),.fz (.int (0+(i:Int))),.fz (.int (0+(i:Int)+1+(k:Int)))]) (by rfl) ep (by rfl) (by rw[Pc];omega)
       rw[PV]
       exact this
      .intro p hp
       rcases Pz.mp hp with hp|hp
       .exact hal p hp
       .have:p=(ms[i],ms[i+1+k]):=by simpa using hp
        subst this
        exact⟨i,i+1+k,@AT,O9 h1,O9 h2⟩
      .rw[P0];simp;omega
     .rw[Px c]at et
      refine⟨_,_,by rw[lY et];rfl,qs,_,rfl,hal,@AT ⟩)
   have hlen:(cI (0+(i:Int)+1) ((n:Int)-(0+(i:Int)+1)).toNat).length<=7:=by rw[dP];omega
   exact⟨_,_,ef,qs,_,b,rfl,hal2,@AT ⟩)
 rw[aI ?g5]
 case g5=>
  rw[dv (cY rfl (@AT))]
  exact ef
 let⟨w,ir,O⟩:=BG n1 n8 hp hal
 refine⟨n,OM.cy n (OM.Tr (OM.Mem ps)),β',?_,O,@AT ⟩
 have e9:bt (ab (gv 2) (ab (az jP (ab (gv 5) ag)) ag)) [Nv.bx,.da (.int most),.da (.int n),.da (.list (ms.map int)),.da (.int th),.da (.list (ps.map ax)),a.val,b.val] β'=.ok (aE n (OM.cy n (OM.Tr (OM.Mem ps)))) β':=by
  refine kB ?_ (by simp)
  have a1:az jP (ab (gv 5) ag) [Nv.bx,.da (.int most),.da (.int n),.da (.list (ms.map int)),.da (.int th),.da (.list (ps.map ax)),a.val,b.val] β'=.ok (.tuple ((OM.cy n (OM.Tr (OM.Mem ps))).map ax)) β':=aC rfl (BP n1 n8 w ir)
  rw[bz]
  show(R.ok (int n) β').bnd _=_
  dsimp only[R.bnd]
  rw[bz,a1];rfl
 show yk (toS (bt (ab (gv 2) (ab (az jP (ab (gv 5) ag)) ag)) [Nv.bx,.da (.int most),.da (.int n),.da (.list (ms.map int)),.da (.int th),.da (.list (ps.map ax)),a.val,b.val] β') _)=_
 rw[e9];rfl
theorem AA(p:Pr):∀l:List Pr,((l.map ax).any λe=>PyData.eqv e (ax p))=decide (p∈l)
 | []=>rfl
 |q::l=>by
  rw[PL,Rf,AA p l,FD,Ra]
  simp only[Sw,PB,Pf]
  exact⟨λh=>h.imp Eq.symm id,λh=>h.imp Eq.symm id⟩
def Iz(l:List Pr):(l.map ax).all SeqAt.shaped=true:=by
 rw[Qi]
 intro d hd
 obtain⟨p,_,rfl⟩:=Pj.mp hd
 exact tX p
def Aa(neg:Bool)(p:Pr)(l:List Pr):FW neg (ax p) (.tuple (l.map ax))=some (.bool (if neg then !decide (p∈l)else decide (p∈l))):=by
 unfold FW
 simp only[kn,tX,Iz,RI,Qn,AA]
def Ac(neg:Bool)(i j:Int):cR neg (.int i) (.int j)=some (.bool (if neg then !decide (i=j)else decide (i=j))):=rfl
theorem Bk(h:fa vs β=.ok (.bool a) β)(h':fb vs β=.ok (.bool b) β):gR fa fb vs β=.ok (.bool (a&&b)) β:=by
 unfold gR
 rw[h]
 dsimp only[R.bnd]
 cases a with
 |true=>exact h'
 |false=>rfl
def dz(h:fa vs β=.ok (.int a) β)(h':fb vs β=.ok (.int b) β):bt (ab fa (ab fb ag)) vs β=.ok (ax (a,b)) β:=by
 refine kB ?_ (by simp)
 rw[bz,h]
 dsimp only[R.bnd]
 rw[bz,h'];rfl
def zO(l:List Pr)(p:Pr):Bool:= !decide (p.1=p.2)&&(!decide ((p.1,p.2)∈l) && !decide ((p.2,p.1)∈l))
def OX(h:fa vs β=.ok (aE n l) β):f2 fa (cst (.int 1)) cT vs β=.ok (.tuple (l.map ax)) β:=aK h rfl rfl
def OZ{n:Nat}{l:List Pr}{fa:VF D}{vs:List Nv}{β:Int}(h:fa vs β=.ok (aE n l) β):f2 fa (cst (.int 0)) cT vs β=.ok (.int n) β:=aK h rfl rfl
def Mh:List D->FR:=a9 3 3 pW
def zl:List D->FR:=a9 3 3 nW
def Mk(n:Nat)(l:List Pr)(a b:Int):Mh [aE n l,.int a,.int b]=.ok (.bool (zO l (a,b))) false:=by
 show fin (toS (gR (f2 (gv 1) (gv 2) (cR true)) (gR (f2 (bt (ab (gv 1) (ab (gv 2) ag))) (f2 (gv 0) (cst (.int 1)) cT) (FW true)) (f2 (bt (ab (gv 2) (ab (gv 1) ag))) (f2 (gv 0) (cst (.int 1)) cT) (FW true))) [.da (aE n l),.da (.int a),.da (.int b)] 0) _)=_
 rw[Bk (aK rfl rfl (Ac true a b)) (Bk (aK (dz rfl rfl) (OX rfl) (Aa true (a,b) l)) (aK (dz rfl rfl) (OX rfl) (Aa true (b,a) l)))]
 rfl
def Mm(n:Nat)(l:List Pr)(a b:Int):zl [aE n l,.int a,.int b]=.ok (.bool (zO l (a,b))) false:=Mk n l a b
def o5:List D->FR:=a9 1 1 h9
def HE{n:Nat}(h1:1<=n)(h8:n<=8):o5 [.int n]=.ok (.list ((OM.bF n).map ax)) true:=by
 have hm:n*n<=64:=QL h8 h8
 have e:aM 1 [0] (.nm 0) (bP (f2 (gv 0) (gv 0) cP)) kJ (bt (ab (f2 (gv 0) (gv 1) CT) (ab (f2 (gv 0) (gv 1) nh) ag))) [.da (.int n)] 0=.ok (.list ((OM.bF n).map ax)) 0:=by
  have hi:bP (f2 (gv 0) (gv 0) cP) [.da (.int n)] 0=.ok ((List.range (n*n)).map λ(k:Nat)=>int (0+(k:Int))) 0:=by
   refine cY (aK rfl rfl ?_) (@AT)
   rw[ni ⟨@AT,@AT ⟩];rfl
  rw[cG (λk=>ax (((k/n:Nat):Int),((k%n:Nat):Int))) hi (by rw[Q7];omega) λk hk=>⟨_,rfl,?_⟩]
  .unfold OM.bF;rw[P8];rfl
  .refine dz (aK rfl rfl ?_) (aK rfl rfl ?_)
   .rw[A7 (@AT) (@AT),QK];rfl
   .rw[pj (@AT),QK];rfl
 show fin (h9 [.fz (.int n)] 0)=_
 unfold h9
 rw[Ep,show vl [Sl.fz (.int n)]= [.da (.int n)]from rfl,e];rfl
def kX(n:Nat)(l:List Pr):List Pr:=(OM.bF n).filter (zO l)
def eV(n:Nat):(OM.bF n).length=n*n:=by unfold OM.bF;simp
def GS(h8:n<=8):(kX n l).length<=64:=by
 have h1:(kX n l).length<=(OM.bF n).length:=Qs _ _
 rw[eV]at h1
 have:n*n<=64:=QL h8 h8
 omega
def Ak(n:Nat)(l:List Pr):OM.uN (kX n l):=OM.cD _ (OM.fL n)
def kq:p∈kX n l↔((0<=p.1/\p.1<n)/\(0<=p.2/\p.2<n))/\zO l p=true:=by
 unfold kX;rw[Pp,OM.bh]
noncomputable def zT:List D->FR:=a9 1 1 (qp mL o5 Mh)
def kZ(h:fa vs β=.ok (.bool c) β):mE fa vs β=.ok c β:=by rw[zU,h];rfl
def A8{n:Nat}{l:List Pr}(O:OM.Ord n l):zT [aE n l]=.ok (.list ((kX n l).map ax)) true:=by
 have hm:n*n<=64:=QL O.hi O.hi
 show fin (qp mL o5 Mh [.fz (aE n l)] 0)=_
 unfold qp
 rw[aI ?g1]
 case g1=>
  show toS (az mL (ab (gv 0) ag) [.da (aE n l)] 0) _=_
  rw[aC rfl (zX O)];rfl
 have e:aM 2 [0] (.two 0 1) (bV (az o5 (ab (f2 (gv 0) (cst (.int 0)) cT) ag))) (mE (az Mh (ab (gv 2) (ab (gv 0) (ab (gv 1) ag))))) (bt (ab (gv 0) (ab (gv 1) ag))) [.da (aE n l)] 0=.ok (.list ((kX n l).map ax)) 0:=by
  have hi:bV (az o5 (ab (f2 (gv 0) (cst (.int 0)) cT) ag)) [.da (aE n l)] 0=.ok ((OM.bF n).map ax) 0:=by
   unfold bV
   rw[aC rfl (HE O.lo O.hi)];rfl
  exact b7 (zO l) ax hi (by rw[eV];omega) λp hp=>⟨_,rfl,kZ (aC rfl (Mk n l p.1 p.2)),λ_=>dz rfl rfl⟩
 show fin (toS (aM 2 [0] (.two 0 1) (bV (az o5 (ab (f2 (gv 0) (cst (.int 0)) cT) ag))) (mE (az Mh (ab (gv 2) (ab (gv 0) (ab (gv 1) ag))))) (bt (ab (gv 0) (ab (gv 1) ag))) [.da (aE n l)] 0) _)=_
 rw[e];rfl
end RM
namespace L2
open PySem PySem.Spec PyProof.Rows
def Ov(K:Frag)(ta:TA):TI:=λσ H R=>ta σ H λvs H2=>(∃a xs,vs= [.ref a]/\fu K H2 a xs/\R (Ot K a) H2)\/∃a xs,vs= [.ref a]/\fU K H2 a xs/\R (Jp K a) H2
section
variable {X:Cx}
def J6{a:Expr}{p pos pt:Pos}{elts:List Expr}{x1}(hg:Gl X "enumerate")(hm:X.mg "enumerate"=none)(ha:PA X [a] ta)(hs:starEach [a] X.env= [(false,eval a X.env)]:=by rfl) :
  PI X (.Tuple elts x1 pt) (.Call (.Name "enumerate" p) [a] [] pos) (Ov X.K ta):=by
 intro pins s σ H R I h
 refine Call_ (l4 I hg hm Cf (QO (cn (ha pos pins s σ H _ I h) λus s1 ⟨vs,H1,I1,r1,q1⟩=>?_) hs rfl))
 have fp:∀c∈yA s1.heap.objs.size,ng X pins H1 c:=λc hc=>by
  have:s1.heap.objs.size<=c:=by
   simp only[yA,Pf,Ql,Rx]at hc
   rcases hc with rfl|rfl<;>first|exact Pd _|exact Nat.le_add_right _ _
  exact I1.fpOk this (I1.hok.fresh this)
 rcases q1 with⟨a,xs,e,h1,q⟩|⟨a,xs,e,h1,q⟩
 .subst e
  cases r1 with
  |cons r rr=>
   cases rr
   cases r
   let⟨its,rv,p1,hz⟩:=I1.tuple h1
   exact y1 (show s1.heap.IsTuple a its.toArray from p1) λh' z1 z2 z3=>SU z1 ⟨_,yA s1.heap.objs.size,_,_,H1,rfl,I1.kept z3,zd a s1.heap.objs.size,⟨⟨_,z1⟩,z2⟩,fp,q⟩
 .subst e
  cases r1 with
  |cons r rr=>
   cases rr
   cases r
   let⟨its,rv,p1,hz⟩:=I1.list h1
   exact call_enumerate_list p1.isList λh' z1 z2 _ z3=>SU z1 ⟨_,yA s1.heap.objs.size,_,_,H1,rfl,I1.kept z3,zG a s1.heap.objs.size,⟨⟨_,z1⟩,z2⟩,fp,q⟩
end
section
variable {X:Cx}{Γ:Fx}{E:XK}{e a b c:Expr}{f fa fb:VF D}{L La Lb:List Nat}{md ma mb:Md}{pos:Pos}
def KJ(fa:VF D):VF (List D):=λvs β=>(fa vs β).bnd λx β1=>match kn x with
 |some ds=>.ok (iU ds) β1
 |none=>.bad
theorem JN{p pt:Pos}{elts:List Expr}{x1}(hK:X.K=Γ.K)(hg:Gl X "enumerate")(hm:X.mg "enumerate"=none)(ha:SE X Γ E a fa La .v)(hs:starEach [a] X.env= [(false,eval a X.env)]:=by rfl)(hs':starEach [a] X.env=(false,eval a X.env)::starEach [] X.env:=by rfl) :
  SI X Γ E (.Tuple elts x1 pt) (.Call (.Name "enumerate" p) [a] [] pos) (KJ fa) La .v:=by
 refine PI.post (J6 hg hm (aP ha bD hs') hs) ?_
 rintro σ H Q ⟨env,G,B,β,I,o⟩
 refine⟨env,G,B,β,I,o.bnd.imp λd1 β1 h x G1 H1 I1 s1 m1 vx=>?_⟩
 have vx:Rp Γ.K G1 x d1:=vx
 rw[hK]
 cases d1 with
 |list ds=>
  cases vx with
  | @lst p xs _ hq r=>exact .inr ⟨p,xs,rfl,.inl (Rd.mono (.inl hq) I1.sub),h _ G1 H1 I1 s1 m1 (ES (λGc H t1 t2 _=>.inl (Rd.mono (.inl hq) (t1.trans t2))) r)⟩
 |tuple ds=>
  cases vx with
  | @tup p xs _ hq r=>exact .inl ⟨p,xs,rfl,hq.grow I1.sub.grow,h _ G1 H1 I1 s1 m1 (Ei hq r)⟩
 |_=>exact h.elim
end
end L2
namespace RM
open PySem L2
def n5:SF:=(bJ (gR (f1 (gv 0) (jL "int")) (f1 (f1 (gv 0) (jL "bool")) Cj)))
def oj:SF:=(bJ (gR (f1 (gv 0) (jL "bool")) (f2 (gv 0) (gv 1) (cR false))))
def oz:SF:=(aF (fE 1 (([]++[])++[]) (f2 (cz (ab (cst (.int 0)) ag)) (f1 (gv 0) dr) D8))
 (aF (dg (.two 2 3) [0] (KJ (gv 0))
 (xg 1 [2] [] (gv 2) (gv 3)))
 (pY 1)))
noncomputable def gK(eJ:List D->FR):SF:=(aF (kh ([]++(([]++[])++([]++[]))) (om (tG (mE (f1 (gv 0) (jL "tuple")))) (om (df (f2 (f1 (gv 0) dr) (gv 1) (cR true))) (tG (mE (f1 (aM 1 [] (.nm 0) (bV (gv 0)) kJ (az eJ (ab (gv 0) ag))) (g7 λbs=>bs.all id))))))
 (bJ (cst (.bool false)))
 nt)
 (bJ (f2 (f1 (gv 0) rE) (f1 (gv 1) bM) (cR false))))
def il(dM:List D->FR):SF:=(aF (bp 1 [] (cz ag))
 (aF (dg (.nm 2) ([]++[]) (bP (f2 (gv 0) (cst (.int 0)) cT))
 (bp 1 ([]++(([]++[])++[0,2])) (f2 (gv 1) (aM 1 [0,2] (.nm 0) (bP (f2 (gv 0) (cst (.int 0)) cT)) (mE (az dM (ab (gv 1) (ab (gv 2) (ab (gv 0) ag))))) (bt (ab (gv 2) (ab (gv 0) ag)))) jF)))
 (pY 1)))
def gL:SF:=(aF (fE 2 [] (cz ag))
 (aF (dg (.nm 3) [] (bP (gv 0))
 (dg (.nm 4) [] (bP (gv 0))
 (aF (bp 5 ([]++[]) (aM 1 [3,4] (.nm 0) (bV (gv 1)) (df (f2 (pw (gv 0) (gv 1)) (pw (gv 0) (gv 2)) Ls)) (cst (.int 1))))
 (kh (([]++[])++([]++[])) (AE (df (f2 (gv 3) (gv 4) (cR true))) (df (f2 (gv 5) (cz ag) (cR false))))
 (mV 2 ([3]++([4]++[])) (bt (ab (gv 3) (ab (gv 4) ag))))
 nt))))
 (bJ (f1 (gv 2) fJ))))
noncomputable def ip(aB aA:List D->Int->FB):SF:=(aF (bp 1 ([]++([]++[])) (f2 (cst (.int 3)) (ij 0 aB (ab (cst (.int 2)) ag)) bO))
 (aF (bp 2 (([]++[])++[]) (ij 0 aA (ab (f1 (f2 (cst (.int 2)) (gv 1) cP) bM) ag)))
 (aF (bp 3 [] (cz ag))
 (aF (dg (.nm 4) [] (bP (gv 1))
 (aF (bp 5 ([]++[]) (aM 1 [4,2,1] (.nm 0) (bP (gv 1)) (df (f2 (gv 0) (gv 1) (cR true))) (f2 (gv 2) (f2 (gv 3) (gv 0) bO) cT)))
 (bp 3 ([]++([]++[])) (f2 (gv 3) (aM 1 [2,4] (.nm 0) (bV (gv 5)) kJ (bt (ab (f2 (gv 1) (gv 2) cT) (ab (gv 0) ag)))) jF))))
 (bJ (bt (ab (f2 (cst (.int 2)) (gv 1) cP) (ab (f1 (f1 (gv 3) iZ) fJ) ag))))))))
def dD(aV:List D->FR)(aB bA aA dX:List D->Int->FB):SF:=(aF (bp 2 ([]++[]) (ij 0 aB (ab (cst (.int 5)) ag)))
 (aF (kh ([]++[]) (df (f2 (gv 2) (cst (.int 4)) (cR false)))
 (bJ (ij 0 bA ag))
 nt)
 (aF (kh ([]++[]) (df (f2 (gv 2) (cst (.int 3)) (cR false)))
 (aF (bp 3 ([]++([1]++[])) (f2 (cst (.int 1)) (ij 0 aB (ab (gv 1) ag)) bO))
 (aF (bp 4 ([]++[]) (aM 1 [0,3] (.nm 0) (bP (cst (.int 2))) kJ (f1 (ij 1 aA (ab (f1 (gv 2) bM) ag)) fJ)))
 (bJ (bt (ab (gv 3) (ab (az aV (ab (gv 3) (ab (gv 4) ag))) ag))))))
 nt)
 (bJ (ij 0 dX (ab (gv 1) ag))))))
end RM
namespace L2
open PySem PyProof.Rows
section
variable {X:Cx}{K:Frag}{σ:St}{G H:Hp}{s:Shared}{E:XK}
def DM(neg:Bool):R2:=λx y H Q=>∃a o,y=.ref a/\o7 H a x o/\Q (.bl (if neg then !o.isSome else o.isSome)) H
def C2(hu:X.A.units+100<cLine):pH X (compareOp .In) (DM false):=by
 intro pins s σ H x y v u Q I rx ry h
 obtain⟨a,o,rfl,hg,q⟩:=h
 cases ry
 exact NY (@AT) I hg rx λs' I'=>⟨.bl o.isSome,H,I',rfl,q⟩
def iH(hu:X.A.units+100<cLine):pH X (compareOp .NotIn) (DM true):=by
 intro pins s σ H x y v u Q I rx ry h
 obtain⟨a,o,rfl,hg,q⟩:=h
 cases ry
 exact Gb (@AT) I hg rx λs' I'=>⟨.bl (!o.isSome),H,I',rfl,q⟩
def CV:List (D×D)->Option (List (Int×Int))
 | []=>some []
 | (.tuple [.int a,.int b],_)::ds=>(CV ds).map λL=>(a,b)::L
 |_=>none
def mR(neg:Bool):D->D->Option D
 | .tuple [.int a,.int b],.dict ds=>(CV ds).map λL=>.bool (if neg then !decide ((a,b)∈L)else decide ((a,b)∈L))
 |_,_=>none
theorem Bl:∀{kvs:List (List Key×V)} {ds:List (D×D)} {L:List (Int×Int)} (p:Int×Int),mZ K G kvs ds->CV ds=some L->(lG kvs (kP p)).isSome=decide (p∈L)
 |_,_,L,p,.nil,h=>by cases h;rfl
 |_,_,L,p,.cons (k:=k) (x:=x) (xs:=xs) (d:=d) (ds:=ds) hx t,h=>by
  unfold CV at h
  split at h
  ·rename_i e;cases e
  ·rename_i a b d' ds' e
   injection e with e1 e2
   injection e1 with e1 _
   subst e2
   cases e3:CV ds with
   |none=>rw[e3]at h;cases h
   |some M=>
    rw[e3]at h
    cases h
    have ih:=Bl p t e3
    have hk:k=kP (a,b):=by
     injection e1 with e1
     match k,e1 with
     | [.inl i,.inl j],e1=>simp[kD]at e1;rw[e1.1,e1.2];rfl
     | [.inl i,.inr j],e1=>simp[kD]at e1
     | [.inr i,_],e1=>simp[kD]at e1
     | [],e1=>simp at e1
     | [_],e1=>simp at e1
     |_::_::_::_,e1=>simp at e1
    subst hk
    by_cases c:p=(a,b)
    .subst c
     rw[lx rfl]
     simp
    .rw[lH (λz=>c (qP.mp z).symm),ih]
     simp[c]
  .cases h
theorem D3(r:yJ K G kvs ds)(h:CV ds=some L):False:=by
 cases r with
 | @one k x d _=>cases k<;>(simp[CV,kD]at h)
 | @cons k x xs d ds _ _=>cases k<;>(simp[CV,kD]at h)
def pL(hn:lW K=true):qf K (DM neg) (mR neg) .v:=by
 intro B G H x y dx dy d Q s hB bx by' e k
 unfold mR at e
 split at e
 .rename_i a b ds
  cases e1:CV ds with
  |none=>rw[e1]at e;cases e
  |some L=>
   rw[e1]at e
   cases e
   obtain⟨p,xs,rfl,hq,r⟩:=bx.tuple s
   have hw:xs= [V.int a,V.int b]:=by
    cases r with
    |cons a1 r=>cases r with
     |cons a2 r=>cases r;cases a1;cases a2;rfl
   subst hw
   have hk:Rd H p (.tup ((kP (a,b)).map kV)):=vC hn hq
   have fin:∀c o,y=.ref c->o7 H c (.ref p) o->o.isSome=decide ((a,b)∈L)->DM neg (.ref p) y H Q:=λc o hy hg ho=>⟨c,o,hy,hg,by rw[ho];exact k _ G H (Ext.refl s) (.bl _)⟩
   have dT:∀c kvs ep,y=.ref c->H c=some (.dT kvs ep)->mZ K G kvs ds->DM neg (.ref p) y H Q:=λc kvs ep hy hc r=>fin c _ hy (o7.t hc hk) (Bl (a,b) r e1)
   rcases by' with h|⟨c,rfl,_,h⟩
   .cases h with
    |scr h=>cases e1
    |dK h r=>exact(D3 r e1).elim
    |dT h r=>exact dT _ _ _ rfl (s _ _ h) r
   .rcases h with⟨kvs,h,r⟩|⟨kvs,h,r⟩
    .exact (D3 r e1).elim
    .exact dT _ _ _ rfl h r
 .cases e
def fV.u2(r:fV k A):A.units+2<cLine:=by have:=r.units;omega
end
end L2
namespace L2
open PySem PySem.Spec PyProof.Rows
def Kn(tk tv:TE):TE:=λσ H Q=>∀p,H p=none->tk σ (upd H p (.dT [] 0)) λx H1=>tv σ H1 λy H2=>H2 p=some (.dT [] 0)/\∃(b:Addr) (ks:List Key),x=.ref b/\Rd H2 b (.tup (ks.map kV))/\Q (.ref p) (upd H2 p (.dT [(ks,y)] 1))
def D7{X:Cx}{pos:Pos}(hu:X.A.units+1<cLine)(hk:PE X k tk)(hv:PE X v tv):PE X (.Dict [some k] [v] pos) (Kn tk tv):=by
 intro pins s σ H Q I q
 have hn:=I.hok.fresh (Pd s.heap.objs.size)
 have I1:=I.laid (t':=s.toks) (λ_ _ q=>Pb _ q) (Pd _) (wF s.heap I.big)
 have q:=q _ hn
 rw[arm_eval_Dict,zip_pairTrees [some k] [v] X.env pos rfl rfl,dictDisplay_pairs _ (by simp[pairTrees]) (by simp[pairTrees])]
 refine O8 (wpAny_standAt (O8 ?_))
 unfold subDict
 refine O8 (wpAny_alloc (O8 (Qc ?_)))
 rw[Pe (by simp[pairTrees])]
 refine O8 (pairTrees_cons_walk (cn (hk pins _ σ _ _ I1 q) λu s1 ⟨x,H1,I2,rx,q1⟩=>cn (hv pins s1 σ H1 _ I2 q1) λw2 s2 ⟨y,H2,I3,ry,hd,b,ks,ex,hb,q2⟩=>pairTrees_nil_walk ?_))
 subst ex
 cases rx
 let⟨z,hs,xs,rel,dd,di⟩:=jA I3.hok (.inl hd)
 cases rel
 refine Qc (O8 ?_)
 rw[List.forIn_cons]
 refine O8 (O8 (su (show X.A.units<cLine by omega) (lj I3.hok hb) di dd (by rw[PX];simp) (λh' dd' hs'=>Pa ?_)))
 show wpAny _ _ (forIn [] PUnit.unit _) _ _ _
 rw[List.forIn_nil]
 refine Pa (Pa (Pa (Pa ⟨.ref s.heap.objs.size,_,?_,rfl,q2⟩)))
 obtain⟨q',hq⟩:∃q,h'.get? s.heap.objs.size=some q:=let⟨q,_,hq,_⟩:=dd';⟨q,hq⟩
 refine oE I3 (by rw[hd];exact True.intro) hs' ⟨q',hq⟩ ⟨by rw[PX];simp,hs,_,(KT.put .nil ks hb ry).keeps λc ys ec=>?_,dd'⟩
 exact ec.imp (λec=>by rw[av (mJ ec hd (λz=>nomatch z))];exact ec) λ⟨o,ec⟩=>⟨o,by rw[av (mJ ec hd (λz=>nomatch z))];exact ec⟩
section
variable {X:Cx}{Γ:Fx}{E:XK}{e a b:Expr}{f fa fb:VF D}{L La Lb:List Nat}{ma mb:Md}{pos:Pos}{K:Frag}{G H:Hp}
def qh:D->Option (Int×Int)
 | .tuple [.int a,.int b]=>some (a,b)
 |_=>none
def vH(h:qh d=some p):d=.tuple [.int p.1,.int p.2]:=by
 unfold qh at h
 split at h
 .cases h;rfl
 .cases h
def OW(p:Int×Int):D:=.tuple [.int p.1,.int p.2]
def jE:List (D×D)->Option (List ((Int×Int)×D))
 | []=>some []
 | (k,v)::ds=>match qh k,jE ds with
  |some p,some L=>some ((p,v)::L)
  |_,_=>none
theorem A4:∀L:List ((Int×Int)×D),jE (L.map λq=>(OW q.1,q.2))=some L
 | []=>rfl
 | (p,v)::L=>by
  rw[PL]
  unfold jE
  rw[A4 L];rfl
def yB(L:List ((Int×Int)×D))(p:Int×Int):Option D:=(L.find? λq=>decide (q.1=p)).map (·.2)
theorem ID(h:qh (.tuple (k.map kD))=some p):k=kP p:=by
 have h:=vH h
 injection h with h
 match k,h with
 | [.inl i,.inl j],h=>simp[kD]at h;rw[h.1,h.2];rfl
 | [.inl i,.inr j],h=>simp[kD]at h
 | [.inr i,_],h=>simp[kD]at h
 | [],h=>simp at h
 | [_],h=>simp at h
 |_::_::_::_,h=>simp at h
theorem zm:∀{kvs:List (List Key×V)} {ds:List (D×D)} {L:List ((Int×Int)×D)} (p:Int×Int),mZ K G kvs ds->jE ds=some L->(yB L p=none/\lG kvs (kP p)=none)\/∃d v,yB L p=some d/\lG kvs (kP p)=some v/\Rp K G v d
 |_,_,_,p,.nil,h=>by cases h;exact .inl ⟨rfl,rfl⟩
 |_,_,L,p,.cons (k:=k) (x:=x) (xs:=xs) (d:=d) (ds:=ds) hx t,h=>by
  unfold jE at h
  cases e1:qh (.tuple (k.map kD))with
  |none=>rw[e1]at h;cases h
  |some q=>
   cases e2:jE ds with
   |none=>rw[e1,e2]at h;cases h
   |some M=>
    rw[e1,e2]at h
    cases h
    have hk:=ID e1
    subst hk
    by_cases c:q=p
    .subst c
     exact .inr ⟨d,x,by simp[yB],by rw[lx rfl],hx⟩
    .have h1:yB ((q,d)::M) p=yB M p:=by simp[yB,Rl,c]
     rw[h1,lH (λz=>c (qP.mp z))]
     exact zm p t e2
def De(hn:lW K=true)(bx:lg K B G H x d)(s:ao G H)(h:qh d=some p):∃c,x=.ref c/\Rd H c (.tup ((kP p).map kV)):=by
 have e:=vH h
 subst e
 obtain⟨c,xs,rfl,hq,r⟩:=bx.tuple s
 have hw:xs= [V.int p.1,V.int p.2]:=by
  cases r with
  |cons a1 r=>cases r with
   |cons a2 r=>cases r;cases a1;cases a2;rfl
 subst hw
 exact⟨c,rfl,vC hn hq⟩
def pO:D->D->Option D
 | .dict ds,k=>match jE ds,qh k with
  |some L,some p=>yB L p
  |_,_=>none
 |_,_=>none
def HV(hn:lW K=true)(s:ao G H)(bx:lg K B G H x dx)(by':lg K B G H y dy)(e:pO dx dy=some d):∃c v,x=.ref c/\o7 H c y (some v)/\Rp K G v d:=by
 unfold pO at e
 split at e
 .rename_i ds
  cases e1:jE ds with
  |none=>rw[e1]at e;cases e
  |some L=>
   cases e2:qh dy with
   |none=>rw[e1,e2]at e;cases e
   |some p=>
    rw[e1,e2]at e
    dsimp only at e
    obtain⟨c2,rfl,hk⟩:=De hn by' s e2
    have T:∀c kvs ep,H c=some (.dT kvs ep)->mZ K G kvs ds->∃c' v,V.ref c=.ref c'/\o7 H c' (.ref c2) (some v)/\Rp K G v d:=λc kvs ep hc r=>by
     rcases zm p r e1 with⟨z,_⟩|⟨d',v,z1,z2,rv⟩
     .rw[e]at z;cases z
     .rw[e]at z1
      cases z1
      exact⟨c,v,rfl,by rw[<-z2];exact o7.t hc hk,rv⟩
    have Kk:∀kvs,yJ K G kvs ds->False:=λkvs r=>by
     cases r with
     | @one k x d _=>cases k<;>(simp[jE,kD,qh]at e1)
     | @cons k x xs d ds _ _=>cases k<;>(simp[jE,kD,qh]at e1)
    rcases bx with h|⟨c,rfl,_,h⟩
    .cases h with
     |scr h=>simp[jE,qh]at e1
     |dK h r=>exact(Kk _ r).elim
     |dT h r=>exact T _ _ _ (s _ _ h) r
    .rcases h with⟨kvs,h,r⟩|⟨kvs,h,r⟩
     .exact (Kk _ r).elim
     .exact T _ _ _ h r
 .cases e
def AF(hu:X.A.units+2<cLine)(hn:lW Γ.K=true)(ha:SE X Γ E a fa La ma)(hb:SE X Γ E b fb Lb mb)(hs:J2 b):SE X Γ E (.Subscript a b pos) (f2 fa fb pO) (La++Lb) .v:=by
 refine PE.post' (FX (@AT) ha hb hs) λσ H Q ⟨env,G,B,β,I,o⟩=>⟨env,G,B,β,I,o.bnd.imp λd1 β1 h x G1 H1 I1 s1 m1 vx=>⟨a8 La env,G1,B,β1,I1,?_⟩⟩
 rw[fB]
 refine h.bnd.imp λd2 β2 h y G2 H2 I2 s2 m2 vy=>?_
 let⟨d,e,k⟩:=h.of
 obtain⟨c,v,rfl,g,rv⟩:=HV hn I2.sub ((vx.brw I.boxThere).mono s2 m2) (vy.brw I1.boxThere) e
 exact⟨c,v,rfl,g,k v G2 H2 (by rw[b8];exact I2) (s1.trans s2) (m1.trans m2) rv⟩
def IL(i:Nat):VF D:=λvs β=>(gv i vs β).bnd λk β1=>match qh k with
 |some _=>.ok (.dict [(k,.none)]) β1
 |none=>.bad
theorem HZ(i:Nat)(hb:Γ.br i=false)(hu:X.A.units+2<cLine)(hn:lW Γ.K=true){np cp:Pos}{j}(hN:X.N[i]? =some x:=by rfl)(hv:yW X.env.scope x:=by first|exact Or.inl rfl|exact Or.inr (Or.inl rfl)|exact Or.inr (Or.inr rfl))(hd:(x==("__debug__":Str))=false:=by decide)
  (hcd:(x==("__classdict__":Str))=false:=by decide):SE X Γ E (.Dict [some (.Name x np)] [.Constant .none j cp] pos) (IL i) [i] .w:=by
 refine PE.post' (D7 (@AT) (g8 hN hv hd hcd) EM) λσ H Q ⟨env,G,B,β,I,o⟩ p hp=>?_
 have o:=o.bnd
 let⟨d,e,k⟩:=o.of
 cases q:qh d with
 |none=>rw[q]at k;exact k.elim
 |some pr=>
  rw[q]at k
  have k:∀v G' H',SR Γ B G' H' σ (a8 [i] env) β->ao G G'->iK B H H'->VO Γ.K B H G' H' .w (.dict [(d,.none)]) v->Q v H':=k
  let⟨G',v,I',s,h1,h2⟩:=I.freeze i hb (join_some e)
  obtain⟨c,rfl,hr⟩:=De (B:=B) hn (.inl h2) I'.sub q
  have nc:c≠p:=λz=>HL hr (by rw[z];exact hp)
  refine⟨_,h1,au,c,kP pr,rfl,hr.imp (λz=>by rw[av nc];exact z) (λ⟨o,z⟩=>⟨o,by rw[av nc];exact z⟩),?_⟩
  rw[GA]
  have xn:=Ext.own I'.sub (o:=.dT [(kP pr,V.non)] 1) hp
  refine k _ _ _ (I'.ext xn) s (xn.hh.mov B) ⟨p,rfl,hp,I'.sub.free hp,.inr ⟨([(kP pr,V.non)],1),au,?_⟩⟩
  rw[vH q]
  exact .cons .non .nil
def Br:Option Sl->Bool
 |some (.ow (.dict _))=>true
 |_=>false
def Aj(h:Br o=true):∃ds,o=some (.ow (.dict ds)):=by
 unfold Br at h
 split at h
 .exact⟨_,rfl⟩
 .cases h
def putN(ds:List (D×D))(k v:D):Option (List (D×D)):=match jE ds,qh k with
 |some L,some p=>if(yB L p).isNone=true/\L.length<1000/\0<L.length then some (ds++[(k,v)])else none
 |_,_=>none
def DD(i:Nat)(Lv Lk:List Nat)(fv fk:VF D):SF:=λenv β=>toS (fv (vl env) β) λv β1=>if Br (a8 Lv env)[i]? =true then toS (fk (vl env) β1) λk β2=>(match(a8 (Lv++Lk) env)[i]? with
 |some (.ow (.dict ds))=>(match putN ds k v with
  |some es=>.nx ((a8 (Lv++Lk) env).set i (.ow (.dict es))) β2
  |none=>.bad)
 |_=>.bad)else .bad
theorem Aq:∀{kvs:List (List Key×V)} {ds:List (D×D)} {L:List ((Int×Int)×D)},mZ K G kvs ds->jE ds=some L->kvs.length=L.length
 |_,_,_,.nil,h=>by cases h;rfl
 |_,_,L,.cons (k:=k) (x:=x) (xs:=xs) (d:=d) (ds:=ds) hx t,h=>by
  unfold jE at h
  cases e1:qh (.tuple (k.map kD))with
  |none=>rw[e1]at h;cases h
  |some q=>
   cases e2:jE ds with
   |none=>rw[e1,e2]at h;cases h
   |some M=>
    rw[e1,e2]at h
    cases h
    simp[Aq t e2]
theorem yo:∀{kvs:List (List Key×V)} {ds:List (D×D)} {k:List Key} {v:V} {d:D},mZ K G kvs ds->Rp K G v d->mZ K G (kvs++[(k,v)]) (ds++[(.tuple (k.map kD),d)])
 |_,_,_,_,_,.nil,r=>.cons r .nil
 |_,_,_,_,_,.cons hx t,r=>.cons hx (yo t r)
def Gv(i:Nat){np spos:Pos}(hu:X.A.units+2<cLine)(hn:lW Γ.K=true)(hb:∀j,Γ.br j=false)(he:SE X Γ E e f La .v)(hi:SE X Γ E a fa Lb mb)(hN:X.N[i]? =some x:=by rfl)(hv:yW X.env.scope x:=by first|exact Or.inl rfl|exact Or.inr (Or.inl rfl)|exact Or.inr (Or.inr rfl))(hd:(x==("__debug__":Str))=false:=by decide)
  (hcd:(x==("__classdict__":Str))=false:=by decide) (hs:swapsWith e (some (.Subscript (.Name x np) a spos)) pos.line X.env=pure false:=by rfl) :
  SS X Γ E (.Assign [.Subscript (.Name x np) a spos] e pos) (DD i La Lb f fa):=by
 refine PS.post (GZ (@AT) (g8 hN hv hd hcd) hi he hs) λN σ H ⟨env,G,B,β,I,o⟩=>⟨env,G,B,β,I,cx o λd β1 o v G1 H1 I1 s1 m1 vo=>?_⟩
 by_cases hO:Br (a8 La env)[i]? =true
 case neg=>rw[Pg hO]at o;exact o.elim
 rw[Pe hO]at o
 let⟨ds0,q0⟩:=Aj hO
 let⟨p,h1,_,_,_,_⟩:=I1.slot i _ q0
 refine⟨_,h1,a8 La env,G1,B,β1,I1,?_⟩
 rw[fB]
 refine cx o λk β2 o w G2 H2 I2 s2 m2 vi=>?_
 rw[<-b8]at I2
 split at o
 .rename_i ds q
  cases e3:putN ds k d with
  |none=>rw[e3]at o;exact o.elim
  |some es=>
   rw[e3]at o
   unfold putN at e3
   cases e1:jE ds with
   |none=>rw[e1]at e3;cases e3
   |some L=>
    cases e2:qh k with
    |none=>rw[e1,e2]at e3;cases e3
    |some pr=>
     rw[e1,e2]at e3
     dsimp only at e3
     split at e3
     .rename_i hz
      cases e3
      obtain⟨c2,rfl,hk⟩:=De hn (vi.brw I1.boxThere) I2.sub e2
      let⟨p',g1,g2,g3,g4,g5⟩:=I2.slot i _ q
      rw[h1]at g1;cases g1
      have vo:Rp Γ.K G1 v d:=vo
      have hk2:k=.tuple ((kP pr).map kD):=by rw[vH e2];rfl
      rcases g5 with⟨kvs,g,r⟩|⟨⟨kvs,ep⟩,g,r⟩
      .exfalso
       cases r with
       | @one k x d _=>cases k<;>(simp[jE,kD,qh]at e1)
       | @cons k x xs d ds _ _=>cases k<;>(simp[jE,kD,qh]at e1)
      .have hvn:lG kvs (kP pr)=none:=by
        rcases zm pr r e1 with⟨_,z⟩|⟨d',v',z,_⟩
        .exact z
        .rw[z]at hz;exact absurd hz.1 (by simp)
       have hl:=Aq r e1
       refine⟨p,_,rfl,FC.t g hk (by rw[hl,PX];have:=hz.2.1;omega),?_⟩
       rw[Fd _ hvn]
       refine o B G2 _ σ (I2.write hb q h1 λH3 e4 s3=>.inr ⟨(_,_),e4,?_⟩) (s1.trans s2)
       rw[hk2]
       exact yo r (vo.mono s2)
     .cases e3
 .exact o.elim
end
def ME{H:Hp}{a:Addr}(x:Rd H a (.dT k e))(y:Rd H a (.dT k' e')):k=k'/\e=e':=by
 rcases x with x|⟨o,x⟩<;>rcases y with y|⟨o',y⟩<;>rw[x]at y<;>cases y<;>exact⟨rfl,rfl⟩
def NZ(a:Addr)(n ep:Nat):It:=
 ⟨λi H=>∃kvs,Rd H a (.dT kvs ep)/\kvs.length=n/\i<n,
  λi H x H'=>H'=H/\∃b,x=.ref b/\∀kvs,Rd H a (.dT kvs ep)->∃kv,kvs[i]? =some kv/\Rd H b (.tup (kv.1.map kV)),
  λi H=>∃kvs,Rd H a (.dT kvs ep)/\kvs.length=n/\n<=i⟩
theorem KT.at{H:Hp}:∀{kvs:List (List Key×V)} {xs:List (List Key×Addr×Value)} {i:Nat} {x:List Key×Addr×Value},KT H kvs xs->xs[i]? =some x->∃kv,kvs[i]? =some kv/\kv.1=x.1/\Rd H x.2.1 (.tup (kv.1.map kV))
 |_,_,_,_,.nil,e=>by simp at e
 |_,_,0,_,.cons h _,e=>by simp at e;subst e;exact⟨_,rfl,h.1,h.2.1⟩
 |_,_,i+1,_,.cons _ t,e=>by
  obtain⟨kv,h1,h2⟩:=KT.at t (by simpa using e)
  exact⟨kv,by simpa using h1,h2⟩
def B3{K:Frag}{tg:Expr}(a it:Addr)(n ep:Nat):Turn P w K tg (NZ a n ep) [it] it (λi h=>h.IsKeyIter it a i n ep) where
 mem:=by simp
 obj:=λi h st b hb=>by
  have e:b=it:=by simpa using hb
  subst e
  let⟨o,e,c,d⟩:=st
  exact⟨o,e,λv z=>by rw[d]at z;cases z⟩
 keep:=λi h h' st k=>let⟨o,e,r⟩:=st;⟨o,k it (by simp) o e,r⟩
 item:=by
  intro X hP hw hK hc i pins s σ H E I hf st ⟨kvs,hq,hn,hi⟩
  subst hP hw hK
  let⟨z,hs,xs,rel,dd,di⟩:=jA I.hok hq
  have hl:kvs.length=xs.length:=Paired.length rel
  have hn:n=xs.length:=hn.symm.trans hl
  subst hn
  have hx:xs[i]? =some xs[i]:=O9 hi
  let⟨kv,h1,h2,h3⟩:=rel.at hx
  let⟨f0,f1,f2,f3,f4,f5⟩:=hf it (by simp)
  refine qU st dd hx λh' st' sb=>?_
  have I1:Inv X pins σ H {s with heap:=h'}:=I.turned (λb o hb e=>(sb.2 b hb).trans e) f0 f1 f3 f4 f5
  let⟨o,e,c,d⟩:=id st'
  exact⟨_,rfl,AL e c d @A_ ⟨.ref xs[i].2.1,H,I1,rfl,⟨rfl,_,rfl,λks hk=>by obtain⟨rfl,_⟩:=ME hk hq;exact⟨kv,h1,h3⟩⟩,st',λb hb=>(hf b hb).1⟩⟩
 done:=by
  intro X hP hw hK hc i pins s σ H E I hf st ⟨kvs,hq,hn,hi⟩
  subst hP hw hK
  let⟨z,hs,xs,rel,dd,di⟩:=jA I.hok hq
  have hl:kvs.length=xs.length:=Paired.length rel
  have hn:n=xs.length:=hn.symm.trans hl
  subst hn
  let⟨f0,f1,f2,f3,f4,f5⟩:=hf it (by simp)
  exact uA (I.ok.hd hc) st dd hi λh' eb=>⟨rfl,I.turned (λb o hb e=>eb b o hb e) f0 f1 f3 f4 f5⟩
 self:=λA i s Q E st h=>wpAny_pyIter_keyiter st h
def Ox(tl:TE):TI:=λσ H R=>tl σ H λx H1=>∃a kvs ep,x=.ref a/\Rd H1 a (.dT kvs ep)/\R (NZ a kvs.length ep) H1
def Dl{X:Cx}{tg l:Expr}(hl:PE X l tl):PI X tg l (Ox tl):=by
 intro pins s σ H R I h
 refine cn (hl pins s σ H _ I h) λv s1 ⟨x,H1,I1,r1,q1⟩=>?_
 obtain⟨a,kvs,ep,rfl,hq,q⟩:=q1
 cases r1
 let⟨z,hs,xs,rel,dd,di⟩:=jA I1.hok hq
 have hn:xs.length=kvs.length:=(Paired.length rel).symm
 refine sd hs dd ?_
 rw[hn]
 refine⟨s1.heap.objs.size,[s1.heap.objs.size],_,_,H1,rfl,I1.kept λb o e=>Pb _ e,B3 a _ _ _,⟨_,Pl _ rfl,rfl,rfl⟩,λb hb=>?_,q⟩
 have e:b=s1.heap.objs.size:=by simpa using hb
 subst e
 exact I1.fpOk (Pd _) (I1.hok.fresh (Pd _))
section
variable {X:Cx}{Γ:Fx}{E:XK}{a:Expr}{fa:VF D}{La:List Nat}{ma:Md}{tg:Expr}{K:Frag}{G H:Hp}
theorem mZ.at:∀{kvs:List (List Key×V)} {ds:List (D×D)} {i:Nat} {kv:List Key×V},mZ K G kvs ds->kvs[i]? =some kv->∃d,ds[i]? =some (.tuple (kv.1.map kD),d)/\Rp K G kv.2 d
 |_,_,_,_,.nil,e=>by simp at e
 |_,_,0,_,.cons r _,e=>by simp at e;subst e;exact⟨_,rfl,r⟩
 |_,_,i+1,_,.cons _ t,e=>by
  obtain⟨d,h1,h2⟩:=mZ.at t (by simpa using e)
  exact⟨d,by simpa using h1,h2⟩
theorem mZ.len:∀{kvs:List (List Key×V)} {ds:List (D×D)},mZ K G kvs ds->kvs.length=ds.length
 |_,_,.nil=>rfl
 |_,_,.cons _ t=>by simp[mZ.len t]
theorem qu:∀ks:List Key,bS K G (ks.map kV) (ks.map kD)
 | []=>.nil
 | .inl i::ks=>.cons (.int i) (qu ks)
 | .inr x::ks=>.cons (.str x) (qu ks)
def rh(h:∀Gc H,ao G Gc->ao Gc H->iK B H1 H->Rd H p (.dT kvs ep))(r:mZ K G kvs ds):Walk K B G H1 (ds.map (·.1)) (NZ p kvs.length ep):=λGc H i s1 s2 m=>by
 have hq:=h Gc H s1 s2 m
 have hl:=r.len
 rw[Pc]
 refine⟨λhi=>⟨⟨kvs,hq,rfl,@AT ⟩,λx H' y=>?_⟩,λhi=>⟨kvs,hq,rfl,@AT ⟩⟩
 obtain⟨rfl,b,rfl,y⟩:=y
 let⟨kv,h1,h2⟩:=y kvs hq
 let⟨d,h3,_⟩:=r.at h1
 exact⟨jc Gc H',_,Ext.tups s2 (ao.refl _),by rw[Pt,h3];rfl,.tup (i6 s2 (.inl h2)) (qu _)⟩
def Gx(fa:VF D):VF (List D):=λvs β=>(fa vs β).bnd λx β1=>R.of (match x with
 | .dict ds=>(jE ds).map λ_=>ds.map (·.1)
 |_=>none) β1
theorem qw(r:yJ K G kvs ds)(h:jE ds=some L):False:=by
 cases r with
 | @one k x d _=>cases k<;>(simp[jE,kD,qh]at h)
 | @cons k x xs d ds _ _=>cases k<;>(simp[jE,kD,qh]at h)
theorem Fl{x:D}{es:List D}(e:(match x with
 | .dict ds=>(jE ds).map λ_=>ds.map (·.1)
 |_=>none)=some es):∃ds L,x=.dict ds/\jE ds=some L/\es=ds.map (·.1):=by
 split at e
 .rename_i ds
  cases q:jE ds with
  |none=>rw[q]at e;cases e
  |some L=>rw[q]at e;cases e;exact⟨ds,L,rfl,q,rfl⟩
 .cases e
theorem wq(r:Rp K G v (.dict ds))(h:jE ds=some L):∃p kvs ep,v=.ref p/\G p=some (.dT kvs ep)/\mZ K G kvs ds:=by
 cases r with
 |scr _=>simp[jE,qh]at h
 |dK _ r=>exact(qw r h).elim
 |dT q r=>exact⟨_,_,_,rfl,q,r⟩
def AJ(r:lg K B G H v (.dict ds))(h:jE ds=some L)(s:ao G H):∃p kvs ep,v=.ref p/\H p=some (.dT kvs ep)/\mZ K G kvs ds:=by
 rcases r with r|⟨p,rfl,_,r⟩
 .obtain⟨p,kvs,ep,rfl,q,r⟩:=wq r h
  exact⟨p,kvs,ep,rfl,s _ _ q,r⟩
 .rcases r with⟨k,_,r⟩|⟨k,q,r⟩
  .exact (qw r h).elim
  .exact⟨p,_,_,rfl,q,r⟩
def Ms(ha:SE X Γ E a fa La .v):SI X Γ E tg a (Gx fa) La .v:=by
 refine PI.post (Dl ha) λσ H Q ⟨env,G,B,β,I,o⟩=>⟨env,G,B,β,I,o.bnd.imp λd1 β1 h x G1 H1 I1 s1 m1 vx=>?_⟩
 let⟨es,e,k⟩:=h.of
 obtain⟨ds,L,rfl,hd,rfl⟩:=Fl e
 obtain⟨p,kvs,ep,rfl,q,r⟩:=wq (show Rp Γ.K G1 x (.dict ds)from vx) hd
 exact⟨p,kvs,ep,rfl,.inl (I1.sub _ _ q),k _ G1 H1 I1 s1 m1 (rh (λGc H t1 t2 _=>.inl ((t1.trans t2) _ _ q)) r)⟩
def DE(ha:SE X Γ E a fa La ma):SI X Γ E tg a (Gx fa) La .b:=by
 refine PI.post (Dl ha) λσ H Q ⟨env,G,B,β,I,o⟩=>⟨env,G,B,β,I,o.bnd.imp λd1 β1 h x G1 H1 I1 s1 m1 vx=>?_⟩
 let⟨es,e,k⟩:=h.of
 obtain⟨ds,L,rfl,hd,rfl⟩:=Fl e
 rcases vx.brw I.boxThere with r|⟨p,rfl,hb,r⟩
 .obtain⟨p,kvs,ep,rfl,q,r⟩:=wq r hd
  exact⟨p,kvs,ep,rfl,.inl (I1.sub _ _ q),k _ G1 H1 I1 s1 m1 (rh (λGc H t1 t2 _=>.inl ((t1.trans t2) _ _ q)) r)⟩
 .rcases r with⟨kk,_,r⟩|⟨kk,q,r⟩
  .exact (qw r hd).elim
  .exact⟨p,_,_,rfl,.inl q,k _ G1 H1 I1 s1 m1 (rh (λGc H t1 t2 mv=>.inl (mv.1 p _ q hb)) r)⟩
def KU{P:Program}{w:World}{A:Around}{E:@B_}{s:Shared}{κ:Type}[DecidableEq κ]{kd:HeapKind P w κ}{d:Addr}{ep:Nat}{xs:List (κ×Addr×Value)}{Q:Bool->Shared->Prop}(nm:(d==sysModules)=false)(m:tE kd s.heap d xs ep)(hz:xs.length<=sizeLine)
  (q:∀t,Q (!xs.isEmpty) {s with toks:=t}):wpAny (model P w) A (truthy (.ref d)) Q E s:=by
 let⟨o,es,eo,ex,ed,el,nd⟩:=m
 have ty:s.TypeIs (.ref d) "dict":=⟨o,eo,ex.1⟩
 have sz:=Ri el
 have hs:sizeLine=16777216:=PX
 have ne:((xs.length:Int) != 0)= !xs.isEmpty:=by cases xs<;>simp<;>omega
 have ky:wpAny (model P w) A (runValue (.builtin "len" ⟨[.ref d],[]⟩)) (λr s'=>(∃t,r=.int xs.length t)/\Q (!xs.isEmpty) s') E s:=by
  refine wpAny_runValue (QN entry_len ?_)
  rw[QS plain_len _]
  unfold Builtin.«len»
  refine O8 (Pa (O8 (m:=callSpecial? (.ref d) (Str.ofString "__len__")) (QP ty F.slot_dict_len (Qv F.slot_dict_len ty F.entry_dict_len ?_ (F.args_dict_len_1 _)))))
  show wpAny _ _ (dictSize d >>= _) _ _ s
  unfold dictSize
  refine O8 (O8 (QU eo ed (Pa ?_)))
  refine O8 (wpAny_pendingCount_other nm (wpAny_ret_mkInt ?_))
  rw[show((es.size:Int)+((0:Nat):Int))=(xs.length:Int) by rw[sz];simp]
  refine O8 (Qc (Pa (O8 (wpAny_letGo ?_))))
  rw[Pg (@AT)]
  rw[Pg (@AT)]
  exact O8 (wpAny_mkInt (Pa ⟨⟨_,rfl⟩,q _⟩))
 unfold truthy
 first
  |refine O8 (wpAny_callSpecial?_none ty noBool_dict ?_)
  |refine O8 (Pa (O8 (wpAny_callSpecial?_none ty noBool_dict ?_)))
 first
  |refine O8 (Q9 ty F.slot_dict_len.lookup ?_)
  |refine O8 (Pa (O8 (Q9 ty F.slot_dict_len.lookup ?_)))
 first
  |exact O8 (cn ky λr s' ⟨⟨t,er⟩,h⟩=>by subst er;exact Pa (ne▸h))
  |exact O8 (Pa (O8 (cn ky λr s' ⟨⟨t,er⟩,h⟩=>by subst er;exact Pa (ne▸h))))
def Mo(ta:TE):TT:=λσ H Q=>ta σ H λx H1=>∃p kvs ep,x=.ref p/\Rd H1 p (.dT kvs ep)/\Q (!kvs.isEmpty) H1
def Hq{ta:TE}(ha:PE X a ta)(he:∀whole,isTrue a X.env whole=(do let v <-whole;standAt a.pos;holding [v] (truthy v))):PT X a (Mo ta):=by
 intro pins s σ H Q I h
 refine isTrue_plain (cn (ha pins s σ H _ I h) λv s1 ⟨x,H1,I1,r1,q1⟩=>?_) (he _)
 obtain⟨p,kvs,ep,rfl,hq,q⟩:=q1
 cases r1
 let⟨z,hs,xs,rel,dd,di⟩:=jA I1.hok hq
 have hn:kvs.length=xs.length:=Paired.length rel
 refine KU hs dd (@AT) λt=>⟨H1,I1.tok t,?_⟩
 have:xs.isEmpty=kvs.isEmpty:=by cases rel<;>rfl
 rw[this];exact q
def HG(fa:VF D):VF Bool:=λvs β=>(fa vs β).bnd λx β1=>R.of (match x with
 | .dict ds=>(jE ds).map λ_=> !ds.isEmpty
 |_=>none) β1
def JC(ha:SE X Γ E a fa La ma)(he:∀whole,isTrue a X.env whole=(do let v <-whole;standAt a.pos;holding [v] (truthy v)):=by intro _;rfl):yX X Γ E a (HG fa) La:=by
 refine PT.post (Hq ha he) λσ H Q ⟨env,G,B,β,I,o⟩=>⟨env,G,B,β,I,o.bnd.imp λd1 β1 h x G1 H1 I1 s1 m1 vx=>?_⟩
 let⟨c,e,k⟩:=h.of
 have bx:=vx.brw I.boxThere
 split at e
 .rename_i ds
  cases q:jE ds with
  |none=>rw[q]at e;cases e
  |some L=>
   rw[q]at e
   cases e
   obtain⟨p,kvs,ep,rfl,hq,r⟩:=AJ bx q I1.sub
   have:kvs.isEmpty=ds.isEmpty:=by cases r<;>rfl
   exact⟨p,kvs,ep,rfl,.inl hq,by rw[this];exact k G1 H1 I1 s1 m1⟩
 .cases e
end
section
variable {P:Program}{w:World}{κ:Type}[DecidableEq κ]{kd:HeapKind P w κ}{A:Around}{E:@B_}{s:Shared}
def Bu{v:Value}{Q:Unit->Shared->Prop}(r:kd.room A)(hk:kd.is s.heap k a)(is:∀x∈xs,kd.is s.heap x.1 x.2.1)(m:tE kd s.heap d xs ep)(z:xs.length<=sizeLine)
  (q:∀h' e',tE kd h' d (storedH xs k a v) e'->Heap.SameBut d s.heap h'->Q () {s with heap:=h'}):wpAny (model P w) A (dictSetHashed d (.ref a) (kd.hash k) v) Q E s:=by
 let⟨o,es,eo,ex,ed,el,nd⟩:=m
 unfold dictSetHashed
 try(with_reducible refine Qc ?_)
 refine O8 (wpAny_dictFind_heap r hk eo ed el is nd (λno=>?_) (λj p hj=>?_))
 .have nk:=atKey_none_of_get no
  have nm:k∉xs.map (·.1):=not_mem_keys_of_get no
  refine O8 (SJ (wpAny_updateDictKeys (hz:=by have:=Ri el;omega) eo ed
   (q _ (ep+1) ⟨_,es.push ⟨kd.hash k,.ref a,v⟩,PY _ eo (RZ (Rj ed _)),ex.mapDictKeys _,Rj ed _,by rw[storedH_new nk];simp[el,entryOfKey],?_⟩ (Heap.SameBut.update ..))))
  rw[storedH_new nk,PV,QI]
  refine⟨nd,by simp,λx hx y hy e=>nm ?_⟩
  simp at hy
  rw[<-hy,<-e];exact hx
 .have ok:=atKey_of_get nd hj
  refine O8 (SJ (O8 (wpAny_updateDict eo ed
   (wpAny_point (q _ ep ⟨_,es.modify j λe=>{e with val:=v},PY _ eo (RZ (Obj.data_mapDict ed _)),ex.mapDict _,Obj.data_mapDict ed _,?_,by rw[storedH_old ok,keys_map_putAt];exact nd⟩ (Heap.SameBut.update ..))))))
  rw[storedH_old ok]
  have t:=modify_map_putAt (entryOfKey kd) (λe:DictEntry=>{e with val:=v}) k v (λ_ _=>rfl) nd hj
  rw[<-el]at t
  cases es
  simpa using t
def lE(xs ys:List (κ×Addr×Value)):List (κ×Addr×Value):=ys.foldl (λacc y=>storedH acc y.1 y.2.1 y.2.2) xs
def FZ(xs:List (κ×Addr×Value))(k:κ)(a:Addr)(v:Value):(storedH xs k a v).length<=xs.length+1:=by
 unfold storedH
 split<;>simp
theorem xk:∀(ys xs:List (κ×Addr×Value)),(lE xs ys).length<=xs.length+ys.length
 | [],xs=>Pd _
 |y::ys,xs=>by
  have:=xk ys (storedH xs y.1 y.2.1 y.2.2)
  have h2:=FZ xs y.1 y.2.1 y.2.2
  show(lE (storedH xs y.1 y.2.1 y.2.2) ys).length<=_
  simp only[PR];omega
theorem x8:∀(ys xs:List (κ×Addr×Value)),((xs++ys).map (·.1)).Nodup->lE xs ys=xs++ys
 | [],xs,_=>by simp[lE]
 |y::ys,xs,h=>by
  have nk:atKey xs y.1=none:=by
   cases q:atKey xs y.1 with
   |none=>rfl
   |some p=>
    exfalso
    unfold atKey at q
    let⟨z,hz,_⟩:=R7.mp q
    have hm:=List.mem_of_find?_eq_some hz
    have he:=List.find?_some hz
    rw[PV,QI]at h
    exact h.2.2 z.1 (Pj.mpr ⟨z,hm,rfl⟩) y.1 (by simp) (by simpa using he)
  show lE (storedH xs y.1 y.2.1 y.2.2) ys=_
  rw[storedH_new nk,x8 ys _ (by simpa using h)]
  simp
def uo(xs ys:List (κ×Addr×Value))(i:Nat)(y:κ×Addr×Value)(h:ys[i]? =some y):lE xs (ys.take (i+1))=storedH (lE xs (ys.take i)) y.1 y.2.1 y.2.2:=by
 simp[lE,QD,h,List.foldl_append]
def Gi{R:κ->Addr->Prop}(h:∀x∈xs,R x.1 x.2.1)(hk:R k a):∀x∈storedH xs k a v,R x.1 x.2.1:=by
 intro x hx
 unfold storedH at hx
 split at hx
 .obtain⟨y,hy,rfl⟩:=Pj.mp hx
  unfold putAt
  split<;>exact h y hy
 .rcases Pz.mp hx with hx|hx
  .exact h x hx
  .simp at hx;subst hx;exact hk
theorem JD{es:List DictEntry}{Q:PUnit->Shared->Prop}{F:DictEntry->PUnit->Sem (ForInStep PUnit)}(h:∀e∈es,∀R:ForInStep PUnit->Shared->Prop,R (.yield ⟨⟩) s->wpAny (model P w) A (F e ⟨⟩) R E s)(q:Q ⟨⟩ s):wpAny (model P w) A (forIn es PUnit.unit F) Q E s:=by
 induction es with
 |nil=>rw[List.forIn_nil];exact Pa q
 |cons e es ih=>
  rw[List.forIn_cons]
  exact O8 (h e (Pq ..) _ (ih λe' he=>h e' (Pk _ he)))
theorem xQ:∀{l:List Int} {x:Int},l.Nodup->(l.filter (· == x)).length<=1
 | [],_,_=>by simp
 |y::l,x,h=>by
  rw[P6]at h
  rw[List.filter_cons]
  by_cases c:y=x
  ·subst c
   have:l.filter (· == y)= []:=Sa.mpr λz hz e=>h.1 (by rw[<-eq_of_beq e];exact hz)
   simp[this]
  .rw[Pg (by simpa using c)];exact xQ h.2
def Ka:typeLookup (.type "tuple") "__eq__"=pure (some (.builtin "tuple.__eq__")):=by rw[RG,QX];kernel_rfl
def Jo{nm:String}{d o:Addr}{ep eo:Nat}{xs ys:List (κ×Addr×Value)}{Q:Unit->Shared->Prop}(hdo:d≠o)(ns:(o==sysModules)=false)(r:kd.room A)(ix:∀x∈xs,kd.is s.heap x.1 x.2.1)(iy:∀x∈ys,kd.is s.heap x.1 x.2.1)
  (ty:∀y∈ys,s.TypeIs (.ref y.2.1) "tuple") (hd:tE kd s.heap d xs ep) (ho:tE kd s.heap o ys eo) (hh:(ys.map λy=>kd.hash y.1).Nodup) (hne:ys≠ []) (hz:xs.length+ys.length<=sizeLine)
  (q:∀h' e',tE kd h' d (lE xs ys) e'->Heap.SameBut d s.heap h'->Q () {s with heap:=h'}):wpAny (model P w) A (Builtin.Dict.mergeDict nm d o) Q E s:=by
 let⟨oo,es,e1,x1,d1,l1,n1⟩:=id ho
 let⟨od,fs,e2,x2,d2,l2,n2⟩:=id hd
 have sz:=Ri l1
 have sz2:=Ri l2
 unfold Builtin.Dict.mergeDict
 rw[Pg (by simpa using hdo)]
 unfold Builtin.Dict.showsAll
 rw[Pg (by rw[ns];exact PZ)]
 refine O8 (Pa (O8 (QU e1 d1 ?_)))
 have few:(decide (es.size<=8)&&es.all λe=>(keyPart e.key).isSome)=false:=by
  obtain⟨y,ys',rfl⟩:∃y ys',ys=y::ys':=by cases ys with|nil=>exact absurd rfl hne|cons y t=>exact⟨y,t,rfl⟩
  have:(es.all λe=>(keyPart e.key).isSome)=false:=by
   cases es with
   |mk l=>rw[show l=_ from l1];simp[entryOfKey,keyPart]
  rw[this,Bool.and_false]
 rw[few]
 simp only[Bool.not_false,Qn]
 refine O8 (QU e2 d2 ?_)
 by_cases hx:xs= []
 .subst hx
  have f0:fs=#[]:=Array.size_eq_zero_iff.mp (by rw[sz2];rfl)
  subst f0
  rw[Pe (by rfl)]
  refine O8 ?_
  unfold Builtin.Dict.entriesForEmpty
  refine O8 (QU e1 d1 (O8 ?_))
  rw[<-Array.forIn_toList]
  refine JD (λe he R hR=>?_) ?_
  .rw[l1]at he
   obtain⟨y,hy,rfl⟩:=Pj.mp he
   refine O8 ?_
   unfold Builtin.Dict.quietEq
   refine O8 (Q9 (ty y hy) Ka (Pa ?_))
   have hf:¬(es.filter λx=>x.hash==(entryOfKey kd y).hash).size>1:=by
    have:=xQ (x:=kd.hash y.1) hh
    rw[<-R0,Array.toList_filter,l1,List.filter_map,Pc]
    rw[List.filter_map,Pc]at this
    exact Nat.not_lt.mpr this
   rw[Pe @A_,Pg hf]
   first|exact Pa hR|exact O8 (Pa (Pa hR))
  .refine Pa ?_
   have hne':(!es.isEmpty)=true:=by
    have:es.size≠0:=by rw[sz];exact λz=>hne (Q5.mp z)
    cases es with|mk l=>cases l with|nil=>exact absurd rfl this|cons _ _=>rfl
   rw[Pe hne']
   have mn:lE [] ys=ys:=by rw[x8 ys [] (by simpa using n1)];rfl
   rw[mn]at q
   refine O8 (wpAny_updateDictKeysTo e2 d2 (Pa (q _ (ep+1) ⟨_,es,PY _ e2 (RZ (Rj d2 _)),x2.mapDictKeys _,Rj d2 _,l1,n1⟩ (Heap.SameBut.update ..))) ?_)
   rw[sz];simp at hz;omega
 .have ne:¬(fs.isEmpty=true):=by
   intro z
   have:fs=#[]:=Array.isEmpty_iff.mp z
   rw[this]at sz2
   exact hx (Q5.mp sz2.symm)
  rw[Pg ne]
  refine O8 (Su e1 d1 (O8 (QU e1 d1 (O8 ?_))))
  rw[Std.Legacy.Range.forIn_eq_forIn_range']
  simp only[Std.Legacy.Range.size,Nat.sub_zero,Nat.add_sub_cancel,Nat.div_one]
  refine Sf _
   (λrest _ s'=>∃h' i e',s'={s with heap:=h'}/\rest=List.range' i (es.size-i)/\i<=es.size/\tE kd h' d (lE xs (ys.take i)) e'/\(∀x∈lE xs (ys.take i),kd.is h' x.1 x.2.1)/\(∀x∈ys,kd.is h' x.1 x.2.1)/\h'.get? o=some oo/\Heap.SameBut d s.heap h')
   _ ?_ ?_ _ _ ⟨s.heap,0,ep,rfl,by simp,P9 _,by simpa[lE]using hd,by simpa[lE]using ix,iy,e1,Heap.SameBut.refl _ _⟩
  .rintro x rest b s' ⟨h',i,e',rfl,hr,hi,hd',ix',iy',eo',sb⟩
   have lt:i<es.size:=by
    rcases Qo i es.size with h|h
    .exact h
    .rw[Nat.sub_eq_zero_of_le h]at hr;simp at hr
   obtain⟨rfl,hr⟩:x=i/\rest=List.range' (i+1) (es.size-(i+1)):=by
    rw[show es.size-i=(es.size-(i+1))+1 by omega,Si]at hr
    injection hr with h1 h2
    exact⟨h1,h2⟩
   have ly:x<ys.length:=by rw[<-sz];exact lt
   have hy:ys[x]? =some ys[x]:=O9 ly
   have he:es[x]? =some (entryOfKey kd ys[x]):=by rw[entry_at l1 x,hy];rfl
   refine O8 (QU eo' d1 ?_)
   rw[he]
   have hlen:(lE xs (ys.take x)).length<=sizeLine:=by
    have a1:=xk (ys.take x) xs
    have a2:(ys.take x).length<=ys.length:=by rw[QR];omega
    omega
   have my:ys[x]∈ys:=QG ly
   refine O8 (Qc (Bu r (iy' _ my) ix' hd' hlen λh2 f2 m2 s2=>?_))
   have eo2:h2.get? o=some oo:=(s2.2 o (Ne.symm hdo)).trans eo'
   let⟨oq,eq,w1,_,w3,_⟩:=id hd'
   refine O8 (Su eo2 d1 ?_)
   rw[Pg (by simp)]
   refine Pa ⟨h2,x+1,f2,rfl,hr,lt,by rw[uo xs ys x _ hy];exact m2,?_,λz hz=>kd.keeps (iy' z hz) w1 w3 s2,eo2,sb.trans s2⟩
   rw[uo xs ys x _ hy]
   exact Gi (λz hz=>kd.keeps (ix' z hz) w1 w3 s2) (kd.keeps (iy' _ my) w1 w3 s2)
  .rintro b s' ⟨h',i,e',rfl,hr,hi,hd',_,_,_,sb⟩
   have hin:i=es.size:=by
    rcases Qo i es.size with h|h
    .rw[show es.size-i=(es.size-(i+1))+1 by omega,Si]at hr;cases hr
    .exact Nat.le_antisymm hi h
   rw[hin,sz,Sk]at hd'
   exact Pa (q h' e' hd' sb)
end
def IS(p:Int×Int):Bool:=decide (0<=p.1)&&decide (p.1<8)&&(decide (0<=p.2)&&decide (p.2<8))
def Mu(a b:Int):Int:=reduceHash (Builtin.Tuple.tupleHashOf [hashInt a,hashInt b])
def Gn:∀a b c d:Fin 8,Mu (a.val:Int) (b.val:Int)=Mu (c.val:Int) (d.val:Int)->a=c/\b=d:=by decide +kernel
def AU(h:IS p=true):∃a b:Fin 8,p=((a.val:Int),(b.val:Int)):=by
 unfold IS at h
 simp only[PF,PB]at h
 let⟨x,y⟩:=p
 exact⟨⟨x.toNat,@AT ⟩,⟨y.toNat,@AT ⟩,by simp;omega⟩
def Hm(hp:IS p=true)(hq:IS q=true)(e:Mu p.1 p.2=Mu q.1 q.2):p=q:=by
 obtain⟨a,b,rfl⟩:=AU hp
 obtain⟨c,d,rfl⟩:=AU hq
 obtain⟨rfl,rfl⟩:=Gn a b c d e
 rfl
def zr(kvs more:List (List Key×V)):List (List Key×V):=more.foldl (λacc kv=>putK acc kv.1 kv.2) kvs
def NN:V->List V->Hp->VK->Prop:=λx vs H Q=>∃(d o:Addr) (kvs:List (List Key×V)) (ep:Nat) (more:List (List Key×V)) (eo:Nat) (ps:List (Int×Int)),x=.ref d/\vs= [.ref o]/\H d=some (.dT kvs ep)/\Rd H o (.dT more eo)/\d≠o/\more.map (·.1)=ps.map kP/\(∀p,p∈ps->IS p=true)/\ps≠ []/\
 kvs.length+more.length<=sizeLine/\∀e',Q .non (upd H d (.dT (zr kvs more) e'))
theorem KT.mrg{H:Hp}:∀{more:List (List Key×V)} {ys:List (List Key×Addr×Value)} {kvs:List (List Key×V)} {xs:List (List Key×Addr×Value)},KT H more ys->KT H kvs xs->KT H (zr kvs more) (lE xs ys)
 |_,_,_,_,.nil,h=>h
 |kv::_,y::_,kvs,xs,.cons h1 t,h=>by
  show KT H (zr (putK kvs kv.1 kv.2) _) (lE (storedH xs y.1 y.2.1 y.2.2) _)
  refine KT.mrg t ?_
  rw[<-h1.1]
  exact h.put kv.1 h1.2.1 h1.2.2
theorem wL:∀(more kvs:List (List Key×V)),(zr kvs more).length<=kvs.length+more.length
 | [],kvs=>Pd _
 |kv::more,kvs=>by
  have:=wL more (putK kvs kv.1 kv.2)
  have h2:=gO kvs kv.1 kv.2
  show(zr (putK kvs kv.1 kv.2) more).length<=_
  simp only[PR];omega
theorem AW{H:Hp}:∀{kvs:List (List Key×V)} {xs:List (List Key×Addr×Value)},KT H kvs xs->xs.map (·.1)=kvs.map (·.1)
 |_,_,.nil=>rfl
 |_,_,.cons h t=>by rw[PL,PL,AW t,h.1]
theorem vt{α β:Type}{f:α->β}:∀{l:List α},(∀a,a∈l->∀b,b∈l->f a=f b->a=b)->l.Nodup->(l.map f).Nodup
 | [],_,_=>Rw
 |a::l,h,hn=>by
  rw[P6]at hn
  rw[PL,P6]
  refine⟨λz=>?_,vt (λx hx y hy=>h x (Pk _ hx) y (Pk _ hy)) hn.2⟩
  obtain⟨b,hb,e⟩:=Pj.mp z
  exact hn.1 (by rw[h a (Pq ..) b (Pk _ hb) e.symm];exact hb)
def KN{X:Cx}(hu:X.A.units+2<cLine):OH X "dict.update" NN:=by
 intro pins s σ H x vs v us Q I rx rv h
 obtain⟨d,o,kvs,ep,more,eo,ps,rfl,rfl,hd,ho,hne,hk,hsm,hp0,hz,q⟩:=h
 cases rx
 obtain⟨u,rfl,ru⟩:=vals1 rv
 cases ru
 let⟨z1,n1,xs,rel,dd,di⟩:=jA I.hok (.inl hd)
 let⟨z2,n2,ys,rel2,dd2,di2⟩:=jA I.hok ho
 have ty1:s.TypeIs (.ref d) "dict":=let⟨ob,_,eo,ex,_⟩:=dd;⟨ob,eo,ex.1⟩
 have ty2:s.TypeIs (.ref o) "dict":=let⟨ob,_,eo,ex,_⟩:=dd2;⟨ob,eo,ex.1⟩
 have l1:kvs.length=xs.length:=Paired.length rel
 have l2:more.length=ys.length:=Paired.length rel2
 have ky:ys.map (·.1)=ps.map kP:=(AW rel2).trans hk
 have hnd:(ys.map λy=>(tupleKind (bQ X.prog X.w)).hash y.1).Nodup:=by
  have e:(ys.map λy=>(tupleKind (bQ X.prog X.w)).hash y.1)=ps.map λp=>Mu p.1 p.2:=by
   have e2:=congrArg (List.map (tupleKind (bQ X.prog X.w)).hash) ky
   rw[P8,P8]at e2
   exact e2
  rw[e]
  have pn:ps.Nodup:=by
   let⟨_,_,_,_,_,_,nd⟩:=dd2
   rw[ky]at nd
   exact List.Pairwise.of_map kP (λa b hab e=>hab (by rw[e])) nd
  exact vt (λa ha b hb e=>Hm (hsm a ha) (hsm b hb) e) pn
 have yne:ys≠ []:=λz=>hp0 (by rw[z]at ky;simpa using ky.symm)
 refine Qv F.slot_dict_update ty1 F.entry_dict_update ?_ (F.args_dict_update_2 _ _)
 unfold Builtin.«dict.update»
 refine O8 ?_
 unfold Builtin.Dict.selfAndRest
 refine O8 (Sb ty1 ?_)
 refine Pa ?_
 show wpAny _ _ (Builtin.Dict.updateFrom "dict.update" d (.ref o) [] .none) _ _ s
 unfold Builtin.Dict.updateFrom
 refine O8 (RW ty2 ?_)
 rw[Pg @A_]
 refine O8 ?_
 unfold Builtin.Dict.merge
 refine O8 ?_
 unfold Builtin.Dict.readDirectly
 refine O8 (Se ty2 isSubtype_dict_dict ?_)
 simp only[RH,Py,Qb]
 refine O8 (Q9 ty2 F.slot_dict_iter.lookup (Pa ?_))
 simp only[beq_self_eq_true,Qn]
 refine O8 (Pa (Jo hne n2 (show X.A.units+1<cLine by omega) di di2 (λy hy=>(di2 y hy).typeIs) dd dd2 hnd yne (@AT) λh' e' m' sb=>?_))
 refine O8 (Pa (Pa ⟨.none,rfl,.non,_,?_,rfl,q e'⟩))
 obtain⟨q',hq⟩:∃q,h'.get? d=some q:=let⟨q,_,hq,_⟩:=m';⟨q,hq⟩
 refine oE I (by rw[hd];exact True.intro) sb ⟨q',hq⟩ ⟨by have:=wL more kvs;omega,n1,_,(rel2.mrg rel).keeps λc ys ec=>?_,m'⟩
 exact ec.imp (λec=>by rw[av (mJ ec hd (λz=>nomatch z))];exact ec) λ⟨o,ec⟩=>⟨o,by rw[av (mJ ec hd (λz=>nomatch z))];exact ec⟩
section
variable {X:Cx}{Γ:Fx}{E:XK}{e:Expr}{f:VF D}{L:List Nat}{pos apos cpos np:Pos}{K:Frag}{G H:Hp}
theorem zp:∀{kvs:List (List Key×V)} {ds:List (D×D)} {A:List ((Int×Int)×D)},mZ K G kvs ds->jE ds=some A->KP K G kvs A
 |_,_,_,.nil,h=>by cases h;exact .nil
 |_,_,A,.cons (k:=k) (x:=x) (xs:=xs) (d:=d) (ds:=ds) hx t,h=>by
  unfold jE at h
  cases e1:qh (.tuple (k.map kD))with
  |none=>rw[e1]at h;cases h
  |some q=>
   cases e2:jE ds with
   |none=>rw[e1,e2]at h;cases h
   |some M=>
    rw[e1,e2]at h
    cases h
    exact .cons ⟨ID e1,hx⟩ (zp t e2)
theorem KP.mrg:∀{more:List (List Key×V)} {B:List ((Int×Int)×D)} {kvs:List (List Key×V)} {A:List ((Int×Int)×D)},KP K G more B->KP K G kvs A->KP K G (zr kvs more) (B.foldl (λa x=>oK a x.1 x.2) A)
 |_,_,_,_,.nil,h=>h
 |kv::_,b::_,kvs,A,.cons h1 t,h=>by
  show KP K G (zr (putK kvs kv.1 kv.2) _) _
  rw[Rk]
  refine KP.mrg t ?_
  rw[h1.1]
  exact h.put _ h1.2
theorem A5:∀{kvs:List (List Key×V)} {A:List ((Int×Int)×D)},KP K G kvs A->kvs.map (·.1)=(A.map (·.1)).map kP
 |_,_,.nil=>rfl
 |_,_,.cons h t=>by rw[PL,PL,PL,A5 t,h.1]
def wb(ds:List (D×D)):D->Option (List (D×D))
 | .dict es=>match jE ds,jE es with
  |some A,some B=>if(B.all λx=>IS x.1)=true/\B≠ []/\A.length+B.length<1000 then some ((B.foldl (λa x=>oK a x.1 x.2) A).map λx=>(OW x.1,x.2))else none
  |_,_=>none
 |_=>none
def Cd(i:Nat)(L:List Nat)(f:VF D):SF:=λenv β=>if Br env[i]? =true then toS (f (vl env) β) λd β'=>(match(a8 L env)[i]? with
 |some (.ow (.dict ds))=>(match wb ds d with
  |some es=>.nx ((a8 L env).set i (.ow (.dict es))) β'
  |none=>.bad)
 |_=>.bad)else .bad
def E3(i:Nat)(hu:X.A.units+2<cLine)(hb:∀j,Γ.br j=false)(he:SE X Γ E e f L .v)(hN:X.N[i]? =some x:=by rfl)(hv:yW X.env.scope x:=by first|exact Or.inl rfl|exact Or.inr (Or.inl rfl)|exact Or.inr (Or.inr rfl))(hd:(x==("__debug__":Str))=false:=by decide)
  (hcd:(x==("__classdict__":Str))=false:=by decide)
  (hbase:attributeBase (.Name x np) "update" X.env (eval (.Name x np) X.env)=eval (.Name x np) X.env:=by rfl)
  (hfew:((backTo cpos (starEach [e] X.env)).all (λx=> !x.1)&&(backToKw cpos (keywordEach [] X.env)).all (λx=>x.1.isSome)
   && decide ([e].length+([]:List Keyword).length+(if([]:List Keyword).isEmpty then 0 else 1)<30))=true:=by rfl)
  (hline:(apos.endLine==cpos.line)=true:=by rfl) (hs:starEach [e] X.env=(false,eval e X.env)::starEach [] X.env:=by rfl)
  (hsw:swapsWith (.Call (.Attribute (.Name x np) "update" apos) [e] [] cpos) none pos.line X.env=pure false:=by rfl) :
  SS X Γ E (.Expr (.Call (.Attribute (.Name x np) "update" apos) [e] [] cpos) pos) (Cd i L f):=by
 refine PS.post (qd (Bh PySem.F.plainAttrs_dict PySem.F.slot_dict_update PySem.F.type_dict_update (KN hu) (g8 hN hv hd hcd) (aP he bD hs) hbase hfew hline hs rfl) hsw) λN σ H ⟨env,G,B,β,I,o⟩=>?_
 unfold Cd at o
 by_cases hO:Br env[i]? =true
 case neg=>rw[Pg hO]at o;exact o.elim
 rw[Pe hO]at o
 let⟨ds0,q0⟩:=Aj hO
 let⟨p,h1,_,_,_,h5⟩:=I.slot i _ q0
 refine⟨_,h1,?_,?_⟩
 .exact .inr (.inr (.inl ⟨rfl,h5.imp (λ⟨k,a,_⟩=>⟨k,a⟩) λ⟨k,a,_⟩=>⟨k.1,k.2,a⟩⟩))
 refine⟨env,G,B,β,I,cx o λd β' o v G' H' I' s' m' vo=>?_⟩
 split at o
 .rename_i ds q
  cases e3:wb ds d with
  |none=>rw[e3]at o;exact o.elim
  |some es=>
   rw[e3]at o
   unfold wb at e3
   split at e3
   .rename_i fs
    split at e3
    .rename_i A C eA eC
     split at e3
     .rename_i hz
      cases e3
      let⟨p',g1,g2,g3,g4,g5⟩:=I'.slot i _ q
      rw[h1]at g1;cases g1
      obtain⟨po,more,eo,rfl,hm,rm⟩:=wq (show Rp Γ.K G' v (.dict fs)from vo) eC
      rcases g5 with⟨kk,g,r⟩|⟨⟨kvs,ep⟩,g,r⟩
      .exact (qw r eA).elim
      .have kA:=zp r eA
       have kC:=zp rm eC
       have la:kvs.length=A.length:=Paired.length kA
       have lc:more.length=C.length:=Paired.length kC
       refine⟨p,po,kvs,ep,more,eo,C.map (·.1),rfl,rfl,g,.inl (I'.sub _ _ hm),(λz=>by rw[<-z,g3]at hm;cases hm),A5 kC,λx hx=>?_,λz=>hz.2.1 (by simpa using z),by rw[PX];omega,λe'=>?_⟩
       .obtain⟨y,hy,rfl⟩:=Pj.mp hx
        exact Qi.mp hz.1 y hy
       .exact o B G' _ σ (I'.write hb q h1 λH3 e4 s3=>.inr ⟨(_,_),e4,(kC.mrg kA).rp⟩) s'
     .cases e3
    .cases e3
   .cases e3
 .exact o.elim
end
def DA:bootBuiltins "list"=some (.type "list"):=by decide +kernel
section
variable {P:Program}{w:World}{κ:Type}[DecidableEq κ]{kd:HeapKind P w κ}{d:Addr}{ep:Nat}{xs:List (κ×Addr×Value)}
def tE.at(m:tE kd h d xs ep)(k:∀o,h.get? d=some o->h'.get? d=some o):tE kd h' d xs ep:=let⟨o,es,e,r⟩:=m;⟨o,es,k o e,r⟩
def Ct{A:Around}(hh:A.handled=none)(I:Addr)(hne:d≠I):Walks P w A I [I,d] [I] xs.length (λi v=>∃x,xs[i]? =some x/\v=.ref x.2.1) (λi h=>h.IsKeyIter I d i xs.length ep/\tE kd h d xs ep) where
 sub:=λb hb=>by simp at hb;simp[hb]
 frame:=λi h h' st k=>⟨let⟨o,e,r⟩:=st.1;⟨o,k I (by simp) o e,r⟩,st.2.at λo e=>k d (by simp) o e⟩
 item:=λi s Q E hi st hQ=>by
  have hx:xs[i]? =some xs[i]:=O9 hi
  exact qU st.1 st.2 hx λh' it' sb=>hQ _ h' s.toks ⟨_,hx,rfl⟩ ⟨it',st.2.at λo e=>(sb.2 d hne).trans e⟩ λb o hb e=>(sb.2 b (λz=>hb (by simp[z]))).trans e
 done:=λs Q E st hQ=>uA hh st.1 st.2 (Pd _) λh' eb=>hQ h' s.toks λb o hb e=>eb b o (λz=>hb (by simp[z])) e
 self:=λi s Q E st hQ=>wpAny_pyIter_keyiter st.1 hQ
def Hl(lo:(d==sysModules)=false):PySem.W.KdlSrc P w "dict" d d xs.length (λi v=>∃x,xs[i]? =some x/\v=.ref x.2.1) (λh=>tE kd h d xs ep) where
 type:=λ_ ⟨o,_,eo,ex,_⟩=>⟨o,eo,ex.1⟩
 there:=λ_ ⟨o,_,eo,_⟩=>⟨Po eo,Po eo⟩
 keep:=λ_ _ m k=>m.at λo e=>k d (.inl rfl) o e
 notList:=by decide
 notTuple:=by decide
 hint:=λ_ _ _ _ ⟨o,_,eo,ex,_⟩ hq=>PySem.W.kdl_hint_dict ⟨o,eo,ex.1⟩ hq
 iter:=λA s hh m=>⟨_,_,(λ_ _ hq=>sd lo m hq),Ct hh _ (let⟨o,_,eo,_⟩:=m;P4 (Po eo)),⟨⟨_,Pl _ rfl,rfl,rfl⟩,m.at λo e=>Pb _ e⟩⟩
end
def OE:List V->Hp->VK->Prop:=λvs H Q=>∃d kvs ep,vs= [.ref d]/\Rd H d (.dT kvs ep)/\∀(l:Addr) (bs:List Addr),H l=none->bs.length=kvs.length->(∀(i:Nat) kv b,kvs[i]? =some kv->bs[i]? =some b->Rd H b (.tup (kv.1.map kV)))->Q (.ref l) (upd H l (.lst (bs.map .ref)))
theorem xc:∀bs:List Addr,Vals (bs.map .ref) (bs.map .ref)
 | []=>.nil
 |_::bs=>.cons rfl (xc bs)
theorem yC{X:Cx}(hc:X.calm=true):cW X (.type "list") OE:=by
 intro pins s σ H xs us Q I r h
 obtain⟨d,kvs,ep,rfl,hd,q⟩:=h
 obtain⟨u,rfl,rx⟩:=vals1 r
 cases rx
 let⟨z,hs,ys,rel,dd,di⟩:=jA I.hok hd
 have hl:kvs.length=ys.length:=Paired.length rel
 refine PySem.W.kdl_call (Hl hs) (I.ok.hd hc) dd (@AT) λh' tk acc c k eD it=>?_
 have ea:acc=((ys.map (·.2.1)).map Value.ref).toArray:=by
  apply Array.ext_getElem?
  intro i
  by_cases hi:i<ys.length
  .have hia:i<acc.size:=by rw[it.1];exact hi
   let⟨x,ex,ev⟩:=it.2 i _ (PD hia)
   rw[PD hia,ev]
   simp[ex]
  .rw[Qz (by rw[it.1];omega),Qz (by simp;omega)]
 have hf:H s.heap.objs.size=none:=I.hok.fresh (Pd _)
 refine⟨.ref s.heap.objs.size,_,I.laid k (Pd _) (show bE X.prog X.w _ h' _ (.lst ((ys.map (·.2.1)).map .ref))from⟨by simp;omega,(ys.map (·.2.1)).map .ref,c,xc _,by rw[<-ea];exact eD⟩),rfl,q _ (ys.map (·.2.1)) hf (by simp;omega) λi kv b h1 h2=>?_⟩
 rw[Pt]at h2
 cases e:ys[i]? with
 |none=>rw[e]at h2;cases h2
 |some y=>
  rw[e]at h2
  cases h2
  let⟨kv',g1,_,g3⟩:=rel.at e
  rw[h1]at g1;cases g1
  exact g3
def M7:D->Option D
 | .dict ds=>(jE ds).map λ_=>.list (ds.map (·.1))
 |_=>none
section
variable {K:Frag}{X:Cx}{Γ:Fx}{E:XK}{a:Expr}{fa:VF D}{La:List Nat}{ma:Md}{pos:Pos}
theorem AS:∀{kvs:List (List Key×V)} {ds:List (D×D)} {bs:List Addr},mZ K G kvs ds->bs.length=kvs.length->(∀(i:Nat) kv b,kvs[i]? =some kv->bs[i]? =some b->fu K G' b (kv.1.map kV))->bS K G' (bs.map .ref) (ds.map (·.1))
 |_,_,[],.nil,_,_=>.nil
 |_,_,b::bs,.cons (k:=k) (x:=x) _ t,h,g=>.cons (.tup (g 0 (k,x) b rfl rfl) (qu k)) (AS t (by simpa using h) λi kv b h1 h2=>g (i+1) kv b h1 h2)
theorem Gz:zW K (λx=>OE [x]) M7 .w:=by
 intro B G H x dx d Q s hB bx e k
 cases dx with
 |dict ds=>
  have e:((jE ds).map λ_=>PyData.list (ds.map (·.1)))=some d:=e
  cases e1:jE ds with
  |none=>rw[e1]at e;cases e
  |some L=>
   rw[e1]at e
   cases e
   obtain⟨p,kvs,ep,rfl,hq,r⟩:=AJ bx e1 s
   refine⟨p,kvs,ep,rfl,.inl hq,λl bs hl hb ht=>?_⟩
   have sH:ao H (upd H l (.lst (bs.map .ref))):=ao.new hl
   have gl:jc G (upd H l (.lst (bs.map .ref))) l=none:=by
    unfold jc
    rw[s.free hl,au]
    exact Pg (by first|exact id|(intro z;cases z)|simp[Fz])
   exact k _ (jc G (upd H l (.lst (bs.map .ref)))) _ (Ext.tups s sH) ⟨l,rfl,hl,gl,_,au,AS r hb λi kv b h1 h2=>i6 (s.trans sH) (.inl ((ht i kv b h1 h2).mono sH))⟩
 |_=>cases e
end
def zN:typeLookup (.type "list_reverseiterator") "__len__"=pure none:=by rw[RG,QX];kernel_rfl
def Ee:typeLookup (.type "list_reverseiterator") "__length_hint__"=pure (some (.builtin "list_reverseiterator.__length_hint__")):=by rw[RG,QX];kernel_rfl
section
variable {P:Program}{w:World}{A:Around}{E:@B_}{s:Shared}{r:Addr}
def EV{Q:Bool->Shared->Prop}(hT:s.TypeIs (.ref r) "list_reverseiterator")(h:Q false s):wpAny (model P w) A (Builtin.List.listLengthHint (.ref r)) Q E s:=by
 unfold Builtin.List.listLengthHint
 refine O8 (Q9 hT zN ?_)
 refine O8 (Q9 hT Ee ?_)
 generalize hid:("list_reverseiterator.__length_hint__":String)=id0
 wp_delta
 rw[show splitId id0=some ("list_reverseiterator","__length_hint__")from by subst hid;decide +kernel]
 subst hid
 refine O8 (Se (b:=true) hT (by rw[Rh];kernel_rfl) ?_)
 refine wpAny_ite_split (λhab=>absurd hab @A_) (λ_=>(wpAny_ite_split (λ_=>?_) (λhab=>absurd (by decide +kernel) hab)))
 exact wpAny_ite_split (λhab=>absurd hab @A_) (λ_=>(Pa h))
def By{Q:@B_}(hh:A.handled=none)(hne:l≠it)(hi:s.heap.IsRevIter it l ((items.size:Int)-1))(hl:s.heap.IsList l items)(hn:items.size<=sizeLine)
  (hQ:∀h' tk acc c,(∀b o,b≠it->s.heap.get? b=some o->h'.get? b=some o)->h'.get? s.heap.objs.size=some {cls:=.type "list",dict:=none,data:=.seq acc c,slots:=#[]}->ItemsOf (λi v=>items[items.size-1-i]? =some v) acc items.size->Q (.ref s.heap.objs.size) {s with heap:=h',toks:=tk}) :
  wpAny (model P w) A (call (.type "list") [.ref it]) Q E s:=by
 refine callType_codes (Q₁:=λobj s₁=>obj=.ref s.heap.objs.size/\s₁={s with heap:=s.heap.push {cls:=.type "list",data:=.seq #[]}}) F.called_list (F.typeCall_list_1 _) F.entry_list_init (code_list_new _ ⟨rfl,rfl⟩) λobj s₁ h₁=>?_
 obtain⟨rfl,rfl⟩:=h₁
 have hS:(s.heap.push {cls:=.type "list",data:=.seq #[]}).get? s.heap.objs.size=some {cls:=.type "list",data:=.seq #[]}:=Pl _ rfl
 have up:∀b o,s.heap.get? b=some o->(s.heap.push {cls:=.type "list",data:=.seq #[]}).get? b=some o:=λb o e=>Pb _ e
 have g1:it<s.heap.objs.size:=by let⟨_,e,_⟩:=hi;exact Po e
 have g2:l<s.heap.objs.size:=by let⟨_,e,_⟩:=hl;exact Po e
 refine⟨⟨_,hS,rfl⟩,F.args_list_init_2 _ _,?_⟩
 show wpAny _ A.in1.in1 (do let old <-Builtin.List.listItems (.ref s.heap.objs.size);Builtin.List.listUpdate (.ref s.heap.objs.size) (λ_=>#[]);letGo old.toList.reverse;Builtin.List.listExtendWith (.ref s.heap.objs.size) (.ref it) .none) _ _ _
 refine O8 ?_
 unfold Builtin.List.listItems
 refine O8 (SK hS rfl (Pa ?_))
 refine O8 (wpAny_updateSeq hS rfl ?_)
 have hS2:=PY (Obj.mapSeq (λ_=>(#[]:Array Value))) hS rfl
 have oth:∀b o,b≠s.heap.objs.size->(s.heap.push {cls:=.type "list",data:=.seq #[]}).get? b=some o->((s.heap.push {cls:=.type "list",data:=.seq #[]}).update s.heap.objs.size (Obj.mapSeq (λ_=>(#[]:Array Value)))).get? b=some o:=
  λb o hb e=>(Qm _ _ (Ne.symm hb)).trans e
 refine O8 (wpAny_letGo ?_)
 have hi':=hi.at λo e=>oth it o (P4 g1) (up it o e)
 have hl':=hl.at λo e=>oth l o (P4 g2) (up l o e)
 unfold Builtin.List.listExtendWith
 refine O8 (RW (let⟨o,e,c,_⟩:=hi';⟨o,e,c⟩) ?_)
 have h1:Builtin.List.listSameRef (.ref s.heap.objs.size) (.ref it)=false:=by simp[Builtin.List.listSameRef,RS g1]
 have h2:(Value.type "list_reverseiterator"==Value.type "list")=false:=by decide
 have h3:(Value.type "list_reverseiterator"==Value.type "tuple")=false:=by decide
 simp only[h1,h2,h3,Bool.or_false,Py,Qb]
 refine O8 (wpAny_pyIter_revIter hi' (O8 (Qc (EV (let⟨o,e,c,_⟩:=hi';⟨o,e,c⟩) ?_))))
 refine wpAny_ite_split (λhab=>absurd hab @A_) (λ_=>?_)
 have W:=Walks.listRev (prog:=P) (w:=w) (A:=A.in1.in1) hh it l hne items
 refine Pa ⟨R1 F.plain_extend_loop _,codeAny_extend_loopS W.toS hn s.heap.objs.size (by simp;exact⟨RS g1,RS g2⟩) .none items.size 0 _ #[] _ rfl (P9 _) ⟨P9 _,by simpa using hi',hl'⟩ hS2 (ItemsOf.nil _) λs' acc' c' hm hS' hacc=>?_⟩
 rw[Moved.eq_with hm]
 refine⟨rfl,hQ s'.heap s'.toks acc' c' (λb o hb e=>hm.heap b o (λhmem=>?_) (oth b o (P4 (Po e)) (up b o e))) hS' hacc⟩
 rcases Pf.mp hmem with e'|hmem
 .exact P4 (Po e) e'
 .exact hb (PU.mp hmem)
end
def OT(K:Frag):List V->Hp->VK->Prop:=λvs H Q=>∃l xs,vs= [.ref l]/\fU K H l xs/\∀m,H m=none->Q (.ref m) (upd H m (.lst xs.reverse))
def Fy:bootBuiltins "reversed"=some (.type "reversed"):=by decide +kernel
theorem wJ:∀{xs:List V} {us:List Value},Vals xs us->Vals xs.reverse us.reverse
 |_,_,.nil=>.nil
 |_,_,.cons h t=>by rw[SV,SV];exact Paired.snoc (wJ t) h
def HS{X:Cx}{a:Expr}{p1 p2 pos pos2:Pos}(hc:X.calm=true)(hg:Gl X "list")(hm:X.mg "list"=none)(hg2:Gl X "reversed")(hm2:X.mg "reversed"=none)(ha:PA X [a] ta)
  (hs:starEach [a] X.env=(false,eval a X.env)::starEach [] X.env)
  (he2:starEach [.Call (.Name "reversed" p2) [a] [] pos2] X.env=(false,eval (.Call (.Name "reversed" p2) [a] [] pos2) X.env)::starEach [] X.env) :
  PE X (.Call (.Name "list" p1) [.Call (.Name "reversed" p2) [a] [] pos2] [] pos) (Ob (OT X.K) ta):=by
 intro pins s σ H Q I h
 refine R4 (l4 I hg hm DA (QO ?_ he2 rfl))
 rw[he2]
 refine Calls.spliced_cons (R4 (l4 I hg2 hm2 Fy (QO (cn (ha pos2 pins s σ H _ I h) λus s1 ⟨vs,H1,I1,r1,q1⟩=>?_) hs rfl)))
 obtain⟨l,xs,rfl,hq,q⟩:=q1
 obtain⟨u,rfl,rx⟩:=vals1 r1
 cases rx
 let⟨its,rv,pl,hz⟩:=I1.list hq
 refine call_reversed_list pl.isList (Calls.spliced_nil ?_)
 have ll:l<s1.heap.objs.size:=by let⟨_,e,_⟩:=pl.isList;exact Po e
 have hl:=rv.length
 refine By (I1.ok.hd hc) (P4 ll) ⟨_,Pl _ rfl,rfl,rfl⟩ (pl.isList.at λo e=>Pb _ e) (by simp;omega) λh' tk acc c k eD it=>?_
 have ea:acc=its.reverse.toArray:=by
  apply Array.ext_getElem?
  intro i
  by_cases hi:i<its.length
  .have hia:i<acc.size:=by rw[it.1];simpa using hi
   have ev:=it.2 i _ (PD hia)
   rw[PD hia,<-ev]
   simp[List.getElem?_reverse hi]
  .rw[Qz (by rw[it.1];simp;omega),Qz (by simp;omega)]
 have I2:Inv X pins σ H1 {s1 with heap:=s1.heap.push (revObj l ((its.toArray.size:Int)-1)),toks:=s1.toks}:=I1.kept λb o e=>Pb _ e
 have hf:H1 (s1.heap.push (revObj l ((its.toArray.size:Int)-1))).objs.size=none:=I2.hok.fresh (Pd _)
 have I3:Inv X pins σ (upd H1 (s1.heap.push (revObj l ((its.toArray.size:Int)-1))).objs.size (.lst xs.reverse)) {s1 with heap:=h',toks:=tk}:=
  I1.laid (λb o e=>k b o (P4 (Po e)) (Pb _ e)) (by rw[QJ];omega) (show bE X.prog X.w _ h' _ (.lst xs.reverse)from⟨by simpa using hz,its.reverse,c,wJ rv,by rw[<-ea];exact eD⟩)
 exact⟨.ref _,_,I3,rfl,q _ hf⟩
section
variable {K:Frag}{X:Cx}{Γ:Fx}{E:XK}{a:Expr}{fa:VF D}{La:List Nat}{ma:Md}{pos:Pos}
def NF:D->Option D
 | .list ds=>some (.list ds.reverse)
 |_=>none
theorem bS.rev:∀{xs:List V} {ds:List D},bS K G xs ds->bS K G xs.reverse ds.reverse
 |_,_,.nil=>.nil
 |_,_,.cons h t=>by rw[SV,SV];exact(bS.rev t).snoc h
theorem Ky:zW K (λx=>OT K [x]) NF .w:=by
 intro B G H x dx d Q s hB bx e k
 cases dx with
 |list ds=>
  cases e
  obtain⟨p,xs,rfl,hq,r⟩:=bx.list s
  exact⟨p,xs,rfl,.inl hq,λm hm=>(k _ G _ (Ext.own s hm) ⟨m,rfl,hm,s.free hm,_,au,r.rev⟩)⟩
 |_=>cases e
def Ih{p1 p2 pos2:Pos}(hK:X.K=Γ.K)(hc:X.calm=true)(hg:Gl X "list")(hm:X.mg "list"=none)(hg2:Gl X "reversed")(hm2:X.mg "reversed"=none)(ha:SE X Γ E a fa La ma)
  (hs:starEach [a] X.env=(false,eval a X.env)::starEach [] X.env:=by rfl) (he2:starEach [.Call (.Name "reversed" p2) [a] [] pos2] X.env=(false,eval (.Call (.Name "reversed" p2) [a] [] pos2) X.env)::starEach [] X.env:=by rfl) :
  SE X Γ E (.Call (.Name "list" p1) [.Call (.Name "reversed" p2) [a] [] pos2] [] pos) (f1 fa NF) La .w:=
 PE.post' (HS hc hg hm hg2 hm2 (aP ha bD hs) hs he2) λσ H Q ⟨env,G,B,β,I,o⟩=>by
  rw[hK]
  exact jh Ky I o
end
end L2
namespace RM
open PySem L2
def pU:SF:=(bJ (bt (ab (f2 (gv 0) (cst (.int 1)) cT) (ab (f2 (gv 0) (cst (.int 0)) cT) ag))))
def nS(fQ:List D->FR):SF:=(bJ (f1 (aM 1 [] (.nm 0) (bV (az fQ (ab (gv 0) ag))) kJ (bt (ab (gv 0) (ab (cst (.bool true)) ag)))) rk))
noncomputable def i9:SF:=(aF (bp 3 ([]++[]) (f2 (gv 2) (cst (.int 0)) cT))
 (aF (bp 4 ([]++[]) (f2 (gv 2) (cst (.int 1)) cT))
 (aF (bp 5 ([]++[4]) (aM 1 [4,0] (.nm 0) (bP (gv 1)) (AE (df (f2 (gv 0) (gv 1) (cR true))) (df (f2 (bt (ab (gv 1) (ab (gv 0) ag))) (gv 2) (mR true)))) (gv 0)))
 (aF (bp 6 ([]++[3]) (aM 1 [3,0] (.nm 0) (bP (gv 1)) (AE (df (f2 (gv 0) (gv 1) (cR true))) (df (f2 (bt (ab (gv 1) (ab (gv 0) ag))) (gv 2) (mR true)))) (gv 0)))
 (aF (bp 7 (([]++[3])++([]++[4])) (f2 (aM 1 [3] (.nm 0) (bV (gv 5)) kJ (bt (ab (gv 1) (ab (gv 0) ag)))) (aM 1 [4] (.nm 0) (bV (gv 6)) kJ (bt (ab (gv 0) (ab (gv 1) ag)))) jF))
 (k6 (f1 (aM 1 [0] (.nm 0) (bV (gv 7)) (df (f2 (gv 0) (gv 1) (mR false))) (gv 0)) iZ)))))))
def dR(cK:List D->FR):SF:=(aF (fE 3 [2] (IL 2))
 (aF (bp 4 ([2]++[]) (cz (ab (gv 2) ag)))
 (aF (fX [] (mE (gv 4))
 (aF (fE 5 [] (cz ag))
 (aF (dg (.nm 6) [4] (bV (gv 4))
 (dg (.nm 7) ([0]++([1]++([6]++[]))) (bV (az cK (ab (gv 0) (ab (gv 1) (ab (gv 6) ag)))))
 (kh ([]++[]) (df (f2 (gv 7) (gv 3) (mR true)))
 (aF (DD 3 [6] [] (gv 6) (gv 7))
 (mV 5 [7] (gv 7)))
 nt)))
 (bp 4 [5] (gv 5)))) 1000)
 (pY 3))))
def mh:SF:=(aF (fE 2 ([1]++[]) (cz (ab (gv 1) ag)))
 (aF (fX ([]++([]++[])) (tN (f2 (gv 0) (f2 (gv 2) (f1 (cst (.int 1)) BK) cT) pO) true)
 (mV 2 ([]++([]++[])) (f2 (gv 0) (f2 (gv 2) (f1 (cst (.int 1)) BK) cT) pO)) 1000)
 (k6 (f1 (gv 2) NF))))
def jv(aZ bC iM:List D->FR):SF:=(aF (fE 2 [] (cst (.dict [])))
 (aF (dg (.nm 3) [0] (Gx (gv 0))
 (kh ([]++[]) (df (f2 (gv 3) (gv 2) (mR true)))
 (aF (bp 4 ([0]++([1]++([3]++[]))) (az aZ (ab (gv 0) (ab (gv 1) (ab (gv 3) ag)))))
 (aF (kh (([3]++[])++[]) (df (f2 (az bC (ab (gv 3) ag)) (gv 4) (mR false)))
 (bJ (az iM (ab (gv 4) (ab (az bC (ab (gv 3) ag)) ag))))
 nt)
 (Cd 2 [4] (gv 4))))
 nt))
 (bJ (cst .none))))
def fK(aZ bC:List D->FR):SF:=(aF (fE 2 [] (cst (.dict [])))
 (aF (bp 3 [0] (gv 0))
 (aF (fX [] (HG (gv 3))
 (aF (bp 4 ([3]++([1]++(([]++[])++[]))) (az aZ (ab (gv 3) (ab (gv 1) (ab (f2 (f1 (gv 3) M7) (cst (.int 0)) cT) ag)))))
 (aF (Cd 2 [4] (gv 4))
 (bp 3 ([]++[]) (f1 (aM 1 [4] (.nm 0) (Gx (gv 3)) (AE (df (f2 (gv 0) (gv 1) (mR true))) (df (f2 (az bC (ab (gv 0) ag)) (gv 1) (mR true)))) (bt (ab (gv 0) (ab (cst (.bool true)) ag)))) rk)))) 1000)
 (pY 2))))
def lT:SF:=(aF (fE 2 [] (cz ag))
 (aF (dg (.nm 3) ([]++[]) (bP (f2 (gv 0) (cst (.int 0)) cT))
 (aF (bp 4 (([]++[])++[]) (aM 2 [3] (.two 0 1) (bV (f2 (gv 0) (cst (.int 1)) cT)) (df (f2 (gv 1) (gv 2) (cR false))) (gv 0)))
 (aF (bp 5 ([]++[]) (aM 2 [3] (.two 0 1) (Gx (gv 1)) (df (f2 (gv 1) (gv 2) (cR false))) (gv 0)))
 (aF (bp 6 ([]++[]) (aM 2 [3] (.two 0 1) (Gx (gv 1)) (df (f2 (gv 0) (gv 2) (cR false))) (gv 1)))
 (mV 2 (([]++[])++(([]++[])++[])) (bt (ab (f2 (f1 (gv 4) dr) (f1 (gv 5) dr) bO) (ab (f2 (f1 (gv 4) dr) (f1 (gv 6) dr) bO) ag))))))))
 (pY 2)))
def dI(bw dN fF fD cJ:List D->FR):SF:=(aF (t9 ([0]++[]) (az bw (ab (gv 0) ag)))
 (aF (bp 1 ([0]++[]) (az dN (ab (gv 0) ag)))
 (aF (bp 2 ([1]++(([]++[])++[])) (az fF (ab (gv 1) (ab (f2 (gv 0) (cst (.int 0)) cT) ag))))
 (aF (kh [] (tN (gv 2) true)
 (bJ (bt (ab (cst (.str "knot")) (ab (gv 2) ag))))
 nt)
 (bJ (bt (ab (cst (.str "points")) (ab (az fD (ab (gv 0) (ab (az cJ (ab (gv 1) (ab (f2 (gv 0) (cst (.int 0)) cT) ag))) ag))) ag))))))))
def l8(i3:List D->FR):SF:=(k6 (cz (ab (f1 (az i3 (ab (aM 2 [] (.two 0 1) (bV (gv 0)) kJ (gv 0)) ag)) fJ) (ab (f1 (az i3 (ab (aM 2 [] (.two 0 1) (bV (gv 0)) kJ (gv 1)) ag)) fJ) ag))))
def i4(bZ iI:List D->FR):SF:=(aF (bp 1 ([0]++[]) (az bZ (ab (gv 0) ag)))
 (aF (kh (([]++[])++[]) (df (f2 (f2 (gv 1) (cst (.int 0)) cT) (cst (.str "knot")) (cR false)))
 (bJ (cst .none))
 nt)
 (k6 (lq iI (ab (f2 (gv 1) (cst (.int 1)) cT) ag)))))
def ud(fQ:List D->FR):SF:=(bJ (f2 (f1 (az fQ (ab (gv 0) ag)) dr) (cst (.int 0)) (cR false)))
end RM
namespace L2
open PySem PySem.Spec PyProof.Rows
def yV(m m':SF):SF:=λenv β=>match m env β with
 | .bad=>m' env β
 |r=>r
theorem GD{st:Stmt}(h1:SS X Γ E st m)(h2:SS X Γ E st m'):SS X Γ E st (yV m m'):=by
 intro pins s σ H D I q
 let⟨env,G,B,β,J,o⟩:=q
 unfold yV at o
 cases c:m env β with
 |bad=>rw[c]at o;exact h2 pins s σ H D I ⟨env,G,B,β,J,o⟩
 |nx _ _=>rw[c]at o;exact h1 pins s σ H D I ⟨env,G,B,β,J,by rw[c];exact o⟩
 |ct _ _=>rw[c]at o;exact h1 pins s σ H D I ⟨env,G,B,β,J,by rw[c];exact o⟩
 |bk _ _=>rw[c]at o;exact h1 pins s σ H D I ⟨env,G,B,β,J,by rw[c];exact o⟩
 |rt _ _ _=>rw[c]at o;exact h1 pins s σ H D I ⟨env,G,B,β,J,by rw[c];exact o⟩
 |exc _=>rw[c]at o;exact h1 pins s σ H D I ⟨env,G,B,β,J,by rw[c];exact o⟩
def LQ:SF:=λ_ _=>.bad
section
variable {X:Cx}{Γ:Fx}{E:XK}
def KW{st:Stmt}:SS X Γ E st LQ:=λpins s σ H D I ⟨env,G,B,β,J,o⟩=>o.elim
end
end L2
namespace RM
open PySem L2
def kR(fW:List D->FR):SF:=(kh ([0]++[]) (tG (mE (az fW (ab (gv 0) ag))))
 LQ
 nt)
def j3(cZ aV:List D->FR):SF:=(aF (kh ([]++(([]++[])++([]++[]))) (om (tG (mE (f1 (gv 0) (jL "list")))) (om (df (f2 (f1 (gv 0) dr) (cst (.int 2)) (cR true))) (tG (mE (f1 (aM 1 [1] (.nm 0) (bV (gv 0)) kJ (az cZ (ab (gv 0) (ab (f2 (gv 1) (cst (.int 0)) cT) ag)))) (g7 λbs=>bs.all id))))))
 (bJ (cst (.bool false)))
 nt)
 (bJ (f2 (az aV (ab (f2 (gv 1) (cst (.int 0)) cT) (ab (gv 0) ag))) (f2 (gv 1) (cst (.int 1)) cT) (cR false))))
def Eo(gi aV cS dJ gC dQ cV:List D->FR)(aB aA bY bA:List D->Int->FB):SF:=(aF (dg (.nm 1) ([]++([]++[])) (bP (f2 (cst (.int 1)) (f2 (f1 (gv 0) dr) (cst (.int 3)) (Am λi j=>.int (if j<i then j else i))) (Am λi j=>.int (if j>i then j else i))))
 (aF (Af 2 ([0]++([1]++[])) (lq gi (ab (gv 0) (ab (gv 1) ag))))
 (aF (bp 3 ([]++([]++[])) (f2 (cst (.int 1)) (ij 2 aB (ab (cst (.int 8)) ag)) bO))
 (aF (bp 4 ([]++[]) (aM 1 [2,3] (.nm 0) (bP (cst (.int 2))) kJ (f1 (ij 1 aA (ab (f1 (gv 2) bM) ag)) fJ)))
 (aF (bp 5 ([3]++(([3]++((([]++[])++[])++[]))++[])) (bt (ab (gv 3) (ab (az aV (ab (gv 3) (ab (Nf (gv 4) (λ_ β=>.ok none β) (Nh (cst (.int 1)))) ag))) ag))))
 (aF (dg (.nm 6) (([3]++(([3]++([4]++[]))++[]))++([5]++(([]++[])++[]))) (bV (cz (ab (bt (ab (gv 3) (ab (az aV (ab (gv 3) (ab (gv 4) ag))) ag))) (ab (gv 5) (ab (ij 2 bY (ab (cst (.int 7)) ag)) ag)))))
 (aF (yV (fE 7 ([6]++[]) (lq cS (ab (gv 6) ag))) (bp 7 ([6]++[]) (az cS (ab (gv 6) ag))))
 (aF (kh (([6]++[])++((([6]++[])++[])++[])) (tG (mE (az dJ (ab (az gC (ab (gv 6) ag)) (ab (f2 (az dQ (ab (gv 6) ag)) (cz ag) (cR false)) ag)))))
 (bJ (cst (.bool false)))
 nt)
 (kh [] (tN (gv 7) false)
 (kh (([]++[])++([]++([3]++(([3]++([4]++[]))++[])))) (om (df (f2 (gv 6) (gv 5) (cR false))) (df (f2 (gv 6) (bt (ab (gv 3) (ab (az aV (ab (gv 3) (ab (gv 4) ag))) ag))) (cR false))))
 (bJ (cst (.bool false)))
 nt)
 (kh (([]++[])++(([6]++[])++(([]++[])++([]++[])))) (om (tG (mE (m8 cV (gv 7) (gv 6)))) (AE (mE (az gC (ab (gv 6) ag))) (df (f2 (f2 (gv 7) (cst (.int 0)) cT) (f2 (gv 7) (cst (.int 1)) cT) (cR true)))))
 (bJ (cst (.bool false)))
 (aF (mV 7 [] (cst (.int 0)))
 (kh (([6]++[])++[]) (tG (mE (m8 cV (az cS (ab (gv 6) ag)) (gv 6))))
 (bJ (cst (.bool false)))
 nt)))))))
 (kh ([]++[]) (tN (az cS (ab (ij 2 bA ag) ag)) true)
 (bJ (cst (.bool false)))
 nt)))))))
 (bJ (cst (.bool true))))
end RM
namespace RQ
open PySem L2 RM
section
variable {P:Program}{w:World}{K:Frag}{mg:Str->Option Value}{base:Heap}{ca:Str->Addr}
def wY:aH ["thing"] ["thing"] (aq jX):=@AC
def wd(F:jb K mg "is_whole" jX ["thing"] f fd)(B:ji mg):cN P w K mg base ca "is_whole" ["thing"] 1 (a9 1 1 (sq)):=
 ⟨⟨f,fd,F.mg,F.F.kp,F.b,aS F.F wY λcdv A outer s H G E hr=>
  (aw (aU (i8 (jD "int" @A_ rfl rfl B.isinstance rfl B.int (by decide +kernel) (af 0)) (kM (zE (jD "bool" @A_ rfl rfl B.isinstance rfl B.bool (by decide +kernel) (af 0)))) (λ_ _=>rfl))))⟩,λds h=>aO ds h⟩
def xF:aH ["thing","bound"] ["thing","bound"] (aq jZ):=@AC
def uY{b6:List D->FR}(F:jb K mg "is_below" jZ ["thing","bound"] f fd)(B:ji mg)(gz:cN P w K mg base ca "is_whole" ["thing"] 1 b6):cN P w K mg base ca "is_below" ["thing","bound"] 2 (a9 2 2 (sv b6)):=
 ⟨⟨f,fd,F.mg,F.F.kp,F.b,aS F.F xF λcdv A outer s H G E hr=>
  (aw (aU (i8 (aJ gz (hr.mono @A_) aQ rfl rfl (ae (ar 0 rfl) ah)) (kM (yt EU Jg JT Mb ay (af 0) (af 1))) (λ_ _=>rfl))))⟩,λds h=>aO ds h⟩
def zg:aH ["thing"] ["thing"] (aq mf):=@AC
def w8{b6:List D->FR}(F:jb K mg "is_many" mf ["thing"] f fd)(B:ji mg)(gz:cN P w K mg base ca "is_whole" ["thing"] 1 b6)(jB:mg "MOST_THINGS"=some (.int 8 FQ)):cN P w K mg base ca "is_many" ["thing"] 2 (a9 1 1 (uq b6)):=
 ⟨⟨f,fd,F.mg,F.F.kp,F.b,aS F.F zg λcdv A outer s H G E hr=>
  (aw (aU (i8 (aJ gz (hr.mono @A_) aQ rfl rfl (ae (ar 0 rfl) ah)) (kM (yt EU EU JT JT ay (af 0) (GN (by rfl) jB))) (λ_ _=>rfl))))⟩,λds h=>aO ds h⟩
def yO:aH ["thing","many"] ["thing","many"] (aq mi):=@AC
def yx{fx:List D->FR}(F:jb K mg "is_pair" mi ["thing","many"] f fd)(B:ji mg)(j4:cN P w K mg base ca "is_below" ["thing","bound"] 2 fx):cN P w K mg base ca "is_pair" ["thing","many"] 3 (a9 2 2 (uD fx)):=
 ⟨⟨f,fd,F.mg,F.F.kp,F.b,aS F.F yO λcdv A outer s H G E hr=>
  (ak (c7 (uE.t (ot (gF (dm rfl (jD "tuple" @A_ rfl rfl B.isinstance rfl B.tuple (by decide +kernel) (af 0)))) (mX (bq (gA hr.units) eT (bg b5 iP rfl B.len Qt (af 0)) ay (bo _))) (λ_ _=>rfl)))
  (aw (aU jg))
  cf)
  (aw (aU (i8 (aJ j4 (hr.mono @A_) aQ rfl rfl (ae (bI bc de (af 0) ay (λ_ _=>rfl)) (ae (ar 1 rfl) ah))) (kM (aJ j4 (hr.mono @A_) aQ rfl rfl (ae (bI bc de (af 0) ay (λ_ _=>rfl)) (ae (ar 1 rfl) ah)))) (λ_ _=>rfl)))))⟩,λds h=>aO ds h⟩
def sZ:aH ["many"] ["many"] (aq fP):=@AC
def sg(F:jb K mg "every_pair" fP ["many"] f fd)(B:ji mg):cN P w K mg base ca "every_pair" ["many"] 1 (a9 1 1 (h9)):=
 ⟨⟨f,fd,F.mg,F.F.kp,F.b,aS F.F sZ λcdv A outer s H G E hr=>
  (aw (jd (cH [] rfl (bR (by kernel_rfl)) (λ_ _=>rfl) (iV rfl B.range (bG jH j9 (af 0) (af 0))) (λH0 G0 par br bx C ex s3 H3 pn=>(cc (show(["number","many"]:List Str).Nodup by decide +kernel))) (λH0 G0 par br bx C ex s3 H3 pn hB1=>dZ) (λH0 G0 par br bx C ex s3 H3 pn hB1=>(bH (ae (bG nJ G6 (af 0) (af 1)) (ae (bG nj ug (af 0) (af 1)) ah)))))))⟩,λds h=>aO ds h⟩
def wC:aH ["pairs"] ["pairs"] (aq kx):=@AC
def u7(F:jb K mg "has_ring" kx ["pairs"] f fd)(B:ji mg):cN P w K mg base ca "has_ring" ["pairs"] 1 (a9 1 1 (sf)):=
 ⟨⟨f,fd,F.mg,F.F.kp,F.b,aS F.F wC λcdv A outer s H G E hr=>
  (aw (aU (bg (DI rfl) qz rfl B.any (by decide +kernel) (cH [] rfl (bR (by kernel_rfl)) (λ_ _=>rfl) (nG rfl (af 0)) (λH0 G0 par br bx C ex s3 H3 pn=>(jJ (show(["a","b"]:List Str).Nodup by decide +kernel))) (λH0 G0 par br bx C ex s3 H3 pn hB1=>dZ) (λH0 G0 par br bx C ex s3 H3 pn hB1=>(gc (cU hr.units) eT (af 0) (af 1) (bo _)))))))⟩,λds h=>aO ds h⟩
def lL:aH ["thing","many","pairs"] ["thing"] (aq kN):=@AC
def vR{iL iJ jU fZ:List D->FR}(F:jb K mg "is_order" kN ["thing"] f fd)(B:ji mg)(oN:cN P w K mg base ca "is_many" ["thing"] 2 iL)(oW:cN P w K mg base ca "is_pair" ["thing","many"] 3 iJ)(rl:cN P w K mg base ca "closed" ["many","pairs"] 3 jU)(m9:cN P w K mg base ca "has_ring" ["pairs"] 1 fZ):cN P w K mg base ca "is_order" ["thing"] 4 (a9 3 1 (iW iL iJ jU fZ)):=
 ⟨⟨f,fd,F.mg,F.F.kp,F.b,aS F.F lL λcdv A outer s H G E hr=>
  (ak (c7 (uE.t (ot (gF (dm rfl (jD "tuple" @A_ rfl rfl B.isinstance rfl B.tuple (by decide +kernel) (af 0)))) (mX (bq (gA hr.units) eT (bg b5 iP rfl B.len Qt (af 0)) ay (bo _))) (λ_ _=>rfl)))
  (aw (aU jg))
  cf)
  (ak (a7 (bI bc de (af 0) ay (λ_ _=>rfl)) lL.nd)
  (ak (a7 (bI bc de (af 0) ay (λ_ _=>rfl)) lL.nd)
  (ak (c7 (uE.t (ot (gF (dm rfl (aJ oN (hr.mono @A_) aQ rfl rfl (ae (ar 1 rfl) ah)))) (mX (gF (dm rfl (jD "tuple" @A_ rfl rfl B.isinstance rfl B.tuple (by decide +kernel) (af 2))))) (λ_ _=>rfl)))
  (aw (aU jg))
  cf)
  (ak (c7 (gF (dm rfl (bg (qD rfl) qz rfl B.all (by decide +kernel) (cH [1] rfl (bR (by kernel_rfl)) (λ_ _=>rfl) (nG rfl (af 2)) (λH0 G0 par br bx C ex s3 H3 pn=>(cc (show(["pair","many"]:List Str).Nodup by decide +kernel))) (λH0 G0 par br bx C ex s3 H3 pn hB1=>dZ) (λH0 G0 par br bx C ex s3 H3 pn hB1=>(aJ oW (hr.mono @A_) pV rfl rfl (ae (ar 0 (hB1 0 @A_)) (ae (ar 1 (hB1 1 @A_)) ah))))))))
  (aw (aU jg))
  cf)
  (aw (aU (i8 (gc (cU hr.units) eT (af 2) (aJ rl (hr.mono @A_) aQ rfl rfl (ae (ar 1 rfl) (ae (ar 2 rfl) ah))) (bo _)) (kM (zE (aJ m9 (hr.mono @A_) aQ rfl rfl (ae (ar 2 rfl) ah)))) (λ_ _=>rfl)))))))))⟩,λds h=>aO ds h⟩
def tu:aH ["thing"] ["thing"] (aq ie):=@AC
def qG{fW:List D->FR}(F:jb K mg "need_order" ie ["thing"] f fd)(B:ji mg)(mU:cN P w K mg base ca "is_order" ["thing"] 4 fW):cN P w K mg base ca "need_order" ["thing"] 5 (a9 1 1 (kR fW)):=
 ⟨⟨f,fd,F.mg,F.F.kp,F.b,aS F.F tu λcdv A outer s H G E hr=>
  (aw (c7 (gF (dm rfl (aJ mU (hr.mono @A_) aQ rfl rfl (ae (ar 0 rfl) ah))))
  (aw KW)
  cf))⟩,λds h=>aO ds h⟩
def vZ:aH ["order","a","b"] ["order","a","b"] (aq jr):=@AC
def sQ(F:jb K mg "are_apart" jr ["order","a","b"] f fd)(B:ji mg):cN P w K mg base ca "are_apart" ["order","a","b"] 1 (a9 3 3 (pW)):=
 ⟨⟨f,fd,F.mg,F.F.kp,F.b,aS F.F vZ λcdv A outer s H G E hr=>
  (aw (aU (i8 (gc (gA hr.units) eT (af 1) (af 2) (bo _)) (i8 (gc (mF hr.u1) HK (bH (ae (ar 1 rfl) (ae (ar 2 rfl) ah))) (bI bc de (af 0) ay (λ_ _=>rfl)) (by with_unfolding_all rfl)) (kM (gc (mF hr.u1) HK (bH (ae (ar 2 rfl) (ae (ar 1 rfl) ah))) (bI bc de (af 0) ay (λ_ _=>rfl)) (by with_unfolding_all rfl))) (λ_ _=>rfl)) (λ_ _=>rfl))))⟩,λds h=>aO ds h⟩
def o6:aH ["row","found","place","thing"] ["row"] (aq nR):=@AC
def y0(F:jb K mg "places" nR ["row"] f fd)(B:ji mg):cN P w K mg base ca "places" ["row"] 1 (a9 4 1 (oz)):=
 ⟨⟨f,fd,F.mg,F.F.kp,F.b,aS F.F o6 λcdv A outer s H G E hr=>
  (ak (eZ (Jw (cL (ae ay ah)) (bg b5 iP rfl B.len Qt (af 0))) o6.nd)
  (ak (fA PassesOwn.leaving rfl (JN rfl rfl B.enumerate (ar 0 rfl)) (jJ o6.nd)
  (aw (GG 1 (λ_=>rfl) (ar 2 rfl) (af 3))))
  (aw (l5 1))))⟩,λds h=>aO ds h⟩
def FA:aH ["order"] ["order"] (aq qq):=@AC
def BX{bw cQ fG:List D->FR}(F:jb K mg "turns" qq ["order"] f fd)(B:ji mg)(dG:cN P w K mg base ca "need_order" ["thing"] 5 bw)(kL:cN P w K mg base ca "every_pair" ["many"] 1 cQ)(lM:cN P w K mg base ca "are_apart" ["order","a","b"] 1 fG):cN P w K mg base ca "turns" ["order"] 6 (a9 1 1 (qp bw cQ fG)):=
 ⟨⟨f,fd,F.mg,F.F.kp,F.b,aS F.F FA λcdv A outer s H G E hr=>
  (ak (Bd (aJ dG (hr.mono @A_) aQ rfl rfl (ae (ar 0 rfl) ah)))
  (aw (jd (cH [0] rfl (bR (by kernel_rfl)) (λ_ _=>rfl) (nG rfl (aJ kL (hr.mono @A_) aQ rfl rfl (ae (bI bc de (af 0) ay (λ_ _=>rfl)) ah))) (λH0 G0 par br bx C ex s3 H3 pn=>(jJ (show(["a","b","order"]:List Str).Nodup by decide +kernel))) (λH0 G0 par br bx C ex s3 H3 pn hB1=>(fj (dm rfl (aJ lM (hr.mono @A_) pV rfl rfl (ae (ar 2 (hB1 2 @A_)) (ae (ar 0 (hB1 0 @A_)) (ae (ar 1 (hB1 1 @A_)) ah))))))) (λH0 G0 par br bx C ex s3 H3 pn hB1=>(bH (ae (ar 0 (hB1 0 @A_)) (ae (ar 1 (hB1 1 @A_)) ah))))))))⟩,λds h=>aO ds h⟩
def zu:aH ["points"] ["points"] (aq ml):=@AC
def wB{i3:List D->FR}(F:jb K mg "rows_by" ml ["points"] f fd)(B:ji mg)(nV:cN P w K mg base ca "places" ["row"] 1 i3):cN P w K mg base ca "rows_by" ["points"] 2 (a9 1 1 (l8 i3)):=
 ⟨⟨f,fd,F.mg,F.F.kp,F.b,aS F.F zu λcdv A outer s H G E hr=>
  (aw (jd (cL (ae (dA bX kj rfl B.tuple (by decide +kernel) (aJ nV (hr.mono @A_) aQ rfl rfl (ae (SE.wv (cH [] rfl (bR (by kernel_rfl)) (λ_ _=>rfl) (nG rfl (af 0)) (λH0 G0 par br bx C ex s3 H3 pn=>(jJ (show(["x","y"]:List Str).Nodup by decide +kernel))) (λH0 G0 par br bx C ex s3 H3 pn hB1=>dZ) (λH0 G0 par br bx C ex s3 H3 pn hB1=>(ar 0 (hB1 0 @A_))))) ah))) (ae (dA bX kj rfl B.tuple (by decide +kernel) (aJ nV (hr.mono @A_) aQ rfl rfl (ae (SE.wv (cH [] rfl (bR (by kernel_rfl)) (λ_ _=>rfl) (nG rfl (af 0)) (λH0 G0 par br bx C ex s3 H3 pn=>(jJ (show(["x","y"]:List Str).Nodup by decide +kernel))) (λH0 G0 par br bx C ex s3 H3 pn hB2=>dZ) (λH0 G0 par br bx C ex s3 H3 pn hB2=>(ar 1 (hB2 1 @A_))))) ah))) ah)))))⟩,λds h=>aO ds h⟩
def tD:aH ["order"] ["order"] (aq hZ):=@AC
def sy{fQ:List D->FR}(F:jb K mg "turn_table" hZ ["order"] f fd)(B:ji mg)(mD:cN P w K mg base ca "turns" ["order"] 6 fQ)(hn:lW K=true):cN P w K mg base ca "turn_table" ["order"] 7 (a9 1 1 (nS fQ)):=
 ⟨⟨f,fd,F.mg,F.F.kp,F.b,aS F.F tD λcdv A outer s H G E hr=>
  (aw (aU (dA (rG rfl hr.u2) (Ai hn) rfl B.dict (by decide +kernel) (cH [] rfl (bR (by kernel_rfl)) (λ_ _=>rfl) (nG rfl (aJ mD (hr.mono @A_) aQ rfl rfl (ae (ar 0 rfl) ah))) (λH0 G0 par br bx C ex s3 H3 pn=>(cc (show(["turn"]:List Str).Nodup by decide +kernel))) (λH0 G0 par br bx C ex s3 H3 pn hB1=>dZ) (λH0 G0 par br bx C ex s3 H3 pn hB1=>(bH (ae (ar 0 (hB1 0 @A_)) (ae jg ah))))))))⟩,λds h=>aO ds h⟩
def cv:aH ["table","many","turn","a","b","seconds","firsts","found"] ["table","many","turn"] (aq fN):=@AC
def pD(F:jb K mg "forced_among" fN ["table","many","turn"] f fd)(B:ji mg)(hn:lW K=true):cN P w K mg base ca "forced_among" ["table","many","turn"] 1 (a9 8 3 (i9)):=
 ⟨⟨f,fd,F.mg,F.F.kp,F.b,aS F.F cv λcdv A outer s H G E hr=>
  (ak (a7 (bI bc de (af 2) ay (λ_ _=>rfl)) cv.nd)
  (ak (a7 (bI bc de (af 2) ay (λ_ _=>rfl)) cv.nd)
  (ak (iw [4] rfl (bR (by kernel_rfl)) (λ_ _=>rfl) (iV rfl B.range (af 1)) (λH0 G0 par br bx C ex s3 H3 pn=>(cc (show(["c","b","table"]:List Str).Nodup by decide +kernel))) (λH0 G0 par br bx C ex s3 H3 pn hB1=>(fj (uE.t (rV (bq (gA hr.units) eT (af 0) (af 1) (bo _)) (oH (bq (iH hr.u1) (pL hn) (bH (ae (ar 1 (hB1 1 @A_)) (ae (ar 0 (hB1 0 @A_)) ah))) (af 2) (by with_unfolding_all rfl))) (λi hi=>hB1 i (by revert i hi;decide)))))) (λH0 G0 par br bx C ex s3 H3 pn hB1=>(ar 0 (hB1 0 @A_))) cv.nd)
  (ak (iw [3] rfl (bR (by kernel_rfl)) (λ_ _=>rfl) (iV rfl B.range (af 1)) (λH0 G0 par br bx C ex s3 H3 pn=>(cc (show(["c","a","table"]:List Str).Nodup by decide +kernel))) (λH0 G0 par br bx C ex s3 H3 pn hB2=>(fj (uE.t (rV (bq (gA hr.units) eT (af 0) (af 1) (bo _)) (oH (bq (iH hr.u1) (pL hn) (bH (ae (ar 1 (hB2 1 @A_)) (ae (ar 0 (hB2 0 @A_)) ah))) (af 2) (by with_unfolding_all rfl))) (λi hi=>hB2 i (by revert i hi;decide)))))) (λH0 G0 par br bx C ex s3 H3 pn hB2=>(ar 0 (hB2 0 @A_))) cv.nd)
  (ak (a7 (SE.wv (bG nX wV (cH [3] rfl (bR (by kernel_rfl)) (λ_ _=>rfl) (nG rfl (af 5)) (λH0 G0 par br bx C ex s3 H3 pn=>(cc (show(["c","a"]:List Str).Nodup by decide +kernel))) (λH0 G0 par br bx C ex s3 H3 pn hB3=>dZ) (λH0 G0 par br bx C ex s3 H3 pn hB3=>(bH (ae (ar 1 (hB3 1 @A_)) (ae (ar 0 (hB3 0 @A_)) ah))))) (cH [4] rfl (bR (by kernel_rfl)) (λ_ _=>rfl) (nG rfl (af 6)) (λH0 G0 par br bx C ex s3 H3 pn=>(cc (show(["c","b"]:List Str).Nodup by decide +kernel))) (λH0 G0 par br bx C ex s3 H3 pn hB4=>dZ) (λH0 G0 par br bx C ex s3 H3 pn hB4=>(bH (ae (ar 0 (hB4 0 @A_)) (ae (ar 1 (hB4 1 @A_)) ah))))))) cv.nd)
  (aw (jd (bg pR Ag rfl B.sorted (by decide +kernel) (cH [] rfl (bR (by kernel_rfl)) (λ_ _=>rfl) (nG rfl (af 7)) (λH0 G0 par br bx C ex s3 H3 pn=>(cc (show(["other","table"]:List Str).Nodup by decide +kernel))) (λH0 G0 par br bx C ex s3 H3 pn hB5=>(fj (bq (C2 hr.u1) (pL hn) (af 0) (af 1) (by with_unfolding_all rfl)))) (λH0 G0 par br bx C ex s3 H3 pn hB5=>(ar 0 (hB5 0 @A_))))))))))))⟩,λds h=>aO ds h⟩
def wm:aH ["turn"] ["turn"] (aq je):=@AC
def sS(F:jb K mg "back_turn" je ["turn"] f fd)(B:ji mg):cN P w K mg base ca "back_turn" ["turn"] 1 (a9 1 1 (pU)):=
 ⟨⟨f,fd,F.mg,F.F.kp,F.b,aS F.F wm λcdv A outer s H G E hr=>
  (aw (aU (bH (ae (bI bc de (af 0) ay (λ_ _=>rfl)) (ae (bI bc de (af 0) ay (λ_ _=>rfl)) ah)))))⟩,λds h=>aO ds h⟩
def bB:aH ["table","many","turn","came","fresh","later","one","other"] ["table","many","turn"] (aq dY):=@AC
def mS{cK:List D->FR}(F:jb K mg "forced_in_turn" dY ["table","many","turn"] f fd)(B:ji mg)(iN:cN P w K mg base ca "forced_among" ["table","many","turn"] 1 cK)(hn:lW K=true):cN P w K mg base ca "forced_in_turn" ["table","many","turn"] 2 (a9 8 3 (dR cK)):=
 ⟨⟨f,fd,F.mg,F.F.kp,F.b,aS F.F bB λcdv A outer s H G E hr=>
  (ak (eZ (HZ 2 rfl hr.u2 hn) bB.nd)
  (ak (a7 (SE.wv (cL (ae (ar 2 rfl) ah))) bB.nd)
  (ak (lV 1000 PassesOwn.leaving (dm rfl (af 4))
  (ak (eZ (cL ah) bB.nd)
  (ak (fA PassesOwn.leaving rfl (HI rfl (ar 4 rfl)) (cc bB.nd)
  (aw (fA PassesOwn.leaving rfl (HI rfl (aJ iN (hr.mono @A_) aQ rfl rfl (ae (ar 0 rfl) (ae (ar 1 rfl) (ae (ar 6 rfl) ah))))) (cc bB.nd)
  (aw (c7 (bq (iH hr.u1) (pL hn) (af 7) (af 3) (by with_unfolding_all rfl))
  (ak (Gv 3 hr.u2 hn (λ_=>rfl) (ar 6 rfl) (af 7))
  (aw (iG 5 (λ_=>rfl) (ar 7 rfl))))
  cf)))))
  (aw (a7 (ar 5 rfl) bB.nd)))))
  (aw (l5 3)))))⟩,λds h=>aO ds h⟩
def qW:aH ["came","turn","path"] ["came","turn"] (aq mz):=@AC
def yf(F:jb K mg "path_to" mz ["came","turn"] f fd)(B:ji mg)(hn:lW K=true):cN P w K mg base ca "path_to" ["came","turn"] 1 (a9 3 2 (mh)):=
 ⟨⟨f,fd,F.mg,F.F.kp,F.b,aS F.F qW λcdv A outer s H G E hr=>
  (ak (eZ (cL (ae (ar 1 rfl) ah)) qW.nd)
  (ak (lV 1000 PassesOwn.leaving (u4 (AF hr.u2 hn (af 0) (bI bc de (af 2) (Df zC D9 ay) (λ_ _=>rfl)) (λ_ _=>rfl)))
  (aw (iG 2 (λ_=>rfl) (AF hr.u2 hn (af 0) (bI bc de (af 2) (Df zC D9 ay) (λ_ _=>rfl)) (λ_ _=>rfl)))))
  (aw (jd (Ih rfl rfl rfl B.list rfl B.reversed (af 2))))))⟩,λds h=>aO ds h⟩
def hW:aH ["table","many","seen","turn","came"] ["table","many"] (aq jy):=@AC
def sO{aZ bC iM:List D->FR}(F:jb K mg "find_knot" jy ["table","many"] f fd)(B:ji mg)(b4:cN P w K mg base ca "forced_in_turn" ["table","many","turn"] 2 aZ)(dw:cN P w K mg base ca "back_turn" ["turn"] 1 bC)(o8:cN P w K mg base ca "path_to" ["came","turn"] 1 iM)(hn:lW K=true):cN P w K mg base ca "find_knot" ["table","many"] 3 (a9 5 2 (jv aZ bC iM)):=
 ⟨⟨f,fd,F.mg,F.F.kp,F.b,aS F.F hW λcdv A outer s H G E hr=>
  (ak (eZ yy hW.nd)
  (ak (fA PassesOwn.leaving rfl (Ms (ar 0 rfl)) (cc hW.nd)
  (aw (c7 (bq (iH hr.u1) (pL hn) (af 3) (af 2) (by with_unfolding_all rfl))
  (ak (a7 (aJ b4 (hr.mono @A_) aQ rfl rfl (ae (ar 0 rfl) (ae (ar 1 rfl) (ae (ar 3 rfl) ah)))) hW.nd)
  (ak (c7 (bq (C2 hr.u1) (pL hn) (aJ dw (hr.mono @A_) aQ rfl rfl (ae (ar 3 rfl) ah)) (af 4) (by with_unfolding_all rfl))
  (aw (aU (aJ o8 (hr.mono @A_) aQ rfl rfl (ae (ar 4 rfl) (ae (aJ dw (hr.mono @A_) aQ rfl rfl (ae (ar 3 rfl) ah)) ah)))))
  cf)
  (aw (E3 2 hr.u2 (λ_=>rfl) (ar 4 rfl)))))
  cf)))
  (aw (aU C5))))⟩,λds h=>aO ds h⟩
def dF:aH ["order","chosen","points","thing","ahead","firsts","seconds"] ["order","chosen"] (aq ju):=@AC
def tJ(F:jb K mg "points_by" ju ["order","chosen"] f fd)(B:ji mg):cN P w K mg base ca "points_by" ["order","chosen"] 1 (a9 7 2 (lT)):=
 ⟨⟨f,fd,F.mg,F.F.kp,F.b,aS F.F dF λcdv A outer s H G E hr=>
  (ak (eZ (cL ah) dF.nd)
  (ak (fA PassesOwn.leaving rfl (iV rfl B.range (bI bc de (af 0) ay (λ_ _=>rfl))) (cc dF.nd)
  (ak (iw [] rfl (bR (by kernel_rfl)) (λ_ _=>rfl) (nG rfl (bI bc de (af 0) ay (λ_ _=>rfl))) (λH0 G0 par br bx C ex s3 H3 pn=>(jJ (show(["a","b","thing"]:List Str).Nodup by decide +kernel))) (λH0 G0 par br bx C ex s3 H3 pn hB1=>(fj (bq (cU hr.units) eT (af 1) (af 2) (bo _)))) (λH0 G0 par br bx C ex s3 H3 pn hB1=>(ar 0 (hB1 0 @A_))) dF.nd)
  (ak (iw [] rfl (bR (by kernel_rfl)) (λ_ _=>rfl) (DE (af 1)) (λH0 G0 par br bx C ex s3 H3 pn=>(jJ (show(["a","b","thing"]:List Str).Nodup by decide +kernel))) (λH0 G0 par br bx C ex s3 H3 pn hB2=>(fj (bq (cU hr.units) eT (af 1) (af 2) (bo _)))) (λH0 G0 par br bx C ex s3 H3 pn hB2=>(ar 0 (hB2 0 @A_))) dF.nd)
  (ak (iw [] rfl (bR (by kernel_rfl)) (λ_ _=>rfl) (DE (af 1)) (λH0 G0 par br bx C ex s3 H3 pn=>(jJ (show(["a","b","thing"]:List Str).Nodup by decide +kernel))) (λH0 G0 par br bx C ex s3 H3 pn hB3=>(fj (bq (cU hr.units) eT (af 0) (af 2) (bo _)))) (λH0 G0 par br bx C ex s3 H3 pn hB3=>(ar 1 (hB3 1 @A_))) dF.nd)
  (aw (iG 2 (λ_=>rfl) (bH (ae (bG gm gE (bg b5 iP rfl B.len Qt (af 4)) (bg b5 iP rfl B.len Qt (af 5))) (ae (bG gm gE (bg b5 iP rfl B.len Qt (af 4)) (bg b5 iP rfl B.len Qt (af 6))) ah)))))))))
  (aw (l5 2))))⟩,λds h=>aO ds h⟩
def cX:aH ["table","many","chosen","left","came"] ["table","many"] (aq fI):=@AC
def ph{aZ bC:List D->FR}(F:jb K mg "chosen_turns" fI ["table","many"] f fd)(B:ji mg)(b4:cN P w K mg base ca "forced_in_turn" ["table","many","turn"] 2 aZ)(dw:cN P w K mg base ca "back_turn" ["turn"] 1 bC)(hn:lW K=true):cN P w K mg base ca "chosen_turns" ["table","many"] 3 (a9 5 2 (fK aZ bC)):=
 ⟨⟨f,fd,F.mg,F.F.kp,F.b,aS F.F cX λcdv A outer s H G E hr=>
  (ak (eZ yy cX.nd)
  (ak (a7 (ar 0 rfl) cX.nd)
  (ak (lV 1000 PassesOwn.leaving (JC (af 3))
  (ak (a7 (aJ b4 (hr.mono @A_) aQ rfl rfl (ae (ar 3 rfl) (ae (ar 1 rfl) (ae (bI bc de (dA (yC rfl) Gz rfl B.list (by decide +kernel) (af 3)) ay (λ_ _=>rfl)) ah)))) cX.nd)
  (ak (E3 2 hr.u2 (λ_=>rfl) (ar 4 rfl))
  (aw (a7 (dA (rG rfl hr.u2) (Ai hn) rfl B.dict (by decide +kernel) (cH [] rfl (bR (by kernel_rfl)) (λ_ _=>rfl) (DE (af 3)) (λH0 G0 par br bx C ex s3 H3 pn=>(cc (show(["turn","came"]:List Str).Nodup by decide +kernel))) (λH0 G0 par br bx C ex s3 H3 pn hB1=>(fj (uE.t (rV (bq (iH hr.u1) (pL hn) (af 0) (af 1) (by with_unfolding_all rfl)) (oH (bq (iH hr.u1) (pL hn) (aJ dw (hr.mono @A_) pV rfl rfl (ae (ar 0 (hB1 0 @A_)) ah)) (af 1) (by with_unfolding_all rfl))) (λi hi=>hB1 i (by revert i hi;decide)))))) (λH0 G0 par br bx C ex s3 H3 pn hB1=>(bH (ae (ar 0 (hB1 0 @A_)) (ae jg ah)))))) cX.nd)))))
  (aw (l5 2)))))⟩,λds h=>aO ds h⟩
def fT:aH ["order","table","knot"] ["order"] (aq dC):=@AC
def mQ{bw dN fF fD cJ:List D->FR}(F:jb K mg "points_or_knot" dC ["order"] f fd)(B:ji mg)(dG:cN P w K mg base ca "need_order" ["thing"] 5 bw)(kG:cN P w K mg base ca "turn_table" ["order"] 7 dN)(l0:cN P w K mg base ca "find_knot" ["table","many"] 3 fF)(lh:cN P w K mg base ca "points_by" ["order","chosen"] 1 fD)(iQ:cN P w K mg base ca "chosen_turns" ["table","many"] 3 cJ):cN P w K mg base ca "points_or_knot" ["order"] 8 (a9 3 1 (dI bw dN fF fD cJ)):=
 ⟨⟨f,fd,F.mg,F.F.kp,F.b,aS F.F fT λcdv A outer s H G E hr=>
  (ak (Bd (aJ dG (hr.mono @A_) aQ rfl rfl (ae (ar 0 rfl) ah)))
  (ak (a7 (aJ kG (hr.mono @A_) aQ rfl rfl (ae (ar 0 rfl) ah)) fT.nd)
  (ak (a7 (aJ l0 (hr.mono @A_) aQ rfl rfl (ae (ar 1 rfl) (ae (bI bc de (af 0) ay (λ_ _=>rfl)) ah))) fT.nd)
  (ak (c7 (u4 (af 2))
  (aw (aU (bH (ae zI (ae (ar 2 rfl) ah)))))
  cf)
  (aw (aU (bH (ae zI (ae (aJ lh (hr.mono @A_) aQ rfl rfl (ae (ar 0 rfl) (ae (aJ iQ (hr.mono @A_) aQ rfl rfl (ae (ar 1 rfl) (ae (bI bc de (af 0) ay (λ_ _=>rfl)) ah))) ah))) ah)))))))))⟩,λds h=>aO ds h⟩
def pS:aH ["order","found"] ["order"] (aq kg):=@AC
def vE{bZ iI:List D->FR}(F:jb K mg "two_rows" kg ["order"] f fd)(B:ji mg)(fY:cN P w K mg base ca "points_or_knot" ["order"] 8 bZ)(oP:cN P w K mg base ca "rows_by" ["points"] 2 iI):cN P w K mg base ca "two_rows" ["order"] 9 (a9 2 1 (i4 bZ iI)):=
 ⟨⟨f,fd,F.mg,F.F.kp,F.b,aS F.F pS λcdv A outer s H G E hr=>
  (ak (a7 (aJ fY (hr.mono @A_) aQ rfl rfl (ae (ar 0 rfl) ah)) pS.nd)
  (ak (c7 (bq (cU hr.units) eT (bI bc de (af 1) ay (λ_ _=>rfl)) zI (bo _))
  (aw (aU C5))
  cf)
  (aw (jd (rC oP (hr.mono @A_) aQ rfl rfl (ae (bI bc de (af 1) ay (λ_ _=>rfl)) ah))))))⟩,λds h=>aO ds h⟩
def zP:aH ["order"] ["order"] (aq mB):=@AC
def yp{fQ:List D->FR}(F:jb K mg "one_row" mB ["order"] f fd)(B:ji mg)(mD:cN P w K mg base ca "turns" ["order"] 6 fQ):cN P w K mg base ca "one_row" ["order"] 7 (a9 1 1 (ud fQ)):=
 ⟨⟨f,fd,F.mg,F.F.kp,F.b,aS F.F zP λcdv A outer s H G E hr=>
  (aw (aU (gc (cU hr.units) eT (bg b5 iP rfl B.len Qt (aJ mD (hr.mono @A_) aQ rfl rfl (ae (ar 0 rfl) ah))) ay (bo _))))⟩,λds h=>aO ds h⟩
def wj:aH ["script","k"] ["script","k"] (aq jx):=@AC
def tm(F:jb K mg "_law_cell" jx ["script","k"] f fd)(B:ji mg):cN P w K mg base ca "_law_cell" ["script","k"] 1 (a9 2 2 (gP)):=
 ⟨⟨f,fd,F.mg,F.F.kp,F.b,aS F.F wj λcdv A outer s H G E hr=>
  (ak (c7 (bq Jg Mb (af 1) (bg b5 iP rfl B.len Qt (af 0)) (bo _))
  (aw (aU (bI bc de (af 0) (af 1) (λ_ _=>rfl))))
  cf)
  (aw (aU ay)))⟩,λds h=>aO ds h⟩
def jn:aH ["cell","k","some","stir"] ["cell","k"] (aq gy):=@AC
def vA:∃(es:List Expr) (p1 p2 p3:Pos),c8 gy=.Assign [.Name "some" p1] (.List es p2) p3::(c8 gy).drop 1/\constsOf es=some [48271,69621,16807,39373,30269,40014,40692,50021,61687,71993,83869,95561,30307]:=⟨_,_,_,_,rfl,by kernel_rfl⟩
def wc(F:jb K mg "_law_mix" gy ["cell","k"] f fd)(B:ji mg):cN P w K mg base ca "_law_mix" ["cell","k"] 1 (a9 4 2 (kO)):=by
 let⟨es,p1,p2,p3,hb,hes⟩:=vA
 refine⟨⟨f,fd,F.mg,F.F.kp,F.b,aS F.F jn λcdv A outer s H G E hr=>?_⟩,λds h=>aO ds h⟩
 rw[hb]
 exact(ak (a7 (SE.wv (cL (uK hes))) jn.nd) (ak (a7 (bG gm gE (bG gm gE (bG jH j9 (bG gm gE (bG nj ug (af 0) ay) ay) (bI bc de (af 2) (bG nj ug (af 1) ay) (λ_ _=>rfl))) (bG jH j9 ay (af 1))) (bG jH j9 ay (bG nJ G6 (af 1) ay))) jn.nd)
  (ak (a7 (bG nj ug (af 3) ay) jn.nd)
  (aw (aU (bG nJ G6 (bG nj ug (bG gm gE (bG jH j9 (af 3) (af 3)) (bG jH j9 ay (af 1))) ay) ay))))))
def gQ:aH ["script","k","cell","number","j"] ["script","k"] (aq kH):=@AC
def u6{fC gp:List D->FR}(F:jb K mg "_law_box" kH ["script","k"] f fd)(B:ji mg)(lR:cN P w K mg base ca "_law_cell" ["script","k"] 1 fC)(nz:cN P w K mg base ca "_law_mix" ["cell","k"] 1 gp):cN P w K mg base ca "_law_box" ["script","k"] 2 (a9 5 2 (kI fC gp)):=
 ⟨⟨f,fd,F.mg,F.F.kp,F.b,aS F.F gQ λcdv A outer s H G E hr=>
  (ak (a7 (aJ lR (hr.mono @A_) aQ rfl rfl (ae (ar 0 rfl) (ae (ar 1 rfl) ah))) gQ.nd)
  (ak (c7 (bq (cU hr.units) eT (bG nj ug (af 2) ay) ay (bo _))
  (aw (jd (cL (ae (bG nJ G6 (bg Dg MF rfl B.abs (by decide +kernel) (af 2)) ay) ah))))
  cf)
  (ak (a7 ay gQ.nd)
  (ak (fA PassesOwn.leaving rfl (iV rfl B.range ay) (cc gQ.nd)
  (aw (a7 (bG gm gE (bG jH j9 (af 3) ay) (aJ nz (hr.mono @A_) aQ rfl rfl (ae (ar 2 rfl) (ae (ar 4 rfl) ah)))) gQ.nd)))
  (aw (jd (cL (ae (ar 3 rfl) ah))))))))⟩,λds h=>aO ds h⟩
def n6:aH ["box","many","left","digit"] ["box","many"] (aq jq):=@AC
def sP(F:jb K mg "_law_take" jq ["box","many"] f fd)(B:ji mg):kl P w K mg base "_law_take" ["box","many"] 1 cA:=by
 refine⟨⟨f,fd,F.mg,F.F.kp,F.b,?_⟩,λds β h=>?_⟩
 .refine F.F.CU n6 (λvs H Q E h=>?_) (λcdv A outer s H vs Q E hr h=>?_)
  .obtain⟨b,rest,G,ds,β,rfl,hb,gb,sG,hl,r,_⟩:=h
   rw[PR,r.len,hl];rfl
  .obtain⟨b,rest,G,ds,β,rfl,hb,gb,sG,hl,r,h⟩:=h
   obtain⟨m,rfl,h0,h1⟩:=AH (λz=>by rw[z]at h;exact h)
   rw[v8 h0 h1]at h
   have kk:∀v G' H',iK (some b) H H'->H' b=some (.lst [.int (β/m)])->ao G G'->ao G' H'->(∀c,Mx H c->G c=none->G' c=none)->FV K H G' H' false (.int (β%m)) v->Q v H':=h
   cases r with
   |cons r1 r2=>
    cases r1
    cases r2
    refine⟨_,iO (rX (lU xj rfl B.divmod (by decide +kernel) (aP (mO iC (pv 0) yI (λ_ _=>rfl)) (aP (pv 1) bD))) (Im (i:=2) (j:=3) n6.nd rfl rfl rfl rfl rfl))
     (iO (rX (pv 2) (vd (pv 0) yI set_list)) (jf (oU (pv 3)))),?_⟩
    refine⟨_,rfl,b,_,0,.int β,rfl,rfl,.inl (.inl hb),rfl,_,rfl,β,m,rfl,⟨h0,h1⟩,λp hp=>⟨p,_,rfl,.inl (.inl au),rfl,_,_,rfl,_,_,rfl,rfl,?_⟩⟩
    have hbp:b≠p:=aL hb hp
    exact⟨_,rfl,_,rfl,b,[.int β],0,0,rfl,rfl,by rw[av hbp];exact hb,rfl,_,rfl,C0 hb sG hp kk gb⟩
 .obtain⟨m,rfl,_⟩:=AH h
  rfl
def tx:aH ["thing"] ["thing"] (aq iE):=@AC
def qS(F:jb K mg "_law_whole" iE ["thing"] f fd)(B:ji mg):cN P w K mg base ca "_law_whole" ["thing"] 1 (a9 1 1 (n5)):=
 ⟨⟨f,fd,F.mg,F.F.kp,F.b,aS F.F tx λcdv A outer s H G E hr=>
  (aw (aU (i8 (jD "int" @A_ rfl rfl B.isinstance rfl B.int (by decide +kernel) (af 0)) (kM (zE (jD "bool" @A_ rfl rfl B.isinstance rfl B.bool (by decide +kernel) (af 0)))) (λ_ _=>rfl))))⟩,λds h=>aO ds h⟩
def sN:aH ["found","due"] ["found","due"] (aq ig):=@AC
def sD(F:jb K mg "_law_truth" ig ["found","due"] f fd)(B:ji mg):cN P w K mg base ca "_law_truth" ["found","due"] 1 (a9 2 2 (oj)):=
 ⟨⟨f,fd,F.mg,F.F.kp,F.b,aS F.F sN λcdv A outer s H G E hr=>
  (aw (aU (i8 (jD "bool" @A_ rfl rfl B.isinstance rfl B.bool (by decide +kernel) (af 0)) (kM (gc (cU hr.units) eT (af 0) (af 1) (bo _))) (λ_ _=>rfl))))⟩,λds h=>aO ds h⟩
def gk:aH ["box","some","left","found"] ["box","some"] (aq fm):=@AC
def ox{aB:List D->Int->FB}(F:jb K mg "_law_mixed_up" fm ["box","some"] f fd)(B:ji mg)(aW:kl P w K mg base "_law_take" ["box","many"] 1 aB):kl P w K mg base "_law_mixed_up" ["box","some"] 2 (p6 4 1 (fg aB)):=
 ⟨⟨f,fd,F.mg,F.F.kp,F.b,oI (ca:=λ_=>0) F.F gk @A_ λcdv A outer s H G b E hr=>
  (ak (eZ (dA vM KS rfl B.list (by decide +kernel) (af 1)) gk.nd)
  (ak (eZ (cL ah) gk.nd)
  (ak (lV 1000 PassesOwn.leaving (bq (gA hr.units) eT (af 2) (cL ah) (bo _))
  (aw (Co 3 2 (λ_=>rfl) (hV 0 aW (hr.mono @A_) aQ rfl rfl (ae (bg b5 iP rfl B.len Qt (af 2)) ah)))))
  (aw (l5 3)))))⟩,λds β h=>oJ ds β h⟩
def bL:aH ["pairs","found","size","more","a","b"] ["pairs"] (aq gH):=@AC
def p0(F:jb K mg "_law_closed" gH ["pairs"] f fd)(B:ji mg):cN P w K mg base ca "_law_closed" ["pairs"] 1 (a9 6 1 (gG)):=
 ⟨⟨f,fd,F.mg,F.F.kp,F.b,aS F.F bL λcdv A outer s H G E hr=>
  (ak (a7 (SE.wv (qQ rfl hr.units rfl rfl B.sorted rfl B.set (af 0))) bL.nd)
  (ak (a7 (Df zC D9 ay) bL.nd)
  (ak (lV 1000 PassesOwn.leaving (bq (gA hr.units) eT (af 2) (bg b5 iP rfl B.len Qt (af 1)) (bo _))
  (ak (a7 (bg b5 iP rfl B.len Qt (af 1)) bL.nd)
  (ak (a7 (SE.wv (cL ah)) bL.nd)
  (ak (fA PassesOwn.leaving rfl (HI rfl (ar 1 rfl)) (jJ bL.nd)
  (aw (a7 (SE.wv (bG nX wV (af 3) (cH [4] rfl (bR (by kernel_rfl)) (λ_ _=>rfl) (nG rfl (af 1)) (λH0 G0 par br bx C ex s3 H3 pn=>(jJ (show(["c","d","b","a"]:List Str).Nodup by decide +kernel))) (λH0 G0 par br bx C ex s3 H3 pn hB1=>(fj (bq (cU hr.units) eT (af 0) (af 2) (bo _)))) (λH0 G0 par br bx C ex s3 H3 pn hB1=>(bH (ae (ar 3 (hB1 3 @A_)) (ae (ar 1 (hB1 1 @A_)) ah))))))) bL.nd)))
  (aw (a7 (SE.wv (qQ rfl hr.units rfl rfl B.sorted rfl B.set (bG nX wV (af 1) (af 3)))) bL.nd))))))
  (aw (aU (dA bX kj rfl B.tuple (by decide +kernel) (af 1)))))))⟩,λds h=>aO ds h⟩
def cE:aH ["box","most","many","names","thin","pairs","i","j"] ["box","most"] (aq iz):=@AC
def rq{c5:List D->FR}{aB aA:List D->Int->FB}(F:jb K mg "_law_order" iz ["box","most"] f fd)(B:ji mg)(jK:cN P w K mg base ca "_law_closed" ["pairs"] 1 c5)(aW:kl P w K mg base "_law_take" ["box","many"] 1 aB)(aX:kl P w K mg base "_law_mixed_up" ["box","some"] 2 aA):kl P w K mg base "_law_order" ["box","most"] 3 (p6 8 1 (iF c5 aB aA)):=
 ⟨⟨f,fd,F.mg,F.F.kp,F.b,oI F.F cE @A_ λcdv A outer s H G b E hr=>
  (ak (a7 (bG gm gE ay (hV 0 aW (hr.mono @A_) aQ rfl rfl (ae (ar 1 rfl) ah))) cE.nd)
  (ak (a7 (hV 0 aX (hr.mono @A_) aQ rfl rfl (ae (SE.wv (iX rfl rfl B.list rfl B.range (af 2))) ah)) cE.nd)
  (ak (a7 (bI bc de (cL (ae ay (ae ay (ae ay (ae ay ah))))) (hV 0 aW (hr.mono @A_) aQ rfl rfl (ae ay ah)) (λ_ _=>rfl)) cE.nd)
  (ak (eZ (cL ah) cE.nd)
  (ak (fA PassesOwn.leaving rfl (iV rfl B.range (af 2)) (cc cE.nd)
  (aw (fA PassesOwn.leaving rfl (Me rfl B.range (bG gm gE (af 6) ay) (af 2)) (cc cE.nd)
  (aw (c7 (bq (cU hr.units) eT (hV 0 aW (hr.mono @A_) aQ rfl rfl (ae (ar 4 rfl) ah)) ay (bo _))
  (aw (iG 5 (λ_=>rfl) (bH (ae (bI bc de (af 3) (af 6) (λ_ _=>rfl)) (ae (bI bc de (af 3) (af 7) (λ_ _=>rfl)) ah)))))
  cf)))))
  (aw (aU (bH (ae (ar 2 rfl) (ae (aJ jK (hr.mono @A_) aQ rfl rfl (ae (ar 5 rfl) ah)) ah))))))))))⟩,λds β h=>oJ ds β h⟩
def tK:aH ["order","a","b"] ["order","a","b"] (aq ik):=@AC
def rB(F:jb K mg "_law_apart" ik ["order","a","b"] f fd)(B:ji mg):cN P w K mg base ca "_law_apart" ["order","a","b"] 1 (a9 3 3 (nW)):=
 ⟨⟨f,fd,F.mg,F.F.kp,F.b,aS F.F tK λcdv A outer s H G E hr=>
  (aw (aU (i8 (gc (gA hr.units) eT (af 1) (af 2) (bo _)) (i8 (gc (mF hr.u1) HK (bH (ae (ar 1 rfl) (ae (ar 2 rfl) ah))) (bI bc de (af 0) ay (λ_ _=>rfl)) (by with_unfolding_all rfl)) (kM (gc (mF hr.u1) HK (bH (ae (ar 2 rfl) (ae (ar 1 rfl) ah))) (bI bc de (af 0) ay (λ_ _=>rfl)) (by with_unfolding_all rfl))) (λ_ _=>rfl)) (λ_ _=>rfl))))⟩,λds h=>aO ds h⟩
def gM:aH ["order","found","a"] ["order"] (aq iB):=@AC
def qI{dM:List D->FR}(F:jb K mg "_law_turns" iB ["order"] f fd)(B:ji mg)(km:cN P w K mg base ca "_law_apart" ["order","a","b"] 1 dM):cN P w K mg base ca "_law_turns" ["order"] 2 (a9 3 1 (il dM)):=
 ⟨⟨f,fd,F.mg,F.F.kp,F.b,aS F.F gM λcdv A outer s H G E hr=>
  (ak (a7 (SE.wv (cL ah)) gM.nd)
  (ak (fA PassesOwn.leaving rfl (iV rfl B.range (bI bc de (af 0) ay (λ_ _=>rfl))) (cc gM.nd)
  (aw (a7 (SE.wv (bG nX wV (af 1) (cH [0,2] rfl (bR (by kernel_rfl)) (λ_ _=>rfl) (iV rfl B.range (bI bc de (af 0) ay (λ_ _=>rfl))) (λH0 G0 par br bx C ex s3 H3 pn=>(cc (show(["b","order","a"]:List Str).Nodup by decide +kernel))) (λH0 G0 par br bx C ex s3 H3 pn hB1=>(fj (dm rfl (aJ km (hr.mono @A_) pV rfl rfl (ae (ar 1 (hB1 1 @A_)) (ae (ar 2 (hB1 2 @A_)) (ae (ar 0 (hB1 0 @A_)) ah))))))) (λH0 G0 par br bx C ex s3 H3 pn hB1=>(bH (ae (ar 2 (hB1 2 @A_)) (ae (ar 0 (hB1 0 @A_)) ah))))))) gM.nd)))
  (aw (l5 1))))⟩,λds h=>aO ds h⟩
def qC:aH ["thing","many"] ["thing","many"] (aq gJ):=@AC
def pZ{eJ:List D->FR}(F:jb K mg "_law_is_row" gJ ["thing","many"] f fd)(B:ji mg)(j6:cN P w K mg base ca "_law_whole" ["thing"] 1 eJ):cN P w K mg base ca "_law_is_row" ["thing","many"] 2 (a9 2 2 (gK eJ)):=
 ⟨⟨f,fd,F.mg,F.F.kp,F.b,aS F.F qC λcdv A outer s H G E hr=>
  (ak (c7 (uE.t (ot (gF (dm rfl (jD "tuple" @A_ rfl rfl B.isinstance rfl B.tuple (by decide +kernel) (af 0)))) (ot (bq (gA hr.units) eT (bg b5 iP rfl B.len Qt (af 0)) (af 1) (bo _)) (mX (gF (dm rfl (bg (qD rfl) qz rfl B.all (by decide +kernel) (cH [] rfl (bR (by kernel_rfl)) (λ_ _=>rfl) (nG rfl (af 0)) (λH0 G0 par br bx C ex s3 H3 pn=>(cc (show(["one"]:List Str).Nodup by decide +kernel))) (λH0 G0 par br bx C ex s3 H3 pn hB1=>dZ) (λH0 G0 par br bx C ex s3 H3 pn hB1=>(aJ j6 (hr.mono @A_) pV rfl rfl (ae (ar 0 (hB1 0 @A_)) ah)))))))) (λ_ _=>rfl)) (λ_ _=>rfl)))
  (aw (aU jg))
  cf)
  (aw (aU (gc (cU hr.units) eT (bg zQ GO rfl B.sorted (by decide +kernel) (af 0)) (iX rfl rfl B.list rfl B.range (af 1)) (bo _)))))⟩,λds h=>aO ds h⟩
def fM:aH ["many","rows","found","a","b","left"] ["many","rows"] (aq jm):=@AC
def tf(F:jb K mg "_law_told" jm ["many","rows"] f fd)(B:ji mg):cN P w K mg base ca "_law_told" ["many","rows"] 1 (a9 6 2 (gL)):=
 ⟨⟨f,fd,F.mg,F.F.kp,F.b,aS F.F fM λcdv A outer s H G E hr=>
  (ak (eZ (cL ah) fM.nd)
  (ak (fA PassesOwn.leaving rfl (iV rfl B.range (af 0)) (cc fM.nd)
  (aw (fA PassesOwn.leaving rfl (iV rfl B.range (af 0)) (cc fM.nd)
  (ak (iw [] rfl (bR (by kernel_rfl)) (λ_ _=>rfl) (nG rfl (af 1)) (λH0 G0 par br bx C ex s3 H3 pn=>(cc (show(["one","a","b"]:List Str).Nodup by decide +kernel))) (λH0 G0 par br bx C ex s3 H3 pn hB1=>(fj (bq LA N4 (wR rfl (af 0) (af 1)) (wR rfl (af 0) (af 2)) (bo _)))) (λH0 G0 par br bx C ex s3 H3 pn hB1=>ay) fM.nd)
  (aw (c7 (uE.t (rV (bq (gA hr.units) eT (af 3) (af 4) (bo _)) (oH (bq (cU hr.units) eT (af 5) (cL ah) (bo _))) (λ_ _=>rfl)))
  (aw (iG 2 (λ_=>rfl) (bH (ae (ar 3 rfl) (ae (ar 4 rfl) ah)))))
  cf))))))
  (aw (aU (dA bX kj rfl B.tuple (by decide +kernel) (af 2))))))⟩,λds h=>aO ds h⟩
def cF:aH ["box","many","names","pairs","i","others"] ["box"] (aq iD):=@AC
def qL{aB aA:List D->Int->FB}(F:jb K mg "_law_crown" iD ["box"] f fd)(B:ji mg)(aW:kl P w K mg base "_law_take" ["box","many"] 1 aB)(aX:kl P w K mg base "_law_mixed_up" ["box","some"] 2 aA):kl P w K mg base "_law_crown" ["box"] 3 (p6 6 0 (ip aB aA)):=
 ⟨⟨f,fd,F.mg,F.F.kp,F.b,oI (ca:=λ_=>0) F.F cF @A_ λcdv A outer s H G b E hr=>
  (ak (a7 (bG gm gE ay (hV 0 aW (hr.mono @A_) aQ rfl rfl (ae ay ah))) cF.nd)
  (ak (a7 (hV 0 aX (hr.mono @A_) aQ rfl rfl (ae (SE.wv (iX rfl rfl B.list rfl B.range (bG jH j9 ay (af 1)))) ah)) cF.nd)
  (ak (a7 (SE.wv (cL ah)) cF.nd)
  (ak (fA PassesOwn.leaving rfl (iV rfl B.range (af 1)) (cc cF.nd)
  (ak (iw [] rfl (bR (by kernel_rfl)) (λ_ _=>rfl) (iV rfl B.range (af 1)) (λH0 G0 par br bx C ex s3 H3 pn=>(cc (show(["j","i","names","many"]:List Str).Nodup by decide +kernel))) (λH0 G0 par br bx C ex s3 H3 pn hB1=>(fj (bq (gA hr.units) eT (af 0) (af 1) (bo _)))) (λH0 G0 par br bx C ex s3 H3 pn hB1=>(bI bc de (af 2) (bG gm gE (af 3) (af 0)) (λ_ _=>rfl))) cF.nd)
  (aw (a7 (SE.wv (bG nX wV (af 3) (cH [] rfl (bR (by kernel_rfl)) (λ_ _=>rfl) (nG rfl (af 5)) (λH0 G0 par br bx C ex s3 H3 pn=>(cc (show(["other","names","i"]:List Str).Nodup by decide +kernel))) (λH0 G0 par br bx C ex s3 H3 pn hB2=>dZ) (λH0 G0 par br bx C ex s3 H3 pn hB2=>(bH (ae (bI bc de (af 1) (af 2) (λ_ _=>rfl)) (ae (ar 0 (hB2 0 @A_)) ah))))))) cF.nd))))
  (aw (aU (bH (ae (bG jH j9 ay (af 1)) (ae (dA bX kj rfl B.tuple (by decide +kernel) (bg pR Ag rfl B.sorted (by decide +kernel) (af 3))) ah)))))))))⟩,λds β h=>oJ ds β h⟩
def c9:aH ["box","most","kind","many","rows"] ["box","most"] (aq dE):=@AC
def ny{aV:List D->FR}{aB bA aA dX:List D->Int->FB}(F:jb K mg "_law_any_order" dE ["box","most"] f fd)(B:ji mg)(bK:cN P w K mg base ca "_law_told" ["many","rows"] 1 aV)(aW:kl P w K mg base "_law_take" ["box","many"] 1 aB)(eG:kl P w K mg base "_law_crown" ["box"] 3 bA)(aX:kl P w K mg base "_law_mixed_up" ["box","some"] 2 aA)(jY:kl P w K mg base "_law_order" ["box","most"] 3 dX):kl P w K mg base "_law_any_order" ["box","most"] 4 (p6 5 1 (dD aV aB bA aA dX)):=
 ⟨⟨f,fd,F.mg,F.F.kp,F.b,oI F.F c9 @A_ λcdv A outer s H G b E hr=>
  (ak (a7 (hV 0 aW (hr.mono @A_) aQ rfl rfl (ae ay ah)) c9.nd)
  (ak (c7 (bq (cU hr.units) eT (af 2) ay (bo _))
  (aw (aU (hV 0 eG (hr.mono @A_) aQ rfl rfl ah)))
  cf)
  (ak (c7 (bq (cU hr.units) eT (af 2) ay (bo _))
  (ak (a7 (bG gm gE ay (hV 0 aW (hr.mono @A_) aQ rfl rfl (ae (ar 1 rfl) ah))) c9.nd)
  (ak (iw [] rfl (bR (by kernel_rfl)) (λ_ _=>rfl) (iV rfl B.range ay) (λH0 G0 par br bx C ex s3 H3 pn=>(cc (show(["side","box","many"]:List Str).Nodup by decide +kernel))) (λH0 G0 par br bx C ex s3 H3 pn hB1=>dZ) (λH0 G0 par br bx C ex s3 H3 pn hB1=>(dA bX kj rfl B.tuple (by decide +kernel) (hV 1 aX (hr.mono @A_) pV rfl rfl (ae (SE.wv (iX rfl rfl B.list rfl B.range (af 2))) ah)))) c9.nd)
  (aw (aU (bH (ae (ar 3 rfl) (ae (aJ bK (hr.mono @A_) aQ rfl rfl (ae (ar 3 rfl) (ae (ar 4 rfl) ah))) ah)))))))
  cf)
  (aw (aU (hV 0 jY (hr.mono @A_) aQ rfl rfl (ae (ar 1 rfl) ah)))))))⟩,λds β h=>oJ ds β h⟩
def sU:aH ["found","order"] ["found","order"] (aq ic):=@AC
def sh{cZ aV:List D->FR}(F:jb K mg "_law_right" ic ["found","order"] f fd)(B:ji mg)(jI:cN P w K mg base ca "_law_is_row" ["thing","many"] 2 cZ)(bK:cN P w K mg base ca "_law_told" ["many","rows"] 1 aV):cN P w K mg base ca "_law_right" ["found","order"] 3 (a9 2 2 (j3 cZ aV)):=
 ⟨⟨f,fd,F.mg,F.F.kp,F.b,aS F.F sU λcdv A outer s H G E hr=>
  (ak (c7 (uE.t (ot (gF (dm rfl (jD "list" @A_ rfl rfl B.isinstance rfl B.list (by decide +kernel) (af 0)))) (ot (bq (gA hr.units) eT (bg b5 iP rfl B.len Qt (af 0)) ay (bo _)) (mX (gF (dm rfl (bg (qD rfl) qz rfl B.all (by decide +kernel) (cH [] rfl (bR (by kernel_rfl)) (λ_ _=>rfl) (nG rfl (af 0)) (λH0 G0 par br bx C ex s3 H3 pn=>(cc (show(["row","order"]:List Str).Nodup by decide +kernel))) (λH0 G0 par br bx C ex s3 H3 pn hB1=>dZ) (λH0 G0 par br bx C ex s3 H3 pn hB1=>(aJ jI (hr.mono @A_) pV rfl rfl (ae (ar 0 (hB1 0 @A_)) (ae (bI bc de (af 1) ay (λ_ _=>rfl)) ah))))))))) (λ_ _=>rfl)) (λ_ _=>rfl)))
  (aw (aU jg))
  cf)
  (aw (aU (gc (cU hr.units) eT (aJ bK (hr.mono @A_) aQ rfl rfl (ae (bI bc de (af 1) ay (λ_ _=>rfl)) (ae (ar 0 rfl) ah))) (bI bc de (af 1) ay (λ_ _=>rfl)) (bo _)))))⟩,λds h=>aO ds h⟩
def j5:aH ["script","k","box","many","rows","line","order","found"] ["script"] (aq mK):=@AC
def GQ{gi aV cS dJ gC dQ cV:List D->FR}{aB aA bY bA:List D->Int->FB}(F:jb K mg "law" mK ["script"] f fd)(B:ji mg)(mY:cN P w K mg base ca "_law_box" ["script","k"] 2 gi)(bK:cN P w K mg base ca "_law_told" ["many","rows"] 1 aV)(gj:cN P w K mg base ca "two_rows" ["order"] 9 cS)(kK:cN P w K mg base ca "_law_truth" ["found","due"] 1 dJ)(mH:cN P w K mg base ca "one_row" ["order"] 7 gC)(kz:cN P w K mg base ca "_law_turns" ["order"] 2 dQ)(iu:cN P w K mg base ca "_law_right" ["found","order"] 3 cV)(aW:kl P w K mg base "_law_take" ["box","many"] 1 aB)(aX:kl P w K mg base "_law_mixed_up" ["box","some"] 2 aA)(gq:kl P w K mg base "_law_any_order" ["box","most"] 4 bY)(eG:kl P w K mg base "_law_crown" ["box"] 3 bA):gS P w K mg base (uL P w) 10 f fd ["script"] (FT K ca 1 (a9 8 1 (Eo gi aV cS dJ gC dQ cV aB aA bY bA))):=
 aS F.F j5 λcdv A outer s H G E hr=>
  (ak (fA PassesOwn.leaving rfl (iV rfl B.range (xV (Cy rfl) JZ rfl B.max (by decide +kernel) ay (xV (CG rfl) JB rfl B.min (by decide +kernel) (bg b5 iP rfl B.len Qt (af 0)) ay))) (cc j5.nd)
  (ak (Ia rfl (rC mY (hr.mono @A_) aQ rfl rfl (ae (ar 0 rfl) (ae (ar 1 rfl) ah))) j5.nd)
  (ak (a7 (bG gm gE ay (hV 2 aW (hr.mono @A_) aQ rfl rfl (ae ay ah))) j5.nd)
  (ak (iw [] rfl (bR (by kernel_rfl)) (λ_ _=>rfl) (iV rfl B.range ay) (λH0 G0 par br bx C ex s3 H3 pn=>(cc (show(["side","box","many"]:List Str).Nodup by decide +kernel))) (λH0 G0 par br bx C ex s3 H3 pn hB1=>dZ) (λH0 G0 par br bx C ex s3 H3 pn hB1=>(dA bX kj rfl B.tuple (by decide +kernel) (hV 1 aX (hr.mono @A_) pV rfl rfl (ae (SE.wv (iX rfl rfl B.list rfl B.range (af 2))) ah)))) j5.nd)
  (ak (a7 (bH (ae (ar 3 rfl) (ae (aJ bK (hr.mono @A_) aQ rfl rfl (ae (ar 3 rfl) (ae (SE.wv (Dz rfl (af 4) GF (Hb ay))) ah))) ah))) j5.nd)
  (ak (fA PassesOwn.leaving rfl (HI rfl (SE.wv (cL (ae (bH (ae (ar 3 rfl) (ae (aJ bK (hr.mono @A_) aQ rfl rfl (ae (ar 3 rfl) (ae (ar 4 rfl) ah))) ah))) (ae (ar 5 rfl) (ae (hV 2 gq (hr.mono @A_) aQ rfl rfl (ae ay ah)) ah)))))) (cc j5.nd)
  (ak (GD (eZ (rC gj (hr.mono @A_) aQ rfl rfl (ae (ar 6 rfl) ah)) j5.nd) (a7 (aJ gj (hr.mono @A_) aQ rfl rfl (ae (ar 6 rfl) ah)) j5.nd))
  (ak (c7 (gF (dm rfl (aJ kK (hr.mono @A_) aQ rfl rfl (ae (aJ mH (hr.mono @A_) aQ rfl rfl (ae (ar 6 rfl) ah)) (ae (gc (cU hr.units) eT (aJ kz (hr.mono @A_) aQ rfl rfl (ae (ar 6 rfl) ah)) (cL ah) (bo _)) ah)))))
  (aw (aU jg))
  cf)
  (aw (c7 (KY (af 7))
  (aw (c7 (uE.t (ot (bq (cU hr.units) eT (af 6) (af 5) (bo _)) (mX (bq (cU hr.units) eT (af 6) (bH (ae (ar 3 rfl) (ae (aJ bK (hr.mono @A_) aQ rfl rfl (ae (ar 3 rfl) (ae (ar 4 rfl) ah))) ah))) (bo _))) (λ_ _=>rfl)))
  (aw (aU jg))
  cf))
  (aw (c7 (uE.t (ot (gF (dm rfl (uF iu (hr.mono @A_) aQ rfl rfl (af 7) (af 6)))) (mX (uE.t (rV (dm rfl (aJ mH (hr.mono @A_) aQ rfl rfl (ae (ar 6 rfl) ah))) (oH (bq (gA hr.units) eT (bI bc de (af 7) ay (λ_ _=>rfl)) (bI bc de (af 7) ay (λ_ _=>rfl)) (bo _))) (λ_ _=>rfl)))) (λ_ _=>rfl)))
  (aw (aU jg))
  (ak (iG 7 (λ_=>rfl) ay)
  (aw (c7 (gF (dm rfl (uF iu (hr.mono @A_) aQ rfl rfl (aJ gj (hr.mono @A_) aQ rfl rfl (ae (ar 6 rfl) ah)) (af 6))))
  (aw (aU jg))
  cf))))))))))
  (aw (c7 (u4 (aJ gj (hr.mono @A_) aQ rfl rfl (ae (hV 2 eG (hr.mono @A_) aQ rfl rfl ah) ah)))
  (aw (aU jg))
  cf))))))))
  (aw (aU jg)))
end
end RQ
namespace RM
open PySem L2
theorem vV(h:t vs β=.ok a β)(h':u vs β=.ok b β):AE t u vs β=.ok (a&&b) β:=by
 rw[Dq,h];dsimp only[R.bnd]
 cases a with
 |true=>rw[Pe rfl,h'];rfl
 |false=>rfl
def hG(h:t vs β=.ok a β):tG t vs β=.ok (!a) β:=by rw[ze,h];rfl
def DS(n:Nat):(ba n).Pairwise (· < ·):=by
 unfold ba
 rw[Qj]
 exact List.pairwise_lt_range.imp λ{a b} h=>@AT
def upTo(n:Nat)(f:Pr->Bool)(i k:Nat):List Pr:=(OM.bF n).filter λp=>(decide (p.1<i)||(decide (p.1=i)&&decide (p.2<k)))&&f p
def Fe(f:Pr->Bool)(i k:Nat)(h8:n<=8):(upTo n f i k).length<=64:=by
 have h1:(upTo n f i k).length<=(OM.bF n).length:=Qs _ _
 rw[eV]at h1
 have:n*n<=64:=QL h8 h8
 omega
def Bz(n:Nat)(f:Pr->Bool):upTo n f 0 0= []:=by
 unfold upTo
 rw[Sa]
 intro p hp
 have:=OM.bh.mp hp
 rw[Px (@AT),Px (p:=p.2<((0:Nat):Int)) (@AT)];simp
def E1(n:Nat)(f:Pr->Bool):upTo n f n 0=(OM.bF n).filter f:=by
 unfold upTo
 refine Q8 λp hp=>?_
 have:=(OM.bh.mp hp).1.2
 rw[Pu this];simp
def Di(n:Nat)(f:Pr->Bool)(i:Nat):upTo n f i n=upTo n f (i+1) 0:=by
 unfold upTo
 refine Q8 λp hp=>?_
 have h:=OM.bh.mp hp
 congr 1
 rw[Ra]
 simp only[Sw,PF,PB]
 omega
def ua(f:Pr->Bool)(hi:i<n)(hk:k<n):upTo n f i (k+1)=upTo n f i k++if f ((i:Int),(k:Int))=true then[((i:Int),(k:Int))]else[]:=by
 refine OM.fo (OM.cD _ (OM.fL n)) ?_ λx=>?_
 .show List.Pairwise OM.FO _
  rw[List.pairwise_append]
  refine⟨OM.cD _ (OM.fL n),?_,λp hp q hq=>?_⟩
  .split<;>simp
  .unfold upTo at hp
   have h1:=(Pp.mp hp).2
   simp only[Sw,PF,PB]at h1
   split at hq
   .have:q=((i:Int),(k:Int)):=by simpa using hq
    subst this
    exact h1.1
   .cases hq
 .rw[Pz]
  unfold upTo
  rw[Pp,Pp,OM.bh]
  simp only[Sw,PF,PB]
  constructor
  .rintro⟨h1,h2,h3⟩
   by_cases z:x.1=i/\x.2=k
   .let⟨xa,xb⟩:=x
    simp only at z h3
    obtain⟨rfl,rfl⟩:=z
    rw[Pe h3]
    exact .inr (PU.mpr rfl)
   .exact .inl ⟨h1,@AT,h3⟩
  .rintro (⟨h1,h2,h3⟩|h)
   .exact⟨h1,@AT,h3⟩
   .split at h
    .rename_i hf
     have:x=((i:Int),(k:Int)):=by simpa using h
     subst this
     exact⟨⟨⟨by show(0:Int)<=(i:Int);omega,by show(i:Int)<n;omega⟩,by show(0:Int)<=(k:Int);omega,by show(k:Int)<n;omega⟩,.inr ⟨rfl,by show(k:Int)<((k+1:Nat):Int);omega⟩,hf⟩
    .cases h
def tupI(r:List Int):D:=.tuple (r.map int)
def Ad(h:fa vs β=.ok (tupI r) β)(h':fb vs β=.ok (.int k) β)(hk:k∈r):pw fa fb vs β=.ok (.int (r.idxOf k:Nat)) β:=by
 unfold pw
 rw[h]
 dsimp only[R.bnd]
 rw[Pe (by rfl),h']
 dsimp only[R.bnd,IB,tupI]
 rw[jT]
 dsimp only
 rw[Pe hk];rfl
def Ah{r:List Int}{a b:Int}(ha:a∈r)(hb:b∈r)(h:r.idxOf a=r.idxOf b):a=b:=by
 have h1:=R6 (QB.mpr ha)
 have h2:=R6 (QB.mpr hb)
 rw[<-h1,<-h2]
 congr 1
theorem rb{α:Type}{fe:VF D}(e:α->D)(P:α->Prop):∀{ds:List D} {β:Int},(∀d,d∈ds->∃vs1,k8 t d vs=some vs1/\∀β,∃a β',fe vs1 β=.ok (e a) β'/\P a)->
  ∃(as:List α) (β':Int),eQ t kJ fe vs ds β=.ok (as.map e) β'/\as.length=ds.length/\∀a,a∈as->P a
 | [],β,_=>⟨[],β,rfl,rfl,λa h=>(by cases h)⟩
 |d::ds,β,h=>by
  obtain⟨vs1,hb,hf⟩:=h d (Pq ..)
  let⟨a,β1,ef,pa⟩:=hf β
  obtain⟨as,β2,ec,hl,hP⟩:=rb e P λd' hd=>h d' (Pk _ hd)
  refine⟨a::as,β2,?_,by rw[PR,PR,hl],λx hx=>?_⟩
  .unfold eQ
   rw[hb]
   dsimp only[kJ,R.okb]
   rw[Pe rfl,ef]
   dsimp only
   rw[ec];rfl
  .rcases Pf.mp hx with z|z
   .rw[z];exact pa
   .exact hP x z
def CQ(h1:1<=N)(h8:N<=8)(w:OM.Wn N l)(nd:l.Nodup)(irr:∀a,(a,a)∉l):iZ (.list (l.map ax))=some (.list ((OM.cy 8 (OM.Mem l)).map ax)):=by
 simp only[iZ,fy]
 rw[Pe ⟨y7 h8 w,nd,Bc h1 h8 w nd irr⟩]
def rH(n:Nat)(l:List Pr):SeqAt.shaped (aE n l)=true:=by
 unfold SeqAt.shaped
 have h1:(aE n l).canLay0=true:=by
  simp only[aE,PyData.canLay0,PyData.canLayAll0,qe];rfl
 have h2:(aE n l).depth<=64:=by
  have:=qr l
  simp only[aE,PyData.depth,PyData.depthAll];omega
 rw[h1,Pu h2];rfl
def Hs:D->Bool
 | .tuple _=>true
 |_=>false
theorem Hr{d:D}(h:Hs d=true):∃ds,d=.tuple ds:=by
 cases d with
 |tuple ds=>exact⟨ds,rfl⟩
 |_=>cases h
def D1{d:D}(h:gN d=false):jL "tuple" d=some (.bool (Hs d)):=by
 unfold jL;rw[h];cases d<;>rfl
section
variable {fa fb:VF D}{vs:List Nv}{β:Int}
def ML{d:D}(ha:fa vs β=.ok d β)(h:gN d=false):mE (f1 fa (jL "tuple")) vs β=.ok (Hs d) β:=kZ (b9 ha (D1 h))
def GX{l:List D}{f:D->Bool}(h:fa vs β=.ok (.list (l.map λq=>PyData.bool (f q))) β):f1 fa (g7 λbs=>bs.all id) vs β=.ok (.bool (l.all f)) β:=by
 refine b9 h ?_
 simp only[g7]
 rw[l7]
 simp[List.all_map]
def IY(h:t vs β=.ok true β):om t u vs β=.ok true β:=by rw[vp,h];rfl
def nZ(h:t vs β=.ok false β)(h':u vs β=.ok c β):om t u vs β=.ok c β:=by rw[vp,h];exact h'
end
section
variable {vs:List Nv}{β β1 β2:Int}{fa:VF D}{fr:VF (List D)}{d:D}{ds:List D}
def ac{fa:VF D}{fr:VF (List D)}(h:fa vs β=.ok d β)(h':fr vs β=.ok ds β):ab fa fr vs β=.ok (d::ds) β:=by rw[bz,h];dsimp only[R.bnd];rw[h']
def an:ag vs β=.ok [] β:=rfl
def tp(h:fr vs β=.ok ds β)(hz:ds.length<=1000:=by simp):bt fr vs β=.ok (.tuple ds) β:=kB h hz
def lp(h:fr vs β=.ok ds β)(hz:ds.length<=1000:=by simp):cz fr vs β=.ok (.list ds) β:=dH h hz
def ck(d:D):cst d vs β=.ok d β:=rfl
end
def vN{fa:VF D}{vs:List Nv}{β:Int}{ds:List D}(ha:fa vs β=.ok (.list ds) β):f1 fa dr vs β=.ok (.int ds.length) β:=b9 ha rfl
def gX(n:Nat)(l:List Pr)(i:Nat):List Pr:=(OM.bF n).filter λp=>decide (p.1<i)&&zO l p
def Bq(n:Nat)(l:List Pr):gX n l n=kX n l:=by
 unfold gX kX
 refine Q8 λp hp=>?_
 have:=(OM.bh.mp hp).1.2
 rw[Pu this,Bool.true_and]
def Dw(l:List Pr)(hi:i<n):gX n l (i+1)=gX n l i++((ba n).filter λb=>zO l ((i:Int),b)).map λb=>((i:Int),b):=by
 refine OM.fo (OM.cD _ (OM.fL n)) ?_ λx=>?_
 .show List.Pairwise OM.FO _
  rw[List.pairwise_append]
  refine⟨OM.cD _ (OM.fL n),?_,λp hp q hq=>?_⟩
  .rw[Qj]
   exact((DS n).filter _).imp λ{a b} h=>.inr ⟨rfl,h⟩
  .unfold gX at hp
   have h1:=(Pp.mp hp).2
   rw[PF,PB]at h1
   obtain⟨b,_,rfl⟩:=Pj.mp hq
   exact .inl h1.1
 .rw[Pz]
  unfold gX
  rw[Pp,Pp,Pj,OM.bh]
  simp only[PF,PB]
  constructor
  .rintro⟨h1,h2,h3⟩
   by_cases z:x.1<i
   .exact .inl ⟨h1,z,h3⟩
   .have e:x.1=i:=@AT
    let⟨xa,xb⟩:=x
    simp only at e h1 h3
    subst e
    exact .inr ⟨xb,Pp.mpr ⟨aG.mpr h1.2,h3⟩,rfl⟩
  .rintro (⟨h1,h2,h3⟩|⟨b,hb,rfl⟩)
   .exact⟨h1,@AT,h3⟩
   .let⟨hb1,hb2⟩:=Pp.mp hb
    have:=aG.mp hb1
    exact⟨⟨⟨@AT,@AT ⟩,this⟩,@AT,hb2⟩
def Cg(l:List Pr)(i:Nat)(h8:n<=8):(gX n l i).length<=64:=by
 have h1:(gX n l i).length<=(OM.bF n).length:=Qs _ _
 rw[eV]at h1
 have:n*n<=64:=QL h8 h8
 omega
def uV:List D->FR:=a9 3 1 (il zl)
def EW(O:OM.Ord n l):uV [aE n l]=.ok (.list ((kX n l).map ax)) false:=by
 have h8:=O.hi
 show fin (il zl [.fz (aE n l),.no,.no] 0)=_
 unfold il
 rw[aI (env':=[.fz (aE n l),.fz (.list []),.no]) ?g1]
 case g1=>rw[jz,dH rfl (by simp)];rfl
 have er:∀(s t:Sl),bP (f2 (gv 0) (cst (.int 0)) cT) [.da (aE n l),s.val,t.val] 0=.ok (cI 0 n) 0:=λs t=>cY (OZ rfl) (@AT)
 obtain⟨env',β',ef,s,rfl,rfl⟩:=dq (t:=.nm 2) (m:=bp 1 ([]++(([]++[])++[0,2])) (f2 (gv 1) (aM 1 [0,2] (.nm 0) (bP (f2 (gv 0) (cst (.int 0)) cT)) (mE (az zl (ab (gv 1) (ab (gv 2) (ab (gv 0) ag))))) (bt (ab (gv 2) (ab (gv 0) ag)))) jF))
  (λi env β=>∃s:Sl,env= [.fz (aE n l),.fz (.list ((gX n l i).map ax)),s]/\β=0)
  (env:=[.fz (aE n l),.fz (.list []),.no]) ⟨.no,by
   have:gX n l 0= []:=by
    unfold gX
    rw[Sa]
    intro p hp
    have:=(OM.bh.mp hp).1.1
    rw[Px (@AT)];simp
   rw[this];rfl,rfl⟩ (by
   rintro i d env β hi ⟨s,rfl,rfl⟩
   obtain⟨hin,rfl⟩:=iR hi
   refine⟨[.fz (aE n l),.fz (.list ((gX n l (0+i)).map ax)),.fz (.int (0+(i:Int)))],rfl,?_⟩
   rw[Qk,QK]
   have ec:aM 1 [0,2] (.nm 0) (bP (f2 (gv 0) (cst (.int 0)) cT)) (mE (az zl (ab (gv 1) (ab (gv 2) (ab (gv 0) ag))))) (bt (ab (gv 2) (ab (gv 0) ag))) [.da (aE n l),.da (.list ((gX n l i).map ax)),.da (.int i)] 0=.ok (.list (((ba n).filter λb=>zO l ((i:Int),b)).map λb=>ax ((i:Int),b))) 0:=by
    refine b7 (λb=>zO l ((i:Int),b)) (λb=>ax ((i:Int),b)) ?_ (by rw[bf];omega) λb hb=>⟨_,rfl,kZ (aC rfl (Mm n l i b)),λ_=>dz rfl rfl⟩
    rw[<-jS]
    exact er (.fz _) (.fz _)
   have ew:f2 (gv 1) (aM 1 [0,2] (.nm 0) (bP (f2 (gv 0) (cst (.int 0)) cT)) (mE (az zl (ab (gv 1) (ab (gv 2) (ab (gv 0) ag))))) (bt (ab (gv 2) (ab (gv 0) ag)))) jF [.da (aE n l),.da (.list ((gX n l i).map ax)),.da (.int i)] 0=.ok (.list ((gX n l (i+1)).map ax)) 0:=by
    refine aK rfl ec ?_
    rw[nP]
    .rw[Dw l hin,PV,P8];rfl
    .rw[Pc,Pc]
     have h1:=Cg l i h8
     have h2:((ba n).filter λb=>zO l ((i:Int),b)).length<=(ba n).length:=Qs _ _
     rw[bf]at h2
     omega
   refine⟨[.fz (aE n l),.fz (.list ((gX n l (i+1)).map ax)),.fz (.int i)],0,?_,_,rfl,rfl⟩
   rw[jz]
   show toS (f2 (gv 1) (aM 1 [0,2] (.nm 0) (bP (f2 (gv 0) (cst (.int 0)) cT)) (mE (az zl (ab (gv 1) (ab (gv 2) (ab (gv 0) ag))))) (bt (ab (gv 2) (ab (gv 0) ag)))) jF [.da (aE n l),.da (.list ((gX n l i).map ax)),.da (.int i)] 0) _=_
   rw[ew];rfl)
 rw[dP,Qk,Bq]at ef
 rw[aI ?g2]
 case g2=>
  rw[dv (er (.fz (.list [])) .no)]
  exact ef
 rfl
def Ge(e:D):Prop:=gN e=false/\∀es,e=.tuple es->es.length<=100/\∀x,x∈es->gN x=false
def M8:List D->FR:=a9 1 1 n5
def NQ(h:gN d=false):M8 [d]=.ok (.bool (wX d)) false:=by
 have:=Az [d] (by rw[oB h];exact λz=>by cases z)
 rw[oB h]at this
 exact this
def Sp(p:Pr):Prop:=(0<=p.1/\p.1<=8)/\(0<=p.2/\p.2<=8)
def JS(hl:es.length<=100)(h:∀x,x∈es->gN x=false):Ge (.tuple es):=⟨rfl,λes' e=>by cases e;exact⟨hl,h⟩⟩
def CZ(ha:fa vs β=.ok (.list ds) β)(hb:fb vs β=.ok (.int ((i:Nat):Int)) β):Nf fa (λ_ β=>.ok none β) (Nh fb) vs β=.ok (.list (ds.take i)) β:=by
 unfold Nf Nh
 rw[ha];dsimp only[R.bnd]
 rw[hb];dsimp only[R.bnd]
 congr 2
 unfold cutD
 rw[HT.DW,HT.Hd]
 by_cases h:i<=ds.length
 .rw[Nat.min_eq_left h];rfl
 .rw[Nat.min_eq_right (@AT),Ry (show ds.length<=i by omega)];simp
noncomputable def JI:List D->FR:=a9 2 2 oj
def LD(b:Bool):JI [.bool b,.bool b]=.ok (.bool true) false:=by cases b<;>rfl
end RM
namespace RM
open PySem PySem.Spec L2 PyProof.Rows
theorem pM:∀{l m:List Int},l.Nodup->(∀x,x∈l->x∈m)->m.length<=l.length->l.Perm m
 | [],m,_,_,h=>by
  have:m= []:=Q5.mp (by simpa using h)
  rw[this]
 |x::l,m,nd,hs,h=>by
  let⟨h1,h2⟩:=P6.mp nd
  have hx:x∈m:=hs x (Pq ..)
  have pm:m.Perm (x::m.erase x):=List.perm_cons_erase hx
  refine(List.Perm.cons x (pM h2 (λy hy=>?_) ?_)).trans pm.symm
  .have hy':=pm.mem_iff.mp (hs y (Pk _ hy))
   rcases Pf.mp hy' with rfl|q
   .exact absurd hy h1
   .exact q
  .have:=pm.length_eq
   rw[PR]at this h
   omega
def xX{n:Nat}{r:List Int}(hl:r.length=n)(hb:∀x,x∈r->0<=x/\x<n)(nd:r.Nodup):r.Perm (ba n):=pM nd (λx hx=>aG.mpr (hb x hx)) (by rw[bf];omega)
def Ez(h:tupI r=tupI q):r=q:=by
 unfold tupI at h
 have h:=PyData.tuple.inj h
 exact List.map_inj_right (λa b e=>int.inj e) |>.mp h
theorem jT:∀r:List Int,kU (r.map int)=some r
 | []=>rfl
 |x::r=>by
  have:=jT r
  simp only[PL,kU,this]
  try rfl
end RM
namespace RM
open PySem L2
def JM(r:List Int):List Int:=(List.range r.length).map λ(a:Nat)=>((r.idxOf (a:Int):Nat):Int)
def jk(r:List Int)(k:Nat):List Int:=(List.range r.length).map λ(a:Nat)=>if r.idxOf (a:Int)<k then((r.idxOf (a:Int):Nat):Int)else 0
def B9(h:r.Perm (ba n)):jk r r.length=JM r:=by
 unfold jk JM
 refine Qu λa ha=>?_
 have hl:=h.length_eq
 rw[bf]at hl
 have:=PN.mp ha
 rw[Pe (QB.mpr (h.mem_iff.mpr (aG.mpr ⟨@AT,@AT ⟩)))]
def zo(r:List Int):jk r 0=List.replicate r.length 0:=by
 unfold jk
 refine List.ext_getElem (by simp) λi h1 h2=>by simp
def yP(h:r.Perm (ba n))(hk:r[k]? =some x):(jk r k).set x.toNat (k:Int)=jk r (k+1):=by
 have hl:=h.length_eq
 rw[bf]at hl
 have hx:=aG.mp (h.mem_iff.mp (Pn hk))
 have nd:r.Nodup:=h.nodup_iff.mpr (cj n)
 let⟨hkl,hke⟩:=Pw.mp hk
 have hix:r.idxOf x=k:=by rw[<-hke];exact nd.idxOf_getElem k hkl
 unfold jk
 refine List.ext_getElem (by simp) λi h1 h2=>?_
 have hi:i<r.length:=by simpa using h2
 rw[List.getElem_set]
 simp only[List.getElem_map,List.getElem_range]
 by_cases e:x.toNat=i
 .rw[Pe e]
  have ex:(i:Int)=x:=@AT
  rw[ex,hix,Pe (@AT)]
 .rw[Pg e]
  have:r.idxOf (i:Int)≠k:=λq=>by
   have hm:(i:Int)∈r:=h.mem_iff.mpr (aG.mpr ⟨@AT,@AT ⟩)
   have h3:=R6 (QB.mpr hm)
   simp only[q]at h3
   rw[hke]at h3
   omega
  by_cases z:r.idxOf (i:Int)<k
  .rw[Pe z,Pe (@AT)]
  .rw[Pg z,Pg (@AT)]
def Ni:List D->FR:=a9 4 1 oz
def IZ(h1:dr d=some (.int ((r.map int).length:Nat)))(h2:kn d=some (r.map int))(h100:n<=100)(h:r.Perm (ba n)):Ni [d]=.ok (.list ((JM r).map int)) true:=by
 have hl:=h.length_eq
 rw[bf]at hl
 show fin (oz [.fz (d),.no,.no,.no] 0)=_
 unfold oz
 rw[aI (env':=[.fz (d),.ow (.list ((jk r 0).map int)),.no,.no]) ?a]
 case a=>
  have e:f2 (cz (ab (cst (.int 0)) ag)) (f1 (gv 0) dr) D8 (vl [.fz (d),.no,.no,.no]) 0=.ok (.list ((jk r 0).map int)) 0:=by
   refine aK (lp (ac (ck _) an)) (b9 rfl h1) ?_
   rw[Pc,zo,List.map_replicate]
   simp only[D8]
   rw[Pe ?q]
   .congr 2
    rw[Qe]
    induction r.length with
    |zero=>rfl
    |succ m ih=>first|rw[QC,QC,Ro,ih];rfl|(simp[QC]at ih ⊢;try exact ih)
   case q=>first|(constructor<;>first|omega|(show _<=_;simp;try omega))|(rw[PX];simp;omega)
  rw[wA,e];rfl
 have ee:KJ (gv 0) (vl [.fz (d),.ow (.list ((jk r 0).map int)),.no,.no]) 0=.ok (iU (r.map int)) 0:=by
  show(match kn d with|some ds=>R.ok (iU ds) 0|none=>.bad)=_
  rw[h2]
 obtain⟨env',β',ef,s,t,rfl,rfl⟩:=dq (t:=.two 2 3) (m:=xg 1 [2] [] (gv 2) (gv 3)) (ds:=iU (r.map int))
  (λk env β=>∃s t:Sl,env= [.fz (d),.ow (.list ((jk r k).map int)),s,t]/\β=0)
  ⟨.no,.no,rfl,rfl⟩ (by
   rintro k d env β hk ⟨s,t,rfl,rfl⟩
   unfold iU at hk
   rw[List.getElem?_mapIdx,Pt]at hk
   cases hx:r[k]? with
   |none=>rw[hx]at hk;cases hk
   |some x=>
    rw[hx]at hk
    cases hk
    have hxm:=aG.mp (h.mem_iff.mp (Pn hx))
    refine⟨[.fz (d),.ow (.list ((jk r (0+k)).map int)),.fz (.int k),.fz (.int x)],rfl,?_⟩
    rw[Qk]
    refine⟨[.fz (d),.ow (.list ((jk r (k+1)).map int)),.fz (.int k),.fz (.int x)],0,?_,_,_,rfl,rfl⟩
    rw[Dm rfl (by rfl) rfl (by rfl) ?b]
    .rw[<-yP h hx,List.map_set];rfl
    case b=>
     unfold wW
     rw[Pe hxm.1,Pe (by rw[Pc];unfold jk;simp;omega)])
 have hle:(iU (r.map int)).length=r.length:=by unfold iU;simp
 rw[Qk,hle,B9 h]at ef
 rw[aI (by
  rw[dv ee]
  exact ef)]
 rfl
def N6(l:List Pr)(r:List Int):Bool:=l.all λp=>decide (r.idxOf p.1<r.idxOf p.2)
def Row(n:Nat)(l:List Pr)(r:List Int):Prop:=r.Perm (ba n)/\N6 l r=true
def uS(rs:List (List Int))(p:Pr):Bool:=rs.all λr=>decide (r.idxOf p.1<r.idxOf p.2)
def FU(l:List Pr)(r:List Int)(x:Int):List Int:=(l.filter λp=>decide (p.2=x) && !decide (p.1∈r)).map (·.1)
def oC:a∈FU l r x↔(a,x)∈l/\a∉r:=by
 unfold FU
 rw[Pj]
 constructor
 .rintro⟨p,hp,rfl⟩
  have:=Pp.mp hp
  simp only[PF,PB,QW,Qw]at this
  let⟨pa,pb⟩:=p
  let⟨h1,h2,h3⟩:=this
  simp only at h2 h3
  subst h2
  exact⟨h1,h3⟩
 .rintro⟨h1,h2⟩
  exact⟨(a,x),Pp.mpr ⟨h1,by simp[h2]⟩,rfl⟩
def BE(O:OM.Ord n l)(r:List Int)(x:Int):(FU l r x).Nodup:=by
 unfold FU
 rw[QT,Qj]
 refine QA (λ{a b} ha hb h e=>h ?_) (QT.mp ((OM.dS O.ris).filter _))
 have h1:=(Pp.mp ha).2
 have h2:=(Pp.mp hb).2
 simp only[PF,PB]at h1 h2
 exact Prod.ext e (h1.1.trans h2.1.symm)
theorem least(O:OM.Ord n l)(r:List Int):∀(k:Nat) (x:Int),(0<=x/\x<n)->x∉r->(FU l r x).length<=k->∃y:Int,(0<=y/\y<n)/\y∉r/\FU l r y= []
 | 0,x,hx,hr,hk=>⟨x,hx,hr,Q5.mp (@AT)⟩
 |k+1,x,hx,hr,hk=>by
  by_cases he:FU l r x= []
  ·exact⟨x,hx,hr,he⟩
  ·obtain⟨a,ha⟩:=List.exists_mem_of_ne_nil _ he
   let⟨h1,h2⟩:=oC.mp ha
   refine least O r k a (O.wn _ h1).1 h2 ?_
   have nd:(a::FU l r a).Nodup:=P6.mpr ⟨λq=>O.irr a (oC.mp q).1,BE O r a⟩
   have:=L2.ST.bN nd λy hy=>by
    rcases Pf.mp hy with rfl|hy
    .exact ha
    .let⟨q1,q2⟩:=oC.mp hy
     exact oC.mpr ⟨O.tr _ _ _ q1 h1,q2⟩
   rw[PR]at this
   omega
structure FJ(n:Nat)(l:List Pr)(r:List Int):Prop where
 nd:r.Nodup
 inn:∀x,x∈r->0<=x/\x<(n:Int)
 fit:∀p,p∈l->p.2∈r->p.1∈r/\r.idxOf p.1<r.idxOf p.2
def FJ.len(B:FJ n l r):r.length<=n:=by
 have:=L2.ST.bN B.nd λx hx=>aG.mpr (B.inn x hx)
 rwa [bf]at this
def FJ.row(O:OM.Ord n l)(B:FJ n l r)(h:n<=r.length):Row n l r:=by
 have pm:=xX (Nat.le_antisymm B.len h) B.inn B.nd
 exact⟨pm,Qi.mpr λp hp=>Pu ((B.fit p hp (pm.mem_iff.mpr (aG.mpr (O.wn p hp).2))).2)⟩
def tM(l:List Pr)(r:List Int)(x:Int):Bool:= !decide (x∈r)&&decide (FU l r x= [])
def FJ.more(B:FJ n l r)(hx:0<=x/\x<(n:Int))(hf:tM l r x=true):FJ n l (r++[x]):=by
 unfold tM at hf
 rw[PF,QW,Qw,PB]at hf
 let⟨h1,h2⟩:=hf
 refine⟨?_,λy hy=>?_,λp hp hm=>?_⟩
 .rw[QI]
  refine⟨B.nd,P6.mpr ⟨by simp,Rw⟩,λa ha b hb=>?_⟩
  rw[PU]at hb
  subst hb
  exact λq=>h1 (q▸ha)
 .rcases Pz.mp hy with hy|hy
  .exact B.inn y hy
  .rw[PU]at hy;subst hy;exact hx
 .rcases Pz.mp hm with hm|hm
  .let⟨q1,q2⟩:=B.fit p hp hm
   refine⟨Qh _ q1,?_⟩
   rw[SW,SW,Pe q1,Pe hm]
   exact q2
  .rw[PU]at hm
   have hp1:p.1∈r:=by
    by_cases z:p.1∈r
    .exact z
    .have:p.1∈FU l r x:=oC.mpr ⟨by rw[<-hm];exact hp,z⟩
     rw[h2]at this;cases this
   refine⟨Qh _ hp1,?_⟩
   rw[SW,SW,Pe hp1,Pg (by rw[hm];exact h1)]
   have:=QB.mpr hp1
   omega
def FJ.free(O:OM.Ord n l)(B:FJ n l r)(h:r.length<n):(ba n).filter (tM l r)≠ []:=by
 have:∃x,x∈ba n/\x∉r:=by
  apply Classical.byContradiction
  intro z
  have:=L2.ST.bN (cj n) λx hx=>Classical.byContradiction λq=>z ⟨x,hx,q⟩
  rw[bf]at this
  omega
 let⟨x,hx,hr⟩:=this
 let⟨y,hy,hyr,hp⟩:=least O r _ x (aG.mp hx) hr (Pd _)
 intro q
 have:y∈(ba n).filter (tM l r):=Pp.mpr ⟨aG.mpr hy,by unfold tM;simp[hyr,hp]⟩
 rw[q]at this
 cases this
def Mq(l:List Pr)(r:List Int)(i:Nat):List Int:=(ba i).filter (tM l r)
def oY(rows:List (List Int))(p:Pr):Bool:= !decide (p.1=p.2)&&(rows.filter λr=>decide (r.idxOf p.1>r.idxOf p.2)).isEmpty
def nI:List D->FR:=a9 6 2 gL
def v3{n:Nat}{rows:List (List Int)}(h8:n<=8)(hr:rows.length<=100)(hp:∀r,r∈rows->r.Perm (ba n)):nI [.int n,.list (rows.map tupI)]=.ok (.tuple (((OM.bF n).filter (oY rows)).map ax)) false:=by
 show fin (gL [.fz (.int n),.fz (.list (rows.map tupI)),.no,.no,.no,.no] 0)=_
 unfold gL
 rw[aI (env':=[.fz (.int n),.fz (.list (rows.map tupI)),.ow (.list []),.no,.no,.no]) ?g1]
 case g1=>rw[wA,dH rfl (by simp)];rfl
 obtain⟨env',β',ef,s,t,u,rfl,rfl⟩:=dq (t:=.nm 3) (m:=dg (.nm 4) [] (bP (gv 0))
   (aF (bp 5 ([]++[]) (aM 1 [3,4] (.nm 0) (bV (gv 1)) (df (f2 (pw (gv 0) (gv 1)) (pw (gv 0) (gv 2)) Ls)) (cst (.int 1))))
   (kh (([]++[])++([]++[])) (AE (df (f2 (gv 3) (gv 4) (cR true))) (df (f2 (gv 5) (cz ag) (cR false))))
   (mV 2 ([3]++([4]++[])) (bt (ab (gv 3) (ab (gv 4) ag))))
   nt))) (ds:=cI 0 n)
  (λi env β=>∃s t u:Sl,env= [.fz (.int n),.fz (.list (rows.map tupI)),.ow (.list ((upTo n (oY rows) i 0).map ax)),s,t,u]/\β=0)
  (env:=[.fz (.int n),.fz (.list (rows.map tupI)),.ow (.list []),.no,.no,.no]) ⟨.no,.no,.no,by rw[Bz];rfl,rfl⟩ (by
   rintro i d env β hi ⟨s,t,u,rfl,rfl⟩
   obtain⟨hin,rfl⟩:=iR hi
   refine⟨[.fz (.int n),.fz (.list (rows.map tupI)),.ow (.list ((upTo n (oY rows) (0+i) 0).map ax)),.fz (.int (0+(i:Int))),t,u],rfl,?_⟩
   rw[Qk,QK]
   obtain⟨env',β',ef,t2,u2,rfl,rfl⟩:=dq (t:=.nm 4) (m:=aF (bp 5 ([]++[]) (aM 1 [3,4] (.nm 0) (bV (gv 1)) (df (f2 (pw (gv 0) (gv 1)) (pw (gv 0) (gv 2)) Ls)) (cst (.int 1))))
     (kh (([]++[])++([]++[])) (AE (df (f2 (gv 3) (gv 4) (cR true))) (df (f2 (gv 5) (cz ag) (cR false))))
     (mV 2 ([3]++([4]++[])) (bt (ab (gv 3) (ab (gv 4) ag))))
     nt)) (ds:=cI 0 n)
    (λk env β=>∃t u:Sl,env= [.fz (.int n),.fz (.list (rows.map tupI)),.ow (.list ((upTo n (oY rows) i k).map ax)),.fz (.int i),t,u]/\β=0)
    ⟨t,u,rfl,rfl⟩ (by
     rintro k d env β hk ⟨t,u,rfl,rfl⟩
     obtain⟨hkn,rfl⟩:=iR hk
     refine⟨[.fz (.int n),.fz (.list (rows.map tupI)),.ow (.list ((upTo n (oY rows) i (0+k)).map ax)),.fz (.int i),.fz (.int (0+(k:Int))),u],rfl,?_⟩
     rw[Qk,QK]
     have ec:aM 1 [3,4] (.nm 0) (bV (gv 1)) (df (f2 (pw (gv 0) (gv 1)) (pw (gv 0) (gv 2)) Ls)) (cst (.int 1)) [.da (.int n),.da (.list (rows.map tupI)),.da (.list ((upTo n (oY rows) i k).map ax)),.da (.int i),.da (.int k),u.val] 0=.ok (.list ((rows.filter λr=>decide (r.idxOf (i:Int)>r.idxOf (k:Int))).map λ_=>int 1)) 0:=by
      refine b7 (e:=tupI) (λr=>decide (r.idxOf (i:Int)>r.idxOf (k:Int))) (λ_=>int 1) rfl (@AT) λr hr=>⟨_,rfl,?_,λ_=>rfl⟩
      have hp:=hp r hr
      refine du _ _ _ _ (aK (Ad rfl rfl (hp.mem_iff.mpr (aG.mpr ⟨@AT,@AT ⟩))) (Ad rfl rfl (hp.mem_iff.mpr (aG.mpr ⟨@AT,@AT ⟩))) ?_)
      show some (PyData.bool (decide (((r.idxOf (i:Int):Nat):Int)>((r.idxOf (k:Int):Nat):Int))))=_
      congr 2
      rw[Ra,PB,PB]
      omega
     rw[aI (env':=[.fz (.int n),.fz (.list (rows.map tupI)),.ow (.list ((upTo n (oY rows) i k).map ax)),.fz (.int i),.fz (.int k),.fz (.list ((rows.filter λr=>decide (r.idxOf (i:Int)>r.idxOf (k:Int))).map λ_=>int 1))]) ?g]
     case g=>
      rw[jz]
      show toS (aM 1 [3,4] (.nm 0) (bV (gv 1)) (df (f2 (pw (gv 0) (gv 1)) (pw (gv 0) (gv 2)) Ls)) (cst (.int 1)) [.da (.int n),.da (.list (rows.map tupI)),.da (.list ((upTo n (oY rows) i k).map ax)),.da (.int i),.da (.int k),u.val] 0) _=_
      rw[ec];rfl
     generalize hL:(rows.filter λr=>decide (r.idxOf (i:Int)>r.idxOf (k:Int)))=L
     have et:AE (df (f2 (gv 3) (gv 4) (cR true))) (df (f2 (gv 5) (cz ag) (cR false))) (vl [.fz (.int n),.fz (.list (rows.map tupI)),.ow (.list ((upTo n (oY rows) i k).map ax)),.fz (.int i),.fz (.int k),.fz (.list (L.map λ_=>int 1))]) 0=.ok (oY rows ((i:Int),(k:Int))) 0:=by
      have h1:df (f2 (gv 5) (cz ag) (cR false)) (vl [.fz (.int n),.fz (.list (rows.map tupI)),.ow (.list ((upTo n (oY rows) i k).map ax)),.fz (.int i),.fz (.int k),.fz (.list (L.map λ_=>int 1))]) 0=.ok L.isEmpty 0:=by
       refine du _ _ _ _ (aK rfl (dH rfl (by simp)) ?_)
       have e9:(L.map λ_=>int 1)=(L.map λ_=>(1:Int)).map int:=by rw[P8];rfl
       rw[e9,show([]:List D)=([]:List Int).map int from rfl,r6]
       congr 2
       cases L<;>simp
      have:=vV (eM (neg:=true) (fa:=gv 3) (fb:=gv 4) rfl rfl) h1
      rw[this]
      unfold oY
      rw[hL];rfl
     cases c:oY rows ((i:Int),(k:Int))with
     |true=>
      rw[c]at et
      refine⟨[.fz (.int n),.fz (.list (rows.map tupI)),.ow (.list ((upTo n (oY rows) i (k+1)).map ax)),.fz (.int i),.fz (.int k),.fz (.list (L.map λ_=>int 1))],0,?_,_,_,rfl,rfl⟩
      rw[lN et]
      have:=vk (i:=2) (L:=[3]++([4]++[])) (env:=[.fz (.int n),.fz (.list (rows.map tupI)),.ow (.list ((upTo n (oY rows) i k).map ax)),.fz (.int i),.fz (.int k),.fz (.list (L.map λ_=>int 1))]) (β:=0) (by rfl) (dz (fa:=gv 3) (fb:=gv 4) rfl rfl) (by rfl) (by rw[Pc];have:=Fe (oY rows) i k h8;omega)
      rw[ua _ hin hkn,Pe c,PV]
      exact this
     |false=>
      rw[c]at et
      refine⟨[.fz (.int n),.fz (.list (rows.map tupI)),.ow (.list ((upTo n (oY rows) i (k+1)).map ax)),.fz (.int i),.fz (.int k),.fz (.list (L.map λ_=>int 1))],0,?_,_,_,rfl,rfl⟩
      have e8:=ua (oY rows) hin hkn
      rw[Pg (by rw[c];exact PZ),RD]at e8
      rw[lY et,e8];rfl)
   rw[dP,Qk,Di]at ef
   refine⟨[.fz (.int n),.fz (.list (rows.map tupI)),.ow (.list ((upTo n (oY rows) (i+1) 0).map ax)),.fz (.int i),t2,u2],0,?_,_,_,_,rfl,rfl⟩
   rw[dv (cY rfl (@AT))]
   exact ef)
 rw[dP,Qk,E1]at ef
 rw[aI ?g2]
 case g2=>
  rw[dv (cY rfl (@AT))]
  exact ef
 rw[mj,b9 rfl ?g3]
 case g3=>rfl
 rfl
def oF:oY rows p=true↔p.1≠p.2/\∀r,r∈rows->r.idxOf p.1<=r.idxOf p.2:=by
 unfold oY
 rw[PF,QW,Qw,List.isEmpty_iff,Sa]
 simp only[PB,Nat.not_lt,gt_iff_lt]
def qZ(h1:1<=n)(h8:n<=8)(hne:rows≠ [])(hp:∀r,r∈rows->r.Perm (ba n)):OM.Ord n ((OM.bF n).filter (oY rows)):=by
 refine⟨h1,h8,λp hm=>OM.bh.mp (Pp.mp hm).1,OM.cD _ (OM.fL n),λa h=>?_,λa b c hab hbc=>?_⟩
 .exact (oF.mp (Pp.mp h).2).1 rfl
 .let⟨g1,t1⟩:=Pp.mp hab
  let⟨g2,t2⟩:=Pp.mp hbc
  have g1:=OM.bh.mp g1
  have g2:=OM.bh.mp g2
  let⟨n1,q1⟩:=oF.mp t1
  let⟨n2,q2⟩:=oF.mp t2
  refine Pp.mpr ⟨OM.bh.mpr ⟨g1.1,g2.2⟩,oF.mpr ⟨λe=>?_,λr hr=>Qp (q1 r hr) (q2 r hr)⟩⟩
  simp only at e n1 q1 q2
  subst e
  cases rows with
  |nil=>exact hne rfl
  |cons r rest=>
   have hr:r∈r::rest:=Pq ..
   have pm:=hp r hr
   exact n1 (Ah (pm.mem_iff.mpr (aG.mpr g1.1)) (pm.mem_iff.mpr (aG.mpr g1.2)) (Nat.le_antisymm (q1 r hr) (q2 r hr)))
noncomputable def mT:List D->Int->FB:=p6 6 0 (ip cA dh)
def OJ(ms:List Int)(m i:Nat)(ps:List Pr):Prop:=ps.Nodup/\ps.length<=4*i/\(∀p,p∈ps->∃i' j:Nat,i'<i/\j<m/\i'≠j/\ms[i']? =some p.1/\ms[m+j]? =some p.2)/\∀i' j:Nat,i'<i->j<m->i'≠j->(ms.getD i' 0,ms.getD (m+j) 0)∈ps
def Gy(h3:3<=m)(h4:m<=4)(hi:i<=m)(hp:ms.Perm (ba (2*m)))(h:OJ ms m i ps):OM.Ord (2*m) (OM.cy 8 (OM.Mem ps))/\ps.all Ku=true/\ps.length<64:=by
 obtain⟨nd,hl,hc,_⟩:=h
 have ndm:ms.Nodup:=hp.nodup_iff.mpr (cj _)
 have wn:OM.Wn (2*m) ps:=λp hm=>by
  obtain⟨i',j,_,_,_,e1,e2⟩:=hc p hm
  exact⟨aG.mp (hp.mem_iff.mp (Pn e1)),aG.mp (hp.mem_iff.mp (Pn e2))⟩
 rw[Ja (@AT) wn]
 refine⟨⟨@AT,@AT,OM.n9 _ _,OM.cC _ _,λa h=>?_,λa b c h k=>?_⟩,y7 (@AT) wn,@AT ⟩
 .obtain⟨i',j,hi',_,_,e1,e2⟩:=hc _ (OM.aN.mp h).2
  have:=eR ndm e1 e2
  omega
 .obtain⟨i',j,hi',_,_,e1,e2⟩:=hc _ (OM.aN.mp h).2
  obtain⟨i2,j2,hi2,_,_,e3,e4⟩:=hc _ (OM.aN.mp k).2
  have:=eR ndm e2 e3
  omega
structure N8(m:Nat)(ms:List Int)(l:List Pr):Prop where
 lo:3<=m
 pm:ms.Perm (ba (2*m))
 up:∀i j:Nat,i<m->j<m->i≠j->(ms.getD i 0,ms.getD (m+j) 0)∈l
 ap:∀i:Nat,i<m->(ms.getD i 0,ms.getD (m+i) 0)∉l
def wH(β:Int):∃(n:Nat) (l:List Pr) (β':Int),mT [] β=.ok (aE n l) false β'/\OM.Ord n l/\∃m ms,n=2*m/\N8 m ms l:=by
 obtain⟨j,hj,ej⟩:=iY (m:=2) (@AT) (@AT) β
 show ∃(n:Nat) (l:List Pr) (β':Int),yk (ip cA dh [.bx,.no,.no,.no,.no,.no] β)=.ok (aE n l) false β'/\OM.Ord n l/\∃m ms,n=2*m/\N8 m ms l
 unfold ip
 generalize hβ1:β/((2:Nat):Int)=β1 at ej
 have e1:f2 (cst (.int 3)) (ij 0 cA (ab (cst (.int 2)) ag)) bO [Nv.bx,.no,.no,.no,.no,.no] β=.ok (.int ((3+j:Nat):Int)) β1:=by
  refine aK rfl (eO (by rfl) rfl ej) ?_
  show some (int (3+(j:Int)))=_
  rw[show((3+j:Nat):Int)=3+(j:Int) by omega]
 rw[aI ?g1]
 case g1=>
  show toS (f2 (cst (.int 3)) (ij 0 cA (ab (cst (.int 2)) ag)) bO [Nv.bx,.no,.no,.no,.no,.no] β) _=_
  rw[e1];rfl
 have h3:3<=3+j:=@AT
 have h4:3+j<=4:=@AT
 generalize hm:3+j=m at h3 h4
 obtain⟨ms,β2,em,hp⟩:=og (ba (2*m)) (by rw[bf];omega) β1
 have hml:ms.length=2*m:=by rw[hp.length_eq,bf]
 have g2:cP (.int 2) (.int m)=some (.int ((2*m:Nat):Int)):=by rw[ni ⟨@AT,@AT ⟩];congr 2
 have e2:ij 0 dh (ab (f1 (f2 (cst (.int 2)) (gv 1) cP) bM) ag) [Nv.bx,.da (.int m),.no,.no,.no,.no] β1=.ok (.list (ms.map int)) β2:=by
  refine eO (by rfl) ?_ em
  rw[bz,b9 (aK rfl rfl g2) (gZ (@AT))];rfl
 rw[aI ?g2]
 case g2=>
  show toS (ij 0 dh (ab (f1 (f2 (cst (.int 2)) (gv 1) cP) bM) ag) [Nv.bx,.da (.int m),.no,.no,.no,.no] β1) _=_
  rw[e2];rfl
 rw[aI (env':=[.bx,.fz (.int m),.fz (.list (ms.map int)),.fz (.list []),.no,.no]) ?g3]
 case g3=>rw[jz,dH rfl (by simp)];rfl
 have ndm:ms.Nodup:=hp.nodup_iff.mpr (cj _)
 obtain⟨env',β',ef,ps,s,t,rfl,rfl,hC⟩:=dq (t:=.nm 4) (m:=aF (bp 5 ([]++[]) (aM 1 [4,2,1] (.nm 0) (bP (gv 1)) (df (f2 (gv 0) (gv 1) (cR true))) (f2 (gv 2) (f2 (gv 3) (gv 0) bO) cT)))
   (bp 3 ([]++([]++[])) (f2 (gv 3) (aM 1 [2,4] (.nm 0) (bV (gv 5)) kJ (bt (ab (f2 (gv 1) (gv 2) cT) (ab (gv 0) ag)))) jF))) (ds:=cI 0 m) (k:=0)
  (λi env β=>∃(ps:List Pr) (s t:Sl),env= [.bx,.fz (.int m),.fz (.list (ms.map int)),.fz (.list (ps.map ax)),s,t]/\β=β2/\OJ ms m i ps)
  ⟨[],.no,.no,rfl,rfl,Rw,by simp,(λp hp=>by cases hp),λi' j h=>@AT ⟩ (by
   rintro i d env β hi ⟨ps,s,t,rfl,rfl,nd,hl,hc,hx⟩
   obtain⟨hin,rfl⟩:=iR hi
   refine⟨[.bx,.fz (.int m),.fz (.list (ms.map int)),.fz (.list (ps.map ax)),.fz (.int (0+(i:Int))),t],rfl,?_⟩
   rw[Qk,QK]
   rw[Qk]at hl hc hx
   have him:i<ms.length:=@AT
   have ec:aM 1 [4,2,1] (.nm 0) (bP (gv 1)) (df (f2 (gv 0) (gv 1) (cR true))) (f2 (gv 2) (f2 (gv 3) (gv 0) bO) cT) [.bx,.da (.int m),.da (.list (ms.map int)),.da (.list (ps.map ax)),.da (.int i),t.val] β=.ok (.list ((((List.range m).filter λ(j:Nat)=> !decide ((j:Int)=(i:Int))).map λ(j:Nat)=>ms.getD (m+j) 0).map int)) β:=by
    rw[P8]
    refine b7 (λ(j:Nat)=> !decide ((j:Int)=(i:Int))) (λj=>int (ms.getD (m+j) 0)) (cY rfl (@AT)) (by rw[Q7];omega) λj hj=>⟨_,rfl,?_,λ_=>?_⟩
    .rw[QK];exact eM rfl rfl
    .have hj:=PN.mp hj
     have hjm:m+j<ms.length:=@AT
     refine aK (y:=.int ((m+j:Nat):Int)) rfl (aK rfl rfl ?_) ?_
     .show some (int ((m:Int)+(0+(j:Int))))=_
      congr 2;omega
     .show lX (ms.map int) ((m+j:Nat):Int)=_
      rw[iq,oX hjm,PK,O9 hjm];rfl
   rw[aI ?g]
   case g=>
    rw[jz]
    show toS (aM 1 [4,2,1] (.nm 0) (bP (gv 1)) (df (f2 (gv 0) (gv 1) (cR true))) (f2 (gv 2) (f2 (gv 3) (gv 0) bO) cT) [.bx,.da (.int m),.da (.list (ms.map int)),.da (.list (ps.map ax)),.da (.int i),t.val] β) _=_
    rw[ec];rfl
   generalize hO:((List.range m).filter λ(j:Nat)=> !decide ((j:Int)=(i:Int)))=js
   have hjs:∀j,j∈js->j<m:=λj hj=>by rw[<-hO]at hj;exact PN.mp (Pp.mp hj).1
   have hji:∀j,j∈js↔j<m/\j≠i:=λj=>by
    rw[<-hO,Pp,PN]
    simp
    omega
   have hjn:js.Nodup:=by rw[<-hO];exact Rv.filter _
   have hjl:js.length<=m:=by rw[<-hO];have:=Qs (λ(j:Nat)=> !decide ((j:Int)=(i:Int))) (List.range m);rw[Q7]at this;exact this
   have ed:aM 1 [2,4] (.nm 0) (bV (gv 5)) kJ (bt (ab (f2 (gv 1) (gv 2) cT) (ab (gv 0) ag))) [.bx,.da (.int m),.da (.list (ms.map int)),.da (.list (ps.map ax)),.da (.int i),.da (.list ((js.map λ(j:Nat)=>ms.getD (m+j) 0).map int))] β=.ok (.list ((js.map λ(j:Nat)=>((ms.getD i 0,ms.getD (m+j) 0):Pr)).map ax)) β:=by
    rw[P8,P8]
    refine cG (λj=>ax (ms.getD i 0,ms.getD (m+j) 0)) rfl (@AT) λj hj=>⟨_,rfl,dz (aK rfl rfl ?_) rfl⟩
    show lX (ms.map int) (i:Int)=_
    rw[iq,oX him,PK,O9 him];rfl
   refine⟨[.bx,.fz (.int m),.fz (.list (ms.map int)),.fz (.list ((ps++js.map λ(j:Nat)=>((ms.getD i 0,ms.getD (m+j) 0):Pr)).map ax)),.fz (.int i),.fz (.list ((js.map λ(j:Nat)=>ms.getD (m+j) 0).map int))],β,?_,_,_,_,rfl,rfl,?_,?_,?_,?_⟩
   .rw[jz]
    show toS (f2 (gv 3) (aM 1 [2,4] (.nm 0) (bV (gv 5)) kJ (bt (ab (f2 (gv 1) (gv 2) cT) (ab (gv 0) ag)))) jF [.bx,.da (.int m),.da (.list (ms.map int)),.da (.list (ps.map ax)),.da (.int i),.da (.list ((js.map λ(j:Nat)=>ms.getD (m+j) 0).map int))] β) _=_
    rw[aK rfl ed (nP (by rw[Pc,Pc,Pc];omega)),<-PV];rfl
   .have hd:∀j,j<m->ms[m+j]? =some (ms.getD (m+j) 0):=λj hj=>by rw[PK,O9 (@AT)];rfl
    have hdi:ms[i]? =some (ms.getD i 0):=by rw[PK,O9 him];rfl
    refine QI.mpr ⟨nd,?_,λp hp q hq e=>?_⟩
    .rw[QT,Qj]
     refine QA (λ{a b} ha hb h e=>?_) (QT.mp hjn)
     have e2:=(Prod.mk.inj e).2
     have:=eR ndm (hd a (hjs a ha)) (by rw[e2];exact hd b (hjs b hb))
     omega
    .subst e
     obtain⟨j,hj,rfl⟩:=Pj.mp hq
     obtain⟨i',j',h1,h2,h5,h3,h4⟩:=hc _ hp
     have:=eR ndm h3 hdi
     omega
   .rw[P0,Pc];omega
   .intro p hp
    rcases Pz.mp hp with hp|hp
    .obtain⟨i',j',h1,h2,h5,h3,h4⟩:=hc _ hp
     exact⟨i',j',@AT,h2,h5,h3,h4⟩
    .obtain⟨j,hj,rfl⟩:=Pj.mp hp
     refine⟨i,j,@AT,hjs j hj,λz=>((hji j).mp hj).2 z.symm,?_,?_⟩
     .show ms[i]? =some (ms.getD i 0)
      rw[PK,O9 him];rfl
     .have:=hjs j hj
      show ms[m+j]? =some (ms.getD (m+j) 0)
      rw[PK,O9 (@AT)];rfl
   .intro i' j h1 h2 h3
    by_cases c:i'<i
    .exact Qh _ (hx i' j c h2 h3)
    .have:i'=i:=@AT
     subst this
     exact P5 _ (Pj.mpr ⟨j,(hji j).mpr ⟨h2,λz=>h3 z.symm⟩,rfl⟩))
 rw[dP,Qk]at hC
 rw[aI ?g5]
 case g5=>
  rw[dv (cY rfl (@AT))]
  exact ef
 obtain⟨O,hsm,hl⟩:=Gy h3 h4 (Pd m) hp hC
 have wnp:∀p,p∈ps->(0<=p.1/\p.1<8)/\(0<=p.2/\p.2<8):=λp hpp=>by
  obtain⟨i',j,_,_,_,e1,e2⟩:=hC.2.2.1 p hpp
  have a1:=aG.mp (hp.mem_iff.mp (Pn e1))
  have a2:=aG.mp (hp.mem_iff.mp (Pn e2))
  omega
 have gd:∀k,k<2*m->ms[k]? =some (ms.getD k 0):=λk hk=>by rw[PK,O9 (@AT)];rfl
 refine⟨2*m,OM.cy 8 (OM.Mem ps),β',?_,O,m,ms,rfl,h3,hp,λi j h1 h2 h3=>?_,λi h1 h2=>?_⟩
 rotate_left
 .have z:=hC.2.2.2 i j h1 h2 h3
  exact OM.aN.mpr ⟨wnp _ z,z⟩
 .obtain⟨i',j,a1,a2,a3,e1,e2⟩:=hC.2.2.1 _ (OM.aN.mp h2).2
  have b1:=eR ndm e1 (gd i (@AT))
  have b2:=eR ndm e2 (gd (m+i) (@AT))
  omega
 have g9:iZ (.list (ps.map ax))=some (.list ((OM.cy 8 (OM.Mem ps)).map ax)):=by
  unfold iZ
  dsimp only
  rw[fy]
  dsimp only
  rw[Pe ⟨hsm,hC.1,hl⟩]
 have e9:bt (ab (f2 (cst (.int 2)) (gv 1) cP) (ab (f1 (f1 (gv 3) iZ) fJ) ag)) [Nv.bx,.da (.int m),.da (.list (ms.map int)),.da (.list (ps.map ax)),s.val,t.val] β'=.ok (aE (2*m) (OM.cy 8 (OM.Mem ps))) β':=by
  refine kB ?_ (by simp)
  rw[bz,aK rfl rfl g2]
  dsimp only[R.bnd]
  rw[bz,b9 (b9 rfl g9) (by rfl)];rfl
 rw[mj]
 show yk (toS (bt (ab (f2 (cst (.int 2)) (gv 1) cP) (ab (f1 (f1 (gv 3) iZ) fJ) ag)) [Nv.bx,.da (.int m),.da (.list (ms.map int)),.da (.list (ps.map ax)),s.val,t.val] β') _)=_
 rw[e9];rfl
def GH(β:Int):∃(n:Nat) (l:List Pr) (β':Int),mT [] β=.ok (aE n l) false β'/\OM.Ord n l:=let⟨n,l,b,e,O,_⟩:=wH β;⟨n,l,b,e,O⟩
noncomputable def anyF:List D->Int->FB:=p6 5 1 (dD nI cA mT dh qm)
def BQ{fe:VF D}(h0:k8 t d0 vs=some vs0)(e0:fe vs0 β=.ok x0 β1)(h1:k8 t d1 vs=some vs1)(e1:fe vs1 β1=.ok x1 β2):eQ t kJ fe vs [d0,d1] β=.ok [x0,x1] β2:=by
 have q1:eQ t kJ fe vs [d1] β1=.ok [x1] β2:=by
  unfold eQ
  rw[h1]
  dsimp only[kJ,R.okb]
  rw[Pe rfl,e1];rfl
 unfold eQ
 rw[h0]
 dsimp only[kJ,R.okb]
 rw[Pe rfl,e0]
 dsimp only
 rw[q1]
def JL(hm1:1<=most)(hm8:most<=8)(β:Int):∃(n:Nat) (l:List Pr) (β':Int),anyF [.int (most:Nat)] β=.ok (aE n l) false β'/\OM.Ord n l:=by
 obtain⟨j,hj,ej⟩:=iY (m:=5) (@AT) (@AT) β
 show ∃(n:Nat) (l:List Pr) (β':Int),yk (dD nI cA mT dh qm [.bx,.fz (.int (most:Nat)),.no,.no,.no] β)=.ok (aE n l) false β'/\OM.Ord n l
 unfold dD
 generalize hβ1:β/((5:Nat):Int)=β1 at ej
 have e1:ij 0 cA (ab (cst (.int 5)) ag) [Nv.bx,.da (.int (most:Nat)),.no,.no,.no] β=.ok (.int j) β1:=eO (by rfl) rfl ej
 rw[aI (env':=[.bx,.fz (.int (most:Nat)),.fz (.int j),.no,.no]) (β':=β1) ?g1]
 case g1=>
  show toS (ij 0 cA (ab (cst (.int 5)) ag) [Nv.bx,.da (.int (most:Nat)),.no,.no,.no] β) _=_
  rw[e1];rfl
 have t4:df (f2 (gv 2) (cst (.int 4)) (cR false)) (vl [.bx,.fz (.int (most:Nat)),.fz (.int j),.no,.no]) β1=.ok (decide ((j:Int)=4)) β1:=eM (neg:=false) (i:=j) (j:=4) rfl rfl
 have t3:df (f2 (gv 2) (cst (.int 3)) (cR false)) (vl [.bx,.fz (.int (most:Nat)),.fz (.int j),.no,.no]) β1=.ok (decide ((j:Int)=3)) β1:=eM (neg:=false) (i:=j) (j:=3) rfl rfl
 by_cases c4:(j:Int)=4
 ·rw[Pu c4]at t4
  obtain⟨n,l,β',ec,O⟩:=GH β1
  refine⟨n,l,β',?_,O⟩
  rw[kQ (d:=aE n l) (b:=false) (β':=β') ?g]
  case g=>
   rw[lN t4,mj]
   show toS (ij 0 mT ag [Nv.bx,.da (.int (most:Nat)),.da (.int j),.no,.no] β1) _=_
   rw[eO (by rfl) rfl ec];rfl
  rfl
 rw[Px c4]at t4
 rw[aI (env':=[.bx,.fz (.int (most:Nat)),.fz (.int j),.no,.no]) (β':=β1) ?g2]
 case g2=>rw[lY t4];rfl
 by_cases c3:(j:Int)=3
 ·rw[Pu c3]at t3
  obtain⟨q,hq,eq⟩:=iY (m:=most) hm1 (@AT) β1
  generalize hβ2:β1/((most:Nat):Int)=β2 at eq
  have e2:f2 (cst (.int 1)) (ij 0 cA (ab (gv 1) ag)) bO [Nv.bx,.da (.int (most:Nat)),.da (.int j),.no,.no] β1=.ok (.int ((1+q:Nat):Int)) β2:=by
   refine aK (x:=.int 1) rfl (eO (by rfl) rfl eq) ?_
   show some (int (1+(q:Int)))=_
   rw[show((1+q:Nat):Int)=1+(q:Int) by omega]
  have n1:1<=1+q:=@AT
  have n8:1+q<=8:=@AT
  generalize hn:1+q=n at n1 n8 e2
  obtain⟨r0,β3,em0,hp0⟩:=og (ba n) (by rw[bf];omega) β2
  obtain⟨r1,β4,em1,hp1⟩:=og (ba n) (by rw[bf];omega) β3
  have hrow:∀(i:Int) (b b':Int) (r:List Int),dh [.list ((ba n).map int)] b=.ok (.list (r.map int)) true b'->f1 (ij 1 dh (ab (f1 (gv 2) bM) ag)) fJ [Nv.da (.int i),.bx,.da (.int n)] b=.ok (tupI r) b':=by
   intro i b b' r em
   refine b9 (x:=.list (r.map int)) (eO (ds:=[.list ((ba n).map int)]) (b:=true) (β1:=b) (by rfl) ?_ em) (by rfl)
   rw[bz,b9 (x:=.int n) (d:=.list ((ba n).map int)) (β1:=b) rfl (gZ (@AT))];rfl
  have ec:aM 1 [0,3] (.nm 0) (bP (cst (.int 2))) kJ (f1 (ij 1 dh (ab (f1 (gv 2) bM) ag)) fJ) [Nv.bx,.da (.int (most:Nat)),.da (.int j),.da (.int n),.no] β2=.ok (.list ([r0,r1].map tupI)) β4:=by
   unfold aM
   rw[cY (n:=2) (β1:=β2) rfl (@AT)]
   dsimp only[R.bnd]
   rw[Pe (sz _ (by rw[dP];omega))]
   have q2:cI 0 2= [.int 0,.int 1]:=rfl
   rw[q2,BQ (vs0:=[.da (.int 0),.bx,.da (.int n)]) (vs1:=[.da (.int 1),.bx,.da (.int n)]) rfl (hrow 0 _ _ _ em0) rfl (hrow 1 _ _ _ em1)];rfl
  have hP:∀r,r∈ [r0,r1]->r.Perm (ba n):=λr hr=>by
   rcases Pf.mp hr with z|z
   ·rw[z];exact hp0
   ·rw[PU.mp z];exact hp1
  refine⟨n,(OM.bF n).filter (oY [r0,r1]),β4,?_,qZ n1 n8 (by simp) hP⟩
  rw[kQ (d:=aE n ((OM.bF n).filter (oY [r0,r1]))) (b:=false) (β':=β4) ?g]
  case g=>
   rw[lN t3]
   rw[aI (env':=[.bx,.fz (.int (most:Nat)),.fz (.int j),.fz (.int n),.no]) (β':=β2) ?k1]
   case k1=>
    rw[jz]
    show toS (f2 (cst (.int 1)) (ij 0 cA (ab (gv 1) ag)) bO [Nv.bx,.da (.int (most:Nat)),.da (.int j),.no,.no] β1) _=_
    rw[e2];rfl
   rw[aI (env':=[.bx,.fz (.int (most:Nat)),.fz (.int j),.fz (.int n),.fz (.list ([r0,r1].map tupI))]) (β':=β4) ?k2]
   case k2=>
    rw[jz]
    show toS (aM 1 [0,3] (.nm 0) (bP (cst (.int 2))) kJ (f1 (ij 1 dh (ab (f1 (gv 2) bM) ag)) fJ) [Nv.bx,.da (.int (most:Nat)),.da (.int j),.da (.int n),.no] β2) _=_
    rw[ec];rfl
   rw[mj]
   show toS (bt (ab (gv 3) (ab (az nI (ab (gv 3) (ab (gv 4) ag))) ag)) [Nv.bx,.da (.int (most:Nat)),.da (.int j),.da (.int n),.da (.list ([r0,r1].map tupI))] β4) _=_
   have a1:az nI (ab (gv 3) (ab (gv 4) ag)) [Nv.bx,.da (.int (most:Nat)),.da (.int j),.da (.int n),.da (.list ([r0,r1].map tupI))] β4=.ok (.tuple (((OM.bF n).filter (oY [r0,r1])).map ax)) β4:=aC rfl (v3 n8 (by simp) hP)
   rw[kB (ds:=[.int n,.tuple (((OM.bF n).filter (oY [r0,r1])).map ax)]) (β1:=β4) ?k3 (by simp)]
   case k3=>
    rw[bz]
    show(R.ok (int n) β4).bnd _=_
    dsimp only[R.bnd]
    rw[bz,a1];rfl
   rfl
  rfl
 rw[Px c3]at t3
 rw[aI (env':=[.bx,.fz (.int (most:Nat)),.fz (.int j),.no,.no]) (β':=β1) ?g3]
 case g3=>rw[lY t3];rfl
 obtain⟨n,l,β',eo,O,_⟩:=DF hm1 hm8 β1
 refine⟨n,l,β',?_,O⟩
 rw[mj]
 show yk (toS (ij 0 qm (ab (gv 1) ag) [Nv.bx,.da (.int (most:Nat)),.da (.int j),.no,.no] β1) _)=_
 rw[eO (by rfl) rfl eo];rfl
structure WP(r:SO)(Q:SO->Prop):Prop where
 out:Q r
section
variable {m m' m1 m2:SF}{env env1:En}{β β1 β2 z:Int}{Q:SO->Prop}{f fa fb:VF D}{t:VF Bool}{d e:D}{L La Lb:List Nat}{i j:Nat}{c:Bool}
def wp_at(env1:En)(e:env=env1)(k:WP (m env1 β) Q):WP (m env β) Q:=by rw[e];exact k
def wp_seq(h:m env β=.nx env1 β1)(k:WP (m' env1 β1) Q):WP (aF m m' env β) Q:=by rw[aI h];exact k
theorem pI(h:WP (aF m nt env β) Q):WP (m env β) Q:=by
 let⟨h⟩:=h
 unfold aF at h
 cases e:m env β with
 |_=>rw[e]at h;exact⟨h⟩
def kY(q:Q (.nx env β)):WP (nt env β) Q:=⟨q⟩
def cg(h:f (vl env) β=.ok d β1)(k:WP (m' ((a8 L env).set i (.fz d)) β1) Q):WP (aF (bp i L f) m' env β) Q:=wp_seq (by unfold bp;rw[h];rfl) k
def mC(h:f (vl env) β=.ok d β1)(k:WP (m' ((a8 L env).set i (.ow d)) β1) Q):WP (aF (fE i L f) m' env β) Q:=wp_seq (by unfold fE;rw[h];rfl) k
def Hx(h:f (vl env) β=.ok (.list [.int z]) β1)(k:WP (m' ((sW (a8 L env)).set i .bx) z) Q):WP (aF (Af i L f) m' env β) Q:=wp_seq (by unfold Af;rw[h];rfl) k
def Gd(h:f (vl env) β=.ok d β1)(k:WP (m' (a8 L env) β1) Q):WP (aF (t9 L f) m' env β) Q:=wp_seq (by unfold t9;rw[h];rfl) k
def vQ(hi:env[i]? =some (.ow (.list ds)))(h:f (vl env) β=.ok d β1)(hL:(a8 L env)[i]? =some (.ow (.list ds)))(hz:ds.length<=1000)(k:WP (m' ((a8 L env).set i (.ow (.list (ds++[d])))) β1) Q):WP (aF (mV i L f) m' env β) Q:=wp_seq (vk hi h hL hz) k
def mr(h:t (vl env) β=.ok false β1)(k:WP (m' (a8 L env) β1) Q):WP (aF (kh L t m1 nt) m' env β) Q:=wp_seq (by rw[lY h];rfl) k
def vn(h:t (vl env) β=.ok true β1)(k:WP (aF m1 m' (a8 L env) β1) Q):WP (aF (kh L t m1 m2) m' env β) Q:=by
 have:aF (kh L t m1 m2) m' env β=aF m1 m' (a8 L env) β1:=by unfold aF;rw[lN h]
 rw[this];exact k
def JA(h:t (vl env) β=.ok true β1)(k:WP (m1 (a8 L env) β1) Q):WP (kh L t m1 m2 env β) Q:=by rw[lN h];exact k
def xU(h:t (vl env) β=.ok false β1)(k:WP (m2 (a8 L env) β1) Q):WP (kh L t m1 m2 env β) Q:=by rw[lY h];exact k
def pe(h:f (vl env) β=.ok d β1)(q:Q (.rt d false β1)):WP (bJ f env β) Q:=⟨by unfold bJ;rw[h];exact q⟩
def vc(h:f (vl env) β=.ok d β1)(q:Q (.rt d false β1)):WP (aF (bJ f) m' env β) Q:=⟨by unfold aF bJ;rw[h];exact q⟩
def qk(h:f (vl env) β=.ok d β1)(q:Q (.rt d true β1)):WP (k6 f env β) Q:=⟨by unfold k6;rw[h];exact q⟩
def jC{R:FR}(h:WP (m env β) λr=>fin r=R):fin (m env β)=R:=h.out
def rR{t:Tg}(I:Nat->En->Int->Prop)(hi:fi (vl env) β=.ok ds β1)(h0:I 0 (a8 L env) β1)
  (hs:∀i d env β,ds[i]? =some d->I i env β->∃env1,hJ t d env=some env1/\WP (m env1 β) λr=>∃env2 β2,r=.nx env2 β2/\I (i+1) env2 β2)
  (k:∀env β,I ds.length env β->WP (m' env β) Q):WP (aF (dg t L fi m) m' env β) Q:=by
 obtain⟨env',β',e,h⟩:=dq I h0 λi d env β hd h=>by
  rw[Qk]at h
  let⟨env1,e1,⟨env2,β2,e2,h2⟩⟩:=hs i d env β hd h
  exact⟨env1,e1,env2,β2,e2,by rw[Qk];exact h2⟩
 rw[Qk]at h
 exact wp_seq ((dv hi).trans e) (k _ _ h)
def rY(I:Nat->En->Int->Prop)(Dn:En->Int->Prop)(b:Nat)(hb:b<n)(h0:I b env β)
  (hs:∀k env β,I k env β->∃c β1,t (vl env) β=.ok c β1/\((c=false/\Dn (a8 L env) β1)\/(c=true/\WP (m (a8 L env) β1) λr=>∃env2 β2 k',r=.nx env2 β2/\k'<k/\I k' env2 β2)))
  (k:∀env β,Dn env β->WP (m' env β) Q):WP (aF (fX L t m n) m' env β) Q:=by
 obtain⟨env',β',e,h⟩:=kf I Dn hb h0 λk env β h=>by
  let⟨c,β1,e1,h⟩:=hs k env β h
  refine⟨c,β1,e1,?_⟩
  rcases h with h|⟨h1,⟨h2⟩⟩
  .exact .inl h
  .exact .inr ⟨h1,h2⟩
 exact wp_seq e (k _ _ h)
end
def Dt(c:Int)(hc:0<=c/\c<=100)(ns:List Int)(vs:List Nv)(β:Int)(h:gv 0 vs β=.ok (gn ns) β):∃m:Nat,m<=101/\bP (f2 (cst (.int 1)) (f2 (f1 (gv 0) dr) (cst (.int c)) (Am λi j=>.int (if j<i then j else i))) (Am λi j=>.int (if j>i then j else i))) vs β=.ok (cI 0 m) β:=by
 have e1:f2 (cst (.int 1)) (f2 (f1 (gv 0) dr) (cst (.int c)) (Am λi j=>.int (if j<i then j else i))) (Am λi j=>.int (if j>i then j else i)) vs β=.ok (.int (if(if c<((ns.map int).length:Int)then c else((ns.map int).length:Int))>1 then(if c<((ns.map int).length:Int)then c else((ns.map int).length:Int))else 1)) β:=
  aK rfl (aK (b9 h rfl) rfl rfl) rfl
 generalize((ns.map int).length:Nat)=k at e1
 refine⟨(if(if c<(k:Int)then c else(k:Int))>1 then(if c<(k:Int)then c else(k:Int))else 1).toNat,?_,cY (e1.trans ?_) ?_⟩
 .split<;>split<;>omega
 .congr 2
  split<;>split<;>omega
 .split<;>split<;>omega
def xP:(sortI r=ba n)↔r.Perm (ba n):=by
 constructor
 .intro h;rw[<-h];exact(sortI_perm r).symm
 .intro h;exact(nv h.symm ((DS n).imp λh=>Int.le_of_lt h)).symm
noncomputable def MQ(n:Nat)(d:D):Bool:=@decide (∃r:List Int,d=tupI r/\r.Perm (ba n)) (Classical.propDecidable _)
def Hk(h:∀r:List Int,d=tupI r->¬r.Perm (ba n)):MQ n d=false:=@Px _ (Classical.propDecidable _) λ⟨r,e,p⟩=>h r e p
def Fv(h:r.Perm (ba n)):MQ n (tupI r)=true:=@Pu _ (Classical.propDecidable _) ⟨r,rfl,h⟩
theorem Bm:∀{es:List D},es.all wX=true->∃r:List Int,es=r.map int
 | [],_=>⟨[],rfl⟩
 |d::es,h=>by
  rw[Sn,PF]at h
  obtain⟨r,rfl⟩:=Bm h.2
  cases d with
  |int a=>exact⟨a::r,rfl⟩
  |_=>cases h.1
noncomputable def NW:List D->FR:=a9 2 2 (gK M8)
theorem Lw{n:Nat}{d:D}(h8:n<=8)(h:Ge d):NW [d,.int n]=.ok (.bool (MQ n d)) false:=by
 show fin (gK M8 [.fz d,.fz (.int n)] 0)=_
 unfold gK
 have g0:gv 0 (vl [.fz d,.fz (.int n)]) 0=.ok d 0:=rfl
 have t1:=ML g0 h.1
 cases hy:Hs d with
 |false=>
  rw[hy]at t1
  rw[Hk (λr e=>by rw[e]at hy;cases hy),kQ (by rw[lN (IY (hG t1))];rfl)];rfl
 |true=>
  obtain⟨es,rfl⟩:=Hr hy
  rw[hy]at t1
  have t2:df (f2 (f1 (gv 0) dr) (gv 1) (cR true)) (vl [.fz (.tuple es),.fz (.int n)]) 0=.ok (!decide ((es.length:Int)=(n:Int))) 0:=eM (b9 rfl rfl) rfl
  by_cases c:(es.length:Int)=(n:Int)
  .rw[Pu c]at t2
   have hs:=(h.2 _ rfl).2
   have ec:aM 1 [] (.nm 0) (bV (gv 0)) kJ (az M8 (ab (gv 0) ag)) (vl [.fz (.tuple es),.fz (.int n)]) 0=.ok (.list (es.map λe=>PyData.bool (wX e))) 0:=
    BM (λe=>PyData.bool (wX e)) rfl (@AT) λe he=>⟨_,rfl,aC rfl (NQ (hs e he))⟩
   have ea:=GX ec
   cases hw:es.all wX with
   |false=>
    rw[hw]at ea
    rw[Hk (λr e=>by
     have e:=PyData.tuple.inj e
     rw[e]at hw
     have:(r.map int).all wX=true:=by
      rw[Qi]
      intro d hd
      obtain⟨x,_,rfl⟩:=Pj.mp hd
      rfl
     rw[this]at hw;cases hw),kQ (by rw[lN (nZ (hG t1) (nZ t2 (hG (kZ ea))))];rfl)];rfl
   |true=>
    rw[hw]at ea
    rw[aI (by rw[lY (nZ (hG t1) (nZ t2 (hG (kZ ea))))];rfl)]
    obtain⟨r,rfl⟩:=Bm hw
    have hz:r.length<64:=by rw[Pc]at c;omega
    have es:rE (.tuple (r.map int))=some (.list ((sortI r).map int)):=by
     unfold rE
     dsimp only[kn]
     rw[jT]
     dsimp only
     rw[Pe hz]
    rw[mj,aK (b9 rfl es) (b9 rfl (gZ (@AT))) (r6 false _ _)]
    rw[Pg PZ]
    by_cases p:r.Perm (ba n)
    .rw[Pu (xP.mpr p),show MQ n (.tuple (r.map int))=true from Fv p];rfl
    .rw[Px (λe=>p (xP.mp e)),Hk (λq e=>by
      have:=Ez e
      subst this
      exact p)];rfl
  .rw[Px c]at t2
   rw[Hk (λr e pr=>by
    have e:=PyData.tuple.inj e
    rw[e,Pc,pr.length_eq,bf]at c
    exact c rfl),kQ (by rw[lN (nZ (hG t1) (IY t2))];rfl)];rfl
def C1{ds:List D}{k:Nat}(h:k<ds.length):∃d,ds[k]? =some d/\d∈ds/\lX ds (k:Int)=some d:=⟨ds[k],O9 h,QG h,qg (O9 h)⟩
def LI(h1:fa vs β=.ok (.list a) β1)(h2:fb vs β1=.ok (.list b) β2)(hz:a.length+b.length<=1000):f2 fa fb jF vs β=.ok (.list (a++b)) β2:=aK h1 h2 (nP (@AT))
section
variable {m m' m1 m2:SF}{env env1:En}{β β1 β2 z:Int}{Q:SO->Prop}{f fa fb:VF D}{t:VF Bool}{d e:D}{L La Lb:List Nat}{i j:Nat}{c:Bool}
theorem Hi(h:WP (m env β) λr=>(∀a b,r≠.nx a b)/\Q r):WP (aF m m' env β) Q:=by
 let⟨h1,h2⟩:=h.out
 refine⟨?_⟩
 unfold aF
 cases e:m env β with
 |nx a b=>exact absurd e (h1 a b)
 |_=>rw[e]at h2;exact h2
end
def CF{α:Type}{own:Nat}{ixs:List Nat}{t:Tg}{fe:VF D}{β β1:Int}(e:α->D)(P:α->Prop)(hi:fi vs β=.ok ds β1)(hz:ds.length<=1000)
  (h:∀d,d∈ds->∃vs1,k8 t d (fO own ixs vs)=some vs1/\∀β,∃a β',fe vs1 β=.ok (e a) β'/\P a):∃(as:List α) (β':Int),aM own ixs t fi kJ fe vs β=.ok (.list (as.map e)) β'/\as.length=ds.length/\∀a,a∈as->P a:=by
 obtain⟨as,β',ec,hl,hP⟩:=rb e P h
 refine⟨as,β',?_,hl,hP⟩
 unfold aM
 rw[hi]
 dsimp only[R.bnd]
 rw[Pe (sz _ hz),ec];rfl
end RM
namespace TR
variable {V:Type}
structure Gr(E:V->V->Prop):Prop where
 sym:∀a b,E a b->E b a
 irr:∀a,¬E a a
def Fc(E:V->V->Prop)(p q:V×V):Prop:=E p.1 p.2/\E q.1 q.2/\((p.1=q.1/\¬E p.2 q.2)\/(p.2=q.2/\¬E p.1 q.1))
inductive Cl(E:V->V->Prop)(p:V×V):V×V->Prop
 |refl:E p.1 p.2->Cl E p p
 |step {q r:V×V}:Cl E p q->Fc E q r->Cl E p r
section
variable {E:V->V->Prop}
theorem Cl.tgt{p q:V×V}(h:Cl E p q):E q.1 q.2:=by
 cases h with
 |refl h=>exact h
 |step _ f=>exact f.2.1
def Fc.symm(G:Gr E){p q:V×V}(h:Fc E p q):Fc E q p:=by
 let⟨h1,h2,h3⟩:=h
 refine⟨h2,h1,?_⟩
 rcases h3 with⟨e,n⟩|⟨e,n⟩
 .exact .inl ⟨e.symm,λz=>n (G.sym _ _ z)⟩
 .exact .inr ⟨e.symm,λz=>n (G.sym _ _ z)⟩
theorem Cl.trans{p q r:V×V}(h:Cl E p q)(k:Cl E q r):Cl E p r:=by
 induction k with
 |refl _=>exact h
 |step _ f ih=>exact .step ih f
theorem Cl.symm(G:Gr E){p q:V×V}(h:Cl E p q):Cl E q p:=by
 induction h with
 |refl h=>exact .refl h
 |step k f ih=>exact(Cl.step (.refl f.2.1) (f.symm G)).trans ih
def Fc.rev(G:Gr E){p q:V×V}(h:Fc E p q):Fc E (p.2,p.1) (q.2,q.1):=by
 let⟨h1,h2,h3⟩:=h
 refine⟨G.sym _ _ h1,G.sym _ _ h2,?_⟩
 rcases h3 with h|h
 .exact .inr h
 .exact .inl h
theorem Cl.rev(G:Gr E){p q:V×V}(h:Cl E p q):Cl E (p.2,p.1) (q.2,q.1):=by
 induction h with
 |refl h=>exact .refl (G.sym _ _ h)
 |step k f ih=>exact .step ih (f.rev G)
theorem Jd(G:Gr E)(hab:E a b)(hac:E a c)(nB:¬Cl E (b,c) (a,c))(nC:¬Cl E (b,c) (b,a))(h:Cl E (b,c) q):Cl E (a,b) (a,q.1)/\Cl E (a,c) (a,q.2):=by
 induction h with
 |refl _=>exact⟨.refl hab,.refl hac⟩
 | @step q r k f ih=>
  let⟨i1,i2⟩:=ih
  let⟨q1,q2⟩:=q
  let⟨r1,r2⟩:=r
  let⟨f1,f2,f3⟩:=id f
  simp only at f1 f2 f3 i1 i2
  have kr:Cl E (b,c) (r1,r2):=.step k f
  rcases f3 with⟨rfl,n⟩|⟨rfl,n⟩
  .refine⟨i1,?_⟩
   have e:E a r2:=Classical.byContradiction λz=>nC ?_
   .exact .step i2 ⟨i2.tgt,e,.inl ⟨rfl,n⟩⟩
   .
    have x:Cl E (b,c) (q1,a):=.step kr ⟨f2,G.sym _ _ i1.tgt,.inl ⟨rfl,λy=>z (G.sym _ _ y)⟩⟩
    exact x.trans ((i1.rev G).symm G)
  .refine⟨?_,i2⟩
   have e:E a r1:=Classical.byContradiction λz=>nB ?_
   .exact .step i1 ⟨i1.tgt,e,.inl ⟨rfl,n⟩⟩
   .have x:Cl E (b,c) (a,q2):=.step kr ⟨f2,i2.tgt,.inr ⟨rfl,λy=>z (G.sym _ _ y)⟩⟩
    exact x.trans (i2.symm G)
def vj(G:Gr E)(hab:E a b)(hac:E a c)(nB:¬Cl E (b,c) (a,c))(nC:¬Cl E (b,c) (b,a))(h:Cl E (b,c) q):q.1≠a/\q.2≠a:=by
 let⟨i1,i2⟩:=Jd G hab hac nB nC h
 exact⟨λe=>G.irr a (by have:=i1.tgt;rw[e]at this;exact this),λe=>G.irr a (by have:=i2.tgt;rw[e]at this;exact this)⟩
def qR(G:Gr E){p:V×V}(hn:¬Cl E p (p.2,p.1))(h1:Cl E p (a,b))(h2:Cl E p (b,c)):Cl E p (a,c):=by
 have no:∀q,Cl E p q->¬Cl E p (q.2,q.1):=λq h k=>hn (k.trans ((h.rev G).symm G))
 have e:E a c:=Classical.byContradiction λz=>no _ h2 (.step h1 ⟨h1.tgt,G.sym _ _ h2.tgt,.inr ⟨rfl,z⟩⟩)
 refine Classical.byContradiction λz=>?_
 have nB:¬Cl E (b,c) (a,c):=λk=>z (h2.trans k)
 have nC:¬Cl E (b,c) (b,a):=λk=>no _ h1 (h2.trans k)
 exact(vj G h1.tgt e nB nC ((h2.symm G).trans h1)).1 rfl
def k9(E:V->V->Prop)(p:V×V)(a b:V):Prop:=E a b/\¬Cl E p (a,b)/\¬Cl E p (b,a)
def Al(G:Gr E)(p:V×V):Gr (k9 E p):=⟨λa b h=>⟨G.sym _ _ h.1,h.2.2,h.2.1⟩,λa h=>G.irr a h.1⟩
def iA(G:Gr E){p:V×V}(h:Cl E q r)(hq:k9 E p q.1 q.2):k9 E p r.1 r.2:=by
 refine⟨h.tgt,λz=>hq.2.1 (z.trans (h.symm G)),λz=>hq.2.2 (z.trans ((h.rev G).symm G))⟩
def Ir(G:Gr E){p:V×V}(h:Fc E q r)(hq:k9 E p q.1 q.2):Fc (k9 E p) q r:=by
 have hr:k9 E p r.1 r.2:=iA G (.step (.refl h.1) h) hq
 refine⟨hq,hr,?_⟩
 rcases h.2.2 with⟨e,n⟩|⟨e,n⟩
 .exact .inl ⟨e,λz=>n z.1⟩
 .exact .inr ⟨e,λz=>n z.1⟩
structure Mg(E:V->V->Prop)(p:V×V)(x y z:V):Prop where
 hy:k9 E p x y
 hz:k9 E p x z
 a:Cl E p (y,z)
 ne:¬Cl E (x,y) (x,z)
section
variable {p:V×V}{x y z:V}
def Mg.nB(m:Mg E p x y z):¬Cl E (y,z) (x,z):=λk=>m.hz.2.1 (m.a.trans k)
def Mg.nC(m:Mg E p x y z):¬Cl E (y,z) (y,x):=λk=>m.hy.2.2 (m.a.trans k)
def Mg.t1(G:Gr E)(m:Mg E p x y z)(h:Cl E p q):Cl E (x,y) (x,q.1)/\Cl E (x,z) (x,q.2):=Jd G m.hy.1 m.hz.1 m.nB m.nC ((m.a.symm G).trans h)
def Mg.off(G:Gr E)(m:Mg E p x y z)(h:Cl E p q):q.1≠x/\q.2≠x:=vj G m.hy.1 m.hz.1 m.nB m.nC ((m.a.symm G).trans h)
def Mg.nB2(G:Gr E)(m:Mg E p x y z):¬Cl E (x,y) (z,y):=λk=>m.hy.2.2 (m.a.trans ((k.rev G).symm G))
def Mg.t2(G:Gr E)(m:Mg E p x y z)(h:Cl E (x,y) q):Cl E (z,x) (z,q.1)/\Cl E (z,y) (z,q.2):=Jd G (G.sym _ _ m.hz.1) (G.sym _ _ m.a.tgt) (m.nB2 G) m.ne h
def Mg.offC(G:Gr E)(m:Mg E p x y z)(h:Cl E (x,y) q):q.1≠z/\q.2≠z:=vj G (G.sym _ _ m.hz.1) (G.sym _ _ m.a.tgt) (m.nB2 G) m.ne h
def Mg.t3(G:Gr E)(m:Mg E p x y z)(h:Cl E (x,z) q):Cl E (y,x) (y,q.1)/\Cl E (y,z) (y,q.2):=Jd G (G.sym _ _ m.hy.1) m.a.tgt (λk=>m.hz.2.1 (m.a.trans (k.symm G))) (λk=>m.ne (k.symm G)) h
def Mg.likeC(G:Gr E)(m:Mg E p x y z)(h:Cl E (x,y) (v,u)):Mg E p v u z:=by
 let⟨t1,t2⟩:=m.t2 G h
 have c1:Cl E (x,z) (v,z):=t1.rev G
 have c2:Cl E (y,z) (u,z):=t2.rev G
 exact⟨iA G h m.hy,iA G c1 m.hz,m.a.trans c2,λk=>m.ne ((h.trans k).trans (c1.symm G))⟩
def Mg.likeB(G:Gr E)(m:Mg E p x y z)(h:Cl E (x,z) (v,u)):Mg E p v y u:=by
 let⟨t1,t2⟩:=m.t3 G h
 have c1:Cl E (x,y) (v,y):=t1.rev G
 exact⟨iA G c1 m.hy,iA G h m.hz,m.a.trans t2,λk=>m.ne ((c1.trans k).trans (h.symm G))⟩
def uI(h:Fc (k9 E p) q r):Fc E q r\/(q.1=r.1/\(Cl E p (q.2,r.2)\/Cl E p (r.2,q.2)))\/(q.2=r.2/\(Cl E p (q.1,r.1)\/Cl E p (r.1,q.1))):=by
 let⟨h1,h2,h3⟩:=h
 rcases h3 with⟨e,n⟩|⟨e,n⟩
 .by_cases k:E q.2 r.2
  .refine .inr (.inl ⟨e,?_⟩)
   refine Classical.byContradiction λz=>n ⟨k,λa=>z (.inl a),λa=>z (.inr a)⟩
  .exact .inl ⟨h1.1,h2.1,.inl ⟨e,k⟩⟩
 .by_cases k:E q.1 r.1
  .refine .inr (.inr ⟨e,?_⟩)
   refine Classical.byContradiction λz=>n ⟨k,λa=>z (.inl a),λa=>z (.inr a)⟩
  .exact .inl ⟨h1.1,h2.1,.inr ⟨e,k⟩⟩
def Mg.closed(G:Gr E)(m:Mg E p x y z)(h:Cl E (x,y) q\/Cl E (x,z) q)(f:Fc (k9 E p) q r):Cl E (x,y) r\/Cl E (x,z) r:=by
 let⟨q1,q2⟩:=q
 let⟨r1,r2⟩:=r
 rcases uI f with k|⟨e,k⟩|⟨e,k⟩
 .exact h.imp (λh=>.step h k) λh=>.step h k
 .simp only at e k
  subst e
  rcases h with h|h<;>rcases k with k|k
  .
   let⟨s1,s2⟩:=m.t1 G k
   have m2:Mg E p x q2 r2:=⟨iA G s1 m.hy,iA G s2 m.hz,k,λc=>m.ne ((s1.trans c).trans (s2.symm G))⟩
   exact .inr (s2.trans ((m2.t2 G ((s1.symm G).trans h)).1.rev G))
  .exfalso
   have a1:Cl E p (q2,z):=m.a.trans ((m.t2 G h).2.rev G)
   exact m.ne ((m.t1 G a1).1.trans ((m.t1 G k).2.symm G))
  .exfalso
   have a1:Cl E p (y,q2):=m.a.trans (m.t3 G h).2
   exact m.ne ((m.t1 G k).1.trans ((m.t1 G a1).2.symm G))
  .let⟨s1,s2⟩:=m.t1 G k
   have m2:Mg E p x r2 q2:=⟨iA G s1 m.hy,iA G s2 m.hz,k,λc=>m.ne ((s1.trans c).trans (s2.symm G))⟩
   exact .inl (s1.trans ((m2.t3 G ((s2.symm G).trans h)).1.rev G))
 .simp only at e k
  subst e
  exfalso
  rcases h with h|h
  .have m2:=m.likeC G h
   rcases k with k|k
   .exact (m2.off G k).1 rfl
   .exact (m2.off G k).2 rfl
  .have m2:=m.likeB G h
   rcases k with k|k
   .exact (m2.off G k).1 rfl
   .exact (m2.off G k).2 rfl
def Mg.no(G:Gr E)(m:Mg E p x y z)(H:∀q,E q.1 q.2->¬Cl E q (q.2,q.1))(h:Cl E (x,y) q\/Cl E (x,z) q):¬Cl (k9 E p) q (q.2,q.1):=by
 intro k
 have all:∀r,Cl (k9 E p) q r->Cl E (x,y) r\/Cl E (x,z) r:=λr c=>by
  induction c with
  |refl _=>exact h
  |step _ f ih=>exact m.closed G ih f
 have bad:Cl E (x,y) (z,x)->False:=λc=>(m.offC G c).1 rfl
 rcases h with h|h<;>rcases all _ k with c|c
 .exact H q h.tgt ((h.symm G).trans c)
 .exact bad (((c.trans ((h.rev G).symm G)).rev G).symm G)
 .exact bad (c.trans ((h.rev G).symm G))
 .exact H q h.tgt ((h.symm G).trans c)
end
def Gs(G:Gr E){p:V×V}(H:∀q,E q.1 q.2->¬Cl E q (q.2,q.1))(hq:k9 E p q.1 q.2):¬Cl (k9 E p) q (q.2,q.1):=by
 intro k
 have G':=Al G p
 have all:∀r,Cl (k9 E p) q r->Cl E q r:=λr c=>by
  induction c with
  |refl h=>exact .refl h.1
  | @step r s c f ih=>
   refine Classical.byContradiction λz=>?_
   have hr:=c.tgt
   have hs:=f.2.1
   let⟨r1,r2⟩:=r
   let⟨s1,s2⟩:=s
   have nrs:¬Cl E (r1,r2) (s1,s2):=λy=>z (ih.trans y)
   rcases uI f with g|⟨e,g⟩|⟨e,g⟩
   .exact z (.step ih g)
   .simp only at e g
    subst e
    rcases g with g|g
    .exact (Mg.mk hr hs g nrs).no G H (.inl (ih.symm G)) k
    .exact (Mg.mk hs hr g λy=>nrs (y.symm G)).no G H (.inr (ih.symm G)) k
   .simp only at e g
    subst e
    have k':Cl (k9 E p) (q.2,q.1) q:=k.rev G'
    have ir:Cl E (q.2,q.1) (r2,r1):=ih.rev G
    have nrs':¬Cl E (r2,r1) (r2,s1):=λy=>nrs (y.rev G)
    rcases g with g|g
    .exact (Mg.mk (G'.sym _ _ hr) (G'.sym _ _ hs) g nrs').no G H (.inl (ir.symm G)) k'
    .exact (Mg.mk (G'.sym _ _ hs) (G'.sym _ _ hr) g λy=>nrs' (y.symm G)).no G H (.inr (ir.symm G)) k'
 exact H q hq.1 (all _ k)
inductive Gj:(V->V->Prop)->(V->V->Prop)->Prop
 |nil {E:V->V->Prop}:(∀a b,¬E a b)->Gj E λ_ _=>False
 |more {E T:V->V->Prop} {p:V×V}:E p.1 p.2->Gj (k9 E p) T->Gj E λa b=>Cl E p (a,b)\/T a b
structure OG(E T:V->V->Prop):Prop where
 sub:∀a b,T a b->E a b
 one:∀a b,E a b->T a b\/T b a
 anti:∀a b,T a b->¬T b a
 tr:∀a b c,T a b->T b c->T a c
 cl:∀q r,T q.1 q.2->Fc E q r->T r.1 r.2
theorem Ho{E T:V->V->Prop}(h:Gj E T):Gr E->(∀q,E q.1 q.2->¬Cl E q (q.2,q.1))->OG E T:=by
 induction h with
 |nil n=>exact λG H=>⟨λ_ _ h=>h.elim,λa b h=>(n a b h).elim,λ_ _ h=>h.elim,λ_ _ _ h=>h.elim,λ_ _ h=>h.elim⟩
 | @more E T p hp hc ih=>
  intro G H
  have O:=ih (Al G p) λq hq=>Gs G H hq
  have hn:=H p hp
  have no:∀a b,Cl E p (a,b)->¬Cl E p (b,a):=λa b h k=>hn (k.trans ((h.rev G).symm G))
  have TL:∀a b,T a b->¬Cl E p (a,b)/\¬Cl E p (b,a):=λa b h=>(O.sub a b h).2
  refine⟨λa b h=>h.elim (λh=>h.tgt) λh=>(O.sub a b h).1,λa b h=>?_,λa b h k=>?_,λa b c h k=>?_,λq r h f=>?_⟩
  .by_cases c1:Cl E p (a,b)
   .exact .inl (.inl c1)
   by_cases c2:Cl E p (b,a)
   .exact .inr (.inl c2)
   .exact (O.one a b ⟨h,c1,c2⟩).imp .inr .inr
  .rcases h with h|h<;>rcases k with k|k
   .exact no a b h k
   .exact (TL b a k).2 h
   .exact (TL a b h).2 k
   .exact O.anti a b h k
  .rcases h with h|h<;>rcases k with k|k
   .exact .inl (qR G hn h k)
   .have kE:=(O.sub b c k).1
    have e:E a c:=Classical.byContradiction λz=>(TL b c k).2 (.step h ⟨h.tgt,G.sym _ _ kE,.inr ⟨rfl,z⟩⟩)
    by_cases c1:Cl E p (a,c)
    .exact .inl c1
    by_cases c2:Cl E p (c,a)
    .exact ((TL b c k).2 (qR G hn c2 h)).elim
    .rcases O.one a c ⟨e,c1,c2⟩with y|y
     .exact .inr y
     .exact ((TL b a (O.tr b c a k y)).2 h).elim
   .have hE:=(O.sub a b h).1
    have e:E a c:=Classical.byContradiction λz=>(TL a b h).2 (.step k ⟨k.tgt,G.sym _ _ hE,.inl ⟨rfl,λy=>z (G.sym _ _ y)⟩⟩)
    by_cases c1:Cl E p (a,c)
    .exact .inl c1
    by_cases c2:Cl E p (c,a)
    .exact ((TL a b h).2 (qR G hn k c2)).elim
    .rcases O.one a c ⟨e,c1,c2⟩with y|y
     .exact .inr y
     .exact ((TL c b (O.tr c a b y h)).2 k).elim
   .exact .inr (O.tr a b c h k)
  .rcases h with h|h
   .exact .inl (.step h f)
   .exact .inr (O.cl q r h (Ir G f (O.sub _ _ h)))
end
end TR
namespace RM
open PySem L2
def cO(L:List (Pr×D)):D:=.dict (L.map λq=>(ax q.1,q.2))
abbrev Lp(ps:List Pr):List (Pr×D):=ps.map λp=>(p,PyData.bool true)
def dB(ps:List Pr):D:=cO (Lp ps)
def nY(ps:List Pr):(Lp ps).map (·.1)=ps:=by unfold Lp;rw[P8];simp[Function.comp_def]
def nu(L:List (Pr×D)):jE (L.map λq=>(ax q.1,q.2))=some L:=A4 L
theorem Ec:∀L:List (Pr×D),CV (L.map λq=>(ax q.1,q.2))=some (L.map (·.1))
 | []=>rfl
 |q::L=>by
  rw[PL]
  show(CV (L.map λq=>(ax q.1,q.2))).map _=_
  rw[Ec L];rfl
def mG(neg:Bool)(p:Pr)(L:List (Pr×D)):mR neg (ax p) (cO L)=some (.bool (if neg then !decide (p∈L.map (·.1))else decide (p∈L.map (·.1)))):=by
 show(CV (L.map λq=>(ax q.1,q.2))).map _=_
 rw[Ec];rfl
def A3(neg:Bool)(p:Pr)(ps:List Pr):mR neg (ax p) (dB ps)=some (.bool (if neg then !decide (p∈ps)else decide (p∈ps))):=by
 have:=mG neg p (Lp ps)
 rw[nY]at this;exact this
def Ea(p:Pr):qh (ax p)=some p:=rfl
def DV(p:Pr)(L:List (Pr×D)):pO (cO L) (ax p)=yB L p:=by
 show(match jE (L.map λq=>(ax q.1,q.2)),qh (ax p)with|some L,some p=>yB L p|_,_=>none)=_
 rw[nu,Ea]
def Km(h:p∉L.map (·.1))(h1:L.length<1000)(h0:0<L.length):putN (L.map λq=>(ax q.1,q.2)) (ax p) v=some ((L++[(p,v)]).map λq=>(ax q.1,q.2)):=by
 unfold putN
 rw[nu,Ea]
 dsimp only
 have hn:yB L p=none:=by
  unfold yB
  rw[List.find?_eq_none.mpr]
  .rfl
  .intro q hq z
   exact h (Pj.mpr ⟨q,hq,QE z⟩)
 rw[Pe ⟨by rw[hn];rfl,h1,h0⟩,PV];rfl
def Kc(L:List (Pr×D)):M7 (cO L)=some (.list ((L.map (·.1)).map ax)):=by
 show(jE (L.map λq=>(ax q.1,q.2))).map _=_
 rw[nu,RB,P8,P8];rfl
def vL(h:fa vs β=.ok (cO L) β1):Gx fa vs β=.ok ((L.map (·.1)).map ax) β1:=by
 unfold Gx
 rw[h]
 show R.of ((jE (L.map λq=>(ax q.1,q.2))).map λ_=>(L.map λq=>(ax q.1,q.2)).map (·.1)) β1=_
 rw[nu,RB,P8,P8];rfl
def HF(h:fa vs β=.ok (cO L) β1):HG fa vs β=.ok (!L.isEmpty) β1:=by
 unfold HG
 rw[h]
 show R.of ((jE (L.map λq=>(ax q.1,q.2))).map λ_=> !(L.map λq=>(ax q.1,q.2)).isEmpty) β1=_
 rw[nu,RB]
 cases L<;>rfl
theorem Eu:∀ps:List Pr,FP (ps.map λp=>PyData.tuple [ax p,.bool true])=some (Lp ps)
 | []=>rfl
 |p::ps=>by
  rw[PL]
  unfold FP
  rw[Eu ps];rfl
theorem xK:∀{L acc:List (Pr×D)},((acc++L).map (·.1)).Nodup->L.foldl (λa x=>oK a x.1 x.2) acc=acc++L
 | [],acc,_=>by rw[RD];rfl
 |x::L,acc,h=>by
  rw[Rk]
  have e:oK acc x.1 x.2=acc++[x]:=by
   unfold oK
   rw[Pg]
   rw[Bool.not_eq_true,List.any_eq_false]
   intro y hy
   rw[PB]
   intro z
   rw[PV,QI]at h
   exact h.2.2 y.1 (Pj.mpr ⟨y,hy,rfl⟩) x.1 (Pj.mpr ⟨x,Pq ..,rfl⟩) z
  rw[e,xK (by rw[QV];exact h),QV];rfl
def yr(nd:ps.Nodup):rk (.list (ps.map λp=>PyData.tuple [ax p,.bool true]))=some (dB ps):=by
 show(FP (ps.map λp=>PyData.tuple [ax p,.bool true])).map _=_
 rw[Eu,RB,xK (by rw[nil_append,nY];exact nd),nil_append];rfl
noncomputable def Om:List D->FR:=a9 1 1 (nS zT)
def KG(n:Nat)(l:List Pr):(kX n l).Nodup:=OM.dS (Ak n l)
def Ow(O:OM.Ord n l):Om [aE n l]=.ok (dB (kX n l)) false:=by
 have hz:(kX n l).length<=64:=GS O.hi
 refine jC (pe (b9 (β1:=0) (cG (λp=>PyData.tuple [ax p,.bool true]) ?_ (@AT) λp hp=>⟨[.da (ax p)],rfl,tp rfl⟩) (yr (KG n l))) rfl)
 unfold bV
 rw[aC rfl (A8 O)];rfl
structure Tb(n:Nat)(T:List Pr):Prop where
 lo:1<=n
 hi:n<=8
 ris:OM.uN T
 rg:∀p,p∈T->(0<=p.1/\p.1<n)/\(0<=p.2/\p.2<n)
 sym:∀a b,(a,b)∈T->(b,a)∈T
 irr:∀a,(a,a)∉T
abbrev ET(T:List Pr)(a b:Int):Prop:=(a,b)∈T
def Tb.gr(t:Tb n T):TR.Gr (ET T):=⟨t.sym,t.irr⟩
def Tb.nd(t:Tb n T):T.Nodup:=OM.dS t.ris
theorem oQ:∀{q put:List Pr},q.Nodup->(∀x,x∈q->x∈put)->q.length<=put.length
 | [],_,_,_=>P9 _
 |x::q,put,nd,h=>by
  have nd:=P6.mp nd
  have hx:=h x (Pq ..)
  have:=oQ (put:=put.erase x) nd.2 λy hy=>(List.mem_erase_of_ne (λe=>nd.1 (by rw[<-e];exact hy))).mpr (h y (Pk _ hy))
  rw[RU hx]at this
  have:=List.length_pos_of_mem hx
  rw[PR];omega
def Dk{n:Nat}{q:List Pr}(h8:n<=8)(nd:q.Nodup)(h:∀p,p∈q->(0<=p.1/\p.1<n)/\(0<=p.2/\p.2<n)):q.length<=64:=Qp (oQ nd λx hx=>OM.bh.mpr (h x hx)) (by rw[eV];exact QL h8 h8)
def Tb.len{n:Nat}{T:List Pr}(t:Tb n T):T.length<=64:=Dk t.hi t.nd t.rg
def rn(O:OM.Ord n l):Tb n (kX n l):=by
 refine⟨O.lo,O.hi,Ak n l,λp h=>(kq.mp h).1,λa b h=>?_,λa h=>?_⟩
 .let⟨h1,h2⟩:=kq.mp h
  refine kq.mpr ⟨⟨h1.2,h1.1⟩,?_⟩
  unfold zO at *
  simp only[PF,QW,Qw]at *
  exact⟨λz=>h2.1 z.symm,h2.2.2,h2.2.1⟩
 .have:=(kq.mp h).2
  unfold zO at this
  simp at this
def OL(T:List Pr)(p q:Pr):Bool:=decide ((p.1=q.1/\q.2≠p.2/\(p.2,q.2)∉T)\/(p.2=q.2/\q.1≠p.1/\(p.1,q.1)∉T))
def sL(T:List Pr)(p:Pr):List Pr:=T.filter (OL T p)
def oR:q∈sL T p↔q∈T/\((p.1=q.1/\q.2≠p.2/\(p.2,q.2)∉T)\/(p.2=q.2/\q.1≠p.1/\(p.1,q.1)∉T)):=by
 unfold sL OL
 rw[Pp,PB]
def IM(hp:p∈T)(h:q∈sL T p):TR.Fc (ET T) p q:=by
 let⟨h1,h2⟩:=oR.mp h
 exact⟨hp,h1,h2.imp (λh=>⟨h.1,h.2.2⟩) λh=>⟨h.1,h.2.2⟩⟩
def L3(h:TR.Fc (ET T) p q):q=p\/q∈sL T p:=by
 let⟨_,h2,h3⟩:=h
 let⟨p1,p2⟩:=p
 let⟨q1,q2⟩:=q
 rcases h3 with⟨e,n⟩|⟨e,n⟩
 .simp only at e n
  subst e
  by_cases c:q2=p2
  .exact .inl (by rw[c])
  .exact .inr (oR.mpr ⟨h2,.inl ⟨rfl,c,n⟩⟩)
 .simp only at e n
  subst e
  by_cases c:q1=p1
  .exact .inl (by rw[c])
  .exact .inr (oR.mpr ⟨h2,.inr ⟨rfl,c,n⟩⟩)
def nU(n:Nat)(T:List Pr)(b:Int):List Int:=(ba n).filter λc=> !decide (c=b) && !decide (((b,c):Pr)∈T)
noncomputable def Of:List D->FR:=a9 8 3 i9
def FI{n:Nat}{T:List Pr}{b:Int}{i:Nat}{vs:List Nv}{β:Int}(h8:n<=8)(h1:gv 1 vs β=.ok (.int n) β)(hi:vs[i]? =some (.da (.int b)))(h0:vs[0]? =some (.da (dB T))):aM 1 [i,0] (.nm 0) (bP (gv 1)) (AE (df (f2 (gv 0) (gv 1) (cR true))) (df (f2 (bt (ab (gv 1) (ab (gv 0) ag))) (gv 2) (mR true)))) (gv 0) vs β=.ok (.list ((nU n T b).map int)) β:=by
 have hb:fO 1 [i,0] vs= [.no,.da (.int b),.da (dB T)]:=by simp[fO,hi,h0]
 refine b7 _ int ?_ (by rw[bf];omega) λc hc=>⟨[.da (.int c),.da (.int b),.da (dB T)],by rw[hb];rfl,vV (eM rfl rfl) (du _ _ _ _ (aK (dz rfl rfl) rfl (A3 true (b,c) T))),λ_=>rfl⟩
 rw[<-jS];exact cY h1 (@AT)
def oh:c∈nU n T b↔(0<=c/\c<n)/\c≠b/\(b,c)∉T:=by
 unfold nU
 rw[Pp,aG,PF,QW,QW,Qw,Qw]
def sX(n:Nat)(T:List Pr)(p:Pr):List Pr:=((nU n T p.2).map λc=>(p.1,c))++(nU n T p.1).map λc=>(c,p.2)
def K6:(sX n T p).Nodup:=by
 have nd:∀b,(nU n T b).Nodup:=λb=>(cj n).sublist Rt
 unfold sX
 rw[QI]
 refine⟨List.Pairwise.map _ (λa b h z=>h (by cases z;rfl)) (nd _),List.Pairwise.map _ (λa b h z=>h (by cases z;rfl)) (nd _),λx hx y hy z=>?_⟩
 obtain⟨c,hc,rfl⟩:=Pj.mp hx
 obtain⟨e,he,rfl⟩:=Pj.mp hy
 exact(oh.mp hc).2.1 (congrArg Prod.snd z)
def Ht(t:Tb n T):(q∈sX n T p/\q∈T)↔q∈sL T p:=by
 rw[oR]
 unfold sX
 rw[Pz,Pj,Pj]
 constructor
 .rintro⟨h|h,ht⟩
  .obtain⟨c,hc,rfl⟩:=h
   let⟨_,h2,h3⟩:=oh.mp hc
   exact⟨ht,.inl ⟨rfl,h2,h3⟩⟩
  .obtain⟨c,hc,rfl⟩:=h
   let⟨_,h2,h3⟩:=oh.mp hc
   exact⟨ht,.inr ⟨rfl,h2,h3⟩⟩
 .rintro⟨ht,h⟩
  have hq:=t.rg q ht
  refine⟨?_,ht⟩
  rcases h with⟨e,h2,h3⟩|⟨e,h2,h3⟩
  .exact .inl ⟨q.2,oh.mpr ⟨hq.2,h2,h3⟩,by rw[e]⟩
  .exact .inr ⟨q.1,oh.mpr ⟨hq.1,h2,h3⟩,by rw[e]⟩
def Gm(t:Tb n T):iZ (.list (((sX n T p).filter λq=>decide (q∈T)).map ax))=some (.list ((sL T p).map ax)):=by
 have hm:∀q,q∈(sX n T p).filter (λq=>decide (q∈T))↔q∈sL T p:=λq=>by rw[Pp,PB,Ht t]
 have hw:∀q,q∈sL T p->q∈T:=λq h=>(oR.mp h).1
 rw[CQ t.lo t.hi (λq hq=>t.rg q (hw q ((hm q).mp hq))) (K6.sublist Rt) (λa ha=>t.irr a (hw _ ((hm _).mp ha)))]
 congr 3
 refine OM.fo (OM.cC _ _) (OM.cD _ t.ris) λq=>?_
 rw[OM.aN]
 rw[<-hm q]
 constructor
 .exact λh=>h.2
 .intro h
  have:=t.rg q (hw q ((hm q).mp h))
  have h8:=t.hi
  exact⟨⟨⟨this.1.1,@AT ⟩,this.2.1,@AT ⟩,h⟩
def NK(t:Tb n T):Of [dB T,.int n,ax p]=.ok (.list ((sL T p).map ax)) true:=by
 have h8:=t.hi
 refine jC ?_
 unfold i9
 have hsl:∀b,(nU n T b).length<=8:=λb=>Qp (Qs ..) (by rw[bf];exact h8)
 have hfl:(sX n T p).length<=16:=by have h1:=hsl p.1;have h2:=hsl p.2;unfold sX;rw[P0,Pc,Pc];omega
 refine cg rfl (cg rfl (wp_at [.fz (dB T),.fz (.int n),.fz (ax p),.fz (.int p.1),.fz (.int p.2),.no,.no,.no] rfl ?_))
 refine cg (FI h8 rfl rfl rfl) (wp_at [.fz (dB T),.fz (.int n),.fz (ax p),.fz (.int p.1),.fz (.int p.2),.fz (.list ((nU n T p.2).map int)),.no,.no] rfl (cg (FI h8 rfl rfl rfl) (wp_at [.fz (dB T),.fz (.int n),.fz (ax p),.fz (.int p.1),.fz (.int p.2),.fz (.list ((nU n T p.2).map int)),.fz (.list ((nU n T p.1).map int)),.no] rfl ?_)))
 have e1:=hsl p.1
 have e2:=hsl p.2
 have hf:((sX n T p).map ax)=((nU n T p.2).map λc=>ax (p.1,c))++(nU n T p.1).map λc=>ax (c,p.2):=by unfold sX;rw[PV,P8,P8];rfl
 have hsr:=Gm t (p:=p)
 generalize nU n T p.2=S at *
 generalize nU n T p.1=S' at *
 refine cg (LI (cG (λc=>ax (p.1,c)) rfl (@AT) λc hc=>⟨[.da (.int c),.da (.int p.1)],rfl,dz rfl rfl⟩) (cG (λc=>ax (c,p.2)) rfl (@AT) λc hc=>⟨[.da (.int c),.da (.int p.2)],rfl,dz rfl rfl⟩) (by rw[Pc,Pc];omega)) ?_
 rw[<-hf]
 exact qk (b9 (b7 (λq=>decide (q∈T)) ax rfl (@AT) λq hq=>⟨[.da (ax q),.da (dB T)],rfl,du _ _ _ _ (aK rfl rfl (A3 false q T)),λ_=>rfl⟩) hsr) rfl
def Kb:List D->FR:=a9 1 1 pU
def Jt(p:Pr):Kb [ax p]=.ok (ax (p.2,p.1)) false:=rfl
structure Cm(T:List Pr)(p:Pr)(L:List (Pr×D)):Prop where
 nd:(L.map (·.1)).Nodup
 tr:∀q,q∈L->q.1∈T
 fst:L[0]? =some (p,.none)
 bk:∀(i:Nat) q,0<i->L[i]? =some q->∃(j:Nat) (r:Pr×D),j<i/\L[j]? =some r/\q.2=ax r.1/\q.1∈sL T r.1
section
variable {n:Nat}{T:List Pr}{p:Pr}{L:List (Pr×D)}
def Cm.pos(c:Cm T p L):0<L.length:=(Pw.mp c.fst).1
def Cm.len(t:Tb n T)(c:Cm T p L):L.length<=64:=by
 have h1:(L.map (·.1)).length<=T.length:=oQ c.nd λp hp=>by obtain⟨q,hq,rfl⟩:=Pj.mp hp;exact c.tr q hq
 rw[Pc]at h1
 exact Qp h1 t.len
def Cm.one(h:p∈T):Cm T p [(p,.none)]:=
 ⟨by simp,λq hq=>by rw[PU]at hq;subst hq;exact h,rfl,λi q hi e=>by
  cases i with
  |zero=>omega
  |succ i=>simp at e⟩
def Cm.more{q:Pr}{r:Pr×D}{j:Nat}(c:Cm T p L)(h:q∈sL T r.1)(hn:q∉L.map (·.1))(hr:L[j]? =some r):Cm T p (L++[(q,ax r.1)]):=by
 have hj:j<L.length:=(Pw.mp hr).1
 refine⟨?_,λq hq=>?_,?_,λi q hi e=>?_⟩
 .rw[PV,QI]
  refine⟨c.nd,by simp,λa ha b hb=>?_⟩
  simp at hb
  subst hb
  exact λz=>hn (z▸ha)
 .rcases Pz.mp hq with hq|hq
  .exact c.tr q hq
  .rw[PU]at hq;subst hq;exact(oR.mp h).1
 .rw[PJ c.pos];exact c.fst
 .by_cases z:i<L.length
  .rw[PJ z]at e
   let⟨j',r',h1,h2,h3⟩:=c.bk i q hi e
   exact⟨j',r',h1,by rw[PJ (@AT)];exact h2,h3⟩
  .rw[P7 (@AT)]at e
   have:i-L.length=0:=by
    cases hq:i-L.length with
    |zero=>rfl
    |succ k=>rw[hq]at e;simp at e
   rw[this]at e
   simp at e
   subst e
   exact⟨j,r,@AT,by rw[PJ hj];exact hr,rfl,h⟩
end
noncomputable def Dp:List D->FR:=a9 8 3 (dR Of)
abbrev fe(n:Nat)(T:List Pr)(p:Pr)(s3 s4 s5 s6 s7:Sl):En:=[.fz (dB T),.fz (.int n),.fz (ax p),s3,s4,s5,s6,s7]
def zD{L:List (Pr×D)}(h:q∈L.map (·.1)):∃(j:Nat) (r:Pr×D),L[j]? =some r/\r.1=q:=by
 let⟨r,hr,e⟩:=Pj.mp h
 let⟨j,hj⟩:=List.mem_iff_getElem?.mp hr
 exact⟨j,r,hj,e⟩
def Dn(T:List Pr)(L:List (Pr×D))(q:Pr):Prop:=∀r,r∈sL T q->r∈L.map (·.1)
def Dn.more{T:List Pr}{L:List (Pr×D)}(h:Dn T L q)(x:Pr×D):Dn T (L++[x]) q:=λr hr=>by rw[PV];exact Qh _ (h r hr)
def IX{n:Nat}{T:List Pr}{p:Pr}(t:Tb n T)(hp:p∈T):∃(L:List (Pr×D)) (b:Bool),Dp [dB T,.int n,ax p]=.ok (cO L) b/\Cm T p L/\∀q,q∈L.map (·.1)->Dn T L q:=by
 have h8:=t.hi
 suffices h:WP (dR Of [.fz (dB T),.fz (.int n),.fz (ax p),.no,.no,.no,.no,.no] 0) λr=>∃(L:List (Pr×D)) (b:Bool),fin r=.ok (cO L) b/\Cm T p L/\∀q,q∈L.map (·.1)->Dn T L q from h.out
 unfold dR
 refine mC rfl (wp_at (fe n T p (.ow (cO [(p,.none)])) .no .no .no .no) rfl (cg (lp (ac rfl an)) (wp_at (fe n T p (.ow (cO [(p,.none)])) (.fz (.list ([p].map ax))) .no .no .no) rfl ?_)))
 refine rY (λk env b=>b=0/\∃(L:List (Pr×D)) (F:List Pr) (s5 s6 s7:Sl),env=fe n T p (.ow (cO L)) (.fz (.list (F.map ax))) s5 s6 s7/\Cm T p L/\(∀q,q∈F->q∈L.map (·.1))/\(∀q,q∈L.map (·.1)->q∈F\/Dn T L q)/\F.length<=64/\2*(65-L.length)+(if F= []then 0 else 1)<=k)
  (λenv b=>∃(L:List (Pr×D)) (s4 s5 s6 s7:Sl),env=fe n T p (.ow (cO L)) s4 s5 s6 s7/\Cm T p L/\∀q,q∈L.map (·.1)->Dn T L q) 131 (@AT)
  ⟨rfl,_,[p],.no,.no,.no,rfl,Cm.one hp,λq hq=>by simpa using hq,λq hq=>.inl (by simpa using hq),by simp,by simp⟩ ?_ ?_
 .rintro k env b ⟨rfl,L,F,s5,s6,s7,rfl,cm,hF,hD,hFl,hk⟩
  have tt:mE (gv 4) (vl (fe n T p (.ow (cO L)) (.fz (.list (F.map ax))) s5 s6 s7)) 0=.ok (!F.isEmpty) 0:=by
   cases F<;>rfl
  refine⟨_,_,tt,?_⟩
  by_cases hE:F= []
  .subst hE
   exact .inl ⟨rfl,L,_,_,_,_,rfl,cm,λq hq=>(hD q hq).elim (λz=>by cases z) id⟩
  refine .inr ⟨by cases F<;>first|exact absurd rfl hE|rfl,?_⟩
  refine mC (lp an) (wp_at (fe n T p (.ow (cO L)) (.fz (.list (F.map ax))) (.ow (.list (([]:List Pr).map ax))) s6 s7) rfl (rR (λi env b=>b=0/\∃(M:List (Pr×D)) (N:List Pr) (s6 s7:Sl),env=fe n T p (.ow (cO M)) (.fz (.list (F.map ax))) (.ow (.list (N.map ax))) s6 s7/\Cm T p M/\(∀q,q∈L.map (·.1)->q∈M.map (·.1))/\(∀q,q∈N->q∈M.map (·.1))/\(∀q,q∈M.map (·.1)->(q∈F/\q∉F.take i)\/q∈N\/Dn T M q)/\N.length+L.length=M.length) rfl ?_ ?_ ?_))
  .exact⟨rfl,L,[],s6,s7,rfl,cm,λq hq=>hq,(λq hq=>by cases hq),λq hq=>(hD q hq).elim (λz=>.inl ⟨z,by simp⟩) λz=>.inr (.inr z),by simp⟩
  .rintro i d env b hd ⟨rfl,M,N,s6,s7,rfl,cM,hL,hN,hM,hz⟩
   rw[Pt]at hd
   cases hq:F[i]? with
   |none=>rw[hq]at hd;cases hd
   |some one=>
    rw[hq]at hd;cases hd
    have hone:one∈F:=Pn hq
    have hoM:one∈M.map (·.1):=hL one (hF one hone)
    refine⟨fe n T p (.ow (cO M)) (.fz (.list (F.map ax))) (.ow (.list (N.map ax))) (.fz (ax one)) s7,rfl,pI (rR (ds:=(sL T one).map ax) (λj env b=>b=0/\∃(M:List (Pr×D)) (N:List Pr) (s7:Sl),env=fe n T p (.ow (cO M)) (.fz (.list (F.map ax))) (.ow (.list (N.map ax))) (.fz (ax one)) s7/\Cm T p M/\(∀q,q∈L.map (·.1)->q∈M.map (·.1))/\(∀q,q∈N->q∈M.map (·.1))/\(∀q,q∈M.map (·.1)->(q∈F/\q∉F.take i)\/q∈N\/Dn T M q)/\N.length+L.length=M.length/\∀q,q∈(sL T one).take j->q∈M.map (·.1)) (β1:=0) ?_ ?_ ?_ ?_)⟩
    .unfold bV
     rw[aC rfl (NK t)];rfl
    .exact⟨rfl,M,N,s7,rfl,cM,hL,hN,hM,hz,λq hq=>by simp at hq⟩
    .rintro j d env b hd ⟨rfl,M,N,s7,rfl,cM,hL,hN,hM,hz,hj⟩
     rw[Pt]at hd
     cases hq2:(sL T one)[j]? with
     |none=>rw[hq2]at hd;cases hd
     |some oth=>
      rw[hq2]at hd;cases hd
      have hoth:oth∈sL T one:=Pn hq2
      have hoM:one∈M.map (·.1):=hL one (hF one hone)
      refine⟨fe n T p (.ow (cO M)) (.fz (.list (F.map ax))) (.ow (.list (N.map ax))) (.fz (ax one)) (.fz (ax oth)),rfl,?_⟩
      have tk:∀q,q∈(sL T one).take (j+1)->q∈(sL T one).take j\/q=oth:=λq hq=>by
       rw[QD,hq2]at hq
       rcases Pz.mp hq with h|h
       .exact .inl h
       .exact .inr (by simpa using h)
      have tc:=du _ _ _ _ (aK (fa:=gv 7) (fb:=gv 3) (vs:=vl (fe n T p (.ow (cO M)) (.fz (.list (F.map ax))) (.ow (.list (N.map ax))) (.fz (ax one)) (.fz (ax oth)))) (β2:=0) rfl rfl (mG true oth M))
      by_cases c:oth∈M.map (·.1)
      .rw[Pu c]at tc
       exact xU tc (kY ⟨_,_,rfl,rfl,M,N,_,rfl,cM,hL,hN,hM,hz,λq hq=>(tk q hq).elim (hj q) λe=>e▸c⟩)
      .rw[Px c]at tc
       refine JA tc (wp_at (fe n T p (.ow (cO M)) (.fz (.list (F.map ax))) (.ow (.list (N.map ax))) (.fz (ax one)) (.fz (ax oth))) rfl ?_)
       let⟨jj,r,hr,er⟩:=zD hoM
       subst er
       have cM2:=cM.more hoth c hr
       have hlen:=cM.len t
       have hlen2:=cM2.len t
       rw[P0]at hlen2
       have ep:DD 3 [6] [] (gv 6) (gv 7) (fe n T p (.ow (cO M)) (.fz (.list (F.map ax))) (.ow (.list (N.map ax))) (.fz (ax r.1)) (.fz (ax oth))) 0=.nx (fe n T p (.ow (cO (M++[(oth,ax r.1)]))) (.fz (.list (F.map ax))) (.ow (.list (N.map ax))) (.fz (ax r.1)) (.fz (ax oth))) 0:=by
        show(match putN (M.map λq=>(ax q.1,q.2)) (ax oth) (ax r.1)with|some es=>_|none=>SO.bad)=_
        rw[Km c (@AT) cM.pos];rfl
       refine wp_seq ep (pI (vQ rfl rfl rfl (by rw[Pc];simp at hlen2;omega) (kY ⟨_,_,rfl,rfl,M++[(oth,ax r.1)],N++[oth],.fz (ax oth),?_,cM2,?_,?_,?_,?_,?_⟩)))
       .rw[PV];rfl
       .intro q hq;rw[PV];exact Qh _ (hL q hq)
       .intro q hq
        rw[PV]
        rcases Pz.mp hq with h|h
        .exact Qh _ (hN q h)
        .exact P5 _ (by simpa using h)
       .intro q hq
        rw[PV]at hq
        rcases Pz.mp hq with h|h
        .rcases hM q h with h|h|h
         .exact .inl h
         .exact .inr (.inl (Qh _ h))
         .exact .inr (.inr (h.more _))
        .exact .inr (.inl (P5 _ (by simpa using h)))
       .rw[P0,P0];simp;omega
       .intro q hq
        rw[PV]
        rcases tk q hq with h|h
        .exact Qh _ (hj q h)
        .exact P5 _ (by simp[h])
    .rintro env b ⟨rfl,M,N,s7,rfl,cM,hL,hN,hM,hz,hj⟩
     rw[Pc,Sk]at hj
     refine kY ⟨_,_,rfl,rfl,M,N,_,s7,rfl,cM,hL,hN,λq hq=>?_,hz⟩
     by_cases e:q=one
     .subst e;exact .inr (.inr hj)
     .refine (hM q hq).imp (λh=>⟨h.1,λz=>h.2 ?_⟩) id
      rw[QD,Pz]at z
      rcases z with z|z
      .exact z
      .rw[show F[i]? =some one from by assumption]at z;simp at z;exact absurd z e
  .rintro env b ⟨rfl,M,N,s6,s7,rfl,cM,hL,hN,hM,hz⟩
   have hlen:=cM.len t
   rw[Pc,Sk]at hM
   refine pI (cg rfl (kY ⟨_,_,2*(65-M.length)+(if N= []then 0 else 1),rfl,?_,rfl,M,N,_,s6,s7,rfl,cM,hN,λq hq=>?_,@AT,Pd _⟩))
   .rw[Pg hE]at hk
    have hL1:=cm.len t
    by_cases hN0:N= []
    .subst hN0
     simp at hz ⊢
     omega
    .have:0<N.length:=List.length_pos_iff.mpr hN0
     rw[Pg hN0]
     omega
   .rcases hM q hq with h|h|h
    .exact absurd h.1 h.2
    .exact .inl h
    .exact .inr h
 .rintro env b ⟨L,s4,s5,s6,s7,rfl,cm,hD⟩
  exact⟨L,true,rfl,cm,hD⟩
section
variable {m m':SF}{env:En}{β β1:Int}{Q:SO->Prop}{L:List Nat}
def HP{t:Tg}(I:Nat->En->Int->Prop)(hi:fi (vl env) β=.ok ds β1)(h0:I 0 (a8 L env) β1)
  (hs:∀i d env β,ds[i]? =some d->I i env β->∃env1,hJ t d env=some env1/\WP (m env1 β) λs=>(∃v b β2,s=.rt v b β2/\Q s)\/∃env2 β2,s=.nx env2 β2/\I (i+1) env2 β2)
  (k:∀env β,I ds.length env β->WP (m' env β) Q):WP (aF (dg t L fi m) m' env β) Q:=by
 have key:∀(k i:Nat),i+k=ds.length->∀env β,I i env β->(∃v b β2,nE t m (ds.drop i) env β=.rt v b β2/\Q (.rt v b β2))\/∃env2 β2,nE t m (ds.drop i) env β=.nx env2 β2/\I ds.length env2 β2:=by
  intro k
  induction k with
  |zero=>
   intro i hik env β h
   have:i=ds.length:=@AT
   subst this
   exact .inr ⟨env,β,by rw[List.drop_length];rfl,h⟩
  |succ k ih=>
   intro i hik env β h
   have hlt:i<ds.length:=@AT
   let⟨env1,e1,⟨h1⟩⟩:=hs i ds[i] env β (O9 hlt) h
   rw[Sv hlt]
   rcases h1 with⟨v,b,β2,e2,q⟩|⟨env2,β2,e2,h2⟩
   .refine .inl ⟨v,b,β2,?_,e2▸q⟩
    unfold nE;rw[e1];dsimp only;rw[e2]
   .have e3:nE t m (ds[i]::ds.drop (i+1)) env β=nE t m (ds.drop (i+1)) env2 β2:=by conv=>lhs;unfold nE;rw[e1];dsimp only;rw[e2]
    rw[e3]
    exact ih (i+1) (@AT) env2 β2 h2
 rcases key ds.length 0 (@AT) _ _ h0 with⟨v,b,β2,e,q⟩|⟨env2,β2,e,h⟩
 .rw[drop_zero]at e
  refine Hi ⟨?_,?_⟩
  .intro a c z
   rw[dv hi,e]at z;cases z
  .rw[dv hi,e];exact q
 .rw[drop_zero]at e
  exact wp_seq ((dv hi).trans e) (k _ _ h)
end
section
variable {n:Nat}{T:List Pr}{p:Pr}{L:List (Pr×D)}
def Cm.cl(t:Tb n T)(c:Cm T p L)(hD:∀q,q∈L.map (·.1)->Dn T L q)(q:Pr):q∈L.map (·.1)↔TR.Cl (ET T) p q:=by
 have hpT:p∈T:=c.tr _ (Pn c.fst)
 constructor
 .intro h
  obtain⟨i,r,hi,rfl⟩:=zD h
  have key:∀(k i:Nat) (r:Pr×D),i<=k->L[i]? =some r->TR.Cl (ET T) p r.1:=by
   intro k
   induction k with
   |zero=>
    intro i r hk hi
    have:i=0:=@AT
    subst this
    rw[c.fst]at hi;cases hi
    exact .refl hpT
   |succ k ih=>
    intro i r hk hi
    cases i with
    |zero=>rw[c.fst]at hi;cases hi;exact .refl hpT
    |succ i=>
     let⟨j,s,hj,hs,_,hd⟩:=c.bk (i+1) r (@AT) hi
     exact .step (ih j s (@AT) hs) (IM (c.tr _ (Pn hs)) hd)
  exact key i i r (Pd _) hi
 .intro h
  induction h with
  |refl _=>exact Pj.mpr ⟨_,Pn c.fst,rfl⟩
  |step _ f ih=>
   rcases L3 f with e|e
   .rw[e];exact ih
   .exact hD _ ih _ e
end
theorem IQ:∀{L:List (Pr×D)} {i:Nat} {q:Pr×D},(L.map (·.1)).Nodup->L[i]? =some q->yB L q.1=some q.2
 | [],i,q,_,e=>by simp at e
 |x::L,0,q,_,e=>by simp at e;subst e;simp[yB]
 |x::L,i+1,q,nd,e=>by
  rw[PL,P6]at nd
  have e:L[i]? =some q:=by simpa using e
  have hne:x.1≠q.1:=λz=>nd.1 (Pj.mpr ⟨q,Pn e,z.symm⟩)
  have:=IQ nd.2 e
  unfold yB at this ⊢
  rw[Rl,Px hne];exact this
structure IG(T:List Pr)(p q:Pr)(ps:List Pr):Prop where
 st:ps[0]? =some p
 en:ps[ps.length-1]? =some q
 tr:∀x,x∈ps->x∈T
 go:∀(i:Nat) a b,ps[i]? =some a->ps[i+1]? =some b->b∈sL T a
def NA:List D->FR:=a9 3 2 mh
def Hu{R:List Pr}:lX ((R++[a]).map ax) (-1)=some (ax a):=by
 rw[iq]
 have e:lX (R++[a]) (-1)=(R++[a])[R.length]?:=by
  unfold lX wW
  rw[Pg (@AT),Pe (by simp;omega),show(-1+((R++[a]).length:Int)).toNat=R.length by simp;omega];rfl
 rw[e]
 simp
def K4{n:Nat}{T:List Pr}{p q:Pr}{L:List (Pr×D)}(t:Tb n T)(c:Cm T p L)(hq:q∈L.map (·.1)):∃ps:List Pr,NA [cO L,ax q]=.ok (.list (ps.map ax)) true/\IG T p q ps/\ps.length<=64:=by
 have hL:=c.len t
 obtain⟨i0,q0,hi0,rfl⟩:=zD hq
 have hi0l:=(Pw.mp hi0).1
 suffices h:WP (mh [.fz (cO L),.fz (ax q0.1),.no] 0) λr=>∃ps:List Pr,fin r=.ok (.list (ps.map ax)) true/\IG T p q0.1 ps/\ps.length<=64 from h.out
 unfold mh
 refine mC (lp (ac rfl an)) (wp_at [.fz (cO L),.fz (ax q0.1),.ow (.list (([]++[q0.1]).map ax))] rfl ?_)
 refine rY (λk env b=>b=0/\∃(r:Pr×D) (R:List Pr),env= [.fz (cO L),.fz (ax q0.1),.ow (.list ((R++[r.1]).map ax))]/\L[k]? =some r/\R.length+k<=63/\(∀x,x∈R++[r.1]->x∈T)/\(R++[r.1])[0]? =some q0.1/\∀(i:Nat) a b,(R++[r.1])[i]? =some a->(R++[r.1])[i+1]? =some b->a∈sL T b)
  (λenv b=>b=0/\∃R:List Pr,env= [.fz (cO L),.fz (ax q0.1),.ow (.list ((R++[p]).map ax))]/\R.length<=63/\(∀x,x∈R++[p]->x∈T)/\(R++[p])[0]? =some q0.1/\∀(i:Nat) a b,(R++[p])[i]? =some a->(R++[p])[i+1]? =some b->a∈sL T b) i0 (@AT)
  ⟨rfl,q0,[],rfl,hi0,by simp;omega,λx hx=>by simp at hx;subst hx;exact c.tr _ (Pn hi0),rfl,λi a b h1 h2=>by simp at h2⟩ ?_ ?_
 .rintro k env b ⟨rfl,r,R,rfl,hr,hz,hT,h0,hg⟩
  have hget:f2 (gv 0) (f2 (gv 2) (f1 (cst (.int 1)) BK) cT) pO (vl [.fz (cO L),.fz (ax q0.1),.ow (.list ((R++[r.1]).map ax))]) 0=.ok r.2 0:=aK rfl (aK rfl rfl Hu) (by rw[DV];exact IQ c.nd hr)
  have tn:tN (f2 (gv 0) (f2 (gv 2) (f1 (cst (.int 1)) BK) cT) pO) true (vl [.fz (cO L),.fz (ax q0.1),.ow (.list ((R++[r.1]).map ax))]) 0=.ok (!xy r.2) 0:=by rw[Jf,hget];rfl
  refine⟨_,_,tn,?_⟩
  cases k with
  |zero=>
   rw[c.fst]at hr
   cases hr
   exact .inl ⟨rfl,rfl,R,rfl,@AT,hT,h0,hg⟩
  |succ k=>
   let⟨j,s,hj,hs,e,hd⟩:=c.bk (k+1) r (@AT) hr
   rw[e]at hget ⊢
   refine .inr ⟨rfl,?_⟩
   refine pI (vQ rfl hget rfl (by rw[Pc,P0];simp;omega) (kY ⟨_,_,j,rfl,@AT,rfl,s,R++[r.1],?_,hs,by rw[P0];simp;omega,λx hx=>?_,?_,λi a b h1 h2=>?_⟩))
   .rw[PV (l₁:=R++[r.1])];rfl
   .rcases Pz.mp hx with h|h
    .exact hT x h
    .simp at h;subst h;exact c.tr _ (Pn hs)
   .rw[PJ (by simp)];exact h0
   .have hb:=(Pw.mp h2).1
    rw[P0]at hb
    by_cases z:i+1<(R++[r.1]).length
    .rw[PJ z]at h2
     rw[PJ (@AT)]at h1
     exact hg i a b h1 h2
    .have hi:i+1=(R++[r.1]).length:=by simp at hb z ⊢;omega
     rw[P7 (@AT)]at h2
     rw[hi]at h2
     simp at h2
     rw[PJ (@AT),P7 (by simp at hi;omega)]at h1
     have:i-R.length=0:=by simp at hi;omega
     rw[this]at h1
     simp at h1
     subst h1 h2
     exact hd
 .rintro env b ⟨rfl,R,rfl,hz,hT,h0,hg⟩
  have hl:(R++[p]).length=R.length+1:=by simp
  refine qk (b9 rfl (by show some (PyData.list ((R++[p]).map ax).reverse)=_;rw[List.map_reverse])) ⟨(R++[p]).reverse,rfl,⟨by simp,?_,λx hx=>hT x (List.mem_reverse.mp hx),λi a b h1 h2=>?_⟩,by rw[Ss];omega⟩
  .rw[List.getElem?_reverse (by rw[Ss];omega),Ss]
   rw[show(R++[p]).length-1-((R++[p]).length-1)=0 by omega];exact h0
  .have l2:=(Pw.mp h2).1
   rw[Ss]at l2
   rw[List.getElem?_reverse (@AT)]at h1 h2
   refine hg ((R++[p]).length-1-(i+1)) b a h2 ?_
   rw[show(R++[p]).length-1-(i+1)+1=(R++[p]).length-1-i by omega];exact h1
def ux(acc:List (Pr×D))(p:Pr)(d:D):(oK acc p d).map (·.1)=if p∈acc.map (·.1)then acc.map (·.1)else acc.map (·.1)++[p]:=by
 unfold oK
 by_cases c:p∈acc.map (·.1)
 .rw[Pe,Pe c,P8]
  .refine Qu λx _=>?_
   show(if x.1=p then(x.1,d)else x).1=x.1
   split<;>rfl
  .let⟨x,hx,e⟩:=Pj.mp c
   exact List.any_eq_true.mpr ⟨x,hx,Pu e⟩
 .rw[Pg,Pg c,PV]
  .rfl
  .rw[List.any_eq_true]
   rintro⟨x,hx,e⟩
   exact c (Pj.mpr ⟨x,hx,QE e⟩)
abbrev rZ(S C:List (Pr×D)):List (Pr×D):=C.foldl (λa x=>oK a x.1 x.2) S
theorem me:∀{C S:List (Pr×D)},q∈(rZ S C).map (·.1)↔q∈S.map (·.1)\/q∈C.map (·.1)
 | [],S=>by simp
 |x::C,S=>by
  show q∈(rZ (oK S x.1 x.2) C).map (·.1)↔_
  rw[me,ux,PL,Pf]
  split
  ·rename_i h
   constructor
   ·rintro(z|z)
    ·exact .inl z
    ·exact .inr (.inr z)
   ·rintro(z|rfl|z)
    ·exact .inl z
    ·exact .inl h
    ·exact .inr z
  ·rw[Pz,PU,or_assoc]
theorem zi:∀{C S:List (Pr×D)},(S.map (·.1)).Nodup->((rZ S C).map (·.1)).Nodup
 | [],S,h=>h
 |x::C,S,h=>by
  refine zi (C:=C) ?_
  rw[ux]
  split
  ·exact h
  ·rename_i hn
   rw[QI]
   exact⟨h,by simp,λa ha b hb e=>hn (by simp at hb;rw[<-hb,<-e];exact ha)⟩
def Ao(hC:∀q,q∈C.map (·.1)->(0<=q.1/\q.1<8)/\(0<=q.2/\q.2<8))(h0:C≠ [])(hz:S.length+C.length<1000):wb (S.map λq=>(ax q.1,q.2)) (cO C)=some ((rZ S C).map λq=>(ax q.1,q.2)):=by
 have ha:(C.all λx=>IS x.1)=true:=Qi.mpr λx hx=>by
  have:=hC x.1 (Pj.mpr ⟨x,hx,rfl⟩)
  unfold IS
  simp only[PF,PB]
  exact⟨⟨this.1.1,this.1.2⟩,this.2.1,this.2.2⟩
 unfold cO wb
 dsimp only
 rw[nu,nu]
 dsimp only
 rw[Pe ⟨ha,h0,hz⟩];rfl
section
variable {n:Nat}{T:List Pr}{p:Pr}{L:List (Pr×D)}
def Cm.sm(t:Tb n T)(c:Cm T p L)(q:Pr)(hq:q∈L.map (·.1)):(0<=q.1/\q.1<8)/\(0<=q.2/\q.2<8):=by
 obtain⟨r,hr,rfl⟩:=Pj.mp hq
 have:=t.rg _ (c.tr r hr)
 have h8:=t.hi
 omega
def Cm.ne(c:Cm T p L):L≠ []:=List.length_pos_iff.mp c.pos
end
noncomputable def Na:List D->FR:=a9 5 2 (jv Dp Kb NA)
def Nn(T:List Pr):Prop:=∀q,q∈T->¬TR.Cl (ET T) q (q.2,q.1)
abbrev ke(n:Nat)(T:List Pr)(s2 s3 s4:Sl):En:=[.fz (dB T),.fz (.int n),s2,s3,s4]
def Oe{n:Nat}{T:List Pr}(t:Tb n T):(∃(p:Pr) (ps:List Pr),Na [dB T,.int n]=.ok (.list (ps.map ax)) false/\IG T p (p.2,p.1) ps/\ps.length<=64)\/(Na [dB T,.int n]=.ok .none false/\Nn T):=by
 have h8:=t.hi
 suffices h:WP (jv Dp Kb NA [.fz (dB T),.fz (.int n),.no,.no,.no] 0) λr=>(∃(p:Pr) (ps:List Pr),fin r=.ok (.list (ps.map ax)) false/\IG T p (p.2,p.1) ps/\ps.length<=64)\/(fin r=.ok .none false/\Nn T)from h.out
 unfold jv
 refine mC rfl (wp_at (ke n T (.ow (cO [])) .no .no) rfl (HP (ds:=T.map ax) (λi env b=>b=0/\∃(S:List (Pr×D)) (s3 s4:Sl),env=ke n T (.ow (cO S)) s3 s4/\(S.map (·.1)).Nodup/\(∀q,q∈S.map (·.1)->q∈T/\¬TR.Cl (ET T) q (q.2,q.1))/\∀q,q∈T.take i->q∈S.map (·.1)) (β1:=0) ?_ ?_ ?_ ?_))
 .have:=vL (fa:=gv 0) (vs:=vl (ke n T (.ow (cO [])) .no .no)) (β1:=0) rfl
  rw[nY]at this;exact this
 .exact⟨rfl,[],.no,.no,rfl,by simp,(λq hq=>by cases hq),λq hq=>by simp at hq⟩
 .rintro i d env b hd ⟨rfl,S,s3,s4,rfl,nd,hS,hi⟩
  rw[Pt]at hd
  cases hq:T[i]? with
  |none=>rw[hq]at hd;cases hd
  |some p=>
   rw[hq]at hd;cases hd
   have hp:p∈T:=Pn hq
   have tk:∀q,q∈T.take (i+1)->q∈T.take i\/q=p:=λq h=>by
    rw[QD,hq]at h
    rcases Pz.mp h with h|h
    .exact .inl h
    .exact .inr (by simpa using h)
   have hSl:S.length<=64:=by
    have:=oQ nd λx hx=>(hS x hx).1
    rw[Pc]at this
    exact Qp this t.len
   refine⟨ke n T (.ow (cO S)) (.fz (ax p)) s4,rfl,?_⟩
   have t1:=du _ _ _ _ (aK (fa:=gv 3) (fb:=gv 2) (vs:=vl (ke n T (.ow (cO S)) (.fz (ax p)) s4)) (β2:=0) rfl rfl (mG true p S))
   by_cases c:p∈S.map (·.1)
   .rw[Pu c]at t1
    exact xU t1 (kY (.inr ⟨_,_,rfl,rfl,S,_,_,rfl,nd,hS,λq h=>(tk q h).elim (hi q) λe=>e▸c⟩))
   rw[Px c]at t1
   refine JA t1 (wp_at (ke n T (.ow (cO S)) (.fz (ax p)) s4) rfl ?_)
   let⟨L,bb,eL,cm,hD⟩:=IX t hp
   have hcl:=cm.cl t hD
   refine cg (aC rfl eL) (wp_at (ke n T (.ow (cO S)) (.fz (ax p)) (.fz (cO L))) rfl ?_)
   have t2:=du _ _ _ _ (aK (fa:=az Kb (ab (gv 3) ag)) (fb:=gv 4) (vs:=vl (ke n T (.ow (cO S)) (.fz (ax p)) (.fz (cO L)))) (β2:=0) (aC rfl (Jt p)) rfl (mG false (p.2,p.1) L))
   by_cases c2:(p.2,p.1)∈L.map (·.1)
   .rw[Pu c2]at t2
    let⟨ps,ep,hps,hl⟩:=K4 t cm c2
    refine vn t2 (vc (aC (ac rfl (ac (aC rfl (Jt p)) an)) ep) (.inl ⟨_,_,_,rfl,.inl ⟨p,ps,rfl,hps,hl⟩⟩))
   .rw[Px c2]at t2
    refine mr t2 (wp_at (ke n T (.ow (cO S)) (.fz (ax p)) (.fz (cO L))) rfl ?_)
    have hLl:=cm.len t
    have eu:Cd 2 [4] (gv 4) (ke n T (.ow (cO S)) (.fz (ax p)) (.fz (cO L))) 0=.nx (ke n T (.ow (cO (rZ S L))) (.fz (ax p)) (.fz (cO L))) 0:=by
     show(match wb (S.map λq=>(ax q.1,q.2)) (cO L)with|some es=>_|none=>SO.bad)=_
     rw[Ao (cm.sm t) cm.ne (@AT)];rfl
    have no:∀q,TR.Cl (ET T) p q->¬TR.Cl (ET T) q (q.2,q.1):=λq h k=>c2 ((hcl _).mpr ((h.trans k).trans ((h.rev t.gr).symm t.gr)))
    refine⟨.inr ⟨_,_,eu,rfl,rZ S L,_,_,rfl,zi nd,λq h=>?_,λq h=>?_⟩⟩
    .rcases me.mp h with h|h
     .exact hS q h
     .obtain⟨r,hr,rfl⟩:=Pj.mp h
      exact⟨cm.tr r hr,no _ ((hcl _).mp h)⟩
    .rcases tk q h with h|rfl
     .exact me.mpr (.inl (hi q h))
     .exact me.mpr (.inr ((hcl _).mpr (.refl hp)))
 .rintro env b ⟨rfl,S,s3,s4,rfl,nd,hS,hi⟩
  rw[Pc,Sk]at hi
  exact pe rfl (.inr ⟨rfl,λq h=>(hS q (hi q h)).2⟩)
noncomputable def Oq:List D->FR:=a9 5 2 (fK Dp Kb)
abbrev ce(n:Nat)(T:List Pr)(s2 s3 s4:Sl):En:=[.fz (dB T),.fz (.int n),s2,s3,s4]
def kp(C:List (Pr×D))(q:Pr):Bool:= !decide (q∈C.map (·.1)) && !decide ((q.2,q.1)∈C.map (·.1))
def An:kp C q=true↔q∉C.map (·.1)/\(q.2,q.1)∉C.map (·.1):=by
 unfold kp
 rw[PF,QW,QW,Qw,Qw]
def GU(t:Tb n U):Tb n (U.filter (kp C)):=by
 refine⟨t.lo,t.hi,OM.cD _ t.ris,λp h=>t.rg p (Pp.mp h).1,λa b h=>?_,λa h=>t.irr a (Pp.mp h).1⟩
 let⟨h1,h2⟩:=Pp.mp h
 rw[An]at h2
 exact Pp.mpr ⟨t.sym a b h1,An.mpr ⟨h2.2,h2.1⟩⟩
def N0(t:Tb n T):∃(S:List (Pr×D)) (b:Bool),Oq [dB T,.int n]=.ok (cO S) b/\(S.map (·.1)).Nodup/\(∀q,q∈S.map (·.1)->q∈T)/\TR.Gj (ET T) λa b=>(a,b)∈S.map (·.1):=by
 have h8:=t.hi
 suffices h:WP (fK Dp Kb [.fz (dB T),.fz (.int n),.no,.no,.no] 0) λr=>∃(S:List (Pr×D)) (b:Bool),fin r=.ok (cO S) b/\(S.map (·.1)).Nodup/\(∀q,q∈S.map (·.1)->q∈T)/\TR.Gj (ET T) λa b=>(a,b)∈S.map (·.1)from h.out
 unfold fK
 refine mC rfl (wp_at (ce n T (.ow (cO [])) .no .no) rfl (cg rfl (wp_at (ce n T (.ow (cO [])) (.fz (dB T)) .no) rfl ?_)))
 refine rY (λk env b=>b=0/\∃(S:List (Pr×D)) (U:List Pr) (s4:Sl),env=ce n T (.ow (cO S)) (.fz (dB U)) s4/\Tb n U/\(S.map (·.1)).Nodup/\(∀q,q∈S.map (·.1)->q∈T)/\(∀q,q∈U->q∈T)/\(∀X,TR.Gj (ET U) X->TR.Gj (ET T) λa b=>(a,b)∈S.map (·.1)\/X a b)/\U.length<=k)
  (λenv b=>∃(S:List (Pr×D)) (s3 s4:Sl),env=ce n T (.ow (cO S)) s3 s4/\(S.map (·.1)).Nodup/\(∀q,q∈S.map (·.1)->q∈T)/\TR.Gj (ET T) λa b=>(a,b)∈S.map (·.1)) 64 (@AT)
  ⟨rfl,[],T,.no,rfl,t,by simp,(λq h=>by cases h),λq h=>h,λX h=>by simpa using h,t.len⟩ ?_ ?_
 .rintro k env b ⟨rfl,S,U,s4,rfl,tU,nd,hS,hU,hc,hk⟩
  have tt:=HF (fa:=gv 3) (vs:=vl (ce n T (.ow (cO S)) (.fz (dB U)) s4)) (β1:=0) rfl
  refine⟨_,_,tt,?_⟩
  cases hE:U with
  |nil=>
   subst hE
   refine .inl ⟨rfl,S,_,_,rfl,nd,hS,?_⟩
   have:=hc _ (.nil λa b h=>by cases h)
   simpa using this
  |cons p V=>
   rw[<-hE]
   have hp:p∈U:=by rw[hE];exact Pq ..
   refine .inr ⟨by rw[hE];rfl,?_⟩
   let⟨L,bb,eL,cm,hD⟩:=IX tU hp
   have hcl:=cm.cl tU hD
   have hLl:=cm.len tU
   have hSl:S.length<=64:=by
    have:=oQ nd λx hx=>hS x hx
    rw[Pc]at this
    exact Qp this t.len
   have e0:f2 (f1 (gv 3) M7) (cst (.int 0)) cT (vl (ce n T (.ow (cO S)) (.fz (dB U)) s4)) 0=.ok (ax p) 0:=by
    refine aK (x:=.list (U.map ax)) (b9 rfl ?_) rfl ?_
    .have:=Kc (Lp U)
     rw[nY]at this;exact this
    .show lX (U.map ax) ((0:Nat):Int)=_
     rw[iq,qg (by rw[hE];rfl)];rfl
   refine cg (aC (ac rfl (ac rfl (ac e0 an))) eL) (wp_at (ce n T (.ow (cO S)) (.fz (dB U)) (.fz (cO L))) rfl ?_)
   have eu:Cd 2 [4] (gv 4) (ce n T (.ow (cO S)) (.fz (dB U)) (.fz (cO L))) 0=.nx (ce n T (.ow (cO (rZ S L))) (.fz (dB U)) (.fz (cO L))) 0:=by
    show(match wb (S.map λq=>(ax q.1,q.2)) (cO L)with|some es=>_|none=>SO.bad)=_
    rw[Ao (cm.sm tU) cm.ne (@AT)];rfl
   refine wp_seq eu ?_
   have tU2:=GU (C:=L) tU
   have hUl:=tU.len
   have ec:f1 (aM 1 [4] (.nm 0) (Gx (gv 3)) (AE (df (f2 (gv 0) (gv 1) (mR true))) (df (f2 (az Kb (ab (gv 0) ag)) (gv 1) (mR true)))) (bt (ab (gv 0) (ab (cst (.bool true)) ag)))) rk (vl (ce n T (.ow (cO (rZ S L))) (.fz (dB U)) (.fz (cO L)))) 0=.ok (dB (U.filter (kp L))) 0:=by
    refine b9 (b7 (kp L) (λp=>PyData.tuple [ax p,.bool true]) ?_ (@AT) λq hq=>⟨[.da (ax q),.da (cO L)],rfl,?_,λ_=>tp rfl⟩) (yr tU2.nd)
    .have:=vL (fa:=gv 3) (vs:=vl (ce n T (.ow (cO (rZ S L))) (.fz (dB U)) (.fz (cO L)))) (β1:=0) rfl
     rw[nY]at this;exact this
    .exact vV (du _ _ _ _ (aK rfl rfl (mG true q L))) (du _ _ _ _ (aK (aC rfl (Jt q)) rfl (mG true (q.2,q.1) L)))
   refine pI (cg ec (kY ⟨_,_,(U.filter (kp L)).length,rfl,?_,rfl,rZ S L,U.filter (kp L),.fz (cO L),rfl,tU2,zi nd,λq h=>?_,λq h=>hU q (Pp.mp h).1,λX hX=>?_,Pd _⟩))
   .have:(U.filter (kp L)).length<U.length:=by
     have h1:¬kp L p=true:=λz=>(An.mp z).1 ((hcl p).mpr (.refl hp))
     have h2:=Qs (kp L) V
     rw[hE,List.filter_cons,Pg h1,PR]
     omega
    omega
   .rcases me.mp h with h|h
    .exact hS q h
    .obtain⟨r,hr,rfl⟩:=Pj.mp h
     exact hU _ (cm.tr r hr)
   .have eE:ET (U.filter (kp L))=TR.k9 (ET U) p:=by
     funext a b
     apply propext
     show(a,b)∈U.filter (kp L)↔_
     rw[Pp,An,hcl,hcl];rfl
    rw[eE]at hX
    have h2:=hc _ (.more hp hX)
    have e2:(λa b=>(a,b)∈(rZ S L).map (·.1)\/X a b)=λa b=>(a,b)∈S.map (·.1)\/TR.Cl (ET U) p (a,b)\/X a b:=by
     funext a b
     apply propext
     rw[me,hcl,or_assoc]
    rw[e2];exact h2
 .rintro env b ⟨S,s3,s4,rfl,nd,hS,hC⟩
  exact⟨S,true,rfl,nd,hS,hC⟩
def ext(n:Nat)(l:List Pr)(r:List Int):List (List Int):=(Mq l r n).map λx=>r++[x]
def lvl(n:Nat)(l:List Pr):Nat->List (List Int)
 | 0=>[[]]
 |k+1=>(lvl n l k).flatMap (ext n l)
def GV(h:q∈ext n l r):∃x,x∈Mq l r n/\q=r++[x]:=let⟨x,h1,h2⟩:=Pj.mp h;⟨x,h1,h2.symm⟩
theorem qA:∀{k:Nat} {r:List Int},r∈lvl n l k->FJ n l r/\r.length=k
 | 0,r,h=>by
  rw[lvl,PU]at h
  subst h
  exact⟨⟨Rw,(λx hx=>by cases hx),(λp _ h=>by cases h)⟩,rfl⟩
 |k+1,r,h=>by
  rw[lvl,List.mem_flatMap]at h
  obtain⟨q,hq,hr⟩:=h
  obtain⟨x,hx,rfl⟩:=GV hr
  let⟨B,hk⟩:=qA hq
  exact⟨B.more (aG.mp (Pp.mp hx).1) (Pp.mp hx).2,by rw[P0,hk];rfl⟩
theorem Fi(O:OM.Ord n l):∀k,k<=n->lvl n l k≠ []
 | 0,_=>by rw[lvl];simp
 |k+1,hk=>by
  have h:=Fi O k (@AT)
  cases e:lvl n l k with
  |nil=>exact absurd e h
  |cons r L=>
   have hr:r∈lvl n l k:=by rw[e];exact Pq ..
   let⟨B,hb⟩:=qA hr
   have f:=B.free O (@AT)
   intro z
   rw[lvl,e,List.flatMap_cons,List.append_eq_nil_iff]at z
   exact f (List.map_eq_nil_iff.mp z.1)
def Ig(O:OM.Ord n l)(h:r∈lvl n l n):Row n l r:=(qA h).1.row O (by rw[(qA h).2];exact Pd _)
def jl(r q:List Int)(n:Nat):List Pr:=(ba n).map λt=>(((r.idxOf t:Nat):Int),((q.idxOf t:Nat):Int))
section
variable {n:Nat}{r q:List Int}{l:List Pr}
def AK:(jl r q n).length=n:=by unfold jl;rw[Pc,bf]
def ED:ba n=(List.range n).map λ(k:Nat)=>(k:Int):=by
 have:=jS n
 unfold cI at this
 refine List.map_inj_right (λa b h=>int.inj h) |>.mp ?_
 rw[<-this,P8]
 refine Qu λk _=>?_
 rw[QK];rfl
def Ba(h:r.Perm (ba n)):JM r=(ba n).map λt=>((r.idxOf t:Nat):Int):=by
 have hl:=h.length_eq
 rw[bf]at hl
 unfold JM
 rw[hl,ED,P8];rfl
def sk(h:r.Perm (ba n))(ht:t∈ba n):(r.idxOf t:Nat)<n:=by
 have h1:=QB.mpr (h.mem_iff.mpr ht)
 have hl:=h.length_eq
 rw[bf]at hl
 omega
def DR(h:r.Perm (ba n))(ht:t∈ba n):r[r.idxOf t]? =some t:=by
 have h1:=QB.mpr (h.mem_iff.mpr ht)
 rw[O9 h1,R6 h1]
def i7(h:r.Perm (ba n))(ha:a∈ba n)(hb:b∈ba n)(e:r.idxOf a=r.idxOf b):a=b:=by
 have h1:=DR h ha
 rw[e,DR h hb]at h1
 exact(Option.some.inj h1).symm
def rO(h:r.Perm (ba n)):((ba n).map λt=>((r.idxOf t:Nat):Int)).Perm (ba n):=by
 refine xX (by rw[Pc,bf]) (λx hx=>?_) ?_
 .obtain⟨t,ht,rfl⟩:=Pj.mp hx
  have:=sk h ht
  omega
 .refine Qj.mpr (QA (λ{a b} ha hb hne e=>hne (i7 h ha hb (@AT))) (cj n))
def qt(h:r.Perm (ba n)):JM ((ba n).map λt=>((r.idxOf t:Nat):Int))=r:=by
 have hp:=rO h
 have hl:=h.length_eq
 rw[bf]at hl
 unfold JM
 rw[Pc,bf]
 refine RK λk=>?_
 rw[Pt]
 by_cases c:k<n
 .rw[Ru c]
  have hk:(k:Int)∈ba n:=aG.mpr ⟨@AT,@AT ⟩
  obtain⟨t,ht⟩:∃t,r[k]? =some t:=⟨r[k]'(@AT),O9 (@AT)⟩
  have htr:t∈r:=Pn ht
  have htm:=h.mem_iff.mp htr
  have ei:r.idxOf t=k:=by
   have nd:r.Nodup:=h.nodup_iff.mpr (cj n)
   let⟨h1,h2⟩:=Pw.mp ht
   rw[<-h2];exact SH nd k h1
  have hat:((ba n).map λt=>((r.idxOf t:Nat):Int))[t.toNat]? =some (k:Int):=by
   have hb:=aG.mp htm
   rw[Pt,ED,Pt,Ru (@AT)]
   show some (((r.idxOf ((t.toNat:Nat):Int):Nat):Int))=_
   rw[show((t.toNat:Nat):Int)=t by omega,ei]
  have nd2:=hp.nodup_iff.mpr (cj n)
  let⟨h1,h2⟩:=Pw.mp hat
  have:((ba n).map λt=>((r.idxOf t:Nat):Int)).idxOf (k:Int)=t.toNat:=by
   rw[<-h2];exact SH nd2 _ h1
  show some (((((ba n).map λt=>((r.idxOf t:Nat):Int)).idxOf (k:Int):Nat):Int))=r[k]?
  rw[this,ht,show((t.toNat:Nat):Int)=t by have:=(aG.mp htm).1;omega]
 .rw[Qq (by rw[Q7];omega),Qq (@AT)];rfl
end
noncomputable def Nr:List D->FR:=a9 1 1 (l8 Ni)
section
variable {n:Nat}{r q:List Int}
def Nk(h8:n<=8)(hr:r.Perm (ba n))(hq:q.Perm (ba n)):Nr [.list ((jl r q n).map ax)]=.ok (.list ([r,q].map tupI)) true:=by
 show fin (l8 Ni [.fz (.list ((jl r q n).map ax))] 0)=_
 unfold l8
 have c1:aM 2 [] (.two 0 1) (bV (gv 0)) kJ (gv 0) [.da (.list ((jl r q n).map ax))] 0=.ok (.list (((ba n).map λt=>((r.idxOf t:Nat):Int)).map int)) 0:=by
  rw[cG (λp=>int p.1) rfl (by rw[AK];omega) λp hp=>⟨[.da (.int p.1),.da (.int p.2)],rfl,rfl⟩]
  unfold jl;rw[P8,P8];rfl
 have c2:aM 2 [] (.two 0 1) (bV (gv 0)) kJ (gv 1) [.da (.list ((jl r q n).map ax))] 0=.ok (.list (((ba n).map λt=>((q.idxOf t:Nat):Int)).map int)) 0:=by
  rw[cG (λp=>int p.2) rfl (by rw[AK];omega) λp hp=>⟨[.da (.int p.1),.da (.int p.2)],rfl,rfl⟩]
  unfold jl;rw[P8,P8];rfl
 have p1:=IZ (d:=.list (((ba n).map λt=>((r.idxOf t:Nat):Int)).map int)) rfl rfl (@AT) (rO hr)
 have p2:=IZ (d:=.list (((ba n).map λt=>((q.idxOf t:Nat):Int)).map int)) rfl rfl (@AT) (rO hq)
 rw[qt hr]at p1
 rw[qt hq]at p2
 exact jC (qk (lp (ac (b9 (aC (ac c1 an) p1) rfl) (ac (b9 (aC (ac c2 an) p2) rfl) an))) rfl)
end
structure OQ(n:Nat)(R:Int->Int->Prop):Prop where
 irr:∀a,¬R a a
 tr:∀a b c,R a b->R b c->R a c
 tot:∀a b,a∈ba n->b∈ba n->a≠b->R a b\/R b a
 rg:∀a b,R a b->a∈ba n/\b∈ba n
def AV{n:Nat}{R:Int->Int->Prop}(h1:1<=n)(h8:n<=8)(t:OQ n R):∃r:List Int,r.Perm (ba n)/\∀a b,a∈ba n->b∈ba n->(R a b↔r.idxOf a<r.idxOf b):=by
 have O:OM.Ord n (OM.cy n R):=⟨h1,h8,OM.n9 _ _,OM.cC _ _,λa h=>t.irr a (OM.aN.mp h).2,λa b c h k=>OM.aN.mpr ⟨⟨(OM.aN.mp h).1.1,(OM.aN.mp k).1.2⟩,t.tr a b c (OM.aN.mp h).2 (OM.aN.mp k).2⟩⟩
 let⟨r,hr⟩:=List.exists_mem_of_ne_nil _ (Fi O n (Pd _))
 let⟨hp,hf⟩:=Ig O hr
 have fw:∀a b,R a b->r.idxOf a<r.idxOf b:=λa b h=>by
  let⟨ha,hb⟩:=t.rg a b h
  have:=Qi.mp hf (a,b) (OM.aN.mpr ⟨⟨aG.mp ha,aG.mp hb⟩,h⟩)
  exact QE this
 refine⟨r,hp,λa b ha hb=>⟨fw a b,λh=>?_⟩⟩
 by_cases e:a=b
 .subst e;omega
 .rcases t.tot a b ha hb e with z|z
  .exact z
  .have:=fw b a z;omega
theorem E7(k:Nat):∀n:Nat,((List.range n).filter λi=>decide (i<k)).length=min k n
 | 0=>by simp
 |n+1=>by
  rw[List.range_succ,List.filter_append,P0,E7 k n]
  by_cases c:n<k
  ·simp[c];omega
  ·simp[c];omega
def qx{n:Nat}{r:List Int}(hp:r.Perm (ba n))(hk:k<=n):((ba n).filter λb=>decide (r.idxOf b<k)).length=k:=by
 have nd:r.Nodup:=hp.nodup_iff.mpr (cj n)
 have hl:=hp.length_eq
 rw[bf]at hl
 rw[<-(hp.filter _).length_eq]
 have e:r=(List.range n).map λi=>r.getD i 0:=by
  refine RK λi=>?_
  rw[Pt]
  by_cases c:i<n
  .rw[Ru c,O9 (@AT)]
   show _=some (r.getD i 0)
   rw[PK,O9 (@AT)];rfl
  .rw[Qq (@AT),Qq (by simp;omega)];rfl
 have e2:(r.filter λb=>decide (r.idxOf b<k)).length=((List.range n).filter λi=>decide (i<k)).length:=by
  conv=>lhs;rw[show(r.filter λb=>decide (r.idxOf b<k))=((List.range n).map λi=>r.getD i 0).filter (λb=>decide (r.idxOf b<k)) by rw[<-e]]
  rw[List.filter_map,Pc]
  congr 1
  refine Q8 λi hi=>?_
  have hi:=PN.mp hi
  show decide (r.idxOf (r.getD i 0)<k)=_
  rw[PK,O9 (@AT)]
  show decide (r.idxOf r[i]<k)=_
  rw[SH nd i (@AT)]
 rw[e2,E7];omega
section
variable {n:Nat}{l K:List Pr}
abbrev Or(n:Nat)(l:List Pr)(P:Int->Int->Prop):Prop:=TR.OG (ET (kX n l)) P
def JO{P:Int->Int->Prop}(O:OM.Ord n l)(h:Or n l P):Or n l λa b=>P b a:=by
 have G:=(rn O).gr
 exact⟨λa b k=>G.sym _ _ (h.sub b a k),λa b k=>(h.one a b k).symm,λa b k=>h.anti b a k,λa b c k k'=>h.tr c b a k' k,λq r k f=>h.cl (q.2,q.1) (r.2,r.1) k (f.rev G)⟩
def lu(h:(a,b)∈l):¬ET (kX n l) a b/\¬ET (kX n l) b a:=by
 constructor<;>intro z<;>have:=(kq.mp z).2<;>unfold zO at this<;>simp[h]at this
def Fw(O:OM.Ord n l)(ha:a∈ba n)(hb:b∈ba n)(hne:a≠b)(h1:(a,b)∉l)(h2:(b,a)∉l):ET (kX n l) a b:=kq.mpr ⟨⟨aG.mp ha,aG.mp hb⟩,by unfold zO;simp[hne,h1,h2]⟩
def EG{P:Int->Int->Prop}(O:OM.Ord n l)(h:Or n l P):OQ n λa b=>(a,b)∈l\/P a b:=by
 have T:=rn O
 have rgl:∀{a b:Int},(a,b)∈l->a∈ba n/\b∈ba n:=λ{a b} z=>by have:=O.wn _ z;exact⟨aG.mpr this.1,aG.mpr this.2⟩
 have rgP:∀{a b:Int},P a b->a∈ba n/\b∈ba n:=λ{a b} z=>by have:=T.rg _ (h.sub a b z);exact⟨aG.mpr this.1,aG.mpr this.2⟩
 refine⟨λa z=>z.elim (O.irr a) λz=>T.irr a (h.sub a a z),λa b c z y=>?_,λa b ha hb hne=>?_,λa b z=>z.elim rgl rgP⟩
 .rcases z with z|z<;>rcases y with y|y
  .exact .inl (O.tr a b c z y)
  .by_cases k:(a,c)∈l
   .exact .inl k
   refine .inr (h.cl (b,c) (a,c) y ⟨h.sub b c y,Fw O (rgl z).1 (rgP y).2 (λe=>?_) k λe=>?_,.inr ⟨rfl,(lu z).2⟩⟩)
   .have e:a=c:=e
    subst e;exact(lu z).2 (h.sub _ _ y)
   .exact (lu (O.tr c a b e z)).2 (h.sub _ _ y)
  .by_cases k:(a,c)∈l
   .exact .inl k
   refine .inr (h.cl (a,b) (a,c) z ⟨h.sub a b z,Fw O (rgP z).1 (rgl y).2 (λe=>?_) k λe=>?_,.inl ⟨rfl,(lu y).1⟩⟩)
   .have e:a=c:=e
    subst e;exact(lu y).2 (h.sub _ _ z)
   .exact (lu (O.tr b c a y e)).2 (h.sub _ _ z)
  .exact .inr (h.tr a b c z y)
 .by_cases k1:(a,b)∈l
  .exact .inl (.inl k1)
  by_cases k2:(b,a)∈l
  .exact .inr (.inl k2)
  exact(h.one a b (Fw O ha hb hne k1 k2)).imp .inr .inr
def Ab{A B:List Int}{P:Int->Bool}(nA:A.Nodup)(nB:B.Nodup)(dis:∀x,x∈A->x∉B)(h:∀b,(b∈A\/b∈B)↔(b∈ba n/\P b=true)):A.length+B.length=((ba n).filter P).length:=by
 rw[<-P0]
 refine((List.perm_ext_iff_of_nodup ?_ ?_).mpr λb=>?_).length_eq
 .rw[QI];exact⟨nA,nB,λx hx y hy e=>dis x hx (e▸hy)⟩
 .exact (cj n).sublist Rt
 .rw[Pz,Pp,h b]
def yY{K:List Pr}(nd:K.Nodup)(a:Int):((K.filter λp=>decide (p.2=a)).map (·.1)).Nodup:=by
 refine vt (λx hx y hy e=>?_) (nd.sublist Rt)
 have h1:=QE (Pp.mp hx).2
 have h2:=QE (Pp.mp hy).2
 exact Prod.ext e (h1.trans h2.symm)
def Jv{K:List Pr}(nd:K.Nodup)(a:Int):((K.filter λp=>decide (p.1=a)).map (·.2)).Nodup:=by
 refine vt (λx hx y hy e=>?_) (nd.sublist Rt)
 have h1:=QE (Pp.mp hx).2
 have h2:=QE (Pp.mp hy).2
 exact Prod.ext (h1.trans h2.symm) e
def l9{K:List Pr}:b∈(K.filter λp=>decide (p.2=a)).map (·.1)↔(b,a)∈K:=by
 rw[Pj]
 constructor
 .rintro⟨p,hp,rfl⟩
  let⟨h1,h2⟩:=Pp.mp hp
  have h2:=QE h2
  rw[<-h2];exact h1
 .exact λh=>⟨(b,a),Pp.mpr ⟨h,by simp⟩,rfl⟩
def A6{K:List Pr}:b∈(K.filter λp=>decide (p.1=a)).map (·.2)↔(a,b)∈K:=by
 rw[Pj]
 constructor
 .rintro⟨p,hp,rfl⟩
  let⟨h1,h2⟩:=Pp.mp hp
  have h2:=QE h2
  rw[<-h2];exact h1
 .exact λh=>⟨(a,b),Pp.mpr ⟨h,by simp⟩,rfl⟩
def xN(l K:List Pr)(a:Int):Nat:=(l.filter λp=>decide (p.2=a)).length+(K.filter λp=>decide (p.2=a)).length
def yN(l K:List Pr)(a:Int):Nat:=(l.filter λp=>decide (p.2=a)).length+(K.filter λp=>decide (p.1=a)).length
def GC(O:OM.Ord n l)(nd:K.Nodup)(h:Or n l λa b=>(a,b)∈K):∃r q:List Int,r.Perm (ba n)/\q.Perm (ba n)/\(OM.bF n).filter (uS [r,q])=l/\∀a,a∈ba n->xN l K a=r.idxOf a/\yN l K a=q.idxOf a:=by
 have T:=rn O
 have t1:=EG O h
 have t2:=EG O (JO O h)
 let⟨r,hr,er⟩:=AV O.lo O.hi t1
 let⟨q,hq,eq⟩:=AV O.lo O.hi t2
 have ndl:l.Nodup:=OM.dS O.ris
 refine⟨r,q,hr,hq,?_,λa ha=>⟨?_,?_⟩⟩
 .refine OM.fo (OM.cD _ (OM.fL n)) O.ris λp=>?_
  let⟨a,b⟩:=p
  rw[Pp,OM.bh]
  unfold uS
  simp only[Sn,List.all_nil,Bool.and_true,PF,PB]
  constructor
  .rintro⟨hg,k1,k2⟩
   have ha:=aG.mpr hg.1
   have hb:=aG.mpr hg.2
   rcases(er a b ha hb).mpr k1 with z|z
   .exact z
   .rcases (eq a b ha hb).mpr k2 with y|y
    .exact y
    .exact (h.anti a b z y).elim
  .intro z
   have hg:=O.wn _ z
   exact⟨hg,(er a b (aG.mpr hg.1) (aG.mpr hg.2)).mp (.inl z),(eq a b (aG.mpr hg.1) (aG.mpr hg.2)).mp (.inl z)⟩
 .have ec:=Ab (P:=λb=>decide (r.idxOf b<r.idxOf a)) (yY ndl a) (yY nd a) (λx h1 h2=>(lu (l9.mp h1)).1 (h.sub _ _ (l9.mp h2))) λb=>by
   rw[l9,l9,PB]
   constructor
   .intro z
    have hb:=(t1.rg b a z).1
    exact⟨hb,(er b a hb ha).mp z⟩
   .exact λz=>(er b a z.1 ha).mpr z.2
  rw[Pc,Pc,qx hr (QY (sk hr ha))]at ec
  exact ec
 .have ec:=Ab (P:=λb=>decide (q.idxOf b<q.idxOf a)) (yY ndl a) (Jv nd a) (λx h1 h2=>(lu (l9.mp h1)).2 (h.sub _ _ (A6.mp h2))) λb=>by
   rw[l9,A6,PB]
   constructor
   .intro z
    have hb:=(t2.rg b a z).1
    exact⟨hb,(eq b a hb ha).mp z⟩
   .exact λz=>(eq b a z.1 ha).mpr z.2
  rw[Pc,Pc,qx hq (QY (sk hq ha))]at ec
  exact ec
end
def Od:List D->FR:=a9 7 2 lT
def NU{n:Nat}{l:List Pr}(O:OM.Ord n l)(hS:S.length<=64):Od [aE n l,cO S]=.ok (.list (((ba n).map λa=>((xN l (S.map (·.1)) a:Int),(yN l (S.map (·.1)) a:Int))).map ax)) true:=by
 have h8:=O.hi
 have hl:l.length<=64:=Dk h8 (OM.dS O.ris) O.wn
 refine jC ?_
 unfold lT
 refine mC (lp an) (wp_at [.fz (aE n l),.fz (cO S),.ow (.list ((((ba n).take 0).map λa=>((xN l (S.map (·.1)) a:Int),(yN l (S.map (·.1)) a:Int))).map ax)),.no,.no,.no,.no] rfl ?_)
 refine rR (ds:=(ba n).map int) (λi env b=>b=0/\∃s3 s4 s5 s6,env= [.fz (aE n l),.fz (cO S),.ow (.list ((((ba n).take i).map λa=>((xN l (S.map (·.1)) a:Int),(yN l (S.map (·.1)) a:Int))).map ax)),s3,s4,s5,s6]) (by rw[<-jS];exact cY rfl (@AT)) ⟨rfl,.no,.no,.no,.no,rfl⟩ ?_ ?_
 .rintro i d env b hd ⟨rfl,s3,s4,s5,s6,rfl⟩
  rw[Pt]at hd
  cases hq:(ba n)[i]? with
  |none=>rw[hq]at hd;cases hd
  |some a=>
   rw[hq]at hd;cases hd
   have hi:i<n:=by have:=(Pw.mp hq).1;rwa [bf]at this
   generalize hP:(PyData.list ((((ba n).take i).map λa=>((xN l (S.map (·.1)) a:Int),(yN l (S.map (·.1)) a:Int))).map ax))=P
   refine⟨[.fz (aE n l),.fz (cO S),.ow P,.fz (.int a),s4,s5,s6],rfl,cg (b7 (λp=>decide (p.2=a)) (λp=>int p.1) rfl (@AT) λp hp=>⟨[.da (.int p.1),.da (.int p.2),.da (.int a)],rfl,eM rfl rfl,λ_=>rfl⟩) (wp_at [.fz (aE n l),.fz (cO S),.ow P,.fz (.int a),.fz (.list ((l.filter λp=>decide (p.2=a)).map λp=>int p.1)),s5,s6] rfl ?_)⟩
   generalize hA:(PyData.list ((l.filter λp=>decide (p.2=a)).map λp=>int p.1))=A
   refine cg (b7 (λp=>decide (p.2=a)) (λp=>int p.1) (vL rfl) (by rw[Pc];omega) λp hp=>⟨[.da (.int p.1),.da (.int p.2),.da (.int a)],rfl,eM rfl rfl,λ_=>rfl⟩) (wp_at [.fz (aE n l),.fz (cO S),.ow P,.fz (.int a),.fz A,.fz (.list (((S.map (·.1)).filter λp=>decide (p.2=a)).map λp=>int p.1)),s6] rfl ?_)
   generalize hB:(PyData.list (((S.map (·.1)).filter λp=>decide (p.2=a)).map λp=>int p.1))=B
   refine cg (b7 (λp=>decide (p.1=a)) (λp=>int p.2) (vL rfl) (by rw[Pc];omega) λp hp=>⟨[.da (.int p.1),.da (.int p.2),.da (.int a)],rfl,eM rfl rfl,λ_=>rfl⟩) (wp_at [.fz (aE n l),.fz (cO S),.ow P,.fz (.int a),.fz A,.fz B,.fz (.list (((S.map (·.1)).filter λp=>decide (p.1=a)).map λp=>int p.2))] rfl ?_)
   generalize hC:(PyData.list (((S.map (·.1)).filter λp=>decide (p.1=a)).map λp=>int p.2))=C
   have lA:f1 (gv 4) dr (vl [.fz (aE n l),.fz (cO S),.ow P,.fz (.int a),.fz A,.fz B,.fz C]) 0=.ok (.int ((l.filter λp=>decide (p.2=a)).length:Nat)) 0:=by subst hA;rw[vN rfl,Pc]
   have lB:f1 (gv 5) dr (vl [.fz (aE n l),.fz (cO S),.ow P,.fz (.int a),.fz A,.fz B,.fz C]) 0=.ok (.int (((S.map (·.1)).filter λp=>decide (p.2=a)).length:Nat)) 0:=by subst hB;rw[vN rfl,Pc]
   have lC:f1 (gv 6) dr (vl [.fz (aE n l),.fz (cO S),.ow P,.fz (.int a),.fz A,.fz B,.fz C]) 0=.ok (.int (((S.map (·.1)).filter λp=>decide (p.1=a)).length:Nat)) 0:=by subst hC;rw[vN rfl,Pc]
   have ex:f2 (f1 (gv 4) dr) (f1 (gv 5) dr) bO (vl [.fz (aE n l),.fz (cO S),.ow P,.fz (.int a),.fz A,.fz B,.fz C]) 0=.ok (.int (xN l (S.map (·.1)) a:Int)) 0:=aK lA lB (by show some (int _)=_;unfold xN;rw[Int.natCast_add])
   have ey:f2 (f1 (gv 4) dr) (f1 (gv 6) dr) bO (vl [.fz (aE n l),.fz (cO S),.ow P,.fz (.int a),.fz A,.fz B,.fz C]) 0=.ok (.int (yN l (S.map (·.1)) a:Int)) 0:=aK lA lC (by show some (int _)=_;unfold yN;rw[Int.natCast_add])
   subst hP
   refine pI (vQ rfl (dz ex ey) rfl (by simp;omega) (kY ⟨_,_,rfl,rfl,.fz (.int a),.fz A,.fz B,.fz C,?_⟩))
   rw[QD,hq,PV,PV];rfl
 .rintro env b ⟨rfl,s3,s4,s5,s6,rfl⟩
  rw[Pc,Sk]
  exact⟨rfl⟩
noncomputable def GK:List D->FR:=a9 3 1 (dI mL Om Na Od Oq)
def LP{n:Nat}{l:List Pr}(O:OM.Ord n l):(∃(p:Pr) (ps:List Pr),GK [aE n l]=.ok (.tuple [.str "knot",.list (ps.map ax)]) false/\IG (kX n l) p (p.2,p.1) ps/\ps.length<=64)\/∃r q:List Int,GK [aE n l]=.ok (.tuple [.str "points",.list ((jl r q n).map ax)]) false/\r.Perm (ba n)/\q.Perm (ba n)/\(OM.bF n).filter (uS [r,q])=l:=by
 have T:=rn O
 suffices h:WP (dI mL Om Na Od Oq [.fz (aE n l),.no,.no] 0) λs=>(∃(p:Pr) (ps:List Pr),fin s=.ok (.tuple [.str "knot",.list (ps.map ax)]) false/\IG (kX n l) p (p.2,p.1) ps/\ps.length<=64)\/∃r q:List Int,fin s=.ok (.tuple [.str "points",.list ((jl r q n).map ax)]) false/\r.Perm (ba n)/\q.Perm (ba n)/\(OM.bF n).filter (uS [r,q])=l from h.out
 unfold dI
 refine Gd (aC rfl (zX O)) (wp_at [.fz (aE n l),.no,.no] rfl (cg (aC rfl (Ow O)) (wp_at [.fz (aE n l),.fz (dB (kX n l)),.no] rfl ?_)))
 rcases Oe T with⟨p,ps,e,hp,hl⟩|⟨e,hn⟩
 .refine cg (aC rfl e) (wp_at [.fz (aE n l),.fz (dB (kX n l)),.fz (.list (ps.map ax))] rfl ?_)
  exact vn rfl (vc (tp rfl) (.inl ⟨p,ps,rfl,hp,hl⟩))
 .refine cg (aC rfl e) (wp_at [.fz (aE n l),.fz (dB (kX n l)),.fz .none] rfl ?_)
  refine mr rfl (wp_at [.fz (aE n l),.fz (dB (kX n l)),.fz .none] rfl ?_)
  let⟨S,b,eS,nd,hS,hC⟩:=N0 T
  have hO:Or n l λa b=>(a,b)∈S.map (·.1):=TR.Ho hC T.gr λq h=>hn q h
  have hSl:S.length<=64:=by
   have:=oQ nd λx hx=>hS x hx
   rw[Pc]at this
   exact Qp this T.len
  let⟨r,q,hr,hq,el,ec⟩:=GC O nd hO
  have ep:((ba n).map λa=>((xN l (S.map (·.1)) a:Int),(yN l (S.map (·.1)) a:Int)))=jl r q n:=by
   unfold jl
   refine Qu λa ha=>?_
   rw[(ec a ha).1,(ec a ha).2]
  have e1:=NU O hSl
  rw[ep]at e1
  refine pe (tp (ac rfl (ac (aC (ac rfl (ac (aC rfl eS) an)) e1) an))) (.inr ⟨r,q,rfl,hr,hq,el⟩)
def Et(h1:rs≠ [])(hp:∀r,r∈rs->r.Perm (ba n)):(OM.bF n).filter (oY rs)=(OM.bF n).filter (uS rs):=by
 refine Q8 λp hm=>?_
 have hg:=OM.bh.mp hm
 rw[Ra,oF]
 unfold uS
 rw[Qi]
 constructor
 .rintro⟨ne,h⟩ r hr
  rw[PB]
  exact Nat.lt_of_le_of_ne (h r hr) λe=>ne (Ah ((hp r hr).mem_iff.mpr (aG.mpr hg.1)) ((hp r hr).mem_iff.mpr (aG.mpr hg.2)) e)
 .intro h
  refine⟨λe=>?_,λr hr=>QY (QE (h r hr))⟩
  cases rs with
  |nil=>exact h1 rfl
  |cons r rs=>
   have:=QE (h r (Pq ..))
   rw[e]at this
   omega
section
variable {n:Nat}{l:List Pr}{r q:List Int}
def qB(ha:a∈ba n)(hb:b∈ba n)(e:(OM.bF n).filter (uS [r,q])=l):(a,b)∈l↔r.idxOf a<r.idxOf b/\q.idxOf a<q.idxOf b:=by
 rw[<-e,Pp,OM.bh]
 unfold uS
 simp only[Sn,List.all_nil,Bool.and_true,PF,PB]
 exact⟨λh=>h.2,λh=>⟨⟨aG.mp ha,aG.mp hb⟩,h⟩⟩
def pG(hr:r.Perm (ba n))(hq:q.Perm (ba n))(e:(OM.bF n).filter (uS [r,q])=l)(ha:a∈ba n)(hb:b∈ba n):ET (kX n l) a b↔(r.idxOf a<r.idxOf b/\q.idxOf b<q.idxOf a)\/(r.idxOf b<r.idxOf a/\q.idxOf a<q.idxOf b):=by
 show(a,b)∈kX n l↔_
 rw[kq]
 unfold zO
 simp only[PF,QW,Qw]
 rw[qB ha hb e,qB hb ha e]
 constructor
 .rintro⟨_,h1,h2,h3⟩
  have n1:r.idxOf a≠r.idxOf b:=λz=>h1 (i7 hr ha hb z)
  have n2:q.idxOf a≠q.idxOf b:=λz=>h1 (i7 hq ha hb z)
  omega
 .intro h
  refine⟨⟨aG.mp ha,aG.mp hb⟩,λz=>?_,@AT,@AT ⟩
  have z:a=b:=z
  subst z;omega
def Kj(O:OM.Ord n l)(hr:r.Perm (ba n))(hq:q.Perm (ba n))(e:(OM.bF n).filter (uS [r,q])=l):Nn (kX n l):=by
 have T:=rn O
 have rg:∀{a b:Int},ET (kX n l) a b->a∈ba n/\b∈ba n:=λ{a b} h=>by have:=T.rg _ h;exact⟨aG.mpr this.1,aG.mpr this.2⟩
 have st:∀p s,TR.Fc (ET (kX n l)) p s->r.idxOf p.1<r.idxOf p.2->r.idxOf s.1<r.idxOf s.2:=by
  rintro⟨a,b⟩ ⟨c,d⟩ ⟨h1,h2,h3⟩ h
  simp only at h1 h2 h3 h ⊢
  have k1:=(pG hr hq e (rg h1).1 (rg h1).2).mp h1
  have k2:=(pG hr hq e (rg h2).1 (rg h2).2).mp h2
  rcases h3 with⟨rfl,z⟩|⟨rfl,z⟩
  .rw[pG hr hq e (rg h1).2 (rg h2).2]at z
   omega
  .rw[pG hr hq e (rg h1).1 (rg h2).1]at z
   omega
 have all:∀p s,TR.Cl (ET (kX n l)) p s->r.idxOf p.1<r.idxOf p.2->r.idxOf s.1<r.idxOf s.2:=λp s h=>by
  induction h with
  |refl _=>exact id
  |step _ f ih=>exact λk=>st _ _ f (ih k)
 intro p hp h
 have hp':ET (kX n l) p.1 p.2:=hp
 have k:=(pG hr hq e (rg hp').1 (rg hp').2).mp hp'
 by_cases c:r.idxOf p.1<r.idxOf p.2
 .have:=all _ _ h c
  simp only at this
  omega
 .have h':=h.rev T.gr
  have:=all _ _ h' (by simp only;omega)
  simp only at this
  omega
end
def JJ{p q:Pr}(h:IG T p q ps):TR.Cl (ET T) p q:=by
 have key:∀(i:Nat) x,ps[i]? =some x->TR.Cl (ET T) p x:=by
  intro i
  induction i with
  |zero=>intro x hx;rw[h.st]at hx;cases hx;exact .refl (h.tr _ (Pn h.st))
  |succ i ih=>
   intro x hx
   have hl:=(Pw.mp hx).1
   have hy:ps[i]? =some ps[i]:=O9 (@AT)
   exact .step (ih _ hy) (IM (h.tr _ (Pn hy)) (h.go i _ _ hy hx))
 exact key _ _ h.en
def DH(n:Nat)(l:List Pr):Prop:=∀r q:List Int,r.Perm (ba n)->q.Perm (ba n)->(OM.bF n).filter (uS [r,q])≠l
def Jx{n:Nat}{l:List Pr}(O:OM.Ord n l)(h:IG (kX n l) p (p.2,p.1) ps):DH n l:=λr q hr hq e=>Kj O hr hq e p (h.tr _ (Pn h.st)) (JJ h)
def Kf{l:List Pr}(O:OM.Ord (2*m) l)(c:N8 m ms l):DH (2*m) l:=by
 intro r q hr hq e
 have h3:=c.lo
 have hl:ms.length=2*m:=by rw[c.pm.length_eq,bf]
 have mm:∀k,k<2*m->ms.getD k 0∈ba (2*m):=λk hk=>c.pm.mem_iff.mp (by rw[PK,O9 (@AT)];exact QG _)
 have nd:ms.Nodup:=c.pm.nodup_iff.mpr (cj _)
 have up:∀i j,i<m->j<m->i≠j->r.idxOf (ms.getD i 0)<r.idxOf (ms.getD (m+j) 0)/\q.idxOf (ms.getD i 0)<q.idxOf (ms.getD (m+j) 0):=λi j hi hj hn=>(qB (mm i (@AT)) (mm (m+j) (@AT)) e).mp (c.up i j hi hj hn)
 have ne:∀i,i<m->ms.getD i 0≠ms.getD (m+i) 0:=λi hi z=>by
  have h1:ms[i]? =some (ms.getD i 0):=by rw[PK,O9 (@AT)];rfl
  have h2:ms[m+i]? =some (ms.getD (m+i) 0):=by rw[PK,O9 (@AT)];rfl
  rw[z]at h1
  have:=eR nd h1 h2
  omega
 have ap:∀i,i<m->r.idxOf (ms.getD (m+i) 0)<r.idxOf (ms.getD i 0)\/q.idxOf (ms.getD (m+i) 0)<q.idxOf (ms.getD i 0):=λi hi=>by
  have:=c.ap i hi
  rw[qB (mm i (@AT)) (mm (m+i) (@AT)) e]at this
  have n1:r.idxOf (ms.getD i 0)≠r.idxOf (ms.getD (m+i) 0):=λz=>ne i hi (i7 hr (mm i (@AT)) (mm (m+i) (@AT)) z)
  have n2:q.idxOf (ms.getD i 0)≠q.idxOf (ms.getD (m+i) 0):=λz=>ne i hi (i7 hq (mm i (@AT)) (mm (m+i) (@AT)) z)
  omega
 have a0:=ap 0 (@AT)
 have a1:=ap 1 (@AT)
 have a2:=ap 2 (@AT)
 have u01:=up 0 1 (@AT) (@AT) (@AT)
 have u10:=up 1 0 (@AT) (@AT) (@AT)
 have u02:=up 0 2 (@AT) (@AT) (@AT)
 have u20:=up 2 0 (@AT) (@AT) (@AT)
 have u12:=up 1 2 (@AT) (@AT) (@AT)
 have u21:=up 2 1 (@AT) (@AT) (@AT)
 omega
noncomputable def xH:List D->FR:=a9 2 1 (i4 GK Nr)
def Mj:cR false (.str "points") (.str "knot")=some (.bool false):=by kernel_rfl
def LF:cR false (.str "knot") (.str "knot")=some (.bool true):=by kernel_rfl
def I0{n:Nat}{l:List Pr}(O:OM.Ord n l):(xH [aE n l]=.ok .none false/\DH n l)\/∃r q:List Int,xH [aE n l]=.ok (.list ([r,q].map tupI)) true/\r.Perm (ba n)/\q.Perm (ba n)/\(OM.bF n).filter (uS [r,q])=l:=by
 have e1:xH [aE n l]=fin (i4 GK Nr [.fz (aE n l),.no] 0):=rfl
 rcases LP O with⟨p,ps,e,hp,_⟩|⟨r,q,e,hr,hq,el⟩
 .refine .inl ⟨?_,Jx O hp⟩
  rw[e1]
  refine jC ?_
  unfold i4
  exact cg (aC rfl e) (wp_at [.fz (aE n l),.fz (.tuple [.str "knot",.list (ps.map ax)])] rfl (vn (du _ _ _ true (aK rfl rfl LF)) (vc rfl rfl)))
 .refine .inr ⟨r,q,?_,hr,hq,el⟩
  rw[e1]
  refine jC ?_
  unfold i4
  refine cg (aC rfl e) (wp_at [.fz (aE n l),.fz (.tuple [.str "points",.list ((jl r q n).map ax)])] rfl ?_)
  exact mr (du _ _ _ false (aK rfl rfl Mj)) (wp_at [.fz (aE n l),.fz (.tuple [.str "points",.list ((jl r q n).map ax)])] rfl (qk (yn (ac rfl an) (Nk O.hi hr hq)) rfl))
noncomputable def MR:List D->FR:=a9 1 1 (ud zT)
def Lx{n:Nat}{l:List Pr}(O:OM.Ord n l):MR [aE n l]=.ok (.bool (decide (kX n l= []))) false:=by
 refine jC (pe (aK (by rw[vN (aC rfl (A8 O)),Pc]) rfl ?_) rfl)
 rw[Ac]
 congr 2
 show decide (((kX n l).length:Int)=0)=_
 rw[decide_eq_decide]
 rw[<-Q5];omega
def Fh{n:Nat}{l:List Pr}{r q:List Int}(O:OM.Ord n l)(hr:r.Perm (ba n))(hq:q.Perm (ba n))(e:(OM.bF n).filter (uS [r,q])=l)(ht:kX n l= []):r=q:=by
 have cmp:∀a b,a∈ba n->b∈ba n->(r.idxOf a<r.idxOf b↔q.idxOf a<q.idxOf b):=λa b ha hb=>by
  have h:¬ET (kX n l) a b:=λz=>by rw[ht]at z;cases z
  rw[pG hr hq e ha hb]at h
  by_cases c:a=b
  .subst c;simp
  .have n1:r.idxOf a≠r.idxOf b:=λz=>c (i7 hr ha hb z)
   have n2:q.idxOf a≠q.idxOf b:=λz=>c (i7 hq ha hb z)
   omega
 have ei:∀a,a∈ba n->r.idxOf a=q.idxOf a:=λa ha=>by
  rw[<-qx hr (QY (sk hr ha)),<-qx hq (QY (sk hq ha))]
  congr 1
  refine Q8 λb hb=>?_
  rw[decide_eq_decide];exact cmp b a hb ha
 have h1:=Ba hr
 have h2:=Ba hq
 have e3:((ba n).map λt=>((r.idxOf t:Nat):Int))=(ba n).map λt=>((q.idxOf t:Nat):Int):=Qu λa ha=>by rw[ei a ha]
 rw[<-qt hr,<-qt hq,e3]
def zq(ds:List D)(h:mL ds≠.bad):a9 1 1 (kR jW) ds=mL ds:=by
 unfold mL at h
 split at h
 .obtain⟨n,l,rfl,O⟩:=xT h
  rw[zX O]
  exact jC (xU (hG (kZ (aC rfl (uf O)))) (kY rfl))
 .exact absurd rfl h
def M6(h:fa vs β=.ok d β1)(h':fr vs β1=.ok ds β2):ab fa fr vs β=.ok (d::ds) β2:=by rw[bz,h];dsimp only[R.bnd];rw[h']
def xA(n k:Nat)(l m:List Pr):cR false (aE n l) (aE k m)=some (.bool (decide (n=k/\l=m))):=by
 unfold cR
 rw[rH,rH]
 have h:PyData.eqv (aE n l) (aE k m)=decide (n=k/\l=m):=by
  unfold aE
  simp only[PyData.eqv,PyData.eqvAll,qi]
  rw[Ra]
  simp
  intro _;omega
 simp only[RI,Qn,h]
 rfl
def ui{F:List D->FR}(h1:fa vs β=.ok d1 β1)(h2:fb vs β1=.ok d2 β2)(e:F [d1,d2]=.ok d b)(hf:kT d=true):m8 F fa fb vs β=.ok d β2:=by
 unfold m8
 rw[h1]
 dsimp only[R.bnd]
 rw[h2]
 dsimp only[R.bnd]
 rw[e]
 exact Pe hf
noncomputable def MZ:List D->FR:=a9 2 2 (j3 NW nI)
def K3(h8:n<=8)(hp:r.Perm (ba n)):Ge (tupI r):=JS (by rw[Pc,hp.length_eq,bf];omega) λx hx=>by obtain⟨i,_,rfl⟩:=Pj.mp hx;rfl
def Eg{n:Nat}{r q:List Int}(hr:r.Perm (ba n))(hq:q.Perm (ba n)):∀x,x∈ [r,q]->x.Perm (ba n):=λx hx=>by
 rcases Pf.mp hx with rfl|hx
 .exact hr
 .rw[PU]at hx;subst hx;exact hq
def MG{n:Nat}{l:List Pr}{r q:List Int}(O:OM.Ord n l)(hr:r.Perm (ba n))(hq:q.Perm (ba n))(e:(OM.bF n).filter (uS [r,q])=l):MZ [.list ([r,q].map tupI),aE n l]=.ok (.bool true) false:=by
 have h8:=O.hi
 have hP:=Eg hr hq
 refine jC ?_
 unfold j3
 have ec:aM 1 [1] (.nm 0) (bV (gv 0)) kJ (az NW (ab (gv 0) (ab (f2 (gv 1) (cst (.int 0)) cT) ag))) (vl [.fz (.list ([r,q].map tupI)),.fz (aE n l)]) 0=.ok (.list ([r,q].map λx=>PyData.bool true)) 0:=
  cG (λ_=>PyData.bool true) rfl (by simp) λx hx=>⟨[.da (tupI x),.da (aE n l)],rfl,aC rfl (by rw[Lw h8 (K3 h8 (hP x hx)),Fv (hP x hx)])⟩
 refine mr (nZ (hG (a:=true) (kZ rfl)) (nZ rfl (hG (a:=true) (kZ (b9 ec rfl))))) (wp_at [.fz (.list ([r,q].map tupI)),.fz (aE n l)] rfl ?_)
 have et:=v3 h8 (by simp) hP
 rw[Et (by simp) hP,e]at et
 exact pe (aK (aC rfl et) rfl (by rw[wI];simp)) rfl
noncomputable def JK:List D->FR:=a9 8 1 (Eo L0 nI xH JI MR uV MZ cA dh anyF mT)
abbrev le(ns:List Int)(i n:Nat)(r q:List Int)(lB:List Pr)(s6 s7:Sl):En:=[.fz (gn ns),.fz (.int i),.bx,.fz (.int n),.fz (.list ([r,q].map tupI)),.fz (aE n lB),s6,s7]
def wK(ns:List Int):SeqAt.shaped (.tuple (ns.map int))=true:=by
 unfold SeqAt.shaped
 have h1:(PyData.tuple (ns.map int)).canLay0=true:=by simp only[PyData.canLay0];exact lay_ints ns
 have h2:(PyData.tuple (ns.map int)).depth<=64:=by simp only[PyData.depth];rw[ra];omega
 rw[h1,Pu h2];rfl
def Dr(r:List Int):cR true (tupI r) (tupI r)=some (.bool false):=by
 unfold cR tupI
 rw[wK]
 simp only[RI,Qn,PyData.eqv,qO]
 simp
def My(ns:List Int):JK [gn ns]=.ok (.bool true) false:=by
 refine jC ?_
 let⟨m,hm,em⟩:=Dt 3 (@AT) ns (vl [.fz (gn ns),.no,.no,.no,.no,.no,.no,.no]) 0 rfl
 unfold Eo
 refine rR (λ_ env _=>∃s1 s2 s3 s4 s5 s6 s7,env= [.fz (gn ns),s1,s2,s3,s4,s5,s6,s7]) em ⟨_,_,_,_,_,_,_,rfl⟩ ?_ λenv β ⟨s1,s2,s3,s4,s5,s6,s7,e⟩=>pe rfl rfl
 rintro i d env β hi ⟨s1,s2,s3,s4,s5,s6,s7,rfl⟩
 obtain⟨_,rfl⟩:=iR hi
 rw[QK]
 refine⟨[.fz (gn ns),.fz (.int i),s2,s3,s4,s5,s6,s7],rfl,?_⟩
 let⟨z,ez⟩:=MI ns i
 obtain⟨t3,t4,t5,t6,t7,hcl⟩:∃t3 t4 t5 t6 t7:Sl,(sW (a8 ([0]++([1]++[])) [.fz (gn ns),.fz (.int i),s2,s3,s4,s5,s6,s7])).set 2 .bx= [.fz (gn ns),.fz (.int i),.bx,t3,t4,t5,t6,t7]:=⟨_,_,_,_,_,rfl⟩
 refine Hx (yn rfl ez) (wp_at _ hcl ?_)
 let⟨j,hj,ej⟩:=iY (m:=8) (@AT) (@AT) z
 generalize z/((8:Nat):Int)=β1 at ej
 refine cg (aK rfl (eO (by rfl) rfl ej) (by show some (int (1+(j:Int)))=_;rw[show((1+j:Nat):Int)=1+(j:Int) by omega])) (wp_at [.fz (gn ns),.fz (.int i),.bx,.fz (.int ((1+j:Nat):Int)),t4,t5,t6,t7] rfl ?_)
 have n1:1<=1+j:=@AT
 have n8:1+j<=8:=@AT
 generalize 1+j=n at n1 n8
 let⟨rs,β2,ec,hl,hP⟩:=CF (own:=1) (ixs:=[2,3]) (t:=.nm 0) (fi:=bP (cst (.int 2))) (fe:=f1 (ij 1 dh (ab (f1 (gv 2) bM) ag)) fJ) (vs:=vl [.fz (gn ns),.fz (.int i),.bx,.fz (.int n),t4,t5,t6,t7]) tupI (λr:List Int=>r.Perm (ba n)) (cY (n:=2) (β1:=β1) rfl (@AT)) (by rw[dP];omega) (by
  intro d hd
  refine⟨[.da d,.bx,.da (.int n)],rfl,λb=>?_⟩
  let⟨ms,b',em,pm⟩:=og (ba n) (by rw[bf];omega) b
  refine⟨ms,b',b9 (eO (by rfl) ?_ em) rfl,pm⟩
  rw[bz,b9 rfl (gZ (@AT))];rfl)
 rw[dP]at hl
 obtain⟨r,q,rfl⟩:∃r q,rs= [r,q]:=by
  match rs,hl with
  | [r,q],_=>exact⟨r,q,rfl⟩
 have pr:r.Perm (ba n):=hP r (by simp)
 have pq:q.Perm (ba n):=hP q (by simp)
 refine cg ec (wp_at [.fz (gn ns),.fz (.int i),.bx,.fz (.int n),.fz (.list ([r,q].map tupI)),t5,t6,t7] rfl ?_)
 have hP1:∀x,x∈ [r]->x.Perm (ba n):=λx hx=>by rw[PU]at hx;subst hx;exact pr
 have OB:=qZ n1 n8 (by simp) hP1
 have eB:=v3 n8 (by simp) hP1
 have OA:=qZ n1 n8 (by simp) hP
 have eA:=v3 n8 (by simp) hP
 rw[Et (by simp) hP1]at OB eB
 rw[Et (by simp) hP]at OA eA
 have eB2:(OM.bF n).filter (uS [r,r])=(OM.bF n).filter (uS [r]):=Q8 λp _=>by unfold uS;simp
 generalize hA:(OM.bF n).filter (uS [r,q])=lA at OA eA
 generalize hB:(OM.bF n).filter (uS [r])=lB at OB eB eB2
 have s1:=CZ (fa:=gv 4) (fb:=cst (.int 1)) (vs:=vl [.fz (gn ns),.fz (.int i),.bx,.fz (.int n),.fz (.list ([r,q].map tupI)),t5,t6,t7]) (β:=β2) rfl rfl
 refine cg (tp (ac rfl (ac (aC (ac rfl (ac s1 an)) eB) an))) (wp_at (le ns i n r q lB t6 t7) rfl ?_)
 let⟨nC,lC,β3,eC,OC⟩:=JL (most:=7) (@AT) (@AT) β2
 have eL:cz (ab (bt (ab (gv 3) (ab (az nI (ab (gv 3) (ab (gv 4) ag))) ag))) (ab (gv 5) (ab (ij 2 anyF (ab (cst (.int 7)) ag)) ag))) (vl (le ns i n r q lB t6 t7)) β2=.ok (.list [aE n lA,aE n lB,aE nC lC]) β3:=dH (M6 (tp (ac rfl (ac (aC rfl eA) an))) (M6 rfl (M6 (eO rfl rfl eC) an))) (by simp)
 have toldE:∀(s6 s7:Sl) (β:Int),bt (ab (gv 3) (ab (az nI (ab (gv 3) (ab (gv 4) ag))) ag)) (vl (le ns i n r q lB s6 s7)) β=.ok (aE n lA) β:=λs6 s7 β=>tp (ac rfl (ac (aC rfl eA) an))
 refine rR (λ_ env b=>b=β3/\∃s6 s7,env=le ns i n r q lB s6 s7) (by unfold bV;rw[eL];rfl) ?_ ?_ ?_
 .exact⟨rfl,t6,t7,rfl⟩
 .rintro k d env b hk ⟨rfl,s6,s7,rfl⟩
  obtain⟨n',l,rfl,O⟩:∃n' l,d=aE n' l/\OM.Ord n' l:=by
   have:=Pn hk
   simp only[Pf,Ql,Rx]at this
   rcases this with rfl|rfl|rfl
   .exact⟨_,_,rfl,OA⟩
   .exact⟨_,_,rfl,OB⟩
   .exact⟨_,_,rfl,OC⟩
  refine⟨le ns i n r q lB (.fz (aE n' l)) s7,rfl,?_⟩
  have tt:∀(s7:Sl) (β:Int),tG (mE (az JI (ab (az MR (ab (gv 6) ag)) (ab (f2 (az uV (ab (gv 6) ag)) (cz ag) (cR false)) ag)))) (vl (le ns i n r q lB (.fz (aE n' l)) s7)) β=.ok false β:=λs7 β=>by
   refine hG (kZ (aC (ac (aC rfl (Lx O)) (ac (aK (aC rfl (EW O)) (lp an) ?_) an)) (LD _)))
   have:=Ex false (kX n' l) []
   simpa using this
  rcases I0 O with⟨e2,no⟩|⟨r',q',e2,hr',hq',el⟩
  .have ea:yV (fE 7 ([6]++[]) (lq xH (ab (gv 6) ag))) (bp 7 ([6]++[]) (az xH (ab (gv 6) ag))) (le ns i n r q lB (.fz (aE n' l)) s7) b=.nx (le ns i n r q lB (.fz (aE n' l)) (.fz .none)) b:=by
    have h1:fE 7 ([6]++[]) (lq xH (ab (gv 6) ag)) (le ns i n r q lB (.fz (aE n' l)) s7) b=.bad:=by
     show toS (match xH [aE n' l]with|.ok d true=>R.ok d b|.ok _ false=>.bad|.exc c=>.exc c|.bad=>.bad) _=_
     rw[e2];rfl
    have h2:bp 7 ([6]++[]) (az xH (ab (gv 6) ag)) (le ns i n r q lB (.fz (aE n' l)) s7) b=.nx (le ns i n r q lB (.fz (aE n' l)) (.fz .none)) b:=by
     show toS (match xH [aE n' l]with|.ok d _=>R.ok d b|.exc c=>.exc c|.bad=>.bad) _=_
     rw[e2];rfl
    unfold yV
    rw[h1];exact h2
   refine wp_seq ea (mr (tt _ _) (wp_at (le ns i n r q lB (.fz (aE n' l)) (.fz .none)) rfl (JA rfl (wp_at (le ns i n r q lB (.fz (aE n' l)) (.fz .none)) rfl ?_))))
   have c1:decide (n'=n/\l=lB)=false:=Px λ⟨h1,h2⟩=>no r r (h1▸pr) (h1▸pr) (by rw[h1,eB2,h2])
   have c2:decide (n'=n/\l=lA)=false:=Px λ⟨h1,h2⟩=>no r q (h1▸pr) (h1▸pq) (by rw[h1,hA,h2])
   refine xU (nZ (du _ _ _ false (aK rfl rfl (by rw[xA,c1]))) (du _ _ _ false (aK rfl (toldE _ _ _) (by rw[xA,c2])))) (kY ⟨_,_,rfl,rfl,.fz (aE n' l),.fz .none,rfl⟩)
  .have ea:yV (fE 7 ([6]++[]) (lq xH (ab (gv 6) ag))) (bp 7 ([6]++[]) (az xH (ab (gv 6) ag))) (le ns i n r q lB (.fz (aE n' l)) s7) b=.nx (le ns i n r q lB (.fz (aE n' l)) (.ow (.list ([r',q'].map tupI)))) b:=by
    have h1:fE 7 ([6]++[]) (lq xH (ab (gv 6) ag)) (le ns i n r q lB (.fz (aE n' l)) s7) b=.nx (le ns i n r q lB (.fz (aE n' l)) (.ow (.list ([r',q'].map tupI)))) b:=by
     show toS (match xH [aE n' l]with|.ok d true=>R.ok d b|.ok _ false=>.bad|.exc c=>.exc c|.bad=>.bad) _=_
     rw[e2];rfl
    unfold yV
    rw[h1]
   refine wp_seq ea (mr (tt _ _) (wp_at (le ns i n r q lB (.fz (aE n' l)) (.ow (.list ([r',q'].map tupI)))) rfl (xU rfl (wp_at (le ns i n r q lB (.fz (aE n' l)) (.ow (.list ([r',q'].map tupI)))) rfl ?_))))
   have t1:tG (mE (m8 MZ (gv 7) (gv 6))) (vl (le ns i n r q lB (.fz (aE n' l)) (.ow (.list ([r',q'].map tupI))))) b=.ok false b:=hG (kZ (ui rfl rfl (MG O hr' hq' el) rfl))
   have t2:AE (mE (az MR (ab (gv 6) ag))) (df (f2 (f2 (gv 7) (cst (.int 0)) cT) (f2 (gv 7) (cst (.int 1)) cT) (cR true))) (vl (le ns i n r q lB (.fz (aE n' l)) (.ow (.list ([r',q'].map tupI))))) b=.ok false b:=by
    have ho:=kZ (aC (fr:=ab (gv 6) ag) (vs:=vl (le ns i n r q lB (.fz (aE n' l)) (.ow (.list ([r',q'].map tupI))))) (β1:=b) rfl (Lx O))
    by_cases c:kX n' l= []
    .rw[Pu c]at ho
     obtain rfl:=Fh O hr' hq' el c
     exact vV ho (du _ _ _ false (aK (aK rfl rfl rfl) (aK rfl rfl rfl) (Dr r')))
    .rw[Px c]at ho
     rw[Dq,ho];rfl
   refine xU (nZ t1 t2) (wp_at (le ns i n r q lB (.fz (aE n' l)) (.ow (.list ([r',q'].map tupI)))) rfl (vQ rfl rfl rfl (by simp) (wp_at (le ns i n r q lB (.fz (aE n' l)) (.ow (.list ([r',q'].map tupI++[.int 0])))) rfl ?_)))
   have t3:tG (mE (m8 MZ (az xH (ab (gv 6) ag)) (gv 6))) (vl (le ns i n r q lB (.fz (aE n' l)) (.ow (.list ([r',q'].map tupI++[.int 0]))))) b=.ok false b:=hG (kZ (ui (aC rfl e2) rfl (MG O hr' hq' el) rfl))
   exact xU t3 (kY ⟨_,_,rfl,rfl,.fz (aE n' l),_,rfl⟩)
 .rintro env b ⟨rfl,s6,s7,rfl⟩
  obtain⟨nD,lD,β4,eD,OD,mm,ms,rfl,cw⟩:=wH b
  have eN:xH [aE (2*mm) lD]=.ok .none false:=by
   rcases I0 OD with⟨e2,_⟩|⟨r',q',_,hr',hq',el⟩
   .exact e2
   .exact (Kf OD cw r' q' hr' hq' el).elim
  have tn:tN (az xH (ab (ij 2 mT ag) ag)) true (vl (le ns i n r q lB s6 s7)) b=.ok false β4:=by
   rw[Jf,aC (M6 (eO rfl rfl eD) an) eN];rfl
  exact xU tn (kY ⟨_,_,rfl,_,_,_,_,_,_,_,rfl⟩)
end RM
namespace RO
open PySem L2
abbrev Fn(K:Frag)(mg:Str->Option Value)(x:Str)(st:Stmt)(ps:List Str)(f:Addr)(fd:FuncData):Prop:=jb K mg x st ps f fd
abbrev Bt(mg:Str->Option Value):Prop:=ji mg
end RO
section
namespace L2
open PySem PySem.Spec PyProof.Rows
section
variable {K:Frag}{H H':Hp}{a:Addr}
theorem aR.snoc(q:fu K H a [.int x,.int y]):∀{vs:List V} {ps:List (Int×Int)},aR K H vs ps->aR K H (vs++[.ref a]) (ps++[(x,y)])
 |_,_,.nil=>.cons ⟨a,rfl,q⟩ .nil
 |_,_,.cons r t=>.cons r (aR.snoc q t)
def aR.len(h:aR K H vs ps):vs.length=ps.length:=Paired.length h
def aR.same(h:aR K H vs ps)(s:ao H H'):aR K H' vs ps:=h.grow s.grow
def aR.at{vs:List V}{ps:List (Int×Int)}{i:Nat}{v:V}(h:aR K H vs ps)(e:vs[i]? =some v):∃p:Int×Int,ps[i]? =some p/\∃b,v=.ref b/\fu K H b [.int p.1,.int p.2]:=Paired.getP h e
def ao.put(s:ao H H')(h:H a=none)(hf:∀x y,H' a≠some (.a8 x y)):ao H (L2.upd H' a o):=λb u e=>lF (s b u e) (aL e h) hf
def IE(h:H a=none):∀x y,H a≠some (.a8 x y):=λx y z=>by rw[h]at z;cases z
def MJ{xs:List V}(h:H a=some (.lst xs)):∀x y,H a≠some (.a8 x y):=λx y z=>by rw[h]at z;cases z
end
end L2
namespace RO
open PySem L2
def Dh(N:List Str)(sc:Scope)(NB:List Str)(own:Nat)(ixs:List Nat)(scope:Scope):Bool:=
 decide (scope.kind=.function)&&(scope.names.all λy=>decide (scope.names.lookup y.1=some y.2)) &&
 (scope.names.all λy=>decide (y.2=.free->(sc.names.lookup y.1=some .cell\/sc.names.lookup y.1=some .free)))&&decide NB.Nodup&&decide (NB.length=own+ixs.length) &&
 ((List.range ixs.length).all λk=>decide (NB[own+k]? =N[ixs.getD k 0]?)&&(match NB[own+k]? with|some x=>decide ((x,NameKind.free)∈scope.names)|none=>true))
def oZ{X:Cx}{own:Nat}{ixs:List Nat}(h:Dh X.N X.env.scope NB own ixs scope=true):dU X NB own ixs scope:=by
 unfold Dh at h
 simp only[PF,Qi,PB,PN]at h
 let⟨⟨⟨⟨⟨h1,h3⟩,h4⟩,h5⟩,h6⟩,h7⟩:=h
 refine⟨h1,h3,h4,h5,h6,λk hk=>⟨(h7 k hk).1,λx hx=>?_⟩⟩
 have:=(h7 k hk).2
 rw[hx]at this
 simpa using this
section
variable {X:Cx}{tg l:Expr}{tl:TE}{K:Frag}{H H1:Hp}{a:Addr}{xs:List V}{σ:St}
def ND(K:Frag)(tl:TE):TI:=λσ H R=>tl σ H λx H1=>∃a xs,x=.ref a/\((fU K H1 a xs/\R (CM K a) H1)\/(fu K H1 a xs/\R (Jb K a) H1))
end
def OS(K:Frag){X:Cx}(h:X.K=K:=by rfl):FH X (JY K):=by subst h;exact iC
def K2(K:Frag)(i j:Nat){X:Cx}{px py pos:Pos}{k:Nat}(hN:X.N.Nodup)(hi:X.N[i]? =some x)(hj:X.N[j]? =some y)(hx:X.env.scope.names.lookup x=some .local)(hy:X.env.scope.names.lookup y=some .local)(hc:X.calm=true)(hK:X.K=K) :
  PG X (.Tuple [.Name x px,.Name y py] k pos) (Ij K 2 (qH (mN i) (qH (mN j) G9))):=by
 subst hK
 exact rL hc (eY (c6 hN hi (Or.inl hx) (Or.inr hx)) (eY (c6 hN hj (Or.inl hy) (Or.inr hy)) nK))
section
open PySem.Spec PyProof.Rows
variable {X:Cx}{tg l:Expr}{tl:TE}
def KL(hl:PE X l tl):PI X tg l (ND X.K tl):=by
 intro pins s σ H R I h
 refine cn (hl pins s σ H _ I h) λv s1 ⟨x,H1,I1,r1,q1⟩=>?_
 let⟨a,xs,e,q⟩:=q1
 subst e
 cases r1
 rcases q with⟨hq,q⟩|⟨hq,q⟩
 .let⟨its,rv,p,hz⟩:=I1.list hq
  refine RJ p.isList ⟨s1.heap.objs.size,[s1.heap.objs.size],_,_,H1,rfl,I1.kept λb o e=>Pb _ e,pC a _,⟨_,Pl _ rfl,rfl,rfl⟩,λb hb=>?_,q⟩
  have e:b=s1.heap.objs.size:=by simpa using hb
  subst e
  exact I1.fpOk (Pd _) (I1.hok.fresh (Pd _))
 .let⟨its,rv,p,hz⟩:=I1.tuple hq
  refine R5 (show s1.heap.IsTuple a its.toArray from p) ⟨s1.heap.objs.size,[s1.heap.objs.size],_,_,H1,rfl,I1.kept λb o e=>Pb _ e,sF a _,⟨_,Pl _ rfl,rfl,rfl⟩,λb hb=>?_,q⟩
  have e:b=s1.heap.objs.size:=by simpa using hb
  subst e
  exact I1.fpOk (Pd _) (I1.hok.fresh (Pd _))
end
section
variable {K:Frag}{H H1 H':Hp}{a:Addr}{xs:List V}{σ:St}
abbrev Mi(J:It)(g:TG)(tb:TS)(D:Ends)(σ:St)(H:Hp):Prop:=∃W:Nat->Nat->St->Hp->Prop,(∃m,W 0 m σ H)/\∀i m σ H,W i m σ H->
   (J.stop i H/\D.nx σ H)\/(J.go i H/\∃N:St->Hp->Prop,(∀σ' H',N σ' H'->∃m',m'<m/\W (i+1) m' σ' H')/\∀x H',J.yld i H x H'->g x σ H' λσ2 H2=>tb {D with nx:=N,ct:=N,bk:=D.nx} σ2 H2)
def HR(s:ao H1 H')(hq:fU K H1 a xs\/fu K H1 a xs):fU K H' a xs\/fu K H' a xs:=hq.elim (λq=>.inl (s.seq q)) λq=>.inr (q.grow s.grow)
def Iu{g:TG}{tb:TS}{D:Ends}(hq:fU K H1 a xs\/fu K H1 a xs)(Pv:Nat->St->Hp->Prop)(h0:Pv 0 σ H)(hl:∀i σ H',Pv i σ H'->ao H1 H')
  (hs:∀i x σ H,xs[i]? =some x->Pv i σ H->g x σ H λσ2 H2=>tb {D with nx:=Pv (i+1),ct:=Pv (i+1),bk:=D.nx} σ2 H2) (hd:∀σ H,Pv xs.length σ H->D.nx σ H) :
  (fU K H a xs/\Mi (CM K a) g tb D σ H)\/(fu K H a xs/\Mi (Jb K a) g tb D σ H):=
 hq.elim (λq=>.inl ⟨(hl _ _ _ h0).seq q,xl Pv h0 (λi σ H' _ p=>(hl i σ H' p).seq q) hs hd⟩) λq=>.inr ⟨q.grow (hl _ _ _ h0).grow,GJ Pv h0 (λi σ H' _ p=>q.grow (hl i σ H' p).grow) hs hd⟩
def Bi(J:It)(own:Nat)(ixs:List Nat)(g:TG)(tt:TT)(te:TE)(Q:VK)(D:Addr)(σ:St)(H:Hp):Prop:=∃W:Nat->Nat->St->Hp->Prop,(∃m,W 0 m (wt own ixs σ) (upd H D (.lst [])))/\∀i m σ' H',W i m σ' H'->
   (J.stop i H'/\(∃acc,H' D=some (.lst acc))/\Q (.ref D) H')\/
   (J.go i H'/\∃N:St->Hp->Prop,(∀σ2 H2,N σ2 H2->∃m',m'<m/\W (i+1) m' σ2 H2)/\∀x H2,J.yld i H' x H2->fS g tt te D x σ' H2 N)
structure wU(own:Nat)(ixs:List Nat)(wi:TI)(g:TG)(tt:TT)(te:TE)(σ:St)(H:Hp)(Q:VK):Prop where
 out:wi σ H λJ H1=>∀D,H1 D=none->Bi J own ixs g tt te Q D σ H1
def yM{own:Nat}{ixs:List Nat}{g:TG}{tt:TT}{te:TE}{Q:VK}(h:wi σ H λJ H1=>∀D,H1 D=none->Bi J own ixs g tt te Q D σ H1):wU own ixs wi g tt te σ H Q:=⟨h⟩
def vF{X:Cx}{own:Nat}{ixs:List Nat}{tg iter elt:Expr}{ifs:List Expr}{g:TG}{tt:TT}{te:TE}{pos:Pos}(hc:X.calm=true)(S:dU X NB own ixs scope)(hi:PI X tg iter wi)
  (hg:∀C ex s3 H3 pn,PG (jG X NB scope C ex s3 H3 pn) tg g) (ht:∀C ex s3 H3 pn,EI (jG X NB scope C ex s3 H3 pn) ifs tt) (he:∀C ex s3 H3 pn,PE (jG X NB scope C ex s3 H3 pn) elt te)
  (hs:∀x,foldedSetIterable iter X.env x=pure x:=by intro _;rfl):PE X (.ListComp elt [⟨tg,iter,ifs,0⟩] scope pos) (wU own ixs wi g tt te):=
 λpins s σ H Q I h=>xD hc S hi hg ht he hs pins s σ H Q I h.out
section
variable {own:Nat}{ixs:List Nat}{g:TG}{tt:TT}{te:TE}{Q:VK}{D:Addr}
def G8(Pv:Nat->St->Hp->Prop)(h0:Pv 0 (wt own ixs σ) (upd H D (.lst [])))(hl:∀i σ H,i<=xs.length->Pv i σ H->fU K H a xs)
  (hs:∀i x σ H,xs[i]? =some x->Pv i σ H->fS g tt te D x σ H (Pv (i+1))) (hd:∀σ H,Pv xs.length σ H->(∃acc,H D=some (.lst acc))/\Q (.ref D) H):Bi (CM K a) own ixs g tt te Q D σ H:=Cr Pv h0 hl hs hd
def xC{lo:Int}{n:Nat}(Pv:Nat->St->Hp->Prop)(h0:Pv 0 (wt own ixs σ) (upd H D (.lst [])))
  (hs:∀i σ H,i<n->Pv i σ H->fS g tt te D (.int (lo+i)) σ H (Pv (i+1))) (hd:∀σ H,Pv n σ H->(∃acc,H D=some (.lst acc))/\Q (.ref D) H):Bi (CY lo n) own ixs g tt te Q D σ H:=y9 Pv h0 hs hd
end
def yc{te:TE}{D:Addr}{N:St->Hp->Prop}(h:te (σ.set i (some x)) H λv H5=>∃acc,H5 D=some (.lst acc)/\acc.length<sizeLine/\N (σ.set i (some x)) (upd H5 D (.lst (acc++[v])))):fS (mN i) Kd te D x σ H N:=by
 unfold fS mN Kd
 exact yg h
def FG{Q:St->Hp->Prop}(h:fu K H a [x,y])(q:Q ((σ.set i (some x)).set j (some y)) H):Ij K 2 (qH (mN i) (qH (mN j) G9)) (.ref a) σ H Q:=⟨a,_,rfl,h,rfl,x,_,rfl,y,_,rfl,rfl,q⟩
def Oc{c A B:Prop}[Decidable c](h:c)(a:A):if c then A else B:=by rw[Pe h];exact a
def Nu{c A B:Prop}[Decidable c](h:¬c)(b:B):if c then A else B:=by rw[Pg h];exact b
def take_snoc{α:Type}{l:List α}{i:Nat}{x:α}(h:l[i]? =some x):l.take (i+1)=l.take i++[x]:=by
 rw[QD,h];rfl
def take_all{α:Type}(l:List α):l.take l.length=l:=Ry (Pd _)
end
def eV(n:Nat):(OM.bF n).length=n*n:=by unfold OM.bF;simp
def Hn(h:i<n*n):(OM.bF n)[i]? =some (((i/n:Nat):Int),((i%n:Nat):Int)):=by
 unfold OM.bF
 rw[Pt,Ru h];rfl
def OO(h:n<=8):n*n<=64:=QL h h
section
variable {P:Program}{w:World}{K:Frag}{mg:Str->Option Value}{base:Heap}
def Au(K:Frag):Sp:=λvs H Q _=>∃n:Nat,vs= [.int n]/\1<=n/\n<=8/\∀H' l ws,ao H H'->H l=none->H' l=some (.lst ws)->aR K H' ws (OM.bF n)->Q (.ref l) H'
def Ie:aH ["many"] ["many"] (aq kF):=@AC
def LH:(["number","many"]:List Str).Nodup:=by decide +kernel
def C8{f:Addr}{fd:FuncData}(F:Fn K mg "every_pair" kF ["many"] f fd)(B:Bt mg):gS P w K mg base J3 1 f fd ["many"] (Au K):=by
 refine F.F.ok Ie (λvs H Q E h=>?_) (λcdv A outer s H vs Q E hr h=>?_)
 .obtain⟨n,rfl,_⟩:=h;rfl
 .obtain⟨n,rfl,h1,h8,k⟩:=h
  refine⟨_,jf (oU (vF (own:=1) (ixs:=[0]) rfl (oZ (by kernel_rfl)) (l6 rfl B.range (aP (tT jH (pv 0) (pv 0)) bD))
   (λC ex s3 H3 pn=>c6 (i:=0) LH rfl (Or.inl rfl)) (λC ex s3 H3 pn=>uR)
   (λC ex s3 H3 pn=>z5 (aP (tT nJ (pv 0) (pv 1)) (aP (tT nj (pv 0) (pv 1)) bD))))),?_⟩
  have hn:=OO h8
  have e0:((n:Int)*(n:Int))=((n*n:Nat):Int):=by rw[Int.natCast_mul]
  refine yM ⟨_,rfl,_,rfl,_,_,rfl,rfl,.inl ⟨@AT,@AT ⟩,_,rfl,by rw[e0];omega,by rw[e0];omega,λD hD=>?_⟩
  rw[e0,Qe]
  refine xC (λi σ' H'=>(∃v,σ'= [v,some (.int n)])/\ao H H'/\∃vs,H' D=some (.lst vs)/\aR K H' vs ((OM.bF n).take i)) ⟨⟨none,rfl⟩,(ao.refl H).put hD (IE hD),[],au,.nil⟩ ?_ ?_
  .rintro i σ' H' hi ⟨⟨v,rfl⟩,s1,vs,hv,hp⟩
   have hn0:(0:Int)<(n:Int):=@AT
   refine yc ⟨_,rfl,_,rfl,_,_,rfl,rfl,⟨hn0,@AT ⟩,_,rfl,_,rfl,_,_,rfl,rfl,hn0,by show 2<=sizeLine;rw[PX];omega,λp hp0=>?_⟩
   have hpD:D≠p:=aL hv hp0
   have hl:=hp.len
   refine⟨vs,by rw[av hpD];exact hv,?_,⟨_,rfl⟩,?_,vs++[.ref p],au,?_⟩
   .rw[hl,QR,PX];rw[eV];omega
   .exact (s1.put (s1.free hp0) (IE hp0)).put hD (MJ (by rw[av hpD];exact hv))
   .rw[take_snoc (Hn hi)]
    have g1:iS H' (upd H' p (.tup [.int ((0+(i:Int))/n),.int ((0+(i:Int))%n)])):=iS.new hp0
    have g2:∀o,iS (upd H' p (.tup [.int ((0+(i:Int))/n),.int ((0+(i:Int))%n)])) (upd (upd H' p (.tup [.int ((0+(i:Int))/n),.int ((0+(i:Int))%n)])) D o):=λo=>iS.list (by rw[av hpD];exact hv)
    refine aR.snoc ?_ (hp.grow (g1.trans (g2 _)))
    refine(fu.grow (.inl (.inl ?_)) (g2 _))
    rw[au,QK];rfl
  .rintro σ' H' ⟨_,s1,vs,hv,hp⟩
   refine⟨⟨_,hv⟩,k H' D vs s1 hD hv ?_⟩
   rw[<-eV n,take_all]at hp
   exact hp
end
end RO
end
namespace RO
open PySem L2
structure TabAt(n:Nat)(M:OM.Tb)(L:Addr)(r:Nat->Addr)(H:Hp):Prop where
 top:H L=some (.lst ((List.range n).map λi=>V.ref (r i)))
 row:∀i,i<n->H (r i)=some (.lst ((List.range n).map λj=>V.bl (M i j)))
 inj:∀i j,i<n->j<n->r i=r j->i=j
 ne:∀i,i<n->r i≠L
def Bb{n x:Nat}(h:x<n):wW n (x:Int)=some x:=by
 unfold wW;rw[Pe (@AT),Pe (@AT)];simp
def C1{α:Type}{xs:List α}{x:Nat}(h:x<xs.length):lX xs (x:Int)=xs[x]?:=by
 unfold lX;rw[Bb h];rfl
def gY{f:Nat->V}{n x:Nat}(h:x<n):lX ((List.range n).map f) (x:Int)=some (f x):=by
 rw[C1 (by simpa using h),Pt,Ru h];rfl
def tP{f:Nat->V}{n x:Nat}(h:x<n):wW ((List.range n).map f).length (x:Int)=some x:=by
 rw[Pc,Q7];exact Bb h
def Cs{f:Nat->V}{n y:Nat}:((List.range n).map f).set y v=(List.range n).map λj=>if j=y then v else f j:=by
 apply RK
 intro i
 by_cases hi:i<n
 .by_cases e:y=i
  .subst e;simp[List.getElem?_set,hi]
  .have e':¬i=y:=λz=>e z.symm
   simp[List.getElem?_set,hi,e,e']
 .rw[Qq (by simp;omega),Qq (by simp;omega)]
section
variable {n:Nat}{M:OM.Tb}{L:Addr}{r:Nat->Addr}{H H':Hp}
def TabAt.set(T:TabAt n M L r H)(hx:x<n):TabAt n (M.set x y) L r (upd H (r x) (.lst (((List.range n).map λj=>V.bl (M x j)).set y (.bl true)))):=by
 refine⟨by rw[av (T.ne x hx).symm];exact T.top,λi hi=>?_,T.inj,T.ne⟩
 by_cases e:i=x
 .subst e
  rw[au,Cs]
  refine congrArg _ (congrArg _ (Qu λj _=>?_))
  unfold OM.Tb.set
  by_cases c:j=y
  .simp[c]
  .simp[c]
 .rw[av (λz=>e (T.inj i x hi hx z)),T.row i hi]
  refine congrArg _ (congrArg _ (Qu λj _=>?_))
  unfold OM.Tb.set;simp[e]
def TabAt.same(T:TabAt n M L r H)(s:ao H H'):TabAt n M L r H':=⟨s _ _ T.top,λi hi=>s _ _ (T.row i hi),T.inj,T.ne⟩
end
def vh{n:Nat}(w:OM.Wn n ps)(h:p∈ps):∃u v:Nat,p=((u:Int),(v:Int))/\u<n/\v<n:=by
 obtain⟨x,y⟩:=p
 have q:=w _ h
 simp only at q
 exact⟨x.toNat,y.toNat,by rw[Int.toNat_of_nonneg q.1.1,Int.toNat_of_nonneg q.2.1],@AT,@AT ⟩
def jt{M0 M:OM.Tb}{D D':Nat->Nat->Prop}(P:OM.Phase M0 M m D)(h:∀a b,D a b↔D' a b):OM.Phase M0 M m D':=λa b=>by rw[P a b,h a b]
def mw{l:List (Int×Int)}{u v a b:Nat}:(((a:Int),(b:Int))∈l\/(a=u/\b=v))↔((a:Int),(b:Int))∈l++[((u:Int),(v:Int))]:=by
 rw[Pz,PU,Prod.mk.injEq]
 constructor
 .rintro (h|⟨h1,h2⟩)
  .exact .inl h
  .exact .inr ⟨@AT,@AT ⟩
 .rintro (h|⟨h1,h2⟩)
  .exact .inl h
  .exact .inr ⟨@AT,@AT ⟩
def Ik{M:OM.Tb}:M.set u v a b=true↔M a b=true\/(a=u/\b=v):=by
 unfold OM.Tb.set
 by_cases c:a=u/\b=v
 .simp[c]
 .rw[Pg c];exact⟨.inl,λh=>h.resolve_right c⟩
def L8(n:Nat)(x:V):(List.replicate n [x]).flatten=(List.range n).map λ_=>x:=by
 rw[List.flatten_replicate_singleton,List.map_const',Q7]
section
variable {P:Program}{w:World}{K:Frag}{mg:Str->Option Value}{base:Heap}
def EA(K:Frag):Sp:=λvs H Q _=>∃(n:Nat) (a:Addr) (xs:List V) (ps:List (Int×Int)),vs= [.int n,.ref a]/\1<=n/\n<=8/\(fU K H a xs\/fu K H a xs)/\aR K H xs ps/\OM.Wn n ps/\
 ∀H' t ws,ao H H'->H t=none->H' t=some (.tup ws)->aR K H' ws (OM.cy n (OM.Tr (OM.Mem ps)))->Q (.ref t) H'
def gV:aH ["many","pairs","corners","leads","a","b","middle"] ["many","pairs"] (aq ou):=@AC
def LL:(["start","many"]:List Str).Nodup:=by decide +kernel
def KA:(["a","b","leads"]:List Str).Nodup:=by decide +kernel
set_option maxHeartbeats 1000000 in
theorem CP{f g:Addr}{fd gd:FuncData}(F:Fn K mg "closed" ou ["many","pairs"] f fd)(G:Fn K mg "every_pair" kF ["many"] g gd)(GE:gS P w K mg base J3 1 g gd ["many"] (Au K))(B:Bt mg):gS P w K mg base J3 2 f fd ["many","pairs"] (EA K):=by
 refine F.F.ok gV (λvs H Q E h=>?_) (λcdv A outer s H vs Q E hr h=>?_)
 .obtain⟨n,a,xs,ps,rfl,_⟩:=h;rfl
 .obtain⟨n,a,xs,ps,rfl,h1,h8,hq,hp,wn,k⟩:=h
  refine⟨_,iO (rM (i:=2) gV.nd rfl (Or.inl rfl) (nN GE hr rfl G.mg G.F.kp G.b .nil LX (aP (pv 0) bD)))
   (iO (rM (i:=3) gV.nd rfl (Or.inr rfl) (vF (own:=1) (ixs:=[0]) rfl (oZ (by kernel_rfl)) (l6 rfl B.range (aP (pv 0) bD))
    (λC ex s3 H3 pn=>c6 (i:=0) LL rfl (Or.inl rfl)) (λC ex s3 H3 pn=>uR) (λC ex s3 H3 pn=>tT Em (Ff (aP Bo bD)) (pv 1))))
   (iO (vB PassesOwn.never rfl (KL (pv 1)) (rL rfl (eY (c6 (i:=4) gV.nd rfl (Or.inl rfl)) (eY (c6 (i:=5) gV.nd rfl (Or.inl rfl)) nK)))
    (jf (rX Bo (vd (mO iC (pv 3) (pv 4) (λ_ _=>rfl)) (pv 5) set_list))))
   (iO (vB PassesOwn.never rfl (l6 rfl B.range (aP (pv 0) bD)) (c6 (i:=6) gV.nd rfl (Or.inl rfl))
    (jf (vB PassesOwn.never rfl (AO (pv 2)) (rL rfl (eY (c6 (i:=4) gV.nd rfl (Or.inl rfl)) (eY (c6 (i:=5) gV.nd rfl (Or.inl rfl)) nK)))
     (jf (Je (PW.pt (Ej (zH (mO iC (mO iC (pv 3) (pv 4) (λ_ _=>rfl)) (pv 6) (λ_ _=>rfl))) (AN (zH (mO iC (mO iC (pv 3) (pv 6) (λ_ _=>rfl)) (pv 5) (λ_ _=>rfl))))))
      (jf (rX Bo (vd (mO iC (pv 3) (pv 4) (λ_ _=>rfl)) (pv 5) set_list))) Aw)))))
   (jf (oU (jM bX rfl B.tuple (by decide +kernel) (aP (vF (NB:=["a","b","leads"]) (own:=2) (ixs:=[3]) rfl (oZ (by kernel_rfl)) (AO (pv 2))
    (λC ex s3 H3 pn=>K2 K 0 1 KA rfl rfl rfl rfl rfl rfl)
    (λC ex s3 H3 pn=>Bg (zH (mO (OS K) (mO (OS K) (pv 2) (pv 0) (λ_ _=>rfl)) (pv 1) (λ_ _=>rfl)))) (λC ex s3 H3 pn=>z5 (aP (pv 0) (aP (pv 1) bD)))) bD))))))),?_⟩
  have hn:=OO h8
  have hn0:(0:Int)<=(n:Int):=@AT
  refine⟨_,rfl,n,rfl,h1,h8,λH1 c ws s1 hc0 hc hw=>?_⟩
  have hwl:ws.length=n*n:=by rw[hw.len,eV]
  have gw:OM.Wn n (OM.bF n):=λp hp=>OM.bh.mp hp
  refine yM ?_
  refine⟨_,rfl,n,rfl,@AT,@AT,λD hD=>?_⟩
  rw[Qe]
  refine xC (λi σ' H'=>(∃v,σ'= [v,some (.int n)])/\ao H1 H'/\∃r:Nat->Addr,H' D=some (.lst ((List.range i).map λk=>V.ref (r k)))/\
   (∀k,k<i->H' (r k)=some (.lst ((List.range n).map λ_=>V.bl false))/\H1 (r k)=none/\r k≠D)/\∀j k,j<i->k<i->r j=r k->j=k)
   ?_ ?_ ?_
  .exact⟨⟨none,rfl⟩,(ao.refl H1).put hD (IE hD),λ_=>0,au,λk hk=>absurd hk (Nat.not_lt_zero _),λj k hj=>absurd hj (Nat.not_lt_zero _)⟩
  .rintro i σ' H' hi ⟨⟨v,rfl⟩,s2,r,hr0,hr1,hr2⟩
   refine yc ⟨by show 1<=sizeLine;rw[PX];omega,λp hp0=>⟨_,rfl,p,n,[.bl false],rfl,rfl,au,@AT,@AT,by show 1*(n:Int).toNat<=sizeLine;rw[PX];omega,λq hq0=>?_⟩⟩
   have hqp:q≠p:=by intro e;subst e;rw[au]at hq0;cases hq0
   have hq1:H' q=none:=by rw[av hqp]at hq0;exact hq0
   have hDp:D≠p:=aL hr0 hp0
   have hDq:D≠q:=aL hr0 hq1
   rw[Qe,L8]
   refine⟨_,by rw[av hDq,av hDp];exact hr0,by rw[Pc,Q7,PX];omega,⟨_,rfl⟩,((s2.put (s2.free hp0) (IE hp0)).put (s2.free hq1) (IE hq0)).put hD (MJ (by rw[av hDq,av hDp];exact hr0)),λk=>if k=i then q else r k,?_,λk hk=>?_,λj k hj hk e=>?_⟩
   .have e:(List.range i).map (λk=>V.ref (r k))=(List.range i).map (λk=>V.ref (if k=i then q else r k)):=Qu λk hk=>by
     have:=PN.mp hk
     rw[Pg (@AT)]
    rw[au,List.range_succ,PV,e]
    simp
   .dsimp only
    by_cases e:k=i
    .rw[Pe e]
     exact⟨by rw[av hDq.symm,au],s2.free hq1,hDq.symm⟩
    .rw[Pg e]
     obtain⟨a1,a2,a3⟩:=hr1 k (@AT)
     exact⟨by rw[av a3,av (aL a1 hq1),av (aL a1 hp0)];exact a1,a2,a3⟩
   .dsimp only at e
    by_cases ej:j=i
    .by_cases ek:k=i
     .omega
     .rw[Pe ej,Pg ek]at e
      exact absurd e.symm (aL (hr1 k (@AT)).1 hq1)
    .by_cases ek:k=i
     .rw[Pg ej,Pe ek]at e
      exact absurd e (aL (hr1 j (@AT)).1 hq1)
     .rw[Pg ej,Pg ek]at e
      exact hr2 j k (@AT) (@AT) e
  rintro σ2 H2 ⟨_,s2,r,hr0,hr1,hr2⟩
  refine⟨⟨_,hr0⟩,?_⟩
  have sep:∀i,i<n->H1 (r i)=none:=λi hi=>(hr1 i hi).2.1
  have T0:TabAt n (λ_ _=>false) D r H2:=⟨hr0,λi hi=>(hr1 i hi).1,hr2,λi hi=>(hr1 i hi).2.2⟩
  refine⟨_,rfl,a,xs,rfl,Iu (H1:=H1) (HR s1 hq) (λi σ' H'=>(∃x y,σ'= [some (.int n),some (.ref a),some (.ref c),some (.ref D),x,y,none])/\ao H1 H'/\∃M,TabAt n M D r H'/\∀u v:Nat,M u v=true↔((u:Int),(v:Int))∈ps.take i)
   ⟨⟨none,none,rfl⟩,s2,_,T0,λu v=>by simp⟩ (λi σ' H' q=>q.2.1) ?_ ?_⟩
  .rintro i x σ' H' hx ⟨⟨_,_,rfl⟩,s3,M,T,hM⟩
   obtain⟨p,hpi,b,rfl,hb⟩:=(hp.same (s1.trans s3)).at hx
   obtain⟨u,v,rfl,hu,hv⟩:=vh wn (Pn hpi)
   refine FG hb ?_
   refine⟨_,rfl,_,rfl,D,_,u,_,rfl,rfl,.inl (.inl T.top),gY hu,_,rfl,r u,_,v,v,rfl,rfl,T.row u hu,tP hv,⟨_,_,rfl⟩,s3.put (sep u hu) (MJ (T.row u hu)),_,T.set hu,λx y=>?_⟩
   rw[take_snoc hpi,<-mw,Ik,hM]
  rintro σ3 H3 ⟨⟨x3,y3,rfl⟩,s3,M3,T3,hM3⟩
  rw[hp.len,take_all]at hM3
  refine⟨_,rfl,n,rfl,@AT,@AT,?_⟩
  rw[Qe]
  refine B8 (λm σ' H'=>(∃x y z,σ'= [some (.int n),some (.ref a),some (.ref c),some (.ref D),x,y,z])/\ao H1 H'/\∃M,TabAt n M D r H'/\OM.Tab n ps M/\OM.Iw M m)
   ⟨⟨_,_,_,rfl⟩,s3,M3,T3,⟨λa b h=>by have:=wn _ ((hM3 a b).mp h);simp only at this;omega,λa b h=>(hM3 a b).mpr h,λa b h=>.one ((hM3 a b).mp h)⟩,λk a b hk=>absurd hk (Nat.not_lt_zero _)⟩ ?_ ?_
  .rintro m σ' H' hm ⟨⟨_,_,_,rfl⟩,s4,M,T,TT,Th⟩
   rw[QK]
   refine⟨_,rfl,c,rfl,⟨ws,.inl (.inl (s4 _ _ hc))⟩,xl (xs:=ws) (λi σ' H'=>(∃x y,σ'= [some (.int n),some (.ref a),some (.ref c),some (.ref D),x,y,some (.int m)])/\ao H1 H'/\∃M',TabAt n M' D r H'/\OM.Phase M M' m λu v=>((u:Int),(v:Int))∈(OM.bF n).take i)
    ⟨⟨_,_,rfl⟩,s4,M,T,jt (OM.Phase.start M m) λa b=>by simp⟩ (λi σ' H' _ q=>.inl (.inl (q.2.1 _ _ hc))) ?_ ?_⟩
   .rintro i x σ' H' hx ⟨⟨_,_,rfl⟩,s5,M',T',Ph⟩
    obtain⟨p,hpi,b,rfl,hb⟩:=(hw.same s5).at hx
    obtain⟨u,v,rfl,hu,hv⟩:=vh gw (Pn hpi)
    refine FG hb ?_
    have st:=Ph.step u v
    refine⟨_,rfl,_,rfl,D,_,u,_,rfl,rfl,.inl (.inl T'.top),gY hu,_,rfl,r u,_,m,_,rfl,rfl,.inl (.inl (T'.row u hu)),gY hm,_,rfl,?_⟩
    by_cases c1:M' u m=true
    .refine Oc c1 ?_
     refine⟨_,rfl,_,rfl,D,_,m,_,rfl,rfl,.inl (.inl T'.top),gY hm,_,rfl,r m,_,v,_,rfl,rfl,.inl (.inl (T'.row m hm)),gY hv,_,rfl,?_⟩
     by_cases c2:M' m v=true
     .refine Oc c2 ?_
      rw[Pe ⟨c1,c2⟩]at st
      refine⟨_,rfl,_,rfl,D,_,u,_,rfl,rfl,.inl (.inl T'.top),gY hu,_,rfl,r u,_,v,v,rfl,rfl,T'.row u hu,tP hv,⟨_,_,rfl⟩,s5.put (sep u hu) (MJ (T'.row u hu)),_,T'.set hu,jt st λa b=>?_⟩
      rw[take_snoc hpi];exact mw
     .refine Nu c2 ?_
      rw[Pg λz=>c2 z.2]at st
      refine⟨⟨_,_,rfl⟩,s5,_,T',jt st λa b=>?_⟩
      rw[take_snoc hpi];exact mw
    .refine Nu c1 ?_
     rw[Pg λz=>c1 z.1]at st
     refine wz ⟨⟨_,_,rfl⟩,s5,_,T',jt st λa b=>?_⟩
     rw[take_snoc hpi];exact mw
   .rintro σ' H' ⟨⟨_,_,rfl⟩,s5,M',T',Ph⟩
    rw[hw.len,take_all]at Ph
    have dn:=Ph.done (n:=n) (λa b ha hb=>OM.bh.mpr ⟨⟨by simp,by simp;omega⟩,by simp,by simp;omega⟩) TT.inn Th
    exact⟨⟨_,_,_,rfl⟩,s5,M',T',TT.phase Ph,dn.1⟩
  rintro σ4 H4 ⟨⟨x4,y4,z4,rfl⟩,s4,M,T,TT,Th⟩
  refine yM ⟨_,rfl,c,rfl,⟨ws,.inl (.inl (s4 _ _ hc))⟩,λD' hD'=>G8 (xs:=ws) (λi σ' H'=>(∃x y,σ'= [x,y,some (.ref D)])/\ao H4 H'/\∃vs,H' D'=some (.lst vs)/\aR K H' vs (((OM.bF n).take i).filter λp=>M p.1.toNat p.2.toNat))
   ⟨⟨_,_,rfl⟩,(ao.refl H4).put hD' (IE hD'),[],au,.nil⟩ (λi σ' H' _ q=>.inl (.inl (q.2.1 _ _ (s4 _ _ hc)))) ?_ ?_⟩
  .rintro i x σ' H' hx ⟨⟨_,_,rfl⟩,s5,vs,hv,hpv⟩
   obtain⟨p,hpi,b,rfl,hb⟩:=(hw.same (s4.trans s5)).at hx
   obtain⟨u,v,rfl,hu,hv'⟩:=vh gw (Pn hpi)
   refine FG hb ?_
   have T':=T.same s5
   refine⟨_,rfl,_,rfl,D,_,u,_,rfl,rfl,.inl (.inl T'.top),gY hu,_,rfl,r u,_,v,_,rfl,rfl,.inl (.inl (T'.row u hu)),gY hv',_,rfl,?_⟩
   by_cases c1:M u v=true
   .refine Oc c1 ?_
    refine⟨_,rfl,_,rfl,by show 2<=sizeLine;rw[PX];omega,λp hp0=>?_⟩
    have hpD:D'≠p:=aL hv hp0
    refine⟨vs,by rw[av hpD];exact hv,?_,⟨_,_,rfl⟩,(s5.put (s5.free hp0) (IE hp0)).put hD' (MJ (by rw[av hpD];exact hv)),_,au,?_⟩
    .rw[hpv.len]
     refine Nat.lt_of_le_of_lt (Qs ..) ?_
     rw[QR,eV,PX];omega
    .rw[take_snoc hpi,List.filter_append,List.filter_cons_of_pos (by simpa using c1),List.filter_nil]
     have g1:iS H' (upd H' p (.tup [.int u,.int v])):=iS.new hp0
     have g2:∀o,iS (upd H' p (.tup [.int u,.int v])) (upd (upd H' p (.tup [.int u,.int v])) D' o):=λo=>iS.list (by rw[av hpD];exact hv)
     refine aR.snoc ?_ (hpv.grow (g1.trans (g2 _)))
     exact fu.grow (.inl (.inl au)) (g2 _)
   .refine Nu c1 ?_
    refine⟨⟨_,_,rfl⟩,s5,vs,hv,?_⟩
    rw[take_snoc hpi,List.filter_append,List.filter_cons_of_neg (by simpa using c1),List.filter_nil,RD]
    exact hpv
  .rintro σ' H' ⟨_,s5,vs,hv,hpv⟩
   rw[hw.len,take_all]at hpv
   refine⟨⟨_,hv⟩,D',vs,rfl,.inl ⟨.inl (.inl hv),λt ht=>?_⟩⟩
   have sA:ao H H':=(s1.trans s4).trans s5
   refine k _ t vs (sA.put (sA.free ht) (IE ht)) (sA.free ht) au ?_
   have e:((OM.bF n).filter λp=>M p.1.toNat p.2.toNat)=OM.cy n (OM.Tr (OM.Mem ps)):=by
    unfold OM.cy
    refine Q8 λp hp=>?_
    obtain⟨u,v,rfl,hu,hv⟩:=vh gw hp
    have:=TT.all wn Th u v
    simp only[Qe]
    rw[Ra,this]
    simp
   rw[e]at hpv
   exact hpv.grow (iS.new ht)
end
end RO
namespace RO
open PySem L2 RM
section
variable {P:Program}{w:World}{K:Frag}{mg:Str->Option Value}{base:Heap}{ca:Str->Addr}
def O1(F:gS P w K mg base J3 k f fd ps sp):gS P w K mg base (uL P w) k f fd ps sp:=
 ⟨F.len,λA outer s H args us vs Q E hr he hb hv hs=>Sx (F.run A outer s H args us vs Q E hr he hb hv hs) λr s' h=>by
  cases r with
  |ok x=>cases x<;>exact h
  |error e=>exact h.elim⟩
def zb(s:ao G H)(h:aR K H ws ps):aR K (jc G H) ws ps:=Paired.mapP h λv p ⟨a,e,q⟩=>⟨a,e,i6 s q⟩
def se(h:dO ds≠.bad):∃(n:Nat) (d:D) (ps:List Pr),ds= [.int n,d]/\kn d=some (ps.map ax)/\1<=n/\n<=8/\OM.Wn n ps/\dO ds=.ok (.tuple ((OM.cy n (OM.Tr (OM.Mem ps))).map ax)) false:=by
 unfold dO at h
 split at h
 .rename_i n d
  cases q:kn d with
  |none=>rw[q]at h;exact absurd rfl h
  |some es=>
   rw[q]at h
   dsimp only at h
   cases q2:gx es with
   |none=>rw[q2]at h;exact absurd rfl h
   |some ps=>
    rw[q2]at h
    dsimp only at h
    by_cases c:1<=n/\n<=8/\OM.Wn n.toNat ps
    .have e:((n.toNat:Nat):Int)=n:=@AT
     refine⟨n.toNat,d,ps,by rw[e],by rw[q,jR q2],@AT,@AT,c.2.2,?_⟩
     unfold dO
     dsimp only
     rw[q]
     dsimp only
     rw[q2]
     dsimp only
     rw[Pe c]
    .rw[Pg c]at h;exact absurd rfl h
 .exact absurd rfl h
def zj(F:jb K mg "closed" ou ["many","pairs"] f fd)(E:jb K mg "every_pair" kF ["many"] g gd)(B:ji mg):cN P w K mg base ca "closed" ["many","pairs"] 3 dO:=by
 refine⟨⟨f,fd,F.mg,F.F.kp,F.b,((O1 (CP F E (C8 E B) B)).mono @A_).imp ?_⟩,λds h=>?_⟩
 .rintro vs H Q X ⟨G,ds,s,hl,r,h⟩
  have hb:dO ds≠.bad:=λz=>by rw[z]at h;exact h
  obtain⟨n,d,ps,rfl,hd,h1,h8,wn,e⟩:=se hb
  rw[e]at h
  cases r with
  |cons r1 r=>
   cases r with
   |cons r2 r=>
    cases r
    cases r1
    obtain⟨a,xs,rfl,hq,hr⟩:=(lg.seq (B:=none) (.inl r2) hd (ao.refl _))
    refine⟨n,a,xs,ps,rfl,h1,h8,hq.elim (λq=>.inl (s.seq q)) (λq=>.inr (q.grow s.grow)),(hr.pairs).grow s.grow,wn,λH' t ws hh ht ht' hp=>?_⟩
    have s2:=s.trans hh
    refine h (.ref t) (jc G H') H' hh pf (wD s2) (λb m hb=>by rw[A9 hh m];exact hb) ?_
    exact .tup (i6 s2 (.inl (.inl ht'))) (aR.rps (zb s2 hp))
 .obtain⟨n,d,ps,rfl,_⟩:=se h
  rfl
end
end RO
section
namespace RO
open PySem L2 RM
def K5{ca:Str->Addr}(vs:List V)(H:Hp)(Q:VK)(E:XK)(h:AY K vs H Q E):FT K ca 1 JK vs H Q E:=by
 obtain⟨a,ns,rfl,hS,q⟩:=h
 refine⟨H,[gn ns],ao.refl _,rfl,.cons (.scr hS) .nil,?_⟩
 rw[My]
 intro v G' H' s1 s2 s3 s4 fv
 have fv:Rp K G' v (.bool true):=fv
 cases fv
 exact q H' s1
def all_mk:IP:=by
 intro l w K h mg fa f41 X G hfa od41 an41 sl41 oc41 kV41 dc41 pm41 cd41 ct41 tMOST_THINGS F1 F2 F3 F4 F5 F6 F7 F8 F9 F10 F11 F12 F13 F14 F15 F16 F17 F18 F19 F20 F21 F22 F23 F24 F25 F26 F27 F28 F29 F30 F31 F32 F33 F34 F35 F36 F37 F38 F39 F40 a41 l41 c41 k41 zB yMOST_THINGS np
 have e:=hfa.symm.trans (PySem.W.mg_of X G a41)
 cases e
 have B:ji mg:=MM X G zB
 have jB:=PySem.W.mg_of X G yMOST_THINGS
 obtain⟨f1,d1,b6⟩:=F1.ex
 obtain⟨f2,d2,fx⟩:=F2.ex
 obtain⟨f3,d3,iL⟩:=F3.ex
 obtain⟨f4,d4,iJ⟩:=F4.ex
 obtain⟨f5,d5,cQ⟩:=F5.ex
 obtain⟨f6,d6,jU⟩:=F6.ex
 obtain⟨f7,d7,fZ⟩:=F7.ex
 obtain⟨f8,d8,fW⟩:=F8.ex
 obtain⟨f9,d9,bw⟩:=F9.ex
 obtain⟨f10,d10,fG⟩:=F10.ex
 obtain⟨f11,d11,i3⟩:=F11.ex
 obtain⟨f12,d12,fQ⟩:=F12.ex
 obtain⟨f13,d13,iI⟩:=F13.ex
 obtain⟨f14,d14,dN⟩:=F14.ex
 obtain⟨f15,d15,cK⟩:=F15.ex
 obtain⟨f16,d16,bC⟩:=F16.ex
 obtain⟨f17,d17,aZ⟩:=F17.ex
 obtain⟨f18,d18,iM⟩:=F18.ex
 obtain⟨f19,d19,fF⟩:=F19.ex
 obtain⟨f20,d20,fD⟩:=F20.ex
 obtain⟨f21,d21,cJ⟩:=F21.ex
 obtain⟨f22,d22,bZ⟩:=F22.ex
 obtain⟨f23,d23,cS⟩:=F23.ex
 obtain⟨f24,d24,gC⟩:=F24.ex
 obtain⟨f25,d25,fC⟩:=F25.ex
 obtain⟨f26,d26,gp⟩:=F26.ex
 obtain⟨f27,d27,gi⟩:=F27.ex
 obtain⟨f28,d28,aB⟩:=F28.ex
 obtain⟨f29,d29,eJ⟩:=F29.ex
 obtain⟨f30,d30,dJ⟩:=F30.ex
 obtain⟨f31,d31,aA⟩:=F31.ex
 obtain⟨f32,d32,c5⟩:=F32.ex
 obtain⟨f33,d33,dX⟩:=F33.ex
 obtain⟨f34,d34,dM⟩:=F34.ex
 obtain⟨f35,d35,dQ⟩:=F35.ex
 obtain⟨f36,d36,cZ⟩:=F36.ex
 obtain⟨f37,d37,aV⟩:=F37.ex
 obtain⟨f38,d38,bA⟩:=F38.ex
 obtain⟨f39,d39,bY⟩:=F39.ex
 obtain⟨f40,d40,cV⟩:=F40.ex
 have U41:=yL (st:=RQ.mK) l41 c41 k41
 have MC:jb K mg "law" RQ.mK ["script"] fa _:=⟨PySem.W.mg_of X G a41,U41,U41.binds (ps:=["script"]) λ_ _ _ _ _ _=>u5 λ_=>rfl⟩
 obtain⟨ca,hca⟩:∃ca:Str->Addr,True:=⟨λ_=>0,trivial⟩
 refine⟨PySem.W.fnOf "law" "law" (jw RQ.mK) (c8 RQ.mK) (aq RQ.mK) .none kV41 dc41 pm41 an41 cd41 ct41,λs v=>.of_eq rfl,λbase _ _=>?_⟩
 have gz:=(RQ.wd (P:=l.prog) (w:=w) (base:=base) (ca:=ca) b6 B).imp Az
 have j4:=(RQ.uY (P:=l.prog) (w:=w) (base:=base) (ca:=ca) fx B gz).imp IC
 have oN:=(RQ.w8 (P:=l.prog) (w:=w) (base:=base) (ca:=ca) iL B gz jB).imp KI
 have oW:=(RQ.yx (P:=l.prog) (w:=w) (base:=base) (ca:=ca) iJ B j4).imp Kh
 have kL:=RQ.sg (P:=l.prog) (w:=w) (base:=base) (ca:=ca) cQ B
 have rl:=zj (P:=l.prog) (w:=w) (base:=base) (ca:=ca) jU cQ B
 have m9:=(RQ.u7 (P:=l.prog) (w:=w) (base:=base) (ca:=ca) fZ B).imp Kz
 have mU:=(RQ.vR (P:=l.prog) (w:=w) (base:=base) (ca:=ca) fW B oN oW rl m9).imp zf
 have dG:=(RQ.qG (P:=l.prog) (w:=w) (base:=base) (ca:=ca) bw B mU).imp zq
 have lM:=RQ.sQ (P:=l.prog) (w:=w) (base:=base) (ca:=ca) fG B
 have nV:=RQ.y0 (P:=l.prog) (w:=w) (base:=base) (ca:=ca) i3 B
 have mD:=RQ.BX (P:=l.prog) (w:=w) (base:=base) (ca:=ca) fQ B dG kL lM
 have oP:=RQ.wB (P:=l.prog) (w:=w) (base:=base) (ca:=ca) iI B nV
 have kG:=RQ.sy (P:=l.prog) (w:=w) (base:=base) (ca:=ca) dN B mD np
 have iN:=RQ.pD (P:=l.prog) (w:=w) (base:=base) (ca:=ca) cK B np
 have dw:=RQ.sS (P:=l.prog) (w:=w) (base:=base) (ca:=ca) bC B
 have b4:=RQ.mS (P:=l.prog) (w:=w) (base:=base) (ca:=ca) aZ B iN np
 have o8:=RQ.yf (P:=l.prog) (w:=w) (base:=base) (ca:=ca) iM B np
 have l0:=RQ.sO (P:=l.prog) (w:=w) (base:=base) (ca:=ca) fF B b4 dw o8 np
 have lh:=RQ.tJ (P:=l.prog) (w:=w) (base:=base) (ca:=ca) fD B
 have iQ:=RQ.ph (P:=l.prog) (w:=w) (base:=base) (ca:=ca) cJ B b4 dw np
 have fY:=RQ.mQ (P:=l.prog) (w:=w) (base:=base) (ca:=ca) bZ B dG kG l0 lh iQ
 have gj:=RQ.vE (P:=l.prog) (w:=w) (base:=base) (ca:=ca) cS B fY oP
 have mH:=RQ.yp (P:=l.prog) (w:=w) (base:=base) (ca:=ca) gC B mD
 have lR:=RQ.tm (P:=l.prog) (w:=w) (base:=base) (ca:=ca) fC B
 have nz:=RQ.wc (P:=l.prog) (w:=w) (base:=base) (ca:=ca) gp B
 have mY:=RQ.u6 (P:=l.prog) (w:=w) (base:=base) (ca:=ca) gi B lR nz
 have aW:=RQ.sP (P:=l.prog) (w:=w) (base:=base) aB B
 have j6:=RQ.qS (P:=l.prog) (w:=w) (base:=base) (ca:=ca) eJ B
 have kK:=RQ.sD (P:=l.prog) (w:=w) (base:=base) (ca:=ca) dJ B
 have aX:=RQ.ox (P:=l.prog) (w:=w) (base:=base) aA B aW
 have jK:=RQ.p0 (P:=l.prog) (w:=w) (base:=base) (ca:=ca) c5 B
 have jY:=RQ.rq (P:=l.prog) (w:=w) (base:=base) (ca:=ca) dX B jK aW aX
 have km:=RQ.rB (P:=l.prog) (w:=w) (base:=base) (ca:=ca) dM B
 have kz:=RQ.qI (P:=l.prog) (w:=w) (base:=base) (ca:=ca) dQ B km
 have jI:=RQ.pZ (P:=l.prog) (w:=w) (base:=base) (ca:=ca) cZ B j6
 have bK:=RQ.tf (P:=l.prog) (w:=w) (base:=base) (ca:=ca) aV B
 have eG:=RQ.qL (P:=l.prog) (w:=w) (base:=base) bA B aW aX
 have gq:=RQ.ny (P:=l.prog) (w:=w) (base:=base) (ca:=ca) bY B bK aW eG aX jY
 have iu:=RQ.sh (P:=l.prog) (w:=w) (base:=base) (ca:=ca) cV B jI bK
 have Lu:=RQ.GQ (P:=l.prog) (w:=w) (base:=base) (ca:=ca) MC B mY bK gj kK mH kz iu aW aX gq eG
 exact gS.imp (sp:=FT K ca 1 JK) Lu K5
end RO
theorem PySem.Challenge.cw_rowsorder_k36_two_rows_and_one_holds : PySem.Challenge.rw_rowsorder_k36_two_rows_and_one.Holds :=
 RO.head RO.all_mk
end
