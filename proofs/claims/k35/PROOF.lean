import PyProof.Rows.All
import KE.RegKIsAll
import KE.KSortTup
import KE.KDictOf
import KE.KFromBytes
import KE.KDictList
import KE.KEqDict
import KE.KRevIter
import KE.KStateDown
import Wide.FinOn
import PySem.Challenge.RW_rowsorder_k35_points_or_a_knot
set_option Elab.async false
set_option linter.all false
set_option maxRecDepth 100000
set_option maxHeartbeats 1000000
def N7:=@PySem.wpAny_bind
def N8:=@List.getElem?_eq_getElem
def N9:=@PySem.wpAny_pure
def Oa:=@PySem.Heap.get?_push_of_some
def Ob:=@List.length_map
def Oc:=@Nat.le_refl
def Od:=@if_pos
def Oe:=@if_neg
def Of:=@List.mem_map
def Og:=@List.mem_cons_of_mem
def Oh:=@List.mem_filter
def Oi:=@List.mem_of_getElem?
def Oj:=@PySem.Heap.lt_size
def Ol:=@List.mem_cons_self
def Om:=@List.getElem?_map
def Oo:=@List.mem_cons
def Oq:=@List.getElem?_set_ne
def Ot:=@decide_eq_true
def Ou:=@PySem.Heap.get?_push_size
def Ov:=@List.getElem?_eq_some_iff
def Ow:=@Bool.false_eq_true
def Ox:=@List.mem_append
def Oy:=@Bool.and_eq_true
def Oz:=@decide_eq_false
def OB:=@decide_eq_true_eq
def OE:=@List.getElem?_set_self
def OF:=@Array.getElem?_eq_getElem
def OG:=@List.getElem?_append_left
def OH:=@List.getD_eq_getElem?_getD
def OI:=@List.mem_range
def OJ:=@List.map_cons
def OK:=@List.size_toArray
def OL:=@List.map_append
def ON:=@List.length_cons
def OO:=@List.length_append
def OP:=@Nat.ne_of_lt
def OQ:=@PySem.Heap.get?_update_self
def OR:=@List.mem_append_right
def OS:=@List.nodup_cons
def OT:=@List.mem_singleton
def OU:=@PySem.sizeLine_eq
def OV:=@List.getElem?_append_right
def OW:=@Bool.false_ne_true
def OX:=@List.map_map
def OY:=@if_false
def OZ:=@Nat.lt_of_lt_of_le
def O0:=@PySem.wpAny_holding
def O1:=@Nat.lt_irrefl
def O2:=@Nat.zero_le
def O3:=@List.mem_iff_getElem
def O4:=@Array.getD_eq_getD_getElem?
def O5:=@List.pairwise_map
def O6:=@List.length_filter_le
def O7:=@List.mem_append_left
def O8:=@PySem.wpAny_newObj_type
def O9:=@if_true
def Pa:=@List.all_eq_true
def Pb:=@PySem.boot_len
def Pc:=@Int.toNat_natCast
def Pd:=@PySem.Heap.get?_update_other
def Pe:=@Nat.lt_or_ge
def Pf:=@Nat.le_trans
def Pg:=@PySem.W.kia_one
def Pj:=@decide_eq_false_iff_not
def Pk:=@Nat.zero_add
def Pl:=@PySem.wpAny_setState_of
def Pn:=@Int.zero_add
def Po:=@Array.getElem?_eq_none
def Pp:=@List.length_set
def Pq:=@PySem.wpAny_call_entry
def Pt:=@List.Pairwise.imp_of_mem
def Pu:=@List.take_add_one
def Pw:=@of_decide_eq_true
def Px:=@Array.getElem?_eq_some_iff
def Py:=@Nat.mul_le_mul
def Pz:=@List.getElem_mem
def PB:=@PySem.mem_of_lookup
def PD:=@List.map_congr_left
def PF:=@List.nodup_append
def PH:=@List.getElem?_eq_none
def PJ:=@PySem.wpAny_callSpecial?_slot
def PK:=@PySem.wpAny_mono
def PL:=@List.length_take
def PM:=@PySem.Around.under_plainId
def PN:=@List.nodup_iff_pairwise_ne
def PQ:=@PySem.Heap.size_push
def PR:=@PySem.wpAny_dictEntries
def PU:=@Bool.not_eq_true'
def PV:=@PySem.builtinLookup_eq_fast
def PX:=@List.idxOf_lt_length_iff
def PY:=@PySem.F.slot_dict_keyiterator_next
def PZ:=@List.getElem?_replicate
def P0:=@PySem.wpAny_truthy_bool
def P4:=@List.reverse_cons
def P5:=@List.append_assoc
def P6:=@List.length_range
def P7:=@PyProof.Rows.callWith_type1
def P8:=@PySem.wpAny_specialOf
def P9:=@PySem.codeAny_builtin
def Qa:=@Bool.eq_iff_iff
def Qb:=@List.toList_toArray
def Qc:=@PySem.SeqAt.canLay_of_shaped
def Qd:=@Bool.and_self
def Qe:=@List.any_cons
def Qf:=@Array.getElem?_toList
def Qg:=@PySem.isSubtype_type
def Qh:=@PySem.size_of_entries
def Qi:=@PySem.Obj.data_mapDictKeys
def Qj:=@Nat.le_of_lt
def Qk:=@List.foldl_cons
def Ql:=@List.find?_cons
def Qm:=@List.set_eq_of_length_le
def Qn:=@PySem.Value.isInt_shape
def Qo:=@List.ext_getElem?
def Qp:=@List.filter_congr
def Qq:=@PySem.wpAny_typeNameOfWhole_keyiter
def Qr:=@List.length_eq_zero_iff
def Qs:=@List.filterMap_cons
def Qt:=@Array.length_toList
def Qu:=@List.filter_sublist
def Qv:=@List.length_reverse
def Qw:=@PySem.wpAny_setField
def Qx:=@List.nodup_range
def Qy:=@List.nodup_nil
def Qz:=@List.filter_eq_nil_iff
def QA:=@PyProof.Rows.F.plain_set_update_loop
def QB:=@Option.map_some
def QC:=@PySem.wpAny_passesOwn
def QD:=@List.append_nil
def QE:=@List.length_replicate
def QF:=@PySem.typeLookup_type
def QG:=@Bool.not_true
def QH:=@PySem.wpAny_pyIter_list
def QI:=@Array.mem_toList_iff
def QJ:=@List.pairwise_iff_getElem
def QK:=@PySem.wpAny_typeNameOf_keyiter
def QL:=@Nat.ne_of_gt
def QM:=@Nat.lt_trans
def QN:=@List.length_erase_of_mem
def QO:=@PySem.wpAny_typeOf
def QP:=@PySem.F.called_set
def QQ:=@PySem.F.slot_list_getattribute
def QR:=@List.take_length
def QS:=@PySem.Obj.isFreed_of_dict
def QT:=@List.replicate_succ
def QU:=@List.getElem?_range
def QV:=@PyProof.Rows.slot_tuple_getitem
def QW:=@PySem.F.plainAttrs_list
def QX:=@PySem.plainId_quiet
def QY:=@List.mem_filterMap
def QZ:=@PySem.wpAny_Call_Name_kw
def Q0:=@Option.map_eq_some_iff
def Q4:=@List.take_of_length_le
def Q5:=@List.getElem?_set
def Q6:=@PySem.wpAny_notOrdered_dict
def Q7:=@List.getElem?_reverse
def Q8:=@PySem.wpAny_isInstance
def Q9:=@List.pairwise_append
def Ra:=@PySem.wpAny_forIn_list
def Rb:=@List.mem_of_mem_take
def Rf:=@PySem.wpAny_askSetting
def Rg:=@List.range'_succ
def Rh:=@List.lookup_cons
def Ri:=@List.all_cons
def Rj:=@beq_eq_false_iff_ne
def Rk:=@Array.toList_append
def Rl:=@PySem.wpAny_dictEpoch
def Rm:=@List.drop_eq_getElem_cons
def Rn:=@Bool.or_eq_true
def Ro:=@PySem.Obj.data_mapFields
def Rq:=@PySem.codeAny_mono
def Rt:=@PySem.tupleKind_room_in1
def Ru:=@List.eq_of_mem_replicate
def Rv:=@PySem.F.slot_list_append
def Rw:=@PySem.F.type_list_append
def Rx:=@List.getElem_idxOf
def Ry:=@List.flatten_cons
def Rz:=@Nat.lt_trichotomy
def RA:=@Array.getElem_mem
def RB:=@Option.isSome_map
def RC:=@List.idxOf_append
open List (nil_append drop_zero set_set)
open PySem.W (Frag)
open PySem.PyData (int)
namespace HD
open PySem PySem.W
noncomputable abbrev DA:=@PySem.W.Fast.tw10156331382660048174
noncomputable abbrev Ip:=@PySem.W.Fast.tw11892475500146522536
noncomputable abbrev MX:=@PySem.W.Fast.tw6613529449190102663
noncomputable abbrev IE:=@PySem.W.Fast.tw14364793385576792824
noncomputable abbrev Hx:=@PySem.W.Fast.tw17154629097778926822
noncomputable abbrev DX:=@PySem.W.Fast.tw12822647523644345616
noncomputable def xU(p:Program):Thread:=
 ⟨do
  let code <-Hx p.main
  let frame <-DX code mainNs mainNs
  let _ <-run (.body (behindTheImports p) {scope:=p.main.scope,locals:=mainNs,globals:=mainNs,cells:=[],code,frame:=some frame})
  ret .none,
  .builtin "claim.caller" {},default,[]⟩
def EJ(p:Program):topStub p=xU p:=by
 unfold topStub xU Hx DX
 rw[<-PySem.W.Fast.te17154629097778926822,<-PySem.W.Fast.te12822647523644345616]
noncomputable def l4(p:Program)(w:World)(n₀:Nat)(ann:Option Value):Nat->SharedT->Thread->Option SharedT
 | 0,_,_=>none
 |n+1,s,t=>match through t with
  |true=>some s
  |false=>match MX n₀ ann t with
   |false=>none
   |true=>match DA (Ip IE) p w s t with
    |some (s',t')=>l4 p w n₀ ann n s' t'
    |none=>none
theorem uh{p:Program}{w:World}{n₀:Nat}{ann:Option Value}:∀{n:Nat} {s s':SharedT} {t:Thread},l4 p w n₀ ann n s t=some s'->topRun treeTable p w n₀ ann n s.abs t=some s'.abs
 | 0,_,_,_,h=>by cases h
 |n+1,s,s',t,h=>by
  unfold l4 at h
  unfold topRun
  cases ht:through t with
  |true=>rw[ht]at h;cases h;rfl
  |false=>
   rw[ht]at h
   have hq:MX n₀ ann t=stepOk n₀ ann t:=by unfold MX;rw[<-PySem.W.Fast.te6613529449190102663]
   dsimp only at h
   rw[hq]at h
   cases hk:stepOk n₀ ann t with
   |false=>rw[hk]at h;cases h
   |true=>
    rw[hk]at h
    have hq:DA (Ip IE) p w s t=stepT (denote treeTable) p w s t:=by unfold DA Ip IE;rw[<-PySem.W.Fast.te10156331382660048174,<-PySem.W.Fast.te11892475500146522536,<-PySem.W.Fast.te14364793385576792824]
    dsimp only at h
    rw[hq]at h
    cases hs:stepT (denote treeTable) p w s t with
    |none=>rw[hs]at h;cases h
    |some r=>let⟨s₂,t₂⟩:=r;rw[hs]at h;rw[stepT_spec hs];exact uh h
def treeOf(l:List Obj):BT:=(l.foldl (λ(x:BT×Nat) o=>(x.1.ins x.2 o,x.2+1)) (.nil,0)).1
noncomputable def CT(P:Params):BT:=treeOf (boot_heap P).objs.toList
abbrev sg:Nat:=11
abbrev CG:Life:={}
def boot_abs(P:Params):absHeap (CT P) sg CG=boot_heap P:=by kernel_rfl
def BO(w:World):((boot_heap w.params).isNs mainGlobals&&(Array.mk ([]:List GenState)).size==0,(boot_heap w.params).objs.size,(boot_heap w.params).nsMap mainGlobals "__annotations__")=(true,sg,some (.ref 6)):=by kernel_rfl
noncomputable def vc(w:World)(os:OsState):SharedT:=⟨CT w.params,sg,CG,Array.mk [],boot_drawn,boot_toks,os⟩
noncomputable def zS(p:Program)(w:World)(s:Shared):Bool:=staticsOk (importedModules p.main.body) (boot_heap w.params) s.heap&&namesBound p s.heap&&gensDone s&&laidKept (boot_heap w.params) s.heap
def FW{p q:Program}{loose:List Str}{Xt:Shared->Bool}{α:Type}{Yf:Shared->α}{Ya:World->α}{N:Nat}{g0:Bool}
  (e:opening p=plainProg p.main.scope.names) (hN:Nat.ble 600 N=true) (f:∀s,fenceModules? p s=some s)
  (run:∀(w:World) (os:OsState),(l4 p w sg (some (.ref 6)) N (vc w os) (xU p)).map (λs=>(zS p w s.abs,openSeen q loose (importedModules p.main.body) Xt g0 s.abs,Yf s.abs))=some (true,openGood q loose,Ya w)):LeftO p q loose Xt Yf Ya N g0:=λw=>by
 let⟨⟨h,gs,d,k,os⟩,e,e'⟩:=Q0.mp (boot_open e hN f w)
 obtain⟨rfl,rfl,rfl,rfl⟩:h=boot_heap w.params/\gs=Array.mk []/\d=boot_drawn/\k=boot_toks:=by simpa using e'
 obtain⟨z1,z2,z3⟩:_/\_/\_:=by simpa only [Prod.mk.injEq]using BO w
 let⟨s',r,ls⟩:=Q0.mp (run w os)
 obtain⟨l1,l2,l3⟩:_/\_/\_:=by simpa only [Prod.mk.injEq]using ls
 have r:=uh r
 have ha:(vc w os).abs=⟨boot_heap w.params,Array.mk [],boot_drawn,boot_toks,os⟩:=by
  show Shared.mk (absHeap (CT w.params) sg CG) _ _ _ _=_
  rw[boot_abs]
  rfl
 rw[ha,<-EJ]at r
 have t:topFrom treeTable p w N ⟨boot_heap w.params,Array.mk [],boot_drawn,boot_toks,os⟩=some s'.abs:=by
  unfold topFrom
  dsimp only
  rw[z1,z2,z3,r]
  show(match zS p w s'.abs with|true=>_|false=>_)=_
  rw[l1]
 unfold openEnds
 rw[e]
 show(topFrom treeTable p w N _).map _=_
 rw[t]
 exact congrArg some (Prod.ext l2 l3)
theorem map_two{α β γ:Type}{o:Option α}{f:α->β}{g:α->γ}{b:β}{c:γ}(h:o.map f=some b)(k:o.map g=some c):o.map (λs=>(f s,g s))=some (b,c):=by
 cases o with
 |none=>cases h
 |some x=>cases h;cases k;rfl
noncomputable abbrev CU(p:Program)(N:Nat)(w:World)(os:OsState):Option SharedT:=l4 p w sg (some (.ref 6)) N (vc w os) (xU p)
def GX{p q:Program}{loose:List Str}{Xt:Shared->Bool}{α:Type}{Yf:Shared->α}{Ya:World->α}{N:Nat}{g0:Bool}
  (e:opening p=plainProg p.main.scope.names) (hN:Nat.ble 600 N=true) (f:∀s,fenceModules? p s=some s)
  (r1:∀w os,(CU p N w os).map (λs=>(zS p w s.abs,(openSeen q loose (importedModules p.main.body) Xt g0 s.abs).1,Yf s.abs))=some (true,(openGood q loose).1,Ya w))
  (r2:∀w os,(CU p N w os).map (λs=>(openSeen q loose (importedModules p.main.body) Xt g0 s.abs).2)=some (openGood q loose).2):LeftO p q loose Xt Yf Ya N g0:=
 FW e hN f λw os=>by
  have h:=map_two (r1 w os) (r2 w os)
  unfold CU at h
  cases z:l4 p w sg (some (.ref 6)) N (vc w os) (xU p)with
  |none=>rw[z]at h;cases h
  |some x=>
   rw[z]at h
   simp only[QB,Option.some.injEq,Prod.mk.injEq]at h ⊢
   exact⟨h.1.1,Prod.ext h.1.2.1 h.2,h.1.2.2⟩
end HD
namespace L2
open PySem PySem.Spec PyProof.Rows
section
variable {P:Program}{w:World}{κ:Type}[DecidableEq κ]
def Ke(xs:List (κ×Addr×Value))(k:κ)(ep:Nat):Nat:=if(atKey xs k).isSome=true then ep else ep+1
def tK(kd:HeapKind P w κ)(h:Heap)(d:Addr)(xs:List (κ×Addr×Value))(ep:Nat):Prop:=
 ∃o es,h.get? d=some o/\o.ExactDict/\o.data=.dict es ep/\es.toList=xs.map (entryOfKey kd)/\(xs.map (·.1)).Nodup
variable {kd:HeapKind P w κ}{A:Around}{E:Value->Shared->Prop}{s:Shared}
def rO{d a:Addr}{ep:Nat}{xs:List (κ×Addr×Value)}{k:κ}{v:Value}{Q:Unit->Shared->Prop}(r:kd.room A)(hk:kd.is s.heap k a)(is:∀x∈xs,kd.is s.heap x.1 x.2.1)(m:tK kd s.heap d xs ep)(z:xs.length<=sizeLine)
  (q:∀h',tK kd h' d (storedH xs k a v) (Ke xs k ep)->Heap.SameBut d s.heap h'->Q () {s with heap:=h',toks:=s.toks+kd.draws k}):wpAny (model P w) A (dictSet d (.ref a) v) Q E s:=by
 let⟨o,es,eo,ex,ed,el,nd⟩:=m
 unfold dictSet
 try(with_reducible refine O0 ?_)
 refine N7 (kd.pyHash r hk ?_)
 unfold dictSetHashed
 try(with_reducible refine O0 ?_)
 refine N7 (wpAny_dictFind_heap r hk eo ed el is nd (λno=>?_) (λj p hj=>?_))
 .have nk:=atKey_none_of_get no
  have nm:k∉xs.map (·.1):=not_mem_keys_of_get no
  refine N7 (wpAny_rule (wpAny_updateDictKeys (hz:=by have:=Qh el;omega) eo ed
   (q _ ⟨_,es.push ⟨kd.hash k,.ref a,v⟩,OQ _ eo (QS (Qi ed _)),ex.mapDictKeys _,by unfold Ke;rw[nk];exact Qi ed _,by rw[storedH_new nk];simp[el,entryOfKey],?_⟩ (Heap.SameBut.update ..))))
  rw[storedH_new nk,OL,PF]
  refine⟨nd,by simp,λx hx y hy e=>nm ?_⟩
  simp at hy
  rw[<-hy,<-e];exact hx
 .have ok:=atKey_of_get nd hj
  refine N7 (wpAny_rule (N7 (wpAny_updateDict eo ed
   (wpAny_point (q _ ⟨_,es.modify j λe=>{e with val:=v},OQ _ eo (QS (Obj.data_mapDict ed _)),ex.mapDict _,by unfold Ke;rw[ok];exact Obj.data_mapDict ed _,?_,by rw[storedH_old ok,keys_map_putAt];exact nd⟩ (Heap.SameBut.update ..))))))
  rw[storedH_old ok]
  have t:=modify_map_putAt (entryOfKey kd) (λe:DictEntry=>{e with val:=v}) k v (λ_ _=>rfl) nd hj
  rw[<-el]at t
  cases es
  simpa using t
def DF{d a:Addr}{ep:Nat}{xs:List (κ×Addr×Value)}{k:κ}{v:Value}{Q:Unit->Shared->Prop}(r:kd.room A.in1)(hk:kd.is s.heap k a)(is:∀x∈xs,kd.is s.heap x.1 x.2.1)(m:tK kd s.heap d xs ep)(z:xs.length<=sizeLine)
  (q:∀h',tK kd h' d (storedH xs k a v) (Ke xs k ep)->Heap.SameBut d s.heap h'->Q () {s with heap:=h',toks:=s.toks+kd.draws k}):wpAny (model P w) A (setItem (.ref d) (.ref a) v) Q E s:=by
 have ty:s.TypeIs (.ref d) "dict":=let⟨o,_,eo,ex,_⟩:=m;⟨o,eo,ex.1⟩
 unfold setItem
 try(with_reducible refine O0 ?_)
 refine N7 (wpAny_sequenceKey ty (by decide) (N7 (PJ ty slot_dict_setitem (Pq slot_dict_setitem ty entry_dict_setitem ?_ (args_dict_setitem _ _ _)))))
 refine N7 (Q6 ty ?_)
 show wpAny _ _ (dictSet d (.ref a) v >>= _) _ _ s
 exact N7 (rO r hk is m z λh' m' s'=>N9 ⟨.none,rfl,N9 (q h' m' s')⟩)
def sd{d:Addr}{ep:Nat}{xs:List (κ×Addr×Value)}{Q:Value->Shared->Prop}(nm:(d==sysModules)=false)(m:tK kd s.heap d xs ep)
  (q:Q (.ref s.heap.objs.size) {s with heap:=s.heap.push {cls:=.type "dict_keyiterator",data:=.fields #[.ref d,.int 0 0,.int xs.length 0,.int ep 0]}}):wpAny (model P w) A (pyIter (.ref d)) Q E s:=by
 let⟨o,es,eo,ex,ed,el,nd⟩:=m
 have ty:s.TypeIs (.ref d) "dict":=⟨o,eo,ex.1⟩
 have sz:=Qh el
 refine wpAny_pyIter_slot ty F.slot_dict_iter (Pq F.slot_dict_iter ty F.entry_dict_iter ?_ (F.args_dict_iter_1 _))
 unfold Builtin.«dict.__iter__» Builtin.Dict.dictSlotNone
 refine N7 (N7 (Q6 ty ?_))
 refine N9 ?_
 show wpAny _ _ (Builtin.Dict.showsAll d >>= _) _ _ s
 unfold Builtin.Dict.showsAll
 rw[Oe (by rw[nm];exact OW)]
 refine N7 (N9 (N7 (PR eo ed (N7 (Rl eo ed (N7 (O8 (N9 ⟨_,rfl,"dict_keyiterator",_,⟨_,Ou _ rfl,rfl⟩,PY.lookup,?_⟩))))))))
 simpa[rawInt,sz]using q
def qD{it d:Addr}{i ep:Nat}{xs:List (κ×Addr×Value)}{x:κ×Addr×Value}{Q:Option Value->Shared->Prop}(hi:s.heap.IsKeyIter it d i xs.length ep)(m:tK kd s.heap d xs ep)(hx:xs[i]? =some x)
  (q:∀h',h'.IsKeyIter it d (i+1) xs.length ep->Heap.SameBut it s.heap h'->Q (some (.ref x.2.1)) {s with heap:=h'}):wpAny (model P w) A (pyNext (.ref it)) Q E s:=by
 let⟨oi,ei,ci,di⟩:=id hi
 let⟨o,es,eo,ex,ed,el,nd⟩:=m
 have sz:=Qh el
 have tI:=hi.typeIs
 unfold pyNext
 refine N7 (wpAny_attempt (PJ tI PY (Pq PY tI F.entry_dict_keyiterator_next ?_ (F.args_dict_keyiterator_next_1 _))))
 refine N7 (N9 (N7 (N7 ?_)))
 first|refine N7 (Qq tI (N9 ?_))|refine N7 (QK tI (N9 ?_))
 refine N7 (wpAny_fieldsOf ei di ?_)
 simp only[show Builtin.Dict_items.ownsTuple "dict_keyiterator"=false by decide,Ow,OY]
 show wpAny _ _ (if(Value.ref d==Value.none)=true then _ else _) _ _ s
 rw[Oe (show ¬((Value.ref d==Value.none)=true)from OW)]
 refine N7 (N9 (N7 (PR eo ed ?_)))
 rw[Oe (by rw[sz];simp)]
 refine N7 (N9 (N7 (Rl eo ed ?_)))
 rw[Oe (by simp)]
 refine N9 ?_
 have lt:i<es.size:=by
  rw[sz]
  rcases Pe i xs.length with h|h
  .exact h
  .simp[PH h]at hx
 have ke:es[i].key=.ref x.2.1:=by
  have:=entry_at el i
  rw[hx,OF lt]at this
  simp at this
  rw[this];rfl
 simp only[show ¬((i:Int)<0)from by omega,OY,Pc,OF lt]
 refine N7 ?_
 first|refine N7 (Qq tI (N9 ?_))|refine N7 (QK tI (N9 ?_))
 refine N7 (wpAny_isOneOf_keyiter tI ?_)
 show wpAny _ _ (setField (.ref it) 1 (rawInt ((i:Int)+1)) >>= _) _ _ s
 refine N7 (Qw ei di (by simp) ?_)
 have hj:(s.heap.update it (Obj.mapFields (·.setIfInBounds 1 (rawInt ((i:Int)+1))))).IsKeyIter it d (i+1) xs.length ep:=
  ⟨_,OQ _ ei (Obj.isFreed_of_fields (Ro di _)),(Obj.cls_mapFields ..).trans ci,by rw[Ro di];simp[rawInt]⟩
 refine N7 (O0 (N7 (wpAny_isOneOf_keyiter hj.typeIs ?_)))
 rw[ke]
 exact N9 (N9 ⟨_,rfl,N9 (q _ hj (Heap.SameBut.update ..))⟩)
def ub{it d:Addr}{i ep:Nat}{xs:List (κ×Addr×Value)}{Q:Option Value->Shared->Prop}(hh:A.handled=none)(hi:s.heap.IsKeyIter it d i xs.length ep)(m:tK kd s.heap d xs ep)(hx:xs.length<=i)
  (q:∀h',Heap.ExtBut it s.heap h'->Q none {s with heap:=h'}):wpAny (model P w) A (pyNext (.ref it)) Q E s:=by
 let⟨oi,ei,ci,di⟩:=id hi
 let⟨o,es,eo,ex,ed,el,nd⟩:=m
 have sz:=Qh el
 have tI:=hi.typeIs
 unfold pyNext
 refine N7 (wpAny_attempt (PJ tI PY (Pq PY tI F.entry_dict_keyiterator_next ?_ (F.args_dict_keyiterator_next_1 _))))
 refine N7 (N9 (N7 (N7 ?_)))
 first|refine N7 (Qq tI (N9 ?_))|refine N7 (QK tI (N9 ?_))
 refine N7 (wpAny_fieldsOf ei di ?_)
 simp only[show Builtin.Dict_items.ownsTuple "dict_keyiterator"=false by decide,Ow,OY]
 show wpAny _ _ (if(Value.ref d==Value.none)=true then _ else _) _ _ s
 rw[Oe (show ¬((Value.ref d==Value.none)=true)from OW)]
 refine N7 (N9 (N7 (PR eo ed ?_)))
 rw[Oe (by rw[sz];simp)]
 refine N7 (N9 (N7 (Rl eo ed ?_)))
 rw[Oe (by simp)]
 refine N9 ?_
 simp only[show ¬((i:Int)<0)from by omega,OY,Pc,Po (show es.size<=i by omega)]
 refine N7 ?_
 first|refine N7 (Qq tI (N9 ?_))|refine N7 (QK tI (N9 ?_))
 show wpAny _ _ (setField (.ref it) 0 .none >>= _) _ _ s
 refine N7 (Qw ei di (by simp) ?_)
 refine N7 ?_
 simp only[newExc,newTuple]
 refine N7 (O8 ?_ (by size_fits))
 refine N7 (wpAny_of_eq (by first|rfl|(simp only[firstArgMember];rfl)) (O8 ?_ (by size_fits)))
 simp only[raiseNew]
 refine N7 (wpAny_handled ?_)
 rw[show A.in1.handled=none from hh]
 refine N7 (N9 (wpAny_throw ?_))
 refine N7 (Q8 ⟨_,Ou _ rfl,rfl⟩ isSubtype_stop ?_)
 exact N9 (q _ (((Heap.SameBut.update ..).extBut.push _).push _))
end
end L2
section
set_option Elab.async false
namespace L2
open PySem PySem.Spec PyProof.Rows
abbrev Key:=Sum Int Str
def uB:Key->Value->Bool
 | .inl k,v=>Value.isInt k v
 | .inr x,v=>Value.isStrOf x v
def Na(w:World):Key->Int
 | .inl k=>hashInt k
 | .inr x=>hashStr w x
theorem cC:∀{k:Key} {v:Value},uB k v=true->(∃i t,k=Sum.inl i/\v=Value.int i t)\/(∃x t,k=Sum.inr x/\v=Value.str x t)
 | .inl i,v,h=>by
  obtain⟨t,e⟩:=Qn h
  exact .inl ⟨i,t,rfl,e⟩
 | .inr x,v,h=>by
  let⟨t,e⟩:=Value.isStrOf_shape h
  exact .inr ⟨x,t,rfl,e⟩
def B3(i:Int)(t:Tok):uB (.inl i) (.int i t)=true:=by simp[uB,Value.isInt]
def BX(x:Str)(t:Tok):uB (.inr x) (.str x t)=true:=by simp[uB,Value.isStrOf]
def II(a b:Int):decide ((Sum.inl a:Key)=Sum.inl b)=(a==b):=by
 by_cases e:a=b
 .subst e;simp
 .have h:¬(Sum.inl a:Key)=Sum.inl b:=λq=>e (Sum.inl.inj q)
  rw[Oz h]
  exact(Rj.mpr e).symm
def IZ(a b:Str):decide ((Sum.inr a:Key)=Sum.inr b)=decide (a=b):=by
 by_cases e:a=b
 .subst e;simp
 .have h:¬(Sum.inr a:Key)=Sum.inr b:=λq=>e (Sum.inr.inj q)
  rw[Oz h,Oz e]
def Kd(a:Int)(b:Str):decide ((Sum.inl a:Key)=Sum.inr b)=false:=Oz (λq=>nomatch q)
def IG(a:Str)(b:Int):decide ((Sum.inr a:Key)=Sum.inl b)=false:=Oz (λq=>nomatch q)
def bS(prog:Program)(w:World):PySem.KeyKind prog w Key where
 is:=uB
 hash:=Na w
 inj:=λv a b ha hb=>by
  rcases cC ha with⟨i,t,rfl,rfl⟩|⟨x,t,rfl,rfl⟩
  ·rcases cC hb with⟨j,u,rfl,e⟩|⟨y,u,rfl,e⟩
   ·injection e with e1 _;rw[e1]
   ·exact nomatch e
  ·rcases cC hb with⟨j,u,rfl,e⟩|⟨y,u,rfl,e⟩
   ·exact nomatch e
   ·injection e with e1 _;rw[e1]
 byValue:=λk v h=>by
  rcases cC h with⟨i,t,rfl,rfl⟩|⟨x,t,rfl,rfl⟩<;>rfl
 pyHash:=λhv h=>by
  rcases cC hv with⟨i,t,rfl,rfl⟩|⟨x,t,rfl,rfl⟩
  ·exact wpAny_pyHash_int h
  ·exact wpAny_pyHash_str h
 eqBool:=λhu hv h=>by
  rcases cC hu with⟨i,t,rfl,rfl⟩|⟨x,t,rfl,rfl⟩
  ·rcases cC hv with⟨j,u,rfl,rfl⟩|⟨y,u,rfl,rfl⟩
   ·rw[II]at h;exact wpAny_eqBool_int h
   ·rw[Kd]at h;exact SeqAt.EqAt.int_str i t y u _ _ _ _ h
  ·rcases cC hv with⟨j,u,rfl,rfl⟩|⟨y,u,rfl,rfl⟩
   ·rw[IG]at h;exact SeqAt.EqAt.str_int x t j u _ _ _ _ h
   ·rw[IZ]at h;exact wpAny_eqBool_str h
 «strs»:=λk x t v h=>by
  rcases cC h with⟨i,u,rfl,e⟩|⟨y,u,rfl,e⟩
  ·exact nomatch e
  ·injection e with e1 _
   subst e1
   cases v<;>rfl
def wF(prog:Program)(w:World)(i:Int)(t:Tok):(bS prog w).is (.inl i) (.int i t)=true:=B3 i t
def wc(prog:Program)(w:World)(x:Str)(t:Tok):(bS prog w).is (.inr x) (.str x t)=true:=BX x t
inductive V where
 |non|bl (b:Bool)|int (i:Int)|str (x:Str)|byt (b:Array UInt8)|flt (b:UInt64)|ref (a:Addr)|ty (n:String)
 deriving DecidableEq
def RelV:V->Value->Prop
 | .non,u=>u=Value.none
 | .bl b,u=>u=Value.bool b
 | .int i,u=>∃t,u=Value.int i t
 | .str x,u=>∃t,u=Value.str x t
 | .byt b,u=>∃t,u=Value.bytes b t
 | .flt b,u=>∃t,u=Value.float b t
 | .ref a,u=>u=Value.ref a
 | .ty n,u=>u=Value.type n
abbrev Vals:List V->List Value->Prop:=Paired RelV
def Vals.length{xs:List V}{us:List Value}(r:Vals xs us):xs.length=us.length:=Paired.length r
theorem Vals.get:∀{xs:List V} {us:List Value} {i:Nat} {x:V},Vals xs us->xs[i]? =some x->∃u,us[i]? =some u/\RelV x u
 |_,_,_,_,.nil,e=>by simp at e
 |_,_,0,_,.cons r _,e=>by simp at e;subst e;exact⟨_,rfl,r⟩
 |_,_,i+1,x,.cons _ t,e=>by
  obtain⟨u,h1,h2⟩:=Vals.get t (by simpa using e)
  exact⟨u,by simpa using h1,h2⟩
theorem Vals.set{x:V}{u:Value}(r:RelV x u):∀{xs:List V} {us:List Value} (i:Nat),Vals xs us->Vals (xs.set i x) (us.set i u)
 |_,_,_,.nil=>.nil
 |_,_,0,.cons _ t=>.cons r t
 |_,_,i+1,.cons q t=>.cons q (Vals.set r i t)
theorem Vals.append:∀{xs ys:List V} {us ws:List Value},Vals xs us->Vals ys ws->Vals (xs++ys) (us++ws)
 |_,_,_,_,.nil,s=>s
 |_,_,_,_,.cons r t,s=>.cons r (Vals.append t s)
theorem Vals.take:∀{xs:List V} {us:List Value} (n:Nat),Vals xs us->Vals (xs.take n) (us.take n)
 |_,_,0,_=>.nil
 |_,_,_+1,.nil=>.nil
 |_,_,n+1,.cons r t=>.cons r (Vals.take n t)
theorem Vals.drop:∀{xs:List V} {us:List Value} (n:Nat),Vals xs us->Vals (xs.drop n) (us.drop n)
 |_,_,0,r=>r
 |_,_,_+1,.nil=>.nil
 |_,_,n+1,.cons _ t=>Vals.drop n t
def rN:Option V->Option Value->Prop
 |some v,some u=>RelV v u
 |none,none=>True
 |_,_=>False
def KV{κ:Type}:List (κ×V)->List (κ×Value)->Prop:=Paired λ(p:κ×V) (q:κ×Value)=>p.1=q.1/\RelV p.2 q.2
def kV:Key->V
 | .inl i=>.int i
 | .inr x=>.str x
inductive HO where
 |lst (xs:List V)
 |tup (xs:List V)
 |dK (kvs:List (Key×V))|dT (kvs:List (List Key×V)) (ep:Nat)
 |set (S:Int->Bool) (n:Nat)
 |ins (C dx:Addr) (fs:List (Str×V))
 |own (x:Addr)
 |xd (fs:List (Str×V))
 |met (f x:Addr)
 |bD (lo hi:Int)
 |ba (o:Obj) (u:HO)
 |tbl (ps:Array Value)
 |ext (φ:Heap->Prop)
abbrev Hp:=Addr->Option HO
def upd(H:Hp)(a:Addr)(o:HO):Hp:=λb=>if b=a then some o else H b
def av{H:Hp}{a:Addr}{o:HO}:upd H a o a=some o:=by unfold upd;rw[Od rfl]
def ar{H:Hp}{a b:Addr}{o:HO}(h:b≠a):upd H a o b=H b:=by unfold upd;rw[Oe h]
def Gu{H:Hp}{a:Addr}{o u:HO}:upd (upd H a o) a u=upd H a u:=by
 funext b;unfold upd;split<;>rfl
def mO{H:Hp}{a b:Addr}{o u:HO}(h:H a=some o)(h':H b=some u)(d:o≠u):a≠b:=by
 intro e;subst e;rw[h]at h';exact d (Option.some.inj h')
def aC{H:Hp}{a b:Addr}{o:HO}(h:H a=some o)(h':H b=none):a≠b:=by
 intro e;subst e;rw[h]at h';cases h'
section
variable (P:Program)(w:World)
def wM(h:Heap)(a:Addr)(items:Array Value):Prop:=∃o,h.get? a=some o/\o.cls=.type "tuple"/\∃n,o.data=.seq items n/\o.dict=none
def wM.isTup{h:Heap}{a:Addr}{items:Array Value}(x:wM h a items):IsTup h a items:=let⟨o,e,c,n,d,_⟩:=x;⟨o,e,c,n,d⟩
def wM.new(h:Heap)(items:Array Value):wM (h.push {cls:=.type "tuple",data:=.seq items}) h.objs.size items:=⟨_,Ou _ rfl,rfl,_,rfl,rfl⟩
def bJ(H:Hp)(h:Heap)(a:Addr):HO->Prop
 | .lst xs=>xs.length<=sizeLine/\∃(its:List Value) (n:Nat),Vals xs its/\h.get? a=some {cls:=.type "list",data:=.seq its.toArray n}
 | .tup xs=>xs.length<=sizeLine/\∃its:List Value,Vals xs its/\wM h a its.toArray
 | .dK kvs=>kvs.length<=sizeLine/\(a==sysModules)=false/\∃vs,KV kvs vs/\h.DictOf (bS P w) a vs
 | .dT kvs ep=>kvs.length<=sizeLine/\(a==sysModules)=false/\∃xs:List (List Key×Addr×Value),
   Paired (λ(p:List Key×V) (q:List Key×Addr×Value)=>p.1=q.1/\(H q.2.1=some (.tup (p.1.map kV))\/∃o,H q.2.1=some (.ba o (.tup (p.1.map kV))))/\RelV p.2 q.2.2) kvs xs/\
   tK (tupleKind (bS P w)) h a xs ep
 | .set S n=>h.SetOf (intKind P w) a S n
 | .ins C dx fs=>H dx=some (.own a)/\fs.length<=1000/\dx≠a/\h.get? a=some (PySem.W.instObj C dx)/\
   ∃mA,h.Ns1 dx mA/\(∀f,rN (fs.lookup f) (mA f))/\PySem.Within mA (fs.map (·.1))
 | .own _=>∃o,h.get? a=some o
 | .xd fs=>∃mA,h.Ns1 a mA/\∀f,rN (fs.lookup f) (mA f)
 | .bD lo hi=>∃t u v,h.get? a=some {cls:=.type "range",data:=.fields #[.int lo t,.int hi u,.int 1 v]}
 | .ba o u=>h.get? a=some o/\bJ H h a u
 | .tbl ps=>h.get? a=some {cls:=.none,data:=.fields ps}
 | .met f x=>h.get? a=some (PySem.W.methodObj (.ref f) (.ref x))
 | .ext φ=>φ h/\(∃o,h.get? a=some o)/\∀h1 h2:Heap,φ h1->(∀o,h1.get? a=some o->h2.get? a=some o)->φ h2
def lH(H:Hp)(h:Heap):Prop:=∀a o,H a=some o->bJ P w H h a o
end
section
variable {P:Program}{w:World}{H H':Hp}{h h':Heap}{a:Addr}{o:HO}
theorem bJ.lt(x:bJ P w H h a o):a<h.objs.size:=by
 cases o with
 |lst xs=>let⟨_,_,_,_,e⟩:=x;exact Oj e
 |tup xs=>let⟨_,_,_,p⟩:=x;exact p.isTup.lt
 |dK kvs=>let⟨_,_,_,_,o,_,_,e,_⟩:=x;exact Oj e
 |dT kvs ep=>let⟨_,_,_,_,o,_,e,_⟩:=x;exact Oj e
 |set S n=>let⟨o,_,_,_,e,_⟩:=x;exact Oj e
 |ins C dx fs=>let⟨_,_,_,e,_⟩:=x;exact Oj e
 |own y=>let⟨_,e⟩:=x;exact Oj e
 |xd fs=>let⟨_,⟨_,_,_,e,_⟩,_⟩:=x;exact Oj e
 |bD lo hi=>let⟨_,_,_,e⟩:=x;exact Oj e
 |ba ob u=>let⟨e,_⟩:=x;exact Oj e
 |tbl ps=>exact Oj (show h.get? a=some _ from x)
 |met f y=>exact Oj (show h.get? a=some _ from x)
 |ext φ=>let⟨_,⟨_,e⟩,_⟩:=x;exact Oj e
theorem Paired.mapP{α β:Type}{F G:α->β->Prop}:∀{l₁:List α} {l₂:List β},Paired F l₁ l₂->(∀a b,F a b->G a b)->Paired G l₁ l₂
 |_,_,.nil,_=>.nil
 |_,_,.cons r t,f=>.cons (f _ _ r) (Paired.mapP t f)
theorem bJ.stay(x:bJ P w H h a o)(k:∀b u,(b=a\/H b=some (.own a))->h.get? b=some u->h'.get? b=some u)
  (ho:∀b,H b=some (.own a)->H' b=some (.own a)) (ht:∀b xs,(H b=some (.tup xs)\/∃o,H b=some (.ba o (.tup xs)))->(H' b=some (.tup xs)\/∃o,H' b=some (.ba o (.tup xs)))):bJ P w H' h' a o:=by
 induction o with
 |lst xs=>let⟨z,its,n,r,e⟩:=x;exact⟨z,its,n,r,k _ _ (.inl rfl) e⟩
 |tup xs=>let⟨z,its,r,ob,e,c⟩:=x;exact⟨z,its,r,ob,k _ _ (.inl rfl) e,c⟩
 |dK kvs=>let⟨z,y,vs,r,ob,es,ep,e,c⟩:=x;exact⟨z,y,vs,r,ob,es,ep,k _ _ (.inl rfl) e,c⟩
 |dT kvs ep=>
  let⟨z,y,xs,r,ob,es,e,c⟩:=x
  exact⟨z,y,xs,Paired.mapP r λp q z=>⟨z.1,ht _ _ z.2.1,z.2.2⟩,ob,es,k _ _ (.inl rfl) e,c⟩
 |set S n=>let⟨ob,es,ep,t,e,c⟩:=x;exact⟨ob,es,ep,t,k _ _ (.inl rfl) e,c⟩
 |ins C dx fs=>
  let⟨d,z,ne,e,mA,⟨od,es,ep,e2,c⟩,r⟩:=x
  exact⟨ho _ d,z,ne,k _ _ (.inl rfl) e,mA,⟨od,es,ep,k _ _ (.inr d) e2,c⟩,r⟩
 |own y=>let⟨ob,e⟩:=x;exact⟨ob,k _ _ (.inl rfl) e⟩
 |xd fs=>let⟨mA,⟨od,es,ep,e,c⟩,r⟩:=x;exact⟨mA,⟨od,es,ep,k _ _ (.inl rfl) e,c⟩,r⟩
 |bD lo hi=>let⟨t,u,v,e⟩:=x;exact⟨t,u,v,k _ _ (.inl rfl) e⟩
 |ba ob u ih=>let⟨e,q⟩:=x;exact⟨k _ _ (.inl rfl) e,ih q⟩
 |tbl ps=>
  have e:h.get? a=some {cls:=.none,data:=.fields ps}:=x
  exact k a _ (.inl rfl) e
 |met f y=>
  have e:h.get? a=some (PySem.W.methodObj (.ref f) (.ref y)):=x
  exact k a _ (.inl rfl) e
 |ext φ=>let⟨p,⟨o,e⟩,st⟩:=x;exact⟨st _ _ p λo q=>k _ _ (.inl rfl) q,⟨o,k _ _ (.inl rfl) e⟩,st⟩
def lH.lt(x:lH P w H h)(e:H a=some o):a<h.objs.size:=(x a o e).lt
theorem lH.fresh(x:lH P w H h)(e:h.objs.size<=a):H a=none:=by
 cases q:H a with
 |none=>rfl
 |some u=>exact absurd (OZ (x.lt q) e) (O1 _)
def lH.kept(x:lH P w H h)(k:∀b u,h.get? b=some u->h'.get? b=some u):lH P w H h':=λa o e=>
 (x a o e).stay (λb u _ q=>k b u q) (λ_ q=>q) λ_ _ q=>q
def lH.laid(x:lH P w H h)(k:∀b u,h.get? b=some u->h'.get? b=some u)(hp:h.objs.size<=a)(new:bJ P w (upd H a o) h' a o):lH P w (upd H a o) h':=λb u e=>by
 have hn:=x.fresh hp
 by_cases hb:b=a
 .subst hb;rw[av]at e;cases e;exact new
 .rw[ar hb]at e
  exact(x b u e).stay (λc v _ q=>k c v q) (λc q=>by rw[ar (aC q hn)];exact q) λc xs q=>q.imp (λq=>by rw[ar (aC q hn)];exact q) λ⟨o,q⟩=>⟨o,by rw[ar (aC q hn)];exact q⟩
end
def Rd(H:Hp)(a:Addr)(u:HO):Prop:=H a=some u\/∃o,H a=some (.ba o u)
def Rd.ok{P:Program}{w:World}{H:Hp}{h:Heap}{a:Addr}{u:HO}(r:Rd H a u)(x:lH P w H h):bJ P w H h a u:=by
 rcases r with r|⟨o,r⟩
 .exact x a u r
 .let⟨_,q⟩:=x a _ r
  exact q
def Lg:Option HO->Prop
 |some (.lst _)=>True
 |some (.dK _)=>True
 |some (.dT _ _)=>True
 |some (.set _ _)=>True
 |some (.ins _ _ _)=>True
 |some (.ext _)=>True
 |_=>False
section
variable {P:Program}{w:World}{H:Hp}{h h':Heap}{x e:Addr}{o':HO}
def lH.write(ok:lH P w H h)(mu:Lg (H x))(he:e=x\/H e=some (.own x))(k:∀b u,b≠e->h.get? b=some u->h'.get? b=some u)(heo:∃u,h'.get? e=some u)
  (new:bJ P w (upd H x o') h' x o'):lH P w (upd H x o') h':=λb u q=>by
 have nown:∀c y,H c=some (.own y)->c≠x:=λc y r z=>by subst z;rw[r]at mu;exact mu
 have ntup:∀c xs,H c=some (.tup xs)->c≠x:=λc xs r z=>by subst z;rw[r]at mu;exact mu
 by_cases hb:b=x
 .subst hb;rw[av]at q;cases q;exact new
 .rw[ar hb]at q
  by_cases hbe:b=e
  .have q':H b=some (.own x):=by
    rcases he with z|z
    .exact absurd (hbe.trans z) hb
    .rw[hbe];exact z
   rw[q]at q';cases q'
   let⟨v,hv⟩:=heo
   exact⟨v,by rw[hbe];exact hv⟩
  .refine (ok b u q).stay (λc v hc r=>k c v ?_ r) (λc r=>by rw[ar (nown c b r)];exact r) λc xs r=>r.imp (λr=>by rw[ar (ntup c xs r)];exact r) λ⟨o,r⟩=>⟨o,by rw[ar (λz=>by subst z;rw[r]at mu;exact mu)];exact r⟩
   rcases hc with rfl|hc
   .exact hbe
   .rintro rfl
    rcases he with z|z
    .exact nown c b hc z
    .rw[hc]at z;cases z;exact hb rfl
end
structure Un(fs ex:List Addr)(H H':Hp)(h h':Heap):Prop where
 keep:∀b o,h.get? b=some o->H b=none->b∉fs->b∉ex->h'.get? b=some o
 slot:∀b o,h.get? b=some o->H b=none->b∈fs->b∉ex->∃sl,h'.get? b=some {o with slots:=sl}
 free:∀b o,h.get? b=some o->H b=none->b∉ex->H' b=none
 there:∀b o,h.get? b=some o->b∉ex->∃o',h'.get? b=some o'
 tups:∀b xs,H b=some (.tup xs)->H' b=some (.tup xs)
 frzs:∀b o u,H b=some (.ba o u)->H' b=some (.ba o u)
 tbls:∀b ps,H b=some (.tbl ps)->∃more,H' b=some (.tbl (ps++more))
section
variable {fs fs' ex ex':List Addr}{H H1 H2:Hp}{h h1 h2 h':Heap}{a x e:Addr}{o:HO}
def Un.any(u:Un fs ex H H1 h h1){b:Addr}{ob:Obj}(q:h.get? b=some ob)(n:H b=none)(hx:b∉ex):∃sl,h1.get? b=some {ob with slots:=sl}:=by
 by_cases hb:b∈fs
 .exact u.slot b ob q n hb hx
 .exact⟨ob.slots,u.keep b ob q n hb hx⟩
def Un.kept(k:∀b u,h.get? b=some u->h'.get? b=some u):Un fs ex H H h h':=
 ⟨λb ob q _ _ _=>k b ob q,λb ob q _ _ _=>⟨ob.slots,k b ob q⟩,λ_ _ _ n _=>n,λb ob q _=>⟨ob,k b ob q⟩,λ_ _ q=>q,λ_ _ _ q=>q,λ_ ps q=>⟨#[],by rw[q];simp⟩⟩
def Un.refl:Un fs ex H H h h:=Un.kept λ_ _ q=>q
def Un.laid(k:∀b u,h.get? b=some u->h'.get? b=some u)(hp:h.objs.size<=a)(hn:H a=none):Un fs ex H (upd H a o) h h' where
 keep:=λb u q _ _ _=>k b u q
 slot:=λb u q _ _ _=>⟨u.slots,k b u q⟩
 free:=λb u q n _=>by rw[ar (OP (OZ (Oj q) hp))];exact n
 there:=λb u q _=>⟨u,k b u q⟩
 tups:=λb xs q=>by rw[ar (aC q hn)];exact q
 frzs:=λb u xs q=>by rw[ar (aC q hn)];exact q
 tbls:=λb ps q=>⟨#[],by rw[ar (aC q hn),q];simp⟩
def Un.write(mu:Lg (H x))(he:e=x\/H e=some (.own x))(k:∀b u,b≠e->h.get? b=some u->h'.get? b=some u)(heo:∃u,h'.get? e=some u):Un fs ex H (upd H x o) h h':=by
 have hx:∀b,H b=none->b≠x:=λb n z=>by subst z;rw[n]at mu;exact mu
 have hb:∀b,H b=none->b≠e:=λb n z=>by
  subst z
  rcases he with r|r
  .exact hx b n r
  .rw[n]at r;cases r
 have hm:∀b u,H b=some u->¬Lg (some u)->b≠x:=λb u q nm z=>by subst z;rw[q]at mu;exact nm mu
 refine⟨λb u q n _ _=>k b u (hb b n) q,λb u q n _ _=>⟨u.slots,k b u (hb b n) q⟩,λb u q n _=>by rw[ar (hx b n)];exact n,λb u q _=>?_,
  λb xs q=>by rw[ar (hm b _ q λz=>z)];exact q,λb u xs q=>by rw[ar (hm b _ q λz=>z)];exact q,λb ps q=>⟨#[],by rw[ar (hm b _ q λz=>z),q];simp⟩⟩
 by_cases hbe:b=e
 .subst hbe;exact heo
 .exact⟨u,k b u hbe q⟩
end
def Mf(h:Heap)(H:Hp):List Addr:=(List.range h.objs.size).filter λa=>(H a).isSome
def uT(h:Heap)(H:Hp):Heap:=PySem.W.hideAll h (Mf h H)
def B9(h:Heap)(H:Hp):(uT h H).objs.size=h.objs.size:=PySem.W.hideAll_size _ _
def C6{h:Heap}{H:Hp}{b:Addr}{o:Obj}(e:h.get? b=some o)(n:H b=none):(uT h H).get? b=some o:=
 PySem.W.hideAll_get _ e λhm=>by
  have q:(H b).isSome=true:=(Oh.mp hm).2
  rw[n]at q;simp at q
theorem Hu{h:Heap}{H:Hp}{b:Addr}{o:Obj}(e:(uT h H).get? b=some o):h.get? b=some o/\H b=none:=by
 have e':h.get? b=some o:=PySem.W.of_hideAll (Mf h H) e
 refine⟨e',?_⟩
 cases q:H b with
 |none=>rfl
 |some x=>
  have hm:b∈Mf h H:=Oh.mpr ⟨OI.mpr (Oj e'),by simp[q]⟩
  have z:(uT h H).get? b=none:=PySem.W.hideAll_none (Mf h H) hm
  rw[z]at e;cases e
def Gb(g h:Heap)(L:Addr):List (Addr×Obj):=(List.range h.objs.size).filterMap λa=>if a=L\/(g.get? a).isSome=true then none else(h.get? a).map λo=>(a,o)
def rest(g h:Heap)(L d:Addr):List (Addr×Obj):=(Gb g h L).filter λp=>decide (p.1≠d)
structure Mod(K:Frag)(mg:Str->Option Value)(base:Heap):Prop where
 kin:K.In base
 glob:base.Ns mainGlobals mg
 blt:∃mb,base.Ns builtinsNs mb/\∀x:Str,x≠"__name__"->mb x=bootBuiltins x
 nolimit:base.NoLimit
 sys:∃mm,base.Ns sysModules mm
structure Cx where
 prog:Program
 w:World
 K:Frag
 mg:Str->Option Value
 base:Heap
 A:Around
 N:List Str
 s₀:Shared
 H₀:Hp
 env:Env
 outer:List Env
 stack:List Env
 ex:List Addr
 fn:Str->Bool
 calm:Bool
 pn:List (Addr×Obj)
 xe:Value->Shared->Prop
def nH(l:List Env):List Addr:=l.filterMap (·.frame)
abbrev Cx.fs(X:Cx):List Addr:=nH X.outer
def yc(sc:Scope)(x:Str):Prop:=sc.names.lookup x=some .local\/sc.names.lookup x=some .cell\/sc.names.lookup x=some .free
def Loc(sc:Scope)(x:Str):Prop:=sc.names.lookup x=some .local\/sc.names.lookup x=some .cell
def Look(env:Env)(h:Heap)(m:Str->Option Value)(x:Str)(u:Value):Prop:=
 (env.kindOf x=some .local/\m x=some u)\/((env.kindOf x=some .cell\/env.kindOf x=some .free)/\∃c,env.cells.lookup x=some c/\h.IsCell c (some u))
structure Cx.Ok(X:Cx):Prop where
 mod:Mod X.K X.mg X.base
 kind:X.env.scope.kind=.function
 glob:X.env.globals=mainGlobals
 blt:X.env.builtins=builtinsNs
 above:X.s₀.heap.objs.size<=X.env.locals
 inj:∀x y c,X.env.cells.lookup x=some c->X.env.cells.lookup y=some c->x=y
 has:∀x,(X.env.kindOf x=some .cell\/X.env.kindOf x=some .free)->∃c,X.env.cells.lookup x=some c
 cab:∀x c,X.fn x=true->X.env.cells.lookup x=some c->X.s₀.heap.objs.size<=c
 hd:X.calm=true->X.A.handled=none
 frames:X.A.frames=some X.stack
 stk:X.stack=X.outer\/(X.stack=X.env::X.outer/\X.env.frame=some X.env.locals)
 exf:∀b∈X.ex,b≠X.env.locals/\∀x c,X.env.cells.lookup x=some c->c≠b
 bs:∀b o,X.base.get? b=some o->X.s₀.heap.get? b=some o/\X.H₀ b=none
 bsz:X.base.objs.size<=X.s₀.heap.objs.size
 noex:∀b o,X.base.get? b=some o->b∉X.ex
 exfs:∀b∈X.ex,b∉X.fs
 funs:X.s₀.heap.FunFrames X.base X.outer
 frf:∀b∈X.fs,X.H₀ b=none
structure Inv(X:Cx)(pins:List (Addr×Obj))(σ:List (Option V))(H:Hp)(s:Shared):Prop where
 ok:X.Ok
 os:s.os=X.s₀.os
 bare:AllBare s.gens
 base:Un X.fs X.ex X.H₀ H X.s₀.heap s.heap
 loc:∃m,s.heap.Ns X.env.locals m/\∀(i:Nat) (x:Str) (v:V),X.N[i]? =some x->σ[i]? =some (some v)->yc X.env.scope x->∃u,RelV v u/\Look X.env s.heap m x u
 cell:∀x c,X.env.cells.lookup x=some c->∃v,s.heap.IsCell c v
 free:H X.env.locals=none
 freeC:∀x c,X.env.cells.lookup x=some c->H c=none
 pin:∀p∈X.pn++pins,s.heap.get? p.1=some p.2/\H p.1=none/\p.1≠X.env.locals/\p.1∉X.fs/\∀v,p.2.data≠.cell v
 hok:lH X.prog X.w H s.heap
 len:σ.length=X.N.length
section
variable {X:Cx}{pins:List (Addr×Obj)}{σ:List (Option V)}{H H':Hp}{s:Shared}{h':Heap}
def Cx.Ok.nofr(ok:X.Ok){b:Addr}{o:Obj}(e:X.base.get? b=some o):b∉X.fs:=λhb=>by
 have:=(ok.funs.mem hb).1
 rw[e]at this;cases this
def Inv.bs(I:Inv X pins σ H s):∀b o,X.base.get? b=some o->s.heap.get? b=some o/\H b=none:=λb o e=>
 ⟨I.base.keep b o (I.ok.bs b o e).1 (I.ok.bs b o e).2 (I.ok.nofr e) (I.ok.noex b o e),I.base.free b o (I.ok.bs b o e).1 (I.ok.bs b o e).2 (I.ok.noex b o e)⟩
def Inv.bk(I:Inv X pins σ H s):∀b o,X.base.get? b=some o->s.heap.get? b=some o:=λb o e=>(I.bs b o e).1
def Inv.mod(I:Inv X pins σ H s):Mod X.K X.mg X.base:=I.ok.mod
def Inv.kIn(I:Inv X pins σ H s):X.K.In s.heap:=I.ok.mod.kin.keeps I.bk
def Inv.lt(I:Inv X pins σ H s):X.env.locals<s.heap.objs.size:=let⟨_,hn,_⟩:=I.loc;hn.lt
def Inv.sz(I:Inv X pins σ H s):X.s₀.heap.objs.size<=s.heap.objs.size:=Pf I.ok.above (Qj I.lt)
def Inv.nofs(I:Inv X pins σ H s){a:Addr}(h:s.heap.objs.size<=a):a∉X.fs:=λhb=>by
 let⟨_,o,ho,_⟩:=I.ok.funs.mem hb
 exact absurd (OZ (Oj ho) (Pf I.sz h)) (O1 _)
def Inv.cne(I:Inv X pins σ H s):∀x c,X.env.cells.lookup x=some c->c≠X.env.locals:=λx c e z=>by
 let⟨v,o,ho,hd⟩:=I.cell x c e
 let⟨m,⟨o',es,ep,ho',hd',_⟩,_⟩:=I.loc
 rw[z,ho']at ho;cases ho;rw[hd']at hd;cases hd
def Inv.funs(I:Inv X pins σ H s):s.heap.FunFrames X.base X.outer:=by
 have all:∀(l:List Env),(∀b∈nH l,b∈X.fs)->X.s₀.heap.FunFrames X.base l->s.heap.FunFrames X.base l:=by
  intro l
  induction l with
  |nil=>intro _ _;trivial
  |cons env r ih=>
   intro hs hl
   let⟨hk,⟨L,o,hf,hn,ho,hd⟩,hr⟩:=hl
   have hL:L∈X.fs:=hs L (by unfold nH;rw[Qs,hf];exact Ol)
   let⟨sl,e⟩:=I.base.slot L o ho (I.ok.frf L hL) hL λz=>I.ok.exfs L z hL
   exact⟨hk,⟨L,_,hf,hn,e,hd⟩,ih (λb hb=>hs b (by unfold nH;rw[Qs,hf];exact Og _ hb)) hr⟩
 exact all X.outer (λ_ hb=>hb) I.ok.funs
def Inv.stack(I:Inv X pins σ H s):s.heap.FunFrames X.base X.stack:=by
 rcases I.ok.stk with e|⟨e,hf⟩
 .rw[e];exact I.funs
 .rw[e]
  let⟨m,hn,_⟩:=I.loc
  refine .cons (by rw[I.ok.kind];decide) hf hn ?_ I.funs
  exact Heap.get?_none_of_le (Pf I.ok.bsz I.ok.above)
def Inv.stkSub(I:Inv X pins σ H s):∀b∈nH X.stack,b∈X.env.locals::X.fs:=λb hb=>by
 rcases I.ok.stk with e|⟨e,hf⟩
 .rw[e]at hb;exact Og _ hb
 .rw[e]at hb
  unfold nH at hb
  rw[Qs,hf]at hb
  exact hb
def Inv.stkFree(I:Inv X pins σ H s):∀b∈nH X.stack,H b=none:=λb hb=>by
 rcases Oo.mp (I.stkSub b hb)with e|hb
 .rw[e];exact I.free
 .let⟨_,o,ho,_⟩:=I.ok.funs.mem hb
  exact I.base.free b o ho (I.ok.frf b hb) λz=>I.ok.exfs b z hb
def Inv.step{g':Array GenState}{t':Nat}{d':Drawn}{ch:List Addr}(I:Inv X pins σ H s)
  (hch:∀b∈ch,(b∈X.ex\/X.s₀.heap.objs.size<=b)/\b≠X.env.locals/\(∀x c,X.env.cells.lookup x=some c->c≠b)/\∀p∈X.pn++pins,p.1≠b)
  (keep:∀b o,b≠X.env.locals->b∉X.fs->b∉ch->s.heap.get? b=some o->H b=none->h'.get? b=some o)
  (slot:∀b o,b≠X.env.locals->b∈X.fs->b∉ch->s.heap.get? b=some o->H b=none->∃sl,h'.get? b=some {o with slots:=sl}) (free:∀b o,b∉ch->s.heap.get? b=some o->H b=none->H' b=none)
  (there:∀b o,b∉ch->s.heap.get? b=some o->∃o',h'.get? b=some o')
  (tups:∀b xs,H b=some (.tup xs)->H' b=some (.tup xs)) (frzs:∀b o u,H b=some (.ba o u)->H' b=some (.ba o u)) (tbls:∀b ps,H b=some (.tbl ps)->∃more,H' b=some (.tbl (ps++more)))
  (ns:∀m,s.heap.Ns X.env.locals m->h'.Ns X.env.locals m) (hok:lH X.prog X.w H' h') (hg:AllBare g') :
  Inv X pins σ H' {s with heap:=h',gens:=g',drawn:=d',toks:=t'}:=by
 have neL:∀b o,X.s₀.heap.get? b=some o->b≠X.env.locals:=λb o e=>OP (OZ (Oj e) I.ok.above)
 have neC:∀b o,X.s₀.heap.get? b=some o->b∉X.ex->b∉ch:=λb o e hx hb=>by
  rcases(hch b hb).1 with z|z
  .exact hx z
  .exact absurd (OZ (Oj e) z) (O1 _)
 have cellK:∀x c,X.env.cells.lookup x=some c->∀v,s.heap.IsCell c v->h'.IsCell c v:=λx c e v ⟨o,ho,hd⟩=>by
  have nch:c∉ch:=λz=>(hch c z).2.2.1 x c e rfl
  by_cases hc:c∈X.fs
  .let⟨sl,q⟩:=slot c o (I.cne x c e) hc nch ho (I.freeC x c e)
   exact⟨_,q,hd⟩
  .exact⟨o,keep c o (I.cne x c e) hc nch ho (I.freeC x c e),hd⟩
 refine⟨I.ok,I.os,hg,⟨λb o e n hb hx=>?_,λb o e n hb hx=>?_,λb o e n hx=>?_,λb o e hx=>?_,λb xs e=>tups b xs (I.base.tups b xs e),λb o xs e=>frzs b o xs (I.base.frzs b o xs e),λb ps e=>?_⟩,?_,λx c e=>?_,?_,λx c e=>?_,λp hp=>?_,hok,I.len⟩
 .exact keep b o (neL b o e) hb (neC b o e hx) (I.base.keep b o e n hb hx) (I.base.free b o e n hx)
 .let⟨sl,e1⟩:=I.base.slot b o e n hb hx
  let⟨sl',e2⟩:=slot b _ (neL b o e) hb (neC b o e hx) e1 (I.base.free b o e n hx)
  exact⟨sl',e2⟩
 .let⟨o',e1⟩:=I.base.there b o e hx
  exact free b o' (neC b o e hx) e1 (I.base.free b o e n hx)
 .let⟨o',e1⟩:=I.base.there b o e hx
  exact there b o' (neC b o e hx) e1
 .let⟨m1,e1⟩:=I.base.tbls b ps e
  let⟨m2,e2⟩:=tbls b _ e1
  exact⟨m1++m2,by rw[e2,Array.append_assoc]⟩
 .let⟨m,hn,hl⟩:=I.loc
  refine⟨m,ns m hn,λi x v e1 e2 e3=>?_⟩
  let⟨u,r,l⟩:=hl i x v e1 e2 e3
  refine⟨u,r,?_⟩
  rcases l with l|⟨k,c,e,z⟩
  .exact .inl l
  .exact .inr ⟨k,c,e,cellK x c e _ z⟩
 .let⟨v,z⟩:=I.cell x c e
  exact⟨v,cellK x c e v z⟩
 .let⟨m,⟨o,_,_,ho,_⟩,_⟩:=I.loc
  exact free _ o (λz=>(hch _ z).2.1 rfl) ho I.free
 .let⟨v,o,ho,hd⟩:=I.cell x c e
  exact free c o (λz=>(hch c z).2.2.1 x c e rfl) ho (I.freeC x c e)
 .let⟨e,n,ne,nf,d⟩:=I.pin p hp
  have nch:p.1∉ch:=λz=>(hch p.1 z).2.2.2 p hp rfl
  exact⟨keep p.1 p.2 ne nf nch e n,free p.1 p.2 nch e n,ne,nf,d⟩
def Inv.un{t':Nat}(I:Inv X pins σ H s)(u:Un X.fs [] H H' s.heap h')(hok:lH X.prog X.w H' h'):Inv X pins σ H' {s with heap:=h',toks:=t'}:=by
 let⟨m,⟨o,es,ep,ho,r⟩,_⟩:=id I.loc
 let⟨sl,hL⟩:=u.any ho I.free (by simp)
 exact I.step (ch:=[]) (λ_ z=>nomatch z) (λb o _ hb _ e n=>u.keep b o e n hb (by simp)) (λb o _ hb _ e n=>u.slot b o e n hb (by simp)) (λb o _ e n=>u.free b o e n (by simp)) (λb o _ e=>u.there b o e (by simp)) u.tups u.frzs u.tbls (λm' hm=>by
  let⟨o',es',ep',ho',r'⟩:=hm
  rw[ho]at ho';cases ho'
  exact⟨_,es',ep',hL,r'⟩) hok I.bare
def Inv.call{g':Array GenState}{t':Nat}{d':Drawn}{ch:List Addr}(I:Inv X pins σ H s)(u:Un (nH X.stack) ch H H' s.heap h')(hok:lH X.prog X.w H' h')(hg:AllBare g')
  (hch:∀b∈ch,(b∈X.ex\/X.s₀.heap.objs.size<=b)/\b≠X.env.locals/\(∀x c,X.env.cells.lookup x=some c->c≠b)/\∀p∈X.pn++pins,p.1≠b) :
  Inv X pins σ H' {s with heap:=h',gens:=g',drawn:=d',toks:=t'}:=by
 let⟨m,⟨o,es,ep,ho,r⟩,_⟩:=id I.loc
 let⟨sl,hL⟩:=u.any ho I.free λz=>(hch _ z).2.1 rfl
 exact I.step hch (λb o hL hb hc e n=>u.keep b o e n (λz=>(Oo.mp (I.stkSub b z)).elim hL hb) hc) (λb o _ _ hc e n=>u.any e n hc) (λb o hc e n=>u.free b o e n hc) (λb o hc e=>u.there b o e hc) u.tups u.frzs u.tbls (λm' hm=>by
  let⟨o',es',ep',ho',r'⟩:=hm
  rw[ho]at ho';cases ho'
  exact⟨_,es',ep',hL,r'⟩) hok hg
def Inv.turned{t':Nat}{it:Addr}(I:Inv X pins σ H s)(k:∀b o,b≠it->s.heap.get? b=some o->h'.get? b=some o)(hn:H it=none)(hL:it≠X.env.locals)
  (h1:it∈X.ex\/X.s₀.heap.objs.size<=it) (h2:∀x c,X.env.cells.lookup x=some c->c≠it) (h3:∀p∈X.pn++pins,p.1≠it):Inv X pins σ H {s with heap:=h',toks:=t'}:=by
 have nit:∀b u,H b=some u->b≠it:=λb u e z=>by rw[z,hn]at e;cases e
 refine I.step (ch:=[it]) (λb hb=>?_) (λb o _ _ hc e _=>k b o (λz=>hc (by simp[z])) e) (λb o _ _ hc e _=>⟨o.slots,k b o (λz=>hc (by simp[z])) e⟩) (λ_ _ _ _ n=>n)
  (λb o hc e=>⟨o,k b o (λz=>hc (by simp[z])) e⟩) (λ_ _ e=>e) (λ_ _ _ e=>e) (λb ps e=>⟨#[],by rw[e];simp⟩) (λm hm=>?_) (λb u e=>?_) I.bare
 .have e:b=it:=by simpa using hb
  subst e
  exact⟨h1,hL,h2,h3⟩
 .let⟨o,es,ep,ho,r⟩:=hm
  exact⟨o,es,ep,k _ o (Ne.symm hL) ho,r⟩
 .refine (I.hok b u e).stay (λc v hc q=>k c v ?_ q) (λ_ q=>q) λ_ _ q=>q
  rcases hc with z|z
  .rw[z];exact nit b u e
  .exact nit c _ z
def Inv.tok(I:Inv X pins σ H s)(t:Nat):Inv X pins σ H {s with toks:=t}:=I.un Un.refl I.hok
def Inv.kept{t':Nat}(I:Inv X pins σ H s)(k:∀b u,s.heap.get? b=some u->h'.get? b=some u):Inv X pins σ H {s with heap:=h',toks:=t'}:=I.un (Un.kept k) (I.hok.kept k)
def Inv.laid{a:Addr}{o:HO}{t':Nat}(I:Inv X pins σ H s)(k:∀b u,s.heap.get? b=some u->h'.get? b=some u)(hp:s.heap.objs.size<=a)(new:bJ X.prog X.w (upd H a o) h' a o) :
  Inv X pins σ (upd H a o) {s with heap:=h',toks:=t'}:=I.un (Un.laid k hp (I.hok.fresh hp)) (I.hok.laid k hp new)
def Inv.write{x e:Addr}{o:HO}{t':Nat}(I:Inv X pins σ H s)(mu:Lg (H x))(he:e=x\/H e=some (.own x))(k:∀b u,b≠e->s.heap.get? b=some u->h'.get? b=some u)(heo:∃u,h'.get? e=some u)
  (new:bJ X.prog X.w (upd H x o) h' x o):Inv X pins σ (upd H x o) {s with heap:=h',toks:=t'}:=I.un (Un.write mu he k heo) (I.hok.write mu he k heo new)
def Inv.pins_of{pins':List (Addr×Obj)}(I:Inv X pins σ H s)(h:∀p∈pins',s.heap.get? p.1=some p.2/\H p.1=none/\p.1≠X.env.locals/\p.1∉X.fs/\∀v,p.2.data≠.cell v):Inv X pins' σ H s:=
 ⟨I.ok,I.os,I.bare,I.base,I.loc,I.cell,I.free,I.freeC,λp hp=>(Ox.mp hp).elim (λz=>I.pin p (O7 _ z)) (h p),I.hok,I.len⟩
def xc{N:List Str}(hN:N.Nodup){i j:Nat}{x:Str}(a:N[i]? =some x)(b:N[j]? =some x):i=j:=by
 let⟨h1,e1⟩:=Ov.mp a
 let⟨h2,e2⟩:=Ov.mp b
 exact(List.getElem_inj hN).mp (e1.trans e2.symm)
def ug{M:Model}{A:Around}{E:Value->Shared->Prop}{i:Nat}{x:Str}{v:V}{u:Value}{Q:Unit->Shared->Prop}(I:Inv X pins σ H s)(hN:X.N.Nodup)(hi:X.N[i]? =some x)(hx:Loc X.env.scope x)(r:RelV v u)
  (h:∀s',Inv X pins (σ.set i (some v)) H s'->(∃a,Heap.SameBut a s.heap s'.heap/\(a=X.env.locals\/X.env.cells.lookup x=some a))->Q () s') (hf:X.fn x=true\/X.env.scope.names.lookup x=some .local:=by first|exact .inl rfl|exact .inr rfl|assumption):wpAny M A (storeName X.env x u) Q E s:=by
 let⟨m,hn,hl⟩:=id I.loc
 have hcls:(X.env.scope.kind==.class||(X.env.scope.kind==.module&&X.env.locals != X.env.globals))=false:=by rw[I.ok.kind];rfl
 have hiσ:i<σ.length:=by rw[I.len];exact(Ov.mp hi).1
 have cne:=I.cne
 have tracked:∀{a:Addr} {h':Heap},(∃o,s.heap.get? a=some o/\H a=none)->Heap.SameBut a s.heap h'->lH X.prog X.w H h':=λ{a h'} ha hs b ob e=>by
  let⟨_,_,hfree⟩:=ha
  refine(I.hok b ob e).stay (λc w' hc q=>(hs.2 c ?_).trans q) (λ_ q=>q) λ_ _ q=>q
  rintro rfl
  rcases hc with rfl|hc
  .rw[hfree]at e;cases e
  .rw[hfree]at hc;cases hc
 rcases hx with hk|hk
 .refine wpAny_storeName_local hk hn (λh' hn' hs=>?_) hcls
  let⟨oL,_,_,hoL,_⟩:=id hn
  refine h _ ⟨I.ok,I.os,I.bare,⟨λb o e n hb hx=>?_,λb o e n hb hx=>?_,I.base.free,λb o e hx=>?_,I.base.tups,I.base.frzs,I.base.tbls⟩,⟨_,hn',λj y v' e1 e2 e3=>?_⟩,λy c e=>?_,I.free,I.freeC,λp hp=>?_,tracked ⟨oL,hoL,I.free⟩ hs,by simpa using I.len⟩ ⟨_,hs,.inl rfl⟩
  .exact (hs.2 b (OP (OZ (Oj e) I.ok.above))).trans (I.base.keep b o e n hb hx)
  .let⟨sl,e1⟩:=I.base.slot b o e n hb hx
   exact⟨sl,(hs.2 b (OP (OZ (Oj e) I.ok.above))).trans e1⟩
  .let⟨o',e1⟩:=I.base.there b o e hx
   exact⟨o',(hs.2 b (OP (OZ (Oj e) I.ok.above))).trans e1⟩
  .by_cases hj:j=i
   .subst hj
    rw[hi]at e1;cases e1
    rw[OE hiσ]at e2
    cases e2
    exact⟨u,r,.inl ⟨hk,by simp⟩⟩
   .rw[Oq (Ne.symm hj)]at e2
    let⟨u',r',q⟩:=hl j y v' e1 e2 e3
    refine⟨u',r',?_⟩
    rcases q with⟨k,e⟩|⟨k,c,e,z⟩
    .refine .inl ⟨k,?_⟩
     have:y≠x:=λe=>hj (xc hN e1 (e▸hi))
     simp[this,e]
    .exact .inr ⟨k,c,e,z.sameBut hs (cne y c e)⟩
  .let⟨w',z⟩:=I.cell y c e
   exact⟨w',z.sameBut hs (cne y c e)⟩
  .let⟨e,n,ne,nf,d⟩:=I.pin p hp
   exact⟨(hs.2 p.1 ne).trans e,n,ne,nf,d⟩
 .have hfn:X.fn x=true:=by
   rcases hf with z|z
   .exact z
   .rw[z]at hk;cases hk
  let⟨c,hc⟩:=I.ok.has x (.inl hk)
  let⟨w',z⟩:=I.cell x c hc
  refine wpAny_storeName_cell I.ok.kind hk hc z (λh' hc' hs=>?_)
  let⟨oc,hoc,hocd⟩:=id z
  refine h {s with heap:=h'} ⟨I.ok,I.os,I.bare,⟨λb o e n hb hx=>?_,λb o e n hb hx=>?_,I.base.free,λb o e hx=>?_,I.base.tups,I.base.frzs,I.base.tbls⟩,⟨m,hn.sameBut hs (Ne.symm (cne x c hc)),λj y v' e1 e2 e3=>?_⟩,λy c' e=>?_,I.free,I.freeC,λp hp=>?_,tracked ⟨oc,hoc,I.freeC x c hc⟩ hs,by simpa using I.len⟩ ⟨c,hs,.inr hc⟩
  .exact (hs.2 b (OP (OZ (Oj e) (I.ok.cab x c hfn hc)))).trans (I.base.keep b o e n hb hx)
  .let⟨sl,e1⟩:=I.base.slot b o e n hb hx
   exact⟨sl,(hs.2 b (OP (OZ (Oj e) (I.ok.cab x c hfn hc)))).trans e1⟩
  .let⟨o',e1⟩:=I.base.there b o e hx
   exact⟨o',(hs.2 b (OP (OZ (Oj e) (I.ok.cab x c hfn hc)))).trans e1⟩
  .by_cases hj:j=i
   .subst hj
    rw[hi]at e1;cases e1
    rw[OE hiσ]at e2
    cases e2
    exact⟨u,r,.inr ⟨.inl hk,c,hc,hc'⟩⟩
   .rw[Oq (Ne.symm hj)]at e2
    let⟨u',r',q⟩:=hl j y v' e1 e2 e3
    refine⟨u',r',?_⟩
    rcases q with q|⟨k,c',e,z'⟩
    .exact .inl q
    .refine .inr ⟨k,c',e,z'.sameBut hs ?_⟩
     rintro rfl
     exact hj (xc hN e1 (I.ok.inj _ _ _ e hc▸hi))
  .by_cases hcc:c'=c
   .subst hcc;exact⟨_,hc'⟩
   .let⟨w2,z2⟩:=I.cell y c' e
    exact⟨w2,z2.sameBut hs hcc⟩
  .let⟨e,n,ne,nf,d⟩:=I.pin p hp
   refine⟨(hs.2 p.1 ?_).trans e,n,ne,nf,d⟩
   intro q
   rw[q,hoc]at e
   have q':oc=p.2:=Option.some.inj e
   exact d w' (by rw[<-q'];exact hocd)
def wZ{M:Model}{A:Around}{E:Value->Shared->Prop}{i:Nat}{x:Str}{v:V}{u:Value}{Q:Unit->Shared->Prop}(I:Inv X pins σ H s)(hN:X.N.Nodup)(hi:X.N[i]? =some x)(hx:Loc X.env.scope x)(r:RelV v u)
  (h:∀s',Inv X pins (σ.set i (some v)) H s'->Q () s') (hf:X.fn x=true\/X.env.scope.names.lookup x=some .local:=by first|exact .inl rfl|exact .inr rfl|assumption):wpAny M A (storeName X.env x u) Q E s:=
 ug I hN hi hx r (λs' I' _=>h s' I') hf
def Inv.call'{s':Shared}{ch:List Addr}(I:Inv X pins σ H s)(ho:s'.os=s.os)(u:Un (nH X.stack) ch H H' s.heap s'.heap)(hok:lH X.prog X.w H' s'.heap)(hg:AllBare s'.gens)
  (hch:∀b∈ch,(b∈X.ex\/X.s₀.heap.objs.size<=b)/\b≠X.env.locals/\(∀x c,X.env.cells.lookup x=some c->c≠b)/\∀p∈X.pn++pins,p.1≠b):Inv X pins σ H' s':=by
 let⟨h',g',d',t',o'⟩:=s'
 have e:o'=s.os:=ho
 subst e
 exact I.call u hok hg hch
end
abbrev XK:=Value->Option Addr->Hp->Prop
abbrev St:=List (Option V)
abbrev VK:=V->Hp->Prop
abbrev TE:=St->Hp->VK->Prop
abbrev TT:=St->Hp->(Bool->Hp->Prop)->Prop
abbrev TA:=St->Hp->(List V->Hp->Prop)->Prop
structure Ends where
 nx:St->Hp->Prop
 rt:VK
 bk:St->Hp->Prop:=λ_ _=>False
 ct:St->Hp->Prop:=λ_ _=>False
abbrev TS:=Ends->St->Hp->Prop
def EP(X:Cx)(pins:List (Addr×Obj))(σ:St)(Q:VK)(u:Value)(s':Shared):Prop:=∃v H',Inv X pins σ H' s'/\RelV v u/\Q v H'
def TP(X:Cx)(pins:List (Addr×Obj))(σ:St)(Q:Bool->Hp->Prop)(b:Bool)(s':Shared):Prop:=∃H',Inv X pins σ H' s'/\Q b H'
def AP(X:Cx)(pins:List (Addr×Obj))(σ:St)(Q:List V->Hp->Prop)(us:List Value)(s':Shared):Prop:=∃vs H',Inv X pins σ H' s'/\Vals vs us/\Q vs H'
def SP(X:Cx)(pins:List (Addr×Obj))(D:Ends)(f:Flow)(s':Shared):Prop:=
 match f with
 | .next=>∃σ' H',Inv X pins σ' H' s'/\D.nx σ' H'
 | .brk=>∃σ' H',Inv X pins σ' H' s'/\D.bk σ' H'
 | .cont=>∃σ' H',Inv X pins σ' H' s'/\D.ct σ' H'
 | .ret u=>∃v σ' H',Inv X pins σ' H' s'/\RelV v u/\D.rt v H'
def PE(X:Cx)(e:Expr)(t:TE):Prop:=
 ∀(pins:List (Addr×Obj)) (s:Shared) (σ:St) (H:Hp) (Q:VK),Inv X pins σ H s->t σ H Q->wpAny (model X.prog X.w) X.A (eval e X.env) (EP X pins σ Q) X.xe s
def PT(X:Cx)(e:Expr)(t:TT):Prop:=
 ∀(pins:List (Addr×Obj)) (s:Shared) (σ:St) (H:Hp) (Q:Bool->Hp->Prop),Inv X pins σ H s->t σ H Q->wpAny (model X.prog X.w) X.A (isTrue e X.env (eval e X.env)) (TP X pins σ Q) X.xe s
def PW(X:Cx)(e:Expr)(t:TT):Prop:=
 ∀(whole:Sem Value) (pins:List (Addr×Obj)) (s:Shared) (σ:St) (H:Hp) (Q:Bool->Hp->Prop),Inv X pins σ H s->t σ H Q->wpAny (model X.prog X.w) X.A (isTrue e X.env whole) (TP X pins σ Q) X.xe s
def PW.pt{X:Cx}{e:Expr}{t:TT}(h:PW X e t):PT X e t:=h _
def PA(X:Cx)(es:List Expr)(t:TA):Prop:=
 ∀(pos:Pos) (pins:List (Addr×Obj)) (s:Shared) (σ:St) (H:Hp) (Q:List V->Hp->Prop),Inv X pins σ H s->t σ H Q->wpAny (model X.prog X.w) X.A (spliced (backTo pos (starEach es X.env))) (AP X pins σ Q) X.xe s
def PS(X:Cx)(st:Stmt)(t:TS):Prop:=
 ∀(pins:List (Addr×Obj)) (s:Shared) (σ:St) (H:Hp) (D:Ends),Inv X pins σ H s->t D σ H->wpAny (model X.prog X.w) X.A (exec st X.env) (SP X pins D) X.xe s
def sL(X:Cx)(st:List Stmt)(t:TS):Prop:=
 ∀(pins:List (Addr×Obj)) (s:Shared) (σ:St) (H:Hp) (D:Ends),Inv X pins σ H s->t D σ H->wpAny (model X.prog X.w) X.A (execs st X.env) (SP X pins D) X.xe s
def cI{α:Type}{t:Sem α}{Q Q':α->Shared->Prop}{M:Model}{A:Around}{E:Value->Shared->Prop}{s:Shared}(h:wpAny M A t Q E s)(hQ:∀a s,Q a s->Q' a s):wpAny M A t Q' E s:=PK h hQ λ_ _ x=>x
section
variable {X:Cx}
def bin{a b:Expr}{ta tb:TE}(ha:PE X a ta)(hb:PE X b tb){pins:List (Addr×Obj)}{s:Shared}{σ:St}{H:Hp}{R:V->V->Hp->Prop}(I:Inv X pins σ H s)(h:ta σ H λx H1=>tb σ H1 λy H2=>R x y H2)
  {α:Type} {Q:α->Shared->Prop} {f:Value->Value->Sem α}
  (hf:∀v u s2 x y H2,Inv X pins σ H2 s2->RelV x v->RelV y u->R x y H2->wpAny (model X.prog X.w) X.A (f v u) Q X.xe s2) :
  wpAny (model X.prog X.w) X.A (eval a X.env) (λv s₁=>wpAny (model X.prog X.w) X.A (eval b X.env) (λu s₂=>wpAny (model X.prog X.w) X.A (f v u) Q X.xe s₂) X.xe s₁) X.xe s:=by
 refine cI (ha pins s σ H _ I h) λv s1 ⟨x,H1,I1,r1,q1⟩=>?_
 exact cI (hb pins s1 σ H1 _ I1 q1) λu s2 ⟨y,H2,I2,r2,q2⟩=>(hf v u s2 x y H2 I2 r1 r2 q2)
def FC(i:Nat):TE:=λσ H Q=>∃v,σ[i]? =some (some v)/\Q v H
def tC(v:V):TE:=λ_ H Q=>Q v H
def fK{i:Nat}{x:Str}{pos:Pos}(hN:X.N[i]? =some x)(hv:yc X.env.scope x)(hd:(x==("__debug__":Str))=false:=by decide)(hcd:(x==("__classdict__":Str))=false:=by decide):PE X (.Name x pos) (FC i):=by
 intro pins s σ H Q I h
 let⟨v,e,h⟩:=h
 let⟨m,hn,hl⟩:=I.loc
 let⟨u,r,l⟩:=hl i x v hN e hv
 have fin:EP X pins σ Q u s:=⟨v,H,I,r,h⟩
 rcases l with⟨hk,hm⟩|⟨hk,c,hc,hcell⟩
 .exact wpAny_Name (wpAny_loadName_local I.ok.kind hk hn hm fin) hd
 .rcases hk with hk|hk
  .exact wpAny_Name (wpAny_loadName_cell I.ok.kind hk hc hcell fin) hd
  .exact wpAny_Name (wpAny_loadName_free I.ok.kind hk hc hcell fin hcd) hd
def nG{i j pos}:PE X (.Constant (.int i) j pos) (tC (.int i)):=λ_ _ _ H _ I h=>wpAny_Constant_int ⟨.int i,H,I.tok _,⟨_,rfl⟩,h⟩
def Ad{b j pos}:PE X (.Constant (.bool b) j pos) (tC (.bl b)):=λ_ _ _ H _ I h=>Constant_bool ⟨.bl b,H,I,rfl,h⟩
def Eg{j pos}:PE X (.Constant .none j pos) (tC .non):=λ_ _ _ H _ I h=>Constant_none ⟨.non,H,I,rfl,h⟩
def JI{x j pos}:PE X (.Constant (.str x) j pos) (tC (.str x)):=λ_ _ _ H _ I h=>Calls.Constant_str ⟨.str x,H,I.tok _,⟨_,rfl⟩,h⟩
def Gl(X:Cx)(x:Str):Prop:=X.env.kindOf x=some .globalImplicit
def zQ{E:Value->Shared->Prop}{pins:List (Addr×Obj)}{s:Shared}{σ:St}{H:Hp}{x:Str}{u:Value}{pos:Pos}{Q:Value->Shared->Prop}(I:Inv X pins σ H s)(hg:Gl X x)(hm:X.mg x=some u)(h:Q u s)
  (hd:(x==("__debug__":Str))=false:=by decide):wpAny (model X.prog X.w) X.A (eval (.Name x pos) X.env) Q E s:=
 Calls.Name_function_global I.ok.kind hg (Calls.loadGlobal_global (by rw[I.ok.glob];exact I.mod.glob.keeps I.bk) hm h) hd
def mV{E:Value->Shared->Prop}{pins:List (Addr×Obj)}{s:Shared}{σ:St}{H:Hp}{x:Str}{u:Value}{pos:Pos}{Q:Value->Shared->Prop}(I:Inv X pins σ H s)(hg:Gl X x)(hm:X.mg x=none)(hv:bootBuiltins x=some u)(h:Q u s)
  (hn:x≠"__name__":=by decide) (hd:(x==("__debug__":Str))=false:=by decide):wpAny (model X.prog X.w) X.A (eval (.Name x pos) X.env) Q E s:=by
 let⟨mb,h1,h2⟩:=I.mod.blt
 exact Calls.Name_function_global I.ok.kind hg (Calls.loadGlobal_builtin (by rw[I.ok.glob];exact I.mod.glob.keeps I.bk) hm (by rw[I.ok.blt];exact h1.keeps I.bk) ((h2 x hn).trans hv) h) hd
def Hm{x:Str}{v:V}{u:Value}{pos:Pos}(hg:Gl X x)(hm:X.mg x=some u)(r:RelV v u)(hd:(x==("__debug__":Str))=false:=by decide):PE X (.Name x pos) (tC v):=
 λ_ _ _ H _ I h=>zQ I hg hm ⟨v,H,I,r,h⟩ hd
def Fj{x:Str}{v:V}{u:Value}{pos:Pos}(hg:Gl X x)(hm:X.mg x=none)(hv:bootBuiltins x=some u)(r:RelV v u)(hn:x≠"__name__":=by decide)(hd:(x==("__debug__":Str))=false:=by decide):PE X (.Name x pos) (tC v):=
 λ_ _ _ H _ I h=>mV I hg hm hv ⟨v,H,I,r,h⟩ hn hd
variable {a b:Expr}{ta tb:TE}{pos:Pos}
def PC(X:Cx)(op:CmpOp)(a b:Expr)(t:TE):Prop:=
 ∀(pins:List (Addr×Obj)) (s:Shared) (σ:St) (H:Hp) (Q:VK),Inv X pins σ H s->t σ H Q->
  wpAny (model X.prog X.w) X.A (eval a X.env) (λv s₁=>wpAny (model X.prog X.w) X.A (eval b X.env) (λu s₂=>wpAny (model X.prog X.w) X.A (compareOp op v u) (EP X pins σ Q) X.xe s₂) X.xe s₁) X.xe s
def Et(b:Expr){op:CmpOp}(h:op≠.In)(h2:op≠.NotIn):behindInMarks op b=false:=by
 have e1:(op==CmpOp.In)=false:=by cases op<;>first|rfl|exact absurd rfl h
 have e2:(op==CmpOp.NotIn)=false:=by cases op<;>first|rfl|exact absurd rfl h2
 cases b<;>simp[behindInMarks,e1,e2]
def K4(ta:TE):TE:=λσ H Q=>ta σ H λx H1=>Q (.bl (!decide (x=.non))) H1
theorem RelV.none_iff{x:V}{v:Value}(r:RelV x v):(v==Value.none)=decide (x=.non):=by
 cases x with
 |non=>cases r;rfl
 |bl _=>cases r;rfl
 |int _=>obtain⟨t,rfl⟩:=r;rfl
 |str _=>obtain⟨t,rfl⟩:=r;rfl
 |byt _=>obtain⟨t,rfl⟩:=r;rfl
 |flt _=>obtain⟨t,rfl⟩:=r;rfl
 |ref _=>cases r;rfl
 |ty _=>cases r;rfl
def GA{j pos'}(ha:PE X a ta):PC X .IsNot a (.Constant .none j pos') (K4 ta):=by
 intro pins s σ H Q I h
 refine cI (ha pins s σ H _ I h) λv s1 ⟨x,H1,I1,r1,q1⟩=>?_
 exact Constant_none (isnot_none_gen ⟨.bl _,H1,I1,by rw[r1.none_iff];rfl,q1⟩)
def tB(t:TE):TT:=λσ H Q=>t σ H λx H1=>∃c,x=.bl c/\Q c H1
def J5{op:CmpOp}{t:TE}(h:PC X op a b t)(h1:behindInMarks op b=false:=by first|exact Et _ (by decide) (by decide)|rfl):PT X (.Compare a [op] [b] pos) (tB t):=by
 intro pins s σ H Q I hw
 refine wpAny_isTrue_Compare1 (cI (h pins s σ H _ I hw) λv s1 h1=>cI h1 λu s2 h2=>cI h2 λc s3 ⟨x,H1,I1,r1,q1⟩=>?_) h1
 obtain⟨d,rfl,q⟩:=q1
 cases r1
 exact P0 ⟨H1,I1,q⟩
def zg{e:Expr}{t:TE}(h:PE X e t)(he:∀whole,isTrue e X.env whole=(do let v <-whole;standAt e.pos;holding [v] (truthy v)):=by intro _;rfl):PT X e (tB t):=by
 intro pins s σ H Q I hw
 refine isTrue_plain (cI (h pins s σ H _ I hw) λv s1 ⟨x,H1,I1,r1,q1⟩=>?_) (he _)
 obtain⟨d,rfl,q⟩:=q1
 cases r1
 exact P0 ⟨H1,I1,q⟩
variable {tA tB':TT}{rest:List Expr}
def MF(t u:TT):TT:=λσ H Q=>t σ H λc H1=>if c=true then u σ H1 Q else Q false H1
def N2(t u:TT):TT:=λσ H Q=>t σ H λc H1=>if c=true then Q true H1 else u σ H1 Q
def MB(t:TT):TT:=λσ H Q=>t σ H λc H1=>Q (!c) H1
theorem AH(ha:PT X a tA):PW X (.BoolOp .And [a] pos) tA:=by
 intro wh pins s σ H Q I h
 refine isTrue_and (cI (ha pins s σ H Q I h) λc s1 e=>?_)
 cases c with
 |true=>exact isTrue_and_nil e
 |false=>exact e
theorem Jn(ha:PT X a tA):PW X (.BoolOp .Or [a] pos) tA:=by
 intro wh pins s σ H Q I h
 refine isTrue_or (cI (ha pins s σ H Q I h) λc s1 e=>?_)
 cases c with
 |false=>exact isTrue_or_nil e
 |true=>exact e
theorem CD(ha:PT X a tA)(hb:PW X (.BoolOp .And (b::rest) pos) tB'):PW X (.BoolOp .And (a::b::rest) pos) (MF tA tB'):=by
 intro wh pins s σ H Q I h
 refine isTrue_and (cI (ha pins s σ H _ I h) λc s1 ⟨H1,I1,q1⟩=>?_)
 cases c with
 |true=>exact hb wh pins s1 σ H1 Q I1 q1
 |false=>exact⟨H1,I1,q1⟩
theorem LP(ha:PT X a tA)(hb:PW X (.BoolOp .Or (b::rest) pos) tB'):PW X (.BoolOp .Or (a::b::rest) pos) (N2 tA tB'):=by
 intro wh pins s σ H Q I h
 refine isTrue_or (cI (ha pins s σ H _ I h) λc s1 ⟨H1,I1,q1⟩=>?_)
 cases c with
 |true=>exact⟨H1,I1,q1⟩
 |false=>exact hb wh pins s1 σ H1 Q I1 q1
def IM(ha:PT X a tA):PT X (.UnaryOp .Not a pos) (MB tA):=by
 intro pins s σ H Q I h
 exact isTrue_not (ha pins s σ H (λc H1=>Q (!c) H1) I h)
def LW(ta tb:TE):TE:=λσ H Q=>ta σ H λx H1=>∃c,x=.bl c/\if c=true then tb σ H1 Q else Q (.bl false) H1
def K9(ta:TE):TE:=λσ H Q=>ta σ H λx H1=>∃c,x=.bl c/\Q (.bl (!c)) H1
def Jy{op}{t:TE}(h:PE X a t):PE X (.BoolOp op [a] pos) t:=λpins s σ H Q I hw=>BoolOp_one (h pins s σ H Q I hw)
theorem IW(ha:PE X a ta)(hb:PE X (.BoolOp .And (b::rest) pos) tb):PE X (.BoolOp .And (a::b::rest) pos) (LW ta tb):=by
 intro pins s σ H Q I h
 refine BoolOp_and (cI (ha pins s σ H _ I h) λv s1 ⟨x,H1,I1,r1,q1⟩=>?_)
 obtain⟨c,rfl,q1⟩:=q1
 cases r1
 refine P0 ?_
 cases c with
 |true=>exact hb pins s1 σ H1 Q I1 q1
 |false=>exact⟨.bl false,H1,I1,rfl,q1⟩
def IQ(ha:PE X a ta):PE X (.UnaryOp .Not a pos) (K9 ta):=by
 intro pins s σ H Q I h
 refine UnaryOp_ (cI (ha pins s σ H _ I h) λv s1 ⟨x,H1,I1,r1,q1⟩=>?_)
 obtain⟨c,rfl,q1⟩:=q1
 cases r1
 exact not_of (P0 ⟨.bl (!c),H1,I1,rfl,q1⟩)
end
def gY(K:Frag)(H:Hp)(a:Addr)(xs:List V):Prop:=
 Rd H a (.lst xs)\/
  ∃(o:Obj) (its:Array Value) (n:Nat),K.lookup a=some o/\o.cls=.type "list"/\o.dict=none/\o.data=.seq its n/\its.size<=sizeLine/\Vals xs its.toList
def fF(K:Frag)(H:Hp)(a:Addr)(xs:List V):Prop:=
 Rd H a (.tup xs)\/
  ∃(o:Obj) (its:Array Value) (n:Nat),K.lookup a=some o/\o.cls=.type "tuple"/\o.data=.seq its n/\its.size<=sizeLine/\Vals xs its.toList/\o.dict=none
def MP:Value->Option V
 | .none=>some .non
 | .bool b=>some (.bl b)
 | .int i _=>some (.int i)
 | .str x _=>some (.str x)
 | .bytes b _=>some (.byt b)
 | .float b _=>some (.flt b)
 | .ref a=>some (.ref a)
 | .type n=>some (.ty n)
 |_=>none
theorem RelV.abs{x:V}{u:Value}(r:RelV x u):MP u=some x:=by
 cases x with
 |non=>cases r;rfl
 |bl _=>cases r;rfl
 |int _=>obtain⟨t,rfl⟩:=r;rfl
 |str _=>obtain⟨t,rfl⟩:=r;rfl
 |byt _=>obtain⟨t,rfl⟩:=r;rfl
 |flt _=>obtain⟨t,rfl⟩:=r;rfl
 |ref _=>cases r;rfl
 |ty _=>cases r;rfl
def RelV.inj{x y:V}{u:Value}(r:RelV x u)(q:RelV y u):x=y:=Option.some.inj (r.abs.symm.trans q.abs)
theorem Vals.inj:∀{xs ys:List V} {us:List Value},Vals xs us->Vals ys us->xs=ys
 |_,_,_,.nil,.nil=>rfl
 |_,_,_,.cons r t,.cons r' t'=>by rw[r.inj r',Vals.inj t t']
section
variable {X:Cx}{pins:List (Addr×Obj)}{σ:St}{H:Hp}{s:Shared}{a:Addr}{xs ys:List V}
def Inv.list(I:Inv X pins σ H s)(h:gY X.K H a xs):∃its:List Value,Vals xs its/\PlainL s.heap a its.toArray/\xs.length<=sizeLine:=by
 rcases h with h|⟨o,its,n,hk,hc,hd,hs,hz,r⟩
 .let⟨z,its,n,r,e⟩:=h.ok I.hok
  exact⟨its,r,⟨_,n,e,rfl,rfl,rfl⟩,z⟩
 .refine⟨its.toList,r,⟨o,n,I.kIn a o hk,hc,hd,by simpa using hs⟩,?_⟩
  have e:=r.length
  simp only[Qt]at e
  omega
def Inv.tuple(I:Inv X pins σ H s)(h:fF X.K H a xs):∃its:List Value,Vals xs its/\IsTup s.heap a its.toArray/\xs.length<=sizeLine:=by
 rcases h with h|⟨o,its,n,hk,hc,hs,hz,r,_⟩
 .let⟨z,its,r,p⟩:=h.ok I.hok
  exact⟨its,r,p.isTup,z⟩
 .refine⟨its.toList,r,⟨o,I.kIn a o hk,hc,n,by simpa using hs⟩,?_⟩
  have e:=r.length
  simp only[Qt]at e
  omega
def Inv.list_inj(I:Inv X pins σ H s)(h:gY X.K H a xs)(h':gY X.K H a ys):xs=ys:=by
 let⟨its,r,⟨o,n,e,_,_,d⟩,_⟩:=I.list h
 let⟨its',r',⟨o',n',e',_,_,d'⟩,_⟩:=I.list h'
 rw[e]at e';cases e'
 rw[d]at d'
 injection d' with d1 _
 have:its=its':=by simpa using congrArg Array.toList d1
 subst this
 exact r.inj r'
def Inv.tuple_inj(I:Inv X pins σ H s)(h:fF X.K H a xs)(h':fF X.K H a ys):xs=ys:=by
 let⟨its,r,⟨o,e,_,n,d⟩,_⟩:=I.tuple h
 let⟨its',r',⟨o',e',_,n',d'⟩,_⟩:=I.tuple h'
 rw[e]at e';cases e'
 rw[d]at d'
 injection d' with d1 _
 have:its=its':=by simpa using congrArg Array.toList d1
 subst this
 exact r.inj r'
end
abbrev Cx.wish(X:Cx)(E:Value->Shared->Prop):Cx:={X with xe:=E}
abbrev Cx.nox(X:Cx):Cx:=X.wish λ_ _=>False
def Cx.Ok.wish{X:Cx}(ok:X.Ok)(E:Value->Shared->Prop):(X.wish E).Ok:=
 ⟨ok.mod,ok.kind,ok.glob,ok.blt,ok.above,ok.inj,ok.has,ok.cab,ok.hd,ok.frames,ok.stk,ok.exf,ok.bs,ok.bsz,ok.noex,ok.exfs,ok.funs,ok.frf⟩
def Cx.Ok.unwish{X:Cx}{E:Value->Shared->Prop}(ok:(X.wish E).Ok):X.Ok:=
 ⟨ok.mod,ok.kind,ok.glob,ok.blt,ok.above,ok.inj,ok.has,ok.cab,ok.hd,ok.frames,ok.stk,ok.exf,ok.bs,ok.bsz,ok.noex,ok.exfs,ok.funs,ok.frf⟩
section
variable {X:Cx}{pins:List (Addr×Obj)}{σ:St}{H:Hp}{s:Shared}{E:Value->Shared->Prop}
def Inv.wish(I:Inv X pins σ H s)(E:Value->Shared->Prop):Inv (X.wish E) pins σ H s:=⟨I.ok.wish E,I.os,I.bare,I.base,I.loc,I.cell,I.free,I.freeC,I.pin,I.hok,I.len⟩
def Inv.unwish(I:Inv (X.wish E) pins σ H s):Inv X pins σ H s:=⟨I.ok.unwish,I.os,I.bare,I.base,I.loc,I.cell,I.free,I.freeC,I.pin,I.hok,I.len⟩
theorem SP.unwish{D:Ends}{f:Flow}{s':Shared}(h:SP (X.wish E) pins D f s'):SP X pins D f s':=by
 cases f with
 |next=>let⟨σ',H',I,q⟩:=h;exact⟨σ',H',I.unwish,q⟩
 |brk=>let⟨σ',H',I,q⟩:=h;exact⟨σ',H',I.unwish,q⟩
 |cont=>let⟨σ',H',I,q⟩:=h;exact⟨σ',H',I.unwish,q⟩
 |ret u=>let⟨v,σ',H',I,r,q⟩:=h;exact⟨v,σ',H',I.unwish,r,q⟩
def sL.nox{st:List Stmt}{t:TS}(h:sL X.nox st t):sL X st t:=λpins s σ H D I hw=>
 PK (h pins s σ H D (I.wish _) hw) (λ_ _ q=>q.unwish) λ_ _ z=>False.elim z
end
section
variable {X:Cx}{st:Stmt}{rest:List Stmt}{t u:TS}{e:Expr}{te:TE}{pos:Pos}
def Lo:TS:=λD σ H=>D.nx σ H
def Mu(t u:TS):TS:=λD σ H=>t {D with nx:=u D} σ H
def u4:sL X [] Lo:=λ_ _ σ H _ I h=>wpAny_execs_nil ⟨σ,H,I,h⟩
theorem dw(h1:PS X st t)(h2:sL X rest u):sL X (st::rest) (Mu t u):=by
 intro pins s σ H D I h
 refine wpAny_execs_cons (cI (h1 pins s σ H {D with nx:=u D} I h) λf s1 q=>?_)
 cases f with
 |next=>
  let⟨σ',H',I',q⟩:=q
  exact h2 pins s1 σ' H' D I' q
 |ret v=>exact q
 |brk=>exact q
 |cont=>exact q
theorem jb(h1:PS X st t):sL X [st] t:=by
 intro pins s σ H D I h
 refine wpAny_execs_cons (cI (h1 pins s σ H D I h) λf s1 q=>?_)
 cases f with
 |next=>exact wpAny_execs_nil q
 |ret v=>exact q
 |brk=>exact q
 |cont=>exact q
def Inv.quiet{pins:List (Addr×Obj)}{σ:St}{H:Hp}{s:Shared}(I:Inv X pins σ H s):interactive X.env=false:=by simp[interactive,I.ok.kind]
def Lx(te:TE):TS:=λD σ H=>te σ H λ_ H1=>D.nx σ H1
def nN(he:PE X e te)(hs:swapsWith e none pos.line X.env=pure false:=by rfl):PS X (.Expr e pos) (Lx te):=by
 intro pins s σ H D I h
 exact wpAny_Expr_any (cI (he pins s σ H _ I h) λv s1 ⟨x,H1,I1,r1,q1⟩=>⟨σ,H1,I1,q1⟩) I.quiet hs
def Nl(te:TE):TS:=λD σ H=>te σ H D.rt
def pf(he:PE X e te):PS X (.Return (some e) pos) (Nl te):=by
 intro pins s σ H D I h
 exact wpAny_Return_some (cI (he pins s σ H _ I h) λv s1 ⟨x,H1,I1,r1,q1⟩=>⟨x,σ,H1,I1,r1,q1⟩)
def M5(c:TT)(t u:TS):TS:=λD σ H=>c σ H λb H1=>if b=true then t D σ H1 else u D σ H1
theorem EI{c:Expr}{a b:List Stmt}{tc:TT}(hc:PT X c tc)(ha:sL X a t)(hb:sL X b u):PS X (.If c a b pos) (M5 tc t u):=by
 intro pins s σ H D I h
 refine wpAny_If (cI (hc pins s σ H _ I h) λd s1 ⟨H1,I1,q1⟩=>?_)
 cases d with
 |true=>exact ha pins s1 σ H1 D I1 q1
 |false=>exact hb pins s1 σ H1 D I1 q1
end
abbrev TG:=V->St->Hp->(St->Hp->Prop)->Prop
abbrev Il:=List V->St->Hp->(St->Hp->Prop)->Prop
def PG(X:Cx)(target:Expr)(t:TG):Prop:=
 ∀(pins:List (Addr×Obj)) (s:Shared) (σ:St) (H:Hp) (v:V) (u:Value) (Q:St->Hp->Prop),Inv X pins σ H s->RelV v u->t v σ H Q->
  wpAny (model X.prog X.w) X.A (assign target X.env u) (λ_ s'=>∃σ' H',Inv X pins σ' H' s'/\Q σ' H') X.xe s
def Me(X:Cx)(ts:List Expr)(t:Il):Prop:=
 ∀(pins:List (Addr×Obj)) (s:Shared) (σ:St) (H:Hp) (vs:List V) (us:List Value) (Q:St->Hp->Prop),Inv X pins σ H s->Vals vs us->t vs σ H Q->
  wpAny (model X.prog X.w) X.A (assignInOrder ((assignEach ts X.env).map (·.2)) us) (λ_ s'=>∃σ' H',Inv X pins σ' H' s'/\Q σ' H') X.xe s
abbrev IC:=V->V->V->Hp->(Hp->Prop)->Prop
def uR(X:Cx)(t:IC):Prop:=
 ∀(pins:List (Addr×Obj)) (s:Shared) (σ:St) (H:Hp) (o i v:V) (ov iv u:Value) (Q:Hp->Prop),Inv X pins σ H s->RelV o ov->RelV i iv->RelV v u->t o i v H Q->
  wpAny (model X.prog X.w) X.A (setItem ov iv u) (λ_ s'=>∃H',Inv X pins σ H' s'/\Q H') X.xe s
section
variable {X:Cx}{pos:Pos}
def mL(i:Nat):TG:=λv σ H Q=>Q (σ.set i (some v)) H
def dk{i:Nat}{x:Str}(hN:X.N.Nodup)(hi:X.N[i]? =some x)(hx:Loc X.env.scope x)(hf:X.fn x=true\/X.env.scope.names.lookup x=some .local:=by first|exact .inl rfl|exact .inr rfl|assumption):PG X (.Name x pos) (mL i):=by
 intro pins s σ H v u Q I r h
 exact wpAny_assign_Name (wZ I hN hi hx r (λs' I'=>⟨_,H,I',h⟩) hf)
def Gg:Il:=λvs σ H Q=>vs= []/\Q σ H
def qU(t:TG)(u:Il):Il:=λvs σ H Q=>∃v r,vs=v::r/\t v σ H λσ' H'=>u r σ' H' Q
def nV:Me X [] Gg:=by
 intro pins s σ H vs us Q I r h
 obtain⟨e,h⟩:=h
 subst e
 cases r
 exact assignInOrder_nil ⟨σ,H,I,h⟩
theorem fg{e:Expr}{es:List Expr}{t:TG}{u:Il}(h1:PG X e t)(h2:Me X es u)
  (hs:(assignEach (e::es) X.env).map (·.2)=assign e X.env::(assignEach es X.env).map (·.2):=by rfl):Me X (e::es) (qU t u):=by
 intro pins s σ H vs us Q I r h
 obtain⟨v,vr,e1,h⟩:=h
 subst e1
 cases r with
 |cons r rr=>
  rw[hs]
  exact assignInOrder_cons (cI (h1 pins s σ H _ _ _ I r h) λ_ s1 ⟨σ1,H1,I1,q1⟩=>(h2 pins s1 σ1 H1 _ _ Q I1 rr q1))
def Fi(K:Frag)(n:Nat)(t:Il):TG:=λv σ H Q=>∃a xs,v=.ref a/\fF K H a xs/\xs.length=n/\t xs σ H Q
def qY{es:List Expr}{k:Nat}{t:Il}{n:Nat}(hc:X.calm=true)(h:Me X es t)
  (hn:(assignEach es X.env).length=n:=by rfl) (hst:(assignEach es X.env).findIdx? (·.1)=none:=by rfl):PG X (.Tuple es k pos) (Fi X.K n t):=by
 intro pins s σ H v u Q I r hw
 obtain⟨a,xs,e1,hq,hl,hw⟩:=hw
 subst e1
 cases r
 let⟨its,rv,ht,hz⟩:=I.tuple hq
 refine assign_Tuple_tuple (I.ok.hd hc) ht (by simp[hn,<-hl,rv.length]) hst λh' hx=>?_
 have I1:Inv X pins σ H {s with heap:=h'}:=I.kept λb o e=>hx b o (OP (Oj e)) e
 exact h pins _ σ H xs _ Q I1 (by simpa using rv) hw
def Mq(to ti:TE)(t:IC):TG:=λv σ H Q=>to σ H λo H1=>ti σ H1 λi H2=>t o i v H2 λH3=>Q σ H3
def yW{o i:Expr}{to ti:TE}{t:IC}(ho:PE X o to)(hi:PE X i ti)(hs:uR X t)
  (ha:∀v,assign (.Subscript o i pos) X.env v=(do
   let ov <-holding [v] (eval o X.env)
   let iv <-holding [v,ov] (eval i X.env)
   standAt pos
   holding [v,ov,iv] (setItem ov iv v)
   release [v,ov,iv] []):=by intro _;rfl):PG X (.Subscript o i pos) (Mq to ti t):=by
 intro pins s σ H v u Q I r h
 rw[ha]
 refine N7 (O0 (cI (ho pins s σ H _ I h) λov s1 ⟨x,H1,I1,r1,q1⟩=>(N7 (O0 (cI (hi pins s1 σ H1 _ I1 q1) λiv s2 ⟨y,H2,I2,r2,q2⟩=>?_)))))
 exact N7 (wpAny_standAt (N7 (O0 (cI (hs pins s2 σ H2 x y v ov iv u _ I2 r1 r2 r q2) λ_ s3 ⟨H3,I3,q3⟩=>(wpAny_release ⟨σ,H3,I3,q3⟩)))))
def K7(te:TE)(g:TG):TS:=λD σ H=>te σ H λx H1=>g x σ H1 D.nx
def qz{tg e:Expr}{te:TE}{g:TG}(he:PE X e te)(hg:PG X tg g)(hs:swapsWithSole [tg] e pos.line X.env=pure false:=by rfl)(hw:swappedStores [tg] e X.env=pure none:=by rfl)
  (h1:(assignEach [tg] X.env).map (·.2)= [assign tg X.env]:=by rfl):PS X (.Assign [tg] e pos) (K7 te g):=by
 intro pins s σ H D I h
 refine wpAny_Assign_stores (cI (he pins s σ H _ I h) λv s1 ⟨x,H1,I1,r1,q1⟩=>?_) hs hw
 rw[h1]
 exact cI (hg pins s1 σ H1 x v _ I1 r1 q1) λ_ s2 q=>q
def m6{i:Nat}{x:Str}{e:Expr}{te:TE}{pos':Pos}(hN:X.N.Nodup)(hi:X.N[i]? =some x)(hx:Loc X.env.scope x)(he:PE X e te)(hs:swapsWith e (some (.Name x pos')) pos.line X.env=pure false:=by rfl)(hf:X.fn x=true\/X.env.scope.names.lookup x=some .local:=by first|exact .inl rfl|exact .inr rfl|assumption) :
  PS X (.Assign [.Name x pos'] e pos) (K7 te (mL i)):=by
 intro pins s σ H D I h
 exact wpAny_Assign_Name (cI (he pins s σ H _ I h) λv s1 ⟨y,H1,I1,r1,q1⟩=>(wZ I1 hN hi hx r1 (λs2 I2=>⟨_,H1,I2,q1⟩) hf)) hs
end
section
variable {X:Cx}{pos:Pos}
def Jd(c:TT)(tb:TS):TS:=λD σ H=>∃W:Nat->St->Hp->Prop,(∃m,W m σ H)/\∀m σ H,W m σ H->
 c σ H λb H1=>if b=true then ∃N:St->Hp->Prop,(∀σ' H',N σ' H'->∃m',m'<m/\W m' σ' H')/\tb {D with nx:=N,ct:=N,bk:=D.nx} σ H1 else D.nx σ H1
theorem EN{c:Expr}{body:List Stmt}{tc:TT}{tb:TS}(hp:PassesOwn (model X.prog X.w) X.A X.env X.xe)(hc:PT X c tc)(hb:sL X body tb):PS X (.While c body [] pos) (Jd tc tb):=by
 intro pins s σ H D I h
 let⟨W,⟨m0,w0⟩,turn⟩:=h
 refine wpAny_While (codeAny_whileLoop (λn s'=>∃σ' H',Inv X pins σ' H' s'/\W n σ' H') ?_ m0 ⟨σ,H,I,w0⟩)
 rintro n s1 ⟨σ1,H1,I1,w1⟩
 refine QC hp (cI (hc pins s1 σ1 H1 _ I1 (turn n σ1 H1 w1)) λb s2 ⟨H2,I2,q2⟩=>?_)
 cases b with
 |true=>
  let⟨N,hN,q2⟩:=q2
  rw[Od rfl]
  refine QC hp (cI (hb pins s2 σ1 H2 _ I2 q2) λf s3 q3=>?_)
  cases f with
  |next=>
   let⟨σ3,H3,I3,n3⟩:=q3
   let⟨m',hm,w3⟩:=hN σ3 H3 n3
   exact⟨m',hm,σ3,H3,I3,w3⟩
  |cont=>
   let⟨σ3,H3,I3,n3⟩:=q3
   let⟨m',hm,w3⟩:=hN σ3 H3 n3
   exact⟨m',hm,σ3,H3,I3,w3⟩
  |brk=>exact q3
  |ret v=>exact q3
 |false=>
  rw[Oe OW]
  exact wpAny_execs_nil ⟨σ1,H2,I2,q2⟩
end
structure It where
 go:Nat->Hp->Prop
 yld:Nat->Hp->V->Hp->Prop
 stop:Nat->Hp->Prop
def pS(X:Cx)(pins:List (Addr×Obj))(H:Hp)(b:Addr):Prop:=
 H b=none/\b≠X.env.locals/\b∉X.fs/\(b∈X.ex\/X.s₀.heap.objs.size<=b)/\(∀x c,X.env.cells.lookup x=some c->c≠b)/\∀p∈X.pn++pins,p.1≠b
def Inv.fpOk{X:Cx}{pins:List (Addr×Obj)}{σ:St}{H H':Hp}{s:Shared}{b:Addr}(I:Inv X pins σ H s)(hb:s.heap.objs.size<=b)(hn:H' b=none):pS X pins H' b:=by
 refine⟨hn,QL (OZ I.lt hb),I.nofs hb,.inr (Pf I.sz hb),λx c e z=>?_,λp hp z=>?_⟩
 .let⟨v,q⟩:=I.cell x c e
  exact absurd (OZ q.lt (by rw[z];exact hb)) (O1 _)
 .exact absurd (OZ (Oj (I.pin p hp).1) (by rw[z];exact hb)) (O1 _)
structure Turn(P:Program)(w:World)(K:Frag)(tg:Expr)(J:It)(fp:List Addr)(it:Addr)(tn:Nat->Heap->Prop):Prop where
 mem:it∈fp
 obj:∀i h,tn i h->∀b∈fp,∃o,h.get? b=some o/\∀v,o.data≠.cell v
 keep:∀i h h',tn i h->(∀b∈fp,∀o,h.get? b=some o->h'.get? b=some o)->tn i h'
 item:∀(X:Cx),X.prog=P->X.w=w->X.K=K->X.calm=true->∀(i:Nat) (pins:List (Addr×Obj)) (s:Shared) (σ:St) (H:Hp) (E:Value->Shared->Prop),Inv X pins σ H s->(∀b∈fp,pS X pins H b)->tn i s.heap->J.go i H->
  wpAny (model P w) X.A (pyNext (.ref it)) (λr s1=>∃u,r=some u/\
   wpAny (model P w) X.A (letOwnedTupleGo tg (.ref it) u) (λ_ s2=>∃x H',Inv X pins σ H' s2/\RelV x u/\J.yld i H x H'/\tn (i+1) s2.heap/\∀b∈fp,H' b=none) E s1) E s
 done:∀(X:Cx),X.prog=P->X.w=w->X.K=K->X.calm=true->∀(i:Nat) (pins:List (Addr×Obj)) (s:Shared) (σ:St) (H:Hp) (E:Value->Shared->Prop),Inv X pins σ H s->(∀b∈fp,pS X pins H b)->tn i s.heap->J.stop i H->
  wpAny (model P w) X.A (pyNext (.ref it)) (λr s1=>r=none/\Inv X pins σ H s1) E s
 self:∀(A:Around) (i:Nat) (s:Shared) (Q:Value->Shared->Prop) (E:Value->Shared->Prop),tn i s.heap->Q (.ref it) s->wpAny (model P w) A (pyIter (.ref it)) Q E s
abbrev TI:=St->Hp->(It->Hp->Prop)->Prop
def ND(X:Cx)(pins:List (Addr×Obj))(σ:St)(tg:Expr)(R:It->Hp->Prop)(itv:Value)(s2:Shared):Prop:=
 ∃(it:Addr) (fp:List Addr) (tn:Nat->Heap->Prop) (J:It) (H':Hp),itv=.ref it/\Inv X pins σ H' s2/\Turn X.prog X.w X.K tg J fp it tn/\tn 0 s2.heap/\(∀b∈fp,pS X pins H' b)/\R J H'
def PI(X:Cx)(tg iter:Expr)(wi:TI):Prop:=
 ∀(pins:List (Addr×Obj)) (s:Shared) (σ:St) (H:Hp) (R:It->Hp->Prop),Inv X pins σ H s->wi σ H R->
  wpAny (model X.prog X.w) X.A (eval iter X.env) (λv s1=>wpAny (model X.prog X.w) X.A (pyIter v) (ND X pins σ tg R) X.xe s1) X.xe s
def Ax{M:Model}{A:Around}{E:Value->Shared->Prop}{s:Shared}{tg:Expr}{it:Addr}{u:Value}{o:Obj}{n:String}{vs:Array Value}{Q:Unit->Shared->Prop}(ho:s.heap.get? it=some o)(hc:o.cls=.type n)(hd:o.data=.fields vs)
  (hn: ["enumerate","zip","dict_itemiterator","dict_reverseitemiterator","odict_iterator","itertools.zip_longest","itertools.pairwise"].contains n=false) (hQ:Q () s):wpAny M A (letOwnedTupleGo tg (.ref it) u) Q E s:=by
 unfold letOwnedTupleGo
 cases tg<;>first
  |exact N9 hQ
  | (cases u<;>first
    |exact N9 hQ
    | (refine N7 (wpAny_load ho ?_)
       rw[hc,hd]
       show wpAny M A (if(["enumerate","zip","dict_itemiterator","dict_reverseitemiterator","odict_iterator","itertools.zip_longest","itertools.pairwise"].contains n&&vs[0]?==some (rawInt _))=true then _ else _) Q E s
       rw[Oe (by intro h;rw[hn,Bool.false_and]at h;cases h)]
       exact N9 hQ))
def BE(K:Frag)(a:Addr):It:=
 ⟨λi H=>∃xs x,gY K H a xs/\xs[i]? =some x,λi H x H'=>H'=H/\∀xs,gY K H a xs->xs[i]? =some x,λi H=>∃xs,gY K H a xs/\xs.length<=i⟩
def HV(K:Frag)(a:Addr):It:=
 ⟨λi H=>∃xs x,fF K H a xs/\xs[i]? =some x,λi H x H'=>H'=H/\∀xs,fF K H a xs->xs[i]? =some x,λi H=>∃xs,fF K H a xs/\xs.length<=i⟩
def Ci(lo:Int)(n:Nat):It:=⟨λi _=>i<n,λi H x H'=>H'=H/\x=.int (lo+i),λi _=>n<=i⟩
def oM{P:Program}{w:World}{K:Frag}{tg:Expr}(a it:Addr):Turn P w K tg (BE K a) [it] it (λi h=>h.IsListIter it a i) where
 mem:=by simp
 obj:=λi h st b hb=>by
  have e:b=it:=by simpa using hb
  subst e
  let⟨o,e,c,d⟩:=st
  exact⟨o,e,λv z=>by rw[d]at z;cases z⟩
 keep:=λi h h' st k=>st.at λo e=>k it (by simp) o e
 item:=by
  intro X hP hw hK hc i pins s σ H E I hf st hg
  subst hP hw hK
  let⟨xs,x,hq,hx⟩:=hg
  let⟨its,rv,p,hz⟩:=I.list hq
  let⟨u,hu,ru⟩:=rv.get hx
  let⟨f0,f1,f2,f3,f4,f5⟩:=hf it (by simp)
  refine wpAny_pyNext_list_item st p.isList (by simpa using hu) λh' st' sb=>?_
  have I1:Inv X pins σ H {s with heap:=h'}:=I.turned (λb o hb e=>(sb.2 b hb).trans e) f0 f1 f3 f4 f5
  let⟨o,e,c,d⟩:=id st'
  exact⟨u,rfl,Ax e c d (by decide) ⟨x,H,I1,ru,⟨rfl,λys hy=>by rw[I.list_inj hy hq];exact hx⟩,st',λb hb=>(hf b hb).1⟩⟩
 done:=by
  intro X hP hw hK hc i pins s σ H E I hf st hg
  subst hP hw hK
  let⟨xs,hq,hx⟩:=hg
  let⟨its,rv,p,hz⟩:=I.list hq
  let⟨f0,f1,f2,f3,f4,f5⟩:=hf it (by simp)
  have hl:=rv.length
  exact wpAny_pyNext_list_end (I.ok.hd hc) st p.isList (by simp;omega) λh' eb=>⟨rfl,I.turned (λb o hb e=>eb b o hb e) f0 f1 f3 f4 f5⟩
 self:=λ_ _ _ _ _ st h=>wpAny_pyIter_listiter st h
def rZ{P:Program}{w:World}{K:Frag}{tg:Expr}(a it:Addr):Turn P w K tg (HV K a) [it] it (λi h=>h.IsTupleIter it a i) where
 mem:=by simp
 obj:=λi h st b hb=>by
  have e:b=it:=by simpa using hb
  subst e
  let⟨o,e,c,d⟩:=st
  exact⟨o,e,λv z=>by rw[d]at z;cases z⟩
 keep:=λi h h' st k=>st.at λo e=>k it (by simp) o e
 item:=by
  intro X hP hw hK hc i pins s σ H E I hf st hg
  subst hP hw hK
  let⟨xs,x,hq,hx⟩:=hg
  let⟨its,rv,p,hz⟩:=I.tuple hq
  let⟨u,hu,ru⟩:=rv.get hx
  let⟨f0,f1,f2,f3,f4,f5⟩:=hf it (by simp)
  refine wpAny_pyNext_tuple_item st (show s.heap.IsTuple a its.toArray from p) (by simpa using hu) λh' st' sb=>?_
  have I1:Inv X pins σ H {s with heap:=h'}:=I.turned (λb o hb e=>(sb.2 b hb).trans e) f0 f1 f3 f4 f5
  let⟨o,e,c,d⟩:=id st'
  exact⟨u,rfl,Ax e c d (by decide) ⟨x,H,I1,ru,⟨rfl,λys hy=>by rw[I.tuple_inj hy hq];exact hx⟩,st',λb hb=>(hf b hb).1⟩⟩
 done:=by
  intro X hP hw hK hc i pins s σ H E I hf st hg
  subst hP hw hK
  let⟨xs,hq,hx⟩:=hg
  let⟨its,rv,p,hz⟩:=I.tuple hq
  let⟨f0,f1,f2,f3,f4,f5⟩:=hf it (by simp)
  have hl:=rv.length
  exact wpAny_pyNext_tuple_end (I.ok.hd hc) st (show s.heap.IsTuple a its.toArray from p) (by simp;omega) λh' eb=>⟨rfl,I.turned (λb o hb e=>eb b o hb e) f0 f1 f3 f4 f5⟩
 self:=λ_ _ _ _ _ st h=>wpAny_pyIter_tupleiter st h
def yS{P:Program}{w:World}{K:Frag}{tg:Expr}(it:Addr)(lo:Int)(n:Nat):Turn P w K tg (Ci lo n) [it] it (λi h=>IsRangeIter h it (lo+(i:Nat)*1) ((n:Int)-(i:Nat)) 1) where
 mem:=by simp
 obj:=λi h st b hb=>by
  have e:b=it:=by simpa using hb
  subst e
  exact⟨_,st,λv z=>by
   have z':Data.fields _=Data.cell v:=z
   cases z'⟩
 keep:=λi h h' st k=>k it (by simp) _ st
 item:=by
  intro X hP hw hK hc i pins s σ H E I hf st hg
  subst hP hw hK
  let⟨f0,f1,f2,f3,f4,f5⟩:=hf it (by simp)
  have W:=Walks.range (prog:=X.prog) (w:=X.w) (I.ok.hd hc) it lo 1 n
  refine W.item i s _ _ hg st λv h' tk hv st' kk=>?_
  obtain⟨t,rfl⟩:=hv
  have I1:Inv X pins σ H {s with heap:=h',toks:=tk}:=I.turned (λb o hb e=>kk b o (by simpa using hb) e) f0 f1 f3 f4 f5
  refine⟨_,rfl,Ax st' rfl rfl (by decide) ⟨.int (lo+i),H,I1,⟨t,?_⟩,⟨rfl,rfl⟩,st',λb hb=>(hf b hb).1⟩⟩
  rw[Int.mul_one]
 done:=by
  intro X hP hw hK hc i pins s σ H E I hf st hg
  subst hP hw hK
  let⟨f0,f1,f2,f3,f4,f5⟩:=hf it (by simp)
  exact wpAny_pyNext_range_end (I.ok.hd hc) st (by have:n<=i:=hg;omega) λh' eb=>⟨rfl,I.turned (λb o hb e=>eb b o hb e) f0 f1 f3 f4 f5⟩
 self:=λ_ _ _ _ _ st h=>wpAny_pyIter_rangeiter st h
section
variable {X:Cx}{tg:Expr}
def Kw(K:Frag)(tl:TE):TI:=λσ H R=>tl σ H λx H1=>∃a,x=.ref a/\(∃xs,gY K H1 a xs)/\R (BE K a) H1
def zI{l:Expr}{tl:TE}(hl:PE X l tl):PI X tg l (Kw X.K tl):=by
 intro pins s σ H R I h
 refine cI (hl pins s σ H _ I h) λv s1 ⟨x,H1,I1,r1,q1⟩=>?_
 let⟨a,e,⟨xs,hq⟩,q⟩:=q1
 subst e
 cases r1
 let⟨its,rv,p,hz⟩:=I1.list hq
 refine QH p.isList ⟨s1.heap.objs.size,[s1.heap.objs.size],_,_,H1,rfl,I1.kept λb o e=>Oa _ e,oM a _,⟨_,Ou _ rfl,rfl,rfl⟩,λb hb=>?_,q⟩
 have e:b=s1.heap.objs.size:=by simpa using hb
 subst e
 exact I1.fpOk (Oc _) (I1.hok.fresh (Oc _))
def xf{pins:List (Addr×Obj)}{σ:St}{H:Hp}{s:Shared}{R:It->Hp->Prop}{E:Value->Shared->Prop}{lo hi:Int}{t u v:Tok}{tk:Nat}(I:Inv X pins σ H s)(h1: -(2^62)<=lo)(h2:lo<2^62)(h3: -(2^62)<=hi)(h4:hi<2^62)
  (q:R (Ci lo (hi-lo).toNat) H):wpAny (model X.prog X.w) X.A (pyIter (.ref s.heap.objs.size)) (ND X pins σ tg R) E {s with heap:=s.heap.push {cls:=.type "range",data:=.fields #[.int lo t,.int hi u,.int 1 v]},toks:=tk}:=by
 refine wpAny_pyIter_range (IsRange.new ..) (small_one h1 h2 h3 h4) ?_
 have I1:Inv X pins σ H {s with heap:=s.heap.push {cls:=.type "range",data:=.fields #[.int lo t,.int hi u,.int 1 v]},toks:=tk}:=I.kept λb o e=>Oa _ e
 refine⟨(s.heap.push {cls:=.type "range",data:=.fields #[.int lo t,.int hi u,.int 1 v]}).objs.size,[(s.heap.push {cls:=.type "range",data:=.fields #[.int lo t,.int hi u,.int 1 v]}).objs.size],_,_,H,rfl,
  I1.kept λb o e=>Oa _ e,yS _ lo (hi-lo).toNat,?_,λb hb=>?_,q⟩
 .have e1:lo+((0:Nat):Int)*1=lo:=by simp
  have e2:(((hi-lo).toNat:Nat):Int)-((0:Nat):Int)=Builtin.Range.rangeSize lo hi 1:=by rw[rangeSize_one];split<;>omega
  rw[e1,e2]
  exact Ou _ rfl
 .have e:b=(s.heap.push {cls:=.type "range",data:=.fields #[.int lo t,.int hi u,.int 1 v]}).objs.size:=by simpa using hb
  subst e
  exact I1.fpOk (Oc _) (I1.hok.fresh (Oc _))
def KZ(ta:TA):TI:=λσ H R=>ta σ H λvs H1=>∃j:Int,vs= [.int j]/\ -(2^62)<=j/\j<2^62/\R (Ci 0 j.toNat) H1
def KU(ta:TA):TI:=λσ H R=>ta σ H λvs H1=>∃i j:Int,vs= [.int i,.int j]/\(-(2^62)<=i/\i<2^62/\ -(2^62)<=j/\j<2^62)/\R (Ci i (j-i).toNat) H1
theorem l8{a:Expr}{ta:TA}{p pos:Pos}(hg:Gl X "range")(hm:X.mg "range"=none)(ha:PA X [a] ta)(hs:starEach [a] X.env= [(false,eval a X.env)]:=by rfl):PI X tg (.Call (.Name "range" p) [a] [] pos) (KZ ta):=by
 intro pins s σ H R I h
 refine Call_ (mV I hg hm boot_range (P7 (cI (ha pos pins s σ H _ I h) λus s1 ⟨vs,H1,I1,r1,q1⟩=>?_) hs rfl))
 obtain⟨j,e,q1,q2,q⟩:=q1
 subst e
 cases r1 with
 |cons r rr=>
  cases rr
  obtain⟨t,rfl⟩:=r
  exact call_range_1 (xf I1 (by omega) (by omega) q1 q2 (by simpa using q))
theorem Bk{a b:Expr}{ta:TA}{p pos:Pos}(hg:Gl X "range")(hm:X.mg "range"=none)(ha:PA X [a,b] ta)(hs:starEach [a,b] X.env= [(false,eval a X.env),(false,eval b X.env)]:=by rfl)(hs2:starEach [b] X.env= [(false,eval b X.env)]:=by rfl) :
  PI X tg (.Call (.Name "range" p) [a,b] [] pos) (KU ta):=by
 intro pins s σ H R I h
 refine Call_ (mV I hg hm boot_range (P7 (cI (ha pos pins s σ H _ I h) λus s1 ⟨vs,H1,I1,r1,q1⟩=>?_) (by rw[hs,hs2]) (by rw[hs2];rfl)))
 obtain⟨i,j,e,⟨q1,q2,q3,q4⟩,q⟩:=q1
 subst e
 cases r1 with
 |cons r rr=>
  cases rr with
  |cons r' rr=>
   cases rr
   obtain⟨t,rfl⟩:=r
   obtain⟨t',rfl⟩:=r'
   exact call_range_2 (xf I1 q1 q2 q3 q4 q)
def Nj(wi:TI)(g:TG)(tb:TS):TS:=λD σ H=>wi σ H λJ H1=>∃W:Nat->Nat->St->Hp->Prop,(∃m,W 0 m σ H1)/\∀i m σ H,W i m σ H->
 (J.stop i H/\D.nx σ H)\/(J.go i H/\∃N:St->Hp->Prop,(∀σ' H',N σ' H'->∃m',m'<m/\W (i+1) m' σ' H')/\∀x H',J.yld i H x H'->g x σ H' λσ2 H2=>tb {D with nx:=N,ct:=N,bk:=D.nx} σ2 H2)
def qx(fp:List Addr)(h:Heap):List (Addr×Obj):=fp.filterMap λb=>(h.get? b).map λo=>(b,o)
def kL{fp:List Addr}{h:Heap}{b:Addr}{o:Obj}(hb:b∈fp)(e:h.get? b=some o):(b,o)∈qx fp h:=QY.mpr ⟨b,hb,by rw[e];rfl⟩
theorem Bb{fp:List Addr}{h:Heap}{p:Addr×Obj}(hp:p∈qx fp h):p.1∈fp/\h.get? p.1=some p.2:=by
 let⟨b,hb,e⟩:=QY.mp hp
 cases q:h.get? b with
 |none=>rw[q]at e;cases e
 |some o=>
  rw[q]at e
  have e':(b,o)=p:=Option.some.inj e
  subst e'
  exact⟨hb,q⟩
def Inv.pinned{pins:List (Addr×Obj)}{σ:St}{H:Hp}{s:Shared}{fp:List Addr}(I:Inv X pins σ H s)(hf:∀b∈fp,pS X pins H b)(ho:∀b∈fp,∃o,s.heap.get? b=some o/\∀v,o.data≠.cell v):Inv X (pins++qx fp s.heap) σ H s:=
 I.pins_of λp hp=>(Ox.mp hp).elim (λz=>I.pin p (OR _ z)) λz=>by
  let⟨hb,e⟩:=Bb z
  let⟨f0,f1,f2,_⟩:=hf p.1 hb
  let⟨o,e',d⟩:=ho p.1 hb
  rw[e]at e';cases e'
  exact⟨e,f0,f1,f2,d⟩
def Inv.unpinned{pins pl:List (Addr×Obj)}{σ:St}{H:Hp}{s:Shared}(I:Inv X (pins++pl) σ H s):Inv X pins σ H s:=I.pins_of λp hp=>I.pin p (OR _ (O7 _ hp))
def vZ{iter:Expr}{body:List Stmt}{wi:TI}{g:TG}{tb:TS}{pos:Pos}(hp:PassesOwn (model X.prog X.w) X.A X.env X.xe)(hc:X.calm=true)(hi:PI X tg iter wi)(hg:PG X tg g)(hb:sL X body tb)
  (hs:∀x,foldedSetIterable iter X.env x=pure x:=by intro _;rfl):PS X (.For tg iter body [] pos) (Nj wi g tb):=by
 intro pins s σ H D I h
 refine wpAny_For (cI (hi pins s σ H _ I h) λv s1 h1=>cI h1 λitv s2 h2=>?_) hs
 let⟨it,fp,tn,J,H2,e,I2,T,st2,f2,W,⟨m0,w0⟩,turn⟩:=h2
 subst e
 have stat:∀{H':Hp},(∀b∈fp,H' b=none)->∀b∈fp,pS X pins H' b:=λhn b hb=>⟨hn b hb,(f2 b hb).2⟩
 refine codeAny_forLoop_any (λn s'=>∃i σ' H',Inv X pins σ' H' s'/\tn i s'.heap/\(∀b∈fp,H' b=none)/\W i n σ' H') ?_ m0 ⟨0,σ,H2,I2,st2,λb hb=>(f2 b hb).1,w0⟩
 rintro n s3 ⟨i,σ3,H3,I3,st3,fr3,w3⟩
 rcases turn i n σ3 H3 w3 with⟨stop,qn⟩|⟨go,N,hN,step⟩
 .refine QC hp (cI (T.done X rfl rfl rfl hc i pins s3 σ3 H3 X.xe I3 (stat fr3) st3 stop) λr s4 ⟨hr,I4⟩=>?_)
  subst hr
  exact wpAny_execs_nil ⟨σ3,H3,I4,qn⟩
 .refine QC hp (cI (T.item X rfl rfl rfl hc i pins s3 σ3 H3 X.xe I3 (stat fr3) st3 go) λr s4 ⟨u,hr,h4⟩=>?_)
  subst hr
  refine QC hp (cI h4 λ_ s5 ⟨x,H5,I5,r5,y5,st5,fr5⟩=>?_)
  have I5':=I5.pinned (stat fr5) (T.obj _ _ st5)
  refine QC hp (cI (hg _ s5 σ3 H5 x u _ I5' r5 (step x H5 y5)) λ_ s6 ⟨σ6,H6,I6,q6⟩=>(QC hp (cI (hb _ s6 σ6 H6 _ I6 q6) λf s7 q7=>?_)))
  have again:∀{σ7:St} {H7:Hp},Inv X (pins++qx fp s5.heap) σ7 H7 s7->N σ7 H7->∃m,m<n/\∃i σ' H',Inv X pins σ' H' s7/\tn i s7.heap/\(∀b∈fp,H' b=none)/\W i m σ' H':=λ{σ7 H7} I7 n7=>by
   let⟨m',hm,w7⟩:=hN σ7 H7 n7
   refine⟨m',hm,i+1,σ7,H7,I7.unpinned,T.keep _ _ _ st5 λb hb o e=>(I7.pin (b,o) (OR _ (OR _ (kL hb e)))).1,λb hb=>?_,w7⟩
   let⟨o,e,d⟩:=T.obj _ _ st5 b hb
   exact(I7.pin (b,o) (OR _ (OR _ (kL hb e)))).2.1
  cases f with
  |next=>let⟨σ7,H7,I7,n7⟩:=q7;exact again I7 n7
  |cont=>let⟨σ7,H7,I7,n7⟩:=q7;exact again I7 n7
  |brk=>let⟨σ7,H7,I7,q7⟩:=q7;exact⟨σ7,H7,I7.unpinned,q7⟩
  |ret v=>let⟨x7,σ7,H7,I7,r7,q7⟩:=q7;exact⟨x7,σ7,H7,I7.unpinned,r7,q7⟩
end
def xJ{K:Frag}{a:Addr}{xs:List V}{g:TG}{tb:TS}{D:Ends}{σ:St}{H:Hp}(Pv:Nat->St->Hp->Prop)(h0:Pv 0 σ H)(hl:∀i σ H,i<=xs.length->Pv i σ H->gY K H a xs)
  (hs:∀i x σ H,xs[i]? =some x->Pv i σ H->g x σ H λσ2 H2=>tb {D with nx:=Pv (i+1),ct:=Pv (i+1),bk:=D.nx} σ2 H2) (hd:∀σ H,Pv xs.length σ H->D.nx σ H) :
  ∃W:Nat->Nat->St->Hp->Prop,(∃m,W 0 m σ H)/\∀i m σ H,W i m σ H->
   ((BE K a).stop i H/\D.nx σ H)\/((BE K a).go i H/\∃N:St->Hp->Prop,(∀σ' H',N σ' H'->∃m',m'<m/\W (i+1) m' σ' H')/\∀x H',(BE K a).yld i H x H'->g x σ H' λσ2 H2=>tb {D with nx:=N,ct:=N,bk:=D.nx} σ2 H2):=by
 refine⟨λi m σ H=>m=xs.length-i/\i<=xs.length/\Pv i σ H,⟨xs.length,by simp,O2 _,h0⟩,?_⟩
 rintro i m σ H ⟨rfl,hi,p⟩
 have q:=hl i σ H hi p
 by_cases hlt:i<xs.length
 .refine .inr ⟨⟨xs,xs[i],q,by simp[hlt]⟩,Pv (i+1),λσ' H' p'=>⟨xs.length-(i+1),by omega,rfl,hlt,p'⟩,λx H' y=>?_⟩
  let⟨e,y⟩:=y
  subst e
  exact hs i x σ _ (y xs q) p
 .have e:i=xs.length:=by omega
  subst e
  exact .inl ⟨⟨xs,q,Oc _⟩,hd σ H p⟩
def FU{K:Frag}{a:Addr}{xs:List V}{g:TG}{tb:TS}{D:Ends}{σ:St}{H:Hp}(Pv:Nat->St->Hp->Prop)(h0:Pv 0 σ H)(hl:∀i σ H,i<=xs.length->Pv i σ H->fF K H a xs)
  (hs:∀i x σ H,xs[i]? =some x->Pv i σ H->g x σ H λσ2 H2=>tb {D with nx:=Pv (i+1),ct:=Pv (i+1),bk:=D.nx} σ2 H2) (hd:∀σ H,Pv xs.length σ H->D.nx σ H) :
  ∃W:Nat->Nat->St->Hp->Prop,(∃m,W 0 m σ H)/\∀i m σ H,W i m σ H->
   ((HV K a).stop i H/\D.nx σ H)\/((HV K a).go i H/\∃N:St->Hp->Prop,(∀σ' H',N σ' H'->∃m',m'<m/\W (i+1) m' σ' H')/\∀x H',(HV K a).yld i H x H'->g x σ H' λσ2 H2=>tb {D with nx:=N,ct:=N,bk:=D.nx} σ2 H2):=by
 refine⟨λi m σ H=>m=xs.length-i/\i<=xs.length/\Pv i σ H,⟨xs.length,by simp,O2 _,h0⟩,?_⟩
 rintro i m σ H ⟨rfl,hi,p⟩
 have q:=hl i σ H hi p
 by_cases hlt:i<xs.length
 .refine .inr ⟨⟨xs,xs[i],q,by simp[hlt]⟩,Pv (i+1),λσ' H' p'=>⟨xs.length-(i+1),by omega,rfl,hlt,p'⟩,λx H' y=>?_⟩
  let⟨e,y⟩:=y
  subst e
  exact hs i x σ _ (y xs q) p
 .have e:i=xs.length:=by omega
  subst e
  exact .inl ⟨⟨xs,q,Oc _⟩,hd σ H p⟩
def Bw{lo:Int}{n:Nat}{g:TG}{tb:TS}{D:Ends}{σ:St}{H:Hp}(Pv:Nat->St->Hp->Prop)(h0:Pv 0 σ H)
  (hs:∀i σ H,i<n->Pv i σ H->g (.int (lo+i)) σ H λσ2 H2=>tb {D with nx:=Pv (i+1),ct:=Pv (i+1),bk:=D.nx} σ2 H2) (hd:∀σ H,Pv n σ H->D.nx σ H) :
  ∃W:Nat->Nat->St->Hp->Prop,(∃m,W 0 m σ H)/\∀i m σ H,W i m σ H->
   ((Ci lo n).stop i H/\D.nx σ H)\/((Ci lo n).go i H/\∃N:St->Hp->Prop,(∀σ' H',N σ' H'->∃m',m'<m/\W (i+1) m' σ' H')/\∀x H',(Ci lo n).yld i H x H'->g x σ H' λσ2 H2=>tb {D with nx:=N,ct:=N,bk:=D.nx} σ2 H2):=by
 refine⟨λi m σ H=>m=n-i/\i<=n/\Pv i σ H,⟨n,by simp,O2 _,h0⟩,?_⟩
 rintro i m σ H ⟨rfl,hi,p⟩
 by_cases hlt:i<n
 .refine .inr ⟨hlt,Pv (i+1),λσ' H' p'=>⟨n-(i+1),by omega,rfl,hlt,p'⟩,λx H' y=>?_⟩
  obtain⟨e,y⟩:=y
  subst e y
  exact hs i σ _ hlt p
 .have e:i=n:=by omega
  subst e
  exact .inl ⟨Oc _,hd σ H p⟩
abbrev R2:=V->V->Hp->VK->Prop
def om(X:Cx)(f:Value->Value->Sem Value)(r:R2):Prop:=
 ∀(pins:List (Addr×Obj)) (s:Shared) (σ:St) (H:Hp) (x y:V) (v u:Value) (Q:VK),Inv X pins σ H s->RelV x v->RelV y u->r x y H Q->
  wpAny (model X.prog X.w) X.A (f v u) (EP X pins σ Q) X.xe s
def L8(X:Cx)(f:Value->Sem Value)(r:V->Hp->VK->Prop):Prop:=
 ∀(pins:List (Addr×Obj)) (s:Shared) (σ:St) (H:Hp) (x:V) (v:Value) (Q:VK),Inv X pins σ H s->RelV x v->r x H Q->
  wpAny (model X.prog X.w) X.A (f v) (EP X pins σ Q) X.xe s
def dq(X:Cx)(f:Value)(r:List V->Hp->VK->Prop):Prop:=
 ∀(pins:List (Addr×Obj)) (s:Shared) (σ:St) (H:Hp) (xs:List V) (us:List Value) (Q:VK),Inv X pins σ H s->Vals xs us->r xs H Q->
  wpAny (model X.prog X.w) X.A (call f us) (EP X pins σ Q) X.xe s
def Mt(X:Cx)(r:V->Hp->(Bool->Hp->Prop)->Prop):Prop:=
 ∀(pins:List (Addr×Obj)) (s:Shared) (σ:St) (H:Hp) (x:V) (v:Value) (Q:Bool->Hp->Prop),Inv X pins σ H s->RelV x v->r x H Q->
  wpAny (model X.prog X.w) X.A (truthy v) (TP X pins σ Q) X.xe s
def Ml(r:R2)(ta tb:TE):TE:=λσ H Q=>ta σ H λx H1=>tb σ H1 λy H2=>r x y H2 Q
def N1(r:V->Hp->VK->Prop)(ta:TE):TE:=λσ H Q=>ta σ H λx H1=>r x H1 Q
def rI(C:Int->Int->Prop)(g:Int->Int->V):R2:=λx y H Q=>∃i j,x=.int i/\y=.int j/\C i j/\Q (g i j) H
def B8(g:Int->Int->V):R2:=λx y H Q=>∃i j,x=.int i/\y=.int j/\Q (g i j) H
def rU(g:Int->V):V->Hp->VK->Prop:=λx H Q=>∃i,x=.int i/\Q (g i) H
section
variable {X:Cx}{a b c:Expr}{ta tb tc:TE}{pos:Pos}
def Iu(ha:PE X a ta)(hb:PE X b tb){pins:List (Addr×Obj)}{s:Shared}{σ:St}{H:Hp}{R:V->V->Hp->Prop}(I:Inv X pins σ H s)
  (h:ta σ H λx H1=>tb σ H1 λy H2=>R x y H2) {Q:Value->Shared->Prop} {f:Value->Value->Sem Value}
  (hf:∀v u s2 x y H2,Inv X pins σ H2 s2->RelV x v->RelV y u->R x y H2->wpAny (model X.prog X.w) X.A (f v u) Q X.xe s2) :
  wpAny (model X.prog X.w) X.A (eval a X.env) (λv s₁=>wpAny (model X.prog X.w) X.A (eval b X.env) (λu s₂=>wpAny (model X.prog X.w) X.A (f v u) Q X.xe s₂) X.xe s₁) X.xe s:=by
 refine cI (ha pins s σ H _ I h) λv s1 ⟨x,H1,I1,r1,q1⟩=>?_
 exact cI (hb pins s1 σ H1 _ I1 q1) λu s2 ⟨y,H2,I2,r2,q2⟩=>(hf v u s2 x y H2 I2 r1 r2 q2)
def x8{op:Operator}{r:R2}(ho:om X (binaryOp op) r)(ha:PE X a ta)(hb:PE X b tb):PE X (.BinOp a op b pos) (Ml r ta tb):=by
 intro pins s σ H Q I h
 exact wpAny_BinOp (Iu ha hb I h λv u s2 x y H2 I2 rx ry q=>ho pins s2 σ H2 x y v u Q I2 rx ry q)
def Ic{op:UnaryOp}{r:V->Hp->VK->Prop}(ho:L8 X (unaryOp op) r)(ha:PE X a ta):PE X (.UnaryOp op a pos) (N1 r ta):=by
 intro pins s σ H Q I h
 exact UnaryOp_ (cI (ha pins s σ H _ I h) λv s1 ⟨x,H1,I1,r1,q1⟩=>ho pins s1 σ H1 x v Q I1 r1 q1)
def Mn{f:Value->Value->Sem Value}{C:Int->Int->Prop}{g:Int->Int->Int}
  (rule:∀(i j:Int) (t u:Tok) (s:Shared) (Q:Value->Shared->Prop) (E:Value->Shared->Prop),C i j->Q (.int (g i j) s.toks) {s with toks:=s.toks+1}->wpAny (model X.prog X.w) X.A (f (.int i t) (.int j u)) Q E s) :
  om X f (rI C λi j=>.int (g i j)):=by
 intro pins s σ H x y v u Q I rx ry h
 obtain⟨i,j,rfl,rfl,hc,q⟩:=h
 obtain⟨t,rfl⟩:=rx
 obtain⟨t',rfl⟩:=ry
 exact rule i j t t' s _ _ hc ⟨.int (g i j),H,I.tok _,⟨_,rfl⟩,q⟩
def Lu{f:Value->Value->Sem Value}{g:Int->Int->Int}
  (rule:∀(i j:Int) (t u:Tok) (s:Shared) (Q:Value->Shared->Prop) (E:Value->Shared->Prop),Q (.int (g i j) s.toks) {s with toks:=s.toks+1}->wpAny (model X.prog X.w) X.A (f (.int i t) (.int j u)) Q E s) :
  om X f (B8 λi j=>.int (g i j)):=by
 intro pins s σ H x y v u Q I rx ry h
 obtain⟨i,j,rfl,rfl,q⟩:=h
 obtain⟨t,rfl⟩:=rx
 obtain⟨t',rfl⟩:=ry
 exact rule i j t t' s _ _ ⟨.int (g i j),H,I.tok _,⟨_,rfl⟩,q⟩
def JS{f:Value->Value->Sem Value}{g:Int->Int->Bool}
  (rule:∀(i j:Int) (t u:Tok) (s:Shared) (Q:Value->Shared->Prop) (E:Value->Shared->Prop),Q (.bool (g i j)) s->wpAny (model X.prog X.w) X.A (f (.int i t) (.int j u)) Q E s) :
  om X f (B8 λi j=>.bl (g i j)):=by
 intro pins s σ H x y v u Q I rx ry h
 obtain⟨i,j,rfl,rfl,q⟩:=h
 obtain⟨t,rfl⟩:=rx
 obtain⟨t',rfl⟩:=ry
 exact rule i j t t' s _ _ ⟨.bl (g i j),H,I,rfl,q⟩
def FQ(i j:Int):Prop:=0<j/\j<1073741824
def CP(i j:Int):Prop:=(-(2^64)<i/\i<2^64)\/(-(2^64)<j/\j<2^64)
def CP.ok{i j:Int}(h:CP i j):IntMulOk i j:=by
 rcases h with⟨h1,h2⟩|⟨h1,h2⟩
 .exact .of_left (intBits_le_64 h1 h2)
 .exact .of_right (intBits_le_64 h1 h2)
def gB:om X (binaryOp .Add) (B8 λi j=>.int (i+j)):=Lu λ_ _ _ _ _ _ _ q=>add_int q
def Jf:om X (binaryOp .Sub) (B8 λi j=>.int (i-j)):=Lu λ_ _ _ _ _ _ _ q=>sub_int q
def jH:om X (binaryOp .Mult) (rI CP λi j=>.int (i*j)):=Mn λ_ _ _ _ _ _ _ hc q=>mul_int q hc.ok
def ot:om X (binaryOp .FloorDiv) (rI FQ λi j=>.int (i/j)):=Mn λi j _ _ _ _ _ hc q=>by
 have h1:(0:Int)<j:=hc.1
 have h2:j<1073741824:=hc.2
 exact floordiv_int (by omega) (by rw[Int.fdiv_eq_ediv_of_nonneg i (by omega)];exact q) (.inl (PyProof.noPylong_small (by omega)))
def mW:om X (binaryOp .Mod) (rI (λ_ j=>0<j) λi j=>.int (i%j)):=Mn λi j _ _ _ _ _ hc q=>by
 have h1:(0:Int)<j:=hc
 exact mod_int' (by omega) (by rw[Int.fmod_eq_emod_of_nonneg i (by omega)];exact q)
def N3{f:Value->Sem Value}{g:Int->Int}
  (rule:∀(i:Int) (t:Tok) (s:Shared) (Q:Value->Shared->Prop) (E:Value->Shared->Prop),Q (.int (g i) s.toks) {s with toks:=s.toks+1}->wpAny (model X.prog X.w) X.A (f (.int i t)) Q E s) :
  L8 X f (rU λi=>.int (g i)):=by
 intro pins s σ H x v Q I rx h
 obtain⟨i,rfl,q⟩:=h
 obtain⟨t,rfl⟩:=rx
 exact rule i t s _ _ ⟨.int (g i),H,I.tok _,⟨_,rfl⟩,q⟩
def sD:L8 X (unaryOp .USub) (rU λi=>.int (-i)):=N3 λ_ _ _ _ _ q=>neg_int q
end
section
variable {X:Cx}{a b c:Expr}{ta tb tc:TE}{pos:Pos}
def zO:om X (compareOp .Lt) (B8 λi j=>.bl (decide (i<j))):=JS λ_ _ _ _ _ _ _ q=>lt_int q
def D6:om X (compareOp .LtE) (B8 λi j=>.bl (decide (i<=j))):=JS λ_ _ _ _ _ _ _ q=>le_int q
def Kn:om X (compareOp .Gt) (B8 λi j=>.bl (decide (j<i))):=JS λ_ _ _ _ _ _ _ q=>gt_int q
def aW(b:Expr){op:CmpOp}(h:op≠.In:=by decide)(h2:op≠.NotIn:=by decide):behindInMarks op b=false:=by
 have e1:(op==CmpOp.In)=false:=by cases op<;>first|rfl|exact absurd rfl h
 have e2:(op==CmpOp.NotIn)=false:=by cases op<;>first|rfl|exact absurd rfl h2
 cases b<;>simp[behindInMarks,e1,e2]
def FA{op:CmpOp}{r:R2}(ho:om X (compareOp op) r)(ha:PE X a ta)(hb:PE X b tb)(hm:behindInMarks op b=false):PE X (.Compare a [op] [b] pos) (Ml r ta tb):=by
 intro pins s σ H Q I h
 exact wpAny_Compare1 (Iu ha hb I h λv u s2 x y H2 I2 rx ry q=>ho pins s2 σ H2 x y v u Q I2 rx ry q) hm
def Km(t:TE):TT:=λσ H Q=>t σ H λx H'=>∃k,x=.bl k/\Q k H'
def GO{op:CmpOp}{r:R2}(ho:om X (compareOp op) r)(ha:PE X a ta)(hb:PE X b tb)(hm:behindInMarks op b=false):PT X (.Compare a [op] [b] pos) (Km (Ml r ta tb)):=by
 intro pins s σ H Q I h
 refine wpAny_isTrue_Compare1 (cI (ha pins s σ H _ I h) λv s1 ⟨x,H1,I1,r1,q1⟩=>cI (hb pins s1 σ H1 _ I1 q1) λu s2 ⟨y,H2,I2,r2,q2⟩=>
  cI (ho pins s2 σ H2 x y v u _ I2 r1 r2 q2) λc s3 ⟨z,H3,I3,r3,k,e,q3⟩=>?_) hm
 subst e
 cases r3
 exact P0 ⟨H3,I3,q3⟩
def IT(r r':R2)(ta tb tc:TE):TE:=λσ H Q=>ta σ H λx H1=>tb σ H1 λy H2=>r x y H2 λz H3=>∃k,z=.bl k/\
 (if k=true then tc σ H3 λw' H4=>r' y w' H4 Q else Q (.bl false) H3)
theorem D1{op op':CmpOp}{r r':R2}(ho:om X (compareOp op) r)(ho':om X (compareOp op') r')(ha:PE X a ta)(hb:PE X b tb)(hc:PE X c tc)
  (hm:lastMarks [op,op'] [b,c]=false:=by with_unfolding_all rfl):PE X (.Compare a [op,op'] [b,c] pos) (IT r r' ta tb tc):=by
 intro pins s σ H Q I h
 refine Compare_chain (cI (ha pins s σ H _ I h) λv s1 ⟨x,H1,I1,r1,q1⟩=>chain_link (cI (hb pins s1 σ H1 _ I1 q1) λu s2 ⟨y,H2,I2,r2,q2⟩=>
  cI (ho pins s2 σ H2 x y v u _ I2 r1 r2 q2) λd s3 ⟨z,H3,I3,r3,k,e,q3⟩=>?_)) hm
 subst e
 cases r3
 refine P0 ?_
 cases k with
 |false=>exact ite_ff ⟨.bl false,H3,I3,rfl,q3⟩
 |true=>exact ite_tt (chain_last (cI (hc pins s3 σ H3 _ I3 q3) λw' s4 ⟨z',H4,I4,r4,q4⟩=>ho' pins s4 σ H4 y z' u w' Q I4 r2 r4 q4))
def LY(K:Frag)(x:V)(H:Hp)(k:Bool):Prop:=
 match x with
 | .non=>k=false
 | .bl b=>k=b
 | .int i=>k=(i != 0)
 | .str y=>y.length<=sizeLine/\k=((y.length:Int) != 0)
 | .byt y=>y.size<=sizeLine/\k=((y.size:Int) != 0)
 | .ref p=>(∃xs,gY K H p xs/\k= !xs.isEmpty)\/(∃xs,fF K H p xs/\k= !xs.isEmpty)\/∃kvs,H p=some (.dK kvs)/\k= !kvs.isEmpty
 |_=>False
def yz{κ:Type}{kvs:List (κ×V)}{vs:List (κ×Value)}(r:KV kvs vs):(!vs.isEmpty)= !kvs.isEmpty:=by
 cases r<;>rfl
def qH{xs:List V}{its:List Value}(r:Vals xs its):(!its.toArray.isEmpty)= !xs.isEmpty:=by
 cases r<;>simp
def ph:(sizeLine:Nat)<2^63:=by rw[OU];decide
theorem Jh:Mt X (λx H Q=>∃k,LY X.K x H k/\Q k H):=by
 intro pins s σ H x v Q I rx h
 let⟨k,e,q⟩:=h
 have hl:=ph
 have hs:sizeLine=16777216:=OU
 cases x with
 |non=>
  cases rx
  have e':k=false:=e
  subst e'
  exact truthy_none ⟨H,I,q⟩
 |bl b=>
  cases rx
  have e':k=b:=e
  subst e'
  exact P0 ⟨H,I,q⟩
 |int i=>
  obtain⟨t,rfl⟩:=rx
  have e':k=(i != 0):=e
  subst e'
  exact PySem.P.truthy_int ⟨H,I,q⟩
 |str y=>
  obtain⟨t,rfl⟩:=rx
  obtain⟨hy,e'⟩:y.length<=sizeLine/\k=((y.length:Int) != 0):=e
  subst e'
  exact PySem.P.truthy_str (by omega) ⟨H,I.tok _,q⟩
 |byt y=>
  obtain⟨t,rfl⟩:=rx
  obtain⟨hy,e'⟩:y.size<=sizeLine/\k=((y.size:Int) != 0):=e
  subst e'
  exact PySem.W.truthy_bytes (by omega) ⟨H,I.tok _,q⟩
 |ref p=>
  cases rx
  have e':(∃xs,gY X.K H p xs/\k= !xs.isEmpty)\/(∃xs,fF X.K H p xs/\k= !xs.isEmpty)\/∃kvs,H p=some (.dK kvs)/\k= !kvs.isEmpty:=e
  rcases e' with⟨xs,hx,e'⟩|⟨xs,hx,e'⟩|⟨kvs,hx,e'⟩
  .subst e'
   let⟨its,r,pl,hz⟩:=I.list hx
   have hlen:=r.length
   exact wpAny_truthy_list pl.isList (by simp only[OK];omega) ⟨H,I.tok _,by rw[qH r];exact q⟩
  .subst e'
   let⟨its,r,pl,hz⟩:=I.tuple hx
   have hlen:=r.length
   exact truthy_tuple pl (by simp only[OK];omega) ⟨H,I.tok _,by rw[qH r];exact q⟩
  .subst e'
   obtain⟨hz,hS,vs,r,m⟩:kvs.length<=sizeLine/\(p==sysModules)=false/\∃vs,KV kvs vs/\s.heap.DictOf (bS X.prog X.w) p vs:=I.hok p _ hx
   have hlen:kvs.length=vs.length:=Paired.length r
   exact wpAny_truthy_dict hS m (by omega) ⟨H,I.tok _,by rw[yz r];exact q⟩
 |_=>exact(show False from e).elim
def DW(ha:PE X a ta)(he:∀whole,isTrue a X.env whole=(do let v <-whole;standAt a.pos;holding [v] (truthy v))) :
  PT X a (λσ H Q=>ta σ H λx H'=>∃k,LY X.K x H' k/\Q k H'):=by
 intro pins s σ H Q I h
 exact isTrue_plain (cI (ha pins s σ H _ I h) λv s1 ⟨x,H1,I1,r1,q1⟩=>Jh pins s1 σ H1 x v Q I1 r1 q1) (he _)
theorem vals1{x:V}{us:List Value}(r:Vals [x] us):∃u,us= [u]/\RelV x u:=by
 cases r with
 |cons r1 r2=>cases r2;exact⟨_,rfl,r1⟩
theorem vals2{x y:V}{us:List Value}(r:Vals [x,y] us):∃u w',us= [u,w']/\RelV x u/\RelV y w':=by
 cases r with
 |cons r1 r2=>
  cases r2 with
  |cons r3 r4=>cases r4;exact⟨_,_,rfl,r1,r3⟩
def DS:dq X (.builtin "abs") (λxs H Q=>∃i,xs= [.int i]/\Q (.int (if i<0 then -i else i)) H):=by
 intro pins s σ H xs us Q I r h
 obtain⟨i,rfl,q⟩:=h
 obtain⟨u,rfl,t,rfl⟩:=vals1 r
 exact call_abs_int λu tk=>⟨.int (if i<0 then -i else i),H,I.tok _,⟨_,rfl⟩,q⟩
def Ba(hc:X.calm=true):dq X (.builtin "max") (λxs H Q=>∃i j,xs= [.int i,.int j]/\Q (.int (if j>i then j else i)) H):=by
 intro pins s σ H xs us Q I r h
 obtain⟨i,j,rfl,q⟩:=h
 obtain⟨u,w',rfl,⟨t,rfl⟩,⟨t',rfl⟩⟩:=vals2 r
 refine max_two_ints (I.ok.hd hc) λh' tk k=>⟨_,H,I.kept k,?_,q⟩
 by_cases hj:j>i
 .rw[Od hj,Od hj];exact⟨_,rfl⟩
 .rw[Oe hj,Oe hj];exact⟨_,rfl⟩
def Bh(hc:X.calm=true):dq X (.builtin "min") (λxs H Q=>∃i j,xs= [.int i,.int j]/\Q (.int (if j<i then j else i)) H):=by
 intro pins s σ H xs us Q I r h
 obtain⟨i,j,rfl,q⟩:=h
 obtain⟨u,w',rfl,⟨t,rfl⟩,⟨t',rfl⟩⟩:=vals2 r
 refine min_two_ints (I.ok.hd hc) λh' tk k=>⟨_,H,I.kept k,?_,q⟩
 by_cases hj:j<i
 .rw[Od hj,Od hj];exact⟨_,rfl⟩
 .rw[Oe hj,Oe hj];exact⟨_,rfl⟩
def Ln(K:Frag)(x:V)(H:Hp)(n:Nat):Prop:=
 match x with
 | .str y=>y.length<=sizeLine/\n=y.length
 | .byt y=>y.size<=sizeLine/\n=y.size
 | .ref p=>(∃xs,gY K H p xs/\n=xs.length)\/∃xs,fF K H p xs/\n=xs.length
 |_=>False
theorem b6:dq X (.builtin "len") (λxs H Q=>∃x n,xs= [x]/\Ln X.K x H n/\Q (.int n) H):=by
 intro pins s σ H xs us Q I r h
 obtain⟨x,n,rfl,e,q⟩:=h
 obtain⟨u,rfl,rx⟩:=vals1 r
 have hl:=ph
 have hs:sizeLine=16777216:=OU
 cases x with
 |str y=>
  obtain⟨t,rfl⟩:=rx
  obtain⟨hy,e'⟩:y.length<=sizeLine/\n=y.length:=e
  subst e'
  exact len_str (by omega) ⟨.int _,H,I.tok _,⟨_,rfl⟩,q⟩
 |byt y=>
  obtain⟨t,rfl⟩:=rx
  obtain⟨hy,e'⟩:y.size<=sizeLine/\n=y.size:=e
  subst e'
  exact PySem.W.len_bytes (by omega) ⟨.int _,H,I.tok _,⟨_,rfl⟩,q⟩
 |ref p=>
  cases rx
  have e':(∃xs,gY X.K H p xs/\n=xs.length)\/∃xs,fF X.K H p xs/\n=xs.length:=e
  rcases e' with⟨xs,hx,e'⟩|⟨xs,hx,e'⟩
  .subst e'
   let⟨its,r',pl,hz⟩:=I.list hx
   have hlen:=r'.length
   exact Calls.call_len_list pl.isList (by simp only[OK];omega) ⟨.int xs.length,H,I.tok _,⟨_,by simp only[OK];rw[hlen]⟩,q⟩
  .subst e'
   let⟨its,r',pl,hz⟩:=I.tuple hx
   have hlen:=r'.length
   exact len_tuple pl (by simp only[OK];omega) ⟨.int xs.length,H,I.tok _,⟨_,by simp only[OK];rw[hlen]⟩,q⟩
 |_=>exact(show False from e).elim
def wW:dq X (.builtin "divmod") (λxs H Q=>∃i j,xs= [.int i,.int j]/\FQ i j/\∀p,H p=none->Q (.ref p) (upd H p (.tup [.int (i/j),.int (i%j)]))):=by
 intro pins s σ H xs us Q I r h
 obtain⟨i,j,rfl,⟨h1,h2⟩,q⟩:=h
 obtain⟨u,w',rfl,⟨t,rfl⟩,⟨t',rfl⟩⟩:=vals2 r
 refine divmod_int (by omega) ?_ (.inl (PyProof.noPylong_small (by omega)))
 rw[Int.fdiv_eq_ediv_of_nonneg i (by omega),Int.fmod_eq_emod_of_nonneg i (by omega)]
 have hn:H s.heap.objs.size=none:=I.hok.fresh (Oc _)
 refine⟨.ref s.heap.objs.size,_,?_,rfl,q _ hn⟩
 refine I.laid (λb o e=>Oa _ e) (Oc _) ⟨by simp only[ON,List.length_nil];rw[OU];decide,[.int (i/j) s.toks,.int (i%j) (s.toks+1)],.cons ⟨_,rfl⟩ (.cons ⟨_,rfl⟩ .nil),?_⟩
 exact⟨_,Ou s.heap rfl,rfl,0,rfl,rfl⟩
end
structure JH(h:Heap)(x dx C:Addr)(mA:Str->Option Value):Prop where
 obj:h.get? x=some (PySem.W.instObj C dx)
 ns:h.Ns1 dx mA
 ne:dx≠x
def Cb{h:Heap}{dx:Addr}{mA:Str->Option Value}(n:h.Ns1 dx mA):∃od,h.get? dx=some od/\∀name,PySem.W.lookIn name od=some (mA name):=by
 let⟨o,es,ep,ho,hd,hk,_,hm⟩:=n
 refine⟨o,ho,λname=>?_⟩
 have e:=hm name
 unfold nsFind findBy at e
 rw[<-Array.find?_toList]at e
 unfold PySem.W.lookIn
 rw[hd]
 dsimp only
 split
 .rename_i y q
  rw[q]at e
  exact congrArg some e
 .rename_i q
  rw[q]at e
  have a:es.toList.any (·.refKey)=false:=by
   rw[List.any_eq_false]
   intro y hy
   let⟨z,t,hkey⟩:=hk y (QI.mp hy)
   simp[DictEntry.refKey,hkey]
  have a':¬es.toList.any (·.refKey)=true:=by rw[a];exact OW
  rw[Oe a']
  exact congrArg some e
def JH.look{h:Heap}{x dx C:Addr}{mA:Str->Option Value}(I:JH h x dx C mA):∃od,PySem.W.InstAt h x (PySem.W.instObj C dx) C (some od)/\∀name,PySem.W.lookIn name od=some (mA name):=
 let⟨od,ho,hl⟩:=Cb I.ns
 ⟨od,⟨I.obj,rfl,rfl,ho⟩,hl⟩
theorem rN.some_of{v:V}{o:Option Value}(r:rN (some v) o):∃u,o=some u/\RelV v u:=by
 cases o with
 |none=>exact(show False from r).elim
 |some u=>exact⟨u,rfl,r⟩
section
variable {P:Program}{w:World}{H H':Hp}{h h':Heap}{a C dx:Addr}{fs fs':List (Str×V)}
def Gs(hok:lH P w H h)(e:H a=some (.ins C dx fs)):∃mA,JH h a dx C mA/\(∀f,rN (fs.lookup f) (mA f))/\PySem.Within mA (fs.map (·.1))/\fs.length<=1000/\H dx=some (.own a):=by
 let⟨d,z,ne,ob,mA,n,r,q⟩:=(show bJ P w H h a (.ins C dx fs)from hok a _ e)
 exact⟨mA,⟨ob,n,ne⟩,r,q,z,d⟩
end
structure Mw(K:Frag)(C:Addr):Prop where
 pg:PySem.W.plainGet K C Str.empty=true
 hd:PySem.W.hasDictIn K C=true
 po:PySem.W.plainOver K C=true
 sa:PySem.W.findIn K (.ref C) "__setattr__"=some (some (.builtin "object.__setattr__"))
def Mw.get{K:Frag}{C:Addr}(c:Mw K C)(f:Str):PySem.W.plainGet K C f=true:=c.pg
section
variable {X:Cx}{pins:List (Addr×Obj)}{σ:St}{H:Hp}{s:Shared}{A:Around}{E:Value->Shared->Prop}{Q:Value->Shared->Prop}{c:Value}{b:Bool}
inductive pP(K:Frag)(H:Hp):V->Value->Prop where
 |non:pP K H .non (.type "NoneType")
 |bl (x:Bool):pP K H (.bl x) (.type "bool")
 |int (i:Int):pP K H (.int i) (.type "int")
 |str (x:Str):pP K H (.str x) (.type "str")
 |flt (x:UInt64):pP K H (.flt x) (.type "float")
 |lst {a:Addr} {xs:List V} (e:H a=some (.lst xs)):pP K H (.ref a) (.type "list")
 |ba {a:Addr} {o:Obj} {xs:List V} (e:H a=some (.ba o (.lst xs))):pP K H (.ref a) (.type "list")
 |tup {a:Addr} {xs:List V} (e:H a=some (.tup xs)):pP K H (.ref a) (.type "tuple")
 |dK {a:Addr} {kvs:List (Key×V)} (e:H a=some (.dK kvs)):pP K H (.ref a) (.type "dict")
 |dT {a:Addr} {kvs:List (List Key×V)} {ep:Nat} (e:H a=some (.dT kvs ep)):pP K H (.ref a) (.type "dict")
 |ins {a C dx:Addr} {fs:List (Str×V)} (e:H a=some (.ins C dx fs)) (cl:Mw K C) (ha:PySem.W.findIn K (.ref C) "__class__"=some (some (.builtin "object.__class__")))
   (hn:PySem.W.specialIn K (.builtin "object.__class__") "__get__"=some (some (.builtin "getset_descriptor.__get__"))) (htk:PySem.W.takesIn K (.builtin "object.__class__")=some true)
   (hm:PySem.W.mroIn K C (.type "object")=some true):pP K H (.ref a) (.ref C)
theorem jM{x:V}{u t:Value}(I:Inv X pins σ H s)(rx:RelV x u)(ty:pP X.K H x t)(e:PySem.W.kitOne X.K t c=some b)(h:∀tk,Q (.bool b) {s with toks:=tk}) :
  wpAny (model X.prog X.w) A (call (.builtin "isinstance") [u,c]) Q E s:=by
 cases ty with
 |non=>cases(show u=Value.none from rx);exact Pg PySem.W.kitx_none I.kIn True.intro e (λz=>nomatch z) h
 |bl y=>cases(show u=Value.bool y from rx);exact Pg PySem.W.kitx_bool I.kIn True.intro e (λz=>nomatch z) h
 |int i=>let⟨t,q⟩:=(show ∃t,u=Value.int i t from rx);cases q;exact Pg PySem.W.kitx_int I.kIn True.intro e (λz=>nomatch z) h
 |str y=>let⟨t,q⟩:=(show ∃t,u=Value.str y t from rx);cases q;exact Pg PySem.W.kitx_str I.kIn True.intro e (λz=>nomatch z) h
 |flt y=>let⟨t,q⟩:=(show ∃t,u=Value.float y t from rx);cases q;exact Pg PySem.W.kitx_float I.kIn True.intro e (λz=>nomatch z) h
 | @lst a xs ea=>
  cases(show u=Value.ref a from rx)
  let⟨_,_,n,_,h1⟩:=(show bJ X.prog X.w H s.heap a (.lst xs)from I.hok a _ ea)
  exact Pg PySem.W.kitx_list I.kIn ⟨_,h1,rfl⟩ e (λz=>nomatch z) h
 | @ba a ob xs ea=>
  cases(show u=Value.ref a from rx)
  let⟨_,_,_,n,_,h1⟩:=(show bJ X.prog X.w H s.heap a (.ba ob (.lst xs))from I.hok a _ ea)
  exact Pg PySem.W.kitx_list I.kIn ⟨_,h1,rfl⟩ e (λz=>nomatch z) h
 | @tup a xs ea=>
  cases(show u=Value.ref a from rx)
  let⟨_,_,_,p⟩:=(show bJ X.prog X.w H s.heap a (.tup xs)from I.hok a _ ea)
  let⟨o,h1,h2,_⟩:=p
  exact Pg PySem.W.kitx_tuple I.kIn ⟨o,h1,h2⟩ e (λz=>nomatch z) h
 | @dK a kvs ea=>
  cases(show u=Value.ref a from rx)
  let⟨_,_,vs,_,p⟩:=(show bJ X.prog X.w H s.heap a (.dK kvs)from I.hok a _ ea)
  let⟨o,es,ep,h1,h2,_⟩:=p
  exact Pg PySem.W.kitx_dict I.kIn ⟨o,h1,h2.1⟩ e (λz=>nomatch z) h
 | @dT a kvs ep ea=>
  cases(show u=Value.ref a from rx)
  let⟨_,_,xs,_,o,es,h1,h2,_⟩:=(show bJ X.prog X.w H s.heap a (.dT kvs ep)from I.hok a _ ea)
  exact Pg PySem.W.kitx_dict I.kIn ⟨o,h1,h2.1⟩ e (λz=>nomatch z) h
 | @ins a C dx fs ea cl ha hn htk hm=>
  cases(show u=Value.ref a from rx)
  let⟨mA,O,_⟩:=Gs I.hok ea
  let⟨od,J,_⟩:=O.look
  exact Pg (PySem.W.kitx_own (cl.get _) cl.hd ha hn htk hm) I.kIn J e (λz=>nomatch z) h
end
structure fY(k:Nat)(A:Around):Prop where
 hd:A.handled=none
 dp:A.depth+3*k+5<recursionLimit
 un:A.units+16*k+200<cLine
 gd:A.guards=some []
def fY.mono{j k:Nat}{A:Around}(r:fY k A)(h:j<=k):fY j A:=⟨r.hd,by have:=r.dp;omega,by have:=r.un;omega,r.gd⟩
def fY.deeper{k:Nat}{A:Around}(r:fY (k+1) A)(env:Env):fY k (A.deeper env):=
 ⟨r.hd,by have:=r.dp;show A.depth+1+3*k+5<_;omega,by have:=r.un;show A.units+3+16*k+200<_;omega,r.gd⟩
def fY.depth{k:Nat}{A:Around}(r:fY k A):A.depth<recursionLimit:=by have:=r.dp;omega
def fY.units{k:Nat}{A:Around}(r:fY k A):A.units+64<cLine:=by have:=r.un;omega
def MK:TA:=λ_ H Q=>Q [] H
def LI(ta:TE)(tr:TA):TA:=λσ H Q=>ta σ H λx H1=>tr σ H1 λxs H2=>Q (x::xs) H2
section
variable {X:Cx}{e:Expr}{es:List Expr}{te:TE}{t:TA}{pos:Pos}
def bC:PA X [] MK:=λ_ _ _ _ H Q I h=>Calls.spliced_nil ⟨[],H,I,.nil,h⟩
def aQ(ha:PE X e te)(hr:PA X es t)(hs:starEach (e::es) X.env=(false,eval e X.env)::starEach es X.env:=by rfl):PA X (e::es) (LI te t):=by
 intro pos pins s σ H Q I h
 rw[hs]
 exact Calls.spliced_cons (cI (ha pins s σ H _ I h) λu s1 ⟨x,H1,I1,r1,q1⟩=>(cI (hr pos pins s1 σ H1 _ I1 q1) λus s2 ⟨xs,H2,I2,r2,q2⟩=>⟨x::xs,H2,I2,.cons r1 r2,q2⟩))
def Mp(t:TA):TE:=λσ H Q=>t σ H λxs H1=>xs.length<=sizeLine/\∀p,H1 p=none->Q (.ref p) (upd H1 p (.tup xs))
def M4(t:TA):TE:=λσ H Q=>t σ H λxs H1=>xs.length<=sizeLine/\∀p,H1 p=none->Q (.ref p) (upd H1 p (.lst xs))
def yZ{x1}(h:PA X es t):PE X (.Tuple es x1 pos) (Mp t):=by
 intro pins s σ H Q I hq
 refine wpAny_Tuple_spliced (cI (h pos pins s σ H _ I hq) λus s1 ⟨xs,H1,I1,r,z,q⟩=>⟨by rw[<-r.length];exact z,?_⟩)
 have hf:H1 s1.heap.objs.size=none:=I1.hok.fresh (Oc _)
 refine⟨.ref s1.heap.objs.size,upd H1 s1.heap.objs.size (.tup xs),I1.laid (λb u e=>Oa _ e) (Oc _) ?_,rfl,q _ hf⟩
 exact⟨z,us,r,wM.new _ _⟩
def CK(h:PA X es t):PE X (.List es pos) (M4 t):=by
 intro pins s σ H Q I hq
 refine wpAny_List_spliced (cI (h pos pins s σ H _ I hq) λus s1 ⟨xs,H1,I1,r,z,q⟩=>⟨by rw[<-r.length];exact z,?_⟩)
 have hf:H1 s1.heap.objs.size=none:=I1.hok.fresh (Oc _)
 refine⟨.ref s1.heap.objs.size,upd H1 s1.heap.objs.size (.lst xs),I1.laid (λb u e=>Oa _ e) (Oc _) ?_,rfl,q _ hf⟩
 exact⟨z,us,0,r,Ou _ rfl⟩
end
abbrev Sp:=List V->Hp->VK->XK->Prop
abbrev By:=List Env->Hp->Shared->XK->Value->Shared->Prop
structure G9(P:Program)(w:World)(K:Frag)(mg:Str->Option Value)(base:Heap)(A:Around)(outer:List Env)(s:Shared)(H:Hp):Prop where
 frames:A.frames=some outer
 mod:Mod K mg base
 bs:∀b o,base.get? b=some o->s.heap.get? b=some o/\H b=none
 bsz:base.objs.size<=s.heap.objs.size
 funs:s.heap.FunFrames base outer
 frf:∀b∈nH outer,H b=none
 hok:lH P w H s.heap
 bare:AllBare s.gens
def CE(outer:List Env)(P:Program)(w:World)(H:Hp)(s:Shared)(Q:VK)(u:Value)(s':Shared):Prop:=
 ∃v H',s'.os=s.os/\AllBare s'.gens/\Un (nH outer) [] H H' s.heap s'.heap/\lH P w H' s'.heap/\RelV v u/\Q v H'
def CR(CX:By)(outer:List Env)(P:Program)(w:World)(H:Hp)(s:Shared)(Q:VK)(E:XK)(r:Result)(s':Shared):Prop:=
 match r with
 | .ok (.ret u)=>CE outer P w H s Q u s'
 | .ok _=>False
 | .error e=>CX outer H s E e s'
structure gW(P:Program)(w:World)(K:Frag)(mg:Str->Option Value)(base:Heap)(CX:By)(k:Nat)(f:Addr)(fd:FuncData)(ps:List Str)(sp:Sp):Prop where
 len:∀vs H Q E,sp vs H Q E->vs.length=ps.length
 run:∀(A:Around) (outer:List Env) (s:Shared) (H:Hp) (args:Args) (us:List Value) (vs:List V) (Q:VK) (E:XK),fY k A->G9 P w K mg base A outer s H->BindsTo s fd args (ps.zip us)->Vals vs us->sp vs H Q E->
  codeAny (model P w) A (.call (.ref f) args) (CR CX outer P w H s Q E) s
def gW.mono{P:Program}{w:World}{K:Frag}{mg:Str->Option Value}{base:Heap}{CX:By}{j k:Nat}{f:Addr}{fd:FuncData}{ps:List Str}{sp:Sp}(F:gW P w K mg base CX j f fd ps sp)(h:j<=k) :
  gW P w K mg base CX k f fd ps sp:=⟨F.len,λA outer s H args us vs Q E hr=>F.run A outer s H args us vs Q E (hr.mono h)⟩
def gW.imp{P:Program}{w:World}{K:Frag}{mg:Str->Option Value}{base:Heap}{CX:By}{k:Nat}{f:Addr}{fd:FuncData}{ps:List Str}{sp sp':Sp}(F:gW P w K mg base CX k f fd ps sp)
  (h:∀vs H Q E,sp' vs H Q E->sp vs H Q E):gW P w K mg base CX k f fd ps sp':=
 ⟨λvs H Q E q=>F.len vs H Q E (h _ _ _ _ q),λA outer s H args us vs Q E hr he hb hv hs=>F.run A outer s H args us vs Q E hr he hb hv (h _ _ _ _ hs)⟩
section
variable {X:Cx}{pins:List (Addr×Obj)}{σ:St}{H:Hp}{s s':Shared}
def Inv.env0(I:Inv X pins σ H s):G9 X.prog X.w X.K X.mg X.base X.A X.stack s H:=
 ⟨I.ok.frames,I.ok.mod,I.bs,Pf I.ok.bsz I.sz,I.stack,I.stkFree,I.hok,I.bare⟩
def Inv.after{Q:VK}{u:Value}(I:Inv X pins σ H s)(h:CE X.stack X.prog X.w H s Q u s'):EP X pins σ Q u s':=by
 let⟨v,H',os,bare,un,hok,r,q⟩:=h
 let⟨hh,g,d,t,os'⟩:=s'
 obtain rfl:os'=s.os:=os
 exact⟨v,H',I.call un hok bare (λb z=>absurd z (by simp)),r,q⟩
end
def Kl(sp:Sp)(dvs:List V)(E:XK)(t:TA):TE:=λσ H Q=>t σ H λvs H1=>sp (vs++dvs) H1 Q E
def Binds(K:Frag)(fd:FuncData)(ps:List Str)(ds:List Value):Prop:=
 ∀(s:Shared) (us:List Value),K.In s.heap->(us++ds).length=ps.length->BindsTo s fd ⟨us,[]⟩ (ps.zip (us++ds))
def Binds.all{K:Frag}{fd:FuncData}{ps:List Str}(h:∀us:List Value,us.length=ps.length->bindArgs fd ⟨us,[]⟩=pure (ps.zip us)):Binds K fd ps []:=λs us _ hl=>by
 rw[QD]at hl ⊢
 exact .of_eq (h us hl)
def Passes(CX:By)(X:Cx)(E:XK):Prop:=∀(pins:List (Addr×Obj)) (σ:St) (H:Hp) (s:Shared) (e:Value) (s':Shared),Inv X pins σ H s->CX X.stack H s E e s'->X.xe e s'
section
variable {X:Cx}{CX:By}{k:Nat}{f C:Addr}{fd:FuncData}{ps:List Str}{sp:Sp}{dvs:List V}{ds:List Value}{E:XK}{x m:Str}{p pos apos:Pos}{e o:Expr}{es:List Expr}{ta:TE}{t:TA}
theorem Jl{pins:List (Addr×Obj)}{σ:St}{H:Hp}{s:Shared}{Q:VK}{us:List Value}{vs:List V}(F:gW X.prog X.w X.K X.mg X.base CX k f fd ps sp)(hr:fY k X.A)(hb:Binds X.K fd ps ds)(hd:Vals dvs ds)(hx:Passes CX X E)
  (I:Inv X pins σ H s) (r:Vals vs us) (h:sp (vs++dvs) H Q E):wpAny (model X.prog X.w) X.A (call (.ref f) us) (EP X pins σ Q) X.xe s:=by
 have r2:Vals (vs++dvs) (us++ds):=r.append hd
 have hl:(us++ds).length=ps.length:=by rw[<-r2.length];exact F.len _ _ _ _ h
 refine wpAny_call (Rq (F.run X.A X.stack s H ⟨us,[]⟩ (us++ds) (vs++dvs) Q E hr I.env0 (hb s us I.kIn hl) r2 h) λr s' hq=>?_)
 cases r with
 |error e=>exact hx pins σ H s e s' I hq
 |ok fl=>
  cases fl with
  |ret u=>exact I.after hq
  |next=>exact False.elim hq
  |brk=>exact False.elim hq
  |cont=>exact False.elim hq
def ox(F:gW X.prog X.w X.K X.mg X.base CX k f fd ps sp)(hr:fY k X.A)(hg:Gl X x)(hm:X.mg x=some (.ref f))(hk:PySem.W.keepIn X.K (.ref f)=true)(hb:Binds X.K fd ps ds)(hd:Vals dvs ds)(hx:Passes CX X E)
  (ha:PA X (e::es) t) (hdb:(x==("__debug__":Str))=false:=by decide) (he:starEach (e::es) X.env=(false,eval e X.env)::starEach es X.env:=by rfl) (hpl:(backTo pos (starEach es X.env)).any (·.1)=false:=by rfl) :
  PE X (.Call (.Name x p) (e::es) [] pos) (Kl sp dvs E t):=by
 intro pins s σ H Q I h
 refine QZ (zQ I hg hm ?_ hdb)
 exact PySem.W.callWith_K I.ok.mod.kin hk (cI (ha pos pins s σ H _ I h) λus s1 ⟨vs,H1,I1,r,q⟩=>⟨I1.kIn,Jl F hr hb hd hx I1 r q⟩) he hpl
end
structure aF(N P:List Str)(sc:Scope):Prop where
 kind:sc.kind=.function
 co:sc.isCoroutine=false
 gen:sc.isGenerator=false
 nd:N.Nodup
 pre:N.take P.length=P
 par:∀x∈P,sc.names.lookup x=some .local\/sc.names.lookup x=some .cell
 nofree:∀y∈sc.names,y.2≠.free
theorem uH{kindOf:Str->Option NameKind}{x:Str}:∀{binds:List (Str×Value)} {m:Str->Option Value},(∀v,(x,v)∉binds)->bindL kindOf binds m x=m x
 | [],_,_=>rfl
 | (n,v)::r,m,h=>by
  unfold bindL
  rw[uH λw hw=>h w (Og _ hw)]
  split
  ·have:x≠n:=by rintro rfl;exact h v Ol
   simp[this]
  .rfl
theorem uv{kindOf:Str->Option NameKind}{x:Str}:∀{binds:List (Str×Value)} {m:Str->Option Value},(∀v,(x,v)∉binds)->bindC kindOf binds m x=m x
 | [],_,_=>rfl
 | (n,v)::r,m,h=>by
  unfold bindC
  rw[uv λw hw=>h w (Og _ hw)]
  split
  ·rfl
  ·have:x≠n:=by rintro rfl;exact h v Ol
   simp[this]
theorem uz{kindOf:Str->Option NameKind}{x:Str}{v:Value}:∀{P:List Str} {vs:List Value} {i:Nat} {m:Str->Option Value},P.Nodup->P[i]? =some x->vs[i]? =some v->kindOf x=some .local->
  bindL kindOf (P.zip vs) m x=some v
 | [],_,_,_,_,h,_,_=>by simp at h
 |_::_,[],_,_,_,_,h,_=>by simp at h
 |p::P,w::vs,0,m,nd,h1,h2,hk=>by
  simp at h1 h2;subst h1;subst h2
  show bindL kindOf ((p,w)::P.zip vs) m p=_
  unfold bindL
  rw[uH λv hv=>(OS.mp nd).1 (List.of_mem_zip hv).1,Od hk]
  simp
 |p::P,w::vs,i+1,m,nd,h1,h2,hk=>by
  show bindL kindOf ((p,w)::P.zip vs) m x=_
  unfold bindL
  exact uz (i:=i) (OS.mp nd).2 (by simpa using h1) (by simpa using h2) hk
theorem tP{kindOf:Str->Option NameKind}{x:Str}{v:Value}:∀{P:List Str} {vs:List Value} {i:Nat} {m:Str->Option Value},P.Nodup->P[i]? =some x->vs[i]? =some v->kindOf x≠some .local->
  bindC kindOf (P.zip vs) m x=some v
 | [],_,_,_,_,h,_,_=>by simp at h
 |_::_,[],_,_,_,_,h,_=>by simp at h
 |p::P,w::vs,0,m,nd,h1,h2,hk=>by
  simp at h1 h2;subst h1;subst h2
  show bindC kindOf ((p,w)::P.zip vs) m p=_
  unfold bindC
  rw[uv λv hv=>(OS.mp nd).1 (List.of_mem_zip hv).1,Oe hk]
  simp
 |p::P,w::vs,i+1,m,nd,h1,h2,hk=>by
  show bindC kindOf ((p,w)::P.zip vs) m x=_
  unfold bindC
  exact tP (i:=i) (OS.mp nd).2 (by simpa using h1) (by simpa using h2) hk
def start(N:List Str)(vs:List V):St:=vs.map some++List.replicate (N.length-vs.length) none
def sZ(CX:By)(P:Program)(w:World)(K:Frag)(mg:Str->Option Value)(base:Heap)(N:List Str)(qual:Str)(scope:Scope)(f:Addr)(cd:Value)(A:Around)(outer:List Env)(s:Shared)(H:Hp)(E:XK):Cx where
 prog:=P
 w:=w
 K:=K
 mg:=mg
 base:=base
 A:=A.deeper (envOfC qual scope s.heap.objs.size f cd)
 N:=N
 s₀:=s
 H₀:=H
 env:=envOfC qual scope s.heap.objs.size f cd
 outer:=outer
 stack:=envOfC qual scope s.heap.objs.size f cd::outer
 ex:=[]
 calm:=true
 fn:=λ_=>true
 pn:=[]
 xe:=λe s'=>wpAny (model P w) (A.deeper (envOfC qual scope s.heap.objs.size f cd)) (leaving (envOfC qual scope s.heap.objs.size f cd) e) (λ_ s''=>CX outer H s E e s'') (λe' s''=>CX outer H s E e' s'') s'
def w8{sc:Scope}{n:Nat}{x:Str}(h:sc.names.lookup x=some .cell):∃c,(cellsFrom n sc.names []).lookup x=some c:=by
 have q:=PySem.W.cellsFrom_some sc.names n [] (.inl h)
 exact Option.isSome_iff_exists.mp q
def BW{CX:By}{P:Program}{w:World}{K:Frag}{mg:Str->Option Value}{base:Heap}{N ps:List Str}{qual:Str}{scope:Scope}{f:Addr}{cd:Value}{A:Around}{outer:List Env}{s s1:Shared}{H:Hp}{E:XK}{us:List Value}{vs:List V}
  (S:aF N ps scope) (hd:A.handled=none) (e0:G9 P w K mg base A outer s H) (hl:vs.length=ps.length) (r:Vals vs us)
  (x:InCallC s s.heap.objs.size (bindL (envOfC qual scope s.heap.objs.size f cd).kindOf (ps.zip us) λ_=>none) (cellsFrom (s.heap.objs.size+1) scope.names []) (bindC (envOfC qual scope s.heap.objs.size f cd).kindOf (ps.zip us) λ_=>none) s1) :
  Inv (sZ CX P w K mg base N qual scope f cd A outer s H E) [] (start N vs) H s1:=by
 have hpl:ps.length<=N.length:=by have:=congrArg List.length S.pre;rw[PL]at this;omega
 obtain⟨h1,tk,rfl,hk⟩:=x.done
 have noA:∀b:Addr,b∉(sZ CX P w K mg base N qual scope f cd A outer s H E).ex:=λb z=>absurd (show b∈([]:List Addr)from z) (by simp)
 refine⟨⟨e0.mod,S.kind,rfl,rfl,Oc _,λy z c h1 h2=>?_,λy hy=>?_,λy c _ h=>?_,λ_=>hd,Around.frames_deeper e0.frames,.inr ⟨rfl,rfl⟩,λb z=>absurd z (noA b),e0.bs,e0.bsz,λb _ _=>noA b,λb z=>absurd z (noA b),e0.funs,e0.frf⟩,
  rfl,e0.bare,Un.kept hk,⟨_,x.toInCall.ns,λi y v h1 h2 h3=>?_⟩,λy c h=>⟨_,x.cell y c h⟩,e0.hok.fresh (Oc _),λy c h=>?_,λp hp=>absurd (show p∈([]:List (Addr×Obj))from hp) (by simp),e0.hok.kept hk,?_⟩
 .exact name_of_addr x.apart (PB h1) (PB h2)
 .have hy:scope.names.lookup y=some .cell\/scope.names.lookup y=some .free:=hy
  rcases hy with hy|hy
  .exact w8 hy
  .exact absurd rfl (S.nofree _ (PB hy))
 .exact Qj (x.above y c (PB h))
 .have hi:i<vs.length:=by
   unfold start at h2
   by_cases hi:i<vs.length
   .exact hi
   .rw[OV (by simpa using hi)]at h2
    rw[PZ]at h2
    split at h2<;>cases h2
  have ha:vs[i]? =some v:=by
   unfold start at h2
   rw[OG (by simpa using hi),Om]at h2
   cases e:vs[i]? with
   |none=>rw[e]at h2;cases h2
   |some a=>rw[e]at h2;cases h2;rfl
  let⟨u,hu,rv⟩:=r.get ha
  have hp:ps[i]? =some y:=by
   rw[<-S.pre,List.getElem?_take_of_lt (by omega)];exact h1
  have ndP:ps.Nodup:=by rw[<-S.pre];exact S.nd.sublist (List.take_sublist _ _)
  refine⟨u,rv,?_⟩
  rcases S.par y (Oi hp)with k|k
  .exact .inl ⟨k,uz ndP hp hu k⟩
  .obtain⟨c,e⟩:=w8 k
   refine .inr ⟨.inl k,c,e,?_⟩
   have q:=x.cell y c e
   rw[tP ndP hp hu (by show scope.names.lookup y≠_;rw[k];decide)]at q
   exact q
 .exact e0.hok.fresh (Qj (x.above y c (PB h)))
 .unfold start
  show _=N.length
  rw[OO,Ob,QE]
  omega
theorem HI{CX:By}{P:Program}{w:World}{K:Frag}{mg:Str->Option Value}{base:Heap}{k:Nat}{f:Addr}{name qual:Str}{params:Arguments}{body:List Stmt}{scope:Scope}{dV kV doc pm cdv ct oc:Value}{an od:Option Addr}
  {osl:Array (Option Value)} {N ps:List Str} {sp:Sp} (lk:K.lookup f=some ⟨oc,od,.func (PySem.W.fnOf name qual params body scope dV kV doc pm an cdv ct),osl⟩) (hcd:PySem.W.codeIn K cdv qual=true) (S:aF N ps scope)
  (len:∀vs H Q E,sp vs H Q E->vs.length=ps.length)
  (hbody:∀(A:Around) (outer:List Env) (s:Shared) (H:Hp) (vs:List V) (Q:VK) (E:XK),fY k (A.deeper (envOfC qual scope s.heap.objs.size f cdv))->sp vs H Q E->
   ∃t,sL (sZ CX P w K mg base N qual scope f cdv A outer s H E) body t/\t {nx:=λ_ H'=>Q .non H',rt:=Q} (start N vs) H) :
  gW P w K mg base CX (k+1) f (PySem.W.fnOf name qual params body scope dV kV doc pm an cdv ct) ps sp:=by
 refine⟨len,λA outer s H args us vs Q E hr e0 hb r hsp=>?_⟩
 have hl:=len _ _ _ _ hsp
 have KX:K.In s.heap:=e0.mod.kin.keeps λb o e=>(e0.bs b o e).1
 have lim:s.heap.NoLimit:=e0.mod.nolimit.keeps λb o e=>(e0.bs b o e).1
 have hkind:∀y∈ps.zip us,scope.names.lookup y.1=some .local\/(scope.names.lookup y.1=some .cell/\((cellsFrom (s.heap.objs.size+1) scope.names []).lookup y.1).isSome=true):=λ⟨n,v⟩ hy=>by
  rcases S.par n (List.of_mem_zip hy).1 with q|q
  .exact .inl q
  .exact .inr ⟨q,PySem.W.cellsFrom_some _ _ _ (.inl q)⟩
 refine codeAny_call_function hr.depth (KX _ _ lk) rfl S.co S.gen rfl (PySem.W.codeRec_of KX hcd) (hb _ _ _ _ (wpAny_newFunctionEnv_cells S.kind hkind λenv he s1 x=>?_))
 subst he
 refine⟨lim.keeps x.toInCall.keep,codeAny_func ?_⟩
 let⟨t,ht,hq⟩:=hbody A outer s H vs Q E (hr.deeper _) hsp
 have I:Inv (sZ CX P w K mg base N qual scope f cdv A outer s H E) [] (start N vs) H s1:=BW S hr.hd e0 hl r x
 refine PK (ht [] s1 (start N vs) H _ I hq) (λfl s' hs=>?_) λe s' hs=>hs
 have fin:∀{σ':St} {H':Hp} {v:V} {u:Value},Inv (sZ CX P w K mg base N qual scope f cdv A outer s H E) [] σ' H' s'->RelV v u->Q v H'->CE outer P w H s Q u s':=
  λ{σ' H' v u} J rv q=>⟨v,H',J.os,J.bare,J.base,J.hok,rv,q⟩
 cases fl with
 |ret u=>
  let⟨v,σ',H',J,rv,q⟩:=hs
  exact fin J rv q
 |next=>
  let⟨σ',H',J,q⟩:=hs
  exact fin (v:=V.non) J rfl q
 |brk=>
  let⟨_,_,_,q⟩:=hs
  exact False.elim q
 |cont=>
  let⟨_,_,_,q⟩:=hs
  exact False.elim q
section
variable {X:Cx}{x:Str}{p pos:Pos}{e:Expr}{es:List Expr}{t:TA}{id T:String}{r:List V->Hp->VK->Prop}
def Nq(r:List V->Hp->VK->Prop)(t:TA):TE:=λσ H Q=>t σ H λvs H1=>r vs H1 Q
def lg(hc:dq X (.builtin id) r)(hg:Gl X x)(hm:X.mg x=none)(hv:bootBuiltins x=some (.builtin id))(ha:PA X (e::es) t)(hn:x≠"__name__":=by decide)(hdb:(x==("__debug__":Str))=false:=by decide)
  (he:starEach (e::es) X.env=(false,eval e X.env)::starEach es X.env:=by rfl) (hpl:(backTo pos (starEach es X.env)).any (·.1)=false:=by rfl):PE X (.Call (.Name x p) (e::es) [] pos) (Nq r t):=by
 intro pins s σ H Q I h
 exact QZ (mV I hg hm hv (PyProof.Rows.callWith_builtin1 (cI (ha pos pins s σ H _ I h) λus s1 ⟨vs,H1,I1,r1,q1⟩=>hc pins s1 σ H1 vs us Q I1 r1 q1) he hpl) hn hdb)
def iE(hc:dq X (.type T) r)(hg:Gl X x)(hm:X.mg x=none)(hv:bootBuiltins x=some (.type T))(ha:PA X (e::es) t)(hn:x≠"__name__":=by decide)(hdb:(x==("__debug__":Str))=false:=by decide)
  (he:starEach (e::es) X.env=(false,eval e X.env)::starEach es X.env:=by rfl) (hpl:(backTo pos (starEach es X.env)).any (·.1)=false:=by rfl):PE X (.Call (.Name x p) (e::es) [] pos) (Nq r t):=by
 intro pins s σ H Q I h
 exact QZ (mV I hg hm hv (P7 (cI (ha pos pins s σ H _ I h) λus s1 ⟨vs,H1,I1,r1,q1⟩=>hc pins s1 σ H1 vs us Q I1 r1 q1) he hpl) hn hdb)
end
end L2
namespace HT
open PySem PyProof.Rows
section
open PySem.SeqAt
open PySem.AutoSeq1 (wpAny_loadPart')
open PySem.MeetsSeq PySem.MeetsSeq2 PySem.MeetsSeq3
end
section
variable {prog:Program}{w:World}{A:Around}{E:Value->Shared->Prop}{s:Shared}
def zw(n d:Nat):Option Int->Nat
 |none=>d
 |some v=>if v<0 then(v+(n:Int)).toNat else min v.toNat n
theorem yO{v:Value}{o:Option Int}{Q:Option Int->Shared->Prop}(p:IsPart v o)(h:Q o s):wpAny (model prog w) A (Builtin.Slice.slicePartIndex v) Q E s:=by
 cases p with
 |none=>exact slicePart_none h
 |int i t=>exact slicePart_int h
end
end HT
namespace L2
open PySem PySem.Spec PyProof.Rows
abbrev TO:=St->Hp->(Option Int->Hp->Prop)->Prop
def PO(X:Cx)(e:Option Expr)(t:TO):Prop:=
 ∀(pins:List (Addr×Obj)) (s:Shared) (σ:St) (H:Hp) (Q:Option Int->Hp->Prop),Inv X pins σ H s->t σ H Q->
  wpAny (model X.prog X.w) X.A (evalPart e X.env) (λu s'=>∃o H',Inv X pins σ H' s'/\IsPart u o/\Q o H') X.xe s
def LJ(t:TE):TO:=λσ H Q=>t σ H λx H1=>∃i,x=.int i/\Q (some i) H1
theorem intsAre_of{ns:List Int}:∀{us:List Value},Vals (ns.map V.int) us->IntsAre us ns:=by
 induction ns with
 |nil=>intro us r;rw[List.map_nil]at r;cases r;exact .nil
 |cons n ns ih=>
  intro us r
  rw[OJ]at r
  cases r with
  |cons r1 r2=>
   let⟨t,e⟩:=r1
   subst e
   exact .cons n t (ih r2)
section
variable {X:Cx}{e:Expr}{te:TE}{lo hi:Option Expr}{tl th:TO}{pos p2:Pos}
def Gn(h:PE X e te):PO X (some e) (LJ te):=by
 intro pins s σ H Q I hw
 rw[evalPart_some]
 refine cI (h pins s σ H _ I hw) λu s1 ⟨x,H1,I1,r1,q1⟩=>?_
 obtain⟨i,rfl,q⟩:=q1
 obtain⟨t,rfl⟩:=r1
 exact⟨some i,H1,I1,.int i t,q⟩
def N0(X:Cx)(r:V->Option Int->Option Int->Hp->VK->Prop):Prop:=
 ∀(pins:List (Addr×Obj)) (s:Shared) (σ:St) (H:Hp) (x:V) (v vl vu:Value) (lo hi:Option Int) (sl:Addr) (Q:VK),Inv X pins σ H s->RelV x v->s.heap.IsSliceOf sl vl vu .none->IsPart vl lo->IsPart vu hi->r x lo hi H Q->
  ∃T id,typeLookup (.type T) "__getitem__"=pure (some (.builtin id))/\s.TypeIs v T/\wpAny (model X.prog X.w) X.A (getItem v (.ref sl)) (EP X pins σ Q) X.xe s
def IK(xs:List V)(lo hi:Option Int):List V:=(xs.drop (HT.zw xs.length 0 lo)).take (HT.zw xs.length xs.length hi-HT.zw xs.length 0 lo)
def xQ(xs:List V)(lo hi:Option Int):(IK xs lo hi).length<=xs.length:=by
 unfold IK
 rw[PL,List.length_drop]
 omega
end
def AW(n:Nat)(i:Int):Option Nat:=if 0<=i then(if i<n then some i.toNat else none)else if -(n:Int)<=i then some (i+n).toNat else none
def jw{α:Type}(xs:List α)(i:Int):Option α:=(AW xs.length i).bind λj=>xs[j]?
def AG{n:Nat}{i:Int}{j:Nat}(h:AW n i=some j):seqIndex? i n=some j/\j<n/\ -(n:Int)<=i/\i<n:=by
 unfold AW at h
 by_cases h0:0<=i
 .rw[Od h0]at h
  by_cases h1:i<n
  .rw[Od h1]at h
   have e:i.toNat=j:=Option.some.inj h
   exact⟨by rw[seqIndex_of h0 h1,e],by omega,by omega,h1⟩
  .rw[Oe h1]at h;cases h
 .rw[Oe h0]at h
  by_cases h1: -(n:Int)<=i
  .rw[Od h1]at h
   have e:(i+n).toNat=j:=Option.some.inj h
   exact⟨by rw[seqIndex_neg (by omega) h1,e],by omega,h1,by omega⟩
  .rw[Oe h1]at h;cases h
theorem vB{α:Type}{xs:List α}{i:Int}{v:α}(h:jw xs i=some v):∃j,seqIndex? i xs.length=some j/\xs[j]? =some v/\j<xs.length/\ -(xs.length:Int)<=i/\i<xs.length:=by
 unfold jw at h
 cases e:AW xs.length i with
 |none=>rw[e]at h;cases h
 |some j=>
  rw[e]at h
  let⟨h1,h2,h3,h4⟩:=AG e
  exact⟨j,h1,h,h2,h3,h4⟩
def je{α:Type}{xs:List α}{j:Nat}{v:α}(h:xs[j]? =some v):jw xs (j:Int)=some v:=by
 have hj:j<xs.length:=(Ov.mp h).1
 have e:AW xs.length (j:Int)=some j:=by
  unfold AW
  rw[Od (by omega),Od (by omega)];simp
 unfold jw;rw[e];exact h
def qq(b:Expr):Prop:=∀o i,subscripted b false o i=operate [o,i] (getItem o i)
def Er(X:Cx)(r:R2):Prop:=
 ∀(value slice:Expr) (pins:List (Addr×Obj)) (s:Shared) (σ:St) (H:Hp) (x y:V) (v u:Value) (Q:VK),Inv X pins σ H s->RelV x v->RelV y u->r x y H Q->
  subscripted slice false v u=operate [v,u] (getItem v u)->wpAny (model X.prog X.w) X.A (subscriptTail value slice v u) (EP X pins σ Q) X.xe s
def NO(X:Cx)(id:String)(r:V->List V->Hp->VK->Prop):Prop:=
 ∀(pins:List (Addr×Obj)) (s:Shared) (σ:St) (H:Hp) (x:V) (xs:List V) (v:Value) (us:List Value) (Q:VK),Inv X pins σ H s->RelV x v->Vals xs us->r x xs H Q->
  wpAny (model X.prog X.w) X.A (call (.builtin id) (v::us)) (EP X pins σ Q) X.xe s
section
variable {X:Cx}{a b:Expr}{ta tb:TE}{pos:Pos}
def Er.or{r r':R2}(h:Er X r)(h':Er X r'):Er X (λx y H Q=>r x y H Q\/r' x y H Q):=by
 intro value slice pins s σ H x y v u Q I rx ry q hs
 rcases q with q|q
 .exact h value slice pins s σ H x y v u Q I rx ry q hs
 .exact h' value slice pins s σ H x y v u Q I rx ry q hs
def kO{r:R2}(hr:Er X r)(ha:PE X a ta)(hb:PE X b tb)(hs:qq b):PE X (.Subscript a b pos) (Ml r ta tb):=by
 intro pins s σ H Q I h
 exact Subscript_ (Iu ha hb I h λv u s2 x y H2 I2 rx ry q=>hr a b pins s2 σ H2 x y v u Q I2 rx ry q (hs _ _))
def JC(K:Frag):R2:=λx y H Q=>∃p xs i v,x=.ref p/\y=.int i/\gY K H p xs/\jw xs i=some v/\Q v H
def Lp(K:Frag):R2:=λx y H Q=>∃p xs i v,x=.ref p/\y=.int i/\fF K H p xs/\jw xs i=some v/\Q v H
def KJ:R2:=λx y H Q=>∃z i c,x=.str z/\y=.int i/\z.length<=sizeLine/\jw z.cps.toList i=some c/\Q (.str ⟨#[c]⟩) H
def ig:Er X (JC X.K):=by
 intro value slice pins s σ H x y v u Q I rx ry h hs
 obtain⟨p,xs,i,z,rfl,rfl,hq,he,q⟩:=h
 cases rx
 obtain⟨t,rfl⟩:=ry
 let⟨its,r,pl,hz⟩:=I.list hq
 let⟨j,h1,h2,h3,h4,h5⟩:=vB he
 let⟨w,ew,rw'⟩:=r.get h2
 have hl:=r.length
 have hn:=ph
 have fin:EP X pins σ Q w s:=⟨z,H,I,rw',q⟩
 by_cases h0:0<=i
 .have hj:i.toNat=j:=by
   rw[seqIndex_of h0 h5]at h1
   exact Option.some.inj h1
  exact item_listR pl.isList h0 (by omega) (by rw[hj];simpa using ew) fin hs
 .have hj:(i+(its.toArray.size:Int)).toNat=j:=by
   rw[seqIndex_neg (by omega) h4]at h1
   rw[OK,<-hl]
   exact Option.some.inj h1
  exact subscriptTail_builtinR pl.isList.typeIs slot_list_getitem.lookup
   (wpAny_getItem_list_neg pl.isList (by omega) (by rw[OK]<;>omega) (by omega) (by rw[hj];simpa using ew) ⟨rfl,fin⟩) hs
def zk:Er X (Lp X.K):=by
 intro value slice pins s σ H x y v u Q I rx ry h hs
 obtain⟨p,xs,i,z,rfl,rfl,hq,he,q⟩:=h
 cases rx
 obtain⟨t,rfl⟩:=ry
 let⟨its,r,pl,hz⟩:=I.tuple hq
 let⟨j,h1,h2,h3,h4,h5⟩:=vB he
 let⟨w,ew,rw'⟩:=r.get h2
 have hl:=r.length
 have hn:=ph
 have fin:EP X pins σ Q w s:=⟨z,H,I,rw',q⟩
 exact subscriptTail_builtinR pl.typeIs slot_tuple_getitem.lookup
  (getItem_tuple pl (by omega) (by omega) (by rw[OK,<-hl];exact h1) (by simpa using ew) ⟨rfl,fin⟩) hs
def JM:Er X KJ:=by
 intro value slice pins s σ H x y v u Q I rx ry h hs
 obtain⟨z,i,c,rfl,rfl,hz,he,q⟩:=h
 obtain⟨t,rfl⟩:=rx
 obtain⟨t',rfl⟩:=ry
 let⟨j,h1,h2,h3,h4,h5⟩:=vB he
 have hl:z.cps.toList.length=z.length:=by simp[Str.length]
 rw[hl]at h1 h4 h5
 have hn:=ph
 exact tail_any (typeIs_str s z t) slot_str_getitem.lookup (getItem_str (by
  have e1:decide (i < -(2^63:Int))=false:=Oz (by omega)
  have e2:decide (i>=2^63)=false:=Oz (by omega)
  rw[e1,e2,Bool.or_false]) (by rw[h1];simpa using h2) ⟨.str ⟨#[c]⟩,H,I.tok _,⟨_,rfl⟩,q⟩) hs
def NC(K:Frag):R2:=λx y H Q=>JC K x y H Q\/Lp K x y H Q\/KJ x y H Q
def aM:Er X (NC X.K):=ig.or (zk.or JM)
def yP(its:List Value)(n j:Nat)(u:Value):Obj.mapSeq (·.setIfInBounds j u) {cls:=.type "list",data:=.seq its.toArray n}={cls:=.type "list",data:=.seq (its.set j u).toArray n}:=by
 simp[Obj.mapSeq]
def Inv.lst{pins:List (Addr×Obj)}{σ:St}{H:Hp}{s:Shared}{p:Addr}{xs:List V}(I:Inv X pins σ H s)(h:H p=some (.lst xs)) :
  ∃(its:List Value) (n:Nat),Vals xs its/\s.heap.get? p=some {cls:=.type "list",data:=.seq its.toArray n}/\xs.length<=sizeLine:=by
 let⟨z,its,n,r,e⟩:=I.hok p _ h
 exact⟨its,n,r,e,z⟩
def Inv.lstUpd{pins:List (Addr×Obj)}{σ:St}{H:Hp}{s:Shared}{p:Addr}{xs ys:List V}{its its':List Value}{n n':Nat}{f:Obj->Obj}(I:Inv X pins σ H s)(h:H p=some (.lst xs))
  (ho:s.heap.get? p=some {cls:=.type "list",data:=.seq its.toArray n}) (hf:f {cls:=.type "list",data:=.seq its.toArray n}={cls:=.type "list",data:=.seq its'.toArray n'}) (r:Vals ys its') (hz:ys.length<=sizeLine) (t:Nat) :
  Inv X pins σ (upd H p (.lst ys)) {s with heap:=s.heap.update p f,toks:=t}:=by
 have e:(s.heap.update p f).get? p=some {cls:=.type "list",data:=.seq its'.toArray n'}:=by
  rw[OQ f ho (by rw[hf]<;>rfl),hf]
 refine I.write (by rw[h];trivial) (.inl rfl) (λb u hb q=>(Pd _ _ (Ne.symm hb)).trans q) ⟨_,e⟩ ?_
 exact⟨hz,its',n',r,e⟩
def Kq:V->V->V->Hp->(Hp->Prop)->Prop:=λo i v H Q=>∃p xs k j,o=.ref p/\i=.int k/\H p=some (.lst xs)/\AW xs.length k=some j/\Q (upd H p (.lst (xs.set j v)))
def set_list:uR X Kq:=by
 intro pins s σ H o i v ov iv u Q I ro ri rv h
 obtain⟨p,xs,k,j,rfl,rfl,hp,hj,q⟩:=h
 cases ro
 obtain⟨t,rfl⟩:=ri
 let⟨its,n,r,ho,hz⟩:=I.lst hp
 let⟨h1,h2,h3,h4⟩:=AG hj
 have hl:=r.length
 have hn:=ph
 have I':Inv X pins σ (upd H p (.lst (xs.set j v))) {s with heap:=s.heap.update p (Obj.mapSeq (·.setIfInBounds j u))}:=
  I.lstUpd hp ho (yP its n j u) (r.set rv j) (by rw[Pp];exact hz) s.toks
 by_cases h0:0<=k
 .have hk:k.toNat=j:=by
   rw[seqIndex_of h0 h4]at h1
   exact Option.some.inj h1
  exact PySem.W.ki_setAt ho h0 (by omega) (by rw[OK,<-hl];exact h4) (by rw[hk];exact⟨_,I',q⟩)
 .have hk:(k+(its.toArray.size:Int)).toNat=j:=by
   rw[seqIndex_neg (by omega) h3]at h1
   rw[OK,<-hl]
   exact Option.some.inj h1
  exact PySem.W.ki_setBack ho (by omega) (by rw[OK,<-hl];exact h3) (by omega) (by rw[hk];exact⟨_,I',q⟩)
def uV(lo hi:Option Int)(n:Nat):(sliceBounds lo hi none n).1=((HT.zw n 0 lo:Nat):Int)/\(sliceBounds lo hi none n).2.1=((HT.zw n n hi:Nat):Int)/\(sliceBounds lo hi none n).2.2=1:=by
 refine⟨?_,?_,rfl⟩
 .cases lo with
  |none=>simp[sliceBounds,HT.zw]
  |some i=>
   simp only[sliceBounds,HT.zw,Option.getD_none,show(1:Int)>0 by decide,O9]
   by_cases h:i<0
   .simp only[h,O9]<;>omega
   .simp only[h,OY]<;>omega
 .cases hi with
  |none=>simp[sliceBounds,HT.zw]
  |some i=>
   simp only[sliceBounds,HT.zw,Option.getD_none,show(1:Int)>0 by decide,O9]
   by_cases h:i<0
   .simp only[h,O9]<;>omega
   .simp only[h,OY]<;>omega
def sR(its:List Value)(lo hi:Option Int):slicePick its.toArray lo hi none=((its.drop (HT.zw its.length 0 lo)).take (HT.zw its.length its.length hi-HT.zw its.length 0 lo)).toArray:=by
 let⟨h1,h2,h3⟩:=uV lo hi its.toArray.size
 unfold slicePick
 rw[h1,h2,h3]
 simp only[sliceRange_one,pick_run,OK]<;>rfl
def MD(K:Frag):V->Option Int->Option Int->Hp->VK->Prop:=λx lo hi H Q=>∃a xs,x=.ref a/\gY K H a xs/\∀p,H p=none->Q (.ref p) (upd H p (.lst (IK xs lo hi)))
def Mj:N0 X (MD X.K):=by
 intro pins s σ H x v vl vu lo hi sl Q I rx hs pl pu h
 obtain⟨a,xs,rfl,hx,q⟩:=h
 cases rx
 let⟨its,r,ht,hz⟩:=I.list hx
 have hlen:=r.length
 refine⟨"list",_,slot_list_getitem.lookup,ht.isList.typeIs,?_⟩
 refine wpAny_getItem_list_slice ht.isList hs pl pu .none (by simp) ?_ (by rw[OK]<;>omega)
 rw[sR,<-hlen]
 refine⟨.ref s.heap.objs.size,_,I.laid (λb ob q=>Oa _ q) (Oc _) ?_,rfl,q _ (I.hok.fresh (Oc _))⟩
 exact⟨Pf (xQ xs lo hi) hz,_,0,(r.drop (HT.zw xs.length 0 lo)).take (HT.zw xs.length xs.length hi-HT.zw xs.length 0 lo),Ou _ rfl⟩
def nW:dq X (.type "list") (λxs H Q=>∃p ys,xs= [.ref p]/\(gY X.K H p ys\/fF X.K H p ys)/\∀l,H l=none->Q (.ref l) (upd H l (.lst ys))):=by
 intro pins s σ H xs us Q I r h
 obtain⟨p,ys,rfl,hq,q⟩:=h
 obtain⟨u,rfl,rx⟩:=vals1 r
 cases rx
 have fin:∀(its:List Value),Vals ys its->ys.length<=sizeLine->∀(h':Heap) (c':Nat),(∀b o',s.heap.get? b=some o'->h'.get? b=some o')->
   h'.get? s.heap.objs.size=some {cls:=.type "list",dict:=none,data:=.seq its.toArray c',slots:=#[]}->EP X pins σ Q (.ref s.heap.objs.size) {s with heap:=h'}:=λits r' hz h' c' kp e=>
  ⟨.ref s.heap.objs.size,_,I.laid kp (Oc _) (show bJ X.prog X.w _ h' _ (.lst ys)from⟨hz,its,c',r',e⟩),rfl,q _ (I.hok.fresh (Oc _))⟩
 rcases hq with hq|hq
 .let⟨its,r',pl,hz⟩:=I.list hq
  have hlen:=r'.length
  let⟨o,ho,hc,n,hd⟩:=pl.isList
  exact call_list_seq p (.inl rfl) ho hc hd (λh' c' kp e=>fin its r' hz h' c' kp e) (by simp only[OK]<;>omega)
 .let⟨its,r',pl,hz⟩:=I.tuple hq
  have hlen:=r'.length
  let⟨o,ho,hc,n,hd⟩:=pl
  exact call_list_seq p (.inr rfl) ho hc hd (λh' c' kp e=>fin its r' hz h' c' kp e) (by simp only[OK]<;>omega)
def c7:dq X (.type "tuple") (λxs H Q=>∃p ys,xs= [.ref p]/\((gY X.K H p ys/\∀l,H l=none->Q (.ref l) (upd H l (.tup ys)))\/(fF X.K H p ys/\Q (.ref p) H))):=by
 intro pins s σ H xs us Q I r h
 obtain⟨p,ys,rfl,h⟩:=h
 obtain⟨u,rfl,rx⟩:=vals1 r
 cases rx
 rcases h with⟨hq,q⟩|⟨hq,q⟩
 .let⟨its,r',pl,hz⟩:=I.list hq
  have hlen:=r'.length
  refine call_tuple_list pl.isList (λh' kp=>?_) (by simp only[OK]<;>omega)
  have I1:Inv X pins σ H {s with heap:=h'}:=I.kept kp
  have I2:Inv X pins σ (upd H h'.objs.size (.tup ys)) {s with heap:=h'.push {cls:=.type "tuple",data:=.seq its.toArray}}:=
   I1.laid (λb o e=>Oa _ e) (Oc _) (show bJ X.prog X.w _ _ _ (.tup ys)from⟨hz,its,r',wM.new _ _⟩)
  exact⟨.ref h'.objs.size,_,I2,rfl,q _ (I1.hok.fresh (Oc _))⟩
 .let⟨its,r',pl,hz⟩:=I.tuple hq
  exact call_tuple_same pl ⟨.ref p,H,I,rfl,q⟩
def NR(K:Frag)(T:String)(x:V)(H:Hp):Prop:=match x with
 | .str _=>T="str"
 | .int _=>T="int"
 | .ref p=>(T="list"/\∃xs,gY K H p xs)\/(T="tuple"/\∃o,K.lookup p=some o/\o.cls=.type "tuple"/\o.dict=none)\/
   (T="dict"/\((∃kvs,H p=some (.dK kvs))\/∃kvs ep,H p=some (.dT kvs ep)))\/(T="set"/\∃S n,H p=some (.set S n))
 |_=>False
theorem Js{pins:List (Addr×Obj)}{σ:St}{H:Hp}{s:Shared}{T:String}{x:V}{v:Value}(I:Inv X pins σ H s)(r:RelV x v)(ty:NR X.K T x H) :
  s.TypeIs v T/\∀a,v=.ref a->∃ob,s.heap.get? a=some ob/\ob.dict=none:=by
 cases x with
 |str z=>
  obtain⟨t,rfl⟩:=r
  cases(show T="str"from ty)
  exact⟨typeIs_str s z t,λ_ e=>nomatch e⟩
 |int i=>
  obtain⟨t,rfl⟩:=r
  cases(show T="int"from ty)
  exact⟨typeIs_int s i t,λ_ e=>nomatch e⟩
 |ref p=>
  cases r
  rcases ty with⟨rfl,xs,hq⟩|⟨rfl,o,hk,hc,hd⟩|⟨rfl,hk⟩|⟨rfl,S,n,hk⟩
  .let⟨its,_,pl,_⟩:=I.list hq
   refine⟨pl.isList.typeIs,λa e=>?_⟩
   cases e
   let⟨o,n,e,c,hd,_⟩:=pl
   exact⟨o,e,hd⟩
  .refine⟨⟨o,I.kIn p o hk,hc⟩,λa e=>?_⟩
   cases e
   exact⟨o,I.kIn _ o hk,hd⟩
  .have z:∃o,s.heap.get? p=some o/\o.ExactDict:=by
    rcases hk with⟨kvs,hk⟩|⟨kvs,_,hk⟩
    .let⟨_,_,_,_,o,_,_,e,ex,_⟩:=I.hok p _ hk
     exact⟨o,e,ex⟩
    .let⟨_,_,_,_,o,_,e,ex,_⟩:=I.hok p _ hk
     exact⟨o,e,ex⟩
   let⟨o,e,ex⟩:=z
   refine⟨⟨o,e,ex.1⟩,λa e2=>?_⟩
   cases e2
   exact⟨o,e,ex.2.1⟩
  .let⟨o,_,_,_,e,ex,_⟩:=I.hok p _ hk
   refine⟨⟨o,e,ex.1⟩,λa e2=>?_⟩
   cases e2
   exact⟨o,e,ex.2.1⟩
 |_=>exact False.elim ty
def NZ(K:Frag)(T:String)(r:V->List V->Hp->VK->Prop)(to:TE)(t:TA):TE:=λσ H Q=>to σ H λx H1=>NR K T x H1/\t σ H1 λxs H2=>r x xs H2 Q
variable {o e:Expr}{es:List Expr}{to:TE}{t:TA}{name:Str}{apos cpos:Pos}{T id:String}{r:V->List V->Hp->VK->Prop}
def xj(pa:PlainAttrs T)(slot:Slot T name id)(hty:typeOf (.builtin id)=pure (.type "method_descriptor"))(hm:NO X id r)(ho:PE X o to)(ha:PA X (e::es) t)
  (hbase:attributeBase o name X.env (eval o X.env)=eval o X.env:=by rfl)
  (hfew:((backTo cpos (starEach (e::es) X.env)).all (λx=> !x.1)&&(backToKw cpos (keywordEach [] X.env)).all (λx=>x.1.isSome)
   && decide ((e::es).length+([]:List Keyword).length+(if([]:List Keyword).isEmpty then 0 else 1)<30))=true:=by rfl)
  (hline:(apos.endLine==cpos.line)=true:=by rfl) (hs:starEach (e::es) X.env=(false,eval e X.env)::starEach es X.env:=by rfl) (hplain:(backTo cpos (starEach es X.env)).any (·.1)=false:=by rfl) :
  PE X (.Call (.Attribute o name apos) (e::es) [] cpos) (NZ X.K T r to t):=by
 intro pins s σ H Q I h
 refine wpAny_Call_method_late hbase hfew hline rfl (cI (ho pins s σ H _ I h) λv s1 ⟨x,H1,I1,r1,ty,q1⟩=>?_)
 let⟨h1,h2⟩:=Js I1 r1 ty
 refine⟨T,id,pa,slot,hty,h1,h2,?_⟩
 have hA:=ha cpos pins s1 σ H1 _ I1 q1
 rw[hs]at hA ⊢
 refine Calls.callWith_builtin (by show(false||(backTo cpos (starEach es X.env)).any (·.1))=false;rw[hplain]<;>rfl) (Calls.evalArgs_plain ?_)
 exact cI hA λus s2 ⟨vs,H2,I2,r2,q2⟩=>hm pins s2 σ H2 x vs v us Q I2 r1 r2 q2
end
def L9(X:Cx)(id:String)(r:V->List V->Hp->VK->Prop):Prop:=
 ∀(pins:List (Addr×Obj)) (s:Shared) (σ:St) (H:Hp) (x:V) (xs:List V) (v:Value) (us:List Value) (Q:VK),Inv X pins σ H s->RelV x v->Vals xs us->r x xs H Q->
  wpAny (model X.prog X.w) X.A (call (.builtin id) (v::us)) (EP X pins σ Q) X.xe s
theorem Vals.one:∀{x:V} {us:List Value},Vals [x] us->∃u,us= [u]/\RelV x u
 |_,_,.cons r .nil=>⟨_,rfl,r⟩
theorem Vals.eraseIdx:∀{xs:List V} {us:List Value} (i:Nat),Vals xs us->Vals (xs.eraseIdx i) (us.eraseIdx i)
 |_,_,_,.nil=>.nil
 |_,_,0,.cons _ t=>t
 |_,_,i+1,.cons r t=>.cons r (Vals.eraseIdx i t)
theorem Vals.reverse{xs:List V}{us:List Value}(h:Vals xs us):Vals xs.reverse us.reverse:=by
 induction h with
 |nil=>exact .nil
 |cons r t ih=>rw[P4,P4];exact Vals.append ih (.cons r .nil)
theorem Vals.rep{xs:List V}{us:List Value}(h:Vals xs us):∀k:Nat,Vals (List.replicate k xs).flatten (List.replicate k us).flatten
 | 0=>.nil
 |k+1=>by
  rw[QT,QT,Ry,Ry]
  exact Vals.append h (Vals.rep h k)
theorem ud{α:Type}:∀(l:List α) (i:Nat),(l.eraseIdx i).length<=l.length
 | [],_=>Oc _
 |_::_,0=>Nat.le_succ _
 |_::r,i+1=>Nat.succ_le_succ (ud r i)
theorem foldl_rep(its:List Value):∀(k:Nat) (acc:List Value),
  List.foldl (λx1 x2=>x1++x2) acc.toArray (List.replicate k its.toArray)=(acc++(List.replicate k its).flatten).toArray
 | 0,acc=>by simp
 |k+1,acc=>by
  have e:acc.toArray++its.toArray=(acc++its).toArray:=by simp
  have e2:(acc++its)++(List.replicate k its).flatten=acc++(List.replicate (k+1) its).flatten:=by
   rw[QT,Ry,P5]
  rw[<-e2,<-foldl_rep its k (acc++its),<-e,QT,Qk]
section
variable {X:Cx}{pins:List (Addr×Obj)}{σ:St}{H:Hp}{s:Shared}{l b:Addr}{xs ys zs:List V}
def Inv.lset{its its':List Value}{n:Nat}{f:Array Value->Array Value}{t':Nat}(I:Inv X pins σ H s)(hH:H l=some (.lst xs))
  (e:s.heap.get? l=some {cls:=.type "list",data:=.seq its.toArray n}) (hf:f its.toArray=its'.toArray) (hv:Vals ys its') (hz:ys.length<=sizeLine) :
  Inv X pins σ (upd H l (.lst ys)) {s with heap:=s.heap.update l (Obj.mapSeq f),toks:=t'}:=by
 have q:=PySem.IsL.update e f
 rw[hf]at q
 refine I.write (by rw[hH];exact trivial) (.inl rfl) (λb' u hb hu=>(Pd s.heap (Obj.mapSeq f) (Ne.symm hb)).trans hu) ⟨_,q⟩ ?_
 exact⟨hz,its',_,hv,q⟩
def Inv.lnew{its:List Value}{t':Nat}(I:Inv X pins σ H s)(hv:Vals ys its)(hz:ys.length<=sizeLine) :
  Inv X pins σ (upd H s.heap.objs.size (.lst ys)) {s with heap:=s.heap.push {cls:=.type "list",data:=.seq its.toArray},toks:=t'}:=
 I.laid (λ_ _ q=>Oa _ q) (Oc _) ⟨hz,its,0,hv,Ou _ rfl⟩
def Inv.fresh(I:Inv X pins σ H s):H s.heap.objs.size=none:=I.hok.fresh (Oc _)
def Inv.lstM(I:Inv X pins σ H s)(hH:H l=some (.lst xs)):xs.length<=sizeLine/\∃(its:List Value) (n:Nat),Vals xs its/\xs.length=its.length/\s.heap.get? l=some {cls:=.type "list",data:=.seq its.toArray n}:=by
 let⟨z,its,n,r,e⟩:=I.hok l _ hH
 exact⟨z,its,n,r,r.length,e⟩
def DO{n:Nat}(h:n<=sizeLine):Builtin.List.listTooLong n=false:=by
 unfold Builtin.List.listTooLong
 exact Oz (by omega)
end
section
variable {X:Cx}
def Fy:V->List V->Hp->VK->Prop:=λx vs H Q=>∃l xs y,x=.ref l/\vs= [y]/\H l=some (.lst xs)/\xs.length<sizeLine/\Q .non (upd H l (.lst (xs++[y])))
def mi:L9 X "list.append" Fy:=by
 intro pins s σ H x vs v us Q I rx rv h
 obtain⟨l,xs,y,rfl,rfl,hH,hz,q⟩:=h
 cases rx
 obtain⟨u,rfl,ru⟩:=rv.one
 let⟨z,its,n,r,hl,e⟩:=I.lstM hH
 refine call_meets F.slot_list_append ⟨_,e,rfl⟩ F.entry_list_append (F.args_list_append_2 _ _) (PySem.list_append l its.toArray n u (by rw[OK];omega)) ⟨e,?_⟩
 refine⟨.non,_,I.lset hH e (by simp) (r.append (.cons ru .nil)) ?_,rfl,q⟩
 rw[OO,List.length_singleton]
 omega
def JP:V->List V->Hp->VK->Prop:=λx vs H Q=>∃l xs i k y,x=.ref l/\vs= [.int i]/\H l=some (.lst xs)/\ -(2^63)<=i/\i<2^63/\seqIndex? i xs.length=some k/\xs[k]? =some y/\Q y (upd H l (.lst (xs.eraseIdx k)))
def Ec:L9 X "list.pop" JP:=by
 intro pins s σ H x vs v us Q I rx rv h
 obtain⟨l,xs,i,k,y,rfl,rfl,hH,h1,h2,hk,hy,q⟩:=h
 cases rx
 obtain⟨u,rfl,ru⟩:=rv.one
 obtain⟨t,rfl⟩:=ru
 let⟨z,its,n,r,hl,e⟩:=I.lstM hH
 let⟨w,hw,rw'⟩:=r.get hy
 refine call_meets F.slot_list_pop ⟨_,e,rfl⟩ F.entry_list_pop (F.args_list_pop_2 _ _)
  (MeetsSeq.list_pop_at l its.toArray n i t k w (fitsIndex_both h1 h2) (by rw[OK,<-hl];exact hk) (by rw[<-Qf];exact hw) (by rw[OK];omega)) ⟨e,?_⟩
 refine⟨y,_,I.lset hH e ?_ (r.eraseIdx k) ?_,rw',q⟩
 .show its.toArray.eraseIdxIfInBounds k=(its.eraseIdx k).toArray
  rw[List.eraseIdxIfInBounds_toArray]
 .have:=ud xs k
  omega
def Nc:R2:=λx y H Q=>∃l k xs,x=.ref l/\y=.int k/\H l=some (.lst xs)/\ -(2^63)<=k/\k<2^63/\xs.length*k.toNat<=sizeLine/\
 ∀p,H p=none->Q (.ref p) (upd H p (.lst (List.replicate k.toNat xs).flatten))
theorem len_rep{α:Type}(xs:List α)(k:Nat):(List.replicate k xs).flatten.length=k*xs.length:=by
 induction k with
 |zero=>simp
 |succ k ih=>rw[QT,Ry,OO,ih,Nat.succ_mul,Nat.add_comm]
def IU:om X (binaryOp .Mult) Nc:=by
 intro pins s σ H x y v u Q I rx ry h
 obtain⟨l,k,xs,rfl,rfl,hH,h1,h2,hz,q⟩:=h
 cases rx
 obtain⟨t,rfl⟩:=ry
 let⟨z,its,n,r,hl,e⟩:=I.lstM hH
 have hlen:its.toArray.size*k.toNat<=sizeLine:=by rw[OK,<-hl];exact hz
 have hcap:¬its.toArray.size*k.toNat>(2^63-1)/8:=by
  have:(sizeLine:Nat)<=(2^63-1)/8:=by decide
  omega
 have hfit:¬(!Builtin.List.listFitsIndex k)=true:=by
  rw[fitsIndex_both h1 h2]
  exact OW
 have hlong:¬Builtin.List.listTooLong (its.toArray.size*k.toNat)=true:=by
  rw[DO hlen]
  exact OW
 have hnew:List.foldl (λx1 x2=>x1++x2) #[] (List.replicate (if its.toArray.isEmpty=true then 0 else k.toNat) its.toArray)=(List.replicate k.toNat its).flatten.toArray:=by
  have f0:∀m:Nat,List.foldl (λx1 x2=>x1++x2) #[] (List.replicate m its.toArray)=(List.replicate m its).flatten.toArray:=λm=>by
   have:=foldl_rep its m []
   rw[nil_append]at this
   exact this
  rw[f0]
  cases its with
  |nil=>simp
  |cons a r'=>rw[Oe (by simp)]
 refine wpAny_binaryOp_repeat_ref (by decide) ⟨_,e,rfl⟩ (λs'=>typeIs_int s' k t) noFill_list_mul F.fills_int_mul F.slot_int_rmul repeat_list F.slot_int_index.lookup
  (call_meets F.slot_int_rmul (typeIs_int s k t) F.entry_int_rmul (F.args_int_rmul_2 _ _) (int___rmul___int_list k t l its.toArray n)
   ⟨e,rfl,⟨_,e,rfl⟩,call_meets F.slot_list_mul ⟨_,e,rfl⟩ F.entry_list_mul (F.args_list_mul_2 _ _) (AutoListH.list___mul___list_int_3 l its.toArray n k t hfit hcap hlong) ⟨e,?_⟩⟩)
 rw[hnew]
 exact⟨.ref _,_,I.lnew (r.rep k.toNat) (by rw[len_rep,Nat.mul_comm];exact hz),rfl,q _ I.fresh⟩
end
end L2
namespace Att
open PySem PySem.W PySem.Calls PyProof.Rows
theorem pR{P:Params}{h:Heap}:∀(ns:List Int) (vs:List Value),WellAll P h vs (ns.map WData.int)->IntsAre vs ns:=by
 intro ns
 induction ns with
 |nil=>
  intro vs w
  rw[List.map_nil]at w
  cases w
  exact .nil
 |cons n ns ih=>
  intro vs w
  rw[OJ]at w
  cases w with
  |cons a b=>
   cases a
   exact .cons _ _ (ih _ b)
theorem A3{l:OpenLaw}{n:Nat}(hn:l.most=some n){P:Params}{h:Heap}{args:List WData}{vals:List Value}
  (hpre:l.row.toRowW.claim.pre args=true) (hwl:WellAll P h vals args) :
  ∃a vs ns,vals= [Value.ref a]/\args= [WData.list (ns.map WData.int)]/\h.get? a=some {cls:=.type "list",data:=.seq vs.toArray}/\IntsAre vs ns/\ns.length<=n:=by
 have hsh:WShape.hasAll [] args [.list .int]=true:=(pre_splitW hpre).1
 have hc:l.pre.holds [] {args:=args}=true:=(pre_splitW hpre).2
 obtain⟨d,r,rfl,h1,h2⟩:=hasAllW_cons hsh
 obtain rfl:=hasAllW_nil h2
 obtain⟨xs,rfl,h3⟩:=hasW_list h1
 obtain⟨ns,rfl⟩:=items_int h3
 have hlen:ns.length<=n:=by
  unfold OpenLaw.pre at hc
  have h4:(WTm.not (.lt (.lit (.int (n:Int))) (.len (.arg 0)))).holds [] {args:=[.list (ns.map .int)]}=true:=by
   have h4:=(holds_andW hc).1
   rw[hn]at h4
   exact h4
  have h5:=condW_of h4 (w_not (w_lt w_lit (w_len_list (w_arg rfl))))
  rw[Ob]at h5
  refine Nat.le_of_not_lt λq=>?_
  have q':(n:Int)<((ns.length:Nat):Int):=by omega
  first
   | (rw[Ot q']at h5;exact absurd h5 (by decide))
   | (simp at h5;omega)
 cases hwl with
 |cons w1 w2=>
  cases w2
  cases w1 with
  |list ho hall=>exact⟨_,_,ns,rfl,rfl,ho,pR ns _ hall,hlen⟩
def Bx(l:OpenLaw)(args:List WData):l.row.toRowW.claim.post args (.bool true) args=true:=
 postW_of
  (show WShape.has [] (.bool true) .bool=true by first|rfl|decide|simp[WShape.has,WShape.arms,WShape.armsAll])
  (show(WTm.eq .res (.lit (.bool true))).value [] {args:=args,res:=some (.bool true),after:=args}=some (.bool (true==true))from w_eq_bool (w_res rfl) w_lit) rfl
def xV{l:OpenLaw}{n:Nat}{q:Program}{loose:List Str}{XP:(Str->Option Value)->Heap->Prop}{YP:World->Heap->Prop}{d:DefRec}
  (hn:l.most=some n) (hdf:d.params.defaults= [])
  (call:∀(w:World) (s₀ s₁:Shared) (mg mb:Str->Option Value) (fa:Addr) (o:Obj) (pm cd doc:Value) (a:Addr) (vs:List Value) (ns:List Int),
   Ground q loose [] XP w s₀ mg mb s₁.heap->YP w s₁.heap->
   s₁.heap.get? fa=some o->o.data=.func (docDef d.name d.params d.body d.scope pm cd doc)->s₁.heap.CodeRec cd d.name->mg d.name=some (.ref fa)->
   s₁.heap.get? a=some {cls:=.type "list",data:=.seq vs.toArray}->IntsAre vs ns->ns.length<=n->s₁.gens=#[]->
   codeAny (model l.prog w) callerA (.call (.ref fa) ⟨[.ref a],[]⟩) (λr s'=>r=.ok (.ret (.bool true))/\OldK s₁.heap s'.heap/\s'.os=s₁.os/\AllBare s'.gens) s₁) :
  WalkO q loose XP YP l.row.toRowW d [] (λf vs=>PySem.call f vs):=by
 intro w s₀ s₁ mg mb G Y fa o pm cd doc dV kV ho hd hcd hD hmg hg args vals as hpre hlay hrd hwl hlo
 obtain rfl:dV=.none:=Dflts.none hD hdf
 obtain rfl:kV=.none:=Dflts.noKw hD
 obtain⟨a,vs,ns,rfl,rfl,hobj,hints,hlen⟩:=A3 hn hpre hwl
 refine enter_call (Rq (call w s₀ s₁ mg mb fa o pm cd doc a vs ns G Y ho (fd_plain hd) hcd hmg hobj hints hlen hg) λr s' hq=>?_)
 obtain⟨rfl,h2,h3,h4⟩:=hq
 exact⟨.inl ⟨.bool true,.bool true,[],rfl,λ_=>rfl,.bool true,Bx l _,λ_=>⟨List.Pairwise.nil,λ_ hm=>(nomatch hm)⟩⟩,h2,h3,h4⟩
end Att
namespace L2
open PySem PySem.Spec PyProof.Rows
theorem uf:∀{vs:List Value} {ns:List Int},IntsAre vs ns->Vals (ns.map V.int) vs
 |_,_,.nil=>.nil
 |_,_,.cons n t h=>.cons ⟨t,rfl⟩ (uf h)
def JV(H:Hp):Prop:=∀b,H b=none\/∃o xs,H b=some (.ba o (.lst xs))
theorem Ez{P:Program}{w:World}{K:Frag}{mg mb:Str->Option Value}{CX:By}{k:Nat}{fa a:Addr}{fd:FuncData}{x:Str}{sp:Sp}{s₁:Shared}{vs:List Value}{ns:List Int}
  (KX:K.In s₁.heap) (hns:s₁.heap.Ns mainGlobals mg) (hb:s₁.heap.Ns builtinsNs mb) (hbb:∀x:Str,x≠"__name__"->mb x=bootBuiltins x) (hlim:s₁.heap.NoLimit) (hsys:∃mm,s₁.heap.Ns sysModules mm) (hg:s₁.gens=#[])
  (ha:s₁.heap.get? a=some {cls:=.type "list",data:=.seq vs.toArray}) (hi:IntsAre vs ns) (hl:ns.length<=sizeLine) (hr:fY k callerA)
  (F:∀base:Heap,K.In base->base.Ns mainGlobals mg->gW P w K mg base CX k fa fd [x] sp) (hbind:∀(s:Shared) (u:Value),BindsTo s fd ⟨[u],[]⟩ [(x,u)])
  (hsp:∀H:Hp,JV H->gY K H a (ns.map V.int)->sp [.ref a] H (λv _=>v=.bl true) λ_ _ _=>False)
  (hCX:∀H e s',CX [] H s₁ (λ_ _ _=>False) e s'->False) :
  codeAny (model P w) callerA (.call (.ref fa) ⟨[.ref a],[]⟩) (λr s'=>r=.ok (.ret (.bool true))/\OldK s₁.heap s'.heap/\s'.os=s₁.os/\AllBare s'.gens) s₁:=by
 have rv:=uf hi
 have lenV:=hi.length
 have core:∀H:Hp,JV H->gY K H a (ns.map V.int)->lH P w H s₁.heap->(∀b,H b≠none->b=a)->(H a≠none->K.lookup a=none)->
   codeAny (model P w) callerA (.call (.ref fa) ⟨[.ref a],[]⟩) (λr s'=>r=.ok (.ret (.bool true))/\OldK s₁.heap s'.heap/\s'.os=s₁.os/\AllBare s'.gens) s₁:=by
  intro H hO hS hok hA hK
  have base_of:∀{b:Addr} {o:Obj},s₁.heap.get? b=some o->H b=none->(uT s₁.heap H).get? b=some o:=λe n=>C6 e n
  have noA:∀{b:Addr} {o:Obj} {es:Array DictEntry} {ep:Nat},s₁.heap.get? b=some o->o.data=.dict es ep->H b=none:=λ{b o es ep} e d=>by
   cases q:H b with
   |none=>rfl
   |some u=>
    have e':b=a:=hA b (by rw[q];simp)
    subst e'
    rw[ha]at e;cases e
    have d':Data.seq vs.toArray _=Data.dict es ep:=d
    cases d'
  have nsK:∀{b:Addr} {m:Str->Option Value},s₁.heap.Ns b m->(uT s₁.heap H).Ns b m:=λ{b m} ⟨o,es,ep,e,d,r⟩=>⟨o,es,ep,base_of e (noA e d),d,r⟩
  have hKb:K.In (uT s₁.heap H):=λb o e=>base_of (KX b o e) (by
   cases q:H b with
   |none=>rfl
   |some u=>
    have e':b=a:=hA b (by rw[q];simp)
    subst e'
    rw[hK (by rw[q];simp)]at e;cases e)
  have hM:Mod K mg (uT s₁.heap H):=⟨hKb,nsK hns,⟨mb,nsK hb,hbb⟩,let⟨mc,h1,h2⟩:=hlim;⟨mc,nsK h1,h2⟩,let⟨mm,h1⟩:=hsys;⟨mm,nsK h1⟩⟩
  have e0:G9 P w K mg (uT s₁.heap H) callerA [] s₁ H:=⟨rfl,hM,λb o e=>Hu e,Nat.le_of_eq (B9 _ _),trivial,λb hb=>absurd (show b∈([]:List Addr)from hb) (by simp),hok,.of_eq hg⟩
  refine Rq ((F _ hKb (nsK hns)).run callerA [] s₁ H ⟨[.ref a],[]⟩ [.ref a] [.ref a] _ _ hr e0 (hbind s₁ (.ref a)) (.cons rfl .nil) (hsp H hO hS)) λr s' h=>?_
  cases r with
  |error e=>exact(hCX H e s' h).elim
  |ok fl=>
   cases fl with
   |next=>exact False.elim h
   |brk=>exact False.elim h
   |cont=>exact False.elim h
   |ret u=>
    let⟨v,H',os,bare,un,hok',r',q⟩:=h
    have q':v=.bl true:=q
    subst q'
    obtain rfl:u=Value.bool true:=r'
    refine⟨rfl,OldK.of_keep λb o e=>?_,os,bare⟩
    cases q:H b with
    |none=>exact un.keep b o e q (by intro z;exact absurd (show b∈([]:List Addr)from z) (by simp)) (by simp)
    |some u=>
     rcases hO b with z|⟨ob,xs,z⟩
     .rw[q]at z;cases z
     .have z2:=un.frzs b ob _ z
      let⟨e1,_⟩:=hok b _ z
      let⟨e2,_⟩:=hok' b _ z2
      rw[e]at e1;cases e1
      exact e2
 cases hk:K.lookup a with
 |some o=>
  have e:=KX a o hk
  rw[ha]at e
  cases e
  refine core (λ_=>none) (λ_=>.inl rfl) (.inr ⟨_,vs.toArray,_,hk,rfl,rfl,rfl,by rw[OK,lenV];exact hl,by simpa using rv⟩) (λb u z=>by have z':(none:Option HO)=some u:=z;cases z') (λb z=>absurd rfl z) λz=>absurd rfl z
 |none=>
  refine core (λb=>if b=a then some (.ba {cls:=.type "list",data:=.seq vs.toArray} (.lst (ns.map V.int)))else none) (λb=>?_) (.inl (.inr ⟨{cls:=.type "list",data:=.seq vs.toArray},Od rfl⟩)) (λb u z=>?_) (λb z=>?_) λ_=>hk
  .by_cases hb:b=a
   .exact .inr ⟨_,_,Od hb⟩
   .exact .inl (Oe hb)
  .by_cases hb:b=a
   .have z':=(Od hb).symm.trans z
    cases z'
    subst hb
    exact⟨ha,by rw[Ob];exact hl,vs,_,rv,ha⟩
   .have z':=(Oe hb).symm.trans z
    cases z'
  .by_cases hb:b=a
   .exact hb
   .exact absurd (Oe hb) z
def Gk{l:PySem.W.OpenLaw}{n k:Nat}{q:Program}{loose:List Str}{XP:(Str->Option Value)->Heap->Prop}{YP:World->Heap->Prop}{d:DefRec}{K:Params->Frag}{CX:World->By}{sp:World->Sp}{x:Str}
  (hn:l.most=some n) (hn2:n<=sizeLine) (hdf:d.params.defaults= []) (hi:PyProof.Rows.importsNone q=true) (hr:fY k callerA)
  (hY:∀(w:World) (h:Heap),YP w h->(K w.params).In h)
  (F:∀(w:World) (mg:Str->Option Value) (fa:Addr) (h:Heap),(K w.params).In h->h.Ns mainGlobals mg->mg d.name=some (.ref fa)->
   ∃fd:FuncData,(∀(s:Shared) (u:Value),BindsTo s fd ⟨[u],[]⟩ [(x,u)])/\
    ∀base:Heap,(K w.params).In base->base.Ns mainGlobals mg->gW l.prog w (K w.params) mg base (CX w) k fa fd [x] (sp w))
  (hsp:∀(w:World) (H:Hp) (a:Addr) (ns:List Int),ns.length<=n->JV H->gY (K w.params) H a (ns.map V.int)->sp w [.ref a] H (λv _=>v=.bl true) λ_ _ _=>False)
  (hCX:∀(w:World) (H:Hp) (s:Shared) (e:Value) (s':Shared),CX w [] H s (λ_ _ _=>False) e s'->False) :
  PySem.W.WalkO q loose XP YP l.row.toRowW d [] (λf vs=>PySem.call f vs):=by
 refine Att.xV hn hdf λw s₀ s₁ mg mb fa o pm cd doc a vs ns G Y ho hd hcd hmg hobj hints hlen hg=>?_
 have KX:=hY w _ Y
 let⟨fd,hb,hF⟩:=F w mg fa _ KX G.T.g hmg
 exact Ez KX G.T.g G.T.b G.T.builtins G.T.nolimit (let⟨mm,h1,_⟩:=(G.T.seer hi).mods;⟨mm,h1⟩) hg hobj hints (Pf hlen hn2) hr hF hb (λH hO hS=>hsp w H a ns hlen hO hS) λH e s'=>hCX w H s₁ e s'
def jr(s:Stmt):Arguments:=match s with
 | .FunctionDef _ a _ _ _ _ _ _ _ _=>a
 |_=>{posonlyargs:=[],args:=[],vararg:=none,kwonlyargs:=[],kw_defaults:=[],kwarg:=none,defaults:=[]}
def dr(s:Stmt):List Stmt:=match s with
 | .FunctionDef _ _ b _ _ _ _ _ _ _=>b
 |_=>[]
def au(s:Stmt):Scope:=match s with
 | .FunctionDef _ _ _ _ _ _ sc _ _ _=>sc
 |_=>{kind:=.function,names:=[],isGenerator:=false,isCoroutine:=false}
abbrev J9:By:=λ_ _ _ _ _ _=>False
abbrev E0:XK:=λ_ _ _=>False
def KI{X:Cx}:Passes J9 X E0:=λ_ _ _ _ _ _ _ h=>h.elim
structure E8(K:Frag)(x qual:Str)(st:Stmt)(f:Addr)(fd:FuncData):Prop where
 ex:∃(oc:Value) (od:Option Addr) (kV doc pm:Value) (an:Option Addr) (cdv ct:Value) (osl:Array (Option Value)),
  fd=PySem.W.fnOf x qual (jr st) (dr st) (au st) .none kV doc pm an cdv ct/\K.lookup f=some ⟨oc,od,.func fd,osl⟩/\PySem.W.codeIn K cdv qual=true
 kp:PySem.W.keepIn K (.ref f)=true
section
variable {P:Program}{w:World}{K:Frag}{mg:Str->Option Value}{base:Heap}
def E8.ok{x qual:Str}{st:Stmt}{f:Addr}{fd:FuncData}{N ps:List Str}{k:Nat}{sp:Sp}(F:E8 K x qual st f fd)(S:aF N ps (au st))(len:∀vs H Q E,sp vs H Q E->vs.length=ps.length)
  (hbody:∀(cdv:Value) (A:Around) (outer:List Env) (s:Shared) (H:Hp) (vs:List V) (Q:VK) (E:XK),fY k (A.deeper (envOfC qual (au st) s.heap.objs.size f cdv))->sp vs H Q E->
   ∃t,sL (sZ J9 P w K mg base N qual (au st) f cdv A outer s H E).nox (dr st) t/\t {nx:=λ_ H'=>Q .non H',rt:=Q} (start N vs) H):gW P w K mg base J9 (k+1) f fd ps sp:=by
 obtain⟨oc,od,kV,doc,pm,an,cdv,ct,osl,rfl,lk,hcd⟩:=F.ex
 refine HI lk hcd S len λA outer s H vs Q E hr hsp=>?_
 let⟨t,h,q⟩:=hbody cdv A outer s H vs Q E hr hsp
 exact⟨t,h.nox,q⟩
def E8.binds{x qual:Str}{st:Stmt}{f:Addr}{fd:FuncData}{ps:List Str}(F:E8 K x qual st f fd)
  (h:∀(kV doc pm:Value) (an:Option Addr) (cdv ct:Value) (us:List Value),us.length=ps.length->bindArgs (PySem.W.fnOf x qual (jr st) (dr st) (au st) .none kV doc pm an cdv ct) ⟨us,[]⟩=pure (ps.zip us)):Binds K fd ps []:=by
 obtain⟨oc,od,kV,doc,pm,an,cdv,ct,osl,rfl,lk,hcd⟩:=F.ex
 exact .all (h kV doc pm an cdv ct)
def y7{x qual:Str}{st:Stmt}{f:Addr}{oc:Value}{od an:Option Addr}{osl:Array (Option Value)}{kV doc pm cdv ct:Value}(l:K.lookup f=some ⟨oc,od,.func (PySem.W.fnOf x qual (jr st) (dr st) (au st) .none kV doc pm an cdv ct),osl⟩)
  (c:PySem.W.codeIn K cdv qual=true) (k:PySem.W.keepIn K (.ref f)=true):E8 K x qual st f (PySem.W.fnOf x qual (jr st) (dr st) (au st) .none kV doc pm an cdv ct):=⟨⟨oc,od,kV,doc,pm,an,cdv,ct,osl,rfl,l,c⟩,k⟩
end
section
variable {X:Cx}
def pv(i:Nat){x:Str}{pos:Pos}(hN:X.N[i]? =some x:=by rfl)(hv:yc X.env.scope x:=by first|exact Or.inl rfl|exact Or.inr (Or.inl rfl)|exact Or.inr (Or.inr rfl))(hd:(x==("__debug__":Str))=false:=by decide)
  (hcd:(x==("__classdict__":Str))=false:=by decide):PE X (.Name x pos) (FC i):=fK hN hv hd hcd
end
def uQ{A B:Prop}(h:B):if false=true then A else B:=by
 rw[Oe OW]
 exact h
def vd{A B:Prop}(h:A):if true=true then A else B:=by
 rw[Od rfl]
 exact h
def Nb(o:Obj):Prop:=∃vs q t,o.data=.fields vs/\vs[1]? =some (.str q t)
def J8:List Value->Prop
 | []=>True
 | .int _ _::.int _ _::.ref _::r=>J8 r
 |_=>False
theorem J8.app:∀{l m:List Value},J8 l->J8 m->J8 (l++m)
 | [],_,_,h=>h
 | .int _ _::.int _ _::.ref _::r,_,h,k=>J8.app (l:=r) h k
def Kt(H:Hp)(b:Addr):HO->Prop
 | .tbl ps=>∃more:Array Value,H b=some (.tbl (ps++more))/\J8 more.toList/\∀c,Value.ref c∈more.toList->∃o,H c=some (.ba o (.own 0))/\Nb o
 |o=>H b=some o
theorem Kt.of{H:Hp}{b:Addr}{o:HO}(h:H b=some o):Kt H b o:=by
 cases o with
 |tbl ps=>exact⟨#[],by rw[h];simp,trivial,λc hc=>by simp at hc⟩
 |_=>exact h
def ak(H H':Hp):Prop:=∀b o,H b=some o->Kt H' b o
def ak.refl(H:Hp):ak H H:=λ_ _ h=>Kt.of h
theorem Kt.some{H:Hp}{b:Addr}{o:HO}(h:Kt H b o):∃u,H b=Option.some u/\((∀ps,o≠.tbl ps)->u=o)/\((∃ps,o=.tbl ps)->∃ps,u=.tbl ps):=by
 cases o with
 |tbl ps=>let⟨m,e,_⟩:=h;exact⟨_,e,λz=>absurd rfl (z ps),λ_=>⟨_,rfl⟩⟩
 |_=>exact⟨_,h,λ_=>rfl,λ⟨ps,z⟩=>by cases z⟩
theorem Kt.step{H H':Hp}{b:Addr}{o:HO}(h:Kt H b o)(s:ak H H'):Kt H' b o:=by
 cases o with
 |tbl ps=>
  let⟨m,e,t1,k⟩:=h
  let⟨m2,e2,t2,k2⟩:=s b _ e
  refine⟨m++m2,by rw[e2,Array.append_assoc],by rw[Rk];exact t1.app t2,λc hc=>?_⟩
  rw[Rk,Ox]at hc
  rcases hc with hc|hc
  .let⟨o,eo,io⟩:=k c hc;exact⟨o,s c _ eo,io⟩
  .exact k2 c hc
 |lst xs=>exact s b _ h
 |tup xs=>exact s b _ h
 |dK xs=>exact s b _ h
 |dT xs ep=>exact s b _ h
 |set S n=>exact s b _ h
 |ins C dx fs=>exact s b _ h
 |own x=>exact s b _ h
 |xd fs=>exact s b _ h
 |met f x=>exact s b _ h
 |bD lo hi=>exact s b _ h
 |ba o u=>exact s b _ h
 |ext φ=>exact s b _ h
def ak.trans{H H1 H2:Hp}(a:ak H H1)(b:ak H1 H2):ak H H2:=λc o h=>(a c o h).step b
theorem ak.free{H H':Hp}(e:ak H H'){l:Addr}(h:H' l=Option.none):H l=Option.none:=by
 cases q:H l with
 |none=>rfl
 |some o=>
  let⟨u,z,_⟩:=(e l o q).some
  rw[z]at h
  cases h
def ak.seq{K:Frag}{H H':Hp}{a:Addr}{xs:List V}(e:ak H H')(h:gY K H a xs):gY K H' a xs:=by
 rcases h with(h|⟨o,h⟩)|h
 .exact .inl (.inl (e _ _ h))
 .exact .inl (.inr ⟨o,e _ _ h⟩)
 .exact .inr h
end L2
end
section
namespace RQ
open PySem L2
def top(i:Nat):Stmt:=PySem.Challenge.pw_rowsorder_k35_points_or_a_knot.main.body.getD i (.Pass ⟨0,0,0,0⟩)
abbrev kh:Stmt:=top 2
abbrev km:Stmt:=top 3
abbrev mf:Stmt:=top 4
abbrev mw:Stmt:=top 5
abbrev fI:Stmt:=top 6
abbrev kq:Stmt:=top 13
abbrev j4:Stmt:=top 11
abbrev iw:Stmt:=top 14
abbrev i7:Stmt:=top 15
abbrev qk:Stmt:=top 17
abbrev hZ:Stmt:=top 19
abbrev fW:Stmt:=top 20
abbrev ji:Stmt:=top 21
abbrev eG:Stmt:=top 24
abbrev l6:Stmt:=top 25
abbrev jl:Stmt:=top 23
abbrev jt:Stmt:=top 27
abbrev fV:Stmt:=top 26
abbrev dW:Stmt:=top 22
abbrev jf:Stmt:=top 29
abbrev gf:Stmt:=top 30
abbrev ku:Stmt:=top 31
abbrev jg:Stmt:=top 32
abbrev ic:Stmt:=top 33
abbrev fj:Stmt:=top 34
abbrev gE:Stmt:=top 35
abbrev iu:Stmt:=top 36
abbrev ie:Stmt:=top 37
abbrev ik:Stmt:=top 38
abbrev jc:Stmt:=top 39
abbrev fQ:Stmt:=top 40
abbrev gH:Stmt:=top 41
abbrev fR:Stmt:=top 42
abbrev de:Stmt:=top 43
abbrev iD:Stmt:=top 44
abbrev il:Stmt:=top 45
abbrev mI:Stmt:=top 46
end RQ
namespace RO
open PySem L2
abbrev kc:Stmt:=RQ.fI
abbrev n9:Stmt:=RQ.top 12
end RO
end
namespace L2.ST
open PySem PySem.SetTable
abbrev kB(xs:Array Nat):Prop:=xs.toList.Pairwise (· < ·)
def jh{xs:Array Nat}(h:kB xs){i k d:Nat}(hik:i<k)(hk:k<xs.size):xs.getD i d<xs.getD k d:=by
 have hi:i<xs.size:=QM hik hk
 have:=QJ.mp h i k (by simpa using hi) (by simpa using hk) hik
 simpa[Array.getD,hi,hk]using this
theorem EF{xs:Array Nat}{j:Nat}(h:kB xs):∀(fuel lo hi:Nat),lo<=hi->hi<=xs.size->hi-lo<=fuel->
  (∀i,i<lo->xs.getD i j<j)->(∀i,hi<=i->i<xs.size->j<=xs.getD i j)->
  below.go xs j fuel lo hi<=xs.size/\(∀i,i<below.go xs j fuel lo hi->xs.getD i j<j)/\(∀i,below.go xs j fuel lo hi<=i->i<xs.size->j<=xs.getD i j):=by
 intro fuel
 induction fuel with
 |zero=>
  intro lo hi h1 h2 h3 h4 h5
  have:lo=hi:=by omega
  subst this
  exact⟨h2,h4,h5⟩
 |succ fuel ih=>
  intro lo hi h1 h2 h3 h4 h5
  unfold below.go
  by_cases hlt:lo<hi
  .rw[Od hlt]
   dsimp only
   by_cases hm:xs.getD ((lo+hi)/2) j<j
   .rw[Od hm]
    refine ih _ _ (by omega) h2 (by omega) (λi hi'=>?_) h5
    by_cases e:i=(lo+hi)/2
    .rw[e];exact hm
    .exact QM (jh h (show i<(lo+hi)/2 by omega) (by omega)) hm
   .rw[Oe hm]
    refine ih _ _ (by omega) (by omega) (by omega) h4 (λi hi' hs=>?_)
    by_cases e:i=(lo+hi)/2
    .rw[e];omega
    .have:=jh (d:=j) h (show(lo+hi)/2<i by omega) hs
     omega
  .rw[Oe hlt]
   have:lo=hi:=by omega
   subst this
   exact⟨h2,h4,h5⟩
def fo{xs:Array Nat}(h:kB xs)(j:Nat) :
  below xs j<=xs.size/\(∀i,i<below xs j->xs.getD i j<j)/\(∀i,below xs j<=i->i<xs.size->j<=xs.getD i j):=
 EF h xs.size 0 xs.size (O2 _) (Oc _) (by omega) (λi hi=>by omega) (λi h1 h2=>by omega)
def BP{xs:Array Nat}(h:kB xs){i j:Nat}(hi:xs[i]? =some j):below xs j=i:=by
 let⟨b1,b2,b3⟩:=fo h j
 have hs:i<xs.size:=(Px.mp hi).1
 have hv:xs.getD i j=j:=by rw[O4,hi];rfl
 rcases Rz i (below xs j)with c|c|c
 .have:=b2 i c;omega
 .exact c.symm
 .have hb:below xs j<xs.size:=by omega
  have q:=b3 (below xs j) (Oc _) hb
  have:=jh (d:=j) h c hs
  omega
def zM(j:Nat):has #[] j=false:=by
 unfold has
 simp
def uj{t:SetTable}(h:kB t.place){i j:Nat}(hi:t.place[i]? =some j):t.slot j=.live i:=by
 unfold slot
 dsimp only
 rw[BP h hi,Od (by simp[hi])]
def zo{t:SetTable}(hd:t.dummies=#[]){j:Nat}(hj:j∉t.place):t.slot j=.empty:=by
 unfold slot
 dsimp only
 have:¬(t.place[below t.place j]?==some j)=true:=by
  intro e
  have e':t.place[below t.place j]? =some j:=by simpa using e
  let⟨h1,h2⟩:=Px.mp e'
  exact hj (Array.mem_iff_getElem.mpr ⟨_,h1,h2⟩)
 rw[Oe this,hd,zM]
 rfl
def ye(mask:Nat)(p:Probe):Probe:=
 if p.more>0 then{p with j:=p.j+1,more:=p.more-1}else
 {p with j:=(leap mask p.i p.perturb).1,more:=runEnd mask (leap mask p.i p.perturb).1-(leap mask p.i p.perturb).1,i:=(leap mask p.i p.perturb).1,perturb:=(leap mask p.i p.perturb).2}
def Bf(mask i perturb:Nat):Probe:={j:=i,more:=runEnd mask i-i,i,perturb,dummy:=none}
def st(mask:Nat)(h:Int):Probe:=Bf mask (bits h%(mask+1)) (bits h)
def Dg(t:SetTable)(p:Probe):t.advance p=ye t.mask p:=rfl
def Ia(t:SetTable)(h:Int):t.probeStart h=st t.mask h:=rfl
def gu(mask:Nat):Nat->Probe->Probe
 | 0,p=>p
 |n+1,p=>gu mask n (ye mask p)
theorem lK(mask:Nat):∀(n m:Nat) (p:Probe),gu mask (n+m) p=gu mask m (gu mask n p)
 | 0,m,p=>by rw[Pk];rfl
 |n+1,m,p=>by rw[Nat.add_right_comm];exact lK mask n m (ye mask p)
def Dq{mask:Nat}{p:Probe}(h:p.dummy=none):(ye mask p).dummy=none:=by
 unfold ye;split<;>exact h
def jQ{mask i:Nat}(h:i<=mask):i<=runEnd mask i/\runEnd mask i<=mask/\runEnd mask i-i<=9:=by
 unfold runEnd;split<;>omega
def In(mask:Nat)(p:Probe):Prop:=p.j+p.more<=mask/\p.more<=9
def Jq{mask i q:Nat}(h:i<=mask):In mask (Bf mask i q):=by
 have:=jQ h
 unfold In Bf;dsimp only;omega
def og(mask i q:Nat):(leap mask i q).1<=mask:=by
 unfold leap;exact Nat.lt_succ_iff.mp (Nat.mod_lt _ (Nat.succ_pos _))
def Ju{mask:Nat}{p:Probe}(h:In mask p):In mask (ye mask p):=by
 unfold ye
 by_cases hm:p.more>0
 .rw[Od hm];unfold In at *;dsimp only;omega
 .rw[Oe hm]
  have:=jQ (og mask p.i p.perturb)
  unfold In;dsimp only;omega
theorem AM{mask:Nat}:∀(n:Nat) {p:Probe},In mask p->In mask (gu mask n p)
 | 0,_,h=>h
 |n+1,_,h=>AM n (Ju h)
def Ko(mask:Nat)(h:Int):In mask (st mask h):=Jq (Nat.lt_succ_iff.mp (Nat.mod_lt _ (Nat.succ_pos _)))
theorem wV(mask:Nat):∀(k:Nat) (p:Probe),p.more=k->gu mask (k+1) p={p with j:=(leap mask p.i p.perturb).1,more:=runEnd mask (leap mask p.i p.perturb).1-(leap mask p.i p.perturb).1,i:=(leap mask p.i p.perturb).1,perturb:=(leap mask p.i p.perturb).2}
 | 0,p,h=>by
  show ye mask p=_
  unfold ye
  rw[Oe (by omega)]
 |k+1,p,h=>by
  have e:ye mask p={p with j:=p.j+1,more:=p.more-1}:=by unfold ye;rw[Od (by omega)]
  show gu mask (k+1) (ye mask p)=_
  rw[e,wV mask k _ (by dsimp only;omega)]
def oQ(mask i q:Nat):gu mask (runEnd mask i-i+1) (Bf mask i q)=Bf mask (leap mask i q).1 (leap mask i q).2:=by
 exact wV mask _ (Bf mask i q) rfl
theorem ko(mask i q:Nat):∀(k:Nat),k<=runEnd mask i-i->(gu mask k (Bf mask i q))={Bf mask i q with j:=i+k,more:=runEnd mask i-i-k}
 | 0,_=>rfl
 |k+1,h=>by
  rw[lK mask k 1,ko mask i q k (by omega)]
  show ye mask _=_
  unfold ye
  rw[Od (by dsimp only;omega)]
  simp only[Probe.mk.injEq]
  refine⟨by omega,by omega,?_⟩
  trivial
def gQ(mask:Nat):Nat->Nat×Nat->Nat×Nat
 | 0,x=>x
 |k+1,x=>gQ mask k (leap mask x.1 x.2)
theorem pz(mask:Nat):∀(k i q:Nat),i<=mask->∃n,n<=10*k/\gu mask n (Bf mask i q)=Bf mask (gQ mask k (i,q)).1 (gQ mask k (i,q)).2
 | 0,i,q,_=>⟨0,Oc _,rfl⟩
 |k+1,i,q,h=>by
  obtain⟨n,hn,e⟩:=pz mask k (leap mask i q).1 (leap mask i q).2 (og _ _ _)
  have:=jQ h
  refine⟨(runEnd mask i-i+1)+n,by omega,?_⟩
  rw[lK,oQ,e]
  rfl
theorem uJ(mask:Nat):∀(a b:Nat) (x:Nat×Nat),gQ mask (a+b) x=gQ mask b (gQ mask a x)
 | 0,b,x=>by rw[Pk];rfl
 |a+1,b,x=>by rw[Nat.add_right_comm];exact uJ mask a b (leap mask x.1 x.2)
theorem we(mask:Nat):∀(k:Nat) (x:Nat×Nat),x.1<=mask->(gQ mask k x).1<=mask
 | 0,_,h=>h
 |k+1,x,_=>we mask k _ (og mask x.1 x.2)
theorem mM(mask:Nat):∀(k:Nat) (x:Nat×Nat),(gQ mask k x).2=x.2/32^k
 | 0,x=>by simp[gQ]
 |k+1,x=>by
  show(gQ mask k (leap mask x.1 x.2)).2=_
  rw[mM mask k,Nat.pow_succ,Nat.mul_comm,<-Nat.div_div_eq_div_mul]
  rfl
def nx(mask i:Nat):Nat:=(i*5+1)%(mask+1)
def Cn(mask:Nat):Nat->Nat->Nat
 | 0,i=>i
 |k+1,i=>Cn mask k (nx mask i)
theorem qm(mask:Nat):∀(a b i:Nat),Cn mask (a+b) i=Cn mask b (Cn mask a i)
 | 0,b,i=>by rw[Pk];rfl
 |a+1,b,i=>by rw[Nat.add_right_comm];exact qm mask a b (nx mask i)
theorem sr(mask:Nat):∀(k i:Nat),gQ mask k (i,0)=(Cn mask k i,0)
 | 0,_=>rfl
 |k+1,i=>by
  show gQ mask k (leap mask i 0)=_
  have:leap mask i 0=(nx mask i,0):=by simp[leap,nx]
  rw[this,sr mask k]
  rfl
def DM(mask:Nat):Prop:=mask=7\/mask=31\/mask=127
def Ll(mask:Nat)(hm:DM mask):Cn mask (mask+1) 0=0/\∀j,j<=mask->∃k,k<=mask/\Cn mask k 0=j:=by
 have h7:∀j:Nat,j<8->∃k,k<8/\Cn 7 k 0=j:=by decide +kernel
 have h31:∀j:Nat,j<32->∃k,k<32/\Cn 31 k 0=j:=by decide +kernel
 have h127:∀j:Nat,j<128->∃k,k<128/\Cn 127 k 0=j:=by decide +kernel
 rcases hm with rfl|rfl|rfl
 .exact⟨by decide +kernel,λj hj=>let⟨k,a,b⟩:=h7 j (by omega);⟨k,by omega,b⟩⟩
 .exact⟨by decide +kernel,λj hj=>let⟨k,a,b⟩:=h31 j (by omega);⟨k,by omega,b⟩⟩
 .exact⟨by decide +kernel,λj hj=>let⟨k,a,b⟩:=h127 j (by omega);⟨k,by omega,b⟩⟩
def KR{mask:Nat}(hm:DM mask){i j:Nat}(hi:i<=mask)(hj:j<=mask):∃k,k<=mask/\Cn mask k i=j:=by
 let⟨z,o⟩:=Ll mask hm
 let⟨a,ha,ea⟩:=o i hi
 let⟨b,hb,eb⟩:=o j hj
 have back:Cn mask (mask+1-a) i=0:=by
  rw[<-ea,<-qm,show a+(mask+1-a)=mask+1 by omega];exact z
 by_cases hab:a<=b
 .refine⟨b-a,by omega,?_⟩
  rw[<-ea,<-qm,show a+(b-a)=b by omega];exact eb
 .refine⟨mask+1-a+b,by omega,?_⟩
  rw[qm,back];exact eb
def qQ{mask:Nat}(hm:DM mask){i q j:Nat}(hi:i<=mask)(hq:q<2^64)(hj:j<=mask):∃k,k<=mask+13/\(gQ mask k (i,q)).1=j:=by
 have hz:(gQ mask 13 (i,q)).2=0:=by
  rw[mM]
  exact Nat.div_eq_of_lt (OZ hq (by decide))
 let⟨k,hk,e⟩:=KR hm (we mask 13 (i,q) hi) hj
 refine⟨13+k,by omega,?_⟩
 rw[uJ]
 have:gQ mask 13 (i,q)=((gQ mask 13 (i,q)).1,0):=Prod.ext rfl hz
 rw[this,sr]
 exact e
def z0(h:Int):bits h<2^64:=by
 unfold bits
 have:=Int.emod_lt_of_pos h (show(0:Int)<2^64 by decide)
 have:=Int.emod_nonneg h (show(2^64:Int)≠0 by decide)
 omega
def Dh{mask:Nat}(hm:DM mask)(h:Int){j:Nat}(hj:j<=mask):∃n,n<10*turns mask/\(gu mask n (st mask h)).j=j:=by
 have hi:bits h%(mask+1)<=mask:=Nat.lt_succ_iff.mp (Nat.mod_lt _ (Nat.succ_pos _))
 let⟨k,hk,e⟩:=qQ hm hi (z0 h) hj
 let⟨n,hn,q⟩:=pz mask k (bits h%(mask+1)) (bits h) hi
 refine⟨n,by unfold turns;omega,?_⟩
 show(gu mask n (Bf mask _ _)).j=j
 rw[q];exact e
theorem CM{t:SetTable}{hashAt:Nat->Int}{h:Int}:∀(n fuel:Nat) (p:Probe),n<fuel->p.dummy=none->
  (∀m,m<n->∃i,t.slot (gu t.mask m p).j=.live i/\hashAt i≠h)->t.slot (gu t.mask n p).j=.empty->
  probe.go t hashAt h fuel p=some (.empty (gu t.mask n p).j none):=by
 intro n
 induction n with
 |zero=>
  intro fuel p hf hd _ he
  obtain⟨f,rfl⟩:∃f,fuel=f+1:=⟨fuel-1,by omega⟩
  unfold probe.go
  have he':t.slot p.j=.empty:=he
  rw[he',hd]
  rfl
 |succ n ih=>
  intro fuel p hf hd hl he
  obtain⟨f,rfl⟩:∃f,fuel=f+1:=⟨fuel-1,by omega⟩
  unfold probe.go
  let⟨i,e,ne⟩:=hl 0 (by omega)
  have e':t.slot p.j=.live i:=e
  rw[e']
  dsimp only
  rw[Oe (by simpa using ne),Dg]
  exact ih f (ye t.mask p) (by omega) (Dq hd) (λm hm=>hl (m+1) (by omega)) he
theorem El{t:SetTable}{hashAt:Nat->Int}{h:Int}:∀(n fuel:Nat) (p:Probe),n<fuel->
  (∀m,m<=n->∃i,t.slot (gu t.mask m p).j=.live i)->(∃i,t.slot (gu t.mask n p).j=.live i/\hashAt i=h)->
  ∃j i next,probe.go t hashAt h fuel p=some (.candidate j i next)/\t.slot j=.live i/\hashAt i=h:=by
 intro n
 induction n with
 |zero=>
  intro fuel p hf _ he
  obtain⟨f,rfl⟩:∃f,fuel=f+1:=⟨fuel-1,by omega⟩
  let⟨i,e,eh⟩:=he
  have e':t.slot p.j=.live i:=e
  unfold probe.go
  rw[e']
  dsimp only
  rw[Od (by simpa using eh)]
  exact⟨p.j,i,_,rfl,e',eh⟩
 |succ n ih=>
  intro fuel p hf hl he
  obtain⟨f,rfl⟩:∃f,fuel=f+1:=⟨fuel-1,by omega⟩
  let⟨i,e⟩:=hl 0 (by omega)
  have e':t.slot p.j=.live i:=e
  unfold probe.go
  rw[e']
  dsimp only
  by_cases hh:hashAt i=h
  .rw[Od (by simpa using hh)]
   exact⟨p.j,i,_,rfl,e',hh⟩
  .rw[Oe (by simpa using hh),Dg]
   exact ih f (ye t.mask p) (by omega) (λm hm=>hl (m+1) (by omega)) he
def Reach(mask:Nat)(L:Nat->Prop)(h:Int)(j:Nat):Prop:=∃n,n<10*turns mask/\(gu mask n (st mask h)).j=j/\∀m,m<n->L (gu mask m (st mask h)).j
def Reach.mono{mask:Nat}{L L':Nat->Prop}{h:Int}{j:Nat}(r:Reach mask L h j)(k:∀x,L x->L' x):Reach mask L' h j:=
 let⟨n,a,b,c⟩:=r;⟨n,a,b,λm hm=>k _ (c m hm)⟩
structure Tab(t:SetTable)(hs:List Int):Prop where
 mask:DM t.mask
 dum:t.dummies=#[]
 rise:kB t.place
 le:∀j,j∈t.place->j<=t.mask
 size:t.place.size=hs.length
 load:t.place.size*5<t.mask*3
 reach:∀(i j:Nat) (h:Int),t.place[i]? =some j->hs[i]? =some h->Reach t.mask (· ∈t.place) h j
 plain:t.plain=true
theorem bV{α:Type}[DecidableEq α]:∀{l m:List α},l.Nodup->(∀x,x∈l->x∈m)->l.length<=m.length
 | [],_,_,_=>O2 _
 |a::l,m,hn,hs=>by
  have ha:=hs a (Ol ..)
  have hl:=OS.mp hn
  have:=bV (m:=m.erase a) hl.2 λx hx=>by
   refine(List.mem_erase_of_ne ?_).mpr (hs x (Og _ hx))
   rintro rfl;exact hl.1 hx
  rw[QN ha]at this
  have:0<m.length:=List.length_pos_of_mem ha
  simp only[ON];omega
def zx{mask:Nat}{xs:Array Nat}(hl:xs.size<=mask):∃j,j<=mask/\j∉xs:=by
 refine Classical.byContradiction λhc=>?_
 have all:∀j,j∈List.range (mask+1)->j∈xs.toList:=λj hj=>by
  have:=OI.mp hj
  refine Classical.byContradiction λhn=>hc ⟨j,by omega,λz=>hn (by simpa using z)⟩
 have:=bV Qx all
 simp at this
 omega
theorem vp{P:Nat->Prop}(h:∃n,P n):∃n,P n/\∀m,m<n->¬P m:=by
 let⟨n,hn⟩:=h
 induction n using Nat.strongRecOn with
 |_ n ih=>
  by_cases hc:∃m,m<n/\P m
  .let⟨m,hm,hp⟩:=hc
   exact ih m hm hp
  .exact⟨n,hn,λm hm hp=>hc ⟨m,hm,hp⟩⟩
section
variable {t:SetTable}{hs:List Int}
def Tab.load'(T:Tab t hs):t.place.size<=t.mask:=by have:=T.load;omega
def Tab.slotL(T:Tab t hs){j:Nat}(hj:j∈t.place):∃i,t.slot j=.live i/\t.place[i]? =some j:=by
 let⟨i,hi,e⟩:=Array.mem_iff_getElem.mp hj
 have q:t.place[i]? =some j:=by rw[OF hi,e]
 exact⟨i,uj T.rise q,q⟩
def Tab.slotE(T:Tab t hs){j:Nat}(hj:j∉t.place):t.slot j=.empty:=zo T.dum hj
def Tab.first(T:Tab t hs)(h:Int):∃n,n<10*turns t.mask/\(gu t.mask n (st t.mask h)).j∉t.place/\∀m,m<n->(gu t.mask m (st t.mask h)).j∈t.place:=by
 let⟨j,hj,hn⟩:=zx T.load'
 let⟨n,h1,h2⟩:=Dh T.mask h hj
 let⟨k,hk,hlt⟩:=vp (P:=λn=>(gu t.mask n (st t.mask h)).j∉t.place) ⟨n,by rw[h2];exact hn⟩
 refine⟨k,?_,hk,λm hm=>Classical.byContradiction λz=>hlt m hm z⟩
 rcases Pe n k with c|c
 .exact absurd (show(gu t.mask n (st t.mask h)).j∉t.place by rw[h2];exact hn) (hlt n c)
 .omega
def Tab.absent(T:Tab t hs){hashAt:Nat->Int}(ha:∀i,i<hs.length->some (hashAt i)=hs[i]?){h:Int}(hn:h∉hs) :
  ∃j,t.probe hashAt h (t.probeStart h)=some (.empty j none)/\j∉t.place/\j<=t.mask/\Reach t.mask (· ∈t.place) h j:=by
 let⟨n,h1,h2,h3⟩:=T.first h
 refine⟨(gu t.mask n (st t.mask h)).j,?_,h2,?_,⟨n,h1,rfl,h3⟩⟩
 .unfold probe
  rw[Ia]
  refine CM n _ _ h1 rfl (λm hm=>?_) (T.slotE h2)
  let⟨i,e,q⟩:=T.slotL (h3 m hm)
  refine⟨i,e,λz=>hn ?_⟩
  have hi:i<hs.length:=by rw[<-T.size];exact(Px.mp q).1
  have:=ha i hi
  rw[z]at this
  exact Oi this.symm
 .have:=AM n (Ko t.mask h)
  unfold In at this;omega
def Tab.present(T:Tab t hs){hashAt:Nat->Int}(ha:∀i,i<hs.length->some (hashAt i)=hs[i]?){h:Int}(hm:h∈hs) :
  ∃j i next,t.probe hashAt h (t.probeStart h)=some (.candidate j i next)/\t.slot j=.live i/\i<hs.length/\hs[i]? =some h:=by
 let⟨i,hi,e⟩:=O3.mp hm
 have hi':hs[i]? =some h:=by rw[N8 hi,e]
 have hp:i<t.place.size:=by rw[T.size];exact hi
 let⟨n,h1,h2,h3⟩:=T.reach i t.place[i] h (OF hp) hi'
 have hj:(gu t.mask n (st t.mask h)).j∈t.place:=by rw[h2];exact RA hp
 obtain⟨j',i',nx,g1,g2,g3⟩:=El (hashAt:=hashAt) (h:=h) n (10*turns t.mask) (st t.mask h) h1 (λm hm=>by
   rcases Pe m n with c|c
   .let⟨i,e,_⟩:=T.slotL (h3 m c);exact⟨i,e⟩
   .have:m=n:=by omega
    subst this
    let⟨i,e,_⟩:=T.slotL hj;exact⟨i,e⟩)
  ⟨i,by rw[h2];exact uj T.rise (OF hp),by
   have:=ha i hi
   rw[hi']at this
   exact Option.some.inj this⟩
 have hi2:i'<t.place.size:=by
  unfold slot at g2
  dsimp only at g2
  split at g2
  .rename_i c
   have c':t.place[below t.place j']? =some j':=by simpa using c
   cases g2
   exact(Px.mp c').1
  .split at g2<;>cases g2
 refine⟨j',i',nx,by unfold probe;rw[Ia];exact g1,g2,by rw[<-T.size];exact hi2,?_⟩
 have:=ha i' (by rw[<-T.size];exact hi2)
 rw[g3]at this
 exact this.symm
end
def cq{α:Type}(xs:Array α)(p:Nat)(x:α)(_:p<=xs.size):(insertAt xs p x).toList=xs.toList.take p++x::xs.toList.drop p:=by
 unfold insertAt
 simp[Array.toList_extract,List.extract_eq_take_drop]
 rw[Q4 (by simp)]
def tX(t:SetTable)(j:Nat)(hd:t.dummies=#[]):(t.put j).1={t with place:=insertAt t.place (below t.place j) j}/\(t.put j).2=below t.place j:=by
 unfold put
 dsimp only
 rw[hd,zM]
 exact⟨by simp,rfl⟩
section
variable {t:SetTable}{hs:List Int}
def nQ{α:Type}{xs:Array α}{p:Nat}{x y:α}(hp:p<=xs.size):y∈insertAt xs p x↔y∈xs\/y=x:=by
 rw[<-QI,cq xs p x hp,Ox,Oo,<-QI]
 have:y∈xs.toList↔y∈xs.toList.take p\/y∈xs.toList.drop p:=by
  conv=>lhs;rw[<-List.take_append_drop p xs.toList]
  exact Ox
 rw[this]
 constructor
 .rintro (a|a|a)
  .exact .inl (.inl a)
  .exact .inr a
  .exact .inl (.inr a)
 .rintro ((a|a)|a)
  .exact .inl a
  .exact .inr (.inr a)
  .exact .inr (.inl a)
def sP{xs:Array Nat}(h:kB xs){j:Nat}(hj:j∉xs):kB (insertAt xs (below xs j) j):=by
 let⟨b1,b2,b3⟩:=fo h j
 unfold kB
 rw[cq _ _ _ b1]
 have hl:∀y,y∈xs.toList.take (below xs j)->y<j:=λy hy=>by
  let⟨i,hi,e⟩:=O3.mp hy
  have hi1:i<below xs j:=by simp at hi;omega
  have hi2:i<xs.size:=by omega
  have:=b2 i hi1
  rw[O4,OF hi2]at this
  simp at e this
  omega
 have hr:∀y,y∈xs.toList.drop (below xs j)->j<y:=λy hy=>by
  let⟨i,hi,e⟩:=O3.mp hy
  have hi2:below xs j+i<xs.size:=by simp at hi;omega
  have:=b3 (below xs j+i) (by omega) hi2
  rw[O4,OF hi2]at this
  simp at e this
  rcases Pe j y with c|c
  .exact c
  .have:j=y:=by omega
   exact absurd (by rw[this,<-e];exact RA _) hj
 refine Q9.mpr ⟨List.Pairwise.sublist (List.take_sublist ..) h,List.pairwise_cons.mpr ⟨λy hy=>hr y hy,List.Pairwise.sublist (List.drop_sublist ..) h⟩,λa ha b hb=>?_⟩
 rcases Oo.mp hb with rfl|hb
 .exact hl a ha
 .exact QM (hl a ha) (hr b hb)
def w9{α:Type}(l:List α)(p:Nat)(x:α)(hp:p<=l.length)(i:Nat):(l.take p++x::l.drop p)[i]? =if i<p then l[i]? else if i=p then some x else l[i-1]?:=by
 rcases Rz i p with c|c|c
 .rw[Od c,OG (by simp;omega),List.getElem?_take_of_lt c]
 .subst c
  rw[Oe (O1 _),Od rfl,OV (by simp;omega),PL,Nat.min_eq_left hp,Nat.sub_self]
  rfl
 .rw[Oe (by omega),Oe (by omega),OV (by simp;omega),PL,Nat.min_eq_left hp]
  obtain⟨k,rfl⟩:∃k,i=p+1+k:=⟨i-(p+1),by omega⟩
  rw[show p+1+k-p=k+1 by omega,List.getElem?_cons_succ,List.getElem?_drop]
  congr 1
  omega
def Tab.put(T:Tab t hs){j:Nat}{h:Int}(hj:j∉t.place)(hm:j<=t.mask)(r:Reach t.mask (· ∈t.place) h j)(hf:(t.place.size+1)*5<t.mask*3) :
  Tab (t.put j).1 (hs.take (t.put j).2++h::hs.drop (t.put j).2)/\(t.put j).2<=hs.length:=by
 let⟨e1,e2⟩:=tX t j T.dum
 let⟨b1,b2,b3⟩:=fo T.rise j
 have hsz:(insertAt t.place (below t.place j) j).size=t.place.size+1:=by
  rw[<-Qt,cq _ _ _ b1]
  simp;omega
 have hl:below t.place j<=hs.length:=by rw[<-T.size];exact b1
 rw[e1,e2]
 refine⟨⟨T.mask,T.dum,sP T.rise hj,λy hy=>?_,?_,?_,λi y g hy hg=>?_,T.plain⟩,hl⟩
 .rcases (nQ b1).mp hy with z|z
  .exact T.le y z
  .rw[z];exact hm
 .show (insertAt t.place _ j).size=_
  rw[hsz,T.size];simp;omega
 .show (insertAt t.place _ j).size*5<t.mask*3
  rw[hsz];exact hf
 .show Reach t.mask (· ∈insertAt t.place (below t.place j) j) g y
  have hy':(t.place.toList.take (below t.place j)++j::t.place.toList.drop (below t.place j))[i]? =some y:=by
   rw[<-cq _ _ _ b1,Qf];exact hy
  rw[w9 _ _ _ (by simpa using b1)]at hy'
  rw[w9 _ _ _ hl]at hg
  have old:∀{g y},Reach t.mask (· ∈t.place) g y->Reach t.mask (· ∈insertAt t.place (below t.place j) j) g y:=λr=>r.mono λx hx=>(nQ b1).mpr (.inl hx)
  split at hy'
  .rename_i c
   rw[Od c]at hg
   exact old (T.reach i y g (by simpa using hy') hg)
  .rename_i c
   rw[Oe c]at hg
   split at hy'
   .rename_i c2
    rw[Od c2]at hg
    cases hg;cases hy'
    exact old r
   .rename_i c2
    rw[Oe c2]at hg
    exact old (T.reach (i-1) y g (by simpa using hy') hg)
end
abbrev own(o:Array (Option Nat))(j:Nat):Option Nat:=o.getD j none
theorem BV{mask:Nat}{o:Array (Option Nat)}(hsz:o.size=mask+1):∀(fuel i q:Nat) (j:Nat),i<=mask->layClean.free mask o fuel i q=some j->
  ∃n,n<10*fuel/\(gu mask n (Bf mask i q)).j=j/\(∀m,m<n->(own o (gu mask m (Bf mask i q)).j).isSome=true)/\own o j=none/\j<=mask:=by
 intro fuel
 induction fuel with
 |zero=>intro i q j _ h;unfold layClean.free at h;cases h
 |succ fuel ih=>
  intro i q j hi h
  unfold layClean.free at h
  have hr:=jQ hi
  have ind:∀k,k<=runEnd mask i-i->o.getD (i+k) (some 0)=own o (i+k):=λk hk=>by
   have:i+k<o.size:=by omega
   simp[own,Array.getD,this]
  cases hf:(List.range (runEnd mask i+1-i)).find? λk=>(o.getD (i+k) (some 0)).isNone with
  |some k=>
   rw[hf]at h
   dsimp only at h
   have hk:=List.find?_eq_some_iff_getElem.mp hf
   let⟨hn,ix,hix,eix,hbef⟩:=hk
   have ek:ix=k:=by simpa using eix
   subst ek
   have hix':ix<runEnd mask i+1-i:=by simpa using hix
   cases h
   refine⟨ix,by omega,?_,λm hm=>?_,?_,by omega⟩
   .rw[ko mask i q ix (by omega)]
   .rw[ko mask i q m (by omega)]
    have:=hbef m hm
    simp only[List.getElem_range]at this
    rw[ind m (by omega)]at this
    dsimp only
    cases e:own o (i+m)with
    |none=>rw[e]at this;simp at this
    |some _=>rfl
   .rw[ind ix (by omega)]at hn
    cases e:own o (i+ix)with
    |none=>rfl
    |some _=>rw[e]at hn;simp at hn
  |none=>
   rw[hf]at h
   dsimp only at h
   let⟨n,h1,h2,h3,h4,h5⟩:=ih _ _ j (og mask i q) h
   have hnone:=List.find?_eq_none.mp hf
   refine⟨(runEnd mask i-i+1)+n,by omega,?_,λm hm=>?_,h4,h5⟩
   .rw[lK,oQ];exact h2
   .rcases Pe m (runEnd mask i-i+1)with c|c
    .rw[ko mask i q m (by omega)]
     have:=hnone m (OI.mpr (by omega))
     rw[ind m (by omega)]at this
     dsimp only
     cases e:own o (i+m)with
     |none=>rw[e]at this;simp at this
     |some _=>rfl
    .obtain⟨k,rfl⟩:∃k,m=(runEnd mask i-i+1)+k:=⟨m-(runEnd mask i-i+1),by omega⟩
     rw[lK,oQ]
     exact h3 k (by omega)
theorem A5{mask:Nat}{o:Array (Option Nat)}(hsz:o.size=mask+1):∀(fuel i q k:Nat),i<=mask->k<fuel->own o (gQ mask k (i,q)).1=none->∃j,layClean.free mask o fuel i q=some j:=by
 intro fuel
 induction fuel with
 |zero=>intro i q k _ hk;omega
 |succ fuel ih=>
  intro i q k hi hk hn
  unfold layClean.free
  cases hf:(List.range (runEnd mask i+1-i)).find? λk=>(o.getD (i+k) (some 0)).isNone with
  |some k=>exact⟨_,rfl⟩
  |none=>
   dsimp only
   cases k with
   |zero=>
    have hr:=jQ hi
    have:=List.find?_eq_none.mp hf 0 (OI.mpr (by omega))
    have e:own o i=none:=hn
    have hi2:i<o.size:=by omega
    simp[own,Array.getD,hi2]at e this
    rw[e]at this;simp at this
   |succ k=>exact ih _ _ k (og mask i q) (by omega) hn
structure Lay(mask:Nat)(o:Array (Option Nat))(hs:List Int):Prop where
 size:o.size=mask+1
 all:∀k h,hs[k]? =some h->∃j,own o j=some k/\Reach mask (λx=>(own o x).isSome=true) h j
 one:∀j j' k,own o j=some k->own o j'=some k->j=j'
 le:∀j k,own o j=some k->j<=mask/\k<hs.length
def oH{o:Array (Option Nat)}{j x k:Nat}(hj:j<o.size):own (o.setIfInBounds j (some k)) x=if x=j then some k else own o x:=by
 unfold own
 rw[O4,O4,Array.getElem?_setIfInBounds]
 by_cases e:x=j
 .subst e;simp[hj]
 .rw[Oe e,Oe (λz=>e z.symm)]
def CI{mask:Nat}(hm:DM mask){o:Array (Option Nat)}{hs:List Int}(L:Lay mask o hs)(h:Int)(hl:hs.length<=mask) :
  ∃j,layClean.free mask o (turns mask) (bits h%(mask+1)) (bits h)=some j/\Lay mask (o.setIfInBounds j (some hs.length)) (hs++[h]):=by
 have hi:bits h%(mask+1)<=mask:=Nat.lt_succ_iff.mp (Nat.mod_lt _ (Nat.succ_pos _))
 have hfree:∃j,j<=mask/\own o j=none:=by
  refine Classical.byContradiction λhc=>?_
  have hall:∀j,j<=mask->∃k,own o j=some k:=λj hj=>by
   cases e:own o j with
   |none=>exact absurd ⟨j,hj,e⟩ hc
   |some k=>exact⟨k,rfl⟩
  have nd:((List.range (mask+1)).map λj=>(own o j).getD 0).Nodup:=by
   refine O5.mpr (Pt ?_ Qx)
   intro a b ha hb hab e
   let⟨ka,ea⟩:=hall a (by have:=OI.mp ha;omega)
   let⟨kb,eb⟩:=hall b (by have:=OI.mp hb;omega)
   rw[ea,eb]at e
   simp at e
   subst e
   exact hab (L.one a b ka ea eb)
  have:=bV nd λx hx=>by
   obtain⟨j,hj,rfl⟩:=Of.mp hx
   let⟨k,e⟩:=hall j (by have:=OI.mp hj;omega)
   rw[e]
   exact OI.mpr (L.le j k e).2
  simp at this
  omega
 let⟨j0,hj0,hn0⟩:=hfree
 let⟨k,hk,ek⟩:=qQ hm hi (z0 h) hj0
 let⟨j,hj⟩:=A5 L.size (turns mask) _ (bits h) k hi (by unfold turns;omega) (by rw[ek];exact hn0)
 refine⟨j,hj,?_⟩
 let⟨n,h1,h2,h3,h4,h5⟩:=BV L.size _ _ _ _ hi hj
 have hjs:j<o.size:=by rw[L.size];omega
 have grow:∀x,(own o x).isSome=true->(own (o.setIfInBounds j (some hs.length)) x).isSome=true:=λx hx=>by
  rw[oH hjs];split
  .rfl
  .exact hx
 refine⟨by rw[Array.size_setIfInBounds];exact L.size,λk g hg=>?_,λa b c ea eb=>?_,λa c ea=>?_⟩
 .rcases Pe k hs.length with c|c
  .rw[OG c]at hg
   let⟨x,ex,rx⟩:=L.all k g hg
   refine⟨x,?_,rx.mono grow⟩
   rw[oH hjs,Oe (λz=>?_)]
   .exact ex
   .subst z;rw[ex]at h4;cases h4
  .rw[OV c]at hg
   have:k=hs.length:=by
    have:=(Ov.mp hg).1
    simp at this;omega
   subst this
   simp at hg
   subst hg
   exact⟨j,by rw[oH hjs,Od rfl],n,h1,h2,λm hm=>grow _ (h3 m hm)⟩
 .rw[oH hjs]at ea eb
  split at ea
  .cases ea
   split at eb
   .omega
   .have:=(L.le _ _ eb).2;omega
  .split at eb
   .cases eb
    have:=(L.le _ _ ea).2;omega
   .exact L.one _ _ _ ea eb
 .rw[oH hjs]at ea
  rw[OO]
  split at ea
  .cases ea;simp;omega
  .have:=L.le _ _ ea;simp;omega
theorem Ac{mask:Nat}(hm:DM mask):∀(rest hs:List Int) (o:Array (Option Nat)),Lay mask o hs->hs.length+rest.length<=mask->
  ∃o',rest.foldl (init:=some (o,hs.length)) (λacc h=>do
   let(owner,k) <-acc
   let j <-layClean.free mask owner (turns mask) (bits h%(mask+1)) (bits h)
   pure (owner.setIfInBounds j (some k),k+1))=some (o',hs.length+rest.length)/\Lay mask o' (hs++rest)
 | [],hs,o,L,_=>⟨o,rfl,by rw[QD];exact L⟩
 |h::rest,hs,o,L,hl=>by
  simp only[ON]at hl
  obtain⟨j,e,L'⟩:=CI hm L h (by omega)
  let⟨o',e',L2⟩:=Ac hm rest (hs++[h]) _ L' (by simp;omega)
  refine⟨o',?_,by rw[P5]at L2;exact L2⟩
  rw[Qk]
  simp only[Option.bind_eq_bind,Option.bind_some,e,Option.pure_def]
  have el:(hs++[h]).length=hs.length+1:=by simp
  rw[el]at e'
  simp only[Option.bind_eq_bind,Option.pure_def]at e'
  rw[e']
  simp;omega
def AU(n j:Nat):own (Array.replicate n none) j=none:=by
 unfold own
 rw[O4,Array.getElem?_replicate]
 split<;>rfl
def GF(mask:Nat):Lay mask (Array.replicate (mask+1) none) []:=
 ⟨by simp,λk h e=>by simp at e,λj j' k e _=>by (rw[AU]at e;cases e),λj k e=>by (rw[AU]at e;cases e)⟩
def A9{mask:Nat}(hm:DM mask)(hs:Array Int)(hl:hs.size*5<mask*3)(finger moves:Nat)(led:Bool) :
  ∃t order,laid mask finger moves led true hs=some (t,order)/\t.led=led/\t.mask=mask/\order.toList.Nodup/\(∀k,k∈order.toList↔k<hs.size)/\
   Tab t (order.toList.map λk=>hs.toList.getD k 0):=by
 let⟨o,e,L⟩:=Ac hm hs.toList [] _ (GF mask) (by simp;omega)
 simp only[nil_append]at L
 have ec:layClean mask hs=some o:=by
  unfold layClean
  rw[<-Array.foldl_toList]
  simp only[List.length_nil]at e
  rw[e];rfl
 have hlive:∀j k,(j,k)∈((List.range (mask+1)).filterMap λj=>(o.getD j none).map (j, ·))↔own o j=some k:=λj k=>by
  rw[QY]
  constructor
  .rintro⟨x,_,q⟩
   cases ex:o.getD x none with
   |none=>rw[ex]at q;cases q
   |some y=>rw[ex]at q;simp at q;rw[<-q.1,<-q.2];exact ex
  .intro q
   refine⟨j,OI.mpr (by have:=(L.le j k q).1;omega),?_⟩
   have:o.getD j none=some k:=q
   rw[this];rfl
 have hpw:((List.range (mask+1)).filterMap λj=>(o.getD j none).map (j, ·)).Pairwise (λa b=>a.1<b.1):=by
  refine List.pairwise_filterMap.mpr (List.Pairwise.imp ?_ List.pairwise_lt_range)
  intro a b hab x hx y hy
  cases ea:o.getD a none with
  |none=>rw[ea]at hx;cases hx
  |some u=>
   cases eb:o.getD b none with
   |none=>rw[eb]at hy;cases hy
   |some v=>
    rw[ea]at hx;rw[eb]at hy
    simp at hx hy
    rw[<-hx,<-hy];exact hab
 generalize hlv:((List.range (mask+1)).filterMap λj=>(o.getD j none).map (j, ·))=live at hlive hpw
 refine⟨{mask,place:=(live.map (·.1)).toArray,dummies:=#[],finger,led,moves,plain:=true},(live.map (·.2)).toArray,?_,rfl,rfl,?_,λk=>?_,?_⟩
 .unfold laid
  rw[ec]
  simp only[Option.bind_eq_bind,Option.bind_some,Option.pure_def,hlv]
 .have:(live.map (·.2)).Nodup:=by
   refine O5.mpr (Pt ?_ hpw)
   intro a b ha hb hab ee
   have h1:=(hlive a.1 a.2).mp ha
   have h2:=(hlive b.1 b.2).mp hb
   rw[ee]at h1
   have:=L.one _ _ _ h1 h2
   omega
  simpa using this
 .rw[Of]
  constructor
  .rintro⟨x,hx,rfl⟩
   have:=(L.le x.1 x.2 ((hlive x.1 x.2).mp hx)).2
   simpa using this
  .intro hk
   have hk':k<hs.toList.length:=by simpa using hk
   let⟨j,ej,_⟩:=L.all k _ (N8 hk')
   exact⟨(j,k),(hlive j k).mpr ej,rfl⟩
 .have hord:live.length=hs.size:=by
   have a1:(live.map (·.2)).Nodup:=by
    refine O5.mpr (Pt ?_ hpw)
    intro a b ha hb hab ee
    have h1:=(hlive a.1 a.2).mp ha
    have h2:=(hlive b.1 b.2).mp hb
    rw[ee]at h1
    have:=L.one _ _ _ h1 h2
    omega
   have b1:=bV a1 λx hx=>by
    obtain⟨y,hy,rfl⟩:=Of.mp hx
    have:=(L.le y.1 y.2 ((hlive y.1 y.2).mp hy)).2
    exact OI.mpr (by simpa using this)
   have b2:=bV (m:=live.map (·.2)) Qx λx hx=>by
    have hk':x<hs.toList.length:=by simpa using OI.mp hx
    let⟨j,ej,_⟩:=L.all x _ (N8 hk')
    exact Of.mpr ⟨(j,x),(hlive j x).mpr ej,rfl⟩
   simp at b1 b2
   omega
  refine⟨hm,rfl,?_,λj hj=>?_,?_,?_,λi j h hi hh=>?_,rfl⟩
  .show (live.map (·.1)).toArray.toList.Pairwise _
   rw[Qb]
   exact O5.mpr hpw
  .have:j∈live.map (·.1):=by simpa using hj
   obtain⟨x,hx,rfl⟩:=Of.mp this
   exact(L.le x.1 x.2 ((hlive x.1 x.2).mp hx)).1
  .simp
  .show (live.map (·.1)).toArray.size*5<mask*3
   simp[hord];exact hl
  .have hi':(live.map (·.1))[i]? =some j:=by simpa using hi
   have hh':((live.map (·.2)).map λk=>hs.toList.getD k 0)[i]? =some h:=by simpa using hh
   rw[Om]at hi'
   rw[Om,Om]at hh'
   cases ex:live[i]? with
   |none=>rw[ex]at hi';cases hi'
   |some x=>
    rw[ex]at hi' hh'
    simp at hi' hh'
    have hxl:=(hlive x.1 x.2).mp (Oi ex)
    have hk:=(L.le _ _ hxl).2
    have hk2:x.2<hs.size:=by simpa using hk
    let⟨j2,ej2,r⟩:=L.all x.2 h (by
     rw[N8 hk]
     simp[hk2]at hh'
     simpa using hh')
    have:j2=j:=by rw[<-hi'];exact L.one _ _ _ ej2 hxl
    subst this
    refine r.mono λy hy=>?_
    cases ey:own o y with
    |none=>rw[ey]at hy;cases hy
    |some k=>
     have:y∈live.map (·.1):=Of.mpr ⟨(y,k),(hlive y k).mpr ey,rfl⟩
     simpa using this
abbrev Pr:=Int×Int
def hp(p:Pr):Int:=reduceHash (Builtin.Tuple.tupleHashOf [hashInt p.1,hashInt p.2])
def Sm(p:Pr):Prop:=(0<=p.1/\p.1<8)/\(0<=p.2/\p.2<8)
def vv:List Pr:=(List.range 64).map λk=>(((k/8:Nat):Int),((k%8:Nat):Int))
def nE{p:Pr}(h:Sm p):p∈vv:=by
 unfold vv
 let⟨⟨a,b⟩,c,d⟩:=h
 refine Of.mpr ⟨p.1.toNat*8+p.2.toNat,OI.mpr (by omega),?_⟩
 refine Prod.ext ?_ ?_<;>dsimp only<;>omega
def Eu:(vv.map hp).Nodup:=by decide +kernel
theorem nU{α β:Type}{f:α->β}:∀{l:List α},(l.map f).Nodup->∀a b,a∈l->b∈l->f a=f b->a=b
 | [],_,_,_,h,_,_=>by cases h
 |x::l,hn,a,b,ha,hb,e=>by
  have hn':=OS.mp hn
  rcases Oo.mp ha with ea|ha
  .rcases Oo.mp hb with eb|hb
   .rw[ea,eb]
   .exact absurd (Of.mpr ⟨b,hb,by rw[<-e,ea]⟩) hn'.1
  .rcases Oo.mp hb with eb|hb
   .exact absurd (Of.mpr ⟨a,ha,by rw[e,eb]⟩) hn'.1
   .exact nU hn'.2 a b ha hb e
def IF{p q:Pr}(hp1:Sm p)(hq:Sm q)(e:hp p=hp q):p=q:=nU Eu p q (nE hp1) (nE hq) e
def zy{l:List Pr}(hn:l.Nodup)(h:∀p,p∈l->Sm p):l.length<=64:=by
 have:=bV hn λx hx=>nE (h x hx)
 simpa[vv]using this
section
variable {prog:Program}{w:World}{A:Around}{E:Value->Shared->Prop}{s:Shared}
abbrev b8(prog:Program)(w:World)(h:Heap)(p:Pr)(a:Addr):Prop:=IsTupleKey (intKind prog w) h [p.1,p.2] a
def b8.inj{h:Heap}{p q:Pr}{a:Addr}(x:b8 prog w h p a)(y:b8 prog w h q a):p=q:=by
 have:=IsTupleKey.inj x y
 simp at this
 exact Prod.ext this.1 this.2
structure uR(f:Pr->Int)(prog:Program)(w:World)(led:Bool)(h:Heap)(S:Addr)(ps:List (Addr×Pr)):Prop where
 ex:∃o ep t,h.get? S=some o/\o.ExactSet/\o.data=.set (ps.map λq=>(f q.2,Value.ref q.1)).toArray ep t/\Tab t (ps.map λq=>f q.2)/\t.led=led
 at':∀q,q∈ps->b8 prog w h q.2 q.1/\Sm q.2
 nd:(ps.map (·.2)).Nodup
def rL{t:SetTable}{hs:List Int}(T:Tab t hs){n:Nat}(e:n=hs.length):t.fits n=true:=by
 unfold SetTable.fits SetTable.fill
 have:=T.load'
 simp[T.size,T.dum,e]
 rw[T.size]at this;exact this
def Dp(a:Addr)(wanted:Nat):setRelay a wanted=(do
  let(es,_,t) <-setState a
  if SetTable.sizeAbove wanted>sizeLine then unsupported "set:memory"
  let(es,t) <-(do
   let some (t,order):=t.relaid (es.map (·.1)) wanted|unsupported "internal:set-table-without-room"
   let es':=order.filterMap (es[·]?)
   if es'.size != es.size then unsupported "internal:set-table-lost-an-element"
   pure (es',t))
  storeSet a es t):=rfl
def A7(a:Addr)(x:Value)(h:Int)(fuel:Nat):setSearchFrom a x h true (fuel+1) none=(do
  let(es,_,t) <-setState a
  if t.gaveWay then unsupported "set:on-a-table-that-gave-way"
  let some met:=t.probe (λi=>(es[i]?.map (·.1)).getD 0) h (t.probeStart h)|unsupported "internal:set-table-without-an-empty-slot"
  match met with
  | .empty j dummy=>
   match dummy with
   |none=>return .free j false
   |some d=>
    if true&&t.slot d != .dummy then rule "set.search.the-dummy-was-taken";return <-setSearchFrom a x h true fuel none
    return .free d true
  | .candidate j i next=>
   if !t.led then
    if <-searchCouldBeSeen x ((es.filter (·.1==h)).toList.map (·.2))then unsupported "set:the-search-would-show-the-table"
   let some (_,y):=es[i]?|unsupported "internal:set-entry"
   let equal <-holding [y] (eqBool y x)
   let(es',_,t') <-setState a
   if true&&equal then return .there none
   let some same:=t'.sameMemory t.moves t.mask|unsupported "set.changed-during-lookup:is-the-new-block-at-the-old-address"
   let still <-match(if same then t'.slot j else .empty)with
    | .live i'=>match es'[i']? with
     |some (_,y')=>do pure (if <-isSame y' y then some i' else none)
     |none=>pure none
    |_=>pure none
   match still with
   |none=>rule "set.search.anew";setSearchFrom a x h true fuel none
   |some i'=>if equal then return .there (some i')else setSearchFrom a x h true fuel (some next)):=rfl
theorem xE(n:Nat){v:Value}(h:carriedByValue v=true):ofAClassStatement n v=pure false:=by
 cases v with
 |ref a=>simp[carriedByValue]at h
 |_=>first|rfl|(unfold ofAClassStatement;rfl)
def yo(n:Nat){v:Value}{k:Int}(h:(intKind prog w).is k v=true):hashByValue n v=pure true:=by
 obtain⟨t,rfl⟩:=Qn h
 cases n<;>rfl
def oA{p:Pr}{a:Addr}{Q:Bool->Shared->Prop}(hk:b8 prog w s.heap p a)(h:Q false s):wpAny (model prog w) A (ofAClassStatement 8 (.ref a)) Q E s:=by
 have hT:=hk.typeIs
 let⟨o,items,n,ho,hc,hd,hi⟩:=hk
 unfold ofAClassStatement
 refine N7 (QO hT ?_)
 dsimp only
 rw[Od (by decide)]
 refine N7 (N9 ?_)
 simp only[QG,Ow,OY]
 refine N7 (wpAny_seqItems ho hd ?_)
 dsimp only
 refine N7 ?_
 rw[<-Array.forIn_toList]
 refine Ra _ (λrest r s'=>r.1=none/\s'=s/\∀v∈rest,carriedByValue v=true) _ ?_ ?_ _ _ ⟨rfl,rfl,hi.byValue⟩
 .rintro v rest r s' ⟨hr,rfl,hall⟩
  rw[xE _ (hall v Ol)]
  refine N7 (N9 ?_)
  simp only[Ow,OY]
  exact N9 ⟨rfl,rfl,λu hu'=>hall u (Og _ hu')⟩
 .rintro⟨r1,r2⟩ s' ⟨hr,rfl,_⟩
  simp only at hr
  subst hr
  exact N9 h
def xC{p:Pr}{a:Addr}{Q:Bool->Shared->Prop}(hk:b8 prog w s.heap p a)(h:Q true s):wpAny (model prog w) A (hashByValue 8 (.ref a)) Q E s:=by
 have hT:=hk.typeIs
 let⟨o,items,n,ho,hc,hd,hi⟩:=hk
 unfold hashByValue
 refine N7 (P8 hT F.slot_tuple_hash.lookup ?_)
 dsimp only
 refine N7 (wpAny_seqItems ho hd ?_)
 simp only[Option.getD_some]
 refine N7 ?_
 rw[<-Array.forIn_toList]
 refine Ra _ (λrest r s'=>r.1=none/\s'=s/\∀v∈rest,∃k,(intKind prog w).is k v=true) _ ?_ ?_ _ _ ⟨rfl,rfl,λv hv=>?_⟩
 .rintro v rest r s' ⟨hr,rfl,hall⟩
  let⟨k,hk⟩:=hall v Ol
  rw[yo _ hk]
  refine N7 (N9 ?_)
  simp only[QG,Ow,OY]
  exact N9 ⟨rfl,rfl,λu hu'=>hall u (Og _ hu')⟩
 .rintro⟨r1,r2⟩ s' ⟨hr,rfl,_⟩
  simp only at hr
  subst hr
  exact N9 h
 .generalize items.toList=l at *
  cases hi with
  |cons h1 hi=>
   cases hi with
   |cons h2 hi=>
    cases hi
    rcases Oo.mp hv with rfl|hv
    .exact⟨_,h1⟩
    .rcases Oo.mp hv with rfl|hv
     .exact⟨_,h2⟩
     .cases hv
def yy{p:Pr}{a:Addr}(hk:b8 prog w s.heap p a):∀(l:List Value) {Q:Bool->Shared->Prop},(∀v∈l,∃q b,v=.ref b/\b8 prog w s.heap q b)->Q false s->wpAny (model prog w) A (searchCouldBeSeen (.ref a) l) Q E s:=by
 intro l Q hl h
 unfold searchCouldBeSeen
 refine N7 (Ra _ (λrest r s'=>r.1=none/\s'=s/\∀v∈rest,∃q b,v=.ref b/\b8 prog w s.heap q b) _ ?_ ?_ _ _ ⟨rfl,rfl,hl⟩)
 .rintro v rest r s' ⟨hr,rfl,hall⟩
  obtain⟨q,b,rfl,hb⟩:=hall v Ol
  have hrest:=λu hu'=>hall u (Og _ hu')
  dsimp only
  split
  .exact N9 ⟨rfl,rfl,hrest⟩
  .refine N7 (wpAny_eqIsQuiet_tuple hk ?_)
   simp only[QG,Ow,OY]
   refine N7 (wpAny_eqIsQuiet_tuple hb ?_)
   simp only[QG,Ow,OY]
   refine N7 (oA hk ?_)
   simp only[Ow,OY]
   refine N7 (oA hb ?_)
   simp only[Ow,OY]
   exact N9 ⟨rfl,rfl,hrest⟩
 .rintro⟨r1,r2⟩ s' ⟨hr,rfl,_⟩
  simp only at hr
  subst hr
  exact N9 h
end
section
variable {prog:Program}{w:World}{A:Around}{E:Value->Shared->Prop}{s:Shared}
def wI(t:SetTable)(hs:Array Int)(wanted:Nat)(hp:t.plain=true):t.relaid hs wanted=laid (sizeAbove wanted-1) t.finger (t.movedTo (sizeAbove wanted-1)) t.led true hs:=by
 unfold relaid;rw[hp]
def HK:sizeAbove (grown 5)=32/\sizeAbove (grown 19)=128:=by decide +kernel
theorem filterMap_get{α:Type}(es:Array α):∀(order:List Nat),(∀k,k∈order->k<es.size)->∃l:List α,order.filterMap (λi=>es[i]?)=l/\l.length=order.length/\(∀(i k:Nat),order[i]? =some k->l[i]? =es[k]?)/\∀x,x∈l->∃k,k∈order/\es[k]? =some x
 | [],_=>⟨[],rfl,rfl,λi k h=>by simp at h,λx hx=>by cases hx⟩
 |k::r,h=>by
  obtain⟨l,e1,e2,e3,e4⟩:=filterMap_get es r λx hx=>h x (Og _ hx)
  have hk:=h k (Ol ..)
  refine⟨es[k]::l,by rw[Qs,OF hk,e1],by simp[e2],λi x hi=>?_,λx hx=>?_⟩
  .cases i with
   |zero=>simp at hi;subst hi;simp[hk]
   |succ i=>simp at hi;simpa using e3 i x hi
  .rcases Oo.mp hx with rfl|hx
   .exact⟨k,Ol ..,by simp[hk]⟩
   .let⟨y,hy,q⟩:=e4 x hx
    exact⟨y,Og _ hy,q⟩
abbrev fG(f:Pr->Int)(q:Addr×Pr):Int×Value:=(f q.2,Value.ref q.1)
def vQ(f:Pr->Int){mask:Nat}(hm:DM mask){ps:List (Addr×Pr)}(hl:ps.length*5<mask*3)(finger moves:Nat)(led:Bool) :
  ∃(t:SetTable) (order:Array Nat) (ps':List (Addr×Pr)),laid mask finger moves led true ((ps.map (fG f)).toArray.map (·.1))=some (t,order)/\order.filterMap (λi=>(ps.map (fG f)).toArray[i]?)=(ps'.map (fG f)).toArray/\ps'.length=ps.length/\
   (∀q,q∈ps'↔q∈ps)/\Tab t (ps'.map λq=>f q.2)/\t.led=led:=by
 let⟨t,order,e,el,em,nd,mem,T⟩:=A9 hm ((ps.map (fG f)).toArray.map (·.1)) (by simpa using hl) finger moves led
 have hsz:((ps.map (fG f)).toArray.map (·.1)).size=ps.length:=by simp
 let⟨ps',f1,f2,f3,f4⟩:=filterMap_get ps.toArray order.toList λk hk=>by
  have:=(mem k).mp hk;rw[hsz]at this;simpa using this
 have hlen:order.toList.length=ps.length:=by
  have a1:=bV nd λx hx=>OI.mpr (by have:=(mem x).mp hx;rwa [hsz]at this)
  have a2:=bV Qx λx hx=>(mem x).mpr (by rw[hsz];exact OI.mp hx)
  simp at a1 a2 ⊢;omega
 refine⟨t,order,ps',e,?_,by omega,λq=>⟨λhq=>?_,λhq=>?_⟩,?_,el⟩
 .apply Array.toList_inj.mp
  rw[Array.toList_filterMap,<-f1]
  simp only[Qb]
  rw[List.map_filterMap]
  congr 1
  funext i
  simp
 .let⟨k,_,q2⟩:=f4 q hq
  rw[List.getElem?_toArray]at q2
  exact Oi q2
 .let⟨k,hk,q2⟩:=O3.mp hq
  have hko:k∈order.toList:=(mem k).mpr (by rw[hsz];exact hk)
  let⟨i,hi,e2⟩:=O3.mp hko
  have:=f3 i k (by rw[N8 hi,e2])
  rw[List.getElem?_toArray,N8 hk,q2]at this
  exact Oi this
 .have:(order.toList.map λk=>((ps.map (fG f)).toArray.map (·.1)).toList.getD k 0)=ps'.map λq=>f q.2:=by
   apply Qo
   intro i
   rw[Om,Om]
   cases hi:order.toList[i]? with
   |none=>
    have:ps'[i]? =none:=List.getElem?_eq_none_iff.mpr (by rw[f2];exact List.getElem?_eq_none_iff.mp hi)
    rw[this];rfl
   |some k=>
    have hk:k<ps.length:=by have:=(mem k).mp (Oi hi);rwa [hsz]at this
    have:=f3 i k hi
    rw[List.getElem?_toArray,N8 hk]at this
    rw[this]
    simp[hk]
  rw[<-this];exact T
theorem pG:∀{l m:List Int},m.Nodup->(∀x,x∈m->x∈l)->l.length<=m.length->l.Nodup
 | [],_,_,_,_=>Qy
 |a::l,m,hn,hs,hl=>by
  by_cases ha:a∈m
  ·have hnot:a∉l:=λz=>by
    have:=bV hn λx hx=>by
     rcases Oo.mp (hs x hx)with e|e
     .rw[e];exact z
     .exact e
    simp only[ON]at hl;omega
   refine OS.mpr ⟨hnot,pG (hn.erase a) (λx hx=>?_) ?_⟩
   .have:=(hn.mem_erase_iff).mp hx
    rcases Oo.mp (hs x this.2)with e|e
    .exact absurd e this.1
    .exact e
   .rw[QN ha];simp only[ON]at hl;omega
  .have:=bV hn λx hx=>by
    rcases Oo.mp (hs x hx)with e|e
    .exact absurd (e▸hx) ha
    .exact e
   simp only[ON]at hl;omega
def vD(a:Addr)(es:Array (Int×Value)):byScan (.ref a) es=false:=by unfold byScan Value.scannable;simp
def y2{t:SetTable}(h:DM t.mask):t.gaveWay=false:=by
 unfold SetTable.gaveWay
 rcases h with e|e|e<;>rw[e]<;>decide
def uR.add{f:Pr->Int}(hinj:∀p q,Sm p->Sm q->f p=f q->p=q){led:Bool}{S a:Addr}{ps:List (Addr×Pr)}{p:Pr}{Q:Bool->Shared->Prop}(P:uR f prog w led s.heap S ps)(hk:b8 prog w s.heap p a)(hs:Sm p)(hu:A.units<cLine)
  (h:∀(b:Bool) (h':Heap) (ps':List (Addr×Pr)),Heap.SameBut S s.heap h'->uR f prog w led h' S ps'->(∀q,q∈ps'->q∈ps\/q=(a,p))->(∀q,q∈ps->q∈ps')->(∃q,q∈ps'/\q.2=p)->Q b {s with heap:=h'}) :
  wpAny (model prog w) A (setAddHashed S (.ref a) (f p)) Q E s:=by
 let⟨o,ep,t,ho,hex,hd,T,hled⟩:=P.ex
 have hfit:t.fits (ps.map (fG f)).toArray.size=true:=rL T (by simp)
 have ha:∀i,i<(ps.map λq=>f q.2).length->some ((((ps.map (fG f)).toArray)[i]?.map (·.1)).getD 0)=(ps.map λq=>f q.2)[i]?:=λi hi=>by
  have hi':i<ps.length:=by simpa using hi
  simp[hi']
 unfold setAddHashed
 refine O0 ?_
 unfold setAddHashedIn
 refine N7 (Pl ho hd hfit ?_)
 dsimp only
 rw[vD]
 simp only[Ow,OY]
 unfold setSearch
 rw[A7]
 refine N7 (N7 (Pl ho hd hfit ?_))
 dsimp only
 rw[y2 T.mask]
 simp only[Ow,OY]
 by_cases hm:f p∈ps.map λq=>f q.2
 .
  let⟨j,i,nx,e1,e2,e3,e4⟩:=T.present ha hm
  rw[e1]
  dsimp only
  have hi:i<ps.length:=by simpa using e3
  have e5:f (ps[i].2)=f p:=by
   rw[Om,N8 hi]at e4
   simpa using e4
  have hq:=P.at' ps[i] (Pz hi)
  have e6:ps[i].2=p:=hinj _ _ hq.2 hs e5
  have hget:((ps.map (fG f)).toArray)[i]? =some (f ps[i].2,.ref ps[i].1):=by simp[hi]
  have rest:wpAny (model prog w) A (do
    let some (_,y):=((ps.map (fG f)).toArray)[i]?|unsupported "internal:set-entry"
    let equal <-holding [y] (eqBool y (.ref a))
    let(es',_,t') <-setState S
    if true&&equal then return SetFound.there none
    let some same:=t'.sameMemory t.moves t.mask|unsupported "set.changed-during-lookup:is-the-new-block-at-the-old-address"
    let still <-match(if same then t'.slot j else .empty)with
     | .live i'=>match es'[i']? with
      |some (_,y')=>do pure (if <-isSame y' y then some i' else none)
      |none=>pure none
     |_=>pure none
    match still with
    |none=>rule "set.search.anew";setSearchFrom S (.ref a) (f p) true 99999 none
    |some i'=>if equal then return .there (some i')else setSearchFrom S (.ref a) (f p) true 99999 (some nx))
    (λr s'=>s'=s/\r=.there none) E s:=by
   rw[hget]
   dsimp only
   refine N7 (O0 (wpAny_eqBool_tuple hu hq.1 hk ?_))
   rw[Ot (by rw[e6])]
   refine N7 (Pl ho hd hfit ?_)
   dsimp only
   simp only[Qd,O9]
   exact N9 ⟨rfl,rfl⟩
  have fin:∀r s',s'=s/\r=SetFound.there none->wpAny (model prog w) A (match r with
    | .free slot wasDummy=>(do
     let(es,_,t) <-setState S
     let(t,p'):=t.put slot
     let byValue <-if t.plain then hashByValue 8 (.ref a)else pure true
     let t:=if byValue then t else{t with plain:=false}
     storeSet S (SetTable.insertAt es p' (f p,.ref a)) t
     if !wasDummy&&t.tooFull then setRelay S (SetTable.grown (es.size+1))
     return true)
    |_=>pure false) Q E s':=by
   rintro r s' ⟨rfl,rfl⟩
   exact N9 (h false s'.heap ps (Heap.SameBut.refl ..) P (λq hq=>.inl hq) (λq hq=>hq) ⟨ps[i],Pz hi,e6⟩)
  cases hl:led with
  |true=>
   rw[hled,hl]
   simp only[QG,Ow,OY]
   exact PK rest (λr s' hr=>fin r s' hr) λ_ _ x=>x
  |false=>
   rw[hled,hl]
   simp only[Bool.not_false,O9]
   refine N7 (yy hk _ (λv hv=>?_) ?_)
   .obtain⟨x,hx,rfl⟩:=Of.mp hv
    have hx':x∈(ps.map (fG f)).toArray:=(Array.mem_filter.mp (QI.mp hx)).1
    have hx2:x∈ps.map (fG f):=by simpa using hx'
    obtain⟨q,hq,rfl⟩:=Of.mp hx2
    exact⟨q.2,q.1,rfl,(P.at' q hq).1⟩
   .simp only[Ow,OY]
    exact PK rest (λr s' hr=>fin r s' hr) λ_ _ x=>x
 .
  let⟨j,e1,e2,e3,e4⟩:=T.absent ha hm
  rw[e1]
  dsimp only
  refine N9 ?_
  dsimp only
  refine N7 (Pl ho hd hfit ?_)
  dsimp only
  let⟨q1,q2⟩:=tX t j T.dum
  have hpl:(t.put j).1.plain=true:=by rw[q1];exact T.plain
  rw[hpl]
  simp only[O9]
  refine N7 (xC hk ?_)
  simp only[O9]
  have hb:(t.put j).2<=ps.length:=by
   rw[q2]
   have:=(fo T.rise j).1
   rw[T.size]at this;simpa using this
  have hins:insertAt (ps.map (fG f)).toArray (t.put j).2 (f p,Value.ref a)=((ps.take (t.put j).2++(a,p)::ps.drop (t.put j).2).map (fG f)).toArray:=by
   apply Array.toList_inj.mp
   rw[cq _ _ _ (by simpa using hb)]
   simp[List.map_take,List.map_drop]
  rw[hins]
  generalize hps':ps.take (t.put j).2++(a,p)::ps.drop (t.put j).2=ps1
  have mem1:∀q,q∈ps1↔q∈ps\/q=(a,p):=λq=>by
   rw[<-hps',Ox,Oo]
   conv=>rhs;rw[<-List.take_append_drop (t.put j).2 ps,Ox]
   constructor
   .rintro (z|z|z)
    .exact .inl (.inl z)
    .exact .inr z
    .exact .inl (.inr z)
   .rintro ((z|z)|z)
    .exact .inl z
    .exact .inr (.inr z)
    .exact .inr (.inl z)
  have len1:ps1.length=ps.length+1:=by rw[<-hps'];simp;omega
  have nd1:(ps1.map (·.2)).Nodup:=by
   have hnot:p∉ps.map (·.2):=λz=>by
    let⟨q,hq,e⟩:=Of.mp z
    exact hm (Of.mpr ⟨q,hq,by rw[e]⟩)
   have perm:(ps1.map (·.2)).Perm (p::ps.map (·.2)):=by
    rw[<-hps']
    have:(ps.take (t.put j).2++(a,p)::ps.drop (t.put j).2).Perm ((a,p)::ps):=by
     refine List.perm_middle.trans ?_
     rw[List.take_append_drop]
    exact this.map (·.2)
   exact perm.nodup_iff.mpr (OS.mpr ⟨hnot,P.nd⟩)
  have ne:∀b q,b8 prog w s.heap q b->b≠S:=λb q ⟨o',_,_,ho',_,hd',_⟩ e=>by
   subst e
   rw[ho]at ho';cases ho'
   rw[hd]at hd';cases hd'
  have at1:∀{h':Heap},Heap.SameBut S s.heap h'->∀q,q∈ps1->b8 prog w h' q.2 q.1/\Sm q.2:=λ{h'} hsb q hq=>by
   have key:∀{b:Addr} {q:Pr},b8 prog w s.heap q b->b8 prog w h' q b:=λ{b q} hb=>by
    have hne:=ne b q hb
    let⟨o',i',n',ho',r'⟩:=hb
    exact⟨o',i',n',(hsb.2 b hne).trans ho',r'⟩
   rcases(mem1 q).mp hq with z|z
   .exact⟨key (P.at' q z).1,(P.at' q z).2⟩
   .subst z;exact⟨key hk,hs⟩
  have hlen64:ps1.length<=64:=by
   have:=zy nd1 λx hx=>by
    obtain⟨q,hq,rfl⟩:=Of.mp hx
    exact(at1 (Heap.SameBut.refl ..) q hq).2
   simpa using this
  have hsize:((ps1.map (fG f)).toArray).size<=sizeLine:=by rw[OU];simp;omega
  refine N7 (wpAny_storeSet_of ho hd ?_ hsize)
  have ho1:(s.heap.update S (Obj.putSet (ps1.map (fG f)).toArray (t.put j).1)).get? S=some {o with data:=.set (ps1.map (fG f)).toArray (ep+1) (t.put j).1}:=by
   have:=OQ (Obj.putSet (ps1.map (fG f)).toArray (t.put j).1) ho (by rw[putSet_of _ _ hd];rfl)
   rw[putSet_of _ _ hd]at this;exact this
  have sb1:=Heap.SameBut.update s.heap S (Obj.putSet (ps1.map (fG f)).toArray (t.put j).1)
  have hex1:({o with data:=.set (ps1.map (fG f)).toArray (ep+1) (t.put j).1}:Obj).ExactSet:=hex
  have psz:(t.put j).1.place.size=ps.length+1:=by
   rw[q1]
   rw[<-Qt,cq _ _ _ (fo T.rise j).1]
   have:=T.size
   simp at this ⊢
   have:=(fo T.rise j).1
   omega
  have dum1:(t.put j).1.dummies=#[]:=by rw[q1];exact T.dum
  have mask1:(t.put j).1.mask=t.mask:=by rw[q1]
  have tsz:t.place.size=ps.length:=by simpa using T.size
  simp only[Bool.not_false,Bool.true_and]
  cases htf:(t.put j).1.tooFull with
  |false=>
   simp only[Ow,OY]
   have hload:(t.place.size+1)*5<t.mask*3:=by
    unfold SetTable.tooFull SetTable.fill at htf
    rw[psz,dum1,mask1]at htf
    simp at htf
    rw[tsz];exact htf
   let⟨T1,_⟩:=T.put e2 e3 e4 hload
   refine N7 (N9 (N9 (h true _ ps1 sb1 ⟨⟨_,ep+1,_,ho1,hex1,rfl,?_,?_⟩,at1 sb1,nd1⟩ (λq hq=>(mem1 q).mp hq) (λq hq=>(mem1 q).mpr (.inl hq)) ⟨(a,p),(mem1 _).mpr (.inr rfl),rfl⟩)))
   .rw[<-hps']
    simpa[List.map_take,List.map_drop]using T1
   .rw[q1];exact hled
  |true=>
   simp only[O9]
   have hfull:t.mask*3<=(ps.length+1)*5:=by
    unfold SetTable.tooFull SetTable.fill at htf
    rw[psz,dum1,mask1]at htf
    simpa using htf
   have hload:=T.load
   rw[tsz]at hload
   have hcase:∃mask',DM mask'/\sizeAbove (grown (ps.length+1))-1=mask'/\sizeAbove (grown (ps.length+1))<=sizeLine/\(ps.length+1)*5<mask'*3:=by
    rcases T.mask with e|e|e
    .have:ps.length+1=5:=by rw[e]at hfull hload;omega
     rw[this,HK.1]
     exact⟨31,.inr (.inl rfl),rfl,by rw[OU];decide,by decide⟩
    .have:ps.length+1=19:=by rw[e]at hfull hload;omega
     rw[this,HK.2]
     exact⟨127,.inr (.inr rfl),rfl,by rw[OU];decide,by decide⟩
    .rw[e]at hfull;omega
   let⟨mask',hm3,em,hline,hl2⟩:=hcase
   have hes:(ps.map (fG f)).toArray.size+1=ps.length+1:=by simp
   rw[hes,Dp]
   have hfit1:(t.put j).1.fits ((ps1.map (fG f)).toArray).size=true:=by
    unfold SetTable.fits SetTable.fill
    have hpl2:ps.length+1<=t.mask:=by
     rcases T.mask with e|e|e<;>rw[e]at hload ⊢ <;> omega
    rw[psz,dum1,mask1]
    simp[len1,hpl2]
   refine N7 (N7 (Pl ho1 rfl hfit1 ?_))
   dsimp only
   rw[Oe (by omega)]
   rw[wI _ _ _ hpl,em]
   obtain⟨t2,order,ps2,g1,g2,g3,g4,g5,g6⟩:=vQ f hm3 (by rw[len1];exact hl2) (t.put j).1.finger ((t.put j).1.movedTo mask') (t.put j).1.led
   rw[g1]
   simp only[bind_pure_comp,pure_bind]
   rw[g2]
   have hne:((ps2.map (fG f)).toArray.size != (ps1.map (fG f)).toArray.size)=false:=by simp[g3]
   rw[hne]
   simp only[Ow,OY]
   have hsize2:((ps2.map (fG f)).toArray).size<=sizeLine:=by rw[OU];simp;omega
   refine N7 (N9 (wpAny_storeSet_of ho1 rfl ?_ hsize2))
   have ho2:((s.heap.update S (Obj.putSet (ps1.map (fG f)).toArray (t.put j).1)).update S (Obj.putSet (ps2.map (fG f)).toArray t2)).get? S=some {o with data:=.set (ps2.map (fG f)).toArray (ep+1+1) t2}:=by
    have:=OQ (Obj.putSet (ps2.map (fG f)).toArray t2) ho1 (by rw[putSet_of _ _ rfl];rfl)
    rw[putSet_of _ _ rfl]at this;exact this
   have sb2:=sb1.trans (Heap.SameBut.update _ S (Obj.putSet (ps2.map (fG f)).toArray t2))
   have nd2:(ps2.map (·.2)).Nodup:=by
    have hmem:∀q,q∈ps2.map (·.2)↔q∈ps1.map (·.2):=λq=>by
     rw[Of,Of]
     exact⟨λ⟨x,hx,e⟩=>⟨x,(g4 x).mp hx,e⟩,λ⟨x,hx,e⟩=>⟨x,(g4 x).mpr hx,e⟩⟩
    have hnd:(ps2.map λq=>f q.2).Nodup:=by
     refine pG (m:=ps1.map λq=>f q.2) ?_ (λx hx=>?_) (by simp[g3])
     .have:(ps1.map λq=>f q.2)=(ps1.map (·.2)).map f:=by simp
      rw[this]
      refine O5.mpr (Pt ?_ nd1)
      intro x y hx hy hxy e
      obtain⟨q,hq,rfl⟩:=Of.mp hx
      obtain⟨r,hr,rfl⟩:=Of.mp hy
      exact hxy (hinj _ _ (at1 sb1 q hq).2 (at1 sb1 r hr).2 e)
     .obtain⟨q,hq,rfl⟩:=Of.mp hx
      exact Of.mpr ⟨q,(g4 q).mpr hq,rfl⟩
    have:(ps2.map λq=>f q.2)=(ps2.map (·.2)).map f:=by simp
    rw[this]at hnd
    exact(O5.mp hnd).imp λhxy e=>hxy (by rw[e])
   refine N9 (h true _ ps2 sb2 ⟨⟨_,ep+1+1,t2,ho2,hex,rfl,g5,?_⟩,λq hq=>at1 sb2 q ((g4 q).mp hq),nd2⟩ (λq hq=>(mem1 q).mp ((g4 q).mp hq)) (λq hq=>(g4 q).mpr ((mem1 q).mpr (.inl hq))) ⟨(a,p),(g4 _).mpr ((mem1 _).mpr (.inr rfl)),rfl⟩)
   rw[g6,q1];exact hled
end
def kz(w:World):Bool:= !(w.params.followText "set-order")
def Cj(prog:Program)(w:World)(p:Pr):Int:=tupleKeyHash (intKind prog w) [p.1,p.2]
def FP(prog:Program)(w:World):∀p q,Sm p->Sm q->Cj prog w p=Cj prog w q->p=q:=λp q h1 h2 e=>IF h1 h2 e
section
variable {prog:Program}{w:World}{A:Around}{E:Value->Shared->Prop}{s:Shared}{R:Result->Shared->Prop}{I:Addr}{fp wr:List Addr}{n:Nat}{P:Nat->Value->Prop}{St:Nat->Heap->Prop}
def eQ(prog:Program)(w:World)(h:Heap)(vs:List Value)(ps:List Pr):Prop:=vs.length=ps.length/\∀(i:Nat) (v:Value) (p:Pr),vs[i]? =some v->ps[i]? =some p->∃a,v=.ref a/\b8 prog w h p a/\Sm p
abbrev qi(prog:Program)(w:World)(h:Heap)(S:Addr)(vs:List Value)(ps:List Pr)(k:Nat):Prop:=∃qs:List (Addr×Pr),uR (Cj prog w) prog w (kz w) h S qs/\
 (∀q,q∈qs->Value.ref q.1∈vs.take k/\q.2∈ps.take k)/\∀p,p∈ps.take k->p∈qs.map (·.2)
theorem ou(W:Walks prog w A.in1 I fp wr n P St)(S:Addr)(hSf:S∉fp){vs:List Value}{ps:List Pr}(hn:vs.length=n)(hP:∀i v,P i v->vs[i]? =some v)(hu:A.in1.units<cLine)(h₀:Heap)
  (hps:eQ prog w h₀ vs ps) (hwr:∀b o,b∈S::wr->h₀.get? b=some o->False):∀(k i:Nat) (s:Shared),n-i=k->i<=n->St i s.heap->(∀b o,h₀.get? b=some o->s.heap.get? b=some o)->qi prog w s.heap S vs ps i->
   (∀h' tk,(∀b o,b∉S::wr->s.heap.get? b=some o->h'.get? b=some o)->qi prog w h' S vs ps n->R (.ok (.ret .none)) {s with heap:=h',toks:=tk})->
   codeAny (model prog w) A (.builtin "set.update.loop" ⟨[.ref S,.ref I],[]⟩) R s:=by
 have nw:S∉wr:=λh=>hSf (W.sub _ h)
 intro k
 induction k with
 |zero=>
  intro i s hk hi hst hk0 hF hR
  obtain rfl:i=n:=by omega
  refine P9 PyProof.Rows.F.entry_set_update_loop ?_
  rw[PM QA _]
  refine N7 (W.done s _ _ hst λh' tk hm=>?_)
  refine N9 (hR h' tk (λb o hb e=>hm b o (λz=>hb (Og _ z)) e) ?_)
  let⟨qs,Q1,Q2,Q3⟩:=hF
  let⟨o,ep,t,ho,r⟩:=Q1.ex
  refine⟨qs,⟨⟨o,ep,t,hm S o nw ho,r⟩,λq hq=>⟨?_,(Q1.at' q hq).2⟩,Q1.nd⟩,Q2,Q3⟩
  let⟨m,hm1,hm2⟩:=O3.mp (Rb (Q2 q hq).1)
  have hm1':m<ps.length:=by rw[<-hps.1];exact hm1
  let⟨a,ea,ha,_⟩:=hps.2 m vs[m] ps[m] (N8 hm1) (N8 hm1')
  rw[hm2]at ea
  cases ea
  let⟨o',it',n',ho',r'⟩:=(Q1.at' q hq).1
  let⟨o2,it2,n2,ho2,r2⟩:=ha
  have:o'=o2:=Option.some.inj (ho'.symm.trans (hk0 _ _ ho2))
  subst this
  exact⟨o',it',n',hm _ _ (λz=>hwr _ _ (Og _ z) ho2) ho',r'⟩
 |succ k ih=>
  intro i s hk hi hst hk0 hF hR
  have hlt:i<n:=by omega
  refine P9 PyProof.Rows.F.entry_set_update_loop ?_
  rw[PM QA _]
  refine N7 (W.item i s _ _ hlt hst λv h1 tk1 hv hst1 hm=>?_)
  have hvi:=hP i v hv
  have hip:i<ps.length:=by rw[<-hps.1,hn];exact hlt
  obtain⟨a,rfl,ha,hsm⟩:=hps.2 i v ps[i] hvi (N8 hip)
  have k1:∀b o,h₀.get? b=some o->h1.get? b=some o:=λb o e=>hm b o (λz=>hwr b o (Og _ z) e) (hk0 b o e)
  let⟨qs,Q1,Q2,Q3⟩:=hF
  have old:∀{q:Addr×Pr} {h:Heap},q∈qs->(∀b o,h₀.get? b=some o->h.get? b=some o)->b8 prog w h q.2 q.1:=λ{q h} hq kk=>by
   let⟨m,hm1,hm2⟩:=O3.mp (Rb (Q2 q hq).1)
   have hm1':m<ps.length:=by rw[<-hps.1];exact hm1
   let⟨a,ea,ha,_⟩:=hps.2 m vs[m] ps[m] (N8 hm1) (N8 hm1')
   rw[hm2]at ea
   cases ea
   let⟨o',it',n',ho',r'⟩:=(Q1.at' q hq).1
   let⟨o2,it2,n2,ho2,r2⟩:=ha
   have:o'=o2:=Option.some.inj (ho'.symm.trans (hk0 _ _ ho2))
   subst this
   exact⟨o',it',n',kk _ _ ho2,r'⟩
  have P1:uR (Cj prog w) prog w (kz w) h1 S qs:=by
   let⟨o,ep,t,ho,r⟩:=Q1.ex
   exact⟨⟨o,ep,t,hm S o nw ho,r⟩,λq hq=>⟨old hq k1,(Q1.at' q hq).2⟩,Q1.nd⟩
  have ha1:b8 prog w h1 ps[i] a:=by
   let⟨o',it',n',ho',r'⟩:=ha
   exact⟨o',it',n',k1 _ _ ho',r'⟩
  refine N7 (O0 ?_)
  unfold setAdd
  refine O0 (N7 (wpAny_pyHash_tuple hu ha1 (uR.add (FP prog w) P1 ha1 hsm hu λb h2 qs' sb P2 m1 m2 m3=>?_)))
  have sbS:∀b o,h₀.get? b=some o->h2.get? b=some o:=λb o e=>(sb.2 b (λz=>hwr b o (by rw[z];exact Ol) e)).trans (k1 b o e)
  refine N9 ⟨QX QA _,ih (i+1) _ (by omega) hlt (W.frame _ _ _ hst1 λb hb o e=>?_) sbS ⟨qs',P2,λq hq=>?_,λp hp=>?_⟩ λh' tk hm' F'=>?_⟩
  .rw[sb.2 b λz=>hSf (by rw[<-z];exact hb)];exact e
  .have htk:∀{α:Type} {l:List α} {x:α},x∈l.take i->x∈l.take (i+1):=λ{α l x} hx=>by
    rw[Pu];exact O7 _ hx
   rcases m1 q hq with z|z
   .exact⟨htk (Q2 q z).1,htk (Q2 q z).2⟩
   .subst z
    refine⟨?_,?_⟩
    .rw[Pu,hvi];exact OR _ (by simp)
    .rw[Pu,N8 hip];exact OR _ (by simp)
  .rw[Pu,N8 hip]at hp
   rcases Ox.mp hp with z|z
   .obtain⟨q,hq,rfl⟩:=Of.mp (Q3 p z)
    exact Of.mpr ⟨q,m2 q hq,rfl⟩
   .have:p=ps[i]:=by simpa using z
    let⟨q,hq,e⟩:=m3
    exact Of.mpr ⟨q,hq,by rw[e,this]⟩
  .refine hR h' tk (λb o hb e=>hm' b o hb ?_) F'
   rw[sb.2 b λz=>hb (by rw[z];exact Ol)]
   exact hm b o (λz=>hb (Og _ z)) e
def xD(a:Value){Q1:Value->Shared->Prop}
  (h:Q1 (.ref s.heap.objs.size) {s with heap:=s.heap.push {cls:=.type "set",dict:=none,data:=.set #[] 0 (.fresh 0 0 (kz w))}}) :
  codeAny (model prog w) A (.call (.builtin "set.__new__") ⟨[.type "set",a],[]⟩) (wants Q1 E) s:=by
 refine codeAny_of_tree ?_
 show wpAny _ A.in1 (do (checkBuiltinCall "set.__new__" ⟨[.type "set",a],[]⟩);again (.builtin "set.__new__" ⟨[.type "set",a],[]⟩)) _ _ s
 refine N7 (wpAny_of_eq (F.newCall_set_1 a) (N9 ⟨QX F.plain_set_new _,P9 F.entry_set_new ?_⟩))
 rw[PM F.plain_set_new _]
 (unfold Builtin.«set.__new__» Builtin.Frozenset.newClass)
 have hsub0:=sub_set_self
 let⟨hp0,g0,d0,tk0,os0⟩:=s
 dsimp only
 wp_walk
 (refine Rf (N9 ?_))
 dsimp only
 simp only[newObj]
 (refine N7 (wpAny_alloc (N9 ?_)))
 exact N9 h
def Bm(led:Bool):Tab (.fresh 0 0 led) []:=
 ⟨.inl rfl,rfl,List.Pairwise.nil,λj h=>(by cases(QI.mpr h)),rfl,(by show(0:Nat)*5<7*3;decide),λi j h e=>(by simp[SetTable.fresh]at e),rfl⟩
structure Src(prog:Program)(w:World)(h:Heap)(l:Addr)(vs:List Value)(T:String)(itO:Obj)(St:Addr->Nat->Heap->Prop):Prop where
 ty:∃o,h.get? l=some o/\o.cls=.type T
 ns:isSubtype (.type T) (.type "set")=pure false
 nf:isSubtype (.type T) (.type "frozenset")=pure false
 nd:(Value.type T==Value.type "dict")=false
 it:∀(A:Around) (s1:Shared) (Q:Value->Shared->Prop) (E:Value->Shared->Prop),(∀b o,h.get? b=some o->s1.heap.get? b=some o)->Q (.ref s1.heap.objs.size) {s1 with heap:=s1.heap.push itO}->wpAny (model prog w) A (pyIter (.ref l)) Q E s1
 st:∀(h1:Heap),(∀b o,h.get? b=some o->h1.get? b=some o)->St h1.objs.size 0 (h1.push itO)
 wk:∀(A:Around) (I:Addr),A.handled=none->l≠I->Walks prog w A I [I,l] [I] vs.length (λi v=>vs[i]? =some v) (St I)
def Src.list{h:Heap}{l:Addr}{vs:List Value}(hl:h.IsList l vs.toArray):Src prog w h l vs "list" {cls:=.type "list_iterator",data:=.fields #[.ref l,.int 0 0]} (λI i h'=>h'.IsListIter I l i/\h'.IsList l vs.toArray):=by
 let⟨o,ho,hc,n,hd⟩:=id hl
 refine⟨⟨o,ho,hc⟩,F.sub_list_set,F.sub_list_frozenset,by decide,λA s1 Q E k hQ=>QH ⟨o,k _ _ ho,hc,n,hd⟩ hQ,λh1 k=>⟨⟨_,Ou _ rfl,rfl,rfl⟩,⟨o,Oa _ (k _ _ ho),hc,n,hd⟩⟩,λA I hh hne=>?_⟩
 have:=Walks.list (prog:=prog) (w:=w) hh I l hne vs.toArray
 simpa using this
def sub_tuple_set:isSubtype (.type "tuple") (.type "set")=pure false:=by rw[Qg];kernel_rfl
def sub_tuple_frozenset:isSubtype (.type "tuple") (.type "frozenset")=pure false:=by rw[Qg];kernel_rfl
def Src.tuple{h:Heap}{l:Addr}{vs:List Value}(hl:h.IsTuple l vs.toArray):Src prog w h l vs "tuple" {cls:=.type "tuple_iterator",data:=.fields #[.ref l,.int 0 0]} (λI i h'=>h'.IsTupleIter I l i/\h'.IsTuple l vs.toArray):=by
 let⟨o,ho,hc,n,hd⟩:=id hl
 refine⟨⟨o,ho,hc⟩,sub_tuple_set,sub_tuple_frozenset,by decide,λA s1 Q E k hQ=>wpAny_pyIter_tuple ⟨o,k _ _ ho,hc,n,hd⟩ hQ,λh1 k=>⟨⟨_,Ou _ rfl,rfl,rfl⟩,⟨o,Oa _ (k _ _ ho),hc,n,hd⟩⟩,λA I hh hne=>?_⟩
 have:=Walks.tuple (prog:=prog) (w:=w) hh I l hne vs.toArray
 simpa using this
set_option maxHeartbeats 3200000 in
theorem sy{l:Addr}{vs:List Value}{ps:List Pr}{T:String}{itO:Obj}{St:Addr->Nat->Heap->Prop}{Q:Value->Shared->Prop}(X:Src prog w s.heap l vs T itO St)(hh:A.handled=none)(hu:A.units+64<cLine)(hps:eQ prog w s.heap vs ps)
  (h:∀(h':Heap) (tk:Nat),qi prog w h' s.heap.objs.size vs ps vs.length->(∀b o,s.heap.get? b=some o->h'.get? b=some o)->Q (.ref s.heap.objs.size) {s with heap:=h',toks:=tk}) :
  wpAny (model prog w) A (call (.type "set") [.ref l]) Q E s:=by
 let⟨c0,tl0,hmro0⟩:=QP.mro
 have hmade0:=QP.made
 have hsub0:=QP.sub
 refine wpAny_call (codeAny_of_tree ?_)
 refine N9 ⟨Code.quiet_builtin _ (by decide +kernel),P9 F.entry_type_call ?_⟩
 (rw[Around.under_plain (weight_type_call_type "set" [.ref l] []) rfl])
 have g1:=QP.notType
 have g2:=QP.canCreate
 have g3:=F.typeCall_set_1 (.ref l)
 repeat(any_goals(first|assumption|wp_step))
 refine Rq (xD (.ref l) (E:=E) (Q1:=λobj s1=>obj=.ref s.heap.objs.size/\s1={s with heap:=s.heap.push {cls:=.type "set",dict:=none,data:=.set #[] 0 (.fresh 0 0 (kz w))}}) ⟨rfl,rfl⟩) λr s1 hr=>?_
 cases r with
 |error e=>exact hr
 |ok fl=>
  cases fl with
  |ret obj=>
   obtain⟨rfl,rfl⟩:=hr
   generalize hO:({cls:=.type "set",dict:=none,data:=.set #[] 0 (.fresh 0 0 (kz w))}:Obj)=O
   have hS0:(s.heap.push O).get? s.heap.objs.size=some O:=Ou _ (by rw[<-hO];rfl)
   have hT0:Shared.TypeIs {s with heap:=s.heap.push O} (.ref s.heap.objs.size) "set":=⟨_,hS0,by rw[<-hO]⟩
   have g4:=QP.init.lookup
   have g5:=QP.init.bind (.ref s.heap.objs.size)
   repeat(any_goals(first|assumption|wp_step))
   refine Rq (codeAny_call_builtin (R:=wants (λr s2=>r=.none/\∃h' tk,s2={s with heap:=h',toks:=tk}/\qi prog w h' s.heap.objs.size vs ps vs.length/\(∀b o,s.heap.get? b=some o->h'.get? b=some o)) E)
    QP.init.plain F.entry_set_init (check_set_init_1 hT0 ?_)) λr2 s2 hr2=>?_
   .let⟨ol,hol,hcl⟩:=X.ty
    have hol':(s.heap.push O).get? l=some ol:=Oa _ hol
    have e1:=X.ns
    have e2:=X.nf
    have e3:=X.nd
    have hTl:Shared.TypeIs {s with heap:=s.heap.push O} (.ref l) T:=⟨ol,hol',hcl⟩
    have hdat:O.data=.set #[] 0 (.fresh 0 0 (kz w)):=by rw[<-hO]
    (unfold Builtin.«set.__init__» noKeywords Builtin.Frozenset.updateFrom)
    subst hO
    let⟨oc,od,odt,osl⟩:=ol
    simp only at hcl
    subst hcl
    (generalize hPI0:pyIter=PI0)
    wp_walk
    subst hPI0
    have kp:∀b o,s.heap.get? b=some o->(s.heap.push {cls:=.type "set",dict:=none,data:=.set #[] 0 (.fresh 0 0 (kz w))}).get? b=some o:=λb o e=>Oa _ e
    refine X.it _ _ _ _ kp (N7 (wpAny_runValue ?_))
    have hlS:l<s.heap.objs.size:=Oj hol
    have hh3:A.in1.in1.in1.handled=none:=by simp[hh]
    have hneI:l≠(s.heap.push {cls:=.type "set",dict:=none,data:=.set #[] 0 (.fresh 0 0 (kz w))}).objs.size:=by
     rw[PQ];exact OP (Nat.lt_succ_of_lt hlS)
    have hSf:s.heap.objs.size∉ [(s.heap.push {cls:=.type "set",dict:=none,data:=.set #[] 0 (.fresh 0 0 (kz w))}).objs.size,l]:=by
     rw[PQ]
     intro z
     rcases Oo.mp z with e|z
     .exact absurd e (OP (Nat.lt_succ_self _))
     .exact absurd (OT.mp z) (QL hlS)
    refine ou (X.wk _ _ hh3 hneI) s.heap.objs.size hSf rfl (λi v e=>e) (by simp;omega) s.heap hps (λb o hb e=>?_) (vs.length-0) 0 _ (by omega) (O2 _) (X.st _ kp) (λb o e=>Oa _ (kp b o e)) ?_ ?_
    .have hlt:=Oj e
     rw[PQ]at hb
     rcases Oo.mp hb with z|z
     .exact absurd hlt (by rw[z];exact O1 _)
     .rw[OT.mp z]at hlt
      exact absurd hlt (Nat.not_lt.mpr (Nat.le_succ _))
    .refine⟨[],⟨⟨_,0,_,Oa _ hS0,⟨rfl,rfl,rfl⟩,rfl,Bm _,rfl⟩,λq hq=>(by cases hq),Qy⟩,λq hq=>(by cases hq),λp hp=>(by simp at hp)⟩
    .intro h' tk hm F'
     refine N9 ?_
     refine N9 ⟨rfl,h',tk,rfl,F',λb o e=>hm b o (λz=>?_) (Oa _ (kp b o e))⟩
     have hlt:=Oj e
     rw[PQ]at z
     rcases Oo.mp z with z|z
     .exact absurd hlt (by rw[z];exact O1 _)
     .rw[OT.mp z]at hlt
      exact absurd hlt (Nat.not_lt.mpr (Nat.le_succ _))
   .cases r2 with
    |error e=>exact hr2
    |ok fl2=>
     cases fl2 with
     |ret r=>
      obtain⟨rfl,h',tk,rfl,hF,hk⟩:=hr2
      repeat(any_goals(first|assumption|wp_step))
      exact h _ _ hF hk
     |_=>exact hr2.elim
  |_=>exact hr.elim
end
end L2.ST
namespace L2.SO
open PySem PySem.W PyProof.Rows
def kU{α:Type}(lt:Nat->Nat->Bool):KasT α->α
 | .ret a=>a
 | .ask i j k=>kU lt (k (lt i j))
theorem gA{α β:Type}(lt:Nat->Nat->Bool)(f:α->KasT β):∀t:KasT α,kU lt (t.bind f)=kU lt (f (kU lt t))
 | .ret _=>rfl
 | .ask i j k=>gA lt f (k (lt i j))
def v7{α:Type}(n:Nat)(lt:Nat->Nat->Bool):KasT α->Prop
 | .ret _=>True
 | .ask i j k=>i<n/\j<n/\v7 n lt (k (lt i j))
theorem i4{α β:Type}{n:Nat}{lt:Nat->Nat->Bool}{f:α->KasT β}:∀{t:KasT α},v7 n lt t->v7 n lt (f (kU lt t))->v7 n lt (t.bind f)
 | .ret _,_,h=>h
 | .ask i j k,h,h'=>⟨h.1,h.2.1,i4 h.2.2 h'⟩
section
variable {n:Nat}{key:Nat->Int}
abbrev pO(key:Nat->Int)(i j:Nat):Bool:=decide (key i<key j)
abbrev Kp(key:Nat->Int)(p:Array Nat)(k:Nat):Int:=key (p.getD k 0)
structure Pm(n:Nat)(p:Array Nat):Prop where
 sz:p.size=n
 nd:p.toList.Nodup
 lt:∀x,x∈p->x<n
def Pm.at{p:Array Nat}(P:Pm n p){k:Nat}(hk:k<n):p.getD k 0<n:=by
 have h:k<p.size:=by rw[P.sz];exact hk
 simp only[Array.getD,h,dif_pos]
 exact P.lt _ (RA h)
def Pm.ne{p:Array Nat}(P:Pm n p){i k:Nat}(hi:i<n)(hk:k<n)(hne:i≠k):p.getD i 0≠p.getD k 0:=by
 have h1:i<p.toList.length:=by simpa using(by rw[P.sz];exact hi:i<p.size)
 have h2:k<p.toList.length:=by simpa using(by rw[P.sz];exact hk:k<p.size)
 have h1':i<p.size:=by rw[P.sz];exact hi
 have h2':k<p.size:=by rw[P.sz];exact hk
 have a1:p.getD i 0=p.toList[i]:=by simp[Array.getD,h1']
 have a2:p.getD k 0=p.toList[k]:=by simp[Array.getD,h2']
 rw[a1,a2]
 have q:=QJ.mp P.nd
 rcases Pe i k with c|c
 .exact q i k h1 h2 c
 .exact (q k i h2 h1 (by omega)).symm
def Pm.perm{p q:Array Nat}(P:Pm n p)(h:q.Perm p):Pm n q:=by
 have h':=Array.perm_iff_toList_perm.mp h
 exact⟨by rw[h.size_eq];exact P.sz,h'.nodup_iff.mpr P.nd,λx hx=>P.lt x (by simpa using h'.mem_iff.mp (by simpa using hx))⟩
def xg(n:Nat):Pm n (List.toArray (List.range n)):=⟨by simp,by simpa using Qx,λx hx=>by simpa using hx⟩
def Inj(n:Nat)(key:Nat->Int):Prop:=∀i j,i<n->j<n->key i=key j->i=j
def Pm.HS{p:Array Nat}(P:Pm n p)(hi:Inj n key){i k:Nat}(h1:i<n)(h2:k<n)(hne:i≠k):Kp key p i<Kp key p k\/Kp key p k<Kp key p i:=by
 have:Kp key p i≠Kp key p k:=λe=>P.ne h1 h2 hne (hi _ _ (P.at h1) (P.at h2) e)
 omega
def Up(key:Nat->Int)(p:Array Nat)(m:Nat):Prop:=∀i j,i<j->j<m->Kp key p i<Kp key p j
def Dn(key:Nat->Int)(p:Array Nat)(m:Nat):Prop:=∀i j,i<j->j<m->Kp key p j<Kp key p i
def Up.snoc{p:Array Nat}{m:Nat}(U:Up key p m)(h1:1<=m)(h:Kp key p (m-1)<Kp key p m):Up key p (m+1):=λi j hij hj=>by
 rcases Pe j m with c|c
 .exact U i j hij c
 .have:j=m:=by omega
  subst this
  rcases Pe i (j-1)with d|d
  .exact Int.lt_trans (U i (j-1) d (by omega)) h
  .have:i=j-1:=by omega
   rw[this];exact h
def Dn.snoc{p:Array Nat}{m:Nat}(U:Dn key p m)(h1:1<=m)(h:Kp key p m<Kp key p (m-1)):Dn key p (m+1):=λi j hij hj=>by
 rcases Pe j m with c|c
 .exact U i j hij c
 .have:j=m:=by omega
  subst this
  rcases Pe i (j-1)with d|d
  .exact Int.lt_trans h (U i (j-1) d (by omega))
  .have:i=j-1:=by omega
   rw[this];exact h
theorem qB{p:Array Nat}(P:Pm n p)(hi:Inj n key):∀(f m:Nat),1<=m->m+f<=n->Up key p m->
  ∃r,(kU (pO key) (kas_asc p f m)=r/\v7 n (pO key) (kas_asc p f m))/\m<=r/\r<=m+f/\Up key p r/\(r<m+f->Kp key p r<Kp key p (r-1))
 | 0,m,_,_,U=>⟨m,⟨rfl,trivial⟩,Oc _,Oc _,U,λh=>absurd h (O1 _)⟩
 |f+1,m,h1,hn,U=>by
  have b1:p.getD m 0<n:=P.at (by omega)
  have b2:p.getD (m-1) 0<n:=P.at (by omega)
  unfold kas_asc kU v7
  by_cases c:Kp key p m<Kp key p (m-1)
  .rw[show pO key (p.getD m 0) (p.getD (m-1) 0)=true from Ot c]
   simp only[O9]
   exact⟨m,⟨rfl,b1,b2,trivial⟩,Oc _,by omega,U,λ_=>c⟩
  .rw[show pO key (p.getD m 0) (p.getD (m-1) 0)=false from Oz c]
   simp only[Ow,OY]
   have up:Kp key p (m-1)<Kp key p m:=(P.HS hi (by omega) (by omega) (by omega)).resolve_right c
   let⟨r,⟨e,o⟩,a,b,u,d⟩:=qB P hi f (m+1) (by omega) (by omega) (U.snoc h1 up)
   exact⟨r,⟨e,b1,b2,o⟩,by omega,by omega,u,λh=>d (by omega)⟩
theorem tY{p:Array Nat}(P:Pm n p)(hi:Inj n key):∀(f m:Nat),1<=m->m+f<=n->Dn key p m->
  ∃r,(kU (pO key) (kas_desc f p m 0)=(p,r,0)/\v7 n (pO key) (kas_desc f p m 0))/\m<=r/\r<=m+f/\Dn key p r
 | 0,m,_,_,U=>⟨m,⟨rfl,trivial⟩,Oc _,Oc _,U⟩
 |f+1,m,h1,hn,U=>by
  have b1:p.getD m 0<n:=P.at (by omega)
  have b2:p.getD (m-1) 0<n:=P.at (by omega)
  unfold kas_desc kU v7
  by_cases c:Kp key p m<Kp key p (m-1)
  .rw[show pO key (p.getD m 0) (p.getD (m-1) 0)=true from Ot c]
   simp only[O9,O1,gt_iff_lt,OY]
   let⟨r,⟨e,o⟩,a,b,u⟩:=tY P hi f (m+1) (by omega) (by omega) (U.snoc h1 c)
   exact⟨r,⟨e,b1,b2,o⟩,by omega,by omega,u⟩
  .rw[show pO key (p.getD m 0) (p.getD (m-1) 0)=false from Oz c]
   simp only[Ow,OY]
   unfold kU v7
   have up:Kp key p (m-1)<Kp key p m:=(P.HS hi (by omega) (by omega) (by omega)).resolve_right c
   rw[show pO key (p.getD (m-1) 0) (p.getD m 0)=true from Ot up]
   simp only[O9]
   exact⟨m,⟨rfl,b1,b2,b2,b1,trivial⟩,Oc _,by omega,U⟩
def Df{p:Array Nat}{j k:Nat}(hj:j<=p.size)(hk:k<j):(kas_rev p 0 j).getD k 0=p.getD (j-1-k) 0:=by
 unfold kas_rev
 rw[O4,getElem?_mirror_all hj k,Od ⟨O2 _,hk⟩,O4]
 congr 2
 omega
def IH{p:Array Nat}{m:Nat}(hm:m<=p.size)(D:Dn key p m):Up key (kas_rev p 0 m) m:=λi j hij hj=>by
 unfold Kp
 rw[Df hm (by omega),Df hm hj]
 exact D (m-1-j) (m-1-i) (by omega) (by omega)
def Pm.rev{p:Array Nat}(P:Pm n p)(j:Nat):Pm n (kas_rev p 0 j):=P.perm (mirror_perm ..)
def yG{p:Array Nat}(P:Pm n p)(hi:Inj n key)(h1:1<=n) :
  ∃m q,(kU (pO key) (kas_count n p)=(m,q)/\v7 n (pO key) (kas_count n p))/\Pm n q/\1<=m/\m<=n/\Up key q m:=by
 let⟨r,⟨e,o⟩,a,b,u,d⟩:=qB P hi (n-1) 1 (Oc _) (by omega) (λi j hij hj=>by omega)
 have rest:∃m q,(kU (pO key) (if(r==n)=true then KasT.ret (r,p)else if r>1 then .ask (p.getD 0 0) (p.getD (r-1) 0) λc=>if c=true then .ret (r,p)else kas_descPart r n (kas_rev p 0 r)else kas_descPart r n p)=(m,q)/\
   v7 n (pO key) (if(r==n)=true then KasT.ret (r,p)else if r>1 then .ask (p.getD 0 0) (p.getD (r-1) 0) λc=>if c=true then .ret (r,p)else kas_descPart r n (kas_rev p 0 r)else kas_descPart r n p))/\Pm n q/\1<=m/\m<=n/\Up key q m:=by
  by_cases c:(r==n)=true
  .rw[Od c]
   exact⟨r,p,⟨rfl,trivial⟩,P,a,by omega,u⟩
  .rw[Oe c]
   have hrn:r≠n:=by simpa using c
   have dd:=d (by omega)
   by_cases c2:r>1
   .rw[Od c2]
    unfold kU v7
    rw[show pO key (p.getD 0 0) (p.getD (r-1) 0)=true from Ot (u 0 (r-1) (by omega) (by omega))]
    simp only[O9]
    exact⟨r,p,⟨rfl,P.at (by omega),P.at (by omega),trivial⟩,P,a,by omega,u⟩
   .rw[Oe c2]
    have hr1:r=1:=by omega
    subst hr1
    unfold kas_descPart
    rw[gA]
    have D2:Dn key p 2:=λi j hij hj=>by
     have e1:i=0:=by omega
     have e2:j=1:=by omega
     rw[e1,e2];exact dd
    let⟨x,⟨e2,o2⟩,a2,b2,u2⟩:=tY P hi (n-2) 2 (by omega) (by omega) D2
    let⟨y,⟨e3,o3⟩,a3,b3,u3,_⟩:=qB (P.rev x) hi (n-x) x (by omega) (by omega) (IH (by rw[P.sz];omega) u2)
    rw[show n-(1+1)=n-2 from rfl,show(1+1:Nat)=2 from rfl]
    have t3:v7 n (pO key) (kas_tail3 x n p):=by
     unfold kas_tail3
     exact i4 o3 trivial
    refine⟨y,kas_rev p 0 x,⟨?_,i4 o2 ?_⟩,P.rev x,by omega,by omega,u3⟩
    .rw[e2]
     simp only[O1,gt_iff_lt,OY]
     unfold kas_tail3
     rw[gA,e3]
     rfl
    .rw[e2]
     simp only[O1,gt_iff_lt,OY]
     exact t3
 let⟨m,q,⟨f1,f2⟩,f3⟩:=rest
 refine⟨m,q,⟨?_,?_⟩,f3⟩
 .unfold kas_count
  rw[gA,e]
  exact f1
 .unfold kas_count
  refine i4 o ?_
  rw[e]
  exact f2
theorem place_spec{p:Array Nat}{k:Nat}(P:Pm n p)(hi:Inj n key)(hk:k<n)(U:Up key p k):∀(f l r:Nat),l<=r->r<=k->r-l<=f->(∀i,i<l->Kp key p i<Kp key p k)->(∀i,r<=i->i<k->Kp key p k<Kp key p i)->
  ∃x,(kU (pO key) (kas_place p k f l r)=x/\v7 n (pO key) (kas_place p k f l r))/\x<=k/\(∀i,i<x->Kp key p i<Kp key p k)/\(∀i,x<=i->i<k->Kp key p k<Kp key p i)
 | 0,l,r,h1,h2,h3,a,b=>⟨l,⟨rfl,trivial⟩,by omega,a,λi hi=>b i (by omega)⟩
 |f+1,l,r,h1,h2,h3,a,b=>by
  unfold kas_place
  by_cases c:l>=r
  ·rw[Od c]
   exact⟨l,⟨rfl,trivial⟩,by omega,a,λi hi=>b i (by omega)⟩
  ·rw[Oe c]
   have b1:p.getD k 0<n:=P.at hk
   have b2:p.getD ((l+r)/2) 0<n:=P.at (by omega)
   unfold kU v7
   by_cases d:Kp key p k<Kp key p ((l+r)/2)
   .rw[show pO key (p.getD k 0) (p.getD ((l+r)/2) 0)=true from Ot d]
    simp only[O9]
    have side:∀i,(l+r)/2<=i->i<k->Kp key p k<Kp key p i:=λi h1 h2=>by
     rcases Pe ((l+r)/2) i with z|z
     .exact Int.lt_trans d (U _ _ z h2)
     .have:i=(l+r)/2:=by omega
      rw[this];exact d
    let⟨x,⟨e1,e2⟩,e3⟩:=place_spec P hi hk U f l ((l+r)/2) (by omega) (by omega) (by omega) a side
    exact⟨x,⟨e1,b1,b2,e2⟩,e3⟩
   .rw[show pO key (p.getD k 0) (p.getD ((l+r)/2) 0)=false from Oz d]
    simp only[Ow,OY]
    have d':Kp key p ((l+r)/2)<Kp key p k:=(P.HS hi (by omega) hk (by omega)).resolve_right d
    have side:∀i,i<(l+r)/2+1->Kp key p i<Kp key p k:=λi h=>by
     rcases Pe i ((l+r)/2)with z|z
     .exact Int.lt_trans (U _ _ z (by omega)) d'
     .have:i=(l+r)/2:=by omega
      rw[this];exact d'
    let⟨x,⟨e1,e2⟩,e3⟩:=place_spec P hi hk U f ((l+r)/2+1) r (by omega) h2 (by omega) side b
    exact⟨x,⟨e1,b1,b2,e2⟩,e3⟩
def Cv{p:Array Nat}{k l j:Nat}(hk:k<p.size)(hl:l<=k):(bubble p k (k-l)).getD j 0=if j=l then p.getD k 0 else if l<j/\j<=k then p.getD (j-1) 0 else p.getD j 0:=by
 rw[O4,getElem?_bubble hk (k-l) (by omega) j,show k-(k-l)=l by omega]
 simp only[O4]
 split
 .rfl
 .split<;>rfl
theorem v9(hi:Inj n key):∀(f k:Nat) (p:Array Nat),Pm n p->1<=k->k+f=n->Up key p k->∃q,(kU (pO key) (kas_bin f p k)=q/\v7 n (pO key) (kas_bin f p k))/\Pm n q/\Up key q n
 | 0,k,p,P,_,e,U=>⟨p,⟨rfl,trivial⟩,P,by rw[<-e];exact U⟩
 |f+1,k,p,P,h1,e,U=>by
  have hk:k<n:=by omega
  let⟨l,⟨el,ol⟩,hl,a,b⟩:=place_spec P hi hk U k 0 k (O2 _) (Oc _) (by omega) (λi h=>by omega) (λi h h'=>by omega)
  have side:Up key (bubble p k (k-l)) (k+1):=λi j hij hj=>by
   have hks:k<p.size:=by rw[P.sz];exact hk
   unfold Kp
   rw[Cv hks hl,Cv hks hl]
   by_cases i1:i=l
   .rw[Od i1,Oe (by omega)]
    by_cases j2:l<j/\j<=k
    .rw[Od j2];exact b _ (by omega) (by omega)
    .omega
   .rw[Oe i1]
    by_cases i2:l<i/\i<=k
    .rw[Od i2,Oe (by omega),Od (by omega)]
     exact U _ _ (by omega) (by omega)
    .rw[Oe i2]
     by_cases j1:j=l
     .rw[Od j1];exact a _ (by omega)
     .rw[Oe j1]
      by_cases j2:l<j/\j<=k
      .rw[Od j2]
       rcases Pe i (j-1)with z|z
       .exact U _ _ z (by omega)
       .omega
      .rw[Oe j2];exact U _ _ hij (by omega)
  let⟨q,⟨q1,q2⟩,q3⟩:=v9 hi f (k+1) (bubble p k (k-l)) (P.perm (bubble_perm ..)) (by omega) (by omega) side
  refine⟨q,⟨?_,?_⟩,q3⟩
  .unfold kas_bin;rw[gA,el];exact q1
  .unfold kas_bin;refine i4 ol ?_;rw[el];exact q2
def BG(hi:Inj n key)(h2:2<=n):∃q,(kU (pO key) (kas_sort n)=q/\v7 n (pO key) (kas_sort n))/\Pm n q/\Up key q n:=by
 let⟨m,q,⟨e,o⟩,P,a,b,u⟩:=yG (xg n) hi (by omega)
 by_cases c:m<n
 .let⟨q',⟨e1,o1⟩,r⟩:=v9 hi (n-m) m q P a (by omega) u
  refine⟨q',⟨?_,?_⟩,r⟩
  .unfold kas_sort;rw[gA,e];dsimp only;rw[Od c,Nat.max_eq_left a];exact e1
  .unfold kas_sort;refine i4 o ?_;rw[e];dsimp only;rw[Od c,Nat.max_eq_left a];exact o1
 .refine⟨q,⟨?_,?_⟩,P,λi j hij hj=>u i j hij (by omega)⟩
  .unfold kas_sort;rw[gA,e];dsimp only;rw[Oe c];rfl
  .unfold kas_sort;refine i4 o ?_;rw[e];dsimp only;rw[Oe c];trivial
theorem wp_run{α:Type}{n:Nat}{lt:Nat->Nat->Bool}{cmp:Nat->Nat->(Bool->Shared->Prop)->Shared->Prop}{Q:α->Shared->Prop}{s:Shared} :
  ∀(t:KasT α),(∀i j C,i<n->j<n->C (lt i j) s->cmp i j C s)->v7 n lt t->Q (kU lt t) s->t.kasWp cmp Q s
 | .ret a,_,_,h=>h
 | .ask i j k,hc,ho,h=>hc i j _ ho.1 ho.2.1 (wp_run (k (lt i j)) hc ho.2.2 h)
end
end L2.SO
namespace L2.ST
open PySem PySem.SetTable PySem.W PyProof.Rows
def code(p:Pr):Int:=p.1*8+p.2
def Ay{p q:Pr}(h1:Sm p)(h2:Sm q):code p<code q↔p.1<q.1\/(p.1=q.1/\p.2<q.2):=by
 unfold code Sm at *;omega
def code_inj{p q:Pr}(h1:Sm p)(h2:Sm q)(e:code p=code q):p=q:=by
 unfold code Sm at *
 refine Prod.ext ?_ ?_<;>omega
section
variable {prog:Program}{w:World}{A:Around}{E:Value->Shared->Prop}{s:Shared}
abbrev vC(ps:List Pr)(i:Nat):Int:=code (ps.getD i (0,0))
def Cu{ps:List Pr}(nd:ps.Nodup)(hs:∀p,p∈ps->Sm p):L2.SO.Inj ps.length (vC ps):=λi j hi hj e=>by
 have a1:ps.getD i (0,0)=ps[i]:=by simp[hi]
 have a2:ps.getD j (0,0)=ps[j]:=by simp[hj]
 unfold vC at e
 rw[a1,a2]at e
 have e':=code_inj (hs _ (Pz hi)) (hs _ (Pz hj)) e
 have q:=QJ.mp nd
 rcases Rz i j with c|c|c
 .exact absurd e' (q i j hi hj c)
 .exact c
 .exact absurd e'.symm (q j i hj hi c)
theorem Hd{a b:Addr}{p q:Pr}{Q:Bool->Shared->Prop}(ha:b8 prog w s.heap p a)(hb:b8 prog w s.heap q b)(hp:Sm p)(hq:Sm q)(h:Q (decide (code p<code q)) s) :
  wpAny (model prog w) A (keyLt' (tuples' true) (.ref a) (.ref b)) Q E s:=by
 let⟨oa,ia,na,hoa,hca,hda,hia⟩:=ha
 let⟨ob,ib,nb,hob,hcb,hdb,hib⟩:=hb
 obtain⟨l1,rfl⟩:∃l,ia=List.toArray l:=⟨ia.toList,by simp⟩
 obtain⟨l2,rfl⟩:∃l,ib=List.toArray l:=⟨ib.toList,by simp⟩
 simp only[Qb]at hia hib
 cases hia with
 | @cons _ v1 _ _ h1 hia=>
  cases hia with
  | @cons _ v2 _ _ h2 hia=>
   cases hia
   cases hib with
   | @cons _ u1 _ _ g1 hib=>
    cases hib with
    | @cons _ u2 _ _ g2 hib=>
     cases hib
     obtain⟨t1,rfl⟩:=Qn h1
     obtain⟨t2,rfl⟩:=Qn h2
     obtain⟨t3,rfl⟩:=Qn g1
     obtain⟨t4,rfl⟩:=Qn g2
     refine kat_lt hoa hda hob hdb ?_
     have hc:=Ay hp hq
     refine kat_cons (wpAny_eqBool_int ?_)
     by_cases e1:p.1=q.1
     .rw[show(p.1==q.1)=true by simpa using e1]
      refine kat_yes (kat_cons (wpAny_eqBool_int ?_))
      by_cases e2:p.2=q.2
      .rw[show(p.2==q.2)=true by simpa using e2]
       refine kat_yes (kat_nil ?_)
       have:decide (code p<code q)=false:=Oz (by rw[hc];omega)
       rw[this]at h
       simpa using h
      .rw[show(p.2==q.2)=false by simpa using e2]
       refine kat_no ?_
       refine kat_one _ _ (lt_int ?_)
       have:decide (code p<code q)=decide (p.2<q.2):=by
        by_cases z:p.2<q.2
        .rw[Ot z];exact Ot (hc.mpr (.inr ⟨e1,z⟩))
        .rw[Oz z];exact Oz (by rw[hc];omega)
       rw[this]at h;exact h
     .rw[show(p.1==q.1)=false by simpa using e1]
      refine kat_no ?_
      refine oneLt_int ?_
      have:decide (code p<code q)=decide (p.1<q.1):=by
       by_cases z:p.1<q.1
       .rw[Ot z];exact Ot (hc.mpr (.inl z))
       .rw[Oz z];exact Oz (by rw[hc];omega)
      rw[this]at h;exact h
theorem AA:∀{vs:List Value} {ps:List Pr},eQ prog w s.heap vs ps->∃fs,KatTups s.heap vs fs/\fs.length=vs.length/\∀v∈fs,∃(i:Int) (t:Tok),v=.int i t
 | [],ps,_=>⟨[],KatTups.nil,rfl,λv hv=>by cases hv⟩
 |v::vs,[],h=>by have:=h.1;simp at this
 |v::vs,p::ps,h=>by
  obtain⟨a,rfl,⟨o,items,n,ho,hc,hd,hi⟩,_⟩:=h.2 0 v p rfl rfl
  obtain⟨fs,k,e,f⟩:=AA ⟨by simpa using h.1,λi v p h1 h2=>h.2 (i+1) v p (by simpa using h1) (by simpa using h2)⟩
  obtain⟨l1,rfl⟩:∃l,items=List.toArray l:=⟨items.toList,by simp⟩
  simp only[Qb]at hi
  cases hi with
  | @cons _ v1 _ _ h1 hi=>
   obtain⟨t1,rfl⟩:=Qn h1
   exact⟨_::fs,KatTups.cons ho hc hd rfl k,by simp[e],λv hv=>by
    rcases Oo.mp hv with z|z
    .exact⟨_,_,z⟩
    .exact f v z⟩
def xr{a:Addr}{vs:List Value}{ps:List Pr}{n:Nat}{P:PySem.Fin->Shared->Prop}(ho:s.heap.get? a=some (seqObj "list" vs.toArray n))(hps:eQ prog w s.heap vs ps)(nd:ps.Nodup)(h64:vs.length<64)
  (h:∀(h':Heap) (c:Nat) (ix:Array Nat),L2.SO.Pm vs.length ix->L2.SO.Up (vC ps) ix vs.length->(∀b o,b≠a->s.heap.get? b=some o->h'.get? b=some o)->
   h'.get? a=some (seqObj "list" (ix.toList.map λi=>vs.getD i Value.none).toArray c)->P (.done (.ret .none)) {s with heap:=h'}) :
  wpAny (model prog w) A (Builtin.«list.sort» ⟨[.ref a],[]⟩) P E s:=by
 have ha:a<s.heap.objs.size:=Oj ho
 obtain⟨e1,ho1⟩:∃e1,(s.heap.update a (Obj.mapSeq λ_=>(#[]:Array Value))).get? a=some (seqObj "list" #[] e1):=⟨_,get?_update_seq ho λ_=>#[]⟩
 generalize hH1:(s.heap.update a (Obj.mapSeq λ_=>(#[]:Array Value)))=H1 at ho1
 have sb1:Heap.SameBut a s.heap H1:=by rw[<-hH1];exact Heap.SameBut.update ..
 have kp2:∀b o,H1.get? b=some o->((H1.push (seqObj "tuple" vs.toArray 0)).push (seqObj "list" #[] 0)).get? b=some o:=λb o e=>Oa _ (Oa _ e)
 generalize hH2:((H1.push (seqObj "tuple" vs.toArray 0)).push (seqObj "list" #[] 0))=H2 at kp2
 have kp:∀b o,b≠a->s.heap.get? b=some o->H2.get? b=some o:=λb o hb e=>kp2 b o ((sb1.2 b hb).trans e)
 have ho2:=kp2 _ _ ho1
 have hps2:eQ prog w H2 vs ps:=⟨hps.1,λi v p h1 h2=>by
  let⟨b,e,⟨o,it,m,hb,hc,hd,r⟩,hs⟩:=hps.2 i v p h1 h2
  refine⟨b,e,⟨o,it,m,kp b o (λz=>?_) hb,hc,hd,r⟩,hs⟩
  subst z
  rw[ho]at hb;cases hb
  exact absurd hc (by simp[seqObj])⟩
 have hz:vs.length<=sizeLine:=by rw[OU];omega
 rw[list_sort_plain]
 refine N7 (listItems_at ho rfl (N7 (listUpdate_at ho rfl ?_ (by simpa using hz) (O2 _))))
 rw[hH1]
 refine N7 (seqEpoch_at ho1 rfl (N7 (wpAny_newTuple ?_ (by simpa using hz))))
 refine N7 (wpAny_newList (O0 ?_) (O2 _))
 rw[hH2]
 have fin:∀(ix:Array Nat) (st:SortSt),L2.SO.Pm vs.length ix->L2.SO.Up (vC ps) ix vs.length->(arrOf st).map (·.2)=List.toArray (ix.toList.map λi=>vs.getD i Value.none)->failedOf st=none->
   wpAny (model prog w) A (do
    let sorted:=(arrOf st).map (·.2)
    let touched:=(<-seqEpoch a) != e1
    Builtin.List.listUpdate (.ref a) λ_=>sorted
    if let some e:=failedOf st then rule "list.sort.comparison-raised";throw e
    if touched then rule "list.sort.modified";raiseError "ValueError" "list modified during sort"
    ret .none) P E {s with heap:=H2}:=λix st P1 U1 hout hf=>by
  dsimp only
  rw[hout]
  have hsz:(List.toArray (ix.toList.map λi=>vs.getD i Value.none)).size=vs.length:=by simp[P1.sz]
  refine N7 (seqEpoch_at ho2 rfl (N7 (listUpdate_at ho2 rfl ?_ (O2 _) (Pf (Nat.le_of_eq hsz) (Nat.le_succ_of_le hz)))))
  rw[hf]
  simp only[bne_self_eq_false,Ow,OY]
  obtain⟨c2,hc2⟩:∃c2,(H2.update a (Obj.mapSeq λ_=>List.toArray (ix.toList.map λi=>vs.getD i Value.none))).get? a=some (seqObj "list" (List.toArray (ix.toList.map λi=>vs.getD i Value.none)) c2):=⟨_,get?_update_seq ho2 λ_=>List.toArray (ix.toList.map λi=>vs.getD i Value.none)⟩
  exact N9 (h _ c2 ix P1 U1 (λb o hb e=>((Heap.SameBut.update H2 a _).2 b hb).trans (kp b o hb e)) hc2)
 by_cases h2:vs.length<2
 .have h2':vs.toArray.size<2:=by simpa using h2
  dsimp only
  rw[Od h2',Od h2']
  refine N7 (N9 ?_)
  rw[StateT.run_pure]
  refine N7 (N9 (fin (List.toArray (List.range vs.length)) (SortSt.mk' general' (vs.toArray.zip vs.toArray) #[] 7 none) (L2.SO.xg _) (λi j hij hj=>by omega) ?_ rfl))
  have:∀{l:List Value},l.length<2->((l.toArray.zip l.toArray).map (·.2))=List.toArray ((List.range l.length).map λi=>l.getD i Value.none):=λ{l} hl=>by
   match l,hl with
   | [],_=>simp
   | [x],_=>simp
  exact(this h2).trans (by simp)
 .have h2':¬vs.toArray.size<2:=by simpa using h2
  dsimp only
  rw[Oe h2',Oe h2']
  let⟨fs,kt,fl,ff⟩:=AA (s:={s with heap:=H2}) hps2
  refine N7 (kat_kind (T:=.type "int") kt (by omega) (λv hv=>?_) (by decide) ?_)
  .obtain⟨i,t,rfl⟩:=ff v hv
   exact .now
  .rw[show((Value.type "int" != Value.type "tuple"):Bool)=true by decide]
   have hinj:L2.SO.Inj vs.length (vC ps):=by
    rw[hps.1]
    refine Cu nd λp hp=>?_
    let⟨i,hi,e⟩:=O3.mp hp
    have hi':i<vs.length:=by rw[hps.1];exact hi
    let⟨_,_,_,hs⟩:=hps.2 i vs[i] p (N8 hi') (by rw[N8 hi,e])
    exact hs
   let⟨ix,⟨er,ok⟩,P1,U1⟩:=L2.SO.BG hinj (by omega)
   refine N7 (PK (kat_run (Q:=λst s'=>s'={s with heap:=H2}/\arrOf st=ix.map (kas_item (vs.toArray.zip vs.toArray))/\failedOf st=none)
    (G:=λp s'=>p=ix/\s'={s with heap:=H2}) rfl (by omega) h64 (λp st s' a1 a2 a3 a4=>?_) (L2.SO.wp_run _ (λi j C hi hj hC=>?_) ok ⟨er,rfl⟩)) ?_ λ_ _ x=>x)
   .obtain⟨rfl,rfl⟩:=a4
    exact⟨rfl,a2,a3⟩
   .unfold kas_ask
    have hi':i<ps.length:=by rw[<-hps.1];exact hi
    have hj':j<ps.length:=by rw[<-hps.1];exact hj
    let⟨b1,eb1,hb1,s1⟩:=hps2.2 i vs[i] ps[i] (N8 hi) (N8 hi')
    let⟨b2,eb2,hb2,s2⟩:=hps2.2 j vs[j] ps[j] (N8 hj) (N8 hj')
    have e1:vs.getD i Value.none=.ref b1:=by rw[<-eb1];simp[hi]
    have e2:vs.getD j Value.none=.ref b2:=by rw[<-eb2];simp[hj]
    rw[e1,e2]
    refine Hd hb1 hb2 s1 s2 ?_
    have:L2.SO.pO (vC ps) i j=decide (code ps[i]<code ps[j]):=by
     unfold L2.SO.pO vC;simp[hi',hj']
    rw[<-this];exact hC
   .rintro⟨⟨⟩,st⟩ s' ⟨rfl,har,hf⟩
    exact fin ix st P1 U1 (kat_snds rfl har) hf
end
def cu:Slot "set_iterator" "__next__" "set_iterator.__next__":=
 Slot.of (owner:="set_iterator") (n:="__next__") (by rw[QF,PV];kernel_rfl) (by decide +kernel) (by decide +kernel) (by decide +kernel) (by first|exact .inl (by decide +kernel)|exact .inr (by decide +kernel)) (by rw[Qg];kernel_rfl)
def jU:entryFor table "set_iterator.__next__"=some Builtin.«set_iterator.__next__»:=entryFor_of_tree (by kernel_rfl)
def kR(a:Value):argsOk "set_iterator.__next__" ⟨[a],[]⟩:=by unfold argsOk;kernel_rfl
def qL:entryFor table "set.__iter__"=some Builtin.«frozenset.__iter__»:=entryFor_alias (id':="frozenset.__iter__") (by kernel_rfl) rfl (by decide +kernel) (by kernel_rfl)
def kQ:Slot "set_iterator" "__iter__" "set_iterator.__iter__":=
 Slot.of (owner:="set_iterator") (n:="__iter__") (by rw[QF,PV];kernel_rfl) (by decide +kernel) (by decide +kernel) (by decide +kernel) (by first|exact .inl (by decide +kernel)|exact .inr (by decide +kernel)) (by rw[Qg];kernel_rfl)
def oU:entryFor table "set_iterator.__iter__"=some Builtin.«dict_keyiterator.__iter__»:=entryFor_alias (id':="dict_keyiterator.__iter__") (by kernel_rfl) rfl (by decide +kernel) (by kernel_rfl)
def pL(a:Value):argsOk "set_iterator.__iter__" ⟨[a],[]⟩:=by unfold argsOk;kernel_rfl
def Ft(a:Addr)(slot given ep0:Nat):setNext a slot given ep0=(do
  let(es,epoch,t) <-setState a
  if(<-ask).params.followText "set-order"then
   if epoch != ep0 then unsupported "set_iterator.__next__:elements-changed"
   return((<-setWalk a)[given]?).map λe=>(e.2,slot)
  if !t.plain&&es.size>1 then unsupported "set_iterator.__next__:the-table-is-plain-no-more"
  let u:Unit <-(show Sem Unit from do if !t.led && !es.isEmpty then unsupported "set:maker-not-led")
  let i:=SetTable.below t.place slot
  return match es[i]?,t.place[i]? with
   |some (_,x),some j=>some (x,j+1)
   |_,_=>none):=by
 unfold setNext setsByText
 simp only[bind_assoc,pure_bind]
 rfl
def GN(a:Addr):setWalk a=(do
  let(es,epoch,t) <-setState a
  if(<-ask).params.followText "set-order"then return pickOrder ((<-ask).params.setOrder a epoch) es
  if !t.plain&&es.size>1 then return(<-drawOrder es.size es.toList).toArray
  let u:Unit <-(show Sem Unit from do if !t.led&&es.size>1 then unsupported "set:maker-not-led")
  return es):=by
 unfold setWalk setsByText
 simp only[bind_assoc,pure_bind]
 rfl
def DE(a:Addr):setDrawn a=(do
  let(es,_,t) <-setState a
  let byText <-(do return(<-ask).params.followText "set-order")
  return !byText&&(!t.plain&&es.size>1)):=rfl
theorem i5{α:Type}:∀(l:List α) (i:Nat) (h:i<l.length),(l[i]::l.eraseIdx i).Perm l
 |a::l,0,_=>List.Perm.refl _
 |a::l,i+1,h=>by
  have hi:i<l.length:=by simpa using h
  exact(List.Perm.swap ..).trans ((i5 l i hi).cons a)
theorem uw{α:Type}(next:Nat->Nat):∀(fuel k:Nat) (left:List α) (out:Array α),left.length=fuel->(pickOrder.go next fuel k left out).toList.Perm (out.toList++left)
 | 0,k,left,out,h=>by
  have:left= []:=Qr.mp h
  subst this
  unfold pickOrder.go
  simp
 |fuel+1,k,left,out,h=>by
  unfold pickOrder.go
  have hlt:next k%left.length<left.length:=Nat.mod_lt _ (by omega)
  rw[N8 hlt]
  dsimp only
  refine(uw next fuel (k+1) _ _ (by rw[List.length_eraseIdx_of_lt hlt];omega)).trans ?_
  rw[Array.toList_push,P5]
  exact List.Perm.append_left _ (i5 left _ hlt)
def lR{α:Type}(next:Nat->Nat)(xs:Array α):(pickOrder next xs).toList.Perm xs.toList:=by
 have:=uw next xs.size 0 xs.toList #[] (by simp)
 simpa[pickOrder]using this
section
variable {prog:Program}{w:World}{A:Around}{E:Value->Shared->Prop}{s:Shared}
def told(w:World)(S:Addr)(ep:Nat)(es:Array (Int×Value)):Array (Int×Value):=if w.params.followText "set-order"then pickOrder (w.params.setOrder S ep) es else es
def tQ(w:World)(S:Addr)(ep:Nat)(es:Array (Int×Value)):(told w S ep es).toList.Perm es.toList:=by
 unfold told;split
 .exact lR _ _
 .exact List.Perm.refl _
abbrev wx(S:Addr)(slot k n ep:Nat):Obj:={cls:=.type "set_iterator",data:=.fields #[.int (slot:Int) 0,.int (k:Int) 0,.ref S,.int (n:Int) 0,.int (ep:Int) 0]}
structure nS(w:World)(S:Addr)(o:Obj)(es:Array (Int×Value))(ep:Nat)(t:SetTable)(I:Addr)(k:Nat)(h:Heap):Prop where
 set:h.get? S=some o
 data:o.data=.set es ep t
 cls:o.cls=.type "set"
 tab:Tab t (es.toList.map (·.1))
 led:t.led=kz w
 it:∃slot,h.get? I=some (wx S slot k es.size ep)/\(kz w=true->slot=if k=0 then 0 else t.place.getD (k-1) 0+1)
def nS.fits{S I:Addr}{o:Obj}{es:Array (Int×Value)}{ep k:Nat}{t:SetTable}{h:Heap}(X:nS w S o es ep t I k h):t.fits es.size=true:=rL X.tab (by simp)
theorem zN{S I:Addr}{o:Obj}{es:Array (Int×Value)}{ep k slot:Nat}{t:SetTable}{Q:Option (Value×Nat)->Shared->Prop}(X:nS w S o es ep t I k s.heap)(hk:k<=es.size)(hs:kz w=true->slot=if k=0 then 0 else t.place.getD (k-1) 0+1)
  (h:∀(r:Option (Value×Nat)),(k<es.size->∃x nx,r=some (x,nx)/\(told w S ep es)[k]?.map (·.2)=some x/\(kz w=true->nx=t.place.getD k 0+1))->(k=es.size->r=none)->Q r s) :
  wpAny (model prog w) A (setNext S slot k ep) Q E s:=by
 rw[Ft]
 refine N7 (Pl X.set X.data X.fits ?_)
 dsimp only
 refine N7 (Rf ?_)
 dsimp only
 cases hb:w.params.followText "set-order"with
 |true=>
  rw[Od (show(model prog w).w.params.followText "set-order"=true from hb)]
  simp only[bne_self_eq_false,Ow,OY]
  rw[GN]
  refine N7 (N7 (Pl X.set X.data X.fits ?_))
  dsimp only
  refine N7 (Rf ?_)
  dsimp only
  rw[Od (show(model prog w).w.params.followText "set-order"=true from hb)]
  refine N7 (Rf (N9 (N9 ?_)))
  have et:told w S ep es=pickOrder (w.params.setOrder S ep) es:=by unfold told;rw[Od hb]
  have hsz:(pickOrder (w.params.setOrder S ep) es).size=es.size:=by
   have:=(lR (w.params.setOrder S ep) es).length_eq;simpa using this
  refine h _ (λhlt=>?_) (λe=>?_)
  .have hlt':k<(pickOrder (w.params.setOrder S ep) es).size:=by rw[hsz];exact hlt
   refine⟨(pickOrder (w.params.setOrder S ep) es)[k].2,slot,?_,?_,λz=>?_⟩
   .show Option.map _ (pickOrder (w.params.setOrder S ep) es)[k]? =_
    rw[OF hlt'];rfl
   .rw[et,OF hlt'];rfl
   .unfold kz at z;rw[hb]at z;cases z
  .show Option.map _ (pickOrder (w.params.setOrder S ep) es)[k]? =_
   rw[Po (by rw[hsz];omega)];rfl
 |false=>
  rw[Oe (show ¬(model prog w).w.params.followText "set-order"=true by intro z;rw[show(model prog w).w.params.followText "set-order"=false from hb]at z;cases z)]
  have hl:kz w=true:=by unfold kz;rw[hb];rfl
  rw[X.tab.plain,X.led,hl]
  simp only[QG,Bool.false_and,Ow,OY]
  have et:told w S ep es=es:=by unfold told;rw[hb];simp
  have hps:t.place.size=es.size:=by simpa using X.tab.size
  have hbl:below t.place slot=k:=by
   rw[hs hl]
   let⟨b1,b2,b3⟩:=fo X.tab.rise (if k=0 then 0 else t.place.getD (k-1) 0+1)
   by_cases k0:k=0
   .subst k0
    simp only[O9]at b1 b2 b3 ⊢
    rcases Nat.eq_zero_or_pos (below t.place 0)with z|z
    .exact z
    .have:=b2 0 z;omega
   .rw[Oe k0]at b1 b2 b3 ⊢
    have hk1:k-1<t.place.size:=by omega
    rcases Rz (below t.place (t.place.getD (k-1) 0+1)) k with z|z|z
    .have q:=b3 (k-1) (by omega) hk1
     have e:t.place.getD (k-1) (t.place.getD (k-1) 0+1)=t.place.getD (k-1) 0:=by simp[Array.getD,hk1]
     omega
    .exact z
    .have hks:k<t.place.size:=by omega
     have q:=b2 k z
     have e:t.place.getD k (t.place.getD (k-1) 0+1)=t.place.getD k 0:=by simp[Array.getD,hks]
     have:=jh (d:=0) X.tab.rise (show k-1<k by omega) hks
     omega
  refine N9 ?_
  rw[hbl]
  refine h _ (λhlt=>?_) (λe=>?_)
  .have hlt2:k<t.place.size:=by omega
   refine⟨es[k].2,t.place[k]+1,?_,?_,λ_=>?_⟩
   .rw[OF hlt,OF hlt2]
   .rw[et,OF hlt];rfl
   .simp[Array.getD,hlt2]
  .rw[Po (by omega)]
def BQ{S I:Addr}{o:Obj}{es:Array (Int×Value)}{ep:Nat}{t:SetTable}(hh:A.handled=none)(hne:S≠I) :
  Walks prog w A I [I,S] [I] es.size (λi v=>(told w S ep es)[i]?.map (·.2)=some v) (λi h=>nS w S o es ep t I i h) where
 sub:=λb hb=>Oo.mpr (.inl (OT.mp hb))
 frame:=λi h h' X k=>by
  let⟨slot,e,r⟩:=X.it
  exact⟨k S (by simp) _ X.set,X.data,X.cls,X.tab,X.led,slot,k I (by simp) _ e,r⟩
 item:=λi s Q E hi X hQ=>by
  let⟨slot,e,r⟩:=X.it
  have hT:s.TypeIs (.ref I) "set_iterator":=⟨_,e,rfl⟩
  unfold pyNext
  refine N7 (wpAny_attempt (PJ hT cu (Pq cu hT jU ?_ (kR _))))
  unfold Builtin.«set_iterator.__next__»
  refine N7 (N9 ?_)
  dsimp only
  unfold fieldsOf
  refine N7 (N7 (wpAny_load e (N9 ?_)))
  dsimp only
  unfold setEntries
  refine N7 (N7 (Pl X.set X.data X.fits (N9 ?_)))
  dsimp only
  rw[Oe (by simp)]
  refine N7 ?_
  simp only[Pc]
  refine zN X (Qj hi) r λrr h1 _=>?_
  obtain⟨x,nx,rfl,h2,h3⟩:=h1 hi
  dsimp only
  refine N7 (Qw e rfl (by simp) ?_)
  have e2:=OQ (Obj.mapFields λvs=>vs.setIfInBounds 0 (rawInt (nx:Int))) e rfl
  refine N7 (Qw e2 rfl (by simp) (N9 ⟨x,rfl,N9 ?_⟩))
  have sb:=(Heap.SameBut.update s.heap I (Obj.mapFields λvs=>vs.setIfInBounds 0 (rawInt (nx:Int)))).trans (Heap.SameBut.update _ I (Obj.mapFields λvs=>vs.setIfInBounds 1 (rawInt ((i:Int)+1))))
  refine hQ x _ _ h2 ⟨(sb.2 S hne).trans X.set,X.data,X.cls,X.tab,X.led,nx,?_,λz=>?_⟩ λb o hb eb=>(sb.2 b (by simpa using hb)).trans eb
  .exact OQ (Obj.mapFields λvs=>vs.setIfInBounds 1 (rawInt ((i:Int)+1))) e2 rfl
  .rw[Oe (by omega)];exact h3 z
 done:=λs Q E X hQ=>by
  let⟨slot,e,r⟩:=X.it
  have hT:s.TypeIs (.ref I) "set_iterator":=⟨_,e,rfl⟩
  unfold pyNext
  refine N7 (wpAny_attempt (PJ hT cu (Pq cu hT jU ?_ (kR _))))
  unfold Builtin.«set_iterator.__next__»
  refine N7 (N9 ?_)
  dsimp only
  unfold fieldsOf
  refine N7 (N7 (wpAny_load e (N9 ?_)))
  dsimp only
  unfold setEntries
  refine N7 (N7 (Pl X.set X.data X.fits (N9 ?_)))
  dsimp only
  rw[Oe (by simp)]
  refine N7 ?_
  simp only[Pc]
  refine zN X (Oc _) r λrr _ h1=>?_
  rw[h1 rfl]
  dsimp only
  refine N7 (Qw e rfl (by simp) ?_)
  (show wpAny _ _ (newExc (.type "StopIteration") [] >>= λx=>raiseNew x) _ _ _)
  refine N7 ?_
  simp only[newExc,newTuple]
  (refine N7 (O8 ?_ (by size_fits)))
  (refine N7 (wpAny_of_eq (by first|rfl|(simp only[firstArgMember];rfl)) ?_))
  (refine O8 ?_ (by size_fits))
  simp only[raiseNew]
  refine N7 (wpAny_handled ?_)
  (rw[show A.in1.handled=none from hh])
  refine N7 (N9 (wpAny_throw ?_))
  refine N7 (Q8 ⟨_,Ou _ rfl,rfl⟩ isSubtype_stop (N9 (hQ _ _ λb o hb eb=>?_)))
  exact Oa _ (Oa _ (((Heap.SameBut.update ..).2 b (by simpa using hb)).trans eb))
 self:=λi s Q E X hQ=>by
  let⟨slot,e,r⟩:=X.it
  have hT:s.TypeIs (.ref I) "set_iterator":=⟨_,e,rfl⟩
  refine wpAny_pyIter_slot hT kQ (Pq kQ hT oU ?_ (pL _))
  exact N9 ⟨_,rfl,"set_iterator",_,hT,cu.lookup,hQ⟩
def EB{S:Addr}{o:Obj}{es:Array (Int×Value)}{ep:Nat}{t:SetTable}{Q:Value->Shared->Prop}(ho:s.heap.get? S=some o)(hd:o.data=.set es ep t)(hc:o.cls=.type "set")(T:Tab t (es.toList.map (·.1)))(hl:t.led=kz w)
  (h:Q (.ref s.heap.objs.size) {s with heap:=s.heap.push (wx S 0 0 es.size ep)}):wpAny (model prog w) A (pyIter (.ref S)) Q E s:=by
 have hT:s.TypeIs (.ref S) "set":=⟨o,ho,hc⟩
 have hf:t.fits es.size=true:=rL T (by simp)
 refine wpAny_pyIter_slot hT F.slot_set_iter (Pq F.slot_set_iter hT qL ?_ (F.args_set_iter_1 _))
 unfold Builtin.«frozenset.__iter__» Builtin.Frozenset.slot0
 refine N7 (N7 (N9 (N9 ?_)))
 unfold Builtin.Frozenset.sizeOf setEntries
 refine N7 (N7 (N7 (Pl ho hd hf (N9 (N9 ?_)))))
 rw[DE]
 refine N7 (N7 (Pl ho hd hf ?_))
 dsimp only
 refine N7 (N7 (Rf (N9 (N9 ?_))))
 rw[T.plain]
 simp only[QG,Bool.false_and,Bool.and_false,Ow,OY]
 refine N7 (N9 ?_)
 unfold setEpoch
 refine N7 (N7 (Pl ho hd hf (N9 (N7 (O8 (N9 ⟨_,rfl,"set_iterator",_,⟨_,Ou _ rfl,rfl⟩,cu.lookup,h⟩))))))
def wJ{S:Addr}{o:Obj}{es:Array (Int×Value)}{ep:Nat}{t:SetTable}{Q:List Value->Shared->Prop}(hh:A.handled=none)(ho:s.heap.get? S=some o)(hd:o.data=.set es ep t)(hc:o.cls=.type "set")(T:Tab t (es.toList.map (·.1)))(hl:t.led=kz w)
  (hn:es.size<=64) (h:∀h' tk vs,vs=(told w S ep es).toList.map (·.2)->(∀b o,s.heap.get? b=some o->h'.get? b=some o)->Q vs {s with heap:=h',toks:=tk}):wpAny (model prog w) A (collect (.ref S)) Q E s:=by
 have hz:es.size<=sizeLine:=by rw[OU];omega
 unfold collect
 (refine N7 (wpAny_runValue (P9 F.entry_proto_collect ?_)))
 (rw[PM F.plain_proto_collect _])
 refine N7 (O8 ?_)
 (refine N9 ⟨QX F.plain_list_iadd _,P9 F.entry_list_iadd ?_⟩)
 (rw[PM F.plain_list_iadd _])
 show wpAny _ A.in1 (Builtin.List.listExtendWith (.ref s.heap.objs.size) (.ref S) (.ref s.heap.objs.size)) _ _ {s with heap:=s.heap.push (seqObj "list" #[] 0)}
 generalize hH:s.heap.push (seqObj "list" #[] 0)=H1
 have kp1:∀b o,s.heap.get? b=some o->H1.get? b=some o:=λb o e=>by rw[<-hH];exact Oa _ e
 have hD:H1.get? s.heap.objs.size=some (seqObj "list" #[] 0):=by rw[<-hH];exact Ou _ rfl
 have hHs:H1.objs.size=s.heap.objs.size+1:=by rw[<-hH];exact PQ ..
 have hSD:S≠s.heap.objs.size:=OP (Oj ho)
 have hT:Shared.TypeIs {s with heap:=H1} (.ref S) "set":=⟨o,kp1 _ _ ho,hc⟩
 unfold Builtin.List.listExtendWith
 refine N7 (QO hT ?_)
 have h1:Builtin.List.listSameRef (.ref s.heap.objs.size) (.ref S)=false:=by simp[Builtin.List.listSameRef,Ne.symm hSD]
 have h2:(Value.type "set"==Value.type "list")=false:=by decide
 have h3:(Value.type "set"==Value.type "tuple")=false:=by decide
 rw[h1,h2,h3]
 simp only[Bool.or_false,Ow,OY]
 refine N7 (EB (kp1 _ _ ho) hd hc T hl (N7 (O0 ?_)))
 unfold Builtin.List.listLengthHint
 have hT2:Shared.TypeIs {s with heap:=H1.push (wx S 0 0 es.size ep)} (.ref S) "set":=⟨o,Oa _ (kp1 _ _ ho),hc⟩
 refine N7 (P8 hT2 F.slot_set_len.lookup ?_)
 wp_delta
 refine N7 (Q8 hT2 (b:=true) (by rw[Qg];kernel_rfl) ?_)
 refine N7 (QO hT2 (N9 ?_))
 refine N7 (wpAny_rule (N7 ?_))
 generalize hH2:H1.push (wx S 0 0 es.size ep)=H2
 have kp2:∀b o,H1.get? b=some o->H2.get? b=some o:=λb o e=>by rw[<-hH2];exact Oa _ e
 have hI:H2.get? H1.objs.size=some (wx S 0 0 es.size ep):=by rw[<-hH2];exact Ou _ rfl
 have hS0:=kp2 _ _ hD
 refine N7 (wpAny_updateSeq hS0 rfl ?_)
 have hS2:=OQ (Obj.mapSeq (·.push Value.none)) hS0 rfl
 refine wpAny_updateSeq hS2 rfl ?_
 have hS3:=OQ (Obj.mapSeq (·.pop)) hS2 rfl
 have oth:∀b o,b≠s.heap.objs.size->H2.get? b=some o->((H2.update s.heap.objs.size (Obj.mapSeq (·.push Value.none))).update s.heap.objs.size (Obj.mapSeq (·.pop))).get? b=some o:=λb o hb e=>
  ((Heap.SameBut.update _ s.heap.objs.size (Obj.mapSeq (·.pop))).2 b hb).trans (((Heap.SameBut.update H2 s.heap.objs.size (Obj.mapSeq (·.push Value.none))).2 b hb).trans e)
 have hIS:S≠H1.objs.size:=by rw[hHs];exact OP (Nat.lt_succ_of_lt (Oj ho))
 have hID:H1.objs.size≠s.heap.objs.size:=by rw[hHs];exact Nat.succ_ne_self _
 have hDf:s.heap.objs.size∉ [H1.objs.size,S]:=λz=>by
  rcases Oo.mp z with e|z
  .exact hID e.symm
  .exact hSD (OT.mp z).symm
 have X0:nS w S o es ep t H1.objs.size 0 ((H2.update s.heap.objs.size (Obj.mapSeq (·.push Value.none))).update s.heap.objs.size (Obj.mapSeq (·.pop))):=
  ⟨oth _ _ hSD (kp2 _ _ (kp1 _ _ ho)),hd,hc,T,hl,0,oth _ _ hID hI,λ_=>rfl⟩
 refine N9 ⟨QX F.plain_extend_loop _,codeAny_extend_loopS (BQ (A:=A.in1) hh hIS).toS hz _ hDf _ es.size 0 _ _ _ rfl (O2 _) X0 hS3 (ItemsOf.nil _) λs' acc' c' hm hS' hacc=>?_⟩
 refine N7 (wpAny_load hS' (N9 ?_))
 let⟨h',g',d',tk',os'⟩:=s'
 have eg:g'=s.gens:=hm.gens
 have ed:d'=s.drawn:=hm.drawn
 have eo:os'=s.os:=hm.os
 subst eg ed eo
 refine h h' tk' acc'.toList ?_ λb ob e=>hm.heap b ob (λhb=>?_) (oth b ob (OP (Oj e)) (kp2 _ _ (kp1 _ _ e)))
 .have hts:(told w S ep es).size=es.size:=by have:=(tQ w S ep es).length_eq;simpa using this
  apply Qo
  intro i
  rw[Om]
  by_cases hi:i<es.size
  .have hi1:i<acc'.size:=by rw[hacc.1];exact hi
   have q:=hacc.2 i acc'[i] (OF hi1)
   rw[Qf,Qf,OF hi1]
   exact q.symm
  .rw[Qf,Qf,Po (by rw[hacc.1];omega),Po (by omega)];rfl
 .have hlt:=Oj e
  rcases Oo.mp hb with z|z
  .rw[z]at hlt;exact O1 _ hlt
  .rw[OT.mp z,hHs]at hlt;exact absurd hlt (Nat.not_lt.mpr (Nat.le_succ _))
end
end L2.ST
namespace OM
abbrev Pr:=Int×Int
def CW(p q:Pr):Prop:=p.1<q.1\/(p.1=q.1/\p.2<q.2)
def jZ(p:Pr):¬CW p p:=by unfold CW;omega
def Bl{p q r:Pr}(a:CW p q)(b:CW q r):CW p r:=by unfold CW at *;omega
abbrev uG(l:List Pr):Prop:=l.Pairwise CW
theorem dO:∀{l m:List Pr},uG l->uG m->(∀x,x∈l↔x∈m)->l=m
 | [],[],_,_,_=>rfl
 | [],b::m,_,_,h=>absurd ((h b).mpr (Ol ..)) (by simp)
 |a::l,[],_,_,h=>absurd ((h a).mp (Ol ..)) (by simp)
 |a::l,b::m,hl,hm,h=>by
  have hl':=List.pairwise_cons.mp hl
  have hm':=List.pairwise_cons.mp hm
  have e:a=b:=by
   rcases Oo.mp ((h a).mp (Ol ..))with e|e
   .exact e
   .rcases Oo.mp ((h b).mpr (Ol ..))with e'|e'
    .exact e'.symm
    .exact absurd (Bl (hm'.1 a e) (hl'.1 b e')) (jZ _)
  subst e
  congr 1
  refine dO hl'.2 hm'.2 λx=>⟨λhx=>?_,λhx=>?_⟩
  .rcases Oo.mp ((h x).mp (Og _ hx))with e|e
   .subst e;exact absurd (hl'.1 x hx) (jZ _)
   .exact e
  .rcases Oo.mp ((h x).mpr (Og _ hx))with e|e
   .subst e;exact absurd (hm'.1 x hx) (jZ _)
   .exact e
def eN{l:List Pr}(h:uG l):l.Nodup:=h.imp λ{a b} hab e=>by subst e;exact jZ _ hab
def bZ{l:List Pr}(p:Pr->Bool)(h:uG l):uG (l.filter p):=h.sublist Qu
def bY(n:Nat):List Pr:=(List.range (n*n)).map λk=>(((k/n:Nat):Int),((k%n:Nat):Int))
def aY{n:Nat}{p:Pr}:p∈bY n↔(0<=p.1/\p.1<n)/\(0<=p.2/\p.2<n):=by
 unfold bY
 rw[Of]
 constructor
 .rintro⟨k,hk,rfl⟩
  have hk:=OI.mp hk
  have hn:0<n:=by
   rcases Nat.eq_zero_or_pos n with e|e
   .subst e;omega
   .exact e
  have h1:k/n<n:=Nat.div_lt_of_lt_mul hk
  have h2:k%n<n:=Nat.mod_lt _ hn
  generalize k/n=q at h1
  generalize k%n=r at h2
  exact⟨⟨Int.natCast_nonneg _,by dsimp only;omega⟩,⟨Int.natCast_nonneg _,by dsimp only;omega⟩⟩
 .rintro⟨⟨a0,a1⟩,⟨b0,b1⟩⟩
  have hn:0<n:=by omega
  refine⟨p.1.toNat*n+p.2.toNat,OI.mpr ?_,?_⟩
  .have h1:p.1.toNat+1<=n:=by omega
   have h2:p.2.toNat<n:=by omega
   have:=Nat.mul_le_mul_right n h1
   rw[Nat.add_mul]at this
   omega
  .have h2:p.2.toNat<n:=by omega
   have e1:(p.1.toNat*n+p.2.toNat)/n=p.1.toNat:=by
    rw[Nat.mul_comm,Nat.mul_add_div hn,Nat.div_eq_of_lt h2];rfl
   have e2:(p.1.toNat*n+p.2.toNat)%n=p.2.toNat:=by
    rw[Nat.mul_comm,Nat.mul_add_mod,Nat.mod_eq_of_lt h2]
   rw[e1,e2]
   refine Prod.ext ?_ ?_<;>dsimp only<;>omega
def dC(n:Nat):uG (bY n):=by
 unfold bY
 refine O5.mpr (Pt ?_ List.pairwise_lt_range)
 intro a b ha hb hab
 have ha:=OI.mp ha
 have hb:=OI.mp hb
 have hn:0<n:=by
  rcases Nat.eq_zero_or_pos n with e|e
  .subst e;omega
  .exact e
 have h1:a/n<=b/n:=Nat.div_le_div_right (Qj hab)
 have e1:=Nat.div_add_mod a n
 have e2:=Nat.div_add_mod b n
 unfold CW
 dsimp only
 rcases Pe (a/n) (b/n)with c|c
 .left;omega
 .right
  have e:a/n=b/n:=by omega
  rw[e]at e1
  omega
open Classical in
noncomputable def cB(n:Nat)(R:Int->Int->Prop):List Pr:=(bY n).filter λp=>decide (R p.1 p.2)
def aJ{n:Nat}{R:Int->Int->Prop}{p:Pr}:p∈cB n R↔((0<=p.1/\p.1<n)/\(0<=p.2/\p.2<n))/\R p.1 p.2:=by
 unfold cB
 rw[Oh,aY]
 simp
def cA(n:Nat)(R:Int->Int->Prop):uG (cB n R):=bZ _ (dC n)
def yu{n:Nat}{R S:Int->Int->Prop}(h:∀a b:Int,0<=a->a<n->0<=b->b<n->(R a b↔S a b)):cB n R=cB n S:=by
 refine dO (cA n R) (cA n S) λx=>?_
 rw[aJ,aJ]
 constructor
 .rintro⟨⟨⟨a,b⟩,c,d⟩,r⟩;exact⟨⟨⟨a,b⟩,c,d⟩,(h _ _ a b c d).mp r⟩
 .rintro⟨⟨⟨a,b⟩,c,d⟩,r⟩;exact⟨⟨⟨a,b⟩,c,d⟩,(h _ _ a b c d).mpr r⟩
def Wn(n:Nat)(l:List Pr):Prop:=∀p,p∈l->(0<=p.1/\p.1<n)/\(0<=p.2/\p.2<n)
abbrev Mem(l:List Pr)(a b:Int):Prop:=(a,b)∈l
def BU{n:Nat}{l:List Pr}(w:Wn n l)(r:uG l):cB n (Mem l)=l:=by
 refine dO (cA n _) r λx=>?_
 rw[aJ]
 exact⟨λh=>h.2,λh=>⟨w x h,h⟩⟩
def nP(n:Nat)(R:Int->Int->Prop):Wn n (cB n R):=λ_ h=>(aJ.mp h).1
def D9(n:Nat)(R:Int->Int->Prop):(cB n R).length<=n*n:=by
 unfold cB
 refine Pf (O6 ..) ?_
 unfold bY;simp
inductive Tr(R:Int->Int->Prop):Int->Int->Prop
 |one {a b}:R a b->Tr R a b
 |more {a b c}:R a b->Tr R b c->Tr R a c
theorem Tr.trans{R:Int->Int->Prop}{a b c:Int}(h:Tr R a b)(k:Tr R b c):Tr R a c:=by
 induction h with
 |one r=>exact .more r k
 |more r _ ih=>exact .more r (ih k)
theorem Tr.least{R S:Int->Int->Prop}(f:∀a b,R a b->S a b)(t:∀a b c,S a b->S b c->S a c){a b:Int}(h:Tr R a b):S a b:=by
 induction h with
 |one r=>exact f _ _ r
 |more r _ ih=>exact t _ _ _ (f _ _ r) ih
structure Ord(n:Nat)(l:List Pr):Prop where
 lo:1<=n
 hi:n<=8
 wn:Wn n l
 ris:uG l
 irr:∀a,(a,a)∉l
 tr:∀a b c,(a,b)∈l->(b,c)∈l->(a,c)∈l
def Ord.tr_mem{n:Nat}{l:List Pr}(O:Ord n l){a b:Int}:Tr (Mem l) a b↔(a,b)∈l:=
 ⟨λh=>h.least (λ_ _ r=>r) λa b c=>O.tr a b c,λh=>.one h⟩
def Ord.closed{n:Nat}{l:List Pr}(O:Ord n l):cB n (Tr (Mem l))=l:=by
 rw[yu λa b _ _ _ _=>O.tr_mem,BU O.wn O.ris]
def IA{n:Nat}{l:List Pr}(h1:1<=n)(h8:n<=8)(w:Wn n l)(hr:∀a,¬Tr (Mem l) a a):Ord n (cB n (Tr (Mem l))):=
 ⟨h1,h8,nP n _,cA n _,λa h=>hr a (aJ.mp h).2,λa b c h k=>aJ.mpr ⟨⟨(aJ.mp h).1.1,(aJ.mp k).1.2⟩,(aJ.mp h).2.trans (aJ.mp k).2⟩⟩
theorem rT{l m:List Pr}(hl:l.Nodup)(h:∀x,x∈l->x∈m):l.length<=m.length:=by
 induction l generalizing m with
 |nil=>exact O2 _
 |cons a l ih=>
  have ha:=h a (Ol ..)
  have hl':=OS.mp hl
  have:=ih (m:=m.erase a) hl'.2 λx hx=>by
   refine(List.mem_erase_of_ne ?_).mpr (h x (Og _ hx))
   rintro rfl;exact hl'.1 hx
  rw[QN ha]at this
  have:0<m.length:=List.length_pos_of_mem ha
  simp only[ON];omega
def sub_eq{l m:List Pr}(hl:uG l)(hm:uG m)(h:∀x,x∈l->x∈m)(e:l.length=m.length):l=m:=by
 refine dO hl hm λx=>⟨h x,λhx=>Classical.byContradiction λhn=>?_⟩
 have:=rT (OS.mpr ⟨hn,eN hl⟩) λy hy=>by
  rcases Oo.mp hy with e|e
  .subst e;exact hx
  .exact h y e
 simp only[ON]at this
 omega
def more(l:List Pr):List Pr:=l.flatMap λp=>(l.filter λq=>decide (q.1=p.2)).map λq=>(p.1,q.2)
def qK{l:List Pr}{x:Pr}:x∈more l↔∃b,(x.1,b)∈l/\(b,x.2)∈l:=by
 unfold more
 rw[List.mem_flatMap]
 constructor
 .rintro⟨p,hp,hx⟩
  obtain⟨q,hq,rfl⟩:=Of.mp hx
  let⟨hq,e⟩:=Oh.mp hq
  have e:q.1=p.2:=by simpa using e
  exact⟨p.2,hp,by rw[<-e];exact hq⟩
 .rintro⟨b,h1,h2⟩
  exact⟨(x.1,b),h1,Of.mpr ⟨(b,x.2),Oh.mpr ⟨h2,by simp⟩,rfl⟩⟩
noncomputable def k6(n:Nat)(l:List Pr):List Pr:=cB n (Mem (l++more l))
structure HP(n:Nat)(ps l:List Pr):Prop where
 wn:Wn n l
 ris:uG l
 sub:∀x,x∈ps->x∈l
 sup:∀x,x∈l->Tr (Mem ps) x.1 x.2
def Ca{n:Nat}{ps:List Pr}(w:Wn n ps):HP n ps (cB n (Mem ps)):=
 ⟨nP n _,cA n _,λx hx=>aJ.mpr ⟨w x hx,hx⟩,λ_ hx=>.one (aJ.mp hx).2⟩
def Dx{n:Nat}{ps l:List Pr}(B:HP n ps l):Wn n (l++more l):=λx hx=>by
 rcases Ox.mp hx with h|h
 .exact B.wn x h
 .let⟨b,h1,h2⟩:=qK.mp h
  exact⟨(B.wn _ h1).1,(B.wn _ h2).2⟩
def wd{n:Nat}{ps l:List Pr}(B:HP n ps l):HP n ps (k6 n l)/\∀x,x∈l->x∈k6 n l:=by
 have hs:∀x,x∈l->x∈k6 n l:=λx hx=>aJ.mpr ⟨B.wn x hx,O7 _ hx⟩
 refine⟨⟨nP n _,cA n _,λx hx=>hs x (B.sub x hx),λx hx=>?_⟩,hs⟩
 rcases Ox.mp (aJ.mp hx).2 with h|h
 .exact B.sup _ h
 .let⟨b,h1,h2⟩:=qK.mp h
  exact(B.sup _ h1).trans (B.sup _ h2)
def DR{n:Nat}{ps l:List Pr}(B:HP n ps l)(e:(k6 n l).length=l.length):k6 n l=cB n (Tr (Mem ps)):=by
 let⟨B2,hs⟩:=wd B
 have q:l=k6 n l:=sub_eq B.ris B2.ris hs e.symm
 refine dO B2.ris (cA n _) λx=>⟨λh=>aJ.mpr ⟨B2.wn x h,B2.sup x h⟩,λh=>?_⟩
 rw[<-q]
 have tr:∀a b c:Int,(a,b)∈l->(b,c)∈l->(a,c)∈l:=λa b c h1 h2=>by
  rw[q]
  exact aJ.mpr ⟨⟨(B.wn _ h1).1,(B.wn _ h2).2⟩,OR _ (qK.mpr ⟨b,h1,h2⟩)⟩
 exact(aJ.mp h).2.least (λa b r=>B.sub _ r) tr
abbrev Tb:=Nat->Nat->Bool
def Tb.set(M:Tb)(a b:Nat):Tb:=λx y=>if x=a/\y=b then true else M x y
def FL(M:Tb)(m:Nat):Prop:=∀k a b,k<m->M a k=true->M k b=true->M a b=true
def Phase(M0 M:Tb)(m:Nat)(D:Nat->Nat->Prop):Prop:=∀a b,M a b=true↔M0 a b=true\/(D a b/\M0 a m=true/\M0 m b=true)
def Phase.start(M:Tb)(m:Nat):Phase M M m λ_ _=>False:=λa b=>by simp
def Phase.row{M0 M:Tb}{m:Nat}{D:Nat->Nat->Prop}(P:Phase M0 M m D)(a:Nat):M a m=true↔M0 a m=true:=by
 rw[P]
 exact⟨λh=>h.elim id λh=>h.2.1,.inl⟩
def Phase.col{M0 M:Tb}{m:Nat}{D:Nat->Nat->Prop}(P:Phase M0 M m D)(b:Nat):M m b=true↔M0 m b=true:=by
 rw[P]
 exact⟨λh=>h.elim id λh=>h.2.2,.inl⟩
def Phase.step{M0 M:Tb}{m:Nat}{D:Nat->Nat->Prop}(P:Phase M0 M m D)(x y:Nat) :
  Phase M0 (if M x m=true/\M m y=true then M.set x y else M) m (λa b=>D a b\/(a=x/\b=y)):=λa b=>by
 have r:=P.row x
 have c:=P.col y
 by_cases h:M x m=true/\M m y=true
 .rw[Od h]
  unfold Tb.set
  by_cases e:a=x/\b=y
  .rw[Od e]
   obtain⟨rfl,rfl⟩:=e
   simp only[true_iff]
   exact .inr ⟨.inr (by simp),r.mp h.1,c.mp h.2⟩
  .rw[Oe e,P]
   constructor
   .rintro (q|⟨d,q⟩)
    .exact .inl q
    .exact .inr ⟨.inl d,q⟩
   .rintro (q|⟨d|d,q⟩)
    .exact .inl q
    .exact .inr ⟨d,q⟩
    .exact absurd d e
 .rw[Oe h,P]
  constructor
  .rintro (q|⟨d,q⟩)
   .exact .inl q
   .exact .inr ⟨.inl d,q⟩
  .rintro (q|⟨d|⟨rfl,rfl⟩,q1,q2⟩)
   .exact .inl q
   .exact .inr ⟨d,q1,q2⟩
   .exact absurd ⟨r.mpr q1,c.mpr q2⟩ h
def Phase.done{M0 M:Tb}{m n:Nat}{D:Nat->Nat->Prop}(P:Phase M0 M m D)(hD:∀a b,a<n->b<n->D a b)(hM:∀a b,M0 a b=true->a<n/\b<n)(T:FL M0 m) :
  FL M (m+1)/\∀a b,M a b=true->a<n/\b<n:=by
 have hM':∀a b,M a b=true->a<n/\b<n:=λa b h=>by
  rcases(P a b).mp h with q|⟨_,q1,q2⟩
  .exact hM a b q
  .exact⟨(hM _ _ q1).1,(hM _ _ q2).2⟩
 have put:∀a b,M0 a m=true->M0 m b=true->M a b=true:=λa b h1 h2=>(P a b).mpr (.inr ⟨hD a b (hM _ _ h1).1 (hM _ _ h2).2,h1,h2⟩)
 refine⟨λk a b hk h1 h2=>?_,hM'⟩
 rcases Pe k m with c|c
 .rcases (P a k).mp h1 with q1|⟨_,q1,q1'⟩
  .rcases (P k b).mp h2 with q2|⟨_,q2,q2'⟩
   .exact (P a b).mpr (.inl (T k a b c q1 q2))
   .exact put a b (T k a m c q1 q2) q2'
  .rcases (P k b).mp h2 with q2|⟨_,q2,q2'⟩
   .exact put a b q1 (T k m b c q1' q2)
   .exact put a b q1 q2'
 .have e:k=m:=by omega
  subst e
  exact put a b ((P.row a).mp h1) ((P.col b).mp h2)
structure Tab(n:Nat)(ps:List Pr)(M:Tb):Prop where
 inn:∀a b,M a b=true->a<n/\b<n
 sub:∀a b:Nat,((a:Int),(b:Int))∈ps->M a b=true
 sup:∀a b:Nat,M a b=true->Tr (Mem ps) a b
def Tab.phase{n:Nat}{ps:List Pr}{M0 M:Tb}{m:Nat}{D:Nat->Nat->Prop}(T:Tab n ps M0)(P:Phase M0 M m D):Tab n ps M:=
 ⟨λa b h=>by
  rcases(P a b).mp h with q|⟨_,q1,q2⟩
  .exact T.inn a b q
  .exact⟨(T.inn _ _ q1).1,(T.inn _ _ q2).2⟩,
  λa b h=>(P a b).mpr (.inl (T.sub a b h)),
  λa b h=>by
  rcases(P a b).mp h with q|⟨_,q1,q2⟩
  .exact T.sup a b q
  .exact (T.sup _ _ q1).trans (T.sup _ _ q2)⟩
def Tab.all{n:Nat}{ps:List Pr}{M:Tb}(w:Wn n ps)(T:Tab n ps M)(H:FL M n)(a b:Nat):M a b=true↔Tr (Mem ps) a b:=by
 refine⟨T.sup a b,λh=>?_⟩
 have key:∀{x y:Int},Tr (Mem ps) x y->M x.toNat y.toNat=true:=λ{x y} h=>by
  induction h with
  | @one x y r=>
   have:=w _ r
   refine T.sub _ _ ?_
   have e1:((x.toNat:Nat):Int)=x:=by simp only at this;omega
   have e2:((y.toNat:Nat):Int)=y:=by simp only at this;omega
   rw[e1,e2];exact r
  | @more x y z r _ ih=>
   have:=w _ r
   have e1:((x.toNat:Nat):Int)=x:=by simp only at this;omega
   have e2:((y.toNat:Nat):Int)=y:=by simp only at this;omega
   have q:M x.toNat y.toNat=true:=T.sub _ _ (by rw[e1,e2];exact r)
   exact H y.toNat _ _ (T.inn _ _ q).2 q ih
 have:=key h
 simpa using this
end OM
namespace L2.ST
open PySem PySem.SetTable PySem.W PyProof.Rows
section
variable {prog:Program}{w:World}{A:Around}{E:Value->Shared->Prop}{s:Shared}
def JL{ps:List Pr}(hs:∀p,p∈ps->Sm p){ix:Array Nat}(P:L2.SO.Pm ps.length ix)(U:L2.SO.Up (vC ps) ix ps.length):OM.uG (ix.toList.map λi=>ps.getD i (0,0)):=by
 refine O5.mpr (QJ.mpr λi j hi hj hij=>?_)
 have hi':i<ix.size:=by simpa using hi
 have hj':j<ix.size:=by simpa using hj
 have q:=U i j hij (by rw[<-P.sz];exact hj')
 unfold L2.SO.Kp vC at q
 have ei:ix.getD i 0=ix.toList[i]:=by simp[Array.getD,hi']
 have ej:ix.getD j 0=ix.toList[j]:=by simp[Array.getD,hj']
 rw[ei,ej]at q
 have ai:ix.toList[i]<ps.length:=P.lt _ (by simp)
 have aj:ix.toList[j]<ps.length:=P.lt _ (by simp)
 have bi:Sm (ps.getD ix.toList[i] (0,0)):=by rw[OH,N8 ai];exact hs _ (Pz ai)
 have bj:Sm (ps.getD ix.toList[j] (0,0)):=by rw[OH,N8 aj];exact hs _ (Pz aj)
 exact(Ay bi bj).mp q
def J1{n:Nat}{ix:Array Nat}(P:L2.SO.Pm n ix){k:Nat}(hk:k<n):k∈ix.toList:=by
 refine Classical.byContradiction λhn=>?_
 have:=bV (OS.mpr ⟨hn,P.nd⟩) λx hx=>by
  rcases Oo.mp hx with e|e
  .rw[e];exact OI.mpr hk
  .exact OI.mpr (P.lt x (by simpa using e))
 simp[P.sz]at this
 omega
theorem Ku{h:Heap}{vs:List Value}{ps:List Pr}(hps:eQ prog w h vs ps){ix:Array Nat}(P:L2.SO.Pm vs.length ix) :
  eQ prog w h (ix.toList.map λi=>vs.getD i Value.none) (ix.toList.map λi=>ps.getD i (0,0)):=by
 refine⟨by simp,λi v p h1 h2=>?_⟩
 rw[Om]at h1 h2
 cases e:ix.toList[i]? with
 |none=>rw[e]at h1;cases h1
 |some k=>
  rw[e]at h1 h2
  have hk:k<vs.length:=P.lt k (by simpa using Oi e)
  have hk':k<ps.length:=by rw[<-hps.1];exact hk
  simp[hk,hk']at h1 h2
  exact hps.2 k v p (by rw[N8 hk,h1]) (by rw[N8 hk',h2])
def tV{v:Value}{vs:List Value}{ps:List Pr}{Q:Value->Shared->Prop}(hps:eQ prog w s.heap vs ps)(nd:ps.Nodup)(h64:vs.length<64)
  (hcol:∀(Q':List Value->Shared->Prop),(∀h' tk,(∀b o,s.heap.get? b=some o->h'.get? b=some o)->Q' vs {s with heap:=h',toks:=tk})->wpAny (model prog w) A.in1 (collect v) Q' (λe s'=>E e s') s)
  (h:∀(h1 h':Heap) (tk:Nat) (D:Addr) (out:List Value) (qs:List Pr) (c:Nat),(∀b o,s.heap.get? b=some o->h1.get? b=some o)->D=h1.objs.size->(∀b o,h1.get? b=some o->h'.get? b=some o)->h'.get? D=some (seqObj "list" out.toArray c)->eQ prog w h' out qs->(∀u,u∈out->u∈vs)->OM.uG qs->(∀p,p∈qs↔p∈ps)->
   Q (.ref D) {s with heap:=h',toks:=tk}):wpAny (model prog w) A (call (.builtin "sorted") [v]) Q E s:=by
 have hsm:∀p,p∈ps->Sm p:=λp hp=>by
  let⟨i,hi,e⟩:=O3.mp hp
  have hi':i<vs.length:=by rw[hps.1];exact hi
  let⟨_,_,_,hs⟩:=hps.2 i vs[i] p (N8 hi') (by rw[N8 hi,e])
  exact hs
 (refine Calls.call_function_entry kind_sorted plain_sorted entry_sorted (args_sorted1 _) ?_)
 unfold Builtin.«sorted»
 refine N7 (N9 (N7 (hcol _ λh1 tk1 k1=>?_)))
 have hz:vs.length<=sizeLine:=by rw[OU];omega
 refine N7 (wpAny_newList ?_ hz)
 have hoL:(h1.push (seqObj "list" vs.toArray 0)).get? h1.objs.size=some (seqObj "list" vs.toArray 0):=Ou _ rfl
 have kp:∀b o,s.heap.get? b=some o->(h1.push (seqObj "list" vs.toArray 0)).get? b=some o:=λb o e=>Oa _ (k1 b o e)
 have hp1:eQ prog w (h1.push (seqObj "list" vs.toArray 0)) vs ps:=⟨hps.1,λi v p a b=>by
  let⟨c,e,⟨o,it,n,ho,r⟩,hs⟩:=hps.2 i v p a b
  exact⟨c,e,⟨o,it,n,kp _ _ ho,r⟩,hs⟩⟩
 have hne:∀b o,s.heap.get? b=some o->b≠h1.objs.size:=λb o e=>OP (Oj (k1 b o e))
 refine N7 (O0 (Pq slot_list_sort ⟨_,hoL,rfl⟩ entry_list_sort ?_ (args_list_sort _)))
 refine xr hoL hp1 nd h64 λh' c ix P U hk ho=>⟨_,rfl,N9 ⟨_,rfl,?_⟩⟩
 have kk:∀b o,s.heap.get? b=some o->h'.get? b=some o:=λb o e=>hk b o (hne b o e) (kp b o e)
 have P':L2.SO.Pm ps.length ix:=by rw[<-hps.1];exact P
 have k2:∀b o,h1.get? b=some o->h'.get? b=some o:=λb o e=>hk b o (OP (Oj e)) (Oa _ e)
 refine h h1 h' tk1 h1.objs.size _ (ix.toList.map λi=>ps.getD i (0,0)) c k1 rfl k2 ho (Ku ⟨hps.1,λi v p a b=>?_⟩ P) (λu hu=>?_) (JL hsm P' (by rw[<-hps.1];exact U)) λp=>⟨λhp=>?_,λhp=>?_⟩
 .let⟨c,e,⟨o,it,n,ho,r⟩,hs⟩:=hps.2 i v p a b
  exact⟨c,e,⟨o,it,n,kk _ _ ho,r⟩,hs⟩
 .obtain⟨i,hi,rfl⟩:=Of.mp hu
  have:i<vs.length:=P.lt i (by simpa using hi)
  rw[OH,N8 this]
  exact Pz this
 .obtain⟨i,hi,rfl⟩:=Of.mp hp
  have:i<ps.length:=P'.lt i (by simpa using hi)
  rw[OH,N8 this]
  exact Pz this
 .let⟨i,hi,e⟩:=O3.mp hp
  refine Of.mpr ⟨i,J1 P' hi,?_⟩
  rw[OH,N8 hi,e];rfl
end
end L2.ST
namespace L2
open PySem PySem.Spec PyProof.Rows
abbrev Pr:=Int×Int
abbrev Sm:=L2.ST.Sm
section
variable {X:Cx}{pins:List (Addr×Obj)}{σ:St}{H H':Hp}{s:Shared}
def iV(H H':Hp):Prop:=(∀b xs,H b=some (.tup xs)->H' b=some (.tup xs))/\∀b o u,H b=some (.ba o u)->H' b=some (.ba o u)
def iV.trans{H H1 H2:Hp}(a:iV H H1)(b:iV H1 H2):iV H H2:=⟨λc xs h=>b.1 c xs (a.1 c xs h),λc o u h=>b.2 c o u (a.2 c o u h)⟩
def ak.grow{H H':Hp}(e:ak H H'):iV H H':=⟨λb xs h=>e b _ h,λb o u h=>e b _ h⟩
def iV.new{H:Hp}{l:Addr}{o:HO}(h:H l=none):iV H (upd H l o):=⟨λb xs e=>by rw[ar (aC e h)];exact e,λb o' u e=>by rw[ar (aC e h)];exact e⟩
def ak.new{H:Hp}{l:Addr}{o:HO}(h:H l=none):ak H (upd H l o):=λb u e=>Kt.of (by rw[ar (aC e h)];exact e)
def fF.grow{K:Frag}{a:Addr}{xs:List V}(h:fF K H a xs)(g:iV H H'):fF K H' a xs:=by
 rcases h with(h|⟨o,h⟩)|h
 .exact .inl (.inl (g.1 _ _ h))
 .exact .inl (.inr ⟨o,g.2 _ _ _ h⟩)
 .exact .inr h
def iV.list{a:Addr}{ys:List V}{o:HO}(h:H a=some (.lst ys)):iV H (upd H a o):=
 ⟨λb xs e=>by rw[ar (mO e h (by intro z;cases z))];exact e,λb o' u e=>by rw[ar (mO e h (by intro z;cases z))];exact e⟩
theorem tO{α β:Type}{f:α->β}:∀{l:List α} {m:List β},m.Perm (l.map f)->∃l':List α,m=l'.map f/\l'.Perm l:=by
 intro l m h
 generalize hk:l.map f=k at h
 induction h generalizing l with
 |nil=>
  have:l= []:=by simpa using hk
  exact⟨[],rfl,by rw[this]⟩
 | @cons x m1 m2 _ ih=>
  cases l with
  |nil=>cases hk
  |cons a l=>
   simp only[OJ,List.cons.injEq]at hk
   let⟨l',e,p⟩:=ih hk.2
   exact⟨a::l',by rw[OJ,hk.1,e],p.cons a⟩
 |swap x y m1=>
  cases l with
  |nil=>cases hk
  |cons a l=>
   cases l with
   |nil=>simp at hk
   |cons b l=>
    simp only[OJ,List.cons.injEq]at hk
    exact⟨b::a::l,by rw[OJ,OJ,hk.1,hk.2.1,hk.2.2],List.Perm.swap ..⟩
 |trans _ _ ih1 ih2=>
  let⟨l1,e1,p1⟩:=ih2 hk
  let⟨l2,e2,p2⟩:=ih1 e1.symm
  exact⟨l2,e2,p2.trans p1⟩
def aR(K:Frag)(H:Hp):List V->List Pr->Prop:=Paired λv p=>∃a,v=.ref a/\fF K H a [.int p.1,.int p.2]
def aR.grow{K:Frag}{vs:List V}{ps:List Pr}(h:aR K H vs ps)(g:iV H H'):aR K H' vs ps:=Paired.mapP h λv p ⟨a,e,q⟩=>⟨a,e,q.grow g⟩
theorem Paired.getP{α β:Type}{F:α->β->Prop}:∀{l:List α} {m:List β} {i:Nat} {x:α},Paired F l m->l[i]? =some x->∃y,m[i]? =some y/\F x y
 |_,_,_,_,.nil,e=>by simp at e
 |_,_,0,_,.cons r _,e=>by simp at e;subst e;exact⟨_,rfl,r⟩
 |_,_,i+1,x,.cons _ t,e=>by
  obtain⟨u,h1,h2⟩:=Paired.getP t (by simpa using e)
  exact⟨u,by simpa using h1,h2⟩
theorem Paired.getQ{α β:Type}{F:α->β->Prop}:∀{l:List α} {m:List β} {i:Nat} {y:β},Paired F l m->m[i]? =some y->∃x,l[i]? =some x/\F x y
 |_,_,_,_,.nil,e=>by simp at e
 |_,_,0,_,.cons r _,e=>by simp at e;subst e;exact⟨_,rfl,r⟩
 |_,_,i+1,x,.cons _ t,e=>by
  obtain⟨u,h1,h2⟩:=Paired.getQ t (by simpa using e)
  exact⟨u,by simpa using h1,h2⟩
theorem u0(I:Inv X pins σ H s){a:Addr}{p:Pr}(h:fF X.K H a [.int p.1,.int p.2]):L2.ST.b8 X.prog X.w s.heap p a:=by
 let⟨its,r,⟨o,ho,hc,n,hd⟩,_⟩:=I.tuple h
 cases r with
 |cons r1 r=>
  cases r with
  |cons r2 r=>
   cases r
   obtain⟨t1,rfl⟩:=r1
   obtain⟨t2,rfl⟩:=r2
   exact⟨o,_,n,ho,hc,hd,.cons (intKind_is ..) (.cons (intKind_is ..) .nil)⟩
def pairs_at(I:Inv X pins σ H s){vs:List V}{us:List Value}{ps:List Pr}(hv:Vals vs us)(h:aR X.K H vs ps)(hs:∀p,p∈ps->Sm p):L2.ST.eQ X.prog X.w s.heap us ps:=by
 refine⟨by rw[<-hv.length];exact Paired.length h,λi u p e1 e2=>?_⟩
 obtain⟨v,ev,a,rfl,q⟩:=Paired.getQ h e2
 let⟨u',eu,ru⟩:=hv.get ev
 rw[e1]at eu;cases eu
 cases ru
 exact⟨a,rfl,u0 I q,hs p (Oi e2)⟩
theorem rj(I:Inv X pins σ H s){vs:List V}{us:List Value}{ps:List Pr}(hv:Vals vs us)(h:aR X.K H vs ps){h':Heap}(k:∀b o,s.heap.get? b=some o->h'.get? b=some o):∀{out:List Value} {qs:List Pr},
  (∀u,u∈out->u∈us)->L2.ST.eQ X.prog X.w h' out qs->∃ws,Vals ws out/\aR X.K H ws qs
 | [],[],_,_=>⟨[],.nil,.nil⟩
 | [],_::_,_,hp=>by have:=hp.1;simp at this
 |_::_,[],_,hp=>by have:=hp.1;simp at this
 |u::out,q::qs,hm,hp=>by
  obtain⟨ws,a1,a2⟩:=rj I hv h k (λx hx=>hm x (Og _ hx)) ⟨by have:=hp.1;simpa using this,λi v p e1 e2=>hp.2 (i+1) v p (by simpa using e1) (by simpa using e2)⟩
  let⟨i,hi,e⟩:=O3.mp (hm u (Ol ..))
  have hi':i<vs.length:=by rw[hv.length];exact hi
  let⟨u',eu,ru⟩:=hv.get (N8 hi')
  rw[N8 hi,e]at eu
  cases eu
  let⟨p,ep,a,ea,qa⟩:=Paired.getP h (N8 hi')
  rw[ea]at ru
  cases ru
  let⟨b,eb,hb,_⟩:=hp.2 0 (.ref a) q rfl rfl
  cases eb
  have pa:L2.ST.b8 X.prog X.w h' p a:=by
   let⟨o,it,n,ho,r⟩:=u0 I qa
   exact⟨o,it,n,k _ _ ho,r⟩
  have:p=q:=L2.ST.b8.inj pa hb
  subst this
  exact⟨.ref a::ws,.cons rfl a1,.cons ⟨a,rfl,qa⟩ a2⟩
def Am(K:Frag):List V->Hp->VK->Prop:=λxs H Q=>∃a vs ps,xs= [.ref a]/\gY K H a vs/\aR K H vs ps/\(∀p,p∈ps->Sm p)/\ps.Nodup/\ps.length<64/\
 ∀l ws qs,H l=none->aR K H ws qs->OM.uG qs->(∀p,p∈qs↔p∈ps)->Q (.ref l) (upd H l (.lst ws))
def rH(I:Inv X pins σ H s){vs:List V}{us:List Value}{ps:List Pr}(hv:Vals vs us)(hp:aR X.K H vs ps)(hlen:ps.length<64){Q:VK}
  (q:∀l ws qs,H l=none->aR X.K H ws qs->OM.uG qs->(∀p,p∈qs↔p∈ps)->Q (.ref l) (upd H l (.lst ws)))
  {h1 h':Heap} {tk:Nat} {D:Addr} {out:List Value} {qs:List Pr} {c:Nat} (k1:∀b o,s.heap.get? b=some o->h1.get? b=some o) (eD:D=h1.objs.size) (k2:∀b o,h1.get? b=some o->h'.get? b=some o)
  (ho:h'.get? D=some (seqObj "list" out.toArray c)) (hpq:L2.ST.eQ X.prog X.w h' out qs) (hm:∀u,u∈out->u∈us) (hr:OM.uG qs) (hmem:∀p,p∈qs↔p∈ps):EP X pins σ Q (.ref D) {s with heap:=h',toks:=tk}:=by
 let⟨ws,r1,r2⟩:=rj I hv hp (λb o e=>k2 b o (k1 b o e)) hm hpq
 have I1:Inv X pins σ H {s with heap:=h1,toks:=tk}:=I.kept k1
 have hf:H D=none:=by rw[eD];exact I1.hok.fresh (Oc _)
 have hz:ws.length<=sizeLine:=by
  have e1:=r1.length
  have e2:out.length=qs.length:=hpq.1
  have e3:=OM.rT (OM.eN hr) λx hx=>(hmem x).mp hx
  rw[OU];omega
 have I2:Inv X pins σ (upd H D (.lst ws)) {s with heap:=h',toks:=tk}:=I1.laid k2 (by rw[eD];exact Oc _) (show bJ X.prog X.w _ h' _ (.lst ws)from⟨hz,out,c,r1,ho⟩)
 exact⟨.ref D,_,I2,rfl,q D ws qs hf r2 hr hmem⟩
def pA:dq X (.builtin "sorted") (Am X.K):=by
 intro pins s σ H xs us Q I r h
 obtain⟨a,vs,ps,rfl,hq,hp,hs,nd,hl,q⟩:=h
 obtain⟨u,rfl,rx⟩:=vals1 r
 cases rx
 let⟨its,rv,pl,hz⟩:=I.list hq
 have hpa:=pairs_at I rv hp hs
 have h64:its.length<64:=by rw[hpa.1];exact hl
 refine L2.ST.tV hpa nd h64 (λQ' hQ'=>collect_list pl.isList ?_ (by rw[OU];omega)) λh1 h' tk D out qs c k1 eD k2 ho hpq hm hr hmem=>?_
 .exact hQ' _ s.toks λb o e=>by
   rw[Heap.get?_update_ne _ _ _ _ (OP (Oj e)),Heap.get?_push_ne _ _ _ (OP (Oj e))];exact e
 .exact rH I rv hp hl q k1 eD k2 ho hpq hm hr hmem
abbrev vq(qs:List (Addr×Pr)):List V:=qs.map λq=>V.ref q.1
abbrev pq(qs:List (Addr×Pr)):List Pr:=qs.map (·.2)
def HB(prog:Program)(w:World)(S:Addr)(qs:List (Addr×Pr))(h:Heap):Prop:=∃o ep t,h.get? S=some o/\o.ExactSet/\o.data=.set (qs.map λq=>(L2.ST.Cj prog w q.2,Value.ref q.1)).toArray ep t/\L2.ST.Tab t (qs.map λq=>L2.ST.Cj prog w q.2)/\t.led=L2.ST.kz w
def Cc(prog:Program)(w:World)(S:Addr)(qs:List (Addr×Pr)):HO:=.ext (HB prog w S qs)
def Kz(P:Program)(w:World)(K:Frag):List V->Hp->VK->Prop:=λxs H Q=>∃a vs ps,xs= [.ref a]/\(gY K H a vs\/fF K H a vs)/\aR K H vs ps/\(∀p,p∈ps->Sm p)/\
 ∀S qs,H S=none->aR K H (vq qs) (pq qs)->(pq qs).Nodup->(∀p,p∈pq qs↔p∈ps)->Q (.ref S) (upd H S (Cc P w S qs))
def CF(hc:X.calm=true)(hu:X.A.units+64<cLine):dq X (.type "set") (Kz X.prog X.w X.K):=by
 intro pins s σ H xs us Q I r h
 obtain⟨a,vs,ps,rfl,hq,hp,hs,q⟩:=h
 obtain⟨u,rfl,rx⟩:=vals1 r
 cases rx
 have hh:=I.ok.hd hc
 have core:∀{its:List Value} {T:String} {itO:Obj} {St:Addr->Nat->Heap->Prop},Vals vs its->L2.ST.Src X.prog X.w s.heap a its T itO St->wpAny (model X.prog X.w) X.A (call (.type "set") [.ref a]) (EP X pins σ Q) X.xe s:=λ{its T itO St} rv src=>by
  refine L2.ST.sy src hh hu (pairs_at I rv hp hs) λh' tk F k=>?_
  let⟨qs,P1,P2,P3⟩:=F
  have hlen:its.length=vs.length:=rv.length.symm
  have back:∀qv:Addr×Pr,qv∈qs->∃b,b=qv.1/\fF X.K H b [.int qv.2.1,.int qv.2.2]:=λqv hqv=>by
   let⟨i,hi,e⟩:=O3.mp (Rb (P2 qv hqv).1)
   have hi':i<vs.length:=by rw[<-hlen];exact hi
   let⟨u',eu,ru⟩:=rv.get (N8 hi')
   rw[N8 hi,e]at eu
   cases eu
   let⟨p,ep,b,eb,qb⟩:=Paired.getP hp (N8 hi')
   rw[eb]at ru
   cases ru
   have pa:L2.ST.b8 X.prog X.w h' p qv.1:=by
    let⟨o,it,n,ho,r⟩:=u0 I qb
    exact⟨o,it,n,k _ _ ho,r⟩
   have:p=qv.2:=L2.ST.b8.inj pa (P1.at' qv hqv).1
   subst this
   exact⟨_,rfl,qb⟩
  have hpv:∀{l:List (Addr×Pr)},(∀x,x∈l->x∈qs)->aR X.K H (vq l) (pq l):=λ{l}=>by
   induction l with
   |nil=>intro _;exact .nil
   |cons y l ih=>
    intro hl
    let⟨b,eb,qb⟩:=back y (hl y (Ol ..))
    subst eb
    exact .cons ⟨_,rfl,qb⟩ (ih λx hx=>hl x (Og _ hx))
  have hmem:∀p,p∈pq qs↔p∈ps:=λp=>by
   have hpl:ps.length=its.length:=by rw[hlen];exact(Paired.length hp).symm
   constructor
   .intro hx
    obtain⟨qv,hqv,rfl⟩:=Of.mp hx
    exact Rb (P2 qv hqv).2
   .intro hx
    exact P3 p (by rw[<-hpl,Q4 (Oc _)];exact hx)
  have hf:H s.heap.objs.size=none:=I.hok.fresh (Oc _)
  let⟨o,ep,t,ho,r1⟩:=P1.ex
  have new:bJ X.prog X.w (upd H s.heap.objs.size (Cc X.prog X.w s.heap.objs.size qs)) h' s.heap.objs.size (Cc X.prog X.w s.heap.objs.size qs):=
   ⟨⟨o,ep,t,ho,r1⟩,⟨o,ho⟩,λh1 h2 ⟨o1,ep1,t1,g1,g2⟩ kk=>⟨o1,ep1,t1,kk _ g1,g2⟩⟩
  exact⟨.ref _,_,I.laid k (Oc _) new,rfl,q _ qs hf (hpv λx hx=>hx) P1.nd hmem⟩
 rcases hq with hq|hq
 .let⟨its,rv,pl,hz⟩:=I.list hq
  exact core rv (L2.ST.Src.list pl.isList)
 .let⟨its,rv,pl,hz⟩:=I.tuple hq
  exact core rv (L2.ST.Src.tuple pl)
def xh(P:Program)(w:World)(K:Frag):List V->Hp->VK->Prop:=λxs H Q=>∃S qs,xs= [.ref S]/\H S=some (Cc P w S qs)/\aR K H (vq qs) (pq qs)/\(∀p,p∈pq qs->Sm p)/\(pq qs).Nodup/\qs.length<64/\
 ∀l ws rs,H l=none->aR K H ws rs->OM.uG rs->(∀p,p∈rs↔p∈pq qs)->Q (.ref l) (upd H l (.lst ws))
def vF(hc:X.calm=true):dq X (.builtin "sorted") (xh X.prog X.w X.K):=by
 intro pins s σ H xs us Q I r h
 obtain⟨S,qs,rfl,hS,hp,hs,nd,hl,q⟩:=h
 obtain⟨u,rfl,rx⟩:=vals1 r
 cases rx
 have hh:=I.ok.hd hc
 obtain⟨⟨o,ep,t,ho,hex,hd,T,hled⟩,_,_⟩:HB X.prog X.w S qs s.heap/\_:=I.hok S _ hS
 have T':L2.ST.Tab t ((qs.map λq=>(L2.ST.Cj X.prog X.w q.2,Value.ref q.1)).toArray.toList.map (·.1)):=by
  rw[Qb,OX];exact T
 have htp:=L2.ST.tQ X.w S ep (qs.map λq=>(L2.ST.Cj X.prog X.w q.2,Value.ref q.1)).toArray
 have hmem:∀x,x∈(L2.ST.told X.w S ep (qs.map λq=>(L2.ST.Cj X.prog X.w q.2,Value.ref q.1)).toArray).toList->∃q,q∈qs/\x=(L2.ST.Cj X.prog X.w q.2,Value.ref q.1):=λx hx=>by
  have:=htp.mem_iff.mp hx
  simp only[Qb]at this
  let⟨q,hq,e⟩:=Of.mp this
  exact⟨q,hq,e.symm⟩
 obtain⟨q2,e2,p2⟩:∃q2:List (Addr×Pr),(L2.ST.told X.w S ep (qs.map λq=>(L2.ST.Cj X.prog X.w q.2,Value.ref q.1)).toArray).toList=q2.map (λq=>(L2.ST.Cj X.prog X.w q.2,Value.ref q.1))/\q2.Perm qs:=by
  have:=htp
  simp only[Qb]at this
  exact tO this
 have hp2:aR X.K H (vq q2) (pq q2):=by
  have key:∀{l:List (Addr×Pr)},(∀x,x∈l->x∈qs)->aR X.K H (vq l) (pq l):=λ{l}=>by
   induction l with
   |nil=>intro _;exact .nil
   |cons y l ih=>
    intro hl
    let⟨i,hi,e⟩:=O3.mp (hl y (Ol ..))
    let⟨p,ep',a,ea,qa⟩:=Paired.getP (i:=i) (x:=.ref y.1) hp (by simp[hi,e])
    have:p=y.2:=by simp[hi,e]at ep';exact ep'.symm
    subst this
    exact .cons ⟨a,ea,qa⟩ (ih λx hx=>hl x (Og _ hx))
  exact key λx hx=>p2.mem_iff.mp hx
 have hv2:Vals (vq q2) (q2.map λq=>Value.ref q.1):=by
  induction q2 with
  |nil=>exact .nil
  |cons y l ih=>exact .cons rfl (by
    clear ih e2 p2 hp2
    induction l with
    |nil=>exact .nil
    |cons z l ih2=>exact .cons rfl ih2)
 have hm2:∀p,p∈pq q2↔p∈pq qs:=λp=>(p2.map (·.2)).mem_iff
 have hpa:=pairs_at I hv2 hp2 λp hpp=>hs p ((hm2 p).mp hpp)
 have hl2:q2.length<64:=by rw[p2.length_eq];exact hl
 refine L2.ST.tV hpa ((p2.map (·.2)).nodup_iff.mpr nd) (by simpa using hl2) (λQ' hQ'=>L2.ST.wJ (by simpa using hh) ho hd hex.1 T' hled (by simp;omega) λh' tk vs ev k=>?_) λh1 h' tk D out qs' c k1 eD k2 ho' hpq hm hr hmem'=>?_
 .rw[ev,e2]
  rw[OX]
  exact hQ' h' tk k
 .exact rH I hv2 hp2 (by simpa using hl2) (λl ws rs a1 a2 a3 a4=>q l ws rs a1 a2 a3 λp=>(a4 p).trans (hm2 p)) k1 eD k2 ho' hpq hm hr hmem'
end
mutual
inductive Rep(K:Frag)(H:Hp):V->PyData->Prop
 |non:Rep K H .non .none
 |bl (b:Bool):Rep K H (.bl b) (.bool b)
 |int (i:Int):Rep K H (.int i) (.int i)
 |str (x:Str):Rep K H (.str x) (.str x)
 |tup {a:Addr} {xs:List V} {ds:List PyData}:fF K H a xs->k9 K H xs ds->Rep K H (.ref a) (.tuple ds)
 |lst {a:Addr} {xs:List V} {ds:List PyData}:gY K H a xs->k9 K H xs ds->Rep K H (.ref a) (.list ds)
inductive k9(K:Frag)(H:Hp):List V->List PyData->Prop
 |nil:k9 K H [] []
 |cons {x:V} {xs:List V} {d:PyData} {ds:List PyData}:Rep K H x d->k9 K H xs ds->k9 K H (x::xs) (d::ds)
end
section
variable {X:Cx}{pins:List (Addr×Obj)}{σ:St}{H H':Hp}{s:Shared}
mutual
theorem Rep.reads(I:Inv X pins σ H s):∀{x:V} {d:PyData} {u:Value},Rep X.K H x d->RelV x u->∃as,Reads s.heap u d as
 |_,_,_,.non,r=>by cases r;exact⟨_,.none⟩
 |_,_,_,.bl b,r=>by cases r;exact⟨_,.bool b⟩
 |_,_,_,.int i,r=>by obtain⟨t,rfl⟩:=r;exact⟨_,.int i t⟩
 |_,_,_,.str x,r=>by obtain⟨t,rfl⟩:=r;exact⟨_,.str x t⟩
 |_,_,_,.tup h hs,r=>by
  cases r
  let⟨its,rv,⟨o,ho,hc,n,hd⟩,_⟩:=I.tuple h
  let⟨as,q⟩:=k9.reads I hs rv
  exact⟨_,.tuple ho hc hd (by simpa using q)⟩
 |_,_,_,.lst h hs,r=>by
  cases r
  let⟨its,rv,pl,_⟩:=I.list h
  let⟨o,ho,hc,n,hd⟩:=pl.isList
  let⟨as,q⟩:=k9.reads I hs rv
  exact⟨_,.list ho hc hd (by simpa using q)⟩
theorem k9.reads(I:Inv X pins σ H s):∀{xs:List V} {ds:List PyData} {us:List Value},k9 X.K H xs ds->Vals xs us->∃as,ReadsAll s.heap us ds as
 |_,_,_,.nil,r=>by cases r;exact⟨_,.nil⟩
 |_,_,_,.cons h hs,r=>by
  cases r with
  |cons r1 r2=>
   obtain⟨as,q⟩:=Rep.reads I h r1
   let⟨bs,q'⟩:=k9.reads I hs r2
   exact⟨_,.cons q q'⟩
end
def Jk(K:Frag)(neg:Bool):R2:=λx y H Q=>∃d e,Rep K H x d/\Rep K H y e/\SeqAt.shaped d=true/\SeqAt.shaped e=true/\Q (.bl (if neg then !PyData.eqv d e else PyData.eqv d e)) H
def fx(hu:X.A.units+64<cLine):om X (compareOp .Eq) (Jk X.K false):=by
 intro pins s σ H x y v u Q I rx ry h
 let⟨d,e,h1,h2,s1,s2,q⟩:=h
 let⟨as,r1⟩:=h1.reads I rx
 let⟨bs,r2⟩:=h2.reads I ry
 exact SeqAt.compareEq_shaped r1 r2 s1 s2 hu ⟨.bl _,H,I,rfl,q⟩
def cH(hu:X.A.units+64<cLine):om X (compareOp .NotEq) (Jk X.K true):=by
 intro pins s σ H x y v u Q I rx ry h
 let⟨d,e,h1,h2,s1,s2,q⟩:=h
 let⟨as,r1⟩:=h1.reads I rx
 let⟨bs,r2⟩:=h2.reads I ry
 exact SeqAt.compareNe_shaped r1 r2 s1 s2 hu ⟨.bl _,H,I,rfl,q⟩
def Ka(K:Frag)(neg:Bool):R2:=λx y H Q=>∃p xs d ds,y=.ref p/\(gY K H p xs\/fF K H p xs)/\k9 K H xs ds/\Rep K H x d/\SeqAt.shaped d=true/\(∀e,e∈ds->SeqAt.shaped e=true)/\
 Q (.bl (if neg then !(ds.any λe=>PyData.eqv e d)else ds.any λe=>PyData.eqv e d)) H
theorem k9.at'{K:Frag}:∀{xs:List V} {ds:List PyData} {i:Nat} {x:V},k9 K H xs ds->xs[i]? =some x->∃d,ds[i]? =some d/\Rep K H x d
 |_,_,_,_,.nil,e=>by simp at e
 |_,_,0,_,.cons r _,e=>by simp at e;subst e;exact⟨_,rfl,r⟩
 |_,_,i+1,x,.cons _ t,e=>by
  obtain⟨u,h1,h2⟩:=k9.at' t (by simpa using e)
  exact⟨u,by simpa using h1,h2⟩
open Classical in
theorem n6(I:Inv X pins σ H s)(d:PyData):∀{xs:List V} {us:List Value} {ds:List PyData},Vals xs us->k9 X.K H xs ds->(∀e,e∈ds->SeqAt.shaped e=true)->∃f:Value->Bool,us.any f=(ds.any λe=>PyData.eqv e d)/\∀u,u∈us->∃e as,e∈ds/\Reads s.heap u e as/\f u=PyData.eqv e d:=by
 intro xs us ds hv hr hs
 let f:Value->Bool:=λu=>if h:∃e as,SeqAt.shaped e=true/\Reads s.heap u e as then PyData.eqv (Classical.choose h) d else false
 have hf:∀{u:Value} {e:PyData} {as:List Addr},SeqAt.shaped e=true->Reads s.heap u e as->f u=PyData.eqv e d:=λ{u e as} h1 h2=>by
  have hx:∃e as,SeqAt.shaped e=true/\Reads s.heap u e as:=⟨e,as,h1,h2⟩
  show(if h:∃e as,SeqAt.shaped e=true/\Reads s.heap u e as then PyData.eqv (Classical.choose h) d else false)=_
  rw[dif_pos hx]
  let⟨bs,q1,q2⟩:=Classical.choose_spec hx
  rw[SeqAt.Reads.unique _ _ _ _ _ (Qc q1) q2 h2]
 refine⟨f,?_,?_⟩
 .induction hv generalizing ds with
  |nil=>cases hr;rfl
  | @cons x u xs us r1 r2 ih=>
   cases hr with
   | @cons _ _ e es h1 h2=>
    let⟨as,q⟩:=h1.reads I r1
    rw[Qe,Qe,hf (hs e (Ol ..)) q,ih h2 λz hz=>hs z (Og _ hz)]
 .intro u hu
  let⟨i,hi,e0⟩:=O3.mp hu
  have hi':i<xs.length:=by rw[hv.length];exact hi
  let⟨u',eu,ru⟩:=hv.get (N8 hi')
  rw[N8 hi,e0]at eu
  cases eu
  let⟨e,ee,re⟩:=k9.at' hr (N8 hi')
  let⟨as,q⟩:=re.reads I ru
  have hm:=Oi ee
  exact⟨e,as,hm,q,hf (hs e hm) q⟩
def J2(hu:X.A.units+100<cLine):om X (compareOp .In) (Ka X.K false):=by
 intro pins s σ H x y v u Q I rx ry h
 obtain⟨p,xs,d,ds,rfl,hq,hs,hx,s1,s2,q⟩:=h
 cases ry
 obtain⟨bs,r2⟩:=hx.reads I rx
 have key:∀{e:PyData} {as:List Addr} {u:Value},SeqAt.shaped e=true->Reads s.heap u e as->SeqAt.EqAt X.A.in1 s u v (PyData.eqv e d):=λ{e as u} h1 h2=>by
  refine SeqAt.eqAt_reads _ _ _ _ _ _ _ _ h2 r2 (Qc h1) (Qc s1) ?_
  have:=SeqAt.depth_of_shaped h1
  show X.A.units+1+_<_
  omega
 rcases hq with hq|hq
 ·obtain⟨its,r,pl,hz⟩:=I.list hq
  obtain⟨f,e1,e2⟩:=n6 I d r hs s2
  refine SeqAt.in_listAt f pl.isList (λw hw=>?_) ⟨.bl _,H,I,rfl,?_⟩
  ·obtain⟨e,as,hm,rd,ef⟩:=e2 w (by simpa using hw)
   rw[ef];exact key (s2 e hm) rd
  ·rw[show its.toArray.any f=its.any f by simp,e1];exact q
 ·obtain⟨its,r,pl,hz⟩:=I.tuple hq
  obtain⟨f,e1,e2⟩:=n6 I d r hs s2
  refine SeqAt.in_tupleAt f pl (λw hw=>?_) ⟨.bl _,H,I,rfl,?_⟩
  ·obtain⟨e,as,hm,rd,ef⟩:=e2 w (by simpa using hw)
   rw[ef];exact key (s2 e hm) rd
  ·rw[show its.toArray.any f=its.any f by simp,e1];exact q
inductive Gd(K:Frag)(H:Hp):V->String->Prop
 |non:Gd K H .non "NoneType"
 |bl (b:Bool):Gd K H (.bl b) "bool"
 |int (i:Int):Gd K H (.int i) "int"
 |str (x:Str):Gd K H (.str x) "str"
 |tup {a:Addr} {xs:List V}:fF K H a xs->Gd K H (.ref a) "tuple"
 |lst {a:Addr} {xs:List V}:gY K H a xs->Gd K H (.ref a) "list"
 |dic {a:Addr} {kvs:List (Key×V)}:H a=some (.dK kvs)->Gd K H (.ref a) "dict"
def Nk(K:Frag):List V->Hp->VK->Prop:=λxs H Q=>∃x T t b,xs= [x,.ty T]/\Gd K H x t/\PySem.W.kitOne K (.type t) (.type T)=some b/\Q (.bl b) H
theorem EO:dq X (.builtin "isinstance") (Nk X.K):=by
 intro pins s σ H xs us Q I r h
 obtain⟨x,T,t,b,rfl,ty,e,q⟩:=h
 obtain⟨u,c,rfl,rx,rc⟩:=vals2 r
 cases rc
 have fin:∀tk,EP X pins σ Q (.bool b) {s with toks:=tk}:=λtk=>⟨.bl b,H,I.tok tk,rfl,q⟩
 cases ty with
 |non=>exact jM I rx .non e fin
 |bl b=>exact jM I rx (.bl b) e fin
 |int i=>exact jM I rx (.int i) e fin
 |str z=>exact jM I rx (.str z) e fin
 |dic hk=>exact jM I rx (.dK hk) e fin
 |tup hq=>
  cases rx
  let⟨its,rv,⟨o,h1,h2,_⟩,_⟩:=I.tuple hq
  exact Pg PySem.W.kitx_tuple I.kIn ⟨o,h1,h2⟩ e (λz=>nomatch z) fin
 |lst hq=>
  cases rx
  let⟨its,rv,pl,_⟩:=I.list hq
  let⟨o,h1,h2,_⟩:=pl.isList
  exact Pg PySem.W.kitx_list I.kIn ⟨o,h1,h2⟩ e (λz=>nomatch z) fin
def xq{A:Around}{its:List Value}{bs:List Bool}(hv:Vals (bs.map V.bl) its):TruthOf X.prog X.w A (λi v=>its[i]? =some v) (λi=>bs.getD i false):=λi v s Q E hi hq=>by
 have hl:=hv.length
 have hi2:i<bs.length:=by
  have:=(Ov.mp hi).1
  rw[<-hl]at this;simpa using this
 obtain⟨u,eu,ru⟩:=hv.get (i:=i) (x:=.bl bs[i]) (by simp[hi2])
 rw[hi]at eu;cases eu
 cases ru
 refine P0 ?_
 have:bs.getD i false=bs[i]:=by simp[hi2]
 rw[<-this];exact hq
theorem range_all(bs:List Bool):(List.range bs.length).all (λi=>bs.getD i false)=bs.all id:=by
 induction bs with
 |nil=>rfl
 |cons b bs ih=>
  rw[ON,List.range_succ_eq_map,Ri,List.all_map,Ri,<-ih]
  rfl
theorem range_any(bs:List Bool):(List.range bs.length).any (λi=>bs.getD i false)=bs.any id:=by
 induction bs with
 |nil=>rfl
 |cons b bs ih=>
  rw[ON,List.range_succ_eq_map,Qe,List.any_map,Qe,<-ih]
  rfl
def yt(K:Frag)(f:List Bool->Bool):List V->Hp->VK->Prop:=λxs H Q=>∃a bs,xs= [.ref a]/\gY K H a (bs.map V.bl)/\Q (.bl (f bs)) H
def qS(hc:X.calm=true){a:Addr}{bs:List Bool}{Q:VK}(I:Inv X pins σ H s)(hq:gY X.K H a (bs.map V.bl)){f:List Bool->Bool}{g:(Nat->Bool)->Nat->Bool}(hfg:g (λi=>bs.getD i false) bs.length=f bs)(q:Q (.bl (f bs)) H) :
  wpAny (model X.prog X.w) X.A.in1 (pyIter (.ref a)) (λit s2=>∃Ii fp wr n P St tr,it=.ref Ii/\Walks X.prog X.w X.A.in1 Ii fp wr n P St/\St 0 s2.heap/\TruthOf X.prog X.w X.A.in1 P tr/\
   ∀h' tk,(∀b o,b∉wr->s2.heap.get? b=some o->h'.get? b=some o)->EP X pins σ Q (.bool (g tr n)) {s2 with heap:=h',toks:=tk}) X.xe s:=by
 obtain⟨its,rv,pl,hz⟩:=I.list hq
 have hh:X.A.in1.handled=none:=I.ok.hd hc
 have hlen:its.length=bs.length:=by rw[<-rv.length];simp
 obtain⟨o,ho,_⟩:=id pl.isList
 refine QH pl.isList ?_
 have W:=Walks.list (prog:=X.prog) (w:=X.w) hh s.heap.objs.size a (OP (Oj ho)) its.toArray
 refine⟨s.heap.objs.size,_,_,_,_,_,λi=>bs.getD i false,rfl,W,⟨⟨_,Ou _ rfl,rfl,rfl⟩,pl.isList.push _⟩,?_,λh' tk k=>?_⟩
 ·have:=xq (X:=X) (A:=X.A.in1) rv
  simpa using this
 ·have e:its.toArray.size=bs.length:=by simpa using hlen
  rw[e,hfg]
  have I1:Inv X pins σ H {s with heap:=s.heap.push {cls:=.type "list_iterator",data:=.fields #[.ref a,.int 0 0]}}:=I.kept (t':=s.toks) λb o e=>Oa _ e
  have hf:H s.heap.objs.size=none:=I.hok.fresh (Oc _)
  have fp:=I.fpOk (H':=H) (b:=s.heap.objs.size) (Oc _) hf
  refine⟨.bl _,H,I1.turned (it:=s.heap.objs.size) (t':=tk) (λb o hb e=>k b o (by simpa using hb) e) hf fp.2.1 fp.2.2.2.1 fp.2.2.2.2.1 fp.2.2.2.2.2,rfl,q⟩
def lu(hc:X.calm=true):dq X (.builtin "all") (yt X.K λbs=>bs.all id):=by
 intro pins s σ H xs us Q I r h
 obtain⟨a,bs,rfl,hq,q⟩:=h
 obtain⟨u,rfl,rx⟩:=vals1 r
 cases rx
 exact call_all_walk (qS hc I hq (f:=λbs=>bs.all id) (g:=λtr n=>(List.range n).all tr) (range_all bs) q)
def CV(hc:X.calm=true):dq X (.builtin "any") (yt X.K λbs=>bs.any id):=by
 intro pins s σ H xs us Q I r h
 obtain⟨a,bs,rfl,hq,q⟩:=h
 obtain⟨u,rfl,rx⟩:=vals1 r
 cases rx
 exact call_any_walk (qS hc I hq (f:=λbs=>bs.any id) (g:=λtr n=>(List.range n).any tr) (range_any bs) q)
def Dk:dq X (.type "range") (λxs H Q=>∃n:Int,xs= [.int n]/\∀p,H p=none->Q (.ref p) (upd H p (.bD 0 n))):=by
 intro pins s σ H xs us Q I r h
 obtain⟨n,rfl,q⟩:=h
 obtain⟨u,rfl,rx⟩:=vals1 r
 obtain⟨t,rfl⟩:=rx
 refine call_range_1 ⟨.ref s.heap.objs.size,upd H s.heap.objs.size (.bD 0 n),?_,rfl,q _ (I.hok.fresh (Oc _))⟩
 exact I.laid (λb o e=>Oa _ e) (Oc _) ⟨_,_,_,Ou _ rfl⟩
def sW(hc:X.calm=true):dq X (.type "list") (λxs H Q=>∃p n,xs= [.ref p]/\H p=some (.bD 0 n)/\0<=n/\n<=1000/\∀l,H l=none->Q (.ref l) (upd H l (.lst ((List.range n.toNat).map λ(i:Nat)=>V.int (i:Int))))):=by
 intro pins s σ H xs us Q I r h
 obtain⟨p,n,rfl,hp,h0,h1,q⟩:=h
 obtain⟨u,rfl,rx⟩:=vals1 r
 cases rx
 obtain⟨t,u,v,hr⟩:∃t u v,s.heap.get? p=some {cls:=.type "range",data:=.fields #[.int 0 t,.int n u,.int 1 v]}:=I.hok p _ hp
 have hsz:Builtin.Range.rangeSize 0 n 1=(n.toNat:Int):=by rw[rangeSize_one];split<;>omega
 refine call_list_range (I.ok.hd hc) hr (small_one (by omega) (by omega) (by omega) (by omega)) hsz (by omega) λh' tk acc c k hS hacc=>?_
 have hv:Vals ((List.range n.toNat).map λ(i:Nat)=>V.int (i:Int)) acc.toList:=by
  have key:∀(m:Nat) (us:List Value) (j:Nat),us.length=m->(∀(i:Nat) (v:Value),us[i]? =some v->∃t,v=Value.int ((j+i:Nat):Int) t)->Vals ((List.range' j m).map λ(i:Nat)=>V.int (i:Int)) us:=by
   intro m
   induction m with
   |zero=>intro us j hl _;cases us with
    |nil=>exact .nil
    |cons a b=>simp at hl
   |succ m ih=>
    intro us j hl hh
    cases us with
    |nil=>simp at hl
    |cons u us=>
     rw[Rg,OJ]
     refine .cons (by have:=hh 0 u rfl;simp at this;exact this) (ih us (j+1) (by simpa using hl) λi v hi=>?_)
     obtain⟨t,e⟩:=hh (i+1) v (by simpa using hi)
     exact⟨t,by rw[e];congr 2;omega⟩
  have:=key n.toNat acc.toList 0 (by simpa using hacc.1) λi v hi=>by
   obtain⟨t,e⟩:=hacc.2 i v (by simpa using hi)
   exact⟨t,by rw[e];simp⟩
  rw[List.range_eq_range'];exact this
 refine⟨.ref s.heap.objs.size,_,I.laid (t':=tk) k (Oc _) (show bJ X.prog X.w _ h' _ (.lst _)from⟨by simp;rw[OU];omega,acc.toList,c,hv,by simpa using hS⟩),rfl,q _ (I.hok.fresh (Oc _))⟩
end
def Rc(h:Heap)(e:Addr)(cls:Value)(T:Addr)(fl:Value):Prop:=∃oe vs oT ts,h.get? e=some oe/\oe.cls=cls/\oe.dict=none/\oe.data=.fields vs/\vs[1]? =some (.ref T)/\vs[2]? =some .none/\T≠e/\h.get? T=some oT/\oT.data=.fields ts/\ts[3]? =some fl
abbrev Keeps(F:List Addr)(ch:List Addr)(h h':Heap):Prop:=∀b o,h.get? b=some o->b∉F->b∉ch->h'.get? b=some o
abbrev Slots(F:List Addr)(h h':Heap):Prop:=∀b o,h.get? b=some o->b∈F->∃sl,h'.get? b=some {o with slots:=sl}
section
variable {M:Model}{A:Around}{E:Value->Shared->Prop}{s:Shared}{base:Heap}{env:Env}{outer:List Env}{L e:Addr}{cls:Value}{Q:Unit->Shared->Prop}
def Kc{oe:Obj}{vs:Array Value}{head:Value}{hadNext:Bool}(hfr:A.frames=some (env::outer))(hl:s.heap.FunFrames base (env::outer))(hf:env.frame=some L)(he:s.heap.get? e=some oe)(hc:oe.cls=cls)(hdd:oe.dict=none)(hd:oe.data=.fields vs)(hsz:1<vs.size)(h2:vs[2]? =some .none)
  (h:∀h' T,Keeps (nH (env::outer)) [e] s.heap h'->Slots (nH (env::outer)) s.heap h'->s.heap.get? T=none->Rc h' e cls T (rawInt L)->Q () {s with heap:=h'}) :
  wpAny M A (do let a <-frameOf env;let pl <-entryPlaceOf L hadNext;let b <-EntryCells.newEntry head a .none (rawInt L) .none pl;setField (.ref e) 1 b) Q E s:=by
 have eF:e∉nH (env::outer):=λz=>by
  let⟨_,o,q,n⟩:=hl.mem z
  rw[he]at q;cases q;exact n _ hd
 refine N7 (wpAny_frameOf_fun hfr hl hf λh1 s1=>(N7 (wpAny_entryPlaceOf λpl hpl=>?_)))
 unfold EntryCells.newEntry newFields
 refine N7 (O8 ?_ (hpl.sizeOk5 _ _ _ _ _))
 have e1:h1.get? e=some oe:=(s1.2.1 e eF).trans he
 have e2:=Oa {cls:=.type "traceback",dict:=none,data:=.fields ([head,.ref L,.none,rawInt L,.none]++(if pl.isEmpty then List.replicate 6 Value.none else pl)).toArray} e1
 have tn:h1.objs.size≠e:=QL (Oj e1)
 refine Qw e2 hd hsz (h _ h1.objs.size (λb o q hb hn=>?_) (λb o q hb=>?_) ?_ ?_)
 .have hbe:b≠e:=by simpa using hn
  have q1:h1.get? b=some o:=(s1.2.1 b hb).trans q
  rw[Pd _ _ (Ne.symm hbe)]
  exact Oa _ q1
 .let⟨sl,q1⟩:=s1.2.2 b o q
  have hbe:b≠e:=λz=>eF (z▸hb)
  refine⟨sl,?_⟩
  rw[Pd _ _ (Ne.symm hbe)]
  exact Oa _ q1
 .cases q:s.heap.get? h1.objs.size with
  |none=>rfl
  |some o=>let⟨sl,q1⟩:=s1.2.2 _ o q;exact absurd (Oj q1) (O1 _)
 .have d3:=Ro hd (·.setIfInBounds 1 (Value.ref h1.objs.size))
  have e3:=OQ (Obj.mapFields (·.setIfInBounds 1 (Value.ref h1.objs.size))) e2 (Obj.isFreed_of_fields d3)
  refine⟨_,_,_,_,e3,(Obj.cls_mapFields _ _).trans hc,?_,d3,by simp[hsz],by rw[Array.getElem?_setIfInBounds_ne (by omega)];exact h2,tn,(Pd _ _ (Ne.symm tn)).trans (Ou h1 rfl),rfl,?_⟩
  .unfold Obj.mapFields
   split<;>exact hdd
  .rcases hpl with rfl|⟨_,_,_,_,_,_,_,rfl⟩<;>simp
def BI{T0:Addr}(hfr:A.frames=some (env::outer))(hl:s.heap.FunFrames base (env::outer))(hf:env.frame=some L)(r:Rc s.heap e cls T0 .none)
  (h:∀h' T,Keeps (nH (env::outer)) [e,T0] s.heap h'->Slots (nH (env::outer)) s.heap h'->(s.heap.get? T=none\/T=T0)->Rc h' e cls T (rawInt L)->Q () {s with heap:=h'}):wpAny M A (noteFrame (.ref e) env) Q E s:=by
 let⟨oe,vs,oT,ts,he,hc,hdd,hd,h1,h2,hTe,hT,hdT,h3⟩:=r
 have tF:T0∉nH (env::outer):=λz=>by
  let⟨_,o,q,n⟩:=hl.mem z
  rw[hT]at q;cases q;exact n _ hdT
 unfold noteFrame
 simp only[hf]
 refine N7 (wpAny_field he hd h1 ?_)
 rw[Od (show(Value.ref T0 != Value.none)=true from by simp)]
 refine N7 (wpAny_field hT hdT h3 ?_)
 rw[Oe (show ¬((Value.none==rawInt L)=true)from by simp[rawInt])]
 refine N7 (Qw hT hdT (Px.mp h3).1 ?_)
 have oth:∀b,b≠T0->(s.heap.update T0 (Obj.mapFields (·.setIfInBounds 3 Value.none))).get? b=s.heap.get? b:=λb hb=>Pd _ _ (Ne.symm hb)
 have nf:∀b o,s.heap.get? b=some o->(∀ws,o.data≠.fields ws)->b≠T0:=λb o q n z=>by
  rw[z,hT]at q;cases q;exact n _ hdT
 refine Kc hfr (hl.of_keeps λb o q n=>⟨o,(oth b (nf b o q n)).trans q,rfl⟩) hf ((oth e (Ne.symm hTe)).trans he) hc hdd hd (Px.mp h1).1 h2 λh' T kp sl tn rc=>?_
 refine h h' T (λb o q hb hn=>?_) (λb o q hb=>?_) ?_ rc
 .simp only[Oo,List.not_mem_nil,or_false,not_or]at hn
  exact kp b o ((oth b hn.2).trans q) hb (by simp[hn.1])
 .exact sl b o ((oth b λz=>tF (z▸hb)).trans q) hb
 .by_cases z:T=T0
  .exact .inr z
  .exact .inl ((oth T z).symm.trans tn)
def GY{T:Addr}{fl:Value}(r:Rc s.heap e cls T fl)(h:∀h',Keeps [] [T] s.heap h'->Rc h' e cls T .none->Q () {s with heap:=h'}):wpAny M A (setFlight (.ref e) none) Q E s:=by
 let⟨oe,vs,oT,ts,he,hc,hdd,hd,h1,h2,hTe,hT,hdT,h3⟩:=r
 have sz:3<ts.size:=(Px.mp h3).1
 unfold setFlight
 refine N7 (wpAny_field he hd h1 ?_)
 rw[Od (show(Value.ref T != Value.none)=true from by simp)]
 refine Qw hT hdT sz (h _ (λb o q _ hn=>?_) ?_)
 .have hb:b≠T:=by simpa using hn
  exact(Pd _ _ (Ne.symm hb)).trans q
 .have d3:=Ro hdT (·.setIfInBounds 3 ((none:Option Addr).elim Value.none λf=>rawInt f))
  exact⟨oe,vs,_,_,(Pd _ _ hTe).trans he,hc,hdd,hd,h1,h2,hTe,OQ _ hT (Obj.isFreed_of_fields d3),d3,by simp[sz]⟩
end
section
variable {P:Program}{w:World}
theorem bJ.there{H:Hp}{h:Heap}{a:Addr}{o:HO}(x:bJ P w H h a o):∃u,h.get? a=some u:=by
 cases o with
 |lst xs=>let⟨_,_,_,_,e⟩:=x;exact⟨_,e⟩
 |tup xs=>let⟨_,_,_,u,e,_⟩:=x;exact⟨u,e⟩
 |dK kvs=>let⟨_,_,_,_,o,_,_,e,_⟩:=x;exact⟨_,e⟩
 |dT kvs ep=>let⟨_,_,_,_,o,_,e,_⟩:=x;exact⟨_,e⟩
 |set S n=>let⟨o,_,_,_,e,_⟩:=x;exact⟨_,e⟩
 |ins C dx fs=>let⟨_,_,_,e,_⟩:=x;exact⟨_,e⟩
 |own y=>let⟨_,e⟩:=x;exact⟨_,e⟩
 |xd fs=>let⟨_,⟨_,_,_,e,_⟩,_⟩:=x;exact⟨_,e⟩
 |bD lo hi=>let⟨_,_,_,e⟩:=x;exact⟨_,e⟩
 |ba ob u=>let⟨e,_⟩:=x;exact⟨_,e⟩
 |tbl ps=>exact⟨_,show h.get? a=some _ from x⟩
 |met f y=>exact⟨_,show h.get? a=some _ from x⟩
 |ext φ=>let⟨_,⟨_,e⟩,_⟩:=x;exact⟨_,e⟩
end
structure Lies(h₀:Heap)(H:Hp)(h:Heap)(e:Addr)(cls:Value):Prop where
 free:H e=none
 new:h₀.get? e=none
 ob:∃T,Rc h e cls T .none/\H T=none/\h₀.get? T=none
def ue(P:Program)(w:World):By:=λouter H s E e s'=>∃ea cls H',e=.ref ea/\s'.os=s.os/\AllBare s'.gens/\Un (nH outer) [] H H' s.heap s'.heap/\lH P w H' s'.heap/\Lies s.heap H' s'.heap ea cls/\E cls none H'
section
variable {P:Program}{w:World}{M:Model}{A:Around}{E':Value->Shared->Prop}{s:Shared}{env:Env}{outer:List Env}{L e:Addr}{cls:Value}{base h₀:Heap}{H:Hp}{Q:Unit->Shared->Prop}
def EK{h h':Heap}(hok:lH P w H h)(k:∀b o,h.get? b=some o->(∃u,H b=some u)->h'.get? b=some o):lH P w H h':=λa o ha=>
 (hok a o ha).stay (λb u hb q=>k b u q (hb.elim (λz=>⟨o,by rw[z];exact ha⟩) λz=>⟨_,z⟩)) (λ_ q=>q) λ_ _ q=>q
def Ct(hfr:A.frames=some (env::outer))(hf:env.frame=some L)(hfn:s.heap.FunFrames base (env::outer))(hok:lH P w H s.heap)(hff:∀b∈nH (env::outer),H b=none)(Ly:Lies h₀ H s.heap e cls)(hex:∀b o,h₀.get? b=some o->∃o',s.heap.get? b=some o')
  (hQ:∀h',(∀b o,s.heap.get? b=some o->b∉nH (env::outer)->((∃o0,h₀.get? b=some o0)\/∃u,H b=some u)->h'.get? b=some o)->(∀b o,s.heap.get? b=some o->b∈nH (env::outer)->∃sl,h'.get? b=some {o with slots:=sl})->Lies h₀ H h' e cls->lH P w H h'->Q () {s with heap:=h'}) :
  wpAny M A (leaving env (.ref e)) Q E' s:=by
 let⟨fr,nw,T0,rc,hHT,hnT⟩:=Ly
 let⟨oe,vs,oT,ts,he,hc,hdd,hd,h1,h2,hTe,hT,hdT,h3⟩:=id rc
 have tF:T0∉nH (env::outer):=λz=>by
  let⟨_,o,q,n⟩:=hfn.mem z
  rw[hT]at q;cases q;exact n _ hdT
 unfold leaving
 refine N7 (BI hfr hfn hf rc λh4 T kp sl tn rc4=>GY rc4 λh5 kp5 rc5=>?_)
 have nT:∀b o,s.heap.get? b=some o->b≠T0->b≠T:=λb o q n z=>by
  rcases tn with tn|tn
  .rw[z,tn]at q;cases q
  .exact n (z.trans tn)
 have kept:∀b o,s.heap.get? b=some o->b∉nH (env::outer)->((∃o0,h₀.get? b=some o0)\/∃u,H b=some u)->h5.get? b=some o:=λb o q hb hor=>by
  have be:b≠e:=λz=>by subst z;rcases hor with⟨_,z⟩|⟨_,z⟩<;>simp_all
  have bT:b≠T0:=λz=>by subst z;rcases hor with⟨_,z⟩|⟨_,z⟩<;>simp_all
  exact kp5 b o (kp b o q hb (by simp[be,bT])) (by simp) (by simp[nT b o q bT])
 have slot:∀b o,s.heap.get? b=some o->b∈nH (env::outer)->∃sl,h5.get? b=some {o with slots:=sl}:=λb o q hb=>by
  let⟨x,q4⟩:=sl b o q hb
  exact⟨x,kp5 b _ q4 (by simp) (by simp[nT b o q λz=>tF (z▸hb)])⟩
 have fresh:H T=none/\h₀.get? T=none:=by
  rcases tn with tn|tn
  .refine⟨?_,?_⟩
   .cases q:H T with
    |none=>rfl
    |some u=>let⟨o,qo⟩:=(hok T u q).there;rw[tn]at qo;cases qo
   .cases q:h₀.get? T with
    |none=>rfl
    |some u=>let⟨o,qo⟩:=hex T u q;rw[tn]at qo;cases qo
  .rw[tn];exact⟨hHT,hnT⟩
 refine hQ h5 kept slot ⟨fr,nw,T,rc5,fresh.1,fresh.2⟩ (EK hok λb o q hu=>kept b o q (λz=>?_) (.inr hu))
 let⟨u,hu⟩:=hu
 rw[hff b z]at hu;cases hu
end
section
variable {P:Program}{w:World}{K:Frag}{mg:Str->Option Value}{base:Heap}{N:List Str}{qual:Str}{scope:Scope}{f:Addr}{cd:Value}{A:Around}{outer:List Env}{s0:Shared}{H0:Hp}{E:XK}
def bf:Passes (ue P w) (sZ (ue P w) P w K mg base N qual scope f cd A outer s0 H0 E) E:=by
 intro pins σ H s e s' I hcx
 obtain⟨ea,cls,H',rfl,os,bare,un,hok,Ly,q⟩:=hcx
 have I':=I.call' os un hok bare (λb hb=>absurd hb (by simp))
 have old:∀{b:Addr},s.heap.get? b=none->s0.heap.get? b=none:=λ{b} hb=>by
  cases z:s0.heap.get? b with
  |none=>rfl
  |some o=>let⟨o',z'⟩:=I.base.there b o z (show b∉([]:List Addr) by simp);rw[hb]at z';cases z'
 have Ly0:Lies s0.heap H' s'.heap ea cls:=by
  let⟨fr,nw,T,rc,hHT,hnT⟩:=Ly
  exact⟨fr,old nw,T,rc,hHT,old hnT⟩
 have above:s0.heap.objs.size<=(envOfC qual scope s0.heap.objs.size f cd).locals:=I.ok.above
 refine Ct I'.ok.frames rfl I'.stack I'.hok I'.stkFree Ly0 (λb o z=>I'.base.there b o z (show b∉([]:List Addr) by simp)) λh' kept slot Ly' hok'=>?_
 have nL:∀{b:Addr} {o:Obj},s0.heap.get? b=some o->b∉nH outer->b∉nH (envOfC qual scope s0.heap.objs.size f cd::outer):=λ{b o} z hb hm=>by
  rcases Oo.mp (I'.stkSub b hm)with e|e
  .have:=Oj z
   rw[e]at this
   exact absurd (OZ this above) (O1 _)
  .exact hb e
 have inn:∀{b:Addr},b∈nH outer->b∈nH (envOfC qual scope s0.heap.objs.size f cd::outer):=λ{b} hb=>by
  let⟨en,h1,h2⟩:=QY.mp hb
  exact QY.mpr ⟨en,Og _ h1,h2⟩
 refine⟨ea,cls,H',rfl,os.trans I.os,bare,⟨λb o z n hb _=>?_,λb o z n hb _=>?_,λb o z n _=>I'.base.free b o z n (show b∉([]:List Addr) by simp),λb o z _=>?_,I'.base.tups,I'.base.frzs,I'.base.tbls⟩,hok',Ly',q⟩
 .exact kept b o (I'.base.keep b o z n hb (show b∉([]:List Addr) by simp)) (nL z hb) (.inl ⟨o,z⟩)
 .let⟨sl,z1⟩:=I'.base.slot b o z n hb (show b∉([]:List Addr) by simp)
  let⟨sl2,z2⟩:=slot b _ z1 (inn hb)
  exact⟨sl2,z2⟩
 .let⟨o',z1⟩:=I'.base.there b o z (show b∉([]:List Addr) by simp)
  by_cases hb:b∈nH (envOfC qual scope s0.heap.objs.size f cd::outer)
  .let⟨sl,z2⟩:=slot b o' z1 hb
   exact⟨_,z2⟩
  .exact⟨o',kept b o' z1 hb (.inl ⟨o,z⟩)⟩
end
abbrev D:=PyData
def kD:Key->D
 | .inl i=>.int i
 | .inr x=>.str x
mutual
inductive Rp(K:Frag)(G:Hp):V->D->Prop
 |non:Rp K G .non .none
 |bl (b:Bool):Rp K G (.bl b) (.bool b)
 |int (i:Int):Rp K G (.int i) (.int i)
 |str (x:Str):Rp K G (.str x) (.str x)
 |tup {a:Addr} {xs:List V} {ds:List D}:fF K G a xs->cE K G xs ds->Rp K G (.ref a) (.tuple ds)
 |lst {a:Addr} {xs:List V} {ds:List D}:G a=some (.lst xs)->cE K G xs ds->Rp K G (.ref a) (.list ds)
 |scr {a:Addr} {ns:List Int}:gY K G a (ns.map V.int)->Rp K G (.ref a) (.dict [(.none,.list (ns.map int))])
 |dK {a:Addr} {kvs:List (Key×V)} {ds:List (D×D)}:G a=some (.dK kvs)->yi K G kvs ds->Rp K G (.ref a) (.dict ds)
 |dT {a:Addr} {kvs:List (List Key×V)} {ep:Nat} {ds:List (D×D)}:G a=some (.dT kvs ep)->mX K G kvs ds->Rp K G (.ref a) (.dict ds)
inductive cE(K:Frag)(G:Hp):List V->List D->Prop
 |nil:cE K G [] []
 |cons {x:V} {xs:List V} {d:D} {ds:List D}:Rp K G x d->cE K G xs ds->cE K G (x::xs) (d::ds)
inductive yi(K:Frag)(G:Hp):List (Key×V)->List (D×D)->Prop
 |one {k:Key} {x:V} {d:D}:Rp K G x d->yi K G [(k,x)] [(kD k,d)]
 |cons {k:Key} {x:V} {xs:List (Key×V)} {d:D} {ds:List (D×D)}:Rp K G x d->yi K G xs ds->yi K G ((k,x)::xs) ((kD k,d)::ds)
inductive mX(K:Frag)(G:Hp):List (List Key×V)->List (D×D)->Prop
 |nil:mX K G [] []
 |cons {k:List Key} {x:V} {xs:List (List Key×V)} {d:D} {ds:List (D×D)}:Rp K G x d->mX K G xs ds->mX K G ((k,x)::xs) ((.tuple (k.map kD),d)::ds)
end
section
variable {K:Frag}{G G' H H':Hp}
def K2{b:Addr}{o:HO}(h:Kt H b o)(hu:∀ps,o≠.tbl ps):H b=some o:=by
 obtain⟨u,e,k,_⟩:=h.some
 rw[e,k hu]
def EW{b:Addr}{o:HO}{xs:List V}(h:Kt H b o)(e:H b=some (.lst xs)):o=.lst xs:=by
 obtain⟨u,eu,k1,k2⟩:=h.some
 rw[e]at eu
 cases eu
 by_cases c:∃ps,o=.tbl ps
 ·obtain⟨ps,z⟩:=k2 c;cases z
 ·exact(k1 λps z=>c ⟨ps,z⟩).symm
theorem jC{a b:Addr}{o u:HO}(h:Kt H b u)(hb:b≠a)(ha:∀x y,H a≠some (.ba x y)):Kt (upd H a o) b u:=by
 cases u with
 |tbl ps=>
  obtain⟨m,e,t,k⟩:=h
  refine⟨m,by rw[ar hb];exact e,t,λc hc=>?_⟩
  obtain⟨x,ex,ix⟩:=k c hc
  exact⟨x,by rw[ar (λz=>ha x _ (z▸ex))];exact ex,ix⟩
 |_=>exact(ar hb).trans h
def Rd.mono{a:Addr}{u:HO}(h:Rd G a u)(s:ak G G')(hu:∀ps,u≠.tbl ps:=by intro _ z;cases z):Rd G' a u:=h.elim (λe=>.inl (K2 (s _ _ e) hu)) λ⟨o,e⟩=>.inr ⟨o,s _ _ e⟩
mutual
theorem Rp.mono(s:ak G G'):∀{x:V} {d:D},Rp K G x d->Rp K G' x d
 |_,_,.non=>.non
 |_,_,.bl b=>.bl b
 |_,_,.int i=>.int i
 |_,_,.str x=>.str x
 |_,_,.tup h hs=>.tup (h.grow s.grow) (cE.mono s hs)
 |_,_,.lst h hs=>.lst (s _ _ h) (cE.mono s hs)
 |_,_,.scr h=>.scr (s.seq h)
 |_,_,.dK h hs=>.dK (s _ _ h) (yi.mono s hs)
 |_,_,.dT h hs=>.dT (s _ _ h) (mX.mono s hs)
theorem cE.mono(s:ak G G'):∀{xs:List V} {ds:List D},cE K G xs ds->cE K G' xs ds
 |_,_,.nil=>.nil
 |_,_,.cons h hs=>.cons (Rp.mono s h) (cE.mono s hs)
theorem yi.mono(s:ak G G'):∀{xs:List (Key×V)} {ds:List (D×D)},yi K G xs ds->yi K G' xs ds
 |_,_,.one h=>.one (Rp.mono s h)
 |_,_,.cons h hs=>.cons (Rp.mono s h) (yi.mono s hs)
theorem mX.mono(s:ak G G'):∀{xs:List (List Key×V)} {ds:List (D×D)},mX K G xs ds->mX K G' xs ds
 |_,_,.nil=>.nil
 |_,_,.cons h hs=>.cons (Rp.mono s h) (mX.mono s hs)
end
theorem cE.len:∀{xs:List V} {ds:List D},cE K G xs ds->xs.length=ds.length
 |_,_,.nil=>rfl
 |_,_,.cons _ t=>by simp[cE.len t]
theorem cE.at:∀{xs:List V} {ds:List D} {i:Nat} {d:D},cE K G xs ds->ds[i]? =some d->∃x,xs[i]? =some x/\Rp K G x d
 |_,_,_,_,.nil,e=>by simp at e
 |_,_,0,_,.cons r _,e=>by simp at e;subst e;exact⟨_,rfl,r⟩
 |_,_,i+1,x,.cons _ t,e=>by
  obtain⟨u,h1,h2⟩:=cE.at (i:=i) (d:=x) t (by simpa using e)
  exact⟨u,by simpa using h1,h2⟩
theorem cE.at':∀{xs:List V} {ds:List D} {i:Nat} {x:V},cE K G xs ds->xs[i]? =some x->∃d,ds[i]? =some d/\Rp K G x d
 |_,_,_,_,.nil,e=>by simp at e
 |_,_,0,_,.cons r _,e=>by simp at e;subst e;exact⟨_,rfl,r⟩
 |_,_,i+1,x,.cons _ t,e=>by
  obtain⟨u,h1,h2⟩:=cE.at' (i:=i) (x:=x) t (by simpa using e)
  exact⟨u,by simpa using h1,h2⟩
theorem cE.append:∀{xs ys:List V} {ds es:List D},cE K G xs ds->cE K G ys es->cE K G (xs++ys) (ds++es)
 |_,_,_,_,.nil,s=>s
 |_,_,_,_,.cons r t,s=>.cons r (cE.append t s)
def cE.snoc{xs:List V}{ds:List D}{x:V}{d:D}(h:cE K G xs ds)(q:Rp K G x d):cE K G (xs++[x]) (ds++[d]):=h.append (.cons q .nil)
mutual
def Dl:D->Bool
 | .dict _=>false
 | .list ds=>sN ds
 | .tuple ds=>sN ds
 |_=>true
def sN:List D->Bool
 | []=>true
 |d::ds=>Dl d&&sN ds
end
mutual
theorem Rp.rep:∀{x:V} {d:D},Rp K G x d->Dl d=true->Rep K G x d
 |_,_,.non,_=>.non
 |_,_,.bl b,_=>.bl b
 |_,_,.int i,_=>.int i
 |_,_,.str x,_=>.str x
 |_,_,.tup h hs,e=>.tup h (cE.reps hs (by simpa[Dl]using e))
 |_,_,.lst h hs,e=>.lst (.inl (.inl h)) (cE.reps hs (by simpa[Dl]using e))
 |_,_,.scr _,e=>by simp[Dl]at e
 |_,_,.dK _ _,e=>by simp[Dl]at e
 |_,_,.dT _ _,e=>by simp[Dl]at e
theorem cE.reps:∀{xs:List V} {ds:List D},cE K G xs ds->sN ds=true->k9 K G xs ds
 |_,_,.nil,_=>.nil
 |_,_,.cons h hs,e=>.cons (Rp.rep h (by simp[sN]at e;exact e.1)) (cE.reps hs (by simp[sN]at e;exact e.2))
end
def Own(K:Frag)(G H:Hp)(a:Addr):D->Prop
 | .list ds=>∃xs,H a=some (.lst xs)/\cE K G xs ds
 | .dict ds=>(∃kvs,H a=some (.dK kvs)/\yi K G kvs ds)\/∃q:List (List Key×V)×Nat,H a=some (.dT q.1 q.2)/\mX K G q.1 ds
 |_=>False
def Own.obj{a:Addr}{d:D}(h:Own K G H a d):∃o,H a=some o:=by
 cases d<;>first|exact h.elim|skip
 ·obtain⟨xs,e,_⟩:=h;exact⟨_,e⟩
 ·rcases h with⟨_,e,_⟩|⟨_,e,_⟩<;>exact⟨_,e⟩
def Own.mono{a:Addr}{d:D}(h:Own K G H a d)(s:ak G G')(m:∀o,H a=some o->Kt H' a o):Own K G' H' a d:=by
 cases d<;>first|exact h.elim|skip
 ·obtain⟨xs,e,r⟩:=h;exact⟨xs,m _ e,r.mono s⟩
 ·rcases h with⟨k,e,r⟩|⟨k,e,r⟩
  ·exact .inl ⟨k,m _ e,r.mono s⟩
  ·exact .inr ⟨k,m _ e,r.mono s⟩
def Own.rp{a:Addr}{d:D}(h:Own K G H a d)(n:G a=none){G':Hp}(s:ak G G')(e:∀o,H a=some o->G' a=some o):Rp K G' (.ref a) d:=by
 cases d<;>first|exact h.elim|skip
 ·obtain⟨xs,q,r⟩:=h;exact .lst (e _ q) (r.mono s)
 ·rcases h with⟨k,q,r⟩|⟨k,q,r⟩
  ·exact .dK (e _ q) (r.mono s)
  ·exact .dT (e _ q) (r.mono s)
def kY(K:Frag)(B:Option Addr)(G H:Hp)(v:V)(d:D):Prop:=Rp K G v d\/∃a,v=.ref a/\B≠some a/\Own K G H a d
def iQ(B:Option Addr)(H H':Hp):Prop:=(∀b o,H b=some o->B≠some b->Kt H' b o)/\∀b o u,H b=some (.ba o u)->H' b=some (.ba o u)
def iQ.refl(B:Option Addr)(H:Hp):iQ B H H:=⟨λ_ _ h _=>Kt.of h,λ_ _ _ h=>h⟩
theorem zu{B:Option Addr}{b:Addr}{o:HO}(h1:Kt H b o)(y:iQ B H H')(n:B≠some b):Kt H' b o:=by
 cases o with
 |tbl ps=>
  obtain⟨m,e,t,k⟩:=h1
  obtain⟨m2,e2,t2,k2⟩:=y.1 b _ e n
  refine⟨m++m2,by rw[e2,Array.append_assoc],by rw[Rk];exact t.app t2,λc hc=>?_⟩
  rw[Rk,Ox]at hc
  rcases hc with hc|hc
  ·obtain⟨o,eo,io⟩:=k c hc;exact⟨o,y.2 c _ _ eo,io⟩
  ·exact k2 c hc
 |_=>exact y.1 b _ h1 n
def iQ.trans{B:Option Addr}{H1:Hp}(x:iQ B H H1)(y:iQ B H1 H'):iQ B H H':=⟨λb o h n=>zu (x.1 b o h n) y n,λb o u h=>y.2 b o u (x.2 b o u h)⟩
def ak.mov(s:ak H H')(B:Option Addr):iQ B H H':=⟨λb o h _=>s b o h,λb o u h=>s b _ h⟩
def kY.mono{B:Option Addr}{v:V}{d:D}(h:kY K B G H v d)(s:ak G G')(m:iQ B H H'):kY K B G' H' v d:=by
 rcases h with h|⟨a,e,n,h⟩
 ·exact .inl (h.mono s)
 ·exact .inr ⟨a,e,n,h.mono s λo q=>m.1 a o q n⟩
def kY.rpH{B:Option Addr}{v:V}{d:D}(h:kY K B G H v d)(s:ak G H):Rp K H v d:=by
 rcases h with h|⟨a,rfl,n,h⟩
 ·exact h.mono s
 ·cases d<;>first|exact h.elim|skip
  ·obtain⟨xs,q,r⟩:=h;exact .lst q (r.mono s)
  ·rcases h with⟨k,q,r⟩|⟨k,q,r⟩
   ·exact .dK q (r.mono s)
   ·exact .dT q (r.mono s)
def kY.list{B:Option Addr}{v:V}{ds:List D}(h:kY K B G H v (.list ds))(s:ak G H):∃a xs,v=.ref a/\Rd H a (.lst xs)/\cE K G xs ds:=by
 rcases h with h|⟨a,rfl,n,xs,q,r⟩
 ·cases h with
  |lst h r=>exact⟨_,_,rfl,.inl (s _ _ h),r⟩
 ·exact⟨a,xs,rfl,.inl q,r⟩
def kY.tuple{B:Option Addr}{v:V}{ds:List D}(h:kY K B G H v (.tuple ds))(s:ak G H):∃a xs,v=.ref a/\fF K H a xs/\cE K G xs ds:=by
 rcases h with h|⟨a,rfl,n,h⟩
 ·cases h with
  |tup h r=>exact⟨_,_,rfl,h.grow s.grow,r⟩
 ·exact h.elim
def kY.int{B:Option Addr}{v:V}{i:Int}(h:kY K B G H v (.int i)):v=.int i:=by
 rcases h with h|⟨a,rfl,n,h⟩
 ·cases h;rfl
 ·exact h.elim
def kY.bool{B:Option Addr}{v:V}{b:Bool}(h:kY K B G H v (.bool b)):v=.bl b:=by
 rcases h with h|⟨a,rfl,n,h⟩
 ·cases h;rfl
 ·exact h.elim
def kY.str{B:Option Addr}{v:V}{x:Str}(h:kY K B G H v (.str x)):v=.str x:=by
 rcases h with h|⟨a,rfl,n,h⟩
 ·cases h;rfl
 ·exact h.elim
def kY.none{B:Option Addr}{v:V}(h:kY K B G H v .none):v=.non:=by
 rcases h with h|⟨a,rfl,n,h⟩
 ·cases h;rfl
 ·exact h.elim
end
def Fz:HO->Prop
 | .tup _=>True
 | .ba _ _=>True
 |_=>False
def Mx(H:Hp)(b:Addr):Prop:=H b≠none/\∀o,H b=some o->¬Fz o
def Mx.lst{H:Hp}{b:Addr}{xs:List V}(h:H b=some (.lst xs)):Mx H b:=⟨by rw[h];simp,λys z=>by rw[h]at z;cases z;exact λy=>y⟩
theorem Mx.same{H H':Hp}{b:Addr}(h:Mx H b)(m:∀o,H b=some o->Kt H' b o):Mx H' b:=by
 let⟨h1,h2⟩:=h
 cases e:H b with
 |none=>exact absurd e h1
 |some o=>
  let⟨u,eu,k1,k2⟩:=(m o e).some
  refine⟨by rw[eu];simp,λxs z=>?_⟩
  rw[eu]at z
  cases z
  by_cases c:∃ps,o=.tbl ps
  .let⟨ps,e⟩:=k2 c;rw[e];exact λy=>y
  .rw[k1 λps e=>c ⟨ps,e⟩];exact h2 o e
def Own.mx{K:Frag}{G H:Hp}{a:Addr}{d:D}(h:Own K G H a d):Mx H a:=by
 cases d<;>first|exact h.elim|skip
 .let⟨xs,e,_⟩:=h;exact Mx.lst e
 .rcases h with⟨k,e,_⟩|⟨k,e,_⟩<;>exact⟨by rw[e];simp,λys z=>by rw[e]at z;cases z;exact λy=>y⟩
open Classical in
noncomputable def c9(G H:Hp):Hp:=λb=>match G b with
 |some o=>some o
 |none=>match H b with
  |some o=>if Fz o then some o else none
  |none=>none
def oN{G H:Hp}:ak G (c9 G H):=λb o e=>Kt.of (by unfold c9;rw[e])
theorem Ai{G H:Hp}(s:ak G H){b:Addr}{o:HO}(e:H b=some o)(f:Fz o):c9 G H b=some o:=by
 unfold c9
 cases q:G b with
 |some u=>
  let⟨u',eu,k1,k2⟩:=(s b u q).some
  rw[e]at eu
  cases eu
  by_cases c:∃ps,u=.tbl ps
  .let⟨ps,z⟩:=k2 c;subst z;exact f.elim
  .rw[k1 λps z=>c ⟨ps,z⟩]
 |none=>simp only[e];rw[Od f]
theorem rK{G H:Hp}(s:ak G H):ak (c9 G H) H:=λb o e=>by
 unfold c9 at e
 cases q:G b with
 |some u=>rw[q]at e;cases e;exact s b _ q
 |none=>
  rw[q]at e
  cases q2:H b with
  |none=>rw[q2]at e;cases e
  |some u=>
   rw[q2]at e
   dsimp only at e
   split at e
   .cases e;exact Kt.of q2
   .cases e
theorem z6{G H H':Hp}(hh:ak H H'){b:Addr}(m:Mx H b):c9 G H' b=G b:=by
 unfold c9
 cases q:G b with
 |some u=>rfl
 |none=>
  let⟨h1,h2⟩:=m
  cases e:H b with
  |none=>exact absurd e h1
  |some o=>
   have hm:=(show Mx H b from⟨h1,h2⟩).same (hh b)
   cases e2:H' b with
   |none=>rfl
   |some u=>simp only;rw[Oe (hm.2 u e2)]
def fh{K:Frag}{G H:Hp}(s:ak G H){a:Addr}{xs:List V}(h:fF K H a xs):fF K (c9 G H) a xs:=by
 rcases h with(h|⟨o,h⟩)|h
 .exact .inl (.inl (Ai s h trivial))
 .exact .inl (.inr ⟨o,Ai s h trivial⟩)
 .exact .inr h
structure Fx where
 K:Frag
 H0:Hp
 G0:Hp
 par:List Addr
 ca:Str->Addr
 br:Nat->Bool
 bx:Option Addr
inductive Sl where
 |no|fz (d:D)|ow (d:D)|bx|br (d:D)
abbrev En:=List Sl
inductive Nv where
 |no|da (d:D)|bx
def Sl.val:Sl->Nv
 | .no=>.no
 | .fz d=>.da d
 | .ow d=>.da d
 | .br d=>.da d
 | .bx=>.bx
def vl(env:En):List Nv:=env.map Sl.val
def Nx(Γ:Fx)(B:Option Addr)(G H:Hp)(i:Nat)(o:Option (Option V)):Sl->Prop
 | .no=>True
 | .fz d=>∃v,o=some (some v)/\Rp Γ.K G v d
 | .ow d=>∃a,o=some (some (.ref a))/\Γ.H0 a=none/\G a=none/\B≠some a/\Own Γ.K G H a d
 | .bx=>∃a,o=some (some (.ref a))/\B=some a
 | .br d=>Γ.br i=true/\∃a,o=some (some (.ref a))/\B≠some a/\a∉Γ.par/\Own Γ.K G H a d
structure SR(Γ:Fx)(B:Option Addr)(G H:Hp)(σ:St)(env:En)(β:Int):Prop where
 sub:ak G H
 old:ak Γ.G0 G
 new:∀b,Mx Γ.H0 b->Γ.G0 b=none->G b=none
 keep:∀b o,Γ.H0 b=some o->b∉Γ.par->Kt H b o
 pin:∀b,b∈Γ.par->Mx H b
 fix:∀b,Γ.bx=some b->B=some b
 box:∀b,B=some b->H b=some (.lst [.int β])/\G b=none/\(b∈Γ.par\/Γ.H0 b=none)
 len:σ.length=env.length
 slot:∀(i:Nat) (s:Sl),env[i]? =some s->Nx Γ B G H i (σ[i]?) s
 sep:∀(i j:Nat) (a:Addr) (d e:D),env[i]? =some (.ow d)->env[j]? =some (.ow e)->σ[i]? =some (some (.ref a))->σ[j]? =some (some (.ref a))->i=j
structure Ext(G H G' H':Hp):Prop where
 hh:ak H H'
 gg:ak G G'
 gh:ak G' H'
 on:∀b,Mx H b->G' b=G b
def Ext.refl{G H:Hp}(s:ak G H):Ext G H G H:=⟨ak.refl _,ak.refl _,s,λ_ _=>rfl⟩
def Ext.tups{G H H':Hp}(s:ak G H)(hh:ak H H'):Ext G H (c9 G H') H':=⟨hh,oN,rK (s.trans hh),λ_ m=>z6 hh m⟩
def Ext.new{G H:Hp}(s:ak G H){p:Addr}{o:HO}(h:H p=none):Ext G H (upd G p o) (upd H p o):=by
 refine⟨ak.new h,ak.new (s.free h),λb u e=>?_,λb hb=>?_⟩
 .by_cases z:b=p
  .subst z;rw[av]at e;exact Kt.of (by rw[av];exact e)
  .rw[ar z]at e;exact jC (s b u e) z (λx y w=>by rw[h]at w;cases w)
 .exact ar (λz=>hb.1 (by rw[z];exact h))
def Ext.own{G H:Hp}(s:ak G H){p:Addr}{o:HO}(h:H p=none):Ext G H G (upd H p o):=
 ⟨ak.new h,ak.refl _,s.trans (ak.new h),λ_ _=>rfl⟩
def Ext.trans{G H G1 H1 G2 H2:Hp}(x:Ext G H G1 H1)(y:Ext G1 H1 G2 H2):Ext G H G2 H2:=by
 refine⟨x.hh.trans y.hh,x.gg.trans y.gg,y.gh,λb hb=>?_⟩
 rw[y.on b (hb.same λo e=>x.hh b o e),x.on b hb]
section
variable {Γ:Fx}{B:Option Addr}{G H G' H':Hp}{σ:St}{env:En}{β:Int}
def SR.there(I:SR Γ B G H σ env β){b:Addr}(h:Γ.H0 b≠none):H b≠none:=by
 by_cases hp:b∈Γ.par
 .exact (I.pin b hp).1
 .cases e:Γ.H0 b with
  |none=>exact absurd e h
  |some o=>let⟨u,eu,_⟩:=(I.keep b o e hp).some;rw[eu];simp
def SR.thereM(I:SR Γ B G H σ env β){b:Addr}(h:Mx Γ.H0 b):Mx H b:=by
 by_cases hp:b∈Γ.par
 .exact I.pin b hp
 .exact h.same λo e=>I.keep b o e hp
def SR.ext(I:SR Γ B G H σ env β)(x:Ext G H G' H'):SR Γ B G' H' σ env β:=by
 refine⟨x.gh,I.old.trans x.gg,λb h1 h2=>?_,λb o h1 h2=>(I.keep b o h1 h2).step x.hh,λb hb=>?_,I.fix,λb e=>?_,I.len,λi s e=>?_,I.sep⟩
 .rw[x.on b (I.thereM h1)];exact I.new b h1 h2
 .exact (I.pin b hb).same λo e=>x.hh b o e
 .let⟨h1,h2,h3⟩:=I.box b e
  exact⟨x.hh b _ h1,by rw[x.on b (Mx.lst h1)];exact h2,h3⟩
 .have q:=I.slot i s e
  cases s with
  |no=>trivial
  |fz d=>let⟨v,h1,h2⟩:=q;exact⟨v,h1,h2.mono x.gg⟩
  |ow d=>
   let⟨a,h1,h2,h3,h4,h5⟩:=q
   exact⟨a,h1,h2,by rw[x.on a h5.mx];exact h3,h4,h5.mono x.gg λo q=>x.hh a o q⟩
  |bx=>exact q
  |br d=>let⟨b1,a,h1,h4,hp,h5⟩:=q;exact⟨b1,a,h1,h4,hp,h5.mono x.gg λo q=>x.hh a o q⟩
def jR(env:En)(i:Nat):En:=match env[i]? with
 |some (.ow d)=>env.set i (.fz d)
 |_=>env
def ba(L:List Nat)(env:En):En:=L.foldl jR env
def dR(L M:List Nat)(env:En):ba (L++M) env=ba M (ba L env):=by unfold ba;rw[List.foldl_append]
def yA(env:En)(i:Nat)(s:Sl)(h:∀t,env[i]? =some t->t.val=s.val):vl (env.set i s)=vl env:=by
 unfold vl
 apply Qo
 intro j
 rw[Om,Om,Q5]
 by_cases e:i=j
 .subst e
  by_cases hi:i<env.length
  .simp only[O9,hi]
   have:=h _ (N8 hi)
   simp[N8 hi,this]
  .simp only[O9,hi,OY]
   rw[PH (by omega)]
 .simp[e]
def Hw(env:En)(i:Nat):vl (jR env i)=vl env:=by
 unfold jR
 split
 .rename_i d e
  exact yA _ _ _ λt ht=>by rw[e]at ht;cases ht;rfl
 .rfl
theorem jW(L:List Nat)(env:En):vl (ba L env)=vl env:=by
 unfold ba
 induction L generalizing env with
 |nil=>rfl
 |cons i L ih=>rw[Qk,ih,Hw]
theorem HY{i:Nat}{d:D}(h:(vl env)[i]? =some (.da d)):env[i]? =some (.fz d)\/env[i]? =some (.ow d)\/env[i]? =some (.br d):=by
 unfold vl at h
 rw[Om]at h
 cases e:env[i]? with
 |none=>rw[e]at h;simp at h
 |some s=>
  rw[e]at h
  cases s with
  |no=>simp[Sl.val]at h
  |fz d'=>simp[Sl.val]at h;subst h;exact .inl rfl
  |ow d'=>simp[Sl.val]at h;subst h;exact .inr (.inl rfl)
  |bx=>simp[Sl.val]at h
  |br d'=>simp[Sl.val]at h;subst h;exact .inr (.inr rfl)
theorem Ky{i:Nat}(h:(vl env)[i]? =some .bx):env[i]? =some .bx:=by
 unfold vl at h
 rw[Om]at h
 cases e:env[i]? with
 |none=>rw[e]at h;simp at h
 |some s=>
  rw[e]at h
  cases s with
  |bx=>rfl
  |_=>simp[Sl.val]at h
def SR.freeze(I:SR Γ B G H σ env β)(i:Nat)(hb:Γ.br i=false){d:D}(h:(vl env)[i]? =some (.da d)):∃G' v,SR Γ B G' H σ (jR env i) β/\ak G G'/\σ[i]? =some (some v)/\Rp Γ.K G' v d:=by
 rcases HY h with e|e|e
 .let⟨v,h1,h2⟩:=I.slot i _ e
  exact⟨G,v,by unfold jR;rw[e];exact I,ak.refl _,h1,h2⟩
 rotate_left
 .let⟨z,_⟩:=I.slot i _ e
  rw[hb]at z;cases z
 .let⟨a,h1,h2,h3,h4,h5⟩:=I.slot i _ e
  let⟨o,ho⟩:=h5.obj
  have sG:ak G (upd G a o):=ak.new h3
  have hi:i<env.length:=(Ov.mp e).1
  have hr:Rp Γ.K (upd G a o) (.ref a) d:=h5.rp h3 sG λo' q=>by rw[ho]at q;cases q;exact av
  refine⟨upd G a o,.ref a,?_,sG,h1,hr⟩
  unfold jR
  rw[e]
  refine⟨λb u q=>?_,I.old.trans sG,λb n1 n2=>?_,I.keep,I.pin,I.fix,λb q=>?_,by rw[Pp];exact I.len,λj s q=>?_,λj k c d1 d2 q1 q2 q3 q4=>?_⟩
  .by_cases z:b=a
   .subst z;rw[av]at q;cases q;exact Kt.of ho
   .rw[ar z]at q;exact I.sub b u q
  .rw[ar (λz=>n1.1 (by rw[z];exact h2))];exact I.new b n1 n2
  .let⟨k1,k2,k3⟩:=I.box b q
   exact⟨k1,by rw[ar (λz=>h4 (by rw[<-z];exact q))];exact k2,k3⟩
  .by_cases z:j=i
   .subst z
    rw[OE hi]at q
    cases q
    exact⟨.ref a,h1,hr⟩
   .rw[Oq (Ne.symm z)]at q
    have w:=I.slot j s q
    cases s with
    |no=>trivial
    |fz d'=>let⟨v,w1,w2⟩:=w;exact⟨v,w1,w2.mono sG⟩
    |ow d'=>
     let⟨c,w1,w2,w3,w4,w5⟩:=w
     have ca:c≠a:=λz2=>z (I.sep j i c d' d q e w1 (by rw[z2];exact h1))
     exact⟨c,w1,w2,by rw[ar ca];exact w3,w4,w5.mono sG λo q=>Kt.of q⟩
    |bx=>exact w
    |br d'=>let⟨b1,c,w1,w4,wp,w5⟩:=w;exact⟨b1,c,w1,w4,wp,w5.mono sG λo q=>Kt.of q⟩
  .have ne:∀{j:Nat} {d':D},(env.set i (Sl.fz d))[j]? =some (.ow d')->env[j]? =some (.ow d'):=λ{j d'} q=>by
    by_cases z:j=i
    .subst z;rw[OE hi]at q;cases q
    .rw[Oq (Ne.symm z)]at q;exact q
   exact I.sep j k c d1 d2 (ne q1) (ne q2) q3 q4
theorem SR.ba(I:SR Γ B G H σ env β)(L:List Nat)(hb:∀i,i∈L->Γ.br i=false):∃G',SR Γ B G' H σ (ba L env) β/\ak G G':=by
 induction L generalizing env G with
 |nil=>exact⟨G,I,ak.refl _⟩
 |cons i L ih=>
  show ∃G',SR Γ B G' H σ (L2.ba L (jR env i)) β/\ak G G'
  have key:∃G1,SR Γ B G1 H σ (jR env i) β/\ak G G1:=by
   cases e:env[i]? with
   |none=>exact⟨G,by unfold jR;rw[e];exact I,ak.refl _⟩
   |some s=>
    cases s with
    |ow d=>
     obtain⟨G1,v,h1,h2,_⟩:=I.freeze i (hb i (Ol ..)) (d:=d) (by unfold vl;rw[Om,e];rfl)
     exact⟨G1,h1,h2⟩
    |_=>exact⟨G,by unfold jR;rw[e];exact I,ak.refl _⟩
  obtain⟨G1,I1,s1⟩:=key
  obtain⟨G2,I2,s2⟩:=ih I1 λj hj=>hb j (Og _ hj)
  exact⟨G2,I2,s1.trans s2⟩
def SR.set(I:SR Γ B G H σ env β){i:Nat}(hi:i<env.length){v:V}{d:D}(h:Rp Γ.K G v d):SR Γ B G H (σ.set i (some v)) (env.set i (.fz d)) β:=by
 have hs:i<σ.length:=by rw[I.len];exact hi
 refine⟨I.sub,I.old,I.new,I.keep,I.pin,I.fix,I.box,by rw[Pp,Pp];exact I.len,λj s q=>?_,λj k c d1 d2 q1 q2 q3 q4=>?_⟩
 .by_cases z:j=i
  .subst z
   rw[OE hi]at q
   cases q
   exact⟨v,by rw[OE hs],h⟩
  .rw[Oq (Ne.symm z)]at q ⊢
   exact I.slot j s q
 .have ne:∀{j:Nat} {d':D},(env.set i (Sl.fz d))[j]? =some (.ow d')->j≠i/\env[j]? =some (.ow d'):=λ{j d'} q=>by
   by_cases z:j=i
   .subst z;rw[OE hi]at q;cases q
   .rw[Oq (Ne.symm z)]at q;exact⟨z,q⟩
  let⟨n1,e1⟩:=ne q1
  let⟨n2,e2⟩:=ne q2
  rw[Oq (Ne.symm n1)]at q3
  rw[Oq (Ne.symm n2)]at q4
  exact I.sep j k c d1 d2 e1 e2 q3 q4
def SR.setOw(I:SR Γ B G H σ env β){i:Nat}(hi:i<env.length){a:Addr}{d:D}(h0:Γ.H0 a=none)(hg:G a=none)(hb:B≠some a)(h:Own Γ.K G H a d)(hn:∀(j:Nat) (d':D),env[j]? =some (.ow d')->j≠i->σ[j]?≠some (some (.ref a))):SR Γ B G H (σ.set i (some (.ref a))) (env.set i (.ow d)) β:=by
 have hs:i<σ.length:=by rw[I.len];exact hi
 refine⟨I.sub,I.old,I.new,I.keep,I.pin,I.fix,I.box,by rw[Pp,Pp];exact I.len,λj s q=>?_,λj k c d1 d2 q1 q2 q3 q4=>?_⟩
 .by_cases z:j=i
  .subst z
   rw[OE hi]at q
   cases q
   exact⟨a,by rw[OE hs],h0,hg,hb,h⟩
  .rw[Oq (Ne.symm z)]at q ⊢
   exact I.slot j s q
 .by_cases z1:j=i
  .by_cases z2:k=i
   .rw[z1,z2]
   .subst z1
    rw[Oq (Ne.symm z2)]at q2 q4
    rw[OE hs]at q3
    cases q3
    exact absurd q4 (hn k d2 q2 z2)
  .by_cases z2:k=i
   .subst z2
    rw[Oq (Ne.symm z1)]at q1 q3
    rw[OE hs]at q4
    cases q4
    exact absurd q3 (hn j d1 q1 z1)
   .rw[Oq (Ne.symm z1)]at q1 q3
    rw[Oq (Ne.symm z2)]at q2 q4
    exact I.sep j k c d1 d2 q1 q2 q3 q4
def SR.fresh(I:SR Γ B G H σ env β){a:Addr}(h:H a=none):Γ.H0 a=none/\G a=none/\B≠some a/\∀(j:Nat) (d:D),env[j]? =some (.ow d)->σ[j]?≠some (some (.ref a)):=by
 have hB:B≠some a:=λz=>by rw[(I.box a z).1]at h;cases h
 refine⟨?_,I.sub.free h,hB,λj d e z=>?_⟩
 .cases e:Γ.H0 a with
  |none=>rfl
  |some o=>exact absurd h (I.there (by rw[e];simp))
 .let⟨c,h1,_,_,_,h5⟩:=I.slot j _ e
  rw[z]at h1
  cases h1
  let⟨o,ho⟩:=h5.obj
  rw[h]at ho;cases ho
def SR.write(I:SR Γ B G H σ env β)(hb:∀j,Γ.br j=false){i:Nat}{a:Addr}{d d':D}{o:HO}(e:env[i]? =some (.ow d))(ea:σ[i]? =some (some (.ref a)))(h:∀H',H' a=some o->ak G H'->Own Γ.K G H' a d'):SR Γ B G (upd H a o) σ (env.set i (.ow d')) β:=by
 let⟨a',h1,h2,h3,h4,h5⟩:=I.slot i _ e
 rw[ea]at h1;cases h1
 have hi:i<env.length:=(Ov.mp e).1
 have ha:∀x y,H a≠some (.ba x y):=λx y w=>h5.mx.2 _ w trivial
 have sub:ak G (upd H a o):=λb u q=>jC (I.sub b u q) (λz=>by rw[z,h3]at q;cases q) ha
 refine⟨sub,I.old,I.new,λb u q n=>?_,λb q=>?_,I.fix,λb q=>?_,by rw[Pp];exact I.len,λj s q=>?_,λj k c d1 d2 q1 q2 q3 q4=>?_⟩
 .exact jC (I.keep b u q n) (λz=>by rw[z,h2]at q;cases q) ha
 .by_cases z:b=a
  .subst z;exact(h _ av sub).mx
  .exact (I.pin b q).same λo e=>Kt.of (by rw[ar z];exact e)
 .let⟨k1,k2,k3⟩:=I.box b q
  exact⟨by rw[ar (λz=>h4 (by rw[<-z];exact q))];exact k1,k2,k3⟩
 .by_cases z:j=i
  .subst z
   rw[OE hi]at q
   cases q
   exact⟨a,ea,h2,h3,h4,h _ av sub⟩
  .rw[Oq (Ne.symm z)]at q
   have w:=I.slot j s q
   cases s with
   |no=>trivial
   |fz d1=>exact w
   |ow d1=>
    let⟨c,w1,w2,w3,w4,w5⟩:=w
    have ca:c≠a:=λz2=>z (I.sep j i c d1 d q e w1 (by rw[z2];exact ea))
    exact⟨c,w1,w2,w3,w4,w5.mono (ak.refl _) λo q=>Kt.of (by rw[ar ca];exact q)⟩
   |bx=>exact w
   |br d1=>let⟨b1,_⟩:=w;rw[hb j]at b1;cases b1
 .have back:∀{j:Nat} {d1:D},(env.set i (Sl.ow d'))[j]? =some (.ow d1)->∃d2,env[j]? =some (.ow d2):=λ{j d1} q=>by
   by_cases z:j=i
   .subst z;exact⟨d,e⟩
   .rw[Oq (Ne.symm z)]at q;exact⟨d1,q⟩
  let⟨_,b1⟩:=back q1
  let⟨_,b2⟩:=back q2
  exact I.sep j k c _ _ b1 b2 q3 q4
end
inductive R(α:Type) where
 |ok (a:α) (β:Int)
 |exc (c:Str)
 |bad
def R.bnd{α γ:Type}(r:R α)(k:α->Int->R γ):R γ:=match r with
 | .ok a β=>k a β
 | .exc c=>.exc c
 | .bad=>.bad
def R.of{α:Type}(o:Option α)(β:Int):R α:=match o with
 |some a=>.ok a β
 |none=>.bad
abbrev VF(α:Type):=List Nv->Int->R α
def Kp(Γ:Fx)(H':Hp):Prop:=∀b o,Γ.H0 b=some o->b∉Γ.par->Kt H' b o
def Out{α:Type}(Γ:Fx)(E:XK)(r:R α)(P:α->Int->Prop):Prop:=match r with
 | .ok a β=>P a β
 | .exc c=>∀H',Kp Γ H'->E (.ref (Γ.ca c)) none H'
 | .bad=>False
section
variable {α γ:Type}{Γ:Fx}{E:XK}
theorem Out.bnd{r:R α}{k:α->Int->R γ}{P:γ->Int->Prop}(h:Out Γ E (r.bnd k) P):Out Γ E r λa β=>Out Γ E (k a β) P:=by
 cases r with
 |ok a β=>exact h
 |exc c=>exact h
 |bad=>exact h
theorem Out.imp{r:R α}{P P':α->Int->Prop}(h:Out Γ E r P)(i:∀a β,P a β->P' a β):Out Γ E r P':=by
 cases r with
 |ok a β=>exact i a β h
 |exc c=>exact h
 |bad=>exact h
theorem Out.of{o:Option α}{β:Int}{P:α->Int->Prop}(h:Out Γ E (R.of o β) P):∃a,o=some a/\P a β:=by
 cases o with
 |none=>exact h.elim
 |some a=>exact⟨a,rfl,h⟩
end
inductive Md where
 |b|v|w
def VO(K:Frag)(B:Option Addr)(H G' H':Hp):Md->D->V->Prop
 | .b,d,v=>kY K B G' H' v d
 | .v,d,v=>Rp K G' v d
 | .w,d,v=>∃a,v=.ref a/\H a=none/\G' a=none/\Own K G' H' a d
def pT(Γ:Fx)(E:XK)(f:VF D)(L:List Nat)(md:Md):TE:=λσ H Q=>∃env G B β,SR Γ B G H σ env β/\
 Out Γ E (f (vl env) β) λd β'=>∀v G' H',SR Γ B G' H' σ (ba L env) β'->ak G G'->iQ B H H'->VO Γ.K B H G' H' md d v->Q v H'
def SE(X:Cx)(Γ:Fx)(E:XK)(e:Expr)(f:VF D)(L:List Nat)(md:Md):Prop:=PE X e (pT Γ E f L md)
def qT(Γ:Fx)(E:XK)(f:VF Bool)(L:List Nat):TT:=λσ H Q=>∃env G B β,SR Γ B G H σ env β/\
 Out Γ E (f (vl env) β) λc β'=>∀G' H',SR Γ B G' H' σ (ba L env) β'->ak G G'->iQ B H H'->Q c H'
def yx(X:Cx)(Γ:Fx)(E:XK)(e:Expr)(f:VF Bool)(L:List Nat):Prop:=PT X e (qT Γ E f L)
def qf(X:Cx)(Γ:Fx)(E:XK)(e:Expr)(f:VF Bool)(L:List Nat):Prop:=PW X e (qT Γ E f L)
def aT(Γ:Fx)(E:XK)(f:VF (List D))(L:List Nat):TA:=λσ H Q=>∃env G B β,SR Γ B G H σ env β/\
 Out Γ E (f (vl env) β) λds β'=>∀vs G' H',SR Γ B G' H' σ (ba L env) β'->ak G G'->iQ B H H'->cE Γ.K G' vs ds->Q vs H'
def SA(X:Cx)(Γ:Fx)(E:XK)(es:List Expr)(f:VF (List D))(L:List Nat):Prop:=PA X es (aT Γ E f L)
def PE.post'{X:Cx}{e:Expr}{t u:TE}(h:PE X e t)(m:∀σ H Q,u σ H Q->t σ H Q):PE X e u:=λpins s σ H Q I q=>h pins s σ H Q I (m σ H Q q)
def PT.post{X:Cx}{e:Expr}{t u:TT}(h:PT X e t)(m:∀σ H Q,u σ H Q->t σ H Q):PT X e u:=λpins s σ H Q I q=>h pins s σ H Q I (m σ H Q q)
def PW.post{X:Cx}{e:Expr}{t u:TT}(h:PW X e t)(m:∀σ H Q,u σ H Q->t σ H Q):PW X e u:=λwh pins s σ H Q I q=>h wh pins s σ H Q I (m σ H Q q)
def PA.post{X:Cx}{es:List Expr}{t u:TA}(h:PA X es t)(m:∀σ H Q,u σ H Q->t σ H Q):PA X es u:=λpos pins s σ H Q I q=>h pos pins s σ H Q I (m σ H Q q)
def PS.post{X:Cx}{st:Stmt}{t u:TS}(h:PS X st t)(m:∀D σ H,u D σ H->t D σ H):PS X st u:=λpins s σ H D I q=>h pins s σ H D I (m D σ H q)
def dat:Option Nv->Option D
 |some (.da d)=>some d
 |_=>none
def gv(i:Nat):VF D:=λvs β=>R.of (dat vs[i]?) β
def cst(d:D):VF D:=λ_ β=>.ok d β
section
variable {X:Cx}{Γ:Fx}{E:XK}{e a b c:Expr}{f fa fb fc:VF D}{L La Lb Lc:List Nat}{md ma mb mc:Md}{pos:Pos}
theorem join_some{o:Option Nv}{d:D}(h:dat o=some d):o=some (.da d):=by
 cases o with
 |none=>cases h
 |some o=>cases o with
  |da x=>cases h;rfl
  |_=>cases h
def SR.letIn{B:Option Addr}{G H:Hp}{σ:St}{env:En}{β:Int}(I:SR Γ B G H σ env β){p:Addr}{d:D}(h0:Γ.H0 p=none)(hg:G p=none)(hb:B≠some p)(hn:∀(j:Nat) (d':D),env[j]? =some (.ow d')->σ[j]?≠some (some (.ref p)))(h:Own Γ.K G H p d) :
  ∃G',SR Γ B G' H σ env β/\ak G G'/\Rp Γ.K G' (.ref p) d:=by
 let⟨o,ho⟩:=h.obj
 have sG:ak G (upd G p o):=ak.new hg
 refine⟨upd G p o,⟨λb u q=>?_,I.old.trans sG,λb n1 n2=>?_,I.keep,I.pin,I.fix,λb q=>?_,I.len,λj s q=>?_,I.sep⟩,sG,h.rp hg sG λo' q=>by rw[ho]at q;cases q;exact av⟩
 .by_cases z:b=p
  .subst z;rw[av]at q;cases q;exact Kt.of ho
  .rw[ar z]at q;exact I.sub b u q
 .rw[ar (λz=>n1.1 (by rw[z];exact h0))];exact I.new b n1 n2
 .let⟨k1,k2,k3⟩:=I.box b q
  exact⟨k1,by rw[ar (λz=>hb (by rw[<-z];exact q))];exact k2,k3⟩
 .have w:=I.slot j s q
  cases s with
  |no=>trivial
  |fz d'=>let⟨v,w1,w2⟩:=w;exact⟨v,w1,w2.mono sG⟩
  |ow d'=>
   let⟨c,w1,w2,w3,w4,w5⟩:=w
   have ca:c≠p:=λz2=>hn j d' q (by rw[<-z2];exact w1)
   exact⟨c,w1,w2,by rw[ar ca];exact w3,w4,w5.mono sG λo q=>Kt.of q⟩
  |bx=>exact w
  |br d'=>let⟨b1,c,w1,w4,wp,w5⟩:=w;exact⟨b1,c,w1,w4,wp,w5.mono sG λo q=>Kt.of q⟩
def As{env:En}{i j:Nat}{d:D}(h:(jR env i)[j]? =some (.ow d)):env[j]? =some (.ow d):=by
 unfold jR at h
 split at h
 .rename_i d' e
  by_cases z:i=j
  .subst z
   rw[OE (Ov.mp e).1]at h;cases h
  .rw[Oq z]at h;exact h
 .exact h
theorem vg{L:List Nat}{env:En}{j:Nat}{d:D}(h:(ba L env)[j]? =some (.ow d)):env[j]? =some (.ow d):=by
 unfold ba at h
 induction L generalizing env with
 |nil=>exact h
 |cons i L ih=>exact As (ih h)
def SR.letW{B:Option Addr}{G H G' H':Hp}{σ:St}{env:En}{β β':Int}{L:List Nat}{d:D}{v:V}(I:SR Γ B G H σ env β)(I':SR Γ B G' H' σ (L2.ba L env) β')(h:VO Γ.K B H G' H' .w d v):∃G2,SR Γ B G2 H' σ (L2.ba L env) β'/\ak G' G2/\Rp Γ.K G2 v d:=by
 obtain⟨p,rfl,h1,h2,h3⟩:=h
 let⟨q1,q2,q3,q4⟩:=I.fresh h1
 exact I'.letIn q1 h2 q3 (λj d' e=>q4 j d' (vg e)) h3
def SE.wv(h:SE X Γ E e f L .w):SE X Γ E e f L .v:=by
 refine PE.post' h λσ H Q ⟨env,G,B,β,I,o⟩=>⟨env,G,B,β,I,o.imp λd β' k v G' H' I' s m vo=>?_⟩
 let⟨G2,I2,s2,r⟩:=I.letW I' vo
 exact k v G2 H' I2 (s.trans s2) m r
theorem VO.brw{B:Option Addr}{H G' H':Hp}{d:D}{v:V}{K:Frag}(h:VO K B H G' H' md d v)(hB:∀x,B=some x->H x≠none):kY K B G' H' v d:=by
 cases md with
 |b=>exact h
 |v=>exact .inl h
 |w=>
  obtain⟨p,rfl,h1,h2,h3⟩:=h
  exact .inr ⟨p,rfl,λz=>hB p z h1,h3⟩
def SR.boxThere{B:Option Addr}{G H:Hp}{σ:St}{env:En}{β:Int}(I:SR Γ B G H σ env β):∀x,B=some x->H x≠none:=λx e=>by rw[(I.box x e).1];simp
def af(i:Nat){x:Str}(hN:X.N[i]? =some x:=by rfl)(hv:yc X.env.scope x:=by first|exact Or.inl rfl|exact Or.inr (Or.inl rfl)|exact Or.inr (Or.inr rfl))(hd:(x==("__debug__":Str))=false:=by decide)
  (hcd:(x==("__classdict__":Str))=false:=by decide):SE X Γ E (.Name x pos) (gv i) [] .b:=by
 refine PE.post' (fK hN hv hd hcd) λσ H Q ⟨env,G,B,β,I,o⟩=>?_
 let⟨d,e,k⟩:=o.of
 have e:=join_some e
 rcases HY e with q|q|q
 .let⟨v,h1,h2⟩:=I.slot i _ q
  exact⟨v,h1,k v G H I (ak.refl _) (iQ.refl _ _) (.inl h2)⟩
 .let⟨p,h1,h2,h3,h4,h5⟩:=I.slot i _ q
  exact⟨.ref p,h1,k _ G H I (ak.refl _) (iQ.refl _ _) (.inr ⟨p,rfl,h4,h5⟩)⟩
 .let⟨_,p,h1,h4,_,h5⟩:=I.slot i _ q
  exact⟨.ref p,h1,k _ G H I (ak.refl _) (iQ.refl _ _) (.inr ⟨p,rfl,h4,h5⟩)⟩
def aw(i:Nat)(hb:Γ.br i=false){x:Str}(hN:X.N[i]? =some x:=by rfl)(hv:yc X.env.scope x:=by first|exact Or.inl rfl|exact Or.inr (Or.inl rfl)|exact Or.inr (Or.inr rfl))(hd:(x==("__debug__":Str))=false:=by decide)
  (hcd:(x==("__classdict__":Str))=false:=by decide):SE X Γ E (.Name x pos) (gv i) [i] .v:=by
 refine PE.post' (fK hN hv hd hcd) λσ H Q ⟨env,G,B,β,I,o⟩=>?_
 let⟨d,e,k⟩:=o.of
 let⟨G',v,I',s,h1,h2⟩:=I.freeze i hb (join_some e)
 exact⟨v,h1,k v G' H I' s (iQ.refl _ _) h2⟩
def DC{v:V}{d:D}(h:PE X e (tC v))(r:∀G,Rp Γ.K G v d):SE X Γ E e (cst d) [] .v:=by
 exact PE.post' h λσ H Q ⟨env,G,B,β,I,o⟩=>(o v G H I (ak.refl _) (iQ.refl _ _) (r G))
def ax{i:Int}{j}:SE X Γ E (.Constant (.int i) j pos) (cst (.int i)) [] .v:=DC nG λ_=>.int i
def hG{i:Bool}{j}:SE X Γ E (.Constant (.bool i) j pos) (cst (.bool i)) [] .v:=DC Ad λ_=>.bl i
def Jv{j}:SE X Γ E (.Constant .none j pos) (cst .none) [] .v:=DC Eg λ_=>.non
def lj{x:Str}{j}:SE X Γ E (.Constant (.str x) j pos) (cst (.str x)) [] .v:=DC JI λ_=>.str x
def GB{x:Str}{i:Int}{t:Tok}(hg:Gl X x)(hm:X.mg x=some (.int i t))(hd:(x==("__debug__":Str))=false:=by decide):SE X Γ E (.Name x pos) (cst (.int i)) [] .v:=DC (Hm hg hm (show RelV (.int i) _ from⟨_,rfl⟩) hd) λ_=>.int i
def two{W:V->V->Hp->Prop}{B:Option Addr}{G H:Hp}{σ:St}{env:En}{β:Int}(I:SR Γ B G H σ env β)
  (h:Out Γ E (fa (vl env) β) λd1 β1=>Out Γ E (fb (vl env) β1) λd2 β2=>∀x y G2 H2,SR Γ B G2 H2 σ (ba (La++Lb) env) β2->ak G G2->iQ B H H2->kY Γ.K B G2 H2 x d1->kY Γ.K B G2 H2 y d2->W x y H2) :
  pT Γ E fa La ma σ H λx H1=>pT Γ E fb Lb mb σ H1 λy H2=>W x y H2:=by
 refine⟨env,G,B,β,I,h.imp λd1 β1 h x G1 H1 I1 s1 m1 vx=>⟨ba La env,G1,B,β1,I1,?_⟩⟩
 rw[jW]
 refine h.imp λd2 β2 k y G2 H2 I2 s2 m2 vy=>?_
 refine k x y G2 H2 (by rw[dR];exact I2) (s1.trans s2) (m1.trans m2) ((vx.brw I.boxThere).mono s2 m2) (vy.brw I1.boxThere)
def pV(K:Frag)(r:R2)(g:D->D->Option D)(md:Md):Prop:=∀(B:Option Addr) (G H:Hp) (x y:V) (dx dy d:D) (Q:VK),ak G H->(∀x,B=some x->H x≠none)->kY K B G H x dx->kY K B G H y dy->g dx dy=some d->
 (∀v G' H',Ext G H G' H'->VO K B H G' H' md d v->Q v H')->r x y H Q
def f2(fa fb:VF D)(g:D->D->Option D):VF D:=λvs β=>(fa vs β).bnd λx β1=>(fb vs β1).bnd λy β2=>R.of (g x y) β2
theorem jN{B:Option Addr}{H H2:Hp}(m:iQ B H H2)(hB:∀x,B=some x->H2 x≠none){p:Addr}(h:H2 p=none):H p=none:=by
 cases e:H p with
 |none=>rfl
 |some o=>let⟨u,eu,_⟩:=(m.1 p o e λz=>hB p z h).some;rw[eu]at h;cases h
theorem VO.back{K:Frag}{B:Option Addr}{H H2 G' H':Hp}{d:D}{v:V}(h:VO K B H2 G' H' md d v)(m:iQ B H H2)(hB:∀x,B=some x->H2 x≠none):VO K B H G' H' md d v:=by
 cases md with
 |b=>exact h
 |v=>exact h
 |w=>let⟨p,e,h1,h2,h3⟩:=h;exact⟨p,e,jN m hB h1,h2,h3⟩
def oD{r:R2}{g:D->D->Option D}{Q:VK}(pr:pV Γ.K r g md){B:Option Addr}{G H:Hp}{σ:St}{env:En}{β:Int}(I:SR Γ B G H σ env β)
  (h:Out Γ E (f2 fa fb g (vl env) β) λd β'=>∀v G' H',SR Γ B G' H' σ (ba (La++Lb) env) β'->ak G G'->iQ B H H'->VO Γ.K B H G' H' md d v->Q v H') :
  pT Γ E fa La ma σ H λx H1=>pT Γ E fb Lb mb σ H1 λy H2=>r x y H2 Q:=by
 refine two I (h.bnd.imp λd1 β1 h=>h.bnd.imp λd2 β2 h x y G2 H2 I2 s2 m2 bx by'=>?_)
 let⟨d,e,k⟩:=h.of
 exact pr B G2 H2 x y d1 d2 d Q I2.sub I2.boxThere bx by' e λv G' H' x' vo=>(k v G' H' (I2.ext x') (s2.trans x'.gg) (m2.trans (x'.hh.mov B)) (vo.back m2 I2.boxThere))
def bu{op:Operator}{r:R2}{g:D->D->Option D}(ho:om X (binaryOp op) r)(pr:pV Γ.K r g md)(ha:SE X Γ E a fa La ma)(hb:SE X Γ E b fb Lb mb):SE X Γ E (.BinOp a op b pos) (f2 fa fb g) (La++Lb) md:=
 PE.post' (x8 ho ha hb) λσ H Q ⟨env,G,B,β,I,o⟩=>oD pr I o
def gm{op:CmpOp}{r:R2}{g:D->D->Option D}(ho:om X (compareOp op) r)(pr:pV Γ.K r g md)(ha:SE X Γ E a fa La ma)(hb:SE X Γ E b fb Lb mb)(hm:behindInMarks op b=false):SE X Γ E (.Compare a [op] [b] pos) (f2 fa fb g) (La++Lb) md:=
 PE.post' (FA ho ha hb hm) λσ H Q ⟨env,G,B,β,I,o⟩=>oD pr I o
def a9{r:R2}{g:D->D->Option D}(hr:Er X r)(pr:pV Γ.K r g md)(ha:SE X Γ E a fa La ma)(hb:SE X Γ E b fb Lb mb)(hs:qq b):SE X Γ E (.Subscript a b pos) (f2 fa fb g) (La++Lb) md:=
 PE.post' (kO hr ha hb hs) λσ H Q ⟨env,G,B,β,I,o⟩=>oD pr I o
def yJ(K:Frag)(r:V->Hp->VK->Prop)(g:D->Option D)(md:Md):Prop:=∀(B:Option Addr) (G H:Hp) (x:V) (dx d:D) (Q:VK),ak G H->(∀x,B=some x->H x≠none)->kY K B G H x dx->g dx=some d->
 (∀v G' H',Ext G H G' H'->VO K B H G' H' md d v->Q v H')->r x H Q
def f1(fa:VF D)(g:D->Option D):VF D:=λvs β=>(fa vs β).bnd λx β1=>R.of (g x) β1
def jv{r:V->Hp->VK->Prop}{g:D->Option D}{Q:VK}(pr:yJ Γ.K r g md){B:Option Addr}{G H:Hp}{σ:St}{env:En}{β:Int}(I:SR Γ B G H σ env β)
  (h:Out Γ E (f1 fa g (vl env) β) λd β'=>∀v G' H',SR Γ B G' H' σ (ba La env) β'->ak G G'->iQ B H H'->VO Γ.K B H G' H' md d v->Q v H') :
  pT Γ E fa La ma σ H λx H1=>r x H1 Q:=by
 refine⟨env,G,B,β,I,h.bnd.imp λd1 β1 h x G1 H1 I1 s1 m1 vx=>?_⟩
 let⟨d,e,k⟩:=h.of
 exact pr B G1 H1 x d1 d Q I1.sub I1.boxThere (vx.brw I.boxThere) e λv G' H' x' vo=>(k v G' H' (I1.ext x') (s1.trans x'.gg) (m1.trans (x'.hh.mov B)) (vo.back m1 I1.boxThere))
def AZ{op:UnaryOp}{r:V->Hp->VK->Prop}{g:D->Option D}(ho:L8 X (unaryOp op) r)(pr:yJ Γ.K r g md)(ha:SE X Γ E a fa La ma):SE X Γ E (.UnaryOp op a pos) (f1 fa g) La md:=
 PE.post' (Ic ho ha) λσ H Q ⟨env,G,B,β,I,o⟩=>jv pr I o
def aZ{id:String}{r:List V->Hp->VK->Prop}{g:D->Option D}{x:Str}{p:Pos}(hc:dq X (.builtin id) r)(pr:yJ Γ.K (λx=>r [x]) g md)(hg:Gl X x)(hm:X.mg x=none)(hv:bootBuiltins x=some (.builtin id))(ha:SE X Γ E a fa La ma)(hn:x≠"__name__":=by decide)(hdb:(x==("__debug__":Str))=false:=by decide)
  (he:starEach [a] X.env=(false,eval a X.env)::starEach [] X.env:=by rfl):SE X Γ E (.Call (.Name x p) [a] [] pos) (f1 fa g) La md:=
 PE.post' (lg hc hg hm hv (aQ ha bC he) hn hdb he) λσ H Q ⟨env,G,B,β,I,o⟩=>jv pr I o
def fH{id:String}{r:List V->Hp->VK->Prop}{g:D->Option D}{x:Str}{p:Pos}(hc:dq X (.type id) r)(pr:yJ Γ.K (λx=>r [x]) g md)(hg:Gl X x)(hm:X.mg x=none)(hv:bootBuiltins x=some (.type id))(ha:SE X Γ E a fa La ma)(hn:x≠"__name__":=by decide)(hdb:(x==("__debug__":Str))=false:=by decide)
  (he:starEach [a] X.env=(false,eval a X.env)::starEach [] X.env:=by rfl):SE X Γ E (.Call (.Name x p) [a] [] pos) (f1 fa g) La md:=
 PE.post' (iE hc hg hm hv (aQ ha bC he) hn hdb he) λσ H Q ⟨env,G,B,β,I,o⟩=>jv pr I o
def wQ{id:String}{r:List V->Hp->VK->Prop}{g:D->D->Option D}{x:Str}{p:Pos}(hc:dq X (.builtin id) r)(pr:pV Γ.K (λx y=>r [x,y]) g md)(hg:Gl X x)(hm:X.mg x=none)(hv:bootBuiltins x=some (.builtin id))(ha:SE X Γ E a fa La ma)(hb:SE X Γ E b fb Lb mb)(hn:x≠"__name__":=by decide)(hdb:(x==("__debug__":Str))=false:=by decide)
  (he:starEach [a,b] X.env=(false,eval a X.env)::starEach [b] X.env:=by rfl) (he2:starEach [b] X.env=(false,eval b X.env)::starEach [] X.env:=by rfl) (hpl:(backTo pos (starEach [b] X.env)).any (·.1)=false:=by rfl):SE X Γ E (.Call (.Name x p) [a,b] [] pos) (f2 fa fb g) (La++Lb) md:=
 PE.post' (lg hc hg hm hv (aQ ha (aQ hb bC he2) he) hn hdb he hpl) λσ H Q ⟨env,G,B,β,I,o⟩=>oD pr I o
def fX(fa fb:VF D):VF D:=λvs β=>(fa vs β).bnd λx β1=>match x with
 | .bool true=>fb vs β1
 | .bool false=>.ok (.bool false) β1
 |_=>.bad
def jF{op}(h:SE X Γ E a fa La md):SE X Γ E (.BoolOp op [a] pos) fa La md:=Jy h
theorem gn{rest:List Expr}(ha:SE X Γ E a fa La ma)(hb:SE X Γ E (.BoolOp .And (b::rest) pos) fb Lb .v)(hbr:∀i,i∈Lb->Γ.br i=false):SE X Γ E (.BoolOp .And (a::b::rest) pos) (fX fa fb) (La++Lb) .v:=by
 refine PE.post' (IW ha hb) λσ H Q ⟨env,G,B,β,I,o⟩=>⟨env,G,B,β,I,o.bnd.imp λd1 β1 h x G1 H1 I1 s1 m1 vx=>?_⟩
 have bx:=vx.brw I.boxThere
 cases d1 with
 |bool c=>
  obtain rfl:=bx.bool
  refine⟨c,rfl,?_⟩
  cases c with
  |true=>exact vd ⟨_,G1,B,β1,I1,by rw[jW];exact h.imp λd β' k v G' H' I' s' m' vo=>k v G' H' (by rw[dR];exact I') (s1.trans s') (m1.trans m') vo⟩
  |false=>
   let⟨G2,I2,s2⟩:=I1.ba Lb hbr
   exact uQ (h _ G2 H1 (by rw[dR];exact I2) (s1.trans s2) m1 (.bl false))
 |_=>exact h.elim
def wD:D->Option D
 | .bool c=>some (.bool (!c))
 |_=>none
theorem qu(ha:SE X Γ E a fa La ma):SE X Γ E (.UnaryOp .Not a pos) (f1 fa wD) La .v:=by
 refine PE.post' (IQ ha) λσ H Q ⟨env,G,B,β,I,o⟩=>(jv (r:=λx H1 Q=>∃c,x=.bl c/\Q (.bl (!c)) H1) ?_ I o)
 intro B G H x dx d Q s hB bx e k
 cases dx with
 |bool c=>
  obtain rfl:=bx.bool
  cases e
  exact⟨c,rfl,k _ G H (Ext.refl s) (.bl _)⟩
 |_=>cases e
def Jg:D->Option Bool
 | .none=>some false
 | .bool b=>some b
 | .int i=>some (i != 0)
 | .str y=>if y.length<=sizeLine then some ((y.length:Int) != 0)else none
 | .list ds=>some (!ds.isEmpty)
 | .tuple ds=>some (!ds.isEmpty)
 | .dict _=>none
def mD(fa:VF D):VF Bool:=λvs β=>(fa vs β).bnd λx β1=>R.of (Jg x) β1
def pB{K:Frag}{G:Hp}{xs:List V}{ds:List D}(r:cE K G xs ds):(!ds.isEmpty)= !xs.isEmpty:=by cases r<;>rfl
theorem dc(hK:X.K=Γ.K)(ha:SE X Γ E a fa La ma)(he:∀whole,isTrue a X.env whole=(do let v <-whole;standAt a.pos;holding [v] (truthy v)):=by intro _;rfl):yx X Γ E a (mD fa) La:=by
 refine PT.post (DW ha he) λσ H Q ⟨env,G,B,β,I,o⟩=>⟨env,G,B,β,I,o.bnd.imp λd1 β1 h x G1 H1 I1 s1 m1 vx=>?_⟩
 let⟨c,e,k⟩:=h.of
 have bx:=vx.brw I.boxThere
 refine⟨c,?_,k G1 H1 I1 s1 m1⟩
 rw[hK]
 cases d1 with
 |none=>obtain rfl:=bx.none;cases e;rfl
 |bool b=>obtain rfl:=bx.bool;cases e;rfl
 |int i=>obtain rfl:=bx.int;cases e;rfl
 |str y=>
  obtain rfl:=bx.str
  simp only[Jg]at e
  split at e
  .cases e;exact⟨by assumption,rfl⟩
  .cases e
 |list ds=>obtain⟨p,xs,rfl,hq,r⟩:=bx.list I1.sub;cases e;exact .inl ⟨xs,.inl hq,pB r⟩
 |tuple ds=>obtain⟨p,xs,rfl,hq,r⟩:=bx.tuple I1.sub;cases e;exact .inr (.inl ⟨xs,hq,pB r⟩)
 |dict ds=>cases e
def cT(fa:VF D):VF Bool:=λvs β=>(fa vs β).bnd λx β1=>match x with
 | .bool c=>.ok c β1
 |_=>.bad
theorem aX{op:CmpOp}{r:R2}{g:D->D->Option D}(ho:om X (compareOp op) r)(pr:pV Γ.K r g .v)(ha:SE X Γ E a fa La ma)(hb:SE X Γ E b fb Lb mb)(hm:behindInMarks op b=false):yx X Γ E (.Compare a [op] [b] pos) (cT (f2 fa fb g)) (La++Lb):=by
 refine PT.post (GO ho ha hb hm) λσ H Q ⟨env,G,B,β,I,o⟩=>(oD pr I (o.bnd.imp λd β' h v G' H' I' s' m' vo=>?_))
 cases d with
 |bool c=>cases vo;exact⟨c,rfl,h G' H' I' s' m'⟩
 |_=>exact h.elim
def sJ(t:VF Bool):VF Bool:=λvs β=>(t vs β).bnd λc β1=>.ok (!c) β1
def wB(t u:VF Bool):VF Bool:=λvs β=>(t vs β).bnd λc β1=>if c=true then u vs β1 else .ok false β1
def kT(t u:VF Bool):VF Bool:=λvs β=>(t vs β).bnd λc β1=>if c=true then .ok true β1 else u vs β1
variable {ta tb tc:VF Bool}
def fy(ha:yx X Γ E a ta La):yx X Γ E (.UnaryOp .Not a pos) (sJ ta) La:=by
 exact PT.post (IM ha) λσ H Q ⟨env,G,B,β,I,o⟩=>⟨env,G,B,β,I,o.bnd.imp λc β1 h=>h⟩
def qf.t(h:qf X Γ E e ta La):yx X Γ E e ta La:=PW.pt h
def kI(ha:yx X Γ E a ta La):qf X Γ E (.BoolOp .And [a] pos) ta La:=AH ha
def kG(ha:yx X Γ E a ta La):qf X Γ E (.BoolOp .Or [a] pos) ta La:=Jn ha
theorem nj{rest:List Expr}(ha:yx X Γ E a ta La)(hb:qf X Γ E (.BoolOp .And (b::rest) pos) tb Lb)(hbr:∀i,i∈Lb->Γ.br i=false):qf X Γ E (.BoolOp .And (a::b::rest) pos) (wB ta tb) (La++Lb):=by
 refine PW.post (CD ha hb) λσ H Q ⟨env,G,B,β,I,o⟩=>⟨env,G,B,β,I,o.bnd.imp λc β1 h G1 H1 I1 s1 m1=>?_⟩
 cases c with
 |true=>exact vd ⟨_,G1,B,β1,I1,by rw[jW];exact Out.imp h λd β' k G' H' I' s' m'=>k G' H' (by rw[dR];exact I') (s1.trans s') (m1.trans m')⟩
 |false=>
  let⟨G2,I2,s2⟩:=I1.ba Lb hbr
  exact uQ (h G2 H1 (by rw[dR];exact I2) (s1.trans s2) m1)
theorem kN{rest:List Expr}(ha:yx X Γ E a ta La)(hb:qf X Γ E (.BoolOp .Or (b::rest) pos) tb Lb)(hbr:∀i,i∈Lb->Γ.br i=false):qf X Γ E (.BoolOp .Or (a::b::rest) pos) (kT ta tb) (La++Lb):=by
 refine PW.post (LP ha hb) λσ H Q ⟨env,G,B,β,I,o⟩=>⟨env,G,B,β,I,o.bnd.imp λc β1 h G1 H1 I1 s1 m1=>?_⟩
 cases c with
 |true=>
  let⟨G2,I2,s2⟩:=I1.ba Lb hbr
  exact vd (h G2 H1 (by rw[dR];exact I2) (s1.trans s2) m1)
 |false=>exact uQ ⟨_,G1,B,β1,I1,by rw[jW];exact Out.imp h λd β' k G' H' I' s' m'=>k G' H' (by rw[dR];exact I') (s1.trans s') (m1.trans m')⟩
def NX(t:VF Bool)(fa fb:VF D):VF D:=λvs β=>(t vs β).bnd λc β1=>if c=true then fa vs β1 else fb vs β1
def ao:VF (List D):=λ_ β=>.ok [] β
def ab(fa:VF D)(fr:VF (List D)):VF (List D):=λvs β=>(fa vs β).bnd λx β1=>(fr vs β1).bnd λxs β2=>.ok (x::xs) β2
variable {fr:VF (List D)}{es:List Expr}
def ah:SA X Γ E [] ao []:=PA.post bC λσ H Q ⟨env,G,B,β,I,o⟩=>o [] G H I (ak.refl _) (iQ.refl _ _) .nil
def ae(ha:SE X Γ E a fa La .v)(hr:SA X Γ E es fr Lb)(hs:starEach (a::es) X.env=(false,eval a X.env)::starEach es X.env:=by rfl):SA X Γ E (a::es) (ab fa fr) (La++Lb):=by
 refine PA.post (aQ ha hr hs) λσ H Q ⟨env,G,B,β,I,o⟩=>⟨env,G,B,β,I,o.bnd.imp λd1 β1 h x G1 H1 I1 s1 m1 vx=>⟨ba La env,G1,B,β1,I1,?_⟩⟩
 rw[jW]
 refine h.bnd.imp λds β2 k xs G2 H2 I2 s2 m2 r=>?_
 exact k (x::xs) G2 H2 (by rw[dR];exact I2) (s1.trans s2) (m1.trans m2) (.cons (vx.mono s2) r)
def bp(fr:VF (List D)):VF D:=λvs β=>(fr vs β).bnd λds β1=>if ds.length<=sizeLine then .ok (.tuple ds) β1 else .bad
def cP(fr:VF (List D)):VF D:=λvs β=>(fr vs β).bnd λds β1=>if ds.length<=sizeLine then .ok (.list ds) β1 else .bad
def bw{x1}(h:SA X Γ E es fr L):SE X Γ E (.Tuple es x1 pos) (bp fr) L .v:=by
 refine PE.post' (yZ h) λσ H Q ⟨env,G,B,β,I,o⟩=>⟨env,G,B,β,I,o.bnd.imp λds β1 k xs G1 H1 I1 s1 m1 r=>?_⟩
 by_cases hz:ds.length<=sizeLine
 .rw[Od hz]at k
  refine⟨by rw[r.len];exact hz,λp hp=>?_⟩
  have x:=Ext.new I1.sub (o:=.tup xs) hp
  exact k _ _ _ (I1.ext x) (s1.trans x.gg) (m1.trans (x.hh.mov B)) (.tup (.inl (.inl av)) (r.mono x.gg))
 .rw[Oe hz]at k;exact k.elim
def cK(h:SA X Γ E es fr L):SE X Γ E (.List es pos) (cP fr) L .w:=by
 refine PE.post' (CK h) λσ H Q ⟨env,G,B,β,I,o⟩=>⟨env,G,B,β,I,o.bnd.imp λds β1 k xs G1 H1 I1 s1 m1 r=>?_⟩
 by_cases hz:ds.length<=sizeLine
 .rw[Od hz]at k
  refine⟨by rw[r.len];exact hz,λp hp=>?_⟩
  have x:=Ext.own I1.sub (o:=.lst xs) hp
  exact k _ _ _ (I1.ext x) s1 (m1.trans (x.hh.mov B)) ⟨p,rfl,jN m1 I1.boxThere hp,I1.sub.free hp,xs,av,r⟩
 .rw[Oe hz]at k;exact k.elim
inductive FR where
 |ok (d:D) (fresh:Bool)
 |exc (c:Str)
 |bad
def FV(K:Frag)(H G' H':Hp)(fr:Bool)(d:D)(v:V):Prop:=if fr=true then ∃a,v=.ref a/\H a=none/\G' a=none/\Own K G' H' a d else Rp K G' v d
def E7(K:Frag)(ca:Str->Addr)(n:Nat)(F:List D->FR):Sp:=λvs H Q E=>∃G ds,ak G H/\ds.length=n/\cE K G vs ds/\match F ds with
 | .ok d fr=>∀v G' H',ak H H'->ak G G'->ak G' H'->(∀b,Mx H b->G b=none->G' b=none)->FV K H G' H' fr d v->Q v H'
 | .exc c=>∀H',ak H H'->E (.ref (ca c)) none H'
 | .bad=>False
structure cY(P:Program)(w:World)(K:Frag)(mg:Str->Option Value)(base:Heap)(ca:Str->Addr)(x:Str)(ps:List Str)(k:Nat)(F:List D->FR):Prop where
 ex:∃f fd,mg x=some (.ref f)/\PySem.W.keepIn K (.ref f)=true/\Binds K fd ps []/\gW P w K mg base (ue P w) k f fd ps (E7 K ca ps.length F)
 len:∀ds,F ds≠.bad->ds.length=ps.length
def aA(F:List D->FR)(fr:VF (List D)):VF D:=λvs β=>(fr vs β).bnd λds β1=>match F ds with
 | .ok d _=>.ok d β1
 | .exc c=>.exc c
 | .bad=>.bad
def yb(F:List D->FR)(fr:VF (List D)):VF D:=λvs β=>(fr vs β).bnd λds β1=>match F ds with
 | .ok d true=>.ok d β1
 | .ok _ false=>.bad
 | .exc c=>.exc c
 | .bad=>.bad
def SR.called{B:Option Addr}{G1 H1 G2 H2:Hp}{σ:St}{env:En}{β:Int}(I1:SR Γ B G1 H1 σ env β)(h:ak H1 H2)(g:ak G1 G2)(s:ak G2 H2)(n:∀b,Mx H1 b->G1 b=none->G2 b=none):SR Γ B G2 H2 σ env β/\iQ B H1 H2:=by
 refine⟨⟨s,I1.old.trans g,λb n1 n2=>?_,λb o e np=>(I1.keep b o e np).step h,λb hb=>?_,I1.fix,λb e=>?_,I1.len,λi t e=>?_,I1.sep⟩,h.mov B⟩
 .exact n b (I1.thereM n1) (I1.new b n1 n2)
 .exact (I1.pin b hb).same λo e=>h b o e
 .let⟨h1,h2,h3⟩:=I1.box b e
  exact⟨h b _ h1,n b (Mx.lst h1) h2,h3⟩
 .have q:=I1.slot i t e
  cases t with
  |no=>trivial
  |fz d=>let⟨v,h1,h2⟩:=q;exact⟨v,h1,h2.mono g⟩
  |ow d=>
   let⟨p,h1,h2,h3,h4,h5⟩:=q
   exact⟨p,h1,h2,n p h5.mx h3,h4,h5.mono g λo q=>h p o q⟩
  |bx=>exact q
  |br d=>let⟨b1,p,h1,h4,hp,h5⟩:=q;exact⟨b1,p,h1,h4,hp,h5.mono g λo q=>h p o q⟩
def SR.kp{B:Option Addr}{G H H':Hp}{σ:St}{env:En}{β:Int}(I:SR Γ B G H σ env β)(h:ak H H'):Kp Γ H':=λb o e n=>(I.keep b o e n).step h
theorem ui{F:List D->FR}{ps:List Str}{Q:VK}{B:Option Addr}{G H:Hp}{σ:St}{env:En}{β:Int}(I:SR Γ B G H σ env β)(hK:X.K=Γ.K){wv:Bool}
  (h:Out Γ E (if wv=true then yb F fr (vl env) β else aA F fr (vl env) β) λd β'=>∀v G' H',SR Γ B G' H' σ (ba L env) β'->ak G G'->iQ B H H'->VO Γ.K B H G' H' (if wv=true then .w else .v) d v->Q v H') (hl:∀ds,F ds≠.bad->ds.length=ps.length) :
  aT Γ E fr L σ H λvs H1=>E7 X.K Γ.ca ps.length F vs H1 Q E:=by
 refine⟨env,G,B,β,I,?_⟩
 have h:Out Γ E (fr (vl env) β) λds β1=>Out Γ E (match F ds with
   | .ok d true=>.ok d β1
   | .ok d false=>if wv=true then .bad else .ok d β1
   | .exc c=>.exc c
   | .bad=>.bad) λd β'=>∀v G' H',SR Γ B G' H' σ (ba L env) β'->ak G G'->iQ B H H'->VO Γ.K B H G' H' (if wv=true then .w else .v) d v->Q v H':=by
  cases wv with
  |true=>
   simp only[O9]at h ⊢
   refine h.bnd.imp λds β1 h=>?_
   cases q:F ds with
   |ok d b=>rw[q]at h;cases b<;>exact h
   |exc c=>rw[q]at h;exact h
   |bad=>rw[q]at h;exact h
  |false=>
   simp only[Ow,OY]at h ⊢
   refine h.bnd.imp λds β1 h=>?_
   cases q:F ds with
   |ok d b=>rw[q]at h;cases b<;>exact h
   |exc c=>rw[q]at h;exact h
   |bad=>rw[q]at h;exact h
 refine h.imp λds β1 k vs G1 H1 I1 s1 m1 r=>?_
 refine⟨G1,ds,I1.sub,?_,by rw[hK];exact r,?_⟩
 .exact hl ds λz=>by rw[z]at k;exact k
 cases q:F ds with
 |bad=>rw[q]at k;exact k
 |exc c=>rw[q]at k;exact λH' s=>k H' (I1.kp s)
 |ok d b=>
  rw[q]at k
  intro v G' H' hh hg hs hn fv
  let⟨I2,m2⟩:=I1.called hh hg hs hn
  cases b with
  |true=>
   obtain⟨p,rfl,p1,p2,p3⟩:∃a,v=.ref a/\H1 a=none/\G' a=none/\Own X.K G' H' a d:=fv
   rw[hK]at p3
   have hp:=jN m1 I1.boxThere p1
   cases wv with
   |true=>exact k _ G' H' I2 (s1.trans hg) (m1.trans m2) ⟨p,rfl,hp,p2,p3⟩
   |false=>
    let⟨q1,q2,q3,q4⟩:=I1.fresh p1
    let⟨G3,I3,s3,r3⟩:=I2.letIn q1 p2 q3 q4 p3
    exact k _ G3 H' I3 ((s1.trans hg).trans s3) (m1.trans m2) r3
  |false=>
   cases wv with
   |true=>exact k.elim
   |false=>
    have fv:Rp X.K G' v d:=fv
    rw[hK]at fv
    exact k _ G' H' I2 (s1.trans hg) (m1.trans m2) fv
def aL{x:Str}{ps:List Str}{k:Nat}{F:List D->FR}{p:Pos}(hf:cY X.prog X.w X.K X.mg X.base Γ.ca x ps k F)(hr:fY k X.A)(hx:Passes (ue X.prog X.w) X E)(hK:X.K=Γ.K)(hg:Gl X x)(ha:SA X Γ E (a::es) fr L)(hdb:(x==("__debug__":Str))=false:=by decide)
  (he:starEach (a::es) X.env=(false,eval a X.env)::starEach es X.env:=by rfl) (hpl:(backTo pos (starEach es X.env)).any (·.1)=false:=by rfl):SE X Γ E (.Call (.Name x p) (a::es) [] pos) (aA F fr) L .v:=by
 let⟨f,fd,hm,hk,hb,hF⟩:=hf.ex
 refine PE.post' (ox hF hr hg hm hk hb .nil hx ha hdb he hpl) λσ H Q ⟨env,G,B,β,I,o⟩=>?_
 show aT Γ E fr L σ H λvs H1=>E7 X.K Γ.ca ps.length F (vs++[]) H1 Q E
 have:=ui (wv:=false) I hK o hf.len
 simpa using this
def EZ{x:Str}{ps:List Str}{k:Nat}{F:List D->FR}{p:Pos}(hf:cY X.prog X.w X.K X.mg X.base Γ.ca x ps k F)(hr:fY k X.A)(hx:Passes (ue X.prog X.w) X E)(hK:X.K=Γ.K)(hg:Gl X x)(ha:SA X Γ E (a::es) fr L)(hdb:(x==("__debug__":Str))=false:=by decide)
  (he:starEach (a::es) X.env=(false,eval a X.env)::starEach es X.env:=by rfl) (hpl:(backTo pos (starEach es X.env)).any (·.1)=false:=by rfl):SE X Γ E (.Call (.Name x p) (a::es) [] pos) (yb F fr) L .w:=by
 let⟨f,fd,hm,hk,hb,hF⟩:=hf.ex
 refine PE.post' (ox hF hr hg hm hk hb .nil hx ha hdb he hpl) λσ H Q ⟨env,G,B,β,I,o⟩=>?_
 show aT Γ E fr L σ H λvs H1=>E7 X.K Γ.ca ps.length F (vs++[]) H1 Q E
 have:=ui (wv:=true) I hK o hf.len
 simpa using this
end
structure jJ(K:Frag)(mg:Str->Option Value)(x:Str)(st:Stmt)(ps:List Str)(f:Addr)(fd:FuncData):Prop where
 mg:mg x=some (.ref f)
 F:E8 K x x st f fd
 b:Binds K fd ps []
structure jS(mg:Str->Option Value):Prop where
 len:mg "len"=none
 range:mg "range"=none
 enumerate:mg "enumerate"=none
 zip:mg "zip"=none
 min:mg "min"=none
 max:mg "max"=none
 sum:mg "sum"=none
 abs:mg "abs"=none
 sorted:mg "sorted"=none
 reversed:mg "reversed"=none
 int:mg "int"=none
 str:mg "str"=none
 bool:mg "bool"=none
 list:mg "list"=none
 tuple:mg "tuple"=none
 dict:mg "dict"=none
 set:mg "set"=none
 isinstance:mg "isinstance"=none
 repr:mg "repr"=none
 any:mg "any"=none
 all:mg "all"=none
 divmod:mg "divmod"=none
section
variable {X:Cx}{pins:List (Addr×Obj)}{σ:St}{H:Hp}{s:Shared}
def Inv.turnedL{t':Nat}{ch:List Addr}{h':Heap}(I:Inv X pins σ H s)(k:∀b o,b∉ch->s.heap.get? b=some o->h'.get? b=some o)(hf:∀b∈ch,pS X pins H b):Inv X pins σ H {s with heap:=h',toks:=t'}:=by
 have nit:∀b u,H b=some u->b∉ch:=λb u e z=>by rw[(hf b z).1]at e;cases e
 have nL:X.env.locals∉ch:=λz=>(hf _ z).2.1 rfl
 refine I.step (λb hb=>?_) (λb o _ _ hc e _=>k b o hc e) (λb o _ _ hc e _=>⟨o.slots,k b o hc e⟩) (λ_ _ _ _ n=>n)
  (λb o hc e=>⟨o,k b o hc e⟩) (λ_ _ e=>e) (λ_ _ _ e=>e) (λb ps e=>⟨#[],by rw[e];simp⟩) (λm hm=>?_) (λb u e=>?_) I.bare
 .let⟨f0,f1,f2,f3,f4,f5⟩:=hf b hb
  exact⟨f3,f1,f4,f5⟩
 .let⟨o,es,ep,ho,r⟩:=hm
  exact⟨o,es,ep,k _ o nL ho,r⟩
 .refine (I.hok b u e).stay (λc v hc q=>k c v ?_ q) (λ_ q=>q) λ_ _ q=>q
  rcases hc with z|z
  .rw[z];exact nit b u e
  .exact nit c _ z
end
def Fp{H:Hp}{a:Addr}{u:HO}(h:Rd H a u):H a≠none:=by
 rcases h with h|⟨o,h⟩<;>rw[h]<;>simp
section
variable {κ:Type}[DecidableEq κ]
def lN(kvs:List (κ×V))(k:κ):Option V:=(kvs.find? λkv=>decide (kv.1=k)).map (·.2)
def putK(kvs:List (κ×V))(k:κ)(v:V):List (κ×V):=
 if(kvs.any λkv=>decide (kv.1=k))=true then kvs.map (λkv=>if kv.1=k then(kv.1,v)else kv)else kvs++[(k,v)]
def lM{p:κ×V}{r:List (κ×V)}{k:κ}(e:p.1=k):lN (p::r) k=some p.2:=by simp[lN,Ql,e]
def lJ{p:κ×V}{r:List (κ×V)}{k:κ}(e:¬p.1=k):lN (p::r) k=lN r k:=by simp[lN,Ql,e]
theorem qF(k:κ):∀kvs:List (κ×V),(kvs.any λkv=>decide (kv.1=k))=(lN kvs k).isSome
 | []=>rfl
 |p::r=>by
  rw[Qe]
  by_cases e:p.1=k
  ·simp only[lM e,Ot e,Bool.true_or,Option.isSome_some]
  ·rw[lJ e,Oz e,Bool.false_or];exact qF k r
def gP(kvs:List (κ×V))(k:κ)(v:V):(putK kvs k v).length<=kvs.length+1:=by
 unfold putK
 split
 .rw[Ob];omega
 .rw[OO,ON,List.length_nil];omega
def Cs{kvs:List (κ×V)}{k:κ}(v:V)(h:lN kvs k=none):putK kvs k v=kvs++[(k,v)]:=by
 unfold putK
 rw[qF,h]
 exact Oe (by decide)
theorem rN.isSome_eq{o:Option V}{u:Option Value}(r:rN o u):o.isSome=u.isSome:=by
 cases o with
 |none=>cases u with
  |none=>rfl
  |some _=>exact(show False from r).elim
 |some _=>cases u with
  |none=>exact(show False from r).elim
  |some _=>rfl
theorem KV.val{kvs:List (κ×V)}{vs:List (κ×Value)}(r:KV kvs vs)(k:κ):rN (lN kvs k) (valueAt vs k):=by
 unfold KV at r
 induction r with
 |nil=>exact True.intro
 | @cons p q ps qs h t ih=>
  let⟨h1,h2⟩:=h
  by_cases e:p.1=k
  .have e':q.1=k:=h1.symm.trans e
   have b:valueAt (q::qs) k=some q.2:=by simp[valueAt,Ql,e']
   rw[lM e,b];exact h2
  .have e':¬q.1=k:=λz=>e (h1.trans z)
   have b:valueAt (q::qs) k=valueAt qs k:=by simp[valueAt,Ql,e']
   rw[lJ e,b];exact ih
theorem KV.any{kvs:List (κ×V)}{vs:List (κ×Value)}(r:KV kvs vs)(k:κ):(kvs.any λkv=>decide (kv.1=k))=vs.any λkv=>decide (kv.1=k):=by
 unfold KV at r
 induction r with
 |nil=>rfl
 |cons h t ih=>rw[Qe,Qe,ih,h.1]
theorem KV.repl{kvs:List (κ×V)}{vs:List (κ×Value)}(r:KV kvs vs)(k:κ){y:V}{u:Value}(ry:RelV y u) :
  KV (kvs.map λkv=>if kv.1=k then(kv.1,y)else kv) (vs.map λkv=>if kv.1=k then(kv.1,u)else kv):=by
 unfold KV at r ⊢
 induction r with
 |nil=>exact .nil
 | @cons p q ps qs h t ih=>
  rw[OJ,OJ]
  refine .cons ?_ ih
  let⟨h1,h2⟩:=h
  by_cases e:p.1=k
  .rw[Od e,Od (h1.symm.trans e)];exact⟨h1,ry⟩
  .rw[Oe e,Oe (λz=>e (h1.trans z))];exact⟨h1,h2⟩
def KV.put{kvs:List (κ×V)}{vs:List (κ×Value)}(r:KV kvs vs)(k:κ){y:V}{u:Value}(ry:RelV y u):KV (putK kvs k y) (stored vs k u):=by
 unfold putK stored
 rw[r.any k]
 by_cases e:(vs.any λkv=>decide (kv.1=k))=true
 .rw[Od e,Od e];exact r.repl k ry
 .rw[Oe e,Oe e];exact Paired.snoc r ⟨rfl,ry⟩
def KV.length{kvs:List (κ×V)}{vs:List (κ×Value)}(r:KV kvs vs):kvs.length=vs.length:=Paired.length r
end
theorem xT{P:Program}{w:World}{k:Key}{u:Value}(r:RelV (kV k) u):(bS P w).is k u=true:=by
 cases k with
 |inl i=>let⟨t,e⟩:=(show ∃t,u=Value.int i t from r);subst e;exact wF P w i t
 |inr x=>let⟨t,e⟩:=(show ∃t,u=Value.str x t from r);subst e;exact wc P w x t
theorem ux{P:Program}{w:World}:∀{ks:List Key} {us:List Value},Vals (ks.map kV) us->ItemsAre (bS P w) ks us
 | [],_,r=>by rw[List.map_nil]at r;cases r;exact .nil
 |k::ks,_,r=>by
  rw[OJ]at r
  cases r with
  |cons h t=>exact .cons (xT h) (ux t)
abbrev KT(H:Hp):List (List Key×V)->List (List Key×Addr×Value)->Prop:=Paired λp q=>p.1=q.1/\Rd H q.2.1 (.tup (p.1.map kV))/\RelV p.2 q.2.2
theorem KT.val{H:Hp}{kvs:List (List Key×V)}{xs:List (List Key×Addr×Value)}(r:KT H kvs xs)(k:List Key):rN (lN kvs k) ((atKey xs k).map (·.2)):=by
 induction r with
 |nil=>exact True.intro
 | @cons p q ps qs h t ih=>
  let⟨h1,_,h2⟩:=h
  by_cases e:p.1=k
  .have e':q.1=k:=h1.symm.trans e
   have b:atKey (q::qs) k=some q.2:=by simp[atKey,Ql,e']
   rw[lM e,b];exact h2
  .have e':¬q.1=k:=λz=>e (h1.trans z)
   have b:atKey (q::qs) k=atKey qs k:=by simp[atKey,Ql,e']
   rw[lJ e,b];exact ih
theorem KT.repl{H:Hp}{kvs:List (List Key×V)}{xs:List (List Key×Addr×Value)}(r:KT H kvs xs)(k:List Key){y:V}{u:Value}(ry:RelV y u) :
  KT H (kvs.map λkv=>if kv.1=k then(kv.1,y)else kv) (xs.map (putAt k u)):=by
 induction r with
 |nil=>exact .nil
 | @cons p q ps qs h t ih=>
  rw[OJ,OJ]
  refine .cons ?_ ih
  let⟨h1,h2,h3⟩:=h
  unfold putAt
  by_cases e:p.1=k
  .rw[Od e,Od (h1.symm.trans e)];exact⟨h1,h2,ry⟩
  .rw[Oe e,Oe (λz=>e (h1.trans z))];exact⟨h1,h2,h3⟩
def KT.put{H:Hp}{kvs:List (List Key×V)}{xs:List (List Key×Addr×Value)}(r:KT H kvs xs)(k:List Key){b:Addr}{y:V}{u:Value}(hb:Rd H b (.tup (k.map kV)))(ry:RelV y u) :
  KT H (putK kvs k y) (storedH xs k b u):=by
 have e:(kvs.any λkv=>decide (kv.1=k))=(atKey xs k).isSome:=by
  rw[qF,(r.val k).isSome_eq,RB]
 unfold putK storedH
 rw[e]
 by_cases q:(atKey xs k).isSome=true
 .rw[Od q,Od q];exact r.repl k ry
 .rw[Oe q,Oe q];exact Paired.snoc r ⟨rfl,hb,ry⟩
def KT.keeps{H H':Hp}{kvs:List (List Key×V)}{xs:List (List Key×Addr×Value)}(r:KT H kvs xs)(ht:∀b ys,Rd H b (.tup ys)->Rd H' b (.tup ys)):KT H' kvs xs:=
 Paired.mapP r λ_ _ z=>⟨z.1,ht _ _ z.2.1,z.2.2⟩
section
variable {P:Program}{w:World}{H:Hp}{h:Heap}{a:Addr}
def Ds{u:HO}(ok:lH P w H h)(e:Rd H a u):bJ P w H h a u:=e.ok ok
def xm{kvs:List (Key×V)}(ok:lH P w H h)(e:Rd H a (.dK kvs)):kvs.length<=sizeLine/\(a==sysModules)=false/\∃vs,KV kvs vs/\h.DictOf (bS P w) a vs:=
 show bJ P w H h a (.dK kvs)from Ds ok e
def K0{kvs:List (Key×V)}(ok:lH P w H h)(e:H a=some (.dK kvs)):kvs.length<=sizeLine/\(a==sysModules)=false/\∃vs,KV kvs vs/\h.DictOf (bS P w) a vs:=xm ok (.inl e)
def lE{ks:List Key}(ok:lH P w H h)(e:Rd H a (.tup (ks.map kV))):(tupleKind (bS P w)).is h ks a:=by
 let⟨_,its,r,o,h1,h2,n,h3⟩:=(show bJ P w H h a (.tup (ks.map kV))from e.ok ok)
 exact⟨o,its.toArray,n,h1,h2,h3.1,by simpa using ux r⟩
def zz{kvs:List (List Key×V)}{ep:Nat}(ok:lH P w H h)(e:Rd H a (.dT kvs ep)):kvs.length<=sizeLine/\(a==sysModules)=false/\
  ∃xs,KT H kvs xs/\h.DictOfH (tupleKind (bS P w)) a xs:=by
 let⟨z,y,xs,r,o,es,h1,h2,h3,h4,h5⟩:=(show bJ P w H h a (.dT kvs ep)from Ds ok e)
 refine⟨z,y,xs,r,o,es,_,h1,h2,h3,h4,λx hx=>?_,h5⟩
 have all:∀{l:List (List Key×V)} {m:List (List Key×Addr×Value)},KT H l m->∀x∈m,(tupleKind (bS P w)).is h x.1 x.2.1:=by
  intro l m q
  induction q with
  |nil=>intro x hx;exact nomatch hx
  | @cons p q ps qs hq t ih=>
   intro x hx
   rcases Oo.mp hx with e|hx
   .subst e
    exact lE ok (by rw[<-hq.1];exact hq.2.1)
   .exact ih x hx
 exact all r x hx
def jD{kvs:List (List Key×V)}{ep:Nat}(ok:lH P w H h)(e:Rd H a (.dT kvs ep)):kvs.length<=sizeLine/\(a==sysModules)=false/\
  ∃xs,KT H kvs xs/\tK (tupleKind (bS P w)) h a xs ep/\∀x∈xs,(tupleKind (bS P w)).is h x.1 x.2.1:=by
 let⟨z,y,xs,r,d⟩:=(show bJ P w H h a (.dT kvs ep)from Ds ok e)
 refine⟨z,y,xs,r,d,?_⟩
 have all:∀{l:List (List Key×V)} {m:List (List Key×Addr×Value)},KT H l m->∀x∈m,(tupleKind (bS P w)).is h x.1 x.2.1:=by
  intro l m q
  induction q with
  |nil=>intro x hx;cases hx
  |cons hq t ih=>
   intro x hx
   rcases Oo.mp hx with rfl|hx
   .exact lE ok (hq.1▸hq.2.1)
   .exact ih x hx
 exact all r
end
def JR(kvs:List (List Key×V))(k:List Key)(ep:Nat):Nat:=if(lN kvs k).isSome=true then ep else ep+1
def KT.ep{H:Hp}{kvs:List (List Key×V)}{xs:List (List Key×Addr×Value)}(r:KT H kvs xs)(k:List Key)(ep:Nat):Ke xs k ep=JR kvs k ep:=by
 unfold Ke JR
 rw[(r.val k).isSome_eq,RB]
def o7(H:Hp)(a:Addr)(y:V)(r:Option V):Prop:=
 (∃kvs k,Rd H a (.dK kvs)/\y=kV k/\r=lN kvs k)\/∃kvs ep k b,Rd H a (.dT kvs ep)/\y=.ref b/\Rd H b (.tup (k.map kV))/\r=lN kvs k
def Dv(H:Hp)(a:Addr)(y v:V)(H':Hp):Prop:=
 (∃kvs k,H a=some (.dK kvs)/\y=kV k/\kvs.length<sizeLine/\H'=upd H a (.dK (putK kvs k v)))\/
 ∃kvs ep k b,H a=some (.dT kvs ep)/\y=.ref b/\Rd H b (.tup (k.map kV))/\kvs.length<sizeLine/\H'=upd H a (.dT (putK kvs k v) (JR kvs k ep))
def o7.t{H:Hp}{a b:Addr}{ep:Nat}{kvs:List (List Key×V)}{k:List Key}(e:H a=some (.dT kvs ep))(eb:Rd H b (.tup (k.map kV))):o7 H a (.ref b) (lN kvs k):=.inr ⟨kvs,ep,k,b,.inl e,rfl,eb,rfl⟩
def Dv.t{H:Hp}{a b:Addr}{ep:Nat}{kvs:List (List Key×V)}{k:List Key}{v:V}(e:H a=some (.dT kvs ep))(eb:Rd H b (.tup (k.map kV)))(hl:kvs.length<sizeLine) :
  Dv H a (.ref b) v (upd H a (.dT (putK kvs k v) (JR kvs k ep))):=.inr ⟨kvs,ep,k,b,e,rfl,eb,hl,rfl⟩
section
variable {X:Cx}{pins:List (Addr×Obj)}{σ:St}{H:Hp}{s:Shared}{a:Addr}{y v:V}{u r:Value}{o:Option V}{A:Around}{E:Value->Shared->Prop}
def Inv.big(I:Inv X pins σ H s):sysModules<s.heap.objs.size:=by
 have h:mainGlobals<s.heap.objs.size:=(I.mod.glob.keeps I.bk).lt
 exact QM (by decide) h
def BD{Q:Value->Shared->Prop}(hu:A.units+1<cLine)(I:Inv X pins σ H s)(g:o7 H a y (some v))(ry:RelV y u)(h:∀w' s',Inv X pins σ H s'->RelV v w'->Q w' s') :
  wpAny (model X.prog X.w) A (getItem (.ref a) u) Q E s:=by
 rcases g with⟨kvs,k,e,ey,l⟩|⟨kvs,ep,k,b,e,ey,eb,l⟩
 .subst ey
  let⟨z,hd,vs,rel,dd⟩:=xm I.hok e
  obtain⟨w',hw,rw'⟩:=rN.some_of (by rw[l];exact rel.val k)
  exact wpAny_getItem_of (xT ry) dd.mapOf hw (h w' _ (I.tok _) rw')
 .subst ey
  cases(show u=Value.ref b from ry)
  let⟨z,hd,xs,rel,dd⟩:=zz I.hok e
  obtain⟨w',hw,rw'⟩:=rN.some_of (by rw[l];exact rel.val k)
  let⟨p,hp,hp2⟩:=Q0.mp hw
  refine wpAny_getItem_heap (Rt hu) (lE I.hok eb) dd hp ?_
  rw[hp2]
  exact h w' _ (I.tok _) rw'
def Mz{Q:Value->Shared->Prop}(hu:A.units+1<cLine)(I:Inv X pins σ H s)(g:o7 H a y o)(ry:RelV y u)(h:∀s',Inv X pins σ H s'->Q (.bool o.isSome) s') :
  wpAny (model X.prog X.w) A (compareOp .In u (.ref a)) Q E s:=by
 rcases g with⟨kvs,k,e,ey,l⟩|⟨kvs,ep,k,b,e,ey,eb,l⟩
 .subst ey
  let⟨z,hd,vs,rel,dd⟩:=xm I.hok e
  refine wpAny_in_of (xT ry) hd dd.mapOf ?_
  rw[<-(rel.val k).isSome_eq,<-l]
  exact h _ (I.tok _)
 .subst ey
  cases(show u=Value.ref b from ry)
  let⟨z,hd,xs,rel,dd⟩:=zz I.hok e
  refine wpAny_in_heap (Rt hu) (lE I.hok eb) hd dd ?_
  have q:=(rel.val k).isSome_eq
  rw[RB]at q
  rw[<-q,<-l]
  exact h _ (I.tok _)
def FX{Q:Value->Shared->Prop}(hu:A.units+1<cLine)(I:Inv X pins σ H s)(g:o7 H a y o)(ry:RelV y u)(h:∀s',Inv X pins σ H s'->Q (.bool (!o.isSome)) s') :
  wpAny (model X.prog X.w) A (compareOp .NotIn u (.ref a)) Q E s:=by
 rcases g with⟨kvs,k,e,ey,l⟩|⟨kvs,ep,k,b,e,ey,eb,l⟩
 .subst ey
  let⟨z,hd,vs,rel,dd⟩:=xm I.hok e
  refine wpAny_notIn_of (xT ry) hd dd.mapOf ?_
  rw[<-(rel.val k).isSome_eq,<-l]
  exact h _ (I.tok _)
 .subst ey
  cases(show u=Value.ref b from ry)
  let⟨z,hd,xs,rel,dd⟩:=zz I.hok e
  refine wpAny_notIn_heap (Rt hu) (lE I.hok eb) hd dd ?_
  have q:=(rel.val k).isSome_eq
  rw[RB]at q
  rw[<-q,<-l]
  exact h _ (I.tok _)
def n5{h':Heap}{t':Nat}{ob:HO}(I:Inv X pins σ H s)(mu:Lg (H a))(hs:Heap.SameBut a s.heap h')(he:∃q,h'.get? a=some q)(new:bJ X.prog X.w (upd H a ob) h' a ob) :
  Inv X pins σ (upd H a ob) {s with heap:=h',toks:=t'}:=
 I.write mu (.inl rfl) (λb q hb z=>(hs.2 b hb).trans z) he new
def JQ{P:Program}{w:World}{H':Hp}{h':Heap}{kvs:List (Key×V)}{vs:List (Key×Value)}(z:kvs.length<=sizeLine)(hd:(a==sysModules)=false)(rel:KV kvs vs)(dd:h'.DictOf (bS P w) a vs) :
  bJ P w H' h' a (.dK kvs):=⟨z,hd,vs,rel,dd⟩
def Cd{H':Hp}{Q:Unit->Shared->Prop}(hu:A.units+1<cLine)(I:Inv X pins σ H s)(g:Dv H a y v H')(ry:RelV y u)(rv:RelV v r)(h:∀s',Inv X pins σ H' s'->Q () s') :
  wpAny (model X.prog X.w) A (setItem (.ref a) u r) Q E s:=by
 rcases g with⟨kvs,k,e,ey,l,eH⟩|⟨kvs,ep,k,b,e,ey,eb,l,eH⟩
 .subst ey eH
  let⟨z,hd,vs,rel,dd⟩:=K0 I.hok e
  have hz:vs.length<=sizeLine:=by rw[<-rel.length];exact z
  have hl:(putK kvs k v).length<=sizeLine:=by have:=gP kvs k v;omega
  refine wpAny_setItem_pairs (xT ry) dd λh' dd' hs=>h _ ?_
  have he:∃q,h'.get? a=some q:=let⟨q,_,_,hq,_⟩:=dd';⟨q,hq⟩
  exact n5 I (by rw[e];exact True.intro) hs he (JQ hl hd (rel.put k rv) dd')
 .subst ey eH
  cases(show u=Value.ref b from ry)
  let⟨z,hd,xs,rel,dd,di⟩:=jD I.hok (.inl e)
  have hz:xs.length<=sizeLine:=by rw[<-Paired.length rel];exact z
  have hl:(putK kvs k v).length<=sizeLine:=by have:=gP kvs k v;omega
  refine DF (Rt hu) (lE I.hok eb) di dd hz λh' dd' hs=>h _ ?_
  obtain⟨q,hq⟩:∃q,h'.get? a=some q:=let⟨q,_,hq,_⟩:=dd';⟨q,hq⟩
  refine n5 I (by rw[e];exact True.intro) hs ⟨q,hq⟩ ⟨hl,hd,_,(rel.put k eb rv).keeps λc ys ec=>?_,rel.ep k ep▸dd'⟩
  exact ec.imp (λec=>by rw[ar (mO ec e (λz=>nomatch z))];exact ec) λ⟨o,ec⟩=>⟨o,by rw[ar (mO ec e (λz=>nomatch z))];exact ec⟩
end
def Jr(i:Expr):Prop:=∀ov iv,subscripted i false ov iv=operate [ov,iv] (getItem ov iv)
def Ho{prog:Program}{w:World}{A:Around}{E:Value->Shared->Prop}{s:Shared}{env:Env}{value slice:Expr}{pos:Pos}{T id:String}{Q:Value->Shared->Prop}
  (hl:typeLookup (.type T) "__getitem__"=pure (some (.builtin id))) (hs:Jr slice)
  (h:wpAny (model prog w) A (eval value env) (λo s₁=>wpAny (model prog w) A (eval slice env) (λi s₂=>s₂.TypeIs o T/\wpAny (model prog w) A (getItem o i) Q E s₂) E s₁) E s) :
  wpAny (model prog w) A (eval (.Subscript value slice pos) env) Q E s:=by
 refine Subscript_ (PK h (λo s₁ h₁=>PK h₁ (λi s₂ h₂=>?_) λ_ _ x=>x) λ_ _ x=>x)
 let⟨hT,h₂⟩:=h₂
 unfold subscriptTail
 refine N7 ?_
 rw[getitemInPython_of_ne hT.not_modules]
 refine N7 (P8 hT hl ?_)
 have fin:wpAny (model prog w) A (subscripted slice false o i) (λr s₃=>wpAny (model prog w) A (letTemporaryGo value o r >>= λ_=>pure r) Q E s₃) E s₂:=by
  rw[hs o i]
  exact wpAny_operating (PK h₂ (λr s₃ h₃=>N7 (wpAny_letTemporaryGo (N9 h₃))) λ_ _ x=>x)
 first
  |exact N9 (N7 fin)
  |exact N7 (N9 (N7 fin))
  |exact N7 fin
def xA{X:Cx}{pins:List (Addr×Obj)}{σ:St}{H:Hp}{s:Shared}{a:Addr}{y:V}{o:Option V}(I:Inv X pins σ H s)(g:o7 H a y o):s.TypeIs (.ref a) "dict":=by
 rcases g with⟨kvs,k,e,_,_⟩|⟨kvs,ep,k,b,e,_,_,_⟩
 .let⟨_,_,vs,_,dd⟩:=xm I.hok e
  exact dd.typeIs
 .let⟨_,_,xs,_,dd⟩:=zz I.hok e
  exact dd.typeIs
def LF(td ty:TE):TE:=λσ H Q=>td σ H λx H1=>ty σ H1 λy H2=>∃a v,x=.ref a/\o7 H2 a y (some v)/\Q v H2
def LZ(td ty tv:TE):TS:=λD σ H=>tv σ H λv H1=>td σ H1 λx H2=>ty σ H2 λy H3=>∃a H4,x=.ref a/\Dv H3 a y v H4/\D.nx σ H4
section
variable {X:Cx}{o i e value:Expr}{pos pos' tpos:Pos}{td ty tv:TE}
def G8(hu:X.A.units+1<cLine)(ho:PE X o td)(hi:PE X i ty)(hs:Jr i):PE X (.Subscript o i pos) (LF td ty):=by
 intro pins s σ H Q I h
 refine Ho PySem.F.slot_dict_getitem.lookup hs (cI (ho pins s σ H _ I h) λu s1 ⟨x,H1,I1,rx,q1⟩=>cI (hi pins s1 σ H1 _ I1 q1) λiv s2 ⟨y,H2,I2,ry,a,v,ex,g,q2⟩=>?_)
 subst ex
 obtain rfl:u=Value.ref a:=rx
 exact⟨xA I2 g,BD hu I2 g ry λw' s3 I3 rw'=>⟨v,H2,I3,rw',q2⟩⟩
def GH(hu:X.A.units+1<cLine)(ho:PE X o td)(hi:PE X i ty)(hv:PE X value tv)(hs:swapsWith value (some (.Subscript o i pos')) pos.line X.env=pure false) :
  PS X (.Assign [.Subscript o i pos'] value pos) (LZ td ty tv):=by
 intro pins s σ H D I h
 refine wpAny_Assign_Subscript (cI (hv pins s σ H _ I h) λr s1 ⟨v,H1,I1,rv,q1⟩=>cI (ho pins s1 σ H1 _ I1 q1) λu s2 ⟨x,H2,I2,rx,q2⟩=>cI (hi pins s2 σ H2 _ I2 q2) λiv s3 ⟨y,H3,I3,ry,a,H4,ex,g,q3⟩=>?_) hs
 subst ex
 obtain rfl:u=Value.ref a:=rx
 exact Cd hu I3 g ry rv λs4 I4=>⟨σ,H4,I4,q3⟩
end
def xF{P:Program}{w:World}{H:Hp}(h:Heap)(hb:sysModules<h.objs.size):bJ P w H (h.push {cls:=.type "dict",data:=.dict #[]}) h.objs.size (.dT [] 0):=
 ⟨O2 _,Rj.mpr (Ne.symm (OP hb)),[],.nil,_,#[],Ou _ rfl,⟨rfl,rfl,rfl⟩,rfl,rfl,Qy⟩
def Iz:TE:=λ_ H Q=>∀p,H p=none->Q (.ref p) (upd H p (.dT [] 0))
section
variable {X:Cx}{pos:Pos}
def C9:PE X (.Dict [] [] pos) Iz:=λpins s σ H Q I h=>
 wpAny_Dict_empty ⟨.ref s.heap.objs.size,_,I.laid (λ_ _ q=>Oa _ q) (Oc _) (xF s.heap I.big),rfl,h _ (I.hok.fresh (Oc _))⟩
end
end L2
namespace L2
open PySem
section
variable {K:Frag}{h:Heap}{mg:Str->Option Value}
theorem yp{α:Type}{P:List α->Prop}(q:∀a,P [a]):∀us:List α,us.length=1->P us
 | [a],_=>q a
theorem ln2{α:Type}{P:List α->Prop}(q:∀a b,P [a,b]):∀us:List α,us.length=2->P us
 | [a,b],_=>q a b
theorem Lq{α:Type}{P:List α->Prop}(q:∀a b c,P [a,b,c]):∀us:List α,us.length=3->P us
 | [a,b,c],_=>q a b c
def a8(x:Str)(st:Stmt)(ps:List Str):Prop:=∀(kV doc pm:Value) (an:Option Addr) (cdv ct:Value) (us:List Value),us.length=ps.length->bindArgs (PySem.W.fnOf x x (jr st) (dr st) (au st) .none kV doc pm an cdv ct) ⟨us,[]⟩=pure (ps.zip us)
structure Fo(K:Frag)(mg:Str->Option Value)(x:Str)(st:Stmt)(ps:List Str):Prop where
 ex:∃f fd,jJ K mg x st ps f fd
def bG{x:Str}{st:Stmt}{ps:List Str}{f:Addr}{oc:Value}{od an:Option Addr}{sl:Array (Option Value)}{kV doc pm cdv ct:Value}(X:K.In h)(G:h.Ns mainGlobals mg)(b:a8 x st ps)(a:PySem.W.nsIn K mainGlobals x=some (some (.ref f)))
  (l:K.lookup f=some ⟨oc,od,.func (PySem.W.fnOf x x (jr st) (dr st) (au st) .none kV doc pm an cdv ct),sl⟩) (c:PySem.W.codeIn K cdv x=true) (k:PySem.W.keepIn K (.ref f)=true):Fo K mg x st ps:=
 ⟨⟨f,_,PySem.W.mg_of X G a,y7 l c k,(y7 l c k).binds b⟩⟩
def Mv:List Str:=["len","range","enumerate","zip","min","max","sum","abs","sorted","reversed","int","str","bool","list","tuple","dict","set","isinstance","repr","any","all","divmod"]
def Nd(K:Frag):Bool:=Mv.all λx=>match PySem.W.nsIn K mainGlobals x with
 |some none=>true
 |_=>false
def ID(q:Nd K=true){x:Str}(hx:x∈Mv):PySem.W.nsIn K mainGlobals x=some none:=by
 have:=Pa.mp q x hx
 split at this
 .assumption
 .cases this
def Ki(X:K.In h)(G:h.Ns mainGlobals mg)(q:Nd K=true):jS mg:=by
 have key:∀{x:Str},x∈Mv->mg x=none:=λhx=>PySem.W.mg_none_of X G (ID q hx)
 constructor<;>exact key (by decide)
end
end L2
namespace PySem
open Sem (wp)
namespace F
def vA:typeLookup (.type "list") "keys"=pure none:=by rw[QF,PV];kernel_rfl
end F
section
variable {prog:Program}{w:World}{A:Around}{E:Value->Shared->Prop}{h:Heap}{g:Array GenState}{d:Drawn}{t:Nat}{os:OsState}{a:Addr}{o:Obj}
def pW{tk:Tok}{Q:Fin->Shared->Prop}{items:Array Value}{n:Nat}{sl:Array (Option Value)}(hx:h.get? a=some {cls:=.type "list",dict:=none,data:=.seq items n,slots:=sl})(hh:A.handled=none)
  (hq:∀h' t' e,(∀b q,h.get? b=some q->h'.get? b=some q)->(∃q,h'.get? e=some q/\q.cls=.type "AttributeError")->E (.ref e) ⟨h',g,d,t',os⟩) :
  wpAny (model prog w) A (Builtin.«object.__getattribute__» ⟨[.ref a,.str "keys" tk],[]⟩) Q E ⟨h,g,d,t,os⟩:=by
 have hT:(⟨h,g,d,t,os⟩:Shared).TypeIs (.ref a) "list":=⟨_,hx,rfl⟩
 have f4:=F.vA
 repeat(any_goals(first|assumption|wp_step))
 have hm:(Str.ofString (toString "'"++toString ((Manifest.find? "list").elim "list" λx=>x.tpName)++toString "' object has no attribute '")++Str.ofString "keys"++Str.ofString "'").length<=sizeLine:=by decide +kernel
 generalize(Str.ofString (toString "'"++toString ((Manifest.find? "list").elim "list" λx=>x.tpName)++toString "' object has no attribute '")++Str.ofString "keys"++Str.ofString "'")=msg at hm
 unfold raiseAttrError
 refine N7 (wpAny_mkStr (N7 ?_) hm)
 unfold newExc newTuple
 refine N7 (O8 ?_)
 refine N7 (wpAny_of_eq (a:=Value.none) (by first|rfl|kernel_rfl) (O8 ?_))
 dsimp only
 obtain⟨e,he⟩:∃e,(h.push {cls:=.type "tuple",data:=.seq #[Value.str msg t]}).objs.size=e:=⟨_,rfl⟩
 have hk:∀b q,h.get? b=some q->((h.push {cls:=.type "tuple",data:=.seq #[Value.str msg t]}).push {cls:=.type "AttributeError",data:=.fields (#[.ref h.objs.size,.none,.none,.none,.bool false,.none]++ownMembersOf (.type "AttributeError") [Value.str msg t])}).get? b=some q:=λb q hb=>Oa _ (Oa _ hb)
 have hv:=Ou (h.push {cls:=.type "tuple",data:=.seq #[Value.str msg t]}) (o:={cls:=.type "AttributeError",data:=.fields (#[.ref h.objs.size,.none,.none,.none,.bool false,.none]++ownMembersOf (.type "AttributeError") [Value.str msg t])}) rfl
 generalize((h.push {cls:=.type "tuple",data:=.seq #[Value.str msg t]}).push {cls:=.type "AttributeError",data:=.fields (#[.ref h.objs.size,.none,.none,.none,.bool false,.none]++ownMembersOf (.type "AttributeError") [Value.str msg t])})=h1 at hk hv
 rw[he]at hv ⊢
 have hv:h1.get? e=some {cls:=.type "AttributeError",data:=.fields #[.ref h.objs.size,.none,.none,.none,.bool false,.none,unsetMember,unsetMember]}:=hv
 have hn:h.get? e=none:=Heap.get?_none_of_le (by rw[<-he,PQ];omega)
 have hTe:∀t',(⟨h1,g,d,t',os⟩:Shared).TypeIs (.ref e) "AttributeError":=λt'=>⟨_,hv,rfl⟩
 have hTe2:=hTe (t+1+1)
 have f5:isSubtype (.type "AttributeError") (.type "AttributeError")=pure true:=by rw[Qg];kernel_rfl
 refine N7 (wpAny_mkText ?_)
 dsimp only
 clear hTe hT f4 hx
 unfold noteAttr
 repeat(any_goals(first|assumption|wp_step))
 unfold raiseNew
 refine N7 (wpAny_handled ?_)
 rw[hh]
 first
  |refine wpAny_throw ?_
  |refine N7 (N9 (wpAny_throw ?_))
 refine hq _ _ _ (λb q hb=>?_) ?_
 .rw[Pd h1 _ (λz=>by rw[<-z,hn]at hb;cases hb)];exact hk b q hb
 .exact⟨_,OQ _ hv rfl,rfl⟩
def qM{tk:Tok}{E':Result->Shared->Prop}{items:Array Value}{n:Nat}{sl:Array (Option Value)}(hx:h.get? a=some {cls:=.type "list",dict:=none,data:=.seq items n,slots:=sl})(hh:A.handled=none)
  (hq:∀h' t' e,(∀b q,h.get? b=some q->h'.get? b=some q)->(∃q,h'.get? e=some q/\q.cls=.type "AttributeError")->E' (.error (.ref e)) ⟨h',g,d,t',os⟩) :
  codeAny (model prog w) A (.call (.builtin "list.__getattribute__") ⟨[.ref a,.str "keys" tk],[]⟩) E' ⟨h,g,d,t,os⟩:=
 codeAny_call_builtin QQ.plain F.entry_list_ga (QQ.check _ _ _ _ _ _ _ _ (show(⟨h,g,d,t,os⟩:Shared).TypeIs (.ref a) "list"from⟨_,hx,rfl⟩) (F.args_list_getattribute_2 _ _) (pW hx hh hq))
def uS{tk:Tok}{Q:Value->Shared->Prop}{items:Array Value}{n:Nat}{sl:Array (Option Value)}(hx:h.get? a=some {cls:=.type "list",dict:=none,data:=.seq items n,slots:=sl})(hh:A.handled=none)
  (hq:∀h' t' e,(∀b q,h.get? b=some q->h'.get? b=some q)->(∃q,h'.get? e=some q/\q.cls=.type "AttributeError")->E (.ref e) ⟨h',g,d,t',os⟩) :
  wpAny (model prog w) A (getAttrBy (.ref a) (.str "keys" tk) false) Q E ⟨h,g,d,t,os⟩:=by
 have hT:(⟨h,g,d,t,os⟩:Shared).TypeIs (.ref a) "list":=⟨_,hx,rfl⟩
 have f2:=QQ.lookup
 have f3:=QQ.bind (.ref a)
 repeat(any_goals(first|assumption|wp_step))
 refine qM hx hh λh' t' e hk hv=>?_
 have hT2:(⟨h',g,d,t',os⟩:Shared).TypeIs (.ref e) "AttributeError":=hv
 have f5:isSubtype (.type "AttributeError") (.type "AttributeError")=pure true:=by rw[Qg];kernel_rfl
 have f6:typeLookup (.type "list") "__getattr__"=pure none:=by rw[QF,PV];kernel_rfl
 have hq2:=hq h' t' e hk hv
 clear hq hT f2 f3
 dsimp only
 unfold getattributeRaised hookBehind hookOrError attributeErrorLeaves
 repeat(any_goals(first|assumption|wp_step))
def BL{Q:Option Value->Shared->Prop}{items:Array Value}{n:Nat}{sl:Array (Option Value)}(hx:h.get? a=some {cls:=.type "list",dict:=none,data:=.seq items n,slots:=sl})(hh:A.handled=none)
  (hq:∀h' t',(∀b q,h.get? b=some q->h'.get? b=some q)->Q none ⟨h',g,d,t',os⟩):wpAny (model prog w) A (getAttr? (.ref a) "keys") Q E ⟨h,g,d,t,os⟩:=by
 unfold getAttr? getAttrBy?
 refine N7 (wpAny_mkText (N7 (wpAny_attempt (uS hx hh λh' t' e hk hv=>?_))))
 have hT2:(⟨h',g,d,t',os⟩:Shared).TypeIs (.ref e) "AttributeError":=hv
 have f5:isSubtype (.type "AttributeError") (.type "AttributeError")=pure true:=by rw[Qg];kernel_rfl
 have hq2:=hq h' t' hk
 dsimp only
 repeat(any_goals(first|assumption|wp_step))
end
end PySem
section
namespace PySem
namespace F
def lx:entryFor table "dict.update.loop"=some Builtin.«dict.update.loop»:=entryFor_of_tree (by kernel_rfl)
def fL:plainId "dict.update.loop"=true:=by decide +kernel
end F
end PySem
namespace L2
open PySem PyProof.Rows
section
variable {X:Cx}{pins:List (Addr×Obj)}{σ:St}{H:Hp}{s:Shared}{a b d l it:Addr}{A:Around}{E:Value->Shared->Prop}
def BK{kvs:List (List Key×V)}{ep:Nat}{k:List Key}{v:V}{r:Value}{Q:Unit->Shared->Prop}(hu:A.units<cLine)(I:Inv X pins σ H s)(e:H a=some (.dT kvs ep))(eb:Rd H b (.tup (k.map kV)))(lk:kvs.length<sizeLine)(rv:RelV v r)
  (h:∀h' t',Heap.SameBut a s.heap h'->Inv X pins σ (upd H a (.dT (putK kvs k v) (JR kvs k ep))) {s with heap:=h',toks:=t'}->Q () {s with heap:=h',toks:=t'}) :
  wpAny (model X.prog X.w) A (dictSet a (.ref b) r) Q E s:=by
 let⟨z,hd,xs,rel,dd,di⟩:=jD I.hok (.inl e)
 have hz:xs.length<=sizeLine:=by rw[<-Paired.length rel];exact z
 have hl:(putK kvs k v).length<=sizeLine:=by have:=gP kvs k v;omega
 refine rO hu (lE I.hok eb) di dd hz λh' dd' hs=>h _ _ hs ?_
 obtain⟨q,hq⟩:∃q,h'.get? a=some q:=let⟨q,_,hq,_⟩:=dd';⟨q,hq⟩
 refine n5 I (by rw[e];exact True.intro) hs ⟨q,hq⟩ ⟨hl,hd,_,(rel.put k eb rv).keeps λc ys ec=>?_,rel.ep k ep▸dd'⟩
 exact ec.imp (λec=>by rw[ar (mO ec e (λz=>nomatch z))];exact ec) λ⟨o,ec⟩=>⟨o,by rw[ar (mO ec e (λz=>nomatch z))];exact ec⟩
theorem wz{result:Value}{R:Result->Shared->Prop}{xs:List V}(hh:A.handled=none)(hu:A.units+1<cLine)(hnd:it≠d)(hl:∀o,gY X.K (upd H d o) l xs)(hf:∀o,pS X pins (upd H d o) it) :
  ∀(rest:List (Addr×Addr×List Key×V)) (i:Nat) (j:Int) (kvs:List (List Key×V)) (ep:Nat) (s:Shared),Inv X pins σ (upd H d (.dT kvs ep)) s->s.heap.IsListIter it l i->xs.drop i=rest.map (λq=>V.ref q.1)->
   (∀q,q∈rest->∀o,fF X.K (upd H d o) q.1 [V.ref q.2.1,q.2.2.2]/\Rd (upd H d o) q.2.1 (.tup (q.2.2.1.map kV)))->kvs.length+rest.length<=sizeLine->
   (∀h' t' e',Inv X pins σ (upd H d (.dT (rest.foldl (λa q=>putK a q.2.2.1 q.2.2.2) kvs) e')) {s with heap:=h',toks:=t'}->R (.ok (.ret result)) {s with heap:=h',toks:=t'})->
   codeAny (model X.prog X.w) A (.builtin "dict.update.loop" ⟨[.ref d,.ref it,rawInt j,result],[]⟩) R s
 | [],i,j,kvs,ep,s,I,hi,hx,_,_,hR=>by
  obtain⟨its,rv,pl,_⟩:=I.list (hl _)
  have hlen:its.length=xs.length:=rv.length.symm
  have hx:its.toArray[i]? =none:=by
   have:xs.length<=i:=by
    have:=congrArg List.length hx
    rw[List.length_drop]at this
    simp at this
    omega
   simp;omega
  refine P9 F.lx ?_
  rw[PM F.fL _]
  refine N7 (wpAny_pyNext_list_end hh hi pl.isList hx λh' hk=>?_)
  have I':=I.turnedL (t':=s.toks) (ch:=[it]) (λb o hb e=>hk b o (λz=>hb (by simp[z])) e) (λb hb=>by rw[OT]at hb;exact hb▸hf _)
  exact N7 (N9 (N9 (hR h' s.toks _ I')))
 |q::rest,i,j,kvs,ep,s,I,hi,hx,hq,hz,hR=>by
  let⟨its,rv,pl,_⟩:=I.list (hl _)
  have hxi:xs[i]? =some (V.ref q.1):=by
   have:=congrArg List.head? hx
   rwa [List.head?_drop,OJ,List.head?_cons]at this
  obtain⟨u,hu2,ru⟩:∃u,its[i]? =some u/\RelV (V.ref q.1) u:=Vals.get rv hxi
  cases ru
  refine P9 F.lx ?_
  rw[PM F.fL _]
  refine N7 (wpAny_pyNext_list_item hi pl.isList (by simpa using hu2) λh' hi' hk=>?_)
  have I':=I.turnedL (t':=s.toks) (ch:=[it]) (λb o hb e=>(hk.2 b (λz=>hb (by simp[z]))).trans e) (λb hb=>by rw[OT]at hb;exact hb▸hf _)
  let⟨ht,hkey⟩:=hq q (Ol ..) (.dT kvs ep)
  let⟨ps,rp,tp,_⟩:=I'.tuple ht
  refine N7 (O0 ?_)
  obtain⟨u,w,rfl,ru,rw'⟩:∃u w,ps= [u,w]/\RelV (V.ref q.2.1) u/\RelV q.2.2.2 w:=by
   cases rp with
   |cons h1 r=>cases r with|cons h2 r=>cases r;exact⟨_,_,rfl,h1,h2⟩
  cases ru
  let⟨o,ho,hoc,n,hod⟩:=tp
  have hT:({s with heap:=h'}:Shared).TypeIs (.ref q.1) "tuple":=⟨o,ho,hoc⟩
  refine N7 (wpAny_tryCatch ?_)
  unfold Builtin.Dict.pairItems
  refine N7 (QO hT ?_)
  rw[Od (by decide)]
  refine N7 (wpAny_seqItems ho hod (N9 ?_))
  refine O0 ?_
  rw[ON]at hz
  refine BK hu I' av hkey (by omega) rw' λh2 t2 hs2 I2=>?_
  have eH:upd (upd H d (.dT kvs ep)) d (.dT (putK kvs q.2.2.1 q.2.2.2) (JR kvs q.2.2.1 ep))=upd H d (.dT (putK kvs q.2.2.1 q.2.2.2) (JR kvs q.2.2.1 ep)):=by
   funext c;unfold upd;by_cases z:c=d<;>simp[z]
  rw[eH]at I2
  refine N9 ⟨QX F.fL _,wz hh hu hnd hl hf rest (i+1) (j+1) _ _ _ I2 ?_ ?_ (λq' hq'=>hq q' (Og _ hq')) ?_ λh3 t3 e3 I3=>hR h3 t3 e3 I3⟩
  .exact Heap.IsListIter.extBut hi' hs2.extBut hnd
  .rw[<-List.tail_drop,hx];rfl
  .have:=gP kvs q.2.2.1 q.2.2.2;omega
end
end L2
end
namespace L2
open PySem PyProof.Rows
section
variable {X:Cx}{K:Frag}{pins:List V}{σ:St}{H:Hp}{s:Shared}{E:XK}
def Cz(K:Frag):List V->Hp->VK->Prop:=λxs H Q=>∃l,∃rest:List (Addr×Addr×List Key×V),xs= [.ref l]/\gY K H l (rest.map λq=>V.ref q.1)/\(∀q,q∈rest->fF K H q.1 [V.ref q.2.1,q.2.2.2]/\Rd H q.2.1 (.tup (q.2.2.1.map kV)))/\
 ∀d ep,H d=none->Q (.ref d) (upd H d (.dT (rest.foldl (λa q=>putK a q.2.2.1 q.2.2.2) []) ep))
def gY.up{l d:Addr}{xs:List V}{o:HO}(h:gY K H l xs)(hd:H d=none):gY K (upd H d o) l xs:=by
 have s:ak H (upd H d o):=ak.new hd
 rcases h with h|h
 .exact .inl (h.mono s)
 .exact .inr h
def fF.up{l d:Addr}{xs:List V}{o:HO}(h:fF K H l xs)(hd:H d=none):fF K (upd H d o) l xs:=by
 have s:ak H (upd H d o):=ak.new hd
 rcases h with h|h
 .exact .inl (h.mono s)
 .exact .inr h
def qt(hc:X.calm=true)(hu:X.A.units+2<cLine):dq X (.type "dict") (Cz X.K):=by
 intro pins s σ H xs us Q I r h
 obtain⟨l,rest,rfl,hl,hq,k⟩:=h
 obtain⟨u,rfl,rx⟩:=vals1 r
 cases rx
 have hh:=I.ok.hd hc
 have hd0:H s.heap.objs.size=none:=I.hok.fresh (Oc _)
 refine callType_codes (Q₁:=λobj s₁=>obj=.ref s.heap.objs.size/\s₁={s with heap:=s.heap.push {cls:=.type "dict",data:=.dict #[]}}) F.kt_called_dict (F.kt_typeCall_dict_1 _) F.entry_dict_init (kt_code_dict_new _ ⟨rfl,rfl⟩) ?_
 rintro obj s₁ ⟨rfl,rfl⟩
 have hnew:(s.heap.push {cls:=.type "dict",data:=.dict #[]}).DictOf (bS X.prog X.w) s.heap.objs.size []:=Heap.DictOf.new s.heap
 have hsm:(s.heap.objs.size==sysModules)=false:=by
  have:=I.big
  rw[Rj];exact QL this
 have I1:Inv X pins σ (upd H s.heap.objs.size (.dT [] 0)) {s with heap:=s.heap.push {cls:=.type "dict",data:=.dict #[]},toks:=s.toks}:=I.laid (λ_ _=>Oa _) (Oc _) ⟨O2 _,hsm,[],.nil,_,_,Ou _ rfl,by trivial,rfl,rfl,Qy⟩
 refine⟨hnew.typeIs,F.args_dict_init_2 _ _,?_⟩
 unfold Builtin.«dict.__init__»
 refine N7 ?_
 unfold Builtin.Dict.selfAndRest
 refine N7 (Q6 hnew.typeIs ?_)
 refine N9 ?_
 show wpAny _ _ (Builtin.Dict.updateFrom "dict.__init__" s.heap.objs.size (.ref l) [] .none) _ _ _
 unfold Builtin.Dict.updateFrom
 let⟨its,rv,pl,hz⟩:=I1.list (hl.up hd0)
 let⟨⟨cls,dd,data,sl⟩,n,ho,hoc,hod,hodd⟩:=id pl
 simp only at hoc hod hodd
 subst hoc hod hodd
 refine N7 (QO ⟨_,ho,rfl⟩ ?_)
 rw[Od (by decide)]
 refine N7 (BL ho hh λh1 t1 hk1=>?_)
 have I2:=I1.kept (t':=t1) hk1
 let⟨its2,rv2,pl2,_⟩:=I2.list (hl.up hd0)
 rw[Od (by rfl)]
 have hdl:s.heap.objs.size<h1.objs.size:=by
  obtain⟨o,e⟩:∃o,h1.get? s.heap.objs.size=some o:=⟨_,hk1 _ _ (Ou _ rfl)⟩
  exact Oj e
 have hnd:h1.objs.size≠s.heap.objs.size:=QL hdl
 have hfi:H h1.objs.size=none:=by
  have:=I2.hok.fresh (Oc h1.objs.size)
  rwa [ar hnd]at this
 refine N7 (wpAny_rule (N7 (QH pl2.isList ?_)))
 have I3:Inv X pins σ (upd H s.heap.objs.size (.dT [] 0)) {s with heap:=h1.push {cls:=.type "list_iterator",data:=.fields #[.ref l,.int 0 0]},toks:=t1}:=I2.kept (λ_ _=>Oa _)
 refine N9 ⟨QX F.fL _,wz (A:=X.A.in1) hh (by show X.A.units+1+1<cLine;exact hu) hnd (λo=>hl.up hd0) (λo=>I2.fpOk (Oc _) (by rw[ar hnd];exact hfi)) rest 0 0 [] 0 _ I3 ⟨_,Ou _ rfl,rfl,rfl⟩ rfl (λq hq' o=>⟨(hq q hq').1.up hd0,(hq q hq').2.mono (ak.new hd0)⟩) (by rw[Ob]at hz;simpa using hz) λh' t' e' I4=>?_⟩
 exact⟨rfl,.ref _,_,I4,rfl,k _ _ hd0⟩
end
section
variable {X:Cx}{K:Frag}{σ:St}{G H:Hp}{s:Shared}{E:XK}
def lz(K:Frag):Bool:=K.all λp=>match p.2.cls,p.2.data with
 | .type "tuple",.seq its _=>match its.toList with
  | [.int _ _,.int _ _]=>false
  |_=>true
 |_,_=>true
theorem CO{α:Type}{a:Addr}{o:α}:∀{L:List (Addr×α)},L.lookup a=some o->(a,o)∈L
 | (b,u)::L,h=>by
  rw[Rh]at h
  cases c:a==b with
  |true=>rw[c]at h;cases h;rw[eq_of_beq c];exact Ol ..
  |false=>rw[c]at h;exact Og _ (CO h)
def vb{a:Addr}{i j:Int}(hn:lz K=true)(h:fF K G a [.int i,.int j]):Rd G a (.tup [.int i,.int j]):=by
 rcases h with h|⟨o,its,n,hk,hc,hd,hz,r,_⟩
 .exact h
 .exfalso
  unfold lz at hn
  rw[Pa]at hn
  have hm:(a,o)∈K:=CO hk
  have:=hn _ hm
  simp only[hc,hd]at this
  generalize its.toList=us at r this
  cases r with
  |cons h1 r=>cases r with
   |cons h2 r=>
    cases r
    obtain⟨t1,rfl⟩:=h1
    obtain⟨t2,rfl⟩:=h2
    simp at this
def kP(p:Int×Int):List Key:=[.inl p.1,.inl p.2]
def qE{p q:Int×Int}:kP p=kP q↔p=q:=by
 unfold kP
 constructor
 .intro h
  simp at h
  exact Prod.ext h.1 h.2
 .intro h;rw[h]
def oG(acc:List ((Int×Int)×D))(p:Int×Int)(d:D):List ((Int×Int)×D):=
 if(acc.any λkv=>decide (kv.1=p))=true then acc.map λkv=>if kv.1=p then(kv.1,d)else kv else acc++[(p,d)]
abbrev KP(K:Frag)(G:Hp):List (List Key×V)->List ((Int×Int)×D)->Prop:=Paired λa b=>a.1=kP b.1/\Rp K G a.2 b.2
theorem KP.any{kvs:List (List Key×V)}{acc:List ((Int×Int)×D)}(h:KP K G kvs acc)(p:Int×Int):(kvs.any λkv=>decide (kv.1=kP p))=acc.any λkv=>decide (kv.1=p):=by
 induction h with
 |nil=>rfl
 |cons h _ ih=>
  rw[Qe,Qe,ih,h.1]
  congr 1
  rw[decide_eq_decide];exact qE
theorem KP.repl{p:Int×Int}{v:V}{d:D}(hv:Rp K G v d):∀{kvs:List (List Key×V)} {acc:List ((Int×Int)×D)},KP K G kvs acc->KP K G (kvs.map λkv=>if kv.1=kP p then(kv.1,v)else kv) (acc.map λkv=>if kv.1=p then(kv.1,d)else kv)
 |_,_,.nil=>.nil
 | (a,_)::_,(b,_)::_,.cons h1 t=>by
  rw[OJ,OJ]
  refine .cons ?_ (KP.repl hv t)
  obtain⟨e,h1⟩:=h1
  simp only at e h1
  subst e
  by_cases c:b=p
  .simp only[Od (qE.mpr c),Od c];exact⟨trivial,hv⟩
  .simp only[Oe (λz=>c (qE.mp z)),Oe c];exact⟨trivial,h1⟩
theorem KP.snoc{p:Int×Int}{v:V}{d:D}(hv:Rp K G v d):∀{kvs:List (List Key×V)} {acc:List ((Int×Int)×D)},KP K G kvs acc->KP K G (kvs++[(kP p,v)]) (acc++[(p,d)])
 |_,_,.nil=>.cons ⟨rfl,hv⟩ .nil
 |_,_,.cons h1 t=>.cons h1 (KP.snoc hv t)
def KP.put{kvs:List (List Key×V)}{acc:List ((Int×Int)×D)}(h:KP K G kvs acc)(p:Int×Int){v:V}{d:D}(hv:Rp K G v d):KP K G (putK kvs (kP p) v) (oG acc p d):=by
 unfold putK oG
 rw[h.any p]
 split
 .exact h.repl hv
 .exact h.snoc hv
theorem KP.rp{kvs:List (List Key×V)}{acc:List ((Int×Int)×D)}(h:KP K G kvs acc):mX K G kvs (acc.map λx=>(.tuple [.int x.1.1,.int x.1.2],x.2)):=by
 induction h with
 |nil=>exact .nil
 | @cons a b _ _ h _ ih=>
  let⟨k,v⟩:=a
  obtain⟨e,h⟩:=h
  simp only at e h
  subst e
  exact .cons h ih
def Mm:D->Option ((Int×Int)×D)
 | .tuple [.tuple [.int a,.int b],v]=>some ((a,b),v)
 |_=>none
def E3:List D->Option (List ((Int×Int)×D))
 | []=>some []
 |d::ds=>match Mm d,E3 ds with
  |some x,some L=>some (x::L)
  |_,_=>none
def Iv{d:D}{x:(Int×Int)×D}(h:Mm d=some x):d=.tuple [.tuple [.int x.1.1,.int x.1.2],x.2]:=by
 unfold Mm at h
 split at h
 .cases h;rfl
 .cases h
abbrev NG(K:Frag)(G:Hp):List (Addr×Addr×List Key×V)->List ((Int×Int)×D)->Prop:=Paired λq x=>q.2.2.1=kP x.1/\Rp K G q.2.2.2 x.2
theorem zL(hn:lz K=true):∀{ds:List D} {xs:List V} {L:List ((Int×Int)×D)},cE K G xs ds->E3 ds=some L->∃rest:List (Addr×Addr×List Key×V),xs=rest.map (λq=>V.ref q.1)/\NG K G rest L/\∀q,q∈rest->fF K G q.1 [V.ref q.2.1,q.2.2.2]/\Rd G q.2.1 (.tup (q.2.2.1.map kV))
 | [],_,L,.nil,h=>by cases h;exact⟨[],rfl,.nil,(λq hq=>by cases hq)⟩
 |d::ds,_,L,.cons (x:=x) h t,e=>by
  unfold E3 at e
  cases e1:Mm d with
  |none=>rw[e1]at e;cases e
  |some y=>
   cases e2:E3 ds with
   |none=>rw[e1,e2]at e;cases e
   |some M=>
    rw[e1,e2]at e
    cases e
    obtain⟨rest,rfl,h1,h2⟩:=zL hn t e2
    rw[Iv e1]at h
    cases h with
    | @tup a zs _ hq r=>
     cases r with
     | @cons z _ _ _ r1 r=>cases r with
      | @cons w _ _ _ r2 r=>
       cases r
       cases r1 with
       | @tup b ws _ hq2 r3=>
        have hw:ws= [V.int y.1.1,V.int y.1.2]:=by
         cases r3 with
         |cons a1 r3=>cases r3 with
          |cons a2 r3=>cases r3;cases a1;cases a2;rfl
        subst hw
        refine⟨(a,b,kP y.1,w)::rest,rfl,.cons ⟨rfl,r2⟩ h1,λq hq'=>?_⟩
        rcases Oo.mp hq' with rfl|hq'
        .exact⟨hq,vb hn hq2⟩
        .exact h2 q hq'
def qP:D->Option D
 | .list ds=>(E3 ds).map λL=>.dict ((L.foldl (λa x=>oG a x.1 x.2) []).map λx=>(.tuple [.int x.1.1,.int x.1.2],x.2))
 |_=>none
theorem KP.fold:∀{rest:List (Addr×Addr×List Key×V)} {L:List ((Int×Int)×D)} {kvs:List (List Key×V)} {acc:List ((Int×Int)×D)},NG K G rest L->KP K G kvs acc->KP K G (rest.foldl (λa q=>putK a q.2.2.1 q.2.2.2) kvs) (L.foldl (λa x=>oG a x.1 x.2) acc)
 |_,_,_,_,.nil,h=>h
 |q::_,_,_,_,.cons h1 t,h=>by
  rw[Qk,Qk]
  refine KP.fold t ?_
  rw[h1.1]
  exact h.put _ h1.2
theorem AB(hn:lz K=true):yJ K (λx=>Cz K [x]) qP .v:=by
 intro B G H x dx d Q s hB bx e k
 cases dx with
 |list ds=>
  have e:((E3 ds).map λL=>PyData.dict ((L.foldl (λa x=>oG a x.1 x.2) []).map λx=>(.tuple [.int x.1.1,.int x.1.2],x.2)))=some d:=e
  cases e1:E3 ds with
  |none=>rw[e1]at e;cases e
  |some L=>
   rw[e1]at e
   cases e
   obtain⟨p,xs,rfl,hq,r⟩:=bx.list s
   obtain⟨rest,rfl,hR,h2⟩:=zL hn r e1
   refine⟨p,rest,rfl,.inl hq,λq hq=>⟨(h2 q hq).1.grow s.grow,(h2 q hq).2.mono s⟩,λd ep hd=>?_⟩
   have xn:=Ext.new s (o:=.dT (rest.foldl (λa q=>putK a q.2.2.1 q.2.2.2) []) ep) hd
   exact k _ _ _ xn (.dT av ((KP.fold hR .nil).rp.mono xn.gg))
 |_=>cases e
end
end L2
section
set_option Elab.async false
namespace RO
open PySem L2
def AV(K:Frag):Sp:=λvs H Q _=>∃(a:Addr) (ns:List Int),vs= [.ref a]/\gY K H a (ns.map V.int)/\∀H',ak H H'->Q (.bl true) H'
def yj:a8 "is_whole" RQ.kh ["thing"]:=λ_ _ _ _ _ _=>yp λ_=>rfl
def yQ:a8 "is_below" RQ.km ["thing","bound"]:=λ_ _ _ _ _ _=>ln2 λ_ _=>rfl
def Bg:a8 "is_many" RQ.mf ["thing"]:=λ_ _ _ _ _ _=>yp λ_=>rfl
def A0:a8 "is_pair" RQ.mw ["thing","many"]:=λ_ _ _ _ _ _=>ln2 λ_ _=>rfl
def vm:a8 "every_pair" RQ.fI ["many"]:=λ_ _ _ _ _ _=>yp λ_=>rfl
def CQ:a8 "closed" n9 ["many","pairs"]:=λ_ _ _ _ _ _=>ln2 λ_ _=>rfl
def yv:a8 "has_ring" RQ.kq ["pairs"]:=λ_ _ _ _ _ _=>yp λ_=>rfl
def yR:a8 "is_order" RQ.j4 ["thing"]:=λ_ _ _ _ _ _=>yp λ_=>rfl
def uO:a8 "need_order" RQ.iw ["thing"]:=λ_ _ _ _ _ _=>yp λ_=>rfl
def xZ:a8 "are_apart" RQ.i7 ["order","a","b"]:=λ_ _ _ _ _ _=>Lq λ_ _ _=>rfl
def Fe:a8 "turns" RQ.qk ["order"]:=λ_ _ _ _ _ _=>yp λ_=>rfl
def uL:a8 "turn_table" RQ.hZ ["order"]:=λ_ _ _ _ _ _=>yp λ_=>rfl
def rC:a8 "forced_among" RQ.fW ["table","many","turn"]:=λ_ _ _ _ _ _=>Lq λ_ _ _=>rfl
def xp:a8 "back_turn" RQ.ji ["turn"]:=λ_ _ _ _ _ _=>yp λ_=>rfl
def pj:a8 "forced_in_turn" RQ.eG ["table","many","turn"]:=λ_ _ _ _ _ _=>Lq λ_ _ _=>rfl
def BF:a8 "path_to" RQ.l6 ["came","turn"]:=λ_ _ _ _ _ _=>ln2 λ_ _=>rfl
def v8:a8 "find_knot" RQ.jl ["table","many"]:=λ_ _ _ _ _ _=>ln2 λ_ _=>rfl
def wA:a8 "points_by" RQ.jt ["order","chosen"]:=λ_ _ _ _ _ _=>ln2 λ_ _=>rfl
def sE:a8 "chosen_turns" RQ.fV ["table","many"]:=λ_ _ _ _ _ _=>ln2 λ_ _=>rfl
def o8:a8 "points_or_knot" RQ.dW ["order"]:=λ_ _ _ _ _ _=>yp λ_=>rfl
def wa:a8 "_law_cell" RQ.jf ["script","k"]:=λ_ _ _ _ _ _=>ln2 λ_ _=>rfl
def yh:a8 "_law_mix" RQ.gf ["cell","k"]:=λ_ _ _ _ _ _=>ln2 λ_ _=>rfl
def zf:a8 "_law_box" RQ.ku ["script","k"]:=λ_ _ _ _ _ _=>ln2 λ_ _=>rfl
def xR:a8 "_law_take" RQ.jg ["box","many"]:=λ_ _ _ _ _ _=>ln2 λ_ _=>rfl
def vW:a8 "_law_whole" RQ.ic ["thing"]:=λ_ _ _ _ _ _=>yp λ_=>rfl
def pX:a8 "_law_mixed_up" RQ.fj ["box","some"]:=λ_ _ _ _ _ _=>ln2 λ_ _=>rfl
def tx:a8 "_law_closed" RQ.gE ["pairs"]:=λ_ _ _ _ _ _=>yp λ_=>rfl
def vn:a8 "_law_order" RQ.iu ["box","most"]:=λ_ _ _ _ _ _=>ln2 λ_ _=>rfl
def ve:a8 "_law_apart" RQ.ie ["order","a","b"]:=λ_ _ _ _ _ _=>Lq λ_ _ _=>rfl
def vG:a8 "_law_turns" RQ.ik ["order"]:=λ_ _ _ _ _ _=>yp λ_=>rfl
def xu:a8 "_law_told" RQ.jc ["many","rows"]:=λ_ _ _ _ _ _=>ln2 λ_ _=>rfl
def qV:a8 "_law_is_turn" RQ.fQ ["order","thing"]:=λ_ _ _ _ _ _=>ln2 λ_ _=>rfl
def sY:a8 "_law_forces" RQ.gH ["order","one","other"]:=λ_ _ _ _ _ _=>Lq λ_ _ _=>rfl
def rq:a8 "_law_is_knot" RQ.fR ["thing","order"]:=λ_ _ _ _ _ _=>ln2 λ_ _=>rfl
def oF:a8 "_law_are_points" RQ.de ["thing","order"]:=λ_ _ _ _ _ _=>ln2 λ_ _=>rfl
def u7:a8 "_law_crown" RQ.iD ["box"]:=λ_ _ _ _ _ _=>yp λ_=>rfl
def vR:a8 "_law_right" RQ.il ["found","order"]:=λ_ _ _ _ _ _=>ln2 λ_ _=>rfl
def HF:Prop:=∀{l:PySem.W.OpenLaw} {w:World} {K:Frag} {h:Heap} {mg:Str->Option Value} {fa f38:Addr} (X:K.In h) (G:h.Ns mainGlobals mg) (hfa:mg "law"=some (.ref fa))
  {od38 an38:Option Addr} {sl38:Array (Option Value)} {oc38 kV38 dc38 pm38 cd38 ct38:Value} {tMOST_THINGS:Tok}
  (F1:Fo K mg "is_whole" RQ.kh ["thing"])
  (F2:Fo K mg "is_below" RQ.km ["thing","bound"])
  (F3:Fo K mg "is_many" RQ.mf ["thing"])
  (F4:Fo K mg "is_pair" RQ.mw ["thing","many"])
  (F5:Fo K mg "every_pair" RQ.fI ["many"])
  (F6:Fo K mg "closed" n9 ["many","pairs"])
  (F7:Fo K mg "has_ring" RQ.kq ["pairs"])
  (F8:Fo K mg "is_order" RQ.j4 ["thing"])
  (F9:Fo K mg "need_order" RQ.iw ["thing"])
  (F10:Fo K mg "are_apart" RQ.i7 ["order","a","b"])
  (F11:Fo K mg "turns" RQ.qk ["order"])
  (F12:Fo K mg "turn_table" RQ.hZ ["order"])
  (F13:Fo K mg "forced_among" RQ.fW ["table","many","turn"])
  (F14:Fo K mg "back_turn" RQ.ji ["turn"])
  (F15:Fo K mg "forced_in_turn" RQ.eG ["table","many","turn"])
  (F16:Fo K mg "path_to" RQ.l6 ["came","turn"])
  (F17:Fo K mg "find_knot" RQ.jl ["table","many"])
  (F18:Fo K mg "points_by" RQ.jt ["order","chosen"])
  (F19:Fo K mg "chosen_turns" RQ.fV ["table","many"])
  (F20:Fo K mg "points_or_knot" RQ.dW ["order"])
  (F21:Fo K mg "_law_cell" RQ.jf ["script","k"])
  (F22:Fo K mg "_law_mix" RQ.gf ["cell","k"])
  (F23:Fo K mg "_law_box" RQ.ku ["script","k"])
  (F24:Fo K mg "_law_take" RQ.jg ["box","many"])
  (F25:Fo K mg "_law_whole" RQ.ic ["thing"])
  (F26:Fo K mg "_law_mixed_up" RQ.fj ["box","some"])
  (F27:Fo K mg "_law_closed" RQ.gE ["pairs"])
  (F28:Fo K mg "_law_order" RQ.iu ["box","most"])
  (F29:Fo K mg "_law_apart" RQ.ie ["order","a","b"])
  (F30:Fo K mg "_law_turns" RQ.ik ["order"])
  (F31:Fo K mg "_law_told" RQ.jc ["many","rows"])
  (F32:Fo K mg "_law_is_turn" RQ.fQ ["order","thing"])
  (F33:Fo K mg "_law_forces" RQ.gH ["order","one","other"])
  (F34:Fo K mg "_law_is_knot" RQ.fR ["thing","order"])
  (F35:Fo K mg "_law_are_points" RQ.de ["thing","order"])
  (F36:Fo K mg "_law_crown" RQ.iD ["box"])
  (F37:Fo K mg "_law_right" RQ.il ["found","order"])
  (a38:PySem.W.nsIn K mainGlobals "law"=some (some (.ref f38))) (l38:K.lookup f38=some ⟨oc38,od38,.func (PySem.W.fnOf "law" "law" (jr RQ.mI) (dr RQ.mI) (au RQ.mI) .none kV38 dc38 pm38 an38 cd38 ct38),sl38⟩) (c38:PySem.W.codeIn K cd38 "law"=true) (k38:PySem.W.keepIn K (.ref f38)=true)
  (zB:Nd K=true)
  (yMOST_THINGS:PySem.W.nsIn K mainGlobals "MOST_THINGS"=some (some (.int 8 tMOST_THINGS)))
  (np:lz K=true),∃fd:FuncData,(∀(s:Shared) (v:Value),BindsTo s fd ⟨[v],[]⟩ [("script",v)])/\∀base:Heap,K.In base->base.Ns mainGlobals mg->gW l.prog w K mg base (ue l.prog w) 9 fa fd ["script"] (AV K)
def walk{l:PySem.W.OpenLaw}{q:Program}{loose:List Str}{XP:(Str->Option Value)->Heap->Prop}{YP:World->Heap->Prop}{d:DefRec}{K:Params->Frag}(hn:l.most=some 63)(hdf:d.params.defaults= [])(hi:PyProof.Rows.importsNone q=true)
  (hY:∀(w:World) (h:Heap),YP w h->(K w.params).In h)
  (F:∀(w:World) (mg:Str->Option Value) (fa:Addr) (h:Heap),(K w.params).In h->h.Ns mainGlobals mg->mg d.name=some (.ref fa)->
   ∃fd:FuncData,(∀(s:Shared) (u:Value),BindsTo s fd ⟨[u],[]⟩ [("script",u)])/\∀base:Heap,(K w.params).In base->base.Ns mainGlobals mg->gW l.prog w (K w.params) mg base (ue l.prog w) 9 fa fd ["script"] (AV (K w.params))) :
  PySem.W.WalkO q loose XP YP l.row.toRowW d [] (λf vs=>PySem.call f vs):=
 L2.Gk (n:=63) (k:=9) (x:="script") (CX:=λw=>ue l.prog w) (sp:=λw=>AV (K w.params)) hn (by decide) hdf hi ⟨rfl,by decide,by decide,rfl⟩ hY F (λ_ _ a ns hl _ hS=>⟨a,ns,rfl,hS,λ_ _=>rfl⟩) λ_ _ _ _ _ z=>by
  obtain⟨_,_,_,_,_,_,_,_,_,z⟩:=z
  exact z
end RO
namespace HD
noncomputable def vw:PySem.Program:=PySem.W.view PySem.Challenge.pw_rowsorder_k35_points_or_a_knot [1,2,3,4,5,6,8,9,11,12,13,14,15,17,19,20,21,22,23,24,25,26,27,29,30,31,32,33,34,35,36,37,38,39,40,41,42,43,44,45,46]
def Gm:PySem.Challenge.rw_rowsorder_k35_points_or_a_knot.wellSaid=true:=by kernel_rfl
end HD
section
set_option hygiene false in
local macro_rules | `(tactic|o_head $H)=>`(tactic|exact h)
set_option maxHeartbeats 0 in
theorem HD.d(h:PySem.Challenge.rw_rowsorder_k35_points_or_a_knot.row.Holds):PySem.Challenge.rw_rowsorder_k35_points_or_a_knot.Holds:=by
 w_on;(refine PySem.W.holds_law HD.Gm λGm=>?_);k_head
end
abbrev HD.aa:List Nat:=[2,3,15,17,18,20,21,22,24,25,27,28,29,31,32,34,35,36,38,39,41,42,43,46,47,48,55,56,57,58,61,68,69,70,73,76,77,78,81,82,83,86,87,88,90,91,93,94,95,97,98,100,101,102,105,106,107,110,111,112,115,116,117,119,120,122,123,124,126,127,129,130,131,133,134,136,137,138,140,141,143,144,145,147,148,150,151,152,155,156,157,160,161,162,164,165,167,168,169,171,172,174,175,176,178,179,181,182,183,185,186,188,189,190,192,193,195,196,197,199,200,202,203,204,207,208,209,211,212,214,215,216,218,219,221,222,223,226,227,228,231,232,233,236,237,238,240,241,243,244,245,248,249,250,253,254,255,258,259,260,262,263,265,266,267,270,271]
def HD.ke:∀P,HD.aa=(HD.d.heap_1 P).map (·.1):=λ_=>by kernel_rfl
def HD.l1:∀w os,(HD.CU PySem.Challenge.rw_rowsorder_k35_points_or_a_knot.row.prog 3250 w os).map (λs=>(HD.zS PySem.Challenge.rw_rowsorder_k35_points_or_a_knot.row.prog w s.abs,(PySem.W.openSeen HD.vw [] (PySem.importedModules PySem.Challenge.rw_rowsorder_k35_points_or_a_knot.row.prog.main.body) (λs=>PySem.W.xlAt HD.vw [] s&&PySem.W.recOk PySem.Challenge.rw_rowsorder_k35_points_or_a_knot.row.records s) true s.abs).1,(PySem.W.kHook HD.d.heap_1 HD.aa HD.ke).obs s.abs))=some (true,(PySem.W.openGood HD.vw []).1,(PySem.W.kHook HD.d.heap_1 HD.aa HD.ke).val w):=λw os=>by kernel_rfl
def HD.l2:∀w os,(HD.CU PySem.Challenge.rw_rowsorder_k35_points_or_a_knot.row.prog 3250 w os).map (λs=>(PySem.W.openSeen HD.vw [] (PySem.importedModules PySem.Challenge.rw_rowsorder_k35_points_or_a_knot.row.prog.main.body) (λs=>PySem.W.xlAt HD.vw [] s&&PySem.W.recOk PySem.Challenge.rw_rowsorder_k35_points_or_a_knot.row.records s) true s.abs).2)=some (PySem.W.openGood HD.vw []).2:=λw os=>by kernel_rfl
def HD.left:PySem.W.LeftO PySem.Challenge.rw_rowsorder_k35_points_or_a_knot.row.prog HD.vw [] (λs=>PySem.W.xlAt HD.vw [] s&&PySem.W.recOk PySem.Challenge.rw_rowsorder_k35_points_or_a_knot.row.records s) (PySem.W.kHook HD.d.heap_1 HD.aa HD.ke).obs (PySem.W.kHook HD.d.heap_1 HD.aa HD.ke).val 3250:=
 HD.GX (by kernel_rfl) (by kernel_rfl) (λs=>by kernel_rfl) HD.l1 HD.l2
open PySem PySem.W PyProof.Rows L2
set_option maxRecDepth 100000 in
set_option maxHeartbeats 0 in
theorem RO.head(hA:RO.HF):PySem.Challenge.rw_rowsorder_k35_points_or_a_knot.Holds:=by
 w_on;(refine PySem.W.holds_law HD.Gm λGm=>?_)
 refine PySem.W.holds_open (q:=HD.vw) (loose:=[]) (Xt:=λs=>PySem.W.xlAt HD.vw [] s&&PySem.W.recOk (PySem.W.RowW.records _) s) (XP:=PySem.W.XL HD.vw []) (Yf:=PySem.W.Hook.obs (kHook HD.d.heap_1 HD.aa HD.ke)) (Ya:=PySem.W.Hook.val (kHook HD.d.heap_1 HD.aa HD.ke)) (YP:=PySem.W.Hook.says (kHook HD.d.heap_1 HD.aa HD.ke)) (N:=3250) HD.left (PySem.W.Hook.of (kHook HD.d.heap_1 HD.aa HD.ke)) (PySem.W.Hook.keeps (kHook HD.d.heap_1 HD.aa HD.ke)) (λs e=>PySem.W.xl_of s (Bool.and_eq_true_iff.mp e).1) PySem.W.XL.keeps (by rfl) (by rfl) (by rfl) (λs e=>PySem.W.recFacts_of (Bool.and_eq_true_iff.mp e).2) (by rfl) (by first|assumption|decide +kernel) (by decide +kernel) ⟨rfl,rfl,rfl,rfl,rfl,by decide +kernel⟩ ?hw ?hc
 (case hw=>w_witness2)
 k_fill
 refine RO.walk (l:=PySem.Challenge.rw_rowsorder_k35_points_or_a_knot) rfl rfl ?hi (λw h Y=>PySem.W.kIn_of Y) ?F
 case hi=>kernel_rfl
 case F=>
  intro w mg fa h KX G hmg
  refine' hA KX G hmg ?F1 ?F2 ?F3 ?F4 ?F5 ?F6 ?F7 ?F8 ?F9 ?F10 ?F11 ?F12 ?F13 ?F14 ?F15 ?F16 ?F17 ?F18 ?F19 ?F20 ?F21 ?F22 ?F23 ?F24 ?F25 ?F26 ?F27 ?F28 ?F29 ?F30 ?F31 ?F32 ?F33 ?F34 ?F35 ?F36 ?F37 ?a38 ?l38 ?c38 ?k38 ?zB ?yMOST_THINGS ?np
  case F1=>refine' bG KX G RO.yj ?a ?l ?c ?k;(case a=>k_is);(case l=>k_is);(case c=>k_is);(case k=>k_is)
  case F2=>refine' bG KX G RO.yQ ?a ?l ?c ?k;(case a=>k_is);(case l=>k_is);(case c=>k_is);(case k=>k_is)
  case F3=>refine' bG KX G RO.Bg ?a ?l ?c ?k;(case a=>k_is);(case l=>k_is);(case c=>k_is);(case k=>k_is)
  case F4=>refine' bG KX G RO.A0 ?a ?l ?c ?k;(case a=>k_is);(case l=>k_is);(case c=>k_is);(case k=>k_is)
  case F5=>refine' bG KX G RO.vm ?a ?l ?c ?k;(case a=>k_is);(case l=>k_is);(case c=>k_is);(case k=>k_is)
  case F6=>refine' bG KX G RO.CQ ?a ?l ?c ?k;(case a=>k_is);(case l=>k_is);(case c=>k_is);(case k=>k_is)
  case F7=>refine' bG KX G RO.yv ?a ?l ?c ?k;(case a=>k_is);(case l=>k_is);(case c=>k_is);(case k=>k_is)
  case F8=>refine' bG KX G RO.yR ?a ?l ?c ?k;(case a=>k_is);(case l=>k_is);(case c=>k_is);(case k=>k_is)
  case F9=>refine' bG KX G RO.uO ?a ?l ?c ?k;(case a=>k_is);(case l=>k_is);(case c=>k_is);(case k=>k_is)
  case F10=>refine' bG KX G RO.xZ ?a ?l ?c ?k;(case a=>k_is);(case l=>k_is);(case c=>k_is);(case k=>k_is)
  case F11=>refine' bG KX G RO.Fe ?a ?l ?c ?k;(case a=>k_is);(case l=>k_is);(case c=>k_is);(case k=>k_is)
  case F12=>refine' bG KX G RO.uL ?a ?l ?c ?k;(case a=>k_is);(case l=>k_is);(case c=>k_is);(case k=>k_is)
  case F13=>refine' bG KX G RO.rC ?a ?l ?c ?k;(case a=>k_is);(case l=>k_is);(case c=>k_is);(case k=>k_is)
  case F14=>refine' bG KX G RO.xp ?a ?l ?c ?k;(case a=>k_is);(case l=>k_is);(case c=>k_is);(case k=>k_is)
  case F15=>refine' bG KX G RO.pj ?a ?l ?c ?k;(case a=>k_is);(case l=>k_is);(case c=>k_is);(case k=>k_is)
  case F16=>refine' bG KX G RO.BF ?a ?l ?c ?k;(case a=>k_is);(case l=>k_is);(case c=>k_is);(case k=>k_is)
  case F17=>refine' bG KX G RO.v8 ?a ?l ?c ?k;(case a=>k_is);(case l=>k_is);(case c=>k_is);(case k=>k_is)
  case F18=>refine' bG KX G RO.wA ?a ?l ?c ?k;(case a=>k_is);(case l=>k_is);(case c=>k_is);(case k=>k_is)
  case F19=>refine' bG KX G RO.sE ?a ?l ?c ?k;(case a=>k_is);(case l=>k_is);(case c=>k_is);(case k=>k_is)
  case F20=>refine' bG KX G RO.o8 ?a ?l ?c ?k;(case a=>k_is);(case l=>k_is);(case c=>k_is);(case k=>k_is)
  case F21=>refine' bG KX G RO.wa ?a ?l ?c ?k;(case a=>k_is);(case l=>k_is);(case c=>k_is);(case k=>k_is)
  case F22=>refine' bG KX G RO.yh ?a ?l ?c ?k;(case a=>k_is);(case l=>k_is);(case c=>k_is);(case k=>k_is)
  case F23=>refine' bG KX G RO.zf ?a ?l ?c ?k;(case a=>k_is);(case l=>k_is);(case c=>k_is);(case k=>k_is)
  case F24=>refine' bG KX G RO.xR ?a ?l ?c ?k;(case a=>k_is);(case l=>k_is);(case c=>k_is);(case k=>k_is)
  case F25=>refine' bG KX G RO.vW ?a ?l ?c ?k;(case a=>k_is);(case l=>k_is);(case c=>k_is);(case k=>k_is)
  case F26=>refine' bG KX G RO.pX ?a ?l ?c ?k;(case a=>k_is);(case l=>k_is);(case c=>k_is);(case k=>k_is)
  case F27=>refine' bG KX G RO.tx ?a ?l ?c ?k;(case a=>k_is);(case l=>k_is);(case c=>k_is);(case k=>k_is)
  case F28=>refine' bG KX G RO.vn ?a ?l ?c ?k;(case a=>k_is);(case l=>k_is);(case c=>k_is);(case k=>k_is)
  case F29=>refine' bG KX G RO.ve ?a ?l ?c ?k;(case a=>k_is);(case l=>k_is);(case c=>k_is);(case k=>k_is)
  case F30=>refine' bG KX G RO.vG ?a ?l ?c ?k;(case a=>k_is);(case l=>k_is);(case c=>k_is);(case k=>k_is)
  case F31=>refine' bG KX G RO.xu ?a ?l ?c ?k;(case a=>k_is);(case l=>k_is);(case c=>k_is);(case k=>k_is)
  case F32=>refine' bG KX G RO.qV ?a ?l ?c ?k;(case a=>k_is);(case l=>k_is);(case c=>k_is);(case k=>k_is)
  case F33=>refine' bG KX G RO.sY ?a ?l ?c ?k;(case a=>k_is);(case l=>k_is);(case c=>k_is);(case k=>k_is)
  case F34=>refine' bG KX G RO.rq ?a ?l ?c ?k;(case a=>k_is);(case l=>k_is);(case c=>k_is);(case k=>k_is)
  case F35=>refine' bG KX G RO.oF ?a ?l ?c ?k;(case a=>k_is);(case l=>k_is);(case c=>k_is);(case k=>k_is)
  case F36=>refine' bG KX G RO.u7 ?a ?l ?c ?k;(case a=>k_is);(case l=>k_is);(case c=>k_is);(case k=>k_is)
  case F37=>refine' bG KX G RO.vR ?a ?l ?c ?k;(case a=>k_is);(case l=>k_is);(case c=>k_is);(case k=>k_is)
  case a38=>k_is
  case l38=>k_is
  case c38=>k_is
  case k38=>k_is
  case zB=>kernel_rfl
  case yMOST_THINGS=>k_is
  case np=>kernel_rfl
end
namespace HD
open PySem PySem.W PyProof.Rows
section
variable (q:Program)(loose mods:List Str)(Xt:Shared->Bool)(g0:Bool)(s:Shared)
noncomputable abbrev o1:=seen ((recsOf q).map (·.name)) (ownsOf q) [] {s with gens:=Array.mk []}
end
end HD
namespace L2
open PySem PySem.Spec PyProof.Rows
def o6(cells:List (Str×Addr)):List (Str×NameKind)->List (Str×Addr)->List (Str×Addr)
 | [],cs=>cs
 | (n,k)::r,cs=>o6 cells r (if k==.free then(n,(cells.lookup n).getD 0)::cs else cs)
def sh{scope:Scope}{env:Env}(h:∀y∈scope.names,y.2=.free->∃c,env.cells.lookup y.1=some c):closureFor scope env=pure (o6 env.cells scope.names []):=by
 unfold closureFor
 have key:∀(l:List (Str×NameKind)) (cs:List (Str×Addr)),(∀y∈l,y.2=.free->∃c,env.cells.lookup y.1=some c)->
   (forIn l cs (λ(x:Str×NameKind) (r:List (Str×Addr))=>if(x.2==NameKind.free)=true then(do let a <-cellOf env x.1;pure (ForInStep.yield ((x.1,a)::r)):Sem _)else pure (ForInStep.yield r)):Sem (List (Str×Addr)))=pure (o6 env.cells l cs):=by
  intro l
  induction l with
  |nil=>intro cs _;rfl
  |cons y l ih=>
   intro cs hy
   let⟨n,k⟩:=y
   rw[List.forIn_cons]
   unfold o6
   by_cases hk:(k==NameKind.free)=true
   .have hk':k=.free:=by simpa using hk
    let⟨c,hc⟩:=hy (n,k) (Ol ..) hk'
    have hce:cellOf env n=pure c:=by unfold cellOf;rw[hc]
    simp only[hk,O9]
    have hc':env.cells.lookup n=some c:=hc
    rw[hce,hc']
    simp only[pure_bind,Option.getD_some]
    exact ih _ λz hz=>hy z (Og _ hz)
   .simp only[hk,OY,Ow]
    simp only[pure_bind]
    exact ih _ λz hz=>hy z (Og _ hz)
 have:=key scope.names [] h
 simp only[bind_pure_comp]at this ⊢
 first
  |exact this
  | (rw[this];rfl)
  | (simpa using this)
theorem tS{cells:List (Str×Addr)}{x:Str}:∀{l:List (Str×NameKind)} {cs:List (Str×Addr)},((x,NameKind.free)∈l\/cs.lookup x=some ((cells.lookup x).getD 0))->(o6 cells l cs).lookup x=some ((cells.lookup x).getD 0)
 | [],cs,h=>by
  rcases h with h|h
  ·cases h
  ·exact h
 | (n,k)::r,cs,h=>by
  unfold o6
  refine tS ?_
  by_cases hk:(k==NameKind.free)=true
  ·rw[Od hk]
   by_cases hx:x=n
   ·subst hx;right;simp
   ·rcases h with h|h
    ·rcases Oo.mp h with e|e
     ·injection e with e1 _;exact absurd e1 hx
     ·exact .inl e
    ·right
     rw[Rh,show(x==n)=false by simpa using hx]
     exact h
  ·rw[Oe hk]
   rcases h with h|h
   ·rcases Oo.mp h with e|e
    ·injection e with _ e2;exact absurd (by rw[<-e2];rfl) hk
    ·exact .inl e
   ·exact .inr h
theorem oW{cells:List (Str×Addr)}{x:Str}{c:Addr}:∀{l:List (Str×NameKind)} {cs:List (Str×Addr)},(o6 cells l cs).lookup x=some c->((x,NameKind.free)∈l/\c=(cells.lookup x).getD 0)\/cs.lookup x=some c
 | [],cs,h=>.inr h
 | (n,k)::r,cs,h=>by
  unfold o6 at h
  rcases oW h with⟨a,b⟩|a
  ·exact .inl ⟨Og _ a,b⟩
  ·by_cases hk:(k==NameKind.free)=true
   ·rw[Od hk,Rh]at a
    by_cases hx:x=n
    ·subst hx
     simp at a
     have:k=.free:=by simpa using hk
     subst this
     exact .inl ⟨Ol ..,a.symm⟩
    .rw[show(x==n)=false by simpa using hx]at a
     exact .inr a
   .rw[Oe hk]at a
    exact .inr a
theorem pD{f:Str->NameKind->NameKind}{x:Str}:∀(l:List (Str×NameKind)),(l.map λy=>(y.1,f y.1 y.2)).lookup x=(l.lookup x).map (f x)
 | []=>rfl
 | (n,k)::l=>by
  rw[OJ,Rh,Rh]
  by_cases hx:x=n
  ·subst hx;simp
  ·have hb:(x==n)=false:=by simpa using hx
   simp only[hb]
   exact pD l
def rA(scope:Scope)(env:Env)(x:Str):(relabel scope env).names.lookup x=(scope.names.lookup x).map λk=>if(k==.free&&env.scope.kind==.function&&env.kindOf x==some .cell)then .cell else k:=by
 have e:(relabel scope env).names=scope.names.map λy=>(y.1,if(y.2==.free&&env.scope.kind==.function&&env.kindOf y.1==some .cell)then .cell else y.2):=by
  unfold relabel
  dsimp only
  refine PD λy _=>?_
  let⟨n,k⟩:=y
  dsimp only
  split<;>rfl
 rw[e]
 exact pD (f:=λn k=>if(k==.free&&env.scope.kind==.function&&env.kindOf n==some .cell)then .cell else k) scope.names
theorem mT:∀(l:List (Str×NameKind)) (n:Nat) (acc:List (Str×Addr)),cellsFrom n l acc=cellsFrom n l []++acc
 | [],_,_=>rfl
 | (x,k)::r,n,acc=>by
  unfold cellsFrom
  split
  ·rw[mT r (n+1) ((x,n)::acc),mT r (n+1) [(x,n)],P5];rfl
  ·exact mT r n acc
theorem rV:∀{l:List (Str×NameKind)} {n:Nat} {x:Str} {c:Addr},(x,c)∈cellsFrom n l []->n<=c/\(x,NameKind.cell)∈l
 | [],_,_,_,h=>by cases h
 | (y,k)::r,n,x,c,h=>by
  unfold cellsFrom at h
  split at h
  ·rename_i hk
   have hk:k=.cell:=by simpa using hk
   rw[mT]at h
   rcases Ox.mp h with h|h
   .have:=rV h;exact⟨by omega,Og _ this.2⟩
   .rw[OT]at h;cases h;subst hk;exact⟨Oc _,Ol ..⟩
  .have:=rV h;exact⟨this.1,Og _ this.2⟩
abbrev Ga(X:Cx)(scope:Scope)(C:Addr):List (Str×Addr):=cellsFrom (C+1) scope.names (o6 X.env.cells scope.names [])
def Gp{M:Model}{A:Around}{E:Value->Shared->Prop}{s:Shared}{scope:Scope}{g:Addr}{cl:List (Str×Addr)}{qual:Str}{env:Env}{Q:Env->Shared->Prop}
  (h:∀h',h'.Ns s.heap.objs.size (λ_=>none)->(∀b o,s.heap.get? b=some o->h'.get? b=some o)->CellsOk h' (s.heap.objs.size+1) (cellsFrom (s.heap.objs.size+1) scope.names [])->Q (newEnv scope s.heap.objs.size g (cellsFrom (s.heap.objs.size+1) scope.names cl) qual none .none (some env) builtinsNs) {s with heap:=h'}) :
  wpAny M A (newFunctionEnv scope g cl [] qual none .none (some env)) Q E s:=by
 simp only[newFunctionEnv,Option.isSome_some,O9]
 refine N7 (wpAny_alloc ?_)
 refine N7 (wpAny_layCells _ (λname kind cells=>by cases hkc:kind==NameKind.cell<;>simp[hkc]) _ _ _ _ ?_)
 have ok:=cellsFrom_ok scope.names (s.heap.push {cls:=.type "dict",data:=.dict #[]}) (s.heap.objs.size+1) [] ⟨λ_ _ hm=>(nomatch hm),List.Pairwise.nil⟩ (by rw[PQ];exact Oc _)
 rw[PQ]at ok
 rw[show({s with heap:=s.heap.push {cls:=.type "dict",data:=.dict #[]}}:Shared).heap.objs.size=s.heap.objs.size+1 from PQ ..]
 rw[List.forIn_nil]
 exact N7 (N9 (N9 (h _ ((Heap.Ns.new s.heap (.type "dict")).keeps (pushCells_keeps _ _)) (λb o e=>pushCells_keeps _ _ b o (Oa _ e)) ok)))
def jx(X:Cx)(NB:List Str)(scope:Scope)(C:Addr)(ex:List Addr)(s3:Shared)(H3:Hp)(pn:List (Addr×Obj)):Cx:=
 {X with N:=NB,s₀:=s3,H₀:=H3,env:=compEnvC scope (Ga X scope C) C X.env,outer:=X.stack,ex:=ex,fn:=λx=>scope.names.lookup x==some .cell,pn:=pn,xe:=λ_ _=>False}
def vP(own:Nat)(ixs:List Nat)(σ:St):St:=List.replicate own none++ixs.map λi=>(σ[i]?).join
structure dU(X:Cx)(NB:List Str)(own:Nat)(ixs:List Nat)(scope:Scope):Prop where
 kind:scope.kind=.function
 names:∀y∈scope.names,scope.names.lookup y.1=some y.2
 frees:∀y∈scope.names,y.2=.free->X.env.kindOf y.1=some .cell\/X.env.kindOf y.1=some .free
 nd:NB.Nodup
 len:NB.length=own+ixs.length
 at':∀k,k<ixs.length->NB[own+k]? =X.N[ixs.getD k 0]?/\∀x,NB[own+k]? =some x->(x,NameKind.free)∈scope.names
section
variable {X:Cx}{NB:List Str}{own:Nat}{ixs:List Nat}{scope:Scope}{pins:List (Addr×Obj)}{σ:St}{H:Hp}{s:Shared}
def BR(S:dU X NB own ixs scope)(I:Inv X pins σ H s){fp:List Addr}(hfp:∀b∈fp,pS X pins H b)(hob:∀b∈fp,∃o,s.heap.get? b=some o){h1:Heap}{tk:Nat}
  (hn:h1.Ns s.heap.objs.size (λ_=>none)) (hk:∀b o,s.heap.get? b=some o->h1.get? b=some o) (hcl:CellsOk h1 (s.heap.objs.size+1) (cellsFrom (s.heap.objs.size+1) scope.names [])) :
  Inv (jx X NB scope s.heap.objs.size fp s H (X.pn++pins)) [] (vP own ixs σ) H {s with heap:=h1,toks:=tk}:=by
 have stk:=I.stack
 have frees:∀{x:Str},(x,NameKind.free)∈scope.names->∃c,X.env.cells.lookup x=some c:=λ{x} hx=>I.ok.has x (S.frees _ hx rfl)
 have clE:∀{x:Str} {c:Addr},(Ga X scope s.heap.objs.size).lookup x=some c->((x,c)∈cellsFrom (s.heap.objs.size+1) scope.names []/\s.heap.objs.size<c)\/((x,NameKind.free)∈scope.names/\X.env.cells.lookup x=some c):=λ{x c} h=>by
  unfold Ga at h
  rw[mT,List.lookup_append]at h
  cases q:(cellsFrom (s.heap.objs.size+1) scope.names []).lookup x with
  |some c'=>
   rw[q]at h
   cases h
   have hm:=PB q
   exact .inl ⟨hm,(rV hm).1⟩
  |none=>
   rw[q]at h
   have h:(o6 X.env.cells scope.names []).lookup x=some c:=h
   rcases oW h with⟨a,b⟩|a
   .let⟨c',e⟩:=frees a
    rw[e]at b
    exact .inr ⟨a,by rw[e,b];rfl⟩
   .simp at a
 have clF:∀{x:Str},(x,NameKind.free)∈scope.names->(Ga X scope s.heap.objs.size).lookup x=some ((X.env.cells.lookup x).getD 0):=λ{x} hm=>by
  unfold Ga
  rw[mT,List.lookup_append]
  cases q:(cellsFrom (s.heap.objs.size+1) scope.names []).lookup x with
  |some c'=>
   have h1:=S.names _ (rV (PB q)).2
   have h2:=S.names _ hm
   dsimp only at h1 h2
   rw[h1]at h2
   cases h2
  |none=>exact tS (.inl hm)
 have kindB:∀x,(jx X NB scope s.heap.objs.size fp s H (X.pn++pins)).env.kindOf x=(scope.names.lookup x).map λk=>if(k==.free&&X.env.scope.kind==.function&&X.env.kindOf x==some .cell)then .cell else k:=λx=>rA scope X.env x
 have isFree:∀{x:Str},((jx X NB scope s.heap.objs.size fp s H (X.pn++pins)).env.kindOf x=some .cell\/(jx X NB scope s.heap.objs.size fp s H (X.pn++pins)).env.kindOf x=some .free)->(x,NameKind.free)∈scope.names\/scope.names.lookup x=some .cell:=λ{x} h=>by
  rw[kindB]at h
  cases e:scope.names.lookup x with
  |none=>rw[e]at h;simp at h
  |some k=>
   have hm:=PB e
   cases k with
   |free=>exact .inl hm
   |cell=>exact .inr rfl
   |_=>rw[e]at h;simp at h
 have neN:∀b o,s.heap.get? b=some o->b≠s.heap.objs.size:=λb o e=>OP (Oj e)
 have cellN:∀{x:Str} {c:Addr},X.env.cells.lookup x=some c->c<s.heap.objs.size:=λ{x c} e=>by
  let⟨v,o,ho,_⟩:=I.cell x c e
  exact Oj ho
 have ok:(jx X NB scope s.heap.objs.size fp s H (X.pn++pins)).Ok:=by
  refine⟨I.ok.mod,S.kind,I.ok.glob,I.ok.blt,Oc _,λx y c h1 h2=>?_,λx hx=>?_,λx c h hc=>?_,I.ok.hd,I.ok.frames,.inl rfl,λb hb=>?_,I.bs,Pf I.ok.bsz I.sz,λb o e hb=>?_,λb hb hs=>?_,stk,I.stkFree⟩
  .rcases clE h1 with⟨a,l1⟩|⟨a,l1⟩
   .rcases clE h2 with⟨b,l2⟩|⟨b,l2⟩
    .exact name_of_addr hcl.apart a b
    .exact absurd (QM l1 (cellN l2)) (O1 _)
   .rcases clE h2 with⟨b,l2⟩|⟨b,l2⟩
    .exact absurd (QM l2 (cellN l1)) (O1 _)
    .exact I.ok.inj x y c l1 l2
  .rcases isFree hx with hm|hm
   .exact⟨_,clF hm⟩
   .let⟨c,hc⟩:=Option.isSome_iff_exists.mp (PySem.W.cellsFrom_some scope.names (s.heap.objs.size+1) (o6 X.env.cells scope.names []) (.inl hm))
    exact⟨c,hc⟩
  .rcases clE hc with⟨a,l1⟩|⟨a,l1⟩
   .exact Qj l1
   .have h1:=S.names _ a
    dsimp only at h1
    have h:(scope.names.lookup x==some NameKind.cell)=true:=h
    rw[h1]at h
    cases h
  .let⟨_,f1,f2,f3,f4,f5⟩:=hfp b hb
   let⟨o,ho⟩:=hob b hb
   refine⟨neN b o ho,λx c h z=>?_⟩
   rcases clE h with⟨a,l1⟩|⟨a,l1⟩
   .rw[z]at l1
    exact O1 _ (QM l1 (Oj ho))
   .exact f4 x c l1 z
  .let⟨_,f1,f2,f3,f4,f5⟩:=hfp b hb
   rcases f3 with f3|f3
   .exact I.ok.noex b o e f3
   .exact absurd (OZ (Oj e) (Pf I.ok.bsz f3)) (O1 _)
  .let⟨_,f1,f2,f3,f4,f5⟩:=hfp b hb
   rcases Oo.mp (I.stkSub b hs)with z|z
   .exact f1 z
   .exact f2 z
 refine⟨ok,rfl,I.bare,Un.kept hk,⟨_,hn,λi x v h1' h2' h3'=>?_⟩,λx c h=>?_,I.hok.fresh (Oc _),λx c h=>?_,λp hp=>?_,I.hok.kept hk,?_⟩
 .
  have h1':NB[i]? =some x:=h1'
  have hown:own<=i:=by
   refine Classical.byContradiction λhc=>?_
   have hlt:i<own:=Nat.lt_of_not_le hc
   unfold vP at h2'
   rw[OG (by simpa using hlt),PZ,Od hlt]at h2'
   cases h2'
  obtain⟨k,rfl⟩:∃k,i=own+k:=⟨i-own,by omega⟩
  have hk':k<ixs.length:=by
   have:=(Ov.mp h1').1
   rw[S.len]at this;omega
  let⟨e1,e2⟩:=S.at' k hk'
  have hm:=e2 x h1'
  unfold vP at h2'
  rw[OV (by simp),QE,Nat.add_sub_cancel_left,Om,N8 hk']at h2'
  simp only[QB,Option.some.injEq]at h2'
  have hix:ixs.getD k 0=ixs[k]:=by simp[hk']
  have hσ:σ[ixs[k]]? =some (some v):=by
   cases e:σ[ixs[k]]? with
   |none=>rw[e]at h2';cases h2'
   |some o=>rw[e]at h2';simp at h2';rw[h2']
  rw[e1,hix]at h1'
  have hkind:=S.frees _ hm rfl
  have hvis:yc X.env.scope x:=hkind.elim (λz=>.inr (.inl z)) (λz=>.inr (.inr z))
  let⟨m,hm',hl⟩:=I.loc
  let⟨u,r,look⟩:=hl _ x v h1' hσ hvis
  refine⟨u,r,.inr ⟨?_,?_⟩⟩
  .rw[kindB]
   have hfr:scope.names.lookup x=some .free:=S.names _ hm
   rw[hfr]
   simp only[QB]
   split
   .exact .inl rfl
   .exact .inr rfl
  .rcases look with⟨z,_⟩|⟨_,c,hc,hcell⟩
   .rcases hkind with q|q
    .rw[q]at z;cases z
    .rw[q]at z;cases z
   .refine⟨c,?_,?_⟩
    .have:=clF hm
     rw[hc]at this
     exact this
    .let⟨o,ho,hd⟩:=hcell
     exact⟨o,hk _ _ ho,hd⟩
 .rcases clE h with⟨a,_⟩|⟨_,l1⟩
  .exact⟨_,(hcl.empty _ _ a).1⟩
  .let⟨v,o,ho,hd⟩:=I.cell x c l1
   exact⟨v,o,hk _ _ ho,hd⟩
 .rcases clE h with⟨_,l1⟩|⟨_,l1⟩
  .exact I.hok.fresh (Qj l1)
  .exact I.freeC x c l1
 .have hp':p∈X.pn++pins:=by
   rcases Ox.mp hp with z|z
   .exact z
   .cases z
  let⟨e,n,ne,nf,d⟩:=I.pin p hp'
  refine⟨hk _ _ e,n,neN _ _ e,λz=>?_,d⟩
  rcases Oo.mp (I.stkSub _ z)with q|q
  .exact ne q
  .exact nf q
 .show (vP own ixs σ).length=NB.length
  unfold vP
  rw[S.len];simp
end
abbrev zU(ifs:List Expr)(env:Env):Sem Bool:=forIn ifs true λc r=>if r=true then do let ok <-isTrue c env (eval c env);pure (ForInStep.yield ok)else pure (ForInStep.yield r)
theorem Cf{prog:Program}{w:World}{A:Around}{R:Result->Shared->Prop}{s:Shared}{elt target iter:Expr}{ifs:List Expr}{scope:Scope}{pos:Pos}{it acc:Value}{env:Env}(I:Nat->Shared->Prop)
  (turn:∀n s,I n s->wpAny (model prog w) A (pyNext it) (λr s1=>match r with
   |none=>R (.ok .next) s1
   |some v=>wpAny (model prog w) A (letOwnedTupleGo target it v) (λ_ s1'=>wpAny (model prog w) A (assign target env v) (λ_ s2=>
     wpAny (model prog w) A (zU ifs env) (λok s3=>
      if ok=true then wpAny (model prog w) A (eval elt env) (λx s4=>wpAny (model prog w) A (call (.builtin "list.append") [acc,x]) (λ_ s5=>∃m,m<n/\I m s5) (λ_ _=>False) s4) (λ_ _=>False) s3
      else ∃m,m<n/\I m s3) (λ_ _=>False) s2) (λ_ _=>False) s1') (λ_ _=>False) s1) (λ_ _=>False) s)
  (n:Nat) (h:I n s):codeAny (model prog w) A (.compLoop (.ListComp elt [⟨target,iter,ifs,0⟩] scope pos) 0 it acc env) R s:=by
 refine codeAny_loop rfl I (λn s hI=>?_) n h
 (show wpAny _ A ((compTurn (.ListComp elt [⟨target,iter,ifs,0⟩] scope pos) 0 it acc env).onRaise (λx=>do (noteFrame x env);theTreesLotGoes x)) _ _ s)
 refine wpAny_noted ?_
 rw[compTurn_list]
 refine N7 (wpAny_standAt (N7 (PK (turn n s hI) (λr s1 h1=>?_) λ_ _ z=>z.elim)))
 cases r with
 |none=>exact N9 h1
 |some v=>
  refine N7 (PK h1 (λ_ s1' h1'=>(N7 (PK h1' (λ_ s2 h2=>N7 (PK h2 (λok s3 h3=>?_) λ_ _ z=>z.elim)) λ_ _ z=>z.elim))) λ_ _ z=>z.elim)
  cases ok with
  |false=>exact N9 ⟨rfl,h3⟩
  |true=>exact N7 (N7 (PK h3 (λx s4 h4=>N7 (PK h4 (λ_ s5 h5=>N9 (N9 ⟨rfl,h5⟩)) λ_ _ z=>z.elim)) λ_ _ z=>z.elim))
def Dj(X:Cx)(ifs:List Expr)(t:TT):Prop:=
 ∀(pins:List (Addr×Obj)) (s:Shared) (σ:St) (H:Hp) (Q:Bool->Hp->Prop),Inv X pins σ H s->t σ H Q->wpAny (model X.prog X.w) X.A (zU ifs X.env) (TP X pins σ Q) X.xe s
def Iy:TT:=λ_ H Q=>Q true H
def uX{X:Cx}:Dj X [] Iy:=λpins s σ H Q I h=>N9 ⟨H,I,h⟩
def Aw{X:Cx}{c:Expr}{t:TT}(h:PT X c t):Dj X [c] t:=λpins s σ H Q I q=>wpAny_tests_one (h pins s σ H Q I q)
def yB(own:Nat)(ixs:List Nat)(wi:TI)(g:TG)(tt:TT)(te:TE)(σ:St)(H:Hp)(Q:VK):Prop:=wi σ H λJ H1=>∀D,H1 D=none->∃W:Nat->Nat->St->Hp->Prop,(∃m,W 0 m (vP own ixs σ) (upd H1 D (.lst [])))/\∀i m σ' H',W i m σ' H'->
 (J.stop i H'/\(∃acc,H' D=some (.lst acc))/\Q (.ref D) H')\/
 (J.go i H'/\∃N:St->Hp->Prop,(∀σ2 H2,N σ2 H2->∃m',m'<m/\W (i+1) m' σ2 H2)/\∀x H2,J.yld i H' x H2->g x σ' H2 λσ3 H3=>tt σ3 H3 λb H4=>
  if b=true then te σ3 H4 λv H5=>∃acc,H5 D=some (.lst acc)/\acc.length<sizeLine/\N σ3 (upd H5 D (.lst (acc++[v])))else N σ3 H4)
section
variable {X:Cx}{NB:List Str}{own:Nat}{ixs:List Nat}{scope:Scope}{elt tg iter:Expr}{ifs:List Expr}{pos:Pos}{wi:TI}{g:TG}{tt:TT}{te:TE}
def uE(hc:X.calm=true)(S:dU X NB own ixs scope)
  (hg:∀C ex s3 H3 pn,PG (jx X NB scope C ex s3 H3 pn) tg g) (ht:∀C ex s3 H3 pn,Dj (jx X NB scope C ex s3 H3 pn) ifs tt) (he:∀C ex s3 H3 pn,PE (jx X NB scope C ex s3 H3 pn) elt te)
  {pins:List (Addr×Obj)} {σ:St} {H1:Hp} {s2:Shared} {it:Addr} {fp:List Addr} {tn:Nat->Heap->Prop} {J:It} {Q:VK} (I2:Inv X pins σ H1 s2) (T:Turn X.prog X.w X.K tg J fp it tn) (st2:tn 0 s2.heap) (f2:∀b∈fp,pS X pins H1 b)
  (hQ:∀D,H1 D=none->∃W:Nat->Nat->St->Hp->Prop,(∃m,W 0 m (vP own ixs σ) (upd H1 D (.lst [])))/\∀i m σ' H',W i m σ' H'->
   (J.stop i H'/\(∃acc,H' D=some (.lst acc))/\Q (.ref D) H')\/
   (J.go i H'/\∃N:St->Hp->Prop,(∀σ2 H2,N σ2 H2->∃m',m'<m/\W (i+1) m' σ2 H2)/\∀x H2,J.yld i H' x H2->g x σ' H2 λσ3 H3=>tt σ3 H3 λb H4=>
    if b=true then te σ3 H4 λv H5=>∃acc,H5 D=some (.lst acc)/\acc.length<sizeLine/\N σ3 (upd H5 D (.lst (acc++[v])))else N σ3 H4))
  {E:Value->Shared->Prop} {RR:Value->Addr->Result->Shared->Prop}
  (fin:∀D C H' s' m,Inv X pins σ H' s'->Q (.ref D) H'->s'.heap.Ns C m->H' C=none->C≠X.env.locals->(∀x c,X.env.cells.lookup x=some c->c≠C)->X.s₀.heap.objs.size<=C->(∀p∈X.pn++pins,p.1≠C)->RR (.ref D) C (.ok .next) s') :
  wpAny (model X.prog X.w) X.A (newList []) (λacc s3=>wpAny (model X.prog X.w) X.A (newFunctionEnv scope X.env.globals (o6 X.env.cells scope.names []) [] X.env.qual none .none (some X.env)) (λcenv s4=>
   codeAny (model X.prog X.w) X.A (.compStart (.ListComp elt [⟨tg,iter,ifs,0⟩] scope pos) 0 (.ref it) acc {cenv with scope:=relabel scope X.env}) (RR acc cenv.locals) s4) E s3) E s2:=by
 refine wpAny_newList ?_ (O2 _)
 have hD:H1 s2.heap.objs.size=none:=I2.hok.fresh (Oc _)
 let⟨W,⟨m0,w0⟩,turn⟩:=hQ s2.heap.objs.size hD
 generalize hs3:({s2 with heap:=s2.heap.push (seqObj "list" ([]:List Value).toArray 0)}:Shared)=s3
 have I3:Inv X pins σ (upd H1 s2.heap.objs.size (.lst [])) s3:=by
  rw[<-hs3]
  exact I2.lnew .nil (O2 _)
 have k3:∀b o,s2.heap.get? b=some o->s3.heap.get? b=some o:=λb o e=>by rw[<-hs3];exact Oa _ e
 have sz3:s3.heap.objs.size=s2.heap.objs.size+1:=by rw[<-hs3];exact PQ ..
 have ob2:∀b∈fp,∃o,s2.heap.get? b=some o:=λb hb=>let⟨o,e,_⟩:=T.obj 0 _ st2 b hb;⟨o,e⟩
 have neD:∀b∈fp,b≠s2.heap.objs.size:=λb hb=>let⟨o,e⟩:=ob2 b hb;OP (Oj e)
 have f3:∀b∈fp,pS X pins (upd H1 s2.heap.objs.size (.lst [])) b:=λb hb=>by
  let⟨a1,a2⟩:=f2 b hb
  exact⟨by rw[ar (neD b hb)];exact a1,a2⟩
 have st3:tn 0 s3.heap:=T.keep _ _ _ st2 λb _ o e=>k3 b o e
 refine Gp λh4 hn4 k4 ok4=>?_
 have I4:Inv (jx X NB scope s3.heap.objs.size fp s3 (upd H1 s2.heap.objs.size (.lst [])) (X.pn++pins)) [] (vP own ixs σ) (upd H1 s2.heap.objs.size (.lst [])) {s3 with heap:=h4}:=
  BR S I3 f3 (λb hb=>let⟨o,e⟩:=ob2 b hb;⟨o,k3 _ _ e⟩) hn4 k4 ok4
 have st4:tn 0 h4:=T.keep _ _ _ st3 λb _ o e=>k4 b o e
 generalize hB:jx X NB scope s3.heap.objs.size fp s3 (upd H1 s2.heap.objs.size (.lst [])) (X.pn++pins)=B at I4
 have hgB:PG B tg g:=by rw[<-hB];exact hg _ _ _ _ _
 have htB:Dj B ifs tt:=by rw[<-hB];exact ht _ _ _ _ _
 have heB:PE B elt te:=by rw[<-hB];exact he _ _ _ _ _
 have eP:B.prog=X.prog:=by rw[<-hB];rfl
 have eW:B.w=X.w:=by rw[<-hB];rfl
 have eK:B.K=X.K:=by rw[<-hB];rfl
 have eA:B.A=X.A:=by rw[<-hB];rfl
 have eC:B.calm=true:=by rw[<-hB];exact hc
 have eX:B.xe=λ_ _=>False:=by rw[<-hB];rfl
 have eE:B.env=compEnvC scope (Ga X scope s3.heap.objs.size) s3.heap.objs.size X.env:=by rw[<-hB];rfl
 have ex:B.ex=fp:=by rw[<-hB];rfl
 have eL:B.env.locals=s3.heap.objs.size:=by rw[eE];rfl
 have stat:∀{H':Hp},(∀b∈fp,H' b=none)->∀b∈fp,pS B [] H' b:=λ{H'} hn b hb=>by
  let⟨a1,a2,a3,a4,a5,a6⟩:=f3 b hb
  let⟨o,eo⟩:=ob2 b hb
  refine⟨hn b hb,?_,λz=>?_,.inl (by rw[ex];exact hb),λx c e z=>?_,λp hp z=>?_⟩
  .rw[eL];exact OP (Oj (k3 _ _ eo))
  .have hz:b∈nH X.stack:=by rw[<-hB]at z;exact z
   rcases Oo.mp (I3.stkSub b hz)with q|q
   .exact a2 q
   .exact a3 q
  .rw[eE]at e
   have e:(Ga X scope s3.heap.objs.size).lookup x=some c:=e
   unfold Ga at e
   rw[mT,List.lookup_append]at e
   cases q:(cellsFrom (s3.heap.objs.size+1) scope.names []).lookup x with
   |some c'=>
    rw[q]at e
    cases e
    have l1:=(rV (PB q)).1
    rw[z]at l1
    exact O1 _ (QM l1 (Oj (k3 _ _ eo)))
   |none=>
    rw[q]at e
    have e:(o6 X.env.cells scope.names []).lookup x=some c:=e
    rcases oW e with⟨m1,m2⟩|m1
    .let⟨c',e'⟩:=I3.ok.has x (S.frees _ m1 rfl)
     rw[e']at m2
     exact a5 x c' e' (by rw[<-z,m2];rfl)
    .simp at m1
  .have hp':p∈X.pn++pins:=by
    rw[<-hB]at hp
    rcases Ox.mp hp with q|q
    .exact q
    .cases q
   exact a6 p hp' z
 have back:∀{σ':St} {H':Hp} {s':Shared},Inv B [] σ' H' s'->Inv X pins σ H' s':=λ{σ' H' s'} J'=>by
  have u:=J'.base
  have os:=J'.os
  have bare:=J'.bare
  have hok:=J'.hok
  subst hB
  exact I3.call' os u hok bare λb hb=>by
   let⟨a1,a2,a3,a4,a5,a6⟩:=f3 b hb
   exact⟨a4,a2,a5,a6⟩
 have loop:∀s5:Shared,s5={s3 with heap:=h4}->
   codeAny (model X.prog X.w) X.A (.compLoop (.ListComp elt [⟨tg,iter,ifs,0⟩] scope pos) 0 (.ref it) (.ref s2.heap.objs.size) (compEnvC scope (Ga X scope s3.heap.objs.size) s3.heap.objs.size X.env)) (RR (.ref s2.heap.objs.size) s3.heap.objs.size) s5:=by
  rintro s5 rfl
  refine Cf (λn s'=>∃i σ' H',Inv B [] σ' H' s'/\tn i s'.heap/\(∀b∈fp,H' b=none)/\W i n σ' H') ?_ m0 ⟨0,_,_,I4,st4,λb hb=>(f3 b hb).1,w0⟩
  rintro n s6 ⟨i,σ6,H6,I6,st6,fr6,w6⟩
  rcases turn i n σ6 H6 w6 with⟨stop,⟨acc,hacc⟩,qn⟩|⟨go,N,hN,step⟩
  .have:=T.done B eP eW eK eC i [] s6 σ6 H6 (λ_ _=>False) I6 (stat fr6) st6 stop
   rw[eA]at this
   refine cI this λr s7 ⟨hr,I7⟩=>?_
   subst hr
   let⟨m7,hn7,_⟩:=I7.loc
   rw[eL]at hn7
   have J7:=back I7
   refine fin _ _ H6 s7 m7 J7 qn hn7 (by rw[<-eL];exact I7.free) (λz=>?_) (λx c e z=>?_) ?_ λp hp z=>?_
   .have:=I3.lt
    rw[<-z]at this
    exact O1 _ this
   .let⟨v,o,ho,_⟩:=I3.cell x c e
    exact absurd (Oj ho) (by rw[z];exact O1 _)
   .exact I3.sz
   .have:=Oj (I3.pin p hp).1
    rw[z]at this
    exact O1 _ this
  .have hitem:=T.item B eP eW eK eC i [] s6 σ6 H6 (λ_ _=>False) I6 (stat fr6) st6 go
   rw[eA]at hitem
   refine cI hitem λr s7 ⟨u,hr,h7⟩=>?_
   subst hr
   refine cI h7 λ_ s8 ⟨x,H8,I8,r8,y8,st8,fr8⟩=>?_
   have I8':=I8.pinned (stat fr8) (T.obj _ _ st8)
   have ha:=hgB _ s8 σ6 H8 x u _ I8' r8 (step x H8 y8)
   rw[eP,eW,eA,eE,eX]at ha
   refine cI ha λ_ s9 ⟨σ9,H9,I9,q9⟩=>?_
   have hb:=htB _ s9 σ9 H9 _ I9 q9
   rw[eP,eW,eA,eE,eX]at hb
   refine cI hb λok s10 ⟨H10,I10,q10⟩=>?_
   have again:∀{σ7:St} {H7:Hp} {s7:Shared},Inv B ([]++qx fp s8.heap) σ7 H7 s7->N σ7 H7->∃m,m<n/\∃i σ' H',Inv B [] σ' H' s7/\tn i s7.heap/\(∀b∈fp,H' b=none)/\W i m σ' H':=λ{σ7 H7 s7} I7 n7=>by
    let⟨m',hm,w7⟩:=hN σ7 H7 n7
    refine⟨m',hm,i+1,σ7,H7,I7.unpinned,T.keep _ _ _ st8 λb hb o e=>(I7.pin (b,o) (OR _ (OR _ (kL hb e)))).1,λb hb=>?_,w7⟩
    let⟨o,e,d⟩:=T.obj _ _ st8 b hb
    exact(I7.pin (b,o) (OR _ (OR _ (kL hb e)))).2.1
   cases ok with
   |false=>
    simp only[Ow,OY]at q10 ⊢
    exact again I10 q10
   |true=>
    simp only[O9]at q10 ⊢
    have hv:=heB _ s10 σ9 H10 _ I10 q10
    rw[eP,eW,eA,eE,eX]at hv
    refine cI hv λy s11 ⟨v,H11,I11,r11,acc,hacc,hz,q11⟩=>?_
    have hap:=mi _ s11 σ9 H11 (.ref s2.heap.objs.size) [v] (.ref s2.heap.objs.size) [y] (λz H'=>z=.non/\N σ9 H') I11 rfl (.cons r11 .nil) ⟨_,acc,v,rfl,rfl,hacc,hz,rfl,q11⟩
    rw[eP,eW,eA,eX]at hap
    exact cI hap λ_ s12 ⟨_,H12,I12,_,_,q12⟩=>again I12 q12
 exact codeAny_compStart_list (loop _ rfl) (T.self X.A 0 _ _ _ st4 (loop _ rfl))
def ya(hc:X.calm=true)(S:dU X NB own ixs scope)(hi:PI X tg iter wi)
  (hg:∀C ex s3 H3 pn,PG (jx X NB scope C ex s3 H3 pn) tg g) (ht:∀C ex s3 H3 pn,Dj (jx X NB scope C ex s3 H3 pn) ifs tt) (he:∀C ex s3 H3 pn,PE (jx X NB scope C ex s3 H3 pn) elt te)
  (hs:∀x,foldedSetIterable iter X.env x=pure x:=by intro _;rfl) :
  PE X (.ListComp elt [⟨tg,iter,ifs,0⟩] scope pos) (yB own ixs wi g tt te):=by
 intro pins s σ H Q I h
 rw[eval_ListComp]
 refine wpAny_comprehension_free rfl hs (sh λy hy e=>I.ok.has _ (S.frees y hy e)) S.kind (λy hy e=>by rw[S.names y hy,e]) (cI (hi pins s σ H _ I h) λv s1 h1=>cI h1 λitv s2 h2=>?_)
 let⟨it,fp,tn,J,H2,e,I2,T,st2,f2,q2⟩:=h2
 subst e
 refine uE hc S hg ht he I2 T st2 f2 q2 λD C H' s' m J' q hn hC n1 n2 n3 n4=>?_
 exact⟨m,hn,λh'' sb=>⟨.ref D,H',J'.turned (λb o hb e=>sb.extBut b o hb e) hC n1 (.inr n3) n2 n4,rfl,q⟩⟩
def Dc{i:Nat}{y:Str}{py spos:Pos}(hc:X.calm=true)(S:dU X NB own ixs scope)(hi:PI X tg iter wi)
  (hg:∀C ex s3 H3 pn,PG (jx X NB scope C ex s3 H3 pn) tg g) (ht:∀C ex s3 H3 pn,Dj (jx X NB scope C ex s3 H3 pn) ifs tt) (he:∀C ex s3 H3 pn,PE (jx X NB scope C ex s3 H3 pn) elt te)
  (hN:X.N.Nodup) (hy:X.N[i]? =some y) (hl:X.env.scope.names.lookup y=some .local)
  (hsw:swapsWith (.ListComp elt [⟨tg,iter,ifs,0⟩] scope pos) (some (.Name y py)) spos.line X.env=pure true)
  (hs:∀x,foldedSetIterable iter X.env x=pure x:=by intro _;rfl) :
  PS X (.Assign [.Name y py] (.ListComp elt [⟨tg,iter,ifs,0⟩] scope pos) spos) (λD σ H=>yB own ixs wi g tt te σ H λv H'=>D.nx (σ.set i (some v)) H'):=by
 intro pins s σ H D I h
 rw[exec_Assign_Name_used _ _ _ _ hsw]
 refine N7 (wpAny_standAt (N7 ?_))
 refine N7 (PK (wpAny_comprehension_free rfl hs (sh λy hy e=>I.ok.has _ (S.frees y hy e)) S.kind (λy hy e=>by rw[S.names y hy,e]) ?_)
  (λ_ s' hq=>N9 (N9 hq)) λ_ _ e=>e)
 refine cI (hi pins s σ H _ I h) λv s1 h1=>cI h1 λitv s2 h2=>?_
 let⟨it,fp,tn,J,H2,e,I2,T,st2,f2,q2⟩:=h2
 subst e
 refine uE hc S hg ht he I2 T st2 f2 q2 (Q:=λv H'=>D.nx (σ.set i (some v)) H') λD' C H' s' m J' q hn hC n1 n2 n3 n4=>?_
 refine wpAny_assign_Name (ug J' hN hy (.inl hl) (v:=.ref D') rfl (λs'' I'' ⟨a,sb,ha⟩=>?_) (.inr hl))
 have hCa:C≠a:=by
  rcases ha with z|z
  .rw[z];exact n1
  .exact (n2 _ _ z).symm
 exact⟨m,hn.sameBut sb hCa,λh3 sb3=>⟨_,H',I''.turned (λb o hb e=>sb3.extBut b o hb e) hC n1 (.inr n3) n2 n4,q⟩⟩
end
section
variable {own:Nat}{ixs:List Nat}{g:TG}{tt:TT}{te:TE}{σ:St}{H:Hp}{Q:VK}{K:Frag}{D a:Addr}{xs:List V}
abbrev fO(g:TG)(tt:TT)(te:TE)(D:Addr)(x:V)(σ:St)(H:Hp)(N:St->Hp->Prop):Prop:=g x σ H λσ3 H3=>tt σ3 H3 λb H4=>
  if b=true then te σ3 H4 λv H5=>∃acc,H5 D=some (.lst acc)/\acc.length<sizeLine/\N σ3 (upd H5 D (.lst (acc++[v])))else N σ3 H4
def Bq(Pv:Nat->St->Hp->Prop)(h0:Pv 0 (vP own ixs σ) (upd H D (.lst [])))(hl:∀i σ H,i<=xs.length->Pv i σ H->gY K H a xs)
  (hs:∀i x σ H,xs[i]? =some x->Pv i σ H->fO g tt te D x σ H (Pv (i+1))) (hd:∀σ H,Pv xs.length σ H->(∃acc,H D=some (.lst acc))/\Q (.ref D) H) :
  ∃W:Nat->Nat->St->Hp->Prop,(∃m,W 0 m (vP own ixs σ) (upd H D (.lst [])))/\∀i m σ' H',W i m σ' H'->
   ((BE K a).stop i H'/\(∃acc,H' D=some (.lst acc))/\Q (.ref D) H')\/
   ((BE K a).go i H'/\∃N:St->Hp->Prop,(∀σ2 H2,N σ2 H2->∃m',m'<m/\W (i+1) m' σ2 H2)/\∀x H2,(BE K a).yld i H' x H2->fO g tt te D x σ' H2 N):=by
 refine⟨λi m σ H=>m=xs.length-i/\i<=xs.length/\Pv i σ H,⟨xs.length,by simp,O2 _,h0⟩,?_⟩
 rintro i m σ H ⟨rfl,hi,p⟩
 have q:=hl i σ H hi p
 by_cases hlt:i<xs.length
 .refine .inr ⟨⟨xs,xs[i],q,by simp[hlt]⟩,Pv (i+1),λσ' H' p'=>⟨xs.length-(i+1),by omega,rfl,hlt,p'⟩,λx H' y=>?_⟩
  let⟨e,y⟩:=y
  subst e
  exact hs i x σ _ (y xs q) p
 .have e:i=xs.length:=by omega
  subst e
  exact .inl ⟨⟨xs,q,Oc _⟩,hd σ H p⟩
def yq{lo:Int}{n:Nat}(Pv:Nat->St->Hp->Prop)(h0:Pv 0 (vP own ixs σ) (upd H D (.lst [])))
  (hs:∀i σ H,i<n->Pv i σ H->fO g tt te D (.int (lo+i)) σ H (Pv (i+1))) (hd:∀σ H,Pv n σ H->(∃acc,H D=some (.lst acc))/\Q (.ref D) H) :
  ∃W:Nat->Nat->St->Hp->Prop,(∃m,W 0 m (vP own ixs σ) (upd H D (.lst [])))/\∀i m σ' H',W i m σ' H'->
   ((Ci lo n).stop i H'/\(∃acc,H' D=some (.lst acc))/\Q (.ref D) H')\/
   ((Ci lo n).go i H'/\∃N:St->Hp->Prop,(∀σ2 H2,N σ2 H2->∃m',m'<m/\W (i+1) m' σ2 H2)/\∀x H2,(Ci lo n).yld i H' x H2->fO g tt te D x σ' H2 N):=by
 refine⟨λi m σ H=>m=n-i/\i<=n/\Pv i σ H,⟨n,by simp,O2 _,h0⟩,?_⟩
 rintro i m σ H ⟨rfl,hi,p⟩
 by_cases hlt:i<n
 .refine .inr ⟨hlt,Pv (i+1),λσ' H' p'=>⟨n-(i+1),by omega,rfl,hlt,p'⟩,λx H' y=>?_⟩
  obtain⟨e,y⟩:=y
  subst e y
  exact hs i σ _ hlt p
 .have e:i=n:=by omega
  subst e
  exact .inl ⟨Oc _,hd σ H p⟩
end
section
variable {P:Program}{w:World}{K:Frag}{mg:Str->Option Value}{base:Heap}
def E8.Ck{x qual:Str}{st:Stmt}{f:Addr}{fd:FuncData}{N ps:List Str}{k:Nat}{sp:Sp}(F:E8 K x qual st f fd)(S:aF N ps (au st))(len:∀vs H Q E,sp vs H Q E->vs.length=ps.length)
  (hbody:∀(cdv:Value) (A:Around) (outer:List Env) (s:Shared) (H:Hp) (vs:List V) (Q:VK) (E:XK),fY k (A.deeper (envOfC qual (au st) s.heap.objs.size f cdv))->sp vs H Q E->
   ∃t,sL (sZ (ue P w) P w K mg base N qual (au st) f cdv A outer s H E) (dr st) t/\t {nx:=λ_ H'=>Q .non H',rt:=Q} (start N vs) H):gW P w K mg base (ue P w) (k+1) f fd ps sp:=by
 obtain⟨oc,od,kV,doc,pm,an,cdv,ct,osl,rfl,lk,hcd⟩:=F.ex
 exact HI lk hcd S len λA outer s H vs Q E hr hsp=>hbody cdv A outer s H vs Q E hr hsp
end
section
variable {X:Cx}
def l9(hu:X.A.units+100<cLine):om X (compareOp .NotIn) (Ka X.K true):=by
 intro pins s σ H x y v u Q I rx ry h
 obtain⟨p,xs,d,ds,rfl,hq,hs,hx,s1,s2,q⟩:=h
 cases ry
 let⟨bs,r2⟩:=hx.reads I rx
 have key:∀{e:PyData} {as:List Addr} {u:Value},SeqAt.shaped e=true->Reads s.heap u e as->SeqAt.EqAt X.A.in1 s u v (PyData.eqv e d):=λ{e as u} h1 h2=>by
  refine SeqAt.eqAt_reads _ _ _ _ _ _ _ _ h2 r2 (Qc h1) (Qc s1) ?_
  have:=SeqAt.depth_of_shaped h1
  show X.A.units+1+_<_
  omega
 rcases hq with hq|hq
 .let⟨its,r,pl,hz⟩:=I.list hq
  let⟨f,e1,e2⟩:=n6 I d r hs s2
  refine SeqAt.notIn_listAt f pl.isList (λw hw=>?_) ⟨.bl _,H,I,rfl,?_⟩
  .let⟨e,as,hm,rd,ef⟩:=e2 w (by simpa using hw)
   rw[ef];exact key (s2 e hm) rd
  .rw[show its.toArray.any f=its.any f by simp,e1];exact q
 .let⟨its,r,pl,hz⟩:=I.tuple hq
  let⟨f,e1,e2⟩:=n6 I d r hs s2
  refine SeqAt.notIn_tupleAt f pl (λw hw=>?_) ⟨.bl _,H,I,rfl,?_⟩
  .let⟨e,as,hm,rd,ef⟩:=e2 w (by simpa using hw)
   rw[ef];exact key (s2 e hm) rd
  .rw[show its.toArray.any f=its.any f by simp,e1];exact q
end
inductive SO where
 |nx (env:En) (β:Int)
 |bk (env:En) (β:Int)
 |ct (env:En) (β:Int)
 |rt (d:D) (fr:Bool) (β:Int)
 |exc (c:Str)
 |bad
abbrev SF:=En->Int->SO
def RV(Γ:Fx)(G' H':Hp)(fr:Bool)(d:D)(v:V):Prop:=if fr=true then ∃a,v=.ref a/\Γ.H0 a=none/\G' a=none/\Own Γ.K G' H' a d else Rp Γ.K G' v d
def so(Γ:Fx)(E:XK)(G:Hp)(N:Ends):SO->Prop
 | .nx env β=>∀B G' H' σ,SR Γ B G' H' σ env β->ak G G'->N.nx σ H'
 | .bk env β=>∀B G' H' σ,SR Γ B G' H' σ env β->ak G G'->N.bk σ H'
 | .ct env β=>∀B G' H' σ,SR Γ B G' H' σ env β->ak G G'->N.ct σ H'
 | .rt d fr β=>∀B G' H' σ env v,SR Γ B G' H' σ env β->ak G G'->RV Γ G' H' fr d v->N.rt v H'
 | .exc c=>∀H',Kp Γ H'->E (.ref (Γ.ca c)) none H'
 | .bad=>False
def sT(Γ:Fx)(E:XK)(m:SF):TS:=λN σ H=>∃env G B β,SR Γ B G H σ env β/\so Γ E G N (m env β)
def SS(X:Cx)(Γ:Fx)(E:XK)(st:Stmt)(m:SF):Prop:=PS X st (sT Γ E m)
def Be(X:Cx)(Γ:Fx)(E:XK)(st:List Stmt)(m:SF):Prop:=sL X st (sT Γ E m)
def sL.post{X:Cx}{st:List Stmt}{t u:TS}(h:sL X st t)(m:∀D σ H,u D σ H->t D σ H):sL X st u:=λpins s σ H D I q=>h pins s σ H D I (m D σ H q)
def aB(m m':SF):SF:=λenv β=>match m env β with
 | .nx env' β'=>m' env' β'
 |r=>r
def mG:SF:=λenv β=>.nx env β
section
variable {X:Cx}{Γ:Fx}{E:XK}{e a b c:Expr}{f fa fb:VF D}{L La Lb:List Nat}{md ma mb:Md}{pos:Pos}{st:Stmt}{sts:List Stmt}{m m':SF}{ta:VF Bool}
theorem so.weak{G G1:Hp}{N:Ends}{r:SO}(h:so Γ E G N r)(s:ak G G1):so Γ E G1 N r:=by
 cases r with
 |nx env β=>exact λB G' H' σ I s'=>h B G' H' σ I (s.trans s')
 |bk env β=>exact λB G' H' σ I s'=>h B G' H' σ I (s.trans s')
 |ct env β=>exact λB G' H' σ I s'=>h B G' H' σ I (s.trans s')
 |rt d fr β=>exact λB G' H' σ env v I s'=>h B G' H' σ env v I (s.trans s')
 |exc c=>exact h
 |bad=>exact h
def cc:Be X Γ E [] mG:=sL.post u4 λN σ H ⟨env,G,B,β,I,o⟩=>o B G H σ I (ak.refl _)
theorem ag(h:SS X Γ E st m)(h':Be X Γ E sts m'):Be X Γ E (st::sts) (aB m m'):=by
 refine sL.post (dw h h') λN σ H ⟨env,G,B,β,I,o⟩=>⟨env,G,B,β,I,?_⟩
 unfold aB at o
 cases q:m env β with
 |nx env' β'=>rw[q]at o;exact λB' G' H' σ' I' s'=>⟨env',G',B',β',I',o.weak s'⟩
 |bk env' β'=>rw[q]at o;exact o
 |ct env' β'=>rw[q]at o;exact o
 |rt d fr β'=>rw[q]at o;exact o
 |exc c=>rw[q]at o;exact o
 |bad=>rw[q]at o;exact o
def ay(h:SS X Γ E st m):Be X Γ E [st] m:=jb h
def toS{α:Type}(r:R α)(k:α->Int->SO):SO:=match r with
 | .ok x β=>k x β
 | .exc c=>.exc c
 | .bad=>.bad
theorem cF{α:Type}{G:Hp}{N:Ends}{r:R α}{k:α->Int->SO}{P:α->Int->Prop}(h:so Γ E G N (toS r k))(i:∀x β,so Γ E G N (k x β)->P x β):Out Γ E r P:=by
 cases r with
 |ok x β=>exact i x β h
 |exc c=>exact h
 |bad=>exact h
def SR.set'{B:Option Addr}{G H:Hp}{σ:St}{env:En}{β:Int}(I:SR Γ B G H σ env β)(i:Nat){v:V}{d:D}(h:Rp Γ.K G v d):SR Γ B G H (σ.set i (some v)) (env.set i (.fz d)) β:=by
 by_cases hi:i<env.length
 .exact I.set hi h
 .have h1:env.set i (.fz d)=env:=Qm (by omega)
  have h2:σ.set i (some v)=σ:=Qm (by rw[I.len];omega)
  rw[h1,h2];exact I
def SR.setOw'{B:Option Addr}{G H:Hp}{σ:St}{env:En}{β:Int}(I:SR Γ B G H σ env β)(i:Nat){a:Addr}{d:D}(h0:Γ.H0 a=none)(hg:G a=none)(hb:B≠some a)(h:Own Γ.K G H a d)(hn:∀(j:Nat) (d':D),env[j]? =some (.ow d')->σ[j]?≠some (some (.ref a))):SR Γ B G H (σ.set i (some (.ref a))) (env.set i (.ow d)) β:=by
 by_cases hi:i<env.length
 .exact I.setOw hi h0 hg hb h λj d' e _=>hn j d' e
 .have h1:env.set i (.ow d)=env:=Qm (by omega)
  have h2:σ.set i (some (.ref a))=σ:=Qm (by rw[I.len];omega)
  rw[h1,h2];exact I
def bq(i:Nat)(L:List Nat)(f:VF D):SF:=λenv β=>toS (f (vl env) β) λd β'=>.nx ((ba L env).set i (.fz d)) β'
def a7{i:Nat}{x:Str}{pos':Pos}(he:SE X Γ E e f L .v)(hN:X.N.Nodup)(hi:X.N[i]? =some x:=by rfl)(hx:Loc X.env.scope x:=by first|exact Or.inl rfl|exact Or.inr rfl)(hs:swapsWith e (some (.Name x pos')) pos.line X.env=pure false:=by rfl)(hf:X.fn x=true\/X.env.scope.names.lookup x=some .local:=by first|exact .inl rfl|exact .inr rfl|assumption) :
  SS X Γ E (.Assign [.Name x pos'] e pos) (bq i L f):=by
 refine PS.post (m6 hN hi hx he hs hf) λN σ H ⟨env,G,B,β,I,o⟩=>?_
 exact⟨env,G,B,β,I,cF o λd β' k v G' H' I' s' m' vo=>(k B G' H' _ (I'.set' i vo) s')⟩
def jk(i:Nat)(L:List Nat)(f:VF D):SF:=λenv β=>toS (f (vl env) β) λd β'=>.nx ((ba L env).set i (.ow d)) β'
def gM{i:Nat}{x:Str}{pos':Pos}(he:SE X Γ E e f L .w)(hN:X.N.Nodup)(hi:X.N[i]? =some x:=by rfl)(hx:Loc X.env.scope x:=by first|exact Or.inl rfl|exact Or.inr rfl)(hs:swapsWith e (some (.Name x pos')) pos.line X.env=pure false:=by rfl)(hf:X.fn x=true\/X.env.scope.names.lookup x=some .local:=by first|exact .inl rfl|exact .inr rfl|assumption) :
  SS X Γ E (.Assign [.Name x pos'] e pos) (jk i L f):=by
 refine PS.post (m6 hN hi hx he hs hf) λN σ H ⟨env,G,B,β,I,o⟩=>⟨env,G,B,β,I,cF o λd β' k v G' H' I' s' m' vo=>?_⟩
 obtain⟨p,rfl,h1,h2,h3⟩:=vo
 let⟨q1,q2,q3,q4⟩:=I.fresh h1
 exact k B G' H' _ (I'.setOw' i q1 h2 q3 h3 λj d' z=>q4 j d' (vg z)) s'
def tZ(L:List Nat)(f:VF D):SF:=λenv β=>toS (f (vl env) β) λ_ β'=>.nx (ba L env) β'
def zK(he:SE X Γ E e f L md)(hs:swapsWith e none pos.line X.env=pure false:=by rfl):SS X Γ E (.Expr e pos) (tZ L f):=by
 exact PS.post (nN he hs) λN σ H ⟨env,G,B,β,I,o⟩=>⟨env,G,B,β,I,cF o λd β' k v G' H' I' s' m' vo=>k B G' H' _ I' s'⟩
def bI(f:VF D):SF:=λenv β=>toS (f (vl env) β) λd β'=>.rt d false β'
def aS(he:SE X Γ E e f L .v):SS X Γ E (.Return (some e) pos) (bI f):=by
 exact PS.post (pf he) λN σ H ⟨env,G,B,β,I,o⟩=>⟨env,G,B,β,I,cF o λd β' k v G' H' I' s' m' vo=>k B G' H' σ _ v I' s' vo⟩
def mJ(f:VF D):SF:=λenv β=>toS (f (vl env) β) λd β'=>.rt d true β'
def l0(he:SE X Γ E e f L .w):SS X Γ E (.Return (some e) pos) (mJ f):=by
 refine PS.post (pf he) λN σ H ⟨env,G,B,β,I,o⟩=>⟨env,G,B,β,I,cF o λd β' k v G' H' I' s' m' vo=>?_⟩
 obtain⟨p,rfl,h1,h2,h3⟩:=vo
 let⟨q1,_⟩:=I.fresh h1
 exact k B G' H' σ _ _ I' s' ⟨p,rfl,q1,h2,h3⟩
def rn(i:Nat):SF:=λenv β=>match env[i]? with
 |some (.fz d)=>.rt d false β
 |some (.ow d)=>.rt d true β
 |_=>.bad
theorem oy(i:Nat){x:Str}{p:Pos}(hN:X.N[i]? =some x:=by rfl)(hv:yc X.env.scope x:=by first|exact Or.inl rfl|exact Or.inr (Or.inl rfl)|exact Or.inr (Or.inr rfl))(hd:(x==("__debug__":Str))=false:=by decide)
  (hcd:(x==("__classdict__":Str))=false:=by decide):SS X Γ E (.Return (some (.Name x p)) pos) (rn i):=by
 refine PS.post (pf (fK hN hv hd hcd)) λN σ H ⟨env,G,B,β,I,o⟩=>?_
 unfold rn at o
 cases q:env[i]? with
 |none=>rw[q]at o;exact o.elim
 |some s=>
  rw[q]at o
  cases s with
  |no=>exact o.elim
  |bx=>exact o.elim
  |br d=>exact o.elim
  |fz d=>
   let⟨v,h1,h2⟩:=I.slot i _ q
   exact⟨v,h1,o B G H σ env v I (ak.refl _) h2⟩
  |ow d=>
   let⟨p,h1,h2,h3,h4,h5⟩:=I.slot i _ q
   exact⟨_,h1,o B G H σ env _ I (ak.refl _) ⟨p,rfl,h2,h3,h5⟩⟩
def kM(L:List Nat)(t:VF Bool)(m m':SF):SF:=λenv β=>toS (t (vl env) β) λc β'=>if c=true then m (ba L env) β' else m' (ba L env) β'
theorem dB{x y:List Stmt}(hc:yx X Γ E c ta L)(ha:Be X Γ E x m)(hb:Be X Γ E y m'):SS X Γ E (.If c x y pos) (kM L ta m m'):=by
 refine PS.post (EI hc ha hb) λN σ H ⟨env,G,B,β,I,o⟩=>⟨env,G,B,β,I,cF o λd β' k G' H' I' s' m'=>?_⟩
 cases d with
 |true=>exact vd ⟨_,G',B,β',I',so.weak k s'⟩
 |false=>exact uQ ⟨_,G',B,β',I',so.weak k s'⟩
def gk(L:List Nat)(t:VF Bool)(m:SF):Nat->SF
 | 0=>λ_ _=>.bad
 |n+1=>λenv β=>toS (t (vl env) β) λc β'=>if c=true then(match m (ba L env) β' with
   | .nx env2 β2=>gk L t m n env2 β2
   | .ct env2 β2=>gk L t m n env2 β2
   | .bk env2 β2=>.nx env2 β2
   |r=>r)else .nx (ba L env) β'
theorem lO{x:List Stmt}(n:Nat)(hp:PassesOwn (model X.prog X.w) X.A X.env X.xe)(hc:yx X Γ E c ta L)(hb:Be X Γ E x m):SS X Γ E (.While c x [] pos) (gk L ta m n):=by
 refine PS.post (EN hp hc hb) λN σ H ⟨env,G,B,β,I,o⟩=>⟨λk σ H=>∃env G1 B β,SR Γ B G1 H σ env β/\ak G G1/\so Γ E G1 N (gk L ta m k env β),⟨n,env,G,B,β,I,ak.refl _,o⟩,?_⟩
 rintro k σ H ⟨env,G1,B,β,I,sG,o⟩
 cases k with
 |zero=>exact o.elim
 |succ k=>
  refine⟨env,G1,B,β,I,cF o λd β' q G' H' I' s' m'=>?_⟩
  cases d with
  |false=>exact uQ (q B G' H' σ I' s')
  |true=>
   refine vd ⟨λσ H=>∃env G1 B β,SR Γ B G1 H σ env β/\ak G G1/\so Γ E G1 N (gk L ta m k env β),λσ' H' h=>⟨k,Nat.lt_succ_self k,h⟩,ba L env,G',B,β',I',?_⟩
   rw[Od rfl]at q
   cases r:m (ba L env) β' with
   |nx env2 β2=>rw[r]at q;exact λB2 G2 H2 σ2 I2 s2=>⟨env2,G2,B2,β2,I2,(sG.trans s').trans s2,so.weak q (s'.trans s2)⟩
   |ct env2 β2=>rw[r]at q;exact λB2 G2 H2 σ2 I2 s2=>⟨env2,G2,B2,β2,I2,(sG.trans s').trans s2,so.weak q (s'.trans s2)⟩
   |bk env2 β2=>rw[r]at q;exact λB2 G2 H2 σ2 I2 s2=>q B2 G2 H2 σ2 I2 (s'.trans s2)
   |rt d fr β2=>rw[r]at q;exact so.weak q s'
   |exc c=>rw[r]at q;exact q
   |bad=>rw[r]at q;exact q
def Walk(K:Frag)(B:Option Addr)(G H1:Hp)(ds:List D)(J:It):Prop:=∀Gc H (i:Nat),ak G Gc->ak Gc H->iQ B H1 H->
 (i<ds.length->J.go i H/\∀x H',J.yld i H x H'->∃G' d,Ext Gc H G' H'/\ds[i]? =some d/\Rp K G' x d)/\(ds.length<=i->J.stop i H)
def iT(Γ:Fx)(E:XK)(f:VF (List D))(L:List Nat)(md:Md):TI:=λσ H Rr=>∃env G B β,SR Γ B G H σ env β/\
 Out Γ E (f (vl env) β) λds β'=>∀J G' H',SR Γ B G' H' σ (ba L env) β'->ak G G'->iQ B H H'->Walk Γ.K B G' (match md with|.b=>H'|_=>λ_=>none) ds J->Rr J H'
def SI(X:Cx)(Γ:Fx)(E:XK)(tg e:Expr)(f:VF (List D))(L:List Nat)(md:Md):Prop:=PI X tg e (iT Γ E f L md)
def PI.post{X:Cx}{tg e:Expr}{t u:TI}(h:PI X tg e t)(m:∀σ H Q,u σ H Q->t σ H Q):PI X tg e u:=λpins s σ H Q I q=>h pins s σ H Q I (m σ H Q q)
variable {tg:Expr}
def mQ:D->Option (List D)
 | .list ds=>some ds
 | .tuple ds=>some ds
 |_=>none
def bQ(fa:VF D):VF (List D):=λvs β=>(fa vs β).bnd λx β1=>R.of (mQ x) β1
end
def N4(K:Frag)(tl:TE):TI:=λσ H R=>tl σ H λx H1=>∃a xs,x=.ref a/\((gY K H1 a xs/\R (BE K a) H1)\/(fF K H1 a xs/\R (HV K a) H1))
section
variable {X:Cx}{tg l:Expr}{tl:TE}
def HM(hl:PE X l tl):PI X tg l (N4 X.K tl):=by
 intro pins s σ H R I h
 refine cI (hl pins s σ H _ I h) λv s1 ⟨x,H1,I1,r1,q1⟩=>?_
 let⟨a,xs,e,q⟩:=q1
 subst e
 cases r1
 rcases q with⟨hq,q⟩|⟨hq,q⟩
 .let⟨its,rv,p,hz⟩:=I1.list hq
  refine QH p.isList ⟨s1.heap.objs.size,[s1.heap.objs.size],_,_,H1,rfl,I1.kept λb o e=>Oa _ e,oM a _,⟨_,Ou _ rfl,rfl,rfl⟩,λb hb=>?_,q⟩
  have e:b=s1.heap.objs.size:=by simpa using hb
  subst e
  exact I1.fpOk (Oc _) (I1.hok.fresh (Oc _))
 .let⟨its,rv,p,hz⟩:=I1.tuple hq
  refine wpAny_pyIter_tuple (show s1.heap.IsTuple a its.toArray from p) ⟨s1.heap.objs.size,[s1.heap.objs.size],_,_,H1,rfl,I1.kept λb o e=>Oa _ e,rZ a _,⟨_,Ou _ rfl,rfl,rfl⟩,λb hb=>?_,q⟩
  have e:b=s1.heap.objs.size:=by simpa using hb
  subst e
  exact I1.fpOk (Oc _) (I1.hok.fresh (Oc _))
end
section
variable {X:Cx}{Γ:Fx}{E:XK}{e a b c:Expr}{f fa fb:VF D}{L La Lb:List Nat}{md ma mb:Md}{pos:Pos}{st:Stmt}{sts:List Stmt}{m m':SF}{ta:VF Bool}{tg:Expr}
def oY{K:Frag}{B:Option Addr}{G H1:Hp}{p:Addr}{xs:List V}{ds:List D}(h:∀Gc H,ak G Gc->ak Gc H->iQ B H1 H->gY K H p xs)(r:cE K G xs ds):Walk K B G H1 ds (BE K p):=λGc H i s1 s2 m=>by
 have hq:=h Gc H s1 s2 m
 refine⟨λhi=>⟨?_,λx H' y=>?_⟩,λhi=>⟨xs,hq,by rw[r.len];exact hi⟩⟩
 .have hi':i<xs.length:=by rw[r.len];exact hi
  exact⟨xs,xs[i],hq,by simp[hi']⟩
 .obtain⟨rfl,y⟩:=y
  let⟨d,e,q⟩:=r.at' (y xs hq)
  exact⟨Gc,d,Ext.refl s2,e,q.mono s1⟩
def wU{K:Frag}{B:Option Addr}{G H1:Hp}{p:Addr}{xs:List V}{ds:List D}(h:∀Gc H,ak G Gc->ak Gc H->iQ B H1 H->fF K H p xs)(r:cE K G xs ds):Walk K B G H1 ds (HV K p):=λGc H i s1 s2 m=>by
 have hq:=h Gc H s1 s2 m
 refine⟨λhi=>⟨?_,λx H' y=>?_⟩,λhi=>⟨xs,hq,by rw[r.len];exact hi⟩⟩
 .have hi':i<xs.length:=by rw[r.len];exact hi
  exact⟨xs,xs[i],hq,by simp[hi']⟩
 .obtain⟨rfl,y⟩:=y
  let⟨d,e,q⟩:=r.at' (y xs hq)
  exact⟨Gc,d,Ext.refl s2,e,q.mono s1⟩
theorem D7(hK:X.K=Γ.K)(ha:SE X Γ E a fa La .v):SI X Γ E tg a (bQ fa) La .v:=by
 refine PI.post (HM ha) λσ H Q ⟨env,G,B,β,I,o⟩=>⟨env,G,B,β,I,o.bnd.imp λd1 β1 h x G1 H1 I1 s1 m1 vx=>?_⟩
 let⟨ds,e,k⟩:=h.of
 rw[hK]
 have vx:Rp Γ.K G1 x d1:=vx
 cases d1 with
 |list l=>
  cases e
  cases vx with
  | @lst p xs _ hq r=>exact⟨p,xs,rfl,.inl ⟨.inl (Rd.mono (.inl hq) I1.sub),k _ G1 H1 I1 s1 m1 (oY (λGc H t1 t2 _=>.inl (Rd.mono (.inl hq) (t1.trans t2))) r)⟩⟩
 |tuple l=>
  cases e
  cases vx with
  | @tup p xs _ hq r=>exact⟨p,xs,rfl,.inr ⟨hq.grow I1.sub.grow,k _ G1 H1 I1 s1 m1 (wU (λGc H t1 t2 _=>hq.grow (t1.trans t2).grow) r)⟩⟩
 |_=>cases e
theorem mZ(hK:X.K=Γ.K)(ha:SE X Γ E a fa La ma):SI X Γ E tg a (bQ fa) La .b:=by
 refine PI.post (HM ha) λσ H Q ⟨env,G,B,β,I,o⟩=>⟨env,G,B,β,I,o.bnd.imp λd1 β1 h x G1 H1 I1 s1 m1 vx=>?_⟩
 let⟨ds,e,k⟩:=h.of
 rw[hK]
 have vx:=vx.brw I.boxThere
 cases d1 with
 |list l=>
  cases e
  rcases vx with vx|⟨p,rfl,hb,xs,q,r⟩
  .cases vx with
   | @lst p xs _ hq r=>exact⟨p,xs,rfl,.inl ⟨.inl (Rd.mono (.inl hq) I1.sub),k _ G1 H1 I1 s1 m1 (oY (λGc H t1 t2 _=>.inl (Rd.mono (.inl hq) (t1.trans t2))) r)⟩⟩
  .exact⟨p,xs,rfl,.inl ⟨.inl (.inl q),k _ G1 H1 I1 s1 m1 (oY (λGc H t1 t2 mv=>.inl (.inl (mv.1 p _ q hb))) r)⟩⟩
 |tuple l=>
  cases e
  rcases vx with vx|⟨p,rfl,hb,q⟩
  .cases vx with
   | @tup p xs _ hq r=>exact⟨p,xs,rfl,.inr ⟨hq.grow I1.sub.grow,k _ G1 H1 I1 s1 m1 (wU (λGc H t1 t2 _=>hq.grow (t1.trans t2).grow) r)⟩⟩
  .exact q.elim
 |_=>cases e
def cV(lo:Int)(n:Nat):List D:=(List.range n).map λ(k:Nat)=>int (lo+k)
def dP(lo:Int)(n:Nat):(cV lo n).length=n:=by unfold cV;simp
def wq{K:Frag}{B:Option Addr}{G H1:Hp}(lo:Int)(n:Nat):Walk K B G H1 (cV lo n) (Ci lo n):=λGc H i s1 s2 m=>by
 rw[dP]
 refine⟨λhi=>⟨hi,λx H' y=>?_⟩,λhi=>hi⟩
 obtain⟨rfl,rfl⟩:=y
 refine⟨Gc,.int (lo+i),Ext.refl s2,?_,.int _⟩
 unfold cV
 rw[Om,QU hi];rfl
def Ck(j:Int):Bool:=Nat.ble j.natAbs 1000000
def oR{j:Int}(h:Ck j=true): -(2^62)<=j/\j<2^62:=by
 have:=Nat.le_of_ble_eq_true h
 omega
def oP{j:Int}(h: -1000<=j)(h2:j<=10000):Ck j=true:=Nat.ble_eq_true_of_le (by omega)
def bF(fa:VF D):VF (List D):=λvs β=>(fa vs β).bnd λx β1=>match x with
 | .int j=>if Ck j=true then .ok (cV 0 j.toNat) β1 else .bad
 |_=>.bad
def uF(fa fb:VF D):VF (List D):=λvs β=>(fa vs β).bnd λx β1=>(fb vs β1).bnd λy β2=>match x,y with
 | .int i,.int j=>if(Ck i&&Ck j)=true then .ok (cV i (j-i).toNat) β2 else .bad
 |_,_=>.bad
theorem fZ{p:Pos}(hg:Gl X "range")(hm:X.mg "range"=none)(ha:SE X Γ E a fa La ma)(hs:starEach [a] X.env= [(false,eval a X.env)]:=by rfl)(hs':starEach [a] X.env=(false,eval a X.env)::starEach [] X.env:=by rfl):SI X Γ E tg (.Call (.Name "range" p) [a] [] pos) (bF fa) La md:=by
 refine PI.post (l8 hg hm (aQ ha bC hs') hs) λσ H Q ⟨env,G,B,β,I,o⟩=>⟨env,G,B,β,I,o.bnd.imp λd1 β1 h x G1 H1 I1 s1 m1 vx=>?_⟩
 have vx:=vx.brw I.boxThere
 cases d1 with
 |int j=>
  obtain rfl:=vx.int
  dsimp only at h
  by_cases hj:Ck j=true
  .rw[Od hj]at h
   exact⟨j,rfl,(oR hj).1,(oR hj).2,h _ G1 H1 I1 s1 m1 (wq 0 _)⟩
  .rw[Oe hj]at h;exact h.elim
 |_=>exact h.elim
def LQ{p:Pos}(hg:Gl X "range")(hm:X.mg "range"=none)(ha:SE X Γ E a fa La ma)(hb:SE X Γ E b fb Lb mb)(hs:starEach [a,b] X.env= [(false,eval a X.env),(false,eval b X.env)]:=by rfl)(hs2:starEach [b] X.env= [(false,eval b X.env)]:=by rfl)(hs':starEach [a,b] X.env=(false,eval a X.env)::starEach [b] X.env:=by rfl)(hs3:starEach [b] X.env=(false,eval b X.env)::starEach [] X.env:=by rfl):SI X Γ E tg (.Call (.Name "range" p) [a,b] [] pos) (uF fa fb) (La++Lb) md:=by
 refine PI.post (Bk hg hm (aQ ha (aQ hb bC hs3) hs') hs hs2) λσ H Q ⟨env,G,B,β,I,o⟩=>(two I (o.bnd.imp λd1 β1 h=>h.bnd.imp λd2 β2 h x y G2 H2 I2 s2 m2 bx by'=>?_))
 obtain⟨i,j,rfl,rfl⟩:∃i j,d1=.int i/\d2=.int j:=by
  cases d1<;>cases d2<;>first|exact h.elim|exact⟨_,_,rfl,rfl⟩
 obtain rfl:=bx.int
 obtain rfl:=by'.int
 dsimp only at h
 by_cases hj:(Ck i&&Ck j)=true
 .rw[Od hj]at h
  rw[Oy]at hj
  exact⟨i,j,rfl,⟨(oR hj.1).1,(oR hj.1).2,(oR hj.2).1,(oR hj.2).2⟩,h _ G2 H2 I2 s2 m2 (wq i _)⟩
 .rw[Oe hj]at h;exact h.elim
inductive Tg where
 |nm (i:Nat)
 |two (i j:Nat)
def pairD:D->Option (D×D)
 | .tuple [x,y]=>some (x,y)
 |_=>none
def DD{d x y:D}(h:pairD d=some (x,y)):d=.tuple [x,y]:=by
 unfold pairD at h
 split at h
 .cases h;rfl
 .cases h
def fS:Tg->D->En->Option En
 | .nm i,d,env=>some (env.set i (.fz d))
 | .two i j,d,env=>(pairD d).map λp=>(env.set i (.fz p.1)).set j (.fz p.2)
def sv:Tg->D->List Nv->Option (List Nv)
 | .nm i,d,vs=>some (vs.set i (.da d))
 | .two i j,d,vs=>(pairD d).map λp=>(vs.set i (.da p.1)).set j (.da p.2)
def yE(env:En)(i:Nat)(s:Sl):vl (env.set i s)=(vl env).set i s.val:=by unfold vl;rw[List.map_set]
theorem GV(t:Tg)(d:D)(env:En):(fS t d env).map vl=sv t d (vl env):=by
 cases t with
 |nm i=>show some (vl _)=some _;rw[yE];rfl
 |two i j=>
  show((pairD d).map _).map vl=(pairD d).map _
  cases pairD d with
  |none=>rfl
  |some p=>show some (vl _)=some _;rw[yE,yE];rfl
def gT(Γ:Fx)(t:Tg):TG:=λv σ H Q=>∃env G B β d env',SR Γ B G H σ env β/\Rp Γ.K G v d/\fS t d env=some env'/\∀σ',SR Γ B G H σ' env' β->Q σ' H
def SG(X:Cx)(Γ:Fx)(tg:Expr)(t:Tg):Prop:=PG X tg (gT Γ t)
def PG.post{X:Cx}{tg:Expr}{t u:TG}(h:PG X tg t)(m:∀v σ H Q,u v σ H Q->t v σ H Q):PG X tg u:=λpins s σ H v uu Q I r q=>h pins s σ H v uu Q I r (m v σ H Q q)
def bN{i:Nat}{x:Str}(hN:X.N.Nodup)(hi:X.N[i]? =some x:=by rfl)(hx:Loc X.env.scope x:=by first|exact Or.inl rfl|exact Or.inr rfl)(hf:X.fn x=true\/X.env.scope.names.lookup x=some .local:=by first|exact .inl rfl|exact .inr rfl|assumption):SG X Γ (.Name x pos) (.nm i):=by
 refine PG.post (dk hN hi hx hf) λv σ H Q ⟨env,G,B,β,d,env',I,r,e,k⟩=>?_
 cases e
 exact k _ (I.set' i r)
theorem jA{i j:Nat}{x y:Str}{px py:Pos}{n:Nat}(hN:X.N.Nodup)(hc:X.calm=true:=by rfl)(hK:X.K=Γ.K:=by rfl)(hi:X.N[i]? =some x:=by rfl)(hj:X.N[j]? =some y:=by rfl)(hx:Loc X.env.scope x:=by first|exact Or.inl rfl|exact Or.inr rfl)(hy:Loc X.env.scope y:=by first|exact Or.inl rfl|exact Or.inr rfl)
  (hf:X.fn x=true\/X.env.scope.names.lookup x=some .local:=by first|exact .inl rfl|exact .inr rfl|assumption) (hf':X.fn y=true\/X.env.scope.names.lookup y=some .local:=by first|exact .inl rfl|exact .inr rfl|assumption):SG X Γ (.Tuple [.Name x px,.Name y py] n pos) (.two i j):=by
 refine PG.post (qY hc (fg (dk hN hi hx hf) (fg (dk hN hj hy hf') nV))) λv σ H Q ⟨env,G,B,β,d,env',I,r,e,k⟩=>?_
 rw[hK]
 have e:(pairD d).map (λp=>(env.set i (.fz p.1)).set j (.fz p.2))=some env':=e
 cases q:pairD d with
 |none=>rw[q]at e;cases e
 |some p=>
  let⟨dx,dy⟩:=p
  rw[q]at e
  cases e
  obtain rfl:=DD q
  cases r with
  | @tup p xs _ hq r=>
   cases r with
   |cons r1 r=>
    cases r with
    |cons r2 r=>
     cases r
     exact⟨p,_,rfl,hq.grow I.sub.grow,rfl,_,_,rfl,_,_,rfl,rfl,k _ ((I.set' i r1).set' j r2)⟩
def nr(t:Tg)(m:SF):List D->SF
 | []=>λenv β=>.nx env β
 |d::ds=>λenv β=>match fS t d env with
  |none=>.bad
  |some env1=>match m env1 β with
   | .nx env2 β2=>nr t m ds env2 β2
   | .ct env2 β2=>nr t m ds env2 β2
   | .bk env2 β2=>.nx env2 β2
   |r=>r
def c3(t:Tg)(L:List Nat)(fi:VF (List D))(m:SF):SF:=λenv β=>toS (fi (vl env) β) λds β'=>nr t m ds (ba L env) β'
def dF{t:Tg}{fi:VF (List D)}{x:List Stmt}(hp:PassesOwn (model X.prog X.w) X.A X.env X.xe)(hc:X.calm=true)(hi:SI X Γ E tg e fi L .v)(hg:SG X Γ tg t)(hb:Be X Γ E x m)(hs:∀x,foldedSetIterable e X.env x=pure x:=by intro _;rfl):SS X Γ E (.For tg e x [] pos) (c3 t L fi m):=by
 refine PS.post (vZ hp hc hi hg hb hs) λN σ H ⟨env,G,B,β,I,o⟩=>⟨env,G,B,β,I,cF o λds β' q J G' H' I' s' m' w=>?_⟩
 have w:Walk Γ.K B G' (λ_=>none) ds J:=w
 refine⟨λi n σ H=>n=ds.length-i/\i<=ds.length/\∃env G1 B β,SR Γ B G1 H σ env β/\ak G' G1/\so Γ E G1 N (nr t m (ds.drop i) env β),⟨ds.length,by simp,O2 _,ba L env,G',B,β',I',ak.refl _,by rw[drop_zero];exact so.weak q s'⟩,?_⟩
 rintro i n σ H ⟨rfl,hi,env,G1,B1,β1,I1,s1,q⟩
 let⟨w1,w2⟩:=w G1 H i s1 I1.sub ⟨(λb o e=>by cases e),λb o u e=>by cases e⟩
 by_cases hlt:i<ds.length
 .let⟨go,yl⟩:=w1 hlt
  refine .inr ⟨go,λσ H=>∃env G2 B β,SR Γ B G2 H σ env β/\ak G' G2/\so Γ E G2 N (nr t m (ds.drop (i+1)) env β),λσ2 H2 h=>⟨ds.length-(i+1),by omega,rfl,hlt,h⟩,λx H2 y=>?_⟩
  let⟨G2,d,x2,ed,rd⟩:=yl x H2 y
  have I2:=I1.ext x2
  have q:=so.weak q x2.gg
  rw[Rm hlt]at q
  have ed':ds[i]=d:=by rw[N8 hlt]at ed;exact Option.some.inj ed
  rw[ed']at q
  unfold nr at q
  cases eb:fS t d env with
  |none=>rw[eb]at q;exact q.elim
  |some env1=>
   rw[eb]at q
   refine⟨env,G2,B1,β1,d,env1,I2,rd,eb,λσ3 I3=>⟨env1,G2,B1,β1,I3,?_⟩⟩
   have s2:=s1.trans x2.gg
   dsimp only at q
   cases r:m env1 β1 with
   |nx env2 β2=>rw[r]at q;exact λB2 G3 H3 σ2 I2 s3=>⟨env2,G3,B2,β2,I2,s2.trans s3,so.weak q s3⟩
   |ct env2 β2=>rw[r]at q;exact λB2 G3 H3 σ2 I2 s3=>⟨env2,G3,B2,β2,I2,s2.trans s3,so.weak q s3⟩
   |bk env2 β2=>rw[r]at q;exact λB2 G3 H3 σ2 I2 s3=>q B2 G3 H3 σ2 I2 s3
   |rt d fr β2=>rw[r]at q;exact q
   |exc c=>rw[r]at q;exact q
   |bad=>rw[r]at q;exact q
 .have e:i=ds.length:=by omega
  subst e
  rw[List.drop_length]at q
  exact .inl ⟨w2 (Oc _),q B1 G1 H σ I1 (ak.refl _)⟩
end
abbrev Fx.jx(Γ:Fx)(H0 G0:Hp)(par:List Addr)(br:Nat->Bool)(bx:Option Addr):Fx:=⟨Γ.K,H0,G0,par,Γ.ca,br,bx⟩
def gO(own:Nat)(ixs:List Nat)(vs:List Nv):List Nv:=List.replicate own .no++ixs.map λi=>(vs[i]?).getD .no
def L0:Option Sl->Sl
 |some (.ow d)=>.br d
 |some s=>s
 |none=>.no
def benv(own:Nat)(ixs:List Nat)(env:En):En:=List.replicate own .no++ixs.map λi=>L0 env[i]?
theorem Hv(o:Option Sl):(L0 o).val=(o.map Sl.val).getD .no:=by
 cases o with
 |none=>rfl
 |some s=>cases s<;>rfl
def Fq(own:Nat)(ixs:List Nat)(env:En):vl (benv own ixs env)=gO own ixs (vl env):=by
 unfold vl benv gO
 rw[OL,List.map_replicate,OX]
 congr 1
 refine PD λi _=>?_
 show(L0 env[i]?).val=_
 rw[Hv,Om]
def zq(env:En):Prop:=∀(i:Nat) (d:D),env[i]?≠some (.ow d)
theorem wg{env:En}(h:zq env)(L:List Nat):ba L env=env:=by
 unfold ba
 induction L with
 |nil=>rfl
 |cons i L ih=>
  rw[Qk]
  have:jR env i=env:=by
   unfold jR
   split
   .rename_i d e;exact absurd e (h i d)
   .rfl
  rw[this];exact ih
def uD(own:Nat)(ixs:List Nat)(env:En):zq (benv own ixs env):=λi d e=>by
 unfold benv at e
 have hm:=Oi e
 rcases Ox.mp hm with h|h
 .have:=Ru h;cases this
 .let⟨k,_,hk⟩:=Of.mp h
  cases q:env[k]? with
  |none=>rw[q]at hk;cases hk
  |some s=>rw[q]at hk;cases s<;>cases hk
def q8{env:En}(h:zq env)(i:Nat)(d:D):zq (env.set i (.fz d)):=λj d' e=>by
 by_cases z:i=j
 .subst z
  by_cases hi:i<env.length
  .rw[OE hi]at e;cases e
  .rw[Qm (by omega)]at e;exact h _ _ e
 .rw[Oq z]at e;exact h _ _ e
theorem A2{env env1:En}{t:Tg}{d:D}(h:zq env)(e:fS t d env=some env1):zq env1:=by
 cases t with
 |nm i=>cases e;exact q8 h i d
 |two i j=>
  have e:(pairD d).map _=some env1:=e
  cases q:pairD d with
  |none=>rw[q]at e;cases e
  |some p=>rw[q]at e;cases e;exact q8 (q8 h _ _) _ _
theorem BC{env env1:En}{t:Tg}{d:D}(e:fS t d env=some env1)(d':D):fS t d' env1=fS t d' env:=by
 cases t with
 |nm i=>cases e;show some _=some _;rw[set_set]
 |two i j=>
  have e:(pairD d).map _=some env1:=e
  cases q:pairD d with
  |none=>rw[q]at e;cases e
  |some p=>
   rw[q]at e;cases e
   show(pairD d').map _=(pairD d').map _
   cases pairD d' with
   |none=>rfl
   |some p'=>
    show some _=some _
    congr 1
    dsimp only
    by_cases z:i=j
    .subst z;simp[set_set]
    .rw[List.set_comm _ _ (Ne.symm z),set_set,set_set]
def Ext.mov{G H G' H':Hp}(x:Ext G H G' H')(B:Option Addr):iQ B H H':=x.hh.mov B
section
variable {Γ:Fx}{B:Option Addr}{G H G1 H1 Gc Hc:Hp}{σ σ':St}{env envb:En}{β β':Int}{own:Nat}{ixs:List Nat}{Da:Addr}{acc:List V}
def zc(envb:En):Nat->Bool:=λj=>match envb[j]? with
 |some (.br _)=>true
 |_=>false
def SR.block(I:SR Γ B G H σ env β)(own:Nat)(ixs:List Nat)(hD:H Da=none):SR (Γ.jx (upd H Da (.lst [])) G (Da::B.toList) (zc (benv own ixs env)) B) B G (upd H Da (.lst [])) (vP own ixs σ) (benv own ixs env) β:=by
 let⟨q1,q2,q3,q4⟩:=I.fresh hD
 have nB:∀b,B=some b->b≠Da:=λb e z=>q3 (by rw[<-z];exact e)
 refine⟨I.sub.trans (ak.new hD),ak.refl _,λb _ h=>h,λb o h _=>Kt.of h,λb hb=>?_,λb e=>e,λb e=>?_,?_,λi s e=>?_,λi j c d d' e=>absurd e (uD own ixs env i d)⟩
 .rcases Oo.mp hb with z|z
  .subst z;exact Mx.lst av
  .have z':B=some b:=by simpa using z
   exact Mx.lst (by rw[ar (nB b z')];exact(I.box b z').1)
 .let⟨h1,h2,_⟩:=I.box b e
  exact⟨by rw[ar (nB b e)];exact h1,h2,.inl (Og _ (by simpa using e))⟩
 .unfold vP benv;simp
 .by_cases hi:i<own
  .unfold benv at e
   rw[OG (by simpa using hi),PZ,Od hi]at e
   cases e;trivial
  .have e0:=e
   unfold benv at e
   rw[OV (by simpa using hi),QE,Om]at e
   cases ek:ixs[i-own]? with
   |none=>rw[ek]at e;cases e
   |some k=>
    rw[ek]at e
    have e:L0 env[k]? =s:=Option.some.inj e
    have es:(vP own ixs σ)[i]? =some ((σ[k]?).join):=by
     unfold vP
     rw[OV (by simpa using hi),QE,Om,ek];rfl
    rw[es]
    cases q:env[k]? with
    |none=>rw[q]at e;subst e;trivial
    |some t=>
     rw[q]at e
     have w:=I.slot k t q
     cases t with
     |no=>subst e;trivial
     |fz d=>subst e;let⟨v,h1,h2⟩:=w;exact⟨v,by rw[h1];rfl,h2⟩
     |bx=>subst e;let⟨a,h1,h2⟩:=w;exact⟨a,by rw[h1];rfl,h2⟩
     |ow d=>
      subst e
      let⟨a,h1,h2,h3,h4,h5⟩:=w
      let⟨o,ho⟩:=h5.obj
      have aD:a≠Da:=aC ho hD
      refine⟨by show zc _ i=true;unfold zc;rw[e0];rfl,a,by rw[h1];rfl,h4,?_,h5.mono (ak.refl _) λo q=>Kt.of (by rw[ar aD];exact q)⟩
      intro hm
      rcases Oo.mp hm with z|z
      .exact aD z
      .exact h4 (by simpa using z)
     |br d=>
      subst e
      let⟨b1,a,h1,h4,hp,h5⟩:=w
      let⟨o,ho⟩:=h5.obj
      have aD:a≠Da:=aC ho hD
      refine⟨by show zc _ i=true;unfold zc;rw[e0];rfl,a,by rw[h1];rfl,h4,?_,h5.mono (ak.refl _) λo q=>Kt.of (by rw[ar aD];exact q)⟩
      intro hm
      rcases Oo.mp hm with z|z
      .exact aD z
      .exact h4 (by simpa using z)
def SR.unblock(I:SR Γ B G H σ env β){br:Nat->Bool}(hD:H Da=none)(J:SR (Γ.jx (upd H Da (.lst [])) G (Da::B.toList) br B) B Gc Hc σ' envb β'):SR Γ B Gc Hc σ env β'/\iQ B H Hc/\Gc Da=none:=by
 let⟨q1,q2,q3,q4⟩:=I.fresh hD
 have up:∀{b:Addr},Mx H b->Mx (upd H Da (.lst [])) b:=λ{b} h=>h.same λo e=>Kt.of (by rw[ar (aC e hD)];exact e)
 have mv0:∀b o,H b=some o->B≠some b->Kt Hc b o:=λb o e n=>J.keep b o (show upd H Da (.lst []) b=some o by rw[ar (aC e hD)];exact e) λhm=>by
  rcases Oo.mp hm with z|z
  .rw[z,hD]at e;cases e
  .exact n (by simpa using z)
 have mv:iQ B H Hc:=⟨mv0,λb o u e=>mv0 b _ e λz=>by rw[(I.box b z).1]at e;cases e⟩
 refine⟨⟨J.sub,I.old.trans J.old,λb h1 h2=>J.new b (up (I.thereM h1)) (I.new b h1 h2),λb o h1 h2=>zu (I.keep b o h1 h2) mv λz=>?_,λb hb=>J.thereM (up (I.pin b hb)),I.fix,λb e=>?_,I.len,λi s e=>?_,I.sep⟩,mv,J.new Da (Mx.lst (show upd H Da (.lst []) Da=some (.lst [])from av)) q2⟩
 .let⟨_,_,h3⟩:=I.box b z
  rcases h3 with h3|h3
  .exact h2 h3
  .rw[h1]at h3;cases h3
 .let⟨j1,j2,_⟩:=J.box b e
  exact⟨j1,j2,(I.box b e).2.2⟩
 .have w:=I.slot i s e
  cases s with
  |no=>trivial
  |fz d=>let⟨v,h1,h2⟩:=w;exact⟨v,h1,h2.mono J.old⟩
  |bx=>exact w
  |ow d=>
   let⟨a,h1,h2,h3,h4,h5⟩:=w
   exact⟨a,h1,h2,J.new a (up h5.mx) h3,h4,h5.mono J.old λo q=>mv.1 a o q h4⟩
  |br d=>
   let⟨b1,a,h1,h4,hp,h5⟩:=w
   exact⟨b1,a,h1,h4,hp,h5.mono J.old λo q=>mv.1 a o q h4⟩
def SR.uY{ys:List V}(J:SR Γ B G H σ env β)(hp:Da∈Γ.par)(h0:Mx Γ.H0 Da)(g0:Γ.G0 Da=none)(hB:B≠some Da):SR Γ B G (upd H Da (.lst ys)) σ env β:=by
 have gD:=J.new Da h0 g0
 have ha:∀x y,H Da≠some (.ba x y):=λx y w=>(J.pin Da hp).2 _ w trivial
 refine⟨λb u q=>jC (J.sub b u q) (λz=>by rw[z,gD]at q;cases q) ha,J.old,J.new,λb u q n=>jC (J.keep b u q n) (λz=>n (by rw[z];exact hp)) ha,λb hb=>?_,J.fix,λb e=>?_,J.len,λi s e=>?_,J.sep⟩
 .by_cases z:b=Da
  .subst z;exact Mx.lst av
  .exact (J.pin b hb).same λo e=>Kt.of (by rw[ar z];exact e)
 .let⟨h1,h2⟩:=J.box b e
  exact⟨by rw[ar (λz=>hB (by rw[<-z];exact e))];exact h1,h2⟩
 .have w:=J.slot i s e
  cases s with
  |no=>trivial
  |fz d=>exact w
  |bx=>exact w
  |ow d=>
   let⟨a,h1,h2,h3,h4,h5⟩:=w
   have aD:a≠Da:=λz=>h0.1 (by rw[<-z];exact h2)
   exact⟨a,h1,h2,h3,h4,h5.mono (ak.refl _) λo q=>Kt.of (by rw[ar aD];exact q)⟩
  |br d=>
   let⟨b1,a,h1,h4,hpa,h5⟩:=w
   have aD:a≠Da:=λz=>hpa (by rw[z];exact hp)
   exact⟨b1,a,h1,h4,hpa,h5.mono (ak.refl _) λo q=>Kt.of (by rw[ar aD];exact q)⟩
end
def R.okb{α γ:Type}(r:R α)(k:α->Int->R γ):R γ:=match r with
 | .ok a β=>k a β
 |_=>.bad
def iL(t:Tg)(ft:VF Bool)(fe:VF D)(vs:List Nv):List D->Int->R (List D)
 | [],β=>.ok [] β
 |d::ds,β=>match sv t d vs with
  |none=>.bad
  |some vs1=>(ft vs1 β).okb λc β1=>if c=true then(fe vs1 β1).okb λx β2=>(iL t ft fe vs ds β2).okb λxs β3=>.ok (x::xs) β3 else iL t ft fe vs ds β1
def aK(own:Nat)(ixs:List Nat)(t:Tg)(fi:VF (List D))(ft:VF Bool)(fe:VF D):VF D:=λvs β=>(fi vs β).bnd λds β1=>if ds.length<=sizeLine then(iL t ft fe (gO own ixs vs) ds β1).okb λxs β2=>.ok (.list xs) β2 else .bad
def mC:VF Bool:=λ_ β=>.ok true β
def Hz(own:Nat)(ixs Lc:List Nat)(j:Nat):Bool:=decide (j<own)||(match ixs[j-own]? with
 |some i=>Lc.contains i
 |none=>false)
theorem FZ{α γ:Type}{Γ:Fx}{E:XK}{r:R α}{k:α->Int->R γ}{P:γ->Int->Prop}(h:Out Γ E (r.okb k) P):∃a β,r=.ok a β/\Out Γ E (k a β) P:=by
 cases r with
 |ok a β=>exact⟨a,β,rfl,h⟩
 |exc c=>exact h.elim
 |bad=>exact h.elim
section
variable {X:Cx}{Γ:Fx}{E:XK}{tg iter elt:Expr}{ifs:List Expr}{scope:Scope}{NB:List Str}{own:Nat}{ixs Li Lc Lt Le:List Nat}{t:Tg}{fi:VF (List D)}{ft:VF Bool}{fe:VF D}{pos:Pos}
def dG{X:Cx}{Γ:Fx}{E:XK}:Dj X [] (qT Γ E mC []):=λpins s σ H Q I ⟨env,G,B,β,J,o⟩=>uX pins s σ H Q I (o G H J (ak.refl _) (iQ.refl _ _))
def eM{X:Cx}{Γ:Fx}{E:XK}{c:Expr}{ta:VF Bool}{L:List Nat}(h:yx X Γ E c ta L):Dj X [c] (qT Γ E ta L):=Aw h
def n0{NB:List Str}{scope:Scope}{C:Addr}{ex:List Addr}{s3:Shared}{H3:Hp}{pn:List (Addr×Obj)}{P:Program}{w:World}:Passes (ue P w) (jx X NB scope C ex s3 H3 pn) E0:=λpins σ H s e s' I h=>by
 let⟨_,_,_,_,_,_,_,_,_,q⟩:=h
 exact q.elim
abbrev gU(Γ:Fx)(t:Tg):TG:=λv σ H Q=>∃H0 G0 par br bx,gT (Γ.jx H0 G0 par br bx) t v σ H Q
abbrev tU(Γ:Fx)(own:Nat)(ixs Lc:List Nat)(ft:VF Bool)(Lt:List Nat):TT:=λσ H Q=>∃H0 G0 par br bx,(∀j,Hz own ixs Lc j=true->br j=false)/\qT (Γ.jx H0 G0 par br bx) E0 ft Lt σ H Q
abbrev eU(Γ:Fx)(own:Nat)(ixs Lc:List Nat)(fe:VF D)(Le:List Nat):TE:=λσ H Q=>∃H0 G0 par br bx,(∀j,Hz own ixs Lc j=true->br j=false)/\pT (Γ.jx H0 G0 par br bx) E0 fe Le .v σ H Q
def Ih{σ:St}{H:Hp}{Q:VK}(hLc:∀i,i∈Lc->Γ.br i=false)(h:pT Γ E (aK own ixs t fi ft fe) (Li++Lc) .w σ H Q):yB own ixs (iT Γ E fi Li .b) (gU Γ t) (tU Γ own ixs Lc ft Lt) (eU Γ own ixs Lc fe Le) σ H Q:=by
 let⟨env,G,B,β,I,o⟩:=h
 refine⟨env,G,B,β,I,o.bnd.imp λds β1 h J G1 H1 I1 s1 m1 wk Da hD=>?_⟩
 have wk:Walk Γ.K B G1 H1 ds J:=wk
 by_cases hz:ds.length<=sizeLine
 case neg=>rw[Oe hz]at h;exact h.elim
 rw[Od hz]at h
 let⟨xs0,β0,e0,h⟩:=FZ h
 have h:∀v G' H',SR Γ B G' H' σ (ba (Li++Lc) env) β0->ak G G'->iQ B H H'->VO Γ.K B H G' H' .w (.list xs0) v->Q v H':=h
 let⟨G2,I2,s2⟩:=I1.ba Lc hLc
 rw[<-dR]at I2
 let⟨q1,q2,q3,q4⟩:=I2.fresh hD
 have Ib0:=I2.block own ixs hD
 generalize hbr:zc (benv own ixs (ba (Li++Lc) env))=br at Ib0
 have hbo:∀j,Hz own ixs Lc j=true->br j=false:=by
  intro j hj
  rw[<-hbr]
  unfold zc
  split
  .rename_i d e
   exfalso
   unfold benv at e
   by_cases hjo:j<own
   .rw[OG (by simpa using hjo),PZ,Od hjo]at e;cases e
   .rw[OV (by simpa using hjo),QE,Om]at e
    unfold Hz at hj
    rw[Oz hjo,Bool.false_or]at hj
    cases ek:ixs[j-own]? with
    |none=>rw[ek]at hj;cases hj
    |some k=>
     rw[ek]at hj e
     have hk:k∈Lc:=by simpa using hj
     have e:L0 (ba (Li++Lc) env)[k]? =.br d:=Option.some.inj e
     cases q:(ba (Li++Lc) env)[k]? with
     |none=>rw[q]at e;cases e
     |some s=>
      rw[q]at e
      cases s with
      |no=>cases e
      |fz _=>cases e
      |bx=>cases e
      |br d'=>
       let⟨b1,_⟩:=I2.slot k _ q
       rw[hLc k hk]at b1;cases b1
      |ow d'=>
       rw[dR]at q
       have key:∀(M:List Nat) (en:En),k∈M->∀d',(ba M en)[k]?≠some (.ow d'):=by
        intro M
        induction M with
        |nil=>intro en hm;cases hm
        |cons i M ih=>
         intro en hm d' z
         rcases Oo.mp hm with y|y
         .subst y
          have z1:(jR en k)[k]? =some (.ow d'):=vg z
          have z2:=As z1
          unfold jR at z1
          rw[z2]at z1
          dsimp only at z1
          rw[OE (Ov.mp z2).1]at z1;cases z1
         .exact ih (jR en i) y d' z
       exact key Lc _ hk d' q
  .rfl
 have evb:vl (benv own ixs (ba (Li++Lc) env))=gO own ixs (vl env):=by rw[Fq,jW]
 refine⟨λi n σ' H'=>n=ds.length-i/\i<=ds.length/\∃envb Gc β' acc accd,SR (Γ.jx (upd H1 Da (.lst [])) G2 (Da::B.toList) br B) B Gc H' σ' envb β'/\(envb=benv own ixs (ba (Li++Lc) env)\/∃d,fS t d (benv own ixs (ba (Li++Lc) env))=some envb)/\
   H' Da=some (.lst acc)/\cE Γ.K Gc acc accd/\accd.length<=i/\∃xs,iL t ft fe (gO own ixs (vl env)) (ds.drop i) β'=.ok xs β0/\accd++xs=xs0,
  ⟨ds.length,by simp,O2 _,_,G2,β1,[],[],Ib0,.inl rfl,av,.nil,O2 _,xs0,by rw[drop_zero];exact e0,rfl⟩,?_⟩
 rintro i n σ' H' ⟨rfl,hi',envb,Gc,β',acc,accd,Ib,eb,hacc,racc,lacc,xs,ec,exs⟩
 let⟨Io,mv,gD⟩:=I2.unblock hD Ib
 let⟨w1,w2⟩:=wk Gc H' i (s2.trans Ib.old) Ib.sub mv
 by_cases hlt:i<ds.length
 .let⟨go,yl⟩:=w1 hlt
  refine .inr ⟨go,λσ' H'=>∃envb Gc β' acc accd,SR (Γ.jx (upd H1 Da (.lst [])) G2 (Da::B.toList) br B) B Gc H' σ' envb β'/\(envb=benv own ixs (ba (Li++Lc) env)\/∃d,fS t d (benv own ixs (ba (Li++Lc) env))=some envb)/\
   H' Da=some (.lst acc)/\cE Γ.K Gc acc accd/\accd.length<=i+1/\∃xs,iL t ft fe (gO own ixs (vl env)) (ds.drop (i+1)) β'=.ok xs β0/\accd++xs=xs0,λσ2 H2 hh=>⟨ds.length-(i+1),by omega,rfl,hlt,hh⟩,λx H2 y=>?_⟩
  let⟨G3,d,x3,ed,rd⟩:=yl x H2 y
  have I3:=Ib.ext x3
  have ed':ds[i]=d:=by rw[N8 hlt]at ed;exact Option.some.inj ed
  rw[Rm hlt,ed']at ec
  unfold iL at ec
  cases ebv:sv t d (gO own ixs (vl env))with
  |none=>rw[ebv]at ec;cases ec
  |some vs1=>
   rw[ebv]at ec
   dsimp only at ec
   obtain⟨env1,eb1,ev1⟩:∃env1,fS t d (benv own ixs (ba (Li++Lc) env))=some env1/\vl env1=vs1:=by
    have:=GV t d (benv own ixs (ba (Li++Lc) env))
    rw[evb,ebv]at this
    cases q:fS t d (benv own ixs (ba (Li++Lc) env))with
    |none=>rw[q]at this;cases this
    |some env1=>rw[q]at this;exact⟨env1,rfl,Option.some.inj this⟩
   have eb2:fS t d envb=some env1:=by
    rcases eb with rfl|⟨d0,eb⟩
    .exact eb1
    .rw[BC eb];exact eb1
   have no1:zq env1:=A2 (uD _ _ _) eb1
   have a2:H2 Da=some (.lst acc):=x3.hh _ _ hacc
   refine⟨_,_,_,_,_,envb,G3,B,β',d,env1,I3,rd,eb2,λσ3 I4=>⟨_,_,_,_,_,hbo,env1,G3,B,β',I4,?_⟩⟩
   rw[ev1]
   cases et:ft vs1 β' with
   |exc c=>rw[et]at ec;cases ec
   |bad=>rw[et]at ec;cases ec
   |ok c β2=>
    rw[et]at ec
    intro G4 H4 I5 s4 m4
    rw[wg no1]at I5
    have a4:H4 Da=some (.lst acc):=m4.1 _ _ a2 q3
    cases c with
    |false=>
     exact uQ ⟨env1,G4,β2,acc,accd,I5,.inr ⟨d,eb1⟩,a4,racc.mono (x3.gg.trans s4),by omega,xs,ec,exs⟩
    |true=>
     refine vd ⟨_,_,_,_,_,hbo,env1,G4,B,β2,I5,?_⟩
     rw[ev1]
     have ec:((fe vs1 β2).okb λx β3=>(iL t ft fe (gO own ixs (vl env)) (ds.drop (i+1)) β3).okb λxs β4=>R.ok (x::xs) β4)=R.ok xs β0:=ec
     cases ee:fe vs1 β2 with
     |exc c=>rw[ee]at ec;cases ec
     |bad=>rw[ee]at ec;cases ec
     |ok dx β3=>
      rw[ee]at ec
      intro v G5 H5 I6 s5 m5 vo
      rw[wg no1]at I6
      have a5:H5 Da=some (.lst acc):=m5.1 _ _ a4 q3
      have ec:((iL t ft fe (gO own ixs (vl env)) (ds.drop (i+1)) β3).okb λxs β4=>R.ok (dx::xs) β4)=R.ok xs β0:=ec
      cases er:iL t ft fe (gO own ixs (vl env)) (ds.drop (i+1)) β3 with
      |exc c=>rw[er]at ec;cases ec
      |bad=>rw[er]at ec;cases ec
      |ok ys β4=>
       rw[er]at ec
       cases ec
       refine⟨acc,a5,by rw[racc.len];omega,env1,G5,β3,acc++[v],accd++[dx],?_,.inr ⟨d,eb1⟩,av,(racc.mono ((x3.gg.trans s4).trans s5)).snoc vo,by rw[OO];simp;omega,ys,er,by rw[<-exs,P5];rfl⟩
       refine I6.uY (Ol ..) (Mx.lst (show upd H1 Da (.lst []) Da=some (.lst [])from av)) (I2.sub.free hD) q3
 .have e:i=ds.length:=by omega
  subst e
  rw[List.drop_length]at ec
  cases ec
  rw[QD]at exs
  subst exs
  refine .inl ⟨w2 (Oc _),⟨acc,hacc⟩,h _ Gc H' Io ((s1.trans s2).trans Ib.old) (m1.trans mv) ⟨Da,rfl,jN m1 I1.boxThere hD,gD,acc,hacc,racc⟩⟩
def bU(hg:∀H0 G0 par br bx C ex s3 H3 pn,SG (jx X NB scope C ex s3 H3 pn) (Γ.jx H0 G0 par br bx) tg t)(C:Addr)(ex:List Addr)(s3:Shared)(H3:Hp)(pn:List (Addr×Obj)):PG (jx X NB scope C ex s3 H3 pn) tg (gU Γ t):=by
 rintro pins s σ H v u Q I r ⟨H0,G0,par,br,bx,q⟩
 exact hg H0 G0 par br bx C ex s3 H3 pn pins s σ H v u Q I r q
def ck(Lc:List Nat)(hc:X.calm=true)(S:dU X NB own ixs scope)(hLc:∀i,i∈Lc->Γ.br i=false)(hi:SI X Γ E tg iter fi Li .b)
  (hg:∀H0 G0 par br bx C ex s3 H3 pn,SG (jx X NB scope C ex s3 H3 pn) (Γ.jx H0 G0 par br bx) tg t)
  (ht:∀H0 G0 par br bx C ex s3 H3 pn,(∀j,Hz own ixs Lc j=true->br j=false)->Dj (jx X NB scope C ex s3 H3 pn) ifs (qT (Γ.jx H0 G0 par br bx) E0 ft Lt))
  (he:∀H0 G0 par br bx C ex s3 H3 pn,(∀j,Hz own ixs Lc j=true->br j=false)->SE (jx X NB scope C ex s3 H3 pn) (Γ.jx H0 G0 par br bx) E0 elt fe Le .v)
  (hs:∀x,foldedSetIterable iter X.env x=pure x:=by intro _;rfl) :
  SE X Γ E (.ListComp elt [⟨tg,iter,ifs,0⟩] scope pos) (aK own ixs t fi ft fe) (Li++Lc) .w:=by
 refine PE.post' (ya (tt:=tU Γ own ixs Lc ft Lt) (te:=eU Γ own ixs Lc fe Le) hc S hi (bU hg) (λC ex s3 H3 pn=>?_) (λC ex s3 H3 pn=>?_) hs) λσ H Q h=>Ih hLc h
 .rintro pins s σ H Q I ⟨H0,G0,par,br,bx,b,q⟩
  exact ht H0 G0 par br bx C ex s3 H3 pn b pins s σ H Q I q
 .rintro pins s σ H Q I ⟨H0,G0,par,br,bx,b,q⟩
  exact he H0 G0 par br bx C ex s3 H3 pn b pins s σ H Q I q
def jm{i:Nat}{y:Str}{py spos:Pos}(Lc:List Nat)(hc:X.calm=true)(S:dU X NB own ixs scope)(hLc:∀i,i∈Lc->Γ.br i=false)(hi:SI X Γ E tg iter fi Li .b)
  (hg:∀H0 G0 par br bx C ex s3 H3 pn,SG (jx X NB scope C ex s3 H3 pn) (Γ.jx H0 G0 par br bx) tg t)
  (ht:∀H0 G0 par br bx C ex s3 H3 pn,(∀j,Hz own ixs Lc j=true->br j=false)->Dj (jx X NB scope C ex s3 H3 pn) ifs (qT (Γ.jx H0 G0 par br bx) E0 ft Lt))
  (he:∀H0 G0 par br bx C ex s3 H3 pn,(∀j,Hz own ixs Lc j=true->br j=false)->SE (jx X NB scope C ex s3 H3 pn) (Γ.jx H0 G0 par br bx) E0 elt fe Le .v)
  (hN:X.N.Nodup) (hy:X.N[i]? =some y:=by rfl) (hl:X.env.scope.names.lookup y=some .local:=by rfl)
  (hsw:swapsWith (.ListComp elt [⟨tg,iter,ifs,0⟩] scope pos) (some (.Name y py)) spos.line X.env=pure true:=by rfl)
  (hs:∀x,foldedSetIterable iter X.env x=pure x:=by intro _;rfl) :
  SS X Γ E (.Assign [.Name y py] (.ListComp elt [⟨tg,iter,ifs,0⟩] scope pos) spos) (bq i (Li++Lc) (aK own ixs t fi ft fe)):=by
 refine PS.post (Dc (tt:=tU Γ own ixs Lc ft Lt) (te:=eU Γ own ixs Lc fe Le) hc S hi (bU hg) (λC ex s3 H3 pn=>?_) (λC ex s3 H3 pn=>?_) hN hy hl hsw hs) λN σ H ⟨env,G,B,β,I,o⟩=>?_
 .rintro pins s σ H Q I ⟨H0,G0,par,br,bx,b,q⟩
  exact ht H0 G0 par br bx C ex s3 H3 pn b pins s σ H Q I q
 .rintro pins s σ H Q I ⟨H0,G0,par,br,bx,b,q⟩
  exact he H0 G0 par br bx C ex s3 H3 pn b pins s σ H Q I q
 refine Ih hLc ⟨env,G,B,β,I,cF o λd β' k v G' H' I' s' m' vo=>?_⟩
 let⟨G2,I2,s2,r⟩:=I.letW I' vo
 exact k B G2 H' _ (I2.set' i r) (s'.trans s2)
end
def fin:SO->FR
 | .nx _ _=>.ok .none false
 | .rt d fr _=>.ok d fr
 | .exc c=>.exc c
 |_=>.bad
def A1(n:Nat)(ds:List D):En:=ds.map Sl.fz++List.replicate (n-ds.length) .no
def bc(n p:Nat)(m:SF):List D->FR:=λds=>if ds.length=p then fin (m (A1 n ds) 0)else .bad
abbrev Fx.fn(K:Frag)(H G:Hp)(ca:Str->Addr):Fx:=⟨K,H,G,[],ca,λ_=>false,none⟩
def SR.start{K:Frag}{H G:Hp}{ca:Str->Addr}{N:List Str}{vs:List V}{ds:List D}(s:ak G H)(r:cE K G vs ds)(hn:ds.length<=N.length):SR (Fx.fn K H G ca) none G H (start N vs) (A1 N.length ds) 0:=by
 have hl:=r.len
 refine⟨s,ak.refl _,λb _ h=>h,λb o h _=>Kt.of h,λb h=>(by cases h),λb h=>(by cases h),λb h=>(by cases h),?_,λi t e=>?_,λi j a d e h=>?_⟩
 ·unfold L2.start A1;simp;omega
 ·unfold A1 at e
  by_cases hi:i<ds.length
  ·rw[OG (by simpa using hi),Om,N8 hi]at e
   cases e
   obtain⟨x,hx,rx⟩:=r.at (N8 hi)
   refine⟨x,?_,rx⟩
   unfold L2.start
   rw[OG (by simpa[hl]using hi),Om,hx];rfl
  ·rw[OV (by simpa using hi),PZ]at e
   split at e
   ·cases e;trivial
   ·cases e
 ·unfold A1 at h
  have hm:=Oi h
  rcases Ox.mp hm with z|z
  ·obtain⟨_,_,z⟩:=Of.mp z;cases z
  ·have:=Ru z;cases this
section
variable {P:Program}{w:World}{K:Frag}{mg:Str->Option Value}{base:Heap}{ca:Str->Addr}
def aU{x qual:Str}{st:Stmt}{f:Addr}{fd:FuncData}{N ps:List Str}{k:Nat}{m:SF}(F:E8 K x qual st f fd)(S:aF N ps (au st))
  (hbody:∀(cdv:Value) (A:Around) (outer:List Env) (s:Shared) (H G:Hp) (E:XK),fY k (A.deeper (envOfC qual (au st) s.heap.objs.size f cdv))->Be (sZ (ue P w) P w K mg base N qual (au st) f cdv A outer s H E) (Fx.fn K H G ca) E (dr st) m) :
  gW P w K mg base (ue P w) (k+1) f fd ps (E7 K ca ps.length (bc N.length ps.length m)):=by
 have hpn:ps.length<=N.length:=by have:=congrArg List.length S.pre;rw[PL]at this;omega
 refine F.Ck S (λvs H Q E h=>?_) (λcdv A outer s H vs Q E hr h=>?_)
 .let⟨G,ds,sG,hl,r,_⟩:=h
  rw[r.len];exact hl
 .let⟨G,ds,sG,hl,r,h⟩:=h
  refine⟨_,hbody cdv A outer s H G E hr,?_⟩
  have I:=SR.start (ca:=ca) (N:=N) sG r (by omega)
  refine⟨_,G,none,0,I,?_⟩
  unfold bc at h
  rw[Od hl]at h
  have fin':∀{B G' H' σ env β},SR (Fx.fn K H G ca) B G' H' σ env β->ak H H':=λJ b o e=>J.keep b o e (λz=>by cases z)
  cases q:m (A1 N.length ds) 0 with
  |nx env β=>rw[q]at h;exact λB G' H' σ J s'=>h .non G' H' (fin' J) s' J.sub (λb h1 h2=>J.new b h1 h2) Rp.non
  |bk env β=>rw[q]at h;exact h.elim
  |ct env β=>rw[q]at h;exact h.elim
  |rt d fr β=>
   rw[q]at h
   refine λB G' H' σ env v J s' rv=>h v G' H' (fin' J) s' J.sub (λb h1 h2=>J.new b h1 h2) ?_
   cases fr with
   |true=>exact rv
   |false=>exact rv
  |exc c=>rw[q]at h;exact λH' kp=>h H' λb o e=>kp b o e (λz=>by cases z)
  |bad=>rw[q]at h;exact h.elim
def Fb{n:Nat}{F F':List D->FR}(h:∀ds,ds.length=n->F' ds≠.bad->F ds=F' ds){vs:List V}{H:Hp}{Q:VK}{E:XK}(q:E7 K ca n F' vs H Q E):E7 K ca n F vs H Q E:=by
 let⟨G,ds,s,hl,r,q⟩:=q
 refine⟨G,ds,s,hl,r,?_⟩
 by_cases hb:F' ds=.bad
 .rw[hb]at q;exact q.elim
 .rw[h ds hl hb];exact q
def cY.imp{x:Str}{ps:List Str}{k:Nat}{F F':List D->FR}(h:cY P w K mg base ca x ps k F)(i:∀ds,F' ds≠.bad->F ds=F' ds):cY P w K mg base ca x ps k F':=by
 let⟨f,fd,a,b,c,d⟩:=h.ex
 exact⟨⟨f,fd,a,b,c,d.imp λvs H Q E q=>Fb (λds _=>i ds) q⟩,λds hn=>h.len ds (by rw[i ds hn];exact hn)⟩
def aP{n p:Nat}{m:SF}(ds:List D)(h:bc n p m ds≠.bad):ds.length=p:=by
 unfold bc at h
 by_cases hl:ds.length=p
 .exact hl
 .rw[Oe hl]at h;exact absurd rfl h
end
section
variable {X:Cx}{Γ:Fx}{E:XK}{e a b c:Expr}{f fa fb:VF D}{L La Lb:List Nat}{md ma mb:Md}{pos apos cpos np:Pos}
def yF:Option Sl->Bool
 |some (.ow (.list _))=>true
 |_=>false
theorem vO{o:Option Sl}(h:yF o=true):∃ds,o=some (.ow (.list ds)):=by
 cases o with
 |none=>cases h
 |some s=>
  cases s with
  |ow d=>cases d with
   |list ds=>exact⟨ds,rfl⟩
   |_=>cases h
  |_=>cases h
def Kg(i:Nat)(env:En)(β:Int)(g:List D->Option (List D)):SO:=match env[i]? with
 |some (.ow (.list ds))=>(match g ds with
  |some es=>.nx (env.set i (.ow (.list es))) β
  |none=>.bad)
 |_=>.bad
def nY(i:Nat)(L:List Nat)(f:VF D):SF:=λenv β=>if yF env[i]? =true then toS (f (vl env) β) λd β'=>Kg i (ba L env) β' λds=>if ds.length<sizeLine then some (ds++[d])else none else .bad
def z5{Γ:Fx}{E:XK}{G:Hp}{N:Ends}{i:Nat}{env:En}{β:Int}{g:List D->Option (List D)}(h:so Γ E G N (Kg i env β g)):∃ds es,env[i]? =some (.ow (.list ds))/\g ds=some es/\so Γ E G N (.nx (env.set i (.ow (.list es))) β):=by
 unfold Kg at h
 split at h
 .rename_i ds q
  cases e:g ds with
  |none=>rw[e]at h;exact h.elim
  |some es=>rw[e]at h;exact⟨ds,es,q,e,h⟩
 .exact h.elim
def jK(i:Nat){x:Str}(hb:∀j,Γ.br j=false)(he:SE X Γ E e f L .v)(hN:X.N[i]? =some x:=by rfl)(hv:yc X.env.scope x:=by first|exact Or.inl rfl|exact Or.inr (Or.inl rfl)|exact Or.inr (Or.inr rfl))(hd:(x==("__debug__":Str))=false:=by decide)
  (hcd:(x==("__classdict__":Str))=false:=by decide)
  (hbase:attributeBase (.Name x np) "append" X.env (eval (.Name x np) X.env)=eval (.Name x np) X.env:=by rfl)
  (hfew:((backTo cpos (starEach [e] X.env)).all (λx=> !x.1)&&(backToKw cpos (keywordEach [] X.env)).all (λx=>x.1.isSome)
   && decide ([e].length+([]:List Keyword).length+(if([]:List Keyword).isEmpty then 0 else 1)<30))=true:=by rfl)
  (hline:(apos.endLine==cpos.line)=true:=by rfl) (hs:starEach [e] X.env=(false,eval e X.env)::starEach [] X.env:=by rfl)
  (hsw:swapsWith (.Call (.Attribute (.Name x np) "append" apos) [e] [] cpos) none pos.line X.env=pure false:=by rfl) :
  SS X Γ E (.Expr (.Call (.Attribute (.Name x np) "append" apos) [e] [] cpos) pos) (nY i L f):=by
 refine PS.post (nN (xj QW Rv Rw mi (fK hN hv hd hcd) (aQ he bC hs) hbase hfew hline hs rfl) hsw) λN σ H ⟨env,G,B,β,I,o⟩=>?_
 unfold nY at o
 by_cases hO:yF env[i]? =true
 case neg=>rw[Oe hO]at o;exact o.elim
 rw[Od hO]at o
 let⟨ds0,q0⟩:=vO hO
 let⟨p,h1,_,_,_,xs,h5,_⟩:=I.slot i _ q0
 refine⟨_,h1,.inl ⟨rfl,xs,.inl (.inl h5)⟩,⟨env,G,B,β,I,cF o λd β' k v G' H' I' s' m' vo=>?_⟩⟩
 let⟨ds,es,q,eg,k⟩:=z5 k
 by_cases hz:ds.length<sizeLine
 case neg=>rw[Oe hz]at eg;cases eg
 rw[Od hz]at eg
 cases eg
 let⟨p',g1,_,_,_,ys,g5,g6⟩:=I'.slot i _ q
 rw[h1]at g1;cases g1
 refine⟨p,ys,v,rfl,rfl,g5,by rw[g6.len];exact hz,?_⟩
 exact k B G' _ σ (I'.write hb q h1 λH2 e2 s2=>⟨_,e2,g6.snoc vo⟩) s'
def Inv.lstR{pins:List (Addr×Obj)}{σ:St}{H:Hp}{s:Shared}{l:Addr}{xs:List V}(I:Inv X pins σ H s)(hH:Rd H l (.lst xs)):xs.length<=sizeLine/\∃(its:List Value) (n:Nat),Vals xs its/\xs.length=its.length/\s.heap.get? l=some {cls:=.type "list",data:=.seq its.toArray n}:=by
 let⟨z,its,n,r,e⟩:=hH.ok I.hok
 exact⟨z,its,n,r,r.length,e⟩
end
section
variable {K:Frag}{X:Cx}
def wK{g:Int->Int->V}{gd:D->D->Option D}(h:∀dx dy d,gd dx dy=some d->∃i j,dx=.int i/\dy=.int j/\∀G,Rp K G (g i j) d):pV K (B8 g) gd .v:=by
 intro B G H x y dx dy d Q s hB bx by' e k
 obtain⟨i,j,rfl,rfl,r⟩:=h _ _ _ e
 obtain rfl:=bx.int
 obtain rfl:=by'.int
 exact⟨i,j,rfl,rfl,k _ G H (Ext.refl s) (r G)⟩
def Cy{C:Int->Int->Prop}{g:Int->Int->V}{gd:D->D->Option D}(h:∀dx dy d,gd dx dy=some d->∃i j,dx=.int i/\dy=.int j/\C i j/\∀G,Rp K G (g i j) d):pV K (rI C g) gd .v:=by
 intro B G H x y dx dy d Q s hB bx by' e k
 obtain⟨i,j,rfl,rfl,c,r⟩:=h _ _ _ e
 obtain rfl:=bx.int
 obtain rfl:=by'.int
 exact⟨i,j,rfl,rfl,c,k _ G H (Ext.refl s) (r G)⟩
def gI(c:Int->Int->Bool)(g:Int->Int->D):D->D->Option D
 | .int i,.int j=>if c i j=true then some (g i j)else none
 |_,_=>none
def yg(g:Int->Int->D):D->D->Option D
 | .int i,.int j=>some (g i j)
 |_,_=>none
def EU{c:Int->Int->Bool}{g:Int->Int->D}{dx dy d:D}(h:gI c g dx dy=some d):∃i j,dx=.int i/\dy=.int j/\c i j=true/\d=g i j:=by
 unfold gI at h
 split at h
 .split at h
  .cases h;exact⟨_,_,rfl,rfl,by assumption,rfl⟩
  .cases h
 .cases h
def ny{g:Int->Int->D}{dx dy d:D}(h:yg g dx dy=some d):∃i j,dx=.int i/\dy=.int j/\d=g i j:=by
 unfold yg at h
 split at h
 .cases h;exact⟨_,_,rfl,rfl,rfl⟩
 .cases h
def Di:D->D->Option D:=yg λi j=>.int (i-j)
def K3:pV K (B8 λi j=>.int (i-j)) Di .v:=wK λdx dy d h=>by obtain⟨i,j,rfl,rfl,rfl⟩:=ny h;exact⟨i,j,rfl,rfl,λ_=>.int _⟩
def Co:D->D->Option D:=gI (λ_ j=>decide (0<j)&&decide (j<1073741824)) λi j=>.int (i/j)
def Ff:pV K (rI FQ λi j=>.int (i/j)) Co .v:=Cy λdx dy d h=>by obtain⟨i,j,rfl,rfl,c,rfl⟩:=EU h;exact⟨i,j,rfl,rfl,by simpa[FQ]using c,λ_=>.int _⟩
def mS:D->D->Option D:=gI (λ_ j=>decide (0<j)) λi j=>.int (i%j)
def um:pV K (rI (λ_ j=>0<j) λi j=>.int (i%j)) mS .v:=Cy λdx dy d h=>by obtain⟨i,j,rfl,rfl,c,rfl⟩:=EU h;exact⟨i,j,rfl,rfl,by simpa using c,λ_=>.int _⟩
def Cp:D->D->Option D:=yg λi j=>.bool (decide (i<j))
def Hy:D->D->Option D:=yg λi j=>.bool (decide (i<=j))
def Kh:D->D->Option D:=yg λi j=>.bool (decide (j<i))
def Hs:pV K (B8 λi j=>.bl (decide (i<j))) Cp .v:=wK λdx dy d h=>by obtain⟨i,j,rfl,rfl,rfl⟩:=ny h;exact⟨i,j,rfl,rfl,λ_=>.bl _⟩
def JW:pV K (B8 λi j=>.bl (decide (i<=j))) Hy .v:=wK λdx dy d h=>by obtain⟨i,j,rfl,rfl,rfl⟩:=ny h;exact⟨i,j,rfl,rfl,λ_=>.bl _⟩
def MQ:pV K (B8 λi j=>.bl (decide (j<i))) Kh .v:=wK λdx dy d h=>by obtain⟨i,j,rfl,rfl,rfl⟩:=ny h;exact⟨i,j,rfl,rfl,λ_=>.bl _⟩
mutual
theorem AD:∀d:D,d.canLay0=true->Dl d=true
 | .none,_=>rfl
 | .bool _,_=>rfl
 | .int _,_=>rfl
 | .str _,_=>rfl
 | .list ds,h=>by simp only[PyData.canLay0]at h;simp only[Dl];exact rR ds h
 | .tuple ds,h=>by simp only[PyData.canLay0]at h;simp only[Dl];exact rR ds h
 | .dict _,h=>by simp[PyData.canLay0]at h
theorem rR:∀ds:List D,PyData.canLayAll0 ds=true->sN ds=true
 | [],_=>rfl
 |d::ds,h=>by
  simp only[PyData.canLayAll0,Oy]at h
  simp only[sN,Oy]
  exact⟨AD d h.1,rR ds h.2⟩
end
def uW{d:D}(h:SeqAt.shaped d=true):Dl d=true:=AD d (Qc h)
theorem AI:∀{ds:List D},(ds.all SeqAt.shaped)=true->sN ds=true
 | [],_=>rfl
 |d::ds,h=>by
  rw[Ri,Oy]at h
  simp only[sN,Oy]
  exact⟨uW h.1,AI h.2⟩
def cz(neg:Bool)(x y:D):Option D:=if(SeqAt.shaped x&&SeqAt.shaped y)=true then some (.bool (if neg then !PyData.eqv x y else PyData.eqv x y))else none
def du{neg:Bool}:pV K (Jk K neg) (cz neg) .v:=by
 intro B G H x y dx dy d Q s hB bx by' e k
 unfold cz at e
 split at e
 ·rename_i h
  rw[Oy]at h
  cases e
  exact⟨dx,dy,(bx.rpH s).rep (uW h.1),(by'.rpH s).rep (uW h.2),h.1,h.2,k _ G H (Ext.refl s) (.bl _)⟩
 ·cases e
def Bi(neg:Bool)(x y:D):Option D:=match mQ y with
 |some ds=>if(SeqAt.shaped x&&ds.all SeqAt.shaped)=true then some (.bool (if neg then !(ds.any λe=>PyData.eqv e x)else ds.any λe=>PyData.eqv e x))else none
 |none=>none
theorem kY.seq{B:Option Addr}{G H:Hp}{v:V}{d:D}{ds:List D}(h:kY K B G H v d)(e:mQ d=some ds)(s:ak G H):∃a xs,v=.ref a/\(gY K H a xs\/fF K H a xs)/\cE K G xs ds:=by
 cases d with
 |list l=>cases e;obtain⟨a,xs,e,q,r⟩:=h.list s;exact⟨a,xs,e,.inl (.inl q),r⟩
 |tuple l=>cases e;obtain⟨a,xs,e,q,r⟩:=h.tuple s;exact⟨a,xs,e,.inr q,r⟩
 |_=>cases e
theorem Dw{neg:Bool}:pV K (Ka K neg) (Bi neg) .v:=by
 intro B G H x y dx dy d Q s hB bx by' e k
 unfold Bi at e
 cases q:mQ dy with
 |none=>rw[q]at e;cases e
 |some ds=>
  rw[q]at e
  dsimp only at e
  split at e
  ·rename_i h
   rw[Oy]at h
   cases e
   obtain⟨a,xs,rfl,hq,r⟩:=by'.seq q s
   refine⟨a,xs,dx,ds,rfl,hq,(r.mono s).reps (AI h.2),(bx.rpH s).rep (uW h.1),h.1,λe he=>Pa.mp h.2 e he,k _ G H (Ext.refl s) (.bl _)⟩
  ·cases e
def yH:D->Bool
 | .none=>true
 |_=>false
theorem cE.ints{G:Hp}:∀ns:List Int,cE K G (ns.map V.int) (ns.map int)
 | []=>.nil
 |n::ns=>.cons (.int n) (cE.ints ns)
theorem yi.noNone{G:Hp}{kvs:List (Key×V)}{d:D}{r:List (D×D)}(h:yi K G kvs ((.none,d)::r)):False:=by
 generalize e:(PyData.none,d)::r=l at h
 cases h with
 | @one k x d' _=>
  injection e with e1 _
  injection e1 with e2 _
  cases k<;>cases e2
 | @cons k x xs d' ds _ _=>
  injection e with e1 _
  injection e1 with e2 _
  cases k<;>cases e2
theorem mX.noNone{G:Hp}{kvs:List (List Key×V)}{d:D}{r:List (D×D)}(h:mX K G kvs ((.none,d)::r)):False:=by
 generalize e:(PyData.none,d)::r=l at h
 cases h with
 |nil=>cases e
 | @cons k x xs d' ds _ _=>
  injection e with e1 _
  injection e1 with e2 _
  cases e2
def kY.scr{B:Option Addr}{G H:Hp}{v:V}{ds:List D}(h:kY K B G H v (.dict [(.none,.list ds)]))(s:ak G H):∃a xs,v=.ref a/\gY K H a xs/\cE K G xs ds:=by
 rcases h with h|⟨a,rfl,n,h⟩
 ·cases h with
  | @scr a ns q=>exact⟨a,_,rfl,s.seq q,cE.ints ns⟩
  |dK _ r=>exact r.noNone.elim
  |dT _ r=>exact r.noNone.elim
 ·rcases h with⟨_,_,r⟩|⟨_,_,r⟩
  ·exact r.noNone.elim
  ·exact r.noNone.elim
def bK:D->D->Option D
 | .list ds,.int i=>jw ds i
 | .tuple ds,.int i=>jw ds i
 | .str z,.int i=>if z.length<=sizeLine then(jw z.cps.toList i).map λc=>.str ⟨#[c]⟩else none
 | .dict [(.none,.list ds)],.int i=>jw ds i
 |_,_=>none
theorem uM{G:Hp}{xs:List V}{ds:List D}{i:Int}{d:D}(r:cE K G xs ds)(h:jw ds i=some d):∃x,jw xs i=some x/\Rp K G x d:=by
 unfold jw at h ⊢
 rw[r.len]
 cases e:AW ds.length i with
 |none=>rw[e]at h;cases h
 |some j=>rw[e]at h;exact r.at h
theorem b4:pV K (NC K) bK .v:=by
 intro B G H x y dx dy d Q s hB bx by' e k
 cases dx with
 |list ds=>
  cases dy with
  |int i=>
   obtain rfl:=by'.int
   obtain⟨a,xs,rfl,q,r⟩:=bx.list s
   obtain⟨v,ev,rv⟩:=uM r e
   exact .inl ⟨a,xs,i,v,rfl,rfl,.inl q,ev,k _ G H (Ext.refl s) rv⟩
  |_=>cases e
 |tuple ds=>
  cases dy with
  |int i=>
   obtain rfl:=by'.int
   obtain⟨a,xs,rfl,q,r⟩:=bx.tuple s
   obtain⟨v,ev,rv⟩:=uM r e
   exact .inr (.inl ⟨a,xs,i,v,rfl,rfl,q,ev,k _ G H (Ext.refl s) rv⟩)
  |_=>cases e
 |str z=>
  cases dy with
  |int i=>
   obtain rfl:=by'.int
   obtain rfl:=bx.str
   simp only[bK]at e
   split at e
   ·rename_i hz
    cases q:jw z.cps.toList i with
    |none=>rw[q]at e;cases e
    |some c=>rw[q]at e;cases e;exact .inr (.inr ⟨z,i,c,rfl,rfl,hz,q,k _ G H (Ext.refl s) (.str _)⟩)
   ·cases e
  |_=>cases e
 |none=>cases dy<;>cases e
 |bool b=>cases dy<;>cases e
 |int b=>cases dy<;>cases e
 |dict b=>
  obtain⟨ds,i,rfl,rfl,e⟩:∃ds i,b= [(.none,.list ds)]/\dy=.int i/\jw ds i=some d:=by
   unfold bK at e
   split at e
   ·contradiction
   ·contradiction
   ·contradiction
   ·rename_i h;cases h;exact⟨_,_,rfl,rfl,e⟩
   ·cases e
  obtain rfl:=by'.int
  obtain⟨a,xs,rfl,q,r⟩:=bx.scr s
  obtain⟨v,ev,rv⟩:=uM r e
  exact .inl ⟨a,xs,i,v,rfl,rfl,q,ev,k _ G H (Ext.refl s) rv⟩
def c5:D->Option D
 | .list ds=>some (.int ds.length)
 | .tuple ds=>some (.int ds.length)
 | .str z=>if z.length<=sizeLine then some (.int z.length)else none
 | .dict [(.none,.list ds)]=>some (.int ds.length)
 |_=>none
def Nt(K:Frag):List V->Hp->VK->Prop:=λxs H Q=>∃x n,xs= [x]/\Ln K x H n/\Q (.int n) H
def hJ:yJ K (λx=>Nt K [x]) c5 .v:=by
 intro B G H x dx d Q s hB bx e k
 unfold c5 at e
 split at e
 ·cases e;obtain⟨a,xs,rfl,q,r⟩:=bx.list s;exact⟨_,_,rfl,.inl ⟨xs,.inl q,r.len.symm⟩,k _ G H (Ext.refl s) (.int _)⟩
 ·cases e;obtain⟨a,xs,rfl,q,r⟩:=bx.tuple s;exact⟨_,_,rfl,.inr ⟨xs,q,r.len.symm⟩,k _ G H (Ext.refl s) (.int _)⟩
 ·obtain rfl:=bx.str
  split at e
  ·rename_i hz;cases e;exact⟨_,_,rfl,⟨hz,rfl⟩,k _ G H (Ext.refl s) (.int _)⟩
  ·cases e
 ·cases e;obtain⟨a,xs,rfl,q,r⟩:=bx.scr s;exact⟨_,_,rfl,.inl ⟨xs,q,r.len.symm⟩,k _ G H (Ext.refl s) (.int _)⟩
 ·cases e
def kn:D->Option D
 | .list ds=>some (.tuple ds)
 | .tuple ds=>some (.tuple ds)
 |_=>none
theorem nM:yJ K (λx H Q=>∃p ys,[x]= [.ref p]/\((gY K H p ys/\∀l,H l=none->Q (.ref l) (upd H l (.tup ys)))\/(fF K H p ys/\Q (.ref p) H))) kn .v:=by
 intro B G H x dx d Q s hB bx e k
 cases dx with
 |list ds=>
  cases e
  obtain⟨a,xs,rfl,q,r⟩:=bx.list s
  refine⟨a,xs,rfl,.inl ⟨.inl q,λl hl=>?_⟩⟩
  have x:=Ext.new s (o:=.tup xs) hl
  exact k _ _ _ x (.tup (.inl (.inl av)) (r.mono x.gg))
 |tuple ds=>
  cases e
  rcases bx with bx|⟨_,_,_,z⟩
  ·cases bx with
   | @tup a xs _ hq r=>exact⟨a,xs,rfl,.inr ⟨hq.grow s.grow,k _ G H (Ext.refl s) (.tup hq r)⟩⟩
  ·exact z.elim
 |_=>cases e
def HQ:D->Option D
 | .list ds=>some (.list ds)
 | .tuple ds=>some (.list ds)
 |_=>none
def IJ:yJ K (λx H Q=>∃p ys,[x]= [.ref p]/\(gY K H p ys\/fF K H p ys)/\∀l,H l=none->Q (.ref l) (upd H l (.lst ys))) HQ .w:=by
 intro B G H x dx d Q s hB bx e k
 obtain⟨ds,e1,rfl⟩:∃ds,mQ dx=some ds/\d=.list ds:=by
  cases dx<;>cases e<;>exact⟨_,rfl,rfl⟩
 obtain⟨a,xs,rfl,hq,r⟩:=bx.seq e1 s
 refine⟨a,xs,rfl,hq,λl hl=>?_⟩
 exact k _ _ _ (Ext.own s (o:=.lst xs) hl) ⟨l,rfl,hl,s.free hl,xs,av,r⟩
def lX:List D->Option (List Bool)
 | []=>some []
 | .bool b::ds=>(lX ds).map (b :: ·)
 |_=>none
theorem uc{G:Hp}:∀{ds:List D} {bs:List Bool} {xs:List V},lX ds=some bs->cE K G xs ds->xs=bs.map V.bl
 | [],bs,xs,e,r=>by cases e;cases r;rfl
 | .bool b::ds,bs,xs,e,r=>by
  cases r with
  |cons r1 r2=>
   cases r1
   simp only[lX]at e
   cases q:lX ds with
   |none=>rw[q]at e;cases e
   |some cs=>rw[q]at e;cases e;rw[uc q r2];rfl
 | .none::_,_,_,e,_=>by cases e
 | .int _::_,_,_,e,_=>by cases e
 | .str _::_,_,_,e,_=>by cases e
 | .list _::_,_,_,e,_=>by cases e
 | .tuple _::_,_,_,e,_=>by cases e
 | .dict _::_,_,_,e,_=>by cases e
def eT(f:List Bool->Bool):D->Option D
 | .list ds=>(lX ds).map λbs=>.bool (f bs)
 |_=>none
theorem mr{f:List Bool->Bool}:yJ K (λx=>yt K f [x]) (eT f) .v:=by
 intro B G H x dx d Q s hB bx e k
 cases dx with
 |list ds=>
  simp only[eT]at e
  cases q:lX ds with
  |none=>rw[q]at e;cases e
  |some bs=>
   rw[q]at e
   cases e
   obtain⟨a,xs,rfl,hq,r⟩:=bx.list s
   obtain rfl:=uc q r
   exact⟨a,bs,rfl,.inl hq,k _ G H (Ext.refl s) (.bl _)⟩
 |_=>cases e
def HJ:R2:=λx y H Q=>∃l b xs zs,x=.ref l/\y=.ref b/\Rd H l (.lst xs)/\Rd H b (.lst zs)/\xs.length+zs.length<=sizeLine/\∀p,H p=none->Q (.ref p) (upd H p (.lst (xs++zs)))
def j5:om X (binaryOp .Add) HJ:=by
 intro pins s σ H x y v u Q I rx ry h
 obtain⟨l,b,xs,zs,rfl,rfl,hH,hB,hz,q⟩:=h
 cases rx
 cases ry
 obtain⟨z,its,n,r,hl,e⟩:=I.lstR hH
 obtain⟨z2,its2,n2,r2,hl2,e2⟩:=I.lstR hB
 refine PySem.P.add_list e e2 ?_ (by rw[OK,OK];omega)
 have ea:its.toArray++its2.toArray=(its++its2).toArray:=by simp
 rw[ea]
 exact⟨.ref _,_,I.lnew (t':=s.toks) (r.append r2) (by rw[OO];omega),rfl,q _ I.fresh⟩
def iK:D->D->Option D
 | .list a,.list b=>if a.length+b.length<=sizeLine then some (.list (a++b))else none
 |_,_=>none
def qG:pV K HJ iK .w:=by
 intro B G H x y dx dy d Q s hB bx by' e k
 cases dx<;>cases dy<;>first|(cases e;done)|skip
 rename_i a b
 simp only[iK]at e
 split at e
 ·rename_i hz
  cases e
  obtain⟨p,xs,rfl,q1,r1⟩:=bx.list s
  obtain⟨p2,ys,rfl,q2,r2⟩:=by'.list s
  refine⟨p,p2,xs,ys,rfl,rfl,q1,q2,by rw[r1.len,r2.len];exact hz,λl hl=>?_⟩
  exact k _ _ _ (Ext.own s (o:=.lst (xs++ys)) hl) ⟨l,rfl,hl,s.free hl,_,av,r1.append r2⟩
 ·cases e
def b5:D->D->Option D:=yg λi j=>.int (i+j)
def gz:pV K (B8 λi j=>.int (i+j)) b5 .v:=wK λdx dy d h=>by obtain⟨i,j,rfl,rfl,rfl⟩:=ny h;exact⟨i,j,rfl,rfl,λ_=>.int _⟩
def cU:D->D->Option D:=gI (λi j=>(decide (-(2^64)<i)&&decide (i<2^64))||(decide (-(2^64)<j)&&decide (j<2^64))) λi j=>.int (i*j)
def kf:pV K (rI CP λi j=>.int (i*j)) cU .v:=Cy λdx dy d h=>by obtain⟨i,j,rfl,rfl,c,rfl⟩:=EU h;exact⟨i,j,rfl,rfl,by simpa[CP]using c,λ_=>.int _⟩
def yX:D->Option D
 | .int i=>some (.int (-i))
 |_=>none
theorem zZ:yJ K (rU λi=>.int (-i)) yX .v:=by
 intro B G H x dx d Q s hB bx e k
 cases dx with
 |int i=>cases e;obtain rfl:=bx.int;exact⟨i,rfl,k _ G H (Ext.refl s) (.int _)⟩
 |_=>cases e
def KO:D->String
 | .none=>"NoneType"
 | .bool _=>"bool"
 | .int _=>"int"
 | .str _=>"str"
 | .list _=>"list"
 | .tuple _=>"tuple"
 | .dict _=>"dict"
def Ea(d:D)(T:String):Bool:=KO d==T||(T=="int"&&KO d=="bool")
def i8:D->Bool
 | .dict ((.none,_)::_)=>true
 |_=>false
def ij(T:String)(d:D):Option D:=if i8 d=true then none else some (.bool (Ea d T))
def NQ(K:Frag)(H:Hp)(x:V)(t:String):Prop:=Gd K H x t\/(t="dict"/\∃a kvs ep,x=.ref a/\H a=some (.dT kvs ep))
def KL(K:Frag):List V->Hp->VK->Prop:=λxs H Q=>∃x T t b,xs= [x,.ty T]/\NQ K H x t/\PySem.W.kitOne K (.type t) (.type T)=some b/\Q (.bl b) H
def Ed:dq X (.builtin "isinstance") (KL X.K):=by
 intro pins s σ H xs us Q I r h
 obtain⟨x,T,t,b,rfl,ty,e,q⟩:=h
 rcases ty with ty|⟨rfl,a,kvs,ep,rfl,hk⟩
 ·exact EO pins s σ H _ us Q I r ⟨x,T,t,b,rfl,ty,e,q⟩
 ·obtain⟨u,c,rfl,rx,rc⟩:=vals2 r
  cases rc
  cases rx
  obtain⟨_,_,_,_,o,_,e2,ex,_⟩:=I.hok a _ hk
  exact Pg PySem.W.kitx_dict I.kIn ⟨o,e2,ex.1⟩ e (λz=>nomatch z) λtk=>⟨.bl b,H,I.tok tk,rfl,q⟩
theorem kY.ty{B:Option Addr}{G H:Hp}{v:V}{d:D}(h:kY K B G H v d)(s:ak G H)(n:i8 d=false):NQ K H v (KO d):=by
 cases d with
 |none=>obtain rfl:=h.none;exact .inl .non
 |bool b=>obtain rfl:=h.bool;exact .inl (.bl b)
 |int b=>obtain rfl:=h.int;exact .inl (.int b)
 |str b=>obtain rfl:=h.str;exact .inl (.str b)
 |list b=>obtain⟨a,xs,rfl,q,_⟩:=h.list s;exact .inl (.lst (.inl q))
 |tuple b=>obtain⟨a,xs,rfl,q,_⟩:=h.tuple s;exact .inl (.tup q)
 |dict b=>
  rcases h with h|⟨a,rfl,_,h⟩
  ·cases h with
   |scr _=>cases n
   |dK q _=>exact .inl (.dic (s _ _ q))
   |dT q _=>exact .inr ⟨rfl,_,_,_,rfl,s _ _ q⟩
  ·rcases h with⟨_,q,_⟩|⟨_,q,_⟩
   ·exact .inl (.dic q)
   ·exact .inr ⟨rfl,_,_,_,rfl,q⟩
theorem LX{d:D}{T:String}(hT:T∈ ["int","bool","str","list","tuple","dict"]):PySem.W.kitOne K (.type (KO d)) (.type T)=some (Ea d T):=by
 simp only[Oo,List.not_mem_nil,or_false]at hT
 cases d with
 |dict l=>rcases hT with rfl|rfl|rfl|rfl|rfl|rfl<;>rfl
 |none=>rcases hT with rfl|rfl|rfl|rfl|rfl|rfl<;>rfl
 |bool _=>rcases hT with rfl|rfl|rfl|rfl|rfl|rfl<;>rfl
 |int _=>rcases hT with rfl|rfl|rfl|rfl|rfl|rfl<;>rfl
 |str _=>rcases hT with rfl|rfl|rfl|rfl|rfl|rfl<;>rfl
 |list _=>rcases hT with rfl|rfl|rfl|rfl|rfl|rfl<;>rfl
 |tuple _=>rcases hT with rfl|rfl|rfl|rfl|rfl|rfl<;>rfl
def gZ{a:Expr}{fa:VF D}{La:List Nat}{ma:Md}{Γ:Fx}{E:XK}{pos p p2:Pos}(T:String){y:Str}(hT:T∈ ["int","bool","str","list","tuple","dict"])(hK:X.K=Γ.K)(hg:Gl X "isinstance")(hm:X.mg "isinstance"=none)(hgT:Gl X y)(hmT:X.mg y=none)(hvT:bootBuiltins y=some (.type T))(ha:SE X Γ E a fa La ma)
  (hnT:y≠"__name__":=by decide) (hdT:(y==("__debug__":Str))=false:=by decide)
  (he:starEach [a,.Name y p2] X.env=(false,eval a X.env)::starEach [.Name y p2] X.env:=by rfl) (he2:starEach [.Name y p2] X.env=(false,eval (.Name y p2) X.env)::starEach [] X.env:=by rfl) (hpl:(backTo pos (starEach [.Name y p2] X.env)).any (·.1)=false:=by rfl) :
  SE X Γ E (.Call (.Name "isinstance" p) [a,.Name y p2] [] pos) (f1 fa (ij T)) La .v:=by
 refine PE.post' (lg Ed hg hm (by decide +kernel) (aQ ha (aQ (Fj hgT hmT hvT (show RelV (.ty T) _ from rfl) hnT hdT) bC he2) he) (by decide) (by decide) he hpl) λσ H Q ⟨env,G,B,β,I,o⟩=>?_
 refine jv (r:=λx H1 Q=>KL X.K [x,.ty T] H1 Q) ?_ I o
 intro B G H x dx d Q s hB bx e k
 unfold ij at e
 split at e
 ·cases e
 ·rename_i hn
  cases e
  rw[hK]
  exact⟨x,T,KO dx,Ea dx T,rfl,bx.ty s (by simpa using hn),LX hT,k _ G H (Ext.refl s) (.bl _)⟩
def mP(fa fb fc:VF D)(g g':D->D->Option D):VF D:=λvs β=>(fa vs β).bnd λx β1=>(fb vs β1).bnd λy β2=>match g x y with
 |some (.bool true)=>(fc vs β2).bnd λz β3=>R.of (g' y z) β3
 |some (.bool false)=>.ok (.bool false) β2
 |_=>.bad
theorem xk{a b c:Expr}{fa fb fc:VF D}{ma mb mc:Md}{Γ:Fx}{E:XK}{pos:Pos}{op op':CmpOp}{r r':R2}{g g':D->D->Option D}(ho:om X (compareOp op) r)(ho':om X (compareOp op') r')(pr:pV Γ.K r g .v)(pr':pV Γ.K r' g' .v)(ha:SE X Γ E a fa [] ma)(hb:SE X Γ E b fb [] mb)(hc:SE X Γ E c fc [] mc)
  (hm:lastMarks [op,op'] [b,c]=false:=by with_unfolding_all rfl):SE X Γ E (.Compare a [op,op'] [b,c] pos) (mP fa fb fc g g') [] .v:=by
 refine PE.post' (D1 ho ho' ha hb hc hm) λσ H Q ⟨env,G,B,β,I,o⟩=>?_
 refine two (W:=λx y H2=>r x y H2 λz H3=>∃k,z=.bl k/\(if k=true then pT Γ E fc [] mc σ H3 λw' H4=>r' y w' H4 Q else Q (.bl false) H3)) I (o.bnd.imp λd1 β1 h=>h.bnd.imp λd2 β2 h x y G2 H2 I2 s2 m2 bx by'=>?_)
 obtain⟨cb,ec,h⟩:∃cb,g d1 d2=some (.bool cb)/\Out Γ E (if cb=true then(fc (vl env) β2).bnd λz β3=>R.of (g' d2 z) β3 else .ok (.bool false) β2) λd β'=>∀v G' H',SR Γ B G' H' σ (ba [] env) β'->ak G G'->iQ B H H'->VO Γ.K B H G' H' .v d v->Q v H':=by
  split at h
  ·rename_i q;exact⟨true,q,by rw[Od rfl];exact h⟩
  ·rename_i q;exact⟨false,q,by rw[Oe OW];exact h⟩
  ·exact h.elim
 refine pr B G2 H2 x y d1 d2 _ _ I2.sub I2.boxThere bx by' ec λv G' H' x' vo=>?_
 cases vo
 refine⟨cb,rfl,?_⟩
 have I3:=I2.ext x'
 cases cb with
 |false=>rw[Oe OW]at h;exact uQ (h _ G' H' I3 (s2.trans x'.gg) (m2.trans (x'.mov B)) (.bl false))
 |true=>
  rw[Od rfl]at h
  refine vd ⟨env,G',B,β2,I3,h.bnd.imp λd3 β3 h z G4 H4 I4 s4 m4 vz=>?_⟩
  obtain⟨d,e,k⟩:=h.of
  refine pr' B G4 H4 y z d2 d3 d Q I4.sub I4.boxThere (by'.mono (x'.gg.trans s4) ((x'.mov B).trans m4)) (vz.brw I3.boxThere) e λv G5 H5 x5 vo=>?_
  exact k v G5 H5 (I4.ext x5) (((s2.trans x'.gg).trans s4).trans x5.gg) (((m2.trans (x'.mov B)).trans m4).trans (x5.mov B)) vo
end
def fY.u1{k:Nat}{A:Around}(r:fY k A):A.units+100<cLine:=by have:=r.un;omega
def NP(N:List Str)(sc:Scope)(NB:List Str)(own:Nat)(ixs:List Nat)(scope:Scope):Bool:=
 decide (scope.kind=.function)&&(scope.names.all λy=>decide (scope.names.lookup y.1=some y.2)) &&
 (scope.names.all λy=>decide (y.2=.free->(sc.names.lookup y.1=some .cell\/sc.names.lookup y.1=some .free)))&&decide NB.Nodup&&decide (NB.length=own+ixs.length) &&
 ((List.range ixs.length).all λk=>decide (NB[own+k]? =N[ixs.getD k 0]?)&&(match NB[own+k]? with|some x=>decide ((x,NameKind.free)∈scope.names)|none=>true))
def bP{X:Cx}{NB:List Str}{own:Nat}{ixs:List Nat}{scope:Scope}(h:NP X.N X.env.scope NB own ixs scope=true):dU X NB own ixs scope:=by
 unfold NP at h
 simp only[Oy,Pa,OB,OI]at h
 let⟨⟨⟨⟨⟨h1,h3⟩,h4⟩,h5⟩,h6⟩,h7⟩:=h
 refine⟨h1,h3,h4,h5,h6,λk hk=>⟨(h7 k hk).1,λx hx=>?_⟩⟩
 have:=(h7 k hk).2
 rw[hx]at this
 simpa using this
section
variable {X:Cx}{Γ:Fx}{E:XK}{e a b c:Expr}{f fa fb fc:VF D}{L La Lb:List Nat}{md ma mb mc:Md}{pos:Pos}{K:Frag}
theorem Iw{B:Option Addr}{G H:Hp}{x:V}{dx:D}(bx:kY K B G H x dx)(s:ak G H):decide (x=.non)=yH dx:=by
 cases dx with
 |none=>obtain rfl:=bx.none;rfl
 |bool b=>obtain rfl:=bx.bool;rfl
 |int b=>obtain rfl:=bx.int;rfl
 |str b=>obtain rfl:=bx.str;rfl
 |list b=>obtain⟨a,xs,rfl,_⟩:=bx.list s;rfl
 |tuple b=>obtain⟨a,xs,rfl,_⟩:=bx.tuple s;rfl
 |dict b=>
  rcases bx with bx|⟨a,rfl,_⟩
  .cases bx<;>rfl
  .rfl
def tN(fa:VF D)(neg:Bool):VF Bool:=λvs β=>(fa vs β).bnd λx β1=>.ok (if neg then !yH x else yH x) β1
def AY{j pos'}(ha:SE X Γ E a fa La ma):yx X Γ E (.Compare a [.IsNot] [.Constant .none j pos'] pos) (tN fa true) La:=by
 refine PT.post (J5 (GA ha)) λσ H Q ⟨env,G,B,β,I,o⟩=>?_
 refine⟨env,G,B,β,I,o.bnd.imp λd1 β1 h x G1 H1 I1 s1 m1 vx=>⟨!yH d1,?_,h G1 H1 I1 s1 m1⟩⟩
 rw[Iw (vx.brw I.boxThere) I1.sub]
def Ja:pV K (λx y H Q=>∃i j,[x,y]= [.int i,.int j]/\Q (.int (if j>i then j else i)) H) (yg λi j=>.int (if j>i then j else i)) .v:=by
 intro B G H x y dx dy d Q s hB bx by' e k
 obtain⟨i,j,rfl,rfl,rfl⟩:=ny e
 obtain rfl:=bx.int
 obtain rfl:=by'.int
 exact⟨i,j,rfl,k _ G H (Ext.refl s) (.int _)⟩
def J6:pV K (λx y H Q=>∃i j,[x,y]= [.int i,.int j]/\Q (.int (if j<i then j else i)) H) (yg λi j=>.int (if j<i then j else i)) .v:=by
 intro B G H x y dx dy d Q s hB bx by' e k
 obtain⟨i,j,rfl,rfl,rfl⟩:=ny e
 obtain rfl:=bx.int
 obtain rfl:=by'.int
 exact⟨i,j,rfl,k _ G H (Ext.refl s) (.int _)⟩
end
inductive FB where
 |ok (d:D) (fresh:Bool) (β:Int)
 |bad
def LN(K:Frag)(n:Nat)(F:List D->Int->FB):Sp:=λvs H Q _=>∃b rest G ds β,vs=.ref b::rest/\H b=some (.lst [.int β])/\G b=none/\ak G H/\ds.length=n/\cE K G rest ds/\match F ds β with
 | .ok d fr β'=>∀v G' H',iQ (some b) H H'->H' b=some (.lst [.int β'])->ak G G'->ak G' H'->(∀c,Mx H c->G c=none->G' c=none)->FV K H G' H' fr d v->Q v H'
 | .bad=>False
structure nO(P:Program)(w:World)(K:Frag)(mg:Str->Option Value)(base:Heap)(x:Str)(ps:List Str)(k:Nat)(F:List D->Int->FB):Prop where
 ex:∃f fd,mg x=some (.ref f)/\PySem.W.keepIn K (.ref f)=true/\Binds K fd ps []/\gW P w K mg base (ue P w) k f fd ps (LN K (ps.length-1) F)
 len:∀ds β,F ds β≠.bad->ds.length=ps.length-1
def ym(vs:List Nv)(i:Nat):Bool:=match vs[i]? with
 |some .bx=>true
 |_=>false
def mE(i:Nat)(F:List D->Int->FB)(fr:VF (List D)):VF D:=λvs β=>if ym vs i=true then(fr vs β).bnd λds β1=>match F ds β1 with
 | .ok d _ β2=>.ok d β2
 | .bad=>.bad else .bad
def MN(i:Nat)(F:List D->Int->FB)(fr:VF (List D)):VF D:=λvs β=>if ym vs i=true then(fr vs β).bnd λds β1=>match F ds β1 with
 | .ok d true β2=>.ok d β2
 |_=>.bad else .bad
section
variable {X:Cx}{Γ:Fx}{E:XK}{e a b c:Expr}{f fa fb fc:VF D}{L La Lb:List Nat}{md ma mb mc:Md}{pos:Pos}{K:Frag}{es:List Expr}{fr:VF (List D)}
def FY{env:En}{i:Nat}(h:ym (vl env) i=true):env[i]? =some .bx:=by
 unfold ym at h
 split at h
 .exact Ky (by assumption)
 .cases h
def Hk{env:En}{i j:Nat}{d:D}(h:(jR env i)[j]? =some (.br d)):env[j]? =some (.br d):=by
 unfold jR at h
 split at h
 .rename_i d' e
  by_cases z:i=j
  .subst z
   rw[OE (Ov.mp e).1]at h;cases h
  .rw[Oq z]at h;exact h
 .exact h
theorem JN{L:List Nat}{env:En}{j:Nat}{d:D}(h:(ba L env)[j]? =some (.br d)):env[j]? =some (.br d):=by
 unfold ba at h
 induction L generalizing env with
 |nil=>exact h
 |cons i L ih=>exact Hk (ih h)
def SR.calledB{p:Addr}{β β':Int}{G1 H1 G2 H2:Hp}{σ:St}{env:En}(I1:SR Γ (some p) G1 H1 σ env β)(h:iQ (some p) H1 H2)(hp:H2 p=some (.lst [.int β']))(g:ak G1 G2)(s:ak G2 H2)(n:∀b,Mx H1 b->G1 b=none->G2 b=none):SR Γ (some p) G2 H2 σ env β':=by
 let⟨b1,b2,b3⟩:=I1.box p rfl
 refine⟨s,I1.old.trans g,λb n1 n2=>n b (I1.thereM n1) (I1.new b n1 n2),λb o e np=>zu (I1.keep b o e np) h λz=>?_,λb hb=>?_,I1.fix,λb e=>?_,I1.len,λi t e=>?_,I1.sep⟩
 .cases z
  rcases b3 with b3|b3
  .exact np b3
  .rw[e]at b3;cases b3
 .by_cases z:p=b
  .subst z;exact Mx.lst hp
  .exact (I1.pin b hb).same λo q=>h.1 b o q λy=>z (Option.some.inj y)
 .cases e
  exact⟨hp,n p (Mx.lst b1) b2,b3⟩
 .have q:=I1.slot i t e
  cases t with
  |no=>trivial
  |fz d=>let⟨v,h1,h2⟩:=q;exact⟨v,h1,h2.mono g⟩
  |ow d=>
   let⟨c,h1,h2,h3,h4,h5⟩:=q
   exact⟨c,h1,h2,n c h5.mx h3,h4,h5.mono g λo q=>h.1 c o q h4⟩
  |bx=>exact q
  |br d=>let⟨b1,c,h1,h4,hpp,h5⟩:=q;exact⟨b1,c,h1,h4,hpp,h5.mono g λo q=>h.1 c o q h4⟩
theorem GP{F:List D->Int->FB}{ps:List Str}{Q:VK}{B:Option Addr}{G H:Hp}{σ:St}{env:En}{β:Int}{i:Nat}{p:Addr}(I:SR Γ B G H σ env β)(hK:X.K=Γ.K)(hp:B=some p){wv:Bool}
  (h:Out Γ E (fr (vl env) β) λds β1=>Out Γ E (match F ds β1 with
   | .ok d true β2=>.ok d β2
   | .ok d false β2=>if wv=true then .bad else .ok d β2
   | .bad=>.bad) λd β'=>∀v G' H',SR Γ B G' H' σ (ba L env) β'->ak G G'->iQ B H H'->VO Γ.K B H G' H' (if wv=true then .w else .v) d v->Q v H') (hl:∀ds β,F ds β≠.bad->ds.length=ps.length-1) :
  aT Γ E fr L σ H λvs H1=>LN X.K (ps.length-1) F (.ref p::vs) H1 Q E:=by
 subst hp
 refine⟨env,G,_,β,I,h.imp λds β1 k vs G1 H1 I1 s1 m1 r=>?_⟩
 let⟨b1,b2,b3⟩:=I1.box p rfl
 refine⟨p,vs,G1,ds,β1,rfl,b1,b2,I1.sub,hl ds β1 λz=>by rw[z]at k;exact k,by rw[hK];exact r,?_⟩
 cases q:F ds β1 with
 |bad=>rw[q]at k;exact k
 |ok d fr' β2=>
  rw[q]at k
  intro v G' H' hh hb hg hs hn fv
  have I2:=I1.calledB hh hb hg hs hn
  cases fr' with
  |true=>
   obtain⟨c,rfl,p1,p2,p3⟩:∃a,v=.ref a/\H1 a=none/\G' a=none/\Own X.K G' H' a d:=fv
   rw[hK]at p3
   have hp:=jN m1 I1.boxThere p1
   cases wv with
   |true=>exact k _ G' H' I2 (s1.trans hg) (m1.trans hh) ⟨c,rfl,hp,p2,p3⟩
   |false=>
    let⟨q1,q2,q3,q4⟩:=I1.fresh p1
    let⟨G3,I3,s3,r3⟩:=I2.letIn q1 p2 q3 q4 p3
    exact k _ G3 H' I3 ((s1.trans hg).trans s3) (m1.trans hh) r3
  |false=>
   cases wv with
   |true=>exact k.elim
   |false=>
    have fv:Rp X.K G' v d:=fv
    rw[hK]at fv
    exact k _ G' H' I2 (s1.trans hg) (m1.trans hh) fv
theorem JX{F:List D->Int->FB}{ps:List Str}{Q:VK}{i:Nat}{σ:St}{H:Hp}(hK:X.K=Γ.K){wv:Bool}(hl:∀ds β,F ds β≠.bad->ds.length=ps.length-1)(h:pT Γ E (if wv=true then MN i F fr else mE i F fr) L (if wv=true then .w else .v) σ H Q) :
  FC i σ H λx H1=>aT Γ E fr L σ H1 λvs H2=>LN X.K (ps.length-1) F (x::vs) H2 Q E:=by
 let⟨env,G,B,β,I,o⟩:=h
 have hi:ym (vl env) i=true:=by
  by_cases hi:ym (vl env) i=true
  .exact hi
  .exfalso
   cases wv with
   |true=>simp only[O9]at o;unfold MN at o;rw[Oe hi]at o;exact o
   |false=>simp only[Ow,OY]at o;unfold mE at o;rw[Oe hi]at o;exact o
 let⟨p,e1,e2⟩:=I.slot i _ (FY hi)
 refine⟨.ref p,e1,GP (i:=i) I hK e2 (wv:=wv) ?_ hl⟩
 cases wv with
 |true=>
  simp only[O9]at o ⊢
  unfold MN at o
  rw[Od hi]at o
  refine o.bnd.imp λds β1 h=>?_
  cases q:F ds β1 with
  |bad=>rw[q]at h;exact h
  |ok d b β2=>rw[q]at h;cases b<;>exact h
 |false=>
  simp only[Ow,OY]at o ⊢
  unfold mE at o
  rw[Od hi]at o
  refine o.bnd.imp λds β1 h=>?_
  cases q:F ds β1 with
  |bad=>rw[q]at h;exact h
  |ok d b β2=>rw[q]at h;cases b<;>exact h
def lq{x y:Str}{ps:List Str}{k:Nat}{F:List D->Int->FB}{p np:Pos}(i:Nat)(hf:nO X.prog X.w X.K X.mg X.base x ps k F)(hr:fY k X.A)(hx:Passes (ue X.prog X.w) X E)(hK:X.K=Γ.K)(hg:Gl X x)(ha:SA X Γ E es fr L)(hN:X.N[i]? =some y:=by rfl)(hv:yc X.env.scope y:=by first|exact Or.inl rfl|exact Or.inr (Or.inl rfl)|exact Or.inr (Or.inr rfl))(hd:(y==("__debug__":Str))=false:=by decide)
  (hcd:(y==("__classdict__":Str))=false:=by decide) (hdb:(x==("__debug__":Str))=false:=by decide)
  (he:starEach (.Name y np::es) X.env=(false,eval (.Name y np) X.env)::starEach es X.env:=by rfl) (hpl:(backTo pos (starEach es X.env)).any (·.1)=false:=by rfl):SE X Γ E (.Call (.Name x p) (.Name y np::es) [] pos) (mE i F fr) L .v:=by
 let⟨f,fd,hm,hk,hb,hF⟩:=hf.ex
 refine PE.post' (ox hF hr hg hm hk hb .nil hx (aQ (fK hN hv hd hcd) ha he) hdb he hpl) λσ H Q h=>?_
 have:=JX (wv:=false) hK hf.len (by simpa using h)
 show FC i σ H λx H1=>aT Γ E fr L σ H1 λvs H2=>LN X.K (ps.length-1) F ((x::vs)++[]) H2 Q E
 simpa using this
def Dr:D->Option Int
 | .list [.int z]=>some z
 |_=>none
def Gj{d:D}{z:Int}(h:Dr d=some z):d=.list [.int z]:=by
 unfold Dr at h
 split at h
 .cases h;rfl
 .cases h
def N6(f0:VF D)(F:List D->Int->FB)(n:Int):VF D:=λvs β=>(f0 vs β).bnd λd0 β1=>match Dr d0 with
 |some z=>(match F [.int n] z with
  | .ok d _ _=>.ok d β1
  | .bad=>.bad)
 |none=>.bad
def tu(env:En):En:=env.map λs=>match s with
 | .bx=>.no
 |s=>s
theorem CH{env:En}{i:Nat}{s:Sl}(h:(tu env)[i]? =some s)(n:s≠.no):env[i]? =some s/\s≠.bx:=by
 unfold tu at h
 rw[Om]at h
 cases e:env[i]? with
 |none=>rw[e]at h;cases h
 |some t=>
  rw[e]at h
  have h:=Option.some.inj h
  cases t with
  |bx=>exact absurd h.symm n
  |no=>exact absurd h.symm n
  |fz d=>subst h;exact⟨rfl,λz=>by cases z⟩
  |ow d=>subst h;exact⟨rfl,λz=>by cases z⟩
  |br d=>subst h;exact⟨rfl,λz=>by cases z⟩
def Ae(i:Nat)(L:List Nat)(f:VF D):SF:=λenv β=>toS (f (vl env) β) λd _=>match Dr d with
 |some z=>.nx ((tu (ba L env)).set i .bx) z
 |none=>.bad
theorem FE{i:Nat}{x:Str}{pos':Pos}(hbx:Γ.bx=none)(he:SE X Γ E e f L .w)(hN:X.N.Nodup)(hi:X.N[i]? =some x:=by rfl)(hx:Loc X.env.scope x:=by first|exact Or.inl rfl|exact Or.inr rfl)(hs:swapsWith e (some (.Name x pos')) pos.line X.env=pure false:=by rfl)(hf:X.fn x=true\/X.env.scope.names.lookup x=some .local:=by first|exact .inl rfl|exact .inr rfl|assumption) :
  SS X Γ E (.Assign [.Name x pos'] e pos) (Ae i L f):=by
 refine PS.post (m6 hN hi hx he hs hf) λN σ H ⟨env,G,B,β,I,o⟩=>⟨env,G,B,β,I,cF o λd β' k v G' H' I' s' m' vo=>?_⟩
 cases q:Dr d with
 |none=>rw[q]at k;exact k.elim
 |some z=>
  rw[q]at k
  obtain rfl:=Gj q
  obtain⟨p,rfl,h1,h2,xs,h3,r⟩:=vo
  have hx2:H' p=some (.lst [.int z]):=by
   cases r with
   |cons r1 r2=>
    cases r1
    cases r2
    exact h3
  let⟨q1,q2,q3,q4⟩:=I.fresh h1
  refine k (some p) G' H' _ ⟨I'.sub,I'.old,I'.new,I'.keep,I'.pin,λb e=>(by rw[hbx]at e;cases e),λb e=>?_,?_,λj t e=>?_,λj j' c d1 d2 e1 e2 e3 e4=>?_⟩ s'
  .cases e;exact⟨hx2,h2,.inr q1⟩
  .rw[Pp,Pp];unfold tu;rw[Ob];exact I'.len
  .by_cases hj:j=i
   .subst hj
    by_cases hl:j<(tu (ba L env)).length
    .rw[OE hl]at e
     cases e
     refine⟨p,?_,rfl⟩
     rw[OE]
     rw[I'.len];unfold tu at hl;simpa using hl
    .rw[PH (by rw[Pp];omega)]at e;cases e
   .rw[Oq (Ne.symm hj)]at e ⊢
    by_cases hn:t=.no
    .subst hn;trivial
    .let⟨e1,nb⟩:=CH e hn
     have w:=I'.slot j t e1
     cases t with
     |no=>trivial
     |fz d=>exact w
     |bx=>exact absurd rfl nb
     |ow d=>
      let⟨a',g1,g2,g3,g4,g5⟩:=w
      exact⟨a',g1,g2,g3,λy=>q4 j d (vg e1) (by cases y;exact g1),g5⟩
     |br d=>
      let⟨b1,a',g1,g4,hpp,g5⟩:=w
      have e0:env[j]? =some (.br d):=JN e1
      let⟨_,a2,f1,_,_,f5⟩:=I.slot j _ e0
      rw[g1]at f1;cases f1
      let⟨o,ho⟩:=f5.obj
      exact⟨b1,a',g1,λy=>(by cases y;rw[h1]at ho;cases ho),hpp,g5⟩
  .have back:∀{j:Nat} {d1:D},((tu (ba L env)).set i Sl.bx)[j]? =some (.ow d1)->j≠i/\(ba L env)[j]? =some (.ow d1):=λ{j d1} e=>by
    by_cases hj:j=i
    .subst hj
     by_cases hl:j<(tu (ba L env)).length
     .rw[OE hl]at e;cases e
     .rw[PH (by rw[Pp];omega)]at e;cases e
    .rw[Oq (Ne.symm hj)]at e
     exact⟨hj,(CH e (λy=>by cases y)).1⟩
   let⟨n1,w1⟩:=back e1
   let⟨n2,w2⟩:=back e2
   rw[Oq (Ne.symm n1)]at e3
   rw[Oq (Ne.symm n2)]at e4
   exact I'.sep j j' c d1 d2 w1 w2 e3 e4
end
section
variable {P:Program}{w:World}{K:Frag}{mg:Str->Option Value}{base:Heap}{ca:Str->Addr}
def Ce:SO->FB
 | .nx _ β=>.ok .none false β
 | .rt d fr β=>.ok d fr β
 |_=>.bad
def zt(n:Nat)(ds:List D):En:=.bx::ds.map Sl.fz++List.replicate (n-1-ds.length) .no
def sU(n p:Nat)(m:SF):List D->Int->FB:=λds β=>if ds.length=p then Ce (m (zt n ds) β)else .bad
abbrev Fx.fb(K:Frag)(H G:Hp)(ca:Str->Addr)(b:Addr):Fx:=⟨K,H,G,[b],ca,λ_=>false,some b⟩
def SR.startB{H G:Hp}{N:List Str}{b:Addr}{vs:List V}{ds:List D}{β:Int}(s:ak G H)(hb:H b=some (.lst [.int β]))(gb:G b=none)(r:cE K G vs ds)(hn:ds.length+1<=N.length):SR (Fx.fb K H G ca b) (some b) G H (L2.start N (.ref b::vs)) (zt N.length ds) β:=by
 have hl:=r.len
 refine⟨s,ak.refl _,λc _ h=>h,λc o h _=>Kt.of h,λc h=>?_,λc h=>h,λc h=>?_,?_,λi t e=>?_,λi j a d e h=>?_⟩
 .have:c=b:=by simpa using h
  subst this;exact Mx.lst hb
 .cases h;exact⟨hb,gb,.inl (by simp)⟩
 .unfold L2.start zt;simp;omega
 .cases i with
  |zero=>
   unfold zt at e
   cases e
   exact⟨b,rfl,rfl⟩
  |succ i=>
   unfold zt at e
   have e:(ds.map Sl.fz++List.replicate (N.length-1-ds.length) Sl.no)[i]? =some t:=by simpa using e
   by_cases hi:i<ds.length
   .rw[OG (by simpa using hi),Om,N8 hi]at e
    cases e
    let⟨x,hx,rx⟩:=r.at (N8 hi)
    refine⟨x,?_,rx⟩
    unfold L2.start
    have hi':i<vs.length:=by rw[hl];exact hi
    rw[OG (by simp;exact hi'),Om,List.getElem?_cons_succ,hx];rfl
   .rw[OV (by simpa using hi),PZ]at e
    split at e
    .cases e;trivial
    .cases e
 .unfold zt at h
  have hm:=Oi h
  rcases Oo.mp hm with z|hm
  .cases z
  rcases Ox.mp hm with z|z
  .let⟨_,_,z⟩:=Of.mp z;cases z
  .have:=Ru z;cases this
def rY{x qual:Str}{st:Stmt}{f:Addr}{fd:FuncData}{N:List Str}{ps:List Str}{k:Nat}{m:SF}(F:E8 K x qual st f fd)(S:aF N ps (au st))(hp:1<=ps.length)
  (hbody:∀(cdv:Value) (A:Around) (outer:List Env) (s:Shared) (H G:Hp) (b:Addr) (E:XK),fY k (A.deeper (envOfC qual (au st) s.heap.objs.size f cdv))->Be (sZ (ue P w) P w K mg base N qual (au st) f cdv A outer s H E) (Fx.fb K H G ca b) E (dr st) m) :
  gW P w K mg base (ue P w) (k+1) f fd ps (LN K (ps.length-1) (sU N.length (ps.length-1) m)):=by
 have hpn:ps.length<=N.length:=by have:=congrArg List.length S.pre;rw[PL]at this;omega
 refine F.Ck S (λvs H Q E h=>?_) (λcdv A outer s H vs Q E hr h=>?_)
 .obtain⟨b,rest,G,ds,β,rfl,hb,gb,sG,hl,r,_⟩:=h
  rw[ON,r.len];omega
 .obtain⟨b,rest,G,ds,β,rfl,hb,gb,sG,hl,r,h⟩:=h
  refine⟨_,hbody cdv A outer s H G b E hr,?_⟩
  have I:=SR.startB (ca:=ca) (N:=N) sG hb gb r (by omega)
  refine⟨_,G,some b,β,I,?_⟩
  unfold sU at h
  rw[Od hl]at h
  have fin':∀{B G' H' σ env β},SR (Fx.fb K H G ca b) B G' H' σ env β->iQ (some b) H H'/\H' b=some (.lst [.int β]):=λJ=>by
   have e:=J.fix b rfl
   have k:∀c o,H c=some o->some b≠some c->Kt _ c o:=λc o ec n=>J.keep c o ec λz=>n (show some b=some c by rw[show c=b by simpa using z])
   exact⟨⟨k,λc o u ec=>k c _ ec λz=>by cases z;rw[hb]at ec;cases ec⟩,(J.box b e).1⟩
  cases q:m (zt N.length ds) β with
  |nx env β'=>rw[q]at h;exact λB G' H' σ J s'=>h .non G' H' (fin' J).1 (fin' J).2 s' J.sub (λc h1 h2=>J.new c h1 h2) Rp.non
  |bk env β'=>rw[q]at h;exact h.elim
  |ct env β'=>rw[q]at h;exact h.elim
  |rt d fr β'=>
   rw[q]at h
   refine λB G' H' σ env v J s' rv=>h v G' H' (fin' J).1 (fin' J).2 s' J.sub (λc h1 h2=>J.new c h1 h2) ?_
   cases fr with
   |true=>exact rv
   |false=>exact rv
  |exc c=>rw[q]at h;exact h.elim
  |bad=>rw[q]at h;exact h.elim
def qR{n p:Nat}{m:SF}(ds:List D)(β:Int)(h:sU n p m ds β≠.bad):ds.length=p:=by
 unfold sU at h
 by_cases hl:ds.length=p
 .exact hl
 .rw[Oe hl]at h;exact absurd rfl h
end
def aq(p:Pr):D:=.tuple [.int p.1,.int p.2]
def rQ:D->Option Pr
 | .tuple [.int a,.int b]=>some (a,b)
 |_=>none
def xM{d:D}{p:Pr}(h:rQ d=some p):d=aq p:=by
 unfold rQ at h
 split at h
 .cases h;rfl
 .cases h
def Bu(p:Pr):rQ (aq p)=some p:=rfl
def gy:List D->Option (List Pr)
 | []=>some []
 |d::ds=>match rQ d,gy ds with
  |some p,some ps=>some (p::ps)
  |_,_=>none
theorem jV:∀{ds:List D} {ps:List Pr},gy ds=some ps->ds=ps.map aq
 | [],ps,h=>by cases h;rfl
 |d::ds,ps,h=>by
  unfold gy at h
  split at h
  ·rename_i p qs h1 h2;cases h;rw[xM h1,jV h2];rfl
  ·cases h
theorem fq:∀ps:List Pr,gy (ps.map aq)=some ps
 | []=>rfl
 |p::ps=>by
  show(match rQ (aq p),gy (ps.map aq)with
   |some p,some ps=>some (p::ps)
   |_,_=>none)=_
  rw[Bu,fq ps]
section
variable {K:Frag}{X:Cx}{G H:Hp}
theorem cE.pairs:∀{ps:List Pr} {xs:List V},cE K G xs (ps.map aq)->aR K G xs ps
 | [],_,.nil=>.nil
 |p::ps,_,.cons r t=>by
  cases r with
  |tup hq r=>
   cases r with
   |cons r1 r=>
    cases r with
    |cons r2 r=>cases r;cases r1;cases r2;exact .cons ⟨_,rfl,hq⟩ (cE.pairs t)
theorem aR.rps:∀{ps:List Pr} {xs:List V},aR K G xs ps->cE K G xs (ps.map aq)
 | [],_,.nil=>.nil
 |p::ps,_,.cons r t=>by
  obtain⟨a,rfl,q⟩:=r
  exact .cons (.tup q (.cons (.int _) (.cons (.int _) .nil))) (aR.rps t)
def I0(p:Pr):Bool:=decide (0<=p.1)&&decide (p.1<8)&&decide (0<=p.2)&&decide (p.2<8)
def Ew{p:Pr}(h:I0 p=true):Sm p:=by
 unfold I0 at h
 simp only[Oy,OB]at h
 exact⟨⟨h.1.1.1,h.1.1.2⟩,h.1.2,h.2⟩
noncomputable def dD(d:D):Option D:=match mQ d with
 |some ds=>(match gy ds with
  |some ps=>if ps.all I0=true/\(OM.cB 8 (OM.Mem ps)).length<64 then some (.list ((OM.cB 8 (OM.Mem ps)).map aq))else none
  |none=>none)
 |none=>none
variable {Γ:Fx}{E:XK}{e a b c:Expr}{f fa fb fc:VF D}{L La Lb:List Nat}{md ma mb mc:Md}{pos:Pos}
theorem rz{p1 p2 pos2:Pos}(hc:X.calm=true)(hu:X.A.units+64<cLine)(hK:X.K=Γ.K)(hg:Gl X "sorted")(hm:X.mg "sorted"=none)(hg2:Gl X "set")(hm2:X.mg "set"=none)(ha:SE X Γ E a fa La ma)
  (he:starEach [a] X.env=(false,eval a X.env)::starEach [] X.env:=by rfl)
  (he2:starEach [.Call (.Name "set" p2) [a] [] pos2] X.env=(false,eval (.Call (.Name "set" p2) [a] [] pos2) X.env)::starEach [] X.env:=by rfl) :
  SE X Γ E (.Call (.Name "sorted" p1) [.Call (.Name "set" p2) [a] [] pos2] [] pos) (f1 fa dD) La .w:=by
 refine PE.post' (lg (vF hc) hg hm (by decide +kernel) (aQ (iE (CF hc hu) hg2 hm2 (by decide +kernel) (aQ ha bC he) (by decide) (by decide) he) bC he2) (by decide) (by decide) he2) λσ H Q ⟨env,G,B,β,I,o⟩=>(jv (r:=λx H1 Q=>Kz X.prog X.w X.K [x] H1 λy H2=>xh X.prog X.w X.K [y] H2 Q) ?_ I o)
 intro B G H x dx d Q s hB bx e k
 rw[hK]
 unfold dD at e
 cases q:mQ dx with
 |none=>rw[q]at e;cases e
 |some ds=>
  rw[q]at e
  dsimp only at e
  cases q2:gy ds with
  |none=>rw[q2]at e;cases e
  |some ps=>
   rw[q2]at e
   dsimp only at e
   split at e
   .rename_i hh
    let⟨h1,h2⟩:=hh
    cases e
    obtain⟨p,xs,rfl,hq,r⟩:=bx.seq q s
    rw[jV q2]at r
    have pv:=(r.mono s).pairs
    have sm:∀p,p∈ps->Sm p:=λp hp=>Ew (Pa.mp h1 p hp)
    refine⟨p,xs,ps,rfl,hq,pv,sm,λS qs hS hpv nd hm=>?_⟩
    have qsl:qs.length<64:=by
     have:(pq qs).length<=(OM.cB 8 (OM.Mem ps)).length:=OM.rT nd λx hx=>by
      have hx':=(hm x).mp hx
      have hs:=sm x hx'
      exact OM.aJ.mpr ⟨⟨⟨hs.1.1,hs.1.2⟩,hs.2.1,hs.2.2⟩,hx'⟩
     simp only[Ob]at this
     omega
    have xS:=Ext.own s (o:=Cc X.prog X.w S qs) hS
    refine⟨S,qs,rfl,av,hpv.grow (iV.new hS),λp hp=>sm p ((hm p).mp hp),nd,qsl,λl ws rs hl hpw hr hmem=>?_⟩
    have ers:rs=OM.cB 8 (OM.Mem ps):=OM.dO hr (OM.cA _ _) λx=>by
     rw[hmem x,hm x,OM.aJ]
     constructor
     .intro hx;have hs:=sm x hx;exact⟨⟨⟨hs.1.1,hs.1.2⟩,hs.2.1,hs.2.2⟩,hx⟩
     .intro hx;exact hx.2
    subst ers
    have hlH:H l=none:=by
     by_cases z:l=S
     .subst z;exact hS
     .rw[ar z]at hl;exact hl
    have lS:l≠S:=λz=>by subst z;rw[av]at hl;cases hl
    have hh:ak H (upd (upd H S (Cc X.prog X.w S qs)) l (.lst ws)):=(ak.new hS).trans (ak.new hl)
    have xx:=Ext.tups s hh
    refine k _ _ _ xx ⟨l,rfl,hlH,?_,ws,av,?_⟩
    .unfold c9
     rw[s.free hlH,av]
     exact Oe λy=>y
    .refine aR.rps (Paired.mapP hpw λv p ⟨a,ea,qa⟩=>⟨a,ea,fh (s.trans hh) ?_⟩)
     exact qa.grow (iV.new hl)
   .cases e
end
section
variable {K:Frag}{X:Cx}{G H:Hp}{Γ:Fx}{E:XK}{e a b c:Expr}{f fa fb fc:VF D}{L La Lb:List Nat}{md ma mb mc:Md}{pos apos cpos np:Pos}
def cR:D->Option D
 | .int n=>if 0<=n/\n<=1000 then some (.list (cV 0 n.toNat))else none
 |_=>none
def B4(n:Nat):cE K G ((List.range n).map λ(i:Nat)=>V.int (i:Int)) (cV 0 n):=by
 have key:∀l:List Nat,cE K G (l.map λ(i:Nat)=>V.int (i:Int)) (l.map λ(k:Nat)=>int (0+k)):=by
  intro l
  induction l with
  |nil=>exact .nil
  |cons x l ih=>exact .cons (by show Rp K G (.int (x:Int)) (.int (0+(x:Int)));rw[Pn];exact .int _) ih
 exact key _
theorem j8{p1 p2 pos2:Pos}(hc:X.calm=true)(hg:Gl X "list")(hm:X.mg "list"=none)(hg2:Gl X "range")(hm2:X.mg "range"=none)(ha:SE X Γ E a fa La ma)
  (he:starEach [a] X.env=(false,eval a X.env)::starEach [] X.env:=by rfl)
  (he2:starEach [.Call (.Name "range" p2) [a] [] pos2] X.env=(false,eval (.Call (.Name "range" p2) [a] [] pos2) X.env)::starEach [] X.env:=by rfl) :
  SE X Γ E (.Call (.Name "list" p1) [.Call (.Name "range" p2) [a] [] pos2] [] pos) (f1 fa cR) La .w:=by
 refine PE.post' (iE (sW hc) hg hm (by decide +kernel) (aQ (iE Dk hg2 hm2 (by decide +kernel) (aQ ha bC he) (by decide) (by decide) he) bC he2) (by decide) (by decide) he2) λσ H Q ⟨env,G,B,β,I,o⟩=>(jv (r:=λx H1 Q=>∃n:Int,[x]= [.int n]/\∀p,H1 p=none->(λ(y:V) (H2:Hp)=>∃(p:Addr) (n:Int),[y]= [V.ref p]/\H2 p=some (.bD 0 n)/\0<=n/\n<=1000/\∀l,H2 l=none->Q (.ref l) (upd H2 l (.lst ((List.range n.toNat).map λ(i:Nat)=>V.int (i:Int))))) (V.ref p) (upd H1 p (.bD 0 n))) ?_ I o)
 intro B G H x dx d Q s hB bx e k
 cases dx with
 |int n=>
  obtain rfl:=bx.int
  simp only[cR]at e
  split at e
  .rename_i hh
   cases e
   refine⟨n,rfl,λp hp=>⟨p,n,rfl,av,hh.1,hh.2,λl hl=>?_⟩⟩
   have hlp:l≠p:=λz=>by subst z;rw[av]at hl;cases hl
   have hlH:H l=none:=by rw[ar hlp]at hl;exact hl
   have x1:=Ext.own s (o:=.bD 0 n) hp
   have x2:=Ext.own x1.gh (o:=.lst ((List.range n.toNat).map λ(i:Nat)=>V.int (i:Int))) hl
   exact k _ _ _ (x1.trans x2) ⟨l,rfl,hlH,s.free hlH,_,av,B4 _⟩
  .cases e
 |_=>cases e
def FJ:D->Option D
 | .int i=>some (.int (if i<0 then -i else i))
 |_=>none
theorem LV:yJ K (λx H Q=>∃i,[x]= [.int i]/\Q (.int (if i<0 then -i else i)) H) FJ .v:=by
 intro B G H x dx d Q s hB bx e k
 cases dx with
 |int i=>cases e;obtain rfl:=bx.int;exact⟨i,rfl,k _ G H (Ext.refl s) (.int _)⟩
 |_=>cases e
noncomputable def iY(d:D):Option D:=match d with
 | .list ds=>(match gy ds with
  |some ps=>if ps.all I0=true/\ps.Nodup/\ps.length<64 then some (.list ((OM.cB 8 (OM.Mem ps)).map aq))else none
  |none=>none)
 |_=>none
theorem zE:yJ K (λx=>Am K [x]) iY .w:=by
 intro B G H x dx d Q s hB bx e k
 cases dx with
 |list ds=>
  simp only[iY]at e
  cases q2:gy ds with
  |none=>rw[q2]at e;cases e
  |some ps=>
   rw[q2]at e
   dsimp only at e
   split at e
   .rename_i hh
    let⟨h1,h2,h3⟩:=hh
    cases e
    obtain⟨p,xs,rfl,hq,r⟩:=bx.list s
    rw[jV q2]at r
    have pv:=(r.mono s).pairs
    have sm:∀p,p∈ps->Sm p:=λp hp=>Ew (Pa.mp h1 p hp)
    refine⟨p,xs,ps,rfl,.inl hq,pv,sm,h2,h3,λl ws rs hl hpw hr hmem=>?_⟩
    have ers:rs=OM.cB 8 (OM.Mem ps):=OM.dO hr (OM.cA _ _) λx=>by
     rw[hmem x,OM.aJ]
     constructor
     .intro hx;have hs:=sm x hx;exact⟨⟨⟨hs.1.1,hs.1.2⟩,hs.2.1,hs.2.2⟩,hx⟩
     .intro hx;exact hx.2
    subst ers
    have hh:ak H (upd H l (.lst ws)):=ak.new hl
    refine k _ _ _ (Ext.tups s hh) ⟨l,rfl,hl,?_,ws,av,?_⟩
    .unfold c9
     rw[s.free hl,av]
     exact Oe λy=>y
    .refine aR.rps (Paired.mapP hpw λv p ⟨a,ea,qa⟩=>⟨a,ea,fh (s.trans hh) ?_⟩)
     exact qa.grow (iV.new hl)
   .cases e
 |_=>cases e
def A8(ds:List D)(k:D):Option (D×List D):=match k with
 | .int i=>if -(2^63)<=i/\i<2^63 then(match seqIndex? i ds.length with
  |some n=>(match ds[n]? with
   |some d=>some (d,ds.eraseIdx n)
   |none=>none)
  |none=>none)else none
 |_=>none
def me(i j:Nat)(L:List Nat)(f:VF D):SF:=λenv β=>if yF env[i]? =true/\yF env[j]? =true/\i≠j then toS (f (vl env) β) λk β'=>match(ba L env)[j]? with
 |some (.ow (.list es))=>(match A8 es k with
  |some (d,es')=>Kg i ((ba L env).set j (.ow (.list es'))) β' λds=>if ds.length<sizeLine then some (ds++[d])else none
  |none=>.bad)
 |_=>.bad else .bad
theorem cE.eraseIdx:∀{xs:List V} {ds:List D} (i:Nat),cE K G xs ds->cE K G (xs.eraseIdx i) (ds.eraseIdx i)
 |_,_,_,.nil=>.nil
 |_,_,0,.cons _ t=>t
 |_,_,i+1,.cons r t=>.cons r (cE.eraseIdx i t)
theorem B6(i j:Nat){x y:Str}{np2 apos2 cpos2:Pos}(hb:∀j,Γ.br j=false)(he:SE X Γ E e f L md)(hN:X.N[i]? =some x:=by rfl)(hv:yc X.env.scope x:=by first|exact Or.inl rfl|exact Or.inr (Or.inl rfl)|exact Or.inr (Or.inr rfl))(hd:(x==("__debug__":Str))=false:=by decide)
  (hcd:(x==("__classdict__":Str))=false:=by decide)
  (hN2:X.N[j]? =some y:=by rfl) (hv2:yc X.env.scope y:=by first|exact Or.inl rfl|exact Or.inr (Or.inl rfl)|exact Or.inr (Or.inr rfl)) (hd2:(y==("__debug__":Str))=false:=by decide)
  (hcd2:(y==("__classdict__":Str))=false:=by decide)
  (hbase:attributeBase (.Name x np) "append" X.env (eval (.Name x np) X.env)=eval (.Name x np) X.env:=by rfl)
  (hfew:((backTo cpos (starEach [.Call (.Attribute (.Name y np2) "pop" apos2) [e] [] cpos2] X.env)).all (λx=> !x.1)&&(backToKw cpos (keywordEach [] X.env)).all (λx=>x.1.isSome)
   && decide ([Expr.Call (.Attribute (.Name y np2) "pop" apos2) [e] [] cpos2].length+([]:List Keyword).length+(if([]:List Keyword).isEmpty then 0 else 1)<30))=true:=by rfl)
  (hline:(apos.endLine==cpos.line)=true:=by rfl) (hs:starEach [.Call (.Attribute (.Name y np2) "pop" apos2) [e] [] cpos2] X.env=(false,eval (.Call (.Attribute (.Name y np2) "pop" apos2) [e] [] cpos2) X.env)::starEach [] X.env:=by rfl)
  (hbase2:attributeBase (.Name y np2) "pop" X.env (eval (.Name y np2) X.env)=eval (.Name y np2) X.env:=by rfl)
  (hfew2:((backTo cpos2 (starEach [e] X.env)).all (λx=> !x.1)&&(backToKw cpos2 (keywordEach [] X.env)).all (λx=>x.1.isSome)
   && decide ([e].length+([]:List Keyword).length+(if([]:List Keyword).isEmpty then 0 else 1)<30))=true:=by rfl)
  (hline2:(apos2.endLine==cpos2.line)=true:=by rfl) (hs2:starEach [e] X.env=(false,eval e X.env)::starEach [] X.env:=by rfl)
  (hsw:swapsWith (.Call (.Attribute (.Name x np) "append" apos) [.Call (.Attribute (.Name y np2) "pop" apos2) [e] [] cpos2] [] cpos) none pos.line X.env=pure false:=by rfl) :
  SS X Γ E (.Expr (.Call (.Attribute (.Name x np) "append" apos) [.Call (.Attribute (.Name y np2) "pop" apos2) [e] [] cpos2] [] cpos) pos) (me i j L f):=by
 refine PS.post (nN (xj QW Rv Rw mi (fK hN hv hd hcd)
  (aQ (xj QW PySem.F.slot_list_pop PySem.F.type_list_pop Ec (fK hN2 hv2 hd2 hcd2) (aQ he bC hs2) hbase2 hfew2 hline2 hs2 rfl) bC hs) hbase hfew hline hs rfl) hsw) λN σ H ⟨env,G,B,β,I,o⟩=>?_
 unfold me at o
 by_cases hO:yF env[i]? =true/\yF env[j]? =true/\i≠j
 case neg=>rw[Oe hO]at o;exact o.elim
 rw[Od hO]at o
 let⟨hO1,hO2,hij⟩:=hO
 let⟨ds0,q0⟩:=vO hO1
 let⟨es0,w0⟩:=vO hO2
 let⟨p,h1,_,_,_,xs,h5,_⟩:=I.slot i _ q0
 let⟨q,k1,_,_,_,ys,k5,_⟩:=I.slot j _ w0
 refine⟨_,h1,.inl ⟨rfl,xs,.inl (.inl h5)⟩,?_⟩
 refine⟨_,k1,.inl ⟨rfl,ys,.inl (.inl k5)⟩,⟨env,G,B,β,I,cF o λkd β' k v G' H' I' s' m' vo=>?_⟩⟩
 cases ej:(ba L env)[j]? with
 |none=>rw[ej]at k;exact k.elim
 |some sj=>
  rw[ej]at k
  cases sj with
  |ow dj=>
   cases dj with
   |list es=>
    dsimp only at k
    cases ep:A8 es kd with
    |none=>rw[ep]at k;exact k.elim
    |some pr=>
     let⟨d,es'⟩:=pr
     rw[ep]at k
     dsimp only at k
     unfold A8 at ep
     cases kd<;>first|(cases ep;done)|skip
     rename_i ii
     dsimp only at ep
     split at ep
     .rename_i hr
      cases eI:seqIndex? ii es.length with
      |none=>rw[eI]at ep;cases ep
      |some n=>
       rw[eI]at ep
       dsimp only at ep
       cases eD:es[n]? with
       |none=>rw[eD]at ep;cases ep
       |some d0=>
        rw[eD]at ep
        cases ep
        obtain rfl:=(vo.brw I.boxThere).int
        let⟨q',g1,_,_,_,zs,g5,g6⟩:=I'.slot j _ ej
        rw[k1]at g1;cases g1
        let⟨xv,ex,rx⟩:=g6.at eD
        refine⟨q,zs,ii,n,xv,rfl,rfl,g5,hr.1,hr.2,by rw[g6.len];exact eI,ex,?_⟩
        have I2:=I'.write hb ej k1 (d':=.list (es.eraseIdx n)) λH2 e2 s2=>⟨_,e2,g6.eraseIdx n⟩
        let⟨ds,fs,eq,eg,k⟩:=z5 k
        by_cases hz:ds.length<sizeLine
        case neg=>rw[Oe hz]at eg;cases eg
        rw[Od hz]at eg
        cases eg
        let⟨p',f1,_,_,_,us,f5,f6⟩:=I2.slot i _ eq
        rw[h1]at f1;cases f1
        refine⟨p,us,xv,rfl,rfl,f5,by rw[f6.len];exact hz,?_⟩
        exact k B G' _ σ (I2.write hb eq h1 λH2 e2 s2=>⟨_,e2,f6.snoc rx⟩) s'
     .cases ep
   |_=>exact k.elim
  |_=>exact k.elim
end
def dA:List D->Int->FB
 | [.int m],β=>if 0<m/\m<1073741824 then .ok (.int (β%m)) false (β/m)else .bad
 |_,_=>.bad
def zR{ds:List D}{β:Int}(h:dA ds β≠.bad):∃m,ds= [.int m]/\0<m/\m<1073741824:=by
 unfold dA at h
 split at h
 .rename_i m
  by_cases hh:0<m/\m<1073741824
  .exact⟨m,rfl,hh.1,hh.2⟩
  .rw[Oe hh]at h;exact absurd rfl h
 .exact absurd rfl h
def vE{m β:Int}(h0:0<m)(h1:m<1073741824):dA [.int m] β=.ok (.int (β%m)) false (β/m):=Od ⟨h0,h1⟩
def constsOf:List Expr->Option (List Int)
 | []=>some []
 | .Constant (.int i) _ _::es=>(constsOf es).map λr=>i::r
 |_=>none
def NJ(ns:List Int):VF (List D):=λ_ β=>.ok (ns.map int) β
theorem tT{X:Cx}{Γ:Fx}{E:XK}:∀{es:List Expr} {ns:List Int},constsOf es=some ns->SA X Γ E es (NJ ns) []
 | [],ns,h=>by
  have e:ns= []:=by unfold constsOf at h;exact(Option.some.inj h).symm
  subst e
  exact ah
 |e::es,ns,h=>by
  unfold constsOf at h
  split at h
  .cases ‹_::_= []›
  .next i a b es' heq=>
   cases heq
   cases q:constsOf es with
   |none=>rw[q]at h;cases h
   |some r=>
    rw[q]at h
    have e2:i::r=ns:=Option.some.inj h
    subst e2
    exact ae ax (tT q) rfl
  .cases h
section
variable {P:Program}{w:World}{K:Frag}{mg:Str->Option Value}{base:Heap}
def Fw{X:Cx}{i j:Nat}{x y:Str}{px py pos:Pos}{k:Nat}(hN:X.N.Nodup)(hi:X.N[i]? =some x)(hj:X.N[j]? =some y)(hx:X.env.scope.names.lookup x=some .local)(hy:X.env.scope.names.lookup y=some .local)(hc:X.calm=true) :
  PG X (.Tuple [.Name x px,.Name y py] k pos) (Fi X.K 2 (qU (mL i) (qU (mL j) Gg))):=
 qY hc (fg (dk hN hi (Or.inl hx) (Or.inr hx)) (fg (dk hN hj (Or.inl hy) (Or.inr hy)) nV))
def Dy{b:Addr}{β m:Int}{H:Hp}{Q:VK}{G:Hp}(hb:H b=some (.lst [.int β]))(s:ak G H){p:Addr}(hp:H p=none)
  (kk:∀v G' H',iQ (some b) H H'->H' b=some (.lst [.int (β/m)])->ak G G'->ak G' H'->(∀c,Mx H c->G c=none->G' c=none)->FV K H G' H' false (.int (β%m)) v->Q v H') (gb:G b=none) :
  Q (.int (β%m)) (upd (upd H p (.tup [.int (β/m),.int (β%m)])) b (.lst [.int (β/m)])):=by
 have hbp:b≠p:=aC hb hp
 refine kk _ G _ ⟨λc o e n=>Kt.of (by rw[ar (λz=>n (by rw[z])),ar (aC e hp)];exact e),λc o u e=>by rw[ar (λz=>by rw[z,hb]at e;cases e),ar (aC e hp)];exact e⟩ av (ak.refl _) (λc o e=>?_) (λc _ h=>h) (.int _)
 let⟨u,eu,_⟩:=(s c o e).some
 exact jC (jC (s c o e) (aC eu hp) λx y w=>by rw[hp]at w;cases w) (λz=>by rw[z,gb]at e;cases e) λx y w=>by rw[ar hbp,hb]at w;cases w
end
end L2
namespace L2
open PySem PySem.SeqAt PySem.Spec PyProof.Rows
def va{M:Model}{A:Around}{E:Value->Shared->Prop}{s:Shared}{β:Type}{b:Nat}(f:Nat->β->Sem (ForInStep β))(I:List Nat->β->Shared->Prop)(Q:β->Shared->Prop)
  (turn:∀x rest b s,I (x::rest) b s->wpAny M A (f x b) (λr s'=>match r with|.yield b'=>I rest b' s'|.done b'=>Q b' s') E s)
  (fin:∀b s,I [] b s->Q b s) (c:β) (h:I (List.range' 0 b) c s):wpAny M A (forIn [0:b] c f) Q E s:=by
 rw[Std.Legacy.Range.forIn_eq_forIn_range']
 simp only[Std.Legacy.Range.size,Nat.sub_zero,Nat.add_sub_cancel,Nat.div_one]
 exact Ra f I Q turn fin _ c h
def sM(l:Addr)(items:Array Value)(n:Nat)(dd:Option Addr)(sl:Array (Option Value))(x:Value)(e:Value->Bool)(j:Nat)(hj:j<items.size)
  (hit:e items[j]=true) (hno:∀m (hm:m<items.size),m<j->e items[m]=false) :
  Meets (Builtin.«tuple.index» ⟨[.ref l,x],[]⟩)
   (λA R s=>s.heap.get? l=some {cls:=.type "tuple",dict:=dd,data:=.seq items n,slots:=sl}/\(∀y,y∈items->EqAt A.in1 s y x (e y))/\R (.ok (.ret (.int j s.toks))) {s with toks:=s.toks+1}):=
 .of_wp λprog w A R s h=>by
  let⟨hp,g,d,tk,os⟩:=s;let⟨hl,he,h⟩:=h
  wp_walk using wpAny_loadPart' hl,va _ (λrest b s'=>b.1=none/\s'=⟨hp,g,d,tk,os⟩/\∃i,i<=j/\rest=List.range' i (items.size-i)) _
  case turn=>
   rintro y rest b s' ⟨hb,rfl,i,hi,hr⟩
   obtain⟨m,hm⟩:∃m,items.size-i=m+1:=⟨items.size-i-1,by omega⟩
   rw[hm,Rg]at hr
   obtain⟨rfl,rfl⟩:=List.cons.inj hr
   have hlt:y<items.size:=by omega
   have e1:items[y]? =some items[y]:=by simp[hlt]
   simp only[e1]
   refine N7 (he _ (RA hlt) prog w _ _ ?_)
   by_cases z:y=j
   .subst z
    rw[hit]
    wp_walk
    exact⟨_,rfl,h⟩
   .rw[hno y hlt (by omega)]
    wp_walk
    exact⟨rfl,rfl,y+1,by omega,by congr 1;omega⟩
  case fin=>
   rintro b s' ⟨hb,rfl,i,hi,hr⟩
   obtain⟨m,hm⟩:∃m,items.size-i=m+1:=⟨items.size-i-1,by omega⟩
   rw[hm,Rg]at hr
   cases hr
  case h=>
   exact⟨rfl,rfl,0,O2 _,by rw[Nat.min_self];rfl⟩
section
variable {K:Frag}{X:Cx}{G H:Hp}{Γ:Fx}{E:XK}{e a b c:Expr}{f fa fb fc:VF D}{L La Lb:List Nat}{md ma mb mc:Md}{pos apos cpos np:Pos}
def zl(k:Int):Value->Bool
 | .int i _=>i==k
 |_=>false
theorem nv{k:Int}:∀{ns:List Int} {us:List Value} (i:Nat) (h:i<us.length) (h2:i<ns.length),Vals (ns.map V.int) us->zl k us[i]=(ns[i]==k)
 | [],_,_,_,h2,_=>absurd h2 (Nat.not_lt_zero _)
 |n::ns,_,0,_,_,.cons r _=>by obtain⟨t,rfl⟩:=r;rfl
 |n::ns,_,i+1,h,h2,.cons _ rs=>nv i (Nat.lt_of_succ_lt_succ h) (Nat.lt_of_succ_lt_succ h2) rs
theorem xB{k:Int}{t:Tok}(A:Around)(s:Shared):∀{ns:List Int} {us:List Value},Vals (ns.map V.int) us->∀y∈us,EqAt A s y (.int k t) (zl k y)
 | [],_,.nil,y,hy=>by cases hy
 |n::ns,_,.cons r rs,y,hy=>by
  rcases Oo.mp hy with z|z
  ·subst z;obtain⟨t',rfl⟩:=r;exact EqAt.int_int n t' k t
  .exact xB A s rs y z
def Hi(K:Frag):V->List V->Hp->VK->Prop:=λx vs H Q=>∃(a:Addr) (ns:List Int) (k:Int),x=.ref a/\vs= [.int k]/\fF K H a (ns.map V.int)/\k∈ns/\Q (.int (ns.idxOf k:Nat)) H
def A6:L9 X "tuple.index" (Hi X.K):=by
 intro pins s σ H x vs v us Q I rx rv h
 obtain⟨a,ns,k,rfl,rfl,hq,hk,q⟩:=h
 cases rx
 obtain⟨u,rfl,ru⟩:=vals1 rv
 obtain⟨t,rfl⟩:=ru
 let⟨its,rs,pl,hz⟩:=I.tuple hq
 let⟨⟨cls,dd,data,sl⟩,ho,hc,n,hd⟩:=id pl
 simp only at hc hd
 subst hc hd
 have hj:ns.idxOf k<ns.length:=PX.mpr hk
 have hlen:its.length=ns.length:=by rw[<-rs.length,Ob]
 refine call_meets PySem.F.slot_tuple_index ⟨_,ho,rfl⟩ PySem.F.entry_tuple_index (PySem.F.args_tuple_index_2 _ _)
  (sM a its.toArray n dd sl (.int k t) (zl k) (ns.idxOf k) (by simpa[hlen]using hj) ?_ ?_) ⟨ho,λy hy=>xB _ _ rs y (by simpa using hy),?_⟩
 .have:=nv (k:=k) (ns.idxOf k) (by omega) hj rs
  simpa[Rx hj]using this
 .intro m hm hlt
  have hm':m<ns.length:=by simpa[hlen]using hm
  have hne:ns[m]≠k:=λz=>by
   have:=List.not_of_lt_findIdx hlt
   simp[z]at this
  have:=nv (k:=k) m (by omega) hm' rs
  rw[Rj.mpr hne]at this;simpa using this
 .exact⟨.int (ns.idxOf k:Nat),H,I.tok _,⟨_,rfl⟩,q⟩
def Inv.tupleP{pins:List (Addr×Obj)}{σ:St}{s:Shared}{p:Addr}{xs:List V}(I:Inv X pins σ H s)(h:fF X.K H p xs):s.TypeIs (.ref p) "tuple"/\∀a,Value.ref p=.ref a->∃ob,s.heap.get? a=some ob/\ob.dict=none:=by
 rcases h with h|⟨o,its,n,hk,hc,hs,hz,r,hd⟩
 .let⟨_,_,_,o,e,c,n,d,hd⟩:=h.ok I.hok
  exact⟨⟨o,e,c⟩,λa z=>by cases z;exact⟨o,e,hd⟩⟩
 .exact⟨⟨o,I.kIn p o hk,hc⟩,λa z=>by cases z;exact⟨o,I.kIn p o hk,hd⟩⟩
def Nn(K:Frag)(r:V->List V->Hp->VK->Prop)(to:TE)(t:TA):TE:=λσ H Q=>to σ H λx H1=>(∃p xs,x=.ref p/\fF K H1 p xs)/\t σ H1 λxs H2=>r x xs H2 Q
def Ik{o e:Expr}{es:List Expr}{to:TE}{t:TA}{name:Str}{apos cpos:Pos}{id:String}{r:V->List V->Hp->VK->Prop}(slot:Slot "tuple" name id)(hty:typeOf (.builtin id)=pure (.type "method_descriptor"))(hm:L9 X id r)(ho:PE X o to)(ha:PA X (e::es) t)
  (hbase:attributeBase o name X.env (eval o X.env)=eval o X.env:=by rfl)
  (hfew:((backTo cpos (starEach (e::es) X.env)).all (λx=> !x.1)&&(backToKw cpos (keywordEach [] X.env)).all (λx=>x.1.isSome)
   && decide ((e::es).length+([]:List Keyword).length+(if([]:List Keyword).isEmpty then 0 else 1)<30))=true:=by rfl)
  (hline:(apos.endLine==cpos.line)=true:=by rfl) (hs:starEach (e::es) X.env=(false,eval e X.env)::starEach es X.env:=by rfl) (hplain:(backTo cpos (starEach es X.env)).any (·.1)=false:=by rfl) :
  PE X (.Call (.Attribute o name apos) (e::es) [] cpos) (Nn X.K r to t):=by
 intro pins s σ H Q I h
 refine wpAny_Call_method_late hbase hfew hline rfl (cI (ho pins s σ H _ I h) λv s1 ⟨x,H1,I1,r1,⟨p,ys,ex,hr⟩,q1⟩=>?_)
 subst ex
 cases r1
 let⟨h1,h2⟩:=I1.tupleP hr
 refine⟨"tuple",id,PySem.F.plainAttrs_tuple,slot,hty,h1,h2,?_⟩
 have hA:=ha cpos pins s1 σ H1 _ I1 q1
 rw[hs]at hA ⊢
 refine Calls.callWith_builtin (by show(false||(backTo cpos (starEach es X.env)).any (·.1))=false;rw[hplain]<;>rfl) (Calls.evalArgs_plain ?_)
 exact cI hA λus s2 ⟨vs,H2,I2,r2,q2⟩=>hm pins s2 σ H2 (.ref p) vs (.ref p) us Q I2 rfl r2 q2
def jO:List D->Option (List Int)
 | []=>some []
 | .int i::ds=>(jO ds).map (i :: ·)
 |_=>none
theorem qI:∀{ds:List D} {ns:List Int},jO ds=some ns->ds=ns.map int
 | [],ns,h=>by cases h;rfl
 | .int i::ds,ns,h=>by
  unfold jO at h
  cases q:jO ds with
  |none=>rw[q]at h;cases h
  |some ms=>rw[q]at h;cases h;rw[qI q];rfl
 | .none::_,_,h=>by cases h
 | .bool _::_,_,h=>by cases h
 | .str _::_,_,h=>by cases h
 | .list _::_,_,h=>by cases h
 | .tuple _::_,_,h=>by cases h
 | .dict _::_,_,h=>by cases h
theorem jT:∀ns:List Int,jO (ns.map int)=some ns
 | []=>rfl
 |n::ns=>by show(jO (ns.map int)).map (n :: ·)=_;rw[jT ns];rfl
theorem qw:∀{ns:List Int} {xs:List V},cE K G xs (ns.map int)->xs=ns.map V.int
 | [],_,.nil=>rfl
 |n::ns,_,.cons r t=>by cases r;rw[qw t];rfl
def Hn(d y:D):Option D:=match d,y with
 | .tuple ds,.int k=>(match jO ds with
  |some ns=>if k∈ns then some (.int (ns.idxOf k:Nat))else none
  |none=>none)
 |_,_=>none
def Af:D->Bool
 | .tuple _=>true
 |_=>false
def pe(fa fb:VF D):VF D:=λvs β=>(fa vs β).bnd λx β1=>if Af x=true then(fb vs β1).bnd λy β2=>R.of (Hn x y) β2 else .bad
theorem xP(hK:X.K=Γ.K)(ha:SE X Γ E a fa La ma)(hb:SE X Γ E b fb Lb mb)
  (hbase:attributeBase a "index" X.env (eval a X.env)=eval a X.env:=by rfl)
  (hfew:((backTo cpos (starEach [b] X.env)).all (λx=> !x.1)&&(backToKw cpos (keywordEach [] X.env)).all (λx=>x.1.isSome)
   && decide ([b].length+([]:List Keyword).length+(if([]:List Keyword).isEmpty then 0 else 1)<30))=true:=by rfl)
  (hline:(apos.endLine==cpos.line)=true:=by rfl) (hs:starEach [b] X.env=(false,eval b X.env)::starEach [] X.env:=by rfl) :
  SE X Γ E (.Call (.Attribute a "index" apos) [b] [] cpos) (pe fa fb) (La++Lb) .v:=by
 refine PE.post' (Ik PySem.F.slot_tuple_index PySem.F.type_tuple_index A6 ha (aQ hb bC hs) hbase hfew hline hs rfl) λσ H Q ⟨env,G,B,β,I,o⟩=>⟨env,G,B,β,I,o.bnd.imp λd1 β1 h x G1 H1 I1 s1 m1 vx=>?_⟩
 have vx:=vx.brw I.boxThere
 cases d1 with
 |tuple ds=>
  rw[Od (show Af (.tuple ds)=true from rfl)]at h
  obtain⟨p,xs,rfl,hq,r⟩:=vx.tuple I1.sub
  refine⟨⟨p,xs,rfl,by rw[hK];exact hq⟩,?_⟩
  refine⟨ba La env,G1,B,β1,I1,?_⟩
  rw[jW]
  refine h.bnd.imp λd2 β2 h y G2 H2 I2 s2 m2 vy=>?_
  let⟨d,e,k⟩:=h.of
  have vy:=vy.brw I1.boxThere
  cases d2 with
  |int kk=>
   obtain rfl:=vy.int
   simp only[Hn]at e
   cases q:jO ds with
   |none=>rw[q]at e;cases e
   |some ns=>
    rw[q]at e
    dsimp only at e
    split at e
    .rename_i hk
     cases e
     have eds:=qI q
     subst eds
     have exs:=qw r
     subst exs
     have hq2:fF X.K H2 p (ns.map V.int):=by
      rw[hK]
      rcases hq with hq|hq
      .rcases vx with vx|⟨_,_,_,vx⟩
       .cases vx with
        |tup g1 r9=>have z9:=qw r9;subst z9;exact(g1.grow (s2.trans I2.sub).grow)
       .exact vx.elim
      .exact .inr hq
     exact⟨p,ns,kk,rfl,rfl,hq2,hk,k _ G2 H2 (by rw[dR];exact I2) (s1.trans s2) (m1.trans m2) (.int _)⟩
    .cases e
  |_=>simp only[Hn]at e;cases e
 |_=>exact h.elim
def wG(t:Tg)(L:List Nat)(f:VF D):SF:=λenv β=>toS (f (vl env) β) λd β'=>match fS t d (ba L env)with
 |some env'=>.nx env' β'
 |none=>.bad
theorem EX{t:Tg}{tg:Expr}(he:SE X Γ E e f L .v)(hg:SG X Γ tg t)(hs:swapsWithSole [tg] e pos.line X.env=pure false:=by rfl)(hw:swappedStores [tg] e X.env=pure none:=by rfl)
  (h1:(assignEach [tg] X.env).map (·.2)= [assign tg X.env]:=by rfl):SS X Γ E (.Assign [tg] e pos) (wG t L f):=by
 refine PS.post (qz he hg hs hw h1) λN σ H ⟨env,G,B,β,I,o⟩=>⟨env,G,B,β,I,cF o λd β' k v G' H' I' s' m' vo=>?_⟩
 cases q:fS t d (ba L env)with
 |none=>rw[q]at k;exact k.elim
 |some env'=>
  rw[q]at k
  exact⟨_,G',B,β',d,env',I',vo,q,λσ' J=>k B G' H' σ' J s'⟩
end
end L2
section
namespace HT
open PySem PyProof.Rows PySem.Builtin PyProof
theorem wu{α β:Type}{f g:α->Option β}:∀{l:List α},(∀m,m∈l->f m=g m)->l.filterMap f=l.filterMap g
 | [],_=>rfl
 |x::l,h=>by rw[Qs,Qs,h x (Ol ..),wu λm hm=>h m (Og _ hm)]
def BS{α:Type}(xs:Array α):((List.range xs.size).filterMap λ(m:Nat)=>xs[(((xs.size:Int)-1)+(m:Int)*(-1)).toNat]?)=xs.toList.reverse:=by
 have e:∀m,m∈List.range xs.size->xs[(((xs.size:Int)-1)+(m:Int)*(-1)).toNat]? =xs.toList.reverse[m]?:=λm hm=>by
  have hm:=OI.mp hm
  rw[Q7 (by simpa using hm)]
  have:(((xs.size:Int)-1)+(m:Int)*(-1)).toNat=xs.toList.length-1-m:=by simp;omega
  rw[this]
  simp
 have e2:((List.range xs.size).filterMap λ(m:Nat)=>xs[(((xs.size:Int)-1)+(m:Int)*(-1)).toNat]?)=(List.range xs.toList.reverse.length).filterMap λm=>xs.toList.reverse[m]?:=by
  rw[Qv,Qt]
  exact wu e
 rw[e2]
 generalize xs.toList.reverse=l
 clear e e2
 apply Qo
 intro i
 have key:∀n,n<=l.length->(List.range n).filterMap (λm=>l[m]?)=l.take n:=by
  intro n
  induction n with
  |zero=>intro _;simp
  |succ n ih=>
   intro hn
   rw[List.range_succ,List.filterMap_append,ih (by omega),List.take_succ,N8 (by omega)]
   simp[N8 (show n<l.length by omega)]
 rw[key l.length (Oc _),QR]
section
variable {prog:Program}{w:World}{A:Around}{E:Value->Shared->Prop}{s:Shared}
def v3{sl:Addr}{vs:Value}{n:Nat}{Q:Int×Int×Nat->Shared->Prop}(hs:s.heap.IsSliceOf sl .none .none vs)(ps:IsPart vs (some (-1)))(h:Q (((n:Int)-1), -1,n) s):wpAny (model prog w) A (Builtin.Slice.sliceApplied (.ref sl) (pure (n:Int))) Q E s:=by
 let⟨os,hos,hcs,hds⟩:=id hs
 unfold Builtin.Slice.sliceApplied Builtin.Slice.sliceFields
 refine N7 (N7 (wpAny_field hos hds rfl (N7 (wpAny_field hos hds rfl (N7 (wpAny_field hos hds rfl (N9 (N7 (yO ps ?_)))))))))
 rw[Oe (by decide)]
 refine N7 (slicePart_none (N7 (slicePart_none (N7 (N9 ?_)))))
 show wpAny _ _ (pure (((n:Int)-1),(-1:Int),Builtin.Slice.slicePlaces ((n:Int)-1) (-1) (-1))) _ _ s
 have e:Builtin.Slice.slicePlaces ((n:Int)-1) (-1) (-1)=n:=by
  unfold Builtin.Slice.slicePlaces
  have h1:¬((-1:Int)>0):=by omega
  simp only[h1,OY]
  rw[show(- (-1:Int))=1 by rfl,Int.ediv_one]
  split<;>omega
 rw[e]
 exact N9 h
def nz{t sl:Addr}{items:Array Value}{vs:Value}{Q:Value->Shared->Prop}(ht:IsTup s.heap t items)(hs:s.heap.IsSliceOf sl .none .none vs)(ps:IsPart vs (some (-1)))
  (h:Q (.ref s.heap.objs.size) {s with heap:=s.heap.push {cls:=.type "tuple",data:=.seq items.toList.reverse.toArray}})
  (hsz:items.size<=sizeLine):wpAny (model prog w) A (getItem (.ref t) (.ref sl)) Q E s:=by
 have htake:sizeOk (.seq items.toList.reverse.toArray):=by
  show items.toList.reverse.toArray.size<=sizeLine
  simpa using hsz
 let⟨os,hos,hcs,hds⟩:=id hs
 have hTs:s.TypeIs (.ref sl) "slice":=⟨os,hos,hcs⟩
 unfold getItem
 try with_reducible refine O0 ?_
 first|refine N7 (N9 ?_)|skip
 refine N7 (wpAny_sequenceKey ht.typeIs (by decide) ?_)
 refine N7 (PJ ht.typeIs QV
  (Pq QV ht.typeIs entry_tuple_getitem ?_ (args_tuple_getitem _ _)))
 show wpAny _ _ (Builtin.Tuple.tupleItemsOf (.ref t) >>= _) _ _ s
 refine N7 (tupleItemsOf_ ht (N7 (QO hTs ?_)))
 rw[Od (by decide)]
 refine N7 (v3 hs ps ?_)
 have hno:¬(((((items.size:Nat):Int)-1)==0&&(-1:Int)==1&&items.size==items.size)=true):=by
  intro q
  rw[Oy,Oy]at q
  exact absurd q.1.2 (by decide)
 show wpAny _ _ (if((((items.size:Nat):Int)-1)==0&&(-1:Int)==1&&items.size==items.size)=true then _ else _) _ _ s
 rw[Oe hno,BS]
 first
  |exact N7 (O8 (N9 ⟨_,rfl,N9 h⟩) htake)
  |exact N7 (O8 (N7 (N9 (N9 ⟨_,rfl,N9 h⟩))) htake)
  |exact N7 (N7 (O8 (N9 (N9 ⟨_,rfl,N9 h⟩)) htake))
  |exact N7 (N7 (O8 (N9 ⟨_,rfl,N9 h⟩) htake))
end
end HT
namespace L2
open PySem PySem.Spec PyProof.Rows
section
variable {X:Cx}{Γ:Fx}{E:XK}{e a:Expr}{te:TE}{fa:VF D}{La:List Nat}{ma:Md}{pos p2 p3 p4:Pos}{j:Nat}
def Hf(he:PE X e te):PE X (.Subscript e (.Slice none none (some (.UnaryOp .USub (.Constant (.int 1) j p3) p4)) p2) pos) (λσ H Q=>te σ H λx H1=>∃a xs,x=.ref a/\fF X.K H1 a xs/\∀l,H1 l=none->Q (.ref l) (upd H1 l (.tup xs.reverse))):=by
 intro pins s σ H Q I h
 refine Subscript_ (cI (he pins s σ H _ I h) λv s1 ⟨x,H1,I1,r1,q1⟩=>?_)
 obtain⟨a,xs,rfl,hx,q⟩:=q1
 cases r1
 refine wpAny_Slice ?_
 rw[evalPart_none]
 refine N9 (N9 (cI (Gn (Ic sD nG) pins s1 σ H1 (λo H2=>o=some (-1)/\H2=H1) I1 ⟨1,rfl, -1,rfl,rfl,rfl⟩) λvs s2 ⟨o,H2,I2,ps,q2,q3⟩=>?_))
 subst q2 q3
 have I3:Inv X pins σ H2 {s2 with heap:=s2.heap.push {cls:=.type "slice",data:=.fields #[.none,.none,vs]}}:=I2.kept λb ob q=>Oa _ q
 let⟨its,r,ht,hz⟩:=I3.tuple hx
 have hlen:its.toArray.size=xs.length:=by rw[OK];exact r.length.symm
 refine tail_any ht.typeIs QV.lookup ?_ (by with_unfolding_all rfl)
 refine HT.nz ht (Heap.IsSliceOf.new ..) ps ?_ (by rw[hlen];exact hz)
 refine⟨.ref _,_,I3.laid (λb ob q=>Oa _ q) (Oc _) ?_,rfl,q _ (I3.hok.fresh (Oc _))⟩
 exact⟨by rw[Qv];exact hz,_,r.reverse,wM.new _ _⟩
theorem cE.reverse{K:Frag}{G:Hp}:∀{xs:List V} {ds:List D},cE K G xs ds->cE K G xs.reverse ds.reverse
 |_,_,.nil=>.nil
 |_,_,.cons h hs=>by rw[P4,P4];exact(cE.reverse hs).snoc h
def Lj:D->Option D
 | .tuple ds=>some (.tuple ds.reverse)
 |_=>none
theorem FI(hK:X.K=Γ.K)(ha:SE X Γ E a fa La ma):SE X Γ E (.Subscript a (.Slice none none (some (.UnaryOp .USub (.Constant (.int 1) j p3) p4)) p2) pos) (f1 fa Lj) La .v:=by
 refine PE.post' (Hf ha) ?_
 rintro σ H Q ⟨env,G,B,β,I,o⟩
 refine⟨env,G,B,β,I,o.bnd.imp λd1 β1 h x G1 H1 I1 s1 m1 vx=>?_⟩
 have bx:=vx.brw I.boxThere
 let⟨d,e,k⟩:=h.of
 cases d1 with
 |tuple ds=>
  cases e
  obtain⟨p,xs,rfl,hq,r⟩:=bx.tuple I1.sub
  rw[hK]
  refine⟨p,xs,rfl,hq,λl hl=>?_⟩
  have x:=Ext.new I1.sub (o:=.tup xs.reverse) hl
  exact k _ _ _ (I1.ext x) (s1.trans x.gg) (m1.trans (x.hh.mov B)) (.tup (.inl (.inl av)) ((r.reverse).mono x.gg))
 |_=>cases e
end
end L2
end
namespace L2
open PySem PyProof.Rows
section
variable {X:Cx}{K:Frag}{pins:List V}{σ:St}{H:Hp}{s:Shared}{E:XK}
def MU(ns:List Int):Nat:=(firstMet (λi=>ns.getD i 0) ns.length).length
def Mk(d:D):Option D:=match mQ d with
 |some ds=>(match jO ds with
  |some ns=>if ns.length<=1000 then some (.int (MU ns))else none
  |none=>none)
 |none=>none
theorem cE.intsB{G:Hp}:∀{ns:List Int} {xs:List V},cE K G xs (ns.map int)->xs=ns.map V.int
 | [],_,.nil=>rfl
 |n::ns,_,.cons r t=>by cases r;rw[cE.intsB t];rfl
variable {Γ:Fx}{e a b c:Expr}{f fa fb fc:VF D}{L La Lb:List Nat}{md ma mb mc:Md}{pos:Pos}
def sortI(ns:List Int):List Int:=ns.mergeSort λa b=>decide (a<=b)
def sortI_perm(ns:List Int):(sortI ns).Perm ns:=List.mergeSort_perm ..
def ED(ns:List Int):(sortI ns).Pairwise (· <= ·):=by
 have:=List.pairwise_mergeSort (le:=λa b:Int=>decide (a<=b)) (λa b c h1 h2=>by simp only[OB]at *;omega) (λa b=>by simp only[Rn,OB];omega) ns
 exact this.imp λh=>by simpa using h
def rS{ns ms:List Int}(h:ms.Perm ns)(h2:ms.Pairwise (· <= ·)):ms=sortI ns:=
 List.Perm.eq_of_pairwise (λa b _ _ h1 h2=>by omega) h2 (ED ns) (h.trans (sortI_perm ns).symm)
def Es(K:Frag):List V->Hp->VK->Prop:=λxs H Q=>∃a ns,xs= [.ref a]/\gY K H a (ns.map V.int)/\ns.length<64/\∀l,H l=none->Q (.ref l) (upd H l (.lst ((sortI ns).map V.int)))
theorem Ar:∀{us:List Value} {ns:List Int},IntsAre us ns->Vals (ns.map V.int) us
 |_,_,.nil=>.nil
 |_,_,.cons n t hr=>.cons ⟨t,rfl⟩ (Ar hr)
def zj:dq X (.builtin "sorted") (Es X.K):=by
 intro pins s σ H xs us Q I r h
 obtain⟨a,ns,rfl,hq,hl,q⟩:=h
 obtain⟨u,rfl,rx⟩:=vals1 r
 cases rx
 let⟨its,rv,pl,hz⟩:=I.list hq
 have hil:its.length=ns.length:=by rw[<-rv.length,Ob]
 refine sorted_ints pl.isList (intsAre_of rv) (by omega) λout ns' a1 a2 a3=>?_
 obtain rfl:=rS a2 a3
 let⟨c,he⟩:=sortedAll_at s.heap its out
 have hf:H (s.heap.objs.size+1)=none:=I.hok.fresh (Nat.le_succ _)
 have hz':((sortI ns).map V.int).length<=sizeLine:=by
  have:=a2.length_eq
  rw[Ob,OU];omega
 have I2:Inv X pins σ (upd H (s.heap.objs.size+1) (.lst ((sortI ns).map V.int))) {s with heap:=sortedAll s.heap its out,toks:=s.toks}:=I.laid (λ_ _=>sortedAll_old) (Nat.le_succ _) (show bJ X.prog X.w _ _ _ (.lst ((sortI ns).map V.int))from⟨hz',out.toList,c,Ar a1,he⟩)
 exact⟨.ref _,_,I2,rfl,q _ hf⟩
def rX(d:D):Option D:=match d with
 | .list ds=>(match jO ds with
  |some ns=>if ns.length<64 then some (.list ((sortI ns).map int))else none
  |none=>none)
 |_=>none
theorem Hj:yJ K (λx=>Es K [x]) rX .w:=by
 intro B G H x dx d Q s hB bx e k
 cases dx with
 |list ds=>
  simp only[rX]at e
  cases q2:jO ds with
  |none=>rw[q2]at e;cases e
  |some ns=>
   rw[q2]at e
   dsimp only at e
   split at e
   .rename_i hz
    cases e
    obtain⟨p,xs,rfl,hq,r⟩:=bx.list s
    rw[qI q2]at r
    have r:=r.intsB
    subst r
    refine⟨p,ns,rfl,.inl hq,hz,λl hl=>?_⟩
    have hh:ak H (upd H l (.lst ((sortI ns).map V.int))):=ak.new hl
    refine k _ _ _ (Ext.tups s hh) ⟨l,rfl,hl,?_,_,av,cE.ints _⟩
    unfold c9
    rw[s.free hl,av]
    exact Oe λy=>y
   .cases e
 |_=>cases e
end
end L2
namespace L2
open PySem
mutual
def jq:D->Bool
 | .none=>true
 | .bool _=>true
 | .int _=>true
 | .str _=>true
 | .tuple ds=>jB ds
 | .list _=>false
 | .dict _=>false
def jB:List D->Bool
 | []=>true
 |d::ds=>jq d&&jB ds
end
section
variable {P:Program}{w:World}{K:Frag}{mg:Str->Option Value}{base:Heap}{ca:Str->Addr}{G G' H H':Hp}
mutual
theorem Rp.flat(s:ak G H)(s':ak G' H):∀{x:V} {d:D},Rp K G' x d->jq d=true->Rp K (c9 G H) x d
 |_,_,.non,_=>.non
 |_,_,.bl b,_=>.bl b
 |_,_,.int i,_=>.int i
 |_,_,.str x,_=>.str x
 |_,_,.tup h hs,e=>.tup (fh s (h.grow s'.grow)) (cE.flat s s' hs (by simpa[jq]using e))
 |_,_,.lst h hs,e=>by simp[jq]at e
 |_,_,.scr h,e=>by simp[jq]at e
 |_,_,.dK h hs,e=>by simp[jq]at e
 |_,_,.dT h hs,e=>by simp[jq]at e
theorem cE.flat(s:ak G H)(s':ak G' H):∀{xs:List V} {ds:List D},cE K G' xs ds->jB ds=true->cE K (c9 G H) xs ds
 |_,_,.nil,_=>.nil
 |_,_,.cons h hs,e=>by
  simp only[jB,Oy]at e
  exact .cons (Rp.flat s s' h e.1) (cE.flat s s' hs e.2)
end
def J4:Hp:=λ_=>none
def x9:ak J4 H:=λb o e=>by cases e
theorem FH{b:Addr}{o:HO}(h:c9 J4 H b=some o):Fz o:=by
 unfold c9 at h
 have e:J4 b=none:=rfl
 rw[e]at h
 cases q:H b with
 |none=>rw[q]at h;cases h
 |some u=>
  rw[q]at h
  dsimp only at h
  split at h
  ·rename_i f;cases h;exact f
  ·cases h
end
end L2
namespace L2
open PySem PyProof.Rows
section
variable {X:Cx}{Γ:Fx}{E:XK}{pos:Pos}
def wm:SE X Γ E (.Dict [] [] pos) (cst (.dict [])) [] .w:=by
 refine PE.post' C9 ?_
 rintro σ H Q ⟨env,G,B,β,I,o⟩ p hp
 have o:∀v G' H',SR Γ B G' H' σ (ba [] env) β->ak G G'->iQ B H H'->VO Γ.K B H G' H' .w (.dict []) v->Q v H':=o
 have xn:=Ext.own I.sub (o:=.dT [] 0) hp
 exact o _ _ _ (I.ext xn) (ak.refl _) (xn.hh.mov B) ⟨p,rfl,hp,I.sub.free hp,.inr ⟨([],0),av,.nil⟩⟩
end
end L2
namespace L2
open PySem
section
variable {α γ:Type}
@[simp] theorem m9(a:α)(β:Int)(k:α->Int->R γ):(R.ok a β).bnd k=k a β:=rfl
@[simp] theorem L5(c:Str)(k:α->Int->R γ):(R.exc c:R α).bnd k=.exc c:=rfl
@[simp] theorem L3(k:α->Int->R γ):(R.bad:R α).bnd k=.bad:=rfl
@[simp] theorem M9(a:α)(β:Int)(k:α->Int->R γ):(R.ok a β).okb k=k a β:=rfl
@[simp] theorem vV(a:α)(β:Int):R.of (some a) β=.ok a β:=rfl
@[simp] theorem of_none(β:Int):(R.of none β:R α)=.bad:=rfl
@[simp] theorem Np(a:α)(β:Int)(k:α->Int->SO):toS (.ok a β) k=k a β:=rfl
@[simp] theorem Ma(c:Str)(k:α->Int->SO):toS (.exc c:R α) k=.exc c:=rfl
@[simp] theorem Mh(k:α->Int->SO):toS (.bad:R α) k=.bad:=rfl
end
section
variable (f fa fb fc:VF D)(t u:VF Bool)(m m':SF)(vs:List Nv)(β:Int)(env:En)(i j:Nat)(L:List Nat)
@[simp] theorem HL:gv i vs β=R.of (dat vs[i]?) β:=rfl
@[simp] theorem yI(d:D):dat (some (.da d))=some d:=rfl
@[simp] theorem Nz(d:D):cst d vs β=.ok d β:=rfl
@[simp] theorem NM(g:D->Option D):f1 fa g vs β=(fa vs β).bnd λx β1=>R.of (g x) β1:=rfl
@[simp] theorem NL(g:D->D->Option D):f2 fa fb g vs β=(fa vs β).bnd λx β1=>(fb vs β1).bnd λy β2=>R.of (g x y) β2:=rfl
@[simp] theorem Aj:ao vs β=.ok [] β:=rfl
@[simp] theorem b7(fr:VF (List D)):ab fa fr vs β=(fa vs β).bnd λx β1=>(fr vs β1).bnd λxs β2=>.ok (x::xs) β2:=rfl
@[simp] theorem y1:mD fa vs β=(fa vs β).bnd λx β1=>R.of (Jg x) β1:=rfl
@[simp] theorem yn:sJ t vs β=(t vs β).bnd λc β1=>.ok (!c) β1:=rfl
@[simp] theorem yT:wB t u vs β=(t vs β).bnd λc β1=>if c=true then u vs β1 else .ok false β1:=rfl
@[simp] theorem zC:kT t u vs β=(t vs β).bnd λc β1=>if c=true then .ok true β1 else u vs β1:=rfl
@[simp] theorem LR(n:Bool):tN fa n vs β=(fa vs β).bnd λx β1=>.ok (if n then !yH x else yH x) β1:=rfl
@[simp] theorem My:NX t fa fb vs β=(t vs β).bnd λc β1=>if c=true then fa vs β1 else fb vs β1:=rfl
@[simp] theorem bM(c:Bool){β1:Int}(h:fa vs β=.ok (.bool c) β1):cT fa vs β=.ok c β1:=by unfold cT;rw[h];rfl
@[simp] theorem yK:vl []= []:=rfl
@[simp] theorem vL(s:Sl):vl (s::env)=s.val::vl env:=rfl
@[simp] theorem zb(d:D):(Sl.fz d).val=.da d:=rfl
@[simp] theorem MI(d:D):(Sl.ow d).val=.da d:=rfl
@[simp] theorem NA:Sl.no.val=.no:=rfl
@[simp] theorem MV:Sl.bx.val=.bx:=rfl
@[simp] theorem Mb:ba [] env=env:=rfl
@[simp] theorem LU:ba (i::L) env=ba L (jR env i):=rfl
@[simp] theorem L6:aB m m' env β=(match m env β with
 | .nx env' β'=>m' env' β'
 |r=>r):=rfl
@[simp] theorem Nf:kM L t m m' env β=toS (t (vl env) β) λc β'=>if c=true then m (ba L env) β' else m' (ba L env) β':=rfl
@[simp] theorem AN:bI f env β=toS (f (vl env) β) λd β'=>.rt d false β':=rfl
@[simp] theorem Eb:mJ f env β=toS (f (vl env) β) λd β'=>.rt d true β':=rfl
@[simp] theorem Ms:mG env β=.nx env β:=rfl
@[simp] theorem mB:bq i L f env β=toS (f (vl env) β) λd β'=>.nx ((ba L env).set i (.fz d)) β':=rfl
@[simp] theorem Eo:jk i L f env β=toS (f (vl env) β) λd β'=>.nx ((ba L env).set i (.ow d)) β':=rfl
@[simp] theorem Ld:tZ L f env β=toS (f (vl env) β) λ_ β'=>.nx (ba L env) β':=rfl
end
def aO{m m':SF}{env env':En}{β β':Int}(h:m env β=.nx env' β'):aB m m' env β=m' env' β':=by unfold aB;rw[h]
def zW{m m':SF}{env:En}{β β':Int}{d:D}{b:Bool}(h:m env β=.rt d b β'):aB m m' env β=.rt d b β':=by unfold aB;rw[h]
def uI{L:List Nat}{t:VF Bool}{m m':SF}{env:En}{β β':Int}(h:t (vl env) β=.ok true β'):kM L t m m' env β=m (ba L env) β':=by unfold kM;rw[h];rfl
def pF{L:List Nat}{t:VF Bool}{m m':SF}{env:En}{β β':Int}(h:t (vl env) β=.ok false β'):kM L t m m' env β=m' (ba L env) β':=by unfold kM;rw[h];rfl
def aG{F:List D->FR}{fr:VF (List D)}{vs:List Nv}{β β1:Int}{ds:List D}{d:D}{b:Bool}(h:fr vs β=.ok ds β1)(e:F ds=.ok d b):aA F fr vs β=.ok d β1:=by unfold aA;rw[h];dsimp only[R.bnd];rw[e]
def E2{F:List D->FR}{fr:VF (List D)}{vs:List Nv}{β β1:Int}{ds:List D}{d:D}(h:fr vs β=.ok ds β1)(e:F ds=.ok d true):yb F fr vs β=.ok d β1:=by unfold yb;rw[h];dsimp only[R.bnd];rw[e]
def cD{fa:VF D}{g:D->Option D}{vs:List Nv}{β β1:Int}{x d:D}(h:fa vs β=.ok x β1)(e:g x=some d):f1 fa g vs β=.ok d β1:=by unfold f1;rw[h];dsimp only[R.bnd];rw[e];rfl
def az{fa fb:VF D}{g:D->D->Option D}{vs:List Nv}{β β1 β2:Int}{x y d:D}(h:fa vs β=.ok x β1)(h':fb vs β1=.ok y β2)(e:g x y=some d):f2 fa fb g vs β=.ok d β2:=by unfold f2;rw[h];dsimp only[R.bnd];rw[h'];dsimp only[R.bnd];rw[e];rfl
def iP{i:Nat}{F:List D->Int->FB}{fr:VF (List D)}{vs:List Nv}{β β1 β2:Int}{ds:List D}{d:D}{b:Bool}(hi:ym vs i=true)(h:fr vs β=.ok ds β1)(e:F ds β1=.ok d b β2):mE i F fr vs β=.ok d β2:=by unfold mE;rw[Od hi,h];dsimp only[R.bnd];rw[e]
def sz(n:Nat)(h:n<=1000):n<=sizeLine:=by rw[OU];omega
def KY(n:Nat)(h:n<=1000):n<sizeLine:=by rw[OU];omega
def ju{fr:VF (List D)}{vs:List Nv}{β β1:Int}{ds:List D}(h:fr vs β=.ok ds β1)(hz:ds.length<=1000):bp fr vs β=.ok (.tuple ds) β1:=by unfold bp;rw[h];exact Od (sz _ hz)
def dh{fr:VF (List D)}{vs:List Nv}{β β1:Int}{ds:List D}(h:fr vs β=.ok ds β1)(hz:ds.length<=1000):cP fr vs β=.ok (.list ds) β1:=by unfold cP;rw[h];exact Od (sz _ hz)
def D4{i:Nat}{env:En}{β:Int}{g:List D->Option (List D)}{ds es:List D}(h:env[i]? =some (.ow (.list ds)))(e:g ds=some es):Kg i env β g=.nx (env.set i (.ow (.list es))) β:=by unfold Kg;rw[h];dsimp only;rw[e]
def u5{i:Nat}{L:List Nat}{f:VF D}{env:En}{β β':Int}{ds:List D}{d:D}(hi:env[i]? =some (.ow (.list ds)))(hf:f (vl env) β=.ok d β')(hL:(ba L env)[i]? =some (.ow (.list ds)))(hz:ds.length<=1000):nY i L f env β=.nx ((ba L env).set i (.ow (.list (ds++[d])))) β':=by
 unfold nY
 rw[Od (by rw[hi];rfl),hf]
 exact D4 hL (Od (KY _ hz))
def za{i j:Nat}{L:List Nat}{f:VF D}{env:En}{β β':Int}{ds es es':List D}{k d:D}(hi:env[i]? =some (.ow (.list ds)))(hj:env[j]? =some (.ow (.list es)))(hij:i≠j)(hf:f (vl env) β=.ok k β')(hL:ba L env=env)(hp:A8 es k=some (d,es'))(hz:ds.length<=1000):me i j L f env β=.nx ((env.set j (.ow (.list es'))).set i (.ow (.list (ds++[d])))) β':=by
 unfold me
 rw[Od ⟨by rw[hi];rfl,by rw[hj];rfl,hij⟩,hf,hL]
 dsimp only[toS]
 rw[hj]
 dsimp only
 rw[hp]
 exact D4 (by rw[Oq (Ne.symm hij)];exact hi) (Od (KY _ hz))
def bX{α:Type}{own:Nat}{ixs:List Nat}{t:Tg}{fi:VF (List D)}{fe:VF D}{vs:List Nv}{β β1:Int}{l:List α}{e:α->D}(h:α->D)(hi:fi vs β=.ok (l.map e) β1)(hz:l.length<=1000)
  (hh:∀x,x∈l->∃vs1,sv t (e x) (gO own ixs vs)=some vs1/\fe vs1 β1=.ok (h x) β1):aK own ixs t fi mC fe vs β=.ok (.list (l.map h)) β1:=by
 unfold aK
 rw[hi]
 dsimp only[R.bnd]
 rw[Od (sz _ (by rw[Ob];exact hz))]
 have key:∀m:List α,(∀x,x∈m->x∈l)->iL t mC fe (gO own ixs vs) (m.map e) β1=.ok (m.map h) β1:=by
  intro m
  induction m with
  |nil=>intro _;rfl
  |cons x m ih=>
   intro hm
   let⟨vs1,e1,e2⟩:=hh x (hm x (Ol ..))
   rw[OJ]
   unfold iL
   rw[e1]
   dsimp only
   show(R.ok true β1).okb _=_
   dsimp only[R.okb]
   rw[Od rfl,e2]
   dsimp only
   rw[ih λy hy=>hm y (Og _ hy)];rfl
 rw[key l λ_ h=>h];rfl
def bW{α:Type}{own:Nat}{ixs:List Nat}{t:Tg}{fi:VF (List D)}{ft:VF Bool}{fe:VF D}{vs:List Nv}{β β1:Int}{l:List α}{e:α->D}(g:α->Bool)(h:α->D)(hi:fi vs β=.ok (l.map e) β1)(hz:l.length<=1000)
  (hh:∀x,x∈l->∃vs1,sv t (e x) (gO own ixs vs)=some vs1/\ft vs1 β1=.ok (g x) β1/\(g x=true->fe vs1 β1=.ok (h x) β1)):aK own ixs t fi ft fe vs β=.ok (.list ((l.filter g).map h)) β1:=by
 unfold aK
 rw[hi]
 dsimp only[R.bnd]
 rw[Od (sz _ (by rw[Ob];exact hz))]
 have key:∀m:List α,(∀x,x∈m->x∈l)->iL t ft fe (gO own ixs vs) (m.map e) β1=.ok ((m.filter g).map h) β1:=by
  intro m
  induction m with
  |nil=>intro _;rfl
  |cons x m ih=>
   intro hm
   let⟨vs1,e1,e2,e3⟩:=hh x (hm x (Ol ..))
   have ih:=ih λy hy=>hm y (Og _ hy)
   rw[OJ]
   unfold iL
   rw[e1]
   dsimp only
   rw[e2]
   dsimp only[R.okb]
   cases q:g x with
   |true=>
    rw[Od rfl,e3 q]
    dsimp only
    rw[ih,List.filter_cons_of_pos q];rfl
   |false=>
    rw[Oe OW,ih,List.filter_cons_of_neg (by rw[q];exact OW)]
 rw[key l λ_ h=>h];rfl
theorem eV{t:Tg}{m:SF}(Pv:Nat->En->Int->Prop):∀{ds:List D} {k:Nat} {env:En} {β:Int},Pv k env β->
  (∀i d env β,ds[i]? =some d->Pv (k+i) env β->∃env1,fS t d env=some env1/\∃env2 β2,m env1 β=.nx env2 β2/\Pv (k+i+1) env2 β2)->∃env' β',nr t m ds env β=.nx env' β'/\Pv (k+ds.length) env' β'
 | [],k,env,β,h0,_=>⟨env,β,rfl,h0⟩
 |d::ds,k,env,β,h0,hs=>by
  obtain⟨env1,e1,env2,β2,e2,h1⟩:=hs 0 d env β rfl h0
  obtain⟨env',β',e3,h2⟩:=eV Pv h1 λi d' en be hi hp=>by
   have:=hs (i+1) d' en be (by simpa using hi) (by rw[show k+(i+1)=k+1+i by omega];exact hp)
   rw[show k+(i+1)+1=k+1+i+1 by omega]at this
   exact this
  refine⟨env',β',?_,by rw[ON,show k+(ds.length+1)=k+1+ds.length by omega];exact h2⟩
  unfold nr
  rw[e1]
  dsimp only
  rw[e2]
  exact e3
theorem kj{L:List Nat}{t:VF Bool}{m:SF}(Pv:Nat->En->Int->Prop)(Dn:En->Int->Prop):∀{n k:Nat} {env:En} {β:Int},k<n->Pv k env β->
  (∀k env β,Pv k env β->∃c β1,t (vl env) β=.ok c β1/\((c=false/\Dn (ba L env) β1)\/(c=true/\∃env2 β2 k',m (ba L env) β1=.nx env2 β2/\k'<k/\Pv k' env2 β2)))->∃env' β',gk L t m n env β=.nx env' β'/\Dn env' β'
 | 0,k,env,β,hk,_,_=>by omega
 |n+1,k,env,β,hk,h0,hs=>by
  obtain⟨c,β1,e1,hc⟩:=hs k env β h0
  unfold gk
  rw[e1]
  dsimp only[toS]
  rcases hc with⟨rfl,hd⟩|⟨rfl,env2,β2,k',e2,hl,h1⟩
  .exact⟨_,_,rfl,hd⟩
  .rw[Od rfl,e2]
   exact kj Pv Dn (by omega) h1 hs
end L2
namespace RM
open PySem L2
def rh:SF:=(bI (fX (f1 (gv 0) (ij "int")) (f1 (f1 (gv 0) (ij "bool")) wD)))
def qJ(cg:List D->FR):SF:=(bI (fX (aA cg (ab (gv 0) ao)) (mP (cst (.int 0)) (gv 0) (gv 1) Hy Cp)))
def uK(cg:List D->FR):SF:=(bI (fX (aA cg (ab (gv 0) ao)) (mP (cst (.int 1)) (gv 0) (cst (.int 8)) Hy Hy)))
def tW(fu:List D->FR):SF:=(aB (kM ([]++([]++[])) (kT (sJ (mD (f1 (gv 0) (ij "tuple")))) (cT (f2 (f1 (gv 0) c5) (cst (.int 2)) (cz true))))
 (bI (cst (.bool false)))
 mG)
 (bI (fX (aA fu (ab (f2 (gv 0) (cst (.int 0)) bK) (ab (gv 1) ao))) (aA fu (ab (f2 (gv 0) (cst (.int 1)) bK) (ab (gv 1) ao))))))
def h9:SF:=(mJ (aK 1 [0] (.nm 0) (bF (f2 (gv 0) (gv 0) cU)) mC (bp (ab (f2 (gv 0) (gv 1) Co) (ab (f2 (gv 0) (gv 1) mS) ao)))))
def qX:SF:=(bI (f1 (aK 2 [] (.two 0 1) (bQ (gv 0)) mC (f2 (gv 0) (gv 1) (cz false))) (eT λbs=>bs.any id)))
def iX(iI iJ jL gj:List D->FR):SF:=(aB (kM ([]++([]++[])) (kT (sJ (mD (f1 (gv 0) (ij "tuple")))) (cT (f2 (f1 (gv 0) c5) (cst (.int 2)) (cz true))))
 (bI (cst (.bool false)))
 mG)
 (aB (bq 1 ([]++[]) (f2 (gv 0) (cst (.int 0)) bK))
 (aB (bq 2 ([]++[]) (f2 (gv 0) (cst (.int 1)) bK))
 (aB (kM (([1]++[])++[]) (kT (sJ (mD (aA iI (ab (gv 1) ao)))) (sJ (mD (f1 (gv 2) (ij "tuple")))))
 (bI (cst (.bool false)))
 mG)
 (aB (kM ([]++[1]) (sJ (mD (f1 (aK 1 [1] (.nm 0) (bQ (gv 2)) mC (aA iJ (ab (gv 0) (ab (gv 1) ao)))) (eT λbs=>bs.all id))))
 (bI (cst (.bool false)))
 mG)
 (bI (fX (f2 (gv 2) (aA jL (ab (gv 1) (ab (gv 2) ao))) (cz false)) (f1 (aA gj (ab (gv 2) ao)) wD))))))))
def pH:SF:=(bI (fX (f2 (gv 1) (gv 2) (cz true)) (fX (f2 (bp (ab (gv 1) (ab (gv 2) ao))) (f2 (gv 0) (cst (.int 1)) bK) (Bi true)) (f2 (bp (ab (gv 2) (ab (gv 1) ao))) (f2 (gv 0) (cst (.int 1)) bK) (Bi true)))))
def gX:SF:=(aB (kM ([]++[]) (cT (f2 (gv 1) (f1 (gv 0) c5) Cp))
 (bI (f2 (gv 0) (gv 1) bK))
 mG)
 (bI (cst (.int 0))))
def kx:SF:=(aB (bq 2 [] (cP (NJ [48271,69621,16807,39373,30269,40014,40692,50021,61687,71993,83869,95561,30307]))) (aB (bq 3 ((((([]++[])++[])++([]++([]++[])))++([]++[]))++([]++([]++[]))) (f2 (f2 (f2 (f2 (f2 (gv 0) (cst (.int 2147483647)) mS) (cst (.int 12345)) b5) (f2 (gv 2) (f2 (gv 1) (cst (.int 13)) mS) bK) cU) (f2 (cst (.int 977)) (gv 1) cU) b5) (f2 (cst (.int 7919)) (f2 (gv 1) (cst (.int 13)) Co) cU) b5))
 (aB (bq 3 ([]++[]) (f2 (gv 3) (cst (.int 1000000007)) mS))
 (bI (f2 (f2 (f2 (f2 (gv 3) (gv 3) cU) (f2 (cst (.int 48271)) (gv 1) cU) b5) (cst (.int 1000000007)) mS) (cst (.int 7)) Co)))))
def ki(fA gc:List D->FR):SF:=(aB (bq 2 ([0]++([1]++[])) (aA fA (ab (gv 0) (ab (gv 1) ao))))
 (aB (kM (([]++[])++[]) (cT (f2 (f2 (gv 2) (cst (.int 2)) mS) (cst (.int 0)) (cz false)))
 (mJ (cP (ab (f2 (f1 (gv 2) FJ) (cst (.int 2)) Co) ao)))
 mG)
 (aB (bq 3 [] (cst (.int 0)))
 (aB (c3 (.nm 4) [] (bF (cst (.int 40)))
 (bq 3 (([]++[])++([2]++([4]++[]))) (f2 (f2 (gv 3) (cst (.int 142857143)) cU) (aA gc (ab (gv 2) (ab (gv 4) ao))) b5)))
 (mJ (cP (ab (gv 3) ao)))))))
def fm(aI:List D->Int->FB):SF:=(aB (jk 2 [] (f1 (gv 1) HQ))
 (aB (jk 3 [] (cP ao))
 (aB (gk ([]++[]) (cT (f2 (gv 2) (cP ao) (cz true)))
 (me 3 2 ([]++[]) (mE 0 aI (ab (f1 (gv 2) c5) ao))) 1000)
 (rn 3))))
noncomputable def gG:SF:=(aB (bq 1 [] (f1 (gv 0) dD))
 (aB (bq 2 [] (f1 (cst (.int 1)) yX))
 (aB (gk ([]++[]) (cT (f2 (gv 2) (f1 (gv 1) c5) (cz true)))
 (aB (bq 2 [] (f1 (gv 1) c5))
 (aB (bq 3 [] (cP ao))
 (aB (c3 (.two 4 5) [1] (bQ (gv 1))
 (bq 3 ([]++([]++[4])) (f2 (gv 3) (aK 2 [5,4] (.two 0 1) (bQ (gv 1)) (cT (f2 (gv 0) (gv 2) (cz false))) (bp (ab (gv 3) (ab (gv 1) ao)))) iK)))
 (bq 1 ([]++[]) (f1 (f2 (gv 1) (gv 3) iK) dD))))) 1000)
 (bI (f1 (gv 1) kn)))))
def iB(c8:List D->FR)(aI aH:List D->Int->FB):SF:=(aB (bq 2 ([]++([1]++[])) (f2 (cst (.int 1)) (mE 0 aI (ab (gv 1) ao)) b5))
 (aB (bq 3 ([]++[]) (mE 0 aH (ab (f1 (gv 2) cR) ao)))
 (aB (bq 4 (([]++([]++([]++([]++[]))))++([]++[])) (f2 (cP (ab (cst (.int 2)) (ab (cst (.int 3)) (ab (cst (.int 4)) (ab (cst (.int 7)) ao))))) (mE 0 aI (ab (cst (.int 4)) ao)) bK))
 (aB (jk 5 [] (cP ao))
 (aB (c3 (.nm 6) [] (bF (gv 2))
 (c3 (.nm 7) (([]++[])++[]) (uF (f2 (gv 6) (cst (.int 1)) b5) (gv 2))
 (kM (([4]++[])++[]) (cT (f2 (mE 0 aI (ab (gv 4) ao)) (cst (.int 0)) (cz false)))
 (nY 5 (([]++[])++(([]++[])++[])) (bp (ab (f2 (gv 3) (gv 6) bK) (ab (f2 (gv 3) (gv 7) bK) ao))))
 mG)))
 (bI (bp (ab (gv 2) (ab (aA c8 (ab (gv 5) ao)) ao)))))))))
def oh:SF:=(bI (fX (f2 (gv 1) (gv 2) (cz true)) (fX (f2 (bp (ab (gv 1) (ab (gv 2) ao))) (f2 (gv 0) (cst (.int 1)) bK) (Bi true)) (f2 (bp (ab (gv 2) (ab (gv 1) ao))) (f2 (gv 0) (cst (.int 1)) bK) (Bi true)))))
def qd(bz cX fB:List D->FR):SF:=(aB (tZ ([0]++[]) (aA bz (ab (gv 0) ao)))
 (mJ (aK 2 [0] (.two 0 1) (bQ (aA cX (ab (f2 (gv 0) (cst (.int 0)) bK) ao))) (mD (aA fB (ab (gv 2) (ab (gv 0) (ab (gv 1) ao))))) (bp (ab (gv 0) (ab (gv 1) ao))))))
def JD:D->Bool
 | .int _=>true
 |_=>false
def lY:List D->FR
 | [d]=>if i8 d=true then .bad else .ok (.bool (JD d)) false
 |_=>.bad
def nI{d:D}(h:i8 d=false):lY [d]=.ok (.bool (JD d)) false:=Oe (by rw[h];exact OW)
def Au(ds:List D)(h:lY ds≠.bad):bc 1 1 rh ds=lY ds:=by
 unfold lY at h
 split at h
 .rename_i d
  cases q:i8 d with
  |true=>rw[q]at h;exact absurd rfl h
  |false=>
   rw[nI q]
   have e1:ij "int" d=some (.bool (Ea d "int")):=by unfold ij;rw[q];rfl
   have e2:ij "bool" d=some (.bool (Ea d "bool")):=by unfold ij;rw[q];rfl
   show fin (bI (fX (f1 (gv 0) (ij "int")) (f1 (f1 (gv 0) (ij "bool")) wD)) [.fz d] 0)=_
   unfold bI fX f1 gv
   simp only[vL,yK,zb,List.getElem?_cons_zero,yI,vV,m9,e1,e2]
   cases d<;>rfl
 .exact absurd rfl h
def DQ(d:D)(n:Int):Bool:=match d with
 | .int i=>decide (0<=i/\i<n)
 |_=>false
def j7:List D->FR
 | [d,.int n]=>if i8 d=true then .bad else .ok (.bool (DQ d n)) false
 |_=>.bad
def GS{d:D}{n:Int}(h:i8 d=false):j7 [d,.int n]=.ok (.bool (DQ d n)) false:=Oe (by rw[h];exact OW)
def wo{i lo n:Int}{vs:List Nv}{β:Int}{fa fb fc:VF D}{g':D->D->Option D}{q:Bool}(ha:fa vs β=.ok (.int lo) β)(hb:fb vs β=.ok (.int i) β)(hc:fc vs β=.ok (.int n) β)(hq:g' (.int i) (.int n)=some (.bool q)):mP fa fb fc Hy g' vs β=.ok (.bool (decide (lo<=i)&&q)) β:=by
 unfold mP
 rw[ha];dsimp only[R.bnd];rw[hb];dsimp only[R.bnd]
 show(match(some (PyData.bool (decide (lo<=i))):Option D)with
  |some (.bool true)=>_
  |some (.bool false)=>_
  |_=>_)=_
 by_cases h:lo<=i
 .rw[Ot h]
  dsimp only
  rw[hc]
  dsimp only[R.bnd]
  rw[hq];rfl
 .rw[Oz h];rfl
def FF(ds:List D)(h:j7 ds≠.bad):bc 2 2 (qJ lY) ds=j7 ds:=by
 unfold j7 at h
 split at h
 .rename_i d n
  cases q:i8 d with
  |true=>rw[q]at h;exact absurd rfl h
  |false=>
   rw[GS q]
   show fin (bI (fX (aA lY (ab (gv 0) ao)) (mP (cst (.int 0)) (gv 0) (gv 1) Hy Cp)) [.fz d,.fz (.int n)] 0)=_
   unfold bI fX aA
   simp only[vL,yK,zb,b7,Aj,HL,List.getElem?_cons_zero,yI,vV,m9,nI q]
   cases d with
   |int i=>
    rw[wo rfl rfl rfl rfl]
    show FR.ok (.bool (decide (0<=i)&&decide (i<n))) false=.ok (.bool (decide (0<=i/\i<n))) false
    rw[Bool.decide_and]
   |_=>rfl
 .exact absurd rfl h
def Ig(d:D):Bool:=match d with
 | .int i=>decide (1<=i/\i<=8)
 |_=>false
def mK:List D->FR
 | [d]=>if i8 d=true then .bad else .ok (.bool (Ig d)) false
 |_=>.bad
def Dz{d:D}(h:i8 d=false):mK [d]=.ok (.bool (Ig d)) false:=Oe (by rw[h];exact OW)
def JJ(ds:List D)(h:mK ds≠.bad):bc 1 1 (uK lY) ds=mK ds:=by
 unfold mK at h
 split at h
 .rename_i d
  cases q:i8 d with
  |true=>rw[q]at h;exact absurd rfl h
  |false=>
   rw[Dz q]
   show fin (bI (fX (aA lY (ab (gv 0) ao)) (mP (cst (.int 1)) (gv 0) (cst (.int 8)) Hy Hy)) [.fz d] 0)=_
   unfold bI fX aA
   simp only[vL,yK,zb,b7,Aj,HL,List.getElem?_cons_zero,yI,vV,m9,nI q]
   cases d with
   |int i=>
    rw[wo rfl rfl rfl rfl]
    show FR.ok (.bool (decide (1<=i)&&decide (i<=8))) false=.ok (.bool (decide (1<=i/\i<=8))) false
    rw[Bool.decide_and]
   |_=>rfl
 .exact absurd rfl h
def pairF:List D->FR
 | [d,.int n]=>(match rQ d with
  |some p=>.ok (.bool (decide ((0<=p.1/\p.1<n)/\(0<=p.2/\p.2<n)))) false
  |none=>.bad)
 |_=>.bad
def CJ(p:Pr)(n:Int):pairF [aq p,.int n]=.ok (.bool (decide ((0<=p.1/\p.1<n)/\(0<=p.2/\p.2<n)))) false:=rfl
def JB(ds:List D)(h:pairF ds≠.bad):bc 2 2 (tW j7) ds=pairF ds:=by
 unfold pairF at h
 split at h
 .rename_i d n
  cases q:rQ d with
  |none=>rw[q]at h;exact absurd rfl h
  |some p=>
   obtain rfl:=xM q
   rw[CJ]
   let⟨a,b⟩:=p
   show fin (toS (fX (aA j7 (ab (f2 (gv 0) (cst (.int 0)) bK) (ab (gv 1) ao))) (aA j7 (ab (f2 (gv 0) (cst (.int 1)) bK) (ab (gv 1) ao))) [.da (.tuple [.int a,.int b]),.da (.int n)] 0) λd β'=>.rt d false β')=_
   have e1:aA j7 (ab (f2 (gv 0) (cst (.int 0)) bK) (ab (gv 1) ao)) [.da (.tuple [.int a,.int b]),.da (.int n)] 0=.ok (.bool (decide (0<=a/\a<n))) 0:=rfl
   have e2:aA j7 (ab (f2 (gv 0) (cst (.int 1)) bK) (ab (gv 1) ao)) [.da (.tuple [.int a,.int b]),.da (.int n)] 0=.ok (.bool (decide (0<=b/\b<n))) 0:=rfl
   unfold fX
   rw[e1]
   dsimp only[R.bnd]
   by_cases c:0<=a/\a<n
   .rw[Ot c,e2]
    show FR.ok (.bool (decide (0<=b/\b<n))) false=.ok (.bool (decide ((0<=a/\a<n)/\(0<=b/\b<n)))) false
    simp[c]
   .rw[Oz c]
    show FR.ok (.bool false) false=.ok (.bool (decide ((0<=a/\a<n)/\(0<=b/\b<n)))) false
    simp[c]
 .exact absurd rfl h
def aN(n:Nat)(l:List Pr):D:=.tuple [.int n,.tuple (l.map aq)]
open Classical in
noncomputable def uy(f:Nat->List Pr->FR):D->FR:=λd=>if h:∃nl:Nat×List Pr,d=aN nl.1 nl.2/\OM.Ord nl.1 nl.2 then f (Classical.choose h).1 (Classical.choose h).2 else .bad
def GK{p q:Pr}(h:aq p=aq q):p=q:=by
 let⟨a,b⟩:=p
 let⟨c,d⟩:=q
 unfold aq at h
 simp at h
 rw[h.1,h.2]
theorem pJ:∀{l m:List Pr},l.map aq=m.map aq->l=m
 | [],[],_=>rfl
 | [],_::_,h=>by cases h
 |_::_,[],h=>by cases h
 |p::l,q::m,h=>by
  simp only[OJ,List.cons.injEq]at h
  rw[GK h.1,pJ h.2]
def Eh{n m:Nat}{l k:List Pr}(h:aN n l=aN m k):n=m/\l=k:=by
 unfold aN at h
 simp only[PyData.tuple.injEq,List.cons.injEq,int.injEq,and_true]at h
 exact⟨by omega,pJ h.2⟩
def wR{f:Nat->List Pr->FR}{n:Nat}{l:List Pr}(O:OM.Ord n l):uy f (aN n l)=f n l:=by
 unfold uy
 have h:∃nl:Nat×List Pr,aN n l=aN nl.1 nl.2/\OM.Ord nl.1 nl.2:=⟨(n,l),rfl,O⟩
 rw[dif_pos h]
 let⟨e,_⟩:=Classical.choose_spec h
 let⟨e1,e2⟩:=Eh e
 rw[<-e1,<-e2]
def xy{f:Nat->List Pr->FR}{d:D}(h:uy f d≠.bad):∃n l,d=aN n l/\OM.Ord n l:=by
 unfold uy at h
 by_cases q:∃nl:Nat×List Pr,d=aN nl.1 nl.2/\OM.Ord nl.1 nl.2
 .let⟨nl,e,O⟩:=q;exact⟨nl.1,nl.2,e,O⟩
 .rw[dif_neg q]at h;exact absurd rfl h
noncomputable def dZ:List D->FR
 | [.int n,d]=>(match mQ d with
  |some ds=>(match gy ds with
   |some ps=>(open Classical in if 1<=n/\n<=8/\OM.Wn n.toNat ps then .ok (.tuple ((OM.cB n.toNat (OM.Tr (OM.Mem ps))).map aq)) false else .bad)
   |none=>.bad)
  |none=>.bad)
 |_=>.bad
def EM{n:Nat}{ps:List Pr}(h1:1<=n)(h8:n<=8)(w:OM.Wn n ps):dZ [.int n,.tuple (ps.map aq)]=.ok (.tuple ((OM.cB n (OM.Tr (OM.Mem ps))).map aq)) false:=by
 unfold dZ
 simp only[mQ,fq]
 rw[Od ⟨by omega,by omega,by rw[Pc];exact w⟩,Pc]
def kS:List D->FR
 | [.tuple ds]=>(match gy ds with
  |some ps=>if ps.length<=1000 then .ok (.bool (ps.any λp=>decide (p.1=p.2))) false else .bad
  |none=>.bad)
 |_=>.bad
theorem mq{α:Type}(f:α->Bool):∀l:List α,lX (l.map λx=>PyData.bool (f x))=some (l.map f)
 | []=>rfl
 |x::l=>by
  show(lX (l.map λx=>PyData.bool (f x))).map (f x :: ·)=_
  rw[mq f l];rfl
def IS(ds:List D)(h:kS ds≠.bad):bc 1 1 qX ds=kS ds:=by
 unfold kS at h
 split at h
 .rename_i ds
  cases q:gy ds with
  |none=>rw[q]at h;exact absurd rfl h
  |some ps=>
   rw[q]at h
   dsimp only at h
   by_cases hz:ps.length<=1000
   case neg=>rw[Oe hz]at h;exact absurd rfl h
   obtain rfl:=jV q
   have e:kS [.tuple (ps.map aq)]=.ok (.bool (ps.any λp=>decide (p.1=p.2))) false:=by
    unfold kS;simp only[fq];rw[Od hz]
   rw[e]
   have ec:aK 2 [] (.two 0 1) (bQ (gv 0)) mC (f2 (gv 0) (gv 1) (cz false)) [.da (.tuple (ps.map aq))] 0=.ok (.list (ps.map λp=>PyData.bool (decide (p.1=p.2)))) 0:=by
    exact bX (e:=aq) (λp=>PyData.bool (decide (p.1=p.2))) rfl hz λp hp=>⟨_,rfl,rfl⟩
   show fin (toS ((aK 2 [] (.two 0 1) (bQ (gv 0)) mC (f2 (gv 0) (gv 1) (cz false)) [.da (.tuple (ps.map aq))] 0).bnd λx β1=>R.of (eT (λbs=>bs.any id) x) β1) λd β'=>.rt d false β')=_
   rw[ec]
   simp only[m9,eT]
   rw[mq]
   simp[fin,List.any_map]
 .exact absurd rfl h
def oI(p:Pr):SeqAt.shaped (aq p)=true:=rfl
theorem ql:∀l:List Pr,PyData.canLayAll0 (l.map aq)=true
 | []=>rfl
 |p::l=>by
  show((aq p).canLay0&&PyData.canLayAll0 (l.map aq))=true
  rw[ql l];rfl
theorem pZ:∀l:List Pr,PyData.depthAll (l.map aq)<=1
 | []=>by show(0:Nat)<=1;omega
 |p::l=>by
  show max (aq p).depth (PyData.depthAll (l.map aq))<=1
  have h1:(aq p).depth=1:=by simp[aq,PyData.depth,PyData.depthAll]
  have h2:=pZ l
  omega
def sk(l:List Pr):SeqAt.shaped (.tuple (l.map aq))=true:=by
 unfold SeqAt.shaped
 have h1:(PyData.tuple (l.map aq)).canLay0=true:=by simp only[PyData.canLay0];exact ql l
 have h2:(PyData.tuple (l.map aq)).depth<=64:=by simp only[PyData.depth];have:=pZ l;omega
 rw[h1,Ot h2];rfl
def rl(l:List Pr):SeqAt.shaped (.list (l.map aq))=true:=by
 unfold SeqAt.shaped
 have h1:(PyData.list (l.map aq)).canLay0=true:=by simp only[PyData.canLay0];exact ql l
 have h2:(PyData.list (l.map aq)).depth<=64:=by simp only[PyData.depth];have:=pZ l;omega
 rw[h1,Ot h2];rfl
def DI(p q:Pr):PyData.eqv (aq p) (aq q)=decide (p=q):=by
 let⟨a,b⟩:=p
 let⟨c,d⟩:=q
 simp only[aq,PyData.eqv,PyData.eqvAll,Bool.and_true]
 rw[Qa]
 simp
theorem qe:∀l m:List Pr,PyData.eqvAll (l.map aq) (m.map aq)=decide (l=m)
 | [],[]=>rfl
 | [],_::_=>rfl
 |_::_,[]=>rfl
 |p::l,q::m=>by
  show(PyData.eqv (aq p) (aq q)&&PyData.eqvAll (l.map aq) (m.map aq))=_
  rw[DI,qe l m,Qa]
  simp
def Al{n:Nat}{l:List Pr}(O:OM.Ord n l):l.length<64:=by
 have h8:=O.hi
 have e:=O.closed
 by_cases h:l.length<64
 .exact h
 .exfalso
  have h1:l.length<=n*n:=by rw[<-e];exact OM.D9 _ _
  have h2:n*n<=64:=Py h8 h8
  have hn:n=8:=by
   by_cases h7:n<=7
   .have:n*n<=7*7:=Py h7 h7
    omega
   .omega
  have hlen:l.length=n*n:=by subst hn;omega
  have hg:l=OM.bY n:=by
   refine OM.sub_eq O.ris (OM.dC n) (λx hx=>OM.aY.mpr (O.wn x hx)) ?_
   rw[hlen];unfold OM.bY;simp
  have:((0:Int),(0:Int))∈l:=by rw[hg];exact OM.aY.mpr ⟨⟨by omega,by omega⟩,by omega,by omega⟩
  exact O.irr 0 this
def D8{n:Nat}(h1:1<=n)(h8:n<=8):mK [.int n]=.ok (.bool true) false:=by
 rw[Dz rfl]
 show FR.ok (.bool (decide (1<=(n:Int)/\(n:Int)<=8))) false=_
 rw[Ot (by omega)]
def wj(neg:Bool)(l m:List Pr):cz neg (.tuple (l.map aq)) (.tuple (m.map aq))=some (.bool (if neg then !decide (l=m)else decide (l=m))):=by
 unfold cz
 rw[sk,sk]
 simp only[Qd,O9,PyData.eqv,qe]
def Ex(neg:Bool)(l m:List Pr):cz neg (.list (l.map aq)) (.list (m.map aq))=some (.bool (if neg then !decide (l=m)else decide (l=m))):=by
 unfold cz
 rw[rl,rl]
 simp only[Qd,O9,PyData.eqv,qe]
def GC{n:Nat}{l:List Pr}(O:OM.Ord n l):kS [.tuple (l.map aq)]=.ok (.bool false) false:=by
 have hl:=Al O
 unfold kS
 simp only[fq]
 rw[Od (by omega)]
 have:(l.any λp=>decide (p.1=p.2))=false:=by
  rw[List.any_eq_false]
  intro p hp
  simp only[OB]
  intro e
  let⟨a,b⟩:=p
  simp only at e
  subst e
  exact O.irr a hp
 rw[this]
def BM{n:Nat}{l:List Pr}(O:OM.Ord n l):bc 3 1 (iX mK pairF dZ kS) [aN n l]=.ok (.bool true) false:=by
 have hl:=Al O
 show fin (iX mK pairF dZ kS [.fz (aN n l),.no,.no] 0)=_
 unfold iX
 rw[aO (by rfl)]
 rw[aO (by rfl)]
 rw[aO (by rfl)]
 have e4:aA mK (ab (gv 1) ao) [.da (aN n l),.da (.int n),.da (.tuple (l.map aq))] 0=.ok (.bool true) 0:=aG rfl (D8 O.lo O.hi)
 rw[aO (β':=0) ?h4]
 case h4=>
  refine pF ?_
  show kT (sJ (mD (aA mK (ab (gv 1) ao)))) _ [.da (aN n l),.da (.int n),.da (.tuple (l.map aq))] 0=_
  rw[zC,yn,y1,e4]
  rfl
 have e5:aK 1 [1] (.nm 0) (bQ (gv 2)) mC (aA pairF (ab (gv 0) (ab (gv 1) ao))) [.da (aN n l),.da (.int n),.da (.tuple (l.map aq))] 0=.ok (.list (l.map λ_=>PyData.bool true)) 0:=by
  refine bX (λ_=>PyData.bool true) rfl (by omega) λp hp=>⟨_,rfl,aG (b:=false) rfl ?_⟩
  rw[CJ,Ot (by have:=O.wn p hp;exact this)]
 rw[aO (β':=0) ?h5]
 case h5=>
  refine pF ?_
  show sJ (mD (f1 (aK 1 [1] (.nm 0) (bQ (gv 2)) mC (aA pairF (ab (gv 0) (ab (gv 1) ao)))) (eT λbs=>bs.all id))) [.da (aN n l),.da (.int n),.da (.tuple (l.map aq))] 0=_
  rw[yn,y1,cD (d:=.bool true) e5 (by simp only[eT];rw[mq];simp)]
  rfl
 have e6:aA dZ (ab (gv 1) (ab (gv 2) ao)) [.da (aN n l),.da (.int n),.da (.tuple (l.map aq))] 0=.ok (.tuple (l.map aq)) 0:=aG rfl (by rw[EM O.lo O.hi O.wn,O.closed])
 have e7:aA kS (ab (gv 2) ao) [.da (aN n l),.da (.int n),.da (.tuple (l.map aq))] 0=.ok (.bool false) 0:=aG rfl (GC O)
 show fin (toS (fX (f2 (gv 2) (aA dZ (ab (gv 1) (ab (gv 2) ao))) (cz false)) (f1 (aA kS (ab (gv 2) ao)) wD) [.da (aN n l),.da (.int n),.da (.tuple (l.map aq))] 0) _)=_
 unfold fX
 rw[az (d:=.bool true) rfl e6 (by rw[wj];simp)]
 dsimp only[R.bnd]
 rw[cD (d:=.bool true) e7 rfl]
 rfl
noncomputable def iN:List D->FR
 | [d]=>uy (λ_ _=>.ok (.bool true) false) d
 |_=>.bad
def uq{n:Nat}{l:List Pr}(O:OM.Ord n l):iN [aN n l]=.ok (.bool true) false:=by simp only[iN];exact wR O
def zh(ds:List D)(h:iN ds≠.bad):bc 3 1 (iX mK pairF dZ kS) ds=iN ds:=by
 unfold iN at h
 split at h
 .obtain⟨n,l,rfl,O⟩:=xy h
  rw[BM O,uq O]
 .exact absurd rfl h
noncomputable def mN:List D->FR
 | [d]=>uy (λ_ _=>.ok .none false) d
 |_=>.bad
def yw{n:Nat}{l:List Pr}(O:OM.Ord n l):mN [aN n l]=.ok .none false:=by simp only[mN];exact wR O
abbrev i6(ns:List Int):D:=.dict [(.none,.list (ns.map int))]
def m8{i j:Int}(h: -(2^64)<i/\i<2^64):cU (.int i) (.int j)=some (.int (i*j)):=Od (by dsimp only;rw[Ot h.1,Ot h.2];rfl)
def J3{i j:Int}(h: -(2^64)<j/\j<2^64):cU (.int i) (.int j)=some (.int (i*j)):=Od (by dsimp only;rw[Ot h.1,Ot h.2,Qd,Bool.or_true])
def o9{i j:Int}(h:0<j):mS (.int i) (.int j)=some (.int (i%j)):=Od (Ot h)
def AR{i j:Int}(h:0<j)(h2:j<1073741824):Co (.int i) (.int j)=some (.int (i/j)):=Od (by dsimp only;rw[Ot h,Ot h2];rfl)
theorem dm{α β:Type}(f:α->β)(l:List α)(i:Int):jw (l.map f) i=(jw l i).map f:=by
 unfold jw
 rw[Ob]
 cases AW l.length i with
 |none=>rfl
 |some j=>simp
def pd{α:Type}{l:List α}{k:Nat}(h:k<l.length):jw l (k:Int)=some l[k]:=je (N8 h)
def Jz{fa fb:VF D}{vs:List Nv}{β β1 β2:Int}{i j:Int}(h:fa vs β=.ok (.int i) β1)(h':fb vs β1=.ok (.int j) β2):cT (f2 fa fb Cp) vs β=.ok (decide (i<j)) β2:=bM _ _ _ _ (az h h' rfl)
def df{neg:Bool}{fa fb:VF D}{vs:List Nv}{β β1 β2:Int}{i j:Int}(h:fa vs β=.ok (.int i) β1)(h':fb vs β1=.ok (.int j) β2):cT (f2 fa fb (cz neg)) vs β=.ok (if neg then !decide (i=j)else decide (i=j)) β2:=by
 refine bM _ _ _ _ (az h h' ?_)
 cases neg<;>rfl
def JT(ns:List Int)(k:Nat):∃z,bc 2 2 gX [i6 ns,.int k]=.ok (.int z) false:=by
 show ∃z,fin (gX [.fz (i6 ns),.fz (.int k)] 0)=.ok (.int z) false
 unfold gX
 have e:cT (f2 (gv 1) (f1 (gv 0) c5) Cp) [.da (i6 ns),.da (.int k)] 0=.ok (decide ((k:Int)<(ns.map int).length)) 0:=Jz rfl rfl
 by_cases h:k<ns.length
 .refine⟨ns[k],?_⟩
  rw[Ot (by simp;exact h)]at e
  rw[zW]
  .rfl
  .rw[uI e]
   show toS (f2 (gv 0) (gv 1) bK [.da (i6 ns),.da (.int k)] 0) _=_
   rw[az rfl rfl]
   .rfl
   .show jw (ns.map int) (k:Int)=_
    rw[dm,pd h];rfl
 .refine⟨0,?_⟩
  rw[Oz (by simp;omega)]at e
  rw[aO]
  .rfl
  .rw[pF e];rfl
noncomputable def zV:List D->FR:=bc 2 2 gX
noncomputable def DG:List D->FR:=bc 4 2 kx
abbrev E5:List Int:=[48271,69621,16807,39373,30269,40014,40692,50021,61687,71993,83869,95561,30307]
def Kj(c k:Int):∃z,DG [.int c,.int k]=.ok (.int z) false:=by
 show ∃z,fin (kx [.fz (.int c),.fz (.int k),.no,.no] 0)=.ok (.int z) false
 unfold kx
 rw[aO (by rfl)]
 obtain⟨j,hj⟩:∃j:Nat,k%13=j:=⟨(k%13).toNat,by omega⟩
 have hj13:j<E5.length:=by show j<13;omega
 have e1:f2 (f2 (f2 (f2 (f2 (gv 0) (cst (.int 2147483647)) mS) (cst (.int 12345)) b5) (f2 (gv 2) (f2 (gv 1) (cst (.int 13)) mS) bK) cU) (f2 (cst (.int 977)) (gv 1) cU) b5) (f2 (cst (.int 7919)) (f2 (gv 1) (cst (.int 13)) Co) cU) b5 [.da (.int c),.da (.int k),.da (.list (E5.map int)),.no] 0
   =.ok (.int ((c%2147483647+12345)*E5[j]+977*k+7919*(k/13))) 0:=by
  refine az (az (az (az (az rfl rfl (o9 (by omega))) rfl rfl) (az rfl (az rfl rfl (o9 (by omega))) ?_) (m8 ⟨by omega,by omega⟩)) (az rfl rfl (m8 ⟨by omega,by omega⟩)) rfl) (az rfl (az rfl rfl (AR (by omega) (by omega))) (m8 ⟨by omega,by omega⟩)) rfl
  show jw (E5.map int) (k%13)=_
  rw[hj,dm,pd hj13];rfl
 generalize((c%2147483647+12345)*E5[j]+977*k+7919*(k/13))=st at e1
 rw[aO ?h]
 case h=>
  show toS (f2 _ _ b5 [.da (.int c),.da (.int k),.da (.list (E5.map int)),.no] 0) _=_
  rw[e1];rfl
 have e2:f2 (gv 3) (cst (.int 1000000007)) mS [.da (.int c),.da (.int k),.da (.list (E5.map int)),.da (.int st)] 0=.ok (.int (st%1000000007)) 0:=az rfl rfl (o9 (by omega))
 rw[aO ?h2]
 case h2=>
  show toS (f2 (gv 3) (cst (.int 1000000007)) mS [.da (.int c),.da (.int k),.da (.list (E5.map int)),.da (.int st)] 0) _=_
  rw[e2];rfl
 have hb: -(2^64)<st%1000000007/\st%1000000007<2^64:=⟨by omega,by omega⟩
 generalize st%1000000007=u at hb
 have e3:f2 (f2 (f2 (f2 (gv 3) (gv 3) cU) (f2 (cst (.int 48271)) (gv 1) cU) b5) (cst (.int 1000000007)) mS) (cst (.int 7)) Co [.da (.int c),.da (.int k),.da (.list (E5.map int)),.da (.int u)] 0=.ok (.int ((u*u+48271*k)%1000000007/7)) 0:=
  az (az (az (az rfl rfl (m8 hb)) (az rfl rfl (m8 ⟨by omega,by omega⟩)) rfl) rfl (o9 (by omega))) rfl (AR (by omega) (by omega))
 refine⟨(u*u+48271*k)%1000000007/7,?_⟩
 show fin (toS (f2 _ (cst (.int 7)) Co [.da (.int c),.da (.int k),.da (.list (E5.map int)),.da (.int u)] 0) _)=_
 rw[e3];rfl
noncomputable def KG:List D->FR:=bc 5 2 (ki zV DG)
def KW(ns:List Int)(k:Nat):∃z,KG [i6 ns,.int k]=.ok (.list [.int z]) true:=by
 let⟨c,hc⟩:=JT ns k
 show ∃z,fin (ki zV DG [.fz (i6 ns),.fz (.int k),.no,.no,.no] 0)=.ok (.list [.int z]) true
 unfold ki
 have e0:aA zV (ab (gv 0) (ab (gv 1) ao)) [.da (i6 ns),.da (.int k),.no,.no,.no] 0=.ok (.int c) 0:=aG rfl hc
 rw[aO ?h]
 case h=>
  show toS (aA zV _ [.da (i6 ns),.da (.int k),.no,.no,.no] 0) _=_
  rw[e0];rfl
 have e1:cT (f2 (f2 (gv 2) (cst (.int 2)) mS) (cst (.int 0)) (cz false)) [.da (i6 ns),.da (.int k),.da (.int c),.no,.no] 0=.ok (decide (c%2=0)) 0:=df (az rfl rfl (o9 (by omega))) rfl
 by_cases h:c%2=0
 .rw[Ot h]at e1
  refine⟨(if c<0 then -c else c)/2,?_⟩
  rw[zW]
  .rfl
  .rw[uI e1]
   show toS (cP (ab (f2 (f1 (gv 2) FJ) (cst (.int 2)) Co) ao) [.da (i6 ns),.da (.int k),.da (.int c),.no,.no] 0) _=_
   rw[dh]
   .rfl
   .have e2:f2 (f1 (gv 2) FJ) (cst (.int 2)) Co [.da (i6 ns),.da (.int k),.da (.int c),.no,.no] 0=.ok (.int ((if c<0 then -c else c)/2)) 0:=az (cD rfl rfl) rfl (AR (by omega) (by omega))
    rw[b7,e2];rfl
   .simp
 .rw[Oz h]at e1
  rw[aO (by rw[pF e1];rfl)]
  rw[aO (by rfl)]
  obtain⟨env',β',el,z,x,rfl,rfl⟩:=eV (t:=.nm 4) (m:=bq 3 (([]++[])++([2]++([4]++[]))) (f2 (f2 (gv 3) (cst (.int 142857143)) cU) (aA DG (ab (gv 2) (ab (gv 4) ao))) b5)) (ds:=cV 0 40) (k:=0)
   (λ_ env β=>∃(z:Int) (x:Sl),env= [.fz (i6 ns),.fz (.int k),.fz (.int c),.fz (.int z),x]/\β=0) ⟨0,.no,rfl,rfl⟩ (by
    rintro i d env β hi ⟨z,x,rfl,rfl⟩
    obtain⟨j,rfl⟩:∃j:Int,d=.int j:=by
     unfold cV at hi
     rw[Om]at hi
     cases q:(List.range 40)[i]? with
     |none=>rw[q]at hi;cases hi
     |some j=>rw[q]at hi;cases hi;exact⟨_,rfl⟩
    let⟨y,hy⟩:=Kj c j
    refine⟨_,rfl,_,_,?_,z*142857143+y,.fz (.int j),rfl,rfl⟩
    show toS (f2 (f2 (gv 3) (cst (.int 142857143)) cU) (aA DG (ab (gv 2) (ab (gv 4) ao))) b5 [.da (i6 ns),.da (.int k),.da (.int c),.da (.int z),.da (.int j)] 0) _=_
    rw[az (az rfl rfl (J3 ⟨by omega,by omega⟩)) (aG rfl hy) rfl]
    rfl)
  refine⟨z,?_⟩
  rw[aO ?h2]
  case h2=>exact el
  show fin (toS (cP (ab (gv 3) ao) [.da (i6 ns),.da (.int k),.da (.int c),.da (.int z),x.val] 0) _)=_
  rw[dh rfl (by simp)]
  rfl
noncomputable def iW:List D->Int->FB:=sU 4 1 (fm dA)
theorem lay_ints:∀ns:List Int,PyData.canLayAll0 (ns.map int)=true
 | []=>rfl
 |n::ns=>by
  show((int n).canLay0&&PyData.canLayAll0 (ns.map int))=true
  rw[lay_ints ns];rfl
theorem rk:∀ns:List Int,PyData.depthAll (ns.map int)=0
 | []=>rfl
 |n::ns=>by
  show max (int n).depth (PyData.depthAll (ns.map int))=0
  rw[rk ns];rfl
def shaped_ints(ns:List Int):SeqAt.shaped (.list (ns.map int))=true:=by
 unfold SeqAt.shaped
 have h1:(PyData.list (ns.map int)).canLay0=true:=by simp only[PyData.canLay0];exact lay_ints ns
 have h2:(PyData.list (ns.map int)).depth<=64:=by simp only[PyData.depth];rw[rk];omega
 rw[h1,Ot h2];rfl
theorem qC:∀l m:List Int,PyData.eqvAll (l.map int) (m.map int)=decide (l=m)
 | [],[]=>rfl
 | [],_::_=>rfl
 |_::_,[]=>rfl
 |p::l,q::m=>by
  show((p==q)&&PyData.eqvAll (l.map int) (m.map int))=_
  rw[qC l m,Qa]
  simp
def qy(neg:Bool)(l m:List Int):cz neg (.list (l.map int)) (.list (m.map int))=some (.bool (if neg then !decide (l=m)else decide (l=m))):=by
 unfold cz
 rw[shaped_ints,shaped_ints]
 simp only[Qd,O9,PyData.eqv,qC]
theorem i5{α:Type}:∀{l:List α} {k:Nat} {x:α},l[k]? =some x->(x::l.eraseIdx k).Perm l
 | [],_,_,h=>by simp at h
 |y::l,0,x,h=>by simp at h;subst h;exact List.Perm.refl _
 |y::l,k+1,x,h=>by
  have h:l[k]? =some x:=by simpa using h
  have ih:=i5 h
  exact(List.Perm.swap y x _).trans (ih.cons y)
theorem ua{α β:Type}(f:α->β):∀(l:List α) (k:Nat),(l.map f).eraseIdx k=(l.eraseIdx k).map f
 | [],_=>rfl
 |_::_,0=>rfl
 |x::l,k+1=>by simp[ua f l k]
def u9(ns:List Int)(hz:ns.length<=100)(β:Int):∃(ms:List Int) (β':Int),iW [.list (ns.map int)] β=.ok (.list (ms.map int)) true β'/\ms.Perm ns:=by
 show ∃(ms:List Int) (β':Int),Ce (fm dA [.bx,.fz (.list (ns.map int)),.no,.no] β)=.ok (.list (ms.map int)) true β'/\ms.Perm ns
 unfold fm
 rw[aO (by rfl)]
 have ez:cP ao [Nv.bx,.da (.list (ns.map int)),.da (.list (ns.map int)),.no] β=.ok (.list []) β:=dh rfl (by simp)
 rw[aO (env':=[.bx,.fz (.list (ns.map int)),.ow (.list (ns.map int)),.ow (.list [])]) ?h]
 case h=>
  show toS (cP ao [Nv.bx,.da (.list (ns.map int)),.da (.list (ns.map int)),.no] β) _=_
  rw[ez];rfl
 obtain⟨env',β',ew,ms,rfl,hp⟩:=kj (L:=[]++[])
  (λk env β=>∃ls ms:List Int,env= [.bx,.fz (.list (ns.map int)),.ow (.list (ls.map int)),.ow (.list (ms.map int))]/\(ms++ls).Perm ns/\k=ls.length)
  (λenv β=>∃ms:List Int,env= [.bx,.fz (.list (ns.map int)),.ow (.list []),.ow (.list (ms.map int))]/\ms.Perm ns) (n:=1000) (env:=[.bx,.fz (.list (ns.map int)),.ow (.list (ns.map int)),.ow (.list [])]) (by omega) ⟨ns,[],rfl,by simp,rfl⟩ (by
   rintro k env β ⟨ls,ms,rfl,hp,rfl⟩
   have e1:cP ao [Nv.bx,.da (.list (ns.map int)),.da (.list (ls.map int)),.da (.list (ms.map int))] β=.ok (.list (([]:List Int).map int)) β:=dh rfl (by simp)
   have et:cT (f2 (gv 2) (cP ao) (cz true)) [Nv.bx,.da (.list (ns.map int)),.da (.list (ls.map int)),.da (.list (ms.map int))] β=.ok (!decide (ls= [])) β:=
    bM _ _ _ _ (az rfl e1 (by rw[qy];rfl))
   refine⟨_,_,et,?_⟩
   have hlen:=hp.length_eq
   rw[OO]at hlen
   cases ls with
   |nil=>exact .inl ⟨rfl,ms,rfl,by simpa using hp⟩
   |cons y ys=>
    refine .inr ⟨rfl,?_⟩
    have hm:(0:Int)<((y::ys).length:Nat)/\(((y::ys).length:Nat):Int)<1073741824:=by
     have:(y::ys).length<=100:=by omega
     constructor
     .simp
     .omega
    obtain⟨j,hj⟩:∃j:Nat,β%(((y::ys).length:Nat):Int)=j:=⟨(β%(((y::ys).length:Nat):Int)).toNat,by have:=Int.emod_nonneg β (b:=(((y::ys).length:Nat):Int)) (by omega);omega⟩
    have hj2:j<(y::ys).length:=by have:=Int.emod_lt_of_pos β hm.1;omega
    have ef:mE 0 dA (ab (f1 (gv 2) c5) ao) [Nv.bx,.da (.list (ns.map int)),.da (.list ((y::ys).map int)),.da (.list (ms.map int))] β=.ok (.int (j:Int)) (β/(((y::ys).length:Nat):Int)):=by
     refine iP (by rfl) ?_ (by rw[vE hm.1 hm.2,hj])
     show R.ok [int ((((y::ys).map int).length:Nat):Int)] β=_
     rw[Ob]
    have hpop:A8 ((y::ys).map int) (.int (j:Int))=some (.int (y::ys)[j],((y::ys).eraseIdx j).map int):=by
     unfold A8
     dsimp only
     rw[Od ⟨by omega,by omega⟩]
     have es:seqIndex? (j:Int) ((y::ys).map int).length=some j:=by
      rw[Ob]
      exact PySem.StrLaws.seqIndex_nonneg (by omega) (by omega)
     rw[es]
     dsimp only
     rw[Om,N8 hj2,ua];rfl
    refine⟨[.bx,.fz (.list (ns.map int)),.ow (.list (((y::ys).eraseIdx j).map int)),.ow (.list ((ms++[(y::ys)[j]]).map int))],β/(((y::ys).length:Nat):Int),((y::ys).eraseIdx j).length,?_,?_,(y::ys).eraseIdx j,ms++[(y::ys)[j]],rfl,?_,rfl⟩
    .show me 3 2 ([]++[]) (mE 0 dA (ab (f1 (gv 2) c5) ao)) [.bx,.fz (.list (ns.map int)),.ow (.list ((y::ys).map int)),.ow (.list (ms.map int))] β=_
     rw[za (by rfl) (by rfl) (by decide) ef (by rfl) hpop (by rw[Ob];omega),OL]
     rfl
    .rw[List.length_eraseIdx]
     rw[Od hj2]
     simp
    .rw[P5]
     exact(List.Perm.append_left ms (i5 (N8 hj2))).trans hp)
 refine⟨ms,β',?_,hp⟩
 rw[aO ew]
 rfl
def HR{n:Nat}{l:List Pr}(h8:n<=8)(w:OM.Wn n l):OM.cB 8 (OM.Mem l)=OM.cB n (OM.Mem l):=by
 refine OM.dO (OM.cA _ _) (OM.cA _ _) λx=>?_
 rw[OM.aJ,OM.aJ]
 constructor
 .rintro⟨_,h⟩;exact⟨w x h,h⟩
 .rintro⟨h1,h⟩;exact⟨⟨⟨h1.1.1,by omega⟩,h1.2.1,by omega⟩,h⟩
def Ap{n:Nat}{l:List Pr}(h1:1<=n)(h8:n<=8)(w:OM.Wn n l)(nd:l.Nodup)(irr:∀a,(a,a)∉l):l.length<64:=by
 have:=OM.rT (m:=OM.bY n) (OS.mpr ⟨irr 0,nd⟩) (λx hx=>by
  rcases Oo.mp hx with e|e
  .subst e;exact OM.aY.mpr ⟨⟨by simp,by simp;omega⟩,by simp,by simp;omega⟩
  .exact OM.aY.mpr (w x e))
 have hg:(OM.bY n).length=n*n:=by unfold OM.bY;simp
 have hn:n*n<=64:=Py h8 h8
 rw[hg,ON]at this
 omega
def y0{n:Nat}{l:List Pr}(h8:n<=8)(w:OM.Wn n l):l.all I0=true:=by
 rw[Pa]
 intro p hp
 have:=w p hp
 unfold I0
 rw[Ot this.1.1,Ot (by omega:p.1<8),Ot this.2.1,Ot (by omega:p.2<8)];rfl
def pC{n:Nat}{l:List Pr}{d:D}(h8:n<=8)(w:OM.Wn n l)(hl:(OM.cB n (OM.Mem l)).length<64)(hd:mQ d=some (l.map aq)):dD d=some (.list ((OM.cB n (OM.Mem l)).map aq)):=by
 unfold dD
 rw[hd]
 simp only[fq]
 rw[HR h8 w,Od ⟨y0 h8 w,hl⟩]
def zd(l:List Pr)(p:Pr):List Pr:=(l.filter λq=>decide (q.1=p.2)).map λq=>(p.1,q.2)
def zX(l:List Pr)(p:Pr):(zd l p).length<=l.length:=by unfold zd;rw[Ob];exact O6 ..
theorem xI(l m:List Pr):(m.flatMap (zd l)).length<=m.length*l.length:=by
 induction m with
 |nil=>simp
 |cons p m ih=>
  rw[List.flatMap_cons,OO,ON,Nat.succ_mul]
  have:=zX l p
  omega
def kg{a b:List D}(h:a.length+b.length<=10000):iK (.list a) (.list b)=some (.list (a++b)):=Od (by rw[OU];omega)
noncomputable def jP:List D->FR:=bc 6 1 gG
def BA{n:Nat}{ps:List Pr}(h1:1<=n)(h8:n<=8)(w:OM.Wn n ps)(irr:∀a,¬OM.Tr (OM.Mem ps) a a):jP [.list (ps.map aq)]=.ok (.tuple ((OM.cB n (OM.Tr (OM.Mem ps))).map aq)) false:=by
 have blen:∀{l:List Pr},OM.HP n ps l->l.length<64:=λ{l} B=>Ap h1 h8 B.wn (OM.eN B.ris) λa ha=>irr a (B.sup _ ha)
 show fin (gG [.fz (.list (ps.map aq)),.no,.no,.no,.no,.no] 0)=_
 unfold gG
 have B0:=OM.Ca w
 have e0:f1 (gv 0) dD [.da (.list (ps.map aq)),.no,.no,.no,.no,.no] 0=.ok (.list ((OM.cB n (OM.Mem ps)).map aq)) 0:=cD rfl (pC h8 w (blen B0) rfl)
 rw[aO ?h0]
 case h0=>
  show toS (f1 (gv 0) dD [.da (.list (ps.map aq)),.no,.no,.no,.no,.no] 0) _=_
  rw[e0];rfl
 rw[aO (env':=[.fz (.list (ps.map aq)),.fz (.list ((OM.cB n (OM.Mem ps)).map aq)),.fz (.int (-1)),.no,.no,.no]) (by rfl)]
 obtain⟨env',β',ew,rfl,x,sz,a,b,rfl⟩:=kj (L:=[]++[])
  (λk env β=>β=0/\∃(l:List Pr) (sz:Int) (x a b:Sl),env= [.fz (.list (ps.map aq)),.fz (.list (l.map aq)),.fz (.int sz),x,a,b]/\OM.HP n ps l/\(sz= -1\/∃lp,OM.HP n ps lp/\l=OM.k6 n lp/\sz=lp.length)/\k=2*(64-l.length)+(if sz=l.length then 0 else 1))
  (λenv β=>β=0/\∃(x sz a b:Sl),env= [.fz (.list (ps.map aq)),.fz (.list ((OM.cB n (OM.Tr (OM.Mem ps))).map aq)),sz,x,a,b])
  (n:=1000)
  (by split<;>omega) ⟨rfl,_,_,_,_,_,rfl,B0,.inl rfl,rfl⟩ (by
   rintro k env β ⟨rfl,l,sz,x,a,b,rfl,B,hsz,rfl⟩
   have hl:=blen B
   have et:cT (f2 (gv 2) (f1 (gv 1) c5) (cz true)) [.da (.list (ps.map aq)),.da (.list (l.map aq)),.da (.int sz),x.val,a.val,b.val] 0=.ok (!decide (sz=((l.map aq).length:Nat))) 0:=df rfl rfl
   rw[Ob]at et
   refine⟨_,_,et,?_⟩
   by_cases c:sz=(l.length:Nat)
   .refine .inl ⟨by rw[Ot c];rfl,rfl,x,.fz (.int sz),a,b,?_⟩
    rcases hsz with h|⟨lp,Bp,rfl,h⟩
    .omega
    .show [Sl.fz (.list (ps.map aq)),.fz (.list ((OM.k6 n lp).map aq)),.fz (.int sz),x,a,b]=_
     rw[OM.DR Bp (by omega)]
   .refine .inr ⟨by rw[Oz c];rfl,?_⟩
    let⟨B2,hs⟩:=OM.wd B
    have hl2:=blen B2
    have hge:l.length<=(OM.k6 n l).length:=OM.rT (OM.eN B.ris) hs
    have eturn:∃x' a' b':Sl,aB (bq 2 [] (f1 (gv 1) c5)) (aB (bq 3 [] (cP ao)) (aB (c3 (.two 4 5) [1] (bQ (gv 1)) (bq 3 ([]++([]++[4])) (f2 (gv 3) (aK 2 [5,4] (.two 0 1) (bQ (gv 1)) (cT (f2 (gv 0) (gv 2) (cz false))) (bp (ab (gv 3) (ab (gv 1) ao)))) iK))) (bq 1 ([]++[]) (f1 (f2 (gv 1) (gv 3) iK) dD)))) [.fz (.list (ps.map aq)),.fz (.list (l.map aq)),.fz (.int sz),x,a,b] 0
      =.nx [.fz (.list (ps.map aq)),.fz (.list ((OM.k6 n l).map aq)),.fz (.int (l.length:Nat)),x',a',b'] 0:=by
     rw[aO ?g1]
     case g1=>
      show SO.nx [.fz (.list (ps.map aq)),.fz (.list (l.map aq)),.fz (.int ((l.map aq).length:Nat)),x,a,b] 0=_
      rw[Ob]
     have e3:cP ao [.da (.list (ps.map aq)),.da (.list (l.map aq)),.da (.int (l.length:Nat)),x.val,a.val,b.val] 0=.ok (.list []) 0:=dh rfl (by simp)
     rw[aO ?g2]
     case g2=>
      show toS (cP ao [.da (.list (ps.map aq)),.da (.list (l.map aq)),.da (.int (l.length:Nat)),x.val,a.val,b.val] 0) _=_
      rw[e3];rfl
     obtain⟨env2,β2,ef,rfl,a2,b2,rfl⟩:=eV (t:=.two 4 5) (m:=bq 3 ([]++([]++[4])) (f2 (gv 3) (aK 2 [5,4] (.two 0 1) (bQ (gv 1)) (cT (f2 (gv 0) (gv 2) (cz false))) (bp (ab (gv 3) (ab (gv 1) ao)))) iK)) (ds:=l.map aq)
      (λi env β=>β=0/\∃a b:Sl,env= [.fz (.list (ps.map aq)),.fz (.list (l.map aq)),.fz (.int (l.length:Nat)),.fz (.list (((l.take i).flatMap (zd l)).map aq)),a,b]) ⟨rfl,a,b,rfl⟩ (by
       rintro i d env β hi ⟨rfl,a,b,rfl⟩
       rw[Om]at hi
       cases q:l[i]? with
       |none=>rw[q]at hi;cases hi
       |some p=>
        rw[q]at hi
        cases hi
        have hil:i<l.length:=(Ov.mp q).1
        refine⟨[.fz (.list (ps.map aq)),.fz (.list (l.map aq)),.fz (.int (l.length:Nat)),.fz (.list (((l.take (0+i)).flatMap (zd l)).map aq)),.fz (.int p.1),.fz (.int p.2)],rfl,[.fz (.list (ps.map aq)),.fz (.list (l.map aq)),.fz (.int (l.length:Nat)),.fz (.list (((l.take (0+i+1)).flatMap (zd l)).map aq)),.fz (.int p.1),.fz (.int p.2)],0,?_,rfl,_,_,rfl⟩
        have ec:aK 2 [5,4] (.two 0 1) (bQ (gv 1)) (cT (f2 (gv 0) (gv 2) (cz false))) (bp (ab (gv 3) (ab (gv 1) ao))) [.da (.list (ps.map aq)),.da (.list (l.map aq)),.da (.int (l.length:Nat)),.da (.list (((l.take (0+i)).flatMap (zd l)).map aq)),.da (.int p.1),.da (.int p.2)] 0=.ok (.list ((zd l p).map aq)) 0:=by
         rw[bW (λq=>decide (q.1=p.2)) (λq=>aq (p.1,q.2)) rfl (by omega)]
         .unfold zd;rw[OX];rfl
         .intro q hq
          exact⟨_,rfl,df rfl rfl,λ_=>(ju rfl (by simp))⟩
        have hk:(l.take (0+i)).length<=63:=by rw[PL];omega
        have hfl:=xI l (l.take (0+i))
        have hfl2:(l.take (0+i)).length*l.length<=63*63:=Py hk (by omega)
        have hm1:=zX l p
        have e5:f2 (gv 3) (aK 2 [5,4] (.two 0 1) (bQ (gv 1)) (cT (f2 (gv 0) (gv 2) (cz false))) (bp (ab (gv 3) (ab (gv 1) ao)))) iK [.da (.list (ps.map aq)),.da (.list (l.map aq)),.da (.int (l.length:Nat)),.da (.list (((l.take (0+i)).flatMap (zd l)).map aq)),.da (.int p.1),.da (.int p.2)] 0=.ok (.list (((l.take (0+i+1)).flatMap (zd l)).map aq)) 0:=by
         refine az rfl ec ?_
         rw[kg (by rw[Ob,Ob];omega),<-OL]
         have:l.take (0+i+1)=l.take (0+i)++[p]:=by rw[Pk,Pu,q];rfl
         rw[this,List.flatMap_append,List.flatMap_cons,List.flatMap_nil,QD]
        show toS (f2 (gv 3) (aK 2 [5,4] (.two 0 1) (bQ (gv 1)) (cT (f2 (gv 0) (gv 2) (cz false))) (bp (ab (gv 3) (ab (gv 1) ao)))) iK [.da (.list (ps.map aq)),.da (.list (l.map aq)),.da (.int (l.length:Nat)),.da (.list (((l.take (0+i)).flatMap (zd l)).map aq)),.da (.int p.1),.da (.int p.2)] 0) _=_
        rw[e5];rfl)
     rw[Pk,Ob,Q4 (Oc _)]at ef
     rw[aO ?g3]
     case g3=>exact ef
     have hfl:=xI l l
     have hfl2:l.length*l.length<=63*63:=Py (by omega) (by omega)
     have e6:f1 (f2 (gv 1) (gv 3) iK) dD [.da (.list (ps.map aq)),.da (.list (l.map aq)),.da (.int (l.length:Nat)),.da (.list ((l.flatMap (zd l)).map aq)),a2.val,b2.val] 0=.ok (.list ((OM.k6 n l).map aq)) 0:=by
      refine cD (x:=.list ((l++OM.more l).map aq)) (az rfl rfl ?_) (pC h8 (OM.Dx B) hl2 rfl)
      rw[kg (by rw[Ob,Ob];omega),<-OL];rfl
     refine⟨.fz (.list ((l.flatMap (zd l)).map aq)),a2,b2,?_⟩
     show toS (f1 (f2 (gv 1) (gv 3) iK) dD [.da (.list (ps.map aq)),.da (.list (l.map aq)),.da (.int (l.length:Nat)),.da (.list ((l.flatMap (zd l)).map aq)),a2.val,b2.val] 0) _=_
     rw[e6];rfl
    let⟨x',a',b',et2⟩:=eturn
    refine⟨_,_,_,et2,?_,rfl,_,_,_,_,_,rfl,B2,.inr ⟨l,B,rfl,rfl⟩,rfl⟩
    rw[Oe c]
    split<;>omega)
 rw[aO ew]
 rfl
def xO(ms:List Int)(ps:List Pr):Prop:=∀p,p∈ps->∃i j:Nat,i<j/\ms[i]? =some p.1/\ms[j]? =some p.2
theorem eY{α:Type}:∀{l:List α} {i j:Nat} {x:α},l.Nodup->l[i]? =some x->l[j]? =some x->i=j
 | [],_,_,_,_,h,_=>by simp at h
 |y::l,0,0,_,_,_,_=>rfl
 |y::l,0,j+1,x,nd,h1,h2=>by
  simp at h1
  subst h1
  exact absurd (Oi (by simpa using h2)) (OS.mp nd).1
 |y::l,i+1,0,x,nd,h1,h2=>by
  simp at h2
  subst h2
  exact absurd (Oi (by simpa using h1)) (OS.mp nd).1
 |y::l,i+1,j+1,x,nd,h1,h2=>by
  rw[eY (l:=l) (i:=i) (j:=j) (OS.mp nd).2 (by simpa using h1) (by simpa using h2)]
def CL{ms:List Int}{ps:List Pr}(nd:ms.Nodup)(h:xO ms ps){a b:Int}(t:OM.Tr (OM.Mem ps) a b):∃i j:Nat,i<j/\ms[i]? =some a/\ms[j]? =some b:=by
 refine t.least (S:=λa b=>∃i j:Nat,i<j/\ms[i]? =some a/\ms[j]? =some b) (λa b r=>h _ r) ?_
 rintro a b c ⟨i,j,hij,h1,h2⟩ ⟨k,l,hkl,h3,h4⟩
 have:=eY nd h2 h3
 exact⟨i,l,by omega,h1,h4⟩
def Bj{ms:List Int}{ps:List Pr}(nd:ms.Nodup)(h:xO ms ps)(a:Int):¬OM.Tr (OM.Mem ps) a a:=λt=>by
 let⟨i,j,hij,h1,h2⟩:=CL nd h t
 have:=eY nd h1 h2
 omega
def bD(n:Nat):List Int:=(List.range n).map λ(k:Nat)=>(k:Int)
def bL(n:Nat):(bD n).length=n:=by unfold bD;simp
def aE{n:Nat}{x:Int}:x∈bD n↔0<=x/\x<n:=by
 unfold bD
 rw[Of]
 constructor
 .rintro⟨k,hk,rfl⟩
  have:=OI.mp hk
  omega
 .intro h
  exact⟨x.toNat,OI.mpr (by omega),by omega⟩
def dX(n:Nat):(bD n).Nodup:=by
 unfold bD
 rw[PN,O5]
 exact(PN.mp Qx).imp λ{a b} h e=>h (by omega)
def iH(n:Nat):cV 0 n=(bD n).map int:=by
 unfold cV bD
 rw[OX]
 refine PD λk _=>?_
 rw[Pn];rfl
theorem fP{lo:Int}{n i:Nat}{d:D}(h:(cV lo n)[i]? =some d):i<n/\d=.int (lo+i):=by
 unfold cV at h
 rw[Om]at h
 cases q:(List.range n)[i]? with
 |none=>rw[q]at h;cases h
 |some j=>
  rw[q]at h
  cases h
  let⟨hi,ej⟩:=Ov.mp q
  rw[P6]at hi
  rw[List.getElem_range]at ej
  subst ej
  exact⟨hi,rfl⟩
def jo{n:Nat}(h:n<=1000):cR (.int n)=some (.list ((bD n).map int)):=by
 unfold cR
 dsimp only
 rw[Od ⟨by omega,by omega⟩,Pc,iH]
def cf{fa:VF D}{vs:List Nv}{β β1:Int}{n:Nat}(h:fa vs β=.ok (.int n) β1)(hn:n<=1000):bF fa vs β=.ok (cV 0 n) β1:=by
 unfold bF
 rw[h]
 simp only[m9]
 rw[Od (oP (by omega) (by omega)),Pc]
def CY{fa fb:VF D}{vs:List Nv}{β β1 β2:Int}{i j:Int}(h:fa vs β=.ok (.int i) β1)(h':fb vs β1=.ok (.int j) β2)(hi:0<=i/\i<=1000)(hj:0<=j/\j<=1000):uF fa fb vs β=.ok (cV i (j-i).toNat) β2:=by
 unfold uF
 rw[h]
 simp only[m9]
 rw[h']
 simp only[m9]
 rw[Od (by rw[oP (by omega) (by omega),oP (by omega) (by omega)];rfl)]
def eZ{t:Tg}{L:List Nat}{fi:VF (List D)}{m:SF}{env:En}{β β1:Int}{ds:List D}(h:fi (vl env) β=.ok ds β1):c3 t L fi m env β=nr t m ds (ba L env) β1:=by unfold c3;rw[h];rfl
noncomputable def Aq:List D->Int->FB:=sU 8 1 (iB jP dA iW)
def BH{n:Nat}{ms:List Int}{ps:List Pr}(h1:1<=n)(h8:n<=8)(hp:ms.Perm (bD n))(ha:xO ms ps):OM.Wn n ps/\(∀a,¬OM.Tr (OM.Mem ps) a a)/\OM.Ord n (OM.cB n (OM.Tr (OM.Mem ps))):=by
 have nd:ms.Nodup:=hp.nodup_iff.mpr (dX n)
 have w:OM.Wn n ps:=λp hm=>by
  let⟨i,j,_,e1,e2⟩:=ha p hm
  have m1:=aE.mp (hp.mem_iff.mp (Oi e1))
  have m2:=aE.mp (hp.mem_iff.mp (Oi e2))
  exact⟨m1,m2⟩
 have ir:=λa=>Bj nd ha a
 exact⟨w,ir,OM.IA h1 h8 w ir⟩
def lI{m:Nat}(h:1<=m)(h2:m<=1000)(β:Int):∃j:Nat,j<m/\dA [.int m] β=.ok (.int (j:Int)) false (β/m):=by
 refine⟨(β%m).toNat,?_,?_⟩
 .have h0:=Int.emod_nonneg β (b:=(m:Int)) (by omega)
  have h3:=Int.emod_lt_of_pos β (b:=(m:Int)) (by omega)
  omega
 .rw[vE (by omega) (by omega)]
  have h0:=Int.emod_nonneg β (b:=(m:Int)) (by omega)
  rw[show((β%m).toNat:Int)=β%m by omega]
def Ep{most:Nat}(hm1:1<=most)(hm8:most<=8)(β:Int):∃(n:Nat) (l:List Pr) (β':Int),Aq [.int most] β=.ok (aN n l) false β'/\OM.Ord n l/\n<=most:=by
 let⟨j,hj,ej⟩:=lI hm1 (by omega) β
 show ∃(n:Nat) (l:List Pr) (β':Int),Ce (iB jP dA iW [.bx,.fz (.int most),.no,.no,.no,.no,.no,.no] β)=.ok (aN n l) false β'/\OM.Ord n l/\n<=most
 unfold iB
 generalize hβ1:β/(most:Int)=β1 at ej
 have n8:1+j<=8:=by omega
 have e1:f2 (cst (.int 1)) (mE 0 dA (ab (gv 1) ao)) b5 [Nv.bx,.da (.int most),.no,.no,.no,.no,.no,.no] β=.ok (.int ((1+j:Nat):Int)) β1:=by
  refine az rfl (iP (by rfl) rfl ej) ?_
  show some (int (1+(j:Int)))=_
  rw[show((1+j:Nat):Int)=1+(j:Int) by omega]
 rw[aO ?g1]
 case g1=>
  show toS (f2 (cst (.int 1)) (mE 0 dA (ab (gv 1) ao)) b5 [Nv.bx,.da (.int most),.no,.no,.no,.no,.no,.no] β) _=_
  rw[e1];rfl
 generalize hn:1+j=n at n8
 have n1:1<=n:=by omega
 let⟨ms,β2,em,hp⟩:=u9 (bD n) (by rw[bL];omega) β1
 have hml:ms.length=n:=by rw[hp.length_eq,bL]
 have e2:mE 0 iW (ab (f1 (gv 2) cR) ao) [Nv.bx,.da (.int most),.da (.int n),.no,.no,.no,.no,.no] β1=.ok (.list (ms.map int)) β2:=by
  refine iP (by rfl) ?_ em
  rw[b7,cD rfl (jo (by omega))];rfl
 rw[aO ?g2]
 case g2=>
  show toS (mE 0 iW (ab (f1 (gv 2) cR) ao) [Nv.bx,.da (.int most),.da (.int n),.no,.no,.no,.no,.no] β1) _=_
  rw[e2];rfl
 let⟨q,hq,eq⟩:=lI (m:=4) (by omega) (by omega) β2
 obtain⟨th,hth,hthv⟩:∃th:Nat,([2,3,4,7]:List Nat)[q]? =some th/\1<=th/\th<=7:=by
  rcases(show q=0\/q=1\/q=2\/q=3 by omega)with rfl|rfl|rfl|rfl
  .exact⟨2,rfl,by omega,by omega⟩
  .exact⟨3,rfl,by omega,by omega⟩
  .exact⟨4,rfl,by omega,by omega⟩
  .exact⟨7,rfl,by omega,by omega⟩
 generalize hβ3:β2/((4:Nat):Int)=β3 at eq
 have e3:f2 (cP (ab (cst (.int 2)) (ab (cst (.int 3)) (ab (cst (.int 4)) (ab (cst (.int 7)) ao))))) (mE 0 dA (ab (cst (.int 4)) ao)) bK [Nv.bx,.da (.int most),.da (.int n),.da (.list (ms.map int)),.no,.no,.no,.no] β2=.ok (.int th) β3:=by
  refine az (dh rfl (by simp)) (iP (by rfl) rfl eq) ?_
  show jw (([2,3,4,7]:List Nat).map λ(k:Nat)=>int (k:Int)) (q:Int)=_
  rw[dm,je hth];rfl
 rw[aO ?g3]
 case g3=>
  show toS (f2 (cP (ab (cst (.int 2)) (ab (cst (.int 3)) (ab (cst (.int 4)) (ab (cst (.int 7)) ao))))) (mE 0 dA (ab (cst (.int 4)) ao)) bK [Nv.bx,.da (.int most),.da (.int n),.da (.list (ms.map int)),.no,.no,.no,.no] β2) _=_
  rw[e3];rfl
 have e4:cP ao [Nv.bx,.da (.int most),.da (.int n),.da (.list (ms.map int)),.da (.int th),.no,.no,.no] β3=.ok (.list []) β3:=dh rfl (by simp)
 rw[aO (env':=[.bx,.fz (.int most),.fz (.int n),.fz (.list (ms.map int)),.fz (.int th),.ow (.list []),.no,.no]) ?g4]
 case g4=>
  show toS (cP ao [Nv.bx,.da (.int most),.da (.int n),.da (.list (ms.map int)),.da (.int th),.no,.no,.no] β3) _=_
  rw[e4];rfl
 obtain⟨env',β',ef,ps,a,b,rfl,hal,hpl⟩:=eV (t:=.nm 6) (m:=c3 (.nm 7) (([]++[])++[]) (uF (f2 (gv 6) (cst (.int 1)) b5) (gv 2))
   (kM (([4]++[])++[]) (cT (f2 (mE 0 dA (ab (gv 4) ao)) (cst (.int 0)) (cz false)))
   (nY 5 (([]++[])++(([]++[])++[])) (bp (ab (f2 (gv 3) (gv 6) bK) (ab (f2 (gv 3) (gv 7) bK) ao)))) mG)) (ds:=cV 0 n) (k:=0)
  (λi env β=>∃(ps:List Pr) (a b:Sl),env= [.bx,.fz (.int most),.fz (.int n),.fz (.list (ms.map int)),.fz (.int th),.ow (.list (ps.map aq)),a,b]/\xO ms ps/\ps.length<=8*i)
  ⟨[],.no,.no,rfl,λp hp=>(by cases hp),by simp⟩ (by
   rintro i d env β hi ⟨ps,a,b,rfl,hal,hpl⟩
   obtain⟨hin,rfl⟩:=fP hi
   refine⟨[.bx,.fz (.int most),.fz (.int n),.fz (.list (ms.map int)),.fz (.int th),.ow (.list (ps.map aq)),.fz (.int (0+(i:Int))),b],rfl,?_⟩
   have er:uF (f2 (gv 6) (cst (.int 1)) b5) (gv 2) [Nv.bx,.da (.int most),.da (.int n),.da (.list (ms.map int)),.da (.int th),.da (.list (ps.map aq)),.da (.int (0+(i:Int))),b.val] β=.ok (cV (0+(i:Int)+1) ((n:Int)-(0+(i:Int)+1)).toNat) β:=CY rfl rfl ⟨by omega,by omega⟩ ⟨by omega,by omega⟩
   rw[eZ er]
   obtain⟨env',β',ef,qs,b,rfl,hal2,hql⟩:=eV (t:=.nm 7) (m:=kM (([4]++[])++[]) (cT (f2 (mE 0 dA (ab (gv 4) ao)) (cst (.int 0)) (cz false)))
     (nY 5 (([]++[])++(([]++[])++[])) (bp (ab (f2 (gv 3) (gv 6) bK) (ab (f2 (gv 3) (gv 7) bK) ao)))) mG) (ds:=cV (0+(i:Int)+1) ((n:Int)-(0+(i:Int)+1)).toNat) (k:=0)
    (λk env β=>∃(qs:List Pr) (b:Sl),env= [.bx,.fz (.int most),.fz (.int n),.fz (.list (ms.map int)),.fz (.int th),.ow (.list (qs.map aq)),.fz (.int (0+(i:Int))),b]/\xO ms qs/\qs.length<=8*i+k)
    ⟨ps,b,rfl,hal,by omega⟩ (by
     rintro k d env β hk ⟨qs,b,rfl,hal,hql⟩
     obtain⟨hkn,rfl⟩:=fP hk
     have hkn:i+1+k<n:=by omega
     refine⟨[.bx,.fz (.int most),.fz (.int n),.fz (.list (ms.map int)),.fz (.int th),.ow (.list (qs.map aq)),.fz (.int (0+(i:Int))),.fz (.int (0+(i:Int)+1+(k:Int)))],rfl,?_⟩
     let⟨z,hz,ez⟩:=lI hthv.1 (by omega) β
     have et:cT (f2 (mE 0 dA (ab (gv 4) ao)) (cst (.int 0)) (cz false)) [Nv.bx,.da (.int most),.da (.int n),.da (.list (ms.map int)),.da (.int th),.da (.list (qs.map aq)),.da (.int (0+(i:Int))),.da (.int (0+(i:Int)+1+(k:Int)))] β=.ok (decide ((z:Int)=0)) (β/th):=df (iP (by rfl) rfl ez) rfl
     by_cases c:(z:Int)=0
     .rw[Ot c]at et
      have h1:i<ms.length:=by omega
      have h2:i+1+k<ms.length:=by omega
      refine⟨[.bx,.fz (.int most),.fz (.int n),.fz (.list (ms.map int)),.fz (.int th),.ow (.list ((qs++[(ms[i],ms[i+1+k])]).map aq)),.fz (.int (0+(i:Int))),.fz (.int (0+(i:Int)+1+(k:Int)))],β/th,?_,qs++[(ms[i],ms[i+1+k])],_,rfl,?_,?_⟩
      .rw[uI et]
       have ep:bp (ab (f2 (gv 3) (gv 6) bK) (ab (f2 (gv 3) (gv 7) bK) ao)) [Nv.bx,.da (.int most),.da (.int n),.da (.list (ms.map int)),.da (.int th),.da (.list (qs.map aq)),.da (.int (0+(i:Int))),.da (.int (0+(i:Int)+1+(k:Int)))] (β/th)=.ok (aq (ms[i],ms[i+1+k])) (β/th):=by
        refine ju ?_ (by simp)
        have a1:f2 (gv 3) (gv 6) bK [Nv.bx,.da (.int most),.da (.int n),.da (.list (ms.map int)),.da (.int th),.da (.list (qs.map aq)),.da (.int (0+(i:Int))),.da (.int (0+(i:Int)+1+(k:Int)))] (β/th)=.ok (.int ms[i]) (β/th):=by
         refine az rfl rfl ?_
         show jw (ms.map int) (0+(i:Int))=_
         rw[Pn,dm,pd h1];rfl
        have a2:f2 (gv 3) (gv 7) bK [Nv.bx,.da (.int most),.da (.int n),.da (.list (ms.map int)),.da (.int th),.da (.list (qs.map aq)),.da (.int (0+(i:Int))),.da (.int (0+(i:Int)+1+(k:Int)))] (β/th)=.ok (.int ms[i+1+k]) (β/th):=by
         refine az rfl rfl ?_
         show jw (ms.map int) (0+(i:Int)+1+(k:Int))=_
         rw[show(0+(i:Int)+1+(k:Int))=((i+1+k:Nat):Int) by omega,dm,pd h2];rfl
        rw[b7,a1]
        dsimp only[R.bnd]
        rw[b7,a2];rfl
       have:=u5 (i:=5) (L:=([]++[])++(([]++[])++[])) (env:=[.bx,.fz (.int most),.fz (.int n),.fz (.list (ms.map int)),.fz (.int th),.ow (.list (qs.map aq)),.fz (.int (0+(i:Int))),.fz (.int (0+(i:Int)+1+(k:Int)))]) (by rfl) ep (by rfl) (by rw[Ob];omega)
       rw[OL]
       exact this
      .intro p hp
       rcases Ox.mp hp with hp|hp
       .exact hal p hp
       .have:p=(ms[i],ms[i+1+k]):=by simpa using hp
        subst this
        exact⟨i,i+1+k,by omega,N8 h1,N8 h2⟩
      .rw[OO];simp;omega
     .rw[Oz c]at et
      refine⟨_,_,by rw[pF et];rfl,qs,_,rfl,hal,by omega⟩)
   have hlen:(cV (0+(i:Int)+1) ((n:Int)-(0+(i:Int)+1)).toNat).length<=7:=by rw[dP];omega
   exact⟨_,_,ef,qs,_,b,rfl,hal2,by omega⟩)
 rw[aO ?g5]
 case g5=>
  rw[eZ (cf rfl (by omega))]
  exact ef
 let⟨w,ir,O⟩:=BH n1 n8 hp hal
 refine⟨n,OM.cB n (OM.Tr (OM.Mem ps)),β',?_,O,by omega⟩
 have e9:bp (ab (gv 2) (ab (aA jP (ab (gv 5) ao)) ao)) [Nv.bx,.da (.int most),.da (.int n),.da (.list (ms.map int)),.da (.int th),.da (.list (ps.map aq)),a.val,b.val] β'=.ok (aN n (OM.cB n (OM.Tr (OM.Mem ps)))) β':=by
  refine ju ?_ (by simp)
  have a1:aA jP (ab (gv 5) ao) [Nv.bx,.da (.int most),.da (.int n),.da (.list (ms.map int)),.da (.int th),.da (.list (ps.map aq)),a.val,b.val] β'=.ok (.tuple ((OM.cB n (OM.Tr (OM.Mem ps))).map aq)) β':=aG rfl (BA n1 n8 w ir)
  rw[b7]
  show(R.ok (int n) β').bnd _=_
  dsimp only[R.bnd]
  rw[b7,a1];rfl
 show Ce (toS (bp (ab (gv 2) (ab (aA jP (ab (gv 5) ao)) ao)) [Nv.bx,.da (.int most),.da (.int n),.da (.list (ms.map int)),.da (.int th),.da (.list (ps.map aq)),a.val,b.val] β') _)=_
 rw[e9];rfl
theorem vM(p:Pr):∀l:List Pr,((l.map aq).any λe=>PyData.eqv e (aq p))=decide (p∈l)
 | []=>rfl
 |q::l=>by
  rw[OJ,Qe,vM p l,DI,Qa]
  simp only[Rn,OB,Oo]
  exact⟨λh=>h.imp Eq.symm id,λh=>h.imp Eq.symm id⟩
def zF(l:List Pr):(l.map aq).all SeqAt.shaped=true:=by
 rw[Pa]
 intro d hd
 obtain⟨p,_,rfl⟩:=Of.mp hd
 exact oI p
def AK(neg:Bool)(p:Pr)(l:List Pr):Bi neg (aq p) (.tuple (l.map aq))=some (.bool (if neg then !decide (p∈l)else decide (p∈l))):=by
 unfold Bi
 simp only[mQ,oI,zF,Qd,O9,vM]
def E9(neg:Bool)(p:Pr)(l:List Pr):Bi neg (aq p) (.list (l.map aq))=some (.bool (if neg then !decide (p∈l)else decide (p∈l))):=by
 unfold Bi
 simp only[mQ,oI,zF,Qd,O9,vM]
def vH(neg:Bool)(i j:Int):cz neg (.int i) (.int j)=some (.bool (if neg then !decide (i=j)else decide (i=j))):=rfl
theorem oB{fa fb:VF D}{vs:List Nv}{β:Int}{a b:Bool}(h:fa vs β=.ok (.bool a) β)(h':fb vs β=.ok (.bool b) β):fX fa fb vs β=.ok (.bool (a&&b)) β:=by
 unfold fX
 rw[h]
 dsimp only[R.bnd]
 cases a with
 |true=>exact h'
 |false=>rfl
def c4{fa fb:VF D}{vs:List Nv}{β:Int}{a b:Int}(h:fa vs β=.ok (.int a) β)(h':fb vs β=.ok (.int b) β):bp (ab fa (ab fb ao)) vs β=.ok (aq (a,b)) β:=by
 refine ju ?_ (by simp)
 rw[b7,h]
 dsimp only[R.bnd]
 rw[b7,h'];rfl
def sO(l:List Pr)(p:Pr):Bool:= !decide (p.1=p.2)&&(!decide ((p.1,p.2)∈l) && !decide ((p.2,p.1)∈l))
def NU{n:Nat}{l:List Pr}{fa:VF D}{vs:List Nv}{β:Int}(h:fa vs β=.ok (aN n l) β):f2 fa (cst (.int 1)) bK vs β=.ok (.tuple (l.map aq)) β:=az h rfl rfl
def N5{n:Nat}{l:List Pr}{fa:VF D}{vs:List Nv}{β:Int}(h:fa vs β=.ok (aN n l) β):f2 fa (cst (.int 0)) bK vs β=.ok (.int n) β:=az h rfl rfl
def LS:List D->FR:=bc 3 3 pH
def vS:List D->FR:=bc 3 3 oh
def LL(n:Nat)(l:List Pr)(a b:Int):LS [aN n l,.int a,.int b]=.ok (.bool (sO l (a,b))) false:=by
 show fin (toS (fX (f2 (gv 1) (gv 2) (cz true)) (fX (f2 (bp (ab (gv 1) (ab (gv 2) ao))) (f2 (gv 0) (cst (.int 1)) bK) (Bi true)) (f2 (bp (ab (gv 2) (ab (gv 1) ao))) (f2 (gv 0) (cst (.int 1)) bK) (Bi true))) [.da (aN n l),.da (.int a),.da (.int b)] 0) _)=_
 rw[oB (az rfl rfl (vH true a b)) (oB (az (c4 rfl rfl) (NU rfl) (AK true (a,b) l)) (az (c4 rfl rfl) (NU rfl) (AK true (b,a) l)))]
 rfl
def Ej(n:Nat)(l:List Pr)(a b:Int):vS [aN n l,.int a,.int b]=.ok (.bool (sO l (a,b))) false:=LL n l a b
def oK:List D->FR:=bc 1 1 h9
def Fl{n:Nat}(h1:1<=n)(h8:n<=8):oK [.int n]=.ok (.list ((OM.bY n).map aq)) true:=by
 have hm:n*n<=64:=Py h8 h8
 have e:aK 1 [0] (.nm 0) (bF (f2 (gv 0) (gv 0) cU)) mC (bp (ab (f2 (gv 0) (gv 1) Co) (ab (f2 (gv 0) (gv 1) mS) ao))) [.da (.int n)] 0=.ok (.list ((OM.bY n).map aq)) 0:=by
  have hi:bF (f2 (gv 0) (gv 0) cU) [.da (.int n)] 0=.ok ((List.range (n*n)).map λ(k:Nat)=>int (0+(k:Int))) 0:=by
   refine cf (az rfl rfl ?_) (by omega)
   rw[m8 ⟨by omega,by omega⟩];rfl
  rw[bX (λk=>aq (((k/n:Nat):Int),((k%n:Nat):Int))) hi (by rw[P6];omega) λk hk=>⟨_,rfl,?_⟩]
  .unfold OM.bY;rw[OX];rfl
  .refine c4 (az rfl rfl ?_) (az rfl rfl ?_)
   .rw[AR (by omega) (by omega),Pn];rfl
   .rw[o9 (by omega),Pn];rfl
 show fin (h9 [.fz (.int n)] 0)=_
 unfold h9
 rw[Eb,show vl [Sl.fz (.int n)]= [.da (.int n)]from rfl,e];rfl
def kW(n:Nat)(l:List Pr):List Pr:=(OM.bY n).filter (sO l)
def dv(n:Nat):(OM.bY n).length=n*n:=by unfold OM.bY;simp
def Fh{n:Nat}{l:List Pr}(h8:n<=8):(kW n l).length<=64:=by
 have h1:(kW n l).length<=(OM.bY n).length:=O6 _ _
 rw[dv]at h1
 have:n*n<=64:=Py h8 h8
 omega
def AJ(n:Nat)(l:List Pr):OM.uG (kW n l):=OM.bZ _ (OM.dC n)
def gL{n:Nat}{l:List Pr}{p:Pr}:p∈kW n l↔((0<=p.1/\p.1<n)/\(0<=p.2/\p.2<n))/\sO l p=true:=by
 unfold kW;rw[Oh,OM.aY]
noncomputable def EE:List D->FR:=bc 1 1 (qd mN oK LS)
def mH{fa:VF D}{vs:List Nv}{β:Int}{c:Bool}(h:fa vs β=.ok (.bool c) β):mD fa vs β=.ok c β:=by rw[y1,h];rfl
def G7{n:Nat}{l:List Pr}(O:OM.Ord n l):EE [aN n l]=.ok (.list ((kW n l).map aq)) true:=by
 have hm:n*n<=64:=Py O.hi O.hi
 show fin (qd mN oK LS [.fz (aN n l)] 0)=_
 unfold qd
 rw[aO ?g1]
 case g1=>
  show toS (aA mN (ab (gv 0) ao) [.da (aN n l)] 0) _=_
  rw[aG rfl (yw O)];rfl
 have e:aK 2 [0] (.two 0 1) (bQ (aA oK (ab (f2 (gv 0) (cst (.int 0)) bK) ao))) (mD (aA LS (ab (gv 2) (ab (gv 0) (ab (gv 1) ao))))) (bp (ab (gv 0) (ab (gv 1) ao))) [.da (aN n l)] 0=.ok (.list ((kW n l).map aq)) 0:=by
  have hi:bQ (aA oK (ab (f2 (gv 0) (cst (.int 0)) bK) ao)) [.da (aN n l)] 0=.ok ((OM.bY n).map aq) 0:=by
   unfold bQ
   rw[aG rfl (Fl O.lo O.hi)];rfl
  exact bW (sO l) aq hi (by rw[dv];omega) λp hp=>⟨_,rfl,mH (aG rfl (LL n l p.1 p.2)),λ_=>c4 rfl rfl⟩
 show fin (toS (aK 2 [0] (.two 0 1) (bQ (aA oK (ab (f2 (gv 0) (cst (.int 0)) bK) ao))) (mD (aA LS (ab (gv 2) (ab (gv 0) (ab (gv 1) ao))))) (bp (ab (gv 0) (ab (gv 1) ao))) [.da (aN n l)] 0) _)=_
 rw[e];rfl
def nJ:SF:=(bI (fX (f1 (gv 0) (ij "int")) (f1 (f1 (gv 0) (ij "bool")) wD)))
def ip(bh:List D->FR):SF:=(aB (bq 1 [] (cP ao))
 (aB (c3 (.nm 2) ([]++[]) (bF (f2 (gv 0) (cst (.int 0)) bK))
 (bq 1 ([]++(([]++[])++[0,2])) (f2 (gv 1) (aK 1 [0,2] (.nm 0) (bF (f2 (gv 0) (cst (.int 0)) bK)) (mD (aA bh (ab (gv 1) (ab (gv 2) (ab (gv 0) ao))))) (bp (ab (gv 2) (ab (gv 0) ao)))) iK)))
 (rn 1)))
def gK:SF:=(aB (jk 2 [] (cP ao))
 (aB (c3 (.nm 3) [] (bF (gv 0))
 (c3 (.nm 4) [] (bF (gv 0))
 (aB (bq 5 ([]++[]) (aK 1 [3,4] (.nm 0) (bQ (gv 1)) (cT (f2 (pe (gv 0) (gv 1)) (pe (gv 0) (gv 2)) Kh)) (cst (.int 1))))
 (kM (([]++[])++([]++[])) (wB (cT (f2 (gv 3) (gv 4) (cz true))) (cT (f2 (gv 5) (cP ao) (cz false))))
 (nY 2 ([3]++([4]++[])) (bp (ab (gv 3) (ab (gv 4) ao))))
 mG))))
 (bI (f1 (gv 2) kn))))
noncomputable def iA(aI aH:List D->Int->FB):SF:=(aB (bq 1 ([]++([]++[])) (f2 (cst (.int 3)) (mE 0 aI (ab (cst (.int 2)) ao)) b5))
 (aB (bq 2 (([]++[])++[]) (mE 0 aH (ab (f1 (f2 (cst (.int 2)) (gv 1) cU) cR) ao)))
 (aB (bq 3 [] (cP ao))
 (aB (c3 (.nm 4) [] (bF (gv 1))
 (aB (bq 5 ([]++[]) (aK 1 [4,2,1] (.nm 0) (bF (gv 1)) (cT (f2 (gv 0) (gv 1) (cz true))) (f2 (gv 2) (f2 (gv 3) (gv 0) b5) bK)))
 (bq 3 ([]++([]++[])) (f2 (gv 3) (aK 1 [2,4] (.nm 0) (bQ (gv 5)) mC (bp (ab (f2 (gv 1) (gv 2) bK) (ab (gv 0) ao)))) iK))))
 (bI (bp (ab (f2 (cst (.int 2)) (gv 1) cU) (ab (f1 (f1 (gv 3) iY) kn) ao))))))))
end RM
namespace L2
open PySem PyProof.Rows
section
variable {X:Cx}{K:Frag}{σ:St}{G H:Hp}{s:Shared}{E:XK}
def EY(neg:Bool):R2:=λx y H Q=>∃a o,y=.ref a/\o7 H a x o/\Q (.bl (if neg then !o.isSome else o.isSome)) H
def CN(hu:X.A.units+100<cLine):om X (compareOp .In) (EY false):=by
 intro pins s σ H x y v u Q I rx ry h
 obtain⟨a,o,rfl,hg,q⟩:=h
 cases ry
 exact Mz (by omega) I hg rx λs' I'=>⟨.bl o.isSome,H,I',rfl,q⟩
def iG(hu:X.A.units+100<cLine):om X (compareOp .NotIn) (EY true):=by
 intro pins s σ H x y v u Q I rx ry h
 obtain⟨a,o,rfl,hg,q⟩:=h
 cases ry
 exact FX (by omega) I hg rx λs' I'=>⟨.bl (!o.isSome),H,I',rfl,q⟩
def Cg:List (D×D)->Option (List (Int×Int))
 | []=>some []
 | (.tuple [.int a,.int b],_)::ds=>(Cg ds).map λL=>(a,b)::L
 |_=>none
def mU(neg:Bool):D->D->Option D
 | .tuple [.int a,.int b],.dict ds=>(Cg ds).map λL=>.bool (if neg then !decide ((a,b)∈L)else decide ((a,b)∈L))
 |_,_=>none
theorem AF:∀{kvs:List (List Key×V)} {ds:List (D×D)} {L:List (Int×Int)} (p:Int×Int),mX K G kvs ds->Cg ds=some L->(lN kvs (kP p)).isSome=decide (p∈L)
 |_,_,L,p,.nil,h=>by cases h;rfl
 |_,_,L,p,.cons (k:=k) (x:=x) (xs:=xs) (d:=d) (ds:=ds) hx t,h=>by
  unfold Cg at h
  split at h
  ·rename_i e;cases e
  ·rename_i a b d' ds' e
   injection e with e1 e2
   injection e1 with e1 _
   subst e2
   cases e3:Cg ds with
   |none=>rw[e3]at h;cases h
   |some M=>
    rw[e3]at h
    cases h
    have ih:=AF p t e3
    have hk:k=kP (a,b):=by
     injection e1 with e1
     match k,e1 with
     | [.inl i,.inl j],e1=>simp[kD]at e1;rw[e1.1,e1.2];rfl
     | [.inl i,.inr j],e1=>simp[kD]at e1
     | [.inr i,_],e1=>simp[kD]at e1
     | [],e1=>simp at e1
     | [_],e1=>simp at e1
     |_::_::_::_,e1=>simp at e1
    subst hk
    by_cases c:p=(a,b)
    .subst c
     rw[lM rfl]
     simp
    .rw[lJ (λz=>c (qE.mp z).symm),ih]
     simp[c]
  .cases h
theorem Du{kvs:List (Key×V)}{ds:List (D×D)}{L:List (Int×Int)}(r:yi K G kvs ds)(h:Cg ds=some L):False:=by
 cases r with
 | @one k x d _=>cases k<;>(simp[Cg,kD]at h)
 | @cons k x xs d ds _ _=>cases k<;>(simp[Cg,kD]at h)
def pw{neg:Bool}(hn:lz K=true):pV K (EY neg) (mU neg) .v:=by
 intro B G H x y dx dy d Q s hB bx by' e k
 unfold mU at e
 split at e
 .rename_i a b ds
  cases e1:Cg ds with
  |none=>rw[e1]at e;cases e
  |some L=>
   rw[e1]at e
   cases e
   obtain⟨p,xs,rfl,hq,r⟩:=bx.tuple s
   have hw:xs= [V.int a,V.int b]:=by
    cases r with
    |cons a1 r=>cases r with
     |cons a2 r=>cases r;cases a1;cases a2;rfl
   subst hw
   have hk:Rd H p (.tup ((kP (a,b)).map kV)):=vb hn hq
   have fin:∀c o,y=.ref c->o7 H c (.ref p) o->o.isSome=decide ((a,b)∈L)->EY neg (.ref p) y H Q:=λc o hy hg ho=>⟨c,o,hy,hg,by rw[ho];exact k _ G H (Ext.refl s) (.bl _)⟩
   have dT:∀c kvs ep,y=.ref c->H c=some (.dT kvs ep)->mX K G kvs ds->EY neg (.ref p) y H Q:=λc kvs ep hy hc r=>fin c _ hy (o7.t hc hk) (AF (a,b) r e1)
   rcases by' with h|⟨c,rfl,_,h⟩
   .cases h with
    |scr h=>cases e1
    |dK h r=>exact(Du r e1).elim
    |dT h r=>exact dT _ _ _ rfl (s _ _ h) r
   .rcases h with⟨kvs,h,r⟩|⟨kvs,h,r⟩
    .exact (Du r e1).elim
    .exact dT _ _ _ rfl h r
 .cases e
def fY.u2{k:Nat}{A:Around}(r:fY k A):A.units+2<cLine:=by have:=r.units;omega
end
end L2
namespace L2
open PySem PySem.Spec PyProof.Rows
def JG(tk tv:TE):TE:=λσ H Q=>∀p,H p=none->tk σ (upd H p (.dT [] 0)) λx H1=>tv σ H1 λy H2=>H2 p=some (.dT [] 0)/\∃(b:Addr) (ks:List Key),x=.ref b/\Rd H2 b (.tup (ks.map kV))/\Q (.ref p) (upd H2 p (.dT [(ks,y)] 1))
def De{X:Cx}{pos:Pos}{k v:Expr}{tk tv:TE}(hu:X.A.units+1<cLine)(hk:PE X k tk)(hv:PE X v tv):PE X (.Dict [some k] [v] pos) (JG tk tv):=by
 intro pins s σ H Q I q
 have hn:=I.hok.fresh (Oc s.heap.objs.size)
 have I1:=I.laid (t':=s.toks) (λ_ _ q=>Oa _ q) (Oc _) (xF s.heap I.big)
 have q:=q _ hn
 rw[arm_eval_Dict,zip_pairTrees [some k] [v] X.env pos rfl rfl,dictDisplay_pairs _ (by simp[pairTrees]) (by simp[pairTrees])]
 refine N7 (wpAny_standAt (N7 ?_))
 unfold subDict
 refine N7 (wpAny_alloc (N7 (O0 ?_)))
 rw[Od (by simp[pairTrees])]
 refine N7 (pairTrees_cons_walk (cI (hk pins _ σ _ _ I1 q) λu s1 ⟨x,H1,I2,rx,q1⟩=>cI (hv pins s1 σ H1 _ I2 q1) λw2 s2 ⟨y,H2,I3,ry,hd,b,ks,ex,hb,q2⟩=>pairTrees_nil_walk ?_))
 subst ex
 cases rx
 let⟨z,hs,xs,rel,dd,di⟩:=jD I3.hok (.inl hd)
 cases rel
 refine O0 (N7 ?_)
 rw[List.forIn_cons]
 refine N7 (N7 (rO (show X.A.units<cLine by omega) (lE I3.hok hb) di dd (by rw[OU];simp) (λh' dd' hs'=>N9 ?_)))
 show wpAny _ _ (forIn [] PUnit.unit _) _ _ _
 rw[List.forIn_nil]
 refine N9 (N9 (N9 (N9 ⟨.ref s.heap.objs.size,_,?_,rfl,q2⟩)))
 obtain⟨q',hq⟩:∃q,h'.get? s.heap.objs.size=some q:=let⟨q,_,hq,_⟩:=dd';⟨q,hq⟩
 refine n5 I3 (by rw[hd];exact True.intro) hs' ⟨q',hq⟩ ⟨by rw[OU];simp,hs,_,(KT.put .nil ks hb ry).keeps λc ys ec=>?_,dd'⟩
 exact ec.imp (λec=>by rw[ar (mO ec hd (λz=>nomatch z))];exact ec) λ⟨o,ec⟩=>⟨o,by rw[ar (mO ec hd (λz=>nomatch z))];exact ec⟩
section
variable {X:Cx}{Γ:Fx}{E:XK}{e a b:Expr}{f fa fb:VF D}{L La Lb:List Nat}{ma mb:Md}{pos:Pos}{K:Frag}{G H:Hp}
def qp:D->Option (Int×Int)
 | .tuple [.int a,.int b]=>some (a,b)
 |_=>none
def vI{d:D}{p:Int×Int}(h:qp d=some p):d=.tuple [.int p.1,.int p.2]:=by
 unfold qp at h
 split at h
 .cases h;rfl
 .cases h
def NI(p:Int×Int):D:=.tuple [.int p.1,.int p.2]
def jy:List (D×D)->Option (List ((Int×Int)×D))
 | []=>some []
 | (k,v)::ds=>match qp k,jy ds with
  |some p,some L=>some ((p,v)::L)
  |_,_=>none
theorem zJ:∀L:List ((Int×Int)×D),jy (L.map λq=>(NI q.1,q.2))=some L
 | []=>rfl
 | (p,v)::L=>by
  rw[OJ]
  unfold jy
  rw[zJ L];rfl
def ze(L:List ((Int×Int)×D))(p:Int×Int):Option D:=(L.find? λq=>decide (q.1=p)).map (·.2)
theorem HH{k:List Key}{p:Int×Int}(h:qp (.tuple (k.map kD))=some p):k=kP p:=by
 have h:=vI h
 injection h with h
 match k,h with
 | [.inl i,.inl j],h=>simp[kD]at h;rw[h.1,h.2];rfl
 | [.inl i,.inr j],h=>simp[kD]at h
 | [.inr i,_],h=>simp[kD]at h
 | [],h=>simp at h
 | [_],h=>simp at h
 |_::_::_::_,h=>simp at h
theorem yM:∀{kvs:List (List Key×V)} {ds:List (D×D)} {L:List ((Int×Int)×D)} (p:Int×Int),mX K G kvs ds->jy ds=some L->(ze L p=none/\lN kvs (kP p)=none)\/∃d v,ze L p=some d/\lN kvs (kP p)=some v/\Rp K G v d
 |_,_,_,p,.nil,h=>by cases h;exact .inl ⟨rfl,rfl⟩
 |_,_,L,p,.cons (k:=k) (x:=x) (xs:=xs) (d:=d) (ds:=ds) hx t,h=>by
  unfold jy at h
  cases e1:qp (.tuple (k.map kD))with
  |none=>rw[e1]at h;cases h
  |some q=>
   cases e2:jy ds with
   |none=>rw[e1,e2]at h;cases h
   |some M=>
    rw[e1,e2]at h
    cases h
    have hk:=HH e1
    subst hk
    by_cases c:q=p
    .subst c
     exact .inr ⟨d,x,by simp[ze],by rw[lM rfl],hx⟩
    .have h1:ze ((q,d)::M) p=ze M p:=by simp[ze,Ql,c]
     rw[h1,lJ (λz=>c (qE.mp z))]
     exact yM p t e2
def Ee(hn:lz K=true){B:Option Addr}{x:V}{d:D}{p:Int×Int}(bx:kY K B G H x d)(s:ak G H)(h:qp d=some p):∃c,x=.ref c/\Rd H c (.tup ((kP p).map kV)):=by
 have e:=vI h
 subst e
 obtain⟨c,xs,rfl,hq,r⟩:=bx.tuple s
 have hw:xs= [V.int p.1,V.int p.2]:=by
  cases r with
  |cons a1 r=>cases r with
   |cons a2 r=>cases r;cases a1;cases a2;rfl
 subst hw
 exact⟨c,rfl,vb hn hq⟩
def pK:D->D->Option D
 | .dict ds,k=>match jy ds,qp k with
  |some L,some p=>ze L p
  |_,_=>none
 |_,_=>none
def Gi(hn:lz K=true){B:Option Addr}{x y:V}{dx dy d:D}(s:ak G H)(bx:kY K B G H x dx)(by':kY K B G H y dy)(e:pK dx dy=some d):∃c v,x=.ref c/\o7 H c y (some v)/\Rp K G v d:=by
 unfold pK at e
 split at e
 .rename_i ds
  cases e1:jy ds with
  |none=>rw[e1]at e;cases e
  |some L=>
   cases e2:qp dy with
   |none=>rw[e1,e2]at e;cases e
   |some p=>
    rw[e1,e2]at e
    dsimp only at e
    obtain⟨c2,rfl,hk⟩:=Ee hn by' s e2
    have T:∀c kvs ep,H c=some (.dT kvs ep)->mX K G kvs ds->∃c' v,V.ref c=.ref c'/\o7 H c' (.ref c2) (some v)/\Rp K G v d:=λc kvs ep hc r=>by
     rcases yM p r e1 with⟨z,_⟩|⟨d',v,z1,z2,rv⟩
     .rw[e]at z;cases z
     .rw[e]at z1
      cases z1
      exact⟨c,v,rfl,by rw[<-z2];exact o7.t hc hk,rv⟩
    have Kk:∀kvs,yi K G kvs ds->False:=λkvs r=>by
     cases r with
     | @one k x d _=>cases k<;>(simp[jy,kD,qp]at e1)
     | @cons k x xs d ds _ _=>cases k<;>(simp[jy,kD,qp]at e1)
    rcases bx with h|⟨c,rfl,_,h⟩
    .cases h with
     |scr h=>simp[jy,qp]at e1
     |dK h r=>exact(Kk _ r).elim
     |dT h r=>exact T _ _ _ (s _ _ h) r
    .rcases h with⟨kvs,h,r⟩|⟨kvs,h,r⟩
     .exact (Kk _ r).elim
     .exact T _ _ _ h r
 .cases e
def zH(hu:X.A.units+2<cLine)(hn:lz Γ.K=true)(ha:SE X Γ E a fa La ma)(hb:SE X Γ E b fb Lb mb)(hs:Jr b):SE X Γ E (.Subscript a b pos) (f2 fa fb pK) (La++Lb) .v:=by
 refine PE.post' (G8 (by omega) ha hb hs) λσ H Q ⟨env,G,B,β,I,o⟩=>⟨env,G,B,β,I,o.bnd.imp λd1 β1 h x G1 H1 I1 s1 m1 vx=>⟨ba La env,G1,B,β1,I1,?_⟩⟩
 rw[jW]
 refine h.bnd.imp λd2 β2 h y G2 H2 I2 s2 m2 vy=>?_
 let⟨d,e,k⟩:=h.of
 obtain⟨c,v,rfl,g,rv⟩:=Gi hn I2.sub ((vx.brw I.boxThere).mono s2 m2) (vy.brw I1.boxThere) e
 exact⟨c,v,rfl,g,k v G2 H2 (by rw[dR];exact I2) (s1.trans s2) (m1.trans m2) rv⟩
def HE(i:Nat):VF D:=λvs β=>(gv i vs β).bnd λk β1=>match qp k with
 |some _=>.ok (.dict [(k,.none)]) β1
 |none=>.bad
theorem FD(i:Nat)(hb:Γ.br i=false)(hu:X.A.units+2<cLine)(hn:lz Γ.K=true){x:Str}{np cp:Pos}{j}(hN:X.N[i]? =some x:=by rfl)(hv:yc X.env.scope x:=by first|exact Or.inl rfl|exact Or.inr (Or.inl rfl)|exact Or.inr (Or.inr rfl))(hd:(x==("__debug__":Str))=false:=by decide)
  (hcd:(x==("__classdict__":Str))=false:=by decide):SE X Γ E (.Dict [some (.Name x np)] [.Constant .none j cp] pos) (HE i) [i] .w:=by
 refine PE.post' (De (by omega) (fK hN hv hd hcd) Eg) λσ H Q ⟨env,G,B,β,I,o⟩ p hp=>?_
 have o:=o.bnd
 let⟨d,e,k⟩:=o.of
 cases q:qp d with
 |none=>rw[q]at k;exact k.elim
 |some pr=>
  rw[q]at k
  have k:∀v G' H',SR Γ B G' H' σ (ba [i] env) β->ak G G'->iQ B H H'->VO Γ.K B H G' H' .w (.dict [(d,.none)]) v->Q v H':=k
  let⟨G',v,I',s,h1,h2⟩:=I.freeze i hb (join_some e)
  obtain⟨c,rfl,hr⟩:=Ee (B:=B) hn (.inl h2) I'.sub q
  have nc:c≠p:=λz=>Fp hr (by rw[z];exact hp)
  refine⟨_,h1,av,c,kP pr,rfl,hr.imp (λz=>by rw[ar nc];exact z) (λ⟨o,z⟩=>⟨o,by rw[ar nc];exact z⟩),?_⟩
  rw[Gu]
  have xn:=Ext.own I'.sub (o:=.dT [(kP pr,V.non)] 1) hp
  refine k _ _ _ (I'.ext xn) s (xn.hh.mov B) ⟨p,rfl,hp,I'.sub.free hp,.inr ⟨([(kP pr,V.non)],1),av,?_⟩⟩
  rw[vI q]
  exact .cons .non .nil
def Bn:Option Sl->Bool
 |some (.ow (.dict _))=>true
 |_=>false
def zT{o:Option Sl}(h:Bn o=true):∃ds,o=some (.ow (.dict ds)):=by
 unfold Bn at h
 split at h
 .exact⟨_,rfl⟩
 .cases h
def putN(ds:List (D×D))(k v:D):Option (List (D×D)):=match jy ds,qp k with
 |some L,some p=>if(ze L p).isNone=true/\L.length<1000/\0<L.length then some (ds++[(k,v)])else none
 |_,_=>none
def ER(i:Nat)(Lv Lk:List Nat)(fv fk:VF D):SF:=λenv β=>toS (fv (vl env) β) λv β1=>if Bn (ba Lv env)[i]? =true then toS (fk (vl env) β1) λk β2=>(match(ba (Lv++Lk) env)[i]? with
 |some (.ow (.dict ds))=>(match putN ds k v with
  |some es=>.nx ((ba (Lv++Lk) env).set i (.ow (.dict es))) β2
  |none=>.bad)
 |_=>.bad)else .bad
theorem Ah:∀{kvs:List (List Key×V)} {ds:List (D×D)} {L:List ((Int×Int)×D)},mX K G kvs ds->jy ds=some L->kvs.length=L.length
 |_,_,_,.nil,h=>by cases h;rfl
 |_,_,L,.cons (k:=k) (x:=x) (xs:=xs) (d:=d) (ds:=ds) hx t,h=>by
  unfold jy at h
  cases e1:qp (.tuple (k.map kD))with
  |none=>rw[e1]at h;cases h
  |some q=>
   cases e2:jy ds with
   |none=>rw[e1,e2]at h;cases h
   |some M=>
    rw[e1,e2]at h
    cases h
    simp[Ah t e2]
theorem wN:∀{kvs:List (List Key×V)} {ds:List (D×D)} {k:List Key} {v:V} {d:D},mX K G kvs ds->Rp K G v d->mX K G (kvs++[(k,v)]) (ds++[(.tuple (k.map kD),d)])
 |_,_,_,_,_,.nil,r=>.cons r .nil
 |_,_,_,_,_,.cons hx t,r=>.cons hx (wN t r)
def Ha(i:Nat){x:Str}{np spos:Pos}(hu:X.A.units+2<cLine)(hn:lz Γ.K=true)(hb:∀j,Γ.br j=false)(he:SE X Γ E e f La .v)(hi:SE X Γ E a fa Lb mb)(hN:X.N[i]? =some x:=by rfl)(hv:yc X.env.scope x:=by first|exact Or.inl rfl|exact Or.inr (Or.inl rfl)|exact Or.inr (Or.inr rfl))(hd:(x==("__debug__":Str))=false:=by decide)
  (hcd:(x==("__classdict__":Str))=false:=by decide) (hs:swapsWith e (some (.Subscript (.Name x np) a spos)) pos.line X.env=pure false:=by rfl) :
  SS X Γ E (.Assign [.Subscript (.Name x np) a spos] e pos) (ER i La Lb f fa):=by
 refine PS.post (GH (by omega) (fK hN hv hd hcd) hi he hs) λN σ H ⟨env,G,B,β,I,o⟩=>⟨env,G,B,β,I,cF o λd β1 o v G1 H1 I1 s1 m1 vo=>?_⟩
 by_cases hO:Bn (ba La env)[i]? =true
 case neg=>rw[Oe hO]at o;exact o.elim
 rw[Od hO]at o
 let⟨ds0,q0⟩:=zT hO
 let⟨p,h1,_,_,_,_⟩:=I1.slot i _ q0
 refine⟨_,h1,ba La env,G1,B,β1,I1,?_⟩
 rw[jW]
 refine cF o λk β2 o w G2 H2 I2 s2 m2 vi=>?_
 rw[<-dR]at I2
 split at o
 .rename_i ds q
  cases e3:putN ds k d with
  |none=>rw[e3]at o;exact o.elim
  |some es=>
   rw[e3]at o
   unfold putN at e3
   cases e1:jy ds with
   |none=>rw[e1]at e3;cases e3
   |some L=>
    cases e2:qp k with
    |none=>rw[e1,e2]at e3;cases e3
    |some pr=>
     rw[e1,e2]at e3
     dsimp only at e3
     split at e3
     .rename_i hz
      cases e3
      obtain⟨c2,rfl,hk⟩:=Ee hn (vi.brw I1.boxThere) I2.sub e2
      let⟨p',g1,g2,g3,g4,g5⟩:=I2.slot i _ q
      rw[h1]at g1;cases g1
      have vo:Rp Γ.K G1 v d:=vo
      have hk2:k=.tuple ((kP pr).map kD):=by rw[vI e2];rfl
      rcases g5 with⟨kvs,g,r⟩|⟨⟨kvs,ep⟩,g,r⟩
      .exfalso
       cases r with
       | @one k x d _=>cases k<;>(simp[jy,kD,qp]at e1)
       | @cons k x xs d ds _ _=>cases k<;>(simp[jy,kD,qp]at e1)
      .have hvn:lN kvs (kP pr)=none:=by
        rcases yM pr r e1 with⟨_,z⟩|⟨d',v',z,_⟩
        .exact z
        .rw[z]at hz;exact absurd hz.1 (by simp)
       have hl:=Ah r e1
       refine⟨p,_,rfl,Dv.t g hk (by rw[hl,OU];have:=hz.2.1;omega),?_⟩
       rw[Cs _ hvn]
       refine o B G2 _ σ (I2.write hb q h1 λH3 e4 s3=>.inr ⟨(_,_),e4,?_⟩) (s1.trans s2)
       rw[hk2]
       exact wN r (vo.mono s2)
     .cases e3
 .exact o.elim
end
def Kr{H:Hp}{a:Addr}{k k':List (List Key×V)}{e e':Nat}(x:Rd H a (.dT k e))(y:Rd H a (.dT k' e')):k=k'/\e=e':=by
 rcases x with x|⟨o,x⟩<;>rcases y with y|⟨o',y⟩<;>rw[x]at y<;>cases y<;>exact⟨rfl,rfl⟩
def MZ(a:Addr)(n ep:Nat):It:=
 ⟨λi H=>∃kvs,Rd H a (.dT kvs ep)/\kvs.length=n/\i<n,
  λi H x H'=>H'=H/\∃b,x=.ref b/\∀kvs,Rd H a (.dT kvs ep)->∃kv,kvs[i]? =some kv/\Rd H b (.tup (kv.1.map kV)),
  λi H=>∃kvs,Rd H a (.dT kvs ep)/\kvs.length=n/\n<=i⟩
theorem KT.at{H:Hp}:∀{kvs:List (List Key×V)} {xs:List (List Key×Addr×Value)} {i:Nat} {x:List Key×Addr×Value},KT H kvs xs->xs[i]? =some x->∃kv,kvs[i]? =some kv/\kv.1=x.1/\Rd H x.2.1 (.tup (kv.1.map kV))
 |_,_,_,_,.nil,e=>by simp at e
 |_,_,0,_,.cons h _,e=>by simp at e;subst e;exact⟨_,rfl,h.1,h.2.1⟩
 |_,_,i+1,_,.cons _ t,e=>by
  obtain⟨kv,h1,h2⟩:=KT.at t (by simpa using e)
  exact⟨kv,by simpa using h1,h2⟩
def BB{P:Program}{w:World}{K:Frag}{tg:Expr}(a it:Addr)(n ep:Nat):Turn P w K tg (MZ a n ep) [it] it (λi h=>h.IsKeyIter it a i n ep) where
 mem:=by simp
 obj:=λi h st b hb=>by
  have e:b=it:=by simpa using hb
  subst e
  let⟨o,e,c,d⟩:=st
  exact⟨o,e,λv z=>by rw[d]at z;cases z⟩
 keep:=λi h h' st k=>let⟨o,e,r⟩:=st;⟨o,k it (by simp) o e,r⟩
 item:=by
  intro X hP hw hK hc i pins s σ H E I hf st ⟨kvs,hq,hn,hi⟩
  subst hP hw hK
  let⟨z,hs,xs,rel,dd,di⟩:=jD I.hok hq
  have hl:kvs.length=xs.length:=Paired.length rel
  have hn:n=xs.length:=hn.symm.trans hl
  subst hn
  have hx:xs[i]? =some xs[i]:=N8 hi
  let⟨kv,h1,h2,h3⟩:=rel.at hx
  let⟨f0,f1,f2,f3,f4,f5⟩:=hf it (by simp)
  refine qD st dd hx λh' st' sb=>?_
  have I1:Inv X pins σ H {s with heap:=h'}:=I.turned (λb o hb e=>(sb.2 b hb).trans e) f0 f1 f3 f4 f5
  let⟨o,e,c,d⟩:=id st'
  exact⟨_,rfl,Ax e c d (by decide) ⟨.ref xs[i].2.1,H,I1,rfl,⟨rfl,_,rfl,λks hk=>by obtain⟨rfl,_⟩:=Kr hk hq;exact⟨kv,h1,h3⟩⟩,st',λb hb=>(hf b hb).1⟩⟩
 done:=by
  intro X hP hw hK hc i pins s σ H E I hf st ⟨kvs,hq,hn,hi⟩
  subst hP hw hK
  let⟨z,hs,xs,rel,dd,di⟩:=jD I.hok hq
  have hl:kvs.length=xs.length:=Paired.length rel
  have hn:n=xs.length:=hn.symm.trans hl
  subst hn
  let⟨f0,f1,f2,f3,f4,f5⟩:=hf it (by simp)
  exact ub (I.ok.hd hc) st dd hi λh' eb=>⟨rfl,I.turned (λb o hb e=>eb b o hb e) f0 f1 f3 f4 f5⟩
 self:=λA i s Q E st h=>wpAny_pyIter_keyiter st h
def Ni(tl:TE):TI:=λσ H R=>tl σ H λx H1=>∃a kvs ep,x=.ref a/\Rd H1 a (.dT kvs ep)/\R (MZ a kvs.length ep) H1
def Cw{X:Cx}{tg l:Expr}{tl:TE}(hl:PE X l tl):PI X tg l (Ni tl):=by
 intro pins s σ H R I h
 refine cI (hl pins s σ H _ I h) λv s1 ⟨x,H1,I1,r1,q1⟩=>?_
 obtain⟨a,kvs,ep,rfl,hq,q⟩:=q1
 cases r1
 let⟨z,hs,xs,rel,dd,di⟩:=jD I1.hok hq
 have hn:xs.length=kvs.length:=(Paired.length rel).symm
 refine sd hs dd ?_
 rw[hn]
 refine⟨s1.heap.objs.size,[s1.heap.objs.size],_,_,H1,rfl,I1.kept λb o e=>Oa _ e,BB a _ _ _,⟨_,Ou _ rfl,rfl,rfl⟩,λb hb=>?_,q⟩
 have e:b=s1.heap.objs.size:=by simpa using hb
 subst e
 exact I1.fpOk (Oc _) (I1.hok.fresh (Oc _))
section
variable {X:Cx}{Γ:Fx}{E:XK}{a:Expr}{fa:VF D}{La:List Nat}{ma:Md}{tg:Expr}{K:Frag}{G H:Hp}
theorem mX.at:∀{kvs:List (List Key×V)} {ds:List (D×D)} {i:Nat} {kv:List Key×V},mX K G kvs ds->kvs[i]? =some kv->∃d,ds[i]? =some (.tuple (kv.1.map kD),d)/\Rp K G kv.2 d
 |_,_,_,_,.nil,e=>by simp at e
 |_,_,0,_,.cons r _,e=>by simp at e;subst e;exact⟨_,rfl,r⟩
 |_,_,i+1,_,.cons _ t,e=>by
  obtain⟨d,h1,h2⟩:=mX.at t (by simpa using e)
  exact⟨d,by simpa using h1,h2⟩
theorem mX.len:∀{kvs:List (List Key×V)} {ds:List (D×D)},mX K G kvs ds->kvs.length=ds.length
 |_,_,.nil=>rfl
 |_,_,.cons _ t=>by simp[mX.len t]
theorem p0:∀ks:List Key,cE K G (ks.map kV) (ks.map kD)
 | []=>.nil
 | .inl i::ks=>.cons (.int i) (p0 ks)
 | .inr x::ks=>.cons (.str x) (p0 ks)
def sq{B:Option Addr}{H1:Hp}{p:Addr}{kvs:List (List Key×V)}{ep:Nat}{ds:List (D×D)}(h:∀Gc H,ak G Gc->ak Gc H->iQ B H1 H->Rd H p (.dT kvs ep))(r:mX K G kvs ds):Walk K B G H1 (ds.map (·.1)) (MZ p kvs.length ep):=λGc H i s1 s2 m=>by
 have hq:=h Gc H s1 s2 m
 have hl:=r.len
 rw[Ob]
 refine⟨λhi=>⟨⟨kvs,hq,rfl,by omega⟩,λx H' y=>?_⟩,λhi=>⟨kvs,hq,rfl,by omega⟩⟩
 obtain⟨rfl,b,rfl,y⟩:=y
 let⟨kv,h1,h2⟩:=y kvs hq
 let⟨d,h3,_⟩:=r.at h1
 exact⟨c9 Gc H',_,Ext.tups s2 (ak.refl _),by rw[Om,h3];rfl,.tup (fh s2 (.inl h2)) (p0 _)⟩
def Gh(fa:VF D):VF (List D):=λvs β=>(fa vs β).bnd λx β1=>R.of (match x with
 | .dict ds=>(jy ds).map λ_=>ds.map (·.1)
 |_=>none) β1
theorem qh{kvs:List (Key×V)}{ds:List (D×D)}{L:List ((Int×Int)×D)}(r:yi K G kvs ds)(h:jy ds=some L):False:=by
 cases r with
 | @one k x d _=>cases k<;>(simp[jy,kD,qp]at h)
 | @cons k x xs d ds _ _=>cases k<;>(simp[jy,kD,qp]at h)
theorem EL{x:D}{es:List D}(e:(match x with
 | .dict ds=>(jy ds).map λ_=>ds.map (·.1)
 |_=>none)=some es):∃ds L,x=.dict ds/\jy ds=some L/\es=ds.map (·.1):=by
 split at e
 .rename_i ds
  cases q:jy ds with
  |none=>rw[q]at e;cases e
  |some L=>rw[q]at e;cases e;exact⟨ds,L,rfl,q,rfl⟩
 .cases e
theorem u6{v:V}{ds:List (D×D)}{L:List ((Int×Int)×D)}(r:Rp K G v (.dict ds))(h:jy ds=some L):∃p kvs ep,v=.ref p/\G p=some (.dT kvs ep)/\mX K G kvs ds:=by
 cases r with
 |scr _=>simp[jy,qp]at h
 |dK _ r=>exact(qh r h).elim
 |dT q r=>exact⟨_,_,_,rfl,q,r⟩
def Ak{B:Option Addr}{v:V}{ds:List (D×D)}{L:List ((Int×Int)×D)}(r:kY K B G H v (.dict ds))(h:jy ds=some L)(s:ak G H):∃p kvs ep,v=.ref p/\H p=some (.dT kvs ep)/\mX K G kvs ds:=by
 rcases r with r|⟨p,rfl,_,r⟩
 .obtain⟨p,kvs,ep,rfl,q,r⟩:=u6 r h
  exact⟨p,kvs,ep,rfl,s _ _ q,r⟩
 .rcases r with⟨k,_,r⟩|⟨k,q,r⟩
  .exact (qh r h).elim
  .exact⟨p,_,_,rfl,q,r⟩
def KA(ha:SE X Γ E a fa La .v):SI X Γ E tg a (Gh fa) La .v:=by
 refine PI.post (Cw ha) λσ H Q ⟨env,G,B,β,I,o⟩=>⟨env,G,B,β,I,o.bnd.imp λd1 β1 h x G1 H1 I1 s1 m1 vx=>?_⟩
 let⟨es,e,k⟩:=h.of
 obtain⟨ds,L,rfl,hd,rfl⟩:=EL e
 obtain⟨p,kvs,ep,rfl,q,r⟩:=u6 (show Rp Γ.K G1 x (.dict ds)from vx) hd
 exact⟨p,kvs,ep,rfl,.inl (I1.sub _ _ q),k _ G1 H1 I1 s1 m1 (sq (λGc H t1 t2 _=>.inl ((t1.trans t2) _ _ q)) r)⟩
def EG(ha:SE X Γ E a fa La ma):SI X Γ E tg a (Gh fa) La .b:=by
 refine PI.post (Cw ha) λσ H Q ⟨env,G,B,β,I,o⟩=>⟨env,G,B,β,I,o.bnd.imp λd1 β1 h x G1 H1 I1 s1 m1 vx=>?_⟩
 let⟨es,e,k⟩:=h.of
 obtain⟨ds,L,rfl,hd,rfl⟩:=EL e
 rcases vx.brw I.boxThere with r|⟨p,rfl,hb,r⟩
 .obtain⟨p,kvs,ep,rfl,q,r⟩:=u6 r hd
  exact⟨p,kvs,ep,rfl,.inl (I1.sub _ _ q),k _ G1 H1 I1 s1 m1 (sq (λGc H t1 t2 _=>.inl ((t1.trans t2) _ _ q)) r)⟩
 .rcases r with⟨kk,_,r⟩|⟨kk,q,r⟩
  .exact (qh r hd).elim
  .exact⟨p,_,_,rfl,.inl q,k _ G1 H1 I1 s1 m1 (sq (λGc H t1 t2 mv=>.inl (mv.1 p _ q hb)) r)⟩
def Jb{P:Program}{w:World}{A:Around}{E:Value->Shared->Prop}{s:Shared}{κ:Type}[DecidableEq κ]{kd:HeapKind P w κ}{d:Addr}{ep:Nat}{xs:List (κ×Addr×Value)}{Q:Bool->Shared->Prop}(nm:(d==sysModules)=false)(m:tK kd s.heap d xs ep)(hz:xs.length<=sizeLine)
  (q:∀t,Q (!xs.isEmpty) {s with toks:=t}):wpAny (model P w) A (truthy (.ref d)) Q E s:=by
 let⟨o,es,eo,ex,ed,el,nd⟩:=m
 have ty:s.TypeIs (.ref d) "dict":=⟨o,eo,ex.1⟩
 have sz:=Qh el
 have hs:sizeLine=16777216:=OU
 have ne:((xs.length:Int) != 0)= !xs.isEmpty:=by cases xs<;>simp<;>omega
 have ky:wpAny (model P w) A (runValue (.builtin "len" ⟨[.ref d],[]⟩)) (λr s'=>(∃t,r=.int xs.length t)/\Q (!xs.isEmpty) s') E s:=by
  refine wpAny_runValue (P9 entry_len ?_)
  rw[PM plain_len _]
  unfold Builtin.«len»
  refine N7 (N9 (N7 (m:=callSpecial? (.ref d) (Str.ofString "__len__")) (PJ ty F.slot_dict_len (Pq F.slot_dict_len ty F.entry_dict_len ?_ (F.args_dict_len_1 _)))))
  show wpAny _ _ (dictSize d >>= _) _ _ s
  unfold dictSize
  refine N7 (N7 (PR eo ed (N9 ?_)))
  refine N7 (wpAny_pendingCount_other nm (wpAny_ret_mkInt ?_))
  rw[show((es.size:Int)+((0:Nat):Int))=(xs.length:Int) by rw[sz];simp]
  refine N7 (O0 (N9 (N7 (wpAny_letGo ?_))))
  rw[Oe (by omega)]
  rw[Oe (by omega)]
  exact N7 (wpAny_mkInt (N9 ⟨⟨_,rfl⟩,q _⟩))
 unfold truthy
 first
  |refine N7 (wpAny_callSpecial?_none ty noBool_dict ?_)
  |refine N7 (N9 (N7 (wpAny_callSpecial?_none ty noBool_dict ?_)))
 first
  |refine N7 (P8 ty F.slot_dict_len.lookup ?_)
  |refine N7 (N9 (N7 (P8 ty F.slot_dict_len.lookup ?_)))
 first
  |exact N7 (cI ky λr s' ⟨⟨t,er⟩,h⟩=>by subst er;exact N9 (ne▸h))
  |exact N7 (N9 (N7 (cI ky λr s' ⟨⟨t,er⟩,h⟩=>by subst er;exact N9 (ne▸h))))
def K8(ta:TE):TT:=λσ H Q=>ta σ H λx H1=>∃p kvs ep,x=.ref p/\Rd H1 p (.dT kvs ep)/\Q (!kvs.isEmpty) H1
def Fu{ta:TE}(ha:PE X a ta)(he:∀whole,isTrue a X.env whole=(do let v <-whole;standAt a.pos;holding [v] (truthy v))):PT X a (K8 ta):=by
 intro pins s σ H Q I h
 refine isTrue_plain (cI (ha pins s σ H _ I h) λv s1 ⟨x,H1,I1,r1,q1⟩=>?_) (he _)
 obtain⟨p,kvs,ep,rfl,hq,q⟩:=q1
 cases r1
 let⟨z,hs,xs,rel,dd,di⟩:=jD I1.hok hq
 have hn:kvs.length=xs.length:=Paired.length rel
 refine Jb hs dd (by omega) λt=>⟨H1,I1.tok t,?_⟩
 have:xs.isEmpty=kvs.isEmpty:=by cases rel<;>rfl
 rw[this];exact q
def Hg(fa:VF D):VF Bool:=λvs β=>(fa vs β).bnd λx β1=>R.of (match x with
 | .dict ds=>(jy ds).map λ_=> !ds.isEmpty
 |_=>none) β1
def Ir(ha:SE X Γ E a fa La ma)(he:∀whole,isTrue a X.env whole=(do let v <-whole;standAt a.pos;holding [v] (truthy v)):=by intro _;rfl):yx X Γ E a (Hg fa) La:=by
 refine PT.post (Fu ha he) λσ H Q ⟨env,G,B,β,I,o⟩=>⟨env,G,B,β,I,o.bnd.imp λd1 β1 h x G1 H1 I1 s1 m1 vx=>?_⟩
 let⟨c,e,k⟩:=h.of
 have bx:=vx.brw I.boxThere
 split at e
 .rename_i ds
  cases q:jy ds with
  |none=>rw[q]at e;cases e
  |some L=>
   rw[q]at e
   cases e
   obtain⟨p,kvs,ep,rfl,hq,r⟩:=Ak bx q I1.sub
   have:kvs.isEmpty=ds.isEmpty:=by cases r<;>rfl
   exact⟨p,kvs,ep,rfl,.inl hq,by rw[this];exact k G1 H1 I1 s1 m1⟩
 .cases e
end
section
variable {P:Program}{w:World}{κ:Type}[DecidableEq κ]{kd:HeapKind P w κ}{A:Around}{E:Value->Shared->Prop}{s:Shared}
def Bv{d a:Addr}{ep:Nat}{xs:List (κ×Addr×Value)}{k:κ}{v:Value}{Q:Unit->Shared->Prop}(r:kd.room A)(hk:kd.is s.heap k a)(is:∀x∈xs,kd.is s.heap x.1 x.2.1)(m:tK kd s.heap d xs ep)(z:xs.length<=sizeLine)
  (q:∀h' e',tK kd h' d (storedH xs k a v) e'->Heap.SameBut d s.heap h'->Q () {s with heap:=h'}):wpAny (model P w) A (dictSetHashed d (.ref a) (kd.hash k) v) Q E s:=by
 let⟨o,es,eo,ex,ed,el,nd⟩:=m
 unfold dictSetHashed
 try(with_reducible refine O0 ?_)
 refine N7 (wpAny_dictFind_heap r hk eo ed el is nd (λno=>?_) (λj p hj=>?_))
 .have nk:=atKey_none_of_get no
  have nm:k∉xs.map (·.1):=not_mem_keys_of_get no
  refine N7 (wpAny_rule (wpAny_updateDictKeys (hz:=by have:=Qh el;omega) eo ed
   (q _ (ep+1) ⟨_,es.push ⟨kd.hash k,.ref a,v⟩,OQ _ eo (QS (Qi ed _)),ex.mapDictKeys _,Qi ed _,by rw[storedH_new nk];simp[el,entryOfKey],?_⟩ (Heap.SameBut.update ..))))
  rw[storedH_new nk,OL,PF]
  refine⟨nd,by simp,λx hx y hy e=>nm ?_⟩
  simp at hy
  rw[<-hy,<-e];exact hx
 .have ok:=atKey_of_get nd hj
  refine N7 (wpAny_rule (N7 (wpAny_updateDict eo ed
   (wpAny_point (q _ ep ⟨_,es.modify j λe=>{e with val:=v},OQ _ eo (QS (Obj.data_mapDict ed _)),ex.mapDict _,Obj.data_mapDict ed _,?_,by rw[storedH_old ok,keys_map_putAt];exact nd⟩ (Heap.SameBut.update ..))))))
  rw[storedH_old ok]
  have t:=modify_map_putAt (entryOfKey kd) (λe:DictEntry=>{e with val:=v}) k v (λ_ _=>rfl) nd hj
  rw[<-el]at t
  cases es
  simpa using t
def lQ(xs ys:List (κ×Addr×Value)):List (κ×Addr×Value):=ys.foldl (λacc y=>storedH acc y.1 y.2.1 y.2.2) xs
def Gv(xs:List (κ×Addr×Value))(k:κ)(a:Addr)(v:Value):(storedH xs k a v).length<=xs.length+1:=by
 unfold storedH
 split<;>simp
theorem xG:∀(ys xs:List (κ×Addr×Value)),(lQ xs ys).length<=xs.length+ys.length
 | [],xs=>Oc _
 |y::ys,xs=>by
  have:=xG ys (storedH xs y.1 y.2.1 y.2.2)
  have h2:=Gv xs y.1 y.2.1 y.2.2
  show(lQ (storedH xs y.1 y.2.1 y.2.2) ys).length<=_
  simp only[ON];omega
theorem xK:∀(ys xs:List (κ×Addr×Value)),((xs++ys).map (·.1)).Nodup->lQ xs ys=xs++ys
 | [],xs,_=>by simp[lQ]
 |y::ys,xs,h=>by
  have nk:atKey xs y.1=none:=by
   cases q:atKey xs y.1 with
   |none=>rfl
   |some p=>
    exfalso
    unfold atKey at q
    let⟨z,hz,_⟩:=Q0.mp q
    have hm:=List.mem_of_find?_eq_some hz
    have he:=List.find?_some hz
    rw[OL,PF]at h
    exact h.2.2 z.1 (Of.mpr ⟨z,hm,rfl⟩) y.1 (by simp) (by simpa using he)
  show lQ (storedH xs y.1 y.2.1 y.2.2) ys=_
  rw[storedH_new nk,xK ys _ (by simpa using h)]
  simp
def uC(xs ys:List (κ×Addr×Value))(i:Nat)(y:κ×Addr×Value)(h:ys[i]? =some y):lQ xs (ys.take (i+1))=storedH (lQ xs (ys.take i)) y.1 y.2.1 y.2.2:=by
 simp[lQ,Pu,h,List.foldl_append]
def Gy{xs:List (κ×Addr×Value)}{k:κ}{a:Addr}{v:Value}{R:κ->Addr->Prop}(h:∀x∈xs,R x.1 x.2.1)(hk:R k a):∀x∈storedH xs k a v,R x.1 x.2.1:=by
 intro x hx
 unfold storedH at hx
 split at hx
 .obtain⟨y,hy,rfl⟩:=Of.mp hx
  unfold putAt
  split<;>exact h y hy
 .rcases Ox.mp hx with hx|hx
  .exact h x hx
  .simp at hx;subst hx;exact hk
theorem JK{es:List DictEntry}{Q:PUnit->Shared->Prop}{F:DictEntry->PUnit->Sem (ForInStep PUnit)}(h:∀e∈es,∀R:ForInStep PUnit->Shared->Prop,R (.yield ⟨⟩) s->wpAny (model P w) A (F e ⟨⟩) R E s)(q:Q ⟨⟩ s):wpAny (model P w) A (forIn es PUnit.unit F) Q E s:=by
 induction es with
 |nil=>rw[List.forIn_nil];exact N9 q
 |cons e es ih=>
  rw[List.forIn_cons]
  exact N7 (h e (Ol ..) _ (ih λe' he=>h e' (Og _ he)))
theorem wY:∀{l:List Int} {x:Int},l.Nodup->(l.filter (· == x)).length<=1
 | [],_,_=>by simp
 |y::l,x,h=>by
  rw[OS]at h
  rw[List.filter_cons]
  by_cases c:y=x
  ·subst c
   have:l.filter (· == y)= []:=Qz.mpr λz hz e=>h.1 (by rw[<-eq_of_beq e];exact hz)
   simp[this]
  .rw[Oe (by simpa using c)];exact wY h.2
def IV:typeLookup (.type "tuple") "__eq__"=pure (some (.builtin "tuple.__eq__")):=by rw[QF,PV];kernel_rfl
def JE{nm:String}{d o:Addr}{ep eo:Nat}{xs ys:List (κ×Addr×Value)}{Q:Unit->Shared->Prop}(hdo:d≠o)(ns:(o==sysModules)=false)(r:kd.room A)(ix:∀x∈xs,kd.is s.heap x.1 x.2.1)(iy:∀x∈ys,kd.is s.heap x.1 x.2.1)
  (ty:∀y∈ys,s.TypeIs (.ref y.2.1) "tuple") (hd:tK kd s.heap d xs ep) (ho:tK kd s.heap o ys eo) (hh:(ys.map λy=>kd.hash y.1).Nodup) (hne:ys≠ []) (hz:xs.length+ys.length<=sizeLine)
  (q:∀h' e',tK kd h' d (lQ xs ys) e'->Heap.SameBut d s.heap h'->Q () {s with heap:=h'}):wpAny (model P w) A (Builtin.Dict.mergeDict nm d o) Q E s:=by
 let⟨oo,es,e1,x1,d1,l1,n1⟩:=id ho
 let⟨od,fs,e2,x2,d2,l2,n2⟩:=id hd
 have sz:=Qh l1
 have sz2:=Qh l2
 unfold Builtin.Dict.mergeDict
 rw[Oe (by simpa using hdo)]
 unfold Builtin.Dict.showsAll
 rw[Oe (by rw[ns];exact OW)]
 refine N7 (N9 (N7 (PR e1 d1 ?_)))
 have few:(decide (es.size<=8)&&es.all λe=>(keyPart e.key).isSome)=false:=by
  obtain⟨y,ys',rfl⟩:∃y ys',ys=y::ys':=by cases ys with|nil=>exact absurd rfl hne|cons y t=>exact⟨y,t,rfl⟩
  have:(es.all λe=>(keyPart e.key).isSome)=false:=by
   cases es with
   |mk l=>rw[show l=_ from l1];simp[entryOfKey,keyPart]
  rw[this,Bool.and_false]
 rw[few]
 simp only[Bool.not_false,O9]
 refine N7 (PR e2 d2 ?_)
 by_cases hx:xs= []
 .subst hx
  have f0:fs=#[]:=Array.size_eq_zero_iff.mp (by rw[sz2];rfl)
  subst f0
  rw[Od (by rfl)]
  refine N7 ?_
  unfold Builtin.Dict.entriesForEmpty
  refine N7 (PR e1 d1 (N7 ?_))
  rw[<-Array.forIn_toList]
  refine JK (λe he R hR=>?_) ?_
  .rw[l1]at he
   obtain⟨y,hy,rfl⟩:=Of.mp he
   refine N7 ?_
   unfold Builtin.Dict.quietEq
   refine N7 (P8 (ty y hy) IV (N9 ?_))
   have hf:¬(es.filter λx=>x.hash==(entryOfKey kd y).hash).size>1:=by
    have:=wY (x:=kd.hash y.1) hh
    rw[<-Qt,Array.toList_filter,l1,List.filter_map,Ob]
    rw[List.filter_map,Ob]at this
    exact Nat.not_lt.mpr this
   rw[Od (by decide),Oe hf]
   first|exact N9 hR|exact N7 (N9 (N9 hR))
  .refine N9 ?_
   have hne':(!es.isEmpty)=true:=by
    have:es.size≠0:=by rw[sz];exact λz=>hne (Qr.mp z)
    cases es with|mk l=>cases l with|nil=>exact absurd rfl this|cons _ _=>rfl
   rw[Od hne']
   have mn:lQ [] ys=ys:=by rw[xK ys [] (by simpa using n1)];rfl
   rw[mn]at q
   refine N7 (wpAny_updateDictKeysTo e2 d2 (N9 (q _ (ep+1) ⟨_,es,OQ _ e2 (QS (Qi d2 _)),x2.mapDictKeys _,Qi d2 _,l1,n1⟩ (Heap.SameBut.update ..))) ?_)
   rw[sz];simp at hz;omega
 .have ne:¬(fs.isEmpty=true):=by
   intro z
   have:fs=#[]:=Array.isEmpty_iff.mp z
   rw[this]at sz2
   exact hx (Qr.mp sz2.symm)
  rw[Oe ne]
  refine N7 (Rl e1 d1 (N7 (PR e1 d1 (N7 ?_))))
  rw[Std.Legacy.Range.forIn_eq_forIn_range']
  simp only[Std.Legacy.Range.size,Nat.sub_zero,Nat.add_sub_cancel,Nat.div_one]
  refine Ra _
   (λrest _ s'=>∃h' i e',s'={s with heap:=h'}/\rest=List.range' i (es.size-i)/\i<=es.size/\tK kd h' d (lQ xs (ys.take i)) e'/\(∀x∈lQ xs (ys.take i),kd.is h' x.1 x.2.1)/\(∀x∈ys,kd.is h' x.1 x.2.1)/\h'.get? o=some oo/\Heap.SameBut d s.heap h')
   _ ?_ ?_ _ _ ⟨s.heap,0,ep,rfl,by simp,O2 _,by simpa[lQ]using hd,by simpa[lQ]using ix,iy,e1,Heap.SameBut.refl _ _⟩
  .rintro x rest b s' ⟨h',i,e',rfl,hr,hi,hd',ix',iy',eo',sb⟩
   have lt:i<es.size:=by
    rcases Pe i es.size with h|h
    .exact h
    .rw[Nat.sub_eq_zero_of_le h]at hr;simp at hr
   obtain⟨rfl,hr⟩:x=i/\rest=List.range' (i+1) (es.size-(i+1)):=by
    rw[show es.size-i=(es.size-(i+1))+1 by omega,Rg]at hr
    injection hr with h1 h2
    exact⟨h1,h2⟩
   have ly:x<ys.length:=by rw[<-sz];exact lt
   have hy:ys[x]? =some ys[x]:=N8 ly
   have he:es[x]? =some (entryOfKey kd ys[x]):=by rw[entry_at l1 x,hy];rfl
   refine N7 (PR eo' d1 ?_)
   rw[he]
   have hlen:(lQ xs (ys.take x)).length<=sizeLine:=by
    have a1:=xG (ys.take x) xs
    have a2:(ys.take x).length<=ys.length:=by rw[PL];omega
    omega
   have my:ys[x]∈ys:=Pz ly
   refine N7 (O0 (Bv r (iy' _ my) ix' hd' hlen λh2 f2 m2 s2=>?_))
   have eo2:h2.get? o=some oo:=(s2.2 o (Ne.symm hdo)).trans eo'
   let⟨oq,eq,w1,_,w3,_⟩:=id hd'
   refine N7 (Rl eo2 d1 ?_)
   rw[Oe (by simp)]
   refine N9 ⟨h2,x+1,f2,rfl,hr,lt,by rw[uC xs ys x _ hy];exact m2,?_,λz hz=>kd.keeps (iy' z hz) w1 w3 s2,eo2,sb.trans s2⟩
   rw[uC xs ys x _ hy]
   exact Gy (λz hz=>kd.keeps (ix' z hz) w1 w3 s2) (kd.keeps (iy' _ my) w1 w3 s2)
  .rintro b s' ⟨h',i,e',rfl,hr,hi,hd',_,_,_,sb⟩
   have hin:i=es.size:=by
    rcases Pe i es.size with h|h
    .rw[show es.size-i=(es.size-(i+1))+1 by omega,Rg]at hr;cases hr
    .exact Nat.le_antisymm hi h
   rw[hin,sz,QR]at hd'
   exact N9 (q h' e' hd' sb)
end
def Ie(p:Int×Int):Bool:=decide (0<=p.1)&&decide (p.1<8)&&(decide (0<=p.2)&&decide (p.2<8))
def K5(a b:Int):Int:=reduceHash (Builtin.Tuple.tupleHashOf [hashInt a,hashInt b])
def GD:∀a b c d:Fin 8,K5 (a.val:Int) (b.val:Int)=K5 (c.val:Int) (d.val:Int)->a=c/\b=d:=by decide +kernel
def Az{p:Int×Int}(h:Ie p=true):∃a b:Fin 8,p=((a.val:Int),(b.val:Int)):=by
 unfold Ie at h
 simp only[Oy,OB]at h
 let⟨x,y⟩:=p
 exact⟨⟨x.toNat,by omega⟩,⟨y.toNat,by omega⟩,by simp;omega⟩
def Hl{p q:Int×Int}(hp:Ie p=true)(hq:Ie q=true)(e:K5 p.1 p.2=K5 q.1 q.2):p=q:=by
 obtain⟨a,b,rfl⟩:=Az hp
 obtain⟨c,d,rfl⟩:=Az hq
 obtain⟨rfl,rfl⟩:=GD a b c d e
 rfl
def zv(kvs more:List (List Key×V)):List (List Key×V):=more.foldl (λacc kv=>putK acc kv.1 kv.2) kvs
def MT:V->List V->Hp->VK->Prop:=λx vs H Q=>∃(d o:Addr) (kvs:List (List Key×V)) (ep:Nat) (more:List (List Key×V)) (eo:Nat) (ps:List (Int×Int)),x=.ref d/\vs= [.ref o]/\H d=some (.dT kvs ep)/\Rd H o (.dT more eo)/\d≠o/\more.map (·.1)=ps.map kP/\(∀p,p∈ps->Ie p=true)/\ps≠ []/\
 kvs.length+more.length<=sizeLine/\∀e',Q .non (upd H d (.dT (zv kvs more) e'))
theorem KT.mrg{H:Hp}:∀{more:List (List Key×V)} {ys:List (List Key×Addr×Value)} {kvs:List (List Key×V)} {xs:List (List Key×Addr×Value)},KT H more ys->KT H kvs xs->KT H (zv kvs more) (lQ xs ys)
 |_,_,_,_,.nil,h=>h
 |kv::_,y::_,kvs,xs,.cons h1 t,h=>by
  show KT H (zv (putK kvs kv.1 kv.2) _) (lQ (storedH xs y.1 y.2.1 y.2.2) _)
  refine KT.mrg t ?_
  rw[<-h1.1]
  exact h.put kv.1 h1.2.1 h1.2.2
theorem wO:∀(more kvs:List (List Key×V)),(zv kvs more).length<=kvs.length+more.length
 | [],kvs=>Oc _
 |kv::more,kvs=>by
  have:=wO more (putK kvs kv.1 kv.2)
  have h2:=gP kvs kv.1 kv.2
  show(zv (putK kvs kv.1 kv.2) more).length<=_
  simp only[ON];omega
theorem Av{H:Hp}:∀{kvs:List (List Key×V)} {xs:List (List Key×Addr×Value)},KT H kvs xs->xs.map (·.1)=kvs.map (·.1)
 |_,_,.nil=>rfl
 |_,_,.cons h t=>by rw[OJ,OJ,Av t,h.1]
theorem vJ{α β:Type}{f:α->β}:∀{l:List α},(∀a,a∈l->∀b,b∈l->f a=f b->a=b)->l.Nodup->(l.map f).Nodup
 | [],_,_=>Qy
 |a::l,h,hn=>by
  rw[OS]at hn
  rw[OJ,OS]
  refine⟨λz=>?_,vJ (λx hx y hy=>h x (Og _ hx) y (Og _ hy)) hn.2⟩
  obtain⟨b,hb,e⟩:=Of.mp z
  exact hn.1 (by rw[h a (Ol ..) b (Og _ hb) e.symm];exact hb)
def IX{X:Cx}(hu:X.A.units+2<cLine):NO X "dict.update" MT:=by
 intro pins s σ H x vs v us Q I rx rv h
 obtain⟨d,o,kvs,ep,more,eo,ps,rfl,rfl,hd,ho,hne,hk,hsm,hp0,hz,q⟩:=h
 cases rx
 obtain⟨u,rfl,ru⟩:=vals1 rv
 cases ru
 let⟨z1,n1,xs,rel,dd,di⟩:=jD I.hok (.inl hd)
 let⟨z2,n2,ys,rel2,dd2,di2⟩:=jD I.hok ho
 have ty1:s.TypeIs (.ref d) "dict":=let⟨ob,_,eo,ex,_⟩:=dd;⟨ob,eo,ex.1⟩
 have ty2:s.TypeIs (.ref o) "dict":=let⟨ob,_,eo,ex,_⟩:=dd2;⟨ob,eo,ex.1⟩
 have l1:kvs.length=xs.length:=Paired.length rel
 have l2:more.length=ys.length:=Paired.length rel2
 have ky:ys.map (·.1)=ps.map kP:=(Av rel2).trans hk
 have hnd:(ys.map λy=>(tupleKind (bS X.prog X.w)).hash y.1).Nodup:=by
  have e:(ys.map λy=>(tupleKind (bS X.prog X.w)).hash y.1)=ps.map λp=>K5 p.1 p.2:=by
   have e2:=congrArg (List.map (tupleKind (bS X.prog X.w)).hash) ky
   rw[OX,OX]at e2
   exact e2
  rw[e]
  have pn:ps.Nodup:=by
   let⟨_,_,_,_,_,_,nd⟩:=dd2
   rw[ky]at nd
   exact List.Pairwise.of_map kP (λa b hab e=>hab (by rw[e])) nd
  exact vJ (λa ha b hb e=>Hl (hsm a ha) (hsm b hb) e) pn
 have yne:ys≠ []:=λz=>hp0 (by rw[z]at ky;simpa using ky.symm)
 refine Pq F.slot_dict_update ty1 F.entry_dict_update ?_ (F.args_dict_update_2 _ _)
 unfold Builtin.«dict.update»
 refine N7 ?_
 unfold Builtin.Dict.selfAndRest
 refine N7 (Q6 ty1 ?_)
 refine N9 ?_
 show wpAny _ _ (Builtin.Dict.updateFrom "dict.update" d (.ref o) [] .none) _ _ s
 unfold Builtin.Dict.updateFrom
 refine N7 (QO ty2 ?_)
 rw[Oe (by decide)]
 refine N7 ?_
 unfold Builtin.Dict.merge
 refine N7 ?_
 unfold Builtin.Dict.readDirectly
 refine N7 (Q8 ty2 isSubtype_dict_dict ?_)
 simp only[QG,Ow,OY]
 refine N7 (P8 ty2 F.slot_dict_iter.lookup (N9 ?_))
 simp only[beq_self_eq_true,O9]
 refine N7 (N9 (JE hne n2 (show X.A.units+1<cLine by omega) di di2 (λy hy=>(di2 y hy).typeIs) dd dd2 hnd yne (by omega) λh' e' m' sb=>?_))
 refine N7 (N9 (N9 ⟨.none,rfl,.non,_,?_,rfl,q e'⟩))
 obtain⟨q',hq⟩:∃q,h'.get? d=some q:=let⟨q,_,hq,_⟩:=m';⟨q,hq⟩
 refine n5 I (by rw[hd];exact True.intro) sb ⟨q',hq⟩ ⟨by have:=wO more kvs;omega,n1,_,(rel2.mrg rel).keeps λc ys ec=>?_,m'⟩
 exact ec.imp (λec=>by rw[ar (mO ec hd (λz=>nomatch z))];exact ec) λ⟨o,ec⟩=>⟨o,by rw[ar (mO ec hd (λz=>nomatch z))];exact ec⟩
section
variable {X:Cx}{Γ:Fx}{E:XK}{e:Expr}{f:VF D}{L:List Nat}{pos apos cpos np:Pos}{K:Frag}{G H:Hp}
theorem zr:∀{kvs:List (List Key×V)} {ds:List (D×D)} {A:List ((Int×Int)×D)},mX K G kvs ds->jy ds=some A->KP K G kvs A
 |_,_,_,.nil,h=>by cases h;exact .nil
 |_,_,A,.cons (k:=k) (x:=x) (xs:=xs) (d:=d) (ds:=ds) hx t,h=>by
  unfold jy at h
  cases e1:qp (.tuple (k.map kD))with
  |none=>rw[e1]at h;cases h
  |some q=>
   cases e2:jy ds with
   |none=>rw[e1,e2]at h;cases h
   |some M=>
    rw[e1,e2]at h
    cases h
    exact .cons ⟨HH e1,hx⟩ (zr t e2)
theorem KP.mrg:∀{more:List (List Key×V)} {B:List ((Int×Int)×D)} {kvs:List (List Key×V)} {A:List ((Int×Int)×D)},KP K G more B->KP K G kvs A->KP K G (zv kvs more) (B.foldl (λa x=>oG a x.1 x.2) A)
 |_,_,_,_,.nil,h=>h
 |kv::_,b::_,kvs,A,.cons h1 t,h=>by
  show KP K G (zv (putK kvs kv.1 kv.2) _) _
  rw[Qk]
  refine KP.mrg t ?_
  rw[h1.1]
  exact h.put _ h1.2
theorem z8:∀{kvs:List (List Key×V)} {A:List ((Int×Int)×D)},KP K G kvs A->kvs.map (·.1)=(A.map (·.1)).map kP
 |_,_,.nil=>rfl
 |_,_,.cons h t=>by rw[OJ,OJ,OJ,z8 t,h.1]
def uY(ds:List (D×D)):D->Option (List (D×D))
 | .dict es=>match jy ds,jy es with
  |some A,some B=>if(B.all λx=>Ie x.1)=true/\B≠ []/\A.length+B.length<1000 then some ((B.foldl (λa x=>oG a x.1 x.2) A).map λx=>(NI x.1,x.2))else none
  |_,_=>none
 |_=>none
def Bc(i:Nat)(L:List Nat)(f:VF D):SF:=λenv β=>if Bn env[i]? =true then toS (f (vl env) β) λd β'=>(match(ba L env)[i]? with
 |some (.ow (.dict ds))=>(match uY ds d with
  |some es=>.nx ((ba L env).set i (.ow (.dict es))) β'
  |none=>.bad)
 |_=>.bad)else .bad
def C0(i:Nat){x:Str}(hu:X.A.units+2<cLine)(hb:∀j,Γ.br j=false)(he:SE X Γ E e f L .v)(hN:X.N[i]? =some x:=by rfl)(hv:yc X.env.scope x:=by first|exact Or.inl rfl|exact Or.inr (Or.inl rfl)|exact Or.inr (Or.inr rfl))(hd:(x==("__debug__":Str))=false:=by decide)
  (hcd:(x==("__classdict__":Str))=false:=by decide)
  (hbase:attributeBase (.Name x np) "update" X.env (eval (.Name x np) X.env)=eval (.Name x np) X.env:=by rfl)
  (hfew:((backTo cpos (starEach [e] X.env)).all (λx=> !x.1)&&(backToKw cpos (keywordEach [] X.env)).all (λx=>x.1.isSome)
   && decide ([e].length+([]:List Keyword).length+(if([]:List Keyword).isEmpty then 0 else 1)<30))=true:=by rfl)
  (hline:(apos.endLine==cpos.line)=true:=by rfl) (hs:starEach [e] X.env=(false,eval e X.env)::starEach [] X.env:=by rfl)
  (hsw:swapsWith (.Call (.Attribute (.Name x np) "update" apos) [e] [] cpos) none pos.line X.env=pure false:=by rfl) :
  SS X Γ E (.Expr (.Call (.Attribute (.Name x np) "update" apos) [e] [] cpos) pos) (Bc i L f):=by
 refine PS.post (nN (xj PySem.F.plainAttrs_dict PySem.F.slot_dict_update PySem.F.type_dict_update (IX hu) (fK hN hv hd hcd) (aQ he bC hs) hbase hfew hline hs rfl) hsw) λN σ H ⟨env,G,B,β,I,o⟩=>?_
 unfold Bc at o
 by_cases hO:Bn env[i]? =true
 case neg=>rw[Oe hO]at o;exact o.elim
 rw[Od hO]at o
 let⟨ds0,q0⟩:=zT hO
 let⟨p,h1,_,_,_,h5⟩:=I.slot i _ q0
 refine⟨_,h1,?_,?_⟩
 .exact .inr (.inr (.inl ⟨rfl,h5.imp (λ⟨k,a,_⟩=>⟨k,a⟩) λ⟨k,a,_⟩=>⟨k.1,k.2,a⟩⟩))
 refine⟨env,G,B,β,I,cF o λd β' o v G' H' I' s' m' vo=>?_⟩
 split at o
 .rename_i ds q
  cases e3:uY ds d with
  |none=>rw[e3]at o;exact o.elim
  |some es=>
   rw[e3]at o
   unfold uY at e3
   split at e3
   .rename_i fs
    split at e3
    .rename_i A C eA eC
     split at e3
     .rename_i hz
      cases e3
      let⟨p',g1,g2,g3,g4,g5⟩:=I'.slot i _ q
      rw[h1]at g1;cases g1
      obtain⟨po,more,eo,rfl,hm,rm⟩:=u6 (show Rp Γ.K G' v (.dict fs)from vo) eC
      rcases g5 with⟨kk,g,r⟩|⟨⟨kvs,ep⟩,g,r⟩
      .exact (qh r eA).elim
      .have kA:=zr r eA
       have kC:=zr rm eC
       have la:kvs.length=A.length:=Paired.length kA
       have lc:more.length=C.length:=Paired.length kC
       refine⟨p,po,kvs,ep,more,eo,C.map (·.1),rfl,rfl,g,.inl (I'.sub _ _ hm),(λz=>by rw[<-z,g3]at hm;cases hm),z8 kC,λx hx=>?_,λz=>hz.2.1 (by simpa using z),by rw[OU];omega,λe'=>?_⟩
       .obtain⟨y,hy,rfl⟩:=Of.mp hx
        exact Pa.mp hz.1 y hy
       .exact o B G' _ σ (I'.write hb q h1 λH3 e4 s3=>.inr ⟨(_,_),e4,(kC.mrg kA).rp⟩) s'
     .cases e3
    .cases e3
   .cases e3
 .exact o.elim
end
def D3:bootBuiltins "list"=some (.type "list"):=by decide +kernel
section
variable {P:Program}{w:World}{κ:Type}[DecidableEq κ]{kd:HeapKind P w κ}{d:Addr}{ep:Nat}{xs:List (κ×Addr×Value)}
def tK.at{h h':Heap}(m:tK kd h d xs ep)(k:∀o,h.get? d=some o->h'.get? d=some o):tK kd h' d xs ep:=let⟨o,es,e,r⟩:=m;⟨o,es,k o e,r⟩
def Br{A:Around}(hh:A.handled=none)(I:Addr)(hne:d≠I):Walks P w A I [I,d] [I] xs.length (λi v=>∃x,xs[i]? =some x/\v=.ref x.2.1) (λi h=>h.IsKeyIter I d i xs.length ep/\tK kd h d xs ep) where
 sub:=λb hb=>by simp at hb;simp[hb]
 frame:=λi h h' st k=>⟨let⟨o,e,r⟩:=st.1;⟨o,k I (by simp) o e,r⟩,st.2.at λo e=>k d (by simp) o e⟩
 item:=λi s Q E hi st hQ=>by
  have hx:xs[i]? =some xs[i]:=N8 hi
  exact qD st.1 st.2 hx λh' it' sb=>hQ _ h' s.toks ⟨_,hx,rfl⟩ ⟨it',st.2.at λo e=>(sb.2 d hne).trans e⟩ λb o hb e=>(sb.2 b (λz=>hb (by simp[z]))).trans e
 done:=λs Q E st hQ=>ub hh st.1 st.2 (Oc _) λh' eb=>hQ h' s.toks λb o hb e=>eb b o (λz=>hb (by simp[z])) e
 self:=λi s Q E st hQ=>wpAny_pyIter_keyiter st.1 hQ
def Fg(lo:(d==sysModules)=false):PySem.W.KdlSrc P w "dict" d d xs.length (λi v=>∃x,xs[i]? =some x/\v=.ref x.2.1) (λh=>tK kd h d xs ep) where
 type:=λ_ ⟨o,_,eo,ex,_⟩=>⟨o,eo,ex.1⟩
 there:=λ_ ⟨o,_,eo,_⟩=>⟨Oj eo,Oj eo⟩
 keep:=λ_ _ m k=>m.at λo e=>k d (.inl rfl) o e
 notList:=by decide
 notTuple:=by decide
 hint:=λ_ _ _ _ ⟨o,_,eo,ex,_⟩ hq=>PySem.W.kdl_hint_dict ⟨o,eo,ex.1⟩ hq
 iter:=λA s hh m=>⟨_,_,(λ_ _ hq=>sd lo m hq),Br hh _ (let⟨o,_,eo,_⟩:=m;OP (Oj eo)),⟨⟨_,Ou _ rfl,rfl,rfl⟩,m.at λo e=>Oa _ e⟩⟩
end
def NH:List V->Hp->VK->Prop:=λvs H Q=>∃d kvs ep,vs= [.ref d]/\Rd H d (.dT kvs ep)/\∀(l:Addr) (bs:List Addr),H l=none->bs.length=kvs.length->(∀(i:Nat) kv b,kvs[i]? =some kv->bs[i]? =some b->Rd H b (.tup (kv.1.map kV)))->Q (.ref l) (upd H l (.lst (bs.map .ref)))
theorem x6:∀bs:List Addr,Vals (bs.map .ref) (bs.map .ref)
 | []=>.nil
 |_::bs=>.cons rfl (x6 bs)
theorem zm{X:Cx}(hc:X.calm=true):dq X (.type "list") NH:=by
 intro pins s σ H xs us Q I r h
 obtain⟨d,kvs,ep,rfl,hd,q⟩:=h
 obtain⟨u,rfl,rx⟩:=vals1 r
 cases rx
 let⟨z,hs,ys,rel,dd,di⟩:=jD I.hok hd
 have hl:kvs.length=ys.length:=Paired.length rel
 refine PySem.W.kdl_call (Fg hs) (I.ok.hd hc) dd (by omega) λh' tk acc c k eD it=>?_
 have ea:acc=((ys.map (·.2.1)).map Value.ref).toArray:=by
  apply Array.ext_getElem?
  intro i
  by_cases hi:i<ys.length
  .have hia:i<acc.size:=by rw[it.1];exact hi
   let⟨x,ex,ev⟩:=it.2 i _ (OF hia)
   rw[OF hia,ev]
   simp[ex]
  .rw[Po (by rw[it.1];omega),Po (by simp;omega)]
 have hf:H s.heap.objs.size=none:=I.hok.fresh (Oc _)
 refine⟨.ref s.heap.objs.size,_,I.laid k (Oc _) (show bJ X.prog X.w _ h' _ (.lst ((ys.map (·.2.1)).map .ref))from⟨by simp;omega,(ys.map (·.2.1)).map .ref,c,x6 _,by rw[<-ea];exact eD⟩),rfl,q _ (ys.map (·.2.1)) hf (by simp;omega) λi kv b h1 h2=>?_⟩
 rw[Om]at h2
 cases e:ys[i]? with
 |none=>rw[e]at h2;cases h2
 |some y=>
  rw[e]at h2
  cases h2
  let⟨kv',g1,_,g3⟩:=rel.at e
  rw[h1]at g1;cases g1
  exact g3
def L7:D->Option D
 | .dict ds=>(jy ds).map λ_=>.list (ds.map (·.1))
 |_=>none
section
variable {K:Frag}{X:Cx}{Γ:Fx}{E:XK}{a:Expr}{fa:VF D}{La:List Nat}{ma:Md}{pos:Pos}
theorem An{G G':Hp}:∀{kvs:List (List Key×V)} {ds:List (D×D)} {bs:List Addr},mX K G kvs ds->bs.length=kvs.length->(∀(i:Nat) kv b,kvs[i]? =some kv->bs[i]? =some b->fF K G' b (kv.1.map kV))->cE K G' (bs.map .ref) (ds.map (·.1))
 |_,_,[],.nil,_,_=>.nil
 |_,_,b::bs,.cons (k:=k) (x:=x) _ t,h,g=>.cons (.tup (g 0 (k,x) b rfl rfl) (p0 k)) (An t (by simpa using h) λi kv b h1 h2=>g (i+1) kv b h1 h2)
theorem Hq:yJ K (λx=>NH [x]) L7 .w:=by
 intro B G H x dx d Q s hB bx e k
 cases dx with
 |dict ds=>
  have e:((jy ds).map λ_=>PyData.list (ds.map (·.1)))=some d:=e
  cases e1:jy ds with
  |none=>rw[e1]at e;cases e
  |some L=>
   rw[e1]at e
   cases e
   obtain⟨p,kvs,ep,rfl,hq,r⟩:=Ak bx e1 s
   refine⟨p,kvs,ep,rfl,.inl hq,λl bs hl hb ht=>?_⟩
   have sH:ak H (upd H l (.lst (bs.map .ref))):=ak.new hl
   have gl:c9 G (upd H l (.lst (bs.map .ref))) l=none:=by
    unfold c9
    rw[s.free hl,av]
    exact Oe (by first|exact id|(intro z;cases z)|simp[Fz])
   exact k _ (c9 G (upd H l (.lst (bs.map .ref)))) _ (Ext.tups s sH) ⟨l,rfl,hl,gl,_,av,An r hb λi kv b h1 h2=>fh (s.trans sH) (.inl ((ht i kv b h1 h2).mono sH))⟩
 |_=>cases e
end
def yY:typeLookup (.type "list_reverseiterator") "__len__"=pure none:=by rw[QF,PV];kernel_rfl
def C4:typeLookup (.type "list_reverseiterator") "__length_hint__"=pure (some (.builtin "list_reverseiterator.__length_hint__")):=by rw[QF,PV];kernel_rfl
section
variable {P:Program}{w:World}{A:Around}{E:Value->Shared->Prop}{s:Shared}{r:Addr}
def EC{Q:Bool->Shared->Prop}(hT:s.TypeIs (.ref r) "list_reverseiterator")(h:Q false s):wpAny (model P w) A (Builtin.List.listLengthHint (.ref r)) Q E s:=by
 unfold Builtin.List.listLengthHint
 refine N7 (P8 hT yY ?_)
 refine N7 (P8 hT C4 ?_)
 generalize hid:("list_reverseiterator.__length_hint__":String)=id0
 wp_delta
 rw[show splitId id0=some ("list_reverseiterator","__length_hint__")from by subst hid;decide +kernel]
 subst hid
 refine N7 (Q8 (b:=true) hT (by rw[Qg];kernel_rfl) ?_)
 refine wpAny_ite_split (λhab=>absurd hab (by decide)) (λ_=>(wpAny_ite_split (λ_=>?_) (λhab=>absurd (by decide +kernel) hab)))
 exact wpAny_ite_split (λhab=>absurd hab (by decide)) (λ_=>(N9 h))
def BY{l it:Addr}{items:Array Value}{Q:Value->Shared->Prop}(hh:A.handled=none)(hne:l≠it)(hi:s.heap.IsRevIter it l ((items.size:Int)-1))(hl:s.heap.IsList l items)(hn:items.size<=sizeLine)
  (hQ:∀h' tk acc c,(∀b o,b≠it->s.heap.get? b=some o->h'.get? b=some o)->h'.get? s.heap.objs.size=some {cls:=.type "list",dict:=none,data:=.seq acc c,slots:=#[]}->ItemsOf (λi v=>items[items.size-1-i]? =some v) acc items.size->Q (.ref s.heap.objs.size) {s with heap:=h',toks:=tk}) :
  wpAny (model P w) A (call (.type "list") [.ref it]) Q E s:=by
 refine callType_codes (Q₁:=λobj s₁=>obj=.ref s.heap.objs.size/\s₁={s with heap:=s.heap.push {cls:=.type "list",data:=.seq #[]}}) F.called_list (F.typeCall_list_1 _) F.entry_list_init (code_list_new _ ⟨rfl,rfl⟩) λobj s₁ h₁=>?_
 obtain⟨rfl,rfl⟩:=h₁
 have hS:(s.heap.push {cls:=.type "list",data:=.seq #[]}).get? s.heap.objs.size=some {cls:=.type "list",data:=.seq #[]}:=Ou _ rfl
 have up:∀b o,s.heap.get? b=some o->(s.heap.push {cls:=.type "list",data:=.seq #[]}).get? b=some o:=λb o e=>Oa _ e
 have g1:it<s.heap.objs.size:=by let⟨_,e,_⟩:=hi;exact Oj e
 have g2:l<s.heap.objs.size:=by let⟨_,e,_⟩:=hl;exact Oj e
 refine⟨⟨_,hS,rfl⟩,F.args_list_init_2 _ _,?_⟩
 show wpAny _ A.in1.in1 (do let old <-Builtin.List.listItems (.ref s.heap.objs.size);Builtin.List.listUpdate (.ref s.heap.objs.size) (λ_=>#[]);letGo old.toList.reverse;Builtin.List.listExtendWith (.ref s.heap.objs.size) (.ref it) .none) _ _ _
 refine N7 ?_
 unfold Builtin.List.listItems
 refine N7 (wpAny_seqItems hS rfl (N9 ?_))
 refine N7 (wpAny_updateSeq hS rfl ?_)
 have hS2:=OQ (Obj.mapSeq (λ_=>(#[]:Array Value))) hS rfl
 have oth:∀b o,b≠s.heap.objs.size->(s.heap.push {cls:=.type "list",data:=.seq #[]}).get? b=some o->((s.heap.push {cls:=.type "list",data:=.seq #[]}).update s.heap.objs.size (Obj.mapSeq (λ_=>(#[]:Array Value)))).get? b=some o:=
  λb o hb e=>(Pd _ _ (Ne.symm hb)).trans e
 refine N7 (wpAny_letGo ?_)
 have hi':=hi.at λo e=>oth it o (OP g1) (up it o e)
 have hl':=hl.at λo e=>oth l o (OP g2) (up l o e)
 unfold Builtin.List.listExtendWith
 refine N7 (QO (let⟨o,e,c,_⟩:=hi';⟨o,e,c⟩) ?_)
 have h1:Builtin.List.listSameRef (.ref s.heap.objs.size) (.ref it)=false:=by simp[Builtin.List.listSameRef,QL g1]
 have h2:(Value.type "list_reverseiterator"==Value.type "list")=false:=by decide
 have h3:(Value.type "list_reverseiterator"==Value.type "tuple")=false:=by decide
 simp only[h1,h2,h3,Bool.or_false,Ow,OY]
 refine N7 (wpAny_pyIter_revIter hi' (N7 (O0 (EC (let⟨o,e,c,_⟩:=hi';⟨o,e,c⟩) ?_))))
 refine wpAny_ite_split (λhab=>absurd hab (by decide)) (λ_=>?_)
 have W:=Walks.listRev (prog:=P) (w:=w) (A:=A.in1.in1) hh it l hne items
 refine N9 ⟨QX F.plain_extend_loop _,codeAny_extend_loopS W.toS hn s.heap.objs.size (by simp;exact⟨QL g1,QL g2⟩) .none items.size 0 _ #[] _ rfl (O2 _) ⟨O2 _,by simpa using hi',hl'⟩ hS2 (ItemsOf.nil _) λs' acc' c' hm hS' hacc=>?_⟩
 rw[Moved.eq_with hm]
 refine⟨rfl,hQ s'.heap s'.toks acc' c' (λb o hb e=>hm.heap b o (λhmem=>?_) (oth b o (OP (Oj e)) (up b o e))) hS' hacc⟩
 rcases Oo.mp hmem with e'|hmem
 .exact OP (Oj e) e'
 .exact hb (OT.mp hmem)
end
def NV(K:Frag):List V->Hp->VK->Prop:=λvs H Q=>∃l xs,vs= [.ref l]/\gY K H l xs/\∀m,H m=none->Q (.ref m) (upd H m (.lst xs.reverse))
def DU:bootBuiltins "reversed"=some (.type "reversed"):=by decide +kernel
theorem wb:∀{xs:List V} {us:List Value},Vals xs us->Vals xs.reverse us.reverse
 |_,_,.nil=>.nil
 |_,_,.cons h t=>by rw[P4,P4];exact Paired.snoc (wb t) h
def GI{X:Cx}{a:Expr}{ta:TA}{p1 p2 pos pos2:Pos}(hc:X.calm=true)(hg:Gl X "list")(hm:X.mg "list"=none)(hg2:Gl X "reversed")(hm2:X.mg "reversed"=none)(ha:PA X [a] ta)
  (hs:starEach [a] X.env=(false,eval a X.env)::starEach [] X.env)
  (he2:starEach [.Call (.Name "reversed" p2) [a] [] pos2] X.env=(false,eval (.Call (.Name "reversed" p2) [a] [] pos2) X.env)::starEach [] X.env) :
  PE X (.Call (.Name "list" p1) [.Call (.Name "reversed" p2) [a] [] pos2] [] pos) (Nq (NV X.K) ta):=by
 intro pins s σ H Q I h
 refine QZ (mV I hg hm D3 (P7 ?_ he2 rfl))
 rw[he2]
 refine Calls.spliced_cons (QZ (mV I hg2 hm2 DU (P7 (cI (ha pos2 pins s σ H _ I h) λus s1 ⟨vs,H1,I1,r1,q1⟩=>?_) hs rfl)))
 obtain⟨l,xs,rfl,hq,q⟩:=q1
 obtain⟨u,rfl,rx⟩:=vals1 r1
 cases rx
 let⟨its,rv,pl,hz⟩:=I1.list hq
 refine call_reversed_list pl.isList (Calls.spliced_nil ?_)
 have ll:l<s1.heap.objs.size:=by let⟨_,e,_⟩:=pl.isList;exact Oj e
 have hl:=rv.length
 refine BY (I1.ok.hd hc) (OP ll) ⟨_,Ou _ rfl,rfl,rfl⟩ (pl.isList.at λo e=>Oa _ e) (by simp;omega) λh' tk acc c k eD it=>?_
 have ea:acc=its.reverse.toArray:=by
  apply Array.ext_getElem?
  intro i
  by_cases hi:i<its.length
  .have hia:i<acc.size:=by rw[it.1];simpa using hi
   have ev:=it.2 i _ (OF hia)
   rw[OF hia,<-ev]
   simp[Q7 hi]
  .rw[Po (by rw[it.1];simp;omega),Po (by simp;omega)]
 have I2:Inv X pins σ H1 {s1 with heap:=s1.heap.push (revObj l ((its.toArray.size:Int)-1)),toks:=s1.toks}:=I1.kept λb o e=>Oa _ e
 have hf:H1 (s1.heap.push (revObj l ((its.toArray.size:Int)-1))).objs.size=none:=I2.hok.fresh (Oc _)
 have I3:Inv X pins σ (upd H1 (s1.heap.push (revObj l ((its.toArray.size:Int)-1))).objs.size (.lst xs.reverse)) {s1 with heap:=h',toks:=tk}:=
  I1.laid (λb o e=>k b o (OP (Oj e)) (Oa _ e)) (by rw[PQ];omega) (show bJ X.prog X.w _ h' _ (.lst xs.reverse)from⟨by simpa using hz,its.reverse,c,wb rv,by rw[<-ea];exact eD⟩)
 exact⟨.ref _,_,I3,rfl,q _ hf⟩
section
variable {K:Frag}{X:Cx}{Γ:Fx}{E:XK}{a:Expr}{fa:VF D}{La:List Nat}{ma:Md}{pos:Pos}
def MO:D->Option D
 | .list ds=>some (.list ds.reverse)
 |_=>none
theorem cE.rev{G:Hp}:∀{xs:List V} {ds:List D},cE K G xs ds->cE K G xs.reverse ds.reverse
 |_,_,.nil=>.nil
 |_,_,.cons h t=>by rw[P4,P4];exact(cE.rev t).snoc h
theorem JZ:yJ K (λx=>NV K [x]) MO .w:=by
 intro B G H x dx d Q s hB bx e k
 cases dx with
 |list ds=>
  cases e
  obtain⟨p,xs,rfl,hq,r⟩:=bx.list s
  exact⟨p,xs,rfl,.inl hq,λm hm=>(k _ G _ (Ext.own s hm) ⟨m,rfl,hm,s.free hm,_,av,r.rev⟩)⟩
 |_=>cases e
def GQ{p1 p2 pos2:Pos}(hK:X.K=Γ.K)(hc:X.calm=true)(hg:Gl X "list")(hm:X.mg "list"=none)(hg2:Gl X "reversed")(hm2:X.mg "reversed"=none)(ha:SE X Γ E a fa La ma)
  (hs:starEach [a] X.env=(false,eval a X.env)::starEach [] X.env:=by rfl) (he2:starEach [.Call (.Name "reversed" p2) [a] [] pos2] X.env=(false,eval (.Call (.Name "reversed" p2) [a] [] pos2) X.env)::starEach [] X.env:=by rfl) :
  SE X Γ E (.Call (.Name "list" p1) [.Call (.Name "reversed" p2) [a] [] pos2] [] pos) (f1 fa MO) La .w:=
 PE.post' (GI hc hg hm hg2 hm2 (aQ ha bC hs) hs he2) λσ H Q ⟨env,G,B,β,I,o⟩=>by
  rw[hK]
  exact jv JZ I o
end
end L2
namespace RM
open PySem L2
def pI:SF:=(bI (bp (ab (f2 (gv 0) (cst (.int 1)) bK) (ab (f2 (gv 0) (cst (.int 0)) bK) ao))))
def oj(l7:List D->FR):SF:=(bI (f1 (aK 1 [] (.nm 0) (bQ (aA l7 (ab (gv 0) ao))) mC (bp (ab (gv 0) (ab (cst (.bool true)) ao)))) qP))
noncomputable def i3:SF:=(aB (bq 3 ([]++[]) (f2 (gv 2) (cst (.int 0)) bK))
 (aB (bq 4 ([]++[]) (f2 (gv 2) (cst (.int 1)) bK))
 (aB (bq 5 ([]++[4]) (aK 1 [4,0] (.nm 0) (bF (gv 1)) (wB (cT (f2 (gv 0) (gv 1) (cz true))) (cT (f2 (bp (ab (gv 1) (ab (gv 0) ao))) (gv 2) (mU true)))) (gv 0)))
 (aB (bq 6 ([]++[3]) (aK 1 [3,0] (.nm 0) (bF (gv 1)) (wB (cT (f2 (gv 0) (gv 1) (cz true))) (cT (f2 (bp (ab (gv 1) (ab (gv 0) ao))) (gv 2) (mU true)))) (gv 0)))
 (aB (bq 7 (([]++[3])++([]++[4])) (f2 (aK 1 [3] (.nm 0) (bQ (gv 5)) mC (bp (ab (gv 1) (ab (gv 0) ao)))) (aK 1 [4] (.nm 0) (bQ (gv 6)) mC (bp (ab (gv 0) (ab (gv 1) ao)))) iK))
 (mJ (f1 (aK 1 [0] (.nm 0) (bQ (gv 7)) (cT (f2 (gv 0) (gv 1) (mU false))) (gv 0)) iY)))))))
def dJ(cO:List D->FR):SF:=(aB (jk 3 [2] (HE 2))
 (aB (bq 4 ([2]++[]) (cP (ab (gv 2) ao)))
 (aB (gk [] (mD (gv 4))
 (aB (jk 5 [] (cP ao))
 (aB (c3 (.nm 6) [4] (bQ (gv 4))
 (c3 (.nm 7) ([0]++([1]++([6]++[]))) (bQ (aA cO (ab (gv 0) (ab (gv 1) (ab (gv 6) ao)))))
 (kM ([]++[]) (cT (f2 (gv 7) (gv 3) (mU true)))
 (aB (ER 3 [6] [] (gv 6) (gv 7))
 (nY 5 [7] (gv 7)))
 mG)))
 (bq 4 [5] (gv 5)))) 1000)
 (rn 3))))
def l5:SF:=(aB (jk 2 ([1]++[]) (cP (ab (gv 1) ao)))
 (aB (gk ([]++([]++[])) (tN (f2 (gv 0) (f2 (gv 2) (f1 (cst (.int 1)) yX) bK) pK) true)
 (nY 2 ([]++([]++[])) (f2 (gv 0) (f2 (gv 2) (f1 (cst (.int 1)) yX) bK) pK)) 1000)
 (mJ (f1 (gv 2) MO))))
def i9(aV bE iF:List D->FR):SF:=(aB (jk 2 [] (cst (.dict [])))
 (aB (c3 (.nm 3) [0] (Gh (gv 0))
 (kM ([]++[]) (cT (f2 (gv 3) (gv 2) (mU true)))
 (aB (bq 4 ([0]++([1]++([3]++[]))) (aA aV (ab (gv 0) (ab (gv 1) (ab (gv 3) ao)))))
 (aB (kM (([3]++[])++[]) (cT (f2 (aA bE (ab (gv 3) ao)) (gv 4) (mU false)))
 (bI (aA iF (ab (gv 4) (ab (aA bE (ab (gv 3) ao)) ao))))
 mG)
 (Bc 2 [4] (gv 4))))
 mG))
 (bI (cst .none))))
def fN(aV bE:List D->FR):SF:=(aB (jk 2 [] (cst (.dict [])))
 (aB (bq 3 [0] (gv 0))
 (aB (gk [] (Hg (gv 3))
 (aB (bq 4 ([3]++([1]++(([]++[])++[]))) (aA aV (ab (gv 3) (ab (gv 1) (ab (f2 (f1 (gv 3) L7) (cst (.int 0)) bK) ao)))))
 (aB (Bc 2 [4] (gv 4))
 (bq 3 ([]++[]) (f1 (aK 1 [4] (.nm 0) (Gh (gv 3)) (wB (cT (f2 (gv 0) (gv 1) (mU true))) (cT (f2 (aA bE (ab (gv 0) ao)) (gv 1) (mU true)))) (bp (ab (gv 0) (ab (cst (.bool true)) ao)))) qP)))) 1000)
 (rn 2))))
def lV:SF:=(aB (jk 2 [] (cP ao))
 (aB (c3 (.nm 3) ([]++[]) (bF (f2 (gv 0) (cst (.int 0)) bK))
 (aB (bq 4 (([]++[])++[]) (aK 2 [3] (.two 0 1) (bQ (f2 (gv 0) (cst (.int 1)) bK)) (cT (f2 (gv 1) (gv 2) (cz false))) (gv 0)))
 (aB (bq 5 ([]++[]) (aK 2 [3] (.two 0 1) (Gh (gv 1)) (cT (f2 (gv 1) (gv 2) (cz false))) (gv 0)))
 (aB (bq 6 ([]++[]) (aK 2 [3] (.two 0 1) (Gh (gv 1)) (cT (f2 (gv 0) (gv 2) (cz false))) (gv 1)))
 (nY 2 (([]++[])++(([]++[])++[])) (bp (ab (f2 (f1 (gv 4) c5) (f1 (gv 5) c5) b5) (ab (f2 (f1 (gv 4) c5) (f1 (gv 6) c5) b5) ao))))))))
 (rn 2)))
def dM(bz dI fD fE cQ:List D->FR):SF:=(aB (tZ ([0]++[]) (aA bz (ab (gv 0) ao)))
 (aB (bq 1 ([0]++[]) (aA dI (ab (gv 0) ao)))
 (aB (bq 2 ([1]++(([]++[])++[])) (aA fD (ab (gv 1) (ab (f2 (gv 0) (cst (.int 0)) bK) ao))))
 (aB (kM [] (tN (gv 2) true)
 (bI (bp (ab (cst (.str "knot")) (ab (gv 2) ao))))
 mG)
 (bI (bp (ab (cst (.str "points")) (ab (aA fE (ab (gv 0) (ab (aA cQ (ab (gv 1) (ab (f2 (gv 0) (cst (.int 0)) bK) ao))) ao))) ao))))))))
end RM
namespace L2
open PySem PySem.Spec PyProof.Rows
def Lw:SF:=λ_ _=>.bad
section
variable {X:Cx}{Γ:Fx}{E:XK}
def Jt{st:Stmt}:SS X Γ E st Lw:=λpins s σ H D I ⟨env,G,B,β,J,o⟩=>o.elim
end
section
variable {Γ:Fx}{B:Option Addr}{G H G3 H3:Hp}{σ σ1:St}{env env1:En}{β β':Int}
def SR.poke(I:SR Γ B G H σ env β)(hbr:∀j,Γ.br j=false){a:Addr}{zs ys:List V}(h0:Γ.H0 a=none)(hg:G a=none)(hb:B≠some a)(hn:∀(j:Nat) (d':D),env[j]? =some (.ow d')->σ[j]?≠some (some (.ref a)))(ha:H a=some (.lst zs)):SR Γ B G (upd H a (.lst ys)) σ env β:=by
 have hf:∀x y,H a≠some (.ba x y):=λx y w=>by rw[ha]at w;cases w
 refine⟨λb u q=>jC (I.sub b u q) (λz=>by rw[z,hg]at q;cases q) hf,I.old,I.new,λb u q n=>jC (I.keep b u q n) (λz=>by rw[z,h0]at q;cases q) hf,λb q=>?_,I.fix,λb q=>?_,I.len,λj s q=>?_,I.sep⟩
 .by_cases z:b=a
  .subst z;exact Mx.lst av
  .exact (I.pin b q).same λo e=>Kt.of (by rw[ar z];exact e)
 .let⟨k1,k2,k3⟩:=I.box b q
  exact⟨by rw[ar (λz=>hb (by rw[<-z];exact q))];exact k1,k2,k3⟩
 .have w:=I.slot j s q
  cases s with
  |no=>trivial
  |fz d1=>exact w
  |ow d1=>
   let⟨c,w1,w2,w3,w4,w5⟩:=w
   have ca:c≠a:=λz2=>hn j d1 q (by rw[<-z2];exact w1)
   exact⟨c,w1,w2,w3,w4,w5.mono (ak.refl _) λo q=>Kt.of (by rw[ar ca];exact q)⟩
  |bx=>exact w
  |br d1=>let⟨b1,_⟩:=w;rw[hbr j]at b1;cases b1
def SR.dropD(I:SR Γ B G H σ env β)(J:SR Γ B G3 H3 σ1 env1 β')(hbr:∀j,Γ.br j=false)(i:Nat)(v:V)(hσ:σ1=σ.set i (some v))(s:ak G G3)(m:iQ B H H3):SR Γ B G H3 σ1 (env.set i .no) β':=by
 subst hσ
 have back:∀{j:Nat} {d:Sl},(env.set i Sl.no)[j]? =some d->d≠.no->j≠i/\env[j]? =some d:=λ{j d} q n=>by
  by_cases z:j=i
  .subst z
   rw[Q5]at q
   split at q
   .split at q
    .cases q;exact absurd rfl n
    .cases q
   .rename_i z;exact absurd rfl z
  .rw[Oq (Ne.symm z)]at q;exact⟨z,q⟩
 refine⟨s.trans J.sub,I.old,I.new,J.keep,J.pin,I.fix,λb e=>?_,by rw[Pp,Pp];exact I.len,λj t q=>?_,λj k c d1 d2 q1 q2 q3 q4=>?_⟩
 .exact⟨(J.box b e).1,(I.box b e).2⟩
 .cases t with
  |no=>trivial
  |fz d=>
   let⟨n,q⟩:=back q (by simp)
   rw[Oq (Ne.symm n)]
   exact I.slot j _ q
  |ow d=>
   let⟨n,q⟩:=back q (by simp)
   rw[Oq (Ne.symm n)]
   let⟨c,w1,w2,w3,w4,w5⟩:=I.slot j _ q
   exact⟨c,w1,w2,w3,w4,w5.mono (ak.refl _) λo q=>m.1 c o q w4⟩
  |bx=>
   let⟨n,q⟩:=back q (by simp)
   rw[Oq (Ne.symm n)]
   exact I.slot j _ q
  |br d=>
   let⟨n,q⟩:=back q (by simp)
   let⟨b1,_⟩:=I.slot j _ q
   rw[hbr j]at b1;cases b1
 .let⟨n1,e1⟩:=back q1 (by simp)
  let⟨n2,e2⟩:=back q2 (by simp)
  rw[Oq (Ne.symm n1)]at q3
  rw[Oq (Ne.symm n2)]at q4
  exact I.sep j k c d1 d2 e1 e2 q3 q4
end
def rM(io i iz:Nat)(F:List D->FR)(L:List Nat)(t:VF Bool)(m m':SF):SF:=λenv β=>match env[io]? with
 |some (.fz d)=>if jq d=true/\i<env.length/\iz≠i then(match F [d]with
  | .ok (.tuple [.str w,.list ds]) false=>if jB ds=true/\ds.length<sizeLine then
    toS (t (vl (env.set i (.fz (.tuple [.str w,.list ds])))) β) λc β'=>if c=true then(match m (ba L (env.set i (.fz (.tuple [.str w,.list ds])))) β' with
     | .rt d fr β2=>.rt d fr β2
     |_=>.bad)else m' (((env.set i .no).set iz (.fz (.list ds))).set i (.fz (.tuple [.str w,.list (ds++[.int 0])]))) β'
   else .bad
  | .exc c=>.exc c
  |_=>.bad)else .bad
 |_=>.bad
def set_same{α:Type}{l:List α}{i:Nat}{x:α}(h:l[i]? =some x):l.set i x=l:=by
 refine Qo λj=>?_
 by_cases e:i=j
 .subst e;rw[OE (Ov.mp h).1,h]
 .rw[Oq e]
section
variable {X:Cx}{Γ:Fx}{E:XK}{c:Expr}{L:List Nat}{ta:VF Bool}{m m':SF}{sts body:List Stmt}
theorem Dt{i io iz:Nat}{x y z g:Str}{ps:List Str}{k:Nat}{F:List D->FR}{p1 p2 p3 p4 p5 p6 p7 p8 p9 q1 q2 q3 q4 r1 r2 r3 r4 r5 r6 pif:Pos}{j1 j2 j3}
  (hb:∀j,Γ.br j=false) (hf:cY X.prog X.w X.K X.mg X.base Γ.ca g ps k F) (hr:fY k X.A) (hxx:Passes (ue X.prog X.w) X E) (hK:X.K=Γ.K) (hg:Gl X g) (hN:X.N.Nodup)
  (hgl:Gl X "list") (hml:X.mg "list"=none)
  (hc:yx X Γ E c ta L) (hbd:Be X Γ E body m) (hrest:Be X Γ E sts m')
  (hp0:qq (.Constant (.int 1) j1 p7):=by first|exact λ_ _=>rfl|assumption) (hp1:qq (.Constant (.int 1) j3 r3):=by first|exact λ_ _=>rfl|assumption)
  (hi:X.N[i]? =some x:=by rfl) (hx:Loc X.env.scope x:=by first|exact Or.inl rfl|exact Or.inr rfl) (hvx:yc X.env.scope x:=by first|exact Or.inl rfl|exact Or.inr (Or.inl rfl)|exact Or.inr (Or.inr rfl)) (hfx:X.fn x=true\/X.env.scope.names.lookup x=some .local:=by first|exact .inl rfl|exact .inr rfl|assumption)
  (hiz:X.N[iz]? =some z:=by rfl) (hz:Loc X.env.scope z:=by first|exact Or.inl rfl|exact Or.inr rfl) (hfz:X.fn z=true\/X.env.scope.names.lookup z=some .local:=by first|exact .inl rfl|exact .inr rfl|assumption)
  (hio:X.N[io]? =some y:=by rfl) (hvy:yc X.env.scope y:=by first|exact Or.inl rfl|exact Or.inr (Or.inl rfl)|exact Or.inr (Or.inr rfl))
  (dx:(x==("__debug__":Str))=false:=by decide) (cx:(x==("__classdict__":Str))=false:=by decide) (dy:(y==("__debug__":Str))=false:=by decide) (cy:(y==("__classdict__":Str))=false:=by decide) (dg:(g==("__debug__":Str))=false:=by decide)
  (hs1:swapsWith (.Call (.Name g p1) [.Name y p2] [] p3) (some (.Name x p4)) p5.line X.env=pure false:=by rfl)
  (he1:starEach [.Name y p2] X.env=(false,eval (.Name y p2) X.env)::starEach [] X.env:=by rfl) (hpl1:(backTo p3 (starEach [] X.env)).any (·.1)=false:=by rfl)
  (hs3:swapsWith (.Call (.Name "list" r1) [.Subscript (.Name x r2) (.Constant (.int 1) j3 r3) r4] [] r5) (some (.Name z q4)) r6.line X.env=pure false:=by rfl)
  (he3:starEach [.Subscript (.Name x r2) (.Constant (.int 1) j3 r3) r4] X.env=(false,eval (.Subscript (.Name x r2) (.Constant (.int 1) j3 r3) r4) X.env)::starEach [] X.env:=by rfl)
  (hba:attributeBase (.Subscript (.Name x p8) (.Constant (.int 1) j1 p7) p9) "append" X.env (eval (.Subscript (.Name x p8) (.Constant (.int 1) j1 p7) p9) X.env)=eval (.Subscript (.Name x p8) (.Constant (.int 1) j1 p7) p9) X.env:=by rfl)
  (hw1:((backTo q2 (starEach [.Constant (.int 0) j2 q1] X.env)).all (λx=> !x.1)&&(backToKw q2 (keywordEach [] X.env)).all (λx=>x.1.isSome)
   && decide ([Expr.Constant (.int 0) j2 q1].length+([]:List Keyword).length+(if([]:List Keyword).isEmpty then 0 else 1)<30))=true:=by rfl)
  (hl1:(q3.endLine==q2.line)=true:=by rfl) (hsa1:starEach [.Constant (.int 0) j2 q1] X.env=(false,eval (.Constant (.int 0) j2 q1) X.env)::starEach [] X.env:=by rfl)
  (hsw1:swapsWith (.Call (.Attribute (.Subscript (.Name x p8) (.Constant (.int 1) j1 p7) p9) "append" q3) [.Constant (.int 0) j2 q1] [] q2) none p6.line X.env=pure false:=by rfl) :
  Be X Γ E (.Assign [.Name x p4] (.Call (.Name g p1) [.Name y p2] [] p3) p5::.If c body [] pif
   :: .Assign [.Name z q4] (.Call (.Name "list" r1) [.Subscript (.Name x r2) (.Constant (.int 1) j3 r3) r4] [] r5) r6
   :: .Expr (.Call (.Attribute (.Subscript (.Name x p8) (.Constant (.int 1) j1 p7) p9) "append" q3) [.Constant (.int 0) j2 q1] [] q2) p6::sts) (rM io i iz F L ta m m'):=by
 let⟨f,fd,hm,hk,hbi,hF⟩:=hf.ex
 refine sL.post (dw (m6 hN hi hx (ox hF hr hg hm hk hbi .nil hxx (aQ (fK hio hvy dy cy) bC he1) dg he1 hpl1) hs1 hfx)
  (dw (EI hc hbd u4)
  (dw (m6 hN hiz hz (iE nW hgl hml (by decide +kernel) (aQ (kO zk (fK hi hvx dx cx) nG hp1) bC he3) (by decide) (by decide) he3 rfl) hs3 hfz)
  (dw (nN (xj QW Rv Rw mi (kO zk (fK hi hvx dx cx) nG hp0) (aQ nG bC hsa1) hba hw1 hl1 hsa1 rfl) hsw1) hrest)))) λN σ H ⟨env,G,B,β,I,o⟩=>?_
 unfold rM at o
 cases qo:env[io]? with
 |none=>rw[qo]at o;exact o.elim
 |some s=>
 rw[qo]at o
 cases s with
 |no=>exact o.elim
 |ow d=>exact o.elim
 |bx=>exact o.elim
 |br d=>exact o.elim
 |fz d=>
 dsimp only at o
 by_cases hfl:jq d=true/\i<env.length/\iz≠i
 case neg=>rw[Oe hfl]at o;exact o.elim
 rw[Od hfl]at o
 let⟨hfl,hil,hne⟩:=hfl
 let⟨vo,h1,h2⟩:=I.slot io _ qo
 have hlen:F [d]≠.bad-> [d].length=ps.length:=hf.len _
 refine⟨vo,h1,?_⟩
 have sn:ak (c9 J4 G) H:=(rK x9).trans I.sub
 refine⟨c9 J4 G,[d],sn,?_,by rw[hK];exact .cons (Rp.flat x9 (ak.refl _) h2 hfl) .nil,?_⟩
 .exact hlen λz=>by rw[z]at o;exact o
 cases q:F [d]with
 |bad=>rw[q]at o;exact o
 |exc c=>rw[q]at o;exact λH' s=>o H' (I.kp s)
 |ok r fr=>
 rw[q]at o
 split at o
 case h_2 z=>cases z
 case h_3=>exact o.elim
 rename_i w ds z
 cases z
 by_cases hcd:jB ds=true/\ds.length<sizeLine
 case neg=>rw[Oe hcd]at o;exact o.elim
 rw[Od hcd]at o
 let⟨c1,c2⟩:=hcd
 intro v G' H' hh g1 g2 hn fv
 have fv:Rp X.K G' v (.tuple [.str w,.list ds]):=fv
 rw[hK]at fv
 have new:∀b ys,G' b=some (.lst ys)->H b=none/\H' b=some (.lst ys):=by
  intro b ys hy
  have hH':H' b=some (.lst ys):=g2 _ _ hy
  refine⟨?_,hH'⟩
  cases z:H b with
  |none=>rfl
  |some o=>
   have z':=EW (hh _ _ z) hH'
   subst z'
   have hm:Mx H b:=Mx.lst z
   have:c9 J4 G b=none:=by
    cases y:c9 J4 G b with
    |none=>rfl
    |some o=>
     have y':=EW (sn _ _ y) z
     subst y'
     exact(FH y).elim
   rw[hn b hm this]at hy
   cases hy
 let G1:Hp:=λb=>match H b with|none=>H' b|some _=>G b
 have xt1:Ext G H G1 H':=by
  refine⟨hh,λb o e=>?_,λb o e=>?_,λb mb=>?_⟩
  .refine Kt.of ?_
   show(match H b with|none=>H' b|some _=>G b)=_
   cases z:H b with
   |none=>rw[I.sub.free z]at e;cases e
   |some u=>exact e
  .have e:(match H b with|none=>H' b|some _=>G b)=some o:=e
   cases z:H b with
   |none=>rw[z]at e;exact Kt.of e
   |some u=>rw[z]at e;exact(I.sub.trans hh) b o e
  .show (match H b with|none=>H' b|some _=>G b)=_
   cases z:H b with
   |none=>exact absurd z mb.1
   |some u=>rfl
 have xt:Ext G H (c9 G1 H') H':=xt1.trans (Ext.tups xt1.gh (ak.refl _))
 have I2:=I.ext xt
 cases fv with
 | @tup a xs _ hsq rs=>
 cases rs with
 | @cons x0 xs1 _ _ r0 rs=>
 cases rs with
 | @cons x1 xs2 _ _ rb rs=>
 cases rs
 cases r0
 cases rb with
 | @lst b ys _ hb0 ry=>
 let⟨nb,hb'⟩:=new b ys hb0
 have gb1:c9 G1 H' b=some (.lst ys):=by
  have:G1 b=some (.lst ys):=by
   show(match H b with|none=>H' b|some _=>G b)=_
   rw[nb];exact hb'
  unfold c9;rw[this]
 have rp2:Rp Γ.K (c9 G1 H') (.ref a) (.tuple [.str w,.list ds]):=.tup (fh xt1.gh (hsq.grow g2.grow)) (.cons (.str w) (.cons (.lst gb1 (cE.flat xt1.gh g2 ry c1)) .nil))
 have I3:=I2.set' i rp2
 refine⟨env.set i (.fz (.tuple [.str w,.list ds])),c9 G1 H',B,β,I3,cF o λc β' k G3 H3 J s3 m3=>?_⟩
 have s03:ak G G3:=xt.gg.trans s3
 cases c with
 |true=>
  refine vd ?_
  rw[Od rfl]at k
  refine⟨_,G3,B,β',J,?_⟩
  cases r:m (ba L (env.set i (.fz (.tuple [.str w,.list ds])))) β' with
  |rt d2 fr2 β2=>rw[r]at k;exact so.weak k s03
  |nx _ _=>rw[r]at k;exact k.elim
  |bk _ _=>rw[r]at k;exact k.elim
  |ct _ _=>rw[r]at k;exact k.elim
  |exc _=>rw[r]at k;exact k.elim
  |bad=>rw[r]at k;exact k.elim
 |false=>
  refine uQ ?_
  rw[Oe OW]at k
  have M:iQ B H H3:=(hh.mov B).trans m3
  have S:=I.dropD J hb i (.ref a) rfl s03 M
  have gr:=s3.trans J.sub
  have hb3:H3 b=some (.lst ys):=gr _ _ gb1
  have sq3:fF Γ.K H3 a [.str w,.ref b]:=(fh xt1.gh (hsq.grow g2.grow)).grow gr.grow
  have ry3:cE Γ.K (c9 G H3) ys ds:=cE.flat S.sub gr (cE.flat xt1.gh g2 ry c1) c1
  let⟨f1,f2,f3,f4⟩:=I.fresh nb
  have S1:=S.ext (Ext.tups S.sub (ak.refl H3))
  have gb:c9 G H3 b=none:=by
   unfold c9
   rw[f2,hb3]
   exact Oe (by first|exact id|(intro z;cases z)|simp[Fz])
  have hσ:(σ.set i (some (V.ref a)))[i]? =some (some (.ref a)):=OE (by rw[I.len];exact hil)
  refine⟨.ref a,hσ,a,[.str w,.ref b],1,.ref b,rfl,rfl,by rw[hK];exact sq3,rfl,b,ys,rfl,.inl (.inl (.inl hb3)),λl hl=>?_⟩
  have x4:=Ext.new S1.sub (o:=.lst ys) hl
  have S2:=(S1.ext x4).set' iz (.lst av (ry3.mono x4.gg))
  have lb:b≠l:=aC hb3 hl
  have hσ2:((σ.set i (some (V.ref a))).set iz (some (V.ref l)))[i]? =some (some (.ref a)):=by rw[Oq hne];exact hσ
  have hb4:upd H3 l (.lst ys) b=some (.lst ys):=by rw[ar lb];exact hb3
  have sq4:fF Γ.K (upd H3 l (.lst ys)) a [.str w,.ref b]:=sq3.grow (ak.new hl).grow
  have sqG:fF Γ.K (upd (c9 G H3) l (.lst ys)) a [.str w,.ref b]:=(fh S.sub sq3).grow x4.gg.grow
  have gb4:upd (c9 G H3) l (.lst ys) b=none:=by rw[ar lb];exact gb
  refine⟨.ref a,hσ2,a,[.str w,.ref b],1,.ref b,rfl,rfl,by rw[hK];exact sq4,rfl,.inl ⟨rfl,ys,.inl (.inl hb4)⟩,?_⟩
  refine⟨b,ys,.int 0,rfl,rfl,hb4,by rw[ry3.len];exact c2,?_⟩
  have no:∀(j:Nat) (d':D),((env.set i Sl.no).set iz (.fz (.list ds)))[j]? =some (.ow d')->((σ.set i (some (V.ref a))).set iz (some (V.ref l)))[j]?≠some (some (.ref b)):=λj d' e=>by
   by_cases z1:j=iz
   .subst z1
    rw[Q5]at e
    split at e
    .split at e<;>cases e
    .rename_i z;exact absurd rfl z
   .rw[Oq (Ne.symm z1)]at e ⊢
    by_cases z2:j=i
    .subst z2;rw[OE hil]at e;cases e
    .rw[Oq (Ne.symm z2)]at e ⊢;exact f4 j d' e
  have S3:=S2.poke hb (ys:=ys++[.int 0]) f1 gb4 f3 no hb4
  let⟨G6,S4,s6,rb6⟩:=S3.letIn (d:=.list (ds++[.int 0])) f1 gb4 f3 no ⟨ys++[.int 0],av,(ry3.mono x4.gg).snoc (.int 0)⟩
  have S5:=S4.set' i (.tup (sqG.grow s6.grow) (.cons (.str w) (.cons rb6 .nil)))
  rw[set_same hσ2]at S5
  exact⟨_,G6,B,β',S5,so.weak k ((oN.trans x4.gg).trans s6)⟩
end
end L2
namespace RM
open PySem L2
def g7(gC:List D->FR):SF:=(kM ([0]++[]) (sJ (mD (aA gC (ab (gv 0) ao))))
 Lw
 mG)
def fJ(bA dS:List D->FR):SF:=(aB (kM ([]++(([]++[])++([]++[]))) (kT (sJ (mD (f1 (gv 1) (ij "tuple")))) (kT (cT (f2 (f1 (gv 1) c5) (cst (.int 2)) (cz true))) (sJ (mD (f1 (aK 1 [] (.nm 0) (bQ (gv 1)) mC (aA bA (ab (gv 0) ao))) (eT λbs=>bs.all id))))))
 (bI (cst (.bool false)))
 mG)
 (bI (f2 (gv 1) (aA dS (ab (gv 0) ao)) (Bi false))))
def gJ(bh:List D->FR):SF:=(aB (wG (.two 3 4) [1] (gv 1))
 (aB (wG (.two 5 6) [2] (gv 2))
 (aB (kM (([]++[])++([]++[])) (wB (cT (f2 (gv 3) (gv 5) (cz false))) (cT (f2 (gv 4) (gv 6) (cz true))))
 (bI (f1 (aA bh (ab (gv 0) (ab (gv 4) (ab (gv 6) ao)))) wD))
 mG)
 (bI (fX (f2 (gv 4) (gv 6) (cz false)) (fX (f2 (gv 3) (gv 5) (cz true)) (f1 (aA bh (ab (gv 0) (ab (gv 3) (ab (gv 5) ao)))) wD)))))))
def iR(cN c6:List D->FR):SF:=(aB (kM ([]++(([]++[])++([]++[1]))) (kT (sJ (mD (f1 (gv 0) (ij "list")))) (kT (cT (f2 (gv 0) (cP ao) (cz false))) (sJ (mD (f1 (aK 1 [1] (.nm 0) (bQ (gv 0)) mC (aA cN (ab (gv 1) (ab (gv 0) ao)))) (eT λbs=>bs.all id))))))
 (bI (cst (.bool false)))
 mG)
 (aB (kM (([]++[])++([]++[])) (cT (f2 (f2 (gv 0) (f1 (cst (.int 1)) yX) bK) (f1 (f2 (gv 0) (cst (.int 0)) bK) Lj) (cz true)))
 (bI (cst (.bool false)))
 mG)
 (bI (f1 (aK 1 [1,0] (.nm 0) (bF (f2 (f1 (gv 0) c5) (cst (.int 1)) Di)) mC (aA c6 (ab (gv 1) (ab (f2 (gv 2) (gv 0) bK) (ab (f2 (gv 2) (f2 (gv 0) (cst (.int 1)) b5) bK) ao))))) (eT λbs=>bs.all id)))))
noncomputable def dt(bA:List D->FR):SF:=(aB (bq 2 ([]++[]) (f2 (gv 1) (cst (.int 0)) bK))
 (aB (kM ([]++([]++[])) (kT (sJ (mD (f1 (gv 0) (ij "list")))) (cT (f2 (f1 (gv 0) c5) (gv 2) (cz true))))
 (bI (cst (.bool false)))
 mG)
 (aB (c3 (.nm 3) [0] (bQ (gv 0))
 (kM ([]++(([]++[])++([]++[]))) (kT (sJ (mD (f1 (gv 3) (ij "tuple")))) (kT (cT (f2 (f1 (gv 3) c5) (cst (.int 2)) (cz true))) (sJ (mD (f1 (aK 1 [] (.nm 0) (bQ (gv 3)) mC (aA bA (ab (gv 0) ao))) (eT λbs=>bs.all id))))))
 (bI (cst (.bool false)))
 mG))
 (aB (c3 (.nm 4) [] (bF (cst (.int 2)))
 (kM (([]++[])++[]) (cT (f2 (f1 (aK 1 [4] (.nm 0) (bQ (gv 0)) mC (f2 (gv 0) (gv 1) bK)) rX) (f1 (gv 2) cR) (cz true)))
 (bI (cst (.bool false)))
 mG))
 (aB (bq 5 [] (cP ao))
 (aB (c3 (.nm 6) [] (bF (gv 2))
 (bq 5 ([]++([]++[6])) (f2 (gv 5) (aK 1 [0,6] (.nm 0) (bF (gv 2)) (wB (cT (f2 (f2 (f2 (gv 1) (gv 2) bK) (cst (.int 0)) bK) (f2 (f2 (gv 1) (gv 0) bK) (cst (.int 0)) bK) Cp)) (cT (f2 (f2 (f2 (gv 1) (gv 2) bK) (cst (.int 1)) bK) (f2 (f2 (gv 1) (gv 0) bK) (cst (.int 1)) bK) Cp))) (bp (ab (gv 2) (ab (gv 0) ao)))) iK)))
 (bI (f2 (f1 (gv 5) kn) (f2 (gv 1) (cst (.int 1)) bK) (cz false)))))))))
def kK(cL bR:List D->FR):SF:=(aB (kM ([]++([]++[])) (kT (sJ (mD (f1 (gv 0) (ij "tuple")))) (cT (f2 (f1 (gv 0) c5) (cst (.int 2)) (cz true))))
 (bI (cst (.bool false)))
 mG)
 (aB (kM (([]++[])++[]) (cT (f2 (f2 (gv 0) (cst (.int 0)) bK) (cst (.str "knot")) (cz false)))
 (bI (aA cL (ab (f2 (gv 0) (cst (.int 1)) bK) (ab (gv 1) ao))))
 mG)
 (bI (fX (f2 (f2 (gv 0) (cst (.int 0)) bK) (cst (.str "points")) (cz false)) (aA bR (ab (f2 (gv 0) (cst (.int 1)) bK) (ab (gv 1) ao)))))))
def EV(gx fC bH eB:List D->FR)(aI aH eJ dN:List D->Int->FB):SF:=(aB (c3 (.nm 1) ([]++([]++[])) (bF (f2 (cst (.int 1)) (f2 (f1 (gv 0) c5) (cst (.int 3)) (yg λi j=>.int (if j<i then j else i))) (yg λi j=>.int (if j>i then j else i))))
 (aB (Ae 2 ([0]++([1]++[])) (yb gx (ab (gv 0) (ab (gv 1) ao))))
 (aB (bq 3 ([]++([]++[])) (f2 (cst (.int 1)) (mE 2 aI (ab (cst (.int 8)) ao)) b5))
 (aB (bq 4 ([]++[]) (aK 1 [2,3] (.nm 0) (bF (cst (.int 2))) mC (f1 (mE 1 aH (ab (f1 (gv 2) cR) ao)) kn)))
 (aB (bq 5 ((([3]++(([3]++([4]++[]))++[]))++([]++[]))++(([]++([]++[]))++[])) (cP (ab (bp (ab (bp (ab (gv 3) (ab (aA fC (ab (gv 3) (ab (gv 4) ao))) ao))) (ab (cst (.str "points")) ao))) (ab (bp (ab (mE 2 eJ ao) (ab (cst (.str "knot")) ao))) ao))))
 (c3 (.two 6 7) ([]++((([]++[])++([]++[]))++[])) (bQ (f2 (gv 5) (cP (ab (bp (ab (mE 2 dN (ab (cst (.int 7)) ao)) (ab (cst (.str "")) ao))) ao)) iK))
 (rM 6 8 9 bH (([8]++([6]++[]))++(([]++[])++(([]++[])++[]))) (kT (sJ (mD (aA eB (ab (gv 8) (ab (gv 6) ao))))) (wB (cT (f2 (gv 7) (cst (.str "")) (cz true))) (cT (f2 (f2 (gv 8) (cst (.int 0)) bK) (gv 7) (cz true)))))
 (bI (cst (.bool false)))
 (kM (([6]++[])++(([]++[])++([9]++[]))) (cT (f2 (aA bH (ab (gv 6) ao)) (bp (ab (f2 (gv 8) (cst (.int 0)) bK) (ab (gv 9) ao))) (cz true)))
 (bI (cst (.bool false)))
 mG))))))))
 (bI (cst (.bool true))))
end RM
namespace RQ
open PySem L2 RM
section
variable {P:Program}{w:World}{K:Frag}{mg:Str->Option Value}{base:Heap}{ca:Str->Addr}
def xH:aF ["thing"] ["thing"] (au kh):=⟨rfl,rfl,rfl,by decide +kernel,rfl,by decide +kernel,by decide +kernel⟩
def uZ{f:Addr}{fd:FuncData}(F:jJ K mg "is_whole" kh ["thing"] f fd)(B:jS mg):cY P w K mg base ca "is_whole" ["thing"] 1 (bc 1 1 (rh)):=
 ⟨⟨f,fd,F.mg,F.F.kp,F.b,aU F.F xH λcdv A outer s H G E hr=>
  (ay (aS (gn (gZ "int" (by decide) rfl rfl B.isinstance rfl B.int (by decide +kernel) (af 0)) (jF (qu (gZ "bool" (by decide) rfl rfl B.isinstance rfl B.bool (by decide +kernel) (af 0)))) (λ_ _=>rfl))))⟩,λds h=>aP ds h⟩
def wX:aF ["thing","bound"] ["thing","bound"] (au km):=⟨rfl,rfl,rfl,by decide +kernel,rfl,by decide +kernel,by decide +kernel⟩
def vU{f:Addr}{fd:FuncData}{cg:List D->FR}(F:jJ K mg "is_below" km ["thing","bound"] f fd)(B:jS mg)(gp:cY P w K mg base ca "is_whole" ["thing"] 1 cg):cY P w K mg base ca "is_below" ["thing","bound"] 2 (bc 2 2 (qJ cg)):=
 ⟨⟨f,fd,F.mg,F.F.kp,F.b,aU F.F wX λcdv A outer s H G E hr=>
  (ay (aS (gn (aL gp (hr.mono (by decide)) bf rfl rfl (ae (aw 0 rfl) ah)) (jF (xk D6 zO JW Hs ax (af 0) (af 1))) (λ_ _=>rfl))))⟩,λds h=>aP ds h⟩
def y9:aF ["thing"] ["thing"] (au mf):=⟨rfl,rfl,rfl,by decide +kernel,rfl,by decide +kernel,by decide +kernel⟩
def wC{f:Addr}{fd:FuncData}{cg:List D->FR}(F:jJ K mg "is_many" mf ["thing"] f fd)(B:jS mg)(gp:cY P w K mg base ca "is_whole" ["thing"] 1 cg){sV:Tok}(jz:mg "MOST_THINGS"=some (.int 8 sV)):cY P w K mg base ca "is_many" ["thing"] 2 (bc 1 1 (uK cg)):=
 ⟨⟨f,fd,F.mg,F.F.kp,F.b,aU F.F y9 λcdv A outer s H G E hr=>
  (ay (aS (gn (aL gp (hr.mono (by decide)) bf rfl rfl (ae (aw 0 rfl) ah)) (jF (xk D6 D6 JW JW ax (af 0) (GB (by rfl) jz))) (λ_ _=>rfl))))⟩,λds h=>aP ds h⟩
def yU:aF ["thing","many"] ["thing","many"] (au mw):=⟨rfl,rfl,rfl,by decide +kernel,rfl,by decide +kernel,by decide +kernel⟩
def xl{f:Addr}{fd:FuncData}{fu:List D->FR}(F:jJ K mg "is_pair" mw ["thing","many"] f fd)(B:jS mg)(kH:cY P w K mg base ca "is_below" ["thing","bound"] 2 fu):cY P w K mg base ca "is_pair" ["thing","many"] 3 (bc 2 2 (tW fu)):=
 ⟨⟨f,fd,F.mg,F.F.kp,F.b,aU F.F yU λcdv A outer s H G E hr=>
  (ag (dB (qf.t (kN (fy (dc rfl (gZ "tuple" (by decide) rfl rfl B.isinstance rfl B.tuple (by decide +kernel) (af 0)))) (kG (aX (cH hr.units) du (aZ b6 hJ rfl B.len Pb (af 0)) ax (aW _))) (λ_ _=>rfl)))
  (ay (aS hG))
  cc)
  (ay (aS (gn (aL kH (hr.mono (by decide)) bf rfl rfl (ae (a9 aM b4 (af 0) ax (λ_ _=>rfl)) (ae (aw 1 rfl) ah))) (jF (aL kH (hr.mono (by decide)) bf rfl rfl (ae (a9 aM b4 (af 0) ax (λ_ _=>rfl)) (ae (aw 1 rfl) ah)))) (λ_ _=>rfl)))))⟩,λds h=>aP ds h⟩
def tH:aF ["many"] ["many"] (au fI):=⟨rfl,rfl,rfl,by decide +kernel,rfl,by decide +kernel,by decide +kernel⟩
def rf{f:Addr}{fd:FuncData}(F:jJ K mg "every_pair" fI ["many"] f fd)(B:jS mg):cY P w K mg base ca "every_pair" ["many"] 1 (bc 1 1 (h9)):=
 ⟨⟨f,fd,F.mg,F.F.kp,F.b,aU F.F tH λcdv A outer s H G E hr=>
  (ay (l0 (ck [] rfl (bP (by kernel_rfl)) (λ_ _=>rfl) (fZ rfl B.range (bu jH kf (af 0) (af 0))) (λH0 G0 par br bx C ex s3 H3 pn=>(bN (show(["number","many"]:List Str).Nodup by decide +kernel))) (λH0 G0 par br bx C ex s3 H3 pn hB1=>dG) (λH0 G0 par br bx C ex s3 H3 pn hB1=>(bw (ae (bu ot Ff (af 0) (af 1)) (ae (bu mW um (af 0) (af 1)) ah)))))))⟩,λds h=>aP ds h⟩
def wy:aF ["pairs"] ["pairs"] (au kq):=⟨rfl,rfl,rfl,by decide +kernel,rfl,by decide +kernel,by decide +kernel⟩
def vj{f:Addr}{fd:FuncData}(F:jJ K mg "has_ring" kq ["pairs"] f fd)(B:jS mg):cY P w K mg base ca "has_ring" ["pairs"] 1 (bc 1 1 (qX)):=
 ⟨⟨f,fd,F.mg,F.F.kp,F.b,aU F.F wy λcdv A outer s H G E hr=>
  (ay (aS (aZ (CV rfl) mr rfl B.any (by decide +kernel) (ck [] rfl (bP (by kernel_rfl)) (λ_ _=>rfl) (mZ rfl (af 0)) (λH0 G0 par br bx C ex s3 H3 pn=>(jA (show(["a","b"]:List Str).Nodup by decide +kernel))) (λH0 G0 par br bx C ex s3 H3 pn hB1=>dG) (λH0 G0 par br bx C ex s3 H3 pn hB1=>(gm (fx hr.units) du (af 0) (af 1) (aW _)))))))⟩,λds h=>aP ds h⟩
def lF:aF ["thing","many","pairs"] ["thing"] (au j4):=⟨rfl,rfl,rfl,by decide +kernel,rfl,by decide +kernel,by decide +kernel⟩
def vT{f:Addr}{fd:FuncData}{iI iJ jL gj:List D->FR}(F:jJ K mg "is_order" j4 ["thing"] f fd)(B:jS mg)(oO:cY P w K mg base ca "is_many" ["thing"] 2 iI)(pk:cY P w K mg base ca "is_pair" ["thing","many"] 3 iJ)(rF:cY P w K mg base ca "closed" ["many","pairs"] 3 jL)(ni:cY P w K mg base ca "has_ring" ["pairs"] 1 gj):cY P w K mg base ca "is_order" ["thing"] 4 (bc 3 1 (iX iI iJ jL gj)):=
 ⟨⟨f,fd,F.mg,F.F.kp,F.b,aU F.F lF λcdv A outer s H G E hr=>
  (ag (dB (qf.t (kN (fy (dc rfl (gZ "tuple" (by decide) rfl rfl B.isinstance rfl B.tuple (by decide +kernel) (af 0)))) (kG (aX (cH hr.units) du (aZ b6 hJ rfl B.len Pb (af 0)) ax (aW _))) (λ_ _=>rfl)))
  (ay (aS hG))
  cc)
  (ag (a7 (a9 aM b4 (af 0) ax (λ_ _=>rfl)) lF.nd)
  (ag (a7 (a9 aM b4 (af 0) ax (λ_ _=>rfl)) lF.nd)
  (ag (dB (qf.t (kN (fy (dc rfl (aL oO (hr.mono (by decide)) bf rfl rfl (ae (aw 1 rfl) ah)))) (kG (fy (dc rfl (gZ "tuple" (by decide) rfl rfl B.isinstance rfl B.tuple (by decide +kernel) (af 2))))) (λ_ _=>rfl)))
  (ay (aS hG))
  cc)
  (ag (dB (fy (dc rfl (aZ (lu rfl) mr rfl B.all (by decide +kernel) (ck [1] rfl (bP (by kernel_rfl)) (λ_ _=>rfl) (mZ rfl (af 2)) (λH0 G0 par br bx C ex s3 H3 pn=>(bN (show(["pair","many"]:List Str).Nodup by decide +kernel))) (λH0 G0 par br bx C ex s3 H3 pn hB1=>dG) (λH0 G0 par br bx C ex s3 H3 pn hB1=>(aL pk (hr.mono (by decide)) n0 rfl rfl (ae (aw 0 (hB1 0 (by decide))) (ae (aw 1 (hB1 1 (by decide))) ah))))))))
  (ay (aS hG))
  cc)
  (ay (aS (gn (gm (fx hr.units) du (af 2) (aL rF (hr.mono (by decide)) bf rfl rfl (ae (aw 1 rfl) (ae (aw 2 rfl) ah))) (aW _)) (jF (qu (aL ni (hr.mono (by decide)) bf rfl rfl (ae (aw 2 rfl) ah)))) (λ_ _=>rfl)))))))))⟩,λds h=>aP ds h⟩
def tw:aF ["thing"] ["thing"] (au iw):=⟨rfl,rfl,rfl,by decide +kernel,rfl,by decide +kernel,by decide +kernel⟩
def qN{f:Addr}{fd:FuncData}{gC:List D->FR}(F:jJ K mg "need_order" iw ["thing"] f fd)(B:jS mg)(nh:cY P w K mg base ca "is_order" ["thing"] 4 gC):cY P w K mg base ca "need_order" ["thing"] 5 (bc 1 1 (g7 gC)):=
 ⟨⟨f,fd,F.mg,F.F.kp,F.b,aU F.F tw λcdv A outer s H G E hr=>
  (ay (dB (fy (dc rfl (aL nh (hr.mono (by decide)) bf rfl rfl (ae (aw 0 rfl) ah))))
  (ay Jt)
  cc))⟩,λds h=>aP ds h⟩
def uN:aF ["order","a","b"] ["order","a","b"] (au i7):=⟨rfl,rfl,rfl,by decide +kernel,rfl,by decide +kernel,by decide +kernel⟩
def sS{f:Addr}{fd:FuncData}(F:jJ K mg "are_apart" i7 ["order","a","b"] f fd)(B:jS mg):cY P w K mg base ca "are_apart" ["order","a","b"] 1 (bc 3 3 (pH)):=
 ⟨⟨f,fd,F.mg,F.F.kp,F.b,aU F.F uN λcdv A outer s H G E hr=>
  (ay (aS (gn (gm (cH hr.units) du (af 1) (af 2) (aW _)) (gn (gm (l9 hr.u1) Dw (bw (ae (aw 1 rfl) (ae (aw 2 rfl) ah))) (a9 aM b4 (af 0) ax (λ_ _=>rfl)) (by with_unfolding_all rfl)) (jF (gm (l9 hr.u1) Dw (bw (ae (aw 2 rfl) (ae (aw 1 rfl) ah))) (a9 aM b4 (af 0) ax (λ_ _=>rfl)) (by with_unfolding_all rfl))) (λ_ _=>rfl)) (λ_ _=>rfl))))⟩,λds h=>aP ds h⟩
def DZ:aF ["order"] ["order"] (au qk):=⟨rfl,rfl,rfl,by decide +kernel,rfl,by decide +kernel,by decide +kernel⟩
def BZ{f:Addr}{fd:FuncData}{bz cX fB:List D->FR}(F:jJ K mg "turns" qk ["order"] f fd)(B:jS mg)(eO:cY P w K mg base ca "need_order" ["thing"] 5 bz)(j6:cY P w K mg base ca "every_pair" ["many"] 1 cX)(lL:cY P w K mg base ca "are_apart" ["order","a","b"] 1 fB):cY P w K mg base ca "turns" ["order"] 6 (bc 1 1 (qd bz cX fB)):=
 ⟨⟨f,fd,F.mg,F.F.kp,F.b,aU F.F DZ λcdv A outer s H G E hr=>
  (ag (zK (aL eO (hr.mono (by decide)) bf rfl rfl (ae (aw 0 rfl) ah)))
  (ay (l0 (ck [0] rfl (bP (by kernel_rfl)) (λ_ _=>rfl) (mZ rfl (aL j6 (hr.mono (by decide)) bf rfl rfl (ae (a9 aM b4 (af 0) ax (λ_ _=>rfl)) ah))) (λH0 G0 par br bx C ex s3 H3 pn=>(jA (show(["a","b","order"]:List Str).Nodup by decide +kernel))) (λH0 G0 par br bx C ex s3 H3 pn hB1=>(eM (dc rfl (aL lL (hr.mono (by decide)) n0 rfl rfl (ae (aw 2 (hB1 2 (by decide))) (ae (aw 0 (hB1 0 (by decide))) (ae (aw 1 (hB1 1 (by decide))) ah))))))) (λH0 G0 par br bx C ex s3 H3 pn hB1=>(bw (ae (aw 0 (hB1 0 (by decide))) (ae (aw 1 (hB1 1 (by decide))) ah))))))))⟩,λds h=>aP ds h⟩
def tE:aF ["order"] ["order"] (au hZ):=⟨rfl,rfl,rfl,by decide +kernel,rfl,by decide +kernel,by decide +kernel⟩
def sC{f:Addr}{fd:FuncData}{l7:List D->FR}(F:jJ K mg "turn_table" hZ ["order"] f fd)(B:jS mg)(uU:cY P w K mg base ca "turns" ["order"] 6 l7)(hn:lz K=true):cY P w K mg base ca "turn_table" ["order"] 7 (bc 1 1 (oj l7)):=
 ⟨⟨f,fd,F.mg,F.F.kp,F.b,aU F.F tE λcdv A outer s H G E hr=>
  (ay (aS (fH (qt rfl hr.u2) (AB hn) rfl B.dict (by decide +kernel) (ck [] rfl (bP (by kernel_rfl)) (λ_ _=>rfl) (mZ rfl (aL uU (hr.mono (by decide)) bf rfl rfl (ae (aw 0 rfl) ah))) (λH0 G0 par br bx C ex s3 H3 pn=>(bN (show(["turn"]:List Str).Nodup by decide +kernel))) (λH0 G0 par br bx C ex s3 H3 pn hB1=>dG) (λH0 G0 par br bx C ex s3 H3 pn hB1=>(bw (ae (aw 0 (hB1 0 (by decide))) (ae hG ah))))))))⟩,λds h=>aP ds h⟩
def cv:aF ["table","many","turn","a","b","seconds","firsts","found"] ["table","many","turn"] (au fW):=⟨rfl,rfl,rfl,by decide +kernel,rfl,by decide +kernel,by decide +kernel⟩
def oV{f:Addr}{fd:FuncData}(F:jJ K mg "forced_among" fW ["table","many","turn"] f fd)(B:jS mg)(hn:lz K=true):cY P w K mg base ca "forced_among" ["table","many","turn"] 1 (bc 8 3 (i3)):=
 ⟨⟨f,fd,F.mg,F.F.kp,F.b,aU F.F cv λcdv A outer s H G E hr=>
  (ag (a7 (a9 aM b4 (af 2) ax (λ_ _=>rfl)) cv.nd)
  (ag (a7 (a9 aM b4 (af 2) ax (λ_ _=>rfl)) cv.nd)
  (ag (jm [4] rfl (bP (by kernel_rfl)) (λ_ _=>rfl) (fZ rfl B.range (af 1)) (λH0 G0 par br bx C ex s3 H3 pn=>(bN (show(["c","b","table"]:List Str).Nodup by decide +kernel))) (λH0 G0 par br bx C ex s3 H3 pn hB1=>(eM (qf.t (nj (aX (cH hr.units) du (af 0) (af 1) (aW _)) (kI (aX (iG hr.u1) (pw hn) (bw (ae (aw 1 (hB1 1 (by decide))) (ae (aw 0 (hB1 0 (by decide))) ah))) (af 2) (by with_unfolding_all rfl))) (λi hi=>hB1 i (by revert i hi;decide)))))) (λH0 G0 par br bx C ex s3 H3 pn hB1=>(aw 0 (hB1 0 (by decide)))) cv.nd)
  (ag (jm [3] rfl (bP (by kernel_rfl)) (λ_ _=>rfl) (fZ rfl B.range (af 1)) (λH0 G0 par br bx C ex s3 H3 pn=>(bN (show(["c","a","table"]:List Str).Nodup by decide +kernel))) (λH0 G0 par br bx C ex s3 H3 pn hB2=>(eM (qf.t (nj (aX (cH hr.units) du (af 0) (af 1) (aW _)) (kI (aX (iG hr.u1) (pw hn) (bw (ae (aw 1 (hB2 1 (by decide))) (ae (aw 0 (hB2 0 (by decide))) ah))) (af 2) (by with_unfolding_all rfl))) (λi hi=>hB2 i (by revert i hi;decide)))))) (λH0 G0 par br bx C ex s3 H3 pn hB2=>(aw 0 (hB2 0 (by decide)))) cv.nd)
  (ag (a7 (SE.wv (bu j5 qG (ck [3] rfl (bP (by kernel_rfl)) (λ_ _=>rfl) (mZ rfl (af 5)) (λH0 G0 par br bx C ex s3 H3 pn=>(bN (show(["c","a"]:List Str).Nodup by decide +kernel))) (λH0 G0 par br bx C ex s3 H3 pn hB3=>dG) (λH0 G0 par br bx C ex s3 H3 pn hB3=>(bw (ae (aw 1 (hB3 1 (by decide))) (ae (aw 0 (hB3 0 (by decide))) ah))))) (ck [4] rfl (bP (by kernel_rfl)) (λ_ _=>rfl) (mZ rfl (af 6)) (λH0 G0 par br bx C ex s3 H3 pn=>(bN (show(["c","b"]:List Str).Nodup by decide +kernel))) (λH0 G0 par br bx C ex s3 H3 pn hB4=>dG) (λH0 G0 par br bx C ex s3 H3 pn hB4=>(bw (ae (aw 0 (hB4 0 (by decide))) (ae (aw 1 (hB4 1 (by decide))) ah))))))) cv.nd)
  (ay (l0 (aZ pA zE rfl B.sorted (by decide +kernel) (ck [] rfl (bP (by kernel_rfl)) (λ_ _=>rfl) (mZ rfl (af 7)) (λH0 G0 par br bx C ex s3 H3 pn=>(bN (show(["other","table"]:List Str).Nodup by decide +kernel))) (λH0 G0 par br bx C ex s3 H3 pn hB5=>(eM (aX (CN hr.u1) (pw hn) (af 0) (af 1) (by with_unfolding_all rfl)))) (λH0 G0 par br bx C ex s3 H3 pn hB5=>(aw 0 (hB5 0 (by decide)))))))))))))⟩,λds h=>aP ds h⟩
def vt:aF ["turn"] ["turn"] (au ji):=⟨rfl,rfl,rfl,by decide +kernel,rfl,by decide +kernel,by decide +kernel⟩
def tq{f:Addr}{fd:FuncData}(F:jJ K mg "back_turn" ji ["turn"] f fd)(B:jS mg):cY P w K mg base ca "back_turn" ["turn"] 1 (bc 1 1 (pI)):=
 ⟨⟨f,fd,F.mg,F.F.kp,F.b,aU F.F vt λcdv A outer s H G E hr=>
  (ay (aS (bw (ae (a9 aM b4 (af 0) ax (λ_ _=>rfl)) (ae (a9 aM b4 (af 0) ax (λ_ _=>rfl)) ah)))))⟩,λds h=>aP ds h⟩
def bB:aF ["table","many","turn","came","fresh","later","one","other"] ["table","many","turn"] (au eG):=⟨rfl,rfl,rfl,by decide +kernel,rfl,by decide +kernel,by decide +kernel⟩
def mR{f:Addr}{fd:FuncData}{cO:List D->FR}(F:jJ K mg "forced_in_turn" eG ["table","many","turn"] f fd)(B:jS mg)(iZ:cY P w K mg base ca "forced_among" ["table","many","turn"] 1 cO)(hn:lz K=true):cY P w K mg base ca "forced_in_turn" ["table","many","turn"] 2 (bc 8 3 (dJ cO)):=
 ⟨⟨f,fd,F.mg,F.F.kp,F.b,aU F.F bB λcdv A outer s H G E hr=>
  (ag (gM (FD 2 rfl hr.u2 hn) bB.nd)
  (ag (a7 (SE.wv (cK (ae (aw 2 rfl) ah))) bB.nd)
  (ag (lO 1000 PassesOwn.leaving (dc rfl (af 4))
  (ag (gM (cK ah) bB.nd)
  (ag (dF PassesOwn.leaving rfl (D7 rfl (aw 4 rfl)) (bN bB.nd)
  (ay (dF PassesOwn.leaving rfl (D7 rfl (aL iZ (hr.mono (by decide)) bf rfl rfl (ae (aw 0 rfl) (ae (aw 1 rfl) (ae (aw 6 rfl) ah))))) (bN bB.nd)
  (ay (dB (aX (iG hr.u1) (pw hn) (af 7) (af 3) (by with_unfolding_all rfl))
  (ag (Ha 3 hr.u2 hn (λ_=>rfl) (aw 6 rfl) (af 7))
  (ay (jK 5 (λ_=>rfl) (aw 7 rfl))))
  cc)))))
  (ay (a7 (aw 5 rfl) bB.nd)))))
  (ay (oy 3)))))⟩,λds h=>aP ds h⟩
def q5:aF ["came","turn","path"] ["came","turn"] (au l6):=⟨rfl,rfl,rfl,by decide +kernel,rfl,by decide +kernel,by decide +kernel⟩
def xW{f:Addr}{fd:FuncData}(F:jJ K mg "path_to" l6 ["came","turn"] f fd)(B:jS mg)(hn:lz K=true):cY P w K mg base ca "path_to" ["came","turn"] 1 (bc 3 2 (l5)):=
 ⟨⟨f,fd,F.mg,F.F.kp,F.b,aU F.F q5 λcdv A outer s H G E hr=>
  (ag (gM (cK (ae (aw 1 rfl) ah)) q5.nd)
  (ag (lO 1000 PassesOwn.leaving (AY (zH hr.u2 hn (af 0) (a9 aM b4 (af 2) (AZ sD zZ ax) (λ_ _=>rfl)) (λ_ _=>rfl)))
  (ay (jK 2 (λ_=>rfl) (zH hr.u2 hn (af 0) (a9 aM b4 (af 2) (AZ sD zZ ax) (λ_ _=>rfl)) (λ_ _=>rfl)))))
  (ay (l0 (GQ rfl rfl rfl B.list rfl B.reversed (af 2))))))⟩,λds h=>aP ds h⟩
def iC:aF ["table","many","seen","turn","came"] ["table","many"] (au jl):=⟨rfl,rfl,rfl,by decide +kernel,rfl,by decide +kernel,by decide +kernel⟩
def sX{f:Addr}{fd:FuncData}{aV bE iF:List D->FR}(F:jJ K mg "find_knot" jl ["table","many"] f fd)(B:jS mg)(b9:cY P w K mg base ca "forced_in_turn" ["table","many","turn"] 2 aV)(dE:cY P w K mg base ca "back_turn" ["turn"] 1 bE)(oS:cY P w K mg base ca "path_to" ["came","turn"] 1 iF)(hn:lz K=true):cY P w K mg base ca "find_knot" ["table","many"] 3 (bc 5 2 (i9 aV bE iF)):=
 ⟨⟨f,fd,F.mg,F.F.kp,F.b,aU F.F iC λcdv A outer s H G E hr=>
  (ag (gM wm iC.nd)
  (ag (dF PassesOwn.leaving rfl (KA (aw 0 rfl)) (bN iC.nd)
  (ay (dB (aX (iG hr.u1) (pw hn) (af 3) (af 2) (by with_unfolding_all rfl))
  (ag (a7 (aL b9 (hr.mono (by decide)) bf rfl rfl (ae (aw 0 rfl) (ae (aw 1 rfl) (ae (aw 3 rfl) ah)))) iC.nd)
  (ag (dB (aX (CN hr.u1) (pw hn) (aL dE (hr.mono (by decide)) bf rfl rfl (ae (aw 3 rfl) ah)) (af 4) (by with_unfolding_all rfl))
  (ay (aS (aL oS (hr.mono (by decide)) bf rfl rfl (ae (aw 4 rfl) (ae (aL dE (hr.mono (by decide)) bf rfl rfl (ae (aw 3 rfl) ah)) ah)))))
  cc)
  (ay (C0 2 hr.u2 (λ_=>rfl) (aw 4 rfl)))))
  cc)))
  (ay (aS Jv))))⟩,λds h=>aP ds h⟩
def dH:aF ["order","chosen","points","thing","ahead","firsts","seconds"] ["order","chosen"] (au jt):=⟨rfl,rfl,rfl,by decide +kernel,rfl,by decide +kernel,by decide +kernel⟩
def tf{f:Addr}{fd:FuncData}(F:jJ K mg "points_by" jt ["order","chosen"] f fd)(B:jS mg):cY P w K mg base ca "points_by" ["order","chosen"] 1 (bc 7 2 (lV)):=
 ⟨⟨f,fd,F.mg,F.F.kp,F.b,aU F.F dH λcdv A outer s H G E hr=>
  (ag (gM (cK ah) dH.nd)
  (ag (dF PassesOwn.leaving rfl (fZ rfl B.range (a9 aM b4 (af 0) ax (λ_ _=>rfl))) (bN dH.nd)
  (ag (jm [] rfl (bP (by kernel_rfl)) (λ_ _=>rfl) (mZ rfl (a9 aM b4 (af 0) ax (λ_ _=>rfl))) (λH0 G0 par br bx C ex s3 H3 pn=>(jA (show(["a","b","thing"]:List Str).Nodup by decide +kernel))) (λH0 G0 par br bx C ex s3 H3 pn hB1=>(eM (aX (fx hr.units) du (af 1) (af 2) (aW _)))) (λH0 G0 par br bx C ex s3 H3 pn hB1=>(aw 0 (hB1 0 (by decide)))) dH.nd)
  (ag (jm [] rfl (bP (by kernel_rfl)) (λ_ _=>rfl) (EG (af 1)) (λH0 G0 par br bx C ex s3 H3 pn=>(jA (show(["a","b","thing"]:List Str).Nodup by decide +kernel))) (λH0 G0 par br bx C ex s3 H3 pn hB2=>(eM (aX (fx hr.units) du (af 1) (af 2) (aW _)))) (λH0 G0 par br bx C ex s3 H3 pn hB2=>(aw 0 (hB2 0 (by decide)))) dH.nd)
  (ag (jm [] rfl (bP (by kernel_rfl)) (λ_ _=>rfl) (EG (af 1)) (λH0 G0 par br bx C ex s3 H3 pn=>(jA (show(["a","b","thing"]:List Str).Nodup by decide +kernel))) (λH0 G0 par br bx C ex s3 H3 pn hB3=>(eM (aX (fx hr.units) du (af 0) (af 2) (aW _)))) (λH0 G0 par br bx C ex s3 H3 pn hB3=>(aw 1 (hB3 1 (by decide)))) dH.nd)
  (ay (jK 2 (λ_=>rfl) (bw (ae (bu gB gz (aZ b6 hJ rfl B.len Pb (af 4)) (aZ b6 hJ rfl B.len Pb (af 5))) (ae (bu gB gz (aZ b6 hJ rfl B.len Pb (af 4)) (aZ b6 hJ rfl B.len Pb (af 6))) ah)))))))))
  (ay (oy 2))))⟩,λds h=>aP ds h⟩
def cZ:aF ["table","many","chosen","left","came"] ["table","many"] (au fV):=⟨rfl,rfl,rfl,by decide +kernel,rfl,by decide +kernel,by decide +kernel⟩
def oJ{f:Addr}{fd:FuncData}{aV bE:List D->FR}(F:jJ K mg "chosen_turns" fV ["table","many"] f fd)(B:jS mg)(b9:cY P w K mg base ca "forced_in_turn" ["table","many","turn"] 2 aV)(dE:cY P w K mg base ca "back_turn" ["turn"] 1 bE)(hn:lz K=true):cY P w K mg base ca "chosen_turns" ["table","many"] 3 (bc 5 2 (fN aV bE)):=
 ⟨⟨f,fd,F.mg,F.F.kp,F.b,aU F.F cZ λcdv A outer s H G E hr=>
  (ag (gM wm cZ.nd)
  (ag (a7 (aw 0 rfl) cZ.nd)
  (ag (lO 1000 PassesOwn.leaving (Ir (af 3))
  (ag (a7 (aL b9 (hr.mono (by decide)) bf rfl rfl (ae (aw 3 rfl) (ae (aw 1 rfl) (ae (a9 aM b4 (fH (zm rfl) Hq rfl B.list (by decide +kernel) (af 3)) ax (λ_ _=>rfl)) ah)))) cZ.nd)
  (ag (C0 2 hr.u2 (λ_=>rfl) (aw 4 rfl))
  (ay (a7 (fH (qt rfl hr.u2) (AB hn) rfl B.dict (by decide +kernel) (ck [] rfl (bP (by kernel_rfl)) (λ_ _=>rfl) (EG (af 3)) (λH0 G0 par br bx C ex s3 H3 pn=>(bN (show(["turn","came"]:List Str).Nodup by decide +kernel))) (λH0 G0 par br bx C ex s3 H3 pn hB1=>(eM (qf.t (nj (aX (iG hr.u1) (pw hn) (af 0) (af 1) (by with_unfolding_all rfl)) (kI (aX (iG hr.u1) (pw hn) (aL dE (hr.mono (by decide)) n0 rfl rfl (ae (aw 0 (hB1 0 (by decide))) ah)) (af 1) (by with_unfolding_all rfl))) (λi hi=>hB1 i (by revert i hi;decide)))))) (λH0 G0 par br bx C ex s3 H3 pn hB1=>(bw (ae (aw 0 (hB1 0 (by decide))) (ae hG ah)))))) cZ.nd)))))
  (ay (oy 2)))))⟩,λds h=>aP ds h⟩
def fT:aF ["order","table","knot"] ["order"] (au dW):=⟨rfl,rfl,rfl,by decide +kernel,rfl,by decide +kernel,by decide +kernel⟩
def mY{f:Addr}{fd:FuncData}{bz dI fD fE cQ:List D->FR}(F:jJ K mg "points_or_knot" dW ["order"] f fd)(B:jS mg)(eO:cY P w K mg base ca "need_order" ["thing"] 5 bz)(jX:cY P w K mg base ca "turn_table" ["order"] 7 dI)(kZ:cY P w K mg base ca "find_knot" ["table","many"] 3 fD)(lW:cY P w K mg base ca "points_by" ["order","chosen"] 1 fE)(iU:cY P w K mg base ca "chosen_turns" ["table","many"] 3 cQ):cY P w K mg base ca "points_or_knot" ["order"] 8 (bc 3 1 (dM bz dI fD fE cQ)):=
 ⟨⟨f,fd,F.mg,F.F.kp,F.b,aU F.F fT λcdv A outer s H G E hr=>
  (ag (zK (aL eO (hr.mono (by decide)) bf rfl rfl (ae (aw 0 rfl) ah)))
  (ag (a7 (aL jX (hr.mono (by decide)) bf rfl rfl (ae (aw 0 rfl) ah)) fT.nd)
  (ag (a7 (aL kZ (hr.mono (by decide)) bf rfl rfl (ae (aw 1 rfl) (ae (a9 aM b4 (af 0) ax (λ_ _=>rfl)) ah))) fT.nd)
  (ag (dB (AY (af 2))
  (ay (aS (bw (ae lj (ae (aw 2 rfl) ah)))))
  cc)
  (ay (aS (bw (ae lj (ae (aL lW (hr.mono (by decide)) bf rfl rfl (ae (aw 0 rfl) (ae (aL iU (hr.mono (by decide)) bf rfl rfl (ae (aw 1 rfl) (ae (a9 aM b4 (af 0) ax (λ_ _=>rfl)) ah))) ah))) ah)))))))))⟩,λds h=>aP ds h⟩
def vk:aF ["script","k"] ["script","k"] (au jf):=⟨rfl,rfl,rfl,by decide +kernel,rfl,by decide +kernel,by decide +kernel⟩
def tj{f:Addr}{fd:FuncData}(F:jJ K mg "_law_cell" jf ["script","k"] f fd)(B:jS mg):cY P w K mg base ca "_law_cell" ["script","k"] 1 (bc 2 2 (gX)):=
 ⟨⟨f,fd,F.mg,F.F.kp,F.b,aU F.F vk λcdv A outer s H G E hr=>
  (ag (dB (aX zO Hs (af 1) (aZ b6 hJ rfl B.len Pb (af 0)) (aW _))
  (ay (aS (a9 aM b4 (af 0) (af 1) (λ_ _=>rfl))))
  cc)
  (ay (aS ax)))⟩,λds h=>aP ds h⟩
def ja:aF ["cell","k","some","stir"] ["cell","k"] (au gf):=⟨rfl,rfl,rfl,by decide +kernel,rfl,by decide +kernel,by decide +kernel⟩
def vY:∃(es:List Expr) (p1 p2 p3:Pos),dr gf=.Assign [.Name "some" p1] (.List es p2) p3::(dr gf).drop 1/\constsOf es=some [48271,69621,16807,39373,30269,40014,40692,50021,61687,71993,83869,95561,30307]:=⟨_,_,_,_,rfl,by kernel_rfl⟩
def vX{f:Addr}{fd:FuncData}(F:jJ K mg "_law_mix" gf ["cell","k"] f fd)(B:jS mg):cY P w K mg base ca "_law_mix" ["cell","k"] 1 (bc 4 2 (kx)):=by
 let⟨es,p1,p2,p3,hb,hes⟩:=vY
 refine⟨⟨f,fd,F.mg,F.F.kp,F.b,aU F.F ja λcdv A outer s H G E hr=>?_⟩,λds h=>aP ds h⟩
 rw[hb]
 exact(ag (a7 (SE.wv (cK (tT hes))) ja.nd) (ag (a7 (bu gB gz (bu gB gz (bu jH kf (bu gB gz (bu mW um (af 0) ax) ax) (a9 aM b4 (af 2) (bu mW um (af 1) ax) (λ_ _=>rfl))) (bu jH kf ax (af 1))) (bu jH kf ax (bu ot Ff (af 1) ax))) ja.nd)
  (ag (a7 (bu mW um (af 3) ax) ja.nd)
  (ay (aS (bu ot Ff (bu mW um (bu gB gz (bu jH kf (af 3) (af 3)) (bu jH kf ax (af 1))) ax) ax))))))
def gS:aF ["script","k","cell","number","j"] ["script","k"] (au ku):=⟨rfl,rfl,rfl,by decide +kernel,rfl,by decide +kernel,by decide +kernel⟩
def vK{f:Addr}{fd:FuncData}{fA gc:List D->FR}(F:jJ K mg "_law_box" ku ["script","k"] f fd)(B:jS mg)(k8:cY P w K mg base ca "_law_cell" ["script","k"] 1 fA)(nq:cY P w K mg base ca "_law_mix" ["cell","k"] 1 gc):cY P w K mg base ca "_law_box" ["script","k"] 2 (bc 5 2 (ki fA gc)):=
 ⟨⟨f,fd,F.mg,F.F.kp,F.b,aU F.F gS λcdv A outer s H G E hr=>
  (ag (a7 (aL k8 (hr.mono (by decide)) bf rfl rfl (ae (aw 0 rfl) (ae (aw 1 rfl) ah))) gS.nd)
  (ag (dB (aX (fx hr.units) du (bu mW um (af 2) ax) ax (aW _))
  (ay (l0 (cK (ae (bu ot Ff (aZ DS LV rfl B.abs (by decide +kernel) (af 2)) ax) ah))))
  cc)
  (ag (a7 ax gS.nd)
  (ag (dF PassesOwn.leaving rfl (fZ rfl B.range ax) (bN gS.nd)
  (ay (a7 (bu gB gz (bu jH kf (af 3) ax) (aL nq (hr.mono (by decide)) bf rfl rfl (ae (aw 2 rfl) (ae (aw 4 rfl) ah)))) gS.nd)))
  (ay (l0 (cK (ae (aw 3 rfl) ah))))))))⟩,λds h=>aP ds h⟩
def nX:aF ["box","many","left","digit"] ["box","many"] (au jg):=⟨rfl,rfl,rfl,by decide +kernel,rfl,by decide +kernel,by decide +kernel⟩
def sQ{f:Addr}{fd:FuncData}(F:jJ K mg "_law_take" jg ["box","many"] f fd)(B:jS mg):nO P w K mg base "_law_take" ["box","many"] 1 dA:=by
 refine⟨⟨f,fd,F.mg,F.F.kp,F.b,?_⟩,λds β h=>?_⟩
 .refine F.F.Ck nX (λvs H Q E h=>?_) (λcdv A outer s H vs Q E hr h=>?_)
  .obtain⟨b,rest,G,ds,β,rfl,hb,gb,sG,hl,r,_⟩:=h
   rw[ON,r.len,hl];rfl
  .obtain⟨b,rest,G,ds,β,rfl,hb,gb,sG,hl,r,h⟩:=h
   obtain⟨m,rfl,h0,h1⟩:=zR (λz=>by rw[z]at h;exact h)
   rw[vE h0 h1]at h
   have kk:∀v G' H',iQ (some b) H H'->H' b=some (.lst [.int (β/m)])->ak G G'->ak G' H'->(∀c,Mx H c->G c=none->G' c=none)->FV K H G' H' false (.int (β%m)) v->Q v H':=h
   cases r with
   |cons r1 r2=>
    cases r1
    cases r2
    refine⟨_,dw (qz (lg wW rfl B.divmod (by decide +kernel) (aQ (kO ig (pv 0) nG (λ_ _=>rfl)) (aQ (pv 1) bC))) (Fw (i:=2) (j:=3) nX.nd rfl rfl rfl rfl rfl))
     (dw (qz (pv 2) (yW (pv 0) nG set_list)) (jb (pf (pv 3)))),?_⟩
    refine⟨_,rfl,b,_,0,.int β,rfl,rfl,.inl (.inl hb),rfl,_,rfl,β,m,rfl,⟨h0,h1⟩,λp hp=>⟨p,_,rfl,.inl (.inl av),rfl,_,_,rfl,_,_,rfl,rfl,?_⟩⟩
    have hbp:b≠p:=aC hb hp
    exact⟨_,rfl,_,rfl,b,[.int β],0,0,rfl,rfl,by rw[ar hbp];exact hb,rfl,_,rfl,Dy hb sG hp kk gb⟩
 .obtain⟨m,rfl,_⟩:=zR h
  rfl
def tJ:aF ["thing"] ["thing"] (au ic):=⟨rfl,rfl,rfl,by decide +kernel,rfl,by decide +kernel,by decide +kernel⟩
def sf{f:Addr}{fd:FuncData}(F:jJ K mg "_law_whole" ic ["thing"] f fd)(B:jS mg):cY P w K mg base ca "_law_whole" ["thing"] 1 (bc 1 1 (nJ)):=
 ⟨⟨f,fd,F.mg,F.F.kp,F.b,aU F.F tJ λcdv A outer s H G E hr=>
  (ay (aS (gn (gZ "int" (by decide) rfl rfl B.isinstance rfl B.int (by decide +kernel) (af 0)) (jF (qu (gZ "bool" (by decide) rfl rfl B.isinstance rfl B.bool (by decide +kernel) (af 0)))) (λ_ _=>rfl))))⟩,λds h=>aP ds h⟩
def gq:aF ["box","some","left","found"] ["box","some"] (au fj):=⟨rfl,rfl,rfl,by decide +kernel,rfl,by decide +kernel,by decide +kernel⟩
def oz{f:Addr}{fd:FuncData}{aI:List D->Int->FB}(F:jJ K mg "_law_mixed_up" fj ["box","some"] f fd)(B:jS mg)(bg:nO P w K mg base "_law_take" ["box","many"] 1 aI):nO P w K mg base "_law_mixed_up" ["box","some"] 2 (sU 4 1 (fm aI)):=
 ⟨⟨f,fd,F.mg,F.F.kp,F.b,rY (ca:=λ_=>0) F.F gq (by decide) λcdv A outer s H G b E hr=>
  (ag (gM (fH nW IJ rfl B.list (by decide +kernel) (af 1)) gq.nd)
  (ag (gM (cK ah) gq.nd)
  (ag (lO 1000 PassesOwn.leaving (aX (cH hr.units) du (af 2) (cK ah) (aW _))
  (ay (B6 3 2 (λ_=>rfl) (lq 0 bg (hr.mono (by decide)) bf rfl rfl (ae (aZ b6 hJ rfl B.len Pb (af 2)) ah)))))
  (ay (oy 3)))))⟩,λds β h=>qR ds β h⟩
def bO:aF ["pairs","found","size","more","a","b"] ["pairs"] (au gE):=⟨rfl,rfl,rfl,by decide +kernel,rfl,by decide +kernel,by decide +kernel⟩
def pN{f:Addr}{fd:FuncData}(F:jJ K mg "_law_closed" gE ["pairs"] f fd)(B:jS mg):cY P w K mg base ca "_law_closed" ["pairs"] 1 (bc 6 1 (gG)):=
 ⟨⟨f,fd,F.mg,F.F.kp,F.b,aU F.F bO λcdv A outer s H G E hr=>
  (ag (a7 (SE.wv (rz rfl hr.units rfl rfl B.sorted rfl B.set (af 0))) bO.nd)
  (ag (a7 (AZ sD zZ ax) bO.nd)
  (ag (lO 1000 PassesOwn.leaving (aX (cH hr.units) du (af 2) (aZ b6 hJ rfl B.len Pb (af 1)) (aW _))
  (ag (a7 (aZ b6 hJ rfl B.len Pb (af 1)) bO.nd)
  (ag (a7 (SE.wv (cK ah)) bO.nd)
  (ag (dF PassesOwn.leaving rfl (D7 rfl (aw 1 rfl)) (jA bO.nd)
  (ay (a7 (SE.wv (bu j5 qG (af 3) (ck [4] rfl (bP (by kernel_rfl)) (λ_ _=>rfl) (mZ rfl (af 1)) (λH0 G0 par br bx C ex s3 H3 pn=>(jA (show(["c","d","b","a"]:List Str).Nodup by decide +kernel))) (λH0 G0 par br bx C ex s3 H3 pn hB1=>(eM (aX (fx hr.units) du (af 0) (af 2) (aW _)))) (λH0 G0 par br bx C ex s3 H3 pn hB1=>(bw (ae (aw 3 (hB1 3 (by decide))) (ae (aw 1 (hB1 1 (by decide))) ah))))))) bO.nd)))
  (ay (a7 (SE.wv (rz rfl hr.units rfl rfl B.sorted rfl B.set (bu j5 qG (af 1) (af 3)))) bO.nd))))))
  (ay (aS (fH c7 nM rfl B.tuple (by decide +kernel) (af 1)))))))⟩,λds h=>aP ds h⟩
def cJ:aF ["box","most","many","names","thin","pairs","i","j"] ["box","most"] (au iu):=⟨rfl,rfl,rfl,by decide +kernel,rfl,by decide +kernel,by decide +kernel⟩
def sF{f:Addr}{fd:FuncData}{c8:List D->FR}{aI aH:List D->Int->FB}(F:jJ K mg "_law_order" iu ["box","most"] f fd)(B:jS mg)(jG:cY P w K mg base ca "_law_closed" ["pairs"] 1 c8)(bg:nO P w K mg base "_law_take" ["box","many"] 1 aI)(bo:nO P w K mg base "_law_mixed_up" ["box","some"] 2 aH):nO P w K mg base "_law_order" ["box","most"] 3 (sU 8 1 (iB c8 aI aH)):=
 ⟨⟨f,fd,F.mg,F.F.kp,F.b,rY F.F cJ (by decide) λcdv A outer s H G b E hr=>
  (ag (a7 (bu gB gz ax (lq 0 bg (hr.mono (by decide)) bf rfl rfl (ae (aw 1 rfl) ah))) cJ.nd)
  (ag (a7 (lq 0 bo (hr.mono (by decide)) bf rfl rfl (ae (SE.wv (j8 rfl rfl B.list rfl B.range (af 2))) ah)) cJ.nd)
  (ag (a7 (a9 aM b4 (cK (ae ax (ae ax (ae ax (ae ax ah))))) (lq 0 bg (hr.mono (by decide)) bf rfl rfl (ae ax ah)) (λ_ _=>rfl)) cJ.nd)
  (ag (gM (cK ah) cJ.nd)
  (ag (dF PassesOwn.leaving rfl (fZ rfl B.range (af 2)) (bN cJ.nd)
  (ay (dF PassesOwn.leaving rfl (LQ rfl B.range (bu gB gz (af 6) ax) (af 2)) (bN cJ.nd)
  (ay (dB (aX (fx hr.units) du (lq 0 bg (hr.mono (by decide)) bf rfl rfl (ae (aw 4 rfl) ah)) ax (aW _))
  (ay (jK 5 (λ_=>rfl) (bw (ae (a9 aM b4 (af 3) (af 6) (λ_ _=>rfl)) (ae (a9 aM b4 (af 3) (af 7) (λ_ _=>rfl)) ah)))))
  cc)))))
  (ay (aS (bw (ae (aw 2 rfl) (ae (aL jG (hr.mono (by decide)) bf rfl rfl (ae (aw 5 rfl) ah)) ah))))))))))⟩,λds β h=>qR ds β h⟩
def tm:aF ["order","a","b"] ["order","a","b"] (au ie):=⟨rfl,rfl,rfl,by decide +kernel,rfl,by decide +kernel,by decide +kernel⟩
def rP{f:Addr}{fd:FuncData}(F:jJ K mg "_law_apart" ie ["order","a","b"] f fd)(B:jS mg):cY P w K mg base ca "_law_apart" ["order","a","b"] 1 (bc 3 3 (oh)):=
 ⟨⟨f,fd,F.mg,F.F.kp,F.b,aU F.F tm λcdv A outer s H G E hr=>
  (ay (aS (gn (gm (cH hr.units) du (af 1) (af 2) (aW _)) (gn (gm (l9 hr.u1) Dw (bw (ae (aw 1 rfl) (ae (aw 2 rfl) ah))) (a9 aM b4 (af 0) ax (λ_ _=>rfl)) (by with_unfolding_all rfl)) (jF (gm (l9 hr.u1) Dw (bw (ae (aw 2 rfl) (ae (aw 1 rfl) ah))) (a9 aM b4 (af 0) ax (λ_ _=>rfl)) (by with_unfolding_all rfl))) (λ_ _=>rfl)) (λ_ _=>rfl))))⟩,λds h=>aP ds h⟩
def gF:aF ["order","found","a"] ["order"] (au ik):=⟨rfl,rfl,rfl,by decide +kernel,rfl,by decide +kernel,by decide +kernel⟩
def rG{f:Addr}{fd:FuncData}{bh:List D->FR}(F:jJ K mg "_law_turns" ik ["order"] f fd)(B:jS mg)(cW:cY P w K mg base ca "_law_apart" ["order","a","b"] 1 bh):cY P w K mg base ca "_law_turns" ["order"] 2 (bc 3 1 (ip bh)):=
 ⟨⟨f,fd,F.mg,F.F.kp,F.b,aU F.F gF λcdv A outer s H G E hr=>
  (ag (a7 (SE.wv (cK ah)) gF.nd)
  (ag (dF PassesOwn.leaving rfl (fZ rfl B.range (a9 aM b4 (af 0) ax (λ_ _=>rfl))) (bN gF.nd)
  (ay (a7 (SE.wv (bu j5 qG (af 1) (ck [0,2] rfl (bP (by kernel_rfl)) (λ_ _=>rfl) (fZ rfl B.range (a9 aM b4 (af 0) ax (λ_ _=>rfl))) (λH0 G0 par br bx C ex s3 H3 pn=>(bN (show(["b","order","a"]:List Str).Nodup by decide +kernel))) (λH0 G0 par br bx C ex s3 H3 pn hB1=>(eM (dc rfl (aL cW (hr.mono (by decide)) n0 rfl rfl (ae (aw 1 (hB1 1 (by decide))) (ae (aw 2 (hB1 2 (by decide))) (ae (aw 0 (hB1 0 (by decide))) ah))))))) (λH0 G0 par br bx C ex s3 H3 pn hB1=>(bw (ae (aw 2 (hB1 2 (by decide))) (ae (aw 0 (hB1 0 (by decide))) ah))))))) gF.nd)))
  (ay (oy 1))))⟩,λds h=>aP ds h⟩
def fU:aF ["many","rows","found","a","b","left"] ["many","rows"] (au jc):=⟨rfl,rfl,rfl,by decide +kernel,rfl,by decide +kernel,by decide +kernel⟩
def tD{f:Addr}{fd:FuncData}(F:jJ K mg "_law_told" jc ["many","rows"] f fd)(B:jS mg):cY P w K mg base ca "_law_told" ["many","rows"] 1 (bc 6 2 (gK)):=
 ⟨⟨f,fd,F.mg,F.F.kp,F.b,aU F.F fU λcdv A outer s H G E hr=>
  (ag (gM (cK ah) fU.nd)
  (ag (dF PassesOwn.leaving rfl (fZ rfl B.range (af 0)) (bN fU.nd)
  (ay (dF PassesOwn.leaving rfl (fZ rfl B.range (af 0)) (bN fU.nd)
  (ag (jm [] rfl (bP (by kernel_rfl)) (λ_ _=>rfl) (mZ rfl (af 1)) (λH0 G0 par br bx C ex s3 H3 pn=>(bN (show(["one","a","b"]:List Str).Nodup by decide +kernel))) (λH0 G0 par br bx C ex s3 H3 pn hB1=>(eM (aX Kn MQ (xP rfl (af 0) (af 1)) (xP rfl (af 0) (af 2)) (aW _)))) (λH0 G0 par br bx C ex s3 H3 pn hB1=>ax) fU.nd)
  (ay (dB (qf.t (nj (aX (cH hr.units) du (af 3) (af 4) (aW _)) (kI (aX (fx hr.units) du (af 5) (cK ah) (aW _))) (λ_ _=>rfl)))
  (ay (jK 2 (λ_=>rfl) (bw (ae (aw 3 rfl) (ae (aw 4 rfl) ah)))))
  cc))))))
  (ay (aS (fH c7 nM rfl B.tuple (by decide +kernel) (af 2))))))⟩,λds h=>aP ds h⟩
def pQ:aF ["order","thing"] ["order","thing"] (au fQ):=⟨rfl,rfl,rfl,by decide +kernel,rfl,by decide +kernel,by decide +kernel⟩
def oZ{f:Addr}{fd:FuncData}{bA dS:List D->FR}(F:jJ K mg "_law_is_turn" fQ ["order","thing"] f fd)(B:jS mg)(dY:cY P w K mg base ca "_law_whole" ["thing"] 1 bA)(kl:cY P w K mg base ca "_law_turns" ["order"] 2 dS):cY P w K mg base ca "_law_is_turn" ["order","thing"] 3 (bc 2 2 (fJ bA dS)):=
 ⟨⟨f,fd,F.mg,F.F.kp,F.b,aU F.F pQ λcdv A outer s H G E hr=>
  (ag (dB (qf.t (kN (fy (dc rfl (gZ "tuple" (by decide) rfl rfl B.isinstance rfl B.tuple (by decide +kernel) (af 1)))) (kN (aX (cH hr.units) du (aZ b6 hJ rfl B.len Pb (af 1)) ax (aW _)) (kG (fy (dc rfl (aZ (lu rfl) mr rfl B.all (by decide +kernel) (ck [] rfl (bP (by kernel_rfl)) (λ_ _=>rfl) (mZ rfl (af 1)) (λH0 G0 par br bx C ex s3 H3 pn=>(bN (show(["one"]:List Str).Nodup by decide +kernel))) (λH0 G0 par br bx C ex s3 H3 pn hB1=>dG) (λH0 G0 par br bx C ex s3 H3 pn hB1=>(aL dY (hr.mono (by decide)) n0 rfl rfl (ae (aw 0 (hB1 0 (by decide))) ah)))))))) (λ_ _=>rfl)) (λ_ _=>rfl)))
  (ay (aS hG))
  cc)
  (ay (aS (gm (J2 hr.u1) Dw (af 1) (aL kl (hr.mono (by decide)) bf rfl rfl (ae (aw 0 rfl) ah)) (by with_unfolding_all rfl)))))⟩,λds h=>aP ds h⟩
def iS:aF ["order","one","other","a","b","c","d"] ["order","one","other"] (au gH):=⟨rfl,rfl,rfl,by decide +kernel,rfl,by decide +kernel,by decide +kernel⟩
def pU{f:Addr}{fd:FuncData}{bh:List D->FR}(F:jJ K mg "_law_forces" gH ["order","one","other"] f fd)(B:jS mg)(cW:cY P w K mg base ca "_law_apart" ["order","a","b"] 1 bh):cY P w K mg base ca "_law_forces" ["order","one","other"] 2 (bc 7 3 (gJ bh)):=
 ⟨⟨f,fd,F.mg,F.F.kp,F.b,aU F.F iS λcdv A outer s H G E hr=>
  (ag (EX (aw 1 rfl) (jA iS.nd))
  (ag (EX (aw 2 rfl) (jA iS.nd))
  (ag (dB (qf.t (nj (aX (fx hr.units) du (af 3) (af 5) (aW _)) (kI (aX (cH hr.units) du (af 4) (af 6) (aW _))) (λ_ _=>rfl)))
  (ay (aS (qu (aL cW (hr.mono (by decide)) bf rfl rfl (ae (aw 0 rfl) (ae (aw 4 rfl) (ae (aw 6 rfl) ah)))))))
  cc)
  (ay (aS (gn (gm (fx hr.units) du (af 4) (af 6) (aW _)) (gn (gm (cH hr.units) du (af 3) (af 5) (aW _)) (jF (qu (aL cW (hr.mono (by decide)) bf rfl rfl (ae (aw 0 rfl) (ae (aw 3 rfl) (ae (aw 5 rfl) ah)))))) (λ_ _=>rfl)) (λ_ _=>rfl)))))))⟩,λds h=>aP ds h⟩
def pM:aF ["thing","order"] ["thing","order"] (au fR):=⟨rfl,rfl,rfl,by decide +kernel,rfl,by decide +kernel,by decide +kernel⟩
def o4{f:Addr}{fd:FuncData}{cN c6:List D->FR}(F:jJ K mg "_law_is_knot" fR ["thing","order"] f fd)(B:jS mg)(iM:cY P w K mg base ca "_law_is_turn" ["order","thing"] 3 cN)(jI:cY P w K mg base ca "_law_forces" ["order","one","other"] 2 c6):cY P w K mg base ca "_law_is_knot" ["thing","order"] 4 (bc 2 2 (iR cN c6)):=
 ⟨⟨f,fd,F.mg,F.F.kp,F.b,aU F.F pM λcdv A outer s H G E hr=>
  (ag (dB (qf.t (kN (fy (dc rfl (gZ "list" (by decide) rfl rfl B.isinstance rfl B.list (by decide +kernel) (af 0)))) (kN (aX (fx hr.units) du (af 0) (cK ah) (aW _)) (kG (fy (dc rfl (aZ (lu rfl) mr rfl B.all (by decide +kernel) (ck [1] rfl (bP (by kernel_rfl)) (λ_ _=>rfl) (mZ rfl (af 0)) (λH0 G0 par br bx C ex s3 H3 pn=>(bN (show(["one","order"]:List Str).Nodup by decide +kernel))) (λH0 G0 par br bx C ex s3 H3 pn hB1=>dG) (λH0 G0 par br bx C ex s3 H3 pn hB1=>(aL iM (hr.mono (by decide)) n0 rfl rfl (ae (aw 1 (hB1 1 (by decide))) (ae (aw 0 (hB1 0 (by decide))) ah))))))))) (λ_ _=>rfl)) (λ_ _=>rfl)))
  (ay (aS hG))
  cc)
  (ag (dB (aX (cH hr.units) du (a9 aM b4 (af 0) (AZ sD zZ ax) (λ_ _=>rfl)) (FI rfl (a9 aM b4 (af 0) ax (λ_ _=>rfl))) (aW _))
  (ay (aS hG))
  cc)
  (ay (aS (aZ (lu rfl) mr rfl B.all (by decide +kernel) (ck [1] rfl (bP (by kernel_rfl)) (λ_ _=>rfl) (fZ rfl B.range (bu Jf K3 (aZ b6 hJ rfl B.len Pb (af 0)) ax)) (λH0 G0 par br bx C ex s3 H3 pn=>(bN (show(["at","order","thing"]:List Str).Nodup by decide +kernel))) (λH0 G0 par br bx C ex s3 H3 pn hB2=>dG) (λH0 G0 par br bx C ex s3 H3 pn hB2=>(aL jI (hr.mono (by decide)) n0 rfl rfl (ae (aw 1 (hB2 1 (by decide))) (ae (a9 aM b4 (af 2) (af 0) (λ_ _=>rfl)) (ae (a9 aM b4 (af 2) (bu gB gz (af 0) ax) (λ_ _=>rfl)) ah)))))))))))⟩,λds h=>aP ds h⟩
def bt:aF ["thing","order","many","point","side","told","a"] ["thing","order"] (au de):=⟨rfl,rfl,rfl,by decide +kernel,rfl,by decide +kernel,by decide +kernel⟩
def mF{f:Addr}{fd:FuncData}{bA:List D->FR}(F:jJ K mg "_law_are_points" de ["thing","order"] f fd)(B:jS mg)(dY:cY P w K mg base ca "_law_whole" ["thing"] 1 bA):cY P w K mg base ca "_law_are_points" ["thing","order"] 2 (bc 7 2 (dt bA)):=
 ⟨⟨f,fd,F.mg,F.F.kp,F.b,aU F.F bt λcdv A outer s H G E hr=>
  (ag (a7 (a9 aM b4 (af 1) ax (λ_ _=>rfl)) bt.nd)
  (ag (dB (qf.t (kN (fy (dc rfl (gZ "list" (by decide) rfl rfl B.isinstance rfl B.list (by decide +kernel) (af 0)))) (kG (aX (cH hr.units) du (aZ b6 hJ rfl B.len Pb (af 0)) (af 2) (aW _))) (λ_ _=>rfl)))
  (ay (aS hG))
  cc)
  (ag (dF PassesOwn.leaving rfl (D7 rfl (aw 0 rfl)) (bN bt.nd)
  (ay (dB (qf.t (kN (fy (dc rfl (gZ "tuple" (by decide) rfl rfl B.isinstance rfl B.tuple (by decide +kernel) (af 3)))) (kN (aX (cH hr.units) du (aZ b6 hJ rfl B.len Pb (af 3)) ax (aW _)) (kG (fy (dc rfl (aZ (lu rfl) mr rfl B.all (by decide +kernel) (ck [] rfl (bP (by kernel_rfl)) (λ_ _=>rfl) (mZ rfl (af 3)) (λH0 G0 par br bx C ex s3 H3 pn=>(bN (show(["one"]:List Str).Nodup by decide +kernel))) (λH0 G0 par br bx C ex s3 H3 pn hB1=>dG) (λH0 G0 par br bx C ex s3 H3 pn hB1=>(aL dY (hr.mono (by decide)) n0 rfl rfl (ae (aw 0 (hB1 0 (by decide))) ah)))))))) (λ_ _=>rfl)) (λ_ _=>rfl)))
  (ay (aS hG))
  cc)))
  (ag (dF PassesOwn.leaving rfl (fZ rfl B.range ax) (bN bt.nd)
  (ay (dB (aX (cH hr.units) du (aZ zj Hj rfl B.sorted (by decide +kernel) (ck [] rfl (bP (by kernel_rfl)) (λ_ _=>rfl) (mZ rfl (af 0)) (λH0 G0 par br bx C ex s3 H3 pn=>(bN (show(["point","side"]:List Str).Nodup by decide +kernel))) (λH0 G0 par br bx C ex s3 H3 pn hB2=>dG) (λH0 G0 par br bx C ex s3 H3 pn hB2=>(a9 aM b4 (af 0) (af 1) (λ_ _=>rfl))))) (j8 rfl rfl B.list rfl B.range (af 2)) (aW _))
  (ay (aS hG))
  cc)))
  (ag (a7 (SE.wv (cK ah)) bt.nd)
  (ag (dF PassesOwn.leaving rfl (fZ rfl B.range (af 2)) (bN bt.nd)
  (ay (a7 (SE.wv (bu j5 qG (af 5) (ck [6] rfl (bP (by kernel_rfl)) (λ_ _=>rfl) (fZ rfl B.range (af 2)) (λH0 G0 par br bx C ex s3 H3 pn=>(bN (show(["b","thing","a"]:List Str).Nodup by decide +kernel))) (λH0 G0 par br bx C ex s3 H3 pn hB3=>(eM (qf.t (nj (aX zO Hs (a9 aM b4 (a9 aM b4 (af 1) (af 2) (λ_ _=>rfl)) ax (λ_ _=>rfl)) (a9 aM b4 (a9 aM b4 (af 1) (af 0) (λ_ _=>rfl)) ax (λ_ _=>rfl)) (aW _)) (kI (aX zO Hs (a9 aM b4 (a9 aM b4 (af 1) (af 2) (λ_ _=>rfl)) ax (λ_ _=>rfl)) (a9 aM b4 (a9 aM b4 (af 1) (af 0) (λ_ _=>rfl)) ax (λ_ _=>rfl)) (aW _))) (λi hi=>hB3 i (by revert i hi;decide)))))) (λH0 G0 par br bx C ex s3 H3 pn hB3=>(bw (ae (aw 2 (hB3 2 (by decide))) (ae (aw 0 (hB3 0 (by decide))) ah))))))) bt.nd)))
  (ay (aS (gm (fx hr.units) du (fH c7 nM rfl B.tuple (by decide +kernel) (af 5)) (a9 aM b4 (af 1) ax (λ_ _=>rfl)) (aW _))))))))))⟩,λds h=>aP ds h⟩
def cG:aF ["box","many","names","pairs","i","others"] ["box"] (au iD):=⟨rfl,rfl,rfl,by decide +kernel,rfl,by decide +kernel,by decide +kernel⟩
def se{f:Addr}{fd:FuncData}{aI aH:List D->Int->FB}(F:jJ K mg "_law_crown" iD ["box"] f fd)(B:jS mg)(bg:nO P w K mg base "_law_take" ["box","many"] 1 aI)(bo:nO P w K mg base "_law_mixed_up" ["box","some"] 2 aH):nO P w K mg base "_law_crown" ["box"] 3 (sU 6 0 (iA aI aH)):=
 ⟨⟨f,fd,F.mg,F.F.kp,F.b,rY (ca:=λ_=>0) F.F cG (by decide) λcdv A outer s H G b E hr=>
  (ag (a7 (bu gB gz ax (lq 0 bg (hr.mono (by decide)) bf rfl rfl (ae ax ah))) cG.nd)
  (ag (a7 (lq 0 bo (hr.mono (by decide)) bf rfl rfl (ae (SE.wv (j8 rfl rfl B.list rfl B.range (bu jH kf ax (af 1)))) ah)) cG.nd)
  (ag (a7 (SE.wv (cK ah)) cG.nd)
  (ag (dF PassesOwn.leaving rfl (fZ rfl B.range (af 1)) (bN cG.nd)
  (ag (jm [] rfl (bP (by kernel_rfl)) (λ_ _=>rfl) (fZ rfl B.range (af 1)) (λH0 G0 par br bx C ex s3 H3 pn=>(bN (show(["j","i","names","many"]:List Str).Nodup by decide +kernel))) (λH0 G0 par br bx C ex s3 H3 pn hB1=>(eM (aX (cH hr.units) du (af 0) (af 1) (aW _)))) (λH0 G0 par br bx C ex s3 H3 pn hB1=>(a9 aM b4 (af 2) (bu gB gz (af 3) (af 0)) (λ_ _=>rfl))) cG.nd)
  (ay (a7 (SE.wv (bu j5 qG (af 3) (ck [] rfl (bP (by kernel_rfl)) (λ_ _=>rfl) (mZ rfl (af 5)) (λH0 G0 par br bx C ex s3 H3 pn=>(bN (show(["other","names","i"]:List Str).Nodup by decide +kernel))) (λH0 G0 par br bx C ex s3 H3 pn hB2=>dG) (λH0 G0 par br bx C ex s3 H3 pn hB2=>(bw (ae (a9 aM b4 (af 1) (af 2) (λ_ _=>rfl)) (ae (aw 0 (hB2 0 (by decide))) ah))))))) cG.nd))))
  (ay (aS (bw (ae (bu jH kf ax (af 1)) (ae (fH c7 nM rfl B.tuple (by decide +kernel) (aZ pA zE rfl B.sorted (by decide +kernel) (af 3))) ah)))))))))⟩,λds β h=>qR ds β h⟩
def tM:aF ["found","order"] ["found","order"] (au il):=⟨rfl,rfl,rfl,by decide +kernel,rfl,by decide +kernel,by decide +kernel⟩
def si{f:Addr}{fd:FuncData}{cL bR:List D->FR}(F:jJ K mg "_law_right" il ["found","order"] f fd)(B:jS mg)(iO:cY P w K mg base ca "_law_is_knot" ["thing","order"] 4 cL)(fM:cY P w K mg base ca "_law_are_points" ["thing","order"] 2 bR):cY P w K mg base ca "_law_right" ["found","order"] 5 (bc 2 2 (kK cL bR)):=
 ⟨⟨f,fd,F.mg,F.F.kp,F.b,aU F.F tM λcdv A outer s H G E hr=>
  (ag (dB (qf.t (kN (fy (dc rfl (gZ "tuple" (by decide) rfl rfl B.isinstance rfl B.tuple (by decide +kernel) (af 0)))) (kG (aX (cH hr.units) du (aZ b6 hJ rfl B.len Pb (af 0)) ax (aW _))) (λ_ _=>rfl)))
  (ay (aS hG))
  cc)
  (ag (dB (aX (fx hr.units) du (a9 aM b4 (af 0) ax (λ_ _=>rfl)) lj (aW _))
  (ay (aS (aL iO (hr.mono (by decide)) bf rfl rfl (ae (a9 aM b4 (af 0) ax (λ_ _=>rfl)) (ae (aw 1 rfl) ah)))))
  cc)
  (ay (aS (gn (gm (fx hr.units) du (a9 aM b4 (af 0) ax (λ_ _=>rfl)) lj (aW _)) (jF (aL fM (hr.mono (by decide)) bf rfl rfl (ae (a9 aM b4 (af 0) ax (λ_ _=>rfl)) (ae (aw 1 rfl) ah)))) (λ_ _=>rfl))))))⟩,λds h=>aP ds h⟩
def lT:aF ["script","k","box","many","rows","dues","order","due","found","kept"] ["script"] (au mI):=⟨rfl,rfl,rfl,by decide +kernel,rfl,by decide +kernel,by decide +kernel⟩
def Gz{f:Addr}{fd:FuncData}{gx fC bH eB:List D->FR}{aI aH eJ dN:List D->Int->FB}(F:jJ K mg "law" mI ["script"] f fd)(B:jS mg)(nu:cY P w K mg base ca "_law_box" ["script","k"] 2 gx)(lh:cY P w K mg base ca "_law_told" ["many","rows"] 1 fC)(dQ:cY P w K mg base ca "points_or_knot" ["order"] 8 bH)(jY:cY P w K mg base ca "_law_right" ["found","order"] 5 eB)(bg:nO P w K mg base "_law_take" ["box","many"] 1 aI)(bo:nO P w K mg base "_law_mixed_up" ["box","some"] 2 aH)(kF:nO P w K mg base "_law_crown" ["box"] 3 eJ)(j9:nO P w K mg base "_law_order" ["box","most"] 3 dN):gW P w K mg base (ue P w) 9 f fd ["script"] (E7 K ca 1 (bc 10 1 (EV gx fC bH eB aI aH eJ dN))):=
 aU F.F lT λcdv A outer s H G E hr=>
  (ag (dF PassesOwn.leaving rfl (fZ rfl B.range (wQ (Ba rfl) Ja rfl B.max (by decide +kernel) ax (wQ (Bh rfl) J6 rfl B.min (by decide +kernel) (aZ b6 hJ rfl B.len Pb (af 0)) ax))) (bN lT.nd)
  (ag (FE rfl (EZ nu (hr.mono (by decide)) bf rfl rfl (ae (aw 0 rfl) (ae (aw 1 rfl) ah))) lT.nd)
  (ag (a7 (bu gB gz ax (lq 2 bg (hr.mono (by decide)) bf rfl rfl (ae ax ah))) lT.nd)
  (ag (jm [] rfl (bP (by kernel_rfl)) (λ_ _=>rfl) (fZ rfl B.range ax) (λH0 G0 par br bx C ex s3 H3 pn=>(bN (show(["side","box","many"]:List Str).Nodup by decide +kernel))) (λH0 G0 par br bx C ex s3 H3 pn hB1=>dG) (λH0 G0 par br bx C ex s3 H3 pn hB1=>(fH c7 nM rfl B.tuple (by decide +kernel) (lq 1 bo (hr.mono (by decide)) n0 rfl rfl (ae (SE.wv (j8 rfl rfl B.list rfl B.range (af 2))) ah)))) lT.nd)
  (ag (a7 (SE.wv (cK (ae (bw (ae (bw (ae (aw 3 rfl) (ae (aL lh (hr.mono (by decide)) bf rfl rfl (ae (aw 3 rfl) (ae (aw 4 rfl) ah))) ah))) (ae lj ah))) (ae (bw (ae (lq 2 kF (hr.mono (by decide)) bf rfl rfl ah) (ae lj ah))) ah)))) lT.nd)
  (ay (dF PassesOwn.leaving rfl (D7 rfl (SE.wv (bu j5 qG (af 5) (cK (ae (bw (ae (lq 2 j9 (hr.mono (by decide)) bf rfl rfl (ae ax ah)) (ae lj ah))) ah))))) (jA lT.nd)
  (Dt (λ_=>rfl) dQ (hr.mono (by decide)) bf rfl rfl lT.nd rfl B.list (qf.t (kN (fy (dc rfl (aL jY (hr.mono (by decide)) bf rfl rfl (ae (aw 8 rfl) (ae (aw 6 rfl) ah))))) (kG (qf.t (nj (aX (cH hr.units) du (af 7) lj (aW _)) (kI (aX (cH hr.units) du (a9 aM b4 (af 8) ax (λ_ _=>rfl)) (af 7) (aW _))) (λ_ _=>rfl)))) (λ_ _=>rfl)))
  (ay (aS hG))
  (ay (dB (aX (cH hr.units) du (aL dQ (hr.mono (by decide)) bf rfl rfl (ae (aw 6 rfl) ah)) (bw (ae (a9 aM b4 (af 8) ax (λ_ _=>rfl)) (ae (aw 9 rfl) ah))) (aW _))
  (ay (aS hG))
  cc))))))))))
  (ay (aS hG)))
end
end RQ
namespace RM
open PySem L2
theorem nF{t u:VF Bool}{vs:List Nv}{β:Int}{a b:Bool}(h:t vs β=.ok a β)(h':u vs β=.ok b β):wB t u vs β=.ok (a&&b) β:=by
 rw[yT,h];dsimp only[R.bnd]
 cases a with
 |true=>rw[Od rfl,h'];rfl
 |false=>rfl
def lG{t:VF Bool}{vs:List Nv}{β:Int}{a:Bool}(h:t vs β=.ok a β):sJ t vs β=.ok (!a) β:=by rw[yn,h];rfl
def zi(n:Nat):(bD n).Pairwise (· < ·):=by
 unfold bD
 rw[O5]
 exact List.pairwise_lt_range.imp λ{a b} h=>by omega
def upTo(n:Nat)(f:Pr->Bool)(i k:Nat):List Pr:=(OM.bY n).filter λp=>(decide (p.1<i)||(decide (p.1=i)&&decide (p.2<k)))&&f p
def D0{n:Nat}(f:Pr->Bool)(i k:Nat)(h8:n<=8):(upTo n f i k).length<=64:=by
 have h1:(upTo n f i k).length<=(OM.bY n).length:=O6 _ _
 rw[dv]at h1
 have:n*n<=64:=Py h8 h8
 omega
def Bd(n:Nat)(f:Pr->Bool):upTo n f 0 0= []:=by
 unfold upTo
 rw[Qz]
 intro p hp
 have:=OM.aY.mp hp
 rw[Oz (by omega),Oz (p:=p.2<((0:Nat):Int)) (by omega)];simp
def C2(n:Nat)(f:Pr->Bool):upTo n f n 0=(OM.bY n).filter f:=by
 unfold upTo
 refine Qp λp hp=>?_
 have:=(OM.aY.mp hp).1.2
 rw[Ot this];simp
def EH(n:Nat)(f:Pr->Bool)(i:Nat):upTo n f i n=upTo n f (i+1) 0:=by
 unfold upTo
 refine Qp λp hp=>?_
 have h:=OM.aY.mp hp
 congr 1
 rw[Qa]
 simp only[Rn,Oy,OB]
 omega
def uo{n i k:Nat}(f:Pr->Bool)(hi:i<n)(hk:k<n):upTo n f i (k+1)=upTo n f i k++if f ((i:Int),(k:Int))=true then[((i:Int),(k:Int))]else[]:=by
 refine OM.dO (OM.bZ _ (OM.dC n)) ?_ λx=>?_
 .show List.Pairwise OM.CW _
  rw[Q9]
  refine⟨OM.bZ _ (OM.dC n),?_,λp hp q hq=>?_⟩
  .split<;>simp
  .unfold upTo at hp
   have h1:=(Oh.mp hp).2
   simp only[Rn,Oy,OB]at h1
   split at hq
   .have:q=((i:Int),(k:Int)):=by simpa using hq
    subst this
    exact h1.1
   .cases hq
 .rw[Ox]
  unfold upTo
  rw[Oh,Oh,OM.aY]
  simp only[Rn,Oy,OB]
  constructor
  .rintro⟨h1,h2,h3⟩
   by_cases z:x.1=i/\x.2=k
   .let⟨xa,xb⟩:=x
    simp only at z h3
    obtain⟨rfl,rfl⟩:=z
    rw[Od h3]
    exact .inr (OT.mpr rfl)
   .exact .inl ⟨h1,by omega,h3⟩
  .rintro (⟨h1,h2,h3⟩|h)
   .exact⟨h1,by omega,h3⟩
   .split at h
    .rename_i hf
     have:x=((i:Int),(k:Int)):=by simpa using h
     subst this
     exact⟨⟨⟨by show(0:Int)<=(i:Int);omega,by show(i:Int)<n;omega⟩,by show(0:Int)<=(k:Int);omega,by show(k:Int)<n;omega⟩,.inr ⟨rfl,by show(k:Int)<((k+1:Nat):Int);omega⟩,hf⟩
    .cases h
def tupI(r:List Int):D:=.tuple (r.map int)
def AL{fa fb:VF D}{vs:List Nv}{β:Int}{r:List Int}{k:Int}(h:fa vs β=.ok (tupI r) β)(h':fb vs β=.ok (.int k) β)(hk:k∈r):pe fa fb vs β=.ok (.int (r.idxOf k:Nat)) β:=by
 unfold pe
 rw[h]
 dsimp only[R.bnd]
 rw[Od (by rfl),h']
 dsimp only[R.bnd,Hn,tupI]
 rw[jT]
 dsimp only
 rw[Od hk];rfl
def AS{r:List Int}{a b:Int}(ha:a∈r)(hb:b∈r)(h:r.idxOf a=r.idxOf b):a=b:=by
 have h1:=Rx (PX.mpr ha)
 have h2:=Rx (PX.mpr hb)
 rw[<-h1,<-h2]
 congr 1
theorem rD{α:Type}{t:Tg}{fe:VF D}{vs:List Nv}(e:α->D)(P:α->Prop):∀{ds:List D} {β:Int},(∀d,d∈ds->∃vs1,sv t d vs=some vs1/\∀β,∃a β',fe vs1 β=.ok (e a) β'/\P a)->
  ∃(as:List α) (β':Int),iL t mC fe vs ds β=.ok (as.map e) β'/\as.length=ds.length/\∀a,a∈as->P a
 | [],β,_=>⟨[],β,rfl,rfl,λa h=>(by cases h)⟩
 |d::ds,β,h=>by
  obtain⟨vs1,hb,hf⟩:=h d (Ol ..)
  let⟨a,β1,ef,pa⟩:=hf β
  obtain⟨as,β2,ec,hl,hP⟩:=rD e P λd' hd=>h d' (Og _ hd)
  refine⟨a::as,β2,?_,by rw[ON,ON,hl],λx hx=>?_⟩
  .unfold iL
   rw[hb]
   dsimp only[mC,R.okb]
   rw[Od rfl,ef]
   dsimp only
   rw[ec];rfl
  .rcases Oo.mp hx with z|z
   .rw[z];exact pa
   .exact hP x z
def BJ{N:Nat}{l:List Pr}(h1:1<=N)(h8:N<=8)(w:OM.Wn N l)(nd:l.Nodup)(irr:∀a,(a,a)∉l):iY (.list (l.map aq))=some (.list ((OM.cB 8 (OM.Mem l)).map aq)):=by
 simp only[iY,fq]
 rw[Od ⟨y0 h8 w,nd,Ap h1 h8 w nd irr⟩]
def LH:D->Bool
 | .tuple _=>true
 |_=>false
def CC{d:D}(h:i8 d=false):ij "tuple" d=some (.bool (LH d)):=by
 unfold ij;rw[h];cases d<;>rfl
section
variable {fa fb:VF D}{vs:List Nv}{β:Int}
def L1{d:D}(ha:fa vs β=.ok d β)(h:i8 d=false):mD (f1 fa (ij "tuple")) vs β=.ok (LH d) β:=mH (cD ha (CC h))
def KH{ds:List D}(ha:fa vs β=.ok (.tuple ds) β):f1 fa c5 vs β=.ok (.int ds.length) β:=cD ha rfl
def IB{ds:List D}{k:Int}(ha:fa vs β=.ok (.tuple ds) β):cT (f2 (f1 fa c5) (cst (.int k)) (cz true)) vs β=.ok (!decide ((ds.length:Int)=k)) β:=df (KH ha) rfl
def rW{t u:VF Bool}{c:Bool}(h:t vs β=.ok false β)(h':u vs β=.ok c β):kT t u vs β=.ok c β:=by rw[zC,h];exact h'
end
section
variable {vs:List Nv}{β β1 β2:Int}{fa:VF D}{fr:VF (List D)}{d:D}{ds:List D}
def ac{fa:VF D}{fr:VF (List D)}(h:fa vs β=.ok d β)(h':fr vs β=.ok ds β):ab fa fr vs β=.ok (d::ds) β:=by rw[b7,h];dsimp only[R.bnd];rw[h']
def an:ao vs β=.ok [] β:=rfl
def tp(h:fr vs β=.ok ds β)(hz:ds.length<=1000:=by simp):bp fr vs β=.ok (.tuple ds) β:=ju h hz
def lp(h:fr vs β=.ok ds β)(hz:ds.length<=1000:=by simp):cP fr vs β=.ok (.list ds) β:=dh h hz
end
def rJ{fa:VF D}{vs:List Nv}{β:Int}{ds:List D}(ha:fa vs β=.ok (.list ds) β):f1 fa c5 vs β=.ok (.int ds.length) β:=cD ha rfl
def gR(n:Nat)(l:List Pr)(i:Nat):List Pr:=(OM.bY n).filter λp=>decide (p.1<i)&&sO l p
def Bs(n:Nat)(l:List Pr):gR n l n=kW n l:=by
 unfold gR kW
 refine Qp λp hp=>?_
 have:=(OM.aY.mp hp).1.2
 rw[Ot this,Bool.true_and]
def DL{n i:Nat}(l:List Pr)(hi:i<n):gR n l (i+1)=gR n l i++((bD n).filter λb=>sO l ((i:Int),b)).map λb=>((i:Int),b):=by
 refine OM.dO (OM.bZ _ (OM.dC n)) ?_ λx=>?_
 .show List.Pairwise OM.CW _
  rw[Q9]
  refine⟨OM.bZ _ (OM.dC n),?_,λp hp q hq=>?_⟩
  .rw[O5]
   exact((zi n).filter _).imp λ{a b} h=>.inr ⟨rfl,h⟩
  .unfold gR at hp
   have h1:=(Oh.mp hp).2
   rw[Oy,OB]at h1
   obtain⟨b,_,rfl⟩:=Of.mp hq
   exact .inl h1.1
 .rw[Ox]
  unfold gR
  rw[Oh,Oh,Of,OM.aY]
  simp only[Oy,OB]
  constructor
  .rintro⟨h1,h2,h3⟩
   by_cases z:x.1<i
   .exact .inl ⟨h1,z,h3⟩
   .have e:x.1=i:=by omega
    let⟨xa,xb⟩:=x
    simp only at e h1 h3
    subst e
    exact .inr ⟨xb,Oh.mpr ⟨aE.mpr h1.2,h3⟩,rfl⟩
  .rintro (⟨h1,h2,h3⟩|⟨b,hb,rfl⟩)
   .exact⟨h1,by omega,h3⟩
   .let⟨hb1,hb2⟩:=Oh.mp hb
    have:=aE.mp hb1
    exact⟨⟨⟨by omega,by omega⟩,this⟩,by omega,hb2⟩
def Bz{n:Nat}(l:List Pr)(i:Nat)(h8:n<=8):(gR n l i).length<=64:=by
 have h1:(gR n l i).length<=(OM.bY n).length:=O6 _ _
 rw[dv]at h1
 have:n*n<=64:=Py h8 h8
 omega
def vN:List D->FR:=bc 3 1 (ip vS)
def C5{n:Nat}{l:List Pr}(O:OM.Ord n l):vN [aN n l]=.ok (.list ((kW n l).map aq)) false:=by
 have h8:=O.hi
 show fin (ip vS [.fz (aN n l),.no,.no] 0)=_
 unfold ip
 rw[aO (env':=[.fz (aN n l),.fz (.list []),.no]) ?g1]
 case g1=>rw[mB,dh rfl (by simp)];rfl
 have er:∀(s t:Sl),bF (f2 (gv 0) (cst (.int 0)) bK) [.da (aN n l),s.val,t.val] 0=.ok (cV 0 n) 0:=λs t=>cf (N5 rfl) (by omega)
 obtain⟨env',β',ef,s,rfl,rfl⟩:=eV (t:=.nm 2) (m:=bq 1 ([]++(([]++[])++[0,2])) (f2 (gv 1) (aK 1 [0,2] (.nm 0) (bF (f2 (gv 0) (cst (.int 0)) bK)) (mD (aA vS (ab (gv 1) (ab (gv 2) (ab (gv 0) ao))))) (bp (ab (gv 2) (ab (gv 0) ao)))) iK))
  (λi env β=>∃s:Sl,env= [.fz (aN n l),.fz (.list ((gR n l i).map aq)),s]/\β=0)
  (env:=[.fz (aN n l),.fz (.list []),.no]) ⟨.no,by
   have:gR n l 0= []:=by
    unfold gR
    rw[Qz]
    intro p hp
    have:=(OM.aY.mp hp).1.1
    rw[Oz (by omega)];simp
   rw[this];rfl,rfl⟩ (by
   rintro i d env β hi ⟨s,rfl,rfl⟩
   obtain⟨hin,rfl⟩:=fP hi
   refine⟨[.fz (aN n l),.fz (.list ((gR n l (0+i)).map aq)),.fz (.int (0+(i:Int)))],rfl,?_⟩
   rw[Pk,Pn]
   have ec:aK 1 [0,2] (.nm 0) (bF (f2 (gv 0) (cst (.int 0)) bK)) (mD (aA vS (ab (gv 1) (ab (gv 2) (ab (gv 0) ao))))) (bp (ab (gv 2) (ab (gv 0) ao))) [.da (aN n l),.da (.list ((gR n l i).map aq)),.da (.int i)] 0=.ok (.list (((bD n).filter λb=>sO l ((i:Int),b)).map λb=>aq ((i:Int),b))) 0:=by
    refine bW (λb=>sO l ((i:Int),b)) (λb=>aq ((i:Int),b)) ?_ (by rw[bL];omega) λb hb=>⟨_,rfl,mH (aG rfl (Ej n l i b)),λ_=>c4 rfl rfl⟩
    rw[<-iH]
    exact er (.fz _) (.fz _)
   have ew:f2 (gv 1) (aK 1 [0,2] (.nm 0) (bF (f2 (gv 0) (cst (.int 0)) bK)) (mD (aA vS (ab (gv 1) (ab (gv 2) (ab (gv 0) ao))))) (bp (ab (gv 2) (ab (gv 0) ao)))) iK [.da (aN n l),.da (.list ((gR n l i).map aq)),.da (.int i)] 0=.ok (.list ((gR n l (i+1)).map aq)) 0:=by
    refine az rfl ec ?_
    rw[kg]
    .rw[DL l hin,OL,OX];rfl
    .rw[Ob,Ob]
     have h1:=Bz l i h8
     have h2:((bD n).filter λb=>sO l ((i:Int),b)).length<=(bD n).length:=O6 _ _
     rw[bL]at h2
     omega
   refine⟨[.fz (aN n l),.fz (.list ((gR n l (i+1)).map aq)),.fz (.int i)],0,?_,_,rfl,rfl⟩
   rw[mB]
   show toS (f2 (gv 1) (aK 1 [0,2] (.nm 0) (bF (f2 (gv 0) (cst (.int 0)) bK)) (mD (aA vS (ab (gv 1) (ab (gv 2) (ab (gv 0) ao))))) (bp (ab (gv 2) (ab (gv 0) ao)))) iK [.da (aN n l),.da (.list ((gR n l i).map aq)),.da (.int i)] 0) _=_
   rw[ew];rfl)
 rw[dP,Pk,Bs]at ef
 rw[aO ?g2]
 case g2=>
  rw[eZ (er (.fz (.list [])) .no)]
  exact ef
 rfl
def JU:List D->FR:=bc 1 1 nJ
def M6{d:D}(h:i8 d=false):JU [d]=.ok (.bool (JD d)) false:=by
 have:=Au [d] (by rw[nI h];exact λz=>by cases z)
 rw[nI h]at this
 exact this
def Sp(p:Pr):Prop:=(0<=p.1/\p.1<=8)/\(0<=p.2/\p.2<=8)
end RM
namespace RM
open PySem PySem.Spec L2 PyProof.Rows
theorem pE:∀{l m:List Int},l.Nodup->(∀x,x∈l->x∈m)->m.length<=l.length->l.Perm m
 | [],m,_,_,h=>by
  have:m= []:=Qr.mp (by simpa using h)
  rw[this]
 |x::l,m,nd,hs,h=>by
  let⟨h1,h2⟩:=OS.mp nd
  have hx:x∈m:=hs x (Ol ..)
  have pm:m.Perm (x::m.erase x):=List.perm_cons_erase hx
  refine(List.Perm.cons x (pE h2 (λy hy=>?_) ?_)).trans pm.symm
  .have hy':=pm.mem_iff.mp (hs y (Og _ hy))
   rcases Oo.mp hy' with rfl|q
   .exact absurd hy h1
   .exact q
  .have:=pm.length_eq
   rw[ON]at this h
   omega
def xo{n:Nat}{r:List Int}(hl:r.length=n)(hb:∀x,x∈r->0<=x/\x<n)(nd:r.Nodup):r.Perm (bD n):=pE nd (λx hx=>aE.mpr (hb x hx)) (by rw[bL];omega)
theorem jT:∀r:List Int,jO (r.map int)=some r
 | []=>rfl
 |x::r=>by
  have:=jT r
  simp only[OJ,jO,this]
  try rfl
end RM
namespace RM
open PySem L2
def ME(l:List Pr)(r:List Int):Bool:=l.all λp=>decide (r.idxOf p.1<r.idxOf p.2)
def Row(n:Nat)(l:List Pr)(r:List Int):Prop:=r.Perm (bD n)/\ME l r=true
def pY(rs:List (List Int))(p:Pr):Bool:=rs.all λr=>decide (r.idxOf p.1<r.idxOf p.2)
def Ab{α:Type}{fa:VF D}{vs:List Nv}{β:Int}{l:List α}{f:α->Bool}(h:fa vs β=.ok (.list (l.map λq=>PyData.bool (f q))) β):f1 fa (eT λbs=>bs.all id) vs β=.ok (.bool (l.all f)) β:=by
 refine cD h ?_
 simp only[eT]
 rw[mq]
 simp[List.all_map,Function.comp_def]
def E4(l:List Pr)(r:List Int)(x:Int):List Int:=(l.filter λp=>decide (p.2=x) && !decide (p.1∈r)).map (·.1)
def oE{l:List Pr}{r:List Int}{x a:Int}:a∈E4 l r x↔(a,x)∈l/\a∉r:=by
 unfold E4
 rw[Of]
 constructor
 .rintro⟨p,hp,rfl⟩
  have:=Oh.mp hp
  simp only[Oy,OB,PU,Pj]at this
  let⟨pa,pb⟩:=p
  let⟨h1,h2,h3⟩:=this
  simp only at h2 h3
  subst h2
  exact⟨h1,h3⟩
 .rintro⟨h1,h2⟩
  exact⟨(a,x),Oh.mpr ⟨h1,by simp[h2]⟩,rfl⟩
def B5{n:Nat}{l:List Pr}(O:OM.Ord n l)(r:List Int)(x:Int):(E4 l r x).Nodup:=by
 unfold E4
 rw[PN,O5]
 refine Pt (λ{a b} ha hb h e=>h ?_) (PN.mp ((OM.eN O.ris).filter _))
 have h1:=(Oh.mp ha).2
 have h2:=(Oh.mp hb).2
 simp only[Oy,OB]at h1 h2
 exact Prod.ext e (h1.1.trans h2.1.symm)
theorem least{n:Nat}{l:List Pr}(O:OM.Ord n l)(r:List Int):∀(k:Nat) (x:Int),(0<=x/\x<n)->x∉r->(E4 l r x).length<=k->∃y:Int,(0<=y/\y<n)/\y∉r/\E4 l r y= []
 | 0,x,hx,hr,hk=>⟨x,hx,hr,Qr.mp (by omega)⟩
 |k+1,x,hx,hr,hk=>by
  by_cases he:E4 l r x= []
  ·exact⟨x,hx,hr,he⟩
  ·obtain⟨a,ha⟩:=List.exists_mem_of_ne_nil _ he
   let⟨h1,h2⟩:=oE.mp ha
   refine least O r k a (O.wn _ h1).1 h2 ?_
   have nd:(a::E4 l r a).Nodup:=OS.mpr ⟨λq=>O.irr a (oE.mp q).1,B5 O r a⟩
   have:=L2.ST.bV nd λy hy=>by
    rcases Oo.mp hy with rfl|hy
    .exact ha
    .let⟨q1,q2⟩:=oE.mp hy
     exact oE.mpr ⟨O.tr _ _ _ q1 h1,q2⟩
   rw[ON]at this
   omega
structure E6(n:Nat)(l:List Pr)(r:List Int):Prop where
 nd:r.Nodup
 inn:∀x,x∈r->0<=x/\x<(n:Int)
 fit:∀p,p∈l->p.2∈r->p.1∈r/\r.idxOf p.1<r.idxOf p.2
def E6.len{n:Nat}{l:List Pr}{r:List Int}(B:E6 n l r):r.length<=n:=by
 have:=L2.ST.bV B.nd λx hx=>aE.mpr (B.inn x hx)
 rwa [bL]at this
def E6.row{n:Nat}{l:List Pr}{r:List Int}(O:OM.Ord n l)(B:E6 n l r)(h:n<=r.length):Row n l r:=by
 have pm:=xo (Nat.le_antisymm B.len h) B.inn B.nd
 exact⟨pm,Pa.mpr λp hp=>Ot ((B.fit p hp (pm.mem_iff.mpr (aE.mpr (O.wn p hp).2))).2)⟩
def uk(l:List Pr)(r:List Int)(x:Int):Bool:= !decide (x∈r)&&decide (E4 l r x= [])
def E6.more{n:Nat}{l:List Pr}{r:List Int}{x:Int}(B:E6 n l r)(hx:0<=x/\x<(n:Int))(hf:uk l r x=true):E6 n l (r++[x]):=by
 unfold uk at hf
 rw[Oy,PU,Pj,OB]at hf
 let⟨h1,h2⟩:=hf
 refine⟨?_,λy hy=>?_,λp hp hm=>?_⟩
 .rw[PF]
  refine⟨B.nd,OS.mpr ⟨by simp,Qy⟩,λa ha b hb=>?_⟩
  rw[OT]at hb
  subst hb
  exact λq=>h1 (q▸ha)
 .rcases Ox.mp hy with hy|hy
  .exact B.inn y hy
  .rw[OT]at hy;subst hy;exact hx
 .rcases Ox.mp hm with hm|hm
  .let⟨q1,q2⟩:=B.fit p hp hm
   refine⟨O7 _ q1,?_⟩
   rw[RC,RC,Od q1,Od hm]
   exact q2
  .rw[OT]at hm
   have hp1:p.1∈r:=by
    by_cases z:p.1∈r
    .exact z
    .have:p.1∈E4 l r x:=oE.mpr ⟨by rw[<-hm];exact hp,z⟩
     rw[h2]at this;cases this
   refine⟨O7 _ hp1,?_⟩
   rw[RC,RC,Od hp1,Oe (by rw[hm];exact h1)]
   have:=PX.mpr hp1
   omega
def E6.free{n:Nat}{l:List Pr}{r:List Int}(O:OM.Ord n l)(B:E6 n l r)(h:r.length<n):(bD n).filter (uk l r)≠ []:=by
 have:∃x,x∈bD n/\x∉r:=by
  apply Classical.byContradiction
  intro z
  have:=L2.ST.bV (dX n) λx hx=>Classical.byContradiction λq=>z ⟨x,hx,q⟩
  rw[bL]at this
  omega
 let⟨x,hx,hr⟩:=this
 let⟨y,hy,hyr,hp⟩:=least O r _ x (aE.mp hx) hr (Oc _)
 intro q
 have:y∈(bD n).filter (uk l r):=Oh.mpr ⟨aE.mpr hy,by unfold uk;simp[hyr,hp]⟩
 rw[q]at this
 cases this
def Kx(l:List Pr)(r:List Int)(i:Nat):List Int:=(bD i).filter (uk l r)
def sx(rows:List (List Int))(p:Pr):Bool:= !decide (p.1=p.2)&&(rows.filter λr=>decide (r.idxOf p.1>r.idxOf p.2)).isEmpty
def HX:List D->FR:=bc 6 2 gK
def Jm{n:Nat}{rows:List (List Int)}(h8:n<=8)(hr:rows.length<=100)(hp:∀r,r∈rows->r.Perm (bD n)):HX [.int n,.list (rows.map tupI)]=.ok (.tuple (((OM.bY n).filter (sx rows)).map aq)) false:=by
 show fin (gK [.fz (.int n),.fz (.list (rows.map tupI)),.no,.no,.no,.no] 0)=_
 unfold gK
 rw[aO (env':=[.fz (.int n),.fz (.list (rows.map tupI)),.ow (.list []),.no,.no,.no]) ?g1]
 case g1=>rw[Eo,dh rfl (by simp)];rfl
 obtain⟨env',β',ef,s,t,u,rfl,rfl⟩:=eV (t:=.nm 3) (m:=c3 (.nm 4) [] (bF (gv 0))
   (aB (bq 5 ([]++[]) (aK 1 [3,4] (.nm 0) (bQ (gv 1)) (cT (f2 (pe (gv 0) (gv 1)) (pe (gv 0) (gv 2)) Kh)) (cst (.int 1))))
   (kM (([]++[])++([]++[])) (wB (cT (f2 (gv 3) (gv 4) (cz true))) (cT (f2 (gv 5) (cP ao) (cz false))))
   (nY 2 ([3]++([4]++[])) (bp (ab (gv 3) (ab (gv 4) ao))))
   mG))) (ds:=cV 0 n)
  (λi env β=>∃s t u:Sl,env= [.fz (.int n),.fz (.list (rows.map tupI)),.ow (.list ((upTo n (sx rows) i 0).map aq)),s,t,u]/\β=0)
  (env:=[.fz (.int n),.fz (.list (rows.map tupI)),.ow (.list []),.no,.no,.no]) ⟨.no,.no,.no,by rw[Bd];rfl,rfl⟩ (by
   rintro i d env β hi ⟨s,t,u,rfl,rfl⟩
   obtain⟨hin,rfl⟩:=fP hi
   refine⟨[.fz (.int n),.fz (.list (rows.map tupI)),.ow (.list ((upTo n (sx rows) (0+i) 0).map aq)),.fz (.int (0+(i:Int))),t,u],rfl,?_⟩
   rw[Pk,Pn]
   obtain⟨env',β',ef,t2,u2,rfl,rfl⟩:=eV (t:=.nm 4) (m:=aB (bq 5 ([]++[]) (aK 1 [3,4] (.nm 0) (bQ (gv 1)) (cT (f2 (pe (gv 0) (gv 1)) (pe (gv 0) (gv 2)) Kh)) (cst (.int 1))))
     (kM (([]++[])++([]++[])) (wB (cT (f2 (gv 3) (gv 4) (cz true))) (cT (f2 (gv 5) (cP ao) (cz false))))
     (nY 2 ([3]++([4]++[])) (bp (ab (gv 3) (ab (gv 4) ao))))
     mG)) (ds:=cV 0 n)
    (λk env β=>∃t u:Sl,env= [.fz (.int n),.fz (.list (rows.map tupI)),.ow (.list ((upTo n (sx rows) i k).map aq)),.fz (.int i),t,u]/\β=0)
    ⟨t,u,rfl,rfl⟩ (by
     rintro k d env β hk ⟨t,u,rfl,rfl⟩
     obtain⟨hkn,rfl⟩:=fP hk
     refine⟨[.fz (.int n),.fz (.list (rows.map tupI)),.ow (.list ((upTo n (sx rows) i (0+k)).map aq)),.fz (.int i),.fz (.int (0+(k:Int))),u],rfl,?_⟩
     rw[Pk,Pn]
     have ec:aK 1 [3,4] (.nm 0) (bQ (gv 1)) (cT (f2 (pe (gv 0) (gv 1)) (pe (gv 0) (gv 2)) Kh)) (cst (.int 1)) [.da (.int n),.da (.list (rows.map tupI)),.da (.list ((upTo n (sx rows) i k).map aq)),.da (.int i),.da (.int k),u.val] 0=.ok (.list ((rows.filter λr=>decide (r.idxOf (i:Int)>r.idxOf (k:Int))).map λ_=>int 1)) 0:=by
      refine bW (e:=tupI) (λr=>decide (r.idxOf (i:Int)>r.idxOf (k:Int))) (λ_=>int 1) rfl (by omega) λr hr=>⟨_,rfl,?_,λ_=>rfl⟩
      have hp:=hp r hr
      refine bM _ _ _ _ (az (AL rfl rfl (hp.mem_iff.mpr (aE.mpr ⟨by omega,by omega⟩))) (AL rfl rfl (hp.mem_iff.mpr (aE.mpr ⟨by omega,by omega⟩))) ?_)
      show some (PyData.bool (decide (((r.idxOf (i:Int):Nat):Int)>((r.idxOf (k:Int):Nat):Int))))=_
      congr 2
      rw[Qa,OB,OB]
      omega
     rw[aO (env':=[.fz (.int n),.fz (.list (rows.map tupI)),.ow (.list ((upTo n (sx rows) i k).map aq)),.fz (.int i),.fz (.int k),.fz (.list ((rows.filter λr=>decide (r.idxOf (i:Int)>r.idxOf (k:Int))).map λ_=>int 1))]) ?g]
     case g=>
      rw[mB]
      show toS (aK 1 [3,4] (.nm 0) (bQ (gv 1)) (cT (f2 (pe (gv 0) (gv 1)) (pe (gv 0) (gv 2)) Kh)) (cst (.int 1)) [.da (.int n),.da (.list (rows.map tupI)),.da (.list ((upTo n (sx rows) i k).map aq)),.da (.int i),.da (.int k),u.val] 0) _=_
      rw[ec];rfl
     generalize hL:(rows.filter λr=>decide (r.idxOf (i:Int)>r.idxOf (k:Int)))=L
     have et:wB (cT (f2 (gv 3) (gv 4) (cz true))) (cT (f2 (gv 5) (cP ao) (cz false))) (vl [.fz (.int n),.fz (.list (rows.map tupI)),.ow (.list ((upTo n (sx rows) i k).map aq)),.fz (.int i),.fz (.int k),.fz (.list (L.map λ_=>int 1))]) 0=.ok (sx rows ((i:Int),(k:Int))) 0:=by
      have h1:cT (f2 (gv 5) (cP ao) (cz false)) (vl [.fz (.int n),.fz (.list (rows.map tupI)),.ow (.list ((upTo n (sx rows) i k).map aq)),.fz (.int i),.fz (.int k),.fz (.list (L.map λ_=>int 1))]) 0=.ok L.isEmpty 0:=by
       refine bM _ _ _ _ (az rfl (dh rfl (by simp)) ?_)
       have e9:(L.map λ_=>int 1)=(L.map λ_=>(1:Int)).map int:=by rw[OX];rfl
       rw[e9,show([]:List D)=([]:List Int).map int from rfl,qy]
       congr 2
       cases L<;>simp
      have:=nF (df (neg:=true) (fa:=gv 3) (fb:=gv 4) rfl rfl) h1
      rw[this]
      unfold sx
      rw[hL];rfl
     cases c:sx rows ((i:Int),(k:Int))with
     |true=>
      rw[c]at et
      refine⟨[.fz (.int n),.fz (.list (rows.map tupI)),.ow (.list ((upTo n (sx rows) i (k+1)).map aq)),.fz (.int i),.fz (.int k),.fz (.list (L.map λ_=>int 1))],0,?_,_,_,rfl,rfl⟩
      rw[uI et]
      have:=u5 (i:=2) (L:=[3]++([4]++[])) (env:=[.fz (.int n),.fz (.list (rows.map tupI)),.ow (.list ((upTo n (sx rows) i k).map aq)),.fz (.int i),.fz (.int k),.fz (.list (L.map λ_=>int 1))]) (β:=0) (by rfl) (c4 (fa:=gv 3) (fb:=gv 4) rfl rfl) (by rfl) (by rw[Ob];have:=D0 (sx rows) i k h8;omega)
      rw[uo _ hin hkn,Od c,OL]
      exact this
     |false=>
      rw[c]at et
      refine⟨[.fz (.int n),.fz (.list (rows.map tupI)),.ow (.list ((upTo n (sx rows) i (k+1)).map aq)),.fz (.int i),.fz (.int k),.fz (.list (L.map λ_=>int 1))],0,?_,_,_,rfl,rfl⟩
      have e8:=uo (sx rows) hin hkn
      rw[Oe (by rw[c];exact OW),QD]at e8
      rw[pF et,e8];rfl)
   rw[dP,Pk,EH]at ef
   refine⟨[.fz (.int n),.fz (.list (rows.map tupI)),.ow (.list ((upTo n (sx rows) (i+1) 0).map aq)),.fz (.int i),t2,u2],0,?_,_,_,_,rfl,rfl⟩
   rw[eZ (cf rfl (by omega))]
   exact ef)
 rw[dP,Pk,C2]at ef
 rw[aO ?g2]
 case g2=>
  rw[eZ (cf rfl (by omega))]
  exact ef
 rw[AN,cD rfl ?g3]
 case g3=>rfl
 rfl
def oC{rows:List (List Int)}{p:Pr}:sx rows p=true↔p.1≠p.2/\∀r,r∈rows->r.idxOf p.1<=r.idxOf p.2:=by
 unfold sx
 rw[Oy,PU,Pj,List.isEmpty_iff,Qz]
 simp only[OB,Nat.not_lt,gt_iff_lt]
def Dd{n:Nat}{rows:List (List Int)}(h1:1<=n)(h8:n<=8)(hne:rows≠ [])(hp:∀r,r∈rows->r.Perm (bD n)):OM.Ord n ((OM.bY n).filter (sx rows)):=by
 refine⟨h1,h8,λp hm=>OM.aY.mp (Oh.mp hm).1,OM.bZ _ (OM.dC n),λa h=>?_,λa b c hab hbc=>?_⟩
 .exact (oC.mp (Oh.mp h).2).1 rfl
 .let⟨g1,t1⟩:=Oh.mp hab
  let⟨g2,t2⟩:=Oh.mp hbc
  have g1:=OM.aY.mp g1
  have g2:=OM.aY.mp g2
  let⟨n1,q1⟩:=oC.mp t1
  let⟨n2,q2⟩:=oC.mp t2
  refine Oh.mpr ⟨OM.aY.mpr ⟨g1.1,g2.2⟩,oC.mpr ⟨λe=>?_,λr hr=>Pf (q1 r hr) (q2 r hr)⟩⟩
  simp only at e n1 q1 q2
  subst e
  cases rows with
  |nil=>exact hne rfl
  |cons r rest=>
   have hr:r∈r::rest:=Ol ..
   have pm:=hp r hr
   exact n1 (AS (pm.mem_iff.mpr (aE.mpr g1.1)) (pm.mem_iff.mpr (aE.mpr g1.2)) (Nat.le_antisymm (q1 r hr) (q2 r hr)))
noncomputable def E1:List D->Int->FB:=sU 6 0 (iA dA iW)
def NF(ms:List Int)(m i:Nat)(ps:List Pr):Prop:=ps.Nodup/\ps.length<=4*i/\(∀p,p∈ps->∃i' j:Nat,i'<i/\j<m/\i'≠j/\ms[i']? =some p.1/\ms[m+j]? =some p.2)/\∀i' j:Nat,i'<i->j<m->i'≠j->(ms.getD i' 0,ms.getD (m+j) 0)∈ps
def F0{ms:List Int}{m i:Nat}{ps:List Pr}(h3:3<=m)(h4:m<=4)(hi:i<=m)(hp:ms.Perm (bD (2*m)))(h:NF ms m i ps):OM.Ord (2*m) (OM.cB 8 (OM.Mem ps))/\ps.all I0=true/\ps.length<64:=by
 obtain⟨nd,hl,hc,_⟩:=h
 have ndm:ms.Nodup:=hp.nodup_iff.mpr (dX _)
 have wn:OM.Wn (2*m) ps:=λp hm=>by
  obtain⟨i',j,_,_,_,e1,e2⟩:=hc p hm
  exact⟨aE.mp (hp.mem_iff.mp (Oi e1)),aE.mp (hp.mem_iff.mp (Oi e2))⟩
 rw[HR (by omega) wn]
 refine⟨⟨by omega,by omega,OM.nP _ _,OM.cA _ _,λa h=>?_,λa b c h k=>?_⟩,y0 (by omega) wn,by omega⟩
 .obtain⟨i',j,hi',_,_,e1,e2⟩:=hc _ (OM.aJ.mp h).2
  have:=eY ndm e1 e2
  omega
 .obtain⟨i',j,hi',_,_,e1,e2⟩:=hc _ (OM.aJ.mp h).2
  obtain⟨i2,j2,hi2,_,_,e3,e4⟩:=hc _ (OM.aJ.mp k).2
  have:=eY ndm e2 e3
  omega
structure M1(m:Nat)(ms:List Int)(l:List Pr):Prop where
 lo:3<=m
 pm:ms.Perm (bD (2*m))
 up:∀i j:Nat,i<m->j<m->i≠j->(ms.getD i 0,ms.getD (m+j) 0)∈l
 ap:∀i:Nat,i<m->(ms.getD i 0,ms.getD (m+i) 0)∉l
def EA(β:Int):∃(n:Nat) (l:List Pr) (β':Int),E1 [] β=.ok (aN n l) false β'/\OM.Ord n l/\∃m ms,n=2*m/\M1 m ms l:=by
 obtain⟨j,hj,ej⟩:=lI (m:=2) (by omega) (by omega) β
 show ∃(n:Nat) (l:List Pr) (β':Int),Ce (iA dA iW [.bx,.no,.no,.no,.no,.no] β)=.ok (aN n l) false β'/\OM.Ord n l/\∃m ms,n=2*m/\M1 m ms l
 unfold iA
 generalize hβ1:β/((2:Nat):Int)=β1 at ej
 have e1:f2 (cst (.int 3)) (mE 0 dA (ab (cst (.int 2)) ao)) b5 [Nv.bx,.no,.no,.no,.no,.no] β=.ok (.int ((3+j:Nat):Int)) β1:=by
  refine az rfl (iP (by rfl) rfl ej) ?_
  show some (int (3+(j:Int)))=_
  rw[show((3+j:Nat):Int)=3+(j:Int) by omega]
 rw[aO ?g1]
 case g1=>
  show toS (f2 (cst (.int 3)) (mE 0 dA (ab (cst (.int 2)) ao)) b5 [Nv.bx,.no,.no,.no,.no,.no] β) _=_
  rw[e1];rfl
 have h3:3<=3+j:=by omega
 have h4:3+j<=4:=by omega
 generalize hm:3+j=m at h3 h4
 obtain⟨ms,β2,em,hp⟩:=u9 (bD (2*m)) (by rw[bL];omega) β1
 have hml:ms.length=2*m:=by rw[hp.length_eq,bL]
 have g2:cU (.int 2) (.int m)=some (.int ((2*m:Nat):Int)):=by rw[m8 ⟨by omega,by omega⟩];congr 2
 have e2:mE 0 iW (ab (f1 (f2 (cst (.int 2)) (gv 1) cU) cR) ao) [Nv.bx,.da (.int m),.no,.no,.no,.no] β1=.ok (.list (ms.map int)) β2:=by
  refine iP (by rfl) ?_ em
  rw[b7,cD (az rfl rfl g2) (jo (by omega))];rfl
 rw[aO ?g2]
 case g2=>
  show toS (mE 0 iW (ab (f1 (f2 (cst (.int 2)) (gv 1) cU) cR) ao) [Nv.bx,.da (.int m),.no,.no,.no,.no] β1) _=_
  rw[e2];rfl
 rw[aO (env':=[.bx,.fz (.int m),.fz (.list (ms.map int)),.fz (.list []),.no,.no]) ?g3]
 case g3=>rw[mB,dh rfl (by simp)];rfl
 have ndm:ms.Nodup:=hp.nodup_iff.mpr (dX _)
 obtain⟨env',β',ef,ps,s,t,rfl,rfl,hC⟩:=eV (t:=.nm 4) (m:=aB (bq 5 ([]++[]) (aK 1 [4,2,1] (.nm 0) (bF (gv 1)) (cT (f2 (gv 0) (gv 1) (cz true))) (f2 (gv 2) (f2 (gv 3) (gv 0) b5) bK)))
   (bq 3 ([]++([]++[])) (f2 (gv 3) (aK 1 [2,4] (.nm 0) (bQ (gv 5)) mC (bp (ab (f2 (gv 1) (gv 2) bK) (ab (gv 0) ao)))) iK))) (ds:=cV 0 m) (k:=0)
  (λi env β=>∃(ps:List Pr) (s t:Sl),env= [.bx,.fz (.int m),.fz (.list (ms.map int)),.fz (.list (ps.map aq)),s,t]/\β=β2/\NF ms m i ps)
  ⟨[],.no,.no,rfl,rfl,Qy,by simp,(λp hp=>by cases hp),λi' j h=>by omega⟩ (by
   rintro i d env β hi ⟨ps,s,t,rfl,rfl,nd,hl,hc,hx⟩
   obtain⟨hin,rfl⟩:=fP hi
   refine⟨[.bx,.fz (.int m),.fz (.list (ms.map int)),.fz (.list (ps.map aq)),.fz (.int (0+(i:Int))),t],rfl,?_⟩
   rw[Pk,Pn]
   rw[Pk]at hl hc hx
   have him:i<ms.length:=by omega
   have ec:aK 1 [4,2,1] (.nm 0) (bF (gv 1)) (cT (f2 (gv 0) (gv 1) (cz true))) (f2 (gv 2) (f2 (gv 3) (gv 0) b5) bK) [.bx,.da (.int m),.da (.list (ms.map int)),.da (.list (ps.map aq)),.da (.int i),t.val] β=.ok (.list ((((List.range m).filter λ(j:Nat)=> !decide ((j:Int)=(i:Int))).map λ(j:Nat)=>ms.getD (m+j) 0).map int)) β:=by
    rw[OX]
    refine bW (λ(j:Nat)=> !decide ((j:Int)=(i:Int))) (λj=>int (ms.getD (m+j) 0)) (cf rfl (by omega)) (by rw[P6];omega) λj hj=>⟨_,rfl,?_,λ_=>?_⟩
    .rw[Pn];exact df rfl rfl
    .have hj:=OI.mp hj
     have hjm:m+j<ms.length:=by omega
     refine az (y:=.int ((m+j:Nat):Int)) rfl (az rfl rfl ?_) ?_
     .show some (int ((m:Int)+(0+(j:Int))))=_
      congr 2;omega
     .show jw (ms.map int) ((m+j:Nat):Int)=_
      rw[dm,pd hjm,OH,N8 hjm];rfl
   rw[aO ?g]
   case g=>
    rw[mB]
    show toS (aK 1 [4,2,1] (.nm 0) (bF (gv 1)) (cT (f2 (gv 0) (gv 1) (cz true))) (f2 (gv 2) (f2 (gv 3) (gv 0) b5) bK) [.bx,.da (.int m),.da (.list (ms.map int)),.da (.list (ps.map aq)),.da (.int i),t.val] β) _=_
    rw[ec];rfl
   generalize hO:((List.range m).filter λ(j:Nat)=> !decide ((j:Int)=(i:Int)))=js
   have hjs:∀j,j∈js->j<m:=λj hj=>by rw[<-hO]at hj;exact OI.mp (Oh.mp hj).1
   have hji:∀j,j∈js↔j<m/\j≠i:=λj=>by
    rw[<-hO,Oh,OI]
    simp
    omega
   have hjn:js.Nodup:=by rw[<-hO];exact Qx.filter _
   have hjl:js.length<=m:=by rw[<-hO];have:=O6 (λ(j:Nat)=> !decide ((j:Int)=(i:Int))) (List.range m);rw[P6]at this;exact this
   have ed:aK 1 [2,4] (.nm 0) (bQ (gv 5)) mC (bp (ab (f2 (gv 1) (gv 2) bK) (ab (gv 0) ao))) [.bx,.da (.int m),.da (.list (ms.map int)),.da (.list (ps.map aq)),.da (.int i),.da (.list ((js.map λ(j:Nat)=>ms.getD (m+j) 0).map int))] β=.ok (.list ((js.map λ(j:Nat)=>((ms.getD i 0,ms.getD (m+j) 0):Pr)).map aq)) β:=by
    rw[OX,OX]
    refine bX (λj=>aq (ms.getD i 0,ms.getD (m+j) 0)) rfl (by omega) λj hj=>⟨_,rfl,c4 (az rfl rfl ?_) rfl⟩
    show jw (ms.map int) (i:Int)=_
    rw[dm,pd him,OH,N8 him];rfl
   refine⟨[.bx,.fz (.int m),.fz (.list (ms.map int)),.fz (.list ((ps++js.map λ(j:Nat)=>((ms.getD i 0,ms.getD (m+j) 0):Pr)).map aq)),.fz (.int i),.fz (.list ((js.map λ(j:Nat)=>ms.getD (m+j) 0).map int))],β,?_,_,_,_,rfl,rfl,?_,?_,?_,?_⟩
   .rw[mB]
    show toS (f2 (gv 3) (aK 1 [2,4] (.nm 0) (bQ (gv 5)) mC (bp (ab (f2 (gv 1) (gv 2) bK) (ab (gv 0) ao)))) iK [.bx,.da (.int m),.da (.list (ms.map int)),.da (.list (ps.map aq)),.da (.int i),.da (.list ((js.map λ(j:Nat)=>ms.getD (m+j) 0).map int))] β) _=_
    rw[az rfl ed (kg (by rw[Ob,Ob,Ob];omega)),<-OL];rfl
   .have hd:∀j,j<m->ms[m+j]? =some (ms.getD (m+j) 0):=λj hj=>by rw[OH,N8 (by omega)];rfl
    have hdi:ms[i]? =some (ms.getD i 0):=by rw[OH,N8 him];rfl
    refine PF.mpr ⟨nd,?_,λp hp q hq e=>?_⟩
    .rw[PN,O5]
     refine Pt (λ{a b} ha hb h e=>?_) (PN.mp hjn)
     have e2:=(Prod.mk.inj e).2
     have:=eY ndm (hd a (hjs a ha)) (by rw[e2];exact hd b (hjs b hb))
     omega
    .subst e
     obtain⟨j,hj,rfl⟩:=Of.mp hq
     obtain⟨i',j',h1,h2,h5,h3,h4⟩:=hc _ hp
     have:=eY ndm h3 hdi
     omega
   .rw[OO,Ob];omega
   .intro p hp
    rcases Ox.mp hp with hp|hp
    .obtain⟨i',j',h1,h2,h5,h3,h4⟩:=hc _ hp
     exact⟨i',j',by omega,h2,h5,h3,h4⟩
    .obtain⟨j,hj,rfl⟩:=Of.mp hp
     refine⟨i,j,by omega,hjs j hj,λz=>((hji j).mp hj).2 z.symm,?_,?_⟩
     .show ms[i]? =some (ms.getD i 0)
      rw[OH,N8 him];rfl
     .have:=hjs j hj
      show ms[m+j]? =some (ms.getD (m+j) 0)
      rw[OH,N8 (by omega)];rfl
   .intro i' j h1 h2 h3
    by_cases c:i'<i
    .exact O7 _ (hx i' j c h2 h3)
    .have:i'=i:=by omega
     subst this
     exact OR _ (Of.mpr ⟨j,(hji j).mpr ⟨h2,λz=>h3 z.symm⟩,rfl⟩))
 rw[dP,Pk]at hC
 rw[aO ?g5]
 case g5=>
  rw[eZ (cf rfl (by omega))]
  exact ef
 obtain⟨O,hsm,hl⟩:=F0 h3 h4 (Oc m) hp hC
 have wnp:∀p,p∈ps->(0<=p.1/\p.1<8)/\(0<=p.2/\p.2<8):=λp hpp=>by
  obtain⟨i',j,_,_,_,e1,e2⟩:=hC.2.2.1 p hpp
  have a1:=aE.mp (hp.mem_iff.mp (Oi e1))
  have a2:=aE.mp (hp.mem_iff.mp (Oi e2))
  omega
 have gd:∀k,k<2*m->ms[k]? =some (ms.getD k 0):=λk hk=>by rw[OH,N8 (by omega)];rfl
 refine⟨2*m,OM.cB 8 (OM.Mem ps),β',?_,O,m,ms,rfl,h3,hp,λi j h1 h2 h3=>?_,λi h1 h2=>?_⟩
 rotate_left
 .have z:=hC.2.2.2 i j h1 h2 h3
  exact OM.aJ.mpr ⟨wnp _ z,z⟩
 .obtain⟨i',j,a1,a2,a3,e1,e2⟩:=hC.2.2.1 _ (OM.aJ.mp h2).2
  have b1:=eY ndm e1 (gd i (by omega))
  have b2:=eY ndm e2 (gd (m+i) (by omega))
  omega
 have g9:iY (.list (ps.map aq))=some (.list ((OM.cB 8 (OM.Mem ps)).map aq)):=by
  unfold iY
  dsimp only
  rw[fq]
  dsimp only
  rw[Od ⟨hsm,hC.1,hl⟩]
 have e9:bp (ab (f2 (cst (.int 2)) (gv 1) cU) (ab (f1 (f1 (gv 3) iY) kn) ao)) [Nv.bx,.da (.int m),.da (.list (ms.map int)),.da (.list (ps.map aq)),s.val,t.val] β'=.ok (aN (2*m) (OM.cB 8 (OM.Mem ps))) β':=by
  refine ju ?_ (by simp)
  rw[b7,az rfl rfl g2]
  dsimp only[R.bnd]
  rw[b7,cD (cD rfl g9) (by rfl)];rfl
 rw[AN]
 show Ce (toS (bp (ab (f2 (cst (.int 2)) (gv 1) cU) (ab (f1 (f1 (gv 3) iY) kn) ao)) [Nv.bx,.da (.int m),.da (.list (ms.map int)),.da (.list (ps.map aq)),s.val,t.val] β') _)=_
 rw[e9];rfl
structure WP(r:SO)(Q:SO->Prop):Prop where
 out:Q r
section
variable {m m' m1 m2:SF}{env env1:En}{β β1 β2 z:Int}{Q:SO->Prop}{f fa fb:VF D}{t:VF Bool}{d e:D}{L La Lb:List Nat}{i j:Nat}{c:Bool}
def wp_at(env1:En)(e:env=env1)(k:WP (m env1 β) Q):WP (m env β) Q:=by rw[e];exact k
def wp_seq(h:m env β=.nx env1 β1)(k:WP (m' env1 β1) Q):WP (aB m m' env β) Q:=by rw[aO h];exact k
theorem lP(h:WP (aB m mG env β) Q):WP (m env β) Q:=by
 let⟨h⟩:=h
 unfold aB at h
 cases e:m env β with
 |_=>rw[e]at h;exact⟨h⟩
def jn(q:Q (.nx env β)):WP (mG env β) Q:=⟨q⟩
def cj(h:f (vl env) β=.ok d β1)(k:WP (m' ((ba L env).set i (.fz d)) β1) Q):WP (aB (bq i L f) m' env β) Q:=wp_seq (by unfold bq;rw[h];rfl) k
def ml(h:f (vl env) β=.ok d β1)(k:WP (m' ((ba L env).set i (.ow d)) β1) Q):WP (aB (jk i L f) m' env β) Q:=wp_seq (by unfold jk;rw[h];rfl) k
def Hr(h:f (vl env) β=.ok (.list [.int z]) β1)(k:WP (m' ((tu (ba L env)).set i .bx) z) Q):WP (aB (Ae i L f) m' env β) Q:=wp_seq (by unfold Ae;rw[h];rfl) k
def FG(h:f (vl env) β=.ok d β1)(k:WP (m' (ba L env) β1) Q):WP (aB (tZ L f) m' env β) Q:=wp_seq (by unfold tZ;rw[h];rfl) k
def wp_bind{t:Tg}(h:f (vl env) β=.ok d β1)(hb:fS t d (ba L env)=some env1)(k:WP (m' env1 β1) Q):WP (aB (wG t L f) m' env β) Q:=wp_seq (by unfold wG;rw[h];dsimp only[toS];rw[hb]) k
def yC{ds:List D}(hi:env[i]? =some (.ow (.list ds)))(h:f (vl env) β=.ok d β1)(hL:(ba L env)[i]? =some (.ow (.list ds)))(hz:ds.length<=1000)(k:WP (m' ((ba L env).set i (.ow (.list (ds++[d])))) β1) Q):WP (aB (nY i L f) m' env β) Q:=wp_seq (u5 hi h hL hz) k
def iq(h:t (vl env) β=.ok false β1)(k:WP (m' (ba L env) β1) Q):WP (aB (kM L t m1 mG) m' env β) Q:=wp_seq (by rw[pF h];rfl) k
def qc(h:t (vl env) β=.ok true β1)(k:WP (aB m1 m' (ba L env) β1) Q):WP (aB (kM L t m1 m2) m' env β) Q:=by
 have:aB (kM L t m1 m2) m' env β=aB m1 m' (ba L env) β1:=by unfold aB;rw[uI h]
 rw[this];exact k
def K6(h:t (vl env) β=.ok true β1)(k:WP (m1 (ba L env) β1) Q):WP (kM L t m1 m2 env β) Q:=by rw[uI h];exact k
def B7(h:t (vl env) β=.ok false β1)(k:WP (m2 (ba L env) β1) Q):WP (kM L t m1 m2 env β) Q:=by rw[pF h];exact k
def kJ(h:f (vl env) β=.ok d β1)(q:Q (.rt d false β1)):WP (bI f env β) Q:=⟨by unfold bI;rw[h];exact q⟩
def qg(h:f (vl env) β=.ok d β1)(q:Q (.rt d false β1)):WP (aB (bI f) m' env β) Q:=⟨by unfold aB bI;rw[h];exact q⟩
def zG(h:f (vl env) β=.ok d β1)(q:Q (.rt d true β1)):WP (mJ f env β) Q:=⟨by unfold mJ;rw[h];exact q⟩
def jE{R:FR}(h:WP (m env β) λr=>fin r=R):fin (m env β)=R:=h.out
def lU{t:Tg}{fi:VF (List D)}{ds:List D}(I:Nat->En->Int->Prop)(hi:fi (vl env) β=.ok ds β1)(h0:I 0 (ba L env) β1)
  (hs:∀i d env β,ds[i]? =some d->I i env β->∃env1,fS t d env=some env1/\WP (m env1 β) λr=>∃env2 β2,r=.nx env2 β2/\I (i+1) env2 β2)
  (k:∀env β,I ds.length env β->WP (m' env β) Q):WP (aB (c3 t L fi m) m' env β) Q:=by
 obtain⟨env',β',e,h⟩:=eV I h0 λi d env β hd h=>by
  rw[Pk]at h
  let⟨env1,e1,⟨env2,β2,e2,h2⟩⟩:=hs i d env β hd h
  exact⟨env1,e1,env2,β2,e2,by rw[Pk];exact h2⟩
 rw[Pk]at h
 exact wp_seq ((eZ hi).trans e) (k _ _ h)
def qZ{n:Nat}(I:Nat->En->Int->Prop)(Dn:En->Int->Prop)(b:Nat)(hb:b<n)(h0:I b env β)
  (hs:∀k env β,I k env β->∃c β1,t (vl env) β=.ok c β1/\((c=false/\Dn (ba L env) β1)\/(c=true/\WP (m (ba L env) β1) λr=>∃env2 β2 k',r=.nx env2 β2/\k'<k/\I k' env2 β2)))
  (k:∀env β,Dn env β->WP (m' env β) Q):WP (aB (gk L t m n) m' env β) Q:=by
 obtain⟨env',β',e,h⟩:=kj I Dn hb h0 λk env β h=>by
  let⟨c,β1,e1,h⟩:=hs k env β h
  refine⟨c,β1,e1,?_⟩
  rcases h with h|⟨h1,⟨h2⟩⟩
  .exact .inl h
  .exact .inr ⟨h1,h2⟩
 exact wp_seq e (k _ _ h)
end
def Ei(c:Int)(hc:0<=c/\c<=100)(ns:List Int)(vs:List Nv)(β:Int)(h:gv 0 vs β=.ok (i6 ns) β):∃m:Nat,m<=101/\bF (f2 (cst (.int 1)) (f2 (f1 (gv 0) c5) (cst (.int c)) (yg λi j=>.int (if j<i then j else i))) (yg λi j=>.int (if j>i then j else i))) vs β=.ok (cV 0 m) β:=by
 have e1:f2 (cst (.int 1)) (f2 (f1 (gv 0) c5) (cst (.int c)) (yg λi j=>.int (if j<i then j else i))) (yg λi j=>.int (if j>i then j else i)) vs β=.ok (.int (if(if c<((ns.map int).length:Int)then c else((ns.map int).length:Int))>1 then(if c<((ns.map int).length:Int)then c else((ns.map int).length:Int))else 1)) β:=
  az rfl (az (cD h rfl) rfl rfl) rfl
 generalize((ns.map int).length:Nat)=k at e1
 refine⟨(if(if c<(k:Int)then c else(k:Int))>1 then(if c<(k:Int)then c else(k:Int))else 1).toNat,?_,cf (e1.trans ?_) ?_⟩
 .split<;>split<;>omega
 .congr 2
  split<;>split<;>omega
 .split<;>split<;>omega
def ES{n:Nat}{r:List Int}:(sortI r=bD n)↔r.Perm (bD n):=by
 constructor
 .intro h;rw[<-h];exact(sortI_perm r).symm
 .intro h;exact(rS h.symm ((zi n).imp λh=>Int.le_of_lt h)).symm
def CS{ds:List D}{k:Nat}(h:k<ds.length):∃d,ds[k]? =some d/\d∈ds/\jw ds (k:Int)=some d:=⟨ds[k],N8 h,Pz h,je (N8 h)⟩
def Lr{fa fb:VF D}{vs:List Nv}{β β1 β2:Int}{a b:List D}(h1:fa vs β=.ok (.list a) β1)(h2:fb vs β1=.ok (.list b) β2)(hz:a.length+b.length<=1000):f2 fa fb iK vs β=.ok (.list (a++b)) β2:=az h1 h2 (kg (by omega))
section
variable {m m' m1 m2:SF}{env env1:En}{β β1 β2 z:Int}{Q:SO->Prop}{f fa fb:VF D}{t:VF Bool}{d e:D}{L La Lb:List Nat}{i j:Nat}{c:Bool}
theorem FK(h:WP (m env β) λr=>(∀a b,r≠.nx a b)/\Q r):WP (aB m m' env β) Q:=by
 let⟨h1,h2⟩:=h.out
 refine⟨?_⟩
 unfold aB
 cases e:m env β with
 |nx a b=>exact absurd e (h1 a b)
 |_=>rw[e]at h2;exact h2
end
def Bo{α:Type}{own:Nat}{ixs:List Nat}{t:Tg}{fi:VF (List D)}{fe:VF D}{vs:List Nv}{β β1:Int}{ds:List D}(e:α->D)(P:α->Prop)(hi:fi vs β=.ok ds β1)(hz:ds.length<=1000)
  (h:∀d,d∈ds->∃vs1,sv t d (gO own ixs vs)=some vs1/\∀β,∃a β',fe vs1 β=.ok (e a) β'/\P a):∃(as:List α) (β':Int),aK own ixs t fi mC fe vs β=.ok (.list (as.map e)) β'/\as.length=ds.length/\∀a,a∈as->P a:=by
 obtain⟨as,β',ec,hl,hP⟩:=rD e P h
 refine⟨as,β',?_,hl,hP⟩
 unfold aK
 rw[hi]
 dsimp only[R.bnd]
 rw[Od (sz _ hz),ec];rfl
end RM
namespace TR
variable {V:Type}
structure Gr(E:V->V->Prop):Prop where
 sym:∀a b,E a b->E b a
 irr:∀a,¬E a a
def Fc(E:V->V->Prop)(p q:V×V):Prop:=E p.1 p.2/\E q.1 q.2/\((p.1=q.1/\¬E p.2 q.2)\/(p.2=q.2/\¬E p.1 q.1))
inductive Cl(E:V->V->Prop)(p:V×V):V×V->Prop
 |refl:E p.1 p.2->Cl E p p
 |step {q r:V×V}:Cl E p q->Fc E q r->Cl E p r
section
variable {E:V->V->Prop}
theorem Cl.tgt{p q:V×V}(h:Cl E p q):E q.1 q.2:=by
 cases h with
 |refl h=>exact h
 |step _ f=>exact f.2.1
def Fc.symm(G:Gr E){p q:V×V}(h:Fc E p q):Fc E q p:=by
 let⟨h1,h2,h3⟩:=h
 refine⟨h2,h1,?_⟩
 rcases h3 with⟨e,n⟩|⟨e,n⟩
 .exact .inl ⟨e.symm,λz=>n (G.sym _ _ z)⟩
 .exact .inr ⟨e.symm,λz=>n (G.sym _ _ z)⟩
theorem Cl.trans{p q r:V×V}(h:Cl E p q)(k:Cl E q r):Cl E p r:=by
 induction k with
 |refl _=>exact h
 |step _ f ih=>exact .step ih f
theorem Cl.symm(G:Gr E){p q:V×V}(h:Cl E p q):Cl E q p:=by
 induction h with
 |refl h=>exact .refl h
 |step k f ih=>exact(Cl.step (.refl f.2.1) (f.symm G)).trans ih
def Fc.rev(G:Gr E){p q:V×V}(h:Fc E p q):Fc E (p.2,p.1) (q.2,q.1):=by
 let⟨h1,h2,h3⟩:=h
 refine⟨G.sym _ _ h1,G.sym _ _ h2,?_⟩
 rcases h3 with h|h
 .exact .inr h
 .exact .inl h
theorem Cl.rev(G:Gr E){p q:V×V}(h:Cl E p q):Cl E (p.2,p.1) (q.2,q.1):=by
 induction h with
 |refl h=>exact .refl (G.sym _ _ h)
 |step k f ih=>exact .step ih (f.rev G)
theorem HS(G:Gr E){a b c:V}(hab:E a b)(hac:E a c)(nB:¬Cl E (b,c) (a,c))(nC:¬Cl E (b,c) (b,a)){q:V×V}(h:Cl E (b,c) q):Cl E (a,b) (a,q.1)/\Cl E (a,c) (a,q.2):=by
 induction h with
 |refl _=>exact⟨.refl hab,.refl hac⟩
 | @step q r k f ih=>
  let⟨i1,i2⟩:=ih
  let⟨q1,q2⟩:=q
  let⟨r1,r2⟩:=r
  let⟨f1,f2,f3⟩:=id f
  simp only at f1 f2 f3 i1 i2
  have kr:Cl E (b,c) (r1,r2):=.step k f
  rcases f3 with⟨rfl,n⟩|⟨rfl,n⟩
  .refine⟨i1,?_⟩
   have e:E a r2:=Classical.byContradiction λz=>nC ?_
   .exact .step i2 ⟨i2.tgt,e,.inl ⟨rfl,n⟩⟩
   .
    have x:Cl E (b,c) (q1,a):=.step kr ⟨f2,G.sym _ _ i1.tgt,.inl ⟨rfl,λy=>z (G.sym _ _ y)⟩⟩
    exact x.trans ((i1.rev G).symm G)
  .refine⟨?_,i2⟩
   have e:E a r1:=Classical.byContradiction λz=>nB ?_
   .exact .step i1 ⟨i1.tgt,e,.inl ⟨rfl,n⟩⟩
   .have x:Cl E (b,c) (a,q2):=.step kr ⟨f2,i2.tgt,.inr ⟨rfl,λy=>z (G.sym _ _ y)⟩⟩
    exact x.trans (i2.symm G)
def vh(G:Gr E){a b c:V}(hab:E a b)(hac:E a c)(nB:¬Cl E (b,c) (a,c))(nC:¬Cl E (b,c) (b,a)){q:V×V}(h:Cl E (b,c) q):q.1≠a/\q.2≠a:=by
 let⟨i1,i2⟩:=HS G hab hac nB nC h
 exact⟨λe=>G.irr a (by have:=i1.tgt;rw[e]at this;exact this),λe=>G.irr a (by have:=i2.tgt;rw[e]at this;exact this)⟩
def su(G:Gr E){p:V×V}(hn:¬Cl E p (p.2,p.1)){a b c:V}(h1:Cl E p (a,b))(h2:Cl E p (b,c)):Cl E p (a,c):=by
 have no:∀q,Cl E p q->¬Cl E p (q.2,q.1):=λq h k=>hn (k.trans ((h.rev G).symm G))
 have e:E a c:=Classical.byContradiction λz=>no _ h2 (.step h1 ⟨h1.tgt,G.sym _ _ h2.tgt,.inr ⟨rfl,z⟩⟩)
 refine Classical.byContradiction λz=>?_
 have nB:¬Cl E (b,c) (a,c):=λk=>z (h2.trans k)
 have nC:¬Cl E (b,c) (b,a):=λk=>no _ h1 (h2.trans k)
 exact(vh G h1.tgt e nB nC ((h2.symm G).trans h1)).1 rfl
def kX(E:V->V->Prop)(p:V×V)(a b:V):Prop:=E a b/\¬Cl E p (a,b)/\¬Cl E p (b,a)
def zP(G:Gr E)(p:V×V):Gr (kX E p):=⟨λa b h=>⟨G.sym _ _ h.1,h.2.2,h.2.1⟩,λa h=>G.irr a h.1⟩
def hW(G:Gr E){p:V×V}{q r:V×V}(h:Cl E q r)(hq:kX E p q.1 q.2):kX E p r.1 r.2:=by
 refine⟨h.tgt,λz=>hq.2.1 (z.trans (h.symm G)),λz=>hq.2.2 (z.trans ((h.rev G).symm G))⟩
def GJ(G:Gr E){p:V×V}{q r:V×V}(h:Fc E q r)(hq:kX E p q.1 q.2):Fc (kX E p) q r:=by
 have hr:kX E p r.1 r.2:=hW G (.step (.refl h.1) h) hq
 refine⟨hq,hr,?_⟩
 rcases h.2.2 with⟨e,n⟩|⟨e,n⟩
 .exact .inl ⟨e,λz=>n z.1⟩
 .exact .inr ⟨e,λz=>n z.1⟩
structure Mg(E:V->V->Prop)(p:V×V)(x y z:V):Prop where
 hy:kX E p x y
 hz:kX E p x z
 a:Cl E p (y,z)
 ne:¬Cl E (x,y) (x,z)
section
variable {p:V×V}{x y z:V}
def Mg.nB(m:Mg E p x y z):¬Cl E (y,z) (x,z):=λk=>m.hz.2.1 (m.a.trans k)
def Mg.nC(m:Mg E p x y z):¬Cl E (y,z) (y,x):=λk=>m.hy.2.2 (m.a.trans k)
def Mg.t1(G:Gr E)(m:Mg E p x y z){q:V×V}(h:Cl E p q):Cl E (x,y) (x,q.1)/\Cl E (x,z) (x,q.2):=HS G m.hy.1 m.hz.1 m.nB m.nC ((m.a.symm G).trans h)
def Mg.off(G:Gr E)(m:Mg E p x y z){q:V×V}(h:Cl E p q):q.1≠x/\q.2≠x:=vh G m.hy.1 m.hz.1 m.nB m.nC ((m.a.symm G).trans h)
def Mg.nB2(G:Gr E)(m:Mg E p x y z):¬Cl E (x,y) (z,y):=λk=>m.hy.2.2 (m.a.trans ((k.rev G).symm G))
def Mg.t2(G:Gr E)(m:Mg E p x y z){q:V×V}(h:Cl E (x,y) q):Cl E (z,x) (z,q.1)/\Cl E (z,y) (z,q.2):=HS G (G.sym _ _ m.hz.1) (G.sym _ _ m.a.tgt) (m.nB2 G) m.ne h
def Mg.offC(G:Gr E)(m:Mg E p x y z){q:V×V}(h:Cl E (x,y) q):q.1≠z/\q.2≠z:=vh G (G.sym _ _ m.hz.1) (G.sym _ _ m.a.tgt) (m.nB2 G) m.ne h
def Mg.t3(G:Gr E)(m:Mg E p x y z){q:V×V}(h:Cl E (x,z) q):Cl E (y,x) (y,q.1)/\Cl E (y,z) (y,q.2):=HS G (G.sym _ _ m.hy.1) m.a.tgt (λk=>m.hz.2.1 (m.a.trans (k.symm G))) (λk=>m.ne (k.symm G)) h
def Mg.likeC(G:Gr E)(m:Mg E p x y z){u v:V}(h:Cl E (x,y) (v,u)):Mg E p v u z:=by
 let⟨t1,t2⟩:=m.t2 G h
 have c1:Cl E (x,z) (v,z):=t1.rev G
 have c2:Cl E (y,z) (u,z):=t2.rev G
 exact⟨hW G h m.hy,hW G c1 m.hz,m.a.trans c2,λk=>m.ne ((h.trans k).trans (c1.symm G))⟩
def Mg.likeB(G:Gr E)(m:Mg E p x y z){u v:V}(h:Cl E (x,z) (v,u)):Mg E p v y u:=by
 let⟨t1,t2⟩:=m.t3 G h
 have c1:Cl E (x,y) (v,y):=t1.rev G
 exact⟨hW G c1 m.hy,hW G h m.hz,m.a.trans t2,λk=>m.ne ((c1.trans k).trans (h.symm G))⟩
def tR{q r:V×V}(h:Fc (kX E p) q r):Fc E q r\/(q.1=r.1/\(Cl E p (q.2,r.2)\/Cl E p (r.2,q.2)))\/(q.2=r.2/\(Cl E p (q.1,r.1)\/Cl E p (r.1,q.1))):=by
 let⟨h1,h2,h3⟩:=h
 rcases h3 with⟨e,n⟩|⟨e,n⟩
 .by_cases k:E q.2 r.2
  .refine .inr (.inl ⟨e,?_⟩)
   refine Classical.byContradiction λz=>n ⟨k,λa=>z (.inl a),λa=>z (.inr a)⟩
  .exact .inl ⟨h1.1,h2.1,.inl ⟨e,k⟩⟩
 .by_cases k:E q.1 r.1
  .refine .inr (.inr ⟨e,?_⟩)
   refine Classical.byContradiction λz=>n ⟨k,λa=>z (.inl a),λa=>z (.inr a)⟩
  .exact .inl ⟨h1.1,h2.1,.inr ⟨e,k⟩⟩
def Mg.closed(G:Gr E)(m:Mg E p x y z){q r:V×V}(h:Cl E (x,y) q\/Cl E (x,z) q)(f:Fc (kX E p) q r):Cl E (x,y) r\/Cl E (x,z) r:=by
 let⟨q1,q2⟩:=q
 let⟨r1,r2⟩:=r
 rcases tR f with k|⟨e,k⟩|⟨e,k⟩
 .exact h.imp (λh=>.step h k) λh=>.step h k
 .simp only at e k
  subst e
  rcases h with h|h<;>rcases k with k|k
  .
   let⟨s1,s2⟩:=m.t1 G k
   have m2:Mg E p x q2 r2:=⟨hW G s1 m.hy,hW G s2 m.hz,k,λc=>m.ne ((s1.trans c).trans (s2.symm G))⟩
   exact .inr (s2.trans ((m2.t2 G ((s1.symm G).trans h)).1.rev G))
  .exfalso
   have a1:Cl E p (q2,z):=m.a.trans ((m.t2 G h).2.rev G)
   exact m.ne ((m.t1 G a1).1.trans ((m.t1 G k).2.symm G))
  .exfalso
   have a1:Cl E p (y,q2):=m.a.trans (m.t3 G h).2
   exact m.ne ((m.t1 G k).1.trans ((m.t1 G a1).2.symm G))
  .let⟨s1,s2⟩:=m.t1 G k
   have m2:Mg E p x r2 q2:=⟨hW G s1 m.hy,hW G s2 m.hz,k,λc=>m.ne ((s1.trans c).trans (s2.symm G))⟩
   exact .inl (s1.trans ((m2.t3 G ((s2.symm G).trans h)).1.rev G))
 .simp only at e k
  subst e
  exfalso
  rcases h with h|h
  .have m2:=m.likeC G h
   rcases k with k|k
   .exact (m2.off G k).1 rfl
   .exact (m2.off G k).2 rfl
  .have m2:=m.likeB G h
   rcases k with k|k
   .exact (m2.off G k).1 rfl
   .exact (m2.off G k).2 rfl
def Mg.no(G:Gr E)(m:Mg E p x y z)(H:∀q,E q.1 q.2->¬Cl E q (q.2,q.1)){q:V×V}(h:Cl E (x,y) q\/Cl E (x,z) q):¬Cl (kX E p) q (q.2,q.1):=by
 intro k
 have all:∀r,Cl (kX E p) q r->Cl E (x,y) r\/Cl E (x,z) r:=λr c=>by
  induction c with
  |refl _=>exact h
  |step _ f ih=>exact m.closed G ih f
 have bad:Cl E (x,y) (z,x)->False:=λc=>(m.offC G c).1 rfl
 rcases h with h|h<;>rcases all _ k with c|c
 .exact H q h.tgt ((h.symm G).trans c)
 .exact bad (((c.trans ((h.rev G).symm G)).rev G).symm G)
 .exact bad (c.trans ((h.rev G).symm G))
 .exact H q h.tgt ((h.symm G).trans c)
end
def Fv(G:Gr E){p:V×V}(H:∀q,E q.1 q.2->¬Cl E q (q.2,q.1)){q:V×V}(hq:kX E p q.1 q.2):¬Cl (kX E p) q (q.2,q.1):=by
 intro k
 have G':=zP G p
 have all:∀r,Cl (kX E p) q r->Cl E q r:=λr c=>by
  induction c with
  |refl h=>exact .refl h.1
  | @step r s c f ih=>
   refine Classical.byContradiction λz=>?_
   have hr:=c.tgt
   have hs:=f.2.1
   let⟨r1,r2⟩:=r
   let⟨s1,s2⟩:=s
   have nrs:¬Cl E (r1,r2) (s1,s2):=λy=>z (ih.trans y)
   rcases tR f with g|⟨e,g⟩|⟨e,g⟩
   .exact z (.step ih g)
   .simp only at e g
    subst e
    rcases g with g|g
    .exact (Mg.mk hr hs g nrs).no G H (.inl (ih.symm G)) k
    .exact (Mg.mk hs hr g λy=>nrs (y.symm G)).no G H (.inr (ih.symm G)) k
   .simp only at e g
    subst e
    have k':Cl (kX E p) (q.2,q.1) q:=k.rev G'
    have ir:Cl E (q.2,q.1) (r2,r1):=ih.rev G
    have nrs':¬Cl E (r2,r1) (r2,s1):=λy=>nrs (y.rev G)
    rcases g with g|g
    .exact (Mg.mk (G'.sym _ _ hr) (G'.sym _ _ hs) g nrs').no G H (.inl (ir.symm G)) k'
    .exact (Mg.mk (G'.sym _ _ hs) (G'.sym _ _ hr) g λy=>nrs' (y.symm G)).no G H (.inr (ir.symm G)) k'
 exact H q hq.1 (all _ k)
inductive GZ:(V->V->Prop)->(V->V->Prop)->Prop
 |nil {E:V->V->Prop}:(∀a b,¬E a b)->GZ E λ_ _=>False
 |more {E T:V->V->Prop} {p:V×V}:E p.1 p.2->GZ (kX E p) T->GZ E λa b=>Cl E p (a,b)\/T a b
structure NN(E T:V->V->Prop):Prop where
 sub:∀a b,T a b->E a b
 one:∀a b,E a b->T a b\/T b a
 anti:∀a b,T a b->¬T b a
 tr:∀a b c,T a b->T b c->T a c
 cl:∀q r,T q.1 q.2->Fc E q r->T r.1 r.2
theorem Fd{E T:V->V->Prop}(h:GZ E T):Gr E->(∀q,E q.1 q.2->¬Cl E q (q.2,q.1))->NN E T:=by
 induction h with
 |nil n=>exact λG H=>⟨λ_ _ h=>h.elim,λa b h=>(n a b h).elim,λ_ _ h=>h.elim,λ_ _ _ h=>h.elim,λ_ _ h=>h.elim⟩
 | @more E T p hp hc ih=>
  intro G H
  have O:=ih (zP G p) λq hq=>Fv G H hq
  have hn:=H p hp
  have no:∀a b,Cl E p (a,b)->¬Cl E p (b,a):=λa b h k=>hn (k.trans ((h.rev G).symm G))
  have TL:∀a b,T a b->¬Cl E p (a,b)/\¬Cl E p (b,a):=λa b h=>(O.sub a b h).2
  refine⟨λa b h=>h.elim (λh=>h.tgt) λh=>(O.sub a b h).1,λa b h=>?_,λa b h k=>?_,λa b c h k=>?_,λq r h f=>?_⟩
  .by_cases c1:Cl E p (a,b)
   .exact .inl (.inl c1)
   by_cases c2:Cl E p (b,a)
   .exact .inr (.inl c2)
   .exact (O.one a b ⟨h,c1,c2⟩).imp .inr .inr
  .rcases h with h|h<;>rcases k with k|k
   .exact no a b h k
   .exact (TL b a k).2 h
   .exact (TL a b h).2 k
   .exact O.anti a b h k
  .rcases h with h|h<;>rcases k with k|k
   .exact .inl (su G hn h k)
   .have kE:=(O.sub b c k).1
    have e:E a c:=Classical.byContradiction λz=>(TL b c k).2 (.step h ⟨h.tgt,G.sym _ _ kE,.inr ⟨rfl,z⟩⟩)
    by_cases c1:Cl E p (a,c)
    .exact .inl c1
    by_cases c2:Cl E p (c,a)
    .exact ((TL b c k).2 (su G hn c2 h)).elim
    .rcases O.one a c ⟨e,c1,c2⟩with y|y
     .exact .inr y
     .exact ((TL b a (O.tr b c a k y)).2 h).elim
   .have hE:=(O.sub a b h).1
    have e:E a c:=Classical.byContradiction λz=>(TL a b h).2 (.step k ⟨k.tgt,G.sym _ _ hE,.inl ⟨rfl,λy=>z (G.sym _ _ y)⟩⟩)
    by_cases c1:Cl E p (a,c)
    .exact .inl c1
    by_cases c2:Cl E p (c,a)
    .exact ((TL a b h).2 (su G hn k c2)).elim
    .rcases O.one a c ⟨e,c1,c2⟩with y|y
     .exact .inr y
     .exact ((TL c b (O.tr c a b y h)).2 k).elim
   .exact .inr (O.tr a b c h k)
  .rcases h with h|h
   .exact .inl (.step h f)
   .exact .inr (O.cl q r h (GJ G f (O.sub _ _ h)))
end
end TR
namespace RM
open PySem L2
def cS(L:List (Pr×D)):D:=.dict (L.map λq=>(aq q.1,q.2))
abbrev Kf(ps:List Pr):List (Pr×D):=ps.map λp=>(p,PyData.bool true)
def dz(ps:List Pr):D:=cS (Kf ps)
def nR(ps:List Pr):(Kf ps).map (·.1)=ps:=by unfold Kf;rw[OX];simp[Function.comp_def]
def ng(L:List (Pr×D)):jy (L.map λq=>(aq q.1,q.2))=some L:=zJ L
theorem CA:∀L:List (Pr×D),Cg (L.map λq=>(aq q.1,q.2))=some (L.map (·.1))
 | []=>rfl
 |q::L=>by
  rw[OJ]
  show(Cg (L.map λq=>(aq q.1,q.2))).map _=_
  rw[CA L];rfl
def mz(neg:Bool)(p:Pr)(L:List (Pr×D)):mU neg (aq p) (cS L)=some (.bool (if neg then !decide (p∈L.map (·.1))else decide (p∈L.map (·.1)))):=by
 show(Cg (L.map λq=>(aq q.1,q.2))).map _=_
 rw[CA];rfl
def Aa(neg:Bool)(p:Pr)(ps:List Pr):mU neg (aq p) (dz ps)=some (.bool (if neg then !decide (p∈ps)else decide (p∈ps))):=by
 have:=mz neg p (Kf ps)
 rw[nR]at this;exact this
def DY(p:Pr):qp (aq p)=some p:=rfl
def C7(p:Pr)(L:List (Pr×D)):pK (cS L) (aq p)=ze L p:=by
 show(match jy (L.map λq=>(aq q.1,q.2)),qp (aq p)with|some L,some p=>ze L p|_,_=>none)=_
 rw[ng,DY]
def JY{L:List (Pr×D)}{p:Pr}{v:D}(h:p∉L.map (·.1))(h1:L.length<1000)(h0:0<L.length):putN (L.map λq=>(aq q.1,q.2)) (aq p) v=some ((L++[(p,v)]).map λq=>(aq q.1,q.2)):=by
 unfold putN
 rw[ng,DY]
 dsimp only
 have hn:ze L p=none:=by
  unfold ze
  rw[List.find?_eq_none.mpr]
  .rfl
  .intro q hq z
   exact h (Of.mpr ⟨q,hq,Pw z⟩)
 rw[Od ⟨by rw[hn];rfl,h1,h0⟩,OL];rfl
def Jx(L:List (Pr×D)):L7 (cS L)=some (.list ((L.map (·.1)).map aq)):=by
 show(jy (L.map λq=>(aq q.1,q.2))).map _=_
 rw[ng,QB,OX,OX];rfl
def uP{fa:VF D}{vs:List Nv}{β β1:Int}{L:List (Pr×D)}(h:fa vs β=.ok (cS L) β1):Gh fa vs β=.ok ((L.map (·.1)).map aq) β1:=by
 unfold Gh
 rw[h]
 show R.of ((jy (L.map λq=>(aq q.1,q.2))).map λ_=>(L.map λq=>(aq q.1,q.2)).map (·.1)) β1=_
 rw[ng,QB,OX,OX];rfl
def He{fa:VF D}{vs:List Nv}{β β1:Int}{L:List (Pr×D)}(h:fa vs β=.ok (cS L) β1):Hg fa vs β=.ok (!L.isEmpty) β1:=by
 unfold Hg
 rw[h]
 show R.of ((jy (L.map λq=>(aq q.1,q.2))).map λ_=> !(L.map λq=>(aq q.1,q.2)).isEmpty) β1=_
 rw[ng,QB]
 cases L<;>rfl
theorem DN:∀ps:List Pr,E3 (ps.map λp=>PyData.tuple [aq p,.bool true])=some (Kf ps)
 | []=>rfl
 |p::ps=>by
  rw[OJ]
  unfold E3
  rw[DN ps];rfl
theorem wt:∀{L acc:List (Pr×D)},((acc++L).map (·.1)).Nodup->L.foldl (λa x=>oG a x.1 x.2) acc=acc++L
 | [],acc,_=>by rw[QD];rfl
 |x::L,acc,h=>by
  rw[Qk]
  have e:oG acc x.1 x.2=acc++[x]:=by
   unfold oG
   rw[Oe]
   rw[Bool.not_eq_true,List.any_eq_false]
   intro y hy
   rw[OB]
   intro z
   rw[OL,PF]at h
   exact h.2.2 y.1 (Of.mpr ⟨y,hy,rfl⟩) x.1 (Of.mpr ⟨x,Ol ..,rfl⟩) z
  rw[e,wt (by rw[P5];exact h),P5];rfl
def wH{ps:List Pr}(nd:ps.Nodup):qP (.list (ps.map λp=>PyData.tuple [aq p,.bool true]))=some (dz ps):=by
 show(E3 (ps.map λp=>PyData.tuple [aq p,.bool true])).map _=_
 rw[DN,QB,wt (by rw[nil_append,nR];exact nd),nil_append];rfl
noncomputable def MR:List D->FR:=bc 1 1 (oj EE)
def Jw(n:Nat)(l:List Pr):(kW n l).Nodup:=OM.eN (AJ n l)
def MC{n:Nat}{l:List Pr}(O:OM.Ord n l):MR [aN n l]=.ok (dz (kW n l)) false:=by
 have hz:(kW n l).length<=64:=Fh O.hi
 refine jE (kJ (cD (β1:=0) (bX (λp=>PyData.tuple [aq p,.bool true]) ?_ (by omega) λp hp=>⟨[.da (aq p)],rfl,tp rfl⟩) (wH (Jw n l))) rfl)
 unfold bQ
 rw[aG rfl (G7 O)];rfl
structure Tb(n:Nat)(T:List Pr):Prop where
 lo:1<=n
 hi:n<=8
 ris:OM.uG T
 rg:∀p,p∈T->(0<=p.1/\p.1<n)/\(0<=p.2/\p.2<n)
 sym:∀a b,(a,b)∈T->(b,a)∈T
 irr:∀a,(a,a)∉T
abbrev ET(T:List Pr)(a b:Int):Prop:=(a,b)∈T
def Tb.gr{n:Nat}{T:List Pr}(t:Tb n T):TR.Gr (ET T):=⟨t.sym,t.irr⟩
def Tb.nd{n:Nat}{T:List Pr}(t:Tb n T):T.Nodup:=OM.eN t.ris
theorem oX:∀{q put:List Pr},q.Nodup->(∀x,x∈q->x∈put)->q.length<=put.length
 | [],_,_,_=>O2 _
 |x::q,put,nd,h=>by
  have nd:=OS.mp nd
  have hx:=h x (Ol ..)
  have:=oX (put:=put.erase x) nd.2 λy hy=>(List.mem_erase_of_ne (λe=>nd.1 (by rw[<-e];exact hy))).mpr (h y (Og _ hy))
  rw[QN hx]at this
  have:=List.length_pos_of_mem hx
  rw[ON];omega
def CZ{n:Nat}{q:List Pr}(h8:n<=8)(nd:q.Nodup)(h:∀p,p∈q->(0<=p.1/\p.1<n)/\(0<=p.2/\p.2<n)):q.length<=64:=Pf (oX nd λx hx=>OM.aY.mpr (h x hx)) (by rw[dv];exact Py h8 h8)
def Tb.len{n:Nat}{T:List Pr}(t:Tb n T):T.length<=64:=CZ t.hi t.nd t.rg
def qA{n:Nat}{l:List Pr}(O:OM.Ord n l):Tb n (kW n l):=by
 refine⟨O.lo,O.hi,AJ n l,λp h=>(gL.mp h).1,λa b h=>?_,λa h=>?_⟩
 .let⟨h1,h2⟩:=gL.mp h
  refine gL.mpr ⟨⟨h1.2,h1.1⟩,?_⟩
  unfold sO at *
  simp only[Oy,PU,Pj]at *
  exact⟨λz=>h2.1 z.symm,h2.2.2,h2.2.1⟩
 .have:=(gL.mp h).2
  unfold sO at this
  simp at this
def NS(T:List Pr)(p q:Pr):Bool:=decide ((p.1=q.1/\q.2≠p.2/\(p.2,q.2)∉T)\/(p.2=q.2/\q.1≠p.1/\(p.1,q.1)∉T))
def sI(T:List Pr)(p:Pr):List Pr:=T.filter (NS T p)
def nt{T:List Pr}{p q:Pr}:q∈sI T p↔q∈T/\((p.1=q.1/\q.2≠p.2/\(p.2,q.2)∉T)\/(p.2=q.2/\q.1≠p.1/\(p.1,q.1)∉T)):=by
 unfold sI NS
 rw[Oh,OB]
def HA{T:List Pr}{p q:Pr}(hp:p∈T)(h:q∈sI T p):TR.Fc (ET T) p q:=by
 let⟨h1,h2⟩:=nt.mp h
 exact⟨hp,h1,h2.imp (λh=>⟨h.1,h.2.2⟩) λh=>⟨h.1,h.2.2⟩⟩
def LA{T:List Pr}{p q:Pr}(h:TR.Fc (ET T) p q):q=p\/q∈sI T p:=by
 let⟨_,h2,h3⟩:=h
 let⟨p1,p2⟩:=p
 let⟨q1,q2⟩:=q
 rcases h3 with⟨e,n⟩|⟨e,n⟩
 .simp only at e n
  subst e
  by_cases c:q2=p2
  .exact .inl (by rw[c])
  .exact .inr (nt.mpr ⟨h2,.inl ⟨rfl,c,n⟩⟩)
 .simp only at e n
  subst e
  by_cases c:q1=p1
  .exact .inl (by rw[c])
  .exact .inr (nt.mpr ⟨h2,.inr ⟨rfl,c,n⟩⟩)
def nZ(n:Nat)(T:List Pr)(b:Int):List Int:=(bD n).filter λc=> !decide (c=b) && !decide (((b,c):Pr)∈T)
noncomputable def MS:List D->FR:=bc 8 3 i3
def C8{n:Nat}{T:List Pr}{b:Int}{i:Nat}{vs:List Nv}{β:Int}(h8:n<=8)(h1:gv 1 vs β=.ok (.int n) β)(hi:vs[i]? =some (.da (.int b)))(h0:vs[0]? =some (.da (dz T))):aK 1 [i,0] (.nm 0) (bF (gv 1)) (wB (cT (f2 (gv 0) (gv 1) (cz true))) (cT (f2 (bp (ab (gv 1) (ab (gv 0) ao))) (gv 2) (mU true)))) (gv 0) vs β=.ok (.list ((nZ n T b).map int)) β:=by
 have hb:gO 1 [i,0] vs= [.no,.da (.int b),.da (dz T)]:=by simp[gO,hi,h0]
 refine bW _ int ?_ (by rw[bL];omega) λc hc=>⟨[.da (.int c),.da (.int b),.da (dz T)],by rw[hb];rfl,nF (df rfl rfl) (bM _ _ _ _ (az (c4 rfl rfl) rfl (Aa true (b,c) T))),λ_=>rfl⟩
 rw[<-iH];exact cf h1 (by omega)
def nK{n:Nat}{T:List Pr}{b c:Int}:c∈nZ n T b↔(0<=c/\c<n)/\c≠b/\(b,c)∉T:=by
 unfold nZ
 rw[Oh,aE,Oy,PU,PU,Pj,Pj]
def tG(n:Nat)(T:List Pr)(p:Pr):List Pr:=((nZ n T p.2).map λc=>(p.1,c))++(nZ n T p.1).map λc=>(c,p.2)
def JF{n:Nat}{T:List Pr}{p:Pr}:(tG n T p).Nodup:=by
 have nd:∀b,(nZ n T b).Nodup:=λb=>(dX n).sublist Qu
 unfold tG
 rw[PF]
 refine⟨List.Pairwise.map _ (λa b h z=>h (by cases z;rfl)) (nd _),List.Pairwise.map _ (λa b h z=>h (by cases z;rfl)) (nd _),λx hx y hy z=>?_⟩
 obtain⟨c,hc,rfl⟩:=Of.mp hx
 obtain⟨e,he,rfl⟩:=Of.mp hy
 exact(nK.mp hc).2.1 (congrArg Prod.snd z)
def Gw{n:Nat}{T:List Pr}(t:Tb n T){p q:Pr}:(q∈tG n T p/\q∈T)↔q∈sI T p:=by
 rw[nt]
 unfold tG
 rw[Ox,Of,Of]
 constructor
 .rintro⟨h|h,ht⟩
  .obtain⟨c,hc,rfl⟩:=h
   let⟨_,h2,h3⟩:=nK.mp hc
   exact⟨ht,.inl ⟨rfl,h2,h3⟩⟩
  .obtain⟨c,hc,rfl⟩:=h
   let⟨_,h2,h3⟩:=nK.mp hc
   exact⟨ht,.inr ⟨rfl,h2,h3⟩⟩
 .rintro⟨ht,h⟩
  have hq:=t.rg q ht
  refine⟨?_,ht⟩
  rcases h with⟨e,h2,h3⟩|⟨e,h2,h3⟩
  .exact .inl ⟨q.2,nK.mpr ⟨hq.2,h2,h3⟩,by rw[e]⟩
  .exact .inr ⟨q.1,nK.mpr ⟨hq.1,h2,h3⟩,by rw[e]⟩
def GL{n:Nat}{T:List Pr}{p:Pr}(t:Tb n T):iY (.list (((tG n T p).filter λq=>decide (q∈T)).map aq))=some (.list ((sI T p).map aq)):=by
 have hm:∀q,q∈(tG n T p).filter (λq=>decide (q∈T))↔q∈sI T p:=λq=>by rw[Oh,OB,Gw t]
 have hw:∀q,q∈sI T p->q∈T:=λq h=>(nt.mp h).1
 rw[BJ t.lo t.hi (λq hq=>t.rg q (hw q ((hm q).mp hq))) (JF.sublist Qu) (λa ha=>t.irr a (hw _ ((hm _).mp ha)))]
 congr 3
 refine OM.dO (OM.cA _ _) (OM.bZ _ t.ris) λq=>?_
 rw[OM.aJ]
 rw[<-hm q]
 constructor
 .exact λh=>h.2
 .intro h
  have:=t.rg q (hw q ((hm q).mp h))
  have h8:=t.hi
  exact⟨⟨⟨this.1.1,by omega⟩,this.2.1,by omega⟩,h⟩
def M8{n:Nat}{T:List Pr}{p:Pr}(t:Tb n T):MS [dz T,.int n,aq p]=.ok (.list ((sI T p).map aq)) true:=by
 have h8:=t.hi
 refine jE ?_
 unfold i3
 have hsl:∀b,(nZ n T b).length<=8:=λb=>Pf (O6 ..) (by rw[bL];exact h8)
 have hfl:(tG n T p).length<=16:=by have h1:=hsl p.1;have h2:=hsl p.2;unfold tG;rw[OO,Ob,Ob];omega
 refine cj rfl (cj rfl (wp_at [.fz (dz T),.fz (.int n),.fz (aq p),.fz (.int p.1),.fz (.int p.2),.no,.no,.no] rfl ?_))
 refine cj (C8 h8 rfl rfl rfl) (wp_at [.fz (dz T),.fz (.int n),.fz (aq p),.fz (.int p.1),.fz (.int p.2),.fz (.list ((nZ n T p.2).map int)),.no,.no] rfl (cj (C8 h8 rfl rfl rfl) (wp_at [.fz (dz T),.fz (.int n),.fz (aq p),.fz (.int p.1),.fz (.int p.2),.fz (.list ((nZ n T p.2).map int)),.fz (.list ((nZ n T p.1).map int)),.no] rfl ?_)))
 have e1:=hsl p.1
 have e2:=hsl p.2
 have hf:((tG n T p).map aq)=((nZ n T p.2).map λc=>aq (p.1,c))++(nZ n T p.1).map λc=>aq (c,p.2):=by unfold tG;rw[OL,OX,OX];rfl
 have hsr:=GL t (p:=p)
 generalize nZ n T p.2=S at *
 generalize nZ n T p.1=S' at *
 refine cj (Lr (bX (λc=>aq (p.1,c)) rfl (by omega) λc hc=>⟨[.da (.int c),.da (.int p.1)],rfl,c4 rfl rfl⟩) (bX (λc=>aq (c,p.2)) rfl (by omega) λc hc=>⟨[.da (.int c),.da (.int p.2)],rfl,c4 rfl rfl⟩) (by rw[Ob,Ob];omega)) ?_
 rw[<-hf]
 exact zG (cD (bW (λq=>decide (q∈T)) aq rfl (by omega) λq hq=>⟨[.da (aq q),.da (dz T)],rfl,bM _ _ _ _ (az rfl rfl (Aa false q T)),λ_=>rfl⟩) hsr) rfl
def Ij:List D->FR:=bc 1 1 pI
def Iq(p:Pr):Ij [aq p]=.ok (aq (p.2,p.1)) false:=rfl
structure Cm(T:List Pr)(p:Pr)(L:List (Pr×D)):Prop where
 nd:(L.map (·.1)).Nodup
 tr:∀q,q∈L->q.1∈T
 fst:L[0]? =some (p,.none)
 bk:∀(i:Nat) q,0<i->L[i]? =some q->∃(j:Nat) (r:Pr×D),j<i/\L[j]? =some r/\q.2=aq r.1/\q.1∈sI T r.1
section
variable {n:Nat}{T:List Pr}{p:Pr}{L:List (Pr×D)}
def Cm.pos(c:Cm T p L):0<L.length:=(Ov.mp c.fst).1
def Cm.len(t:Tb n T)(c:Cm T p L):L.length<=64:=by
 have h1:(L.map (·.1)).length<=T.length:=oX c.nd λp hp=>by obtain⟨q,hq,rfl⟩:=Of.mp hp;exact c.tr q hq
 rw[Ob]at h1
 exact Pf h1 t.len
def Cm.one(h:p∈T):Cm T p [(p,.none)]:=
 ⟨by simp,λq hq=>by rw[OT]at hq;subst hq;exact h,rfl,λi q hi e=>by
  cases i with
  |zero=>omega
  |succ i=>simp at e⟩
def Cm.more{q:Pr}{r:Pr×D}{j:Nat}(c:Cm T p L)(h:q∈sI T r.1)(hn:q∉L.map (·.1))(hr:L[j]? =some r):Cm T p (L++[(q,aq r.1)]):=by
 have hj:j<L.length:=(Ov.mp hr).1
 refine⟨?_,λq hq=>?_,?_,λi q hi e=>?_⟩
 .rw[OL,PF]
  refine⟨c.nd,by simp,λa ha b hb=>?_⟩
  simp at hb
  subst hb
  exact λz=>hn (z▸ha)
 .rcases Ox.mp hq with hq|hq
  .exact c.tr q hq
  .rw[OT]at hq;subst hq;exact(nt.mp h).1
 .rw[OG c.pos];exact c.fst
 .by_cases z:i<L.length
  .rw[OG z]at e
   let⟨j',r',h1,h2,h3⟩:=c.bk i q hi e
   exact⟨j',r',h1,by rw[OG (by omega)];exact h2,h3⟩
  .rw[OV (by omega)]at e
   have:i-L.length=0:=by
    cases hq:i-L.length with
    |zero=>rfl
    |succ k=>rw[hq]at e;simp at e
   rw[this]at e
   simp at e
   subst e
   exact⟨j,r,by omega,by rw[OG hj];exact hr,rfl,h⟩
end
noncomputable def Em:List D->FR:=bc 8 3 (dJ MS)
abbrev fe(n:Nat)(T:List Pr)(p:Pr)(s3 s4 s5 s6 s7:Sl):En:=[.fz (dz T),.fz (.int n),.fz (aq p),s3,s4,s5,s6,s7]
def yk{L:List (Pr×D)}{q:Pr}(h:q∈L.map (·.1)):∃(j:Nat) (r:Pr×D),L[j]? =some r/\r.1=q:=by
 let⟨r,hr,e⟩:=Of.mp h
 let⟨j,hj⟩:=List.mem_iff_getElem?.mp hr
 exact⟨j,r,hj,e⟩
def Dn(T:List Pr)(L:List (Pr×D))(q:Pr):Prop:=∀r,r∈sI T q->r∈L.map (·.1)
def Dn.more{T:List Pr}{L:List (Pr×D)}{q:Pr}(h:Dn T L q)(x:Pr×D):Dn T (L++[x]) q:=λr hr=>by rw[OL];exact O7 _ (h r hr)
def HW{n:Nat}{T:List Pr}{p:Pr}(t:Tb n T)(hp:p∈T):∃(L:List (Pr×D)) (b:Bool),Em [dz T,.int n,aq p]=.ok (cS L) b/\Cm T p L/\∀q,q∈L.map (·.1)->Dn T L q:=by
 have h8:=t.hi
 suffices h:WP (dJ MS [.fz (dz T),.fz (.int n),.fz (aq p),.no,.no,.no,.no,.no] 0) λr=>∃(L:List (Pr×D)) (b:Bool),fin r=.ok (cS L) b/\Cm T p L/\∀q,q∈L.map (·.1)->Dn T L q from h.out
 unfold dJ
 refine ml rfl (wp_at (fe n T p (.ow (cS [(p,.none)])) .no .no .no .no) rfl (cj (lp (ac rfl an)) (wp_at (fe n T p (.ow (cS [(p,.none)])) (.fz (.list ([p].map aq))) .no .no .no) rfl ?_)))
 refine qZ (λk env b=>b=0/\∃(L:List (Pr×D)) (F:List Pr) (s5 s6 s7:Sl),env=fe n T p (.ow (cS L)) (.fz (.list (F.map aq))) s5 s6 s7/\Cm T p L/\(∀q,q∈F->q∈L.map (·.1))/\(∀q,q∈L.map (·.1)->q∈F\/Dn T L q)/\F.length<=64/\2*(65-L.length)+(if F= []then 0 else 1)<=k)
  (λenv b=>∃(L:List (Pr×D)) (s4 s5 s6 s7:Sl),env=fe n T p (.ow (cS L)) s4 s5 s6 s7/\Cm T p L/\∀q,q∈L.map (·.1)->Dn T L q) 131 (by omega)
  ⟨rfl,_,[p],.no,.no,.no,rfl,Cm.one hp,λq hq=>by simpa using hq,λq hq=>.inl (by simpa using hq),by simp,by simp⟩ ?_ ?_
 .rintro k env b ⟨rfl,L,F,s5,s6,s7,rfl,cm,hF,hD,hFl,hk⟩
  have tt:mD (gv 4) (vl (fe n T p (.ow (cS L)) (.fz (.list (F.map aq))) s5 s6 s7)) 0=.ok (!F.isEmpty) 0:=by
   cases F<;>rfl
  refine⟨_,_,tt,?_⟩
  by_cases hE:F= []
  .subst hE
   exact .inl ⟨rfl,L,_,_,_,_,rfl,cm,λq hq=>(hD q hq).elim (λz=>by cases z) id⟩
  refine .inr ⟨by cases F<;>first|exact absurd rfl hE|rfl,?_⟩
  refine ml (lp an) (wp_at (fe n T p (.ow (cS L)) (.fz (.list (F.map aq))) (.ow (.list (([]:List Pr).map aq))) s6 s7) rfl (lU (λi env b=>b=0/\∃(M:List (Pr×D)) (N:List Pr) (s6 s7:Sl),env=fe n T p (.ow (cS M)) (.fz (.list (F.map aq))) (.ow (.list (N.map aq))) s6 s7/\Cm T p M/\(∀q,q∈L.map (·.1)->q∈M.map (·.1))/\(∀q,q∈N->q∈M.map (·.1))/\(∀q,q∈M.map (·.1)->(q∈F/\q∉F.take i)\/q∈N\/Dn T M q)/\N.length+L.length=M.length) rfl ?_ ?_ ?_))
  .exact⟨rfl,L,[],s6,s7,rfl,cm,λq hq=>hq,(λq hq=>by cases hq),λq hq=>(hD q hq).elim (λz=>.inl ⟨z,by simp⟩) λz=>.inr (.inr z),by simp⟩
  .rintro i d env b hd ⟨rfl,M,N,s6,s7,rfl,cM,hL,hN,hM,hz⟩
   rw[Om]at hd
   cases hq:F[i]? with
   |none=>rw[hq]at hd;cases hd
   |some one=>
    rw[hq]at hd;cases hd
    have hone:one∈F:=Oi hq
    have hoM:one∈M.map (·.1):=hL one (hF one hone)
    refine⟨fe n T p (.ow (cS M)) (.fz (.list (F.map aq))) (.ow (.list (N.map aq))) (.fz (aq one)) s7,rfl,lP (lU (ds:=(sI T one).map aq) (λj env b=>b=0/\∃(M:List (Pr×D)) (N:List Pr) (s7:Sl),env=fe n T p (.ow (cS M)) (.fz (.list (F.map aq))) (.ow (.list (N.map aq))) (.fz (aq one)) s7/\Cm T p M/\(∀q,q∈L.map (·.1)->q∈M.map (·.1))/\(∀q,q∈N->q∈M.map (·.1))/\(∀q,q∈M.map (·.1)->(q∈F/\q∉F.take i)\/q∈N\/Dn T M q)/\N.length+L.length=M.length/\∀q,q∈(sI T one).take j->q∈M.map (·.1)) (β1:=0) ?_ ?_ ?_ ?_)⟩
    .unfold bQ
     rw[aG rfl (M8 t)];rfl
    .exact⟨rfl,M,N,s7,rfl,cM,hL,hN,hM,hz,λq hq=>by simp at hq⟩
    .rintro j d env b hd ⟨rfl,M,N,s7,rfl,cM,hL,hN,hM,hz,hj⟩
     rw[Om]at hd
     cases hq2:(sI T one)[j]? with
     |none=>rw[hq2]at hd;cases hd
     |some oth=>
      rw[hq2]at hd;cases hd
      have hoth:oth∈sI T one:=Oi hq2
      have hoM:one∈M.map (·.1):=hL one (hF one hone)
      refine⟨fe n T p (.ow (cS M)) (.fz (.list (F.map aq))) (.ow (.list (N.map aq))) (.fz (aq one)) (.fz (aq oth)),rfl,?_⟩
      have tk:∀q,q∈(sI T one).take (j+1)->q∈(sI T one).take j\/q=oth:=λq hq=>by
       rw[Pu,hq2]at hq
       rcases Ox.mp hq with h|h
       .exact .inl h
       .exact .inr (by simpa using h)
      have tc:=bM _ _ _ _ (az (fa:=gv 7) (fb:=gv 3) (vs:=vl (fe n T p (.ow (cS M)) (.fz (.list (F.map aq))) (.ow (.list (N.map aq))) (.fz (aq one)) (.fz (aq oth)))) (β2:=0) rfl rfl (mz true oth M))
      by_cases c:oth∈M.map (·.1)
      .rw[Ot c]at tc
       exact B7 tc (jn ⟨_,_,rfl,rfl,M,N,_,rfl,cM,hL,hN,hM,hz,λq hq=>(tk q hq).elim (hj q) λe=>e▸c⟩)
      .rw[Oz c]at tc
       refine K6 tc (wp_at (fe n T p (.ow (cS M)) (.fz (.list (F.map aq))) (.ow (.list (N.map aq))) (.fz (aq one)) (.fz (aq oth))) rfl ?_)
       let⟨jj,r,hr,er⟩:=yk hoM
       subst er
       have cM2:=cM.more hoth c hr
       have hlen:=cM.len t
       have hlen2:=cM2.len t
       rw[OO]at hlen2
       have ep:ER 3 [6] [] (gv 6) (gv 7) (fe n T p (.ow (cS M)) (.fz (.list (F.map aq))) (.ow (.list (N.map aq))) (.fz (aq r.1)) (.fz (aq oth))) 0=.nx (fe n T p (.ow (cS (M++[(oth,aq r.1)]))) (.fz (.list (F.map aq))) (.ow (.list (N.map aq))) (.fz (aq r.1)) (.fz (aq oth))) 0:=by
        show(match putN (M.map λq=>(aq q.1,q.2)) (aq oth) (aq r.1)with|some es=>_|none=>SO.bad)=_
        rw[JY c (by omega) cM.pos];rfl
       refine wp_seq ep (lP (yC rfl rfl rfl (by rw[Ob];simp at hlen2;omega) (jn ⟨_,_,rfl,rfl,M++[(oth,aq r.1)],N++[oth],.fz (aq oth),?_,cM2,?_,?_,?_,?_,?_⟩)))
       .rw[OL];rfl
       .intro q hq;rw[OL];exact O7 _ (hL q hq)
       .intro q hq
        rw[OL]
        rcases Ox.mp hq with h|h
        .exact O7 _ (hN q h)
        .exact OR _ (by simpa using h)
       .intro q hq
        rw[OL]at hq
        rcases Ox.mp hq with h|h
        .rcases hM q h with h|h|h
         .exact .inl h
         .exact .inr (.inl (O7 _ h))
         .exact .inr (.inr (h.more _))
        .exact .inr (.inl (OR _ (by simpa using h)))
       .rw[OO,OO];simp;omega
       .intro q hq
        rw[OL]
        rcases tk q hq with h|h
        .exact O7 _ (hj q h)
        .exact OR _ (by simp[h])
    .rintro env b ⟨rfl,M,N,s7,rfl,cM,hL,hN,hM,hz,hj⟩
     rw[Ob,QR]at hj
     refine jn ⟨_,_,rfl,rfl,M,N,_,s7,rfl,cM,hL,hN,λq hq=>?_,hz⟩
     by_cases e:q=one
     .subst e;exact .inr (.inr hj)
     .refine (hM q hq).imp (λh=>⟨h.1,λz=>h.2 ?_⟩) id
      rw[Pu,Ox]at z
      rcases z with z|z
      .exact z
      .rw[show F[i]? =some one from by assumption]at z;simp at z;exact absurd z e
  .rintro env b ⟨rfl,M,N,s6,s7,rfl,cM,hL,hN,hM,hz⟩
   have hlen:=cM.len t
   rw[Ob,QR]at hM
   refine lP (cj rfl (jn ⟨_,_,2*(65-M.length)+(if N= []then 0 else 1),rfl,?_,rfl,M,N,_,s6,s7,rfl,cM,hN,λq hq=>?_,by omega,Oc _⟩))
   .rw[Oe hE]at hk
    have hL1:=cm.len t
    by_cases hN0:N= []
    .subst hN0
     simp at hz ⊢
     omega
    .have:0<N.length:=List.length_pos_iff.mpr hN0
     rw[Oe hN0]
     omega
   .rcases hM q hq with h|h|h
    .exact absurd h.1 h.2
    .exact .inl h
    .exact .inr h
 .rintro env b ⟨L,s4,s5,s6,s7,rfl,cm,hD⟩
  exact⟨L,true,rfl,cm,hD⟩
section
variable {m m':SF}{env:En}{β β1:Int}{Q:SO->Prop}{L:List Nat}
def Gf{t:Tg}{fi:VF (List D)}{ds:List D}(I:Nat->En->Int->Prop)(hi:fi (vl env) β=.ok ds β1)(h0:I 0 (ba L env) β1)
  (hs:∀i d env β,ds[i]? =some d->I i env β->∃env1,fS t d env=some env1/\WP (m env1 β) λs=>(∃v b β2,s=.rt v b β2/\Q s)\/∃env2 β2,s=.nx env2 β2/\I (i+1) env2 β2)
  (k:∀env β,I ds.length env β->WP (m' env β) Q):WP (aB (c3 t L fi m) m' env β) Q:=by
 have key:∀(k i:Nat),i+k=ds.length->∀env β,I i env β->(∃v b β2,nr t m (ds.drop i) env β=.rt v b β2/\Q (.rt v b β2))\/∃env2 β2,nr t m (ds.drop i) env β=.nx env2 β2/\I ds.length env2 β2:=by
  intro k
  induction k with
  |zero=>
   intro i hik env β h
   have:i=ds.length:=by omega
   subst this
   exact .inr ⟨env,β,by rw[List.drop_length];rfl,h⟩
  |succ k ih=>
   intro i hik env β h
   have hlt:i<ds.length:=by omega
   let⟨env1,e1,⟨h1⟩⟩:=hs i ds[i] env β (N8 hlt) h
   rw[Rm hlt]
   rcases h1 with⟨v,b,β2,e2,q⟩|⟨env2,β2,e2,h2⟩
   .refine .inl ⟨v,b,β2,?_,e2▸q⟩
    unfold nr;rw[e1];dsimp only;rw[e2]
   .have e3:nr t m (ds[i]::ds.drop (i+1)) env β=nr t m (ds.drop (i+1)) env2 β2:=by conv=>lhs;unfold nr;rw[e1];dsimp only;rw[e2]
    rw[e3]
    exact ih (i+1) (by omega) env2 β2 h2
 rcases key ds.length 0 (by omega) _ _ h0 with⟨v,b,β2,e,q⟩|⟨env2,β2,e,h⟩
 .rw[drop_zero]at e
  refine FK ⟨?_,?_⟩
  .intro a c z
   rw[eZ hi,e]at z;cases z
  .rw[eZ hi,e];exact q
 .rw[drop_zero]at e
  exact wp_seq ((eZ hi).trans e) (k _ _ h)
end
section
variable {n:Nat}{T:List Pr}{p:Pr}{L:List (Pr×D)}
def Cm.cl(t:Tb n T)(c:Cm T p L)(hD:∀q,q∈L.map (·.1)->Dn T L q)(q:Pr):q∈L.map (·.1)↔TR.Cl (ET T) p q:=by
 have hpT:p∈T:=c.tr _ (Oi c.fst)
 constructor
 .intro h
  obtain⟨i,r,hi,rfl⟩:=yk h
  have key:∀(k i:Nat) (r:Pr×D),i<=k->L[i]? =some r->TR.Cl (ET T) p r.1:=by
   intro k
   induction k with
   |zero=>
    intro i r hk hi
    have:i=0:=by omega
    subst this
    rw[c.fst]at hi;cases hi
    exact .refl hpT
   |succ k ih=>
    intro i r hk hi
    cases i with
    |zero=>rw[c.fst]at hi;cases hi;exact .refl hpT
    |succ i=>
     let⟨j,s,hj,hs,_,hd⟩:=c.bk (i+1) r (by omega) hi
     exact .step (ih j s (by omega) hs) (HA (c.tr _ (Oi hs)) hd)
  exact key i i r (Oc _) hi
 .intro h
  induction h with
  |refl _=>exact Of.mpr ⟨_,Oi c.fst,rfl⟩
  |step _ f ih=>
   rcases LA f with e|e
   .rw[e];exact ih
   .exact hD _ ih _ e
end
theorem HC:∀{L:List (Pr×D)} {i:Nat} {q:Pr×D},(L.map (·.1)).Nodup->L[i]? =some q->ze L q.1=some q.2
 | [],i,q,_,e=>by simp at e
 |x::L,0,q,_,e=>by simp at e;subst e;simp[ze]
 |x::L,i+1,q,nd,e=>by
  rw[OJ,OS]at nd
  have e:L[i]? =some q:=by simpa using e
  have hne:x.1≠q.1:=λz=>nd.1 (Of.mpr ⟨q,Oi e,z.symm⟩)
  have:=HC nd.2 e
  unfold ze at this ⊢
  rw[Ql,Oz hne];exact this
structure FT(T:List Pr)(p q:Pr)(ps:List Pr):Prop where
 st:ps[0]? =some p
 en:ps[ps.length-1]? =some q
 tr:∀x,x∈ps->x∈T
 go:∀(i:Nat) a b,ps[i]? =some a->ps[i+1]? =some b->b∈sI T a
def MW:List D->FR:=bc 3 2 l5
def Hb{R:List Pr}{a:Pr}:jw ((R++[a]).map aq) (-1)=some (aq a):=by
 rw[dm]
 have e:jw (R++[a]) (-1)=(R++[a])[R.length]?:=by
  unfold jw AW
  rw[Oe (by omega),Od (by simp;omega),show(-1+((R++[a]).length:Int)).toNat=R.length by simp;omega];rfl
 rw[e]
 simp
def Jj{n:Nat}{T:List Pr}{p q:Pr}{L:List (Pr×D)}(t:Tb n T)(c:Cm T p L)(hq:q∈L.map (·.1)):∃ps:List Pr,MW [cS L,aq q]=.ok (.list (ps.map aq)) true/\FT T p q ps/\ps.length<=64:=by
 have hL:=c.len t
 obtain⟨i0,q0,hi0,rfl⟩:=yk hq
 have hi0l:=(Ov.mp hi0).1
 suffices h:WP (l5 [.fz (cS L),.fz (aq q0.1),.no] 0) λr=>∃ps:List Pr,fin r=.ok (.list (ps.map aq)) true/\FT T p q0.1 ps/\ps.length<=64 from h.out
 unfold l5
 refine ml (lp (ac rfl an)) (wp_at [.fz (cS L),.fz (aq q0.1),.ow (.list (([]++[q0.1]).map aq))] rfl ?_)
 refine qZ (λk env b=>b=0/\∃(r:Pr×D) (R:List Pr),env= [.fz (cS L),.fz (aq q0.1),.ow (.list ((R++[r.1]).map aq))]/\L[k]? =some r/\R.length+k<=63/\(∀x,x∈R++[r.1]->x∈T)/\(R++[r.1])[0]? =some q0.1/\∀(i:Nat) a b,(R++[r.1])[i]? =some a->(R++[r.1])[i+1]? =some b->a∈sI T b)
  (λenv b=>b=0/\∃R:List Pr,env= [.fz (cS L),.fz (aq q0.1),.ow (.list ((R++[p]).map aq))]/\R.length<=63/\(∀x,x∈R++[p]->x∈T)/\(R++[p])[0]? =some q0.1/\∀(i:Nat) a b,(R++[p])[i]? =some a->(R++[p])[i+1]? =some b->a∈sI T b) i0 (by omega)
  ⟨rfl,q0,[],rfl,hi0,by simp;omega,λx hx=>by simp at hx;subst hx;exact c.tr _ (Oi hi0),rfl,λi a b h1 h2=>by simp at h2⟩ ?_ ?_
 .rintro k env b ⟨rfl,r,R,rfl,hr,hz,hT,h0,hg⟩
  have hget:f2 (gv 0) (f2 (gv 2) (f1 (cst (.int 1)) yX) bK) pK (vl [.fz (cS L),.fz (aq q0.1),.ow (.list ((R++[r.1]).map aq))]) 0=.ok r.2 0:=az rfl (az rfl rfl Hb) (by rw[C7];exact HC c.nd hr)
  have tn:tN (f2 (gv 0) (f2 (gv 2) (f1 (cst (.int 1)) yX) bK) pK) true (vl [.fz (cS L),.fz (aq q0.1),.ow (.list ((R++[r.1]).map aq))]) 0=.ok (!yH r.2) 0:=by rw[LR,hget];rfl
  refine⟨_,_,tn,?_⟩
  cases k with
  |zero=>
   rw[c.fst]at hr
   cases hr
   exact .inl ⟨rfl,rfl,R,rfl,by omega,hT,h0,hg⟩
  |succ k=>
   let⟨j,s,hj,hs,e,hd⟩:=c.bk (k+1) r (by omega) hr
   rw[e]at hget ⊢
   refine .inr ⟨rfl,?_⟩
   refine lP (yC rfl hget rfl (by rw[Ob,OO];simp;omega) (jn ⟨_,_,j,rfl,by omega,rfl,s,R++[r.1],?_,hs,by rw[OO];simp;omega,λx hx=>?_,?_,λi a b h1 h2=>?_⟩))
   .rw[OL (l₁:=R++[r.1])];rfl
   .rcases Ox.mp hx with h|h
    .exact hT x h
    .simp at h;subst h;exact c.tr _ (Oi hs)
   .rw[OG (by simp)];exact h0
   .have hb:=(Ov.mp h2).1
    rw[OO]at hb
    by_cases z:i+1<(R++[r.1]).length
    .rw[OG z]at h2
     rw[OG (by omega)]at h1
     exact hg i a b h1 h2
    .have hi:i+1=(R++[r.1]).length:=by simp at hb z ⊢;omega
     rw[OV (by omega)]at h2
     rw[hi]at h2
     simp at h2
     rw[OG (by omega),OV (by simp at hi;omega)]at h1
     have:i-R.length=0:=by simp at hi;omega
     rw[this]at h1
     simp at h1
     subst h1 h2
     exact hd
 .rintro env b ⟨rfl,R,rfl,hz,hT,h0,hg⟩
  have hl:(R++[p]).length=R.length+1:=by simp
  refine zG (cD rfl (by show some (PyData.list ((R++[p]).map aq).reverse)=_;rw[List.map_reverse])) ⟨(R++[p]).reverse,rfl,⟨by simp,?_,λx hx=>hT x (List.mem_reverse.mp hx),λi a b h1 h2=>?_⟩,by rw[Qv];omega⟩
  .rw[Q7 (by rw[Qv];omega),Qv]
   rw[show(R++[p]).length-1-((R++[p]).length-1)=0 by omega];exact h0
  .have l2:=(Ov.mp h2).1
   rw[Qv]at l2
   rw[Q7 (by omega)]at h1 h2
   refine hg ((R++[p]).length-1-(i+1)) b a h2 ?_
   rw[show(R++[p]).length-1-(i+1)+1=(R++[p]).length-1-i by omega];exact h1
def ur(acc:List (Pr×D))(p:Pr)(d:D):(oG acc p d).map (·.1)=if p∈acc.map (·.1)then acc.map (·.1)else acc.map (·.1)++[p]:=by
 unfold oG
 by_cases c:p∈acc.map (·.1)
 .rw[Od,Od c,OX]
  .refine PD λx _=>?_
   show(if x.1=p then(x.1,d)else x).1=x.1
   split<;>rfl
  .let⟨x,hx,e⟩:=Of.mp c
   exact List.any_eq_true.mpr ⟨x,hx,Ot e⟩
 .rw[Oe,Oe c,OL]
  .rfl
  .rw[List.any_eq_true]
   rintro⟨x,hx,e⟩
   exact c (Of.mpr ⟨x,hx,Pw e⟩)
abbrev qW(S C:List (Pr×D)):List (Pr×D):=C.foldl (λa x=>oG a x.1 x.2) S
theorem mh{q:Pr}:∀{C S:List (Pr×D)},q∈(qW S C).map (·.1)↔q∈S.map (·.1)\/q∈C.map (·.1)
 | [],S=>by simp
 |x::C,S=>by
  show q∈(qW (oG S x.1 x.2) C).map (·.1)↔_
  rw[mh,ur,OJ,Oo]
  split
  ·rename_i h
   constructor
   ·rintro(z|z)
    ·exact .inl z
    ·exact .inr (.inr z)
   ·rintro(z|rfl|z)
    ·exact .inl z
    ·exact .inl h
    ·exact .inr z
  ·rw[Ox,OT,or_assoc]
theorem yf:∀{C S:List (Pr×D)},(S.map (·.1)).Nodup->((qW S C).map (·.1)).Nodup
 | [],S,h=>h
 |x::C,S,h=>by
  refine yf (C:=C) ?_
  rw[ur]
  split
  ·exact h
  ·rename_i hn
   rw[PF]
   exact⟨h,by simp,λa ha b hb e=>hn (by simp at hb;rw[<-hb,<-e];exact ha)⟩
def AQ{S C:List (Pr×D)}(hC:∀q,q∈C.map (·.1)->(0<=q.1/\q.1<8)/\(0<=q.2/\q.2<8))(h0:C≠ [])(hz:S.length+C.length<1000):uY (S.map λq=>(aq q.1,q.2)) (cS C)=some ((qW S C).map λq=>(aq q.1,q.2)):=by
 have ha:(C.all λx=>Ie x.1)=true:=Pa.mpr λx hx=>by
  have:=hC x.1 (Of.mpr ⟨x,hx,rfl⟩)
  unfold Ie
  simp only[Oy,OB]
  exact⟨⟨this.1.1,this.1.2⟩,this.2.1,this.2.2⟩
 unfold cS uY
 dsimp only
 rw[ng,ng]
 dsimp only
 rw[Od ⟨ha,h0,hz⟩];rfl
section
variable {n:Nat}{T:List Pr}{p:Pr}{L:List (Pr×D)}
def Cm.sm(t:Tb n T)(c:Cm T p L)(q:Pr)(hq:q∈L.map (·.1)):(0<=q.1/\q.1<8)/\(0<=q.2/\q.2<8):=by
 obtain⟨r,hr,rfl⟩:=Of.mp hq
 have:=t.rg _ (c.tr r hr)
 have h8:=t.hi
 omega
def Cm.ne(c:Cm T p L):L≠ []:=List.length_pos_iff.mp c.pos
end
noncomputable def Mi:List D->FR:=bc 5 2 (i9 Em Ij MW)
def Mr(T:List Pr):Prop:=∀q,q∈T->¬TR.Cl (ET T) q (q.2,q.1)
abbrev ke(n:Nat)(T:List Pr)(s2 s3 s4:Sl):En:=[.fz (dz T),.fz (.int n),s2,s3,s4]
def Nu{n:Nat}{T:List Pr}(t:Tb n T):(∃(p:Pr) (ps:List Pr),Mi [dz T,.int n]=.ok (.list (ps.map aq)) false/\FT T p (p.2,p.1) ps/\ps.length<=64)\/(Mi [dz T,.int n]=.ok .none false/\Mr T):=by
 have h8:=t.hi
 suffices h:WP (i9 Em Ij MW [.fz (dz T),.fz (.int n),.no,.no,.no] 0) λr=>(∃(p:Pr) (ps:List Pr),fin r=.ok (.list (ps.map aq)) false/\FT T p (p.2,p.1) ps/\ps.length<=64)\/(fin r=.ok .none false/\Mr T)from h.out
 unfold i9
 refine ml rfl (wp_at (ke n T (.ow (cS [])) .no .no) rfl (Gf (ds:=T.map aq) (λi env b=>b=0/\∃(S:List (Pr×D)) (s3 s4:Sl),env=ke n T (.ow (cS S)) s3 s4/\(S.map (·.1)).Nodup/\(∀q,q∈S.map (·.1)->q∈T/\¬TR.Cl (ET T) q (q.2,q.1))/\∀q,q∈T.take i->q∈S.map (·.1)) (β1:=0) ?_ ?_ ?_ ?_))
 .have:=uP (fa:=gv 0) (vs:=vl (ke n T (.ow (cS [])) .no .no)) (β1:=0) rfl
  rw[nR]at this;exact this
 .exact⟨rfl,[],.no,.no,rfl,by simp,(λq hq=>by cases hq),λq hq=>by simp at hq⟩
 .rintro i d env b hd ⟨rfl,S,s3,s4,rfl,nd,hS,hi⟩
  rw[Om]at hd
  cases hq:T[i]? with
  |none=>rw[hq]at hd;cases hd
  |some p=>
   rw[hq]at hd;cases hd
   have hp:p∈T:=Oi hq
   have tk:∀q,q∈T.take (i+1)->q∈T.take i\/q=p:=λq h=>by
    rw[Pu,hq]at h
    rcases Ox.mp h with h|h
    .exact .inl h
    .exact .inr (by simpa using h)
   have hSl:S.length<=64:=by
    have:=oX nd λx hx=>(hS x hx).1
    rw[Ob]at this
    exact Pf this t.len
   refine⟨ke n T (.ow (cS S)) (.fz (aq p)) s4,rfl,?_⟩
   have t1:=bM _ _ _ _ (az (fa:=gv 3) (fb:=gv 2) (vs:=vl (ke n T (.ow (cS S)) (.fz (aq p)) s4)) (β2:=0) rfl rfl (mz true p S))
   by_cases c:p∈S.map (·.1)
   .rw[Ot c]at t1
    exact B7 t1 (jn (.inr ⟨_,_,rfl,rfl,S,_,_,rfl,nd,hS,λq h=>(tk q h).elim (hi q) λe=>e▸c⟩))
   rw[Oz c]at t1
   refine K6 t1 (wp_at (ke n T (.ow (cS S)) (.fz (aq p)) s4) rfl ?_)
   let⟨L,bb,eL,cm,hD⟩:=HW t hp
   have hcl:=cm.cl t hD
   refine cj (aG rfl eL) (wp_at (ke n T (.ow (cS S)) (.fz (aq p)) (.fz (cS L))) rfl ?_)
   have t2:=bM _ _ _ _ (az (fa:=aA Ij (ab (gv 3) ao)) (fb:=gv 4) (vs:=vl (ke n T (.ow (cS S)) (.fz (aq p)) (.fz (cS L)))) (β2:=0) (aG rfl (Iq p)) rfl (mz false (p.2,p.1) L))
   by_cases c2:(p.2,p.1)∈L.map (·.1)
   .rw[Ot c2]at t2
    let⟨ps,ep,hps,hl⟩:=Jj t cm c2
    refine qc t2 (qg (aG (ac rfl (ac (aG rfl (Iq p)) an)) ep) (.inl ⟨_,_,_,rfl,.inl ⟨p,ps,rfl,hps,hl⟩⟩))
   .rw[Oz c2]at t2
    refine iq t2 (wp_at (ke n T (.ow (cS S)) (.fz (aq p)) (.fz (cS L))) rfl ?_)
    have hLl:=cm.len t
    have eu:Bc 2 [4] (gv 4) (ke n T (.ow (cS S)) (.fz (aq p)) (.fz (cS L))) 0=.nx (ke n T (.ow (cS (qW S L))) (.fz (aq p)) (.fz (cS L))) 0:=by
     show(match uY (S.map λq=>(aq q.1,q.2)) (cS L)with|some es=>_|none=>SO.bad)=_
     rw[AQ (cm.sm t) cm.ne (by omega)];rfl
    have no:∀q,TR.Cl (ET T) p q->¬TR.Cl (ET T) q (q.2,q.1):=λq h k=>c2 ((hcl _).mpr ((h.trans k).trans ((h.rev t.gr).symm t.gr)))
    refine⟨.inr ⟨_,_,eu,rfl,qW S L,_,_,rfl,yf nd,λq h=>?_,λq h=>?_⟩⟩
    .rcases mh.mp h with h|h
     .exact hS q h
     .obtain⟨r,hr,rfl⟩:=Of.mp h
      exact⟨cm.tr r hr,no _ ((hcl _).mp h)⟩
    .rcases tk q h with h|rfl
     .exact mh.mpr (.inl (hi q h))
     .exact mh.mpr (.inr ((hcl _).mpr (.refl hp)))
 .rintro env b ⟨rfl,S,s3,s4,rfl,nd,hS,hi⟩
  rw[Ob,QR]at hi
  exact kJ rfl (.inr ⟨rfl,λq h=>(hS q (hi q h)).2⟩)
noncomputable def MM:List D->FR:=bc 5 2 (fN Em Ij)
abbrev ce(n:Nat)(T:List Pr)(s2 s3 s4:Sl):En:=[.fz (dz T),.fz (.int n),s2,s3,s4]
def kp(C:List (Pr×D))(q:Pr):Bool:= !decide (q∈C.map (·.1)) && !decide ((q.2,q.1)∈C.map (·.1))
def AO{C:List (Pr×D)}{q:Pr}:kp C q=true↔q∉C.map (·.1)/\(q.2,q.1)∉C.map (·.1):=by
 unfold kp
 rw[Oy,PU,PU,Pj,Pj]
def FN{n:Nat}{U:List Pr}{C:List (Pr×D)}(t:Tb n U):Tb n (U.filter (kp C)):=by
 refine⟨t.lo,t.hi,OM.bZ _ t.ris,λp h=>t.rg p (Oh.mp h).1,λa b h=>?_,λa h=>t.irr a (Oh.mp h).1⟩
 let⟨h1,h2⟩:=Oh.mp h
 rw[AO]at h2
 exact Oh.mpr ⟨t.sym a b h1,AO.mpr ⟨h2.2,h2.1⟩⟩
def Mo{n:Nat}{T:List Pr}(t:Tb n T):∃(S:List (Pr×D)) (b:Bool),MM [dz T,.int n]=.ok (cS S) b/\(S.map (·.1)).Nodup/\(∀q,q∈S.map (·.1)->q∈T)/\TR.GZ (ET T) λa b=>(a,b)∈S.map (·.1):=by
 have h8:=t.hi
 suffices h:WP (fN Em Ij [.fz (dz T),.fz (.int n),.no,.no,.no] 0) λr=>∃(S:List (Pr×D)) (b:Bool),fin r=.ok (cS S) b/\(S.map (·.1)).Nodup/\(∀q,q∈S.map (·.1)->q∈T)/\TR.GZ (ET T) λa b=>(a,b)∈S.map (·.1)from h.out
 unfold fN
 refine ml rfl (wp_at (ce n T (.ow (cS [])) .no .no) rfl (cj rfl (wp_at (ce n T (.ow (cS [])) (.fz (dz T)) .no) rfl ?_)))
 refine qZ (λk env b=>b=0/\∃(S:List (Pr×D)) (U:List Pr) (s4:Sl),env=ce n T (.ow (cS S)) (.fz (dz U)) s4/\Tb n U/\(S.map (·.1)).Nodup/\(∀q,q∈S.map (·.1)->q∈T)/\(∀q,q∈U->q∈T)/\(∀X,TR.GZ (ET U) X->TR.GZ (ET T) λa b=>(a,b)∈S.map (·.1)\/X a b)/\U.length<=k)
  (λenv b=>∃(S:List (Pr×D)) (s3 s4:Sl),env=ce n T (.ow (cS S)) s3 s4/\(S.map (·.1)).Nodup/\(∀q,q∈S.map (·.1)->q∈T)/\TR.GZ (ET T) λa b=>(a,b)∈S.map (·.1)) 64 (by omega)
  ⟨rfl,[],T,.no,rfl,t,by simp,(λq h=>by cases h),λq h=>h,λX h=>by simpa using h,t.len⟩ ?_ ?_
 .rintro k env b ⟨rfl,S,U,s4,rfl,tU,nd,hS,hU,hc,hk⟩
  have tt:=He (fa:=gv 3) (vs:=vl (ce n T (.ow (cS S)) (.fz (dz U)) s4)) (β1:=0) rfl
  refine⟨_,_,tt,?_⟩
  cases hE:U with
  |nil=>
   subst hE
   refine .inl ⟨rfl,S,_,_,rfl,nd,hS,?_⟩
   have:=hc _ (.nil λa b h=>by cases h)
   simpa using this
  |cons p V=>
   rw[<-hE]
   have hp:p∈U:=by rw[hE];exact Ol ..
   refine .inr ⟨by rw[hE];rfl,?_⟩
   let⟨L,bb,eL,cm,hD⟩:=HW tU hp
   have hcl:=cm.cl tU hD
   have hLl:=cm.len tU
   have hSl:S.length<=64:=by
    have:=oX nd λx hx=>hS x hx
    rw[Ob]at this
    exact Pf this t.len
   have e0:f2 (f1 (gv 3) L7) (cst (.int 0)) bK (vl (ce n T (.ow (cS S)) (.fz (dz U)) s4)) 0=.ok (aq p) 0:=by
    refine az (x:=.list (U.map aq)) (cD rfl ?_) rfl ?_
    .have:=Jx (Kf U)
     rw[nR]at this;exact this
    .show jw (U.map aq) ((0:Nat):Int)=_
     rw[dm,je (by rw[hE];rfl)];rfl
   refine cj (aG (ac rfl (ac rfl (ac e0 an))) eL) (wp_at (ce n T (.ow (cS S)) (.fz (dz U)) (.fz (cS L))) rfl ?_)
   have eu:Bc 2 [4] (gv 4) (ce n T (.ow (cS S)) (.fz (dz U)) (.fz (cS L))) 0=.nx (ce n T (.ow (cS (qW S L))) (.fz (dz U)) (.fz (cS L))) 0:=by
    show(match uY (S.map λq=>(aq q.1,q.2)) (cS L)with|some es=>_|none=>SO.bad)=_
    rw[AQ (cm.sm tU) cm.ne (by omega)];rfl
   refine wp_seq eu ?_
   have tU2:=FN (C:=L) tU
   have hUl:=tU.len
   have ec:f1 (aK 1 [4] (.nm 0) (Gh (gv 3)) (wB (cT (f2 (gv 0) (gv 1) (mU true))) (cT (f2 (aA Ij (ab (gv 0) ao)) (gv 1) (mU true)))) (bp (ab (gv 0) (ab (cst (.bool true)) ao)))) qP (vl (ce n T (.ow (cS (qW S L))) (.fz (dz U)) (.fz (cS L)))) 0=.ok (dz (U.filter (kp L))) 0:=by
    refine cD (bW (kp L) (λp=>PyData.tuple [aq p,.bool true]) ?_ (by omega) λq hq=>⟨[.da (aq q),.da (cS L)],rfl,?_,λ_=>tp rfl⟩) (wH tU2.nd)
    .have:=uP (fa:=gv 3) (vs:=vl (ce n T (.ow (cS (qW S L))) (.fz (dz U)) (.fz (cS L)))) (β1:=0) rfl
     rw[nR]at this;exact this
    .exact nF (bM _ _ _ _ (az rfl rfl (mz true q L))) (bM _ _ _ _ (az (aG rfl (Iq q)) rfl (mz true (q.2,q.1) L)))
   refine lP (cj ec (jn ⟨_,_,(U.filter (kp L)).length,rfl,?_,rfl,qW S L,U.filter (kp L),.fz (cS L),rfl,tU2,yf nd,λq h=>?_,λq h=>hU q (Oh.mp h).1,λX hX=>?_,Oc _⟩))
   .have:(U.filter (kp L)).length<U.length:=by
     have h1:¬kp L p=true:=λz=>(AO.mp z).1 ((hcl p).mpr (.refl hp))
     have h2:=O6 (kp L) V
     rw[hE,List.filter_cons,Oe h1,ON]
     omega
    omega
   .rcases mh.mp h with h|h
    .exact hS q h
    .obtain⟨r,hr,rfl⟩:=Of.mp h
     exact hU _ (cm.tr r hr)
   .have eE:ET (U.filter (kp L))=TR.kX (ET U) p:=by
     funext a b
     apply propext
     show(a,b)∈U.filter (kp L)↔_
     rw[Oh,AO,hcl,hcl];rfl
    rw[eE]at hX
    have h2:=hc _ (.more hp hX)
    have e2:(λa b=>(a,b)∈(qW S L).map (·.1)\/X a b)=λa b=>(a,b)∈S.map (·.1)\/TR.Cl (ET U) p (a,b)\/X a b:=by
     funext a b
     apply propext
     rw[mh,hcl,or_assoc]
    rw[e2];exact h2
 .rintro env b ⟨S,s3,s4,rfl,nd,hS,hC⟩
  exact⟨S,true,rfl,nd,hS,hC⟩
def ext(n:Nat)(l:List Pr)(r:List Int):List (List Int):=(Kx l r n).map λx=>r++[x]
def lvl(n:Nat)(l:List Pr):Nat->List (List Int)
 | 0=>[[]]
 |k+1=>(lvl n l k).flatMap (ext n l)
def Ht{n:Nat}{l:List Pr}{r q:List Int}(h:q∈ext n l r):∃x,x∈Kx l r n/\q=r++[x]:=let⟨x,h1,h2⟩:=Of.mp h;⟨x,h1,h2.symm⟩
theorem qj{n:Nat}{l:List Pr}:∀{k:Nat} {r:List Int},r∈lvl n l k->E6 n l r/\r.length=k
 | 0,r,h=>by
  rw[lvl,OT]at h
  subst h
  exact⟨⟨Qy,(λx hx=>by cases hx),(λp _ h=>by cases h)⟩,rfl⟩
 |k+1,r,h=>by
  rw[lvl,List.mem_flatMap]at h
  obtain⟨q,hq,hr⟩:=h
  obtain⟨x,hx,rfl⟩:=Ht hr
  let⟨B,hk⟩:=qj hq
  exact⟨B.more (aE.mp (Oh.mp hx).1) (Oh.mp hx).2,by rw[OO,hk];rfl⟩
theorem DV{n:Nat}{l:List Pr}(O:OM.Ord n l):∀k,k<=n->lvl n l k≠ []
 | 0,_=>by rw[lvl];simp
 |k+1,hk=>by
  have h:=DV O k (by omega)
  cases e:lvl n l k with
  |nil=>exact absurd e h
  |cons r L=>
   have hr:r∈lvl n l k:=by rw[e];exact Ol ..
   let⟨B,hb⟩:=qj hr
   have f:=B.free O (by omega)
   intro z
   rw[lvl,e,List.flatMap_cons,List.append_eq_nil_iff]at z
   exact f (List.map_eq_nil_iff.mp z.1)
def FO{n:Nat}{l:List Pr}(O:OM.Ord n l){r:List Int}(h:r∈lvl n l n):Row n l r:=(qj h).1.row O (by rw[(qj h).2];exact Oc _)
def cn(r q:List Int)(n:Nat):List Pr:=(bD n).map λt=>(((r.idxOf t:Nat):Int),((q.idxOf t:Nat):Int))
section
variable {n:Nat}{r q:List Int}{l:List Pr}
def z7:(cn r q n).length=n:=by unfold cn;rw[Ob,bL]
def J0:bD n=(List.range n).map λ(k:Nat)=>(k:Int):=by
 have:=iH n
 unfold cV at this
 refine List.map_inj_right (λa b h=>int.inj h) |>.mp ?_
 rw[<-this,OX]
 refine PD λk _=>?_
 rw[Pn];rfl
def y6(h:r.Perm (bD n)){t:Int}(ht:t∈bD n):(r.idxOf t:Nat)<n:=by
 have h1:=PX.mpr (h.mem_iff.mpr ht)
 have hl:=h.length_eq
 rw[bL]at hl
 omega
def Ey(h:r.Perm (bD n)){t:Int}(ht:t∈bD n):r[r.idxOf t]? =some t:=by
 have h1:=PX.mpr (h.mem_iff.mpr ht)
 rw[N8 h1,Rx h1]
def lr(h:r.Perm (bD n)){a b:Int}(ha:a∈bD n)(hb:b∈bD n)(e:r.idxOf a=r.idxOf b):a=b:=by
 have h1:=Ey h ha
 rw[e,Ey h hb]at h1
 exact(Option.some.inj h1).symm
def xi(h:r.Perm (bD n)):((bD n).map λt=>((r.idxOf t:Nat):Int)).Perm (bD n):=by
 refine xo (by rw[Ob,bL]) (λx hx=>?_) ?_
 .obtain⟨t,ht,rfl⟩:=Of.mp hx
  have:=y6 h ht
  omega
 .refine O5.mpr (Pt (λ{a b} ha hb hne e=>hne (lr h ha hb (by omega))) (dX n))
end
structure NK(n:Nat)(R:Int->Int->Prop):Prop where
 irr:∀a,¬R a a
 tr:∀a b c,R a b->R b c->R a c
 tot:∀a b,a∈bD n->b∈bD n->a≠b->R a b\/R b a
 rg:∀a b,R a b->a∈bD n/\b∈bD n
def zY{n:Nat}{R:Int->Int->Prop}(h1:1<=n)(h8:n<=8)(t:NK n R):∃r:List Int,r.Perm (bD n)/\∀a b,a∈bD n->b∈bD n->(R a b↔r.idxOf a<r.idxOf b):=by
 have O:OM.Ord n (OM.cB n R):=⟨h1,h8,OM.nP _ _,OM.cA _ _,λa h=>t.irr a (OM.aJ.mp h).2,λa b c h k=>OM.aJ.mpr ⟨⟨(OM.aJ.mp h).1.1,(OM.aJ.mp k).1.2⟩,t.tr a b c (OM.aJ.mp h).2 (OM.aJ.mp k).2⟩⟩
 let⟨r,hr⟩:=List.exists_mem_of_ne_nil _ (DV O n (Oc _))
 let⟨hp,hf⟩:=FO O hr
 have fw:∀a b,R a b->r.idxOf a<r.idxOf b:=λa b h=>by
  let⟨ha,hb⟩:=t.rg a b h
  have:=Pa.mp hf (a,b) (OM.aJ.mpr ⟨⟨aE.mp ha,aE.mp hb⟩,h⟩)
  exact Pw this
 refine⟨r,hp,λa b ha hb=>⟨fw a b,λh=>?_⟩⟩
 by_cases e:a=b
 .subst e;omega
 .rcases t.tot a b ha hb e with z|z
  .exact z
  .have:=fw b a z;omega
theorem Cr(k:Nat):∀n:Nat,((List.range n).filter λi=>decide (i<k)).length=min k n
 | 0=>by simp
 |n+1=>by
  rw[List.range_succ,List.filter_append,OO,Cr k n]
  by_cases c:n<k
  ·simp[c];omega
  ·simp[c];omega
def Ao{n:Nat}{r:List Int}(hp:r.Perm (bD n)){k:Nat}(hk:k<=n):((bD n).filter λb=>decide (r.idxOf b<k)).length=k:=by
 have nd:r.Nodup:=hp.nodup_iff.mpr (dX n)
 have hl:=hp.length_eq
 rw[bL]at hl
 rw[<-(hp.filter _).length_eq]
 have e:r=(List.range n).map λi=>r.getD i 0:=by
  refine Qo λi=>?_
  rw[Om]
  by_cases c:i<n
  .rw[QU c,N8 (by omega)]
   show _=some (r.getD i 0)
   rw[OH,N8 (by omega)];rfl
  .rw[PH (by omega),PH (by simp;omega)];rfl
 have e2:(r.filter λb=>decide (r.idxOf b<k)).length=((List.range n).filter λi=>decide (i<k)).length:=by
  conv=>lhs;rw[show(r.filter λb=>decide (r.idxOf b<k))=((List.range n).map λi=>r.getD i 0).filter (λb=>decide (r.idxOf b<k)) by rw[<-e]]
  rw[List.filter_map,Ob]
  congr 1
  refine Qp λi hi=>?_
  have hi:=OI.mp hi
  show decide (r.idxOf (r.getD i 0)<k)=_
  rw[OH,N8 (by omega)]
  show decide (r.idxOf r[i]<k)=_
  rw[List.Nodup.idxOf_getElem nd i (by omega)]
 rw[e2,Cr];omega
section
variable {n:Nat}{l K:List Pr}
abbrev Or(n:Nat)(l:List Pr)(P:Int->Int->Prop):Prop:=TR.NN (ET (kW n l)) P
def Im{P:Int->Int->Prop}(O:OM.Ord n l)(h:Or n l P):Or n l λa b=>P b a:=by
 have G:=(qA O).gr
 exact⟨λa b k=>G.sym _ _ (h.sub b a k),λa b k=>(h.one a b k).symm,λa b k=>h.anti b a k,λa b c k k'=>h.tr c b a k' k,λq r k f=>h.cl (q.2,q.1) (r.2,r.1) k (f.rev G)⟩
def k7{a b:Int}(h:(a,b)∈l):¬ET (kW n l) a b/\¬ET (kW n l) b a:=by
 constructor<;>intro z<;>have:=(gL.mp z).2<;>unfold sO at this<;>simp[h]at this
def DB{a b:Int}(O:OM.Ord n l)(ha:a∈bD n)(hb:b∈bD n)(hne:a≠b)(h1:(a,b)∉l)(h2:(b,a)∉l):ET (kW n l) a b:=gL.mpr ⟨⟨aE.mp ha,aE.mp hb⟩,by unfold sO;simp[hne,h1,h2]⟩
def Dm{P:Int->Int->Prop}(O:OM.Ord n l)(h:Or n l P):NK n λa b=>(a,b)∈l\/P a b:=by
 have T:=qA O
 have rgl:∀{a b:Int},(a,b)∈l->a∈bD n/\b∈bD n:=λ{a b} z=>by have:=O.wn _ z;exact⟨aE.mpr this.1,aE.mpr this.2⟩
 have rgP:∀{a b:Int},P a b->a∈bD n/\b∈bD n:=λ{a b} z=>by have:=T.rg _ (h.sub a b z);exact⟨aE.mpr this.1,aE.mpr this.2⟩
 refine⟨λa z=>z.elim (O.irr a) λz=>T.irr a (h.sub a a z),λa b c z y=>?_,λa b ha hb hne=>?_,λa b z=>z.elim rgl rgP⟩
 .rcases z with z|z<;>rcases y with y|y
  .exact .inl (O.tr a b c z y)
  .by_cases k:(a,c)∈l
   .exact .inl k
   refine .inr (h.cl (b,c) (a,c) y ⟨h.sub b c y,DB O (rgl z).1 (rgP y).2 (λe=>?_) k λe=>?_,.inr ⟨rfl,(k7 z).2⟩⟩)
   .have e:a=c:=e
    subst e;exact(k7 z).2 (h.sub _ _ y)
   .exact (k7 (O.tr c a b e z)).2 (h.sub _ _ y)
  .by_cases k:(a,c)∈l
   .exact .inl k
   refine .inr (h.cl (a,b) (a,c) z ⟨h.sub a b z,DB O (rgP z).1 (rgl y).2 (λe=>?_) k λe=>?_,.inl ⟨rfl,(k7 y).1⟩⟩)
   .have e:a=c:=e
    subst e;exact(k7 y).2 (h.sub _ _ z)
   .exact (k7 (O.tr b c a y e)).2 (h.sub _ _ z)
  .exact .inr (h.tr a b c z y)
 .by_cases k1:(a,b)∈l
  .exact .inl (.inl k1)
  by_cases k2:(b,a)∈l
  .exact .inr (.inl k2)
  exact(h.one a b (DB O ha hb hne k1 k2)).imp .inr .inr
def AE{A B:List Int}{P:Int->Bool}(nA:A.Nodup)(nB:B.Nodup)(dis:∀x,x∈A->x∉B)(h:∀b,(b∈A\/b∈B)↔(b∈bD n/\P b=true)):A.length+B.length=((bD n).filter P).length:=by
 rw[<-OO]
 refine((List.perm_ext_iff_of_nodup ?_ ?_).mpr λb=>?_).length_eq
 .rw[PF];exact⟨nA,nB,λx hx y hy e=>dis x hx (e▸hy)⟩
 .exact (dX n).sublist Qu
 .rw[Ox,Oh,h b]
def zp{K:List Pr}(nd:K.Nodup)(a:Int):((K.filter λp=>decide (p.2=a)).map (·.1)).Nodup:=by
 refine vJ (λx hx y hy e=>?_) (nd.sublist Qu)
 have h1:=Pw (Oh.mp hx).2
 have h2:=Pw (Oh.mp hy).2
 exact Prod.ext e (h1.trans h2.symm)
def IY{K:List Pr}(nd:K.Nodup)(a:Int):((K.filter λp=>decide (p.1=a)).map (·.2)).Nodup:=by
 refine vJ (λx hx y hy e=>?_) (nd.sublist Qu)
 have h1:=Pw (Oh.mp hx).2
 have h2:=Pw (Oh.mp hy).2
 exact Prod.ext (h1.trans h2.symm) e
def mj{K:List Pr}{a b:Int}:b∈(K.filter λp=>decide (p.2=a)).map (·.1)↔(b,a)∈K:=by
 rw[Of]
 constructor
 .rintro⟨p,hp,rfl⟩
  let⟨h1,h2⟩:=Oh.mp hp
  have h2:=Pw h2
  rw[<-h2];exact h1
 .exact λh=>⟨(b,a),Oh.mpr ⟨h,by simp⟩,rfl⟩
def Ag{K:List Pr}{a b:Int}:b∈(K.filter λp=>decide (p.1=a)).map (·.2)↔(a,b)∈K:=by
 rw[Of]
 constructor
 .rintro⟨p,hp,rfl⟩
  let⟨h1,h2⟩:=Oh.mp hp
  have h2:=Pw h2
  rw[<-h2];exact h1
 .exact λh=>⟨(a,b),Oh.mpr ⟨h,by simp⟩,rfl⟩
def xN(l K:List Pr)(a:Int):Nat:=(l.filter λp=>decide (p.2=a)).length+(K.filter λp=>decide (p.2=a)).length
def yN(l K:List Pr)(a:Int):Nat:=(l.filter λp=>decide (p.2=a)).length+(K.filter λp=>decide (p.1=a)).length
def Hh(O:OM.Ord n l)(nd:K.Nodup)(h:Or n l λa b=>(a,b)∈K):∃r q:List Int,r.Perm (bD n)/\q.Perm (bD n)/\(OM.bY n).filter (pY [r,q])=l/\∀a,a∈bD n->xN l K a=r.idxOf a/\yN l K a=q.idxOf a:=by
 have T:=qA O
 have t1:=Dm O h
 have t2:=Dm O (Im O h)
 let⟨r,hr,er⟩:=zY O.lo O.hi t1
 let⟨q,hq,eq⟩:=zY O.lo O.hi t2
 have ndl:l.Nodup:=OM.eN O.ris
 refine⟨r,q,hr,hq,?_,λa ha=>⟨?_,?_⟩⟩
 .refine OM.dO (OM.bZ _ (OM.dC n)) O.ris λp=>?_
  let⟨a,b⟩:=p
  rw[Oh,OM.aY]
  unfold pY
  simp only[Ri,List.all_nil,Bool.and_true,Oy,OB]
  constructor
  .rintro⟨hg,k1,k2⟩
   have ha:=aE.mpr hg.1
   have hb:=aE.mpr hg.2
   rcases(er a b ha hb).mpr k1 with z|z
   .exact z
   .rcases (eq a b ha hb).mpr k2 with y|y
    .exact y
    .exact (h.anti a b z y).elim
  .intro z
   have hg:=O.wn _ z
   exact⟨hg,(er a b (aE.mpr hg.1) (aE.mpr hg.2)).mp (.inl z),(eq a b (aE.mpr hg.1) (aE.mpr hg.2)).mp (.inl z)⟩
 .have ec:=AE (P:=λb=>decide (r.idxOf b<r.idxOf a)) (zp ndl a) (zp nd a) (λx h1 h2=>(k7 (mj.mp h1)).1 (h.sub _ _ (mj.mp h2))) λb=>by
   rw[mj,mj,OB]
   constructor
   .intro z
    have hb:=(t1.rg b a z).1
    exact⟨hb,(er b a hb ha).mp z⟩
   .exact λz=>(er b a z.1 ha).mpr z.2
  rw[Ob,Ob,Ao hr (Qj (y6 hr ha))]at ec
  exact ec
 .have ec:=AE (P:=λb=>decide (q.idxOf b<q.idxOf a)) (zp ndl a) (IY nd a) (λx h1 h2=>(k7 (mj.mp h1)).2 (h.sub _ _ (Ag.mp h2))) λb=>by
   rw[mj,Ag,OB]
   constructor
   .intro z
    have hb:=(t2.rg b a z).1
    exact⟨hb,(eq b a hb ha).mp z⟩
   .exact λz=>(eq b a z.1 ha).mpr z.2
  rw[Ob,Ob,Ao hq (Qj (y6 hq ha))]at ec
  exact ec
end
def MA:List D->FR:=bc 7 2 lV
def MH{n:Nat}{l:List Pr}{S:List (Pr×D)}(O:OM.Ord n l)(hS:S.length<=64):MA [aN n l,cS S]=.ok (.list (((bD n).map λa=>((xN l (S.map (·.1)) a:Int),(yN l (S.map (·.1)) a:Int))).map aq)) true:=by
 have h8:=O.hi
 have hl:l.length<=64:=CZ h8 (OM.eN O.ris) O.wn
 refine jE ?_
 unfold lV
 refine ml (lp an) (wp_at [.fz (aN n l),.fz (cS S),.ow (.list ((((bD n).take 0).map λa=>((xN l (S.map (·.1)) a:Int),(yN l (S.map (·.1)) a:Int))).map aq)),.no,.no,.no,.no] rfl ?_)
 refine lU (ds:=(bD n).map int) (λi env b=>b=0/\∃s3 s4 s5 s6,env= [.fz (aN n l),.fz (cS S),.ow (.list ((((bD n).take i).map λa=>((xN l (S.map (·.1)) a:Int),(yN l (S.map (·.1)) a:Int))).map aq)),s3,s4,s5,s6]) (by rw[<-iH];exact cf rfl (by omega)) ⟨rfl,.no,.no,.no,.no,rfl⟩ ?_ ?_
 .rintro i d env b hd ⟨rfl,s3,s4,s5,s6,rfl⟩
  rw[Om]at hd
  cases hq:(bD n)[i]? with
  |none=>rw[hq]at hd;cases hd
  |some a=>
   rw[hq]at hd;cases hd
   have hi:i<n:=by have:=(Ov.mp hq).1;rwa [bL]at this
   generalize hP:(PyData.list ((((bD n).take i).map λa=>((xN l (S.map (·.1)) a:Int),(yN l (S.map (·.1)) a:Int))).map aq))=P
   refine⟨[.fz (aN n l),.fz (cS S),.ow P,.fz (.int a),s4,s5,s6],rfl,cj (bW (λp=>decide (p.2=a)) (λp=>int p.1) rfl (by omega) λp hp=>⟨[.da (.int p.1),.da (.int p.2),.da (.int a)],rfl,df rfl rfl,λ_=>rfl⟩) (wp_at [.fz (aN n l),.fz (cS S),.ow P,.fz (.int a),.fz (.list ((l.filter λp=>decide (p.2=a)).map λp=>int p.1)),s5,s6] rfl ?_)⟩
   generalize hA:(PyData.list ((l.filter λp=>decide (p.2=a)).map λp=>int p.1))=A
   refine cj (bW (λp=>decide (p.2=a)) (λp=>int p.1) (uP rfl) (by rw[Ob];omega) λp hp=>⟨[.da (.int p.1),.da (.int p.2),.da (.int a)],rfl,df rfl rfl,λ_=>rfl⟩) (wp_at [.fz (aN n l),.fz (cS S),.ow P,.fz (.int a),.fz A,.fz (.list (((S.map (·.1)).filter λp=>decide (p.2=a)).map λp=>int p.1)),s6] rfl ?_)
   generalize hB:(PyData.list (((S.map (·.1)).filter λp=>decide (p.2=a)).map λp=>int p.1))=B
   refine cj (bW (λp=>decide (p.1=a)) (λp=>int p.2) (uP rfl) (by rw[Ob];omega) λp hp=>⟨[.da (.int p.1),.da (.int p.2),.da (.int a)],rfl,df rfl rfl,λ_=>rfl⟩) (wp_at [.fz (aN n l),.fz (cS S),.ow P,.fz (.int a),.fz A,.fz B,.fz (.list (((S.map (·.1)).filter λp=>decide (p.1=a)).map λp=>int p.2))] rfl ?_)
   generalize hC:(PyData.list (((S.map (·.1)).filter λp=>decide (p.1=a)).map λp=>int p.2))=C
   have lA:f1 (gv 4) c5 (vl [.fz (aN n l),.fz (cS S),.ow P,.fz (.int a),.fz A,.fz B,.fz C]) 0=.ok (.int ((l.filter λp=>decide (p.2=a)).length:Nat)) 0:=by subst hA;rw[rJ rfl,Ob]
   have lB:f1 (gv 5) c5 (vl [.fz (aN n l),.fz (cS S),.ow P,.fz (.int a),.fz A,.fz B,.fz C]) 0=.ok (.int (((S.map (·.1)).filter λp=>decide (p.2=a)).length:Nat)) 0:=by subst hB;rw[rJ rfl,Ob]
   have lC:f1 (gv 6) c5 (vl [.fz (aN n l),.fz (cS S),.ow P,.fz (.int a),.fz A,.fz B,.fz C]) 0=.ok (.int (((S.map (·.1)).filter λp=>decide (p.1=a)).length:Nat)) 0:=by subst hC;rw[rJ rfl,Ob]
   have ex:f2 (f1 (gv 4) c5) (f1 (gv 5) c5) b5 (vl [.fz (aN n l),.fz (cS S),.ow P,.fz (.int a),.fz A,.fz B,.fz C]) 0=.ok (.int (xN l (S.map (·.1)) a:Int)) 0:=az lA lB (by show some (int _)=_;unfold xN;rw[Int.natCast_add])
   have ey:f2 (f1 (gv 4) c5) (f1 (gv 6) c5) b5 (vl [.fz (aN n l),.fz (cS S),.ow P,.fz (.int a),.fz A,.fz B,.fz C]) 0=.ok (.int (yN l (S.map (·.1)) a:Int)) 0:=az lA lC (by show some (int _)=_;unfold yN;rw[Int.natCast_add])
   subst hP
   refine lP (yC rfl (c4 ex ey) rfl (by simp;omega) (jn ⟨_,_,rfl,rfl,.fz (.int a),.fz A,.fz B,.fz C,?_⟩))
   rw[Pu,hq,OL,OL];rfl
 .rintro env b ⟨rfl,s3,s4,s5,s6,rfl⟩
  rw[Ob,QR]
  exact⟨rfl⟩
noncomputable def GR:List D->FR:=bc 3 1 (dM mN MR Mi MA MM)
def Kv{n:Nat}{l:List Pr}(O:OM.Ord n l):(∃(p:Pr) (ps:List Pr),GR [aN n l]=.ok (.tuple [.str "knot",.list (ps.map aq)]) false/\FT (kW n l) p (p.2,p.1) ps/\ps.length<=64)\/∃r q:List Int,GR [aN n l]=.ok (.tuple [.str "points",.list ((cn r q n).map aq)]) false/\r.Perm (bD n)/\q.Perm (bD n)/\(OM.bY n).filter (pY [r,q])=l:=by
 have T:=qA O
 suffices h:WP (dM mN MR Mi MA MM [.fz (aN n l),.no,.no] 0) λs=>(∃(p:Pr) (ps:List Pr),fin s=.ok (.tuple [.str "knot",.list (ps.map aq)]) false/\FT (kW n l) p (p.2,p.1) ps/\ps.length<=64)\/∃r q:List Int,fin s=.ok (.tuple [.str "points",.list ((cn r q n).map aq)]) false/\r.Perm (bD n)/\q.Perm (bD n)/\(OM.bY n).filter (pY [r,q])=l from h.out
 unfold dM
 refine FG (aG rfl (yw O)) (wp_at [.fz (aN n l),.no,.no] rfl (cj (aG rfl (MC O)) (wp_at [.fz (aN n l),.fz (dz (kW n l)),.no] rfl ?_)))
 rcases Nu T with⟨p,ps,e,hp,hl⟩|⟨e,hn⟩
 .refine cj (aG rfl e) (wp_at [.fz (aN n l),.fz (dz (kW n l)),.fz (.list (ps.map aq))] rfl ?_)
  exact qc rfl (qg (tp rfl) (.inl ⟨p,ps,rfl,hp,hl⟩))
 .refine cj (aG rfl e) (wp_at [.fz (aN n l),.fz (dz (kW n l)),.fz .none] rfl ?_)
  refine iq rfl (wp_at [.fz (aN n l),.fz (dz (kW n l)),.fz .none] rfl ?_)
  let⟨S,b,eS,nd,hS,hC⟩:=Mo T
  have hO:Or n l λa b=>(a,b)∈S.map (·.1):=TR.Fd hC T.gr λq h=>hn q h
  have hSl:S.length<=64:=by
   have:=oX nd λx hx=>hS x hx
   rw[Ob]at this
   exact Pf this T.len
  let⟨r,q,hr,hq,el,ec⟩:=Hh O nd hO
  have ep:((bD n).map λa=>((xN l (S.map (·.1)) a:Int),(yN l (S.map (·.1)) a:Int)))=cn r q n:=by
   unfold cn
   refine PD λa ha=>?_
   rw[(ec a ha).1,(ec a ha).2]
  have e1:=MH O hSl
  rw[ep]at e1
  refine kJ (tp (ac rfl (ac (aG (ac rfl (ac (aG rfl eS) an)) e1) an))) (.inr ⟨r,q,rfl,hr,hq,el⟩)
def Lf{n:Nat}{rs:List (List Int)}(h1:rs≠ [])(hp:∀r,r∈rs->r.Perm (bD n)):(OM.bY n).filter (sx rs)=(OM.bY n).filter (pY rs):=by
 refine Qp λp hm=>?_
 have hg:=OM.aY.mp hm
 rw[Qa,oC]
 unfold pY
 rw[Pa]
 constructor
 .rintro⟨ne,h⟩ r hr
  rw[OB]
  exact Nat.lt_of_le_of_ne (h r hr) λe=>ne (AS ((hp r hr).mem_iff.mpr (aE.mpr hg.1)) ((hp r hr).mem_iff.mpr (aE.mpr hg.2)) e)
 .intro h
  refine⟨λe=>?_,λr hr=>Qj (Pw (h r hr))⟩
  cases rs with
  |nil=>exact h1 rfl
  |cons r rs=>
   have:=Pw (h r (Ol ..))
   rw[e]at this
   omega
section
variable {n:Nat}{l:List Pr}{r q:List Int}
def qr{a b:Int}(ha:a∈bD n)(hb:b∈bD n)(e:(OM.bY n).filter (pY [r,q])=l):(a,b)∈l↔r.idxOf a<r.idxOf b/\q.idxOf a<q.idxOf b:=by
 rw[<-e,Oh,OM.aY]
 unfold pY
 simp only[Ri,List.all_nil,Bool.and_true,Oy,OB]
 exact⟨λh=>h.2,λh=>⟨⟨aE.mp ha,aE.mp hb⟩,h⟩⟩
def qO{a b:Int}(hr:r.Perm (bD n))(hq:q.Perm (bD n))(e:(OM.bY n).filter (pY [r,q])=l)(ha:a∈bD n)(hb:b∈bD n):ET (kW n l) a b↔(r.idxOf a<r.idxOf b/\q.idxOf b<q.idxOf a)\/(r.idxOf b<r.idxOf a/\q.idxOf a<q.idxOf b):=by
 show(a,b)∈kW n l↔_
 rw[gL]
 unfold sO
 simp only[Oy,PU,Pj]
 rw[qr ha hb e,qr hb ha e]
 constructor
 .rintro⟨_,h1,h2,h3⟩
  have n1:r.idxOf a≠r.idxOf b:=λz=>h1 (lr hr ha hb z)
  have n2:q.idxOf a≠q.idxOf b:=λz=>h1 (lr hq ha hb z)
  omega
 .intro h
  refine⟨⟨aE.mp ha,aE.mp hb⟩,λz=>?_,by omega,by omega⟩
  have z:a=b:=z
  subst z;omega
def Jc(O:OM.Ord n l)(hr:r.Perm (bD n))(hq:q.Perm (bD n))(e:(OM.bY n).filter (pY [r,q])=l):Mr (kW n l):=by
 have T:=qA O
 have rg:∀{a b:Int},ET (kW n l) a b->a∈bD n/\b∈bD n:=λ{a b} h=>by have:=T.rg _ h;exact⟨aE.mpr this.1,aE.mpr this.2⟩
 have st:∀p s,TR.Fc (ET (kW n l)) p s->r.idxOf p.1<r.idxOf p.2->r.idxOf s.1<r.idxOf s.2:=by
  rintro⟨a,b⟩ ⟨c,d⟩ ⟨h1,h2,h3⟩ h
  simp only at h1 h2 h3 h ⊢
  have k1:=(qO hr hq e (rg h1).1 (rg h1).2).mp h1
  have k2:=(qO hr hq e (rg h2).1 (rg h2).2).mp h2
  rcases h3 with⟨rfl,z⟩|⟨rfl,z⟩
  .rw[qO hr hq e (rg h1).2 (rg h2).2]at z
   omega
  .rw[qO hr hq e (rg h1).1 (rg h2).1]at z
   omega
 have all:∀p s,TR.Cl (ET (kW n l)) p s->r.idxOf p.1<r.idxOf p.2->r.idxOf s.1<r.idxOf s.2:=λp s h=>by
  induction h with
  |refl _=>exact id
  |step _ f ih=>exact λk=>st _ _ f (ih k)
 intro p hp h
 have hp':ET (kW n l) p.1 p.2:=hp
 have k:=(qO hr hq e (rg hp').1 (rg hp').2).mp hp'
 by_cases c:r.idxOf p.1<r.idxOf p.2
 .have:=all _ _ h c
  simp only at this
  omega
 .have h':=h.rev T.gr
  have:=all _ _ h' (by simp only;omega)
  simp only at this
  omega
end
def JO{T:List Pr}{p q:Pr}{ps:List Pr}(h:FT T p q ps):TR.Cl (ET T) p q:=by
 have key:∀(i:Nat) x,ps[i]? =some x->TR.Cl (ET T) p x:=by
  intro i
  induction i with
  |zero=>intro x hx;rw[h.st]at hx;cases hx;exact .refl (h.tr _ (Oi h.st))
  |succ i ih=>
   intro x hx
   have hl:=(Ov.mp hx).1
   have hy:ps[i]? =some ps[i]:=N8 (by omega)
   exact .step (ih _ hy) (HA (h.tr _ (Oi hy)) (h.go i _ _ hy hx))
 exact key _ _ h.en
def DJ(n:Nat)(l:List Pr):Prop:=∀r q:List Int,r.Perm (bD n)->q.Perm (bD n)->(OM.bY n).filter (pY [r,q])≠l
def IP{n:Nat}{l:List Pr}{p:Pr}{ps:List Pr}(O:OM.Ord n l)(h:FT (kW n l) p (p.2,p.1) ps):DJ n l:=λr q hr hq e=>Jc O hr hq e p (h.tr _ (Oi h.st)) (JO h)
def JA{m:Nat}{ms:List Int}{l:List Pr}(O:OM.Ord (2*m) l)(c:M1 m ms l):DJ (2*m) l:=by
 intro r q hr hq e
 have h3:=c.lo
 have hl:ms.length=2*m:=by rw[c.pm.length_eq,bL]
 have mm:∀k,k<2*m->ms.getD k 0∈bD (2*m):=λk hk=>c.pm.mem_iff.mp (by rw[OH,N8 (by omega)];exact Pz _)
 have nd:ms.Nodup:=c.pm.nodup_iff.mpr (dX _)
 have up:∀i j,i<m->j<m->i≠j->r.idxOf (ms.getD i 0)<r.idxOf (ms.getD (m+j) 0)/\q.idxOf (ms.getD i 0)<q.idxOf (ms.getD (m+j) 0):=λi j hi hj hn=>(qr (mm i (by omega)) (mm (m+j) (by omega)) e).mp (c.up i j hi hj hn)
 have ne:∀i,i<m->ms.getD i 0≠ms.getD (m+i) 0:=λi hi z=>by
  have h1:ms[i]? =some (ms.getD i 0):=by rw[OH,N8 (by omega)];rfl
  have h2:ms[m+i]? =some (ms.getD (m+i) 0):=by rw[OH,N8 (by omega)];rfl
  rw[z]at h1
  have:=eY nd h1 h2
  omega
 have ap:∀i,i<m->r.idxOf (ms.getD (m+i) 0)<r.idxOf (ms.getD i 0)\/q.idxOf (ms.getD (m+i) 0)<q.idxOf (ms.getD i 0):=λi hi=>by
  have:=c.ap i hi
  rw[qr (mm i (by omega)) (mm (m+i) (by omega)) e]at this
  have n1:r.idxOf (ms.getD i 0)≠r.idxOf (ms.getD (m+i) 0):=λz=>ne i hi (lr hr (mm i (by omega)) (mm (m+i) (by omega)) z)
  have n2:q.idxOf (ms.getD i 0)≠q.idxOf (ms.getD (m+i) 0):=λz=>ne i hi (lr hq (mm i (by omega)) (mm (m+i) (by omega)) z)
  omega
 have a0:=ap 0 (by omega)
 have a1:=ap 1 (by omega)
 have a2:=ap 2 (by omega)
 have u01:=up 0 1 (by omega) (by omega) (by omega)
 have u10:=up 1 0 (by omega) (by omega) (by omega)
 have u02:=up 0 2 (by omega) (by omega) (by omega)
 have u20:=up 2 0 (by omega) (by omega) (by omega)
 have u12:=up 1 2 (by omega) (by omega) (by omega)
 have u21:=up 2 1 (by omega) (by omega) (by omega)
 omega
def KS:cz false (.str "points") (.str "knot")=some (.bool false):=by kernel_rfl
def K1:cz false (.str "knot") (.str "knot")=some (.bool true):=by kernel_rfl
def yL(ds:List D)(h:mN ds≠.bad):bc 1 1 (g7 iN) ds=mN ds:=by
 unfold mN at h
 split at h
 .obtain⟨n,l,rfl,O⟩:=xy h
  rw[yw O]
  show fin (g7 iN [.fz (aN n l)] 0)=_
  exact jE (B7 (lG (mH (aG rfl (uq O)))) (jn rfl))
 .exact absurd rfl h
def yd(n:Nat)(f:Pr->Bool)(i:Nat):List Pr:=(OM.bY n).filter λp=>decide (p.1<i)&&f p
def CB(n:Nat)(f:Pr->Bool):yd n f 0= []:=by
 unfold yd
 rw[Qz]
 intro p hp
 have:=(OM.aY.mp hp).1.1
 rw[Oz (by omega)];simp
def Gq(n:Nat)(f:Pr->Bool):yd n f n=(OM.bY n).filter f:=by
 unfold yd
 refine Qp λp hp=>?_
 have:=(OM.aY.mp hp).1.2
 rw[Ot this,Bool.true_and]
def Ef{n i:Nat}(f:Pr->Bool)(hi:i<n):yd n f (i+1)=yd n f i++((bD n).filter λb=>f ((i:Int),b)).map λb=>((i:Int),b):=by
 refine OM.dO (OM.bZ _ (OM.dC n)) ?_ λx=>?_
 .show List.Pairwise OM.CW _
  rw[Q9]
  refine⟨OM.bZ _ (OM.dC n),?_,λp hp q hq=>?_⟩
  .rw[O5]
   exact((zi n).filter _).imp λ{a b} h=>.inr ⟨rfl,h⟩
  .unfold yd at hp
   have h1:=(Oh.mp hp).2
   rw[Oy,OB]at h1
   obtain⟨b,_,rfl⟩:=Of.mp hq
   exact .inl h1.1
 .rw[Ox]
  unfold yd
  rw[Oh,Oh,Of,OM.aY]
  simp only[Oy,OB]
  constructor
  .rintro⟨h1,h2,h3⟩
   by_cases z:x.1<i
   .exact .inl ⟨h1,z,h3⟩
   .have e:x.1=i:=by omega
    obtain⟨xa,xb⟩:=x
    simp only at e h1 h3
    subst e
    exact .inr ⟨xb,Oh.mpr ⟨aE.mpr h1.2,h3⟩,rfl⟩
  .rintro (⟨h1,h2,h3⟩|⟨b,hb,rfl⟩)
   .exact⟨h1,by omega,h3⟩
   .obtain⟨hb1,hb2⟩:=Oh.mp hb
    have:=aE.mp hb1
    exact⟨⟨⟨by omega,by omega⟩,this⟩,by omega,hb2⟩
def Fs{n:Nat}(f:Pr->Bool)(i:Nat)(h8:n<=8):(yd n f i).length<=64:=by
 have h1:(yd n f i).length<=(OM.bY n).length:=O6 _ _
 rw[dv]at h1
 have:n*n<=64:=Py h8 h8
 omega
def Mc(l:List Pr)(p q:Pr):Bool:=if p.1=q.1/\p.2≠q.2 then !sO l (p.2,q.2)else decide (p.2=q.2)&&(!decide (p.1=q.1) && !sO l (p.1,q.1))
def Nw:List D->FR:=bc 7 3 (gJ vS)
def ML(n:Nat)(l:List Pr)(p q:Pr):Nw [aN n l,aq p,aq q]=.ok (.bool (Mc l p q)) false:=by
 show fin (gJ vS [.fz (aN n l),.fz (aq p),.fz (aq q),.no,.no,.no,.no] 0)=_
 refine jE ?_
 unfold gJ
 refine wp_bind rfl rfl (wp_bind rfl rfl ?_)
 have t:=nF (df (neg:=false) (fa:=gv 3) (fb:=gv 5) rfl rfl) (df (neg:=true) (fa:=gv 4) (fb:=gv 6) (vs:=vl [.fz (aN n l),.fz (aq p),.fz (aq q),.fz (.int p.1),.fz (.int p.2),.fz (.int q.1),.fz (.int q.2)]) (β:=0) rfl rfl)
 unfold Mc
 by_cases c:p.1=q.1/\p.2≠q.2
 .rw[Od c]
  rw[Ot c.1,Oz c.2]at t
  exact qc t (qg (cD (aG rfl (Ej n l p.2 q.2)) (by cases sO l (p.2,q.2)<;>rfl)) rfl)
 .rw[Oe c]
  have hc:((if false=true then !decide (p.1=q.1)else decide (p.1=q.1))&&(if true=true then !decide (p.2=q.2)else decide (p.2=q.2)))=false:=by
   simp
   simpa using c
  rw[hc]at t
  refine iq t (kJ (oB (az rfl rfl (vH false p.2 q.2)) (oB (az rfl rfl (vH true p.1 q.1)) (cD (aG rfl (Ej n l p.1 q.1)) (by cases sO l (p.1,q.1)<;>rfl)))) rfl)
def HZ(p:Pr)(fa:VF D){vs:List Nv}{β:Int}(hg:∀b,fa vs b=.ok (aq p) b):kT (sJ (mD (f1 fa (ij "tuple")))) (kT (cT (f2 (f1 fa c5) (cst (.int 2)) (cz true))) (sJ (mD (f1 (aK 1 [] (.nm 0) (bQ fa) mC (aA JU (ab (gv 0) ao))) (eT λbs=>bs.all id))))) vs β=.ok false β:=by
 have ec:aK 1 [] (.nm 0) (bQ fa) mC (aA JU (ab (gv 0) ao)) vs β=.ok (.list ([p.1,p.2].map λ_=>PyData.bool true)) β:=
  bX (λ_=>PyData.bool true) (by unfold bQ;rw[hg];rfl) (by simp) λx hx=>⟨[.da (.int x)],rfl,aG rfl (M6 rfl)⟩
 exact rW (lG (L1 (hg β) rfl)) (rW (IB (hg β)) (lG (a:=true) (mH (cD ec rfl))))
noncomputable def MG:List D->FR:=bc 7 2 (dt JU)
abbrev Cq(n:Nat)(l:List Pr)(ps:List Pr)(s3 s4 s5 s6:Sl):En:=[.fz (.list (ps.map aq)),.fz (aN n l),.fz (.int n),s3,s4,s5,s6]
def HG{n:Nat}{r q:List Int}{a:Int}(h:a∈bD n):jw ((cn r q n).map aq) a=some (aq (((r.idxOf a:Nat):Int),((q.idxOf a:Nat):Int))):=by
 have hb:=aE.mp h
 have e:a=((a.toNat:Nat):Int):=by omega
 rw[e,dm,je]
 .rfl
 .unfold cn
  rw[Om,J0,Om,QU (by omega)];rfl
def Nm{n:Nat}{l:List Pr}{r q:List Int}(O:OM.Ord n l)(hr:r.Perm (bD n))(hq:q.Perm (bD n))(el:(OM.bY n).filter (pY [r,q])=l):MG [.list ((cn r q n).map aq),aN n l]=.ok (.bool true) false:=by
 have h8:=O.hi
 have hl:(cn r q n).length=n:=z7
 show fin (dt JU [.fz (.list ((cn r q n).map aq)),.fz (aN n l),.no,.no,.no,.no,.no] 0)=_
 refine jE ?_
 unfold dt
 refine cj rfl (wp_at (Cq n l (cn r q n) .no .no .no .no) rfl ?_)
 refine iq (rW (lG (a:=true) (mH rfl)) (by
  have:=df (neg:=true) (fa:=f1 (gv 0) c5) (fb:=gv 2) (vs:=vl (Cq n l (cn r q n) .no .no .no .no)) (β:=0) (by rw[rJ rfl,Ob,hl]) rfl
  simpa using this)) (wp_at (Cq n l (cn r q n) .no .no .no .no) rfl ?_)
 refine lU (λ_ env b=>b=0/\∃s3,env=Cq n l (cn r q n) s3 .no .no .no) rfl ⟨rfl,_,rfl⟩ ?_ ?_
 .rintro i d env b hi ⟨rfl,s3,rfl⟩
  rw[Om]at hi
  cases hp:(cn r q n)[i]? with
  |none=>rw[hp]at hi;cases hi
  |some p=>
   rw[hp]at hi;cases hi
   exact⟨Cq n l (cn r q n) (.fz (aq p)) .no .no .no,rfl,B7 (HZ p (gv 3) λ_=>rfl) (jn ⟨_,_,rfl,rfl,_,rfl⟩)⟩
 rintro env b ⟨rfl,s3,rfl⟩
 refine lU (λ_ env b=>b=0/\∃s4,env=Cq n l (cn r q n) s3 s4 .no .no) (cf (n:=2) rfl (by omega)) ⟨rfl,_,rfl⟩ ?_ ?_
 .rintro i d env b hi ⟨rfl,s4,rfl⟩
  obtain⟨hi2,rfl⟩:=fP hi
  rw[Pn]
  refine⟨Cq n l (cn r q n) s3 (.fz (.int i)) .no .no,rfl,?_⟩
  obtain⟨xs,hx,ec⟩:∃xs:List Int,xs.Perm (bD n)/\aK 1 [4] (.nm 0) (bQ (gv 0)) mC (f2 (gv 0) (gv 1) bK) (vl (Cq n l (cn r q n) s3 (.fz (.int i)) .no .no)) 0=.ok (.list (xs.map int)) 0:=by
   have:i=0\/i=1:=by omega
   rcases this with rfl|rfl
   .refine⟨_,xi hr,?_⟩
    rw[bX (λp=>int p.1) rfl (by omega) λp hp=>⟨[.da (aq p),.da (.int 0)],rfl,rfl⟩]
    unfold cn;rw[OX,OX];rfl
   .refine⟨_,xi hq,?_⟩
    rw[bX (λp=>int p.2) rfl (by omega) λp hp=>⟨[.da (aq p),.da (.int 1)],rfl,rfl⟩]
    unfold cn;rw[OX,OX];rfl
  have es:rX (.list (xs.map int))=some (.list ((bD n).map int)):=by
   unfold rX
   dsimp only
   rw[jT]
   dsimp only
   rw[Od (by rw[hx.length_eq,bL];omega),ES.mpr hx]
  refine B7 (bM _ _ _ false (az (cD ec es) (cD rfl (jo (by omega))) (by rw[qy];simp))) (jn ⟨_,_,rfl,rfl,_,rfl⟩)
 rintro env b ⟨rfl,s4,rfl⟩
 refine cj (by rw[CB];exact lp an) (wp_at (Cq n l (cn r q n) s3 s4 (.fz (.list ((yd n (pY [r,q]) 0).map aq))) .no) rfl ?_)
 refine lU (λi env b=>b=0/\∃s6,env=Cq n l (cn r q n) s3 s4 (.fz (.list ((yd n (pY [r,q]) i).map aq))) s6) (cf rfl (by omega)) ⟨rfl,_,rfl⟩ ?_ ?_
 .rintro i d env b hi ⟨rfl,s6,rfl⟩
  obtain⟨hin,rfl⟩:=fP hi
  rw[Pn]
  refine⟨Cq n l (cn r q n) s3 s4 (.fz (.list ((yd n (pY [r,q]) i).map aq))) (.fz (.int i)),rfl,?_⟩
  have hi':(i:Int)∈bD n:=aE.mpr ⟨by omega,by omega⟩
  have ec:aK 1 [0,6] (.nm 0) (bF (gv 2)) (wB (cT (f2 (f2 (f2 (gv 1) (gv 2) bK) (cst (.int 0)) bK) (f2 (f2 (gv 1) (gv 0) bK) (cst (.int 0)) bK) Cp)) (cT (f2 (f2 (f2 (gv 1) (gv 2) bK) (cst (.int 1)) bK) (f2 (f2 (gv 1) (gv 0) bK) (cst (.int 1)) bK) Cp))) (bp (ab (gv 2) (ab (gv 0) ao))) (vl (Cq n l (cn r q n) s3 s4 (.fz (.list ((yd n (pY [r,q]) i).map aq))) (.fz (.int i)))) 0=.ok (.list (((bD n).filter λb=>pY [r,q] ((i:Int),b)).map λb=>aq ((i:Int),b))) 0:=by
   refine bW (λb=>pY [r,q] ((i:Int),b)) (λb=>aq ((i:Int),b)) ?_ (by rw[bL];omega) λb hb=>⟨[.da (.int b),.da (.list ((cn r q n).map aq)),.da (.int i)],rfl,?_,λ_=>c4 rfl rfl⟩
   .rw[<-iH];exact cf rfl (by omega)
   .have gi:=az (g:=bK) (fa:=gv 1) (fb:=gv 2) (vs:=[.da (.int b),.da (.list ((cn r q n).map aq)),.da (.int i)]) (β2:=0) rfl rfl (HG hi')
    have gb:=az (g:=bK) (fa:=gv 1) (fb:=gv 0) (vs:=[.da (.int b),.da (.list ((cn r q n).map aq)),.da (.int i)]) (β2:=0) rfl rfl (HG hb)
    have:=nF (bM _ _ _ _ (az (g:=Cp) (az (g:=bK) (fb:=cst (.int 0)) gi rfl rfl) (az (g:=bK) (fb:=cst (.int 0)) (y:=.int 0) gb rfl rfl) rfl)) (bM _ _ _ _ (az (g:=Cp) (az (g:=bK) (fb:=cst (.int 1)) (y:=.int 1) gi rfl rfl) (az (g:=bK) (fb:=cst (.int 1)) (y:=.int 1) gb rfl rfl) rfl))
    refine this.trans ?_
    congr 1
    unfold pY
    simp only[Ri,List.all_nil,Bool.and_true]
    rw[Qa]
    simp
  refine lP (cj (d:=.list ((yd n (pY [r,q]) (i+1)).map aq)) (β1:=0) (az (x:=.list ((yd n (pY [r,q]) i).map aq)) (β1:=0) rfl ec ?_) (jn ⟨_,_,rfl,rfl,_,rfl⟩))
  rw[kg (by
   rw[Ob,Ob]
   have h1:=Fs (pY [r,q]) i h8
   have h2:((bD n).filter λb=>pY [r,q] ((i:Int),b)).length<=(bD n).length:=O6 _ _
   rw[bL]at h2
   omega),Ef _ hin,OL,OX];rfl
 rintro env b ⟨rfl,s6,rfl⟩
 rw[dP,Gq,el]
 exact kJ (d:=.bool true) (β1:=0) (az (x:=.tuple (l.map aq)) (y:=.tuple (l.map aq)) (cD (x:=.list (l.map aq)) rfl rfl) rfl (by rw[wj];simp)) rfl
def DP{α:Type}(l:List α):(l.all λ_=>true)=true:=by simp
def xX(ns:List Int):SeqAt.shaped (.tuple (ns.map int))=true:=by
 unfold SeqAt.shaped
 have h1:(PyData.tuple (ns.map int)).canLay0=true:=by simp only[PyData.canLay0];exact lay_ints ns
 have h2:(PyData.tuple (ns.map int)).depth<=64:=by simp only[PyData.depth];rw[rk];omega
 rw[h1,Ot h2];rfl
def DK(r:List Int):cz true (tupI r) (tupI r)=some (.bool false):=by
 unfold cz tupI
 rw[xX]
 simp only[Qd,O9,PyData.eqv,qC]
 simp
noncomputable def L4:List D->FR:=bc 2 2 (fJ JU vN)
def Ny{n:Nat}{l:List Pr}{p:Pr}(O:OM.Ord n l)(h:p∈kW n l):L4 [aN n l,aq p]=.ok (.bool true) false:=by
 show fin (fJ JU vN [.fz (aN n l),.fz (aq p)] 0)=_
 refine jE ?_
 unfold fJ
 refine iq (HZ p (gv 1) λ_=>rfl) (wp_at [.fz (aN n l),.fz (aq p)] rfl ?_)
 exact kJ (az rfl (aG rfl (C5 O)) (by rw[E9,Ot h];rfl)) rfl
noncomputable def Nr:List D->FR:=bc 2 2 (iR L4 Nw)
def LM{n:Nat}{l:List Pr}{a b:Pr}(O:OM.Ord n l)(ha:a∈kW n l)(h:b∈sI (kW n l) a):Mc l a b=true:=by
 obtain⟨hb,h⟩:=nt.mp h
 have ra:=(gL.mp ha).1
 have rb:=(gL.mp hb).1
 have ap:∀x y:Int,(0<=x/\x<n)->(0<=y/\y<n)->(x,y)∉kW n l->sO l (x,y)=false:=λx y hx hy hn=>by
  cases e:sO l (x,y)with
  |false=>rfl
  |true=>exact absurd (gL.mpr ⟨⟨hx,hy⟩,e⟩) hn
 unfold Mc
 rcases h with⟨e,h2,h3⟩|⟨e,h2,h3⟩
 .rw[Od ⟨e,λz=>h2 z.symm⟩,ap _ _ ra.2 rb.2 h3];rfl
 .rw[Oe (λz=>h2 z.1.symm),ap _ _ ra.1 rb.1 h3,Ot e,Oz (λz=>h2 z.symm)];rfl
def Nh{n:Nat}{l:List Pr}{p:Pr}{ps:List Pr}(O:OM.Ord n l)(h:FT (kW n l) p (p.2,p.1) ps)(hz:ps.length<=64):Nr [.list (ps.map aq),aN n l]=.ok (.bool true) false:=by
 have hpos:0<ps.length:=(Ov.mp h.st).1
 refine jE ?_
 unfold iR
 have ec:aK 1 [1] (.nm 0) (bQ (gv 0)) mC (aA L4 (ab (gv 1) (ab (gv 0) ao))) (vl [.fz (.list (ps.map aq)),.fz (aN n l)]) 0=.ok (.list (ps.map λ_=>PyData.bool true)) 0:=
  bX (λ_=>PyData.bool true) rfl (by omega) λx hx=>⟨[.da (aq x),.da (aN n l)],rfl,aG rfl (Ny O (h.tr x hx))⟩
 have e1:f1 (aK 1 [1] (.nm 0) (bQ (gv 0)) mC (aA L4 (ab (gv 1) (ab (gv 0) ao)))) (eT λbs=>bs.all id) (vl [.fz (.list (ps.map aq)),.fz (aN n l)]) 0=.ok (.bool true) 0:=by
  rw[Ab ec,DP]
 have en:cz false (.list (ps.map aq)) (.list (([]:List Pr).map aq))=some (.bool false):=by
  rw[Ex]
  simp
  exact List.length_pos_iff.mp hpos
 refine iq (rW (lG (a:=true) (mH rfl)) (rW (bM _ _ _ false (az rfl (lp an) en)) (lG (mH e1)))) (wp_at [.fz (.list (ps.map aq)),.fz (aN n l)] rfl ?_)
 have al:jw (ps.map aq) (-1)=some (aq (p.2,p.1)):=by
  rw[dm]
  have e:jw ps (-1)=ps[ps.length-1]?:=by
   unfold jw AW
   rw[Oe (by omega),Od (by omega),show(-1+(ps.length:Int)).toNat=ps.length-1 by omega];rfl
  rw[e,h.en];rfl
 have a0:jw (ps.map aq) (0:Int)=some (aq p):=by
  have:jw (ps.map aq) ((0:Nat):Int)=some (aq p):=by rw[dm,je h.st];rfl
  exact this
 have eb:cz true (aq (p.2,p.1)) (aq (p.2,p.1))=some (.bool false):=DK [p.2,p.1]
 refine iq (bM _ _ _ false (az (az rfl rfl al) (cD (az rfl rfl a0) rfl) eb)) (wp_at [.fz (.list (ps.map aq)),.fz (aN n l)] rfl ?_)
 have e2:aK 1 [1,0] (.nm 0) (bF (f2 (f1 (gv 0) c5) (cst (.int 1)) Di)) mC (aA Nw (ab (gv 1) (ab (f2 (gv 2) (gv 0) bK) (ab (f2 (gv 2) (f2 (gv 0) (cst (.int 1)) b5) bK) ao)))) (vl [.fz (.list (ps.map aq)),.fz (aN n l)]) 0=.ok (.list ((List.range (ps.length-1)).map λ_=>PyData.bool true)) 0:=by
  refine bX (λ_=>PyData.bool true) ?_ (by rw[P6];omega) λk hk=>⟨[.da (.int (0+(k:Int))),.da (aN n l),.da (.list (ps.map aq))],rfl,?_⟩
  .refine cf (az (by rw[rJ rfl,Ob]) rfl ?_) (by omega)
   show some (int ((ps.length:Int)-1))=_
   rw[show((ps.length:Int)-1)=((ps.length-1:Nat):Int) by omega]
  .have hk:=OI.mp hk
   have h1:ps[k]? =some ps[k]:=N8 (by omega)
   have h2:ps[k+1]? =some ps[k+1]:=N8 (by omega)
   have ef:=ML n l ps[k] ps[k+1]
   rw[LM O (h.tr _ (Oi h1)) (h.go k _ _ h1 h2)]at ef
   refine aG (ac rfl (ac (az rfl rfl ?_) (ac (az (y:=.int ((k+1:Nat):Int)) rfl (az rfl rfl ?_) ?_) an))) ef
   .show jw (ps.map aq) (0+(k:Int))=_
    rw[Pn,dm,je h1];rfl
   .show some (int (0+(k:Int)+1))=_
    congr 2;omega
   .show jw (ps.map aq) ((k+1:Nat):Int)=_
    rw[dm,je h2];rfl
 exact kJ (by rw[Ab e2,DP]) rfl
def KQ{fa:VF D}{fr:VF (List D)}{vs:List Nv}{β β1 β2:Int}{d:D}{ds:List D}(h:fa vs β=.ok d β1)(h':fr vs β1=.ok ds β2):ab fa fr vs β=.ok (d::ds) β2:=by rw[b7,h];dsimp only[R.bnd];rw[h']
def DH{io i iz:Nat}{F:List D->FR}{L:List Nat}{t:VF Bool}{m m':SF}{env:En}{β β':Int}{d:D}{w:Str}{ds:List D}{Q:SO->Prop}(h0:env[io]? =some (.fz d))(hc:jq d=true/\i<env.length/\iz≠i)(hF:F [d]=.ok (.tuple [.str w,.list ds]) false)(hd:jB ds=true/\ds.length<sizeLine)
  (ht:t (vl (env.set i (.fz (.tuple [.str w,.list ds])))) β=.ok false β') (k:WP (m' (((env.set i .no).set iz (.fz (.list ds))).set i (.fz (.tuple [.str w,.list (ds++[.int 0])]))) β') Q):WP (rM io i iz F L t m m' env β) Q:=by
 refine⟨?_⟩
 unfold rM
 rw[h0]
 dsimp only
 rw[Od hc,hF]
 dsimp only
 rw[Od hd,ht]
 exact k.out
theorem rB:∀l:List Pr,jB (l.map aq)=true
 | []=>rfl
 |p::l=>by
  show(jq (.tuple [.int p.1,.int p.2])&&jB (l.map aq))=true
  rw[rB l];rfl
def Ek(n:Nat)(l:List Pr):jq (aN n l)=true:=by
 show jq (.tuple [.int n,.tuple (l.map aq)])=true
 simp only[jq,jB,rB,Qd]
def Jo(w:Str)(hw:PyData.strOk w=true)(ps:List Pr):cz true (.tuple [.str w,.list (ps.map aq)]) (.tuple [.str w,.list (ps.map aq)])=some (.bool false):=by
 have hs:SeqAt.shaped (.tuple [.str w,.list (ps.map aq)])=true:=by
  unfold SeqAt.shaped
  have h1:PyData.canLay0 (.tuple [.str w,.list (ps.map aq)])=true:=by
   simp only[PyData.canLay0,PyData.canLayAll0,ql,hw];rfl
  have h2:PyData.depth (.tuple [.str w,.list (ps.map aq)])<=64:=by
   have:=pZ ps
   simp only[PyData.depth,PyData.depthAll];omega
  rw[h1,Ot h2];rfl
 unfold cz
 rw[hs]
 simp only[Qd,O9,PyData.eqv,PyData.eqvAll,qe]
 simp
def Lh:cz true (.str "points") (.str "points")=some (.bool false):=by kernel_rfl
def Ks:cz true (.str "knot") (.str "knot")=some (.bool false):=by kernel_rfl
def HN:cz true (.str "") (.str "")=some (.bool false):=by kernel_rfl
def Lz:cz true (.str "points") (.str "")=some (.bool true):=by kernel_rfl
def LK:cz true (.str "knot") (.str "")=some (.bool true):=by kernel_rfl
def LC:cz false (.str "points") (.str "points")=some (.bool true):=by kernel_rfl
noncomputable def MJ:List D->FR:=bc 2 2 (kK Nr MG)
def LG{n:Nat}{l:List Pr}{w:Str}{ps:List Pr}(h:(w="knot"/\Nr [.list (ps.map aq),aN n l]=.ok (.bool true) false)\/(w="points"/\MG [.list (ps.map aq),aN n l]=.ok (.bool true) false)):MJ [.tuple [.str w,.list (ps.map aq)],aN n l]=.ok (.bool true) false:=by
 refine jE ?_
 unfold kK
 refine iq (rW (lG (a:=true) (mH rfl)) rfl) (wp_at [.fz (.tuple [.str w,.list (ps.map aq)]),.fz (aN n l)] rfl ?_)
 rcases h with⟨rfl,e⟩|⟨rfl,e⟩
 .exact qc (bM _ _ _ true (az rfl rfl K1)) (qg (aG rfl e) rfl)
 .refine iq (bM _ _ _ false (az rfl rfl KS)) (wp_at [.fz (.tuple [.str "points",.list (ps.map aq)]),.fz (aN n l)] rfl ?_)
  exact kJ (oB (az rfl rfl LC) (aG rfl e)) rfl
noncomputable def Je:List D->FR:=bc 10 1 (EV KG HX GR MJ dA iW E1 Aq)
def Due(n:Nat)(l:List Pr)(w:Str):Prop:=w=""\/(w="knot"/\DJ n l)\/(w="points"/\∃r q:List Int,r.Perm (bD n)/\q.Perm (bD n)/\(OM.bY n).filter (pY [r,q])=l)
abbrev le(ns:List Int)(i:Nat)(s3 s4 s5 s6 s7 s8 s9:Sl):En:=[.fz (i6 ns),.fz (.int i),.bx,s3,s4,s5,s6,s7,s8,s9]
abbrev tL(n:Nat)(l:List Pr)(w:Str):D:=.tuple [aN n l,.str w]
def KC(ns:List Int):Je [i6 ns]=.ok (.bool true) false:=by
 refine jE ?_
 let⟨m,hm,em⟩:=Ei 3 (by omega) ns (vl [.fz (i6 ns),.no,.no,.no,.no,.no,.no,.no,.no,.no]) 0 rfl
 unfold EV
 refine lU (λ_ env _=>∃s1 s2 s3 s4 s5 s6 s7 s8 s9,env= [.fz (i6 ns),s1,s2,s3,s4,s5,s6,s7,s8,s9]) em ⟨_,_,_,_,_,_,_,_,_,rfl⟩ ?_ λenv β ⟨s1,s2,s3,s4,s5,s6,s7,s8,s9,e⟩=>kJ rfl rfl
 rintro i d env β hi ⟨s1,s2,s3,s4,s5,s6,s7,s8,s9,rfl⟩
 obtain⟨_,rfl⟩:=fP hi
 rw[Pn]
 refine⟨[.fz (i6 ns),.fz (.int i),s2,s3,s4,s5,s6,s7,s8,s9],rfl,?_⟩
 let⟨z,ez⟩:=KW ns i
 obtain⟨t3,t4,t5,t6,t7,t8,t9,hcl⟩:∃t3 t4 t5 t6 t7 t8 t9:Sl,(tu (ba ([0]++([1]++[])) [.fz (i6 ns),.fz (.int i),s2,s3,s4,s5,s6,s7,s8,s9])).set 2 .bx=le ns i t3 t4 t5 t6 t7 t8 t9:=⟨_,_,_,_,_,_,_,rfl⟩
 refine Hr (E2 rfl ez) (wp_at _ hcl ?_)
 let⟨j,hj,ej⟩:=lI (m:=8) (by omega) (by omega) z
 generalize z/((8:Nat):Int)=β1 at ej
 refine cj (az rfl (iP (by rfl) rfl ej) (by show some (int (1+(j:Int)))=_;rw[show((1+j:Nat):Int)=1+(j:Int) by omega])) (wp_at (le ns i (.fz (.int ((1+j:Nat):Int))) t4 t5 t6 t7 t8 t9) rfl ?_)
 have n1:1<=1+j:=by omega
 have n8:1+j<=8:=by omega
 generalize 1+j=n at n1 n8
 let⟨rs,β2,ec,hl,hP⟩:=Bo (own:=1) (ixs:=[2,3]) (t:=.nm 0) (fi:=bF (cst (.int 2))) (fe:=f1 (mE 1 iW (ab (f1 (gv 2) cR) ao)) kn) (vs:=vl (le ns i (.fz (.int n)) t4 t5 t6 t7 t8 t9)) tupI (λr:List Int=>r.Perm (bD n)) (cf (n:=2) (β1:=β1) rfl (by omega)) (by rw[dP];omega) (by
  intro d hd
  refine⟨[.da d,.bx,.da (.int n)],rfl,λb=>?_⟩
  let⟨ms,b',em,pm⟩:=u9 (bD n) (by rw[bL];omega) b
  refine⟨ms,b',cD (iP (by rfl) ?_ em) rfl,pm⟩
  rw[b7,cD rfl (jo (by omega))];rfl)
 rw[dP]at hl
 obtain⟨r,q,rfl⟩:∃r q,rs= [r,q]:=by
  match rs,hl with
  | [r,q],_=>exact⟨r,q,rfl⟩
 have pr:r.Perm (bD n):=hP r (by simp)
 have pq:q.Perm (bD n):=hP q (by simp)
 refine cj ec (wp_at (le ns i (.fz (.int n)) (.fz (.list ([r,q].map tupI))) t5 t6 t7 t8 t9) rfl ?_)
 have OA:=Dd n1 n8 (by simp) hP
 have eA:=Jm n8 (by simp) hP
 rw[Lf (by simp) hP]at OA eA
 generalize hA:(OM.bY n).filter (pY [r,q])=lA at OA eA
 let⟨nD,lD,β3,eD,OD,mm,ms,hnD,cw⟩:=EA β2
 subst hnD
 have nD:=JA OD cw
 refine cj (dh (KQ (tp (ac (tp (ac rfl (ac (aG rfl eA) an))) (ac rfl an))) (KQ (ju (KQ (iP rfl rfl eD) (ac rfl an)) (by simp)) an)) (by simp)) (wp_at (le ns i (.fz (.int n)) (.fz (.list ([r,q].map tupI))) (.fz (.list [tL n lA "points",tL (2*mm) lD "knot"])) t6 t7 t8 t9) rfl ?_)
 let⟨nC,lC,β4,eC,OC,_⟩:=Ep (most:=7) (by omega) (by omega) β3
 refine lP (lU (ds:=[tL n lA "points",tL (2*mm) lD "knot",tL nC lC ""]) (λ_ env b=>b=β4/\∃s6 s7 s8 s9,env=le ns i (.fz (.int n)) (.fz (.list ([r,q].map tupI))) (.fz (.list [tL n lA "points",tL (2*mm) lD "knot"])) s6 s7 s8 s9) ?_ ⟨rfl,_,_,_,_,rfl⟩ ?_ ?_)
 .unfold bQ
  rw[az rfl (dh (KQ (ju (KQ (iP rfl rfl eC) (ac rfl an)) (by simp)) an) (by simp)) (kg (by simp))];rfl
 .rintro k d env b hk ⟨rfl,s6,s7,s8,s9,rfl⟩
  obtain⟨n',l,w,rfl,O,hw⟩:∃n' l w,d=tL n' l w/\OM.Ord n' l/\Due n' l w:=by
   have:=Oi hk
   simp only[Oo,List.not_mem_nil,or_false]at this
   rcases this with rfl|rfl|rfl
   .exact⟨_,_,_,rfl,OA,.inr (.inr ⟨rfl,r,q,pr,pq,hA⟩)⟩
   .exact⟨_,_,_,rfl,OD,.inr (.inl ⟨rfl,nD⟩)⟩
   .exact⟨_,_,_,rfl,OC,.inl rfl⟩
  generalize hS3:Sl.fz (.list ([r,q].map tupI))=S4
  generalize hS5:Sl.fz (.list [tL n lA "points",tL (2*mm) lD "knot"])=S5
  refine⟨le ns i (.fz (.int n)) S4 S5 (.fz (aN n' l)) (.fz (.str w)) s8 s9,rfl,?_⟩
  obtain⟨v,ps,ev,hps,eR,hV⟩:∃(v:Str) (ps:List Pr),GR [aN n' l]=.ok (.tuple [.str v,.list (ps.map aq)]) false/\ps.length<=64/\MJ [.tuple [.str v,.list (ps.map aq)],aN n' l]=.ok (.bool true) false/\((v="knot"/\(w=""\/w="knot"))\/(v="points"/\(w=""\/w="points"))):=by
   rcases Kv O with⟨p,ps,e,hp,hl⟩|⟨r',q',e,hr',hq',el⟩
   .refine⟨_,ps,e,hl,LG (.inl ⟨rfl,Nh O hp hl⟩),.inl ⟨rfl,?_⟩⟩
    rcases hw with h|⟨h,_⟩|⟨_,r'',q'',h1,h2,h3⟩
    .exact .inl h
    .exact .inr h
    .exact (IP O hp r'' q'' h1 h2 h3).elim
   .refine⟨_,cn r' q' n',e,by rw[z7];have:=O.hi;omega,LG (.inr ⟨rfl,Nm O hr' hq' el⟩),.inr ⟨rfl,?_⟩⟩
    rcases hw with h|⟨_,h⟩|⟨h,_⟩
    .exact .inl h
    .exact (h r' q' hr' hq' el).elim
    .exact .inr h
  have td:wB (cT (f2 (gv 7) (cst (.str "")) (cz true))) (cT (f2 (f2 (gv 8) (cst (.int 0)) bK) (gv 7) (cz true))) (vl (le ns i (.fz (.int n)) S4 S5 (.fz (aN n' l)) (.fz (.str w)) (.fz (.tuple [.str v,.list (ps.map aq)])) s9)) b=.ok false b:=by
   have g8:f2 (gv 8) (cst (.int 0)) bK (vl (le ns i (.fz (.int n)) S4 S5 (.fz (aN n' l)) (.fz (.str w)) (.fz (.tuple [.str v,.list (ps.map aq)])) s9)) b=.ok (.str v) b:=az rfl rfl rfl
   rcases hV with⟨rfl,rfl|rfl⟩|⟨rfl,rfl|rfl⟩
   .rw[yT,bM _ _ _ false (az rfl rfl HN)];rfl
   .exact nF (bM _ _ _ true (az rfl rfl LK)) (bM _ _ _ false (az g8 rfl Ks))
   .rw[yT,bM _ _ _ false (az rfl rfl HN)];rfl
   .exact nF (bM _ _ _ true (az rfl rfl Lz)) (bM _ _ _ false (az g8 rfl Lh))
  refine DH rfl ⟨Ek n' l,by simp,by omega⟩ ev ⟨rB ps,by rw[Ob,OU];omega⟩ (rW (lG (mH (aG rfl eR))) td) (wp_at (le ns i (.fz (.int n)) S4 S5 (.fz (aN n' l)) (.fz (.str w)) (.fz (.tuple [.str v,.list (ps.map aq++[.int 0])])) (.fz (.list (ps.map aq)))) rfl ?_)
  refine B7 (bM _ _ _ false (az (aG rfl ev) (tp (ac (az rfl rfl rfl) (ac rfl an))) (Jo v (by rcases hV with⟨rfl,_⟩|⟨rfl,_⟩<;>kernel_rfl) ps))) (jn ⟨_,_,rfl,rfl,.fz (aN n' l),.fz (.str w),.fz (.tuple [.str v,.list (ps.map aq++[.int 0])]),.fz (.list (ps.map aq)),?_⟩)
  subst hS3 hS5;rfl
 .rintro env b ⟨rfl,s6,s7,s8,s9,rfl⟩
  exact jn ⟨_,_,rfl,_,_,_,_,_,_,_,_,_,rfl⟩
end RM
namespace RO
open PySem L2
abbrev Fn(K:Frag)(mg:Str->Option Value)(x:Str)(st:Stmt)(ps:List Str)(f:Addr)(fd:FuncData):Prop:=jJ K mg x st ps f fd
abbrev Bt(mg:Str->Option Value):Prop:=jS mg
end RO
section
namespace L2
open PySem PySem.Spec PyProof.Rows
section
variable {K:Frag}{H H':Hp}{a:Addr}
theorem aR.snoc{x y:Int}(q:fF K H a [.int x,.int y]):∀{vs:List V} {ps:List (Int×Int)},aR K H vs ps->aR K H (vs++[.ref a]) (ps++[(x,y)])
 |_,_,.nil=>.cons ⟨a,rfl,q⟩ .nil
 |_,_,.cons r t=>.cons r (aR.snoc q t)
def aR.len{vs:List V}{ps:List (Int×Int)}(h:aR K H vs ps):vs.length=ps.length:=Paired.length h
def aR.same{vs:List V}{ps:List (Int×Int)}(h:aR K H vs ps)(s:ak H H'):aR K H' vs ps:=h.grow s.grow
def aR.at{vs:List V}{ps:List (Int×Int)}{i:Nat}{v:V}(h:aR K H vs ps)(e:vs[i]? =some v):∃p:Int×Int,ps[i]? =some p/\∃b,v=.ref b/\fF K H b [.int p.1,.int p.2]:=Paired.getP h e
def ak.put{o:HO}(s:ak H H')(h:H a=none)(hf:∀x y,H' a≠some (.ba x y)):ak H (L2.upd H' a o):=λb u e=>jC (s b u e) (aC e h) hf
def HU(h:H a=none):∀x y,H a≠some (.ba x y):=λx y z=>by rw[h]at z;cases z
def Lm{xs:List V}(h:H a=some (.lst xs)):∀x y,H a≠some (.ba x y):=λx y z=>by rw[h]at z;cases z
end
end L2
namespace RO
open PySem L2
def C3(N:List Str)(sc:Scope)(NB:List Str)(own:Nat)(ixs:List Nat)(scope:Scope):Bool:=
 decide (scope.kind=.function)&&(scope.names.all λy=>decide (scope.names.lookup y.1=some y.2)) &&
 (scope.names.all λy=>decide (y.2=.free->(sc.names.lookup y.1=some .cell\/sc.names.lookup y.1=some .free)))&&decide NB.Nodup&&decide (NB.length=own+ixs.length) &&
 ((List.range ixs.length).all λk=>decide (NB[own+k]? =N[ixs.getD k 0]?)&&(match NB[own+k]? with|some x=>decide ((x,NameKind.free)∈scope.names)|none=>true))
def o5{X:Cx}{NB:List Str}{own:Nat}{ixs:List Nat}{scope:Scope}(h:C3 X.N X.env.scope NB own ixs scope=true):dU X NB own ixs scope:=by
 unfold C3 at h
 simp only[Oy,Pa,OB,OI]at h
 let⟨⟨⟨⟨⟨h1,h3⟩,h4⟩,h5⟩,h6⟩,h7⟩:=h
 refine⟨h1,h3,h4,h5,h6,λk hk=>⟨(h7 k hk).1,λx hx=>?_⟩⟩
 have:=(h7 k hk).2
 rw[hx]at this
 simpa using this
section
variable {X:Cx}{tg l:Expr}{tl:TE}{K:Frag}{H H1:Hp}{a:Addr}{xs:List V}{σ:St}
def M7(K:Frag)(tl:TE):TI:=λσ H R=>tl σ H λx H1=>∃a xs,x=.ref a/\((gY K H1 a xs/\R (BE K a) H1)\/(fF K H1 a xs/\R (HV K a) H1))
end
def NW(K:Frag){X:Cx}(h:X.K=K:=by rfl):Er X (JC K):=by subst h;exact ig
def IL(K:Frag)(i j:Nat){X:Cx}{x y:Str}{px py pos:Pos}{k:Nat}(hN:X.N.Nodup)(hi:X.N[i]? =some x)(hj:X.N[j]? =some y)(hx:X.env.scope.names.lookup x=some .local)(hy:X.env.scope.names.lookup y=some .local)(hc:X.calm=true)(hK:X.K=K) :
  PG X (.Tuple [.Name x px,.Name y py] k pos) (Fi K 2 (qU (mL i) (qU (mL j) Gg))):=by
 subst hK
 exact qY hc (fg (dk hN hi (Or.inl hx) (Or.inr hx)) (fg (dk hN hj (Or.inl hy) (Or.inr hy)) nV))
section
open PySem.Spec PyProof.Rows
variable {X:Cx}{tg l:Expr}{tl:TE}
def Kb(hl:PE X l tl):PI X tg l (M7 X.K tl):=by
 intro pins s σ H R I h
 refine cI (hl pins s σ H _ I h) λv s1 ⟨x,H1,I1,r1,q1⟩=>?_
 let⟨a,xs,e,q⟩:=q1
 subst e
 cases r1
 rcases q with⟨hq,q⟩|⟨hq,q⟩
 .let⟨its,rv,p,hz⟩:=I1.list hq
  refine QH p.isList ⟨s1.heap.objs.size,[s1.heap.objs.size],_,_,H1,rfl,I1.kept λb o e=>Oa _ e,oM a _,⟨_,Ou _ rfl,rfl,rfl⟩,λb hb=>?_,q⟩
  have e:b=s1.heap.objs.size:=by simpa using hb
  subst e
  exact I1.fpOk (Oc _) (I1.hok.fresh (Oc _))
 .let⟨its,rv,p,hz⟩:=I1.tuple hq
  refine wpAny_pyIter_tuple (show s1.heap.IsTuple a its.toArray from p) ⟨s1.heap.objs.size,[s1.heap.objs.size],_,_,H1,rfl,I1.kept λb o e=>Oa _ e,rZ a _,⟨_,Ou _ rfl,rfl,rfl⟩,λb hb=>?_,q⟩
  have e:b=s1.heap.objs.size:=by simpa using hb
  subst e
  exact I1.fpOk (Oc _) (I1.hok.fresh (Oc _))
end
section
variable {K:Frag}{H H1 H':Hp}{a:Addr}{xs:List V}{σ:St}
abbrev Ls(J:It)(g:TG)(tb:TS)(D:Ends)(σ:St)(H:Hp):Prop:=∃W:Nat->Nat->St->Hp->Prop,(∃m,W 0 m σ H)/\∀i m σ H,W i m σ H->
   (J.stop i H/\D.nx σ H)\/(J.go i H/\∃N:St->Hp->Prop,(∀σ' H',N σ' H'->∃m',m'<m/\W (i+1) m' σ' H')/\∀x H',J.yld i H x H'->g x σ H' λσ2 H2=>tb {D with nx:=N,ct:=N,bk:=D.nx} σ2 H2)
def Ge(s:ak H1 H')(hq:gY K H1 a xs\/fF K H1 a xs):gY K H' a xs\/fF K H' a xs:=hq.elim (λq=>.inl (s.seq q)) λq=>.inr (q.grow s.grow)
def Gx{g:TG}{tb:TS}{D:Ends}(hq:gY K H1 a xs\/fF K H1 a xs)(Pv:Nat->St->Hp->Prop)(h0:Pv 0 σ H)(hl:∀i σ H',Pv i σ H'->ak H1 H')
  (hs:∀i x σ H,xs[i]? =some x->Pv i σ H->g x σ H λσ2 H2=>tb {D with nx:=Pv (i+1),ct:=Pv (i+1),bk:=D.nx} σ2 H2) (hd:∀σ H,Pv xs.length σ H->D.nx σ H) :
  (gY K H a xs/\Ls (BE K a) g tb D σ H)\/(fF K H a xs/\Ls (HV K a) g tb D σ H):=
 hq.elim (λq=>.inl ⟨(hl _ _ _ h0).seq q,xJ Pv h0 (λi σ H' _ p=>(hl i σ H' p).seq q) hs hd⟩) λq=>.inr ⟨q.grow (hl _ _ _ h0).grow,FU Pv h0 (λi σ H' _ p=>q.grow (hl i σ H' p).grow) hs hd⟩
def zD(J:It)(own:Nat)(ixs:List Nat)(g:TG)(tt:TT)(te:TE)(Q:VK)(D:Addr)(σ:St)(H:Hp):Prop:=∃W:Nat->Nat->St->Hp->Prop,(∃m,W 0 m (vP own ixs σ) (upd H D (.lst [])))/\∀i m σ' H',W i m σ' H'->
   (J.stop i H'/\(∃acc,H' D=some (.lst acc))/\Q (.ref D) H')\/
   (J.go i H'/\∃N:St->Hp->Prop,(∀σ2 H2,N σ2 H2->∃m',m'<m/\W (i+1) m' σ2 H2)/\∀x H2,J.yld i H' x H2->fO g tt te D x σ' H2 N)
structure xY(own:Nat)(ixs:List Nat)(wi:TI)(g:TG)(tt:TT)(te:TE)(σ:St)(H:Hp)(Q:VK):Prop where
 out:wi σ H λJ H1=>∀D,H1 D=none->zD J own ixs g tt te Q D σ H1
def yV{own:Nat}{ixs:List Nat}{wi:TI}{g:TG}{tt:TT}{te:TE}{Q:VK}(h:wi σ H λJ H1=>∀D,H1 D=none->zD J own ixs g tt te Q D σ H1):xY own ixs wi g tt te σ H Q:=⟨h⟩
def v5{X:Cx}{NB:List Str}{own:Nat}{ixs:List Nat}{scope:Scope}{tg iter elt:Expr}{ifs:List Expr}{wi:TI}{g:TG}{tt:TT}{te:TE}{pos:Pos}(hc:X.calm=true)(S:dU X NB own ixs scope)(hi:PI X tg iter wi)
  (hg:∀C ex s3 H3 pn,PG (jx X NB scope C ex s3 H3 pn) tg g) (ht:∀C ex s3 H3 pn,Dj (jx X NB scope C ex s3 H3 pn) ifs tt) (he:∀C ex s3 H3 pn,PE (jx X NB scope C ex s3 H3 pn) elt te)
  (hs:∀x,foldedSetIterable iter X.env x=pure x:=by intro _;rfl):PE X (.ListComp elt [⟨tg,iter,ifs,0⟩] scope pos) (xY own ixs wi g tt te):=
 λpins s σ H Q I h=>ya hc S hi hg ht he hs pins s σ H Q I h.out
section
variable {own:Nat}{ixs:List Nat}{g:TG}{tt:TT}{te:TE}{Q:VK}{D:Addr}
def GG(Pv:Nat->St->Hp->Prop)(h0:Pv 0 (vP own ixs σ) (upd H D (.lst [])))(hl:∀i σ H,i<=xs.length->Pv i σ H->gY K H a xs)
  (hs:∀i x σ H,xs[i]? =some x->Pv i σ H->fO g tt te D x σ H (Pv (i+1))) (hd:∀σ H,Pv xs.length σ H->(∃acc,H D=some (.lst acc))/\Q (.ref D) H):zD (BE K a) own ixs g tt te Q D σ H:=Bq Pv h0 hl hs hd
def xw{lo:Int}{n:Nat}(Pv:Nat->St->Hp->Prop)(h0:Pv 0 (vP own ixs σ) (upd H D (.lst [])))
  (hs:∀i σ H,i<n->Pv i σ H->fO g tt te D (.int (lo+i)) σ H (Pv (i+1))) (hd:∀σ H,Pv n σ H->(∃acc,H D=some (.lst acc))/\Q (.ref D) H):zD (Ci lo n) own ixs g tt te Q D σ H:=yq Pv h0 hs hd
end
def wL{i:Nat}{te:TE}{D:Addr}{x:V}{N:St->Hp->Prop}(h:te (σ.set i (some x)) H λv H5=>∃acc,H5 D=some (.lst acc)/\acc.length<sizeLine/\N (σ.set i (some x)) (upd H5 D (.lst (acc++[v])))):fO (mL i) Iy te D x σ H N:=by
 unfold fO mL Iy
 exact vd h
def D5{i j:Nat}{x y:V}{Q:St->Hp->Prop}(h:fF K H a [x,y])(q:Q ((σ.set i (some x)).set j (some y)) H):Fi K 2 (qU (mL i) (qU (mL j) Gg)) (.ref a) σ H Q:=⟨a,_,rfl,h,rfl,x,_,rfl,y,_,rfl,rfl,q⟩
def Ng{c A B:Prop}[Decidable c](h:c)(a:A):if c then A else B:=by rw[Od h];exact a
def MY{c A B:Prop}[Decidable c](h:¬c)(b:B):if c then A else B:=by rw[Oe h];exact b
def take_snoc{α:Type}{l:List α}{i:Nat}{x:α}(h:l[i]? =some x):l.take (i+1)=l.take i++[x]:=by
 rw[Pu,h];rfl
def take_all{α:Type}(l:List α):l.take l.length=l:=Q4 (Oc _)
end
def dv(n:Nat):(OM.bY n).length=n*n:=by unfold OM.bY;simp
def GW{n i:Nat}(h:i<n*n):(OM.bY n)[i]? =some (((i/n:Nat):Int),((i%n:Nat):Int)):=by
 unfold OM.bY
 rw[Om,QU h];rfl
def NT{n:Nat}(h:n<=8):n*n<=64:=Py h h
section
variable {P:Program}{w:World}{K:Frag}{mg:Str->Option Value}{base:Heap}
def zA(K:Frag):Sp:=λvs H Q _=>∃n:Nat,vs= [.int n]/\1<=n/\n<=8/\∀H' l ws,ak H H'->H l=none->H' l=some (.lst ws)->aR K H' ws (OM.bY n)->Q (.ref l) H'
def GU:aF ["many"] ["many"] (au kc):=⟨rfl,rfl,rfl,by decide +kernel,rfl,by decide +kernel,by decide +kernel⟩
def LD:(["number","many"]:List Str).Nodup:=by decide +kernel
def C1{f:Addr}{fd:FuncData}(F:Fn K mg "every_pair" kc ["many"] f fd)(B:Bt mg):gW P w K mg base J9 1 f fd ["many"] (zA K):=by
 refine F.F.ok GU (λvs H Q E h=>?_) (λcdv A outer s H vs Q E hr h=>?_)
 .obtain⟨n,rfl,_⟩:=h;rfl
 .obtain⟨n,rfl,h1,h8,k⟩:=h
  refine⟨_,jb (pf (v5 (own:=1) (ixs:=[0]) rfl (o5 (by kernel_rfl)) (l8 rfl B.range (aQ (x8 jH (pv 0) (pv 0)) bC))
   (λC ex s3 H3 pn=>dk (i:=0) LD rfl (Or.inl rfl)) (λC ex s3 H3 pn=>uX)
   (λC ex s3 H3 pn=>yZ (aQ (x8 ot (pv 0) (pv 1)) (aQ (x8 mW (pv 0) (pv 1)) bC))))),?_⟩
  have hn:=NT h8
  have e0:((n:Int)*(n:Int))=((n*n:Nat):Int):=by rw[Int.natCast_mul]
  refine yV ⟨_,rfl,_,rfl,_,_,rfl,rfl,.inl ⟨by omega,by omega⟩,_,rfl,by rw[e0];omega,by rw[e0];omega,λD hD=>?_⟩
  rw[e0,Pc]
  refine xw (λi σ' H'=>(∃v,σ'= [v,some (.int n)])/\ak H H'/\∃vs,H' D=some (.lst vs)/\aR K H' vs ((OM.bY n).take i)) ⟨⟨none,rfl⟩,(ak.refl H).put hD (HU hD),[],av,.nil⟩ ?_ ?_
  .rintro i σ' H' hi ⟨⟨v,rfl⟩,s1,vs,hv,hp⟩
   have hn0:(0:Int)<(n:Int):=by omega
   refine wL ⟨_,rfl,_,rfl,_,_,rfl,rfl,⟨hn0,by omega⟩,_,rfl,_,rfl,_,_,rfl,rfl,hn0,by show 2<=sizeLine;rw[OU];omega,λp hp0=>?_⟩
   have hpD:D≠p:=aC hv hp0
   have hl:=hp.len
   refine⟨vs,by rw[ar hpD];exact hv,?_,⟨_,rfl⟩,?_,vs++[.ref p],av,?_⟩
   .rw[hl,PL,OU];rw[dv];omega
   .exact (s1.put (s1.free hp0) (HU hp0)).put hD (Lm (by rw[ar hpD];exact hv))
   .rw[take_snoc (GW hi)]
    have g1:iV H' (upd H' p (.tup [.int ((0+(i:Int))/n),.int ((0+(i:Int))%n)])):=iV.new hp0
    have g2:∀o,iV (upd H' p (.tup [.int ((0+(i:Int))/n),.int ((0+(i:Int))%n)])) (upd (upd H' p (.tup [.int ((0+(i:Int))/n),.int ((0+(i:Int))%n)])) D o):=λo=>iV.list (by rw[ar hpD];exact hv)
    refine aR.snoc ?_ (hp.grow (g1.trans (g2 _)))
    refine(fF.grow (.inl (.inl ?_)) (g2 _))
    rw[av,Pn];rfl
  .rintro σ' H' ⟨_,s1,vs,hv,hp⟩
   refine⟨⟨_,hv⟩,k H' D vs s1 hD hv ?_⟩
   rw[<-dv n,take_all]at hp
   exact hp
end
end RO
end
namespace RO
open PySem L2
structure TabAt(n:Nat)(M:OM.Tb)(L:Addr)(r:Nat->Addr)(H:Hp):Prop where
 top:H L=some (.lst ((List.range n).map λi=>V.ref (r i)))
 row:∀i,i<n->H (r i)=some (.lst ((List.range n).map λj=>V.bl (M i j)))
 inj:∀i j,i<n->j<n->r i=r j->i=j
 ne:∀i,i<n->r i≠L
def AX{n x:Nat}(h:x<n):AW n (x:Int)=some x:=by
 unfold AW;rw[Od (by omega),Od (by omega)];simp
def CS{α:Type}{xs:List α}{x:Nat}(h:x<xs.length):jw xs (x:Int)=xs[x]?:=by
 unfold jw;rw[AX h];rfl
def gN{f:Nat->V}{n x:Nat}(h:x<n):jw ((List.range n).map f) (x:Int)=some (f x):=by
 rw[CS (by simpa using h),Om,QU h];rfl
def uA{f:Nat->V}{n x:Nat}(h:x<n):AW ((List.range n).map f).length (x:Int)=some x:=by
 rw[Ob,P6];exact AX h
def A4{f:Nat->V}{n y:Nat}{v:V}:((List.range n).map f).set y v=(List.range n).map λj=>if j=y then v else f j:=by
 apply Qo
 intro i
 by_cases hi:i<n
 .by_cases e:y=i
  .subst e;simp[Q5,hi]
  .have e':¬i=y:=λz=>e z.symm
   simp[Q5,hi,e,e']
 .rw[PH (by simp;omega),PH (by simp;omega)]
section
variable {n:Nat}{M:OM.Tb}{L:Addr}{r:Nat->Addr}{H H':Hp}
def TabAt.set(T:TabAt n M L r H){x y:Nat}(hx:x<n):TabAt n (M.set x y) L r (upd H (r x) (.lst (((List.range n).map λj=>V.bl (M x j)).set y (.bl true)))):=by
 refine⟨by rw[ar (T.ne x hx).symm];exact T.top,λi hi=>?_,T.inj,T.ne⟩
 by_cases e:i=x
 .subst e
  rw[av,A4]
  refine congrArg _ (congrArg _ (PD λj _=>?_))
  unfold OM.Tb.set
  by_cases c:j=y
  .simp[c]
  .simp[c]
 .rw[ar (λz=>e (T.inj i x hi hx z)),T.row i hi]
  refine congrArg _ (congrArg _ (PD λj _=>?_))
  unfold OM.Tb.set;simp[e]
def TabAt.same(T:TabAt n M L r H)(s:ak H H'):TabAt n M L r H':=⟨s _ _ T.top,λi hi=>s _ _ (T.row i hi),T.inj,T.ne⟩
end
def vf{n:Nat}{ps:List (Int×Int)}(w:OM.Wn n ps){p:Int×Int}(h:p∈ps):∃u v:Nat,p=((u:Int),(v:Int))/\u<n/\v<n:=by
 let⟨x,y⟩:=p
 have q:=w _ h
 simp only at q
 exact⟨x.toNat,y.toNat,by rw[Int.toNat_of_nonneg q.1.1,Int.toNat_of_nonneg q.2.1],by omega,by omega⟩
def jd{M0 M:OM.Tb}{m:Nat}{D D':Nat->Nat->Prop}(P:OM.Phase M0 M m D)(h:∀a b,D a b↔D' a b):OM.Phase M0 M m D':=λa b=>by rw[P a b,h a b]
def lZ{l:List (Int×Int)}{u v a b:Nat}:(((a:Int),(b:Int))∈l\/(a=u/\b=v))↔((a:Int),(b:Int))∈l++[((u:Int),(v:Int))]:=by
 rw[Ox,OT,Prod.mk.injEq]
 constructor
 .rintro (h|⟨h1,h2⟩)
  .exact .inl h
  .exact .inr ⟨by omega,by omega⟩
 .rintro (h|⟨h1,h2⟩)
  .exact .inl h
  .exact .inr ⟨by omega,by omega⟩
def Fm{M:OM.Tb}{u v a b:Nat}:M.set u v a b=true↔M a b=true\/(a=u/\b=v):=by
 unfold OM.Tb.set
 by_cases c:a=u/\b=v
 .simp[c]
 .rw[Oe c];exact⟨.inl,λh=>h.resolve_right c⟩
def KN(n:Nat)(x:V):(List.replicate n [x]).flatten=(List.range n).map λ_=>x:=by
 rw[List.flatten_replicate_singleton,List.map_const',P6]
section
variable {P:Program}{w:World}{K:Frag}{mg:Str->Option Value}{base:Heap}
def DT(K:Frag):Sp:=λvs H Q _=>∃(n:Nat) (a:Addr) (xs:List V) (ps:List (Int×Int)),vs= [.int n,.ref a]/\1<=n/\n<=8/\(gY K H a xs\/fF K H a xs)/\aR K H xs ps/\OM.Wn n ps/\
 ∀H' t ws,ak H H'->H t=none->H' t=some (.tup ws)->aR K H' ws (OM.cB n (OM.Tr (OM.Mem ps)))->Q (.ref t) H'
def gV:aF ["many","pairs","corners","leads","a","b","middle"] ["many","pairs"] (au n9):=⟨rfl,rfl,rfl,by decide +kernel,rfl,by decide +kernel,by decide +kernel⟩
def KD:(["start","many"]:List Str).Nodup:=by decide +kernel
def Ji:(["a","b","leads"]:List Str).Nodup:=by decide +kernel
set_option maxHeartbeats 1000000 in
theorem BN{f g:Addr}{fd gd:FuncData}(F:Fn K mg "closed" n9 ["many","pairs"] f fd)(G:Fn K mg "every_pair" kc ["many"] g gd)(GE:gW P w K mg base J9 1 g gd ["many"] (zA K))(B:Bt mg):gW P w K mg base J9 2 f fd ["many","pairs"] (DT K):=by
 refine F.F.ok gV (λvs H Q E h=>?_) (λcdv A outer s H vs Q E hr h=>?_)
 .obtain⟨n,a,xs,ps,rfl,_⟩:=h;rfl
 .obtain⟨n,a,xs,ps,rfl,h1,h8,hq,hp,wn,k⟩:=h
  refine⟨_,dw (m6 (i:=2) gV.nd rfl (Or.inl rfl) (ox GE hr rfl G.mg G.F.kp G.b .nil KI (aQ (pv 0) bC)))
   (dw (m6 (i:=3) gV.nd rfl (Or.inr rfl) (v5 (own:=1) (ixs:=[0]) rfl (o5 (by kernel_rfl)) (l8 rfl B.range (aQ (pv 0) bC))
    (λC ex s3 H3 pn=>dk (i:=0) KD rfl (Or.inl rfl)) (λC ex s3 H3 pn=>uX) (λC ex s3 H3 pn=>x8 IU (CK (aQ Ad bC)) (pv 1))))
   (dw (vZ PassesOwn.never rfl (Kb (pv 1)) (qY rfl (fg (dk (i:=4) gV.nd rfl (Or.inl rfl)) (fg (dk (i:=5) gV.nd rfl (Or.inl rfl)) nV)))
    (jb (qz Ad (yW (kO ig (pv 3) (pv 4) (λ_ _=>rfl)) (pv 5) set_list))))
   (dw (vZ PassesOwn.never rfl (l8 rfl B.range (aQ (pv 0) bC)) (dk (i:=6) gV.nd rfl (Or.inl rfl))
    (jb (vZ PassesOwn.never rfl (zI (pv 2)) (qY rfl (fg (dk (i:=4) gV.nd rfl (Or.inl rfl)) (fg (dk (i:=5) gV.nd rfl (Or.inl rfl)) nV)))
     (jb (EI (PW.pt (CD (zg (kO ig (kO ig (pv 3) (pv 4) (λ_ _=>rfl)) (pv 6) (λ_ _=>rfl))) (AH (zg (kO ig (kO ig (pv 3) (pv 6) (λ_ _=>rfl)) (pv 5) (λ_ _=>rfl))))))
      (jb (qz Ad (yW (kO ig (pv 3) (pv 4) (λ_ _=>rfl)) (pv 5) set_list))) u4)))))
   (jb (pf (iE c7 rfl B.tuple (by decide +kernel) (aQ (v5 (NB:=["a","b","leads"]) (own:=2) (ixs:=[3]) rfl (o5 (by kernel_rfl)) (zI (pv 2))
    (λC ex s3 H3 pn=>IL K 0 1 Ji rfl rfl rfl rfl rfl rfl)
    (λC ex s3 H3 pn=>Aw (zg (kO (NW K) (kO (NW K) (pv 2) (pv 0) (λ_ _=>rfl)) (pv 1) (λ_ _=>rfl)))) (λC ex s3 H3 pn=>yZ (aQ (pv 0) (aQ (pv 1) bC)))) bC))))))),?_⟩
  have hn:=NT h8
  have hn0:(0:Int)<=(n:Int):=by omega
  refine⟨_,rfl,n,rfl,h1,h8,λH1 c ws s1 hc0 hc hw=>?_⟩
  have hwl:ws.length=n*n:=by rw[hw.len,dv]
  have gw:OM.Wn n (OM.bY n):=λp hp=>OM.aY.mp hp
  refine yV ?_
  refine⟨_,rfl,n,rfl,by omega,by omega,λD hD=>?_⟩
  rw[Pc]
  refine xw (λi σ' H'=>(∃v,σ'= [v,some (.int n)])/\ak H1 H'/\∃r:Nat->Addr,H' D=some (.lst ((List.range i).map λk=>V.ref (r k)))/\
   (∀k,k<i->H' (r k)=some (.lst ((List.range n).map λ_=>V.bl false))/\H1 (r k)=none/\r k≠D)/\∀j k,j<i->k<i->r j=r k->j=k)
   ?_ ?_ ?_
  .exact⟨⟨none,rfl⟩,(ak.refl H1).put hD (HU hD),λ_=>0,av,λk hk=>absurd hk (Nat.not_lt_zero _),λj k hj=>absurd hj (Nat.not_lt_zero _)⟩
  .rintro i σ' H' hi ⟨⟨v,rfl⟩,s2,r,hr0,hr1,hr2⟩
   refine wL ⟨by show 1<=sizeLine;rw[OU];omega,λp hp0=>⟨_,rfl,p,n,[.bl false],rfl,rfl,av,by omega,by omega,by show 1*(n:Int).toNat<=sizeLine;rw[OU];omega,λq hq0=>?_⟩⟩
   have hqp:q≠p:=by intro e;subst e;rw[av]at hq0;cases hq0
   have hq1:H' q=none:=by rw[ar hqp]at hq0;exact hq0
   have hDp:D≠p:=aC hr0 hp0
   have hDq:D≠q:=aC hr0 hq1
   rw[Pc,KN]
   refine⟨_,by rw[ar hDq,ar hDp];exact hr0,by rw[Ob,P6,OU];omega,⟨_,rfl⟩,((s2.put (s2.free hp0) (HU hp0)).put (s2.free hq1) (HU hq0)).put hD (Lm (by rw[ar hDq,ar hDp];exact hr0)),λk=>if k=i then q else r k,?_,λk hk=>?_,λj k hj hk e=>?_⟩
   .have e:(List.range i).map (λk=>V.ref (r k))=(List.range i).map (λk=>V.ref (if k=i then q else r k)):=PD λk hk=>by
     have:=OI.mp hk
     rw[Oe (by omega)]
    rw[av,List.range_succ,OL,e]
    simp
   .dsimp only
    by_cases e:k=i
    .rw[Od e]
     exact⟨by rw[ar hDq.symm,av],s2.free hq1,hDq.symm⟩
    .rw[Oe e]
     obtain⟨a1,a2,a3⟩:=hr1 k (by omega)
     exact⟨by rw[ar a3,ar (aC a1 hq1),ar (aC a1 hp0)];exact a1,a2,a3⟩
   .dsimp only at e
    by_cases ej:j=i
    .by_cases ek:k=i
     .omega
     .rw[Od ej,Oe ek]at e
      exact absurd e.symm (aC (hr1 k (by omega)).1 hq1)
    .by_cases ek:k=i
     .rw[Oe ej,Od ek]at e
      exact absurd e (aC (hr1 j (by omega)).1 hq1)
     .rw[Oe ej,Oe ek]at e
      exact hr2 j k (by omega) (by omega) e
  rintro σ2 H2 ⟨_,s2,r,hr0,hr1,hr2⟩
  refine⟨⟨_,hr0⟩,?_⟩
  have sep:∀i,i<n->H1 (r i)=none:=λi hi=>(hr1 i hi).2.1
  have T0:TabAt n (λ_ _=>false) D r H2:=⟨hr0,λi hi=>(hr1 i hi).1,hr2,λi hi=>(hr1 i hi).2.2⟩
  refine⟨_,rfl,a,xs,rfl,Gx (H1:=H1) (Ge s1 hq) (λi σ' H'=>(∃x y,σ'= [some (.int n),some (.ref a),some (.ref c),some (.ref D),x,y,none])/\ak H1 H'/\∃M,TabAt n M D r H'/\∀u v:Nat,M u v=true↔((u:Int),(v:Int))∈ps.take i)
   ⟨⟨none,none,rfl⟩,s2,_,T0,λu v=>by simp⟩ (λi σ' H' q=>q.2.1) ?_ ?_⟩
  .rintro i x σ' H' hx ⟨⟨_,_,rfl⟩,s3,M,T,hM⟩
   obtain⟨p,hpi,b,rfl,hb⟩:=(hp.same (s1.trans s3)).at hx
   obtain⟨u,v,rfl,hu,hv⟩:=vf wn (Oi hpi)
   refine D5 hb ?_
   refine⟨_,rfl,_,rfl,D,_,u,_,rfl,rfl,.inl (.inl T.top),gN hu,_,rfl,r u,_,v,v,rfl,rfl,T.row u hu,uA hv,⟨_,_,rfl⟩,s3.put (sep u hu) (Lm (T.row u hu)),_,T.set hu,λx y=>?_⟩
   rw[take_snoc hpi,<-lZ,Fm,hM]
  rintro σ3 H3 ⟨⟨x3,y3,rfl⟩,s3,M3,T3,hM3⟩
  rw[hp.len,take_all]at hM3
  refine⟨_,rfl,n,rfl,by omega,by omega,?_⟩
  rw[Pc]
  refine Bw (λm σ' H'=>(∃x y z,σ'= [some (.int n),some (.ref a),some (.ref c),some (.ref D),x,y,z])/\ak H1 H'/\∃M,TabAt n M D r H'/\OM.Tab n ps M/\OM.FL M m)
   ⟨⟨_,_,_,rfl⟩,s3,M3,T3,⟨λa b h=>by have:=wn _ ((hM3 a b).mp h);simp only at this;omega,λa b h=>(hM3 a b).mpr h,λa b h=>.one ((hM3 a b).mp h)⟩,λk a b hk=>absurd hk (Nat.not_lt_zero _)⟩ ?_ ?_
  .rintro m σ' H' hm ⟨⟨_,_,_,rfl⟩,s4,M,T,TT,Th⟩
   rw[Pn]
   refine⟨_,rfl,c,rfl,⟨ws,.inl (.inl (s4 _ _ hc))⟩,xJ (xs:=ws) (λi σ' H'=>(∃x y,σ'= [some (.int n),some (.ref a),some (.ref c),some (.ref D),x,y,some (.int m)])/\ak H1 H'/\∃M',TabAt n M' D r H'/\OM.Phase M M' m λu v=>((u:Int),(v:Int))∈(OM.bY n).take i)
    ⟨⟨_,_,rfl⟩,s4,M,T,jd (OM.Phase.start M m) λa b=>by simp⟩ (λi σ' H' _ q=>.inl (.inl (q.2.1 _ _ hc))) ?_ ?_⟩
   .rintro i x σ' H' hx ⟨⟨_,_,rfl⟩,s5,M',T',Ph⟩
    obtain⟨p,hpi,b,rfl,hb⟩:=(hw.same s5).at hx
    obtain⟨u,v,rfl,hu,hv⟩:=vf gw (Oi hpi)
    refine D5 hb ?_
    have st:=Ph.step u v
    refine⟨_,rfl,_,rfl,D,_,u,_,rfl,rfl,.inl (.inl T'.top),gN hu,_,rfl,r u,_,m,_,rfl,rfl,.inl (.inl (T'.row u hu)),gN hm,_,rfl,?_⟩
    by_cases c1:M' u m=true
    .refine Ng c1 ?_
     refine⟨_,rfl,_,rfl,D,_,m,_,rfl,rfl,.inl (.inl T'.top),gN hm,_,rfl,r m,_,v,_,rfl,rfl,.inl (.inl (T'.row m hm)),gN hv,_,rfl,?_⟩
     by_cases c2:M' m v=true
     .refine Ng c2 ?_
      rw[Od ⟨c1,c2⟩]at st
      refine⟨_,rfl,_,rfl,D,_,u,_,rfl,rfl,.inl (.inl T'.top),gN hu,_,rfl,r u,_,v,v,rfl,rfl,T'.row u hu,uA hv,⟨_,_,rfl⟩,s5.put (sep u hu) (Lm (T'.row u hu)),_,T'.set hu,jd st λa b=>?_⟩
      rw[take_snoc hpi];exact lZ
     .refine MY c2 ?_
      rw[Oe λz=>c2 z.2]at st
      refine⟨⟨_,_,rfl⟩,s5,_,T',jd st λa b=>?_⟩
      rw[take_snoc hpi];exact lZ
    .refine MY c1 ?_
     rw[Oe λz=>c1 z.1]at st
     refine uQ ⟨⟨_,_,rfl⟩,s5,_,T',jd st λa b=>?_⟩
     rw[take_snoc hpi];exact lZ
   .rintro σ' H' ⟨⟨_,_,rfl⟩,s5,M',T',Ph⟩
    rw[hw.len,take_all]at Ph
    have dn:=Ph.done (n:=n) (λa b ha hb=>OM.aY.mpr ⟨⟨by simp,by simp;omega⟩,by simp,by simp;omega⟩) TT.inn Th
    exact⟨⟨_,_,_,rfl⟩,s5,M',T',TT.phase Ph,dn.1⟩
  rintro σ4 H4 ⟨⟨x4,y4,z4,rfl⟩,s4,M,T,TT,Th⟩
  refine yV ⟨_,rfl,c,rfl,⟨ws,.inl (.inl (s4 _ _ hc))⟩,λD' hD'=>GG (xs:=ws) (λi σ' H'=>(∃x y,σ'= [x,y,some (.ref D)])/\ak H4 H'/\∃vs,H' D'=some (.lst vs)/\aR K H' vs (((OM.bY n).take i).filter λp=>M p.1.toNat p.2.toNat))
   ⟨⟨_,_,rfl⟩,(ak.refl H4).put hD' (HU hD'),[],av,.nil⟩ (λi σ' H' _ q=>.inl (.inl (q.2.1 _ _ (s4 _ _ hc)))) ?_ ?_⟩
  .rintro i x σ' H' hx ⟨⟨_,_,rfl⟩,s5,vs,hv,hpv⟩
   obtain⟨p,hpi,b,rfl,hb⟩:=(hw.same (s4.trans s5)).at hx
   obtain⟨u,v,rfl,hu,hv'⟩:=vf gw (Oi hpi)
   refine D5 hb ?_
   have T':=T.same s5
   refine⟨_,rfl,_,rfl,D,_,u,_,rfl,rfl,.inl (.inl T'.top),gN hu,_,rfl,r u,_,v,_,rfl,rfl,.inl (.inl (T'.row u hu)),gN hv',_,rfl,?_⟩
   by_cases c1:M u v=true
   .refine Ng c1 ?_
    refine⟨_,rfl,_,rfl,by show 2<=sizeLine;rw[OU];omega,λp hp0=>?_⟩
    have hpD:D'≠p:=aC hv hp0
    refine⟨vs,by rw[ar hpD];exact hv,?_,⟨_,_,rfl⟩,(s5.put (s5.free hp0) (HU hp0)).put hD' (Lm (by rw[ar hpD];exact hv)),_,av,?_⟩
    .rw[hpv.len]
     refine Nat.lt_of_le_of_lt (O6 ..) ?_
     rw[PL,dv,OU];omega
    .rw[take_snoc hpi,List.filter_append,List.filter_cons_of_pos (by simpa using c1),List.filter_nil]
     have g1:iV H' (upd H' p (.tup [.int u,.int v])):=iV.new hp0
     have g2:∀o,iV (upd H' p (.tup [.int u,.int v])) (upd (upd H' p (.tup [.int u,.int v])) D' o):=λo=>iV.list (by rw[ar hpD];exact hv)
     refine aR.snoc ?_ (hpv.grow (g1.trans (g2 _)))
     exact fF.grow (.inl (.inl av)) (g2 _)
   .refine MY c1 ?_
    refine⟨⟨_,_,rfl⟩,s5,vs,hv,?_⟩
    rw[take_snoc hpi,List.filter_append,List.filter_cons_of_neg (by simpa using c1),List.filter_nil,QD]
    exact hpv
  .rintro σ' H' ⟨_,s5,vs,hv,hpv⟩
   rw[hw.len,take_all]at hpv
   refine⟨⟨_,hv⟩,D',vs,rfl,.inl ⟨.inl (.inl hv),λt ht=>?_⟩⟩
   have sA:ak H H':=(s1.trans s4).trans s5
   refine k _ t vs (sA.put (sA.free ht) (HU ht)) (sA.free ht) av ?_
   have e:((OM.bY n).filter λp=>M p.1.toNat p.2.toNat)=OM.cB n (OM.Tr (OM.Mem ps)):=by
    unfold OM.cB
    refine Qp λp hp=>?_
    obtain⟨u,v,rfl,hu,hv⟩:=vf gw hp
    have:=TT.all wn Th u v
    simp only[Pc]
    rw[Qa,this]
    simp
   rw[e]at hpv
   exact hpv.grow (iV.new ht)
end
end RO
namespace RO
open PySem L2 RM
section
variable {P:Program}{w:World}{K:Frag}{mg:Str->Option Value}{base:Heap}{ca:Str->Addr}
def NY{k:Nat}{f:Addr}{fd:FuncData}{ps:List Str}{sp:Sp}(F:gW P w K mg base J9 k f fd ps sp):gW P w K mg base (ue P w) k f fd ps sp:=
 ⟨F.len,λA outer s H args us vs Q E hr he hb hv hs=>Rq (F.run A outer s H args us vs Q E hr he hb hv hs) λr s' h=>by
  cases r with
  |ok x=>cases x<;>exact h
  |error e=>exact h.elim⟩
def yr{G H:Hp}(s:ak G H){ws:List V}{ps:List Pr}(h:aR K H ws ps):aR K (c9 G H) ws ps:=Paired.mapP h λv p ⟨a,e,q⟩=>⟨a,e,fh s q⟩
def rE{ds:List D}(h:dZ ds≠.bad):∃(n:Nat) (d:D) (ps:List Pr),ds= [.int n,d]/\mQ d=some (ps.map aq)/\1<=n/\n<=8/\OM.Wn n ps/\dZ ds=.ok (.tuple ((OM.cB n (OM.Tr (OM.Mem ps))).map aq)) false:=by
 unfold dZ at h
 split at h
 .rename_i n d
  cases q:mQ d with
  |none=>rw[q]at h;exact absurd rfl h
  |some es=>
   rw[q]at h
   dsimp only at h
   cases q2:gy es with
   |none=>rw[q2]at h;exact absurd rfl h
   |some ps=>
    rw[q2]at h
    dsimp only at h
    by_cases c:1<=n/\n<=8/\OM.Wn n.toNat ps
    .have e:((n.toNat:Nat):Int)=n:=by omega
     refine⟨n.toNat,d,ps,by rw[e],by rw[q,jV q2],by omega,by omega,c.2.2,?_⟩
     unfold dZ
     dsimp only
     rw[q]
     dsimp only
     rw[q2]
     dsimp only
     rw[Od c]
    .rw[Oe c]at h;exact absurd rfl h
 .exact absurd rfl h
def yD{f g:Addr}{fd gd:FuncData}(F:jJ K mg "closed" n9 ["many","pairs"] f fd)(E:jJ K mg "every_pair" kc ["many"] g gd)(B:jS mg):cY P w K mg base ca "closed" ["many","pairs"] 3 dZ:=by
 refine⟨⟨f,fd,F.mg,F.F.kp,F.b,((NY (BN F E (C1 E B) B)).mono (by decide)).imp ?_⟩,λds h=>?_⟩
 .rintro vs H Q X ⟨G,ds,s,hl,r,h⟩
  have hb:dZ ds≠.bad:=λz=>by rw[z]at h;exact h
  obtain⟨n,d,ps,rfl,hd,h1,h8,wn,e⟩:=rE hb
  rw[e]at h
  cases r with
  |cons r1 r=>
   cases r with
   |cons r2 r=>
    cases r
    cases r1
    obtain⟨a,xs,rfl,hq,hr⟩:=(kY.seq (B:=none) (.inl r2) hd (ak.refl _))
    refine⟨n,a,xs,ps,rfl,h1,h8,hq.elim (λq=>.inl (s.seq q)) (λq=>.inr (q.grow s.grow)),(hr.pairs).grow s.grow,wn,λH' t ws hh ht ht' hp=>?_⟩
    have s2:=s.trans hh
    refine h (.ref t) (c9 G H') H' hh oN (rK s2) (λb m hb=>by rw[z6 hh m];exact hb) ?_
    exact .tup (fh s2 (.inl (.inl ht'))) (aR.rps (yr s2 hp))
 .obtain⟨n,d,ps,rfl,_⟩:=rE h
  rfl
end
end RO
section
namespace RO
open PySem L2 RM
def Jp{K:Frag}{ca:Str->Addr}(vs:List V)(H:Hp)(Q:VK)(E:XK)(h:AV K vs H Q E):E7 K ca 1 Je vs H Q E:=by
 obtain⟨a,ns,rfl,hS,q⟩:=h
 refine⟨H,[i6 ns],ak.refl _,rfl,.cons (.scr hS) .nil,?_⟩
 rw[KC]
 intro v G' H' s1 s2 s3 s4 fv
 have fv:Rp K G' v (.bool true):=fv
 cases fv
 exact q H' s1
def all_mk:HF:=by
 intro l w K h mg fa f38 X G hfa od38 an38 sl38 oc38 kV38 dc38 pm38 cd38 ct38 tMOST_THINGS F1 F2 F3 F4 F5 F6 F7 F8 F9 F10 F11 F12 F13 F14 F15 F16 F17 F18 F19 F20 F21 F22 F23 F24 F25 F26 F27 F28 F29 F30 F31 F32 F33 F34 F35 F36 F37 a38 l38 c38 k38 zB yMOST_THINGS np
 have e:=hfa.symm.trans (PySem.W.mg_of X G a38)
 cases e
 have B:jS mg:=Ki X G zB
 have jz:=PySem.W.mg_of X G yMOST_THINGS
 obtain⟨f1,d1,cg⟩:=F1.ex
 obtain⟨f2,d2,fu⟩:=F2.ex
 obtain⟨f3,d3,iI⟩:=F3.ex
 obtain⟨f4,d4,iJ⟩:=F4.ex
 obtain⟨f5,d5,cX⟩:=F5.ex
 obtain⟨f6,d6,jL⟩:=F6.ex
 obtain⟨f7,d7,gj⟩:=F7.ex
 obtain⟨f8,d8,gC⟩:=F8.ex
 obtain⟨f9,d9,bz⟩:=F9.ex
 obtain⟨f10,d10,fB⟩:=F10.ex
 obtain⟨f11,d11,l7⟩:=F11.ex
 obtain⟨f12,d12,dI⟩:=F12.ex
 obtain⟨f13,d13,cO⟩:=F13.ex
 obtain⟨f14,d14,bE⟩:=F14.ex
 obtain⟨f15,d15,aV⟩:=F15.ex
 obtain⟨f16,d16,iF⟩:=F16.ex
 obtain⟨f17,d17,fD⟩:=F17.ex
 obtain⟨f18,d18,fE⟩:=F18.ex
 obtain⟨f19,d19,cQ⟩:=F19.ex
 obtain⟨f20,d20,bH⟩:=F20.ex
 obtain⟨f21,d21,fA⟩:=F21.ex
 obtain⟨f22,d22,gc⟩:=F22.ex
 obtain⟨f23,d23,gx⟩:=F23.ex
 obtain⟨f24,d24,aI⟩:=F24.ex
 obtain⟨f25,d25,bA⟩:=F25.ex
 obtain⟨f26,d26,aH⟩:=F26.ex
 obtain⟨f27,d27,c8⟩:=F27.ex
 obtain⟨f28,d28,dN⟩:=F28.ex
 obtain⟨f29,d29,bh⟩:=F29.ex
 obtain⟨f30,d30,dS⟩:=F30.ex
 obtain⟨f31,d31,fC⟩:=F31.ex
 obtain⟨f32,d32,cN⟩:=F32.ex
 obtain⟨f33,d33,c6⟩:=F33.ex
 obtain⟨f34,d34,cL⟩:=F34.ex
 obtain⟨f35,d35,bR⟩:=F35.ex
 obtain⟨f36,d36,eJ⟩:=F36.ex
 obtain⟨f37,d37,eB⟩:=F37.ex
 have U38:=y7 (st:=RQ.mI) l38 c38 k38
 have LO:jJ K mg "law" RQ.mI ["script"] fa _:=⟨PySem.W.mg_of X G a38,U38,U38.binds (ps:=["script"]) λ_ _ _ _ _ _=>yp λ_=>rfl⟩
 obtain⟨ca,hca⟩:∃ca:Str->Addr,True:=⟨λ_=>0,trivial⟩
 refine⟨PySem.W.fnOf "law" "law" (jr RQ.mI) (dr RQ.mI) (au RQ.mI) .none kV38 dc38 pm38 an38 cd38 ct38,λs v=>.of_eq rfl,λbase _ _=>?_⟩
 have gp:=(RQ.uZ (P:=l.prog) (w:=w) (base:=base) (ca:=ca) cg B).imp Au
 have kH:=(RQ.vU (P:=l.prog) (w:=w) (base:=base) (ca:=ca) fu B gp).imp FF
 have oO:=(RQ.wC (P:=l.prog) (w:=w) (base:=base) (ca:=ca) iI B gp jz).imp JJ
 have pk:=(RQ.xl (P:=l.prog) (w:=w) (base:=base) (ca:=ca) iJ B kH).imp JB
 have j6:=RQ.rf (P:=l.prog) (w:=w) (base:=base) (ca:=ca) cX B
 have rF:=yD (P:=l.prog) (w:=w) (base:=base) (ca:=ca) jL cX B
 have ni:=(RQ.vj (P:=l.prog) (w:=w) (base:=base) (ca:=ca) gj B).imp IS
 have nh:=(RQ.vT (P:=l.prog) (w:=w) (base:=base) (ca:=ca) gC B oO pk rF ni).imp zh
 have eO:=(RQ.qN (P:=l.prog) (w:=w) (base:=base) (ca:=ca) bz B nh).imp yL
 have lL:=RQ.sS (P:=l.prog) (w:=w) (base:=base) (ca:=ca) fB B
 have uU:=RQ.BZ (P:=l.prog) (w:=w) (base:=base) (ca:=ca) l7 B eO j6 lL
 have jX:=RQ.sC (P:=l.prog) (w:=w) (base:=base) (ca:=ca) dI B uU np
 have iZ:=RQ.oV (P:=l.prog) (w:=w) (base:=base) (ca:=ca) cO B np
 have dE:=RQ.tq (P:=l.prog) (w:=w) (base:=base) (ca:=ca) bE B
 have b9:=RQ.mR (P:=l.prog) (w:=w) (base:=base) (ca:=ca) aV B iZ np
 have oS:=RQ.xW (P:=l.prog) (w:=w) (base:=base) (ca:=ca) iF B np
 have kZ:=RQ.sX (P:=l.prog) (w:=w) (base:=base) (ca:=ca) fD B b9 dE oS np
 have lW:=RQ.tf (P:=l.prog) (w:=w) (base:=base) (ca:=ca) fE B
 have iU:=RQ.oJ (P:=l.prog) (w:=w) (base:=base) (ca:=ca) cQ B b9 dE np
 have dQ:=RQ.mY (P:=l.prog) (w:=w) (base:=base) (ca:=ca) bH B eO jX kZ lW iU
 have k8:=RQ.tj (P:=l.prog) (w:=w) (base:=base) (ca:=ca) fA B
 have nq:=RQ.vX (P:=l.prog) (w:=w) (base:=base) (ca:=ca) gc B
 have nu:=RQ.vK (P:=l.prog) (w:=w) (base:=base) (ca:=ca) gx B k8 nq
 have bg:=RQ.sQ (P:=l.prog) (w:=w) (base:=base) aI B
 have dY:=RQ.sf (P:=l.prog) (w:=w) (base:=base) (ca:=ca) bA B
 have bo:=RQ.oz (P:=l.prog) (w:=w) (base:=base) aH B bg
 have jG:=RQ.pN (P:=l.prog) (w:=w) (base:=base) (ca:=ca) c8 B
 have j9:=RQ.sF (P:=l.prog) (w:=w) (base:=base) (ca:=ca) dN B jG bg bo
 have cW:=RQ.rP (P:=l.prog) (w:=w) (base:=base) (ca:=ca) bh B
 have kl:=RQ.rG (P:=l.prog) (w:=w) (base:=base) (ca:=ca) dS B cW
 have lh:=RQ.tD (P:=l.prog) (w:=w) (base:=base) (ca:=ca) fC B
 have iM:=RQ.oZ (P:=l.prog) (w:=w) (base:=base) (ca:=ca) cN B dY kl
 have jI:=RQ.pU (P:=l.prog) (w:=w) (base:=base) (ca:=ca) c6 B cW
 have iO:=RQ.o4 (P:=l.prog) (w:=w) (base:=base) (ca:=ca) cL B iM jI
 have fM:=RQ.mF (P:=l.prog) (w:=w) (base:=base) (ca:=ca) bR B dY
 have kF:=RQ.se (P:=l.prog) (w:=w) (base:=base) eJ B bg bo
 have jY:=RQ.si (P:=l.prog) (w:=w) (base:=base) (ca:=ca) eB B iO fM
 have LB:=RQ.Gz (P:=l.prog) (w:=w) (base:=base) (ca:=ca) LO B nu lh dQ jY bg bo kF j9
 exact gW.imp (sp:=E7 K ca 1 Je) LB Jp
end RO
theorem PySem.Challenge.cw_rowsorder_k35_points_or_a_knot_holds : PySem.Challenge.rw_rowsorder_k35_points_or_a_knot.Holds :=
 RO.head RO.all_mk
end
