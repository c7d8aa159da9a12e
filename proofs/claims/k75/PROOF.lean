import PyProof.Rows.All
import KE.RegKIsAll
import KE.KSortTup
import KE.KDictOf
import KE.KNestM
import KE.KFromBytes
import KE.KIsAll
import KE.KLam
import KE.KMinKey
import KE.KStateDown
import Wide.FinOn
import PySem.Challenge.RW_rowsorder_k75_bounds_refused
set_option Elab.async false
set_option linter.all false
set_option maxRecDepth 100000
set_option maxHeartbeats 1000000
set_option hygiene false
open Lean in
def dqL (w:String):MacroM Term:=
 if w=="_" then `(_) else if w.startsWith "\"" then pure (Syntax.mkStrLit ((w.drop 1).dropEnd 1).toString) else if w.startsWith "@" then let i:=mkIdent (w.drop 1).toString.toName;`(@$i) else if w.startsWith "." then let i:=mkIdent (w.drop 1).toString.toName;`(.$i) else if w.front.isDigit then pure (Syntax.mkNumLit w) else pure (mkIdent w.toName)
open Lean in
def dqF (c:Array Term):Term:=if c.size==1 then c[0]! else ⟨Syntax.mkApp c[0]! (c.extract 1 c.size)⟩
open Lean in
def dqS (st:List (Char×Array Term×Array Term)) (w:String):MacroM (List (Char×Array Term×Array Term)):=
 match st with
 |[]=>pure []
 |(o,is,c)::r=>
  if w=="("||w=="["||w=="⟨" then pure ((w.front,#[],#[])::st)
  else if w=="," then pure ((o,is.push (dqF c),#[])::r)
  else if w==")"||w=="]"||w=="⟩" then do
   let is:=if c.isEmpty then is else is.push (dqF c)
   let t<-if o=='(' then (let x:=is[0]!;`(($x))) else if o=='[' then `([$is,*]) else `(⟨$is,*⟩)
   match r with
   |[]=>pure []
   |(o,is,c)::r=>pure ((o,is,c.push t)::r)
  else do pure ((o,is,c.push (← dqL w))::r)
def dqT (s:String):List String:=
 let f:=fun (a:List String×String×Bool) (c:Char)=>
  if a.2.2 then (if c=='"' then ((a.2.1.push c)::a.1,"",false) else (a.1,a.2.1.push c,true))
  else if c=='"' then (a.1,"\"",true)
  else if c==' '||c=='('||c==')'||c=='['||c==']'||c=='⟨'||c=='⟩'||c==',' then
   let l:=if a.2.1=="" then a.1 else a.2.1::a.1
   (if c==' ' then l else c.toString::l,"",false)
  else (a.1,a.2.1.push c,false)
 let a:=s.foldl f ([],"",false)
 (if a.2.1=="" then a.1 else a.2.1::a.1).reverse
def dqB:List (String×String):=((r#"D Inv X pins σ H s
E List Int
F List Pr
G .fz (au n l)
H (cst (.int 1))
M (cst (.int 0))
N (model X.prog X.w)
P .fz (bR n (bA l))
Q (ae (gv 0) ag)
U (gB X NB scope C ex s3 H3 pn)
X envOfC qual scope s0.heap.objs.size f cd
Z (ae (gv 0) (ae (gv 1) ag))
a List Str
b SR Γ B G H σ env β
c List Nat
e List Value
h (.ListComp elt [⟨tg,iter,ifs,0⟩] scope pos)
i Option Addr
j ["order"]
m iV X.env.cells scope.names []
n .fz (mI (cj r) n)
o (ae (cst .none) (ae (aW ag) (ae (aW (ae @M (ae (aW ag) ag))) (ae (aW (ae (cst (.int 9)) (ae (aW ag) ag))) (ae (aW (ae (cst (.int 2)) (ae (aW (ae (aW (ae @M (ae (cst (.int 2)) ag))) ag)) ag))) (ae (aW (ae (cst (.int 3)) (ae (aW (ae (aW (ae @M (ae @H ag))) (ae (aW (ae @H (ae (cst (.int 2)) ag))) ag))) ag))) (ae (aW (ae (cst (.int 2)) (ae (aW (ae (aW (ae @M (ae @H ag))) (ae (aW (ae @H (ae @M ag))) ag))) ag))) (ae (bo (ae @H (ae (aW ag) ag))) ag))))))))
p (vl env)
q OM.Ord n l
r putAll n l put
s (af (aj 0 rfl) ah)
t .fz (.tuple (put.map aG))
u (ae (aW (ae (cst (.bool true)) (ae (aW ag) ag))) (ae (aW (ae (cst (.int 2)) (ae (bo (ae (aW (ae @M (ae @H ag))) ag)) ag))) (ae (aW (ae @H (ae (aW (ae (aW (ae @M (ae @M ag))) ag)) ag))) (ae (aW (ae (cst (.int 3)) (ae (aW (ae (aW (ae @H (ae (cst (.int 2)) ag))) (ae (aW (ae @M (ae @H ag))) (ae (aW (ae @M (ae (cst (.int 2)) ag))) ag)))) ag))) (ae (cst (.str "1")) (ae (aW (ae @H (ae (aW ag) (ae (aW ag) ag)))) ag))))))
v .fz (.list (rows.map tupI))
w VF (List D)
x X.env.cells.lookup x
y .list (rs.map tupI)
z (.int n)
AA starEach es X.env
AB SE X Γ E a fa La ma
AC bP P w K mg base ca "with_thing" ["placed","thing"] 1 az
AD (bj L env)
AE (A.deeper (envOfC qual (ao st) s.heap.objs.size f cdv))
AF [.Return (some (.ListComp (.Name z p1) [⟨.Name z p2,.Call (.Name "range" p3) [.Constant (.int 16) c16 p4] [] p5,[.Call (.Name y fp) [.Name n ap,.Name z zp] [] cp],0⟩] scope lp)) rp]
AG List (@E)
AH [.type "ValueError",.type "Exception",.type "BaseException",.type "object"]
AI (l7 (nj P w) P w K mg base N qual scope f cd A outer s0 H0 E)
AJ (.int i)
AK .fz (.list (late.map int))
AL (Classical.propDecidable _)
AM ["order","turn","other"]
AN .ref s.heap.objs.size
AO X.env.scope.names.lookup x
AP (aY aL bJ (ai 0) av @J)
AQ (ac rfl an)
AR (ae (gv 2) ag)
AS .list (ns.map int)
AT some false
AU fa vs β
AV (aj 0 (hB1 0 @S))
AW bP P w K mg base ca "need_order" ["thing"] 5 aB
AX (.tuple (l.map aG))
AY (upd H1 s2.heap.objs.size (.lst []))
AZ eval a X.env
Aa ["thing","order"]
Ab Option D
Ac List Expr
Ad envOfC qual scope s.heap.objs.size f cd
Ae some .local
Af Or.inl rfl
Ag ["masks","turn"]
Ah (aY aL bJ (ai 1) av @J)
Ai .bool false
Aj some (.lst acc)
Ak (model prog w)
Al .fz (.int k)
Am (f2 (gv 0) @M bE)
An starEach [] X.env
Ao List Addr
Ap List.range n
Aq .fz (aG t)
Ar uo vG P w K mg base N qual (ao st) f cdv A outer s H E
As (.Name x np)
At .list (T.map int)
Au a7 l r n
Av (ha pins s σ H _ I h)
Aw (bc cc fZ rfl B.len Vh (ai 0))
Ax c9 K G xs ds
Ay (ae (gv 1) ag)
Az .fz (de ns)
A0 .ow (.list (r.map int))
A1 ["thing"]
A2 bR n (bA l)
A3 (l7 (nj P w) P w K mg base N qual (ao st) f cdv A outer s H E)
A4 (aM 1 [3,4] (.nm 0) (bB (gv 1)) iP (f2 (qP (gv 0) (gv 1)) (qP (gv 0) (gv 2)) rW))
A5 (fm false)
A6 ay.refl _
A7 (ha pos pins s σ H _ I h)
A8 (f2 (f2 (f2 (f2 (gv 2) (cst (.int 2147483647)) nq) (cst (.int 48271)) dX) (f2 (cst (.int 7919)) (gv 4) dX) b7) @H b7)
A9 (af (aj 1 rfl) ah)
A_ starEach [a] X.env
BA .list (ph.map pD)
BB .tuple [.str "turn",aG t,.tuple zs]
BC Array Value
BD List Nv
BE (EP X pins σ Q)
BF (.fz (.list (ud.map aG)))
BG (ae (gv 3) ag)
BH (f1 (gv 0) cG)
BI some (.lst xs)
BJ .Call (.Attribute (.Name y np2) "pop" apos2) [e] [] cpos2
BK bO X NB own ixs scope
BL gB (X.inEx e) [z,n] scope C ex s3 H3 pn
BM [au n l]
BN (.nm 0)
BO (.ref D)
BP (ae (gv 4) ag)
BQ .inl rfl
BR (cj own ixs σ)
BS ⟨_,rfl⟩
BT (.int a)
BU (.ref a)
BV .type "list"
BW I1.fpOk (UC _) (I1.hok.fresh (UC _))
BX PySem.W.fnOf x qual (jA st) (c6 st) (ao st) .none kV doc pm an cdv ct
BY compEnvC scope (EN X scope s3.heap.objs.size) s3.heap.objs.size X.env
BZ le ns i n m l g bad k (.fz (.int w))
Ba lvl n l n
Bb some (.ow (.list ds))
Bc (f2 (gv 1) @M bE)
Bd ["order","a","b"]
Be (upd H s.heap.objs.size (.tup [.int i,x]))
Bf I.hok.fresh (UC _)
Bg ["thing","many"]
Bh (Ext.refl s)
Bi SR Γ B G' H' σ @AD β'
Bj foldedSetIterable iter X.env x
Bk (af @AV (af (aj 1 (hB1 1 @S)) ah))
Bl List α
Bm Option Int
Bn (Γ.gB H0 G0 par br bx)
Bo .da (au n l)
Bp List (@F)
Bq ["order","left","rows","number","turn"]
Br absurd rfl h
Bs (.ref q12)
Bt (.two 0 1)
Bu (Vc (UZ (UK e) (I.ok.cab x c hfn hc)))
Bv .bool true
Bw ["order","every","chosen","few"]
Bx fe n l cs ps best (.fz @AJ) (.fz (aG p)) s6 s7
By ⟨I.ok.mod,I.ok.kind,I.ok.glob,I.ok.blt,I.ok.above,I.ok.inj,I.ok.has,I.ok.cab,I.ok.hd,I.ok.frames,I.ok.stk,I.ok.exf,I.ok.bs,I.ok.bsz,I.ok.noex,I.ok.exfs,I.ok.funs,I.ok.frf⟩
Bz ⟨@B,@B ⟩
B0 (dU hr.units)
B1 (f2 (gv 1) (ak mS (ae (gv 2) @Q)) bE)
B2 bindArgs (PySem.W.kla_fn name qual params body scope (@m) pm (.ref c') ctv) ⟨[u],[]⟩
B3 r.Perm (eh n)
B4 (aj 0 rfl)
B5 (aj 2 rfl)
B6 (ns.map V.int)
B7 backToKw cpos (keywordEach [] X.env)
B8 some .cell
B9 (ae (bo (ae (cst (.int 12)) ag)) (ae (bo (ae (cst (.int 12)) ag)) (ae (bo ag) ag)))
B_ (cst (.int 2147483647))
CA .type "tuple"
CB Inv X pins σ H' s'
CC (fu (aC bg @C aN rfl rfl @s))
CD OM.cu n
CE Row n l r
CF (wm n l gs ws (.fz (ko g)) (.fz (.int t)))
CG Or.inr rfl
CH ["order","count"]
CI ic X.stack
CJ (ac rfl @AQ)
CK (ae (gv 2) (ae (f2 (gv 4) (gv 5) bE) ag))
CL ay G G'
CM (.ref q0)
CN (.ref q7)
CO (dD (f2 (gv 0) (gv 1) (qk true)))
CP wm n l gs ws (.fz (ko g)) s4
CQ VF Bool
CR (.ref s2.heap.objs.size)
CS ⟨_,UR _ rfl,rfl,rfl⟩
CT ⟨_,_,rfl⟩
CU ["masks","ways","placed","left"]
CV (fm true)
CW .fz (.int x)
CX PySem.W.recOk PySem.Challenge.rw_rowsorder_k75_bounds_refused.row.records s
CY ["many","rows"]
CZ bR n (bA (@r))
Ca y7 X.env.scope x
Cb (gO (cD rfl (pP "tuple" @S rfl rfl B.isinstance rfl B.tuple (@O) (ai 0))))
Cc (.type "BaseException")
Cd (f2 (gv 0) @H bE)
Ce (kmHook HD.d.heap_1 HD.aa HD.ke [465])
Cf List Env
Cg Loc X.env.scope x
Ch a7 l q n
Ci (.lst [])
Cj SE X Γ E b fb Lb mb
Ck codeAny (model P w) A (.call (.ref f) args) (CR CX outer P w H s Q E) s
Cl iO K H a xs
Cm scope.names.lookup x
Cn ⟨ok.mod,ok.kind,ok.glob,ok.blt,ok.above,ok.inj,ok.has,ok.cab,ok.hd,ok.frames,ok.stk,ok.exf,ok.bs,ok.bsz,ok.noex,ok.exfs,ok.funs,ok.frf⟩
Co (tupI r)
Cp List Keyword
Cq [.fz (.int w),.fz a,.fz k,.no]
Cr aM 1 [0,2] @BN (dM (f2 @H (pL 0 eQ (ae (cst (.int 3)) ag)) b7)) iP (pL 1 p7 (ae (f1 (gv 2) fR) ag)) [Nv.bx,.da (.int most),.da @z,.no] β1
Cs rb P w K mg base "_law_take" ["box","many"] 1 aX
Ct swapsWith e (some (.Name x pos')) pos.line X.env
Cu ns.map int
Cv (.ref it)
Cw PySem.W.keepIn K (.ref f)
Cx ["order","chosen","left"]
Cy ay H H'
Cz bs.all id
C0 f @p β
C1 some true
C2 (bM (cst (@Ai)))
C3 backTo pos (@AA)
C4 .list (ch.map tupI)
C5 AR K x qual st f fd
C6 jy K H a xs
C7 (ps.map aG)
C8 (nu rows)
C9 (start N vs)
C_ .fz (.int c)
DA Option Value
DB ["masks","a","b"]
DC ["thing","bound"]
DD eval b X.env
DE eval e X.env
DF fH n l pts
DG vx.brw I.boxThere
DH ["way_here","order","count"]
DI uD P w K mg base A outer s H
DJ PySem.W.kmHook HD.d.heap_1 HD.aa HD.ke [465]
DK (ae (cst (@Bv)) (ae (cst .none) (ae (cst (.str "1")) (ae (aW (ae @H ag)) (ae (f2 (cst (.int 10)) (cst (.int 30)) J5) ag)))))
DL (hr.mono (@B))
DM .ok d β1
DN .tuple [.str "rows",@y]
DO .type "range"
DP ["order","left","rows"]
DQ jQ B H H'
DR mI (bA l b) n
DS starEach [b] X.env
DT (.list (ms.map int))
DU (f1 @H l4)
DV I.ok.hd hc
DW Inv X pins σ' H' s'
DX (dD (f2 (f2 (gv 1) (gv 4) Hm) (gv 4) @A5))
DY .fz (.int b)
DZ OM.o5 (iq l) n i
Da W i m σ' H'
Db (ae (bo (ae (cst (.int 7)) ag)) (ae (bo ag) (ae (bo ag) ag)))
Dc [Str.ofString "rows",Str.ofString "ring",Str.ofString "turn"]
Dd (hX pts i t)
De [@G,.fz (aG p),.fz (aG q)]
Df .fz (q4 (left.map aG))
Dg Passes (nj X.prog X.w) (X.inTry Ex pn) Eb
Dh Pv i σ H
Di (aj 1 rfl)
Dj .fz @AJ
Dk .type "set"
Dl sc.names.lookup x
Dm sp vs H Q E
Dn (.Call (.Name "enumerate" p) [a] [] pos)
Do k _ G H @Bh (.int _)
Dp s1.trans s2
Dq (fN n l)
Dr .ow (.list [])
Ds ["e","place"]
Dt openSeen q loose (importedModules p.main.body) Xt g0 s.abs
Du (List.replicate c [])
Dv (f2 (f2 (gv 5) (f2 (gv 5) (cst (.int 13)) b7) dX) @B_ nq)
Dw .nx env2 β2
Dx List Stmt
Dy [@G,.no,.no]
Dz bP P w K mg base ca "free_things" ["masks","placed"] 2 a9
D0 r.map int
D1 (af (aj 4 rfl) ah)
D2 .inl (Rd.mono (.inl hq) (t1.trans t2))
D3 .seq its.toArray n
D4 ["tables","a","b"]
D5 boot_heap w.params
D6 pure false
D7 (.tuple ds)
D8 (AO n l pts left @BF .no .no .no .no)
D9 (ae (gv 0) (ae (f2 (f2 (gv 3) (gv 5) bE) @DU bE) @AR))
D_ (l7 CX P w K mg base N qual scope f cdv A outer s H E)
EA (ns.map PyData.bool)
EB [@Bo,.da @z,.da @AX]
EC scope.names.lookup y
ED (.Name x pos)
EE (.builtin id)
EF (U0 _ (U0 _ (iZ hb e)))
EG (ae (gv 1) (ae (f2 (f2 (gv 2) (gv 3) bE) @DU bE) @Q))
EH (j9 hr.units)
EI .fz (.list (fr.map aG))
EJ some (.ow d')
EK (aA (aV kB))
EL (aM 2 [1,2,3] @Bt (bB (gv 3)) (dD (f2 (gv 1) (gv 2) @A5)) (f2 (aW (ae (gv 0) @BG)) (gv 4) (qk false)))
EM (aM 2 [2,1,3] @Bt (bB (gv 3)) (dD (f2 (gv 0) (gv 2) @A5)) (f2 (aW (ae (gv 3) @Ay)) (gv 4) (qk false)))
EN (cst (.int 4))
EO [@G,.fz @Co,.no,.no,.no,.no,.no,.no]
EP some (.tup xs)
EQ (af av ah)
ER (aj 3 rfl)
ES (f2 (gv 1) @H bE)
ET (ju hN hv hd hcd)
EU Vals xs us
EV f2 (f2 (cst (.int 7919)) (gv 1) dX) (cst (.int 13)) b7 [Nv.da (de ns),.da (.int k),.no,.no,.no,.no] 0
EW σ.set i (some v)
EX (.Name x p)
EY (.fresh 0 0 (AJ w))
EZ (ae (gv 1) @AR)
Ea .tuple (put.map aG)
Eb Reads s.heap u e as
Ec k _ _ (@BQ) e
Ed l7 CX P w K mg base N qual scope f cd A outer s H E
Ee m1.trans m2
Ef some (some @BU)
Eg .tuple [.int x,.int c]
Eh ["order","put","turn"]
Ei X.env.scope.names.lookup y
Ej (.list ds)
Ek ["many","pairs"]
El .Subscript @As a spos
Em .type "list_iterator"
En List Bool
Eo Or.inr (@Af)
Ep PySem.W.InstAt s.heap x ox D none
Eq PySem.W.fnOf "law" "law" (jA RQ.pw) (c6 RQ.pw) (ao RQ.pw) .none kV62 dc62 pm62 an62 cd62 ct62
Er ["placed","thing"]
Es behindInMarks op b
Et fb vs β1
Eu nv X (compareOp op) r
Ev (.Compare a [op] [b] pos)
Ew (af @B5 ah)
Ex (f1 (gv 2) cG)
Ey SeqAt.shaped e
Ez ["box","some"]
E0 bootBuiltins x
E1 ks.getD j 0
E2 mI (cj r) n
E3 some (.bj o u)
E4 (PySem.importedModules PySem.Challenge.rw_rowsorder_k75_bounds_refused.row.prog.main.body)
E5 SS X Γ E (.Try body [.ExceptHandler (some @As) (some n) @AF hpos] [] [] pos) (rN marks m)
E6 fe n l cs ps best (@Dj) (.fz (aG p)) (.fz (.list (later.map aG))) (.fz (.list (r.map aG)))
E7 (.ref p)
E8 HT.xk xs.length 0 lo
E9 uW hc (fP (dw hN hi (Or.inl hx) (Or.inr hx)) (fP (dw hN hj (Or.inl hy) (Or.inr hy)) qh))
E_ (.Name "range" p)
FA (aY aL bJ (ai 1) (aC aP @C aN rfl rfl (af @B5 (af (aY aL bJ (ai 4) (ai 5) @J) ah))) @J)
FB (ae (gv 0) @AR)
FC (aj 2 (hB1 2 @S))
FD (bo (ae @M ag))
FE .fz (.list (EE.map int))
FF .inl (Rd.mono (.inl hq) I1.sub)
FG .ok ds β1
FH PE X a ta
FI ["rows","turn"]
FJ aH N ps (ao st)
FK (dD (f2 (ak mS (ae (gv 1) @BG)) (gv 1) @CV))
FL wpAny @N X.A (f (.int i t) (.int j u)) Q E s
FM (.Assign [.Name x pos'] e pos)
FN (.Attribute @As "append" apos)
FO (bc cc fZ rfl B.len Vh (ai 2))
FP OM.longer (iq l) n (gs.take i)
FQ Or.inr (@CG)
FR X.mg "range"
FS oO p w vc (some (.ref 6)) N (yw w os) (za p)
FT (bB (gv 0))
FU (gF I q @W)
FV (model P w)
FW (upd H D @Ci)
FX .fz (mI (bA l k) n)
FY .ok none β
FZ False.elim hq
Fa SR Γ B G' H' σ env β
Fb h.Ns mainGlobals mg
Fc some (.ref f)
Fd some (some v)
Fe .inr rfl
Ff (ofM n m)
Fg aM 2 [0] @Bt (bB (ak mE (ae @Am ag))) (ie (ak Kv (ae (gv 2) @Z))) (aW @Z) [@Bo] 0
Fh (bA l b.toNat)
Fi (cst (.int 2))
Fj .ref (Γ.ca c)
Fk nr P w H h
Fl some (.dK kvs)
Fm (Ee 3 @V (aM 1 [3,5] @BN (bB (gv 6)) iP (f2 (f2 (gv 1) (gv 2) bE) (bo @Q) jL)))
Fn (Fx.fn Γ.K H G Γ.ca)
Fo (he pins s σ H _ I h)
Fp (newFunctionEnv scope X.env.globals (@m) [] X.env.qual none .none (some X.env))
Fq bP P w K mg base ca "masks_ahead" @j 2 a8
Fr base.Ns mainGlobals mg
Fs putL n l t
Ft (.int j)
Fu .fz (mI (cj []) n)
Fv PySem.W.nsIn K mainGlobals x
Fw RelV v u
Fx ["many"]
Fy ["order","groups"]
Fz ["order","number"]
F0 [.ref a]
F1 s.heap.push (NS t)
F2 some (excClassObj nm qn C Nn bs bm hdct sn sub ab col dd k0 k1 k2 k3 k5 newId)
F3 starEach [e] X.env
F4 ⟨v,H',J.os,J.bare,J.base,J.hok,rv,q⟩
F5 (I.base.keep b o e n hb hx)
F6 (ae (gv 0) @BG)
F7 (ae (gv 5) @BP)
F8 (bB (gv 1))
F9 (ba 5 @V (f2 (gv 5) @H b7))
F_ (dD (f2 (gv 3) (gv 4) @CV))
GA (jm own ixs vs)
GB (ps.zip us)
GC (upd H a o)
GD .ok (@Ai) false
GE I.base.there b o e hx
GF I.mod.glob.keeps I.bk
GG I.ok.has _ (S.frees y hy e)
GH LM n l pts left
GI Lf X qual scope s3.heap.objs.size q cdv
GJ Mc own ixs Lc j
GK OM.my n (OM.Tr (OM.Mem ps))
GL Option Expr
GM PassesOwn @N X.A X.env X.xe
GN [.int i,.int j]
GO [@P,@AK,@A0,@n,s4,s5]
GP bP P w K mg base ca "is_ahead" @DB 2 bS
GQ bP P w K mg base ca "is_below" @DC 2 bL
GR bP P w K mg base ca "is_whole" @A1 1 bX
GS codeAny @N X.A (.compLoop @h 0 @Cv @CR (@BY)) (RR @CR s3.heap.objs.size) s5
GT ks.getD i 0
GU ns.getD i 0
GV some (.lst [.int β])
GW some (.ow d)
GX (.bj oc (.own 0))
GY (jQ.refl _ _)
GZ (l.map aG)
Ga (nj P w)
Gb .Name y py
Gc .tail _ (.head _)
Gd HD.Gw PySem.Challenge.rw_rowsorder_k75_bounds_refused.row.prog 11212 w os
Ge I.tuple hq
Gf Rp K G x d
Gg codeAny_compStart_list (loop _ rfl) (T.self X.A 0 _ _ _ st4 (loop _ rfl))
Gh env.set i (.fz d)
Gi fr vs β
Gj jm own ixs @p
Gk m env β
Gl (ae (gv 5) (ae (gv 6) ag))
Gm (fV (f2 (aW @EZ) @Cd (qk true)) (f2 (aW (ae (gv 2) @Ay)) @Cd (qk true)))
Gn (hb pins s1 σ H1 _ I1 q1)
Go .fz (.list (left'.map aG))
Gp Passes (nj X.prog X.w) X E
Gq UR _ rfl
Gr aM 2 [0] @Bt (bB (ak uq @Q)) (ie (ak y2 (ae (gv 2) @Z))) (aW @Z) [@Bo] 0
Gs congrArg List.length S.pre
Gt (AO n l pts left .no .no .no .no .no)
Gu (f2 (f1 (gv 7) cG) (f1 (gv 3) cG) OY)
Gv .tup (.inl (.inl aE)) (.cons @AJ (.cons (rd.mono (s1.trans xn.gg)) .nil))
Gw SE X Γ E a fa La .v
Gx ["order","number","masks","ways","row","placed","left","step","choice"]
Gy [.str "ring",.int i,.list (r.map aG)]
Gz fA K mg x st ps f fd
G0 (.inl (PyProof.noPylong_small (@B)))
G1 (ae (gv 2) @Q)
G2 (ae (gv 5) ag)
G3 .Call (.Name "range" p2) [a] [] pos2
G4 .inl ⟨⟨xs,q,UC _⟩,hd σ H p⟩
G5 I.base.slot b o e n hb hx
G6 I.list hq
G7 PyData.eqv e d
G8 Vc (UZ (UK e) I.ok.above)
G9 eval @As X.env
G_ nA fb dr β1 d
HA some (.bj x y)
HB wpAny M A (unbindName X.env x) Q E s
HC z.heap.push oI
HD (NJ (dD (f2 (gv 0) (gv 2) (qk false))) (f2 (gv 1) (gv 3) RD) (gv 1))
HE (PySem.W.fnOf x x (jA st) (c6 st) (ao st) .none kV doc pm an cdv ct)
HF (ac (tp @CJ) an)
HG Binds K fd ps []
HH OM.o5 (iq l) n 0
HI ["masks","late"]
HJ ["script","k","box","order","many","great","bad","count","way_here"]
HK bj L env
HL fe n l cs ps best (@Dj) (.fz (aG p)) (.fz (.list (later.map aG))) s7
HM pts.map (yL n l)
HN (.int most)
HO (bB (gv 4))
HP (call (.ref q) [v])
HQ .fz @BT
HR .nx (env.set i (.ow (.list es))) β
HS .tuple [.str s,y,z]
HT I.tok _
HU I1.hok.fresh (UC _)
HV K.In s.heap
HW T.getD (Ia n m x) 0
HX [.da (.int x),.da (aG t),.da (@A2)]
HY [s1.heap.objs.size]
HZ s1.trans hg
Ha (ac rfl (ac (tp an) an))
Hb (xX h8 (@B))
Hc .fz (.int z)
Hd .ok (.bool (l.all f)) β
He Gl X "range"
Hf K w.params
Hg VO Γ.K B H G' H' md d v
Hh W 0 m @BR (upd H1 D @Ci)
Hi gW t d env
Hj some .free
Hk (PySem.W.fnOf name qual params body scope dV kV doc pm an cdv ct)
Hl (rP (ie (f1 (gv 0) (lA "tuple"))))
Hm .Call (.Name "set" p2) [a] [] pos2
Hn ["order","left","rows","undone","turn","papers","number","found"]
Ho [@Bo,.da @BT,.da (.int b),.da @AX]
Hp (.builtin "isinstance")
Hq (.ref e)
Hr (.str x)
Hs (SE.wv (bF ah))
Ht (aY aL bJ (ai 2) av @J)
Hu (bo ag)
Hv (rT nZ r6 av)
Hw (upd H' p (.tup [.int u,.int v]))
Hx .fz (.list (G.map int))
Hy .fz (.list (gs.map ko))
Hz .int hi u
H0 .int lo t
H1 .tup [.int i,x]
H2 AllBare s'.gens
H3 CE outer P w H s Q u s'
H4 Ft n l pts rs
H5 H s.heap.objs.size
H6 J.yld i H' x H2
H7 PySem.W.xlAt HD.vw [] s
H8 RelV x v
H9 SE X Γ E e f L .v
H_ Str.ofString "key"
IA WP (aI (dZ t L fi m) m' env β) Q
IB ["masks","placed"]
IC ["order","chosen","left","best","at","turn","crossing","found"]
ID bs.getD i false
IE dP g tt te D x σ' H2 N
IF i2 X pins H b
IG iq l a t
IH t σ H Q
II Γ.br i
IJ ⟨_,e,rfl⟩
IK ⟨_,e⟩
IL (kR n l d v q (@CW) s7)
IM aM 2 [] @Bt @FT iP (f2 (gv 0) (gv 1) @A5) [.da (.tuple @C7)] 0
IN k _ G H @Bh (.bl _)
IO ⟨rfl,rfl⟩
IP (aW (ae (f2 (gv 0) (gv 1) Mo) (ae (f2 (gv 0) (gv 1) nq) ag)))
IQ .inl ⟨rfl,xs,.inl (.inl h5)⟩
IR (EZ (f2 (gv 4) @H b7))
IS (PySem.W.kla_obj name qual params body scope (@m) pm c' ctv)
IT (hi pins s σ H _ I h)
IU ["masks","put","turn"]
IV (Ne.symm z)
IW (aA (aV (aC dF @C aN rfl rfl (af @B4 (af @Ah (af @Ah ah))))))
IX (f2 (gv 2) @H bE)
IY (fV (f1 (gv 0) (lA "int")) (f1 (f1 (gv 0) (lA "bool")) F0))
IZ .fields vs
Ia .str "rows"
Ib Array (@DA)
Ic CM X Γ E a ta La
Id Inv X pins (σ.set i none) H s'
Ie OM.i7 _ (OM.j8 n)
If Option Nat
Ig Option.some.inj e
Ih Pv xs.length σ H
Ii PyData.bool (f q)
Ij Vals xs its
Ik Value.ref a
Il ch.map tupI
Im fe n l cs ps cs .no .no .no .no
In mk (cj r) n
Io (.ext (iE e cls))
Ip (ae (gv 1) @Q)
Iq (g i j)
Ir (gx (tT Aj (yo (pk jS (pv 3) (pv 4) @J) (pv 5) set_list)))
Is .int (kf i) tb
It Option.some.inj h
Iu RelV x u
Iv X.env.kindOf x
Iw ["box","most"]
Ix ["script","k"]
Iy aI m m' env β
Iz i2 X pins H' b
I0 some put
I1 vZ s₁.heap H
I2 vq n l r
I3 ⟨.ref p,h1,k _ G H I (@A6) @GY (.inr ⟨p,rfl,h4,h5⟩)⟩
I4 (.Call (.Name "min" p) [a] [⟨some "key",lam,kp⟩] pos)
I5 (.UnaryOp .Not a pos)
I6 (.call (.ref fa) ⟨@F0,[]⟩)
I7 (RE s.heap.objs.size)
I8 (ac rfl @CJ)
I9 (ae (f2 (gv 1) (gv 3) bE) @AR)
I_ (f2 (gv 0) (gv 1) bE)
JA (f2 (gv 0) (gv 2) bE)
JB .function
JC .inr ⟨q,Wi _ _ _ (.inl q)⟩
JD .list (rows.map tupI)
JE .ow (@BA)
JF .type "dict"
JG BF X.N X.env.scope nm
JH Ck @U ifs tt
JI D.nx σ H
JJ KV kvs vs
JK PE @U elt te
JL VO K B H G' H' md d v
JM backTo cpos (starEach es (@X))
JN bj La env
JO h pins s σ H Q I (m σ H Q q)
JP some env1
JQ (.lst xs)
JR SR Γ B G H (σ.set i (some @BU)) (env.set i (.ow d)) β
JS (.builtin "min")
JT (.int ds.length)
JU (.ow (.list zs))
JV (.type "object")
JW (Fx.fn K H G ca)
JX (ae (gv 0) (ae (f2 (gv 1) (bo @G2) jL) (ae (gv 6) ag)))
JY Ec n l pts t
JZ s1.heap.IsTuple a its.toArray
Ja (.type "ValueError")
Jb Nat.le_add_right _ _
Jc RI l put t ph left k
Jd starEach [a,b] X.env
Je starEach [b,c] X.env
Jf vp s1.heap.objs.size
Jg (.ref l)
Jh (f2 (f2 (gv 5) (gv 5) dX) (cst (.int 2147483629)) nq)
Ji HT.xk xs.length xs.length hi
Jj Nat.le_succ _
Jk PyData.eqvAll (l.map PyData.bool) (m.map PyData.bool)
Jl Uy.mp hi
Jm ["order","left","rows","number","turn","masks","put"]
Jn [Nv.da (de ns),.da (.int k),.da (.int c),.no,.no,.no]
Jo s.heap.IsTuple a its.toArray
Jp ⟨.bl b,H,I.tok tk,rfl,q⟩
Jq (X.inEx e)
Jr (ak aB @Q)
Js I.pin p hp
Jt Vals vs us
Ju ["script"]
Jv he H0 G0 par br bx C ex s3 H3 pn b pins s σ H Q I q
Jw ht H0 G0 par br bx C ex s3 H3 pn b pins s σ H Q I q
Jx sf l s x
Jy some .none
Jz (.ListComp elt [⟨target,iter,ifs,0⟩] scope pos)
J0 (.Tuple elts x1 pt)
J1 (.type T)
J2 (PySem.W.codeRec_of KX hcd)
J3 (UI _ hx)
J4 (aY aL bJ (ai 0) (ai 2) @J)
J5 (aY aL bJ (ai 2) (ai 3) @J)
J6 (af @AV ah)
J7 (af @ER ah)
J8 (binaryOp .Add)
J9 (f2 (f2 (gv 2) (gv 0) bE) (f2 (gv 2) (gv 1) bE) rW)
J_ (jF rfl (ai 0))
KA (nJ 2 bK @C aN rfl rfl @EQ)
KB .ok .none false
KC .seq vs.toArray
KD Inv X pins σ H' s2
KE List PyData
KF PySem.W.keepIn X.K (.ref f)
KG [.fz (.tuple [x,y]),.fz @z]
KH [@P,@n,@Dr,.no,.no]
KI h B G' H' σ I (s.trans s')
KJ hp.mem_iff.mpr (bh.mpr @Bz)
KK jy K H p xs
KL starEach [.Name y p2] X.env
KM t vs β
KN wpAny_pyIter_rangeiter st h
KO ⟨us,[]⟩
KP (.Call (.Attribute @As "extend" apos) [e] [] cpos)
KQ ["order","put","turn","paths","left","at","fresh"]
KR [Nv.bx,.da (@AS),.da (.list (ls.map int)),.da @DT]
KS s b _ h
KT (AQ.t (wO @Cb (rG (cn @EH iN @Aw av (bI _))) @J))
KU (Nat.not_lt_zero _)
KV (dD (f2 (gv 0) (gv 1) rW))
KW (letOwnedTupleGo tg @Cv u)
KX (uH (mZ i) (uH (mZ j) K5))
KY OM.my n (OM.Tr (OM.Mem l))
KZ X.env.scope.names.lookup n
Ka f2 @H (pL 0 eQ @Ay) b7 [Nv.bx,.da @HN,.no,.no] β
Kb (.ref R)
Kc (Ne.symm hj)
Kd (af (aj 0 (hB2 0 @S)) (af (aj 1 (hB2 1 @S)) ah))
Ke (benv own ixs env)
Kf .inl (.inl T'.top)
Kg .ok d β
Kh Binds X.K fd ps ds
Ki Classical.choose h
Kj False.elim q
Kk Inv B [] σ' H' s'
Kl List.range n.toNat
Km Option.some.inj h1
Kn Q @BO H'
Ko SE X Γ E (.Call @EX [a] [] pos) (f1 fa g) La md
Kp SE X Γ E e f L .w
Kq UW.mp hp
Kr [au n l,aG p,aG q]
Ks hf it @W
Kt hl j y v' e1 e2 e3
Ku nr X.prog X.w H h'
Kv plainId_quiet VS _
Kw some (.br d)
Kx ⟨_,rfl,r⟩
Ky ⟨env2,G3,B2,β2,I2,s2.trans s3,vI.weak q s3⟩
Kz (ae (gv 7) ag)
K0 .inl (.inl aE)
K1 .inl ⟨UC _,hd σ H p⟩
K2 .inl ⟨a,xs,i,v,rfl,rfl,q,ev,k _ G H @Bh rv⟩
K3 .int (Builtin.bitAnd i j)
K4 .int (kf 0) t2
K5 .tbl ps
K6 J.yld i H x H'
K7 Phase M0 M m D
K8 PySem.W.codeIn K cdv qual
K9 ["box","many"]
K_ [.fz d,.fz @z]
LA [@Az,@Al,@C_,.no,.no,.no]
LB cE n l T r b j
LC ib t m (ds.drop i) env β
LD lim.keeps x.toInCall.keep
LE pairD d
LF some (assign (@Gb) X.env)
LG upTo n @C8 i k
LH ["masks","late","row","placed","free","early"]
LI ["order","every","chosen","few","row","found"]
LJ (.bool b)
LK (Cg X X.A.in1 NB qn scope q (.ref c') s H pn)
LL (I.base.free b o e n hx)
LM (aC cz @C aN rfl rfl @s)
LN (aC dG @C aN rfl rfl @s)
LO (aj 1 (hB1 1 @S))
LP (f2 (gv 8) @M bE)
LQ (iS @H (gv 0) @EN yX yX)
LR .bl false
LS .fz (@AS)
LT .int (Builtin.bitOr i j)
LU .list (cs.map aG)
LV .ow (.list (L0.map int))
LW .type "enumerate"
LX Kt H' b o
LY PE X b tb
LZ PE X e te
La PG @U tg g
Lb PV n l pts left d
Lc Rc h' e cls T (rawInt L)
Ld Sem Value
Le Wt n l 0 T
Lf ["a","b","order"]
Lg ["number","many"]
Lh ["pairs"]
Li [.fz (.tuple es),.fz @z]
Lj bP P w K mg base ca "need_few_things" @j 6 bw
Lk backTo cpos (@AA)
Ll bs.any id
Lm gM X.prog X.w X.K X.mg X.base CX k f fd ps sp
Ln hb pins s1 σ H1 Q I1 q1
Lo its.toArray.any f
Lp k _ G' H' I2 (@HZ) (@Ee) ⟨p,rfl,hp,p2,p3⟩
Lq lvl n l k
Lr r.mono s
Ls sliceBounds lo hi none n
Lt some (.dT kvs ep)
Lu some X.env.locals
Lv ⟨@D5,Array.mk [],boot_drawn,boot_toks,os⟩
Lw ⟨WJ _ (@B),WK _ (@B)⟩
Lx (.lst ys)
Ly (aA (aV (j7 dh oA rfl B.tuple (@O) (ai 2))))
Lz (tp (ac rfl (ac (tp (ac (tp @CJ) @HF)) an)))
L0 ["masks","ways","placed","left","free","at"]
L1 bP P w K mg base ca "ways_on" ["masks"] 3 cT
L2 bP X.prog X.w X.K X.mg X.base Γ.ca x ps k F
L3 (.bl b)
L4 (.int x)
L5 (aM own ixs t fi ft fe)
L6 (aY aL bJ (ai 8) av @J)
L7 (bj Lc env)
L8 (iL rfl)
L9 .list []
L_ .ok false β1
MA AV lo n
MB Data.fields _
MC I2.letIn q1 p2 q3 q4 p3
ME IntsAre vs ns
MF J.stop i H'
MG N9 (fs.lookup f) (mA f)
MH OB n l late r
MI Own K G H a d
MJ Rp Γ.K G v d
MK [.fz @z,@v,@Dr,.no,.no]
ML ay H1 H'
MM e0.bs b o e
MN fb vs β
MO hgB _ s8 σ6 H8 x u _ I8' r8 (step x H8 y8)
MP some (.own a)
MQ t @p β
MR tn i s.heap
MS (TP X pins σ Q)
MT (UK (k3 _ _ eo))
MU (aA (qj dg.ex dg.ca rfl dg.mg (af kh ah)))
MV Gl X "enumerate"
MW I.keep b o h1 h2
MX Own Γ.K G H a d
MY WP (m' env β) Q
MZ X.mg "enumerate"
Ma ["int","bool","str","list","tuple","dict"]
Mb ["order","count","tables","counts","step"]
Mc ["order","groups","grown","group","thing"]
Md jQ (some b) H H'
Me key (s2 e hm) rd
Mf pts.map (rv n l)
Mg some (PySem.W.methodObj (.ref f) (.ref y))
Mh (.Call @E_ [a] [] pos)
Mi (.Return (some e) pos)
Mj (.Slice lo hi none p2)
Mk (PySem.W.instObj C dx)
Ml (h pins s σ H _ I hw)
Mm (hl pins s σ H _ I h)
Mn (ho pins s σ H _ I h)
Mo (jk env i)
Mp (m1.trans m')
Mq (nN hN hi hx he hs hf)
Mr .ref s1.heap.objs.size
Ms Exc K mg ca "NoNumber"
Mt OldK s₁.heap s'.heap
Mu SR Γ B G1 H σ env β
Mv ["script","k","here","number","j","part"]
Mw attributeBase o name X.env (eval o X.env)
Mx bP P w K mg base ca "every_pair" @Fx 1 cg
My bP P w K mg base ca "places" ["row"] 1 eH
Mz bP P w K mg base ca "sharp_turns" @j 7 b8
M0 eU Γ own ixs Lc fe Le
M1 h.DictOf (ig P w) a vs
M2 holding [v] (truthy v)
M3 hs i x σ _ (y xs q) p
M4 rb P w K mg base "_law_shuffled" @Ez 2 bH
M5 starEach [a,b,c] X.env
M6 swapsWith @h (some (@Gb)) spos.line X.env
M7 tU Γ own ixs Lc ft Lt
M8 xp P w K mg base vG 2 f fd @Ds (FX K R c)
M9 ⟨@CS,⟨o,Ux _ (k _ _ ho),hc,n,hd⟩⟩
M_ (aM 1 [2,3] @BN (bB (ak zY @F6)) iP @B1)
NA (ho pins s2 σ H2 x y v u _ I2 r1 r2 q2)
NB ["masks","placed","free","thing","mask"]
NC bP P w K mg base ca "_law_told" @CY 1 cB
ND bP P w K mg base ca "are_apart" @Bd 1 cH
NE bP P w K mg base ca "is_barred" @Ag 3 cC
NF bo ag [Nv.bx,.da (@AS),.da (@AS),.no] β
NG h.imp Eq.symm id
NH ⟨σ',H',I.unwish,q⟩
NI (.nm 4)
NJ (X.inTry Ex pn)
NK (aO q hn)
NL (af @B4 @A9)
NM (af @Di @Ew)
NN (ba 4 @V (aM 1 [6] @BN @HO @CO (gv 0)))
NO (ba 5 @V (aM 1 [1] @BN @HO @CO (gv 0)))
NP (f2 (gv 0) (gv 0) dX)
NQ (f2 (gv 2) (gv 3) bE)
NR (f2 (gv 5) (gv 4) jL)
NS (f2 fa fb g)
NT (hlz e C ex s3 H3 pn)
NU (jF rfl (ai 1))
NV (nu [ms])
NW (pyNext @Cv)
NX (xt (dz t1) t2)
NY .fz (d)
NZ .type "StopIteration"
Na BindsTo s fd args @GB
Nb I.cell x c e
Nc I.hok a _ ea
Nd I.slot i _ e
Ne I.slot i _ q
Nf I.slot j s q
Ng Jd n l rs
Nh List Key
Ni Option (List D)
Nj Option NameKind
Nk PI X tg iter wi
Nl Pv 0 @BR @FW
Nm X.mg "__name__"
Nn [@G,@CW,.fz (.int y)]
No aI (du L f) m' env β
Np ae (gv 2) (ae @Bc @Q)
Nq bP P w K mg base ca "leads_on" @AM 1 cw
Nr bx.list s
Ns cq K H vs ps
Nt eval c X.env
Nu ixs.getD k 0
Nv jy K H a @B6
Nw jy K H1 a xs
Nx model prog w
Ny nt K H xs ds
Nz vals1 r
N0 ⟨kp b _ h1,J.new b (Mx.lst h1) h2,h3⟩
N1 (.int k)
N2 (.ref C)
N3 (.ref q)
N4 (ae (gv 3) (ae (f2 (gv 2) @DU bE) ag))
N5 (aj 5 rfl)
N6 (bF @EQ)
N7 (zd (f2 (f2 (gv 3) @DU bE) @H b7) @Am)
N8 .fz (ko g)
N9 .int 0 0
N_ N σ2 H2
OA OM.ups n 0
OB UE.mp hx
OC [.int n]
OD [@Az,@Al,@C_,@Hc,.fz @Ft,.fz (.int p)]
OE [@Az,@Al,@C_,@Hc,.fz @Ft,.fz (.int q)]
OF [tupI r]
OG a7 l @Ff n
OH attributeBase @As "append" X.env (@G9)
OI ns.idxOf k
OJ ⟨σ',H',I.ofTry,q⟩
OK (aW (ae (gv 3) @BP))
OL (ae (gv 1) (ae (f2 (gv 3) @M bE) ag))
OM (bG ij iD (ai 5) av)
ON .int i t
OO J.new b (I.thereM h1) (I.new b h1 h2)
OP PyData.eqvAll (l.map int) (m.map int)
OQ [@Az,.no,.no,.no,.no,.no,.no,.no,.no]
OR [@G,@HQ,@DY,.fz @AX]
OS hJ m1 I1.boxThere p1
OT ho pins s2 σ H2 x y v u Q I2 rx ry q
OU o5 c n k
OV sf l s t
OW wm n l gs [] .no .no
OX wpAny M A (storeName X.env x u) Q E s
OY σ.set i (some .non)
OZ ⟨_,acc,v,rfl,rfl,hacc,hz,rfl,q11⟩
Oa (ae (gv 2) @Z)
Ob (aw (pv 0) aZ)
Oc (cst (.int 8))
Od (neC b o e hx)
Oe (upd H Da @Ci)
Of .list [.int z]
Og .rt d false β
Oh El mg base c T
Oi I8.pinned (stat fr8) (T.obj _ _ st8)
Oj Un (ic outer) [] H H' s.heap s'.heap
Ok [@G,@HQ,.no,.no,.no,.no,.no,.no,.no]
Ol backToKw pos (keywordEach kws X.env)
Om cW P w H h a o
On hn.sameBut hs (Ne.symm (cne x c hc))
Oo hx.keeps b o q
Op o4 K B G H v d
Oq pU Γ.K r g md
Or qv I d r hs s2
Os some (.ref fa)
Ot wpAny M A (excMatches @Hq @BO) Q E s
Ou ⟨_,ho,rfl⟩
Ov (SY X pins σ tg R)
Ow (aM 1 [3,5] @BN (bB (gv 7)) iP @B1)
Ox (bB (gv 3))
Oy (bF ah)
Oz (c6 st)
O0 (f2 (gv 2) @Hu @CV)
O1 .cons ⟨tk,rfl⟩ (.cons ru0 .nil)
O2 .list (left.map aG)
O3 .ok d false
O4 Data.cell v
O5 FV K H G' H' fr d v
O6 VB _ _ (Ne.symm hb)
O7 [@G,.fz @z,.fz @AX]
O8 assignEach es X.env
O9 bO X NB 1 ixs scope
O_ bs.map V.bl
PA compPost @N X.A X.xe none @BE acc C
PB eb b o hb e
PC hbody cdv A outer s H vs Q E hr hsp
PD holding [v,ov,iv] (setItem ov iv v)
PE hq.grow I1.sub.grow
PF iO K H p xs
PG n b (I1.thereM n1) (I1.new b n1 n2)
PH nr X.prog X.w H' h'
PI wpAny @N X.A (eval @ED X.env) Q E s
PJ wpAny M A (noteFrame @Hq env) Q E s
PK ⟨[],H,I,.nil,h⟩
PL ⟨⟨_,z1⟩,z2⟩
PM (aC cA @C aN rfl rfl (af @B4 @J7))
PN (aC dq @C aN rfl rfl (af @AP @A9))
PO [@Az,@Al,@C_,.fz (.int 0),.no,.no]
PP wpAny M A (leaving env @Hq) Q E' s
PQ (.Name y np2)
PR (Fx.fb K H G ca b)
PS (Rp.mono s h)
PT (SP X pins D)
PU (UI _ hy)
PV (af (aj 7 rfl) ah)
PW (aw ha aZ he)
PX (f2 (gv 1) @BH rW)
PY (f2 (gv 3) @B_ dX)
PZ (jw 2 [] @Hu)
Pa (lp @AQ)
Pb (r.append r2)
Pc (s1.trans s')
Pd .bl true
Pe .ext (iE ea (@Fj))
Pf .fz (@DF)
Pg .int (kf i) t
Ph .int 1 v
Pi .int i tk
Pj .ok @Co false
Pl .ok a β
Pm .ok d β2
Pn .ow (@At)
Po .tuple []
Pp Ext G H G' H'
Pq F ds β1
Pr I.lstM hH
Ps I.ok.bs b o e
Pt J.go i H'
Pu J.new b h1 h2
Pv Option V
Pw Option α
Px Passes CX X E
Py PyData.shownAll ds
Pz Q .non H'
P0 RelV y u
P1 SE X Γ E e f L md
P2 Turn X.prog X.w X.K tg J fp it tn
P3 UD.mp hm
P4 UD.mp hx
P5 Value.int i t
P6 Vc (UK e)
P7 W 0 m @BR @FW
P8 a7 l r k
P9 ae (gv 2) @G2
P_ hc pins s1 σ H1 vs us Q I1 r1 q1
QA ji L t m m' env β
QB m env1 β
QC mk (gP f t) n
QD nE n l @BT (@A0) (@n) (@DY) s7 s8
QE ne2 b o q
QF r.idxOf a
QG s.heap.push O
QH sb.extBut b o hb e
QI some (.own x)
QJ some none
QK vI Γ E G1 N (iC L ta m k env β)
QL vy.brw I1.boxThere
QM (.tup xs)
QN E1 l r x
QO Ux _ (Ux _ e)
QP ["masks","full","ways","placed"]
QQ ["way_here","order","count","e"]
QR [.da (@CZ),.da (@Ea),.da (aG t)]
QS [Nv.bx,.da @HN,.da @z,.da (@JD)]
QT gM P w K mg base CX k f fd ps sp
QU pure (.type "method_descriptor")
QV stepT (denote treeTable) p w s t
QW wpAny @N X.A (f v u) Q X.xe s₂
QX ⟨Gc,d,Ext.refl s2,e,q.mono s1⟩
QY ⟨_,G',B,β',I',vI.weak k s'⟩
QZ ⟨ws,.inl (.inl (s4 _ _ hc))⟩
Qa (.Compare a [op,op'] [b,c] pos)
Qb (.Tuple [.Name x px,@Gb] k pos)
Qc (ae (f2 (gv 6) (aW @BP) tY) ag)
Qd (aj 6 rfl)
Qe (eval iter X.env)
Qf (l0 2 [3] (gv 3))
Qg (qk false)
Qh (s'.trans s2)
Qi (vl (kR n l d v q (@CW) (@Hx)))
Qj .cell v
Qk .fields ws
Ql .fz @Co
Qm .head _
Qn .list (ud.map aG)
Qo .ok @Ej β
Qp .ok d b
Qq .ref h'.objs.size
Qr .tuple [.int i,d]
Qs GQ X.prog X.w X.K tg J fp it tn
Qt I.fresh h1
Qu I.old.trans J.old
Qv J.stop i H
Qw K.lookup f
Qx List (@GL)
Qy Loc X.env.scope n
Qz OM.Wn n ps
Q0 Own X.K G' H' a d
Q1 PyData.list.inj e
Q2 SA X Γ E es fr L
Q3 Vz.mpr ⟨k,hp⟩
Q4 W i m σ H
Q5 ["many","rows","found","a","b"]
Q6 ["one","other","a","b","pairs"]
Q7 ["one","other","b","a","pairs"]
Q8 ["row","found","place","thing"]
Q9 [@CZ,aG t]
Q_ absurd (OM.CJ (iq l) n (@B)) hz
RA fe vs1 β1
RB ki z.cps.toList i
RC mI (M b) n
RD s.heap.IsCell c v
RE some (@K5)
RF some oe
RG swapsWith e none pos.line X.env
RH vV n l T m
RI σ.set i (some x)
RJ (RJ r ta tb)
RK (ba 5 [] @M)
RL (bc cc fZ rfl B.len Vh (ai 3))
RM (f2 (f2 (gv 2) @Fi nq) @M @A5)
RN (hr pos pins s1 σ H1 _ I1 q1)
RO (rA @Hl (dD (f2 @BH @Fi @CV)))
RP (tp (ac rfl (ac (tp @HF) an)))
RQ .fz (.int t)
RR .ok true β1
RS .ow (bR n M)
RT Around.frames_deeper e0.frames
RU C2 J own ixs g tt te Q D σ H1
RV I1.bj Lb hbr
RW I3.ok.has x (S.frees _ m1 rfl)
RX Jj n l T q x
RY List.length_eq_zero_iff.mp (@B)
RZ List.range i
Ra PySem.W.kitOne K (.type t) @J1
Rb SeqAt.EqAt X.A.in1 s u v (@G7)
Rc ["masks","turn","late","more"]
Rd ["other","order","paths","at"]
Re ["thing","mask","late","more"]
Rf [@Az,@Dj,s2,s3,s4,s5,s6,s7,s8]
Rg c9 K G vs ds
Rh env.kindOf x
Ri h pins s σ H D I (m D σ H q)
Rj iO K H1 a xs
Rk nE n l @BT .no .no .no .no .no
Rl rA t u vs β
Rm some (.da d)
Rn some (int (Builtin.bitOr _ _))
Ro tn 0 s2.heap
Rp wpAny @FV A (pyIter @Cv) Q E s
Rq wpAny @N X.A (f v u) Q X.xe s2
Rr zC (some rs)
Rs (Cp N.length ds)
Rt (fu (aC cI @C aN rfl rfl @s))
Ru (gP @Fh a.toNat)
Rv (upd H p (.lst (xs.set j v)))
Rw .ok (.ret (@Bv))
Rx CM X Γ E c ta L
Ry I.ok.has x (S.frees _ hx rfl)
Rz Keeps (@CI) [ea,T] s3.heap h5
R0 LeftO p q loose Xt Yf Ya N g0
R1 OM.o5 (iq l) n k
R2 Vp I.ok.bsz I.sz
R3 ["box","some","left","found"]
R4 [@P,.no,.no,.no]
R5 [@P,@Aq,.no,.no]
R6 bP P w K mg base ca x ps k F'
R7 fe n l cs ps best s4 s5 s6 s7
R8 ha cpos pins s1 σ H1 _ I1 q1
R9 o4 K B G' H' v d
R_ openGood q loose
SA ⟨[@Dk,a],[]⟩
SB (.int b)
SC (.ref c)
SD (.ref x)
SE (DG l p)
SF (DL K a)
SG (cn @B0 iN (ai 0) av (bI _))
SH (eJ hT sL @C aN rfl rfl @NL)
SI (ie (ak Ri (ae (gv 1) @G1)))
SJ (tS rfl rfl B.enumerate @B4)
SK EN X scope s3.heap.objs.size
SL Kt H b o
SM Mu nm es
SN N σ' H'
SO P.zip vs
SP PyData.eqvAll @GZ (m.map aG)
SQ SR @Fn B' G' H' σ' env' β'
SR UD.mp hp
SS Vy.mp nd
ST ["box","most","many","rows"]
SU [.ref l]
SV [.ref p]
SW ay G' H'
SX fo k @AE
SY fo k X.A
SZ hf v u s2 x y H2 I2 r1 r2 q2
Sa ob2 b hb
Sb plainProg p.main.scope.names
Sc some vs1
Sd tryCatch (holding [v] @HP) _
Se tryCatch (pyNext (.ref I)) _
Sf (.eh 0 n)
Sg (.fz (@Eg))
Sh (I.base.keep b o q n hb hx)
Si (I.freeC x c e)
Sj (IB rs)
Sk (aY aL bJ (ai 0) (ai 1) @J)
Sl (aY aL bJ (ai 3) (ai 5) @J)
Sm (ae (gv 0) (ae (gv 6) @BP))
Sn (ae (gv 1) @FB)
So (ae (gv 2) (ae (gv 3) @Gl))
Sp (ae (gv 2) @BG)
Sq (ae (gv 8) (ae (gv 3) @Kz))
Sr (ae (gv 8) (ae (gv 5) @Kz))
Ss (ae @Ex ag)
St (bB (gv 2))
Su (ba 6 @V (f2 (gv 8) @H bE))
Sv (cst (@Ia))
Sw (f2 @Ex @BH rW)
Sx (ht.nox [] s1 @C9 H _ I hq)
Sy (iS @M (gv 0) (gv 1) yX rW)
Sz (jF rfl (ai 3))
S0 (jF rfl (ai 4))
S1 (nJ 0 bK @C aN rfl rfl @EQ)
S2 (qZ (@B))
S3 .fz (@C4)
S4 .ref c'
S5 .ref ea
S6 .rt d false β'
S7 AL X params body scope q H'
S8 Bq xs lo hi
S9 Ck @U ifs (qT @Bn E0 ft Lt)
S_ D7.lookup x
TA Dm n l c
TB EN X scope s.heap.objs.size
TC I.box b e
TD I1.sub.trans sH
TE I2.base.there b o z (nil b)
TF JF n l gs (@DZ)
TG OM.b9.mp hp
TH Own K G' H' a d
TI PA X [a] ta
TJ PT X a tA
TK PySem.W.excIn K C bmB newId
TL PySem.call f vs
TM Rep K H x d
TN Rp Γ.K G1 x d1
TO T'.row u hu
TP Vals dvs ds
TQ ["masks"]
TR ["order","groups","longer"]
TS ["row"]
TT [@Az,@Al,@C_,@Hc,.fz @Ft,y]
TU aI (ji L t m1 m2) m' env β
TV aM own ixs t fi ft fe vs β
TW aM own ixs t fi iP fe vs β
TX gi.mpr (@BQ)
TY hb wh pins s1 σ H1 Q I1 q1
TZ heB _ s10 σ9 H10 _ I10 q10
Ta hs i σ _ hlt p
Tb hx pins σ H1 s1 e s' I1 hq
Tc k _ G' H' I2 (@HZ) (@Ee) fv
Td lexLt xs ys
Te m @AD β'
Tf mI (cj q) n
Tg nr P w H h'
Th o4 K B G H x dx
Ti s1 _ _ hx
Tj yL n l []
Tk ⟨_,H9,I',q⟩
Tl ⟨_,ho2,rfl⟩
Tm ⟨h0,h1⟩
Tn ⟨v,H,I,r,h⟩
To (.Call @E_ [a,b,c] [] pos)
Tp (.int _)
Tq (.tup (@K0) (r.mono x.gg))
Tr (F.args_list_extend_2 _ _)
Ts (Obj.isFreed_of_fields d3)
Tt (ae (f2 (gv 2) @Fi Mo) ag)
Tu (f2 (gv 1) (ak az @CK) bE)
Tv (f2 (gv 1) (ak az @G1) bE)
Tw (f2 (gv 1) (ak mS @CK) bE)
Tx (h pos pins s σ H _ I hq)
Ty .ok (.bool (fK d n)) false
Tz AL X params body scope q H
T0 Inv (X.wish E) pins σ H s
T1 List.length_pos_iff.mpr hl
T2 PyProof.Rows.importsNone q
T3 PySem.W.codeHdIn (K p) c T
T4 SI X Γ E tg iter fi Li .b
T5 SR Γ B G H (@EW) (@Gh) β
T6 WP (ji L t m1 m2 env β) Q
T7 Wj.mpr ⟨en,UI _ h1,h2⟩
T8 [Nv.bx,.da @HN,.da @z,.no]
T9 h.mem_iff.mpr (bh.mpr @Bz)
T_ vC.new _ _
UA ⟨.int @Iq,H,@HT,@BS,q⟩
UB ⟨r,UW.mpr (.inl h1),h2⟩
UC (.Call @FN [@BJ] [] cpos)
UD (.List es pos)
UE (aS N.length ps.length m)
UF (aW (ae @Bc (ae @IX ag)))
UG (aw ha aZ hs')
UI (c9.mono s hs)
UJ (cst (.int 3))
UK (cst (.int 5))
UL .exc "NoNumber"
UM .ok (@At) true
UN Bool.and_eq_true_iff.mp e
UP ExcAttrFacts "ValueError"
UQ I.base.slot b o q n hb hx
UR I1.slot ir _ z
US List.length_pos_of_mem ha
UT PySem.W.openGood HD.vw []
UU Q @Jg (upd H l (.tup ys))
UV SE @U @Bn E0 elt fe Le .v
UW SG @U @Bn tg t
UX SeqAt.shaped d
UY Vc (UZ (UK q) I.ok.above)
UZ ["order","a","b","pairs"]
Ua ["order","count","found"]
Ub ["order","masks","a","b"]
Uc ["thing","order","place"]
Ud ["thing","ways","placed"]
Ue ae fa fr vs β
Uf bR n (bA (putL n (@r) t))
Ug cells.lookup x
Uh fV fa fb vs β
Ui hl i σ H hi p
Uj intKind prog w
Uk p9 1 [2] [] (gv 2) (gv 3)
Ul s2.trans x'.gg
Um some (.ref Dc)
Un upTo n @C8 i 0
Uo ⟨h1,h2⟩
Up ⟨none,rfl⟩
Uq (.Attribute o name apos)
Ur (.Call @E_ [a,b] [] pos)
Us (.inr ⟨c,rfl,w4,w5⟩)
Ut (.ins C dx fs)
Uu (.ref q10)
Uv (.ref q11)
Uw (.ref q13)
Ux (.ref q14)
Uy (.ref q15)
Uz (.two 2 3)
U0 (T.set lo (vV n l T lo))
U1 (Value.ref h1.objs.size)
U2 (aC dR @C aN rfl rfl @s)
U3 (ak a8 @Q)
U4 (ak gJ @Q)
U5 (dD (f2 (gv 0) @Bc @A5))
U6 (fr @p β)
U7 (iS @H (gv 0) @Oc yX yX)
U8 (oP hr.u1)
U9 (stat fr6)
U_ (vl (@BZ))
VA (vo.back m1 I1.boxThere)
VB (yM hr.u1)
VC .exc "NoOrder"
VD .fields ps
VE .nx env β
VF .ok (.bool (M1 d)) false
VG .ok (.bool (Mq d)) false
VH CI T Γ.G0
VJ Heap.ExtBut it s.heap h'
VK Heap.SameBut a s.heap h'
VL I.pin b hb
VM I.tuple ha
VN K.lookup a
VO K8 rfl rfl
VP OU 1 0 rfl
VQ Pt n l put
VR PyData.eqv (aG p) (aG q)
VS SP.ofTry q
VT SR @JW B G' H' σ env β
VU SeqAt.depth_of_shaped h1
VV W 0 m σ H
VW ["many","rows","tables"]
VX ["order","count","bare"]
VY ["other","order","turn"]
VZ ["thing","many","pairs"]
Va ["thing","turn","masks"]
Vb [au n l,left,fH n l @Dd]
Vc [d,.int n]
Vd [d,au n l]
Ve asks a k w
Vf bO @Jq [z,n] 1 [i] scope
Vg congrArg Array.toList d1
Vh fin its r' hz h' c' kp e
Vi hf p (yx (O.wn p hp) hp)
Vj ie (ak Ht @F7) (vl @Y) 0
Vk lastMarks [op,op'] [b,c]
Vl pure (ForInStep.yield r)
Vm s.heap.Ns X.env.locals m
Vn x.hh.mov B
Vo z.sameBut hs (I.cne y c q)
Vp ⟨.int _,H,@HT,@BS,q⟩
Vq ⟨o,k _ _ ho,hc,n,hd⟩
Vr ⟨w2,z2.sameBut hs hcc⟩
Vs ⟨z,its,n,r,r.length,e⟩
Vt (.Assign [@Gb] @h spos)
Vu (.Call @FN [e] [] cpos)
Vv (.Constant .none j pos)
Vw (.own 0)
Vx (.ref (ca c))
Vy (.ref t)
Vz (Vg _ _)
V0 (ae (cst (.int 14)) ag)
V1 (ae (gv 0) (ae @Bc ag))
V2 (ae (gv 5) (ae @LP ag))
V3 (au n l)
V4 (cj @Ff)
V5 (dD (f2 (gv 0) @H @A5))
V6 (dD (f2 (gv 0) @M @A5))
V7 (f2 (bo @B9) (gv 8) bE)
V8 (f2 (bo @Db) (gv 8) bE)
V9 (f2 (gv 3) (bo @BP) jL)
V_ (hr.deeper _)
WA (m1.trans hh)
WB (nh rfl B.range (ai 0))
WC (nj l.prog w)
WD (upd H l @Lx)
WE (yT n l)
WF .list ds
WG .ok (tupI ms) false β'
WH .type "slice"
WI @UH _ @AL ⟨r,rfl,h⟩
WJ Dv X Γ E x m
WK I.slot i _ q0
WL IntsAre us ns
WM J.go i H
WN Kt.of h
WO N σ3 H4
WP PyData.canLayAll0 (@Cu)
WQ RR @BO C (.ok .next) s'
WR Rp X.K G' v d
WS Str.ofString "__next__"
WT U4.mp hd
WU V own z
WV VF (@Bm)
WW VT h8 h8
WX Value.str x t
WY WT (x.above y c (Vt h))
WZ ["box"]
Wa ["one","order","thing"]
Wb [.bx,@LS,.ow (@AS),@Dr]
Wc [.fz d]
Wd aH N ps scope
We du L f env β
Wf f3 b hb
Wg fi @p β
Wh fi vs β
Wi fin (ji _ _ _ _ [@G] 0)
Wj h.grow s.grow
Wk hQ s2.heap.objs.size hD
Wl hbest j' (@B)
Wm hf b hb
Wn htB _ s9 σ9 H9 _ I9 q9
Wo iO X.K H p xs
Wp ic outer
Wq id I.loc
Wr kR n l @Co 0 [] .no .no
Ws nA fb dr β d
Wt ns.foldl step_dedup acc
Wu nv X (compareOp op') r'
Wv pm.nodup_iff.mpr (g9 n)
Ww pts.getD i []
Wx some (.ext (iE x0 @BO))
Wy some (.ow d1)
Wz some @BO
W0 some @BU
W1 some o'
W2 u σ H Q
W3 vals2 r
W4 Γ.H0 a
W5 ⟨o,I.kIn p o hk,hc⟩
W6 ⟨o,h1,h2⟩
W7 (.BoolOp .And [a] pos)
W8 (.ref h)
W9 (EZ (f2 (gv 3) @H b7))
W_ (ae (cst (.int 9)) ag)
XA (ae (f1 (gv 2) fR) ag)
XB (ae (f1 (gv 4) fR) ag)
XC (f2 (gv 1) (gv 2) @CV)
XD (ha pins s σ H Q I h)
XE (hc pins s σ H _ I h)
XF (σ'.set i (some (@S5)))
XG .Constant .none j pos'
XH .ref s3.heap.objs.size
XI .type "tuple_iterator"
XJ Inv (@Ar) [] σ' H' s'
XK List.range h.objs.size
XL List.replicate own .no
XM OM.Ord n (@r)
XN PyData.bool (vT n l e)
XO PySem.W.lookIn name od
XP SI X Γ E tg e fi L .v
XQ Slots (@CI) s3.heap h5
XR ["order","low","high"]
XS ["other","paths","at"]
XT [@G,.fz k,.no,.no,.no]
XU [au n l,.int a,.int b]
XV fb [.da di,.da dr] β1
XW longer c n gs
XX q _ (@Bf)
XY some (.lst [.int β'])
XZ tO a s1.heap.objs.size
Xa ups n lo
Xb z.sameBut hs (cne y c e)
Xc ⟨m',hm,σ3,H3,I3,w3⟩
Xd (.BoolOp .Or [a] pos)
Xe (.Constant @AJ j pos)
Xf (.Constant @Hr j pos)
Xg (.lst zs)
Xh (.ref gm)
Xi (.ref q1)
Xj (.ref q2)
Xk (.ref q3)
Xl (.ref q4)
Xm (.ref q5)
Xn (.ref q6)
Xo (.ref q8)
Xp (.ref q9)
Xq (U0 _ hp)
Xr (aO e hD)
Xs (dz (dO e1))
Xt (f2 (gv 3) (gv 5) bE)
Xu (intBits_le_64 h1 h2)
Xv (newList [])
Xw (rv n l put)
Xx (s _ _ h)
Xy (vl [@G])
Xz .fz (@At)
X0 .fz (au m g)
X1 .inr (@B)
X2 .nx env' β'
X3 .ok (@Ai) β
X4 .ok (@Bv) β
X5 .ok @L4 0
X6 .ok [] β
X7 .ok c β1
X8 .ok false β
X9 .tuple (@D0)
X_ Exc K mg ca "NoOrder"
YA Exc K mg ca "TooMany"
YB False.elim h
YC HT.xk its.length 0 lo
YD I.base.there b o q hx
YE I.hok p _ hk
YF I1.called hh hg hs hn
YG Inv (@Ar) [] @C9 H s1
YH Inv X pins (@EW) H s'
YI List.range ixs.length
YJ OM.longer (iq l) n gs
YK Option (@AG)
YL Option Sl
YM PA X es t
YN Pv 0 σ H
YO Pv n σ H
YP PyData.canLayAll0 @EA
YQ PyData.canLayAll0 @GZ
YR PyData.depthAll (@Cu)
YS PySem.W.tail_of_in X ht
YT R.old i p s hi hpi hs
YU Rp K G @BU (.dict ds)
YV S.names _ hm
YW W i n σ' H'
YX WC (q1 r hr) (q2 r hr)
YY ["turn","box","many"]
YZ [.fz @z,.fz (@y),.no]
Ya [@Az,@Al,@C_,@Hc,x,y]
Yb ds.map Sl.fz
Yc eval o X.env
Yd fW rfl rfl
Ye fs.map aG
Yf gs.take i
Yg hN σ7 H7 n7
Yh hk _ _ ho
Yi hk it @W o e
Yj its.any f
Yk jQ B H1 H
Yl k it @W _ st
Ym k.lst _ _ hV
Yn l.eraseIdx k
Yo pB K D R c j
Yp r x y H Q
Yq r.idxOf b
Yr rv.get hx
Ys s3 _ _ hx
Yt s5 _ _ hx
Yu some X.stack
Yv tn i s'.heap
Yw tn i s7.heap
Yx ts.map aG
Yy upTo n f i k
Yz ws.map ko
Y0 ⟨.bl _,H,I,rfl,q⟩
Y1 ⟨.no,.no,rfl,rfl⟩
Y2 ⟨[u],[]⟩
Y3 ⟨old,k _ @W _ z1⟩
Y4 ⟨xs,q,r.len.symm⟩"#).splitOn "\n").map fun l=>let n:=(l.takeWhile (· != ' ')).toString;(n,(l.drop (n.length+1)).toString)
local macro_rules|`(@$x:ident)=>do
  match dqB.lookup x.getId.toString with
  |some s=>do match ← (dqT s).foldlM dqS [(' ',#[],#[])] with
    |(_,_,c)::_=>pure (dqF c)
    |[]=>Lean.Macro.throwUnsupported
  |none=>Lean.Macro.throwUnsupported
local macro_rules|`(@A)=>`(⟨rfl,rfl,rfl,by decide +kernel,rfl,by decide +kernel,by decide +kernel⟩)|`(@B)=>`(by omega)|`(@C)=>`((hr.mono (by decide)))|`(@I)=>`(List D->FR)|`(@J)=>`((λ_ _=>rfl))|`(@K)=>`(List (Addr×Obj))|`(@L)=>`(Value->Shared->Prop)|`(@O)=>`(by decide +kernel)|`(@R)=>`(Str->Option Value)|`(@S)=>`((by decide))|`(@T)=>`((x==("__debug__":Str))=false)|`(@V)=>`(([]++[]))|`(@W)=>`((by simp))|`(@Y)=>`([@G,.fz left,.fz (fH n l pts),.fz (.int (i:Int)),.fz (aG t),.fz (bR n (bA (putAll n l put))),.fz (.tuple (put.map aG))])|`(@d)=>`([@G,.fz (.list ((lvl n l n).map tupI)),.fz (.list (ch.map tupI)),.fz (.int ((ch.length+0:Nat):Int)),.no,.no])|`(@f)=>`(λ_ _ _ _ _ _=>ln2 λ_ _=>rfl)|`(@g)=>`(λds h=>aK ds h)|`(@k)=>`(λ_ _ _ _ _ _=>sU λ_=>rfl)|`(@l)=>`((bW (by kernel_rfl)))
def Uw:=@List.length_map
def Ux:=@PySem.Heap.get?_push_of_some
def Uy:=@List.getElem?_eq_some_iff
def Uz:=@if_pos
def UA:=@PySem.wpAny_bind
def UB:=@List.getElem?_eq_getElem
def UC:=@Nat.le_refl
def UD:=@List.mem_cons
def UE:=@List.mem_filter
def UG:=@List.mem_cons_self
def UH:=@decide_eq_true
def UI:=@List.mem_cons_of_mem
def UJ:=@if_neg
def UK:=@PySem.Heap.lt_size
def UL:=@List.length_append
def UM:=@List.size_toArray
def UN:=@List.getElem?_map
def UO:=@decide_eq_false
def UP:=@List.mem_singleton
def UQ:=@Bool.false_ne_true
def UR:=@PySem.Heap.get?_push_size
def US:=@Bool.and_eq_true
def UT:=@List.getElem?_set_self
def UU:=@decide_eq_true_eq
def UW:=@List.mem_append
def UX:=@List.getElem?_set_ne
def UY:=@List.length_cons
def UZ:=@Nat.lt_of_lt_of_le
def U0:=@List.mem_append_right
def U1:=@List.mem_of_getElem?
def U2:=@List.getD_eq_getElem?_getD
def U3:=@PySem.wpAny_pure
def U4:=@List.mem_map
def U5:=@List.length_singleton
def U6:=@List.getElem?_append_left
def U7:=@List.map_append
def U8:=@Nat.lt_irrefl
def U9:=@List.getElem?_append_right
def Va:=@Bool.eq_iff_iff
def Vb:=@PySem.W.mg_of
def Vc:=@Nat.ne_of_lt
def Vd:=@Int.toNat_natCast
def Ve:=@List.all_eq_true
def Vf:=@List.not_mem_nil
def Vg:=@List.length_filter_le
def Vh:=@PySem.boot_len
def Vi:=@PySem.sizeLine_eq
def Vj:=@List.map_cons
def Vk:=@List.replicate_succ
def Vl:=@Nat.zero_le
def Vm:=@List.length_range
def Vn:=@decide_eq_false_iff_not
def Vo:=@Nat.zero_add
def Vp:=@Nat.le_trans
def Vq:=@List.mem_range
def Vr:=@List.append_assoc
def Vs:=@List.length_replicate
def Vt:=@PySem.mem_of_lookup
def Vu:=@List.map_congr_left
def Vv:=@PySem.W.kia_one
def Vw:=@Bool.not_eq_true'
def Vx:=@PySem.wpAny_mono
def Vy:=@List.nodup_cons
def Vz:=@List.mem_iff_getElem?
def VA:=@List.length_take
def VB:=@PySem.Heap.get?_update_other
def VC:=@PySem.Heap.size_push
def VD:=@List.eq_of_mem_replicate
def VE:=@Int.zero_add
def VG:=@decide_eq_decide
def VH:=@PyProof.Rows.callWith_type1
def VI:=@of_decide_eq_true
def VJ:=@List.getElem?_replicate
def VL:=@List.mem_append_left
def VM:=@List.length_set
def VN:=@PySem.wpAny_truthy_bool
def VP:=@List.map_map
def VQ:=@List.idxOf_lt_length_iff
def VR:=@Bool.or_eq_true
def VS:=@PySem.F.plain_min_loop
def VT:=@Nat.mul_le_mul
def VU:=@List.flatten_cons
def VW:=@or_false
def VX:=@List.getElem?_range
def VY:=@List.append_nil
def VZ:=@List.drop_eq_getElem_cons
def V3:=@List.getElem?_eq_none
def V4:=@Bool.false_eq_true
def V5:=@if_true
def V6:=@Nat.eq_of_testBit_eq
def V7:=@List.idxOf_append
def V8:=@PySem.SeqAt.canLay_of_shaped
def V9:=@PySem.wpAny_field
def Wa:=@Option.isSome_iff_exists
def Wb:=@List.set_eq_of_length_le
def Wc:=@List.pairwise_append
def Wd:=@List.filter_cons_of_pos
def We:=@List.filter_cons_of_neg
def Wf:=@Array.toList_append
def Wg:=@List.filter_sublist
def Wh:=@List.ext_getElem
def Wi:=@PySem.W.cellsFrom_some
def Wj:=@List.mem_filterMap
def Wk:=@PySem.wpAny_Call_Name_kw
def Wl:=@List.pairwise_cons
def Wm:=@PySem.wpAny_passesOwn
def Wo:=@List.length_nil
def Wq:=@PySem.Heap.get?_update_self
def Wr:=@PySem.wpAny_holding
def Ws:=@List.any_cons
def Wu:=@Array.getElem?_eq_some_iff
def Wv:=@List.nodup_iff_pairwise_ne
def Ww:=@PySem.wpAny_pyIter_list
def Wx:=@PySem.Around.under_plainId
def Wy:=@List.getElem?_mapIdx
def Wz:=@PySem.codeAny_mono
def WA:=@List.length_drop
def WB:=@List.lookup_cons
def WC:=@Nat.lt_trans
def WD:=@PySem.F.called_set
def WE:=@PySem.F.plainAttrs_list
def WG:=@List.pairwise_singleton
def WH:=@PySem.wpAny_pyIter_tuple
def WI:=@PySem.codeAny_builtin
def WJ:=@Int.emod_nonneg
def WK:=@Int.emod_lt_of_pos
def WL:=@if_false
def WM:=@List.take_of_length_le
def WN:=@List.getLast?_eq_some_getLast
def WO:=@PySem.wpAny_newObj_type
def WQ:=@PySem.wpAny_pyIter_enum
def WR:=@List.filter_congr
def WS:=@List.nodup_append
def WT:=@Nat.le_of_lt
def WU:=@List.all_map
def WV:=@PySem.wpAny_tryCatch
def WW:=@List.nodup_nil
def WX:=@List.dropLast_concat_getLast
def WY:=@List.drop_length
def WZ:=@PySem.wpAny_newFunctionEnv_cells
def W0:=@List.all_cons
def W2:=@List.findSome?_cons
def W3:=@Option.map_some
def W4:=@PySem.wpAny_execs_nil
def W5:=@List.of_mem_zip
def W6:=@List.getLast?_eq_getElem?
def W7:=@PySem.F.args_tuple_add_2
def W8:=@List.lookup_append
def W9:=@PySem.wpAny_comprehension_free
def Xa:=@PySem.Obj.data_mapFields
def Xb:=@List.length_erase_of_mem
def Xc:=@List.Pairwise.imp_of_mem
def Xd:=@List.getElem_idxOf
def Xe:=@PySem.AutoSeq1.wpAny_loadPart'
def Xf:=@List.filter_append
def Xg:=@Nat.lt_of_le_of_lt
def Xh:=@PySem.call_meets
def Xi:=@PySem.wpAny_setField
def Xj:=@List.pairwise_map
open List (map_nil foldl_cons nil_append set_set)
open PySem.W (Frag)
open PySem.PyData (int)
namespace HD
open PySem PySem.W
noncomputable abbrev Gj:=@PySem.W.Fast.tw10156331382660048174
noncomputable abbrev N0:=@PySem.W.Fast.tw11892475500146522536
noncomputable abbrev RW:=@PySem.W.Fast.tw6613529449190102663
noncomputable abbrev Oa:=@PySem.W.Fast.tw14364793385576792824
noncomputable abbrev Mf:=@PySem.W.Fast.tw17154629097778926822
noncomputable abbrev Gi:=@PySem.W.Fast.tw12822647523644345616
noncomputable def za(p:Program):Thread:=
 ⟨do
  let code <-Mf p.main
  let frame <-Gi code mainNs mainNs
  let _ <-run (.body (behindTheImports p) {scope:=p.main.scope,locals:=mainNs,globals:=mainNs,cells:=[],code,frame:=some frame})
  ret .none,
  .builtin "claim.caller" {},default,[]⟩
def FC(p:Program):topStub p=za p:=by
 unfold topStub za Mf Gi
 rw[<-PySem.W.Fast.te17154629097778926822,<-PySem.W.Fast.te12822647523644345616]
noncomputable def oO(p:Program)(w:World)(n₀:Nat)(ann:@DA):Nat->SharedT->Thread->Option SharedT
 | 0,_,_=>none
 |n+1,s,t=>match through t with
  |true=>some s
  |false=>match RW n₀ ann t with
   |false=>none
   |true=>match Gj (N0 Oa) p w s t with
    |some (s',t')=>oO p w n₀ ann n s' t'
    |none=>none
theorem xr{p:Program}{w:World}{n₀:Nat}{ann:@DA}:∀{n:Nat} {s s':SharedT} {t:Thread},oO p w n₀ ann n s t=some s'->topRun treeTable p w n₀ ann n s.abs t=some s'.abs
 | 0,_,_,_,h=>by cases h
 |n+1,s,s',t,h=>by
  unfold oO at h
  unfold topRun
  cases ht:through t with
  |true=>rw[ht]at h;cases h;rfl
  |false=>
   rw[ht]at h
   have hq:RW n₀ ann t=stepOk n₀ ann t:=by unfold RW;rw[<-PySem.W.Fast.te6613529449190102663]
   dsimp only at h
   rw[hq]at h
   cases hk:stepOk n₀ ann t with
   |false=>rw[hk]at h;cases h
   |true=>
    rw[hk]at h
    have hq:Gj (N0 Oa) p w s t=@QV:=by unfold Gj N0 Oa;rw[<-PySem.W.Fast.te10156331382660048174,<-PySem.W.Fast.te11892475500146522536,<-PySem.W.Fast.te14364793385576792824]
    dsimp only at h
    rw[hq]at h
    cases hs:@QV with
    |none=>rw[hs]at h;cases h
    |some r=>obtain⟨s₂,t₂⟩:=r;rw[hs]at h;rw[stepT_spec hs];exact xr h
def treeOf(l:List Obj):BT:=(l.foldl (λ(x:BT×Nat) o=>(x.1.ins x.2 o,x.2+1)) (.nil,0)).1
noncomputable def HA(P:Params):BT:=treeOf (boot_heap P).objs.toList
abbrev vc:Nat:=11
abbrev FW:Life:={}
def boot_abs(P:Params):absHeap (HA P) vc FW=boot_heap P:=by kernel_rfl
def DO(w:World):((@D5).isNs mainGlobals&&(Array.mk ([]:List GenState)).size==0,(@D5).objs.size,(@D5).nsMap mainGlobals "__annotations__")=(true,vc,some (.ref 6)):=by kernel_rfl
noncomputable def yw(w:World)(os:OsState):SharedT:=⟨HA w.params,vc,FW,Array.mk [],boot_drawn,boot_toks,os⟩
noncomputable def Cs(p:Program)(w:World)(s:Shared):Bool:=staticsOk (importedModules p.main.body) (@D5) s.heap&&namesBound p s.heap&&gensDone s&&laidKept (@D5) s.heap
def J1{p q:Program}{loose:@a}{Xt:Shared->Bool}{α:Type}{Yf:Shared->α}{Ya:World->α}{N:Nat}{g0:Bool}
  (e:opening p=@Sb) (hN:Nat.ble 600 N=true) (f:∀s,fenceModules? p s=some s)
  (run:∀(w:World) (os:OsState),(@FS).map (λs=>(Cs p w s.abs,@Dt,Yf s.abs))=some (true,@R_,Ya w)):@R0:=λw=>by
 obtain⟨⟨h,gs,d,k,os⟩,e,e'⟩:=Option.map_eq_some_iff.mp (boot_open e hN f w)
 obtain⟨rfl,rfl,rfl,rfl⟩:h=@D5/\gs=Array.mk []/\d=boot_drawn/\k=boot_toks:=by simpa using e'
 obtain⟨z1,z2,z3⟩:_/\_/\_:=by simpa only [Prod.mk.injEq]using DO w
 obtain⟨s',r,ls⟩:=Option.map_eq_some_iff.mp (run w os)
 obtain⟨l1,l2,l3⟩:_/\_/\_:=by simpa only [Prod.mk.injEq]using ls
 have r:=xr r
 have ha:(yw w os).abs=@Lv:=by
  show Shared.mk (absHeap (HA w.params) vc FW) _ _ _ _=_
  rw[boot_abs]
  rfl
 rw[ha,<-FC]at r
 have t:topFrom treeTable p w N @Lv=some s'.abs:=by
  unfold topFrom
  dsimp only
  rw[z1,z2,z3,r]
  show(match Cs p w s'.abs with|true=>_|false=>_)=_
  rw[l1]
 unfold openEnds
 rw[e]
 show(topFrom treeTable p w N _).map _=_
 rw[t]
 exact congrArg some (Prod.ext l2 l3)
theorem map_two{α β γ:Type}{o:@Pw}{f:α->β}{g:α->γ}{b:β}{c:γ}(h:o.map f=some b)(k:o.map g=some c):o.map (λs=>(f s,g s))=some (b,c):=by
 cases o with
 |none=>cases h
 |some x=>cases h;cases k;rfl
noncomputable abbrev Gw(p:Program)(N:Nat)(w:World)(os:OsState):Option SharedT:=@FS
def J9{p q:Program}{loose:@a}{Xt:Shared->Bool}{α:Type}{Yf:Shared->α}{Ya:World->α}{N:Nat}{g0:Bool}
  (e:opening p=@Sb) (hN:Nat.ble 600 N=true) (f:∀s,fenceModules? p s=some s)
  (r1:∀w os,(Gw p N w os).map (λs=>(Cs p w s.abs,(@Dt).1,Yf s.abs))=some (true,(@R_).1,Ya w))
  (r2:∀w os,(Gw p N w os).map (λs=>(@Dt).2)=some (@R_).2):@R0:=
 J1 e hN f λw os=>by
  have h:=map_two (r1 w os) (r2 w os)
  unfold Gw at h
  cases z:@FS with
  |none=>rw[z]at h;cases h
  |some x=>
   rw[z]at h
   simp only[W3,Option.some.injEq,Prod.mk.injEq]at h ⊢
   exact⟨h.1.1,Prod.ext h.1.2.1 h.2,h.1.2.2⟩
end HD
namespace L2
open PySem PySem.Spec PyProof.Rows
section
variable {P:Program}{w:World}{κ:Type}[DecidableEq κ]
def Ug(kd:HeapKind P w κ)(h:Heap)(d:Addr)(xs:List (κ×Addr×Value))(ep:Nat):Prop:=
 ∃o es,h.get? d=some o/\o.ExactDict/\o.data=.dict es ep/\es.toList=xs.map (entryOfKey kd)/\(xs.map (·.1)).Nodup
variable {kd:HeapKind P w κ}{A:Around}{E:@L}{s:Shared}
end
end L2
section
set_option Elab.async false
namespace L2
open PySem PySem.Spec PyProof.Rows
abbrev Key:=Sum Int Str
def xo:Key->Value->Bool
 | .inl k,v=>Value.isInt k v
 | .inr x,v=>Value.isStrOf x v
def Sa(w:World):Key->Int
 | .inl k=>hashInt k
 | .inr x=>hashStr w x
theorem c7:∀{k:Key} {v:Value},xo k v=true->(∃i t,k=Sum.inl i/\v=@P5)\/(∃x t,k=Sum.inr x/\v=@WX)
 | .inl i,v,h=>by
  obtain⟨t,e⟩:=Value.isInt_shape (k:=i) (v:=v) h
  exact .inl ⟨i,t,rfl,e⟩
 | .inr x,v,h=>by
  obtain⟨t,e⟩:=Value.isStrOf_shape (x:=x) (v:=v) h
  exact .inr ⟨x,t,rfl,e⟩
def Fe(i:Int)(t:Tok):xo (.inl i) (@ON)=true:=by simp[xo,Value.isInt]
def EU(x:Str)(t:Tok):xo (.inr x) (.str x t)=true:=by simp[xo,Value.isStrOf]
def Ob(a b:Int):decide ((Sum.inl a:Key)=Sum.inl b)=(a==b):=by
 by_cases e:a=b
 ·subst e;simp
 ·have h:¬(Sum.inl a:Key)=Sum.inl b:=λq=>e (Sum.inl.inj q)
  rw[UO h]
  exact(beq_eq_false_iff_ne.mpr e).symm
def Ng(a b:Str):decide ((Sum.inr a:Key)=Sum.inr b)=decide (a=b):=by
 by_cases e:a=b
 ·subst e;simp
 ·have h:¬(Sum.inr a:Key)=Sum.inr b:=λq=>e (Sum.inr.inj q)
  rw[UO h,UO e]
def NW(a:Int)(b:Str):decide ((Sum.inl a:Key)=Sum.inr b)=false:=UO (λq=>nomatch q)
def Np(a:Str)(b:Int):decide ((Sum.inr a:Key)=Sum.inl b)=false:=UO (λq=>nomatch q)
def ig(prog:Program)(w:World):PySem.KeyKind prog w Key where
 is:=xo
 hash:=Sa w
 inj:=λv a b ha hb=>by
  rcases c7 ha with⟨i,t,rfl,rfl⟩|⟨x,t,rfl,rfl⟩
  ·rcases c7 hb with⟨j,u,rfl,e⟩|⟨y,u,rfl,e⟩
   ·injection e with e1 _;rw[e1]
   ·exact nomatch e
  ·rcases c7 hb with⟨j,u,rfl,e⟩|⟨y,u,rfl,e⟩
   ·exact nomatch e
   ·injection e with e1 _;rw[e1]
 byValue:=λk v h=>by
  rcases c7 h with⟨i,t,rfl,rfl⟩|⟨x,t,rfl,rfl⟩<;>rfl
 pyHash:=λhv h=>by
  rcases c7 hv with⟨i,t,rfl,rfl⟩|⟨x,t,rfl,rfl⟩
  ·exact wpAny_pyHash_int h
  ·exact wpAny_pyHash_str h
 eqBool:=λhu hv h=>by
  rcases c7 hu with⟨i,t,rfl,rfl⟩|⟨x,t,rfl,rfl⟩
  ·rcases c7 hv with⟨j,u,rfl,rfl⟩|⟨y,u,rfl,rfl⟩
   ·rw[Ob]at h;exact wpAny_eqBool_int h
   ·rw[NW]at h;exact SeqAt.EqAt.int_str i t y u _ _ _ _ h
  ·rcases c7 hv with⟨j,u,rfl,rfl⟩|⟨y,u,rfl,rfl⟩
   ·rw[Np]at h;exact SeqAt.EqAt.str_int x t j u _ _ _ _ h
   ·rw[Ng]at h;exact wpAny_eqBool_str h
 «strs»:=λk x t v h=>by
  rcases c7 h with⟨i,u,rfl,e⟩|⟨y,u,rfl,e⟩
  ·exact nomatch e
  ·injection e with e1 _
   subst e1
   cases v<;>rfl
def Ar(prog:Program)(w:World)(i:Int)(t:Tok):(ig prog w).is (.inl i) (@ON)=true:=Fe i t
def zh(prog:Program)(w:World)(x:Str)(t:Tok):(ig prog w).is (.inr x) (.str x t)=true:=EU x t
inductive V where
 |non|bl (b:Bool)|int (i:Int)|str (x:Str)|byt (b:Array UInt8)|flt (b:UInt64)|ref (a:Addr)|ty (n:String)
 deriving DecidableEq
def RelV:V->Value->Prop
 | .non,u=>u=Value.none
 | .bl b,u=>u=Value.bool b
 | .int i,u=>∃t,u=@P5
 | .str x,u=>∃t,u=@WX
 | .byt b,u=>∃t,u=Value.bytes b t
 | .flt b,u=>∃t,u=Value.float b t
 | .ref a,u=>u=@Ik
 | .ty n,u=>u=Value.type n
abbrev Vals:List V->@e->Prop:=Paired RelV
def Vals.length{xs:List V}{us:@e}(r:@EU):xs.length=us.length:=Paired.length r
theorem Vals.get:∀{xs:List V} {us:@e} {i:Nat} {x:V},@EU->xs[i]? =some x->∃u,us[i]? =some u/\@Iu
 |_,_,_,_,.nil,e=>by simp at e
 |_,_,0,_,.cons r _,e=>by simp at e;subst e;exact @Kx
 |_,_,i+1,x,.cons _ t,e=>by
  obtain⟨u,h1,h2⟩:=Vals.get (i:=i) (x:=x) t (by simpa using e)
  exact⟨u,by simpa using h1,h2⟩
theorem Vals.set{x:V}{u:Value}(r:@Iu):∀{xs:List V} {us:@e} (i:Nat),@EU->Vals (xs.set i x) (us.set i u)
 |_,_,_,.nil=>.nil
 |_,_,0,.cons _ t=>.cons r t
 |_,_,i+1,.cons q t=>.cons q (Vals.set r i t)
theorem Vals.append:∀{xs ys:List V} {us ws:@e},@EU->Vals ys ws->Vals (xs++ys) (us++ws)
 |_,_,_,_,.nil,s=>s
 |_,_,_,_,.cons r t,s=>.cons r (Vals.append t s)
theorem Vals.take:∀{xs:List V} {us:@e} (n:Nat),@EU->Vals (xs.take n) (us.take n)
 |_,_,0,_=>.nil
 |_,_,_+1,.nil=>.nil
 |_,_,n+1,.cons r t=>.cons r (Vals.take n t)
theorem Vals.drop:∀{xs:List V} {us:@e} (n:Nat),@EU->Vals (xs.drop n) (us.drop n)
 |_,_,0,r=>r
 |_,_,_+1,.nil=>.nil
 |_,_,n+1,.cons _ t=>Vals.drop n t
def N9:@Pv->@DA->Prop
 |some v,some u=>@Fw
 |none,none=>True
 |_,_=>False
def KV{κ:Type}:List (κ×V)->List (κ×Value)->Prop:=Paired λ(p:κ×V) (q:κ×Value)=>p.1=q.1/\RelV p.2 q.2
def kV:Key->V
 | .inl i=>.int i
 | .inr x=>.str x
inductive HO where
 |lst (xs:List V)
 |tup (xs:List V)
 |dK (kvs:List (Key×V))|dT (kvs:List (@Nh ×V)) (ep:Nat)
 |set (S:Int->Bool) (n:Nat)
 |ins (C dx:Addr) (fs:List (Str×V))
 |own (x:Addr)
 |xd (fs:List (Str×V))
 |met (f x:Addr)
 |eh (lo hi:Int)
 |bj (o:Obj) (u:HO)
 |tbl (ps:@BC)
 |ext (φ:Heap->Prop)
abbrev Hp:=Addr->Option HO
def upd(H:Hp)(a:Addr)(o:HO):Hp:=λb=>if b=a then some o else H b
def aE{H:Hp}{a:Addr}{o:HO}:upd H a o a=some o:=by unfold upd;rw[Uz rfl]
def aJ{H:Hp}{a b:Addr}{o:HO}(h:b≠a):upd H a o b=H b:=by unfold upd;rw[UJ h]
def J8{H:Hp}{a:Addr}{o u:HO}:upd @GC a u=upd H a u:=by
 funext b;unfold upd;split<;>rfl
def Mk{H:Hp}{a b:Addr}{o u:HO}(h:H a=some o)(h':H b=some u)(d:o≠u):a≠b:=by
 intro e;subst e;rw[h]at h';exact d (Option.some.inj h')
def aO{H:Hp}{a b:Addr}{o:HO}(h:H a=some o)(h':H b=none):a≠b:=by
 intro e;subst e;rw[h]at h';cases h'
section
variable (P:Program)(w:World)
def vC(h:Heap)(a:Addr)(items:@BC):Prop:=∃o,h.get? a=some o/\o.cls=@CA/\∃n,o.data=.seq items n/\o.dict=none
def vC.isTup{h:Heap}{a:Addr}{items:@BC}(x:vC h a items):IsTup h a items:=let⟨o,e,c,n,d,_⟩:=x;⟨o,e,c,n,d⟩
def vC.new(h:Heap)(items:@BC):vC (h.push {cls:=@CA,data:=.seq items}) h.objs.size items:=⟨_,@Gq,rfl,_,rfl,rfl⟩
def cW(H:Hp)(h:Heap)(a:Addr):HO->Prop
 | .lst xs=>xs.length<=sizeLine/\∃(its:@e) (n:Nat),@Ij/\h.get? a=some {cls:=@BV,data:=@D3}
 | .tup xs=>xs.length<=sizeLine/\∃its:@e,@Ij/\vC h a its.toArray
 | .dK kvs=>kvs.length<=sizeLine/\(a==sysModules)=false/\∃vs,@JJ/\@M1
 | .dT kvs ep=>kvs.length<=sizeLine/\(a==sysModules)=false/\∃xs:List (@Nh ×Addr×Value),
   Paired (λ(p:List Key×V) (q:List Key×Addr×Value)=>p.1=q.1/\(H q.2.1=some (.tup (p.1.map kV))\/∃o,H q.2.1=some (.bj o (.tup (p.1.map kV))))/\RelV p.2 q.2.2) kvs xs/\
   Ug (tupleKind (ig P w)) h a xs ep
 | .set S n=>h.SetOf (intKind P w) a S n
 | .ins C dx fs=>H dx=@MP/\fs.length<=1000/\dx≠a/\h.get? a=some @Mk/\
   ∃mA,h.Ns1 dx mA/\(∀f,@MG)/\PySem.Within mA (fs.map (·.1))
 | .own _=>∃o,h.get? a=some o
 | .xd fs=>∃mA,h.Ns1 a mA/\∀f,@MG
 | .eh lo hi=>∃t u v,h.get? a=some {cls:=@DO,data:=.fields #[@H0,@Hz,@Ph]}
 | .bj o u=>h.get? a=some o/\cW H h a u
 | .tbl ps=>h.get? a=some {cls:=.none,data:=@VD}
 | .met f x=>h.get? a=some (PySem.W.methodObj (.ref f) @SD)
 | .ext φ=>φ h/\(∃o,h.get? a=some o)/\∀h1 h2:Heap,φ h1->(∀o,h1.get? a=some o->h2.get? a=some o)->φ h2
def nr(H:Hp)(h:Heap):Prop:=∀a o,H a=some o->@Om
end
section
variable {P:Program}{w:World}{H H':Hp}{h h':Heap}{a:Addr}{o:HO}
theorem cW.lt(x:@Om):a<h.objs.size:=by
 cases o with
 |lst xs=>obtain⟨_,_,_,_,e⟩:=x;exact UK e
 |tup xs=>obtain⟨_,_,_,p⟩:=x;exact p.isTup.lt
 |dK kvs=>obtain⟨_,_,_,_,o,_,_,e,_⟩:=x;exact UK e
 |dT kvs ep=>obtain⟨_,_,_,_,o,_,e,_⟩:=x;exact UK e
 |set S n=>obtain⟨o,_,_,_,e,_⟩:=x;exact UK e
 |ins C dx fs=>obtain⟨_,_,_,e,_⟩:=x;exact UK e
 |own y=>obtain⟨_,e⟩:=x;exact UK e
 |xd fs=>obtain⟨_,⟨_,_,_,e,_⟩,_⟩:=x;exact UK e
 |eh lo hi=>obtain⟨_,_,_,e⟩:=x;exact UK e
 |bj ob u=>obtain⟨e,_⟩:=x;exact UK e
 |tbl ps=>exact UK (show h.get? a=some _ from x)
 |met f y=>exact UK (show h.get? a=some _ from x)
 |ext φ=>obtain⟨_,⟨_,e⟩,_⟩:=x;exact UK e
theorem Paired.mapP{α β:Type}{F G:α->β->Prop}:∀{l₁:@Bl} {l₂:List β},Paired F l₁ l₂->(∀a b,F a b->G a b)->Paired G l₁ l₂
 |_,_,.nil,_=>.nil
 |_,_,.cons r t,f=>.cons (f _ _ r) (Paired.mapP t f)
theorem cW.stay(x:@Om)(k:∀b u,(b=a\/H b=@MP)->h.get? b=some u->h'.get? b=some u)
  (ho:∀b,H b=@MP->H' b=@MP) (ht:∀b xs,(H b=@EP\/∃o,H b=some (.bj o @QM))->(H' b=@EP\/∃o,H' b=some (.bj o @QM))):cW P w H' h' a o:=by
 induction o with
 |lst xs=>obtain⟨z,its,n,r,e⟩:=x;exact⟨z,its,n,r,@Ec ⟩
 |tup xs=>obtain⟨z,its,r,ob,e,c⟩:=x;exact⟨z,its,r,ob,@Ec,c⟩
 |dK kvs=>obtain⟨z,y,vs,r,ob,es,ep,e,c⟩:=x;exact⟨z,y,vs,r,ob,es,ep,@Ec,c⟩
 |dT kvs ep=>
  obtain⟨z,y,xs,r,ob,es,e,c⟩:=x
  exact⟨z,y,xs,Paired.mapP r λp q z=>⟨z.1,ht _ _ z.2.1,z.2.2⟩,ob,es,@Ec,c⟩
 |set S n=>obtain⟨ob,es,ep,t,e,c⟩:=x;exact⟨ob,es,ep,t,@Ec,c⟩
 |ins C dx fs=>
  obtain⟨d,z,ne,e,mA,⟨od,es,ep,e2,c⟩,r⟩:=x
  exact⟨ho _ d,z,ne,@Ec,mA,⟨od,es,ep,k _ _ (.inr d) e2,c⟩,r⟩
 |own y=>obtain⟨ob,e⟩:=x;exact⟨ob,@Ec ⟩
 |xd fs=>obtain⟨mA,⟨od,es,ep,e,c⟩,r⟩:=x;exact⟨mA,⟨od,es,ep,@Ec,c⟩,r⟩
 |eh lo hi=>obtain⟨t,u,v,e⟩:=x;exact⟨t,u,v,@Ec ⟩
 |bj ob u ih=>obtain⟨e,q⟩:=x;exact⟨@Ec,ih q⟩
 |tbl ps=>
  have e:h.get? a=some {cls:=.none,data:=@VD}:=x
  show h'.get? a=some {cls:=.none,data:=@VD}
  exact k a _ (@BQ) e
 |met f y=>
  have e:h.get? a=@Mg:=x
  show h'.get? a=@Mg
  exact k a _ (@BQ) e
 |ext φ=>obtain⟨p,⟨o,e⟩,st⟩:=x;exact⟨st _ _ p λo q=>k _ _ (@BQ) q,⟨o,@Ec ⟩,st⟩
def nr.lt(x:@Fk)(e:H a=some o):a<h.objs.size:=(x a o e).lt
theorem nr.fresh(x:@Fk)(e:h.objs.size<=a):H a=none:=by
 cases q:H a with
 |none=>rfl
 |some u=>exact absurd (UZ (x.lt q) e) (U8 _)
def nr.kept(x:@Fk)(k:∀b u,h.get? b=some u->h'.get? b=some u):@Tg:=λa o e=>
 (x a o e).stay (λb u _ q=>k b u q) (λ_ q=>q) λ_ _ q=>q
def nr.laid(x:@Fk)(k:∀b u,h.get? b=some u->h'.get? b=some u)(hp:h.objs.size<=a)(new:cW P w @GC h' a o):nr P w @GC h':=λb u e=>by
 have hn:=x.fresh hp
 by_cases hb:b=a
 ·subst hb;rw[aE]at e;cases e;exact new
 ·rw[aJ hb]at e
  exact(x b u e).stay (λc v _ q=>k c v q) (λc q=>by rw[aJ @NK];exact q) λc xs q=>q.imp (λq=>by rw[aJ @NK];exact q) λ⟨o,q⟩=>⟨o,by rw[aJ @NK];exact q⟩
end
def Rd(H:Hp)(a:Addr)(u:HO):Prop:=H a=some u\/∃o,H a=@E3
def Rd.ok{P:Program}{w:World}{H:Hp}{h:Heap}{a:Addr}{u:HO}(r:Rd H a u)(x:@Fk):cW P w H h a u:=by
 rcases r with r|⟨o,r⟩
 ·exact x a u r
 ·obtain⟨_,q⟩:=x a _ r
  exact q
def QT:Option HO->Prop
 |some (.lst _)=>True
 |some (.dK _)=>True
 |some (.dT _ _)=>True
 |some (.set _ _)=>True
 |some (.ins _ _ _)=>True
 |some (.ext _)=>True
 |_=>False
section
variable {P:Program}{w:World}{H:Hp}{h h':Heap}{x e:Addr}{o':HO}
def nr.write(ok:@Fk)(mu:QT (H x))(he:e=x\/H e=@QI)(k:∀b u,b≠e->h.get? b=some u->h'.get? b=some u)(heo:∃u,h'.get? e=some u)
  (new:cW P w (upd H x o') h' x o'):nr P w (upd H x o') h':=λb u q=>by
 have nown:∀c y,H c=some (.own y)->c≠x:=λc y r z=>by subst z;rw[r]at mu;exact mu
 have ntup:∀c xs,H c=@EP->c≠x:=λc xs r z=>by subst z;rw[r]at mu;exact mu
 by_cases hb:b=x
 ·subst hb;rw[aE]at q;cases q;exact new
 ·rw[aJ hb]at q
  by_cases hbe:b=e
  ·have q':H b=@QI:=by
    rcases he with z|z
    ·exact absurd (hbe.trans z) hb
    ·rw[hbe];exact z
   rw[q]at q';cases q'
   obtain⟨v,hv⟩:=heo
   exact⟨v,by rw[hbe];exact hv⟩
  ·refine(ok b u q).stay (λc v hc r=>k c v ?_ r) (λc r=>by rw[aJ (nown c b r)];exact r) λc xs r=>r.imp (λr=>by rw[aJ (ntup c xs r)];exact r) λ⟨o,r⟩=>⟨o,by rw[aJ (λz=>by subst z;rw[r]at mu;exact mu)];exact r⟩
   rcases hc with rfl|hc
   ·exact hbe
   ·rintro rfl
    rcases he with z|z
    ·exact nown c b hc z
    ·rw[hc]at z;cases z;exact hb rfl
end
structure Un(fs ex:@Ao)(H H':Hp)(h h':Heap):Prop where
 keep:∀b o,h.get? b=some o->H b=none->b∉fs->b∉ex->h'.get? b=some o
 slot:∀b o,h.get? b=some o->H b=none->b∈fs->b∉ex->∃sl,h'.get? b=some {o with slots:=sl}
 free:∀b o,h.get? b=some o->H b=none->b∉ex->H' b=none
 there:∀b o,h.get? b=some o->b∉ex->∃o',h'.get? b=@W1
 tups:∀b xs,H b=@EP->H' b=@EP
 frzs:∀b o u,H b=@E3->H' b=@E3
 tbls:∀b ps,H b=@RE->∃more,H' b=some (.tbl (ps++more))
section
variable {fs fs' ex ex':@Ao}{H H1 H2:Hp}{h h1 h2 h':Heap}{a x e:Addr}{o:HO}
def Un.any(u:Un fs ex H H1 h h1){b:Addr}{ob:Obj}(q:h.get? b=some ob)(n:H b=none)(hx:b∉ex):∃sl,h1.get? b=some {ob with slots:=sl}:=by
 by_cases hb:b∈fs
 ·exact u.slot b ob q n hb hx
 ·exact⟨ob.slots,u.keep b ob q n hb hx⟩
def Un.kept(k:∀b u,h.get? b=some u->h'.get? b=some u):Un fs ex H H h h':=
 ⟨λb ob q _ _ _=>k b ob q,λb ob q _ _ _=>⟨ob.slots,k b ob q⟩,λ_ _ _ n _=>n,λb ob q _=>⟨ob,k b ob q⟩,λ_ _ q=>q,λ_ _ _ q=>q,λ_ ps q=>⟨#[],by rw[q];simp⟩⟩
def Un.refl:Un fs ex H H h h:=Un.kept λ_ _ q=>q
def Un.laid(k:∀b u,h.get? b=some u->h'.get? b=some u)(hp:h.objs.size<=a)(hn:H a=none):Un fs ex H @GC h h' where
 keep:=λb u q _ _ _=>k b u q
 slot:=λb u q _ _ _=>⟨u.slots,k b u q⟩
 free:=λb u q n _=>by rw[aJ (Vc (UZ (UK q) hp))];exact n
 there:=λb u q _=>⟨u,k b u q⟩
 tups:=λb xs q=>by rw[aJ @NK];exact q
 frzs:=λb u xs q=>by rw[aJ @NK];exact q
 tbls:=λb ps q=>⟨#[],by rw[aJ @NK,q];simp⟩
def Un.write(mu:QT (H x))(he:e=x\/H e=@QI)(k:∀b u,b≠e->h.get? b=some u->h'.get? b=some u)(heo:∃u,h'.get? e=some u):Un fs ex H (upd H x o) h h':=by
 have hx:∀b,H b=none->b≠x:=λb n z=>by subst z;rw[n]at mu;exact mu
 have hb:∀b,H b=none->b≠e:=λb n z=>by
  subst z
  rcases he with r|r
  ·exact hx b n r
  ·rw[n]at r;cases r
 have hm:∀b u,H b=some u->¬QT (some u)->b≠x:=λb u q nm z=>by subst z;rw[q]at mu;exact nm mu
 refine⟨λb u q n _ _=>k b u (hb b n) q,λb u q n _ _=>⟨u.slots,k b u (hb b n) q⟩,λb u q n _=>by rw[aJ (hx b n)];exact n,λb u q _=>?_,
  λb xs q=>by rw[aJ (hm b _ q λz=>z)];exact q,λb u xs q=>by rw[aJ (hm b _ q λz=>z)];exact q,λb ps q=>⟨#[],by rw[aJ (hm b _ q λz=>z),q];simp⟩⟩
 by_cases hbe:b=e
 ·subst hbe;exact heo
 ·exact⟨u,k b u hbe q⟩
end
def RK(h:Heap)(H:Hp):@Ao:=(@XK).filter λa=>(H a).isSome
def vZ(h:Heap)(H:Hp):Heap:=PySem.W.hideAll h (RK h H)
def EM(h:Heap)(H:Hp):(vZ h H).objs.size=h.objs.size:=PySem.W.hideAll_size _ _
def Fs{h:Heap}{H:Hp}{b:Addr}{o:Obj}(e:h.get? b=some o)(n:H b=none):(vZ h H).get? b=some o:=
 PySem.W.hideAll_get _ e λhm=>by
  have q:(H b).isSome=true:=(UE.mp hm).2
  rw[n]at q;simp at q
theorem JL{h:Heap}{H:Hp}{b:Addr}{o:Obj}(e:(vZ h H).get? b=some o):h.get? b=some o/\H b=none:=by
 have e':h.get? b=some o:=PySem.W.of_hideAll (RK h H) e
 refine⟨e',?_⟩
 cases q:H b with
 |none=>rfl
 |some x=>
  have hm:b∈RK h H:=UE.mpr ⟨Vq.mpr (UK e'),by simp[q]⟩
  have z:(vZ h H).get? b=none:=PySem.W.hideAll_none (RK h H) hm
  rw[z]at e;cases e
def Kz(g h:Heap)(L:Addr):@K:=(@XK).filterMap λa=>if a=L\/(g.get? a).isSome=true then none else(h.get? a).map λo=>(a,o)
def rest(g h:Heap)(L d:Addr):@K:=(Kz g h L).filter λp=>decide (p.1≠d)
structure Mod(K:Frag)(mg:@R)(base:Heap):Prop where
 kin:K.In base
 glob:@Fr
 blt:∃mb,base.Ns builtinsNs mb/\∀x:Str,x≠"__name__"->mb x=@E0
 nolimit:base.NoLimit
 sys:∃mm,base.Ns sysModules mm
structure Cx where
 prog:Program
 w:World
 K:Frag
 mg:@R
 base:Heap
 A:Around
 N:@a
 s₀:Shared
 H₀:Hp
 env:Env
 outer:@Cf
 stack:@Cf
 ex:@Ao
 fn:Str->Bool
 calm:Bool
 pn:@K
 xe:@L
def ic(l:@Cf):@Ao:=l.filterMap (·.frame)
abbrev Cx.fs(X:Cx):@Ao:=ic X.outer
def y7(sc:Scope)(x:Str):Prop:=@Dl=@Ae\/@Dl=@B8\/@Dl=@Hj
def Loc(sc:Scope)(x:Str):Prop:=@Dl=@Ae\/@Dl=@B8
def Look(env:Env)(h:Heap)(m:@R)(x:Str)(u:Value):Prop:=
 (@Rh=@Ae/\m x=some u)\/((@Rh=@B8\/@Rh=@Hj)/\∃c,env.cells.lookup x=some c/\h.IsCell c (some u))
structure Cx.Ok(X:Cx):Prop where
 mod:Mod X.K X.mg X.base
 kind:X.env.scope.kind=@JB
 glob:X.env.globals=mainGlobals
 blt:X.env.builtins=builtinsNs
 above:X.s₀.heap.objs.size<=X.env.locals
 inj:∀x y c,@x=some c->X.env.cells.lookup y=some c->x=y
 has:∀x,(@Iv=@B8\/@Iv=@Hj)->∃c,@x=some c
 cab:∀x c,X.fn x=true->@x=some c->X.s₀.heap.objs.size<=c
 hd:X.calm=true->X.A.handled=none
 frames:X.A.frames=@Yu
 stk:X.stack=X.outer\/(X.stack=X.env::X.outer/\X.env.frame=@Lu)
 exf:∀b∈X.ex,b≠X.env.locals/\∀x c,@x=some c->c≠b
 bs:∀b o,X.base.get? b=some o->X.s₀.heap.get? b=some o/\X.H₀ b=none
 bsz:X.base.objs.size<=X.s₀.heap.objs.size
 noex:∀b o,X.base.get? b=some o->b∉X.ex
 exfs:∀b∈X.ex,b∉X.fs
 funs:X.s₀.heap.FunFrames X.base X.outer
 frf:∀b∈X.fs,X.H₀ b=none
structure Inv(X:Cx)(pins:@K)(σ:List (@Pv))(H:Hp)(s:Shared):Prop where
 ok:X.Ok
 os:s.os=X.s₀.os
 bare:AllBare s.gens
 base:Un X.fs X.ex X.H₀ H X.s₀.heap s.heap
 loc:∃m,@Vm/\∀(i:Nat) (x:Str) (v:V),X.N[i]? =some x->σ[i]? =@Fd->@Ca->∃u,@Fw/\Look X.env s.heap m x u
 cell:∀x c,@x=some c->∃v,@RD
 free:H X.env.locals=none
 freeC:∀x c,@x=some c->H c=none
 pin:∀p∈X.pn++pins,s.heap.get? p.1=some p.2/\H p.1=none/\p.1≠X.env.locals/\p.1∉X.fs/\∀v,p.2.data≠@Qj
 hok:nr X.prog X.w H s.heap
 len:σ.length=X.N.length
section
variable {X:Cx}{pins:@K}{σ:List (@Pv)}{H H':Hp}{s:Shared}{h':Heap}
def Cx.Ok.nofr(ok:X.Ok){b:Addr}{o:Obj}(e:X.base.get? b=some o):b∉X.fs:=λhb=>by
 have:=(ok.funs.mem hb).1
 rw[e]at this;cases this
def Inv.bs(I:@D):∀b o,X.base.get? b=some o->s.heap.get? b=some o/\H b=none:=λb o e=>
 ⟨I.base.keep b o (@Ps).1 (@Ps).2 (I.ok.nofr e) (I.ok.noex b o e),I.base.free b o (@Ps).1 (@Ps).2 (I.ok.noex b o e)⟩
def Inv.bk(I:@D):∀b o,X.base.get? b=some o->s.heap.get? b=some o:=λb o e=>(I.bs b o e).1
def Inv.mod(I:@D):Mod X.K X.mg X.base:=I.ok.mod
def Inv.kIn(I:@D):X.K.In s.heap:=I.ok.mod.kin.keeps I.bk
def Inv.lt(I:@D):X.env.locals<s.heap.objs.size:=let⟨_,hn,_⟩:=I.loc;hn.lt
def Inv.sz(I:@D):X.s₀.heap.objs.size<=s.heap.objs.size:=Vp I.ok.above (WT I.lt)
def Inv.nofs(I:@D){a:Addr}(h:s.heap.objs.size<=a):a∉X.fs:=λhb=>by
 obtain⟨_,o,ho,_⟩:=I.ok.funs.mem hb
 exact absurd (UZ (UK ho) (Vp I.sz h)) (U8 _)
def Inv.cne(I:@D):∀x c,@x=some c->c≠X.env.locals:=λx c e z=>by
 obtain⟨v,o,ho,hd⟩:=@Nb
 obtain⟨m,⟨o',es,ep,ho',hd',_⟩,_⟩:=I.loc
 rw[z,ho']at ho;cases ho;rw[hd']at hd;cases hd
def Inv.funs(I:@D):s.heap.FunFrames X.base X.outer:=by
 have all:∀(l:@Cf),(∀b∈ic l,b∈X.fs)->X.s₀.heap.FunFrames X.base l->s.heap.FunFrames X.base l:=by
  intro l
  induction l with
  |nil=>intro _ _;trivial
  |cons env r ih=>
   intro hs hl
   obtain⟨hk,⟨L,o,hf,hn,ho,hd⟩,hr⟩:=hl
   have hL:L∈X.fs:=hs L (by unfold ic;rw[List.filterMap_cons,hf];exact UG)
   obtain⟨sl,e⟩:=I.base.slot L o ho (I.ok.frf L hL) hL λz=>I.ok.exfs L z hL
   exact⟨hk,⟨L,_,hf,hn,e,hd⟩,ih (λb hb=>hs b (by unfold ic;rw[List.filterMap_cons,hf];exact UI _ hb)) hr⟩
 exact all X.outer (λ_ hb=>hb) I.ok.funs
def Inv.stack(I:@D):s.heap.FunFrames X.base X.stack:=by
 rcases I.ok.stk with e|⟨e,hf⟩
 ·rw[e];exact I.funs
 ·rw[e]
  obtain⟨m,hn,_⟩:=I.loc
  refine .cons (by rw[I.ok.kind];decide) hf hn ?_ I.funs
  exact Heap.get?_none_of_le (Vp I.ok.bsz I.ok.above)
def Inv.stkSub(I:@D):∀b∈@CI,b∈X.env.locals::X.fs:=λb hb=>by
 rcases I.ok.stk with e|⟨e,hf⟩
 ·rw[e]at hb;exact UI _ hb
 ·rw[e]at hb
  unfold ic at hb
  rw[List.filterMap_cons,hf]at hb
  exact hb
def Inv.stkFree(I:@D):∀b∈@CI,H b=none:=λb hb=>by
 rcases UD.mp (I.stkSub b hb)with e|hb
 ·rw[e];exact I.free
 ·obtain⟨_,o,ho,_⟩:=I.ok.funs.mem hb
  exact I.base.free b o ho (I.ok.frf b hb) λz=>I.ok.exfs b z hb
def Inv.step{g':Array GenState}{t':Nat}{d':Drawn}{ch:@Ao}(I:@D)
  (hch:∀b∈ch,(b∈X.ex\/X.s₀.heap.objs.size<=b)/\b≠X.env.locals/\(∀x c,@x=some c->c≠b)/\∀p∈X.pn++pins,p.1≠b)
  (keep:∀b o,b≠X.env.locals->b∉X.fs->b∉ch->s.heap.get? b=some o->H b=none->h'.get? b=some o)
  (slot:∀b o,b≠X.env.locals->b∈X.fs->b∉ch->s.heap.get? b=some o->H b=none->∃sl,h'.get? b=some {o with slots:=sl}) (free:∀b o,b∉ch->s.heap.get? b=some o->H b=none->H' b=none)
  (there:∀b o,b∉ch->s.heap.get? b=some o->∃o',h'.get? b=@W1)
  (tups:∀b xs,H b=@EP->H' b=@EP) (frzs:∀b o u,H b=@E3->H' b=@E3) (tbls:∀b ps,H b=@RE->∃more,H' b=some (.tbl (ps++more)))
  (ns:∀m,@Vm->h'.Ns X.env.locals m) (hok:@PH) (hg:AllBare g') :
  Inv X pins σ H' {s with heap:=h',gens:=g',drawn:=d',toks:=t'}:=by
 have neL:∀b o,X.s₀.heap.get? b=some o->b≠X.env.locals:=λb o e=>@G8
 have neC:∀b o,X.s₀.heap.get? b=some o->b∉X.ex->b∉ch:=λb o e hx hb=>by
  rcases(hch b hb).1 with z|z
  ·exact hx z
  ·exact absurd (UZ (UK e) z) (U8 _)
 have cellK:∀x c,@x=some c->∀v,@RD->h'.IsCell c v:=λx c e v ⟨o,ho,hd⟩=>by
  have nch:c∉ch:=λz=>(hch c z).2.2.1 x c e rfl
  by_cases hc:c∈X.fs
  ·obtain⟨sl,q⟩:=slot c o (I.cne x c e) hc nch ho @Si
   exact⟨_,q,hd⟩
  ·exact⟨o,keep c o (I.cne x c e) hc nch ho @Si,hd⟩
 refine⟨I.ok,I.os,hg,⟨λb o e n hb hx=>?_,λb o e n hb hx=>?_,λb o e n hx=>?_,λb o e hx=>?_,λb xs e=>tups b xs (I.base.tups b xs e),λb o xs e=>frzs b o xs (I.base.frzs b o xs e),λb ps e=>?_⟩,?_,λx c e=>?_,?_,λx c e=>?_,λp hp=>?_,hok,I.len⟩
 ·exact keep b o (neL b o e) hb @Od @F5 @LL
 ·obtain⟨sl,e1⟩:=@G5
  obtain⟨sl',e2⟩:=slot b _ (neL b o e) hb @Od e1 @LL
  exact⟨sl',e2⟩
 ·obtain⟨o',e1⟩:=@GE
  exact free b o' @Od e1 @LL
 ·obtain⟨o',e1⟩:=@GE
  exact there b o' @Od e1
 ·obtain⟨m1,e1⟩:=I.base.tbls b ps e
  obtain⟨m2,e2⟩:=tbls b _ e1
  exact⟨m1++m2,by rw[e2,Array.append_assoc]⟩
 ·obtain⟨m,hn,hl⟩:=I.loc
  refine⟨m,ns m hn,λi x v e1 e2 e3=>?_⟩
  obtain⟨u,r,l⟩:=hl i x v e1 e2 e3
  refine⟨u,r,?_⟩
  rcases l with l|⟨k,c,e,z⟩
  ·exact .inl l
  ·exact .inr ⟨k,c,e,cellK x c e _ z⟩
 ·obtain⟨v,z⟩:=@Nb
  exact⟨v,cellK x c e v z⟩
 ·obtain⟨m,⟨o,_,_,ho,_⟩,_⟩:=I.loc
  exact free _ o (λz=>(hch _ z).2.1 rfl) ho I.free
 ·obtain⟨v,o,ho,hd⟩:=@Nb
  exact free c o (λz=>(hch c z).2.2.1 x c e rfl) ho @Si
 ·obtain⟨e,n,ne,nf,d⟩:=@Js
  have nch:p.1∉ch:=λz=>(hch p.1 z).2.2.2 p hp rfl
  exact⟨keep p.1 p.2 ne nf nch e n,free p.1 p.2 nch e n,ne,nf,d⟩
def Inv.un{t':Nat}(I:@D)(u:Un X.fs [] H H' s.heap h')(hok:@PH):Inv X pins σ H' {s with heap:=h',toks:=t'}:=by
 obtain⟨m,⟨o,es,ep,ho,r⟩,_⟩:=@Wq
 obtain⟨sl,hL⟩:=u.any ho I.free @W
 exact I.step (g':=s.gens) (d':=s.drawn) (ch:=[]) (λ_ z=>nomatch z) (λb o _ hb _ e n=>u.keep b o e n hb @W) (λb o _ hb _ e n=>u.slot b o e n hb @W) (λb o _ e n=>u.free b o e n @W) (λb o _ e=>u.there b o e @W) u.tups u.frzs u.tbls (λm' hm=>by
  obtain⟨o',es',ep',ho',r'⟩:=hm
  rw[ho]at ho';cases ho'
  exact⟨_,es',ep',hL,r'⟩) hok I.bare
def Inv.call{g':Array GenState}{t':Nat}{d':Drawn}{ch:@Ao}(I:@D)(u:Un (@CI) ch H H' s.heap h')(hok:@PH)(hg:AllBare g')
  (hch:∀b∈ch,(b∈X.ex\/X.s₀.heap.objs.size<=b)/\b≠X.env.locals/\(∀x c,@x=some c->c≠b)/\∀p∈X.pn++pins,p.1≠b) :
  Inv X pins σ H' {s with heap:=h',gens:=g',drawn:=d',toks:=t'}:=by
 obtain⟨m,⟨o,es,ep,ho,r⟩,_⟩:=@Wq
 obtain⟨sl,hL⟩:=u.any ho I.free λz=>(hch _ z).2.1 rfl
 exact I.step (ch:=ch) hch (λb o hL hb hc e n=>u.keep b o e n (λz=>(UD.mp (I.stkSub b z)).elim hL hb) hc) (λb o _ _ hc e n=>u.any e n hc) (λb o hc e n=>u.free b o e n hc) (λb o hc e=>u.there b o e hc) u.tups u.frzs u.tbls (λm' hm=>by
  obtain⟨o',es',ep',ho',r'⟩:=hm
  rw[ho]at ho';cases ho'
  exact⟨_,es',ep',hL,r'⟩) hok hg
def Inv.turned{t':Nat}{it:Addr}(I:@D)(k:∀b o,b≠it->s.heap.get? b=some o->h'.get? b=some o)(hn:H it=none)(hL:it≠X.env.locals)
  (h1:it∈X.ex\/X.s₀.heap.objs.size<=it) (h2:∀x c,@x=some c->c≠it) (h3:∀p∈X.pn++pins,p.1≠it):Inv X pins σ H {s with heap:=h',toks:=t'}:=by
 have nit:∀b u,H b=some u->b≠it:=λb u e z=>by rw[z,hn]at e;cases e
 refine I.step (g':=s.gens) (d':=s.drawn) (ch:=[it]) (λb hb=>?_) (λb o _ _ hc e _=>k b o (λz=>hc (by simp[z])) e) (λb o _ _ hc e _=>⟨o.slots,k b o (λz=>hc (by simp[z])) e⟩) (λ_ _ _ _ n=>n)
  (λb o hc e=>⟨o,k b o (λz=>hc (by simp[z])) e⟩) (λ_ _ e=>e) (λ_ _ _ e=>e) (λb ps e=>⟨#[],by rw[e];simp⟩) (λm hm=>?_) (λb u e=>?_) I.bare
 ·have e:b=it:=by simpa using hb
  subst e
  exact⟨h1,hL,h2,h3⟩
 ·obtain⟨o,es,ep,ho,r⟩:=hm
  exact⟨o,es,ep,k _ o (Ne.symm hL) ho,r⟩
 ·refine(I.hok b u e).stay (λc v hc q=>k c v ?_ q) (λ_ q=>q) λ_ _ q=>q
  rcases hc with z|z
  ·rw[z];exact nit b u e
  ·exact nit c _ z
def Inv.tok(I:@D)(t:Nat):Inv X pins σ H {s with toks:=t}:=I.un (h':=s.heap) (t':=t) Un.refl I.hok
def Inv.kept{t':Nat}(I:@D)(k:∀b u,s.heap.get? b=some u->h'.get? b=some u):Inv X pins σ H {s with heap:=h',toks:=t'}:=I.un (Un.kept k) (I.hok.kept k)
def Inv.laid{a:Addr}{o:HO}{t':Nat}(I:@D)(k:∀b u,s.heap.get? b=some u->h'.get? b=some u)(hp:s.heap.objs.size<=a)(new:cW X.prog X.w @GC h' a o) :
  Inv X pins σ @GC {s with heap:=h',toks:=t'}:=I.un (Un.laid k hp (I.hok.fresh hp)) (I.hok.laid k hp new)
def Inv.write{x e:Addr}{o:HO}{t':Nat}(I:@D)(mu:QT (H x))(he:e=x\/H e=@QI)(k:∀b u,b≠e->s.heap.get? b=some u->h'.get? b=some u)(heo:∃u,h'.get? e=some u)
  (new:cW X.prog X.w (upd H x o) h' x o):Inv X pins σ (upd H x o) {s with heap:=h',toks:=t'}:=I.un (Un.write mu he k heo) (I.hok.write mu he k heo new)
def Inv.pins_of{pins':@K}(I:@D)(h:∀p∈pins',s.heap.get? p.1=some p.2/\H p.1=none/\p.1≠X.env.locals/\p.1∉X.fs/\∀v,p.2.data≠@Qj):Inv X pins' σ H s:=
 ⟨I.ok,I.os,I.bare,I.base,I.loc,I.cell,I.free,I.freeC,λp hp=>(@Kq).elim (λz=>I.pin p (VL _ z)) (h p),I.hok,I.len⟩
def qm{N:@a}(hN:N.Nodup){i j:Nat}{x:Str}(a:N[i]? =some x)(b:N[j]? =some x):i=j:=by
 obtain⟨h1,e1⟩:=Uy.mp a
 obtain⟨h2,e2⟩:=Uy.mp b
 exact(List.getElem_inj hN).mp (e1.trans e2.symm)
def w9{M:Model}{A:Around}{E:@L}{i:Nat}{x:Str}{v:V}{u:Value}{Q:Unit->Shared->Prop}(I:@D)(hN:X.N.Nodup)(hi:X.N[i]? =some x)(hx:@Cg)(r:@Fw)
  (h:∀s',@YH->(∃a,Heap.SameBut a s.heap s'.heap/\(a=X.env.locals\/@x=some a))->Q () s') (hf:X.fn x=true\/@AO=@Ae:=by first|exact @BQ|exact @Fe|assumption):@OX:=by
 obtain⟨m,hn,hl⟩:=@Wq
 have hcls:(X.env.scope.kind==.class||(X.env.scope.kind==.module&&X.env.locals != X.env.globals))=false:=by rw[I.ok.kind];rfl
 have hiσ:i<σ.length:=by rw[I.len];exact(@Jl).1
 have cne:=I.cne
 have tracked:∀{a:Addr} {h':Heap},(∃o,s.heap.get? a=some o/\H a=none)->@VK->@Ku:=λ{a h'} ha hs b ob e=>by
  obtain⟨_,_,hfree⟩:=ha
  refine(I.hok b ob e).stay (λc w' hc q=>(hs.2 c ?_).trans q) (λ_ q=>q) λ_ _ q=>q
  rintro rfl
  rcases hc with rfl|hc
  ·rw[hfree]at e;cases e
  ·rw[hfree]at hc;cases hc
 rcases hx with hk|hk
 ·refine wpAny_storeName_local hk hn (λh' hn' hs=>?_) hcls
  obtain⟨oL,_,_,hoL,_⟩:=id hn
  refine h _ ⟨I.ok,I.os,I.bare,⟨λb o e n hb hx=>?_,λb o e n hb hx=>?_,I.base.free,λb o e hx=>?_,I.base.tups,I.base.frzs,I.base.tbls⟩,⟨_,hn',λj y v' e1 e2 e3=>?_⟩,λy c e=>?_,I.free,I.freeC,λp hp=>?_,tracked ⟨oL,hoL,I.free⟩ hs,by simpa using I.len⟩ ⟨_,hs,@BQ ⟩
  ·exact(hs.2 b (@G8)).trans @F5
  ·obtain⟨sl,e1⟩:=@G5
   exact⟨sl,(hs.2 b (@G8)).trans e1⟩
  ·obtain⟨o',e1⟩:=@GE
   exact⟨o',(hs.2 b (@G8)).trans e1⟩
  ·by_cases hj:j=i
   ·subst hj
    rw[hi]at e1;cases e1
    rw[UT hiσ]at e2
    cases e2
    exact⟨u,r,.inl ⟨hk,by simp⟩⟩
   ·rw[UX @Kc]at e2
    obtain⟨u',r',q⟩:=@Kt
    refine⟨u',r',?_⟩
    rcases q with⟨k,e⟩|⟨k,c,e,z⟩
    ·refine .inl ⟨k,?_⟩
     have:y≠x:=λe=>hj (qm hN e1 (e▸hi))
     simp[this,e]
    ·exact .inr ⟨k,c,e,@Xb ⟩
  ·obtain⟨w',z⟩:=I.cell y c e
   exact⟨w',@Xb ⟩
  ·obtain⟨e,n,ne,nf,d⟩:=@Js
   exact⟨(hs.2 p.1 ne).trans e,n,ne,nf,d⟩
 ·have hfn:X.fn x=true:=by
   rcases hf with z|z
   ·exact z
   ·rw[z]at hk;cases hk
  obtain⟨c,hc⟩:=I.ok.has x (.inl hk)
  obtain⟨w',z⟩:=I.cell x c hc
  refine wpAny_storeName_cell I.ok.kind hk hc z (λh' hc' hs=>?_)
  obtain⟨oc,hoc,hocd⟩:=id z
  refine h {s with heap:=h'} ⟨I.ok,I.os,I.bare,⟨λb o e n hb hx=>?_,λb o e n hb hx=>?_,I.base.free,λb o e hx=>?_,I.base.tups,I.base.frzs,I.base.tbls⟩,⟨m,@On,λj y v' e1 e2 e3=>?_⟩,λy c' e=>?_,I.free,I.freeC,λp hp=>?_,tracked ⟨oc,hoc,I.freeC x c hc⟩ hs,by simpa using I.len⟩ ⟨c,hs,.inr hc⟩
  ·exact(hs.2 b @Bu).trans @F5
  ·obtain⟨sl,e1⟩:=@G5
   exact⟨sl,(hs.2 b @Bu).trans e1⟩
  ·obtain⟨o',e1⟩:=@GE
   exact⟨o',(hs.2 b @Bu).trans e1⟩
  ·by_cases hj:j=i
   ·subst hj
    rw[hi]at e1;cases e1
    rw[UT hiσ]at e2
    cases e2
    exact⟨u,r,.inr ⟨.inl hk,c,hc,hc'⟩⟩
   ·rw[UX @Kc]at e2
    obtain⟨u',r',q⟩:=@Kt
    refine⟨u',r',?_⟩
    rcases q with q|⟨k,c',e,z'⟩
    ·exact .inl q
    ·refine .inr ⟨k,c',e,z'.sameBut hs ?_⟩
     rintro rfl
     exact hj (qm hN e1 (I.ok.inj _ _ _ e hc▸hi))
  ·by_cases hcc:c'=c
   ·subst hcc;exact⟨_,hc'⟩
   ·obtain⟨w2,z2⟩:=I.cell y c' e
    exact @Vr
  ·obtain⟨e,n,ne,nf,d⟩:=@Js
   refine⟨(hs.2 p.1 ?_).trans e,n,ne,nf,d⟩
   intro q
   rw[q,hoc]at e
   have q':oc=p.2:=@Ig
   exact d w' (by rw[<-q'];exact hocd)
def pW{M:Model}{A:Around}{E:@L}{i:Nat}{x:Str}{v:V}{u:Value}{Q:Unit->Shared->Prop}(I:@D)(hN:X.N.Nodup)(hi:X.N[i]? =some x)(hx:@Cg)(r:@Fw)
  (h:∀s',@YH->Q () s') (hf:X.fn x=true\/@AO=@Ae:=by first|exact @BQ|exact @Fe|assumption):@OX:=
 w9 I hN hi hx r (λs' I' _=>h s' I') hf
def Inv.call'{s':Shared}{ch:@Ao}(I:@D)(ho:s'.os=s.os)(u:Un (@CI) ch H H' s.heap s'.heap)(hok:nr X.prog X.w H' s'.heap)(hg:@H2)
  (hch:∀b∈ch,(b∈X.ex\/X.s₀.heap.objs.size<=b)/\b≠X.env.locals/\(∀x c,@x=some c->c≠b)/\∀p∈X.pn++pins,p.1≠b):@CB:=by
 obtain⟨h',g',d',t',o'⟩:=s'
 have e:o'=s.os:=ho
 subst e
 exact I.call (g':=g') (t':=t') (d':=d') u hok hg hch
end
abbrev XK:=Value->@i->Hp->Prop
abbrev St:=List (@Pv)
abbrev VK:=V->Hp->Prop
abbrev TE:=St->Hp->VK->Prop
abbrev TT:=St->Hp->(Bool->Hp->Prop)->Prop
abbrev TA:=St->Hp->(List V->Hp->Prop)->Prop
structure Ends where
 nx:St->Hp->Prop
 rt:VK
 bk:St->Hp->Prop:=λ_ _=>False
 ct:St->Hp->Prop:=λ_ _=>False
abbrev TS:=Ends->St->Hp->Prop
def EP(X:Cx)(pins:@K)(σ:St)(Q:VK)(u:Value)(s':Shared):Prop:=∃v H',@CB/\@Fw/\Q v H'
def TP(X:Cx)(pins:@K)(σ:St)(Q:Bool->Hp->Prop)(b:Bool)(s':Shared):Prop:=∃H',@CB/\Q b H'
def AP(X:Cx)(pins:@K)(σ:St)(Q:List V->Hp->Prop)(us:@e)(s':Shared):Prop:=∃vs H',@CB/\@Jt/\Q vs H'
def SP(X:Cx)(pins:@K)(D:Ends)(f:Flow)(s':Shared):Prop:=
 match f with
 | .next=>∃σ' H',@DW/\D.nx σ' H'
 | .brk=>∃σ' H',@DW/\D.bk σ' H'
 | .cont=>∃σ' H',@DW/\D.ct σ' H'
 | .ret u=>∃v σ' H',@DW/\@Fw/\D.rt v H'
def PE(X:Cx)(e:Expr)(t:TE):Prop:=
 ∀(pins:@K) (s:Shared) (σ:St) (H:Hp) (Q:VK),@D->@IH->wpAny @N X.A (@DE) @BE X.xe s
def PT(X:Cx)(e:Expr)(t:TT):Prop:=
 ∀(pins:@K) (s:Shared) (σ:St) (H:Hp) (Q:Bool->Hp->Prop),@D->@IH->wpAny @N X.A (isTrue e X.env (@DE)) @MS X.xe s
def PW(X:Cx)(e:Expr)(t:TT):Prop:=
 ∀(whole:@Ld) (pins:@K) (s:Shared) (σ:St) (H:Hp) (Q:Bool->Hp->Prop),@D->@IH->wpAny @N X.A (isTrue e X.env whole) @MS X.xe s
def PW.pt{X:Cx}{e:Expr}{t:TT}(h:PW X e t):PT X e t:=h _
def PA(X:Cx)(es:@Ac)(t:TA):Prop:=
 ∀(pos:Pos) (pins:@K) (s:Shared) (σ:St) (H:Hp) (Q:List V->Hp->Prop),@D->@IH->wpAny @N X.A (spliced (@C3)) (AP X pins σ Q) X.xe s
def PS(X:Cx)(st:Stmt)(t:TS):Prop:=
 ∀(pins:@K) (s:Shared) (σ:St) (H:Hp) (D:Ends),@D->t D σ H->wpAny @N X.A (exec st X.env) @PT X.xe s
def rq(X:Cx)(st:@Dx)(t:TS):Prop:=
 ∀(pins:@K) (s:Shared) (σ:St) (H:Hp) (D:Ends),@D->t D σ H->wpAny @N X.A (execs st X.env) @PT X.xe s
def cK{α:Type}{t:Sem α}{Q Q':α->Shared->Prop}{M:Model}{A:Around}{E:@L}{s:Shared}(h:wpAny M A t Q E s)(hQ:∀a s,Q a s->Q' a s):wpAny M A t Q' E s:=Vx h hQ λ_ _ x=>x
section
variable {X:Cx}
def bin{a b:Expr}{ta tb:TE}(ha:@FH)(hb:@LY){pins:@K}{s:Shared}{σ:St}{H:Hp}{R:V->V->Hp->Prop}(I:@D)(h:ta σ H λx H1=>tb σ H1 λy H2=>R x y H2)
  {α:Type} {Q:α->Shared->Prop} {f:Value->Value->Sem α}
  (hf:∀v u s2 x y H2,Inv X pins σ H2 s2->@H8->@P0->R x y H2->@Rq) :
  wpAny @N X.A (@AZ) (λv s₁=>wpAny @N X.A (@DD) (λu s₂=>@QW) X.xe s₁) X.xe s:=by
 refine cK @Av λv s1 ⟨x,H1,I1,r1,q1⟩=>?_
 refine cK @Gn λu s2 ⟨y,H2,I2,r2,q2⟩=>?_
 exact @SZ
def Ei(i:Nat):TE:=λσ H Q=>∃v,σ[i]? =@Fd/\Q v H
def tC(v:V):TE:=λ_ H Q=>Q v H
def ju{i:Nat}{x:Str}{pos:Pos}(hN:X.N[i]? =some x)(hv:@Ca)(hd:@T:=by decide)(hcd:(x==("__classdict__":Str))=false:=by decide):PE X @ED (Ei i):=by
 intro pins s σ H Q I h
 obtain⟨v,e,h⟩:=h
 obtain⟨m,hn,hl⟩:=I.loc
 obtain⟨u,r,l⟩:=hl i x v hN e hv
 have fin:EP X pins σ Q u s:=@Tn
 rcases l with⟨hk,hm⟩|⟨hk,c,hc,hcell⟩
 ·exact wpAny_Name (wpAny_loadName_local I.ok.kind hk hn hm fin) hd
 ·rcases hk with hk|hk
  ·exact wpAny_Name (wpAny_loadName_cell I.ok.kind hk hc hcell fin) hd
  ·exact wpAny_Name (wpAny_loadName_free I.ok.kind hk hc hcell fin hcd) hd
def rM{i j pos}:PE X @Xe (tC @AJ):=λ_ _ _ H _ I h=>wpAny_Constant_int ⟨.int i,H,@HT,@BS,h⟩
def Aj{b j pos}:PE X (.Constant @LJ j pos) (tC @L3):=λ_ _ _ H _ I h=>Constant_bool ⟨.bl b,H,I,rfl,h⟩
def Nj{j pos}:PE X @Vv (tC .non):=λ_ _ _ H _ I h=>Constant_none ⟨.non,H,I,rfl,h⟩
def FL{x j pos}:PE X @Xf (tC @Hr):=λ_ _ _ H _ I h=>Calls.Constant_str ⟨.str x,H,@HT,@BS,h⟩
def Gl(X:Cx)(x:Str):Prop:=@Iv=some .globalImplicit
def oH{E:@L}{pins:@K}{s:Shared}{σ:St}{H:Hp}{x:Str}{u:Value}{pos:Pos}{Q:@L}(I:@D)(hg:Gl X x)(hm:X.mg x=some u)(h:Q u s)
  (hd:@T:=by decide):@PI:=
 Calls.Name_function_global I.ok.kind hg (Calls.loadGlobal_global (by rw[I.ok.glob];exact @GF) hm h) hd
def lq{E:@L}{pins:@K}{s:Shared}{σ:St}{H:Hp}{x:Str}{u:Value}{pos:Pos}{Q:@L}(I:@D)(hg:Gl X x)(hm:X.mg x=none)(hv:@E0=some u)(h:Q u s)
  (hn:x≠"__name__":=by decide) (hd:@T:=by decide):@PI:=by
 obtain⟨mb,h1,h2⟩:=I.mod.blt
 exact Calls.Name_function_global I.ok.kind hg (Calls.loadGlobal_builtin (by rw[I.ok.glob];exact @GF) hm (by rw[I.ok.blt];exact h1.keeps I.bk) ((h2 x hn).trans hv) h) hd
def cV{x:Str}{v:V}{u:Value}{pos:Pos}(hg:Gl X x)(hm:X.mg x=some u)(r:@Fw)(hd:@T:=by decide):PE X @ED (tC v):=
 λ_ _ _ H _ I h=>oH I hg hm @Tn hd
def C4{x:Str}{v:V}{u:Value}{pos:Pos}(hg:Gl X x)(hm:X.mg x=none)(hv:@E0=some u)(r:@Fw)(hn:x≠"__name__":=by decide)(hd:@T:=by decide):PE X @ED (tC v):=
 λ_ _ _ H _ I h=>lq I hg hm hv @Tn hn hd
variable {a b:Expr}{ta tb:TE}{pos:Pos}
def PC(X:Cx)(op:CmpOp)(a b:Expr)(t:TE):Prop:=
 ∀(pins:@K) (s:Shared) (σ:St) (H:Hp) (Q:VK),@D->@IH->
  wpAny @N X.A (@AZ) (λv s₁=>wpAny @N X.A (@DD) (λu s₂=>wpAny @N X.A (compareOp op v u) @BE X.xe s₂) X.xe s₁) X.xe s
def Fw(b:Expr){op:CmpOp}(h:op≠.In)(h2:op≠.NotIn):@Es=false:=by
 have e1:(op==CmpOp.In)=false:=by cases op<;>first|rfl|exact @Br
 have e2:(op==CmpOp.NotIn)=false:=by cases op<;>first|rfl|exact absurd rfl h2
 cases b<;>simp[behindInMarks,e1,e2]
def Qh(ta:TE):TE:=λσ H Q=>ta σ H λx H1=>Q (.bl (!decide (x=.non))) H1
theorem RelV.none_iff{x:V}{v:Value}(r:@H8):(v==Value.none)=decide (x=.non):=by
 cases x with
 |non=>cases r;rfl
 |bl _=>cases r;rfl
 |int _=>obtain⟨t,rfl⟩:=r;rfl
 |str _=>obtain⟨t,rfl⟩:=r;rfl
 |byt _=>obtain⟨t,rfl⟩:=r;rfl
 |flt _=>obtain⟨t,rfl⟩:=r;rfl
 |ref _=>cases r;rfl
 |ty _=>cases r;rfl
def JE{j pos'}(ha:@FH):PC X .IsNot a (@XG) (Qh ta):=by
 intro pins s σ H Q I h
 refine cK @Av λv s1 ⟨x,H1,I1,r1,q1⟩=>?_
 exact Constant_none (isnot_none_gen ⟨.bl _,H1,I1,by rw[r1.none_iff];rfl,q1⟩)
def tB(t:TE):TT:=λσ H Q=>t σ H λx H1=>∃c,x=.bl c/\Q c H1
def N7{op:CmpOp}{t:TE}(h:PC X op a b t)(h1:@Es=false:=by first|exact Fw _ @S @S|rfl):PT X @Ev (tB t):=by
 intro pins s σ H Q I hw
 refine wpAny_isTrue_Compare1 (cK @Ml λv s1 h1=>cK h1 λu s2 h2=>cK h2 λc s3 ⟨x,H1,I1,r1,q1⟩=>?_) h1
 obtain⟨d,rfl,q⟩:=q1
 cases r1
 exact VN ⟨H1,I1,q⟩
def qU{e:Expr}{t:TE}(h:PE X e t)(he:∀whole,isTrue e X.env whole=(do let v <-whole;standAt e.pos;@M2):=by intro _;rfl):PT X e (tB t):=by
 intro pins s σ H Q I hw
 refine isTrue_plain (cK @Ml λv s1 ⟨x,H1,I1,r1,q1⟩=>?_) (he _)
 obtain⟨d,rfl,q⟩:=q1
 cases r1
 exact VN ⟨H1,I1,q⟩
variable {tA tB':TT}{rest:@Ac}
def SV(t u:TT):TT:=λσ H Q=>t σ H λc H1=>if c=true then u σ H1 Q else Q false H1
def Ur(t u:TT):TT:=λσ H Q=>t σ H λc H1=>if c=true then Q true H1 else u σ H1 Q
def Tt(t:TT):TT:=λσ H Q=>t σ H λc H1=>Q (!c) H1
theorem Dd(ha:@TJ):PW X @W7 tA:=by
 intro wh pins s σ H Q I h
 refine isTrue_and (cK @XD λc s1 e=>?_)
 cases c with
 |true=>exact isTrue_and_nil e
 |false=>exact e
theorem Hz(ha:@TJ):PW X @Xd tA:=by
 intro wh pins s σ H Q I h
 refine isTrue_or (cK @XD λc s1 e=>?_)
 cases c with
 |false=>exact isTrue_or_nil e
 |true=>exact e
theorem Gm(ha:@TJ)(hb:PW X (.BoolOp .And (b::rest) pos) tB'):PW X (.BoolOp .And (a::b::rest) pos) (SV tA tB'):=by
 intro wh pins s σ H Q I h
 refine isTrue_and (cK @Av λc s1 ⟨H1,I1,q1⟩=>?_)
 cases c with
 |true=>exact @TY
 |false=>exact⟨H1,I1,q1⟩
theorem Mw(ha:@TJ)(hb:PW X (.BoolOp .Or (b::rest) pos) tB'):PW X (.BoolOp .Or (a::b::rest) pos) (Ur tA tB'):=by
 intro wh pins s σ H Q I h
 refine isTrue_or (cK @Av λc s1 ⟨H1,I1,q1⟩=>?_)
 cases c with
 |true=>exact⟨H1,I1,q1⟩
 |false=>exact @TY
def Cj(ha:@TJ):PT X @I5 (Tt tA):=by
 intro pins s σ H Q I h
 exact isTrue_not (ha pins s σ H (λc H1=>Q (!c) H1) I h)
def P2(ta tb:TE):TE:=λσ H Q=>ta σ H λx H1=>∃c,x=.bl c/\if c=true then tb σ H1 Q else Q (@LR) H1
def Ts(ta tb:TE):TE:=λσ H Q=>ta σ H λx H1=>∃c,x=.bl c/\if c=true then Q (@Pd) H1 else tb σ H1 Q
def Py(ta:TE):TE:=λσ H Q=>ta σ H λx H1=>∃c,x=.bl c/\Q (.bl (!c)) H1
def MO{op}{t:TE}(h:PE X a t):PE X (.BoolOp op [a] pos) t:=λpins s σ H Q I hw=>BoolOp_one (h pins s σ H Q I hw)
theorem MS(ha:@FH)(hb:PE X (.BoolOp .And (b::rest) pos) tb):PE X (.BoolOp .And (a::b::rest) pos) (P2 ta tb):=by
 intro pins s σ H Q I h
 refine BoolOp_and (cK @Av λv s1 ⟨x,H1,I1,r1,q1⟩=>?_)
 obtain⟨c,rfl,q1⟩:=q1
 cases r1
 refine VN ?_
 cases c with
 |true=>exact @Ln
 |false=>exact⟨@LR,H1,I1,rfl,q1⟩
theorem Q9(ha:@FH)(hb:PE X (.BoolOp .Or (b::rest) pos) tb):PE X (.BoolOp .Or (a::b::rest) pos) (Ts ta tb):=by
 intro pins s σ H Q I h
 refine BoolOp_or (cK @Av λv s1 ⟨x,H1,I1,r1,q1⟩=>?_)
 obtain⟨c,rfl,q1⟩:=q1
 cases r1
 refine VN ?_
 cases c with
 |false=>exact @Ln
 |true=>exact⟨@Pd,H1,I1,rfl,q1⟩
def Ny(ha:@FH):PE X @I5 (Py ta):=by
 intro pins s σ H Q I h
 refine UnaryOp_ (cK @Av λv s1 ⟨x,H1,I1,r1,q1⟩=>?_)
 obtain⟨c,rfl,q1⟩:=q1
 cases r1
 exact not_of (VN ⟨.bl (!c),H1,I1,rfl,q1⟩)
def Ul(t:TT)(ta tb:TE):TE:=λσ H Q=>t σ H λc H1=>if c=true then ta σ H1 Q else tb σ H1 Q
theorem Gp{c:Expr}(hc:PT X c tA)(ha:@FH)(hb:@LY):PE X (.IfExp c a b pos) (Ul tA ta tb):=by
 intro pins s σ H Q I h
 refine wpAny_IfExp (cK @XE λd s1 ⟨H1,I1,q1⟩=>?_)
 cases d with
 |true=>exact ha pins s1 σ H1 Q I1 q1
 |false=>exact @Ln
end
def jy(K:Frag)(H:Hp)(a:Addr)(xs:List V):Prop:=
 Rd H a @JQ\/
  ∃(o:Obj) (its:@BC) (n:Nat),@VN=some o/\o.cls=@BV/\o.dict=none/\o.data=.seq its n/\its.size<=sizeLine/\Vals xs its.toList
def iO(K:Frag)(H:Hp)(a:Addr)(xs:List V):Prop:=
 Rd H a @QM\/
  ∃(o:Obj) (its:@BC) (n:Nat),@VN=some o/\o.cls=@CA/\o.data=.seq its n/\its.size<=sizeLine/\Vals xs its.toList/\o.dict=none
def SX:Value->@Pv
 | .none=>some .non
 | .bool b=>some @L3
 | .int i _=>some @AJ
 | .str x _=>some @Hr
 | .bytes b _=>some (.byt b)
 | .float b _=>some (.flt b)
 | .ref a=>@W0
 | .type n=>some (.ty n)
 |_=>none
theorem RelV.abs{x:V}{u:Value}(r:@Iu):SX u=some x:=by
 cases x with
 |non=>cases r;rfl
 |bl _=>cases r;rfl
 |int _=>obtain⟨t,rfl⟩:=r;rfl
 |str _=>obtain⟨t,rfl⟩:=r;rfl
 |byt _=>obtain⟨t,rfl⟩:=r;rfl
 |flt _=>obtain⟨t,rfl⟩:=r;rfl
 |ref _=>cases r;rfl
 |ty _=>cases r;rfl
def RelV.inj{x y:V}{u:Value}(r:@Iu)(q:@P0):x=y:=Option.some.inj (r.abs.symm.trans q.abs)
theorem Vals.inj:∀{xs ys:List V} {us:@e},@EU->Vals ys us->xs=ys
 |_,_,_,.nil,.nil=>rfl
 |_,_,_,.cons r t,.cons r' t'=>by rw[r.inj r',Vals.inj t t']
section
variable {X:Cx}{pins:@K}{σ:St}{H:Hp}{s:Shared}{a:Addr}{xs ys:List V}
def Inv.list(I:@D)(h:jy X.K H a xs):∃its:@e,@Ij/\PlainL s.heap a its.toArray/\xs.length<=sizeLine:=by
 rcases h with h|⟨o,its,n,hk,hc,hd,hs,hz,r⟩
 ·obtain⟨z,its,n,r,e⟩:=h.ok I.hok
  exact⟨its,r,⟨_,n,e,rfl,rfl,rfl⟩,z⟩
 ·refine⟨its.toList,r,⟨o,n,I.kIn a o hk,hc,hd,by simpa using hs⟩,?_⟩
  have e:=r.length
  simp only[Array.length_toList]at e
  omega
def Inv.tuple(I:@D)(h:iO X.K H a xs):∃its:@e,@Ij/\IsTup s.heap a its.toArray/\xs.length<=sizeLine:=by
 rcases h with h|⟨o,its,n,hk,hc,hs,hz,r,_⟩
 ·obtain⟨z,its,r,p⟩:=h.ok I.hok
  exact⟨its,r,p.isTup,z⟩
 ·refine⟨its.toList,r,⟨o,I.kIn a o hk,hc,n,by simpa using hs⟩,?_⟩
  have e:=r.length
  simp only[Array.length_toList]at e
  omega
def Inv.list_inj(I:@D)(h:jy X.K H a xs)(h':jy X.K H a ys):xs=ys:=by
 obtain⟨its,r,⟨o,n,e,_,_,d⟩,_⟩:=I.list h
 obtain⟨its',r',⟨o',n',e',_,_,d'⟩,_⟩:=I.list h'
 rw[e]at e';cases e'
 rw[d]at d'
 injection d' with d1 _
 have:its=its':=by simpa using @Vg
 subst this
 exact r.inj r'
def Inv.tuple_inj(I:@D)(h:iO X.K H a xs)(h':iO X.K H a ys):xs=ys:=by
 obtain⟨its,r,⟨o,e,_,n,d⟩,_⟩:=I.tuple h
 obtain⟨its',r',⟨o',e',_,n',d'⟩,_⟩:=I.tuple h'
 rw[e]at e';cases e'
 rw[d]at d'
 injection d' with d1 _
 have:its=its':=by simpa using @Vg
 subst this
 exact r.inj r'
end
abbrev Cx.wish(X:Cx)(E:@L):Cx:={X with xe:=E}
abbrev Cx.nox(X:Cx):Cx:=X.wish λ_ _=>False
def Cx.Ok.wish{X:Cx}(ok:X.Ok)(E:@L):(X.wish E).Ok:=
 @Cn
def Cx.Ok.unwish{X:Cx}{E:@L}(ok:(X.wish E).Ok):X.Ok:=
 @Cn
section
variable {X:Cx}{pins:@K}{σ:St}{H:Hp}{s:Shared}{E:@L}
def Inv.wish(I:@D)(E:@L):@T0:=⟨I.ok.wish E,I.os,I.bare,I.base,I.loc,I.cell,I.free,I.freeC,I.pin,I.hok,I.len⟩
def Inv.unwish(I:@T0):@D:=⟨I.ok.unwish,I.os,I.bare,I.base,I.loc,I.cell,I.free,I.freeC,I.pin,I.hok,I.len⟩
theorem SP.unwish{D:Ends}{f:Flow}{s':Shared}(h:SP (X.wish E) pins D f s'):SP X pins D f s':=by
 cases f with
 |next=>obtain⟨σ',H',I,q⟩:=h;exact @NH
 |brk=>obtain⟨σ',H',I,q⟩:=h;exact @NH
 |cont=>obtain⟨σ',H',I,q⟩:=h;exact @NH
 |ret u=>obtain⟨v,σ',H',I,r,q⟩:=h;exact⟨v,σ',H',I.unwish,r,q⟩
def rq.nox{st:@Dx}{t:TS}(h:rq X.nox st t):rq X st t:=λpins s σ H D I hw=>
 Vx (h pins s σ H D (I.wish _) hw) (λ_ _ q=>q.unwish) λ_ _ z=>False.elim z
end
section
variable {X:Cx}{st:Stmt}{rest:@Dx}{t u:TS}{e:Expr}{te:TE}{pos:Pos}
def Px:TS:=λD σ H=>@JI
def Tc(t u:TS):TS:=λD σ H=>t {D with nx:=u D} σ H
def yf:rq X [] Px:=λ_ _ σ H _ I h=>W4 ⟨σ,H,I,h⟩
theorem eB(h1:PS X st t)(h2:rq X rest u):rq X (st::rest) (Tc t u):=by
 intro pins s σ H D I h
 refine wpAny_execs_cons (cK (h1 pins s σ H {D with nx:=u D} I h) λf s1 q=>?_)
 cases f with
 |next=>
  obtain⟨σ',H',I',q⟩:=q
  exact h2 pins s1 σ' H' D I' q
 |ret v=>exact q
 |brk=>exact q
 |cont=>exact q
theorem gx(h1:PS X st t):rq X [st] t:=by
 intro pins s σ H D I h
 refine wpAny_execs_cons (cK (h1 pins s σ H D I h) λf s1 q=>?_)
 cases f with
 |next=>exact W4 q
 |ret v=>exact q
 |brk=>exact q
 |cont=>exact q
def Inv.quiet{pins:@K}{σ:St}{H:Hp}{s:Shared}(I:@D):interactive X.env=false:=by simp[interactive,I.ok.kind]
def Q2(te:TE):TS:=λD σ H=>te σ H λ_ H1=>D.nx σ H1
def sS(he:@LZ)(hs:@RG=@D6:=by rfl):PS X (.Expr e pos) (Q2 te):=by
 intro pins s σ H D I h
 exact wpAny_Expr_any (cK @Fo λv s1 ⟨x,H1,I1,r1,q1⟩=>⟨σ,H1,I1,q1⟩) I.quiet hs
def Sn(te:TE):TS:=λD σ H=>te σ H D.rt
def lC(he:@LZ):PS X @Mi (Sn te):=by
 intro pins s σ H D I h
 exact wpAny_Return_some (cK @Fo λv s1 ⟨x,H1,I1,r1,q1⟩=>⟨x,σ,H1,I1,r1,q1⟩)
def Tu(c:TT)(t u:TS):TS:=λD σ H=>c σ H λb H1=>if b=true then t D σ H1 else u D σ H1
theorem Gh{c:Expr}{a b:@Dx}{tc:TT}(hc:PT X c tc)(ha:rq X a t)(hb:rq X b u):PS X (.If c a b pos) (Tu tc t u):=by
 intro pins s σ H D I h
 refine wpAny_If (cK @XE λd s1 ⟨H1,I1,q1⟩=>?_)
 cases d with
 |true=>exact ha pins s1 σ H1 D I1 q1
 |false=>exact hb pins s1 σ H1 D I1 q1
end
abbrev TG:=V->St->Hp->(St->Hp->Prop)->Prop
abbrev N3:=List V->St->Hp->(St->Hp->Prop)->Prop
def PG(X:Cx)(target:Expr)(t:TG):Prop:=
 ∀(pins:@K) (s:Shared) (σ:St) (H:Hp) (v:V) (u:Value) (Q:St->Hp->Prop),@D->@Fw->t v σ H Q->
  wpAny @N X.A (assign target X.env u) (λ_ s'=>∃σ' H',@DW/\Q σ' H') X.xe s
def RC(X:Cx)(ts:@Ac)(t:N3):Prop:=
 ∀(pins:@K) (s:Shared) (σ:St) (H:Hp) (vs:List V) (us:@e) (Q:St->Hp->Prop),@D->@Jt->t vs σ H Q->
  wpAny @N X.A (assignInOrder ((assignEach ts X.env).map (·.2)) us) (λ_ s'=>∃σ' H',@DW/\Q σ' H') X.xe s
abbrev Nf:=V->V->V->Hp->(Hp->Prop)->Prop
def Rl(X:Cx)(t:Nf):Prop:=
 ∀(pins:@K) (s:Shared) (σ:St) (H:Hp) (o i v:V) (ov iv u:Value) (Q:Hp->Prop),@D->RelV o ov->RelV i iv->@Fw->t o i v H Q->
  wpAny @N X.A (setItem ov iv u) (λ_ s'=>∃H',@CB/\Q H') X.xe s
section
variable {X:Cx}{pos:Pos}
def mZ(i:Nat):TG:=λv σ H Q=>Q (@EW) H
def dw{i:Nat}{x:Str}(hN:X.N.Nodup)(hi:X.N[i]? =some x)(hx:@Cg)(hf:X.fn x=true\/@AO=@Ae:=by first|exact @BQ|exact @Fe|assumption):PG X @ED (mZ i):=by
 intro pins s σ H v u Q I r h
 exact wpAny_assign_Name (pW I hN hi hx r (λs' I'=>⟨_,H,I',h⟩) hf)
def K5:N3:=λvs σ H Q=>vs= []/\Q σ H
def uH(t:TG)(u:N3):N3:=λvs σ H Q=>∃v r,vs=v::r/\t v σ H λσ' H'=>u r σ' H' Q
def qh:RC X [] K5:=by
 intro pins s σ H vs us Q I r h
 obtain⟨e,h⟩:=h
 subst e
 cases r
 exact assignInOrder_nil ⟨σ,H,I,h⟩
theorem fP{e:Expr}{es:@Ac}{t:TG}{u:N3}(h1:PG X e t)(h2:RC X es u)
  (hs:(assignEach (e::es) X.env).map (·.2)=assign e X.env::(@O8).map (·.2):=by rfl):RC X (e::es) (uH t u):=by
 intro pins s σ H vs us Q I r h
 obtain⟨v,vr,e1,h⟩:=h
 subst e1
 cases r with
 |cons r rr=>
  rw[hs]
  refine assignInOrder_cons (cK (h1 pins s σ H _ _ _ I r h) λ_ s1 ⟨σ1,H1,I1,q1⟩=>?_)
  exact h2 pins s1 σ1 H1 _ _ Q I1 rr q1
def Ku(K:Frag)(n:Nat)(t:N3):TG:=λv σ H Q=>∃a xs,v=.ref a/\@Cl/\xs.length=n/\t xs σ H Q
def uW{es:@Ac}{k:Nat}{t:N3}{n:Nat}(hc:X.calm=true)(h:RC X es t)
  (hn:(@O8).length=n:=by rfl) (hst:(@O8).findIdx? (·.1)=none:=by rfl):PG X (.Tuple es k pos) (Ku X.K n t):=by
 intro pins s σ H v u Q I r hw
 obtain⟨a,xs,e1,hq,hl,hw⟩:=hw
 subst e1
 cases r
 obtain⟨its,rv,ht,hz⟩:=@Ge
 refine assign_Tuple_tuple (@DV) ht (by simp[hn,<-hl,rv.length]) hst λh' hx=>?_
 have I1:Inv X pins σ H {s with heap:=h'}:=I.kept (t':=s.toks) λb o e=>hx b o (@P6) e
 exact h pins _ σ H xs _ Q I1 (by simpa using rv) hw
def Sf(to ti:TE)(t:Nf):TG:=λv σ H Q=>to σ H λo H1=>ti σ H1 λi H2=>t o i v H2 λH3=>Q σ H3
def yo{o i:Expr}{to ti:TE}{t:Nf}(ho:PE X o to)(hi:PE X i ti)(hs:Rl X t)
  (ha:∀v,assign (.Subscript o i pos) X.env v=(do
   let ov <-holding [v] (@Yc)
   let iv <-holding [v,ov] (eval i X.env)
   standAt pos
   @PD
   release [v,ov,iv] []):=by intro _;rfl):PG X (.Subscript o i pos) (Sf to ti t):=by
 intro pins s σ H v u Q I r h
 rw[ha]
 refine UA (Wr (cK @Mn λov s1 ⟨x,H1,I1,r1,q1⟩=>?_))
 refine UA (Wr (cK (hi pins s1 σ H1 _ I1 q1) λiv s2 ⟨y,H2,I2,r2,q2⟩=>?_))
 refine UA (wpAny_standAt (UA (Wr (cK (hs pins s2 σ H2 x y v ov iv u _ I2 r1 r2 r q2) λ_ s3 ⟨H3,I3,q3⟩=>?_))))
 exact wpAny_release ⟨σ,H3,I3,q3⟩
def QU(te:TE)(g:TG):TS:=λD σ H=>te σ H λx H1=>g x σ H1 D.nx
def tT{tg e:Expr}{te:TE}{g:TG}(he:@LZ)(hg:PG X tg g)(hs:swapsWithSole [tg] e pos.line X.env=@D6:=by rfl)(hw:swappedStores [tg] e X.env=pure none:=by rfl)
  (h1:(assignEach [tg] X.env).map (·.2)= [assign tg X.env]:=by rfl):PS X (.Assign [tg] e pos) (QU te g):=by
 intro pins s σ H D I h
 refine wpAny_Assign_stores (cK @Fo λv s1 ⟨x,H1,I1,r1,q1⟩=>?_) hs hw
 rw[h1]
 exact cK (hg pins s1 σ H1 x v _ I1 r1 q1) λ_ s2 q=>q
def nN{i:Nat}{x:Str}{e:Expr}{te:TE}{pos':Pos}(hN:X.N.Nodup)(hi:X.N[i]? =some x)(hx:@Cg)(he:@LZ)(hs:@Ct=@D6:=by rfl)(hf:X.fn x=true\/@AO=@Ae:=by first|exact @BQ|exact @Fe|assumption) :
  PS X @FM (QU te (mZ i)):=by
 intro pins s σ H D I h
 refine wpAny_Assign_Name (cK @Fo λv s1 ⟨y,H1,I1,r1,q1⟩=>?_) hs
 exact pW I1 hN hi hx r1 (λs2 I2=>⟨_,H1,I2,q1⟩) hf
end
section
variable {X:Cx}{pos:Pos}
def OH(c:TT)(tb:TS):TS:=λD σ H=>∃W:Nat->St->Hp->Prop,(∃m,W m σ H)/\∀m σ H,W m σ H->
 c σ H λb H1=>if b=true then ∃N:St->Hp->Prop,(∀σ' H',@SN->∃m',m'<m/\W m' σ' H')/\tb {D with nx:=N,ct:=N,bk:=D.nx} σ H1 else D.nx σ H1
theorem Hv{c:Expr}{body:@Dx}{tc:TT}{tb:TS}(hp:@GM)(hc:PT X c tc)(hb:rq X body tb):PS X (.While c body [] pos) (OH tc tb):=by
 intro pins s σ H D I h
 obtain⟨W,⟨m0,w0⟩,turn⟩:=h
 refine wpAny_While (codeAny_whileLoop (λn s'=>∃σ' H',@DW/\W n σ' H') ?_ m0 ⟨σ,H,I,w0⟩)
 rintro n s1 ⟨σ1,H1,I1,w1⟩
 refine Wm hp (cK (hc pins s1 σ1 H1 _ I1 (turn n σ1 H1 w1)) λb s2 ⟨H2,I2,q2⟩=>?_)
 cases b with
 |true=>
  obtain⟨N,hN,q2⟩:=q2
  rw[Uz rfl]
  refine Wm hp (cK (hb pins s2 σ1 H2 _ I2 q2) λf s3 q3=>?_)
  cases f with
  |next=>
   obtain⟨σ3,H3,I3,n3⟩:=q3
   obtain⟨m',hm,w3⟩:=hN σ3 H3 n3
   exact @Xc
  |cont=>
   obtain⟨σ3,H3,I3,n3⟩:=q3
   obtain⟨m',hm,w3⟩:=hN σ3 H3 n3
   exact @Xc
  |brk=>exact q3
  |ret v=>exact q3
 |false=>
  rw[UJ UQ]
  exact W4 ⟨σ1,H2,I2,q2⟩
end
structure It where
 go:Nat->Hp->Prop
 yld:Nat->Hp->V->Hp->Prop
 stop:Nat->Hp->Prop
def i2(X:Cx)(pins:@K)(H:Hp)(b:Addr):Prop:=
 H b=none/\b≠X.env.locals/\b∉X.fs/\(b∈X.ex\/X.s₀.heap.objs.size<=b)/\(∀x c,@x=some c->c≠b)/\∀p∈X.pn++pins,p.1≠b
def Inv.fpOk{X:Cx}{pins:@K}{σ:St}{H H':Hp}{s:Shared}{b:Addr}(I:@D)(hb:s.heap.objs.size<=b)(hn:H' b=none):@Iz:=by
 refine⟨hn,Nat.ne_of_gt (UZ I.lt hb),I.nofs hb,.inr (Vp I.sz hb),λx c e z=>?_,λp hp z=>?_⟩
 ·obtain⟨v,q⟩:=@Nb
  exact absurd (UZ q.lt (by rw[z];exact hb)) (U8 _)
 ·exact absurd (UZ (UK (@Js).1) (by rw[z];exact hb)) (U8 _)
structure Turn(P:Program)(w:World)(K:Frag)(tg:Expr)(J:It)(fp:@Ao)(it:Addr)(tn:Nat->Heap->Prop):Prop where
 mem:it∈fp
 obj:∀i h,tn i h->∀b∈fp,∃o,h.get? b=some o/\∀v,o.data≠@Qj
 keep:∀i h h',tn i h->(∀b∈fp,∀o,h.get? b=some o->h'.get? b=some o)->tn i h'
 item:∀(X:Cx),X.prog=P->X.w=w->X.K=K->X.calm=true->∀(i:Nat) (pins:@K) (s:Shared) (σ:St) (H:Hp) (E:@L),@D->(∀b∈fp,@IF)->@MR->@WM->
  wpAny @FV X.A @NW (λr s1=>∃u,r=some u/\
   wpAny @FV X.A @KW (λ_ s2=>∃x H',@KD/\@Iu/\@K6/\tn (i+1) s2.heap/\∀b∈fp,H' b=none) E s1) E s
 done:∀(X:Cx),X.prog=P->X.w=w->X.K=K->X.calm=true->∀(i:Nat) (pins:@K) (s:Shared) (σ:St) (H:Hp) (E:@L),@D->(∀b∈fp,@IF)->@MR->@Qv->
  wpAny @FV X.A @NW (λr s1=>r=none/\Inv X pins σ H s1) E s
 self:∀(A:Around) (i:Nat) (s:Shared) (Q:@L) (E:@L),@MR->Q @Cv s->@Rp
abbrev TI:=St->Hp->(It->Hp->Prop)->Prop
def SY(X:Cx)(pins:@K)(σ:St)(tg:Expr)(R:It->Hp->Prop)(itv:Value)(s2:Shared):Prop:=
 ∃(it:Addr) (fp:@Ao) (tn:Nat->Heap->Prop) (J:It) (H':Hp),itv=.ref it/\@KD/\@P2/\@Ro/\(∀b∈fp,@Iz)/\R J H'
def PI(X:Cx)(tg iter:Expr)(wi:TI):Prop:=
 ∀(pins:@K) (s:Shared) (σ:St) (H:Hp) (R:It->Hp->Prop),@D->wi σ H R->
  wpAny @N X.A @Qe (λv s1=>wpAny @N X.A (pyIter v) @Ov X.xe s1) X.xe s
def Ax{M:Model}{A:Around}{E:@L}{s:Shared}{tg:Expr}{it:Addr}{u:Value}{o:Obj}{n:String}{vs:@BC}{Q:Unit->Shared->Prop}(ho:s.heap.get? it=some o)(hc:o.cls=.type n)(hd:o.data=@IZ)
  (hn: ["enumerate","zip","dict_itemiterator","dict_reverseitemiterator","odict_iterator","itertools.zip_longest","itertools.pairwise"].contains n=false) (hQ:Q () s):wpAny M A @KW Q E s:=by
 unfold letOwnedTupleGo
 cases tg<;>first
  |exact U3 hQ
  | (cases u<;>first
    |exact U3 hQ
    | (refine UA (wpAny_load ho ?_)
       rw[hc,hd]
       show wpAny M A (if(["enumerate","zip","dict_itemiterator","dict_reverseitemiterator","odict_iterator","itertools.zip_longest","itertools.pairwise"].contains n&&vs[0]?==some (rawInt _))=true then _ else _) Q E s
       rw[UJ (by intro h;rw[hn,Bool.false_and]at h;cases h)]
       exact U3 hQ))
def DL(K:Frag)(a:Addr):It:=
 ⟨λi H=>∃xs x,@C6/\xs[i]? =some x,λi H x H'=>H'=H/\∀xs,@C6->xs[i]? =some x,λi H=>∃xs,@C6/\xs.length<=i⟩
def MA(K:Frag)(a:Addr):It:=
 ⟨λi H=>∃xs x,@Cl/\xs[i]? =some x,λi H x H'=>H'=H/\∀xs,@Cl->xs[i]? =some x,λi H=>∃xs,@Cl/\xs.length<=i⟩
def AV(lo:Int)(n:Nat):It:=⟨λi _=>i<n,λi H x H'=>H'=H/\x=.int (lo+i),λi _=>n<=i⟩
def rB{P:Program}{w:World}{K:Frag}{tg:Expr}(a it:Addr):Turn P w K tg @SF [it] it (λi h=>h.IsListIter it a i) where
 mem:=by simp
 obj:=λi h st b hb=>by
  have e:b=it:=by simpa using hb
  subst e
  obtain⟨o,e,c,d⟩:=st
  exact⟨o,e,λv z=>by rw[d]at z;cases z⟩
 keep:=λi h h' st k=>st.at λo e=>k it @W o e
 item:=by
  intro X hP hw hK hc i pins s σ H E I hf st hg
  subst hP hw hK
  obtain⟨xs,x,hq,hx⟩:=hg
  obtain⟨its,rv,p,hz⟩:=@G6
  obtain⟨u,hu,ru⟩:=@Yr
  obtain⟨f0,f1,f2,f3,f4,f5⟩:=@Ks
  refine wpAny_pyNext_list_item st p.isList (x:=u) (by simpa using hu) λh' st' sb=>?_
  have I1:Inv X pins σ H {s with heap:=h'}:=I.turned (t':=s.toks) (λb o hb e=>(sb.2 b hb).trans e) f0 f1 f3 f4 f5
  obtain⟨o,e,c,d⟩:=id st'
  exact⟨u,rfl,Ax (s:={s with heap:=h'}) e c d @S ⟨x,H,I1,ru,⟨rfl,λys hy=>by rw[I.list_inj hy hq];exact hx⟩,st',λb hb=>(@Wm).1⟩⟩
 done:=by
  intro X hP hw hK hc i pins s σ H E I hf st hg
  subst hP hw hK
  obtain⟨xs,hq,hx⟩:=hg
  obtain⟨its,rv,p,hz⟩:=@G6
  obtain⟨f0,f1,f2,f3,f4,f5⟩:=@Ks
  have hl:=rv.length
  exact wpAny_pyNext_list_end (@DV) st p.isList (by simp;omega) λh' eb=>⟨rfl,I.turned (t':=s.toks) (λb o hb e=>@PB) f0 f1 f3 f4 f5⟩
 self:=λ_ _ _ _ _ st h=>wpAny_pyIter_listiter st h
def tK{P:Program}{w:World}{K:Frag}{tg:Expr}(a it:Addr):Turn P w K tg (MA K a) [it] it (λi h=>h.IsTupleIter it a i) where
 mem:=by simp
 obj:=λi h st b hb=>by
  have e:b=it:=by simpa using hb
  subst e
  obtain⟨o,e,c,d⟩:=st
  exact⟨o,e,λv z=>by rw[d]at z;cases z⟩
 keep:=λi h h' st k=>st.at λo e=>k it @W o e
 item:=by
  intro X hP hw hK hc i pins s σ H E I hf st hg
  subst hP hw hK
  obtain⟨xs,x,hq,hx⟩:=hg
  obtain⟨its,rv,p,hz⟩:=@Ge
  obtain⟨u,hu,ru⟩:=@Yr
  obtain⟨f0,f1,f2,f3,f4,f5⟩:=@Ks
  refine wpAny_pyNext_tuple_item st (show @Jo from p) (x:=u) (by simpa using hu) λh' st' sb=>?_
  have I1:Inv X pins σ H {s with heap:=h'}:=I.turned (t':=s.toks) (λb o hb e=>(sb.2 b hb).trans e) f0 f1 f3 f4 f5
  obtain⟨o,e,c,d⟩:=id st'
  exact⟨u,rfl,Ax (s:={s with heap:=h'}) e c d @S ⟨x,H,I1,ru,⟨rfl,λys hy=>by rw[I.tuple_inj hy hq];exact hx⟩,st',λb hb=>(@Wm).1⟩⟩
 done:=by
  intro X hP hw hK hc i pins s σ H E I hf st hg
  subst hP hw hK
  obtain⟨xs,hq,hx⟩:=hg
  obtain⟨its,rv,p,hz⟩:=@Ge
  obtain⟨f0,f1,f2,f3,f4,f5⟩:=@Ks
  have hl:=rv.length
  exact wpAny_pyNext_tuple_end (@DV) st (show @Jo from p) (by simp;omega) λh' eb=>⟨rfl,I.turned (t':=s.toks) (λb o hb e=>@PB) f0 f1 f3 f4 f5⟩
 self:=λ_ _ _ _ _ st h=>wpAny_pyIter_tupleiter st h
def B9{P:Program}{w:World}{K:Frag}{tg:Expr}(it:Addr)(lo:Int)(n:Nat):Turn P w K tg (@MA) [it] it (λi h=>IsRangeIter h it (lo+(i:Nat)*1) ((n:Int)-(i:Nat)) 1) where
 mem:=by simp
 obj:=λi h st b hb=>by
  have e:b=it:=by simpa using hb
  subst e
  exact⟨_,st,λv z=>by
   have z':@MB=@O4:=z
   cases z'⟩
 keep:=λi h h' st k=>@Yl
 item:=by
  intro X hP hw hK hc i pins s σ H E I hf st hg
  subst hP hw hK
  obtain⟨f0,f1,f2,f3,f4,f5⟩:=@Ks
  have W:=Walks.range (prog:=X.prog) (w:=X.w) (@DV) it lo 1 n
  refine W.item i s _ _ hg st λv h' tk hv st' kk=>?_
  obtain⟨t,rfl⟩:=hv
  have I1:Inv X pins σ H {s with heap:=h',toks:=tk}:=I.turned (λb o hb e=>kk b o (by simpa using hb) e) f0 f1 f3 f4 f5
  refine⟨_,rfl,Ax (s:={s with heap:=h',toks:=tk}) (n:="range_iterator") st' rfl rfl @S ⟨.int (lo+i),H,I1,⟨t,?_⟩,@IO,st',λb hb=>(@Wm).1⟩⟩
  rw[Int.mul_one]
 done:=by
  intro X hP hw hK hc i pins s σ H E I hf st hg
  subst hP hw hK
  obtain⟨f0,f1,f2,f3,f4,f5⟩:=@Ks
  exact wpAny_pyNext_range_end (@DV) st (by have:n<=i:=hg;omega) λh' eb=>⟨rfl,I.turned (t':=s.toks) (λb o hb e=>@PB) f0 f1 f3 f4 f5⟩
 self:=λ_ _ _ _ _ st h=>@KN
section
variable {X:Cx}{tg:Expr}
def Pf(K:Frag)(tl:TE):TI:=λσ H R=>tl σ H λx H1=>∃a,x=.ref a/\(∃xs,@Nw)/\R @SF H1
def CC{l:Expr}{tl:TE}(hl:PE X l tl):PI X tg l (Pf X.K tl):=by
 intro pins s σ H R I h
 refine cK @Mm λv s1 ⟨x,H1,I1,r1,q1⟩=>?_
 obtain⟨a,e,⟨xs,hq⟩,q⟩:=q1
 subst e
 cases r1
 obtain⟨its,rv,p,hz⟩:=I1.list hq
 refine Ww p.isList ?_
 refine⟨s1.heap.objs.size,@HY,_,_,H1,rfl,I1.kept (t':=s1.toks) λb o e=>Ux _ e,rB a _,@CS,λb hb=>?_,q⟩
 have e:b=s1.heap.objs.size:=by simpa using hb
 subst e
 exact @BW
def zm{pins:@K}{σ:St}{H:Hp}{s:Shared}{R:It->Hp->Prop}{E:@L}{lo hi:Int}{t u v:Tok}{tk:Nat}(I:@D)(h1: -(2^62)<=lo)(h2:lo<2^62)(h3: -(2^62)<=hi)(h4:hi<2^62)
  (q:R (AV lo (hi-lo).toNat) H):wpAny @N X.A (pyIter (@AN)) @Ov E {s with heap:=s.heap.push {cls:=@DO,data:=.fields #[@H0,@Hz,@Ph]},toks:=tk}:=by
 refine wpAny_pyIter_range (IsRange.new ..) (small_one h1 h2 h3 h4) ?_
 have I1:Inv X pins σ H {s with heap:=s.heap.push {cls:=@DO,data:=.fields #[@H0,@Hz,@Ph]},toks:=tk}:=I.kept λb o e=>Ux _ e
 refine⟨(s.heap.push {cls:=@DO,data:=.fields #[@H0,@Hz,@Ph]}).objs.size,[(s.heap.push {cls:=@DO,data:=.fields #[@H0,@Hz,@Ph]}).objs.size],_,_,H,rfl,
  I1.kept (t':=tk) λb o e=>Ux _ e,B9 _ lo (hi-lo).toNat,?_,λb hb=>?_,q⟩
 ·have e1:lo+((0:Nat):Int)*1=lo:=by simp
  have e2:(((hi-lo).toNat:Nat):Int)-((0:Nat):Int)=Builtin.Range.rangeSize lo hi 1:=by rw[rangeSize_one];split<;>omega
  show IsRangeIter _ _ (lo+((0:Nat):Int)*1) ((((hi-lo).toNat:Nat):Int)-((0:Nat):Int)) 1
  rw[e1,e2]
  exact @Gq
 ·have e:b=(s.heap.push {cls:=@DO,data:=.fields #[@H0,@Hz,@Ph]}).objs.size:=by simpa using hb
  subst e
  exact @BW
def Ms(ta:TA):TI:=λσ H R=>ta σ H λvs H1=>∃j:Int,vs= [.int j]/\ -(2^62)<=j/\j<2^62/\R (AV 0 j.toNat) H1
def Qk(ta:TA):TI:=λσ H R=>ta σ H λvs H1=>∃i j:Int,vs= @GN/\(-(2^62)<=i/\i<2^62/\ -(2^62)<=j/\j<2^62)/\R (AV i (j-i).toNat) H1
theorem o6{a:Expr}{ta:TA}{p pos:Pos}(hg:@He)(hm:@FR=none)(ha:@TI)(hs:@A_= [(false,@AZ)]:=by rfl):PI X tg @Mh (Ms ta):=by
 intro pins s σ H R I h
 refine Call_ (lq I hg hm boot_range (VH (cK @A7 λus s1 ⟨vs,H1,I1,r1,q1⟩=>?_) hs rfl))
 obtain⟨j,e,q1,q2,q⟩:=q1
 subst e
 cases r1 with
 |cons r rr=>
  cases rr
  obtain⟨t,rfl⟩:=r
  exact call_range_1 (zm I1 (@B) (@B) q1 q2 (by simpa using q))
theorem E7{a b:Expr}{ta:TA}{p pos:Pos}(hg:@He)(hm:@FR=none)(ha:PA X [a,b] ta)(hs:@Jd= [(false,@AZ),(false,@DD)]:=by rfl)(hs2:@DS= [(false,@DD)]:=by rfl) :
  PI X tg @Ur (Qk ta):=by
 intro pins s σ H R I h
 refine Call_ (lq I hg hm boot_range (VH (cK @A7 λus s1 ⟨vs,H1,I1,r1,q1⟩=>?_) (by rw[hs,hs2]) (by rw[hs2];rfl)))
 obtain⟨i,j,e,⟨q1,q2,q3,q4⟩,q⟩:=q1
 subst e
 cases r1 with
 |cons r rr=>
  cases rr with
  |cons r' rr=>
   cases rr
   obtain⟨t,rfl⟩:=r
   obtain⟨t',rfl⟩:=r'
   exact call_range_2 (zm I1 q1 q2 q3 q4 q)
def TR(wi:TI)(g:TG)(tb:TS):TS:=λD σ H=>wi σ H λJ H1=>∃W:Nat->Nat->St->Hp->Prop,(∃m,W 0 m σ H1)/\∀i m σ H,@Q4->
 (@Qv/\@JI)\/(@WM/\∃N:St->Hp->Prop,(∀σ' H',@SN->∃m',m'<m/\W (i+1) m' σ' H')/\∀x H',@K6->g x σ H' λσ2 H2=>tb {D with nx:=N,ct:=N,bk:=D.nx} σ2 H2)
def rJ(fp:@Ao)(h:Heap):@K:=fp.filterMap λb=>(h.get? b).map λo=>(b,o)
def iZ{fp:@Ao}{h:Heap}{b:Addr}{o:Obj}(hb:b∈fp)(e:h.get? b=some o):(b,o)∈rJ fp h:=Wj.mpr ⟨b,hb,by rw[e];rfl⟩
theorem EB{fp:@Ao}{h:Heap}{p:Addr×Obj}(hp:p∈rJ fp h):p.1∈fp/\h.get? p.1=some p.2:=by
 obtain⟨b,hb,e⟩:=Wj.mp hp
 cases q:h.get? b with
 |none=>rw[q]at e;cases e
 |some o=>
  rw[q]at e
  have e':(b,o)=p:=@Ig
  subst e'
  exact⟨hb,q⟩
def Inv.pinned{pins:@K}{σ:St}{H:Hp}{s:Shared}{fp:@Ao}(I:@D)(hf:∀b∈fp,@IF)(ho:∀b∈fp,∃o,s.heap.get? b=some o/\∀v,o.data≠@Qj):Inv X (pins++rJ fp s.heap) σ H s:=
 I.pins_of λp hp=>(@Kq).elim (λz=>I.pin p (U0 _ z)) λz=>by
  obtain⟨hb,e⟩:=EB z
  obtain⟨f0,f1,f2,_⟩:=hf p.1 hb
  obtain⟨o,e',d⟩:=ho p.1 hb
  rw[e]at e';cases e'
  exact⟨e,f0,f1,f2,d⟩
def Inv.unpinned{pins pl:@K}{σ:St}{H:Hp}{s:Shared}(I:Inv X (pins++pl) σ H s):@D:=I.pins_of λp hp=>I.pin p (U0 _ (VL _ hp))
def y0{iter:Expr}{body:@Dx}{wi:TI}{g:TG}{tb:TS}{pos:Pos}(hp:@GM)(hc:X.calm=true)(hi:@Nk)(hg:PG X tg g)(hb:rq X body tb)
  (hs:∀x,@Bj=pure x:=by intro _;rfl):PS X (.For tg iter body [] pos) (TR wi g tb):=by
 intro pins s σ H D I h
 refine wpAny_For (cK @IT λv s1 h1=>cK h1 λitv s2 h2=>?_) hs
 obtain⟨it,fp,tn,J,H2,e,I2,T,st2,f2,W,⟨m0,w0⟩,turn⟩:=h2
 subst e
 have stat:∀{H':Hp},(∀b∈fp,H' b=none)->∀b∈fp,@Iz:=λhn b hb=>⟨hn b hb,(f2 b hb).2⟩
 refine codeAny_forLoop_any (λn s'=>∃i σ' H',@DW/\@Yv/\(∀b∈fp,H' b=none)/\@YW) ?_ m0 ⟨0,σ,H2,I2,st2,λb hb=>(f2 b hb).1,w0⟩
 rintro n s3 ⟨i,σ3,H3,I3,st3,fr3,w3⟩
 rcases turn i n σ3 H3 w3 with⟨stop,qn⟩|⟨go,N,hN,step⟩
 ·refine Wm hp (cK (T.done X rfl rfl rfl hc i pins s3 σ3 H3 X.xe I3 (stat fr3) st3 stop) λr s4 ⟨hr,I4⟩=>?_)
  subst hr
  exact W4 ⟨σ3,H3,I4,qn⟩
 ·refine Wm hp (cK (T.item X rfl rfl rfl hc i pins s3 σ3 H3 X.xe I3 (stat fr3) st3 go) λr s4 ⟨u,hr,h4⟩=>?_)
  subst hr
  refine Wm hp (cK h4 λ_ s5 ⟨x,H5,I5,r5,y5,st5,fr5⟩=>?_)
  have I5':=I5.pinned (stat fr5) (T.obj _ _ st5)
  refine Wm hp (cK (hg _ s5 σ3 H5 x u _ I5' r5 (step x H5 y5)) λ_ s6 ⟨σ6,H6,I6,q6⟩=>?_)
  refine Wm hp (cK (hb _ s6 σ6 H6 _ I6 q6) λf s7 q7=>?_)
  have again:∀{σ7:St} {H7:Hp},Inv X (pins++rJ fp s5.heap) σ7 H7 s7->N σ7 H7->∃m,m<n/\∃i σ' H',Inv X pins σ' H' s7/\@Yw/\(∀b∈fp,H' b=none)/\@Da:=λ{σ7 H7} I7 n7=>by
   obtain⟨m',hm,w7⟩:=@Yg
   refine⟨m',hm,i+1,σ7,H7,I7.unpinned,T.keep _ _ _ st5 λb hb o e=>(I7.pin (b,o) @EF).1,λb hb=>?_,w7⟩
   obtain⟨o,e,d⟩:=T.obj _ _ st5 b hb
   exact(I7.pin (b,o) @EF).2.1
  cases f with
  |next=>obtain⟨σ7,H7,I7,n7⟩:=q7;exact again I7 n7
  |cont=>obtain⟨σ7,H7,I7,n7⟩:=q7;exact again I7 n7
  |brk=>obtain⟨σ7,H7,I7,q7⟩:=q7;exact⟨σ7,H7,I7.unpinned,q7⟩
  |ret v=>obtain⟨x7,σ7,H7,I7,r7,q7⟩:=q7;exact⟨x7,σ7,H7,I7.unpinned,r7,q7⟩
end
def zo{K:Frag}{a:Addr}{xs:List V}{g:TG}{tb:TS}{D:Ends}{σ:St}{H:Hp}(Pv:Nat->St->Hp->Prop)(h0:@YN)(hl:∀i σ H,i<=xs.length->@Dh->@C6)
  (hs:∀i x σ H,xs[i]? =some x->@Dh->g x σ H λσ2 H2=>tb {D with nx:=Pv (i+1),ct:=Pv (i+1),bk:=D.nx} σ2 H2) (hd:∀σ H,@Ih->@JI) :
  ∃W:Nat->Nat->St->Hp->Prop,(∃m,@VV)/\∀i m σ H,@Q4->
   ((DL K a).stop i H/\@JI)\/((DL K a).go i H/\∃N:St->Hp->Prop,(∀σ' H',@SN->∃m',m'<m/\W (i+1) m' σ' H')/\∀x H',(DL K a).yld i H x H'->g x σ H' λσ2 H2=>tb {D with nx:=N,ct:=N,bk:=D.nx} σ2 H2):=by
 refine⟨λi m σ H=>m=xs.length-i/\i<=xs.length/\@Dh,⟨xs.length,by simp,Vl _,h0⟩,?_⟩
 rintro i m σ H ⟨rfl,hi,p⟩
 have q:=@Ui
 by_cases hlt:i<xs.length
 ·refine .inr ⟨⟨xs,xs[i],q,by simp[hlt]⟩,Pv (i+1),λσ' H' p'=>⟨xs.length-(i+1),@B,rfl,hlt,p'⟩,λx H' y=>?_⟩
  obtain⟨e,y⟩:=y
  subst e
  exact @M3
 ·have e:i=xs.length:=@B
  subst e
  exact @G4
def Jq{K:Frag}{a:Addr}{xs:List V}{g:TG}{tb:TS}{D:Ends}{σ:St}{H:Hp}(Pv:Nat->St->Hp->Prop)(h0:@YN)(hl:∀i σ H,i<=xs.length->@Dh->@Cl)
  (hs:∀i x σ H,xs[i]? =some x->@Dh->g x σ H λσ2 H2=>tb {D with nx:=Pv (i+1),ct:=Pv (i+1),bk:=D.nx} σ2 H2) (hd:∀σ H,@Ih->@JI) :
  ∃W:Nat->Nat->St->Hp->Prop,(∃m,@VV)/\∀i m σ H,@Q4->
   ((MA K a).stop i H/\@JI)\/((MA K a).go i H/\∃N:St->Hp->Prop,(∀σ' H',@SN->∃m',m'<m/\W (i+1) m' σ' H')/\∀x H',(MA K a).yld i H x H'->g x σ H' λσ2 H2=>tb {D with nx:=N,ct:=N,bk:=D.nx} σ2 H2):=by
 refine⟨λi m σ H=>m=xs.length-i/\i<=xs.length/\@Dh,⟨xs.length,by simp,Vl _,h0⟩,?_⟩
 rintro i m σ H ⟨rfl,hi,p⟩
 have q:=@Ui
 by_cases hlt:i<xs.length
 ·refine .inr ⟨⟨xs,xs[i],q,by simp[hlt]⟩,Pv (i+1),λσ' H' p'=>⟨xs.length-(i+1),@B,rfl,hlt,p'⟩,λx H' y=>?_⟩
  obtain⟨e,y⟩:=y
  subst e
  exact @M3
 ·have e:i=xs.length:=@B
  subst e
  exact @G4
def EO{lo:Int}{n:Nat}{g:TG}{tb:TS}{D:Ends}{σ:St}{H:Hp}(Pv:Nat->St->Hp->Prop)(h0:@YN)
  (hs:∀i σ H,i<n->@Dh->g (.int (lo+i)) σ H λσ2 H2=>tb {D with nx:=Pv (i+1),ct:=Pv (i+1),bk:=D.nx} σ2 H2) (hd:∀σ H,@YO->@JI) :
  ∃W:Nat->Nat->St->Hp->Prop,(∃m,@VV)/\∀i m σ H,@Q4->
   ((@MA).stop i H/\@JI)\/((@MA).go i H/\∃N:St->Hp->Prop,(∀σ' H',@SN->∃m',m'<m/\W (i+1) m' σ' H')/\∀x H',(@MA).yld i H x H'->g x σ H' λσ2 H2=>tb {D with nx:=N,ct:=N,bk:=D.nx} σ2 H2):=by
 refine⟨λi m σ H=>m=n-i/\i<=n/\@Dh,⟨n,by simp,Vl _,h0⟩,?_⟩
 rintro i m σ H ⟨rfl,hi,p⟩
 by_cases hlt:i<n
 ·refine .inr ⟨hlt,Pv (i+1),λσ' H' p'=>⟨n-(i+1),@B,rfl,hlt,p'⟩,λx H' y=>?_⟩
  obtain⟨e,y⟩:=y
  subst e y
  exact @Ta
 ·have e:i=n:=@B
  subst e
  exact @K1
abbrev R2:=V->V->Hp->VK->Prop
def nv(X:Cx)(f:Value->Value->@Ld)(r:R2):Prop:=
 ∀(pins:@K) (s:Shared) (σ:St) (H:Hp) (x y:V) (v u:Value) (Q:VK),@D->@H8->@P0->@Yp->
  wpAny @N X.A (f v u) @BE X.xe s
def RL(X:Cx)(f:Value->@Ld)(r:V->Hp->VK->Prop):Prop:=
 ∀(pins:@K) (s:Shared) (σ:St) (H:Hp) (x:V) (v:Value) (Q:VK),@D->@H8->r x H Q->
  wpAny @N X.A (f v) @BE X.xe s
def fQ(X:Cx)(f:Value)(r:List V->Hp->VK->Prop):Prop:=
 ∀(pins:@K) (s:Shared) (σ:St) (H:Hp) (xs:List V) (us:@e) (Q:VK),@D->@EU->r xs H Q->
  wpAny @N X.A (call f us) @BE X.xe s
def S6(X:Cx)(r:V->Hp->(Bool->Hp->Prop)->Prop):Prop:=
 ∀(pins:@K) (s:Shared) (σ:St) (H:Hp) (x:V) (v:Value) (Q:Bool->Hp->Prop),@D->@H8->r x H Q->
  wpAny @N X.A (truthy v) @MS X.xe s
def RJ(r:R2)(ta tb:TE):TE:=λσ H Q=>ta σ H λx H1=>tb σ H1 λy H2=>r x y H2 Q
def Us(r:V->Hp->VK->Prop)(ta:TE):TE:=λσ H Q=>ta σ H λx H1=>r x H1 Q
def rI(C:Int->Int->Prop)(g:Int->Int->V):R2:=λx y H Q=>∃i j,x=.int i/\y=.int j/\C i j/\Q @Iq H
def yb(g:Int->Int->V):R2:=λx y H Q=>∃i j,x=.int i/\y=.int j/\Q @Iq H
def rU(g:Int->V):V->Hp->VK->Prop:=λx H Q=>∃i,x=.int i/\Q (g i) H
section
variable {X:Cx}{a b c:Expr}{ta tb tc:TE}{pos:Pos}
def NT(ha:@FH)(hb:@LY){pins:@K}{s:Shared}{σ:St}{H:Hp}{R:V->V->Hp->Prop}(I:@D)
  (h:ta σ H λx H1=>tb σ H1 λy H2=>R x y H2) {Q:@L} {f:Value->Value->@Ld}
  (hf:∀v u s2 x y H2,Inv X pins σ H2 s2->@H8->@P0->R x y H2->@Rq) :
  wpAny @N X.A (@AZ) (λv s₁=>wpAny @N X.A (@DD) (λu s₂=>@QW) X.xe s₁) X.xe s:=by
 refine cK @Av λv s1 ⟨x,H1,I1,r1,q1⟩=>?_
 refine cK @Gn λu s2 ⟨y,H2,I2,r2,q2⟩=>?_
 exact @SZ
def qg{op:Operator}{r:R2}(ho:nv X (binaryOp op) r)(ha:@FH)(hb:@LY):PE X (.BinOp a op b pos) @RJ:=by
 intro pins s σ H Q I h
 exact wpAny_BinOp (NT ha hb I h λv u s2 x y H2 I2 rx ry q=>@OT)
def Q6{op:UnaryOp}{r:V->Hp->VK->Prop}(ho:RL X (unaryOp op) r)(ha:@FH):PE X (.UnaryOp op a pos) (Us r ta):=by
 intro pins s σ H Q I h
 exact UnaryOp_ (cK @Av λv s1 ⟨x,H1,I1,r1,q1⟩=>ho pins s1 σ H1 x v Q I1 r1 q1)
def Qi{f:Value->Value->@Ld}{C:Int->Int->Prop}{g:Int->Int->Int}
  (rule:∀(i j:Int) (t u:Tok) (s:Shared) (Q:@L) (E:@L),C i j->Q (.int @Iq s.toks) {s with toks:=s.toks+1}->@FL) :
  nv X f (rI C λi j=>.int @Iq):=by
 intro pins s σ H x y v u Q I rx ry h
 obtain⟨i,j,rfl,rfl,hc,q⟩:=h
 obtain⟨t,rfl⟩:=rx
 obtain⟨t',rfl⟩:=ry
 exact rule i j t t' s _ _ hc @UA
def Kn{f:Value->Value->@Ld}{g:Int->Int->Int}
  (rule:∀(i j:Int) (t u:Tok) (s:Shared) (Q:@L) (E:@L),Q (.int @Iq s.toks) {s with toks:=s.toks+1}->@FL) :
  nv X f (yb λi j=>.int @Iq):=by
 intro pins s σ H x y v u Q I rx ry h
 obtain⟨i,j,rfl,rfl,q⟩:=h
 obtain⟨t,rfl⟩:=rx
 obtain⟨t',rfl⟩:=ry
 exact rule i j t t' s _ _ @UA
def Jr{f:Value->Value->@Ld}{g:Int->Int->Bool}
  (rule:∀(i j:Int) (t u:Tok) (s:Shared) (Q:@L) (E:@L),Q (.bool @Iq) s->@FL) :
  nv X f (yb λi j=>.bl @Iq):=by
 intro pins s σ H x y v u Q I rx ry h
 obtain⟨i,j,rfl,rfl,q⟩:=h
 obtain⟨t,rfl⟩:=rx
 obtain⟨t',rfl⟩:=ry
 exact rule i j t t' s _ _ ⟨.bl @Iq,H,I,rfl,q⟩
def Kh(i j:Int):Prop:=0<j/\j<1073741824
def Fu(i j:Int):Prop:=0<=j/\j<=1000000/\i.natAbs<2^64
def Gk(i j:Int):Prop:=(-(2^64)<i/\i<2^64)\/(-(2^64)<j/\j<2^64)
def Gk.ok{i j:Int}(h:Gk i j):IntMulOk i j:=by
 rcases h with⟨h1,h2⟩|⟨h1,h2⟩
 ·exact .of_left @Xu
 ·exact .of_right @Xu
def ij:nv X @J8 (yb λi j=>.int (i+j)):=Kn λ_ _ _ _ _ _ _ q=>add_int q
def yk:nv X (binaryOp .Sub) (yb λi j=>.int (i-j)):=Kn λ_ _ _ _ _ _ _ q=>sub_int q
def nM:nv X (binaryOp .Mult) (rI Gk λi j=>.int (i*j)):=Qi λ_ _ _ _ _ _ _ hc q=>mul_int q hc.ok
def tE:nv X (binaryOp .FloorDiv) (rI Kh λi j=>.int (i/j)):=Qi λi j _ _ _ _ _ hc q=>by
 have h1:(0:Int)<j:=hc.1
 have h2:j<1073741824:=hc.2
 exact floordiv_int (@B) (by rw[Int.fdiv_eq_ediv_of_nonneg i (@B)];exact q) @G0
def pF:nv X (binaryOp .Mod) (rI (λ_ j=>0<j) λi j=>.int (i%j)):=Qi λi j _ _ _ _ _ hc q=>by
 have h1:(0:Int)<j:=hc
 exact mod_int' (@B) (by rw[Int.fmod_eq_emod_of_nonneg i (@B)];exact q)
def IW:nv X (binaryOp .Pow) (rI Fu λi j=>.int (i^j.toNat)):=Qi λ_ _ _ _ _ _ _ hc q=>pow_int_small hc.1 hc.2.1 hc.2.2 q
def IV:nv X (binaryOp .LShift) (rI Fu λi j=>.int (i*2^j.toNat)):=Qi λ_ _ _ _ _ _ _ hc q=>lshift_int_small hc.1 hc.2.1 hc.2.2 q
def Nt:nv X (binaryOp .BitAnd) (yb λi j=>@K3):=Kn λ_ _ _ _ _ _ _ q=>and_int q
def My:nv X (binaryOp .BitOr) (yb λi j=>@LT):=Kn λ_ _ _ _ _ _ _ q=>or_int q
def Ui{f:Value->@Ld}{g:Int->Int}
  (rule:∀(i:Int) (t:Tok) (s:Shared) (Q:@L) (E:@L),Q (.int (g i) s.toks) {s with toks:=s.toks+1}->wpAny @N X.A (f (@ON)) Q E s) :
  RL X f (rU λi=>.int (g i)):=by
 intro pins s σ H x v Q I rx h
 obtain⟨i,rfl,q⟩:=h
 obtain⟨t,rfl⟩:=rx
 exact rule i t s _ _ ⟨.int (g i),H,@HT,@BS,q⟩
def nZ:RL X (unaryOp .USub) (rU λi=>.int (-i)):=Ui λ_ _ _ _ _ q=>neg_int q
end
def S1:V->V->Bool
 | .non,.non=>true|.non,.int _=>true|.int _,.non=>true|.non,.bl _=>true|.bl _,.non=>true|.non,.str _=>true|.str _,.non=>true
 | .int _,.int _=>true|.bl _,.bl _=>true|.str _,.str _=>true|.byt _,.byt _=>true
 | .int _,.str _=>true|.str _,.int _=>true|.bl _,.str _=>true|.str _,.bl _=>true
 |_,_=>false
def Uj:R2:=λx y H Q=>S1 x y=true/\Q (.bl (decide (x=y))) H
def DI{i j:Int}:decide (V.int i=V.int j)=(i==j):=by
 rw[Va]
 simp
def Nk{i j:Bool}:decide (V.bl i=V.bl j)=(i==j):=by
 rw[Va]
 simp
def Ls{i j:Str}:decide (V.str i=V.str j)=(i==j):=by
 rw[Va]
 simp
def Jz{i j:Array UInt8}:decide (V.byt i=V.byt j)=(i.toList==j.toList):=by
 rw[Va]
 cases i
 cases j
 simp
section
variable {X:Cx}{a b c:Expr}{ta tb tc:TE}{pos:Pos}
def gF{pins:@K}{σ:St}{H:Hp}{s:Shared}{Q:VK}{k k':Bool}(I:@D)(q:Q (.bl k) H)(e:k=k'):EP X pins σ Q (.bool k') s:=by
 subst e
 exact⟨.bl k,H,I,rfl,q⟩
theorem QZ:nv X (compareOp .Eq) Uj:=by
 intro pins s σ H x y v u Q I rx ry h
 obtain⟨hs,q⟩:=h
 cases x with
 |non=>
  cases rx
  cases y with
  |non=>cases ry;exact PySem.EqNone.eq_none_none @FU
  |bl j=>cases ry;exact PySem.EqNone.eq_none_bool @FU
  |int j=>obtain⟨t',rfl⟩:=ry;exact PySem.EqNone.eq_none_int @FU
  |str j=>obtain⟨t',rfl⟩:=ry;exact PySem.EqNone.eq_none_str @FU
  |_=>exact absurd (show false=true from hs) UQ
 |bl i=>
  cases rx
  cases y with
  |non=>cases ry;exact PySem.EqNone.eq_bool_none @FU
  |bl j=>cases ry;exact eq_bool (gF I q Nk)
  |str j=>obtain⟨t',rfl⟩:=ry;exact PySem.EqMixed.eq_bool_str @FU
  |_=>exact absurd (show false=true from hs) UQ
 |int i=>
  obtain⟨t,rfl⟩:=rx
  cases y with
  |non=>cases ry;exact PySem.EqNone.eq_int_none @FU
  |int j=>obtain⟨t',rfl⟩:=ry;exact eq_int (gF I q DI)
  |str j=>obtain⟨t',rfl⟩:=ry;exact PySem.EqMixed.eq_int_str @FU
  |_=>exact absurd (show false=true from hs) UQ
 |str i=>
  obtain⟨t,rfl⟩:=rx
  cases y with
  |non=>cases ry;exact PySem.EqNone.eq_str_none @FU
  |bl j=>cases ry;exact PySem.EqMixed.eq_str_bool @FU
  |int j=>obtain⟨t',rfl⟩:=ry;exact PySem.EqMixed.eq_str_int @FU
  |str j=>obtain⟨t',rfl⟩:=ry;exact eq_str (gF I q Ls)
  |_=>exact absurd (show false=true from hs) UQ
 |byt i=>
  obtain⟨t,rfl⟩:=rx
  cases y with
  |byt j=>obtain⟨t',rfl⟩:=ry;exact PySem.W.eq_bytes (gF I q Jz)
  |_=>exact absurd (show false=true from hs) UQ
 |_=>cases y<;>exact absurd (show false=true from hs) UQ
def va:nv X (compareOp .Lt) (yb λi j=>.bl (decide (i<j))):=Jr λ_ _ _ _ _ _ _ q=>lt_int q
def Ao:nv X (compareOp .LtE) (yb λi j=>.bl (decide (i<=j))):=Jr λ_ _ _ _ _ _ _ q=>le_int q
def Mp:nv X (compareOp .Gt) (yb λi j=>.bl (decide (j<i))):=Jr λ_ _ _ _ _ _ _ q=>gt_int q
def Qx:nv X (compareOp .GtE) (yb λi j=>.bl (decide (j<=i))):=Jr λ_ _ _ _ _ _ _ q=>ge_int q
def bI(b:Expr){op:CmpOp}(h:op≠.In:=by decide)(h2:op≠.NotIn:=by decide):@Es=false:=by
 have e1:(op==CmpOp.In)=false:=by cases op<;>first|rfl|exact @Br
 have e2:(op==CmpOp.NotIn)=false:=by cases op<;>first|rfl|exact absurd rfl h2
 cases b<;>simp[behindInMarks,e1,e2]
def yE{op:CmpOp}{r:R2}(ho:@Eu)(ha:@FH)(hb:@LY)(hm:@Es=false):PE X @Ev @RJ:=by
 intro pins s σ H Q I h
 exact wpAny_Compare1 (NT ha hb I h λv u s2 x y H2 I2 rx ry q=>@OT) hm
def Q7(t:TE):TT:=λσ H Q=>t σ H λx H'=>∃k,x=.bl k/\Q k H'
def LQ{op:CmpOp}{r:R2}(ho:@Eu)(ha:@FH)(hb:@LY)(hm:@Es=false):PT X @Ev (Q7 @RJ):=by
 intro pins s σ H Q I h
 refine wpAny_isTrue_Compare1 (cK @Av λv s1 ⟨x,H1,I1,r1,q1⟩=>cK @Gn λu s2 ⟨y,H2,I2,r2,q2⟩=>
  cK @NA λc s3 ⟨z,H3,I3,r3,k,e,q3⟩=>?_) hm
 subst e
 cases r3
 exact VN ⟨H3,I3,q3⟩
def NM(r r':R2)(ta tb tc:TE):TE:=λσ H Q=>ta σ H λx H1=>tb σ H1 λy H2=>r x y H2 λz H3=>∃k,z=.bl k/\
 (if k=true then tc σ H3 λw' H4=>r' y w' H4 Q else Q (@LR) H3)
theorem FQ{op op':CmpOp}{r r':R2}(ho:@Eu)(ho':@Wu)(ha:@FH)(hb:@LY)(hc:PE X c tc)
  (hm:@Vk=false:=by with_unfolding_all rfl):PE X @Qa (NM r r' ta tb tc):=by
 intro pins s σ H Q I h
 refine Compare_chain (cK @Av λv s1 ⟨x,H1,I1,r1,q1⟩=>chain_link (cK @Gn λu s2 ⟨y,H2,I2,r2,q2⟩=>
  cK @NA λd s3 ⟨z,H3,I3,r3,k,e,q3⟩=>?_)) hm
 subst e
 cases r3
 refine VN ?_
 cases k with
 |false=>exact ite_ff ⟨@LR,H3,I3,rfl,q3⟩
 |true=>exact ite_tt (chain_last (cK (hc pins s3 σ H3 _ I3 q3) λw' s4 ⟨z',H4,I4,r4,q4⟩=>ho' pins s4 σ H4 y z' u w' Q I4 r2 r4 q4))
def Qw(K:Frag)(x:V)(H:Hp)(k:Bool):Prop:=
 match x with
 | .non=>k=false
 | .bl b=>k=b
 | .int i=>k=(i != 0)
 | .str y=>y.length<=sizeLine/\k=((y.length:Int) != 0)
 | .byt y=>y.size<=sizeLine/\k=((y.size:Int) != 0)
 | .ref p=>(∃xs,@KK/\k= !xs.isEmpty)\/(∃xs,@PF/\k= !xs.isEmpty)\/∃kvs,H p=@Fl/\k= !kvs.isEmpty
 |_=>False
def Bd{κ:Type}{kvs:List (κ×V)}{vs:List (κ×Value)}(r:@JJ):(!vs.isEmpty)= !kvs.isEmpty:=by
 cases r<;>rfl
def tH{xs:List V}{its:@e}(r:@Ij):(!its.toArray.isEmpty)= !xs.isEmpty:=by
 cases r<;>simp
def rH:(sizeLine:Nat)<2^63:=by rw[Vi];decide
theorem OC:S6 X (λx H Q=>∃k,Qw X.K x H k/\Q k H):=by
 intro pins s σ H x v Q I rx h
 obtain⟨k,e,q⟩:=h
 have hl:=rH
 have hs:sizeLine=16777216:=Vi
 cases x with
 |non=>
  cases rx
  have e':k=false:=e
  subst e'
  exact truthy_none ⟨H,I,q⟩
 |bl b=>
  cases rx
  have e':k=b:=e
  subst e'
  exact VN ⟨H,I,q⟩
 |int i=>
  obtain⟨t,rfl⟩:=rx
  have e':k=(i != 0):=e
  subst e'
  exact PySem.P.truthy_int ⟨H,I,q⟩
 |str y=>
  obtain⟨t,rfl⟩:=rx
  obtain⟨hy,e'⟩:y.length<=sizeLine/\k=((y.length:Int) != 0):=e
  subst e'
  exact PySem.P.truthy_str (@B) ⟨H,@HT,q⟩
 |byt y=>
  obtain⟨t,rfl⟩:=rx
  obtain⟨hy,e'⟩:y.size<=sizeLine/\k=((y.size:Int) != 0):=e
  subst e'
  exact PySem.W.truthy_bytes (@B) ⟨H,@HT,q⟩
 |ref p=>
  cases rx
  have e':(∃xs,jy X.K H p xs/\k= !xs.isEmpty)\/(∃xs,@Wo/\k= !xs.isEmpty)\/∃kvs,H p=@Fl/\k= !kvs.isEmpty:=e
  rcases e' with⟨xs,hx,e'⟩|⟨xs,hx,e'⟩|⟨kvs,hx,e'⟩
  ·subst e'
   obtain⟨its,r,pl,hz⟩:=I.list hx
   have hlen:=r.length
   exact wpAny_truthy_list pl.isList (by simp only[UM];omega) ⟨H,@HT,by rw[tH r];exact q⟩
  ·subst e'
   obtain⟨its,r,pl,hz⟩:=I.tuple hx
   have hlen:=r.length
   exact truthy_tuple pl (by simp only[UM];omega) ⟨H,@HT,by rw[tH r];exact q⟩
  ·subst e'
   obtain⟨hz,hS,vs,r,m⟩:kvs.length<=sizeLine/\(p==sysModules)=false/\∃vs,@JJ/\s.heap.DictOf (ig X.prog X.w) p vs:=I.hok p _ hx
   have hlen:kvs.length=vs.length:=Paired.length r
   exact wpAny_truthy_dict hS m (@B) ⟨H,@HT,by rw[Bd r];exact q⟩
 |_=>exact(show False from e).elim
def Hw(ha:@FH)(he:∀whole,isTrue a X.env whole=(do let v <-whole;standAt a.pos;@M2)) :
  PT X a (λσ H Q=>ta σ H λx H'=>∃k,Qw X.K x H' k/\Q k H'):=by
 intro pins s σ H Q I h
 exact isTrue_plain (cK @Av λv s1 ⟨x,H1,I1,r1,q1⟩=>OC pins s1 σ H1 x v Q I1 r1 q1) (he _)
theorem vals1{x:V}{us:@e}(r:Vals [x] us):∃u,us= [u]/\@Iu:=by
 cases r with
 |cons r1 r2=>cases r2;exact⟨_,rfl,r1⟩
theorem vals2{x y:V}{us:@e}(r:Vals [x,y] us):∃u w',us= [u,w']/\@Iu/\RelV y w':=by
 cases r with
 |cons r1 r2=>
  cases r2 with
  |cons r3 r4=>cases r4;exact⟨_,_,rfl,r1,r3⟩
def wV(hc:X.calm=true):fQ X (.builtin "max") (λxs H Q=>∃i j,xs= @GN/\Q (.int (if j>i then j else i)) H):=by
 intro pins s σ H xs us Q I r h
 obtain⟨i,j,rfl,q⟩:=h
 obtain⟨u,w',rfl,⟨t,rfl⟩,⟨t',rfl⟩⟩:=@W3
 refine max_two_ints (@DV) λh' tk k=>⟨_,H,I.kept k,?_,q⟩
 by_cases hj:j>i
 ·rw[Uz hj,Uz hj];exact @BS
 ·rw[UJ hj,UJ hj];exact @BS
def wR(hc:X.calm=true):fQ X @JS (λxs H Q=>∃i j,xs= @GN/\Q (.int (if j<i then j else i)) H):=by
 intro pins s σ H xs us Q I r h
 obtain⟨i,j,rfl,q⟩:=h
 obtain⟨u,w',rfl,⟨t,rfl⟩,⟨t',rfl⟩⟩:=@W3
 refine min_two_ints (@DV) λh' tk k=>⟨_,H,I.kept k,?_,q⟩
 by_cases hj:j<i
 ·rw[Uz hj,Uz hj];exact @BS
 ·rw[UJ hj,UJ hj];exact @BS
def QF(K:Frag)(x:V)(H:Hp)(n:Nat):Prop:=
 match x with
 | .str y=>y.length<=sizeLine/\n=y.length
 | .byt y=>y.size<=sizeLine/\n=y.size
 | .ref p=>(∃xs,@KK/\n=xs.length)\/∃xs,@PF/\n=xs.length
 |_=>False
theorem cc:fQ X (.builtin "len") (λxs H Q=>∃x n,xs= [x]/\QF X.K x H n/\Q @z H):=by
 intro pins s σ H xs us Q I r h
 obtain⟨x,n,rfl,e,q⟩:=h
 obtain⟨u,rfl,rx⟩:=@Nz
 have hl:=rH
 have hs:sizeLine=16777216:=Vi
 cases x with
 |str y=>
  obtain⟨t,rfl⟩:=rx
  obtain⟨hy,e'⟩:y.length<=sizeLine/\n=y.length:=e
  subst e'
  exact len_str (@B) @Vp
 |byt y=>
  obtain⟨t,rfl⟩:=rx
  obtain⟨hy,e'⟩:y.size<=sizeLine/\n=y.size:=e
  subst e'
  exact PySem.W.len_bytes (@B) @Vp
 |ref p=>
  cases rx
  have e':(∃xs,jy X.K H p xs/\n=xs.length)\/∃xs,@Wo/\n=xs.length:=e
  rcases e' with⟨xs,hx,e'⟩|⟨xs,hx,e'⟩
  ·subst e'
   obtain⟨its,r',pl,hz⟩:=I.list hx
   have hlen:=r'.length
   exact Calls.call_len_list pl.isList (by simp only[UM];omega) ⟨.int xs.length,H,@HT,⟨_,by simp only[UM];rw[hlen]⟩,q⟩
  ·subst e'
   obtain⟨its,r',pl,hz⟩:=I.tuple hx
   have hlen:=r'.length
   exact len_tuple pl (by simp only[UM];omega) ⟨.int xs.length,H,@HT,⟨_,by simp only[UM];rw[hlen]⟩,q⟩
 |_=>exact(show False from e).elim
def zA:fQ X (.builtin "divmod") (λxs H Q=>∃i j,xs= @GN/\Kh i j/\∀p,H p=none->Q @E7 (upd H p (.tup [.int (i/j),.int (i%j)]))):=by
 intro pins s σ H xs us Q I r h
 obtain⟨i,j,rfl,⟨h1,h2⟩,q⟩:=h
 obtain⟨u,w',rfl,⟨t,rfl⟩,⟨t',rfl⟩⟩:=@W3
 refine divmod_int (@B) ?_ @G0
 rw[Int.fdiv_eq_ediv_of_nonneg i (@B),Int.fmod_eq_emod_of_nonneg i (@B)]
 have hn:@H5=none:=@Bf
 refine⟨@AN,_,?_,rfl,q _ hn⟩
 refine I.laid (λb o e=>Ux _ e) (UC _) ⟨by simp only[UY,Wo];rw[Vi];decide,[.int (i/j) s.toks,.int (i%j) (s.toks+1)],.cons @BS (.cons @BS .nil),?_⟩
 exact⟨_,UR s.heap rfl,rfl,0,rfl,rfl⟩
end
structure Nz(h:Heap)(x dx C:Addr)(mA:@R):Prop where
 obj:h.get? x=some @Mk
 ns:h.Ns1 dx mA
 ne:dx≠x
def Et{h:Heap}{dx:Addr}{mA:@R}(n:h.Ns1 dx mA):∃od,h.get? dx=some od/\∀name,@XO=some (mA name):=by
 obtain⟨o,es,ep,ho,hd,hk,_,hm⟩:=n
 refine⟨o,ho,λname=>?_⟩
 have e:=hm name
 unfold nsFind findBy at e
 rw[<-Array.find?_toList]at e
 unfold PySem.W.lookIn
 rw[hd]
 dsimp only
 split
 ·rename_i y q
  rw[q]at e
  exact congrArg some e
 ·rename_i q
  rw[q]at e
  have a:es.toList.any (·.refKey)=false:=by
   rw[List.any_eq_false]
   intro y hy
   obtain⟨z,t,hkey⟩:=hk y (Array.mem_toList_iff.mp hy)
   simp[DictEntry.refKey,hkey]
  have a':¬es.toList.any (·.refKey)=true:=by rw[a];exact UQ
  rw[UJ a']
  exact congrArg some e
def Nz.look{h:Heap}{x dx C:Addr}{mA:@R}(I:Nz h x dx C mA):∃od,PySem.W.InstAt h x @Mk C (some od)/\∀name,@XO=some (mA name):=
 let⟨od,ho,hl⟩:=Et I.ns
 ⟨od,⟨I.obj,rfl,rfl,ho⟩,hl⟩
section
variable {P:Program}{w:World}{H H':Hp}{h h':Heap}{a C dx:Addr}{fs fs':List (Str×V)}
def Km(hok:@Fk)(e:H a=some @Ut):∃mA,Nz h a dx C mA/\(∀f,@MG)/\PySem.Within mA (fs.map (·.1))/\fs.length<=1000/\H dx=@MP:=by
 obtain⟨d,z,ne,ob,mA,n,r,q⟩:=(show cW P w H h a @Ut from hok a _ e)
 exact⟨mA,⟨ob,n,ne⟩,r,q,z,d⟩
end
structure TN(K:Frag)(C:Addr):Prop where
 pg:PySem.W.plainGet K C Str.empty=true
 hd:PySem.W.hasDictIn K C=true
 po:PySem.W.plainOver K C=true
 sa:PySem.W.findIn K @N2 "__setattr__"=some (some (.builtin "object.__setattr__"))
def TN.get{K:Frag}{C:Addr}(c:TN K C)(f:Str):PySem.W.plainGet K C f=true:=c.pg
section
variable {X:Cx}{pins:@K}{σ:St}{H:Hp}{s:Shared}{A:Around}{E:@L}{Q:@L}{c:Value}{b:Bool}
inductive sF(K:Frag)(H:Hp):V->Value->Prop where
 |non:sF K H .non (.type "NoneType")
 |bl (x:Bool):sF K H (.bl x) (.type "bool")
 |int (i:Int):sF K H @AJ (.type "int")
 |str (x:Str):sF K H @Hr (.type "str")
 |flt (x:UInt64):sF K H (.flt x) (.type "float")
 |lst {a:Addr} {xs:List V} (e:H a=@BI):sF K H @BU (@BV)
 |bj {a:Addr} {o:Obj} {xs:List V} (e:H a=some (.bj o @JQ)):sF K H @BU (@BV)
 |tup {a:Addr} {xs:List V} (e:H a=@EP):sF K H @BU (@CA)
 |dK {a:Addr} {kvs:List (Key×V)} (e:H a=@Fl):sF K H @BU (@JF)
 |dT {a:Addr} {kvs:List (@Nh ×V)} {ep:Nat} (e:H a=@Lt):sF K H @BU (@JF)
 |ins {a C dx:Addr} {fs:List (Str×V)} (e:H a=some @Ut) (cl:TN K C) (ha:PySem.W.findIn K @N2 "__class__"=some (some (.builtin "object.__class__")))
   (hn:PySem.W.specialIn K (.builtin "object.__class__") "__get__"=some (some (.builtin "getset_descriptor.__get__"))) (htk:PySem.W.takesIn K (.builtin "object.__class__")=@C1)
   (hm:PySem.W.mroIn K C @JV=@C1):sF K H @BU @N2
theorem lS{x:V}{u t:Value}(I:@D)(rx:@Iu)(ty:sF X.K H x t)(e:PySem.W.kitOne X.K t c=some b)(h:∀tk,Q @LJ {s with toks:=tk}) :
  wpAny @N A (call @Hp [u,c]) Q E s:=by
 cases ty with
 |non=>cases(show u=Value.none from rx);exact Vv PySem.W.kitx_none I.kIn True.intro e (λz=>nomatch z) h
 |bl y=>cases(show u=Value.bool y from rx);exact Vv PySem.W.kitx_bool I.kIn True.intro e (λz=>nomatch z) h
 |int i=>obtain⟨t,q⟩:=(show ∃t,u=@P5 from rx);cases q;exact Vv PySem.W.kitx_int I.kIn True.intro e (λz=>nomatch z) h
 |str y=>obtain⟨t,q⟩:=(show ∃t,u=Value.str y t from rx);cases q;exact Vv PySem.W.kitx_str I.kIn True.intro e (λz=>nomatch z) h
 |flt y=>obtain⟨t,q⟩:=(show ∃t,u=Value.float y t from rx);cases q;exact Vv PySem.W.kitx_float I.kIn True.intro e (λz=>nomatch z) h
 | @lst a xs ea=>
  cases(show u=@Ik from rx)
  obtain⟨_,_,n,_,h1⟩:=(show cW X.prog X.w H s.heap a @JQ from @Nc)
  exact Vv PySem.W.kitx_list I.kIn ⟨_,h1,rfl⟩ e (λz=>nomatch z) h
 | @bj a ob xs ea=>
  cases(show u=@Ik from rx)
  obtain⟨_,_,_,n,_,h1⟩:=(show cW X.prog X.w H s.heap a (.bj ob @JQ)from @Nc)
  exact Vv PySem.W.kitx_list I.kIn ⟨_,h1,rfl⟩ e (λz=>nomatch z) h
 | @tup a xs ea=>
  cases(show u=@Ik from rx)
  obtain⟨_,_,_,p⟩:=(show cW X.prog X.w H s.heap a @QM from @Nc)
  obtain⟨o,h1,h2,_⟩:=p
  exact Vv PySem.W.kitx_tuple I.kIn @W6 e (λz=>nomatch z) h
 | @dK a kvs ea=>
  cases(show u=@Ik from rx)
  obtain⟨_,_,vs,_,p⟩:=(show cW X.prog X.w H s.heap a (.dK kvs)from @Nc)
  obtain⟨o,es,ep,h1,h2,_⟩:=p
  exact Vv PySem.W.kitx_dict I.kIn ⟨o,h1,h2.1⟩ e (λz=>nomatch z) h
 | @dT a kvs ep ea=>
  cases(show u=@Ik from rx)
  obtain⟨_,_,xs,_,o,es,h1,h2,_⟩:=(show cW X.prog X.w H s.heap a (.dT kvs ep)from @Nc)
  exact Vv PySem.W.kitx_dict I.kIn ⟨o,h1,h2.1⟩ e (λz=>nomatch z) h
 | @ins a C dx fs ea cl ha hn htk hm=>
  cases(show u=@Ik from rx)
  obtain⟨mA,O,_⟩:=Km I.hok ea
  obtain⟨od,J,_⟩:=O.look
  exact Vv (PySem.W.kitx_own (cl.get _) cl.hd ha hn htk hm) I.kIn J e (λz=>nomatch z) h
end
structure fo(k:Nat)(A:Around):Prop where
 hd:A.handled=none
 dp:A.depth+3*k+5<recursionLimit
 un:A.units+16*k+200<cLine
 gd:A.guards=some []
def fo.mono{j k:Nat}{A:Around}(r:fo k A)(h:j<=k):fo j A:=⟨r.hd,by have:=r.dp;omega,by have:=r.un;omega,r.gd⟩
def fo.deeper{k:Nat}{A:Around}(r:fo (k+1) A)(env:Env):fo k (A.deeper env):=
 ⟨r.hd,by have:=r.dp;show A.depth+1+3*k+5<_;omega,by have:=r.un;show A.units+3+16*k+200<_;omega,r.gd⟩
def fo.in1{k:Nat}{A:Around}(r:fo (k+1) A):fo k A.in1:=
 ⟨r.hd,by have:=r.dp;show A.depth+3*k+5<_;omega,by have:=r.un;show A.units+1+16*k+200<_;omega,r.gd⟩
def fo.depth{k:Nat}{A:Around}(r:fo k A):A.depth<recursionLimit:=by have:=r.dp;omega
def fo.units{k:Nat}{A:Around}(r:fo k A):A.units+64<cLine:=by have:=r.un;omega
def JM:TA:=λ_ H Q=>Q [] H
def Ds(ta:TE)(tr:TA):TA:=λσ H Q=>ta σ H λx H1=>tr σ H1 λxs H2=>Q (x::xs) H2
section
variable {X:Cx}{e:Expr}{es:@Ac}{te:TE}{t:TA}{pos:Pos}
def aZ:PA X [] JM:=λ_ _ _ _ H Q I h=>Calls.spliced_nil @PK
def aw(ha:@LZ)(hr:@YM)(hs:starEach (e::es) X.env=(false,@DE)::@AA:=by rfl):PA X (e::es) (Ds te t):=by
 intro pos pins s σ H Q I h
 rw[hs]
 show wpAny _ _ (spliced ((false,@DE)::@C3)) _ _ s
 refine Calls.spliced_cons (cK @Av λu s1 ⟨x,H1,I1,r1,q1⟩=>?_)
 exact cK @RN λus s2 ⟨xs,H2,I2,r2,q2⟩=>⟨x::xs,H2,I2,.cons r1 r2,q2⟩
def S0(t:TA):TE:=λσ H Q=>t σ H λxs H1=>xs.length<=sizeLine/\∀p,H1 p=none->Q @E7 (upd H1 p @QM)
def S7(t:TA):TE:=λσ H Q=>t σ H λxs H1=>xs.length<=sizeLine/\∀p,H1 p=none->Q @E7 (upd H1 p @JQ)
def Bc{x1}(h:@YM):PE X (.Tuple es x1 pos) (S0 t):=by
 intro pins s σ H Q I hq
 refine wpAny_Tuple_spliced (cK @Tx λus s1 ⟨xs,H1,I1,r,z,q⟩=>⟨by rw[<-r.length];exact z,?_⟩)
 have hf:H1 s1.heap.objs.size=none:=@HU
 refine⟨@Mr,upd H1 s1.heap.objs.size @QM,I1.laid (t':=s1.toks) (λb u e=>Ux _ e) (UC _) ?_,rfl,q _ hf⟩
 exact⟨z,us,r,@T_ ⟩
def rL(h:@YM):PE X @UD (S7 t):=by
 intro pins s σ H Q I hq
 refine wpAny_List_spliced (cK @Tx λus s1 ⟨xs,H1,I1,r,z,q⟩=>⟨by rw[<-r.length];exact z,?_⟩)
 have hf:H1 s1.heap.objs.size=none:=@HU
 refine⟨@Mr,upd H1 s1.heap.objs.size @JQ,I1.laid (t':=s1.toks) (λb u e=>Ux _ e) (UC _) ?_,rfl,q _ hf⟩
 exact⟨z,us,0,r,@Gq ⟩
end
abbrev Sp:=List V->Hp->VK->XK->Prop
abbrev yp:=@Cf->Hp->Shared->XK->@L
structure uD(P:Program)(w:World)(K:Frag)(mg:@R)(base:Heap)(A:Around)(outer:@Cf)(s:Shared)(H:Hp):Prop where
 frames:A.frames=some outer
 mod:Mod K mg base
 bs:∀b o,base.get? b=some o->s.heap.get? b=some o/\H b=none
 bsz:base.objs.size<=s.heap.objs.size
 funs:s.heap.FunFrames base outer
 frf:∀b∈@Wp,H b=none
 hok:nr P w H s.heap
 bare:AllBare s.gens
def CE(outer:@Cf)(P:Program)(w:World)(H:Hp)(s:Shared)(Q:VK)(u:Value)(s':Shared):Prop:=
 ∃v H',s'.os=s.os/\@H2/\@Oj/\nr P w H' s'.heap/\@Fw/\Q v H'
def CR(CX:yp)(outer:@Cf)(P:Program)(w:World)(H:Hp)(s:Shared)(Q:VK)(E:XK)(r:Result)(s':Shared):Prop:=
 match r with
 | .ok (.ret u)=>@H3
 | .ok _=>False
 | .error e=>CX outer H s E e s'
structure gM(P:Program)(w:World)(K:Frag)(mg:@R)(base:Heap)(CX:yp)(k:Nat)(f:Addr)(fd:FuncData)(ps:@a)(sp:Sp):Prop where
 len:∀vs H Q E,@Dm->vs.length=ps.length
 run:∀(A:Around) (outer:@Cf) (s:Shared) (H:Hp) (args:Args) (us:@e) (vs:List V) (Q:VK) (E:XK),fo k A->@DI->@Na->@Jt->@Dm->
  @Ck
def gM.mono{P:Program}{w:World}{K:Frag}{mg:@R}{base:Heap}{CX:yp}{j k:Nat}{f:Addr}{fd:FuncData}{ps:@a}{sp:Sp}(F:gM P w K mg base CX j f fd ps sp)(h:j<=k) :
  @QT:=⟨F.len,λA outer s H args us vs Q E hr=>F.run A outer s H args us vs Q E (hr.mono h)⟩
def gM.imp{P:Program}{w:World}{K:Frag}{mg:@R}{base:Heap}{CX:yp}{k:Nat}{f:Addr}{fd:FuncData}{ps:@a}{sp sp':Sp}(F:@QT)
  (h:∀vs H Q E,sp' vs H Q E->@Dm):gM P w K mg base CX k f fd ps sp':=
 ⟨λvs H Q E q=>F.len vs H Q E (h _ _ _ _ q),λA outer s H args us vs Q E hr he hb hv hs=>F.run A outer s H args us vs Q E hr he hb hv (h _ _ _ _ hs)⟩
def uD.in1{P:Program}{w:World}{K:Frag}{mg:@R}{base:Heap}{A:Around}{outer:@Cf}{s:Shared}{H:Hp}(e:@DI) :
  uD P w K mg base A.in1 outer s H:=⟨e.frames,e.mod,e.bs,e.bsz,e.funs,e.frf,e.hok,e.bare⟩
section
variable {X:Cx}{pins:@K}{σ:St}{H:Hp}{s s':Shared}
def Inv.env0(I:@D):uD X.prog X.w X.K X.mg X.base X.A X.stack s H:=
 ⟨I.ok.frames,I.ok.mod,I.bs,@R2,I.stack,I.stkFree,I.hok,I.bare⟩
def Inv.after{Q:VK}{u:Value}(I:@D)(h:CE X.stack X.prog X.w H s Q u s'):EP X pins σ Q u s':=by
 obtain⟨v,H',os,bare,un,hok,r,q⟩:=h
 obtain⟨hh,g,d,t,os'⟩:=s'
 obtain rfl:os'=s.os:=os
 exact⟨v,H',I.call (h':=hh) (g':=g) (d':=d) (t':=t) (ch:=[]) un hok bare (λb z=>absurd z @W),r,q⟩
end
def Gz(sp:Sp)(dvs:List V)(E:XK)(t:TA):TE:=λσ H Q=>t σ H λvs H1=>sp (vs++dvs) H1 Q E
def Binds(K:Frag)(fd:FuncData)(ps:@a)(ds:@e):Prop:=
 ∀(s:Shared) (us:@e),@HV->(us++ds).length=ps.length->BindsTo s fd @KO (ps.zip (us++ds))
def Binds.all{K:Frag}{fd:FuncData}{ps:@a}(h:∀us:@e,us.length=ps.length->bindArgs fd @KO=pure @GB):@HG:=λs us _ hl=>by
 rw[VY]at hl ⊢
 exact .of_eq (h us hl)
def Passes(CX:yp)(X:Cx)(E:XK):Prop:=∀(pins:@K) (σ:St) (H:Hp) (s:Shared) (e:Value) (s':Shared),@D->CX X.stack H s E e s'->X.xe e s'
section
variable {X:Cx}{CX:yp}{k:Nat}{f C:Addr}{fd:FuncData}{ps:@a}{sp:Sp}{dvs:List V}{ds:@e}{E:XK}{x m:Str}{p pos apos:Pos}{e o:Expr}{es:@Ac}{ta:TE}{t:TA}
theorem NZ{pins:@K}{σ:St}{H:Hp}{s:Shared}{Q:VK}{us:@e}{vs:List V}(F:@Lm)(hr:@SY)(hb:@Kh)(hd:@TP)(hx:@Px)
  (I:@D) (r:@Jt) (h:sp (vs++dvs) H Q E):wpAny @N X.A (call (.ref f) us) @BE X.xe s:=by
 have r2:Vals (vs++dvs) (us++ds):=r.append hd
 have hl:(us++ds).length=ps.length:=by rw[<-r2.length];exact F.len _ _ _ _ h
 refine wpAny_call (Wz (F.run X.A X.stack s H @KO (us++ds) (vs++dvs) Q E hr I.env0 (hb s us I.kIn hl) r2 h) λr s' hq=>?_)
 cases r with
 |error e=>exact hx pins σ H s e s' I hq
 |ok fl=>
  cases fl with
  |ret u=>exact I.after hq
  |next=>exact @FZ
  |brk=>exact @FZ
  |cont=>exact @FZ
def pV(F:@Lm)(hr:@SY)(hg:Gl X x)(hm:X.mg x=@Fc)(hk:@KF=true)(hb:@Kh)(hd:@TP)(hx:@Px)
  (ha:PA X (e::es) t) (hdb:@T:=by decide) (he:starEach (e::es) X.env=(false,@DE)::@AA:=by rfl) (hpl:(@C3).any (·.1)=false:=by rfl) :
  PE X (.Call @EX (e::es) [] pos) (Gz sp dvs E t):=by
 intro pins s σ H Q I h
 refine Wk (oH I hg hm ?_ hdb)
 refine PySem.W.callWith_K (h₀:=X.base) I.ok.mod.kin hk (cK @A7 λus s1 ⟨vs,H1,I1,r,q⟩=>⟨I1.kIn,?_⟩) he hpl
 exact NZ F hr hb hd hx I1 r q
end
def PK(X:Cx)(kws:@Cp)(t:TA):Prop:=
 ∀(pos:Pos) (pins:@K) (s:Shared) (σ:St) (H:Hp) (Q:List V->Hp->Prop),@D->@IH->wpAny @N X.A (evalAll ((@Ol).map (·.2))) (AP X pins σ Q) X.xe s
section
variable {X:Cx}{CX:yp}{k:Nat}{f C:Addr}{fd:FuncData}{ps ks:@a}{sp:Sp}{E:XK}{x m:Str}{p pos apos kpos:Pos}{e o:Expr}{es:@Ac}{kws:@Cp}{te ta:TE}{t tk:TA}{nm:Option Str}
def Nh:PK X [] JM:=λ_ _ _ _ H Q I h=>wpAny_evalAll_nil @PK
def JP(ha:@LZ)(hr:PK X kws t):PK X (⟨nm,e,kpos⟩::kws) (Ds te t):=by
 intro pos pins s σ H Q I h
 show wpAny _ _ (evalAll ((do let v <-@DE;standAt pos;pure v)::(@Ol).map (·.2))) _ _ s
 refine wpAny_evalAll_cons (UA (cK @Av λu s1 ⟨x,H1,I1,r1,q1⟩=>UA (wpAny_standAt (U3 ?_))))
 exact cK @RN λus s2 ⟨xs,H2,I2,r2,q2⟩=>⟨x::xs,H2,I2,.cons r1 r2,q2⟩
variable {g:@e->@e->@e}{gV:List V->List V->List V}
end
structure aH(N P:@a)(sc:Scope):Prop where
 kind:sc.kind=@JB
 co:sc.isCoroutine=false
 gen:sc.isGenerator=false
 nd:N.Nodup
 pre:N.take P.length=P
 par:∀x∈P,@Dl=@Ae\/@Dl=@B8
 nofree:∀y∈sc.names,y.2≠.free
theorem xm{kindOf:Str->@Nj}{x:Str}:∀{binds:List (Str×Value)} {m:@R},(∀v,(x,v)∉binds)->bindL kindOf binds m x=m x
 | [],_,_=>rfl
 | (n,v)::r,m,h=>by
  unfold bindL
  rw[xm λw hw=>h w (UI _ hw)]
  split
  ·have:x≠n:=by rintro rfl;exact h v UG
   simp[this]
  ·rfl
theorem xf{kindOf:Str->@Nj}{x:Str}:∀{binds:List (Str×Value)} {m:@R},(∀v,(x,v)∉binds)->bindC kindOf binds m x=m x
 | [],_,_=>rfl
 | (n,v)::r,m,h=>by
  unfold bindC
  rw[xf λw hw=>h w (UI _ hw)]
  split
  ·rfl
  ·have:x≠n:=by rintro rfl;exact h v UG
   simp[this]
theorem wI{kindOf:Str->@Nj}{x:Str}{v:Value}:∀{P:@a} {vs:@e} {i:Nat} {m:@R},P.Nodup->P[i]? =some x->vs[i]? =some v->kindOf x=@Ae->
  bindL kindOf (@SO) m x=some v
 | [],_,_,_,_,h,_,_=>by simp at h
 |_::_,[],_,_,_,_,h,_=>by simp at h
 |p::P,w::vs,0,m,nd,h1,h2,hk=>by
  simp at h1 h2;subst h1;subst h2
  show bindL kindOf ((p,w)::@SO) m p=_
  unfold bindL
  rw[xm λv hv=>(@SS).1 (W5 hv).1,Uz hk]
  simp
 |p::P,w::vs,i+1,m,nd,h1,h2,hk=>by
  show bindL kindOf ((p,w)::@SO) m x=_
  unfold bindL
  exact wI (i:=i) (@SS).2 (by simpa using h1) (by simpa using h2) hk
theorem xl{kindOf:Str->@Nj}{x:Str}{v:Value}:∀{P:@a} {vs:@e} {i:Nat} {m:@R},P.Nodup->P[i]? =some x->vs[i]? =some v->kindOf x≠@Ae->
  bindC kindOf (@SO) m x=some v
 | [],_,_,_,_,h,_,_=>by simp at h
 |_::_,[],_,_,_,_,h,_=>by simp at h
 |p::P,w::vs,0,m,nd,h1,h2,hk=>by
  simp at h1 h2;subst h1;subst h2
  show bindC kindOf ((p,w)::@SO) m p=_
  unfold bindC
  rw[xf λv hv=>(@SS).1 (W5 hv).1,UJ hk]
  simp
 |p::P,w::vs,i+1,m,nd,h1,h2,hk=>by
  show bindC kindOf ((p,w)::@SO) m x=_
  unfold bindC
  exact xl (i:=i) (@SS).2 (by simpa using h1) (by simpa using h2) hk
def start(N:@a)(vs:List V):St:=vs.map some++List.replicate (N.length-vs.length) none
def l7(CX:yp)(P:Program)(w:World)(K:Frag)(mg:@R)(base:Heap)(N:@a)(qual:Str)(scope:Scope)(f:Addr)(cd:Value)(A:Around)(outer:@Cf)(s:Shared)(H:Hp)(E:XK):Cx where
 prog:=P
 w:=w
 K:=K
 mg:=mg
 base:=base
 A:=A.deeper (@Ad)
 N:=N
 s₀:=s
 H₀:=H
 env:=@Ad
 outer:=outer
 stack:=@Ad::outer
 ex:=[]
 calm:=true
 fn:=λ_=>true
 pn:=[]
 xe:=λe s'=>wpAny @FV (A.deeper (@Ad)) (leaving (@Ad) e) (λ_ s''=>CX outer H s E e s'') (λe' s''=>CX outer H s E e' s'') s'
def zl{sc:Scope}{n:Nat}{x:Str}(h:@Dl=@B8):∃c,(cellsFrom n sc.names []).lookup x=some c:=by
 have q:=Wi sc.names n [] (.inl h)
 exact Wa.mp q
def wX{CX:yp}{P:Program}{w:World}{K:Frag}{mg:@R}{base:Heap}{N ps:@a}{qual:Str}{scope:Scope}{f:Addr}{cd:Value}{A:Around}{outer:@Cf}{s s1:Shared}{H:Hp}{E:XK}{us:@e}{vs:List V}
  (S:@Wd) (hd:A.handled=none) (e0:@DI) (hl:vs.length=ps.length) (r:@Jt)
  (x:InCallC s s.heap.objs.size (bindL (@Ad).kindOf @GB λ_=>none) (cellsFrom (s.heap.objs.size+1) scope.names []) (bindC (@Ad).kindOf @GB λ_=>none) s1) :
  Inv (@Ed) [] @C9 H s1:=by
 have hpl:ps.length<=N.length:=by have:=@Gs;rw[VA]at this;omega
 obtain⟨h1,tk,rfl,hk⟩:=x.done
 have noA:∀b:Addr,b∉(@Ed).ex:=λb z=>absurd (show b∈([]:@Ao)from z) @W
 refine⟨⟨e0.mod,S.kind,rfl,rfl,UC _,λy z c h1 h2=>?_,λy hy=>?_,λy c _ h=>?_,λ_=>hd,@RT,.inr @IO,λb z=>absurd z (noA b),e0.bs,e0.bsz,λb _ _=>noA b,λb z=>absurd z (noA b),e0.funs,e0.frf⟩,
  rfl,e0.bare,Un.kept hk,⟨_,x.toInCall.ns,λi y v h1 h2 h3=>?_⟩,λy c h=>⟨_,x.cell y c h⟩,e0.hok.fresh (UC _),λy c h=>?_,λp hp=>absurd (show p∈([]:@K)from hp) @W,e0.hok.kept hk,?_⟩
 ·exact name_of_addr x.apart (Vt h1) (Vt h2)
 ·have hy:@EC=@B8\/@EC=@Hj:=hy
  rcases hy with hy|hy
  ·exact zl hy
  ·exact absurd rfl (S.nofree _ (Vt hy))
 ·exact @WY
 ·have hi:i<vs.length:=by
   unfold start at h2
   by_cases hi:i<vs.length
   ·exact hi
   ·rw[U9 (by simpa using hi)]at h2
    rw[VJ]at h2
    split at h2<;>cases h2
  have ha:vs[i]? =some v:=by
   unfold start at h2
   rw[U6 (by simpa using hi),UN]at h2
   cases e:vs[i]? with
   |none=>rw[e]at h2;cases h2
   |some a=>rw[e]at h2;cases h2;rfl
  obtain⟨u,hu,rv⟩:=r.get ha
  have hp:ps[i]? =some y:=by
   rw[<-S.pre,List.getElem?_take_of_lt (@B)];exact h1
  have ndP:ps.Nodup:=by rw[<-S.pre];exact S.nd.sublist (List.take_sublist _ _)
  refine⟨u,rv,?_⟩
  rcases S.par y (U1 hp)with k|k
  ·exact .inl ⟨k,wI ndP hp hu k⟩
  ·obtain⟨c,e⟩:=zl (n:=s.heap.objs.size+1) k
   refine .inr ⟨.inl k,c,e,?_⟩
   have q:=x.cell y c e
   rw[xl ndP hp hu (by show @EC ≠_;rw[k];decide)]at q
   exact q
 ·exact e0.hok.fresh (@WY)
 ·unfold start
  show _=N.length
  rw[UL,Uw,Vs]
  omega
theorem HL{CX:yp}{P:Program}{w:World}{K:Frag}{mg:@R}{base:Heap}{k:Nat}{f:Addr}{name qual:Str}{params:Arguments}{body:@Dx}{scope:Scope}{dV kV doc pm cdv ct oc:Value}{an od:@i}
  {osl:@Ib} {N ps:@a} {sp:Sp} (lk:@Qw=some ⟨oc,od,.func @Hk,osl⟩) (hcd:@K8=true) (S:@Wd)
  (len:∀vs H Q E,@Dm->vs.length=ps.length)
  (hbody:∀(A:Around) (outer:@Cf) (s:Shared) (H:Hp) (vs:List V) (Q:VK) (E:XK),fo k (A.deeper (envOfC qual scope s.heap.objs.size f cdv))->@Dm->
   ∃t,rq @D_ body t/\t {nx:=λ_ H'=>@Pz,rt:=Q} @C9 H) :
  gM P w K mg base CX (k+1) f @Hk ps sp:=by
 refine⟨len,λA outer s H args us vs Q E hr e0 hb r hsp=>?_⟩
 have hl:=len _ _ _ _ hsp
 have KX:@HV:=e0.mod.kin.keeps λb o e=>(@MM).1
 have lim:s.heap.NoLimit:=e0.mod.nolimit.keeps λb o e=>(@MM).1
 have hkind:∀y∈ps.zip us,scope.names.lookup y.1=@Ae\/(scope.names.lookup y.1=@B8/\((cellsFrom (s.heap.objs.size+1) scope.names []).lookup y.1).isSome=true):=λ⟨n,v⟩ hy=>by
  rcases S.par n (W5 hy).1 with q|q
  ·exact .inl q
  ·exact @JC
 refine codeAny_call_function hr.depth (KX _ _ lk) rfl S.co S.gen rfl @J2 (hb _ _ _ _ ?_)
 refine WZ S.kind hkind λenv he s1 x=>?_
 subst he
 refine⟨@LD,codeAny_func ?_⟩
 obtain⟨t,ht,hq⟩:=hbody A outer s H vs Q E @V_ hsp
 have I:Inv @D_ [] @C9 H s1:=wX S hr.hd e0 hl r x
 refine Vx (ht [] s1 @C9 H _ I hq) (λfl s' hs=>?_) λe s' hs=>hs
 have fin:∀{σ':St} {H':Hp} {v:V} {u:Value},Inv @D_ [] σ' H' s'->@Fw->Q v H'->@H3:=
  λ{σ' H' v u} J rv q=>@F4
 cases fl with
 |ret u=>
  obtain⟨v,σ',H',J,rv,q⟩:=hs
  exact fin J rv q
 |next=>
  obtain⟨σ',H',J,q⟩:=hs
  exact fin (v:=V.non) (u:=Value.none) J rfl q
 |brk=>
  obtain⟨_,_,_,q⟩:=hs
  exact @Kj
 |cont=>
  obtain⟨_,_,_,q⟩:=hs
  exact @Kj
section
variable {X:Cx}{x:Str}{p pos:Pos}{e:Expr}{es:@Ac}{t:TA}{id T:String}{r:List V->Hp->VK->Prop}
def T1(r:List V->Hp->VK->Prop)(t:TA):TE:=λσ H Q=>t σ H λvs H1=>r vs H1 Q
def bN(hc:fQ X @EE r)(hg:Gl X x)(hm:X.mg x=none)(hv:@E0=some @EE)(ha:PA X (e::es) t)(hn:x≠"__name__":=by decide)(hdb:@T:=by decide)
  (he:starEach (e::es) X.env=(false,@DE)::@AA:=by rfl) (hpl:(@C3).any (·.1)=false:=by rfl):PE X (.Call @EX (e::es) [] pos) (T1 r t):=by
 intro pins s σ H Q I h
 refine Wk (lq I hg hm hv ?_ hn hdb)
 exact PyProof.Rows.callWith_builtin1 (cK @A7 λus s1 ⟨vs,H1,I1,r1,q1⟩=>@P_) he hpl
def lG(hc:fQ X @J1 r)(hg:Gl X x)(hm:X.mg x=none)(hv:@E0=some @J1)(ha:PA X (e::es) t)(hn:x≠"__name__":=by decide)(hdb:@T:=by decide)
  (he:starEach (e::es) X.env=(false,@DE)::@AA:=by rfl) (hpl:(@C3).any (·.1)=false:=by rfl):PE X (.Call @EX (e::es) [] pos) (T1 r t):=by
 intro pins s σ H Q I h
 refine Wk (lq I hg hm hv ?_ hn hdb)
 exact VH (cK @A7 λus s1 ⟨vs,H1,I1,r1,q1⟩=>@P_) he hpl
end
end L2
namespace HT
open PySem PyProof.Rows
def lexLt:@E->@E->Bool
 | [],[]=>false
 | [],_::_=>true
 |_::_,[]=>false
 |x::xs,y::ys=>if x=y then @Td else decide (x<y)
def ub(x y:Int)(xs ys:@E):lexLt (x::xs) (y::ys)=if x=y then @Td else decide (x<y):=rfl
section
open PySem.SeqAt
open PySem.AutoSeq1 (wpAny_loadPart')
open PySem.MeetsSeq PySem.MeetsSeq2 PySem.MeetsSeq3
end
section
variable {prog:Program}{w:World}{A:Around}{E:@L}{s:Shared}
def LC{t b:Addr}{vs ws:@e}{Q:@L}(ht:IsTup s.heap t vs.toArray)(hb:IsTup s.heap b ws.toArray)(hv:vs≠ [])
  (h1:ws= []->Q @Vy s) (h2:ws≠ []->Q (@AN) {s with heap:=s.heap.push {cls:=@CA,data:=.seq (vs++ws).toArray}})
  (hsz:vs.length+ws.length<=sizeLine):wpAny @Ak A (binaryOp .Add @Vy (.ref b)) Q E s:=by
 obtain⟨⟨cls,dd,data,sl⟩,ho,hc,n,hd⟩:=id ht
 obtain⟨⟨cls2,dd2,data2,sl2⟩,ho2,hc2,n2,hd2⟩:=id hb
 simp only at hc hd hc2 hd2
 subst hc hd hc2 hd2
 have e:vs.toArray++ws.toArray=(vs++ws).toArray:=by simp
 by_cases hw:ws= []
 ·exact concat_meets @Ou @Tl noFill_tuple_add seq_tuple_add PySem.F.slot_tuple_add PySem.F.entry_tuple_add (W7 _ _)
   (tuple_addW1 t b vs.toArray ws.toArray n n2 dd dd2 sl sl2 (by simpa using hv) (by simp[hw])) ⟨ho,ho2,h1 hw⟩
 ·refine concat_meets @Ou @Tl noFill_tuple_add seq_tuple_add PySem.F.slot_tuple_add PySem.F.entry_tuple_add (W7 _ _)
   (tuple_addW2 t b vs.toArray ws.toArray n n2 dd dd2 sl sl2 (by simpa using hv) (by simpa using hw) (by rw[UM,UM];exact hsz)) ⟨ho,ho2,?_⟩
  rw[e]
  exact h2 hw
def xk(n d:Nat):@Bm->Nat
 |none=>d
 |some v=>if v<0 then(v+(n:Int)).toNat else min v.toNat n
def Ai(n d:Nat):xk n d none=d:=rfl
def CL(n d k:Nat):xk n d (some (k:Int))=min k n:=by
 show(if(k:Int)<0 then((k:Int)+(n:Int)).toNat else min (k:Int).toNat n)=min k n
 rw[UJ (@B),Vd]
end
end HT
namespace L2
open PySem PySem.Spec PyProof.Rows
abbrev TO:=St->Hp->(@Bm->Hp->Prop)->Prop
def PO(X:Cx)(e:@GL)(t:TO):Prop:=
 ∀(pins:@K) (s:Shared) (σ:St) (H:Hp) (Q:@Bm->Hp->Prop),@D->@IH->
  wpAny @N X.A (evalPart e X.env) (λu s'=>∃o H',@CB/\IsPart u o/\Q o H') X.xe s
def JQ:TO:=λ_ H Q=>Q none H
def Qf(t:TE):TO:=λσ H Q=>t σ H λx H1=>∃i,x=.int i/\Q (some i) H1
theorem intsAre_of{ns:@E}:∀{us:@e},Vals @B6 us->@WL:=by
 induction ns with
 |nil=>intro us r;rw[map_nil]at r;cases r;exact .nil
 |cons n ns ih=>
  intro us r
  rw[Vj]at r
  cases r with
  |cons r1 r2=>
   obtain⟨t,e⟩:=r1
   subst e
   exact .cons n t (ih r2)
section
variable {X:Cx}{e:Expr}{te:TE}{lo hi:@GL}{tl th:TO}{pos p2:Pos}
def Lz:PO X none JQ:=by
 intro pins s σ H Q I h
 rw[evalPart_none]
 exact U3 ⟨none,H,I,.none,h⟩
def Jn(h:@LZ):PO X (some e) (Qf te):=by
 intro pins s σ H Q I hw
 rw[evalPart_some]
 refine cK @Ml λu s1 ⟨x,H1,I1,r1,q1⟩=>?_
 obtain⟨i,rfl,q⟩:=q1
 obtain⟨t,rfl⟩:=r1
 exact⟨some i,H1,I1,@ON,q⟩
def T8(X:Cx)(r:V->@Bm->@Bm->Hp->VK->Prop):Prop:=
 ∀(pins:@K) (s:Shared) (σ:St) (H:Hp) (x:V) (v vl vu:Value) (lo hi:@Bm) (sl:Addr) (Q:VK),@D->@H8->s.heap.IsSliceOf sl vl vu .none->IsPart vl lo->IsPart vu hi->r x lo hi H Q->
  ∃T id,typeLookup @J1 "__getitem__"=pure (some @EE)/\s.TypeIs v T/\wpAny @N X.A (getItem v (.ref sl)) @BE X.xe s
def Uu(r:V->@Bm->@Bm->Hp->VK->Prop)(te:TE)(tl th:TO):TE:=λσ H Q=>te σ H λx H1=>tl σ H1 λl H2=>th σ H2 λu H3=>r x l u H3 Q
def Ga{r:V->@Bm->@Bm->Hp->VK->Prop}(hr:T8 X r)(he:@LZ)(hl:PO X lo tl)(hu:PO X hi th):PE X (.Subscript e @Mj pos) (Uu r te tl th):=by
 intro pins s σ H Q I h
 refine Subscript_ (cK @Fo λv s1 ⟨x,H1,I1,r1,q1⟩=>?_)
 refine wpAny_Slice (cK (hl pins s1 σ H1 _ I1 q1) λvl s2 ⟨l,H2,I2,pl,q2⟩=>cK (hu pins s2 σ H2 _ I2 q2) λvu s3 ⟨u,H3,I3,pu,q3⟩=>?_)
 rw[evalPart_none]
 refine U3 ?_
 have I4:Inv X pins σ H3 {s3 with heap:=s3.heap.push {cls:=@WH,data:=.fields #[vl,vu,.none]}}:=I3.kept (t':=s3.toks) λb ob q=>Ux _ q
 obtain⟨T,id,hT,ht,hg⟩:=hr pins {s3 with heap:=s3.heap.push {cls:=@WH,data:=.fields #[vl,vu,.none]}} σ H3 x v vl vu l u s3.heap.objs.size Q I4 r1 (Heap.IsSliceOf.new ..) pl pu q3
 show wpAny @N X.A (subscriptTail e @Mj v (@XH)) @BE X.xe {s3 with heap:=s3.heap.push {cls:=@WH,data:=.fields #[vl,vu,.none]}}
 exact tail_any (ops:=[@XH,v]) ht hT hg (by with_unfolding_all rfl)
def Bq(xs:List V)(lo hi:@Bm):List V:=(xs.drop (@E8)).take (@Ji-@E8)
def zR(xs:List V)(lo hi:@Bm):(@S8).length<=xs.length:=by
 unfold Bq
 rw[VA,WA]
 omega
def QR(K:Frag):R2:=λx y H Q=>∃a b xs ys,x=.ref a/\y=.ref b/\@Cl/\iO K H b ys/\xs≠ []/\xs.length+ys.length<=sizeLine/\
 (ys= []->Q @BU H)/\(ys≠ []->∀p,H p=none->Q @E7 (upd H p (.tup (xs++ys))))
theorem Vals.nil_iff{xs:List V}{us:@e}(r:@EU):us= []↔xs= []:=by
 cases r with
 |nil=>simp
 |cons _ _=>simp
def LB:nv X @J8 (QR X.K):=by
 intro pins s σ H x y v u Q I rx ry h
 obtain⟨a,b,xs,ys,rfl,rfl,ha,hb,hx,hz,q1,q2⟩:=h
 cases rx
 cases ry
 obtain⟨its,r1,p1,_⟩:=@VM
 obtain⟨its2,r2,p2,_⟩:=I.tuple hb
 refine HT.LC p1 p2 (λz=>hx (r1.nil_iff.mp z)) (λz=>⟨.ref a,H,I,rfl,q1 (r2.nil_iff.mp z)⟩) (λz=>?_) (by rw[<-r1.length,<-r2.length];exact hz)
 refine⟨@AN,_,I.laid (t':=s.toks) (o:=.tup (xs++ys)) (λb ob q=>Ux _ q) (UC _) ?_,rfl,q2 (λw=>z (r2.nil_iff.mpr w)) _ (@Bf)⟩
 exact⟨by rw[UL];exact hz,_,r1.append r2,@T_ ⟩
end
def vQ(n:Nat)(i:Int):@If:=if 0<=i then(if i<n then some i.toNat else none)else if -(n:Int)<=i then some (i+n).toNat else none
def ki{α:Type}(xs:@Bl)(i:Int):@Pw:=(vQ xs.length i).bind λj=>xs[j]?
def CB{n:Nat}{i:Int}{j:Nat}(h:vQ n i=some j):seqIndex? i n=some j/\j<n/\ -(n:Int)<=i/\i<n:=by
 unfold vQ at h
 by_cases h0:0<=i
 ·rw[Uz h0]at h
  by_cases h1:i<n
  ·rw[Uz h1]at h
   have e:i.toNat=j:=@It
   exact⟨by rw[seqIndex_of h0 h1,e],@B,@B,h1⟩
  ·rw[UJ h1]at h;cases h
 ·rw[UJ h0]at h
  by_cases h1: -(n:Int)<=i
  ·rw[Uz h1]at h
   have e:(i+n).toNat=j:=@It
   exact⟨by rw[seqIndex_neg (@B) h1,e],@B,h1,@B ⟩
  ·rw[UJ h1]at h;cases h
theorem yO{α:Type}{xs:@Bl}{i:Int}{v:α}(h:ki xs i=some v):∃j,seqIndex? i xs.length=some j/\xs[j]? =some v/\j<xs.length/\ -(xs.length:Int)<=i/\i<xs.length:=by
 unfold ki at h
 cases e:vQ xs.length i with
 |none=>rw[e]at h;cases h
 |some j=>
  rw[e]at h
  obtain⟨h1,h2,h3,h4⟩:=CB e
  exact⟨j,h1,h,h2,h3,h4⟩
def iH{α:Type}{xs:@Bl}{j:Nat}{v:α}(h:xs[j]? =some v):ki xs (j:Int)=some v:=by
 have hj:j<xs.length:=(Uy.mp h).1
 have e:vQ xs.length (j:Int)=some j:=by
  unfold vQ
  rw[Uz (@B),Uz (@B)];simp
 unfold ki;rw[e];exact h
def CG(b:Expr):Prop:=∀o i,subscripted b false o i=operate [o,i] (getItem o i)
def GD(X:Cx)(r:R2):Prop:=
 ∀(value slice:Expr) (pins:@K) (s:Shared) (σ:St) (H:Hp) (x y:V) (v u:Value) (Q:VK),@D->@H8->@P0->@Yp->
  subscripted slice false v u=operate [v,u] (getItem v u)->wpAny @N X.A (subscriptTail value slice v u) @BE X.xe s
def Um(X:Cx)(id:String)(r:V->List V->Hp->VK->Prop):Prop:=
 ∀(pins:@K) (s:Shared) (σ:St) (H:Hp) (x:V) (xs:List V) (v:Value) (us:@e) (Q:VK),@D->@H8->@EU->r x xs H Q->
  wpAny @N X.A (call @EE (v::us)) @BE X.xe s
section
variable {X:Cx}{a b:Expr}{ta tb:TE}{pos:Pos}
def GD.or{r r':R2}(h:GD X r)(h':GD X r'):GD X (λx y H Q=>@Yp\/r' x y H Q):=by
 intro value slice pins s σ H x y v u Q I rx ry q hs
 rcases q with q|q
 ·exact h value slice pins s σ H x y v u Q I rx ry q hs
 ·exact h' value slice pins s σ H x y v u Q I rx ry q hs
def pk{r:R2}(hr:GD X r)(ha:@FH)(hb:@LY)(hs:CG b):PE X (.Subscript a b pos) @RJ:=by
 intro pins s σ H Q I h
 exact Subscript_ (NT ha hb I h λv u s2 x y H2 I2 rx ry q=>hr a b pins s2 σ H2 x y v u Q I2 rx ry q (hs _ _))
def NK(K:Frag):R2:=λx y H Q=>∃p xs i v,x=.ref p/\y=.int i/\@KK/\ki xs i=some v/\Q v H
def Qj(K:Frag):R2:=λx y H Q=>∃p xs i v,x=.ref p/\y=.int i/\@PF/\ki xs i=some v/\Q v H
def PX:R2:=λx y H Q=>∃z i c,x=.str z/\y=.int i/\z.length<=sizeLine/\@RB=some c/\Q (.str ⟨#[c]⟩) H
def jS:GD X (NK X.K):=by
 intro value slice pins s σ H x y v u Q I rx ry h hs
 obtain⟨p,xs,i,z,rfl,rfl,hq,he,q⟩:=h
 cases rx
 obtain⟨t,rfl⟩:=ry
 obtain⟨its,r,pl,hz⟩:=@G6
 obtain⟨j,h1,h2,h3,h4,h5⟩:=yO he
 obtain⟨w,ew,rw'⟩:=r.get h2
 have hl:=r.length
 have hn:=rH
 have fin:EP X pins σ Q w s:=⟨z,H,I,rw',q⟩
 by_cases h0:0<=i
 ·have hj:i.toNat=j:=by
   rw[seqIndex_of h0 h5]at h1
   exact @Km
  exact item_listR pl.isList h0 (@B) (by rw[hj];simpa using ew) fin hs
 ·have hj:(i+(its.toArray.size:Int)).toNat=j:=by
   rw[seqIndex_neg (@B) h4]at h1
   rw[UM,<-hl]
   exact @Km
  exact subscriptTail_builtinR (x:=w) pl.isList.typeIs slot_list_getitem.lookup
   (wpAny_getItem_list_neg (Q:=λr s'=>r=w/\EP X pins σ Q r s') pl.isList (@B) (by rw[UM]<;>omega) (@B) (by rw[hj];simpa using ew) ⟨rfl,fin⟩) hs
def NL:GD X (Qj X.K):=by
 intro value slice pins s σ H x y v u Q I rx ry h hs
 obtain⟨p,xs,i,z,rfl,rfl,hq,he,q⟩:=h
 cases rx
 obtain⟨t,rfl⟩:=ry
 obtain⟨its,r,pl,hz⟩:=@Ge
 obtain⟨j,h1,h2,h3,h4,h5⟩:=yO he
 obtain⟨w,ew,rw'⟩:=r.get h2
 have hl:=r.length
 have hn:=rH
 have fin:EP X pins σ Q w s:=⟨z,H,I,rw',q⟩
 exact subscriptTail_builtinR (x:=w) pl.typeIs slot_tuple_getitem.lookup
  (getItem_tuple (j:=j) (Q:=λr s'=>r=w/\EP X pins σ Q r s') pl (@B) (@B) (by rw[UM,<-hl];exact h1) (by simpa using ew) ⟨rfl,fin⟩) hs
def Nd:GD X PX:=by
 intro value slice pins s σ H x y v u Q I rx ry h hs
 obtain⟨z,i,c,rfl,rfl,hz,he,q⟩:=h
 obtain⟨t,rfl⟩:=rx
 obtain⟨t',rfl⟩:=ry
 obtain⟨j,h1,h2,h3,h4,h5⟩:=yO he
 have hl:z.cps.toList.length=z.length:=by simp[Str.length]
 rw[hl]at h1 h4 h5
 have hn:=rH
 exact tail_any (typeIs_str s z t) slot_str_getitem.lookup (getItem_str (c:=c) (by
  have e1:decide (i < -(2^63:Int))=false:=UO (@B)
  have e2:decide (i>=2^63)=false:=UO (@B)
  rw[e1,e2,Bool.or_false]) (by rw[h1];simpa using h2) ⟨.str ⟨#[c]⟩,H,@HT,@BS,q⟩) hs
def TU(K:Frag):R2:=λx y H Q=>NK K x y H Q\/Qj K x y H Q\/PX x y H Q
def aL:GD X (TU X.K):=jS.or (NL.or Nd)
def A4(its:@e)(n j:Nat)(u:Value):Obj.mapSeq (·.setIfInBounds j u) {cls:=@BV,data:=@D3}={cls:=@BV,data:=.seq (its.set j u).toArray n}:=by
 simp[Obj.mapSeq]
def Inv.lst{pins:@K}{σ:St}{H:Hp}{s:Shared}{p:Addr}{xs:List V}(I:@D)(h:H p=@BI) :
  ∃(its:@e) (n:Nat),@Ij/\s.heap.get? p=some {cls:=@BV,data:=@D3}/\xs.length<=sizeLine:=by
 obtain⟨z,its,n,r,e⟩:=I.hok p _ h
 exact⟨its,n,r,e,z⟩
def Inv.lstUpd{pins:@K}{σ:St}{H:Hp}{s:Shared}{p:Addr}{xs ys:List V}{its its':@e}{n n':Nat}{f:Obj->Obj}(I:@D)(h:H p=@BI)
  (ho:s.heap.get? p=some {cls:=@BV,data:=@D3}) (hf:f {cls:=@BV,data:=@D3}={cls:=@BV,data:=.seq its'.toArray n'}) (r:Vals ys its') (hz:ys.length<=sizeLine) (t:Nat) :
  Inv X pins σ (upd H p @Lx) {s with heap:=s.heap.update p f,toks:=t}:=by
 have e:(s.heap.update p f).get? p=some {cls:=@BV,data:=.seq its'.toArray n'}:=by
  rw[Wq f ho (by rw[hf]<;>rfl),hf]
 refine I.write (x:=p) (e:=p) (by rw[h];trivial) (@BQ) (λb u hb q=>(@O6).trans q) @IK ?_
 exact⟨hz,its',n',r,e⟩
def QG:V->V->V->Hp->(Hp->Prop)->Prop:=λo i v H Q=>∃p xs k j,o=.ref p/\i=.int k/\H p=@BI/\vQ xs.length k=some j/\Q @Rv
def set_list:Rl X QG:=by
 intro pins s σ H o i v ov iv u Q I ro ri rv h
 obtain⟨p,xs,k,j,rfl,rfl,hp,hj,q⟩:=h
 cases ro
 obtain⟨t,rfl⟩:=ri
 obtain⟨its,n,r,ho,hz⟩:=I.lst hp
 obtain⟨h1,h2,h3,h4⟩:=CB hj
 have hl:=r.length
 have hn:=rH
 have I':Inv X pins σ @Rv {s with heap:=s.heap.update p (Obj.mapSeq (·.setIfInBounds j u))}:=
  I.lstUpd hp ho (A4 its n j u) (r.set rv j) (by rw[VM];exact hz) s.toks
 by_cases h0:0<=k
 ·have hk:k.toNat=j:=by
   rw[seqIndex_of h0 h4]at h1
   exact @Km
  exact PySem.W.ki_setAt ho h0 (@B) (by rw[UM,<-hl];exact h4) (by rw[hk];exact⟨_,I',q⟩)
 ·have hk:(k+(its.toArray.size:Int)).toNat=j:=by
   rw[seqIndex_neg (@B) h3]at h1
   rw[UM,<-hl]
   exact @Km
  exact PySem.W.ki_setBack ho (@B) (by rw[UM,<-hl];exact h3) (@B) (by rw[hk];exact⟨_,I',q⟩)
def xG(lo hi:@Bm)(n:Nat):(@Ls).1=((HT.xk n 0 lo:Nat):Int)/\(@Ls).2.1=((HT.xk n n hi:Nat):Int)/\(@Ls).2.2=1:=by
 refine⟨?_,?_,rfl⟩
 ·cases lo with
  |none=>simp[sliceBounds,HT.xk]
  |some i=>
   simp only[sliceBounds,HT.xk,Option.getD_none,show(1:Int)>0 by decide,V5]
   by_cases h:i<0
   ·simp only[h,V5]<;>omega
   ·simp only[h,WL]<;>omega
 ·cases hi with
  |none=>simp[sliceBounds,HT.xk]
  |some i=>
   simp only[sliceBounds,HT.xk,Option.getD_none,show(1:Int)>0 by decide,V5]
   by_cases h:i<0
   ·simp only[h,V5]<;>omega
   ·simp only[h,WL]<;>omega
def vJ(its:@e)(lo hi:@Bm):slicePick its.toArray lo hi none=((its.drop (@YC)).take (HT.xk its.length its.length hi-@YC)).toArray:=by
 obtain⟨h1,h2,h3⟩:=xG lo hi its.toArray.size
 unfold slicePick
 rw[h1,h2,h3]
 simp only[sliceRange_one,pick_run,UM]<;>rfl
def Sr(K:Frag):V->@Bm->@Bm->Hp->VK->Prop:=λx lo hi H Q=>∃a xs,x=.ref a/\@C6/\∀p,H p=none->Q @E7 (upd H p (.lst (@S8)))
def Kc:T8 X (Sr X.K):=by
 intro pins s σ H x v vl vu lo hi sl Q I rx hs pl pu h
 obtain⟨a,xs,rfl,hx,q⟩:=h
 cases rx
 obtain⟨its,r,ht,hz⟩:=I.list hx
 have hlen:=r.length
 refine⟨"list",_,slot_list_getitem.lookup,ht.isList.typeIs,?_⟩
 refine wpAny_getItem_list_slice ht.isList hs pl pu .none @W ?_ (by rw[UM]<;>omega)
 rw[vJ,<-hlen]
 refine⟨@AN,_,I.laid (t':=s.toks) (o:=.lst (@S8)) (λb ob q=>Ux _ q) (UC _) ?_,rfl,@XX ⟩
 exact⟨Vp (zR xs lo hi) hz,_,0,(r.drop (@E8)).take (@Ji-@E8),@Gq ⟩
def yP:fQ X (@BV) (λxs H Q=>∃p ys,xs= @SV/\(jy X.K H p ys\/iO X.K H p ys)/\∀l,H l=none->Q @Jg @WD):=by
 intro pins s σ H xs us Q I r h
 obtain⟨p,ys,rfl,hq,q⟩:=h
 obtain⟨u,rfl,rx⟩:=@Nz
 cases rx
 have fin:∀(its:@e),Vals ys its->ys.length<=sizeLine->∀(h':Heap) (c':Nat),(∀b o',s.heap.get? b=@W1->h'.get? b=@W1)->
   h'.get? s.heap.objs.size=some {cls:=@BV,dict:=none,data:=.seq its.toArray c',slots:=#[]}->EP X pins σ Q (@AN) {s with heap:=h'}:=λits r' hz h' c' kp e=>
  ⟨@AN,_,I.laid (t':=s.toks) kp (UC _) (show cW X.prog X.w _ h' _ @Lx from⟨hz,its,c',r',e⟩),rfl,@XX ⟩
 rcases hq with hq|hq
 ·obtain⟨its,r',pl,hz⟩:=@G6
  have hlen:=r'.length
  obtain⟨o,ho,hc,n,hd⟩:=pl.isList
  exact call_list_seq p (@BQ) ho hc hd (λh' c' kp e=>@Vh) (by simp only[UM]<;>omega)
 ·obtain⟨its,r',pl,hz⟩:=@Ge
  have hlen:=r'.length
  obtain⟨o,ho,hc,n,hd⟩:=pl
  exact call_list_seq p (@Fe) ho hc hd (λh' c' kp e=>@Vh) (by simp only[UM]<;>omega)
def dh:fQ X (@CA) (λxs H Q=>∃p ys,xs= @SV/\((jy X.K H p ys/\∀l,H l=none->@UU)\/(iO X.K H p ys/\Q @E7 H))):=by
 intro pins s σ H xs us Q I r h
 obtain⟨p,ys,rfl,h⟩:=h
 obtain⟨u,rfl,rx⟩:=@Nz
 cases rx
 rcases h with⟨hq,q⟩|⟨hq,q⟩
 ·obtain⟨its,r',pl,hz⟩:=@G6
  have hlen:=r'.length
  refine call_tuple_list pl.isList (λh' kp=>?_) (by simp only[UM]<;>omega)
  have I1:Inv X pins σ H {s with heap:=h'}:=I.kept (t':=s.toks) kp
  have I2:Inv X pins σ (upd H h'.objs.size (.tup ys)) {s with heap:=h'.push {cls:=@CA,data:=.seq its.toArray}}:=
   I1.laid (t':=s.toks) (λb o e=>Ux _ e) (UC _) (show cW X.prog X.w _ _ _ (.tup ys)from⟨hz,its,r',@T_ ⟩)
  exact⟨@Qq,_,I2,rfl,q _ (@HU)⟩
 ·obtain⟨its,r',pl,hz⟩:=@Ge
  exact call_tuple_same pl ⟨.ref p,H,I,rfl,q⟩
def Ua(K:Frag)(T:String)(x:V)(H:Hp):Prop:=match x with
 | .str _=>T="str"
 | .int _=>T="int"
 | .ref p=>(T="list"/\∃xs,@KK)\/(T="tuple"/\∃o,K.lookup p=some o/\o.cls=@CA/\o.dict=none)\/
   (T="dict"/\((∃kvs,H p=@Fl)\/∃kvs ep,H p=@Lt))\/(T="set"/\∃S n,H p=some (.set S n))
 |_=>False
theorem NY{pins:@K}{σ:St}{H:Hp}{s:Shared}{T:String}{x:V}{v:Value}(I:@D)(r:@H8)(ty:Ua X.K T x H) :
  s.TypeIs v T/\∀a,v=.ref a->∃ob,s.heap.get? a=some ob/\ob.dict=none:=by
 cases x with
 |str z=>
  obtain⟨t,rfl⟩:=r
  cases(show T="str"from ty)
  exact⟨typeIs_str s z t,λ_ e=>nomatch e⟩
 |int i=>
  obtain⟨t,rfl⟩:=r
  cases(show T="int"from ty)
  exact⟨typeIs_int s i t,λ_ e=>nomatch e⟩
 |ref p=>
  cases r
  rcases ty with⟨rfl,xs,hq⟩|⟨rfl,o,hk,hc,hd⟩|⟨rfl,hk⟩|⟨rfl,S,n,hk⟩
  ·obtain⟨its,_,pl,_⟩:=@G6
   refine⟨pl.isList.typeIs,λa e=>?_⟩
   cases e
   obtain⟨o,n,e,c,hd,_⟩:=pl
   exact⟨o,e,hd⟩
  ·refine⟨@W5,λa e=>?_⟩
   cases e
   exact⟨o,I.kIn _ o hk,hd⟩
  ·have z:∃o,s.heap.get? p=some o/\o.ExactDict:=by
    rcases hk with⟨kvs,hk⟩|⟨kvs,_,hk⟩
    ·obtain⟨_,_,_,_,o,_,_,e,ex,_⟩:=@YE
     exact⟨o,e,ex⟩
    ·obtain⟨_,_,_,_,o,_,e,ex,_⟩:=@YE
     exact⟨o,e,ex⟩
   obtain⟨o,e,ex⟩:=z
   refine⟨⟨o,e,ex.1⟩,λa e2=>?_⟩
   cases e2
   exact⟨o,e,ex.2.1⟩
  ·obtain⟨o,_,_,_,e,ex,_⟩:=@YE
   refine⟨⟨o,e,ex.1⟩,λa e2=>?_⟩
   cases e2
   exact⟨o,e,ex.2.1⟩
 |_=>exact False.elim ty
def Ut(K:Frag)(T:String)(r:V->List V->Hp->VK->Prop)(to:TE)(t:TA):TE:=λσ H Q=>to σ H λx H1=>Ua K T x H1/\t σ H1 λxs H2=>r x xs H2 Q
variable {o e:Expr}{es:@Ac}{to:TE}{t:TA}{name:Str}{apos cpos:Pos}{T id:String}{r:V->List V->Hp->VK->Prop}
def De(pa:PlainAttrs T)(slot:Slot T name id)(hty:typeOf @EE=@QU)(hm:Um X id r)(ho:PE X o to)(ha:PA X (e::es) t)
  (hbase:@Mw=@Yc:=by rfl)
  (hfew:((backTo cpos (starEach (e::es) X.env)).all (λx=> !x.1)&&(@B7).all (λx=>x.1.isSome)
   && decide ((e::es).length+([]:@Cp).length+(if([]:@Cp).isEmpty then 0 else 1)<30))=true:=by rfl)
  (hline:(apos.endLine==cpos.line)=true:=by rfl) (hs:starEach (e::es) X.env=(false,@DE)::@AA:=by rfl) (hplain:(@Lk).any (·.1)=false:=by rfl) :
  PE X (.Call @Uq (e::es) [] cpos) (Ut X.K T r to t):=by
 intro pins s σ H Q I h
 refine wpAny_Call_method_late hbase hfew hline rfl (cK @Mn λv s1 ⟨x,H1,I1,r1,ty,q1⟩=>?_)
 obtain⟨h1,h2⟩:=NY I1 r1 ty
 refine⟨T,id,pa,slot,hty,h1,h2,?_⟩
 have hA:=@R8
 rw[hs]at hA ⊢
 refine Calls.callWith_builtin (by show(false||(@Lk).any (·.1))=false;rw[hplain]<;>rfl) (Calls.evalArgs_plain ?_)
 exact cK hA λus s2 ⟨vs,H2,I2,r2,q2⟩=>hm pins s2 σ H2 x vs v us Q I2 r1 r2 q2
end
def OR(X:Cx)(id:String)(r:V->List V->Hp->VK->Prop):Prop:=
 ∀(pins:@K) (s:Shared) (σ:St) (H:Hp) (x:V) (xs:List V) (v:Value) (us:@e) (Q:VK),@D->@H8->@EU->r x xs H Q->
  wpAny @N X.A (call @EE (v::us)) @BE X.xe s
theorem Vals.one:∀{x:V} {us:@e},Vals [x] us->∃u,us= [u]/\@Iu
 |_,_,.cons r .nil=>@Kx
theorem Vals.eraseIdx:∀{xs:List V} {us:@e} (i:Nat),@EU->Vals (xs.eraseIdx i) (us.eraseIdx i)
 |_,_,_,.nil=>.nil
 |_,_,0,.cons _ t=>t
 |_,_,i+1,.cons r t=>.cons r (Vals.eraseIdx i t)
theorem Vals.rep{xs:List V}{us:@e}(h:@EU):∀k:Nat,Vals (List.replicate k xs).flatten (List.replicate k us).flatten
 | 0=>.nil
 |k+1=>by
  rw[Vk,Vk,VU,VU]
  exact Vals.append h (Vals.rep h k)
theorem xq{α:Type}:∀(l:@Bl) (i:Nat),(l.eraseIdx i).length<=l.length
 | [],_=>UC _
 |_::_,0=>@Jj
 |_::r,i+1=>Nat.succ_le_succ (xq r i)
theorem foldl_rep(its:@e):∀(k:Nat) (acc:@e),
  List.foldl (λx1 x2=>x1++x2) acc.toArray (List.replicate k its.toArray)=(acc++(List.replicate k its).flatten).toArray
 | 0,acc=>by simp
 |k+1,acc=>by
  have e:acc.toArray++its.toArray=(acc++its).toArray:=by simp
  have e2:(acc++its)++(List.replicate k its).flatten=acc++(List.replicate (k+1) its).flatten:=by
   rw[Vk,VU,Vr]
  rw[<-e2,<-foldl_rep its k (acc++its),<-e,Vk,foldl_cons]
section
variable {X:Cx}{pins:@K}{σ:St}{H:Hp}{s:Shared}{l b:Addr}{xs ys zs:List V}
def Inv.lset{its its':@e}{n:Nat}{f:@BC->@BC}{t':Nat}(I:@D)(hH:H l=@BI)
  (e:s.heap.get? l=some {cls:=@BV,data:=@D3}) (hf:f its.toArray=its'.toArray) (hv:Vals ys its') (hz:ys.length<=sizeLine) :
  Inv X pins σ @WD {s with heap:=s.heap.update l (Obj.mapSeq f),toks:=t'}:=by
 have q:=PySem.IsL.update e f
 rw[hf]at q
 refine I.write (x:=l) (e:=l) (by rw[hH];exact trivial) (@BQ) (λb' u hb hu=>(VB s.heap (Obj.mapSeq f) (Ne.symm hb)).trans hu) ⟨_,q⟩ ?_
 exact⟨hz,its',_,hv,q⟩
def Inv.lnew{its:@e}{t':Nat}(I:@D)(hv:Vals ys its)(hz:ys.length<=sizeLine) :
  Inv X pins σ (upd H s.heap.objs.size @Lx) {s with heap:=s.heap.push {cls:=@BV,data:=.seq its.toArray},toks:=t'}:=
 I.laid (λ_ _ q=>Ux _ q) (UC _) ⟨hz,its,0,hv,@Gq ⟩
def Inv.fresh(I:@D):@H5=none:=@Bf
def Inv.lstM(I:@D)(hH:H l=@BI):xs.length<=sizeLine/\∃(its:@e) (n:Nat),@Ij/\xs.length=its.length/\s.heap.get? l=some {cls:=@BV,data:=@D3}:=by
 obtain⟨z,its,n,r,e⟩:=I.hok l _ hH
 exact @Vs
def vh{n:Nat}(h:n<=sizeLine):Builtin.List.listTooLong n=false:=by
 unfold Builtin.List.listTooLong
 exact UO (@B)
end
section
variable {X:Cx}
def JU:V->List V->Hp->VK->Prop:=λx vs H Q=>∃l xs y,x=.ref l/\vs= [y]/\H l=@BI/\xs.length<sizeLine/\Q .non (upd H l (.lst (xs++[y])))
def oM:OR X "list.append" JU:=by
 intro pins s σ H x vs v us Q I rx rv h
 obtain⟨l,xs,y,rfl,rfl,hH,hz,q⟩:=h
 cases rx
 obtain⟨u,rfl,ru⟩:=rv.one
 obtain⟨z,its,n,r,hl,e⟩:=@Pr
 refine Xh F.slot_list_append @IJ F.entry_list_append (F.args_list_append_2 _ _) (PySem.list_append l its.toArray n u (by rw[UM];omega)) ⟨e,?_⟩
 refine⟨.non,_,I.lset (its':=its++[u]) hH e @W (r.append (.cons ru .nil)) ?_,rfl,q⟩
 rw[UL,U5]
 omega
def Ky:V->List V->Hp->VK->Prop:=λx vs H Q=>∃l b xs zs,x=.ref l/\vs= [.ref b]/\H l=@BI/\H b=some @Xg/\xs.length+zs.length<=sizeLine/\Q .non (upd H l (.lst (xs++zs)))
def OT:OR X "list.extend" Ky:=by
 intro pins s σ H x vs v us Q I rx rv h
 obtain⟨l,b,xs,zs,rfl,rfl,hH,hB,hz,q⟩:=h
 cases rx
 obtain⟨u,rfl,ru⟩:=rv.one
 cases ru
 obtain⟨z,its,n,r,hl,e⟩:=@Pr
 obtain⟨z2,its2,n2,r2,hl2,e2⟩:=I.lstM hB
 have hsz:its.toArray.size+its2.toArray.size<=sizeLine:=by rw[UM,UM];omega
 have hlong:¬(!its.toArray.isEmpty&&Builtin.List.listTooLong (its.toArray.size+its2.toArray.size))=true:=by
  rw[vh hsz,Bool.and_false]
  exact UQ
 refine Xh F.slot_list_extend @IJ F.entry_list_extend @Tr
  (AutoSeq1.list_extend_list_list_0 l its.toArray n b its2.toArray n2 hlong (by rw[UM];omega) (@B)) ⟨e,e2,?_⟩
 refine⟨.non,_,I.lset (its':=its++its2) hH e @W @Pb ?_,rfl,q⟩
 rw[UL]
 omega
def MU:V->List V->Hp->VK->Prop:=λx vs H Q=>∃l xs i k y,x=.ref l/\vs= [.int i]/\H l=@BI/\ -(2^63)<=i/\i<2^63/\seqIndex? i xs.length=some k/\xs[k]? =some y/\Q y (upd H l (.lst (xs.eraseIdx k)))
def IM:OR X "list.pop" MU:=by
 intro pins s σ H x vs v us Q I rx rv h
 obtain⟨l,xs,i,k,y,rfl,rfl,hH,h1,h2,hk,hy,q⟩:=h
 cases rx
 obtain⟨u,rfl,ru⟩:=rv.one
 obtain⟨t,rfl⟩:=ru
 obtain⟨z,its,n,r,hl,e⟩:=@Pr
 obtain⟨w,hw,rw'⟩:=r.get hy
 refine Xh F.slot_list_pop @IJ F.entry_list_pop (F.args_list_pop_2 _ _)
  (MeetsSeq.list_pop_at l its.toArray n i t k w (fitsIndex_both h1 h2) (by rw[UM,<-hl];exact hk) (by rw[<-Array.getElem?_toList];exact hw) (by rw[UM];omega)) ⟨e,?_⟩
 refine⟨y,_,I.lset (its':=its.eraseIdx k) hH e ?_ (r.eraseIdx k) ?_,rw',q⟩
 ·show its.toArray.eraseIdxIfInBounds k=(its.eraseIdx k).toArray
  rw[List.eraseIdxIfInBounds_toArray]
 ·have:=xq xs k
  omega
def TJ:R2:=λx y H Q=>∃l b xs zs,x=.ref l/\y=.ref b/\H l=@BI/\H b=some @Xg/\xs.length+zs.length<=sizeLine/\∀p,H p=none->Q @E7 (upd H p (.lst (xs++zs)))
def By:nv X @J8 TJ:=by
 intro pins s σ H x y v u Q I rx ry h
 obtain⟨l,b,xs,zs,rfl,rfl,hH,hB,hz,q⟩:=h
 cases rx
 cases ry
 obtain⟨z,its,n,r,hl,e⟩:=@Pr
 obtain⟨z2,its2,n2,r2,hl2,e2⟩:=I.lstM hB
 refine PySem.P.add_list e e2 ?_ (by rw[UM,UM];omega)
 have ea:its.toArray++its2.toArray=(its++its2).toArray:=by simp
 rw[ea]
 exact⟨.ref _,_,I.lnew (t':=s.toks) @Pb (by rw[UL];omega),rfl,q _ I.fresh⟩
def S4:R2:=λx y H Q=>∃l k xs,x=.ref l/\y=.int k/\H l=@BI/\ -(2^63)<=k/\k<2^63/\xs.length*k.toNat<=sizeLine/\
 ∀p,H p=none->Q @E7 (upd H p (.lst (List.replicate k.toNat xs).flatten))
theorem len_rep{α:Type}(xs:@Bl)(k:Nat):(List.replicate k xs).flatten.length=k*xs.length:=by
 induction k with
 |zero=>simp
 |succ k ih=>rw[Vk,VU,UL,ih,Nat.succ_mul,Nat.add_comm]
def HE:nv X (binaryOp .Mult) S4:=by
 intro pins s σ H x y v u Q I rx ry h
 obtain⟨l,k,xs,rfl,rfl,hH,h1,h2,hz,q⟩:=h
 cases rx
 obtain⟨t,rfl⟩:=ry
 obtain⟨z,its,n,r,hl,e⟩:=@Pr
 have hlen:its.toArray.size*k.toNat<=sizeLine:=by rw[UM,<-hl];exact hz
 have hcap:¬its.toArray.size*k.toNat>(2^63-1)/8:=by
  have:(sizeLine:Nat)<=(2^63-1)/8:=by decide
  omega
 have hfit:¬(!Builtin.List.listFitsIndex k)=true:=by
  rw[fitsIndex_both h1 h2]
  exact UQ
 have hlong:¬Builtin.List.listTooLong (its.toArray.size*k.toNat)=true:=by
  rw[vh hlen]
  exact UQ
 have hnew:List.foldl (λx1 x2=>x1++x2) #[] (List.replicate (if its.toArray.isEmpty=true then 0 else k.toNat) its.toArray)=(List.replicate k.toNat its).flatten.toArray:=by
  have f0:∀m:Nat,List.foldl (λx1 x2=>x1++x2) #[] (List.replicate m its.toArray)=(List.replicate m its).flatten.toArray:=λm=>by
   have:=foldl_rep its m []
   rw[nil_append]at this
   exact this
  rw[f0]
  cases its with
  |nil=>simp
  |cons a r'=>rw[UJ @W]
 refine wpAny_binaryOp_repeat_ref (T:="list") (U:="int") @S @IJ (λs'=>typeIs_int s' k t) noFill_list_mul F.fills_int_mul F.slot_int_rmul repeat_list F.slot_int_index.lookup
  (Xh F.slot_int_rmul (typeIs_int s k t) F.entry_int_rmul (F.args_int_rmul_2 _ _) (int___rmul___int_list k t l its.toArray n)
   ⟨e,rfl,@IJ,Xh F.slot_list_mul @IJ F.entry_list_mul (F.args_list_mul_2 _ _) (AutoListH.list___mul___list_int_3 l its.toArray n k t hfit hcap hlong) ⟨e,?_⟩⟩)
 rw[hnew]
 exact⟨.ref _,_,I.lnew (t':=s.toks) (r.rep k.toNat) (by rw[len_rep,Nat.mul_comm];exact hz),rfl,q _ I.fresh⟩
end
end L2
namespace Att
open PySem PySem.W PySem.Calls PyProof.Rows
theorem si{P:Params}{h:Heap}:∀(ns:@E) (vs:@e),WellAll P h vs (ns.map WData.int)->@ME:=by
 intro ns
 induction ns with
 |nil=>
  intro vs w
  rw[map_nil]at w
  cases w
  exact .nil
 |cons n ns ih=>
  intro vs w
  rw[Vj]at w
  cases w with
  |cons a b=>
   cases a
   exact .cons _ _ (ih _ b)
theorem ES{l:OpenLaw}{n:Nat}(hn:l.most=some n){P:Params}{h:Heap}{args:List WData}{vals:@e}
  (hpre:l.row.toRowW.claim.pre args=true) (hwl:WellAll P h vals args) :
  ∃a vs ns,vals= [@Ik]/\args= [WData.list (ns.map WData.int)]/\h.get? a=some {cls:=@BV,data:=@KC}/\@ME/\ns.length<=n:=by
 have hsh:WShape.hasAll [] args [.list .int]=true:=(pre_splitW hpre).1
 have hc:l.pre.holds [] {args:=args}=true:=(pre_splitW hpre).2
 obtain⟨d,r,rfl,h1,h2⟩:=hasAllW_cons hsh
 obtain rfl:=hasAllW_nil h2
 obtain⟨xs,rfl,h3⟩:=hasW_list h1
 obtain⟨ns,rfl⟩:=items_int h3
 have hlen:ns.length<=n:=by
  unfold OpenLaw.pre at hc
  have h4:(WTm.not (.lt (.lit (.int (n:Int))) (.len (.arg 0)))).holds [] {args:=[.list (ns.map .int)]}=true:=by
   have h4:=(holds_andW hc).1
   rw[hn]at h4
   exact h4
  have h5:=condW_of h4 (w_not (w_lt w_lit (w_len_list (w_arg rfl))))
  rw[Uw]at h5
  refine Nat.le_of_not_lt λq=>?_
  have q':(n:Int)<((ns.length:Nat):Int):=@B
  first
   | (rw[UH q']at h5;exact absurd h5 @S)
   | (simp at h5;omega)
 cases hwl with
 |cons w1 w2=>
  cases w2
  cases w1 with
  |list ho hall=>exact⟨_,_,ns,rfl,rfl,ho,si ns _ hall,hlen⟩
def D4(l:OpenLaw)(args:List WData):l.row.toRowW.claim.post args (@Bv) args=true:=
 postW_of (r:=l.row.toRowW) (X:=(true==true))
  (show WShape.has [] (@Bv) .bool=true by first|rfl|decide|simp[WShape.has,WShape.arms,WShape.armsAll])
  (show(WTm.eq .res (.lit (@Bv))).value [] {args:=args,res:=some (@Bv),after:=args}=some (.bool (true==true))from w_eq_bool (w_res rfl) w_lit) rfl
def Ay{l:OpenLaw}{n:Nat}{q:Program}{loose:@a}{XP:(@R)->Heap->Prop}{YP:World->Heap->Prop}{d:DefRec}
  (hn:l.most=some n) (hdf:d.params.defaults= [])
  (call:∀(w:World) (s₀ s₁:Shared) (mg mb:@R) (fa:Addr) (o:Obj) (pm cd doc:Value) (a:Addr) (vs:@e) (ns:@E),
   Ground q loose [] XP w s₀ mg mb s₁.heap->YP w s₁.heap->
   s₁.heap.get? fa=some o->o.data=.func (docDef d.name d.params d.body d.scope pm cd doc)->s₁.heap.CodeRec cd d.name->mg d.name=@Os->
   s₁.heap.get? a=some {cls:=@BV,data:=@KC}->@ME->ns.length<=n->s₁.gens=#[]->
   codeAny (model l.prog w) callerA @I6 (λr s'=>r=@Rw/\@Mt/\s'.os=s₁.os/\@H2) s₁) :
  WalkO q loose XP YP l.row.toRowW d [] (λf vs=>@TL):=by
 intro w s₀ s₁ mg mb G Y fa o pm cd doc dV kV ho hd hcd hD hmg hg args vals as hpre hlay hrd hwl hlo
 obtain rfl:dV=.none:=Dflts.none hD hdf
 obtain rfl:kV=.none:=Dflts.noKw hD
 obtain⟨a,vs,ns,rfl,rfl,hobj,hints,hlen⟩:=ES hn hpre hwl
 refine enter_call (Wz (call w s₀ s₁ mg mb fa o pm cd doc a vs ns G Y ho (fd_plain hd) hcd hmg hobj hints hlen hg) λr s' hq=>?_)
 obtain⟨rfl,h2,h3,h4⟩:=hq
 exact⟨.inl ⟨@Bv,@Bv,[],rfl,λ_=>rfl,@Bv,D4 l _,λ_=>⟨List.Pairwise.nil,λ_ hm=>(nomatch hm)⟩⟩,h2,h3,h4⟩
end Att
namespace L2
open PySem PySem.Spec PyProof.Rows
theorem xi:∀{vs:@e} {ns:@E},@ME->Vals @B6 vs
 |_,_,.nil=>.nil
 |_,_,.cons n t h=>.cons ⟨t,rfl⟩ (xi h)
def jA(s:Stmt):Arguments:=match s with
 | .FunctionDef _ a _ _ _ _ _ _ _ _=>a
 |_=>{posonlyargs:=[],args:=[],vararg:=none,kwonlyargs:=[],kw_defaults:=[],kwarg:=none,defaults:=[]}
def c6(s:Stmt):@Dx:=match s with
 | .FunctionDef _ _ b _ _ _ _ _ _ _=>b
 |_=>[]
def ao(s:Stmt):Scope:=match s with
 | .FunctionDef _ _ _ _ _ _ sc _ _ _=>sc
 |_=>{kind:=@JB,names:=[],isGenerator:=false,isCoroutine:=false}
abbrev vG:yp:=λ_ _ _ _ _ _=>False
abbrev E0:XK:=λ_ _ _=>False
def IF{X:Cx}:Passes vG X E0:=λ_ _ _ _ _ _ _ h=>h.elim
structure AR(K:Frag)(x qual:Str)(st:Stmt)(f:Addr)(fd:FuncData):Prop where
 ex:∃(oc:Value) (od:@i) (kV doc pm:Value) (an:@i) (cdv ct:Value) (osl:@Ib),
  fd=@BX/\@Qw=some ⟨oc,od,.func fd,osl⟩/\@K8=true
 kp:@Cw=true
section
variable {P:Program}{w:World}{K:Frag}{mg:@R}{base:Heap}
def AR.ok{x qual:Str}{st:Stmt}{f:Addr}{fd:FuncData}{N ps:@a}{k:Nat}{sp:Sp}(F:@C5)(S:@FJ)(len:∀vs H Q E,@Dm->vs.length=ps.length)
  (hbody:∀(cdv:Value) (A:Around) (outer:@Cf) (s:Shared) (H:Hp) (vs:List V) (Q:VK) (E:XK),@SX->@Dm->
   ∃t,rq (l7 vG P w K mg base N qual (ao st) f cdv A outer s H E).nox @Oz t/\t {nx:=λ_ H'=>@Pz,rt:=Q} @C9 H):gM P w K mg base vG (k+1) f fd ps sp:=by
 obtain⟨oc,od,kV,doc,pm,an,cdv,ct,osl,rfl,lk,hcd⟩:=F.ex
 refine HL lk hcd S len λA outer s H vs Q E hr hsp=>?_
 obtain⟨t,h,q⟩:=@PC
 exact⟨t,h.nox,q⟩
def AR.binds{x qual:Str}{st:Stmt}{f:Addr}{fd:FuncData}{ps:@a}(F:@C5)
  (h:∀(kV doc pm:Value) (an:@i) (cdv ct:Value) (us:@e),us.length=ps.length->bindArgs (@BX) @KO=pure @GB):@HG:=by
 obtain⟨oc,od,kV,doc,pm,an,cdv,ct,osl,rfl,lk,hcd⟩:=F.ex
 exact .all (h kV doc pm an cdv ct)
def vk{x qual:Str}{st:Stmt}{f:Addr}{oc:Value}{od an:@i}{osl:@Ib}{kV doc pm cdv ct:Value}(l:@Qw=some ⟨oc,od,.func (@BX),osl⟩)
  (c:@K8=true) (k:@Cw=true):AR K x qual st f (@BX):=⟨⟨oc,od,kV,doc,pm,an,cdv,ct,osl,rfl,l,c⟩,k⟩
end
section
variable {X:Cx}
def pv(i:Nat){x:Str}{pos:Pos}(hN:X.N[i]? =some x:=by rfl)(hv:@Ca:=by first|exact @Af|exact @Eo|exact @FQ)(hd:@T:=by decide)
  (hcd:(x==("__classdict__":Str))=false:=by decide):PE X @ED (Ei i):=ju hN hv hd hcd
end
def sk{A B:Prop}(h:B):if false=true then A else B:=by
 rw[UJ UQ]
 exact h
def v8{A B:Prop}(h:A):if true=true then A else B:=by
 rw[Uz rfl]
 exact h
def LF(o:Obj):Prop:=∃vs q t,o.data=@IZ/\vs[1]? =some (.str q t)
def Jl:@e->Prop
 | []=>True
 | .int _ _::.int _ _::.ref _::r=>Jl r
 |_=>False
theorem Jl.app:∀{l m:@e},Jl l->Jl m->Jl (l++m)
 | [],_,_,h=>h
 | .int _ _::.int _ _::.ref _::r,_,h,k=>Jl.app (l:=r) h k
def Kt(H:Hp)(b:Addr):HO->Prop
 | .tbl ps=>∃more:@BC,H b=some (.tbl (ps++more))/\Jl more.toList/\∀c,Value.ref c∈more.toList->∃o,H c=some (.bj o @Vw)/\LF o
 |o=>H b=some o
theorem Kt.of{H:Hp}{b:Addr}{o:HO}(h:H b=some o):@SL:=by
 cases o with
 |tbl ps=>exact⟨#[],by rw[h];simp,trivial,λc hc=>by simp at hc⟩
 |_=>exact h
def ay(H H':Hp):Prop:=∀b o,H b=some o->@LX
def ay.refl(H:Hp):ay H H:=λ_ _ h=>@WN
theorem Kt.some{H:Hp}{b:Addr}{o:HO}(h:@SL):∃u,H b=Option.some u/\((∀ps,o≠@K5)->u=o)/\((∃ps,o=@K5)->∃ps,u=@K5):=by
 cases o with
 |tbl ps=>obtain⟨m,e,_⟩:=h;exact⟨_,e,λz=>absurd rfl (z ps),λ_=>@BS ⟩
 |_=>exact⟨_,h,λ_=>rfl,λ⟨ps,z⟩=>by cases z⟩
theorem Kt.step{H H':Hp}{b:Addr}{o:HO}(h:@SL)(s:@Cy):@LX:=by
 cases o with
 |tbl ps=>
  obtain⟨m,e,t1,k⟩:=h
  obtain⟨m2,e2,t2,k2⟩:=s b _ e
  refine⟨m++m2,by rw[e2,Array.append_assoc],by rw[Wf];exact t1.app t2,λc hc=>?_⟩
  rw[Wf,UW]at hc
  rcases hc with hc|hc
  ·obtain⟨o,eo,io⟩:=k c hc;exact⟨o,s c _ eo,io⟩
  ·exact k2 c hc
 |lst xs=>exact @KS
 |tup xs=>exact @KS
 |dK xs=>exact @KS
 |dT xs ep=>exact @KS
 |set S n=>exact @KS
 |ins C dx fs=>exact @KS
 |own x=>exact @KS
 |xd fs=>exact @KS
 |met f x=>exact @KS
 |eh lo hi=>exact @KS
 |bj o u=>exact @KS
 |ext φ=>exact @KS
def ay.trans{H H1 H2:Hp}(a:ay H H1)(b:ay H1 H2):ay H H2:=λc o h=>(a c o h).step b
theorem ay.free{H H':Hp}(e:@Cy){l:Addr}(h:H' l=Option.none):H l=Option.none:=by
 cases q:H l with
 |none=>rfl
 |some o=>
  obtain⟨u,z,_⟩:=(e l o q).some
  rw[z]at h
  cases h
def ay.seq{K:Frag}{H H':Hp}{a:Addr}{xs:List V}(e:@Cy)(h:@C6):jy K H' a xs:=by
 rcases h with(h|⟨o,h⟩)|h
 ·exact .inl (.inl (e _ _ h))
 ·exact .inl (.inr ⟨o,e _ _ h⟩)
 ·exact .inr h
end L2
end
section
namespace RQ
open PySem L2
def top(i:Nat):Stmt:=PySem.Challenge.pw_rowsorder_k75_bounds_refused.main.body.getD i (.Pass ⟨0,0,0,0⟩)
abbrev mz:Stmt:=top 2
abbrev mT:Stmt:=top 3
abbrev oy:Stmt:=top 4
abbrev oB:Stmt:=top 5
abbrev oY:Stmt:=top 6
abbrev iA:Stmt:=top 7
abbrev mX:Stmt:=top 29
abbrev mj:Stmt:=top 27
abbrev jH:Stmt:=top 30
abbrev kJ:Stmt:=top 31
abbrev qH:Stmt:=top 34
abbrev i9:Stmt:=top 33
abbrev jI:Stmt:=top 38
abbrev je:Stmt:=top 40
abbrev o9:Stmt:=top 42
abbrev jf:Stmt:=top 39
abbrev kP:Stmt:=top 35
abbrev qE:Stmt:=top 37
abbrev ou:Stmt:=top 36
abbrev kG:Stmt:=top 41
abbrev iB:Stmt:=top 44
abbrev iK:Stmt:=top 43
abbrev mh:Stmt:=top 45
abbrev yC:Stmt:=top 46
abbrev gq:Stmt:=top 49
abbrev jJ:Stmt:=top 48
abbrev sM:Stmt:=top 51
abbrev mM:Stmt:=top 53
abbrev jc:Stmt:=top 52
abbrev l9:Stmt:=top 54
abbrev mO:Stmt:=top 55
abbrev kC:Stmt:=top 56
abbrev kO:Stmt:=top 57
abbrev ml:Stmt:=top 58
abbrev kX:Stmt:=top 59
abbrev oV:Stmt:=top 66
abbrev kI:Stmt:=top 65
abbrev mF:Stmt:=top 64
abbrev sP:Stmt:=top 63
abbrev jd:Stmt:=top 62
abbrev qe:Stmt:=top 61
abbrev sO:Stmt:=top 67
abbrev gc:Stmt:=top 69
abbrev jC:Stmt:=top 68
abbrev qz:Stmt:=top 72
abbrev qI:Stmt:=top 73
abbrev dW:Stmt:=top 76
abbrev jR:Stmt:=top 74
abbrev kE:Stmt:=top 77
abbrev jM:Stmt:=top 79
abbrev jz:Stmt:=top 78
abbrev mq:Stmt:=top 81
abbrev kS:Stmt:=top 82
abbrev gy:Stmt:=top 83
abbrev gp:Stmt:=top 84
abbrev kY:Stmt:=top 85
abbrev jK:Stmt:=top 86
abbrev iM:Stmt:=top 89
abbrev pw:Stmt:=top 90
end RQ
namespace RO
open PySem L2
abbrev mQ:Stmt:=RQ.iA
abbrev qy:Stmt:=RQ.top 28
abbrev lE:Stmt:=RQ.top 87
abbrev An:Stmt:=RQ.top 88
end RO
end
namespace L2
open PySem PySem.Spec PyProof.Rows
abbrev Pr:=Int×Int
section
variable {X:Cx}{pins:@K}{σ:St}{H H':Hp}{s:Shared}
def lJ(H H':Hp):Prop:=(∀b xs,H b=@EP->H' b=@EP)/\∀b o u,H b=@E3->H' b=@E3
def lJ.trans{H H1 H2:Hp}(a:lJ H H1)(b:lJ H1 H2):lJ H H2:=⟨λc xs h=>b.1 c xs (a.1 c xs h),λc o u h=>b.2 c o u (a.2 c o u h)⟩
def ay.grow{H H':Hp}(e:@Cy):lJ H H':=⟨λb xs h=>e b _ h,λb o u h=>e b _ h⟩
def lJ.new{H:Hp}{l:Addr}{o:HO}(h:H l=none):lJ H (upd H l o):=⟨λb xs e=>by rw[aJ (aO e h)];exact e,λb o' u e=>by rw[aJ (aO e h)];exact e⟩
def ay.new{H:Hp}{l:Addr}{o:HO}(h:H l=none):ay H (upd H l o):=λb u e=>Kt.of (by rw[aJ (aO e h)];exact e)
def iO.grow{K:Frag}{a:Addr}{xs:List V}(h:@Cl)(g:lJ H H'):iO K H' a xs:=by
 rcases h with(h|⟨o,h⟩)|h
 ·exact .inl (.inl (g.1 _ _ h))
 ·exact .inl (.inr ⟨o,g.2 _ _ _ h⟩)
 ·exact .inr h
def lJ.list{a:Addr}{ys:List V}{o:HO}(h:H a=some @Lx):lJ H @GC:=
 ⟨λb xs e=>by rw[aJ (Mk e h (by intro z;cases z))];exact e,λb o' u e=>by rw[aJ (Mk e h (by intro z;cases z))];exact e⟩
def cq(K:Frag)(H:Hp):List V->@F->Prop:=Paired λv p=>∃a,v=.ref a/\iO K H a [.int p.1,.int p.2]
def cq.grow{K:Frag}{vs:List V}{ps:@F}(h:@Ns)(g:lJ H H'):cq K H' vs ps:=Paired.mapP h λv p ⟨a,e,q⟩=>⟨a,e,q.grow g⟩
theorem Paired.getP{α β:Type}{F:α->β->Prop}:∀{l:@Bl} {m:List β} {i:Nat} {x:α},Paired F l m->l[i]? =some x->∃y,m[i]? =some y/\F x y
 |_,_,_,_,.nil,e=>by simp at e
 |_,_,0,_,.cons r _,e=>by simp at e;subst e;exact @Kx
 |_,_,i+1,x,.cons _ t,e=>by
  obtain⟨u,h1,h2⟩:=Paired.getP (i:=i) (x:=x) t (by simpa using e)
  exact⟨u,by simpa using h1,h2⟩
end
def iV(cells:List (Str×Addr)):List (Str×NameKind)->List (Str×Addr)->List (Str×Addr)
 | [],cs=>cs
 | (n,k)::r,cs=>iV cells r (if k==.free then(n,(cells.lookup n).getD 0)::cs else cs)
def mW{scope:Scope}{env:Env}(h:∀y∈scope.names,y.2=.free->∃c,env.cells.lookup y.1=some c):closureFor scope env=pure (iV env.cells scope.names []):=by
 unfold closureFor
 have key:∀(l:List (Str×NameKind)) (cs:List (Str×Addr)),(∀y∈l,y.2=.free->∃c,env.cells.lookup y.1=some c)->
   (forIn l cs (λ(x:Str×NameKind) (r:List (Str×Addr))=>if(x.2==NameKind.free)=true then(do let a <-cellOf env x.1;pure (ForInStep.yield ((x.1,a)::r)):Sem _)else @Vl):Sem (List (Str×Addr)))=pure (iV env.cells l cs):=by
  intro l
  induction l with
  |nil=>intro cs _;rfl
  |cons y l ih=>
   intro cs hy
   obtain⟨n,k⟩:=y
   rw[List.forIn_cons]
   unfold iV
   by_cases hk:(k==NameKind.free)=true
   ·have hk':k=.free:=by simpa using hk
    obtain⟨c,hc⟩:=hy (n,k) (UG ..) hk'
    have hce:cellOf env n=pure c:=by unfold cellOf;rw[hc]
    simp only[hk,V5]
    have hc':env.cells.lookup n=some c:=hc
    rw[hce,hc']
    simp only[pure_bind,Option.getD_some]
    exact ih _ λz hz=>hy z (UI _ hz)
   ·simp only[hk,WL,V4]
    simp only[pure_bind]
    exact ih _ λz hz=>hy z (UI _ hz)
 have:=key scope.names [] h
 simp only[bind_pure_comp]at this ⊢
 first
  |exact this
  | (rw[this];rfl)
  | (simpa using this)
theorem oZ{cells:List (Str×Addr)}{x:Str}:∀{l:List (Str×NameKind)} {cs:List (Str×Addr)},((x,NameKind.free)∈l\/cs.lookup x=some ((@Ug).getD 0))->(iV cells l cs).lookup x=some ((@Ug).getD 0)
 | [],cs,h=>by
  rcases h with h|h
  ·cases h
  ·exact h
 | (n,k)::r,cs,h=>by
  unfold iV
  refine oZ ?_
  by_cases hk:(k==NameKind.free)=true
  ·rw[Uz hk]
   by_cases hx:x=n
   ·subst hx;right;simp
   ·rcases h with h|h
    ·rcases UD.mp h with e|e
     ·injection e with e1 _;exact absurd e1 hx
     ·exact .inl e
    ·right
     rw[WB,show(x==n)=false by simpa using hx]
     exact h
  ·rw[UJ hk]
   rcases h with h|h
   ·rcases UD.mp h with e|e
    ·injection e with _ e2;exact absurd (by rw[<-e2];rfl) hk
    ·exact .inl e
   ·exact .inr h
theorem lL{cells:List (Str×Addr)}{x:Str}{c:Addr}:∀{l:List (Str×NameKind)} {cs:List (Str×Addr)},(iV cells l cs).lookup x=some c->((x,NameKind.free)∈l/\c=(@Ug).getD 0)\/cs.lookup x=some c
 | [],cs,h=>.inr h
 | (n,k)::r,cs,h=>by
  unfold iV at h
  rcases lL h with⟨a,b⟩|a
  ·exact .inl ⟨UI _ a,b⟩
  ·by_cases hk:(k==NameKind.free)=true
   ·rw[Uz hk,WB]at a
    by_cases hx:x=n
    ·subst hx
     simp at a
     have:k=.free:=by simpa using hk
     subst this
     exact .inl ⟨UG ..,a.symm⟩
    ·rw[show(x==n)=false by simpa using hx]at a
     exact .inr a
   ·rw[UJ hk]at a
    exact .inr a
theorem rS{f:Str->NameKind->NameKind}{x:Str}:∀(l:List (Str×NameKind)),(l.map λy=>(y.1,f y.1 y.2)).lookup x=(l.lookup x).map (f x)
 | []=>rfl
 | (n,k)::l=>by
  rw[Vj,WB,WB]
  by_cases hx:x=n
  ·subst hx;simp
  ·have hb:(x==n)=false:=by simpa using hx
   simp only[hb]
   exact rS l
def um(scope:Scope)(env:Env)(x:Str):(relabel scope env).names.lookup x=(@Cm).map λk=>if(k==.free&&env.scope.kind==@JB&&@Rh==@B8)then .cell else k:=by
 have e:(relabel scope env).names=scope.names.map λy=>(y.1,if(y.2==.free&&env.scope.kind==@JB&&env.kindOf y.1==@B8)then .cell else y.2):=by
  unfold relabel
  dsimp only
  refine Vu λy _=>?_
  obtain⟨n,k⟩:=y
  dsimp only
  split<;>rfl
 rw[e]
 exact rS (f:=λn k=>if(k==.free&&env.scope.kind==@JB&&env.kindOf n==@B8)then .cell else k) scope.names
theorem ot:∀(l:List (Str×NameKind)) (n:Nat) (acc:List (Str×Addr)),cellsFrom n l acc=cellsFrom n l []++acc
 | [],_,_=>rfl
 | (x,k)::r,n,acc=>by
  unfold cellsFrom
  split
  ·rw[ot r (n+1) ((x,n)::acc),ot r (n+1) [(x,n)],Vr];rfl
  ·exact ot r n acc
theorem qY:∀{l:List (Str×NameKind)} {n:Nat} {x:Str} {c:Addr},(x,c)∈cellsFrom n l []->n<=c/\(x,NameKind.cell)∈l
 | [],_,_,_,h=>by cases h
 | (y,k)::r,n,x,c,h=>by
  unfold cellsFrom at h
  split at h
  ·rename_i hk
   have hk:k=.cell:=by simpa using hk
   rw[ot]at h
   rcases UW.mp h with h|h
   ·have:=qY h;exact⟨@B,UI _ this.2⟩
   ·rw[UP]at h;cases h;subst hk;exact⟨UC _,UG ..⟩
  ·have:=qY h;exact⟨this.1,UI _ this.2⟩
abbrev EN(X:Cx)(scope:Scope)(C:Addr):List (Str×Addr):=cellsFrom (C+1) scope.names (@m)
def Cz{M:Model}{A:Around}{E:@L}{s:Shared}{scope:Scope}{g:Addr}{cl:List (Str×Addr)}{qual:Str}{env:Env}{Q:Env->Shared->Prop}
  (h:∀h',h'.Ns s.heap.objs.size (λ_=>none)->(∀b o,s.heap.get? b=some o->h'.get? b=some o)->CellsOk h' (s.heap.objs.size+1) (cellsFrom (s.heap.objs.size+1) scope.names [])->Q (newEnv scope s.heap.objs.size g (cellsFrom (s.heap.objs.size+1) scope.names cl) qual none .none (some env) builtinsNs) {s with heap:=h'}) :
  wpAny M A (newFunctionEnv scope g cl [] qual none .none (some env)) Q E s:=by
 simp only[newFunctionEnv,Option.isSome_some,V5]
 refine UA (wpAny_alloc ?_)
 refine UA (wpAny_layCells _ (λname kind cells=>by cases hkc:kind==NameKind.cell<;>simp[hkc]) _ _ _ _ ?_)
 have ok:=cellsFrom_ok scope.names (s.heap.push {cls:=@JF,data:=.dict #[]}) (s.heap.objs.size+1) [] ⟨λ_ _ hm=>(nomatch hm),List.Pairwise.nil⟩ (by rw[VC];exact UC _)
 rw[VC]at ok
 rw[show({s with heap:=s.heap.push {cls:=@JF,data:=.dict #[]}}:Shared).heap.objs.size=s.heap.objs.size+1 from VC ..]
 rw[List.forIn_nil]
 exact UA (U3 (U3 (h _ ((Heap.Ns.new s.heap (@JF)).keeps (pushCells_keeps _ _)) (λb o e=>pushCells_keeps _ _ b o (Ux _ e)) ok)))
def gB(X:Cx)(NB:@a)(scope:Scope)(C:Addr)(ex:@Ao)(s3:Shared)(H3:Hp)(pn:@K):Cx:=
 {X with N:=NB,s₀:=s3,H₀:=H3,env:=compEnvC scope (EN X scope C) C X.env,outer:=X.stack,ex:=ex,fn:=λx=>@Cm==@B8,pn:=pn,xe:=λ_ _=>False}
def cj(own:Nat)(ixs:@c)(σ:St):St:=List.replicate own none++ixs.map λi=>(σ[i]?).join
structure bO(X:Cx)(NB:@a)(own:Nat)(ixs:@c)(scope:Scope):Prop where
 kind:scope.kind=@JB
 names:∀y∈scope.names,scope.names.lookup y.1=some y.2
 frees:∀y∈scope.names,y.2=.free->X.env.kindOf y.1=@B8\/X.env.kindOf y.1=@Hj
 nd:NB.Nodup
 len:NB.length=own+ixs.length
 at':∀k,k<ixs.length->NB[own+k]? =X.N[@Nu]?/\∀x,NB[own+k]? =some x->(x,NameKind.free)∈scope.names
section
variable {X:Cx}{NB:@a}{own:Nat}{ixs:@c}{scope:Scope}{pins:@K}{σ:St}{H:Hp}{s:Shared}
def wZ(S:@BK)(I:@D){fp:@Ao}(hfp:∀b∈fp,@IF)(hob:∀b∈fp,∃o,s.heap.get? b=some o){h1:Heap}{tk:Nat}
  (hn:h1.Ns s.heap.objs.size (λ_=>none)) (hk:∀b o,s.heap.get? b=some o->h1.get? b=some o) (hcl:CellsOk h1 (s.heap.objs.size+1) (cellsFrom (s.heap.objs.size+1) scope.names [])) :
  Inv (gB X NB scope s.heap.objs.size fp s H (X.pn++pins)) [] @BR H {s with heap:=h1,toks:=tk}:=by
 have stk:=I.stack
 have frees:∀{x:Str},(x,NameKind.free)∈scope.names->∃c,@x=some c:=λ{x} hx=>@Ry
 have clE:∀{x:Str} {c:Addr},(@TB).lookup x=some c->((x,c)∈cellsFrom (s.heap.objs.size+1) scope.names []/\s.heap.objs.size<c)\/((x,NameKind.free)∈scope.names/\@x=some c):=λ{x c} h=>by
  unfold EN at h
  rw[ot,W8]at h
  cases q:(cellsFrom (s.heap.objs.size+1) scope.names []).lookup x with
  |some c'=>
   rw[q]at h
   cases h
   have hm:=Vt q
   exact .inl ⟨hm,(qY hm).1⟩
  |none=>
   rw[q]at h
   have h:(@m).lookup x=some c:=h
   rcases lL h with⟨a,b⟩|a
   ·obtain⟨c',e⟩:=frees a
    rw[e]at b
    exact .inr ⟨a,by rw[e,b];rfl⟩
   ·simp at a
 have clF:∀{x:Str},(x,NameKind.free)∈scope.names->(@TB).lookup x=some ((@x).getD 0):=λ{x} hm=>by
  unfold EN
  rw[ot,W8]
  cases q:(cellsFrom (s.heap.objs.size+1) scope.names []).lookup x with
  |some c'=>
   have h1:=S.names _ (qY (Vt q)).2
   have h2:=@YV
   dsimp only at h1 h2
   rw[h1]at h2
   cases h2
  |none=>exact oZ (.inl hm)
 have kindB:∀x,(gB X NB scope s.heap.objs.size fp s H (X.pn++pins)).env.kindOf x=(@Cm).map λk=>if(k==.free&&X.env.scope.kind==@JB&&@Iv==@B8)then .cell else k:=λx=>um scope X.env x
 have isFree:∀{x:Str},((gB X NB scope s.heap.objs.size fp s H (X.pn++pins)).env.kindOf x=@B8\/(gB X NB scope s.heap.objs.size fp s H (X.pn++pins)).env.kindOf x=@Hj)->(x,NameKind.free)∈scope.names\/@Cm=@B8:=λ{x} h=>by
  rw[kindB]at h
  cases e:@Cm with
  |none=>rw[e]at h;simp at h
  |some k=>
   have hm:=Vt e
   cases k with
   |free=>exact .inl hm
   |cell=>exact @Fe
   |_=>rw[e]at h;simp at h
 have neN:∀b o,s.heap.get? b=some o->b≠s.heap.objs.size:=λb o e=>@P6
 have cellN:∀{x:Str} {c:Addr},@x=some c->c<s.heap.objs.size:=λ{x c} e=>by
  obtain⟨v,o,ho,_⟩:=@Nb
  exact UK ho
 have ok:(gB X NB scope s.heap.objs.size fp s H (X.pn++pins)).Ok:=by
  refine⟨I.ok.mod,S.kind,I.ok.glob,I.ok.blt,UC _,λx y c h1 h2=>?_,λx hx=>?_,λx c h hc=>?_,I.ok.hd,I.ok.frames,@BQ,λb hb=>?_,I.bs,@R2,λb o e hb=>?_,λb hb hs=>?_,stk,I.stkFree⟩
  ·rcases clE h1 with⟨a,l1⟩|⟨a,l1⟩
   ·rcases clE h2 with⟨b,l2⟩|⟨b,l2⟩
    ·exact name_of_addr hcl.apart a b
    ·exact absurd (WC l1 (cellN l2)) (U8 _)
   ·rcases clE h2 with⟨b,l2⟩|⟨b,l2⟩
    ·exact absurd (WC l2 (cellN l1)) (U8 _)
    ·exact I.ok.inj x y c l1 l2
  ·rcases isFree hx with hm|hm
   ·exact⟨_,clF hm⟩
   ·obtain⟨c,hc⟩:=Wa.mp (Wi scope.names (s.heap.objs.size+1) (@m) (.inl hm))
    exact⟨c,hc⟩
  ·rcases clE hc with⟨a,l1⟩|⟨a,l1⟩
   ·exact WT l1
   ·have h1:=S.names _ a
    dsimp only at h1
    have h:(@Cm==some NameKind.cell)=true:=h
    rw[h1]at h
    cases h
  ·obtain⟨_,f1,f2,f3,f4,f5⟩:=hfp b hb
   obtain⟨o,ho⟩:=hob b hb
   refine⟨neN b o ho,λx c h z=>?_⟩
   rcases clE h with⟨a,l1⟩|⟨a,l1⟩
   ·rw[z]at l1
    exact U8 _ (WC l1 (UK ho))
   ·exact f4 x c l1 z
  ·obtain⟨_,f1,f2,f3,f4,f5⟩:=hfp b hb
   rcases f3 with f3|f3
   ·exact I.ok.noex b o e f3
   ·exact absurd (UZ (UK e) (Vp I.ok.bsz f3)) (U8 _)
  ·obtain⟨_,f1,f2,f3,f4,f5⟩:=hfp b hb
   rcases UD.mp (I.stkSub b hs)with z|z
   ·exact f1 z
   ·exact f2 z
 refine⟨ok,rfl,I.bare,Un.kept hk,⟨_,hn,λi x v h1' h2' h3'=>?_⟩,λx c h=>?_,@Bf,λx c h=>?_,λp hp=>?_,I.hok.kept hk,?_⟩
 ·
  have h1':NB[i]? =some x:=h1'
  have hown:own<=i:=by
   refine Classical.byContradiction λhc=>?_
   have hlt:i<own:=Nat.lt_of_not_le hc
   unfold cj at h2'
   rw[U6 (by simpa using hlt),VJ,Uz hlt]at h2'
   cases h2'
  obtain⟨k,rfl⟩:∃k,i=own+k:=⟨i-own,@B ⟩
  have hk':k<ixs.length:=by
   have:=(Uy.mp h1').1
   rw[S.len]at this;omega
  obtain⟨e1,e2⟩:=S.at' k hk'
  have hm:=e2 x h1'
  unfold cj at h2'
  rw[U9 @W,Vs,Nat.add_sub_cancel_left,UN,UB hk']at h2'
  simp only[W3,Option.some.injEq]at h2'
  have hix:@Nu=ixs[k]:=by simp[hk']
  have hσ:σ[ixs[k]]? =@Fd:=by
   cases e:σ[ixs[k]]? with
   |none=>rw[e]at h2';cases h2'
   |some o=>rw[e]at h2';simp at h2';rw[h2']
  rw[e1,hix]at h1'
  have hkind:=S.frees _ hm rfl
  have hvis:@Ca:=hkind.elim (λz=>.inr (.inl z)) (λz=>.inr (.inr z))
  obtain⟨m,hm',hl⟩:=I.loc
  obtain⟨u,r,look⟩:=hl _ x v h1' hσ hvis
  refine⟨u,r,.inr ⟨?_,?_⟩⟩
  ·rw[kindB]
   have hfr:@Cm=@Hj:=@YV
   rw[hfr]
   simp only[W3]
   split
   ·exact @BQ
   ·exact @Fe
  ·rcases look with⟨z,_⟩|⟨_,c,hc,hcell⟩
   ·rcases hkind with q|q
    ·rw[q]at z;cases z
    ·rw[q]at z;cases z
   ·refine⟨c,?_,?_⟩
    ·have:=clF hm
     rw[hc]at this
     exact this
    ·obtain⟨o,ho,hd⟩:=hcell
     exact⟨o,@Yh,hd⟩
 ·rcases clE h with⟨a,_⟩|⟨_,l1⟩
  ·exact⟨_,(hcl.empty _ _ a).1⟩
  ·obtain⟨v,o,ho,hd⟩:=I.cell x c l1
   exact⟨v,o,@Yh,hd⟩
 ·rcases clE h with⟨_,l1⟩|⟨_,l1⟩
  ·exact I.hok.fresh (WT l1)
  ·exact I.freeC x c l1
 ·have hp':p∈X.pn++pins:=by
   rcases @Kq with z|z
   ·exact z
   ·cases z
  obtain⟨e,n,ne,nf,d⟩:=I.pin p hp'
  refine⟨hk _ _ e,n,neN _ _ e,λz=>?_,d⟩
  rcases UD.mp (I.stkSub _ z)with q|q
  ·exact ne q
  ·exact nf q
 ·show(cj own ixs σ).length=NB.length
  unfold cj
  rw[S.len];simp
end
abbrev CD(ifs:@Ac)(env:Env):Sem Bool:=forIn ifs true λc r=>if r=true then do let ok <-isTrue c env (eval c env);pure (ForInStep.yield ok)else @Vl
theorem xw{prog:Program}{w:World}{A:Around}{R:Result->Shared->Prop}{s:Shared}{elt target iter:Expr}{ifs:@Ac}{scope:Scope}{pos:Pos}{it acc:Value}{env:Env}(I:Nat->Shared->Prop)
  (turn:∀n s,I n s->wpAny @Ak A (pyNext it) (λr s1=>match r with
   |none=>R (.ok .next) s1
   |some v=>wpAny @Ak A (letOwnedTupleGo target it v) (λ_ s1'=>wpAny @Ak A (assign target env v) (λ_ s2=>
     wpAny @Ak A (CD ifs env) (λok s3=>
      if ok=true then wpAny @Ak A (eval elt env) (λx s4=>wpAny @Ak A (call (.builtin "list.append") [acc,x]) (λ_ s5=>∃m,m<n/\I m s5) (λ_ _=>False) s4) (λ_ _=>False) s3
      else ∃m,m<n/\I m s3) (λ_ _=>False) s2) (λ_ _=>False) s1') (λ_ _=>False) s1) (λ_ _=>False) s)
  (n:Nat) (h:I n s):codeAny @Ak A (.compLoop @Jz 0 it acc env) R s:=by
 refine codeAny_loop rfl I (λn s hI=>?_) n h
 (show wpAny _ A ((compTurn @Jz 0 it acc env).onRaise (λx=>do (noteFrame x env);theTreesLotGoes x)) _ _ s)
 refine wpAny_noted ?_
 rw[compTurn_list]
 refine UA (wpAny_standAt (UA (Vx (turn n s hI) (λr s1 h1=>?_) λ_ _ z=>z.elim)))
 cases r with
 |none=>exact U3 h1
 |some v=>
  refine UA (Vx h1 (λ_ s1' h1'=>?_) λ_ _ z=>z.elim)
  refine UA (Vx h1' (λ_ s2 h2=>UA (Vx h2 (λok s3 h3=>?_) λ_ _ z=>z.elim)) λ_ _ z=>z.elim)
  cases ok with
  |false=>exact U3 ⟨rfl,h3⟩
  |true=>exact UA (UA (Vx h3 (λx s4 h4=>UA (Vx h4 (λ_ s5 h5=>U3 (U3 ⟨rfl,h5⟩)) λ_ _ z=>z.elim)) λ_ _ z=>z.elim))
def Ck(X:Cx)(ifs:@Ac)(t:TT):Prop:=
 ∀(pins:@K) (s:Shared) (σ:St) (H:Hp) (Q:Bool->Hp->Prop),@D->@IH->wpAny @N X.A (CD ifs X.env) @MS X.xe s
def NG:TT:=λ_ H Q=>Q true H
def sV{X:Cx}:Ck X [] NG:=λpins s σ H Q I h=>U3 ⟨H,I,h⟩
def x8{X:Cx}{c:Expr}{t:TT}(h:PT X c t):Ck X [c] t:=λpins s σ H Q I q=>wpAny_tests_one (h pins s σ H Q I q)
def Bb(own:Nat)(ixs:@c)(wi:TI)(g:TG)(tt:TT)(te:TE)(σ:St)(H:Hp)(Q:VK):Prop:=wi σ H λJ H1=>∀D,H1 D=none->∃W:Nat->Nat->St->Hp->Prop,(∃m,@Hh)/\∀i m σ' H',@Da->
 (@MF/\(∃acc,H' D=@Aj)/\@Kn)\/
 (@Pt/\∃N:St->Hp->Prop,(∀σ2 H2,@N_->∃m',m'<m/\W (i+1) m' σ2 H2)/\∀x H2,@H6->g x σ' H2 λσ3 H3=>tt σ3 H3 λb H4=>
  if b=true then te σ3 H4 λv H5=>∃acc,H5 D=@Aj/\acc.length<sizeLine/\N σ3 (upd H5 D (.lst (acc++[v])))else @WO)
section
variable {X:Cx}{NB:@a}{own:Nat}{ixs:@c}{scope:Scope}{elt tg iter:Expr}{ifs:@Ac}{pos:Pos}{wi:TI}{g:TG}{tt:TT}{te:TE}
def wF(hc:X.calm=true)(S:@BK)
  (hg:∀C ex s3 H3 pn,@La) (ht:∀C ex s3 H3 pn,@JH) (he:∀C ex s3 H3 pn,@JK)
  {pins:@K} {σ:St} {H1:Hp} {s2:Shared} {it:Addr} {fp:@Ao} {tn:Nat->Heap->Prop} {J:It} {Q:VK} (I2:Inv X pins σ H1 s2) (T:@P2) (st2:@Ro) (f2:∀b∈fp,i2 X pins H1 b)
  (hQ:∀D,H1 D=none->∃W:Nat->Nat->St->Hp->Prop,(∃m,@Hh)/\∀i m σ' H',@Da->
   (@MF/\(∃acc,H' D=@Aj)/\@Kn)\/
   (@Pt/\∃N:St->Hp->Prop,(∀σ2 H2,@N_->∃m',m'<m/\W (i+1) m' σ2 H2)/\∀x H2,@H6->g x σ' H2 λσ3 H3=>tt σ3 H3 λb H4=>
    if b=true then te σ3 H4 λv H5=>∃acc,H5 D=@Aj/\acc.length<sizeLine/\N σ3 (upd H5 D (.lst (acc++[v])))else @WO))
  {E:@L} {RR:Value->Addr->Result->Shared->Prop}
  (fin:∀D C H' s' m,@CB->@Kn->s'.heap.Ns C m->H' C=none->C≠X.env.locals->(∀x c,@x=some c->c≠C)->X.s₀.heap.objs.size<=C->(∀p∈X.pn++pins,p.1≠C)->@WQ) :
  wpAny @N X.A @Xv (λacc s3=>wpAny @N X.A @Fp (λcenv s4=>
   codeAny @N X.A (.compStart @h 0 @Cv acc {cenv with scope:=relabel scope X.env}) (RR acc cenv.locals) s4) E s3) E s2:=by
 refine wpAny_newList ?_ (Vl _)
 have hD:H1 s2.heap.objs.size=none:=I2.hok.fresh (UC _)
 obtain⟨W,⟨m0,w0⟩,turn⟩:=@Wk
 generalize hs3:({s2 with heap:=s2.heap.push (seqObj "list" ([]:@e).toArray 0)}:Shared)=s3
 have I3:Inv X pins σ @AY s3:=by
  rw[<-hs3]
  exact I2.lnew (ys:=[]) (its:=[]) (t':=s2.toks) .nil (Vl _)
 have k3:∀b o,s2.heap.get? b=some o->s3.heap.get? b=some o:=λb o e=>by rw[<-hs3];exact Ux _ e
 have sz3:s3.heap.objs.size=s2.heap.objs.size+1:=by rw[<-hs3];exact VC ..
 have ob2:∀b∈fp,∃o,s2.heap.get? b=some o:=λb hb=>let⟨o,e,_⟩:=T.obj 0 _ st2 b hb;⟨o,e⟩
 have neD:∀b∈fp,b≠s2.heap.objs.size:=λb hb=>let⟨o,e⟩:=@Sa;@P6
 have f3:∀b∈fp,i2 X pins @AY b:=λb hb=>by
  obtain⟨a1,a2⟩:=f2 b hb
  exact⟨by rw[aJ (neD b hb)];exact a1,a2⟩
 have st3:tn 0 s3.heap:=T.keep _ _ _ st2 λb _ o e=>k3 b o e
 refine Cz λh4 hn4 k4 ok4=>?_
 have I4:Inv (gB X NB scope s3.heap.objs.size fp s3 @AY (X.pn++pins)) [] @BR @AY {s3 with heap:=h4}:=
  wZ S I3 f3 (λb hb=>let⟨o,e⟩:=@Sa;⟨o,k3 _ _ e⟩) hn4 k4 ok4
 have st4:tn 0 h4:=T.keep _ _ _ st3 λb _ o e=>k4 b o e
 generalize hB:gB X NB scope s3.heap.objs.size fp s3 @AY (X.pn++pins)=B at I4
 have hgB:PG B tg g:=by rw[<-hB];exact hg _ _ _ _ _
 have htB:Ck B ifs tt:=by rw[<-hB];exact ht _ _ _ _ _
 have heB:PE B elt te:=by rw[<-hB];exact he _ _ _ _ _
 have eP:B.prog=X.prog:=by rw[<-hB];rfl
 have eW:B.w=X.w:=by rw[<-hB];rfl
 have eK:B.K=X.K:=by rw[<-hB];rfl
 have eA:B.A=X.A:=by rw[<-hB];rfl
 have eC:B.calm=true:=by rw[<-hB];exact hc
 have eX:B.xe=λ_ _=>False:=by rw[<-hB];rfl
 have eE:B.env=@BY:=by rw[<-hB];rfl
 have ex:B.ex=fp:=by rw[<-hB];rfl
 have eL:B.env.locals=s3.heap.objs.size:=by rw[eE];rfl
 have stat:∀{H':Hp},(∀b∈fp,H' b=none)->∀b∈fp,i2 B [] H' b:=λ{H'} hn b hb=>by
  obtain⟨a1,a2,a3,a4,a5,a6⟩:=@Wf
  obtain⟨o,eo⟩:=@Sa
  refine⟨hn b hb,?_,λz=>?_,.inl (by rw[ex];exact hb),λx c e z=>?_,λp hp z=>?_⟩
  ·rw[eL];exact Vc @MT
  ·have hz:b∈@CI:=by rw[<-hB]at z;exact z
   rcases UD.mp (I3.stkSub b hz)with q|q
   ·exact a2 q
   ·exact a3 q
  ·rw[eE]at e
   have e:(@SK).lookup x=some c:=e
   unfold EN at e
   rw[ot,W8]at e
   cases q:(cellsFrom (s3.heap.objs.size+1) scope.names []).lookup x with
   |some c'=>
    rw[q]at e
    cases e
    have l1:=(qY (Vt q)).1
    rw[z]at l1
    exact U8 _ (WC l1 @MT)
   |none=>
    rw[q]at e
    have e:(@m).lookup x=some c:=e
    rcases lL e with⟨m1,m2⟩|m1
    ·obtain⟨c',e'⟩:=@RW
     rw[e']at m2
     exact a5 x c' e' (by rw[<-z,m2];rfl)
    ·simp at m1
  ·have hp':p∈X.pn++pins:=by
    rw[<-hB]at hp
    rcases @Kq with q|q
    ·exact q
    ·cases q
   exact a6 p hp' z
 have back:∀{σ':St} {H':Hp} {s':Shared},@Kk->@CB:=λ{σ' H' s'} J'=>by
  have u:=J'.base
  have os:=J'.os
  have bare:=J'.bare
  have hok:=J'.hok
  subst hB
  exact I3.call' (ch:=fp) os u hok bare λb hb=>by
   obtain⟨a1,a2,a3,a4,a5,a6⟩:=@Wf
   exact⟨a4,a2,a5,a6⟩
 have loop:∀s5:Shared,s5={s3 with heap:=h4}->
   @GS:=by
  rintro s5 rfl
  refine xw (λn s'=>∃i σ' H',@Kk/\@Yv/\(∀b∈fp,H' b=none)/\@YW) ?_ m0 ⟨0,_,_,I4,st4,λb hb=>(@Wf).1,w0⟩
  rintro n s6 ⟨i,σ6,H6,I6,st6,fr6,w6⟩
  rcases turn i n σ6 H6 w6 with⟨stop,⟨acc,hacc⟩,qn⟩|⟨go,N,hN,step⟩
  ·have:=T.done B eP eW eK eC i [] s6 σ6 H6 (λ_ _=>False) I6 @U9 st6 stop
   rw[eA]at this
   refine cK this λr s7 ⟨hr,I7⟩=>?_
   subst hr
   obtain⟨m7,hn7,_⟩:=I7.loc
   rw[eL]at hn7
   have J7:=back I7
   refine fin _ _ H6 s7 m7 J7 qn hn7 (by rw[<-eL];exact I7.free) (λz=>?_) (λx c e z=>?_) ?_ λp hp z=>?_
   ·have:=I3.lt
    rw[<-z]at this
    exact U8 _ this
   ·obtain⟨v,o,ho,_⟩:=I3.cell x c e
    exact absurd (UK ho) (by rw[z];exact U8 _)
   ·exact I3.sz
   ·have:=UK (I3.pin p hp).1
    rw[z]at this
    exact U8 _ this
  ·have hitem:=T.item B eP eW eK eC i [] s6 σ6 H6 (λ_ _=>False) I6 @U9 st6 go
   rw[eA]at hitem
   refine cK hitem λr s7 ⟨u,hr,h7⟩=>?_
   subst hr
   refine cK h7 λ_ s8 ⟨x,H8,I8,r8,y8,st8,fr8⟩=>?_
   have I8':=@Oi
   have ha:=@MO
   rw[eP,eW,eA,eE,eX]at ha
   refine cK ha λ_ s9 ⟨σ9,H9,I9,q9⟩=>?_
   have hb:=@Wn
   rw[eP,eW,eA,eE,eX]at hb
   refine cK hb λok s10 ⟨H10,I10,q10⟩=>?_
   have again:∀{σ7:St} {H7:Hp} {s7:Shared},Inv B ([]++rJ fp s8.heap) σ7 H7 s7->N σ7 H7->∃m,m<n/\∃i σ' H',Inv B [] σ' H' s7/\@Yw/\(∀b∈fp,H' b=none)/\@Da:=λ{σ7 H7 s7} I7 n7=>by
    obtain⟨m',hm,w7⟩:=@Yg
    refine⟨m',hm,i+1,σ7,H7,I7.unpinned,T.keep _ _ _ st8 λb hb o e=>(I7.pin (b,o) @EF).1,λb hb=>?_,w7⟩
    obtain⟨o,e,d⟩:=T.obj _ _ st8 b hb
    exact(I7.pin (b,o) @EF).2.1
   cases ok with
   |false=>
    simp only[V4,WL]at q10 ⊢
    exact again I10 q10
   |true=>
    simp only[V5]at q10 ⊢
    have hv:=@TZ
    rw[eP,eW,eA,eE,eX]at hv
    refine cK hv λy s11 ⟨v,H11,I11,r11,acc,hacc,hz,q11⟩=>?_
    have hap:=oM (X:=B) _ s11 σ9 H11 @CR [v] @CR [y] (λz H'=>z=.non/\N σ9 H') I11 rfl (.cons r11 .nil) @OZ
    rw[eP,eW,eA,eX]at hap
    exact cK hap λ_ s12 ⟨_,H12,I12,_,_,q12⟩=>again I12 q12
 exact @Gg
def Av(hc:X.calm=true)(S:@BK)(hi:@Nk)
  (hg:∀C ex s3 H3 pn,@La) (ht:∀C ex s3 H3 pn,@JH) (he:∀C ex s3 H3 pn,@JK)
  (hs:∀x,@Bj=pure x:=by intro _;rfl) :
  PE X @h (Bb own ixs wi g tt te):=by
 intro pins s σ H Q I h
 rw[eval_ListComp]
 refine W9 (use:=none) rfl hs (mW λy hy e=>@GG) S.kind (λy hy e=>by rw[S.names y hy,e]) ?_
 refine cK @IT λv s1 h1=>cK h1 λitv s2 h2=>?_
 obtain⟨it,fp,tn,J,H2,e,I2,T,st2,f2,q2⟩:=h2
 subst e
 refine wF hc S hg ht he I2 T st2 f2 q2 (RR:=λacc C=>@PA) λD C H' s' m J' q hn hC n1 n2 n3 n4=>?_
 refine⟨m,hn,λh'' sb=>⟨.ref D,H',?_,rfl,q⟩⟩
 exact J'.turned (t':=s'.toks) (it:=C) (λb o hb e=>@QH) hC n1 (.inr n3) n2 n4
def GV{i:Nat}{y:Str}{py spos:Pos}(hc:X.calm=true)(S:@BK)(hi:@Nk)
  (hg:∀C ex s3 H3 pn,@La) (ht:∀C ex s3 H3 pn,@JH) (he:∀C ex s3 H3 pn,@JK)
  (hN:X.N.Nodup) (hy:X.N[i]? =some y) (hl:@Ei=@Ae)
  (hsw:@M6=pure true)
  (hs:∀x,@Bj=pure x:=by intro _;rfl) :
  PS X @Vt (λD σ H=>Bb own ixs wi g tt te σ H λv H'=>D.nx (@EW) H'):=by
 intro pins s σ H D I h
 rw[exec_Assign_Name_used _ _ _ _ hsw]
 refine UA (wpAny_standAt (UA ?_))
 show wpAny _ X.A (comprehension @h scope X.env _ @Xv false @Qe (@LF) >>= λ_=>pure ()) _ _ s
 refine UA (Vx (W9 (use:=@LF) (Q:=λ_ s'=>SP X pins D .next s') rfl hs (mW λy hy e=>@GG) S.kind (λy hy e=>by rw[S.names y hy,e]) ?_)
  (λ_ s' hq=>U3 (U3 hq)) λ_ _ e=>e)
 refine cK @IT λv s1 h1=>cK h1 λitv s2 h2=>?_
 obtain⟨it,fp,tn,J,H2,e,I2,T,st2,f2,q2⟩:=h2
 subst e
 refine wF hc S hg ht he I2 T st2 f2 q2 (Q:=λv H'=>D.nx (@EW) H') (RR:=λacc C=>compPost @N X.A X.xe (@LF) (λ_ s'=>SP X pins D .next s') acc C) λD' C H' s' m J' q hn hC n1 n2 n3 n4=>?_
 show wpAny _ X.A (assign (@Gb) X.env (.ref D')) _ _ s'
 refine wpAny_assign_Name (w9 J' hN hy (.inl hl) (v:=.ref D') rfl (λs'' I'' ⟨a,sb,ha⟩=>?_) (.inr hl))
 have hCa:C≠a:=by
  rcases ha with z|z
  ·rw[z];exact n1
  ·exact(n2 _ _ z).symm
 refine⟨m,hn.sameBut sb hCa,λh3 sb3=>⟨_,H',?_,q⟩⟩
 exact I''.turned (t':=s''.toks) (it:=C) (λb o hb e=>sb3.extBut b o hb e) hC n1 (.inr n3) n2 n4
end
section
variable {own:Nat}{ixs:@c}{g:TG}{tt:TT}{te:TE}{σ:St}{H:Hp}{Q:VK}{K:Frag}{D a:Addr}{xs:List V}
abbrev dP(g:TG)(tt:TT)(te:TE)(D:Addr)(x:V)(σ:St)(H:Hp)(N:St->Hp->Prop):Prop:=g x σ H λσ3 H3=>tt σ3 H3 λb H4=>
  if b=true then te σ3 H4 λv H5=>∃acc,H5 D=@Aj/\acc.length<sizeLine/\N σ3 (upd H5 D (.lst (acc++[v])))else @WO
def EK(Pv:Nat->St->Hp->Prop)(h0:@Nl)(hl:∀i σ H,i<=xs.length->@Dh->@C6)
  (hs:∀i x σ H,xs[i]? =some x->@Dh->dP g tt te D x σ H (Pv (i+1))) (hd:∀σ H,@Ih->(∃acc,H D=@Aj)/\Q @BO H) :
  ∃W:Nat->Nat->St->Hp->Prop,(∃m,@P7)/\∀i m σ' H',@Da->
   ((DL K a).stop i H'/\(∃acc,H' D=@Aj)/\@Kn)\/
   ((DL K a).go i H'/\∃N:St->Hp->Prop,(∀σ2 H2,@N_->∃m',m'<m/\W (i+1) m' σ2 H2)/\∀x H2,(DL K a).yld i H' x H2->@IE):=by
 refine⟨λi m σ H=>m=xs.length-i/\i<=xs.length/\@Dh,⟨xs.length,by simp,Vl _,h0⟩,?_⟩
 rintro i m σ H ⟨rfl,hi,p⟩
 have q:=@Ui
 by_cases hlt:i<xs.length
 ·refine .inr ⟨⟨xs,xs[i],q,by simp[hlt]⟩,Pv (i+1),λσ' H' p'=>⟨xs.length-(i+1),@B,rfl,hlt,p'⟩,λx H' y=>?_⟩
  obtain⟨e,y⟩:=y
  subst e
  exact @M3
 ·have e:i=xs.length:=@B
  subst e
  exact @G4
def Cn{lo:Int}{n:Nat}(Pv:Nat->St->Hp->Prop)(h0:@Nl)
  (hs:∀i σ H,i<n->@Dh->dP g tt te D (.int (lo+i)) σ H (Pv (i+1))) (hd:∀σ H,@YO->(∃acc,H D=@Aj)/\Q @BO H) :
  ∃W:Nat->Nat->St->Hp->Prop,(∃m,@P7)/\∀i m σ' H',@Da->
   ((@MA).stop i H'/\(∃acc,H' D=@Aj)/\@Kn)\/
   ((@MA).go i H'/\∃N:St->Hp->Prop,(∀σ2 H2,@N_->∃m',m'<m/\W (i+1) m' σ2 H2)/\∀x H2,(@MA).yld i H' x H2->@IE):=by
 refine⟨λi m σ H=>m=n-i/\i<=n/\@Dh,⟨n,by simp,Vl _,h0⟩,?_⟩
 rintro i m σ H ⟨rfl,hi,p⟩
 by_cases hlt:i<n
 ·refine .inr ⟨hlt,Pv (i+1),λσ' H' p'=>⟨n-(i+1),@B,rfl,hlt,p'⟩,λx H' y=>?_⟩
  obtain⟨e,y⟩:=y
  subst e y
  exact @Ta
 ·have e:i=n:=@B
  subst e
  exact @K1
end
mutual
inductive Rep(K:Frag)(H:Hp):V->PyData->Prop
 |non:Rep K H .non .none
 |bl (b:Bool):Rep K H @L3 @LJ
 |int (i:Int):Rep K H @AJ @AJ
 |str (x:Str):Rep K H @Hr @Hr
 |tup {a:Addr} {xs:List V} {ds:@KE}:@Cl->@Ny->Rep K H @BU @D7
 |lst {a:Addr} {xs:List V} {ds:@KE}:@C6->@Ny->Rep K H @BU @Ej
inductive nt(K:Frag)(H:Hp):List V->@KE->Prop
 |nil:nt K H [] []
 |cons {x:V} {xs:List V} {d:PyData} {ds:@KE}:@TM->@Ny->nt K H (x::xs) (d::ds)
end
section
variable {X:Cx}{pins:@K}{σ:St}{H H':Hp}{s:Shared}
mutual
theorem Rep.reads(I:@D):∀{x:V} {d:PyData} {u:Value},Rep X.K H x d->@Iu->∃as,Reads s.heap u d as
 |_,_,_,.non,r=>by cases r;exact⟨_,.none⟩
 |_,_,_,.bl b,r=>by cases r;exact⟨_,.bool b⟩
 |_,_,_,.int i,r=>by obtain⟨t,rfl⟩:=r;exact⟨_,@ON ⟩
 |_,_,_,.str x,r=>by obtain⟨t,rfl⟩:=r;exact⟨_,.str x t⟩
 |_,_,_,.tup h hs,r=>by
  cases r
  obtain⟨its,rv,⟨o,ho,hc,n,hd⟩,_⟩:=I.tuple h
  obtain⟨as,q⟩:=nt.reads I hs rv
  exact⟨_,.tuple ho hc hd (by simpa using q)⟩
 |_,_,_,.lst h hs,r=>by
  cases r
  obtain⟨its,rv,pl,_⟩:=I.list h
  obtain⟨o,ho,hc,n,hd⟩:=pl.isList
  obtain⟨as,q⟩:=nt.reads I hs rv
  exact⟨_,.list ho hc hd (by simpa using q)⟩
theorem nt.reads(I:@D):∀{xs:List V} {ds:@KE} {us:@e},nt X.K H xs ds->@EU->∃as,ReadsAll s.heap us ds as
 |_,_,_,.nil,r=>by cases r;exact⟨_,.nil⟩
 |_,_,_,.cons h hs,r=>by
  cases r with
  |cons r1 r2=>
   obtain⟨as,q⟩:=Rep.reads I h r1
   obtain⟨bs,q'⟩:=nt.reads I hs r2
   exact⟨_,.cons q q'⟩
end
def NC(K:Frag)(neg:Bool):R2:=λx y H Q=>∃d e,@TM/\Rep K H y e/\@UX=true/\@Ey=true/\Q (.bl (if neg then !PyData.eqv d e else PyData.eqv d e)) H
def dU(hu:X.A.units+64<cLine):nv X (compareOp .Eq) (NC X.K false):=by
 intro pins s σ H x y v u Q I rx ry h
 obtain⟨d,e,h1,h2,s1,s2,q⟩:=h
 obtain⟨as,r1⟩:=h1.reads I rx
 obtain⟨bs,r2⟩:=h2.reads I ry
 exact SeqAt.compareEq_shaped r1 r2 s1 s2 hu @Y0
def j9(hu:X.A.units+64<cLine):nv X (compareOp .NotEq) (NC X.K true):=by
 intro pins s σ H x y v u Q I rx ry h
 obtain⟨d,e,h1,h2,s1,s2,q⟩:=h
 obtain⟨as,r1⟩:=h1.reads I rx
 obtain⟨bs,r2⟩:=h2.reads I ry
 exact SeqAt.compareNe_shaped r1 r2 s1 s2 hu @Y0
def OD(K:Frag)(neg:Bool):R2:=λx y H Q=>∃p xs d ds,y=.ref p/\(@KK\/@PF)/\@Ny/\@TM/\@UX=true/\(∀e,e∈ds->@Ey=true)/\
 Q (.bl (if neg then !(ds.any λe=>@G7)else ds.any λe=>@G7)) H
theorem nt.at'{K:Frag}:∀{xs:List V} {ds:@KE} {i:Nat} {x:V},@Ny->xs[i]? =some x->∃d,ds[i]? =some d/\@TM
 |_,_,_,_,.nil,e=>by simp at e
 |_,_,0,_,.cons r _,e=>by simp at e;subst e;exact @Kx
 |_,_,i+1,x,.cons _ t,e=>by
  obtain⟨u,h1,h2⟩:=nt.at' (i:=i) (x:=x) t (by simpa using e)
  exact⟨u,by simpa using h1,h2⟩
open Classical in
theorem qv(I:@D)(d:PyData):∀{xs:List V} {us:@e} {ds:@KE},@EU->nt X.K H xs ds->(∀e,e∈ds->@Ey=true)->∃f:Value->Bool,us.any f=(ds.any λe=>@G7)/\∀u,u∈us->∃e as,e∈ds/\@Eb/\f u=@G7:=by
 intro xs us ds hv hr hs
 let f:Value->Bool:=λu=>if h:∃e as,@Ey=true/\@Eb then PyData.eqv (@Ki) d else false
 have hf:∀{u:Value} {e:PyData} {as:@Ao},@Ey=true->@Eb->f u=@G7:=λ{u e as} h1 h2=>by
  have hx:∃e as,@Ey=true/\@Eb:=⟨e,as,h1,h2⟩
  show(if h:∃e as,@Ey=true/\@Eb then PyData.eqv (@Ki) d else false)=_
  rw[dif_pos hx]
  obtain⟨bs,q1,q2⟩:=Classical.choose_spec hx
  rw[SeqAt.Reads.unique _ _ _ _ _ (V8 q1) q2 h2]
 refine⟨f,?_,?_⟩
 ·induction hv generalizing ds with
  |nil=>cases hr;rfl
  | @cons x u xs us r1 r2 ih=>
   cases hr with
   | @cons _ _ e es h1 h2=>
    obtain⟨as,q⟩:=h1.reads I r1
    rw[Ws,Ws,hf (hs e (UG ..)) q,ih h2 λz hz=>hs z (UI _ hz)]
 ·intro u hu
  obtain⟨i,hi,e0⟩:=List.mem_iff_getElem.mp hu
  have hi':i<xs.length:=by rw[hv.length];exact hi
  obtain⟨u',eu,ru⟩:=hv.get (UB hi')
  rw[UB hi,e0]at eu
  cases eu
  obtain⟨e,ee,re⟩:=nt.at' hr (UB hi')
  obtain⟨as,q⟩:=re.reads I ru
  have hm:=U1 ee
  exact⟨e,as,hm,q,hf (hs e hm) q⟩
def yM(hu:X.A.units+100<cLine):nv X (compareOp .In) (OD X.K false):=by
 intro pins s σ H x y v u Q I rx ry h
 obtain⟨p,xs,d,ds,rfl,hq,hs,hx,s1,s2,q⟩:=h
 cases ry
 obtain⟨bs,r2⟩:=hx.reads I rx
 have key:∀{e:PyData} {as:@Ao} {u:Value},@Ey=true->@Eb->@Rb:=λ{e as u} h1 h2=>by
  refine SeqAt.eqAt_reads _ _ _ _ _ _ _ _ h2 r2 (V8 h1) (V8 s1) ?_
  have:=@VU
  show X.A.units+1+_<_
  omega
 rcases hq with hq|hq
 ·obtain⟨its,r,pl,hz⟩:=@G6
  obtain⟨f,e1,e2⟩:=@Or
  refine SeqAt.in_listAt f pl.isList (λw hw=>?_) ⟨.bl _,H,I,rfl,?_⟩
  ·obtain⟨e,as,hm,rd,ef⟩:=e2 w (by simpa using hw)
   rw[ef];exact @Me
  ·rw[show @Lo=@Yj by simp,e1];exact q
 ·obtain⟨its,r,pl,hz⟩:=@Ge
  obtain⟨f,e1,e2⟩:=@Or
  refine SeqAt.in_tupleAt f pl (λw hw=>?_) ⟨.bl _,H,I,rfl,?_⟩
  ·obtain⟨e,as,hm,rd,ef⟩:=e2 w (by simpa using hw)
   rw[ef];exact @Me
  ·rw[show @Lo=@Yj by simp,e1];exact q
inductive K0(K:Frag)(H:Hp):V->String->Prop
 |non:K0 K H .non "NoneType"
 |bl (b:Bool):K0 K H @L3 "bool"
 |int (i:Int):K0 K H @AJ "int"
 |str (x:Str):K0 K H @Hr "str"
 |tup {a:Addr} {xs:List V}:@Cl->K0 K H @BU "tuple"
 |lst {a:Addr} {xs:List V}:@C6->K0 K H @BU "list"
 |dic {a:Addr} {kvs:List (Key×V)}:H a=@Fl->K0 K H @BU "dict"
def R3(K:Frag):List V->Hp->VK->Prop:=λxs H Q=>∃x T t b,xs= [x,.ty T]/\K0 K H x t/\@Ra=some b/\Q @L3 H
theorem IK:fQ X @Hp (R3 X.K):=by
 intro pins s σ H xs us Q I r h
 obtain⟨x,T,t,b,rfl,ty,e,q⟩:=h
 obtain⟨u,c,rfl,rx,rc⟩:=@W3
 cases rc
 have fin:∀tk,EP X pins σ Q @LJ {s with toks:=tk}:=λtk=>@Jp
 cases ty with
 |non=>exact lS I rx .non e fin
 |bl b=>exact lS I rx @L3 e fin
 |int i=>exact lS I rx @AJ e fin
 |str z=>exact lS I rx (.str z) e fin
 |dic hk=>exact lS I rx (.dK hk) e fin
 |tup hq=>
  cases rx
  obtain⟨its,rv,⟨o,h1,h2,_⟩,_⟩:=@Ge
  exact Vv PySem.W.kitx_tuple I.kIn @W6 e (λz=>nomatch z) fin
 |lst hq=>
  cases rx
  obtain⟨its,rv,pl,_⟩:=@G6
  obtain⟨o,h1,h2,_⟩:=pl.isList
  exact Vv PySem.W.kitx_list I.kIn @W6 e (λz=>nomatch z) fin
def AN{A:Around}{its:@e}{bs:@En}(hv:Vals (@O_) its):TruthOf X.prog X.w A (λi v=>its[i]? =some v) (λi=>@ID):=λi v s Q E hi hq=>by
 have hl:=hv.length
 have hi2:i<bs.length:=by
  have:=(@Jl).1
  rw[<-hl]at this;simpa using this
 obtain⟨u,eu,ru⟩:=hv.get (i:=i) (x:=.bl bs[i]) (by simp[hi2])
 rw[hi]at eu;cases eu
 cases ru
 refine VN ?_
 have:@ID=bs[i]:=by simp[hi2]
 rw[<-this];exact hq
theorem range_all(bs:@En):(List.range bs.length).all (λi=>@ID)=@Cz:=by
 induction bs with
 |nil=>rfl
 |cons b bs ih=>
  rw[UY,List.range_succ_eq_map,W0,WU,W0,<-ih]
  rfl
theorem range_any(bs:@En):(List.range bs.length).any (λi=>@ID)=@Ll:=by
 induction bs with
 |nil=>rfl
 |cons b bs ih=>
  rw[UY,List.range_succ_eq_map,Ws,List.any_map,Ws,<-ih]
  rfl
def AZ(K:Frag)(f:@En->Bool):List V->Hp->VK->Prop:=λxs H Q=>∃a bs,xs= @F0/\jy K H a (@O_)/\Q (.bl (f bs)) H
def uw(hc:X.calm=true){a:Addr}{bs:@En}{Q:VK}(I:@D)(hq:jy X.K H a (@O_)){f:@En->Bool}{g:(Nat->Bool)->Nat->Bool}(hfg:g (λi=>@ID) bs.length=f bs)(q:Q (.bl (f bs)) H) :
  wpAny @N X.A.in1 (pyIter @BU) (λit s2=>∃Ii fp wr n P St tr,it=.ref Ii/\Walks X.prog X.w X.A.in1 Ii fp wr n P St/\St 0 s2.heap/\TruthOf X.prog X.w X.A.in1 P tr/\
   ∀h' tk,(∀b o,b∉wr->s2.heap.get? b=some o->h'.get? b=some o)->EP X pins σ Q (.bool (g tr n)) {s2 with heap:=h',toks:=tk}) X.xe s:=by
 obtain⟨its,rv,pl,hz⟩:=@G6
 have hh:X.A.in1.handled=none:=@DV
 have hlen:its.length=bs.length:=by rw[<-rv.length];simp
 obtain⟨o,ho,_⟩:=id pl.isList
 refine Ww pl.isList ?_
 have W:=Walks.list (prog:=X.prog) (w:=X.w) hh s.heap.objs.size a (Vc (UK ho)) its.toArray
 refine⟨s.heap.objs.size,_,_,_,_,_,λi=>@ID,rfl,W,⟨@CS,pl.isList.push _⟩,?_,λh' tk k=>?_⟩
 ·have:=AN (X:=X) (A:=X.A.in1) rv
  simpa using this
 ·have e:its.toArray.size=bs.length:=by simpa using hlen
  rw[e,hfg]
  have I1:Inv X pins σ H {s with heap:=s.heap.push {cls:=@Em,data:=.fields #[.ref a,@N9]}}:=I.kept (t':=s.toks) λb o e=>Ux _ e
  have hf:@H5=none:=@Bf
  have fp:=I.fpOk (H':=H) (b:=s.heap.objs.size) (UC _) hf
  refine⟨.bl _,H,I1.turned (it:=s.heap.objs.size) (t':=tk) (λb o hb e=>k b o (by simpa using hb) e) hf fp.2.1 fp.2.2.2.1 fp.2.2.2.2.1 fp.2.2.2.2.2,rfl,q⟩
def iL(hc:X.calm=true):fQ X (.builtin "all") (AZ X.K λbs=>@Cz):=by
 intro pins s σ H xs us Q I r h
 obtain⟨a,bs,rfl,hq,q⟩:=h
 obtain⟨u,rfl,rx⟩:=@Nz
 cases rx
 exact call_all_walk (uw hc I hq (f:=λbs=>@Cz) (g:=λtr n=>(@Ap).all tr) (range_all bs) q)
def zQ(hc:X.calm=true):fQ X (.builtin "any") (AZ X.K λbs=>@Ll):=by
 intro pins s σ H xs us Q I r h
 obtain⟨a,bs,rfl,hq,q⟩:=h
 obtain⟨u,rfl,rx⟩:=@Nz
 cases rx
 exact call_any_walk (uw hc I hq (f:=λbs=>@Ll) (g:=λtr n=>(@Ap).any tr) (range_any bs) q)
def GH:fQ X (@DO) (λxs H Q=>∃n:Int,xs= @OC/\∀p,H p=none->Q @E7 (upd H p @Sf)):=by
 intro pins s σ H xs us Q I r h
 obtain⟨n,rfl,q⟩:=h
 obtain⟨u,rfl,rx⟩:=@Nz
 obtain⟨t,rfl⟩:=rx
 refine call_range_1 ⟨@AN,upd H s.heap.objs.size @Sf,?_,rfl,@XX ⟩
 exact I.laid (λb o e=>Ux _ e) (UC _) ⟨_,_,_,@Gq ⟩
def wb(hc:X.calm=true):fQ X (@BV) (λxs H Q=>∃p n,xs= @SV/\H p=some @Sf/\0<=n/\n<=1000/\∀l,H l=none->Q @Jg (upd H l (.lst ((@Kl).map λ(i:Nat)=>V.int (i:Int))))):=by
 intro pins s σ H xs us Q I r h
 obtain⟨p,n,rfl,hp,h0,h1,q⟩:=h
 obtain⟨u,rfl,rx⟩:=@Nz
 cases rx
 obtain⟨t,u,v,hr⟩:∃t u v,s.heap.get? p=some {cls:=@DO,data:=.fields #[.int 0 t,.int n u,@Ph]}:=I.hok p _ hp
 have hsz:Builtin.Range.rangeSize 0 n 1=(n.toNat:Int):=by rw[rangeSize_one];split<;>omega
 refine call_list_range (@DV) hr (small_one (@B) (@B) (@B) (@B)) hsz (@B) λh' tk acc c k hS hacc=>?_
 have hv:Vals ((@Kl).map λ(i:Nat)=>V.int (i:Int)) acc.toList:=by
  have key:∀(m:Nat) (us:@e) (j:Nat),us.length=m->(∀(i:Nat) (v:Value),us[i]? =some v->∃t,v=Value.int ((j+i:Nat):Int) t)->Vals ((List.range' j m).map λ(i:Nat)=>V.int (i:Int)) us:=by
   intro m
   induction m with
   |zero=>intro us j hl _;cases us with
    |nil=>exact .nil
    |cons a b=>simp at hl
   |succ m ih=>
    intro us j hl hh
    cases us with
    |nil=>simp at hl
    |cons u us=>
     rw[List.range'_succ,Vj]
     refine .cons (by have:=hh 0 u rfl;simp at this;exact this) (ih us (j+1) (by simpa using hl) λi v hi=>?_)
     obtain⟨t,e⟩:=hh (i+1) v (by simpa using hi)
     exact⟨t,by rw[e];congr 2;omega⟩
  have:=key n.toNat acc.toList 0 (by simpa using hacc.1) λi v hi=>by
   obtain⟨t,e⟩:=hacc.2 i v (by simpa using hi)
   exact⟨t,by rw[e];simp⟩
  rw[List.range_eq_range'];exact this
 refine⟨@AN,_,I.laid (t':=tk) k (UC _) (show cW X.prog X.w _ h' _ (.lst _)from⟨by simp;rw[Vi];omega,acc.toList,c,hv,by simpa using hS⟩),rfl,@XX ⟩
end
def Rc(h:Heap)(e:Addr)(cls:Value)(T:Addr)(fl:Value):Prop:=∃oe vs oT ts,h.get? e=@RF/\oe.cls=cls/\oe.dict=none/\oe.data=@IZ/\vs[1]? =some (.ref T)/\vs[2]? =@Jy/\T≠e/\h.get? T=some oT/\oT.data=.fields ts/\ts[3]? =some fl
abbrev Keeps(F:@Ao)(ch:@Ao)(h h':Heap):Prop:=∀b o,h.get? b=some o->b∉F->b∉ch->h'.get? b=some o
abbrev Slots(F:@Ao)(h h':Heap):Prop:=∀b o,h.get? b=some o->b∈F->∃sl,h'.get? b=some {o with slots:=sl}
section
variable {M:Model}{A:Around}{E:@L}{s:Shared}{base:Heap}{env:Env}{outer:@Cf}{L e:Addr}{cls:Value}{Q:Unit->Shared->Prop}
def HZ{oe:Obj}{vs:@BC}{head:Value}{hadNext:Bool}(hfr:A.frames=some (env::outer))(hl:s.heap.FunFrames base (env::outer))(hf:env.frame=some L)(he:s.heap.get? e=@RF)(hc:oe.cls=cls)(hdd:oe.dict=none)(hd:oe.data=@IZ)(hsz:1<vs.size)(h2:vs[2]? =@Jy)
  (h:∀h' T,Keeps (ic (env::outer)) [e] s.heap h'->Slots (ic (env::outer)) s.heap h'->s.heap.get? T=none->@Lc->Q () {s with heap:=h'}) :
  wpAny M A (do let a <-frameOf env;let pl <-entryPlaceOf L hadNext;let b <-EntryCells.newEntry head a .none (rawInt L) .none pl;setField @Hq 1 b) Q E s:=by
 have eF:e∉ic (env::outer):=λz=>by
  obtain⟨_,o,q,n⟩:=hl.mem z
  rw[he]at q;cases q;exact n _ hd
 refine UA (wpAny_frameOf_fun hfr hl hf λh1 s1=>?_)
 refine UA (wpAny_entryPlaceOf λpl hpl=>?_)
 unfold EntryCells.newEntry newFields
 refine UA (WO ?_ (hpl.sizeOk5 _ _ _ _ _))
 have e1:h1.get? e=@RF:=(s1.2.1 e eF).trans he
 have e2:=Ux (h:=h1) {cls:=.type "traceback",dict:=none,data:=.fields ([head,.ref L,.none,rawInt L,.none]++(if pl.isEmpty then List.replicate 6 Value.none else pl)).toArray} e1
 have tn:h1.objs.size≠e:=Nat.ne_of_gt (UK e1)
 refine Xi e2 hd hsz (h _ h1.objs.size (λb o q hb hn=>?_) (λb o q hb=>?_) ?_ ?_)
 ·have hbe:b≠e:=by simpa using hn
  have q1:h1.get? b=some o:=(s1.2.1 b hb).trans q
  rw[VB _ _ (Ne.symm hbe)]
  exact Ux _ q1
 ·obtain⟨sl,q1⟩:=s1.2.2 b o q
  have hbe:b≠e:=λz=>eF (z▸hb)
  refine⟨sl,?_⟩
  rw[VB _ _ (Ne.symm hbe)]
  exact Ux _ q1
 ·cases q:s.heap.get? h1.objs.size with
  |none=>rfl
  |some o=>obtain⟨sl,q1⟩:=s1.2.2 _ o q;exact absurd (UK q1) (U8 _)
 ·have d3:=Xa hd (·.setIfInBounds 1 @U1)
  have e3:=Wq (Obj.mapFields (·.setIfInBounds 1 @U1)) e2 @Ts
  refine⟨_,_,_,_,e3,(Obj.cls_mapFields _ _).trans hc,?_,d3,by simp[hsz],by rw[Array.getElem?_setIfInBounds_ne (@B)];exact h2,tn,(VB _ _ (Ne.symm tn)).trans (UR h1 rfl),rfl,?_⟩
  ·unfold Obj.mapFields
   split<;>exact hdd
  ·rcases hpl with rfl|⟨_,_,_,_,_,_,_,rfl⟩<;>simp
def A3{oe:Obj}{vs:@BC}(hfr:A.frames=some (env::outer))(hl:s.heap.FunFrames base (env::outer))(hf:env.frame=some L)(he:s.heap.get? e=@RF)(hc:oe.cls=cls)(hdd:oe.dict=none)(hd:oe.data=@IZ)(h1:vs[1]? =@Jy)(h2:vs[2]? =@Jy)
  (h:∀h' T,Keeps (ic (env::outer)) [e] s.heap h'->Slots (ic (env::outer)) s.heap h'->s.heap.get? T=none->@Lc->Q () {s with heap:=h'}):@PJ:=by
 unfold noteFrame
 simp only[hf]
 refine UA (V9 he hd h1 ?_)
 rw[UJ @S]
 exact HZ hfr hl hf he hc hdd hd (Wu.mp h1).1 h2 h
def wN{T0:Addr}(hfr:A.frames=some (env::outer))(hl:s.heap.FunFrames base (env::outer))(hf:env.frame=some L)(r:Rc s.heap e cls T0 .none)
  (h:∀h' T,Keeps (ic (env::outer)) [e,T0] s.heap h'->Slots (ic (env::outer)) s.heap h'->(s.heap.get? T=none\/T=T0)->@Lc->Q () {s with heap:=h'}):@PJ:=by
 obtain⟨oe,vs,oT,ts,he,hc,hdd,hd,h1,h2,hTe,hT,hdT,h3⟩:=r
 have tF:T0∉ic (env::outer):=λz=>by
  obtain⟨_,o,q,n⟩:=hl.mem z
  rw[hT]at q;cases q;exact n _ hdT
 unfold noteFrame
 simp only[hf]
 refine UA (V9 he hd h1 ?_)
 rw[Uz (show(Value.ref T0 != Value.none)=true from by simp)]
 refine UA (V9 hT hdT h3 ?_)
 rw[UJ (show ¬((Value.none==rawInt L)=true)from by simp[rawInt])]
 refine UA (Xi hT hdT (Wu.mp h3).1 ?_)
 have oth:∀b,b≠T0->(s.heap.update T0 (Obj.mapFields (·.setIfInBounds 3 Value.none))).get? b=s.heap.get? b:=λb hb=>@O6
 have nf:∀b o,s.heap.get? b=some o->(∀ws,o.data≠@Qk)->b≠T0:=λb o q n z=>by
  rw[z,hT]at q;cases q;exact n _ hdT
 refine HZ (base:=base) hfr (hl.of_keeps λb o q n=>⟨o,(oth b (nf b o q n)).trans q,rfl⟩) hf ((oth e (Ne.symm hTe)).trans he) hc hdd hd (Wu.mp h1).1 h2 λh' T kp sl tn rc=>?_
 refine h h' T (λb o q hb hn=>?_) (λb o q hb=>?_) ?_ rc
 ·simp only[UD,Vf,VW,not_or]at hn
  exact kp b o ((oth b hn.2).trans q) hb (by simp[hn.1])
 ·exact sl b o ((oth b λz=>tF (z▸hb)).trans q) hb
 ·by_cases z:T=T0
  ·exact .inr z
  ·exact .inl ((oth T z).symm.trans tn)
def tu{T:Addr}{fl:Value}(r:Rc s.heap e cls T fl)(h:∀h',Keeps [] [T] s.heap h'->Rc h' e cls T .none->Q () {s with heap:=h'}):wpAny M A (setFlight @Hq none) Q E s:=by
 obtain⟨oe,vs,oT,ts,he,hc,hdd,hd,h1,h2,hTe,hT,hdT,h3⟩:=r
 have sz:3<ts.size:=(Wu.mp h3).1
 unfold setFlight
 refine UA (V9 he hd h1 ?_)
 rw[Uz (show(Value.ref T != Value.none)=true from by simp)]
 refine Xi hT hdT sz (h _ (λb o q _ hn=>?_) ?_)
 ·have hb:b≠T:=by simpa using hn
  exact(@O6).trans q
 ·have d3:=Xa hdT (·.setIfInBounds 3 ((none:@i).elim Value.none λf=>rawInt f))
  exact⟨oe,vs,_,_,(VB _ _ hTe).trans he,hc,hdd,hd,h1,h2,hTe,Wq _ hT @Ts,d3,by simp[sz]⟩
end
section
variable {P:Program}{w:World}
theorem cW.there{H:Hp}{h:Heap}{a:Addr}{o:HO}(x:@Om):∃u,h.get? a=some u:=by
 cases o with
 |lst xs=>obtain⟨_,_,_,_,e⟩:=x;exact @IK
 |tup xs=>obtain⟨_,_,_,u,e,_⟩:=x;exact⟨u,e⟩
 |dK kvs=>obtain⟨_,_,_,_,o,_,_,e,_⟩:=x;exact @IK
 |dT kvs ep=>obtain⟨_,_,_,_,o,_,e,_⟩:=x;exact @IK
 |set S n=>obtain⟨o,_,_,_,e,_⟩:=x;exact @IK
 |ins C dx fs=>obtain⟨_,_,_,e,_⟩:=x;exact @IK
 |own y=>obtain⟨_,e⟩:=x;exact @IK
 |xd fs=>obtain⟨_,⟨_,_,_,e,_⟩,_⟩:=x;exact @IK
 |eh lo hi=>obtain⟨_,_,_,e⟩:=x;exact @IK
 |bj ob u=>obtain⟨e,_⟩:=x;exact @IK
 |tbl ps=>exact⟨_,show h.get? a=some _ from x⟩
 |met f y=>exact⟨_,show h.get? a=some _ from x⟩
 |ext φ=>obtain⟨_,⟨_,e⟩,_⟩:=x;exact @IK
end
structure Lies(h₀:Heap)(H:Hp)(h:Heap)(e:Addr)(cls:Value):Prop where
 free:H e=none
 new:h₀.get? e=none
 ob:∃T,Rc h e cls T .none/\H T=none/\h₀.get? T=none
def nj(P:Program)(w:World):yp:=λouter H s E e s'=>∃ea cls H',e=@S5/\s'.os=s.os/\@H2/\@Oj/\nr P w H' s'.heap/\Lies s.heap H' s'.heap ea cls/\E cls none H'
section
variable {P:Program}{w:World}{M:Model}{A:Around}{E':@L}{s:Shared}{env:Env}{outer:@Cf}{L e:Addr}{cls:Value}{base h₀:Heap}{H:Hp}{Q:Unit->Shared->Prop}
def nW{h h':Heap}(hok:@Fk)(k:∀b o,h.get? b=some o->(∃u,H b=some u)->h'.get? b=some o):@Tg:=λa o ha=>
 (hok a o ha).stay (λb u hb q=>k b u q (hb.elim (λz=>⟨o,by rw[z];exact ha⟩) λz=>⟨_,z⟩)) (λ_ q=>q) λ_ _ q=>q
def GX(hfr:A.frames=some (env::outer))(hf:env.frame=some L)(hfn:s.heap.FunFrames base (env::outer))(hok:nr P w H s.heap)(hff:∀b∈ic (env::outer),H b=none)(Ly:Lies h₀ H s.heap e cls)(hex:∀b o,h₀.get? b=some o->∃o',s.heap.get? b=@W1)
  (hQ:∀h',(∀b o,s.heap.get? b=some o->b∉ic (env::outer)->((∃o0,h₀.get? b=some o0)\/∃u,H b=some u)->h'.get? b=some o)->(∀b o,s.heap.get? b=some o->b∈ic (env::outer)->∃sl,h'.get? b=some {o with slots:=sl})->Lies h₀ H h' e cls->@Tg->Q () {s with heap:=h'}) :
  @PP:=by
 obtain⟨fr,nw,T0,rc,hHT,hnT⟩:=Ly
 obtain⟨oe,vs,oT,ts,he,hc,hdd,hd,h1,h2,hTe,hT,hdT,h3⟩:=id rc
 have tF:T0∉ic (env::outer):=λz=>by
  obtain⟨_,o,q,n⟩:=hfn.mem z
  rw[hT]at q;cases q;exact n _ hdT
 unfold leaving
 refine UA (wN hfr hfn hf rc λh4 T kp sl tn rc4=>tu rc4 λh5 kp5 rc5=>?_)
 have nT:∀b o,s.heap.get? b=some o->b≠T0->b≠T:=λb o q n z=>by
  rcases tn with tn|tn
  ·rw[z,tn]at q;cases q
  ·exact n (z.trans tn)
 have kept:∀b o,s.heap.get? b=some o->b∉ic (env::outer)->((∃o0,h₀.get? b=some o0)\/∃u,H b=some u)->h5.get? b=some o:=λb o q hb hor=>by
  have be:b≠e:=λz=>by subst z;rcases hor with⟨_,z⟩|⟨_,z⟩<;>simp_all
  have bT:b≠T0:=λz=>by subst z;rcases hor with⟨_,z⟩|⟨_,z⟩<;>simp_all
  exact kp5 b o (kp b o q hb (by simp[be,bT])) @W (by simp[nT b o q bT])
 have slot:∀b o,s.heap.get? b=some o->b∈ic (env::outer)->∃sl,h5.get? b=some {o with slots:=sl}:=λb o q hb=>by
  obtain⟨x,q4⟩:=sl b o q hb
  exact⟨x,kp5 b _ q4 @W (by simp[nT b o q λz=>tF (z▸hb)])⟩
 have fresh:H T=none/\h₀.get? T=none:=by
  rcases tn with tn|tn
  ·refine⟨?_,?_⟩
   ·cases q:H T with
    |none=>rfl
    |some u=>obtain⟨o,qo⟩:=(hok T u q).there;rw[tn]at qo;cases qo
   ·cases q:h₀.get? T with
    |none=>rfl
    |some u=>obtain⟨o,qo⟩:=hex T u q;rw[tn]at qo;cases qo
  ·rw[tn];exact⟨hHT,hnT⟩
 refine hQ h5 kept slot ⟨fr,nw,T,rc5,fresh.1,fresh.2⟩ (nW hok λb o q hu=>kept b o q (λz=>?_) (.inr hu))
 obtain⟨u,hu⟩:=hu
 rw[hff b z]at hu;cases hu
def Bl{h:Heap}{args:@e}(hfr:A.frames=some (env::outer))(hf:env.frame=some L)(hfn:h.FunFrames base (env::outer))(hok:@Fk)(hff:∀b∈ic (env::outer),H b=none)(hex:∀b o,h₀.get? b=some o->∃o',h.get? b=@W1)(hx:Heap.MadeExcOf h s.heap e cls args)
  (hQ:∀h',(∀b o,h.get? b=some o->b∉ic (env::outer)->h'.get? b=some o)->(∀b o,h.get? b=some o->b∈ic (env::outer)->∃sl,h'.get? b=some {o with slots:=sl})->Lies h₀ H h' e cls->@Tg->Q () {s with heap:=h'}) :
  @PP:=by
 obtain⟨t,he,_,_⟩:=hx.there
 unfold leaving
 refine UA (A3 (cls:=cls) hfr (hfn.of_keeps λb o q _=>⟨o,@Oo,rfl⟩) hf he rfl rfl rfl rfl rfl λh4 T kp sl tn rc4=>tu rc4 λh5 kp5 rc5=>?_)
 have ne:∀b o,h.get? b=some o->b≠e:=λb o q z=>by rw[z,hx.new]at q;cases q
 have nT:∀b o,h.get? b=some o->b≠T:=λb o q z=>by
  have:=@Oo
  rw[z,tn]at this;cases this
 have kept:∀b o,h.get? b=some o->b∉ic (env::outer)->h5.get? b=some o:=λb o q hb=>kp5 b o (kp b o (@Oo) hb (by simp[ne b o q])) @W (by simp[nT b o q])
 have slot:∀b o,h.get? b=some o->b∈ic (env::outer)->∃sl,h5.get? b=some {o with slots:=sl}:=λb o q hb=>by
  obtain⟨x,q4⟩:=sl b o (@Oo) hb
  exact⟨x,kp5 b _ q4 @W (by simp[nT b o q])⟩
 have fresh:∀{b:Addr},h.get? b=none->H b=none/\h₀.get? b=none:=λ{b} hb=>by
  refine⟨?_,?_⟩
  ·cases q:H b with
   |none=>rfl
   |some u=>obtain⟨o,qo⟩:=(hok b u q).there;rw[hb]at qo;cases qo
  ·cases q:h₀.get? b with
   |none=>rfl
   |some u=>obtain⟨o,qo⟩:=hex b u q;rw[hb]at qo;cases qo
 have no:h.get? T=none:=by
  cases q:h.get? T with
  |none=>rfl
  |some o=>exact absurd rfl (nT T o q)
 obtain⟨f1,f2⟩:=fresh hx.new
 obtain⟨g1,g2⟩:=fresh no
 refine hQ h5 kept slot ⟨f1,f2,T,rc5,g1,g2⟩ (nW hok λb o q hu=>kept b o q λz=>?_)
 obtain⟨u,hu⟩:=hu
 rw[hff b z]at hu;cases hu
end
section
variable {P:Program}{w:World}{K:Frag}{mg:@R}{base:Heap}{N:@a}{qual:Str}{scope:Scope}{f:Addr}{cd:Value}{A:Around}{outer:@Cf}{s0:Shared}{H0:Hp}{E:XK}
def aN:Passes @Ga @AI E:=by
 intro pins σ H s e s' I hcx
 obtain⟨ea,cls,H',rfl,os,bare,un,hok,Ly,q⟩:=hcx
 have I':=I.call' os un hok bare (λb hb=>absurd hb @W)
 have old:∀{b:Addr},s.heap.get? b=none->s0.heap.get? b=none:=λ{b} hb=>by
  cases z:s0.heap.get? b with
  |none=>rfl
  |some o=>obtain⟨o',z'⟩:=I.base.there b o z (show b∉([]:@Ao) by simp);rw[hb]at z';cases z'
 have Ly0:Lies s0.heap H' s'.heap ea cls:=by
  obtain⟨fr,nw,T,rc,hHT,hnT⟩:=Ly
  exact⟨fr,old nw,T,rc,hHT,old hnT⟩
 have above:s0.heap.objs.size<=(@X).locals:=I.ok.above
 refine GX (base:=base) (h₀:=s0.heap) I'.ok.frames rfl I'.stack I'.hok I'.stkFree Ly0 (λb o z=>I'.base.there b o z (show b∉([]:@Ao) by simp)) λh' kept slot Ly' hok'=>?_
 have nL:∀{b:Addr} {o:Obj},s0.heap.get? b=some o->b∉@Wp->b∉ic (@X::outer):=λ{b o} z hb hm=>by
  rcases UD.mp (I'.stkSub b hm)with e|e
  ·have:=UK z
   rw[e]at this
   exact absurd (UZ this above) (U8 _)
  ·exact hb e
 have inn:∀{b:Addr},b∈@Wp->b∈ic (@X::outer):=λ{b} hb=>by
  obtain⟨en,h1,h2⟩:=Wj.mp hb
  exact @T7
 refine⟨ea,cls,H',rfl,os.trans I.os,bare,⟨λb o z n hb _=>?_,λb o z n hb _=>?_,λb o z n _=>I'.base.free b o z n (show b∉([]:@Ao) by simp),λb o z _=>?_,I'.base.tups,I'.base.frzs,I'.base.tbls⟩,hok',Ly',q⟩
 ·exact kept b o (I'.base.keep b o z n hb (show b∉([]:@Ao) by simp)) (nL z hb) (.inl ⟨o,z⟩)
 ·obtain⟨sl,z1⟩:=I'.base.slot b o z n hb (show b∉([]:@Ao) by simp)
  obtain⟨sl2,z2⟩:=slot b _ z1 (inn hb)
  exact⟨sl2,z2⟩
 ·obtain⟨o',z1⟩:=I'.base.there b o z (show b∉([]:@Ao) by simp)
  by_cases hb:b∈ic (@X::outer)
  ·obtain⟨sl,z2⟩:=slot b o' z1 hb
   exact⟨_,z2⟩
  ·exact⟨o',kept b o' z1 hb (.inl ⟨o,z⟩)⟩
def Ov(C:Addr)(E:XK)(t:TA):TS:=λ_ σ H=>t σ H λvs H1=>vs.length<=sizeLine/\E @N2 none H1
def IA{x:Str}{C:Addr}{np cpos pos:Pos}{e0:Expr}{es:@Ac}{t:TA}{Bn newId initId:String}{bmB:@e}(FB:ExcBaseFacts Bn newId initId bmB)(hbb:bmB.contains @Cc=true)(q:@TK=true)
  (hg:Gl @AI x) (hm:mg x=some @N2) (ha:PA @AI (e0::es) t)
  (he:starEach (e0::es) (@X)=(false,eval e0 (@X))::starEach es (@X):=by rfl)
  (hpl:(@JM).any (·.1)=false:=by rfl) (hdb:@T:=by decide) :
  PS @AI (.Raise (some (.Call @As (e0::es) [] cpos)) none pos) (Ov C E t):=by
 intro pins s σ H D I h
 have own:∀{hh:Heap},K.In hh->∃bm Nn nm qn bs hdct sn sub ab col dd k0 k1 k2 k3 k5 mN,hh.get? C=@F2/\hh.Ns Nn mN/\mN "__init__"=none/\OwnTail hh bmB bm:=λ{hh} X=>by
  have q:=q
  unfold PySem.W.excIn at q
  split at q
  ·rename_i dd cdd sl ho
   split at q
   ·rename_i C' bm k0 k1 k2 k3 n k5 hm hs
    simp only[US,beq_iff_eq,Vw]at q
    obtain⟨⟨⟨⟨⟨rfl,rfl⟩,hdel⟩,ht⟩,hok⟩,hni⟩:=q
    obtain⟨nm,bs,mro,ns,qn,hd,sn,sub,ab,col,del⟩:=cdd
    dsimp only at hm hdel hok hni
    subst hm hdel
    have hsl:sl=#[k0,k1,k2,k3,some (.builtin n),k5]:=by
     obtain⟨l⟩:=sl
     simp only at hs
     rw[hs]
    subst hsl
    exact⟨bm,ns,nm,qn,bs,hd,sn,sub,ab,col,dd,k0,k1,k2,k3,k5,_,X _ _ ho,.of_isNs (PySem.W.isNs_of_in X hok),PySem.W.nsMap_none_of_in X hok hni,@YS ⟩
   ·cases q
  ·cases q
 obtain⟨bm,Nn,nm,qn,bs,hdct,sn,sub,ab,col,dd,k0,k1,k2,k3,k5,mN,hC,hN,hni,TL⟩:=own I.ok.mod.kin
 have hA:=ha cpos pins s σ H _ I h
 refine wpAny_Raise_call_subT (C:=C) (nm:=nm) (q:=qn) (N:=Nn) (bs:=bs) (bm:=bm) (hdct:=hdct) (sn:=sn) (sub:=sub) (ab:=ab) (col:=col) (dd:=dd) (k0:=k0) (k1:=k1) (k2:=k2) (k3:=k3) (k5:=k5) FB (mN:=mN) (TL.hasType hbb) (I.ok.hd rfl) ?_ hni (oH I hg hm ⟨rfl,?_⟩ hdb)
 ·show(backTo cpos (starEach (e0::es) (@X))).any (·.1)=false
  rw[he]
  show(false||(@JM).any (·.1))=false
  rw[hpl];rfl
 have hA:wpAny _ _ (spliced (backTo cpos (starEach (e0::es) (@X)))) _ _ s:=hA
 show wpAny _ _ (evalArgs @N2 true (backTo cpos (starEach (e0::es) (@X))) []) _ _ s
 rw[he]at hA ⊢
 refine Calls.evalArgs_plain (cK hA λus s2 ⟨vs,H2,I2,r2,hl2,q2⟩=>⟨rfl,by show us.length<=_;rw[<-r2.length];exact hl2,I2.bk _ _ hC,hN.keeps I2.bk,TL.keeps I2.bk,λh' e hx=>?_⟩)
 have above:s0.heap.objs.size<=(@X).locals:=I2.ok.above
 have nil:∀b:Addr,b∉([]:@Ao):=λb=>by simp
 refine Bl (s:={s2 with heap:=h'}) (h:=s2.heap) (base:=base) (h₀:=s0.heap) I2.ok.frames rfl I2.stack I2.hok I2.stkFree (λb o z=>@TE) hx λh2 kept slot Ly hok=>?_
 have nL:∀{b:Addr} {o:Obj},s0.heap.get? b=some o->b∉@Wp->b∉ic (@X::outer):=λ{b o} z hb hm=>by
  rcases UD.mp (I2.stkSub b hm)with e|e
  ·have:=UK z
   rw[e]at this
   exact absurd (UZ this above) (U8 _)
  ·exact hb e
 have inn:∀{b:Addr},b∈@Wp->b∈ic (@X::outer):=λ{b} hb=>by
  obtain⟨en,h1,h2⟩:=Wj.mp hb
  exact @T7
 refine⟨e,.ref C,H2,rfl,I2.os,I2.bare,⟨λb o z n hb _=>?_,λb o z n hb _=>?_,λb o z n _=>I2.base.free b o z n (nil b),λb o z _=>?_,I2.base.tups,I2.base.frzs,I2.base.tbls⟩,hok,Ly,q2⟩
 ·exact kept b o (I2.base.keep b o z n hb (nil b)) (nL z hb)
 ·obtain⟨sl,z1⟩:=I2.base.slot b o z n hb (nil b)
  obtain⟨sl2,z2⟩:=slot b _ z1 (inn hb)
  exact⟨sl2,z2⟩
 ·obtain⟨o',z1⟩:=@TE
  by_cases hb:b∈ic (@X::outer)
  ·obtain⟨sl,z2⟩:=slot b o' z1 hb
   exact⟨_,z2⟩
  ·exact⟨o',kept b o' z1 hb⟩
end
section
variable {X:Cx}{pins:@K}{σ:St}{H:Hp}{s:Shared}{h':Heap}{e T:Addr}{oe oT:Obj}{vs ts:@BC}
def Inv.exc{tk:Nat}(I:@D)(hex:X.ex= [])(he:s.heap.get? e=@RF)(hd:oe.data=@IZ)(hT:s.heap.get? T=some oT)(hdT:oT.data=.fields ts)(n1:X.s₀.heap.get? e=none)(n2:X.s₀.heap.get? T=none)(pn:∀p∈X.pn++pins,p.1≠e/\p.1≠T)
  (kept:∀b o,s.heap.get? b=some o->b∉@CI->b≠e->b≠T->h'.get? b=some o) (slot:∀b o,s.heap.get? b=some o->b∈@CI->∃sl,h'.get? b=some {o with slots:=sl}) (hok:@Ku) :
  Inv X pins σ H {s with heap:=h',toks:=tk}:=by
 have nil:∀b:Addr,b∉X.ex:=λb=>by rw[hex];simp
 have any:∀b o,s.heap.get? b=some o->(∀ws,o.data≠@Qk)->∃sl,h'.get? b=some {o with slots:=sl}:=λb o q n=>by
  by_cases hb:b∈@CI
  ·exact slot b o q hb
  ·refine⟨o.slots,kept b o q hb (λz=>?_) λz=>?_⟩
   ·rw[z,he]at q;cases q;exact n _ hd
   ·rw[z,hT]at q;cases q;exact n _ hdT
 have cellK:∀{c:Addr} {v:@DA},@RD->h'.IsCell c v:=λ{c v} ⟨o,ho,hdc⟩=>by
  obtain⟨sl,q⟩:=any c o ho λws z=>by rw[hdc]at z;cases z
  exact⟨_,q,hdc⟩
 have nsub:∀{b:Addr},b≠X.env.locals->b∉X.fs->b∉@CI:=λ{b} h1 h2 hb=>(UD.mp (I.stkSub b hb)).elim h1 h2
 have neL:∀b o,X.s₀.heap.get? b=some o->b≠X.env.locals:=λb o q=>@UY
 have ne2:∀b o,X.s₀.heap.get? b=some o->b≠e/\b≠T:=λb o q=>⟨λz=>by (rw[z,n1]at q;cases q),λz=>by (rw[z,n2]at q;cases q)⟩
 refine⟨I.ok,I.os,I.bare,⟨λb o q n hb hx=>?_,λb o q n hb hx=>?_,I.base.free,λb o q hx=>?_,I.base.tups,I.base.frzs,I.base.tbls⟩,?_,λx c q=>?_,I.free,I.freeC,λp hp=>?_,hok,I.len⟩
 ·exact kept b o @Sh (nsub (neL b o q) hb) (@QE).1 (@QE).2
 ·obtain⟨sl,q1⟩:=@UQ
  by_cases hs:b∈@CI
  ·obtain⟨sl2,q2⟩:=slot b _ q1 hs
   exact⟨sl2,q2⟩
  ·exact⟨sl,kept b _ q1 hs (@QE).1 (@QE).2⟩
 ·obtain⟨o',q1⟩:=@YD
  by_cases hs:b∈@CI
  ·obtain⟨sl2,q2⟩:=slot b _ q1 hs
   exact⟨_,q2⟩
  ·exact⟨o',kept b _ q1 hs (@QE).1 (@QE).2⟩
 ·obtain⟨m,⟨o,es,ep,ho,hdd,r⟩,hl⟩:=I.loc
  obtain⟨sl,q⟩:=any _ o ho λws z=>by rw[hdd]at z;cases z
  refine⟨m,⟨_,es,ep,q,hdd,r⟩,λi x v e1 e2 e3=>?_⟩
  obtain⟨u,r',l⟩:=hl i x v e1 e2 e3
  refine⟨u,r',?_⟩
  rcases l with l|⟨k,c,q,z⟩
  ·exact .inl l
  ·exact .inr ⟨k,c,q,cellK z⟩
 ·obtain⟨v,z⟩:=I.cell x c q
  exact⟨v,cellK z⟩
 ·obtain⟨q,n,ne,nf,d⟩:=@Js
  exact⟨kept p.1 p.2 q (nsub ne nf) (pn p hp).1 (pn p hp).2,n,ne,nf,d⟩
def iE(e:Addr)(cls:Value)(h:Heap):Prop:=∃o vs,h.get? e=some o/\o.cls=cls/\o.dict=none/\o.data=@IZ/\vs[2]? =@Jy
def Rc.isExc{h:Heap}{e T:Addr}{cls fl:Value}(r:Rc h e cls T fl):iE e cls h:=let⟨oe,vs,_,_,a,b,c,d,_,f,_⟩:=r;⟨oe,vs,a,b,c,d,f⟩
def Inv.track{cls:Value}(I:@D)(he:iE e cls s.heap)(hn:H e=none)(n1:X.s₀.heap.get? e=none)(hL:e≠X.env.locals)(hc:∀x c,@x=some c->c≠e)(pn:∀p∈X.pn++pins,p.1≠e) :
  Inv X pins σ (upd H e @Io) s:=by
 have un:∀{b:Addr},b≠e->upd H e @Io b=H b:=λ{b} z=>aJ z
 have keepT:∀{b:Addr} {o:HO},H b=some o->upd H e @Io b=some o:=λ{b o} q=>by rw[un @NK];exact q
 refine⟨I.ok,I.os,I.bare,⟨I.base.keep,I.base.slot,λb o q n hx=>?_,I.base.there,λb xs q=>keepT (I.base.tups b xs q),λb o u q=>keepT (I.base.frzs b o u q),λb ps q=>?_⟩,I.loc,I.cell,?_,λx c q=>?_,λp hp=>?_,λa o ha=>?_,I.len⟩
 ·rw[un (λz=>by rw[z,n1]at q;cases q)];exact I.base.free b o q n hx
 ·obtain⟨m,q1⟩:=I.base.tbls b ps q
  exact⟨m,keepT q1⟩
 ·rw[un hL.symm];exact I.free
 ·rw[un (hc x c q)];exact I.freeC x c q
 ·obtain⟨q,n,ne,nf,d⟩:=@Js
  exact⟨q,by rw[un (pn p hp)];exact n,ne,nf,d⟩
 ·by_cases z:a=e
  ·subst z
   rw[aE]at ha
   cases ha
   obtain⟨o,vs,q,c⟩:=he
   exact⟨⟨o,vs,q,c⟩,⟨o,q⟩,λh1 h2 ⟨o1,v1,q1,c1⟩ k=>⟨o1,v1,k o1 q1,c1⟩⟩
  ·rw[un z]at ha
   exact(I.hok a o ha).stay (λb u _ q=>q) (λb q=>keepT q) λb xs q=>q.imp keepT λ⟨o,q⟩=>⟨o,keepT q⟩
def ET{M:Model}{A:Around}{E:@L}{i:Nat}{x:Str}{v:V}{Q:Unit->Shared->Prop}(I:@D)(hN:X.N.Nodup)(hi:X.N[i]? =some x)(hk:@AO=@Ae)(hv:σ[i]? =@Fd)
  (h:∀s',@Id->Q () s'):@HB:=by
 obtain⟨m,hn,hl⟩:=@Wq
 have hcls:(X.env.scope.kind==.class||(X.env.scope.kind==.module&&X.env.locals != X.env.globals))=false:=by rw[I.ok.kind];rfl
 obtain⟨u,_,look⟩:=hl i x v hi hv (.inl hk)
 have hm:m x=some u:=by
  rcases look with⟨_,q⟩|⟨k,_⟩
  ·exact q
  ·have hk':@Iv=@Ae:=hk
   rw[hk']at k
   rcases k with k|k<;>cases k
 refine wpAny_unbindName_local hk hn hm hcls λh' u' hn' hs=>?_
 obtain⟨oL,_,_,hoL,_⟩:=id hn
 have same:∀{b:Addr} {o:Obj},b≠X.env.locals->s.heap.get? b=some o->h'.get? b=some o:=λ{b o} z q=>(hs.2 b z).trans q
 have neL:∀{b:Addr} {o:Obj},X.s₀.heap.get? b=some o->b≠X.env.locals:=λ{b o} q=>@UY
 have hok:@Ku:=nW I.hok λb o q hu=>same (λz=>by obtain⟨w',hw⟩:=hu;rw[z,I.free]at hw;cases hw) q
 refine h _ ⟨I.ok,I.os,I.bare,⟨λb o q n hb hx=>same (neL q) @Sh,λb o q n hb hx=>?_,I.base.free,λb o q hx=>?_,I.base.tups,I.base.frzs,I.base.tbls⟩,⟨_,hn',λj y v' e1 e2 e3=>?_⟩,λy c q=>?_,I.free,I.freeC,λp hp=>?_,hok,by simpa using I.len⟩
 ·obtain⟨sl,q1⟩:=@UQ
  exact⟨sl,same (neL q) q1⟩
 ·obtain⟨o',q1⟩:=@YD
  exact⟨o',same (neL q) q1⟩
 ·by_cases hj:j=i
  ·subst hj
   rw[UT (by rw[I.len];exact(@Jl).1)]at e2
   cases e2
  ·rw[UX @Kc]at e2
   obtain⟨u2,r',q⟩:=@Kt
   refine⟨u2,r',?_⟩
   rcases q with⟨k,q⟩|⟨k,c,q,z⟩
   ·have:y≠x:=λz=>hj (qm hN e1 (z▸hi))
    exact .inl ⟨k,by simp[this,q]⟩
   ·exact .inr ⟨k,c,q,@Vo ⟩
 ·obtain⟨w',z⟩:=I.cell y c q
  exact⟨w',@Vo ⟩
 ·obtain⟨q,n,ne,nf,d⟩:=@Js
  exact⟨same ne q,n,ne,nf,d⟩
end
def Bh(bmB:@e)(newId:String)(C:Addr)(bm:@e)(h:Heap):Prop:=∃Nn nm qn bs hdct sn sub ab col dd k0 k1 k2 k3 k5,h.get? C=@F2/\OwnTail h bmB bm
def mroIn(K:Frag)(C:Addr):@e:=match K.lookup C with
 |some ⟨_,_,.cls cd,_⟩=>cd.mro
 |_=>[]
def C8{K:Frag}{C:Addr}{bmB:@e}{newId:String}(q:@TK=true):∃bm,mroIn K C=.ref C::bm/\∀{h:Heap},K.In h->Bh bmB newId C bm h:=by
 have q0:=q
 unfold PySem.W.excIn at q
 split at q
 ·rename_i dd cdd sl ho
  split at q
  ·rename_i C' bm k0 k1 k2 k3 n k5 hm hs
   simp only[US,beq_iff_eq,Vw]at q
   obtain⟨⟨⟨⟨⟨rfl,rfl⟩,hdel⟩,ht⟩,hok⟩,hni⟩:=q
   refine⟨bm,by unfold mroIn;rw[ho];exact hm,λ{h} X=>?_⟩
   obtain⟨nm,bs,mro,ns,qn,hd,sn,sub,ab,col,del⟩:=cdd
   dsimp only at hm hdel hok hni
   subst hm hdel
   have hsl:sl=#[k0,k1,k2,k3,some (.builtin n),k5]:=by
    obtain⟨l⟩:=sl
    simp only at hs
    rw[hs]
   subst hsl
   exact⟨ns,nm,qn,bs,hd,sn,sub,ab,col,dd,k0,k1,k2,k3,k5,X _ _ ho,@YS ⟩
  ·cases q
 ·cases q
def FY{M:Model}{A:Around}{E:@L}{s:Shared}{Q:Bool->Shared->Prop}{C D e:Addr}{oe:Obj}{bm bmD bmB bmB2:@e}{nC nD:String}(oC:Bh bmB nC C bm s.heap)(oD:Bh bmB2 nD D bmD s.heap)(he:s.heap.get? e=@RF)(hcls:oe.cls=.ref C)
  (hb:bmB2.contains @Cc=true) (hup:(Value.ref C::bm).contains @BO=true) (hq:Q true s):@Ot:=by
 obtain⟨N1,nm1,qn1,bs1,hd1,sn1,sub1,ab1,col1,dd1,a0,a1,a2,a3,a5,hC,TC⟩:=oC
 obtain⟨N2,nm2,qn2,bs2,hd2,sn2,sub2,ab2,col2,dd2,b0,b1,b2,b3,b5,hD,TD⟩:=oD
 have hcB:(Value.ref D::bmD).contains @Cc=true:=by rw[List.contains_cons,TD.hasType hb,Bool.or_true]
 have f:=tc_notTuple
 obtain⟨h,g,d,t,os⟩:=s
 unfold excMatches
 repeat(first
  | (with_reducible refine wpAny_loadPart_at he ?_;rw[hcls])
  |with_reducible refine wpAny_loadPart_at hD ?_
  | (with_reducible refine wpAny_isSubtype_exc hD ?_;rw[hcB])
  | (with_reducible refine wpAny_isSubtype_exc hC ?_;rw[hup])
  |wp_step)
 exact hq
def Mt(K:Frag)(cls:Value)(D:Addr):Prop:=∀{M:Model} {A:Around} {E:@L} {s:Shared} {Q:Bool->Shared->Prop} {e:Addr} {oe:Obj},@HV->s.heap.get? e=@RF->oe.cls=cls->Q true s->@Ot
def GA{K:Frag}{C D:Addr}{bmB bmB2:@e}{nC nD:String}(qC:PySem.W.excIn K C bmB nC=true)(qD:PySem.W.excIn K D bmB2 nD=true)(hb:bmB2.contains @Cc=true)(hup:(mroIn K C).contains @BO=true):Mt K @N2 D:=by
 intro M A E s Q e oe X he hc hq
 obtain⟨bm,e1,o1⟩:=C8 qC
 obtain⟨bmD,e2,o2⟩:=C8 qD
 rw[e1]at hup
 exact FY (o1 X) (o2 X) he hc hb hup hq
abbrev Cx.inTry(X:Cx)(Ex:@L)(pn:@K):Cx:={X with xe:=Ex,pn:=pn}
abbrev Cx.inEx(X:Cx)(e:Addr):Cx:={X with A:=X.A.mark (some @Hq),calm:=false,xe:=λ_ _=>False}
section
variable {X:Cx}{pins:@K}{σ:St}{H:Hp}{s:Shared}
def Inv.toTry(I:@D)(Ex:@L):Inv (X.inTry Ex (X.pn++pins)) [] σ H s:=
 ⟨@By,I.os,I.bare,I.base,I.loc,I.cell,I.free,I.freeC,λp hp=>I.pin p (by simpa using hp),I.hok,I.len⟩
def Inv.ofTry{Ex:@L}{pins2:@K}(I:Inv (X.inTry Ex (X.pn++pins)) pins2 σ H s):@D:=
 ⟨@By,I.os,I.bare,I.base,I.loc,I.cell,I.free,I.freeC,λp hp=>I.pin p (VL _ hp),I.hok,I.len⟩
def Inv.toEx(I:@D)(e:Addr):Inv @Jq pins σ H s:=
 ⟨⟨I.ok.mod,I.ok.kind,I.ok.glob,I.ok.blt,I.ok.above,I.ok.inj,I.ok.has,I.ok.cab,λz=>absurd z UQ,I.ok.frames,I.ok.stk,I.ok.exf,I.ok.bs,I.ok.bsz,I.ok.noex,I.ok.exfs,I.ok.funs,I.ok.frf⟩,I.os,I.bare,I.base,I.loc,I.cell,I.free,I.freeC,I.pin,I.hok,I.len⟩
def Inv.ofEx{e:Addr}(ok:X.Ok)(I:Inv @Jq pins σ H s):@D:=
 ⟨ok,I.os,I.bare,I.base,I.loc,I.cell,I.free,I.freeC,I.pin,I.hok,I.len⟩
theorem SP.ofTry{Ex:@L}{D:Ends}{f:Flow}{s':Shared}(h:SP (X.inTry Ex (X.pn++pins)) [] D f s'):SP X pins D f s':=by
 cases f with
 |next=>obtain⟨σ',H',I,q⟩:=h;exact @OJ
 |brk=>obtain⟨σ',H',I,q⟩:=h;exact @OJ
 |cont=>obtain⟨σ',H',I,q⟩:=h;exact @OJ
 |ret u=>obtain⟨v,σ',H',I,r,q⟩:=h;exact⟨v,σ',H',I.ofTry,r,q⟩
end
def Mn(i:Nat)(D:Ends):Ends:={nx:=λσ H=>D.nx ((@OY).set i none) H,rt:=D.rt,bk:=λσ H=>D.bk ((@OY).set i none) H,ct:=λσ H=>D.ct ((@OY).set i none) H}
def R7(K:Frag)(Dc:Addr)(i len:Nat)(tb:XK->TS)(th:Addr->TS):TS:=λD σ H=>∃Eb:XK,tb Eb D σ H/\∀cls d H',Eb cls d H'->Mt K cls Dc/\∀(ea:Addr) (σ':St),H' ea=none->σ'.length=len->th ea (Mn i D) @XF (upd H' ea (.ext (iE ea cls)))
structure jx(k:Nat)(A:Around):Prop where
 dp:A.depth+3*k+5<recursionLimit
 un:A.units+16*k+200<cLine
 gd:A.guards=some []
def fo.mark{k:Nat}{A:Around}(r:fo k A)(v:@DA):jx k (A.mark v):=⟨r.dp,r.un,r.gd⟩
def jx.deeper{k:Nat}{A:Around}(r:jx (k+1) A)(env:Env):jx k (A.deeper env):=
 ⟨by have:=r.dp;show A.depth+1+3*k+5<_;omega,by have:=r.un;show A.units+3+16*k+200<_;omega,r.gd⟩
def jx.mono{j k:Nat}{A:Around}(r:jx k A)(h:j<=k):jx j A:=⟨by have:=r.dp;omega,by have:=r.un;omega,r.gd⟩
def jx.units{k:Nat}{A:Around}(r:jx k A):A.units+64<cLine:=by have:=r.un;omega
structure DD(P:Program)(w:World)(K:Frag)(mg:@R)(base:Heap)(CX:yp)(k:Nat)(f:Addr)(fd:FuncData)(ps:@a)(sp:Sp):Prop where
 len:∀vs H Q E,@Dm->vs.length=ps.length
 run:∀(A:Around) (outer:@Cf) (s:Shared) (H:Hp) (args:Args) (us:@e) (vs:List V) (Q:VK) (E:XK),jx k A->@DI->@Na->@Jt->@Dm->
  @Ck
abbrev uo(CX:yp)(P:Program)(w:World)(K:Frag)(mg:@R)(base:Heap)(N:@a)(qual:Str)(scope:Scope)(f:Addr)(cd:Value)(A:Around)(outer:@Cf)(s:Shared)(H:Hp)(E:XK):Cx:=
 {@Ed with calm:=false}
def tZ{CX:yp}{P:Program}{w:World}{K:Frag}{mg:@R}{base:Heap}{N ps:@a}{qual:Str}{scope:Scope}{f:Addr}{cd:Value}{A:Around}{outer:@Cf}{s s1:Shared}{H:Hp}{E:XK}{us:@e}{vs:List V}
  (S:@Wd) (e0:@DI) (hl:vs.length=ps.length) (r:@Jt)
  (x:InCallC s s.heap.objs.size (bindL (@Ad).kindOf @GB λ_=>none) (cellsFrom (s.heap.objs.size+1) scope.names []) (bindC (@Ad).kindOf @GB λ_=>none) s1) :
  Inv (uo CX P w K mg base N qual scope f cd A outer s H E) [] @C9 H s1:=by
 have e1:uD P w K mg base {A with handled:=none} outer s H:=⟨e0.frames,e0.mod,e0.bs,e0.bsz,e0.funs,e0.frf,e0.hok,e0.bare⟩
 have I:=wX (CX:=CX) (E:=E) (A:={A with handled:=none}) S rfl e1 hl r x
 exact⟨⟨I.ok.mod,I.ok.kind,I.ok.glob,I.ok.blt,I.ok.above,I.ok.inj,I.ok.has,I.ok.cab,λz=>absurd z UQ,@RT,I.ok.stk,I.ok.exf,I.ok.bs,I.ok.bsz,I.ok.noex,I.ok.exfs,I.ok.funs,I.ok.frf⟩,I.os,I.bare,I.base,I.loc,I.cell,I.free,I.freeC,I.pin,I.hok,I.len⟩
section
variable {P:Program}{w:World}{K:Frag}{mg:@R}{base:Heap}
theorem AR.okH{x qual:Str}{st:Stmt}{f:Addr}{fd:FuncData}{N ps:@a}{k:Nat}{sp:Sp}(F:@C5)(S:@FJ)(len:∀vs H Q E,@Dm->vs.length=ps.length)
  (hbody:∀(cdv:Value) (A:Around) (outer:@Cf) (s:Shared) (H:Hp) (vs:List V) (Q:VK) (E:XK),jx k @AE->@Dm->
   ∃t,rq (@Ar).nox @Oz t/\t {nx:=λ_ H'=>@Pz,rt:=Q} @C9 H):DD P w K mg base vG (k+1) f fd ps sp:=by
 obtain⟨oc,od,kV,doc,pm,an,cdv,ct,osl,rfl,lk,hcd⟩:=F.ex
 refine⟨len,λA outer s H args us vs Q E hr e0 hb r hsp=>?_⟩
 have hl:=len _ _ _ _ hsp
 have KX:@HV:=e0.mod.kin.keeps λb o e=>(@MM).1
 have lim:s.heap.NoLimit:=e0.mod.nolimit.keeps λb o e=>(@MM).1
 have hkind:∀y∈ps.zip us,(ao st).names.lookup y.1=@Ae\/((ao st).names.lookup y.1=@B8/\((cellsFrom (s.heap.objs.size+1) (ao st).names []).lookup y.1).isSome=true):=λ⟨n,v⟩ hy=>by
  rcases S.par n (W5 hy).1 with q|q
  ·exact .inl q
  ·exact @JC
 have hdep:A.depth<recursionLimit:=by have:=hr.dp;omega
 refine codeAny_call_function hdep (KX _ _ lk) rfl S.co S.gen rfl @J2 (hb _ _ _ _ ?_)
 refine WZ S.kind hkind λenv he s1 x=>?_
 subst he
 refine⟨@LD,codeAny_func ?_⟩
 obtain⟨t,ht,hq⟩:=hbody cdv A outer s H vs Q E @V_ hsp
 have I:@YG:=tZ S e0 hl r x
 refine Vx @Sx (λfl s' hs=>?_) λe s' hs=>hs
 have fin:∀{σ':St} {H':Hp} {v:V} {u:Value},@XJ->@Fw->Q v H'->@H3:=
  λ{σ' H' v u} J rv q=>@F4
 cases fl with
 |ret u=>
  obtain⟨v,σ',H',J,rv,q⟩:=hs
  exact fin J rv q
 |next=>
  obtain⟨σ',H',J,q⟩:=hs
  exact fin (v:=V.non) (u:=Value.none) J rfl q
 |brk=>
  obtain⟨_,_,_,q⟩:=hs
  exact @Kj
 |cont=>
  obtain⟨_,_,_,q⟩:=hs
  exact @Kj
def AR.y9{x qual:Str}{st:Stmt}{f:Addr}{fd:FuncData}{N ps:@a}{k:Nat}{sp:Sp}(F:@C5)(S:@FJ)(len:∀vs H Q E,@Dm->vs.length=ps.length)
  (hbody:∀(cdv:Value) (A:Around) (outer:@Cf) (s:Shared) (H:Hp) (vs:List V) (Q:VK) (E:XK),@SX->@Dm->
   ∃t,rq @A3 @Oz t/\t {nx:=λ_ H'=>@Pz,rt:=Q} @C9 H):gM P w K mg base @Ga (k+1) f fd ps sp:=by
 obtain⟨oc,od,kV,doc,pm,an,cdv,ct,osl,rfl,lk,hcd⟩:=F.ex
 exact HL lk hcd S len λA outer s H vs Q E hr hsp=>@PC
end
section
variable {X:Cx}{CX:yp}{k:Nat}{f:Addr}{fd:FuncData}{ps:@a}{sp:Sp}{dvs:List V}{ds:@e}{E:XK}{x:Str}{p pos:Pos}{e:Expr}{es:@Ac}{t:TA}
theorem FG(F:DD X.prog X.w X.K X.mg X.base CX k f fd ps sp)(hr:jx k X.A)(hg:Gl X x)(hm:X.mg x=@Fc)(hk:@KF=true)(hb:@Kh)(hd:@TP)(hx:@Px)
  (ha:PA X (e::es) t) (hdb:@T:=by decide) (he:starEach (e::es) X.env=(false,@DE)::@AA:=by rfl) (hpl:(@C3).any (·.1)=false:=by rfl) :
  PE X (.Call @EX (e::es) [] pos) (Gz sp dvs E t):=by
 intro pins s σ H Q I h
 refine Wk (oH I hg hm ?_ hdb)
 refine PySem.W.callWith_K (h₀:=X.base) I.ok.mod.kin hk (cK @A7 λus s1 ⟨vs,H1,I1,r,q⟩=>⟨I1.kIn,?_⟩) he hpl
 have r2:Vals (vs++dvs) (us++ds):=r.append hd
 have hl:(us++ds).length=ps.length:=by rw[<-r2.length];exact F.len _ _ _ _ q
 refine wpAny_call (Wz (F.run X.A X.stack s1 H1 @KO (us++ds) (vs++dvs) Q E hr I1.env0 (hb s1 us I1.kIn hl) r2 q) λr s' hq=>?_)
 cases r with
 |error e=>exact @Tb
 |ok fl=>
  cases fl with
  |ret u=>exact I1.after hq
  |next=>exact @FZ
  |brk=>exact @FZ
  |cont=>exact @FZ
end
abbrev D:=PyData
def kD:Key->D
 | .inl i=>.int i
 | .inr x=>.str x
mutual
inductive Rp(K:Frag)(G:Hp):V->D->Prop
 |non:Rp K G .non .none
 |bl (b:Bool):Rp K G @L3 @LJ
 |int (i:Int):Rp K G @AJ @AJ
 |str (x:Str):Rp K G @Hr @Hr
 |tup {a:Addr} {xs:List V} {ds:List D}:iO K G a xs->@Ax->Rp K G @BU @D7
 |lst {a:Addr} {xs:List V} {ds:List D}:G a=@BI->@Ax->Rp K G @BU @Ej
 |scr {a:Addr} {ns:@E}:jy K G a @B6->Rp K G @BU (.dict [(.none,@AS)])
 |dK {a:Addr} {kvs:List (Key×V)} {ds:List (D×D)}:G a=@Fl->Fl K G kvs ds->@YU
 |dT {a:Addr} {kvs:List (@Nh ×V)} {ep:Nat} {ds:List (D×D)}:G a=@Lt->Fh K G kvs ds->@YU
inductive c9(K:Frag)(G:Hp):List V->List D->Prop
 |nil:c9 K G [] []
 |cons {x:V} {xs:List V} {d:D} {ds:List D}:@Gf->@Ax->c9 K G (x::xs) (d::ds)
inductive Fl(K:Frag)(G:Hp):List (Key×V)->List (D×D)->Prop
 |one {k:Key} {x:V} {d:D}:@Gf->Fl K G [(k,x)] [(kD k,d)]
 |cons {k:Key} {x:V} {xs:List (Key×V)} {d:D} {ds:List (D×D)}:@Gf->Fl K G xs ds->Fl K G ((k,x)::xs) ((kD k,d)::ds)
inductive Fh(K:Frag)(G:Hp):List (@Nh ×V)->List (D×D)->Prop
 |nil:Fh K G [] []
 |cons {k:@Nh} {x:V} {xs:List (@Nh ×V)} {d:D} {ds:List (D×D)}:@Gf->Fh K G xs ds->Fh K G ((k,x)::xs) ((.tuple (k.map kD),d)::ds)
end
section
variable {K:Frag}{G G' H H':Hp}
def Q0{b:Addr}{o:HO}(h:@SL)(hu:∀ps,o≠@K5):H b=some o:=by
 obtain⟨u,e,k,_⟩:=h.some
 rw[e,k hu]
theorem lx{a b:Addr}{o u:HO}(h:Kt H b u)(hb:b≠a)(ha:∀x y,H a≠@HA):Kt @GC b u:=by
 cases u with
 |tbl ps=>
  obtain⟨m,e,t,k⟩:=h
  refine⟨m,by rw[aJ hb];exact e,t,λc hc=>?_⟩
  obtain⟨x,ex,ix⟩:=k c hc
  exact⟨x,by rw[aJ (λz=>ha x _ (z▸ex))];exact ex,ix⟩
 |_=>exact(aJ hb).trans h
def Rd.mono{a:Addr}{u:HO}(h:Rd G a u)(s:@CL)(hu:∀ps,u≠@K5:=by intro _ z;cases z):Rd G' a u:=h.elim (λe=>.inl (Q0 (s _ _ e) hu)) λ⟨o,e⟩=>.inr ⟨o,s _ _ e⟩
mutual
theorem Rp.mono(s:@CL):∀{x:V} {d:D},@Gf->Rp K G' x d
 |_,_,.non=>.non
 |_,_,.bl b=>.bl b
 |_,_,.int i=>.int i
 |_,_,.str x=>.str x
 |_,_,.tup h hs=>.tup (@Wj) @UI
 |_,_,.lst h hs=>.lst @Xx @UI
 |_,_,.scr h=>.scr (s.seq h)
 |_,_,.dK h hs=>.dK @Xx (Fl.mono s hs)
 |_,_,.dT h hs=>.dT @Xx (Fh.mono s hs)
theorem c9.mono(s:@CL):∀{xs:List V} {ds:List D},@Ax->c9 K G' xs ds
 |_,_,.nil=>.nil
 |_,_,.cons h hs=>.cons @PS @UI
theorem Fl.mono(s:@CL):∀{xs:List (Key×V)} {ds:List (D×D)},Fl K G xs ds->Fl K G' xs ds
 |_,_,.one h=>.one @PS
 |_,_,.cons h hs=>.cons @PS (Fl.mono s hs)
theorem Fh.mono(s:@CL):∀{xs:List (@Nh ×V)} {ds:List (D×D)},Fh K G xs ds->Fh K G' xs ds
 |_,_,.nil=>.nil
 |_,_,.cons h hs=>.cons @PS (Fh.mono s hs)
end
theorem c9.len:∀{xs:List V} {ds:List D},@Ax->xs.length=ds.length
 |_,_,.nil=>rfl
 |_,_,.cons _ t=>by simp[c9.len t]
theorem c9.at:∀{xs:List V} {ds:List D} {i:Nat} {d:D},@Ax->ds[i]? =some d->∃x,xs[i]? =some x/\@Gf
 |_,_,_,_,.nil,e=>by simp at e
 |_,_,0,_,.cons r _,e=>by simp at e;subst e;exact @Kx
 |_,_,i+1,x,.cons _ t,e=>by
  obtain⟨u,h1,h2⟩:=c9.at (i:=i) (d:=x) t (by simpa using e)
  exact⟨u,by simpa using h1,h2⟩
theorem c9.at':∀{xs:List V} {ds:List D} {i:Nat} {x:V},@Ax->xs[i]? =some x->∃d,ds[i]? =some d/\@Gf
 |_,_,_,_,.nil,e=>by simp at e
 |_,_,0,_,.cons r _,e=>by simp at e;subst e;exact @Kx
 |_,_,i+1,x,.cons _ t,e=>by
  obtain⟨u,h1,h2⟩:=c9.at' (i:=i) (x:=x) t (by simpa using e)
  exact⟨u,by simpa using h1,h2⟩
theorem c9.append:∀{xs ys:List V} {ds es:List D},@Ax->c9 K G ys es->c9 K G (xs++ys) (ds++es)
 |_,_,_,_,.nil,s=>s
 |_,_,_,_,.cons r t,s=>.cons r (c9.append t s)
def c9.snoc{xs:List V}{ds:List D}{x:V}{d:D}(h:@Ax)(q:@Gf):c9 K G (xs++[x]) (ds++[d]):=h.append (.cons q .nil)
theorem c9.take:∀{xs:List V} {ds:List D} (n:Nat),@Ax->c9 K G (xs.take n) (ds.take n)
 |_,_,0,_=>.nil
 |_,_,_+1,.nil=>.nil
 |_,_,n+1,.cons r t=>.cons r (c9.take n t)
theorem c9.drop:∀{xs:List V} {ds:List D} (n:Nat),@Ax->c9 K G (xs.drop n) (ds.drop n)
 |_,_,0,r=>r
 |_,_,_+1,.nil=>.nil
 |_,_,n+1,.cons _ t=>c9.drop n t
theorem c9.set{x:V}{d:D}(r:@Gf):∀{xs:List V} {ds:List D} (i:Nat),@Ax->c9 K G (xs.set i x) (ds.set i d)
 |_,_,_,.nil=>.nil
 |_,_,0,.cons _ t=>.cons r t
 |_,_,i+1,.cons q t=>.cons q (c9.set r i t)
theorem c9.rep{n:Nat}{xs:List V}{ds:List D}(h:@Ax):c9 K G (List.replicate n xs).flatten (List.replicate n ds).flatten:=by
 induction n with
 |zero=>exact .nil
 |succ n ih=>rw[Vk,Vk,VU,VU];exact h.append ih
mutual
def FZ:D->Bool
 | .dict _=>false
 | .list ds=>wc ds
 | .tuple ds=>wc ds
 |_=>true
def wc:List D->Bool
 | []=>true
 |d::ds=>FZ d&&wc ds
end
mutual
theorem Rp.rep:∀{x:V} {d:D},@Gf->FZ d=true->Rep K G x d
 |_,_,.non,_=>.non
 |_,_,.bl b,_=>.bl b
 |_,_,.int i,_=>.int i
 |_,_,.str x,_=>.str x
 |_,_,.tup h hs,e=>.tup h (c9.reps hs (by simpa[FZ]using e))
 |_,_,.lst h hs,e=>.lst (.inl (.inl h)) (c9.reps hs (by simpa[FZ]using e))
 |_,_,.scr _,e=>by simp[FZ]at e
 |_,_,.dK _ _,e=>by simp[FZ]at e
 |_,_,.dT _ _,e=>by simp[FZ]at e
theorem c9.reps:∀{xs:List V} {ds:List D},@Ax->wc ds=true->nt K G xs ds
 |_,_,.nil,_=>.nil
 |_,_,.cons h hs,e=>.cons (Rp.rep h (by simp[wc]at e;exact e.1)) (c9.reps hs (by simp[wc]at e;exact e.2))
end
def Own(K:Frag)(G H:Hp)(a:Addr):D->Prop
 | .list ds=>∃xs,H a=@BI/\@Ax
 | .dict ds=>(∃kvs,H a=@Fl/\Fl K G kvs ds)\/∃q:List (@Nh ×V)×Nat,H a=some (.dT q.1 q.2)/\Fh K G q.1 ds
 |_=>False
def Own.obj{a:Addr}{d:D}(h:@MI):∃o,H a=some o:=by
 cases d<;>first|exact h.elim|skip
 ·obtain⟨xs,e,_⟩:=h;exact @IK
 ·rcases h with⟨_,e,_⟩|⟨_,e,_⟩<;>exact @IK
def Own.mono{a:Addr}{d:D}(h:@MI)(s:@CL)(m:∀o,H a=some o->Kt H' a o):@TH:=by
 cases d<;>first|exact h.elim|skip
 ·obtain⟨xs,e,r⟩:=h;exact⟨xs,m _ e,@Lr ⟩
 ·rcases h with⟨k,e,r⟩|⟨k,e,r⟩
  ·exact .inl ⟨k,m _ e,@Lr ⟩
  ·exact .inr ⟨k,m _ e,@Lr ⟩
def Own.rp{a:Addr}{d:D}(h:@MI)(n:G a=none){G':Hp}(s:@CL)(e:∀o,H a=some o->G' a=some o):Rp K G' @BU d:=by
 cases d<;>first|exact h.elim|skip
 ·obtain⟨xs,q,r⟩:=h;exact .lst (e _ q) (@Lr)
 ·rcases h with⟨k,q,r⟩|⟨k,q,r⟩
  ·exact .dK (e _ q) (@Lr)
  ·exact .dT (e _ q) (@Lr)
def o4(K:Frag)(B:@i)(G H:Hp)(v:V)(d:D):Prop:=Rp K G v d\/∃a,v=.ref a/\B≠some a/\@MI
def jQ(B:@i)(H H':Hp):Prop:=(∀b o,H b=some o->B≠some b->@LX)/\∀b o u,H b=@E3->H' b=@E3
def jQ.refl(B:@i)(H:Hp):jQ B H H:=⟨λ_ _ h _=>@WN,λ_ _ _ h=>h⟩
theorem BO{B:@i}{b:Addr}{o:HO}(h1:@SL)(y:@DQ)(n:B≠some b):@LX:=by
 cases o with
 |tbl ps=>
  obtain⟨m,e,t,k⟩:=h1
  obtain⟨m2,e2,t2,k2⟩:=y.1 b _ e n
  refine⟨m++m2,by rw[e2,Array.append_assoc],by rw[Wf];exact t.app t2,λc hc=>?_⟩
  rw[Wf,UW]at hc
  rcases hc with hc|hc
  ·obtain⟨o,eo,io⟩:=k c hc;exact⟨o,y.2 c _ _ eo,io⟩
  ·exact k2 c hc
 |_=>exact y.1 b _ h1 n
def jQ.trans{B:@i}{H1:Hp}(x:jQ B H H1)(y:jQ B H1 H'):@DQ:=⟨λb o h n=>BO (x.1 b o h n) y n,λb o u h=>y.2 b o u (x.2 b o u h)⟩
def ay.mov(s:@Cy)(B:@i):@DQ:=⟨λb o h _=>s b o h,λb o u h=>@KS ⟩
def o4.mono{B:@i}{v:V}{d:D}(h:@Op)(s:@CL)(m:@DQ):@R9:=by
 rcases h with h|⟨a,e,n,h⟩
 ·exact .inl (h.mono s)
 ·exact .inr ⟨a,e,n,h.mono s λo q=>m.1 a o q n⟩
def o4.rpH{B:@i}{v:V}{d:D}(h:@Op)(s:ay G H):Rp K H v d:=by
 rcases h with h|⟨a,rfl,n,h⟩
 ·exact h.mono s
 ·cases d<;>first|exact h.elim|skip
  ·obtain⟨xs,q,r⟩:=h;exact .lst q (@Lr)
  ·rcases h with⟨k,q,r⟩|⟨k,q,r⟩
   ·exact .dK q (@Lr)
   ·exact .dT q (@Lr)
def o4.list{B:@i}{v:V}{ds:List D}(h:o4 K B G H v @Ej)(s:ay G H):∃a xs,v=.ref a/\Rd H a @JQ/\@Ax:=by
 rcases h with h|⟨a,rfl,n,xs,q,r⟩
 ·cases h with
  |lst h r=>exact⟨_,_,rfl,.inl @Xx,r⟩
 ·exact⟨a,xs,rfl,.inl q,r⟩
def o4.tuple{B:@i}{v:V}{ds:List D}(h:o4 K B G H v @D7)(s:ay G H):∃a xs,v=.ref a/\@Cl/\@Ax:=by
 rcases h with h|⟨a,rfl,n,h⟩
 ·cases h with
  |tup h r=>exact⟨_,_,rfl,@Wj,r⟩
 ·exact h.elim
def o4.int{B:@i}{v:V}{i:Int}(h:o4 K B G H v @AJ):v=.int i:=by
 rcases h with h|⟨a,rfl,n,h⟩
 ·cases h;rfl
 ·exact h.elim
def o4.bool{B:@i}{v:V}{b:Bool}(h:o4 K B G H v @LJ):v=.bl b:=by
 rcases h with h|⟨a,rfl,n,h⟩
 ·cases h;rfl
 ·exact h.elim
def o4.str{B:@i}{v:V}{x:Str}(h:o4 K B G H v @Hr):v=.str x:=by
 rcases h with h|⟨a,rfl,n,h⟩
 ·cases h;rfl
 ·exact h.elim
def o4.none{B:@i}{v:V}(h:o4 K B G H v .none):v=.non:=by
 rcases h with h|⟨a,rfl,n,h⟩
 ·cases h;rfl
 ·exact h.elim
end
def Fz:HO->Prop
 | .tup _=>True
 | .bj _ _=>True
 |_=>False
def Mx(H:Hp)(b:Addr):Prop:=H b≠none/\∀o,H b=some o->¬Fz o
def Mx.lst{H:Hp}{b:Addr}{xs:List V}(h:H b=@BI):Mx H b:=⟨by rw[h];simp,λys z=>by rw[h]at z;cases z;exact λy=>y⟩
theorem Mx.same{H H':Hp}{b:Addr}(h:Mx H b)(m:∀o,H b=some o->@LX):Mx H' b:=by
 obtain⟨h1,h2⟩:=h
 cases e:H b with
 |none=>exact absurd e h1
 |some o=>
  obtain⟨u,eu,k1,k2⟩:=(m o e).some
  refine⟨by rw[eu];simp,λxs z=>?_⟩
  rw[eu]at z
  cases z
  by_cases c:∃ps,o=@K5
  ·obtain⟨ps,e⟩:=k2 c;rw[e];exact λy=>y
  ·rw[k1 λps e=>c ⟨ps,e⟩];exact h2 o e
def Own.mx{K:Frag}{G H:Hp}{a:Addr}{d:D}(h:@MI):Mx H a:=by
 cases d<;>first|exact h.elim|skip
 ·obtain⟨xs,e,_⟩:=h;exact Mx.lst e
 ·rcases h with⟨k,e,_⟩|⟨k,e,_⟩<;>exact⟨by rw[e];simp,λys z=>by rw[e]at z;cases z;exact λy=>y⟩
open Classical in
noncomputable def ug(G H:Hp):Hp:=λb=>match G b with
 |some o=>some o
 |none=>match H b with
  |some o=>if Fz o then some o else none
  |none=>none
def DZ{G H:Hp}:ay G (ug G H):=λb o e=>Kt.of (by unfold ug;rw[e])
theorem CP{G H:Hp}(s:ay G H){b:Addr}{o:HO}(e:H b=some o)(f:Fz o):ug G H b=some o:=by
 unfold ug
 cases q:G b with
 |some u=>
  obtain⟨u',eu,k1,k2⟩:=(s b u q).some
  rw[e]at eu
  cases eu
  by_cases c:∃ps,u=@K5
  ·obtain⟨ps,z⟩:=k2 c;subst z;exact f.elim
  ·rw[k1 λps z=>c ⟨ps,z⟩]
 |none=>simp only[e];rw[Uz f]
theorem HU{G H:Hp}(s:ay G H):ay (ug G H) H:=λb o e=>by
 unfold ug at e
 cases q:G b with
 |some u=>rw[q]at e;cases e;exact s b _ q
 |none=>
  rw[q]at e
  cases q2:H b with
  |none=>rw[q2]at e;cases e
  |some u=>
   rw[q2]at e
   dsimp only at e
   split at e
   ·cases e;exact Kt.of q2
   ·cases e
theorem Jw{G H H':Hp}(hh:@Cy){b:Addr}(m:Mx H b):ug G H' b=G b:=by
 unfold ug
 cases q:G b with
 |some u=>rfl
 |none=>
  obtain⟨h1,h2⟩:=m
  cases e:H b with
  |none=>exact absurd e h1
  |some o=>
   have hm:=(show Mx H b from @Uo).same (hh b)
   cases e2:H' b with
   |none=>rfl
   |some u=>simp only;rw[UJ (hm.2 u e2)]
def zw{K:Frag}{G H:Hp}(s:ay G H){a:Addr}{xs:List V}(h:@Cl):iO K (ug G H) a xs:=by
 rcases h with(h|⟨o,h⟩)|h
 ·exact .inl (.inl (CP s h trivial))
 ·exact .inl (.inr ⟨o,CP s h trivial⟩)
 ·exact .inr h
structure Fx where
 K:Frag
 H0:Hp
 G0:Hp
 par:@Ao
 ca:Str->Addr
 br:Nat->Bool
 bx:@i
inductive Sl where
 |no|fz (d:D)|ow (d:D)|bx|br (d:D)
abbrev En:=List Sl
inductive Nv where
 |no|da (d:D)|bx
def Sl.val:Sl->Nv
 | .no=>.no
 | .fz d=>.da d
 | .ow d=>.da d
 | .br d=>.da d
 | .bx=>.bx
def vl(env:En):@BD:=env.map Sl.val
def Sk(Γ:Fx)(B:@i)(G H:Hp)(i:Nat)(o:Option (@Pv)):Sl->Prop
 | .no=>True
 | .fz d=>∃v,o=@Fd/\@MJ
 | .ow d=>∃a,o=@Ef/\@W4=none/\G a=none/\B≠some a/\@MX
 | .bx=>∃a,o=@Ef/\B=some a
 | .br d=>@II=true/\∃a,o=@Ef/\B≠some a/\a∉Γ.par/\@MX
structure SR(Γ:Fx)(B:@i)(G H:Hp)(σ:St)(env:En)(β:Int):Prop where
 sub:ay G H
 old:ay Γ.G0 G
 new:∀b,Mx Γ.H0 b->Γ.G0 b=none->G b=none
 keep:∀b o,Γ.H0 b=some o->b∉Γ.par->@SL
 pin:∀b,b∈Γ.par->Mx H b
 fix:∀b,Γ.bx=some b->B=some b
 box:∀b,B=some b->H b=@GV/\G b=none/\(b∈Γ.par\/Γ.H0 b=none)
 len:σ.length=env.length
 slot:∀(i:Nat) (s:Sl),env[i]? =some s->Sk Γ B G H i (σ[i]?) s
 sep:∀(i j:Nat) (a:Addr) (d e:D),env[i]? =@GW->env[j]? =some (.ow e)->σ[i]? =@Ef->σ[j]? =@Ef->i=j
structure Ext(G H G' H':Hp):Prop where
 hh:@Cy
 gg:@CL
 gh:@SW
 on:∀b,Mx H b->G' b=G b
def Ext.refl{G H:Hp}(s:ay G H):Ext G H G H:=⟨@A6,@A6,s,λ_ _=>rfl⟩
def Ext.new{G H:Hp}(s:ay G H){p:Addr}{o:HO}(h:H p=none):Ext G H (upd G p o) (upd H p o):=by
 refine⟨ay.new h,ay.new (s.free h),λb u e=>?_,λb hb=>?_⟩
 ·by_cases z:b=p
  ·subst z;rw[aE]at e;exact Kt.of (by rw[aE];exact e)
  ·rw[aJ z]at e;exact lx (s b u e) z (λx y w=>by rw[h]at w;cases w)
 ·exact aJ (λz=>hb.1 (by rw[z];exact h))
def Ext.own{G H:Hp}(s:ay G H){p:Addr}{o:HO}(h:H p=none):Ext G H G (upd H p o):=
 ⟨ay.new h,@A6,s.trans (ay.new h),λ_ _=>rfl⟩
def Ext.trans{G H G1 H1 G2 H2:Hp}(x:Ext G H G1 H1)(y:Ext G1 H1 G2 H2):Ext G H G2 H2:=by
 refine⟨x.hh.trans y.hh,x.gg.trans y.gg,y.gh,λb hb=>?_⟩
 rw[y.on b (hb.same λo e=>x.hh b o e),x.on b hb]
section
variable {Γ:Fx}{B:@i}{G H G' H':Hp}{σ:St}{env:En}{β:Int}
def SR.there(I:@b){b:Addr}(h:Γ.H0 b≠none):H b≠none:=by
 by_cases hp:b∈Γ.par
 ·exact(I.pin b hp).1
 ·cases e:Γ.H0 b with
  |none=>exact absurd e h
  |some o=>obtain⟨u,eu,_⟩:=(I.keep b o e hp).some;rw[eu];simp
def SR.thereM(I:@b){b:Addr}(h:Mx Γ.H0 b):Mx H b:=by
 by_cases hp:b∈Γ.par
 ·exact I.pin b hp
 ·exact h.same λo e=>I.keep b o e hp
def SR.ext(I:@b)(x:@Pp):@Fa:=by
 refine⟨x.gh,I.old.trans x.gg,λb h1 h2=>?_,λb o h1 h2=>(@MW).step x.hh,λb hb=>?_,I.fix,λb e=>?_,I.len,λi s e=>?_,I.sep⟩
 ·rw[x.on b (I.thereM h1)];exact I.new b h1 h2
 ·exact(@VL).same λo e=>x.hh b o e
 ·obtain⟨h1,h2,h3⟩:=@TC
  exact⟨x.hh b _ h1,by rw[x.on b (Mx.lst h1)];exact h2,h3⟩
 ·have q:=I.slot i s e
  cases s with
  |no=>trivial
  |fz d=>obtain⟨v,h1,h2⟩:=q;exact⟨v,h1,h2.mono x.gg⟩
  |ow d=>
   obtain⟨a,h1,h2,h3,h4,h5⟩:=q
   exact⟨a,h1,h2,by rw[x.on a h5.mx];exact h3,h4,h5.mono x.gg λo q=>x.hh a o q⟩
  |bx=>exact q
  |br d=>obtain⟨b1,a,h1,h4,hp,h5⟩:=q;exact⟨b1,a,h1,h4,hp,h5.mono x.gg λo q=>x.hh a o q⟩
def jk(env:En)(i:Nat):En:=match env[i]? with
 |some (.ow d)=>@Gh
 |_=>env
def bj(L:@c)(env:En):En:=L.foldl jk env
def cM(L M:@c)(env:En):bj (L++M) env=bj M @AD:=by unfold bj;rw[List.foldl_append]
def Cd(env:En)(i:Nat)(s:Sl)(h:∀t,env[i]? =some t->t.val=s.val):vl (env.set i s)=vl env:=by
 unfold vl
 apply List.ext_getElem?
 intro j
 rw[UN,UN,List.getElem?_set]
 by_cases e:i=j
 ·subst e
  by_cases hi:i<env.length
  ·simp only[V5,hi]
   have:=h _ (UB hi)
   simp[UB hi,this]
  ·simp only[V5,hi,WL]
   rw[V3 (@B)]
 ·simp[e]
def Kl(env:En)(i:Nat):vl @Mo=vl env:=by
 unfold jk
 split
 ·rename_i d e
  exact Cd _ _ _ λt ht=>by rw[e]at ht;cases ht;rfl
 ·rfl
theorem eN(L:@c)(env:En):vl @AD=vl env:=by
 unfold bj
 induction L generalizing env with
 |nil=>rfl
 |cons i L ih=>rw[foldl_cons,ih,Kl]
theorem Iv{i:Nat}{d:D}(h:(@p)[i]? =@Rm):env[i]? =some (.fz d)\/env[i]? =@GW\/env[i]? =@Kw:=by
 unfold vl at h
 rw[UN]at h
 cases e:env[i]? with
 |none=>rw[e]at h;simp at h
 |some s=>
  rw[e]at h
  cases s with
  |no=>simp[Sl.val]at h
  |fz d'=>simp[Sl.val]at h;subst h;exact @BQ
  |ow d'=>simp[Sl.val]at h;subst h;exact .inr (@BQ)
  |bx=>simp[Sl.val]at h
  |br d'=>simp[Sl.val]at h;subst h;exact .inr (@Fe)
theorem Qp{i:Nat}(h:(@p)[i]? =some .bx):env[i]? =some .bx:=by
 unfold vl at h
 rw[UN]at h
 cases e:env[i]? with
 |none=>rw[e]at h;simp at h
 |some s=>
  rw[e]at h
  cases s with
  |bx=>rfl
  |_=>simp[Sl.val]at h
def SR.freeze(I:@b)(i:Nat)(hb:@II=false){d:D}(h:(@p)[i]? =@Rm):∃G' v,SR Γ B G' H σ @Mo β/\@CL/\σ[i]? =@Fd/\Rp Γ.K G' v d:=by
 rcases Iv h with e|e|e
 ·obtain⟨v,h1,h2⟩:=@Nd
  exact⟨G,v,by unfold jk;rw[e];exact I,@A6,h1,h2⟩
 rotate_left
 ·obtain⟨z,_⟩:=@Nd
  rw[hb]at z;cases z
 ·obtain⟨a,h1,h2,h3,h4,h5⟩:=@Nd
  obtain⟨o,ho⟩:=h5.obj
  have sG:ay G (upd G a o):=ay.new h3
  have hi:i<env.length:=(Uy.mp e).1
  have hr:Rp Γ.K (upd G a o) @BU d:=h5.rp h3 sG λo' q=>by rw[ho]at q;cases q;exact aE
  refine⟨upd G a o,.ref a,?_,sG,h1,hr⟩
  unfold jk
  rw[e]
  refine⟨λb u q=>?_,I.old.trans sG,λb n1 n2=>?_,I.keep,I.pin,I.fix,λb q=>?_,by rw[VM];exact I.len,λj s q=>?_,λj k c d1 d2 q1 q2 q3 q4=>?_⟩
  ·by_cases z:b=a
   ·subst z;rw[aE]at q;cases q;exact Kt.of ho
   ·rw[aJ z]at q;exact I.sub b u q
  ·rw[aJ (λz=>n1.1 (by rw[z];exact h2))];exact I.new b n1 n2
  ·obtain⟨k1,k2,k3⟩:=I.box b q
   exact⟨k1,by rw[aJ (λz=>h4 (by rw[<-z];exact q))];exact k2,k3⟩
  ·by_cases z:j=i
   ·subst z
    rw[UT hi]at q
    cases q
    exact⟨.ref a,h1,hr⟩
   ·rw[UX @IV]at q
    have w:=@Nf
    cases s with
    |no=>trivial
    |fz d'=>obtain⟨v,w1,w2⟩:=w;exact⟨v,w1,w2.mono sG⟩
    |ow d'=>
     obtain⟨c,w1,w2,w3,w4,w5⟩:=w
     have ca:c≠a:=λz2=>z (I.sep j i c d' d q e w1 (by rw[z2];exact h1))
     exact⟨c,w1,w2,by rw[aJ ca];exact w3,w4,w5.mono sG λo q=>Kt.of q⟩
    |bx=>exact w
    |br d'=>obtain⟨b1,c,w1,w4,wp,w5⟩:=w;exact⟨b1,c,w1,w4,wp,w5.mono sG λo q=>Kt.of q⟩
  ·have ne:∀{j:Nat} {d':D},(env.set i (Sl.fz d))[j]? =@EJ->env[j]? =@EJ:=λ{j d'} q=>by
    by_cases z:j=i
    ·subst z;rw[UT hi]at q;cases q
    ·rw[UX @IV]at q;exact q
   exact I.sep j k c d1 d2 (ne q1) (ne q2) q3 q4
theorem SR.bj(I:@b)(L:@c)(hb:∀i,i∈L->@II=false):∃G',SR Γ B G' H σ @AD β/\@CL:=by
 induction L generalizing env G with
 |nil=>exact⟨G,I,@A6 ⟩
 |cons i L ih=>
  show ∃G',SR Γ B G' H σ (L2.bj L @Mo) β/\@CL
  have key:∃G1,SR Γ B G1 H σ @Mo β/\ay G G1:=by
   cases e:env[i]? with
   |none=>exact⟨G,by unfold jk;rw[e];exact I,@A6 ⟩
   |some s=>
    cases s with
    |ow d=>
     obtain⟨G1,v,h1,h2,_⟩:=I.freeze i (hb i (UG ..)) (d:=d) (by unfold vl;rw[UN,e];rfl)
     exact⟨G1,h1,h2⟩
    |_=>exact⟨G,by unfold jk;rw[e];exact I,@A6 ⟩
  obtain⟨G1,I1,s1⟩:=key
  obtain⟨G2,I2,s2⟩:=ih I1 λj hj=>hb j (UI _ hj)
  exact⟨G2,I2,@Dp ⟩
def SR.set(I:@b){i:Nat}(hi:i<env.length){v:V}{d:D}(h:@MJ):@T5:=by
 have hs:i<σ.length:=by rw[I.len];exact hi
 refine⟨I.sub,I.old,I.new,I.keep,I.pin,I.fix,I.box,by rw[VM,VM];exact I.len,λj s q=>?_,λj k c d1 d2 q1 q2 q3 q4=>?_⟩
 ·by_cases z:j=i
  ·subst z
   rw[UT hi]at q
   cases q
   exact⟨v,by rw[UT hs],h⟩
  ·rw[UX @IV]at q ⊢
   exact @Nf
 ·have ne:∀{j:Nat} {d':D},(env.set i (Sl.fz d))[j]? =@EJ->j≠i/\env[j]? =@EJ:=λ{j d'} q=>by
   by_cases z:j=i
   ·subst z;rw[UT hi]at q;cases q
   ·rw[UX @IV]at q;exact⟨z,q⟩
  obtain⟨n1,e1⟩:=ne q1
  obtain⟨n2,e2⟩:=ne q2
  rw[UX (Ne.symm n1)]at q3
  rw[UX (Ne.symm n2)]at q4
  exact I.sep j k c d1 d2 e1 e2 q3 q4
def SR.setOw(I:@b){i:Nat}(hi:i<env.length){a:Addr}{d:D}(h0:@W4=none)(hg:G a=none)(hb:B≠some a)(h:@MX)(hn:∀(j:Nat) (d':D),env[j]? =@EJ->j≠i->σ[j]?≠@Ef):@JR:=by
 have hs:i<σ.length:=by rw[I.len];exact hi
 refine⟨I.sub,I.old,I.new,I.keep,I.pin,I.fix,I.box,by rw[VM,VM];exact I.len,λj s q=>?_,λj k c d1 d2 q1 q2 q3 q4=>?_⟩
 ·by_cases z:j=i
  ·subst z
   rw[UT hi]at q
   cases q
   exact⟨a,by rw[UT hs],h0,hg,hb,h⟩
  ·rw[UX @IV]at q ⊢
   exact @Nf
 ·by_cases z1:j=i
  ·by_cases z2:k=i
   ·rw[z1,z2]
   ·subst z1
    rw[UX (Ne.symm z2)]at q2 q4
    rw[UT hs]at q3
    cases q3
    exact absurd q4 (hn k d2 q2 z2)
  ·by_cases z2:k=i
   ·subst z2
    rw[UX (Ne.symm z1)]at q1 q3
    rw[UT hs]at q4
    cases q4
    exact absurd q3 (hn j d1 q1 z1)
   ·rw[UX (Ne.symm z1)]at q1 q3
    rw[UX (Ne.symm z2)]at q2 q4
    exact I.sep j k c d1 d2 q1 q2 q3 q4
def SR.fresh(I:@b){a:Addr}(h:H a=none):@W4=none/\G a=none/\B≠some a/\∀(j:Nat) (d:D),env[j]? =@GW->σ[j]?≠@Ef:=by
 have hB:B≠some a:=λz=>by rw[(I.box a z).1]at h;cases h
 refine⟨?_,I.sub.free h,hB,λj d e z=>?_⟩
 ·cases e:@W4 with
  |none=>rfl
  |some o=>exact absurd h (I.there (by rw[e];simp))
 ·obtain⟨c,h1,_,_,_,h5⟩:=I.slot j _ e
  rw[z]at h1
  cases h1
  obtain⟨o,ho⟩:=h5.obj
  rw[h]at ho;cases ho
def SR.write(I:@b)(hb:∀j,Γ.br j=false){i:Nat}{a:Addr}{d d':D}{o:HO}(e:env[i]? =@GW)(ea:σ[i]? =@Ef)(h:∀H',H' a=some o->ay G H'->Own Γ.K G H' a d'):SR Γ B G @GC σ (env.set i (.ow d')) β:=by
 obtain⟨a',h1,h2,h3,h4,h5⟩:=@Nd
 rw[ea]at h1;cases h1
 have hi:i<env.length:=(Uy.mp e).1
 have ha:∀x y,H a≠@HA:=λx y w=>h5.mx.2 _ w trivial
 have sub:ay G @GC:=λb u q=>lx (I.sub b u q) (λz=>by rw[z,h3]at q;cases q) ha
 refine⟨sub,I.old,I.new,λb u q n=>?_,λb q=>?_,I.fix,λb q=>?_,by rw[VM];exact I.len,λj s q=>?_,λj k c d1 d2 q1 q2 q3 q4=>?_⟩
 ·exact lx (I.keep b u q n) (λz=>by rw[z,h2]at q;cases q) ha
 ·by_cases z:b=a
  ·subst z;exact(h _ aE sub).mx
  ·exact(I.pin b q).same λo e=>Kt.of (by rw[aJ z];exact e)
 ·obtain⟨k1,k2,k3⟩:=I.box b q
  exact⟨by rw[aJ (λz=>h4 (by rw[<-z];exact q))];exact k1,k2,k3⟩
 ·by_cases z:j=i
  ·subst z
   rw[UT hi]at q
   cases q
   exact⟨a,ea,h2,h3,h4,h _ aE sub⟩
  ·rw[UX @IV]at q
   have w:=@Nf
   cases s with
   |no=>trivial
   |fz d1=>exact w
   |ow d1=>
    obtain⟨c,w1,w2,w3,w4,w5⟩:=w
    have ca:c≠a:=λz2=>z (I.sep j i c d1 d q e w1 (by rw[z2];exact ea))
    exact⟨c,w1,w2,w3,w4,w5.mono (@A6) λo q=>Kt.of (by rw[aJ ca];exact q)⟩
   |bx=>exact w
   |br d1=>obtain⟨b1,_⟩:=w;rw[hb j]at b1;cases b1
 ·have back:∀{j:Nat} {d1:D},(env.set i (Sl.ow d'))[j]? =@Wy->∃d2,env[j]? =some (.ow d2):=λ{j d1} q=>by
   by_cases z:j=i
   ·subst z;exact⟨d,e⟩
   ·rw[UX @IV]at q;exact⟨d1,q⟩
  obtain⟨_,b1⟩:=back q1
  obtain⟨_,b2⟩:=back q2
  exact I.sep j k c _ _ b1 b2 q3 q4
end
inductive R(α:Type) where
 |ok (a:α) (β:Int)
 |exc (c:Str)
 |bad
def R.bnd{α γ:Type}(r:R α)(k:α->Int->R γ):R γ:=match r with
 | .ok a β=>k a β
 | .exc c=>.exc c
 | .bad=>.bad
def R.of{α:Type}(o:@Pw)(β:Int):R α:=match o with
 |some a=>@Pl
 |none=>.bad
abbrev VF(α:Type):=@BD->Int->R α
def Kp(Γ:Fx)(H':Hp):Prop:=∀b o,Γ.H0 b=some o->b∉Γ.par->@LX
def Out{α:Type}(Γ:Fx)(E:XK)(r:R α)(P:α->Int->Prop):Prop:=match r with
 | .ok a β=>P a β
 | .exc c=>∀H',Kp Γ H'->E (@Fj) none H'
 | .bad=>False
section
variable {α γ:Type}{Γ:Fx}{E:XK}
theorem Out.bnd{r:R α}{k:α->Int->R γ}{P:γ->Int->Prop}(h:Out Γ E (r.bnd k) P):Out Γ E r λa β=>Out Γ E (k a β) P:=by
 cases r with
 |ok a β=>exact h
 |exc c=>exact h
 |bad=>exact h
theorem Out.imp{r:R α}{P P':α->Int->Prop}(h:Out Γ E r P)(i:∀a β,P a β->P' a β):Out Γ E r P':=by
 cases r with
 |ok a β=>exact i a β h
 |exc c=>exact h
 |bad=>exact h
theorem Out.of{o:@Pw}{β:Int}{P:α->Int->Prop}(h:Out Γ E (R.of o β) P):∃a,o=some a/\P a β:=by
 cases o with
 |none=>exact h.elim
 |some a=>exact⟨a,rfl,h⟩
end
inductive Md where
 |b|v|w
def VO(K:Frag)(B:@i)(H G' H':Hp):Md->D->V->Prop
 | .b,d,v=>@R9
 | .v,d,v=>Rp K G' v d
 | .w,d,v=>∃a,v=.ref a/\H a=none/\G' a=none/\@TH
def pT(Γ:Fx)(E:XK)(f:VF D)(L:@c)(md:Md):TE:=λσ H Q=>∃env G B β,@b/\
 Out Γ E (@C0) λd β'=>∀v G' H',@Bi->@CL->@DQ->@Hg->Q v H'
def SE(X:Cx)(Γ:Fx)(E:XK)(e:Expr)(f:VF D)(L:@c)(md:Md):Prop:=PE X e (pT Γ E f L md)
def qT(Γ:Fx)(E:XK)(f:@CQ)(L:@c):TT:=λσ H Q=>∃env G B β,@b/\
 Out Γ E (@C0) λc β'=>∀G' H',@Bi->@CL->@DQ->Q c H'
def CM(X:Cx)(Γ:Fx)(E:XK)(e:Expr)(f:@CQ)(L:@c):Prop:=PT X e (qT Γ E f L)
def AQ(X:Cx)(Γ:Fx)(E:XK)(e:Expr)(f:@CQ)(L:@c):Prop:=PW X e (qT Γ E f L)
def aT(Γ:Fx)(E:XK)(f:@w)(L:@c):TA:=λσ H Q=>∃env G B β,@b/\
 Out Γ E (@C0) λds β'=>∀vs G' H',@Bi->@CL->@DQ->c9 Γ.K G' vs ds->Q vs H'
def SA(X:Cx)(Γ:Fx)(E:XK)(es:@Ac)(f:@w)(L:@c):Prop:=PA X es (aT Γ E f L)
def PE.post'{X:Cx}{e:Expr}{t u:TE}(h:PE X e t)(m:∀σ H Q,@W2->@IH):PE X e u:=λpins s σ H Q I q=>@JO
def PT.post{X:Cx}{e:Expr}{t u:TT}(h:PT X e t)(m:∀σ H Q,@W2->@IH):PT X e u:=λpins s σ H Q I q=>@JO
def PW.post{X:Cx}{e:Expr}{t u:TT}(h:PW X e t)(m:∀σ H Q,@W2->@IH):PW X e u:=λwh pins s σ H Q I q=>h wh pins s σ H Q I (m σ H Q q)
def PA.post{X:Cx}{es:@Ac}{t u:TA}(h:@YM)(m:∀σ H Q,@W2->@IH):PA X es u:=λpos pins s σ H Q I q=>h pos pins s σ H Q I (m σ H Q q)
def PS.post{X:Cx}{st:Stmt}{t u:TS}(h:PS X st t)(m:∀D σ H,u D σ H->t D σ H):PS X st u:=λpins s σ H D I q=>@Ri
def dat:Option Nv->@Ab
 |some (.da d)=>some d
 |_=>none
def gv(i:Nat):VF D:=λvs β=>R.of (dat vs[i]?) β
def cst(d:D):VF D:=λ_ β=>@Kg
section
variable {X:Cx}{Γ:Fx}{E:XK}{e a b c:Expr}{f fa fb fc:VF D}{L La Lb Lc:@c}{md ma mb mc:Md}{pos:Pos}
theorem join_some{o:Option Nv}{d:D}(h:dat o=some d):o=@Rm:=by
 cases o with
 |none=>cases h
 |some o=>cases o with
  |da x=>cases h;rfl
  |_=>cases h
def SR.letIn{B:@i}{G H:Hp}{σ:St}{env:En}{β:Int}(I:@b){p:Addr}{d:D}(h0:Γ.H0 p=none)(hg:G p=none)(hb:B≠some p)(hn:∀(j:Nat) (d':D),env[j]? =@EJ->σ[j]?≠some (some @E7))(h:Own Γ.K G H p d) :
  ∃G',SR Γ B G' H σ env β/\@CL/\Rp Γ.K G' @E7 d:=by
 obtain⟨o,ho⟩:=h.obj
 have sG:ay G (upd G p o):=ay.new hg
 refine⟨upd G p o,⟨λb u q=>?_,I.old.trans sG,λb n1 n2=>?_,I.keep,I.pin,I.fix,λb q=>?_,I.len,λj s q=>?_,I.sep⟩,sG,h.rp hg sG λo' q=>by rw[ho]at q;cases q;exact aE⟩
 ·by_cases z:b=p
  ·subst z;rw[aE]at q;cases q;exact Kt.of ho
  ·rw[aJ z]at q;exact I.sub b u q
 ·rw[aJ (λz=>n1.1 (by rw[z];exact h0))];exact I.new b n1 n2
 ·obtain⟨k1,k2,k3⟩:=I.box b q
  exact⟨k1,by rw[aJ (λz=>hb (by rw[<-z];exact q))];exact k2,k3⟩
 ·have w:=@Nf
  cases s with
  |no=>trivial
  |fz d'=>obtain⟨v,w1,w2⟩:=w;exact⟨v,w1,w2.mono sG⟩
  |ow d'=>
   obtain⟨c,w1,w2,w3,w4,w5⟩:=w
   have ca:c≠p:=λz2=>hn j d' q (by rw[<-z2];exact w1)
   exact⟨c,w1,w2,by rw[aJ ca];exact w3,w4,w5.mono sG λo q=>Kt.of q⟩
  |bx=>exact w
  |br d'=>obtain⟨b1,c,w1,w4,wp,w5⟩:=w;exact⟨b1,c,w1,w4,wp,w5.mono sG λo q=>Kt.of q⟩
def ye{env:En}{i j:Nat}{d:D}(h:(@Mo)[j]? =@GW):env[j]? =@GW:=by
 unfold jk at h
 split at h
 ·rename_i d' e
  by_cases z:i=j
  ·subst z
   rw[UT (Uy.mp e).1]at h;cases h
  ·rw[UX z]at h;exact h
 ·exact h
theorem uI{L:@c}{env:En}{j:Nat}{d:D}(h:(@AD)[j]? =@GW):env[j]? =@GW:=by
 unfold bj at h
 induction L generalizing env with
 |nil=>exact h
 |cons i L ih=>exact ye (ih h)
def SR.letW{B:@i}{G H G' H':Hp}{σ:St}{env:En}{β β':Int}{L:@c}{d:D}{v:V}(I:@b)(I':SR Γ B G' H' σ (L2.bj L env) β')(h:VO Γ.K B H G' H' .w d v):∃G2,SR Γ B G2 H' σ (L2.bj L env) β'/\ay G' G2/\Rp Γ.K G2 v d:=by
 obtain⟨p,rfl,h1,h2,h3⟩:=h
 obtain⟨q1,q2,q3,q4⟩:=@Qt
 exact I'.letIn q1 h2 q3 (λj d' e=>q4 j d' (uI e)) h3
def SE.wv(h:@Kp):@H9:=by
 refine PE.post' h λσ H Q ⟨env,G,B,β,I,o⟩=>⟨env,G,B,β,I,o.imp λd β' k v G' H' I' s m vo=>?_⟩
 obtain⟨G2,I2,s2,r⟩:=I.letW I' vo
 exact k v G2 H' I2 (s.trans s2) m r
theorem VO.brw{B:@i}{H G' H':Hp}{d:D}{v:V}{K:Frag}(h:@JL)(hB:∀x,B=some x->H x≠none):@R9:=by
 cases md with
 |b=>exact h
 |v=>exact .inl h
 |w=>
  obtain⟨p,rfl,h1,h2,h3⟩:=h
  exact .inr ⟨p,rfl,λz=>hB p z h1,h3⟩
def SR.boxThere{B:@i}{G H:Hp}{σ:St}{env:En}{β:Int}(I:@b):∀x,B=some x->H x≠none:=λx e=>by rw[(I.box x e).1];simp
def ai(i:Nat){x:Str}(hN:X.N[i]? =some x:=by rfl)(hv:@Ca:=by first|exact @Af|exact @Eo|exact @FQ)(hd:@T:=by decide)
  (hcd:(x==("__classdict__":Str))=false:=by decide):SE X Γ E @ED (gv i) [] .b:=by
 refine PE.post' @ET λσ H Q ⟨env,G,B,β,I,o⟩=>?_
 obtain⟨d,e,k⟩:=o.of
 have e:=join_some e
 rcases Iv e with q|q|q
 ·obtain⟨v,h1,h2⟩:=@Ne
  exact⟨v,h1,k v G H I (@A6) @GY (.inl h2)⟩
 ·obtain⟨p,h1,h2,h3,h4,h5⟩:=@Ne
  exact @I3
 ·obtain⟨_,p,h1,h4,_,h5⟩:=@Ne
  exact @I3
def aj(i:Nat)(hb:@II=false){x:Str}(hN:X.N[i]? =some x:=by rfl)(hv:@Ca:=by first|exact @Af|exact @Eo|exact @FQ)(hd:@T:=by decide)
  (hcd:(x==("__classdict__":Str))=false:=by decide):SE X Γ E @ED (gv i) [i] .v:=by
 refine PE.post' @ET λσ H Q ⟨env,G,B,β,I,o⟩=>?_
 obtain⟨d,e,k⟩:=o.of
 obtain⟨G',v,I',s,h1,h2⟩:=I.freeze i hb (join_some e)
 exact⟨v,h1,k v G' H I' s @GY h2⟩
def GS{v:V}{d:D}(h:PE X e (tC v))(r:∀G,@MJ):SE X Γ E e (cst d) [] .v:=by
 refine PE.post' h λσ H Q ⟨env,G,B,β,I,o⟩=>?_
 exact o v G H I (@A6) @GY (r G)
def av{i:Int}{j}:SE X Γ E @Xe (cst @AJ) [] .v:=GS rM λ_=>.int i
def kB{i:Bool}{j}:SE X Γ E (.Constant (.bool i) j pos) (cst (.bool i)) [] .v:=GS Aj λ_=>.bl i
def xR{j}:SE X Γ E @Vv (cst .none) [] .v:=GS Nj λ_=>.non
def kh{x:Str}{j}:SE X Γ E @Xf (cst @Hr) [] .v:=GS FL λ_=>.str x
def xV{x:Str}{i:Int}{t:Tok}(hg:Gl X x)(hm:X.mg x=some (@ON))(hd:@T:=by decide):SE X Γ E @ED (cst @AJ) [] .v:=GS (cV hg hm (show RelV @AJ _ from @BS) hd) λ_=>.int i
def two{W:V->V->Hp->Prop}{B:@i}{G H:Hp}{σ:St}{env:En}{β:Int}(I:@b)
  (h:Out Γ E (fa @p β) λd1 β1=>Out Γ E (fb @p β1) λd2 β2=>∀x y G2 H2,SR Γ B G2 H2 σ (bj (La++Lb) env) β2->ay G G2->jQ B H H2->o4 Γ.K B G2 H2 x d1->o4 Γ.K B G2 H2 y d2->W x y H2) :
  pT Γ E fa La ma σ H λx H1=>pT Γ E fb Lb mb σ H1 λy H2=>W x y H2:=by
 refine⟨env,G,B,β,I,h.imp λd1 β1 h x G1 H1 I1 s1 m1 vx=>⟨@JN,G1,B,β1,I1,?_⟩⟩
 rw[eN]
 refine h.imp λd2 β2 k y G2 H2 I2 s2 m2 vy=>?_
 refine k x y G2 H2 (by rw[cM];exact I2) (@Dp) (@Ee) ((@DG).mono s2 m2) (@QL)
def pU(K:Frag)(r:R2)(g:D->D->@Ab)(md:Md):Prop:=∀(B:@i) (G H:Hp) (x y:V) (dx dy d:D) (Q:VK),ay G H->(∀x,B=some x->H x≠none)->@Th->o4 K B G H y dy->g dx dy=some d->
 (∀v G' H',@Pp->@JL->Q v H')->@Yp
def f2(fa fb:VF D)(g:D->D->@Ab):VF D:=λvs β=>(@AU).bnd λx β1=>(@Et).bnd λy β2=>R.of (g x y) β2
theorem hJ{B:@i}{H H2:Hp}(m:jQ B H H2)(hB:∀x,B=some x->H2 x≠none){p:Addr}(h:H2 p=none):H p=none:=by
 cases e:H p with
 |none=>rfl
 |some o=>obtain⟨u,eu,_⟩:=(m.1 p o e λz=>hB p z h).some;rw[eu]at h;cases h
theorem VO.back{K:Frag}{B:@i}{H H2 G' H':Hp}{d:D}{v:V}(h:VO K B H2 G' H' md d v)(m:jQ B H H2)(hB:∀x,B=some x->H2 x≠none):@JL:=by
 cases md with
 |b=>exact h
 |v=>exact h
 |w=>obtain⟨p,e,h1,h2,h3⟩:=h;exact⟨p,e,hJ m hB h1,h2,h3⟩
def qN{r:R2}{g:D->D->@Ab}{Q:VK}(pr:@Oq){B:@i}{G H:Hp}{σ:St}{env:En}{β:Int}(I:@b)
  (h:Out Γ E (f2 fa fb g @p β) λd β'=>∀v G' H',SR Γ B G' H' σ (bj (La++Lb) env) β'->@CL->@DQ->@Hg->Q v H') :
  pT Γ E fa La ma σ H λx H1=>pT Γ E fb Lb mb σ H1 λy H2=>r x y H2 Q:=by
 refine two I (h.bnd.imp λd1 β1 h=>h.bnd.imp λd2 β2 h x y G2 H2 I2 s2 m2 bx by'=>?_)
 obtain⟨d,e,k⟩:=h.of
 refine pr B G2 H2 x y d1 d2 d Q I2.sub I2.boxThere bx by' e λv G' H' x' vo=>?_
 exact k v G' H' (I2.ext x') (@Ul) (m2.trans (x'.hh.mov B)) (vo.back m2 I2.boxThere)
def bG{op:Operator}{r:R2}{g:D->D->@Ab}(ho:nv X (binaryOp op) r)(pr:@Oq)(ha:@AB)(hb:@Cj):SE X Γ E (.BinOp a op b pos) @NS (La++Lb) md:=
 PE.post' (qg ho ha hb) λσ H Q ⟨env,G,B,β,I,o⟩=>qN pr I o
def gN{op:CmpOp}{r:R2}{g:D->D->@Ab}(ho:@Eu)(pr:@Oq)(ha:@AB)(hb:@Cj)(hm:@Es=false):SE X Γ E @Ev @NS (La++Lb) md:=
 PE.post' (yE ho ha hb hm) λσ H Q ⟨env,G,B,β,I,o⟩=>qN pr I o
def aY{r:R2}{g:D->D->@Ab}(hr:GD X r)(pr:@Oq)(ha:@AB)(hb:@Cj)(hs:CG b):SE X Γ E (.Subscript a b pos) @NS (La++Lb) md:=
 PE.post' (pk hr ha hb hs) λσ H Q ⟨env,G,B,β,I,o⟩=>qN pr I o
def Jh(K:Frag)(r:V->Hp->VK->Prop)(g:D->@Ab)(md:Md):Prop:=∀(B:@i) (G H:Hp) (x:V) (dx d:D) (Q:VK),ay G H->(∀x,B=some x->H x≠none)->@Th->g dx=some d->
 (∀v G' H',@Pp->@JL->Q v H')->r x H Q
def f1(fa:VF D)(g:D->@Ab):VF D:=λvs β=>(@AU).bnd λx β1=>R.of (g x) β1
def mK{r:V->Hp->VK->Prop}{g:D->@Ab}{Q:VK}(pr:Jh Γ.K r g md){B:@i}{G H:Hp}{σ:St}{env:En}{β:Int}(I:@b)
  (h:Out Γ E (f1 fa g @p β) λd β'=>∀v G' H',SR Γ B G' H' σ (@JN) β'->@CL->@DQ->@Hg->Q v H') :
  pT Γ E fa La ma σ H λx H1=>r x H1 Q:=by
 refine⟨env,G,B,β,I,h.bnd.imp λd1 β1 h x G1 H1 I1 s1 m1 vx=>?_⟩
 obtain⟨d,e,k⟩:=h.of
 refine pr B G1 H1 x d1 d Q I1.sub I1.boxThere (@DG) e λv G' H' x' vo=>?_
 exact k v G' H' (I1.ext x') (s1.trans x'.gg) (m1.trans (x'.hh.mov B)) @VA
def rT{op:UnaryOp}{r:V->Hp->VK->Prop}{g:D->@Ab}(ho:RL X (unaryOp op) r)(pr:Jh Γ.K r g md)(ha:@AB):SE X Γ E (.UnaryOp op a pos) (f1 fa g) La md:=
 PE.post' (Q6 ho ha) λσ H Q ⟨env,G,B,β,I,o⟩=>mK pr I o
def bc{id:String}{r:List V->Hp->VK->Prop}{g:D->@Ab}{x:Str}{p:Pos}(hc:fQ X @EE r)(pr:Jh Γ.K (λx=>r [x]) g md)(hg:Gl X x)(hm:X.mg x=none)(hv:@E0=some @EE)(ha:@AB)(hn:x≠"__name__":=by decide)(hdb:@T:=by decide)
  (he:@A_=(false,@AZ)::@An:=by rfl):@Ko:=
 PE.post' (bN hc hg hm hv @PW hn hdb he) λσ H Q ⟨env,G,B,β,I,o⟩=>mK (r:=λx=>r [x]) pr I o
def j7{id:String}{r:List V->Hp->VK->Prop}{g:D->@Ab}{x:Str}{p:Pos}(hc:fQ X (.type id) r)(pr:Jh Γ.K (λx=>r [x]) g md)(hg:Gl X x)(hm:X.mg x=none)(hv:@E0=some (.type id))(ha:@AB)(hn:x≠"__name__":=by decide)(hdb:@T:=by decide)
  (he:@A_=(false,@AZ)::@An:=by rfl):@Ko:=
 PE.post' (lG hc hg hm hv @PW hn hdb he) λσ H Q ⟨env,G,B,β,I,o⟩=>mK (r:=λx=>r [x]) pr I o
def qt{id:String}{r:List V->Hp->VK->Prop}{g:D->D->@Ab}{x:Str}{p:Pos}(hc:fQ X @EE r)(pr:pU Γ.K (λx y=>r [x,y]) g md)(hg:Gl X x)(hm:X.mg x=none)(hv:@E0=some @EE)(ha:@AB)(hb:@Cj)(hn:x≠"__name__":=by decide)(hdb:@T:=by decide)
  (he:@Jd=(false,@AZ)::@DS:=by rfl) (he2:@DS=(false,@DD)::@An:=by rfl) (hpl:(backTo pos (@DS)).any (·.1)=false:=by rfl):SE X Γ E (.Call @EX [a,b] [] pos) @NS (La++Lb) md:=
 PE.post' (bN hc hg hm hv (aw ha (aw hb aZ he2) he) hn hdb he hpl) λσ H Q ⟨env,G,B,β,I,o⟩=>qN (r:=λx y=>r [x,y]) pr I o
def fV(fa fb:VF D):VF D:=λvs β=>(@AU).bnd λx β1=>match x with
 | .bool true=>@Et
 | .bool false=>.ok (@Ai) β1
 |_=>.bad
def O2(fa fb:VF D):VF D:=λvs β=>(@AU).bnd λx β1=>match x with
 | .bool false=>@Et
 | .bool true=>.ok (@Bv) β1
 |_=>.bad
def ka{op}(h:SE X Γ E a fa La md):SE X Γ E (.BoolOp op [a] pos) fa La md:=MO h
theorem ku{rest:@Ac}(ha:@AB)(hb:SE X Γ E (.BoolOp .And (b::rest) pos) fb Lb .v)(hbr:∀i,i∈Lb->@II=false):SE X Γ E (.BoolOp .And (a::b::rest) pos) (fV fa fb) (La++Lb) .v:=by
 refine PE.post' (MS ha hb) λσ H Q ⟨env,G,B,β,I,o⟩=>?_
 refine⟨env,G,B,β,I,o.bnd.imp λd1 β1 h x G1 H1 I1 s1 m1 vx=>?_⟩
 have bx:=@DG
 cases d1 with
 |bool c=>
  obtain rfl:=bx.bool
  refine⟨c,rfl,?_⟩
  cases c with
  |true=>exact v8 ⟨_,G1,B,β1,I1,by rw[eN];exact h.imp λd β' k v G' H' I' s' m' vo=>k v G' H' (by rw[cM];exact I') @Pc @Mp vo⟩
  |false=>
   obtain⟨G2,I2,s2⟩:=@RV
   exact sk (h _ G2 H1 (by rw[cM];exact I2) (@Dp) m1 (@LR))
 |_=>exact h.elim
theorem Rg{rest:@Ac}(ha:@AB)(hb:SE X Γ E (.BoolOp .Or (b::rest) pos) fb Lb .v)(hbr:∀i,i∈Lb->@II=false):SE X Γ E (.BoolOp .Or (a::b::rest) pos) (O2 fa fb) (La++Lb) .v:=by
 refine PE.post' (Q9 ha hb) λσ H Q ⟨env,G,B,β,I,o⟩=>?_
 refine⟨env,G,B,β,I,o.bnd.imp λd1 β1 h x G1 H1 I1 s1 m1 vx=>?_⟩
 have bx:=@DG
 cases d1 with
 |bool c=>
  obtain rfl:=bx.bool
  refine⟨c,rfl,?_⟩
  cases c with
  |true=>
   obtain⟨G2,I2,s2⟩:=@RV
   exact v8 (h _ G2 H1 (by rw[cM];exact I2) (@Dp) m1 (@Pd))
  |false=>exact sk ⟨_,G1,B,β1,I1,by rw[eN];exact h.imp λd β' k v G' H' I' s' m' vo=>k v G' H' (by rw[cM];exact I') @Pc @Mp vo⟩
 |_=>exact h.elim
def F0:D->@Ab
 | .bool c=>some (.bool (!c))
 |_=>none
theorem IX(ha:@AB):SE X Γ E @I5 (f1 fa F0) La .v:=by
 refine PE.post' (Ny ha) λσ H Q ⟨env,G,B,β,I,o⟩=>?_
 refine mK (r:=λx H1 Q=>∃c,x=.bl c/\Q (.bl (!c)) H1) ?_ I o
 intro B G H x dx d Q s hB bx e k
 cases dx with
 |bool c=>
  obtain rfl:=bx.bool
  cases e
  exact⟨c,rfl,@IN ⟩
 |_=>cases e
def N4:D->Option Bool
 | .none=>@AT
 | .bool b=>some b
 | .int i=>some (i != 0)
 | .str y=>if y.length<=sizeLine then some ((y.length:Int) != 0)else none
 | .list ds=>some (!ds.isEmpty)
 | .tuple ds=>some (!ds.isEmpty)
 | .dict _=>none
def ie(fa:VF D):@CQ:=λvs β=>(@AU).bnd λx β1=>R.of (N4 x) β1
def rZ{K:Frag}{G:Hp}{xs:List V}{ds:List D}(r:@Ax):(!ds.isEmpty)= !xs.isEmpty:=by cases r<;>rfl
theorem cD(hK:X.K=Γ.K)(ha:@AB)(he:∀whole,isTrue a X.env whole=(do let v <-whole;standAt a.pos;@M2):=by intro _;rfl):CM X Γ E a (ie fa) La:=by
 refine PT.post (Hw ha he) λσ H Q ⟨env,G,B,β,I,o⟩=>?_
 refine⟨env,G,B,β,I,o.bnd.imp λd1 β1 h x G1 H1 I1 s1 m1 vx=>?_⟩
 obtain⟨c,e,k⟩:=h.of
 have bx:=@DG
 refine⟨c,?_,k G1 H1 I1 s1 m1⟩
 rw[hK]
 cases d1 with
 |none=>obtain rfl:=bx.none;cases e;rfl
 |bool b=>obtain rfl:=bx.bool;cases e;rfl
 |int i=>obtain rfl:=bx.int;cases e;rfl
 |str y=>
  obtain rfl:=bx.str
  simp only[N4]at e
  split at e
  ·cases e;exact⟨by assumption,rfl⟩
  ·cases e
 |list ds=>obtain⟨p,xs,rfl,hq,r⟩:=bx.list I1.sub;cases e;exact .inl ⟨xs,.inl hq,rZ r⟩
 |tuple ds=>obtain⟨p,xs,rfl,hq,r⟩:=bx.tuple I1.sub;cases e;exact .inr (.inl ⟨xs,hq,rZ r⟩)
 |dict ds=>cases e
def dD(fa:VF D):@CQ:=λvs β=>(@AU).bnd λx β1=>match x with
 | .bool c=>@X7
 |_=>.bad
theorem cn{op:CmpOp}{r:R2}{g:D->D->@Ab}(ho:@Eu)(pr:pU Γ.K r g .v)(ha:@AB)(hb:@Cj)(hm:@Es=false):CM X Γ E @Ev (dD @NS) (La++Lb):=by
 refine PT.post (LQ ho ha hb hm) λσ H Q ⟨env,G,B,β,I,o⟩=>?_
 refine qN pr I (o.bnd.imp λd β' h v G' H' I' s' m' vo=>?_)
 cases d with
 |bool c=>cases vo;exact⟨c,rfl,h G' H' I' s' m'⟩
 |_=>exact h.elim
def rP(t:@CQ):@CQ:=λvs β=>(@KM).bnd λc β1=>.ok (!c) β1
def IE(t u:@CQ):@CQ:=λvs β=>(@KM).bnd λc β1=>if c=true then u vs β1 else @L_
def rA(t u:@CQ):@CQ:=λvs β=>(@KM).bnd λc β1=>if c=true then @RR else u vs β1
variable {ta tb tc:@CQ}
def gO(ha:@Ic):CM X Γ E @I5 (rP ta) La:=by
 refine PT.post (Cj ha) λσ H Q ⟨env,G,B,β,I,o⟩=>?_
 exact⟨env,G,B,β,I,o.bnd.imp λc β1 h=>h⟩
def AQ.t(h:AQ X Γ E e ta La):CM X Γ E e ta La:=PW.pt h
def Du(ha:@Ic):AQ X Γ E @W7 ta La:=Dd ha
def rG(ha:@Ic):AQ X Γ E @Xd ta La:=Hz ha
theorem Ja{rest:@Ac}(ha:@Ic)(hb:AQ X Γ E (.BoolOp .And (b::rest) pos) tb Lb)(hbr:∀i,i∈Lb->@II=false):AQ X Γ E (.BoolOp .And (a::b::rest) pos) (IE ta tb) (La++Lb):=by
 refine PW.post (Gm ha hb) λσ H Q ⟨env,G,B,β,I,o⟩=>?_
 refine⟨env,G,B,β,I,o.bnd.imp λc β1 h G1 H1 I1 s1 m1=>?_⟩
 cases c with
 |true=>exact v8 ⟨_,G1,B,β1,I1,by rw[eN];exact Out.imp h λd β' k G' H' I' s' m'=>k G' H' (by rw[cM];exact I') @Pc @Mp ⟩
 |false=>
  obtain⟨G2,I2,s2⟩:=@RV
  exact sk (h G2 H1 (by rw[cM];exact I2) (@Dp) m1)
theorem wO{rest:@Ac}(ha:@Ic)(hb:AQ X Γ E (.BoolOp .Or (b::rest) pos) tb Lb)(hbr:∀i,i∈Lb->@II=false):AQ X Γ E (.BoolOp .Or (a::b::rest) pos) (rA ta tb) (La++Lb):=by
 refine PW.post (Mw ha hb) λσ H Q ⟨env,G,B,β,I,o⟩=>?_
 refine⟨env,G,B,β,I,o.bnd.imp λc β1 h G1 H1 I1 s1 m1=>?_⟩
 cases c with
 |true=>
  obtain⟨G2,I2,s2⟩:=@RV
  exact v8 (h G2 H1 (by rw[cM];exact I2) (@Dp) m1)
 |false=>exact sk ⟨_,G1,B,β1,I1,by rw[eN];exact Out.imp h λd β' k G' H' I' s' m'=>k G' H' (by rw[cM];exact I') @Pc @Mp ⟩
def NJ(t:@CQ)(fa fb:VF D):VF D:=λvs β=>(@KM).bnd λc β1=>if c=true then fa vs β1 else @Et
theorem L3(hc:CM X Γ E c tc Lc)(ha:SE X Γ E a fa La md)(hb:SE X Γ E b fb Lb md)(hbr:∀i,i∈La++Lb->@II=false):SE X Γ E (.IfExp c a b pos) (NJ tc fa fb) (Lc++(La++Lb)) md:=by
 refine PE.post' (Gp hc ha hb) λσ H Q ⟨env,G,B,β,I,o⟩=>?_
 refine⟨env,G,B,β,I,o.bnd.imp λc β1 h G1 H1 I1 s1 m1=>?_⟩
 obtain⟨G2,I2,s2⟩:=I1.bj (La++Lb) hbr
 have idem:∀M:@c,(∀i,i∈M->i∈La++Lb)->bj M (bj (La++Lb) @L7)=bj (La++Lb) @L7:=by
  have key:∀(M:@c) (en:En) (k:Nat),k∈M->∀d',(bj M en)[k]?≠@EJ:=by
   intro M
   induction M with
   |nil=>intro en k hm;cases hm
   |cons i M ih=>
    intro en k hm d' z
    rcases @P3 with y|y
    ·subst y
     have z1:(jk en k)[k]? =@EJ:=uI (L:=M) z
     have z2:=ye z1
     unfold jk at z1
     rw[z2]at z1
     dsimp only at z1
     rw[UT (Uy.mp z2).1]at z1;cases z1
    ·exact ih (jk en i) k y d' z
  intro M
  induction M with
  |nil=>intro _;rfl
  |cons i M ih=>
   intro hM
   show bj M (jk _ i)=_
   have:jk (bj (La++Lb) @L7) i=bj (La++Lb) @L7:=by
    have hn:=key (La++Lb) @L7 i (hM i (UG ..))
    generalize bj (La++Lb) @L7=en at hn ⊢
    unfold jk
    split
    ·rename_i d e;exact absurd e (hn d)
    ·rfl
   rw[this]
   exact ih λj hj=>hM j (UI _ hj)
 have go:∀{f:VF D} {M:@c},(∀i,i∈M->i∈La++Lb)->Out Γ E (f @p β1) (λd β'=>∀v G' H',SR Γ B G' H' σ (bj (Lc++(La++Lb)) env) β'->@CL->@DQ->@Hg->Q v H')->pT Γ E f M md σ H1 Q:=λ{f M} hM h=>by
  refine⟨_,G2,B,β1,I2,?_⟩
  rw[eN,eN]
  refine h.imp λd β' k v G' H' I' s' m' vo=>?_
  rw[idem M hM,<-cM]at I'
  exact k v G' H' I' ((@Dp).trans s') @Mp @VA
 cases c with
 |true=>exact v8 (go (λi hi=>VL _ hi) h)
 |false=>exact sk (go (λi hi=>U0 _ hi) h)
def ag:@w:=λ_ β=>@X6
def ae(fa:VF D)(fr:@w):@w:=λvs β=>(@AU).bnd λx β1=>(fr vs β1).bnd λxs β2=>.ok (x::xs) β2
variable {fr:@w}{es:@Ac}
def ah:SA X Γ E [] ag []:=PA.post aZ λσ H Q ⟨env,G,B,β,I,o⟩=>o [] G H I (@A6) @GY .nil
def af(ha:@Gw)(hr:SA X Γ E es fr Lb)(hs:starEach (a::es) X.env=(false,@AZ)::@AA:=by rfl):SA X Γ E (a::es) (ae fa fr) (La++Lb):=by
 refine PA.post (aw ha hr hs) λσ H Q ⟨env,G,B,β,I,o⟩=>?_
 refine⟨env,G,B,β,I,o.bnd.imp λd1 β1 h x G1 H1 I1 s1 m1 vx=>⟨@JN,G1,B,β1,I1,?_⟩⟩
 rw[eN]
 refine h.bnd.imp λds β2 k xs G2 H2 I2 s2 m2 r=>?_
 exact k (x::xs) G2 H2 (by rw[cM];exact I2) (@Dp) (@Ee) (.cons (vx.mono s2) r)
def aW(fr:@w):VF D:=λvs β=>(@Gi).bnd λds β1=>if ds.length<=sizeLine then .ok @D7 β1 else .bad
def bo(fr:@w):VF D:=λvs β=>(@Gi).bnd λds β1=>if ds.length<=sizeLine then .ok @Ej β1 else .bad
def cP{x1}(h:@Q2):SE X Γ E (.Tuple es x1 pos) (aW fr) L .v:=by
 refine PE.post' (Bc h) λσ H Q ⟨env,G,B,β,I,o⟩=>?_
 refine⟨env,G,B,β,I,o.bnd.imp λds β1 k xs G1 H1 I1 s1 m1 r=>?_⟩
 by_cases hz:ds.length<=sizeLine
 ·rw[Uz hz]at k
  refine⟨by rw[r.len];exact hz,λp hp=>?_⟩
  have x:=Ext.new I1.sub (o:=.tup xs) hp
  exact k _ _ _ (I1.ext x) (s1.trans x.gg) (m1.trans (@Vn)) @Tq
 ·rw[UJ hz]at k;exact k.elim
def bF(h:@Q2):SE X Γ E @UD (bo fr) L .w:=by
 refine PE.post' (rL h) λσ H Q ⟨env,G,B,β,I,o⟩=>?_
 refine⟨env,G,B,β,I,o.bnd.imp λds β1 k xs G1 H1 I1 s1 m1 r=>?_⟩
 by_cases hz:ds.length<=sizeLine
 ·rw[Uz hz]at k
  refine⟨by rw[r.len];exact hz,λp hp=>?_⟩
  have x:=Ext.own I1.sub (o:=.lst xs) hp
  exact k _ _ _ (I1.ext x) s1 (m1.trans (@Vn)) ⟨p,rfl,hJ m1 I1.boxThere hp,I1.sub.free hp,xs,aE,r⟩
 ·rw[UJ hz]at k;exact k.elim
inductive FR where
 |ok (d:D) (fresh:Bool)
 |exc (c:Str)
 |bad
def FV(K:Frag)(H G' H':Hp)(fr:Bool)(d:D)(v:V):Prop:=if fr=true then ∃a,v=.ref a/\H a=none/\G' a=none/\@TH else Rp K G' v d
def L5(K:Frag)(ca:Str->Addr)(n:Nat)(F:@I):Sp:=λvs H Q E=>∃G ds,ay G H/\ds.length=n/\@Rg/\match F ds with
 | .ok d fr=>∀v G' H',@Cy->@CL->@SW->(∀b,Mx H b->G b=none->G' b=none)->@O5->Q v H'
 | .exc c=>∀H',@Cy->E @Vx none H'
 | .bad=>False
structure bP(P:Program)(w:World)(K:Frag)(mg:@R)(base:Heap)(ca:Str->Addr)(x:Str)(ps:@a)(k:Nat)(F:@I):Prop where
 ex:∃f fd,mg x=@Fc/\@Cw=true/\@HG/\gM P w K mg base @Ga k f fd ps (L5 K ca ps.length F)
 len:∀ds,F ds≠.bad->ds.length=ps.length
def ak(F:@I)(fr:@w):VF D:=λvs β=>(@Gi).bnd λds β1=>match F ds with
 | .ok d _=>@DM
 | .exc c=>.exc c
 | .bad=>.bad
def xg(F:@I)(fr:@w):VF D:=λvs β=>(@Gi).bnd λds β1=>match F ds with
 | .ok d true=>@DM
 | .ok _ false=>.bad
 | .exc c=>.exc c
 | .bad=>.bad
def SR.called{B:@i}{G1 H1 G2 H2:Hp}{σ:St}{env:En}{β:Int}(I1:SR Γ B G1 H1 σ env β)(h:ay H1 H2)(g:ay G1 G2)(s:ay G2 H2)(n:∀b,Mx H1 b->G1 b=none->G2 b=none):SR Γ B G2 H2 σ env β/\jQ B H1 H2:=by
 refine⟨⟨s,I1.old.trans g,λb n1 n2=>?_,λb o e np=>(I1.keep b o e np).step h,λb hb=>?_,I1.fix,λb e=>?_,I1.len,λi t e=>?_,I1.sep⟩,h.mov B⟩
 ·exact @PG
 ·exact(I1.pin b hb).same λo e=>h b o e
 ·obtain⟨h1,h2,h3⟩:=I1.box b e
  exact⟨h b _ h1,n b (Mx.lst h1) h2,h3⟩
 ·have q:=I1.slot i t e
  cases t with
  |no=>trivial
  |fz d=>obtain⟨v,h1,h2⟩:=q;exact⟨v,h1,h2.mono g⟩
  |ow d=>
   obtain⟨p,h1,h2,h3,h4,h5⟩:=q
   exact⟨p,h1,h2,n p h5.mx h3,h4,h5.mono g λo q=>h p o q⟩
  |bx=>exact q
  |br d=>obtain⟨b1,p,h1,h4,hp,h5⟩:=q;exact⟨b1,p,h1,h4,hp,h5.mono g λo q=>h p o q⟩
def SR.kp{B:@i}{G H H':Hp}{σ:St}{env:En}{β:Int}(I:@b)(h:@Cy):Kp Γ H':=λb o e n=>(I.keep b o e n).step h
theorem wD{F:@I}{ps:@a}{Q:VK}{B:@i}{G H:Hp}{σ:St}{env:En}{β:Int}(I:@b)(hK:X.K=Γ.K){wv:Bool}
  (h:Out Γ E (if wv=true then xg F fr @p β else ak F fr @p β) λd β'=>∀v G' H',@Bi->@CL->@DQ->VO Γ.K B H G' H' (if wv=true then .w else .v) d v->Q v H') (hl:∀ds,F ds≠.bad->ds.length=ps.length) :
  aT Γ E fr L σ H λvs H1=>L5 X.K Γ.ca ps.length F vs H1 Q E:=by
 refine⟨env,G,B,β,I,?_⟩
 have h:Out Γ E @U6 λds β1=>Out Γ E (match F ds with
   | .ok d true=>@DM
   | .ok d false=>if wv=true then .bad else @DM
   | .exc c=>.exc c
   | .bad=>.bad) λd β'=>∀v G' H',@Bi->@CL->@DQ->VO Γ.K B H G' H' (if wv=true then .w else .v) d v->Q v H':=by
  cases wv with
  |true=>
   simp only[V5]at h ⊢
   refine h.bnd.imp λds β1 h=>?_
   cases q:F ds with
   |ok d b=>rw[q]at h;cases b<;>exact h
   |exc c=>rw[q]at h;exact h
   |bad=>rw[q]at h;exact h
  |false=>
   simp only[V4,WL]at h ⊢
   refine h.bnd.imp λds β1 h=>?_
   cases q:F ds with
   |ok d b=>rw[q]at h;cases b<;>exact h
   |exc c=>rw[q]at h;exact h
   |bad=>rw[q]at h;exact h
 refine h.imp λds β1 k vs G1 H1 I1 s1 m1 r=>?_
 refine⟨G1,ds,I1.sub,?_,by rw[hK];exact r,?_⟩
 ·exact hl ds λz=>by rw[z]at k;exact k
 cases q:F ds with
 |bad=>rw[q]at k;exact k
 |exc c=>rw[q]at k;exact λH' s=>k H' (I1.kp s)
 |ok d b=>
  rw[q]at k
  intro v G' H' hh hg hs hn fv
  obtain⟨I2,m2⟩:=@YF
  cases b with
  |true=>
   obtain⟨p,rfl,p1,p2,p3⟩:∃a,v=.ref a/\H1 a=none/\G' a=none/\@Q0:=fv
   rw[hK]at p3
   have hp:=@OS
   cases wv with
   |true=>exact @Lp
   |false=>
    obtain⟨q1,q2,q3,q4⟩:=I1.fresh p1
    obtain⟨G3,I3,s3,r3⟩:=@MC
    exact k _ G3 H' I3 ((@HZ).trans s3) (@Ee) r3
  |false=>
   cases wv with
   |true=>exact k.elim
   |false=>
    have fv:@WR:=fv
    rw[hK]at fv
    exact @Tc
def aC{x:Str}{ps:@a}{k:Nat}{F:@I}{p:Pos}(hf:@L2)(hr:@SY)(hx:@Gp)(hK:X.K=Γ.K)(hg:Gl X x)(ha:SA X Γ E (a::es) fr L)(hdb:@T:=by decide)
  (he:starEach (a::es) X.env=(false,@AZ)::@AA:=by rfl) (hpl:(@C3).any (·.1)=false:=by rfl):SE X Γ E (.Call @EX (a::es) [] pos) (ak F fr) L .v:=by
 obtain⟨f,fd,hm,hk,hb,hF⟩:=hf.ex
 refine PE.post' (pV (dvs:=[]) hF hr hg hm hk hb .nil hx ha hdb he hpl) λσ H Q ⟨env,G,B,β,I,o⟩=>?_
 show aT Γ E fr L σ H λvs H1=>L5 X.K Γ.ca ps.length F (vs++[]) H1 Q E
 have:=wD (Q:=Q) (wv:=false) (ps:=ps) I hK o hf.len
 simpa using this
def IC{x:Str}{ps:@a}{k:Nat}{F:@I}{p:Pos}(hf:@L2)(hr:@SY)(hx:@Gp)(hK:X.K=Γ.K)(hg:Gl X x)(ha:SA X Γ E (a::es) fr L)(hdb:@T:=by decide)
  (he:starEach (a::es) X.env=(false,@AZ)::@AA:=by rfl) (hpl:(@C3).any (·.1)=false:=by rfl):SE X Γ E (.Call @EX (a::es) [] pos) (xg F fr) L .w:=by
 obtain⟨f,fd,hm,hk,hb,hF⟩:=hf.ex
 refine PE.post' (pV (dvs:=[]) hF hr hg hm hk hb .nil hx ha hdb he hpl) λσ H Q ⟨env,G,B,β,I,o⟩=>?_
 show aT Γ E fr L σ H λvs H1=>L5 X.K Γ.ca ps.length F (vs++[]) H1 Q E
 have:=wD (Q:=Q) (wv:=true) (ps:=ps) I hK o hf.len
 simpa using this
end
inductive SO where
 |nx (env:En) (β:Int)
 |bk (env:En) (β:Int)
 |ct (env:En) (β:Int)
 |rt (d:D) (fr:Bool) (β:Int)
 |exc (c:Str)
 |bad
abbrev SF:=En->Int->SO
def RV(Γ:Fx)(G' H':Hp)(fr:Bool)(d:D)(v:V):Prop:=if fr=true then ∃a,v=.ref a/\@W4=none/\G' a=none/\Own Γ.K G' H' a d else Rp Γ.K G' v d
def vI(Γ:Fx)(E:XK)(G:Hp)(N:Ends):SO->Prop
 | .nx env β=>∀B G' H' σ,@Fa->@CL->N.nx σ H'
 | .bk env β=>∀B G' H' σ,@Fa->@CL->N.bk σ H'
 | .ct env β=>∀B G' H' σ,@Fa->@CL->N.ct σ H'
 | .rt d fr β=>∀B G' H' σ env v,@Fa->@CL->RV Γ G' H' fr d v->N.rt v H'
 | .exc c=>∀H',Kp Γ H'->E (@Fj) none H'
 | .bad=>False
def sT(Γ:Fx)(E:XK)(m:SF):TS:=λN σ H=>∃env G B β,@b/\vI Γ E G N (@Gk)
def SS(X:Cx)(Γ:Fx)(E:XK)(st:Stmt)(m:SF):Prop:=PS X st (sT Γ E m)
def Dv(X:Cx)(Γ:Fx)(E:XK)(st:@Dx)(m:SF):Prop:=rq X st (sT Γ E m)
def rq.post{X:Cx}{st:@Dx}{t u:TS}(h:rq X st t)(m:∀D σ H,u D σ H->t D σ H):rq X st u:=λpins s σ H D I q=>@Ri
def aI(m m':SF):SF:=λenv β=>match @Gk with
 | .nx env' β'=>m' env' β'
 |r=>r
def lU:SF:=λenv β=>@VE
section
variable {X:Cx}{Γ:Fx}{E:XK}{e a b c:Expr}{f fa fb:VF D}{L La Lb:@c}{md ma mb:Md}{pos:Pos}{st:Stmt}{sts:@Dx}{m m':SF}{ta:@CQ}
theorem vI.weak{G G1:Hp}{N:Ends}{r:SO}(h:vI Γ E G N r)(s:ay G G1):vI Γ E G1 N r:=by
 cases r with
 |nx env β=>exact λB G' H' σ I s'=>@KI
 |bk env β=>exact λB G' H' σ I s'=>@KI
 |ct env β=>exact λB G' H' σ I s'=>@KI
 |rt d fr β=>exact λB G' H' σ env v I s'=>h B G' H' σ env v I (s.trans s')
 |exc c=>exact h
 |bad=>exact h
def cx:Dv X Γ E [] lU:=rq.post yf λN σ H ⟨env,G,B,β,I,o⟩=>o B G H σ I (@A6)
theorem ar(h:SS X Γ E st m)(h':Dv X Γ E sts m'):Dv X Γ E (st::sts) (aI m m'):=by
 refine rq.post (eB h h') λN σ H ⟨env,G,B,β,I,o⟩=>?_
 refine⟨env,G,B,β,I,?_⟩
 unfold aI at o
 cases q:@Gk with
 |nx env' β'=>rw[q]at o;exact λB' G' H' σ' I' s'=>⟨env',G',B',β',I',o.weak s'⟩
 |bk env' β'=>rw[q]at o;exact o
 |ct env' β'=>rw[q]at o;exact o
 |rt d fr β'=>rw[q]at o;exact o
 |exc c=>rw[q]at o;exact o
 |bad=>rw[q]at o;exact o
def aA(h:SS X Γ E st m):Dv X Γ E [st] m:=gx h
def toS{α:Type}(r:R α)(k:α->Int->SO):SO:=match r with
 | .ok x β=>k x β
 | .exc c=>.exc c
 | .bad=>.bad
theorem dv{α:Type}{G:Hp}{N:Ends}{r:R α}{k:α->Int->SO}{P:α->Int->Prop}(h:vI Γ E G N (toS r k))(i:∀x β,vI Γ E G N (k x β)->P x β):Out Γ E r P:=by
 cases r with
 |ok x β=>exact i x β h
 |exc c=>exact h
 |bad=>exact h
def SR.set'{B:@i}{G H:Hp}{σ:St}{env:En}{β:Int}(I:@b)(i:Nat){v:V}{d:D}(h:@MJ):@T5:=by
 by_cases hi:i<env.length
 ·exact I.set hi h
 ·have h1:@Gh=env:=Wb (@B)
  have h2:@EW=σ:=Wb (by rw[I.len];omega)
  rw[h1,h2];exact I
def SR.setOw'{B:@i}{G H:Hp}{σ:St}{env:En}{β:Int}(I:@b)(i:Nat){a:Addr}{d:D}(h0:@W4=none)(hg:G a=none)(hb:B≠some a)(h:@MX)(hn:∀(j:Nat) (d':D),env[j]? =@EJ->σ[j]?≠@Ef):@JR:=by
 by_cases hi:i<env.length
 ·exact I.setOw hi h0 hg hb h λj d' e _=>hn j d' e
 ·have h1:env.set i (.ow d)=env:=Wb (@B)
  have h2:σ.set i (@W0)=σ:=Wb (by rw[I.len];omega)
  rw[h1,h2];exact I
def ba(i:Nat)(L:@c)(f:VF D):SF:=λenv β=>toS (@C0) λd β'=>.nx ((@HK).set i (.fz d)) β'
def aU{i:Nat}{x:Str}{pos':Pos}(he:@H9)(hN:X.N.Nodup)(hi:X.N[i]? =some x:=by rfl)(hx:@Cg:=by first|exact @Af|exact @CG)(hs:@Ct=@D6:=by rfl)(hf:X.fn x=true\/@AO=@Ae:=by first|exact @BQ|exact @Fe|assumption) :
  SS X Γ E @FM (ba i L f):=by
 refine PS.post @Mq λN σ H ⟨env,G,B,β,I,o⟩=>?_
 refine⟨env,G,B,β,I,dv o λd β' k v G' H' I' s' m' vo=>?_⟩
 exact k B G' H' _ (I'.set' i vo) s'
def jw(i:Nat)(L:@c)(f:VF D):SF:=λenv β=>toS (@C0) λd β'=>.nx ((@HK).set i (.ow d)) β'
def gE{i:Nat}{x:Str}{pos':Pos}(he:@Kp)(hN:X.N.Nodup)(hi:X.N[i]? =some x:=by rfl)(hx:@Cg:=by first|exact @Af|exact @CG)(hs:@Ct=@D6:=by rfl)(hf:X.fn x=true\/@AO=@Ae:=by first|exact @BQ|exact @Fe|assumption) :
  SS X Γ E @FM (jw i L f):=by
 refine PS.post @Mq λN σ H ⟨env,G,B,β,I,o⟩=>?_
 refine⟨env,G,B,β,I,dv o λd β' k v G' H' I' s' m' vo=>?_⟩
 obtain⟨p,rfl,h1,h2,h3⟩:=vo
 obtain⟨q1,q2,q3,q4⟩:=@Qt
 exact k B G' H' _ (I'.setOw' i q1 h2 q3 h3 λj d' z=>q4 j d' (uI z)) s'
def du(L:@c)(f:VF D):SF:=λenv β=>toS (@C0) λ_ β'=>.nx @AD β'
def fu(he:@P1)(hs:@RG=@D6:=by rfl):SS X Γ E (.Expr e pos) (du L f):=by
 refine PS.post (sS he hs) λN σ H ⟨env,G,B,β,I,o⟩=>?_
 exact⟨env,G,B,β,I,dv o λd β' k v G' H' I' s' m' vo=>k B G' H' _ I' s'⟩
def bM(f:VF D):SF:=λenv β=>toS (@C0) λd β'=>@S6
def aV(he:@H9):SS X Γ E @Mi (bM f):=by
 refine PS.post (lC he) λN σ H ⟨env,G,B,β,I,o⟩=>?_
 exact⟨env,G,B,β,I,dv o λd β' k v G' H' I' s' m' vo=>k B G' H' σ _ v I' s' vo⟩
def kT(f:VF D):SF:=λenv β=>toS (@C0) λd β'=>.rt d true β'
def kF(he:@Kp):SS X Γ E @Mi (kT f):=by
 refine PS.post (lC he) λN σ H ⟨env,G,B,β,I,o⟩=>?_
 refine⟨env,G,B,β,I,dv o λd β' k v G' H' I' s' m' vo=>?_⟩
 obtain⟨p,rfl,h1,h2,h3⟩:=vo
 obtain⟨q1,_⟩:=@Qt
 exact k B G' H' σ _ _ I' s' ⟨p,rfl,q1,h2,h3⟩
def nK(i:Nat):SF:=λenv β=>match env[i]? with
 |some (.fz d)=>@Og
 |some (.ow d)=>.rt d true β
 |_=>.bad
theorem kN(i:Nat){x:Str}{p:Pos}(hN:X.N[i]? =some x:=by rfl)(hv:@Ca:=by first|exact @Af|exact @Eo|exact @FQ)(hd:@T:=by decide)
  (hcd:(x==("__classdict__":Str))=false:=by decide):SS X Γ E (.Return (some @EX) pos) (nK i):=by
 refine PS.post (lC @ET) λN σ H ⟨env,G,B,β,I,o⟩=>?_
 unfold nK at o
 cases q:env[i]? with
 |none=>rw[q]at o;exact o.elim
 |some s=>
  rw[q]at o
  cases s with
  |no=>exact o.elim
  |bx=>exact o.elim
  |br d=>exact o.elim
  |fz d=>
   obtain⟨v,h1,h2⟩:=@Ne
   exact⟨v,h1,o B G H σ env v I (@A6) h2⟩
  |ow d=>
   obtain⟨p,h1,h2,h3,h4,h5⟩:=@Ne
   exact⟨_,h1,o B G H σ env _ I (@A6) ⟨p,rfl,h2,h3,h5⟩⟩
def ji(L:@c)(t:@CQ)(m m':SF):SF:=λenv β=>toS (@MQ) λc β'=>if c=true then @Te else m' @AD β'
theorem c8{x y:@Dx}(hc:@Rx)(ha:@WJ)(hb:Dv X Γ E y m'):SS X Γ E (.If c x y pos) (ji L ta m m'):=by
 refine PS.post (Gh hc ha hb) λN σ H ⟨env,G,B,β,I,o⟩=>?_
 refine⟨env,G,B,β,I,dv o λd β' k G' H' I' s' m'=>?_⟩
 cases d with
 |true=>exact v8 @QY
 |false=>exact sk @QY
def iC(L:@c)(t:@CQ)(m:SF):Nat->SF
 | 0=>λ_ _=>.bad
 |n+1=>λenv β=>toS (@MQ) λc β'=>if c=true then(match @Te with
   | .nx env2 β2=>iC L t m n env2 β2
   | .ct env2 β2=>iC L t m n env2 β2
   | .bk env2 β2=>@Dw
   |r=>r)else .nx @AD β'
theorem lQ{x:@Dx}(n:Nat)(hp:@GM)(hc:@Rx)(hb:@WJ):SS X Γ E (.While c x [] pos) (iC L ta m n):=by
 refine PS.post (Hv hp hc hb) λN σ H ⟨env,G,B,β,I,o⟩=>?_
 refine⟨λk σ H=>∃env G1 B β,@Mu/\ay G G1/\@QK,⟨n,env,G,B,β,I,@A6,o⟩,?_⟩
 rintro k σ H ⟨env,G1,B,β,I,sG,o⟩
 cases k with
 |zero=>exact o.elim
 |succ k=>
  refine⟨env,G1,B,β,I,dv o λd β' q G' H' I' s' m'=>?_⟩
  cases d with
  |false=>exact sk (q B G' H' σ I' s')
  |true=>
   refine v8 ⟨λσ H=>∃env G1 B β,@Mu/\ay G G1/\@QK,λσ' H' h=>⟨k,Nat.lt_succ_self k,h⟩,@HK,G',B,β',I',?_⟩
   rw[Uz rfl]at q
   cases r:@Te with
   |nx env2 β2=>rw[r]at q;exact λB2 G2 H2 σ2 I2 s2=>⟨env2,G2,B2,β2,I2,(sG.trans s').trans s2,vI.weak q @Qh ⟩
   |ct env2 β2=>rw[r]at q;exact λB2 G2 H2 σ2 I2 s2=>⟨env2,G2,B2,β2,I2,(sG.trans s').trans s2,vI.weak q @Qh ⟩
   |bk env2 β2=>rw[r]at q;exact λB2 G2 H2 σ2 I2 s2=>q B2 G2 H2 σ2 I2 @Qh
   |rt d fr β2=>rw[r]at q;exact vI.weak q s'
   |exc c=>rw[r]at q;exact q
   |bad=>rw[r]at q;exact q
def Walk(K:Frag)(B:@i)(G H1:Hp)(ds:List D)(J:It):Prop:=∀Gc H (i:Nat),ay G Gc->ay Gc H->@Yk->
 (i<ds.length->@WM/\∀x H',@K6->∃G' d,Ext Gc H G' H'/\ds[i]? =some d/\Rp K G' x d)/\(ds.length<=i->@Qv)
def Walk.any{K:Frag}{B:@i}{G H1:Hp}{ds:List D}{J:It}(h:Walk K B G (λ_=>none) ds J):Walk K B G H1 ds J:=λGc H i s1 s2 _=>h Gc H i s1 s2 ⟨(λb o e=>by cases e),λb o u e=>by cases e⟩
def iT(Γ:Fx)(E:XK)(f:@w)(L:@c)(md:Md):TI:=λσ H Rr=>∃env G B β,@b/\
 Out Γ E (@C0) λds β'=>∀J G' H',@Bi->@CL->@DQ->Walk Γ.K B G' (match md with|.b=>H'|_=>λ_=>none) ds J->Rr J H'
def SI(X:Cx)(Γ:Fx)(E:XK)(tg e:Expr)(f:@w)(L:@c)(md:Md):Prop:=PI X tg e (iT Γ E f L md)
def PI.post{X:Cx}{tg e:Expr}{t u:TI}(h:PI X tg e t)(m:∀σ H Q,@W2->@IH):PI X tg e u:=λpins s σ H Q I q=>@JO
variable {tg:Expr}
def ny:D->@Ni
 | .list ds=>some ds
 | .tuple ds=>some ds
 |_=>none
def bB(fa:VF D):@w:=λvs β=>(@AU).bnd λx β1=>R.of (ny x) β1
end
def Uq(K:Frag)(tl:TE):TI:=λσ H R=>tl σ H λx H1=>∃a xs,x=.ref a/\((@Nw/\R @SF H1)\/(@Rj/\R (MA K a) H1))
section
variable {X:Cx}{tg l:Expr}{tl:TE}
def Mz(hl:PE X l tl):PI X tg l (Uq X.K tl):=by
 intro pins s σ H R I h
 refine cK @Mm λv s1 ⟨x,H1,I1,r1,q1⟩=>?_
 obtain⟨a,xs,e,q⟩:=q1
 subst e
 cases r1
 rcases q with⟨hq,q⟩|⟨hq,q⟩
 ·obtain⟨its,rv,p,hz⟩:=I1.list hq
  refine Ww p.isList ?_
  refine⟨s1.heap.objs.size,@HY,_,_,H1,rfl,I1.kept (t':=s1.toks) λb o e=>Ux _ e,rB a _,@CS,λb hb=>?_,q⟩
  have e:b=s1.heap.objs.size:=by simpa using hb
  subst e
  exact @BW
 ·obtain⟨its,rv,p,hz⟩:=I1.tuple hq
  refine WH (show @JZ from p) ?_
  refine⟨s1.heap.objs.size,@HY,_,_,H1,rfl,I1.kept (t':=s1.toks) λb o e=>Ux _ e,tK a _,@CS,λb hb=>?_,q⟩
  have e:b=s1.heap.objs.size:=by simpa using hb
  subst e
  exact @BW
end
section
variable {X:Cx}{Γ:Fx}{E:XK}{e a b c:Expr}{f fa fb:VF D}{L La Lb:@c}{md ma mb:Md}{pos:Pos}{st:Stmt}{sts:@Dx}{m m':SF}{ta:@CQ}{tg:Expr}
def rK{K:Frag}{B:@i}{G H1:Hp}{p:Addr}{xs:List V}{ds:List D}(h:∀Gc H,ay G Gc->ay Gc H->@Yk->@KK)(r:@Ax):Walk K B G H1 ds (DL K p):=λGc H i s1 s2 m=>by
 have hq:=h Gc H s1 s2 m
 refine⟨λhi=>⟨?_,λx H' y=>?_⟩,λhi=>⟨xs,hq,by rw[r.len];exact hi⟩⟩
 ·have hi':i<xs.length:=by rw[r.len];exact hi
  exact⟨xs,xs[i],hq,by simp[hi']⟩
 ·obtain⟨rfl,y⟩:=y
  obtain⟨d,e,q⟩:=r.at' (y xs hq)
  exact @QX
def AF{K:Frag}{B:@i}{G H1:Hp}{p:Addr}{xs:List V}{ds:List D}(h:∀Gc H,ay G Gc->ay Gc H->@Yk->@PF)(r:@Ax):Walk K B G H1 ds (MA K p):=λGc H i s1 s2 m=>by
 have hq:=h Gc H s1 s2 m
 refine⟨λhi=>⟨?_,λx H' y=>?_⟩,λhi=>⟨xs,hq,by rw[r.len];exact hi⟩⟩
 ·have hi':i<xs.length:=by rw[r.len];exact hi
  exact⟨xs,xs[i],hq,by simp[hi']⟩
 ·obtain⟨rfl,y⟩:=y
  obtain⟨d,e,q⟩:=r.at' (y xs hq)
  exact @QX
theorem Ow(hK:X.K=Γ.K)(ha:@Gw):SI X Γ E tg a (bB fa) La .v:=by
 refine PI.post (Mz ha) λσ H Q ⟨env,G,B,β,I,o⟩=>?_
 refine⟨env,G,B,β,I,o.bnd.imp λd1 β1 h x G1 H1 I1 s1 m1 vx=>?_⟩
 obtain⟨ds,e,k⟩:=h.of
 rw[hK]
 have vx:@TN:=vx
 cases d1 with
 |list l=>
  cases e
  cases vx with
  | @lst p xs _ hq r=>exact⟨p,xs,rfl,.inl ⟨@FF,k _ G1 H1 I1 s1 m1 (rK (λGc H t1 t2 _=>@D2) r)⟩⟩
 |tuple l=>
  cases e
  cases vx with
  | @tup p xs _ hq r=>exact⟨p,xs,rfl,.inr ⟨@PE,k _ G1 H1 I1 s1 m1 (AF (λGc H t1 t2 _=>hq.grow (t1.trans t2).grow) r)⟩⟩
 |_=>cases e
theorem jF(hK:X.K=Γ.K)(ha:@AB):SI X Γ E tg a (bB fa) La .b:=by
 refine PI.post (Mz ha) λσ H Q ⟨env,G,B,β,I,o⟩=>?_
 refine⟨env,G,B,β,I,o.bnd.imp λd1 β1 h x G1 H1 I1 s1 m1 vx=>?_⟩
 obtain⟨ds,e,k⟩:=h.of
 rw[hK]
 have vx:=@DG
 cases d1 with
 |list l=>
  cases e
  rcases vx with vx|⟨p,rfl,hb,xs,q,r⟩
  ·cases vx with
   | @lst p xs _ hq r=>exact⟨p,xs,rfl,.inl ⟨@FF,k _ G1 H1 I1 s1 m1 (rK (λGc H t1 t2 _=>@D2) r)⟩⟩
  ·exact⟨p,xs,rfl,.inl ⟨.inl (.inl q),k _ G1 H1 I1 s1 m1 (rK (λGc H t1 t2 mv=>.inl (.inl (mv.1 p _ q hb))) r)⟩⟩
 |tuple l=>
  cases e
  rcases vx with vx|⟨p,rfl,hb,q⟩
  ·cases vx with
   | @tup p xs _ hq r=>exact⟨p,xs,rfl,.inr ⟨@PE,k _ G1 H1 I1 s1 m1 (AF (λGc H t1 t2 _=>hq.grow (t1.trans t2).grow) r)⟩⟩
  ·exact q.elim
 |_=>cases e
def dB(lo:Int)(n:Nat):List D:=(@Ap).map λ(k:Nat)=>int (lo+k)
def iR(lo:Int)(n:Nat):(dB lo n).length=n:=by unfold dB;simp
def zx{K:Frag}{B:@i}{G H1:Hp}(lo:Int)(n:Nat):Walk K B G H1 (dB lo n) (@MA):=λGc H i s1 s2 m=>by
 rw[iR]
 refine⟨λhi=>⟨hi,λx H' y=>?_⟩,λhi=>hi⟩
 obtain⟨rfl,rfl⟩:=y
 refine⟨Gc,.int (lo+i),Ext.refl s2,?_,.int _⟩
 unfold dB
 rw[UN,VX hi];rfl
def y9(j:Int):Bool:=Nat.ble j.natAbs 1000000
def lB{j:Int}(h:y9 j=true): -(2^62)<=j/\j<2^62:=by
 have:=Nat.le_of_ble_eq_true h
 omega
def oU{j:Int}(h: -1000<=j)(h2:j<=10000):y9 j=true:=Nat.ble_eq_true_of_le (@B)
def dM(fa:VF D):@w:=λvs β=>(@AU).bnd λx β1=>match x with
 | .int j=>if y9 j=true then .ok (dB 0 j.toNat) β1 else .bad
 |_=>.bad
def zd(fa fb:VF D):@w:=λvs β=>(@AU).bnd λx β1=>(@Et).bnd λy β2=>match x,y with
 | .int i,.int j=>if(y9 i&&y9 j)=true then .ok (dB i (j-i).toNat) β2 else .bad
 |_,_=>.bad
theorem nh{p:Pos}(hg:@He)(hm:@FR=none)(ha:@AB)(hs:@A_= [(false,@AZ)]:=by rfl)(hs':@A_=(false,@AZ)::@An:=by rfl):SI X Γ E tg @Mh (dM fa) La md:=by
 refine PI.post (o6 hg hm @UG hs) λσ H Q ⟨env,G,B,β,I,o⟩=>?_
 refine⟨env,G,B,β,I,o.bnd.imp λd1 β1 h x G1 H1 I1 s1 m1 vx=>?_⟩
 have vx:=@DG
 cases d1 with
 |int j=>
  obtain rfl:=vx.int
  dsimp only at h
  by_cases hj:y9 j=true
  ·rw[Uz hj]at h
   exact⟨j,rfl,(lB hj).1,(lB hj).2,h _ G1 H1 I1 s1 m1 (zx 0 _)⟩
  ·rw[UJ hj]at h;exact h.elim
 |_=>exact h.elim
def O7{p:Pos}(hg:@He)(hm:@FR=none)(ha:@AB)(hb:@Cj)(hs:@Jd= [(false,@AZ),(false,@DD)]:=by rfl)(hs2:@DS= [(false,@DD)]:=by rfl)(hs':@Jd=(false,@AZ)::@DS:=by rfl)(hs3:@DS=(false,@DD)::@An:=by rfl):SI X Γ E tg @Ur (zd fa fb) (La++Lb) md:=by
 refine PI.post (E7 hg hm (aw ha (aw hb aZ hs3) hs') hs hs2) λσ H Q ⟨env,G,B,β,I,o⟩=>?_
 refine two (W:=λx y H2=>∃i j:Int,[x,y]= @GN/\(-(2^62)<=i/\i<2^62/\ -(2^62)<=j/\j<2^62)/\Q (AV i (j-i).toNat) H2) I (o.bnd.imp λd1 β1 h=>h.bnd.imp λd2 β2 h x y G2 H2 I2 s2 m2 bx by'=>?_)
 obtain⟨i,j,rfl,rfl⟩:∃i j,d1=.int i/\d2=.int j:=by
  cases d1<;>cases d2<;>first|exact h.elim|exact⟨_,_,rfl,rfl⟩
 obtain rfl:=bx.int
 obtain rfl:=by'.int
 dsimp only at h
 by_cases hj:(y9 i&&y9 j)=true
 ·rw[Uz hj]at h
  rw[US]at hj
  exact⟨i,j,rfl,⟨(lB hj.1).1,(lB hj.1).2,(lB hj.2).1,(lB hj.2).2⟩,h _ G2 H2 I2 s2 m2 (zx i _)⟩
 ·rw[UJ hj]at h;exact h.elim
inductive Tg where
 |nm (i:Nat)
 |two (i j:Nat)
def pairD:D->Option (D×D)
 | .tuple [x,y]=>some (x,y)
 |_=>none
def He{d x y:D}(h:@LE=some (x,y)):d=.tuple [x,y]:=by
 unfold pairD at h
 split at h
 ·cases h;rfl
 ·cases h
def gW:Tg->D->En->Option En
 | .nm i,d,env=>some (@Gh)
 | .two i j,d,env=>(@LE).map λp=>(env.set i (.fz p.1)).set j (.fz p.2)
def qO:Tg->D->@BD->Option (@BD)
 | .nm i,d,vs=>some (vs.set i (.da d))
 | .two i j,d,vs=>(@LE).map λp=>(vs.set i (.da p.1)).set j (.da p.2)
def Cc(env:En)(i:Nat)(s:Sl):vl (env.set i s)=(vl env).set i s.val:=by unfold vl;rw[List.map_set]
theorem LJ(t:Tg)(d:D)(env:En):(@Hi).map vl=qO t d @p:=by
 cases t with
 |nm i=>show some (vl _)=some _;rw[Cc];rfl
 |two i j=>
  show((@LE).map _).map vl=(@LE).map _
  cases @LE with
  |none=>rfl
  |some p=>show some (vl _)=some _;rw[Cc,Cc];rfl
def gT(Γ:Fx)(t:Tg):TG:=λv σ H Q=>∃env G B β d env',@b/\@MJ/\@Hi=some env'/\∀σ',SR Γ B G H σ' env' β->Q σ' H
def SG(X:Cx)(Γ:Fx)(tg:Expr)(t:Tg):Prop:=PG X tg (gT Γ t)
def PG.post{X:Cx}{tg:Expr}{t u:TG}(h:PG X tg t)(m:∀v σ H Q,u v σ H Q->t v σ H Q):PG X tg u:=λpins s σ H v uu Q I r q=>h pins s σ H v uu Q I r (m v σ H Q q)
def cX{i:Nat}{x:Str}(hN:X.N.Nodup)(hi:X.N[i]? =some x:=by rfl)(hx:@Cg:=by first|exact @Af|exact @CG)(hf:X.fn x=true\/@AO=@Ae:=by first|exact @BQ|exact @Fe|assumption):SG X Γ @ED (.nm i):=by
 refine PG.post (dw hN hi hx hf) λv σ H Q ⟨env,G,B,β,d,env',I,r,e,k⟩=>?_
 cases e
 exact k _ (I.set' i r)
theorem gL{i j:Nat}{x y:Str}{px py:Pos}{n:Nat}(hN:X.N.Nodup)(hc:X.calm=true:=by rfl)(hK:X.K=Γ.K:=by rfl)(hi:X.N[i]? =some x:=by rfl)(hj:X.N[j]? =some y:=by rfl)(hx:@Cg:=by first|exact @Af|exact @CG)(hy:Loc X.env.scope y:=by first|exact @Af|exact @CG)
  (hf:X.fn x=true\/@AO=@Ae:=by first|exact @BQ|exact @Fe|assumption) (hf':X.fn y=true\/@Ei=@Ae:=by first|exact @BQ|exact @Fe|assumption):SG X Γ (.Tuple [.Name x px,@Gb] n pos) (.two i j):=by
 refine PG.post (uW (n:=2) hc (fP (dw hN hi hx hf) (fP (dw hN hj hy hf') qh))) λv σ H Q ⟨env,G,B,β,d,env',I,r,e,k⟩=>?_
 rw[hK]
 have e:(@LE).map (λp=>(env.set i (.fz p.1)).set j (.fz p.2))=some env':=e
 cases q:@LE with
 |none=>rw[q]at e;cases e
 |some p=>
  obtain⟨dx,dy⟩:=p
  rw[q]at e
  cases e
  obtain rfl:=He q
  cases r with
  | @tup p xs _ hq r=>
   cases r with
   |cons r1 r=>
    cases r with
    |cons r2 r=>
     cases r
     exact⟨p,_,rfl,hq.grow I.sub.grow,rfl,_,_,rfl,_,_,rfl,rfl,k _ ((I.set' i r1).set' j r2)⟩
def ib(t:Tg)(m:SF):List D->SF
 | []=>λenv β=>@VE
 |d::ds=>λenv β=>match @Hi with
  |none=>.bad
  |some env1=>match @QB with
   | .nx env2 β2=>ib t m ds env2 β2
   | .ct env2 β2=>ib t m ds env2 β2
   | .bk env2 β2=>@Dw
   |r=>r
def dZ(t:Tg)(L:@c)(fi:@w)(m:SF):SF:=λenv β=>toS (@Wg) λds β'=>ib t m ds @AD β'
def gG{t:Tg}{fi:@w}{x:@Dx}(hp:@GM)(hc:X.calm=true)(hi:@XP)(hg:SG X Γ tg t)(hb:@WJ)(hs:∀x,foldedSetIterable e X.env x=pure x:=by intro _;rfl):SS X Γ E (.For tg e x [] pos) (dZ t L fi m):=by
 refine PS.post (y0 hp hc hi hg hb hs) λN σ H ⟨env,G,B,β,I,o⟩=>?_
 refine⟨env,G,B,β,I,dv o λds β' q J G' H' I' s' m' w=>?_⟩
 have w:Walk Γ.K B G' (λ_=>none) ds J:=w
 refine⟨λi n σ H=>n=ds.length-i/\i<=ds.length/\∃env G1 B β,@Mu/\ay G' G1/\vI Γ E G1 N (@LC),⟨ds.length,by simp,Vl _,@HK,G',B,β',I',@A6,by rw[List.drop_zero];exact vI.weak q s'⟩,?_⟩
 rintro i n σ H ⟨rfl,hi,env,G1,B1,β1,I1,s1,q⟩
 obtain⟨w1,w2⟩:=w G1 H i s1 I1.sub ⟨(λb o e=>by cases e),λb o u e=>by cases e⟩
 by_cases hlt:i<ds.length
 ·obtain⟨go,yl⟩:=w1 hlt
  refine .inr ⟨go,λσ H=>∃env G2 B β,SR Γ B G2 H σ env β/\ay G' G2/\vI Γ E G2 N (ib t m (ds.drop (i+1)) env β),λσ2 H2 h=>⟨ds.length-(i+1),@B,rfl,hlt,h⟩,λx H2 y=>?_⟩
  obtain⟨G2,d,x2,ed,rd⟩:=yl x H2 y
  have I2:=I1.ext x2
  have q:=vI.weak q x2.gg
  rw[VZ hlt]at q
  have ed':ds[i]=d:=by rw[UB hlt]at ed;exact Option.some.inj ed
  rw[ed']at q
  unfold ib at q
  cases eb:@Hi with
  |none=>rw[eb]at q;exact q.elim
  |some env1=>
   rw[eb]at q
   refine⟨env,G2,B1,β1,d,env1,I2,rd,eb,λσ3 I3=>⟨env1,G2,B1,β1,I3,?_⟩⟩
   have s2:=s1.trans x2.gg
   dsimp only at q
   cases r:m env1 β1 with
   |nx env2 β2=>rw[r]at q;exact λB2 G3 H3 σ2 I2 s3=>@Ky
   |ct env2 β2=>rw[r]at q;exact λB2 G3 H3 σ2 I2 s3=>@Ky
   |bk env2 β2=>rw[r]at q;exact λB2 G3 H3 σ2 I2 s3=>q B2 G3 H3 σ2 I2 s3
   |rt d fr β2=>rw[r]at q;exact q
   |exc c=>rw[r]at q;exact q
   |bad=>rw[r]at q;exact q
 ·have e:i=ds.length:=@B
  subst e
  rw[WY]at q
  exact .inl ⟨w2 (UC _),q B1 G1 H σ I1 (@A6)⟩
end
abbrev Fx.gB(Γ:Fx)(H0 G0:Hp)(par:@Ao)(br:Nat->Bool)(bx:@i):Fx:=⟨Γ.K,H0,G0,par,Γ.ca,br,bx⟩
def jm(own:Nat)(ixs:@c)(vs:@BD):@BD:=@XL++ixs.map λi=>(vs[i]?).getD .no
def Pq:@YL->Sl
 |some (.ow d)=>.br d
 |some s=>s
 |none=>.no
def benv(own:Nat)(ixs:@c)(env:En):En:=@XL++ixs.map λi=>Pq env[i]?
theorem Jo(o:@YL):(Pq o).val=(o.map Sl.val).getD .no:=by
 cases o with
 |none=>rfl
 |some s=>cases s<;>rfl
def KG(own:Nat)(ixs:@c)(env:En):vl @Ke=@Gj:=by
 unfold vl benv jm
 rw[U7,List.map_replicate,VP]
 congr 1
 refine Vu λi _=>?_
 show(Pq env[i]?).val=_
 rw[Jo,UN]
def Be(env:En):Prop:=∀(i:Nat) (d:D),env[i]?≠@GW
theorem zX{env:En}(h:Be env)(L:@c):@HK=env:=by
 unfold bj
 induction L with
 |nil=>rfl
 |cons i L ih=>
  rw[foldl_cons]
  have:jk env i=env:=by
   unfold jk
   split
   ·rename_i d e;exact absurd e (h i d)
   ·rfl
  rw[this];exact ih
def xy(own:Nat)(ixs:@c)(env:En):Be @Ke:=λi d e=>by
 unfold benv at e
 have hm:=U1 e
 rcases UW.mp hm with h|h
 ·have:=VD h;cases this
 ·obtain⟨k,_,hk⟩:=U4.mp h
  cases q:env[k]? with
  |none=>rw[q]at hk;cases hk
  |some s=>rw[q]at hk;cases s<;>cases hk
def tQ{env:En}(h:Be env)(i:Nat)(d:D):Be (@Gh):=λj d' e=>by
 by_cases z:i=j
 ·subst z
  by_cases hi:i<env.length
  ·rw[UT hi]at e;cases e
  ·rw[Wb (@B)]at e;exact h _ _ e
 ·rw[UX z]at e;exact h _ _ e
theorem DQ{env env1:En}{t:Tg}{d:D}(h:Be env)(e:@Hi=@JP):Be env1:=by
 cases t with
 |nm i=>cases e;exact tQ h i d
 |two i j=>
  have e:(@LE).map _=@JP:=e
  cases q:@LE with
  |none=>rw[q]at e;cases e
  |some p=>rw[q]at e;cases e;exact tQ (tQ h _ _) _ _
theorem E6{env env1:En}{t:Tg}{d:D}(e:@Hi=@JP)(d':D):gW t d' env1=gW t d' env:=by
 cases t with
 |nm i=>cases e;show some _=some _;rw[set_set]
 |two i j=>
  have e:(@LE).map _=@JP:=e
  cases q:@LE with
  |none=>rw[q]at e;cases e
  |some p=>
   rw[q]at e;cases e
   show(pairD d').map _=(pairD d').map _
   cases pairD d' with
   |none=>rfl
   |some p'=>
    show some _=some _
    congr 1
    dsimp only
    by_cases z:i=j
    ·subst z;simp[set_set]
    ·rw[List.set_comm _ _ @IV,set_set,set_set]
def Ext.mov{G H G' H':Hp}(x:@Pp)(B:@i):@DQ:=@Vn
section
variable {Γ:Fx}{B:@i}{G H G1 H1 Gc Hc:Hp}{σ σ':St}{env envb:En}{β β':Int}{own:Nat}{ixs:@c}{Da:Addr}{acc:List V}
def BN(envb:En):Nat->Bool:=λj=>match envb[j]? with
 |some (.br _)=>true
 |_=>false
def SR.block(I:@b)(own:Nat)(ixs:@c)(hD:H Da=none):SR (Γ.gB @Oe G (Da::B.toList) (BN @Ke) B) B G @Oe @BR @Ke β:=by
 obtain⟨q1,q2,q3,q4⟩:=I.fresh hD
 have nB:∀b,B=some b->b≠Da:=λb e z=>q3 (by rw[<-z];exact e)
 refine⟨I.sub.trans (ay.new hD),@A6,λb _ h=>h,λb o h _=>@WN,λb hb=>?_,λb e=>e,λb e=>?_,?_,λi s e=>?_,λi j c d d' e=>absurd e (xy own ixs env i d)⟩
 ·rcases UD.mp hb with z|z
  ·subst z;exact Mx.lst aE
  ·have z':B=some b:=by simpa using z
   exact Mx.lst (by rw[aJ (nB b z')];exact(I.box b z').1)
 ·obtain⟨h1,h2,_⟩:=@TC
  exact⟨by rw[aJ (nB b e)];exact h1,h2,.inl (UI _ (by simpa using e))⟩
 ·unfold cj benv;simp
 ·by_cases hi:i<own
  ·unfold benv at e
   rw[U6 (by simpa using hi),VJ,Uz hi]at e
   cases e;trivial
  ·have e0:=e
   unfold benv at e
   rw[U9 (by simpa using hi),Vs,UN]at e
   cases ek:ixs[i-own]? with
   |none=>rw[ek]at e;cases e
   |some k=>
    rw[ek]at e
    have e:Pq env[k]? =s:=@Ig
    have es:(@BR)[i]? =some ((σ[k]?).join):=by
     unfold cj
     rw[U9 (by simpa using hi),Vs,UN,ek];rfl
    rw[es]
    cases q:env[k]? with
    |none=>rw[q]at e;subst e;trivial
    |some t=>
     rw[q]at e
     have w:=I.slot k t q
     cases t with
     |no=>subst e;trivial
     |fz d=>subst e;obtain⟨v,h1,h2⟩:=w;exact⟨v,by rw[h1];rfl,h2⟩
     |bx=>subst e;obtain⟨a,h1,h2⟩:=w;exact⟨a,by rw[h1];rfl,h2⟩
     |ow d=>
      subst e
      obtain⟨a,h1,h2,h3,h4,h5⟩:=w
      obtain⟨o,ho⟩:=h5.obj
      have aD:a≠Da:=aO ho hD
      refine⟨by show BN _ i=true;unfold BN;rw[e0];rfl,a,by rw[h1];rfl,h4,?_,h5.mono (@A6) λo q=>Kt.of (by rw[aJ aD];exact q)⟩
      intro hm
      rcases @P3 with z|z
      ·exact aD z
      ·exact h4 (by simpa using z)
     |br d=>
      subst e
      obtain⟨b1,a,h1,h4,hp,h5⟩:=w
      obtain⟨o,ho⟩:=h5.obj
      have aD:a≠Da:=aO ho hD
      refine⟨by show BN _ i=true;unfold BN;rw[e0];rfl,a,by rw[h1];rfl,h4,?_,h5.mono (@A6) λo q=>Kt.of (by rw[aJ aD];exact q)⟩
      intro hm
      rcases @P3 with z|z
      ·exact aD z
      ·exact h4 (by simpa using z)
def SR.unblock(I:@b){br:Nat->Bool}(hD:H Da=none)(J:SR (Γ.gB @Oe G (Da::B.toList) br B) B Gc Hc σ' envb β'):SR Γ B Gc Hc σ env β'/\jQ B H Hc/\Gc Da=none:=by
 obtain⟨q1,q2,q3,q4⟩:=I.fresh hD
 have up:∀{b:Addr},Mx H b->Mx @Oe b:=λ{b} h=>h.same λo e=>Kt.of (by rw[aJ @Xr];exact e)
 have mv0:∀b o,H b=some o->B≠some b->Kt Hc b o:=λb o e n=>J.keep b o (show upd H Da @Ci b=some o by rw[aJ @Xr];exact e) λhm=>by
  rcases @P3 with z|z
  ·rw[z,hD]at e;cases e
  ·exact n (by simpa using z)
 have mv:jQ B H Hc:=⟨mv0,λb o u e=>mv0 b _ e λz=>by rw[(I.box b z).1]at e;cases e⟩
 refine⟨⟨J.sub,@Qu,λb h1 h2=>J.new b (up (I.thereM h1)) (I.new b h1 h2),λb o h1 h2=>BO (@MW) mv λz=>?_,λb hb=>J.thereM (up (@VL)),I.fix,λb e=>?_,I.len,λi s e=>?_,I.sep⟩,mv,J.new Da (Mx.lst (show upd H Da @Ci Da=some @Ci from aE)) q2⟩
 ·obtain⟨_,_,h3⟩:=I.box b z
  rcases h3 with h3|h3
  ·exact h2 h3
  ·rw[h1]at h3;cases h3
 ·obtain⟨j1,j2,_⟩:=J.box b e
  exact⟨j1,j2,(@TC).2.2⟩
 ·have w:=I.slot i s e
  cases s with
  |no=>trivial
  |fz d=>obtain⟨v,h1,h2⟩:=w;exact⟨v,h1,h2.mono J.old⟩
  |bx=>exact w
  |ow d=>
   obtain⟨a,h1,h2,h3,h4,h5⟩:=w
   exact⟨a,h1,h2,J.new a (up h5.mx) h3,h4,h5.mono J.old λo q=>mv.1 a o q h4⟩
  |br d=>
   obtain⟨b1,a,h1,h4,hp,h5⟩:=w
   exact⟨b1,a,h1,h4,hp,h5.mono J.old λo q=>mv.1 a o q h4⟩
def SR.updD{ys:List V}(J:@b)(hp:Da∈Γ.par)(h0:Mx Γ.H0 Da)(g0:Γ.G0 Da=none)(hB:B≠some Da):SR Γ B G (upd H Da @Lx) σ env β:=by
 have gD:=J.new Da h0 g0
 have ha:∀x y,H Da≠@HA:=λx y w=>(J.pin Da hp).2 _ w trivial
 refine⟨λb u q=>lx (J.sub b u q) (λz=>by rw[z,gD]at q;cases q) ha,J.old,J.new,λb u q n=>lx (J.keep b u q n) (λz=>n (by rw[z];exact hp)) ha,λb hb=>?_,J.fix,λb e=>?_,J.len,λi s e=>?_,J.sep⟩
 ·by_cases z:b=Da
  ·subst z;exact Mx.lst aE
  ·exact(J.pin b hb).same λo e=>Kt.of (by rw[aJ z];exact e)
 ·obtain⟨h1,h2⟩:=J.box b e
  exact⟨by rw[aJ (λz=>hB (by rw[<-z];exact e))];exact h1,h2⟩
 ·have w:=J.slot i s e
  cases s with
  |no=>trivial
  |fz d=>exact w
  |bx=>exact w
  |ow d=>
   obtain⟨a,h1,h2,h3,h4,h5⟩:=w
   have aD:a≠Da:=λz=>h0.1 (by rw[<-z];exact h2)
   exact⟨a,h1,h2,h3,h4,h5.mono (@A6) λo q=>Kt.of (by rw[aJ aD];exact q)⟩
  |br d=>
   obtain⟨b1,a,h1,h4,hpa,h5⟩:=w
   have aD:a≠Da:=λz=>hpa (by rw[z];exact hp)
   exact⟨b1,a,h1,h4,hpa,h5.mono (@A6) λo q=>Kt.of (by rw[aJ aD];exact q)⟩
end
def R.okb{α γ:Type}(r:R α)(k:α->Int->R γ):R γ:=match r with
 | .ok a β=>k a β
 |_=>.bad
def jr(t:Tg)(ft:@CQ)(fe:VF D)(vs:@BD):List D->Int->R (List D)
 | [],β=>@X6
 |d::ds,β=>match qO t d vs with
  |none=>.bad
  |some vs1=>(ft vs1 β).okb λc β1=>if c=true then(@RA).okb λx β2=>(jr t ft fe vs ds β2).okb λxs β3=>.ok (x::xs) β3 else jr t ft fe vs ds β1
def aM(own:Nat)(ixs:@c)(t:Tg)(fi:@w)(ft:@CQ)(fe:VF D):VF D:=λvs β=>(@Wh).bnd λds β1=>if ds.length<=sizeLine then(jr t ft fe @GA ds β1).okb λxs β2=>.ok (.list xs) β2 else .bad
def iP:@CQ:=λ_ β=>.ok true β
def Mc(own:Nat)(ixs Lc:@c)(j:Nat):Bool:=decide (j<own)||(match ixs[j-own]? with
 |some i=>Lc.contains i
 |none=>false)
theorem Lr{α γ:Type}{Γ:Fx}{E:XK}{r:R α}{k:α->Int->R γ}{P:γ->Int->Prop}(h:Out Γ E (r.okb k) P):∃a β,r=@Pl/\Out Γ E (k a β) P:=by
 cases r with
 |ok a β=>exact⟨a,β,rfl,h⟩
 |exc c=>exact h.elim
 |bad=>exact h.elim
section
variable {X:Cx}{Γ:Fx}{E:XK}{tg iter elt:Expr}{ifs:@Ac}{scope:Scope}{NB:@a}{own:Nat}{ixs Li Lc Lt Le:@c}{t:Tg}{fi:@w}{ft:@CQ}{fe:VF D}{pos:Pos}
def cU{X:Cx}{Γ:Fx}{E:XK}:Ck X [] (qT Γ E iP []):=λpins s σ H Q I ⟨env,G,B,β,J,o⟩=>sV pins s σ H Q I (o G H J (@A6) @GY)
def gA{X:Cx}{Γ:Fx}{E:XK}{c:Expr}{ta:@CQ}{L:@c}(h:@Rx):Ck X [c] (qT Γ E ta L):=x8 h
def jl{NB:@a}{scope:Scope}{C:Addr}{ex:@Ao}{s3:Shared}{H3:Hp}{pn:@K}{P:Program}{w:World}:Passes @Ga @U E0:=λpins σ H s e s' I h=>by
 obtain⟨_,_,_,_,_,_,_,_,_,q⟩:=h
 exact q.elim
abbrev gU(Γ:Fx)(t:Tg):TG:=λv σ H Q=>∃H0 G0 par br bx,gT @Bn t v σ H Q
abbrev tU(Γ:Fx)(own:Nat)(ixs Lc:@c)(ft:@CQ)(Lt:@c):TT:=λσ H Q=>∃H0 G0 par br bx,(∀j,@GJ=true->br j=false)/\qT @Bn E0 ft Lt σ H Q
abbrev eU(Γ:Fx)(own:Nat)(ixs Lc:@c)(fe:VF D)(Le:@c):TE:=λσ H Q=>∃H0 G0 par br bx,(∀j,@GJ=true->br j=false)/\pT @Bn E0 fe Le .v σ H Q
def ME{σ:St}{H:Hp}{Q:VK}(hLc:∀i,i∈Lc->@II=false)(h:pT Γ E @L5 (Li++Lc) .w σ H Q):Bb own ixs (iT Γ E fi Li .b) (gU Γ t) (@M7) (@M0) σ H Q:=by
 obtain⟨env,G,B,β,I,o⟩:=h
 refine⟨env,G,B,β,I,o.bnd.imp λds β1 h J G1 H1 I1 s1 m1 wk Da hD=>?_⟩
 have wk:Walk Γ.K B G1 H1 ds J:=wk
 by_cases hz:ds.length<=sizeLine
 case neg=>rw[UJ hz]at h;exact h.elim
 rw[Uz hz]at h
 obtain⟨xs0,β0,e0,h⟩:=Lr h
 have h:∀v G' H',SR Γ B G' H' σ (bj (Li++Lc) env) β0->@CL->@DQ->VO Γ.K B H G' H' .w (.list xs0) v->Q v H':=h
 obtain⟨G2,I2,s2⟩:=I1.bj Lc hLc
 rw[<-cM]at I2
 obtain⟨q1,q2,q3,q4⟩:=I2.fresh hD
 have Ib0:=I2.block own ixs hD
 generalize hbr:BN (benv own ixs (bj (Li++Lc) env))=br at Ib0
 have hbo:∀j,@GJ=true->br j=false:=by
  intro j hj
  rw[<-hbr]
  unfold BN
  split
  ·rename_i d e
   exfalso
   unfold benv at e
   by_cases hjo:j<own
   ·rw[U6 (by simpa using hjo),VJ,Uz hjo]at e;cases e
   ·rw[U9 (by simpa using hjo),Vs,UN]at e
    unfold Mc at hj
    rw[UO hjo,Bool.false_or]at hj
    cases ek:ixs[j-own]? with
    |none=>rw[ek]at hj;cases hj
    |some k=>
     rw[ek]at hj e
     have hk:k∈Lc:=by simpa using hj
     have e:Pq (bj (Li++Lc) env)[k]? =.br d:=@Ig
     cases q:(bj (Li++Lc) env)[k]? with
     |none=>rw[q]at e;cases e
     |some s=>
      rw[q]at e
      cases s with
      |no=>cases e
      |fz _=>cases e
      |bx=>cases e
      |br d'=>
       obtain⟨b1,_⟩:=I2.slot k _ q
       rw[hLc k hk]at b1;cases b1
      |ow d'=>
       rw[cM]at q
       have key:∀(M:@c) (en:En),k∈M->∀d',(bj M en)[k]?≠@EJ:=by
        intro M
        induction M with
        |nil=>intro en hm;cases hm
        |cons i M ih=>
         intro en hm d' z
         rcases @P3 with y|y
         ·subst y
          have z1:(jk en k)[k]? =@EJ:=uI (L:=M) z
          have z2:=ye z1
          unfold jk at z1
          rw[z2]at z1
          dsimp only at z1
          rw[UT (Uy.mp z2).1]at z1;cases z1
         ·exact ih (jk en i) y d' z
       exact key Lc _ hk d' q
  ·rfl
 have evb:vl (benv own ixs (bj (Li++Lc) env))=@Gj:=by rw[KG,eN]
 refine⟨λi n σ' H'=>n=ds.length-i/\i<=ds.length/\∃envb Gc β' acc accd,SR (Γ.gB (upd H1 Da @Ci) G2 (Da::B.toList) br B) B Gc H' σ' envb β'/\(envb=benv own ixs (bj (Li++Lc) env)\/∃d,gW t d (benv own ixs (bj (Li++Lc) env))=some envb)/\
   H' Da=@Aj/\c9 Γ.K Gc acc accd/\accd.length<=i/\∃xs,jr t ft fe (@Gj) (ds.drop i) β'=.ok xs β0/\accd++xs=xs0,
  ⟨ds.length,by simp,Vl _,_,G2,β1,[],[],Ib0,@BQ,aE,.nil,Vl _,xs0,by rw[List.drop_zero];exact e0,rfl⟩,?_⟩
 rintro i n σ' H' ⟨rfl,hi',envb,Gc,β',acc,accd,Ib,eb,hacc,racc,lacc,xs,ec,exs⟩
 obtain⟨Io,mv,gD⟩:=I2.unblock hD Ib
 obtain⟨w1,w2⟩:=wk Gc H' i (s2.trans Ib.old) Ib.sub mv
 by_cases hlt:i<ds.length
 ·obtain⟨go,yl⟩:=w1 hlt
  refine .inr ⟨go,λσ' H'=>∃envb Gc β' acc accd,SR (Γ.gB (upd H1 Da @Ci) G2 (Da::B.toList) br B) B Gc H' σ' envb β'/\(envb=benv own ixs (bj (Li++Lc) env)\/∃d,gW t d (benv own ixs (bj (Li++Lc) env))=some envb)/\
   H' Da=@Aj/\c9 Γ.K Gc acc accd/\accd.length<=i+1/\∃xs,jr t ft fe (@Gj) (ds.drop (i+1)) β'=.ok xs β0/\accd++xs=xs0,λσ2 H2 hh=>⟨ds.length-(i+1),@B,rfl,hlt,hh⟩,λx H2 y=>?_⟩
  obtain⟨G3,d,x3,ed,rd⟩:=yl x H2 y
  have I3:=Ib.ext x3
  have ed':ds[i]=d:=by rw[UB hlt]at ed;exact Option.some.inj ed
  rw[VZ hlt,ed']at ec
  unfold jr at ec
  cases ebv:qO t d (@Gj)with
  |none=>rw[ebv]at ec;cases ec
  |some vs1=>
   rw[ebv]at ec
   dsimp only at ec
   obtain⟨env1,eb1,ev1⟩:∃env1,gW t d (benv own ixs (bj (Li++Lc) env))=@JP/\vl env1=vs1:=by
    have:=LJ t d (benv own ixs (bj (Li++Lc) env))
    rw[evb,ebv]at this
    cases q:gW t d (benv own ixs (bj (Li++Lc) env))with
    |none=>rw[q]at this;cases this
    |some env1=>rw[q]at this;exact⟨env1,rfl,Option.some.inj this⟩
   have eb2:gW t d envb=@JP:=by
    rcases eb with rfl|⟨d0,eb⟩
    ·exact eb1
    ·rw[E6 eb];exact eb1
   have no1:Be env1:=DQ (xy _ _ _) eb1
   have a2:H2 Da=@Aj:=x3.hh _ _ hacc
   refine⟨_,_,_,_,_,envb,G3,B,β',d,env1,I3,rd,eb2,λσ3 I4=>?_⟩
   refine⟨_,_,_,_,_,hbo,env1,G3,B,β',I4,?_⟩
   rw[ev1]
   cases et:ft vs1 β' with
   |exc c=>rw[et]at ec;cases ec
   |bad=>rw[et]at ec;cases ec
   |ok c β2=>
    rw[et]at ec
    intro G4 H4 I5 s4 m4
    rw[zX no1]at I5
    have a4:H4 Da=@Aj:=m4.1 _ _ a2 q3
    cases c with
    |false=>
     refine sk ⟨env1,G4,β2,acc,accd,I5,.inr ⟨d,eb1⟩,a4,racc.mono (x3.gg.trans s4),@B,xs,?_,exs⟩
     exact ec
    |true=>
     refine v8 ⟨_,_,_,_,_,hbo,env1,G4,B,β2,I5,?_⟩
     rw[ev1]
     have ec:((fe vs1 β2).okb λx β3=>(jr t ft fe (@Gj) (ds.drop (i+1)) β3).okb λxs β4=>R.ok (x::xs) β4)=R.ok xs β0:=ec
     cases ee:fe vs1 β2 with
     |exc c=>rw[ee]at ec;cases ec
     |bad=>rw[ee]at ec;cases ec
     |ok dx β3=>
      rw[ee]at ec
      intro v G5 H5 I6 s5 m5 vo
      rw[zX no1]at I6
      have a5:H5 Da=@Aj:=m5.1 _ _ a4 q3
      have ec:((jr t ft fe (@Gj) (ds.drop (i+1)) β3).okb λxs β4=>R.ok (dx::xs) β4)=R.ok xs β0:=ec
      cases er:jr t ft fe (@Gj) (ds.drop (i+1)) β3 with
      |exc c=>rw[er]at ec;cases ec
      |bad=>rw[er]at ec;cases ec
      |ok ys β4=>
       rw[er]at ec
       cases ec
       refine⟨acc,a5,by rw[racc.len];omega,env1,G5,β3,acc++[v],accd++[dx],?_,.inr ⟨d,eb1⟩,aE,(racc.mono ((x3.gg.trans s4).trans s5)).snoc vo,by rw[UL];simp;omega,ys,er,by rw[<-exs,Vr];rfl⟩
       refine I6.updD (UG ..) (Mx.lst (show upd H1 Da @Ci Da=some @Ci from aE)) (I2.sub.free hD) q3
 ·have e:i=ds.length:=@B
  subst e
  rw[WY]at ec
  cases ec
  rw[VY]at exs
  subst exs
  refine .inl ⟨w2 (UC _),⟨acc,hacc⟩,h _ Gc H' Io ((@Dp).trans Ib.old) (m1.trans mv) ⟨Da,rfl,hJ m1 I1.boxThere hD,gD,acc,hacc,racc⟩⟩
def bU(hg:∀H0 G0 par br bx C ex s3 H3 pn,@UW)(C:Addr)(ex:@Ao)(s3:Shared)(H3:Hp)(pn:@K):PG @U tg (gU Γ t):=by
 rintro pins s σ H v u Q I r ⟨H0,G0,par,br,bx,q⟩
 exact hg H0 G0 par br bx C ex s3 H3 pn pins s σ H v u Q I r q
def cm(Lc:@c)(hc:X.calm=true)(S:@BK)(hLc:∀i,i∈Lc->@II=false)(hi:@T4)
  (hg:∀H0 G0 par br bx C ex s3 H3 pn,@UW)
  (ht:∀H0 G0 par br bx C ex s3 H3 pn,(∀j,@GJ=true->br j=false)->@S9)
  (he:∀H0 G0 par br bx C ex s3 H3 pn,(∀j,@GJ=true->br j=false)->@UV)
  (hs:∀x,@Bj=pure x:=by intro _;rfl) :
  SE X Γ E @h @L5 (Li++Lc) .w:=by
 refine PE.post' (Av (g:=gU Γ t) (tt:=@M7) (te:=@M0) hc S hi (bU hg) (λC ex s3 H3 pn=>?_) (λC ex s3 H3 pn=>?_) hs) λσ H Q h=>ME hLc h
 ·rintro pins s σ H Q I ⟨H0,G0,par,br,bx,b,q⟩
  exact @Jw
 ·rintro pins s σ H Q I ⟨H0,G0,par,br,bx,b,q⟩
  exact @Jv
def oz{i:Nat}{y:Str}{py spos:Pos}(Lc:@c)(hc:X.calm=true)(S:@BK)(hLc:∀i,i∈Lc->@II=false)(hi:@T4)
  (hg:∀H0 G0 par br bx C ex s3 H3 pn,@UW)
  (ht:∀H0 G0 par br bx C ex s3 H3 pn,(∀j,@GJ=true->br j=false)->@S9)
  (he:∀H0 G0 par br bx C ex s3 H3 pn,(∀j,@GJ=true->br j=false)->@UV)
  (hN:X.N.Nodup) (hy:X.N[i]? =some y:=by rfl) (hl:@Ei=@Ae:=by rfl)
  (hsw:@M6=pure true:=by rfl)
  (hs:∀x,@Bj=pure x:=by intro _;rfl) :
  SS X Γ E @Vt (ba i (Li++Lc) @L5):=by
 refine PS.post (GV (g:=gU Γ t) (tt:=@M7) (te:=@M0) hc S hi (bU hg) (λC ex s3 H3 pn=>?_) (λC ex s3 H3 pn=>?_) hN hy hl hsw hs) λN σ H ⟨env,G,B,β,I,o⟩=>?_
 ·rintro pins s σ H Q I ⟨H0,G0,par,br,bx,b,q⟩
  exact @Jw
 ·rintro pins s σ H Q I ⟨H0,G0,par,br,bx,b,q⟩
  exact @Jv
 refine ME hLc ⟨env,G,B,β,I,dv o λd β' k v G' H' I' s' m' vo=>?_⟩
 obtain⟨G2,I2,s2,r⟩:=I.letW I' vo
 exact k B G2 H' _ (I2.set' i r) @Qh
end
def fin:SO->FR
 | .nx _ _=>@KB
 | .rt d fr _=>.ok d fr
 | .exc c=>.exc c
 |_=>.bad
def Cp(n:Nat)(ds:List D):En:=@Yb++List.replicate (n-ds.length) .no
def aS(n p:Nat)(m:SF):@I:=λds=>if ds.length=p then fin (m (Cp n ds) 0)else .bad
abbrev Fx.fn(K:Frag)(H G:Hp)(ca:Str->Addr):Fx:=⟨K,H,G,[],ca,λ_=>false,none⟩
def SR.start{K:Frag}{H G:Hp}{ca:Str->Addr}{N:@a}{vs:List V}{ds:List D}(s:ay G H)(r:@Rg)(hn:ds.length<=N.length):SR @JW none G H @C9 @Rs 0:=by
 have hl:=r.len
 refine⟨s,@A6,λb _ h=>h,λb o h _=>@WN,λb h=>(by cases h),λb h=>(by cases h),λb h=>(by cases h),?_,λi t e=>?_,λi j a d e h=>?_⟩
 ·unfold L2.start Cp;simp;omega
 ·unfold Cp at e
  by_cases hi:i<ds.length
  ·rw[U6 (by simpa using hi),UN,UB hi]at e
   cases e
   obtain⟨x,hx,rx⟩:=r.at (UB hi)
   refine⟨x,?_,rx⟩
   unfold L2.start
   rw[U6 (by simpa[hl]using hi),UN,hx];rfl
  ·rw[U9 (by simpa using hi),VJ]at e
   split at e
   ·cases e;trivial
   ·cases e
 ·unfold Cp at h
  have hm:=U1 h
  rcases UW.mp hm with z|z
  ·obtain⟨_,_,z⟩:=U4.mp z;cases z
  ·have:=VD z;cases this
section
variable {P:Program}{w:World}{K:Frag}{mg:@R}{base:Heap}{ca:Str->Addr}
def aR{x qual:Str}{st:Stmt}{f:Addr}{fd:FuncData}{N ps:@a}{k:Nat}{m:SF}(F:@C5)(S:@FJ)
  (hbody:∀(cdv:Value) (A:Around) (outer:@Cf) (s:Shared) (H G:Hp) (E:XK),@SX->Dv @A3 @JW E @Oz m) :
  gM P w K mg base @Ga (k+1) f fd ps (L5 K ca ps.length @UE):=by
 have hpn:ps.length<=N.length:=by have:=@Gs;rw[VA]at this;omega
 refine F.y9 S (λvs H Q E h=>?_) (λcdv A outer s H vs Q E hr h=>?_)
 ·obtain⟨G,ds,sG,hl,r,_⟩:=h
  rw[r.len];exact hl
 ·obtain⟨G,ds,sG,hl,r,h⟩:=h
  refine⟨_,hbody cdv A outer s H G E hr,?_⟩
  have I:=SR.start (ca:=ca) (N:=N) sG r (@B)
  refine⟨_,G,none,0,I,?_⟩
  unfold aS at h
  rw[Uz hl]at h
  have fin':∀{B G' H' σ env β},@VT->@Cy:=λJ b o e=>J.keep b o e (λz=>by cases z)
  cases q:m @Rs 0 with
  |nx env β=>rw[q]at h;exact λB G' H' σ J s'=>h .non G' H' (fin' J) s' J.sub (λb h1 h2=>@Pu) Rp.non
  |bk env β=>rw[q]at h;exact h.elim
  |ct env β=>rw[q]at h;exact h.elim
  |rt d fr β=>
   rw[q]at h
   refine λB G' H' σ env v J s' rv=>h v G' H' (fin' J) s' J.sub (λb h1 h2=>@Pu) ?_
   cases fr with
   |true=>exact rv
   |false=>exact rv
  |exc c=>rw[q]at h;exact λH' kp=>h H' λb o e=>kp b o e (λz=>by cases z)
  |bad=>rw[q]at h;exact h.elim
def Hu{f:Addr}{fd:FuncData}{ps:@a}{k:Nat}:gM P w K mg base @Ga k f fd ps (L5 K ca ps.length λ_=>.bad):=
 ⟨λvs H Q E h=>by obtain⟨_,_,_,_,_,h⟩:=h;exact h.elim,λA outer s H args us vs Q E _ _ _ _ h=>by obtain⟨_,_,_,_,_,h⟩:=h;exact h.elim⟩
def J3{n:Nat}{F F':@I}(h:∀ds,ds.length=n->F' ds≠.bad->F ds=F' ds){vs:List V}{H:Hp}{Q:VK}{E:XK}(q:L5 K ca n F' vs H Q E):L5 K ca n F vs H Q E:=by
 obtain⟨G,ds,s,hl,r,q⟩:=q
 refine⟨G,ds,s,hl,r,?_⟩
 by_cases hb:F' ds=.bad
 ·rw[hb]at q;exact q.elim
 ·rw[h ds hl hb];exact q
def bP.imp{x:Str}{ps:@a}{k:Nat}{F F':@I}(h:bP P w K mg base ca x ps k F)(i:∀ds,F' ds≠.bad->F ds=F' ds):@R6:=by
 obtain⟨f,fd,a,b,c,d⟩:=h.ex
 exact⟨⟨f,fd,a,b,c,d.imp λvs H Q E q=>J3 (λds _=>i ds) q⟩,λds hn=>h.len ds (by rw[i ds hn];exact hn)⟩
def aK{n p:Nat}{m:SF}(ds:List D)(h:aS n p m ds≠.bad):ds.length=p:=by
 unfold aS at h
 by_cases hl:ds.length=p
 ·exact hl
 ·rw[UJ hl]at h;exact @Br
def qj{N:@a}{qual:Str}{scope:Scope}{f:Addr}{cd:Value}{A:Around}{outer:@Cf}{s0:Shared}{H0:Hp}{E:XK}{Γ:Fx}{x:Str}{C:Addr}{np cpos pos:Pos}{e0:Expr}{es:@Ac}{fr:@w}{L:@c}(q:PySem.W.excIn K C @AH "ValueError.__new__"=true)(hca:Γ.ca x=C)
  (hg:Gl @AI x) (hm:mg x=some @N2) (ha:SA @AI Γ E (e0::es) fr L)
  (he:starEach (e0::es) (@X)=(false,eval e0 (@X))::starEach es (@X):=by rfl)
  (hpl:(@JM).any (·.1)=false:=by rfl) (hdb:@T:=by decide) :
  SS @AI Γ E (.Raise (some (.Call @As (e0::es) [] cpos)) none pos) (λenv β=>toS @U6 λds _=>if ds.length<=sizeLine then .exc x else .bad):=by
 refine PS.post (IA PySem.F.excBase_ValueError (@O) q hg hm ha he hpl hdb) λD σ H ⟨env,G,B,β,I,o⟩=>?_
 refine⟨env,G,B,β,I,dv o λds β' k vs G' H' I' s' m' r=>?_⟩
 by_cases hz:ds.length<=sizeLine
 ·rw[Uz hz]at k
  refine⟨by rw[r.len];exact hz,?_⟩
  have:=k H' (I'.kp (@A6))
  rw[hca]at this
  exact this
 ·rw[UJ hz]at k;exact k.elim
end
section
variable {X:Cx}{Γ:Fx}{E:XK}{e a b c:Expr}{f fa fb:VF D}{L La Lb:@c}{md ma mb:Md}{pos apos cpos np:Pos}
def uP:@YL->Bool
 |some (.ow (.list _))=>true
 |_=>false
theorem qL{o:@YL}(h:uP o=true):∃ds,o=@Bb:=by
 cases o with
 |none=>cases h
 |some s=>
  cases s with
  |ow d=>cases d with
   |list ds=>exact⟨ds,rfl⟩
   |_=>cases h
  |_=>cases h
def Ml(i:Nat)(env:En)(β:Int)(g:List D->@Ni):SO:=match env[i]? with
 |some (.ow (.list ds))=>(match g ds with
  |some es=>@HR
  |none=>.bad)
 |_=>.bad
def l0(i:Nat)(L:@c)(f:VF D):SF:=λenv β=>if uP env[i]? =true then toS (@C0) λd β'=>Ml i @AD β' λds=>if ds.length<sizeLine then some (ds++[d])else none else .bad
def sX{Γ:Fx}{E:XK}{G:Hp}{N:Ends}{i:Nat}{env:En}{β:Int}{g:List D->@Ni}(h:vI Γ E G N (Ml i env β g)):∃ds es,env[i]? =@Bb/\g ds=some es/\vI Γ E G N (@HR):=by
 unfold Ml at h
 split at h
 ·rename_i ds q
  cases e:g ds with
  |none=>rw[e]at h;exact h.elim
  |some es=>rw[e]at h;exact⟨ds,es,q,e,h⟩
 ·exact h.elim
def jX(i:Nat){x:Str}(hb:∀j,Γ.br j=false)(he:@H9)(hN:X.N[i]? =some x:=by rfl)(hv:@Ca:=by first|exact @Af|exact @Eo|exact @FQ)(hd:@T:=by decide)
  (hcd:(x==("__classdict__":Str))=false:=by decide)
  (hbase:@OH=@G9:=by rfl)
  (hfew:((backTo cpos (@F3)).all (λx=> !x.1)&&(@B7).all (λx=>x.1.isSome)
   && decide ([e].length+([]:@Cp).length+(if([]:@Cp).isEmpty then 0 else 1)<30))=true:=by rfl)
  (hline:(apos.endLine==cpos.line)=true:=by rfl) (hs:@F3=(false,@DE)::@An:=by rfl)
  (hsw:swapsWith @Vu none pos.line X.env=@D6:=by rfl) :
  SS X Γ E (.Expr @Vu pos) (l0 i L f):=by
 refine PS.post (sS (De WE PySem.F.slot_list_append PySem.F.type_list_append oM @ET (aw he aZ hs) hbase hfew hline hs rfl) hsw) λN σ H ⟨env,G,B,β,I,o⟩=>?_
 unfold l0 at o
 by_cases hO:uP env[i]? =true
 case neg=>rw[UJ hO]at o;exact o.elim
 rw[Uz hO]at o
 obtain⟨ds0,q0⟩:=qL hO
 obtain⟨p,h1,_,_,_,xs,h5,_⟩:=@WK
 refine⟨_,h1,@IQ,?_⟩
 refine⟨env,G,B,β,I,dv o λd β' k v G' H' I' s' m' vo=>?_⟩
 obtain⟨ds,es,q,eg,k⟩:=sX k
 by_cases hz:ds.length<sizeLine
 case neg=>rw[UJ hz]at eg;cases eg
 rw[Uz hz]at eg
 cases eg
 obtain⟨p',g1,_,_,_,ys,g5,g6⟩:=I'.slot i _ q
 rw[h1]at g1;cases g1
 refine⟨p,ys,v,rfl,rfl,g5,by rw[g6.len];exact hz,?_⟩
 exact k B G' _ σ (I'.write hb q h1 λH2 e2 s2=>⟨_,e2,g6.snoc vo⟩) s'
def Pe:V->List V->Hp->VK->Prop:=λx vs H Q=>∃l b xs zs,x=.ref l/\vs= [.ref b]/\H l=@BI/\Rd H b @Xg/\xs.length+zs.length<=sizeLine/\Q .non (upd H l (.lst (xs++zs)))
def Inv.lstR{pins:@K}{σ:St}{H:Hp}{s:Shared}{l:Addr}{xs:List V}(I:@D)(hH:Rd H l @JQ):xs.length<=sizeLine/\∃(its:@e) (n:Nat),@Ij/\xs.length=its.length/\s.heap.get? l=some {cls:=@BV,data:=@D3}:=by
 obtain⟨z,its,n,r,e⟩:=hH.ok I.hok
 exact @Vs
def KS:OR X "list.extend" Pe:=by
 intro pins s σ H x vs v us Q I rx rv h
 obtain⟨l,b,xs,zs,rfl,rfl,hH,hB,hz,q⟩:=h
 cases rx
 obtain⟨u,rfl,ru⟩:=rv.one
 cases ru
 obtain⟨z,its,n,r,hl,e⟩:=@Pr
 obtain⟨z2,its2,n2,r2,hl2,e2⟩:=I.lstR hB
 have hsz:its.toArray.size+its2.toArray.size<=sizeLine:=by rw[UM,UM];omega
 have hlong:¬(!its.toArray.isEmpty&&Builtin.List.listTooLong (its.toArray.size+its2.toArray.size))=true:=by
  rw[vh hsz,Bool.and_false]
  exact UQ
 refine Xh F.slot_list_extend @IJ F.entry_list_extend @Tr
  (AutoSeq1.list_extend_list_list_0 l its.toArray n b its2.toArray n2 hlong (by rw[UM];omega) (@B)) ⟨e,e2,?_⟩
 refine⟨.non,_,I.lset (its':=its++its2) hH e @W @Pb ?_,rfl,q⟩
 rw[UL]
 omega
def Ee(i:Nat)(L:@c)(f:VF D):SF:=λenv β=>if uP env[i]? =true then toS (@C0) λd β'=>Ml i @AD β' λds=>match d with
 | .list es=>if ds.length+es.length<=sizeLine then some (ds++es)else none
 |_=>none else .bad
theorem EA(i:Nat){x:Str}(hb:∀j,Γ.br j=false)(he:@P1)(hN:X.N[i]? =some x:=by rfl)(hv:@Ca:=by first|exact @Af|exact @Eo|exact @FQ)(hd:@T:=by decide)
  (hcd:(x==("__classdict__":Str))=false:=by decide)
  (hbase:attributeBase @As "extend" X.env (@G9)=@G9:=by rfl)
  (hfew:((backTo cpos (@F3)).all (λx=> !x.1)&&(@B7).all (λx=>x.1.isSome)
   && decide ([e].length+([]:@Cp).length+(if([]:@Cp).isEmpty then 0 else 1)<30))=true:=by rfl)
  (hline:(apos.endLine==cpos.line)=true:=by rfl) (hs:@F3=(false,@DE)::@An:=by rfl)
  (hsw:swapsWith @KP none pos.line X.env=@D6:=by rfl) :
  SS X Γ E (.Expr @KP pos) (Ee i L f):=by
 refine PS.post (sS (De WE PySem.F.slot_list_extend PySem.F.type_list_extend KS @ET (aw he aZ hs) hbase hfew hline hs rfl) hsw) λN σ H ⟨env,G,B,β,I,o⟩=>?_
 unfold Ee at o
 by_cases hO:uP env[i]? =true
 case neg=>rw[UJ hO]at o;exact o.elim
 rw[Uz hO]at o
 obtain⟨ds0,q0⟩:=qL hO
 obtain⟨p,h1,_,_,_,xs,h5,_⟩:=@WK
 refine⟨_,h1,@IQ,?_⟩
 refine⟨env,G,B,β,I,dv o λd β' k v G' H' I' s' m' vo=>?_⟩
 obtain⟨ds,es,q,eg,k⟩:=sX k
 cases d with
 |list fs=>
  dsimp only at eg
  by_cases hz:ds.length+fs.length<=sizeLine
  case neg=>rw[UJ hz]at eg;cases eg
  rw[Uz hz]at eg
  cases eg
  obtain⟨p',g1,_,_,_,ys,g5,g6⟩:=I'.slot i _ q
  rw[h1]at g1;cases g1
  obtain⟨pb,zs,rfl,hq,rz⟩:=(vo.brw I.boxThere).list I'.sub
  refine⟨p,pb,ys,zs,rfl,rfl,g5,hq,by rw[g6.len,rz.len];exact hz,?_⟩
  exact k B G' _ σ (I'.write hb q h1 λH2 e2 s2=>⟨_,e2,g6.append rz⟩) s'
 |_=>cases eg
def p9(i:Nat)(Le Li:@c)(fe fi:VF D):SF:=λenv β=>toS (fe @p β) λd β1=>if uP (bj Le env)[i]? =true then toS (fi @p β1) λk β2=>Ml i (bj (Le++Li) env) β2 λds=>match k with
 | .int j=>(vQ ds.length j).map λn=>ds.set n d
 |_=>none else .bad
theorem yZ(i:Nat){x:Str}{spos:Pos}(hb:∀j,Γ.br j=false)(he:SE X Γ E e f La .v)(hi:SE X Γ E a fa Lb mb)(hN:X.N[i]? =some x:=by rfl)(hv:@Ca:=by first|exact @Af|exact @Eo|exact @FQ)(hd:@T:=by decide)
  (hcd:(x==("__classdict__":Str))=false:=by decide)
  (hA:∀v,assign (@El) X.env v=(do
   let ov <-holding [v] (@G9)
   let iv <-holding [v,ov] (@AZ)
   standAt spos
   @PD
   release [v,ov,iv] []):=by intro _;rfl)
  (hs:swapsWithSole [@El] e pos.line X.env=@D6:=by rfl) (hw:swappedStores [@El] e X.env=pure none:=by rfl)
  (h1:(assignEach [@El] X.env).map (·.2)= [assign (@El) X.env]:=by rfl) :
  SS X Γ E (.Assign [@El] e pos) (p9 i La Lb f fa):=by
 refine PS.post (tT he (yo @ET hi set_list hA) hs hw h1) λN σ H ⟨env,G,B,β,I,o⟩=>?_
 refine⟨env,G,B,β,I,dv o λd β1 o v G1 H1 I1 s1 m1 vo=>?_⟩
 by_cases hO:uP (@JN)[i]? =true
 case neg=>rw[UJ hO]at o;exact o.elim
 rw[Uz hO]at o
 obtain⟨ds0,q0⟩:=qL hO
 obtain⟨p,h1,_,_,_,xs,h5,_⟩:=I1.slot i _ q0
 refine⟨_,h1,@JN,G1,B,β1,I1,?_⟩
 rw[eN]
 refine dv o λk β2 o w G2 H2 I2 s2 m2 vi=>?_
 rw[<-cM]at I2
 obtain⟨ds,es,q,eg,o⟩:=sX o
 cases k with
 |int j=>
  dsimp only at eg
  obtain rfl:=(vi.brw I1.boxThere).int
  obtain⟨p',g1,_,_,_,ys,g5,g6⟩:=I2.slot i _ q
  rw[h1]at g1;cases g1
  cases en:vQ ds.length j with
  |none=>rw[en]at eg;cases eg
  |some n=>
   rw[en]at eg
   cases eg
   have vo:Rp Γ.K G1 v d:=vo
   refine⟨p,ys,j,n,rfl,rfl,g5,by rw[g6.len];exact en,?_⟩
   exact o B G2 _ σ (I2.write hb q h1 λH3 e3 s3=>⟨_,e3,g6.set (vo.mono s2) n⟩) (@Dp)
 |_=>cases eg
end
structure fA(K:Frag)(mg:@R)(x:Str)(st:Stmt)(ps:@a)(f:Addr)(fd:FuncData):Prop where
 mg:mg x=@Fc
 F:AR K x x st f fd
 b:@HG
structure Exc(K:Frag)(mg:@R)(ca:Str->Addr)(x:Str):Prop where
 mg:mg x=some (.ref (ca x))
 ex:PySem.W.excIn K (ca x) @AH "ValueError.__new__"=true
def Exc.ca{K:Frag}{mg:@R}{ca:Str->Addr}{x:Str}(h:Exc K mg ca x):ca x=ca x:=rfl
structure gk(mg:@R):Prop where
 len:mg "len"=none
 range:mg "range"=none
 enumerate:mg "enumerate"=none
 zip:mg "zip"=none
 min:mg "min"=none
 max:mg "max"=none
 sum:mg "sum"=none
 abs:mg "abs"=none
 sorted:mg "sorted"=none
 reversed:mg "reversed"=none
 int:mg "int"=none
 str:mg "str"=none
 bool:mg "bool"=none
 list:mg "list"=none
 tuple:mg "tuple"=none
 dict:mg "dict"=none
 set:mg "set"=none
 isinstance:mg "isinstance"=none
 repr:mg "repr"=none
 any:mg "any"=none
 all:mg "all"=none
 divmod:mg "divmod"=none
section
variable {X:Cx}{pins:@K}{σ:St}{H:Hp}{s:Shared}
def Inv.turnedL{t':Nat}{ch:@Ao}{h':Heap}(I:@D)(k:∀b o,b∉ch->s.heap.get? b=some o->h'.get? b=some o)(hf:∀b∈ch,@IF):Inv X pins σ H {s with heap:=h',toks:=t'}:=by
 have nit:∀b u,H b=some u->b∉ch:=λb u e z=>by rw[(hf b z).1]at e;cases e
 have nL:X.env.locals∉ch:=λz=>(hf _ z).2.1 rfl
 refine I.step (g':=s.gens) (d':=s.drawn) (ch:=ch) (λb hb=>?_) (λb o _ _ hc e _=>k b o hc e) (λb o _ _ hc e _=>⟨o.slots,k b o hc e⟩) (λ_ _ _ _ n=>n)
  (λb o hc e=>⟨o,k b o hc e⟩) (λ_ _ e=>e) (λ_ _ _ e=>e) (λb ps e=>⟨#[],by rw[e];simp⟩) (λm hm=>?_) (λb u e=>?_) I.bare
 ·obtain⟨f0,f1,f2,f3,f4,f5⟩:=@Wm
  exact⟨f3,f1,f4,f5⟩
 ·obtain⟨o,es,ep,ho,r⟩:=hm
  exact⟨o,es,ep,k _ o nL ho,r⟩
 ·refine(I.hok b u e).stay (λc v hc q=>k c v ?_ q) (λ_ q=>q) λ_ _ q=>q
  rcases hc with z|z
  ·rw[z];exact nit b u e
  ·exact nit c _ z
end
def OU{n:Nat}(i j:Nat)(h:(i==j)=false):(n+i:Nat)≠n+j:=by
 have:i≠j:=by simpa using h
 omega
end L2
namespace L2
open PySem
section
variable {K:Frag}{h:Heap}{mg:@R}
theorem sU{α:Type}{P:@Bl->Prop}(q:∀a,P [a]):∀us:@Bl,us.length=1->P us
 | [a],_=>q a
theorem ln2{α:Type}{P:@Bl->Prop}(q:∀a b,P [a,b]):∀us:@Bl,us.length=2->P us
 | [a,b],_=>q a b
theorem Jk{α:Type}{P:@Bl->Prop}(q:∀a b c,P [a,b,c]):∀us:@Bl,us.length=3->P us
 | [a,b,c],_=>q a b c
theorem T4{α:Type}{P:@Bl->Prop}(q:∀a b c d,P [a,b,c,d]):∀us:@Bl,us.length=4->P us
 | [a,b,c,d],_=>q a b c d
theorem Uh{α:Type}{P:@Bl->Prop}(q:∀a b c d e,P [a,b,c,d,e]):∀us:@Bl,us.length=5->P us
 | [a,b,c,d,e],_=>q a b c d e
def aQ(x:Str)(st:Stmt)(ps:@a):Prop:=∀(kV doc pm:Value) (an:@i) (cdv ct:Value) (us:@e),us.length=ps.length->bindArgs @HE @KO=pure @GB
structure Fo(K:Frag)(mg:@R)(x:Str)(st:Stmt)(ps:@a):Prop where
 ex:∃f fd,@Gz
def bu{x:Str}{st:Stmt}{ps:@a}{f:Addr}{oc:Value}{od an:@i}{sl:@Ib}{kV doc pm cdv ct:Value}(X:K.In h)(G:@Fb)(b:aQ x st ps)(a:@Fv=some (@Fc))
  (l:@Qw=some ⟨oc,od,.func @HE,sl⟩) (c:PySem.W.codeIn K cdv x=true) (k:@Cw=true):Fo K mg x st ps:=
 ⟨⟨f,_,Vb X G a,vk l c k,(vk l c k).binds b⟩⟩
def RX:@a:=["len","range","enumerate","zip","min","max","sum","abs","sorted","reversed","int","str","bool","list","tuple","dict","set","isinstance","repr","any","all","divmod"]
def SD(K:Frag):Bool:=RX.all λx=>match @Fv with
 |some none=>true
 |_=>false
def NU(q:SD K=true){x:Str}(hx:x∈RX):@Fv=@QJ:=by
 have:=Ve.mp q x hx
 split at this
 ·assumption
 ·cases this
def Pw(X:K.In h)(G:@Fb)(q:SD K=true):gk mg:=by
 have key:∀{x:Str},x∈RX->mg x=none:=λhx=>PySem.W.mg_none_of X G (NU q hx)
 constructor<;>exact key @S
end
section
variable {X:Cx}{P:Program}{w:World}{K:Frag}{mg:@R}{base:Heap}{ca:Str->Addr}
def kx(step:(@I)->@I):Nat->@I
 | 0=>λ_=>.bad
 |n+1=>step (kx step n)
theorem yh{x:Str}{st:Stmt}{ps:@a}{f:Addr}{fd:FuncData}{j:Nat}{step:(@I)->@I}(F:@Gz)
  (h:∀(k:Nat) (F':@I),j<=k->@R6->bP P w K mg base ca x ps (k+1) (step F')):∀n,bP P w K mg base ca x ps (j+n) (kx step n)
 | 0=>⟨⟨f,fd,F.mg,F.F.kp,F.b,Hu⟩,λds hn=>(hn rfl).elim⟩
 |n+1=>h (j+n) _ (@Jb) (yh F h n)
end
end L2
namespace L2
open PySem PyProof.Rows
section
variable {X:Cx}{K:Frag}{σ:St}{G H:Hp}{s:Shared}{E:XK}
theorem wQ{α β:Type}{F:α->β->Prop}:∀{l₁:@Bl} {l₂:List β},Paired F l₁ l₂->∀{i:Nat} {a:α} {b:β},l₁[i]? =some a->l₂[i]? =some b->F a b
 |_,_,.nil,_,_,_,e,_=>by simp at e
 |_,_,.cons h t,0,_,_,e,e'=>by simp at e e';subst e e';exact h
 |_,_,.cons h t,i+1,_,_,e,e'=>wQ t (i:=i) (by simpa using e) (by simpa using e')
theorem pC(bt:Nat->Nat->Bool):∀k,argBest bt k<=k
 | 0=>UC _
 |k+1=>by
  unfold argBest
  split
  ·exact UC _
  ·exact Nat.le_succ_of_le (pC bt k)
end
end L2
namespace L2.HM
open PySem PySem.W PySem.Spec PyProof.Rows
structure KV(V:@K->Shared->Prop)(l:Addr)(n:Nat)(Pv:Nat->Value->Prop):Prop where
 get:∀own z,@WU->∀p,p∈own->z.heap.get? p.1=some p.2
 put:∀own own' z h' tk,@WU->(∀b o,b∉own.map (·.1)->z.heap.get? b=some o->h'.get? b=some o)->own'.map (·.1)=own.map (·.1)->(∀p,p∈own'->h'.get? p.1=some p.2/\∀v,p.2.data≠@Qj)->V own' {z with heap:=h',toks:=tk}
 drop:∀own z h' tk,@WU->(∀b o,b∉own.map (·.1)->z.heap.get? b=some o->h'.get? b=some o)->V [] {z with heap:=h',toks:=tk}
 lst:∀own z,@WU->∃its:@e,z.heap.IsList l its.toArray/\its.length=n/\∀i v,its[i]? =some v->Pv i v
 add:∀z oI oS,oI.isFreed=false->oS.isFreed=false->(∀v,oI.data≠@Qj)->(∀v,oS.data≠@Qj)->V [] z->V [((@HC).objs.size,oS),(z.heap.objs.size,oI)] {z with heap:=(@HC).push oS}
section
variable {prog:Program}{w:World}{A:Around}{E:@L}{l q I S:Addr}{n:Nat}{Pv:Nat->Value->Prop}{R:Result->Shared->Prop}{V:@K->Shared->Prop}
theorem D9(k:KV V l n Pv)(kf:Nat->Int)(hh:A.handled=none)(hlI:l≠I)(hSI:S≠I)
  (turn:∀(i:Nat) (v:Value) own z,Pv i v->@WU->wpAny @Ak A.in1 @HP (λx z'=>∃t,x=@Pg/\V own z') (λ_ _=>False) z)
  (hR:∀i v z',Pv i v->(∀j,j<n->kf i<=kf j/\(j<i->kf i<kf j))->V [] z'->R (.ok (.ret v)) z') :
  ∀(r j i:Nat) (z:Shared) (vb:Value) (tb:Tok) (c:Nat) (oI:Obj),n-(j+1)=r->j+1<=n->
   V [(S,seqObj "list" #[vb,@Is] c),(I,oI)] z->z.heap.IsListIter I l (j+1)->Pv i vb->i<=j->(∀j',j'<=j->kf i<=kf j'/\(j'<i->kf i<kf j'))->
   codeAny @Ak A (.builtin "min.loop" ⟨[.ref I,.ref q,.ref S],[]⟩) R z:=by
 have hname:(toString "min"++toString ".loop":String)="min.loop":=by decide
 intro r
 induction r with
 |zero=>
  intro j i z vb tb c oI hr hj hV hit hvb hij hbest
  have hin:j+1=n:=@B
  obtain⟨its,hls,hln,hpv⟩:=@Ym
  have W:=Walks.list (prog:=prog) (w:=w) (A:=A.in1) hh I l hlI its.toArray
  have hsz:its.toArray.size=n:=by rw[UM];exact hln
  have nS:=k.get _ _ hV (S,seqObj "list" #[vb,@Is] c) (@Qm)
  refine WI PySem.F.entry_min_loop ?_
  rw[Wx VS _]
  show wpAny _ A.in1 (seqItems? (.ref S) >>= _) _ _ _
  refine UA (wpAny_seqItems nS rfl ?_)
  show wpAny _ A.in1 (@Se >>= _) _ _ _
  refine UA (WV (W.done _ _ _ ⟨by rw[hsz,<-hin];exact hit,hls⟩ λh' tk' hk'=>?_))
  have hS':=hk' S _ (by simpa using hSI) nS
  show wpAny _ A.in1 (updateSeq S (λ_=>#[]) >>= _) _ _ _
  refine UA ?_
  refine wpAny_updateSeq hS' rfl (UA (wpAny_letGo (U3 ?_)))
  refine hR i vb _ hvb (λj' hj'=>@Wl) (k.drop _ z (h'.update S (Obj.mapSeq λ_=>(#[]:@BC))) tk' hV λb o hb e=>?_)
  have hb1:b≠S:=λz=>hb (by rw[z];exact @Qm)
  have hb2:b≠I:=λz=>hb (by rw[z];exact @Gc)
  exact(VB _ _ (Ne.symm hb1)).trans (hk' b o (by simpa using hb2) e)
 |succ r ih=>
  intro j i z vb tb c oI hr hj hV hit hvb hij hbest
  have hlt:j+1<n:=@B
  obtain⟨its,hls,hln,hpv⟩:=@Ym
  have W:=Walks.list (prog:=prog) (w:=w) (A:=A.in1) hh I l hlI its.toArray
  have hsz:its.toArray.size=n:=by rw[UM];exact hln
  have nS:=k.get _ _ hV (S,seqObj "list" #[vb,@Is] c) (@Qm)
  refine WI PySem.F.entry_min_loop ?_
  rw[Wx VS _]
  show wpAny _ A.in1 (seqItems? (.ref S) >>= _) _ _ _
  refine UA (wpAny_seqItems nS rfl ?_)
  show wpAny _ A.in1 (@Se >>= _) _ _ _
  refine UA (WV (W.item (j+1) _ _ _ (by rw[hsz];exact hlt) ⟨hit,hls⟩ λv h' tk' hP hst' hk'=>?_))
  have hv:Pv (j+1) v:=hpv _ _ (by simpa using hP)
  obtain⟨oI',hoI',hoc,hod⟩:=id hst'.1
  have V1:V [(S,seqObj "list" #[vb,@Is] c),(I,oI')] {z with heap:=h',toks:=tk'}:=k.put _ _ _ _ tk' hV (λb o hb e=>hk' b o (by simpa using λz=>hb (by rw[z];exact @Gc)) e) rfl λp hp=>by
   rcases @SR with rfl|hp
   ·exact⟨hk' S _ (by simpa using hSI) nS,λv z=>by cases z⟩
   ·rw[UP.mp hp];exact⟨hoI',λv z=>by rw[hod]at z;cases z⟩
  show wpAny _ A.in1 (@Sd >>= _) _ _ _
  refine UA (WV (Wr (Vx (turn (j+1) v _ _ hv V1) (λx s'' he=>?_) λ_ _ hF=>hF.elim)))
  obtain⟨t2,rfl,V2⟩:=he
  have nS2:=k.get _ _ V2 (S,seqObj "list" #[vb,@Is] c) (@Qm)
  have nI2:=k.get _ _ V2 (I,oI') (@Gc)
  have hit2:s''.heap.IsListIter I l (j+1+1):=⟨oI',nI2,hoc,hod⟩
  show wpAny _ A.in1 (tryCatch (holding [v,.int (kf (j+1)) t2] (richCompare .Lt (.int (kf (j+1)) t2) (@Is) >>= _)) _ >>= _) _ _ _
  refine UA (WV (Wr (UA (CmpOf.ints_lt (prog:=prog) (w:=w) (A:=A.in1) (P:=λi v=>∃t,v=@Pg) kf (λi v h=>h) (j+1) i _ _ _ _ _ ⟨t2,rfl⟩ ⟨tb,rfl⟩ ?_))))
  refine UA (Wr (VN ?_))
  refine UA (wpAny_letGo (U3 ?_))
  by_cases hb':kf (j+1)<kf i
  ·have s1:=Heap.SameBut.update s''.heap S (Obj.mapSeq λ_=>#[v,.int (kf (j+1)) t2])
   obtain⟨c2,hc2⟩:∃c2,(s''.heap.update S (Obj.mapSeq λ_=>#[v,.int (kf (j+1)) t2])).get? S=some (seqObj "list" #[v,.int (kf (j+1)) t2] c2):=⟨_,get?_update_seq nS2 λ_=>#[v,.int (kf (j+1)) t2]⟩
   simp only[hb',decide_true,V5]
   refine UA ?_
   refine wpAny_updateSeq nS2 rfl (UA (wpAny_letGo ?_))
   rw[hname]
   refine U3 ⟨@Kv,ih (j+1) (j+1) _ v t2 c2 oI' (@B) hlt (k.put _ _ _ _ s''.toks V2 (λb o hb e=>?_) rfl λp hp=>?_) ⟨oI',(s1.2 I hSI.symm).trans nI2,hoc,hod⟩ hv (UC _) λj' hj'=>?_⟩
   ·exact(s1.2 b λz=>hb (by rw[z];exact @Qm)).trans e
   ·rcases @SR with rfl|hp
    ·exact⟨hc2,λv z=>by cases z⟩
    ·rw[UP.mp hp]
     exact⟨(s1.2 I hSI.symm).trans nI2,λv z=>by rw[hod]at z;cases z⟩
   ·by_cases e:j'=j+1
    ·subst e
     exact⟨@B,λ_=>@B ⟩
    ·have hb1:=@Wl
     have hb2:=hb1.1
     exact⟨@B,λ_=>@B ⟩
  ·simp only[hb',decide_false,V4,WL]
   refine UA (wpAny_letGo ?_)
   rw[hname]
   refine U3 ⟨@Kv,ih (j+1) i _ vb tb c oI' (@B) hlt V2 hit2 hvb (@B) λj' hj'=>?_⟩
   by_cases e:j'=j+1
   ·subst e
    exact⟨@B,λ_=>@B ⟩
   ·exact @Wl
def R1{s:Shared}{Q:@L}(k:KV V l n Pv)(kf:Nat->Int)(hh:A.handled=none)(hV:V [] s)(hne:0<n)
  (turn:∀(i:Nat) (v:Value) own z,Pv i v->@WU->wpAny @Ak A.in1 @HP (λx z'=>∃t,x=@Pg/\V own z') (λ_ _=>False) z)
  (hQ:∀i v z',Pv i v->(∀j,j<n->kf i<=kf j/\(j<i->kf i<kf j))->V [] z'->Q v z') :
  wpAny @Ak A (call @JS @SU [(@H_,.ref q)]) Q E s:=by
 have hname:(toString "min"++toString ".loop":String)="min.loop":=by decide
 obtain⟨its0,hls,_,_⟩:=@Ym
 obtain⟨ol,hol,_⟩:=id hls
 have hll:l<s.heap.objs.size:=UK hol
 refine kmk_tree PySem.F.kind_min PySem.F.plain_min PySem.F.entry_min (kmk_min_key _ _) ?_
 show wpAny _ A.in1 (Builtin.Builtins.bindParams "min" ["key","default"] 0 ⟨[],[(@H_,.ref q)]⟩ >>= _) _ _ s
 refine UA (wpAny_of_eq (show Builtin.Builtins.bindParams "min" ["key","default"] 0 ⟨[],[(@H_,.ref q)]⟩=pure [some @N3,none]from rfl) ?_)
 refine UA (U3 ?_)
 refine UA (Ww hls ?_)
 refine UA (wpAny_newList ?_ (Vl _))
 rw[hname]
 have hS:(s.heap.push {cls:=@Em,data:=.fields #[.ref l,@N9]}).objs.size=s.heap.objs.size+1:=VC ..
 have hlI:l≠s.heap.objs.size:=Vc hll
 have hSI:(s.heap.push {cls:=@Em,data:=.fields #[.ref l,@N9]}).objs.size≠s.heap.objs.size:=by rw[hS];exact Nat.ne_of_gt (Nat.lt_succ_self _)
 have V0:=k.add s {cls:=@Em,data:=.fields #[.ref l,@N9]} (seqObj "list" #[] 0) rfl rfl (λv z=>by cases z) (λv z=>by cases z) hV
 generalize hSd:(s.heap.push {cls:=@Em,data:=.fields #[.ref l,@N9]}).objs.size=S at hSI V0
 refine U3 ⟨@Kv,?_⟩
 have gS:=k.get _ _ V0 (S,seqObj "list" #[] 0) (@Qm)
 have gI:=k.get _ _ V0 (s.heap.objs.size,_) (@Gc)
 obtain⟨its,hls0,hln,hpv⟩:=k.lst _ _ V0
 have W:=Walks.list (prog:=prog) (w:=w) (A:=A.in1) hh s.heap.objs.size l hlI its.toArray
 have hsz:its.toArray.size=n:=by rw[UM];exact hln
 refine WI PySem.F.entry_min_loop ?_
 rw[Wx VS _]
 show wpAny _ A.in1 (seqItems? (.ref _) >>= _) _ _ _
 refine UA (wpAny_seqItems gS rfl ?_)
 show wpAny _ A.in1 (tryCatch (pyNext (@AN)) _ >>= _) _ _ _
 refine UA (WV (W.item 0 _ _ _ (by rw[hsz];exact hne) ⟨⟨_,gI,rfl,rfl⟩,hls0⟩ λv h' tk' hP hst' hk'=>?_))
 have hv:Pv 0 v:=hpv _ _ (by simpa using hP)
 obtain⟨oI',hoI',hoc,hod⟩:=id hst'.1
 have V1:=k.put _ [(S,seqObj "list" #[] 0),(s.heap.objs.size,oI')] _ h' tk' V0 (λb o hb e=>hk' b o (by simpa using λz=>hb (by rw[z];exact @Gc)) e) rfl λp hp=>by
  rcases @SR with rfl|hp
  ·exact⟨hk' S _ (by simpa using hSI) gS,λv z=>by cases z⟩
  ·rw[UP.mp hp];exact⟨hoI',λv z=>by rw[hod]at z;cases z⟩
 show wpAny _ A.in1 (@Sd >>= _) _ _ _
 refine UA (WV (Wr (Vx (turn 0 v _ _ hv V1) (λx s'' he=>?_) λ_ _ hF=>hF.elim)))
 obtain⟨t2,rfl,V2⟩:=he
 have nS2:=k.get _ _ V2 (S,seqObj "list" #[] 0) (@Qm)
 have nI2:=k.get _ _ V2 (s.heap.objs.size,oI') (@Gc)
 have s1:=Heap.SameBut.update s''.heap S (Obj.mapSeq λ_=>#[v,@K4])
 obtain⟨c2,hc2⟩:∃c2,(s''.heap.update S (Obj.mapSeq λ_=>#[v,@K4])).get? S=some (seqObj "list" #[v,@K4] c2):=⟨_,get?_update_seq nS2 λ_=>#[v,@K4]⟩
 show wpAny _ A.in1 (updateSeq S (λ_=>#[v,@K4]) >>= _) _ _ _
 refine UA ?_
 refine wpAny_updateSeq nS2 rfl ?_
 rw[hname]
 refine U3 ⟨@Kv,D9 k kf hh hlI hSI turn hQ _ 0 0 _ v t2 c2 oI' rfl hne (k.put _ _ _ _ s''.toks V2 (λb o hb e=>(s1.2 b λz=>hb (by rw[z];exact @Qm)).trans e) rfl λp hp=>?_) ⟨oI',(s1.2 _ hSI.symm).trans nI2,hoc,hod⟩ hv (UC _) λj' hj'=>?_⟩
 ·rcases @SR with rfl|hp
  ·exact⟨hc2,λv z=>by cases z⟩
  ·rw[UP.mp hp]
   exact⟨(s1.2 _ hSI.symm).trans nI2,λv z=>by rw[hod]at z;cases z⟩
 ·have e:j'=0:=@B
  subst e
  exact⟨@B,λh=>absurd h (U8 _)⟩
end
end L2.HM
namespace L2
open PySem PySem.Spec PyProof.Rows
section
variable {X:Cx}{pins:@K}{σ:St}{H:Hp}{l:Addr}{xs:List V}
def R9(X:Cx)(pins:@K)(σ:St)(H:Hp)(own:@K)(z:Shared):Prop:=∃H',Inv X (pins++own) σ H' z/\@Cy/\∀p,p∈own->i2 X pins H' p.1
def OG(hl:H l=@BI):HM.KV (R9 X pins σ H) l xs.length (λi v=>∃x,xs[i]? =some x/\@H8):=by
 refine⟨λown z ⟨H',I,s,f⟩ p hp=>(I.pin p (U0 _ @Xq)).1,?_,?_,?_,?_⟩
 ·rintro own own' z h' tk ⟨H',I,s,f⟩ kk eo hg
  have hf:∀b,b∈own.map (·.1)->@Iz:=λb hb=>by
   obtain⟨p,hp,rfl⟩:=U4.mp hb
   exact f p hp
  have It:=I.unpinned.turnedL (t':=tk) (ch:=own.map (·.1)) kk hf
  have hf':∀p,p∈own'->i2 X pins H' p.1:=λp hp=>hf p.1 (by rw[<-eo];exact U4.mpr ⟨p,hp,rfl⟩)
  refine⟨H',It.pins_of λp hp=>?_,s,hf'⟩
  rcases @Kq with hp|hp
  ·exact It.pin p @Xq
  ·obtain⟨a1,a2,a3,_⟩:=hf' p hp
   exact⟨(hg p hp).1,a1,a2,a3,(hg p hp).2⟩
 ·rintro own z h' tk ⟨H',I,s,f⟩ kk
  have hf:∀b,b∈own.map (·.1)->@Iz:=λb hb=>by
   obtain⟨p,hp,rfl⟩:=U4.mp hb
   exact f p hp
  exact⟨H',by rw[VY];exact I.unpinned.turnedL (t':=tk) (ch:=own.map (·.1)) kk hf,s,λp hp=>by cases hp⟩
 ·rintro own z ⟨H',I,s,f⟩
  obtain⟨its,rv,pl,hz⟩:=I.list (.inl (.inl (s _ _ hl)))
  refine⟨its,pl.isList,rv.length.symm,λi v e=>?_⟩
  have hi:i<xs.length:=by rw[rv.length];exact(Uy.mp e).1
  exact⟨xs[i],UB hi,wQ rv (UB hi) e⟩
 ·rintro z oI oS n1 n2 h1 h2 ⟨H',I,s,f⟩
  rw[VY]at I
  have kp:∀b u,z.heap.get? b=some u->((@HC).push oS).get? b=some u:=λb u e=>@QO
  have I2:Inv X pins σ H' {z with heap:=(@HC).push oS}:=I.kept (t':=z.toks) kp
  have sz:(@HC).objs.size=z.heap.objs.size+1:=VC ..
  have fI:i2 X pins H' z.heap.objs.size:=I.fpOk (UC _) (@Bf)
  have fS:i2 X pins H' (@HC).objs.size:=I.fpOk (by rw[sz];exact @Jj) (I.hok.fresh (by rw[sz];exact @Jj))
  have hf:∀p,p∈ [((@HC).objs.size,oS),(z.heap.objs.size,oI)]->i2 X pins H' p.1:=λp hp=>by
   rcases @SR with rfl|hp
   ·exact fS
   ·rw[UP.mp hp];exact fI
  refine⟨H',I2.pins_of λp hp=>?_,s,hf⟩
  rcases @Kq with hp|hp
  ·exact I2.pin p @Xq
  ·obtain⟨a1,a2,a3,_⟩:=hf p hp
   rcases @SR with rfl|hp
   ·exact⟨UR _ n2,a1,a2,a3,h2⟩
   ·rw[UP.mp hp]at a1 a2 a3 ⊢
    exact⟨Ux _ (UR _ n1),a1,a2,a3,h1⟩
def HI{s:Shared}{q:Addr}{Q:VK}{E:@L}(I:@D)(hh:X.A.handled=none)(hl:H l=@BI)(hne:0<xs.length)(kf:Nat->Int)
  (turn:∀(i:Nat) (x:V) (v:Value) own z H',xs[i]? =some x->@H8->Inv X (pins++own) σ H' z->@Cy->
   wpAny @N X.A.in1 @HP (λu z'=>∃t H'',u=@Pg/\Inv X (pins++own) σ H'' z'/\ay H' H'') (λ_ _=>False) z)
  (hQ:∀i x H',xs[i]? =some x->(∀j,j<xs.length->kf i<=kf j/\(j<i->kf i<kf j))->@Cy->Q x H') :
  wpAny @N X.A (call @JS @SU [(@H_,.ref q)]) @BE E s:=by
 refine HM.R1 (OG (X:=X) (pins:=pins) (σ:=σ) hl) kf hh ⟨H,by rw[VY];exact I,@A6,λp hp=>by cases hp⟩ hne ?_ ?_
 ·rintro i v own z ⟨x,ex,rx⟩ ⟨H',I',s',f'⟩
  refine Vx (turn i x v own z H' ex rx I' s') (λu z' ⟨t,H'',e,I'',s''⟩=>⟨t,e,H'',I'',s'.trans s'',λp hp=>?_⟩) λ_ _ h=>h
  obtain⟨a1,a2⟩:=f' p hp
  exact⟨(I''.pin p (U0 _ @Xq)).2.1,a2⟩
 ·rintro i v z' ⟨x,ex,rx⟩ hb ⟨H',I',s',_⟩
  rw[VY]at I'
  exact⟨x,H',I',rx,hQ i x H' ex hb s'⟩
end
abbrev Lf(X:Cx)(qual:Str)(scope:Scope)(C q:Addr)(cdv:Value):Env:=PySem.W.envX qual scope C q cdv (@m)
def Cg(X:Cx)(A:Around)(NB:@a)(qual:Str)(scope:Scope)(q:Addr)(cdv:Value)(s3:Shared)(H3:Hp)(pn:@K):Cx:=
 {X with A:=A.deeper (@GI),N:=NB,s₀:=s3,H₀:=H3,env:=@GI,outer:=X.stack,stack:=@GI::X.stack,ex:=[],fn:=λ_=>false,pn:=pn,xe:=λ_ _=>False}
section
variable {X:Cx}{NB:@a}{ixs:@c}{scope:Scope}{pins:@K}{σ:St}{H:Hp}{s:Shared}
def DM{A:Around}{qual:Str}{q:Addr}{cdv:Value}{y:Str}{v:V}{u:Value}(S:@O9)(nc:∀y∈scope.names,y.2≠.cell)(I:@D)(hA:A.frames=@Yu)(hh:A.handled=none)(hy:NB[0]? =some y)(hloc:@EC=@Ae)(rv:@Fw){h1:Heap}{tk:Nat}
  (hn:h1.Ns s.heap.objs.size (λx=>[(y,u)].reverse.lookup x)) (hk:∀b o,s.heap.get? b=some o->h1.get? b=some o) :
  Inv (Cg X A NB qual scope q cdv s H (X.pn++pins)) [] (some v::ixs.map λi=>(σ[i]?).join) H {s with heap:=h1,toks:=tk}:=by
 have stk:=I.stack
 have frees:∀{x:Str},(x,NameKind.free)∈scope.names->∃c,@x=some c:=λ{x} hx=>@Ry
 have clE:∀{x:Str} {c:Addr},(@m).lookup x=some c->(x,NameKind.free)∈scope.names/\@x=some c:=λ{x c} h=>by
  rcases lL h with⟨a,b⟩|a
  ·obtain⟨c',e⟩:=frees a
   rw[e]at b
   exact⟨a,by rw[e,b];rfl⟩
  ·simp at a
 have isFree:∀{x:Str},(@Cm=@B8\/@Cm=@Hj)->(x,NameKind.free)∈scope.names:=λ{x} h=>by
  rcases h with h|h
  ·exact absurd rfl (nc _ (Vt h))
  ·exact Vt h
 have neN:∀b o,s.heap.get? b=some o->b≠s.heap.objs.size:=λb o e=>@P6
 have noA:∀b:Addr,b∉(Cg X A NB qual scope q cdv s H (X.pn++pins)).ex:=λb z=>absurd (show b∈([]:@Ao)from z) @W
 have ok:(Cg X A NB qual scope q cdv s H (X.pn++pins)).Ok:=
  ⟨I.ok.mod,S.kind,rfl,rfl,UC _,λx y c h1 h2=>I.ok.inj x y c (clE h1).2 (clE h2).2,λx hx=>⟨_,oZ (.inl (isFree hx))⟩,λx c h=>(by cases h),λ_=>hh,Around.frames_deeper hA,.inr @IO,λb hb=>absurd hb (noA b),I.bs,@R2,λb _ _=>noA b,λb hb=>absurd hb (noA b),stk,I.stkFree⟩
 refine⟨ok,rfl,I.bare,Un.kept hk,⟨_,hn,λi x v' h1' h2' h3'=>?_⟩,λx c h=>?_,@Bf,λx c h=>I.freeC x c (clE h).2,λp hp=>?_,I.hok.kept hk,?_⟩
 ·have h1':NB[i]? =some x:=h1'
  cases i with
  |zero=>
   rw[hy]at h1'
   cases h1'
   have h2':some v=some v':=by simpa using h2'
   cases h2'
   exact⟨u,rv,.inl ⟨hloc,by simp⟩⟩
  |succ k=>
   have hk':k<ixs.length:=by
    have:=(Uy.mp h1').1
    rw[S.len]at this;omega
   obtain⟨e1,e2⟩:=S.at' k hk'
   rw[Nat.add_comm 1 k]at e1 e2
   have hm:=e2 x h1'
   rw[List.getElem?_cons_succ,UN,UB hk']at h2'
   simp only[W3,Option.some.injEq]at h2'
   have hix:@Nu=ixs[k]:=by simp[hk']
   have hσ:σ[ixs[k]]? =some (some v'):=by
    cases e:σ[ixs[k]]? with
    |none=>rw[e]at h2';cases h2'
    |some o=>rw[e]at h2';simp at h2';rw[h2']
   rw[e1,hix]at h1'
   have hkind:=S.frees _ hm rfl
   have hvis:@Ca:=hkind.elim (λz=>.inr (.inl z)) (λz=>.inr (.inr z))
   obtain⟨m,hm',hl⟩:=I.loc
   obtain⟨u',r,look⟩:=hl _ x v' h1' hσ hvis
   refine⟨u',r,.inr ⟨.inr (@YV),?_⟩⟩
   rcases look with⟨z,_⟩|⟨_,c,hc,hcell⟩
   ·rcases hkind with q|q
    ·rw[q]at z;cases z
    ·rw[q]at z;cases z
   ·refine⟨c,?_,?_⟩
    ·have:=oZ (cells:=X.env.cells) (cs:=[]) (.inl hm)
     rw[hc]at this
     exact this
    ·obtain⟨o,ho,hd⟩:=hcell
     exact⟨o,@Yh,hd⟩
 ·obtain⟨v,o,ho,hd⟩:=I.cell x c (clE h).2
  exact⟨v,o,@Yh,hd⟩
 ·have hp':p∈X.pn++pins:=by
   rcases @Kq with z|z
   ·exact z
   ·cases z
  obtain⟨e,n,ne,nf,d⟩:=I.pin p hp'
  refine⟨hk _ _ e,n,neN _ _ e,λz=>?_,d⟩
  rcases UD.mp (I.stkSub _ z)with q|q
  ·exact ne q
  ·exact nf q
 ·show(some v::ixs.map λi=>(σ[i]?).join).length=NB.length
  rw[S.len];simp;omega
end
def DV{prog:Program}{w:World}{A:Around}{R:Result->Shared->Prop}{s:Shared}{a:Addr}{args:Args}{o:Obj}{fd:FuncData}{body:Expr}{qn:Str}(hroom:A.depth<recursionLimit)
  (ho:s.heap.get? a=some o)
  (hd':o.data=.func fd) (hco:fd.scope.isCoroutine=false) (hgen:fd.scope.isGenerator=false) (hbody:fd.body=.expr body) (hcd:s.heap.CodeRec fd.code qn)
  (h:wpAny @Ak A.in1 (bindArgs fd args) (λbinds s₁=>
   wpAny @Ak A.in1 (newFunctionEnv fd.scope fd.globals fd.closure binds (qn++".<locals>.") (some a) fd.code none fd.builtins)
    (λenv s₂=>s₂.heap.NoLimit/\codeAny @Ak A (.expr body env) R s₂) (λe s'=>R (.error e) s') s₁) (λe s'=>R (.error e) s') s) :
  codeAny @Ak A (.call @BU args) R s:=by
 refine codeAny_of_tree ?_
 show wpAny _ A.in1 (callAny @BU args) _ _ s
 simp only[callAny]
 refine UA (wpAny_load ho ?_)
 obtain⟨c,oc,vs,tq,hc,hoc,hdc,hq⟩:=hcd
 simp only[hd',callFunction,hco,hgen,hbody,hc]
 rw[hc]at h
 refine UA (m:=field @SC 1) (V9 hoc hdc hq (UA (U3 ?_)))
 exact UA (Vx h (λbinds s₁ h₁=>UA (Vx h₁ (λenv s₂ h₂=>UA (wpAny_enterFrame h₂.1 hroom
  (U3 (And.intro rfl h₂.2)))) λ_ _ h'=>h')) λ_ _ h'=>h')
section
variable {X:Cx}{NB:@a}{ixs:@c}{scope:Scope}{pins:@K}{σ:St}{H:Hp}{s:Shared}
def HJ{A:Around}{name qual:Str}{params:Arguments}{body:Expr}{pm ctv:Value}{q c':Addr}{y:Str}{v:V}{u:Value}{te:TE}{Q:VK}{qn:Str}
  (S:@O9) (nc:∀y∈scope.names,y.2≠.cell) (hco:scope.isCoroutine=false) (hgen:scope.isGenerator=false) (I:@D) (hA:A.frames=@Yu) (hh:A.handled=none) (hd:A.depth<recursionLimit) (hy:NB[0]? =some y) (hloc:@EC=@Ae) (rv:@Fw)
  (ho:s.heap.get? q=some @IS) (hcd:s.heap.CodeRec (@S4) qn)
  (hb:@B2=pure [(y,u)])
  (he:PE (Cg X A NB qn scope q (@S4) s H (X.pn++pins)) body te) (h:te (some v::ixs.map λi=>(σ[i]?).join) H Q) :
  wpAny @N A (call @N3 [u]) @BE (λ_ _=>False) s:=by
 refine wpAny_call ?_
 refine DV hd ho rfl hco hgen rfl hcd ?_
 rw[hb]
 refine U3 (wpAny_newFunctionEnv nc (λx hx=>by rw[UP]at hx;rw[hx];exact hloc) (λh1 hn hsb=>?_) S.kind)
 have hk:∀b o,s.heap.get? b=some o->h1.get? b=some o:=λb o e=>hsb.extBut b o (@P6) (Ux _ e)
 have lim:s.heap.NoLimit:=I.ok.mod.nolimit.keeps λb o e=>I.bk b o e
 refine⟨lim.keeps hk,?_⟩
 show codeAny _ _ (.expr body (Lf X qn scope s.heap.objs.size q (@S4))) _ _
 refine PySem.W.kla_codeExpr ?_
 have I':=DM (qual:=qn) (q:=q) (cdv:=@S4) (tk:=s.toks+[(y,u)].length) S nc I hA hh hy hloc rv hn hk
 refine Vx (he [] _ _ H Q I' h) (λu' s' ⟨x,H',I2,rx,qx⟩=>?_) λe s' hx=>hx.elim
 exact I.after ⟨x,H',I2.os,I2.bare,I2.base,I2.hok,rx,qx⟩
end
def O5(X:Cx)(kr:St->V->V->Hp->VK->Prop):Prop:=∀(pins:@K) (s:Shared) (σ:St) (H:Hp) (q:Addr) (x:V) (u:Value) (Q:VK),@D->@Iu->kr σ @N3 x H Q->wpAny @N X.A.in1 (call @N3 [u]) @BE (λ_ _=>False) s
def PL(kr:St->V->V->Hp->VK->Prop)(ta tl:TE):TE:=λσ H Q=>ta σ H λx H1=>tl σ H1 λf H2=>∃(l q:Addr) (xs:List V) (kf:Nat->Int),x=.ref l/\f=.ref q/\H2 l=@BI/\0<xs.length/\
 (∀(i:Nat) (y:V) (H':Hp),xs[i]? =some y->ay H2 H'->kr σ @N3 y H' λw H''=>w=.int (kf i)/\ay H' H'')/\
 ∀(i:Nat) (y:V) (H':Hp),xs[i]? =some y->(∀j,j<xs.length->kf i<=kf j/\(j<i->kf i<kf j))->ay H2 H'->Q y H'
section
variable {X:Cx}{a lam:Expr}{ta tl:TE}{p pos kp:Pos}{kr:St->V->V->Hp->VK->Prop}
theorem Eh(hc:X.calm=true)(hg:Gl X "min")(hm:X.mg "min"=none)(hkr:O5 X kr)(ha:@FH)(hl:PE X lam tl)(hv:bootBuiltins "min"=some @JS:=by decide +kernel)
  (he:@A_=(false,@AZ)::@An:=by rfl):PE X @I4 (PL kr ta tl):=by
 intro pins s σ H Q I h
 refine Wk (lq I hg hm hv ?_ @S)
 let K2:V->V->Hp->Prop:=λx f H2=>∃(l q:Addr) (xs:List V) (kf:Nat->Int),x=.ref l/\f=.ref q/\H2 l=@BI/\0<xs.length/\
  (∀(i:Nat) (y:V) (H':Hp),xs[i]? =some y->ay H2 H'->kr σ @N3 y H' λw H''=>w=.int (kf i)/\ay H' H'')/\
  ∀(i:Nat) (y:V) (H':Hp),xs[i]? =some y->(∀j,j<xs.length->kf i<=kf j/\(j<i->kf i<kf j))->ay H2 H'->Q y H'
 let QK:V->List V->Hp->Prop:=λx fs H2=>match fs with
  | [f]=>K2 x f H2
  |_=>False
 let QA:List V->Hp->Prop:=λvs H1=>match vs with
  | [x]=>Ds tl JM σ H1 (QK x)
  |_=>False
 have h':Ds ta JM σ H QA:=h
 refine callWith_kw (cK (aw ha aZ he pos pins s σ H QA I h') λus s1 ⟨vs,H1,I1,r1,q1⟩=>?_) (by rw[he];rfl) (by rw[he];rfl) rfl rfl
 match vs,r1,q1 with
 | [],_,q1=>exact q1.elim
 |_::_::_,_,q1=>exact q1.elim
 | [x],r1,q1=>
  refine cK (JP hl Nh pos pins s1 σ H1 (QK x) I1 q1) λws s2 ⟨zs,H2,I2,rz,q2⟩=>?_
  match zs,rz,q2 with
  | [],_,q2=>exact q2.elim
  |_::_::_,_,q2=>exact q2.elim
  | [f],rz,q2=>
   obtain⟨l,q,xs,kf,rfl,rfl,hL,hne,hk,hQ⟩:=q2
   obtain⟨u,rfl,ru⟩:=vals1 r1
   obtain⟨uf,rfl,rf⟩:=vals1 rz
   cases ru
   cases rf
   show wpAny @N X.A (call @JS @SU [(@H_,.ref q)]) @BE _ s2
   refine HI I2 (I2.ok.hd hc) hL hne kf (λi x v own z H' ex rx I' s'=>?_) λi x H' ex hb s'=>hQ i x H' ex hb s'
   refine Vx (hkr (pins++own) z σ H' q x v _ I' rx (hk i x H' ex s')) (λu' z' ⟨w,H'',I'',rw',e,s''⟩=>?_) λ_ _ hF=>hF
   subst e
   obtain⟨t,rfl⟩:=rw'
   exact⟨t,H'',rfl,I'',s''⟩
end
section
variable {X:Cx}{NB:@a}{ixs:@c}{scope:Scope}
def AL(X:Cx)(params:Arguments)(body:Expr)(scope:Scope)(q:Addr)(H:Hp):Prop:=∃(name qual:Str) (pm ctv:Value) (c':Addr) (oc:Obj),
 H q=some (.bj @IS @Vw)/\H c'=some @GX/\LF oc
def AL.step{params:Arguments}{body:Expr}{q:Addr}{H H':Hp}(h:@Tz)(s:@Cy):@S7:=by
 obtain⟨name,qual,pm,ctv,c',oc,h1,h2,h3⟩:=h
 exact⟨name,qual,pm,ctv,c',oc,s _ _ h1,s _ _ h2,h3⟩
def Uo(X:Cx)(params:Arguments)(body:Expr)(scope:Scope)(ixs:@c)(te:TE):St->V->V->Hp->VK->Prop:=λσ f x H Q=>∃q,f=.ref q/\@Tz/\te (some x::ixs.map λi=>(σ[i]?).join) H Q
def LL{params:Arguments}{body:Expr}{y:Str}{te:TE}(S:@O9)(nc:∀y∈scope.names,y.2≠.cell)(hco:scope.isCoroutine=false)(hgen:scope.isGenerator=false)(hc:X.calm=true)(hd:X.A.in1.depth<recursionLimit)(hy:NB[0]? =some y)(hloc:@EC=@Ae)
  (hb:∀(name qual:Str) (pm ctv:Value) (c':Addr) (u:Value),@B2=pure [(y,u)])
  (he:∀qn q c' s H pn,PE @LK body te):O5 X (Uo X params body scope ixs te):=by
 rintro pins s σ H q x u Q I rx ⟨q',e,⟨name,qual,pm,ctv,c',oc,h1,h2,vs,qn,t,d1,d2⟩,h⟩
 cases e
 have g1:=(I.hok _ _ h1).1
 have g2:=(I.hok _ _ h2).1
 exact HJ S nc hco hgen I I.env0.in1.frames (@DV) hd hy hloc rx g1 ⟨c',oc,vs,t,rfl,g2,d1,d2⟩ (hb name qual pm ctv c' u) (he qn q c' s H _) h
end
def QC(X:Cx)(Tb:Hp->Prop)(params:Arguments)(body:Expr)(scope:Scope):TE:=λσ H Q=>Tb H/\∀q H',@Cy->@S7->Q @N3 H'
def nA(fb:VF D)(dr:D)(β:Int)(d:D):@Bm:=match fb [.da d,.da dr] β with
 | .ok (.int k) _=>some k
 |_=>none
def AH(ks:@E):Nat:=argBest (λi j=>decide (@GT<@E1)) (ks.length-1)
def CT(ir:Nat)(fa fb:VF D):VF D:=λvs β=>(@AU).bnd λx β1=>match x,dat vs[ir]? with
 | .list ds,some dr=>if 0<ds.length/\ds.all (λd=>(@G_).isSome)=true then R.of ds[AH (ds.map λd=>(@G_).getD 0)]? β1 else .bad
 |_,_=>.bad
def vn{ks:@E}(h:0<ks.length):AH ks<ks.length/\∀i,i<ks.length->(∀j,j<ks.length->@GT<=@E1/\(j<i->@GT<@E1))->i=AH ks:=by
 have h1:=pC (λi j=>decide (@GT<@E1)) (ks.length-1)
 refine⟨by unfold AH;omega,λi hi hb=>?_⟩
 have first:∀n:Nat,n<ks.length->∀j,j<=n->ks.getD (argBest (λi j=>decide (@GT<@E1)) n) 0<=@E1/\(j<argBest (λi j=>decide (@GT<@E1)) n->ks.getD (argBest (λi j=>decide (@GT<@E1)) n) 0<@E1):=by
  intro n
  induction n with
  |zero=>
   intro _ j hj
   have:j=0:=@B
   subst this
   exact⟨Int.le_refl _,λz=>absurd z (U8 _)⟩
  |succ n ih=>
   intro hn j hj
   have ihn:=ih (@B)
   have le:=pC (λi j=>decide (@GT<@E1)) n
   unfold argBest
   by_cases c:ks.getD (n+1) 0<ks.getD (argBest (λi j=>decide (@GT<@E1)) n) 0
   ·rw[Uz (UH c)]
    by_cases e:j=n+1
    ·subst e;exact⟨Int.le_refl _,λz=>absurd z (U8 _)⟩
    ·have:=(ihn j (@B)).1
     exact⟨@B,λ_=>@B ⟩
   ·rw[UJ (by rw[UU];exact c)]
    by_cases e:j=n+1
    ·subst e;exact⟨@B,λz=>@B ⟩
    ·exact ihn j (@B)
 have hB:=first (ks.length-1) (@B)
 show i=argBest _ (ks.length-1)
 generalize argBest (λi j=>decide (@GT<@E1)) (ks.length-1)=b at hB h1
 have a1:=hB i (@B)
 have a2:=hb b (@B)
 rcases Nat.lt_trichotomy i b with z|z|z
 ·have:=a1.2 z;omega
 ·exact z
 ·have:=a2.2 z;omega
section
variable {X:Cx}{Γ:Fx}{E:XK}{a lam:Expr}{fa fb:VF D}{La Lb:@c}{ma mb:Md}{p pos kp:Pos}{NB:@a}{scope:Scope}{params:Arguments}{body:Expr}{y:Str}{ir:Nat}{Tb:Hp->Prop}
theorem DT(hc:X.calm=true)(hK:X.K=Γ.K)(hg:Gl X "min")(hm:X.mg "min"=none)(ha:@Gw)(hl:PE X lam (QC X Tb params body scope))(hT:∀(B:@i) (G H:Hp) σ env β,@b->Tb H)
  (S:bO X NB 1 [ir] scope) (nc:∀y∈scope.names,y.2≠.cell) (hco:scope.isCoroutine=false) (hgen:scope.isGenerator=false) (hd:X.A.in1.depth<recursionLimit) (hy:NB[0]? =some y) (hloc:@EC=@Ae)
  (hb:∀(name qual:Str) (pm ctv:Value) (c':Addr) (u:Value),@B2=pure [(y,u)])
  (he:∀H0 G0 qn q c' s H pn,SE @LK (Γ.gB H0 G0 [] (λ_=>false) none) E0 body fb Lb .v)
  (hst:@A_=(false,@AZ)::@An:=by rfl):SE X Γ E @I4 (CT ir fa fb) La .v:=by
 let te:TE:=λσ H Q=>∃H0 G0,pT (Γ.gB H0 G0 [] (λ_=>false) none) E0 fb Lb .v σ H Q
 have hkr:=LL (te:=te) S nc hco hgen hc hd hy hloc hb λqn q c' s H pn pins s' σ' H' Q I ⟨H0,G0,h⟩=>he H0 G0 qn q c' s H pn pins s' σ' H' Q I h
 refine PE.post' (Eh hc hg hm hkr ha hl (he:=hst)) λσ H Q ⟨env,G,B,β,I,o⟩=>?_
 refine⟨env,G,B,β,I,o.bnd.imp λd1 β1 h x G1 H1 I1 s1 m1 vx=>?_⟩
 refine⟨hT B G1 H1 σ _ β1 I1,λq H2 s2 hlam=>?_⟩
 cases d1 with
 |list ds=>
  cases edr:dat (@p)[ir]? with
  |none=>rw[edr]at h;exact h.elim
  |some dr=>
  rw[edr]at h
  dsimp only at h
  by_cases hz:0<ds.length/\ds.all (λd=>(@G_).isSome)=true
  case neg=>rw[UJ hz]at h;exact h.elim
  rw[Uz hz]at h
  obtain⟨d,ed,k⟩:=h.of
  have vx:Rp Γ.K G1 x @Ej:=vx
  cases vx with
  | @lst l xs _ hq r=>
  have hl2:H2 l=@BI:=s2 _ _ (I1.sub _ _ hq)
  have hlen:=r.len
  refine⟨l,q,xs,λi=>(ds.map λd=>(@G_).getD 0).getD i 0,rfl,rfl,hl2,@B,λi y H' ey s'=>?_,λi y H' ey hbest s'=>?_⟩
  ·refine⟨q,rfl,hlam.step s',H',H',?_⟩
   obtain⟨di,edi,rdi⟩:=r.at' ey
   have sH:@ML:=s2.trans s'
   have ry:Rp Γ.K H' y di:=rdi.mono (@TD)
   have e1:(vl (@JN))[ir]? =some (.da dr):=by rw[eN];exact join_some edr
   obtain⟨v,hv,rv⟩:∃v,σ[ir]? =@Fd/\Rp Γ.K H' v dr:=by
    rcases Iv e1 with z|z|z
    ·obtain⟨v,w1,w2⟩:=@UR
     exact⟨v,w1,w2.mono (@TD)⟩
    ·obtain⟨c,w1,w2,w3,w4,w5⟩:=@UR
     exact⟨_,w1,(o4.rpH (B:=B) @Us I1.sub).mono sH⟩
    ·obtain⟨_,c,w1,w4,_,w5⟩:=@UR
     exact⟨_,w1,(o4.rpH (B:=B) @Us I1.sub).mono sH⟩
   have J:SR (Γ.gB H' H' [] (λ_=>false) none) none H' H' (some y::[ir].map λi=>(σ[i]?).join) [.fz di,.fz dr] β1:=by
    refine⟨@A6,@A6,λb _ h=>h,λb o e _=>Kt.of e,(λb hb=>by cases hb),λb e=>e,(λb e=>by cases e),rfl,λi t e=>?_,λi j c d1 d2 e=>?_⟩
    ·match i,e with
     | 0,e=>cases e;exact⟨y,rfl,ry⟩
     | 1,e=>cases e;exact⟨v,by simp[hv],rv⟩
     |i+2,e=>simp at e
    ·match i,e with
     | 0,e=>cases e
     | 1,e=>cases e
     |i+2,e=>simp at e
   refine⟨_,H',none,β1,J,?_⟩
   show Out _ _ (@XV) _
   have hs:=Ve.mp hz.2 di (U1 edi)
   have ek:(ds.map λd=>(@G_).getD 0).getD i 0=(nA fb dr β1 di).getD 0:=by
    rw[U2,UN,edi];rfl
   cases ef:@XV with
   |exc c=>unfold nA at hs;rw[ef]at hs;cases hs
   |bad=>unfold nA at hs;rw[ef]at hs;cases hs
   |ok dk β'=>
    unfold nA at hs
    rw[ef]at hs
    cases dk with
    |int kk=>
     intro w G'' H'' J2 _ _ vo
     have vo:Rp Γ.K G'' w (.int kk):=vo
     cases vo
     have e2:nA fb dr β1 di=some kk:=by unfold nA;rw[ef]
     exact⟨by dsimp only;rw[ek,e2];rfl,λb o e=>J2.keep b o e (by intro z;cases z)⟩
    |_=>cases hs
  ·have hks:(ds.map λd=>(@G_).getD 0).length=ds.length:=Uw ..
   have hi:i<xs.length:=(Uy.mp ey).1
   have ei:=(vn (ks:=ds.map λd=>(@G_).getD 0) (@B)).2 i (@B) λj hj=>hbest j (@B)
   rw[<-ei]at ed
   obtain⟨y',ey',ry⟩:=r.at ed
   rw[ey]at ey'
   cases ey'
   have sH:@ML:=s2.trans s'
   exact k y G1 H' (I1.ext ⟨sH,@A6,@TD,λ_ _=>rfl⟩) s1 (m1.trans (sH.mov B)) ry
 |_=>exact h.elim
end
section
variable {X:Cx}{pins:@K}{σ:St}{H:Hp}{s:Shared}
def Inv.grow{P c':Addr}{ps more:@BC}{oc:Obj}{h':Heap}{tk:Nat}(I:@D)(hP:H P=@RE)(hx:Heap.ExtBut P s.heap h')(htb:h'.get? P=some (PySem.W.tabObj (ps++more)))(hge:s.heap.objs.size<=c')(hoc:h'.get? c'=some oc) :
  Inv X pins σ (upd (upd H P (.tbl (ps++more))) c' @GX) {s with heap:=h',toks:=tk}:=by
 have lt:∀{b:Addr} {o:HO},H b=some o->b≠c':=λ{b o} e z=>by
  have:=I.hok.lt e
  rw[z]at this
  exact U8 _ (UZ this hge)
 have lts:∀{b:Addr} {o:Obj},s.heap.get? b=some o->b≠c':=λ{b o} e z=>by
  have:=UK e
  rw[z]at this
  exact U8 _ (UZ this hge)
 have nP:∀{b:Addr},H b=none->b≠P:=λ{b} e z=>by rw[z,hP]at e;cases e
 have up:∀{b:Addr} {o:HO},H b=some o->b≠P->upd (upd H P (.tbl (ps++more))) c' @GX b=some o:=λ{b o} e n=>by rw[aJ (lt e),aJ n];exact e
 refine I.step (g':=s.gens) (d':=s.drawn) (t':=tk) (ch:=[]) (λ_ z=>nomatch z) (λb o _ _ _ e n=>hx b o (nP n) e) (λb o _ _ _ e n=>⟨o.slots,hx b o (nP n) e⟩) (λb o _ e n=>by rw[aJ (lts e),aJ (nP n)];exact n) (λb o _ e=>?_)
  (λb xs e=>up e λz=>by rw[z,hP]at e;cases e) (λb o u e=>up e λz=>by rw[z,hP]at e;cases e) (λb ps' e=>?_) (λm hn=>hn.extBut hx (nP I.free)) (λb u e=>?_) I.bare
 ·by_cases z:b=P
  ·rw[z];exact⟨_,htb⟩
  ·exact⟨o,hx b o z e⟩
 ·by_cases z:b=P
  ·subst z
   rw[hP]at e
   cases e
   exact⟨more,by rw[aJ (lt hP),aE]⟩
  ·exact⟨#[],by rw[up e z];simp⟩
 ·by_cases zc:b=c'
  ·subst zc
   rw[aE]at e
   cases e
   exact⟨hoc,oc,hoc⟩
  ·rw[aJ zc]at e
   by_cases z:b=P
   ·subst z
    rw[aE]at e
    cases e
    exact htb
   ·rw[aJ z]at e
    refine(I.hok b u e).stay (λb' u' hb' q=>hx b' u' (λzz=>?_) q) (λb' q=>up q λzz=>by rw[zz,hP]at q;cases q) λb' xs q=>?_
    ·rcases hb' with rfl|hb'
     ·exact z zz
     ·rw[zz,hP]at hb';cases hb'
    ·rcases q with q|⟨o,q⟩
     ·exact .inl (up q λzz=>by rw[zz,hP]at q;cases q)
     ·exact .inr ⟨o,up q λzz=>by rw[zz,hP]at q;cases q⟩
def ay.grow_tbl{P c':Addr}{ps:@BC}{oc:Obj}{l k:Value}(hP:H P=@RE)(hc:H c'=none)(hi:LF oc)(hl:∃i t,l=@ON)(hk:∃i t,k=@ON):ay H (upd (upd H P (.tbl (ps ++ #[l,k,@S4]))) c' @GX):=by
 obtain⟨il,tl,rfl⟩:=hl
 obtain⟨ik,tk,rfl⟩:=hk
 intro b o e
 have nc:b≠c':=λz=>by rw[z,hc]at e;cases e
 have Pc:P≠c':=λz=>by rw[z,hc]at hP;cases hP
 by_cases z:b=P
 ·subst z
  rw[hP]at e
  cases e
  refine⟨#[.int il tl,.int ik tk,@S4],by rw[aJ nc,aE],trivial,λc hcm=>?_⟩
  have:c=c':=by
   simp only[UD,Vf,VW]at hcm
   rcases hcm with z|z|z
   ·cases z
   ·cases z
   ·cases z;rfl
  subst this
  exact⟨oc,aE,hi⟩
 ·exact Kt.of (by rw[aJ nc,aJ z];exact e)
end
theorem Gs:∀{l:@e},Jl l->TriplesOk l
 | [],_=>trivial
 | .int _ _::.int _ _::.ref _::r,h=>Gs (l:=r) h
theorem CS{pos:Pos}{cv:Value}:∀{l:@e},Jl l->codeAmong pos l=some cv->∃c,cv=.ref c/\Value.ref c∈l
 | [],_,h=>by cases h
 | .int a b::.int c d::.ref e::r,h,hc=>by
  unfold codeAmong at hc
  split at hc
  ·cases hc;exact⟨e,rfl,by simp⟩
  ·obtain⟨c,e1,e2⟩:=CS (l:=r) h hc
   exact⟨c,e1,by simp[e2]⟩
def CI(P:Addr)(H:Hp):Prop:=∃ps,H P=@RE/\Jl ps.toList/\∀c,Value.ref c∈ps.toList->∃o,H c=some (.bj o @Vw)/\LF o
section
variable {X:Cx}{NB:@a}{own:Nat}{ixs:@c}{scope:Scope}{params:Arguments}{body:Expr}{pos:Pos}{c P:Addr}
theorem MV(S:@BK)(hdef:defaultsOf params X.env=([],[]))(hcode:X.env.code=.ref c)(C:PySem.W.CodeHd X.base c P)(hb:X.base.BuiltinsAt X.mg P)(hgP:mainGlobals≠P):PE X (.Lambda params body scope pos) (QC X (CI P) params body scope):=by
 rintro pins s σ H Q I ⟨⟨ps,hP,htr,hrefs⟩,h⟩
 refine PySem.W.kla_eval hdef ?_
 have hcl:closureFor scope X.env=pure (@m):=mW λy hy e=>@GG
 have hb':s.heap.BuiltinsAt X.mg P:=by
  obtain⟨bm,o,b1,b2,b3,b4,b5,b6⟩:=hb
  exact⟨bm,o,b1,b2,b3,b4,I.bk _ _ b5,b6⟩
 cases hca:codeAmong pos ps.toList with
 |none=>
  refine PySem.W.kla_makeFunction hcl I.ok.glob (@GF) hcode (C.keeps I.bk) (I.hok P _ hP) (Gs htr) hca hgP hb' λc' ctv h' tk hx hge hlt hrec htb=>?_
  obtain⟨c2,oc,vs,t,e2,hoc,hd,hv⟩:=hrec
  cases e2
  have I1:=I.grow (tk:=tk) hP hx htb hge hoc
  have hc0:H c'=none:=I.hok.fresh hge
  have sm:=ay.grow_tbl (l:=rawInt pos.line) (k:=rawInt pos.col) hP hc0 (oc:=oc) ⟨vs,_,t,hd,hv⟩ @CT @CT
  generalize hH1:upd (upd H P (.tbl (ps ++ #[rawInt pos.line,rawInt pos.col,@S4]))) c' @GX=H1 at I1 sm
  have ec:H1 c'=some @GX:=by rw[<-hH1,aE]
  have ff:H1 h'.objs.size=none:=@HU
  have I2:=I1.laid (a:=h'.objs.size) (o:=.bj (PySem.W.kla_obj "<lambda>" (X.env.qual++"<lambda>") params body scope (@m) ((@Nm).getD .none) c' ctv) @Vw) (t':=tk) (h':=h'.push (PySem.W.kla_obj "<lambda>" (X.env.qual++"<lambda>") params body scope (@m) ((@Nm).getD .none) c' ctv)) (λb u e=>Ux _ e) (UC _) ⟨@Gq,_,@Gq ⟩
  exact⟨@Qq,_,I2,rfl,h _ _ (sm.trans (ay.new ff)) ⟨_,_,_,_,c',oc,aE,by rw[aJ (aO ec ff)];exact ec,vs,_,t,hd,hv⟩⟩
 |some cv=>
  obtain⟨c',rfl,hm⟩:=CS htr hca
  obtain⟨oc,ec,hi⟩:=hrefs c' hm
  refine PySem.W.kla_makeFunctionHit hcl I.ok.glob (@GF) hcode (C.keeps I.bk) (I.hok P _ hP) (Gs htr) hca hb' λctv h' tk hk hsz=>?_
  have I1:Inv X pins σ H {s with heap:=h',toks:=tk}:=I.kept (t':=tk) hk
  have ff:H h'.objs.size=none:=@HU
  have I2:=I1.laid (a:=h'.objs.size) (o:=.bj (PySem.W.kla_obj "<lambda>" (X.env.qual++"<lambda>") params body scope (@m) ((@Nm).getD .none) c' ctv) @Vw) (t':=tk) (h':=h'.push (PySem.W.kla_obj "<lambda>" (X.env.qual++"<lambda>") params body scope (@m) ((@Nm).getD .none) c' ctv)) (λb u e=>Ux _ e) (UC _) ⟨@Gq,_,@Gq ⟩
  exact⟨@Qq,_,I2,rfl,h _ _ (ay.new ff) ⟨_,_,_,_,c',oc,aE,by rw[aJ (aO ec ff)];exact ec,hi⟩⟩
end
def CI.mono{P:Addr}{G G':Hp}(h:CI P G)(s:@CL):CI P G':=by
 obtain⟨ps,e,t,k⟩:=h
 obtain⟨m,e2,t2,k2⟩:=s P _ e
 refine⟨ps++m,e2,by rw[Wf];exact t.app t2,λc hc=>?_⟩
 rw[Wf,UW]at hc
 rcases hc with hc|hc
 ·obtain⟨o,eo,io⟩:=k c hc;exact⟨o,s c _ eo,io⟩
 ·exact k2 c hc
def spT(T:Addr)(K:Frag)(ca:Str->Addr)(n:Nat)(F:@I):Sp:=λvs H Q E=>∃G ds,CI T G/\ay G H/\ds.length=n/\@Rg/\match F ds with
 | .ok d fr=>∀v G' H',@Cy->@CL->@SW->(∀b,Mx H b->G b=none->G' b=none)->@O5->Q v H'
 | .exc c=>∀H',@Cy->E @Vx none H'
 | .bad=>False
structure mG(T:Addr)(P:Program)(w:World)(K:Frag)(mg:@R)(base:Heap)(ca:Str->Addr)(x:Str)(ps:@a)(k:Nat)(F:@I):Prop where
 ex:∃f fd,mg x=@Fc/\@Cw=true/\@HG/\gM P w K mg base @Ga k f fd ps (spT T K ca ps.length F)
 len:∀ds,F ds≠.bad->ds.length=ps.length
section
variable {P:Program}{w:World}{K:Frag}{mg:@R}{base:Heap}{ca:Str->Addr}{T:Addr}
def S8{x qual:Str}{st:Stmt}{f:Addr}{fd:FuncData}{N ps:@a}{k:Nat}{sp:Sp}(F:@C5)(S:@FJ)(len:∀vs H Q E,@Dm->vs.length=ps.length)
  (hbody:∀(cdv:Value) (A:Around) (outer:@Cf) (s:Shared) (H:Hp) (vs:List V) (Q:VK) (E:XK),fd.code=cdv->@SX->@Dm->
   ∃t,rq @A3 @Oz t/\t {nx:=λ_ H'=>@Pz,rt:=Q} @C9 H):gM P w K mg base @Ga (k+1) f fd ps sp:=by
 obtain⟨oc,od,kV,doc,pm,an,cdv,ct,osl,rfl,lk,hcd⟩:=F.ex
 exact HL lk hcd S len λA outer s H vs Q E hr hsp=>hbody cdv A outer s H vs Q E rfl hr hsp
def jj{x qual:Str}{st:Stmt}{f:Addr}{fd:FuncData}{N ps:@a}{k:Nat}{m:SF}(F:@C5)(S:@FJ)
  (hbody:∀(cdv:Value) (A:Around) (outer:@Cf) (s:Shared) (H G:Hp) (E:XK),fd.code=cdv->CI T G->@SX->Dv @A3 @JW E @Oz m) :
  gM P w K mg base @Ga (k+1) f fd ps (spT T K ca ps.length @UE):=by
 have hpn:ps.length<=N.length:=by have:=@Gs;rw[VA]at this;omega
 refine S8 F S (λvs H Q E h=>?_) (λcdv A outer s H vs Q E hcd hr h=>?_)
 ·obtain⟨G,ds,_,sG,hl,r,_⟩:=h
  rw[r.len];exact hl
 ·obtain⟨G,ds,tG,sG,hl,r,h⟩:=h
  refine⟨_,hbody cdv A outer s H G E hcd tG hr,?_⟩
  have I:=SR.start (ca:=ca) (N:=N) sG r (@B)
  refine⟨_,G,none,0,I,?_⟩
  unfold aS at h
  rw[Uz hl]at h
  have fin':∀{B G' H' σ env β},@VT->@Cy:=λJ b o e=>J.keep b o e (λz=>by cases z)
  cases q:m @Rs 0 with
  |nx env β=>rw[q]at h;exact λB G' H' σ J s'=>h .non G' H' (fin' J) s' J.sub (λb h1 h2=>@Pu) Rp.non
  |bk env β=>rw[q]at h;exact h.elim
  |ct env β=>rw[q]at h;exact h.elim
  |rt d fr β=>
   rw[q]at h
   refine λB G' H' σ env v J s' rv=>h v G' H' (fin' J) s' J.sub (λb h1 h2=>@Pu) ?_
   cases fr with
   |true=>exact rv
   |false=>exact rv
  |exc c=>rw[q]at h;exact λH' kp=>h H' λb o e=>kp b o e (λz=>by cases z)
  |bad=>rw[q]at h;exact h.elim
def DY{f:Addr}{fd:FuncData}{ps:@a}{k:Nat}:gM P w K mg base @Ga k f fd ps (spT T K ca ps.length λ_=>.bad):=
 ⟨λvs H Q E h=>by obtain⟨_,_,_,_,_,_,h⟩:=h;exact h.elim,λA outer s H args us vs Q E _ _ _ _ h=>by obtain⟨_,_,_,_,_,_,h⟩:=h;exact h.elim⟩
theorem Au{x:Str}{st:Stmt}{ps:@a}{f:Addr}{fd:FuncData}{j:Nat}{step:(@I)->@I}(F:@Gz)
  (h:∀(k:Nat) (F':@I),j<=k->mG T P w K mg base ca x ps k F'->mG T P w K mg base ca x ps (k+2) (step F')):∀n,mG T P w K mg base ca x ps (j+2*n) (kx step n)
 | 0=>⟨⟨f,fd,F.mg,F.F.kp,F.b,DY⟩,λds hn=>(hn rfl).elim⟩
 |n+1=>h (j+2*n) _ (@Jb) (Au F h n)
end
section
variable {X:Cx}{Γ:Fx}{E:XK}{a:Expr}{es:@Ac}{fr:@w}{L:@c}{pos:Pos}{T:Addr}
theorem B6{F:@I}{ps:@a}{Q:VK}{B:@i}{G H:Hp}{σ:St}{env:En}{β:Int}(hT:@VH)(I:@b)(hK:X.K=Γ.K){wv:Bool}
  (h:Out Γ E (if wv=true then xg F fr @p β else ak F fr @p β) λd β'=>∀v G' H',@Bi->@CL->@DQ->VO Γ.K B H G' H' (if wv=true then .w else .v) d v->Q v H') (hl:∀ds,F ds≠.bad->ds.length=ps.length) :
  aT Γ E fr L σ H λvs H1=>spT T X.K Γ.ca ps.length F vs H1 Q E:=by
 refine⟨env,G,B,β,I,?_⟩
 have h:Out Γ E @U6 λds β1=>Out Γ E (match F ds with
   | .ok d true=>@DM
   | .ok d false=>if wv=true then .bad else @DM
   | .exc c=>.exc c
   | .bad=>.bad) λd β'=>∀v G' H',@Bi->@CL->@DQ->VO Γ.K B H G' H' (if wv=true then .w else .v) d v->Q v H':=by
  cases wv with
  |true=>
   simp only[V5]at h ⊢
   refine h.bnd.imp λds β1 h=>?_
   cases q:F ds with
   |ok d b=>rw[q]at h;cases b<;>exact h
   |exc c=>rw[q]at h;exact h
   |bad=>rw[q]at h;exact h
  |false=>
   simp only[V4,WL]at h ⊢
   refine h.bnd.imp λds β1 h=>?_
   cases q:F ds with
   |ok d b=>rw[q]at h;cases b<;>exact h
   |exc c=>rw[q]at h;exact h
   |bad=>rw[q]at h;exact h
 refine h.imp λds β1 k vs G1 H1 I1 s1 m1 r=>?_
 refine⟨G1,ds,hT.mono I1.old,I1.sub,?_,by rw[hK];exact r,?_⟩
 ·exact hl ds λz=>by rw[z]at k;exact k
 cases q:F ds with
 |bad=>rw[q]at k;exact k
 |exc c=>rw[q]at k;exact λH' s=>k H' (I1.kp s)
 |ok d b=>
  rw[q]at k
  intro v G' H' hh hg hs hn fv
  obtain⟨I2,m2⟩:=@YF
  cases b with
  |true=>
   obtain⟨p,rfl,p1,p2,p3⟩:∃a,v=.ref a/\H1 a=none/\G' a=none/\@Q0:=fv
   rw[hK]at p3
   have hp:=@OS
   cases wv with
   |true=>exact @Lp
   |false=>
    obtain⟨q1,q2,q3,q4⟩:=I1.fresh p1
    obtain⟨G3,I3,s3,r3⟩:=@MC
    exact k _ G3 H' I3 ((@HZ).trans s3) (@Ee) r3
  |false=>
   cases wv with
   |true=>exact k.elim
   |false=>
    have fv:@WR:=fv
    rw[hK]at fv
    exact @Tc
def eJ{x:Str}{ps:@a}{k:Nat}{F:@I}{p:Pos}(hT:@VH)(hf:mG T X.prog X.w X.K X.mg X.base Γ.ca x ps k F)(hr:@SY)(hx:@Gp)(hK:X.K=Γ.K)(hg:Gl X x)(ha:SA X Γ E (a::es) fr L)(hdb:@T:=by decide)
  (he:starEach (a::es) X.env=(false,@AZ)::@AA:=by rfl) (hpl:(@C3).any (·.1)=false:=by rfl):SE X Γ E (.Call @EX (a::es) [] pos) (ak F fr) L .v:=by
 obtain⟨f,fd,hm,hk,hb,hF⟩:=hf.ex
 refine PE.post' (pV (dvs:=[]) hF hr hg hm hk hb .nil hx ha hdb he hpl) λσ H Q ⟨env,G,B,β,I,o⟩=>?_
 show aT Γ E fr L σ H λvs H1=>spT T X.K Γ.ca ps.length F (vs++[]) H1 Q E
 have:=B6 (Q:=Q) (wv:=false) (ps:=ps) hT I hK o hf.len
 simpa using this
end
structure El(mg:@R)(base:Heap)(c T:Addr):Prop where
 hd:PySem.W.CodeHd base c T
 bt:base.BuiltinsAt mg T
 ne:mainGlobals≠T
def PY{X:Cx}{A:Around}{NB:@a}{qual:Str}{scope:Scope}{q:Addr}{cdv:Value}{s3:Shared}{H3:Hp}{pn:@K}{P:Program}{w:World}:Passes @Ga (Cg X A NB qual scope q cdv s3 H3 pn) E0:=λpins σ H s e s' I h=>by
 obtain⟨_,_,_,_,_,_,_,_,_,q⟩:=h
 exact q.elim
theorem D2{P:Program}{w:World}{K:Frag}{mg mb:@R}{CX:yp}{k:Nat}{fa a T c:Addr}{fd:FuncData}{x:Str}{sp:Sp}{s₁:Shared}{vs:@e}{ns:@E}
  (KX:K.In s₁.heap) (hns:s₁.heap.Ns mainGlobals mg) (hb:s₁.heap.Ns builtinsNs mb) (hbb:∀x:Str,x≠"__name__"->mb x=@E0) (hlim:s₁.heap.NoLimit) (hsys:∃mm,s₁.heap.Ns sysModules mm) (hg:s₁.gens=#[])
  (hbm:∃bm ob,mg "__builtins__"=some (.ref bm)/\bm≠builtinsNs/\s₁.heap.get? bm=some ob/\ob.cls=.type "module"/\ob.dict=some builtinsNs/\ob.data=.plain)
  (hT:s₁.heap.get? T=some (PySem.W.tabObj #[])) (hKT:K.lookup T=none) (hcd:PySem.W.codeHdIn K c T=true)
  (ha:s₁.heap.get? a=some {cls:=@BV,data:=@KC}) (hi:@ME) (hl:ns.length<=sizeLine) (hr:fo k callerA)
  (F:∀base:Heap,K.In base->@Fr->@Oh->gM P w K mg base CX k fa fd [x] sp) (hbind:∀(s:Shared) (u:Value),BindsTo s fd @Y2 [(x,u)])
  (hsp:∀H:Hp,H T=some (.tbl #[])->@Nv->sp @F0 H (λv _=>v=@Pd) λ_ _ _=>False)
  (hCX:∀H e s',CX [] H s₁ (λ_ _ _=>False) e s'->False) :
  codeAny @FV callerA @I6 (λr s'=>r=@Rw/\@Mt/\s'.os=s₁.os/\@H2) s₁:=by
 have rv:=xi hi
 have lenV:=hi.length
 have aT:a≠T:=λz=>by rw[z,hT]at ha;cases ha
 have tabs:s₁.heap.TableAt c T #[]:=(PySem.W.codeHd_of_K KX hcd).tab hT
 have core:∀H:Hp,(∀b,b≠T->H b=none\/∃o xs,H b=some (.bj o @JQ))->H T=some (.tbl #[])->@Nv->nr P w H s₁.heap->(∀b,H b≠none->b=a\/b=T)->(H a≠none->@VN=none)->
   codeAny @FV callerA @I6 (λr s'=>r=@Rw/\@Mt/\s'.os=s₁.os/\@H2) s₁:=by
  intro H hO hHT hS hok hA hK
  have base_of:∀{b:Addr} {o:Obj},s₁.heap.get? b=some o->H b=none->(@I1).get? b=some o:=λe n=>Fs e n
  have noO:∀{b:Addr} {o:Obj},s₁.heap.get? b=some o->(∀xs n,o.data≠.seq xs n)->(∀ps,o.data≠@VD)->H b=none:=λ{b o} e d1 d2=>by
   cases q:H b with
   |none=>rfl
   |some u=>
    rcases hA b (by rw[q];simp)with e'|e'
    ·subst e'
     rw[ha]at e;cases e
     exact absurd rfl (d1 _ _)
    ·subst e'
     rw[hT]at e;cases e
     exact absurd rfl (d2 _)
  have nsK:∀{b:Addr} {m:@R},s₁.heap.Ns b m->(@I1).Ns b m:=λ{b m} ⟨o,es,ep,e,d,r⟩=>⟨o,es,ep,base_of e (noO e (λxs n z=>by rw[d]at z;cases z) λps z=>by rw[d]at z;cases z),d,r⟩
  have hKb:K.In (@I1):=λb o e=>base_of (KX b o e) (by
   cases q:H b with
   |none=>rfl
   |some u=>
    rcases hA b (by rw[q];simp)with e'|e'
    ·subst e'
     rw[hK (by rw[q];simp)]at e;cases e
    ·subst e'
     rw[hKT]at e;cases e)
  have hM:Mod K mg (@I1):=⟨hKb,nsK hns,⟨mb,nsK hb,hbb⟩,let⟨mc,h1,h2⟩:=hlim;⟨mc,nsK h1,h2⟩,let⟨mm,h1⟩:=hsys;⟨mm,nsK h1⟩⟩
  have neM:mainGlobals≠T:=λz=>by
   obtain⟨o,es,ep,e,d,_⟩:=hns
   rw[z,hT]at e
   cases e
   have d':Data.fields #[]=Data.dict es ep:=d
   cases d'
  have hL:El mg (@I1) c T:=by
   refine⟨PySem.W.codeHd_of_K hKb hcd,?_,neM⟩
   obtain⟨bm,ob,b1,b2,b3,b4,b5,b6⟩:=hbm
   refine⟨bm,ob,b1,b2,λz=>?_,λz=>?_,base_of b3 (noO b3 (λxs n z=>by rw[b6]at z;cases z) λps z=>by rw[b6]at z;cases z),b4,b5,b6⟩
   ·obtain⟨o,es,ep,e,d,_⟩:=hns
    rw[<-z,b3]at e
    cases e
    rw[b6]at d
    cases d
   ·rw[z,hT]at b3
    cases b3
    cases b4
  have e0:uD P w K mg (@I1) callerA [] s₁ H:=⟨rfl,hM,λb o e=>JL e,Nat.le_of_eq (EM _ _),trivial,λb hb=>absurd (show b∈([]:@Ao)from hb) @W,hok,.of_eq hg⟩
  refine Wz ((F _ hKb (nsK hns) hL).run callerA [] s₁ H ⟨@F0,[]⟩ @F0 @F0 _ _ hr e0 (hbind s₁ @BU) (.cons rfl .nil) (hsp H hHT hS)) λr s' h=>?_
  cases r with
  |error e=>exact(hCX H e s' h).elim
  |ok fl=>
   cases fl with
   |next=>exact @YB
   |brk=>exact @YB
   |cont=>exact @YB
   |ret u=>
    obtain⟨v,H',os,bare,un,hok',r',q⟩:=h
    have q':v=@Pd:=q
    subst q'
    obtain rfl:u=Value.bool true:=r'
    refine⟨rfl,⟨λb o e=>?_,λb o e=>?_⟩,os,bare⟩
    ·by_cases bT:b=T
     ·subst bT
      rw[hT]at e
      cases e
      obtain⟨more,e2⟩:=un.tbls b _ hHT
      exact .inr (.inl ⟨tabs.isCodeTable,rfl,#[],more,rfl,hok' b _ e2⟩)
     ·refine .inl ?_
      cases q:H b with
      |none=>exact un.keep b o e q (by intro z;exact absurd (show b∈([]:@Ao)from z) @W) @W
      |some u=>
       rcases hO b bT with z|⟨ob,xs,z⟩
       ·rw[q]at z;cases z
       ·have z2:=un.frzs b ob _ z
        obtain⟨e1,_⟩:=hok b _ z
        obtain⟨e2,_⟩:=hok' b _ z2
        rw[e]at e1;cases e1
        exact e2
    ·by_cases bT:b=T
     ·subst bT
      obtain⟨more,e2⟩:=un.tbls b _ hHT
      exact⟨_,hok' b _ e2⟩
     ·cases q:H b with
      |none=>exact⟨o,un.keep b o e q (by intro z;exact absurd (show b∈([]:@Ao)from z) @W) @W ⟩
      |some u=>
       rcases hO b bT with z|⟨ob,xs,z⟩
       ·rw[q]at z;cases z
       ·exact⟨_,(hok' b _ (un.frzs b ob _ z)).1⟩
 cases hk:@VN with
 |some o=>
  have e:=KX a o hk
  rw[ha]at e
  cases e
  refine core (λb=>if b=T then some (.tbl #[])else none) (λb n=>.inl (UJ n)) (Uz rfl) (.inr ⟨_,vs.toArray,_,hk,rfl,rfl,rfl,by rw[UM,lenV];exact hl,by simpa using rv⟩) (λb u z=>?_) (λb z=>?_) λz=>absurd (UJ aT) z
  ·by_cases hb:b=T
   ·have z':=(Uz hb).symm.trans z
    cases z'
    subst hb
    exact hT
   ·have z':=(UJ hb).symm.trans z
    cases z'
  ·by_cases hb:b=T
   ·exact .inr hb
   ·exact absurd (UJ hb) z
 |none=>
  refine core (λb=>if b=T then some (.tbl #[])else if b=a then some (.bj {cls:=@BV,data:=@KC} (.lst @B6))else none) (λb n=>?_) (Uz rfl) (.inl (.inr ⟨{cls:=@BV,data:=@KC},(UJ aT).trans (Uz rfl)⟩)) (λb u z=>?_) (λb z=>?_) λ_=>hk
  ·by_cases hb:b=a
   ·exact .inr ⟨_,_,(UJ n).trans (Uz hb)⟩
   ·exact .inl ((UJ n).trans (UJ hb))
  ·by_cases hbT:b=T
   ·have z':=(Uz hbT).symm.trans z
    cases z'
    subst hbT
    exact hT
   ·have z:=(UJ hbT).symm.trans z
    by_cases hb:b=a
    ·have z':=(Uz hb).symm.trans z
     cases z'
     subst hb
     exact⟨ha,by rw[Uw];exact hl,vs,_,rv,ha⟩
    ·have z':=(UJ hb).symm.trans z
     cases z'
  ·by_cases hbT:b=T
   ·exact .inr hbT
   ·by_cases hb:b=a
    ·exact .inl hb
    ·exact absurd ((UJ hbT).trans (UJ hb)) z
def yG(T:Addr)(K:Frag):Sp:=λvs H Q _=>∃(a:Addr) (ns:@E),vs= @F0/\H T=some (.tbl #[])/\@Nv/\∀H',@Cy->Q (@Pd) H'
def IU{l:PySem.W.OpenLaw}{n k:Nat}{q:Program}{loose:@a}{XP:(@R)->Heap->Prop}{YP:World->Heap->Prop}{d:DefRec}{K:Params->Frag}{T c:Addr}
  (hn:l.most=some n) (hn2:n<=sizeLine) (hdf:d.params.defaults= []) (hi:@T2=true) (hr:fo k callerA)
  (hY:∀(w:World) (h:Heap),YP w h->(@Hf).In h) (hYT:∀(w:World) (h:Heap),YP w h->h.get? T=some (PySem.W.tabObj #[])) (hKT:∀p,(K p).lookup T=none) (hcd:∀p,@T3=true)
  (F:∀(w:World) (mg:@R) (fa:Addr) (h:Heap),(@Hf).In h->@Fb->mg d.name=@Os->
   ∃fd:FuncData,(∀(s:Shared) (u:Value),BindsTo s fd @Y2 [("script",u)])/\
    ∀base:Heap,(@Hf).In base->@Fr->@Oh->gM l.prog w (@Hf) mg base @WC k fa fd @Ju (yG T (@Hf))) :
  PySem.W.WalkO q loose XP YP l.row.toRowW d [] (λf vs=>@TL):=by
 refine Att.Ay hn hdf λw s₀ s₁ mg mb fa o pm cd doc a vs ns G Y ho hd hcd' hmg hobj hints hlen hg=>?_
 have KX:=hY w _ Y
 obtain⟨fd,hb,hF⟩:=F w mg fa _ KX G.T.g hmg
 exact D2 KX G.T.g G.T.b G.T.builtins G.T.nolimit (let⟨mm,h1,_⟩:=(G.T.seer hi).mods;⟨mm,h1⟩) hg G.T.bmain (hYT w _ Y) (hKT _) (hcd _) hobj hints (Vp hlen hn2) hr hF hb (λH hO hS=>⟨a,ns,rfl,hO,hS,λ_ _=>rfl⟩) λH e s' z=>by
  obtain⟨_,_,_,_,_,_,_,_,_,z⟩:=z
  exact z
structure Ud(K:Frag)(mg:@R)(x:Str)(st:Stmt)(ps:@a)(c:Addr):Prop where
 ex:∃f fd,@Gz/\fd.code=.ref c
def Oc{K:Frag}{mg:@R}{h:Heap}{x:Str}{st:Stmt}{ps:@a}{f c:Addr}{oc:Value}{od an:@i}{sl:@Ib}{kV doc pm ct:Value}(X:K.In h)(G:@Fb)(b:aQ x st ps)(a:@Fv=some (@Fc))
  (l:@Qw=some ⟨oc,od,.func (PySem.W.fnOf x x (jA st) @Oz (ao st) .none kV doc pm an @SC ct),sl⟩) (hc:PySem.W.codeIn K @SC x=true) (k:@Cw=true):Ud K mg x st ps c:=
 ⟨⟨f,_,⟨Vb X G a,vk l hc k,(vk l hc k).binds b⟩,rfl⟩⟩
def Sy{T:Addr}{H:Hp}(h:H T=some (.tbl #[])):CI T H:=⟨#[],h,trivial,λc hc=>by simp at hc⟩
end L2
section
set_option Elab.async false
namespace RO
open PySem L2
def uX:aQ "_law_classes" lE ["e"]:=@k
def z6:aQ "_law_only" An @Ds:=@f
def B3:aQ "is_whole" RQ.mz @A1:=@k
def Bi:aQ "is_below" RQ.mT @DC:=@f
def DK:aQ "is_many" RQ.oy @A1:=@k
def Es:aQ "is_pair" RQ.oB @Bg:=@f
def DN:aQ "is_line" RQ.oY @Bg:=@f
def yi:aQ "every_pair" RQ.iA @Fx:=@k
def FT:aQ "closed" qy @Ek:=@f
def Bk:aQ "has_ring" RQ.mX @Lh:=@k
def BZ:aQ "is_order" RQ.mj @A1:=@k
def yV:aQ "need_order" RQ.jH @A1:=@k
def AI:aQ "are_apart" RQ.kJ @Bd:=λ_ _ _ _ _ _=>Jk λ_ _ _=>rfl
def GC:aQ "places" RQ.qH @TS:=@k
def vK:aQ "keeps_order" RQ.i9 @Aa:=@f
def yu:aQ "with_thing" RQ.jI @Er:=@f
def vP:aQ "free_things" RQ.je @IB:=@f
def D8:aQ "ways_on" RQ.o9 @TQ:=@k
def vM:aQ "masks_ahead" RQ.jf @j:=@k
def z5:aQ "rows_many" RQ.kP @j:=@k
def GN:aQ "choose" RQ.qE @CU:=λ_ _ _ _ _ _=>T4 λ_ _ _ _=>rfl
def Fd:aQ "nth_row" RQ.ou @Fz:=@f
def zN:aQ "row_along" RQ.kG @HI:=@f
def uz:aQ "stands_ahead" RQ.iB @D4:=λ_ _ _ _ _ _=>Jk λ_ _ _=>rfl
def uR:aQ "shared_pairs" RQ.iK @CY:=@f
def BP:aQ "are_rows" RQ.mh @Aa:=@f
def NX:aQ "tell" RQ.yC @Aa:=@f
def sJ:aQ "longer_groups" RQ.gq @Fy:=@f
def yJ:aQ "most_apart" RQ.jJ @j:=@k
def Kd:aQ "turns" RQ.sM @j:=@k
def Bz:aQ "is_sharp" RQ.mM @Bd:=λ_ _ _ _ _ _=>Jk λ_ _ _=>rfl
def vY:aQ "sharp_turns" RQ.jc @j:=@k
def Bm:aQ "leads_on" RQ.l9 @AM:=λ_ _ _ _ _ _=>Jk λ_ _ _=>rfl
def A5:aQ "is_ahead" RQ.mO @DB:=λ_ _ _ _ _ _=>Jk λ_ _ _=>rfl
def zL:aQ "is_turned" RQ.kC @Ag:=@f
def Ab:aQ "is_barred" RQ.kO @Ag:=@f
def BL:aQ "put_turn" RQ.ml @Ag:=@f
def ze:aQ "ring_with" RQ.kX @Eh:=λ_ _ _ _ _ _=>Jk λ_ _ _=>rfl
def EY:aQ "case_of" RQ.oV @Bq:=λ_ _ _ _ _ _=>Uh λ_ _ _ _ _=>rfl
def AD:aQ "free_rows" RQ.kI @FI:=@f
def B0:aQ "cases_on" RQ.mF @DP:=λ_ _ _ _ _ _=>Jk λ_ _ _=>rfl
def JI:aQ "cases" RQ.sP @CH:=@f
def vL:aQ "fewest_rows" RQ.jd @j:=@k
def Fv:aQ "fewest" RQ.qe @j:=@k
def KL:aQ "cross" RQ.sO @AM:=λ_ _ _ _ _ _=>Jk λ_ _ _=>rfl
def sI:aQ "crossing_from" RQ.gc @Cx:=λ_ _ _ _ _ _=>Jk λ_ _ _=>rfl
def yc:aQ "most_cross" RQ.jC @j:=@k
def FJ:aQ "bounds" RQ.qz @j:=@k
def HQ:aQ "is_few" RQ.qI @A1:=@k
def qJ:aQ "need_few_things" RQ.dW @j:=@k
def yB:aQ "lists_many" RQ.jR @CH:=@f
def zP:aQ "every_row" RQ.kE @j:=@k
def yd:aQ "first_from" RQ.jM @Bw:=λ_ _ _ _ _ _=>T4 λ_ _ _ _=>rfl
def xN:aQ "first_list" RQ.jz @j:=@k
def BE:aQ "_law_box" RQ.mq @Ix:=@f
def zK:aQ "_law_take" RQ.kS @K9:=@f
def sy:aQ "_law_no_order" RQ.gy @WZ:=@k
def sC:aQ "_law_shuffled" RQ.gp @Ez:=@f
def Ae:aQ "_law_told" RQ.kY @CY:=@f
def xO:aQ "_law_small" RQ.jK @Iw:=@f
def uh:aQ "_law_told_by" RQ.iM @DH:=λ_ _ _ _ _ _=>Jk λ_ _ _=>rfl
def Ma:Prop:=∀{T c0:Addr} {l:PySem.W.OpenLaw} {w:World} {K:Frag} {h:Heap} {mg:@R} {fa f62 R q0 q1 q2 q3 q4 q5 q6 q7 q8 q9 q10 q11 q12 q13 q14 q15:Addr} (X:K.In h) (G:@Fb) (hfa:mg "law"=@Os)
  {od62 an62:@i} {sl62:@Ib} {oc62 kV62 dc62 pm62 cd62 ct62:Value} {tFEW:Tok} {tMOST_THINGS:Tok}
  (F1:Fo K mg "_law_classes" lE ["e"])
  (F2:Fo K mg "_law_only" An @Ds)
  (F3:Fo K mg "is_whole" RQ.mz @A1)
  (F4:Fo K mg "is_below" RQ.mT @DC)
  (F5:Fo K mg "is_many" RQ.oy @A1)
  (F6:Fo K mg "is_pair" RQ.oB @Bg)
  (F7:Fo K mg "is_line" RQ.oY @Bg)
  (F8:Fo K mg "every_pair" RQ.iA @Fx)
  (F9:Fo K mg "closed" qy @Ek)
  (F10:Fo K mg "has_ring" RQ.mX @Lh)
  (F11:Fo K mg "is_order" RQ.mj @A1)
  (F12:Fo K mg "need_order" RQ.jH @A1)
  (F13:Fo K mg "are_apart" RQ.kJ @Bd)
  (F14:Fo K mg "places" RQ.qH @TS)
  (F15:Fo K mg "keeps_order" RQ.i9 @Aa)
  (F16:Fo K mg "with_thing" RQ.jI @Er)
  (F17:Fo K mg "free_things" RQ.je @IB)
  (F18:Fo K mg "ways_on" RQ.o9 @TQ)
  (F19:Fo K mg "masks_ahead" RQ.jf @j)
  (F20:Fo K mg "rows_many" RQ.kP @j)
  (F21:Fo K mg "choose" RQ.qE @CU)
  (F22:Fo K mg "nth_row" RQ.ou @Fz)
  (F23:Fo K mg "row_along" RQ.kG @HI)
  (F24:Fo K mg "stands_ahead" RQ.iB @D4)
  (F25:Fo K mg "shared_pairs" RQ.iK @CY)
  (F26:Fo K mg "are_rows" RQ.mh @Aa)
  (F27:Fo K mg "tell" RQ.yC @Aa)
  (F28:Fo K mg "longer_groups" RQ.gq @Fy)
  (F29:Fo K mg "most_apart" RQ.jJ @j)
  (F30:Fo K mg "turns" RQ.sM @j)
  (F31:Fo K mg "is_sharp" RQ.mM @Bd)
  (F32:Fo K mg "sharp_turns" RQ.jc @j)
  (F33:Fo K mg "leads_on" RQ.l9 @AM)
  (F34:Fo K mg "is_ahead" RQ.mO @DB)
  (F35:Fo K mg "is_turned" RQ.kC @Ag)
  (F36:Fo K mg "is_barred" RQ.kO @Ag)
  (F37:Fo K mg "put_turn" RQ.ml @Ag)
  (F38:Fo K mg "ring_with" RQ.kX @Eh)
  (F39:Fo K mg "case_of" RQ.oV @Bq)
  (F40:Fo K mg "free_rows" RQ.kI @FI)
  (F41:Ud K mg "cases_on" RQ.mF @DP c0)
  (F42:Fo K mg "cases" RQ.sP @CH)
  (F43:Fo K mg "fewest_rows" RQ.jd @j)
  (F44:Fo K mg "fewest" RQ.qe @j)
  (F45:Fo K mg "cross" RQ.sO @AM)
  (F46:Fo K mg "crossing_from" RQ.gc @Cx)
  (F47:Fo K mg "most_cross" RQ.jC @j)
  (F48:Fo K mg "bounds" RQ.qz @j)
  (F49:Fo K mg "is_few" RQ.qI @A1)
  (F50:Fo K mg "need_few_things" RQ.dW @j)
  (F51:Fo K mg "lists_many" RQ.jR @CH)
  (F52:Fo K mg "every_row" RQ.kE @j)
  (F53:Fo K mg "first_from" RQ.jM @Bw)
  (F54:Fo K mg "first_list" RQ.jz @j)
  (F55:Fo K mg "_law_box" RQ.mq @Ix)
  (F56:Fo K mg "_law_take" RQ.kS @K9)
  (F57:Fo K mg "_law_no_order" RQ.gy @WZ)
  (F58:Fo K mg "_law_shuffled" RQ.gp @Ez)
  (F59:Fo K mg "_law_told" RQ.kY @CY)
  (F60:Fo K mg "_law_small" RQ.jK @Iw)
  (F61:Fo K mg "_law_told_by" RQ.iM @DH)
  (a62:PySem.W.nsIn K mainGlobals "law"=some (some (.ref f62))) (l62:K.lookup f62=some ⟨oc62,od62,.func (@Eq),sl62⟩) (c62:PySem.W.codeIn K cd62 "law"=true) (k62:PySem.W.keepIn K (.ref f62)=true)
  (zB:SD K=true)
  (yFEW:PySem.W.nsIn K mainGlobals "FEW"=some (some (.int 4 tFEW)))
  (yMOST_THINGS:PySem.W.nsIn K mainGlobals "MOST_THINGS"=some (some (.int 8 tMOST_THINGS)))
  (mR:PySem.W.nsIn K mainGlobals "RankError"=some (some @Kb))
  (n0:PySem.W.nsIn K mainGlobals "NoOrder"=some (some @CM))
  (n1:PySem.W.nsIn K mainGlobals "NoMany"=some (some @Xi))
  (n2:PySem.W.nsIn K mainGlobals "NoPairs"=some (some @Xj))
  (n3:PySem.W.nsIn K mainGlobals "Ring"=some (some @Xk))
  (n4:PySem.W.nsIn K mainGlobals "NoThing"=some (some @Xl))
  (n5:PySem.W.nsIn K mainGlobals "NoRow"=some (some @Xm))
  (n6:PySem.W.nsIn K mainGlobals "NoRows"=some (some @Xn))
  (n7:PySem.W.nsIn K mainGlobals "NoNumber"=some (some @CN))
  (n8:PySem.W.nsIn K mainGlobals "NoChain"=some (some @Xo))
  (n9:PySem.W.nsIn K mainGlobals "NoTurns"=some (some @Xp))
  (n10:PySem.W.nsIn K mainGlobals "NoPoints"=some (some @Uu))
  (n11:PySem.W.nsIn K mainGlobals "NoKind"=some (some @Uv))
  (n12:PySem.W.nsIn K mainGlobals "TooMany"=some (some @Bs))
  (n13:PySem.W.nsIn K mainGlobals "Bare"=some (some @Uw))
  (n14:PySem.W.nsIn K mainGlobals "NoLine"=some (some @Ux))
  (n15:PySem.W.nsIn K mainGlobals "NoText"=some (some @Uy))
  (zV:PySem.W.nsIn K mainGlobals "ValueError"=@QJ)
  (eR:PySem.W.excIn K R @AH "ValueError.__new__"=true)
  (e0:PySem.W.excIn K q7 @AH "ValueError.__new__"=true)
  (e1:PySem.W.excIn K q0 @AH "ValueError.__new__"=true)
  (e2:PySem.W.excIn K q12 @AH "ValueError.__new__"=true)
  (up0:(L2.mroIn K q0).contains @Kb=true)
  (g1_0:(PySem.W.clsIn K q0).isSome=true)
  (g2_0:PySem.W.findIn K @CM "__getattribute__"=some (some (.builtin "BaseException.__getattribute__")))
  (g3_0:PySem.W.findIn K @CM "__getattr__"=@QJ)
  (g4_0:PySem.W.findIn K @CM "__class__"=some (some (.builtin "object.__class__")))
  (g7_0:PySem.W.mroIn K q0 @JV=@C1)
  (g8_0:PySem.W.mroIn K q0 @Cc=@C1)
  (kR0:PySem.W.kitOne K @CM @Kb=@C1)
  (kV0:PySem.W.kitOne K @CM @Ja=@C1)
  (kt0_0:PySem.W.kitOne K @CM @CM=@C1)
  (kt0_1:PySem.W.kitOne K @CM @Xi=@AT)
  (kt0_2:PySem.W.kitOne K @CM @Xj=@AT)
  (kt0_3:PySem.W.kitOne K @CM @Xk=@AT)
  (kt0_4:PySem.W.kitOne K @CM @Xl=@AT)
  (kt0_5:PySem.W.kitOne K @CM @Xm=@AT)
  (kt0_6:PySem.W.kitOne K @CM @Xn=@AT)
  (kt0_7:PySem.W.kitOne K @CM @CN=@AT)
  (kt0_8:PySem.W.kitOne K @CM @Xo=@AT)
  (kt0_9:PySem.W.kitOne K @CM @Xp=@AT)
  (kt0_10:PySem.W.kitOne K @CM @Uu=@AT)
  (kt0_11:PySem.W.kitOne K @CM @Uv=@AT)
  (kt0_12:PySem.W.kitOne K @CM @Bs=@AT)
  (kt0_13:PySem.W.kitOne K @CM @Uw=@AT)
  (kt0_14:PySem.W.kitOne K @CM @Ux=@AT)
  (kt0_15:PySem.W.kitOne K @CM @Uy=@AT)
  (up7:(L2.mroIn K q7).contains @Kb=true)
  (g1_7:(PySem.W.clsIn K q7).isSome=true)
  (g2_7:PySem.W.findIn K @CN "__getattribute__"=some (some (.builtin "BaseException.__getattribute__")))
  (g3_7:PySem.W.findIn K @CN "__getattr__"=@QJ)
  (g4_7:PySem.W.findIn K @CN "__class__"=some (some (.builtin "object.__class__")))
  (g7_7:PySem.W.mroIn K q7 @JV=@C1)
  (g8_7:PySem.W.mroIn K q7 @Cc=@C1)
  (kR7:PySem.W.kitOne K @CN @Kb=@C1)
  (kV7:PySem.W.kitOne K @CN @Ja=@C1)
  (kt7_0:PySem.W.kitOne K @CN @CM=@AT)
  (kt7_1:PySem.W.kitOne K @CN @Xi=@AT)
  (kt7_2:PySem.W.kitOne K @CN @Xj=@AT)
  (kt7_3:PySem.W.kitOne K @CN @Xk=@AT)
  (kt7_4:PySem.W.kitOne K @CN @Xl=@AT)
  (kt7_5:PySem.W.kitOne K @CN @Xm=@AT)
  (kt7_6:PySem.W.kitOne K @CN @Xn=@AT)
  (kt7_7:PySem.W.kitOne K @CN @CN=@C1)
  (kt7_8:PySem.W.kitOne K @CN @Xo=@AT)
  (kt7_9:PySem.W.kitOne K @CN @Xp=@AT)
  (kt7_10:PySem.W.kitOne K @CN @Uu=@AT)
  (kt7_11:PySem.W.kitOne K @CN @Uv=@AT)
  (kt7_12:PySem.W.kitOne K @CN @Bs=@AT)
  (kt7_13:PySem.W.kitOne K @CN @Uw=@AT)
  (kt7_14:PySem.W.kitOne K @CN @Ux=@AT)
  (kt7_15:PySem.W.kitOne K @CN @Uy=@AT)
  (up12:(L2.mroIn K q12).contains @Kb=true)
  (g1_12:(PySem.W.clsIn K q12).isSome=true)
  (g2_12:PySem.W.findIn K @Bs "__getattribute__"=some (some (.builtin "BaseException.__getattribute__")))
  (g3_12:PySem.W.findIn K @Bs "__getattr__"=@QJ)
  (g4_12:PySem.W.findIn K @Bs "__class__"=some (some (.builtin "object.__class__")))
  (g7_12:PySem.W.mroIn K q12 @JV=@C1)
  (g8_12:PySem.W.mroIn K q12 @Cc=@C1)
  (kR12:PySem.W.kitOne K @Bs @Kb=@C1)
  (kV12:PySem.W.kitOne K @Bs @Ja=@C1)
  (kt12_0:PySem.W.kitOne K @Bs @CM=@AT)
  (kt12_1:PySem.W.kitOne K @Bs @Xi=@AT)
  (kt12_2:PySem.W.kitOne K @Bs @Xj=@AT)
  (kt12_3:PySem.W.kitOne K @Bs @Xk=@AT)
  (kt12_4:PySem.W.kitOne K @Bs @Xl=@AT)
  (kt12_5:PySem.W.kitOne K @Bs @Xm=@AT)
  (kt12_6:PySem.W.kitOne K @Bs @Xn=@AT)
  (kt12_7:PySem.W.kitOne K @Bs @CN=@AT)
  (kt12_8:PySem.W.kitOne K @Bs @Xo=@AT)
  (kt12_9:PySem.W.kitOne K @Bs @Xp=@AT)
  (kt12_10:PySem.W.kitOne K @Bs @Uu=@AT)
  (kt12_11:PySem.W.kitOne K @Bs @Uv=@AT)
  (kt12_12:PySem.W.kitOne K @Bs @Bs=@C1)
  (kt12_13:PySem.W.kitOne K @Bs @Uw=@AT)
  (kt12_14:PySem.W.kitOne K @Bs @Ux=@AT)
  (kt12_15:PySem.W.kitOne K @Bs @Uy=@AT)
  (g5:PySem.W.specialIn K (.builtin "object.__class__") "__get__"=some (some (.builtin "getset_descriptor.__get__")))
  (g6:PySem.W.takesIn K (.builtin "object.__class__")=@C1),∃fd:FuncData,(∀(s:Shared) (v:Value),BindsTo s fd ⟨[v],[]⟩ [("script",v)])/\∀base:Heap,K.In base->@Fr->El mg base c0 T->gM l.prog w K mg base @WC 93 fa fd @Ju (yG T K)
def walk{l:PySem.W.OpenLaw}{q:Program}{loose:@a}{XP:(@R)->Heap->Prop}{YP:World->Heap->Prop}{d:DefRec}{K:Params->Frag}(hn:l.most=some 63)(hdf:d.params.defaults= [])(hi:@T2=true)
  {T c:Addr} (hY:∀(w:World) (h:Heap),YP w h->(@Hf).In h) (hYT:∀(w:World) (h:Heap),YP w h->h.get? T=some (PySem.W.tabObj #[])) (hKT:∀p,(K p).lookup T=none) (hcd:∀p,@T3=true)
  (F:∀(w:World) (mg:@R) (fa:Addr) (h:Heap),(@Hf).In h->@Fb->mg d.name=@Os->
   ∃fd:FuncData,(∀(s:Shared) (u:Value),BindsTo s fd @Y2 [("script",u)])/\∀base:Heap,(@Hf).In base->@Fr->@Oh->gM l.prog w (@Hf) mg base @WC 93 fa fd @Ju (yG T (@Hf))) :
  PySem.W.WalkO q loose XP YP l.row.toRowW d [] (λf vs=>@TL):=
 L2.IU (n:=63) (k:=93) hn @S hdf hi ⟨rfl,by decide,by decide,rfl⟩ hY hYT hKT hcd F
end RO
namespace HD
noncomputable def vw:PySem.Program:=PySem.W.view PySem.Challenge.pw_rowsorder_k75_bounds_refused [1,2,3,4,5,6,7,9,10,11,12,13,14,15,16,17,18,19,20,21,22,23,24,25,27,28,29,30,31,33,34,35,36,37,38,39,40,41,42,43,44,45,46,48,49,51,52,53,54,55,56,57,58,59,61,62,63,64,65,66,67,68,69,71,72,73,74,75,76,77,78,79,81,82,83,84,85,86,87,88,89,90]
def KO:PySem.Challenge.rw_rowsorder_k75_bounds_refused.wellSaid=true:=by kernel_rfl
end HD
section
set_option hygiene false in
local macro_rules | `(tactic|o_head $H)=>`(tactic|exact h)
set_option maxHeartbeats 0 in
theorem HD.d(h:PySem.Challenge.rw_rowsorder_k75_bounds_refused.row.Holds):PySem.Challenge.rw_rowsorder_k75_bounds_refused.Holds:=by
 w_on;(refine PySem.W.holds_law HD.KO λKO=>?_);k_head
end
abbrev HD.aa:@c:=[2,3,15,17,18,20,21,22,24,25,27,28,29,31,32,34,35,36,38,39,41,42,43,46,47,48,51,52,53,60,61,62,63,66,73,74,75,78,85,86,87,90,97,98,99,102,109,110,111,114,121,122,123,126,133,134,135,138,145,146,147,150,157,158,159,162,169,170,171,174,181,182,183,186,193,194,195,198,205,206,207,210,217,218,219,222,229,230,231,234,241,242,243,246,253,255,256,258,259,260,261,262,265,268,269,270,273,274,275,278,279,280,282,283,285,286,287,289,290,292,293,294,297,298,299,301,302,304,305,306,308,309,311,312,313,315,316,318,319,320,322,323,325,326,327,329,330,332,333,334,336,337,339,340,341,343,344,346,347,348,351,352,353,356,357,358,361,362,363,366,367,368,371,372,373,375,376,378,379,380,383,384,385,388,389,390,393,394,395,398,399,400,403,404,405,407,408,410,411,412,414,415,417,418,419,421,422,424,425,426,428,429,431,432,433,436,437,438,441,442,443,445,446,448,449,450,452,453,455,456,457,459,460,462,463,464,467,468,469,472,473,474,476,477,479,480,481,483,484,486,487,488,490,491,493,494,495,498,499,500,502,503,505,506,507,509,510,512,513,514,517,518,519,522,523,524,526,527,529,530,531,534,535,536,538,539,541,542,543,545,546,548,549,550,552,553,555,556,557,559,560,562,563,564,566,567,569,570,571,573,574,576,577,578,581,582,583,586,587,588,590,591,593,594,595,598,599,600,603,604,605,607,608,610,611]
def HD.ke:∀P,HD.aa=(HD.d.heap_1 P).map (·.1):=λ_=>by kernel_rfl
def HD.l1:∀w os,(@Gd).map (λs=>(HD.Cs PySem.Challenge.rw_rowsorder_k75_bounds_refused.row.prog w s.abs,(PySem.W.openSeen HD.vw [] @E4 (λs=>@H7&&@CX) true s.abs).1,(@DJ).obs s.abs))=some (true,(@UT).1,(@DJ).val w):=λw os=>by kernel_rfl
def HD.l2:∀w os,(@Gd).map (λs=>(PySem.W.openSeen HD.vw [] @E4 (λs=>@H7&&@CX) true s.abs).2)=some (@UT).2:=λw os=>by kernel_rfl
def HD.left:PySem.W.LeftO PySem.Challenge.rw_rowsorder_k75_bounds_refused.row.prog HD.vw [] (λs=>@H7&&@CX) (@DJ).obs (@DJ).val 11212:=
 HD.J9 (by kernel_rfl) (by kernel_rfl) (λs=>by kernel_rfl) HD.l1 HD.l2
open PySem PySem.W PyProof.Rows L2
set_option maxRecDepth 100000 in
set_option maxHeartbeats 0 in
theorem RO.head(hA:RO.Ma):PySem.Challenge.rw_rowsorder_k75_bounds_refused.Holds:=by
 w_on;(refine PySem.W.holds_law HD.KO λKO=>?_)
 refine PySem.W.holds_open (q:=HD.vw) (loose:=[]) (Xt:=λs=>@H7&&PySem.W.recOk (PySem.W.RowW.records _) s) (XP:=PySem.W.XL HD.vw []) (Yf:=PySem.W.Hook.obs @Ce) (Ya:=PySem.W.Hook.val @Ce) (YP:=PySem.W.Hook.says @Ce) (N:=11212) HD.left (PySem.W.Hook.of @Ce) (PySem.W.Hook.keeps @Ce) (λs e=>PySem.W.xl_of s (@UN).1) PySem.W.XL.keeps (by rfl) (by rfl) (by rfl) (λs e=>PySem.W.recFacts_of (@UN).2) (by rfl) (by first|assumption|decide +kernel) (@O) ⟨rfl,rfl,rfl,rfl,rfl,@O ⟩ ?hw ?hc
 (case hw=>w_witness2)
 k_fill
 refine RO.walk (l:=PySem.Challenge.rw_rowsorder_k75_bounds_refused) (c:=467) (T:=465) rfl rfl ?hi (λw h Y=>PySem.W.km_in_of Y) (λw h Y=>PySem.W.km_tabs_of Y _ (UG ..)) ?hKT ?hcd ?F
 case hi=>kernel_rfl
 case hKT=>exact λp=>by kernel_rfl
 case hcd=>exact λp=>by kernel_rfl
 case F=>
  intro w mg fa h KX G hmg
  refine' hA KX G hmg ?F1 ?F2 ?F3 ?F4 ?F5 ?F6 ?F7 ?F8 ?F9 ?F10 ?F11 ?F12 ?F13 ?F14 ?F15 ?F16 ?F17 ?F18 ?F19 ?F20 ?F21 ?F22 ?F23 ?F24 ?F25 ?F26 ?F27 ?F28 ?F29 ?F30 ?F31 ?F32 ?F33 ?F34 ?F35 ?F36 ?F37 ?F38 ?F39 ?F40 ?F41 ?F42 ?F43 ?F44 ?F45 ?F46 ?F47 ?F48 ?F49 ?F50 ?F51 ?F52 ?F53 ?F54 ?F55 ?F56 ?F57 ?F58 ?F59 ?F60 ?F61 ?a62 ?l62 ?c62 ?k62 ?zB ?yFEW ?yMOST_THINGS ?mR ?n0 ?n1 ?n2 ?n3 ?n4 ?n5 ?n6 ?n7 ?n8 ?n9 ?n10 ?n11 ?n12 ?n13 ?n14 ?n15 ?zV ?eR ?e0 ?e1 ?e2 ?up0 ?g1_0 ?g2_0 ?g3_0 ?g4_0 ?g7_0 ?g8_0 ?kR0 ?kV0 ?kt0_0 ?kt0_1 ?kt0_2 ?kt0_3 ?kt0_4 ?kt0_5 ?kt0_6 ?kt0_7 ?kt0_8 ?kt0_9 ?kt0_10 ?kt0_11 ?kt0_12 ?kt0_13 ?kt0_14 ?kt0_15 ?up7 ?g1_7 ?g2_7 ?g3_7 ?g4_7 ?g7_7 ?g8_7 ?kR7 ?kV7 ?kt7_0 ?kt7_1 ?kt7_2 ?kt7_3 ?kt7_4 ?kt7_5 ?kt7_6 ?kt7_7 ?kt7_8 ?kt7_9 ?kt7_10 ?kt7_11 ?kt7_12 ?kt7_13 ?kt7_14 ?kt7_15 ?up12 ?g1_12 ?g2_12 ?g3_12 ?g4_12 ?g7_12 ?g8_12 ?kR12 ?kV12 ?kt12_0 ?kt12_1 ?kt12_2 ?kt12_3 ?kt12_4 ?kt12_5 ?kt12_6 ?kt12_7 ?kt12_8 ?kt12_9 ?kt12_10 ?kt12_11 ?kt12_12 ?kt12_13 ?kt12_14 ?kt12_15 ?g5 ?g6
  case F1=>refine' bu KX G RO.uX ?a ?l ?c ?k;(case a=>k_is);(case l=>k_is);(case c=>k_is);(case k=>k_is)
  case F2=>refine' bu KX G RO.z6 ?a ?l ?c ?k;(case a=>k_is);(case l=>k_is);(case c=>k_is);(case k=>k_is)
  case F3=>refine' bu KX G RO.B3 ?a ?l ?c ?k;(case a=>k_is);(case l=>k_is);(case c=>k_is);(case k=>k_is)
  case F4=>refine' bu KX G RO.Bi ?a ?l ?c ?k;(case a=>k_is);(case l=>k_is);(case c=>k_is);(case k=>k_is)
  case F5=>refine' bu KX G RO.DK ?a ?l ?c ?k;(case a=>k_is);(case l=>k_is);(case c=>k_is);(case k=>k_is)
  case F6=>refine' bu KX G RO.Es ?a ?l ?c ?k;(case a=>k_is);(case l=>k_is);(case c=>k_is);(case k=>k_is)
  case F7=>refine' bu KX G RO.DN ?a ?l ?c ?k;(case a=>k_is);(case l=>k_is);(case c=>k_is);(case k=>k_is)
  case F8=>refine' bu KX G RO.yi ?a ?l ?c ?k;(case a=>k_is);(case l=>k_is);(case c=>k_is);(case k=>k_is)
  case F9=>refine' bu KX G RO.FT ?a ?l ?c ?k;(case a=>k_is);(case l=>k_is);(case c=>k_is);(case k=>k_is)
  case F10=>refine' bu KX G RO.Bk ?a ?l ?c ?k;(case a=>k_is);(case l=>k_is);(case c=>k_is);(case k=>k_is)
  case F11=>refine' bu KX G RO.BZ ?a ?l ?c ?k;(case a=>k_is);(case l=>k_is);(case c=>k_is);(case k=>k_is)
  case F12=>refine' bu KX G RO.yV ?a ?l ?c ?k;(case a=>k_is);(case l=>k_is);(case c=>k_is);(case k=>k_is)
  case F13=>refine' bu KX G RO.AI ?a ?l ?c ?k;(case a=>k_is);(case l=>k_is);(case c=>k_is);(case k=>k_is)
  case F14=>refine' bu KX G RO.GC ?a ?l ?c ?k;(case a=>k_is);(case l=>k_is);(case c=>k_is);(case k=>k_is)
  case F15=>refine' bu KX G RO.vK ?a ?l ?c ?k;(case a=>k_is);(case l=>k_is);(case c=>k_is);(case k=>k_is)
  case F16=>refine' bu KX G RO.yu ?a ?l ?c ?k;(case a=>k_is);(case l=>k_is);(case c=>k_is);(case k=>k_is)
  case F17=>refine' bu KX G RO.vP ?a ?l ?c ?k;(case a=>k_is);(case l=>k_is);(case c=>k_is);(case k=>k_is)
  case F18=>refine' bu KX G RO.D8 ?a ?l ?c ?k;(case a=>k_is);(case l=>k_is);(case c=>k_is);(case k=>k_is)
  case F19=>refine' bu KX G RO.vM ?a ?l ?c ?k;(case a=>k_is);(case l=>k_is);(case c=>k_is);(case k=>k_is)
  case F20=>refine' bu KX G RO.z5 ?a ?l ?c ?k;(case a=>k_is);(case l=>k_is);(case c=>k_is);(case k=>k_is)
  case F21=>refine' bu KX G RO.GN ?a ?l ?c ?k;(case a=>k_is);(case l=>k_is);(case c=>k_is);(case k=>k_is)
  case F22=>refine' bu KX G RO.Fd ?a ?l ?c ?k;(case a=>k_is);(case l=>k_is);(case c=>k_is);(case k=>k_is)
  case F23=>refine' bu KX G RO.zN ?a ?l ?c ?k;(case a=>k_is);(case l=>k_is);(case c=>k_is);(case k=>k_is)
  case F24=>refine' bu KX G RO.uz ?a ?l ?c ?k;(case a=>k_is);(case l=>k_is);(case c=>k_is);(case k=>k_is)
  case F25=>refine' bu KX G RO.uR ?a ?l ?c ?k;(case a=>k_is);(case l=>k_is);(case c=>k_is);(case k=>k_is)
  case F26=>refine' bu KX G RO.BP ?a ?l ?c ?k;(case a=>k_is);(case l=>k_is);(case c=>k_is);(case k=>k_is)
  case F27=>refine' bu KX G RO.NX ?a ?l ?c ?k;(case a=>k_is);(case l=>k_is);(case c=>k_is);(case k=>k_is)
  case F28=>refine' bu KX G RO.sJ ?a ?l ?c ?k;(case a=>k_is);(case l=>k_is);(case c=>k_is);(case k=>k_is)
  case F29=>refine' bu KX G RO.yJ ?a ?l ?c ?k;(case a=>k_is);(case l=>k_is);(case c=>k_is);(case k=>k_is)
  case F30=>refine' bu KX G RO.Kd ?a ?l ?c ?k;(case a=>k_is);(case l=>k_is);(case c=>k_is);(case k=>k_is)
  case F31=>refine' bu KX G RO.Bz ?a ?l ?c ?k;(case a=>k_is);(case l=>k_is);(case c=>k_is);(case k=>k_is)
  case F32=>refine' bu KX G RO.vY ?a ?l ?c ?k;(case a=>k_is);(case l=>k_is);(case c=>k_is);(case k=>k_is)
  case F33=>refine' bu KX G RO.Bm ?a ?l ?c ?k;(case a=>k_is);(case l=>k_is);(case c=>k_is);(case k=>k_is)
  case F34=>refine' bu KX G RO.A5 ?a ?l ?c ?k;(case a=>k_is);(case l=>k_is);(case c=>k_is);(case k=>k_is)
  case F35=>refine' bu KX G RO.zL ?a ?l ?c ?k;(case a=>k_is);(case l=>k_is);(case c=>k_is);(case k=>k_is)
  case F36=>refine' bu KX G RO.Ab ?a ?l ?c ?k;(case a=>k_is);(case l=>k_is);(case c=>k_is);(case k=>k_is)
  case F37=>refine' bu KX G RO.BL ?a ?l ?c ?k;(case a=>k_is);(case l=>k_is);(case c=>k_is);(case k=>k_is)
  case F38=>refine' bu KX G RO.ze ?a ?l ?c ?k;(case a=>k_is);(case l=>k_is);(case c=>k_is);(case k=>k_is)
  case F39=>refine' bu KX G RO.EY ?a ?l ?c ?k;(case a=>k_is);(case l=>k_is);(case c=>k_is);(case k=>k_is)
  case F40=>refine' bu KX G RO.AD ?a ?l ?c ?k;(case a=>k_is);(case l=>k_is);(case c=>k_is);(case k=>k_is)
  case F41=>refine' Oc KX G RO.B0 ?a ?l ?c ?k;(case a=>k_is);(case l=>k_is);(case c=>k_is);(case k=>k_is)
  case F42=>refine' bu KX G RO.JI ?a ?l ?c ?k;(case a=>k_is);(case l=>k_is);(case c=>k_is);(case k=>k_is)
  case F43=>refine' bu KX G RO.vL ?a ?l ?c ?k;(case a=>k_is);(case l=>k_is);(case c=>k_is);(case k=>k_is)
  case F44=>refine' bu KX G RO.Fv ?a ?l ?c ?k;(case a=>k_is);(case l=>k_is);(case c=>k_is);(case k=>k_is)
  case F45=>refine' bu KX G RO.KL ?a ?l ?c ?k;(case a=>k_is);(case l=>k_is);(case c=>k_is);(case k=>k_is)
  case F46=>refine' bu KX G RO.sI ?a ?l ?c ?k;(case a=>k_is);(case l=>k_is);(case c=>k_is);(case k=>k_is)
  case F47=>refine' bu KX G RO.yc ?a ?l ?c ?k;(case a=>k_is);(case l=>k_is);(case c=>k_is);(case k=>k_is)
  case F48=>refine' bu KX G RO.FJ ?a ?l ?c ?k;(case a=>k_is);(case l=>k_is);(case c=>k_is);(case k=>k_is)
  case F49=>refine' bu KX G RO.HQ ?a ?l ?c ?k;(case a=>k_is);(case l=>k_is);(case c=>k_is);(case k=>k_is)
  case F50=>refine' bu KX G RO.qJ ?a ?l ?c ?k;(case a=>k_is);(case l=>k_is);(case c=>k_is);(case k=>k_is)
  case F51=>refine' bu KX G RO.yB ?a ?l ?c ?k;(case a=>k_is);(case l=>k_is);(case c=>k_is);(case k=>k_is)
  case F52=>refine' bu KX G RO.zP ?a ?l ?c ?k;(case a=>k_is);(case l=>k_is);(case c=>k_is);(case k=>k_is)
  case F53=>refine' bu KX G RO.yd ?a ?l ?c ?k;(case a=>k_is);(case l=>k_is);(case c=>k_is);(case k=>k_is)
  case F54=>refine' bu KX G RO.xN ?a ?l ?c ?k;(case a=>k_is);(case l=>k_is);(case c=>k_is);(case k=>k_is)
  case F55=>refine' bu KX G RO.BE ?a ?l ?c ?k;(case a=>k_is);(case l=>k_is);(case c=>k_is);(case k=>k_is)
  case F56=>refine' bu KX G RO.zK ?a ?l ?c ?k;(case a=>k_is);(case l=>k_is);(case c=>k_is);(case k=>k_is)
  case F57=>refine' bu KX G RO.sy ?a ?l ?c ?k;(case a=>k_is);(case l=>k_is);(case c=>k_is);(case k=>k_is)
  case F58=>refine' bu KX G RO.sC ?a ?l ?c ?k;(case a=>k_is);(case l=>k_is);(case c=>k_is);(case k=>k_is)
  case F59=>refine' bu KX G RO.Ae ?a ?l ?c ?k;(case a=>k_is);(case l=>k_is);(case c=>k_is);(case k=>k_is)
  case F60=>refine' bu KX G RO.xO ?a ?l ?c ?k;(case a=>k_is);(case l=>k_is);(case c=>k_is);(case k=>k_is)
  case F61=>refine' bu KX G RO.uh ?a ?l ?c ?k;(case a=>k_is);(case l=>k_is);(case c=>k_is);(case k=>k_is)
  case a62=>k_is
  case l62=>k_is
  case c62=>k_is
  case k62=>k_is
  case zB=>kernel_rfl
  case yFEW=>k_is
  case yMOST_THINGS=>k_is
  case mR=>k_is
  case n0=>k_is
  case n1=>k_is
  case n2=>k_is
  case n3=>k_is
  case n4=>k_is
  case n5=>k_is
  case n6=>k_is
  case n7=>k_is
  case n8=>k_is
  case n9=>k_is
  case n10=>k_is
  case n11=>k_is
  case n12=>k_is
  case n13=>k_is
  case n14=>k_is
  case n15=>k_is
  case zV=>k_is
  case eR=>kernel_rfl
  case e0=>kernel_rfl
  case e1=>kernel_rfl
  case e2=>kernel_rfl
  case up0=>kernel_rfl
  case g1_0=>kernel_rfl
  case g2_0=>kernel_rfl
  case g3_0=>kernel_rfl
  case g4_0=>kernel_rfl
  case g7_0=>kernel_rfl
  case g8_0=>kernel_rfl
  case kR0=>kit_is
  case kV0=>kit_is
  case kt0_0=>kit_is
  case kt0_1=>kit_is
  case kt0_2=>kit_is
  case kt0_3=>kit_is
  case kt0_4=>kit_is
  case kt0_5=>kit_is
  case kt0_6=>kit_is
  case kt0_7=>kit_is
  case kt0_8=>kit_is
  case kt0_9=>kit_is
  case kt0_10=>kit_is
  case kt0_11=>kit_is
  case kt0_12=>kit_is
  case kt0_13=>kit_is
  case kt0_14=>kit_is
  case kt0_15=>kit_is
  case up7=>kernel_rfl
  case g1_7=>kernel_rfl
  case g2_7=>kernel_rfl
  case g3_7=>kernel_rfl
  case g4_7=>kernel_rfl
  case g7_7=>kernel_rfl
  case g8_7=>kernel_rfl
  case kR7=>kit_is
  case kV7=>kit_is
  case kt7_0=>kit_is
  case kt7_1=>kit_is
  case kt7_2=>kit_is
  case kt7_3=>kit_is
  case kt7_4=>kit_is
  case kt7_5=>kit_is
  case kt7_6=>kit_is
  case kt7_7=>kit_is
  case kt7_8=>kit_is
  case kt7_9=>kit_is
  case kt7_10=>kit_is
  case kt7_11=>kit_is
  case kt7_12=>kit_is
  case kt7_13=>kit_is
  case kt7_14=>kit_is
  case kt7_15=>kit_is
  case up12=>kernel_rfl
  case g1_12=>kernel_rfl
  case g2_12=>kernel_rfl
  case g3_12=>kernel_rfl
  case g4_12=>kernel_rfl
  case g7_12=>kernel_rfl
  case g8_12=>kernel_rfl
  case kR12=>kit_is
  case kV12=>kit_is
  case kt12_0=>kit_is
  case kt12_1=>kit_is
  case kt12_2=>kit_is
  case kt12_3=>kit_is
  case kt12_4=>kit_is
  case kt12_5=>kit_is
  case kt12_6=>kit_is
  case kt12_7=>kit_is
  case kt12_8=>kit_is
  case kt12_9=>kit_is
  case kt12_10=>kit_is
  case kt12_11=>kit_is
  case kt12_12=>kit_is
  case kt12_13=>kit_is
  case kt12_14=>kit_is
  case kt12_15=>kit_is
  case g5=>kernel_rfl
  case g6=>kernel_rfl
end
namespace L2.ST
open PySem PySem.SetTable
def Up(mask i perturb:Nat):Probe:={j:=i,more:=runEnd mask i-i,i,perturb,dummy:=none}
def st(mask:Nat)(h:Int):Probe:=Up mask (bits h%(mask+1)) (bits h)
def nx(mask i:Nat):Nat:=(i*5+1)%(mask+1)
theorem j6{α:Type}[DecidableEq α]:∀{l m:@Bl},l.Nodup->(∀x,x∈l->x∈m)->l.length<=m.length
 | [],_,_,_=>Vl _
 |a::l,m,hn,hs=>by
  have ha:=hs a (UG ..)
  have hl:=Vy.mp hn
  have:=j6 (l:=l) (m:=m.erase a) hl.2 λx hx=>by
   refine(List.mem_erase_of_ne ?_).mpr (hs x @J3)
   rintro rfl;exact hl.1 hx
  rw[Xb ha]at this
  have:0<m.length:=@US
  simp only[UY];omega
abbrev own(o:Array (@If))(j:Nat):@If:=o.getD j none
abbrev Pr:=Int×Int
def hp(p:Pr):Int:=reduceHash (Builtin.Tuple.tupleHashOf [hashInt p.1,hashInt p.2])
def AJ(w:World):Bool:= !(w.params.followText "set-order")
section
variable {prog:Program}{w:World}{A:Around}{E:@L}{s:Shared}{R:Result->Shared->Prop}{I:Addr}{fp wr:@Ao}{n:Nat}{P:Nat->Value->Prop}{St:Nat->Heap->Prop}
def Aw(a:Value){Q1:@L}
  (h:Q1 (@AN) {s with heap:=s.heap.push {cls:=@Dk,dict:=none,data:=.set #[] 0 @EY}}) :
  codeAny @Ak A (.call (.builtin "set.__new__") @SA) (wants Q1 E) s:=by
 refine codeAny_of_tree ?_
 show wpAny _ A.in1 (do (checkBuiltinCall "set.__new__" @SA);again (.builtin "set.__new__" @SA)) _ _ s
 refine UA (wpAny_of_eq (F.newCall_set_1 a) (U3 ⟨plainId_quiet F.plain_set_new _,WI F.entry_set_new ?_⟩))
 rw[Wx F.plain_set_new _]
 (unfold Builtin.«set.__new__» Builtin.Frozenset.newClass)
 have hsub0:=sub_set_self
 obtain⟨hp0,g0,d0,tk0,os0⟩:=s
 dsimp only
 wp_walk
 (refine wpAny_askSetting (U3 ?_))
 dsimp only
 simp only[newObj]
 (refine UA (wpAny_alloc (U3 ?_)))
 exact U3 h
structure Src(prog:Program)(w:World)(h:Heap)(l:Addr)(vs:@e)(T:String)(itO:Obj)(St:Addr->Nat->Heap->Prop):Prop where
 ty:∃o,h.get? l=some o/\o.cls=.type T
 ns:isSubtype @J1 (@Dk)=@D6
 nf:isSubtype @J1 (.type "frozenset")=@D6
 nd:(Value.type T==Value.type "dict")=false
 it:∀(A:Around) (s1:Shared) (Q:@L) (E:@L),(∀b o,h.get? b=some o->s1.heap.get? b=some o)->Q (@Mr) {s1 with heap:=s1.heap.push itO}->wpAny @Ak A (pyIter @Jg) Q E s1
 st:∀(h1:Heap),(∀b o,h.get? b=some o->h1.get? b=some o)->St h1.objs.size 0 (h1.push itO)
 wk:∀(A:Around) (I:Addr),A.handled=none->l≠I->Walks prog w A I [I,l] [I] vs.length (λi v=>vs[i]? =some v) (St I)
def Src.list{h:Heap}{l:Addr}{vs:@e}(hl:h.IsList l vs.toArray):Src prog w h l vs "list" {cls:=@Em,data:=.fields #[.ref l,@N9]} (λI i h'=>h'.IsListIter I l i/\h'.IsList l vs.toArray):=by
 obtain⟨o,ho,hc,n,hd⟩:=id hl
 refine⟨⟨o,ho,hc⟩,F.sub_list_set,F.sub_list_frozenset,by decide,λA s1 Q E k hQ=>Ww @Vq hQ,λh1 k=>@M9,λA I hh hne=>?_⟩
 have:=Walks.list (prog:=prog) (w:=w) hh I l hne vs.toArray
 simpa using this
def sub_tuple_set:isSubtype (@CA) (@Dk)=@D6:=by rw[isSubtype_type];kernel_rfl
def sub_tuple_frozenset:isSubtype (@CA) (.type "frozenset")=@D6:=by rw[isSubtype_type];kernel_rfl
def Src.tuple{h:Heap}{l:Addr}{vs:@e}(hl:h.IsTuple l vs.toArray):Src prog w h l vs "tuple" {cls:=@XI,data:=.fields #[.ref l,@N9]} (λI i h'=>h'.IsTupleIter I l i/\h'.IsTuple l vs.toArray):=by
 obtain⟨o,ho,hc,n,hd⟩:=id hl
 refine⟨⟨o,ho,hc⟩,sub_tuple_set,sub_tuple_frozenset,by decide,λA s1 Q E k hQ=>WH @Vq hQ,λh1 k=>@M9,λA I hh hne=>?_⟩
 have:=Walks.tuple (prog:=prog) (w:=w) hh I l hne vs.toArray
 simpa using this
end
end L2.ST
namespace OM
abbrev Pr:=Int×Int
def Ip(p q:Pr):Prop:=p.1<q.1\/(p.1=q.1/\p.2<q.2)
instance (p q:Pr):Decidable (Ip p q):=by unfold Ip;infer_instance
def l6(p:Pr):¬Ip p p:=by unfold Ip;omega
def Em{p q r:Pr}(a:Ip p q)(b:Ip q r):Ip p r:=by unfold Ip at *;omega
abbrev Fi(l:@F):Prop:=l.Pairwise Ip
theorem qd:∀{l m:@F},Fi l->Fi m->(∀x,x∈l↔x∈m)->l=m
 | [],[],_,_,_=>rfl
 | [],b::m,_,_,h=>absurd ((h b).mpr (UG ..)) @W
 |a::l,[],_,_,h=>absurd ((h a).mp (UG ..)) @W
 |a::l,b::m,hl,hm,h=>by
  have hl':=Wl.mp hl
  have hm':=Wl.mp hm
  have e:a=b:=by
   rcases UD.mp ((h a).mp (UG ..))with e|e
   ·exact e
   ·rcases UD.mp ((h b).mpr (UG ..))with e'|e'
    ·exact e'.symm
    ·exact absurd (Em (hm'.1 a e) (hl'.1 b e')) (l6 _)
  subst e
  congr 1
  refine qd hl'.2 hm'.2 λx=>⟨λhx=>?_,λhx=>?_⟩
  ·rcases UD.mp ((h x).mp @J3)with e|e
   ·subst e;exact absurd (hl'.1 x hx) (l6 _)
   ·exact e
  ·rcases UD.mp ((h x).mpr @J3)with e|e
   ·subst e;exact absurd (hm'.1 x hx) (l6 _)
   ·exact e
def wJ{l:@F}(h:Fi l):l.Nodup:=h.imp λ{a b} hab e=>by subst e;exact l6 _ hab
def i7{l:@F}(p:Pr->Bool)(h:Fi l):Fi (l.filter p):=h.sublist Wg
def cu(n:Nat):@F:=(List.range (n*n)).map λk=>(((k/n:Nat):Int),((k%n:Nat):Int))
def b9{n:Nat}{p:Pr}:p∈cu n↔(0<=p.1/\p.1<n)/\(0<=p.2/\p.2<n):=by
 unfold cu
 rw[U4]
 constructor
 ·rintro⟨k,hk,rfl⟩
  have hk:=Vq.mp hk
  have hn:0<n:=by
   rcases Nat.eq_zero_or_pos n with e|e
   ·subst e;omega
   ·exact e
  have h1:k/n<n:=Nat.div_lt_of_lt_mul hk
  have h2:k%n<n:=Nat.mod_lt _ hn
  generalize k/n=q at h1
  generalize k%n=r at h2
  exact⟨⟨Int.natCast_nonneg _,by dsimp only;omega⟩,⟨Int.natCast_nonneg _,by dsimp only;omega⟩⟩
 ·rintro⟨⟨a0,a1⟩,⟨b0,b1⟩⟩
  have hn:0<n:=@B
  refine⟨p.1.toNat*n+p.2.toNat,Vq.mpr ?_,?_⟩
  ·have h1:p.1.toNat+1<=n:=@B
   have h2:p.2.toNat<n:=@B
   have:=Nat.mul_le_mul_right n h1
   rw[Nat.add_mul]at this
   omega
  ·have h2:p.2.toNat<n:=@B
   have e1:(p.1.toNat*n+p.2.toNat)/n=p.1.toNat:=by
    rw[Nat.mul_comm,Nat.mul_add_div hn,Nat.div_eq_of_lt h2];rfl
   have e2:(p.1.toNat*n+p.2.toNat)%n=p.2.toNat:=by
    rw[Nat.mul_comm,Nat.mul_add_mod,Nat.mod_eq_of_lt h2]
   rw[e1,e2]
   refine Prod.ext ?_ ?_<;>dsimp only<;>omega
def j8(n:Nat):Fi (cu n):=by
 unfold cu
 refine Xj.mpr (Xc ?_ List.pairwise_lt_range)
 intro a b ha hb hab
 have ha:=Vq.mp ha
 have hb:=Vq.mp hb
 have hn:0<n:=by
  rcases Nat.eq_zero_or_pos n with e|e
  ·subst e;omega
  ·exact e
 have h1:a/n<=b/n:=Nat.div_le_div_right (WT hab)
 have e1:=Nat.div_add_mod a n
 have e2:=Nat.div_add_mod b n
 unfold Ip
 dsimp only
 rcases Nat.lt_or_ge (a/n) (b/n)with c|c
 ·left;omega
 ·right
  have e:a/n=b/n:=@B
  rw[e]at e1
  omega
open Classical in
noncomputable def my(n:Nat)(R:Int->Int->Prop):@F:=(cu n).filter λp=>decide (R p.1 p.2)
def qb{n:Nat}{R:Int->Int->Prop}{p:Pr}:p∈my n R↔((0<=p.1/\p.1<n)/\(0<=p.2/\p.2<n))/\R p.1 p.2:=by
 unfold my
 rw[UE,b9]
 simp
def uY(n:Nat)(R:Int->Int->Prop):Fi (my n R):=i7 _ (j8 n)
def Bg{n:Nat}{R S:Int->Int->Prop}(h:∀a b:Int,0<=a->a<n->0<=b->b<n->(R a b↔S a b)):my n R=my n S:=by
 refine qd (uY n R) (uY n S) λx=>?_
 rw[qb,qb]
 constructor
 ·rintro⟨⟨⟨a,b⟩,c,d⟩,r⟩;exact⟨⟨⟨a,b⟩,c,d⟩,(h _ _ a b c d).mp r⟩
 ·rintro⟨⟨⟨a,b⟩,c,d⟩,r⟩;exact⟨⟨⟨a,b⟩,c,d⟩,(h _ _ a b c d).mpr r⟩
def Wn(n:Nat)(l:@F):Prop:=∀p,p∈l->(0<=p.1/\p.1<n)/\(0<=p.2/\p.2<n)
abbrev Mem(l:@F)(a b:Int):Prop:=(a,b)∈l
def Ej{n:Nat}{l:@F}(w:Wn n l)(r:Fi l):my n (Mem l)=l:=by
 refine qd (uY n _) r λx=>?_
 rw[qb]
 exact⟨λh=>h.2,λh=>⟨w x h,h⟩⟩
def Gy(n:Nat)(R:Int->Int->Prop):(my n R).length<=n*n:=by
 unfold my
 refine Vp (Vg ..) ?_
 unfold cu;simp
inductive Tr(R:Int->Int->Prop):Int->Int->Prop
 |one {a b}:R a b->Tr R a b
 |more {a b c}:R a b->Tr R b c->Tr R a c
theorem Tr.trans{R:Int->Int->Prop}{a b c:Int}(h:Tr R a b)(k:Tr R b c):Tr R a c:=by
 induction h with
 |one r=>exact .more r k
 |more r _ ih=>exact .more r (ih k)
theorem Tr.least{R S:Int->Int->Prop}(f:∀a b,R a b->S a b)(t:∀a b c,S a b->S b c->S a c){a b:Int}(h:Tr R a b):S a b:=by
 induction h with
 |one r=>exact f _ _ r
 |more r _ ih=>exact t _ _ _ (f _ _ r) ih
structure Ord(n:Nat)(l:@F):Prop where
 lo:1<=n
 hi:n<=8
 wn:Wn n l
 ris:Fi l
 irr:∀a,(a,a)∉l
 tr:∀a b c,(a,b)∈l->(b,c)∈l->(a,c)∈l
def Ord.tr_mem{n:Nat}{l:@F}(O:Ord n l){a b:Int}:Tr (Mem l) a b↔(a,b)∈l:=
 ⟨λh=>h.least (λ_ _ r=>r) λa b c=>O.tr a b c,λh=>.one h⟩
def Ord.closed{n:Nat}{l:@F}(O:Ord n l):my n (Tr (Mem l))=l:=by
 rw[Bg (S:=Mem l) λa b _ _ _ _=>O.tr_mem,Ej O.wn O.ris]
theorem lW{l m:@F}(hl:l.Nodup)(h:∀x,x∈l->x∈m):l.length<=m.length:=by
 induction l generalizing m with
 |nil=>exact Vl _
 |cons a l ih=>
  have ha:=h a (UG ..)
  have hl':=Vy.mp hl
  have:=ih (m:=m.erase a) hl'.2 λx hx=>by
   refine(List.mem_erase_of_ne ?_).mpr (h x @J3)
   rintro rfl;exact hl'.1 hx
  rw[Xb ha]at this
  have:0<m.length:=@US
  simp only[UY];omega
def sub_eq{l m:@F}(hl:Fi l)(hm:Fi m)(h:∀x,x∈l->x∈m)(e:l.length=m.length):l=m:=by
 refine qd hl hm λx=>⟨h x,λhx=>Classical.byContradiction λhn=>?_⟩
 have:=lW (l:=x::l) (m:=m) (Vy.mpr ⟨hn,wJ hl⟩) λy hy=>by
  rcases UD.mp hy with e|e
  ·subst e;exact hx
  ·exact h y e
 simp only[UY]at this
 omega
abbrev Tb:=Nat->Nat->Bool
def Tb.set(M:Tb)(a b:Nat):Tb:=λx y=>if x=a/\y=b then true else M x y
def JK(M:Tb)(m:Nat):Prop:=∀k a b,k<m->M a k=true->M k b=true->M a b=true
def Phase(M0 M:Tb)(m:Nat)(D:Nat->Nat->Prop):Prop:=∀a b,M a b=true↔M0 a b=true\/(D a b/\M0 a m=true/\M0 m b=true)
def Phase.start(M:Tb)(m:Nat):Phase M M m λ_ _=>False:=λa b=>by simp
def Phase.row{M0 M:Tb}{m:Nat}{D:Nat->Nat->Prop}(P:@K7)(a:Nat):M a m=true↔M0 a m=true:=by
 rw[P]
 exact⟨λh=>h.elim id λh=>h.2.1,.inl⟩
def Phase.col{M0 M:Tb}{m:Nat}{D:Nat->Nat->Prop}(P:@K7)(b:Nat):M m b=true↔M0 m b=true:=by
 rw[P]
 exact⟨λh=>h.elim id λh=>h.2.2,.inl⟩
def Phase.step{M0 M:Tb}{m:Nat}{D:Nat->Nat->Prop}(P:@K7)(x y:Nat) :
  Phase M0 (if M x m=true/\M m y=true then M.set x y else M) m (λa b=>D a b\/(a=x/\b=y)):=λa b=>by
 have r:=P.row x
 have c:=P.col y
 by_cases h:M x m=true/\M m y=true
 ·rw[Uz h]
  unfold Tb.set
  by_cases e:a=x/\b=y
  ·rw[Uz e]
   obtain⟨rfl,rfl⟩:=e
   simp only[true_iff]
   exact .inr ⟨.inr @W,r.mp h.1,c.mp h.2⟩
  ·rw[UJ e,P]
   constructor
   ·rintro(q|⟨d,q⟩)
    ·exact .inl q
    ·exact .inr ⟨.inl d,q⟩
   ·rintro(q|⟨d|d,q⟩)
    ·exact .inl q
    ·exact .inr ⟨d,q⟩
    ·exact absurd d e
 ·rw[UJ h,P]
  constructor
  ·rintro(q|⟨d,q⟩)
   ·exact .inl q
   ·exact .inr ⟨.inl d,q⟩
  ·rintro(q|⟨d|⟨rfl,rfl⟩,q1,q2⟩)
   ·exact .inl q
   ·exact .inr ⟨d,q1,q2⟩
   ·exact absurd ⟨r.mpr q1,c.mpr q2⟩ h
def Phase.done{M0 M:Tb}{m n:Nat}{D:Nat->Nat->Prop}(P:@K7)(hD:∀a b,a<n->b<n->D a b)(hM:∀a b,M0 a b=true->a<n/\b<n)(T:JK M0 m) :
  JK M (m+1)/\∀a b,M a b=true->a<n/\b<n:=by
 have hM':∀a b,M a b=true->a<n/\b<n:=λa b h=>by
  rcases(P a b).mp h with q|⟨_,q1,q2⟩
  ·exact hM a b q
  ·exact⟨(hM _ _ q1).1,(hM _ _ q2).2⟩
 have put:∀a b,M0 a m=true->M0 m b=true->M a b=true:=λa b h1 h2=>(P a b).mpr (.inr ⟨hD a b (hM _ _ h1).1 (hM _ _ h2).2,h1,h2⟩)
 refine⟨λk a b hk h1 h2=>?_,hM'⟩
 rcases Nat.lt_or_ge k m with c|c
 ·rcases(P a k).mp h1 with q1|⟨_,q1,q1'⟩
  ·rcases(P k b).mp h2 with q2|⟨_,q2,q2'⟩
   ·exact(P a b).mpr (.inl (T k a b c q1 q2))
   ·exact put a b (T k a m c q1 q2) q2'
  ·rcases(P k b).mp h2 with q2|⟨_,q2,q2'⟩
   ·exact put a b q1 (T k m b c q1' q2)
   ·exact put a b q1 q2'
 ·have e:k=m:=@B
  subst e
  exact put a b ((P.row a).mp h1) ((P.col b).mp h2)
structure Tab(n:Nat)(ps:@F)(M:Tb):Prop where
 inn:∀a b,M a b=true->a<n/\b<n
 sub:∀a b:Nat,((a:Int),(b:Int))∈ps->M a b=true
 sup:∀a b:Nat,M a b=true->Tr (Mem ps) a b
def Tab.phase{n:Nat}{ps:@F}{M0 M:Tb}{m:Nat}{D:Nat->Nat->Prop}(T:Tab n ps M0)(P:@K7):Tab n ps M:=
 ⟨λa b h=>by
  rcases(P a b).mp h with q|⟨_,q1,q2⟩
  ·exact T.inn a b q
  ·exact⟨(T.inn _ _ q1).1,(T.inn _ _ q2).2⟩,
  λa b h=>(P a b).mpr (.inl (T.sub a b h)),
  λa b h=>by
  rcases(P a b).mp h with q|⟨_,q1,q2⟩
  ·exact T.sup a b q
  ·exact(T.sup _ _ q1).trans (T.sup _ _ q2)⟩
def Tab.all{n:Nat}{ps:@F}{M:Tb}(w:Wn n ps)(T:Tab n ps M)(H:JK M n)(a b:Nat):M a b=true↔Tr (Mem ps) a b:=by
 refine⟨T.sup a b,λh=>?_⟩
 have key:∀{x y:Int},Tr (Mem ps) x y->M x.toNat y.toNat=true:=λ{x y} h=>by
  induction h with
  | @one x y r=>
   have:=w _ r
   refine T.sub _ _ ?_
   have e1:((x.toNat:Nat):Int)=x:=by simp only at this;omega
   have e2:((y.toNat:Nat):Int)=y:=by simp only at this;omega
   rw[e1,e2];exact r
  | @more x y z r _ ih=>
   have:=w _ r
   have e1:((x.toNat:Nat):Int)=x:=by simp only at this;omega
   have e2:((y.toNat:Nat):Int)=y:=by simp only at this;omega
   have q:M x.toNat y.toNat=true:=T.sub _ _ (by rw[e1,e2];exact r)
   exact H y.toNat _ _ (T.inn _ _ q).2 q ih
 have:=key h
 simpa using this
end OM
namespace L2
open PySem PySem.Spec PyProof.Rows
section
variable {prog:Program}{w:World}{A:Around}{E:@L}{s:Shared}{K:Frag}{x D:Addr}{ox:Obj}
structure Af(K:Frag)(D:Addr):Prop where
 cl:(PySem.W.clsIn K D).isSome=true
 ga:PySem.W.findIn K @BO "__getattribute__"=some (some (.builtin "BaseException.__getattribute__"))
 gn:PySem.W.findIn K @BO "__getattr__"=@QJ
 cls:PySem.W.findIn K @BO "__class__"=some (some (.builtin "object.__class__"))
 get:PySem.W.specialIn K (.builtin "object.__class__") "__get__"=some (some (.builtin "getset_descriptor.__get__"))
 tk:PySem.W.takesIn K (.builtin "object.__class__")=@C1
 ob:PySem.W.mroIn K D @JV=@C1
 be:PySem.W.mroIn K D @Cc=@C1
def G9(e:Af K D):PySem.W.findObj K D none "__class__"=some (.bind (.builtin "getset_descriptor.__get__") (.builtin "object.__class__")):=by
 obtain⟨cd,hc⟩:=Wa.mp e.cl
 unfold PySem.W.findObj
 rw[hc,Option.bind_some,e.cls,Option.bind_some]
 simp[e.get,e.tk]
def EW{M:Model}{nameV:Value}{Q:Unit->Shared->Prop}(e:Af K D)(X:@HV)(I:@Ep)(hq:Q () s):wpAny M A (checkBuiltinCall "BaseException.__getattribute__" ⟨[.ref x,nameV],[]⟩) Q E s:=by
 have hk:builtinKind "BaseException.__getattribute__"=some .slot:=@O
 have hsp:splitId "BaseException.__getattribute__"=some ("BaseException","__getattribute__"):=@O
 have ha:=F.args_bexc_ga @SD nameV
 have L0:=I.type (M:=M)
 have L1:=PySem.W.looks_mroIn (M:=M) X e.be
 simp only[checkBuiltinCall,hk,hsp]
 obtain⟨hh,g,d,t,os⟩:=s
 refine UA ?_
 unfold isInstance
 repeat(first
  |with_reducible refine L0.at ?_
  |with_reducible refine L1.at ?_
  |wp_step)
 exact hq
def JT{tk:Tok}{Q:Fin->Shared->Prop}(e:Af K D)(X:@HV)(I:@Ep)(hq:Q (.done (.ret @BO)) s):wpAny @Ak A (Builtin.«object.__getattribute__» ⟨[.ref x,.str "__class__" tk],[]⟩) Q E s:=by
 have L0:=I.type (M:=@Nx)
 have L1:=PySem.W.looks_find (M:=@Nx) X I (G9 e)
 obtain⟨hh,g,d,t,os⟩:=s
 repeat(any_goals(first
  |assumption
  |with_reducible refine L0.at ?_
  |with_reducible refine L1.at ?_
  |wp_step))
 exact PySem.W.class_get X I e.ob (U3 hq)
def Nu{tk:Tok}{Q:@L}(FB:@UP)(e:Af K D)(X:@HV)(I:@Ep)(hq:Q @BO s):wpAny @Ak A (getAttrBy @SD (.str "__class__" tk) false) Q E s:=by
 have f3:=FB.ga.bind @SD
 have hx2:(Value.builtin "BaseException.__getattribute__"==Value.builtin "object.__getattribute__")=false:=@O
 have hx1:(onTheHeap (Value.ref D)&&Value.builtin "BaseException.__getattribute__"==Value.builtin "object.__getattribute__")=false:=by rw[hx2];rfl
 have L0:=I.type (M:=@Nx)
 have L1:=PySem.W.looks_findIn (M:=@Nx) X e.ga
 have L2:=PySem.W.looks_findIn (M:=@Nx) X e.gn
 obtain⟨hh,g,d,t,os⟩:=s
 repeat(any_goals(first
  |assumption
  |with_reducible refine L0.at ?_
  |with_reducible refine L1.at ?_
  |with_reducible refine L2.at ?_
  |wp_step))
 exact codeAny_call_builtin FB.ga.plain F.entry_bexc_ga (EW e X I (JT e X I (PySem.W.handed_on rfl hq)))
def GO{Q:@DA->Shared->Prop}(FB:@UP)(e:Af K D)(X:@HV)(I:@Ep)(hq:Q (@Wz) {s with toks:=s.toks+1}):wpAny @Ak A (getAttr? @SD "__class__") Q E s:=by
 unfold getAttr? getAttrBy?
 exact UA (wpAny_mkText (UA (wpAny_attempt (Nu FB e X I (U3 hq)))))
def iE.inst{h:Heap}(i:iE x @BO h):∃ox,PySem.W.InstAt h x ox D none:=by
 obtain⟨o,vs,a,b,c,d,_⟩:=i
 exact⟨o,a,b,by unfold PySem.W.notCls;rw[d],by rw[c];trivial⟩
def HP(e:Af K D):PySem.W.KitX K @SD @BO (iE x @BO) where
 ty:=λ_ _ _ i=>let⟨_,I⟩:=i.inst;I.type
 it:=λ_ _ X _=>by
  obtain⟨cdD,hcD⟩:=Wa.mp e.cl
  unfold PySem.W.clsIn at hcD
  split at hcD
  ·rename_i c' d' cd' sl' ho
   intro A' Q' E' s' k q
   unfold isType loadHead
   exact UA (wpAny_loadPart (k _ _ (X _ _ ho)) (U3 q))
  ·cases hcD
 ne:=λh tp dd its n sl X htp=>by
  obtain⟨cdD,hcD⟩:=Wa.mp e.cl
  refine Bool.eq_false_iff.mpr λq=>?_
  have e:D=tp:=Value.ref.inj (beq_iff_eq.mp q)
  subst e
  unfold PySem.W.clsIn at hcD
  split at hcD
  ·rename_i c' d' cd' sl' ho
   have z:=(X _ _ ho).symm.trans htp
   cases z
  ·cases hcD
 ca:=λX i k=>let⟨_,I⟩:=i.inst;GO F.excAttr_ValueError e X I k
end
end L2
namespace L2
open PySem PySem.SeqAt PySem.Spec PyProof.Rows
section
variable {X:Cx}
def QN(K:Frag):List V->Hp->VK->Prop:=λxs H Q=>∃(x D:Addr) (c:V) (C:Value) (b:Bool),xs= [.ref x,c]/\(∀u,RelV c u->u=C)/\H x=some (.ext (iE x @BO))/\Af K D/\PySem.W.kitOne K @BO C=some b/\Q @L3 H
def bZ:fQ X @Hp (QN X.K):=by
 intro pins s σ H xs us Q I r h
 obtain⟨x,D,c,C,b,rfl,hc,hx,e,k,q⟩:=h
 obtain⟨u,v,rfl,rx,rc⟩:=@W3
 cases rx
 rw[hc v rc]
 obtain⟨p,_,_⟩:=(show cW X.prog X.w H s.heap x (.ext (iE x @BO))from I.hok x _ hx)
 exact Vv (HP e) I.kIn p k (λz=>nomatch z) λtk=>@Jp
end
end L2
namespace L2
open PySem PySem.Spec PyProof.Rows
section
variable {X:Cx}
def oP(hu:X.A.units+100<cLine):nv X (compareOp .NotIn) (OD X.K true):=by
 intro pins s σ H x y v u Q I rx ry h
 obtain⟨p,xs,d,ds,rfl,hq,hs,hx,s1,s2,q⟩:=h
 cases ry
 obtain⟨bs,r2⟩:=hx.reads I rx
 have key:∀{e:PyData} {as:@Ao} {u:Value},@Ey=true->@Eb->@Rb:=λ{e as u} h1 h2=>by
  refine SeqAt.eqAt_reads _ _ _ _ _ _ _ _ h2 r2 (V8 h1) (V8 s1) ?_
  have:=@VU
  show X.A.units+1+_<_
  omega
 rcases hq with hq|hq
 ·obtain⟨its,r,pl,hz⟩:=@G6
  obtain⟨f,e1,e2⟩:=@Or
  refine SeqAt.notIn_listAt f pl.isList (λw hw=>?_) ⟨.bl _,H,I,rfl,?_⟩
  ·obtain⟨e,as,hm,rd,ef⟩:=e2 w (by simpa using hw)
   rw[ef];exact @Me
  ·rw[show @Lo=@Yj by simp,e1];exact q
 ·obtain⟨its,r,pl,hz⟩:=@Ge
  obtain⟨f,e1,e2⟩:=@Or
  refine SeqAt.notIn_tupleAt f pl (λw hw=>?_) ⟨.bl _,H,I,rfl,?_⟩
  ·obtain⟨e,as,hm,rd,ef⟩:=e2 w (by simpa using hw)
   rw[ef];exact @Me
  ·rw[show @Lo=@Yj by simp,e1];exact q
end
section
variable {K:Frag}{X:Cx}
def rY{g:Int->Int->V}{gd:D->D->@Ab}(h:∀dx dy d,gd dx dy=some d->∃i j,dx=.int i/\dy=.int j/\∀G,Rp K G @Iq d):pU K (yb g) gd .v:=by
 intro B G H x y dx dy d Q s hB bx by' e k
 obtain⟨i,j,rfl,rfl,r⟩:=h _ _ _ e
 obtain rfl:=bx.int
 obtain rfl:=by'.int
 exact⟨i,j,rfl,rfl,k _ G H @Bh (r G)⟩
def Ak{C:Int->Int->Prop}{g:Int->Int->V}{gd:D->D->@Ab}(h:∀dx dy d,gd dx dy=some d->∃i j,dx=.int i/\dy=.int j/\C i j/\∀G,Rp K G @Iq d):pU K (rI C g) gd .v:=by
 intro B G H x y dx dy d Q s hB bx by' e k
 obtain⟨i,j,rfl,rfl,c,r⟩:=h _ _ _ e
 obtain rfl:=bx.int
 obtain rfl:=by'.int
 exact⟨i,j,rfl,rfl,c,k _ G H @Bh (r G)⟩
def gI(c:Int->Int->Bool)(g:Int->Int->D):D->D->@Ab
 | .int i,.int j=>if c i j=true then some @Iq else none
 |_,_=>none
def vN(g:Int->Int->D):D->D->@Ab
 | .int i,.int j=>some @Iq
 |_,_=>none
def z8{c:Int->Int->Bool}{g:Int->Int->D}{dx dy d:D}(h:gI c g dx dy=some d):∃i j,dx=.int i/\dy=.int j/\c i j=true/\d=g i j:=by
 unfold gI at h
 split at h
 ·split at h
  ·cases h;exact⟨_,_,rfl,rfl,by assumption,rfl⟩
  ·cases h
 ·cases h
def lj{g:Int->Int->D}{dx dy d:D}(h:vN g dx dy=some d):∃i j,dx=.int i/\dy=.int j/\d=g i j:=by
 unfold vN at h
 split at h
 ·cases h;exact⟨_,_,rfl,rfl,rfl⟩
 ·cases h
def rR:D->D->@Ab:=vN λi j=>.int (i-j)
def Ct:pU K (yb λi j=>.int (i-j)) rR .v:=rY λdx dy d h=>by obtain⟨i,j,rfl,rfl,rfl⟩:=lj h;exact⟨i,j,rfl,rfl,λ_=>.int _⟩
def Mo:D->D->@Ab:=gI (λ_ j=>decide (0<j)&&decide (j<1073741824)) λi j=>.int (i/j)
def OJ:pU K (rI Kh λi j=>.int (i/j)) Mo .v:=Ak λdx dy d h=>by obtain⟨i,j,rfl,rfl,c,rfl⟩:=z8 h;exact⟨i,j,rfl,rfl,by simpa[Kh]using c,λ_=>.int _⟩
def nq:D->D->@Ab:=gI (λ_ j=>decide (0<j)) λi j=>.int (i%j)
def wC:pU K (rI (λ_ j=>0<j) λi j=>.int (i%j)) nq .v:=Ak λdx dy d h=>by obtain⟨i,j,rfl,rfl,c,rfl⟩:=z8 h;exact⟨i,j,rfl,rfl,by simpa using c,λ_=>.int _⟩
def K1(i j:Int):Bool:=decide (0<=j)&&decide (j<=1000000)&&decide (i.natAbs<2^64)
def J5:D->D->@Ab:=gI K1 λi j=>.int (i^j.toNat)
def DJ{i j:Int}(h:K1 i j=true):Fu i j:=by
 unfold K1 at h
 simp only[US,UU]at h
 exact⟨h.1.1,h.1.2,h.2⟩
def MI:pU K (rI Fu λi j=>.int (i^j.toNat)) J5 .v:=Ak λdx dy d h=>by obtain⟨i,j,rfl,rfl,c,rfl⟩:=z8 h;exact⟨i,j,rfl,rfl,DJ c,λ_=>.int _⟩
def AY:D->D->@Ab:=gI K1 λi j=>.int (i*2^j.toNat)
def Mm:pU K (rI Fu λi j=>.int (i*2^j.toNat)) AY .v:=Ak λdx dy d h=>by obtain⟨i,j,rfl,rfl,c,rfl⟩:=z8 h;exact⟨i,j,rfl,rfl,DJ c,λ_=>.int _⟩
def Hm:D->D->@Ab:=vN λi j=>@K3
def Qa:pU K (yb λi j=>@K3) Hm .v:=rY λdx dy d h=>by obtain⟨i,j,rfl,rfl,rfl⟩:=lj h;exact⟨i,j,rfl,rfl,λ_=>.int _⟩
def RD:D->D->@Ab:=vN λi j=>@LT
def PH:pU K (yb λi j=>@LT) RD .v:=rY λdx dy d h=>by obtain⟨i,j,rfl,rfl,rfl⟩:=lj h;exact⟨i,j,rfl,rfl,λ_=>.int _⟩
def rW:D->D->@Ab:=vN λi j=>.bool (decide (i<j))
def yX:D->D->@Ab:=vN λi j=>.bool (decide (i<=j))
def OY:D->D->@Ab:=vN λi j=>.bool (decide (j<i))
def TK:D->D->@Ab:=vN λi j=>.bool (decide (j<=i))
def Cq:pU K (yb λi j=>.bl (decide (i<j))) rW .v:=rY λdx dy d h=>by obtain⟨i,j,rfl,rfl,rfl⟩:=lj h;exact⟨i,j,rfl,rfl,λ_=>.bl _⟩
def Ha:pU K (yb λi j=>.bl (decide (i<=j))) yX .v:=rY λdx dy d h=>by obtain⟨i,j,rfl,rfl,rfl⟩:=lj h;exact⟨i,j,rfl,rfl,λ_=>.bl _⟩
def P9:pU K (yb λi j=>.bl (decide (j<i))) OY .v:=rY λdx dy d h=>by obtain⟨i,j,rfl,rfl,rfl⟩:=lj h;exact⟨i,j,rfl,rfl,λ_=>.bl _⟩
def SH:pU K (yb λi j=>.bl (decide (j<=i))) TK .v:=rY λdx dy d h=>by obtain⟨i,j,rfl,rfl,rfl⟩:=lj h;exact⟨i,j,rfl,rfl,λ_=>.bl _⟩
mutual
theorem Dt:∀d:D,d.canLay0=true->FZ d=true
 | .none,_=>rfl
 | .bool _,_=>rfl
 | .int _,_=>rfl
 | .str _,_=>rfl
 | .list ds,h=>by simp only[PyData.canLay0]at h;simp only[FZ];exact ue ds h
 | .tuple ds,h=>by simp only[PyData.canLay0]at h;simp only[FZ];exact ue ds h
 | .dict _,h=>by simp[PyData.canLay0]at h
theorem ue:∀ds:List D,PyData.canLayAll0 ds=true->wc ds=true
 | [],_=>rfl
 |d::ds,h=>by
  simp only[PyData.canLayAll0,US]at h
  simp only[wc,US]
  exact⟨Dt d h.1,ue ds h.2⟩
end
def yy{d:D}(h:@UX=true):FZ d=true:=Dt d (V8 h)
theorem CQ:∀{ds:List D},(ds.all SeqAt.shaped)=true->wc ds=true
 | [],_=>rfl
 |d::ds,h=>by
  rw[W0,US]at h
  simp only[wc,US]
  exact⟨yy h.1,CQ h.2⟩
def fm(neg:Bool)(x y:D):@Ab:=if(SeqAt.shaped x&&SeqAt.shaped y)=true then some (.bool (if neg then !PyData.eqv x y else PyData.eqv x y))else none
def iN{neg:Bool}:pU K (NC K neg) (fm neg) .v:=by
 intro B G H x y dx dy d Q s hB bx by' e k
 unfold fm at e
 split at e
 ·rename_i h
  rw[US]at h
  cases e
  exact⟨dx,dy,(bx.rpH s).rep (yy h.1),(by'.rpH s).rep (yy h.2),h.1,h.2,@IN ⟩
 ·cases e
def qk(neg:Bool)(x y:D):@Ab:=match ny y with
 |some ds=>if(SeqAt.shaped x&&ds.all SeqAt.shaped)=true then some (.bool (if neg then !(ds.any λe=>PyData.eqv e x)else ds.any λe=>PyData.eqv e x))else none
 |none=>none
theorem o4.seq{B:@i}{G H:Hp}{v:V}{d:D}{ds:List D}(h:@Op)(e:ny d=some ds)(s:ay G H):∃a xs,v=.ref a/\(@C6\/@Cl)/\@Ax:=by
 cases d with
 |list l=>cases e;obtain⟨a,xs,e,q,r⟩:=h.list s;exact⟨a,xs,e,.inl (.inl q),r⟩
 |tuple l=>cases e;obtain⟨a,xs,e,q,r⟩:=h.tuple s;exact⟨a,xs,e,.inr q,r⟩
 |_=>cases e
theorem zf{neg:Bool}:pU K (OD K neg) (qk neg) .v:=by
 intro B G H x y dx dy d Q s hB bx by' e k
 unfold qk at e
 cases q:ny dy with
 |none=>rw[q]at e;cases e
 |some ds=>
  rw[q]at e
  dsimp only at e
  split at e
  ·rename_i h
   rw[US]at h
   cases e
   obtain⟨a,xs,rfl,hq,r⟩:=by'.seq q s
   refine⟨a,xs,dx,ds,rfl,hq,(@Lr).reps (CQ h.2),(bx.rpH s).rep (yy h.1),h.1,λe he=>Ve.mp h.2 e he,@IN ⟩
  ·cases e
def EI:D->Bool
 | .none=>true
 |_=>false
theorem c9.ints{G:Hp}:∀ns:@E,c9 K G @B6 (@Cu)
 | []=>.nil
 |n::ns=>.cons @z (c9.ints ns)
theorem Fl.noNone{G:Hp}{kvs:List (Key×V)}{d:D}{r:List (D×D)}(h:Fl K G kvs ((.none,d)::r)):False:=by
 generalize e:(PyData.none,d)::r=l at h
 cases h with
 | @one k x d' _=>
  injection e with e1 _
  injection e1 with e2 _
  cases k<;>cases e2
 | @cons k x xs d' ds _ _=>
  injection e with e1 _
  injection e1 with e2 _
  cases k<;>cases e2
theorem Fh.noNone{G:Hp}{kvs:List (@Nh ×V)}{d:D}{r:List (D×D)}(h:Fh K G kvs ((.none,d)::r)):False:=by
 generalize e:(PyData.none,d)::r=l at h
 cases h with
 |nil=>cases e
 | @cons k x xs d' ds _ _=>
  injection e with e1 _
  injection e1 with e2 _
  cases e2
def o4.scr{B:@i}{G H:Hp}{v:V}{ds:List D}(h:o4 K B G H v (.dict [(.none,@WF)]))(s:ay G H):∃a xs,v=.ref a/\@C6/\@Ax:=by
 rcases h with h|⟨a,rfl,n,h⟩
 ·cases h with
  | @scr a ns q=>exact⟨a,_,rfl,s.seq q,c9.ints ns⟩
  |dK _ r=>exact r.noNone.elim
  |dT _ r=>exact r.noNone.elim
 ·rcases h with⟨_,_,r⟩|⟨_,_,r⟩
  ·exact r.noNone.elim
  ·exact r.noNone.elim
def bE:D->D->@Ab
 | .list ds,.int i=>ki ds i
 | .tuple ds,.int i=>ki ds i
 | .str z,.int i=>if z.length<=sizeLine then(@RB).map λc=>.str ⟨#[c]⟩else none
 | .dict [(.none,.list ds)],.int i=>ki ds i
 |_,_=>none
theorem xJ{G:Hp}{xs:List V}{ds:List D}{i:Int}{d:D}(r:@Ax)(h:ki ds i=some d):∃x,ki xs i=some x/\@Gf:=by
 unfold ki at h ⊢
 rw[r.len]
 cases e:vQ ds.length i with
 |none=>rw[e]at h;cases h
 |some j=>rw[e]at h;exact r.at h
theorem bJ:pU K (TU K) bE .v:=by
 intro B G H x y dx dy d Q s hB bx by' e k
 cases dx with
 |list ds=>
  cases dy with
  |int i=>
   obtain rfl:=by'.int
   obtain⟨a,xs,rfl,q,r⟩:=@Nr
   obtain⟨v,ev,rv⟩:=xJ r e
   exact .inl ⟨a,xs,i,v,rfl,rfl,.inl q,ev,k _ G H @Bh rv⟩
  |_=>cases e
 |tuple ds=>
  cases dy with
  |int i=>
   obtain rfl:=by'.int
   obtain⟨a,xs,rfl,q,r⟩:=bx.tuple s
   obtain⟨v,ev,rv⟩:=xJ r e
   exact .inr (@K2)
  |_=>cases e
 |str z=>
  cases dy with
  |int i=>
   obtain rfl:=by'.int
   obtain rfl:=bx.str
   simp only[bE]at e
   split at e
   ·rename_i hz
    cases q:@RB with
    |none=>rw[q]at e;cases e
    |some c=>rw[q]at e;cases e;exact .inr (.inr ⟨z,i,c,rfl,rfl,hz,q,k _ G H @Bh (.str _)⟩)
   ·cases e
  |_=>cases e
 |none=>cases dy<;>cases e
 |bool b=>cases dy<;>cases e
 |int b=>cases dy<;>cases e
 |dict b=>
  obtain⟨ds,i,rfl,rfl,e⟩:∃ds i,b= [(.none,@WF)]/\dy=.int i/\ki ds i=some d:=by
   unfold bE at e
   split at e
   ·contradiction
   ·contradiction
   ·contradiction
   ·rename_i h;cases h;exact⟨_,_,rfl,rfl,e⟩
   ·cases e
  obtain rfl:=by'.int
  obtain⟨a,xs,rfl,q,r⟩:=bx.scr s
  obtain⟨v,ev,rv⟩:=xJ r e
  exact @K2
def cG:D->@Ab
 | .list ds=>some @JT
 | .tuple ds=>some @JT
 | .str z=>if z.length<=sizeLine then some (.int z.length)else none
 | .dict [(.none,.list ds)]=>some @JT
 |_=>none
def So(K:Frag):List V->Hp->VK->Prop:=λxs H Q=>∃x n,xs= [x]/\QF K x H n/\Q @z H
def fZ:Jh K (λx=>So K [x]) cG .v:=by
 intro B G H x dx d Q s hB bx e k
 unfold cG at e
 split at e
 ·cases e;obtain⟨a,xs,rfl,q,r⟩:=@Nr;exact⟨_,_,rfl,.inl ⟨xs,.inl q,r.len.symm⟩,@Do ⟩
 ·cases e;obtain⟨a,xs,rfl,q,r⟩:=bx.tuple s;exact⟨_,_,rfl,.inr @Y4,@Do ⟩
 ·obtain rfl:=bx.str
  split at e
  ·rename_i hz;cases e;exact⟨_,_,rfl,⟨hz,rfl⟩,@Do ⟩
  ·cases e
 ·cases e;obtain⟨a,xs,rfl,q,r⟩:=bx.scr s;exact⟨_,_,rfl,.inl @Y4,@Do ⟩
 ·cases e
def oj:D->@Ab
 | .list ds=>some @D7
 | .tuple ds=>some @D7
 |_=>none
theorem oA:Jh K (λx H Q=>∃p ys,[x]= @SV/\((jy K H p ys/\∀l,H l=none->@UU)\/(iO K H p ys/\Q @E7 H))) oj .v:=by
 intro B G H x dx d Q s hB bx e k
 cases dx with
 |list ds=>
  cases e
  obtain⟨a,xs,rfl,q,r⟩:=@Nr
  refine⟨a,xs,rfl,.inl ⟨.inl q,λl hl=>?_⟩⟩
  have x:=Ext.new s (o:=.tup xs) hl
  exact k _ _ _ x @Tq
 |tuple ds=>
  cases e
  rcases bx with bx|⟨_,_,_,z⟩
  ·cases bx with
   | @tup a xs _ hq r=>exact⟨a,xs,rfl,.inr ⟨hq.grow s.grow,k _ G H @Bh (.tup hq r)⟩⟩
  ·exact z.elim
 |_=>cases e
def L6:D->@Ab
 | .list ds=>some @Ej
 | .tuple ds=>some @Ej
 |_=>none
def OA:Jh K (λx H Q=>∃p ys,[x]= @SV/\(jy K H p ys\/iO K H p ys)/\∀l,H l=none->Q @Jg @WD) L6 .w:=by
 intro B G H x dx d Q s hB bx e k
 obtain⟨ds,e1,rfl⟩:∃ds,ny dx=some ds/\d=@WF:=by
  cases dx<;>cases e<;>exact⟨_,rfl,rfl⟩
 obtain⟨a,xs,rfl,hq,r⟩:=bx.seq e1 s
 refine⟨a,xs,rfl,hq,λl hl=>?_⟩
 exact k _ _ _ (Ext.own s (o:=.lst xs) hl) ⟨l,rfl,hl,s.free hl,xs,aE,r⟩
def nR:List D->Option (@En)
 | []=>some []
 | .bool b::ds=>(nR ds).map (b :: ·)
 |_=>none
theorem wL{G:Hp}:∀{ds:List D} {bs:@En} {xs:List V},nR ds=some bs->@Ax->xs=@O_
 | [],bs,xs,e,r=>by cases e;cases r;rfl
 | .bool b::ds,bs,xs,e,r=>by
  cases r with
  |cons r1 r2=>
   cases r1
   simp only[nR]at e
   cases q:nR ds with
   |none=>rw[q]at e;cases e
   |some cs=>rw[q]at e;cases e;rw[wL q r2];rfl
 | .none::_,_,_,e,_=>by cases e
 | .int _::_,_,_,e,_=>by cases e
 | .str _::_,_,_,e,_=>by cases e
 | .list _::_,_,_,e,_=>by cases e
 | .tuple _::_,_,_,e,_=>by cases e
 | .dict _::_,_,_,e,_=>by cases e
def bQ(f:@En->Bool):D->@Ab
 | .list ds=>(nR ds).map λbs=>.bool (f bs)
 |_=>none
theorem iI{f:@En->Bool}:Jh K (λx=>AZ K f [x]) (bQ f) .v:=by
 intro B G H x dx d Q s hB bx e k
 cases dx with
 |list ds=>
  simp only[bQ]at e
  cases q:nR ds with
  |none=>rw[q]at e;cases e
  |some bs=>
   rw[q]at e
   cases e
   obtain⟨a,xs,rfl,hq,r⟩:=@Nr
   obtain rfl:=wL q r
   exact⟨a,bs,rfl,.inl hq,@IN ⟩
 |_=>cases e
def Mh:R2:=λx y H Q=>∃l b xs zs,x=.ref l/\y=.ref b/\Rd H l @JQ/\Rd H b @Xg/\xs.length+zs.length<=sizeLine/\∀p,H p=none->Q @E7 (upd H p (.lst (xs++zs)))
def jG:nv X @J8 Mh:=by
 intro pins s σ H x y v u Q I rx ry h
 obtain⟨l,b,xs,zs,rfl,rfl,hH,hB,hz,q⟩:=h
 cases rx
 cases ry
 obtain⟨z,its,n,r,hl,e⟩:=I.lstR hH
 obtain⟨z2,its2,n2,r2,hl2,e2⟩:=I.lstR hB
 refine PySem.P.add_list e e2 ?_ (by rw[UM,UM];omega)
 have ea:its.toArray++its2.toArray=(its++its2).toArray:=by simp
 rw[ea]
 exact⟨.ref _,_,I.lnew (t':=s.toks) @Pb (by rw[UL];omega),rfl,q _ I.fresh⟩
def jL:D->D->@Ab
 | .list a,.list b=>if a.length+b.length<=sizeLine then some (.list (a++b))else none
 |_,_=>none
def qK:pU K Mh jL .w:=by
 intro B G H x y dx dy d Q s hB bx by' e k
 cases dx<;>cases dy<;>first|(cases e;done)|skip
 rename_i a b
 simp only[jL]at e
 split at e
 ·rename_i hz
  cases e
  obtain⟨p,xs,rfl,q1,r1⟩:=@Nr
  obtain⟨p2,ys,rfl,q2,r2⟩:=by'.list s
  refine⟨p,p2,xs,ys,rfl,rfl,q1,q2,by rw[r1.len,r2.len];exact hz,λl hl=>?_⟩
  exact k _ _ _ (Ext.own s (o:=.lst (xs++ys)) hl) ⟨l,rfl,hl,s.free hl,_,aE,r1.append r2⟩
 ·cases e
def b7:D->D->@Ab:=vN λi j=>.int (i+j)
def iD:pU K (yb λi j=>.int (i+j)) b7 .v:=rY λdx dy d h=>by obtain⟨i,j,rfl,rfl,rfl⟩:=lj h;exact⟨i,j,rfl,rfl,λ_=>.int _⟩
def dX:D->D->@Ab:=gI (λi j=>(decide (-(2^64)<i)&&decide (i<2^64))||(decide (-(2^64)<j)&&decide (j<2^64))) λi j=>.int (i*j)
def pM:pU K (rI Gk λi j=>.int (i*j)) dX .v:=Ak λdx dy d h=>by obtain⟨i,j,rfl,rfl,c,rfl⟩:=z8 h;exact⟨i,j,rfl,rfl,by simpa[Gk]using c,λ_=>.int _⟩
def pf:D->D->@Ab
 | .list a,.int k=>if -(2^63)<=k/\k<2^63/\a.length*k.toNat<=sizeLine then some (.list (List.replicate k.toNat a).flatten)else none
 |_,_=>none
def xT{a b:Expr}{fa fb:VF D}{La Lb:@c}{mb:Md}{Γ:Fx}{E:XK}{pos:Pos}(ha:SE X Γ E a fa La .w)(hb:@Cj):SE X Γ E (.BinOp a .Mult b pos) (f2 fa fb pf) (La++Lb) .w:=by
 refine PE.post' (qg HE ha hb) λσ H Q ⟨env,G,B,β,I,o⟩=>?_
 refine⟨env,G,B,β,I,o.bnd.imp λd1 β1 h x G1 H1 I1 s1 m1 vx=>⟨@JN,G1,B,β1,I1,?_⟩⟩
 rw[eN]
 refine h.bnd.imp λd2 β2 h y G2 H2 I2 s2 m2 vy=>?_
 obtain⟨d,e,k⟩:=h.of
 rw[<-cM]at I2
 obtain⟨p,rfl,p1,p2,p3⟩:=vx
 have by':=@QL
 cases d1<;>cases d2<;>first|(cases e;done)|skip
 rename_i l j
 obtain rfl:=by'.int
 simp only[pf]at e
 split at e
 ·rename_i hz
  cases e
  obtain⟨xs,q,r⟩:=p3
  obtain⟨q1,q2,q3,q4⟩:=I.fresh p1
  have r2:=r.mono s2
  refine⟨p,j,xs,rfl,rfl,m2.1 _ _ q q3,hz.1,hz.2.1,by rw[r.len];exact hz.2.2,λl hl=>?_⟩
  have x:=Ext.own I2.sub (o:=.lst (List.replicate j.toNat xs).flatten) hl
  exact k _ _ _ (I2.ext x) ((@Dp).trans x.gg) ((@Ee).trans (@Vn)) ⟨l,rfl,hJ (@Ee) I2.boxThere hl,I2.sub.free hl,_,aE,r2.rep⟩
 ·cases e
def l4:D->@Ab
 | .int i=>some (.int (-i))
 |_=>none
theorem r6:Jh K (rU λi=>.int (-i)) l4 .v:=by
 intro B G H x dx d Q s hB bx e k
 cases dx with
 |int i=>cases e;obtain rfl:=bx.int;exact⟨i,rfl,@Do ⟩
 |_=>cases e
def PD:D->String
 | .none=>"NoneType"
 | .bool _=>"bool"
 | .int _=>"int"
 | .str _=>"str"
 | .list _=>"list"
 | .tuple _=>"tuple"
 | .dict _=>"dict"
def IT(d:D)(T:String):Bool:=PD d==T||(T=="int"&&PD d=="bool")
def eG:D->Bool
 | .dict ((.none,_)::_)=>true
 |_=>false
def lA(T:String)(d:D):@Ab:=if eG d=true then none else some (.bool (IT d T))
def TZ(K:Frag)(H:Hp)(x:V)(t:String):Prop:=K0 K H x t\/(t="dict"/\∃a kvs ep,x=.ref a/\H a=@Lt)
def QP(K:Frag):List V->Hp->VK->Prop:=λxs H Q=>∃x T t b,xs= [x,.ty T]/\TZ K H x t/\@Ra=some b/\Q @L3 H
def Gr:fQ X @Hp (QP X.K):=by
 intro pins s σ H xs us Q I r h
 obtain⟨x,T,t,b,rfl,ty,e,q⟩:=h
 rcases ty with ty|⟨rfl,a,kvs,ep,rfl,hk⟩
 ·exact IK pins s σ H _ us Q I r ⟨x,T,t,b,rfl,ty,e,q⟩
 ·obtain⟨u,c,rfl,rx,rc⟩:=@W3
  cases rc
  cases rx
  obtain⟨_,_,_,_,o,_,e2,ex,_⟩:=I.hok a _ hk
  exact Vv PySem.W.kitx_dict I.kIn ⟨o,e2,ex.1⟩ e (λz=>nomatch z) λtk=>@Jp
theorem o4.ty{B:@i}{G H:Hp}{v:V}{d:D}(h:@Op)(s:ay G H)(n:eG d=false):TZ K H v (PD d):=by
 cases d with
 |none=>obtain rfl:=h.none;exact .inl .non
 |bool b=>obtain rfl:=h.bool;exact .inl @L3
 |int b=>obtain rfl:=h.int;exact .inl @SB
 |str b=>obtain rfl:=h.str;exact .inl (.str b)
 |list b=>obtain⟨a,xs,rfl,q,_⟩:=h.list s;exact .inl (.lst (.inl q))
 |tuple b=>obtain⟨a,xs,rfl,q,_⟩:=h.tuple s;exact .inl (.tup q)
 |dict b=>
  rcases h with h|⟨a,rfl,_,h⟩
  ·cases h with
   |scr _=>cases n
   |dK q _=>exact .inl (.dic (s _ _ q))
   |dT q _=>exact .inr ⟨rfl,_,_,_,rfl,s _ _ q⟩
  ·rcases h with⟨_,q,_⟩|⟨_,q,_⟩
   ·exact .inl (.dic q)
   ·exact .inr ⟨rfl,_,_,_,rfl,q⟩
theorem Qv{d:D}{T:String}(hT:T∈ @Ma):PySem.W.kitOne K (.type (PD d)) @J1=some (IT d T):=by
 simp only[UD,Vf,VW]at hT
 cases d with
 |dict l=>rcases hT with rfl|rfl|rfl|rfl|rfl|rfl<;>rfl
 |none=>rcases hT with rfl|rfl|rfl|rfl|rfl|rfl<;>rfl
 |bool _=>rcases hT with rfl|rfl|rfl|rfl|rfl|rfl<;>rfl
 |int _=>rcases hT with rfl|rfl|rfl|rfl|rfl|rfl<;>rfl
 |str _=>rcases hT with rfl|rfl|rfl|rfl|rfl|rfl<;>rfl
 |list _=>rcases hT with rfl|rfl|rfl|rfl|rfl|rfl<;>rfl
 |tuple _=>rcases hT with rfl|rfl|rfl|rfl|rfl|rfl<;>rfl
def pP{a:Expr}{fa:VF D}{La:@c}{ma:Md}{Γ:Fx}{E:XK}{pos p p2:Pos}(T:String){y:Str}(hT:T∈ @Ma)(hK:X.K=Γ.K)(hg:Gl X "isinstance")(hm:X.mg "isinstance"=none)(hgT:Gl X y)(hmT:X.mg y=none)(hvT:bootBuiltins y=some @J1)(ha:@AB)
  (hnT:y≠"__name__":=by decide) (hdT:(y==("__debug__":Str))=false:=by decide)
  (he:starEach [a,.Name y p2] X.env=(false,@AZ)::@KL:=by rfl) (he2:@KL=(false,eval (.Name y p2) X.env)::@An:=by rfl) (hpl:(backTo pos (@KL)).any (·.1)=false:=by rfl) :
  SE X Γ E (.Call (.Name "isinstance" p) [a,.Name y p2] [] pos) (f1 fa (lA T)) La .v:=by
 refine PE.post' (bN Gr hg hm (@O) (aw ha (aw (C4 hgT hmT hvT (show RelV (.ty T) _ from rfl) hnT hdT) aZ he2) he) @S @S he hpl) λσ H Q ⟨env,G,B,β,I,o⟩=>?_
 refine mK (r:=λx H1 Q=>QP X.K [x,.ty T] H1 Q) ?_ I o
 intro B G H x dx d Q s hB bx e k
 unfold lA at e
 split at e
 ·cases e
 ·rename_i hn
  cases e
  rw[hK]
  exact⟨x,T,PD dx,IT dx T,rfl,bx.ty s (by simpa using hn),Qv hT,@IN ⟩
def iS(fa fb fc:VF D)(g g':D->D->@Ab):VF D:=λvs β=>(@AU).bnd λx β1=>(@Et).bnd λy β2=>match g x y with
 |some (.bool true)=>(fc vs β2).bnd λz β3=>R.of (g' y z) β3
 |some (.bool false)=>.ok (@Ai) β2
 |_=>.bad
theorem ui{a b c:Expr}{fa fb fc:VF D}{ma mb mc:Md}{Γ:Fx}{E:XK}{pos:Pos}{op op':CmpOp}{r r':R2}{g g':D->D->@Ab}(ho:@Eu)(ho':@Wu)(pr:pU Γ.K r g .v)(pr':pU Γ.K r' g' .v)(ha:SE X Γ E a fa [] ma)(hb:SE X Γ E b fb [] mb)(hc:SE X Γ E c fc [] mc)
  (hm:@Vk=false:=by with_unfolding_all rfl):SE X Γ E @Qa (iS fa fb fc g g') [] .v:=by
 refine PE.post' (FQ ho ho' ha hb hc hm) λσ H Q ⟨env,G,B,β,I,o⟩=>?_
 refine two (W:=λx y H2=>r x y H2 λz H3=>∃k,z=.bl k/\(if k=true then pT Γ E fc [] mc σ H3 λw' H4=>r' y w' H4 Q else Q (@LR) H3)) I (o.bnd.imp λd1 β1 h=>h.bnd.imp λd2 β2 h x y G2 H2 I2 s2 m2 bx by'=>?_)
 obtain⟨cb,ec,h⟩:∃cb,g d1 d2=some (.bool cb)/\Out Γ E (if cb=true then(fc @p β2).bnd λz β3=>R.of (g' d2 z) β3 else .ok (@Ai) β2) λd β'=>∀v G' H',SR Γ B G' H' σ (bj [] env) β'->@CL->@DQ->VO Γ.K B H G' H' .v d v->Q v H':=by
  split at h
  ·rename_i q;exact⟨true,q,by rw[Uz rfl];exact h⟩
  ·rename_i q;exact⟨false,q,by rw[UJ UQ];exact h⟩
  ·exact h.elim
 refine pr B G2 H2 x y d1 d2 _ _ I2.sub I2.boxThere bx by' ec λv G' H' x' vo=>?_
 cases vo
 refine⟨cb,rfl,?_⟩
 have I3:=I2.ext x'
 cases cb with
 |false=>rw[UJ UQ]at h;exact sk (h _ G' H' I3 (@Ul) (m2.trans (x'.mov B)) (@LR))
 |true=>
  rw[Uz rfl]at h
  refine v8 ⟨env,G',B,β2,I3,h.bnd.imp λd3 β3 h z G4 H4 I4 s4 m4 vz=>?_⟩
  obtain⟨d,e,k⟩:=h.of
  refine pr' B G4 H4 y z d2 d3 d Q I4.sub I4.boxThere (by'.mono (x'.gg.trans s4) ((x'.mov B).trans m4)) (vz.brw I3.boxThere) e λv G5 H5 x5 vo=>?_
  exact k v G5 H5 (I4.ext x5) (((@Ul).trans s4).trans x5.gg) (((m2.trans (x'.mov B)).trans m4).trans (x5.mov B)) vo
end
def fo.u1{k:Nat}{A:Around}(r:fo k A):A.units+100<cLine:=by have:=r.un;omega
def TY(N:@a)(sc:Scope)(NB:@a)(own:Nat)(ixs:@c)(scope:Scope):Bool:=
 decide (scope.kind=@JB)&&(scope.names.all λy=>decide (scope.names.lookup y.1=some y.2)) &&
 (scope.names.all λy=>decide (y.2=.free->(sc.names.lookup y.1=@B8\/sc.names.lookup y.1=@Hj)))&&decide NB.Nodup&&decide (NB.length=own+ixs.length) &&
 ((@YI).all λk=>decide (NB[own+k]? =N[@Nu]?)&&(match NB[own+k]? with|some x=>decide ((x,NameKind.free)∈scope.names)|none=>true))
def bW{X:Cx}{NB:@a}{own:Nat}{ixs:@c}{scope:Scope}(h:TY X.N X.env.scope NB own ixs scope=true):@BK:=by
 unfold TY at h
 simp only[US,Ve,UU,Vq]at h
 obtain⟨⟨⟨⟨⟨h1,h3⟩,h4⟩,h5⟩,h6⟩,h7⟩:=h
 refine⟨h1,h3,h4,h5,h6,λk hk=>⟨(h7 k hk).1,λx hx=>?_⟩⟩
 have:=(h7 k hk).2
 rw[hx]at this
 simpa using this
section
variable {X:Cx}{Γ:Fx}{E:XK}{e a b c:Expr}{f fa fb fc:VF D}{L La Lb:@c}{md ma mb mc:Md}{pos:Pos}{K:Frag}
theorem Nc{B:@i}{G H:Hp}{x:V}{dx:D}(bx:@Th)(s:ay G H):decide (x=.non)=EI dx:=by
 cases dx with
 |none=>obtain rfl:=bx.none;rfl
 |bool b=>obtain rfl:=bx.bool;rfl
 |int b=>obtain rfl:=bx.int;rfl
 |str b=>obtain rfl:=bx.str;rfl
 |list b=>obtain⟨a,xs,rfl,_⟩:=@Nr;rfl
 |tuple b=>obtain⟨a,xs,rfl,_⟩:=bx.tuple s;rfl
 |dict b=>
  rcases bx with bx|⟨a,rfl,_⟩
  ·cases bx<;>rfl
  ·rfl
def tN(fa:VF D)(neg:Bool):@CQ:=λvs β=>(@AU).bnd λx β1=>.ok (if neg then !EI x else EI x) β1
def Kx{j pos'}(ha:@AB):CM X Γ E (.Compare a [.IsNot] [@XG] pos) (tN fa true) La:=by
 refine PT.post (N7 (JE ha)) λσ H Q ⟨env,G,B,β,I,o⟩=>?_
 refine⟨env,G,B,β,I,o.bnd.imp λd1 β1 h x G1 H1 I1 s1 m1 vx=>?_⟩
 refine⟨!EI d1,?_,h G1 H1 I1 s1 m1⟩
 rw[Nc (@DG) I1.sub]
def oT(Γ:Fx)(E:XK)(f:@WV)(L:@c):TO:=λσ H Q=>∃env G B β,@b/\
 Out Γ E (@C0) λd β'=>∀G' H',@Bi->@CL->@DQ->Q d H'
def Ro(X:Cx)(Γ:Fx)(E:XK)(e:@GL)(f:@WV)(L:@c):Prop:=PO X e (oT Γ E f L)
def yU:Ro X Γ E none (λ_ β=>@FY) []:=λpins s σ H Q I ⟨env,G,B,β,J,o⟩=>Lz pins s σ H Q I (o G H J (@A6) @GY)
def EZ(fa:VF D):@WV:=λvs β=>(@AU).bnd λx β1=>match x with
 | .int i=>.ok (some i) β1
 |_=>.bad
theorem xQ(ha:@AB):Ro X Γ E (some a) (EZ fa) La:=λpins s σ H Q I ⟨env,G,B,β,J,o⟩=>by
 refine Jn ha pins s σ H Q I ⟨env,G,B,β,J,o.bnd.imp λd1 β1 h x G1 H1 I1 s1 m1 vx=>?_⟩
 cases d1 with
 |int i=>exact⟨i,(vx.brw J.boxThere).int,h G1 H1 I1 s1 m1⟩
 |_=>exact h.elim
def cutD(xs:List D)(lo hi:@Bm):List D:=(xs.drop (@E8)).take (@Ji-@E8)
def Kb{G:Hp}{xs:List V}{ds:List D}(r:@Ax)(lo hi:@Bm):c9 K G (@S8) (cutD ds lo hi):=by
 unfold Bq cutD
 rw[r.len]
 exact(r.drop _).take _
def EH(fa:VF D)(fl fh:@WV):VF D:=λvs β=>(@AU).bnd λx β1=>(fl vs β1).bnd λl β2=>(fh vs β2).bnd λh β3=>match x with
 | .list ds=>.ok (.list (cutD ds l h)) β3
 |_=>.bad
theorem uS{lo hi:@GL}{fl fh:@WV}{Ll Lh:@c}{p2:Pos}(hK:X.K=Γ.K)(ha:@AB)(hl:Ro X Γ E lo fl Ll)(hh:Ro X Γ E hi fh Lh):SE X Γ E (.Subscript a @Mj pos) (EH fa fl fh) (La++Ll++Lh) .w:=by
 refine PE.post' (Ga Kc ha hl hh) λσ H Q ⟨env,G,B,β,I,o⟩=>?_
 refine⟨env,G,B,β,I,o.bnd.imp λd1 β1 h x G1 H1 I1 s1 m1 vx=>⟨@JN,G1,B,β1,I1,?_⟩⟩
 rw[eN]
 refine h.bnd.imp λl β2 h G2 H2 I2 s2 m2=>⟨bj Ll (@JN),G2,B,β2,I2,?_⟩
 rw[eN,eN]
 refine h.bnd.imp λu β3 h G3 H3 I3 s3 m3=>?_
 rw[<-cM,<-cM,<-Vr]at I3
 have bx:=((@DG).mono s2 m2).mono s3 m3
 cases d1 with
 |list ds=>
  obtain⟨p,xs,rfl,hq,r⟩:=bx.list I3.sub
  rw[hK]
  refine⟨p,xs,rfl,.inl hq,λq hn=>?_⟩
  have x:=Ext.own I3.sub (o:=.lst (Bq xs l u)) hn
  exact h _ _ _ (I3.ext x) ((@Dp).trans s3) (((@Ee).trans m3).trans (x.mov B)) ⟨q,rfl,hJ ((@Ee).trans m3) I3.boxThere hn,I3.sub.free hn,_,aE,Kb r l u⟩
 |_=>exact h.elim
def Hy:pU K (λx y H Q=>∃i j,[x,y]= @GN/\Q (.int (if j>i then j else i)) H) (vN λi j=>.int (if j>i then j else i)) .v:=by
 intro B G H x y dx dy d Q s hB bx by' e k
 obtain⟨i,j,rfl,rfl,rfl⟩:=lj e
 obtain rfl:=bx.int
 obtain rfl:=by'.int
 exact⟨i,j,rfl,@Do ⟩
def Hi:pU K (λx y H Q=>∃i j,[x,y]= @GN/\Q (.int (if j<i then j else i)) H) (vN λi j=>.int (if j<i then j else i)) .v:=by
 intro B G H x y dx dy d Q s hB bx by' e k
 obtain⟨i,j,rfl,rfl,rfl⟩:=lj e
 obtain rfl:=bx.int
 obtain rfl:=by'.int
 exact⟨i,j,rfl,@Do ⟩
end
inductive FB where
 |ok (d:D) (fresh:Bool) (β:Int)
 |bad
def Fj(K:Frag)(n:Nat)(F:List D->Int->FB):Sp:=λvs H Q _=>∃b rest G ds β,vs=.ref b::rest/\H b=@GV/\G b=none/\ay G H/\ds.length=n/\c9 K G rest ds/\match F ds β with
 | .ok d fr β'=>∀v G' H',@Md->H' b=@XY->@CL->@SW->(∀c,Mx H c->G c=none->G' c=none)->@O5->Q v H'
 | .bad=>False
structure rb(P:Program)(w:World)(K:Frag)(mg:@R)(base:Heap)(x:Str)(ps:@a)(k:Nat)(F:List D->Int->FB):Prop where
 ex:∃f fd,mg x=@Fc/\@Cw=true/\@HG/\gM P w K mg base @Ga k f fd ps (Fj K (ps.length-1) F)
 len:∀ds β,F ds β≠.bad->ds.length=ps.length-1
def A0(vs:@BD)(i:Nat):Bool:=match vs[i]? with
 |some .bx=>true
 |_=>false
def pL(i:Nat)(F:List D->Int->FB)(fr:@w):VF D:=λvs β=>if A0 vs i=true then(@Gi).bnd λds β1=>match @Pq with
 | .ok d _ β2=>@Pm
 | .bad=>.bad else .bad
def R5(i:Nat)(F:List D->Int->FB)(fr:@w):VF D:=λvs β=>if A0 vs i=true then(@Gi).bnd λds β1=>match @Pq with
 | .ok d true β2=>@Pm
 |_=>.bad else .bad
section
variable {X:Cx}{Γ:Fx}{E:XK}{e a b c:Expr}{f fa fb fc:VF D}{L La Lb:@c}{md ma mb mc:Md}{pos:Pos}{K:Frag}{es:@Ac}{fr:@w}
def JJ{env:En}{i:Nat}(h:A0 @p i=true):env[i]? =some .bx:=by
 unfold A0 at h
 split at h
 ·exact Qp (by assumption)
 ·cases h
def KH{env:En}{i j:Nat}{d:D}(h:(@Mo)[j]? =@Kw):env[j]? =@Kw:=by
 unfold jk at h
 split at h
 ·rename_i d' e
  by_cases z:i=j
  ·subst z
   rw[UT (Uy.mp e).1]at h;cases h
  ·rw[UX z]at h;exact h
 ·exact h
theorem M9{L:@c}{env:En}{j:Nat}{d:D}(h:(@AD)[j]? =@Kw):env[j]? =@Kw:=by
 unfold bj at h
 induction L generalizing env with
 |nil=>exact h
 |cons i L ih=>exact KH (ih h)
def SR.calledB{p:Addr}{β β':Int}{G1 H1 G2 H2:Hp}{σ:St}{env:En}(I1:SR Γ (some p) G1 H1 σ env β)(h:jQ (some p) H1 H2)(hp:H2 p=@XY)(g:ay G1 G2)(s:ay G2 H2)(n:∀b,Mx H1 b->G1 b=none->G2 b=none):SR Γ (some p) G2 H2 σ env β':=by
 obtain⟨b1,b2,b3⟩:=I1.box p rfl
 refine⟨s,I1.old.trans g,λb n1 n2=>@PG,λb o e np=>BO (I1.keep b o e np) h λz=>?_,λb hb=>?_,I1.fix,λb e=>?_,I1.len,λi t e=>?_,I1.sep⟩
 ·cases z
  rcases b3 with b3|b3
  ·exact np b3
  ·rw[e]at b3;cases b3
 ·by_cases z:p=b
  ·subst z;exact Mx.lst hp
  ·exact(I1.pin b hb).same λo q=>h.1 b o q λy=>z (Option.some.inj y)
 ·cases e
  exact⟨hp,n p (Mx.lst b1) b2,b3⟩
 ·have q:=I1.slot i t e
  cases t with
  |no=>trivial
  |fz d=>obtain⟨v,h1,h2⟩:=q;exact⟨v,h1,h2.mono g⟩
  |ow d=>
   obtain⟨c,h1,h2,h3,h4,h5⟩:=q
   exact⟨c,h1,h2,n c h5.mx h3,h4,h5.mono g λo q=>h.1 c o q h4⟩
  |bx=>exact q
  |br d=>obtain⟨b1,c,h1,h4,hpp,h5⟩:=q;exact⟨b1,c,h1,h4,hpp,h5.mono g λo q=>h.1 c o q h4⟩
theorem Js{F:List D->Int->FB}{ps:@a}{Q:VK}{B:@i}{G H:Hp}{σ:St}{env:En}{β:Int}{i:Nat}{p:Addr}(I:@b)(hK:X.K=Γ.K)(hp:B=some p){wv:Bool}
  (h:Out Γ E @U6 λds β1=>Out Γ E (match @Pq with
   | .ok d true β2=>@Pm
   | .ok d false β2=>if wv=true then .bad else @Pm
   | .bad=>.bad) λd β'=>∀v G' H',@Bi->@CL->@DQ->VO Γ.K B H G' H' (if wv=true then .w else .v) d v->Q v H') (hl:∀ds β,F ds β≠.bad->ds.length=ps.length-1) :
  aT Γ E fr L σ H λvs H1=>Fj X.K (ps.length-1) F (.ref p::vs) H1 Q E:=by
 subst hp
 refine⟨env,G,_,β,I,h.imp λds β1 k vs G1 H1 I1 s1 m1 r=>?_⟩
 obtain⟨b1,b2,b3⟩:=I1.box p rfl
 refine⟨p,vs,G1,ds,β1,rfl,b1,b2,I1.sub,hl ds β1 λz=>by rw[z]at k;exact k,by rw[hK];exact r,?_⟩
 cases q:@Pq with
 |bad=>rw[q]at k;exact k
 |ok d fr' β2=>
  rw[q]at k
  intro v G' H' hh hb hg hs hn fv
  have I2:=I1.calledB hh hb hg hs hn
  cases fr' with
  |true=>
   obtain⟨c,rfl,p1,p2,p3⟩:∃a,v=.ref a/\H1 a=none/\G' a=none/\@Q0:=fv
   rw[hK]at p3
   have hp:=@OS
   cases wv with
   |true=>exact k _ G' H' I2 (@HZ) @WA ⟨c,rfl,hp,p2,p3⟩
   |false=>
    obtain⟨q1,q2,q3,q4⟩:=I1.fresh p1
    obtain⟨G3,I3,s3,r3⟩:=@MC
    exact k _ G3 H' I3 ((@HZ).trans s3) @WA r3
  |false=>
   cases wv with
   |true=>exact k.elim
   |false=>
    have fv:@WR:=fv
    rw[hK]at fv
    exact k _ G' H' I2 (@HZ) @WA fv
theorem Nx{F:List D->Int->FB}{ps:@a}{Q:VK}{i:Nat}{σ:St}{H:Hp}(hK:X.K=Γ.K){wv:Bool}(hl:∀ds β,F ds β≠.bad->ds.length=ps.length-1)(h:pT Γ E (if wv=true then R5 i F fr else pL i F fr) L (if wv=true then .w else .v) σ H Q) :
  Ei i σ H λx H1=>aT Γ E fr L σ H1 λvs H2=>Fj X.K (ps.length-1) F (x::vs) H2 Q E:=by
 obtain⟨env,G,B,β,I,o⟩:=h
 have hi:A0 @p i=true:=by
  by_cases hi:A0 @p i=true
  ·exact hi
  ·exfalso
   cases wv with
   |true=>simp only[V5]at o;unfold R5 at o;rw[UJ hi]at o;exact o
   |false=>simp only[V4,WL]at o;unfold pL at o;rw[UJ hi]at o;exact o
 obtain⟨p,e1,e2⟩:=I.slot i _ (JJ hi)
 refine⟨.ref p,e1,Js (i:=i) (ps:=ps) I hK e2 (wv:=wv) ?_ hl⟩
 cases wv with
 |true=>
  simp only[V5]at o ⊢
  unfold R5 at o
  rw[Uz hi]at o
  refine o.bnd.imp λds β1 h=>?_
  cases q:@Pq with
  |bad=>rw[q]at h;exact h
  |ok d b β2=>rw[q]at h;cases b<;>exact h
 |false=>
  simp only[V4,WL]at o ⊢
  unfold pL at o
  rw[Uz hi]at o
  refine o.bnd.imp λds β1 h=>?_
  cases q:@Pq with
  |bad=>rw[q]at h;exact h
  |ok d b β2=>rw[q]at h;cases b<;>exact h
def nJ{x y:Str}{ps:@a}{k:Nat}{F:List D->Int->FB}{p np:Pos}(i:Nat)(hf:rb X.prog X.w X.K X.mg X.base x ps k F)(hr:@SY)(hx:@Gp)(hK:X.K=Γ.K)(hg:Gl X x)(ha:@Q2)(hN:X.N[i]? =some y:=by rfl)(hv:y7 X.env.scope y:=by first|exact @Af|exact @Eo|exact @FQ)(hd:(y==("__debug__":Str))=false:=by decide)
  (hcd:(y==("__classdict__":Str))=false:=by decide) (hdb:@T:=by decide)
  (he:starEach (.Name y np::es) X.env=(false,eval (.Name y np) X.env)::@AA:=by rfl) (hpl:(@C3).any (·.1)=false:=by rfl):SE X Γ E (.Call @EX (.Name y np::es) [] pos) (pL i F fr) L .v:=by
 obtain⟨f,fd,hm,hk,hb,hF⟩:=hf.ex
 refine PE.post' (pV (dvs:=[]) hF hr hg hm hk hb .nil hx (aw @ET ha he) hdb he hpl) λσ H Q h=>?_
 have:=Nx (Q:=Q) (wv:=false) (ps:=ps) hK hf.len (by simpa using h)
 show Ei i σ H λx H1=>aT Γ E fr L σ H1 λvs H2=>Fj X.K (ps.length-1) F ((x::vs)++[]) H2 Q E
 simpa using this
def GY:D->@Bm
 | .list [.int z]=>some z
 |_=>none
def JD{d:D}{z:Int}(h:GY d=some z):d=@Of:=by
 unfold GY at h
 split at h
 ·cases h;rfl
 ·cases h
def Uv(f0:VF D)(F:List D->Int->FB)(n:Int):VF D:=λvs β=>(f0 vs β).bnd λd0 β1=>match GY d0 with
 |some z=>(match F @OC z with
  | .ok d _ _=>@DM
  | .bad=>.bad)
 |none=>.bad
def vW(env:En):En:=env.map λs=>match s with
 | .bx=>.no
 |s=>s
theorem Iq{env:En}{i:Nat}{s:Sl}(h:(vW env)[i]? =some s)(n:s≠.no):env[i]? =some s/\s≠.bx:=by
 unfold vW at h
 rw[UN]at h
 cases e:env[i]? with
 |none=>rw[e]at h;cases h
 |some t=>
  rw[e]at h
  have h:=@It
  cases t with
  |bx=>exact absurd h.symm n
  |no=>exact absurd h.symm n
  |fz d=>subst h;exact⟨rfl,λz=>by cases z⟩
  |ow d=>subst h;exact⟨rfl,λz=>by cases z⟩
  |br d=>subst h;exact⟨rfl,λz=>by cases z⟩
def Di(i:Nat)(L:@c)(f:VF D):SF:=λenv β=>toS (@C0) λd _=>match GY d with
 |some z=>.nx ((vW @AD).set i .bx) z
 |none=>.bad
theorem JH{i:Nat}{x:Str}{pos':Pos}(hbx:Γ.bx=none)(he:@Kp)(hN:X.N.Nodup)(hi:X.N[i]? =some x:=by rfl)(hx:@Cg:=by first|exact @Af|exact @CG)(hs:@Ct=@D6:=by rfl)(hf:X.fn x=true\/@AO=@Ae:=by first|exact @BQ|exact @Fe|assumption) :
  SS X Γ E @FM (Di i L f):=by
 refine PS.post @Mq λN σ H ⟨env,G,B,β,I,o⟩=>?_
 refine⟨env,G,B,β,I,dv o λd β' k v G' H' I' s' m' vo=>?_⟩
 cases q:GY d with
 |none=>rw[q]at k;exact k.elim
 |some z=>
  rw[q]at k
  obtain rfl:=JD q
  obtain⟨p,rfl,h1,h2,xs,h3,r⟩:=vo
  have hx2:H' p=some (.lst [.int z]):=by
   cases r with
   |cons r1 r2=>
    cases r1
    cases r2
    exact h3
  obtain⟨q1,q2,q3,q4⟩:=@Qt
  refine k (some p) G' H' _ ⟨I'.sub,I'.old,I'.new,I'.keep,I'.pin,λb e=>(by rw[hbx]at e;cases e),λb e=>?_,?_,λj t e=>?_,λj j' c d1 d2 e1 e2 e3 e4=>?_⟩ s'
  ·cases e;exact⟨hx2,h2,.inr q1⟩
  ·rw[VM,VM];unfold vW;rw[Uw];exact I'.len
  ·by_cases hj:j=i
   ·subst hj
    by_cases hl:j<(vW @AD).length
    ·rw[UT hl]at e
     cases e
     refine⟨p,?_,rfl⟩
     rw[UT]
     rw[I'.len];unfold vW at hl;simpa using hl
    ·rw[V3 (by rw[VM];omega)]at e;cases e
   ·rw[UX @Kc]at e ⊢
    by_cases hn:t=.no
    ·subst hn;trivial
    ·obtain⟨e1,nb⟩:=Iq e hn
     have w:=I'.slot j t e1
     cases t with
     |no=>trivial
     |fz d=>exact w
     |bx=>exact absurd rfl nb
     |ow d=>
      obtain⟨a',g1,g2,g3,g4,g5⟩:=w
      exact⟨a',g1,g2,g3,λy=>q4 j d (uI e1) (by cases y;exact g1),g5⟩
     |br d=>
      obtain⟨b1,a',g1,g4,hpp,g5⟩:=w
      have e0:env[j]? =@Kw:=M9 e1
      obtain⟨_,a2,f1,_,_,f5⟩:=I.slot j _ e0
      rw[g1]at f1;cases f1
      obtain⟨o,ho⟩:=f5.obj
      exact⟨b1,a',g1,λy=>(by cases y;rw[h1]at ho;cases ho),hpp,g5⟩
  ·have back:∀{j:Nat} {d1:D},((vW @AD).set i Sl.bx)[j]? =@Wy->j≠i/\(@AD)[j]? =@Wy:=λ{j d1} e=>by
    by_cases hj:j=i
    ·subst hj
     by_cases hl:j<(vW @AD).length
     ·rw[UT hl]at e;cases e
     ·rw[V3 (by rw[VM];omega)]at e;cases e
    ·rw[UX @Kc]at e
     exact⟨hj,(Iq e (λy=>by cases y)).1⟩
   obtain⟨n1,w1⟩:=back e1
   obtain⟨n2,w2⟩:=back e2
   rw[UX (Ne.symm n1)]at e3
   rw[UX (Ne.symm n2)]at e4
   exact I'.sep j j' c d1 d2 w1 w2 e3 e4
end
section
variable {P:Program}{w:World}{K:Frag}{mg:@R}{base:Heap}{ca:Str->Addr}
def G8:SO->FB
 | .nx _ β=>.ok .none false β
 | .rt d fr β=>.ok d fr β
 |_=>.bad
def BJ(n:Nat)(ds:List D):En:=.bx::@Yb++List.replicate (n-1-ds.length) .no
def wu(n p:Nat)(m:SF):List D->Int->FB:=λds β=>if ds.length=p then G8 (m (BJ n ds) β)else .bad
abbrev Fx.fb(K:Frag)(H G:Hp)(ca:Str->Addr)(b:Addr):Fx:=⟨K,H,G,[b],ca,λ_=>false,some b⟩
def SR.startB{H G:Hp}{N:@a}{b:Addr}{vs:List V}{ds:List D}{β:Int}(s:ay G H)(hb:H b=@GV)(gb:G b=none)(r:@Rg)(hn:ds.length+1<=N.length):SR @PR (some b) G H (L2.start N (.ref b::vs)) (BJ N.length ds) β:=by
 have hl:=r.len
 refine⟨s,@A6,λc _ h=>h,λc o h _=>@WN,λc h=>?_,λc h=>h,λc h=>?_,?_,λi t e=>?_,λi j a d e h=>?_⟩
 ·have:c=b:=by simpa using h
  subst this;exact Mx.lst hb
 ·cases h;exact⟨hb,gb,.inl @W ⟩
 ·unfold L2.start BJ;simp;omega
 ·cases i with
  |zero=>
   unfold BJ at e
   cases e
   exact⟨b,rfl,rfl⟩
  |succ i=>
   unfold BJ at e
   have e:(@Yb++List.replicate (N.length-1-ds.length) Sl.no)[i]? =some t:=by simpa using e
   by_cases hi:i<ds.length
   ·rw[U6 (by simpa using hi),UN,UB hi]at e
    cases e
    obtain⟨x,hx,rx⟩:=r.at (UB hi)
    refine⟨x,?_,rx⟩
    unfold L2.start
    have hi':i<vs.length:=by rw[hl];exact hi
    rw[U6 (by simp;exact hi'),UN,List.getElem?_cons_succ,hx];rfl
   ·rw[U9 (by simpa using hi),VJ]at e
    split at e
    ·cases e;trivial
    ·cases e
 ·unfold BJ at h
  have hm:=U1 h
  rcases @P3 with z|hm
  ·cases z
  rcases UW.mp hm with z|z
  ·obtain⟨_,_,z⟩:=U4.mp z;cases z
  ·have:=VD z;cases this
def uj{x qual:Str}{st:Stmt}{f:Addr}{fd:FuncData}{N:@a}{ps:@a}{k:Nat}{m:SF}(F:@C5)(S:@FJ)(hp:1<=ps.length)
  (hbody:∀(cdv:Value) (A:Around) (outer:@Cf) (s:Shared) (H G:Hp) (b:Addr) (E:XK),@SX->Dv @A3 @PR E @Oz m) :
  gM P w K mg base @Ga (k+1) f fd ps (Fj K (ps.length-1) (wu N.length (ps.length-1) m)):=by
 have hpn:ps.length<=N.length:=by have:=@Gs;rw[VA]at this;omega
 refine F.y9 S (λvs H Q E h=>?_) (λcdv A outer s H vs Q E hr h=>?_)
 ·obtain⟨b,rest,G,ds,β,rfl,hb,gb,sG,hl,r,_⟩:=h
  rw[UY,r.len];omega
 ·obtain⟨b,rest,G,ds,β,rfl,hb,gb,sG,hl,r,h⟩:=h
  refine⟨_,hbody cdv A outer s H G b E hr,?_⟩
  have I:=SR.startB (ca:=ca) (N:=N) sG hb gb r (@B)
  refine⟨_,G,some b,β,I,?_⟩
  unfold wu at h
  rw[Uz hl]at h
  have fin':∀{B G' H' σ env β},SR @PR B G' H' σ env β->@Md/\H' b=@GV:=λJ=>by
   have e:=J.fix b rfl
   have k:∀c o,H c=some o->some b≠some c->Kt _ c o:=λc o ec n=>J.keep c o ec λz=>n (show some b=some c by rw[show c=b by simpa using z])
   exact⟨⟨k,λc o u ec=>k c _ ec λz=>by cases z;rw[hb]at ec;cases ec⟩,(J.box b e).1⟩
  cases q:m (BJ N.length ds) β with
  |nx env β'=>rw[q]at h;exact λB G' H' σ J s'=>h .non G' H' (fin' J).1 (fin' J).2 s' J.sub (λc h1 h2=>J.new c h1 h2) Rp.non
  |bk env β'=>rw[q]at h;exact h.elim
  |ct env β'=>rw[q]at h;exact h.elim
  |rt d fr β'=>
   rw[q]at h
   refine λB G' H' σ env v J s' rv=>h v G' H' (fin' J).1 (fin' J).2 s' J.sub (λc h1 h2=>J.new c h1 h2) ?_
   cases fr with
   |true=>exact rv
   |false=>exact rv
  |exc c=>rw[q]at h;exact h.elim
  |bad=>rw[q]at h;exact h.elim
def uM{n p:Nat}{m:SF}(ds:List D)(β:Int)(h:wu n p m ds β≠.bad):ds.length=p:=by
 unfold wu at h
 by_cases hl:ds.length=p
 ·exact hl
 ·rw[UJ hl]at h;exact @Br
end
def aG(p:Pr):D:=.tuple [.int p.1,.int p.2]
def Az:D->Option Pr
 | .tuple [.int a,.int b]=>some (a,b)
 |_=>none
def GR{d:D}{p:Pr}(h:Az d=some p):d=aG p:=by
 unfold Az at h
 split at h
 ·cases h;rfl
 ·cases h
def E3(p:Pr):Az (aG p)=some p:=rfl
def ll:List D->Option (@F)
 | []=>some []
 |d::ds=>match Az d,ll ds with
  |some p,some ps=>some (p::ps)
  |_,_=>none
theorem rm:∀{ds:List D} {ps:@F},ll ds=some ps->ds=ps.map aG
 | [],ps,h=>by cases h;rfl
 |d::ds,ps,h=>by
  unfold ll at h
  split at h
  ·rename_i p qs h1 h2;cases h;rw[GR h1,rm h2];rfl
  ·cases h
theorem mP:∀ps:@F,ll @C7=some ps
 | []=>rfl
 |p::ps=>by
  show(match Az (aG p),ll @C7 with
   |some p,some ps=>some (p::ps)
   |_,_=>none)=_
  rw[E3,mP ps]
section
variable {K:Frag}{X:Cx}{G H:Hp}
theorem c9.pairs:∀{ps:@F} {xs:List V},c9 K G xs @C7->cq K G xs ps
 | [],_,.nil=>.nil
 |p::ps,_,.cons r t=>by
  cases r with
  |tup hq r=>
   cases r with
   |cons r1 r=>
    cases r with
    |cons r2 r=>cases r;cases r1;cases r2;exact .cons ⟨_,rfl,hq⟩ (c9.pairs t)
theorem cq.rps:∀{ps:@F} {xs:List V},cq K G xs ps->c9 K G xs @C7
 | [],_,.nil=>.nil
 |p::ps,_,.cons r t=>by
  obtain⟨a,rfl,q⟩:=r
  exact .cons (.tup q (.cons @Tp (.cons @Tp .nil))) (cq.rps t)
def Uk(p:Pr):Bool:=decide (0<=p.1)&&decide (p.1<8)&&decide (0<=p.2)&&decide (p.2<8)
variable {Γ:Fx}{E:XK}{e a b c:Expr}{f fa fb fc:VF D}{L La Lb:@c}{md ma mb mc:Md}{pos:Pos}
end
section
variable {K:Frag}{X:Cx}{G H:Hp}{Γ:Fx}{E:XK}{e a b c:Expr}{f fa fb fc:VF D}{L La Lb:@c}{md ma mb mc:Md}{pos apos cpos np:Pos}
def fR:D->@Ab
 | .int n=>if 0<=n/\n<=1000 then some (.list (dB 0 n.toNat))else none
 |_=>none
def DW(n:Nat):c9 K G ((@Ap).map λ(i:Nat)=>V.int (i:Int)) (dB 0 n):=by
 have key:∀l:@c,c9 K G (l.map λ(i:Nat)=>V.int (i:Int)) (l.map λ(k:Nat)=>int (0+k)):=by
  intro l
  induction l with
  |nil=>exact .nil
  |cons x l ih=>exact .cons (by show Rp K G (.int (x:Int)) (.int (0+(x:Int)));rw[VE];exact .int _) ih
 exact key _
theorem tM{p1 p2 pos2:Pos}(hc:X.calm=true)(hg:Gl X "list")(hm:X.mg "list"=none)(hg2:@He)(hm2:@FR=none)(ha:@AB)
  (he:@A_=(false,@AZ)::@An:=by rfl)
  (he2:starEach [@G3] X.env=(false,eval (@G3) X.env)::@An:=by rfl) :
  SE X Γ E (.Call (.Name "list" p1) [@G3] [] pos) (f1 fa fR) La .w:=by
 refine PE.post' (lG (wb hc) hg hm (@O) (aw (lG GH hg2 hm2 (@O) @PW @S @S he) aZ he2) @S @S he2) λσ H Q ⟨env,G,B,β,I,o⟩=>?_
 refine mK (r:=λx H1 Q=>∃n:Int,[x]= @OC/\∀p,H1 p=none->(λ(y:V) (H2:Hp)=>∃(p:Addr) (n:Int),[y]= [V.ref p]/\H2 p=some @Sf/\0<=n/\n<=1000/\∀l,H2 l=none->Q @Jg (upd H2 l (.lst ((@Kl).map λ(i:Nat)=>V.int (i:Int))))) (V.ref p) (upd H1 p @Sf)) ?_ I o
 intro B G H x dx d Q s hB bx e k
 cases dx with
 |int n=>
  obtain rfl:=bx.int
  simp only[fR]at e
  split at e
  ·rename_i hh
   cases e
   refine⟨n,rfl,λp hp=>⟨p,n,rfl,aE,hh.1,hh.2,λl hl=>?_⟩⟩
   have hlp:l≠p:=λz=>by subst z;rw[aE]at hl;cases hl
   have hlH:H l=none:=by rw[aJ hlp]at hl;exact hl
   have x1:=Ext.own s (o:=.eh 0 n) hp
   have x2:=Ext.own x1.gh (o:=.lst ((@Kl).map λ(i:Nat)=>V.int (i:Int))) hl
   exact k _ _ _ (x1.trans x2) ⟨l,rfl,hlH,s.free hlH,_,aE,DW _⟩
  ·cases e
 |_=>cases e
noncomputable def Tf(d:D):@Ab:=match d with
 | .list ds=>(match ll ds with
  |some ps=>if ps.all Uk=true/\ps.Nodup/\ps.length<64 then some (.list ((OM.my 8 (OM.Mem ps)).map aG))else none
  |none=>none)
 |_=>none
def EL(ds:List D)(k:D):Option (D×List D):=match k with
 | .int i=>if -(2^63)<=i/\i<2^63 then(match seqIndex? i ds.length with
  |some n=>(match ds[n]? with
   |some d=>some (d,ds.eraseIdx n)
   |none=>none)
  |none=>none)else none
 |_=>none
def mL(i j:Nat)(L:@c)(f:VF D):SF:=λenv β=>if uP env[i]? =true/\uP env[j]? =true/\i≠j then toS (@C0) λk β'=>match (@AD)[j]? with
 |some (.ow (.list es))=>(match EL es k with
  |some (d,es')=>Ml i ((@HK).set j (.ow (.list es'))) β' λds=>if ds.length<sizeLine then some (ds++[d])else none
  |none=>.bad)
 |_=>.bad else .bad
theorem c9.eraseIdx:∀{xs:List V} {ds:List D} (i:Nat),@Ax->c9 K G (xs.eraseIdx i) (ds.eraseIdx i)
 |_,_,_,.nil=>.nil
 |_,_,0,.cons _ t=>t
 |_,_,i+1,.cons r t=>.cons r (c9.eraseIdx i t)
theorem E9(i j:Nat){x y:Str}{np2 apos2 cpos2:Pos}(hb:∀j,Γ.br j=false)(he:@P1)(hN:X.N[i]? =some x:=by rfl)(hv:@Ca:=by first|exact @Af|exact @Eo|exact @FQ)(hd:@T:=by decide)
  (hcd:(x==("__classdict__":Str))=false:=by decide)
  (hN2:X.N[j]? =some y:=by rfl) (hv2:y7 X.env.scope y:=by first|exact @Af|exact @Eo|exact @FQ) (hd2:(y==("__debug__":Str))=false:=by decide)
  (hcd2:(y==("__classdict__":Str))=false:=by decide)
  (hbase:@OH=@G9:=by rfl)
  (hfew:((backTo cpos (starEach [@BJ] X.env)).all (λx=> !x.1)&&(@B7).all (λx=>x.1.isSome)
   && decide ([Expr.Call (.Attribute @PQ "pop" apos2) [e] [] cpos2].length+([]:@Cp).length+(if([]:@Cp).isEmpty then 0 else 1)<30))=true:=by rfl)
  (hline:(apos.endLine==cpos.line)=true:=by rfl) (hs:starEach [@BJ] X.env=(false,eval (@BJ) X.env)::@An:=by rfl)
  (hbase2:attributeBase @PQ "pop" X.env (eval @PQ X.env)=eval @PQ X.env:=by rfl)
  (hfew2:((backTo cpos2 (@F3)).all (λx=> !x.1)&&(backToKw cpos2 (keywordEach [] X.env)).all (λx=>x.1.isSome)
   && decide ([e].length+([]:@Cp).length+(if([]:@Cp).isEmpty then 0 else 1)<30))=true:=by rfl)
  (hline2:(apos2.endLine==cpos2.line)=true:=by rfl) (hs2:@F3=(false,@DE)::@An:=by rfl)
  (hsw:swapsWith @UC none pos.line X.env=@D6:=by rfl) :
  SS X Γ E (.Expr @UC pos) (mL i j L f):=by
 refine PS.post (sS (De WE PySem.F.slot_list_append PySem.F.type_list_append oM @ET
  (aw (De WE PySem.F.slot_list_pop PySem.F.type_list_pop IM (ju hN2 hv2 hd2 hcd2) (aw he aZ hs2) hbase2 hfew2 hline2 hs2 rfl) aZ hs) hbase hfew hline hs rfl) hsw) λN σ H ⟨env,G,B,β,I,o⟩=>?_
 unfold mL at o
 by_cases hO:uP env[i]? =true/\uP env[j]? =true/\i≠j
 case neg=>rw[UJ hO]at o;exact o.elim
 rw[Uz hO]at o
 obtain⟨hO1,hO2,hij⟩:=hO
 obtain⟨ds0,q0⟩:=qL hO1
 obtain⟨es0,w0⟩:=qL hO2
 obtain⟨p,h1,_,_,_,xs,h5,_⟩:=@WK
 obtain⟨q,k1,_,_,_,ys,k5,_⟩:=I.slot j _ w0
 refine⟨_,h1,@IQ,?_⟩
 refine⟨_,k1,.inl ⟨rfl,ys,.inl (.inl k5)⟩,?_⟩
 refine⟨env,G,B,β,I,dv o λkd β' k v G' H' I' s' m' vo=>?_⟩
 cases ej:(@AD)[j]? with
 |none=>rw[ej]at k;exact k.elim
 |some sj=>
  rw[ej]at k
  cases sj with
  |ow dj=>
   cases dj with
   |list es=>
    dsimp only at k
    cases ep:EL es kd with
    |none=>rw[ep]at k;exact k.elim
    |some pr=>
     obtain⟨d,es'⟩:=pr
     rw[ep]at k
     dsimp only at k
     unfold EL at ep
     cases kd<;>first|(cases ep;done)|skip
     rename_i ii
     dsimp only at ep
     split at ep
     ·rename_i hr
      cases eI:seqIndex? ii es.length with
      |none=>rw[eI]at ep;cases ep
      |some n=>
       rw[eI]at ep
       dsimp only at ep
       cases eD:es[n]? with
       |none=>rw[eD]at ep;cases ep
       |some d0=>
        rw[eD]at ep
        cases ep
        obtain rfl:=(vo.brw I.boxThere).int
        obtain⟨q',g1,_,_,_,zs,g5,g6⟩:=I'.slot j _ ej
        rw[k1]at g1;cases g1
        obtain⟨xv,ex,rx⟩:=g6.at eD
        refine⟨q,zs,ii,n,xv,rfl,rfl,g5,hr.1,hr.2,by rw[g6.len];exact eI,ex,?_⟩
        have I2:=I'.write hb ej k1 (o:=.lst (zs.eraseIdx n)) (d':=.list (es.eraseIdx n)) λH2 e2 s2=>⟨_,e2,g6.eraseIdx n⟩
        obtain⟨ds,fs,eq,eg,k⟩:=sX k
        by_cases hz:ds.length<sizeLine
        case neg=>rw[UJ hz]at eg;cases eg
        rw[Uz hz]at eg
        cases eg
        obtain⟨p',f1,_,_,_,us,f5,f6⟩:=I2.slot i _ eq
        rw[h1]at f1;cases f1
        refine⟨p,us,xv,rfl,rfl,f5,by rw[f6.len];exact hz,?_⟩
        exact k B G' _ σ (I2.write hb eq h1 λH2 e2 s2=>⟨_,e2,f6.snoc rx⟩) s'
     ·cases ep
   |_=>exact k.elim
  |_=>exact k.elim
end
def eQ:List D->Int->FB
 | [.int m],β=>if 0<m/\m<1073741824 then .ok (.int (β%m)) false (β/m)else .bad
 |_,_=>.bad
def Dy{ds:List D}{β:Int}(h:eQ ds β≠.bad):∃m,ds= [.int m]/\0<m/\m<1073741824:=by
 unfold eQ at h
 split at h
 ·rename_i m
  by_cases hh:0<m/\m<1073741824
  ·exact⟨m,rfl,hh.1,hh.2⟩
  ·rw[UJ hh]at h;exact @Br
 ·exact @Br
def yQ{m β:Int}(h0:0<m)(h1:m<1073741824):eQ [.int m] β=.ok (.int (β%m)) false (β/m):=Uz @Tm
section
variable {P:Program}{w:World}{K:Frag}{mg:@R}{base:Heap}
def LG{X:Cx}{i j:Nat}{x y:Str}{px py pos:Pos}{k:Nat}(hN:X.N.Nodup)(hi:X.N[i]? =some x)(hj:X.N[j]? =some y)(hx:@AO=@Ae)(hy:@Ei=@Ae)(hc:X.calm=true) :
  PG X @Qb (Ku X.K 2 @KX):=
 @E9
def FD{b:Addr}{β m:Int}{H:Hp}{Q:VK}{G:Hp}(hb:H b=@GV)(s:ay G H){p:Addr}(hp:H p=none)
  (kk:∀v G' H',@Md->H' b=some (.lst [.int (β/m)])->@CL->@SW->(∀c,Mx H c->G c=none->G' c=none)->FV K H G' H' false (.int (β%m)) v->Q v H') (gb:G b=none) :
  Q (.int (β%m)) (upd (upd H p (.tup [.int (β/m),.int (β%m)])) b (.lst [.int (β/m)])):=by
 have hbp:b≠p:=aO hb hp
 refine kk _ G _ ⟨λc o e n=>Kt.of (by rw[aJ (λz=>n (by rw[z])),aJ (aO e hp)];exact e),λc o u e=>by rw[aJ (λz=>by rw[z,hb]at e;cases e),aJ (aO e hp)];exact e⟩ aE (@A6) (λc o e=>?_) (λc _ h=>h) @Tp
 obtain⟨u,eu,_⟩:=(s c o e).some
 exact lx (lx (s c o e) (aO eu hp) λx y w=>by rw[hp]at w;cases w) (λz=>by rw[z,gb]at e;cases e) λx y w=>by rw[aJ hbp,hb]at w;cases w
end
end L2
namespace L2
open PySem PySem.SeqAt PySem.Spec PyProof.Rows
def yF{M:Model}{A:Around}{E:@L}{s:Shared}{β:Type}{b:Nat}(f:Nat->β->Sem (ForInStep β))(I:@c->β->Shared->Prop)(Q:β->Shared->Prop)
  (turn:∀x rest b s,I (x::rest) b s->wpAny M A (f x b) (λr s'=>match r with|.yield b'=>I rest b' s'|.done b'=>Q b' s') E s)
  (fin:∀b s,I [] b s->Q b s) (c:β) (h:I (List.range' 0 b) c s):wpAny M A (forIn [0:b] c f) Q E s:=by
 rw[Std.Legacy.Range.forIn_eq_forIn_range']
 simp only[Std.Legacy.Range.size,Nat.sub_zero,Nat.add_sub_cancel,Nat.div_one]
 exact wpAny_forIn_list f I Q turn fin _ c h
def v9(l:Addr)(items:@BC)(n:Nat)(dd:@i)(sl:@Ib)(x:Value)(e:Value->Bool)(j:Nat)(hj:j<items.size)
  (hit:e items[j]=true) (hno:∀m (hm:m<items.size),m<j->e items[m]=false) :
  Meets (Builtin.«tuple.index» ⟨[.ref l,x],[]⟩)
   (λA R s=>s.heap.get? l=some {cls:=@CA,dict:=dd,data:=.seq items n,slots:=sl}/\(∀y,y∈items->EqAt A.in1 s y x (e y))/\R (.ok (.ret (.int j s.toks))) {s with toks:=s.toks+1}):=
 .of_wp λprog w A R s h=>by
  obtain⟨hp,g,d,tk,os⟩:=s;obtain⟨hl,he,h⟩:=h
  wp_walk using wpAny_loadPart' hl,yF _ (λrest b s'=>b.1=none/\s'=⟨hp,g,d,tk,os⟩/\∃i,i<=j/\rest=List.range' i (items.size-i)) _
  case turn=>
   rintro y rest b s' ⟨hb,rfl,i,hi,hr⟩
   obtain⟨m,hm⟩:∃m,items.size-i=m+1:=⟨items.size-i-1,@B ⟩
   rw[hm,List.range'_succ]at hr
   obtain⟨rfl,rfl⟩:=List.cons.inj hr
   have hlt:y<items.size:=@B
   have e1:items[y]? =some items[y]:=by simp[hlt]
   simp only[e1]
   refine UA (he _ (Array.getElem_mem hlt) prog w _ _ ?_)
   by_cases z:y=j
   ·subst z
    rw[hit]
    wp_walk
    exact⟨_,rfl,h⟩
   ·rw[hno y hlt (@B)]
    wp_walk
    exact⟨rfl,rfl,y+1,@B,by congr 1;omega⟩
  case fin=>
   rintro b s' ⟨hb,rfl,i,hi,hr⟩
   obtain⟨m,hm⟩:∃m,items.size-i=m+1:=⟨items.size-i-1,@B ⟩
   rw[hm,List.range'_succ]at hr
   cases hr
  case h=>
   exact⟨rfl,rfl,0,Vl _,by rw[Nat.min_self];rfl⟩
section
variable {K:Frag}{X:Cx}{G H:Hp}{Γ:Fx}{E:XK}{e a b c:Expr}{f fa fb fc:VF D}{L La Lb:@c}{md ma mb mc:Md}{pos apos cpos np:Pos}
def Bv(k:Int):Value->Bool
 | .int i _=>i==k
 |_=>false
theorem pJ{k:Int}:∀{ns:@E} {us:@e} (i:Nat) (h:i<us.length) (h2:i<ns.length),Vals @B6 us->Bv k us[i]=(ns[i]==k)
 | [],_,_,_,h2,_=>absurd h2 @KU
 |n::ns,_,0,_,_,.cons r _=>by obtain⟨t,rfl⟩:=r;rfl
 |n::ns,_,i+1,h,h2,.cons _ rs=>pJ i (Nat.lt_of_succ_lt_succ h) (Nat.lt_of_succ_lt_succ h2) rs
theorem Ac{k:Int}{t:Tok}(A:Around)(s:Shared):∀{ns:@E} {us:@e},Vals @B6 us->∀y∈us,EqAt A s y (.int k t) (Bv k y)
 | [],_,.nil,y,hy=>by cases hy
 |n::ns,_,.cons r rs,y,hy=>by
  rcases UD.mp hy with z|z
  ·subst z;obtain⟨t',rfl⟩:=r;exact EqAt.int_int n t' k t
  ·exact Ac A s rs y z
def KQ(K:Frag):V->List V->Hp->VK->Prop:=λx vs H Q=>∃(a:Addr) (ns:@E) (k:Int),x=.ref a/\vs= [.int k]/\iO K H a @B6/\k∈ns/\Q (.int (@OI:Nat)) H
def D0:OR X "tuple.index" (KQ X.K):=by
 intro pins s σ H x vs v us Q I rx rv h
 obtain⟨a,ns,k,rfl,rfl,hq,hk,q⟩:=h
 cases rx
 obtain⟨u,rfl,ru⟩:=vals1 rv
 obtain⟨t,rfl⟩:=ru
 obtain⟨its,rs,pl,hz⟩:=@Ge
 obtain⟨⟨cls,dd,data,sl⟩,ho,hc,n,hd⟩:=id pl
 simp only at hc hd
 subst hc hd
 have hj:@OI<ns.length:=VQ.mpr hk
 have hlen:its.length=ns.length:=by rw[<-rs.length,Uw]
 refine Xh PySem.F.slot_tuple_index @Ou PySem.F.entry_tuple_index (PySem.F.args_tuple_index_2 _ _)
  (v9 a its.toArray n dd sl (.int k t) (Bv k) (@OI) (by simpa[hlen]using hj) ?_ ?_) ⟨ho,λy hy=>Ac _ _ rs y (by simpa using hy),?_⟩
 ·have:=pJ (k:=k) (@OI) (@B) hj rs
  simpa[Xd hj]using this
 ·intro m hm hlt
  have hm':m<ns.length:=by simpa[hlen]using hm
  have hne:ns[m]≠k:=λz=>by
   have:=List.not_of_lt_findIdx (p:=(· == k)) hlt
   simp[z]at this
  have:=pJ (k:=k) m (@B) hm' rs
  rw[beq_eq_false_iff_ne.mpr hne]at this;simpa using this
 ·exact⟨.int (@OI:Nat),H,@HT,@BS,q⟩
def Inv.tupleP{pins:@K}{σ:St}{s:Shared}{p:Addr}{xs:List V}(I:@D)(h:@Wo):s.TypeIs @E7 "tuple"/\∀a,Value.ref p=.ref a->∃ob,s.heap.get? a=some ob/\ob.dict=none:=by
 rcases h with h|⟨o,its,n,hk,hc,hs,hz,r,hd⟩
 ·obtain⟨_,_,_,o,e,c,n,d,hd⟩:=h.ok I.hok
  exact⟨⟨o,e,c⟩,λa z=>by cases z;exact⟨o,e,hd⟩⟩
 ·exact⟨@W5,λa z=>by cases z;exact⟨o,I.kIn p o hk,hd⟩⟩
def Sj(K:Frag)(r:V->List V->Hp->VK->Prop)(to:TE)(t:TA):TE:=λσ H Q=>to σ H λx H1=>(∃p xs,x=.ref p/\iO K H1 p xs)/\t σ H1 λxs H2=>r x xs H2 Q
def OP{o e:Expr}{es:@Ac}{to:TE}{t:TA}{name:Str}{apos cpos:Pos}{id:String}{r:V->List V->Hp->VK->Prop}(slot:Slot "tuple" name id)(hty:typeOf @EE=@QU)(hm:OR X id r)(ho:PE X o to)(ha:PA X (e::es) t)
  (hbase:@Mw=@Yc:=by rfl)
  (hfew:((backTo cpos (starEach (e::es) X.env)).all (λx=> !x.1)&&(@B7).all (λx=>x.1.isSome)
   && decide ((e::es).length+([]:@Cp).length+(if([]:@Cp).isEmpty then 0 else 1)<30))=true:=by rfl)
  (hline:(apos.endLine==cpos.line)=true:=by rfl) (hs:starEach (e::es) X.env=(false,@DE)::@AA:=by rfl) (hplain:(@Lk).any (·.1)=false:=by rfl) :
  PE X (.Call @Uq (e::es) [] cpos) (Sj X.K r to t):=by
 intro pins s σ H Q I h
 refine wpAny_Call_method_late hbase hfew hline rfl (cK @Mn λv s1 ⟨x,H1,I1,r1,⟨p,ys,ex,hr⟩,q1⟩=>?_)
 subst ex
 cases r1
 obtain⟨h1,h2⟩:=I1.tupleP hr
 refine⟨"tuple",id,PySem.F.plainAttrs_tuple,slot,hty,h1,h2,?_⟩
 have hA:=@R8
 rw[hs]at hA ⊢
 refine Calls.callWith_builtin (by show(false||(@Lk).any (·.1))=false;rw[hplain]<;>rfl) (Calls.evalArgs_plain ?_)
 exact cK hA λus s2 ⟨vs,H2,I2,r2,q2⟩=>hm pins s2 σ H2 @E7 vs @E7 us Q I2 rfl r2 q2
def kA:List D->Option (@E)
 | []=>some []
 | .int i::ds=>(kA ds).map (i :: ·)
 |_=>none
theorem qq:∀{ds:List D} {ns:@E},kA ds=some ns->ds=@Cu
 | [],ns,h=>by cases h;rfl
 | .int i::ds,ns,h=>by
  unfold kA at h
  cases q:kA ds with
  |none=>rw[q]at h;cases h
  |some ms=>rw[q]at h;cases h;rw[qq q];rfl
 | .none::_,_,h=>by cases h
 | .bool _::_,_,h=>by cases h
 | .str _::_,_,h=>by cases h
 | .list _::_,_,h=>by cases h
 | .tuple _::_,_,h=>by cases h
 | .dict _::_,_,h=>by cases h
theorem i4:∀ns:@E,kA (@Cu)=some ns
 | []=>rfl
 |n::ns=>by show(kA (@Cu)).map (n :: ·)=_;rw[i4 ns];rfl
theorem vf:∀{ns:@E} {xs:List V},c9 K G xs (@Cu)->xs=ns.map V.int
 | [],_,.nil=>rfl
 |n::ns,_,.cons r t=>by cases r;rw[vf t];rfl
def KN(d y:D):@Ab:=match d,y with
 | .tuple ds,.int k=>(match kA ds with
  |some ns=>if k∈ns then some (.int (@OI:Nat))else none
  |none=>none)
 |_,_=>none
def Dj:D->Bool
 | .tuple _=>true
 |_=>false
def qP(fa fb:VF D):VF D:=λvs β=>(@AU).bnd λx β1=>if Dj x=true then(@Et).bnd λy β2=>R.of (KN x y) β2 else .bad
theorem Ad(hK:X.K=Γ.K)(ha:@AB)(hb:@Cj)
  (hbase:attributeBase a "index" X.env (@AZ)=@AZ:=by rfl)
  (hfew:((backTo cpos (@DS)).all (λx=> !x.1)&&(@B7).all (λx=>x.1.isSome)
   && decide ([b].length+([]:@Cp).length+(if([]:@Cp).isEmpty then 0 else 1)<30))=true:=by rfl)
  (hline:(apos.endLine==cpos.line)=true:=by rfl) (hs:@DS=(false,@DD)::@An:=by rfl) :
  SE X Γ E (.Call (.Attribute a "index" apos) [b] [] cpos) (qP fa fb) (La++Lb) .v:=by
 refine PE.post' (OP PySem.F.slot_tuple_index PySem.F.type_tuple_index D0 ha (aw hb aZ hs) hbase hfew hline hs rfl) λσ H Q ⟨env,G,B,β,I,o⟩=>?_
 refine⟨env,G,B,β,I,o.bnd.imp λd1 β1 h x G1 H1 I1 s1 m1 vx=>?_⟩
 have vx:=@DG
 cases d1 with
 |tuple ds=>
  rw[Uz (show Dj @D7=true from rfl)]at h
  obtain⟨p,xs,rfl,hq,r⟩:=vx.tuple I1.sub
  refine⟨⟨p,xs,rfl,by rw[hK];exact hq⟩,?_⟩
  refine⟨@JN,G1,B,β1,I1,?_⟩
  rw[eN]
  refine h.bnd.imp λd2 β2 h y G2 H2 I2 s2 m2 vy=>?_
  obtain⟨d,e,k⟩:=h.of
  have vy:=@QL
  cases d2 with
  |int kk=>
   obtain rfl:=vy.int
   simp only[KN]at e
   cases q:kA ds with
   |none=>rw[q]at e;cases e
   |some ns=>
    rw[q]at e
    dsimp only at e
    split at e
    ·rename_i hk
     cases e
     have eds:=qq q
     subst eds
     have exs:=vf r
     subst exs
     have hq2:iO X.K H2 p @B6:=by
      rw[hK]
      rcases hq with hq|hq
      ·rcases vx with vx|⟨_,_,_,vx⟩
       ·cases vx with
        |tup g1 r9=>have z9:=vf r9;subst z9;exact(g1.grow (s2.trans I2.sub).grow)
       ·exact vx.elim
      ·exact .inr hq
     exact⟨p,ns,kk,rfl,rfl,hq2,hk,k _ G2 H2 (by rw[cM];exact I2) (@Dp) (@Ee) @Tp ⟩
    ·cases e
  |_=>simp only[KN]at e;cases e
 |_=>exact h.elim
end
end L2
namespace L2
open PySem PySem.Spec PyProof.Rows
def l5:En->Bool
 | []=>true
 | .no::env=>l5 env
 | .fz _::env=>l5 env
 |_=>false
theorem jV:∀{env:En} {i:Nat} {s:Sl},l5 env=true->env[i]? =some s->s=.no\/∃d,s=.fz d
 | [],_,_,_,e=>by simp at e
 | .no::env,0,_,_,e=>by simp at e;exact .inl e.symm
 | .fz d::env,0,_,_,e=>by simp at e;exact .inr ⟨d,e.symm⟩
 | .no::env,i+1,s,h,e=>jV (env:=env) h (by simpa using e)
 | .fz d::env,i+1,s,h,e=>jV (env:=env) h (by simpa using e)
 | .ow _::_,_,_,h,_=>by cases h
 | .br _::_,_,_,h,_=>by cases h
 | .bx::_,_,_,h,_=>by cases h
section
variable {X:Cx}{Γ:Fx}{E:XK}{m:SF}
def SR.drop{B:@i}{G H:Hp}{σ:St}{env:En}{β:Int}(I:@b)(hf:l5 env=true):SR @Fn none G H σ env 0:=by
 refine⟨I.sub,@A6,λb _ h=>h,λb o h _=>@WN,λb h=>(by cases h),λb h=>(by cases h),λb h=>(by cases h),I.len,λi s e=>?_,λi j a d e h=>?_⟩
 ·rcases jV hf e with rfl|⟨d,rfl⟩
  ·trivial
  ·exact @Nd
 ·rcases jV hf h with z|⟨_,z⟩<;>cases z
def SR.undrop{B B':@i}{G H G' H':Hp}{σ σ':St}{env env':En}{β β':Int}(I:@b)(J:@SQ):SR Γ B G' H' σ (List.replicate env.length .no) β:=by
 have kp:∀b o,H b=some o->@LX:=λb o e=>J.keep b o e @W
 have ks:@Cy:=kp
 refine⟨J.sub,@Qu,λb h1 h2=>@OO,λb o h1 h2=>(@MW).step ks,λb hb=>(@VL).same (kp b),I.fix,λb e=>?_,by rw[Vs];exact I.len,λi s e=>?_,λi j a d e h=>?_⟩
 ·obtain⟨h1,h2,h3⟩:=@TC
  exact @N0
 ·rw[VD (U1 e)];trivial
 ·have:=VD (U1 h);cases this
def SR.forget{B:@i}{G H H':Hp}{σ:St}{env:En}{β:Int}(I:@b)(hh:@Cy):SR Γ B G H' σ env β:=I.ext ⟨hh,@A6,I.sub.trans hh,λ_ _=>rfl⟩
end
section
variable {κ:Type}[DecidableEq κ]
def putK(kvs:List (κ×V))(k:κ)(v:V):List (κ×V):=
 if(kvs.any λkv=>decide (kv.1=k))=true then kvs.map (λkv=>if kv.1=k then(kv.1,v)else kv)else kvs++[(k,v)]
def zE(kvs:List (κ×V))(k:κ)(v:V):(putK kvs k v).length<=kvs.length+1:=by
 unfold putK
 split
 ·rw[Uw];omega
 ·rw[UL,UY,Wo];omega
theorem KV.any{kvs:List (κ×V)}{vs:List (κ×Value)}(r:@JJ)(k:κ):(kvs.any λkv=>decide (kv.1=k))=vs.any λkv=>decide (kv.1=k):=by
 unfold KV at r
 induction r with
 |nil=>rfl
 |cons h t ih=>rw[Ws,Ws,ih,h.1]
theorem KV.repl{kvs:List (κ×V)}{vs:List (κ×Value)}(r:@JJ)(k:κ){y:V}{u:Value}(ry:@P0) :
  KV (kvs.map λkv=>if kv.1=k then(kv.1,y)else kv) (vs.map λkv=>if kv.1=k then(kv.1,u)else kv):=by
 unfold KV at r ⊢
 induction r with
 |nil=>exact .nil
 | @cons p q ps qs h t ih=>
  rw[Vj,Vj]
  refine .cons ?_ ih
  obtain⟨h1,h2⟩:=h
  by_cases e:p.1=k
  ·rw[Uz e,Uz (h1.symm.trans e)];exact⟨h1,ry⟩
  ·rw[UJ e,UJ (λz=>e (h1.trans z))];exact @Uo
def KV.put{kvs:List (κ×V)}{vs:List (κ×Value)}(r:@JJ)(k:κ){y:V}{u:Value}(ry:@P0):KV (putK kvs k y) (stored vs k u):=by
 unfold putK stored
 rw[r.any k]
 by_cases e:(vs.any λkv=>decide (kv.1=k))=true
 ·rw[Uz e,Uz e];exact r.repl k ry
 ·rw[UJ e,UJ e];exact Paired.snoc r ⟨rfl,ry⟩
end
theorem Ql{P:Program}{w:World}{k:Key}{u:Value}(r:RelV (kV k) u):(ig P w).is k u=true:=by
 cases k with
 |inl i=>obtain⟨t,e⟩:=(show ∃t,u=@P5 from r);subst e;exact Ar P w i t
 |inr x=>obtain⟨t,e⟩:=(show ∃t,u=@WX from r);subst e;exact zh P w x t
section
variable {P:Program}{w:World}{H:Hp}{h:Heap}{a:Addr}
def O9{u:HO}(ok:@Fk)(e:Rd H a u):cW P w H h a u:=e.ok ok
def QJ{kvs:List (Key×V)}(ok:@Fk)(e:Rd H a (.dK kvs)):kvs.length<=sizeLine/\(a==sysModules)=false/\∃vs,@JJ/\@M1:=
 show cW P w H h a (.dK kvs)from O9 ok e
def P4{kvs:List (Key×V)}(ok:@Fk)(e:H a=@Fl):kvs.length<=sizeLine/\(a==sysModules)=false/\∃vs,@JJ/\@M1:=QJ ok (.inl e)
end
section
variable {X:Cx}{pins:@K}{σ:St}{H:Hp}{s:Shared}{a:Addr}{y v:V}{u r:Value}{o:@Pv}{A:Around}{E:@L}
def Inv.big(I:@D):sysModules<s.heap.objs.size:=by
 have h:mainGlobals<s.heap.objs.size:=(@GF).lt
 exact WC @S h
def Ln{h':Heap}{t':Nat}{ob:HO}(I:@D)(mu:QT (H a))(hs:@VK)(he:∃q,h'.get? a=some q)(new:cW X.prog X.w (upd H a ob) h' a ob) :
  Inv X pins σ (upd H a ob) {s with heap:=h',toks:=t'}:=
 I.write (x:=a) (e:=a) mu (@BQ) (λb q hb z=>(hs.2 b hb).trans z) he new
def MM{P:Program}{w:World}{H':Hp}{h':Heap}{kvs:List (Key×V)}{vs:List (Key×Value)}(z:kvs.length<=sizeLine)(hd:(a==sysModules)=false)(rel:@JJ)(dd:h'.DictOf (ig P w) a vs) :
  cW P w H' h' a (.dK kvs):=⟨z,hd,vs,rel,dd⟩
end
def Hk{P:Program}{w:World}{H:Hp}(h:Heap)(hb:sysModules<h.objs.size):cW P w H (h.push {cls:=@JF,data:=.dict #[]}) h.objs.size (.dK []):=
 ⟨Vl _,beq_eq_false_iff_ne.mpr (Ne.symm (Vc hb)),[],.nil,Heap.DictOf.new h⟩
def A9:List (TE×TE)->St->Hp->(List (V×V)->Hp->Prop)->Prop
 | [],_,H,Q=>Q [] H
 | (tk,tv)::r,σ,H,Q=>tk σ H λx H1=>tv σ H1 λy H2=>A9 r σ H2 λps H3=>Q ((x,y)::ps) H3
abbrev VV:List (V×V)->List (Value×Value)->Prop:=Paired λp q=>RelV p.1 q.1/\RelV p.2 q.2
def Rm(X:Cx)(pos:Pos)(keys:@Qx)(values:@Ac)(trs:List (TE×TE)):Prop:=
 ∀(pins:@K) (s:Shared) (σ:St) (H:Hp) (Q:List (V×V)->Hp->Prop),@D->A9 trs σ H Q->
  wpAny @N X.A (evalPairs (pairTrees keys values X.env pos)) (λvs s'=>∃ps H',@CB/\VV ps vs/\Q ps H') X.xe s
def KJ{X:Cx}{pos:Pos}:Rm X pos [] [] []:=λpins s σ H Q I h=>pairTrees_nil_walk @PK
def IL{X:Cx}{pos:Pos}{k v:Expr}{ks:@Qx}{vs:@Ac}{tk tv:TE}{trs:List (TE×TE)}(hk:PE X k tk)(hv:PE X v tv)(hr:Rm X pos ks vs trs) :
  Rm X pos (some k::ks) (v::vs) ((tk,tv)::trs):=λpins s σ H Q I h=>
 pairTrees_cons_walk (cK (hk pins s σ H _ I h) λu s1 ⟨x,H1,I1,rx,q1⟩=>cK (hv pins s1 σ H1 _ I1 q1) λw2 s2 ⟨y,H2,I2,ry,q2⟩=>
  cK (hr pins s2 σ H2 _ I2 q2) λws s3 ⟨ps,H3,I3,rel,q3⟩=>⟨(x,y)::ps,H3,I3,.cons ⟨rx,ry⟩ rel,q3⟩)
def ur(kvs more:List (Key×V)):List (Key×V):=more.foldl (λacc kv=>putK acc kv.1 kv.2) kvs
theorem KV.merge:∀{more:List (Key×V)} {rs:List (Key×Value)} {kvs:List (Key×V)} {vs:List (Key×Value)},KV more rs->@JJ->KV (ur kvs more) (merged vs rs):=by
 intro more rs kvs vs r
 unfold KV at r
 induction r generalizing kvs vs with
 |nil=>intro q;exact q
 | @cons p q ps qs h t ih=>
  intro r0
  have e:KV (putK kvs p.1 p.2) (stored vs q.1 q.2):=by
   have:=r0.put p.1 h.2
   rw[<-h.1];exact this
  exact ih e
theorem pz:∀(more kvs:List (Key×V)),(ur kvs more).length<=kvs.length+more.length
 | [],kvs=>by show kvs.length<=kvs.length+0;omega
 |p::r,kvs=>by
  have h1:=pz r (putK kvs p.1 p.2)
  have h2:=zE kvs p.1 p.2
  show(ur (putK kvs p.1 p.2) r).length<=_
  rw[UY];omega
theorem ua{P:Program}{w:World}:∀{kvs:List (Key×V)} {ws:List (Value×Value)},VV (kvs.map λkv=>(kV kv.1,kv.2)) ws->∃rs,Carries (ig P w) ws rs/\KV kvs rs
 | [],_,r=>by rw[map_nil]at r;cases r;exact⟨[],True.intro,.nil⟩
 |p::kvs,_,r=>by
  rw[Vj]at r
  cases r with
  | @cons a b as bs h t=>
   obtain⟨rs,c,q⟩:=ua (P:=P) (w:=w) t
   obtain⟨b1,b2⟩:=b
   exact⟨(p.1,b2)::rs,⟨Ql h.1,rfl,c⟩,.cons ⟨rfl,h.2⟩ q⟩
def P7(trs:List (TE×TE)):TE:=λσ H Q=>∀p,H p=none->A9 trs σ (upd H p (.dK [])) λps H2=>H2 p=some (.dK [])/\∃kvs:List (Key×V),ps=kvs.map (λkv=>(kV kv.1,kv.2))/\kvs.length<=15/\Q @E7 (upd H2 p (.dK (ur [] kvs)))
def Lo{X:Cx}{pos:Pos}{keys:@Qx}{values:@Ac}{trs:List (TE×TE)}(h:Rm X pos keys values trs)(hall:keys.all (·.isSome)=true)(hl:keys.length=values.length)(h0:keys≠ [])
  (h15:keys.length<=15):PE X (.Dict keys values pos) (P7 trs):=by
 intro pins s σ H Q I q
 have hn:=I.hok.fresh (UC s.heap.objs.size)
 have I1:=I.laid (a:=s.heap.objs.size) (o:=.dK []) (h':=s.heap.push {cls:=@JF,data:=.dict #[]}) (t':=s.toks) (λ_ _ q=>Ux _ q) (UC _) (Hk s.heap I.big)
 refine wpAny_Dict_walk (knd:=ig X.prog X.w) hall hl h0 h15 (cK (h pins _ σ _ _ I1 (q _ hn)) λws s2 ⟨ps,H2,I2,rel,e,kvs,ep,lk,q2⟩=>?_)
 subst ep
 obtain⟨rs,c,rk⟩:=ua (P:=X.prog) (w:=X.w) rel
 obtain⟨z,hd,vs0,r0,dd⟩:=P4 I2.hok e
 cases r0
 refine⟨rs,c,dd,λh' dd' hs=>⟨@AN,_,?_,rfl,q2⟩⟩
 have hz:(ur [] kvs).length<=sizeLine:=by
  have h1:=pz kvs []
  rw[Wo]at h1
  rw[Vi];omega
 have he:∃q,h'.get? s.heap.objs.size=some q:=let⟨q,_,_,hq,_⟩:=dd';⟨q,hq⟩
 exact Ln I2 (by rw[e];exact True.intro) hs he (MM hz hd (rk.merge .nil) dd')
section
variable {X:Cx}{Γ:Fx}{E:XK}{pos:Pos}
def LD{k:Str}{i:Int}{j j'}{p p':Pos}:SE X Γ E (.Dict [some (.Constant (.str k) j p)] [.Constant @AJ j' p'] pos) (cst (.dict [(.str k,.int i)])) [] .v:=by
 refine PE.post' (Lo (IL FL rM KJ) rfl rfl @W @W) ?_
 rintro σ H Q ⟨env,G,B,β,I,o⟩ p hp
 have o:∀v G' H',SR Γ B G' H' σ (bj [] env) β->@CL->@DQ->Rp Γ.K G' v (.dict [(.str k,.int i)])->Q v H':=o
 refine⟨aE,[(.inr k,.int i)],rfl,by simp,?_⟩
 rw[J8]
 have xn:=Ext.new I.sub (o:=.dK [((.inr k:Key),V.int i)]) hp
 exact o _ _ _ (I.ext xn) xn.gg (xn.hh.mov B) (.dK (kvs:=[((.inr k:Key),V.int i)]) aE (.one @AJ))
end
mutual
def OZ:D->Bool
 | .list ds=>FH ds
 | .tuple ds=>FH ds
 | .dict kvs=> !kvs.isEmpty&&kvs.all λkv=>match kv.1,kv.2 with
  | .str _,.int _=>true
  |_,_=>false
 |_=>true
def FH:List D->Bool
 | []=>true
 |d::ds=>OZ d&&FH ds
end
section
variable {prog:Program}{w:World}{A:Around}{E:@L}{s:Shared}{it t:Addr}{i:Nat}{xs:@BC}{Q:@L}
theorem RS(hi:s.heap.IsTupleIter it t i)(ht:s.heap.IsTuple t xs)
  (k1:∀x,xs[i]? =some x->∀h',h'.IsTupleIter it t (i+1)->Heap.SameBut it s.heap h'->Q x {s with heap:=h'})
  (k2:xs[i]? =none->A.handled=none/\∀h' e,@VJ->(∃o,h'.get? e=some o/\o.cls=@NZ)->E @Hq {s with heap:=h'}) :
  wpAny @Ak A (Builtin.SmallTypes.nextOf @Cv) Q E s:=by
 obtain⟨o,ho,hc,hd⟩:=id hi
 obtain⟨ol,hol, -,nl,hdl⟩:=ht
 refine UA (wpAny_callSpecial?_slot (name:=@WS) hi.typeIs F.slot_tuple_iterator_next (wpAny_call_entry F.slot_tuple_iterator_next hi.typeIs F.entry_tuple_iterator_next ?_ (F.args_tuple_iterator_next_1 _)))
 refine(show wpAny _ _ (field @Cv 0 >>= _) _ _ s from UA (V9 ho hd (x:=.ref t) rfl ?_))
 refine(show wpAny _ _ (if(Value.ref t==Value.none)=true then _ else _) _ _ s from ?_)
 rw[UJ (by exact UQ)]
 refine(show wpAny _ _ (field @Cv 1 >>= _) _ _ s from UA (V9 ho hd (x:=.int i 0) rfl ?_))
 refine(show wpAny _ _ (seqItems? @Vy >>= _) _ _ s from UA (wpAny_seqItems hol hdl ?_))
 cases hx:xs[i]? with
 |some x=>
  simp only[Vd,hx]
  refine UA (Xi ho hd @W (U3 ⟨x,rfl,U3 (k1 x hx _ ?_ (Heap.SameBut.update ..))⟩))
  refine⟨_,Wq _ ho (Obj.isFreed_of_fields (Xa hd _)),(Obj.cls_mapFields ..).trans hc,?_⟩
  rw[Xa hd]
  simp[rawInt]
 |none=>
  obtain⟨hh,hE⟩:=k2 hx
  simp only[Vd,hx]
  refine UA (wpAny_rule (UA (Xi ho hd @W (show wpAny _ _ (newExc (@NZ) [] >>= _) _ _ _ from UA ?_))))
  simp only[newExc,newTuple]
  refine UA (WO (UA (m:=firstArgMember _ _) (wpAny_of_eq (a:=Value.none) (by first|rfl|(simp only[firstArgMember];rfl)) (WO ?_ (by size_fits)))) (by size_fits))
  simp only[raiseNew]
  refine UA (wpAny_handled ?_)
  have hh':A.in1.handled=none:=hh
  first|rw[hh']|rw[hh]
  exact UA (U3 (wpAny_throw (hE _ _ (((Heap.SameBut.update ..).extBut.push _).push _) ⟨_,@Gq,rfl⟩)))
def MX(hh:A.handled=none)(hne:t≠it)(xs:@BC):Draws prog w A it [it,t] xs.size (λi v=>xs[i]? =some v) (λi h=>h.IsTupleIter it t i/\h.IsTuple t xs) where
 live:=λ_ _ st=>let⟨o,ho,_⟩:=st.1;⟨o,ho⟩
 frame:=λ_ _ _ st hk=>⟨st.1.at λo e=>@Yi,st.2.at λo e=>hk t @W o e⟩
 item:=λi s Q E hi st k=>RS st.1 st.2 (λx hx h' q1 q2=>k x h' s.toks hx ⟨q1,st.2.extBut q2.extBut hne⟩ q2) λz=>by simp at z;omega
 done:=λs Q E st k=>RS st.1 st.2 (λx hx=>by simp at hx) λ_=>⟨hh,k⟩
end
abbrev NS(t:Addr):Obj:={cls:=@XI,data:=.fields #[.ref t,@N9]}
abbrev RE(it:Addr):Obj:={cls:=@LW,data:=.fields #[.none,@Ai,.ref it,rawInt 0,.none,.none]}
def Iy(t:Addr)(xs:@BC)(n:Nat)(dc:@i)(sl:@Ib) :
  Meets (Builtin.«enumerate.__new__» ⟨[@LW,.ref t],[]⟩) (λ_ R s=>s.heap.get? t=some ⟨@CA,dc,.seq xs n,sl⟩/\
   R (.ok (.ret (.ref (@F1).objs.size))) {s with heap:=(@F1).push @I7}):=by
 refine .of_wp λprog w A R s h=>?_
 obtain⟨hp,g,d,tk,os⟩:=s
 obtain⟨hl,h⟩:=h
 have sb:=sub_enumerate
 have hT:Heap.IsTuple (Shared.heap ⟨hp,g,d,tk,os⟩) t xs:=⟨_,hl,rfl,n,rfl⟩
 wp_walk using Xe hl
 refine wpAny_stack_any λst=>U3 ?_
 split
 ·rename_i c _ _ _ _ _
  cases(c==Value.type "enumerate")<;>(wp_walk using Xe hl,WH hT;exact⟨_,rfl,h⟩)
 ·wp_walk using Xe hl,WH hT
  exact⟨_,rfl,h⟩
section
variable {prog:Program}{w:World}{A:Around}{E:@L}{s:Shared}
def Bu{t:Addr}{xs:@BC}{Q:@L}(hT:s.heap.IsTuple t xs)
  (k:∀h',IsEnum h' (s.heap.objs.size+1) s.heap.objs.size 0 .none->h'.IsTupleIter s.heap.objs.size t 0->(∀b o,s.heap.get? b=some o->h'.get? b=some o)->Q (.ref (s.heap.objs.size+1)) {s with heap:=h'}) :
  wpAny @Ak A (call (@LW) [.ref t]) Q E s:=by
 obtain⟨⟨c,dc,dt,sl⟩,hl,hc,n,hd⟩:=hT
 have hc:c=@CA:=hc
 have hd:dt=.seq xs n:=hd
 subst hc hd
 refine callType_new F.called_enumerate @S (F.typeCall_enumerate_1 _) (F.newCall_enumerate_1 _) (λob=>F.args_object_init_2 ob _) F.entry_enumerate_new (Iy t xs n dc sl) ⟨hl,?_⟩
 have hz:(@F1).objs.size=s.heap.objs.size+1:=VC ..
 have g2:((@F1).push @I7).get? (@F1).objs.size=some @I7:=@Gq
 have g1:((@F1).push @I7).get? s.heap.objs.size=some (NS t):=Ux _ (@Gq)
 rw[hz]at g2
 show _/\_
 rw[hz]
 exact⟨⟨_,g2,rfl⟩,k _ g2 ⟨_,g1,rfl,rfl⟩ λb o e=>@QO ⟩
end
def Oj{prog:Program}{w:World}{A:Around}{it t:Addr}{xs:@BC}(hh:A.handled=none)(i:Nat)(hx:xs[i]? =none):Draws prog w A it [it,t] i (λ_ _=>False) (λj h=>j=i/\h.IsTupleIter it t i/\h.IsTuple t xs) where
 live:=λ_ _ st=>let⟨o,ho,_⟩:=st.2.1;⟨o,ho⟩
 frame:=λ_ _ _ st hk=>⟨st.1,st.2.1.at λo e=>@Yi,st.2.2.at λo e=>hk t @W o e⟩
 item:=λj s Q E hi st k=>absurd st.1 (@B)
 done:=λs Q E st k=>RS st.2.1 st.2.2 (λx h=>by rw[hx]at h;cases h) λ_=>⟨hh,k⟩
def Sm(K:Frag)(a:Addr):It:=
 ⟨λi H=>∃xs x,@Cl/\xs[i]? =some x,
  λi H v H'=>∃x t,H t=none/\(∀xs,@Cl->xs[i]? =some x)/\v=.ref t/\H'=upd H t (@H1),
  λi H=>∃xs,@Cl/\xs.length<=i⟩
abbrev vp(n:Nat):@c:=[n+1,n]
def Ep{h:Heap}{a n:Addr}{i:Nat}{its:@BC}{b:Addr}(p:h.IsTuple a its)(q:h.IsTupleIter n b i):a≠n:=λz=>by
 subst z
 obtain⟨o,e,c,_⟩:=p
 obtain⟨o',e',c',_⟩:=q
 rw[e]at e';cases e'
 rw[c]at c'
 simp at c'
def EV{h:Heap}{a n it:Addr}{i:Int}{its:@BC}{old:Value}(p:h.IsTuple a its)(q:IsEnum h n it i old):n≠a:=λz=>by
 subst z
 obtain⟨o,e,c,_⟩:=p
 rw[q]at e;cases e
 simp at c
def Bw{P:Program}{w:World}{K:Frag}{elts:@Ac}{x1}{pos:Pos}(a:Addr)(n:Nat):Turn P w K (.Tuple elts x1 pos) (Sm K a) (vp n) (n+1)
  (λi h=>(∃old,IsEnum h (n+1) n i old)/\h.IsTupleIter n a i) where
 mem:=by simp
 obj:=λi h st c hc=>by
  obtain⟨⟨old,z1⟩,⟨o2,z2,_,d2⟩⟩:=st
  simp only[vp,UD,Vf,VW]at hc
  rcases hc with rfl|rfl
  ·exact⟨_,z1,λv z=>by
    have z':@MB=@O4:=z
    cases z'⟩
  ·exact⟨o2,z2,λv z=>by rw[d2]at z;cases z⟩
 keep:=λi h h' st k=>by
  obtain⟨⟨old,z1⟩,z2⟩:=st
  exact⟨@Y3,z2.at λo e=>k _ @W o e⟩
 item:=by
  intro X hP hw hK hc i pins s σ H E I hf st hg
  subst hP hw hK
  obtain⟨xs,x,ha,hx⟩:=hg
  obtain⟨its,rv,p,hz⟩:=@VM
  have p:@Jo:=p
  obtain⟨u0,hu0,ru0⟩:=@Yr
  obtain⟨⟨old,z1⟩,z2⟩:=st
  have hh:X.A.in1.handled=none:=@DV
  have hlt:i<its.toArray.size:=by
   have:=Uy.mp hu0
   simpa using this.1
  refine wpAny_pyNext_enum_itemD (MX hh (Ep p z2) its.toArray) z1 ⟨z2,p⟩ hlt (@VP) (by
   simp only[UD,Vf,VW,not_or]
   exact⟨@VP,EV p z1⟩) λu h' tk hu q1 q2 q3 q4 q5=>?_
  have eu:u0=u:=by
   have hu:its.toArray[i]? =some u:=hu
   rw[List.getElem?_toArray,hu0]at hu
   exact Option.some.inj hu
  subst eu
  refine⟨_,rfl,wpAny_letOwnedTupleGo_enum (s:={s with heap:=h',toks:=tk+1}) q1 λh2 r1 r2=>?_⟩
  have r2:∀c,c≠n+1->h2.get? c=h'.get? c:=r2.2
  have lz:n+1<s.heap.objs.size:=UK z1
  have hT:@H5=none:=@Bf
  have I1:Inv X pins σ @Be {s with heap:=s.heap.push {cls:=@CA,data:=.seq #[@Pi,u0]},toks:=s.toks}:=
   I.laid (λb o e=>Ux _ e) (UC _) ⟨by show 2<=sizeLine;rw[Vi];omega,[@Pi,u0],@O1,@T_ ⟩
  have hf':∀c∈vp n,i2 X pins @Be c:=λc hc=>⟨by
   rw[aJ (λz=>?_)]
   ·exact(hf c hc).1
   ·subst z
    simp only[vp,UD,Vf,VW]at hc
    omega,(hf c hc).2⟩
  have I2:Inv X pins σ @Be {s with heap:=h2,toks:=tk+1}:=by
   refine I1.turnedL (ch:=vp n) (λc o hc e=>?_) hf'
   have e:(s.heap.push {cls:=@CA,data:=.seq #[@Pi,u0]}).get? c=some o:=e
   simp only[vp,UD,Vf,VW,not_or]at hc
   rw[r2 c hc.1]
   by_cases z:c=s.heap.objs.size
   ·subst z
    rw[UR _ rfl]at e
    rw[<-e];exact q3
   ·refine q5 c o hc.1 hc.2 ?_
    rw[Heap.get?_push_ne _ _ _ z]at e
    exact e
  refine⟨@AN,_,I2,rfl,⟨x,_,hT,λxs' h'=>?_,rfl,rfl⟩,⟨⟨u0,r1⟩,q2.1.at λo e=>(r2 _ (OU 0 1 rfl)).trans e⟩,λc hc=>(hf' c hc).1⟩
  rw[I.tuple_inj h' ha];exact hx
 done:=by
  intro X hP hw hK hc i pins s σ H E I hf st hg
  subst hP hw hK
  obtain⟨xs,ha,hl⟩:=hg
  obtain⟨its,rv,p,hz⟩:=@VM
  obtain⟨⟨old,z1⟩,z2⟩:=st
  have hh:X.A.in1.handled=none:=@DV
  have l1:=rv.length
  refine wpAny_pyNext_enum_endD (Oj hh i (xs:=its.toArray) (by simp;omega)) z1 ⟨rfl,z2,p⟩ λh' q=>⟨rfl,?_⟩
  refine I.turnedL (t':=s.toks) (ch:=vp n) (λc o hc e=>?_) hf
  simp only[vp,UD,Vf,VW,not_or]at hc
  exact q c o hc.2 e
 self:=λ_ _ _ _ _ st h=>by
  obtain⟨⟨old,z1⟩,_⟩:=st
  exact WQ z1 h
def wU:bootBuiltins "enumerate"=some (@LW):=@O
section
variable {X:Cx}{Γ:Fx}{E:XK}{e a b c:Expr}{f fa fb:VF D}{L La Lb:@c}{md ma mb:Md}{pos:Pos}
def cY(ds:List D):List D:=ds.mapIdx λi d=>@Qr
def Gu{K:Frag}{B:@i}{G H1:Hp}{p:Addr}{xs:List V}{ds:List D}(hp:iO K G p xs)(r:@Ax):Walk K B G H1 (cY ds) (Sm K p):=λGc H i s1 s2 m=>by
 have hp':=hp.grow (@Dp).grow
 have l1:=r.len
 have lz:(cY ds).length=ds.length:=by unfold cY;rw[List.length_mapIdx]
 refine⟨λhi=>⟨?_,λx H' y=>?_⟩,λhi=>⟨xs,hp',@B ⟩⟩
 ·have h1:i<xs.length:=@B
  exact⟨xs,xs[i],hp',by simp[h1]⟩
 ·obtain⟨x,t,ht,hx,rfl,rfl⟩:=y
  obtain⟨d,ed,rd⟩:=r.at' (hx xs hp')
  have xn:=Ext.new s2 (o:=@H1) ht
  refine⟨upd Gc t (@H1),@Qr,xn,?_,@Gv ⟩
  unfold cY
  rw[Wy,ed];rfl
end
end L2
namespace L2
open PySem PySem.Spec PyProof.Rows PySem.MeetsSeq PySem.MeetsSeq2 PySem.MeetsSeq3
def Me(K:Frag):R2:=λx y H Q=>∃a b xs ys,x=.ref a/\y=.ref b/\@Cl/\iO K H b ys/\xs.length+ys.length<=sizeLine/\
 (xs= []->Q (.ref b) H)/\(xs≠ []->ys= []->Q @BU H)/\(xs≠ []->ys≠ []->∀p,H p=none->Q @E7 (upd H p (.tup (xs++ys))))
section
variable {X:Cx}
def FA:nv X @J8 (Me X.K):=by
 intro pins s σ H x y v u Q I rx ry h
 obtain⟨a,b,xs,ys,rfl,rfl,ha,hb,hz,q0,q1,q2⟩:=h
 by_cases hx:xs= []
 ·cases rx
  cases ry
  obtain⟨its,r1,p1,_⟩:=@VM
  obtain⟨its2,r2,p2,_⟩:=I.tuple hb
  obtain⟨⟨cls,dd,data,sl⟩,ho,hc,n,hd⟩:=id p1
  obtain⟨⟨cls2,dd2,data2,sl2⟩,ho2,hc2,n2,hd2⟩:=id p2
  simp only at hc hd hc2 hd2
  subst hc hd hc2 hd2
  have he:its= []:=r1.nil_iff.mpr hx
  exact concat_meets @Ou @Tl noFill_tuple_add seq_tuple_add PySem.F.slot_tuple_add PySem.F.entry_tuple_add (W7 _ _)
   (tuple_addW0 a b its.toArray its2.toArray n n2 dd dd2 sl sl2 (by simp[he])) ⟨ho,ho2,.ref b,H,I,rfl,q0 hx⟩
 ·exact LB pins s σ H _ _ v u Q I rx ry ⟨a,b,xs,ys,rfl,rfl,ha,hb,hx,hz,q1 hx,q2 hx⟩
end
def tY:D->D->@Ab
 | .tuple a,.tuple b=>if a.length+b.length<=sizeLine then some (.tuple (a++b))else none
 |_,_=>none
def OE{K:Frag}:pU K (Me K) tY .v:=by
 intro B G H x y dx dy d Q s hB bx by' e k
 cases dx<;>cases dy<;>first|(cases e;done)|skip
 rename_i a b
 simp only[tY]at e
 split at e
 ·rename_i hz
  cases e
  rcases bx with bx|⟨_,_,_,q⟩
  case inr=>exact q.elim
  rcases by' with by'|⟨_,_,_,q⟩
  case inr=>exact q.elim
  cases bx with
  | @tup p xs _ hp r1=>
   cases by' with
   | @tup q ys _ hq r2=>
    refine⟨p,q,xs,ys,rfl,rfl,hp.grow s.grow,hq.grow s.grow,by rw[r1.len,r2.len];exact hz,λz=>?_,λz z'=>?_,λ_ _ l hl=>?_⟩
    ·subst z
     cases r1
     exact k _ G H @Bh (.tup hq r2)
    ·subst z'
     cases r2
     rw[VY]at k
     exact k _ G H @Bh (.tup hp r1)
    ·have xn:=Ext.new s (o:=.tup (xs++ys)) hl
     exact k _ _ _ xn (.tup (@K0) ((r1.append r2).mono xn.gg))
 ·cases e
end L2
namespace L2
open PySem PySem.Spec PyProof.Rows
def isStar:Expr->Bool
 | .Starred _ _=>true
 |_=>false
def EX{a:Expr}{es:@Ac}{env:Env}(h:isStar a=false):starEach (a::es) env=(false,eval a env)::starEach es env:=by
 cases a<;>first|rfl|cases h
def NO(sc:Scope)(x:Str):Bool:=match @Dl with
 |some .local=>true
 |some .cell=>true
 |some .free=>true
 |_=>false
def JY{sc:Scope}{x:Str}(h:NO sc x=true):y7 sc x:=by
 unfold NO at h
 unfold y7
 split at h
 ·exact .inl (by assumption)
 ·exact .inr (.inl (by assumption))
 ·exact .inr (.inr (by assumption))
 ·cases h
def BF(N:@a)(sc:Scope):List (Str×Nat)->Bool
 | []=>true
 | (x,i)::r=>decide (N[i]? =some x)&&(NO sc x&&((!(x==("__debug__":Str)))&&((!(x==("__classdict__":Str)))&&BF N sc r)))
theorem DF{N:@a}{sc:Scope}:∀{l:List (Str×Nat)} {x:Str} {i:Nat},BF N sc l=true->l.lookup x=some i->N[i]? =some x/\y7 sc x/\@T/\(x==("__classdict__":Str))=false
 | [],_,_,_,h=>by cases h
 | (y,j)::r,x,i,h,e=>by
  simp only[BF,US,UU,Vw]at h
  obtain⟨h1,h2,h3,h4,h5⟩:=h
  rw[WB]at e
  split at e
  ·rename_i q
   have q:x=y:=by simpa using q
   subst q
   cases e
   exact⟨h1,JY h2,h3,h4⟩
  ·exact DF h5 e
def ER:Expr->@Bm
 | .Constant (.int i) _ _=>some i
 |_=>none
theorem tm{e:Expr}{i:Int}(h:ER e=some i):∃j p,e=.Constant @AJ j p:=by
 cases e with
 |Constant c j p=>cases c<;>first|(cases h;exact @CT)|cases h
 |_=>cases h
def Si(op:UnaryOp)(e:Expr):@Bm:=match op with
 | .USub=>ER e
 |_=>none
def L8:Operator->Bool
 | .Pow=>true
 |_=>false
def Hg{o:Operator}(h:L8 o=true):o=.Pow:=by cases o<;>first|rfl|cases h
def Ou(ks:@Qx)(vs:@Ac):Option (Str×Int):=match ks,vs with
 | [some (.Constant (.str k) _ _)],[v]=>(ER v).map λi=>(k,i)
 |_,_=>none
def K7{ks:@Qx}{vs:@Ac}{r:Str×Int}(h:Ou ks vs=some r):∃j p j' p',ks= [some (.Constant (.str r.1) j p)]/\vs= [.Constant (.int r.2) j' p']:=by
 unfold Ou at h
 split at h
 ·rename_i k j p v
  cases q:ER v with
  |none=>rw[q]at h;cases h
  |some i=>
   rw[q]at h
   cases h
   obtain⟨j',p',rfl⟩:=tm q
   exact⟨_,_,_,_,rfl,rfl⟩
 ·cases h
def TH:Const->@Ab
 | .int i=>some @AJ
 | .bool b=>some @LJ
 | .none=>@Jy
 | .str x=>some @Hr
 |_=>none
mutual
def rD(nm:List (Str×Nat)):Expr->Option (VF D×@c)
 | .Name x _=>(nm.lookup x).map λi=>(gv i,[i])
 | .Constant c _ _=>(TH c).map λd=>(cst d,[])
 | .UnaryOp op a _=>(Si op a).map λi=>(cst (.int (-i)),[])
 | .BinOp a o b _=>if L8 o=true then(ER a).bind λi=>(ER b).map λj=>(f2 (cst @AJ) (cst @Ft) J5,[])else none
 | .Dict ks vs _=>(Ou ks vs).map λr=>(cst (.dict [(.str r.1,.int r.2)]),[])
 | .Tuple es _ _=>(@SM).map λr=>(aW r.1,r.2)
 | .List es _=>(@SM).map λr=>(bo r.1,r.2)
 | .BoolOp ..=>none
 | .NamedExpr ..=>none
 | .Lambda ..=>none
 | .IfExp ..=>none
 | .Set ..=>none
 | .ListComp ..=>none
 | .SetComp ..=>none
 | .DictComp ..=>none
 | .GeneratorExp ..=>none
 | .Await ..=>none
 | .Yield ..=>none
 | .YieldFrom ..=>none
 | .Compare ..=>none
 | .Call ..=>none
 | .FormattedValue ..=>none
 | .JoinedStr ..=>none
 | .Attribute ..=>none
 | .Subscript ..=>none
 | .Starred ..=>none
 | .Slice ..=>none
def Mu(nm:List (Str×Nat)):@Ac->Option (@w ×@c)
 | []=>some (ag,[])
 |e::es=>(rD nm e).bind λr=>(@SM).map λq=>(ae r.1 q.1,r.2++q.2)
end
section
variable {X:Cx}{Γ:Fx}{E:XK}{nm:List (Str×Nat)}
theorem nI{α β:Type}{o:@Pw}{f:α->β}{b:β}(h:o.map f=some b):∃a,o=some a/\f a=b:=by
 cases o with
 |none=>cases h
 |some a=>exact⟨a,rfl,@It ⟩
theorem Dz{α β:Type}{o:@Pw}{f:α->Option β}{b:β}(h:o.bind f=some b):∃a,o=some a/\f a=some b:=by
 cases o with
 |none=>cases h
 |some a=>exact⟨a,rfl,h⟩
mutual
theorem P1(hc:@JG=true)(hb:∀i,@II=false):∀{e:Expr} {f:VF D} {L:@c},rD nm e=some (f,L)->@H9/\isStar e=false
 | .Name x p,f,L,h=>by
  rw[rD]at h
  obtain⟨i,q,e⟩:=nI h
  cases e
  obtain⟨h1,h2,h3,h4⟩:=DF hc q
  exact⟨aj i (hb i) h1 h2 h3 h4,rfl⟩
 | .Constant c j p,f,L,h=>by
  rw[rD]at h
  obtain⟨d,q,e⟩:=nI h
  cases e
  cases c<;>first|(cases q;first|exact⟨av,rfl⟩|exact⟨kB,rfl⟩|exact⟨xR,rfl⟩|exact⟨kh,rfl⟩)|cases q
 | .UnaryOp op a p,f,L,h=>by
  rw[rD]at h
  obtain⟨i,q,e⟩:=nI h
  cases e
  cases op<;>first|(cases q;done)|skip
  obtain⟨j,p,rfl⟩:=tm q
  exact⟨rT nZ r6 av,rfl⟩
 | .BinOp a op b p,f,L,h=>by
  rw[rD]at h
  split at h
  ·rename_i ho
   obtain rfl:=Hg ho
   obtain⟨i,q,h⟩:=Dz h
   obtain⟨j,q2,e⟩:=nI h
   cases e
   obtain⟨j1,p1,rfl⟩:=tm q
   obtain⟨j2,p2,rfl⟩:=tm q2
   exact⟨bG IW MI av av,rfl⟩
  ·cases h
 | .Dict ks vs p,f,L,h=>by
  rw[rD]at h
  obtain⟨r,q,e⟩:=nI h
  cases e
  obtain⟨_,_,_,_,rfl,rfl⟩:=K7 q
  exact⟨LD,rfl⟩
 | .Tuple es c p,f,L,h=>by
  rw[rD]at h
  obtain⟨r,q,e⟩:=nI h
  cases e
  exact⟨cP (xY hc hb q),rfl⟩
 | .List es p,f,L,h=>by
  rw[rD]at h
  obtain⟨r,q,e⟩:=nI h
  cases e
  exact⟨SE.wv (bF (xY hc hb q)),rfl⟩
 | .BoolOp ..,_,_,h=>by rw[rD]at h;cases h
 | .NamedExpr ..,_,_,h=>by rw[rD]at h;cases h
 | .Lambda ..,_,_,h=>by rw[rD]at h;cases h
 | .IfExp ..,_,_,h=>by rw[rD]at h;cases h
 | .Set ..,_,_,h=>by rw[rD]at h;cases h
 | .ListComp ..,_,_,h=>by rw[rD]at h;cases h
 | .SetComp ..,_,_,h=>by rw[rD]at h;cases h
 | .DictComp ..,_,_,h=>by rw[rD]at h;cases h
 | .GeneratorExp ..,_,_,h=>by rw[rD]at h;cases h
 | .Await ..,_,_,h=>by rw[rD]at h;cases h
 | .Yield ..,_,_,h=>by rw[rD]at h;cases h
 | .YieldFrom ..,_,_,h=>by rw[rD]at h;cases h
 | .Compare ..,_,_,h=>by rw[rD]at h;cases h
 | .Call ..,_,_,h=>by rw[rD]at h;cases h
 | .FormattedValue ..,_,_,h=>by rw[rD]at h;cases h
 | .JoinedStr ..,_,_,h=>by rw[rD]at h;cases h
 | .Attribute ..,_,_,h=>by rw[rD]at h;cases h
 | .Subscript ..,_,_,h=>by rw[rD]at h;cases h
 | .Starred ..,_,_,h=>by rw[rD]at h;cases h
 | .Slice ..,_,_,h=>by rw[rD]at h;cases h
theorem xY(hc:@JG=true)(hb:∀i,@II=false):∀{es:@Ac} {f:@w} {L:@c},@SM=some (f,L)->SA X Γ E es f L
 | [],f,L,h=>by rw[Mu]at h;cases h;exact ah
 |e::es,f,L,h=>by
  rw[Mu]at h
  obtain⟨r,q,h⟩:=Dz h
  obtain⟨r2,q2,e⟩:=nI h
  cases e
  obtain⟨a,b⟩:=P1 hc hb q
  exact af a (xY hc hb q2) (EX b)
end
def Kq{es:@Ac}{p:Pos}{t:@GL}{l:Nat}{env:Env}:swapsWith (.List es p) t l env=@D6:=rfl
def MD{es:@Ac}{f:@w}{L:@c}{pos:Pos}(nm:List (Str×Nat))(hc:@JG=true)(hb:∀i,@II=false)(h:@SM=some (f,L)):SE X Γ E @UD (bo f) L .w:=bF (xY hc hb h)
def Pk{i:Nat}{x:Str}{es:@Ac}{f:@w}{L:@c}{pos' p pos:Pos}(nm:List (Str×Nat))(hc:@JG=true)(hb:∀i,@II=false)(h:@SM=some (f,L))(hN:X.N.Nodup)(hi:X.N[i]? =some x)(hx:@Cg)(hf:X.fn x=true\/@AO=@Ae) :
  SS X Γ E (.Assign [.Name x pos'] (.List es p) pos) (ba i L (bo f)):=aU (SE.wv (MD nm hc hb h)) hN hi hx Kq hf
end
end L2
namespace L2.ST
open PySem PySem.SetTable
section
variable {prog:Program}{w:World}{A:Around}{E:@L}{s:Shared}
set_option maxHeartbeats 3200000 in
theorem vB{l:Addr}{vs:@e}{ns:@E}{T:String}{itO:Obj}{St:Addr->Nat->Heap->Prop}{Q:@L}(X:Src prog w s.heap l vs T itO St)(hh:A.handled=none)(hi:PyProof.Rows.IntsAre vs ns)(hb:vs.length+1<scanBound)
  (h:∀(h':Heap) (tk:Nat),h'.SetOf (@Uj) s.heap.objs.size (λk'=>(PyProof.Rows.firstMet (λi=>@GU) vs.length).any (· == k')) (PyProof.Rows.firstMet (λi=>@GU) vs.length).length->(∀b o,s.heap.get? b=some o->h'.get? b=some o)->Q (@AN) {s with heap:=h',toks:=tk}) :
  wpAny @Ak A (call (@Dk) @SU) Q E s:=by
 obtain⟨c0,tl0,hmro0⟩:=WD.mro
 have hmade0:=WD.made
 have hsub0:=WD.sub
 refine wpAny_call (codeAny_of_tree ?_)
 show wpAny _ _ (callAny (@Dk) ⟨@SU,[]⟩) _ _ _
 refine U3 ⟨Code.quiet_builtin _ (@O),WI F.entry_type_call ?_⟩
 (rw[Around.under_plain (weight_type_call_type "set" @SU []) rfl])
 have g1:=WD.notType
 have g2:=WD.canCreate
 have g3:=F.typeCall_set_1 @Jg
 repeat(any_goals(first|assumption|wp_step))
 refine Wz (Aw @Jg (E:=E) (Q1:=λobj s1=>obj=@AN/\s1={s with heap:=s.heap.push {cls:=@Dk,dict:=none,data:=.set #[] 0 @EY}}) @IO) λr s1 hr=>?_
 cases r with
 |error e=>exact hr
 |ok fl=>
  cases fl with
  |ret obj=>
   obtain⟨rfl,rfl⟩:=hr
   generalize hO:({cls:=@Dk,dict:=none,data:=.set #[] 0 @EY}:Obj)=O
   have hS0:(@QG).get? s.heap.objs.size=some O:=UR _ (by rw[<-hO];rfl)
   have hT0:Shared.TypeIs {s with heap:=@QG} (@AN) "set":=⟨_,hS0,by rw[<-hO]⟩
   have g4:=WD.init.lookup
   have g5:=WD.init.bind (@AN)
   repeat(any_goals(first|assumption|wp_step))
   refine Wz (codeAny_call_builtin (R:=wants (λr s2=>r=.none/\∃h' tk,s2={s with heap:=h',toks:=tk}/\h'.SetOf (@Uj) s.heap.objs.size (λk'=>(PyProof.Rows.firstMet (λi=>@GU) vs.length).any (· == k')) (PyProof.Rows.firstMet (λi=>@GU) vs.length).length/\(∀b o,s.heap.get? b=some o->h'.get? b=some o)) E)
    WD.init.plain F.entry_set_init (check_set_init_1 hT0 ?_)) λr2 s2 hr2=>?_
   ·obtain⟨ol,hol,hcl⟩:=X.ty
    have hol':(@QG).get? l=some ol:=Ux _ hol
    have e1:=X.ns
    have e2:=X.nf
    have e3:=X.nd
    have hTl:Shared.TypeIs {s with heap:=@QG} @Jg T:=⟨ol,hol',hcl⟩
    have hdat:O.data=.set #[] 0 @EY:=by rw[<-hO]
    (unfold Builtin.«set.__init__» noKeywords Builtin.Frozenset.updateFrom)
    subst hO
    obtain⟨oc,od,odt,osl⟩:=ol
    simp only at hcl
    subst hcl
    (generalize hPI0:pyIter=PI0)
    wp_walk
    subst hPI0
    have kp:∀b o,s.heap.get? b=some o->(s.heap.push {cls:=@Dk,dict:=none,data:=.set #[] 0 @EY}).get? b=some o:=λb o e=>Ux _ e
    refine X.it _ _ _ _ kp ?_
    refine UA (wpAny_runValue ?_)
    have hlS:l<s.heap.objs.size:=UK hol
    have hh3:A.in1.in1.in1.handled=none:=by simp[hh]
    have hneI:l≠(s.heap.push {cls:=@Dk,dict:=none,data:=.set #[] 0 @EY}).objs.size:=by
     rw[VC];exact Vc (Nat.lt_succ_of_lt hlS)
    have hSf:s.heap.objs.size∉ [(s.heap.push {cls:=@Dk,dict:=none,data:=.set #[] 0 @EY}).objs.size,l]:=by
     rw[VC]
     intro z
     rcases UD.mp z with e|z
     ·exact absurd e (Vc (Nat.lt_succ_self _))
     ·exact absurd (UP.mp z) (Nat.ne_of_gt hlS)
    refine PyProof.Rows.codeAny_set_update_loopS ((X.wk _ _ hh3 hneI).toS) s.heap.objs.size hSf (λi=>@GU) (λi v e=>PyProof.Rows.IntsAre.int_at hi i v e) hb (vs.length-0) 0 _ (@B) (Vl _) (X.st _ kp) ?_ ?_
    ·exact PyProof.Rows.SetOf_congr ((PyProof.Rows.setObjOf_fresh (knd:=@Uj) (AJ w)).setOf (Ux _ hS0) (by unfold scanBound;omega)) (λ_=>rfl) rfl
    ·intro s' hm F'
     obtain⟨h',g',d',tk,os'⟩:=s'
     have eg:g'=s.gens:=hm.gens
     have ed:d'=s.drawn:=hm.drawn
     have eo:os'=s.os:=hm.os
     subst eg;subst ed;subst eo
     show wpAny _ _ _ _ _ _
     refine U3 ?_
     show wpAny _ _ (ret Value.none) _ _ _
     refine U3 ⟨rfl,h',tk,rfl,F',λb o e=>hm.heap b o (λz=>?_) (Ux _ (kp b o e))⟩
     have hlt:=UK e
     rw[VC]at z
     rcases UD.mp z with z|z
     ·exact absurd hlt (by rw[z];exact U8 _)
     ·rw[UP.mp z]at hlt
      exact absurd hlt (Nat.not_lt.mpr (@Jj))
   ·cases r2 with
    |error e=>exact hr2
    |ok fl2=>
     cases fl2 with
     |ret r=>
      obtain⟨rfl,h',tk,rfl,hF,hk⟩:=hr2
      repeat(any_goals(first|assumption|wp_step))
      exact h _ _ hF hk
     |_=>exact hr2.elim
  |_=>exact hr.elim
end
end L2.ST
namespace L2
open PySem PyProof.Rows
section
variable {X:Cx}{K:Frag}{pins:List V}{σ:St}{H:Hp}{s:Shared}{E:XK}
def Qe(ns:@E)(k:Int):Bool:=(firstMet (λi=>@GU) ns.length).any (· == k)
def vO(ns:@E):Nat:=(firstMet (λi=>@GU) ns.length).length
def Mr(K:Frag):List V->Hp->VK->Prop:=λxs H Q=>∃a ns,xs= @F0/\(@Nv\/iO K H a @B6)/\ns.length<=1000/\∀S,H S=none->Q (.ref S) (upd H S (.set (Qe ns) (vO ns)))
def EJ(hc:X.calm=true):fQ X (@Dk) (Mr X.K):=by
 intro pins s σ H xs us Q I r h
 obtain⟨a,ns,rfl,hq,hz,q⟩:=h
 obtain⟨u,rfl,rx⟩:=@Nz
 cases rx
 have hh:=@DV
 have core:∀{its:@e} {T:String} {itO:Obj} {St:Addr->Nat->Heap->Prop},Vals @B6 its->L2.ST.Src X.prog X.w s.heap a its T itO St->wpAny @N X.A (call (@Dk) @F0) @BE X.xe s:=λ{its T itO St} rv src=>by
  have hl:its.length=ns.length:=by rw[<-rv.length,Uw]
  refine L2.ST.vB src hh (intsAre_of rv) (by unfold scanBound;omega) λh' tk F k=>?_
  rw[hl]at F
  exact⟨.ref _,_,I.laid (t':=tk) (o:=.set (Qe ns) (vO ns)) k (UC _) F,rfl,@XX ⟩
 rcases hq with hq|hq
 ·obtain⟨its,rv,pl,hz⟩:=@G6
  exact core rv (L2.ST.Src.list pl.isList)
 ·obtain⟨its,rv,pl,hz⟩:=@Ge
  exact core rv (L2.ST.Src.tuple pl)
def E4:fQ X (.builtin "len") (λxs H Q=>∃S f n,xs= [.ref S]/\H S=some (.set f n)/\Q @z H):=by
 intro pins s σ H xs us Q I r h
 obtain⟨S,f,n,rfl,hS,q⟩:=h
 obtain⟨u,rfl,rx⟩:=@Nz
 cases rx
 obtain⟨o,es,ep,t,ho,hex,hd,_,_,hb,hf,e⟩:s.heap.SetOf (intKind X.prog X.w) S f n:=I.hok _ _ hS
 refine call_len_set ho hex hd hf (by unfold scanBound at hb;omega) ⟨.int n,H,@HT,⟨_,by rw[e]⟩,q⟩
def tx(d:D):@Ab:=match ny d with
 |some ds=>(match kA ds with
  |some ns=>if ns.length<=1000 then some (.int (vO ns))else none
  |none=>none)
 |none=>none
theorem c9.intsB{G:Hp}:∀{ns:@E} {xs:List V},c9 K G xs (@Cu)->xs=ns.map V.int
 | [],_,.nil=>rfl
 |n::ns,_,.cons r t=>by cases r;rw[c9.intsB t];rfl
variable {Γ:Fx}{e a b c:Expr}{f fa fb fc:VF D}{L La Lb:@c}{md ma mb mc:Md}{pos:Pos}
theorem DP{p1 p2 pos2:Pos}(hc:X.calm=true)(hK:X.K=Γ.K)(hg:Gl X "len")(hm:X.mg "len"=none)(hg2:Gl X "set")(hm2:X.mg "set"=none)(ha:@AB)
  (he:@A_=(false,@AZ)::@An:=by rfl)
  (he2:starEach [@Hm] X.env=(false,eval (@Hm) X.env)::@An:=by rfl) :
  SE X Γ E (.Call (.Name "len" p1) [@Hm] [] pos) (f1 fa tx) La .v:=by
 refine PE.post' (bN E4 hg hm (@O) (aw (lG (EJ hc) hg2 hm2 (@O) @PW @S @S he) aZ he2) @S @S he2) λσ H Q ⟨env,G,B,β,I,o⟩=>?_
 refine mK (r:=λx H1 Q=>Mr X.K [x] H1 λy H2=>∃S f n,[y]= [V.ref S]/\H2 S=some (.set f n)/\Q @z H2) ?_ I o
 intro B G H x dx d Q s hB bx e k
 rw[hK]
 unfold tx at e
 cases q:ny dx with
 |none=>rw[q]at e;cases e
 |some ds=>
  rw[q]at e
  dsimp only at e
  cases q2:kA ds with
  |none=>rw[q2]at e;cases e
  |some ns=>
   rw[q2]at e
   dsimp only at e
   split at e
   ·rename_i hz
    cases e
    obtain⟨p,xs,rfl,hq,r⟩:=bx.seq q s
    rw[qq q2]at r
    have r:=r.intsB
    subst r
    exact⟨p,ns,rfl,hq,hz,λS hS=>⟨S,_,_,rfl,aE,k _ _ _ (Ext.own s hS) @Tp ⟩⟩
   ·cases e
end
end L2
namespace L2
open PySem PySem.Spec PyProof.Rows
def Ju{prog:Program}{w:World}{A:Around}{it t:Addr}{xs:@BC}(hh:A.handled=none)(i:Nat)(hx:xs[i]? =none):Draws prog w A it [it,t] i (λ_ _=>False) (λj h=>j=i/\h.IsListIter it t i/\h.IsList t xs) where
 live:=λ_ _ st=>let⟨o,ho,_⟩:=st.2.1;⟨o,ho⟩
 frame:=λ_ _ _ st hk=>⟨st.1,st.2.1.at λo e=>@Yi,st.2.2.at λo e=>hk t @W o e⟩
 item:=λj s Q E hi st k=>absurd st.1 (@B)
 done:=λs Q E st k=>wpAny_nextOf_list_end hh st.2.1 st.2.2 hx k
def Jv(K:Frag)(a:Addr):It:=
 ⟨λi H=>∃xs x,@C6/\xs[i]? =some x,
  λi H v H'=>∃x t,H t=none/\(∀xs,@C6->xs[i]? =some x)/\v=.ref t/\H'=upd H t (@H1),
  λi H=>∃xs,@C6/\xs.length<=i⟩
def Ff{h:Heap}{a n:Addr}{i:Nat}{its:@BC}{b:Addr}(p:h.IsList a its)(q:h.IsListIter n b i):a≠n:=λz=>by
 subst z
 obtain⟨o,e,c,_⟩:=p
 obtain⟨o',e',c',_⟩:=q
 rw[e]at e';cases e'
 rw[c]at c'
 simp at c'
def Ey{h:Heap}{a n it:Addr}{i:Int}{its:@BC}{old:Value}(p:h.IsList a its)(q:IsEnum h n it i old):n≠a:=λz=>by
 subst z
 obtain⟨o,e,c,_⟩:=p
 rw[q]at e;cases e
 simp at c
def tO{P:Program}{w:World}{K:Frag}{elts:@Ac}{x1}{pos:Pos}(a:Addr)(n:Nat):Turn P w K (.Tuple elts x1 pos) (Jv K a) (vp n) (n+1)
  (λi h=>(∃old,IsEnum h (n+1) n i old)/\h.IsListIter n a i) where
 mem:=by simp
 obj:=λi h st c hc=>by
  obtain⟨⟨old,z1⟩,⟨o2,z2,_,d2⟩⟩:=st
  simp only[vp,UD,Vf,VW]at hc
  rcases hc with rfl|rfl
  ·exact⟨_,z1,λv z=>by
    have z':@MB=@O4:=z
    cases z'⟩
  ·exact⟨o2,z2,λv z=>by rw[d2]at z;cases z⟩
 keep:=λi h h' st k=>by
  obtain⟨⟨old,z1⟩,z2⟩:=st
  exact⟨@Y3,z2.at λo e=>k _ @W o e⟩
 item:=by
  intro X hP hw hK hc i pins s σ H E I hf st hg
  subst hP hw hK
  obtain⟨xs,x,ha,hx⟩:=hg
  obtain⟨its,rv,p,hz⟩:=I.list ha
  have p:s.heap.IsList a its.toArray:=p.isList
  obtain⟨u0,hu0,ru0⟩:=@Yr
  obtain⟨⟨old,z1⟩,z2⟩:=st
  have hh:X.A.in1.handled=none:=@DV
  have hlt:i<its.toArray.size:=by
   have:=Uy.mp hu0
   simpa using this.1
  refine wpAny_pyNext_enum_itemD (Draws.list hh n a (Ff p z2) its.toArray) z1 ⟨z2,p⟩ hlt (@VP) (by
   simp only[UD,Vf,VW,not_or]
   exact⟨@VP,Ey p z1⟩) λu h' tk hu q1 q2 q3 q4 q5=>?_
  have eu:u0=u:=by
   have hu:its.toArray[i]? =some u:=hu
   rw[List.getElem?_toArray,hu0]at hu
   exact Option.some.inj hu
  subst eu
  refine⟨_,rfl,wpAny_letOwnedTupleGo_enum (s:={s with heap:=h',toks:=tk+1}) q1 λh2 r1 r2=>?_⟩
  have r2:∀c,c≠n+1->h2.get? c=h'.get? c:=r2.2
  have lz:n+1<s.heap.objs.size:=UK z1
  have hT:@H5=none:=@Bf
  have I1:Inv X pins σ @Be {s with heap:=s.heap.push {cls:=@CA,data:=.seq #[@Pi,u0]},toks:=s.toks}:=
   I.laid (λb o e=>Ux _ e) (UC _) ⟨by show 2<=sizeLine;rw[Vi];omega,[@Pi,u0],@O1,@T_ ⟩
  have hf':∀c∈vp n,i2 X pins @Be c:=λc hc=>⟨by
   rw[aJ (λz=>?_)]
   ·exact(hf c hc).1
   ·subst z
    simp only[vp,UD,Vf,VW]at hc
    omega,(hf c hc).2⟩
  have I2:Inv X pins σ @Be {s with heap:=h2,toks:=tk+1}:=by
   refine I1.turnedL (ch:=vp n) (λc o hc e=>?_) hf'
   have e:(s.heap.push {cls:=@CA,data:=.seq #[@Pi,u0]}).get? c=some o:=e
   simp only[vp,UD,Vf,VW,not_or]at hc
   rw[r2 c hc.1]
   by_cases z:c=s.heap.objs.size
   ·subst z
    rw[UR _ rfl]at e
    rw[<-e];exact q3
   ·refine q5 c o hc.1 hc.2 ?_
    rw[Heap.get?_push_ne _ _ _ z]at e
    exact e
  refine⟨@AN,_,I2,rfl,⟨x,_,hT,λxs' h'=>?_,rfl,rfl⟩,⟨⟨u0,r1⟩,q2.1.at λo e=>(r2 _ (OU 0 1 rfl)).trans e⟩,λc hc=>(hf' c hc).1⟩
  rw[I.list_inj h' ha];exact hx
 done:=by
  intro X hP hw hK hc i pins s σ H E I hf st hg
  subst hP hw hK
  obtain⟨xs,ha,hl⟩:=hg
  obtain⟨its,rv,p,hz⟩:=I.list ha
  obtain⟨⟨old,z1⟩,z2⟩:=st
  have hh:X.A.in1.handled=none:=@DV
  have l1:=rv.length
  refine wpAny_pyNext_enum_endD (Ju hh i (xs:=its.toArray) (by simp;omega)) z1 ⟨rfl,z2,p.isList⟩ λh' q=>⟨rfl,?_⟩
  refine I.turnedL (t':=s.toks) (ch:=vp n) (λc o hc e=>?_) hf
  simp only[vp,UD,Vf,VW,not_or]at hc
  exact q c o hc.2 e
 self:=λ_ _ _ _ _ st h=>by
  obtain⟨⟨old,z1⟩,_⟩:=st
  exact WQ z1 h
def Tj(K:Frag)(ta:TA):TI:=λσ H R=>ta σ H λvs H2=>∃a xs,vs= @F0/\jy K H2 a xs/\R (Jv K a) H2
section
variable {X:Cx}
theorem Oy{a:Expr}{ta:TA}{p pos pt:Pos}{elts:@Ac}{x1}(hg:@MV)(hm:@MZ=none)(ha:@TI)(hs:@A_= [(false,@AZ)]:=by rfl) :
  PI X @J0 @Dn (Tj X.K ta):=by
 intro pins s σ H R I h
 refine Call_ (lq I hg hm wU (VH (cK @A7 λus s1 ⟨vs,H1,I1,r1,q1⟩=>?_) hs rfl))
 obtain⟨a,xs,e,h1,q⟩:=q1
 subst e
 cases r1 with
 |cons r rr=>
  cases rr
  cases r
  obtain⟨its,rv,p1,hz⟩:=I1.list h1
  refine call_enumerate_list p1.isList λh' z1 z2 _ z3=>?_
  refine WQ z1 ⟨_,@Jf,_,_,H1,rfl,I1.kept (t':=s1.toks) z3,@XZ,@PL,λc hc=>?_,q⟩
  have:s1.heap.objs.size<=c:=by
   simp only[vp,UD,Vf,VW]at hc
   rcases hc with rfl|rfl<;>first|exact UC _|exact @Jb
  exact I1.fpOk this (I1.hok.fresh this)
end
section
variable {X:Cx}{Γ:Fx}{E:XK}{e a b c:Expr}{f fa fb:VF D}{L La Lb:@c}{md ma mb:Md}{pos:Pos}
def FN(fa:VF D):@w:=λvs β=>(@AU).bnd λx β1=>match x with
 | .list ds=>.ok (cY ds) β1
 |_=>.bad
def zv{K:Frag}{B:@i}{G H1:Hp}{p:Addr}{xs:List V}{ds:List D}(hp:∀Gc H,ay G Gc->ay Gc H->@Yk->@KK)(r:@Ax):Walk K B G H1 (cY ds) (Jv K p):=λGc H i s1 s2 m=>by
 have hp':=hp Gc H s1 s2 m
 have l1:=r.len
 have lz:(cY ds).length=ds.length:=by unfold cY;rw[List.length_mapIdx]
 refine⟨λhi=>⟨?_,λx H' y=>?_⟩,λhi=>⟨xs,hp',@B ⟩⟩
 ·have h1:i<xs.length:=@B
  exact⟨xs,xs[i],hp',by simp[h1]⟩
 ·obtain⟨x,t,ht,hx,rfl,rfl⟩:=y
  obtain⟨d,ed,rd⟩:=r.at' (hx xs hp')
  have xn:=Ext.new s2 (o:=@H1) ht
  refine⟨upd Gc t (@H1),@Qr,xn,?_,@Gv ⟩
  unfold cY
  rw[Wy,ed];rfl
theorem tS{p pt:Pos}{elts:@Ac}{x1}(hK:X.K=Γ.K)(hg:@MV)(hm:@MZ=none)(ha:@Gw)(hs:@A_= [(false,@AZ)]:=by rfl)(hs':@A_=(false,@AZ)::@An:=by rfl) :
  SI X Γ E @J0 @Dn (FN fa) La .v:=by
 refine PI.post (Oy hg hm @UG hs) ?_
 rintro σ H Q ⟨env,G,B,β,I,o⟩
 refine⟨env,G,B,β,I,o.bnd.imp λd1 β1 h x G1 H1 I1 s1 m1 vx=>?_⟩
 have vx:@TN:=vx
 rw[hK]
 cases d1 with
 |list ds=>
  cases vx with
  | @lst p xs _ hq r=>exact⟨p,xs,rfl,@FF,h _ G1 H1 I1 s1 m1 (zv (λGc H t1 t2 _=>@D2) r)⟩
 |_=>exact h.elim
end
end L2
namespace L2
open PySem PyProof.Rows
section
variable {X:Cx}{K:Frag}{pins:List V}{σ:St}{H:Hp}{s:Shared}{E:XK}
theorem uL:∀{us:@e} {ns:@E},@WL->∃xs:List (Int×Tok),us=xs.map (λp=>Value.int p.1 p.2)/\xs.map (·.1)=ns
 |_,_,.nil=>⟨[],rfl,rfl⟩
 |_,_,.cons n t hr=>by
  obtain⟨xs,e1,e2⟩:=uL hr
  exact⟨(n,t)::xs,by rw[e1];rfl,by rw[<-e2];rfl⟩
def Gv{us:@e}{ns:@E}(h:@WL):∃xs:Array (Int×Tok),us.toArray=intItems xs/\(∀i,numAt xs i=@GU)/\xs.size=ns.length:=by
 obtain⟨xs,e1,e2⟩:=uL h
 refine⟨xs.toArray,?_,λi=>?_,?_⟩
 ·rw[e1,intItems,List.map_toArray]
 ·rw[numAt_eq];show((xs.map (·.1)).getD i 0)=_;rw[e2]
 ·rw[<-e2];simp
end
section
variable {X:Cx}{K:Frag}{E:XK}
variable {Γ:Fx}{e a b c:Expr}{f fa fb fc:VF D}{L La Lb:@c}{md ma mb mc:Md}{pos:Pos}
def SI.vb{tg:Expr}{fi:@w}(h:@XP):SI X Γ E tg e fi L .b:=PI.post h λσ H Q ⟨env,G,B,β,I,o⟩=>⟨env,G,B,β,I,o.imp λds β' k J G' H' a b c w=>k J G' H' a b c w.any⟩
end
end L2
namespace L2
open PySem PySem.Spec PyProof.Rows
section
variable {X:Cx}{tg:Expr}
def PF(lo:Int)(n:Nat):It:=⟨λi _=>i<n,λi H x H'=>H'=H/\x=.int (lo-i),λi _=>n<=i⟩
def AB{P:Program}{w:World}{K:Frag}{tg:Expr}(it:Addr)(lo:Int)(n:Nat):Turn P w K tg (PF lo n) [it] it (λi h=>IsRangeIter h it (lo+(i:Nat)*(-1)) ((n:Int)-(i:Nat)) (-1)) where
 mem:=by simp
 obj:=λi h st b hb=>by
  have e:b=it:=by simpa using hb
  subst e
  exact⟨_,st,λv z=>by
   have z':@MB=@O4:=z
   cases z'⟩
 keep:=λi h h' st k=>@Yl
 item:=by
  intro X hP hw hK hc i pins s σ H E I hf st hg
  subst hP hw hK
  obtain⟨f0,f1,f2,f3,f4,f5⟩:=@Ks
  have W:=Walks.range (prog:=X.prog) (w:=X.w) (@DV) it lo (-1) n
  refine W.item i s _ _ hg st λv h' tk hv st' kk=>?_
  obtain⟨t,rfl⟩:=hv
  have I1:Inv X pins σ H {s with heap:=h',toks:=tk}:=I.turned (λb o hb e=>kk b o (by simpa using hb) e) f0 f1 f3 f4 f5
  refine⟨_,rfl,Ax (s:={s with heap:=h',toks:=tk}) (n:="range_iterator") st' rfl rfl @S ⟨.int (lo-i),H,I1,⟨t,?_⟩,@IO,st',λb hb=>(@Wm).1⟩⟩
  rw[show lo+(i:Int)*(-1)=lo-i by omega]
 done:=by
  intro X hP hw hK hc i pins s σ H E I hf st hg
  subst hP hw hK
  obtain⟨f0,f1,f2,f3,f4,f5⟩:=@Ks
  exact wpAny_pyNext_range_end (@DV) st (by have:n<=i:=hg;omega) λh' eb=>⟨rfl,I.turned (t':=s.toks) (λb o hb e=>@PB) f0 f1 f3 f4 f5⟩
 self:=λ_ _ _ _ _ st h=>@KN
def E8{pins:@K}{σ:St}{H:Hp}{s:Shared}{R:It->Hp->Prop}{E:@L}{lo hi:Int}{t u v:Tok}{tk:Nat}(I:@D)(h1: -(2^62)<=lo)(h2:lo<2^62)(h3: -(2^62)<=hi)(h4:hi<2^62)
  (q:R (PF lo (lo-hi).toNat) H):wpAny @N X.A (pyIter (@AN)) @Ov E {s with heap:=s.heap.push {cls:=@DO,data:=.fields #[@H0,@Hz,.int (-1) v]},toks:=tk}:=by
 refine wpAny_pyIter_range (IsRange.new ..) (PySem.W.small_down h1 h2 h3 h4) ?_
 have I1:Inv X pins σ H {s with heap:=s.heap.push {cls:=@DO,data:=.fields #[@H0,@Hz,.int (-1) v]},toks:=tk}:=I.kept λb o e=>Ux _ e
 refine⟨(s.heap.push {cls:=@DO,data:=.fields #[@H0,@Hz,.int (-1) v]}).objs.size,[(s.heap.push {cls:=@DO,data:=.fields #[@H0,@Hz,.int (-1) v]}).objs.size],_,_,H,rfl,
  I1.kept (t':=tk) λb o e=>Ux _ e,AB _ lo (lo-hi).toNat,?_,λb hb=>?_,q⟩
 ·have e1:lo+((0:Nat):Int)*(-1)=lo:=by simp
  have e2:(((lo-hi).toNat:Nat):Int)-((0:Nat):Int)=Builtin.Range.rangeSize lo hi (-1):=by rw[PySem.W.rangeSize_downNat];omega
  show IsRangeIter _ _ (lo+((0:Nat):Int)*(-1)) ((((lo-hi).toNat:Nat):Int)-((0:Nat):Int)) (-1)
  rw[e1,e2]
  exact @Gq
 ·have e:b=(s.heap.push {cls:=@DO,data:=.fields #[@H0,@Hz,.int (-1) v]}).objs.size:=by simpa using hb
  subst e
  exact @BW
def PQ(ta:TA):TI:=λσ H R=>ta σ H λvs H1=>∃i j:Int,vs= [.int i,.int j,.int (-1)]/\(-(2^62)<=i/\i<2^62/\ -(2^62)<=j/\j<2^62)/\R (PF i (i-j).toNat) H1
theorem DR{a b c:Expr}{ta:TA}{p pos:Pos}(hg:@He)(hm:@FR=none)(ha:PA X [a,b,c] ta)(hs:@M5= [(false,@AZ),(false,@DD),(false,@Nt)]:=by rfl)(hs2:@Je= [(false,@DD),(false,@Nt)]:=by rfl) :
  PI X tg @To (PQ ta):=by
 intro pins s σ H R I h
 refine Call_ (lq I hg hm boot_range (VH (cK @A7 λus s1 ⟨vs,H1,I1,r1,q1⟩=>?_) (by rw[hs,hs2]) (by rw[hs2];rfl)))
 obtain⟨i,j,e,⟨q1,q2,q3,q4⟩,q⟩:=q1
 subst e
 cases r1 with
 |cons r rr=>
  cases rr with
  |cons r' rr=>
   cases rr with
   |cons r'' rr=>
    cases rr
    obtain⟨t,rfl⟩:=r
    obtain⟨t',rfl⟩:=r'
    obtain⟨t'',rfl⟩:=r''
    exact call_range_3 @S (E8 I1 q1 q2 q3 q4 q) @G0
end
def qi(lo:Int)(n:Nat):List D:=(@Ap).map λ(k:Nat)=>int (lo-k)
def qW(lo:Int)(n:Nat):(qi lo n).length=n:=by unfold qi;simp
def Ea{K:Frag}{B:@i}{G H1:Hp}(lo:Int)(n:Nat):Walk K B G H1 (qi lo n) (PF lo n):=λGc H i s1 s2 m=>by
 rw[qW]
 refine⟨λhi=>⟨hi,λx H' y=>?_⟩,λhi=>hi⟩
 obtain⟨rfl,rfl⟩:=y
 refine⟨Gc,.int (lo-i),Ext.refl s2,?_,.int _⟩
 unfold qi
 rw[UN,VX hi];rfl
def L4(fa fb fc:VF D):@w:=λvs β=>(@AU).bnd λx β1=>(@Et).bnd λy β2=>(fc vs β2).bnd λz β3=>match x,y,z with
 | .int i,.int j,.int k=>if(y9 i&&y9 j&&k == -1)=true then .ok (qi i (i-j).toNat) β3 else .bad
 |_,_,_=>.bad
section
variable {X:Cx}{Γ:Fx}{tg:Expr}{a b c:Expr}{fa fb fc:VF D}{La Lb Lc:@c}{md ma mb mc:Md}{pos:Pos}{E:XK}
def O8{p:Pos}(hg:@He)(hm:@FR=none)(ha:@AB)(hb:@Cj)(hc:SE X Γ E c fc Lc mc)(hs:@M5= [(false,@AZ),(false,@DD),(false,@Nt)]:=by rfl)(hs2:@Je= [(false,@DD),(false,@Nt)]:=by rfl)(hs':@M5=(false,@AZ)::@Je:=by rfl)(hs3:@Je=(false,@DD)::starEach [c] X.env:=by rfl)(hs4:starEach [c] X.env=(false,@Nt)::@An:=by rfl):SI X Γ E tg @To (L4 fa fb fc) (La++Lb++Lc) md:=by
 refine PI.post (DR hg hm (aw ha (aw hb (aw hc aZ hs4) hs3) hs') hs hs2) λσ H Q ⟨env,G,B,β,I,o⟩=>?_
 refine two (W:=λx y H2=>pT Γ E fc Lc mc σ H2 λz H3=>∃i j:Int,[x,y,z]= [.int i,.int j,.int (-1)]/\(-(2^62)<=i/\i<2^62/\ -(2^62)<=j/\j<2^62)/\Q (PF i (i-j).toNat) H3) I (o.bnd.imp λd1 β1 h=>h.bnd.imp λd2 β2 h x y G2 H2 I2 s2 m2 bx by'=>?_)
 refine⟨_,G2,B,β2,I2,?_⟩
 rw[eN]
 refine h.bnd.imp λd3 β3 h z G3 H3 I3 s3 m3 bz=>?_
 have bz:=bz.brw I2.boxThere
 obtain⟨i,j,k,rfl,rfl,rfl⟩:∃i j k,d1=.int i/\d2=.int j/\d3=.int k:=by
  cases d1<;>cases d2<;>cases d3<;>first|exact h.elim|exact⟨_,_,_,rfl,rfl,rfl⟩
 obtain rfl:=bx.int
 obtain rfl:=by'.int
 obtain rfl:=bz.int
 dsimp only at h
 by_cases hj:(y9 i&&y9 j&&k == -1)=true
 ·rw[Uz hj]at h
  rw[US,US,beq_iff_eq]at hj
  obtain⟨⟨hi,hj⟩,rfl⟩:=hj
  exact⟨i,j,rfl,⟨(lB hi).1,(lB hi).2,(lB hj).1,(lB hj).2⟩,h _ G3 H3 (by rw[cM];exact I3) (s2.trans s3) (m2.trans m3) (Ea i _)⟩
 ·rw[UJ hj]at h;exact h.elim
end
end L2
namespace L2
open PySem PyProof.Rows
section
variable {X:Cx}{K:Frag}{pins:List V}{σ:St}{H:Hp}{s:Shared}{E:XK}
def Pz(K:Frag):List V->Hp->VK->Prop:=λxs H Q=>∃(a:Addr) (ns:@E),xs= @F0/\@Nv/\Q (.int ns.sum) H
def HN(hc:X.calm=true):fQ X (.builtin "sum") (Pz X.K):=by
 intro pins s σ H xs us Q I r h
 obtain⟨a,ns,rfl,hq,q⟩:=h
 obtain⟨u,rfl,rx⟩:=@Nz
 cases rx
 have hh:=@DV
 obtain⟨its,rv,pl,_⟩:=@G6
 obtain⟨xs,e,hx,hs⟩:=Gv (intsAre_of rv)
 refine sum_intListG (xs:=xs) hh (e▸pl.isList) λh' tk t' k=>⟨.int ns.sum,H,I.kept k,⟨t',?_⟩,q⟩
 have:preSum (numAt xs) xs.size=ns.sum:=by
  rw[show numAt xs=λi=>@GU from funext hx,preSum_getD,hs,WM (UC _)]
 rw[this]
def v5(d:D):@Ab:=match d with
 | .list ds=>(kA ds).map λns=>.int ns.sum
 |_=>none
def Pu:Jh K (λx=>Pz K [x]) v5 .v:=by
 intro B G H x dx d Q s hB bx e k
 unfold v5 at e
 split at e
 ·rename_i ds
  cases q2:kA ds with
  |none=>rw[q2]at e;cases e
  |some ns=>
   rw[q2]at e
   cases e
   obtain⟨p,xs,rfl,hq,r⟩:=@Nr
   rw[qq q2]at r
   have r:=r.intsB
   subst r
   exact⟨p,ns,rfl,.inl hq,@Do ⟩
 ·cases e
end
end L2
namespace L2
open PySem PySem.Spec PyProof.Rows
section
variable {X:Cx}{Γ:Fx}{E:XK}{m:SF}
def SR.undropN{B B':@i}{G H G' H':Hp}{σ σ':St}{env env':En}{β β':Int}(I:@b)(J:@SQ)(hf:l5 env'=true):SR Γ B G' H' σ' env' β:=by
 have kp:∀b o,H b=some o->@LX:=λb o e=>J.keep b o e @W
 have ks:@Cy:=kp
 refine⟨J.sub,@Qu,λb h1 h2=>@OO,λb o h1 h2=>(@MW).step ks,λb hb=>(@VL).same (kp b),I.fix,λb e=>?_,J.len,λi s e=>?_,λi j a d e h=>?_⟩
 ·obtain⟨h1,h2,h3⟩:=@TC
  exact @N0
 ·rcases jV hf e with rfl|⟨d,rfl⟩
  ·trivial
  ·exact J.slot i _ e
 ·rcases jV hf h with z|⟨_,z⟩<;>cases z
end
namespace HM
def lexLt:@E->@E->Bool
 |_,[]=>false
 | [],_::_=>true
 |x::xs,y::ys=>if x=y then @Td else decide (x<y)
def ub(x y:Int)(xs ys:@E):lexLt (x::xs) (y::ys)=if x=y then @Td else decide (x<y):=rfl
section
open PySem.SeqAt
open PySem.AutoSeq1 (wpAny_loadPart')
open PySem.MeetsSeq PySem.MeetsSeq2 PySem.MeetsSeq3
end
end HM
def TF(K:Frag)(ta:TA):TI:=λσ H R=>ta σ H λvs H2=>(∃a xs,vs= @F0/\iO K H2 a xs/\R (Sm K a) H2)\/∃a xs,vs= @F0/\jy K H2 a xs/\R (Jv K a) H2
section
variable {X:Cx}
def NR{a:Expr}{ta:TA}{p pos pt:Pos}{elts:@Ac}{x1}(hg:@MV)(hm:@MZ=none)(ha:@TI)(hs:@A_= [(false,@AZ)]:=by rfl) :
  PI X @J0 @Dn (TF X.K ta):=by
 intro pins s σ H R I h
 refine Call_ (lq I hg hm wU (VH (cK @A7 λus s1 ⟨vs,H1,I1,r1,q1⟩=>?_) hs rfl))
 have fp:∀c∈@Jf,i2 X pins H1 c:=λc hc=>by
  have:s1.heap.objs.size<=c:=by
   simp only[vp,UD,Vf,VW]at hc
   rcases hc with rfl|rfl<;>first|exact UC _|exact @Jb
  exact I1.fpOk this (I1.hok.fresh this)
 rcases q1 with⟨a,xs,e,h1,q⟩|⟨a,xs,e,h1,q⟩
 ·subst e
  cases r1 with
  |cons r rr=>
   cases rr
   cases r
   obtain⟨its,rv,p1,hz⟩:=I1.tuple h1
   exact Bu (show @JZ from p1) λh' z1 z2 z3=>WQ z1 ⟨_,@Jf,_,_,H1,rfl,I1.kept (t':=s1.toks) z3,Bw a s1.heap.objs.size,@PL,fp,q⟩
 ·subst e
  cases r1 with
  |cons r rr=>
   cases rr
   cases r
   obtain⟨its,rv,p1,hz⟩:=I1.list h1
   exact call_enumerate_list p1.isList λh' z1 z2 _ z3=>WQ z1 ⟨_,@Jf,_,_,H1,rfl,I1.kept (t':=s1.toks) z3,@XZ,@PL,fp,q⟩
end
section
variable {X:Cx}{Γ:Fx}{E:XK}{e a b c:Expr}{f fa fb:VF D}{L La Lb:@c}{md ma mb:Md}{pos:Pos}
def Ni(fa:VF D):@w:=λvs β=>(@AU).bnd λx β1=>match ny x with
 |some ds=>.ok (cY ds) β1
 |none=>.bad
theorem NF{p pt:Pos}{elts:@Ac}{x1}(hK:X.K=Γ.K)(hg:@MV)(hm:@MZ=none)(ha:@Gw)(hs:@A_= [(false,@AZ)]:=by rfl)(hs':@A_=(false,@AZ)::@An:=by rfl) :
  SI X Γ E @J0 @Dn (Ni fa) La .v:=by
 refine PI.post (NR hg hm @UG hs) ?_
 rintro σ H Q ⟨env,G,B,β,I,o⟩
 refine⟨env,G,B,β,I,o.bnd.imp λd1 β1 h x G1 H1 I1 s1 m1 vx=>?_⟩
 have vx:@TN:=vx
 rw[hK]
 cases d1 with
 |list ds=>
  cases vx with
  | @lst p xs _ hq r=>exact .inr ⟨p,xs,rfl,@FF,h _ G1 H1 I1 s1 m1 (zv (λGc H t1 t2 _=>@D2) r)⟩
 |tuple ds=>
  cases vx with
  | @tup p xs _ hq r=>exact .inl ⟨p,xs,rfl,@PE,h _ G1 H1 I1 s1 m1 (Gu hq r)⟩
 |_=>exact h.elim
end
def vX:entryFor table "proto.unchain"=some Builtin.«proto.unchain»:=entryFor_of_tree (by kernel_rfl)
def vU:plainId "proto.unchain"=true:=@O
section
variable {prog:Program}{w:World}{A:Around}{E:@L}{s:Shared}
def JA{α:Type}{e h:Addr}{oe oh:Obj}{vs ws:@BC}{Q:α->Shared->Prop}(hh:A.handled=some @W8)(ne:h≠e)(ho:s.heap.get? h=some oh)(hd:oh.data=@Qk)(h2:ws[2]? =@Jy)(he:s.heap.get? e=@RF)(hed:oe.data=@IZ)(hs:2<vs.size)
  (k:∀h',Heap.SameBut e s.heap h'->(∃o,h'.get? e=some o/\o.cls=oe.cls)->E @Hq {s with heap:=h'}):wpAny @Ak A (raiseNew @Hq:Sem α) Q E s:=by
 unfold raiseNew
 refine UA (wpAny_handled ?_)
 rw[hh]
 dsimp only
 have hne:(Value.ref h != Value.ref e)=true:=by simp[ne]
 rw[Uz hne]
 refine UA (Wr (wpAny_runValue (WI vX ?_)))
 rw[Wx vU _]
 show wpAny _ A.in1 (field @W8 2 >>= _) _ _ s
 refine UA (V9 ho hd (x:=.none) h2 ?_)
 show wpAny _ A.in1 (ret .none) _ _ s
 refine U3 ?_
 show wpAny _ A (updateField e 2 @W8 >>= _) _ _ s
 refine UA ?_
 obtain⟨c,d,dt,sl⟩:=oe
 have hed:dt=@IZ:=hed
 subst hed
 unfold updateField
 refine UA (wpAny_load he ?_)
 dsimp only
 rw[Uz hs]
 refine wpAny_update he (wpAny_throw (k _ (Heap.SameBut.update ..) ⟨_,Wq _ he rfl,rfl⟩))
def Fp{it h:Addr}{oh:Obj}{ws:@BC}{x left step:Int}{Q:@DA->Shared->Prop}(hh:A.handled=some @W8)(ho:s.heap.get? h=some oh)(hd:oh.data=@Qk)(h2:ws[2]? =@Jy)(hit:IsRangeIter s.heap it x left step)(hleft:left<=0)
  (hQ:∀h',@VJ->Q none {s with heap:=h'}):wpAny @Ak A @NW Q E s:=by
 have hT:s.TypeIs @Cv "range_iterator":=⟨_,hit,rfl⟩
 unfold pyNext
 refine UA (wpAny_attempt (wpAny_callSpecial?_slot (name:=@WS) hT F.slot_range_iterator_next
  (wpAny_call_entry F.slot_range_iterator_next hT F.entry_range_iterator_next ?_ (F.args_range_iterator_next_1 _))))
 show wpAny _ _ (field @Cv 0 >>= _) _ _ s
 refine UA (V9 hit rfl (x:=rawInt x) rfl ?_)
 show wpAny _ _ (field @Cv 1 >>= _) _ _ s
 refine UA (V9 hit rfl (x:=rawInt left) rfl ?_)
 show wpAny _ _ (field @Cv 2 >>= _) _ _ s
 refine UA (V9 hit rfl (x:=rawInt step) rfl ?_)
 show wpAny _ _ (if left<=0 then _ else _) _ _ s
 rw[Uz hleft]
 refine UA (wpAny_rule (UA ?_))
 show wpAny _ _ (newExc (@NZ) [] >>= _) _ _ _
 refine UA ?_
 simp only[newExc,newTuple]
 refine UA (WO ?_ (by size_fits))
 refine UA (m:=firstArgMember _ _) (wpAny_of_eq (a:=Value.none) (by first|rfl|(simp only[firstArgMember];rfl)) ?_)
 refine WO ?_ (by size_fits)
 have lh:h<s.heap.objs.size:=UK ho
 refine JA (h:=h) (show A.in1.handled=some @W8 from hh) (Vc (UZ lh (by rw[VC];exact @Jj))) (Ux _ (Ux _ ho)) hd h2 (@Gq) rfl (by simp;omega) λh' q1 ⟨o,q2,q3⟩=>?_
 refine UA (wpAny_isInstance (T:="StopIteration") (b:=true) ⟨o,q2,q3⟩ isSubtype_stop (U3 (hQ _ λb ob hb e=>?_)))
 exact q1.extBut b ob (Vc (UZ (UK e) (by rw[VC];exact @Jj))) (@QO)
end
def Qo:SF:=λ_ _=>.bad
section
variable {X:Cx}{Γ:Fx}{E:XK}
def Kj{sts:@Dx}:Dv X Γ E sts Qo:=λpins s σ H D I ⟨env,G,B,β,J,o⟩=>o.elim
end
end L2
namespace L2
open PySem
section
variable {α γ:Type}
@[simp] theorem pA(a:α)(β:Int)(k:α->Int->R γ):(R.ok a β).bnd k=k a β:=rfl
@[simp] theorem RF(c:Str)(k:α->Int->R γ):(R.exc c:R α).bnd k=.exc c:=rfl
@[simp] theorem Rw(k:α->Int->R γ):(R.bad:R α).bnd k=.bad:=rfl
@[simp] theorem Te(a:α)(β:Int)(k:α->Int->R γ):(R.ok a β).okb k=k a β:=rfl
@[simp] theorem yj(a:α)(β:Int):R.of (some a) β=@Pl:=rfl
@[simp] theorem of_none(β:Int):(R.of none β:R α)=.bad:=rfl
@[simp] theorem Tx(a:α)(β:Int)(k:α->Int->SO):toS (@Pl) k=k a β:=rfl
@[simp] theorem Rx(c:Str)(k:α->Int->SO):toS (.exc c:R α) k=.exc c:=rfl
@[simp] theorem Rv(k:α->Int->SO):toS (.bad:R α) k=.bad:=rfl
end
section
variable (f fa fb fc:VF D)(t u:@CQ)(m m':SF)(vs:@BD)(β:Int)(env:En)(i j:Nat)(L:@c)
@[simp] theorem Mi:gv i vs β=R.of (dat vs[i]?) β:=rfl
@[simp] theorem BK(d:D):dat (@Rm)=some d:=rfl
@[simp] theorem Sh(d:D):cst d vs β=@Kg:=rfl
@[simp] theorem T9(g:D->@Ab):f1 fa g vs β=(@AU).bnd λx β1=>R.of (g x) β1:=rfl
@[simp] theorem TV(g:D->D->@Ab):f2 fa fb g vs β=(@AU).bnd λx β1=>(@Et).bnd λy β2=>R.of (g x y) β2:=rfl
@[simp] theorem C1:ag vs β=@X6:=rfl
@[simp] theorem fU(fr:@w):@Ue=(@AU).bnd λx β1=>(fr vs β1).bnd λxs β2=>.ok (x::xs) β2:=rfl
@[simp] theorem Ca:ie fa vs β=(@AU).bnd λx β1=>R.of (N4 x) β1:=rfl
@[simp] theorem Cm:rP t vs β=(@KM).bnd λc β1=>.ok (!c) β1:=rfl
@[simp] theorem M4:IE t u vs β=(@KM).bnd λc β1=>if c=true then u vs β1 else @L_:=rfl
@[simp] theorem sN:@Rl=(@KM).bnd λc β1=>if c=true then @RR else u vs β1:=rfl
@[simp] theorem Uc(n:Bool):tN fa n vs β=(@AU).bnd λx β1=>.ok (if n then !EI x else EI x) β1:=rfl
@[simp] theorem MQ:NJ t fa fb vs β=(@KM).bnd λc β1=>if c=true then fa vs β1 else @Et:=rfl
@[simp] theorem fL(c:Bool){β1:Int}(h:@AU=.ok (.bool c) β1):dD fa vs β=@X7:=by unfold dD;rw[h];rfl
@[simp] theorem Bs:vl []= []:=rfl
@[simp] theorem xI(s:Sl):vl (s::env)=s.val::vl env:=rfl
@[simp] theorem A6(d:D):(Sl.fz d).val=.da d:=rfl
@[simp] theorem To(d:D):(Sl.ow d).val=.da d:=rfl
@[simp] theorem TM:Sl.no.val=.no:=rfl
@[simp] theorem R0:Sl.bx.val=.bx:=rfl
@[simp] theorem Rn:bj [] env=env:=rfl
@[simp] theorem Q4:bj (i::L) env=bj L @Mo:=rfl
@[simp] theorem RG:@Iy=(match @Gk with
 | .nx env' β'=>m' env' β'
 |r=>r):=rfl
@[simp] theorem SW:@QA=toS (@MQ) λc β'=>if c=true then @Te else m' @AD β':=rfl
@[simp] theorem cO:bM f env β=toS (@C0) λd β'=>@S6:=rfl
@[simp] theorem zu:kT f env β=toS (@C0) λd β'=>.rt d true β':=rfl
@[simp] theorem R6:lU env β=@VE:=rfl
@[simp] theorem bC:ba i L f env β=toS (@C0) λd β'=>.nx ((@HK).set i (.fz d)) β':=rfl
@[simp] theorem iu:jw i L f env β=toS (@C0) λd β'=>.nx ((@HK).set i (.ow d)) β':=rfl
@[simp] theorem p6:@We=toS (@C0) λ_ β'=>.nx @AD β':=rfl
end
def ax{m m':SF}{env env':En}{β β':Int}(h:@Gk=@X2):@Iy=m' env' β':=by unfold aI;rw[h]
def gC{m m':SF}{env:En}{β β':Int}{d:D}{b:Bool}(h:@Gk=.rt d b β'):@Iy=.rt d b β':=by unfold aI;rw[h]
def Aa{m m':SF}{env:En}{β:Int}{c:Str}(h:@Gk=.exc c):@Iy=.exc c:=by unfold aI;rw[h]
def eY{L:@c}{t:@CQ}{m m':SF}{env:En}{β β':Int}(h:@MQ=.ok true β'):@QA=@Te:=by unfold ji;rw[h];rfl
def dY{L:@c}{t:@CQ}{m m':SF}{env:En}{β β':Int}(h:@MQ=.ok false β'):@QA=m' @AD β':=by unfold ji;rw[h];rfl
def aq{F:@I}{fr:@w}{vs:@BD}{β β1:Int}{ds:List D}{d:D}{b:Bool}(h:@Gi=@FG)(e:F ds=@Qp):ak F fr vs β=@DM:=by unfold ak;rw[h];dsimp only[R.bnd];rw[e]
def i5{F:@I}{fr:@w}{vs:@BD}{β β1:Int}{ds:List D}{c:Str}(h:@Gi=@FG)(e:F ds=.exc c):ak F fr vs β=.exc c:=by unfold ak;rw[h];dsimp only[R.bnd];rw[e]
def HH{F:@I}{fr:@w}{vs:@BD}{β β1:Int}{ds:List D}{d:D}(h:@Gi=@FG)(e:F ds=.ok d true):xg F fr vs β=@DM:=by unfold xg;rw[h];dsimp only[R.bnd];rw[e]
def fG{fa:VF D}{g:D->@Ab}{vs:@BD}{β β1:Int}{x d:D}(h:@AU=.ok x β1)(e:g x=some d):f1 fa g vs β=@DM:=by unfold f1;rw[h];dsimp only[R.bnd];rw[e];rfl
def aF{fa fb:VF D}{g:D->D->@Ab}{vs:@BD}{β β1 β2:Int}{x y d:D}(h:@AU=.ok x β1)(h':@Et=.ok y β2)(e:g x y=some d):f2 fa fb g vs β=@Pm:=by unfold f2;rw[h];dsimp only[R.bnd];rw[h'];dsimp only[R.bnd];rw[e];rfl
def kb{i:Nat}{F:List D->Int->FB}{fr:@w}{vs:@BD}{β β1 β2:Int}{ds:List D}{d:D}{b:Bool}(hi:A0 vs i=true)(h:@Gi=@FG)(e:@Pq=.ok d b β2):pL i F fr vs β=@Pm:=by unfold pL;rw[Uz hi,h];dsimp only[R.bnd];rw[e]
def sz(n:Nat)(h:n<=1000):n<=sizeLine:=by rw[Vi];omega
def QQ(n:Nat)(h:n<=1000):n<sizeLine:=by rw[Vi];omega
def jN{fr:@w}{vs:@BD}{β β1:Int}{ds:List D}(h:@Gi=@FG)(hz:ds.length<=1000):aW fr vs β=.ok @D7 β1:=by unfold aW;rw[h];exact Uz (sz _ hz)
def kU{fr:@w}{vs:@BD}{β β1:Int}{ds:List D}(h:@Gi=@FG)(hz:ds.length<=1000):bo fr vs β=.ok @Ej β1:=by unfold bo;rw[h];exact Uz (sz _ hz)
def y6{i:Nat}{env:En}{β:Int}{g:List D->@Ni}{ds es:List D}(h:env[i]? =@Bb)(e:g ds=some es):Ml i env β g=@HR:=by unfold Ml;rw[h];dsimp only;rw[e]
def oQ{i:Nat}{L:@c}{f:VF D}{env:En}{β β':Int}{ds:List D}{d:D}(hi:env[i]? =@Bb)(hf:@C0=.ok d β')(hL:(@AD)[i]? =@Bb)(hz:ds.length<=1000):l0 i L f env β=.nx ((@HK).set i (.ow (.list (ds++[d])))) β':=by
 unfold l0
 rw[Uz (by rw[hi];rfl),hf]
 exact y6 hL (Uz (QQ _ hz))
def Bo{i j:Nat}{L:@c}{f:VF D}{env:En}{β β':Int}{ds es es':List D}{k d:D}(hi:env[i]? =@Bb)(hj:env[j]? =some (.ow (.list es)))(hij:i≠j)(hf:@C0=.ok k β')(hL:@HK=env)(hp:EL es k=some (d,es'))(hz:ds.length<=1000):mL i j L f env β=.nx ((env.set j (.ow (.list es'))).set i (.ow (.list (ds++[d])))) β':=by
 unfold mL
 rw[Uz ⟨by rw[hi];rfl,by rw[hj];rfl,hij⟩,hf,hL]
 dsimp only[toS]
 rw[hj]
 dsimp only
 rw[hp]
 exact y6 (by rw[UX (Ne.symm hij)];exact hi) (Uz (QQ _ hz))
def u4{i:Nat}{Le Li:@c}{fe fi:VF D}{env:En}{β β1 β2:Int}{ds:List D}{d:D}{k:Int}{n:Nat}(he:fe @p β=@DM)(h1:(bj Le env)[i]? =@Bb)(hi:fi @p β1=.ok @N1 β2)(h2:(bj (Le++Li) env)[i]? =@Bb)(hk:vQ ds.length k=some n):p9 i Le Li fe fi env β=.nx ((bj (Le++Li) env).set i (.ow (.list (ds.set n d)))) β2:=by
 unfold p9
 rw[he]
 dsimp only[toS]
 rw[Uz (by rw[h1];rfl),hi]
 exact y6 h2 (by dsimp only;rw[hk];rfl)
theorem ux{t:Tg}{ft:@CQ}{fe:VF D}{vs:@BD}(g:D->Bool)(h:D->D):∀{ds:List D} {β:Int},(∀d,d∈ds->∃vs1,qO t d vs=@Sc/\ft vs1 β=.ok (g d) β/\(g d=true->fe vs1 β=.ok (h d) β))->jr t ft fe vs ds β=.ok ((ds.filter g).map h) β
 | [],β,_=>rfl
 |d::ds,β,hh=>by
  obtain⟨vs1,e1,e2,e3⟩:=hh d (UG ..)
  have ih:=ux (t:=t) (ft:=ft) (fe:=fe) (vs:=vs) g h (ds:=ds) (β:=β) λd' hd=>hh d' (UI _ hd)
  unfold jr
  rw[e1]
  dsimp only
  rw[e2]
  dsimp only[R.okb]
  cases q:g d with
  |true=>
   rw[Uz rfl,e3 q]
   dsimp only
   rw[ih,Wd q];rfl
  |false=>
   rw[UJ UQ,ih,We (by rw[q];exact UQ)]
def Ce{own:Nat}{ixs:@c}{t:Tg}{fi:@w}{ft:@CQ}{fe:VF D}{vs:@BD}{β β1:Int}{ds:List D}(g:D->Bool)(h:D->D)(hi:@Wh=@FG)(hz:ds.length<=1000)
  (hh:∀d,d∈ds->∃vs1,qO t d @GA=@Sc/\ft vs1 β1=.ok (g d) β1/\(g d=true->@RA=.ok (h d) β1)):@TV=.ok (.list ((ds.filter g).map h)) β1:=by
 unfold aM
 rw[hi]
 dsimp only[R.bnd]
 rw[Uz (sz _ hz),ux g h hh];rfl
def wG{own:Nat}{ixs:@c}{t:Tg}{fi:@w}{fe:VF D}{vs:@BD}{β β1:Int}{ds:List D}(h:D->D)(hi:@Wh=@FG)(hz:ds.length<=1000)
  (hh:∀d,d∈ds->∃vs1,qO t d @GA=@Sc/\@RA=.ok (h d) β1):@TW=.ok (.list (ds.map h)) β1:=by
 rw[Ce (ft:=iP) (λ_=>true) h hi hz λd hd=>let⟨vs1,e1,e2⟩:=hh d hd;⟨vs1,e1,rfl,λ_=>e2⟩]
 rw[List.filter_eq_self.mpr @J]
def bV{α:Type}{own:Nat}{ixs:@c}{t:Tg}{fi:@w}{fe:VF D}{vs:@BD}{β β1:Int}{l:@Bl}{e:α->D}(h:α->D)(hi:@Wh=.ok (l.map e) β1)(hz:l.length<=1000)
  (hh:∀x,x∈l->∃vs1,qO t (e x) @GA=@Sc/\@RA=.ok (h x) β1):@TW=.ok (.list (l.map h)) β1:=by
 unfold aM
 rw[hi]
 dsimp only[R.bnd]
 rw[Uz (sz _ (by rw[Uw];exact hz))]
 have key:∀m:@Bl,(∀x,x∈m->x∈l)->jr t iP fe @GA (m.map e) β1=.ok (m.map h) β1:=by
  intro m
  induction m with
  |nil=>intro _;rfl
  |cons x m ih=>
   intro hm
   obtain⟨vs1,e1,e2⟩:=hh x (hm x (UG ..))
   rw[Vj]
   unfold jr
   rw[e1]
   dsimp only
   show(R.ok true β1).okb _=_
   dsimp only[R.okb]
   rw[Uz rfl,e2]
   dsimp only
   rw[ih λy hy=>hm y @PU];rfl
 rw[key l λ_ h=>h];rfl
def cy{α:Type}{own:Nat}{ixs:@c}{t:Tg}{fi:@w}{ft:@CQ}{fe:VF D}{vs:@BD}{β β1:Int}{l:@Bl}{e:α->D}(g:α->Bool)(h:α->D)(hi:@Wh=.ok (l.map e) β1)(hz:l.length<=1000)
  (hh:∀x,x∈l->∃vs1,qO t (e x) @GA=@Sc/\ft vs1 β1=.ok (g x) β1/\(g x=true->@RA=.ok (h x) β1)):@TV=.ok (.list ((l.filter g).map h)) β1:=by
 unfold aM
 rw[hi]
 dsimp only[R.bnd]
 rw[Uz (sz _ (by rw[Uw];exact hz))]
 have key:∀m:@Bl,(∀x,x∈m->x∈l)->jr t ft fe @GA (m.map e) β1=.ok ((m.filter g).map h) β1:=by
  intro m
  induction m with
  |nil=>intro _;rfl
  |cons x m ih=>
   intro hm
   obtain⟨vs1,e1,e2,e3⟩:=hh x (hm x (UG ..))
   have ih:=ih λy hy=>hm y @PU
   rw[Vj]
   unfold jr
   rw[e1]
   dsimp only
   rw[e2]
   dsimp only[R.okb]
   cases q:g x with
   |true=>
    rw[Uz rfl,e3 q]
    dsimp only
    rw[ih,Wd q];rfl
   |false=>
    rw[UJ UQ,ih,We (by rw[q];exact UQ)]
 rw[key l λ_ h=>h];rfl
theorem eS{t:Tg}{m:SF}(Pv:Nat->En->Int->Prop):∀{ds:List D} {k:Nat} {env:En} {β:Int},Pv k env β->
  (∀i d env β,ds[i]? =some d->Pv (k+i) env β->∃env1,@Hi=@JP/\∃env2 β2,@QB=@Dw/\Pv (k+i+1) env2 β2)->∃env' β',ib t m ds env β=@X2/\Pv (k+ds.length) env' β'
 | [],k,env,β,h0,_=>⟨env,β,rfl,h0⟩
 |d::ds,k,env,β,h0,hs=>by
  obtain⟨env1,e1,env2,β2,e2,h1⟩:=hs 0 d env β rfl h0
  obtain⟨env',β',e3,h2⟩:=eS Pv (t:=t) (m:=m) (ds:=ds) (k:=k+1) h1 λi d' en be hi hp=>by
   have:=hs (i+1) d' en be (by simpa using hi) (by rw[show k+(i+1)=k+1+i by omega];exact hp)
   rw[show k+(i+1)+1=k+1+i+1 by omega]at this
   exact this
  refine⟨env',β',?_,by rw[UY,show k+(ds.length+1)=k+1+ds.length by omega];exact h2⟩
  unfold ib
  rw[e1]
  dsimp only
  rw[e2]
  exact e3
theorem gH{L:@c}{t:@CQ}{m:SF}(Pv:Nat->En->Int->Prop)(Dn:En->Int->Prop):∀{n k:Nat} {env:En} {β:Int},k<n->Pv k env β->
  (∀k env β,Pv k env β->∃c β1,@MQ=@X7/\((c=false/\Dn @AD β1)\/(c=true/\∃env2 β2 k',m @AD β1=@Dw/\k'<k/\Pv k' env2 β2)))->∃env' β',iC L t m n env β=@X2/\Dn env' β'
 | 0,k,env,β,hk,_,_=>@B
 |n+1,k,env,β,hk,h0,hs=>by
  obtain⟨c,β1,e1,hc⟩:=hs k env β h0
  unfold iC
  rw[e1]
  dsimp only[toS]
  rcases hc with⟨rfl,hd⟩|⟨rfl,env2,β2,k',e2,hl,h1⟩
  ·exact⟨_,_,rfl,hd⟩
  ·rw[Uz rfl,e2]
   exact gH Pv Dn (n:=n) (k:=k') (@B) h1 hs
end L2
namespace RM
open PySem L2
def ve:SF:=(bM @IY)
def tL(bX:@I):SF:=(bM (fV (ak bX @Q) @Sy))
def wz(bX:@I):SF:=(bM (fV (ak bX @Q) @U7))
def oR(bL:@I):SF:=(aI (ji ([]++@V) @RO
 @C2
 lU)
 (bM (fV (ak bL (ae @Am @Ay)) (ak bL (ae @Cd @Ay)))))
def jT:SF:=(kT (aM 1 [0] @BN (dM @NP) iP @IP))
def uZ:SF:=(bM (f1 (aM 2 [] @Bt @FT iP (f2 (gv 0) (gv 1) @A5)) (bQ λbs=>@Ll)))
def mH(jY jZ lH iX:@I):SF:=(aI (ji ([]++@V) @RO
 @C2
 lU)
 (aI (ba 1 @V @Am)
 (aI (ba 2 @V @Cd)
 (aI (ji (([1]++[])++[]) (rA (rP (ie (ak jY @Ay))) (rP (ie (f1 (gv 2) (lA "tuple")))))
 @C2
 lU)
 (aI (ji ([]++[1]) (rP (ie (f1 (aM 1 [1] @BN @St iP (ak jZ @Z)) (bQ λbs=>@Cz))))
 @C2
 lU)
 (bM (fV (f2 (gv 2) (ak lH @EZ) @A5) (f1 (ak iX @AR) F0))))))))
def iG(iQ:@I):SF:=(ji ([0]++[]) (rP (ie (ak iQ @Q)))
 (λenv β=>toS ((ae (cst (.str "this is no order")) ag) @p β) λds _=>if ds.length<=sizeLine then @VC else .bad)
 lU)
def rQ:SF:=(bM (fV @XC @Gm))
def gz(cH:@I):SF:=(aI @PZ
 (aI (dZ (.nm 3) [1] @F8
 (dZ @NI ((@V++[])++@V) @N7
 (ji ([]++[0,4]) (ie (f1 (aM 1 [0,4] @BN @Ox iP (ak cH @Sn)) (bQ λbs=>@Cz)))
 (l0 2 ([]++([4]++[])) @V9)
 lU)))
 (nK 2)))
def jU(aB c5:@I):SF:=(aI (du ([0]++[]) @Jr)
 (aI (ba 1 (@V++[]) (aM 1 [] @BN (dM @Am) iP (bo @Q)))
 (aI (ba 2 [1] (gv 1))
 (aI (iC [] (ie (gv 2))
 (aI (ba 1 [2] (gv 2))
 (ba 2 ([0]++([1]++[])) (ak c5 @Z))) 1000)
 (bM @Bc)))))
def sW(aB cg cH:@I):SF:=(aI (du ([0]++[]) @Jr)
 (kT (aM 2 [0] @Bt (bB (ak cg (ae @Am ag))) (ie (ak cH @Oa)) (aW @Z))))
def lY:SF:=(aI (ba 3 @V @Cd)
 (aI (ji ([]++[2]) (rP (ie (f1 @EL (bQ λbs=>@Cz))))
 @C2
 lU)
 (bM (f1 @EM (bQ λbs=>@Cz)))))
def pj(o3 iY:@I):SF:=(kT (aM 2 [0] @Bt (bB (ak o3 @Q)) (ie (ak iY @Oa)) (aW @Z)))
def M1:D->Bool
 | .int _=>true
 |_=>false
def gJ:@I
 | [d]=>if eG d=true then .bad else @VF
 |_=>.bad
def tj{d:D}(h:eG d=false):gJ [d]=@VF:=UJ (by rw[h];exact UQ)
def Jm(ds:List D)(h:gJ ds≠.bad):aS 1 1 ve ds=gJ ds:=by
 unfold gJ at h
 split at h
 ·rename_i d
  cases q:eG d with
  |true=>rw[q]at h;exact @Br
  |false=>
   rw[tj q]
   have e1:lA "int" d=some (.bool (IT d "int")):=by unfold lA;rw[q];rfl
   have e2:lA "bool" d=some (.bool (IT d "bool")):=by unfold lA;rw[q];rfl
   show fin (bM @IY @Wc 0)=_
   unfold bM fV f1 gv
   simp only[xI,Bs,A6,List.getElem?_cons_zero,BK,yj,pA,e1,e2]
   cases d<;>rfl
 ·exact @Br
def fK(d:D)(n:Int):Bool:=match d with
 | .int i=>decide (0<=i/\i<n)
 |_=>false
def ip:@I
 | [d,.int n]=>if eG d=true then .bad else @Ty
 |_=>.bad
def pZ{d:D}{n:Int}(h:eG d=false):ip @Vc=@Ty:=UJ (by rw[h];exact UQ)
def uB{i lo n:Int}{vs:@BD}{β:Int}{fa fb fc:VF D}{g':D->D->@Ab}{q:Bool}(ha:@AU=.ok (.int lo) β)(hb:@MN=.ok @AJ β)(hc:fc vs β=.ok @z β)(hq:g' @AJ @z=some (.bool q)):iS fa fb fc yX g' vs β=.ok (.bool (decide (lo<=i)&&q)) β:=by
 unfold iS
 rw[ha];dsimp only[R.bnd];rw[hb];dsimp only[R.bnd]
 show(match(some (PyData.bool (decide (lo<=i))):@Ab)with
  |some (.bool true)=>_
  |some (.bool false)=>_
  |_=>_)=_
 by_cases h:lo<=i
 ·rw[UH h]
  dsimp only
  rw[hc]
  dsimp only[R.bnd]
  rw[hq];rfl
 ·rw[UO h];rfl
def LI(ds:List D)(h:ip ds≠.bad):aS 2 2 (tL gJ) ds=ip ds:=by
 unfold ip at h
 split at h
 ·rename_i d n
  cases q:eG d with
  |true=>rw[q]at h;exact @Br
  |false=>
   rw[pZ q]
   show fin (bM (fV @U4 @Sy) @K_ 0)=_
   unfold bM fV ak
   simp only[xI,Bs,A6,fU,C1,Mi,List.getElem?_cons_zero,BK,yj,pA,tj q]
   cases d with
   |int i=>
    show fin (toS (iS @M (gv 0) (gv 1) yX rW [.da @AJ,.da @z] 0) _)=_
    rw[uB (lo:=0) (i:=i) (n:=n) rfl rfl rfl rfl]
    show FR.ok (.bool (decide (0<=i)&&decide (i<n))) false=.ok (.bool (decide (0<=i/\i<n))) false
    rw[Bool.decide_and]
   |_=>rfl
 ·exact @Br
def Mq(d:D):Bool:=match d with
 | .int i=>decide (1<=i/\i<=8)
 |_=>false
def qp:@I
 | [d]=>if eG d=true then .bad else @VG
 |_=>.bad
def Gd{d:D}(h:eG d=false):qp [d]=@VG:=UJ (by rw[h];exact UQ)
def N8(ds:List D)(h:qp ds≠.bad):aS 1 1 (wz gJ) ds=qp ds:=by
 unfold qp at h
 split at h
 ·rename_i d
  cases q:eG d with
  |true=>rw[q]at h;exact @Br
  |false=>
   rw[Gd q]
   show fin (bM (fV @U4 @U7) @Wc 0)=_
   unfold bM fV ak
   simp only[xI,Bs,A6,fU,C1,Mi,List.getElem?_cons_zero,BK,yj,pA,tj q]
   cases d with
   |int i=>
    show fin (toS (iS @H (gv 0) @Oc yX yX [.da @AJ] 0) _)=_
    rw[uB (lo:=1) (i:=i) (n:=8) rfl rfl rfl rfl]
    show FR.ok (.bool (decide (1<=i)&&decide (i<=8))) false=.ok (.bool (decide (1<=i/\i<=8))) false
    rw[Bool.decide_and]
   |_=>rfl
 ·exact @Br
def au(n:Nat)(l:@F):D:=.tuple [.int n,.tuple @GZ]
open Classical in
noncomputable def zg(f:Nat->@F->FR):D->FR:=λd=>if h:∃nl:Nat×@F,d=au nl.1 nl.2/\OM.Ord nl.1 nl.2 then f (@Ki).1 (@Ki).2 else .bad
def JV{p q:Pr}(h:aG p=aG q):p=q:=by
 obtain⟨a,b⟩:=p
 obtain⟨c,d⟩:=q
 unfold aG at h
 simp at h
 rw[h.1,h.2]
theorem rO:∀{l m:@F},l.map aG=m.map aG->l=m
 | [],[],_=>rfl
 | [],_::_,h=>by cases h
 |_::_,[],h=>by cases h
 |p::l,q::m,h=>by
  simp only[Vj,List.cons.injEq]at h
  rw[JV h.1,rO h.2]
def FF{n m:Nat}{l k:@F}(h:au n l=au m k):n=m/\l=k:=by
 unfold au at h
 simp only[PyData.tuple.injEq,List.cons.injEq,int.injEq,and_true]at h
 exact⟨@B,rO h.2⟩
def Ih{f:Nat->@F->FR}{n:Nat}{l:@F}(O:@q):zg f @V3=f n l:=by
 unfold zg
 have h:∃nl:Nat×@F,au n l=au nl.1 nl.2/\OM.Ord nl.1 nl.2:=⟨(n,l),rfl,O⟩
 rw[dif_pos h]
 obtain⟨e,_⟩:=Classical.choose_spec h
 obtain⟨e1,e2⟩:=FF e
 rw[<-e1,<-e2]
def Hb{f:Nat->@F->FR}{d:D}(h:zg f d≠.bad):∃n l,d=au n l/\@q:=by
 unfold zg at h
 by_cases q:∃nl:Nat×@F,d=au nl.1 nl.2/\OM.Ord nl.1 nl.2
 ·obtain⟨nl,e,O⟩:=q;exact⟨nl.1,nl.2,e,O⟩
 ·rw[dif_neg q]at h;exact @Br
noncomputable def gf:@I
 | [.int n,d]=>(match ny d with
  |some ds=>(match ll ds with
   |some ps=>(open Classical in if 1<=n/\n<=8/\OM.Wn n.toNat ps then .ok (.tuple ((OM.my n.toNat (OM.Tr (OM.Mem ps))).map aG)) false else .bad)
   |none=>.bad)
  |none=>.bad)
 |_=>.bad
def HR{n:Nat}{ps:@F}(h1:1<=n)(h8:n<=8)(w:@Qz):gf [.int n,.tuple @C7]=.ok (.tuple ((@GK).map aG)) false:=by
 unfold gf
 simp only[ny,mP]
 rw[Uz ⟨@B,@B,by rw[Vd];exact w⟩,Vd]
def pq:@I
 | [.tuple ds]=>(match ll ds with
  |some ps=>if ps.length<=1000 then .ok (.bool (ps.any λp=>decide (p.1=p.2))) false else .bad
  |none=>.bad)
 |_=>.bad
theorem g8{α:Type}(f:α->Bool):∀l:@Bl,nR (l.map λx=>PyData.bool (f x))=some (l.map f)
 | []=>rfl
 |x::l=>by
  show(nR (l.map λx=>PyData.bool (f x))).map (f x :: ·)=_
  rw[g8 f l];rfl
def Oi(ds:List D)(h:pq ds≠.bad):aS 1 1 uZ ds=pq ds:=by
 unfold pq at h
 split at h
 ·rename_i ds
  cases q:ll ds with
  |none=>rw[q]at h;exact @Br
  |some ps=>
   rw[q]at h
   dsimp only at h
   by_cases hz:ps.length<=1000
   case neg=>rw[UJ hz]at h;exact @Br
   obtain rfl:=rm q
   have e:pq [.tuple @C7]=.ok (.bool (ps.any λp=>decide (p.1=p.2))) false:=by
    unfold pq;simp only[mP];rw[Uz hz]
   rw[e]
   have ec:@IM=.ok (.list (ps.map λp=>PyData.bool (decide (p.1=p.2)))) 0:=by
    exact bV (l:=ps) (e:=aG) (λp=>PyData.bool (decide (p.1=p.2))) rfl hz λp hp=>⟨_,rfl,rfl⟩
   show fin (toS ((@IM).bnd λx β1=>R.of (bQ (λbs=>@Ll) x) β1) λd β'=>@S6)=_
   rw[ec]
   simp only[pA,bQ]
   rw[g8]
   simp[fin,List.any_map]
 ·exact @Br
def qX(p:Pr):SeqAt.shaped (aG p)=true:=rfl
theorem DA:∀l:@F,@YQ=true
 | []=>rfl
 |p::l=>by
  show((aG p).canLay0&&@YQ)=true
  rw[DA l];rfl
theorem DB:∀l:@F,PyData.depthAll @GZ<=1
 | []=>by show(0:Nat)<=1;omega
 |p::l=>by
  show max (aG p).depth (PyData.depthAll @GZ)<=1
  have h1:(aG p).depth=1:=by simp[aG,PyData.depth,PyData.depthAll]
  have h2:=DB l
  omega
def uk(l:@F):SeqAt.shaped @AX=true:=by
 unfold SeqAt.shaped
 have h1:(PyData.tuple @GZ).canLay0=true:=by simp only[PyData.canLay0];exact DA l
 have h2:(PyData.tuple @GZ).depth<=64:=by simp only[PyData.depth];have:=DB l;omega
 rw[h1,UH h2];rfl
def G6(p q:Pr):@VR=decide (p=q):=by
 obtain⟨a,b⟩:=p
 obtain⟨c,d⟩:=q
 simp only[aG,PyData.eqv,PyData.eqvAll,Bool.and_true]
 rw[Va]
 simp
theorem CU:∀l m:@F,@SP=decide (l=m)
 | [],[]=>rfl
 | [],_::_=>rfl
 |_::_,[]=>rfl
 |p::l,q::m=>by
  show(@VR&&@SP)=_
  rw[G6,CU l m,Va]
  simp
def ya{n:Nat}{l:@F}(O:@q):l.length<64:=by
 have h8:=O.hi
 have e:=O.closed
 by_cases h:l.length<64
 ·exact h
 ·exfalso
  have h1:l.length<=n*n:=by rw[<-e];exact OM.Gy _ _
  have h2:n*n<=64:=@WW
  have hn:n=8:=by
   by_cases h7:n<=7
   ·have:n*n<=7*7:=VT h7 h7
    omega
   ·omega
  have hlen:l.length=n*n:=by subst hn;omega
  have hg:l=@CD:=by
   refine OM.sub_eq O.ris (OM.j8 n) (λx hx=>OM.b9.mpr (O.wn x hx)) ?_
   rw[hlen];unfold OM.cu;simp
  have:((0:Int),(0:Int))∈l:=by rw[hg];exact OM.b9.mpr ⟨@Bz,@B,@B ⟩
  exact O.irr 0 this
def Hf{n:Nat}(h1:1<=n)(h8:n<=8):qp @OC=.ok (@Bv) false:=by
 rw[Gd rfl]
 show FR.ok (.bool (decide (1<=(n:Int)/\(n:Int)<=8))) false=_
 rw[UH (@B)]
def AE(neg:Bool)(l m:@F):fm neg @AX (.tuple (m.map aG))=some (.bool (if neg then !decide (l=m)else decide (l=m))):=by
 unfold fm
 rw[uk,uk]
 simp only[Bool.and_self,V5,PyData.eqv,CU]
noncomputable def fO:@I
 | [d]=>zg (λ_ _=>@KB) d
 |_=>.bad
def nH{n:Nat}{l:@F}(O:@q):fO @BM=@KB:=by simp only[fO];exact Ih O
abbrev de(ns:@E):D:=.dict [(.none,@AS)]
def uO{i j:Int}(h: -(2^64)<i/\i<2^64):dX @AJ @Ft=some (.int (i*j)):=Uz (by dsimp only;rw[UH h.1,UH h.2];rfl)
def HY{i j:Int}(h: -(2^64)<j/\j<2^64):dX @AJ @Ft=some (.int (i*j)):=Uz (by dsimp only;rw[UH h.1,UH h.2,Bool.and_self,Bool.or_true])
def qZ{i j:Int}(h:0<j):nq @AJ @Ft=some (.int (i%j)):=Uz (UH h)
def MJ{i j:Int}(h:0<j)(h2:j<1073741824):Mo @AJ @Ft=some (.int (i/j)):=Uz (by dsimp only;rw[UH h,UH h2];rfl)
theorem jh{α β:Type}(f:α->β)(l:@Bl)(i:Int):ki (l.map f) i=(ki l i).map f:=by
 unfold ki
 rw[Uw]
 cases vQ l.length i with
 |none=>rfl
 |some j=>simp
def pO{α:Type}{l:@Bl}{k:Nat}(h:k<l.length):ki l (k:Int)=some l[k]:=iH (UB h)
def NA{fa fb:VF D}{vs:@BD}{β β1 β2:Int}{i j:Int}(h:@AU=.ok @AJ β1)(h':@Et=.ok @Ft β2):dD (f2 fa fb rW) vs β=.ok (decide (i<j)) β2:=fL _ _ _ _ (aF h h' rfl)
def iw{neg:Bool}{fa fb:VF D}{vs:@BD}{β β1 β2:Int}{i j:Int}(h:@AU=.ok @AJ β1)(h':@Et=.ok @Ft β2):dD (f2 fa fb (fm neg)) vs β=.ok (if neg then !decide (i=j)else decide (i=j)) β2:=by
 refine fL _ _ _ _ (aF h h' ?_)
 cases neg<;>rfl
theorem lay_ints:∀ns:@E,@WP=true
 | []=>rfl
 |n::ns=>by
  show((int n).canLay0&&@WP)=true
  rw[lay_ints ns];rfl
theorem zZ:∀ns:@E,@YR=0
 | []=>rfl
 |n::ns=>by
  show max (int n).depth (@YR)=0
  rw[zZ ns];rfl
def shaped_ints(ns:@E):SeqAt.shaped (@AS)=true:=by
 unfold SeqAt.shaped
 have h1:(PyData.list (@Cu)).canLay0=true:=by simp only[PyData.canLay0];exact lay_ints ns
 have h2:(PyData.list (@Cu)).depth<=64:=by simp only[PyData.depth];rw[zZ];omega
 rw[h1,UH h2];rfl
theorem zJ:∀l m:@E,@OP=decide (l=m)
 | [],[]=>rfl
 | [],_::_=>rfl
 |_::_,[]=>rfl
 |p::l,q::m=>by
  show((p==q)&&@OP)=_
  rw[zJ l m,Va]
  simp
def zt(neg:Bool)(l m:@E):fm neg (.list (l.map int)) (.list (m.map int))=some (.bool (if neg then !decide (l=m)else decide (l=m))):=by
 unfold fm
 rw[shaped_ints,shaped_ints]
 simp only[Bool.and_self,V5,PyData.eqv,zJ]
theorem vm{α:Type}:∀{l:@Bl} {k:Nat} {x:α},l[k]? =some x->(x::@Yn).Perm l
 | [],_,_,h=>by simp at h
 |y::l,0,x,h=>by simp at h;subst h;exact List.Perm.refl _
 |y::l,k+1,x,h=>by
  have h:l[k]? =some x:=by simpa using h
  have ih:=vm h
  show(x::y::@Yn).Perm (y::l)
  exact(List.Perm.swap y x _).trans (ih.cons y)
theorem w8{α β:Type}(f:α->β):∀(l:@Bl) (k:Nat),(l.map f).eraseIdx k=(@Yn).map f
 | [],_=>rfl
 |_::_,0=>rfl
 |x::l,k+1=>by simp[w8 f l k]
def me{a b:List D}(h:a.length+b.length<=10000):jL (.list a) (.list b)=some (.list (a++b)):=Uz (by rw[Vi];omega)
def eh(n:Nat):@E:=(@Ap).map λ(k:Nat)=>(k:Int)
def cQ(n:Nat):(eh n).length=n:=by unfold eh;simp
def bh{n:Nat}{x:Int}:x∈eh n↔0<=x/\x<n:=by
 unfold eh
 rw[U4]
 constructor
 ·rintro⟨k,hk,rfl⟩
  have:=Vq.mp hk
  omega
 ·intro h
  exact⟨x.toNat,Vq.mpr (@B),@B ⟩
def g9(n:Nat):(eh n).Nodup:=by
 unfold eh
 rw[Wv,Xj]
 exact(Wv.mp List.nodup_range).imp λ{a b} h e=>h (@B)
def xc(n:Nat):dB 0 n=(eh n).map int:=by
 unfold dB eh
 rw[VP]
 refine Vu λk _=>?_
 show int (0+(k:Int))=_
 rw[VE];rfl
theorem kg{lo:Int}{n i:Nat}{d:D}(h:(dB lo n)[i]? =some d):i<n/\d=.int (lo+i):=by
 unfold dB at h
 rw[UN]at h
 cases q:(@Ap)[i]? with
 |none=>rw[q]at h;cases h
 |some j=>
  rw[q]at h
  cases h
  obtain⟨hi,ej⟩:=Uy.mp q
  rw[Vm]at hi
  rw[List.getElem_range]at ej
  subst ej
  exact⟨hi,rfl⟩
def se{n:Nat}(h:n<=1000):fR @z=some (.list ((eh n).map int)):=by
 unfold fR
 dsimp only
 rw[Uz @Bz,Vd,xc]
def eO{fa:VF D}{vs:@BD}{β β1:Int}{n:Nat}(h:@AU=.ok @z β1)(hn:n<=1000):dM fa vs β=.ok (dB 0 n) β1:=by
 unfold dM
 rw[h]
 simp only[pA]
 rw[Uz (oU (@B) (@B)),Vd]
def Iz{fa fb:VF D}{vs:@BD}{β β1 β2:Int}{i j:Int}(h:@AU=.ok @AJ β1)(h':@Et=.ok @Ft β2)(hi:0<=i/\i<=1000)(hj:0<=j/\j<=1000):zd fa fb vs β=.ok (dB i (j-i).toNat) β2:=by
 unfold zd
 rw[h]
 simp only[pA]
 rw[h']
 simp only[pA]
 rw[Uz (by rw[oU (@B) (@B),oU (@B) (@B)];rfl)]
def cL{t:Tg}{L:@c}{fi:@w}{m:SF}{env:En}{β β1:Int}{ds:List D}(h:@Wg=@FG):dZ t L fi m env β=ib t m ds @AD β1:=by unfold dZ;rw[h];rfl
def lP{m:Nat}(h:1<=m)(h2:m<=1000)(β:Int):∃j:Nat,j<m/\eQ [.int m] β=.ok (.int (j:Int)) false (β/m):=by
 refine⟨(β%m).toNat,?_,?_⟩
 ·have h0:=WJ β (b:=(m:Int)) (@B)
  have h3:=WK β (b:=(m:Int)) (@B)
  omega
 ·rw[yQ (@B) (@B)]
  have h0:=WJ β (b:=(m:Int)) (@B)
  rw[show((β%m).toNat:Int)=β%m by omega]
theorem ym(p:Pr):∀l:@F,((l.map aG).any λe=>PyData.eqv e (aG p))=decide (p∈l)
 | []=>rfl
 |q::l=>by
  rw[Vj,Ws,ym p l,G6,Va]
  simp only[VR,UU,UD]
  exact⟨λh=>@NG,λh=>@NG ⟩
def DC(l:@F):(l.map aG).all SeqAt.shaped=true:=by
 rw[Ve]
 intro d hd
 obtain⟨p,_,rfl⟩:=@WT
 exact qX p
def qM(neg:Bool)(p:Pr)(l:@F):qk neg (aG p) @AX=some (.bool (if neg then !decide (p∈l)else decide (p∈l))):=by
 unfold qk
 simp only[ny,qX,DC,Bool.and_self,V5,ym]
def J6(neg:Bool)(p:Pr)(l:@F):qk neg (aG p) (.list @GZ)=some (.bool (if neg then !decide (p∈l)else decide (p∈l))):=by
 unfold qk
 simp only[ny,qX,DC,Bool.and_self,V5,ym]
def oK(neg:Bool)(i j:Int):fm neg @AJ @Ft=some (.bool (if neg then !decide (i=j)else decide (i=j))):=rfl
theorem sQ{fa fb:VF D}{vs:@BD}{β:Int}{a b:Bool}(h:@AU=.ok (.bool a) β)(h':@MN=.ok @LJ β):@Uh=.ok (.bool (a&&b)) β:=by
 unfold fV
 rw[h]
 dsimp only[R.bnd]
 cases a with
 |true=>exact h'
 |false=>rfl
def fW{fa fb:VF D}{vs:@BD}{β:Int}{a b:Int}(h:@AU=.ok @BT β)(h':@MN=.ok @SB β):aW (ae fa (ae fb ag)) vs β=.ok (aG (a,b)) β:=by
 refine jN (ds:=[.int a,.int b]) ?_ @W
 rw[fU,h]
 dsimp only[R.bnd]
 rw[fU,h'];rfl
def Fg(l:@F)(p:Pr):Bool:= !decide (p.1=p.2)&&(!decide ((p.1,p.2)∈l) && !decide ((p.2,p.1)∈l))
def O4{n:Nat}{l:@F}{fa:VF D}{vs:@BD}{β:Int}(h:@AU=.ok @V3 β):f2 fa @H bE vs β=.ok @AX β:=aF h rfl rfl
def MR{n:Nat}{l:@F}{fa:VF D}{vs:@BD}{β:Int}(h:@AU=.ok @V3 β):f2 fa @M bE vs β=.ok @z β:=aF h rfl rfl
def Kv:@I:=aS 3 3 rQ
def PZ(n:Nat)(l:@F)(a b:Int):Kv @XU=.ok (.bool (Fg l (a,b))) false:=by
 show fin (toS (fV @XC @Gm [@Bo,.da @BT,.da @SB] 0) _)=_
 rw[sQ (aF (x:=.int a) (y:=.int b) rfl rfl (oK true a b)) (sQ (aF (fW (a:=a) (b:=b) rfl rfl) (O4 (n:=n) (l:=l) rfl) (qM true (a,b) l)) (aF (fW (a:=b) (b:=a) rfl rfl) (O4 (n:=n) (l:=l) rfl) (qM true (b,a) l)))]
 rfl
def mE:@I:=aS 1 1 jT
def C3{n:Nat}(h1:1<=n)(h8:n<=8):mE @OC=.ok (.list ((@CD).map aG)) true:=by
 have hm:n*n<=64:=@WW
 have e:aM 1 [0] @BN (dM @NP) iP @IP [.da @z] 0=.ok (.list ((@CD).map aG)) 0:=by
  have hi:dM @NP [.da @z] 0=.ok ((List.range (n*n)).map λ(k:Nat)=>int (0+(k:Int))) 0:=by
   refine eO (n:=n*n) (aF (x:=.int n) (y:=.int n) rfl rfl ?_) (@B)
   rw[uO @Bz];rfl
  rw[bV (l:=List.range (n*n)) (e:=λ(k:Nat)=>int (0+(k:Int))) (λk=>aG (((k/n:Nat):Int),((k%n:Nat):Int))) hi (by rw[Vm];omega) λk hk=>⟨_,rfl,?_⟩]
  ·unfold OM.cu;rw[VP];rfl
  ·refine fW (aF (x:=.int (0+(k:Int))) (y:=.int n) rfl rfl ?_) (aF (x:=.int (0+(k:Int))) (y:=.int n) rfl rfl ?_)
   ·rw[MJ (@B) (@B),VE];rfl
   ·rw[qZ (@B),VE];rfl
 show fin (jT [.fz @z] 0)=_
 unfold jT
 rw[zu,show vl [Sl.fz @z]= [.da @z]from rfl,e];rfl
def sg(n:Nat)(l:@F):@F:=(@CD).filter (Fg l)
def fT(n:Nat):(@CD).length=n*n:=by unfold OM.cu;simp
def K6{n:Nat}{l:@F}(h8:n<=8):(sg n l).length<=64:=by
 have h1:(sg n l).length<=(@CD).length:=Vg _ _
 rw[fT]at h1
 have:n*n<=64:=@WW
 omega
def iy{n:Nat}{l:@F}{p:Pr}:p∈sg n l↔((0<=p.1/\p.1<n)/\(0<=p.2/\p.2<n))/\Fg l p=true:=by
 unfold sg;rw[UE,OM.b9]
noncomputable def uq:@I:=aS 1 1 (sW fO mE Kv)
def dO{fa:VF D}{vs:@BD}{β:Int}{c:Bool}(h:@AU=.ok (.bool c) β):ie fa vs β=.ok c β:=by rw[Ca,h];rfl
def Lk{n:Nat}{l:@F}(O:@q):uq @BM=.ok (.list ((sg n l).map aG)) true:=by
 have hm:n*n<=64:=VT O.hi O.hi
 show fin (sW fO mE Kv [@G] 0)=_
 unfold sW
 rw[ax (env':=[@G]) (β':=0) ?g1]
 case g1=>
  show toS (ak fO @Q [@Bo] 0) _=_
  rw[aq (ds:=@BM) rfl (nH O)];rfl
 have e:@Fg=.ok (.list ((sg n l).map aG)) 0:=by
  have hi:bB (ak mE (ae @Am ag)) [@Bo] 0=.ok ((@CD).map aG) 0:=by
   unfold bB
   rw[aq (ds:=@OC) rfl (C3 O.lo O.hi)];rfl
  exact cy (l:=@CD) (e:=aG) (Fg l) aG hi (by rw[fT];omega) λp hp=>⟨_,rfl,dO (aq (ds:=[au n l,.int p.1,.int p.2]) rfl (PZ n l p.1 p.2)),λ_=>@Yd ⟩
 show fin (toS (@Fg) _)=_
 rw[e];rfl
def jO:SF:=(aI (ba 2 (@V++[]) (f2 (f2 (cst (.int 7919)) (gv 1) dX) (cst (.int 13)) b7))
 (aI (ji @V (dD @PX)
 (ba 2 @V @I_)
 lU)
 (aI (ji (@V++[]) (dD @RM)
 (kT (bo @Tt))
 lU)
 (aI (ba 3 [] @M)
 (aI (dZ @NI [] (dM (cst (.int 16)))
 (aI (ba 5 ((((@V++[])++@V)++[])++[]) (f2 @A8 @B_ nq))
 (aI (ba 5 (@V++[]) @Jh)
 (ba 3 (@V++(([]++@V)++[])) (f2 @PY @Dv b7)))))
 (kT (bo @BG)))))))
def gr(aX:List D->Int->FB):SF:=(aI (jw 2 [] (f1 (gv 1) L6))
 (aI (jw 3 [] @Hu)
 (aI (iC @V (dD @O0)
 (mL 3 2 @V (pL 0 aX @Ss)) 1000)
 (bM (f1 (gv 3) oj)))))
def kH:SF:=(aI @PZ
 (aI (dZ (.nm 3) [] (dM (gv 0))
 (dZ @NI [] (dM (gv 0))
 (ji (@V++@V) (IE @F_ (ie (f1 @A4 (bQ λbs=>@Cz))))
 (l0 2 ([3]++([4]++[])) @OK)
 lU)))
 (bM (f1 (gv 2) oj))))
def jE(cB:@I)(aX bH:List D->Int->FB):SF:=(aI (ba 2 ([]++([1]++[])) (f2 @H (pL 0 aX @Ay) b7))
 (aI (ba 3 (([]++@V)++[]) (aM 1 [0,2] @BN (dM (f2 @H (pL 0 aX (ae @UJ ag)) b7)) iP (pL 1 bH @XA)))
 (bM (aW (ae (gv 2) (ae (ak cB @Sp) ag))))))
def o8(bL:@I):SF:=(aI (ji ([]++@V) (rA @Hl (dD (f2 @BH (gv 1) @CV)))
 @C2
 lU)
 (bM (fV (f1 (aM 1 [1] @BN @FT iP (ak bL @Z)) (bQ λbs=>@Cz)) (f2 (f1 (gv 0) tx) (gv 1) @A5))))
def p0:SF:=(aI (jw 1 (@V++[]) (f2 @FD @BH pf))
 (aI (dZ @Uz [0] (Ni (gv 0))
 (@Uk))
 (nK 1)))
def jg(j5 eH:@I):SF:=(aI (ji ([0]++(@V++[])) (rP (ie (ak j5 @V1)))
 @C2
 lU)
 (aI (ba 2 ([0]++[]) (ak eH @Q))
 (bM (f1 (aM 2 [2] @Bt (bB @ES) iP @J9) (bQ λbs=>@Cz)))))
def iF:SF:=(bM (f1 (aM 1 [1,2] @BN @FT iP (f2 @I_ @JA rW)) (bQ λbs=>@Cz)))
def iJ(eH cg dA:@I):SF:=(aI (ba 2 @V (aM 1 [] @BN @F8 iP (ak eH @Q)))
 (bM (f1 (aM 2 [2] @Bt (bB (ak cg @Q)) (ie (ak dA @Oa)) (aW @Z)) oj)))
def lX(cR:@I):SF:=(aI (ji ([]++@V) (rA (rP (ie (f1 (gv 0) (lA "list")))) (dD (f2 @BH @M @A5)))
 @C2
 lU)
 (bM (f1 (aM 1 [1] @BN @FT iP (ak cR @Z)) (bQ λbs=>@Cz))))
def BQ(aB iU dC:@I):SF:=(aI (du ([1]++[]) (ak aB @Ay))
 (bM (fV (ak iU @Z) (f2 (ak dC (ae @Bc @Q)) @ES @A5))))
def jB:SF:=(bM (f2 (gv 0) (f2 @H (gv 1) AY) RD))
def jb(az:@I):SF:=(aI (jw 1 (@V++@V) (f2 @FD @Am pf))
 (aI (dZ @Uz @V (bB @Cd)
 (p9 1 (@V++([2]++[])) [] (ak az @I9) (gv 3)))
 (nK 1)))
def ja(az:@I):SF:=(aI @PZ
 (aI (dZ (.two 3 4) [0] (FN (gv 0))
 (ji ((([1]++([3]++[]))++[])++(@V++[])) (IE (dD (f2 (ak az (ae (gv 1) @BG)) (gv 1) @CV)) @DX)
 @Qf
 lU))
 (nK 2)))
def kM(a9 az:@I):SF:=(aI @PZ
 (aI (ba 3 [] @M)
 (aI (iC @V (dD @Sw)
 (aI (ba 4 ([0]++([3]++[])) (ak a9 @F6))
 (aI @NO
 (aI (l0 2 (@V++[]) (f2 @NR @M bE))
 (ba 3 ([3]++(@V++[])) (ak az @N4))))) 1000)
 (bM (f1 (gv 2) oj)))))
def oF(a9 az:@I):SF:=(aI (ba 1 (@V++[]) (f2 (f2 @H @BH AY) @H rR))
 (aI (jw 2 ((@V++[])++@V) (f2 (f2 @FD (gv 1) pf) (bo (ae @H ag)) jL))
 (aI (dZ (.nm 3) ((@V++[])++[]) (L4 (f2 (gv 1) @H rR) @DU @DU)
 (p9 2 (([0]++([3]++[]))++[3]) [] (f1 (aM 1 [2,3] @BN (bB (ak a9 @F6)) iP @Tv) v5) (gv 3)))
 (nK 2))))
def kK(aB cT a8:@I):SF:=(aI (du ([0]++[]) @Jr)
 (bM (f2 (ak cT (ae @U3 ag)) @M bE)))
def qA(a9 az:@I):SF:=(aI (ba 4 ([0]++([2]++[])) (ak a9 @FB))
 (aI @RK
 (aI (iC ([]++([]++([2]++(@V++[])))) (dD (f2 (gv 3) @Tu TK))
 (aI (ba 3 ([]++([]++([2]++(@V++[])))) (f2 (gv 3) @Tu rR))
 @F9) 1000)
 (bM (aW (ae (f2 (gv 4) (gv 5) bE) @BG))))))
def oX(aB a8 cT bL lT az:@I):SF:=(aI (du ([0]++[]) @Jr)
 (aI (ba 2 ([0]++[]) @U3)
 (aI (ba 3 ([2]++[]) (ak cT @AR))
 (aI (ji ([1]++(@V++[])) (rP (ie (ak bL @OL)))
 (λenv β=>toS ((ae (cst (.str "this is no number of a row of the order")) ag) @p β) λds _=>if ds.length<=sizeLine then @UL else .bad)
 lU)
 (aI (jw 4 [] @Hu)
 (aI @RK
 (aI (ba 6 [1] (gv 1))
 (aI (dZ (.nm 7) @V (dM @Am)
 (aI (ba 8 ([2]++([3]++([5]++([6]++[])))) (ak lT @So))
 (aI (l0 4 @V @LP)
 (aI (ba 5 ([5]++(@V++[])) (ak az @V2))
 @Su))))
 (bM (f1 (gv 4) oj))))))))))
def qQ(aB cR a8 cT a9 az:@I):SF:=(aI (du ([0]++[]) @Jr)
 (aI (ji ([1]++([0]++[])) (rP (ie (ak cR @Ip)))
 (λenv β=>toS ((ae (cst (.str "this is no row of the order")) ag) @p β) λds _=>if ds.length<=sizeLine then .exc "NoRow"else .bad)
 lU)
 (aI (ba 2 ([0]++[]) @U3)
 (aI (ba 3 ([2]++[]) (ak cT @AR))
 (aI (ba 4 [] @M)
 (aI @RK
 (aI (dZ (.nm 6) [1] @F8
 (aI (ba 7 (([2]++([5]++[]))++[]) (aM 1 [6] @BN (bB (ak a9 (@P9))) @KV (gv 0)))
 (aI (ba 4 ([]++([]++[5])) (f2 (gv 4) (f1 (aM 1 [3,5] @BN (bB (gv 7)) iP @Tv) v5) b7))
 (ba 5 ([5]++([6]++[])) (ak az @Gl)))))
 (nK 4))))))))
def mB:SF:=(bM (O2 (f2 @Bc @IX @A5) (f2 @UF @Cd @Qg)))
def mw(az:@I):SF:=(bM (f2 (ak az (ae @JA @Ay)) @JA @A5))
def k7(bS:@I):SF:=(bM (ak bS (ae (gv 0) (ae @ES (ae @Bc ag)))))
def kZ(bS:@I):SF:=(bM (ak bS (ae (gv 0) (ae @Bc (ae @ES ag)))))
def mU(bS az:@I):SF:=(aI (ba 2 ([]++[0]) (aM 1 [1,0] @BN (dM @BH) (rA @U5 (ie (ak bS (@Np)))) (gv 0)))
 (aI (ba 3 (([]++@V)++(@V++[])) (ak az (ae (f2 (gv 0) @ES bE) (ae @ES ag))))
 (kT (aM 2 [2,3] @Bt (FN (gv 0)) iP @HD))))
def kW(cw:@I):SF:=(aI (jw 3 (([2]++[])++[]) (bo (ae (bo @AR) ag)))
 (aI (ba 4 [1] (gv 1))
 (aI @RK
 (aI (iC ([0]++((@V++[])++([2]++[]))) (rP (ie (ak cw @D9)))
 (aI (ba 6 ([]++[0]) (aM 1 [0,3,5] @BN @HO (ie (ak cw @EG)) (gv 0)))
 (aI @NN
 (aI @Fm
 @F9))) 1000)
 (bM @Xt)))))
def j3(cJ cC h9 i8:@I):SF:=(aI (ba 5 (@V++[]) (f2 @NQ @M bE))
 (aI (ba 6 (@V++[]) (f2 @NQ @H bE))
 (aI (ji ([5]++([4]++[])) (ie (ak cC @F7))
 (bM (aW (ae (cst (.str "ring")) (ae (gv 3) (ae (ak h9 @Sm) ag)))))
 lU)
 (bM (ak cJ (ae (gv 0) (ae (gv 1) (ae (f2 (f2 (EH (gv 2) (λ_ β=>@FY) (EZ (gv 3))) (bo (ae (aW (ae (ak i8 @F7) @Qc)) ag)) jL) (EH (gv 2) @W9 (λ_ β=>@FY)) jL) ag))))))))
def k9(cC:@I):SF:=(bM (f1 (aM 2 [1] @Bt @FT (rP (ie (ak cC @FB))) (gv 0)) cG))
def gK(jW gX ia hZ:@I):SF:=(aI (ba 3 @V (aM 1 [2] @BN @F8 (rP (ie (f1 (aM 2 [0] @Bt @F8 iP (ak gX @FB)) (bQ λbs=>@Ll)))) (gv 0)))
 (aI (ji @V (dD (f2 (f1 (gv 3) cG) @M @A5))
 (bM (aW (ae @Sv (ae (aM 2 [] @Bt @St iP (ak ia (ae (gv 0) (ae @Hu ag)))) ag))))
 lU)
 (aI (ba 4 [3] (CT 2 (gv 3) (ak hZ @Ip)))
 (aI (jw 5 [] @Hu)
 (aI (dZ (.nm 6) [] (dM @Ex)
 (aI (ba 7 ([0]++([3]++([2]++([6]++([4]++[]))))) (ak jW (ae (gv 0) (ae (gv 3) (ae (gv 2) (ae (gv 6) @BP))))))
 (aI (ji (@V++[]) (dD (f2 (f2 (gv 7) @M bE) @Sv @A5))
 (nK 7)
 lU)
 (l0 5 [7] (gv 7)))))
 (bM (aW (ae (cst (.str "turn")) (ae (gv 4) (ae (f1 (gv 5) oj) ag))))))))))
def sZ(a8 cJ b8:@I):SF:=(aI (ba 2 (([0]++[])++@V) (aW (ae @U3 (ae (aW ag) ag))))
 (bM (ak cJ (ae (gv 0) (ae (ak b8 @Q) (ae (f2 (bo @AR) (gv 1) pf) ag))))))
def fY(aB mn:@I):SF:=(aI (du ([0]++[]) @Jr)
 (aI (ba 1 [] @H)
 (aI (ba 2 ([0]++([1]++[])) (ak mn @Z))
 (aI (iC (@V++[]) (dD (f2 (f2 (gv 2) @M bE) @Sv @CV))
 (aI (ba 1 @V (f2 (gv 1) @H b7))
 (ba 2 ([0]++([1]++[])) (ak mn @Z))) 1000)
 (bM @IX)))))
def pY(dQ:@I):SF:=(bM (f1 (ak dQ @Q) cG))
end RM
namespace L2
open PySem PySem.Spec PyProof.Rows
def yt(X:Cx)(H:Hp):Prop:=∃(e:Addr) (cls:Value),X.A.handled=some @Hq/\H e=some @Io
structure GQ(P:Program)(w:World)(K:Frag)(tg:Expr)(J:It)(fp:@Ao)(it:Addr)(tn:Nat->Heap->Prop):Prop where
 mem:it∈fp
 obj:∀i h,tn i h->∀b∈fp,∃o,h.get? b=some o/\∀v,o.data≠@Qj
 keep:∀i h h',tn i h->(∀b∈fp,∀o,h.get? b=some o->h'.get? b=some o)->tn i h'
 item:∀(X:Cx),X.prog=P->X.w=w->X.K=K->∀(i:Nat) (pins:@K) (s:Shared) (σ:St) (H:Hp) (E:@L),yt X H->@D->(∀b∈fp,@IF)->@MR->@WM->
  wpAny @FV X.A @NW (λr s1=>∃u,r=some u/\wpAny @FV X.A @KW (λ_ s2=>∃x H',@KD/\@Iu/\@K6/\tn (i+1) s2.heap/\∀b∈fp,H' b=none) E s1) E s
 done:∀(X:Cx),X.prog=P->X.w=w->X.K=K->∀(i:Nat) (pins:@K) (s:Shared) (σ:St) (H:Hp) (E:@L),yt X H->@D->(∀b∈fp,@IF)->@MR->@Qv->
  wpAny @FV X.A @NW (λr s1=>r=none/\Inv X pins σ H s1) E s
 self:∀(A:Around) (i:Nat) (s:Shared) (Q:@L) (E:@L),@MR->Q @Cv s->@Rp
def Ez{P:Program}{w:World}{K:Frag}{tg:Expr}(it:Addr)(lo:Int)(n:Nat):GQ P w K tg (@MA) [it] it (λi h=>IsRangeIter h it (lo+(i:Nat)) ((n:Int)-(i:Nat)) 1) where
 mem:=by simp
 obj:=λi h st b hb=>by
  obtain rfl:b=it:=by simpa using hb
  exact⟨_,st,λv z=>by
   have z':@MB=@O4:=z
   cases z'⟩
 keep:=λi h h' st k=>@Yl
 item:=by
  intro X hP hw hK i pins s σ H E _ I hf st hg
  subst hP hw hK
  obtain⟨f0,f1,f2,f3,f4,f5⟩:=@Ks
  have hg:i<n:=hg
  refine wpAny_pyNext_range_item st (@B) λh' st' sb=>?_
  have I1:Inv X pins σ H {s with heap:=h',toks:=s.toks+1}:=I.turned (λb o hb e=>@QH) f0 f1 f3 f4 f5
  have st2:IsRangeIter h' it (lo+((i+1:Nat):Int)) ((n:Int)-((i+1:Nat):Int)) 1:=by
   have e1:lo+((i+1:Nat):Int)=lo+(i:Int)+1:=@B
   have e2:(n:Int)-((i+1:Nat):Int)=(n:Int)-(i:Int)-1:=@B
   rw[e1,e2];exact st'
  exact⟨_,rfl,Ax (s:={s with heap:=h',toks:=s.toks+1}) (n:="range_iterator") st2 rfl rfl @S ⟨.int (lo+i),H,I1,⟨s.toks,rfl⟩,@IO,st2,λb hb=>(@Wm).1⟩⟩
 done:=by
  intro X hP hw hK i pins s σ H E hr I hf st hg
  subst hP hw hK
  obtain⟨f0,f1,f2,f3,f4,f5⟩:=@Ks
  obtain⟨e,cls,hh,he⟩:=hr
  obtain⟨⟨o,vs,ho,_,_,hd,h2⟩,_⟩:=(show cW X.prog X.w H s.heap e @Io from I.hok e _ he)
  exact Fp hh ho hd h2 st (by have:n<=i:=hg;omega) λh' eb=>⟨rfl,I.turned (t':=s.toks) (λb o hb e=>@PB) f0 f1 f3 f4 f5⟩
 self:=λ_ _ _ _ _ st h=>@KN
def RU(X:Cx)(pins:@K)(σ:St)(tg:Expr)(R:It->Hp->Prop)(itv:Value)(s2:Shared):Prop:=
 ∃(it:Addr) (fp:@Ao) (tn:Nat->Heap->Prop) (J:It) (H':Hp),itv=.ref it/\@KD/\@Qs/\@Ro/\(∀b∈fp,@Iz)/\R J H'
def SJ(X:Cx)(tg iter:Expr)(wi:TI):Prop:=
 ∀(pins:@K) (s:Shared) (σ:St) (H:Hp) (R:It->Hp->Prop),@D->wi σ H R->wpAny @N X.A @Qe (λv s1=>wpAny @N X.A (pyIter v) (RU X pins σ tg R) X.xe s1) X.xe s
def N5(X:Cx)(own:Nat)(ixs:@c)(wi:TI)(g:TG)(tt:TT)(te:TE)(σ:St)(H:Hp)(Q:VK):Prop:=wi σ H λJ H1=>∀D,H1 D=none->∃W:Nat->Nat->St->Hp->Prop,(∀i m σ' H',@Da->yt X H')/\(∃m,@Hh)/\∀i m σ' H',@Da->
 (@MF/\(∃acc,H' D=@Aj)/\@Kn)\/
 (@Pt/\∃N:St->Hp->Prop,(∀σ2 H2,@N_->∃m',m'<m/\W (i+1) m' σ2 H2)/\∀x H2,@H6->g x σ' H2 λσ3 H3=>tt σ3 H3 λb H4=>
  if b=true then te σ3 H4 λv H5=>∃acc,H5 D=@Aj/\acc.length<sizeLine/\N σ3 (upd H5 D (.lst (acc++[v])))else @WO)
section
variable {X:Cx}{tg:Expr}
theorem C0{a:Expr}{ta:TA}{p pos:Pos}(hg:@He)(hm:@FR=none)(ha:@TI)(hs:@A_= [(false,@AZ)]:=by rfl):SJ X tg @Mh (Ms ta):=by
 intro pins s σ H R I h
 refine Call_ (lq I hg hm boot_range (VH (cK @A7 λus s1 ⟨vs,H1,I1,r1,q1⟩=>?_) hs rfl))
 obtain⟨j,e,q1,q2,q⟩:=q1
 subst e
 cases r1 with
 |cons r rr=>
  cases rr
  obtain⟨t,rfl⟩:=r
  refine call_range_1 (wpAny_pyIter_range (IsRange.new ..) (small_one (@B) (@B) q1 q2) ?_)
  have sz:∀(h:Heap) (o:Obj),h.objs.size<=(h.push o).objs.size:=λh o=>by rw[VC];omega
  refine⟨_,[_],_,_,H1,rfl,I1.kept λb o e=>@QO,Ez _ 0 j.toNat,?_,λb hb=>?_,q⟩
  ·have e1:(0:Int)+((0:Nat):Int)=0:=by simp
   have e2:((j.toNat:Nat):Int)-((0:Nat):Int)=Builtin.Range.rangeSize 0 j 1:=by rw[rangeSize_one];split<;>omega
   show IsRangeIter _ _ ((0:Int)+((0:Nat):Int)) (((j.toNat:Nat):Int)-((0:Nat):Int)) 1
   rw[e1,e2]
   exact @Gq
  ·rw[UP]at hb
   subst hb
   exact I1.fpOk (sz _ _) (I1.hok.fresh (sz _ _))
end
section
variable {X:Cx}{NB:@a}{own:Nat}{ixs:@c}{scope:Scope}{elt tg iter:Expr}{ifs:@Ac}{pos:Pos}{wi:TI}{g:TG}{tt:TT}{te:TE}
def BA(S:@BK)
  (hg:∀C ex s3 H3 pn,@La) (ht:∀C ex s3 H3 pn,@JH) (he:∀C ex s3 H3 pn,@JK)
  {pins:@K} {σ:St} {H1:Hp} {s2:Shared} {it:Addr} {fp:@Ao} {tn:Nat->Heap->Prop} {J:It} {Q:VK} (I2:Inv X pins σ H1 s2) (T:@Qs) (st2:@Ro) (f2:∀b∈fp,i2 X pins H1 b)
  (hQ:∀D,H1 D=none->∃W:Nat->Nat->St->Hp->Prop,(∀i m σ' H',@Da->yt X H')/\(∃m,@Hh)/\∀i m σ' H',@Da->
   (@MF/\(∃acc,H' D=@Aj)/\@Kn)\/
   (@Pt/\∃N:St->Hp->Prop,(∀σ2 H2,@N_->∃m',m'<m/\W (i+1) m' σ2 H2)/\∀x H2,@H6->g x σ' H2 λσ3 H3=>tt σ3 H3 λb H4=>
    if b=true then te σ3 H4 λv H5=>∃acc,H5 D=@Aj/\acc.length<sizeLine/\N σ3 (upd H5 D (.lst (acc++[v])))else @WO))
  {E:@L} {RR:Value->Addr->Result->Shared->Prop}
  (fin:∀D C H' s' m,@CB->@Kn->s'.heap.Ns C m->H' C=none->C≠X.env.locals->(∀x c,@x=some c->c≠C)->X.s₀.heap.objs.size<=C->(∀p∈X.pn++pins,p.1≠C)->@WQ) :
  wpAny @N X.A @Xv (λacc s3=>wpAny @N X.A @Fp (λcenv s4=>
   codeAny @N X.A (.compStart @h 0 @Cv acc {cenv with scope:=relabel scope X.env}) (RR acc cenv.locals) s4) E s3) E s2:=by
 refine wpAny_newList ?_ (Vl _)
 have hD:H1 s2.heap.objs.size=none:=I2.hok.fresh (UC _)
 obtain⟨W,wr,⟨m0,w0⟩,turn⟩:=@Wk
 generalize hs3:({s2 with heap:=s2.heap.push (seqObj "list" ([]:@e).toArray 0)}:Shared)=s3
 have I3:Inv X pins σ @AY s3:=by
  rw[<-hs3]
  exact I2.lnew (ys:=[]) (its:=[]) (t':=s2.toks) .nil (Vl _)
 have k3:∀b o,s2.heap.get? b=some o->s3.heap.get? b=some o:=λb o e=>by rw[<-hs3];exact Ux _ e
 have sz3:s3.heap.objs.size=s2.heap.objs.size+1:=by rw[<-hs3];exact VC ..
 have ob2:∀b∈fp,∃o,s2.heap.get? b=some o:=λb hb=>let⟨o,e,_⟩:=T.obj 0 _ st2 b hb;⟨o,e⟩
 have neD:∀b∈fp,b≠s2.heap.objs.size:=λb hb=>let⟨o,e⟩:=@Sa;@P6
 have f3:∀b∈fp,i2 X pins @AY b:=λb hb=>by
  obtain⟨a1,a2⟩:=f2 b hb
  exact⟨by rw[aJ (neD b hb)];exact a1,a2⟩
 have st3:tn 0 s3.heap:=T.keep _ _ _ st2 λb _ o e=>k3 b o e
 refine Cz λh4 hn4 k4 ok4=>?_
 have I4:Inv (gB X NB scope s3.heap.objs.size fp s3 @AY (X.pn++pins)) [] @BR @AY {s3 with heap:=h4}:=
  wZ S I3 f3 (λb hb=>let⟨o,e⟩:=@Sa;⟨o,k3 _ _ e⟩) hn4 k4 ok4
 have st4:tn 0 h4:=T.keep _ _ _ st3 λb _ o e=>k4 b o e
 generalize hB:gB X NB scope s3.heap.objs.size fp s3 @AY (X.pn++pins)=B at I4
 have hgB:PG B tg g:=by rw[<-hB];exact hg _ _ _ _ _
 have htB:Ck B ifs tt:=by rw[<-hB];exact ht _ _ _ _ _
 have heB:PE B elt te:=by rw[<-hB];exact he _ _ _ _ _
 have eP:B.prog=X.prog:=by rw[<-hB];rfl
 have eW:B.w=X.w:=by rw[<-hB];rfl
 have eK:B.K=X.K:=by rw[<-hB];rfl
 have eA:B.A=X.A:=by rw[<-hB];rfl
 have eC:∀{H':Hp},yt X H'->yt B H':=λ{H'} h=>by unfold yt at h ⊢;rw[eA];exact h
 have eX:B.xe=λ_ _=>False:=by rw[<-hB];rfl
 have eE:B.env=@BY:=by rw[<-hB];rfl
 have ex:B.ex=fp:=by rw[<-hB];rfl
 have eL:B.env.locals=s3.heap.objs.size:=by rw[eE];rfl
 have stat:∀{H':Hp},(∀b∈fp,H' b=none)->∀b∈fp,i2 B [] H' b:=λ{H'} hn b hb=>by
  obtain⟨a1,a2,a3,a4,a5,a6⟩:=@Wf
  obtain⟨o,eo⟩:=@Sa
  refine⟨hn b hb,?_,λz=>?_,.inl (by rw[ex];exact hb),λx c e z=>?_,λp hp z=>?_⟩
  ·rw[eL];exact Vc @MT
  ·have hz:b∈@CI:=by rw[<-hB]at z;exact z
   rcases UD.mp (I3.stkSub b hz)with q|q
   ·exact a2 q
   ·exact a3 q
  ·rw[eE]at e
   have e:(@SK).lookup x=some c:=e
   unfold EN at e
   rw[ot,W8]at e
   cases q:(cellsFrom (s3.heap.objs.size+1) scope.names []).lookup x with
   |some c'=>
    rw[q]at e
    cases e
    have l1:=(qY (Vt q)).1
    rw[z]at l1
    exact U8 _ (WC l1 @MT)
   |none=>
    rw[q]at e
    have e:(@m).lookup x=some c:=e
    rcases lL e with⟨m1,m2⟩|m1
    ·obtain⟨c',e'⟩:=@RW
     rw[e']at m2
     exact a5 x c' e' (by rw[<-z,m2];rfl)
    ·simp at m1
  ·have hp':p∈X.pn++pins:=by
    rw[<-hB]at hp
    rcases @Kq with q|q
    ·exact q
    ·cases q
   exact a6 p hp' z
 have back:∀{σ':St} {H':Hp} {s':Shared},@Kk->@CB:=λ{σ' H' s'} J'=>by
  have u:=J'.base
  have os:=J'.os
  have bare:=J'.bare
  have hok:=J'.hok
  subst hB
  exact I3.call' (ch:=fp) os u hok bare λb hb=>by
   obtain⟨a1,a2,a3,a4,a5,a6⟩:=@Wf
   exact⟨a4,a2,a5,a6⟩
 have loop:∀s5:Shared,s5={s3 with heap:=h4}->
   @GS:=by
  rintro s5 rfl
  refine xw (λn s'=>∃i σ' H',@Kk/\@Yv/\(∀b∈fp,H' b=none)/\@YW) ?_ m0 ⟨0,_,_,I4,st4,λb hb=>(@Wf).1,w0⟩
  rintro n s6 ⟨i,σ6,H6,I6,st6,fr6,w6⟩
  rcases turn i n σ6 H6 w6 with⟨stop,⟨acc,hacc⟩,qn⟩|⟨go,N,hN,step⟩
  ·have:=T.done B eP eW eK i [] s6 σ6 H6 (λ_ _=>False) (eC (wr _ _ _ _ w6)) I6 @U9 st6 stop
   rw[eA]at this
   refine cK this λr s7 ⟨hr,I7⟩=>?_
   subst hr
   obtain⟨m7,hn7,_⟩:=I7.loc
   rw[eL]at hn7
   have J7:=back I7
   refine fin _ _ H6 s7 m7 J7 qn hn7 (by rw[<-eL];exact I7.free) (λz=>?_) (λx c e z=>?_) ?_ λp hp z=>?_
   ·have:=I3.lt
    rw[<-z]at this
    exact U8 _ this
   ·obtain⟨v,o,ho,_⟩:=I3.cell x c e
    exact absurd (UK ho) (by rw[z];exact U8 _)
   ·exact I3.sz
   ·have:=UK (I3.pin p hp).1
    rw[z]at this
    exact U8 _ this
  ·have hitem:=T.item B eP eW eK i [] s6 σ6 H6 (λ_ _=>False) (eC (wr _ _ _ _ w6)) I6 @U9 st6 go
   rw[eA]at hitem
   refine cK hitem λr s7 ⟨u,hr,h7⟩=>?_
   subst hr
   refine cK h7 λ_ s8 ⟨x,H8,I8,r8,y8,st8,fr8⟩=>?_
   have I8':=@Oi
   have ha:=@MO
   rw[eP,eW,eA,eE,eX]at ha
   refine cK ha λ_ s9 ⟨σ9,H9,I9,q9⟩=>?_
   have hb:=@Wn
   rw[eP,eW,eA,eE,eX]at hb
   refine cK hb λok s10 ⟨H10,I10,q10⟩=>?_
   have again:∀{σ7:St} {H7:Hp} {s7:Shared},Inv B ([]++rJ fp s8.heap) σ7 H7 s7->N σ7 H7->∃m,m<n/\∃i σ' H',Inv B [] σ' H' s7/\@Yw/\(∀b∈fp,H' b=none)/\@Da:=λ{σ7 H7 s7} I7 n7=>by
    obtain⟨m',hm,w7⟩:=@Yg
    refine⟨m',hm,i+1,σ7,H7,I7.unpinned,T.keep _ _ _ st8 λb hb o e=>(I7.pin (b,o) @EF).1,λb hb=>?_,w7⟩
    obtain⟨o,e,d⟩:=T.obj _ _ st8 b hb
    exact(I7.pin (b,o) @EF).2.1
   cases ok with
   |false=>
    simp only[V4,WL]at q10 ⊢
    exact again I10 q10
   |true=>
    simp only[V5]at q10 ⊢
    have hv:=@TZ
    rw[eP,eW,eA,eE,eX]at hv
    refine cK hv λy s11 ⟨v,H11,I11,r11,acc,hacc,hz,q11⟩=>?_
    have hap:=oM (X:=B) _ s11 σ9 H11 @CR [v] @CR [y] (λz H'=>z=.non/\N σ9 H') I11 rfl (.cons r11 .nil) @OZ
    rw[eP,eW,eA,eX]at hap
    exact cK hap λ_ s12 ⟨_,H12,I12,_,_,q12⟩=>again I12 q12
 exact @Gg
def Er(S:@BK)(hi:SJ X tg iter wi)
  (hg:∀C ex s3 H3 pn,@La) (ht:∀C ex s3 H3 pn,@JH) (he:∀C ex s3 H3 pn,@JK)
  (hs:∀x,@Bj=pure x:=by intro _;rfl) :
  PE X @h (N5 X own ixs wi g tt te):=by
 intro pins s σ H Q I h
 rw[eval_ListComp]
 refine W9 (use:=none) rfl hs (mW λy hy e=>@GG) S.kind (λy hy e=>by rw[S.names y hy,e]) ?_
 refine cK @IT λv s1 h1=>cK h1 λitv s2 h2=>?_
 obtain⟨it,fp,tn,J,H2,e,I2,T,st2,f2,q2⟩:=h2
 subst e
 refine BA S hg ht he I2 T st2 f2 q2 (RR:=λacc C=>@PA) λD C H' s' m J' q hn hC n1 n2 n3 n4=>?_
 refine⟨m,hn,λh'' sb=>⟨.ref D,H',?_,rfl,q⟩⟩
 exact J'.turned (t':=s'.toks) (it:=C) (λb o hb e=>@QH) hC n1 (.inr n3) n2 n4
end
def sE{M:Model}{A:Around}{E:@L}{s:Shared}{env:Env}{n:Str}{c:Addr}{v:Value}{Q:Unit->Shared->Prop}(hl:env.kindOf n=@B8)(hc:env.cells.lookup n=some c)(hv:s.heap.IsCell c (some v))
  (h:∀h',h'.IsCell c none->Heap.SameBut c s.heap h'->Q () {s with heap:=h'}):wpAny M A (unbindName env n) Q E s:=by
 unfold unbindName
 refine UA (wpAny_point (UA ?_))
 unfold deleteName
 simp only[hl]
 refine UA (wpAny_cellOf hc (UA (wpAny_cellGet hv ?_)))
 simp only[Option.isSome_some,V5]
 exact wpAny_cellSet hv λh' h1 h2=>wpAny_point (h h' h1 h2)
section
variable {X:Cx}{pins:@K}{σ:St}{H:Hp}{s:Shared}
def AS{M:Model}{A:Around}{E:@L}{i:Nat}{x:Str}{v:V}{Q:Unit->Shared->Prop}(I:@D)(hN:X.N.Nodup)(hi:X.N[i]? =some x)(hk:@AO=@B8)(hfn:X.fn x=true)(hv:σ[i]? =@Fd)
  (h:∀s',@Id->Q () s'):@HB:=by
 obtain⟨m,hn,hl⟩:=@Wq
 have cne:=I.cne
 obtain⟨u,_,look⟩:=hl i x v hi hv (.inr (.inl hk))
 obtain⟨c,hc,z⟩:∃c,@x=some c/\s.heap.IsCell c (some u):=by
  rcases look with⟨q,_⟩|⟨_,c,q,z⟩
  ·have hk':@Iv=@B8:=hk
   rw[hk']at q;cases q
  ·exact⟨c,q,z⟩
 refine sE hk hc z λh' hc' hs=>?_
 obtain⟨oc,hoc,hocd⟩:=id z
 have tracked:@Ku:=nW I.hok λb o q hu=>(hs.2 b (λz=>by obtain⟨w',hw⟩:=hu;rw[z,I.freeC x c hc]at hw;cases hw)).trans q
 refine h {s with heap:=h'} ⟨I.ok,I.os,I.bare,⟨λb o e n hb hx=>?_,λb o e n hb hx=>?_,I.base.free,λb o e hx=>?_,I.base.tups,I.base.frzs,I.base.tbls⟩,⟨m,@On,λj y v' e1 e2 e3=>?_⟩,λy c' e=>?_,I.free,I.freeC,λp hp=>?_,tracked,by simpa using I.len⟩
 ·exact(hs.2 b @Bu).trans @F5
 ·obtain⟨sl,e1⟩:=@G5
  exact⟨sl,(hs.2 b @Bu).trans e1⟩
 ·obtain⟨o',e1⟩:=@GE
  exact⟨o',(hs.2 b @Bu).trans e1⟩
 ·by_cases hj:j=i
  ·subst hj
   rw[UT (by rw[I.len];exact(@Jl).1)]at e2
   cases e2
  ·rw[UX @Kc]at e2
   obtain⟨u',r',q⟩:=@Kt
   refine⟨u',r',?_⟩
   rcases q with q|⟨k,c',e,z'⟩
   ·exact .inl q
   ·refine .inr ⟨k,c',e,z'.sameBut hs ?_⟩
    rintro rfl
    exact hj (qm hN e1 (I.ok.inj _ _ _ e hc▸hi))
 ·by_cases hcc:c'=c
  ·subst hcc;exact⟨_,hc'⟩
  ·obtain⟨w2,z2⟩:=I.cell y c' e
   exact @Vr
 ·obtain⟨e,n,ne,nf,d⟩:=@Js
  refine⟨(hs.2 p.1 ?_).trans e,n,ne,nf,d⟩
  intro q
  rw[q,hoc]at e
  have q':oc=p.2:=@Ig
  exact d _ (by rw[<-q'];exact hocd)
def Bj{M:Model}{A:Around}{E:@L}{i:Nat}{x:Str}{v:V}{Q:Unit->Shared->Prop}(I:@D)(hN:X.N.Nodup)(hi:X.N[i]? =some x)(hk:@Cg)(hf:X.fn x=true\/@AO=@Ae)(hv:σ[i]? =@Fd)
  (h:∀s',@Id->Q () s'):@HB:=by
 rcases hk with hk|hk
 ·exact ET I hN hi hk hv h
 ·refine AS I hN hi hk ?_ hv h
  rcases hf with z|z
  ·exact z
  ·rw[z]at hk;cases hk
end
section
variable {X:Cx}
def Kf{n x:Str}{i:Nat}{Dc:Addr}{np hpos pos:Pos}{body suite:@Dx}{b0:Stmt}{tb:XK->TS}{th:Addr->TS}(hst:X.stack=X.env::X.outer)(hfr:X.env.frame=@Lu)(hex:X.ex= [])
  (hb:∀Eb Ex pn,@Dg->rq @NJ body (tb Eb)) (hs:∀e,rq @Jq (b0::suite) (th e)) (hg:Gl X x) (hm:X.mg x=@Um) (hN:X.N.Nodup) (hi:X.N[i]? =some n) (hk:@Qy) (hf:X.fn n=true\/@KZ=@Ae)
  (hdb:@T:=by decide) :
  PS X (.Try body [.ExceptHandler (some @As) (some n) (b0::suite) hpos] [] [] pos) (R7 X.K Dc i X.N.length tb th):=by
 intro pins s σ H D I h
 obtain⟨Eb,h1,h2⟩:=h
 refine wpAny_Try_except ?_
 refine Vx (hb Eb (λe s₁=>wpAny @N X.A (noteFrame e X.env) (λ_ s₂=>wpAny @N X.A (setFlight e none) (λ_ s₃=>wpAny @N X.A (handleBy e X.env [.ExceptHandler (some @As) (some n) (b0::suite) hpos]) @PT X.xe s₃) X.xe s₂) X.xe s₁) (X.pn++pins) ?_ [] s σ H D (I.toTry _) h1) (λf s1 q=>?_) λe s1 q=>q
 ·intro pins2 σ2 H2 s2 e s3 I2 hcx
  obtain⟨ea,cls,H',rfl,os,bare,un,hok,Ly,q⟩:=hcx
  have I3:Inv X pins σ2 H' s3:=(I2.call' os un hok bare (λb hb=>absurd hb @W)).ofTry
  have I2':Inv X pins σ2 H2 s2:=I2.ofTry
  have nil:∀b:Addr,b∉X.ex:=λb=>by rw[hex];simp
  obtain⟨mt,hth⟩:=h2 cls none H' q
  obtain⟨fr,nw,T,rc,hHT,hnT⟩:=Ly
  obtain⟨oe,vs,oT,ts,he,hc,hdd,hd,hv1,hv2,hTe,hT,hdT,hv3⟩:=id rc
  have old:∀{b:Addr},s2.heap.get? b=none->X.s₀.heap.get? b=none:=λ{b} hb=>by
   cases z:X.s₀.heap.get? b with
   |none=>rfl
   |some o=>obtain⟨o',z'⟩:=I2'.base.there b o z (nil b);rw[hb]at z';cases z'
  have hpn:∀p∈X.pn++pins,p.1≠ea/\p.1≠T:=λp hp=>by
   have:=(I2'.pin p hp).1
   exact⟨λz=>by (rw[z,nw]at this;cases this),λz=>by (rw[z,hnT]at this;cases this)⟩
  have hfn:=I3.stack
  have mem:∀{b:Addr},b∈@CI->∃o,s3.heap.get? b=some o/\∀ws,o.data≠@Qk:=λ{b} hb=>(hfn.mem hb).2
  have tF:T∉@CI:=λz=>by
   obtain⟨o,q,n⟩:=mem z
   rw[hT]at q;cases q;exact n _ hdT
  have hfn':s3.heap.FunFrames X.base (X.env::X.outer):=by rw[<-hst];exact hfn
  have step:∀{h':Heap} {tk:Nat},Keeps (@CI) [ea,T] s3.heap h'->Slots (@CI) s3.heap h'->Inv X pins σ2 H' {s3 with heap:=h',toks:=tk}:=λ{h' tk} kp sl=>by
   have kept:∀b o,s3.heap.get? b=some o->b∉@CI->b≠ea->b≠T->h'.get? b=some o:=λb o q hb n1 n2=>kp b o q hb (by simp[n1,n2])
   refine I3.exc hex he hd hT hdT (old nw) (old hnT) hpn kept sl (nW I3.hok λb o q hu=>?_)
   obtain⟨u,hu⟩:=hu
   refine kept b o q (λz=>?_) (λz=>?_) λz=>?_
   ·rw[I3.stkFree b z]at hu;cases hu
   ·rw[z,fr]at hu;cases hu
   ·rw[z,hHT]at hu;cases hu
  have hfr':X.A.frames=some (X.env::X.outer):=by rw[<-hst];exact I3.ok.frames
  have more:∀{h4 h5:Heap} {T2:Addr},(s3.heap.get? T2=none\/T2=T)->Keeps [] [T2] h4 h5->Keeps (@CI) [ea,T] s3.heap h4->Slots (@CI) s3.heap h4->@Rz/\@XQ:=λ{h4 h5 T2} tn k5 kp sl=>by
   have nT:∀b o,s3.heap.get? b=some o->b≠T->b≠T2:=λb o q n z=>by
    rcases tn with tn|tn
    ·rw[z,tn]at q;cases q
    ·exact n (z.trans tn)
   refine⟨λb o q hb hn=>k5 b o (kp b o q hb hn) @W ?_,λb o q hb=>?_⟩
   ·simp only[UD,Vf,VW,not_or]at hn
    simp[nT b o q hn.2]
   ·obtain⟨x,q4⟩:=sl b o q hb
    exact⟨x,k5 b _ q4 @W (by simp[nT b o q λz=>tF (z▸hb)])⟩
  have key:∀{h5:Heap} {T2:Addr},(s3.heap.get? T2=none\/T2=T)->Rc h5 ea cls T2 .none->@Rz->@XQ->wpAny @N X.A (handleBy (@S5) X.env [.ExceptHandler (some @As) (some n) (b0::suite) hpos]) @PT X.xe {s3 with heap:=h5}:=λ{h5 T2} tn rc5 kp5 sl5=>by
   have I5:Inv X pins σ2 H' {s3 with heap:=h5}:=step (tk:=s3.toks) kp5 sl5
   obtain⟨oe5,vs5,he5,hc5,_,_⟩:=rc5.isExc
   refine wpAny_handleBy_cons (codeAny_handlers_test (oH (X:=X.inEx ea) (I5.toEx ea) hg hm ?_ hdb)) (by intro q;cases q)
   refine mt I5.kIn he5 hc5 ?_
   refine codeAny_handlers_suite_as (tu (s:={s3 with heap:=h5}) rc5 λh6 k6 rc6=>?_)
   obtain⟨kp6,sl6⟩:=more tn k6 kp5 sl5
   have I6:Inv X pins σ2 H' {s3 with heap:=h6}:=step (tk:=s3.toks) kp6 sl6
   have eL:ea≠X.env.locals:=λz=>by
    obtain⟨m,⟨o,es,ep,ho,hdd,r⟩,_⟩:=I3.loc
    rw[<-z,he]at ho;cases ho
    rw[hd]at hdd;cases hdd
   have eC:∀y c,X.env.cells.lookup y=some c->c≠ea:=λy c q z=>by
    obtain⟨v,o,ho,hdd⟩:=I3.cell y c q
    rw[z,he]at ho;cases ho
    rw[hd]at hdd;cases hdd
   have I7:=I6.track (cls:=cls) rc6.isExc fr (old nw) eL eC λp hp=>(hpn p hp).1
   refine pW I7 hN hi hk (v:=@S5) rfl (λs8 I8=>?_) hf
   refine Vx (hs ea pins s8 _ _ (Mn i D) (I8.toEx ea) (hth ea σ2 fr I3.len)) (λf s9 q9=>?_) λ_ _ z=>z.elim
   have back:∀{σ9:St} {H9:Hp} {Q:Unit->Shared->Prop},Inv (X.inEx ea) pins σ9 H9 s9->(∀s',Inv X pins ((σ9.set i (some .non)).set i none) H9 s'->Q () s')->wpAny @N X.A (do bindName X.env n .none;unbindBehindTheSuite X.env n hpos) Q X.xe s9:=λ{σ9 H9 Q} I9 hQ=>by
    refine UA (wpAny_bindName (pW (I9.ofEx I.ok) hN hi hk (v:=.non) rfl (λs10 I10=>?_) hf))
    have hl:i<σ9.length:=by rw[I9.len];exact(@Jl).1
    exact wpAny_onRaise (Bj (v:=.non) I10 hN hi hk hf (by rw[UT hl]) hQ)
   cases f with
   |next=>obtain⟨σ9,H9,I9,q⟩:=q9;exact back I9 λs' I'=>@Tk
   |brk=>obtain⟨σ9,H9,I9,q⟩:=q9;exact back I9 λs' I'=>@Tk
   |cont=>obtain⟨σ9,H9,I9,q⟩:=q9;exact back I9 λs' I'=>@Tk
   |ret u=>obtain⟨v,σ9,H9,I9,r,q⟩:=q9;exact back I9 λs' I'=>⟨v,_,H9,I',r,q⟩
  refine wN hfr' hfn' hfr rc λh4 T2 kp4 sl4 tn rc4=>tu (s:={s3 with heap:=h4}) rc4 λh5 k5 rc5=>?_
  rw[<-hst]at kp4 sl4
  obtain⟨kp5,sl5⟩:=more tn k5 kp4 sl4
  exact key tn rc5 kp5 sl5
 ·cases f with
  |next=>exact W4 (@VS)
  |brk=>exact @VS
  |cont=>exact @VS
  |ret u=>exact @VS
end
structure xp(P:Program)(w:World)(K:Frag)(mg:@R)(base:Heap)(CX:yp)(k:Nat)(f:Addr)(fd:FuncData)(ps:@a)(sp:Addr->Sp):Prop where
 len:∀x0 vs H Q E,sp x0 vs H Q E->vs.length=ps.length
 run:∀(x0:Addr) (A:Around) (outer:@Cf) (s:Shared) (H:Hp) (args:Args) (us:@e) (vs:List V) (Q:VK) (E:XK),jx k A->A.handled=some (.ref x0)->@DI->@Na->@Jt->sp x0 vs H Q E->
  @Ck
section
variable {P:Program}{w:World}{K:Frag}{mg:@R}{base:Heap}
theorem AR.okE{x qual:Str}{st:Stmt}{f:Addr}{fd:FuncData}{N ps:@a}{k:Nat}{sp:Addr->Sp}(F:@C5)(S:@FJ)(len:∀e0 vs H Q E,sp e0 vs H Q E->vs.length=ps.length)
  (hbody:∀(e0:Addr) (cdv:Value) (A:Around) (outer:@Cf) (s:Shared) (H:Hp) (vs:List V) (Q:VK) (E:XK),jx k @AE->A.handled=some (.ref e0)->sp e0 vs H Q E->
   ∃t,rq (@Ar).nox @Oz t/\t {nx:=λ_ H'=>@Pz,rt:=Q} @C9 H):xp P w K mg base vG (k+1) f fd ps sp:=by
 obtain⟨oc,od,kV,doc,pm,an,cdv,ct,osl,rfl,lk,hcd⟩:=F.ex
 refine⟨len,λx0 A outer s H args us vs Q E hr hh e0 hb r hsp=>?_⟩
 have hl:=len _ _ _ _ _ hsp
 have KX:@HV:=e0.mod.kin.keeps λb o e=>(@MM).1
 have lim:s.heap.NoLimit:=e0.mod.nolimit.keeps λb o e=>(@MM).1
 have hkind:∀y∈ps.zip us,(ao st).names.lookup y.1=@Ae\/((ao st).names.lookup y.1=@B8/\((cellsFrom (s.heap.objs.size+1) (ao st).names []).lookup y.1).isSome=true):=λ⟨n,v⟩ hy=>by
  rcases S.par n (W5 hy).1 with q|q
  ·exact .inl q
  ·exact @JC
 have hdep:A.depth<recursionLimit:=by have:=hr.dp;omega
 refine codeAny_call_function hdep (KX _ _ lk) rfl S.co S.gen rfl @J2 (hb _ _ _ _ ?_)
 refine WZ S.kind hkind λenv he s1 x=>?_
 subst he
 refine⟨@LD,codeAny_func ?_⟩
 obtain⟨t,ht,hq⟩:=hbody x0 cdv A outer s H vs Q E @V_ hh hsp
 have I:@YG:=tZ S e0 hl r x
 refine Vx @Sx (λfl s' hs=>?_) λe s' hs=>hs
 have fin:∀{σ':St} {H':Hp} {v:V} {u:Value},@XJ->@Fw->Q v H'->@H3:=
  λ{σ' H' v u} J rv q=>@F4
 cases fl with
 |ret u=>
  obtain⟨v,σ',H',J,rv,q⟩:=hs
  exact fin J rv q
 |next=>
  obtain⟨σ',H',J,q⟩:=hs
  exact fin (v:=V.non) (u:=Value.none) J rfl q
 |brk=>
  obtain⟨_,_,_,q⟩:=hs
  exact @Kj
 |cont=>
  obtain⟨_,_,_,q⟩:=hs
  exact @Kj
end
section
variable {X:Cx}{CX:yp}{k:Nat}{f:Addr}{fd:FuncData}{ps:@a}{sp:Sp}{dvs:List V}{ds:@e}{E:XK}{x:Str}{p pos:Pos}{e:Expr}{es:@Ac}{t:TA}
theorem GJ{spE:Addr->Sp}{x0:Addr}(F:xp X.prog X.w X.K X.mg X.base CX k f fd ps spE)(hr:jx k X.A)(hh:X.A.handled=some (.ref x0))(hg:Gl X x)(hm:X.mg x=@Fc)(hk:@KF=true)(hb:@Kh)(hd:@TP)(hx:@Px)
  (ha:PA X (e::es) t) (hdb:@T:=by decide) (he:starEach (e::es) X.env=(false,@DE)::@AA:=by rfl) (hpl:(@C3).any (·.1)=false:=by rfl) :
  PE X (.Call @EX (e::es) [] pos) (Gz (spE x0) dvs E t):=by
 intro pins s σ H Q I h
 refine Wk (oH I hg hm ?_ hdb)
 refine PySem.W.callWith_K (h₀:=X.base) I.ok.mod.kin hk (cK @A7 λus s1 ⟨vs,H1,I1,r,q⟩=>⟨I1.kIn,?_⟩) he hpl
 have r2:Vals (vs++dvs) (us++ds):=r.append hd
 have hl:(us++ds).length=ps.length:=by rw[<-r2.length];exact F.len _ _ _ _ _ q
 refine wpAny_call (Wz (F.run x0 X.A X.stack s1 H1 @KO (us++ds) (vs++dvs) Q E hr hh I1.env0 (hb s1 us I1.kIn hl) r2 q) λr s' hq=>?_)
 cases r with
 |error e=>exact @Tb
 |ok fl=>
  cases fl with
  |ret u=>exact I1.after hq
  |next=>exact @FZ
  |brk=>exact @FZ
  |cont=>exact @FZ
end
def Hl(X:Cx)(J:It)(own:Nat)(ixs:@c)(g:TG)(tt:TT)(te:TE)(Q:VK)(D:Addr)(σ:St)(H:Hp):Prop:=∃W:Nat->Nat->St->Hp->Prop,(∀i m σ' H',@Da->yt X H')/\(∃m,@P7)/\∀i m σ' H',@Da->
   (@MF/\(∃acc,H' D=@Aj)/\@Kn)\/
   (@Pt/\∃N:St->Hp->Prop,(∀σ2 H2,@N_->∃m',m'<m/\W (i+1) m' σ2 H2)/\∀x H2,@H6->@IE)
structure Eg(X:Cx)(own:Nat)(ixs:@c)(wi:TI)(g:TG)(tt:TT)(te:TE)(σ:St)(H:Hp)(Q:VK):Prop where
 out:wi σ H λJ H1=>∀D,H1 D=none->Hl X J own ixs g tt te Q D σ H1
def zD{X:Cx}{NB:@a}{own:Nat}{ixs:@c}{scope:Scope}{tg iter elt:Expr}{ifs:@Ac}{wi:TI}{g:TG}{tt:TT}{te:TE}{pos:Pos}(S:@BK)(hi:SJ X tg iter wi)
  (hg:∀C ex s3 H3 pn,@La) (ht:∀C ex s3 H3 pn,@JH) (he:∀C ex s3 H3 pn,@JK)
  (hs:∀x,@Bj=pure x:=by intro _;rfl):PE X @h (Eg X own ixs wi g tt te):=
 λpins s σ H Q I h=>Er S hi hg ht he hs pins s σ H Q I h.out
def sd{X:Cx}{own:Nat}{ixs:@c}{g:TG}{tt:TT}{te:TE}{Q:VK}{D:Addr}{σ:St}{H:Hp}{lo:Int}{n:Nat}(Pv:Nat->St->Hp->Prop)(hr:∀i σ H,@Dh->yt X H)(h0:@Nl)
  (hs:∀i σ H,i<n->@Dh->dP g tt te D (.int (lo+i)) σ H (Pv (i+1))) (hd:∀σ H,@YO->(∃acc,H D=@Aj)/\Q @BO H) :
  Hl X (@MA) own ixs g tt te Q D σ H:=by
 refine⟨λi m σ H=>m=n-i/\i<=n/\@Dh,λi m σ' H' h=>hr _ _ _ h.2.2,⟨n,by simp,Vl _,h0⟩,?_⟩
 rintro i m σ H ⟨rfl,hi,p⟩
 by_cases hlt:i<n
 ·refine .inr ⟨hlt,Pv (i+1),λσ' H' p'=>⟨n-(i+1),@B,rfl,hlt,p'⟩,λx H' y=>?_⟩
  obtain⟨e,y⟩:=y
  subst e y
  exact @Ta
 ·have e:i=n:=@B
  subst e
  exact @K1
def Pm(W:Addr->Nat->Prop):Addr->Sp:=λx0 vs H Q _=>∃(D:Addr) (j p:Nat),vs= [.ref x0,.int p]/\p<16/\H x0=@Wx/\W D j/\∀H',@Cy->Q (.bl (decide (p=j))) H'
def rN(marks:Str->@If)(m:SF):SF:=λenv β=>if l5 env=true then(match m env 0 with
 | .rt d fr _=>.rt d fr β
 | .exc c=>(match marks c with
  |some j=>.rt (.list [.int (j:Int)]) true β
  |none=>.bad)
 | .nx e _=>if l5 e=true then .nx e β else .bad
 |_=>.bad)else .bad
section
variable {X:Cx}{Γ:Fx}{E:XK}{m:SF}
structure Rz(P:Program)(w:World)(K:Frag)(mg:@R)(base:Heap)(ca:Str->Addr)(x y:Str)(marks:Str->@If):Prop where
 ex:∃(gm Dc:Addr) (dm:FuncData) (W:Addr->Nat->Prop),xp P w K mg base vG 2 gm dm @Ds (Pm W)/\mg y=some @Xh/\PySem.W.keepIn K @Xh=true/\Binds K dm @Ds []/\mg x=@Um/\∀c j,marks c=some j->Mt K @Vx Dc/\W (ca c) j/\j<16
end
end L2
namespace L2
open PySem
section
variable {X:Cx}{Γ:Fx}{E:XK}{m:SF}
def EG{T:Addr}(hT:@VH){n x y z:Str}{i k c16:Nat}{Dc gm:Addr}{dm:FuncData}{W:Addr->Nat->Prop}{marks:Str->@If}{np hpos pos cp fp ap rp p1 p2 p3 p4 p5 zp lp:Pos}{scope:Scope}{body:@Dx}(hb:∀Eb Ex pn H G,CI T G->@Dg->Dv @NJ @Fn Eb body m)
  (hM:xp X.prog X.w X.K X.mg X.base vG k gm dm @Ds (Pm W)) (hr:∀e,jx k (X.inEx e).A) (hmg:X.mg y=some @Xh) (hkp:PySem.W.keepIn X.K @Xh=true) (hbi:Binds X.K dm @Ds [])
  (hw:∀c j,marks c=some j->Mt X.K (@Fj) Dc/\W (Γ.ca c) j/\j<16)
  (hm:X.mg x=@Um) (hN:X.N.Nodup) (hrg:@FR=none) (S:∀e,@Vf)
  (hG:∀e C ex s3 H3 pn,PG (@BL) (.Name z p2) (mZ 0))
  (h0:∀e C ex s3 H3 pn (p:Pos),PE (@BL) (.Name z p) (Ei 0))
  (h1:∀e C ex s3 H3 pn,PE (@BL) (.Name n ap) (Ei 1))
  (hgy:∀e C ex s3 H3 pn,Gl (@BL) y:=by intros;rfl) (hgr:∀e,Gl @Jq "range":=by intros;rfl)
  (hst:X.stack=X.env::X.outer:=by rfl) (hfr:X.env.frame=@Lu:=by rfl) (hex:X.ex= []:=by rfl) (hg:Gl X x:=by rfl) (hi:X.N[i]? =some n:=by rfl) (hk:@Qy:=by exact @CG) (hf:X.fn n=true\/@KZ=@Ae:=by exact @Af)
  (hdb:@T:=by decide) (hdy:(y==("__debug__":Str))=false:=by decide) :
  @E5:=by
 have hbU:∀Eb Ex pn,@Dg->rq @NJ body (λD σ H=>∃H0 G0,CI T G0/\sT (Fx.fn Γ.K H0 G0 Γ.ca) Eb m D σ H):=λEb Ex pn hp pins s σ H D I ⟨H0,G0,ht,q⟩=>hb Eb Ex pn H0 G0 ht hp pins s σ H D I q
 have hsU:∀e,rq @Jq @AF _:=λe=>gx (lC (zD (S e) (C0 (hgr e) hrg (aw rM aZ)) (hG e)
  (λC ex s3 H3 pn=>x8 (qU (GJ (x0:=e) hM (hr e) rfl (hgy e C ex s3 H3 pn) hmg hkp hbi .nil IF (aw (h1 e C ex s3 H3 pn) (aw (h0 e C ex s3 H3 pn zp) aZ)) hdy rfl rfl) λ_=>rfl)) λC ex s3 H3 pn=>h0 e C ex s3 H3 pn p1))
 refine PS.post (Kf (i:=i) hst hfr hex hbU hsU hg hm hN hi hk hf hdb) λN σ H ⟨env,G,B,β,I,o⟩=>?_
 unfold rN at o
 by_cases hf:l5 env=true
 case neg=>rw[UJ hf]at o;exact o.elim
 rw[Uz hf]at o
 refine⟨λcls _ H'=>∃c j,cls=@Fj/\marks c=some j/\@Cy/\m env 0=.exc c,⟨H,G,hT.mono I.old,env,G,none,0,I.drop hf,?_⟩,?_⟩
 ·cases q:m env 0 with
  |nx e b=>
   rw[q]at o
   dsimp only at o
   by_cases hf2:l5 e=true
   case neg=>rw[UJ hf2]at o;exact o.elim
   rw[Uz hf2]at o
   intro B' G' H' σ' J s
   exact o B G' H' σ' (I.undropN J hf2) s
  |bk e b=>rw[q]at o;exact o.elim
  |ct e b=>rw[q]at o;exact o.elim
  |bad=>rw[q]at o;exact o.elim
  |rt d fr b=>
   rw[q]at o
   intro B' G' H' σ' env' v J s rv
   refine o B G' H' σ _ v (I.undrop J) s ?_
   unfold RV at rv ⊢
   cases fr with
   |false=>exact rv
   |true=>
    rw[Uz rfl]at rv ⊢
    obtain⟨a,rfl,h1,h2,h3⟩:=rv
    exact⟨a,rfl,(@Qt).1,h2,h3⟩
  |exc c=>
   rw[q]at o
   intro H' kp
   cases q2:marks c with
   |none=>dsimp only at o;rw[q2]at o;exact o.elim
   |some z=>exact⟨c,z,rfl,q2,λb u e=>kp b u e @W,rfl⟩
 ·rintro cls d H' ⟨c,j,rfl,q2,s',q⟩
  rw[q]at o
  dsimp only at o
  rw[q2]at o
  obtain⟨w1,w2,hj⟩:=hw c j q2
  refine⟨w1,λea σ' hea hlen=>?_⟩
  have hil:i<σ'.length:=by rw[hlen];exact(@Jl).1
  refine⟨⟨16,rfl,@B,@B,λD' hD=>?_⟩⟩
  have sx:=s'.trans (ay.new (o:=@Pe) hea)
  have nf:∀x y,upd H' ea (@Pe) D'≠@HA:=λx y z=>by rw[hD]at z;cases z
  refine sd (lo:=0) (n:=16) (λa σ2 H2=>(∃v,σ2= [v,some (@S5)])/\ay (upd H' ea (@Pe)) H2/\H2 D'=some (.lst (if j<a then[.int (j:Int)]else[]))) ?_ ?_ ?_ ?_
  ·exact λa σ2 H2 h=>⟨ea,@Fj,rfl,h.2.1 _ _ aE⟩
  ·refine⟨⟨none,?_⟩,λb u e=>lx ((@A6) b u e) @Xr nf,aE⟩
   show[none,((@XF)[i]?).join]=_
   rw[UT hil];rfl
  ·rintro a σ2 H2 ha ⟨⟨v,rfl⟩,s2,hv⟩
   unfold dP mZ
   refine⟨_,rfl,_,rfl,Γ.ca c,j,a,by rw[VE];rfl,ha,s2 _ _ aE,w2,λH3 s3=>⟨_,rfl,?_⟩⟩
   have hv3:H3 D'=some (.lst (if j<a then[.int (j:Int)]else[])):=s3 _ _ hv
   have s4:=s2.trans s3
   show if decide (a=j)=true then _ else _
   by_cases ce:a=j
   ·rw[Uz (UH ce)]
    subst ce
    rw[UJ (U8 a)]at hv3
    refine⟨_,rfl,_,hv3,by rw[Vi];simp,@BS,λb u e=>lx (s4 b u e) @Xr (λx y z=>by rw[hv3]at z;cases z),?_⟩
    rw[aE,Uz (Nat.lt_succ_self a),VE];rfl
   ·rw[UJ (by simpa using ce)]
    refine⟨@BS,s4,?_⟩
    rw[hv3]
    by_cases c2:j<a
    ·rw[Uz c2,Uz (@B)]
    ·rw[UJ c2,UJ (@B)]
  ·rintro σ2 H2 ⟨_,s2,hv⟩
   refine⟨⟨_,hv⟩,?_⟩
   rw[Uz hj]at hv
   have hH:H D'=none:=sx.free hD
   refine o B G H2 σ _ (.ref D') (I.forget (sx.trans s2)) (@A6) ?_
   unfold RV
   rw[Uz rfl]
   exact⟨D',rfl,(I.fresh hH).1,(I.fresh hH).2.1,_,hv,.cons @Tp .nil⟩
def HG{T:Addr}(hT:@VH){n x y z:Str}{i k c16:Nat}{marks:Str->@If}{np hpos pos cp fp ap rp p1 p2 p3 p4 p5 zp lp:Pos}{scope:Scope}{body:@Dx}(M:Rz X.prog X.w X.K X.mg X.base Γ.ca x y marks)(hr:fo (k+2) X.A)(hb:∀Eb Ex pn H G,CI T G->@Dg->Dv @NJ @Fn Eb body m)
  (hN:X.N.Nodup) (hrg:@FR=none) (S:∀e,@Vf) (nd:([z,n]:@a).Nodup)
  (hlz:∀e C ex s3 H3 pn,(@BL).env.scope.names.lookup z=@Ae:=by intros;rfl)
  (hvn:∀e C ex s3 H3 pn,y7 (@BL).env.scope n:=by intros;exact @Eo)
  (hgy:∀e C ex s3 H3 pn,Gl (@BL) y:=by intros;rfl) (hgr:∀e,Gl @Jq "range":=by intros;rfl)
  (hst:X.stack=X.env::X.outer:=by rfl) (hfr:X.env.frame=@Lu:=by rfl) (hex:X.ex= []:=by rfl) (hg:Gl X x:=by rfl) (hi:X.N[i]? =some n:=by rfl) (hk:@Qy:=by exact @CG) (hf:X.fn n=true\/@KZ=@Ae:=by exact @Af)
  (hdb:@T:=by decide) (hdy:(y==("__debug__":Str))=false:=by decide) (hzd:(z==("__debug__":Str))=false:=by decide) (hzc:(z==("__classdict__":Str))=false:=by decide) (hnd:(n==("__debug__":Str))=false:=by decide) (hnc:(n==("__classdict__":Str))=false:=by decide) :
  @E5:=by
 obtain⟨gm,Dc,dm,W,h1,h2,h3,h4,h5,h6⟩:=M.ex
 exact EG (i:=i) hT hb h1 (λe=>(hr.mono (@B)).mark _) h2 h3 h4 h6 h5 hN hrg S (λe C ex s3 H3 pn=>dw (i:=0) nd rfl (Or.inl @NT) (hf:=Or.inr @NT)) (λe C ex s3 H3 pn p=>ju (i:=0) rfl (Or.inl @NT) hzd hzc) (λe C ex s3 H3 pn=>ju (i:=1) rfl (hvn e C ex s3 H3 pn) hnd hnc) hgy hgr hst hfr hex hg hi hk hf hdb hdy
end
end L2
namespace RM
open PySem L2
def tw(cw:@I):SF:=(bM (fV (ak cw (ae (gv 0) @EZ)) (ak cw (ae (gv 0) (ae (gv 2) @Ay)))))
def gu(bD oG:@I):SF:=(aI (ba 3 [1] (gv 1))
 (aI (dZ (.two 4 5) [2] (FN (gv 2))
 (aI (ba 6 ((([]++@V)++[])++[0,5]) (aM 1 [0,5] @BN (bB (EH (gv 2) @IR (λ_ β=>@FY))) (ie (ak oG (ae (gv 1) @G1))) (gv 0)))
 (aI (ba 7 ([0]++(([]++([5]++[]))++([6]++[]))) (ak bD @JX))
 (ji @V (dD @Gu)
 (ba 3 [7] (gv 7))
 lU))))
 (nK 3)))
def jP(bD b8:@I):SF:=(bM (ak bD (ae (gv 0) (ae @Hu (ae (ak b8 @Q) ag)))))
def lO(aB fj fC:@I):SF:=(aI (du ([0]++[]) @Jr)
 (aI (ba 1 (([0]++[])++[]) (f2 (f1 (ak fj @Q) cG) @H (vN λi j=>.int (if j>i then j else i))))
 (aI (ba 2 ([0]++[]) (f1 (ak fC @Q) cG))
 (aI (ji (@V++[]) (dD (f2 @Am @EN rW))
 (bM (aW @EZ))
 lU)
 (bM (aW (ae (gv 1) (ae (f2 (gv 2) (f2 @Am @Fi Mo) (vN λi j=>.int (if j<i then j else i))) ag))))))))
def lR(bX:@I):SF:=(bM (fV (ak bX @Q) @LQ))
def bY(aB:@I):SF:=(aI (du ([0]++[]) @Jr)
 (ji (@V++[]) (dD (f2 @Am @EN OY))
 (λenv β=>toS ((ae (cst (.str "the order has more than 4 things")) ag) @p β) λds _=>if ds.length<=sizeLine then .exc "TooMany"else .bad)
 lU))
def fk(bw lN:@I):SF:=(aI (du ([0]++[]) (ak bw @Q))
 (aI (ji ([1]++[]) (rP (ie (ak lN @Ay)))
 (λenv β=>toS ((ae (cst (.str "this is no number of rows from 1 to 4")) ag) @p β) λds _=>if ds.length<=sizeLine then @UL else .bad)
 lU)
 Qo))
def kL(gY j0:@I):SF:=(kT (aM 1 [0] @BN (dM (ak gY @Q)) iP (ak j0 @Ip)))
def eZ(cf rj:@I):SF:=(aI (ji @V (dD (f2 @Ex (gv 3) @A5))
 (bM (NJ (ie (ak rj @G1)) (gv 2) (cst .none)))
 lU)
 (aI (dZ @NI [1] @F8
 (aI (ba 5 ([0]++([1]++(([]++([4]++[]))++([3]++[])))) (ak cf (ae (gv 0) (ae (gv 1) (ae (f2 (gv 2) (bo @BP) jL) @BG)))))
 (ji [] (tN (gv 5) true)
 (nK 5)
 lU)))
 (bM (cst .none))))
def fq(bw cf gR lF:@I):SF:=(aI (du ([0]++[]) (ak bw @Q))
 (bM (ak cf (ae (gv 0) (ae (ak gR @Q) (ae @Hu (ae (ak lF @Q) ag)))))))
def gj(aX:List D->Int->FB):SF:=(aI (ba 1 ([]++([]++(([]++@V)++(([]++@V)++(([]++((([]++@V)++[])++[]))++(([]++((([]++@V)++(([]++@V)++[]))++[]))++(([]++((([]++@V)++(([]++@V)++[]))++[]))++(([]++@V)++[])))))))) (bo @o))
 (aI (ba 1 ([]++(([]++@V)++(([]++((([]++@V)++[])++[]))++(([]++((([]++@V)++[])++[]))++(([]++((([]++@V)++(([]++@V)++(([]++@V)++[])))++[]))++([]++(([]++([]++@V))++[]))))))) (f2 (gv 1) (bo @u) jL))
 (bM (f2 (gv 1) (pL 0 aX @V0) bE))))
def oa(marks:Str->@If)(fD e8 lM:@I):SF:=(aI (rN marks (ji @V @V6
 (du ([1]++([2]++[])) (ak fD @EZ))
 (ji @V @V5
 (du ([1]++[]) (ak e8 @Ay))
 (du ([1]++[]) (ak lM @Ay)))))
 (kT @Hu))
def CN(iW cB cF:@I)(fy aX bH c4:List D->Int->FB):SF:=(aI (dZ (.nm 1) ([]++@V) (dM (f2 @H (f2 @BH (cst (.int 6)) (vN λi j=>.int (if j<i then j else i))) (vN λi j=>.int (if j>i then j else i))))
 (aI (Di 2 ([0]++([1]++[])) (xg iW @Z))
 (aI (ba 3 @V (pL 2 fy (ae @EN ag)))
 (aI (ba 4 ([]++@V) (f2 @UK (pL 2 aX (ae @EN ag)) b7))
 (aI (ba 5 ([4]++(([4]++((@V++[])++[]))++[])) (aW (ae (gv 4) (ae (ak cB (ae (gv 4) (ae (bo (ae (pL 2 bH @XB) ag)) ag))) ag))))
 (aI (ba 6 [] (pL 2 c4 ag))
 (aI (ba 7 (([]++([]++(([]++@V)++([]++([]++([]++(@V++(@V++[]))))))))++@V) (f2 (bo (ae @M (ae @UK (ae (f2 @DU (pL 2 aX @W_) rR) @DK)))) (pL 2 aX (ae @Oc ag)) bE))
 (dZ (.nm 8) [] (dM @UJ)
 (aI (ji (([8]++([6]++([7]++[])))++@V) (dD (f2 (ak cF (ae (gv 8) (ae (gv 6) @Kz))) @FD @CV))
 @C2
 lU)
 (aI (ji (([8]++([5]++([7]++[])))++((@V++(@V++@V))++[])) (dD (f2 (ak cF @Sr) @V7 @CV))
 @C2
 lU)
 (ji (([8]++([3]++([7]++[])))++((@V++([]++@V))++[])) (dD (f2 (ak cF @Sq) @V8 @CV))
 @C2
 lU)))))))))))
 (bM (cst (@Bv))))
end RM
namespace RQ
open PySem L2 RM
section
variable {P:Program}{w:World}{K:Frag}{mg:@R}{base:Heap}{ca:Str->Addr}
def zI:aH @A1 @A1 (ao mz):=@A
def xA{f:Addr}{fd:FuncData}(F:fA K mg "is_whole" mz @A1 f fd)(B:gk mg):bP P w K mg base ca "is_whole" @A1 1 (aS 1 1 (ve)):=
 ⟨⟨f,fd,F.mg,F.F.kp,F.b,aR (N:=@A1) (k:=0) F.F zI λcdv A outer s H G E hr=>
  (aA (aV (ku (pP "int" @S rfl rfl B.isinstance rfl B.int (@O) (ai 0)) (ka (IX (pP "bool" @S rfl rfl B.isinstance rfl B.bool (@O) (ai 0)))) @J)))⟩,@g ⟩
def zy:aH @DC @DC (ao mT):=@A
def xM{f:Addr}{fd:FuncData}{bX:@I}(F:fA K mg "is_below" mT @DC f fd)(B:gk mg)(dG:@GR):bP P w K mg base ca "is_below" @DC 2 (aS 2 2 (tL bX)):=
 ⟨⟨f,fd,F.mg,F.F.kp,F.b,aR (N:=@DC) (k:=1) F.F zy λcdv A outer s H G E hr=>
  (aA (aV (ku @LN (ka (ui Ao va Ha Cq av (ai 0) (ai 1))) @J)))⟩,@g ⟩
def BW:aH @A1 @A1 (ao oy):=@A
def zb{f:Addr}{fd:FuncData}{bX:@I}(F:fA K mg "is_many" oy @A1 f fd)(B:gk mg)(dG:@GR){vD:Tok}(ly:mg "MOST_THINGS"=some (.int 8 vD)):bP P w K mg base ca "is_many" @A1 2 (aS 1 1 (wz bX)):=
 ⟨⟨f,fd,F.mg,F.F.kp,F.b,aR (N:=@A1) (k:=1) F.F BW λcdv A outer s H G E hr=>
  (aA (aV (ku @LN (ka (ui Ao Ao Ha Ha av (ai 0) (xV (by rfl) ly))) @J)))⟩,@g ⟩
def Cf:aH @Bg @Bg (ao oB):=@A
def zr{f:Addr}{fd:FuncData}{bL:@I}(F:fA K mg "is_pair" oB @Bg f fd)(B:gk mg)(dq:@GQ):bP P w K mg base ca "is_pair" @Bg 3 (aS 2 2 (oR bL)):=
 ⟨⟨f,fd,F.mg,F.F.kp,F.b,aR (N:=@Bg) (k:=2) F.F Cf λcdv A outer s H G E hr=>
  (ar (c8 @KT
  @EK
  cx)
  (aA (aV (ku @PN (ka @PN) @J))))⟩,@g ⟩
def Co:aH @Bg @Bg (ao oY):=@A
def zj{f:Addr}{fd:FuncData}{bL:@I}(F:fA K mg "is_line" oY @Bg f fd)(B:gk mg)(dq:@GQ):bP P w K mg base ca "is_line" @Bg 3 (aS 2 2 (o8 bL)):=
 ⟨⟨f,fd,F.mg,F.F.kp,F.b,aR (N:=@Bg) (k:=2) F.F Co λcdv A outer s H G E hr=>
  (ar (c8 (AQ.t (wO @Cb (rG (cn @EH iN @Aw (ai 1) (bI _))) @J))
  @EK
  cx)
  (aA (aV (ku (bc @L8 iI rfl B.all (@O) (cm (NB:=["one","many"]) (own:=1) (ixs:=[1]) [1] rfl @l @J @J_ (λH0 G0 par br bx C ex s3 H3 pn=>(cX (i:=0) (show(["one","many"]:@a).Nodup by decide +kernel))) (λH0 G0 par br bx C ex s3 H3 pn hB1=>cU) (λH0 G0 par br bx C ex s3 H3 pn hB1=>(aC dq @C jl rfl rfl @Bk)))) (ka (gN @B0 iN (DP rfl rfl rfl B.len rfl B.set (ai 0)) (ai 1) (bI _))) @J))))⟩,@g ⟩
def v7:aH @Fx @Fx (ao iA):=@A
def uA{f:Addr}{fd:FuncData}(F:fA K mg "every_pair" iA @Fx f fd)(B:gk mg):bP P w K mg base ca "every_pair" @Fx 1 (aS 1 1 (jT)):=
 ⟨⟨f,fd,F.mg,F.F.kp,F.b,aR (N:=@Fx) (k:=0) F.F v7 λcdv A outer s H G E hr=>
  (aA (kF (cm (NB:=@Lg) (own:=1) (ixs:=[0]) [] rfl @l @J (nh rfl B.range (bG nM pM (ai 0) (ai 0))) (λH0 G0 par br bx C ex s3 H3 pn=>(cX (i:=0) (show(@Lg:@a).Nodup by decide +kernel))) (λH0 G0 par br bx C ex s3 H3 pn hB1=>cU) (λH0 G0 par br bx C ex s3 H3 pn hB1=>(cP (af (bG tE OJ (ai 0) (ai 1)) (af (bG pF wC (ai 0) (ai 1)) ah)))))))⟩,@g ⟩
def AG:aH @Lh @Lh (ao mX):=@A
def xC{f:Addr}{fd:FuncData}(F:fA K mg "has_ring" mX @Lh f fd)(B:gk mg):bP P w K mg base ca "has_ring" @Lh 1 (aS 1 1 (uZ)):=
 ⟨⟨f,fd,F.mg,F.F.kp,F.b,aR (N:=@Lh) (k:=0) F.F AG λcdv A outer s H G E hr=>
  (aA (aV (bc (zQ rfl) iI rfl B.any (@O) (cm (NB:=["a","b"]) (own:=2) (ixs:=[]) [] rfl @l @J @J_ (λH0 G0 par br bx C ex s3 H3 pn=>(gL (i:=0) (j:=1) (show(["a","b"]:@a).Nodup by decide +kernel))) (λH0 G0 par br bx C ex s3 H3 pn hB1=>cU) (λH0 G0 par br bx C ex s3 H3 pn hB1=>(gN @B0 iN (ai 0) (ai 1) (bI _)))))))⟩,@g ⟩
def nY:aH @VZ @A1 (ao mj):=@A
def y1{f:Addr}{fd:FuncData}{jY jZ lH iX:@I}(F:fA K mg "is_order" mj @A1 f fd)(B:gk mg)(rg:bP P w K mg base ca "is_many" @A1 2 jY)(qS:bP P w K mg base ca "is_pair" @Bg 3 jZ)(uy:bP P w K mg base ca "closed" @Ek 3 lH)(pN:bP P w K mg base ca "has_ring" @Lh 1 iX):bP P w K mg base ca "is_order" @A1 4 (aS 3 1 (mH jY jZ lH iX)):=
 ⟨⟨f,fd,F.mg,F.F.kp,F.b,aR (N:=@VZ) (k:=3) F.F nY λcdv A outer s H G E hr=>
  (ar (c8 @KT
  @EK
  cx)
  (ar (aU (i:=1) @AP nY.nd)
  (ar (aU (i:=2) @AP nY.nd)
  (ar (c8 (AQ.t (wO (gO (cD rfl (aC rg @C aN rfl rfl @A9))) (rG (gO (cD rfl (pP "tuple" @S rfl rfl B.isinstance rfl B.tuple (@O) (ai 2))))) @J))
  @EK
  cx)
  (ar (c8 (gO (cD rfl (bc @L8 iI rfl B.all (@O) (cm (NB:=["pair","many"]) (own:=1) (ixs:=[1]) [1] rfl @l @J (jF rfl (ai 2)) (λH0 G0 par br bx C ex s3 H3 pn=>(cX (i:=0) (show(["pair","many"]:@a).Nodup by decide +kernel))) (λH0 G0 par br bx C ex s3 H3 pn hB1=>cU) (λH0 G0 par br bx C ex s3 H3 pn hB1=>(aC qS @C jl rfl rfl @Bk))))))
  @EK
  cx)
  (aA (aV (ku (gN @B0 iN (ai 2) (aC uy @C aN rfl rfl @NM) (bI _)) (ka (IX (aC pN @C aN rfl rfl @Ew))) @J))))))))⟩,@g ⟩
def wa:aH @A1 @A1 (ao jH):=@A
def tP{f:Addr}{fd:FuncData}{iQ:@I}(F:fA K mg "need_order" jH @A1 f fd)(B:gk mg)(pH:bP P w K mg base ca "is_order" @A1 4 iQ)(lD:@X_):bP P w K mg base ca "need_order" @A1 5 (aS 1 1 (iG iQ)):=
 ⟨⟨f,fd,F.mg,F.F.kp,F.b,aR (N:=@A1) (k:=4) F.F wa λcdv A outer s H G E hr=>
  (aA (c8 (gO (cD rfl (aC pH @C aN rfl rfl @s)))
  (aA (qj lD.ex lD.ca rfl lD.mg (af kh ah)))
  cx))⟩,@g ⟩
def yW:aH @Bd @Bd (ao kJ):=@A
def we{f:Addr}{fd:FuncData}(F:fA K mg "are_apart" kJ @Bd f fd)(B:gk mg):bP P w K mg base ca "are_apart" @Bd 1 (aS 3 3 (rQ)):=
 ⟨⟨f,fd,F.mg,F.F.kp,F.b,aR (N:=@Bd) (k:=0) F.F yW λcdv A outer s H G E hr=>
  (aA (aV (ku (gN @EH iN (ai 1) (ai 2) (bI _)) (ku (gN @U8 zf (cP @NM) @AP (by with_unfolding_all rfl)) (ka (gN @U8 zf (cP (af @B5 @A9)) @AP (by with_unfolding_all rfl))) @J) @J)))⟩,@g ⟩
def rh:aH @Q8 @TS (ao qH):=@A
def BV{f:Addr}{fd:FuncData}(F:fA K mg "places" qH @TS f fd)(B:gk mg):bP P w K mg base ca "places" @TS 1 (aS 4 1 (p0)):=
 ⟨⟨f,fd,F.mg,F.F.kp,F.b,aR (N:=@Q8) (k:=0) F.F rh λcdv A outer s H G E hr=>
  (ar (gE (i:=1) (xT @N6 @Aw) rh.nd)
  (ar (gG PassesOwn.leaving rfl (NF rfl rfl B.enumerate @B4) (gL (i:=2) (j:=3) rh.nd)
  (aA (yZ 1 (λ_=>rfl) @B5 (ai 3))))
  (aA (kN 1))))⟩,@g ⟩
def og:aH @Uc @Aa (ao i9):=@A
def su{f:Addr}{fd:FuncData}{j5 eH:@I}(F:fA K mg "keeps_order" i9 @Aa f fd)(B:gk mg)(rl:bP P w K mg base ca "is_line" @Bg 3 j5)(lI:@My):bP P w K mg base ca "keeps_order" @Aa 4 (aS 3 2 (jg j5 eH)):=
 ⟨⟨f,fd,F.mg,F.F.kp,F.b,aR (N:=@Uc) (k:=3) F.F og λcdv A outer s H G E hr=>
  (ar (c8 (gO (cD rfl (aC rl @C aN rfl rfl (af @B4 (af @Ah ah)))))
  @EK
  cx)
  (ar (aU (i:=2) (aC lI @C aN rfl rfl @s) og.nd)
  (aA (aV (bc @L8 iI rfl B.all (@O) (cm (NB:=["a","b","place"]) (own:=2) (ixs:=[2]) [] rfl @l @J (jF rfl @Ah) (λH0 G0 par br bx C ex s3 H3 pn=>(gL (i:=0) (j:=1) (show(["a","b","place"]:@a).Nodup by decide +kernel))) (λH0 G0 par br bx C ex s3 H3 pn hB1=>cU) (λH0 G0 par br bx C ex s3 H3 pn hB1=>(gN va Cq (aY aL bJ (ai 2) (ai 0) @J) (aY aL bJ (ai 2) (ai 1) @J) (bI _)))))))))⟩,@g ⟩
def wq:aH @Er @Er (ao jI):=@A
def u3{f:Addr}{fd:FuncData}(F:fA K mg "with_thing" jI @Er f fd)(B:gk mg):bP P w K mg base ca "with_thing" @Er 1 (aS 2 2 (jB)):=
 ⟨⟨f,fd,F.mg,F.F.kp,F.b,aR (N:=@Er) (k:=0) F.F wq λcdv A outer s H G E hr=>
  (aA (aV (bG My PH (ai 0) (bG IV Mm av (ai 1)))))⟩,@g ⟩
def kn:aH @NB @IB (ao je):=@A
def sh{f:Addr}{fd:FuncData}{az:@I}(F:fA K mg "free_things" je @IB f fd)(B:gk mg)(aP:@AC):bP P w K mg base ca "free_things" @IB 2 (aS 5 2 (ja az)):=
 ⟨⟨f,fd,F.mg,F.F.kp,F.b,aR (N:=@NB) (k:=1) F.F kn λcdv A outer s H G E hr=>
  (ar (gE (i:=2) @Oy kn.nd)
  (ar (gG PassesOwn.leaving rfl @SJ (gL (i:=3) (j:=4) kn.nd)
  (aA (c8 (AQ.t (Ja (cn @EH iN (aC aP @C aN rfl rfl (af @Di @J7)) (ai 1) (bI _)) (Du (cn @B0 iN (bG Nt Qa (ai 1) (ai 4)) (ai 4) (bI _))) @J))
  (aA (jX 2 (λ_=>rfl) @ER))
  cx)))
  (aA (kN 2))))⟩,@g ⟩
def mV:aH @QP @TQ (ao o9):=@A
def zU{f:Addr}{fd:FuncData}{a9 az:@I}(F:fA K mg "ways_on" o9 @TQ f fd)(B:gk mg)(cA:@Dz)(aP:@AC):bP P w K mg base ca "ways_on" @TQ 3 (aS 4 1 (oF a9 az)):=
 ⟨⟨f,fd,F.mg,F.F.kp,F.b,aR (N:=@QP) (k:=2) F.F mV λcdv A outer s H G E hr=>
  (ar (aU (i:=1) (bG yk Ct (bG IV Mm av @Aw) av) mV.nd)
  (ar (gE (i:=2) (bG jG qK (xT @N6 (ai 1)) @N6) mV.nd)
  (ar (gG PassesOwn.leaving rfl (O8 rfl B.range (bG yk Ct (ai 1) av) @Hv @Hv) (cX (i:=3) mV.nd)
  (aA (yZ 2 (λ_=>rfl) (bc (HN rfl) Pu rfl B.sum (@O) (cm (NB:=@Ud) (own:=1) (ixs:=[2,3]) [3] rfl @l @J (jF rfl @PM) (λH0 G0 par br bx C ex s3 H3 pn=>(cX (i:=0) (show(@Ud:@a).Nodup by decide +kernel))) (λH0 G0 par br bx C ex s3 H3 pn hB1=>cU) (λH0 G0 par br bx C ex s3 H3 pn hB1=>(aY aL bJ (ai 1) (aC aP @C jl rfl rfl (af @FC @J6)) @J)))) (ai 3))))
  (aA (kN 2)))))⟩,@g ⟩
def kq:aH @Ub @j (ao jf):=@A
def sr{f:Addr}{fd:FuncData}{az:@I}(F:fA K mg "masks_ahead" jf @j f fd)(B:gk mg)(aP:@AC):bP P w K mg base ca "masks_ahead" @j 2 (aS 4 1 (jb az)):=
 ⟨⟨f,fd,F.mg,F.F.kp,F.b,aR (N:=@Ub) (k:=1) F.F kq λcdv A outer s H G E hr=>
  (ar (gE (i:=1) (xT @N6 @AP) kq.nd)
  (ar (gG PassesOwn.leaving rfl (Ow rfl @AP) (gL (i:=2) (j:=3) kq.nd)
  (aA (yZ 1 (λ_=>rfl) (aC aP @C aN rfl rfl (af (aY aL bJ (ai 1) (ai 3) @J) @Ew)) (ai 3))))
  (aA (kN 1))))⟩,@g ⟩
def yD:aH @j @j (ao kP):=@A
def vF{f:Addr}{fd:FuncData}{aB cT a8:@I}(F:fA K mg "rows_many" kP @j f fd)(B:gk mg)(bg:@AW)(j4:@L1)(cz:@Fq):bP P w K mg base ca "rows_many" @j 6 (aS 1 1 (kK aB cT a8)):=
 ⟨⟨f,fd,F.mg,F.F.kp,F.b,aR (N:=@j) (k:=5) F.F yD λcdv A outer s H G E hr=>
  (ar @CC
  (aA (aV (aY aL bJ (aC j4 @C aN rfl rfl (af @LM ah)) av @J))))⟩,@g ⟩
def lK:aH @L0 @CU (ao qE):=@A
def BD{f:Addr}{fd:FuncData}{a9 az:@I}(F:fA K mg "choose" qE @CU f fd)(B:gk mg)(cA:@Dz)(aP:@AC):bP P w K mg base ca "choose" @CU 3 (aS 6 4 (qA a9 az)):=
 ⟨⟨f,fd,F.mg,F.F.kp,F.b,aR (N:=@L0) (k:=2) F.F lK λcdv A outer s H G E hr=>
  (ar (aU (i:=4) (aC cA @C aN rfl rfl (af @B4 @Ew)) lK.nd)
  (ar (aU (i:=5) av lK.nd)
  (ar (lQ 1000 PassesOwn.leaving (cn Qx SH (ai 3) @FA (bI _))
  (ar (aU (i:=3) (bG yk Ct (ai 3) @FA) lK.nd)
  (aA (aU (i:=5) @OM lK.nd))))
  (aA (aV (cP (af (aY aL bJ (ai 4) (ai 5) @J) @J7)))))))⟩,@g ⟩
def df:aH @Gx @Fz (ao ou):=@A
def Am{f:Addr}{fd:FuncData}{aB a8 cT bL lT az:@I}(F:fA K mg "nth_row" ou @Fz f fd)(B:gk mg)(bg:@AW)(cz:@Fq)(j4:@L1)(dq:@GQ)(tJ:bP P w K mg base ca "choose" @CU 3 lT)(aP:@AC)(dg:@Ms):bP P w K mg base ca "nth_row" @Fz 6 (aS 9 2 (oX aB a8 cT bL lT az)):=
 ⟨⟨f,fd,F.mg,F.F.kp,F.b,aR (N:=@Gx) (k:=5) F.F df λcdv A outer s H G E hr=>
  (ar @CC
  (ar (aU (i:=2) @LM df.nd)
  (ar (aU (i:=3) (aC j4 @C aN rfl rfl @Ew) df.nd)
  (ar (c8 (gO (cD rfl (aC dq @C aN rfl rfl (af @Di (af (aY aL bJ (ai 3) av @J) ah)))))
  @MU
  cx)
  (ar (gE (i:=4) @Oy df.nd)
  (ar (aU (i:=5) av df.nd)
  (ar (aU (i:=6) @Di df.nd)
  (ar (gG PassesOwn.leaving rfl (nh rfl B.range @AP) (cX (i:=7) df.nd)
  (ar (aU (i:=8) (aC tJ @C aN rfl rfl (af @B5 (af @ER (af @N5 (af @Qd ah))))) df.nd)
  (ar (jX 4 (λ_=>rfl) @L6)
  (ar (aU (i:=5) (aC aP @C aN rfl rfl (af @N5 (af @L6 ah))) df.nd)
  (aA (aU (i:=6) @L6 df.nd))))))
  (aA (aV (j7 dh oA rfl B.tuple (@O) (ai 4))))))))))))⟩,@g ⟩
def fB:aH @LH @HI (ao kG):=@A
def wj{f:Addr}{fd:FuncData}{a9 az:@I}(F:fA K mg "row_along" kG @HI f fd)(B:gk mg)(cA:@Dz)(aP:@AC):bP P w K mg base ca "row_along" @HI 3 (aS 6 2 (kM a9 az)):=
 ⟨⟨f,fd,F.mg,F.F.kp,F.b,aR (N:=@LH) (k:=2) F.F fB λcdv A outer s H G E hr=>
  (ar (gE (i:=2) @Oy fB.nd)
  (ar (aU (i:=3) av fB.nd)
  (ar (lQ 1000 PassesOwn.leaving (cn va Cq @FO @Aw (bI _))
  (ar (aU (i:=4) @PM fB.nd)
  (ar (oz (i:=5) (NB:=["thing","late"]) (own:=1) (ixs:=[1]) [] rfl @l @J @S0 (λH0 G0 par br bx C ex s3 H3 pn=>(cX (i:=0) (show(["thing","late"]:@a).Nodup by decide +kernel))) (λH0 G0 par br bx C ex s3 H3 pn hB1=>(gA (cn @U8 zf (ai 0) (ai 1) (by with_unfolding_all rfl)))) (λH0 G0 par br bx C ex s3 H3 pn hB1=>@AV) fB.nd)
  (ar (jX 2 (λ_=>rfl) (aY aL bJ (bG jG qK (ai 5) (ai 4)) av @J))
  (aA (aU (i:=3) (aC aP @C aN rfl rfl (af @ER (af (aY aL bJ (ai 2) @Hv @J) ah))) fB.nd))))))
  @Ly)))⟩,@g ⟩
def so:aH @D4 @D4 (ao iB):=@A
def rF{f:Addr}{fd:FuncData}(F:fA K mg "stands_ahead" iB @D4 f fd)(B:gk mg):bP P w K mg base ca "stands_ahead" @D4 1 (aS 3 3 (iF)):=
 ⟨⟨f,fd,F.mg,F.F.kp,F.b,aR (N:=@D4) (k:=0) F.F so λcdv A outer s H G E hr=>
  (aA (aV (bc @L8 iI rfl B.all (@O) (cm (NB:=["place","a","b"]) (own:=1) (ixs:=[1,2]) [] rfl @l @J @J_ (λH0 G0 par br bx C ex s3 H3 pn=>(cX (i:=0) (show(["place","a","b"]:@a).Nodup by decide +kernel))) (λH0 G0 par br bx C ex s3 H3 pn hB1=>cU) (λH0 G0 par br bx C ex s3 H3 pn hB1=>(gN va Cq @Sk @J4 (bI _)))))))⟩,@g ⟩
def ng:aH @VW @CY (ao iK):=@A
def qR{f:Addr}{fd:FuncData}{eH cg dA:@I}(F:fA K mg "shared_pairs" iK @CY f fd)(B:gk mg)(lI:@My)(fg:@Mx)(kz:bP P w K mg base ca "stands_ahead" @D4 1 dA):bP P w K mg base ca "shared_pairs" @CY 2 (aS 3 2 (iJ eH cg dA)):=
 ⟨⟨f,fd,F.mg,F.F.kp,F.b,aR (N:=@VW) (k:=1) F.F ng λcdv A outer s H G E hr=>
  (ar (aU (i:=2) (SE.wv (cm (NB:=@TS) (own:=1) (ixs:=[]) [] rfl @l @J @NU (λH0 G0 par br bx C ex s3 H3 pn=>(cX (i:=0) (show(@TS:@a).Nodup by decide +kernel))) (λH0 G0 par br bx C ex s3 H3 pn hB1=>cU) (λH0 G0 par br bx C ex s3 H3 pn hB1=>(aC lI @C jl rfl rfl @J6)))) ng.nd)
  (aA (aV (j7 dh oA rfl B.tuple (@O) (cm (NB:=["a","b","tables"]) (own:=2) (ixs:=[2]) [2] rfl @l @J (jF rfl (aC fg @C aN rfl rfl @s)) (λH0 G0 par br bx C ex s3 H3 pn=>(gL (i:=0) (j:=1) (show(["a","b","tables"]:@a).Nodup by decide +kernel))) (λH0 G0 par br bx C ex s3 H3 pn hB2=>(gA (cD rfl (aC kz @C jl rfl rfl (af (aj 2 (hB2 2 @S)) @Kd))))) (λH0 G0 par br bx C ex s3 H3 pn hB2=>(cP @Kd)))))))⟩,@g ⟩
def zF:aH @Aa @Aa (ao mh):=@A
def yH{f:Addr}{fd:FuncData}{cR:@I}(F:fA K mg "are_rows" mh @Aa f fd)(B:gk mg)(lb:bP P w K mg base ca "keeps_order" @Aa 4 cR):bP P w K mg base ca "are_rows" @Aa 5 (aS 2 2 (lX cR)):=
 ⟨⟨f,fd,F.mg,F.F.kp,F.b,aR (N:=@Aa) (k:=4) F.F zF λcdv A outer s H G E hr=>
  (ar (c8 (AQ.t (wO (gO (cD rfl (pP "list" @S rfl rfl B.isinstance rfl B.list (@O) (ai 0)))) (rG (cn @B0 iN @Aw av (bI _))) @J))
  @EK
  cx)
  (aA (aV (bc @L8 iI rfl B.all (@O) (cm (NB:=["row","order"]) (own:=1) (ixs:=[1]) [1] rfl @l @J @J_ (λH0 G0 par br bx C ex s3 H3 pn=>(cX (i:=0) (show(["row","order"]:@a).Nodup by decide +kernel))) (λH0 G0 par br bx C ex s3 H3 pn hB1=>cU) (λH0 G0 par br bx C ex s3 H3 pn hB1=>(aC lb @C jl rfl rfl @Bk)))))))⟩,@g ⟩
def Jt:aH @Aa @Aa (ao yC):=@A
def G7{f:Addr}{fd:FuncData}{aB iU dC:@I}(F:fA K mg "tell" yC @Aa f fd)(B:gk mg)(bg:@AW)(pR:bP P w K mg base ca "are_rows" @Aa 5 iU)(kc:bP P w K mg base ca "shared_pairs" @CY 2 dC):bP P w K mg base ca "tell" @Aa 6 (aS 2 2 (BQ aB iU dC)):=
 ⟨⟨f,fd,F.mg,F.F.kp,F.b,aR (N:=@Aa) (k:=5) F.F Jt λcdv A outer s H G E hr=>
  (ar (fu (aC bg @C aN rfl rfl @A9))
  (aA (aV (ku (aC pR @C aN rfl rfl @NL) (ka (gN @B0 iN (aC kc @C aN rfl rfl (af @Ah @s)) @Ah (bI _))) @J))))⟩,@g ⟩
def fE:aH @Mc @Fy (ao gq):=@A
def ql{f:Addr}{fd:FuncData}{cH:@I}(F:fA K mg "longer_groups" gq @Fy f fd)(B:gk mg)(gZ:@ND):bP P w K mg base ca "longer_groups" @Fy 2 (aS 5 2 (gz cH)):=
 ⟨⟨f,fd,F.mg,F.F.kp,F.b,aR (N:=@Mc) (k:=1) F.F fE λcdv A outer s H G E hr=>
  (ar (gE (i:=2) @Oy fE.nd)
  (ar (gG PassesOwn.leaving rfl (Ow rfl @Di) (cX (i:=3) fE.nd)
  (aA (gG PassesOwn.leaving rfl (O7 rfl B.range (bG ij iD (aY aL bJ (ai 3) @Hv @J) av) @AP) (cX (i:=4) fE.nd)
  (aA (c8 (cD rfl (bc @L8 iI rfl B.all (@O) (cm (NB:=@Wa) (own:=1) (ixs:=[0,4]) [0,4] rfl @l @J @Sz (λH0 G0 par br bx C ex s3 H3 pn=>(cX (i:=0) (show(@Wa:@a).Nodup by decide +kernel))) (λH0 G0 par br bx C ex s3 H3 pn hB1=>cU) (λH0 G0 par br bx C ex s3 H3 pn hB1=>(aC gZ @C jl rfl rfl (af @LO (af @AV (af @FC ah))))))))
  (aA (jX 2 (λ_=>rfl) (SE.wv (bG jG qK (ai 3) (bF @D1)))))
  cx)))))
  (aA (kN 2))))⟩,@g ⟩
def fX:aH @TR @j (ao jJ):=@A
def uU{f:Addr}{fd:FuncData}{aB c5:@I}(F:fA K mg "most_apart" jJ @j f fd)(B:gk mg)(bg:@AW)(js:bP P w K mg base ca "longer_groups" @Fy 2 c5):bP P w K mg base ca "most_apart" @j 6 (aS 3 1 (jU aB c5)):=
 ⟨⟨f,fd,F.mg,F.F.kp,F.b,aR (N:=@TR) (k:=5) F.F fX λcdv A outer s H G E hr=>
  (ar @CC
  (ar (oz (i:=1) (NB:=@A1) (own:=1) (ixs:=[]) [] rfl @l @J (nh rfl B.range @AP) (λH0 G0 par br bx C ex s3 H3 pn=>(cX (i:=0) (show(@A1:@a).Nodup by decide +kernel))) (λH0 G0 par br bx C ex s3 H3 pn hB1=>cU) (λH0 G0 par br bx C ex s3 H3 pn hB1=>(SE.wv (bF @J6))) fX.nd)
  (ar (aU (i:=2) @Di fX.nd)
  (ar (lQ 1000 PassesOwn.leaving (cD rfl (ai 2))
  (ar (aU (i:=1) @B5 fX.nd)
  (aA (aU (i:=2) (aC js @C aN rfl rfl @NL) fX.nd))))
  (aA (aV @Ah))))))⟩,@g ⟩
def HC:aH @j @j (ao sM):=@A
def Ew{f:Addr}{fd:FuncData}{aB cg cH:@I}(F:fA K mg "turns" sM @j f fd)(B:gk mg)(bg:@AW)(fg:@Mx)(gZ:@ND):bP P w K mg base ca "turns" @j 6 (aS 1 1 (sW aB cg cH)):=
 ⟨⟨f,fd,F.mg,F.F.kp,F.b,aR (N:=@j) (k:=5) F.F HC λcdv A outer s H G E hr=>
  (ar @CC
  (aA (kF (cm (NB:=@Lf) (own:=2) (ixs:=[0]) [0] rfl @l @J (jF rfl (aC fg @C aN rfl rfl (af @AP ah))) (λH0 G0 par br bx C ex s3 H3 pn=>(gL (i:=0) (j:=1) (show(@Lf:@a).Nodup by decide +kernel))) (λH0 G0 par br bx C ex s3 H3 pn hB1=>(gA (cD rfl (aC gZ @C jl rfl rfl (af @FC @Bk))))) (λH0 G0 par br bx C ex s3 H3 pn hB1=>(cP @Bk))))))⟩,@g ⟩
def rX:aH @UZ @Bd (ao mM):=@A
def xF{f:Addr}{fd:FuncData}(F:fA K mg "is_sharp" mM @Bd f fd)(B:gk mg):bP P w K mg base ca "is_sharp" @Bd 1 (aS 4 3 (lY)):=
 ⟨⟨f,fd,F.mg,F.F.kp,F.b,aR (N:=@UZ) (k:=0) F.F rX λcdv A outer s H G E hr=>
  (ar (aU (i:=3) @AP rX.nd)
  (ar (c8 (gO (cD rfl (bc @L8 iI rfl B.all (@O) (cm (NB:=@Q6) (own:=2) (ixs:=[1,2,3]) [2] rfl @l @J @Sz (λH0 G0 par br bx C ex s3 H3 pn=>(gL (i:=0) (j:=1) (show(@Q6:@a).Nodup by decide +kernel))) (λH0 G0 par br bx C ex s3 H3 pn hB1=>(gA (cn @B0 iN (ai 1) (ai 2) (bI _)))) (λH0 G0 par br bx C ex s3 H3 pn hB1=>(gN @VB zf (cP (af @AV (af (aj 3 (hB1 3 @S)) ah))) (ai 4) (by with_unfolding_all rfl)))))))
  @EK
  cx)
  (aA (aV (bc @L8 iI rfl B.all (@O) (cm (NB:=@Q7) (own:=2) (ixs:=[2,1,3]) [1] rfl @l @J @Sz (λH0 G0 par br bx C ex s3 H3 pn=>(gL (i:=0) (j:=1) (show(@Q7:@a).Nodup by decide +kernel))) (λH0 G0 par br bx C ex s3 H3 pn hB2=>(gA (cn @B0 iN (ai 0) (ai 2) (bI _)))) (λH0 G0 par br bx C ex s3 H3 pn hB2=>(gN @VB zf (cP (af (aj 3 (hB2 3 @S)) (af (aj 1 (hB2 1 @S)) ah))) (ai 4) (by with_unfolding_all rfl)))))))))⟩,@g ⟩
def tW:aH @j @j (ao jc):=@A
def sD{f:Addr}{fd:FuncData}{o3 iY:@I}(F:fA K mg "sharp_turns" jc @j f fd)(B:gk mg)(yz:bP P w K mg base ca "turns" @j 6 o3)(pG:bP P w K mg base ca "is_sharp" @Bd 1 iY):bP P w K mg base ca "sharp_turns" @j 7 (aS 1 1 (pj o3 iY)):=
 ⟨⟨f,fd,F.mg,F.F.kp,F.b,aR (N:=@j) (k:=6) F.F tW λcdv A outer s H G E hr=>
  (aA (kF (cm (NB:=@Lf) (own:=2) (ixs:=[0]) [0] rfl @l @J (jF rfl (aC yz @C aN rfl rfl @s)) (λH0 G0 par br bx C ex s3 H3 pn=>(gL (i:=0) (j:=1) (show(@Lf:@a).Nodup by decide +kernel))) (λH0 G0 par br bx C ex s3 H3 pn hB1=>(gA (cD rfl (aC pG @C jl rfl rfl (af @FC @Bk))))) (λH0 G0 par br bx C ex s3 H3 pn hB1=>(cP @Bk)))))⟩,@g ⟩
def Ag:aH @AM @AM (ao l9):=@A
def yA{f:Addr}{fd:FuncData}(F:fA K mg "leads_on" l9 @AM f fd)(B:gk mg):bP P w K mg base ca "leads_on" @AM 1 (aS 3 3 (mB)):=
 ⟨⟨f,fd,F.mg,F.F.kp,F.b,aR (N:=@AM) (k:=0) F.F Ag λcdv A outer s H G E hr=>
  (aA (aV (Rg (gN @B0 iN @Ah @Ht (bI _)) (ka (gN @VB zf (cP (af @Ah (af @Ht ah))) @AP (by with_unfolding_all rfl))) @J)))⟩,@g ⟩
def Aq:aH @DB @DB (ao mO):=@A
def xZ{f:Addr}{fd:FuncData}{az:@I}(F:fA K mg "is_ahead" mO @DB f fd)(B:gk mg)(aP:@AC):bP P w K mg base ca "is_ahead" @DB 2 (aS 3 3 (mw az)):=
 ⟨⟨f,fd,F.mg,F.F.kp,F.b,aR (N:=@DB) (k:=1) F.F Aq λcdv A outer s H G E hr=>
  (aA (aV (gN @B0 iN (aC aP @C aN rfl rfl (af @J4 @A9)) @J4 (bI _))))⟩,@g ⟩
def xK:aH @Ag @Ag (ao kC):=@A
def vE{f:Addr}{fd:FuncData}{bS:@I}(F:fA K mg "is_turned" kC @Ag f fd)(B:gk mg)(dF:@GP):bP P w K mg base ca "is_turned" @Ag 3 (aS 2 2 (k7 bS)):=
 ⟨⟨f,fd,F.mg,F.F.kp,F.b,aR (N:=@Ag) (k:=2) F.F xK λcdv A outer s H G E hr=>
  @IW ⟩,@g ⟩
def yq:aH @Ag @Ag (ao kO):=@A
def vA{f:Addr}{fd:FuncData}{bS:@I}(F:fA K mg "is_barred" kO @Ag f fd)(B:gk mg)(dF:@GP):bP P w K mg base ca "is_barred" @Ag 3 (aS 2 2 (kZ bS)):=
 ⟨⟨f,fd,F.mg,F.F.kp,F.b,aR (N:=@Ag) (k:=2) F.F yq λcdv A outer s H G E hr=>
  @IW ⟩,@g ⟩
def nz:aH @Rc @Ag (ao ml):=@A
def xP{f:Addr}{fd:FuncData}{bS az:@I}(F:fA K mg "put_turn" ml @Ag f fd)(B:gk mg)(dF:@GP)(aP:@AC):bP P w K mg base ca "put_turn" @Ag 3 (aS 4 2 (mU bS az)):=
 ⟨⟨f,fd,F.mg,F.F.kp,F.b,aR (N:=@Rc) (k:=2) F.F nz λcdv A outer s H G E hr=>
  (ar (aU (i:=2) (SE.wv (cm (NB:=@Va) (own:=1) (ixs:=[1,0]) [0] rfl @l @J (nh rfl B.range @Aw) (λH0 G0 par br bx C ex s3 H3 pn=>(cX (i:=0) (show(@Va:@a).Nodup by decide +kernel))) (λH0 G0 par br bx C ex s3 H3 pn hB1=>(gA (AQ.t (wO (cn @B0 iN (ai 0) @Ah (bI _)) (rG (cD rfl (aC dF @C jl rfl rfl (af @FC (af @Ah @J6))))) (λi hi=>hB1 i (by revert i hi;decide)))))) (λH0 G0 par br bx C ex s3 H3 pn hB1=>@AV))) nz.nd)
  (ar (aU (i:=3) (aC aP @C aN rfl rfl (af (aY aL bJ (ai 0) @Ah @J) (af @Ah ah))) nz.nd)
  (aA (kF (cm (NB:=@Re) (own:=2) (ixs:=[2,3]) [] rfl @l @J (SI.vb @SJ) (λH0 G0 par br bx C ex s3 H3 pn=>(gL (i:=0) (j:=1) (show(@Re:@a).Nodup by decide +kernel))) (λH0 G0 par br bx C ex s3 H3 pn hB2=>cU) (λH0 G0 par br bx C ex s3 H3 pn hB2=>(L3 (cn @VB zf (ai 0) (ai 2) (by with_unfolding_all rfl)) (bG My PH (ai 1) (ai 3)) (aj 1 (hB2 1 @S)) (λi hi=>hB2 i (by revert i hi;decide)))))))))⟩,@g ⟩
def dI:aH @KQ @Eh (ao kX):=@A
def wx{f:Addr}{fd:FuncData}{cw:@I}(F:fA K mg "ring_with" kX @Eh f fd)(B:gk mg)(eV:@Nq):bP P w K mg base ca "ring_with" @Eh 2 (aS 7 3 (kW cw)):=
 ⟨⟨f,fd,F.mg,F.F.kp,F.b,aR (N:=@KQ) (k:=1) F.F dI λcdv A outer s H G E hr=>
  (ar (gE (i:=3) (bF (af (SE.wv (bF @Ew)) ah)) dI.nd)
  (ar (aU (i:=4) @Di dI.nd)
  (ar (aU (i:=5) av dI.nd)
  (ar (lQ 1000 PassesOwn.leaving (gO (cD rfl (aC eV @C aN rfl rfl (af @B4 (af (aY aL bJ @Sl @Hv @J) @Ew)))))
  (ar (aU (i:=6) (SE.wv (cm (NB:=@Rd) (own:=1) (ixs:=[0,3,5]) [0] rfl @l @J @S0 (λH0 G0 par br bx C ex s3 H3 pn=>(cX (i:=0) (show(@Rd:@a).Nodup by decide +kernel))) (λH0 G0 par br bx C ex s3 H3 pn hB1=>(gA (cD rfl (aC eV @C jl rfl rfl (af @LO (af (aY aL bJ @J5 @Hv @J) @J6)))))) (λH0 G0 par br bx C ex s3 H3 pn hB1=>@AV))) dI.nd)
  (ar (oz (i:=4) (NB:=["other","fresh"]) (own:=1) (ixs:=[6]) [] rfl @l @J @S0 (λH0 G0 par br bx C ex s3 H3 pn=>(cX (i:=0) (show(["other","fresh"]:@a).Nodup by decide +kernel))) (λH0 G0 par br bx C ex s3 H3 pn hB2=>(gA (cn @U8 zf (ai 0) (ai 1) (by with_unfolding_all rfl)))) (λH0 G0 par br bx C ex s3 H3 pn hB2=>(aj 0 (hB2 0 @S))) dI.nd)
  (ar (EA 3 (λ_=>rfl) (cm (NB:=@XS) (own:=1) (ixs:=[3,5]) [] rfl @l @J (jF rfl (ai 6)) (λH0 G0 par br bx C ex s3 H3 pn=>(cX (i:=0) (show(@XS:@a).Nodup by decide +kernel))) (λH0 G0 par br bx C ex s3 H3 pn hB3=>cU) (λH0 G0 par br bx C ex s3 H3 pn hB3=>(SE.wv (bG jG qK (aY aL bJ (ai 1) (ai 2) @J) (bF (af (aj 0 (hB3 0 @S)) ah)))))))
  (aA (aU (i:=5) @OM dI.nd))))))
  (aA (aV @Sl))))))⟩,@g ⟩
def pI:aH @Jm @Bq (ao oV):=@A
def AA{T:Addr}{f:Addr}{fd:FuncData}{cJ cC h9 i8:@I}{k:Nat}(hk:6<=k)(F:fA K mg "case_of" oV @Bq f fd)(B:gk mg)(ky:mG T P w K mg base ca "cases_on" @DP k cJ)(g7:@NE)(om:bP P w K mg base ca "ring_with" @Eh 2 h9)(pS:bP P w K mg base ca "put_turn" @Ag 3 i8):mG T P w K mg base ca "case_of" @Bq (k+1) (aS 7 5 (j3 cJ cC h9 i8)):=
 ⟨⟨f,fd,F.mg,F.F.kp,F.b,jj (N:=@Jm) (k:=k) F.F pI λcdv A outer s H G E hcd hT hr=>
  (ar (aU (i:=5) (aY aL bJ @J5 av @J) pI.nd)
  (ar (aU (i:=6) (aY aL bJ @J5 av @J) pI.nd)
  (ar (c8 (cD rfl (aC g7 @DL aN rfl rfl (af @N5 @D1)))
  (aA (aV (cP (af kh (af @ER (af (aC om @DL aN rfl rfl (af @B4 (af @Qd @D1))) ah))))))
  cx)
  (aA (aV (eJ hT ky @DL aN rfl rfl (af @B4 (af @Di (af (SE.wv (bG jG qK (bG jG qK (uS rfl (ai 2) yU (xQ (ai 3))) (bF (af (cP (af (aC pS @DL aN rfl rfl (af @N5 @D1)) (af (bG FA OE (ai 6) (cP @D1)) ah))) ah))) (uS rfl (ai 2) (xQ (bG ij iD (ai 3) av)) yU))) ah)))))))))⟩,@g ⟩
def yR:aH @FI @FI (ao kI):=@A
def wo{f:Addr}{fd:FuncData}{cC:@I}(F:fA K mg "free_rows" kI @FI f fd)(B:gk mg)(g7:@NE):bP P w K mg base ca "free_rows" @FI 4 (aS 2 2 (k9 cC)):=
 ⟨⟨f,fd,F.mg,F.F.kp,F.b,aR (N:=@FI) (k:=3) F.F yR λcdv A outer s H G E hr=>
  (aA (aV (bc cc fZ rfl B.len Vh (cm (NB:=@IU) (own:=2) (ixs:=[1]) [1] rfl @l @J @J_ (λH0 G0 par br bx C ex s3 H3 pn=>(gL (i:=0) (j:=1) (show(@IU:@a).Nodup by decide +kernel))) (λH0 G0 par br bx C ex s3 H3 pn hB1=>(gA (gO (cD rfl (aC g7 @C jl rfl rfl (af @AV (af @FC ah))))))) (λH0 G0 par br bx C ex s3 H3 pn hB1=>@AV)))))⟩,@g ⟩
def hW:aH @Hn @DP (ao mF):=@A
def x6{T:Addr}{f:Addr}{fd:FuncData}{jW gX ia hZ:@I}{k:Nat}(hk:7<=k)(F:fA K mg "cases_on" mF @DP f fd)(B:gk mg){c:Addr}(hcode:fd.code=.ref c)(LT:@Oh)(E5:mG T P w K mg base ca "case_of" @Bq (k+1) jW)(oi:bP P w K mg base ca "is_turned" @Ag 3 gX)(nX:bP P w K mg base ca "row_along" @HI 3 ia)(nV:bP P w K mg base ca "free_rows" @FI 4 hZ):mG T P w K mg base ca "cases_on" @DP (k+1+1) (aS 8 3 (gK jW gX ia hZ)):=
 ⟨⟨f,fd,F.mg,F.F.kp,F.b,jj (N:=@Hn) (k:=(k+1)) F.F hW λcdv A outer s H G E hcd hT hr=>
  (ar (oz (i:=3) (NB:=["turn","rows"]) (own:=1) (ixs:=[2]) [] rfl @l @J @NU (λH0 G0 par br bx C ex s3 H3 pn=>(cX (i:=0) (show(["turn","rows"]:@a).Nodup by decide +kernel))) (λH0 G0 par br bx C ex s3 H3 pn hB1=>(gA (gO (cD rfl (bc (zQ rfl) iI rfl B.any (@O) (cm (NB:=@IU) (own:=2) (ixs:=[0]) [0] rfl @l (λi hi=>hB1 i (by revert i hi;decide)) @NU (λH0 G0 par br bx C ex s3 H3 pn=>(gL (i:=0) (j:=1) (show(@IU:@a).Nodup by decide +kernel))) (λH0 G0 par br bx C ex s3 H3 pn hB2=>cU) (λH0 G0 par br bx C ex s3 H3 pn hB2=>(aC oi @DL jl rfl rfl (af (aj 0 (hB2 0 @S)) (af (aj 2 (hB2 2 @S)) ah)))))))))) (λH0 G0 par br bx C ex s3 H3 pn hB1=>@AV) hW.nd)
  (ar (c8 (cn @B0 iN @RL av (bI _))
  (aA (aV (cP (af kh (af (SE.wv (cm (NB:=["masks","put"]) (own:=2) (ixs:=[]) [] rfl @l @J (jF rfl (ai 2)) (λH0 G0 par br bx C ex s3 H3 pn=>(gL (i:=0) (j:=1) (show(["masks","put"]:@a).Nodup by decide +kernel))) (λH0 G0 par br bx C ex s3 H3 pn hB3=>cU) (λH0 G0 par br bx C ex s3 H3 pn hB3=>(aC nX @DL jl rfl rfl (af (aj 0 (hB3 0 @S)) (af @Hs ah)))))) ah)))))
  cx)
  (ar (aU (i:=4) (DT (NB:=["one","rows"]) (ir:=2) rfl rfl rfl B.min @ER (MV (NB:=["one","rows"]) (own:=1) (ixs:=[2]) @l rfl (hcd.symm.trans hcode) LT.hd LT.bt LT.ne) (λ_ _ _ _ _ _ I=>hT.mono (I.old.trans I.sub)) @l @S rfl rfl hr.depth rfl rfl (λ_ _ _ _ _ _=>rfl) (λH0 G0 qn q c1 s1 H1 pn=>(aC nV ((hr.mono (@B)).in1.deeper _) PY rfl rfl (af @Di @s)))) hW.nd)
  (ar (gE (i:=5) @Oy hW.nd)
  (ar (gG PassesOwn.leaving rfl (nh rfl B.range @FO) (cX (i:=6) hW.nd)
  (ar (aU (i:=7) (eJ hT E5 @DL aN rfl rfl (af @B4 (af @ER (af @B5 (af @Qd @D1))))) hW.nd)
  (ar (c8 (cn @B0 iN (aY aL bJ (ai 7) av @J) kh (bI _))
  (aA (kN 7))
  cx)
  (aA (jX 5 (λ_=>rfl) (aj 7 rfl))))))
  (aA (aV (cP (af kh (af (aj 4 rfl) (af (j7 dh oA rfl B.tuple (@O) (ai 5)) ah)))))))))))⟩,@g ⟩
def AK:aH @VX @CH (ao sP):=@A
def Eu{T:Addr}{f:Addr}{fd:FuncData}{a8 cJ b8:@I}(F:fA K mg "cases" sP @CH f fd)(B:gk mg)(cz:@Fq)(ky:mG T P w K mg base ca "cases_on" @DP 87 cJ)(dR:@Mz):mG T P w K mg base ca "cases" @CH 88 (aS 3 2 (sZ a8 cJ b8)):=
 ⟨⟨f,fd,F.mg,F.F.kp,F.b,jj (N:=@VX) (k:=87) F.F AK λcdv A outer s H G E hcd hT hr=>
  (ar (aU (i:=2) (cP (af @LM (af (cP ah) ah))) AK.nd)
  (aA (aV (eJ hT ky @C aN rfl rfl (af @B4 (af @U2 (af (SE.wv (xT (bF @Ew) (ai 1))) ah)))))))⟩,@g ⟩
def eM:aH @Ua @j (ao jd):=@A
def sv{T:Addr}{f:Addr}{fd:FuncData}{aB mn:@I}(F:fA K mg "fewest_rows" jd @j f fd)(B:gk mg)(bg:@AW)(sL:mG T P w K mg base ca "cases" @CH 88 mn):mG T P w K mg base ca "fewest_rows" @j 89 (aS 3 1 (fY aB mn)):=
 ⟨⟨f,fd,F.mg,F.F.kp,F.b,jj (N:=@Ua) (k:=88) F.F eM λcdv A outer s H G E hcd hT hr=>
  (ar @CC
  (ar (aU (i:=1) av eM.nd)
  (ar (aU (i:=2) @SH eM.nd)
  (ar (lQ 1000 PassesOwn.leaving (cn @EH iN @Ht kh (bI _))
  (ar (aU (i:=1) (bG ij iD (ai 1) av) eM.nd)
  (aA (aU (i:=2) @SH eM.nd))))
  (aA (aV @Ht))))))⟩,@g ⟩
def E2:aH @j @j (ao qe):=@A
def A1{T:Addr}{f:Addr}{fd:FuncData}{dQ:@I}(F:fA K mg "fewest" qe @j f fd)(B:gk mg)(lr:mG T P w K mg base ca "fewest_rows" @j 89 dQ):mG T P w K mg base ca "fewest" @j 90 (aS 1 1 (pY dQ)):=
 ⟨⟨f,fd,F.mg,F.F.kp,F.b,jj (N:=@j) (k:=89) F.F E2 λcdv A outer s H G E hcd hT hr=>
  (aA (aV (bc cc fZ rfl B.len Vh (eJ hT lr @C aN rfl rfl @s))))⟩,@g ⟩
def Gx:aH @AM @AM (ao sO):=@A
def ED{f:Addr}{fd:FuncData}{cw:@I}(F:fA K mg "cross" sO @AM f fd)(B:gk mg)(eV:@Nq):bP P w K mg base ca "cross" @AM 2 (aS 3 3 (tw cw)):=
 ⟨⟨f,fd,F.mg,F.F.kp,F.b,aR (N:=@AM) (k:=1) F.F Gx λcdv A outer s H G E hr=>
  (aA (aV (ku (aC eV @C aN rfl rfl (af @B4 @NM)) (ka (aC eV @C aN rfl rfl (af @B4 (af @B5 @A9)))) @J)))⟩,@g ⟩
def cS:aH @IC @Cx (ao gc):=@A
def pX{f:Addr}{fd:FuncData}{bD oG:@I}{k:Nat}(hk:2<=k)(F:fA K mg "crossing_from" gc @Cx f fd)(B:gk mg)(dN:bP P w K mg base ca "crossing_from" @Cx k bD)(xB:bP P w K mg base ca "cross" @AM 2 oG):bP P w K mg base ca "crossing_from" @Cx (k+1) (aS 8 3 (gu bD oG)):=
 ⟨⟨f,fd,F.mg,F.F.kp,F.b,aR (N:=@IC) (k:=k) F.F cS λcdv A outer s H G E hr=>
  (ar (aU (i:=3) @Di cS.nd)
  (ar (gG PassesOwn.leaving rfl (tS rfl rfl B.enumerate @B5) (gL (i:=4) (j:=5) cS.nd)
  (ar (oz (i:=6) (NB:=@VY) (own:=1) (ixs:=[0,5]) [0,5] rfl @l @J (jF rfl (uS rfl (ai 2) (xQ (bG ij iD (ai 4) av)) yU)) (λH0 G0 par br bx C ex s3 H3 pn=>(cX (i:=0) (show(@VY:@a).Nodup by decide +kernel))) (λH0 G0 par br bx C ex s3 H3 pn hB1=>(gA (cD rfl (aC xB @DL jl rfl rfl (af @LO (af @FC @J6)))))) (λH0 G0 par br bx C ex s3 H3 pn hB1=>@AV) cS.nd)
  (ar (aU (i:=7) (aC dN @DL aN rfl rfl (af @B4 (af (SE.wv (bG jG qK (ai 1) (bF (af @N5 ah)))) (af @Qd ah)))) cS.nd)
  (aA (c8 (cn Mp P9 (bc cc fZ rfl B.len Vh (ai 7)) @RL (bI _))
  (aA (aU (i:=3) (aj 7 rfl) cS.nd))
  cx)))))
  (aA (kN 3))))⟩,@g ⟩
def wt:aH @j @j (ao jC):=@A
def uN{f:Addr}{fd:FuncData}{bD b8:@I}(F:fA K mg "most_cross" jC @j f fd)(B:gk mg)(dN:bP P w K mg base ca "crossing_from" @Cx 42 bD)(dR:@Mz):bP P w K mg base ca "most_cross" @j 43 (aS 1 1 (jP bD b8)):=
 ⟨⟨f,fd,F.mg,F.F.kp,F.b,aR (N:=@j) (k:=42) F.F wt λcdv A outer s H G E hr=>
  (aA (aV (aC dN @C aN rfl rfl (af @B4 (af @Hs (af @U2 ah))))))⟩,@g ⟩
def rn:aH @XR @j (ao qz):=@A
def AW{f:Addr}{fd:FuncData}{aB fj fC:@I}(F:fA K mg "bounds" qz @j f fd)(B:gk mg)(bg:@AW)(mi:bP P w K mg base ca "most_cross" @j 43 fj)(mf:bP P w K mg base ca "most_apart" @j 6 fC):bP P w K mg base ca "bounds" @j 44 (aS 3 1 (lO aB fj fC)):=
 ⟨⟨f,fd,F.mg,F.F.kp,F.b,aR (N:=@XR) (k:=43) F.F rn λcdv A outer s H G E hr=>
  (ar @CC
  (ar (aU (i:=1) (qt (wV rfl) Hy rfl B.max (@O) (bc cc fZ rfl B.len Vh (aC mi @C aN rfl rfl @s)) av) rn.nd)
  (ar (aU (i:=2) (bc cc fZ rfl B.len Vh (aC mf @C aN rfl rfl @s)) rn.nd)
  (ar (c8 (cn va Cq @AP av (bI _))
  (aA (aV (cP @NM)))
  cx)
  (aA (aV (cP (af @Di (af (qt (wR rfl) Hi rfl B.min (@O) (ai 2) (bG tE OJ @AP av)) ah)))))))))⟩,@g ⟩
def D6:aH @A1 @A1 (ao qI):=@A
def BU{f:Addr}{fd:FuncData}{bX:@I}(F:fA K mg "is_few" qI @A1 f fd)(B:gk mg)(dG:@GR){Fq:Tok}(wK:mg "FEW"=some (.int 4 Fq)):bP P w K mg base ca "is_few" @A1 2 (aS 1 1 (lR bX)):=
 ⟨⟨f,fd,F.mg,F.F.kp,F.b,aR (N:=@A1) (k:=1) F.F D6 λcdv A outer s H G E hr=>
  (aA (aV (ku @LN (ka (ui Ao Ao Ha Ha av (ai 0) (xV (by rfl) wK))) @J)))⟩,@g ⟩
def pE:aH @j @j (ao dW):=@A
def pe{f:Addr}{fd:FuncData}{aB:@I}(F:fA K mg "need_few_things" dW @j f fd)(B:gk mg)(bg:@AW)(lV:@YA){Fq:Tok}(wK:mg "FEW"=some (.int 4 Fq)):bP P w K mg base ca "need_few_things" @j 6 (aS 1 1 (bY aB)):=
 ⟨⟨f,fd,F.mg,F.F.kp,F.b,aR (N:=@j) (k:=5) F.F pE λcdv A outer s H G E hr=>
  (ar @CC
  (aA (c8 (cn Mp P9 @AP (xV (by rfl) wK) (bI _))
  (aA (qj lV.ex lV.ca rfl lV.mg (af kh ah)))
  cx)))⟩,@g ⟩
def v3:aH @Mb @CH (ao jR):=@A
def vj{f:Addr}{fd:FuncData}{bw lN:@I}(F:fA K mg "lists_many" jR @CH f fd)(B:gk mg)(cI:@Lj)(u9:bP P w K mg base ca "is_few" @A1 2 lN)(dg:@Ms):bP P w K mg base ca "lists_many" @CH 7 (aS 5 2 (fk bw lN)):=
 ⟨⟨f,fd,F.mg,F.F.kp,F.b,aR (N:=@Mb) (k:=6) F.F v3 λcdv A outer s H G E hr=>
  (ar @Rt
  (ar (c8 (gO (cD rfl (aC u9 @C aN rfl rfl @A9)))
  @MU
  cx)
  Kj))⟩,@g ⟩
def yr:aH @j @j (ao kE):=@A
def vH{f:Addr}{fd:FuncData}{gY j0:@I}(F:fA K mg "every_row" kE @j f fd)(B:gk mg)(oq:bP P w K mg base ca "rows_many" @j 6 gY)(ra:bP P w K mg base ca "nth_row" @Fz 6 j0):bP P w K mg base ca "every_row" @j 7 (aS 1 1 (kL gY j0)):=
 ⟨⟨f,fd,F.mg,F.F.kp,F.b,aR (N:=@j) (k:=6) F.F yr λcdv A outer s H G E hr=>
  (aA (kF (cm (NB:=["number","order"]) (own:=1) (ixs:=[0]) [0] rfl @l @J (nh rfl B.range (aC oq @C aN rfl rfl @s)) (λH0 G0 par br bx C ex s3 H3 pn=>(cX (i:=0) (show(["number","order"]:@a).Nodup by decide +kernel))) (λH0 G0 par br bx C ex s3 H3 pn hB1=>cU) (λH0 G0 par br bx C ex s3 H3 pn hB1=>(aC ra @C jl rfl rfl (af @LO @J6))))))⟩,@g ⟩
def lu:aH @LI @Bw (ao jM):=@A
def vg{f:Addr}{fd:FuncData}{cf rj:@I}{k:Nat}(hk:6<=k)(F:fA K mg "first_from" jM @Bw f fd)(B:gk mg)(iz:bP P w K mg base ca "first_from" @Bw k cf)(Cb:bP P w K mg base ca "tell" @Aa 6 rj):bP P w K mg base ca "first_from" @Bw (k+1) (aS 6 4 (eZ cf rj)):=
 ⟨⟨f,fd,F.mg,F.F.kp,F.b,aR (N:=@LI) (k:=k) F.F lu λcdv A outer s H G E hr=>
  (ar (c8 (cn @B0 iN @FO (ai 3) (bI _))
  (aA (aV (L3 (cD rfl (aC Cb @DL aN rfl rfl (af @B5 @s))) @B5 xR @J)))
  cx)
  (ar (gG PassesOwn.leaving rfl (Ow rfl @Di) (cX (i:=4) lu.nd)
  (ar (aU (i:=5) (aC iz @DL aN rfl rfl (af @B4 (af @Di (af (SE.wv (bG jG qK (ai 2) (bF @D1))) @J7)))) lu.nd)
  (aA (c8 (Kx (ai 5))
  (aA (kN 5))
  cx))))
  (aA (aV xR))))⟩,@g ⟩
def wd:aH @j @j (ao jz):=@A
def uT{T:Addr}{f:Addr}{fd:FuncData}{bw cf gR lF:@I}(F:fA K mg "first_list" jz @j f fd)(B:gk mg)(cI:@Lj)(iz:bP P w K mg base ca "first_from" @Bw 46 cf)(nU:bP P w K mg base ca "every_row" @j 7 gR)(uC:mG T P w K mg base ca "fewest" @j 90 lF):mG T P w K mg base ca "first_list" @j 91 (aS 1 1 (fq bw cf gR lF)):=
 ⟨⟨f,fd,F.mg,F.F.kp,F.b,jj (N:=@j) (k:=90) F.F wd λcdv A outer s H G E hcd hT hr=>
  (ar @Rt
  (aA (aV (aC iz @C aN rfl rfl (af @B4 (af (aC nU @C aN rfl rfl @s) (af @Hs (af (eJ hT uC @C aN rfl rfl @s) ah))))))))⟩,@g ⟩
def dE:aH @Mv @Ix (ao mq):=@A
def yK{f:Addr}{fd:FuncData}(F:fA K mg "_law_box" mq @Ix f fd)(B:gk mg):bP P w K mg base ca "_law_box" @Ix 1 (aS 6 2 (jO)):=
 ⟨⟨f,fd,F.mg,F.F.kp,F.b,aR (N:=@Mv) (k:=0) F.F dE λcdv A outer s H G E hr=>
  (ar (aU (i:=2) (bG ij iD (bG nM pM av (ai 1)) av) dE.nd)
  (ar (c8 (cn va Cq (ai 1) @Aw (bI _))
  (aA (aU (i:=2) @Sk dE.nd))
  cx)
  (ar (c8 (cn @B0 iN (bG pF wC (ai 2) av) av (bI _))
  (aA (kF (bF (af (bG tE OJ (ai 2) av) ah))))
  cx)
  (ar (aU (i:=3) av dE.nd)
  (ar (gG PassesOwn.leaving rfl (nh rfl B.range av) (cX (i:=4) dE.nd)
  (ar (aU (i:=5) (bG pF wC (bG ij iD (bG ij iD (bG nM pM (bG pF wC (ai 2) av) av) (bG nM pM av (ai 4))) av) av) dE.nd)
  (ar (aU (i:=5) (bG pF wC (bG nM pM (ai 5) (ai 5)) av) dE.nd)
  (aA (aU (i:=3) (bG ij iD (bG nM pM (ai 3) av) (bG pF wC (bG nM pM (ai 5) @OM) av)) dE.nd)))))
  (aA (kF (bF @J7))))))))⟩,@g ⟩
def qF:aH ["box","many","left","digit"] @K9 (ao kS):=@A
def vR{f:Addr}{fd:FuncData}(F:fA K mg "_law_take" kS @K9 f fd)(B:gk mg):rb P w K mg base "_law_take" @K9 1 eQ:=by
 refine⟨⟨f,fd,F.mg,F.F.kp,F.b,?_⟩,λds β h=>?_⟩
 ·refine F.F.y9 qF (λvs H Q E h=>?_) (λcdv A outer s H vs Q E hr h=>?_)
  ·obtain⟨b,rest,G,ds,β,rfl,hb,gb,sG,hl,r,_⟩:=h
   rw[UY,r.len,hl];rfl
  ·obtain⟨b,rest,G,ds,β,rfl,hb,gb,sG,hl,r,h⟩:=h
   obtain⟨m,rfl,h0,h1⟩:=Dy (λz=>by rw[z]at h;exact h)
   rw[yQ h0 h1]at h
   have kk:∀v G' H',@Md->H' b=some (.lst [.int (β/m)])->@CL->@SW->(∀c,Mx H c->G c=none->G' c=none)->FV K H G' H' false (.int (β%m)) v->Q v H':=h
   cases r with
   |cons r1 r2=>
    cases r1
    cases r2
    refine⟨_,eB (tT (bN zA rfl B.divmod (@O) (aw (pk jS (pv 0) rM @J) (aw (pv 1) aZ))) (LG (i:=2) (j:=3) qF.nd rfl rfl rfl rfl rfl))
     (eB (tT (pv 2) (yo (pv 0) rM set_list)) (gx (lC (pv 3)))),?_⟩
    refine⟨_,rfl,b,_,0,.int β,rfl,rfl,.inl (.inl hb),rfl,_,rfl,β,m,rfl,@Tm,λp hp=>⟨p,_,rfl,@K0,rfl,_,_,rfl,_,_,rfl,rfl,?_⟩⟩
    have hbp:b≠p:=aO hb hp
    exact⟨_,rfl,_,rfl,b,[.int β],0,0,rfl,rfl,by rw[aJ hbp];exact hb,rfl,_,rfl,FD hb sG hp kk gb⟩
 ·obtain⟨m,rfl,_⟩:=Dy h
  rfl
def i3:aH @Ez @WZ (ao gy):=@A
def p8{f:Addr}{fd:FuncData}{aX:List D->Int->FB}(F:fA K mg "_law_no_order" gy @WZ f fd)(B:gk mg)(bK:@Cs):rb P w K mg base "_law_no_order" @WZ 2 (wu 2 0 (gj aX)):=
 ⟨⟨f,fd,F.mg,F.F.kp,F.b,uj (ca:=λ_=>0) (N:=@Ez) (k:=1) F.F i3 @S λcdv A outer s H G b E hr=>
  (@ar _ _ _ _ _ _ _ (@Pk _ _ _ 1 _ _ @o ([]++([]++(([]++@V)++(([]++@V)++(([]++((([]++@V)++[])++[]))++(([]++((([]++@V)++(([]++@V)++[]))++[]))++(([]++((([]++@V)++(([]++@V)++[]))++[]))++(([]++@V)++[])))))))) _ _ _ [] (by kernel_rfl) (λ_=>rfl) (by kernel_rfl) i3.nd rfl (by first|exact @Af|exact @CG) (by first|exact @BQ|exact @Fe))
  (ar (aU (i:=1) (SE.wv (bG jG qK (ai 1) (@MD _ _ _ _ @u (([]++@V)++(([]++((([]++@V)++[])++[]))++(([]++((([]++@V)++[])++[]))++(([]++((([]++@V)++(([]++@V)++(([]++@V)++[])))++[]))++([]++(([]++([]++@V))++[])))))) _ [] (by kernel_rfl) (λ_=>rfl) (by kernel_rfl)))) i3.nd)
  (aA (aV (aY aL bJ (ai 1) @S1 @J)))))⟩,λds β h=>uM ds β h⟩
def i6:aH @R3 @Ez (ao gp):=@A
def qw{f:Addr}{fd:FuncData}{aX:List D->Int->FB}(F:fA K mg "_law_shuffled" gp @Ez f fd)(B:gk mg)(bK:@Cs):rb P w K mg base "_law_shuffled" @Ez 2 (wu 4 1 (gr aX)):=
 ⟨⟨f,fd,F.mg,F.F.kp,F.b,uj (ca:=λ_=>0) (N:=@R3) (k:=1) F.F i6 @S λcdv A outer s H G b E hr=>
  (ar (gE (i:=2) (j7 yP OA rfl B.list (@O) (ai 1)) i6.nd)
  (ar (gE (i:=3) @Oy i6.nd)
  (ar (lQ 1000 PassesOwn.leaving (cn @EH iN (ai 2) @Oy (bI _))
  (aA (E9 3 2 (λ_=>rfl) (nJ 0 bK @C aN rfl rfl (af @FO ah)))))
  (aA (aV (j7 dh oA rfl B.tuple (@O) (ai 3)))))))⟩,λds β h=>uM ds β h⟩
def jD:aH @Q5 @CY (ao kY):=@A
def vS{f:Addr}{fd:FuncData}(F:fA K mg "_law_told" kY @CY f fd)(B:gk mg):bP P w K mg base ca "_law_told" @CY 1 (aS 5 2 (kH)):=
 ⟨⟨f,fd,F.mg,F.F.kp,F.b,aR (N:=@Q5) (k:=0) F.F jD λcdv A outer s H G E hr=>
  (ar (gE (i:=2) @Oy jD.nd)
  (ar (gG PassesOwn.leaving rfl @WB (cX (i:=3) jD.nd)
  (aA (gG PassesOwn.leaving rfl @WB (cX (i:=4) jD.nd)
  (aA (c8 (AQ.t (Ja (cn @EH iN (ai 3) (ai 4) (bI _)) (Du (cD rfl (bc @L8 iI rfl B.all (@O) (cm (NB:=["row","a","b"]) (own:=1) (ixs:=[3,4]) [] rfl @l @J @NU (λH0 G0 par br bx C ex s3 H3 pn=>(cX (i:=0) (show(["row","a","b"]:@a).Nodup by decide +kernel))) (λH0 G0 par br bx C ex s3 H3 pn hB1=>cU) (λH0 G0 par br bx C ex s3 H3 pn hB1=>(gN va Cq (Ad rfl (ai 0) (ai 1)) (Ad rfl (ai 0) (ai 2)) (bI _))))))) @J))
  (aA (jX 2 (λ_=>rfl) (cP (af @ER @D1))))
  cx)))))
  @Ly))⟩,@g ⟩
def lg:aH @ST @Iw (ao jK):=@A
def tR{f:Addr}{fd:FuncData}{cB:@I}{aX bH:List D->Int->FB}(F:fA K mg "_law_small" jK @Iw f fd)(B:gk mg)(gQ:@NC)(bK:@Cs)(c3:@M4):rb P w K mg base "_law_small" @Iw 3 (wu 4 1 (jE cB aX bH)):=
 ⟨⟨f,fd,F.mg,F.F.kp,F.b,uj (ca:=ca) (N:=@ST) (k:=2) F.F lg @S λcdv A outer s H G b E hr=>
  (ar (aU (i:=2) (bG ij iD av (nJ 0 bK @C aN rfl rfl @A9)) lg.nd)
  (ar (oz (i:=3) (NB:=@YY) (own:=1) (ixs:=[0,2]) [] rfl @l @J (nh rfl B.range (bG ij iD av @S1)) (λH0 G0 par br bx C ex s3 H3 pn=>(cX (i:=0) (show(@YY:@a).Nodup by decide +kernel))) (λH0 G0 par br bx C ex s3 H3 pn hB1=>cU) (λH0 G0 par br bx C ex s3 H3 pn hB1=>(nJ 1 c3 @C jl rfl rfl (af (SE.wv (tM rfl rfl B.list rfl B.range (ai 2))) ah))) lg.nd)
  (aA (aV (cP (af @B5 (af (aC gQ @C aN rfl rfl (af @B5 @J7)) ah)))))))⟩,λds β h=>uM ds β h⟩
def ni:aH @QQ @DH (ao iM):=@A
def rC{T:Addr}{f:Addr}{fd:FuncData}{marks:Str->@If}{fD e8 lM:@I}(F:fA K mg "_law_told_by" iM @DH f fd)(B:gk mg)(mr:bP P w K mg base ca "lists_many" @CH 7 fD)(mC:mG T P w K mg base ca "first_list" @j 91 e8)(uE:bP P w K mg base ca "bounds" @j 44 lM)(MK:Rz P w K mg base ca "RankError" "_law_only" marks):mG T P w K mg base ca "_law_told_by" @DH 92 (aS 4 3 (oa marks fD e8 lM)):=
 ⟨⟨f,fd,F.mg,F.F.kp,F.b,jj (N:=@QQ) (k:=91) F.F ni λcdv A outer s H G E hcd hT hr=>
  (ar (HG hT (i:=3) MK hr (λEb Ex pn H G hT hpT=>
  (aA (c8 @SG
  (aA (fu (aC mr @C hpT rfl rfl @NM)))
  (aA (c8 @SG
  (aA (fu (eJ hT mC @C hpT rfl rfl @A9)))
  (aA (fu (aC uE @C hpT rfl rfl @A9))))))))
  ni.nd B.range (λe=>bW (by kernel_rfl)) (@O))
  (aA (kF @Oy)))⟩,@g ⟩
def mY:aH @HJ @Ju (ao pw):=@A
def JN{T:Addr}{f:Addr}{fd:FuncData}{iW cB cF:@I}{fy aX bH c4:List D->Int->FB}(F:fA K mg "law" pw @Ju f fd)(B:gk mg)(pK:bP P w K mg base ca "_law_box" @Ix 1 iW)(gQ:@NC)(eT:mG T P w K mg base ca "_law_told_by" @DH 92 cF)(lZ:rb P w K mg base "_law_small" @Iw 3 fy)(bK:@Cs)(c3:@M4)(jt:rb P w K mg base "_law_no_order" @WZ 2 c4):gM P w K mg base @Ga 93 f fd @Ju (spT T K ca 1 (aS 9 1 (CN iW cB cF fy aX bH c4))):=
 jj (N:=@HJ) (k:=92) F.F mY λcdv A outer s H G E hcd hT hr=>
  (ar (gG PassesOwn.leaving rfl (nh rfl B.range (qt (wV rfl) Hy rfl B.max (@O) av (qt (wR rfl) Hi rfl B.min (@O) @Aw av))) (cX (i:=1) mY.nd)
  (ar (JH (i:=2) rfl (IC pK @C aN rfl rfl @NL) mY.nd)
  (ar (aU (i:=3) (nJ 2 lZ @C aN rfl rfl @EQ) mY.nd)
  (ar (aU (i:=4) (bG ij iD av @KA) mY.nd)
  (ar (aU (i:=5) (cP (af (aj 4 rfl) (af (aC gQ @C aN rfl rfl (af (aj 4 rfl) (af (SE.wv (bF (af (nJ 2 c3 @C aN rfl rfl (af (SE.wv (tM rfl rfl B.list rfl B.range (ai 4))) ah)) ah))) ah))) ah))) mY.nd)
  (ar (aU (i:=6) (nJ 2 jt @C aN rfl rfl ah) mY.nd)
  (ar (aU (i:=7) (aY aL bJ (bF (af av (af av (af (bG yk Ct @Hv @KA) (af kB (af xR (af kh (af (cP @EQ) (af (bG IW MI av av) ah))))))))) @KA @J) mY.nd)
  (aA (gG PassesOwn.leaving rfl (nh rfl B.range av) (cX (i:=8) mY.nd)
  (ar (c8 (cn @EH iN (eJ hT eT @C aN rfl rfl (af (aj 8 rfl) (af @Qd @PV))) @N6 (bI _))
  @EK
  cx)
  (ar (c8 (cn @EH iN (eJ hT eT @C aN rfl rfl (af (aj 8 rfl) (af @N5 @PV))) (aY aL bJ (bF (af (SE.wv @N6) (af (SE.wv @N6) (af @Hs ah)))) (ai 8) @J) (bI _))
  @EK
  cx)
  (aA (c8 (cn @EH iN (eJ hT eT @C aN rfl rfl (af (aj 8 rfl) (af @ER @PV))) (aY aL bJ (bF (af (SE.wv @N6) (af @Hs (af @Hs ah)))) (ai 8) @J) (bI _))
  @EK
  cx)))))))))))))
  @EK)
end
end RQ
namespace RM
open PySem L2
theorem Hn{t u:@CQ}{vs:@BD}{β:Int}{a b:Bool}(h:@KM=@Pl)(h':u vs β=.ok b β):IE t u vs β=.ok (a&&b) β:=by
 rw[M4,h];dsimp only[R.bnd]
 cases a with
 |true=>rw[Uz rfl,h'];rfl
 |false=>rfl
theorem LS{t u:@CQ}{vs:@BD}{β:Int}{a b:Bool}(h:@KM=@Pl)(h':u vs β=.ok b β):@Rl=.ok (a||b) β:=by
 rw[sN,h];dsimp only[R.bnd]
 cases a with
 |true=>rfl
 |false=>rw[UJ UQ,h'];rfl
def dz{t:@CQ}{vs:@BD}{β:Int}{a:Bool}(h:@KM=@Pl):rP t vs β=.ok (!a) β:=by rw[Cm,h];rfl
def BC{fa:VF D}{vs:@BD}{β:Int}{l:@F}{f:Pr->Bool}(h:@AU=.ok (.list (l.map λq=>@Ii)) β):f1 fa (bQ λbs=>@Cz) vs β=@Hd:=by
 refine fG h ?_
 simp only[bQ]
 rw[g8]
 simp[WU]
def upTo(n:Nat)(f:Pr->Bool)(i k:Nat):@F:=(@CD).filter λp=>(decide (p.1<i)||(decide (p.1=i)&&decide (p.2<k)))&&f p
def FI{n:Nat}(f:Pr->Bool)(i k:Nat)(h8:n<=8):(@Yy).length<=64:=by
 have h1:(@Yy).length<=(@CD).length:=Vg _ _
 rw[fT]at h1
 have:n*n<=64:=@WW
 omega
def D5(n:Nat)(f:Pr->Bool):upTo n f 0 0= []:=by
 unfold upTo
 rw[List.filter_eq_nil_iff]
 intro p hp
 have:=@TG
 rw[UO (@B),UO (p:=p.2<((0:Nat):Int)) (@B)];simp
def GU(n:Nat)(f:Pr->Bool):upTo n f n 0=(@CD).filter f:=by
 unfold upTo
 refine WR λp hp=>?_
 have:=(@TG).1.2
 rw[UH this];simp
def IH(n:Nat)(f:Pr->Bool)(i:Nat):upTo n f i n=upTo n f (i+1) 0:=by
 unfold upTo
 refine WR λp hp=>?_
 have h:=@TG
 congr 1
 rw[Va]
 simp only[VR,US,UU]
 omega
def wM{n i k:Nat}(f:Pr->Bool)(hi:i<n)(hk:k<n):upTo n f i (k+1)=@Yy++if f ((i:Int),(k:Int))=true then[((i:Int),(k:Int))]else[]:=by
 refine OM.qd (@Ie) ?_ λx=>?_
 ·show List.Pairwise OM.Ip _
  rw[Wc]
  refine⟨@Ie,?_,λp hp q hq=>?_⟩
  ·split<;>simp
  ·unfold upTo at hp
   have h1:=(UE.mp hp).2
   simp only[VR,US,UU]at h1
   split at hq
   ·have:q=((i:Int),(k:Int)):=by simpa using hq
    subst this
    show p.1<(i:Int)\/(p.1=(i:Int)/\p.2<(k:Int))
    exact h1.1
   ·cases hq
 ·rw[UW]
  unfold upTo
  rw[UE,UE,OM.b9]
  simp only[VR,US,UU]
  constructor
  ·rintro⟨h1,h2,h3⟩
   by_cases z:x.1=i/\x.2=k
   ·obtain⟨xa,xb⟩:=x
    simp only at z h3
    obtain⟨rfl,rfl⟩:=z
    rw[Uz h3]
    exact .inr (UP.mpr rfl)
   ·exact .inl ⟨h1,@B,h3⟩
  ·rintro(⟨h1,h2,h3⟩|h)
   ·exact⟨h1,@B,h3⟩
   ·split at h
    ·rename_i hf
     have:x=((i:Int),(k:Int)):=by simpa using h
     subst this
     exact⟨⟨⟨by show(0:Int)<=(i:Int);omega,by show(i:Int)<n;omega⟩,by show(0:Int)<=(k:Int);omega,by show(k:Int)<n;omega⟩,.inr ⟨rfl,by show(k:Int)<((k+1:Nat):Int);omega⟩,hf⟩
    ·cases h
def tupI(r:@E):D:=@X9
def Dl{fa fb:VF D}{vs:@BD}{β:Int}{r:@E}{k:Int}(h:@AU=.ok @Co β)(h':@MN=.ok @N1 β)(hk:k∈r):qP fa fb vs β=.ok (.int (r.idxOf k:Nat)) β:=by
 unfold qP
 rw[h]
 dsimp only[R.bnd]
 rw[Uz (by rfl),h']
 dsimp only[R.bnd,KN,tupI]
 rw[i4]
 dsimp only
 rw[Uz hk];rfl
noncomputable def I0:@I:=aS 6 2 jO
def Oh(ns:@E)(k:Nat):∃z,I0 [de ns,.int k]=.ok (@Of) true:=by
 show ∃z,fin (jO [@Az,@Al,.no,.no,.no,.no] 0)=.ok (@Of) true
 unfold jO
 have e0:@EV=.ok (.int (7919*k+13)) 0:=aF (aF (x:=.int 7919) (y:=.int k) rfl rfl (uO @Bz)) rfl rfl
 rw[ax (env':=[@Az,@Al,.fz (.int (7919*k+13)),.no,.no,.no]) (β':=0) ?h0]
 case h0=>
  show toS (@EV) _=_
  rw[e0];rfl
 obtain⟨c,hc⟩:∃c:Int,ji @V (dD @PX) (ba 2 @V @I_) lU [@Az,@Al,.fz (.int (7919*k+13)),.no,.no,.no] 0=.nx @LA 0:=by
  have e:dD @PX (vl [@Az,@Al,.fz (.int (7919*k+13)),.no,.no,.no]) 0=.ok (decide ((k:Int)<(@Cu).length)) 0:=NA rfl rfl
  by_cases h:k<ns.length
  ·rw[UH (by simp;exact h)]at e
   refine⟨ns[k],?_⟩
   rw[eY e]
   show toS (f2 (gv 0) (gv 1) bE [Nv.da (de ns),.da @N1,.da (.int (7919*k+13)),.no,.no,.no] 0) _=_
   rw[aF (x:=de ns) (y:=.int k) (d:=.int ns[k]) (β1:=0) (β2:=0) rfl rfl]
   ·rfl
   ·show ki (@Cu) (k:Int)=_
    rw[jh,pO h];rfl
  ·rw[UO (by simp;omega)]at e
   exact⟨_,by rw[dY e];rfl⟩
 rw[ax hc]
 have e1:dD @RM (vl @LA) 0=.ok (decide (c%2=0)) 0:=iw (neg:=false) (aF rfl rfl @S2) rfl
 by_cases h:c%2=0
 ·rw[UH h]at e1
  refine⟨c/2,?_⟩
  rw[gC (d:=.list [.int (c/2)]) (b:=true) (β':=0)]
  ·rfl
  ·rw[eY e1]
   show toS (bo @Tt @Jn 0) _=_
   rw[kU (ds:=[.int (c/2)]) (β1:=0)]
   ·rfl
   ·have e2:f2 (gv 2) @Fi Mo @Jn 0=.ok (.int (c/2)) 0:=aF (x:=.int c) rfl rfl (MJ (@B) (@B))
    rw[fU,e2];rfl
   ·simp
 ·rw[UO h]at e1
  rw[ax (env':=@LA) (β':=0) (by rw[dY e1];rfl)]
  rw[ax (env':=@PO) (β':=0) (by rfl)]
  obtain⟨env',β',el,z,x,y,rfl,rfl⟩:=eS (t:=.nm 4) (m:=aI (ba 5 ((((@V++[])++@V)++[])++[]) (f2 @A8 @B_ nq))
    (aI (ba 5 (@V++[]) @Jh)
    (ba 3 (@V++(([]++@V)++[])) (f2 @PY @Dv b7)))) (ds:=dB 0 16) (k:=0)
   (λ_ env β=>∃(z:Int) (x y:Sl),env= @Ya/\β=0) (env:=@PO) (β:=0) ⟨0,.no,.no,rfl,rfl⟩ (by
    rintro i d env β hi ⟨z,x,y,rfl,rfl⟩
    obtain⟨_,rfl⟩:=kg hi
    generalize(0+(i:Int))=j
    refine⟨@TT,rfl,?_⟩
    have b1:0<=c%2147483647/\c%2147483647<2147483647:=@Lw
    have a1:f2 @A8 @B_ nq (vl @TT) 0=.ok (.int ((c%2147483647*48271+7919*j+1)%2147483647)) 0:=
     aF (aF (aF (aF (aF (x:=.int c) rfl rfl @S2) rfl (HY @Bz)) (aF (x:=.int 7919) (y:=.int j) rfl rfl (uO @Bz)) rfl) rfl rfl) rfl @S2
    generalize hp:(c%2147483647*48271+7919*j+1)%2147483647=p at a1
    have bp:0<=p/\p<2147483647:=by rw[<-hp];exact @Lw
    rw[ax (env':=@OD) (β':=0) ?k1]
    case k1=>rw[bC,a1];rfl
    have a2:f2 (f2 (gv 5) (gv 5) dX) (cst (.int 2147483629)) nq (vl @OD) 0=.ok (.int (p*p%2147483629)) 0:=
     aF (aF (x:=.int p) (y:=.int p) rfl rfl (uO @Bz)) rfl @S2
    generalize hq:p*p%2147483629=q at a2
    have bq:0<=q/\q<2147483629:=by rw[<-hq];exact @Lw
    rw[ax (env':=@OE) (β':=0) ?k2]
    case k2=>rw[bC,a2];rfl
    have a3:f2 @PY @Dv b7 (vl @OE) 0=.ok (.int (z*2147483647+q*(q+13)%2147483647)) 0:=
     aF (aF (x:=.int z) rfl rfl (HY @Bz)) (aF (aF (x:=.int q) (y:=.int (q+13)) rfl rfl (uO @Bz)) rfl @S2) rfl
    refine⟨[@Az,@Al,@C_,.fz (.int (z*2147483647+q*(q+13)%2147483647)),.fz @Ft,.fz (.int q)],0,?_,_,_,_,rfl,rfl⟩
    rw[bC,a3];rfl)
  refine⟨z,?_⟩
  rw[ax (env':=@Ya) (β':=0) ?h2]
  case h2=>exact el
  show fin (toS (bo @BG [.da (de ns),.da @N1,.da (.int c),.da (.int z),x.val,y.val] 0) _)=_
  rw[kU (ds:=[.int z]) (β1:=0) rfl @W]
  rfl
noncomputable def p7:List D->Int->FB:=wu 4 1 (gr eQ)
def Ic(ns:@E)(hz:ns.length<=100)(β:Int):∃(ms:@E) (β':Int),p7 [@AS] β=@WG/\ms.Perm ns:=by
 show ∃(ms:@E) (β':Int),G8 (gr eQ [.bx,@LS,.no,.no] β)=@WG/\ms.Perm ns
 unfold gr
 rw[ax (env':=[.bx,@LS,.ow (@AS),.no]) (β':=β) (by rfl)]
 have ez:@NF=.ok (@L9) β:=kU rfl @W
 rw[ax (env':=@Wb) (β':=β) ?h]
 case h=>
  show toS (@NF) _=_
  rw[ez];rfl
 obtain⟨env',β',ew,ms,rfl,hp⟩:=gH (L:=[]++[]) (t:=dD @O0) (m:=mL 3 2 @V (pL 0 eQ @Ss))
  (λk env β=>∃ls ms:@E,env= [.bx,@LS,.ow (.list (ls.map int)),.ow @DT]/\(ms++ls).Perm ns/\k=ls.length)
  (λenv β=>∃ms:@E,env= [.bx,@LS,@Dr,.ow @DT]/\ms.Perm ns) (n:=1000) (k:=ns.length) (env:=@Wb) (β:=β) (@B) ⟨ns,[],rfl,by simp,rfl⟩ (by
   rintro k env β ⟨ls,ms,rfl,hp,rfl⟩
   have e1:bo ag @KR β=.ok (.list (([]:@E).map int)) β:=kU rfl @W
   have et:dD @O0 @KR β=.ok (!decide (ls= [])) β:=
    fL _ _ _ _ (aF (x:=.list (ls.map int)) rfl e1 (by rw[zt];rfl))
   refine⟨_,_,et,?_⟩
   have hlen:=hp.length_eq
   rw[UL]at hlen
   cases ls with
   |nil=>exact .inl ⟨rfl,ms,rfl,by simpa using hp⟩
   |cons y ys=>
    refine .inr ⟨rfl,?_⟩
    have hm:(0:Int)<((y::ys).length:Nat)/\(((y::ys).length:Nat):Int)<1073741824:=by
     have:(y::ys).length<=100:=@B
     constructor
     ·simp
     ·omega
    obtain⟨j,hj⟩:∃j:Nat,β%(((y::ys).length:Nat):Int)=j:=⟨(β%(((y::ys).length:Nat):Int)).toNat,by have:=WJ β (b:=(((y::ys).length:Nat):Int)) (@B);omega⟩
    have hj2:j<(y::ys).length:=by have:=WK β hm.1;omega
    have ef:pL 0 eQ @Ss [Nv.bx,.da (@AS),.da (.list ((y::ys).map int)),.da @DT] β=.ok (.int (j:Int)) (β/(((y::ys).length:Nat):Int)):=by
     refine kb (ds:=[.int (((y::ys).length:Nat):Int)]) (b:=false) (by rfl) ?_ (by rw[yQ hm.1 hm.2,hj])
     show R.ok [int ((((y::ys).map int).length:Nat):Int)] β=_
     rw[Uw]
    have hpop:EL ((y::ys).map int) (.int (j:Int))=some (.int (y::ys)[j],((y::ys).eraseIdx j).map int):=by
     unfold EL
     dsimp only
     rw[Uz @Bz]
     have es:seqIndex? (j:Int) ((y::ys).map int).length=some j:=by
      rw[Uw]
      exact PySem.StrLaws.seqIndex_nonneg (@B) (@B)
     rw[es]
     dsimp only
     rw[UN,UB hj2,w8];rfl
    refine⟨[.bx,@LS,.ow (.list (((y::ys).eraseIdx j).map int)),.ow (.list ((ms++[(y::ys)[j]]).map int))],β/(((y::ys).length:Nat):Int),((y::ys).eraseIdx j).length,?_,?_,(y::ys).eraseIdx j,ms++[(y::ys)[j]],rfl,?_,rfl⟩
    ·show mL 3 2 @V (pL 0 eQ @Ss) [.bx,@LS,.ow (.list ((y::ys).map int)),.ow @DT] β=_
     rw[Bo (ds:=ms.map int) (es:=(y::ys).map int) (by rfl) (by rfl) @S ef (by rfl) hpop (by rw[Uw];omega),U7]
     rfl
    ·rw[List.length_eraseIdx]
     rw[Uz hj2]
     show(y::ys).length-1<(y::ys).length
     simp
    ·rw[Vr]
     exact(List.Perm.append_left ms (vm (UB hj2))).trans hp)
 refine⟨ms,β',?_,hp⟩
 rw[ax ew]
 rfl
def nu(rows:@AG)(p:Pr):Bool:= !decide (p.1=p.2)&&rows.all λr=>decide (r.idxOf p.1<r.idxOf p.2)
def KY{α:Type}{fa:VF D}{vs:@BD}{β:Int}{l:@Bl}{f:α->Bool}(h:@AU=.ok (.list (l.map λq=>@Ii)) β):f1 fa (bQ λbs=>@Cz) vs β=@Hd:=by
 refine fG h ?_
 simp only[bQ]
 rw[g8]
 simp[WU]
def nQ:@I:=aS 5 2 kH
def C9{n:Nat}{rows:@AG}(h8:n<=8)(hr:rows.length<=100)(hp:∀r,r∈rows->@B3):nQ [.int n,@JD]=.ok (.tuple (((@CD).filter @C8).map aG)) false:=by
 show fin (kH [.fz @z,@v,.no,.no,.no] 0)=_
 unfold kH
 rw[ax (env':=@MK) (β':=0) ?g1]
 case g1=>rw[iu,kU (ds:=[]) rfl @W];rfl
 obtain⟨env',β',ef,s,t,rfl,rfl⟩:=eS (t:=.nm 3) (m:=dZ @NI [] (dM (gv 0))
   (ji (@V++@V) (IE @F_ (ie (f1 @A4 (bQ λbs=>@Cz))))
   (l0 2 ([3]++([4]++[])) @OK)
   lU)) (ds:=dB 0 n) (k:=0)
  (λi env β=>∃s t:Sl,env= [.fz @z,@v,.ow (.list ((@Un).map aG)),s,t]/\β=0)
  (env:=@MK) (β:=0) ⟨.no,.no,by rw[D5];rfl,rfl⟩ (by
   rintro i d env β hi ⟨s,t,rfl,rfl⟩
   obtain⟨hin,rfl⟩:=kg hi
   refine⟨[.fz @z,@v,.ow (.list ((upTo n @C8 (0+i) 0).map aG)),.fz (.int (0+(i:Int))),t],rfl,?_⟩
   rw[Vo,VE]
   obtain⟨env',β',ef,t2,rfl,rfl⟩:=eS (t:=.nm 4) (m:=ji (@V++@V) (IE @F_ (ie (f1 @A4 (bQ λbs=>@Cz))))
     (l0 2 ([3]++([4]++[])) @OK)
     lU) (ds:=dB 0 n) (k:=0)
    (λk env β=>∃t:Sl,env= [.fz @z,@v,.ow (.list ((@LG).map aG)),@Dj,t]/\β=0)
    (env:=[.fz @z,@v,.ow (.list ((@Un).map aG)),@Dj,t]) (β:=0) ⟨t,rfl,rfl⟩ (by
     rintro k d env β hk ⟨t,rfl,rfl⟩
     obtain⟨hkn,rfl⟩:=kg hk
     refine⟨[.fz @z,@v,.ow (.list ((upTo n @C8 i (0+k)).map aG)),@Dj,.fz (.int (0+(k:Int)))],rfl,?_⟩
     rw[Vo,VE]
     have ec:aM 1 [3,4] @BN @F8 iP (f2 (qP (gv 0) (gv 1)) (qP (gv 0) (gv 2)) rW) (vl [.fz @z,@v,.ow (.list ((@LG).map aG)),@Dj,@Al]) 0=.ok (.list (rows.map λr=>PyData.bool (decide (r.idxOf (i:Int)<r.idxOf (k:Int))))) 0:=by
      refine bV (l:=rows) (e:=tupI) (λr=>PyData.bool (decide (r.idxOf (i:Int)<r.idxOf (k:Int)))) rfl (@B) λr hr=>⟨_,rfl,?_⟩
      have hp:=hp r hr
      refine aF (Dl (r:=r) (k:=i) rfl rfl (@KJ)) (Dl (r:=r) (k:=k) rfl rfl (@KJ)) ?_
      show some (PyData.bool (decide (((r.idxOf (i:Int):Nat):Int)<((r.idxOf (k:Int):Nat):Int))))=_
      congr 2
      rw[Va,UU,UU]
      omega
     have et:IE @F_ (ie (f1 @A4 (bQ λbs=>@Cz))) (vl [.fz @z,@v,.ow (.list ((@LG).map aG)),@Dj,@Al]) 0=.ok (nu rows ((i:Int),(k:Int))) 0:=
      Hn (iw (neg:=true) (i:=i) (j:=k) rfl rfl) (dO (KY ec))
     have hl:=FI @C8 i k h8
     by_cases c:nu rows ((i:Int),(k:Int))=true
     ·rw[c]at et
      refine⟨[.fz @z,@v,.ow (.list ((upTo n @C8 i (k+1)).map aG)),@Dj,@Al],0,?_,_,rfl,rfl⟩
      rw[eY et,wM @C8 hin hkn,Uz c,U7]
      exact oQ (i:=2) (L:=[3]++([4]++[])) (env:=[.fz @z,@v,.ow (.list ((@LG).map aG)),@Dj,@Al]) (ds:=(@LG).map aG) (by rfl) (@Yd) (by rfl) (by rw[Uw];omega)
     ·rw[Bool.not_eq_true]at c
      rw[c]at et
      refine⟨[.fz @z,@v,.ow (.list ((upTo n @C8 i (k+1)).map aG)),@Dj,@Al],0,?_,_,rfl,rfl⟩
      rw[dY et,wM @C8 hin hkn,c]
      simp)
   rw[iR,Vo,IH]at ef
   refine⟨[.fz @z,@v,.ow (.list ((upTo n @C8 (i+1) 0).map aG)),@Dj,t2],0,?_,_,_,rfl,rfl⟩
   rw[cL (env:=[.fz @z,@v,.ow (.list ((@Un).map aG)),@Dj,t]) (eO (n:=n) (β1:=0) rfl (@B))]
   exact ef)
 rw[iR,Vo,GU]at ef
 rw[ax (env':=[.fz @z,@v,.ow (.list (((@CD).filter @C8).map aG)),s,t]) (β':=0) ?g2]
 case g2=>
  rw[cL (env:=@MK) (eO (n:=n) (β1:=0) rfl (@B))]
  exact ef
 rfl
def sY{rows:@AG}{p:Pr}:nu rows p=true↔p.1≠p.2/\∀r,r∈rows->r.idxOf p.1<r.idxOf p.2:=by
 unfold nu
 rw[US,Vw,Vn,Ve]
 simp only[UU]
def xh{n:Nat}{rows:@AG}(h1:1<=n)(h8:n<=8)(hne:rows≠ []):OM.Ord n ((@CD).filter @C8):=by
 refine⟨h1,h8,λp hm=>OM.b9.mp (UE.mp hm).1,@Ie,λa h=>?_,λa b c hab hbc=>?_⟩
 ·exact(sY.mp (UE.mp h).2).1 rfl
 ·obtain⟨g1,t1⟩:=UE.mp hab
  obtain⟨g2,t2⟩:=UE.mp hbc
  have g1:=OM.b9.mp g1
  have g2:=OM.b9.mp g2
  obtain⟨n1,q1⟩:=sY.mp t1
  obtain⟨n2,q2⟩:=sY.mp t2
  refine UE.mpr ⟨OM.b9.mpr ⟨g1.1,g2.2⟩,sY.mpr ⟨λe=>?_,λr hr=>@YX ⟩⟩
  simp only at e q1 q2
  subst e
  cases rows with
  |nil=>exact hne rfl
  |cons r rest=>
   have hr:r∈r::rest:=UG ..
   exact absurd (@YX) (U8 _)
theorem uJ{α:Type}{t:Tg}{fe:VF D}{vs:@BD}(e:α->D)(P:α->Prop):∀{ds:List D} {β:Int},(∀d,d∈ds->∃vs1,qO t d vs=@Sc/\∀β,∃a β',fe vs1 β=.ok (e a) β'/\P a)->
  ∃(as:@Bl) (β':Int),jr t iP fe vs ds β=.ok (as.map e) β'/\as.length=ds.length/\∀a,a∈as->P a
 | [],β,_=>⟨[],β,rfl,rfl,λa h=>(by cases h)⟩
 |d::ds,β,h=>by
  obtain⟨vs1,hb,hf⟩:=h d (UG ..)
  obtain⟨a,β1,ef,pa⟩:=hf β
  obtain⟨as,β2,ec,hl,hP⟩:=uJ e P (ds:=ds) (β:=β1) λd' hd=>h d' (UI _ hd)
  refine⟨a::as,β2,?_,by rw[UY,UY,hl],λx hx=>?_⟩
  ·unfold jr
   rw[hb]
   dsimp only[iP,R.okb]
   rw[Uz rfl,ef]
   dsimp only
   rw[ec];rfl
  ·rcases @P4 with z|z
   ·rw[z];exact pa
   ·exact hP x z
noncomputable def Ci:List D->Int->FB:=wu 4 1 (jE nQ eQ p7)
def Lm{most:Nat}(hm1:1<=most)(hm8:most<=8)(β:Int):∃(n:Nat) (l:@F) (β':Int),Ci [.int most] β=.ok @V3 false β'/\@q/\n<=most:=by
 obtain⟨j,hj,ej⟩:=lP hm1 (@B) β
 show ∃(n:Nat) (l:@F) (β':Int),G8 (jE nQ eQ p7 [.bx,.fz @HN,.no,.no] β)=.ok @V3 false β'/\@q/\n<=most
 unfold jE
 generalize hβ1:β/(most:Int)=β1 at ej
 have n8:1+j<=8:=@B
 have e1:@Ka=.ok (.int ((1+j:Nat):Int)) β1:=by
  refine aF (x:=.int 1) rfl (kb (by rfl) rfl ej) ?_
  show some (int (1+(j:Int)))=_
  rw[show((1+j:Nat):Int)=1+(j:Int) by omega]
 rw[ax (env':=[.bx,.fz @HN,.fz (.int ((1+j:Nat):Int)),.no]) (β':=β1) ?g1]
 case g1=>
  show toS (@Ka) _=_
  rw[e1];rfl
 have hnm:1+j<=most:=@B
 generalize hn:1+j=n at n8 hnm
 have n1:1<=n:=@B
 obtain⟨q,hq,eq⟩:=lP (m:=3) (@B) (@B) β1
 generalize hβ2:β1/((3:Nat):Int)=β2 at eq
 have e2:f2 @H (pL 0 eQ (ae @UJ ag)) b7 @T8 β1=.ok (.int ((1+q:Nat):Int)) β2:=by
  refine aF (x:=.int 1) rfl (kb (ds:=[.int 3]) (by rfl) rfl eq) ?_
  show some (int (1+(q:Int)))=_
  rw[show((1+q:Nat):Int)=1+(q:Int) by omega]
 obtain⟨rows,β3,ec,hl,hP⟩:=uJ (t:=.nm 0) (fe:=pL 1 p7 @XA) (vs:=jm 1 [0,2] @T8) tupI (λr:@E=>@B3) (ds:=dB 0 (1+q)) (β:=β2) (by
  intro d hd
  refine⟨[.da d,.bx,.da @z],rfl,λb=>?_⟩
  obtain⟨ms,b',em,pm⟩:=Ic (eh n) (by rw[cQ];omega) b
  refine⟨ms,b',kb (ds:=[.list ((eh n).map int)]) (β1:=b) (by rfl) ?_ em,pm⟩
  rw[fU,fG (x:=.int n) (d:=.list ((eh n).map int)) (β1:=b) rfl (se (@B))];rfl)
 rw[iR]at hl
 have ef:@Cr=.ok (@JD) β3:=by
  unfold aM
  rw[eO (n:=1+q) e2 (@B)]
  dsimp only[R.bnd]
  rw[Uz (sz _ (by rw[iR];omega)),ec];rfl
 rw[ax (env':=[.bx,.fz @HN,.fz @z,@v]) (β':=β3) ?g2]
 case g2=>
  show toS (@Cr) _=_
  rw[ef];rfl
 have hne:rows≠ []:=λz=>by rw[z]at hl;simp at hl;omega
 refine⟨n,(@CD).filter @C8,β3,?_,xh n1 n8 hne,hnm⟩
 rw[cO]
 show G8 (toS (aW (ae (gv 2) (ae (ak nQ @Sp) ag)) @QS β3) _)=_
 have a1:ak nQ @Sp @QS β3=.ok (.tuple (((@CD).filter @C8).map aG)) β3:=aq rfl (C9 n8 (@B) hP)
 rw[jN (ds:=[.int n,.tuple (((@CD).filter @C8).map aG)]) (β1:=β3) ?k3 @W]
 case k3=>
  rw[fU]
  show(R.ok (int n) β3).bnd _=_
  dsimp only[R.bnd]
  rw[fU,a1];rfl
 rfl
def Hx:D->Bool
 | .tuple _=>true
 |_=>false
theorem CF{d:D}(h:Hx d=true):∃ds,d=.tuple ds:=by
 cases d with
 |tuple ds=>exact⟨ds,rfl⟩
 |_=>cases h
def HX{d:D}(h:eG d=false):lA "tuple" d=some (.bool (Hx d)):=by
 unfold lA;rw[h];cases d<;>rfl
section
variable {fa fb:VF D}{vs:@BD}{β:Int}
def MC{d:D}(ha:@AU=@Kg)(h:eG d=false):ie (f1 fa (lA "tuple")) vs β=.ok (Hx d) β:=dO (fG ha (HX h))
def Dk{l:List D}{f:D->Bool}(h:@AU=.ok (.list (l.map λq=>@Ii)) β):f1 fa (bQ λbs=>@Cz) vs β=@Hd:=by
 refine fG h ?_
 simp only[bQ]
 rw[g8]
 simp[WU]
def LW{ds:List D}(ha:@AU=.ok @D7 β):f1 fa cG vs β=.ok @JT β:=fG ha rfl
def MY{ds:List D}{k:Int}(ha:@AU=.ok @D7 β):dD (f2 (f1 fa cG) (cst @N1) @CV) vs β=.ok (!decide ((ds.length:Int)=k)) β:=iw (neg:=true) (LW ha) rfl
def Hd{t u:@CQ}(h:@KM=.ok true β):@Rl=.ok true β:=by rw[sN,h];rfl
def xt{t u:@CQ}{c:Bool}(h:@KM=@X8)(h':u vs β=.ok c β):@Rl=.ok c β:=by rw[sN,h];exact h'
def Mj(h:@AU=@X3):@Uh=@X3:=by unfold fV;rw[h];rfl
def LY{d:D}(h:@AU=@X4)(h':@MN=@Kg):@Uh=@Kg:=by unfold fV;rw[h];exact h'
def Sw(h:@AU=@X4):O2 fa fb vs β=@X4:=by unfold O2;rw[h];rfl
def Tv{d:D}(h:@AU=@X3)(h':@MN=@Kg):O2 fa fb vs β=@Kg:=by unfold O2;rw[h];exact h'
end
def Sq(c k:Nat)(d:D):Prop:=d.showable=true/\d.depth<=k/\d.shown.length<=c
def Sq.mono{c k c' k':Nat}{d:D}(h:Sq c k d)(h1:c<=c')(h2:k<=k'):Sq c' k' d:=⟨h.1,Vp h.2.1 h2,Vp h.2.2 h1⟩
theorem Hj{c k:Nat}:∀{ds:List D},(∀d,d∈ds->Sq c k d)->PyData.showableAll ds=true/\PyData.depthAll ds<=k/\(∀t,t∈@Py->t.length<=c)/\(@Py).length=ds.length
 | [],_=>⟨by simp[PyData.showableAll],by simp[PyData.depthAll],λt h=>by simp[PyData.shownAll]at h,by simp[PyData.shownAll]⟩
 |d::ds,h=>by
  obtain⟨h1,h2,h3,h4⟩:=Hj λx hx=>h x @J3
  obtain⟨q1,q2,q3⟩:=h d (UG ..)
  refine⟨?_,?_,λt ht=>?_,?_⟩
  ·rw[PyData.showableAll,q1,h1];rfl
  ·rw[PyData.depthAll];omega
  ·rw[PyData.shownAll]at ht
   rcases UD.mp ht with rfl|ht
   ·exact q3
   ·exact h3 t ht
  ·rw[PyData.shownAll,UY,UY,h4]
theorem zS{c:Nat}:∀{ts:@a},(∀t,t∈ts->t.length<=c)->(Str.join ", " ts).length<=(c+2)*ts.length
 | [],_=>by show(Str.join ", " []).length<=_;exact Vl _
 | [x],h=>by
  have:=h x (UG ..)
  show x.length<=(c+2)*1
  omega
 |x::y::r,h=>by
  have ih:=zS (ts:=y::r) λt ht=>h t (UI _ ht)
  have:=h x (UG ..)
  show(x++", "++Str.join ", " (y::r)).length<=_
  rw[strLen_append,strLen_append]
  have e2:((", ":String):Str).length=2:=rfl
  rw[e2]
  have e:(c+2)*(x::y::r).length=(c+2)*(y::r).length+(c+2):=by rw[UY,Nat.mul_succ]
  omega
def Hh{c k:Nat}{ds:List D}(h:∀d,d∈ds->Sq c k d):Sq (3+(c+2)*ds.length) (k+1) @D7:=by
 obtain⟨h1,h2,h3,h4⟩:=Hj h
 refine⟨by rw[PyData.showable];exact h1,by rw[PyData.depth];omega,?_⟩
 rw[PyData.shown]
 unfold tupleText
 rw[strLen_append,strLen_append]
 have j:=zS h3
 rw[h4]at j
 have e1:((("(":String):Str)).length=1:=rfl
 have e3:((if(@Py).length==1 then",)"else")":String):Str).length<=2:=by split<;>exact by decide
 rw[e1]
 omega
def Bf(d:D):Prop:=OZ d=true
theorem IS:∀{ds:List D},(∀d,d∈ds->Bf d)->FH ds=true
 | [],_=>rfl
 |d::ds,h=>by
  have h1:=IS λx hx=>h x @J3
  have q1:OZ d=true:=h d (UG ..)
  rw[FH,q1,h1];rfl
def FE{ds:List D}(h:∀d,d∈ds->Bf d):Bf @D7:=by show OZ @D7=true;rw[OZ];exact IS h
def Tp:@E:=[-1,0,1,2,3,4,5,6,7,8,9]
def Ir:∀i∈Tp,(int i).showable=true/\(int i).shown.length<=20:=@O
def Dw{i:Int}(h: -1<=i/\i<=9):i∈Tp:=by
 simp only[Tp,UD,Vf,VW]
 omega
def Jg(d:D):Prop:=d=.none\/(∃b,d=.bool b)\/∃i:Int,d=.int i/\ -1<=i/\i<=9
def Jg.sq{d:D}(h:Jg d):Sq 20 0 d:=by
 rcases h with rfl|⟨b,rfl⟩|⟨i,rfl,h⟩
 ·exact⟨by simp[PyData.showable],by simp[PyData.depth],by rw[PyData.shown];decide⟩
 ·exact⟨by simp[PyData.showable],by simp[PyData.depth],by rw[PyData.shown];cases b<;>decide⟩
 ·exact⟨(Ir i (Dw h)).1,by simp[PyData.depth],(Ir i (Dw h)).2⟩
def Jg.bf{d:D}(h:Jg d):Bf d:=by
 rcases h with rfl|⟨b,rfl⟩|⟨i,rfl,h⟩<;>exact by simp[Bf,OZ]
def Jg.scr{d:D}(h:Jg d):eG d=false:=by
 rcases h with rfl|⟨b,rfl⟩|⟨i,rfl,h⟩<;>rfl
section
variable {vs:@BD}{β β1 β2:Int}{fa:VF D}{fr:@w}{d:D}{ds:List D}
def ac{fa:VF D}{fr:@w}(h:@AU=@Kg)(h':@Gi=.ok ds β):@Ue=.ok (d::ds) β:=by rw[fU,h];dsimp only[R.bnd];rw[h']
def an:ag vs β=@X6:=rfl
def tp(h:@Gi=.ok ds β)(hz:ds.length<=1000:=by simp):aW fr vs β=.ok @D7 β:=jN h hz
def lp(h:@Gi=.ok ds β)(hz:ds.length<=1000:=by simp):bo fr vs β=@Qo:=kU h hz
def ck(d:D):cst d vs β=@Kg:=rfl
end
def Dq{i:Int}(h: -1<=i/\i<=9):Jg @AJ:=.inr (.inr ⟨i,rfl,h⟩)
def Ij{d:D}(h:eG d=false):lA "list" d=some (.bool (match d with|.list _=>true|_=>false)):=by
 unfold lA;rw[h];cases d<;>rfl
def NI:D->Bool
 | .list _=>true
 |_=>false
theorem Ka{d:D}(h:NI d=true):∃ds,d=@WF:=by
 cases d with
 |list ds=>exact⟨ds,rfl⟩
 |_=>cases h
def Qu{fa:VF D}{vs:@BD}{β:Int}{d:D}(ha:@AU=@Kg)(h:eG d=false):f1 fa (lA "list") vs β=.ok (.bool (NI d)) β:=fG ha (by rw[Ij h];cases d<;>rfl)
def jv{fa:VF D}{vs:@BD}{β:Int}{ds:List D}(ha:@AU=@Qo):f1 fa cG vs β=.ok @JT β:=fG ha rfl
def Ge(e:D):Prop:=eG e=false/\∀es,e=.tuple es->es.length<=100/\∀x,x∈es->eG x=false
def SM(n:Int):D->Bool
 | .tuple [x,y]=>fK x n&&fK y n
 |_=>false
def Rf:@I:=aS 2 2 (oR ip)
theorem A8{es:List D}:(decide ((es.length:Int)=2)=false/\∀n,SM n (.tuple es)=false)\/∃x y,es= [x,y]:=by
 match es with
 | []=>exact .inl ⟨rfl,λ_=>rfl⟩
 | [_]=>exact .inl ⟨rfl,λ_=>rfl⟩
 | [x,y]=>exact .inr ⟨x,y,rfl⟩
 |_::_::_::_=>exact .inl ⟨UO (by simp;omega),λ_=>rfl⟩
theorem Tz{d:D}{n:Int}(h:Ge d):Rf @Vc=.ok (.bool (SM n d)) false:=by
 show fin (oR ip @K_ 0)=_
 unfold oR
 have g0:gv 0 (vl @K_) 0=.ok d 0:=rfl
 have t1:=MC g0 h.1
 cases hy:Hx d with
 |false=>
  rw[hy]at t1
  rw[gC (d:=@Ai) (b:=false) (β':=0) ?a]
  ·cases d<;>first|rfl|cases hy
  case a=>rw[eY (Hd (dz t1))];rfl
 |true=>
  obtain⟨es,rfl⟩:=CF hy
  rw[hy]at t1
  have t2:=MY (k:=2) g0
  rcases A8 (es:=es)with⟨q,z⟩|⟨x,y,rfl⟩
  ·rw[q]at t2
   rw[z n,gC (d:=@Ai) (b:=false) (β':=0) (by rw[eY @NX];rfl)];rfl
  ·rw[ax (env':=@KG) (β':=0) (by rw[dY @NX];rfl)]
   have hx:=(h.2 _ rfl).2 x (UG ..)
   have hy':=(h.2 _ rfl).2 y (UI _ (UG ..))
   have e1:ak ip (ae @Am @Ay) (vl @KG) 0=.ok (.bool (fK x n)) 0:=aq (ds:=[x,.int n]) rfl (pZ hx)
   have e2:ak ip (ae @Cd @Ay) (vl @KG) 0=.ok (.bool (fK y n)) 0:=aq (ds:=[y,.int n]) rfl (pZ hy')
   rw[cO,sQ e1 e2];rfl
def Sp(p:Pr):Prop:=(0<=p.1/\p.1<=8)/\(0<=p.2/\p.2<=8)
def GI{es:List D}(hl:es.length<=100)(h:∀x,x∈es->eG x=false):Ge (.tuple es):=⟨rfl,λes' e=>by cases e;exact⟨hl,h⟩⟩
def Dp{fa fb:VF D}{vs:@BD}{β:Int}{ds:List D}{i:Nat}(ha:@AU=@Qo)(hb:@MN=.ok (.int ((i:Nat):Int)) β):EH fa (EZ fb) (λ_ β=>@FY) vs β=.ok (.list (ds.drop i)) β:=by
 unfold EH EZ
 rw[ha];dsimp only[R.bnd]
 rw[hb];dsimp only[R.bnd]
 congr 2
 unfold cutD
 rw[HT.Ai,HT.CL]
 by_cases h:i<=ds.length
 ·rw[Nat.min_eq_left h];exact WM (by rw[WA];omega)
 ·rw[Nat.min_eq_right (@B),WY,List.drop_of_length_le (@B)];simp
def FK{fa fb:VF D}{vs:@BD}{β:Int}{ds:List D}{i:Nat}(ha:@AU=@Qo)(hb:@MN=.ok (.int ((i:Nat):Int)) β):EH fa (λ_ β=>@FY) (EZ fb) vs β=.ok (.list (ds.take i)) β:=by
 unfold EH EZ
 rw[ha];dsimp only[R.bnd]
 rw[hb];dsimp only[R.bnd]
 congr 2
 unfold cutD
 rw[HT.Ai,HT.CL]
 by_cases h:i<=ds.length
 ·rw[Nat.min_eq_left h];rfl
 ·rw[Nat.min_eq_right (@B),WM (show ds.length<=i by omega)];simp
end RM
namespace RM
open PySem PySem.Spec L2 PyProof.Rows
theorem uG:∀(ns acc:@E),acc.Nodup->(@Wt).length<=acc.length+ns.length/\((@Wt).length=acc.length+ns.length↔(ns.Nodup/\∀x,x∈ns->x∉acc))
 | [],acc,_=>by simp
 |n::ns,acc,hn=>by
  rw[foldl_cons]
  by_cases h:n∈acc
  ·have e:step_dedup acc n=acc:=by unfold step_dedup;rw[Uz (by simpa using h)]
   rw[e]
   obtain⟨h1,h2⟩:=uG ns acc hn
   refine⟨by rw[UY];omega,⟨λz=>?_,λz=>absurd h (z.2 n (UG ..))⟩⟩
   rw[UY]at z;omega
  ·have e:step_dedup acc n=acc++[n]:=by unfold step_dedup;rw[UJ (by simpa using h)]
   have hn':(acc++[n]).Nodup:=by
    rw[WS]
    refine⟨hn,Vy.mpr ⟨by simp,WW⟩,λa ha b hb=>?_⟩
    rw[UP]at hb
    subst hb
    exact λq=>h (q▸ha)
   rw[e]
   obtain⟨h1,h2⟩:=uG ns (acc++[n]) hn'
   rw[UL,U5]at h1 h2
   refine⟨by rw[UY];omega,?_⟩
   rw[UY,show acc.length+(ns.length+1)=acc.length+1+ns.length by omega,h2,Vy]
   constructor
   ·rintro⟨z1,z2⟩
    refine⟨⟨λq=>z2 n q @W,z1⟩,λx hx=>?_⟩
    rcases @P4 with rfl|hx
    ·exact h
    ·exact λq=>z2 x hx (VL _ q)
   ·rintro⟨⟨z1,z2⟩,z3⟩
    refine⟨z2,λx hx q=>?_⟩
    rcases UW.mp q with q|q
    ·exact z3 x @J3 q
    ·rw[UP]at q;subst q;exact z1 hx
def zk(ns:@E):vO ns=ns.length↔ns.Nodup:=by
 have e:firstMet (λi=>@GU) ns.length=ns.foldl step_dedup []:=by
  unfold firstMet
  congr 1
  refine Wh @W λi h1 h2=>?_
  simp[U2,h2]
 unfold vO
 rw[e]
 have:=(uG ns [] WW).2
 simpa using this
theorem rV:∀{l m:@E},l.Nodup->(∀x,x∈l->x∈m)->m.length<=l.length->l.Perm m
 | [],m,_,_,h=>by
  have:m= []:=List.length_eq_zero_iff.mp (by simpa using h)
  rw[this]
 |x::l,m,nd,hs,h=>by
  obtain⟨h1,h2⟩:=@SS
  have hx:x∈m:=hs x (UG ..)
  have pm:m.Perm (x::m.erase x):=List.perm_cons_erase hx
  refine(List.Perm.cons x (rV (m:=m.erase x) h2 (λy hy=>?_) ?_)).trans pm.symm
  ·have hy':=pm.mem_iff.mp (hs y @PU)
   rcases UD.mp hy' with rfl|q
   ·exact absurd hy h1
   ·exact q
  ·have:=pm.length_eq
   rw[UY]at this h
   omega
def tX{n:Nat}{r:@E}(hl:r.length=n)(hb:∀x,x∈r->0<=x/\x<n)(nd:r.Nodup):@B3:=rV nd (λx hx=>bh.mpr (hb x hx)) (by rw[cQ];omega)
noncomputable def u5(n:Nat)(d:D):Bool:=@decide (∃r:@E,d=tupI r/\@B3) @AL
def Na{n:Nat}{d:D}(h:u5 n d=true):∃r:@E,d=tupI r/\@B3:=@VI _ @AL h
def zG{n:Nat}{r:@E}(h:@B3):u5 n @Co=true:=@WI
def yN{n:Nat}{d:D}(h:∀r:@E,d=tupI r->¬@B3):u5 n d=false:=@UO _ @AL λ⟨r,e,p⟩=>h r e p
def qr{r q:@E}(h:tupI r=tupI q):r=q:=by
 unfold tupI at h
 have h:=PyData.tuple.inj h
 exact List.map_inj_right (λa b e=>int.inj e) |>.mp h
theorem D1{d:D}{n:Int}(h:fK d n=true):∃i:Int,d=.int i/\0<=i/\i<n:=by
 cases d with
 |int i=>exact⟨i,rfl,VI h⟩
 |_=>cases h
theorem wA{n:Int}:∀{ds:List D},(ds.all λe=>fK e n)=true->∃r:@E,ds=@D0/\∀x,x∈r->0<=x/\x<n
 | [],_=>⟨[],rfl,λx hx=>by cases hx⟩
 |d::ds,h=>by
  rw[W0,US]at h
  obtain⟨i,rfl,hi⟩:=D1 h.1
  obtain⟨r,rfl,hr⟩:=wA h.2
  refine⟨i::r,rfl,λx hx=>?_⟩
  rcases @P4 with rfl|hx
  ·exact hi
  ·exact hr x hx
def EC{n:Nat}{r:@E}(h:∀x,x∈r->0<=x/\x<(n:Int)):((@D0).all λe=>fK e n)=true:=by
 rw[WU,Ve]
 intro x hx
 exact UH (h x hx)
theorem i4:∀r:@E,kA (@D0)=some r
 | []=>rfl
 |x::r=>by
  have:=i4 r
  simp only[Vj,kA,this]
  try rfl
def Dx:@I:=aS 2 2 (o8 ip)
theorem Ol{n:Nat}{d:D}(h8:n<=100)(h:Ge d):Dx @Vc=.ok (.bool (u5 n d)) false:=by
 show fin (o8 ip @K_ 0)=_
 unfold o8
 have g0:gv 0 (vl @K_) 0=.ok d 0:=rfl
 have t1:=MC g0 h.1
 cases hy:Hx d with
 |false=>
  rw[hy]at t1
  rw[gC (d:=@Ai) (b:=false) (β':=0) (by rw[eY (Hd (dz t1))];rfl),yN]
  ·rfl
  ·intro r e;subst e;cases hy
 |true=>
  obtain⟨es,rfl⟩:=CF hy
  rw[hy]at t1
  have t2:dD (f2 @BH (gv 1) @CV) (vl @Li) 0=.ok (!decide ((es.length:Int)=n)) 0:=iw (neg:=true) (LW g0) rfl
  by_cases hl:es.length=n
  ·rw[UH (show(es.length:Int)=n by omega)]at t2
   rw[ax (env':=@Li) (β':=0) (by rw[dY @NX];rfl)]
   have hs:=(h.2 _ rfl).2
   have ec:aM 1 [1] @BN @FT iP (ak ip @Z) (vl @Li) 0=.ok (.list (es.map λe=>PyData.bool (fK e n))) 0:=
    wG (λe=>PyData.bool (fK e n)) rfl (@B) λe he=>⟨_,rfl,aq (ds:=[e,.int n]) rfl (pZ (hs e he))⟩
   have ea:=Dk ec
   rw[cO]
   cases hb:(es.all λe=>fK e n)with
   |false=>
    rw[hb]at ea
    rw[Mj ea,yN]
    ·rfl
    ·intro r e pm
     have e:=PyData.tuple.inj e
     subst e
     rw[EC λx hx=>bh.mp (pm.mem_iff.mp hx)]at hb
     cases hb
   |true=>
    rw[hb]at ea
    obtain⟨r,rfl,hr⟩:=wA hb
    have hrl:r.length=n:=by rw[Uw]at hl;exact hl
    have es:f1 (gv 0) tx (vl [.fz (@X9),.fz @z]) 0=.ok (.int (vO r)) 0:=by
     refine fG g0 ?_
     show(match kA (@D0)with|some ns=>if ns.length<=1000 then some (int (vO ns))else none|none=>none)=_
     rw[i4]
     exact Uz (@B)
    rw[LY ea (aF es rfl (oK false (vO r) n))]
    show FR.ok (.bool (decide ((vO r:Int)=(n:Int)))) false=_
    by_cases nd:r.Nodup
    ·have:=(zk r).mpr nd
     rw[UH (@B),show u5 n (@X9)=true from zG (tX hrl hr nd)]
    ·have:vO r≠r.length:=λq=>nd ((zk r).mp q)
     rw[UO (@B),yN]
     intro q e pm
     have e:=qr (r:=r) e
     subst e
     exact nd (@Wv)
  ·rw[UO (show ¬(es.length:Int)=n by omega)]at t2
   rw[gC (d:=@Ai) (b:=false) (β':=0) (by rw[eY @NX];rfl),yN]
   ·rfl
   ·intro r e pm
    have e:=PyData.tuple.inj e
    subst e
    have:=pm.length_eq
    rw[cQ]at this
    rw[Uw]at hl
    exact hl this
end RM
namespace RM
open PySem L2
def vt(r:@E):@E:=(List.range r.length).map λ(a:Nat)=>((r.idxOf (a:Int):Nat):Int)
def jn(r:@E)(k:Nat):@E:=(List.range r.length).map λ(a:Nat)=>if r.idxOf (a:Int)<k then((r.idxOf (a:Int):Nat):Int)else 0
def Ed{n:Nat}{r:@E}(h:@B3):jn r r.length=vt r:=by
 unfold jn vt
 refine Vu λa ha=>?_
 have hl:=h.length_eq
 rw[cQ]at hl
 have:=Vq.mp ha
 rw[Uz (VQ.mpr (@T9))]
def B7(r:@E):jn r 0=List.replicate r.length 0:=by
 unfold jn
 refine Wh @W λi h1 h2=>by simp
def B8{n:Nat}{r:@E}(h:@B3){k:Nat}{x:Int}(hk:r[k]? =some x):(jn r k).set x.toNat (k:Int)=jn r (k+1):=by
 have hl:=h.length_eq
 rw[cQ]at hl
 have hx:=bh.mp (h.mem_iff.mp (U1 hk))
 have nd:r.Nodup:=h.nodup_iff.mpr (g9 n)
 obtain⟨hkl,hke⟩:=Uy.mp hk
 have hix:r.idxOf x=k:=by rw[<-hke];exact nd.idxOf_getElem k hkl
 unfold jn
 refine Wh @W λi h1 h2=>?_
 have hi:i<r.length:=by simpa using h2
 rw[List.getElem_set]
 simp only[List.getElem_map,List.getElem_range]
 by_cases e:x.toNat=i
 ·rw[Uz e]
  have ex:(i:Int)=x:=@B
  rw[ex,hix,Uz (@B)]
 ·rw[UJ e]
  have:r.idxOf (i:Int)≠k:=λq=>by
   have hm:(i:Int)∈r:=@T9
   have h3:=Xd (VQ.mpr hm)
   simp only[q]at h3
   rw[hke]at h3
   omega
  by_cases z:r.idxOf (i:Int)<k
  ·rw[Uz z,Uz (@B)]
  ·rw[UJ z,UJ (@B)]
def Gq{n:Nat}{r:@E}(h:@B3){a:Int}(ha:0<=a/\a<n):ki (vt r) a=some ((@QF:Nat):Int):=by
 have hl:=h.length_eq
 rw[cQ]at hl
 have e:(a.toNat:Int)=a:=@B
 have:=iH (xs:=vt r) (j:=a.toNat) (v:=((@QF:Nat):Int)) (by
  unfold vt
  rw[UN,VX (@B)]
  simp only[W3,e])
 rw[e]at this
 exact this
def Nw:@I:=aS 4 1 p0
def Qr{n:Nat}{r:@E}{d:D}(h1:cG d=some (.int ((@D0).length:Nat)))(h2:ny d=some (@D0))(h100:n<=100)(h:@B3):Nw [d]=.ok (.list ((vt r).map int)) true:=by
 have hl:=h.length_eq
 rw[cQ]at hl
 show fin (p0 [@NY,.no,.no,.no] 0)=_
 unfold p0
 rw[ax (env':=[@NY,.ow (.list ((jn r 0).map int)),.no,.no]) (β':=0) ?a]
 case a=>
  have e:f2 @FD @BH pf (vl [@NY,.no,.no,.no]) 0=.ok (.list ((jn r 0).map int)) 0:=by
   refine aF (lp (ac (ck _) an)) (fG (x:=d) rfl h1) ?_
   rw[Uw,B7,List.map_replicate]
   simp only[pf]
   rw[Uz ?q]
   ·congr 2
    rw[Vd]
    induction r.length with
    |zero=>rfl
    |succ m ih=>first|rw[Vk,Vk,VU,ih];rfl|(simp[Vk]at ih ⊢;try exact ih)
   case q=>first|(constructor<;>first|omega|(show _<=_;simp;try omega))|(rw[Vi];simp;omega)
  rw[iu,e];rfl
 have ee:Ni (gv 0) (vl [@NY,.ow (.list ((jn r 0).map int)),.no,.no]) 0=.ok (cY (@D0)) 0:=by
  show(match ny d with|some ds=>R.ok (cY ds) 0|none=>.bad)=_
  rw[h2]
 obtain⟨env',β',ef,s,t,rfl,rfl⟩:=eS (t:=.two 2 3) (m:=@Uk) (ds:=cY (@D0)) (k:=0)
  (λk env β=>∃s t:Sl,env= [@NY,.ow (.list ((jn r k).map int)),s,t]/\β=0)
  (env:=[@NY,.ow (.list ((jn r 0).map int)),.no,.no]) (β:=0) @Y1 (by
   rintro k d env β hk ⟨s,t,rfl,rfl⟩
   unfold cY at hk
   rw[Wy,UN]at hk
   cases hx:r[k]? with
   |none=>rw[hx]at hk;cases hk
   |some x=>
    rw[hx]at hk
    cases hk
    have hxm:=bh.mp (h.mem_iff.mp (U1 hx))
    refine⟨[@NY,.ow (.list ((jn r (0+k)).map int)),@Al,@CW],rfl,?_⟩
    rw[Vo]
    refine⟨[@NY,.ow (.list ((jn r (k+1)).map int)),@Al,@CW],0,?_,_,_,rfl,rfl⟩
    rw[u4 (ds:=(jn r k).map int) (d:=.int k) (k:=x) (n:=x.toNat) (β1:=0) (β2:=0) rfl (by rfl) rfl (by rfl) ?b]
    ·rw[<-B8 h hx,List.map_set];rfl
    case b=>
     unfold vQ
     rw[Uz hxm.1,Uz (by rw[Uw];unfold jn;simp;omega)])
 have hle:(cY (@D0)).length=r.length:=by unfold cY;simp
 rw[Vo,hle,Ed h]at ef
 rw[ax (env':=[@NY,.ow (.list ((vt r).map int)),s,t]) (β':=0) (by
  rw[cL (env:=[@NY,.ow (.list ((jn r 0).map int)),.no,.no]) ee]
  exact ef)]
 rfl
def Rj{n:Nat}{r:@E}(h100:n<=100)(h:@B3):Nw @OF=.ok (.list ((vt r).map int)) true:=Qr rfl rfl h100 h
def yS(l:@F)(r:@E):Bool:=l.all λp=>decide (r.idxOf p.1<r.idxOf p.2)
def Row(n:Nat)(l:@F)(r:@E):Prop:=@B3/\yS l r=true
noncomputable def vT(n:Nat)(l:@F)(d:D):Bool:=@decide (∃r:@E,d=tupI r/\@CE) @AL
def QD{n:Nat}{l:@F}{d:D}(h:vT n l d=true):∃r:@E,d=tupI r/\@CE:=@VI _ @AL h
def yI{n:Nat}{l:@F}{r:@E}(h:@CE):vT n l @Co=true:=@WI
def L9{n:Nat}{l:@F}{d:D}(h:∀r:@E,d=tupI r->¬@CE):vT n l d=false:=@UO _ @AL λ⟨r,e,p⟩=>h r e p
noncomputable def OF:@I:=aS 3 2 (jg Dx Nw)
def Ho{n:Nat}{r:@E}(h:@B3){a b:Int}(ha:0<=a/\a<n)(hb:0<=b/\b<n){fp fa fb:VF D}{vs:@BD}{β:Int}(hp:fp vs β=.ok (.list ((vt r).map int)) β)(h1:@AU=.ok @BT β)(h2:@MN=.ok @SB β) :
  f2 (f2 fp fa bE) (f2 fp fb bE) rW vs β=.ok (.bool (decide (@QF<@Yq))) β:=by
 refine aF (aF hp h1 (show ki ((vt r).map int) a=_ by rw[jh,Gq h ha];rfl)) (aF hp h2 (show ki ((vt r).map int) b=_ by rw[jh,Gq h hb];rfl)) ?_
 show some (PyData.bool (decide (((@QF:Nat):Int)<((@Yq:Nat):Int))))=_
 congr 2
 rw[Va,UU,UU]
 omega
theorem Qb{n:Nat}{l:@F}{d:D}(O:@q)(h:Ge d):OF @Vd=.ok (.bool (vT n l d)) false:=by
 have h8:=O.hi
 show fin (jg Dx Nw [.fz d,@G,.no] 0)=_
 unfold jg
 have t:ie (ak Dx @V1) (vl [.fz d,@G,.no]) 0=.ok (u5 n d) 0:=dO (aq (ds:=@Vc) (ac rfl (ac (MR (n:=n) (l:=l) rfl) an)) (Ol (@B) h))
 cases q:u5 n d with
 |false=>
  rw[q]at t
  rw[gC (d:=@Ai) (b:=false) (β':=0) (by rw[eY (dz t)];rfl),L9]
  ·rfl
  ·rintro r rfl hr
   rw[zG hr.1]at q;cases q
 |true=>
  rw[q]at t
  obtain⟨r,rfl,pm⟩:=Na q
  rw[ax (env':=[@Ql,@G,.no]) (β':=0) (by rw[dY (dz t)];rfl)]
  rw[ax (env':=[@Ql,@G,.fz (.list ((vt r).map int))]) (β':=0) (by rw[bC,aq (ds:=@OF) (β1:=0) rfl (Rj (@B) pm)];rfl)]
  have ec:aM 2 [2] @Bt (bB @ES) iP @J9 (vl [@Ql,@G,.fz (.list ((vt r).map int))]) 0=.ok (.list (l.map λp=>PyData.bool (decide (r.idxOf p.1<r.idxOf p.2)))) 0:=by
   refine bV (l:=l) (e:=aG) (λp=>PyData.bool (decide (r.idxOf p.1<r.idxOf p.2))) rfl (by have:=ya O;omega) λp hp=>⟨_,rfl,?_⟩
   have hw:=O.wn p hp
   exact Ho pm hw.1 hw.2 rfl rfl rfl
  rw[cO,BC (f:=λp=>decide (r.idxOf p.1<r.idxOf p.2)) ec]
  show FR.ok (.bool (yS l r)) false=_
  cases qf:yS l r with
  |true=>rw[yI ⟨pm,qf⟩]
  |false=>
   rw[L9]
   rintro r' e hr
   have e:=qr e
   subst e
   rw[hr.2]at qf;cases qf
def Gt(d:D):Prop:=eG d=false/\∀ds,d=@WF->ds.length<=100/\∀e,e∈ds->Ge e
noncomputable def zi(n:Nat)(l:@F)(d:D):Bool:=@decide (∃rs:@AG,d=@y/\rs≠ []/\∀r,r∈rs->@CE) @AL
def OL{n:Nat}{l:@F}{d:D}(h:zi n l d=true):∃rs:@AG,d=@y/\rs≠ []/\∀r,r∈rs->@CE:=@VI _ @AL h
def xj{n:Nat}{l:@F}{rs:@AG}(h1:rs≠ [])(h:∀r,r∈rs->@CE):zi n l (@y)=true:=@UH _ @AL ⟨rs,rfl,h1,h⟩
def Ba{n:Nat}{l:@F}{d:D}(h:∀rs:@AG,d=@y->rs≠ []->∃r,r∈rs/\¬@CE):zi n l d=false:=@UO _ @AL λ⟨r,e,h1,h2⟩=>by
 obtain⟨x,hx,hn⟩:=h r e h1
 exact hn (h2 x hx)
theorem all_rows{n:Nat}{l:@F}:∀{ds:List D},ds.all (vT n l)=true->∃rs:@AG,ds=rs.map tupI/\∀r,r∈rs->@CE
 | [],_=>⟨[],rfl,λr hr=>by cases hr⟩
 |d::ds,h=>by
  rw[W0,US]at h
  obtain⟨r,rfl,hr⟩:=QD h.1
  obtain⟨rs,rfl,hrs⟩:=all_rows h.2
  refine⟨r::rs,rfl,λx hx=>?_⟩
  rcases @P4 with rfl|hx
  ·exact hr
  ·exact hrs x hx
noncomputable def SU:@I:=aS 2 2 (lX OF)
theorem Sg{n:Nat}{l:@F}{d:D}(O:@q)(h:Gt d):SU @Vd=.ok (.bool (zi n l d)) false:=by
 show fin (lX OF [.fz d,@G] 0)=_
 unfold lX
 have e1:=Qu (fa:=gv 0) (vs:=vl [.fz d,@G]) (β:=0) rfl h.1
 cases q:NI d with
 |false=>
  rw[q]at e1
  rw[gC (d:=@Ai) (b:=false) (β':=0) (by rw[eY (Hd @Xs)];rfl),Ba]
  ·rfl
  ·rintro rs rfl;cases q
 |true=>
  rw[q]at e1
  obtain⟨ds,rfl⟩:=Ka q
  have hd:=h.2 ds rfl
  have t2:dD (f2 @BH @M @A5) (vl [.fz @Ej,@G]) 0=.ok (decide ((ds.length:Int)=0)) 0:=iw (neg:=false) (jv rfl) rfl
  cases ds with
  |nil=>
   rw[gC (d:=@Ai) (b:=false) (β':=0) (by rw[eY (xt @Xs t2)];rfl),Ba]
   ·rfl
   ·intro rs e hne
    have e:=@Q1
    cases rs with
    |nil=>exact absurd rfl hne
    |cons=>cases e
  |cons x ds=>
   rw[UO (by simp;omega)]at t2
   rw[ax (env':=[.fz (.list (x::ds)),@G]) (β':=0) (by rw[dY (xt @Xs t2)];rfl)]
   have ec:aM 1 [1] @BN @FT iP (ak OF @Z) (vl [.fz (.list (x::ds)),@G]) 0=.ok (.list ((x::ds).map λe=>@XN)) 0:=
    wG (λe=>@XN) rfl (@B) λe he=>⟨_,rfl,aq (ds:=[e,au n l]) rfl (Qb O (hd.2 e he))⟩
   rw[cO,Dk (f:=vT n l) ec]
   cases qa:(x::ds).all (vT n l)with
   |true=>
    obtain⟨rs,e,hrs⟩:=all_rows qa
    rw[e,xj (by rintro rfl;cases e) hrs];rfl
   |false=>
    rw[Ba]
    ·rfl
    ·intro rs e hne
     have e:=@Q1
     rw[e,WU,List.all_eq_false]at qa
     obtain⟨r,hr,hx⟩:=qa
     exact⟨r,hr,λz=>hx (yI z)⟩
def IB(rs:@AG)(p:Pr):Bool:=rs.all λr=>decide (r.idxOf p.1<r.idxOf p.2)
def RN:@I:=aS 3 3 iF
def CH{α:Type}{fa:VF D}{vs:@BD}{β:Int}{l:@Bl}{f:α->Bool}(h:@AU=.ok (.list (l.map λq=>@Ii)) β):f1 fa (bQ λbs=>@Cz) vs β=@Hd:=by
 refine fG h ?_
 simp only[bQ]
 rw[g8]
 simp[WU,Function.comp_def]
def RZ{n:Nat}{rs:@AG}(hz:rs.length<=1000)(hp:∀r,r∈rs->@B3){a b:Int}(ha:0<=a/\a<n)(hb:0<=b/\b<n):RN [.list (rs.map λr=>.list ((vt r).map int)),.int a,.int b]=.ok (.bool (IB rs (a,b))) false:=by
 show fin (iF [.fz (.list (rs.map λr=>.list ((vt r).map int))),@HQ,@DY] 0)=_
 unfold iF
 have ec:aM 1 [1,2] @BN @FT iP (f2 @I_ @JA rW) (vl [.fz (.list (rs.map λr=>.list ((vt r).map int))),@HQ,@DY]) 0=.ok (.list (rs.map λr=>PyData.bool (decide (@QF<@Yq)))) 0:=
  bV (l:=rs) (e:=λr=>.list ((vt r).map int)) (λr=>PyData.bool (decide (@QF<@Yq))) rfl (@B) λr hr=>⟨_,rfl,Ho (hp r hr) ha hb rfl rfl rfl⟩
 rw[cO,CH ec];rfl
noncomputable def Rt:@I:=aS 3 2 (iJ Nw mE RN)
def M8{n:Nat}{rs:@AG}(h1:1<=n)(h8:n<=8)(hz:rs.length<=1000)(hp:∀r,r∈rs->@B3):Rt [.int n,@y]=.ok (.tuple (((@CD).filter @Sj).map aG)) false:=by
 show fin (iJ Nw mE RN @YZ 0)=_
 unfold iJ
 have e1:aM 1 [] @BN @F8 iP (ak Nw @Q) (vl @YZ) 0=.ok (.list (rs.map λr=>.list ((vt r).map int))) 0:=
  bV (l:=rs) (e:=tupI) (λr=>.list ((vt r).map int)) rfl (@B) λr hr=>⟨_,rfl,aq (ds:=@OF) rfl (Rj (@B) (hp r hr))⟩
 rw[ax (env':=[.fz @z,.fz (@y),.fz (.list (rs.map λr=>.list ((vt r).map int)))]) (β':=0) (by rw[bC,e1];rfl)]
 have hg:(@CD).length<=64:=by rw[fT];exact @WW
 have e2:aM 2 [2] @Bt (bB (ak mE @Q)) (ie (ak RN @Oa)) (aW @Z) (vl [.fz @z,.fz (@y),.fz (.list (rs.map λr=>.list ((vt r).map int)))]) 0=.ok (.list (((@CD).filter @Sj).map aG)) 0:=by
  refine cy (l:=@CD) (e:=aG) @Sj aG ?_ (@B) λp hp'=>⟨_,rfl,?_,λ_=>@Yd ⟩
  ·unfold bB
   rw[aq (ds:=@OC) (β1:=0) rfl (C3 h1 h8)];rfl
  ·have:=OM.b9.mp hp'
   exact dO (aq (ds:=[.list (rs.map λr=>.list ((vt r).map int)),.int p.1,.int p.2]) rfl (RZ hz hp this.1 this.2))
 rw[cO,fG (g:=oj) e2 rfl];rfl
def Q8{n:Nat}{rs:@AG}(h1:1<=n)(h8:n<=8)(hz:rs.length<=100)(hp:∀r,r∈rs->@B3):Rt [.int n,@y]=.ok (.tuple (((@CD).filter @Sj).map aG)) false:=M8 h1 h8 (@B) hp
theorem any_ints(a:Int):∀s:@E,((s.map int).any λe=>PyData.eqv e @BT)=decide (a∈s)
 | []=>rfl
 |b::s=>by
  rw[Vj,Ws,any_ints a s]
  show((b==a)||_)=_
  rw[Va]
  simp only[VR,beq_iff_eq,UU,UD]
  exact⟨λh=>@NG,λh=>@NG ⟩
def DS(s:@E):(s.map int).all SeqAt.shaped=true:=by
 rw[Ve]
 intro d hd
 obtain⟨p,_,rfl⟩:=@WT
 rfl
def Gf{a b:List D}(h:a.length+b.length<=1000):tY (.tuple a) (.tuple b)=some (.tuple (a++b)):=Uz (by rw[Vi];omega)
def E1(l:@F)(r:@E)(x:Int):@E:=(l.filter λp=>decide (p.2=x) && !decide (p.1∈r)).map (·.1)
def kQ{l:@F}{r:@E}{x a:Int}:a∈@QN ↔(a,x)∈l/\a∉r:=by
 unfold E1
 rw[U4]
 constructor
 ·rintro⟨p,hp,rfl⟩
  have:=UE.mp hp
  simp only[US,UU,Vw,Vn]at this
  obtain⟨pa,pb⟩:=p
  obtain⟨h1,h2,h3⟩:=this
  simp only at h2 h3
  subst h2
  exact⟨h1,h3⟩
 ·rintro⟨h1,h2⟩
  exact⟨(a,x),UE.mpr ⟨h1,by simp[h2]⟩,rfl⟩
def DU{n:Nat}{l:@F}(O:@q)(r:@E)(x:Int):(@QN).Nodup:=by
 unfold E1
 rw[Wv,Xj]
 refine Xc (λ{a b} ha hb h e=>h ?_) (Wv.mp ((OM.wJ O.ris).filter _))
 have h1:=(UE.mp ha).2
 have h2:=(UE.mp hb).2
 simp only[US,UU]at h1 h2
 exact Prod.ext e (h1.1.trans h2.1.symm)
theorem least{n:Nat}{l:@F}(O:@q)(r:@E):∀(k:Nat) (x:Int),(0<=x/\x<n)->x∉r->(@QN).length<=k->∃y:Int,(0<=y/\y<n)/\y∉r/\E1 l r y= []
 | 0,x,hx,hr,hk=>⟨x,hx,hr,@RY ⟩
 |k+1,x,hx,hr,hk=>by
  by_cases he:@QN= []
  ·exact⟨x,hx,hr,he⟩
  ·obtain⟨a,ha⟩:=List.exists_mem_of_ne_nil _ he
   obtain⟨h1,h2⟩:=kQ.mp ha
   refine least O r k a (O.wn _ h1).1 h2 ?_
   have nd:(a::E1 l r a).Nodup:=Vy.mpr ⟨λq=>O.irr a (kQ.mp q).1,DU O r a⟩
   have:=L2.ST.j6 nd (m:=@QN) λy hy=>by
    rcases UD.mp hy with rfl|hy
    ·exact ha
    ·obtain⟨q1,q2⟩:=kQ.mp hy
     exact kQ.mpr ⟨O.tr _ _ _ q1 h1,q2⟩
   rw[UY]at this
   omega
structure vq(n:Nat)(l:@F)(r:@E):Prop where
 nd:r.Nodup
 inn:∀x,x∈r->0<=x/\x<(n:Int)
 fit:∀p,p∈l->p.2∈r->p.1∈r/\r.idxOf p.1<r.idxOf p.2
def vq.len{n:Nat}{l:@F}{r:@E}(B:@I2):r.length<=n:=by
 have:=L2.ST.j6 B.nd (m:=eh n) λx hx=>bh.mpr (B.inn x hx)
 rwa [cQ]at this
def vq.row{n:Nat}{l:@F}{r:@E}(O:@q)(B:@I2)(h:n<=r.length):@CE:=by
 have pm:=tX (Nat.le_antisymm B.len h) B.inn B.nd
 refine⟨pm,Ve.mpr λp hp=>UH ?_⟩
 exact(B.fit p hp (pm.mem_iff.mpr (bh.mpr (O.wn p hp).2))).2
def fF(l:@F)(r:@E)(x:Int):Bool:= !decide (x∈r)&&decide (@QN= [])
def vq.more{n:Nat}{l:@F}{r:@E}{x:Int}(B:@I2)(hx:0<=x/\x<(n:Int))(hf:fF l r x=true):vq n l (r++[x]):=by
 unfold fF at hf
 rw[US,Vw,Vn,UU]at hf
 obtain⟨h1,h2⟩:=hf
 refine⟨?_,λy hy=>?_,λp hp hm=>?_⟩
 ·rw[WS]
  refine⟨B.nd,Vy.mpr ⟨by simp,WW⟩,λa ha b hb=>?_⟩
  rw[UP]at hb
  subst hb
  exact λq=>h1 (q▸ha)
 ·rcases UW.mp hy with hy|hy
  ·exact B.inn y hy
  ·rw[UP]at hy;subst hy;exact hx
 ·rcases UW.mp hm with hm|hm
  ·obtain⟨q1,q2⟩:=B.fit p hp hm
   refine⟨VL _ q1,?_⟩
   rw[V7,V7,Uz q1,Uz hm]
   exact q2
  ·rw[UP]at hm
   have hp1:p.1∈r:=by
    by_cases z:p.1∈r
    ·exact z
    ·have:p.1∈@QN:=kQ.mpr ⟨by rw[<-hm];exact hp,z⟩
     rw[h2]at this;cases this
   refine⟨VL _ hp1,?_⟩
   rw[V7,V7,Uz hp1,UJ (by rw[hm];exact h1)]
   have:=VQ.mpr hp1
   omega
def vq.free{n:Nat}{l:@F}{r:@E}(O:@q)(B:@I2)(h:r.length<n):(eh n).filter (fF l r)≠ []:=by
 have:∃x,x∈eh n/\x∉r:=by
  apply Classical.byContradiction
  intro z
  have:=L2.ST.j6 (g9 n) (m:=r) λx hx=>Classical.byContradiction λq=>z ⟨x,hx,q⟩
  rw[cQ]at this
  omega
 obtain⟨x,hx,hr⟩:=this
 obtain⟨y,hy,hyr,hp⟩:=least O r _ x (bh.mp hx) hr (UC _)
 intro q
 have:y∈(eh n).filter (fF l r):=UE.mpr ⟨bh.mpr hy,by unfold fF;simp[hyr,hp]⟩
 rw[q]at this
 cases this
def a7(l:@F)(r:@E)(i:Nat):@E:=(eh i).filter (fF l r)
def HK(i:Nat):eh (i+1)=eh i++[(i:Int)]:=by unfold eh;rw[List.range_succ,U7];rfl
def wW(l:@F)(r:@E)(i:Nat):a7 l r (i+1)=a7 l r i++if fF l r (i:Int)=true then[(i:Int)]else[]:=by
 unfold a7
 rw[HK,Xf]
 congr 1
 by_cases h:fF l r (i:Int)=true
 ·rw[Uz h];simp[h]
 ·rw[UJ h];simp[h]
def km(l:@F)(r:@E)(i:Nat):(a7 l r i).length<=i:=by
 have:(a7 l r i).length<=(eh i).length:=Vg _ _
 rwa [cQ]at this
end RM
namespace RM
open PySem L2 PyProof.Rows
def mk(f:Nat->Bool):Nat->Nat
 | 0=>0
 |n+1=>mk f n ||| if f n=true then 2^n else 0
theorem dH(f:Nat->Bool):∀(n i:Nat),(mk f n).testBit i=(decide (i<n)&&f i)
 | 0,i=>by simp[mk]
 |n+1,i=>by
  unfold mk
  rw[Nat.testBit_or,dH f n i]
  by_cases h:f n=true
  ·rw[Uz h,Nat.testBit_two_pow]
   by_cases e:n=i
   ·subst e;simp[h]
   ·have e2:decide (i<n)=decide (i<n+1):=by
     rw[VG];omega
    simp[e,e2]
  ·rw[UJ h]
   by_cases e:i=n
   ·subst e;simp[h]
   ·have e2:decide (i<n)=decide (i<n+1):=by
     rw[VG];omega
    simp[e2]
def mk_eq{f g:Nat->Bool}{n:Nat}:mk f n=mk g n↔∀i,i<n->f i=g i:=by
 constructor
 ·intro h i hi
  have:=congrArg (λx=>x.testBit i) h
  simp only[dH,UH hi,Bool.true_and]at this
  exact this
 ·intro h
  apply V6
  intro i
  rw[dH,dH]
  by_cases hi:i<n
  ·rw[h i hi]
  ·rw[UO hi];simp
def gP(f:Nat->Bool)(t:Nat):Nat->Bool:=λi=>f i||decide (i=t)
def Mb{f:Nat->Bool}{n t:Nat}(h:t<n):mk f n ||| 2^t=@QC:=by
 apply V6
 intro i
 rw[Nat.testBit_or,dH,dH,Nat.testBit_two_pow]
 unfold gP
 by_cases e:t=i
 ·subst e;simp[h]
 ·have e':¬i=t:=λq=>e q.symm
  simp[e,e']
def NP{f g:Nat->Bool}{n:Nat}:(mk f n &&& mk g n=mk g n)↔∀i,i<n->g i=true->f i=true:=by
 have e:mk f n &&& mk g n=mk (λi=>f i&&g i) n:=by
  apply V6
  intro i
  rw[Nat.testBit_and,dH,dH,dH]
  by_cases h:i<n
  ·simp[h]
  ·simp[h]
 rw[e,mk_eq]
 constructor
 ·intro h i hi hg
  have:=h i hi
  rw[hg,Bool.and_true]at this
  exact this
 ·intro h i hi
  cases hg:g i with
  |false=>simp
  |true=>rw[h i hi hg];rfl
def wY(a b:Nat):Builtin.bitOr (a:Int) (b:Int)=((a ||| b:Nat):Int):=by
 have h1:¬(0<=Builtin.bitNot (a:Int)):=by show ¬(0<= -(a:Int)-1);omega
 have h2:¬(0<=Builtin.bitNot (b:Int)):=by show ¬(0<= -(b:Int)-1);omega
 show Builtin.bitNot (Builtin.bitAnd (Builtin.bitNot a) (Builtin.bitNot b))=_
 rw[bitAnd_nn h1 h2]
 have e1:Builtin.bitNot (Builtin.bitNot (a:Int))=a:=by show -(-(a:Int)-1)-1=a;omega
 have e2:Builtin.bitNot (Builtin.bitNot (b:Int))=b:=by show -(-(b:Int)-1)-1=b;omega
 rw[e1,e2]
 show -(-((((a:Int).toNat ||| (b:Int).toNat:Nat):Int))-1)-1=_
 rw[Vd,Vd];omega
def A7(a b:Nat):Builtin.bitAnd (a:Int) (b:Int)=((a &&& b:Nat):Int):=by
 rw[bitAnd_pp (@B) (@B),Vd,Vd]
def mI(f:Nat->Bool)(n:Nat):D:=.int ((mk f n:Nat):Int)
def Iw:∀t:Nat,t<8->AY (.int 1) (.int (t:Int))=some (.int ((2^t:Nat):Int)):=by
 intro t ht
 have:t=0\/t=1\/t=2\/t=3\/t=4\/t=5\/t=6\/t=7:=@B
 rcases this with rfl|rfl|rfl|rfl|rfl|rfl|rfl|rfl<;>rfl
def mS:@I:=aS 2 2 jB
def xX{f:Nat->Bool}{n t:Nat}(h8:n<=8)(h:t<n):mS [mI f n,.int (t:Int)]=.ok (mI (gP f t) n) false:=by
 show fin (jB [.fz (mI f n),@RQ] 0)=_
 unfold jB
 rw[cO,aF (x:=mI f n) (y:=.int ((2^t:Nat):Int)) (d:=mI (gP f t) n) (β1:=0) (β2:=0) rfl (aF (x:=.int 1) (y:=.int t) rfl rfl (Iw t (@B))) ?a]
 ·rfl
 case a=>
  show @Rn=_
  rw[wY,Mb h];rfl
def bR(n:Nat)(M:Nat->Nat->Bool):D:=.list ((@Ap).map λb=>@RC)
def bA(l:@F)(b a:Nat):Bool:=decide ((((a:Nat):Int),((b:Nat):Int))∈l)
def Fm{n b:Nat}{M:Nat->Nat->Bool}(h:b<n):ki ((@Ap).map λb=>@RC) (b:Int)=some (@RC):=iH (by rw[UN,VX h];rfl)
def Jf:@I:=aS 4 1 (jb mS)
def orM(M:Nat->Nat->Bool)(p:Pr)(b a:Nat):Bool:=M b a||(decide ((b:Int)=p.2)&&decide ((a:Int)=p.1))
def NV{n:Nat}{M:Nat->Nat->Bool}{p:Pr}(h1:0<=p.1/\p.1<n)(h2:0<=p.2/\p.2<n):((@Ap).map λb=>@RC).set p.2.toNat (mI (gP (M p.2.toNat) p.1.toNat) n)=(@Ap).map λb=>mI (orM M p b) n:=by
 refine Wh @W λi h3 h4=>?_
 rw[List.getElem_set]
 simp only[List.getElem_map,List.getElem_range]
 unfold mI
 by_cases e:p.2.toNat=i
 ·rw[Uz e]
  congr 2
  rw[mk_eq]
  intro j hj
  unfold gP orM
  rw[e]
  have e1:((i:Nat):Int)=p.2:=@B
  rw[UH e1,Bool.true_and]
  congr 1
  rw[VG];omega
 ·rw[UJ e]
  congr 2
  rw[mk_eq]
  intro j hj
  unfold orM
  rw[UO (@B:¬((i:Nat):Int)=p.2)];simp
theorem Df{n:Nat}{l:@F}(h8:n<=8):∀(ps:@F) (M:Nat->Nat->Bool) (s2 s3:Sl),@Qz->∃M' s2' s3',ib @Uz (p9 1 (@V++([2]++[])) [] (ak mS @I9) (gv 3)) @C7 [@G,@RS,s2,s3] 0=.nx [@G,.ow (bR n M'),s2',s3'] 0/\∀b a,b<n->a<n->M' b a=(M b a||bA ps b a)
 | [],M,s2,s3,_=>⟨M,s2,s3,rfl,λb a _ _=>by unfold bA;simp⟩
 |p::ps,M,s2,s3,wn=>by
  have hp:=wn p (UG ..)
  obtain⟨M',s2',s3',e,hM⟩:=Df (l:=l) h8 ps (orM M p) (.fz (.int p.1)) (.fz (.int p.2)) λq hq=>wn q (UI _ hq)
  refine⟨M',s2',s3',?_,λb a hb ha=>?_⟩
  ·rw[Vj]
   unfold ib
   rw[show gW @Uz (aG p) [@G,@RS,s2,s3]=some [@G,@RS,.fz (.int p.1),.fz (.int p.2)]from rfl]
   dsimp only
   have e1:(p.2.toNat:Int)=p.2:=@B
   have e2:(p.1.toNat:Int)=p.1:=@B
   have ew:ak mS @I9 (vl [@G,@RS,.fz (.int p.1),.fz (.int p.2)]) 0=.ok (mI (gP (M p.2.toNat) p.1.toNat) n) 0:=by
    refine aq (b:=false) (ds:=[mI (M p.2.toNat) n,.int (p.1.toNat:Int)]) (ac (aF (x:=bR n M) (y:=.int p.2) rfl rfl ?_) (ac ?_ an)) @Hb
    ·have:=Fm (n:=n) (M:=M) (b:=p.2.toNat) (@B)
     rw[e1]at this
     exact this
    ·show R.ok (int p.1) 0=_
     rw[e2]
   rw[u4 (ds:=(@Ap).map λb=>@RC) (d:=mI (gP (M p.2.toNat) p.1.toNat) n) (k:=p.2) (n:=p.2.toNat) (β1:=0) (β2:=0) ew (by rfl) rfl (by rfl) (by
    unfold vQ
    rw[Uz hp.2.1,Uz (by simp;omega)]),NV hp.1 hp.2]
   dsimp only
   exact e
  ·rw[hM b a hb ha]
   unfold orM bA
   obtain⟨p1,p2⟩:=p
   rw[Bool.or_assoc]
   congr 1
   rw[Va]
   simp only[VR,US,UU,UD,Prod.mk.injEq]
   constructor
   ·rintro(⟨h1,h2⟩|h)
    ·exact .inl ⟨h2,h1⟩
    ·exact .inr h
   ·rintro(⟨h1,h2⟩|h)
    ·exact .inl ⟨h2,h1⟩
    ·exact .inr h
def Eo{n:Nat}{M N:Nat->Nat->Bool}(h:∀b a,b<n->a<n->M b a=N b a):bR n M=bR n N:=by
 unfold bR
 congr 1
 refine Vu λb hb=>?_
 unfold mI
 congr 2
 rw[mk_eq]
 exact λa ha=>h b a (Vq.mp hb) ha
def Ks{n:Nat}{l:@F}(O:@q):Jf @BM=.ok (@A2) true:=by
 have h8:=O.hi
 show fin (jb mS [@G,.no,.no,.no] 0)=_
 unfold jb
 rw[ax (env':=[@G,.ow (bR n λ_ _=>false),.no,.no]) (β':=0) ?a]
 case a=>
  have e:f2 @FD @Am pf (vl [@G,.no,.no,.no]) 0=.ok (bR n λ_ _=>false) 0:=by
   refine aF (lp (ac (ck _) an)) (MR (n:=n) (l:=l) rfl) ?_
   simp only[pf]
   rw[Uz ⟨@B,@B,by rw[Vi];simp;omega⟩]
   unfold bR
   congr 2
   rw[Vd]
   have hz:∀m,mk (λ_=>false) m=0:=λm=>by
    induction m with
    |zero=>rfl
    |succ m ih=>unfold mk;rw[ih];simp
   unfold mI
   simp only[hz]
   have:∀m:Nat,(List.replicate m [int 0]).flatten=List.replicate m (int 0):=λm=>by
    induction m with
    |zero=>rfl
    |succ m ih=>rw[Vk,Vk,VU,ih];rfl
   rw[this]
   refine Wh @W λi h1 h2=>by simp
  rw[iu,e];rfl
 obtain⟨M',s2,s3,e,hM⟩:=Df (l:=l) h8 l (λ_ _=>false) .no .no O.wn
 have hm:bR n M'=@A2:=Eo λb a hb ha=>by rw[hM b a hb ha];rfl
 rw[hm]at e
 rw[ax (env':=[@G,.ow (@A2),s2,s3]) (β':=0) (by
  rw[cL (env:=[@G,.ow (bR n λ_ _=>false),.no,.no]) (ds:=l.map aG) (β1:=0) (by unfold bB;rw[O4 (n:=n) (l:=l) rfl];rfl)]
  exact e)]
 rfl
end RM
namespace RM
open PySem L2
def cj(r:@E)(i:Nat):Bool:=decide ((i:Int)∈r)
def zY:@I:=aS 5 2 (ja mS)
def Hr{n:Nat}{l:@F}(O:@q){r:@E}{t:Nat}(ht:t<n):(!decide (mk (gP (cj r) t) n=@In)&&decide (@In &&& mk (bA l t) n=mk (bA l t) n))=fF l r t:=by
 unfold fF
 congr 1
 ·congr 1
  rw[VG,mk_eq]
  constructor
  ·intro h
   have:=h t ht
   unfold gP cj at this
   simp at this
   exact this
  ·intro h i hi
   unfold gP cj
   by_cases e:i=t
   ·subst e;simp[h]
   ·simp[e]
 ·rw[VG,NP]
  constructor
  ·intro h
   rw[List.eq_nil_iff_forall_not_mem]
   intro a ha
   obtain⟨h1,h2⟩:=kQ.mp ha
   have hw:=(O.wn _ h1).1
   simp only at hw
   have e:((a.toNat:Nat):Int)=a:=@B
   have:=h a.toNat (@B) (by unfold bA;rw[e];exact UH h1)
   unfold cj at this
   rw[e]at this
   exact h2 (VI this)
  ·intro h i hi hg
   unfold cj
   refine UH (Classical.byContradiction λq=>?_)
   have:(i:Int)∈E1 l r t:=kQ.mpr ⟨VI hg,q⟩
   rw[h]at this;cases this
def JG{n:Nat}{l:@F}(O:@q)(r:@E):∃s3 s4,ib (.two 3 4) (ji ((([1]++([3]++[]))++[])++(@V++[])) (IE @FK @DX)
  @Qf lU) (cY ((@Ap).map λb=>@DR)) @KH 0=.nx [@P,@n,.ow (.list ((@Au).map int)),s3,s4] 0:=by
 have h8:=O.hi
 obtain⟨env',β',ef,s3,s4,rfl,rfl⟩:=eS (t:=.two 3 4) (m:=ji ((([1]++([3]++[]))++[])++(@V++[])) (IE @FK @DX)
  @Qf lU) (ds:=cY ((@Ap).map λb=>@DR)) (k:=0)
  (λk env b=>∃s3 s4,env= [@P,@n,.ow (.list ((@P8).map int)),s3,s4]/\b=0)
  (env:=@KH) (β:=0) @Y1 (by
   rintro k d env b hk ⟨s3,s4,rfl,rfl⟩
   unfold cY at hk
   rw[Wy,UN]at hk
   have hkn:k<n:=by
    by_cases h:k<n
    ·exact h
    ·rw[V3 (by simp;omega)]at hk;cases hk
   rw[VX hkn]at hk
   cases hk
   refine⟨[@P,@n,.ow (.list ((a7 l r (0+k)).map int)),@Al,@FX],rfl,?_⟩
   rw[Vo]
   have et:IE @FK @DX (vl [@P,@n,.ow (.list ((@P8).map int)),@Al,@FX]) 0=.ok (fF l r k) 0:=by
    rw[<-Hr O hkn]
    refine Hn (fL _ _ _ _ (aF (x:=mI (gP (cj r) k) n) (y:=@E2) (aq (ds:=[@E2,.int k]) rfl (xX h8 hkn)) rfl ?_)) (fL _ _ _ _ (aF (x:=.int ((@In &&& mk (bA l k) n:Nat):Int)) (y:=mI (bA l k) n) (aF (x:=@E2) (y:=mI (bA l k) n) rfl rfl ?_) rfl ?_))
    ·unfold mI;rw[oK,Uz rfl];congr 3;rw[VG];omega
    ·show some (int (Builtin.bitAnd _ _))=_
     rw[A7]
    ·unfold mI;rw[oK,UJ UQ];congr 2;rw[VG];omega
   cases c:fF l r (k:Int)with
   |true=>
    rw[c]at et
    refine⟨[@P,@n,.ow (.list ((a7 l r (k+1)).map int)),@Al,@FX],0,?_,_,_,rfl,rfl⟩
    rw[eY et]
    have hz:=km l r k
    rw[show bj ((([1]++([3]++[]))++[])++(@V++[])) [@P,@n,.ow (.list ((@P8).map int)),@Al,@FX]= [@P,@n,.ow (.list ((@P8).map int)),@Al,@FX]from rfl]
    rw[oQ (i:=2) (ds:=(@P8).map int) (d:=.int k) (β':=0) (by rfl) rfl (by rfl) (by rw[Uw];omega),wW,Uz c,U7]
    rfl
   |false=>
    rw[c]at et
    refine⟨[@P,@n,.ow (.list ((a7 l r (k+1)).map int)),@Al,@FX],0,?_,_,_,rfl,rfl⟩
    rw[dY et,wW,c,show @P8++(if false=true then[(k:Int)]else[])=@P8 by simp]
    rfl)
 have hle:(cY ((@Ap).map λb=>@DR)).length=n:=by unfold cY;simp
 rw[Vo,hle]at ef
 exact⟨s3,s4,ef⟩
def Jp{n:Nat}{l:@F}(O:@q)(r:@E):zY [@A2,@E2]=.ok (.list ((@Au).map int)) true:=by
 show fin (ja mS [@P,@n,.no,.no,.no] 0)=_
 unfold ja
 rw[ax (env':=@KH) (β':=0) (by rw[iu,lp (ds:=[]) an];rfl)]
 obtain⟨s3,s4,e⟩:=JG O r
 rw[ax (env':=[@P,@n,.ow (.list ((@Au).map int)),s3,s4]) (β':=0) (by
  rw[cL (env:=@KH) (ds:=cY ((@Ap).map λb=>@DR)) (β1:=0) rfl]
  exact e)]
 rfl
noncomputable def OW:@I:=aS 6 2 (kM zY mS)
structure OB(n:Nat)(l:@F)(late r:@E):Prop where
 beg:@I2
 late:∀q x,(q++[x]) <+:r->x∈late->∀y:Int,(0<=y/\y<n)->fF l q y=true->y∈late
def zH(neg:Bool)(a:Int)(s:@E):qk neg @BT (.list (s.map int))=some (.bool (if neg then !decide (a∈s)else decide (a∈s))):=by
 unfold qk
 simp only[ny,DS,any_ints]
 rfl
def OB.more{n:Nat}{l:@F}{late r:@E}{x:Int}(R:@MH)(hx:0<=x/\x<(n:Int))(hf:fF l r x=true)(hl:x∈late->∀y:Int,(0<=y/\y<n)->fF l r y=true->y∈late):OB n l late (r++[x]):=by
 refine⟨R.beg.more hx hf,λq z hp hz y hy hfy=>?_⟩
 rcases List.prefix_concat_iff.mp hp with e|hp
 ·have:=List.append_inj' e rfl
  obtain⟨rfl,e2⟩:=this
  cases e2
  exact hl hz y hy hfy
 ·exact R.late q z hp hz y hy hfy
def BS(n:Nat):mI (cj []) n=.int 0:=by
 unfold mI
 congr 1
 have:mk (cj []) n=0:=by
  induction n with
  |zero=>rfl
  |succ m ih=>unfold mk;rw[ih];simp[cj]
 rw[this];rfl
def xD{n:Nat}{r:@E}{x:Int}(h:0<=x/\x<n):mI (gP (cj r) x.toNat) n=mI (cj (r++[x])) n:=by
 unfold mI
 congr 2
 rw[mk_eq]
 intro i hi
 unfold gP cj
 rw[Va]
 simp only[VR,UU,UW,UP]
 constructor
 ·rintro(h|h)
  ·exact .inl h
  ·exact @X1
 ·rintro(h|h)
  ·exact .inl h
  ·exact @X1
def Qm{n:Nat}{l:@F}{late:@E}(O:@q)(hz:late.length<=100):∃r,OW [@A2,.list (late.map int)]=@Pj/\@CE/\@MH:=by
 have h8:=O.hi
 show ∃r,fin (kM zY mS [@P,@AK,.no,.no,.no,.no] 0)=@Pj/\@CE/\@MH
 unfold kM
 rw[ax (env':=[@P,@AK,.ow (.list (([]:@E).map int)),.no,.no,.no]) (β':=0) (by rw[iu,lp (ds:=[]) an];rfl)]
 rw[ax (env':=[@P,@AK,.ow (.list (([]:@E).map int)),@Fu,.no,.no]) (β':=0) (by rw[bC,BS];rfl)]
 obtain⟨env',β',ew,r,s4,s5,rfl,rfl,hr,R⟩:=gH (L:=[]++[]) (t:=dD @Sw)
  (m:=aI (ba 4 ([0]++([3]++[])) (ak zY @F6))
   (aI @NO
   (aI (l0 2 (@V++[]) (f2 @NR @M bE))
   (ba 3 ([3]++(@V++[])) (ak mS @N4)))))
  (λk env b=>∃r s4 s5,env= @GO/\b=0/\@MH/\k=n-r.length)
  (λenv b=>∃r s4 s5,env= @GO/\b=0/\@CE/\@MH)
  (n:=1000) (k:=n) (env:=[@P,@AK,.ow (.list (([]:@E).map int)),@Fu,.no,.no]) (β:=0) (@B)
  ⟨[],.no,.no,rfl,rfl,⟨⟨WW,(λx hx=>by cases hx),(λp _ h=>by cases h)⟩,λq x hp=>by simp at hp⟩,by simp⟩ (by
   rintro k env b ⟨r,s4,s5,rfl,rfl,R,rfl⟩
   have hrl:=R.beg.len
   have et:dD @Sw (vl @GO) 0=.ok (decide ((r.length:Int)<n)) 0:=by
    refine fL _ _ _ _ (aF (x:=.int r.length) (y:=.int n) (β1:=0) ?_ ?_ rfl)
    ·rw[jv (ds:=@D0) rfl,Uw]
    ·rw[jv (ds:=(@Ap).map λb=>@DR) rfl,Uw,Vm]
   refine⟨_,_,et,?_⟩
   by_cases hlt:r.length<n
   ·refine .inr ⟨UH (@B),?_⟩
    show ∃env2 β2 k',aI _ _ @GO 0=@Dw/\k'<n-r.length/\_
    rw[ax (env':=[@P,@AK,@A0,@n,.fz (.list ((@Au).map int)),s5]) (β':=0) (by rw[bC,aq (ds:=[@A2,@E2]) (β1:=0) rfl (Jp O r)];rfl)]
    have ec:aM 1 [1] @BN @HO @CO (gv 0) (vl [@P,@AK,@A0,@n,.fz (.list ((@Au).map int)),s5]) 0=.ok (.list (((@Au).filter λx=> !decide (x∈late)).map int)) 0:=by
     refine cy (l:=@Au) (e:=int) (λx=> !decide (x∈late)) int rfl (by have:=km l r n;omega) λx hx=>⟨_,rfl,?_,λ_=>rfl⟩
     exact fL _ _ _ _ (aF (x:=.int x) (y:=.list (late.map int)) rfl rfl (zH true x late))
    generalize hEE:((@Au).filter λx=> !decide (x∈late))=EE at ec
    rw[ax (env':=[@P,@AK,@A0,@n,.fz (.list ((@Au).map int)),@FE]) (β':=0) (by rw[bC,ec];rfl)]
    have hne:@Au ≠ []:=R.beg.free O hlt
    have hEl:EE.length<=n:=by rw[<-hEE];exact Vp @Vz (km l r n)
    have hfl:=km l r n
    obtain⟨x,L,hx⟩:∃x L,EE++@Au=x::L:=List.exists_cons_of_ne_nil (by simp[hne])
    have hxm:x∈@Au:=by
     have:x∈EE++@Au:=by rw[hx];exact UG ..
     rcases UW.mp this with h|h
     ·rw[<-hEE]at h;exact(UE.mp h).1
     ·exact h
    obtain⟨hm1,hm2⟩:=UE.mp hxm
    have hxr:=bh.mp hm1
    have hlate:x∈late->∀y:Int,(0<=y/\y<n)->fF l r y=true->y∈late:=λhxl y hy hfy=>by
     apply Classical.byContradiction
     intro hn
     have hyE:y∈EE:=by rw[<-hEE];exact UE.mpr ⟨UE.mpr ⟨bh.mpr hy,hfy⟩,by simp[hn]⟩
     cases hE:EE with
     |nil=>rw[hE]at hyE;cases hyE
     |cons z Z=>
      rw[hE,List.cons_append]at hx
      have e1:=(List.cons.inj hx).1
      have:z∈EE:=by rw[hE];exact UG ..
      rw[<-hEE]at this
      have:=(UE.mp this).2
      rw[e1]at this
      simp[hxl]at this
    have R':=R.more hxr hm2 hlate
    rw[ax (env':=[@P,@AK,.ow (.list ((r++[x]).map int)),@n,.fz (.list ((@Au).map int)),@FE]) (β':=0) ?bb]
    case bb=>
     have ei:f2 @NR @M bE (vl [@P,@AK,@A0,@n,.fz (.list ((@Au).map int)),@FE]) 0=@X5:=by
      refine aF (x:=.list ((EE++@Au).map int)) (y:=.int 0) (aF (x:=.list (EE.map int)) (y:=.list ((@Au).map int)) rfl rfl ?_) rfl ?_
      ·rw[me (by rw[Uw,Uw];omega),U7]
      ·rw[hx];exact iH (xs:=.int x::L.map int) (j:=0) rfl
     rw[oQ (i:=2) (ds:=@D0) (d:=.int x) (β':=0) (by rfl) ei (by rfl) (by rw[Uw];omega),U7]
     rfl
    have e1:(x.toNat:Int)=x:=@B
    have el:f2 (gv 2) @DU bE (vl [@P,@AK,.ow (.list ((r++[x]).map int)),@n,.fz (.list ((@Au).map int)),@FE]) 0=.ok (.int (x.toNat:Int)) 0:=by
     refine aF (x:=.list ((r++[x]).map int)) (y:=.int (-1)) rfl rfl ?_
     show ki ((r++[x]).map int) (-1)=_
     rw[e1]
     unfold ki vQ
     rw[UJ (@B),Uz (by simp;omega)]
     show((r++[x]).map int)[((-1:Int)+((((r++[x]).map int).length:Nat):Int)).toNat]? =_
     rw[show((-1:Int)+((((r++[x]).map int).length:Nat):Int)).toNat=r.length by simp;omega,U7,U9 @W]
     simp
    refine⟨[@P,@AK,.ow (.list ((r++[x]).map int)),.fz (mI (cj (r++[x])) n),.fz (.list ((@Au).map int)),@FE],0,n-(r++[x]).length,?_,by rw[UL,U5];omega,_,_,_,rfl,rfl,R',rfl⟩
    rw[bC,aq (ds:=[@E2,.int (x.toNat:Int)]) (β1:=0) (ac rfl (ac el an)) @Hb,xD hxr];rfl
   ·refine .inl ⟨UO (@B),r,s4,s5,rfl,rfl,R.beg.row O (@B),R⟩)
 rw[ax (env':=@GO) (β':=0) ew]
 exact⟨r,rfl,hr,R⟩
def nk(l:@F)(x y:Int):Bool:=decide (x=y)||decide ((x,y)∈l)
def gi{l:@F}{x y:Int}:nk l x y=true↔x=y\/(x,y)∈l:=by unfold nk;simp
def xW{n:Nat}{l:@F}(O:@q){x y z:Int}(h:nk l x y=true)(k:nk l y z=true):nk l x z=true:=by
 rw[gi]at *
 rcases h with rfl|h
 ·exact k
 ·rcases k with rfl|k
  ·exact .inr h
  ·exact .inr (O.tr _ _ _ h k)
def putL(n:Nat)(l:@F)(t:Pr):@F:=(@CD).filter λp=>decide (p∈l)||(nk l p.1 t.2&&nk l t.1 p.2)
def nO{n:Nat}{l:@F}{t p:Pr}(h:(0<=p.1/\p.1<n)/\(0<=p.2/\p.2<n)):p∈@Fs ↔p∈l\/(nk l p.1 t.2=true/\nk l t.1 p.2=true):=by
 unfold putL
 rw[UE,OM.b9,VR,US,UU]
 exact⟨λh=>h.2,λk=>⟨h,k⟩⟩
def pQ{n:Nat}{l:@F}{t p:Pr}(h:p∈@Fs):p∈l\/(nk l p.1 t.2=true/\nk l t.1 p.2=true):=by
 unfold putL at h
 have:=(UE.mp h).2
 rw[VR,US,UU]at this
 exact this
def LH{n:Nat}{l:@F}{t:Pr}(O:@q)(h:nk l t.1 t.2=false):OM.Ord n (@Fs):=by
 have hn:¬nk l t.1 t.2=true:=by rw[h];exact UQ
 refine⟨O.lo,O.hi,λp hp=>OM.b9.mp (UE.mp hp).1,@Ie,λa ha=>?_,λa b c hab hbc=>?_⟩
 ·rcases pQ ha with q|⟨q1,q2⟩
  ·exact O.irr a q
  ·exact hn (xW O q2 q1)
 ·have g1:=OM.b9.mp (UE.mp hab).1
  have g2:=OM.b9.mp (UE.mp hbc).1
  refine(nO (p:=(a,c)) ⟨g1.1,g2.2⟩).mpr ?_
  rcases pQ hab with q|⟨q1,q2⟩
  ·rcases pQ hbc with r|⟨r1,r2⟩
   ·exact .inl (O.tr _ _ _ q r)
   ·exact .inr ⟨xW O (gi.mpr (.inr q)) r1,r2⟩
  ·rcases pQ hbc with r|⟨r1,r2⟩
   ·exact .inr ⟨q1,xW O q2 (gi.mpr (.inr r))⟩
   ·exact .inr ⟨q1,r2⟩
def CY{n:Nat}{l:@F}{t p:Pr}(O:@q)(h:p∈l):p∈@Fs:=(nO (O.wn p h)).mpr (.inl h)
def uF{n:Nat}{l:@F}{t:Pr}(h:(0<=t.1/\t.1<n)/\(0<=t.2/\t.2<n)):(t.2,t.1)∈@Fs:=(nO ⟨h.2,h.1⟩).mpr (.inr ⟨@TX,@TX ⟩)
def Ld:@I:=aS 3 3 (mw mS)
def NH{n:Nat}{l:@F}{a b:Int}(h8:n<=8)(ha:0<=a/\a<n)(hb:0<=b/\b<n):Ld [@A2,.int a,.int b]=.ok (.bool (decide ((a,b)∈l))) false:=by
 have ea:((a.toNat:Nat):Int)=a:=@B
 have eb:((b.toNat:Nat):Int)=b:=@B
 show fin (mw mS [@P,@HQ,@DY] 0)=_
 unfold mw
 have em:f2 (gv 0) (gv 2) bE (vl [@P,@HQ,@DY]) 0=.ok (mI @Fh n) 0:=by
  refine aF (x:=@A2) (y:=.int b) rfl rfl ?_
  have:=Fm (n:=n) (M:=bA l) (b:=b.toNat) (@B)
  rw[eb]at this
  exact this
 rw[cO,aF (x:=mI @Ru n) (y:=mI @Fh n) (d:=.bool (decide ((a,b)∈l))) (β1:=0) (β2:=0) (aq (b:=false) (ds:=[mI @Fh n,.int (a.toNat:Int)]) (ac em (ac (by rw[ea];rfl) an)) @Hb) em ?z]
 ·rfl
 case z=>
  unfold mI
  rw[oK,UJ UQ]
  congr 2
  rw[VG]
  constructor
  ·intro h
   have h:mk @Ru n=mk @Fh n:=@B
   have:=mk_eq.mp h a.toNat (@B)
   unfold gP bA at this
   rw[ea,eb]at this
   simpa using this
  ·intro h
   have:mk @Ru n=mk @Fh n:=mk_eq.mpr λi hi=>by
    unfold gP bA
    by_cases e:i=a.toNat
    ·rw[e,ea,eb];simp[h]
    ·simp[e]
   rw[this]
def Ht:@I:=aS 2 2 (kZ Ld)
def N6{n:Nat}{l:@F}{t:Pr}(h8:n<=8)(h:(0<=t.1/\t.1<n)/\(0<=t.2/\t.2<n)):Ht [@A2,aG t]=.ok (.bool (decide (t∈l))) false:=by
 show fin (kZ Ld [@P,@Aq] 0)=_
 unfold kZ
 rw[cO,aq (ds:=[@A2,.int t.1,.int t.2]) (β1:=0) rfl (NH h8 h.1 h.2)];rfl
def Om{f g:Nat->Bool}{n:Nat}:mk f n ||| mk g n=mk (λi=>f i||g i) n:=by
 apply V6
 intro i
 rw[Nat.testBit_or,dH,dH,dH]
 by_cases h:i<n<;>simp[h]
noncomputable def Ox:@I:=aS 4 2 (mU Ld mS)
def Tq{n:Nat}{l:@F}{t:Pr}(h8:n<=8)(h:(0<=t.1/\t.1<n)/\(0<=t.2/\t.2<n)):Ox [@A2,aG t]=.ok (bR n (bA (@Fs))) true:=by
 have e2:((t.2.toNat:Nat):Int)=t.2:=@B
 show fin (mU Ld mS @R5 0)=_
 unfold mU
 have el:f1 (gv 0) cG (vl @R5) 0=.ok @z 0:=by
  rw[jv (ds:=(@Ap).map λb=>@DR) rfl,Uw,Vm]
 have ec:aM 1 [1,0] @BN (dM @BH) (rA @U5 (ie (ak Ld (@Np)))) (gv 0) (vl @R5) 0=.ok (.list (((eh n).filter λx=>nk l t.1 x).map int)) 0:=by
  refine cy (l:=eh n) (e:=int) (λx=>nk l t.1 x) int ?_ (by rw[cQ];omega) λx hx=>⟨@HX,rfl,?_,λ_=>rfl⟩
  ·rw[<-xc];exact eO (n:=n) el (@B)
  ·have hx:=bh.mp hx
   have:=LS (iw (neg:=false) (fa:=gv 0) (fb:=f2 (gv 1) @M bE) (vs:=@HX) (β:=0) (i:=x) (j:=t.1) rfl rfl) (dO (aq (F:=Ld) (fr:=@Np) (vs:=@HX) (β:=0) (ds:=[@A2,.int t.1,.int x]) rfl (NH h8 h.1 hx)))
   rw[this]
   congr 1
   unfold nk
   rw[UJ UQ]
   congr 1
   rw[VG];exact⟨Eq.symm,Eq.symm⟩
 rw[ax (env':=[@P,@Aq,.fz (.list (((eh n).filter λx=>nk l t.1 x).map int)),.no]) (β':=0) (by rw[bC,ec];rfl)]
 have em:f2 (gv 0) @ES bE (vl [@P,@Aq,.fz (.list (((eh n).filter λx=>nk l t.1 x).map int)),.no]) 0=.ok (mI (bA l t.2.toNat) n) 0:=by
  refine aF (x:=@A2) (y:=.int t.2) rfl (aF rfl rfl rfl) ?_
  have:=Fm (n:=n) (M:=bA l) (b:=t.2.toNat) (@B)
  rw[e2]at this
  exact this
 rw[ax (env':=[@P,@Aq,.fz (.list (((eh n).filter λx=>nk l t.1 x).map int)),.fz (mI (gP (bA l t.2.toNat) t.2.toNat) n)]) (β':=0) (by
  rw[bC,aq (b:=false) (ds:=[mI (bA l t.2.toNat) n,.int (t.2.toNat:Int)]) (β1:=0) (ac em (ac (by rw[e2];rfl) an)) @Hb];rfl)]
 have ed:aM 2 [2,3] @Bt (FN (gv 0)) iP @HD (vl [@P,@Aq,.fz (.list (((eh n).filter λx=>nk l t.1 x).map int)),.fz (mI (gP (bA l t.2.toNat) t.2.toNat) n)]) 0=.ok (bR n (bA (@Fs))) 0:=by
  unfold bR
  refine bV (l:=@Ap) (e:=λb=>.tuple [.int b,@DR]) (λb=>mI (bA (@Fs) b) n) ?_ (by rw[Vm];omega) λb hb=>⟨[.da @SB,.da (@DR),.da (.list (((eh n).filter λx=>nk l t.1 x).map int)),.da (mI (gP (bA l t.2.toNat) t.2.toNat) n)],rfl,?_⟩
  ·show R.ok (cY ((@Ap).map λb=>@DR)) 0=_
   congr 1
   unfold cY
   refine Wh @W λi h1 h2=>by simp
  ·have hbn:=Vq.mp hb
   have hmem:decide ((b:Int)∈(eh n).filter λx=>nk l t.1 x)=nk l t.1 b:=by
    rw[Va,UU,UE]
    exact⟨λh=>h.2,λh=>⟨bh.mpr @Bz,h⟩⟩
   have et:dD (f2 (gv 0) (gv 2) @Qg) [.da @SB,.da (@DR),.da (.list (((eh n).filter λx=>nk l t.1 x).map int)),.da (mI (gP (bA l t.2.toNat) t.2.toNat) n)] 0=.ok (nk l t.1 b) 0:=by
    rw[<-hmem]
    exact fL _ _ _ _ (aF (x:=.int b) (y:=.list (((eh n).filter λx=>nk l t.1 x).map int)) rfl rfl (zH false b _))
   rw[MQ,et]
   show(if nk l t.1 b=true then _ else _)=_
   have key:∀a,a<n->bA (@Fs) b a=(bA l b a||(nk l a t.2&&nk l t.1 b)):=λa ha=>by
    unfold bA
    rw[Va,UU,nO ⟨⟨by simp only;omega,by simp only;omega⟩,⟨by simp only;omega,by simp only;omega⟩⟩,VR,US,UU]
   by_cases c:nk l t.1 b=true
   ·rw[Uz c]
    refine aF (x:=@DR) (y:=mI (gP (bA l t.2.toNat) t.2.toNat) n) rfl rfl ?_
    show @Rn=_
    rw[wY,Om]
    unfold mI
    congr 3
    rw[mk_eq]
    intro a ha
    rw[key a ha,c,Bool.and_true]
    unfold gP nk bA
    rw[e2]
    congr 1
    rw[Bool.or_comm]
    congr 1
    rw[VG];omega
   ·rw[UJ c]
    show R.ok (@DR) 0=_
    unfold mI
    congr 3
    rw[mk_eq]
    intro a ha
    rw[key a ha]
    have c:nk l t.1 b=false:=by simpa using c
    rw[c,Bool.and_false,Bool.or_false]
 rw[zu,ed];rfl
structure WP(r:SO)(Q:SO->Prop):Prop where
 out:Q r
section
variable {m m' m1 m2:SF}{env env1:En}{β β1 β2 z:Int}{Q:SO->Prop}{f fa fb:VF D}{t:@CQ}{d e:D}{L La Lb:@c}{i j:Nat}{c:Bool}
def wp_at(env1:En)(e:env=env1)(k:WP (@QB) Q):WP (@Gk) Q:=by rw[e];exact k
def wp_seq(h:@Gk=.nx env1 β1)(k:WP (m' env1 β1) Q):WP (@Iy) Q:=by rw[ax h];exact k
theorem BB(h:WP (aI m lU env β) Q):WP (@Gk) Q:=by
 obtain⟨h⟩:=h
 unfold aI at h
 cases e:@Gk with
 |_=>rw[e]at h;exact⟨h⟩
def wB(q:Q (@VE)):WP (lU env β) Q:=⟨q⟩
def dJ(h:@C0=@DM)(k:WP (m' ((@HK).set i (.fz d)) β1) Q):WP (aI (ba i L f) m' env β) Q:=wp_seq (by unfold ba;rw[h];rfl) k
def Kw(h:@C0=@DM)(k:WP (m' ((@HK).set i (.ow d)) β1) Q):WP (aI (jw i L f) m' env β) Q:=wp_seq (by unfold jw;rw[h];rfl) k
def Kk(h:@C0=.ok (@Of) β1)(k:WP (m' ((vW @AD).set i .bx) z) Q):WP (aI (Di i L f) m' env β) Q:=wp_seq (by unfold Di;rw[h];rfl) k
def tf(h:@C0=@DM)(k:WP (m' @AD β1) Q):WP (@No) Q:=wp_seq (by unfold du;rw[h];rfl) k
def NQ{ds:List D}(hi:env[i]? =@Bb)(h:@C0=@DM)(hL:(@AD)[i]? =@Bb)(hz:ds.length<=1000)(k:WP (m' ((@HK).set i (.ow (.list (ds++[d])))) β1) Q):WP (aI (l0 i L f) m' env β) Q:=wp_seq (oQ hi h hL hz) k
def mJ(h:@MQ=@L_)(k:WP (m' @AD β1) Q):WP (aI (ji L t m1 lU) m' env β) Q:=wp_seq (by rw[dY h];rfl) k
def qc(h:@MQ=@RR)(k:WP (aI m1 m' @AD β1) Q):WP (@TU) Q:=by
 have:@TU=aI m1 m' @AD β1:=by unfold aI;rw[eY h]
 rw[this];exact k
def Sx(h:@MQ=@RR)(k:WP (m1 @AD β1) Q):@T6:=by rw[eY h];exact k
def MZ(h:@MQ=@L_)(k:WP (m2 @AD β1) Q):@T6:=by rw[dY h];exact k
def fM(h:@C0=@DM)(q:Q (.rt d false β1)):WP (bM f env β) Q:=⟨by unfold bM;rw[h];exact q⟩
def qG(h:@C0=@DM)(q:Q (.rt d false β1)):WP (aI (bM f) m' env β) Q:=⟨by unfold aI bM;rw[h];exact q⟩
def K3(h:@C0=@DM)(q:Q (.rt d true β1)):WP (kT f env β) Q:=⟨by unfold kT;rw[h];exact q⟩
def fJ{R:FR}(h:WP (@Gk) λr=>fin r=R):fin (@Gk)=R:=h.out
def GP{t:Tg}{fi:@w}{ds:List D}(I:Nat->En->Int->Prop)(hi:@Wg=@FG)(h0:I 0 @AD β1)
  (hs:∀i d env β,ds[i]? =some d->I i env β->∃env1,@Hi=@JP/\WP (@QB) λr=>∃env2 β2,r=@Dw/\I (i+1) env2 β2)
  (k:∀env β,I ds.length env β->@MY):@IA:=by
 obtain⟨env',β',e,h⟩:=eS (t:=t) (m:=m) I (ds:=ds) (k:=0) h0 λi d env β hd h=>by
  rw[Vo]at h
  obtain⟨env1,e1,⟨env2,β2,e2,h2⟩⟩:=hs i d env β hd h
  exact⟨env1,e1,env2,β2,e2,by rw[Vo];exact h2⟩
 rw[Vo]at h
 exact wp_seq ((cL hi).trans e) (k _ _ h)
def GB{n:Nat}(I:Nat->En->Int->Prop)(Dn:En->Int->Prop)(b:Nat)(hb:b<n)(h0:I b env β)
  (hs:∀k env β,I k env β->∃c β1,@MQ=@X7/\((c=false/\Dn @AD β1)\/(c=true/\WP (m @AD β1) λr=>∃env2 β2 k',r=@Dw/\k'<k/\I k' env2 β2)))
  (k:∀env β,Dn env β->@MY):WP (aI (iC L t m n) m' env β) Q:=by
 obtain⟨env',β',e,h⟩:=gH (L:=L) (t:=t) (m:=m) I Dn (n:=n) hb h0 λk env β h=>by
  obtain⟨c,β1,e1,h⟩:=hs k env β h
  refine⟨c,β1,e1,?_⟩
  rcases h with h|⟨h1,⟨h2⟩⟩
  ·exact .inl h
  ·exact .inr @Uo
 exact wp_seq e (k _ _ h)
end
def Iu(c:Int)(hc:0<=c/\c<=100)(ns:@E)(vs:@BD)(β:Int)(h:gv 0 vs β=.ok (de ns) β):∃m:Nat,m<=101/\dM (f2 @H (f2 @BH (cst (.int c)) (vN λi j=>.int (if j<i then j else i))) (vN λi j=>.int (if j>i then j else i))) vs β=.ok (dB 0 m) β:=by
 have e1:f2 @H (f2 @BH (cst (.int c)) (vN λi j=>.int (if j<i then j else i))) (vN λi j=>.int (if j>i then j else i)) vs β=.ok (.int (if(if c<((@Cu).length:Int)then c else((@Cu).length:Int))>1 then(if c<((@Cu).length:Int)then c else((@Cu).length:Int))else 1)) β:=
  aF (x:=.int 1) rfl (aF (x:=.int (@Cu).length) (y:=.int c) (fG h rfl) rfl rfl) rfl
 generalize((@Cu).length:Nat)=k at e1
 refine⟨(if(if c<(k:Int)then c else(k:Int))>1 then(if c<(k:Int)then c else(k:Int))else 1).toNat,?_,eO (e1.trans ?_) ?_⟩
 ·split<;>split<;>omega
 ·congr 2
  split<;>split<;>omega
 ·split<;>split<;>omega
def It(d:D):Prop:=eG d=false/\Sq 400 8 d/\Bf d
def Th(d:D):Prop:=Ge d/\Sq 10000 9 d/\Bf d
def Ap(P:D->Prop)(k:Nat)(es:List D):Prop:=es.length<=k/\∀x,x∈es->P x
abbrev Al:Nat->List D->Prop:=Ap It
def Jg.it{d:D}(h:Jg d):It d:=⟨h.scr,h.sq.mono (@B) (@B),h.bf⟩
def M6{i:Int}(h: -1<=i/\i<=9):It @AJ:=(Dq h).it
def Kr{k:Nat}{r:@E}(hl:r.length<=k)(h:∀x,x∈r->0<=x/\x<9):Al k (@D0):=⟨by rw[Uw];exact hl,λx hx=>by
 obtain⟨y,hy,rfl⟩:=U4.mp hx
 exact M6 (by have:=h y hy;omega)⟩
def Ap.tup{k:Nat}{a:List D}(h:Al k a)(hk:k<=24):Th (.tuple a):=by
 have:=h.1
 refine⟨GI (@B) λx hx=>(h.2 x hx).1,(Hh (c:=400) (k:=8) λd hd=>(h.2 d hd).2.1).mono ?_ (@B),FE λd hd=>(h.2 d hd).2.2⟩
 have:(400+2)*a.length<=402*24:=VT (@B) (@B)
 omega
def Ot{r:@E}(hl:r.length<=9)(h:∀x,x∈r->0<=x/\x<9):It @Co:=by
 have sm:∀d,d∈@D0->Jg d:=λd hd=>by
  obtain⟨y,hy,rfl⟩:=@WT
  exact Dq (by have:=h y hy;omega)
 refine⟨rfl,(Hh (c:=20) (k:=0) λd hd=>(sm d hd).sq).mono ?_ (@B),FE λd hd=>(sm d hd).bf⟩
 rw[Uw]
 have:(20+2)*r.length<=22*9:=VT (@B) hl
 omega
def Pb{n:Nat}{r:@E}(h8:n<=8)(hp:@B3):r.length=n/\∀x,x∈r->0<=x/\x<9:=⟨by rw[hp.length_eq,cQ],λx hx=>by have:=bh.mp (hp.mem_iff.mp hx);omega⟩
def IQ{ds:List D}{k:Nat}(h:k<ds.length):∃d,ds[k]? =some d/\d∈ds/\ki ds (k:Int)=some d:=⟨ds[k],UB h,List.getElem_mem h,iH (UB h)⟩
def Rk{fa fb:VF D}{vs:@BD}{β β1 β2:Int}{a b:List D}(h1:@AU=.ok (.tuple a) β1)(h2:@Et=.ok (.tuple b) β2)(hz:a.length+b.length<=1000):f2 fa fb tY vs β=.ok (.tuple (a++b)) β2:=aF h1 h2 (Gf hz)
def HF{fa fb:VF D}{vs:@BD}{β β1 β2:Int}{a b:List D}(h1:@AU=.ok (.list a) β1)(h2:@Et=.ok (.list b) β2)(hz:a.length+b.length<=1000):f2 fa fb jL vs β=.ok (.list (a++b)) β2:=aF h1 h2 (me (@B))
def T6{fa:VF D}{vs:@BD}{β:Int}{i:Nat}(h:@AU=.ok (.int (i:Nat)) β):f2 fa @H b7 vs β=.ok (.int ((i+1:Nat):Int)) β:=aF h rfl (by show some (int ((i:Int)+1))=_;rw[show((i+1:Nat):Int)=(i:Int)+1 by omega])
section
variable {m m' m1 m2:SF}{env env1:En}{β β1 β2 z:Int}{Q:SO->Prop}{f fa fb:VF D}{t:@CQ}{d e:D}{L La Lb:@c}{i j:Nat}{c:Bool}
theorem KI(h:WP (@Gk) λr=>(∀a b,r≠.nx a b)/\Q r):WP (@Iy) Q:=by
 obtain⟨h1,h2⟩:=h.out
 refine⟨?_⟩
 unfold aI
 cases e:@Gk with
 |nx a b=>exact absurd e (h1 a b)
 |_=>rw[e]at h2;exact h2
end
def Ig(d:D):Prop:=Ge d/\Sq 400 8 d/\Bf d
def ON{r:@E}(hl:r.length<=9)(h:∀x,x∈r->0<=x/\x<9):Ig @Co:=⟨(Kr (k:=9) hl h).tup (@B) |>.1,(Ot hl h).2⟩
def sf(l:@F)(p q:Pr):Bool:=decide (p.1=q.2)||decide ((p.1,q.2)∈l)
def Gn:@I:=aS 3 3 mB
theorem JZ(n:Nat)(l:@F)(p q:Pr):Gn @Kr=.ok (.bool (sf l p q)) false:=by
 show fin (mB @De 0)=_
 unfold mB
 have i0:f2 (gv 1) @M bE (vl @De) 0=.ok (.int p.1) 0:=aF (x:=aG p) (y:=.int 0) rfl rfl rfl
 have i1:f2 (gv 2) @H bE (vl @De) 0=.ok (.int q.2) 0:=aF (x:=aG q) (y:=.int 1) rfl rfl rfl
 have e1:f2 @Bc @IX @A5 (vl @De) 0=.ok (.bool (decide (p.1=q.2))) 0:=aF i0 i1 (oK false p.1 q.2)
 have e2:f2 @UF @Cd @Qg (vl @De) 0=.ok (.bool (decide ((p.1,q.2)∈l))) 0:=aF (x:=aG (p.1,q.2)) (fW i0 i1) (O4 (n:=n) (l:=l) rfl) (qM false (p.1,q.2) l)
 rw[cO]
 unfold sf
 cases c:decide (p.1=q.2)with
 |true=>rw[c]at e1;rw[Sw e1];rfl
 |false=>rw[c]at e1;rw[Tv e1 e2];rfl
def Qq(l:@F)(ps:@F):Bool:=(List.range ps.length).all λi=>sf l (ps.getD (if i=0 then ps.length-1 else i-1) (0,0)) (ps.getD i (0,0))
def Lw{i:Nat}{L:@c}{f:VF D}{env:En}{β β':Int}{ds es:List D}(hi:env[i]? =@Bb)(hf:@C0=.ok (.list es) β')(hL:(@AD)[i]? =@Bb)(hz:ds.length+es.length<=10000) :
  Ee i L f env β=.nx ((@HK).set i (.ow (.list (ds++es)))) β':=by
 unfold Ee
 rw[Uz (by rw[hi];rfl),hf]
 exact y6 hL (Uz (by rw[Vi];omega))
def putAll(n:Nat)(l:@F)(put:@F):@F:=put.foldl (putL n) l
theorem uQ{n:Nat}{U:Int->Prop}:∀{put l:@F},(∀u v,(u,v)∈l->U u->U v)->(∀t,t∈put->U t.2->U t.1)->∀u v,(u,v)∈@r->U u->U v
 | [],l,h0,_=>h0
 |t::put,l,h0,h1=>by
  have q:∀u v,nk l u v=true->U u->U v:=λu v h hu=>by
   rcases gi.mp h with rfl|h
   ·exact hu
   ·exact h0 _ _ h hu
  refine uQ (put:=put) (l:=@Fs) (λu v h hu=>?_) (λx hx=>h1 x @J3)
  rcases pQ h with h|⟨a,b⟩
  ·exact h0 _ _ h hu
  ·exact q _ _ b (h1 t (UG ..) (q _ _ a hu))
def RA(l:@F)(p:@F):Prop:=∀i a b,p[i]? =some a->p[i+1]? =some b->sf l a b=true
structure RI(l put:@F)(t:Pr)(ph:@Bp)(left:@F)(at':Nat):Prop where
 pth:∀p,p∈ph->∃q,p=t::q/\(∀x,x∈q->x∈put/\¬x∈left)/\p.Nodup/\RA l p
 lft:∀x,x∈left->x∈put
 rch:∀x,x∈put->x∈left\/∃p,p∈ph/\p.getLast? =some x
 fst:∃p,p∈ph/\p.getLast? =some t
 old:∀i p s,i<at'->ph[i]? =some p->p.getLast? =some s->@OV=false/\∀x,x∈left->@Jx=false
 cnt:ph.length+left.length=put.length+1
 le:at'<=ph.length
def RI.lt{n:Nat}{l put:@F}{t:Pr}{ph:@Bp}{left:@F}{k:Nat}(R:@Jc)(O:@q)(hb:t∈@r):k<ph.length:=by
 apply Classical.byContradiction
 intro hn
 have hk:k=ph.length:=by have:=R.le;omega
 have idx:∀p,p∈ph->∃i:Nat,i<k/\ph[i]? =some p:=λp hp=>by
  obtain⟨i,hi⟩:=Vz.mp hp
  exact⟨i,by rw[hk];exact(@Jl).1,hi⟩
 have key:=uQ (n:=n) (U:=λx=>∃s:Pr,(∃p,p∈ph/\p.getLast? =some s)/\nk l s.1 x=true) (put:=put) (l:=l) (by
  rintro u v h ⟨s,hs,hl⟩
  exact⟨s,hs,xW O hl (gi.mpr (.inr h))⟩) (by
  rintro x hx ⟨s,⟨p,hp,hs⟩,hl⟩
  rcases R.rch x hx with h|h
  ·obtain⟨i,hi,hpi⟩:=idx p hp
   have h2:@Jx=false:=(@YT).2 x h
   have hl:@Jx=true:=hl
   rw[h2]at hl;cases hl
  ·exact⟨x,h,@TX ⟩) t.1 t.2 hb ⟨t,R.fst,@TX ⟩
 obtain⟨s,⟨p,hp,hs⟩,hl⟩:=key
 obtain⟨i,hi,hpi⟩:=idx p hp
 have h2:@OV=false:=(@YT).1
 have hl:@OV=true:=hl
 rw[h2]at hl;cases hl
theorem Dr{α:Type}(f:α->Bool):∀L:@Bl,(L.filter f).length+(L.filter λx=> !f x).length=L.length
 | []=>rfl
 |x::L=>by
  have:=Dr f L
  cases h:f x<;>simp[List.filter_cons,h]<;>omega
def LU{l p:@F}{s x:Pr}(h:RA l p)(hs:p.getLast? =some s)(hx:@Jx=true):RA l (p++[x]):=by
 intro i a b ha hb
 have hl:p≠ []:=λe=>by rw[e]at hs;cases hs
 have hpos:=@T1
 by_cases c:i+1<p.length
 ·rw[U6 (@B)]at ha
  rw[U6 c]at hb
  exact h i a b ha hb
 ·by_cases d:i+1=p.length
  ·rw[U6 (@B)]at ha
   rw[U9 (@B),d,Nat.sub_self]at hb
   cases hb
   rw[W6,show p.length-1=i by omega,ha]at hs
   cases hs
   exact hx
  ·rw[V3 (by rw[UL,U5];omega)]at hb
   cases hb
def RI.step{l put:@F}{t s:Pr}{ph:@Bp}{left p fr:@F}{k:Nat}(R:@Jc)(htp:¬t∈put)(hp:ph[k]? =some p)(hs:p.getLast? =some s)(hst:@OV=false)(hfr:left.filter (λx=>@Jx)=fr):RI l put t (ph++fr.map λx=>p++[x]) (left.filter λx=> !decide (x∈fr)) (k+1):=by
 have hpm:p∈ph:=@Q3
 have hk:k<ph.length:=(Uy.mp hp).1
 have mfr:∀x,x∈fr↔x∈left/\@Jx=true:=λx=>by rw[<-hfr];exact UE
 have mlf:∀x,x∈(left.filter λx=> !decide (x∈fr))↔x∈left/\¬x∈fr:=λx=>by rw[UE];simp
 refine⟨λr hr=>?_,λx hx=>R.lft x ((mlf x).mp hx).1,λx hx=>?_,?_,λi r s' hi hr hs'=>?_,?_,?_⟩
 ·rcases UW.mp hr with hr|hr
  ·obtain⟨q,e,h1,h2,h3⟩:=R.pth r hr
   exact⟨q,e,λx hx=>⟨(h1 x hx).1,λhm=>(h1 x hx).2 ((mlf x).mp hm).1⟩,h2,h3⟩
  ·obtain⟨x,hx,rfl⟩:=U4.mp hr
   obtain⟨q,e,h1,h2,h3⟩:=R.pth p hpm
   have hxf:=(mfr x).mp hx
   refine⟨q++[x],by rw[e];rfl,λy hy=>?_,?_,LU h3 hs hxf.2⟩
   ·rcases UW.mp hy with hy|hy
    ·exact⟨(h1 y hy).1,λhm=>(h1 y hy).2 ((mlf y).mp hm).1⟩
    ·rw[UP]at hy;subst hy
     exact⟨R.lft _ hxf.1,λhm=>((mlf _).mp hm).2 hx⟩
   ·refine WS.mpr ⟨h2,by simp,λa ha b hb eab=>?_⟩
    rw[UP]at hb;subst hb;subst eab
    rw[e]at ha
    rcases UD.mp ha with rfl|ha
    ·exact htp (R.lft _ hxf.1)
    ·exact(h1 _ ha).2 hxf.1
 ·rcases R.rch x hx with h|⟨r,h1,h2⟩
  ·by_cases c:x∈fr
   ·exact .inr ⟨p++[x],UW.mpr (.inr (U4.mpr ⟨x,c,rfl⟩)),by simp⟩
   ·exact .inl ((mlf x).mpr ⟨h,c⟩)
  ·exact .inr @UB
 ·obtain⟨r,h1,h2⟩:=R.fst
  exact @UB
 ·rw[U6 (@B)]at hr
  by_cases c:i=k
  ·subst c
   rw[hp]at hr;cases hr
   rw[hs]at hs';cases hs'
   refine⟨hst,λx hx=>?_⟩
   obtain⟨a,b⟩:=(mlf x).mp hx
   cases z:@Jx with
   |false=>rfl
   |true=>exact absurd ((mfr x).mpr ⟨a,z⟩) b
  ·obtain⟨a,b⟩:=R.old i r s' (@B) hr hs'
   exact⟨a,λx hx=>b x ((mlf x).mp hx).1⟩
 ·have h1:=Dr (λx=>@Jx) left
  have h2:(left.filter λx=> !decide (x∈fr))=left.filter λx=> ! @Jx:=WR λx hx=>by
   congr 1
   rw[Va,UU,mfr x]
   exact⟨λh=>h.2,λh=>⟨hx,h⟩⟩
  rw[h2,UL,Uw,<-hfr]
  have:=R.cnt
  omega
 ·rw[UL];omega
theorem AU:∀{q put:@F},q.Nodup->(∀x,x∈q->x∈put)->q.length<=put.length
 | [],_,_,_=>Vl _
 |x::q,put,nd,h=>by
  have nd:=@SS
  have hx:=h x (UG ..)
  have:=AU (q:=q) (put:=put.erase x) nd.2 λy hy=>(List.mem_erase_of_ne (λe=>nd.1 (by rw[<-e];exact hy))).mpr (h y @PU)
  rw[Xb hx]at this
  have:=List.length_pos_of_mem hx
  rw[UY];omega
abbrev pD(p:@F):D:=.list (p.map aG)
def Jb{fs:@F}{s:Pr}(h:fs.getLast? =some s):ki (@Ye) (-1)=some (aG s):=by
 have hl:fs≠ []:=λe=>by rw[e]at h;cases h
 have hpos:=@T1
 unfold ki vQ
 rw[UJ (@B),Uz (by simp;omega)]
 show(@Ye)[((-1:Int)+(((@Ye).length:Nat):Int)).toNat]? =_
 rw[show((-1:Int)+(((@Ye).length:Nat):Int)).toNat=fs.length-1 by simp;omega,UN,<-W6,h];rfl
def CV{ph:@Bp}{p:@F}{k:Nat}(h:ph[k]? =some p):ki (ph.map pD) (k:Int)=some (pD p):=by
 have hk:k<ph.length:=(Uy.mp h).1
 rw[jh,pO hk]
 have:ph[k]=p:=by rw[UB hk]at h;exact @It
 rw[this];rfl
noncomputable def O1:@I:=aS 7 3 (kW Gn)
def MW{l p:@F}{s:Pr}(h:RA l p)(hs:p.getLast? =some s){t:Pr}{q:@F}(e:p=t::q)(hst:@OV=true):Qq l p=true:=by
 unfold Qq
 rw[Ve]
 intro i hi
 have hi:=Vq.mp hi
 by_cases c:i=0
 ·subst c
  rw[Uz rfl,U2,<-W6,hs,e]
  exact hst
 ·rw[UJ c]
  refine h (i-1) _ _ ?_ ?_
  ·rw[U2,UB (@B)];rfl
  ·rw[show i-1+1=i by omega,U2,UB hi];rfl
def Ti{n:Nat}{l put:@F}{t:Pr}(O:@q)(hz:put.length<=100)(htp:¬t∈put)(hb:t∈@r):∃r,O1 [au n l,@Ea,aG t]=.ok (.list (r.map aG)) false/\(∀x,x∈r->x=t\/x∈put)/\r.Nodup/\r≠ []/\Qq l r=true:=by
 show ∃r,fin (kW Gn [@G,@t,@Aq,.no,.no,.no,.no] 0)=_/\_
 unfold kW
 rw[ax (env':=[@G,@t,@Aq,.ow (.list ([[t]].map pD)),.no,.no,.no]) (β':=0) (by
  rw[iu,lp (ds:=[pD [t]]) (ac (lp (ds:=[aG t]) @AQ) an)];rfl)]
 rw[ax (env':=[@G,@t,@Aq,.ow (.list ([[t]].map pD)),@t,.no,.no]) (β':=0) (by rfl)]
 rw[ax (env':=[@G,@t,@Aq,.ow (.list ([[t]].map pD)),@t,.fz (.int ((0:Nat):Int)),.no]) (β':=0) (by rfl)]
 obtain⟨env',β',ew,ph,left,k,p,s,s6,x4,rfl,rfl,R,hp,hs,hst⟩:=gH (L:=[0]++((@V++[])++([2]++[]))) (t:=rP (ie (ak Gn @D9)))
  (m:=aI (ba 6 ([]++[0]) (aM 1 [0,3,5] @BN @HO (ie (ak Gn @EG)) (gv 0)))
   (aI @NN
   (aI @Fm
   @F9)))
  (λm env b=>∃ph left k s6,∃q4:List D->D,(q4=PyData.list\/q4=PyData.tuple)/\env= [@G,@t,@Aq,@JE,@Df,.fz (.int ((k:Nat):Int)),s6]/\b=0/\@Jc/\m=put.length+1-k)
  (λenv b=>∃ph left k p s s6 x4,env= [@G,@t,@Aq,@JE,.fz x4,.fz (.int ((k:Nat):Int)),s6]/\b=0/\@Jc/\ph[k]? =some p/\p.getLast? =some s/\@OV=true)
  (n:=1000) (k:=put.length+1) (env:=[@G,@t,@Aq,.ow (.list ([[t]].map pD)),@t,.fz (.int ((0:Nat):Int)),.no]) (β:=0) (@B)
  ⟨[[t]],put,0,.no,PyData.tuple,@Fe,rfl,rfl,⟨λp hp=>by
    rw[UP]at hp;subst hp
    exact⟨[],rfl,(λx hx=>by cases hx),by simp,(λi a b _ hb=>by simp at hb)⟩,λx hx=>hx,λx hx=>.inl hx,⟨[t],by simp,rfl⟩,λi p s hi=>@B,by simp;omega,@B ⟩,@B ⟩ (by
   rintro m env b ⟨ph,left,k,s6,q4,h4,rfl,rfl,R,rfl⟩
   have hk:=R.lt O hb
   obtain⟨p,hp⟩:∃p,ph[k]? =some p:=⟨_,UB hk⟩
   have hpm:p∈ph:=@Q3
   obtain⟨q,eq,hq,hnd,hch⟩:=R.pth p hpm
   obtain⟨s,hs⟩:∃s,p.getLast? =some s:=⟨_,WN (by rw[eq];exact List.cons_ne_nil _ _)⟩
   have hcnt:=R.cnt
   have hpl:p.length<=put.length+1:=by
    have h1:q.length<=put.length:=by
     rw[eq]at hnd
     exact AU (Vy.mp hnd).2 λx hx=>(hq x hx).1
    rw[eq,UY];omega
   have el:∀s6:Sl,f2 @Xt @DU bE (vl [@G,@t,@Aq,@JE,@Df,.fz (.int ((k:Nat):Int)),s6]) 0=.ok (aG s) 0:=λs6=>aF (x:=pD p) (y:=.int (-1)) (aF (x:=@BA) (y:=.int k) rfl rfl (CV hp)) rfl (Jb hs)
   have et:rP (ie (ak Gn @D9)) (vl [@G,@t,@Aq,@JE,@Df,.fz (.int ((k:Nat):Int)),s6]) 0=.ok (! @OV) 0:=dz (dO (aq (F:=Gn) (ds:=[au n l,aG s,aG t]) (b:=false) (ac rfl (ac (el s6) @AQ)) (JZ n l s t)))
   refine⟨_,_,et,?_⟩
   cases hst:@OV with
   |true=>exact .inl ⟨rfl,ph,left,k,p,s,s6,_,rfl,rfl,R,hp,hs,hst⟩
   |false=>
    refine .inr ⟨rfl,?_⟩
    show ∃env2 β2 k',aI _ _ [@G,@t,@Aq,@JE,@Df,.fz (.int ((k:Nat):Int)),s6] 0=@Dw/\k'<put.length+1-k/\_
    generalize hfr:left.filter (λx=>@Jx)=fr
    have hfl:fr.length<=left.length:=by rw[<-hfr];exact Vg _ _
    have e6:aM 1 [0,3,5] @BN @HO (ie (ak Gn @EG)) (gv 0) (vl [@G,@t,@Aq,@JE,@Df,.fz (.int ((k:Nat):Int)),s6]) 0=.ok (.list (fr.map aG)) 0:=by
     rw[<-hfr]
     refine cy (l:=left) (e:=aG) (λx=>@Jx) aG (by rcases h4 with h4|h4<;>rw[h4]<;>rfl) (@B) λx hx=>⟨[.da (aG x),@Bo,.da (@BA),.da (.int ((k:Nat):Int))],rfl,?_,λ_=>rfl⟩
     have e2:f2 @NQ @DU bE [.da (aG x),@Bo,.da (@BA),.da (.int ((k:Nat):Int))] 0=.ok (aG s) 0:=aF (x:=pD p) (y:=.int (-1)) (aF (x:=@BA) (y:=.int k) rfl rfl (CV hp)) rfl (Jb hs)
     exact dO (aq (F:=Gn) (ds:=[au n l,aG s,aG x]) (b:=false) (ac rfl (ac e2 @AQ)) (JZ n l s x))
    rw[ax (env':=[@G,@t,@Aq,@JE,@Df,.fz (.int ((k:Nat):Int)),@EI]) (β':=0) (by rw[bC,e6];rfl)]
    have e4:aM 1 [6] @BN @HO @CO (gv 0) (vl [@G,@t,@Aq,@JE,@Df,.fz (.int ((k:Nat):Int)),@EI]) 0=.ok (.list ((left.filter λx=> !decide (x∈fr)).map aG)) 0:=by
     refine cy (l:=left) (e:=aG) (λx=> !decide (x∈fr)) aG (by rcases h4 with h4|h4<;>rw[h4]<;>rfl) (@B) λx hx=>⟨_,rfl,?_,λ_=>rfl⟩
     exact fL _ _ _ _ (aF (x:=aG x) (y:=.list (fr.map aG)) rfl rfl (J6 true x fr))
    have R':=R.step htp hp hs hst hfr
    generalize hlf:(left.filter λx=> !decide (x∈fr))=left' at e4 R'
    rw[ax (env':=[@G,@t,@Aq,@JE,@Go,.fz (.int ((k:Nat):Int)),@EI]) (β':=0) (by rw[bC,e4];rfl)]
    have e3:aM 1 [3,5] @BN (bB (gv 6)) iP (f2 (f2 (gv 1) (gv 2) bE) (bo @Q) jL) (vl [@G,@t,@Aq,@JE,@Go,.fz (.int ((k:Nat):Int)),@EI]) 0=.ok (.list ((fr.map λx=>p++[x]).map pD)) 0:=by
     rw[VP]
     refine bV (l:=fr) (e:=aG) (λx=>pD (p++[x])) rfl (@B) λx hx=>⟨[.da (aG x),.da (@BA),.da (.int ((k:Nat):Int))],rfl,?_⟩
     refine aF (x:=pD p) (y:=.list [aG x]) (aF (x:=@BA) (y:=.int k) rfl rfl (CV hp)) (lp (ds:=[aG x]) @AQ) ?_
     rw[me (by rw[Uw,U5];omega)]
     show some (PyData.list (p.map aG++[x].map aG))=_
     rw[<-U7]
    rw[ax (env':=[@G,@t,@Aq,.ow (.list ((ph++fr.map λx=>p++[x]).map pD)),@Go,.fz (.int ((k:Nat):Int)),@EI]) (β':=0) ?g3]
    case g3=>
     rw[Lw (i:=3) (ds:=ph.map pD) (by rfl) e3 (by rfl) (by rw[Uw,Uw,Uw];omega),<-U7];rfl
    refine⟨[@G,@t,@Aq,.ow (.list ((ph++fr.map λx=>p++[x]).map pD)),@Go,.fz (.int ((k+1:Nat):Int)),@EI],0,put.length+1-(k+1),?_,@B,_,_,_,_,PyData.list,@BQ,rfl,rfl,R',rfl⟩
    rw[show((k+1:Nat):Int)=(k:Int)+1 by omega];rfl)
 obtain⟨q,eq,hq,hnd,hch⟩:=R.pth p (@Q3)
 refine⟨p,?_,λx hx=>?_,hnd,by rw[eq];exact List.cons_ne_nil _ _,MW hch hs eq hst⟩
 ·rw[ax ew,cO,aF (x:=@BA) (y:=.int k) (d:=pD p) (β1:=0) (β2:=0) rfl rfl (CV hp)];rfl
 ·rw[eq]at hx
  rcases @P4 with h|h
  ·exact .inl h
  ·exact .inr (hq x h).1
def Fj(l:@F)(p:Pr):Bool:=((l.filter λq=>decide (q.2=p.1)).all λq=>decide ((q.1,p.2)∈l))&&((l.filter λq=>decide (q.1=p.2)).all λq=>decide ((p.1,q.2)∈l))
def y2:@I:=aS 4 3 lY
theorem Ki{n:Nat}{l:@F}(hl:l.length<=1000)(a b:Int):y2 @XU=.ok (.bool (Fj l (a,b))) false:=by
 show fin (lY [@G,@HQ,@DY,.no] 0)=_
 unfold lY
 rw[ax (env':=@OR) (β':=0) (by rfl)]
 have e1:aM 2 [1,2,3] @Bt @Ox (dD (f2 (gv 1) (gv 2) @A5)) (f2 (aW @F6) (gv 4) @Qg) @Ho 0=.ok (.list ((l.filter λq=>decide (q.2=a)).map λq=>PyData.bool (decide ((q.1,b)∈l)))) 0:=
  cy (l:=l) (e:=aG) (λq=>decide (q.2=a)) (λq=>PyData.bool (decide ((q.1,b)∈l))) rfl hl λq hq=>⟨_,rfl,iw (neg:=false) (i:=q.2) (j:=a) rfl rfl,λ_=>aF (fW (a:=q.1) (b:=b) rfl rfl) rfl (qM false (q.1,b) l)⟩
 have e2:aM 2 [2,1,3] @Bt @Ox (dD (f2 (gv 0) (gv 2) @A5)) (f2 (aW (ae (gv 3) @Ay)) (gv 4) @Qg) @Ho 0=.ok (.list ((l.filter λq=>decide (q.1=b)).map λq=>PyData.bool (decide ((a,q.2)∈l)))) 0:=
  cy (l:=l) (e:=aG) (λq=>decide (q.1=b)) (λq=>PyData.bool (decide ((a,q.2)∈l))) rfl hl λq hq=>⟨_,rfl,iw (neg:=false) (i:=q.1) (j:=b) rfl rfl,λ_=>aF (fW (a:=a) (b:=q.2) rfl rfl) rfl (qM false (a,q.2) l)⟩
 have t1:rP (ie (f1 @EL (bQ λbs=>@Cz))) (vl @OR) 0=.ok (!((l.filter λq=>decide (q.2=a)).all λq=>decide ((q.1,b)∈l))) 0:=dz (dO (BC e1))
 unfold Fj
 dsimp only
 cases c:((l.filter λq=>decide (q.2=a)).all λq=>decide ((q.1,b)∈l))with
 |false=>
  rw[c]at t1
  rw[gC (d:=@Ai) (b:=false) (β':=0) ?g]
  case g=>rw[eY t1];rfl
  rfl
 |true=>
  rw[c]at t1
  rw[ax (env':=@OR) (β':=0) ?g]
  case g=>rw[dY t1];rfl
  rw[cO]
  show fin (toS (f1 @EM (bQ λbs=>@Cz) @Ho 0) _)=_
  rw[BC e2];rfl
noncomputable def qu:@I:=aS 1 1 (pj uq y2)
def zT{n:Nat}{l:@F}(O:@q):qu @BM=.ok (.list (((sg n l).filter (Fj l)).map aG)) true:=by
 have hl:=ya O
 have e:@Gr=.ok (.list (((sg n l).filter (Fj l)).map aG)) 0:=by
  have hi:bB (ak uq @Q) [@Bo] 0=.ok ((sg n l).map aG) 0:=by
   unfold bB
   rw[aq (ds:=@BM) rfl (Lk O)];rfl
  exact cy (l:=sg n l) (e:=aG) (Fj l) aG hi (by have:=K6 (l:=l) O.hi;omega) λp hp=>⟨_,rfl,dO (aq (ds:=[au n l,.int p.1,.int p.2]) rfl (Ki (@B) p.1 p.2)),λ_=>@Yd ⟩
 show fin (toS (@Gr) _)=_
 rw[e];rfl
def kl(n:Nat)(l put:@F)(t:Pr):putAll n l (put++[t])=putL n (@r) t:=by unfold putAll;rw[List.foldl_append];rfl
theorem yx{n:Nat}:∀{put l:@F} {p:Pr},((0<=p.1/\p.1<n)/\(0<=p.2/\p.2<n))->p∈l->p∈@r
 | [],l,p,_,h=>h
 |t::put,l,p,hr,h=>yx (put:=put) (l:=@Fs) hr ((nO hr).mpr (.inl h))
def LN{n:Nat}{l:@F}{r:@E}{t:Pr}(hR:@CE)(h:r.idxOf t.2<r.idxOf t.1):Row n (@Fs) r:=by
 refine⟨hR.1,?_⟩
 have hf:=hR.2
 unfold yS at hf ⊢
 rw[Ve]at hf ⊢
 intro p hp
 have q:∀x y:Int,nk l x y=true->r.idxOf x<=r.idxOf y:=λx y hxy=>by
  rcases gi.mp hxy with e|hm
  ·rw[e];exact UC _
  ·exact WT (VI (hf _ hm))
 rcases pQ hp with hm|⟨a,b⟩
 ·exact hf p hm
 ·have:=q _ _ a
  have:=q _ _ b
  exact UH (@B)
def yn{n:Nat}{l:@F}{r:@E}{p:Pr}(hR:@CE)(h:p∈l):r.idxOf p.1<r.idxOf p.2:=by
 have hf:=hR.2
 unfold yS at hf
 exact VI (Ve.mp hf p h)
structure Pt(n:Nat)(l:@F)(put:@F):Prop where
 ord:@XM
 tr:∀p,p∈put->p∈sg n l
 tnd:∀p,p∈put->(p.2,p.1)∈@r
def yg{n:Nat}{l:@F}(O:@q):Pt n l []:=⟨O,(λp h=>by cases h),λp h=>by cases h⟩
def Pt.more{n:Nat}{l put:@F}{t:Pr}(h:@VQ)(ht:t∈sg n l)(hb:¬t∈@r):Pt n l (put++[t]):=by
 obtain⟨hr,ha⟩:=iy.mp ht
 have hn:nk (@r) t.1 t.2=false:=by
  cases z:nk (@r) t.1 t.2 with
  |false=>rfl
  |true=>
   rcases gi.mp z with e|e
   ·unfold Fg at ha;rw[e]at ha;simp at ha
   ·exact absurd e hb
 refine⟨by rw[kl];exact LH h.ord hn,λp hp=>?_,λp hp=>?_⟩
 ·rcases @Kq with z|z
  ·exact h.tr p z
  ·rw[UP]at z;subst z;exact ht
 ·rw[kl]
  rcases @Kq with z|z
  ·exact CY h.ord (h.tnd p z)
  ·rw[UP]at z;subst z;exact uF hr
def yL(n:Nat)(l put:@F):D:=.tuple [@CZ,@Ea]
def fH(n:Nat)(l:@F)(pts:@Bp):D:=.list (@HM)
def Fb:@I:=aS 2 2 (k7 Ld)
def QH{n:Nat}{l:@F}{t:Pr}(h8:n<=8)(h:(0<=t.1/\t.1<n)/\(0<=t.2/\t.2<n)):Fb [@A2,aG t]=.ok (.bool (decide ((t.2,t.1)∈l))) false:=by
 show fin (k7 Ld [@P,@Aq] 0)=_
 unfold k7
 exact fJ (fM (aq (ds:=[@A2,.int t.2,.int t.1]) (ac rfl (ac (aF (x:=aG t) (y:=.int 1) rfl rfl rfl) (ac (aF (x:=aG t) (y:=.int 0) rfl rfl rfl) an))) (NH h8 h.2 h.1)) rfl)
def Ec(n:Nat)(l:@F)(pts:@Bp)(t:Pr):Bool:=pts.any λput=>decide ((t.2,t.1)∈@r)
noncomputable def Ek:@I:=aS 2 2 (k9 Ht)
def QE{n:Nat}{l:@F}{pts:@Bp}{t:Pr}(h8:n<=8)(hz:pts.length<=100)(h:(0<=t.1/\t.1<n)/\(0<=t.2/\t.2<n)):∃k:Nat,Ek [@DF,aG t]=.ok @N1 false:=by
 refine⟨(pts.filter λput=> !decide (t∈@r)).length,?_⟩
 show fin (k9 Ht [@Pf,@Aq] 0)=_
 unfold k9
 have ec:aM 2 [1] @Bt @FT (rP (ie (ak Ht @FB))) (gv 0) (vl [@Pf,@Aq]) 0=.ok (.list ((pts.filter λput=> !decide (t∈@r)).map λput=>@CZ)) 0:=
  cy (l:=pts) (e:=yL n l) (λput=> !decide (t∈@r)) (λput=>@CZ) rfl (@B) λput _=>⟨@QR,rfl,dz (dO (aq (ds:=@Q9) rfl (N6 h8 h))),λ_=>rfl⟩
 refine fJ (fM (fG ec ?_) rfl)
 show some (int _)=_
 rw[Uw]
def Nr{ir:Nat}{fa fb:VF D}{vs:@BD}{β:Int}{ts:@F}{dr:D}(h:@AU=.ok (.list (@Yx)) β)(hr:vs[ir]? =some (.da dr))(hne:ts≠ [])(hk:∀t,t∈ts->∃k:Nat,fb [.da (aG t),.da dr] β=.ok @N1 β):∃t,t∈ts/\CT ir fa fb vs β=.ok (aG t) β:=by
 have hl:0<ts.length:=List.length_pos_iff.mpr hne
 unfold CT
 rw[h]
 dsimp only[R.bnd]
 rw[show dat vs[ir]? =some dr by rw[hr];rfl]
 dsimp only
 have hall:(@Yx).all (λd=>(@Ws).isSome)=true:=by
  rw[Ve]
  intro d hd
  obtain⟨t,ht,rfl⟩:=@WT
  obtain⟨k,e⟩:=hk t ht
  unfold nA
  rw[e];rfl
 rw[Uz ⟨by rw[Uw];exact hl,hall⟩]
 have hb:=(vn (ks:=(@Yx).map λd=>(@Ws).getD 0) (by rw[Uw,Uw];exact hl)).1
 generalize AH ((@Yx).map λd=>(@Ws).getD 0)=b at hb
 rw[Uw,Uw]at hb
 refine⟨ts[b],List.getElem_mem hb,?_⟩
 rw[UN,UB hb];rfl
section
variable {m m':SF}{env:En}{β β1:Int}{Q:SO->Prop}{L:@c}
def KR{t:Tg}{fi:@w}{ds:List D}(Pd:D->Prop)(I:Nat->En->Int->Prop)(hi:@Wg=@FG)(h0:I 0 @AD β1)
  (hs:∀i d env β,ds[i]? =some d->I i env β->∃env1,@Hi=@JP/\WP (@QB) λs=>(∃d β2,s=.rt d false β2/\Pd d)\/∃env2 β2,s=@Dw/\I (i+1) env2 β2)
  (kr:∀d β,Pd d->Q (@Og)) (k:∀env β,I ds.length env β->@MY):@IA:=by
 have key:∀(k i:Nat),i+k=ds.length->∀env β,I i env β->(∃d β2,@LC=.rt d false β2/\Pd d)\/∃env2 β2,@LC=@Dw/\I ds.length env2 β2:=by
  intro k
  induction k with
  |zero=>
   intro i hik env β h
   have:i=ds.length:=@B
   subst this
   rw[WY]
   exact .inr ⟨env,β,rfl,h⟩
  |succ k ih=>
   intro i hik env β h
   have hlt:i<ds.length:=@B
   obtain⟨env1,e1,⟨h1⟩⟩:=hs i ds[i] env β (UB hlt) h
   rw[VZ hlt]
   rcases h1 with⟨d,β2,e2,hp⟩|⟨env2,β2,e2,h2⟩
   ·exact .inl ⟨d,β2,by unfold ib;rw[e1];dsimp only;rw[e2],hp⟩
   ·have e3:ib t m (ds[i]::ds.drop (i+1)) env β=ib t m (ds.drop (i+1)) env2 β2:=by conv=>lhs;unfold ib;rw[e1];dsimp only;rw[e2]
    rw[e3]
    exact ih (i+1) (@B) env2 β2 h2
 have e0:=key ds.length 0 (@B) _ _ h0
 rw[List.drop_zero]at e0
 rcases e0 with⟨d,β2,e,hp⟩|⟨env2,β2,e,h2⟩
 ·exact⟨by rw[gC ((cL hi).trans e)];exact kr d β2 hp⟩
 ·exact wp_seq ((cL hi).trans e) (k _ _ h2)
end
def hX(pts:@Bp)(i:Nat)(t:Pr):@Bp:=pts.take i++[@Ww++[t]]++pts.drop (i+1)
def vd{pts:@Bp}{i:Nat}{t:Pr}(hi:i<pts.length):(hX pts i t).length=pts.length:=by
 unfold hX;rw[UL,UL,VA,WA,U5];omega
def o7{pts:@Bp}{i:Nat}{t:Pr}{put:@F}(hi:pts[i]? =@I0)(j:Nat):(@Dd)[j]? =if j=i then some (put++[t])else pts[j]?:=by
 have hlt:=(@Jl).1
 have hg:@Ww=put:=by rw[U2,hi];rfl
 unfold hX
 rw[hg]
 by_cases h:j<i
 ·rw[UJ (@B),Vr,U6 (by rw[VA];omega),List.getElem?_take,Uz h]
 ·rw[Vr,U9 (by rw[VA];omega),VA,Nat.min_eq_left (@B)]
  by_cases e:j=i
  ·rw[Uz e,show j-i=0 by omega];rfl
  ·rw[UJ e,U9 (by rw[U5];omega),U5,List.getElem?_drop]
   congr 1
   omega
def Ft(n:Nat)(l:@F)(pts:@Bp)(rs:@AG):Prop:=rs.length=pts.length/\∀(i:Nat) (r:@E) (put:@F),rs[i]? =some r->pts[i]? =@I0->Row n (@r) r
def Tn(r:@E)(t:Pr):Prop:=r.idxOf t.2<r.idxOf t.1
def Ta(n:Nat)(l:@F)(pts:@Bp)(left:@F):Prop:=∀rs,@H4->∃t,t∈left/\∀r,r∈rs->¬Tn r t
def PV(n:Nat)(l:@F)(pts:@Bp)(left:@F)(d:D):Prop:=∃rs,d=@DN/\@H4/\∀t,t∈left->∃r,r∈rs/\Tn r t
def MN(n:Nat)(l:@F):Nat->D->@Bp->Prop
 | 0,_,_=>False
 |k+1,d,pts=>(∃(i:Nat) (r q:@F),d=.tuple @Gy/\pts[i]? =some q/\(∀x,x∈r->x∈q)/\r≠ []/\Qq l r=true/\r.length<=100/\∀x,x∈r->x∈sg n l)\/
  ∃(t:Pr) (zs:List D),d=@BB/\t∈sg n l/\zs.length=pts.length/\∀i z,zs[i]? =some z->MN n l k z @Dd
noncomputable def Oq(F:@I):@I:=aS 7 5 (j3 F Ht O1 Ox)
noncomputable def Je(F:@I):@I:=aS 8 3 (gK (Oq F) Fb OW Ek)
def Hs{n:Nat}{l:@F}{pts:@Bp}{i:Nat}{put:@F}(hi:pts[i]? =@I0):bE (@DF) (.int (i:Int))=some (yL n l put):=iH (by rw[UN,hi];rfl)
def HB{n:Nat}{l:@F}{pts:@Bp}{i:Nat}{t:Pr}{put:@F}(hi:pts[i]? =@I0):fH n l @Dd=.list ((@HM).take i++[PyData.tuple [@Uf,.tuple (put.map aG++[aG t])]]++(@HM).drop (i+1)):=by
 have hg:@Ww=put:=by rw[U2,hi];rfl
 unfold fH hX
 rw[hg,U7,U7,List.map_take,List.map_drop]
 show PyData.list (_++[yL n l (put++[t])]++_)=_
 unfold yL
 rw[kl,U7];rfl
def FU{n:Nat}{l:@F}{F:@I}{pts:@Bp}{left:D}{i:Nat}{put:@F}{t:Pr}{Q:SO->Prop}(h8:n<=8)(hi:pts[i]? =@I0)(hr:(0<=t.1/\t.1<n)/\(0<=t.2/\t.2<n))
  (k:WP (aI (ji ([5]++([4]++[])) (λvs β=>ie (ak Ht @F7) vs β)
    (bM (aW (ae (cst (.str "ring")) (ae (gv 3) (ae (ak O1 @Sm) ag)))))
    lU)
   (bM (ak F (ae (gv 0) (ae (gv 1) (ae (f2 (f2 (EH (gv 2) (λ_ β=>@FY) (EZ (gv 3))) (bo (ae (aW (ae (ak Ox @F7) @Qc)) ag)) jL) (EH (gv 2) @W9 (λ_ β=>@FY)) jL) ag))))) @Y 0) Q) :
  WP (j3 F Ht O1 Ox [@G,.fz left,@Pf,.fz (.int (i:Int)),@Aq,.no,.no] 0) Q:=by
 unfold j3
 refine dJ (d:=@CZ) (β1:=0) (aF (x:=yL n l put) (y:=.int 0) (aF (x:=@DF) (y:=.int i) rfl rfl (Hs hi)) rfl rfl) ?_
 refine dJ (d:=@Ea) (β1:=0) (aF (x:=yL n l put) (y:=.int 1) (aF (x:=@DF) (y:=.int i) rfl rfl (Hs hi)) rfl rfl) ?_
 exact wp_at @Y rfl k
def P8{n:Nat}{l:@F}{F:@I}{pts:@Bp}{left:D}{i:Nat}{put:@F}{t:Pr}(O:@q)(hi:pts[i]? =@I0)(hp:@VQ)(hz:put.length<=100)(ht:t∈sg n l)(hb:t∈@r) :
  ∃r,Oq F [au n l,left,@DF,.int (i:Int),aG t]=.ok (.tuple @Gy) false/\(∀x,x∈r->x=t\/x∈put)/\r.Nodup/\r≠ []/\Qq l r=true:=by
 obtain⟨hr,ha⟩:=iy.mp ht
 have htp:¬t∈put:=λh=>hp.ord.irr _ (hp.ord.tr _ _ _ hb (hp.tnd t h))
 obtain⟨r,er,h1,h2,h3,h4⟩:=Ti O hz htp hb
 refine⟨r,?_,h1,h2,h3,h4⟩
 show fin (j3 F Ht O1 Ox [@G,.fz left,@Pf,.fz (.int (i:Int)),@Aq,.no,.no] 0)=_
 refine fJ (FU O.hi hi hr ?_)
 have eb:@Vj=.ok true 0:=by
  rw[<-UH hb]
  exact dO (aq (ds:=@Q9) rfl (N6 O.hi hr))
 refine qc eb (qG (jN (ds:=@Gy) (ac rfl (ac rfl (ac (aq (ds:=[au n l,@Ea,aG t]) rfl er) an))) @W) rfl)
def Pn{n:Nat}{l:@F}{F:@I}{pts:@Bp}{left d:D}{i:Nat}{put:@F}{t:Pr}{b:Bool}(h8:n<=8)(hi:pts[i]? =@I0)(hl:pts.length<=100)(hz:put.length<=100)(ht:t∈sg n l)(hb:¬t∈@r)(hF:F @Vb=@Qp) :
  Oq F [au n l,left,@DF,.int (i:Int),aG t]=@O3:=by
 obtain⟨hr,ha⟩:=iy.mp ht
 show fin (j3 F Ht O1 Ox [@G,.fz left,@Pf,.fz (.int (i:Int)),@Aq,.no,.no] 0)=_
 refine fJ (FU h8 hi hr ?_)
 have eb:@Vj=.ok false 0:=by
  rw[<-UO hb]
  exact dO (aq (ds:=@Q9) rfl (N6 h8 hr))
 refine mJ eb (wp_at @Y rfl ?_)
 refine fM (aq (ds:=@Vb) (ac rfl (ac rfl (ac ?_ an))) hF) rfl
 rw[HB hi]
 have a1:ak Ox @F7 (vl @Y) 0=.ok (@Uf) 0:=aq (ds:=@Q9) rfl (Tq h8 hr)
 have a2:f2 (gv 6) (aW @BP) tY (vl @Y) 0=.ok (.tuple (put.map aG++[aG t])) 0:=Rk (a:=put.map aG) (b:=[aG t]) rfl (tp @AQ) (by rw[Uw];simp;omega)
 refine HF (HF (FK (ds:=@HM) rfl rfl) (lp (ac (tp (ac a1 (ac a2 an))) an)) ?_) (Dp (ds:=@HM) rfl (T6 rfl)) ?_
 ·rw[VA,Uw];simp;omega
 ·rw[UL,VA,WA,Uw];simp;omega
open Classical in
noncomputable def rv(n:Nat)(l put:@F):@E:=if h:@XM then Classical.choose (Qm (late:=[]) h @W)else[]
def uK{n:Nat}{l put:@F}(h:@XM):OW [@CZ,@L9]=.ok (tupI @Xw) false/\Row n (@r) @Xw:=by
 have:=Classical.choose_spec (Qm (late:=[]) h @W)
 unfold rv
 rw[dif_pos h]
 exact⟨this.1,this.2.1⟩
def LM(n:Nat)(l:@F)(pts:@Bp)(left:@F):@F:=left.filter λt=> ! @JY
abbrev AO(n:Nat)(l:@F)(pts:@Bp)(left:@F)(s3 s4 s5 s6 s7:Sl):En:=[@G,.fz (@O2),@Pf,s3,s4,s5,s6,s7]
def KD{α:Type}{fa:VF D}{vs:@BD}{β:Int}{l:@Bl}{f:α->Bool}(h:@AU=.ok (.list (l.map λq=>@Ii)) β):f1 fa (bQ λbs=>@Ll) vs β=.ok (.bool (l.any f)) β:=fG h (by simp only[bQ];rw[g8];simp[List.any_map])
def MF{n:Nat}{l:@F}{pts:@Bp}{left:@F}(h8:n<=8)(hl:pts.length<=100)(hz:left.length<=100)(ht:∀t,t∈left->t∈sg n l)(s3 s4 s5 s6 s7:Sl) :
  aM 1 [2] @BN @F8 (rP (ie (f1 (aM 2 [0] @Bt @F8 iP (ak Fb @FB)) (bQ λbs=>@Ll)))) (gv 0) (vl (AO n l pts left s3 s4 s5 s6 s7)) 0=.ok (.list ((@GH).map aG)) 0:=by
 refine cy (l:=left) (e:=aG) (λt=> ! @JY) aG rfl (@B) λt hm=>⟨[.da (aG t),.da (@DF)],rfl,dz (dO ?_),λ_=>rfl⟩
 refine KD (l:=pts) (f:=λput=>decide ((t.2,t.1)∈@r)) ?_
 exact bV (l:=pts) (e:=yL n l) (λput=>PyData.bool (decide ((t.2,t.1)∈@r))) rfl (@B) λput _=>⟨@QR,rfl,aq (ds:=@Q9) rfl (QH h8 (iy.mp (ht t hm)).1)⟩
def QB{n:Nat}{l:@F}{pts:@Bp}{t:Pr}(h:@JY=true):∃(j:Nat) (put:@F),pts[j]? =@I0/\(t.2,t.1)∈@r:=by
 unfold Ec at h
 obtain⟨put,hm,hd⟩:=List.any_eq_true.mp h
 obtain⟨j,hj⟩:=Vz.mp hm
 exact⟨j,put,hj,VI hd⟩
def PM{n:Nat}{l:@F}{pts:@Bp}{rs:@AG}(h:@H4){j:Nat}{put:@F}(hj:pts[j]? =@I0):∃r,rs[j]? =some r/\r∈rs/\Row n (@r) r:=by
 have hlt:=(Uy.mp hj).1
 have hl:=h.1
 have e:rs[j]? =some (rs[j]'(@B)):=UB (@B)
 exact⟨_,e,List.getElem_mem (@B),h.2 j _ _ e hj⟩
def LZ{n:Nat}{l:@F}{pts:@Bp}{rs:@AG}{t:Pr}(h:@H4)(ht:@JY=true):∃r,r∈rs/\Tn r t:=by
 obtain⟨j,put,hj,hm⟩:=QB ht
 obtain⟨r,_,hr,hR⟩:=PM h hj
 exact⟨r,hr,yn hR hm⟩
def J0{n:Nat}{l:@F}{pts:@Bp}{rs:@AG}{i:Nat}{t:Pr}{put:@F}(hi:pts[i]? =@I0)(hP:∀q,q∈pts->Pt n l q)(h:Ft n l @Dd rs):@H4:=by
 have hlt:=(@Jl).1
 refine⟨by rw[h.1,vd hlt],λj r q hr hq=>?_⟩
 by_cases e:j=i
 ·subst e
  rw[hi]at hq;cases hq
  have:=h.2 j r (put++[t]) hr (by rw[o7 hi,Uz rfl])
  rw[kl]at this
  refine⟨this.1,?_⟩
  have hf:=this.2
  unfold yS at hf ⊢
  rw[Ve]at hf ⊢
  exact λp hp=>hf p (CY (hP _ (U1 hi)).ord hp)
 ·exact h.2 j r q hr (by rw[o7 hi,UJ e];exact hq)
def Ke{n:Nat}{l:@F}{pts:@Bp}{rs:@AG}{i:Nat}{t:Pr}{put:@F}{r:@E}(hi:pts[i]? =@I0)(hr:rs[i]? =some r)(ht:Tn r t)(h:@H4):Ft n l @Dd rs:=by
 have hlt:=(@Jl).1
 refine⟨by rw[h.1,vd hlt],λj r' q hr' hq=>?_⟩
 rw[o7 hi]at hq
 by_cases e:j=i
 ·subst e
  rw[Uz rfl]at hq;cases hq
  rw[hr]at hr';cases hr'
  rw[kl]
  exact LN (h.2 j r put hr hi) ht
 ·rw[UJ e]at hq
  exact h.2 j r' q hr' hq
def Br(n:Nat)(l:@F)(pts:@Bp)(ud:@F)(t:Pr)(j:Nat):Prop:=∀rs r,@H4->rs[j]? =some r->Tn r t->∃u,u∈ud/\∀r,r∈rs->¬Tn r u
def BM:SeqAt.shaped (@Ia)=true/\∀s∈(@Dc:@a),SeqAt.shaped (.str s)=true/\PyData.eqv (.str s) (@Ia)=decide (s="rows"):=@O
def td{fa:VF D}{vs:@BD}{β:Int}{s:Str}(hs:s∈(@Dc:@a)){neg:Bool}(h:@AU=.ok (.str s) β):dD (f2 fa @Sv (fm neg)) vs β=.ok (if neg then !decide (s="rows")else decide (s="rows")) β:=fL _ _ _ _ (aF h rfl (by unfold fm;rw[(BM.2 s hs).1,BM.1,(BM.2 s hs).2];cases neg<;>rfl))
theorem len0{fa:VF D}{vs:@BD}{β:Int}{ds:List D}(h:@AU=@Qo):dD (f2 (f1 fa cG) @M @A5) vs β=.ok ds.isEmpty β:=by
 have:=iw (neg:=false) (fa:=f1 fa cG) (fb:=cst (.int 0)) (vs:=vs) (β:=β) (i:=ds.length) (j:=0) (jv h) rfl
 rw[this]
 cases ds with
 |nil=>rfl
 |cons d ds=>congr 1
def MH{n:Nat}{l:@F}{F:@I}{pts:@Bp}{left:@F}(O:@q)(hl:pts.length<=64)(hP:∀put,put∈pts->@VQ)(ht:∀t,t∈left->t∈sg n l)(hz:left.length<=64)(hu:@GH= []):∃d,Je F [au n l,@O2,@DF]=@O3/\@Lb:=by
 have hR:Ft n l pts (@Mf):=⟨by rw[Uw],λi r put hr hp=>by
  rw[UN,hp]at hr
  cases hr
  exact(uK (hP put (U1 hp)).ord).2⟩
 refine⟨.tuple [@Ia,.list ((@Mf).map tupI)],?_,@Mf,rfl,hR,λt hm=>?_⟩
 ·show fin (gK (Oq F) Fb OW Ek @Gt 0)=_
  unfold gK
  have eu:=MF (pts:=pts) O.hi (@B) (@B) ht .no .no .no .no .no
  rw[hu]at eu
  refine fJ (dJ eu (wp_at (AO n l pts left (.fz (@L9)) .no .no .no .no) rfl ?_))
  refine qc (len0 (ds:=[]) rfl) (qG (jN (ds:=[@Ia,.list ((@Mf).map tupI)]) (ac rfl (ac ?_ an)) @W) rfl)
  rw[VP]
  exact bV (l:=pts) (e:=yL n l) (λput=>tupI @Xw) rfl (@B) λput hp=>⟨[.da (@CZ),.da (@Ea)],rfl,aq (ds:=[@CZ,@L9]) (ac rfl (ac (lp (ds:=[]) an) an)) (uK (hP put hp).ord).1⟩
 ·have:@JY=true:=by
   cases c:@JY with
   |true=>rfl
   |false=>
    have:t∈@GH:=UE.mpr ⟨hm,by rw[c];rfl⟩
    rw[hu]at this;cases this
  exact LZ hR this
theorem S3{n:Nat}{l:@F}(O:@q):∀(k:Nat) (pts:@Bp) (left:@F),pts.length<=64->(∀put,put∈pts->@VQ)->(∀t,t∈left->t∈sg n l)->left.length<=64->(@GH).length<=k->(∀put,put∈pts->put.length+k<=70)->
  ∃d,kx Je (k+1) [au n l,@O2,@DF]=@O3/\(@Lb\/((∃t zs,d=@BB/\zs.length=pts.length)/\MN n l (k+1) d pts/\Ta n l pts left)):=by
 intro k
 induction k with
 |zero=>
  intro pts left hl hP ht hz hu hk
  obtain⟨d,e,h⟩:=MH (F:=kx Je 0) O hl hP ht hz (@RY)
  exact⟨d,e,.inl h⟩
 |succ k ih=>
  intro pts left hl hP ht hz hu hk
  by_cases hu0:@GH= []
  ·obtain⟨d,e,h⟩:=MH (F:=kx Je (k+1)) O hl hP ht hz hu0
   exact⟨d,e,.inl h⟩
  have eu:=MF (pts:=pts) O.hi (@B) (@B) ht .no .no .no .no .no
  have hud:∀t,t∈@GH->t∈left/\@JY=false:=λt h=>by
   have:=UE.mp h
   exact⟨this.1,by simpa using this.2⟩
  generalize hU:@GH=ud at eu hu hu0 hud
  have hut:∀t,t∈ud->t∈sg n l:=λt h=>ht t (hud t h).1
  have huz:ud.length<=64:=by rw[<-hU];exact Vp @Vz hz
  obtain⟨t,htu,em⟩:=Nr (ir:=2) (fa:=gv 3) (fb:=ak Ek @Ip) (vs:=vl @D8) (β:=0) (ts:=ud) (dr:=@DF) rfl rfl hu0 λt h=>by
   obtain⟨j,e⟩:=QE (l:=l) (pts:=pts) O.hi (@B) (iy.mp (hut t h)).1
   exact⟨j,aq (ds:=[@DF,aG t]) rfl e⟩
  have htt:=hut t htu
  have br:∀i,i<pts.length->∃d,Oq (kx Je (k+1)) [au n l,@Qn,@DF,.int (i:Int),aG t]=@O3/\(@Lb\/((∃s y z,d=@HS/\(s="ring"\/s="turn"))/\MN n l (k+1) d @Dd/\Br n l pts ud t i)):=λi hi=>by
   obtain⟨put,hp⟩:∃put,pts[i]? =@I0:=⟨_,UB hi⟩
   have hpm:=U1 hp
   have hpk:=hk put hpm
   by_cases hb:t∈@r
   ·obtain⟨r,e,h1,h2,h3,h4⟩:=P8 (F:=kx Je (k+1)) (left:=@Qn) O hp (hP put hpm) (@B) htt hb
    have hmr:∀x,x∈r->x∈put++[t]:=λx hx=>by
     rcases h1 x hx with h|h
     ·simp[h]
     ·simp[h]
    refine⟨_,e,.inr ⟨⟨_,_,_,rfl,@BQ ⟩,.inl ⟨i,r,put++[t],rfl,by rw[o7 hp,Uz rfl],hmr,h3,h4,?_,λx hx=>?_⟩,λrs r' hf hr hT=>?_⟩⟩
    ·have:=AU h2 hmr
     rw[UL,U5]at this
     omega
    ·rcases h1 x hx with h|h
     ·rw[h];exact htt
     ·exact(hP put hpm).tr x h
    ·have:=yn (hf.2 i r' put hr hp) hb
     unfold Tn at hT
     omega
   ·have hlt:(LM n l @Dd ud).length<=k:=by
     have hlt:(ud.filter λu=> !Ec n l @Dd u).length<ud.length:=by
      rw[List.length_filter_lt_length_iff_exists]
      refine⟨t,htu,?_⟩
      have:Ec n l @Dd t=true:=by
       unfold Ec
       refine List.any_eq_true.mpr ⟨put++[t],Vz.mpr ⟨i,by rw[o7 hp,Uz rfl]⟩,UH ?_⟩
       rw[kl]
       exact uF (iy.mp htt).1
      rw[this];simp
     have e9:LM n l @Dd ud=ud.filter λu=> !Ec n l @Dd u:=rfl
     rw[e9];omega
    have hmem:∀q,q∈hX pts i t->q=put++[t]\/q∈pts:=λq hq=>by
     obtain⟨j,hj⟩:=Vz.mp hq
     rw[o7 hp]at hj
     split at hj
     ·cases hj;exact @BQ
     ·exact .inr (U1 hj)
    obtain⟨d,e,h⟩:=ih @Dd ud (by rw[vd hi];exact hl) (λq hq=>by
     rcases hmem q hq with rfl|h
     ·exact(hP put hpm).more htt hb
     ·exact hP q h) hut huz hlt (λq hq=>by
     rcases hmem q hq with rfl|h
     ·rw[UL,U5];omega
     ·have:=hk q h;omega)
    refine⟨d,Pn O.hi hp (@B) (@B) htt hb e,?_⟩
    rcases h with⟨rs,rfl,hf,hT⟩|⟨⟨t',zs,rfl,_⟩,hPap,hN⟩
    ·have hf':=J0 hp hP hf
     refine .inl ⟨rs,rfl,hf',λu hu'=>?_⟩
     cases c:Ec n l pts u with
     |true=>exact LZ hf' c
     |false=>exact hT u (by rw[<-hU];exact UE.mpr ⟨hu',by rw[c];rfl⟩)
    ·exact .inr ⟨⟨_,_,_,rfl,@Fe ⟩,hPap,λrs r hf hr hT=>hN rs (Ke hp hr hT hf)⟩
  have W:WP (gK (Oq (kx Je (k+1))) Fb OW Ek @Gt 0) λs=>∃d β,s=@Og/\(@Lb\/((∃t zs,d=@BB/\zs.length=pts.length)/\MN n l (k+1+1) d pts/\Ta n l pts left)):=by
   unfold gK
   refine dJ eu (wp_at @D8 rfl ?_)
   have e0:=len0 (fa:=gv 3) (vs:=vl @D8) (β:=0) (ds:=ud.map aG) rfl
   rw[show(ud.map aG).isEmpty=false by cases ud with|nil=>exact absurd rfl hu0|cons a b=>rfl]at e0
   refine mJ e0 (wp_at @D8 rfl ?_)
   refine dJ em (wp_at (AO n l pts left @BF (@Aq) .no .no .no) rfl ?_)
   refine Kw (lp (ds:=[]) an) (wp_at (AO n l pts left @BF (@Aq) (@Dr) .no .no) rfl ?_)
   refine KR (ds:=dB 0 pts.length) (β1:=0) (PV n l pts left) (λi env β=>β=0/\∃zs s6 s7,env=AO n l pts left @BF (@Aq) @JU s6 s7/\zs.length=i/\i<=pts.length/\∀j z,zs[j]? =some z->MN n l (k+1) z (hX pts j t)/\Br n l pts ud t j) ?_ ⟨rfl,[],.no,.no,rfl,rfl,Vl _,λj z h=>by simp at h⟩ ?_ (λd β h=>⟨d,β,rfl,.inl h⟩) ?_
   ·refine eO ?_ (@B)
    rw[jv (ds:=@HM) rfl,Uw]
   ·rintro i d env β hd ⟨rfl,zs,s6,s7,rfl,hzl,_,hzs⟩
    obtain⟨hi,rfl⟩:=kg hd
    rw[VE]
    refine⟨AO n l pts left @BF (@Aq) @JU (.fz (.int (i:Int))) s7,rfl,?_⟩
    obtain⟨d,ed,hd⟩:=br i hi
    refine dJ (d:=d) (β1:=0) (aq (ds:=[au n l,@Qn,@DF,.int (i:Int),aG t]) rfl ed) (wp_at (AO n l pts left @BF (@Aq) @JU (.fz (.int (i:Int))) (.fz d)) rfl ?_)
    rcases hd with h|⟨⟨s,y,z,rfl,hs⟩,hPap,hB⟩
    ·have h':=h
     obtain⟨rs,rfl,_⟩:=h'
     refine qc (td (neg:=false) (s:="rows") @W (aF (x:=@DN) (y:=.int 0) rfl rfl rfl)) (KI ?_)
     exact⟨(λa b z=>by cases z),.inl ⟨_,_,rfl,h⟩⟩
    ·have hsm:s∈(@Dc:@a):=by rcases hs with h|h<;>simp[h]
     have e2:=td (neg:=false) hsm (fa:=f2 (gv 7) @M bE) (vs:=vl (AO n l pts left @BF (@Aq) @JU (.fz (.int (i:Int))) (.fz (@HS)))) (β:=0) (aF (x:=@HS) (y:=.int 0) rfl rfl rfl)
     have hne:decide (s="rows")=false:=by rcases hs with rfl|rfl<;>decide +kernel
     rw[hne]at e2
     refine mJ e2 (wp_at (AO n l pts left @BF (@Aq) @JU (.fz (.int (i:Int))) (.fz (@HS))) rfl (BB ?_))
     refine NQ (ds:=zs) rfl rfl rfl (@B) (wB (.inr ⟨_,_,rfl,rfl,zs++[@HS],_,_,rfl,by rw[UL,U5];omega,@B,λj z' hj=>?_⟩))
     by_cases c:j<zs.length
     ·rw[U6 c]at hj
      exact hzs j z' hj
     ·rw[U9 (@B)]at hj
      have hj0:j-zs.length=0:=by
       have:=(Uy.mp hj).1
       rw[U5]at this;omega
      rw[hj0]at hj
      cases hj
      have:j=i:=@B
      subst this
      exact⟨hPap,hB⟩
   ·rintro env β ⟨rfl,zs,s6,s7,rfl,hzl,_,hzs⟩
    rw[iR]at hzl
    refine fM (jN (ds:=[.str "turn",aG t,.tuple zs]) (ac rfl (ac rfl (ac (fG (x:=.list zs) rfl rfl) an))) @W) ⟨_,_,rfl,.inr ⟨⟨t,zs,rfl,hzl⟩,.inr ⟨t,zs,rfl,htt,hzl,λj z hj=>(hzs j z hj).1⟩,λrs hf=>?_⟩⟩
    by_cases c:∃r,r∈rs/\Tn r t
    ·obtain⟨r,hr,hT⟩:=c
     obtain⟨j,hj⟩:=Vz.mp hr
     have hjl:j<zs.length:=by
      have:=(Uy.mp hj).1
      have:=hf.1
      omega
     obtain⟨u,hu1,hu2⟩:=(hzs j _ (UB hjl)).2 rs r hf hj hT
     exact⟨u,(hud u hu1).1,hu2⟩
    ·exact⟨t,(hud t htu).1,λr hr hT=>c ⟨r,hr,hT⟩⟩
  obtain⟨d,β,e,h⟩:=W.out
  refine⟨d,?_,h⟩
  show fin (gK (Oq (kx Je (k+1))) Fb OW Ek @Gt 0)=_
  rw[e];rfl
abbrev vv(n:Nat)(l:@F):@F:=(sg n l).filter (Fj l)
noncomputable def RH:@I:=aS 3 2 (sZ Jf (kx Je 40) qu)
def Dm(n:Nat)(l:@F)(c:Nat):Prop:=∃rs:@AG,rs.length=c/\(∀r,r∈rs->@CE)/\∀t,t∈vv n l->∃r,r∈rs/\Tn r t
def BG{n:Nat}{l:@F}{c:Nat}{rs:@AG}:Ft n l @Du rs↔rs.length=c/\∀r,r∈rs->@CE:=by
 constructor
 ·rintro⟨h1,h2⟩
  rw[Vs]at h1
  refine⟨h1,λr hr=>?_⟩
  obtain⟨i,hi⟩:=Vz.mp hr
  exact h2 i r [] hi (by rw[VJ,Uz (by have:=(@Jl).1;omega)])
 ·rintro⟨h1,h2⟩
  refine⟨by rw[Vs];exact h1,λi r put hr hp=>?_⟩
  rw[VJ]at hp
  split at hp
  ·cases hp;exact h2 r (U1 hr)
  ·cases hp
def KU{n:Nat}{l:@F}{c:Nat}:Ta n l @Du (vv n l)↔¬@TA:=by
 constructor
 ·rintro h ⟨rs,h1,h2,h3⟩
  obtain⟨t,ht,hn⟩:=h rs (BG.mpr @Uo)
  obtain⟨r,hr,hT⟩:=h3 t ht
  exact hn r hr hT
 ·intro h rs hf
  refine Classical.byContradiction λhc=>h ?_
  obtain⟨h1,h2⟩:=BG.mp hf
  refine⟨rs,h1,h2,λt ht=>Classical.byContradiction λhn=>hc ⟨t,ht,λr hr hT=>hn ⟨r,hr,hT⟩⟩⟩
def Dm.mono{n:Nat}{l:@F}{c c':Nat}(O:@q)(h:@TA)(hc:c<=c'):Dm n l c':=by
 obtain⟨rs,h1,h2,h3⟩:=h
 have hv:=(uK (n:=n) (l:=l) (put:=[]) O).2
 refine⟨rs++List.replicate (c'-c) (rv n l []),by rw[UL,Vs];omega,λr hr=>?_,λt ht=>?_⟩
 ·rcases UW.mp hr with h|h
  ·exact h2 r h
  ·rw[VD h];exact hv
 ·obtain⟨r,hr,hT⟩:=h3 t ht
  exact⟨r,UW.mpr (.inl hr),hT⟩
def Nl{n:Nat}{l:@F}(O:@q):Dm n l (vv n l).length:=by
 refine⟨(vv n l).map λt=>rv n l [t],by rw[Uw],λr hr=>?_,λt ht=>⟨rv n l [t],U4.mpr ⟨t,ht,rfl⟩,?_⟩⟩
 ·obtain⟨t,ht,rfl⟩:=U4.mp hr
  have htt:=(UE.mp ht).1
  have hP:=(yg O).more htt (λh=>by
   have:=(iy.mp htt).2
   unfold Fg at this
   have h:t∈l:=h
   simp[h]at this)
  have:=(uK hP.ord).2
  refine⟨this.1,?_⟩
  have hf:=this.2
  unfold yS at hf ⊢
  rw[Ve]at hf ⊢
  exact λp hp=>@Vi
 ·have htt:=(UE.mp ht).1
  have hP:=(yg O).more htt (λh=>by
   have:=(iy.mp htt).2
   unfold Fg at this
   have h:t∈l:=h
   simp[h]at this)
  exact yn (uK hP.ord).2 (hP.tnd t @W)
def IG{n:Nat}{l:@F}(h6:n<=6):(vv n l).length<=36:=by
 refine Vp @Vz ?_
 unfold sg
 refine Vp @Vz ?_
 have:(@CD).length=n*n:=fT n
 rw[this]
 exact VT h6 h6
def ID{d:D}{c:Nat}(h:c<=64):pf (.list [d]) (.int (c:Int))=some (.list (List.replicate c d)):=by
 have e:(List.replicate c [d]).flatten=List.replicate c d:=by
  clear h
  induction c with
  |zero=>rfl
  |succ c ih=>rw[Vk,VU,ih,Vk];rfl
 have key:∀k:Int,0<=k->k<=64->pf (.list [d]) @N1=some (.list (List.replicate k.toNat [d]).flatten):=λk h0 h1=>Uz ⟨@B,@B,sz _ (by simp;omega)⟩
 rw[key c (@B) (@B),Vd,e]
def QV{n:Nat}{l:@F}{c:Nat}(O:@q)(hs:(vv n l).length<=39)(hc:c<=64):∃d,RH [au n l,.int (c:Int)]=@O3/\((∃rs:@AG,d=@DN/\rs.length=c/\(∀r,r∈rs->@CE)/\∀t,t∈vv n l->∃r,r∈rs/\Tn r t)\/((∃t zs,d=@BB/\zs.length=c)/\MN n l 40 d @Du/\¬@TA)):=by
 obtain⟨d,e,h⟩:=S3 O 39 @Du (vv n l) (by rw[Vs];exact hc) (λput hp=>by rw[VD hp];exact yg O) (λt ht=>(UE.mp ht).1) (@B) (Vp @Vz hs) (λput hp=>by rw[VD hp];simp)
 refine⟨d,?_,?_⟩
 ·show fin (sZ Jf (kx Je 40) qu [@G,.fz (.int (c:Int)),.no] 0)=_
  unfold sZ
  refine fJ (dJ (d:=@Tj) (β1:=0) (jN (ds:=[@A2,@Po]) (ac (aq (ds:=@BM) rfl (Ks O)) (ac (tp (ds:=[]) an) an)) @W) (wp_at [@G,.fz (.int (c:Int)),.fz (@Tj)] rfl ?_))
  refine fM (aq (ds:=[au n l,.list ((vv n l).map aG),fH n l @Du]) (ac rfl (ac (aq (ds:=@BM) rfl (zT O)) (ac (aF (x:=.list [@Tj]) (y:=.int c) (lp (ds:=[@Tj]) @AQ) rfl ?_) an))) e) rfl
  show pf (.list [@Tj]) (.int c)=some (fH n l @Du)
  rw[ID hc]
  unfold fH
  rw[List.map_replicate]
 ·rcases h with⟨rs,rfl,hf,hT⟩|⟨⟨t,zs,rfl,hz⟩,hP,hN⟩
  ·obtain⟨h1,h2⟩:=BG.mp hf
   exact .inl ⟨rs,rfl,h1,h2,hT⟩
  ·exact .inr ⟨⟨t,zs,rfl,by rw[hz,Vs]⟩,hP,KU.mp hN⟩
noncomputable def Po:@I:=aS 3 1 (fY fO RH)
structure Jd(n:Nat)(l:@F)(rs:@AG):Prop where
 pos:1<=rs.length
 few:rs.length<=40
 row:∀r,r∈rs->@CE
 tn:∀t,t∈vv n l->∃r,r∈rs/\Tn r t
 least:∀c,1<=c->c<rs.length->¬@TA
def Jd.dm{n:Nat}{l:@F}{rs:@AG}(h:@Ng):Dm n l rs.length:=⟨rs,rfl,h.row,h.tn⟩
def Jd.iff{n:Nat}{l:@F}{rs:@AG}(h:@Ng)(O:@q){c:Nat}(hc:1<=c):@TA ↔rs.length<=c:=⟨λd=>Nat.le_of_not_lt λz=>h.least c hc z d,λz=>h.dm.mono O z⟩
def SQ{n:Nat}{l:@F}(O:@q)(hs:(vv n l).length<=39):∃rs,Po @BM=.ok (@y) false/\@Ng:=by
 have W:WP (fY fO RH @Dy 0) λs=>∃d β,s=@Og/\∃rs:@AG,d=@y/\@Ng:=by
  unfold fY
  refine tf (aq (ds:=@BM) @AQ (nH O)) (wp_at @Dy rfl ?_)
  refine dJ (d:=.int 1) (β1:=0) rfl (wp_at [@G,.fz (.int ((1:Nat):Int)),.no] rfl ?_)
  obtain⟨d1,e1,h1⟩:=QV (c:=1) O hs (@B)
  refine dJ (d:=d1) (β1:=0) (aq (ds:=[au n l,.int ((1:Nat):Int)]) rfl e1) (wp_at [@G,.fz (.int ((1:Nat):Int)),.fz d1] rfl ?_)
  refine GB (λb env β=>β=0/\∃(c:Nat) (d:D),env= [@G,.fz (.int (c:Int)),.fz d]/\b=60-c/\1<=c/\c<=40/\(∀c',1<=c'->c'<c->¬Dm n l c')/\((∃rs:@AG,d=@DN/\rs.length=c/\(∀r,r∈rs->@CE)/\∀t,t∈vv n l->∃r,r∈rs/\Tn r t)\/((∃t zs,d=@BB/\zs.length=c)/\MN n l 40 d @Du/\¬@TA)))
   (λenv β=>β=0/\∃(c:Nat) (rs:@AG),env= [@G,.fz (.int (c:Int)),.fz (@DN)]/\@Ng) 59 (@B) ⟨rfl,1,d1,rfl,rfl,@B,@B,λc' h1 h2=>@B,h1⟩ ?_ ?_
  ·rintro b env β ⟨rfl,c,d,rfl,rfl,hc1,hc2,hn,h⟩
   rcases h with⟨rs,rfl,hl,hr,ht⟩|⟨⟨t,zs,rfl,hz⟩,hP,hD⟩
   ·refine⟨_,_,td (neg:=true) (s:="rows") @W (aF (x:=@DN) (y:=.int 0) rfl rfl rfl),.inl ⟨by rfl,rfl,c,rs,rfl,⟨@B,@B,hr,ht,λc' h1 h2=>hn c' h1 (@B)⟩⟩⟩
   ·refine⟨_,_,td (neg:=true) (s:="turn") @W (aF (x:=@BB) (y:=.int 0) rfl rfl rfl),.inr ⟨@O,wp_at [@G,.fz (.int (c:Int)),.fz (@BB)] rfl ?_⟩⟩
    have hc:c<40:=by
     refine Nat.lt_of_not_le λz=>hD ((Nl O).mono O (@B))
    refine dJ (d:=.int ((c+1:Nat):Int)) (β1:=0) (T6 rfl) (wp_at [@G,.fz (.int ((c+1:Nat):Int)),.fz (@BB)] rfl ?_)
    obtain⟨d2,e2,h2⟩:=QV (c:=c+1) O hs (@B)
    refine BB (dJ (d:=d2) (β1:=0) (aq (ds:=[au n l,.int ((c+1:Nat):Int)]) rfl e2) (wB ⟨_,_,60-(c+1),rfl,@B,rfl,c+1,d2,rfl,rfl,@B,@B,λc' h1 h2=>?_,h2⟩))
    by_cases e:c'=c
    ·subst e;exact hD
    ·exact hn c' h1 (@B)
  ·rintro env β ⟨rfl,c,rs,rfl,h⟩
   exact fM (aF (x:=@DN) (y:=.int 1) rfl rfl rfl) ⟨_,_,rfl,rs,rfl,h⟩
 obtain⟨d,β,e,rs,rfl,h⟩:=W.out
 refine⟨rs,?_,h⟩
 show fin (fY fO RH @Dy 0)=_
 rw[e];rfl
noncomputable def RB:@I:=aS 1 1 (pY Po)
def Sb{n:Nat}{l:@F}(O:@q)(hs:(vv n l).length<=39):∃rs,Po @BM=.ok (@y) false/\RB @BM=.ok (.int (rs.length:Nat)) false/\@Ng:=by
 obtain⟨rs,e,h⟩:=SQ O hs
 refine⟨rs,e,?_,h⟩
 show fin (pY Po [@G] 0)=_
 unfold pY
 have:=jv (fa:=ak Po @Q) (vs:=vl [@G]) (β:=0) (aq (ds:=@BM) rfl e)
 rw[Uw]at this
 exact fJ (fM this rfl)
def MP{l:@F}{p:Pr}:Fg l p=true↔p.1≠p.2/\(p.1,p.2)∉l/\(p.2,p.1)∉l:=by
 unfold Fg
 simp only[US,Vw,Vn,ne_eq]
theorem LO{n:Nat}{l:@F}(O:@q){x:Int}:∀{bs:@E},(∀b,b∈bs->(x,b)∈sg n l)->Pt n l (bs.reverse.map λb=>(x,b))/\∀z,(x,z)∈putAll n l (bs.reverse.map λb=>(x,b))->(x,z)∈l:=by
 intro bs
 induction bs with
 |nil=>exact λ_=>⟨yg O,λz h=>h⟩
 |cons b bs ih=>
  intro h
  obtain⟨hP,hu⟩:=ih λb hb=>h b (by simp[hb])
  have hb:=h b @W
  have ha:=(MP.mp (iy.mp hb).2)
  have hn:¬(x,b)∈putAll n l (bs.reverse.map λb=>(x,b)):=λz=>ha.2.1 (hu b z)
  rw[List.reverse_cons,U7]
  refine⟨hP.more hb hn,λz hz=>?_⟩
  have hz:(x,z)∈putAll n l (bs.reverse.map (λb=>(x,b))++[(x,b)]):=hz
  rw[kl]at hz
  rcases pQ hz with h1|⟨h1,_⟩
  ·exact hu z h1
  ·rcases gi.mp h1 with e|e
   ·exact absurd e ha.1
   ·exact absurd e hn
def Sz{n:Nat}{l:@F}(O:@q):Dm n l n:=by
 let bs:Int->@E:=λx=>(eh n).filter λb=>Fg l (x,b)
 have hb:∀x,(0<=x/\x<(n:Int))->∀b,b∈bs x->(x,b)∈sg n l:=λx hx b hb=>iy.mpr ⟨⟨hx,bh.mp (UE.mp hb).1⟩,(UE.mp hb).2⟩
 have fit:∀x,(0<=x/\x<(n:Int))->Pt n l ((bs x).reverse.map λb=>(x,b)):=λx hx=>(LO O (hb x hx)).1
 refine⟨(eh n).map λx=>rv n l ((bs x).reverse.map λb=>(x,b)),by rw[Uw,cQ],λr hr=>?_,λt ht=>?_⟩
 ·obtain⟨x,hx,rfl⟩:=U4.mp hr
  have:=(uK (fit x (bh.mp hx)).ord).2
  refine⟨this.1,?_⟩
  have hf:=this.2
  unfold yS at hf ⊢
  rw[Ve]at hf ⊢
  exact λp hp=>@Vi
 ·obtain⟨hr,ha⟩:=iy.mp (UE.mp ht).1
  refine⟨_,U4.mpr ⟨t.1,bh.mpr hr.1,rfl⟩,?_⟩
  exact yn (uK (fit t.1 hr.1).ord).2 ((fit t.1 hr.1).tnd t (U4.mpr ⟨t.2,List.mem_reverse.mpr <|UE.mpr ⟨bh.mpr hr.2,ha⟩,rfl⟩))
def Jd.le{n:Nat}{l:@F}{rs:@AG}(h:@Ng)(O:@q):rs.length<=n:=(h.iff O O.lo).mp (Sz O)
def IY(f:Nat->Bool)(n:Nat):mk f n<2^n:=by
 apply Nat.lt_pow_two_of_testBit
 intro i hi
 rw[dH,UO (@B)];rfl
def ofM(n m:Nat):@E:=(eh n).filter λx=>m.testBit x.toNat
def II{n m:Nat}(h:m<2^n):mk @V4 n=m:=by
 apply V6
 intro i
 rw[dH]
 by_cases c:i<n
 ·rw[UH c,Bool.true_and]
  unfold cj ofM
  rw[Va,UU,UE]
  constructor
  ·intro h;simpa using h.2
  ·intro h;exact⟨bh.mpr @Bz,by simpa using h⟩
 ·rw[UO c,Bool.false_and]
  exact(Nat.testBit_lt_two_pow (UZ h (Nat.pow_le_pow_right (@B) (@B)))).symm
def Ko{f:Nat->Bool}{n t:Nat}(ht:t<n)(hf:f t=false):mk f n<@QC:=by
 have h1:mk f n<=@QC:=by rw[<-Mb ht];exact Nat.left_le_or
 have h2:mk f n≠@QC:=λe=>by
  have:=mk_eq.mp e t ht
  unfold gP at this
  rw[hf]at this
  simp at this
 omega
def Ia(n m:Nat)(x:Int):Nat:=mk (gP @V4 x.toNat) n
def QW(n m:Nat)(x:Int):Ia n m x<2^n:=IY _ _
def P0{n m:Nat}{l:@F}{x:Int}(hm:m<2^n)(hx:x∈@OG):m<Ia n m x:=by
 unfold a7 at hx
 obtain⟨h1,h2⟩:=@OB
 have h1:=bh.mp h1
 unfold fF at h2
 rw[US,Vw,Vn]at h2
 have:=Ko (f:=cj @Ff) (n:=n) (t:=x.toNat) (@B) (by
  unfold cj
  rw[UO]
  rw[show((x.toNat:Nat):Int)=x by omega]
  exact h2.1)
 rw[II hm]at this
 exact this
def vV(n:Nat)(l:@F)(T:@E)(m:Nat):Int:=((@OG).map λx=>@HW).sum
structure Wt(n:Nat)(l:@F)(lo:Nat)(T:@E):Prop where
 len:T.length=2^n
 top:T.getD (2^n-1) 0=1
 eq:∀m,lo<=m->m<2^n-1->T.getD m 0=@RH
def nG{T:@E}{i j:Nat}{v:Int}(h:i≠j):(T.set i v).getD j 0=T.getD j 0:=by
 rw[U2,U2,UX h]
def Wt.step{n:Nat}{l:@F}{lo:Nat}{T:@E}(W:Wt n l (lo+1) T)(h:lo<2^n-1):Wt n l lo @U0:=by
 have key:∀m,lo<=m->m<2^n->vV n l @U0 m=@RH:=λm h1 h2=>by
  unfold vV
  congr 1
  refine Vu λx hx=>nG ?_
  have:=P0 h2 hx
  omega
 refine⟨by rw[VM];exact W.len,by rw[nG (@B)];exact W.top,λm h1 h2=>?_⟩
 rw[key m h1 (@B)]
 by_cases c:m=lo
 ·subst c
  rw[U2,UT (by rw[W.len];omega)];rfl
 ·rw[nG (@B)]
  exact W.eq m (@B) h2
noncomputable def Il:@I:=aS 4 1 (oF zY mS)
def Sv{n:Nat}{l:@F}(O:@q):∃T,Il [@A2]=@UM/\@Le:=by
 have h8:=O.hi
 have hp:2^n<=256:=Nat.pow_le_pow_right (n:=2) (@B) h8
 have hp0:1<=2^n:=Nat.one_le_two_pow
 show ∃T,fin (oF zY mS @R4 0)=_/\_
 unfold oF
 have ef:f2 (f2 @H @BH AY) @H rR (vl @R4) 0=.ok (.int ((2^n-1:Nat):Int)) 0:=by
  have el:f1 (gv 0) cG (vl @R4) 0=.ok @z 0:=by
   rw[jv (ds:=(@Ap).map λb=>@DR) rfl,Uw,Vm]
  have es:AY (.int 1) (.int (n:Int))=some (.int ((2^n:Nat):Int)):=by
   obtain⟨k,hk⟩:∃k,k=n:=@BS
   have:∀t:Nat,t<9->AY (.int 1) (.int (t:Int))=some (.int ((2^t:Nat):Int)):=by
    intro t ht
    rcases(@B:t<8\/t=8)with h|rfl
    ·exact Iw t h
    ·rfl
   exact this n (@B)
  refine aF (x:=.int ((2^n:Nat):Int)) (y:=.int 1) (aF (x:=.int 1) (y:=.int n) rfl el es) rfl ?_
  show some (int (((2^n:Nat):Int)-1))=_
  congr 2
  omega
 rw[ax (env':=[@P,.fz (.int ((2^n-1:Nat):Int)),.no,.no]) (β':=0) (by rw[bC,ef];rfl)]
 generalize hF:2^n-1=F
 have hF8:F<=255:=@B
 obtain⟨L0,hL⟩:∃L0,L0=List.replicate F (0:Int)++[1]:=@BS
 rw[ax (env':=[@P,.fz (.int ((F:Nat):Int)),@LV,.no]) (β':=0) ?g1]
 case g1=>
  have er:f2 @FD (gv 1) pf (vl [@P,.fz (.int ((F:Nat):Int)),.no,.no]) 0=.ok (.list ((List.replicate F (0:Int)).map int)) 0:=by
   refine aF (x:=.list [.int 0]) (y:=.int F) (lp (ds:=[.int 0]) @AQ) rfl ?_
   unfold pf
   dsimp only
   rw[Uz ⟨@B,@B,by rw[Vi];simp;omega⟩]
   congr 2
   simp
  have ec:f2 (f2 @FD (gv 1) pf) (bo (ae @H ag)) jL (vl [@P,.fz (.int ((F:Nat):Int)),.no,.no]) 0=.ok (.list ((List.replicate F (0:Int)++[1]).map int)) 0:=by
   refine aF (y:=.list [.int 1]) er (lp (ds:=[.int 1]) @AQ) ?_
   rw[me (by simp;omega),U7];rfl
  rw[iu,ec,hL];rfl
 obtain⟨env',β',el,T,s3,rfl,rfl,W⟩:=eS (t:=.nm 3) (m:=p9 2 (([0]++([3]++[]))++[3]) [] (f1 @M_ v5) (gv 3)) (ds:=qi ((F:Int)-1) F) (k:=0)
  (λk env b=>∃(T:@E) (s3:Sl),env= [@P,.fz (.int ((F:Nat):Int)),@Pn,s3]/\b=0/\Wt n l (F-k) T)
  (env:=[@P,.fz (.int ((F:Nat):Int)),@LV,.no]) (β:=0)
  ⟨_,.no,rfl,rfl,by rw[hL];simp;omega,by
   rw[hL,hF,U2,U9 @W];simp,λm h1 h2=>@B ⟩ (by
   rintro k d env b hk ⟨T,s3,rfl,rfl,W⟩
   have hkF:k<F:=by have:=(Uy.mp hk).1;rwa [qW]at this
   have hd:d=.int ((F-1-k:Nat):Int):=by
    unfold qi at hk
    rw[UN,VX hkF]at hk
    cases hk
    rw[show((F-1-k:Nat):Int)=(F:Int)-1-(k:Int) by omega]
   subst hd
   rw[Vo]at W
   generalize hm:F-1-k=m
   rw[show F-k=m+1 by omega]at W
   have hmN:m<2^n:=@B
   refine⟨[@P,.fz (.int ((F:Nat):Int)),@Pn,.fz (.int ((m:Nat):Int))],rfl,?_⟩
   have emk:int ((m:Nat):Int)=mI @V4 n:=by unfold mI;rw[II hmN]
   have ec:aM 1 [2,3] @BN (bB (ak zY @F6)) iP @B1 (vl [@P,.fz (.int ((F:Nat):Int)),@Pn,.fz (.int ((m:Nat):Int))]) 0=.ok (.list ((@OG).map λx=>int (@HW))) 0:=by
    refine bV (l:=@OG) (e:=int) (λx=>int (@HW)) ?_ (by have:=km l @Ff n;omega) λx hx=>⟨[.da @L4,.da (@At),.da (.int ((m:Nat):Int))],rfl,?_⟩
    ·have:=aq (F:=zY) (fr:=ae (gv 0) @BG) (vs:=vl [@P,.fz (.int ((F:Nat):Int)),@Pn,.fz (.int ((m:Nat):Int))]) (β:=0) (β1:=0) (ds:=[@A2,mI @V4 n]) (by rw[<-emk];rfl) (Jp O @Ff)
     unfold bB
     rw[this];rfl
    ·have hxr:=bh.mp (@OB).1
     have ew:ak mS @G1 [.da @L4,.da (@At),.da (.int ((m:Nat):Int))] 0=.ok (.int ((Ia n m x:Nat):Int)) 0:=aq (ds:=[mI @V4 n,.int (x.toNat:Int)]) (by rw[<-emk,show((x.toNat:Nat):Int)=x by omega];rfl) @Hb
     refine aF (x:=@At) rfl ew ?_
     have hl:=QW n m x
     show ki (T.map int) ((Ia n m x:Nat):Int)=_
     rw[jh,pO (by rw[W.len];exact hl),U2,UB (by rw[W.len];exact hl)];rfl
   have es:f1 @M_ v5 (vl [@P,.fz (.int ((F:Nat):Int)),@Pn,.fz (.int ((m:Nat):Int))]) 0=.ok (.int (@RH)) 0:=by
    refine fG ec ?_
    have e9:((@OG).map λx=>int (@HW))=((@OG).map λx=>@HW).map int:=by rw[VP];rfl
    unfold v5
    dsimp only
    rw[e9,i4];rfl
   refine⟨[@P,.fz (.int ((F:Nat):Int)),.ow (.list ((T.set m (@RH)).map int)),.fz (.int ((m:Nat):Int))],0,?_,_,_,rfl,rfl,?_⟩
   ·rw[u4 (i:=2) (ds:=T.map int) (d:=.int (@RH)) (k:=m) (n:=m) (β1:=0) (β2:=0) es (by rfl) rfl (by rfl) (by
     unfold vQ
     rw[Uz (@B),Uz (by rw[Uw,W.len];omega)];rfl),<-List.map_set];rfl
   ·rw[Vo,show F-(k+1)=m by omega]
    exact W.step (@B))
 rw[Vo,qW,Nat.sub_self]at W
 refine⟨T,?_,W⟩
 rw[ax (env':=[@P,.fz (.int ((F:Nat):Int)),@Pn,s3]) (β':=0) ?g2]
 case g2=>
  rw[cL (env:=[@P,.fz (.int ((F:Nat):Int)),@LV,.no]) (ds:=qi ((F:Int)-1) F) (β1:=0) ?g3]
  ·exact el
  case g3=>
   show(if(y9 ((F:Int)-1)&&y9 (-1)&&(-1:Int) == -1)=true then R.ok (qi ((F:Int)-1) (((F:Int)-1)-(-1)).toNat) 0 else R.bad)=_
   rw[Uz (by rw[oU (@B) (@B)];rfl),show(((F:Int)-1)-(-1)).toNat=F by omega]
 rfl
def cZ(n:Nat)(T:@E)(r:@E):Int:=T.getD (@In) 0
def GK{l:@F}{r r':@E}(h:∀x,x∈r↔x∈r')(x:Int):fF l r x=fF l r' x:=by
 unfold fF E1
 have e1:decide (x∈r)=decide (x∈r'):=by rw[VG];exact h x
 rw[e1]
 congr 2
 simp only[h]
def Ie{n:Nat}{r:@E}(hr:∀x,x∈r->0<=x/\x<(n:Int))(x:Int):x∈r↔x∈ofM n (@In):=by
 unfold ofM
 rw[UE,bh]
 constructor
 ·intro h
  have hx:=hr x h
  refine⟨hx,?_⟩
  rw[dH,UH (@B)]
  unfold cj
  rw[show((x.toNat:Nat):Int)=x by omega]
  simp[h]
 ·rintro⟨hx,hb⟩
  rw[dH,UH (@B)]at hb
  unfold cj at hb
  rw[show((x.toNat:Nat):Int)=x by omega]at hb
  simpa using hb
def QO{n:Nat}{r:@E}(hr:∀x,x∈r->0<=x/\x<(n:Int)){x:Int}(hx:0<=x/\x<(n:Int)):Ia n (@In) x=mk (cj (r++[x])) n:=by
 unfold Ia
 rw[mk_eq]
 intro i hi
 unfold gP cj
 rw[Va]
 simp only[VR,UU,UW,UP]
 constructor
 ·rintro(h|h)
  ·exact .inl ((Ie hr _).mpr h)
  ·exact @X1
 ·rintro(h|h)
  ·exact .inl ((Ie hr _).mp h)
  ·exact @X1
def uc{n:Nat}{l:@F}{r:@E}(B:@I2):@In=2^n-1↔n<=r.length:=by
 constructor
 ·intro e
  have:(eh n).length<=r.length:=L2.ST.j6 (g9 n) λx hx=>by
   have hx:=bh.mp hx
   have hb:(@In).testBit x.toNat=true:=by rw[e,Nat.testBit_two_pow_sub_one,UH (@B)]
   rw[dH,UH (@B)]at hb
   unfold cj at hb
   rw[show((x.toNat:Nat):Int)=x by omega]at hb
   simpa using hb
  rw[cQ]at this
  exact this
 ·intro h
  apply V6
  intro i
  rw[dH,Nat.testBit_two_pow_sub_one]
  by_cases c:i<n
  ·have hl:=B.len
   have hp:=tX (n:=n) (r:=r) (@B) B.inn B.nd
   rw[UH c,Bool.true_and]
   unfold cj
   rw[UH]
   exact @KJ
  ·rw[UO c];rfl
def Wt.at{n:Nat}{l:@F}{T:@E}{r:@E}(W:@Le)(B:@I2)(h:r.length<n):cZ n T r=((@Au).map λx=>cZ n T (r++[x])).sum:=by
 have hm:=IY (cj r) n
 have hne:RM.mk (cj r) n≠2^n-1:=λe=>by have:=(uc B).mp e;omega
 unfold cZ
 rw[W.eq _ (Vl _) (@B)]
 unfold vV
 have e1:a7 l (ofM n (RM.mk (cj r) n)) n=@Au:=by
  unfold a7
  refine WR λx _=>(GK (λy=>Ie B.inn y) x).symm
 rw[e1]
 congr 1
 refine Vu λx hx=>?_
 rw[QO B.inn (bh.mp (@OB).1)]
def BY{n:Nat}{l:@F}{r:@E}{x:Int}(B:@I2)(hx:x∈@Au):vq n l (r++[x]):=B.more (bh.mp (@OB).1) (@OB).2
def GL{n:Nat}{l:@F}{T r:@E}{x:Int}(h8:n<=8)(hT:T.length=2^n)(hx:0<=x/\x<(n:Int)){fw fp fx:VF D}{vs:@BD}{β:Int}(hw:fw vs β=.ok (@At) β)(hp:fp vs β=.ok (@E2) β)(hfx:fx vs β=.ok @L4 β) :
  f2 fw (ak mS (ae fp (ae fx ag))) bE vs β=.ok (.int (cZ n T (r++[x]))) β:=by
 have ew:ak mS (ae fp (ae fx ag)) vs β=.ok (mI (cj (r++[x])) n) β:=by
  rw[<-xD hx]
  exact aq (ds:=[@E2,.int (x.toNat:Int)]) (ac hp (ac (by rw[hfx,show((x.toNat:Nat):Int)=x by omega]) an)) @Hb
 refine aF (x:=@At) hw ew ?_
 have hl:=IY (cj (r++[x])) n
 show ki (T.map int) ((mk (cj (r++[x])) n:Nat):Int)=_
 unfold cZ
 rw[jh,pO (by rw[hT];exact hl),U2,UB (by rw[hT];exact hl)];rfl
noncomputable def Ru:@I:=aS 6 4 (qA zY mS)
abbrev cE(n:Nat)(l:@F)(T r:@E)(a:Int)(j:Nat):En:=[@P,@Xz,@n,@HQ,.fz (.list ((@Au).map int)),.fz (.int ((j:Nat):Int))]
def Jj(n:Nat)(l:@F)(T r:@E)(x:Int):Int:=(((@Au).take ((@Au).idxOf x)).map λy=>cZ n T (r++[y])).sum
def Im{L:@E}(nd:L.Nodup){j:Nat}{x:Int}(h:L[j]? =some x):L.idxOf x=j:=by
 obtain⟨hj,e⟩:=Uy.mp h
 rw[<-e];exact nd.idxOf_getElem j hj
def RP{n:Nat}{l:@F}{T r:@E}{a:Int}(O:@q)(W:@Le)(B:@I2)(hlt:r.length<n)(h0:0<=a)(h1:a<cZ n T r):∃x b,Ru [@A2,@At,@E2,.int a]=.ok (.tuple [.int x,.int b]) false/\x∈@Au/\(0<=b/\b<cZ n T (r++[x]))/\a=Jj n l T r x+b:=by
 have h8:=O.hi
 show ∃x b,fin (qA zY mS [@P,@Xz,@n,@HQ,.no,.no] 0)=_/\_
 unfold qA
 rw[ax (env':=[@P,@Xz,@n,@HQ,.fz (.list ((@Au).map int)),.no]) (β':=0) (by rw[bC,aq (ds:=[@A2,@E2]) (β1:=0) rfl (Jp O r)];rfl)]
 rw[ax (env':=cE n l T r a 0) (β':=0) (by rfl)]
 have hfl:=km l r n
 obtain⟨env',β',ew,b,j,x,rfl,rfl,hx,hb0,hb1,hsj⟩:=gH (L:=[]++([]++([2]++(@V++[])))) (t:=dD (f2 (gv 3) @Tw TK))
  (m:=aI (ba 3 ([]++([]++([2]++(@V++[])))) (f2 (gv 3) @Tw rR))
   @F9)
  (λk env β=>∃(b:Int) (j:Nat),env=@LB/\β=0/\k=(@Au).length-j/\0<=b/\b<(((@Au).drop j).map λx=>cZ n T (r++[x])).sum/\a=(((@Au).take j).map λx=>cZ n T (r++[x])).sum+b)
  (λenv β=>∃(b:Int) (j:Nat) (x:Int),env=@LB/\β=0/\(@Au)[j]? =some x/\0<=b/\b<cZ n T (r++[x])/\a=(((@Au).take j).map λx=>cZ n T (r++[x])).sum+b)
  (n:=1000) (k:=(@Au).length) (env:=cE n l T r a 0) (β:=0) (@B)
  ⟨a,0,rfl,rfl,rfl,h0,by rw[W.at B hlt]at h1;exact h1,by simp⟩ (by
   rintro k env β ⟨b,j,rfl,rfl,rfl,hb0,hb1,hsj⟩
   have hj:j<(@Au).length:=by
    apply Classical.byContradiction
    intro hn
    rw[List.drop_eq_nil_of_le (@B)]at hb1
    simp at hb1
    omega
   obtain⟨x,hx⟩:∃x,(@Au)[j]? =some x:=⟨_,UB hj⟩
   have hxm:x∈@Au:=U1 hx
   have hxr:=bh.mp (UE.mp hxm).1
   have hdr:(@Au).drop j=x::(@Au).drop (j+1):=by
    rw[VZ hj]
    rw[UB hj]at hx
    rw[Option.some.inj hx]
   rw[hdr,Vj,List.sum_cons]at hb1
   have ei:∀c:Int,f2 (gv 4) (gv 5) bE (vl (cE n l T r c j)) 0=@X5:=λc=>by
    refine aF (x:=.list ((@Au).map int)) (y:=.int j) rfl rfl ?_
    show ki ((@Au).map int) (j:Int)=_
    rw[jh,pO hj]
    rw[UB hj]at hx
    rw[Option.some.inj hx];rfl
   have ev:f2 (gv 1) (ak mS @CK) bE (vl (@LB)) 0=.ok (.int (cZ n T (r++[x]))) 0:=GL (l:=l) h8 W.len hxr rfl rfl (ei b)
   refine⟨decide (b>=cZ n T (r++[x])),0,fL _ _ _ _ (aF (x:=.int b) (y:=.int (cZ n T (r++[x]))) rfl ev rfl),?_⟩
   by_cases c:b>=cZ n T (r++[x])
   ·refine .inr ⟨UH c,?_⟩
    show ∃env2 β2 k',aI _ _ (@LB) 0=@Dw/\k'<(@Au).length-j/\_
    rw[ax (env':=cE n l T r (b-cZ n T (r++[x])) j) (β':=0) (by
     rw[bC,aF (x:=.int b) (y:=.int (cZ n T (r++[x]))) (d:=.int (b-cZ n T (r++[x]))) (β1:=0) (β2:=0) rfl ev rfl];rfl)]
    refine⟨cE n l T r (b-cZ n T (r++[x])) (j+1),0,(@Au).length-(j+1),?_,@B,_,_,rfl,rfl,rfl,@B,@B,by rw[List.take_add_one,hx,U7,List.sum_append,show((some x).toList.map λx=>cZ n T (r++[x])).sum=cZ n T (r++[x]) by simp];omega⟩
    show ba 5 @V (f2 (gv 5) @H b7) (cE n l T r (b-cZ n T (r++[x])) j) 0=.nx [@P,@Xz,@n,.fz (.int (b-cZ n T (r++[x]))),.fz (.list ((@Au).map int)),.fz (.int ((j+1:Nat):Int))] 0
    rw[show((j+1:Nat):Int)=(j:Int)+1 by omega];rfl
   ·exact .inl ⟨UO c,b,j,x,rfl,rfl,hx,hb0,@B,hsj⟩)
 have hxm:x∈@Au:=U1 hx
 refine⟨x,b,?_,hxm,⟨hb0,hb1⟩,by rw[Jj,Im (show(@Au).Nodup from(g9 n).sublist Wg) hx];exact hsj⟩
 have hj:=(Uy.mp hx).1
 have ei:f2 (gv 4) (gv 5) bE (vl (@LB)) 0=@X5:=by
  refine aF (x:=.list ((@Au).map int)) (y:=.int j) rfl rfl ?_
  show ki ((@Au).map int) (j:Int)=_
  rw[jh,pO hj]
  rw[UB hj]at hx
  rw[Option.some.inj hx];rfl
 rw[ax ew,cO,jN (ds:=[.int x,.int b]) (β1:=0) (ac ei @AQ) @W];rfl
noncomputable def Pg:@I:=aS 1 1 (kK fO Il Jf)
def K4(n:Nat)(T:@E):cZ n T []=T.getD 0 0:=by
 unfold cZ
 have:mk (cj []) n=0:=by
  apply V6
  intro i
  rw[dH]
  unfold cj
  simp
 rw[this]
noncomputable def fN(n:Nat)(l:@F):@E:=Classical.epsilon λT:@E=>Il [@A2]=@UM/\@Le
def oo{n:Nat}{l:@F}(O:@q):Il [@A2]=.ok (.list ((fN n l).map int)) true/\Wt n l 0 @Dq:=Classical.epsilon_spec (p:=λT:@E=>Il [@A2]=@UM/\@Le) (Sv O)
noncomputable def yT(n:Nat)(l:@F):Int:=cZ n @Dq []
def Cr(n:Nat)(l:@F):vq n l []:=⟨WW,(λx hx=>by cases hx),(λp _ h=>by cases h)⟩
def Cw{n:Nat}{l:@F}(O:@q):ki ((fN n l).map int) 0=some (.int @WE):=by
 have hl:=(oo O).2.len
 have hp0:1<=2^n:=Nat.one_le_two_pow
 unfold yT
 rw[K4,show(0:Int)=((0:Nat):Int)from rfl,jh,pO (@B),U2,UB (@B)];rfl
def SK{n:Nat}{l:@F}(O:@q):Pg @BM=.ok (.int @WE) false:=by
 show fin (kK fO Il Jf [@G] 0)=_
 unfold kK
 rw[ax (env':=[@G]) (β':=0) (by rw[p6,aq (ds:=@BM) (β1:=0) rfl (nH O)];rfl)]
 have e1:ak Il (ae (ak Jf @Q) ag) @Xy 0=.ok (.list ((fN n l).map int)) 0:=aq (ds:=[@A2]) (ac (aq (ds:=@BM) rfl (Ks O)) an) (oo O).1
 rw[cO,aF (y:=.int 0) (β1:=0) (β2:=0) e1 rfl (Cw O)];rfl
noncomputable def QL:@I:=aS 9 2 (oX fO Jf Il ip Ru mS)
noncomputable abbrev nE(n:Nat)(l:@F)(d:D)(a b c e f:Sl):En:=[@G,.fz d,@P,.fz (.list ((fN n l).map int)),a,b,c,e,f]
def K9{n:Nat}{l:@F}{d:D}(O:@q)(h:eG d=false):ie (ak ip @OL) (vl (nE n l d .no .no .no .no .no)) 0=.ok (fK d @WE) 0:=
 dO (aq (ds:=[d,.int @WE]) (ac rfl (ac (aF (x:=.list ((fN n l).map int)) (y:=.int 0) rfl rfl (Cw O)) an)) (pZ h))
def DX(n:Nat)(l:@F)(T:@E):@E->@E->Int
 |_,[]=>0
 |q,x::xs=>@RX+DX n l T (q++[x]) xs
theorem DE{n:Nat}{l:@F}{T:@E}{x:Int}:∀(r q:@E),DX n l T q (r++[x])=DX n l T q r+Jj n l T (q++r) x
 | [],q=>by simp[DX]
 |y::r,q=>by
  show Jj n l T q y+DX n l T (q++[y]) (r++[x])=Jj n l T q y+DX n l T (q++[y]) r+_
  rw[DE r,Vr,List.singleton_append];omega
def PU{n:Nat}{l:@F}{a:Int}(O:@q)(h0:0<=a)(h1:a<yT n l):∃r,QL [au n l,.int a]=@Pj/\@CE/\DX n l @Dq [] r=a:=by
 have h8:=O.hi
 have W:=(oo O).2
 show ∃r,fin (oX fO Jf Il ip Ru mS @Ok 0)=_/\_
 unfold oX
 rw[ax (env':=@Ok) (β':=0) (by rw[p6,aq (ds:=@BM) (β1:=0) rfl (nH O)];rfl)]
 rw[ax (env':=[@G,@HQ,@P,.no,.no,.no,.no,.no,.no]) (β':=0) (by rw[bC,aq (ds:=@BM) (β1:=0) rfl (Ks O)];rfl)]
 rw[ax (env':=@Rk) (β':=0) (by rw[bC,aq (ds:=[@A2]) (β1:=0) rfl (oo O).1];rfl)]
 have t:=K9 (d:=.int a) O rfl
 rw[show fK @BT @WE=true from UH @Tm]at t
 rw[ax (env':=@Rk) (β':=0) (by rw[dY (dz t)];rfl)]
 rw[ax (env':=nE n l @BT (.ow (.list (([]:@E).map int))) .no .no .no .no) (β':=0) (by rw[iu,lp (ds:=[]) an];rfl)]
 rw[ax (env':=nE n l @BT (.ow (.list (([]:@E).map int))) (@Fu) .no .no .no) (β':=0) (by rw[bC,BS];rfl)]
 rw[ax (env':=nE n l @BT (.ow (.list (([]:@E).map int))) (@Fu) (@HQ) .no .no) (β':=0) (by rfl)]
 obtain⟨env',β',ef,r,b,s7,s8,rfl,rfl,B,hl,hb,hs⟩:=eS (t:=.nm 7) (m:=aI (ba 8 ([2]++([3]++([5]++([6]++[])))) (ak Ru @So))
   (aI (l0 4 @V @LP)
   (aI (ba 5 ([5]++(@V++[])) (ak mS @V2))
   @Su))) (ds:=dB 0 n) (k:=0)
  (λk env β=>∃(r:@E) (b:Int) (s7 s8:Sl),env=@QD/\β=0/\@I2/\r.length=k/\(0<=b/\b<cZ n @Dq r)/\a=DX n l @Dq [] r+b)
  (env:=nE n l @BT (.ow (.list (([]:@E).map int))) (@Fu) (@HQ) .no .no) (β:=0) ⟨[],a,.no,.no,rfl,rfl,Cr n l,rfl,@Tm,by simp[DX]⟩ (by
   rintro k d env β hk ⟨r,b,s7,s8,rfl,rfl,B,hl,⟨hb0,hb1⟩,hs⟩
   obtain⟨hkn,rfl⟩:=kg hk
   rw[Vo]at hl
   obtain⟨x,c,ec,hx,hc,hac⟩:=RP O W B (@B) hb0 hb1
   have hxr:=bh.mp (@OB).1
   refine⟨nE n l @BT (@A0) (@n) (@DY) (.fz (.int (0+(k:Int)))) s8,rfl,?_⟩
   generalize int (0+(k:Int))=dk
   rw[ax (env':=nE n l @BT (@A0) (@n) (@DY) (.fz dk) @Sg) (β':=0) (by
    rw[bC,aq (ds:=[@A2,.list ((fN n l).map int),@E2,.int b]) (β1:=0) rfl ec];rfl)]
   rw[ax (env':=nE n l @BT (.ow (.list ((r++[x]).map int))) (@n) (@DY) (.fz dk) @Sg) (β':=0) (by
    rw[oQ (i:=4) (ds:=@D0) (d:=.int x) (β':=0) (by rfl) (aF (x:=@Eg) (y:=.int 0) rfl rfl rfl) (by rfl) (by rw[Uw];omega),U7];rfl)]
   rw[ax (env':=nE n l @BT (.ow (.list ((r++[x]).map int))) (.fz (mI (cj (r++[x])) n)) (@DY) (.fz dk) @Sg) (β':=0) (by
    rw[bC,aq (ds:=[@E2,.int (x.toNat:Int)]) (β1:=0) (ac rfl (ac (aF (x:=@Eg) (y:=.int 0) rfl rfl (by rw[show((x.toNat:Nat):Int)=x by omega];rfl)) an)) @Hb,xD hxr];rfl)]
   refine⟨nE n l @BT (.ow (.list ((r++[x]).map int))) (.fz (mI (cj (r++[x])) n)) (@C_) (.fz dk) @Sg,0,by rfl,r++[x],c,_,_,rfl,rfl,BY B hx,by rw[UL,U5];omega,hc,by rw[DE,nil_append];omega⟩)
 rw[Vo,iR]at hl
 refine⟨r,?_,B.row O (@B),?_⟩
 rotate_left
 ·have hw:cZ n @Dq r=1:=by unfold cZ;rw[(uc B).mpr (@B),W.top]
  omega
 rw[ax (env':=@QD) (β':=0) ?g]
 case g=>
  rw[cL (env:=nE n l @BT (.ow (.list (([]:@E).map int))) (@Fu) (@HQ) .no .no) (ds:=dB 0 n) (β1:=0) (eO (n:=n) (MR (n:=n) (l:=l) rfl) (@B))]
  exact ef
 rw[cO,fG (x:=.list (@D0)) (d:=tupI r) (β1:=0) rfl (by rfl)];rfl
def Lu(n:Nat)(l:@F)(T:@E):@E->@E->Int
 |_,[]=>0
 |q,x::xs=>(((@Ch).filter λy=>decide (y<x)).map λy=>cZ n T (q++[y])).sum+Lu n l T (q++[x]) xs
noncomputable def T7:@I:=aS 8 2 (qQ fO OF Jf Il zY mS)
noncomputable abbrev GG:SF:=aI (ba 7 (([2]++([5]++[]))++[]) (aM 1 [6] @BN (bB (ak zY (@P9))) @KV (gv 0)))
 (aI (ba 4 ([]++([]++[5])) (f2 (gv 4) (f1 @Ow v5) b7))
 (ba 5 ([5]++([6]++[])) (ak mS @Gl)))
noncomputable abbrev kR(n:Nat)(l:@F)(d:D)(v:Int)(q:@E)(s6 s7:Sl):En:=[@G,.fz d,@P,.fz (.list ((fN n l).map int)),.fz (.int v),.fz (@Tf),s6,s7]
def Td{n:Nat}{l:@F}{d:D}{v x:Int}{q:@E}{s7:Sl}(O:@q)(hx:0<=x/\x<(n:Int)):∃t7,GG @IL 0=.nx (kR n l d (v+(((@Ch).filter λy=>decide (y<x)).map λy=>cZ n @Dq (q++[y])).sum) (q++[x]) (@CW) t7) 0:=by
 have h8:=O.hi
 have W:=(oo O).2
 have hfl:=km l q n
 unfold GG
 have e7:aM 1 [6] @BN (bB (ak zY (@P9))) @KV (gv 0) (vl @IL) 0=.ok (.list (((@Ch).filter λy=>decide (y<x)).map int)) 0:=by
  refine cy (l:=@Ch) (e:=int) (λy=>decide (y<x)) int ?_ (@B) λy hy=>⟨[.da (.int y),.da @L4],rfl,fL _ _ _ _ (aF (x:=.int y) (y:=.int x) rfl rfl rfl),λ_=>rfl⟩
  have:=aq (F:=zY) (fr:=@P9) (vs:=vl @IL) (β:=0) (β1:=0) (ds:=[@A2,@Tf]) rfl (Jp O q)
  unfold bB
  rw[this];rfl
 rw[ax (env':=kR n l d v q (@CW) (.fz (.list (((@Ch).filter λy=>decide (y<x)).map int)))) (β':=0) (by rw[bC,e7];rfl)]
 have hsub:∀y,y∈((@Ch).filter λy=>decide (y<x))->0<=y/\y<(n:Int):=λy hy=>bh.mp (UE.mp (UE.mp hy).1).1
 have hln:((@Ch).filter λy=>decide (y<x)).length<=(@Ch).length:=Vg _ _
 generalize hG:((@Ch).filter λy=>decide (y<x))=G at hsub hln
 have ec:aM 1 [3,5] @BN (bB (gv 7)) iP @B1 @Qi 0=.ok (.list (G.map λy=>int (cZ n @Dq (q++[y])))) 0:=
  bV (l:=G) (e:=int) (λy=>int (cZ n @Dq (q++[y]))) rfl (@B) λy hy=>⟨[.da (.int y),.da (.list ((fN n l).map int)),.da (@Tf)],rfl,GL (l:=l) h8 W.len (hsub y hy) rfl rfl rfl⟩
 have es:f1 @Ow v5 @Qi 0=.ok (.int (G.map λy=>cZ n @Dq (q++[y])).sum) 0:=by
  refine fG ec ?_
  have e9:(G.map λy=>int (cZ n @Dq (q++[y])))=(G.map λy=>cZ n @Dq (q++[y])).map int:=by rw[VP];rfl
  unfold v5
  dsimp only
  rw[e9,i4];rfl
 rw[ax (env':=kR n l d (v+(G.map λy=>cZ n @Dq (q++[y])).sum) q (@CW) (@Hx)) (β':=0) (by
  rw[bC,aF (x:=.int v) (y:=.int (G.map λy=>cZ n @Dq (q++[y])).sum) (d:=.int (v+(G.map λy=>cZ n @Dq (q++[y])).sum)) (β1:=0) (β2:=0) rfl es rfl];rfl)]
 refine⟨@Hx,?_⟩
 rw[bC,aq (ds:=[@Tf,.int (x.toNat:Int)]) (β1:=0) (by rw[show((x.toNat:Nat):Int)=x by omega];rfl) @Hb,xD hx];rfl
theorem Ra{n:Nat}{l:@F}{d:D}(O:@q):∀(rest q:@E) (v:Int) (s6 s7:Sl),(∀x,x∈rest->0<=x/\x<(n:Int))->∃t6 t7,ib (.nm 6) GG (rest.map int) (kR n l d v q s6 s7) 0=.nx (kR n l d (v+Lu n l @Dq q rest) (q++rest) t6 t7) 0
 | [],q,v,s6,s7,_=>⟨s6,s7,by rw[show Lu n l @Dq q []=0 from rfl,Int.add_zero,VY];rfl⟩
 |x::rest,q,v,s6,s7,h=>by
  obtain⟨t7,e⟩:=Td (d:=d) (v:=v) (q:=q) (s7:=s7) O (h x (UG ..))
  obtain⟨u6,u7,e2⟩:=Ra (d:=d) O rest (q++[x]) (v+(((@Ch).filter λy=>decide (y<x)).map λy=>cZ n @Dq (q++[y])).sum) (@CW) t7 λy hy=>h y @PU
  refine⟨u6,u7,?_⟩
  rw[Vj]
  conv=>lhs;unfold ib
  rw[show gW (.nm 6) @L4 (kR n l d v q s6 s7)=some @IL from rfl]
  dsimp only
  rw[e]
  dsimp only
  rw[e2,show Lu n l @Dq q (x::rest)=(((@Ch).filter λy=>decide (y<x)).map λy=>cZ n @Dq (q++[y])).sum+Lu n l @Dq (q++[x]) rest from rfl,Int.add_assoc,Vr];rfl
def RT{n:Nat}{l:@F}{r:@E}(O:@q)(hR:@CE):T7 [au n l,tupI r]=.ok (.int (Lu n l @Dq [] r)) false:=by
 have hl:r.length=n:=by rw[hR.1.length_eq,cQ]
 have h8:=O.hi
 have hG:Ge @Co:=GI (by rw[Uw];omega) λx hx=>by obtain⟨y,_,rfl⟩:=U4.mp hx;rfl
 show fin (qQ fO OF Jf Il zY mS @EO 0)=_
 unfold qQ
 rw[ax (env':=@EO) (β':=0) (by rw[p6,aq (ds:=@BM) (β1:=0) rfl (nH O)];rfl)]
 have t:ie (ak OF @Ip) (vl @EO) 0=.ok (vT n l @Co) 0:=dO (aq (ds:=[tupI r,au n l]) rfl (Qb O hG))
 rw[yI hR]at t
 rw[ax (env':=@EO) (β':=0) (by rw[dY (dz t)];rfl)]
 rw[ax (env':=[@G,@Ql,@P,.no,.no,.no,.no,.no]) (β':=0) (by rw[bC,aq (ds:=@BM) (β1:=0) rfl (Ks O)];rfl)]
 rw[ax (env':=[@G,@Ql,@P,.fz (.list ((fN n l).map int)),.no,.no,.no,.no]) (β':=0) (by rw[bC,aq (ds:=[@A2]) (β1:=0) rfl (oo O).1];rfl)]
 rw[ax (env':=[@G,@Ql,@P,.fz (.list ((fN n l).map int)),.fz (.int 0),.no,.no,.no]) (β':=0) (by rfl)]
 rw[ax (env':=@Wr) (β':=0) (by unfold kR;rw[bC,BS];rfl)]
 obtain⟨t6,t7,e⟩:=Ra (d:=tupI r) O r [] 0 .no .no λx hx=>bh.mp (hR.1.mem_iff.mp hx)
 rw[VE,nil_append]at e
 rw[ax (env':=kR n l @Co (Lu n l @Dq [] r) r t6 t7) (β':=0) (by
  rw[cL (env:=@Wr) (ds:=@D0) (β1:=0) rfl]
  exact e)]
 rfl
def ext(n:Nat)(l:@F)(r:@E):@AG:=(@Au).map λx=>r++[x]
def lvl(n:Nat)(l:@F):Nat->@AG
 | 0=>[[]]
 |k+1=>(@Lq).flatMap (ext n l)
def JX{n:Nat}{l:@F}{r q:@E}(h:q∈ext n l r):∃x,x∈@Au/\q=r++[x]:=let⟨x,h1,h2⟩:=U4.mp h;⟨x,h1,h2.symm⟩
theorem sR{n:Nat}{l:@F}:∀{k:Nat} {r:@E},r∈@Lq->@I2/\r.length=k
 | 0,r,h=>by
  rw[lvl,UP]at h
  subst h
  exact⟨⟨WW,(λx hx=>by cases hx),(λp _ h=>by cases h)⟩,rfl⟩
 |k+1,r,h=>by
  rw[lvl,List.mem_flatMap]at h
  obtain⟨q,hq,hr⟩:=h
  obtain⟨x,hx,rfl⟩:=JX hr
  obtain⟨B,hk⟩:=sR hq
  exact⟨B.more (bh.mp (@OB).1) (@OB).2,by rw[UL,hk];rfl⟩
def ML{n:Nat}{l:@F}{r:@E}(B:@I2):(@Au).length<=n-r.length:=by
 have nd:(@Au++r).Nodup:=by
  rw[WS]
  refine⟨(g9 n).sublist Wg,B.nd,λa ha b hb e=>?_⟩
  subst e
  have:=(UE.mp ha).2
  unfold fF at this
  rw[US,Vw,Vn]at this
  exact this.1 hb
 have:=L2.ST.j6 nd (m:=eh n) λx hx=>(UW.mp hx).elim (λh=>(UE.mp h).1) λh=>bh.mpr (B.inn x h)
 rw[UL,cQ]at this
 omega
def Rq(n:Nat):Nat->Nat
 | 0=>1
 |k+1=>Rq n k*(n-k)
theorem Ah{n:Nat}{l:@F}{c:Nat}:∀{L:@AG},(∀r,r∈L->(ext n l r).length<=c)->(L.flatMap (ext n l)).length<=L.length*c
 | [],_=>by simp
 |r::L,h=>by
  rw[List.flatMap_cons,UL,UY,Nat.succ_mul]
  have h1:=h r (UG ..)
  have h2:=Ah (L:=L) λq hq=>h q (UI _ hq)
  omega
def Lx{n:Nat}{l:@F}{k:Nat}{r:@E}(h:r∈@Lq):(ext n l r).length<=n-k:=by
 obtain⟨B,hk⟩:=sR h
 unfold ext
 rw[Uw,<-hk]
 exact ML B
theorem C7{n:Nat}{l:@F}:∀k,(@Lq).length<=Rq n k
 | 0=>UC _
 |k+1=>by
  rw[lvl,Rq]
  exact Vp (Ah (c:=n-k) λr hr=>Lx hr) (Nat.mul_le_mul_right _ (C7 k))
def KA{n:Nat}{l:@F}(O:@q){r:@E}(h:r∈@Ba):@CE:=(sR h).1.row O (by rw[(sR h).2];exact UC _)
def Cu{n:Nat}{l:@F}{q s:@E}(h:Row n l (q++s)):vq n l q:=by
 obtain⟨pm,hf⟩:=h
 have nd:(q++s).Nodup:=@Wv
 refine⟨nd.sublist (List.sublist_append_left q s),λx hx=>bh.mp (pm.mem_iff.mp (VL _ hx)),λp hp hm=>?_⟩
 unfold yS at hf
 have:=VI (Ve.mp hf p hp)
 rw[V7,V7,Uz hm]at this
 have h2:=VQ.mpr hm
 by_cases c:p.1∈q
 ·rw[Uz c]at this;exact⟨c,this⟩
 ·rw[UJ c]at this;omega
def zM{n:Nat}{l:@F}{q s:@E}{x:Int}(h:Row n l (q++x::s)):x∈@Ch:=by
 have B:vq n l (q++[x]):=Cu (s:=s) (by rw[Vr];exact h)
 have hx:x∉q:=λhq=>(WS.mp B.nd).2.2 x hq x (UP.mpr rfl) rfl
 refine UE.mpr ⟨bh.mpr (B.inn x @W),?_⟩
 unfold fF
 rw[US,Vw,Vn,UU]
 refine⟨hx,List.eq_nil_iff_forall_not_mem.mpr λy hy=>?_⟩
 obtain⟨h1,h2⟩:=kQ.mp hy
 obtain⟨h3,h4⟩:=B.fit (y,x) h1 @W
 rw[V7,V7,UJ h2,UJ hx]at h4
 simp at h4;omega
def rf(n:Nat)(l:@F):Nat->@E->@AG
 | 0,q=>[q]
 |k+1,q=>(@Ch).flatMap λx=>rf n l k (q++[x])
theorem Ik{n:Nat}{l:@F}:∀(j k:Nat),(@Lq).flatMap (rf n l j)=lvl n l (k+j)
 | 0,k=>by
  show(@Lq).flatMap (λq=>[q])=@Lq
  simp
 |j+1,k=>by
  have h:=Ik (n:=n) (l:=l) j (k+1)
  rw[show k+1+j=k+(j+1) by omega]at h
  rw[<-h]
  show _=((@Lq).flatMap (ext n l)).flatMap (rf n l j)
  rw[List.flatMap_assoc]
  congr 1
  funext q
  show(@Ch).flatMap (λx=>rf n l j (q++[x]))=((@Ch).map λx=>q++[x]).flatMap (rf n l j)
  rw[List.flatMap_map]
def DH(n:Nat)(l:@F):@Ba=rf n l n []:=by
 have h:=Ik (n:=n) (l:=l) n 0
 rw[Vo]at h
 rw[<-h]
 show[[]].flatMap (rf n l n)=_
 simp
theorem uv{f:Int->@AG}{g:Int->Int}:∀{L:@E},(∀x,x∈L->((f x).length:Int)=g x)->((L.flatMap f).length:Int)=(L.map g).sum
 | [],_=>rfl
 |x::L,h=>by
  rw[List.flatMap_cons,UL,Vj,List.sum_cons,<-h x (UG ..),<-uv λy hy=>h y @PU]
  omega
theorem BI{n:Nat}{l:@F}{T:@E}(W:@Le):∀(k:Nat) (q:@E),q.length+k=n->vq n l q->((rf n l k q).length:Int)=cZ n T q
 | 0,q,hk,B=>by
  unfold cZ
  rw[(uc B).mpr (@B),W.top];rfl
 |k+1,q,hk,B=>by
  rw[W.at B (@B)]
  exact uv λx hx=>BI W k (q++[x]) (by rw[UL,U5];omega) (BY B hx)
theorem Mg{n:Nat}{l:@F}{T:@E}(W:@Le):∀(s q:@E),Row n l (q++s)->∃i:Nat,(i:Int)=DX n l T q s/\(rf n l s.length q)[i]? =some (q++s)
 | [],q,h=>⟨0,rfl,by rw[VY];rfl⟩
 |x::s,q,h=>by
  have hl:=h.1.length_eq
  rw[cQ,UL,UY]at hl
  have B:=Cu h
  have h':Row n l ((q++[x])++s):=by rw[Vr];exact h
  obtain⟨i,e1,e2⟩:=Mg W s (q++[x]) h'
  obtain⟨j,hj⟩:=Vz.mp (zM h)
  have ej:=Im (show(@Ch).Nodup from(g9 n).sublist Wg) hj
  have hjl:=(Uy.mp hj).1
  have hs:@Ch=(@Ch).take j++x::(@Ch).drop (j+1):=by
   rw[show x::(@Ch).drop (j+1)=(@Ch).drop j by
    rw[VZ hjl]
    rw[UB hjl]at hj
    rw[Option.some.inj hj],List.take_append_drop]
  have hlen:((((@Ch).take j).flatMap λx=>rf n l s.length (q++[x])).length:Int)=@RX:=by
   rw[Jj,ej]
   exact uv λy hy=>BI W _ (q++[y]) (by rw[UL,U5];omega) (BY B (List.mem_of_mem_take hy))
  refine⟨(((@Ch).take j).flatMap λx=>rf n l s.length (q++[x])).length+i,?_,?_⟩
  ·show _=@RX+DX n l T (q++[x]) s
   omega
  ·show((@Ch).flatMap λx=>rf n l s.length (q++[x]))[_]? =_
   have ef:((@Ch).flatMap λx=>rf n l s.length (q++[x]))=(((@Ch).take j).flatMap λx=>rf n l s.length (q++[x]))++(rf n l s.length (q++[x])++((@Ch).drop (j+1)).flatMap λx=>rf n l s.length (q++[x])):=by
    conv=>lhs;rw[hs]
    rw[List.flatMap_append,List.flatMap_cons]
   rw[ef,U9 (@B),Nat.add_sub_cancel_left,U6 (Uy.mp e2).1,e2,Vr];rfl
def MT(n:Nat):(eh n).Pairwise (· < ·):=by
 unfold eh
 exact List.Pairwise.map _ (λa b h=>@B) List.pairwise_lt_range
def Q5(l:@F)(q:@E)(n:Nat):(@Ch).Pairwise (· < ·):=(MT n).sublist Wg
theorem AM{x:Int}:∀{L:@E},L.Pairwise (· < ·)->x∈L->L.filter (λy=>decide (y<x))=L.take (L.idxOf x)
 |a::L,p,hx=>by
  have hp:=Wl.mp p
  by_cases c:a=x
  ·subst c
   rw[List.idxOf_cons_self,List.take_zero,List.filter_cons,UJ @W]
   exact List.filter_eq_nil_iff.mpr λy hy=>by have:=hp.1 y hy;simp;omega
  ·have hx:x∈L:=(@P4).resolve_left λz=>c z.symm
   have:=hp.1 x hx
   rw[List.filter_cons,Uz (by simpa using this),List.idxOf_cons,show(a==x)=false by simpa using c,AM hp.2 hx];rfl
theorem LX{n:Nat}{l:@F}{T:@E}:∀(s q:@E),Row n l (q++s)->Lu n l T q s=DX n l T q s
 | [],_,_=>rfl
 |x::s,q,h=>by
  show(((@Ch).filter λy=>decide (y<x)).map λy=>cZ n T (q++[y])).sum+Lu n l T (q++[x]) s=@RX+DX n l T (q++[x]) s
  rw[LX s (q++[x]) (by rw[Vr];exact h),AM (Q5 l q n) (zM h)];rfl
def Lj{n:Nat}{l:@F}{a:Int}(O:@q)(h0:0<=a)(h1:a<yT n l):∃r,ki ((@Ba).map tupI) a=some @Co/\QL [au n l,.int a]=@Pj/\T7 [au n l,tupI r]=.ok @BT false/\@CE:=by
 have W:=(oo O).2
 obtain⟨r,e,hR,ho⟩:=PU O h0 h1
 obtain⟨i,e1,e2⟩:=Mg W r [] hR
 have hl:r.length=n:=by rw[hR.1.length_eq,cQ]
 rw[hl,nil_append,<-DH]at e2
 have ea:a=(i:Int):=@B
 refine⟨r,?_,e,?_,hR⟩
 ·rw[ea];exact iH (by rw[UN,e2];rfl)
 ·rw[RT O hR,LX r [] hR,ho]
def KZ{n:Nat}{l:@F}(O:@q):((@Ba).length:Int)=yT n l:=by
 rw[DH]
 exact BI (oo O).2 n [] @W (Cr n l)
def Tells(n:Nat)(l:@F)(d:D):Prop:=∃rs:@AG,d=@y/\rs≠ []/\(∀r,r∈rs->@CE)/\(@CD).filter @Sj=l
noncomputable def Dh(n:Nat)(l:@F)(d:D):Bool:=@decide (Tells n l d) @AL
def M5{n:Nat}{l:@F}{d:D}(h:Tells n l d):Dh n l d=true:=@UH _ @AL h
def IJ{n:Nat}{l:@F}{d:D}(h:¬Tells n l d):Dh n l d=false:=@UO _ @AL h
theorem zW:∀{rs qs:@AG},rs.map tupI=qs.map tupI->rs=qs
 | [],[],_=>rfl
 | [],_::_,h=>by cases h
 |_::_,[],h=>by cases h
 |r::rs,q::qs,h=>by
  rw[Vj,Vj,List.cons.injEq]at h
  rw[qr h.1,zW h.2]
def xu{n:Nat}{l:@F}{rs:@AG}(h1:rs≠ [])(h:∀r,r∈rs->@CE):Dh n l (@y)=decide ((@CD).filter @Sj=l):=by
 by_cases c:(@CD).filter @Sj=l
 ·rw[UH c];exact M5 ⟨rs,rfl,h1,h,c⟩
 ·rw[UO c]
  refine IJ λ⟨qs,e,_,_,c'⟩=>c ?_
  have:=zW (@Q1)
  rw[this];exact c'
noncomputable def wH:@I:=aS 2 2 (BQ fO SU Rt)
theorem NN{n:Nat}{l:@F}{d:D}(O:@q)(h:Gt d):wH @Vd=.ok (.bool (Dh n l d)) false:=by
 show fin (BQ fO SU Rt [.fz d,@G] 0)=_
 refine fJ (tf (aq (ds:=@BM) rfl (nH O)) ?_)
 have ea:=Sg O h
 cases c:zi n l d with
 |false=>
  rw[c]at ea
  rw[IJ λ⟨rs,e,h1,h2,_⟩=>by rw[e,xj h1 h2]at c;cases c]
  exact fM (Mj (aq (ds:=@Vd) rfl ea)) rfl
 |true=>
  rw[c]at ea
  obtain⟨rs,rfl,h1,h2⟩:=OL c
  rw[xu h1 h2]
  have hz:rs.length<=100:=by have:=(h.2 _ rfl).1;rw[Uw]at this;exact this
  exact fM (LY (aq (ds:=[@y,au n l]) rfl ea) (aF (aq (ds:=[.int n,@y]) (ac (MR (n:=n) (l:=l) rfl) @AQ) (Q8 O.lo O.hi hz λr hr=>(h2 r hr).1)) (O4 (n:=n) (l:=l) rfl) (AE false _ _))) rfl
end RM
namespace OM
theorem mD:∀{l g:@E},l.Pairwise (· < ·)->g.Pairwise (· < ·)->(∀x,x∈g->x∈l)->List.Sublist g l
 | [],[],_,_,_=>.slnil
 | [],b::g,_,_,h=>by cases h b (UG ..)
 |a::l,[],_,_,_=>List.nil_sublist _
 |a::l,b::g,hl,hg,h=>by
  have hl':=Wl.mp hl
  have hg':=Wl.mp hg
  by_cases e:a=b
  ·subst e
   refine .cons_cons _ (mD hl'.2 hg'.2 λx hx=>?_)
   have:=hg'.1 x hx
   rcases UD.mp (h x @J3)with rfl|h2
   ·omega
   ·exact h2
  ·refine .cons _ (mD hl'.2 hg λx hx=>?_)
   have hb:b∈l:=by
    rcases UD.mp (h b (UG ..))with z|z
    ·exact absurd z.symm e
    ·exact z
   have hab:=hl'.1 b hb
   rcases @P4 with rfl|hx'
   ·exact hb
   ·have:=hg'.1 x hx'
    rcases UD.mp (h x hx)with rfl|h2
    ·omega
    ·exact h2
section
variable (c:Int->Int->Bool)(n:Nat)
def ups(lo:Int):@E:=(List.range ((n:Int)-lo).toNat).map λ(k:Nat)=>lo+(k:Int)
def OK(g:@E):@AG:=((ups n (g.getLast?.getD (-1)+1)).filter λt=>g.all λa=>c a t).map λt=>g++[t]
def longer(gs:@AG):@AG:=gs.flatMap (OK c n)
def Lv(k:Nat)(g:@E):Prop:=g.length=k/\g.Pairwise (· < ·)/\(∀x,x∈g->0<=x/\x<n)/\g.Pairwise (λa b=>c a b=true)
def FO{g:@E}(h:g.Pairwise (· < ·)){t:Int}(ht:g.getLast?.getD (-1)<t):∀x,x∈g->x<t:=by
 intro x hx
 have hne:g≠ []:=λz=>by rw[z]at hx;cases hx
 obtain⟨init,y,rfl⟩:∃init y,g=init++[y]:=⟨g.dropLast,g.getLast hne,(WX hne).symm⟩
 rw[List.getLast?_append]at ht
 simp at ht
 rcases UW.mp hx with h1|h1
 ·have:=(Wc.mp h).2.2 x h1 y @W
  omega
 ·rw[UP]at h1;omega
def l8{lo t:Int}:t∈@Xa ↔lo<=t/\t<n:=by
 unfold ups
 rw[U4]
 constructor
 ·rintro⟨k,hk,rfl⟩
  rw[Vq]at hk;omega
 ·rintro⟨h1,h2⟩
  exact⟨(t-lo).toNat,Vq.mpr (@B),@B ⟩
def AX{gs:@AG}{k:Nat}(hk:1<=k)(h:∀g,g∈gs↔Lv c n k g)(g':@E):g'∈@XW ↔Lv c n (k+1) g':=by
 unfold longer
 rw[List.mem_flatMap]
 constructor
 ·rintro⟨g,hg,hm⟩
  obtain⟨t,ht,rfl⟩:=U4.mp hm
  obtain⟨h1,h2,h3,h4⟩:=(h g).mp hg
  rw[UE,Ve,l8]at ht
  obtain⟨hr,hall⟩:=ht
  have hm:=FO h2 (show g.getLast?.getD (-1)<t by omega)
  have h0:0<=t:=by
   cases g with
   |nil=>simp at h1;omega
   |cons a g=>have:=hm a (UG ..);have:=h3 a (UG ..);omega
  refine⟨by rw[UL,h1];rfl,Wc.mpr ⟨h2,WG ..,λx hx y hy=>?_⟩,λx hx=>?_,Wc.mpr ⟨h4,WG ..,λx hx y hy=>?_⟩⟩
  ·rw[UP]at hy;subst hy;exact hm x hx
  ·rcases UW.mp hx with hx|hx
   ·exact h3 x hx
   ·rw[UP]at hx;subst hx;omega
  ·rw[UP]at hy;subst hy;exact hall x hx
 ·rintro⟨h1,h2,h3,h4⟩
  have hne:g'≠ []:=λz=>by rw[z]at h1;simp at h1
  obtain⟨g,t,rfl⟩:∃g t,g'=g++[t]:=⟨g'.dropLast,g'.getLast hne,(WX hne).symm⟩
  rw[UL]at h1
  simp only[UY,Wo]at h1
  have p2:=Wc.mp h2
  have p4:=Wc.mp h4
  refine⟨g,(h g).mpr ⟨@B,p2.1,λx hx=>h3 x (VL _ hx),p4.1⟩,U4.mpr ⟨t,?_,rfl⟩⟩
  have ht:=h3 t (U0 _ @W)
  rw[UE,Ve,l8]
  refine⟨⟨?_,ht.2⟩,λa ha=>p4.2.2 a ha t @W ⟩
  have hg:g≠ []:=λz=>by rw[z]at h1;simp at h1;omega
  rw[WN hg]
  have:=p2.2.2 _ (List.getLast_mem hg) t @W
  show g.getLast hg+1<=t
  omega
end
section
variable (c:Int->Int->Bool)(n:Nat)
def JO(x:Int):Nat:=2^((n:Int)-1-x).toNat
def Dg{lo:Int}(h:(n:Int)<=lo):@Xa= []:=by
 unfold ups
 rw[show((n:Int)-lo).toNat=0 by omega];rfl
def GZ{lo:Int}(h:lo<n):@Xa=lo::ups n (lo+1):=by
 unfold ups
 rw[show((n:Int)-lo).toNat=((n:Int)-(lo+1)).toNat+1 by omega,List.range_succ_eq_map,Vj,VP]
 congr 1
 ·simp
 ·apply Vu
  intro k _
  show lo+((k+1:Nat):Int)=lo+1+(k:Int)
  omega
theorem x9(f:Int->Bool):∀(m:Nat) (lo:Int),((n:Int)-lo).toNat<=m->(((@Xa).filter f).map (JO n)).sum<2^((n:Int)-lo).toNat
 | 0,lo,h=>by
  rw[Dg n (@B),show((n:Int)-lo).toNat=0 by omega];simp
 |m+1,lo,h=>by
  by_cases hl:lo<n
  ·have ih:=x9 f m (lo+1) (@B)
   rw[GZ n hl,show((n:Int)-lo).toNat=((n:Int)-(lo+1)).toNat+1 by omega,Nat.pow_succ]
   have hw:JO n lo=2^((n:Int)-(lo+1)).toNat:=by unfold JO;congr 1;omega
   by_cases hf:f lo=true
   ·rw[Wd hf,Vj,List.sum_cons,hw];omega
   ·rw[We hf];omega
  ·rw[Dg n (@B)]
   simp only[List.filter_nil,map_nil,List.sum_nil]
   exact Nat.pow_pos (@B)
def wg(g:@E):Nat:=JO n (g.getLast?.getD (-1))
def W(gs:@AG):Nat:=(gs.map (wg n)).sum
def Pj(g:@E):W n (OK c n g)<=wg n g:=by
 unfold W OK
 rw[VP]
 have:(wg n ∘ λt=>g++[t])=JO n:=by
  funext t
  show JO n ((g++[t]).getLast?.getD (-1))=JO n t
  rw[List.getLast?_append];rfl
 rw[this]
 have h:=x9 n (λt=>g.all λa=>c a t) _ (g.getLast?.getD (-1)+1) (UC _)
 have e:wg n g=2^((n:Int)-(g.getLast?.getD (-1)+1)).toNat:=by unfold wg JO;congr 1;omega
 omega
def Mv(a b:@AG):W n (a++b)=W n a+W n b:=by
 unfold W;rw[U7,List.sum_append]
theorem qB:∀gs:@AG,W n (@XW)<=W n gs
 | []=>UC _
 |g::gs=>by
  have h1:=Pj c n g
  have h2:=qB gs
  show W n (OK c n g++@XW)<=wg n g+W n gs
  rw[Mv];omega
theorem IZ:∀gs:@AG,gs.length<=W n gs
 | []=>Vl _
 |g::gs=>by
  have h2:=IZ gs
  have:1<=wg n g:=Nat.pow_pos (@B)
  show gs.length+1<=wg n g+W n gs
  omega
def ones:@AG:=(ups n 0).map λt=>[t]
def HV:W n (ones n)<2^n:=by
 have h:=x9 n (λ_=>true) _ 0 (UC _)
 rw[List.filter_eq_self.mpr @J]at h
 unfold W ones
 rw[VP]
 have e:(wg n ∘ λt=>[t])=JO n:=rfl
 rw[e]
 simpa using h
end
section
variable (c:Int->Int->Bool)(n:Nat)
def tD(lo:Int):(@Xa).Pairwise (· < ·):=by
 unfold ups
 rw[Xj]
 exact List.pairwise_lt_range.imp λh=>@B
def o5:Nat->@AG
 | 0=>ones n
 |k+1=>longer c n (o5 k)
theorem la:∀(k:Nat) (g:@E),g∈@OU ↔Lv c n (k+1) g
 | 0,g=>by
  show g∈ones n↔_
  unfold ones
  rw[U4]
  constructor
  ·rintro⟨t,ht,rfl⟩
   refine⟨rfl,WG ..,λx hx=>?_,WG ..⟩
   rw[UP]at hx;subst hx;exact(l8 n).mp ht
  ·rintro⟨h1,_,h3,_⟩
   obtain⟨t,rfl⟩:=List.length_eq_one_iff.mp h1
   exact⟨t,(l8 n).mpr (h3 t @W),rfl⟩
 |k+1,g=>AX c n (@B) (la k) g
def KC(k:Nat):(@OU).length<2^n:=by
 have:W n (@OU)<2^n:=by
  induction k with
  |zero=>exact HV n
  |succ k ih=>exact Xg (qB c n _) ih
 exact Xg (IZ n _) this
theorem CJ{k:Nat}(h:n<=k):@OU= []:=by
 cases e:@OU with
 |nil=>rfl
 |cons g gs=>
  have hg:g∈@OU:=by rw[e];exact UG ..
  obtain⟨h1,h2,h3,_⟩:=(la c n k g).mp hg
  have hs:List.Sublist g (ups n 0):=mD (tD n 0) h2 λx hx=>(l8 n).mpr (h3 x hx)
  have:=hs.length_le
  unfold ups at this
  rw[Uw,Vm]at this
  omega
end
open L2.HM
theorem CW:∀(g a b:@E),lexLt (g++a) (g++b)=lexLt a b
 | [],_,_=>rfl
 |x::g,a,b=>by
  show(if x=x then lexLt (g++a) (g++b)else _)=_
  rw[Uz rfl,CW g]
theorem CK:∀{g h a b:@E},g.length=h.length->lexLt g h=true->lexLt (g++a) (h++b)=true
 | [],[],_,_,_,e=>by cases e
 | [],_::_,_,_,l,_=>by cases l
 |_::_,[],_,_,l,_=>by cases l
 |x::g,y::h,a,b,l,e=>by
  show(if x=y then lexLt (g++a) (h++b)else decide (x<y))=true
  rw[ub]at e
  split at e
  ·rename_i q;rw[Uz q];exact CK (by simpa using l) e
  ·rename_i q;rw[UJ q];exact e
theorem C5(c:Int->Int->Bool)(n:Nat):∀k,(@OU).Pairwise λa b=>lexLt a b=true
 | 0=>by
  show(ones n).Pairwise _
  unfold ones
  refine List.Pairwise.map _ (λa b h=>?_) (tD n 0)
  show(if a=b then lexLt [] []else decide (a<b))=true
  rw[UJ (@B)];exact UH h
 |k+1=>by
  show(longer c n (@OU)).Pairwise _
  unfold longer
  refine List.pairwise_flatMap.mpr ⟨λg hg=>?_,Xc ?_ (C5 c n k)⟩
  ·unfold OK
   refine List.Pairwise.map _ (λa b h=>?_) ((tD n _).sublist Wg)
   rw[CW]
   show(if a=b then lexLt [] []else decide (a<b))=true
   rw[UJ (@B)];exact UH h
  ·intro g h hg hh l x hx y hy
   obtain⟨t,_,rfl⟩:=U4.mp hx
   obtain⟨u,_,rfl⟩:=U4.mp hy
   exact CK (((la c n k g).mp hg).1.trans ((la c n k h).mp hh).1.symm) l
end OM
namespace RM
open PySem L2
def ko(g:@E):D:=.list (g.map int)
def iq(l:@F)(a b:Int):Bool:=Fg l (a,b)
noncomputable def JC:@I:=aS 5 2 (gz Kv)
abbrev wm(n:Nat)(l:@F)(gs ws:@AG)(s3 s4:Sl):En:=[@G,@Hy,.ow (.list (@Yz)),s3,s4]
noncomputable abbrev rE:SF:=ji ([]++[0,4]) (ie (f1 (aM 1 [0,4] @BN @Ox iP (ak Kv @Sn)) (bQ λbs=>@Cz)))
 (l0 2 ([]++([4]++[])) @V9)
 lU
theorem TB{n:Nat}{l:@F}{gs ws:@AG}{g:@E}{t:Int}(hg:g.length<=100)(hw:ws.length<=900):rE @CF 0=.nx (wm n l gs (ws++(([t].filter λt=>g.all λa=>@IG).map λt=>g++[t])) (@N8) (@RQ)) 0:=by
 have ec:aM 1 [0,4] @BN @Ox iP (ak Kv @Sn) (vl @CF) 0=.ok (.list (g.map λa=>PyData.bool (@IG))) 0:=
  bV (l:=g) (e:=int) (λa=>PyData.bool (@IG)) rfl (@B) λa ha=>⟨_,rfl,aq (ds:=[au n l,.int a,.int t]) rfl (PZ n l a t)⟩
 have tt:=dO (CH ec)
 unfold rE
 cases hc:(g.all λa=>@IG)with
 |true=>
  rw[hc]at tt
  rw[eY tt]
  show l0 2 ([]++([4]++[])) _ @CF 0=_
  have ea:f2 (gv 3) (bo @BP) jL (vl @CF) 0=.ok (ko (g++[t])) 0:=by
   refine aF (x:=.list (g.map int)) (y:=.list [.int t]) rfl @Pa ?_
   rw[me (by rw[Uw];simp;omega)]
   unfold ko;rw[U7];rfl
  rw[oQ (i:=2) (ds:=@Yz) (d:=ko (g++[t])) (β':=0) (by rfl) ea (by rfl) (by rw[Uw];omega),Wd (by rw[hc])]
  show SO.nx (([@G,@Hy,.ow (.list (@Yz++[ko (g++[t])])),@N8,@RQ]:En)) 0=_
  rw[show @Yz++[ko (g++[t])]=(ws++[g++[t]]).map ko by rw[U7];rfl];rfl
 |false=>
  rw[hc]at tt
  rw[dY tt,We (by rw[hc];simp)]
  show SO.nx _ 0=_
  rw[show ws++([].filter λt=>g.all λa=>@IG).map (λt=>g++[t])=ws by simp];rfl
theorem PB{n:Nat}{l:@F}{gs:@AG}{g:@E}(hg:g.length<=100):∀(ts:@E) (ws:@AG) (s4:Sl),ws.length+ts.length<=900->∃s4',ib @NI rE (ts.map int) (@CP) 0=.nx (wm n l gs (ws++((ts.filter λt=>g.all λa=>@IG).map λt=>g++[t])) (@N8) s4') 0
 | [],ws,s4,_=>⟨s4,by rw[show ws++((([]:@E).filter λt=>g.all λa=>@IG).map λt=>g++[t])=ws by simp];rfl⟩
 |t::ts,ws,s4,h=>by
  simp only[UY]at h
  have e:=TB (n:=n) (l:=l) (gs:=gs) (ws:=ws) (t:=t) hg (@B)
  have hl:(ws++(([t].filter λt=>g.all λa=>@IG).map λt=>g++[t])).length<=ws.length+1:=by
   rw[UL,Uw]
   have:=Vg (λt=>g.all λa=>@IG) [t]
   simp only[UY,Wo]at this;omega
  obtain⟨s4',e2⟩:=PB hg ts (ws++(([t].filter λt=>g.all λa=>@IG).map λt=>g++[t])) (@RQ) (@B)
  refine⟨s4',?_⟩
  show ib @NI rE (.int t::ts.map int) _ 0=_
  unfold ib
  rw[show gW @NI (.int t) (@CP)=some @CF from rfl]
  dsimp only
  rw[e]
  dsimp only
  rw[e2,show ws++(((t::ts).filter λt=>g.all λa=>@IG).map λt=>g++[t])=ws++(([t].filter λt=>g.all λa=>@IG).map λt=>g++[t])++((ts.filter λt=>g.all λa=>@IG).map λt=>g++[t]) by rw[Vr,<-U7,<-Xf];rfl]
noncomputable abbrev BH:SF:=dZ @NI ((@V++[])++@V) @N7 rE
def GF{g:@E}(h:g≠ []):ki (g.map int) (-1)=some (.int (g.getLast?.getD (-1))):=by
 obtain⟨i,y,rfl⟩:∃i y,g=i++[y]:=⟨g.dropLast,g.getLast h,(WX h).symm⟩
 rw[jh]
 have:ki (i++[y]) (-1)=some y:=by
  unfold ki vQ
  simp only[UL,UY,Wo]
  rw[UJ (@B),Uz (@B),show(-1+((i.length+(0+1):Nat):Int)).toNat=i.length by omega]
  simp
 rw[this,List.getLast?_append];rfl
def Sd{n:Nat}{l:@F}{gs ws:@AG}{g:@E}(hn:n<=8)(hg:g.length<=100)(hne:g≠ [])(hr:∀x,x∈g->0<=x/\x<n)(hw:ws.length<=800)(s4:Sl):∃s4',BH (@CP) 0=.nx (wm n l gs (ws++OM.OK (iq l) n g) (@N8) s4') 0:=by
 have hy:0<=g.getLast?.getD (-1)/\g.getLast?.getD (-1)<n:=by
  rw[WN hne]
  exact hr _ (List.getLast_mem hne)
 generalize hy':g.getLast?.getD (-1)=y at hy
 have e1:f2 (f2 (gv 3) @DU bE) @H b7 (vl (@CP)) 0=.ok (.int (y+1)) 0:=aF (x:=.int y) (y:=.int 1) (aF (x:=ko g) (y:=.int (-1)) rfl rfl (by rw[<-hy'];exact GF hne)) rfl rfl
 have e2:f2 (gv 0) @M bE (vl (@CP)) 0=.ok @z 0:=aF (x:=au n l) (y:=.int 0) rfl rfl rfl
 have er:=Iz e1 e2 (@B) (@B)
 have hi:dB (y+1) ((n:Int)-(y+1)).toNat=(OM.ups n (y+1)).map int:=by
  unfold dB OM.ups
  rw[VP];rfl
 rw[hi]at er
 have hul:(OM.ups n (y+1)).length<=8:=by unfold OM.ups;rw[Uw,Vm];omega
 obtain⟨s4',e⟩:=PB (n:=n) (l:=l) (gs:=gs) hg (OM.ups n (y+1)) ws s4 (@B)
 refine⟨s4',?_⟩
 unfold BH
 rw[cL (env:=@CP) (β1:=0) er]
 show ib @NI rE _ (@CP) 0=_
 rw[e]
 unfold OM.OK
 rw[hy']
def O6{n:Nat}{l:@F}{k:Nat}(hn:n<=8):JC [au n l,.list ((@R1).map ko)]=.ok (.list ((OM.o5 (iq l) n (k+1)).map ko)) true:=by
 have hlen:=OM.KC (iq l) n k
 have h64:2^n<=2^8:=Nat.pow_le_pow_right (@B) hn
 have hmem:=OM.la (iq l) n k
 generalize hgs:@R1=gs at hlen hmem
 show fin (gz Kv [@G,@Hy,.no,.no,.no] 0)=_
 unfold gz
 rw[ax (env':=@OW) (β':=0) (by rw[iu,lp (ds:=[]) an];rfl)]
 obtain⟨env',β',ef,rfl,s3,s4,rfl⟩:=eS (t:=.nm 3) (m:=BH) (ds:=gs.map ko) (k:=0)
  (λi env β=>β=0/\∃s3 s4:Sl,env=wm n l gs (@FP) s3 s4)
  (env:=@OW) (β:=0) ⟨rfl,.no,.no,rfl⟩ (by
   rintro i d env β hi ⟨rfl,s3,s4,rfl⟩
   rw[Vo]
   rw[UN]at hi
   cases hq:gs[i]? with
   |none=>rw[hq]at hi;cases hi
   |some g=>
    rw[hq]at hi;cases hi
    have hgm:g∈gs:=U1 hq
    obtain⟨h1,h2,h3,h4⟩:=(hmem g).mp hgm
    have hne:g≠ []:=λz=>by rw[z]at h1;simp at h1
    have hsub:List.Sublist g (@OA):=OM.mD (OM.tD n 0) h2 λx hx=>(OM.l8 n).mpr (h3 x hx)
    have hg8:g.length<=8:=by
     have:=hsub.length_le
     unfold OM.ups at this
     rw[Uw,Vm]at this
     omega
    have hw:(@FP).length<=800:=by
     have a1:=OM.IZ n (@FP)
     have a2:=OM.qB (iq l) n (@Yf)
     have a3:OM.W n (@Yf)<=OM.W n gs:=by
      have:=OM.Mv n (@Yf) (gs.drop i)
      rw[List.take_append_drop]at this
      omega
     have a4:OM.W n gs<2^n:=by
      rw[<-hgs]
      have:∀k,OM.W n (@R1)<2^n:=λk=>by
       induction k with
       |zero=>exact OM.HV n
       |succ k ih=>exact Xg (OM.qB (iq l) n _) ih
      exact this k
     omega
    obtain⟨s4',e⟩:=Sd (n:=n) (l:=l) (gs:=gs) (@B) (@B) hne h3 hw s4
    refine⟨wm n l gs (@FP) (@N8) s4,rfl,_,_,e,rfl,@N8,s4',?_⟩
    have ht:gs.take (i+1)=@Yf++[g]:=by
     obtain⟨hi',eg⟩:=Uy.mp hq
     rw[List.take_succ_eq_append_getElem hi',eg]
    rw[ht]
    unfold OM.longer
    rw[List.flatMap_append]
    simp)
 rw[Uw,Vo,List.take_length]at *
 rw[ax (env':=wm n l gs (@YJ) s3 s4) (β':=0) ?zz]
 ·show FR.ok _ true=_
  rw[show OM.o5 (iq l) n (k+1)=@YJ by rw[<-hgs];rfl]
 case zz=>
  rw[cL (env:=@OW) (ds:=gs.map ko) (β1:=0) (by rfl)]
  exact ef
noncomputable def Rb:@I:=aS 3 1 (jU fO JC)
noncomputable abbrev Gb:SF:=aI (ba 1 [2] (gv 2))
 (ba 2 ([0]++([1]++[])) (ak JC @Z))
abbrev JF(n:Nat)(l:@F)(gs ls:@AG):En:=[@G,@Hy,.fz (.list (ls.map ko))]
theorem Qs{n:Nat}{l:@F}{gs ls:@AG}:ie (gv 2) (vl (JF n l gs ls)) 0=.ok (!decide (ls= [])) 0:=by
 cases ls with
 |nil=>rfl
 |cons g ls=>rfl
def R8{n:Nat}{l:@F}(O:@q)(h6:n<=8):∃(g:@E) (k:Nat),Rb @BM=.ok (ko g) false/\OM.Lv (iq l) n (k+1) g/\(∀g',¬OM.Lv (iq l) n (k+2) g')/\∀g',OM.Lv (iq l) n (k+1) g'->g'=g\/L2.HM.lexLt g g'=true:=by
 show ∃(g:@E) (k:Nat),fin (jU fO JC @Dy 0)=.ok (ko g) false/\_
 unfold jU
 rw[ax (env':=@Dy) (β':=0) (by rw[p6,aq (ds:=@BM) (β1:=0) rfl (nH O)];rfl)]
 have e1:f2 (gv 0) @M bE (vl @Dy) 0=.ok @z 0:=aF (x:=au n l) (y:=.int 0) rfl rfl rfl
 have hi:dB 0 n=(@OA).map int:=by
  unfold dB OM.ups
  rw[VP,show((n:Int)-0).toNat=n by omega];rfl
 have er:dM @Am (vl @Dy) 0=.ok ((@OA).map int) 0:=by
  rw[<-hi];exact eO (n:=n) e1 (@B)
 have hul:(@OA).length=n:=by unfold OM.ups;rw[Uw,Vm];omega
 have ec:aM 1 [] @BN (dM @Am) iP (bo @Q) (vl @Dy) 0=.ok (.list ((OM.ones n).map ko)) 0:=by
  unfold OM.ones
  rw[VP]
  exact bV (l:=@OA) (e:=int) (λt=>ko [t]) er (@B) λt ht=>⟨_,rfl,lp @AQ ⟩
 rw[ax (env':=[@G,.fz (.list ((OM.ones n).map ko)),.no]) (β':=0) (by rw[bC,ec];rfl)]
 rw[ax (env':=JF n l (@HH) (@HH)) (β':=0) (by rfl)]
 obtain⟨env',β',ew,rfl,i,gs,rfl,hgs⟩:=gH (L:=[]) (t:=ie (gv 2)) (m:=Gb)
  (λk env β=>β=0/\∃(i:Nat) (gs:@AG),env=@TF/\k+i=n+1/\((i=0/\gs=@HH)\/(1<=i/\gs=OM.o5 (iq l) n (i-1)/\gs≠ [])))
  (λenv β=>β=0/\∃(i:Nat) (gs:@AG),env=@TF/\@DZ= []/\1<=i/\gs=OM.o5 (iq l) n (i-1)/\gs≠ [])
  (n:=1000) (k:=n+1) (env:=JF n l (@HH) (@HH)) (β:=0) (@B) ⟨rfl,0,_,rfl,@B,.inl @IO ⟩ (by
   rintro k env β ⟨rfl,i,gs,rfl,hk,hgs⟩
   refine⟨_,0,Qs,?_⟩
   by_cases hz:@DZ= []
   ·refine .inl ⟨by rw[UH hz];rfl,rfl,i,gs,rfl,hz,?_⟩
    rcases hgs with⟨rfl,rfl⟩|h
    ·exfalso
     have h0:(0:Int)∈@OA:=(OM.l8 n).mpr ⟨@B,by have:=O.lo;omega⟩
     have: [(0:Int)]∈@HH:=U4.mpr ⟨0,h0,rfl⟩
     rw[hz]at this;cases this
    ·exact h
   ·refine .inr ⟨by rw[UO hz];rfl,JF n l (@DZ) (OM.o5 (iq l) n (i+1)),0,n+1-(i+1),?_,?_,rfl,i+1,_,rfl,?_,.inr ⟨@B,rfl,hz⟩⟩
    ·show Gb (@TF) 0=_
     unfold Gb
     rw[ax (env':=JF n l (@DZ) (@DZ)) (β':=0) (by rfl)]
     rw[bC,aq (ds:=[au n l,.list ((@DZ).map ko)]) (β1:=0) rfl (O6 h6)];rfl
    ·have:i<n:=by
      by_cases q:i<n
      ·exact q
      ·exact @Q_
     omega
    ·have:i<n:=by
      by_cases q:i<n
      ·exact q
      ·exact @Q_
     omega)
 obtain⟨hend,hi1,hgs,hne⟩:=hgs
 obtain⟨g,rest,hg⟩:=List.exists_cons_of_ne_nil hne
 have hgm:g∈OM.o5 (iq l) n (i-1):=by rw[<-hgs,hg];exact UG ..
 have hL:=(OM.la (iq l) n (i-1) g).mp hgm
 have hno:∀g',¬OM.Lv (iq l) n (i+1) g':=λg' z=>by
  have:=(OM.la (iq l) n i g').mpr z
  rw[hend]at this;cases this
 refine⟨g,i-1,?_,hL,λg' z=>hno g' (by rw[show i+1=i-1+2 by omega];exact z),λg' z=>?_⟩
 rotate_left
 ·have hm:=(OM.la (iq l) n (i-1) g').mpr z
  have hp:=OM.C5 (iq l) n (i-1)
  rw[<-hgs,hg]at hm hp
  rcases @P3 with e|e
  ·exact .inl e
  ·exact .inr ((Wl.mp hp).1 g' e)
 rw[ax ew,hg]
 have e0:f2 (gv 1) @M bE (vl (JF n l (g::rest) (@DZ))) 0=.ok (ko g) 0:=aF (x:=.list ((g::rest).map ko)) (y:=.int 0) rfl rfl (by show ki ((g::rest).map ko) 0=_;exact iH (j:=0) rfl)
 rw[cO,e0];rfl
noncomputable def Bx:@I:=aS 3 1 (mH qp Rf gf pq)
def P5(p:Pr):Ge (aG p):=⟨rfl,λes e=>by cases e;exact⟨by simp,λx hx=>by simp at hx;rcases hx with rfl|rfl<;>rfl⟩⟩
def Qt{n:Nat}{p:Pr}(h:(0<=p.1/\p.1<n)/\(0<=p.2/\p.2<n)):SM n (aG p)=true:=by
 show(fK (.int p.1) n&&fK (.int p.2) n)=true
 rw[US];exact⟨UH h.1,UH h.2⟩
open Classical in
theorem Cv{n:Nat}{l:@F}(h1:1<=n)(h8:n<=8)(wn:OM.Wn n l)(hl:l.length<=100):Bx @BM=.ok (.bool (decide (@q))) false:=by
 show fin (mH qp Rf gf pq @Dy 0)=_
 unfold mH
 rw[ax (env':=@Dy) (β':=0) (by rfl)]
 rw[ax (env':=[@G,.fz @z,.no]) (β':=0) (by rfl)]
 rw[ax (env':=@O7) (β':=0) (by rfl)]
 have e4:ak qp @Ay @EB 0=.ok (@Bv) 0:=aq rfl (Hf h1 h8)
 rw[ax (env':=@O7) (β':=0) ?h4]
 case h4=>
  refine dY ?_
  show rA (rP (ie (ak qp @Ay))) _ @EB 0=_
  rw[sN,Cm,Ca,e4]
  rfl
 have e5:aM 1 [1] @BN @St iP (ak Rf @Z) @EB 0=.ok (.list (l.map λ_=>PyData.bool true)) 0:=by
  refine bV (l:=l) (e:=aG) (λ_=>PyData.bool true) rfl (@B) λp hp=>⟨_,rfl,?_⟩
  refine aq (b:=false) (ds:=[aG p,.int n]) rfl ?_
  rw[Tz (P5 p),Qt (wn p hp)]
 rw[ax (env':=@O7) (β':=0) ?h5]
 case h5=>
  refine dY ?_
  show rP (ie (f1 (aM 1 [1] @BN @St iP (ak Rf @Z)) (bQ λbs=>@Cz))) @EB 0=_
  rw[Cm,Ca,fG (d:=@Bv) e5 (by simp only[bQ];rw[g8];simp)]
  rfl
 have e6:ak gf @EZ @EB 0=.ok (.tuple ((@KY).map aG)) 0:=aq rfl (by rw[HR h1 h8 wn])
 have e7:ak pq @AR @EB 0=.ok (.bool (l.any λp=>decide (p.1=p.2))) 0:=aq rfl (by unfold pq;simp only[mP];rw[Uz (@B)])
 show fin (toS (fV (f2 (gv 2) (ak gf @EZ) @A5) (f1 (ak pq @AR) F0) @EB 0) _)=_
 unfold fV
 rw[aF (d:=.bool (decide (l=@KY))) (x:=.tuple @GZ) rfl e6 (by rw[AE];simp)]
 dsimp only[R.bnd]
 by_cases c:l=@KY
 ·rw[UH c]
  dsimp only
  rw[fG (d:=.bool (!(l.any λp=>decide (p.1=p.2)))) e7 rfl]
  have key:(!(l.any λp=>decide (p.1=p.2)))=decide (@q):=by
   rw[Va,Vw,UU,List.any_eq_false]
   constructor
   ·intro h
    refine⟨h1,h8,wn,?_,λa ha=>h (a,a) ha @W,λa b d hab hbd=>?_⟩
    ·rw[c];exact @Ie
    ·rw[c]
     exact OM.qb.mpr ⟨⟨(wn _ hab).1,(wn _ hbd).2⟩,.more hab (.one hbd)⟩
   ·intro O p hp he
    have he:=VI he
    obtain⟨a,b⟩:=p
    simp only at he
    subst he
    exact O.irr a hp
  rw[key];rfl
 ·rw[UO c,UO λO=>c O.closed.symm]
  rfl
def pd:List D:=[.none,@Po,au 0 [],au 9 [],au 2 [(0,2)],au 3 [(0,1),(1,2)],au 2 [(0,1),(1,0)],.list [.int 1,@Po],.tuple [@Bv,@Po],.tuple [.int 2,.list [aG (0,1)]],au 1 [(0,0)],au 3 [(1,2),(0,1),(0,2)],.str "1",.tuple [.int 1,@Po,@Po]]
def xU{n:Nat}{l:@F}(h1:1<=n)(h8:n<=8)(wn:OM.Wn n l)(hl:l.length<=100)(h:¬@q):Bx @BM=@GD:=by
 classical
 rw[Cv h1 h8 wn hl]
 congr 2
 exact UO h
def Od:∀d,d∈pd->Bx [d]=@GD:=by
 intro d hd
 unfold pd at hd
 simp only[UD,Vf,VW]at hd
 rcases hd with rfl|rfl|rfl|rfl|rfl|rfl|rfl|rfl|rfl|rfl|rfl|rfl|rfl|rfl
 ·rfl
 ·rfl
 ·rfl
 ·rfl
 ·rfl
 ·exact xU (@B) (@B) (by unfold OM.Wn;decide) @W λO=>absurd (O.tr 0 1 2 @W @W) @S
 ·exact xU (@B) (@B) (by unfold OM.Wn;decide) @W λO=>absurd (O.tr 0 1 0 @W @W) @S
 ·rfl
 ·rfl
 ·rfl
 ·exact xU (@B) (@B) (by unfold OM.Wn;decide) @W λO=>O.irr 0 @W
 ·exact xU (@B) (@B) (by unfold OM.Wn;decide) @W λO=>absurd O.ris (by unfold OM.Fi;decide)
 ·rfl
 ·rfl
noncomputable def nF:@I:=aS 1 1 (iG Bx)
def TQ{d:D}(h:Bx [d]=@GD):nF [d]=@VC:=by
 show fin (iG Bx @Wc 0)=_
 unfold iG
 rw[eY (dz (dO (aq (ds:=[d]) rfl h)))]
 rfl
def KW{n:Nat}{l:@F}(O:@q):nF @BM=@KB:=by
 classical
 show fin (iG Bx [@G] 0)=_
 have h:=Cv O.lo O.hi O.wn (by have:=ya O;omega)
 rw[UH O]at h
 exact fJ (MZ (dz (dO (aq (ds:=@BM) rfl h))) (wB rfl))
def JR(ds:List D)(h:fO ds≠.bad):nF ds=fO ds:=by
 unfold fO at h
 split at h
 ·obtain⟨n,l,rfl,O⟩:=Hb h
  rw[nH O,KW O]
 ·exact @Br
end RM
section
namespace OM
section
variable {α:Type}(c:α->α->Bool)
def SN(f:@Bl->@Bl->@Bl)(cs best:@Bl):@Bl->@Bl
 | []=>best
 |p::ps=>SN f cs (if(f (cs++[p]) (ps.filter (c p))).length>best.length then f (cs++[p]) (ps.filter (c p))else best) ps
def OS:Nat->@Bl->@Bl->@Bl
 | 0,cs,_=>cs
 |k+1,cs,ps=>SN c (OS k) cs cs ps
end
end OM
namespace RM
open PySem L2
def DG(l:@F)(p q:Pr):Bool:=sf l p q&&sf l q p
def Ri:@I:=aS 3 3 (tw Gn)
def Tw(n:Nat)(l:@F)(p q:Pr):Ri @Kr=.ok (.bool (DG l p q)) false:=by
 show fin (tw Gn @De 0)=_
 unfold tw
 rw[cO,sQ (aq (ds:=@Kr) rfl (JZ n l p q)) (aq (ds:=[au n l,aG q,aG p]) rfl (JZ n l q p))];rfl
def LR{α:Type}{ps:@Bl}{i:Nat}{p:α}(h:ps[i]? =some p):ps.drop i=p::ps.drop (i+1):=by
 obtain⟨hi,e⟩:=Uy.mp h
 rw[VZ hi,e]
theorem Lg{ps:@F}{i:Nat}{d:D}(h:(cY @C7)[i]? =some d):∃p,ps[i]? =some p/\d=.tuple [.int i,aG p]:=by
 unfold cY at h
 rw[Wy,UN]at h
 cases q:ps[i]? with
 |none=>rw[q]at h;cases h
 |some p=>rw[q]at h;cases h;exact⟨p,rfl,rfl⟩
noncomputable def OV:Nat->@I:=kx λF=>aS 8 3 (gu F Ri)
abbrev fe(n:Nat)(l cs ps best:@F)(s4 s5 s6 s7:Sl):En:=[@G,.fz (@LU),.fz (.list @C7),.fz (.list (best.map aG)),s4,s5,s6,s7]
noncomputable abbrev HW(F:@I):SF:=aI (ba 6 ((([]++@V)++[])++[0,5]) (aM 1 [0,5] @BN (bB (EH (gv 2) @IR (λ_ β=>@FY))) @SI (gv 0)))
 (aI (ba 7 ([0]++(([]++([5]++[]))++([6]++[]))) (ak F @JX))
 (ji @V (dD @Gu)
 (ba 3 [7] (gv 7))
 lU))
def S9{n:Nat}{l cs ps best:@F}{F:@I}{f:@F->@F->@F}{i:Nat}{p:Pr}(hp:ps.length<=100)(hc:cs.length<=200)(hi:ps[i]? =some p)(s6 s7:Sl)
  (hF:F [au n l,.list ((cs++[p]).map aG),.list (((ps.drop (i+1)).filter @SE).map aG)]=.ok (.list ((f (cs++[p]) ((ps.drop (i+1)).filter @SE)).map aG)) false) :
  ∃t6 t7,HW F (@Bx) 0=.nx (fe n l cs ps (if(f (cs++[p]) ((ps.drop (i+1)).filter @SE)).length>best.length then f (cs++[p]) ((ps.drop (i+1)).filter @SE)else best) (@Dj) (.fz (aG p)) t6 t7) 0:=by
 generalize hL:(ps.drop (i+1)).filter @SE=later at hF ⊢
 generalize hR:f (cs++[p]) later=r at hF ⊢
 have ei:f2 (gv 4) @H b7 (vl (@Bx)) 0=.ok (.int ((i+1:Nat):Int)) 0:=aF (x:=.int i) (y:=.int 1) rfl rfl (by show some (int ((i:Int)+1))=_;rw[show((i+1:Nat):Int)=(i:Int)+1 by omega])
 have es:bB (EH (gv 2) @IR (λ_ β=>@FY)) (vl (@Bx)) 0=.ok ((ps.drop (i+1)).map aG) 0:=by
  unfold bB
  rw[Dp (ds:=ps.map aG) (i:=i+1) rfl ei,List.map_drop];rfl
 have ec:aM 1 [0,5] @BN (bB (EH (gv 2) @IR (λ_ β=>@FY))) @SI (gv 0) (vl (@Bx)) 0=.ok (.list (later.map aG)) 0:=by
  rw[<-hL]
  exact cy (l:=ps.drop (i+1)) (e:=aG) (λq=>DG l p q) aG es (by rw[WA];omega) λq hq=>⟨_,rfl,dO (aq (ds:=@Kr) rfl (Tw n l p q)),λ_=>rfl⟩
 unfold HW
 rw[ax (env':=@HL) (β':=0) (by rw[bC,ec];rfl)]
 have ea:f2 (gv 1) (bo @G2) jL (vl (@HL)) 0=.ok (.list ((cs++[p]).map aG)) 0:=by
  refine aF (x:=@LU) (y:=.list [aG p]) rfl @Pa ?_
  rw[me (by rw[Uw];simp;omega),U7];rfl
 rw[ax (env':=@E6) (β':=0) (by rw[bC,aq (ds:=[au n l,.list ((cs++[p]).map aG),.list (later.map aG)]) (β1:=0) (ac rfl (ac ea @AQ)) hF];rfl)]
 have t:dD @Gu (vl (@E6)) 0=.ok (decide (r.length>best.length)) 0:=by
  refine fL _ _ _ _ (aF (x:=.int ((r.map aG).length:Nat)) (y:=.int ((best.map aG).length:Nat)) rfl rfl ?_)
  rw[Uw,Uw]
  show some (PyData.bool (decide (((best.length:Nat):Int)<((r.length:Nat):Int))))=_
  congr 2
  exact VG.mpr (@B)
 by_cases h:r.length>best.length
 ·rw[UH h]at t
  rw[eY t,Uz h]
  exact @CT
 ·rw[UO h]at t
  rw[dY t,UJ h]
  exact @CT
theorem Qy{n:Nat}{l:@F}:∀(k:Nat) (cs ps:@F),ps.length<k->ps.length<=100->cs.length+ps.length<=200->OV k [au n l,@LU,.list @C7]=.ok (.list ((OM.OS (DG l) k cs ps).map aG)) false
 | 0,_,_,h,_,_=>absurd h (@B)
 |k+1,cs,ps,hk,hp,hc=>by
  show fin (gu (OV k) Ri [@G,.fz (@LU),.fz (.list @C7),.no,.no,.no,.no,.no] 0)=_
  unfold gu
  rw[ax (env':=@Im) (β':=0) (by rfl)]
  obtain⟨env',β',ef,rfl,best,s4,s5,s6,s7,rfl,hb⟩:=eS (t:=.two 4 5) (m:=HW (OV k)) (ds:=cY @C7) (k:=0)
   (λi env β=>β=0/\∃(best:@F) (s4 s5 s6 s7:Sl),env=@R7/\OM.SN (DG l) (OM.OS (DG l) k) cs best (ps.drop i)=OM.OS (DG l) (k+1) cs ps)
   (env:=@Im) (β:=0) ⟨rfl,cs,.no,.no,.no,.no,rfl,rfl⟩ (by
    rintro i d env β hi ⟨rfl,best,s4,s5,s6,s7,rfl,hb⟩
    obtain⟨p,hpi,rfl⟩:=Lg hi
    rw[Vo]at hb
    have hil:=(Uy.mp hpi).1
    have hfl:=Vg @SE (ps.drop (i+1))
    rw[WA]at hfl
    refine⟨@Bx,rfl,?_⟩
    obtain⟨t6,t7,e⟩:=S9 (n:=n) (best:=best) (F:=OV k) (f:=OM.OS (DG l) k) hp (@B) hpi s6 s7 (Qy k (cs++[p]) _ (@B) (@B) (by rw[UL];simp only[UY,Wo];omega))
    refine⟨_,_,e,rfl,_,_,_,_,_,rfl,?_⟩
    rw[LR hpi]at hb
    rw[show 0+i+1=i+1 by omega,<-hb];rfl)
  have hz:(cY @C7).length=ps.length:=by unfold cY;rw[List.length_mapIdx,Uw]
  rw[hz,Vo,WY]at hb
  rw[ax (env':=@R7) (β':=0) ?zz]
  ·rw[<-hb];rfl
  case zz=>
   rw[cL (env:=@Im) (ds:=cY @C7) (β1:=0) (by rfl)]
   exact ef
end RM
end
namespace RM
open PySem L2
section
variable {m m':SF}{env:En}{β β1:Int}{Q:SO->Prop}{L:@c}
def KP{t:Tg}{fi:@w}{ds:List D}(g:D->Option (D×Bool))(I:En->Int->Prop)(hi:@Wg=@FG)(h0:I @AD β1)
  (hs:∀d,d∈ds->∀env β,I env β->∃env1,@Hi=@JP/\WP (@QB) λs=>(∃v b β2,g d=some (v,b)/\s=.rt v b β2)\/(g d=none/\∃env2 β2,s=@Dw/\I env2 β2))
  (kr:∀v b β,ds.findSome? g=some (v,b)->Q (.rt v b β)) (k:ds.findSome? g=none->∀env β,I env β->@MY):@IA:=by
 have key:∀(es:List D),(∀d,d∈es->d∈ds)->∀env β,I env β->(∃v b β2,es.findSome? g=some (v,b)/\ib t m es env β=.rt v b β2)\/(es.findSome? g=none/\∃env2 β2,ib t m es env β=@Dw/\I env2 β2):=by
  intro es
  induction es with
  |nil=>exact λ_ env β h=>.inr ⟨rfl,env,β,rfl,h⟩
  |cons d es ih=>
   intro hd env β h
   obtain⟨env1,e1,⟨h1⟩⟩:=hs d (hd d (UG ..)) env β h
   rcases h1 with⟨v,b,β2,hg,e2⟩|⟨hg,env2,β2,e2,h2⟩
   ·exact .inl ⟨v,b,β2,by rw[W2,hg],by unfold ib;rw[e1];dsimp only;rw[e2]⟩
   ·have e3:ib t m (d::es) env β=ib t m es env2 β2:=by conv=>lhs;unfold ib;rw[e1];dsimp only;rw[e2]
    rw[e3,W2,hg]
    exact ih (λd h=>hd d (UI _ h)) env2 β2 h2
 rcases key ds (λ_ h=>h) _ _ h0 with⟨v,b,β2,hg,e⟩|⟨hg,env2,β2,e,h2⟩
 ·exact⟨by rw[gC ((cL hi).trans e)];exact kr v b β2 hg⟩
 ·exact wp_seq ((cL hi).trans e) (k hg _ _ h2)
end
noncomputable def Ry:@I:=aS 1 1 (kL Pg QL)
def MB{n:Nat}{l:@F}(h4:n<=4):(@Ba).length<=24:=Vp (C7 n) ((show ∀n,n<5->Rq n n<=24 by decide +kernel) n (@B))
def R4{n:Nat}{l:@F}(O:@q)(h4:n<=4):Ry @BM=.ok (.list ((@Ba).map tupI)) true:=by
 show fin (kL Pg QL [@G] 0)=_
 unfold kL
 have hc:=KZ O
 have h24:=MB (l:=l) h4
 have e1:ak Pg @Q @Xy 0=.ok (.int ((@Ba).length:Nat)) 0:=by
  rw[hc];exact aq (ds:=@BM) rfl (SK O)
 have ec:aM 1 [0] @BN (dM (ak Pg @Q)) iP (ak QL @Ip) @Xy 0=.ok (.list ((List.range (@Ba).length).map λk=>tupI ((@Ba).getD k []))) 0:=by
  refine bV (l:=List.range (@Ba).length) (e:=λ(k:Nat)=>int (0+(k:Int))) (λk=>tupI ((@Ba).getD k [])) ?_ (by rw[Vm];omega) λk hk=>⟨[.da (.int (0+(k:Int))),@Bo],rfl,?_⟩
  ·rw[eO (n:=(@Ba).length) e1 (@B)];rfl
  ·have hk:=Vq.mp hk
   rw[VE]
   obtain⟨r,h1,h2,_⟩:=Lj O (a:=(k:Int)) (@B) (@B)
   have h3:ki ((@Ba).map tupI) (k:Int)=some (tupI ((@Ba).getD k [])):=iH (by rw[UN,U2,UB hk];rfl)
   rw[h1]at h3
   rw[qr (Option.some.inj h3)]at h2
   exact aq (ds:=[au n l,.int (k:Int)]) rfl h2
 have e3:(List.range (@Ba).length).map (λk=>tupI ((@Ba).getD k []))=(@Ba).map tupI:=by
  refine Wh @W λi h1 h2=>?_
  have hi:i<(@Ba).length:=by simpa using h1
  simp[U2,UB hi]
 rw[e3]at ec
 exact fJ (K3 ec rfl)
open Classical in
noncomputable def qV(n:Nat)(l:@F):Nat->@AG->@YK
 | 0,ch=>if(@CD).filter (IB ch)=l then some ch else none
 |k+1,ch=>(@Ba).findSome? λr=>qV n l k (ch++[r])
def zC:@YK->D
 |none=>.none
 |some rs=>@y
noncomputable def Ji(F:@I):@I:=aS 6 4 (eZ F wH)
theorem FP{α:Type}{f:α->D}{g:D->Option (D×Bool)}{h:α->@YK}:∀{as:@Bl},(∀a,a∈as->g (f a)=(h a).map λrs=>(@Rr,false))->(as.map f).findSome? g=(as.findSome? h).map λrs=>(@Rr,false)
 | [],_=>rfl
 |a::as,hh=>by
  rw[Vj,W2,W2,hh a (UG ..)]
  cases h a with
  |some rs=>rfl
  |none=>exact FP λa ha=>hh a (UI _ ha)
theorem Nm{n:Nat}{l:@F}(O:@q)(h4:n<=4):∀(k:Nat) (ch:@AG) (m:Nat),k<m->1<=ch.length+k->ch.length+k<=10->(∀r,r∈ch->@CE)->kx Ji m [au n l,.list ((@Ba).map tupI),@C4,.int ((ch.length+k:Nat):Int)]=.ok (zC (qV n l k ch)) false:=by
 intro k
 induction k with
 |zero=>
  intro ch m hm h1 h10 hr
  obtain⟨m,rfl⟩:∃m',m=m'+1:=⟨m-1,@B ⟩
  show fin (eZ (kx Ji m) wH @d 0)=_
  unfold eZ
  have hlen:=jv (fa:=gv 2) (vs:=vl @d) (β:=0) (ds:=@Il) rfl
  rw[Uw]at hlen
  have t1:=iw (neg:=false) hlen (fb:=gv 3) (j:=((ch.length+0:Nat):Int)) rfl
  rw[UJ UQ,UH (@B)]at t1
  have hne:ch≠ []:=λz=>by rw[z]at h1;simp at h1
  have e1:wH [@C4,au n l]=.ok (.bool (decide ((@CD).filter (IB ch)=l))) false:=by
   rw[NN O ⟨rfl,λes e=>by
    cases e
    refine⟨by rw[Uw];omega,λx hx=>?_⟩
    obtain⟨q,hq,rfl⟩:=U4.mp hx
    obtain⟨hl,hrb⟩:=Pb (@B) (hr q hq).1
    exact(ON (@B) hrb).1⟩,xu hne hr]
  refine fJ (qc t1 ?_)
  have et:=dO (aq (F:=wH) (fr:=ae (gv 2) @Q) (vs:=vl @d) (β:=0) (ds:=[@C4,au n l]) rfl e1)
  unfold qV
  by_cases c:(@CD).filter (IB ch)=l
  ·rw[Uz c]
   rw[UH c]at et
   exact qG (d:=@C4) (β1:=0) (by unfold NJ;rw[show bj @V @d= @d from rfl,et];rfl) rfl
  ·rw[UJ c]
   rw[UO c]at et
   exact qG (d:=.none) (β1:=0) (by unfold NJ;rw[show bj @V @d= @d from rfl,et];rfl) rfl
 |succ k ih=>
  intro ch m hm h1 h10 hr
  obtain⟨m,rfl⟩:∃m',m=m'+1:=⟨m-1,@B ⟩
  obtain⟨c,hc⟩:∃c,c=ch.length+(k+1):=@BS
  rw[<-hc]
  show fin (eZ (kx Ji m) wH [@G,.fz (.list ((@Ba).map tupI)),@S3,.fz (.int (c:Int)),.no,.no] 0)=_
  unfold eZ
  have hlen:=jv (fa:=gv 2) (vs:=vl [@G,.fz (.list ((@Ba).map tupI)),@S3,.fz (.int (c:Int)),.no,.no]) (β:=0) (ds:=@Il) rfl
  rw[Uw]at hlen
  have t1:=iw (neg:=false) hlen (fb:=gv 3) (j:=(c:Int)) rfl
  rw[UJ UQ,UO (@B)]at t1
  have h24:=MB (l:=l) h4
  refine fJ (mJ t1 ?_)
  let g:D->Option (D×Bool):=λd=>match kx Ji m [au n l,.list ((@Ba).map tupI),.list (@Il++[d]),.int (c:Int)]with
   | .ok .none _=>none
   | .ok v _=>some (v,false)
   |_=>none
  have one:∀r,r∈@Ba->kx Ji m [au n l,.list ((@Ba).map tupI),.list (@Il++@OF),.int (c:Int)]=.ok (zC (qV n l k (ch++[r]))) false:=λr hm'=>by
   have:=ih (ch++[r]) m (@B) (by rw[UL,U5];omega) (by rw[UL,U5];omega) λq hq=>by
    rcases UW.mp hq with h|h
    ·exact hr q h
    ·rw[UP]at h;subst h;exact KA O hm'
   rw[U7,UL,U5,show ch.length+1+k=c by omega]at this
   exact this
  have hg:((@Ba).map tupI).findSome? g=(qV n l (k+1) ch).map λrs=>(@Rr,false):=by
   refine FP λr hm'=>?_
   show(match kx Ji m [au n l,.list ((@Ba).map tupI),.list (@Il++@OF),.int (c:Int)]with|.ok .none _=>none|.ok v _=>some (v,false)|_=>none)=_
   rw[one r hm']
   cases qV n l k (ch++[r])<;>rfl
  refine KP (ds:=(@Ba).map tupI) (β1:=0) g (λenv b=>b=0/\∃s4 s5,env= [@G,.fz (.list ((@Ba).map tupI)),@S3,.fz (.int (c:Int)),s4,s5]) rfl ⟨rfl,_,_,rfl⟩ ?_ ?_ ?_
  ·rintro d hd env b ⟨rfl,s4,s5,rfl⟩
   obtain⟨r,hm',rfl⟩:=@WT
   refine⟨[@G,.fz (.list ((@Ba).map tupI)),@S3,.fz (.int (c:Int)),@Ql,s5],rfl,?_⟩
   refine dJ (d:=zC (qV n l k (ch++[r]))) (β1:=0) (aq (ds:=[au n l,.list ((@Ba).map tupI),.list (@Il++@OF),.int (c:Int)]) (ac rfl (ac rfl (ac (HF (a:=@Il) (b:=@OF) rfl @Pa (by rw[Uw];simp;omega)) @AQ))) (one r hm')) (wp_at [@G,.fz (.list ((@Ba).map tupI)),@S3,.fz (.int (c:Int)),@Ql,.fz (zC (qV n l k (ch++[r])))] rfl ?_)
   have e2:g @Co=(qV n l k (ch++[r])).map λrs=>(@Rr,false):=by
    show(match kx Ji m [au n l,.list ((@Ba).map tupI),.list (@Il++@OF),.int (c:Int)]with|.ok .none _=>none|.ok v _=>some (v,false)|_=>none)=_
    rw[one r hm']
    cases qV n l k (ch++[r])<;>rfl
   rw[e2]
   cases qV n l k (ch++[r])with
   |none=>exact MZ rfl (wB (.inr ⟨rfl,_,_,rfl,rfl,_,_,rfl⟩))
   |some rs=>exact Sx rfl ⟨.inl ⟨_,_,_,rfl,rfl⟩⟩
  ·intro v b β h
   rw[hg]at h
   cases q:qV n l (k+1) ch with
   |none=>rw[q]at h;cases h
   |some rs=>rw[q]at h;cases h;rfl
  ·rintro h env b ⟨rfl,s4,s5,rfl⟩
   rw[hg]at h
   cases q:qV n l (k+1) ch with
   |none=>exact fM rfl rfl
   |some rs=>rw[q]at h;cases h
section
variable {L:@c}{f:VF D}{m':SF}{env:En}{β β1:Int}{c:Str}{d:D}
def xE(h:@C0=.exc c):@We=.exc c:=by unfold du;rw[h];rfl
def xS(h:@C0=.exc c):@No=.exc c:=Aa (xE h)
def oS(h:@C0=@DM):@No=m' @AD β1:=ax (by unfold du;rw[h];rfl)
def oE(h:@C0=@DM):@We=.nx @AD β1:=by unfold du;rw[h];rfl
end
noncomputable def GW:@I:=aS 1 1 (lR gJ)
noncomputable def Hq:@I:=aS 1 1 (bY nF)
noncomputable def P6:@I:=aS 5 2 (fk Hq GW)
noncomputable def Pl:@I:=aS 1 1 (fq Hq (kx Ji 40) Ry RB)
noncomputable def Qc:@I:=aS 1 1 (jP (OV 40) qu)
noncomputable def QY:@I:=aS 3 1 (lO nF Qc Rb)
section
variable {a k:D}{c:Str}{n:Nat}{l:@F}
def Rh(h:nF [a]=.exc c):Hq [a]=.exc c:=by
 show fin (bY nF [.fz a] 0)=_
 unfold bY
 rw[xS (i5 (ds:=[a]) rfl h)];rfl
def Pa(n:Nat)(l:@F):dD (f2 @Am @EN OY) @Xy 0=.ok (decide ((n:Int)>4)) 0:=fL _ _ _ _ (aF (x:=.int n) (y:=.int 4) (MR (n:=n) (l:=l) rfl) rfl rfl)
def IP(O:@q)(h:4<n):Hq @BM=.exc "TooMany":=by
 show fin (bY nF [@G] 0)=_
 unfold bY
 have t:=Pa n l
 rw[UH (@B)]at t
 rw[oS (aq (ds:=@BM) rfl (KW O))]
 show @Wi=_
 rw[eY t];rfl
def MG(O:@q)(h:n<=4):Hq @BM=@KB:=by
 show fin (bY nF [@G] 0)=_
 unfold bY
 have t:=Pa n l
 rw[UO (@B)]at t
 rw[oS (aq (ds:=@BM) rfl (KW O))]
 show @Wi=_
 rw[dY t];rfl
def Qz(h:Hq [a]=.exc c):P6 [a,k]=.exc c:=by
 show fin (fk Hq GW [.fz a,.fz k,.no,.no,.no] 0)=_
 unfold fk
 rw[xS (i5 (ds:=[a]) rfl h)];rfl
def QM(h:Hq [a]=.exc c):Pl [a]=.exc c:=by
 show fin (fq Hq (kx Ji 40) Ry RB [.fz a] 0)=_
 unfold fq
 rw[xS (i5 (ds:=[a]) rfl h)];rfl
def Ss(h:nF [a]=.exc c):QY [a]=.exc c:=by
 show fin (lO nF Qc Rb [.fz a,.no,.no] 0)=_
 unfold lO
 rw[xS (i5 (ds:=[a]) rfl h)];rfl
def RY(O:@q)(h4:n<=4)(h:GW [k]=@GD):P6 [au n l,k]=@UL:=by
 show fin (fk Hq GW @XT 0)=_
 unfold fk
 rw[oS (aq (ds:=@BM) rfl (MG O h4))]
 show fin (aI _ _ @XT 0)=_
 rw[Aa (c:="NoNumber") (by rw[eY (dz (dO (aq (ds:=[k]) rfl h)))];rfl)];rfl
end
def cN(t:Nat):List D:=[.int 0,.int 5,.int (-1-(t:Int)),@Bv,.none,.str "1",.tuple [.int 1],.int (10^30)]
def LA{i:Int}(h:¬(1<=i/\i<=4)):GW [.int i]=@GD:=by
 show fin (lR gJ [@Dj] 0)=_
 unfold lR
 have e:iS @H (gv 0) @EN yX yX (vl [@Dj]) 0=.ok (.bool (decide (1<=i)&&decide (i<=4))) 0:=uB rfl rfl rfl rfl
 have w:ak gJ @Q (vl [@Dj]) 0=.ok (@Bv) 0:=aq (ds:=[.int i]) rfl rfl
 have a:fV @U4 @LQ (vl [@Dj]) 0=.ok (@Ai) 0:=by
  unfold fV
  rw[w]
  dsimp only[R.bnd]
  rw[e,show(decide (1<=i)&&decide (i<=4))=false by rw[Bool.and_eq_false_iff,Vn,Vn];omega]
 exact fJ (fM a rfl)
def K8{d:D}(h:eG d=false)(h':M1 d=false):GW [d]=@GD:=by
 show fin (lR gJ @Wc 0)=_
 unfold lR
 have w:ak gJ @Q (vl @Wc) 0=.ok (@Ai) 0:=aq (ds:=[d]) rfl (by rw[tj h,h'])
 have a:fV @U4 @LQ (vl @Wc) 0=.ok (@Ai) 0:=by
  unfold fV
  rw[w];rfl
 exact fJ (fM a rfl)
def Nb{t:Nat}{d:D}(h:d∈cN t):GW [d]=@GD:=by
 unfold cN at h
 simp only[UD,Vf,VW]at h
 rcases h with rfl|rfl|rfl|rfl|rfl|rfl|rfl|rfl
 ·exact LA (@B)
 ·exact LA (@B)
 ·exact LA (@B)
 ·exact @VO
 ·exact @VO
 ·exact @VO
 ·exact @VO
 ·exact LA (@B)
section
variable {n:Nat}{l:@F}
def Qg(O:@q)(h4:n<=4):∃d b,Pl @BM=@Qp:=by
 have hs:(vv n l).length<=39:=by have:=IG (l:=l) (n:=n) (@B);omega
 obtain⟨ws,_,ew,hF⟩:=Sb O hs
 have h2:ws.length<=n:=hF.le O
 have h1:1<=ws.length:=hF.pos
 have:=Nm O h4 ws.length [] 40 (@B) (by simp;omega) (by simp;omega) λr hr=>(by cases hr)
 rw[show([]:@AG).length+ws.length=ws.length by simp]at this
 have W:WP (fq Hq (kx Ji 40) Ry RB [@G] 0) λs=>∃d b,fin s=@Qp:=by
  unfold fq
  exact tf (aq (ds:=@BM) rfl (MG O h4)) (fM (aq (ds:=[au n l,.list ((@Ba).map tupI),@L9,.int ((ws.length:Nat):Int)]) (ac rfl (ac (aq (ds:=@BM) rfl (R4 O h4)) (ac (lp an) (ac (aq (ds:=@BM) rfl ew) an)))) this) @CT)
 exact W.out
def Pp(O:@q)(hs:(vv n l).length<=39):∃qs:@F,Qc @BM=.ok (.list (qs.map aG)) false:=by
 refine⟨OM.OS (DG l) 40 [] (vv n l),?_⟩
 show fin (jP (OV 40) qu [@G] 0)=_
 unfold jP
 exact fJ (fM (aq (ds:=[au n l,.list (([]:@F).map aG),.list ((vv n l).map aG)]) (ac rfl (ac (lp (ds:=[]) an) (ac (aq (ds:=@BM) rfl (zT O)) an))) (Qy 40 [] (vv n l) (@B) (@B) (by simp;omega))) rfl)
def L7(O:@q)(hs:(vv n l).length<=39):∃d b,QY @BM=@Qp:=by
 obtain⟨qs,e1⟩:=Pp O hs
 obtain⟨g,_,e2,_⟩:=R8 O O.hi
 have W:WP (lO nF Qc Rb @Dy 0) λs=>∃d b,fin s=@Qp:=by
  unfold lO
  refine tf (aq (ds:=@BM) @AQ (KW O)) (wp_at @Dy rfl ?_)
  obtain⟨x,hx⟩:∃x:Int,f2 (f1 (ak Qc @Q) cG) @H (vN λi j=>.int (if j>i then j else i)) (vl @Dy) 0=@X5:=⟨_,aF (x:=.int ((qs.map aG).length:Nat)) (y:=.int 1) (jv (aq (ds:=@BM) rfl e1)) rfl rfl⟩
  refine dJ (d:=.int x) (β1:=0) hx (wp_at [@G,@CW,.no] rfl ?_)
  obtain⟨y,hy⟩:∃y:Int,f1 (ak Rb @Q) cG (vl [@G,@CW,.no]) 0=.ok (.int y) 0:=⟨_,jv (aq (ds:=@BM) rfl e2)⟩
  refine dJ (d:=.int y) (β1:=0) hy (wp_at @Nn rfl ?_)
  have t:dD (f2 @Am @EN rW) (vl @Nn) 0=.ok (decide ((n:Int)<4)) 0:=fL _ _ _ _ (aF (x:=.int n) (y:=.int 4) (MR (n:=n) (l:=l) rfl) rfl rfl)
  by_cases c:(n:Int)<4
  ·rw[UH c]at t
   exact qc t (qG (d:=.tuple [.int x,.int y]) (tp @CJ) @CT)
  ·rw[UO c]at t
   refine mJ t (wp_at @Nn rfl ?_)
   exact fM (tp (ac rfl (ac (aF (x:=.int y) (y:=.int ((n:Int)/2)) rfl (aF (x:=.int n) (y:=.int 2) (MR (n:=n) (l:=l) rfl) rfl rfl) rfl) an))) @CT
 exact W.out
def M7{ms:@E}(hp:ms.Perm (eh n)):sg n ((@CD).filter @NV)= []:=by
 refine List.filter_eq_nil_iff.mpr λp hm=>?_
 intro h
 unfold Fg at h
 simp only[US,Vw,Vn]at h
 obtain⟨h0,h1,h2⟩:=h
 obtain⟨a1,a2⟩:=OM.b9.mp hm
 have m1:p.1∈ms:=hp.mem_iff.mpr (bh.mpr a1)
 have m2:p.2∈ms:=hp.mem_iff.mpr (bh.mpr a2)
 have ne:ms.idxOf p.1≠ms.idxOf p.2:=λe=>h0 (by
  have x1:=Xd (VQ.mpr m1)
  have x2:=Xd (VQ.mpr m2)
  rw[<-x1,<-x2]
  simp only[e])
 have q1:¬nu [ms] (p.1,p.2)=true:=λz=>h1 (UE.mpr ⟨hm,z⟩)
 have q2:¬nu [ms] (p.2,p.1)=true:=λz=>h2 (UE.mpr ⟨OM.b9.mpr ⟨a2,a1⟩,z⟩)
 unfold nu at q1 q2
 simp only[W0,List.all_nil,Bool.and_true,US,Vw,Vn,UU]at q1 q2
 rcases Nat.lt_or_gt_of_ne ne with z|z
 ·exact q1 ⟨h0,z⟩
 ·exact q2 ⟨λe=>h0 e.symm,z⟩
def Oo{ms:@E}(hp:ms.Perm (eh n)):(vv n ((@CD).filter @NV)).length<=39:=by
 unfold vv
 rw[M7 hp];simp
end
noncomputable def OX:SF:=(ji @V @V6
 (du ([1]++([2]++[])) (ak P6 @EZ))
 (ji @V @V5
 (du ([1]++[]) (ak Pl @Ay))
 (du ([1]++[]) (ak QY @Ay))))
def D7:List (Str×Nat):=[("NoOrder",0),("NoNumber",7),("TooMany",12)]
noncomputable def LV:@I:=aS 4 3 (oa (λx=>@S_) P6 Pl QY)
noncomputable def asks(a k:D):Nat->FR
 | 0=>P6 [a,k]
 | 1=>Pl [a]
 |_=>QY [a]
section
variable {a k d:D}{b:Bool}{c:Str}{w j:Nat}
theorem Qn(hw:w<3)(h:@Ve=.exc c):OX @Cq 0=.exc c:=by
 unfold OX
 match w,hw with
 | 0,_=>rw[eY (β':=0) (by rfl),xE (i5 (ds:=[a,k]) rfl h)]
 | 1,_=>rw[dY (β':=0) (by rfl),eY (β':=0) (by rfl),xE (i5 (ds:=[a]) rfl h)]
 | 2,_=>rw[dY (β':=0) (by rfl),dY (β':=0) (by rfl),xE (i5 (ds:=[a]) rfl h)]
theorem QS(hw:w<3)(h:@Ve=@Qp):OX @Cq 0=.nx @Cq 0:=by
 unfold OX
 match w,hw with
 | 0,_=>rw[eY (β':=0) (by rfl),oE (aq (ds:=[a,k]) rfl h)];rfl
 | 1,_=>rw[dY (β':=0) (by rfl),eY (β':=0) (by rfl),oE (aq (ds:=[a]) rfl h)];rfl
 | 2,_=>rw[dY (β':=0) (by rfl),dY (β':=0) (by rfl),oE (aq (ds:=[a]) rfl h)];rfl
def LK(hw:w<3)(h:@Ve=.exc c)(hj:D7.lookup c=some j):LV [.int w,a,k]=.ok (.list [.int (j:Int)]) true:=by
 show fin (aI (rN (λx=>@S_) OX) (kT @Hu) @Cq 0)=_
 rw[gC (d:=.list [.int (j:Int)]) (b:=true) (β':=0) ?q]
 ·rfl
 case q=>
  unfold rN
  refine(Uz (by rfl)).trans ?_
  rw[Qn hw h]
  dsimp only
  rw[hj]
def ND(hw:w<3)(h:@Ve=@Qp):LV [.int w,a,k]=.ok (@L9) true:=by
 show fin (aI (rN (λx=>@S_) OX) (kT @Hu) @Cq 0)=_
 rw[ax (env':=@Cq) (β':=0) ?q]
 ·rfl
 case q=>
  unfold rN
  refine(Uz (by rfl)).trans ?_
  rw[QS hw h]
  exact Uz (by rfl)
end
noncomputable def OQ:List D->Int->FB:=wu 2 0 (gj eQ)
def S2(β:Int):∃o β',OQ [] β=.ok o false β'/\o∈pd:=by
 show ∃o β',G8 (gj eQ [.bx,.no] β)=.ok o false β'/\o∈pd
 unfold gj
 rw[ax (env':=[.bx,.fz (.list (pd.take 8))]) (β':=β) ?a]
 case a=>
  rw[bC,lp (ds:=pd.take 8) (ac rfl (ac (tp an) (ac (tp @Ha) (ac (tp @Ha) (ac @RP (ac @Lz (ac @Lz (ac (lp @Ha) an)))))))) (by show(8:Nat)<=1000;omega)]
  rfl
 rw[ax (env':=[.bx,.fz (.list pd)]) (β':=β) ?b]
 case b=>
  rw[bC,aF (x:=.list (pd.take 8)) (y:=.list (pd.drop 8)) (d:=.list pd) (β1:=β) (β2:=β) rfl (lp (ds:=pd.drop 8) (ac (tp @Ha) (ac (tp (ac rfl (ac (lp @HF) an))) (ac @RP (ac (tp (ac rfl (ac (tp (ac (tp @CJ) (ac (tp @CJ) @HF))) an))) (ac rfl (ac (tp (ac rfl (ac (tp an) (ac (tp an) an)))) an)))))) (by show(6:Nat)<=1000;omega)) ?c]
  ·rfl
  case c=>rw[me (by show(8+6:Nat)<=10000;omega)];rfl
 obtain⟨j,hj,ej⟩:=lP (m:=14) (@B) (@B) β
 have hlen:pd.length=14:=rfl
 obtain⟨o,ho⟩:∃o,pd[j]? =some o:=⟨_,UB (@B)⟩
 have e:f2 (gv 1) (pL 0 eQ @V0) bE (vl [.bx,.fz (.list pd)]) β=.ok o (β/((14:Nat):Int)):=aF (x:=.list pd) (y:=.int j) rfl (kb (ds:=[.int 14]) (by rfl) rfl ej) (show ki pd (j:Int)=some o from iH ho)
 rw[cO,e]
 exact⟨o,_,rfl,U1 ho⟩
def Ef{fa:VF D}{fr:@w}{vs:@BD}{β β1 β2:Int}{d:D}{ds:List D}(h:@AU=@DM)(h':fr vs β1=.ok ds β2):@Ue=.ok (d::ds) β2:=by rw[fU,h];dsimp only[R.bnd];rw[h']
def B5{env:En}{β β1:Int}{fr:@w}{ds:List D}{fb:VF D}{ms:@E}(ha:fr @p β=@FG)(h:LV ds=.ok @DT true)(hb:fb @p β1=.ok @DT β1):dD (f2 (ak LV fr) fb @CV) @p β=@L_:=
 fL _ _ _ _ (aF (aq ha h) hb (by rw[zt,Uz rfl,UH rfl];rfl))
noncomputable def Nq:@I:=aS 9 1 (CN I0 nQ LV Ci eQ p7 OQ)
noncomputable abbrev le(ns:@E)(i n m:Nat)(l g:@F)(bad k:D)(s8:Sl):En:=[@Az,@Dj,.bx,@G,.fz (.int (m:Int)),@X0,.fz bad,.fz k,s8]
def Qd(ns:@E):Nq [de ns]=.ok (@Bv) false:=by
 show fin (CN I0 nQ LV Ci eQ p7 OQ @OQ 0)=_
 refine fJ ?_
 obtain⟨m0,hm0,em⟩:=Iu 6 (@B) ns (vl @OQ) 0 rfl
 unfold CN
 refine GP (λ_ env _=>∃s1 s2 s3 s4 s5 s6 s7 s8,env= [@Az,s1,s2,s3,s4,s5,s6,s7,s8]) em ⟨_,_,_,_,_,_,_,_,rfl⟩ ?_ λenv β ⟨s1,s2,s3,s4,s5,s6,s7,s8,e⟩=>fM (d:=@Bv) rfl rfl
 rintro i d env β hi ⟨s1,s2,s3,s4,s5,s6,s7,s8,rfl⟩
 obtain⟨_,rfl⟩:=kg hi
 rw[VE]
 refine⟨@Rf,rfl,?_⟩
 obtain⟨z,ez⟩:=Oh ns i
 obtain⟨t3,t4,t5,t6,t7,t8,hcl⟩:∃t3 t4 t5 t6 t7 t8:Sl,(vW (bj ([0]++([1]++[])) @Rf)).set 2 .bx= [@Az,@Dj,.bx,t3,t4,t5,t6,t7,t8]:=⟨_,_,_,_,_,_,rfl⟩
 refine Kk (HH (ds:=[de ns,.int i]) rfl ez) (wp_at _ hcl ?_)
 obtain⟨n,l,β1,e1,O,h4⟩:=Lm (most:=4) (@B) (@B) z
 have hs:(vv n l).length<=39:=by have:=IG (l:=l) (n:=n) (@B);omega
 refine dJ (d:=au n l) (kb (ds:=[.int 4]) (by rfl) rfl e1) (wp_at [@Az,@Dj,.bx,@G,t4,t5,t6,t7,t8] rfl ?_)
 obtain⟨q,hq,eq⟩:=lP (m:=4) (@B) (@B) β1
 generalize β1/((4:Nat):Int)=β2 at eq
 refine dJ (d:=.int ((5+q:Nat):Int)) (aF (x:=.int 5) (y:=.int (q:Int)) rfl (kb (ds:=[.int 4]) (by rfl) rfl eq) (by show some (int (5+(q:Int)))=_;congr 2)) (wp_at [@Az,@Dj,.bx,@G,.fz (.int ((5+q:Nat):Int)),t5,t6,t7,t8] rfl ?_)
 obtain⟨m,hm⟩:∃m:Nat,m=5+q:=@BS
 rw[<-hm]
 have hm8:5<=m/\m<=8:=@B
 obtain⟨ms,β3,es,hp⟩:=Ic (eh m) (by rw[cQ];omega) β2
 have Og:OM.Ord m ((OM.cu m).filter @NV):=xh (@B) (@B) @W
 have hg:=Oo hp
 have et:ak nQ (ae (gv 4) (ae (bo (ae (pL 2 p7 @XB) ag)) ag)) (vl [@Az,@Dj,.bx,@G,.fz (.int (m:Int)),t5,t6,t7,t8]) β2=.ok (.tuple (((OM.cu m).filter @NV).map aG)) β3:=
  aq (ds:=[.int m,.list ([ms].map tupI)]) (Ef rfl (Ef (kU (ds:=[tupI ms]) (Ef (kb (ds:=[.list ((eh m).map int)]) (β1:=β2) (by rfl) (ac (fG (x:=.int m) rfl (se (@B))) an) es) an) @W) an)) (C9 (@B) @W λr hr=>by rw[UP.mp hr];exact hp)
 refine dJ (d:=au m ((OM.cu m).filter @NV)) (jN (Ef rfl (Ef et an)) @W) (wp_at [@Az,@Dj,.bx,@G,.fz (.int (m:Int)),.fz (au m ((OM.cu m).filter @NV)),t6,t7,t8] rfl ?_)
 generalize(OM.cu m).filter @NV=g at Og hg
 obtain⟨bad,β4,e2,hbad⟩:=S2 β3
 have hb:=TQ (Od bad hbad)
 refine dJ (d:=bad) (kb (ds:=[]) (by rfl) rfl e2) (wp_at [@Az,@Dj,.bx,@G,.fz (.int (m:Int)),@X0,.fz bad,t7,t8] rfl ?_)
 obtain⟨u,hu,eu⟩:=lP (m:=9) (@B) (@B) β4
 generalize β4/((9:Nat):Int)=β5 at eu
 obtain⟨j,hj,ej⟩:=lP (m:=8) (@B) (@B) β5
 generalize β5/((8:Nat):Int)=β6 at ej
 obtain⟨k,hk⟩:∃o,(cN u)[j]? =some o:=⟨_,UB (by show j<8;omega)⟩
 have hc:=Nb (U1 hk)
 have eL:bo (ae @M (ae @UK (ae (f2 @DU (pL 2 eQ @W_) rR) @DK))) (vl [@Az,@Dj,.bx,@G,.fz (.int (m:Int)),@X0,.fz bad,t7,t8]) β4=.ok (.list (cN u)) β5:=
  kU (ds:=cN u) (Ef rfl (Ef rfl (Ef (aF (x:=.int (-1)) (y:=.int (u:Int)) rfl (kb (ds:=[.int 9]) (by rfl) rfl eu) rfl) (Ef rfl (Ef rfl (Ef rfl (Ef (tp @AQ) (Ef (aF (x:=.int 10) (y:=.int 30) rfl rfl (by rfl)) an)))))))) (by show(8:Nat)<=1000;omega)
 refine dJ (d:=k) (aF (x:=.list (cN u)) (y:=.int j) eL (kb (ds:=[.int 8]) (by rfl) rfl ej) (show ki (cN u) (j:Int)=some k from iH hk)) (wp_at (le ns i n m l g bad k t8) rfl ?_)
 refine BB (GP (ds:=dB 0 3) (β1:=β6) (λ_ env _=>∃s8,env=le ns i n m l g bad k s8) (eO (n:=3) rfl (@B)) @BS ?_ ?_)
 ·rintro w d env β hw ⟨s8,rfl⟩
  obtain⟨hw3,rfl⟩:=kg hw
  rw[VE]
  refine⟨@BZ,rfl,?_⟩
  have b1:asks bad k w=@VC:=by
   match w,hw3 with
   | 0,_=>exact Qz (Rh hb)
   | 1,_=>exact QM (Rh hb)
   | 2,_=>exact Ss hb
  refine mJ (B5 (ms:=[0]) @I8 (LK hw3 b1 rfl) @Pa) (wp_at (@BZ) rfl ?_)
  have z1:dD (f2 (ak LV @Sr) @V7 @CV) @U_ β=@X8:=by
   have eL:bo @B9 @U_ β=.ok (.list [.list [.int 12],.list [.int 12],@L9]) β:=lp (ac @Pa (ac @Pa (ac (lp (ds:=[]) an) an)))
   match w,hw3,eL with
   | 0,hw3,eL=>exact B5 (ms:=[12]) @I8 (LK hw3 (Qz (IP Og (@B))) rfl) (aF (y:=.int 0) eL rfl rfl)
   | 1,hw3,eL=>exact B5 (ms:=[12]) @I8 (LK hw3 (QM (IP Og (@B))) rfl) (aF (y:=.int 1) eL rfl rfl)
   | 2,hw3,eL=>
    obtain⟨d,b,e⟩:=L7 Og hg
    exact B5 (ms:=[]) @I8 (ND (k:=k) (w:=2) hw3 e) (aF (y:=.int 2) eL rfl rfl)
  refine mJ z1 (wp_at (@BZ) rfl ?_)
  have z2:dD (f2 (ak LV @Sq) @V8 @CV) @U_ β=@X8:=by
   have eL:bo @Db @U_ β=.ok (.list [.list [.int 7],@L9,@L9]) β:=lp (ac @Pa (ac (lp (ds:=[]) an) (ac (lp (ds:=[]) an) an)))
   match w,hw3,eL with
   | 0,hw3,eL=>exact B5 (ms:=[7]) @I8 (LK hw3 (RY O h4 hc) rfl) (aF (y:=.int 0) eL rfl rfl)
   | 1,hw3,eL=>
    obtain⟨d,b,e⟩:=Qg O h4
    exact B5 (ms:=[]) @I8 (ND (k:=k) (w:=1) hw3 e) (aF (y:=.int 1) eL rfl rfl)
   | 2,hw3,eL=>
    obtain⟨d,b,e⟩:=L7 O hs
    exact B5 (ms:=[]) @I8 (ND (k:=k) (w:=2) hw3 e) (aF (y:=.int 2) eL rfl rfl)
  exact MZ z2 (wB ⟨_,_,rfl,_,rfl⟩)
 ·rintro env β ⟨s8,rfl⟩
  exact wB ⟨_,_,rfl,_,_,_,_,_,_,_,_,rfl⟩
end RM
namespace RO
open PySem L2
abbrev Fn(K:Frag)(mg:@R)(x:Str)(st:Stmt)(ps:@a)(f:Addr)(fd:FuncData):Prop:=@Gz
abbrev Bt(mg:@R):Prop:=gk mg
end RO
section
namespace L2
open PySem PySem.Spec PyProof.Rows
section
variable {K:Frag}{H H':Hp}{a:Addr}
theorem cq.snoc{x y:Int}(q:iO K H a [.int x,.int y]):∀{vs:List V} {ps:List (Int×Int)},@Ns->cq K H (vs++@F0) (ps++[(x,y)])
 |_,_,.nil=>.cons ⟨a,rfl,q⟩ .nil
 |_,_,.cons r t=>.cons r (cq.snoc q t)
def cq.len{vs:List V}{ps:List (Int×Int)}(h:@Ns):vs.length=ps.length:=Paired.length h
def cq.same{vs:List V}{ps:List (Int×Int)}(h:@Ns)(s:@Cy):cq K H' vs ps:=@Wj
def cq.at{vs:List V}{ps:List (Int×Int)}{i:Nat}{v:V}(h:@Ns)(e:vs[i]? =some v):∃p:Int×Int,ps[i]? =some p/\∃b,v=.ref b/\iO K H b [.int p.1,.int p.2]:=Paired.getP h e
def ay.put{o:HO}(s:@Cy)(h:H a=none)(hf:∀x y,H' a≠@HA):ay H (L2.upd H' a o):=λb u e=>lx (s b u e) (aO e h) hf
def JS(h:H a=none):∀x y,H a≠@HA:=λx y z=>by rw[h]at z;cases z
def O0{xs:List V}(h:H a=@BI):∀x y,H a≠@HA:=λx y z=>by rw[h]at z;cases z
end
end L2
namespace RO
open PySem L2
def Fy(N:@a)(sc:Scope)(NB:@a)(own:Nat)(ixs:@c)(scope:Scope):Bool:=
 decide (scope.kind=@JB)&&(scope.names.all λy=>decide (scope.names.lookup y.1=some y.2)) &&
 (scope.names.all λy=>decide (y.2=.free->(sc.names.lookup y.1=@B8\/sc.names.lookup y.1=@Hj)))&&decide NB.Nodup&&decide (NB.length=own+ixs.length) &&
 ((@YI).all λk=>decide (NB[own+k]? =N[@Nu]?)&&(match NB[own+k]? with|some x=>decide ((x,NameKind.free)∈scope.names)|none=>true))
def oJ{X:Cx}{NB:@a}{own:Nat}{ixs:@c}{scope:Scope}(h:Fy X.N X.env.scope NB own ixs scope=true):@BK:=by
 unfold Fy at h
 simp only[US,Ve,UU,Vq]at h
 obtain⟨⟨⟨⟨⟨h1,h3⟩,h4⟩,h5⟩,h6⟩,h7⟩:=h
 refine⟨h1,h3,h4,h5,h6,λk hk=>⟨(h7 k hk).1,λx hx=>?_⟩⟩
 have:=(h7 k hk).2
 rw[hx]at this
 simpa using this
section
variable {X:Cx}{tg l:Expr}{tl:TE}{K:Frag}{H H1:Hp}{a:Addr}{xs:List V}{σ:St}
def Se(K:Frag)(tl:TE):TI:=λσ H R=>tl σ H λx H1=>∃a xs,x=.ref a/\((@Nw/\R @SF H1)\/(@Rj/\R (MA K a) H1))
end
def TX(K:Frag){X:Cx}(h:X.K=K:=by rfl):GD X (NK K):=by subst h;exact jS
def OI(K:Frag)(i j:Nat){X:Cx}{x y:Str}{px py pos:Pos}{k:Nat}(hN:X.N.Nodup)(hi:X.N[i]? =some x)(hj:X.N[j]? =some y)(hx:@AO=@Ae)(hy:@Ei=@Ae)(hc:X.calm=true)(hK:X.K=K) :
  PG X @Qb (Ku K 2 @KX):=by
 subst hK
 exact @E9
section
open PySem.Spec PyProof.Rows
variable {X:Cx}{tg l:Expr}{tl:TE}
def Oz(hl:PE X l tl):PI X tg l (Se X.K tl):=by
 intro pins s σ H R I h
 refine cK @Mm λv s1 ⟨x,H1,I1,r1,q1⟩=>?_
 obtain⟨a,xs,e,q⟩:=q1
 subst e
 cases r1
 rcases q with⟨hq,q⟩|⟨hq,q⟩
 ·obtain⟨its,rv,p,hz⟩:=I1.list hq
  refine Ww p.isList ?_
  refine⟨s1.heap.objs.size,@HY,_,_,H1,rfl,I1.kept (t':=s1.toks) λb o e=>Ux _ e,rB a _,@CS,λb hb=>?_,q⟩
  have e:b=s1.heap.objs.size:=by simpa using hb
  subst e
  exact @BW
 ·obtain⟨its,rv,p,hz⟩:=I1.tuple hq
  refine WH (show @JZ from p) ?_
  refine⟨s1.heap.objs.size,@HY,_,_,H1,rfl,I1.kept (t':=s1.toks) λb o e=>Ux _ e,tK a _,@CS,λb hb=>?_,q⟩
  have e:b=s1.heap.objs.size:=by simpa using hb
  subst e
  exact @BW
end
section
variable {K:Frag}{H H1 H':Hp}{a:Addr}{xs:List V}{σ:St}
abbrev QX(J:It)(g:TG)(tb:TS)(D:Ends)(σ:St)(H:Hp):Prop:=∃W:Nat->Nat->St->Hp->Prop,(∃m,@VV)/\∀i m σ H,@Q4->
   (@Qv/\@JI)\/(@WM/\∃N:St->Hp->Prop,(∀σ' H',@SN->∃m',m'<m/\W (i+1) m' σ' H')/\∀x H',@K6->g x σ H' λσ2 H2=>tb {D with nx:=N,ct:=N,bk:=D.nx} σ2 H2)
def Lq(s:@ML)(hq:@Nw\/@Rj):jy K H' a xs\/iO K H' a xs:=hq.elim (λq=>.inl (s.seq q)) λq=>.inr (q.grow s.grow)
def Jy{g:TG}{tb:TS}{D:Ends}(hq:@Nw\/@Rj)(Pv:Nat->St->Hp->Prop)(h0:@YN)(hl:∀i σ H',Pv i σ H'->@ML)
  (hs:∀i x σ H,xs[i]? =some x->@Dh->g x σ H λσ2 H2=>tb {D with nx:=Pv (i+1),ct:=Pv (i+1),bk:=D.nx} σ2 H2) (hd:∀σ H,@Ih->@JI) :
  (@C6/\QX @SF g tb D σ H)\/(@Cl/\QX (MA K a) g tb D σ H):=
 hq.elim (λq=>.inl ⟨(hl _ _ _ h0).seq q,zo Pv h0 (λi σ H' _ p=>(hl i σ H' p).seq q) hs hd⟩) λq=>.inr ⟨q.grow (hl _ _ _ h0).grow,Jq Pv h0 (λi σ H' _ p=>q.grow (hl i σ H' p).grow) hs hd⟩
def C2(J:It)(own:Nat)(ixs:@c)(g:TG)(tt:TT)(te:TE)(Q:VK)(D:Addr)(σ:St)(H:Hp):Prop:=∃W:Nat->Nat->St->Hp->Prop,(∃m,@P7)/\∀i m σ' H',@Da->
   (@MF/\(∃acc,H' D=@Aj)/\@Kn)\/
   (@Pt/\∃N:St->Hp->Prop,(∀σ2 H2,@N_->∃m',m'<m/\W (i+1) m' σ2 H2)/\∀x H2,@H6->@IE)
structure zq(own:Nat)(ixs:@c)(wi:TI)(g:TG)(tt:TT)(te:TE)(σ:St)(H:Hp)(Q:VK):Prop where
 out:wi σ H λJ H1=>∀D,H1 D=none->@RU
def A2{own:Nat}{ixs:@c}{wi:TI}{g:TG}{tt:TT}{te:TE}{Q:VK}(h:wi σ H λJ H1=>∀D,H1 D=none->@RU):zq own ixs wi g tt te σ H Q:=⟨h⟩
def yv{X:Cx}{NB:@a}{own:Nat}{ixs:@c}{scope:Scope}{tg iter elt:Expr}{ifs:@Ac}{wi:TI}{g:TG}{tt:TT}{te:TE}{pos:Pos}(hc:X.calm=true)(S:@BK)(hi:@Nk)
  (hg:∀C ex s3 H3 pn,@La) (ht:∀C ex s3 H3 pn,@JH) (he:∀C ex s3 H3 pn,@JK)
  (hs:∀x,@Bj=pure x:=by intro _;rfl):PE X @h (zq own ixs wi g tt te):=
 λpins s σ H Q I h=>Av hc S hi hg ht he hs pins s σ H Q I h.out
section
variable {own:Nat}{ixs:@c}{g:TG}{tt:TT}{te:TE}{Q:VK}{D:Addr}
def JB(Pv:Nat->St->Hp->Prop)(h0:@Nl)(hl:∀i σ H,i<=xs.length->@Dh->@C6)
  (hs:∀i x σ H,xs[i]? =some x->@Dh->dP g tt te D x σ H (Pv (i+1))) (hd:∀σ H,@Ih->(∃acc,H D=@Aj)/\Q @BO H):C2 @SF own ixs g tt te Q D σ H:=EK Pv h0 hl hs hd
def As{lo:Int}{n:Nat}(Pv:Nat->St->Hp->Prop)(h0:@Nl)
  (hs:∀i σ H,i<n->@Dh->dP g tt te D (.int (lo+i)) σ H (Pv (i+1))) (hd:∀σ H,@YO->(∃acc,H D=@Aj)/\Q @BO H):C2 (@MA) own ixs g tt te Q D σ H:=Cn Pv h0 hs hd
end
def tV{i:Nat}{te:TE}{D:Addr}{x:V}{N:St->Hp->Prop}(h:te (@RI) H λv H5=>∃acc,H5 D=@Aj/\acc.length<sizeLine/\N (@RI) (upd H5 D (.lst (acc++[v])))):dP (mZ i) NG te D x σ H N:=by
 unfold dP mZ NG
 exact v8 h
def Gg{i j:Nat}{x y:V}{Q:St->Hp->Prop}(h:iO K H a [x,y])(q:Q ((@RI).set j (some y)) H):Ku K 2 @KX @BU σ H Q:=⟨a,_,rfl,h,rfl,x,_,rfl,y,_,rfl,rfl,q⟩
def Su{c A B:Prop}[Decidable c](h:c)(a:A):if c then A else B:=by rw[Uz h];exact a
def GW{c A B:Prop}[Decidable c](h:¬c)(b:B):if c then A else B:=by rw[UJ h];exact b
def take_snoc{α:Type}{l:@Bl}{i:Nat}{x:α}(h:l[i]? =some x):l.take (i+1)=l.take i++[x]:=by
 rw[List.take_add_one,h];rfl
def take_all{α:Type}(l:@Bl):l.take l.length=l:=WM (UC _)
end
def fT(n:Nat):(@CD).length=n*n:=by unfold OM.cu;simp
def JW{n i:Nat}(h:i<n*n):(@CD)[i]? =some (((i/n:Nat):Int),((i%n:Nat):Int)):=by
 unfold OM.cu
 rw[UN,VX h];rfl
def Ub{n:Nat}(h:n<=8):n*n<=64:=VT h h
section
variable {P:Program}{w:World}{K:Frag}{mg:@R}{base:Heap}
def C6(K:Frag):Sp:=λvs H Q _=>∃n:Nat,vs= @OC/\1<=n/\n<=8/\∀H' l ws,@Cy->H l=none->H' l=some (.lst ws)->cq K H' ws (@CD)->Q @Jg H'
def LP:aH @Fx @Fx (ao mQ):=@A
def PR:(@Lg:@a).Nodup:=@O
def Jc{f:Addr}{fd:FuncData}(F:Fn K mg "every_pair" mQ @Fx f fd)(B:Bt mg):gM P w K mg base vG 1 f fd @Fx (C6 K):=by
 refine F.F.ok LP (λvs H Q E h=>?_) (λcdv A outer s H vs Q E hr h=>?_)
 ·obtain⟨n,rfl,_⟩:=h;rfl
 ·obtain⟨n,rfl,h1,h8,k⟩:=h
  refine⟨_,gx (lC (yv (NB:=@Lg) (own:=1) (ixs:=[0]) rfl (oJ (by kernel_rfl)) (o6 rfl B.range (aw (qg nM (pv 0) (pv 0)) aZ))
   (λC ex s3 H3 pn=>dw (i:=0) PR rfl (@Af) (hf:=@CG)) (λC ex s3 H3 pn=>sV)
   (λC ex s3 H3 pn=>Bc (aw (qg tE (pv 0) (pv 1)) (aw (qg pF (pv 0) (pv 1)) aZ))))),?_⟩
  have hn:=Ub h8
  have e0:((n:Int)*(n:Int))=((n*n:Nat):Int):=by rw[Int.natCast_mul]
  refine A2 ⟨_,rfl,_,rfl,_,_,rfl,rfl,.inl @Bz,_,rfl,by rw[e0];omega,by rw[e0];omega,λD hD=>?_⟩
  rw[e0,Vd]
  refine As (λi σ' H'=>(∃v,σ'= [v,some @z])/\@Cy/\∃vs,H' D=some (.lst vs)/\cq K H' vs ((@CD).take i)) ⟨@Up,(ay.refl H).put hD (JS hD),[],aE,.nil⟩ ?_ ?_
  ·rintro i σ' H' hi ⟨⟨v,rfl⟩,s1,vs,hv,hp⟩
   have hn0:(0:Int)<(n:Int):=@B
   refine tV ⟨_,rfl,_,rfl,_,_,rfl,rfl,⟨hn0,@B ⟩,_,rfl,_,rfl,_,_,rfl,rfl,hn0,by show 2<=sizeLine;rw[Vi];omega,λp hp0=>?_⟩
   have hpD:D≠p:=aO hv hp0
   have hl:=hp.len
   refine⟨vs,by rw[aJ hpD];exact hv,?_,@BS,?_,vs++@SV,aE,?_⟩
   ·rw[hl,VA,Vi];rw[fT];omega
   ·exact(s1.put (s1.free hp0) (JS hp0)).put hD (O0 (xs:=vs) (by rw[aJ hpD];exact hv))
   ·rw[take_snoc (JW hi)]
    have g1:lJ H' (upd H' p (.tup [.int ((0+(i:Int))/n),.int ((0+(i:Int))%n)])):=lJ.new hp0
    have g2:∀o,lJ (upd H' p (.tup [.int ((0+(i:Int))/n),.int ((0+(i:Int))%n)])) (upd (upd H' p (.tup [.int ((0+(i:Int))/n),.int ((0+(i:Int))%n)])) D o):=λo=>lJ.list (by rw[aJ hpD];exact hv)
    refine cq.snoc ?_ (hp.grow (g1.trans (g2 _)))
    refine(iO.grow ?_ (g2 _))
    refine .inl (.inl ?_)
    rw[aE,VE];rfl
  ·rintro σ' H' ⟨_,s1,vs,hv,hp⟩
   refine⟨⟨_,hv⟩,k H' D vs s1 hD hv ?_⟩
   rw[<-fT n,take_all]at hp
   exact hp
end
end RO
end
namespace RO
open PySem L2
structure TabAt(n:Nat)(M:OM.Tb)(L:Addr)(r:Nat->Addr)(H:Hp):Prop where
 top:H L=some (.lst ((@Ap).map λi=>V.ref (r i)))
 row:∀i,i<n->H (r i)=some (.lst ((@Ap).map λj=>V.bl (M i j)))
 inj:∀i j,i<n->j<n->r i=r j->i=j
 ne:∀i,i<n->r i≠L
def CZ{n x:Nat}(h:x<n):vQ n (x:Int)=some x:=by
 unfold vQ;rw[Uz (@B),Uz (@B)];simp
def IQ{α:Type}{xs:@Bl}{x:Nat}(h:x<xs.length):ki xs (x:Int)=xs[x]?:=by
 unfold ki;rw[CZ h];rfl
def jo{f:Nat->V}{n x:Nat}(h:x<n):ki ((@Ap).map f) (x:Int)=some (f x):=by
 rw[IQ (by simpa using h),UN,VX h];rfl
def xx{f:Nat->V}{n x:Nat}(h:x<n):vQ ((@Ap).map f).length (x:Int)=some x:=by
 rw[Uw,Vm];exact CZ h
def D3{f:Nat->V}{n y:Nat}{v:V}:((@Ap).map f).set y v=(@Ap).map λj=>if j=y then v else f j:=by
 apply List.ext_getElem?
 intro i
 by_cases hi:i<n
 ·by_cases e:y=i
  ·subst e;simp[List.getElem?_set,hi]
  ·have e':¬i=y:=λz=>e z.symm
   simp[List.getElem?_set,hi,e,e']
 ·rw[V3 (by simp;omega),V3 (by simp;omega)]
section
variable {n:Nat}{M:OM.Tb}{L:Addr}{r:Nat->Addr}{H H':Hp}
def TabAt.set(T:TabAt n M L r H){x y:Nat}(hx:x<n):TabAt n (M.set x y) L r (upd H (r x) (.lst (((@Ap).map λj=>V.bl (M x j)).set y (@Pd)))):=by
 refine⟨by rw[aJ (T.ne x hx).symm];exact T.top,λi hi=>?_,T.inj,T.ne⟩
 by_cases e:i=x
 ·subst e
  rw[aE,D3]
  refine congrArg _ (congrArg _ (Vu λj _=>?_))
  unfold OM.Tb.set
  by_cases c:j=y
  ·simp[c]
  ·simp[c]
 ·rw[aJ (λz=>e (T.inj i x hi hx z)),T.row i hi]
  refine congrArg _ (congrArg _ (Vu λj _=>?_))
  unfold OM.Tb.set;simp[e]
def TabAt.same(T:TabAt n M L r H)(s:@Cy):TabAt n M L r H':=⟨s _ _ T.top,λi hi=>s _ _ (T.row i hi),T.inj,T.ne⟩
end
def yY{n:Nat}{ps:List (Int×Int)}(w:@Qz){p:Int×Int}(h:p∈ps):∃u v:Nat,p=((u:Int),(v:Int))/\u<n/\v<n:=by
 obtain⟨x,y⟩:=p
 have q:=w _ h
 simp only at q
 exact⟨x.toNat,y.toNat,by rw[Int.toNat_of_nonneg q.1.1,Int.toNat_of_nonneg q.2.1],@B,@B ⟩
def k8{M0 M:OM.Tb}{m:Nat}{D D':Nat->Nat->Prop}(P:OM.Phase M0 M m D)(h:∀a b,D a b↔D' a b):OM.Phase M0 M m D':=λa b=>by rw[P a b,h a b]
def oW{l:List (Int×Int)}{u v a b:Nat}:(((a:Int),(b:Int))∈l\/(a=u/\b=v))↔((a:Int),(b:Int))∈l++[((u:Int),(v:Int))]:=by
 rw[UW,UP,Prod.mk.injEq]
 constructor
 ·rintro(h|⟨h1,h2⟩)
  ·exact .inl h
  ·exact .inr @Bz
 ·rintro(h|⟨h1,h2⟩)
  ·exact .inl h
  ·exact .inr @Bz
def Kg{M:OM.Tb}{u v a b:Nat}:M.set u v a b=true↔M a b=true\/(a=u/\b=v):=by
 unfold OM.Tb.set
 by_cases c:a=u/\b=v
 ·simp[c]
 ·rw[UJ c];exact⟨.inl,λh=>h.resolve_right c⟩
def QI(n:Nat)(x:V):(List.replicate n [x]).flatten=(@Ap).map λ_=>x:=by
 rw[List.flatten_replicate_singleton,List.map_const',Vm]
section
variable {P:Program}{w:World}{K:Frag}{mg:@R}{base:Heap}
def HS(K:Frag):Sp:=λvs H Q _=>∃(n:Nat) (a:Addr) (xs:List V) (ps:List (Int×Int)),vs= [.int n,.ref a]/\1<=n/\n<=8/\(@C6\/@Cl)/\cq K H xs ps/\@Qz/\
 ∀H' t ws,@Cy->H t=none->H' t=some (.tup ws)->cq K H' ws (@GK)->Q @Vy H'
def jq:aH ["many","pairs","corners","leads","a","b","middle"] @Ek (ao qy):=@A
def Q3:(["start","many"]:@a).Nodup:=@O
def Of:(["a","b","leads"]:@a).Nodup:=@O
set_option maxHeartbeats 1000000 in
theorem EF{f g:Addr}{fd gd:FuncData}(F:Fn K mg "closed" qy @Ek f fd)(G:Fn K mg "every_pair" mQ @Fx g gd)(GE:gM P w K mg base vG 1 g gd @Fx (C6 K))(B:Bt mg):gM P w K mg base vG 2 f fd @Ek (HS K):=by
 refine F.F.ok jq (λvs H Q E h=>?_) (λcdv A outer s H vs Q E hr h=>?_)
 ·obtain⟨n,a,xs,ps,rfl,_⟩:=h;rfl
 ·obtain⟨n,a,xs,ps,rfl,h1,h8,hq,hp,wn,k⟩:=h
  refine⟨_,eB (nN (i:=2) jq.nd rfl (@Af) (pV GE hr rfl G.mg G.F.kp G.b .nil IF @Ob))
   (eB (nN (i:=3) jq.nd rfl (@CG) (yv (NB:=["start","many"]) (own:=1) (ixs:=[0]) rfl (oJ (by kernel_rfl)) (o6 rfl B.range @Ob)
    (λC ex s3 H3 pn=>dw (i:=0) Q3 rfl (@Af) (hf:=@CG)) (λC ex s3 H3 pn=>sV) (λC ex s3 H3 pn=>qg HE (rL (aw Aj aZ)) (pv 1))))
   (eB (y0 PassesOwn.never rfl (Oz (pv 1)) (uW rfl (fP (dw (i:=4) jq.nd rfl (@Af)) (fP (dw (i:=5) jq.nd rfl (@Af)) qh)))
    @Ir)
   (eB (y0 PassesOwn.never rfl (o6 rfl B.range @Ob) (dw (i:=6) jq.nd rfl (@Af))
    (gx (y0 PassesOwn.never rfl (CC (pv 2)) (uW rfl (fP (dw (i:=4) jq.nd rfl (@Af)) (fP (dw (i:=5) jq.nd rfl (@Af)) qh)))
     (gx (Gh (PW.pt (Gm (qU (pk jS (pk jS (pv 3) (pv 4) @J) (pv 6) @J)) (Dd (qU (pk jS (pk jS (pv 3) (pv 6) @J) (pv 5) @J)))))
      @Ir yf)))))
   (gx (lC (lG dh rfl B.tuple (@O) (aw (yv (NB:=["a","b","leads"]) (own:=2) (ixs:=[3]) rfl (oJ (by kernel_rfl)) (CC (pv 2))
    (λC ex s3 H3 pn=>OI K 0 1 Of rfl rfl rfl rfl rfl rfl)
    (λC ex s3 H3 pn=>x8 (qU (pk (TX K) (pk (TX K) (pv 2) (pv 0) @J) (pv 1) @J))) (λC ex s3 H3 pn=>Bc (aw (pv 0) (aw (pv 1) aZ)))) aZ))))))),?_⟩
  have hn:=Ub h8
  have hn0:(0:Int)<=(n:Int):=@B
  refine⟨_,rfl,n,rfl,h1,h8,λH1 c ws s1 hc0 hc hw=>?_⟩
  have hwl:ws.length=n*n:=by rw[hw.len,fT]
  have gw:OM.Wn n (@CD):=λp hp=>@TG
  refine A2 ?_
  refine⟨_,rfl,n,rfl,@B,@B,λD hD=>?_⟩
  rw[Vd]
  refine As (λi σ' H'=>(∃v,σ'= [v,some @z])/\@ML/\∃r:Nat->Addr,H' D=some (.lst ((@RZ).map λk=>V.ref (r k)))/\
   (∀k,k<i->H' (r k)=some (.lst ((@Ap).map λ_=>V.bl false))/\H1 (r k)=none/\r k≠D)/\∀j k,j<i->k<i->r j=r k->j=k)
   ?_ ?_ ?_
  ·exact⟨@Up,(ay.refl H1).put hD (JS hD),λ_=>0,aE,λk hk=>absurd hk @KU,λj k hj=>absurd hj @KU ⟩
  ·rintro i σ' H' hi ⟨⟨v,rfl⟩,s2,r,hr0,hr1,hr2⟩
   refine tV ⟨by show 1<=sizeLine;rw[Vi];omega,λp hp0=>⟨_,rfl,p,n,[@LR],rfl,rfl,aE,@B,@B,by show 1*(n:Int).toNat<=sizeLine;rw[Vi];omega,λq hq0=>?_⟩⟩
   have hqp:q≠p:=by intro e;subst e;rw[aE]at hq0;cases hq0
   have hq1:H' q=none:=by rw[aJ hqp]at hq0;exact hq0
   have hDp:D≠p:=aO hr0 hp0
   have hDq:D≠q:=aO hr0 hq1
   rw[Vd,QI]
   refine⟨_,by rw[aJ hDq,aJ hDp];exact hr0,by rw[Uw,Vm,Vi];omega,@BS,((s2.put (s2.free hp0) (JS hp0)).put (s2.free hq1) (JS hq0)).put hD (O0 (by rw[aJ hDq,aJ hDp];exact hr0)),λk=>if k=i then q else r k,?_,λk hk=>?_,λj k hj hk e=>?_⟩
   ·have e:(@RZ).map (λk=>V.ref (r k))=(@RZ).map (λk=>V.ref (if k=i then q else r k)):=Vu λk hk=>by
     have:=Vq.mp hk
     rw[UJ (@B)]
    rw[aE,List.range_succ,U7,e]
    simp
   ·dsimp only
    by_cases e:k=i
    ·rw[Uz e]
     exact⟨by rw[aJ hDq.symm,aE],s2.free hq1,hDq.symm⟩
    ·rw[UJ e]
     obtain⟨a1,a2,a3⟩:=hr1 k (@B)
     exact⟨by rw[aJ a3,aJ (aO a1 hq1),aJ (aO a1 hp0)];exact a1,a2,a3⟩
   ·dsimp only at e
    by_cases ej:j=i
    ·by_cases ek:k=i
     ·omega
     ·rw[Uz ej,UJ ek]at e
      exact absurd e.symm (aO (hr1 k (@B)).1 hq1)
    ·by_cases ek:k=i
     ·rw[UJ ej,Uz ek]at e
      exact absurd e (aO (hr1 j (@B)).1 hq1)
     ·rw[UJ ej,UJ ek]at e
      exact hr2 j k (@B) (@B) e
  rintro σ2 H2 ⟨_,s2,r,hr0,hr1,hr2⟩
  refine⟨⟨_,hr0⟩,?_⟩
  have sep:∀i,i<n->H1 (r i)=none:=λi hi=>(hr1 i hi).2.1
  have T0:TabAt n (λ_ _=>false) D r H2:=⟨hr0,λi hi=>(hr1 i hi).1,hr2,λi hi=>(hr1 i hi).2.2⟩
  refine⟨_,rfl,a,xs,rfl,Jy (H1:=H1) (Lq s1 hq) (λi σ' H'=>(∃x y,σ'= [some @z,@W0,some @SC,@Wz,x,y,none])/\@ML/\∃M,TabAt n M D r H'/\∀u v:Nat,M u v=true↔((u:Int),(v:Int))∈ps.take i)
   ⟨⟨none,none,rfl⟩,s2,_,T0,λu v=>by simp⟩ (λi σ' H' q=>q.2.1) ?_ ?_⟩
  ·rintro i x σ' H' hx ⟨⟨_,_,rfl⟩,s3,M,T,hM⟩
   obtain⟨p,hpi,b,rfl,hb⟩:=(hp.same (s1.trans s3)).at hx
   obtain⟨u,v,rfl,hu,hv⟩:=yY wn (U1 hpi)
   refine Gg hb ?_
   refine⟨_,rfl,_,rfl,D,_,u,_,rfl,rfl,.inl (.inl T.top),jo hu,_,rfl,r u,_,v,v,rfl,rfl,T.row u hu,xx hv,@CT,s3.put (sep u hu) (O0 (T.row u hu)),_,T.set hu,λx y=>?_⟩
   rw[take_snoc hpi,<-oW,Kg,hM]
  rintro σ3 H3 ⟨⟨x3,y3,rfl⟩,s3,M3,T3,hM3⟩
  rw[hp.len,take_all]at hM3
  refine⟨_,rfl,n,rfl,@B,@B,?_⟩
  rw[Vd]
  refine EO (λm σ' H'=>(∃x y z,σ'= [some @z,@W0,some @SC,@Wz,x,y,z])/\@ML/\∃M,TabAt n M D r H'/\OM.Tab n ps M/\OM.JK M m)
   ⟨⟨_,_,_,rfl⟩,s3,M3,T3,⟨λa b h=>by have:=wn _ ((hM3 a b).mp h);simp only at this;omega,λa b h=>(hM3 a b).mpr h,λa b h=>.one ((hM3 a b).mp h)⟩,λk a b hk=>absurd hk @KU ⟩ ?_ ?_
  ·rintro m σ' H' hm ⟨⟨_,_,_,rfl⟩,s4,M,T,TT,Th⟩
   rw[VE]
   refine⟨_,rfl,c,rfl,@QZ,zo (xs:=ws) (λi σ' H'=>(∃x y,σ'= [some @z,@W0,some @SC,@Wz,x,y,some (.int m)])/\@ML/\∃M',TabAt n M' D r H'/\OM.Phase M M' m λu v=>((u:Int),(v:Int))∈(@CD).take i)
    ⟨@CT,s4,M,T,k8 (OM.Phase.start M m) λa b=>by simp⟩ (λi σ' H' _ q=>.inl (.inl (q.2.1 _ _ hc))) ?_ ?_⟩
   ·rintro i x σ' H' hx ⟨⟨_,_,rfl⟩,s5,M',T',Ph⟩
    obtain⟨p,hpi,b,rfl,hb⟩:=(hw.same s5).at hx
    obtain⟨u,v,rfl,hu,hv⟩:=yY gw (U1 hpi)
    refine Gg hb ?_
    have st:=Ph.step u v
    refine⟨_,rfl,_,rfl,D,_,u,_,rfl,rfl,@Kf,jo hu,_,rfl,r u,_,m,_,rfl,rfl,.inl (.inl (@TO)),jo hm,_,rfl,?_⟩
    by_cases c1:M' u m=true
    ·refine Su c1 ?_
     refine⟨_,rfl,_,rfl,D,_,m,_,rfl,rfl,@Kf,jo hm,_,rfl,r m,_,v,_,rfl,rfl,.inl (.inl (T'.row m hm)),jo hv,_,rfl,?_⟩
     by_cases c2:M' m v=true
     ·refine Su c2 ?_
      rw[Uz ⟨c1,c2⟩]at st
      refine⟨_,rfl,_,rfl,D,_,u,_,rfl,rfl,@Kf,jo hu,_,rfl,r u,_,v,v,rfl,rfl,@TO,xx hv,@CT,s5.put (sep u hu) (O0 (@TO)),_,T'.set hu,k8 st λa b=>?_⟩
      rw[take_snoc hpi];exact oW
     ·refine GW c2 ?_
      rw[UJ λz=>c2 z.2]at st
      refine⟨@CT,s5,_,T',k8 st λa b=>?_⟩
      rw[take_snoc hpi];exact oW
    ·refine GW c1 ?_
     rw[UJ λz=>c1 z.1]at st
     refine sk ⟨@CT,s5,_,T',k8 st λa b=>?_⟩
     rw[take_snoc hpi];exact oW
   ·rintro σ' H' ⟨⟨_,_,rfl⟩,s5,M',T',Ph⟩
    rw[hw.len,take_all]at Ph
    have dn:=Ph.done (n:=n) (λa b ha hb=>OM.b9.mpr ⟨⟨by simp,by simp;omega⟩,by simp,by simp;omega⟩) TT.inn Th
    exact⟨⟨_,_,_,rfl⟩,s5,M',T',TT.phase Ph,dn.1⟩
  rintro σ4 H4 ⟨⟨x4,y4,z4,rfl⟩,s4,M,T,TT,Th⟩
  refine A2 ⟨_,rfl,c,rfl,@QZ,λD' hD'=>JB (xs:=ws) (λi σ' H'=>(∃x y,σ'= [x,y,@Wz])/\ay H4 H'/\∃vs,H' D'=some (.lst vs)/\cq K H' vs (((@CD).take i).filter λp=>M p.1.toNat p.2.toNat))
   ⟨@CT,(ay.refl H4).put hD' (JS hD'),[],aE,.nil⟩ (λi σ' H' _ q=>.inl (.inl (q.2.1 _ _ (s4 _ _ hc)))) ?_ ?_⟩
  ·rintro i x σ' H' hx ⟨⟨_,_,rfl⟩,s5,vs,hv,hpv⟩
   obtain⟨p,hpi,b,rfl,hb⟩:=(hw.same (s4.trans s5)).at hx
   obtain⟨u,v,rfl,hu,hv'⟩:=yY gw (U1 hpi)
   refine Gg hb ?_
   have T':=T.same s5
   refine⟨_,rfl,_,rfl,D,_,u,_,rfl,rfl,@Kf,jo hu,_,rfl,r u,_,v,_,rfl,rfl,.inl (.inl (@TO)),jo hv',_,rfl,?_⟩
   by_cases c1:M u v=true
   ·refine Su c1 ?_
    refine⟨_,rfl,_,rfl,by show 2<=sizeLine;rw[Vi];omega,λp hp0=>?_⟩
    have hpD:D'≠p:=aO hv hp0
    refine⟨vs,by rw[aJ hpD];exact hv,?_,@CT,(s5.put (s5.free hp0) (JS hp0)).put hD' (O0 (by rw[aJ hpD];exact hv)),_,aE,?_⟩
    ·rw[hpv.len]
     refine Xg (Vg ..) ?_
     rw[VA,fT,Vi];omega
    ·rw[take_snoc hpi,Xf,Wd (by simpa using c1),List.filter_nil]
     have g1:lJ H' @Hw:=lJ.new hp0
     have g2:∀o,lJ @Hw (upd @Hw D' o):=λo=>lJ.list (by rw[aJ hpD];exact hv)
     refine cq.snoc ?_ (hpv.grow (g1.trans (g2 _)))
     exact iO.grow (@K0) (g2 _)
   ·refine GW c1 ?_
    refine⟨@CT,s5,vs,hv,?_⟩
    rw[take_snoc hpi,Xf,We (by simpa using c1),List.filter_nil,VY]
    exact hpv
  ·rintro σ' H' ⟨_,s5,vs,hv,hpv⟩
   rw[hw.len,take_all]at hpv
   refine⟨⟨_,hv⟩,D',vs,rfl,.inl ⟨.inl (.inl hv),λt ht=>?_⟩⟩
   have sA:@Cy:=(s1.trans s4).trans s5
   refine k _ t vs (sA.put (sA.free ht) (JS ht)) (sA.free ht) aE ?_
   have e:((@CD).filter λp=>M p.1.toNat p.2.toNat)=@GK:=by
    unfold OM.my
    refine WR λp hp=>?_
    obtain⟨u,v,rfl,hu,hv⟩:=yY gw hp
    have:=TT.all wn Th u v
    simp only[Vd]
    rw[Va,this]
    simp
   rw[e]at hpv
   exact hpv.grow (lJ.new ht)
end
end RO
namespace RO
open PySem L2 RM
section
variable {P:Program}{w:World}{K:Frag}{mg:@R}{base:Heap}{ca:Str->Addr}
def Ue{k:Nat}{f:Addr}{fd:FuncData}{ps:@a}{sp:Sp}(F:gM P w K mg base vG k f fd ps sp):gM P w K mg base @Ga k f fd ps sp:=
 ⟨F.len,λA outer s H args us vs Q E hr he hb hv hs=>Wz (F.run A outer s H args us vs Q E hr he hb hv hs) λr s' h=>by
  cases r with
  |ok x=>cases x<;>exact h
  |error e=>exact h.elim⟩
def BX{G H:Hp}(s:ay G H){ws:List V}{ps:@F}(h:cq K H ws ps):cq K (ug G H) ws ps:=Paired.mapP h λv p ⟨a,e,q⟩=>⟨a,e,zw s q⟩
def t9{ds:List D}(h:gf ds≠.bad):∃(n:Nat) (d:D) (ps:@F),ds= [.int n,d]/\ny d=some @C7/\1<=n/\n<=8/\@Qz/\gf ds=.ok (.tuple ((@GK).map aG)) false:=by
 unfold gf at h
 split at h
 ·rename_i n d
  cases q:ny d with
  |none=>rw[q]at h;exact @Br
  |some es=>
   rw[q]at h
   dsimp only at h
   cases q2:ll es with
   |none=>rw[q2]at h;exact @Br
   |some ps=>
    rw[q2]at h
    dsimp only at h
    by_cases c:1<=n/\n<=8/\OM.Wn n.toNat ps
    ·have e:((n.toNat:Nat):Int)=n:=@B
     refine⟨n.toNat,d,ps,by rw[e],by rw[q,rm q2],@B,@B,c.2.2,?_⟩
     unfold gf
     dsimp only
     rw[q]
     dsimp only
     rw[q2]
     dsimp only
     rw[Uz c]
    ·rw[UJ c]at h;exact @Br
 ·exact @Br
def BR{f g:Addr}{fd gd:FuncData}(F:fA K mg "closed" qy @Ek f fd)(E:fA K mg "every_pair" mQ @Fx g gd)(B:gk mg):bP P w K mg base ca "closed" @Ek 3 gf:=by
 refine⟨⟨f,fd,F.mg,F.F.kp,F.b,((Ue (EF F E (Jc E B) B)).mono @S).imp ?_⟩,λds h=>?_⟩
 ·rintro vs H Q X ⟨G,ds,s,hl,r,h⟩
  have hb:gf ds≠.bad:=λz=>by rw[z]at h;exact h
  obtain⟨n,d,ps,rfl,hd,h1,h8,wn,e⟩:=t9 hb
  rw[e]at h
  cases r with
  |cons r1 r=>
   cases r with
   |cons r2 r=>
    cases r
    cases r1
    obtain⟨a,xs,rfl,hq,hr⟩:=(o4.seq (B:=none) (G:=G) (H:=G) (.inl r2) hd (@A6))
    refine⟨n,a,xs,ps,rfl,h1,h8,hq.elim (λq=>.inl (s.seq q)) (λq=>.inr (q.grow s.grow)),(hr.pairs).grow s.grow,wn,λH' t ws hh ht ht' hp=>?_⟩
    have s2:=s.trans hh
    refine h @Vy (ug G H') H' hh DZ (HU s2) (λb m hb=>by rw[Jw hh m];exact hb) ?_
    exact .tup (zw s2 (.inl (.inl ht'))) (cq.rps (BX s2 hp))
 ·obtain⟨n,d,ps,rfl,_⟩:=t9 h
  rfl
end
end RO
namespace RO
open PySem L2
structure Jx(mg:@R)(R:Addr)(c:Nat->Addr):Prop where
 mR:mg "RankError"=some @Kb
 m0:mg "NoOrder"=some (.ref (c 0))
 m1:mg "NoMany"=some (.ref (c 1))
 m2:mg "NoPairs"=some (.ref (c 2))
 m3:mg "Ring"=some (.ref (c 3))
 m4:mg "NoThing"=some (.ref (c 4))
 m5:mg "NoRow"=some (.ref (c 5))
 m6:mg "NoRows"=some (.ref (c 6))
 m7:mg "NoNumber"=some (.ref (c 7))
 m8:mg "NoChain"=some (.ref (c 8))
 m9:mg "NoTurns"=some (.ref (c 9))
 m10:mg "NoPoints"=some (.ref (c 10))
 m11:mg "NoKind"=some (.ref (c 11))
 m12:mg "TooMany"=some (.ref (c 12))
 m13:mg "Bare"=some (.ref (c 13))
 m14:mg "NoLine"=some (.ref (c 14))
 m15:mg "NoText"=some (.ref (c 15))
structure pB(K:Frag)(D R:Addr)(c:Nat->Addr)(j:Nat):Prop where
 ex:Af K D
 R:PySem.W.kitOne K @BO @Kb=@C1
 V:PySem.W.kitOne K @BO @Ja=@C1
 k:∀i,i<16->PySem.W.kitOne K @BO (.ref (c i))=some (decide (i=j))
def b4(a j:Nat):List V:=[.bl (decide (a=j)),.bl (decide (a+1=j)),.bl (decide (a+2=j)),.bl (decide (a+3=j))]
def T5(j:Nat):List V:=((b4 0 j++b4 4 j)++b4 8 j)++b4 12 j
def lW{n:Nat}(h:n<=100):n<=sizeLine:=by rw[Vi];omega
section
variable {P:Program}{w:World}{K:Frag}{mg:@R}{base:Heap}
def wy(K:Frag)(R:Addr)(c:Nat->Addr):Sp:=λvs H Q _=>∃(ea D:Addr) (j:Nat),vs= [@S5]/\H ea=some (.ext (iE ea @BO))/\@Yo/\∀q H',@Cy->H q=none->H' q=some (.lst (T5 j))->Q @N3 H'
def oN:aH ["e","found"] ["e"] (ao lE):=@A
set_option maxHeartbeats 2000000 in
theorem B4{f R:Addr}{c:Nat->Addr}{fd:FuncData}(F:Fn K mg "_law_classes" lE ["e"] f fd)(e:Jx mg R c)(B:Bt mg):DD P w K mg base vG 1 f fd ["e"] (wy K R c):=by
 refine F.F.okH oN (λvs H Q E h=>?_) (λcdv A outer s H vs Q E hr h=>?_)
 ·obtain⟨ea,D,j,rfl,_⟩:=h;rfl
 ·obtain⟨ea,D,j,rfl,hx,kt,k⟩:=h
  refine⟨_,eB (nN (i:=1) oN.nd rfl (@Af) (rL (aw (bN bZ rfl B.isinstance (@O) (aw (pv 0) (aw (cV rfl e.m0 (show RelV (.ref (c 0)) _ from rfl)) aZ))) (aw (bN bZ rfl B.isinstance (@O) (aw (pv 0) (aw (cV rfl e.m1 (show RelV (.ref (c 1)) _ from rfl)) aZ))) (aw (bN bZ rfl B.isinstance (@O) (aw (pv 0) (aw (cV rfl e.m2 (show RelV (.ref (c 2)) _ from rfl)) aZ))) (aw (bN bZ rfl B.isinstance (@O) (aw (pv 0) (aw (cV rfl e.m3 (show RelV (.ref (c 3)) _ from rfl)) aZ))) aZ))))))
   (eB (nN (i:=1) oN.nd rfl (@Af) (qg By (pv 1) (rL (aw (bN bZ rfl B.isinstance (@O) (aw (pv 0) (aw (cV rfl e.m4 (show RelV (.ref (c 4)) _ from rfl)) aZ))) (aw (bN bZ rfl B.isinstance (@O) (aw (pv 0) (aw (cV rfl e.m5 (show RelV (.ref (c 5)) _ from rfl)) aZ))) (aw (bN bZ rfl B.isinstance (@O) (aw (pv 0) (aw (cV rfl e.m6 (show RelV (.ref (c 6)) _ from rfl)) aZ))) (aw (bN bZ rfl B.isinstance (@O) (aw (pv 0) (aw (cV rfl e.m7 (show RelV (.ref (c 7)) _ from rfl)) aZ))) aZ)))))))
   (eB (nN (i:=1) oN.nd rfl (@Af) (qg By (pv 1) (rL (aw (bN bZ rfl B.isinstance (@O) (aw (pv 0) (aw (cV rfl e.m8 (show RelV (.ref (c 8)) _ from rfl)) aZ))) (aw (bN bZ rfl B.isinstance (@O) (aw (pv 0) (aw (cV rfl e.m9 (show RelV (.ref (c 9)) _ from rfl)) aZ))) (aw (bN bZ rfl B.isinstance (@O) (aw (pv 0) (aw (cV rfl e.m10 (show RelV (.ref (c 10)) _ from rfl)) aZ))) (aw (bN bZ rfl B.isinstance (@O) (aw (pv 0) (aw (cV rfl e.m11 (show RelV (.ref (c 11)) _ from rfl)) aZ))) aZ)))))))
   (gx (lC (qg By (pv 1) (rL (aw (bN bZ rfl B.isinstance (@O) (aw (pv 0) (aw (cV rfl e.m12 (show RelV (.ref (c 12)) _ from rfl)) aZ))) (aw (bN bZ rfl B.isinstance (@O) (aw (pv 0) (aw (cV rfl e.m13 (show RelV (.ref (c 13)) _ from rfl)) aZ))) (aw (bN bZ rfl B.isinstance (@O) (aw (pv 0) (aw (cV rfl e.m14 (show RelV (.ref (c 14)) _ from rfl)) aZ))) (aw (bN bZ rfl B.isinstance (@O) (aw (pv 0) (aw (cV rfl e.m15 (show RelV (.ref (c 15)) _ from rfl)) aZ))) aZ)))))))))),?_⟩
  refine⟨_,rfl,ea,D,_,_,_,rfl,λu r=>r,hx,kt.ex,kt.k 0 (@B),_,rfl,ea,D,_,_,_,rfl,λu r=>r,hx,kt.ex,kt.k 1 (@B),_,rfl,ea,D,_,_,_,rfl,λu r=>r,hx,kt.ex,kt.k 2 (@B),_,rfl,ea,D,_,_,_,rfl,λu r=>r,hx,kt.ex,kt.k 3 (@B),lW (by show 4<=100;omega),λq1 h1=>?_⟩
  have s1:=ay.new (o:=.lst (b4 0 j)) h1
  refine⟨_,rfl,_,rfl,ea,D,_,_,_,rfl,λu r=>r,@Ti,kt.ex,kt.k 4 (@B),_,rfl,ea,D,_,_,_,rfl,λu r=>r,@Ti,kt.ex,kt.k 5 (@B),_,rfl,ea,D,_,_,_,rfl,λu r=>r,@Ti,kt.ex,kt.k 6 (@B),_,rfl,ea,D,_,_,_,rfl,λu r=>r,@Ti,kt.ex,kt.k 7 (@B),lW (by show 4<=100;omega),λq2 h2=>?_⟩
  refine⟨q1,q2,_,_,rfl,rfl,ay.new h2 _ _ aE,aE,lW (by show 8<=100;omega),λq3 h3=>?_⟩
  have s3:=(s1.trans (ay.new (o:=.lst (b4 4 j)) h2)).trans (ay.new (o:=.lst (b4 0 j++b4 4 j)) h3)
  refine⟨_,rfl,_,rfl,ea,D,_,_,_,rfl,λu r=>r,@Ys,kt.ex,kt.k 8 (@B),_,rfl,ea,D,_,_,_,rfl,λu r=>r,@Ys,kt.ex,kt.k 9 (@B),_,rfl,ea,D,_,_,_,rfl,λu r=>r,@Ys,kt.ex,kt.k 10 (@B),_,rfl,ea,D,_,_,_,rfl,λu r=>r,@Ys,kt.ex,kt.k 11 (@B),lW (by show 4<=100;omega),λq4 h4=>?_⟩
  refine⟨q3,q4,_,_,rfl,rfl,ay.new h4 _ _ aE,aE,lW (by show 12<=100;omega),λq5 h5=>?_⟩
  have s5:=(s3.trans (ay.new (o:=.lst (b4 8 j)) h4)).trans (ay.new (o:=.lst ((b4 0 j++b4 4 j)++b4 8 j)) h5)
  refine⟨_,rfl,_,rfl,ea,D,_,_,_,rfl,λu r=>r,@Yt,kt.ex,kt.k 12 (@B),_,rfl,ea,D,_,_,_,rfl,λu r=>r,@Yt,kt.ex,kt.k 13 (@B),_,rfl,ea,D,_,_,_,rfl,λu r=>r,@Yt,kt.ex,kt.k 14 (@B),_,rfl,ea,D,_,_,_,rfl,λu r=>r,@Yt,kt.ex,kt.k 15 (@B),lW (by show 4<=100;omega),λq6 h6=>?_⟩
  refine⟨q5,q6,_,_,rfl,rfl,ay.new h6 _ _ aE,aE,lW (by show 16<=100;omega),λq7 h7=>?_⟩
  have s7:=(s5.trans (ay.new (o:=.lst (b4 12 j)) h6)).trans (ay.new (o:=.lst (T5 j)) h7)
  refine k q7 _ s7 ?_ aE
  have back:∀{G:Hp} {a b:Addr} {o:HO},upd G a o b=none->G b=none:=λ{G a b o} h=>by
   by_cases z:b=a
   ·subst z;rw[aE]at h;cases h
   ·rw[aJ z]at h;exact h
  exact back (back (back (back (back (back h7)))))
theorem xH{K:Frag}{H:Hp}:∀bs:@En,nt K H (@O_) (bs.map PyData.bool)
 | []=>.nil
 |b::bs=>.cons @L3 (xH bs)
theorem CA:∀ns:@En,@YP=true
 | []=>rfl
 |n::ns=>by
  show((PyData.bool n).canLay0&&@YP)=true
  rw[CA ns];rfl
theorem CO:∀ns:@En,PyData.depthAll @EA=0
 | []=>rfl
 |n::ns=>by
  show max (PyData.bool n).depth (PyData.depthAll @EA)=0
  rw[CO ns];rfl
def tI(ns:@En):SeqAt.shaped (.list @EA)=true:=by
 unfold SeqAt.shaped
 have h1:(PyData.list @EA).canLay0=true:=by simp only[PyData.canLay0];exact CA ns
 have h2:(PyData.list @EA).depth<=64:=by simp only[PyData.depth];rw[CO];omega
 rw[h1,UH h2];rfl
theorem Cy:∀l m:@En,@Jk=decide (l=m)
 | [],[]=>rfl
 | [],_::_=>rfl
 |_::_,[]=>rfl
 |p::l,q::m=>by
  show(PyData.eqv (.bool p) (.bool q)&&@Jk)=_
  rw[Cy l m,Va]
  cases p<;>cases q<;>simp[PyData.eqv]
def Bp(j:Nat):@En:=(List.range 16).map λa=>decide (a=j)
def J4:∀p,p<16->∀j,j<16->decide (Bp j=Bp p)=decide (p=j):=@O
def FX(K:Frag)(R:Addr)(c:Nat->Addr):Addr->Sp:=λx0 vs H Q _=>∃(D:Addr) (j p:Nat),vs= [.ref x0,.int p]/\p<16/\j<16/\H x0=@Wx/\@Yo/\∀H',@Cy->Q (.bl (decide (p=j))) H'
def OO:aH @Ds @Ds (ao An):=@A
def PJ:(["k","place"]:@a).Nodup:=@O
set_option maxHeartbeats 2000000 in
theorem Lp{f R fc:Addr}{c:Nat->Addr}{fd fdc:FuncData}(F:Fn K mg "_law_only" An @Ds f fd)(Fc:Fn K mg "_law_classes" lE ["e"] fc fdc)(e:Jx mg R c)(B:Bt mg)(hv:mg "ValueError"=none):@M8:=by
 have O:DD P w K mg base vG 1 fc fdc ["e"] (wy K R c):=B4 Fc e B
 refine F.F.okE OO (λx0 vs H Q E h=>?_) (λx0 cdv A outer s H vs Q E hr hh h=>?_)
 ·obtain⟨D,j,p,rfl,_⟩:=h;rfl
 ·obtain⟨D,j,p,rfl,hp,hj,hx,kt,k⟩:=h
  refine⟨_,eB (Gh (PW.pt (Mw (Cj (qU (bN bZ rfl B.isinstance (@O) (aw (pv 0) (aw (cV rfl e.mR (show RelV @Kb _ from rfl)) aZ))) λ_=>rfl)) (Hz (Cj (qU (bN bZ rfl B.isinstance (@O) (aw (pv 0) (aw (C4 rfl hv (@O) (show RelV (.ty "ValueError") _ from rfl)) aZ))) λ_=>rfl))))) (gx (lC Aj)) yf)
   (gx (lC (yE @B0 (FG O @DL rfl Fc.mg Fc.F.kp Fc.b .nil IF @Ob)
    (zD (NB:=["k","place"]) (own:=1) (ixs:=[1]) (oJ (by kernel_rfl)) (C0 rfl B.range (aw rM aZ))
     (λC ex s3 H3 pn=>dw (i:=0) PJ rfl (@Af) (hf:=@CG)) (λC ex s3 H3 pn=>sV)
     (λC ex s3 H3 pn=>yE QZ (pv 0) (pv 1) (bI _))) rfl))),?_⟩
  refine⟨_,rfl,x0,D,_,_,true,rfl,λu r=>r,hx,kt.ex,kt.R,_,rfl,sk ?_⟩
  refine⟨_,rfl,x0,D,_,_,true,rfl,λu r=>r,hx,kt.ex,kt.V,_,rfl,sk ?_⟩
  refine⟨_,rfl,x0,D,j,rfl,hx,kt,λq H1 s1 hq e1=>?_⟩
  refine⟨⟨16,rfl,@B,@B,λD' hD=>?_⟩⟩
  refine sd (lo:=0) (n:=16) (λi σ' H'=>(∃v,σ'= [v,some (.int (p:Int))])/\@ML/\H' D'=some (.lst ((@RZ).map λ(a:Nat)=>V.bl (decide (V.int (0+(a:Int))=V.int (p:Int)))))) ?_ ?_ ?_ ?_
  ·exact λi σ' H' h=>⟨x0,.ref D,hh,h.2.1 _ _ (@Ti)⟩
  ·exact⟨@Up,(ay.refl H1).put hD (JS hD),aE⟩
  ·rintro i σ' H' hi ⟨⟨v,rfl⟩,s2,hv'⟩
   refine tV ⟨_,rfl,_,rfl,rfl,_,hv',by rw[Uw,Vm,Vi];omega,@BS,s2.put hD (O0 hv'),?_⟩
   rw[aE,List.range_succ,U7];rfl
  ·rintro σ' H' ⟨_,s2,hv'⟩
   have e2:((List.range 16).map λ(a:Nat)=>V.bl (decide (V.int (0+(a:Int))=V.int (p:Int))))=(Bp p).map V.bl:=by
    unfold Bp
    rw[VP]
    refine Vu λa _=>?_
    show V.bl _=V.bl _
    congr 1
    rw[DI,VE,Va,UU,beq_iff_eq]
    omega
   rw[e2]at hv'
   have e1':H1 q=some (.lst ((Bp j).map V.bl)):=e1
   refine⟨⟨_,hv'⟩,_,_,.lst (.inl (.inl (s2 _ _ e1'))) (xH _),.lst (.inl (.inl hv')) (xH _),tI _,tI _,?_⟩
   have e3:PyData.eqv (.list ((Bp j).map PyData.bool)) (.list ((Bp p).map PyData.bool))=decide (p=j):=by
    simp only[PyData.eqv,Cy]
    exact J4 p hp j hj
   rw[UJ UQ,e3]
   exact k _ (@Dp)
end
def S5{P:Program}{w:World}{K:Frag}{mg:@R}{base:Heap}{ca:Str->Addr}{f R fc:Addr}{c:Nat->Addr}{fd fdc:FuncData}{tbl:List (Str×Nat)}(F:fA K mg "_law_only" An @Ds f fd)(Fc:fA K mg "_law_classes" lE ["e"] fc fdc)(e:Jx mg R c)(B:gk mg)(hv:mg "ValueError"=none)
  (ha:∀x j,tbl.lookup x=some j->Mt K (.ref (ca x)) R/\pB K (ca x) R c j/\j<16):Rz P w K mg base ca "RankError" "_law_only" (λx=>tbl.lookup x):=by
 have O:@M8:=Lp F Fc e B hv
 refine⟨f,R,fd,λD j=>@Yo/\j<16,⟨λx0 vs H Q E q=>by obtain⟨D,j,p,rfl,_⟩:=q;rfl,λx0 A outer s H args us vs Q E hr hh he hb hv' hs=>O.run x0 A outer s H args us vs Q E hr hh he hb hv' (by
   obtain⟨D,j,p,rfl,hp,hx,⟨kj,hj⟩,q⟩:=hs
   exact⟨D,j,p,rfl,hp,hj,hx,kj,q⟩)⟩,F.mg,F.F.kp,F.b,e.mR,λx j h=>?_⟩
 obtain⟨h1,h2,h3⟩:=ha x j h
 exact⟨h1,⟨h2,h3⟩,h3⟩
end RO
section
namespace RO
open PySem L2 RM
def Oe{T:Addr}{K:Frag}{ca:Str->Addr}(vs:List V)(H:Hp)(Q:VK)(E:XK)(h:yG T K vs H Q E):spT T K ca 1 Nq vs H Q E:=by
 obtain⟨a,ns,rfl,hT,hS,q⟩:=h
 refine⟨H,[de ns],Sy hT,@A6,rfl,.cons (.scr hS) .nil,?_⟩
 rw[Qd]
 intro v G' H' s1 s2 s3 s4 fv
 have fv:Rp K G' v (@Bv):=fv
 cases fv
 exact q H' s1
def all_mk:Ma:=by
 intro T c0 l w K h mg fa f62 R q0 q1 q2 q3 q4 q5 q6 q7 q8 q9 q10 q11 q12 q13 q14 q15 X G hfa od62 an62 sl62 oc62 kV62 dc62 pm62 cd62 ct62 tFEW tMOST_THINGS F1 F2 F3 F4 F5 F6 F7 F8 F9 F10 F11 F12 F13 F14 F15 F16 F17 F18 F19 F20 F21 F22 F23 F24 F25 F26 F27 F28 F29 F30 F31 F32 F33 F34 F35 F36 F37 F38 F39 F40 F41 F42 F43 F44 F45 F46 F47 F48 F49 F50 F51 F52 F53 F54 F55 F56 F57 F58 F59 F60 F61 a62 l62 c62 k62 zB yFEW yMOST_THINGS mR n0 n1 n2 n3 n4 n5 n6 n7 n8 n9 n10 n11 n12 n13 n14 n15 zV eR e0 e1 e2 up0 g1_0 g2_0 g3_0 g4_0 g7_0 g8_0 kR0 kV0 kt0_0 kt0_1 kt0_2 kt0_3 kt0_4 kt0_5 kt0_6 kt0_7 kt0_8 kt0_9 kt0_10 kt0_11 kt0_12 kt0_13 kt0_14 kt0_15 up7 g1_7 g2_7 g3_7 g4_7 g7_7 g8_7 kR7 kV7 kt7_0 kt7_1 kt7_2 kt7_3 kt7_4 kt7_5 kt7_6 kt7_7 kt7_8 kt7_9 kt7_10 kt7_11 kt7_12 kt7_13 kt7_14 kt7_15 up12 g1_12 g2_12 g3_12 g4_12 g7_12 g8_12 kR12 kV12 kt12_0 kt12_1 kt12_2 kt12_3 kt12_4 kt12_5 kt12_6 kt12_7 kt12_8 kt12_9 kt12_10 kt12_11 kt12_12 kt12_13 kt12_14 kt12_15 g5 g6
 have e:=hfa.symm.trans (Vb X G a62)
 cases e
 have B:gk mg:=Pw X G zB
 have wK:=Vb X G yFEW
 have ly:=Vb X G yMOST_THINGS
 obtain⟨f1,d1,uV⟩:=F1.ex
 obtain⟨f2,d2,zO⟩:=F2.ex
 obtain⟨f3,d3,bX⟩:=F3.ex
 obtain⟨f4,d4,bL⟩:=F4.ex
 obtain⟨f5,d5,jY⟩:=F5.ex
 obtain⟨f6,d6,jZ⟩:=F6.ex
 obtain⟨f7,d7,j5⟩:=F7.ex
 obtain⟨f8,d8,cg⟩:=F8.ex
 obtain⟨f9,d9,lH⟩:=F9.ex
 obtain⟨f10,d10,iX⟩:=F10.ex
 obtain⟨f11,d11,iQ⟩:=F11.ex
 obtain⟨f12,d12,aB⟩:=F12.ex
 obtain⟨f13,d13,cH⟩:=F13.ex
 obtain⟨f14,d14,eH⟩:=F14.ex
 obtain⟨f15,d15,cR⟩:=F15.ex
 obtain⟨f16,d16,az⟩:=F16.ex
 obtain⟨f17,d17,a9⟩:=F17.ex
 obtain⟨f18,d18,cT⟩:=F18.ex
 obtain⟨f19,d19,a8⟩:=F19.ex
 obtain⟨f20,d20,gY⟩:=F20.ex
 obtain⟨f21,d21,lT⟩:=F21.ex
 obtain⟨f22,d22,j0⟩:=F22.ex
 obtain⟨f23,d23,ia⟩:=F23.ex
 obtain⟨f24,d24,dA⟩:=F24.ex
 obtain⟨f25,d25,dC⟩:=F25.ex
 obtain⟨f26,d26,iU⟩:=F26.ex
 obtain⟨f27,d27,rj⟩:=F27.ex
 obtain⟨f28,d28,c5⟩:=F28.ex
 obtain⟨f29,d29,fC⟩:=F29.ex
 obtain⟨f30,d30,o3⟩:=F30.ex
 obtain⟨f31,d31,iY⟩:=F31.ex
 obtain⟨f32,d32,b8⟩:=F32.ex
 obtain⟨f33,d33,cw⟩:=F33.ex
 obtain⟨f34,d34,bS⟩:=F34.ex
 obtain⟨f35,d35,gX⟩:=F35.ex
 obtain⟨f36,d36,cC⟩:=F36.ex
 obtain⟨f37,d37,i8⟩:=F37.ex
 obtain⟨f38,d38,h9⟩:=F38.ex
 obtain⟨f39,d39,jW⟩:=F39.ex
 obtain⟨f40,d40,hZ⟩:=F40.ex
 obtain⟨f41,d41,cJ,hcode⟩:=F41.ex
 obtain⟨f42,d42,mn⟩:=F42.ex
 obtain⟨f43,d43,dQ⟩:=F43.ex
 obtain⟨f44,d44,lF⟩:=F44.ex
 obtain⟨f45,d45,oG⟩:=F45.ex
 obtain⟨f46,d46,bD⟩:=F46.ex
 obtain⟨f47,d47,fj⟩:=F47.ex
 obtain⟨f48,d48,lM⟩:=F48.ex
 obtain⟨f49,d49,lN⟩:=F49.ex
 obtain⟨f50,d50,bw⟩:=F50.ex
 obtain⟨f51,d51,fD⟩:=F51.ex
 obtain⟨f52,d52,gR⟩:=F52.ex
 obtain⟨f53,d53,cf⟩:=F53.ex
 obtain⟨f54,d54,e8⟩:=F54.ex
 obtain⟨f55,d55,iW⟩:=F55.ex
 obtain⟨f56,d56,aX⟩:=F56.ex
 obtain⟨f57,d57,c4⟩:=F57.ex
 obtain⟨f58,d58,bH⟩:=F58.ex
 obtain⟨f59,d59,cB⟩:=F59.ex
 obtain⟨f60,d60,fy⟩:=F60.ex
 obtain⟨f61,d61,cF⟩:=F61.ex
 have U62:=vk (st:=RQ.pw) l62 c62 k62
 have PN:fA K mg "law" RQ.pw @Ju fa _:=⟨Vb X G a62,U62,U62.binds (ps:=@Ju) @k ⟩
 obtain⟨ca,hca⟩:∃ca:Str->Addr,ca "NoNumber"=q7/\ca "NoOrder"=q0/\ca "TooMany"=q12:=⟨λs=>if s="NoNumber"then q7 else if s="NoOrder"then q0 else if s="TooMany"then q12 else 0,by first|rfl|decide|simp,by first|rfl|decide|simp,by first|rfl|decide|simp⟩
 have dg:@Ms:=⟨by rw[hca.1];exact Vb X G n7,by rw[hca.1];exact e0⟩
 have lD:@X_:=⟨by rw[hca.2.1];exact Vb X G n0,by rw[hca.2.1];exact e1⟩
 have lV:@YA:=⟨by rw[hca.2.2];exact Vb X G n12,by rw[hca.2.2];exact e2⟩
 refine⟨@Eq,λs v=>.of_eq rfl,λbase _ _ LT=>?_⟩
 have er:Jx mg R (λi=>[q0,q1,q2,q3,q4,q5,q6,q7,q8,q9,q10,q11,q12,q13,q14,q15].getD i 0):=⟨Vb X G mR,Vb X G n0,Vb X G n1,Vb X G n2,Vb X G n3,Vb X G n4,Vb X G n5,Vb X G n6,Vb X G n7,Vb X G n8,Vb X G n9,Vb X G n10,Vb X G n11,Vb X G n12,Vb X G n13,Vb X G n14,Vb X G n15⟩
 have kt0:pB K q0 R (λi=>[q0,q1,q2,q3,q4,q5,q6,q7,q8,q9,q10,q11,q12,q13,q14,q15].getD i 0) 0:=⟨⟨g1_0,g2_0,g3_0,g4_0,g5,g6,g7_0,g8_0⟩,kR0,kV0,λi hi=>by
  match i,hi with
  | 0,_=>exact kt0_0
  | 1,_=>exact kt0_1
  | 2,_=>exact kt0_2
  | 3,_=>exact kt0_3
  | 4,_=>exact kt0_4
  | 5,_=>exact kt0_5
  | 6,_=>exact kt0_6
  | 7,_=>exact kt0_7
  | 8,_=>exact kt0_8
  | 9,_=>exact kt0_9
  | 10,_=>exact kt0_10
  | 11,_=>exact kt0_11
  | 12,_=>exact kt0_12
  | 13,_=>exact kt0_13
  | 14,_=>exact kt0_14
  | 15,_=>exact kt0_15
  |i+16,h=>omega⟩
 have mt0:Mt K @CM R:=GA e1 eR @S up0
 have kt7:pB K q7 R (λi=>[q0,q1,q2,q3,q4,q5,q6,q7,q8,q9,q10,q11,q12,q13,q14,q15].getD i 0) 7:=⟨⟨g1_7,g2_7,g3_7,g4_7,g5,g6,g7_7,g8_7⟩,kR7,kV7,λi hi=>by
  match i,hi with
  | 0,_=>exact kt7_0
  | 1,_=>exact kt7_1
  | 2,_=>exact kt7_2
  | 3,_=>exact kt7_3
  | 4,_=>exact kt7_4
  | 5,_=>exact kt7_5
  | 6,_=>exact kt7_6
  | 7,_=>exact kt7_7
  | 8,_=>exact kt7_8
  | 9,_=>exact kt7_9
  | 10,_=>exact kt7_10
  | 11,_=>exact kt7_11
  | 12,_=>exact kt7_12
  | 13,_=>exact kt7_13
  | 14,_=>exact kt7_14
  | 15,_=>exact kt7_15
  |i+16,h=>omega⟩
 have mt7:Mt K @CN R:=GA e0 eR @S up7
 have kt12:pB K q12 R (λi=>[q0,q1,q2,q3,q4,q5,q6,q7,q8,q9,q10,q11,q12,q13,q14,q15].getD i 0) 12:=⟨⟨g1_12,g2_12,g3_12,g4_12,g5,g6,g7_12,g8_12⟩,kR12,kV12,λi hi=>by
  match i,hi with
  | 0,_=>exact kt12_0
  | 1,_=>exact kt12_1
  | 2,_=>exact kt12_2
  | 3,_=>exact kt12_3
  | 4,_=>exact kt12_4
  | 5,_=>exact kt12_5
  | 6,_=>exact kt12_6
  | 7,_=>exact kt12_7
  | 8,_=>exact kt12_8
  | 9,_=>exact kt12_9
  | 10,_=>exact kt12_10
  | 11,_=>exact kt12_11
  | 12,_=>exact kt12_12
  | 13,_=>exact kt12_13
  | 14,_=>exact kt12_14
  | 15,_=>exact kt12_15
  |i+16,h=>omega⟩
 have mt12:Mt K @Bs R:=GA e2 eR @S up12
 have MK:Rz l.prog w K mg base ca "RankError" "_law_only" (λx=>@S_):=by
  refine S5 zO uV er B (PySem.W.mg_none_of X G zV) λc j h=>?_
  unfold D7 at h
  by_cases z0:c="NoOrder"
  ·subst z0
   cases h
   rw[hca.2.1];exact⟨mt0,kt0,@B ⟩
  by_cases z7:c="NoNumber"
  ·subst z7
   cases h
   rw[hca.1];exact⟨mt7,kt7,@B ⟩
  by_cases z12:c="TooMany"
  ·subst z12
   cases h
   rw[hca.2.2];exact⟨mt12,kt12,@B ⟩
  simp only[WB,List.lookup_nil,beq_false_of_ne z0,beq_false_of_ne z7,beq_false_of_ne z12]at h
  cases h
 have dG:=(RQ.xA (P:=l.prog) (w:=w) (base:=base) (ca:=ca) bX B).imp Jm
 have dq:=(RQ.xM (P:=l.prog) (w:=w) (base:=base) (ca:=ca) bL B dG).imp LI
 have rg:=(RQ.zb (P:=l.prog) (w:=w) (base:=base) (ca:=ca) jY B dG ly).imp N8
 have qS:=RQ.zr (P:=l.prog) (w:=w) (base:=base) (ca:=ca) jZ B dq
 have rl:=RQ.zj (P:=l.prog) (w:=w) (base:=base) (ca:=ca) j5 B dq
 have fg:=RQ.uA (P:=l.prog) (w:=w) (base:=base) (ca:=ca) cg B
 have uy:=BR (P:=l.prog) (w:=w) (base:=base) (ca:=ca) lH cg B
 have pN:=(RQ.xC (P:=l.prog) (w:=w) (base:=base) (ca:=ca) iX B).imp Oi
 have pH:=RQ.y1 (P:=l.prog) (w:=w) (base:=base) (ca:=ca) iQ B rg qS uy pN
 have bg:=RQ.tP (P:=l.prog) (w:=w) (base:=base) (ca:=ca) aB B pH lD
 have dS:=bg.imp JR
 have gZ:=RQ.we (P:=l.prog) (w:=w) (base:=base) (ca:=ca) cH B
 have lI:=RQ.BV (P:=l.prog) (w:=w) (base:=base) (ca:=ca) eH B
 have lb:=RQ.su (P:=l.prog) (w:=w) (base:=base) (ca:=ca) cR B rl lI
 have aP:=RQ.u3 (P:=l.prog) (w:=w) (base:=base) (ca:=ca) az B
 have cA:=RQ.sh (P:=l.prog) (w:=w) (base:=base) (ca:=ca) a9 B aP
 have j4:=RQ.zU (P:=l.prog) (w:=w) (base:=base) (ca:=ca) cT B cA aP
 have cz:=RQ.sr (P:=l.prog) (w:=w) (base:=base) (ca:=ca) a8 B aP
 have oq:=RQ.vF (P:=l.prog) (w:=w) (base:=base) (ca:=ca) gY B dS j4 cz
 have tJ:=RQ.BD (P:=l.prog) (w:=w) (base:=base) (ca:=ca) lT B cA aP
 have ra:=RQ.Am (P:=l.prog) (w:=w) (base:=base) (ca:=ca) j0 B dS cz j4 dq tJ aP dg
 have nX:=RQ.wj (P:=l.prog) (w:=w) (base:=base) (ca:=ca) ia B cA aP
 have kz:=RQ.rF (P:=l.prog) (w:=w) (base:=base) (ca:=ca) dA B
 have kc:=RQ.qR (P:=l.prog) (w:=w) (base:=base) (ca:=ca) dC B lI fg kz
 have pR:=RQ.yH (P:=l.prog) (w:=w) (base:=base) (ca:=ca) iU B lb
 have Cb:=RQ.G7 (P:=l.prog) (w:=w) (base:=base) (ca:=ca) rj B dS pR kc
 have js:=RQ.ql (P:=l.prog) (w:=w) (base:=base) (ca:=ca) c5 B gZ
 have mf:=RQ.uU (P:=l.prog) (w:=w) (base:=base) (ca:=ca) fC B dS js
 have yz:=RQ.Ew (P:=l.prog) (w:=w) (base:=base) (ca:=ca) o3 B dS fg gZ
 have pG:=RQ.xF (P:=l.prog) (w:=w) (base:=base) (ca:=ca) iY B
 have dR:=RQ.sD (P:=l.prog) (w:=w) (base:=base) (ca:=ca) b8 B yz pG
 have eV:=RQ.yA (P:=l.prog) (w:=w) (base:=base) (ca:=ca) cw B
 have dF:=RQ.xZ (P:=l.prog) (w:=w) (base:=base) (ca:=ca) bS B aP
 have oi:=RQ.vE (P:=l.prog) (w:=w) (base:=base) (ca:=ca) gX B dF
 have g7:=RQ.vA (P:=l.prog) (w:=w) (base:=base) (ca:=ca) cC B dF
 have pS:=RQ.xP (P:=l.prog) (w:=w) (base:=base) (ca:=ca) i8 B dF aP
 have om:=RQ.wx (P:=l.prog) (w:=w) (base:=base) (ca:=ca) h9 B eV
 have nV:=RQ.wo (P:=l.prog) (w:=w) (base:=base) (ca:=ca) hZ B g7
 have ky:=Au (T:=T) (P:=l.prog) (w:=w) (base:=base) (ca:=ca) (j:=7) cJ (λk F' hk h=>RQ.x6 (@B) cJ B hcode LT (RQ.AA (@B) jW B h g7 om pS) oi nX nV) 40
 have sL:=RQ.Eu (P:=l.prog) (w:=w) (base:=base) (ca:=ca) mn B cz ky dR
 have lr:=RQ.sv (P:=l.prog) (w:=w) (base:=base) (ca:=ca) dQ B dS sL
 have uC:=RQ.A1 (P:=l.prog) (w:=w) (base:=base) (ca:=ca) lF B lr
 have xB:=RQ.ED (P:=l.prog) (w:=w) (base:=base) (ca:=ca) oG B eV
 have dN:=yh (P:=l.prog) (w:=w) (base:=base) (ca:=ca) (j:=2) bD (λk F' hk h=>RQ.pX hk bD B h xB) 40
 have mi:=RQ.uN (P:=l.prog) (w:=w) (base:=base) (ca:=ca) fj B dN dR
 have uE:=RQ.AW (P:=l.prog) (w:=w) (base:=base) (ca:=ca) lM B bg mi mf
 have u9:=RQ.BU (P:=l.prog) (w:=w) (base:=base) (ca:=ca) lN B dG wK
 have cI:=RQ.pe (P:=l.prog) (w:=w) (base:=base) (ca:=ca) bw B bg lV wK
 have mr:=RQ.vj (P:=l.prog) (w:=w) (base:=base) (ca:=ca) fD B cI u9 dg
 have nU:=RQ.vH (P:=l.prog) (w:=w) (base:=base) (ca:=ca) gR B oq ra
 have iz:=yh (P:=l.prog) (w:=w) (base:=base) (ca:=ca) (j:=6) cf (λk F' hk h=>RQ.vg hk cf B h Cb) 40
 have mC:=RQ.uT (P:=l.prog) (w:=w) (base:=base) (ca:=ca) e8 B cI iz nU uC
 have pK:=RQ.yK (P:=l.prog) (w:=w) (base:=base) (ca:=ca) iW B
 have bK:=RQ.vR (P:=l.prog) (w:=w) (base:=base) aX B
 have jt:=RQ.p8 (P:=l.prog) (w:=w) (base:=base) c4 B bK
 have c3:=RQ.qw (P:=l.prog) (w:=w) (base:=base) bH B bK
 have gQ:=RQ.vS (P:=l.prog) (w:=w) (base:=base) (ca:=ca) cB B
 have lZ:=RQ.tR (P:=l.prog) (w:=w) (base:=base) (ca:=ca) fy B gQ bK c3
 have eT:=RQ.rC (P:=l.prog) (w:=w) (base:=base) (ca:=ca) cF B mr mC uE MK
 have O3:=RQ.JN (P:=l.prog) (w:=w) (base:=base) (ca:=ca) PN B pK gQ eT lZ bK c3 jt
 exact gM.imp (sp:=spT T K ca 1 Nq) O3 Oe
end RO
theorem PySem.Challenge.cw_rowsorder_k75_bounds_refused_holds : PySem.Challenge.rw_rowsorder_k75_bounds_refused.Holds :=
 RO.head RO.all_mk
end
