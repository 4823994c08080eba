
import Derived.Test.YthpgnliicpejoaaGreatDoorVt33
namespace Go.Proofs.YthpgnliicpejoaaGreatDoor.AM
open Go.RowKit
set_option linter.unusedVariables false
set_option maxRecDepth 20000
def qmn (n:Nat):List LC:=[]
def qdi (n:Nat) (a1:Int):Option ((List ((Bool)×((Int)×List UInt8)))×(Int)) :=
 (bif decide (a1<8) then some ([],(1:Int)) else (bif decide (512<a1) then some ([],(1:Int)) else (qeb n a1).bind fun r1=>((q5t n).F ((r1.1,r1.2.1),(1:Int))).bind fun (r2:(List ((Bool)×((Int)×List UInt8)))×(Int))=>some r2))
def q3d (n:Nat):FC:={ f:=15,args:=[.one (.c (.d (.int .i64)))],res:=.tup [.c (.d (.lst (.prod .bool (.prod (.int .i64) .str)))),.c (.d (.int .i64))],F:=fun p=>qdi n p }
def qpl (n:Nat):List FC:=[q78 n,q5t n]
theorem qy8 (n:Nat) {G:World->Prop} (hG:Know Inv G) : ∀c∈qpl n,q27 Tryz.prog G c/\q0z c.args=true:=List.forall_mem_cons.2 ⟨qxl n G hG,List.forall_mem_cons.2 ⟨qvh n G hG,(fun _ h=>by cases h)⟩⟩
def qqc:q0y:=[]
theorem j82:drB qqc (q05 Tryz.f15)=true:=by kernel_rfl
theorem jaa (n:Nat) : ∀a,(q3d n).F a=main Tryz.prog 16 (qpl n) (qmn n) qqc (q05 Tryz.f15) [.tmp 2,.tmp 3] (q3d n).args (q3d n).res a:=by intro a;kernel_rfl
theorem qqd (n:Nat):q0v Inv Tryz.prog (q3d n):=fun G hG=>⟨⟨by kernel_rfl,fun a r h=>q0p (c:=q05 Tryz.f15) Tryz.func15 (by kernel_rfl) (by kernel_rfl) (Nat.le_of_ble_eq_true (by kernel_rfl)) hG.st (by kernel_rfl) (rs:=[.tmp 2,.tmp 3]) (by kernel_rfl) (qy8 n hG) (lts:=qmn n) (fun F hF hFG=>have hK:Know Inv F.G:=hFG ▸ hG;(q0k fun j L h1 h2 h3=>absurd h2 (Nat.not_lt.2 (Nat.le_trans (by decide +kernel) h1)))) j82 ((jaa n a).symm.trans h)⟩,rfl⟩
def qpw (n:Nat):List LC:=[]
def q8g (n:Nat) (a1:(List (List UInt8))×(List ((Int)×List UInt8))):Option ((Int×(Int×(Int×(Int×(List (List UInt8×List UInt8))))))×(Int)) :=
 (qgp n a1).bind fun r1=>(q6e (Subtype.val r1.2)).bind fun (b2:Bool)=>(bif !b2 then (q6x r1.2).bind fun (r3:Int)=>some (((0:Int),((0:Int),((0:Int),((0:Int),[])))),r3) else some ((r1.1.2.2.2.2.1,(r1.1.2.2.2.2.2.1,((r1.1.2.2.2.2.2.2.1.length:Int),r1.1.2.2.2.2.2.2.2))),(0:Int)))
def q6w (n:Nat):FC:={ f:=11,args:=[.one (.agg [.d (.lst .str),.d (.lst (.prod (.int .i64) .str))])],res:=.tup [.agg [.d (.int .i64),.d (.int .i64),.d (.int .i64),.d (.int .i64),.d (.lst (.prod .str .str))],.c (.d (.int .i64))],F:=fun p=>q8g n p }
def qzf (n:Nat):List FC:=[q81 n,qh4]
theorem j31 (n:Nat) {G:World->Prop} (hG:Know Inv G) : ∀c∈qzf n,q27 Tryz.prog G c/\q0z c.args=true:=List.forall_mem_cons.2 ⟨qtf n G hG,List.forall_mem_cons.2 ⟨qoz G hG,(fun _ h=>by cases h)⟩⟩
def qyc:q0y:=[]
theorem jch:drB qyc (q05 Tryz.f11)=true:=by kernel_rfl
theorem jgj (n:Nat) : ∀a,(q6w n).F a=main Tryz.prog 31 (qzf n) (qpw n) qyc (q05 Tryz.f11) [.cell 2 32,.tmp 3] (q6w n).args (q6w n).res a:=by intro a;kernel_rfl
theorem qyr (n:Nat):q0v Inv Tryz.prog (q6w n):=fun G hG=>⟨⟨by kernel_rfl,fun a r h=>q0p (c:=q05 Tryz.f11) Tryz.func11 (by kernel_rfl) (by kernel_rfl) (Nat.le_of_ble_eq_true (by kernel_rfl)) hG.st (by kernel_rfl) (rs:=[.cell 2 32,.tmp 3]) (by kernel_rfl) (j31 n hG) (lts:=qpw n) (fun F hF hFG=>have hK:Know Inv F.G:=hFG ▸ hG;(q0k fun j L h1 h2 h3=>absurd h2 (Nat.not_lt.2 (Nat.le_trans (by decide +kernel) h1)))) jch ((jgj n a).symm.trans h)⟩,rfl⟩
def quy (n:Nat):List LC:=[]
def qfy (n:Nat) (a1:(List (List UInt8))×(List ((Int)×List UInt8))):Option (Int) :=
 (qgp n a1).bind fun r1=>(q6e (Subtype.val r1.2)).bind fun (b2:Bool)=>(bif !b2 then some (0:Int) else (if r1.1.2.2.2.2.1=0 then q0n (IntKind.wrap .i64 (r1.1.1+r1.1.2.1)) fun n3=>q0n (IntKind.wrap .i64 (n3 - r1.1.2.2.2.2.2.2.2.1)) fun n4=>some n4 else if r1.1.2.2.2.2.1=1 then q0n (IntKind.wrap .i64 (r1.1.2.2.1+r1.1.2.2.2.1)) fun n5=>q0n (IntKind.wrap .i64 (n5 - r1.1.2.2.2.2.2.2.2.1)) fun n6=>some n6 else none))
def qb9 (n:Nat):FC:={ f:=19,args:=[.one (.agg [.d (.lst .str),.d (.lst (.prod (.int .i64) .str))])],res:=.one (.c (.d (.int .i64))),F:=fun p=>qfy n p }
def j4w (n:Nat):List FC:=[q81 n]
theorem j7c (n:Nat) {G:World->Prop} (hG:Know Inv G) : ∀c∈j4w n,q27 Tryz.prog G c/\q0z c.args=true:=List.forall_mem_cons.2 ⟨qtf n G hG,(fun _ h=>by cases h)⟩
def j5z:q0y:=[]
theorem jjp:drB j5z (q05 Tryz.f19)=true:=by kernel_rfl
theorem jky (n:Nat) : ∀a,(qb9 n).F a=main Tryz.prog 27 (j4w n) (quy n) j5z (q05 Tryz.f19) [.tmp 2] (qb9 n).args (qb9 n).res a:=by intro a;kernel_rfl
theorem j6s (n:Nat):q0v Inv Tryz.prog (qb9 n):=fun G hG=>⟨⟨by kernel_rfl,fun a r h=>q0p (c:=q05 Tryz.f19) Tryz.func19 (by kernel_rfl) (by kernel_rfl) (Nat.le_of_ble_eq_true (by kernel_rfl)) hG.st (by kernel_rfl) (rs:=[.tmp 2]) (by kernel_rfl) (j7c n hG) (lts:=quy n) (fun F hF hFG=>have hK:Know Inv F.G:=hFG ▸ hG;(q0k fun j L h1 h2 h3=>absurd h2 (Nat.not_lt.2 (Nat.le_trans (by decide +kernel) h1)))) jjp ((jky n a).symm.trans h)⟩,rfl⟩
@[reducible] def qb5:SSt:=⟨[(0,.one (.c (.d .str)))],[],[]⟩
@[reducible] def q6l:List (Exit×SSt):=[(.exit 0,⟨[(0,.one (.c (.d .str)))],[],[]⟩)]
def ql0 (n:Nat) (rec:(List UInt8)->Option (((List UInt8)×Unit)×Unit×Unit)) (a1:List UInt8):Option (((List UInt8)×Unit)×Unit×Unit) :=
 (bif decide ((a1.length:Int)<32) then (q4s a1 ([0]:List UInt8)).bind fun s1=>rec s1 else some (((a1,()),((),()))))
def qmi (n:Nat) (rec:pSt qb5->Option (q17 q6l)) (p:pSt qb5):Option (q17 q6l):=ql0 n (fun a1=>rec ((a1,()),((),()))) p.1.1
def q6n (n m:Nat) (a1:List UInt8):Option (((List UInt8)×Unit)×Unit×Unit):=q1b (qmi n) m ((a1,()),((),()))
theorem qg7 (n m:Nat) (a1):q6n n (m+1) a1=ql0 n (fun a1=>q6n n m a1) a1:=rfl
def qyf (n:Nat):LC:={ sh:=qb5,outs:=q6l,F:=q1b (qmi n) n }
def qgt (n:Nat):List LC:=[qyf n]
def qiq (n:Nat) (a1:List UInt8):Option (List UInt8) :=
 (q6n n n a1).bind fun o2=>some o2.1.1
def qa2 (n:Nat):FC:={ f:=113,args:=[.one (.c (.d .str))],res:=.one (.c (.d .str)),F:=fun p=>qiq n p }
def qjp (n:Nat):List FC:=[]
theorem qk1 (n:Nat) {G:World->Prop} (hG:Know Inv G) : ∀c∈qjp n,q27 Tryz.prog G c/\q0z c.args=true:=(fun _ h=>by cases h)
def qm2:q0y:=[]
theorem qux:drB qm2 (q05 Tryz.f113)=true:=by kernel_rfl
theorem j9o (n:Nat) : ∀rec p,qmi n rec p=round Tryz.prog 9 (qjp n) (qgt n) qm2 1 qb5 q6l (q0h 0 0 (q05 Tryz.f113)) rec p:=by intro rec p;kernel_rfl
theorem j2l (n:Nat) {F:Fr} (hF:F.n=9) (hK:Know Inv F.G):qae Tryz.prog F (qyf n) (q0h 0 0 (q05 Tryz.f113)) :=
 q1h hF (by kernel_rfl) (qk1 n hK) (j9o n) (fuel:=n) (fun _=>rfl) (q0k fun j L h1 h2 h3=>absurd h2 (Nat.not_lt.2 (Nat.le_trans (by decide +kernel) h1))) (q20 qux)
theorem jh0 (n:Nat) : ∀a,(qa2 n).F a=main Tryz.prog 9 (qjp n) (qgt n) qm2 (q05 Tryz.f113) [.tmp 2] (qa2 n).args (qa2 n).res a:=by intro a;kernel_rfl
theorem jc8 (n:Nat):q0v Inv Tryz.prog (qa2 n):=fun G hG=>⟨⟨by kernel_rfl,fun a r h=>q0p (c:=q05 Tryz.f113) Tryz.func113 (by kernel_rfl) (by kernel_rfl) (Nat.le_of_ble_eq_true (by kernel_rfl)) hG.st (by kernel_rfl) (rs:=[.tmp 2]) (by kernel_rfl) (qk1 n hG) (lts:=qgt n) (fun F hF hFG=>have hK:Know Inv F.G:=hFG ▸ hG;(q0k (c:=(q05 Tryz.f113)) (fun j L h1 h2 h3=>by
  have h2':j<1:=Nat.lt_of_lt_of_le h2 (by decide +kernel)
  match j,h1,h2',h3 with
  | 0,_,_,h3=>obtain rfl:=Option.some.inj h3;exact (show q0h 0 0 (q05 Tryz.f113)=q0h 0 0 (q05 Tryz.f113) by kernel_rfl) ▸ j2l n hF hK
  | j+1,_,h2',_=>exact absurd h2' (by omega)))) qux ((jh0 n a).symm.trans h)⟩,rfl⟩
@[reducible] def qep:SSt:=⟨[(0,.one (.c (.d .str))),(3,.one (.c (.row 28))),(4,.one (.c (.d (.int .i64))))],[],[(28,⟨9,true,.str⟩)]⟩
@[reducible] def q80:List (Exit×SSt):=[(.exit 0,⟨[(3,.one (.c (.row 28)))],[],[(28,⟨9,true,.str⟩)]⟩)]
def qsz (n:Nat) (rec:(List UInt8)->Int->(List (List UInt8))->Option ((Unit×Unit)×Unit×((List (List UInt8))×Unit))) (a1:List UInt8) (a2:Int) (a3:List (List UInt8)):Option ((Unit×Unit)×Unit×((List (List UInt8))×Unit)) :=
 (bif decide (a2<(a1.length:Int)) then (bif decide ((a1.length:Int)<=4096) then q0n (IntKind.wrap .i64 (a2+31)) fun n1=>q0n (min n1 (a1.length:Int)) fun n2=>(q3g a1 a2 n2).bind fun s3=>(q4s ([68]:List UInt8) s3).bind fun s4=>(qiq n s4).bind fun r5=>(q2g 16 a3 ([r5]:List (List UInt8))).bind fun l6=>q0n (IntKind.wrap .i64 (a2+31)) fun n7=>rec a1 n7 l6 else some ((((),()),((),(a3,()))))) else some ((((),()),((),(a3,())))))
def qrk (n:Nat) (rec:pSt qep->Option (q17 q80)) (p:pSt qep):Option (q17 q80):=qsz n (fun a1 a2 a3=>rec ((a1,((),(a2,()))),((),(a3,())))) p.1.1 p.1.2.2.1 p.2.2.1
def q89 (n m:Nat) (a1:List UInt8) (a2:Int) (a3:List (List UInt8)):Option ((Unit×Unit)×Unit×((List (List UInt8))×Unit)):=q1b (qrk n) m ((a1,((),(a2,()))),((),(a3,())))
theorem qij (n m:Nat) (a1 a2 a3):q89 n (m+1) a1 a2 a3=qsz n (fun a1 a2 a3=>q89 n m a1 a2 a3) a1 a2 a3:=rfl
def j5u (n:Nat):LC:={ sh:=qep,outs:=q80,F:=q1b (qrk n) n }
def qjw (n:Nat):List LC:=[j5u n]
def qnc (n:Nat) (a1:List UInt8):Option (List (List UInt8)) :=
 (q89 n n a1 (0:Int) []).bind fun o8=>some o8.2.2.1
def qad (n:Nat):FC:={ f:=82,args:=[.one (.c (.d .str))],res:=.one (.c (.d (.lst .str))),F:=fun p=>qnc n p }
def qt2 (n:Nat):List FC:=[qa2 n]
theorem qra (n:Nat) {G:World->Prop} (hG:Know Inv G) : ∀c∈qt2 n,q27 Tryz.prog G c/\q0z c.args=true:=List.forall_mem_cons.2 ⟨jc8 n G hG,(fun _ h=>by cases h)⟩
def qsw:q0y:=[]
theorem j50:drB qsw (q05 Tryz.f82)=true:=by kernel_rfl
theorem jdz (n:Nat) : ∀rec p,qrk n rec p=round Tryz.prog 30 (qt2 n) (qjw n) qsw 1 qep q80 (q0h 0 0 (q05 Tryz.f82)) rec p:=by intro rec p;kernel_rfl
theorem j8l (n:Nat) {F:Fr} (hF:F.n=30) (hK:Know Inv F.G):qae Tryz.prog F (j5u n) (q0h 0 0 (q05 Tryz.f82)) :=
 q1h hF (by kernel_rfl) (qra n hK) (jdz n) (fuel:=n) (fun _=>rfl) (q0k fun j L h1 h2 h3=>absurd h2 (Nat.not_lt.2 (Nat.le_trans (by decide +kernel) h1))) (q20 j50)
theorem jiv (n:Nat) : ∀a,(qad n).F a=main Tryz.prog 30 (qt2 n) (qjw n) qsw (q05 Tryz.f82) [.tmp 2] (qad n).args (qad n).res a:=by intro a;kernel_rfl
theorem j46 (n:Nat):q0v Inv Tryz.prog (qad n):=fun G hG=>⟨⟨by kernel_rfl,fun a r h=>q0p (c:=q05 Tryz.f82) Tryz.func82 (by kernel_rfl) (by kernel_rfl) (Nat.le_of_ble_eq_true (by kernel_rfl)) hG.st (by kernel_rfl) (rs:=[.tmp 2]) (by kernel_rfl) (qra n hG) (lts:=qjw n) (fun F hF hFG=>have hK:Know Inv F.G:=hFG ▸ hG;(q0k (c:=(q05 Tryz.f82)) (fun j L h1 h2 h3=>by
  have h2':j<1:=Nat.lt_of_lt_of_le h2 (by decide +kernel)
  match j,h1,h2',h3 with
  | 0,_,_,h3=>obtain rfl:=Option.some.inj h3;exact (show q0h 0 0 (q05 Tryz.f82)=q0h 0 0 (q05 Tryz.f82) by kernel_rfl) ▸ j8l n hF hK
  | j+1,_,h2',_=>exact absurd h2' (by omega)))) j50 ((jiv n a).symm.trans h)⟩,rfl⟩
def qq6 (n:Nat):List LC:=[]
def qdr (n:Nat) (a1:(List (List UInt8))×(List ((Int)×List UInt8))) (a2:Int):Option ((Int×(Int×(Int×(Int×(Int)))))×(Bool)) :=
 (j9v a1 a2).bind fun (r1:(List UInt8)×(Int))=>(q8b r1.1).bind fun (r2:(Int×(Int×(Int×(Int×(Int)))))×(Bool))=>some r2
def q7a (n:Nat):FC:={ f:=100,args:=[.one (.agg [.d (.lst .str),.d (.lst (.prod (.int .i64) .str))]),.one (.c (.d (.int .i64)))],res:=.tup [.agg [.d (.int .i64),.d (.int .i64),.d (.int .i64),.d (.int .i64),.d (.int .i64)],.c (.d .bool)],F:=fun p=>qdr n p.1 p.2 }
def qvx (n:Nat):List FC:=[j36,qlz]
theorem j3c (n:Nat) {G:World->Prop} (hG:Know Inv G) : ∀c∈qvx n,q27 Tryz.prog G c/\q0z c.args=true:=List.forall_mem_cons.2 ⟨jgy G hG,List.forall_mem_cons.2 ⟨jhy G hG,(fun _ h=>by cases h)⟩⟩
def qwa:q0y:=[]
theorem jek:drB qwa (q05 Tryz.f100)=true:=by kernel_rfl
theorem jck (n:Nat) : ∀a,(q7a n).F a=main Tryz.prog 18 (qvx n) (qq6 n) qwa (q05 Tryz.f100) [.cell 4 146,.tmp 5] (q7a n).args (q7a n).res a:=by intro a;kernel_rfl
theorem qyb (n:Nat):q0v Inv Tryz.prog (q7a n):=fun G hG=>⟨⟨by kernel_rfl,fun a r h=>q0p (c:=q05 Tryz.f100) Tryz.func100 (by kernel_rfl) (by kernel_rfl) (Nat.le_of_ble_eq_true (by kernel_rfl)) hG.st (by kernel_rfl) (rs:=[.cell 4 146,.tmp 5]) (by kernel_rfl) (j3c n hG) (lts:=qq6 n) (fun F hF hFG=>have hK:Know Inv F.G:=hFG ▸ hG;(q0k fun j L h1 h2 h3=>absurd h2 (Nat.not_lt.2 (Nat.le_trans (by decide +kernel) h1)))) jek ((jck n a).symm.trans h)⟩,rfl⟩
@[reducible] def q67:SSt:=⟨[(2,.one (.c (.d (.int .i64)))),(5,.one (.c (.box 5 0))),(12,.one (.c (.box 12 0))),(14,.one (.c (.d (.int .i64)))),(15,.one (.c (.row 76))),(16,.one (.c (.d (.int .i64))))],[(5,(25,[.d (.lst .str),.d (.lst (.prod (.int .i64) .str))])),(12,(146,[.d (.int .i64),.d (.int .i64),.d (.int .i64),.d (.int .i64),.d (.int .i64)]))],[(76,⟨9,true,.str⟩)]⟩
@[reducible] def q4a:List (Exit×SSt):=[(.exit 0,⟨[(12,.one (.c (.box 12 0))),(14,.one (.c (.d (.int .i64)))),(15,.one (.c (.row 76)))],[(12,(146,[.d (.int .i64),.d (.int .i64),.d (.int .i64),.d (.int .i64),.d (.int .i64)]))],[(76,⟨9,true,.str⟩)]⟩)]
def qcn (n:Nat) (rec:Int->Int->Int->(List (List UInt8))->(List ((Int)×List UInt8))->Int->Int->Int->Int->Int->(List (List UInt8))->Option ((Unit×(Int×(Unit×Unit)))×((Int×(Int×(Int×(Int×(Int)))))×Unit)×((List (List UInt8))×Unit))) (a1:Int) (a2:Int) (a3:Int) (a4:List (List UInt8)) (a5:List ((Int)×List UInt8)) (a6:Int) (a7:Int) (a8:Int) (a9:Int) (a10:Int) (a11:List (List UInt8)):Option ((Unit×(Int×(Unit×Unit)))×((Int×(Int×(Int×(Int×(Int)))))×Unit)×((List (List UInt8))×Unit)) :=
 (bif decide (a3<a2) then q0n (IntKind.wrap .i64 (a1+1)) fun n6=>q0n (IntKind.wrap .i64 (n6+a3)) fun n7=>(j9v (a4,a5) n7).bind fun (r8:(List UInt8)×(Int))=>(q2g 16 a11 ([r8.1]:List (List UInt8))).bind fun l9=>q0n (IntKind.wrap .i64 (a3+1)) fun n10=>rec a1 a2 n10 a4 a5 a6 a7 a8 a9 a10 l9 else some ((((),(a2,((),()))),(((a6,(a7,(a8,(a9,a10)))),()),(a11,())))))
def qc0 (n:Nat) (rec:pSt q67->Option (q17 q4a)) (p:pSt q67):Option (q17 q4a):=qcn n (fun a1 a2 a3 a4 a5 a6 a7 a8 a9 a10 a11=>rec ((a1,((),((),(a2,((),(a3,())))))),(((a4,a5),((a6,(a7,(a8,(a9,a10)))),())),(a11,())))) p.1.1 p.1.2.2.2.1 p.1.2.2.2.2.2.1 p.2.1.1.1 p.2.1.1.2 p.2.1.2.1.1 p.2.1.2.1.2.1 p.2.1.2.1.2.2.1 p.2.1.2.1.2.2.2.1 p.2.1.2.1.2.2.2.2 p.2.2.1
def q4c (n m:Nat) (a1:Int) (a2:Int) (a3:Int) (a4:List (List UInt8)) (a5:List ((Int)×List UInt8)) (a6:Int) (a7:Int) (a8:Int) (a9:Int) (a10:Int) (a11:List (List UInt8)):Option ((Unit×(Int×(Unit×Unit)))×((Int×(Int×(Int×(Int×(Int)))))×Unit)×((List (List UInt8))×Unit)):=q1b (qc0 n) m ((a1,((),((),(a2,((),(a3,())))))),(((a4,a5),((a6,(a7,(a8,(a9,a10)))),())),(a11,())))
theorem qcr (n m:Nat) (a1 a2 a3 a4 a5 a6 a7 a8 a9 a10 a11):q4c n (m+1) a1 a2 a3 a4 a5 a6 a7 a8 a9 a10 a11=qcn n (fun a1 a2 a3 a4 a5 a6 a7 a8 a9 a10 a11=>q4c n m a1 a2 a3 a4 a5 a6 a7 a8 a9 a10 a11) a1 a2 a3 a4 a5 a6 a7 a8 a9 a10 a11:=rfl
def qnx (n:Nat):LC:={ sh:=q67,outs:=q4a,F:=q1b (qc0 n) n }
def q98 (n:Nat):List LC:=[qnx n]
def q75 (n:Nat) (a1:(List (List UInt8))×(List ((Int)×List UInt8))) (a2:Int×(Int)) (a3:Int) (a4:Int) (a5:Int):Option ((List UInt8)×(Int)) :=
 (qdr n a1 a3).bind fun r1=>(bif !r1.2 then some (([]:List UInt8),(0:Int)) else (bif !decide (r1.1.1=2) then some (([]:List UInt8),(0:Int)) else (bif !decide (r1.1.2.1=a4) then some (([]:List UInt8),(0:Int)) else (bif !decide (r1.1.2.2.1=a5) then some (([]:List UInt8),(0:Int)) else (q4b r1.1.2.2.2.1).bind fun (r2:Int)=>q0n (IntKind.wrap .i64 (a2.1+a2.2)) fun n3=>q0n (IntKind.wrap .i64 (n3 - a3)) fun n4=>q0n (IntKind.wrap .i64 (n4 - (1:Int))) fun n5=>(bif decide (n5<r2) then some (([]:List UInt8),(0:Int)) else (q4c n n a3 r2 (0:Int) a1.1 a1.2 r1.1.1 r1.1.2.1 r1.1.2.2.1 r1.1.2.2.2.1 r1.1.2.2.2.2 []).bind fun o11=>(qfs o11.2.2.1 o11.2.1.1.2.2.2.1).bind fun (r12:(List UInt8)×(Bool))=>(bif !r12.2 then some (([]:List UInt8),(0:Int)) else (q6j r12.1).bind fun (r13:Int)=>(bif !decide (r13=o11.2.1.1.2.2.2.2) then some (([]:List UInt8),(0:Int)) else q0n (IntKind.wrap .i64 ((1:Int)+o11.1.2.1)) fun n14=>some (r12.1,n14))))))))
def q5j (n:Nat):FC:={ f:=101,args:=[.one (.agg [.d (.lst .str),.d (.lst (.prod (.int .i64) .str))]),.one (.agg [.d (.int .i64),.d (.int .i64)]),.one (.c (.d (.int .i64))),.one (.c (.d (.int .i64))),.one (.c (.d (.int .i64)))],res:=.tup [.c (.d .str),.c (.d (.int .i64))],F:=fun p=>q75 n p.1 p.2.1 p.2.2.1 p.2.2.2.1 p.2.2.2.2 }
def qd5 (n:Nat):List FC:=[q7a n,qpr,j36,qvi,qfz]
theorem qdj (n:Nat) {G:World->Prop} (hG:Know Inv G) : ∀c∈qd5 n,q27 Tryz.prog G c/\q0z c.args=true:=List.forall_mem_cons.2 ⟨qyb n G hG,List.forall_mem_cons.2 ⟨j7m G hG,List.forall_mem_cons.2 ⟨jgy G hG,List.forall_mem_cons.2 ⟨jce G hG,List.forall_mem_cons.2 ⟨qou G hG,(fun _ h=>by cases h)⟩⟩⟩⟩⟩
def qcs:q0y:=[(14,[⟨37662610412320084583014736539245998496614132666784207077377*2^60,2^252,0⟩,⟨49*2^252,2^255,1⟩,⟨49*2^255,2^258,3⟩,⟨157479928337381047003112285049433935047175893390713697859534849*2^57,2^261,7⟩,⟨393*2^258,2^264,15⟩,⟨20711979027038479022252934340602831265021736202616794808607848573960195*2^36,2^267,7⟩,⟨84549762741517800226050092689779439246360289552140052872301059692822529*2^37,2^270,39⟩,⟨200769*2^258,2^273,127⟩,⟨1605633*2^258,2^276,255⟩]),(1000014,[])]
theorem qkk:drB qcs (q05 Tryz.f101)=true:=by kernel_rfl
theorem qxj (n:Nat) : ∀rec p,qc0 n rec p=round Tryz.prog 96 (qd5 n) (q98 n) qcs 1 q67 q4a (q0h 0 0 (q05 Tryz.f101)) rec p:=by intro rec p;kernel_rfl
theorem qsi (n:Nat) {F:Fr} (hF:F.n=96) (hK:Know Inv F.G):qae Tryz.prog F (qnx n) (q0h 0 0 (q05 Tryz.f101)) :=
 q1h hF (by kernel_rfl) (qdj n hK) (qxj n) (fuel:=n) (fun _=>rfl) (q0k fun j L h1 h2 h3=>absurd h2 (Nat.not_lt.2 (Nat.le_trans (by decide +kernel) h1))) (q20 qkk)
theorem j0b (n:Nat) : ∀a,(q5j n).F a=main Tryz.prog 96 (qd5 n) (q98 n) qcs (q05 Tryz.f101) [.tmp 10,.tmp 11] (q5j n).args (q5j n).res a:=by intro a;kernel_rfl
theorem j1x (n:Nat):q0v Inv Tryz.prog (q5j n):=fun G hG=>⟨⟨by kernel_rfl,fun a r h=>q0p (c:=q05 Tryz.f101) Tryz.func101 (by kernel_rfl) (by kernel_rfl) (Nat.le_of_ble_eq_true (by kernel_rfl)) hG.st (by kernel_rfl) (rs:=[.tmp 10,.tmp 11]) (by kernel_rfl) (qdj n hG) (lts:=q98 n) (fun F hF hFG=>have hK:Know Inv F.G:=hFG ▸ hG;(q0k (c:=(q05 Tryz.f101)) (fun j L h1 h2 h3=>by
  have h2':j<1:=Nat.lt_of_lt_of_le h2 (by decide +kernel)
  match j,h1,h2',h3 with
  | 0,_,_,h3=>obtain rfl:=Option.some.inj h3;exact (show q0h 0 0 (q05 Tryz.f101)=q0h 0 0 (q05 Tryz.f101) by kernel_rfl) ▸ qsi n hF hK
  | j+1,_,h2',_=>exact absurd h2' (by omega)))) qkk ((j0b n a).symm.trans h)⟩,rfl⟩
@[reducible] def qaj:SSt:=⟨[(2,.one (.c (.box 2 0))),(3,.one (.c (.box 3 0))),(4,.one (.c (.box 4 0))),(10,.one (.c (.box 10 0)))],[(2,(25,[.d (.lst .str),.d (.lst (.prod (.int .i64) .str))])),(3,(93,[.d (.int .i64),.d (.int .i64)])),(4,(85,[.d (.int .i64),.nil,.d (.int .i64)])),(10,(85,[.d (.int .i64),.row 74,.d (.int .i64)]))],[(74,⟨9,true,.str⟩)]⟩
@[reducible] def q5x:List (Exit×SSt):=[(.exit 0,⟨[(4,.one (.c (.box 4 0))),(10,.one (.c (.box 10 0)))],[(4,(85,[.d (.int .i64),.nil,.d (.int .i64)])),(10,(85,[.d (.int .i64),.row 74,.d (.int .i64)]))],[(74,⟨9,true,.str⟩)]⟩)]
def qnd (n:Nat) (rec:(List (List UInt8))->(List ((Int)×List UInt8))->Int->Int->Int->Int->Int->Int->(List (List UInt8))->Option ((Unit×(Unit×Unit))×((Int×(Unit×(Int)))×((Int×(Unit×(Int)))×Unit))×((List (List UInt8))×Unit))) (a1:List (List UInt8)) (a2:List ((Int)×List UInt8)) (a3:Int) (a4:Int) (a5:Int) (a6:Int) (a7:Int) (a8:Int) (a9:List (List UInt8)):Option ((Unit×(Unit×Unit))×((Int×(Unit×(Int)))×((Int×(Unit×(Int)))×Unit))×((List (List UInt8))×Unit)) :=
 q0n (IntKind.wrap .i64 (a3+a4)) fun n5=>(bif decide (a8<n5) then (q75 n (a1,a2) (a3,a4) a8 a7 (a9.length:Int)).bind fun r6=>(bif decide (r6.2=0) then some ((((),((),())),(((a5,((),a6)),((a7,((),a8)),())),(a9,())))) else (q2g 16 a9 ([r6.1]:List (List UInt8))).bind fun l7=>q0n (IntKind.wrap .i64 (a8+r6.2)) fun n8=>rec a1 a2 a3 a4 a5 a6 a7 n8 l7) else some ((((),((),())),(((a5,((),a6)),((a7,((),a8)),())),(a9,())))))
def qma (n:Nat) (rec:pSt qaj->Option (q17 q5x)) (p:pSt qaj):Option (q17 q5x):=qnd n (fun a1 a2 a3 a4 a5 a6 a7 a8 a9=>rec (((),((),((),((),())))),(((a1,a2),((a3,a4),((a5,((),a6)),((a7,((),a8)),())))),(a9,())))) p.2.1.1.1 p.2.1.1.2 p.2.1.2.1.1 p.2.1.2.1.2 p.2.1.2.2.1.1 p.2.1.2.2.1.2.2 p.2.1.2.2.2.1.1 p.2.1.2.2.2.1.2.2 p.2.2.1
def q6c (n m:Nat) (a1:List (List UInt8)) (a2:List ((Int)×List UInt8)) (a3:Int) (a4:Int) (a5:Int) (a6:Int) (a7:Int) (a8:Int) (a9:List (List UInt8)):Option ((Unit×(Unit×Unit))×((Int×(Unit×(Int)))×((Int×(Unit×(Int)))×Unit))×((List (List UInt8))×Unit)):=q1b (qma n) m (((),((),((),((),())))),(((a1,a2),((a3,a4),((a5,((),a6)),((a7,((),a8)),())))),(a9,())))
theorem qgr (n m:Nat) (a1 a2 a3 a4 a5 a6 a7 a8 a9):q6c n (m+1) a1 a2 a3 a4 a5 a6 a7 a8 a9=qnd n (fun a1 a2 a3 a4 a5 a6 a7 a8 a9=>q6c n m a1 a2 a3 a4 a5 a6 a7 a8 a9) a1 a2 a3 a4 a5 a6 a7 a8 a9:=rfl
def qy3 (n:Nat):LC:={ sh:=qaj,outs:=q5x,F:=q1b (qma n) n }
def qhh (n:Nat):List LC:=[qy3 n]
def qf2 (n:Nat) (a1:(List (List UInt8))×(List ((Int)×List UInt8))) (a2:Int×(Int)):Option ((Int×((List (List UInt8))×(Int)))×(Int)) :=
 (qj5 n a1 a2).bind fun r1=>(bif !r1 then some (((0:Int),([],(0:Int))),(1:Int)) else (qdr n a1 a2.1).bind fun r2=>(q4o (1:Int) r2.1.2.1 (0:Int) ([]:List UInt8)).bind fun (r3:(Int×(Int×(Int×(Int×(Int)))))×(Bool))=>(bif !r2.2 then some (((0:Int),([],(0:Int))),(5:Int)) else (bif !(decide (r2.1.1=r3.1.1)&&(decide (r2.1.2.1=r3.1.2.1)&&(decide (r2.1.2.2.1=r3.1.2.2.1)&&(decide (r2.1.2.2.2.1=r3.1.2.2.2.1)&&(decide (r2.1.2.2.2.2=r3.1.2.2.2.2)&&true))))) then some (((0:Int),([],(0:Int))),(5:Int)) else q0n (IntKind.wrap .i64 (a2.1+1)) fun n4=>(q6c n n a1.1 a1.2 a2.1 a2.2 (0:Int) (0:Int) r2.1.2.1 n4 []).bind fun o9=>some ((o9.2.1.2.1.1,(o9.2.2.1,o9.2.1.2.1.2.2)),(0:Int)))))
def q9r (n:Nat):FC:={ f:=65,args:=[.one (.agg [.d (.lst .str),.d (.lst (.prod (.int .i64) .str))]),.one (.agg [.d (.int .i64),.d (.int .i64)])],res:=.tup [.agg [.d (.int .i64),.d (.lst .str),.d (.int .i64)],.c (.d (.int .i64))],F:=fun p=>qf2 n p.1 p.2 }
def qng (n:Nat):List FC:=[q9q n,q7a n,q96,q5j n]
theorem qjz (n:Nat) {G:World->Prop} (hG:Know Inv G) : ∀c∈qng n,q27 Tryz.prog G c/\q0z c.args=true:=List.forall_mem_cons.2 ⟨jhz n G hG,List.forall_mem_cons.2 ⟨qyb n G hG,List.forall_mem_cons.2 ⟨qf5 G hG,List.forall_mem_cons.2 ⟨j1x n G hG,(fun _ h=>by cases h)⟩⟩⟩⟩
def qkp:q0y:=[]
theorem qyg:drB qkp (q05 Tryz.f65)=true:=by kernel_rfl
theorem j8w (n:Nat) : ∀rec p,qma n rec p=round Tryz.prog 83 (qng n) (qhh n) qkp 1 qaj q5x (q0h 0 0 (q05 Tryz.f65)) rec p:=by intro rec p;kernel_rfl
theorem j3b (n:Nat) {F:Fr} (hF:F.n=83) (hK:Know Inv F.G):qae Tryz.prog F (qy3 n) (q0h 0 0 (q05 Tryz.f65)) :=
 q1h hF (by kernel_rfl) (qjz n hK) (j8w n) (fuel:=n) (fun _=>rfl) (q0k fun j L h1 h2 h3=>absurd h2 (Nat.not_lt.2 (Nat.le_trans (by decide +kernel) h1))) (q20 qyg)
theorem je9 (n:Nat) : ∀a,(q9r n).F a=main Tryz.prog 83 (qng n) (qhh n) qkp (q05 Tryz.f65) [.cell 4 85,.tmp 5] (q9r n).args (q9r n).res a:=by intro a;kernel_rfl
theorem jed (n:Nat):q0v Inv Tryz.prog (q9r n):=fun G hG=>⟨⟨by kernel_rfl,fun a r h=>q0p (c:=q05 Tryz.f65) Tryz.func65 (by kernel_rfl) (by kernel_rfl) (Nat.le_of_ble_eq_true (by kernel_rfl)) hG.st (by kernel_rfl) (rs:=[.cell 4 85,.tmp 5]) (by kernel_rfl) (qjz n hG) (lts:=qhh n) (fun F hF hFG=>have hK:Know Inv F.G:=hFG ▸ hG;(q0k (c:=(q05 Tryz.f65)) (fun j L h1 h2 h3=>by
  have h2':j<1:=Nat.lt_of_lt_of_le h2 (by decide +kernel)
  match j,h1,h2',h3 with
  | 0,_,_,h3=>obtain rfl:=Option.some.inj h3;exact (show q0h 0 0 (q05 Tryz.f65)=q0h 0 0 (q05 Tryz.f65) by kernel_rfl) ▸ j3b n hF hK
  | j+1,_,h2',_=>exact absurd h2' (by omega)))) qyg ((je9 n a).symm.trans h)⟩,rfl⟩
def qmo (n:Nat):List LC:=[]
def q9v (n:Nat) (a1:Int×(Int)) (a2:Int):Option ((List ((Bool)×((Int)×List UInt8)))×(Int)) :=
 (qbs n a1).bind fun r1=>(bif !r1 then some ([],(1:Int)) else (bif decide (a2<0) then some ([],(1:Int)) else (bif decide (1073741824<a2) then some ([],(1:Int)) else (q4o (1:Int) a2 (0:Int) ([]:List UInt8)).bind fun (r2:(Int×(Int×(Int×(Int×(Int)))))×(Bool))=>(q6u r2.1).bind fun (r3:(List UInt8)×(Bool))=>some (([(false,(a1.1,r3.1)),(true,((0:Int),([]:List UInt8)))]:List ((Bool)×((Int)×List UInt8))),(0:Int)))))
def q43 (n:Nat):FC:={ f:=44,args:=[.one (.agg [.d (.int .i64),.d (.int .i64)]),.one (.c (.d (.int .i64)))],res:=.tup [.c (.d (.lst (.prod .bool (.prod (.int .i64) .str)))),.c (.d (.int .i64))],F:=fun p=>q9v n p.1 p.2 }
def qqo (n:Nat):List FC:=[q6b n,q96,qf7]
theorem qvk (n:Nat) {G:World->Prop} (hG:Know Inv G) : ∀c∈qqo n,q27 Tryz.prog G c/\q0z c.args=true:=List.forall_mem_cons.2 ⟨qiv n G hG,List.forall_mem_cons.2 ⟨qf5 G hG,List.forall_mem_cons.2 ⟨qo4 G hG,(fun _ h=>by cases h)⟩⟩⟩
def qqh:q0y:=[]
theorem j85:drB qqh (q05 Tryz.f44)=true:=by kernel_rfl
theorem jab (n:Nat) : ∀a,(q43 n).F a=main Tryz.prog 37 (qqo n) (qmo n) qqh (q05 Tryz.f44) [.tmp 4,.tmp 5] (q43 n).args (q43 n).res a:=by intro a;kernel_rfl
theorem qr3 (n:Nat):q0v Inv Tryz.prog (q43 n):=fun G hG=>⟨⟨by kernel_rfl,fun a r h=>q0p (c:=q05 Tryz.f44) Tryz.func44 (by kernel_rfl) (by kernel_rfl) (Nat.le_of_ble_eq_true (by kernel_rfl)) hG.st (by kernel_rfl) (rs:=[.tmp 4,.tmp 5]) (by kernel_rfl) (qvk n hG) (lts:=qmo n) (fun F hF hFG=>have hK:Know Inv F.G:=hFG ▸ hG;(q0k fun j L h1 h2 h3=>absurd h2 (Nat.not_lt.2 (Nat.le_trans (by decide +kernel) h1)))) j85 ((jab n a).symm.trans h)⟩,rfl⟩
@[reducible] def qdl:SSt:=⟨[(2,.one (.c (.d .str))),(4,.one (.c (.box 4 0))),(8,.one (.c (.d (.lst .str)))),(9,.one (.c (.row 86))),(10,.one (.c (.d (.int .i64))))],[(4,(85,[.d (.int .i64),.d (.lst .str),.d (.int .i64)]))],[(86,⟨99,true,(.prod .bool (.prod (.int .i64) .str))⟩)]⟩
@[reducible] def q8c:List (Exit×SSt):=[(.exit 0,⟨[(2,.one (.c (.d .str))),(4,.one (.c (.box 4 0))),(9,.one (.c (.row 86)))],[(4,(85,[.d (.int .i64),.d (.lst .str),.d (.int .i64)]))],[(86,⟨99,true,(.prod .bool (.prod (.int .i64) .str))⟩)]⟩)]
def qu5 (n:Nat) (rec:(List UInt8)->(List (List UInt8))->Int->Int->(List (List UInt8))->Int->(List ((Bool)×((Int)×List UInt8)))->Option (((List UInt8)×(Unit×(Unit×Unit)))×((Int×((List (List UInt8))×(Int)))×Unit)×((List ((Bool)×((Int)×List UInt8)))×Unit))) (a1:List UInt8) (a2:List (List UInt8)) (a3:Int) (a4:Int) (a5:List (List UInt8)) (a6:Int) (a7:List ((Bool)×((Int)×List UInt8))):Option (((List UInt8)×(Unit×(Unit×Unit)))×((Int×((List (List UInt8))×(Int)))×Unit)×((List ((Bool)×((Int)×List UInt8)))×Unit)) :=
 (bif decide (a3<(a2.length:Int)) then q0n (IntKind.wrap .i64 (a6+1)) fun n7=>q0n (IntKind.wrap .i64 (n7+a3)) fun n8=>(q1f a2 a3).bind fun x9=>(q2g 32 a7 ([(false,(n8,x9))]:List ((Bool)×((Int)×List UInt8)))).bind fun l10=>q0n (IntKind.wrap .i64 (a3+1)) fun n11=>rec a1 a2 n11 a4 a5 a6 l10 else some (((a1,((),((),()))),(((a4,(a5,a6)),()),(a7,())))))
def qtg (n:Nat) (rec:pSt qdl->Option (q17 q8c)) (p:pSt qdl):Option (q17 q8c):=qu5 n (fun a1 a2 a3 a4 a5 a6 a7=>rec ((a1,((),(a2,((),(a3,()))))),(((a4,(a5,a6)),()),(a7,())))) p.1.1 p.1.2.2.1 p.1.2.2.2.2.1 p.2.1.1.1 p.2.1.1.2.1 p.2.1.1.2.2 p.2.2.1
def q5f (n m:Nat) (a1:List UInt8) (a2:List (List UInt8)) (a3:Int) (a4:Int) (a5:List (List UInt8)) (a6:Int) (a7:List ((Bool)×((Int)×List UInt8))):Option (((List UInt8)×(Unit×(Unit×Unit)))×((Int×((List (List UInt8))×(Int)))×Unit)×((List ((Bool)×((Int)×List UInt8)))×Unit)):=q1b (qtg n) m ((a1,((),(a2,((),(a3,()))))),(((a4,(a5,a6)),()),(a7,())))
theorem qik (n m:Nat) (a1 a2 a3 a4 a5 a6 a7):q5f n (m+1) a1 a2 a3 a4 a5 a6 a7=qu5 n (fun a1 a2 a3 a4 a5 a6 a7=>q5f n m a1 a2 a3 a4 a5 a6 a7) a1 a2 a3 a4 a5 a6 a7:=rfl
def j3u (n:Nat):LC:={ sh:=qdl,outs:=q8c,F:=q1b (qtg n) n }
def ql1 (n:Nat):List LC:=[j3u n]
def qrb (n:Nat) (a1:Int×(Int)) (a2:Int×((List (List UInt8))×(Int))) (a3:List UInt8):Option ((List ((Bool)×((Int)×List UInt8)))×(Int)) :=
 (qbs n a1).bind fun r1=>(bif !r1 then some ([],(1:Int)) else (bif decide (a2.1<0) then some ([],(1:Int)) else (bif decide (1073741824<a2.1) then some ([],(1:Int)) else (bif decide (a2.2.2<=a1.1) then some ([],(1:Int)) else q0n (IntKind.wrap .i64 (a1.1+a1.2)) fun n2=>(bif decide (n2<a2.2.2) then some ([],(1:Int)) else (bif decide (65535<(a2.2.1.length:Int)) then some ([],(1:Int)) else (bif decide (4096<(a3.length:Int)) then some ([],(2:Int)) else (qnc n a3).bind fun r3=>q0n (IntKind.wrap .i64 ((1:Int)+(r3.length:Int))) fun (n4:Int)=>q0n (IntKind.wrap .i64 (a1.1+a1.2)) fun n5=>q0n (IntKind.wrap .i64 (n5 - a2.2.2)) fun n6=>(bif decide (n6<n4) then some ([],(3:Int)) else (q5f n n a3 r3 (0:Int) a2.1 a2.2.1 a2.2.2 []).bind fun o12=>(q4o (2:Int) o12.2.1.1.1 (o12.2.1.1.2.1.length:Int) o12.1.1).bind fun (r13:(Int×(Int×(Int×(Int×(Int)))))×(Bool))=>(q6u r13.1).bind fun (r14:(List UInt8)×(Bool))=>(q2g 32 o12.2.2.1 ([(true,((0:Int),([]:List UInt8)))]:List ((Bool)×((Int)×List UInt8)))).bind fun l15=>(q2g 32 l15 ([(false,(o12.2.1.1.2.2,r14.1))]:List ((Bool)×((Int)×List UInt8)))).bind fun l16=>(q2g 32 l16 ([(true,((0:Int),([]:List UInt8)))]:List ((Bool)×((Int)×List UInt8)))).bind fun l17=>some (l17,(0:Int))))))))))
def qf4 (n:Nat):FC:={ f:=42,args:=[.one (.agg [.d (.int .i64),.d (.int .i64)]),.one (.agg [.d (.int .i64),.d (.lst .str),.d (.int .i64)]),.one (.c (.d .str))],res:=.tup [.c (.d (.lst (.prod .bool (.prod (.int .i64) .str)))),.c (.d (.int .i64))],F:=fun p=>qrb n p.1 p.2.1 p.2.2 }
def qsx (n:Nat):List FC:=[q6b n,qad n,q96,qf7]
theorem qq5 (n:Nat) {G:World->Prop} (hG:Know Inv G) : ∀c∈qsx n,q27 Tryz.prog G c/\q0z c.args=true:=List.forall_mem_cons.2 ⟨qiv n G hG,List.forall_mem_cons.2 ⟨j46 n G hG,List.forall_mem_cons.2 ⟨qf5 G hG,List.forall_mem_cons.2 ⟨qo4 G hG,(fun _ h=>by cases h)⟩⟩⟩⟩
def qs8:q0y:=[(12,[⟨13803492693882428458168072401218168797216185932313686171659322104217601*2^27,2^222,0⟩,⟨323519360005807677536004181044235568083645733070486869773243323002880,2^225,0⟩,⟨2642074773380762699877367478527923806016440153408976103148153804431360,2^228,2⟩,⟨49*2^228,2^231,6⟩,⟨154266052248863066452028360864751609842131487403148112188932097*2^30,2^234,0⟩,⟨393*2^231,2^237,30⟩,⟨631873750011343120187508166102022593913370572403294667525865865217*2^24,2^240,0⟩,⟨78984218751417890023438520762752824239171321550411833440733233153*2^30,2^243,0⟩,⟨393*2^240,2^246,192⟩,⟨49*2^246,2^249,448⟩,⟨200705*2^237,2^252,1022⟩,⟨49*2^252,5*2^255,2046⟩,⟨455266533377*2^222,5*2^258,4095⟩,⟨8627182933488204734293444827846281815563886215212983193953155279749123*2^28,2^27,8191⟩])]
theorem j44:drB qs8 (q05 Tryz.f42)=true:=by kernel_rfl
theorem jf9 (n:Nat) : ∀rec p,qtg n rec p=round Tryz.prog 118 (qsx n) (ql1 n) qs8 1 qdl q8c (q0h 0 0 (q05 Tryz.f42)) rec p:=by intro rec p;kernel_rfl
theorem j8b (n:Nat) {F:Fr} (hF:F.n=118) (hK:Know Inv F.G):qae Tryz.prog F (j3u n) (q0h 0 0 (q05 Tryz.f42)) :=
 q1h hF (by kernel_rfl) (qq5 n hK) (jf9 n) (fuel:=n) (fun _=>rfl) (q0k fun j L h1 h2 h3=>absurd h2 (Nat.not_lt.2 (Nat.le_trans (by decide +kernel) h1))) (q20 j44)
theorem jj7 (n:Nat) : ∀a,(qf4 n).F a=main Tryz.prog 118 (qsx n) (ql1 n) qs8 (q05 Tryz.f42) [.tmp 6,.tmp 7] (qf4 n).args (qf4 n).res a:=by intro a;kernel_rfl
theorem jji (n:Nat):q0v Inv Tryz.prog (qf4 n):=fun G hG=>⟨⟨by kernel_rfl,fun a r h=>q0p (c:=q05 Tryz.f42) Tryz.func42 (by kernel_rfl) (by kernel_rfl) (Nat.le_of_ble_eq_true (by kernel_rfl)) hG.st (by kernel_rfl) (rs:=[.tmp 6,.tmp 7]) (by kernel_rfl) (qq5 n hG) (lts:=ql1 n) (fun F hF hFG=>have hK:Know Inv F.G:=hFG ▸ hG;(q0k (c:=(q05 Tryz.f42)) (fun j L h1 h2 h3=>by
  have h2':j<1:=Nat.lt_of_lt_of_le h2 (by decide +kernel)
  match j,h1,h2',h3 with
  | 0,_,_,h3=>obtain rfl:=Option.some.inj h3;exact (show q0h 0 0 (q05 Tryz.f42)=q0h 0 0 (q05 Tryz.f42) by kernel_rfl) ▸ j8b n hF hK
  | j+1,_,h2',_=>exact absurd h2' (by omega)))) j44 ((jj7 n a).symm.trans h)⟩,rfl⟩
@[reducible] def qav:SSt:=⟨[(0,.one (.c (.d (.lst (.prod .bool (.prod (.int .i64) .str)))))),(1,.one (.c (.d (.lst (.prod .bool (.prod (.int .i64) .str)))))),(5,.one (.c (.d (.int .i64))))],[],[]⟩
@[reducible] def q6k:List (Exit×SSt):=[(.ret,⟨[(4,.one (.c (.d .bool)))],[],[]⟩),(.exit 0,⟨[],[],[]⟩)]
def qls (n:Nat) (rec:(List ((Bool)×((Int)×List UInt8)))->(List ((Bool)×((Int)×List UInt8)))->Int->Option (((Bool×Unit)×Unit×Unit)⊕(Unit×Unit×Unit))) (a1:List ((Bool)×((Int)×List UInt8))) (a2:List ((Bool)×((Int)×List UInt8))) (a3:Int):Option (((Bool×Unit)×Unit×Unit)⊕(Unit×Unit×Unit)) :=
 (bif decide (a3<(a1.length:Int)) then (q1f a1 a3).bind fun x1=>(q1f a2 a3).bind fun x2=>(bif !(decide (x1.1=x2.1)&&(decide (x1.2.1=x2.2.1)&&(decide (x1.2.2=x2.2.2)&&true))) then some (Sum.inl ((false,()),((),()))) else q0n (IntKind.wrap .i64 (a3+1)) fun n3=>rec a1 a2 n3) else some (Sum.inr (((),((),())))))
def qn3 (n:Nat) (rec:pSt qav->Option (q17 q6k)) (p:pSt qav):Option (q17 q6k):=qls n (fun a1 a2 a3=>rec ((a1,(a2,(a3,()))),((),()))) p.1.1 p.1.2.1 p.1.2.2.1
def q66 (n m:Nat) (a1:List ((Bool)×((Int)×List UInt8))) (a2:List ((Bool)×((Int)×List UInt8))) (a3:Int):Option (((Bool×Unit)×Unit×Unit)⊕(Unit×Unit×Unit)):=q1b (qn3 n) m ((a1,(a2,(a3,()))),((),()))
theorem qgd (n m:Nat) (a1 a2 a3):q66 n (m+1) a1 a2 a3=qls n (fun a1 a2 a3=>q66 n m a1 a2 a3) a1 a2 a3:=rfl
def qxn (n:Nat):LC:={ sh:=qav,outs:=q6k,F:=q1b (qn3 n) n }
def qgn (n:Nat):List LC:=[qxn n]
def qdk (n:Nat) (a1:List ((Bool)×((Int)×List UInt8))) (a2:List ((Bool)×((Int)×List UInt8))):Option (Bool) :=
 (bif !decide ((a1.length:Int)=(a2.length:Int)) then some false else (q66 n n a1 a2 (0:Int)).bind fun o4=>Sum.elim (fun (q5:(Bool×Unit)×Unit×Unit)=>some q5.1.1) (fun (q6:(Unit)×Unit×Unit)=>some true) o4)
def q90 (n:Nat):FC:={ f:=18,args:=[.one (.c (.d (.lst (.prod .bool (.prod (.int .i64) .str))))),.one (.c (.d (.lst (.prod .bool (.prod (.int .i64) .str)))))],res:=.one (.c (.d .bool)),F:=fun p=>qdk n p.1 p.2 }
def qld (n:Nat):List FC:=[]
theorem qjx (n:Nat) {G:World->Prop} (hG:Know Inv G) : ∀c∈qld n,q27 Tryz.prog G c/\q0z c.args=true:=(fun _ h=>by cases h)
def qkh:q0y:=[(6,[⟨13510798882111489,2^51,0⟩,⟨108086391056924672,2^54,0⟩,⟨393*2^51,2^57,3⟩,⟨49*2^57,2^60,7⟩,⟨55340232221128654856,2^63,0⟩,⟨442721857769029271552,2^66,0⟩,⟨393*2^63,2^69,48⟩,⟨49*2^69,2^72,112⟩,⟨200705*2^60,2^75,255⟩])]
theorem qvn:drB qkh (q05 Tryz.f18)=true:=by kernel_rfl
theorem j9h (n:Nat) : ∀rec p,qn3 n rec p=round Tryz.prog 26 (qld n) (qgn n) qkh 1 qav q6k (q0h 0 0 (q05 Tryz.f18)) rec p:=by intro rec p;kernel_rfl
theorem j1r (n:Nat) {F:Fr} (hF:F.n=26) (hK:Know Inv F.G):qae Tryz.prog F (qxn n) (q0h 0 0 (q05 Tryz.f18)) :=
 q1h hF (by kernel_rfl) (qjx n hK) (j9h n) (fuel:=n) (fun _=>rfl) (q0k fun j L h1 h2 h3=>absurd h2 (Nat.not_lt.2 (Nat.le_trans (by decide +kernel) h1))) (q20 qvn)
theorem jg9 (n:Nat) : ∀a,(q90 n).F a=main Tryz.prog 26 (qld n) (qgn n) qkh (q05 Tryz.f18) [.tmp 4] (q90 n).args (q90 n).res a:=by intro a;kernel_rfl
theorem jfw (n:Nat):q0v Inv Tryz.prog (q90 n):=fun G hG=>⟨⟨by kernel_rfl,fun a r h=>q0p (c:=q05 Tryz.f18) Tryz.func18 (by kernel_rfl) (by kernel_rfl) (Nat.le_of_ble_eq_true (by kernel_rfl)) hG.st (by kernel_rfl) (rs:=[.tmp 4]) (by kernel_rfl) (qjx n hG) (lts:=qgn n) (fun F hF hFG=>have hK:Know Inv F.G:=hFG ▸ hG;(q0k (c:=(q05 Tryz.f18)) (fun j L h1 h2 h3=>by
  have h2':j<1:=Nat.lt_of_lt_of_le h2 (by decide +kernel)
  match j,h1,h2',h3 with
  | 0,_,_,h3=>obtain rfl:=Option.some.inj h3;exact (show q0h 0 0 (q05 Tryz.f18)=q0h 0 0 (q05 Tryz.f18) by kernel_rfl) ▸ j1r n hF hK
  | j+1,_,h2',_=>exact absurd h2' (by omega)))) qvn ((jg9 n a).symm.trans h)⟩,rfl⟩
def qq7 (n:Nat):List LC:=[]
def q55 (n:Nat) (a1:Int) (a2:Int):Option (Int×(Int)) :=
 (bif decide (a2=0) then (qo9 .i64 a1 (2:Int)).bind fun n1=>some ((0:Int),n1) else (qo9 .i64 a1 (2:Int)).bind fun n2=>(qo9 .i64 a1 (2:Int)).bind fun n3=>q0n (IntKind.wrap .i64 (a1 - n3)) fun n4=>some (n2,n4))
def q2u (n:Nat):FC:={ f:=43,args:=[.one (.c (.d (.int .i64))),.one (.c (.d (.int .i64)))],res:=.one (.agg [.d (.int .i64),.d (.int .i64)]),F:=fun p=>q55 n p.1 p.2 }
def qw0 (n:Nat):List FC:=[]
theorem j1q (n:Nat) {G:World->Prop} (hG:Know Inv G) : ∀c∈qw0 n,q27 Tryz.prog G c/\q0z c.args=true:=(fun _ h=>by cases h)
def qxr:q0y:=[]
theorem jh6:drB qxr (q05 Tryz.f43)=true:=by kernel_rfl
theorem jc6 (n:Nat) : ∀a,(q2u n).F a=main Tryz.prog 17 (qw0 n) (qq7 n) qxr (q05 Tryz.f43) [.cell 4 93] (q2u n).args (q2u n).res a:=by intro a;kernel_rfl
theorem qe5 (n:Nat):q0v Inv Tryz.prog (q2u n):=fun G hG=>⟨⟨by kernel_rfl,fun a r h=>q0p (c:=q05 Tryz.f43) Tryz.func43 (by kernel_rfl) (by kernel_rfl) (Nat.le_of_ble_eq_true (by kernel_rfl)) hG.st (by kernel_rfl) (rs:=[.cell 4 93]) (by kernel_rfl) (j1q n hG) (lts:=qq7 n) (fun F hF hFG=>have hK:Know Inv F.G:=hFG ▸ hG;(q0k fun j L h1 h2 h3=>absurd h2 (Nat.not_lt.2 (Nat.le_trans (by decide +kernel) h1)))) jh6 ((jc6 n a).symm.trans h)⟩,rfl⟩
def qhu (n:Nat):List LC:=[]
def qba (n:Nat) (a1:Int):Option ((List ((Bool)×((Int)×List UInt8)))×(Int)) :=
 (bif decide (a1<8) then some ([],(1:Int)) else (bif decide (512<a1) then some ([],(1:Int)) else ((q2u n).F (a1,(0:Int))).bind fun (r1:Int×(Int))=>((q43 n).F (r1,(1:Int))).bind fun (r2:(List ((Bool)×((Int)×List UInt8)))×(Int))=>some r2))
def q5i (n:Nat):FC:={ f:=16,args:=[.one (.c (.d (.int .i64)))],res:=.tup [.c (.d (.lst (.prod .bool (.prod (.int .i64) .str)))),.c (.d (.int .i64))],F:=fun p=>qba n p }
def qo6 (n:Nat):List FC:=[q2u n,q43 n]
theorem qs1 (n:Nat) {G:World->Prop} (hG:Know Inv G) : ∀c∈qo6 n,q27 Tryz.prog G c/\q0z c.args=true:=List.forall_mem_cons.2 ⟨qe5 n G hG,List.forall_mem_cons.2 ⟨qr3 n G hG,(fun _ h=>by cases h)⟩⟩
def ql7:q0y:=[]
theorem j0m:drB ql7 (q05 Tryz.f16)=true:=by kernel_rfl
theorem j39 (n:Nat) : ∀a,(q5i n).F a=main Tryz.prog 15 (qo6 n) (qhu n) ql7 (q05 Tryz.f16) [.tmp 2,.tmp 3] (q5i n).args (q5i n).res a:=by intro a;kernel_rfl
theorem j2x (n:Nat):q0v Inv Tryz.prog (q5i n):=fun G hG=>⟨⟨by kernel_rfl,fun a r h=>q0p (c:=q05 Tryz.f16) Tryz.func16 (by kernel_rfl) (by kernel_rfl) (Nat.le_of_ble_eq_true (by kernel_rfl)) hG.st (by kernel_rfl) (rs:=[.tmp 2,.tmp 3]) (by kernel_rfl) (qs1 n hG) (lts:=qhu n) (fun F hF hFG=>have hK:Know Inv F.G:=hFG ▸ hG;(q0k fun j L h1 h2 h3=>absurd h2 (Nat.not_lt.2 (Nat.le_trans (by decide +kernel) h1)))) j0m ((j39 n a).symm.trans h)⟩,rfl⟩
def qhr (n:Nat):List LC:=[]
def q79 (n:Nat) (a1:(List (List UInt8))×(List ((Int)×List UInt8))):Option (Int×(Int×((List (List UInt8))×(Int)))) :=
 ((q2u n).F ((a1.1.length:Int),(0:Int))).bind fun (r1:Int×(Int))=>(qf2 n a1 r1).bind fun r2=>((q2u n).F ((a1.1.length:Int),(1:Int))).bind fun (r3:Int×(Int))=>(qf2 n a1 r3).bind fun r4=>(bif !decide (r2.2=0) then (bif !decide (r4.2=0) then some ((-1:Int),r2.1) else (bif !decide (r2.2=0) then some ((1:Int),r4.1) else (bif decide (r4.2=0) then (bif decide (r2.1.1<r4.1.1) then some ((1:Int),r4.1) else some ((0:Int),r2.1)) else some ((0:Int),r2.1)))) else (bif !decide (r2.2=0) then some ((1:Int),r4.1) else (bif decide (r4.2=0) then (bif decide (r2.1.1<r4.1.1) then some ((1:Int),r4.1) else some ((0:Int),r2.1)) else some ((0:Int),r2.1))))
def q3y (n:Nat):FC:={ f:=36,args:=[.one (.agg [.d (.lst .str),.d (.lst (.prod (.int .i64) .str))])],res:=.tup [.c (.d (.int .i64)),.agg [.d (.int .i64),.d (.lst .str),.d (.int .i64)]],F:=fun p=>q79 n p }
def qln (n:Nat):List FC:=[q2u n,q9r n]
theorem qu8 (n:Nat) {G:World->Prop} (hG:Know Inv G) : ∀c∈qln n,q27 Tryz.prog G c/\q0z c.args=true:=List.forall_mem_cons.2 ⟨qe5 n G hG,List.forall_mem_cons.2 ⟨jed n G hG,(fun _ h=>by cases h)⟩⟩
def qme:q0y:=[(1,[⟨805306392,2^27,0⟩,⟨6442450968,2^30,0⟩,⟨52613349392,2^33,2⟩,⟨49*2^33,2^36,6⟩,⟨49*2^36,2^39,14⟩,⟨200705*2^27,2^42,31⟩,⟨131075*2^25,2^24,63⟩,⟨12582913*2^24,2^45,127⟩,⟨100663297*2^24,2^48,127⟩,⟨24576,12288,0⟩,⟨35184372101120,8192,767⟩,⟨281474976907264,32768,2047⟩]),(2,[⟨108086391056891928,2^54,0⟩,⟨864691128455135256,2^57,0⟩,⟨7061644215716937744,2^60,2⟩,⟨49*2^60,2^63,6⟩,⟨49*2^63,2^66,14⟩,⟨200705*2^54,2^69,31⟩,⟨131075*2^52,2^51,63⟩,⟨12582913*2^51,2^72,127⟩,⟨100663297*2^51,2^75,127⟩,⟨3*2^19,786432,0⟩,⟨4722366482869646000128,2^19,767⟩,⟨9007199254740995*2^22,2^21,2047⟩]),(4,[⟨475368975085586025561263714304,2^96,0⟩,⟨384,64,0⟩,⟨79228162514264337593543951872,1024,3⟩]),(6,[⟨7975367974709495237422842361682067459*2^18,2^138,0⟩,⟨384,64,0⟩,⟨348449143727040986586495598010130648532480,1024,3⟩]),(7,[⟨16725558898897967356151788704486271129497600,2^141,0⟩,⟨384,64,0⟩,⟨2787593149816327892691964784081045188249088,1024,3⟩])]
theorem j0w:drB qme (q05 Tryz.f36)=true:=by kernel_rfl
theorem j1h (n:Nat) : ∀a,(q3y n).F a=main Tryz.prog 48 (qln n) (qhr n) qme (q05 Tryz.f36) [.tmp 2,.cell 3 85] (q3y n).args (q3y n).res a:=by intro a;kernel_rfl
theorem qlx (n:Nat):q0v Inv Tryz.prog (q3y n):=fun G hG=>⟨⟨by kernel_rfl,fun a r h=>q0p (c:=q05 Tryz.f36) Tryz.func36 (by kernel_rfl) (by kernel_rfl) (Nat.le_of_ble_eq_true (by kernel_rfl)) hG.st (by kernel_rfl) (rs:=[.tmp 2,.cell 3 85]) (by kernel_rfl) (qu8 n hG) (lts:=qhr n) (fun F hF hFG=>have hK:Know Inv F.G:=hFG ▸ hG;(q0k fun j L h1 h2 h3=>absurd h2 (Nat.not_lt.2 (Nat.le_trans (by decide +kernel) h1)))) j0w ((j1h n a).symm.trans h)⟩,rfl⟩
@[reducible] def q8h:SSt:=⟨[(2,.one (.c (.box 2 0))),(5,.one (.c (.box 5 0))),(6,.one (.c (.box 6 0))),(7,.one (.c (.d (.int .i64))))],[(2,(36,[.d (.int .i64),.d (.int .i64),.d (.int .i64),.d (.int .i64),.nil])),(5,(85,[.d (.int .i64),.d (.lst .str),.d (.int .i64)])),(6,(36,[.d (.int .i64),.d (.int .i64),.d (.int .i64),.d (.int .i64),.d (.lst (.prod .str .str))]))],[]⟩
@[reducible] def q4t:List (Exit×SSt):=[(.ret,⟨[(2,.one (.c (.box 2 0))),(3,.one (.c (.d (.int .i64))))],[(2,(36,[.d (.int .i64),.d (.int .i64),.d (.int .i64),.d (.int .i64),.nil]))],[]⟩),(.exit 0,⟨[(2,.one (.c (.box 2 0))),(6,.one (.c (.box 6 0)))],[(2,(36,[.d (.int .i64),.d (.int .i64),.d (.int .i64),.d (.int .i64),.nil])),(6,(36,[.d (.int .i64),.d (.int .i64),.d (.int .i64),.d (.int .i64),.d (.lst (.prod .str .str))]))],[]⟩)]
def qh6 (n:Nat) (rec:Int->Int->Int->Int->Int->Int->(List (List UInt8))->Int->Int->Int->Int->Int->(List (List UInt8×List UInt8))->Option (((Unit×(Int×Unit))×((Int×(Int×(Int×(Int×Unit))))×Unit)×Unit)⊕((Unit×(Unit×Unit))×((Int×(Int×(Int×(Int×Unit))))×((Int×(Int×(Int×(Int×(List (List UInt8×List UInt8))))))×Unit))×Unit))) (a1:Int) (a2:Int) (a3:Int) (a4:Int) (a5:Int) (a6:Int) (a7:List (List UInt8)) (a8:Int) (a9:Int) (a10:Int) (a11:Int) (a12:Int) (a13:List (List UInt8×List UInt8)):Option (((Unit×(Int×Unit))×((Int×(Int×(Int×(Int×Unit))))×Unit)×Unit)⊕((Unit×(Unit×Unit))×((Int×(Int×(Int×(Int×Unit))))×((Int×(Int×(Int×(Int×(List (List UInt8×List UInt8))))))×Unit))×Unit)) :=
 (bif decide (a1<(a7.length:Int)) then (q1f a7 a1).bind fun x3=>(qbe n x3).bind fun r4=>(q5k n a13 r4.1).bind fun r5=>(bif !decide (r4.2=0) then some (Sum.inl (((),((4:Int),())),((((0:Int),((0:Int),((0:Int),((0:Int),())))),()),()))) else (bif !decide (r5.2=0) then some (Sum.inl (((),((4:Int),())),((((0:Int),((0:Int),((0:Int),((0:Int),())))),()),()))) else q0n (IntKind.wrap .i64 (a1+1)) fun n6=>rec n6 a2 a3 a4 a5 a6 a7 a8 a9 a10 a11 a12 r5.1)) else some (Sum.inr ((((),((),())),(((a2,(a3,(a4,(a5,())))),((a9,(a10,(a11,(a12,a13)))),())),())))))
def qgu (n:Nat) (rec:pSt q8h->Option (q17 q4t)) (p:pSt q8h):Option (q17 q4t):=qh6 n (fun a1 a2 a3 a4 a5 a6 a7 a8 a9 a10 a11 a12 a13=>rec (((),((),((),(a1,())))),(((a2,(a3,(a4,(a5,())))),((a6,(a7,a8)),((a9,(a10,(a11,(a12,a13)))),()))),()))) p.1.2.2.2.1 p.2.1.1.1 p.2.1.1.2.1 p.2.1.1.2.2.1 p.2.1.1.2.2.2.1 p.2.1.2.1.1 p.2.1.2.1.2.1 p.2.1.2.1.2.2 p.2.1.2.2.1.1 p.2.1.2.2.1.2.1 p.2.1.2.2.1.2.2.1 p.2.1.2.2.1.2.2.2.1 p.2.1.2.2.1.2.2.2.2
def q3j (n m:Nat) (a1:Int) (a2:Int) (a3:Int) (a4:Int) (a5:Int) (a6:Int) (a7:List (List UInt8)) (a8:Int) (a9:Int) (a10:Int) (a11:Int) (a12:Int) (a13:List (List UInt8×List UInt8)):Option (((Unit×(Int×Unit))×((Int×(Int×(Int×(Int×Unit))))×Unit)×Unit)⊕((Unit×(Unit×Unit))×((Int×(Int×(Int×(Int×Unit))))×((Int×(Int×(Int×(Int×(List (List UInt8×List UInt8))))))×Unit))×Unit)):=q1b (qgu n) m (((),((),((),(a1,())))),(((a2,(a3,(a4,(a5,())))),((a6,(a7,a8)),((a9,(a10,(a11,(a12,a13)))),()))),()))
theorem qey (n m:Nat) (a1 a2 a3 a4 a5 a6 a7 a8 a9 a10 a11 a12 a13):q3j n (m+1) a1 a2 a3 a4 a5 a6 a7 a8 a9 a10 a11 a12 a13=qh6 n (fun a1 a2 a3 a4 a5 a6 a7 a8 a9 a10 a11 a12 a13=>q3j n m a1 a2 a3 a4 a5 a6 a7 a8 a9 a10 a11 a12 a13) a1 a2 a3 a4 a5 a6 a7 a8 a9 a10 a11 a12 a13:=rfl
def qqn (n:Nat):LC:={ sh:=q8h,outs:=q4t,F:=q1b (qgu n) n }
def qbx (n:Nat):List LC:=[qqn n]
def q7j (n:Nat) (a1:(List (List UInt8))×(List ((Int)×List UInt8))):Option ((Int×(Int×(Int×(Int×(List (List UInt8×List UInt8))))))×(Int)) :=
 (qzi a1).bind fun (r1:Bool)=>(bif !r1 then some (((0:Int),((0:Int),((0:Int),((0:Int),[])))),(1:Int)) else (bif decide ((a1.1.length:Int)<8) then some (((0:Int),((0:Int),((0:Int),((0:Int),[])))),(1:Int)) else (q79 n a1).bind fun r2=>(bif decide (r2.1<0) then some (((0:Int),((0:Int),((0:Int),((0:Int),[])))),(5:Int)) else (q3j n n (0:Int) (0:Int) (0:Int) (0:Int) (0:Int) r2.2.1 r2.2.2.1 r2.2.2.2 r2.1 r2.2.1 (r2.2.2.1.length:Int) r2.2.2.2 []).bind fun o7=>Sum.elim (fun (q8:(Unit×(Int×Unit))×((Int×(Int×(Int×(Int×Unit))))×Unit)×Unit)=>some ((q8.2.1.1.1,(q8.2.1.1.2.1,(q8.2.1.1.2.2.1,(q8.2.1.1.2.2.2.1,[])))),q8.1.2.1)) (fun (q9:(Unit×(Unit×Unit))×((Int×(Int×(Int×(Int×Unit))))×((Int×(Int×(Int×(Int×(List (List UInt8×List UInt8))))))×Unit))×Unit)=>some (q9.2.1.2.1,(0:Int))) o7)))
def q3z (n:Nat):FC:={ f:=12,args:=[.one (.agg [.d (.lst .str),.d (.lst (.prod (.int .i64) .str))])],res:=.tup [.agg [.d (.int .i64),.d (.int .i64),.d (.int .i64),.d (.int .i64),.d (.lst (.prod .str .str))],.c (.d (.int .i64))],F:=fun p=>q7j n p }
def qg5 (n:Nat):List FC:=[j2e,q3y n,q5s n,q57 n]
theorem qi3 (n:Nat) {G:World->Prop} (hG:Know Inv G) : ∀c∈qg5 n,q27 Tryz.prog G c/\q0z c.args=true:=List.forall_mem_cons.2 ⟨jgp G hG,List.forall_mem_cons.2 ⟨qlx n G hG,List.forall_mem_cons.2 ⟨j0f n G hG,List.forall_mem_cons.2 ⟨qqk n G hG,(fun _ h=>by cases h)⟩⟩⟩⟩
def qfm:q0y:=[]
theorem qpc:drB qfm (q05 Tryz.f12)=true:=by kernel_rfl
theorem j3f (n:Nat) : ∀rec p,qgu n rec p=round Tryz.prog 72 (qg5 n) (qbx n) qfm 1 q8h q4t (q0h 0 0 (q05 Tryz.f12)) rec p:=by intro rec p;kernel_rfl
theorem qwo (n:Nat) {F:Fr} (hF:F.n=72) (hK:Know Inv F.G):qae Tryz.prog F (qqn n) (q0h 0 0 (q05 Tryz.f12)) :=
 q1h hF (by kernel_rfl) (qi3 n hK) (j3f n) (fuel:=n) (fun _=>rfl) (q0k fun j L h1 h2 h3=>absurd h2 (Nat.not_lt.2 (Nat.le_trans (by decide +kernel) h1))) (q20 qpc)
theorem j9q (n:Nat) : ∀a,(q3z n).F a=main Tryz.prog 72 (qg5 n) (qbx n) qfm (q05 Tryz.f12) [.cell 2 36,.tmp 3] (q3z n).args (q3z n).res a:=by intro a;kernel_rfl
theorem qfv (n:Nat):q0v Inv Tryz.prog (q3z n):=fun G hG=>⟨⟨by kernel_rfl,fun a r h=>q0p (c:=q05 Tryz.f12) Tryz.func12 (by kernel_rfl) (by kernel_rfl) (Nat.le_of_ble_eq_true (by kernel_rfl)) hG.st (by kernel_rfl) (rs:=[.cell 2 36,.tmp 3]) (by kernel_rfl) (qi3 n hG) (lts:=qbx n) (fun F hF hFG=>have hK:Know Inv F.G:=hFG ▸ hG;(q0k (c:=(q05 Tryz.f12)) (fun j L h1 h2 h3=>by
  have h2':j<1:=Nat.lt_of_lt_of_le h2 (by decide +kernel)
  match j,h1,h2',h3 with
  | 0,_,_,h3=>obtain rfl:=Option.some.inj h3;exact (show q0h 0 0 (q05 Tryz.f12)=q0h 0 0 (q05 Tryz.f12) by kernel_rfl) ▸ qwo n hF hK
  | j+1,_,h2',_=>exact absurd h2' (by omega)))) qpc ((j9q n a).symm.trans h)⟩,rfl⟩
def qq1 (n:Nat):List LC:=[]
def qjk (n:Nat) (a1:(List (List UInt8))×(List ((Int)×List UInt8))):Option (Int) :=
 (q7j n a1).bind fun r1=>(bif !decide (r1.2=0) then some (0:Int) else (q55 n (a1.1.length:Int) r1.1.1).bind fun r2=>q0n (IntKind.wrap .i64 (r2.1+r2.2)) fun n3=>q0n (IntKind.wrap .i64 (n3 - r1.1.2.2.2.1)) fun n4=>some n4)
def q9m (n:Nat):FC:={ f:=20,args:=[.one (.agg [.d (.lst .str),.d (.lst (.prod (.int .i64) .str))])],res:=.one (.c (.d (.int .i64))),F:=fun p=>qjk n p }
def qxw (n:Nat):List FC:=[q3z n,q2u n]
theorem j1m (n:Nat) {G:World->Prop} (hG:Know Inv G) : ∀c∈qxw n,q27 Tryz.prog G c/\q0z c.args=true:=List.forall_mem_cons.2 ⟨qfv n G hG,List.forall_mem_cons.2 ⟨qe5 n G hG,(fun _ h=>by cases h)⟩⟩
def qxb:q0y:=[]
theorem jgu:drB qxb (q05 Tryz.f20)=true:=by kernel_rfl
theorem ji2 (n:Nat) : ∀a,(q9m n).F a=main Tryz.prog 27 (qxw n) (qq1 n) qxb (q05 Tryz.f20) [.tmp 2] (q9m n).args (q9m n).res a:=by intro a;kernel_rfl
theorem jeg (n:Nat):q0v Inv Tryz.prog (q9m n):=fun G hG=>⟨⟨by kernel_rfl,fun a r h=>q0p (c:=q05 Tryz.f20) Tryz.func20 (by kernel_rfl) (by kernel_rfl) (Nat.le_of_ble_eq_true (by kernel_rfl)) hG.st (by kernel_rfl) (rs:=[.tmp 2]) (by kernel_rfl) (j1m n hG) (lts:=qq1 n) (fun F hF hFG=>have hK:Know Inv F.G:=hFG ▸ hG;(q0k fun j L h1 h2 h3=>absurd h2 (Nat.not_lt.2 (Nat.le_trans (by decide +kernel) h1)))) jgu ((ji2 n a).symm.trans h)⟩,rfl⟩
def qow (n:Nat):List LC:=[]
def qf9 (n:Nat) (a1:Int×(Int×(Int×(Int×(List (List UInt8×List UInt8)))))) (a2:Int×(Int×(Int×(Int×(List (List UInt8×List UInt8)))))):Option (Bool) :=
 (bif decide (a1.1=a2.1) then (bif decide (a1.2.1=a2.2.1) then (bif decide (a1.2.2.1=a2.2.2.1) then (bif decide (a1.2.2.2.1=a2.2.2.2.1) then (qea n a1.2.2.2.2 a2.2.2.2.2).bind fun r1=>some r1 else some false) else some false) else some false) else some false)
def q8v (n:Nat):FC:={ f:=17,args:=[.one (.agg [.d (.int .i64),.d (.int .i64),.d (.int .i64),.d (.int .i64),.d (.lst (.prod .str .str))]),.one (.agg [.d (.int .i64),.d (.int .i64),.d (.int .i64),.d (.int .i64),.d (.lst (.prod .str .str))])],res:=.one (.c (.d .bool)),F:=fun p=>qf9 n p.1 p.2 }
def qy7 (n:Nat):List FC:=[q92 n]
theorem j3i (n:Nat) {G:World->Prop} (hG:Know Inv G) : ∀c∈qy7 n,q27 Tryz.prog G c/\q0z c.args=true:=List.forall_mem_cons.2 ⟨jcg n G hG,(fun _ h=>by cases h)⟩
def qyh:q0y:=[]
theorem jg3:drB qyh (q05 Tryz.f17)=true:=by kernel_rfl
theorem jgm (n:Nat) : ∀a,(q8v n).F a=main Tryz.prog 38 (qy7 n) (qow n) qyh (q05 Tryz.f17) [.tmp 4] (q8v n).args (q8v n).res a:=by intro a;kernel_rfl
theorem je2 (n:Nat):q0v Inv Tryz.prog (q8v n):=fun G hG=>⟨⟨by kernel_rfl,fun a r h=>q0p (c:=q05 Tryz.f17) Tryz.func17 (by kernel_rfl) (by kernel_rfl) (Nat.le_of_ble_eq_true (by kernel_rfl)) hG.st (by kernel_rfl) (rs:=[.tmp 4]) (by kernel_rfl) (j3i n hG) (lts:=qow n) (fun F hF hFG=>have hK:Know Inv F.G:=hFG ▸ hG;(q0k fun j L h1 h2 h3=>absurd h2 (Nat.not_lt.2 (Nat.le_trans (by decide +kernel) h1)))) jg3 ((jgm n a).symm.trans h)⟩,rfl⟩
end Go.Proofs.YthpgnliicpejoaaGreatDoor.AM
