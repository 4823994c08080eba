
import Derived.Test.YtggoebaobojmjaaGreatDoorBp12
namespace Go.Proofs.YtggoebaobojmjaaGreatDoor.AM
open Go.RowKit
set_option linter.unusedVariables false
set_option maxRecDepth 20000
def j2h (n:Nat):List LC:=[]
def j0d (n:Nat) (a1:List UInt8):Option (List UInt8) :=
 (qz5 n a1 (47:Int)).bind fun (r1:Int)=>q0d (IntKind.wrap .i64 (r1+(1:Int))) fun (n2:Int)=>(qv2 a1 n2 ((List.length a1:Nat):Int)).bind fun (s3:List UInt8)=>some s3
def qhh (n:Nat):FC:={ f:=56,args:=[.one (.c (.d .str))],res:=.one (.c (.d .str)),F:=fun p=>j0d n p }
def jc9 (n:Nat):List FC:=[qga n]
theorem jh4 (n:Nat) {G:World->Prop} (hG:Know Inv G) : ∀c∈jc9 n,q0z Tryz.prog G c/\q0a c.args=true:=List.forall_mem_cons.2 ⟨jf6 n G hG,(fun _ h=>by cases h)⟩
def jck:q09:=[]
theorem jqp:drB jck (q00 Tryz.f56)=true:=by kernel_rfl
theorem jqw (n:Nat) : ∀a,(qhh n).F a=main Tryz.prog 8 (jc9 n) (j2h n) jck (q00 Tryz.f56) [.tmp 2] (qhh n).args (qhh n).res a:=by intro a;kernel_rfl
theorem js4 (n:Nat):q0f Inv Tryz.prog (qhh n):=fun G hG=>⟨⟨by kernel_rfl,fun a r h=>q05 (c:=q00 Tryz.f56) Tryz.func56 (by kernel_rfl) (by kernel_rfl) (Nat.le_of_ble_eq_true (by kernel_rfl)) hG.st (by kernel_rfl) (rs:=[.tmp 2]) (by kernel_rfl) (jh4 n hG) (lts:=j2h n) (fun F hF hFG=>have hK:Know Inv F.G:=hFG ▸ hG;(q02 fun j L h1 h2 h3=>absurd h2 (Nat.not_lt.2 (Nat.le_trans (by decide +kernel) h1)))) jqp ((jqw n a).symm.trans h)⟩,rfl⟩
def qx3 (n:Nat):List LC:=[]
def qde (n:Nat) (a1:List UInt8):Option ((List UInt8)×(Int×(Bool))) :=
 (qpk a1).bind fun (r1:List UInt8)=>(j0d n a1).bind fun (r2:List UInt8)=>(j7f a1).bind fun (r3:Bool)=>(bif !r3 then (bif !r3 then some (([]:List UInt8),((0:Int),false)) else (qiv n r2).bind fun (r4:Bool)=>(bif !r4 then some (a1,((0:Int),true)) else (qv7 r2).bind fun (r5:Int×(Bool))=>(bif !r5.2 then some (([]:List UInt8),((0:Int),false)) else (bif decide (r1=([]:List UInt8)) then some (([]:List UInt8),((0:Int),false)) else some (r1,(r5.1,true)))))) else (j42 r1).bind fun (r6:Bool)=>(bif r6 then some (([]:List UInt8),((0:Int),false)) else (qiv n r2).bind fun (r7:Bool)=>(bif !r7 then some (a1,((0:Int),true)) else (qv7 r2).bind fun (r8:Int×(Bool))=>(bif !r8.2 then some (([]:List UInt8),((0:Int),false)) else (bif decide (r1=([]:List UInt8)) then some (([]:List UInt8),((0:Int),false)) else some (r1,(r8.1,true)))))))
def q6p (n:Nat):FC:={ f:=27,args:=[.one (.c (.d .str))],res:=.tup [.c (.d .str),.c (.d (.int .i64)),.c (.d .bool)],F:=fun p=>qde n p }
def j43 (n:Nat):List FC:=[jdk,qhh n,jd5,qcf n,jl1,jjt]
theorem j9p (n:Nat) {G:World->Prop} (hG:Know Inv G) : ∀c∈j43 n,q0z Tryz.prog G c/\q0a c.args=true:=List.forall_mem_cons.2 ⟨jr0 G hG,List.forall_mem_cons.2 ⟨js4 n G hG,List.forall_mem_cons.2 ⟨jsr G hG,List.forall_mem_cons.2 ⟨j1q n G hG,List.forall_mem_cons.2 ⟨jw2 G hG,List.forall_mem_cons.2 ⟨jv7 G hG,(fun _ h=>by cases h)⟩⟩⟩⟩⟩⟩
def j1o:q09:=[]
theorem jnu:drB j1o (q00 Tryz.f27)=true:=by kernel_rfl
theorem jkn (n:Nat) : ∀a,(q6p n).F a=main Tryz.prog 37 (j43 n) (qx3 n) j1o (q00 Tryz.f27) [.tmp 2,.tmp 3,.tmp 4] (q6p n).args (q6p n).res a:=by intro a;kernel_rfl
theorem qpq (n:Nat):q0f Inv Tryz.prog (q6p n):=fun G hG=>⟨⟨by kernel_rfl,fun a r h=>q05 (c:=q00 Tryz.f27) Tryz.func27 (by kernel_rfl) (by kernel_rfl) (Nat.le_of_ble_eq_true (by kernel_rfl)) hG.st (by kernel_rfl) (rs:=[.tmp 2,.tmp 3,.tmp 4]) (by kernel_rfl) (j9p n hG) (lts:=qx3 n) (fun F hF hFG=>have hK:Know Inv F.G:=hFG ▸ hG;(q02 fun j L h1 h2 h3=>absurd h2 (Nat.not_lt.2 (Nat.le_trans (by decide +kernel) h1)))) jnu ((jkn n a).symm.trans h)⟩,rfl⟩
def qx0 (n:Nat):List LC:=[]
def qot (n:Nat) (a1:List UInt8):Option (Bool) :=
 (qde n a1).bind fun (r1:(List UInt8)×(Int×(Bool)))=>some r1.2.2
def qbz (n:Nat):FC:={ f:=106,args:=[.one (.c (.d .str))],res:=.one (.c (.d .bool)),F:=fun p=>qot n p }
def j3u (n:Nat):List FC:=[q6p n]
theorem jaa (n:Nat) {G:World->Prop} (hG:Know Inv G) : ∀c∈j3u n,q0z Tryz.prog G c/\q0a c.args=true:=List.forall_mem_cons.2 ⟨qpq n G hG,(fun _ h=>by cases h)⟩
def j4g:q09:=[]
theorem jpr:drB j4g (q00 Tryz.f106)=true:=by kernel_rfl
theorem jm2 (n:Nat) : ∀a,(qbz n).F a=main Tryz.prog 13 (j3u n) (qx0 n) j4g (q00 Tryz.f106) [.tmp 2] (qbz n).args (qbz n).res a:=by intro a;kernel_rfl
theorem jng (n:Nat):q0f Inv Tryz.prog (qbz n):=fun G hG=>⟨⟨by kernel_rfl,fun a r h=>q05 (c:=q00 Tryz.f106) Tryz.func106 (by kernel_rfl) (by kernel_rfl) (Nat.le_of_ble_eq_true (by kernel_rfl)) hG.st (by kernel_rfl) (rs:=[.tmp 2]) (by kernel_rfl) (jaa n hG) (lts:=qx0 n) (fun F hF hFG=>have hK:Know Inv F.G:=hFG ▸ hG;(q02 fun j L h1 h2 h3=>absurd h2 (Nat.not_lt.2 (Nat.le_trans (by decide +kernel) h1)))) jpr ((jm2 n a).symm.trans h)⟩,rfl⟩
def j2y (n:Nat):List LC:=[]
def qzj (n:Nat) (a1:List UInt8) (a2:Int×(Int×(Int×((List UInt8)×(List UInt8))))):Option (Bool) :=
 (qde n a1).bind fun (r1:(List UInt8)×(Int×(Bool)))=>(bif !r1.2.2 then (bif !r1.2.2 then some false else (bif decide (r1.2.1=(0:Int)) then some (decide (a2.1<(2:Int))) else some (decide (a2.1=r1.2.1)))) else (q7g n a2).bind fun (r2:Bool)=>(bif !r2 then some false else (bif decide (r1.2.1=(0:Int)) then some (decide (a2.1<(2:Int))) else some (decide (a2.1=r1.2.1)))))
def qg5 (n:Nat):FC:={ f:=69,args:=[.one (.c (.d .str)),.one (.agg [.d (.int .i64),.d (.int .i64),.d (.int .i64),.d .str,.d .str])],res:=.one (.c (.d .bool)),F:=fun p=>qzj n p.1 p.2 }
def jdt (n:Nat):List FC:=[q6p n,q4x n]
theorem jh7 (n:Nat) {G:World->Prop} (hG:Know Inv G) : ∀c∈jdt n,q0z Tryz.prog G c/\q0a c.args=true:=List.forall_mem_cons.2 ⟨qpq n G hG,List.forall_mem_cons.2 ⟨qh3 n G hG,(fun _ h=>by cases h)⟩⟩
def jcq:q09:=[]
theorem jrj:drB jcq (q00 Tryz.f69)=true:=by kernel_rfl
theorem jr5 (n:Nat) : ∀a,(qg5 n).F a=main Tryz.prog 30 (jdt n) (j2y n) jcq (q00 Tryz.f69) [.tmp 4] (qg5 n).args (qg5 n).res a:=by intro a;kernel_rfl
theorem jro (n:Nat):q0f Inv Tryz.prog (qg5 n):=fun G hG=>⟨⟨by kernel_rfl,fun a r h=>q05 (c:=q00 Tryz.f69) Tryz.func69 (by kernel_rfl) (by kernel_rfl) (Nat.le_of_ble_eq_true (by kernel_rfl)) hG.st (by kernel_rfl) (rs:=[.tmp 4]) (by kernel_rfl) (jh7 n hG) (lts:=j2y n) (fun F hF hFG=>have hK:Know Inv F.G:=hFG ▸ hG;(q02 fun j L h1 h2 h3=>absurd h2 (Nat.not_lt.2 (Nat.le_trans (by decide +kernel) h1)))) jrj ((jr5 n a).symm.trans h)⟩,rfl⟩
@[reducible] def qdo:SSt:=⟨[(0,.one (.c (.d .str))),(3,.one (.c (.d (.int .i64))))],[],[]⟩
@[reducible] def q7v:List (Exit×SSt):=[(.ret,⟨[(2,.one (.c (.d .bool)))],[],[]⟩),(.exit 0,⟨[(0,.one (.c (.d .str)))],[],[]⟩)]
def qpv (n:Nat) (rec:(List UInt8)->Int->Option (((Bool×(Unit))×(Unit)×(Unit))⊕(((List UInt8)×(Unit))×(Unit)×(Unit)))) (a1:List UInt8) (a2:Int):Option (((Bool×(Unit))×(Unit)×(Unit))⊕(((List UInt8)×(Unit))×(Unit)×(Unit))) :=
 (bif decide (a2<((List.length a1:Nat):Int)) then (sAt a1 a2).bind fun (c1:Int)=>(bif decide ((97:Int)<=c1) then (bif decide (c1<=(122:Int)) then q0d (IntKind.wrap .i64 (a2+(1:Int))) fun (n2:Int)=>rec a1 n2 else (bif decide ((65:Int)<=c1) then (bif decide (c1<=(90:Int)) then q0d (IntKind.wrap .i64 (a2+(1:Int))) fun (n3:Int)=>rec a1 n3 else (bif decide ((48:Int)<=c1) then (bif !(decide (c1<=(57:Int))) then (bif !decide (c1=(45:Int)) then (bif !decide (c1=(95:Int)) then (bif !decide (c1=(46:Int)) then some (Sum.inl ((false,()),((),()))) else q0d (IntKind.wrap .i64 (a2+(1:Int))) fun (n4:Int)=>rec a1 n4) else q0d (IntKind.wrap .i64 (a2+(1:Int))) fun (n5:Int)=>rec a1 n5) else q0d (IntKind.wrap .i64 (a2+(1:Int))) fun (n6:Int)=>rec a1 n6) else q0d (IntKind.wrap .i64 (a2+(1:Int))) fun (n7:Int)=>rec a1 n7) else (bif !decide (c1=(45:Int)) then (bif !decide (c1=(95:Int)) then (bif !decide (c1=(46:Int)) then some (Sum.inl ((false,()),((),()))) else q0d (IntKind.wrap .i64 (a2+(1:Int))) fun (n8:Int)=>rec a1 n8) else q0d (IntKind.wrap .i64 (a2+(1:Int))) fun (n9:Int)=>rec a1 n9) else q0d (IntKind.wrap .i64 (a2+(1:Int))) fun (n10:Int)=>rec a1 n10))) else (bif decide ((48:Int)<=c1) then (bif !(decide (c1<=(57:Int))) then (bif !decide (c1=(45:Int)) then (bif !decide (c1=(95:Int)) then (bif !decide (c1=(46:Int)) then some (Sum.inl ((false,()),((),()))) else q0d (IntKind.wrap .i64 (a2+(1:Int))) fun (n11:Int)=>rec a1 n11) else q0d (IntKind.wrap .i64 (a2+(1:Int))) fun (n12:Int)=>rec a1 n12) else q0d (IntKind.wrap .i64 (a2+(1:Int))) fun (n13:Int)=>rec a1 n13) else q0d (IntKind.wrap .i64 (a2+(1:Int))) fun (n14:Int)=>rec a1 n14) else (bif !decide (c1=(45:Int)) then (bif !decide (c1=(95:Int)) then (bif !decide (c1=(46:Int)) then some (Sum.inl ((false,()),((),()))) else q0d (IntKind.wrap .i64 (a2+(1:Int))) fun (n15:Int)=>rec a1 n15) else q0d (IntKind.wrap .i64 (a2+(1:Int))) fun (n16:Int)=>rec a1 n16) else q0d (IntKind.wrap .i64 (a2+(1:Int))) fun (n17:Int)=>rec a1 n17)))) else (bif decide ((65:Int)<=c1) then (bif decide (c1<=(90:Int)) then q0d (IntKind.wrap .i64 (a2+(1:Int))) fun (n18:Int)=>rec a1 n18 else (bif decide ((48:Int)<=c1) then (bif !(decide (c1<=(57:Int))) then (bif !decide (c1=(45:Int)) then (bif !decide (c1=(95:Int)) then (bif !decide (c1=(46:Int)) then some (Sum.inl ((false,()),((),()))) else q0d (IntKind.wrap .i64 (a2+(1:Int))) fun (n19:Int)=>rec a1 n19) else q0d (IntKind.wrap .i64 (a2+(1:Int))) fun (n20:Int)=>rec a1 n20) else q0d (IntKind.wrap .i64 (a2+(1:Int))) fun (n21:Int)=>rec a1 n21) else q0d (IntKind.wrap .i64 (a2+(1:Int))) fun (n22:Int)=>rec a1 n22) else (bif !decide (c1=(45:Int)) then (bif !decide (c1=(95:Int)) then (bif !decide (c1=(46:Int)) then some (Sum.inl ((false,()),((),()))) else q0d (IntKind.wrap .i64 (a2+(1:Int))) fun (n23:Int)=>rec a1 n23) else q0d (IntKind.wrap .i64 (a2+(1:Int))) fun (n24:Int)=>rec a1 n24) else q0d (IntKind.wrap .i64 (a2+(1:Int))) fun (n25:Int)=>rec a1 n25))) else (bif decide ((48:Int)<=c1) then (bif !(decide (c1<=(57:Int))) then (bif !decide (c1=(45:Int)) then (bif !decide (c1=(95:Int)) then (bif !decide (c1=(46:Int)) then some (Sum.inl ((false,()),((),()))) else q0d (IntKind.wrap .i64 (a2+(1:Int))) fun (n26:Int)=>rec a1 n26) else q0d (IntKind.wrap .i64 (a2+(1:Int))) fun (n27:Int)=>rec a1 n27) else q0d (IntKind.wrap .i64 (a2+(1:Int))) fun (n28:Int)=>rec a1 n28) else q0d (IntKind.wrap .i64 (a2+(1:Int))) fun (n29:Int)=>rec a1 n29) else (bif !decide (c1=(45:Int)) then (bif !decide (c1=(95:Int)) then (bif !decide (c1=(46:Int)) then some (Sum.inl ((false,()),((),()))) else q0d (IntKind.wrap .i64 (a2+(1:Int))) fun (n30:Int)=>rec a1 n30) else q0d (IntKind.wrap .i64 (a2+(1:Int))) fun (n31:Int)=>rec a1 n31) else q0d (IntKind.wrap .i64 (a2+(1:Int))) fun (n32:Int)=>rec a1 n32)))) else some (Sum.inr (((a1,()),((),())))))
def qp6 (n:Nat) (rec:pSt qdo->Option (q0b q7v)) (p:pSt qdo):Option (q0b q7v):=qpv n (fun a1 a2=>rec ((a1,(a2,())),((),()))) p.1.1 p.1.2.1
def q7f (n m:Nat) (a1:List UInt8) (a2:Int):Option (((Bool×(Unit))×(Unit)×(Unit))⊕(((List UInt8)×(Unit))×(Unit)×(Unit))):=q0c (qp6 n) m ((a1,(a2,())),((),()))
theorem qlr (n m:Nat) (a1:List UInt8) (a2:Int):q7f n (m+1) a1 a2=qpv n (fun a1 a2=>q7f n m a1 a2) a1 a2:=rfl
def j44 (n:Nat):LC:={ sh:=qdo,outs:=q7v,F:=q0c (qp6 n) n }
def qjz (n:Nat):List LC:=[j44 n]
def qo1 (n:Nat) (a1:List UInt8):Option (Bool) :=
 (q7f n n a1 (0:Int)).bind fun (o33:((Bool×(Unit))×(Unit)×(Unit))⊕(((List UInt8)×(Unit))×(Unit)×(Unit)))=>Sum.elim (fun (q34:(Bool×(Unit))×(Unit)×(Unit))=>some q34.1.1) (fun (q35:((List UInt8)×(Unit))×(Unit)×(Unit))=>(bif !decide (q35.1.1=([]:List UInt8)) then (bif !decide (q35.1.1=([46]:List UInt8)) then some (!decide (q35.1.1=([46,46]:List UInt8))) else some false) else some false)) o33
def qbx (n:Nat):FC:={ f:=127,args:=[.one (.c (.d .str))],res:=.one (.c (.d .bool)),F:=fun p=>qo1 n p }
def qqg (n:Nat):List FC:=[]
theorem qtc (n:Nat) {G:World->Prop} (hG:Know Inv G) : ∀c∈qqg n,q0z Tryz.prog G c/\q0a c.args=true:=(fun _ h=>by cases h)
def qre:q09:=[]
theorem j6n:drB qre (q00 Tryz.f127)=true:=by kernel_rfl
theorem jj5 (n:Nat) : ∀rec p,qp6 n rec p=round Tryz.prog 61 (qqg n) (qjz n) qre 1 qdo q7v (q01 0 0 (q00 Tryz.f127)) rec p:=by intro rec p;kernel_rfl
theorem j7n (n:Nat) {F:Fr} (hF:F.n=61) (hK:Know Inv F.G):q57 Tryz.prog F (j44 n) (q01 0 0 (q00 Tryz.f127)) :=
 q0e hF (by kernel_rfl) (qtc n hK) (jj5 n) (fuel:=n) (fun _=>rfl) (q02 fun j L h1 h2 h3=>absurd h2 (Nat.not_lt.2 (Nat.le_trans (by decide +kernel) h1))) (q0j j6n)
theorem jpu (n:Nat) : ∀a,(qbx n).F a=main Tryz.prog 61 (qqg n) (qjz n) qre (q00 Tryz.f127) [.tmp 2] (qbx n).args (qbx n).res a:=by intro a;kernel_rfl
theorem jpm (n:Nat):q0f Inv Tryz.prog (qbx n):=fun G hG=>⟨⟨by kernel_rfl,fun a r h=>q05 (c:=q00 Tryz.f127) Tryz.func127 (by kernel_rfl) (by kernel_rfl) (Nat.le_of_ble_eq_true (by kernel_rfl)) hG.st (by kernel_rfl) (rs:=[.tmp 2]) (by kernel_rfl) (qtc n hG) (lts:=qjz n) (fun F hF hFG=>have hK:Know Inv F.G:=hFG ▸ hG;(q02 (c:=(q00 Tryz.f127)) (fun j L h1 h2 h3=>by
  have h2':j<1:=Nat.lt_of_lt_of_le h2 (by decide +kernel)
  match j,h1,h2',h3 with
  | 0,_,_,h3=>obtain rfl:=Option.some.inj h3;exact (show q01 0 0 (q00 Tryz.f127)=q01 0 0 (q00 Tryz.f127) by kernel_rfl) ▸ j7n n hF hK
  | j+1,_,h2',_=>exact absurd h2' (by omega)))) j6n ((jpu n a).symm.trans h)⟩,rfl⟩
@[reducible] def qdd:SSt:=⟨[(3,.one (.c (.d (.lst .str)))),(4,.one (.c (.d (.int .i64))))],[],[]⟩
@[reducible] def q7t:List (Exit×SSt):=[(.ret,⟨[(2,.one (.c (.d .bool)))],[],[]⟩),(.exit 0,⟨[],[],[]⟩)]
def qrn (n:Nat) (rec:(List (List UInt8))->Int->Option (((Bool×(Unit))×(Unit)×(Unit))⊕((Unit)×(Unit)×(Unit)))) (a1:List (List UInt8)) (a2:Int):Option (((Bool×(Unit))×(Unit)×(Unit))⊕((Unit)×(Unit)×(Unit))) :=
 (bif decide (a2<((List.length a1:Nat):Int)) then (q1a a1 a2).bind fun (x2:List UInt8)=>(qo1 n x2).bind fun (r3:Bool)=>(bif !r3 then some (Sum.inl ((false,()),((),()))) else q0d (IntKind.wrap .i64 (a2+(1:Int))) fun (n4:Int)=>rec a1 n4) else some (Sum.inr (((),((),())))))
def qt6 (n:Nat) (rec:pSt qdd->Option (q0b q7t)) (p:pSt qdd):Option (q0b q7t):=qrn n (fun a1 a2=>rec ((a1,(a2,())),((),()))) p.1.1 p.1.2.1
def q7j (n m:Nat) (a1:List (List UInt8)) (a2:Int):Option (((Bool×(Unit))×(Unit)×(Unit))⊕((Unit)×(Unit)×(Unit))):=q0c (qt6 n) m ((a1,(a2,())),((),()))
theorem qlt (n m:Nat) (a1:List (List UInt8)) (a2:Int):q7j n (m+1) a1 a2=qrn n (fun a1 a2=>q7j n m a1 a2) a1 a2:=rfl
def j3m (n:Nat):LC:={ sh:=qdd,outs:=q7t,F:=q0c (qt6 n) n }
def qlq (n:Nat):List LC:=[j3m n]
def qo2 (n:Nat) (a1:List UInt8):Option (Bool) :=
 (bif decide ((60:Int)<((List.length a1:Nat):Int)) then some false else (q1w n a1 (47:Int)).bind fun (r1:List (List UInt8))=>(q7j n n r1 (0:Int)).bind fun (o5:((Bool×(Unit))×(Unit)×(Unit))⊕((Unit)×(Unit)×(Unit)))=>Sum.elim (fun (q6:(Bool×(Unit))×(Unit)×(Unit))=>some q6.1.1) (fun (q7:(Unit)×(Unit)×(Unit))=>some true) o5)
def qbp (n:Nat):FC:={ f:=97,args:=[.one (.c (.d .str))],res:=.one (.c (.d .bool)),F:=fun p=>qo2 n p }
def qtw (n:Nat):List FC:=[q2q n,qbx n]
theorem qpu (n:Nat) {G:World->Prop} (hG:Know Inv G) : ∀c∈qtw n,q0z Tryz.prog G c/\q0a c.args=true:=List.forall_mem_cons.2 ⟨q8g n G hG,List.forall_mem_cons.2 ⟨jpm n G hG,(fun _ h=>by cases h)⟩⟩
def qu9:q09:=[]
theorem j3y:drB qu9 (q00 Tryz.f97)=true:=by kernel_rfl
theorem jfz (n:Nat) : ∀rec p,qt6 n rec p=round Tryz.prog 22 (qtw n) (qlq n) qu9 1 qdd q7t (q01 0 0 (q00 Tryz.f97)) rec p:=by intro rec p;kernel_rfl
theorem j9m (n:Nat) {F:Fr} (hF:F.n=22) (hK:Know Inv F.G):q57 Tryz.prog F (j3m n) (q01 0 0 (q00 Tryz.f97)) :=
 q0e hF (by kernel_rfl) (qpu n hK) (jfz n) (fuel:=n) (fun _=>rfl) (q02 fun j L h1 h2 h3=>absurd h2 (Nat.not_lt.2 (Nat.le_trans (by decide +kernel) h1))) (q0j j3y)
theorem jp7 (n:Nat) : ∀a,(qbp n).F a=main Tryz.prog 22 (qtw n) (qlq n) qu9 (q00 Tryz.f97) [.tmp 2] (qbp n).args (qbp n).res a:=by intro a;kernel_rfl
theorem jkf (n:Nat):q0f Inv Tryz.prog (qbp n):=fun G hG=>⟨⟨by kernel_rfl,fun a r h=>q05 (c:=q00 Tryz.f97) Tryz.func97 (by kernel_rfl) (by kernel_rfl) (Nat.le_of_ble_eq_true (by kernel_rfl)) hG.st (by kernel_rfl) (rs:=[.tmp 2]) (by kernel_rfl) (qpu n hG) (lts:=qlq n) (fun F hF hFG=>have hK:Know Inv F.G:=hFG ▸ hG;(q02 (c:=(q00 Tryz.f97)) (fun j L h1 h2 h3=>by
  have h2':j<1:=Nat.lt_of_lt_of_le h2 (by decide +kernel)
  match j,h1,h2',h3 with
  | 0,_,_,h3=>obtain rfl:=Option.some.inj h3;exact (show q01 0 0 (q00 Tryz.f97)=q01 0 0 (q00 Tryz.f97) by kernel_rfl) ▸ j9m n hF hK
  | j+1,_,h2',_=>exact absurd h2' (by omega)))) j3y ((jp7 n a).symm.trans h)⟩,rfl⟩
@[reducible] def q9t:SSt:=⟨[(0,.one (.c (.d .str))),(3,.one (.c (.d (.int .i64))))],[],[]⟩
@[reducible] def q5n:List (Exit×SSt):=[(.ret,⟨[(2,.one (.c (.d .bool)))],[],[]⟩),(.exit 0,⟨[(0,.one (.c (.d .str)))],[],[]⟩)]
def qko (n:Nat) (rec:(List UInt8)->Int->Option (((Bool×(Unit))×(Unit)×(Unit))⊕(((List UInt8)×(Unit))×(Unit)×(Unit)))) (a1:List UInt8) (a2:Int):Option (((Bool×(Unit))×(Unit)×(Unit))⊕(((List UInt8)×(Unit))×(Unit)×(Unit))) :=
 (bif decide (a2<((List.length a1:Nat):Int)) then (sAt a1 a2).bind fun (c1:Int)=>(bif decide (c1<(48:Int)) then some (Sum.inl ((false,()),((),()))) else (sAt a1 a2).bind fun (c2:Int)=>(bif decide ((57:Int)<c2) then some (Sum.inl ((false,()),((),()))) else q0d (IntKind.wrap .i64 (a2+(1:Int))) fun (n3:Int)=>rec a1 n3)) else some (Sum.inr (((a1,()),((),())))))
def qlh (n:Nat) (rec:pSt q9t->Option (q0b q5n)) (p:pSt q9t):Option (q0b q5n):=qko n (fun a1 a2=>rec ((a1,(a2,())),((),()))) p.1.1 p.1.2.1
def q5r (n m:Nat) (a1:List UInt8) (a2:Int):Option (((Bool×(Unit))×(Unit)×(Unit))⊕(((List UInt8)×(Unit))×(Unit)×(Unit))):=q0c (qlh n) m ((a1,(a2,())),((),()))
theorem qgd (n m:Nat) (a1:List UInt8) (a2:Int):q5r n (m+1) a1 a2=qko n (fun a1 a2=>q5r n m a1 a2) a1 a2:=rfl
def qw6 (n:Nat):LC:={ sh:=q9t,outs:=q5n,F:=q0c (qlh n) n }
def qfh (n:Nat):List LC:=[qw6 n]
def qcg (n:Nat) (a1:List UInt8):Option (Bool) :=
 (q5r n n a1 (1:Int)).bind fun (o4:((Bool×(Unit))×(Unit)×(Unit))⊕(((List UInt8)×(Unit))×(Unit)×(Unit)))=>Sum.elim (fun (q5:(Bool×(Unit))×(Unit)×(Unit))=>some q5.1.1) (fun (q6:((List UInt8)×(Unit))×(Unit)×(Unit))=>(bif decide ((1:Int)<((List.length q6.1.1:Nat):Int)) then (sAt q6.1.1 (0:Int)).bind fun (c7:Int)=>some (decide (c7=(118:Int))) else some false)) o4
def q65 (n:Nat):FC:={ f:=63,args:=[.one (.c (.d .str))],res:=.one (.c (.d .bool)),F:=fun p=>qcg n p }
def qkh (n:Nat):List FC:=[]
theorem qm4 (n:Nat) {G:World->Prop} (hG:Know Inv G) : ∀c∈qkh n,q0z Tryz.prog G c/\q0a c.args=true:=(fun _ h=>by cases h)
def qlx:q09:=[]
theorem qws:drB qlx (q00 Tryz.f63)=true:=by kernel_rfl
theorem j9u (n:Nat) : ∀rec p,qlh n rec p=round Tryz.prog 28 (qkh n) (qfh n) qlx 1 q9t q5n (q01 0 0 (q00 Tryz.f63)) rec p:=by intro rec p;kernel_rfl
theorem j5k (n:Nat) {F:Fr} (hF:F.n=28) (hK:Know Inv F.G):q57 Tryz.prog F (qw6 n) (q01 0 0 (q00 Tryz.f63)) :=
 q0e hF (by kernel_rfl) (qm4 n hK) (j9u n) (fuel:=n) (fun _=>rfl) (q02 fun j L h1 h2 h3=>absurd h2 (Nat.not_lt.2 (Nat.le_trans (by decide +kernel) h1))) (q0j qws)
theorem jiv (n:Nat) : ∀a,(q65 n).F a=main Tryz.prog 28 (qkh n) (qfh n) qlx (q00 Tryz.f63) [.tmp 2] (q65 n).args (q65 n).res a:=by intro a;kernel_rfl
theorem qxf (n:Nat):q0f Inv Tryz.prog (q65 n):=fun G hG=>⟨⟨by kernel_rfl,fun a r h=>q05 (c:=q00 Tryz.f63) Tryz.func63 (by kernel_rfl) (by kernel_rfl) (Nat.le_of_ble_eq_true (by kernel_rfl)) hG.st (by kernel_rfl) (rs:=[.tmp 2]) (by kernel_rfl) (qm4 n hG) (lts:=qfh n) (fun F hF hFG=>have hK:Know Inv F.G:=hFG ▸ hG;(q02 (c:=(q00 Tryz.f63)) (fun j L h1 h2 h3=>by
  have h2':j<1:=Nat.lt_of_lt_of_le h2 (by decide +kernel)
  match j,h1,h2',h3 with
  | 0,_,_,h3=>obtain rfl:=Option.some.inj h3;exact (show q01 0 0 (q00 Tryz.f63)=q01 0 0 (q00 Tryz.f63) by kernel_rfl) ▸ j5k n hF hK
  | j+1,_,h2',_=>exact absurd h2' (by omega)))) qws ((jiv n a).symm.trans h)⟩,rfl⟩
@[reducible] def q7n:SSt:=⟨[(0,.one (.c (.d .str))),(3,.one (.c (.d (.int .i64)))),(4,.one (.c (.d (.int .i64))))],[],[]⟩
@[reducible] def q4g:List (Exit×SSt):=[(.exit 0,⟨[(3,.one (.c (.d (.int .i64))))],[],[]⟩)]
def qfo (n:Nat) (rec:(List UInt8)->Int->Int->Option ((Int×(Unit))×(Unit)×(Unit))) (a1:List UInt8) (a2:Int) (a3:Int):Option ((Int×(Unit))×(Unit)×(Unit)) :=
 (bif decide (a3<((List.length a1:Nat):Int)) then q0d (IntKind.wrap .i64 ((10:Int)*a2)) fun (n2:Int)=>(sAt a1 a3).bind fun (c3:Int)=>q0d (IntKind.wrap .i64 c3) fun (n4:Int)=>q0d (IntKind.wrap .i64 (n2+n4)) fun (n5:Int)=>q0d (IntKind.wrap .i64 (n5 - (48:Int))) fun (n6:Int)=>q0d (IntKind.wrap .i64 (a3+(1:Int))) fun (n7:Int)=>rec a1 n6 n7 else some (((a2,()),((),()))))
def qey (n:Nat) (rec:pSt q7n->Option (q0b q4g)) (p:pSt q7n):Option (q0b q4g):=qfo n (fun a1 a2 a3=>rec ((a1,(a2,(a3,()))),((),()))) p.1.1 p.1.2.1 p.1.2.2.1
def q4e (n m:Nat) (a1:List UInt8) (a2:Int) (a3:Int):Option ((Int×(Unit))×(Unit)×(Unit)):=q0c (qey n) m ((a1,(a2,(a3,()))),((),()))
theorem qeq (n m:Nat) (a1:List UInt8) (a2:Int) (a3:Int):q4e n (m+1) a1 a2 a3=qfo n (fun a1 a2 a3=>q4e n m a1 a2 a3) a1 a2 a3:=rfl
def qto (n:Nat):LC:={ sh:=q7n,outs:=q4g,F:=q0c (qey n) n }
def qba (n:Nat):List LC:=[qto n]
def q8o (n:Nat) (a1:List UInt8):Option (Int) :=
 (bif decide ((10:Int)<((List.length a1:Nat):Int)) then some (0:Int) else (sAt a1 (1:Int)).bind fun (c1:Int)=>(bif decide (c1=(48:Int)) then some (0:Int) else (q4e n n a1 (0:Int) (1:Int)).bind fun (o8:(Int×(Unit))×(Unit)×(Unit))=>(bif decide (o8.1.1<(2:Int)) then some (0:Int) else some o8.1.1)))
def q3s (n:Nat):FC:={ f:=65,args:=[.one (.c (.d .str))],res:=.one (.c (.d (.int .i64))),F:=fun p=>q8o n p }
def qf2 (n:Nat):List FC:=[]
theorem qgs (n:Nat) {G:World->Prop} (hG:Know Inv G) : ∀c∈qf2 n,q0z Tryz.prog G c/\q0a c.args=true:=(fun _ h=>by cases h)
def qfk:q09:=[]
theorem qrw:drB qfk (q00 Tryz.f65)=true:=by kernel_rfl
theorem j1z (n:Nat) : ∀rec p,qey n rec p=round Tryz.prog 30 (qf2 n) (qba n) qfk 1 q7n q4g (q01 0 0 (q00 Tryz.f65)) rec p:=by intro rec p;kernel_rfl
theorem qzo (n:Nat) {F:Fr} (hF:F.n=30) (hK:Know Inv F.G):q57 Tryz.prog F (qto n) (q01 0 0 (q00 Tryz.f65)) :=
 q0e hF (by kernel_rfl) (qgs n hK) (j1z n) (fuel:=n) (fun _=>rfl) (q02 fun j L h1 h2 h3=>absurd h2 (Nat.not_lt.2 (Nat.le_trans (by decide +kernel) h1))) (q0j qrw)
theorem j7l (n:Nat) : ∀a,(q3s n).F a=main Tryz.prog 30 (qf2 n) (qba n) qfk (q00 Tryz.f65) [.tmp 2] (q3s n).args (q3s n).res a:=by intro a;kernel_rfl
theorem qsh (n:Nat):q0f Inv Tryz.prog (q3s n):=fun G hG=>⟨⟨by kernel_rfl,fun a r h=>q05 (c:=q00 Tryz.f65) Tryz.func65 (by kernel_rfl) (by kernel_rfl) (Nat.le_of_ble_eq_true (by kernel_rfl)) hG.st (by kernel_rfl) (rs:=[.tmp 2]) (by kernel_rfl) (qgs n hG) (lts:=qba n) (fun F hF hFG=>have hK:Know Inv F.G:=hFG ▸ hG;(q02 (c:=(q00 Tryz.f65)) (fun j L h1 h2 h3=>by
  have h2':j<1:=Nat.lt_of_lt_of_le h2 (by decide +kernel)
  match j,h1,h2',h3 with
  | 0,_,_,h3=>obtain rfl:=Option.some.inj h3;exact (show q01 0 0 (q00 Tryz.f65)=q01 0 0 (q00 Tryz.f65) by kernel_rfl) ▸ qzo n hF hK
  | j+1,_,h2',_=>exact absurd h2' (by omega)))) qrw ((j7l n a).symm.trans h)⟩,rfl⟩
@[reducible] def qaw:SSt:=⟨[(3,.one (.c (.d (.lst .str)))),(4,.one (.c (.d (.int .i64))))],[],[]⟩
@[reducible] def q5o:List (Exit×SSt):=[(.ret,⟨[(2,.one (.c (.d .bool)))],[],[]⟩),(.exit 0,⟨[],[],[]⟩)]
def qct (n:Nat) (rec:(List (List UInt8))->Int->Option (((Bool×(Unit))×(Unit)×(Unit))⊕((Unit)×(Unit)×(Unit)))) (a1:List (List UInt8)) (a2:Int):Option (((Bool×(Unit))×(Unit)×(Unit))⊕((Unit)×(Unit)×(Unit))) :=
 (bif decide (a2<((List.length a1:Nat):Int)) then (q1a a1 a2).bind fun (x3:List UInt8)=>(qcg n x3).bind fun (r4:Bool)=>(bif r4 then q0d (IntKind.wrap .i64 (((List.length a1:Nat):Int) - (1:Int))) fun (n5:Int)=>(bif decide (a2<n5) then some (Sum.inl ((false,()),((),()))) else (bif decide (a2=(0:Int)) then some (Sum.inl ((false,()),((),()))) else (q1a a1 a2).bind fun (x6:List UInt8)=>(q8o n x6).bind fun (r7:Int)=>(bif decide (r7=(0:Int)) then some (Sum.inl ((false,()),((),()))) else q0d (IntKind.wrap .i64 (a2+(1:Int))) fun (n8:Int)=>rec a1 n8))) else q0d (IntKind.wrap .i64 (a2+(1:Int))) fun (n9:Int)=>rec a1 n9) else some (Sum.inr (((),((),())))))
def qj6 (n:Nat) (rec:pSt qaw->Option (q0b q5o)) (p:pSt qaw):Option (q0b q5o):=qct n (fun a1 a2=>rec ((a1,(a2,())),((),()))) p.1.1 p.1.2.1
def q39 (n m:Nat) (a1:List (List UInt8)) (a2:Int):Option (((Bool×(Unit))×(Unit)×(Unit))⊕((Unit)×(Unit)×(Unit))):=q0c (qj6 n) m ((a1,(a2,())),((),()))
theorem q7r (n m:Nat) (a1:List (List UInt8)) (a2:Int):q39 n (m+1) a1 a2=qct n (fun a1 a2=>q39 n m a1 a2) a1 a2:=rfl
def qwt (n:Nat):LC:={ sh:=qaw,outs:=q5o,F:=q0c (qj6 n) n }
def qej (n:Nat):List LC:=[qwt n]
def qik (n:Nat) (a1:List UInt8):Option (Bool) :=
 (qo2 n a1).bind fun (r1:Bool)=>(bif !r1 then some false else (q1w n a1 (47:Int)).bind fun (r2:List (List UInt8))=>(q39 n n r2 (0:Int)).bind fun (o10:((Bool×(Unit))×(Unit)×(Unit))⊕((Unit)×(Unit)×(Unit)))=>Sum.elim (fun (q11:(Bool×(Unit))×(Unit)×(Unit))=>some q11.1.1) (fun (q12:(Unit)×(Unit)×(Unit))=>some true) o10)
def q9c (n:Nat):FC:={ f:=61,args:=[.one (.c (.d .str))],res:=.one (.c (.d .bool)),F:=fun p=>qik n p }
def qj8 (n:Nat):List FC:=[qbp n,q2q n,q65 n,q3s n]
theorem qmv (n:Nat) {G:World->Prop} (hG:Know Inv G) : ∀c∈qj8 n,q0z Tryz.prog G c/\q0a c.args=true:=List.forall_mem_cons.2 ⟨jkf n G hG,List.forall_mem_cons.2 ⟨q8g n G hG,List.forall_mem_cons.2 ⟨qxf n G hG,List.forall_mem_cons.2 ⟨qsh n G hG,(fun _ h=>by cases h)⟩⟩⟩⟩
def qjt:q09:=[]
theorem qvv:drB qjt (q00 Tryz.f61)=true:=by kernel_rfl
theorem jbd (n:Nat) : ∀rec p,qj6 n rec p=round Tryz.prog 40 (qj8 n) (qej n) qjt 1 qaw q5o (q01 0 0 (q00 Tryz.f61)) rec p:=by intro rec p;kernel_rfl
theorem j49 (n:Nat) {F:Fr} (hF:F.n=40) (hK:Know Inv F.G):q57 Tryz.prog F (qwt n) (q01 0 0 (q00 Tryz.f61)) :=
 q0e hF (by kernel_rfl) (qmv n hK) (jbd n) (fuel:=n) (fun _=>rfl) (q02 fun j L h1 h2 h3=>absurd h2 (Nat.not_lt.2 (Nat.le_trans (by decide +kernel) h1))) (q0j qvv)
theorem ji8 (n:Nat) : ∀a,(q9c n).F a=main Tryz.prog 40 (qj8 n) (qej n) qjt (q00 Tryz.f61) [.tmp 2] (q9c n).args (q9c n).res a:=by intro a;kernel_rfl
theorem jie (n:Nat):q0f Inv Tryz.prog (q9c n):=fun G hG=>⟨⟨by kernel_rfl,fun a r h=>q05 (c:=q00 Tryz.f61) Tryz.func61 (by kernel_rfl) (by kernel_rfl) (Nat.le_of_ble_eq_true (by kernel_rfl)) hG.st (by kernel_rfl) (rs:=[.tmp 2]) (by kernel_rfl) (qmv n hG) (lts:=qej n) (fun F hF hFG=>have hK:Know Inv F.G:=hFG ▸ hG;(q02 (c:=(q00 Tryz.f61)) (fun j L h1 h2 h3=>by
  have h2':j<1:=Nat.lt_of_lt_of_le h2 (by decide +kernel)
  match j,h1,h2',h3 with
  | 0,_,_,h3=>obtain rfl:=Option.some.inj h3;exact (show q01 0 0 (q00 Tryz.f61)=q01 0 0 (q00 Tryz.f61) by kernel_rfl) ▸ j49 n hF hK
  | j+1,_,h2',_=>exact absurd h2' (by omega)))) qvv ((ji8 n a).symm.trans h)⟩,rfl⟩
@[reducible] def qdl:SSt:=⟨[(0,.one (.c (.d .str))),(3,.one (.c (.d (.int .i64))))],[],[]⟩
@[reducible] def q83:List (Exit×SSt):=[(.ret,⟨[(2,.one (.c (.d .str)))],[],[]⟩),(.exit 0,⟨[],[],[]⟩)]
def qic (n:Nat) (rec:(List UInt8)->Int->Option ((((List UInt8)×(Unit))×(Unit)×(Unit))⊕((Unit)×(Unit)×(Unit)))) (a1:List UInt8) (a2:Int):Option ((((List UInt8)×(Unit))×(Unit)×(Unit))⊕((Unit)×(Unit)×(Unit))) :=
 (bif decide ((0:Int)<=a2) then (sAt a1 a2).bind fun (c2:Int)=>(bif decide (c2=(47:Int)) then (qv2 a1 (0:Int) a2).bind fun (s3:List UInt8)=>some (Sum.inl ((s3,()),((),()))) else q0d (IntKind.wrap .i64 (a2 - (1:Int))) fun (n4:Int)=>rec a1 n4) else some (Sum.inr (((),((),())))))
def qqk (n:Nat) (rec:pSt qdl->Option (q0b q83)) (p:pSt qdl):Option (q0b q83):=qic n (fun a1 a2=>rec ((a1,(a2,())),((),()))) p.1.1 p.1.2.1
def q6z (n m:Nat) (a1:List UInt8) (a2:Int):Option ((((List UInt8)×(Unit))×(Unit)×(Unit))⊕((Unit)×(Unit)×(Unit))):=q0c (qqk n) m ((a1,(a2,())),((),()))
theorem q97 (n m:Nat) (a1:List UInt8) (a2:Int):q6z n (m+1) a1 a2=qic n (fun a1 a2=>q6z n m a1 a2) a1 a2:=rfl
def j1u (n:Nat):LC:={ sh:=qdl,outs:=q83,F:=q0c (qqk n) n }
def qk7 (n:Nat):List LC:=[j1u n]
def qoe (n:Nat) (a1:List UInt8):Option (List UInt8) :=
 q0d (IntKind.wrap .i64 (((List.length a1:Nat):Int) - (1:Int))) fun (n1:Int)=>(q6z n n a1 n1).bind fun (o5:(((List UInt8)×(Unit))×(Unit)×(Unit))⊕((Unit)×(Unit)×(Unit)))=>Sum.elim (fun (q6:((List UInt8)×(Unit))×(Unit)×(Unit))=>some q6.1.1) (fun (q7:(Unit)×(Unit)×(Unit))=>some ([]:List UInt8)) o5
def qc0 (n:Nat):FC:={ f:=64,args:=[.one (.c (.d .str))],res:=.one (.c (.d .str)),F:=fun p=>qoe n p }
def qrf (n:Nat):List FC:=[]
theorem qqz (n:Nat) {G:World->Prop} (hG:Know Inv G) : ∀c∈qrf n,q0z Tryz.prog G c/\q0a c.args=true:=(fun _ h=>by cases h)
def qss:q09:=[]
theorem j5c:drB qss (q00 Tryz.f64)=true:=by kernel_rfl
theorem ji7 (n:Nat) : ∀rec p,qqk n rec p=round Tryz.prog 18 (qrf n) (qk7 n) qss 1 qdl q83 (q01 0 0 (q00 Tryz.f64)) rec p:=by intro rec p;kernel_rfl
theorem j8z (n:Nat) {F:Fr} (hF:F.n=18) (hK:Know Inv F.G):q57 Tryz.prog F (j1u n) (q01 0 0 (q00 Tryz.f64)) :=
 q0e hF (by kernel_rfl) (qqz n hK) (ji7 n) (fuel:=n) (fun _=>rfl) (q02 fun j L h1 h2 h3=>absurd h2 (Nat.not_lt.2 (Nat.le_trans (by decide +kernel) h1))) (q0j j5c)
theorem jnr (n:Nat) : ∀a,(qc0 n).F a=main Tryz.prog 18 (qrf n) (qk7 n) qss (q00 Tryz.f64) [.tmp 2] (qc0 n).args (qc0 n).res a:=by intro a;kernel_rfl
theorem jq0 (n:Nat):q0f Inv Tryz.prog (qc0 n):=fun G hG=>⟨⟨by kernel_rfl,fun a r h=>q05 (c:=q00 Tryz.f64) Tryz.func64 (by kernel_rfl) (by kernel_rfl) (Nat.le_of_ble_eq_true (by kernel_rfl)) hG.st (by kernel_rfl) (rs:=[.tmp 2]) (by kernel_rfl) (qqz n hG) (lts:=qk7 n) (fun F hF hFG=>have hK:Know Inv F.G:=hFG ▸ hG;(q02 (c:=(q00 Tryz.f64)) (fun j L h1 h2 h3=>by
  have h2':j<1:=Nat.lt_of_lt_of_le h2 (by decide +kernel)
  match j,h1,h2',h3 with
  | 0,_,_,h3=>obtain rfl:=Option.some.inj h3;exact (show q01 0 0 (q00 Tryz.f64)=q01 0 0 (q00 Tryz.f64) by kernel_rfl) ▸ j8z n hF hK
  | j+1,_,h2',_=>exact absurd h2' (by omega)))) j5c ((jnr n a).symm.trans h)⟩,rfl⟩
def qrh (n:Nat):List LC:=[]
def qbc (n:Nat) (a1:List UInt8):Option ((List UInt8)×(Int×(Bool))) :=
 (qik n a1).bind fun (r1:Bool)=>(bif !r1 then some (([]:List UInt8),((0:Int),false)) else (q1w n a1 (47:Int)).bind fun (r2:List (List UInt8))=>q0d (IntKind.wrap .i64 (((List.length r2:Nat):Int) - (1:Int))) fun (n3:Int)=>(q1a r2 n3).bind fun (x4:List UInt8)=>(qcg n x4).bind fun (r5:Bool)=>(bif !r5 then some (a1,((0:Int),true)) else (qoe n a1).bind fun (r6:List UInt8)=>(q8o n x4).bind fun (r7:Int)=>some (r6,(r7,true))))
def q69 (n:Nat):FC:={ f:=28,args:=[.one (.c (.d .str))],res:=.tup [.c (.d .str),.c (.d (.int .i64)),.c (.d .bool)],F:=fun p=>qbc n p }
def qwa (n:Nat):List FC:=[q9c n,q2q n,q65 n,qc0 n,q3s n]
theorem j5y (n:Nat) {G:World->Prop} (hG:Know Inv G) : ∀c∈qwa n,q0z Tryz.prog G c/\q0a c.args=true:=List.forall_mem_cons.2 ⟨jie n G hG,List.forall_mem_cons.2 ⟨q8g n G hG,List.forall_mem_cons.2 ⟨qxf n G hG,List.forall_mem_cons.2 ⟨jq0 n G hG,List.forall_mem_cons.2 ⟨qsh n G hG,(fun _ h=>by cases h)⟩⟩⟩⟩⟩
def qvc:q09:=[]
theorem jfv:drB qvc (q00 Tryz.f28)=true:=by kernel_rfl
theorem jhw (n:Nat) : ∀a,(q69 n).F a=main Tryz.prog 26 (qwa n) (qrh n) qvc (q00 Tryz.f28) [.tmp 2,.tmp 3,.tmp 4] (q69 n).args (q69 n).res a:=by intro a;kernel_rfl
theorem qwx (n:Nat):q0f Inv Tryz.prog (q69 n):=fun G hG=>⟨⟨by kernel_rfl,fun a r h=>q05 (c:=q00 Tryz.f28) Tryz.func28 (by kernel_rfl) (by kernel_rfl) (Nat.le_of_ble_eq_true (by kernel_rfl)) hG.st (by kernel_rfl) (rs:=[.tmp 2,.tmp 3,.tmp 4]) (by kernel_rfl) (j5y n hG) (lts:=qrh n) (fun F hF hFG=>have hK:Know Inv F.G:=hFG ▸ hG;(q02 fun j L h1 h2 h3=>absurd h2 (Nat.not_lt.2 (Nat.le_trans (by decide +kernel) h1)))) jfv ((jhw n a).symm.trans h)⟩,rfl⟩
def qwd (n:Nat):List LC:=[]
def qo7 (n:Nat) (a1:List UInt8) (a2:Int×(Int×(Int×((List UInt8)×(List UInt8))))):Option (Bool) :=
 (qbc n a1).bind fun (r1:(List UInt8)×(Int×(Bool)))=>(bif !r1.2.2 then some false else (q2k n a2).bind fun (r2:Bool)=>(bif !r2 then some false else (bif decide (a2.1=r1.2.1) then some true else (bif decide (r1.2.1=(0:Int)) then some (decide (a2.1=(1:Int))) else some false))))
def qbh (n:Nat):FC:={ f:=25,args:=[.one (.c (.d .str)),.one (.agg [.d (.int .i64),.d (.int .i64),.d (.int .i64),.d .str,.d .str])],res:=.one (.c (.d .bool)),F:=fun p=>qo7 n p.1 p.2 }
def j40 (n:Nat):List FC:=[q69 n,q4o n]
theorem j8u (n:Nat) {G:World->Prop} (hG:Know Inv G) : ∀c∈j40 n,q0z Tryz.prog G c/\q0a c.args=true:=List.forall_mem_cons.2 ⟨qwx n G hG,List.forall_mem_cons.2 ⟨qi1 n G hG,(fun _ h=>by cases h)⟩⟩
def j3i:q09:=[]
theorem jl3:drB j3i (q00 Tryz.f25)=true:=by kernel_rfl
theorem jq1 (n:Nat) : ∀a,(qbh n).F a=main Tryz.prog 34 (j40 n) (qwd n) j3i (q00 Tryz.f25) [.tmp 4] (qbh n).args (qbh n).res a:=by intro a;kernel_rfl
theorem jpx (n:Nat):q0f Inv Tryz.prog (qbh n):=fun G hG=>⟨⟨by kernel_rfl,fun a r h=>q05 (c:=q00 Tryz.f25) Tryz.func25 (by kernel_rfl) (by kernel_rfl) (Nat.le_of_ble_eq_true (by kernel_rfl)) hG.st (by kernel_rfl) (rs:=[.tmp 4]) (by kernel_rfl) (j8u n hG) (lts:=qwd n) (fun F hF hFG=>have hK:Know Inv F.G:=hFG ▸ hG;(q02 fun j L h1 h2 h3=>absurd h2 (Nat.not_lt.2 (Nat.le_trans (by decide +kernel) h1)))) jl3 ((jq1 n a).symm.trans h)⟩,rfl⟩
end Go.Proofs.YtggoebaobojmjaaGreatDoor.AM
