
import Derived.Test.YtggoebaobojmjaaGreatDoorBr12
namespace Go.Proofs.YtggoebaobojmjaaGreatDoor.AM
open Go.RowKit
set_option linter.unusedVariables false
set_option maxRecDepth 20000
def j6m (n:Nat):List LC:=[]
def j1s (n:Nat) (a1:List UInt8):Option (List UInt8) :=
 (j22 n a1 (47:Int)).bind fun (r1:Int)=>q0e (IntKind.wrap .i64 (r1+(1:Int))) fun (n2:Int)=>(qtj a1 n2 ((List.length a1:Nat):Int)).bind fun (s3:List UInt8)=>some s3
def qjo (n:Nat):FC:={ f:=56,args:=[.one (.c (.d .str))],res:=.one (.c (.d .str)),F:=fun p=>j1s n p }
def jdn (n:Nat):List FC:=[qhx n]
theorem jhw (n:Nat) {G:World->Prop} (hG:Know Inv G) : ∀c∈jdn n,q0v Tryz.prog G c/\q0d c.args=true:=List.forall_mem_cons.2 ⟨jee n G hG,(fun _ h=>by cases h)⟩
def jet:q0c:=[]
theorem jt8:drB jet (q00 Tryz.f56)=true:=by kernel_rfl
theorem jre (n:Nat) : ∀a,(qjo n).F a=main Tryz.prog 8 (jdn n) (j6m n) jet (q00 Tryz.f56) [.tmp 2] (qjo n).args (qjo n).res a:=by intro a;kernel_rfl
theorem jsy (n:Nat):q0g Inv Tryz.prog (qjo n):=fun G hG=>⟨⟨by kernel_rfl,fun a r h=>q05 (c:=q00 Tryz.f56) Tryz.func56 (by kernel_rfl) (by kernel_rfl) (Nat.le_of_ble_eq_true (by kernel_rfl)) hG.st (by kernel_rfl) (rs:=[.tmp 2]) (by kernel_rfl) (jhw n hG) (lts:=j6m n) (fun F hF hFG=>have hK:Know Inv F.G:=hFG ▸ hG;(q02 fun j L h1 h2 h3=>absurd h2 (Nat.not_lt.2 (Nat.le_trans (by decide +kernel) h1)))) jt8 ((jre n a).symm.trans h)⟩,rfl⟩
def qyc (n:Nat):List LC:=[]
def qdz (n:Nat) (a1:List UInt8):Option ((List UInt8)×(Int×(Bool))) :=
 (qqr a1).bind fun (r1:List UInt8)=>(j1s n a1).bind fun (r2:List UInt8)=>(jai a1).bind fun (r3:Bool)=>(bif !r3 then (bif !r3 then some (([]:List UInt8),((0:Int),false)) else (qhh n r2).bind fun (r4:Bool)=>(bif !r4 then some (a1,((0:Int),true)) else (qyn r2).bind fun (r5:Int×(Bool))=>(bif !r5.2 then some (([]:List UInt8),((0:Int),false)) else (bif decide (r1=([]:List UInt8)) then some (([]:List UInt8),((0:Int),false)) else some (r1,(r5.1,true)))))) else (j5b r1).bind fun (r6:Bool)=>(bif r6 then some (([]:List UInt8),((0:Int),false)) else (qhh n r2).bind fun (r7:Bool)=>(bif !r7 then some (a1,((0:Int),true)) else (qyn r2).bind fun (r8:Int×(Bool))=>(bif !r8.2 then some (([]:List UInt8),((0:Int),false)) else (bif decide (r1=([]:List UInt8)) then some (([]:List UInt8),((0:Int),false)) else some (r1,(r8.1,true)))))))
def q6v (n:Nat):FC:={ f:=27,args:=[.one (.c (.d .str))],res:=.tup [.c (.d .str),.c (.d (.int .i64)),.c (.d .bool)],F:=fun p=>qdz n p }
def j3r (n:Nat):List FC:=[jdt,qjo n,jdm,qda n,jnf,jln]
theorem jc2 (n:Nat) {G:World->Prop} (hG:Know Inv G) : ∀c∈j3r n,q0v Tryz.prog G c/\q0d c.args=true:=List.forall_mem_cons.2 ⟨jrc G hG,List.forall_mem_cons.2 ⟨jsy n G hG,List.forall_mem_cons.2 ⟨jss G hG,List.forall_mem_cons.2 ⟨j7g n G hG,List.forall_mem_cons.2 ⟨jw5 G hG,List.forall_mem_cons.2 ⟨jwt G hG,(fun _ h=>by cases h)⟩⟩⟩⟩⟩⟩
def j5p:q0c:=[]
theorem jnq:drB j5p (q00 Tryz.f27)=true:=by kernel_rfl
theorem jp8 (n:Nat) : ∀a,(q6v n).F a=main Tryz.prog 37 (j3r n) (qyc n) j5p (q00 Tryz.f27) [.tmp 2,.tmp 3,.tmp 4] (q6v n).args (q6v n).res a:=by intro a;kernel_rfl
theorem qr8 (n:Nat):q0g Inv Tryz.prog (q6v n):=fun G hG=>⟨⟨by kernel_rfl,fun a r h=>q05 (c:=q00 Tryz.f27) Tryz.func27 (by kernel_rfl) (by kernel_rfl) (Nat.le_of_ble_eq_true (by kernel_rfl)) hG.st (by kernel_rfl) (rs:=[.tmp 2,.tmp 3,.tmp 4]) (by kernel_rfl) (jc2 n hG) (lts:=qyc n) (fun F hF hFG=>have hK:Know Inv F.G:=hFG ▸ hG;(q02 fun j L h1 h2 h3=>absurd h2 (Nat.not_lt.2 (Nat.le_trans (by decide +kernel) h1)))) jnq ((jp8 n a).symm.trans h)⟩,rfl⟩
def qy9 (n:Nat):List LC:=[]
def qps (n:Nat) (a1:List UInt8):Option (Bool) :=
 (qdz n a1).bind fun (r1:(List UInt8)×(Int×(Bool)))=>some r1.2.2
def qcr (n:Nat):FC:={ f:=106,args:=[.one (.c (.d .str))],res:=.one (.c (.d .bool)),F:=fun p=>qps n p }
def j6j (n:Nat):List FC:=[q6v n]
theorem j8x (n:Nat) {G:World->Prop} (hG:Know Inv G) : ∀c∈j6j n,q0v Tryz.prog G c/\q0d c.args=true:=List.forall_mem_cons.2 ⟨qr8 n G hG,(fun _ h=>by cases h)⟩
def j61:q0c:=[]
theorem jot:drB j61 (q00 Tryz.f106)=true:=by kernel_rfl
theorem jq2 (n:Nat) : ∀a,(qcr n).F a=main Tryz.prog 13 (j6j n) (qy9 n) j61 (q00 Tryz.f106) [.tmp 2] (qcr n).args (qcr n).res a:=by intro a;kernel_rfl
theorem jpk (n:Nat):q0g Inv Tryz.prog (qcr n):=fun G hG=>⟨⟨by kernel_rfl,fun a r h=>q05 (c:=q00 Tryz.f106) Tryz.func106 (by kernel_rfl) (by kernel_rfl) (Nat.le_of_ble_eq_true (by kernel_rfl)) hG.st (by kernel_rfl) (rs:=[.tmp 2]) (by kernel_rfl) (j8x n hG) (lts:=qy9 n) (fun F hF hFG=>have hK:Know Inv F.G:=hFG ▸ hG;(q02 fun j L h1 h2 h3=>absurd h2 (Nat.not_lt.2 (Nat.le_trans (by decide +kernel) h1)))) jot ((jq2 n a).symm.trans h)⟩,rfl⟩
def j4d (n:Nat):List LC:=[]
def j07 (n:Nat) (a1:List UInt8) (a2:Int×(Int×(Int×((List UInt8)×(List UInt8))))):Option (Bool) :=
 (qdz n a1).bind fun (r1:(List UInt8)×(Int×(Bool)))=>(bif !r1.2.2 then (bif !r1.2.2 then some false else (bif decide (r1.2.1=(0:Int)) then some (decide (a2.1<(2:Int))) else some (decide (a2.1=r1.2.1)))) else (q7m n a2).bind fun (r2:Bool)=>(bif !r2 then some false else (bif decide (r1.2.1=(0:Int)) then some (decide (a2.1<(2:Int))) else some (decide (a2.1=r1.2.1)))))
def qir (n:Nat):FC:={ f:=69,args:=[.one (.c (.d .str)),.one (.agg [.d (.int .i64),.d (.int .i64),.d (.int .i64),.d .str,.d .str])],res:=.one (.c (.d .bool)),F:=fun p=>j07 n p.1 p.2 }
def jfl (n:Nat):List FC:=[q6v n,q4x n]
theorem jig (n:Nat) {G:World->Prop} (hG:Know Inv G) : ∀c∈jfl n,q0v Tryz.prog G c/\q0d c.args=true:=List.forall_mem_cons.2 ⟨qr8 n G hG,List.forall_mem_cons.2 ⟨qj6 n G hG,(fun _ h=>by cases h)⟩⟩
def jez:q0c:=[]
theorem jsk:drB jez (q00 Tryz.f69)=true:=by kernel_rfl
theorem ju4 (n:Nat) : ∀a,(qir n).F a=main Tryz.prog 30 (jfl n) (j4d n) jez (q00 Tryz.f69) [.tmp 4] (qir n).args (qir n).res a:=by intro a;kernel_rfl
theorem jtx (n:Nat):q0g Inv Tryz.prog (qir n):=fun G hG=>⟨⟨by kernel_rfl,fun a r h=>q05 (c:=q00 Tryz.f69) Tryz.func69 (by kernel_rfl) (by kernel_rfl) (Nat.le_of_ble_eq_true (by kernel_rfl)) hG.st (by kernel_rfl) (rs:=[.tmp 4]) (by kernel_rfl) (jig n hG) (lts:=j4d n) (fun F hF hFG=>have hK:Know Inv F.G:=hFG ▸ hG;(q02 fun j L h1 h2 h3=>absurd h2 (Nat.not_lt.2 (Nat.le_trans (by decide +kernel) h1)))) jsk ((ju4 n a).symm.trans h)⟩,rfl⟩
@[reducible] def qe7:SSt:=⟨[(0,.one (.c (.d .str))),(3,.one (.c (.d (.int .i64))))],[],[]⟩
@[reducible] def q8o:List (Exit×SSt):=[(.ret,⟨[(2,.one (.c (.d .bool)))],[],[]⟩),(.exit 0,⟨[(0,.one (.c (.d .str)))],[],[]⟩)]
def qrl (n:Nat) (rec:(List UInt8)->Int->Option (((Bool×(Unit))×(Unit)×(Unit))⊕(((List UInt8)×(Unit))×(Unit)×(Unit)))) (a1:List UInt8) (a2:Int):Option (((Bool×(Unit))×(Unit)×(Unit))⊕(((List UInt8)×(Unit))×(Unit)×(Unit))) :=
 (bif decide (a2<((List.length a1:Nat):Int)) then (sAt a1 a2).bind fun (c1:Int)=>(bif decide ((97:Int)<=c1) then (bif decide (c1<=(122:Int)) then q0e (IntKind.wrap .i64 (a2+(1:Int))) fun (n2:Int)=>rec a1 n2 else (bif decide ((65:Int)<=c1) then (bif decide (c1<=(90:Int)) then q0e (IntKind.wrap .i64 (a2+(1:Int))) fun (n3:Int)=>rec a1 n3 else (bif decide ((48:Int)<=c1) then (bif !(decide (c1<=(57:Int))) then (bif !decide (c1=(45:Int)) then (bif !decide (c1=(95:Int)) then (bif !decide (c1=(46:Int)) then some (Sum.inl ((false,()),((),()))) else q0e (IntKind.wrap .i64 (a2+(1:Int))) fun (n4:Int)=>rec a1 n4) else q0e (IntKind.wrap .i64 (a2+(1:Int))) fun (n5:Int)=>rec a1 n5) else q0e (IntKind.wrap .i64 (a2+(1:Int))) fun (n6:Int)=>rec a1 n6) else q0e (IntKind.wrap .i64 (a2+(1:Int))) fun (n7:Int)=>rec a1 n7) else (bif !decide (c1=(45:Int)) then (bif !decide (c1=(95:Int)) then (bif !decide (c1=(46:Int)) then some (Sum.inl ((false,()),((),()))) else q0e (IntKind.wrap .i64 (a2+(1:Int))) fun (n8:Int)=>rec a1 n8) else q0e (IntKind.wrap .i64 (a2+(1:Int))) fun (n9:Int)=>rec a1 n9) else q0e (IntKind.wrap .i64 (a2+(1:Int))) fun (n10:Int)=>rec a1 n10))) else (bif decide ((48:Int)<=c1) then (bif !(decide (c1<=(57:Int))) then (bif !decide (c1=(45:Int)) then (bif !decide (c1=(95:Int)) then (bif !decide (c1=(46:Int)) then some (Sum.inl ((false,()),((),()))) else q0e (IntKind.wrap .i64 (a2+(1:Int))) fun (n11:Int)=>rec a1 n11) else q0e (IntKind.wrap .i64 (a2+(1:Int))) fun (n12:Int)=>rec a1 n12) else q0e (IntKind.wrap .i64 (a2+(1:Int))) fun (n13:Int)=>rec a1 n13) else q0e (IntKind.wrap .i64 (a2+(1:Int))) fun (n14:Int)=>rec a1 n14) else (bif !decide (c1=(45:Int)) then (bif !decide (c1=(95:Int)) then (bif !decide (c1=(46:Int)) then some (Sum.inl ((false,()),((),()))) else q0e (IntKind.wrap .i64 (a2+(1:Int))) fun (n15:Int)=>rec a1 n15) else q0e (IntKind.wrap .i64 (a2+(1:Int))) fun (n16:Int)=>rec a1 n16) else q0e (IntKind.wrap .i64 (a2+(1:Int))) fun (n17:Int)=>rec a1 n17)))) else (bif decide ((65:Int)<=c1) then (bif decide (c1<=(90:Int)) then q0e (IntKind.wrap .i64 (a2+(1:Int))) fun (n18:Int)=>rec a1 n18 else (bif decide ((48:Int)<=c1) then (bif !(decide (c1<=(57:Int))) then (bif !decide (c1=(45:Int)) then (bif !decide (c1=(95:Int)) then (bif !decide (c1=(46:Int)) then some (Sum.inl ((false,()),((),()))) else q0e (IntKind.wrap .i64 (a2+(1:Int))) fun (n19:Int)=>rec a1 n19) else q0e (IntKind.wrap .i64 (a2+(1:Int))) fun (n20:Int)=>rec a1 n20) else q0e (IntKind.wrap .i64 (a2+(1:Int))) fun (n21:Int)=>rec a1 n21) else q0e (IntKind.wrap .i64 (a2+(1:Int))) fun (n22:Int)=>rec a1 n22) else (bif !decide (c1=(45:Int)) then (bif !decide (c1=(95:Int)) then (bif !decide (c1=(46:Int)) then some (Sum.inl ((false,()),((),()))) else q0e (IntKind.wrap .i64 (a2+(1:Int))) fun (n23:Int)=>rec a1 n23) else q0e (IntKind.wrap .i64 (a2+(1:Int))) fun (n24:Int)=>rec a1 n24) else q0e (IntKind.wrap .i64 (a2+(1:Int))) fun (n25:Int)=>rec a1 n25))) else (bif decide ((48:Int)<=c1) then (bif !(decide (c1<=(57:Int))) then (bif !decide (c1=(45:Int)) then (bif !decide (c1=(95:Int)) then (bif !decide (c1=(46:Int)) then some (Sum.inl ((false,()),((),()))) else q0e (IntKind.wrap .i64 (a2+(1:Int))) fun (n26:Int)=>rec a1 n26) else q0e (IntKind.wrap .i64 (a2+(1:Int))) fun (n27:Int)=>rec a1 n27) else q0e (IntKind.wrap .i64 (a2+(1:Int))) fun (n28:Int)=>rec a1 n28) else q0e (IntKind.wrap .i64 (a2+(1:Int))) fun (n29:Int)=>rec a1 n29) else (bif !decide (c1=(45:Int)) then (bif !decide (c1=(95:Int)) then (bif !decide (c1=(46:Int)) then some (Sum.inl ((false,()),((),()))) else q0e (IntKind.wrap .i64 (a2+(1:Int))) fun (n30:Int)=>rec a1 n30) else q0e (IntKind.wrap .i64 (a2+(1:Int))) fun (n31:Int)=>rec a1 n31) else q0e (IntKind.wrap .i64 (a2+(1:Int))) fun (n32:Int)=>rec a1 n32)))) else some (Sum.inr (((a1,()),((),())))))
def qu2 (n:Nat) (rec:pSt qe7->Option (q08 q8o)) (p:pSt qe7):Option (q08 q8o):=qrl n (fun a1 a2=>rec ((a1,(a2,())),((),()))) p.1.1 p.1.2.1
def q8g (n m:Nat) (a1:List UInt8) (a2:Int):Option (((Bool×(Unit))×(Unit)×(Unit))⊕(((List UInt8)×(Unit))×(Unit)×(Unit))):=q0a (qu2 n) m ((a1,(a2,())),((),()))
theorem qmc (n m:Nat) (a1:List UInt8) (a2:Int):q8g n (m+1) a1 a2=qrl n (fun a1 a2=>q8g n m a1 a2) a1 a2:=rfl
def j50 (n:Nat):LC:={ sh:=qe7,outs:=q8o,F:=q0a (qu2 n) n }
def qlz (n:Nat):List LC:=[j50 n]
def qpl (n:Nat) (a1:List UInt8):Option (Bool) :=
 (q8g n n a1 (0:Int)).bind fun (o33:((Bool×(Unit))×(Unit)×(Unit))⊕(((List UInt8)×(Unit))×(Unit)×(Unit)))=>Sum.elim (fun (q34:(Bool×(Unit))×(Unit)×(Unit))=>some q34.1.1) (fun (q35:((List UInt8)×(Unit))×(Unit)×(Unit))=>(bif !decide (q35.1.1=([]:List UInt8)) then (bif !decide (q35.1.1=([46]:List UInt8)) then some (!decide (q35.1.1=([46,46]:List UInt8))) else some false) else some false)) o33
def qdb (n:Nat):FC:={ f:=127,args:=[.one (.c (.d .str))],res:=.one (.c (.d .bool)),F:=fun p=>qpl n p }
def qt2 (n:Nat):List FC:=[]
theorem qr4 (n:Nat) {G:World->Prop} (hG:Know Inv G) : ∀c∈qt2 n,q0v Tryz.prog G c/\q0d c.args=true:=(fun _ h=>by cases h)
def qs7:q0c:=[]
theorem j5j:drB qs7 (q00 Tryz.f127)=true:=by kernel_rfl
theorem ji8 (n:Nat) : ∀rec p,qu2 n rec p=round Tryz.prog 61 (qt2 n) (qlz n) qs7 1 qe7 q8o (q01 0 0 (q00 Tryz.f127)) rec p:=by intro rec p;kernel_rfl
theorem j82 (n:Nat) {F:Fr} (hF:F.n=61) (hK:Know Inv F.G):q3k Tryz.prog F (j50 n) (q01 0 0 (q00 Tryz.f127)) :=
 q0b hF (by kernel_rfl) (qr4 n hK) (ji8 n) (fuel:=n) (fun _=>rfl) (q02 fun j L h1 h2 h3=>absurd h2 (Nat.not_lt.2 (Nat.le_trans (by decide +kernel) h1))) (q0h j5j)
theorem jq3 (n:Nat) : ∀a,(qdb n).F a=main Tryz.prog 61 (qt2 n) (qlz n) qs7 (q00 Tryz.f127) [.tmp 2] (qdb n).args (qdb n).res a:=by intro a;kernel_rfl
theorem jl4 (n:Nat):q0g Inv Tryz.prog (qdb n):=fun G hG=>⟨⟨by kernel_rfl,fun a r h=>q05 (c:=q00 Tryz.f127) Tryz.func127 (by kernel_rfl) (by kernel_rfl) (Nat.le_of_ble_eq_true (by kernel_rfl)) hG.st (by kernel_rfl) (rs:=[.tmp 2]) (by kernel_rfl) (qr4 n hG) (lts:=qlz n) (fun F hF hFG=>have hK:Know Inv F.G:=hFG ▸ hG;(q02 (c:=(q00 Tryz.f127)) (fun j L h1 h2 h3=>by
  have h2':j<1:=Nat.lt_of_lt_of_le h2 (by decide +kernel)
  match j,h1,h2',h3 with
  | 0,_,_,h3=>obtain rfl:=Option.some.inj h3;exact (show q01 0 0 (q00 Tryz.f127)=q01 0 0 (q00 Tryz.f127) by kernel_rfl) ▸ j82 n hF hK
  | j+1,_,h2',_=>exact absurd h2' (by omega)))) j5j ((jq3 n a).symm.trans h)⟩,rfl⟩
@[reducible] def qdp:SSt:=⟨[(3,.one (.c (.d (.lst .str)))),(4,.one (.c (.d (.int .i64))))],[],[]⟩
@[reducible] def q8h:List (Exit×SSt):=[(.ret,⟨[(2,.one (.c (.d .bool)))],[],[]⟩),(.exit 0,⟨[],[],[]⟩)]
def qsq (n:Nat) (rec:(List (List UInt8))->Int->Option (((Bool×(Unit))×(Unit)×(Unit))⊕((Unit)×(Unit)×(Unit)))) (a1:List (List UInt8)) (a2:Int):Option (((Bool×(Unit))×(Unit)×(Unit))⊕((Unit)×(Unit)×(Unit))) :=
 (bif decide (a2<((List.length a1:Nat):Int)) then (q0x a1 a2).bind fun (x2:List UInt8)=>(qpl n x2).bind fun (r3:Bool)=>(bif !r3 then some (Sum.inl ((false,()),((),()))) else q0e (IntKind.wrap .i64 (a2+(1:Int))) fun (n4:Int)=>rec a1 n4) else some (Sum.inr (((),((),())))))
def qtp (n:Nat) (rec:pSt qdp->Option (q08 q8h)) (p:pSt qdp):Option (q08 q8h):=qsq n (fun a1 a2=>rec ((a1,(a2,())),((),()))) p.1.1 p.1.2.1
def q7q (n m:Nat) (a1:List (List UInt8)) (a2:Int):Option (((Bool×(Unit))×(Unit)×(Unit))⊕((Unit)×(Unit)×(Unit))):=q0a (qtp n) m ((a1,(a2,())),((),()))
theorem qkf (n m:Nat) (a1:List (List UInt8)) (a2:Int):q7q n (m+1) a1 a2=qsq n (fun a1 a2=>q7q n m a1 a2) a1 a2:=rfl
def j7h (n:Nat):LC:={ sh:=qdp,outs:=q8h,F:=q0a (qtp n) n }
def qlh (n:Nat):List LC:=[j7h n]
def qpa (n:Nat) (a1:List UInt8):Option (Bool) :=
 (bif decide ((60:Int)<((List.length a1:Nat):Int)) then some false else (q2a n a1 (47:Int)).bind fun (r1:List (List UInt8))=>(q7q n n r1 (0:Int)).bind fun (o5:((Bool×(Unit))×(Unit)×(Unit))⊕((Unit)×(Unit)×(Unit)))=>Sum.elim (fun (q6:(Bool×(Unit))×(Unit)×(Unit))=>some q6.1.1) (fun (q7:(Unit)×(Unit)×(Unit))=>some true) o5)
def qcx (n:Nat):FC:={ f:=97,args:=[.one (.c (.d .str))],res:=.one (.c (.d .bool)),F:=fun p=>qpa n p }
def qq6 (n:Nat):List FC:=[q2o n,qdb n]
theorem qtg (n:Nat) {G:World->Prop} (hG:Know Inv G) : ∀c∈qq6 n,q0v Tryz.prog G c/\q0d c.args=true:=List.forall_mem_cons.2 ⟨q9w n G hG,List.forall_mem_cons.2 ⟨jl4 n G hG,(fun _ h=>by cases h)⟩⟩
def qt5:q0c:=[]
theorem j6o:drB qt5 (q00 Tryz.f97)=true:=by kernel_rfl
theorem jhn (n:Nat) : ∀rec p,qtp n rec p=round Tryz.prog 22 (qq6 n) (qlh n) qt5 1 qdp q8h (q01 0 0 (q00 Tryz.f97)) rec p:=by intro rec p;kernel_rfl
theorem jaj (n:Nat) {F:Fr} (hF:F.n=22) (hK:Know Inv F.G):q3k Tryz.prog F (j7h n) (q01 0 0 (q00 Tryz.f97)) :=
 q0b hF (by kernel_rfl) (qtg n hK) (jhn n) (fuel:=n) (fun _=>rfl) (q02 fun j L h1 h2 h3=>absurd h2 (Nat.not_lt.2 (Nat.le_trans (by decide +kernel) h1))) (q0h j6o)
theorem jkk (n:Nat) : ∀a,(qcx n).F a=main Tryz.prog 22 (qq6 n) (qlh n) qt5 (q00 Tryz.f97) [.tmp 2] (qcx n).args (qcx n).res a:=by intro a;kernel_rfl
theorem jph (n:Nat):q0g Inv Tryz.prog (qcx n):=fun G hG=>⟨⟨by kernel_rfl,fun a r h=>q05 (c:=q00 Tryz.f97) Tryz.func97 (by kernel_rfl) (by kernel_rfl) (Nat.le_of_ble_eq_true (by kernel_rfl)) hG.st (by kernel_rfl) (rs:=[.tmp 2]) (by kernel_rfl) (qtg n hG) (lts:=qlh n) (fun F hF hFG=>have hK:Know Inv F.G:=hFG ▸ hG;(q02 (c:=(q00 Tryz.f97)) (fun j L h1 h2 h3=>by
  have h2':j<1:=Nat.lt_of_lt_of_le h2 (by decide +kernel)
  match j,h1,h2',h3 with
  | 0,_,_,h3=>obtain rfl:=Option.some.inj h3;exact (show q01 0 0 (q00 Tryz.f97)=q01 0 0 (q00 Tryz.f97) by kernel_rfl) ▸ jaj n hF hK
  | j+1,_,h2',_=>exact absurd h2' (by omega)))) j6o ((jkk n a).symm.trans h)⟩,rfl⟩
@[reducible] def qb7:SSt:=⟨[(0,.one (.c (.d .str))),(3,.one (.c (.d (.int .i64))))],[],[]⟩
@[reducible] def q5l:List (Exit×SSt):=[(.ret,⟨[(2,.one (.c (.d .bool)))],[],[]⟩),(.exit 0,⟨[(0,.one (.c (.d .str)))],[],[]⟩)]
def qmk (n:Nat) (rec:(List UInt8)->Int->Option (((Bool×(Unit))×(Unit)×(Unit))⊕(((List UInt8)×(Unit))×(Unit)×(Unit)))) (a1:List UInt8) (a2:Int):Option (((Bool×(Unit))×(Unit)×(Unit))⊕(((List UInt8)×(Unit))×(Unit)×(Unit))) :=
 (bif decide (a2<((List.length a1:Nat):Int)) then (sAt a1 a2).bind fun (c1:Int)=>(bif decide (c1<(48:Int)) then some (Sum.inl ((false,()),((),()))) else (sAt a1 a2).bind fun (c2:Int)=>(bif decide ((57:Int)<c2) then some (Sum.inl ((false,()),((),()))) else q0e (IntKind.wrap .i64 (a2+(1:Int))) fun (n3:Int)=>rec a1 n3)) else some (Sum.inr (((a1,()),((),())))))
def qle (n:Nat) (rec:pSt qb7->Option (q08 q5l)) (p:pSt qb7):Option (q08 q5l):=qmk n (fun a1 a2=>rec ((a1,(a2,())),((),()))) p.1.1 p.1.2.1
def q6c (n m:Nat) (a1:List UInt8) (a2:Int):Option (((Bool×(Unit))×(Unit)×(Unit))⊕(((List UInt8)×(Unit))×(Unit)×(Unit))):=q0a (qle n) m ((a1,(a2,())),((),()))
theorem qi1 (n m:Nat) (a1:List UInt8) (a2:Int):q6c n (m+1) a1 a2=qmk n (fun a1 a2=>q6c n m a1 a2) a1 a2:=rfl
def qw8 (n:Nat):LC:={ sh:=qb7,outs:=q5l,F:=q0a (qle n) n }
def qfm (n:Nat):List LC:=[qw8 n]
def qcn (n:Nat) (a1:List UInt8):Option (Bool) :=
 (q6c n n a1 (1:Int)).bind fun (o4:((Bool×(Unit))×(Unit)×(Unit))⊕(((List UInt8)×(Unit))×(Unit)×(Unit)))=>Sum.elim (fun (q5:(Bool×(Unit))×(Unit)×(Unit))=>some q5.1.1) (fun (q6:((List UInt8)×(Unit))×(Unit)×(Unit))=>(bif decide ((1:Int)<((List.length q6.1.1:Nat):Int)) then (sAt q6.1.1 (0:Int)).bind fun (c7:Int)=>some (decide (c7=(118:Int))) else some false)) o4
def q6l (n:Nat):FC:={ f:=63,args:=[.one (.c (.d .str))],res:=.one (.c (.d .bool)),F:=fun p=>qcn n p }
def qmp (n:Nat):List FC:=[]
theorem qoc (n:Nat) {G:World->Prop} (hG:Know Inv G) : ∀c∈qmp n,q0v Tryz.prog G c/\q0d c.args=true:=(fun _ h=>by cases h)
def qkx:q0c:=[]
theorem qx6:drB qkx (q00 Tryz.f63)=true:=by kernel_rfl
theorem j8j (n:Nat) : ∀rec p,qle n rec p=round Tryz.prog 28 (qmp n) (qfm n) qkx 1 qb7 q5l (q01 0 0 (q00 Tryz.f63)) rec p:=by intro rec p;kernel_rfl
theorem j6x (n:Nat) {F:Fr} (hF:F.n=28) (hK:Know Inv F.G):q3k Tryz.prog F (qw8 n) (q01 0 0 (q00 Tryz.f63)) :=
 q0b hF (by kernel_rfl) (qoc n hK) (j8j n) (fuel:=n) (fun _=>rfl) (q02 fun j L h1 h2 h3=>absurd h2 (Nat.not_lt.2 (Nat.le_trans (by decide +kernel) h1))) (q0h qx6)
theorem jir (n:Nat) : ∀a,(q6l n).F a=main Tryz.prog 28 (qmp n) (qfm n) qkx (q00 Tryz.f63) [.tmp 2] (q6l n).args (q6l n).res a:=by intro a;kernel_rfl
theorem qxd (n:Nat):q0g Inv Tryz.prog (q6l n):=fun G hG=>⟨⟨by kernel_rfl,fun a r h=>q05 (c:=q00 Tryz.f63) Tryz.func63 (by kernel_rfl) (by kernel_rfl) (Nat.le_of_ble_eq_true (by kernel_rfl)) hG.st (by kernel_rfl) (rs:=[.tmp 2]) (by kernel_rfl) (qoc n hG) (lts:=qfm n) (fun F hF hFG=>have hK:Know Inv F.G:=hFG ▸ hG;(q02 (c:=(q00 Tryz.f63)) (fun j L h1 h2 h3=>by
  have h2':j<1:=Nat.lt_of_lt_of_le h2 (by decide +kernel)
  match j,h1,h2',h3 with
  | 0,_,_,h3=>obtain rfl:=Option.some.inj h3;exact (show q01 0 0 (q00 Tryz.f63)=q01 0 0 (q00 Tryz.f63) by kernel_rfl) ▸ j6x n hF hK
  | j+1,_,h2',_=>exact absurd h2' (by omega)))) qx6 ((jir n a).symm.trans h)⟩,rfl⟩
@[reducible] def q88:SSt:=⟨[(0,.one (.c (.d .str))),(3,.one (.c (.d (.int .i64)))),(4,.one (.c (.d (.int .i64))))],[],[]⟩
@[reducible] def q4k:List (Exit×SSt):=[(.exit 0,⟨[(3,.one (.c (.d (.int .i64))))],[],[]⟩)]
def qfp (n:Nat) (rec:(List UInt8)->Int->Int->Option ((Int×(Unit))×(Unit)×(Unit))) (a1:List UInt8) (a2:Int) (a3:Int):Option ((Int×(Unit))×(Unit)×(Unit)) :=
 (bif decide (a3<((List.length a1:Nat):Int)) then q0e (IntKind.wrap .i64 ((10:Int)*a2)) fun (n2:Int)=>(sAt a1 a3).bind fun (c3:Int)=>q0e (IntKind.wrap .i64 c3) fun (n4:Int)=>q0e (IntKind.wrap .i64 (n2+n4)) fun (n5:Int)=>q0e (IntKind.wrap .i64 (n5 - (48:Int))) fun (n6:Int)=>q0e (IntKind.wrap .i64 (a3+(1:Int))) fun (n7:Int)=>rec a1 n6 n7 else some (((a2,()),((),()))))
def qg0 (n:Nat) (rec:pSt q88->Option (q08 q4k)) (p:pSt q88):Option (q08 q4k):=qfp n (fun a1 a2 a3=>rec ((a1,(a2,(a3,()))),((),()))) p.1.1 p.1.2.1 p.1.2.2.1
def q4s (n m:Nat) (a1:List UInt8) (a2:Int) (a3:Int):Option ((Int×(Unit))×(Unit)×(Unit)):=q0a (qg0 n) m ((a1,(a2,(a3,()))),((),()))
theorem qg7 (n m:Nat) (a1:List UInt8) (a2:Int) (a3:Int):q4s n (m+1) a1 a2 a3=qfp n (fun a1 a2 a3=>q4s n m a1 a2 a3) a1 a2 a3:=rfl
def qqo (n:Nat):LC:={ sh:=q88,outs:=q4k,F:=q0a (qg0 n) n }
def qc1 (n:Nat):List LC:=[qqo n]
def q99 (n:Nat) (a1:List UInt8):Option (Int) :=
 (bif decide ((10:Int)<((List.length a1:Nat):Int)) then some (0:Int) else (sAt a1 (1:Int)).bind fun (c1:Int)=>(bif decide (c1=(48:Int)) then some (0:Int) else (q4s n n a1 (0:Int) (1:Int)).bind fun (o8:(Int×(Unit))×(Unit)×(Unit))=>(bif decide (o8.1.1<(2:Int)) then some (0:Int) else some o8.1.1)))
def q48 (n:Nat):FC:={ f:=65,args:=[.one (.c (.d .str))],res:=.one (.c (.d (.int .i64))),F:=fun p=>q99 n p }
def qh2 (n:Nat):List FC:=[]
theorem qk8 (n:Nat) {G:World->Prop} (hG:Know Inv G) : ∀c∈qh2 n,q0v Tryz.prog G c/\q0d c.args=true:=(fun _ h=>by cases h)
def qft:q0c:=[]
theorem qux:drB qft (q00 Tryz.f65)=true:=by kernel_rfl
theorem j52 (n:Nat) : ∀rec p,qg0 n rec p=round Tryz.prog 30 (qh2 n) (qc1 n) qft 1 q88 q4k (q01 0 0 (q00 Tryz.f65)) rec p:=by intro rec p;kernel_rfl
theorem qzo (n:Nat) {F:Fr} (hF:F.n=30) (hK:Know Inv F.G):q3k Tryz.prog F (qqo n) (q01 0 0 (q00 Tryz.f65)) :=
 q0b hF (by kernel_rfl) (qk8 n hK) (j52 n) (fuel:=n) (fun _=>rfl) (q02 fun j L h1 h2 h3=>absurd h2 (Nat.not_lt.2 (Nat.le_trans (by decide +kernel) h1))) (q0h qux)
theorem j81 (n:Nat) : ∀a,(q48 n).F a=main Tryz.prog 30 (qh2 n) (qc1 n) qft (q00 Tryz.f65) [.tmp 2] (q48 n).args (q48 n).res a:=by intro a;kernel_rfl
theorem qth (n:Nat):q0g Inv Tryz.prog (q48 n):=fun G hG=>⟨⟨by kernel_rfl,fun a r h=>q05 (c:=q00 Tryz.f65) Tryz.func65 (by kernel_rfl) (by kernel_rfl) (Nat.le_of_ble_eq_true (by kernel_rfl)) hG.st (by kernel_rfl) (rs:=[.tmp 2]) (by kernel_rfl) (qk8 n hG) (lts:=qc1 n) (fun F hF hFG=>have hK:Know Inv F.G:=hFG ▸ hG;(q02 (c:=(q00 Tryz.f65)) (fun j L h1 h2 h3=>by
  have h2':j<1:=Nat.lt_of_lt_of_le h2 (by decide +kernel)
  match j,h1,h2',h3 with
  | 0,_,_,h3=>obtain rfl:=Option.some.inj h3;exact (show q01 0 0 (q00 Tryz.f65)=q01 0 0 (q00 Tryz.f65) by kernel_rfl) ▸ qzo n hF hK
  | j+1,_,h2',_=>exact absurd h2' (by omega)))) qux ((j81 n a).symm.trans h)⟩,rfl⟩
@[reducible] def qab:SSt:=⟨[(3,.one (.c (.d (.lst .str)))),(4,.one (.c (.d (.int .i64))))],[],[]⟩
@[reducible] def q6b:List (Exit×SSt):=[(.ret,⟨[(2,.one (.c (.d .bool)))],[],[]⟩),(.exit 0,⟨[],[],[]⟩)]
def qdh (n:Nat) (rec:(List (List UInt8))->Int->Option (((Bool×(Unit))×(Unit)×(Unit))⊕((Unit)×(Unit)×(Unit)))) (a1:List (List UInt8)) (a2:Int):Option (((Bool×(Unit))×(Unit)×(Unit))⊕((Unit)×(Unit)×(Unit))) :=
 (bif decide (a2<((List.length a1:Nat):Int)) then (q0x a1 a2).bind fun (x3:List UInt8)=>(qcn n x3).bind fun (r4:Bool)=>(bif r4 then q0e (IntKind.wrap .i64 (((List.length a1:Nat):Int) - (1:Int))) fun (n5:Int)=>(bif decide (a2<n5) then some (Sum.inl ((false,()),((),()))) else (bif decide (a2=(0:Int)) then some (Sum.inl ((false,()),((),()))) else (q0x a1 a2).bind fun (x6:List UInt8)=>(q99 n x6).bind fun (r7:Int)=>(bif decide (r7=(0:Int)) then some (Sum.inl ((false,()),((),()))) else q0e (IntKind.wrap .i64 (a2+(1:Int))) fun (n8:Int)=>rec a1 n8))) else q0e (IntKind.wrap .i64 (a2+(1:Int))) fun (n9:Int)=>rec a1 n9) else some (Sum.inr (((),((),())))))
def qmn (n:Nat) (rec:pSt qab->Option (q08 q6b)) (p:pSt qab):Option (q08 q6b):=qdh n (fun a1 a2=>rec ((a1,(a2,())),((),()))) p.1.1 p.1.2.1
def q3n (n m:Nat) (a1:List (List UInt8)) (a2:Int):Option (((Bool×(Unit))×(Unit)×(Unit))⊕((Unit)×(Unit)×(Unit))):=q0a (qmn n) m ((a1,(a2,())),((),()))
theorem q8e (n m:Nat) (a1:List (List UInt8)) (a2:Int):q3n n (m+1) a1 a2=qdh n (fun a1 a2=>q3n n m a1 a2) a1 a2:=rfl
def qww (n:Nat):LC:={ sh:=qab,outs:=q6b,F:=q0a (qmn n) n }
def qgh (n:Nat):List LC:=[qww n]
def qcu (n:Nat) (a1:List UInt8):Option (Bool) :=
 (qpa n a1).bind fun (r1:Bool)=>(bif !r1 then some false else (q2a n a1 (47:Int)).bind fun (r2:List (List UInt8))=>(q3n n n r2 (0:Int)).bind fun (o10:((Bool×(Unit))×(Unit)×(Unit))⊕((Unit)×(Unit)×(Unit)))=>Sum.elim (fun (q11:(Bool×(Unit))×(Unit)×(Unit))=>some q11.1.1) (fun (q12:(Unit)×(Unit)×(Unit))=>some true) o10)
def q6m (n:Nat):FC:={ f:=61,args:=[.one (.c (.d .str))],res:=.one (.c (.d .bool)),F:=fun p=>qcu n p }
def qkp (n:Nat):List FC:=[qcx n,q2o n,q6l n,q48 n]
theorem qo2 (n:Nat) {G:World->Prop} (hG:Know Inv G) : ∀c∈qkp n,q0v Tryz.prog G c/\q0d c.args=true:=List.forall_mem_cons.2 ⟨jph n G hG,List.forall_mem_cons.2 ⟨q9w n G hG,List.forall_mem_cons.2 ⟨qxd n G hG,List.forall_mem_cons.2 ⟨qth n G hG,(fun _ h=>by cases h)⟩⟩⟩⟩
def qks:q0c:=[]
theorem qwz:drB qks (q00 Tryz.f61)=true:=by kernel_rfl
theorem j87 (n:Nat) : ∀rec p,qmn n rec p=round Tryz.prog 40 (qkp n) (qgh n) qks 1 qab q6b (q01 0 0 (q00 Tryz.f61)) rec p:=by intro rec p;kernel_rfl
theorem j4z (n:Nat) {F:Fr} (hF:F.n=40) (hK:Know Inv F.G):q3k Tryz.prog F (qww n) (q01 0 0 (q00 Tryz.f61)) :=
 q0b hF (by kernel_rfl) (qo2 n hK) (j87 n) (fuel:=n) (fun _=>rfl) (q02 fun j L h1 h2 h3=>absurd h2 (Nat.not_lt.2 (Nat.le_trans (by decide +kernel) h1))) (q0h qwz)
theorem jjk (n:Nat) : ∀a,(q6m n).F a=main Tryz.prog 40 (qkp n) (qgh n) qks (q00 Tryz.f61) [.tmp 2] (q6m n).args (q6m n).res a:=by intro a;kernel_rfl
theorem qwl (n:Nat):q0g Inv Tryz.prog (q6m n):=fun G hG=>⟨⟨by kernel_rfl,fun a r h=>q05 (c:=q00 Tryz.f61) Tryz.func61 (by kernel_rfl) (by kernel_rfl) (Nat.le_of_ble_eq_true (by kernel_rfl)) hG.st (by kernel_rfl) (rs:=[.tmp 2]) (by kernel_rfl) (qo2 n hG) (lts:=qgh n) (fun F hF hFG=>have hK:Know Inv F.G:=hFG ▸ hG;(q02 (c:=(q00 Tryz.f61)) (fun j L h1 h2 h3=>by
  have h2':j<1:=Nat.lt_of_lt_of_le h2 (by decide +kernel)
  match j,h1,h2',h3 with
  | 0,_,_,h3=>obtain rfl:=Option.some.inj h3;exact (show q01 0 0 (q00 Tryz.f61)=q01 0 0 (q00 Tryz.f61) by kernel_rfl) ▸ j4z n hF hK
  | j+1,_,h2',_=>exact absurd h2' (by omega)))) qwz ((jjk n a).symm.trans h)⟩,rfl⟩
@[reducible] def qea:SSt:=⟨[(0,.one (.c (.d .str))),(3,.one (.c (.d (.int .i64))))],[],[]⟩
@[reducible] def q7z:List (Exit×SSt):=[(.ret,⟨[(2,.one (.c (.d .str)))],[],[]⟩),(.exit 0,⟨[],[],[]⟩)]
def qib (n:Nat) (rec:(List UInt8)->Int->Option ((((List UInt8)×(Unit))×(Unit)×(Unit))⊕((Unit)×(Unit)×(Unit)))) (a1:List UInt8) (a2:Int):Option ((((List UInt8)×(Unit))×(Unit)×(Unit))⊕((Unit)×(Unit)×(Unit))) :=
 (bif decide ((0:Int)<=a2) then (sAt a1 a2).bind fun (c2:Int)=>(bif decide (c2=(47:Int)) then (qtj a1 (0:Int) a2).bind fun (s3:List UInt8)=>some (Sum.inl ((s3,()),((),()))) else q0e (IntKind.wrap .i64 (a2 - (1:Int))) fun (n4:Int)=>rec a1 n4) else some (Sum.inr (((),((),())))))
def qs8 (n:Nat) (rec:pSt qea->Option (q08 q7z)) (p:pSt qea):Option (q08 q7z):=qib n (fun a1 a2=>rec ((a1,(a2,())),((),()))) p.1.1 p.1.2.1
def q87 (n m:Nat) (a1:List UInt8) (a2:Int):Option ((((List UInt8)×(Unit))×(Unit)×(Unit))⊕((Unit)×(Unit)×(Unit))):=q0a (qs8 n) m ((a1,(a2,())),((),()))
theorem q9z (n m:Nat) (a1:List UInt8) (a2:Int):q87 n (m+1) a1 a2=qib n (fun a1 a2=>q87 n m a1 a2) a1 a2:=rfl
def j64 (n:Nat):LC:={ sh:=qea,outs:=q7z,F:=q0a (qs8 n) n }
def qka (n:Nat):List LC:=[j64 n]
def qq1 (n:Nat) (a1:List UInt8):Option (List UInt8) :=
 q0e (IntKind.wrap .i64 (((List.length a1:Nat):Int) - (1:Int))) fun (n1:Int)=>(q87 n n a1 n1).bind fun (o5:(((List UInt8)×(Unit))×(Unit)×(Unit))⊕((Unit)×(Unit)×(Unit)))=>Sum.elim (fun (q6:((List UInt8)×(Unit))×(Unit)×(Unit))=>some q6.1.1) (fun (q7:(Unit)×(Unit)×(Unit))=>some ([]:List UInt8)) o5
def qcf (n:Nat):FC:={ f:=64,args:=[.one (.c (.d .str))],res:=.one (.c (.d .str)),F:=fun p=>qq1 n p }
def qqh (n:Nat):List FC:=[]
theorem qsi (n:Nat) {G:World->Prop} (hG:Know Inv G) : ∀c∈qqh n,q0v Tryz.prog G c/\q0d c.args=true:=(fun _ h=>by cases h)
def qrw:q0c:=[]
theorem j46:drB qrw (q00 Tryz.f64)=true:=by kernel_rfl
theorem jjx (n:Nat) : ∀rec p,qs8 n rec p=round Tryz.prog 18 (qqh n) (qka n) qrw 1 qea q7z (q01 0 0 (q00 Tryz.f64)) rec p:=by intro rec p;kernel_rfl
theorem jbw (n:Nat) {F:Fr} (hF:F.n=18) (hK:Know Inv F.G):q3k Tryz.prog F (j64 n) (q01 0 0 (q00 Tryz.f64)) :=
 q0b hF (by kernel_rfl) (qsi n hK) (jjx n) (fuel:=n) (fun _=>rfl) (q02 fun j L h1 h2 h3=>absurd h2 (Nat.not_lt.2 (Nat.le_trans (by decide +kernel) h1))) (q0h j46)
theorem jp5 (n:Nat) : ∀a,(qcf n).F a=main Tryz.prog 18 (qqh n) (qka n) qrw (q00 Tryz.f64) [.tmp 2] (qcf n).args (qcf n).res a:=by intro a;kernel_rfl
theorem jpa (n:Nat):q0g Inv Tryz.prog (qcf n):=fun G hG=>⟨⟨by kernel_rfl,fun a r h=>q05 (c:=q00 Tryz.f64) Tryz.func64 (by kernel_rfl) (by kernel_rfl) (Nat.le_of_ble_eq_true (by kernel_rfl)) hG.st (by kernel_rfl) (rs:=[.tmp 2]) (by kernel_rfl) (qsi n hG) (lts:=qka n) (fun F hF hFG=>have hK:Know Inv F.G:=hFG ▸ hG;(q02 (c:=(q00 Tryz.f64)) (fun j L h1 h2 h3=>by
  have h2':j<1:=Nat.lt_of_lt_of_le h2 (by decide +kernel)
  match j,h1,h2',h3 with
  | 0,_,_,h3=>obtain rfl:=Option.some.inj h3;exact (show q01 0 0 (q00 Tryz.f64)=q01 0 0 (q00 Tryz.f64) by kernel_rfl) ▸ jbw n hF hK
  | j+1,_,h2',_=>exact absurd h2' (by omega)))) j46 ((jp5 n a).symm.trans h)⟩,rfl⟩
def qrz (n:Nat):List LC:=[]
def qia (n:Nat) (a1:List UInt8):Option ((List UInt8)×(Int×(Bool))) :=
 (qcu n a1).bind fun (r1:Bool)=>(bif !r1 then some (([]:List UInt8),((0:Int),false)) else (q2a n a1 (47:Int)).bind fun (r2:List (List UInt8))=>q0e (IntKind.wrap .i64 (((List.length r2:Nat):Int) - (1:Int))) fun (n3:Int)=>(q0x r2 n3).bind fun (x4:List UInt8)=>(qcn n x4).bind fun (r5:Bool)=>(bif !r5 then some (a1,((0:Int),true)) else (qq1 n a1).bind fun (r6:List UInt8)=>(q99 n x4).bind fun (r7:Int)=>some (r6,(r7,true))))
def q9q (n:Nat):FC:={ f:=28,args:=[.one (.c (.d .str))],res:=.tup [.c (.d .str),.c (.d (.int .i64)),.c (.d .bool)],F:=fun p=>qia n p }
def qxc (n:Nat):List FC:=[q6m n,q2o n,q6l n,qcf n,q48 n]
theorem j5m (n:Nat) {G:World->Prop} (hG:Know Inv G) : ∀c∈qxc n,q0v Tryz.prog G c/\q0d c.args=true:=List.forall_mem_cons.2 ⟨qwl n G hG,List.forall_mem_cons.2 ⟨q9w n G hG,List.forall_mem_cons.2 ⟨qxd n G hG,List.forall_mem_cons.2 ⟨jpa n G hG,List.forall_mem_cons.2 ⟨qth n G hG,(fun _ h=>by cases h)⟩⟩⟩⟩⟩
def qxe:q0c:=[]
theorem jie:drB qxe (q00 Tryz.f28)=true:=by kernel_rfl
theorem jif (n:Nat) : ∀a,(q9q n).F a=main Tryz.prog 26 (qxc n) (qrz n) qxe (q00 Tryz.f28) [.tmp 2,.tmp 3,.tmp 4] (q9q n).args (q9q n).res a:=by intro a;kernel_rfl
theorem ji2 (n:Nat):q0g Inv Tryz.prog (q9q n):=fun G hG=>⟨⟨by kernel_rfl,fun a r h=>q05 (c:=q00 Tryz.f28) Tryz.func28 (by kernel_rfl) (by kernel_rfl) (Nat.le_of_ble_eq_true (by kernel_rfl)) hG.st (by kernel_rfl) (rs:=[.tmp 2,.tmp 3,.tmp 4]) (by kernel_rfl) (j5m n hG) (lts:=qrz n) (fun F hF hFG=>have hK:Know Inv F.G:=hFG ▸ hG;(q02 fun j L h1 h2 h3=>absurd h2 (Nat.not_lt.2 (Nat.le_trans (by decide +kernel) h1)))) jie ((jif n a).symm.trans h)⟩,rfl⟩
def qwj (n:Nat):List LC:=[]
def qk4 (n:Nat) (a1:List UInt8) (a2:Int×(Int×(Int×((List UInt8)×(List UInt8))))):Option (Bool) :=
 (qia n a1).bind fun (r1:(List UInt8)×(Int×(Bool)))=>(bif !r1.2.2 then some false else (qdr n a2).bind fun (r2:Bool)=>(bif !r2 then some false else (bif decide (a2.1=r1.2.1) then some true else (bif decide (r1.2.1=(0:Int)) then some (decide (a2.1=(1:Int))) else some false))))
def qd5 (n:Nat):FC:={ f:=25,args:=[.one (.c (.d .str)),.one (.agg [.d (.int .i64),.d (.int .i64),.d (.int .i64),.d .str,.d .str])],res:=.one (.c (.d .bool)),F:=fun p=>qk4 n p.1 p.2 }
def j42 (n:Nat):List FC:=[q9q n,q96 n]
theorem j8e (n:Nat) {G:World->Prop} (hG:Know Inv G) : ∀c∈j42 n,q0v Tryz.prog G c/\q0d c.args=true:=List.forall_mem_cons.2 ⟨ji2 n G hG,List.forall_mem_cons.2 ⟨j6b n G hG,(fun _ h=>by cases h)⟩⟩
def j3s:q0c:=[]
theorem jpl:drB j3s (q00 Tryz.f25)=true:=by kernel_rfl
theorem jpm (n:Nat) : ∀a,(qd5 n).F a=main Tryz.prog 34 (j42 n) (qwj n) j3s (q00 Tryz.f25) [.tmp 4] (qd5 n).args (qd5 n).res a:=by intro a;kernel_rfl
theorem jl6 (n:Nat):q0g Inv Tryz.prog (qd5 n):=fun G hG=>⟨⟨by kernel_rfl,fun a r h=>q05 (c:=q00 Tryz.f25) Tryz.func25 (by kernel_rfl) (by kernel_rfl) (Nat.le_of_ble_eq_true (by kernel_rfl)) hG.st (by kernel_rfl) (rs:=[.tmp 4]) (by kernel_rfl) (j8e n hG) (lts:=qwj n) (fun F hF hFG=>have hK:Know Inv F.G:=hFG ▸ hG;(q02 fun j L h1 h2 h3=>absurd h2 (Nat.not_lt.2 (Nat.le_trans (by decide +kernel) h1)))) jpl ((jpm n a).symm.trans h)⟩,rfl⟩
end Go.Proofs.YtggoebaobojmjaaGreatDoor.AM
