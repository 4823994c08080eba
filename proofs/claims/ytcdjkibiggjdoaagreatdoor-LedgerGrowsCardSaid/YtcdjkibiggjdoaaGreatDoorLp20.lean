
import Derived.Test.YtcdjkibiggjdoaaGreatDoorLp18
import Derived.Test.YtcdjkibiggjdoaaGreatDoorLp19
namespace Go.Proofs.YtcdjkibiggjdoaaGreatDoor.AM
open Go.RowKit
set_option linter.unusedVariables false
set_option maxRecDepth 20000
def qt4 (n:Nat):List LC:=[]
def q0d (n:Nat)  : Option (Bool) :=
 (q5u n ([(([101,120,47,97]:List UInt8),((0:Int),((1:Int),((0:Int),(([]:List UInt8),(([]:List UInt8),([104,49,58,52,55,68,69,81,112,106,56,72,66,83,97,43,47,84,73,109,87,43,53,74,67,101,117,81,101,82,107,109,53,78,77,112,74,87,90,71,51,104,83,117,70,85,61]:List UInt8))))))),(([101,120,47,97]:List UInt8),((0:Int),((2:Int),((0:Int),(([]:List UInt8),(([]:List UInt8),([104,49,58,52,55,68,69,81,112,106,56,72,66,83,97,43,47,84,73,109,87,43,53,74,67,101,117,81,101,82,107,109,53,78,77,112,74,87,90,71,51,104,83,117,70,85,61]:List UInt8)))))))]:List (List UInt8×((Int)×((Int)×((Int)×(List UInt8×(List UInt8×(List UInt8))))))))).bind fun (r1:(List UInt8)×(Int))=>(q3a n r1.1).bind fun (r2:(List (List UInt8×((Int)×((Int)×((Int)×(List UInt8×(List UInt8×(List UInt8))))))))×(Int×(Int)))=>(q5u n ([(([101,120,47,97]:List UInt8),((0:Int),((2:Int),((0:Int),(([]:List UInt8),(([]:List UInt8),([104,49,58,52,55,68,69,81,112,106,56,72,66,83,97,43,47,84,73,109,87,43,53,74,67,101,117,81,101,82,107,109,53,78,77,112,74,87,90,71,51,104,83,117,70,85,61]:List UInt8))))))),(([101,120,47,97]:List UInt8),((0:Int),((1:Int),((0:Int),(([]:List UInt8),(([]:List UInt8),([104,49,58,52,55,68,69,81,112,106,56,72,66,83,97,43,47,84,73,109,87,43,53,74,67,101,117,81,101,82,107,109,53,78,77,112,74,87,90,71,51,104,83,117,70,85,61]:List UInt8)))))))]:List (List UInt8×((Int)×((Int)×((Int)×(List UInt8×(List UInt8×(List UInt8))))))))).bind fun (r3:(List UInt8)×(Int))=>(q3a n ([101,120,47,97,32,118,48,46,49,46,48,32,104,49,58,52,55,68,69,81,112,106,56,72,66,83,97,43,47,84,73,109,87,43,53,74,67,101,117,81,101,82,107,109,53,78,77,112,74,87,90,71,51,104,83,117,70,85,61,10,101,120,47,97,32,32,118,48,46,50,46,48,32,104,49,58,52,55,68,69,81,112,106,56,72,66,83,97,43,47,84,73,109,87,43,53,74,67,101,117,81,101,82,107,109,53,78,77,112,74,87,90,71,51,104,83,117,70,85,61,10]:List UInt8)).bind fun (r4:(List (List UInt8×((Int)×((Int)×((Int)×(List UInt8×(List UInt8×(List UInt8))))))))×(Int×(Int)))=>(qmi n r2.1 (([101,120,47,98,47,118,50]:List UInt8),((2:Int),((0:Int),((0:Int),(([]:List UInt8),(([]:List UInt8),([104,49,58,52,55,68,69,81,112,106,56,72,66,83,97,43,47,84,73,109,87,43,53,74,67,101,117,81,101,82,107,109,53,78,77,112,74,87,90,71,51,104,83,117,70,85,61]:List UInt8)))))))).bind fun (r5:(List (List UInt8×((Int)×((Int)×((Int)×(List UInt8×(List UInt8×(List UInt8))))))))×(Int))=>(qmi n r2.1 (([101,120,47,98]:List UInt8),((2:Int),((0:Int),((0:Int),(([]:List UInt8),(([]:List UInt8),([104,49,58,52,55,68,69,81,112,106,56,72,66,83,97,43,47,84,73,109,87,43,53,74,67,101,117,81,101,82,107,109,53,78,77,112,74,87,90,71,51,104,83,117,70,85,61]:List UInt8)))))))).bind fun (r6:(List (List UInt8×((Int)×((Int)×((Int)×(List UInt8×(List UInt8×(List UInt8))))))))×(Int))=>(q32 n r2.1 ([101,120,47,97]:List UInt8)).bind fun (r7:((List UInt8)×(Int×(Int×(Int×((List UInt8)×((List UInt8)×(List UInt8)))))))×(Bool))=>(q32 n r2.1 ([101,120,47,98]:List UInt8)).bind fun (r8:((List UInt8)×(Int×(Int×(Int×((List UInt8)×((List UInt8)×(List UInt8)))))))×(Bool))=>(bif decide (r1.2=(0:Int)) then (bif decide (r1.1=([101,120,47,97,32,118,48,46,49,46,48,32,104,49,58,52,55,68,69,81,112,106,56,72,66,83,97,43,47,84,73,109,87,43,53,74,67,101,117,81,101,82,107,109,53,78,77,112,74,87,90,71,51,104,83,117,70,85,61,10,101,120,47,97,32,118,48,46,50,46,48,32,104,49,58,52,55,68,69,81,112,106,56,72,66,83,97,43,47,84,73,109,87,43,53,74,67,101,117,81,101,82,107,109,53,78,77,112,74,87,90,71,51,104,83,117,70,85,61,10]:List UInt8)) then (bif decide (((List.length r2.1:Nat):Int)=(2:Int)) then (bif decide (r2.2.1=(2:Int)) then (bif decide (r2.2.2=(0:Int)) then (bif decide (r3.2=(13:Int)) then (bif decide (r4.2.1=(1:Int)) then (bif decide (r4.2.2=(10:Int)) then (bif decide (((List.length r5.1:Nat):Int)=(3:Int)) then (bif decide (r5.2=(0:Int)) then (bif decide (r6.2=(8:Int)) then (bif (decide (r7.1.1=([101,120,47,97]:List UInt8))&&((decide (r7.1.2.1=(0:Int))&&(decide (r7.1.2.2.1=(2:Int))&&(decide (r7.1.2.2.2.1=(0:Int))&&(decide (r7.1.2.2.2.2.1=([]:List UInt8))&&(decide (r7.1.2.2.2.2.2.1=([]:List UInt8))&&true)))))&&(decide (r7.1.2.2.2.2.2.2=([104,49,58,52,55,68,69,81,112,106,56,72,66,83,97,43,47,84,73,109,87,43,53,74,67,101,117,81,101,82,107,109,53,78,77,112,74,87,90,71,51,104,83,117,70,85,61]:List UInt8))&&true))) then (bif r7.2 then some (!r8.2) else some false) else some false) else some false) else some false) else some false) else some false) else some false) else some false) else some false) else some false) else some false) else some false) else some false)
def q2s (n:Nat):FC:={ f:=9,args:=[],res:=.one (.c (.d .bool)),F:=fun p=>q0d n  }
def qwt (n:Nat):List FC:=[q8k n,q5b n,qgm n,q3i n]
theorem j7f (n:Nat) {G:World->Prop} (hG:Know Inv G) : ∀c∈qwt n,q1b Tryz.prog G c/\q0e c.args=true:=List.forall_mem_cons.2 ⟨qof n G hG,List.forall_mem_cons.2 ⟨qi0 n G hG,List.forall_mem_cons.2 ⟨ja3 n G hG,List.forall_mem_cons.2 ⟨qdz n G hG,(fun _ h=>by cases h)⟩⟩⟩⟩
def qwy:q0c:=[]
theorem jfh:drB qwy (q00 Tryz.f9)=true:=by kernel_rfl
theorem ji8 (n:Nat) : ∀a,(q2s n).F a=main Tryz.prog 130 (qwt n) (qt4 n) qwy (q00 Tryz.f9) [.tmp 0] (q2s n).args (q2s n).res a:=by intro a;kernel_rfl
theorem q9n (n:Nat):q0a Inv Tryz.prog (q2s n):=fun G hG=>⟨⟨by kernel_rfl,fun a r h=>q03 (c:=q00 Tryz.f9) Tryz.func9 (by kernel_rfl) (by kernel_rfl) (Nat.le_of_ble_eq_true (by kernel_rfl)) hG.st (by kernel_rfl) (rs:=[.tmp 0]) (by kernel_rfl) (j7f n hG) (lts:=qt4 n) (fun F hF hFG=>have hK:Know Inv F.G:=hFG ▸ hG;(q02 fun j L h1 h2 h3=>absurd h2 (Nat.not_lt.2 (Nat.le_trans (by decide +kernel) h1)))) jfh ((ji8 n a).symm.trans h)⟩,rfl⟩
def qjh (n:Nat):List LC:=[]
def qa6 (n:Nat) (a1:List UInt8):Option (Bool) :=
 (bif decide ((4000:Int)<((List.length a1:Nat):Int)) then (q0d n).bind fun (r1:Bool)=>some r1 else (q3a n a1).bind fun (r2:(List (List UInt8×((Int)×((Int)×((Int)×(List UInt8×(List UInt8×(List UInt8))))))))×(Int×(Int)))=>(qdn n a1).bind fun (r3:(List (List UInt8×((Int)×((Int)×((Int)×(List UInt8×(List UInt8×(List UInt8))))))))×(Int×(Int)))=>(q7l n r2.1 r3.1).bind fun (r4:Bool)=>(bif r4 then (bif decide (r2.2.1=r3.2.1) then (bif decide (r2.2.2=r3.2.2) then (q0d n).bind fun (r5:Bool)=>some r5 else some false) else some false) else some false))
def q83 (n:Nat):FC:={ f:=3,args:=[.one (.c (.d .str))],res:=.one (.c (.d .bool)),F:=fun p=>qa6 n p }
def qmf (n:Nat):List FC:=[q2s n,q5b n,q74 n,q4o n]
theorem qvp (n:Nat) {G:World->Prop} (hG:Know Inv G) : ∀c∈qmf n,q1b Tryz.prog G c/\q0e c.args=true:=List.forall_mem_cons.2 ⟨q9n n G hG,List.forall_mem_cons.2 ⟨qi0 n G hG,List.forall_mem_cons.2 ⟨jaq n G hG,List.forall_mem_cons.2 ⟨qm5 n G hG,(fun _ h=>by cases h)⟩⟩⟩⟩
def qmj:q0c:=[]
theorem j39:drB qmj (q00 Tryz.f3)=true:=by kernel_rfl
theorem j4p (n:Nat) : ∀a,(q83 n).F a=main Tryz.prog 41 (qmf n) (qjh n) qmj (q00 Tryz.f3) [.tmp 2] (q83 n).args (q83 n).res a:=by intro a;kernel_rfl
theorem j6h (n:Nat):q0a Inv Tryz.prog (q83 n):=fun G hG=>⟨⟨by kernel_rfl,fun a r h=>q03 (c:=q00 Tryz.f3) Tryz.func3 (by kernel_rfl) (by kernel_rfl) (Nat.le_of_ble_eq_true (by kernel_rfl)) hG.st (by kernel_rfl) (rs:=[.tmp 2]) (by kernel_rfl) (qvp n hG) (lts:=qjh n) (fun F hF hFG=>have hK:Know Inv F.G:=hFG ▸ hG;(q02 fun j L h1 h2 h3=>absurd h2 (Nat.not_lt.2 (Nat.le_trans (by decide +kernel) h1)))) j39 ((j4p n a).symm.trans h)⟩,rfl⟩
def qnk (n:Nat):List LC:=[]
def qe0 (n:Nat) (a1:List (List UInt8×((Int)×((Int)×((Int)×(List UInt8×(List UInt8×(List UInt8)))))))) (a2:(List UInt8)×(Int×(Int×(Int×((List UInt8)×((List UInt8)×(List UInt8))))))):Option (Bool) :=
 (q4x n a1).bind fun (r1:Bool)=>(bif !r1 then (q0d n).bind fun (r2:Bool)=>some r2 else (q4x n ([a2]:List (List UInt8×((Int)×((Int)×((Int)×(List UInt8×(List UInt8×(List UInt8))))))))).bind fun (r3:Bool)=>(bif !r3 then (q0d n).bind fun (r4:Bool)=>some r4 else (q5u n a1).bind fun (r5:(List UInt8)×(Int))=>(qhp n a1).bind fun (r6:(List UInt8)×(Int))=>(qmi n a1 a2).bind fun (r7:(List (List UInt8×((Int)×((Int)×((Int)×(List UInt8×(List UInt8×(List UInt8))))))))×(Int))=>(qds n a1 a2).bind fun (r8:(List (List UInt8×((Int)×((Int)×((Int)×(List UInt8×(List UInt8×(List UInt8))))))))×(Int))=>(q32 n a1 a2.1).bind fun (r9:((List UInt8)×(Int×(Int×(Int×((List UInt8)×((List UInt8)×(List UInt8)))))))×(Bool))=>(qa5 n a1 a2.1).bind fun (r10:((List UInt8)×(Int×(Int×(Int×((List UInt8)×((List UInt8)×(List UInt8)))))))×(Bool))=>(bif decide (r5.1=r6.1) then (bif decide (r5.2=r6.2) then (q7l n r7.1 r8.1).bind fun (r11:Bool)=>(bif r11 then (bif decide (r7.2=r8.2) then (bif (decide (r9.1.1=r10.1.1)&&((decide (r9.1.2.1=r10.1.2.1)&&(decide (r9.1.2.2.1=r10.1.2.2.1)&&(decide (r9.1.2.2.2.1=r10.1.2.2.2.1)&&(decide (r9.1.2.2.2.2.1=r10.1.2.2.2.2.1)&&(decide (r9.1.2.2.2.2.2.1=r10.1.2.2.2.2.2.1)&&true)))))&&(decide (r9.1.2.2.2.2.2.2=r10.1.2.2.2.2.2.2)&&true))) then (bif decide (r9.2=r10.2) then (q0d n).bind fun (r12:Bool)=>some r12 else some false) else some false) else some false) else some false) else some false) else some false)))
def qb6 (n:Nat):FC:={ f:=4,args:=[.one (.c (.d (.lst (.prod .str (.prod (.int .i64) (.prod (.int .i64) (.prod (.int .i64) (.prod .str (.prod .str .str))))))))),.one (.agg [.d .str,.d (.int .i64),.d (.int .i64),.d (.int .i64),.d .str,.d .str,.d .str])],res:=.one (.c (.d .bool)),F:=fun p=>qe0 n p.1 p.2 }
def qs0 (n:Nat):List FC:=[q7c n,q2s n,q8k n,q99 n,qgm n,q9f n,q3i n,q5f n,q4o n]
theorem j0n (n:Nat) {G:World->Prop} (hG:Know Inv G) : ∀c∈qs0 n,q1b Tryz.prog G c/\q0e c.args=true:=List.forall_mem_cons.2 ⟨qtc n G hG,List.forall_mem_cons.2 ⟨q9n n G hG,List.forall_mem_cons.2 ⟨qof n G hG,List.forall_mem_cons.2 ⟨jg3 n G hG,List.forall_mem_cons.2 ⟨ja3 n G hG,List.forall_mem_cons.2 ⟨j5k n G hG,List.forall_mem_cons.2 ⟨qdz n G hG,List.forall_mem_cons.2 ⟨j45 n G hG,List.forall_mem_cons.2 ⟨qm5 n G hG,(fun _ h=>by cases h)⟩⟩⟩⟩⟩⟩⟩⟩⟩
def qpu:q0c:=[]
theorem jbo:drB qpu (q00 Tryz.f4)=true:=by kernel_rfl
theorem j8q (n:Nat) : ∀a,(qb6 n).F a=main Tryz.prog 94 (qs0 n) (qnk n) qpu (q00 Tryz.f4) [.tmp 4] (qb6 n).args (qb6 n).res a:=by intro a;kernel_rfl
theorem jb7 (n:Nat):q0a Inv Tryz.prog (qb6 n):=fun G hG=>⟨⟨by kernel_rfl,fun a r h=>q03 (c:=q00 Tryz.f4) Tryz.func4 (by kernel_rfl) (by kernel_rfl) (Nat.le_of_ble_eq_true (by kernel_rfl)) hG.st (by kernel_rfl) (rs:=[.tmp 4]) (by kernel_rfl) (j0n n hG) (lts:=qnk n) (fun F hF hFG=>have hK:Know Inv F.G:=hFG ▸ hG;(q02 fun j L h1 h2 h3=>absurd h2 (Nat.not_lt.2 (Nat.le_trans (by decide +kernel) h1)))) jbo ((j8q n a).symm.trans h)⟩,rfl⟩
@[reducible] def qau:SSt:=⟨[(0,.one (.c (.d (.lst (.prod .str (.prod (.int .i64) (.prod (.int .i64) (.prod (.int .i64) (.prod .str (.prod .str .str)))))))))),(1,.one (.c (.d .str))),(10,.one (.c (.d (.int .i64))))],[],[]⟩
@[reducible] def q6i:List (Exit×SSt):=[(.ret,⟨[(4,.one (.c (.d .bool)))],[],[]⟩),(.exit 0,⟨[(1,.one (.c (.d .str)))],[],[]⟩)]
def qm7 (n:Nat) (rec:(List (List UInt8×((Int)×((Int)×((Int)×(List UInt8×(List UInt8×(List UInt8))))))))->(List UInt8)->Int->Option (((Bool×(Unit))×(Unit)×(Unit))⊕(((List UInt8)×(Unit))×(Unit)×(Unit)))) (a1:List (List UInt8×((Int)×((Int)×((Int)×(List UInt8×(List UInt8×(List UInt8)))))))) (a2:List UInt8) (a3:Int):Option (((Bool×(Unit))×(Unit)×(Unit))⊕(((List UInt8)×(Unit))×(Unit)×(Unit))) :=
 (bif decide (a3<((List.length a1:Nat):Int)) then q0b (IntKind.wrap .i64 (a3+(1:Int))) fun (n7:Int)=>(q7n a1 (0:Int) n7).bind fun (s8:List (List UInt8×((Int)×((Int)×((Int)×(List UInt8×(List UInt8×(List UInt8))))))))=>(q1a a1 a3).bind fun (x9:List UInt8×((Int)×((Int)×((Int)×(List UInt8×(List UInt8×(List UInt8)))))))=>(q32 n s8 x9.1).bind fun (r10:((List UInt8)×(Int×(Int×(Int×((List UInt8)×((List UInt8)×(List UInt8)))))))×(Bool))=>(bif !r10.2 then some (Sum.inl ((false,()),((),()))) else (q1a a1 a3).bind fun (x11:List UInt8×((Int)×((Int)×((Int)×(List UInt8×(List UInt8×(List UInt8)))))))=>(bif !(decide (r10.1.1=x11.1)&&((decide (r10.1.2.1=x11.2.1)&&(decide (r10.1.2.2.1=x11.2.2.1)&&(decide (r10.1.2.2.2.1=x11.2.2.2.1)&&(decide (r10.1.2.2.2.2.1=x11.2.2.2.2.1)&&(decide (r10.1.2.2.2.2.2.1=x11.2.2.2.2.2.1)&&true)))))&&(decide (r10.1.2.2.2.2.2.2=x11.2.2.2.2.2.2)&&true))) then some (Sum.inl ((false,()),((),()))) else q0b (IntKind.wrap .i64 (a3+(1:Int))) fun (n12:Int)=>rec a1 a2 n12)) else some (Sum.inr (((a2,()),((),())))))
def qlz (n:Nat) (rec:pSt qau->Option (q0f q6i)) (p:pSt qau):Option (q0f q6i):=qm7 n (fun a1 a2 a3=>rec ((a1,(a2,(a3,()))),((),()))) p.1.1 p.1.2.1 p.1.2.2.1
def q48 (n m:Nat) (a1:List (List UInt8×((Int)×((Int)×((Int)×(List UInt8×(List UInt8×(List UInt8)))))))) (a2:List UInt8) (a3:Int):Option (((Bool×(Unit))×(Unit)×(Unit))⊕(((List UInt8)×(Unit))×(Unit)×(Unit))):=q0g (qlz n) m ((a1,(a2,(a3,()))),((),()))
theorem qil (n m:Nat) (a1:List (List UInt8×((Int)×((Int)×((Int)×(List UInt8×(List UInt8×(List UInt8)))))))) (a2:List UInt8) (a3:Int):q48 n (m+1) a1 a2 a3=qm7 n (fun a1 a2 a3=>q48 n m a1 a2 a3) a1 a2 a3:=rfl
def qx5 (n:Nat):LC:={ sh:=qau,outs:=q6i,F:=q0g (qlz n) n }
def qfo (n:Nat):List LC:=[qx5 n]
def qi2 (n:Nat) (a1:List (List UInt8×((Int)×((Int)×((Int)×(List UInt8×(List UInt8×(List UInt8)))))))) (a2:List UInt8):Option (Bool) :=
 (q4x n a1).bind fun (r1:Bool)=>(bif !r1 then (q0d n).bind fun (r2:Bool)=>some r2 else (bif decide ((4000:Int)<((List.length a2:Nat):Int)) then (q0d n).bind fun (r3:Bool)=>some r3 else (q5u n a1).bind fun (r4:(List UInt8)×(Int))=>(bif decide (r4.2=(0:Int)) then (q3a n r4.1).bind fun (r5:(List (List UInt8×((Int)×((Int)×((Int)×(List UInt8×(List UInt8×(List UInt8))))))))×(Int×(Int)))=>(bif !decide (r5.2.2=(0:Int)) then some false else (bif !decide (r5.2.1=((List.length a1:Nat):Int)) then some false else (q7l n r5.1 a1).bind fun (r6:Bool)=>(bif !r6 then some false else (q48 n n a1 a2 (0:Int)).bind fun (o13:((Bool×(Unit))×(Unit)×(Unit))⊕(((List UInt8)×(Unit))×(Unit)×(Unit)))=>Sum.elim (fun (q14:(Bool×(Unit))×(Unit)×(Unit))=>some q14.1.1) (fun (q15:((List UInt8)×(Unit))×(Unit)×(Unit))=>(q3a n q15.1.1).bind fun (r16:(List (List UInt8×((Int)×((Int)×((Int)×(List UInt8×(List UInt8×(List UInt8))))))))×(Int×(Int)))=>(q5u n r16.1).bind fun (r17:(List UInt8)×(Int))=>(bif !decide (r16.2.2=(0:Int)) then (q0d n).bind fun (r18:Bool)=>some r18 else (bif decide (r17.2=(0:Int)) then (bif decide (r17.1=q15.1.1) then (q0d n).bind fun (r19:Bool)=>some r19 else (qaj q15.1.1 ([10]:List UInt8)).bind fun (s20:List UInt8)=>(bif decide (r17.1=s20) then (q0d n).bind fun (r21:Bool)=>some r21 else some false)) else some false))) o13))) else (q3a n a2).bind fun (r22:(List (List UInt8×((Int)×((Int)×((Int)×(List UInt8×(List UInt8×(List UInt8))))))))×(Int×(Int)))=>(q5u n r22.1).bind fun (r23:(List UInt8)×(Int))=>(bif !decide (r22.2.2=(0:Int)) then (q0d n).bind fun (r24:Bool)=>some r24 else (bif decide (r23.2=(0:Int)) then (bif decide (r23.1=a2) then (q0d n).bind fun (r25:Bool)=>some r25 else (qaj a2 ([10]:List UInt8)).bind fun (s26:List UInt8)=>(bif decide (r23.1=s26) then (q0d n).bind fun (r27:Bool)=>some r27 else some false)) else some false)))))
def qem (n:Nat):FC:={ f:=5,args:=[.one (.c (.d (.lst (.prod .str (.prod (.int .i64) (.prod (.int .i64) (.prod (.int .i64) (.prod .str (.prod .str .str))))))))),.one (.c (.d .str))],res:=.one (.c (.d .bool)),F:=fun p=>qi2 n p.1 p.2 }
def qm4 (n:Nat):List FC:=[q7c n,q2s n,q8k n,q5b n,q4o n,q3i n]
theorem qm8 (n:Nat) {G:World->Prop} (hG:Know Inv G) : ∀c∈qm4 n,q1b Tryz.prog G c/\q0e c.args=true:=List.forall_mem_cons.2 ⟨qtc n G hG,List.forall_mem_cons.2 ⟨q9n n G hG,List.forall_mem_cons.2 ⟨qof n G hG,List.forall_mem_cons.2 ⟨qi0 n G hG,List.forall_mem_cons.2 ⟨qm5 n G hG,List.forall_mem_cons.2 ⟨qdz n G hG,(fun _ h=>by cases h)⟩⟩⟩⟩⟩⟩
def qm3:q0c:=[(11,[⟨73559785961562665201200657303214840813699477864812904449,2^183,0⟩,⟨548063113999088594326381812268606132370974703617*2^30,2^186,0⟩,⟨49*2^186,2^189,2⟩,⟨3137*2^183,2^192,7⟩,⟨301300883298560676664117892313967987972913061334273656619009,2^195,0⟩,⟨2244866514940266882360859903052210718191512386011137*2^30,2^198,0⟩,⟨393*2^195,2^201,48⟩,⟨49*2^201,2^204,112⟩,⟨49*2^204,2^207,240⟩,⟨1605633*2^192,2^210,511⟩,⟨536870915*2^181,2^180,1023⟩,⟨51539607553*2^180,2^213,2047⟩,⟨412316860417*2^180,2^216,2047⟩,⟨3*2^34,3*2^33,0⟩,⟨1532495540865888858358347027150309183618739122183602179*2^33,2^34,12287⟩,⟨766247770432944429179173513575154591809369561091801091*2^37,2^36,32767⟩]),(12,[⟨73559785961562665201200657303214840813699477864812904449*2^36,2^219,0⟩,⟨49*2^219,2^222,1⟩,⟨49*2^222,2^225,3⟩,⟨307577985033947357427953681737175654389015416778737691131907*2^33,2^228,7⟩,⟨20759158933705992641893601617005115618700601205356240810449779891896321,2^231,7⟩,⟨154316269062746159898139047180137271173460306246703824465035265*2^30,2^234,7⟩,⟨25153*2^225,2^237,55⟩,⟨200705*2^225,2^240,119⟩,⟨1605641*2^225,2^243,255⟩,⟨12845057*2^225,2^246,511⟩])]
theorem qxs:drB qm3 (q00 Tryz.f5)=true:=by kernel_rfl
theorem j9e (n:Nat) : ∀rec p,qlz n rec p=round Tryz.prog 114 (qm4 n) (qfo n) qm3 1 qau q6i (q01 0 0 (q00 Tryz.f5)) rec p:=by intro rec p;kernel_rfl
theorem j5x (n:Nat) {F:Fr} (hF:F.n=114) (hK:Know Inv F.G):q71 Tryz.prog F (qx5 n) (q01 0 0 (q00 Tryz.f5)) :=
 q0h hF (by kernel_rfl) (qm8 n hK) (j9e n) (fuel:=n) (fun _=>rfl) (q02 fun j L h1 h2 h3=>absurd h2 (Nat.not_lt.2 (Nat.le_trans (by decide +kernel) h1))) (q0r qxs)
theorem jio (n:Nat) : ∀a,(qem n).F a=main Tryz.prog 114 (qm4 n) (qfo n) qm3 (q00 Tryz.f5) [.tmp 4] (qem n).args (qem n).res a:=by intro a;kernel_rfl
theorem ji6 (n:Nat):q0a Inv Tryz.prog (qem n):=fun G hG=>⟨⟨by kernel_rfl,fun a r h=>q03 (c:=q00 Tryz.f5) Tryz.func5 (by kernel_rfl) (by kernel_rfl) (Nat.le_of_ble_eq_true (by kernel_rfl)) hG.st (by kernel_rfl) (rs:=[.tmp 4]) (by kernel_rfl) (qm8 n hG) (lts:=qfo n) (fun F hF hFG=>have hK:Know Inv F.G:=hFG ▸ hG;(q02 (c:=(q00 Tryz.f5)) (fun j L h1 h2 h3=>by
  have h2':j<1:=Nat.lt_of_lt_of_le h2 (by decide +kernel)
  match j,h1,h2',h3 with
  | 0,_,_,h3=>obtain rfl:=Option.some.inj h3;exact (show q01 0 0 (q00 Tryz.f5)=q01 0 0 (q00 Tryz.f5) by kernel_rfl) ▸ j5x n hF hK
  | j+1,_,h2',_=>exact absurd h2' (by omega)))) qxs ((jio n a).symm.trans h)⟩,rfl⟩
def qma (n:Nat):List LC:=[]
def qdw (n:Nat) (a1:List (List UInt8×((Int)×((Int)×((Int)×(List UInt8×(List UInt8×(List UInt8)))))))) (a2:(List UInt8)×(Int×(Int×(Int×((List UInt8)×((List UInt8)×(List UInt8))))))) (a3:List UInt8):Option (Bool) :=
 (q4x n a1).bind fun (r1:Bool)=>(bif !r1 then (q0d n).bind fun (r2:Bool)=>some r2 else (q4x n ([a2]:List (List UInt8×((Int)×((Int)×((Int)×(List UInt8×(List UInt8×(List UInt8))))))))).bind fun (r3:Bool)=>(bif !r3 then (q0d n).bind fun (r4:Bool)=>some r4 else (bif decide ((200:Int)<((List.length a3:Nat):Int)) then (q0d n).bind fun (r5:Bool)=>some r5 else (q5u n a1).bind fun (r6:(List UInt8)×(Int))=>(qmi n a1 a2).bind fun (r7:(List (List UInt8×((Int)×((Int)×((Int)×(List UInt8×(List UInt8×(List UInt8))))))))×(Int))=>(bif !decide (r6.2=(0:Int)) then (q0d n).bind fun (r8:Bool)=>some r8 else (bif !decide (r7.2=(0:Int)) then (q0d n).bind fun (r9:Bool)=>some r9 else (q32 n r7.1 a2.1).bind fun (r10:((List UInt8)×(Int×(Int×(Int×((List UInt8)×((List UInt8)×(List UInt8)))))))×(Bool))=>(qmi n r7.1 a2).bind fun (r11:(List (List UInt8×((Int)×((Int)×((Int)×(List UInt8×(List UInt8×(List UInt8))))))))×(Int))=>(q32 n a1 a3).bind fun (r12:((List UInt8)×(Int×(Int×(Int×((List UInt8)×((List UInt8)×(List UInt8)))))))×(Bool))=>(q32 n r7.1 a3).bind fun (r13:((List UInt8)×(Int×(Int×(Int×((List UInt8)×((List UInt8)×(List UInt8)))))))×(Bool))=>(q5u n r7.1).bind fun (r14:(List UInt8)×(Int))=>(bif r10.2 then (bif (decide (r10.1.1=a2.1)&&((decide (r10.1.2.1=a2.2.1)&&(decide (r10.1.2.2.1=a2.2.2.1)&&(decide (r10.1.2.2.2.1=a2.2.2.2.1)&&(decide (r10.1.2.2.2.2.1=a2.2.2.2.2.1)&&(decide (r10.1.2.2.2.2.2.1=a2.2.2.2.2.2.1)&&true)))))&&(decide (r10.1.2.2.2.2.2.2=a2.2.2.2.2.2.2)&&true))) then (bif decide (r11.2=(13:Int)) then (bif decide (a3=a2.1) then (bif decide (r14.2=(0:Int)) then (q0d n).bind fun (r15:Bool)=>some r15 else some false) else (bif (decide (r12.1.1=r13.1.1)&&((decide (r12.1.2.1=r13.1.2.1)&&(decide (r12.1.2.2.1=r13.1.2.2.1)&&(decide (r12.1.2.2.2.1=r13.1.2.2.2.1)&&(decide (r12.1.2.2.2.2.1=r13.1.2.2.2.2.1)&&(decide (r12.1.2.2.2.2.2.1=r13.1.2.2.2.2.2.1)&&true)))))&&(decide (r12.1.2.2.2.2.2.2=r13.1.2.2.2.2.2.2)&&true))) then (bif decide (r12.2=r13.2) then (bif decide (r14.2=(0:Int)) then (q0d n).bind fun (r16:Bool)=>some r16 else some false) else some false) else some false)) else some false) else some false) else some false))))))
def qb0 (n:Nat):FC:={ f:=6,args:=[.one (.c (.d (.lst (.prod .str (.prod (.int .i64) (.prod (.int .i64) (.prod (.int .i64) (.prod .str (.prod .str .str))))))))),.one (.agg [.d .str,.d (.int .i64),.d (.int .i64),.d (.int .i64),.d .str,.d .str,.d .str]),.one (.c (.d .str))],res:=.one (.c (.d .bool)),F:=fun p=>qdw n p.1 p.2.1 p.2.2 }
def qpy (n:Nat):List FC:=[q7c n,q2s n,q8k n,qgm n,q3i n]
theorem qzm (n:Nat) {G:World->Prop} (hG:Know Inv G) : ∀c∈qpy n,q1b Tryz.prog G c/\q0e c.args=true:=List.forall_mem_cons.2 ⟨qtc n G hG,List.forall_mem_cons.2 ⟨q9n n G hG,List.forall_mem_cons.2 ⟨qof n G hG,List.forall_mem_cons.2 ⟨ja3 n G hG,List.forall_mem_cons.2 ⟨qdz n G hG,(fun _ h=>by cases h)⟩⟩⟩⟩⟩
def qr9:q0c:=[]
theorem jak:drB qr9 (q00 Tryz.f6)=true:=by kernel_rfl
theorem j8s (n:Nat) : ∀a,(qb0 n).F a=main Tryz.prog 117 (qpy n) (qma n) qr9 (q00 Tryz.f6) [.tmp 6] (qb0 n).args (qb0 n).res a:=by intro a;kernel_rfl
theorem j9i (n:Nat):q0a Inv Tryz.prog (qb0 n):=fun G hG=>⟨⟨by kernel_rfl,fun a r h=>q03 (c:=q00 Tryz.f6) Tryz.func6 (by kernel_rfl) (by kernel_rfl) (Nat.le_of_ble_eq_true (by kernel_rfl)) hG.st (by kernel_rfl) (rs:=[.tmp 6]) (by kernel_rfl) (qzm n hG) (lts:=qma n) (fun F hF hFG=>have hK:Know Inv F.G:=hFG ▸ hG;(q02 fun j L h1 h2 h3=>absurd h2 (Nat.not_lt.2 (Nat.le_trans (by decide +kernel) h1)))) jak ((j8s n a).symm.trans h)⟩,rfl⟩
@[reducible] def q8l:SSt:=⟨[(3,.one (.c (.d (.lst (.prod .str (.prod (.int .i64) (.prod (.int .i64) (.prod (.int .i64) (.prod .str (.prod .str .str)))))))))),(4,.one (.c (.d (.int .i64)))),(6,.one (.c (.d (.int .i64)))),(7,.one (.c (.d (.int .i64)))),(49,.one (.c (.d (.lst (.prod .str (.prod (.int .i64) (.prod (.int .i64) (.prod (.int .i64) (.prod .str (.prod .str .str)))))))))),(50,.one (.c (.d (.int .i64)))),(53,.one (.c (.d .str))),(54,.one (.c (.d .bool))),(55,.one (.c (.d .bool)))],[],[]⟩
@[reducible] def q51:List (Exit×SSt):=[(.ret,⟨[(2,.one (.c (.d .bool)))],[],[]⟩),(.exit 2,⟨[(3,.one (.c (.d (.lst (.prod .str (.prod (.int .i64) (.prod (.int .i64) (.prod (.int .i64) (.prod .str (.prod .str .str)))))))))),(4,.one (.c (.d (.int .i64)))),(6,.one (.c (.d (.int .i64)))),(49,.one (.c (.d (.lst (.prod .str (.prod (.int .i64) (.prod (.int .i64) (.prod (.int .i64) (.prod .str (.prod .str .str)))))))))),(50,.one (.c (.d (.int .i64)))),(53,.one (.c (.d .str))),(54,.one (.c (.d .bool))),(55,.one (.c (.d .bool)))],[],[]⟩)]
def qgs (n:Nat) (rec:(List (List UInt8×((Int)×((Int)×((Int)×(List UInt8×(List UInt8×(List UInt8))))))))->Int->Int->Int->(List (List UInt8×((Int)×((Int)×((Int)×(List UInt8×(List UInt8×(List UInt8))))))))->Int->(List UInt8)->Bool->Bool->Option (((Bool×(Unit))×(Unit)×(Unit))⊕(((List (List UInt8×((Int)×((Int)×((Int)×(List UInt8×(List UInt8×(List UInt8))))))))×(Int×(Int×((List (List UInt8×((Int)×((Int)×((Int)×(List UInt8×(List UInt8×(List UInt8))))))))×(Int×((List UInt8)×(Bool×(Bool×(Unit)))))))))×(Unit)×(Unit)))) (a1:List (List UInt8×((Int)×((Int)×((Int)×(List UInt8×(List UInt8×(List UInt8)))))))) (a2:Int) (a3:Int) (a4:Int) (a5:List (List UInt8×((Int)×((Int)×((Int)×(List UInt8×(List UInt8×(List UInt8)))))))) (a6:Int) (a7:List UInt8) (a8:Bool) (a9:Bool):Option (((Bool×(Unit))×(Unit)×(Unit))⊕(((List (List UInt8×((Int)×((Int)×((Int)×(List UInt8×(List UInt8×(List UInt8))))))))×(Int×(Int×((List (List UInt8×((Int)×((Int)×((Int)×(List UInt8×(List UInt8×(List UInt8))))))))×(Int×((List UInt8)×(Bool×(Bool×(Unit)))))))))×(Unit)×(Unit))) :=
 (bif decide (a4<a3) then (q1a a1 a4).bind fun (x9:List UInt8×((Int)×((Int)×((Int)×(List UInt8×(List UInt8×(List UInt8)))))))=>(q1a a1 a3).bind fun (x10:List UInt8×((Int)×((Int)×((Int)×(List UInt8×(List UInt8×(List UInt8)))))))=>(bif decide (x9.1=x10.1) then (q1a a1 a4).bind fun (x11:List UInt8×((Int)×((Int)×((Int)×(List UInt8×(List UInt8×(List UInt8)))))))=>(q1a a1 a3).bind fun (x12:List UInt8×((Int)×((Int)×((Int)×(List UInt8×(List UInt8×(List UInt8)))))))=>(q2u n (x11.2.1,(x11.2.2.1,(x11.2.2.2.1,(x11.2.2.2.2.1,x11.2.2.2.2.2.1)))) (x12.2.1,(x12.2.2.1,(x12.2.2.2.1,(x12.2.2.2.2.1,x12.2.2.2.2.2.1))))).bind fun (r13:Int)=>(bif !decide (r13=(-1:Int)) then some (Sum.inl ((false,()),((),()))) else q0b (IntKind.wrap .i64 (a4+(1:Int))) fun (n14:Int)=>rec a1 a2 a3 n14 a5 a6 a7 a8 a9) else q0b (IntKind.wrap .i64 (a4+(1:Int))) fun (n15:Int)=>rec a1 a2 a3 n15 a5 a6 a7 a8 a9) else some (Sum.inr (((a1,(a2,(a3,(a5,(a6,(a7,(a8,(a9,())))))))),((),())))))
def qgt (n:Nat) (rec:pSt q8l->Option (q0f q51)) (p:pSt q8l):Option (q0f q51):=qgs n (fun a1 a2 a3 a4 a5 a6 a7 a8 a9=>rec ((a1,(a2,(a3,(a4,(a5,(a6,(a7,(a8,(a9,()))))))))),((),()))) p.1.1 p.1.2.1 p.1.2.2.1 p.1.2.2.2.1 p.1.2.2.2.2.1 p.1.2.2.2.2.2.1 p.1.2.2.2.2.2.2.1 p.1.2.2.2.2.2.2.2.1 p.1.2.2.2.2.2.2.2.2.1
def q2d (n m:Nat) (a1:List (List UInt8×((Int)×((Int)×((Int)×(List UInt8×(List UInt8×(List UInt8)))))))) (a2:Int) (a3:Int) (a4:Int) (a5:List (List UInt8×((Int)×((Int)×((Int)×(List UInt8×(List UInt8×(List UInt8)))))))) (a6:Int) (a7:List UInt8) (a8:Bool) (a9:Bool):Option (((Bool×(Unit))×(Unit)×(Unit))⊕(((List (List UInt8×((Int)×((Int)×((Int)×(List UInt8×(List UInt8×(List UInt8))))))))×(Int×(Int×((List (List UInt8×((Int)×((Int)×((Int)×(List UInt8×(List UInt8×(List UInt8))))))))×(Int×((List UInt8)×(Bool×(Bool×(Unit)))))))))×(Unit)×(Unit))):=q0g (qgt n) m ((a1,(a2,(a3,(a4,(a5,(a6,(a7,(a8,(a9,()))))))))),((),()))
theorem qfq (n m:Nat) (a1:List (List UInt8×((Int)×((Int)×((Int)×(List UInt8×(List UInt8×(List UInt8)))))))) (a2:Int) (a3:Int) (a4:Int) (a5:List (List UInt8×((Int)×((Int)×((Int)×(List UInt8×(List UInt8×(List UInt8)))))))) (a6:Int) (a7:List UInt8) (a8:Bool) (a9:Bool):q2d n (m+1) a1 a2 a3 a4 a5 a6 a7 a8 a9=qgs n (fun a1 a2 a3 a4 a5 a6 a7 a8 a9=>q2d n m a1 a2 a3 a4 a5 a6 a7 a8 a9) a1 a2 a3 a4 a5 a6 a7 a8 a9:=rfl
def qrx (n:Nat):LC:={ sh:=q8l,outs:=q51,F:=q0g (qgt n) n }
@[reducible] def q7p:SSt:=⟨[(3,.one (.c (.d (.lst (.prod .str (.prod (.int .i64) (.prod (.int .i64) (.prod (.int .i64) (.prod .str (.prod .str .str)))))))))),(4,.one (.c (.d (.int .i64)))),(6,.one (.c (.d (.int .i64))))],[],[]⟩
@[reducible] def q52:List (Exit×SSt):=[(.ret,⟨[(2,.one (.c (.d .bool)))],[],[]⟩),(.exit 0,⟨[(3,.one (.c (.d (.lst (.prod .str (.prod (.int .i64) (.prod (.int .i64) (.prod (.int .i64) (.prod .str (.prod .str .str)))))))))),(4,.one (.c (.d (.int .i64))))],[],[]⟩)]
def qgg (n:Nat) (rec:(List (List UInt8×((Int)×((Int)×((Int)×(List UInt8×(List UInt8×(List UInt8))))))))->Int->Int->Option (((Bool×(Unit))×(Unit)×(Unit))⊕(((List (List UInt8×((Int)×((Int)×((Int)×(List UInt8×(List UInt8×(List UInt8))))))))×(Int×(Unit)))×(Unit)×(Unit)))) (a1:List (List UInt8×((Int)×((Int)×((Int)×(List UInt8×(List UInt8×(List UInt8)))))))) (a2:Int) (a3:Int):Option (((Bool×(Unit))×(Unit)×(Unit))⊕(((List (List UInt8×((Int)×((Int)×((Int)×(List UInt8×(List UInt8×(List UInt8))))))))×(Int×(Unit)))×(Unit)×(Unit))) :=
 (bif decide (a3<((List.length a1:Nat):Int)) then (q1a a1 a3).bind fun (x4:List UInt8×((Int)×((Int)×((Int)×(List UInt8×(List UInt8×(List UInt8)))))))=>(q1a a1 a3).bind fun (x5:List UInt8×((Int)×((Int)×((Int)×(List UInt8×(List UInt8×(List UInt8)))))))=>(qb9 n x4.1 (x5.2.1,(x5.2.2.1,(x5.2.2.2.1,(x5.2.2.2.2.1,x5.2.2.2.2.2.1))))).bind fun (r6:Bool)=>(bif !r6 then some (Sum.inl ((false,()),((),()))) else (q1a a1 a3).bind fun (x7:List UInt8×((Int)×((Int)×((Int)×(List UInt8×(List UInt8×(List UInt8)))))))=>(q7j n x7.2.2.2.2.2.2).bind fun (r8:Bool)=>(bif !r8 then some (Sum.inl ((false,()),((),()))) else (q2d n n a1 a2 a3 (0:Int) a1 a3 x7.2.2.2.2.2.2 r8 (!r8)).bind fun (o16:((Bool×(Unit))×(Unit)×(Unit))⊕(((List (List UInt8×((Int)×((Int)×((Int)×(List UInt8×(List UInt8×(List UInt8))))))))×(Int×(Int×((List (List UInt8×((Int)×((Int)×((Int)×(List UInt8×(List UInt8×(List UInt8))))))))×(Int×((List UInt8)×(Bool×(Bool×(Unit)))))))))×(Unit)×(Unit)))=>Sum.elim (fun (q17:(Bool×(Unit))×(Unit)×(Unit))=>some (Sum.inl ((q17.1.1,()),((),())))) (fun (q18:((List (List UInt8×((Int)×((Int)×((Int)×(List UInt8×(List UInt8×(List UInt8))))))))×(Int×(Int×((List (List UInt8×((Int)×((Int)×((Int)×(List UInt8×(List UInt8×(List UInt8))))))))×(Int×((List UInt8)×(Bool×(Bool×(Unit)))))))))×(Unit)×(Unit))=>q0b (IntKind.wrap .i64 (q18.1.2.2.1+(1:Int))) fun (n19:Int)=>rec q18.1.1 q18.1.2.1 n19) o16)) else some (Sum.inr (((a1,(a2,())),((),())))))
def qfz (n:Nat) (rec:pSt q7p->Option (q0f q52)) (p:pSt q7p):Option (q0f q52):=qgg n (fun a1 a2 a3=>rec ((a1,(a2,(a3,()))),((),()))) p.1.1 p.1.2.1 p.1.2.2.1
def q2c (n m:Nat) (a1:List (List UInt8×((Int)×((Int)×((Int)×(List UInt8×(List UInt8×(List UInt8)))))))) (a2:Int) (a3:Int):Option (((Bool×(Unit))×(Unit)×(Unit))⊕(((List (List UInt8×((Int)×((Int)×((Int)×(List UInt8×(List UInt8×(List UInt8))))))))×(Int×(Unit)))×(Unit)×(Unit))):=q0g (qfz n) m ((a1,(a2,(a3,()))),((),()))
theorem qgq (n m:Nat) (a1:List (List UInt8×((Int)×((Int)×((Int)×(List UInt8×(List UInt8×(List UInt8)))))))) (a2:Int) (a3:Int):q2c n (m+1) a1 a2 a3=qgg n (fun a1 a2 a3=>q2c n m a1 a2 a3) a1 a2 a3:=rfl
def qqh (n:Nat):LC:={ sh:=q7p,outs:=q52,F:=q0g (qfz n) n }
def q8a (n:Nat):List LC:=[qqh n,qrx n]
def qeh (n:Nat) (a1:List UInt8):Option (Bool) :=
 (bif decide ((4000:Int)<((List.length a1:Nat):Int)) then (q0d n).bind fun (r1:Bool)=>some r1 else (q3a n a1).bind fun (r2:(List (List UInt8×((Int)×((Int)×((Int)×(List UInt8×(List UInt8×(List UInt8))))))))×(Int×(Int)))=>(bif !decide (r2.2.2=(0:Int)) then (bif decide (((List.length r2.1:Nat):Int)=(0:Int)) then (bif decide ((0:Int)<=r2.2.1) then (q0d n).bind fun (r3:Bool)=>some r3 else some false) else some false) else (q2c n n r2.1 r2.2.1 (0:Int)).bind fun (o20:((Bool×(Unit))×(Unit)×(Unit))⊕(((List (List UInt8×((Int)×((Int)×((Int)×(List UInt8×(List UInt8×(List UInt8))))))))×(Int×(Unit)))×(Unit)×(Unit)))=>Sum.elim (fun (q21:(Bool×(Unit))×(Unit)×(Unit))=>some q21.1.1) (fun (q22:((List (List UInt8×((Int)×((Int)×((Int)×(List UInt8×(List UInt8×(List UInt8))))))))×(Int×(Unit)))×(Unit)×(Unit))=>(bif decide (q22.1.2.1=((List.length q22.1.1:Nat):Int)) then (q0d n).bind fun (r23:Bool)=>some r23 else some false)) o20))
def qa4 (n:Nat):FC:={ f:=8,args:=[.one (.c (.d .str))],res:=.one (.c (.d .bool)),F:=fun p=>qeh n p }
def qam (n:Nat):List FC:=[q2s n,q5b n,q8z n,q6v n,q3d n]
theorem qb4 (n:Nat) {G:World->Prop} (hG:Know Inv G) : ∀c∈qam n,q1b Tryz.prog G c/\q0e c.args=true:=List.forall_mem_cons.2 ⟨q9n n G hG,List.forall_mem_cons.2 ⟨qi0 n G hG,List.forall_mem_cons.2 ⟨j57 n G hG,List.forall_mem_cons.2 ⟨qxc n G hG,List.forall_mem_cons.2 ⟨qg5 n G hG,(fun _ h=>by cases h)⟩⟩⟩⟩⟩
def qbe:q0c:=[(9,[⟨1947111321950560360698936123458048,2^108,0⟩,⟨59421121885698253195157962753*2^18,2^111,0⟩,⟨393*2^108,2^114,3⟩,⟨49*2^114,2^117,7⟩,⟨49*2^117,2^120,15⟩,⟨63802943797675961899382738893456540160,2^123,0⟩,⟨510423550381407695195061911147652579328,2^126,0⟩,⟨393*2^123,2^129,96⟩,⟨49*2^129,2^132,224⟩,⟨49*2^132,2^135,480⟩,⟨1605633*2^120,2^138,1023⟩,⟨49*2^138,2^141,2047⟩,⟨49*2^141,2^144,4095⟩,⟨1092736514728000533935250195359769713793040896,2^147,8191⟩,⟨8585786901434289909491251534969619179802722304,2^150,8191⟩,⟨3145*2^144,2^153,32767⟩,⟨25089*2^144,2^156,65535⟩,⟨200705*2^144,2^159,131071⟩,⟨1605633*2^144,2^162,262143⟩,⟨12845057*2^144,2^165,524287⟩,⟨102760449*2^144,2^168,1048575⟩]),(1000009,[]),(14,[⟨588478287692501321609605258425718726509595822918503236096,2^186,0⟩,⟨2244866514940266882360859903052210718191512386011137*2^21,2^189,0⟩,⟨393*2^186,2^192,3⟩,⟨49*2^192,2^195,7⟩,⟨49*2^195,2^198,15⟩,⟨19283256531107883306503545108093951230266435925393514023617024,2^201,0⟩,⟨588478287692501321609605258425718726509595822918503235585*2^18,2^204,0⟩,⟨393*2^201,2^207,96⟩,⟨49*2^207,2^210,224⟩,⟨49*2^210,2^213,480⟩,⟨1605633*2^198,2^216,1023⟩,⟨49*2^216,2^219,2047⟩,⟨41282418334074417185583866851998809469006877397015251611689903194624,2^222,4095⟩,⟨154667786759927814020913851387836900492762038151593810397757441*2^21,2^225,4095⟩,⟨3145*2^219,2^228,16383⟩,⟨25089*2^219,2^231,32767⟩,⟨200705*2^219,2^234,65535⟩,⟨1325136141082121595644966708901410356234071473817477422984094685457285632,2^237,4095⟩,⟨40439923214602048209981073714453630692780921678216846287241085976577*2^18,2^240,4095⟩,⟨103022593*2^219,2^243,397311⟩,⟨822083585*2^219,2^246,921599⟩,⟨6576668673*2^219,2^249,1970175⟩,⟨52613382145*2^219,2^252,4194303⟩,⟨420906795009*2^219,2^255,8388607⟩,⟨3367254360065*2^219,2^258,16777215⟩]),(1000014,[])]
theorem qgh:drB qbe (q00 Tryz.f8)=true:=by kernel_rfl
theorem j2q (n:Nat) : ∀rec p,qgt n rec p=round Tryz.prog 94 (qam n) (q8a n) qbe 2 q8l q51 (q01 0 1 (q00 Tryz.f8)) rec p:=by intro rec p;kernel_rfl
theorem j4d (n:Nat) : ∀rec p,qfz n rec p=round Tryz.prog 94 (qam n) (q8a n) qbe 1 q7p q52 (q01 0 0 (q00 Tryz.f8)) rec p:=by intro rec p;kernel_rfl
theorem qhm (n:Nat) {F:Fr} (hF:F.n=94) (hK:Know Inv F.G):q71 Tryz.prog F (qrx n) (q01 0 1 (q00 Tryz.f8)) :=
 q0h hF (by kernel_rfl) (qb4 n hK) (j2q n) (fuel:=n) (fun _=>rfl) (q02 fun j L h1 h2 h3=>absurd h2 (Nat.not_lt.2 (Nat.le_trans (by decide +kernel) h1))) (q0r qgh)
theorem j0j (n:Nat) {F:Fr} (hF:F.n=94) (hK:Know Inv F.G):q71 Tryz.prog F (qqh n) (q01 0 0 (q00 Tryz.f8)) :=
 q0h hF (by kernel_rfl) (qb4 n hK) (j4d n) (fuel:=n) (fun _=>rfl) (q02 (c:=(q01 0 0 (q00 Tryz.f8))) (fun j L h1 h2 h3=>by
  have h2':j<2:=Nat.lt_of_lt_of_le h2 (by decide +kernel)
  match j,h1,h2',h3 with
  | 0,h1,_,_=>exact absurd h1 (by decide)
  | 1,_,_,h3=>obtain rfl:=Option.some.inj h3;exact (show q01 0 1 (q00 Tryz.f8)=q01 1 1 (q01 0 0 (q00 Tryz.f8)) by kernel_rfl) ▸ qhm n hF hK
  | j+2,_,h2',_=>exact absurd h2' (by omega))) (q0r qgh)
theorem jbj (n:Nat) : ∀a,(qa4 n).F a=main Tryz.prog 94 (qam n) (q8a n) qbe (q00 Tryz.f8) [.tmp 2] (qa4 n).args (qa4 n).res a:=by intro a;kernel_rfl
theorem j9h (n:Nat):q0a Inv Tryz.prog (qa4 n):=fun G hG=>⟨⟨by kernel_rfl,fun a r h=>q03 (c:=q00 Tryz.f8) Tryz.func8 (by kernel_rfl) (by kernel_rfl) (Nat.le_of_ble_eq_true (by kernel_rfl)) hG.st (by kernel_rfl) (rs:=[.tmp 2]) (by kernel_rfl) (qb4 n hG) (lts:=q8a n) (fun F hF hFG=>have hK:Know Inv F.G:=hFG ▸ hG;(q02 (c:=(q00 Tryz.f8)) (fun j L h1 h2 h3=>by
  have h2':j<2:=Nat.lt_of_lt_of_le h2 (by decide +kernel)
  match j,h1,h2',h3 with
  | 0,_,_,h3=>obtain rfl:=Option.some.inj h3;exact (show q01 0 0 (q00 Tryz.f8)=q01 0 0 (q00 Tryz.f8) by kernel_rfl) ▸ j0j n hF hK
  | 1,_,_,h3=>obtain rfl:=Option.some.inj h3;exact (show q01 0 1 (q00 Tryz.f8)=q01 0 1 (q00 Tryz.f8) by kernel_rfl) ▸ qhm n hF hK
  | j+2,_,h2',_=>exact absurd h2' (by omega)))) qgh ((jbj n a).symm.trans h)⟩,rfl⟩
end Go.Proofs.YtcdjkibiggjdoaaGreatDoor.AM
namespace Go.Proofs.YtcdjkibiggjdoaaGreatDoor.AM
open Go.RowKit
set_option linter.unusedVariables false
set_option linter.unusedSimpArgs false
theorem qdu : ∀(ls:List (List UInt8)) (d:List TgD),(q0j d ls).1.length<=d.length+ls.length
 | [],d=>by simp [q0j]
 | s::ls,d=>by
  unfold q0j
  cases qap s with
  | none=>simp
  | some t =>
   by_cases hw:q09 d t=0
   ·simp only [if_pos hw]
    have:=qdu ls (d ++ [t])
    simp only [List.length_append,List.length_cons,List.length_nil] at this ⊢
    omega
   ·simp only [if_neg hw,List.length_nil];omega
theorem jc1 (n:Nat) (hn:200000<=n) (hv:q0d n=some true) (s:List UInt8):qa6 n s=some true:=by
 unfold qa6
 by_cases h4:s.length<=4000
 ·rw [decide_eq_false (by omega),cond_false,qan n hn s (by omega),Option.bind_some,j1u n hn s (by omega),Option.bind_some]
  have hl:=qdu (q0q s) []
  have hk:=(q7h (Nat.le_refl s.length)).1
  simp only [List.length_nil] at hl
  rw [qda n _ (by omega) (by omega),Option.bind_some,cond_true,decide_eq_true rfl,cond_true,decide_eq_true rfl,cond_true,hv]
  rfl
 ·rw [decide_eq_true (by omega),cond_true,hv];rfl
theorem j62 {l:List TgD} (h:jt5 l=true):l.length<=60/\∀t∈l,few t:=by
 unfold jt5 at h
 obtain ⟨h1,h2⟩:=Bool.and_eq_true_iff.1 h
 refine ⟨of_decide_eq_true h2,fun t ht=>?_⟩
 have h3:=List.all_eq_true.1 h1 t ht
 unfold fewT at h3
 obtain ⟨h4,h5⟩:=Bool.and_eq_true_iff.1 h3
 obtain ⟨h6,h7⟩:=Bool.and_eq_true_iff.1 h5
 have h4':=of_decide_eq_true h4
 have h6':=of_decide_eq_true h6
 exact ⟨by omega,by show t.2.2.2.2.2.2.length<=5000;omega⟩
theorem jfn (n:Nat) (hn:200000<=n) (hv:q0d n=some true) (l:List TgD) (t:TgD) (hL:l.length<=9223372036854775807) (hl:l.length<n):qe0 n l t=some true:=by
 unfold qe0
 rw [q7b n l hL hl,Option.bind_some]
 cases hf:jt5 l with
 | false=>rw [Bool.not_false,cond_true,hv];rfl
 | true =>
  rw [Bool.not_true,cond_false]
  show (q4x n [t]).bind _=_
  rw [q7b n [t] (by simp) (by simp;omega),Option.bind_some]
  cases hf2:jt5 [t] with
  | false=>rw [Bool.not_false,cond_true,hv];rfl
  | true =>
   rw [Bool.not_true,cond_false]
   obtain ⟨h60,hall⟩:=j62 hf
   have ht:=(j62 hf2).2 t (by simp)
   rw [q8x n hn l (by omega) (fun t ht=>q58 (hall t ht)),Option.bind_some,j75 n hn l (by omega) hall,Option.bind_some,qs1 n hn l t (by omega) (q58 ht),Option.bind_some,qrj n hn l t (by omega) ht,Option.bind_some,
    q5l n (by omega) l t.1 (by omega) (by omega),Option.bind_some,qvl n (by omega) l t.1 (by omega) (by omega),Option.bind_some,decide_eq_true rfl,cond_true,decide_eq_true rfl,cond_true]
   have hadd:(jph l t).1.length<=l.length+1:=by
    unfold jph
    split<;>simp
   rw [qda n _ (by omega) (by omega),Option.bind_some,cond_true,decide_eq_true rfl,cond_true]
   show (bif eqT ((q0i t.1 none l).getD z0T) ((q0i t.1 none l).getD z0T) then _ else some false)=_
   rw [qqp.2 rfl,cond_true,decide_eq_true rfl,cond_true,hv]
   rfl
theorem Good.inv {l:List TgD} {t:TgD} (h:Good (l ++ [t])):Good l/\q09 l t=0:=by
 generalize hx:l ++ [t]=x at h
 cases h with
 | nil=>simp at hx
 | @snoc l' t' h1 h2 =>
  obtain ⟨e1,e2⟩:=List.append_inj' hx rfl
  subst e1
  obtain rfl:=List.singleton_inj.1 e2
  exact ⟨h1,h2⟩
theorem qs9 : ∀(l d:List TgD),Good d->(q4i d l).2=0->Good (d++l)/\(q4i d l).1=((d++l).map q4g).flatten
 | [],d,hd,h=>by rw [List.append_nil];exact ⟨hd,rfl⟩
 | t::l,d,hd,h=>by
  have e:q4i d (t::l)=if q09 d t=0 then q4i (d ++ [t]) l else ([],q09 d t):=rfl
  rw [e] at h ⊢
  by_cases hw:q09 d t=0
  ·rw [if_pos hw] at h ⊢
   have:=qs9 l (d ++ [t]) (.snoc hd hw) h
   rw [List.append_assoc] at this
   exact this
  ·rw [if_neg hw] at h;exact absurd h hw
theorem jdv : ∀(k:Nat) {a m:List TgD},m.length=k->Good (a++m)->Good a
 | 0,a,m,hm,h=>by
  have:m = []:=List.eq_nil_of_length_eq_zero hm
  rw [this,List.append_nil] at h;exact h
 | k+1,a,m,hm,h=>by
  rcases List.eq_nil_or_concat m with rfl|⟨m',x,rfl⟩
  ·simp at hm
  ·rw [List.concat_eq_append,<-List.append_assoc] at h
   rw [List.concat_eq_append,List.length_append] at hm
   exact jdv k (by simpa using hm) h.inv.1
theorem j0u {a m:List TgD} (h:Good (a++m)):Good a:=jdv m.length rfl h
theorem qj4 : ∀(l d:List TgD),Good (d++l)->q4i d l=(((d++l).map q4g).flatten,0)
 | [],d,hd=>by rw [List.append_nil];rfl
 | t::l,d,hd=>by
  have e:q4i d (t::l)=if q09 d t=0 then q4i (d ++ [t]) l else ([],q09 d t):=rfl
  have h2:d++t::l=(d ++ [t])++l:=by simp
  have hw:q09 d t=0:=(j0u (m:=l) (by rw [h2] at hd;exact hd)).inv.2
  rw [e,if_pos hw,h2]
  exact qj4 l (d ++ [t]) (by rw [<-h2];exact hd)
def step (p:List UInt8) (b:Option TgD) (t:TgD):Option TgD:=if t.1=p then (match b with
   | none=>some t
   | some m=>if 0<q8w (tV t) (tV m) then some t else b) else b
theorem q4p (p:List UInt8) : ∀(l:List TgD) (b:Option TgD),q0i p b l=l.foldl (step p) b
 | [],b=>rfl
 | t::l,b=>by
  rw [q1t,List.foldl_cons]
  unfold step
  by_cases hp:t.1=p
  ·rw [if_pos hp,if_pos hp]
   cases b with
   | none=>exact q4p p l (some t)
   | some m =>
    by_cases hc:0<q8w (tV t) (tV m)
    ·simp only [hc,if_true];exact q4p p l (some t)
    ·simp only [hc,if_false];exact q4p p l (some m)
  ·rw [if_neg hp,if_neg hp];exact q4p p l b
theorem ql1 {p:List UInt8} : ∀{l:List TgD} {b:Option TgD} {m:TgD},q0i p b l=some m->b=some m\/(m∈l/\m.1=p)
 | [],b,m,h=>Or.inl h
 | t::l,b,m,h=>by
  rw [q1t] at h
  have up:q0i p b l=some m->b=some m\/(m∈t::l/\m.1=p):=fun h=>by
   rcases ql1 h with h1|⟨h1,h2⟩
   ·exact Or.inl h1
   ·exact Or.inr ⟨List.mem_cons_of_mem _ h1,h2⟩
  have ut:t.1=p->q0i p (some t) l=some m->b=some m\/(m∈t::l/\m.1=p):=fun hp h=>by
   rcases ql1 h with h1|⟨h1,h2⟩
   ·obtain rfl:=Option.some.inj h1
    exact Or.inr ⟨List.mem_cons_self ..,hp⟩
   ·exact Or.inr ⟨List.mem_cons_of_mem _ h1,h2⟩
  by_cases hp:t.1=p
  ·rw [if_pos hp] at h
   cases b with
   | none=>exact ut hp h
   | some q =>
    by_cases hc:0<q8w (tV t) (tV q)
    ·simp only [hc,if_true] at h;exact ut hp h
    ·simp only [hc,if_false] at h;exact up h
  ·rw [if_neg hp] at h;exact up h
theorem qfy {l:List TgD} {t:TgD} (h:q09 l t=0) (p:List UInt8):q0i p none (l ++ [t])=if t.1=p then some t else q0i p none l:=by
 have h0:=q4p p l none
 rw [q4p,List.foldl_append]
 show step p (l.foldl (step p) none) t=_
 rw [<-h0]
 unfold step
 by_cases hp:t.1=p
 ·rw [if_pos hp,if_pos hp]
  cases hm:q0i p none l with
  | none=>rfl
  | some m =>
   have hmem:m∈l/\m.1=p:=by
    rcases ql1 hm with h1|h1
    ·cases h1
    ·exact h1
   obtain ⟨hj,ha⟩:=q70 h
   have h1:qe2 t m=false:=by
    apply Bool.eq_false_iff.2
    exact List.any_eq_false.1 ha m hmem.1
   have h2 : ¬ 0<=q8w (tV m) (tV t):=fun h3=>by
    have:qe2 t m=true:=by unfold qe2;rw [decide_eq_true (hmem.2.trans hp.symm),decide_eq_true h3];rfl
    rw [h1] at this;cases this
   have h4:=qd1 (tV m) (tV t)
   have h5:0<q8w (tV t) (tV m):=by omega
   simp only [h5,if_true]
 ·rw [if_neg hp,if_neg hp]
theorem jii (n:Nat) (hn:200000<=n) (hv:q0d n=some true) (l:List TgD) (t:TgD) (p:List UInt8) (hL:l.length<=9223372036854775807) (hl:l.length<n):qdw n l t p=some true:=by
 unfold qdw
 rw [q7b n l hL hl,Option.bind_some]
 cases hf:jt5 l with
 | false=>rw [Bool.not_false,cond_true,hv];rfl
 | true =>
  rw [Bool.not_true,cond_false]
  show (q4x n [t]).bind _=_
  rw [q7b n [t] (by simp) (by simp;omega),Option.bind_some]
  cases hf2:jt5 [t] with
  | false=>rw [Bool.not_false,cond_true,hv];rfl
  | true =>
   rw [Bool.not_true,cond_false]
   obtain ⟨h60,hall⟩:=j62 hf
   have ht:=(j62 hf2).2 t (by simp)
   by_cases hp2:p.length<=200
   ·rw [decide_eq_false (by omega),cond_false,q8x n hn l (by omega) (fun t ht=>q58 (hall t ht)),Option.bind_some,qs1 n hn l t (by omega) (q58 ht),Option.bind_some]
    by_cases he:(q4i [] l).2=0
    ·rw [decide_eq_true he,Bool.not_true,cond_false]
     obtain ⟨hg,_⟩:=qs9 l [] .nil he
     rw [List.nil_append] at hg
     unfold jph
     by_cases hw:q09 l t=0
     ·rw [if_pos hw]
      have hg2:Good (l ++ [t]):=.snoc hg hw
      have hlen:(l ++ [t]).length<=61:=by simp;omega
      have hall2 : ∀x∈l ++ [t],few x:=fun x hx=>by
       rcases List.mem_append.1 hx with h|h
       ·exact hall x h
       ·rw [List.mem_singleton.1 h];exact ht
      have ht2:=qj4 (l ++ [t]) [] (by rw [List.nil_append];exact hg2)
      have hw2:q09 (l ++ [t]) t=13:=by
       unfold q09
       rw [if_pos (q70 hw).1,if_pos]
       rw [List.any_append,List.any_cons]
       have:qe2 t t=true:=by unfold qe2;rw [decide_eq_true rfl,jo0];rfl
       rw [this,Bool.true_or,Bool.or_true]
      simp only [decide_true,Bool.not_true,cond_false]
      rw [q5l n (by omega) (l ++ [t]) t.1 (by omega) (by omega),Option.bind_some,qs1 n hn (l ++ [t]) t (by omega) (q58 ht),Option.bind_some,q5l n (by omega) l p (by omega) (by omega),Option.bind_some,
       q5l n (by omega) (l ++ [t]) p (by omega) (by omega),Option.bind_some,q8x n hn (l ++ [t]) (by omega) (fun x hx=>q58 (hall2 x hx)),Option.bind_some,qfy hw,qfy hw,if_pos rfl,ht2]
      show (bif true then (bif eqT t t then _ else some false) else some false)=_
      have h13:(jph (l ++ [t]) t).2=13:=by unfold jph;rw [if_neg (by rw [hw2];omega)];exact hw2
      rw [cond_true,qqp.2 rfl,cond_true,h13,decide_eq_true rfl,cond_true]
      by_cases hp:p=t.1
      ·rw [decide_eq_true hp,cond_true]
       show (bif decide ((0:Int)=0) then _ else some false)=_
       rw [decide_eq_true rfl,cond_true,hv];rfl
      ·rw [decide_eq_false hp,cond_false,if_neg (fun h=>hp h.symm)]
       show (bif eqT ((q0i p none l).getD z0T) ((q0i p none l).getD z0T) then _ else some false)=_
       rw [qqp.2 rfl,cond_true,decide_eq_true rfl,cond_true]
       show (bif decide ((0:Int)=0) then _ else some false)=_
       rw [decide_eq_true rfl,cond_true,hv];rfl
     ·rw [if_neg hw]
      have h2:decide ((q09 l t)=(0:Int))=false:=decide_eq_false hw
      simp only [h2,Bool.not_false,cond_true,hv]
      rfl
    ·rw [decide_eq_false he,Bool.not_false,cond_true,hv];rfl
   ·rw [decide_eq_true (by omega),cond_true,hv];rfl
end Go.Proofs.YtcdjkibiggjdoaaGreatDoor.AM
namespace Go.Proofs.YtcdjkibiggjdoaaGreatDoor.AM
open Go.RowKit
set_option linter.unusedVariables false
set_option linter.unusedSimpArgs false
theorem jn5 {l:List TgD} (h:Good l) {j:Nat} (hj:j<l.length):q09 (l.take j) l[j]=0:=by
 have e:l=(l.take j ++ [l[j]])++l.drop (j+1):=by rw [<-q9o hj,List.take_append_drop]
 rw [e] at h
 exact (j0u h).inv.2
theorem jvk {l:List TgD} (h:Good l) {i j:Nat} (hij:i<j) (hj:j<l.length) (hp:l[i].1=l[j].1):q8w (tV l[i]) (tV l[j]) = -1:=by
 obtain ⟨_,ha⟩:=q70 (jn5 h hj)
 have hi:i<(l.take j).length:=by rw [List.length_take];omega
 have hm:l[i]∈l.take j:=by
  have:=List.getElem_mem hi
  rwa [List.getElem_take] at this
 have h1:qe2 l[j] l[i]=false:=by
  apply Bool.eq_false_iff.2
  exact List.any_eq_false.1 ha l[i] hm
 have h2 : ¬ 0<=q8w (tV l[i]) (tV l[j]):=fun h3=>by
  have:qe2 l[j] l[i]=true:=by unfold qe2;rw [decide_eq_true hp,decide_eq_true h3];rfl
  rw [h1] at this;cases this
 rcases jrj (tV l[i]) (tV l[j]) with h|h|h<;>omega
theorem qfv : ∀(ls:List (List UInt8)) (d:List TgD),Good d->((q0j d ls).2.2=0->Good (q0j d ls).1/\(q0j d ls).2.1=(((q0j d ls).1.length:Nat):Int))/\((q0j d ls).2.2≠0->(q0j d ls).1 = []/\0<=(q0j d ls).2.1)
 | [],d,hd=>⟨fun _=>⟨hd,rfl⟩,fun h=>absurd rfl h⟩
 | s::ls,d,hd=>by
  have e:q0j d (s::ls)=match qap s with
    | none=>([],((d.length:Int),10))
    | some t=>if q09 d t=0 then q0j (d ++ [t]) ls else ([],((d.length:Int),q09 d t)):=rfl
  rw [e]
  cases qap s with
  | none=>exact ⟨fun h=>by simp at h,fun _=>⟨rfl,by show 0<=(d.length:Int);omega⟩⟩
  | some t =>
   by_cases hw:q09 d t=0
   ·simp only [if_pos hw]
    exact qfv ls (d ++ [t]) (.snoc hd hw)
   ·simp only [if_neg hw]
    exact ⟨fun h=>absurd h hw,fun _=>⟨by trivial,by omega⟩⟩
theorem qkg (k:Nat) : ∀(ls:List (List UInt8)) (d:List TgD),(∀s∈ls,s.length<=k)->(∀t∈d,t.1.length<=k/\(tH t).length<=k)->∀t∈(q0j d ls).1,t.1.length<=k/\(tH t).length<=k
 | [],d,_,hd=>hd
 | s::ls,d,hs,hd=>by
  have e:q0j d (s::ls)=match qap s with
    | none=>([],((d.length:Int),10))
    | some t=>if q09 d t=0 then q0j (d ++ [t]) ls else ([],((d.length:Int),q09 d t)):=rfl
  rw [e]
  cases hr:qap s with
  | none=>intro t ht;cases ht
  | some t =>
   by_cases hw:q09 d t=0
   ·simp only [if_pos hw]
    refine qkg k ls (d ++ [t]) (fun s h=>hs s (List.mem_cons_of_mem _ h)) fun x hx=>?_
    rcases List.mem_append.1 hx with h|h
    ·exact hd x h
    ·rw [List.mem_singleton.1 h]
     have h1:=qrl hr
     have h2:=hs s (List.mem_cons_self ..)
     exact ⟨by omega,by omega⟩
   ·simp only [if_neg hw]
    intro t ht;cases ht
theorem j00 (n:Nat) (hn:200000<=n) (l:List TgD) (hg:Good l) (hL:l.length<=1000000) (k:Int) (j:Nat) (hj:j<l.length) (h:List UInt8) (b c:Bool) : ∀m i:Nat,i<=j->j - i<m ->
  q2d n m l k (j:Int) (i:Int) l (j:Int) h b c=some (Sum.inr (((l,(k,((j:Int),(l,((j:Int),(h,(b,(c,())))))))),((),()))))
 | 0,i,hi,hm=>absurd hm (Nat.not_lt_zero _)
 | m+1,i,hi,hm=>by
  rw [qfq]
  unfold qgs
  by_cases hij:i<j
  ·have h1:(i:Int)<(j:Int):=by omega
   rw [decide_eq_true h1,cond_true,q1k (show i<l.length by omega),Option.bind_some,q1k hj,Option.bind_some]
   have hw:IntKind.wrap .i64 ((i:Int)+1)=((i+1:Nat):Int):=q06 (by omega)
   by_cases hp:l[i].1=l[j].1
   ·rw [decide_eq_true hp,cond_true,Option.bind_some,Option.bind_some]
    show (q2u n (tV l[i]) (tV l[j])).bind _=_
    rw [qa2 n _ _ (by omega),Option.bind_some,jvk hg hij hj hp,decide_eq_true rfl,Bool.not_true,cond_false]
    unfold q0b
    rw [hw]
    exact j00 n hn l hg hL k j hj h b c m (i+1) hij (by omega)
   ·rw [decide_eq_false hp,cond_false]
    unfold q0b
    rw [hw]
    exact j00 n hn l hg hL k j hj h b c m (i+1) hij (by omega)
  ·have h1 : ¬ (i:Int)<(j:Int):=by omega
   rw [decide_eq_false h1,cond_false]
theorem j43 (n:Nat) (hn:200000<=n) (l:List TgD) (hg:Good l) (hL:l.length<=100000) (hs : ∀t∈l,few t) (k:Int) : ∀m j:Nat,j<=l.length->l.length - j<m ->
  q2c n m l k (j:Int)=some (Sum.inr (((l,(k,())),((),()))))
 | 0,j,hj,hm=>absurd hm (Nat.not_lt_zero _)
 | m+1,j,hj,hm=>by
  rw [qgq]
  unfold qgg
  by_cases hjl:j<l.length
  ·have h1:(j:Int)<((l.length:Nat):Int):=by omega
   rw [decide_eq_true h1,cond_true,q1k hjl,Option.bind_some,Option.bind_some]
   have hst:=hs l[j] (List.getElem_mem hjl)
   obtain ⟨_,_,hfit,hhash⟩:=q3j (hg.judge l[j] (List.getElem_mem hjl))
   show (qb9 n l[j].1 (tV l[j])).bind _=_
   rw [qs2 n l[j].1 (tV l[j]) hst.1 (by omega),Option.bind_some,hfit,Bool.not_true,cond_false,Option.bind_some]
   show (q7j n (tH l[j])).bind _=_
   rw [qnt n hn (tH l[j]) hst.2,Option.bind_some,hhash]
   have hin:=j00 n hn l hg (by omega) k j hjl (tH l[j]) true (!true) n 0 (Nat.zero_le _) (by omega)
   have hin':q2d n n l k (j:Int) (0:Int) l (j:Int) (tH l[j]) true (!true)=_:=hin
   rw [Bool.not_true,cond_false]
   show (q2d n n l k (j:Int) (0:Int) l (j:Int) (tH l[j]) true (!true)).bind _=_
   rw [hin',Option.bind_some]
   rw [Sum.elim_inr]
   unfold q0b
   show q2c n m l k (IntKind.wrap .i64 ((j:Int)+1))=_
   rw [q06 (by omega)]
   exact j43 n hn l hg hL hs k m (j+1) hjl (by omega)
  ·have h1 : ¬ (j:Int)<((l.length:Nat):Int):=by omega
   rw [decide_eq_false h1,cond_false]
theorem jfj (n:Nat) (hn:200000<=n) (hv:q0d n=some true) (s:List UInt8):qeh n s=some true:=by
 unfold qeh
 by_cases h4:s.length<=4000
 ·rw [decide_eq_false (by omega),cond_false,qan n hn s (by omega),Option.bind_some]
  obtain ⟨g1,g2⟩:=qfv (q0q s) [] .nil
  have hl:=qdu (q0q s) []
  obtain ⟨hk,hk2⟩:=q7h (Nat.le_refl s.length)
  have hfew:=qkg s.length (q0q s) [] hk2 (fun t ht=>by cases ht)
  simp only [List.length_nil] at hl
  generalize q0j [] (q0q s)=r at *
  by_cases he:r.2.2=0
  ·obtain ⟨hg,hlen⟩:=g1 he
   rw [decide_eq_true he,Bool.not_true,cond_false]
   have ho:=j43 n hn r.1 hg (by omega) (fun t ht=>by have:=hfew t ht;exact ⟨by omega,by omega⟩) r.2.1 n 0 (Nat.zero_le _) (by omega)
   have ho':q2c n n r.1 r.2.1 (0:Int)=_:=ho
   rw [ho',Option.bind_some]
   show (bif decide (r.2.1=((r.1.length:Nat):Int)) then _ else some false)=_
   rw [decide_eq_true hlen,cond_true,hv];rfl
  ·obtain ⟨e1,e2⟩:=g2 he
   rw [decide_eq_false he,Bool.not_false,cond_true,e1]
   show (bif decide (((0:Nat):Int)=0) then _ else some false)=_
   rw [decide_eq_true (show (((0:Nat):Int)=0) from rfl),cond_true,decide_eq_true e2,cond_true,hv];rfl
 ·rw [decide_eq_true (by omega),cond_true,hv];rfl
end Go.Proofs.YtcdjkibiggjdoaaGreatDoor.AM
namespace Go.Proofs.YtcdjkibiggjdoaaGreatDoor.AM
open Go.RowKit
set_option linter.unusedVariables false
set_option linter.unusedSimpArgs false
def gap (c:UInt8):Prop:=c=10\/c=32
theorem jxg {c:UInt8} (h:gap c):qux c=false:=by rcases h with rfl|rfl<;>decide
theorem jvj {c:UInt8} (h:gap c):q1i c=false:=by rcases h with rfl|rfl<;>decide
theorem jyn {c:UInt8} (h:gap c):qh6 c=false:=by rcases h with rfl|rfl<;>decide
theorem jqh (w:List UInt8) (h:qcs w=true):w.all qh6=true:=by
 unfold qcs at h
 simp only [Bool.and_eq_true] at h
 exact h.2.2.2
theorem jnp {p:List UInt8} (h:okS p=true) {c:UInt8} (hc:gap c):c ∉ p:=by
 intro hm
 unfold okS qbl at h
 have h1:=(Bool.and_eq_true_iff.1 (Bool.and_eq_true_iff.1 h).1).2
 have h2:=((qsb 47 qh6 p []).1 (List.all_eq_true.2 fun w hw=>jqh w (List.all_eq_true.1 h1 w hw))).2 c hm
 rcases h2 with h2|h2
 ·subst h2;rcases hc with hc|hc<;>exact absurd hc (by decide)
 ·rw [jyn hc] at h2;cases h2
theorem ok_ne {p:List UInt8} (h:okS p=true):p ≠ []:=fun h0=>by subst h0;exact absurd h (by decide)
theorem jjc : ∀(s:List UInt8) (c:UInt8),c∈Bs.q73 s->c=61 \/ ∃ k,k<64/\c=Bs.sg k
 | a::b::d::r,c,h=>by
  have ha:=UInt8.toNat_lt a;have hb:=UInt8.toNat_lt b;have hd:=UInt8.toNat_lt d
  unfold Bs.q73 at h
  simp only [List.mem_cons] at h
  rcases h with h|h|h|h|h
  ·exact Or.inr ⟨_,by omega,h⟩
  ·exact Or.inr ⟨_,by omega,h⟩
  ·exact Or.inr ⟨_,by omega,h⟩
  ·exact Or.inr ⟨_,by omega,h⟩
  ·exact jjc r c h
 | [a,b],c,h=>by
  have ha:=UInt8.toNat_lt a;have hb:=UInt8.toNat_lt b
  unfold Bs.q73 at h
  simp only [List.mem_cons,List.not_mem_nil,or_false] at h
  rcases h with h|h|h|h
  ·exact Or.inr ⟨_,by omega,h⟩
  ·exact Or.inr ⟨_,by omega,h⟩
  ·exact Or.inr ⟨_,by omega,h⟩
  ·exact Or.inl h
 | [a],c,h=>by
  have ha:=UInt8.toNat_lt a
  unfold Bs.q73 at h
  simp only [List.mem_cons,List.not_mem_nil,or_false] at h
  rcases h with h|h|h|h
  ·exact Or.inr ⟨_,by omega,h⟩
  ·exact Or.inr ⟨_,by omega,h⟩
  ·exact Or.inl h
  ·exact Or.inl h
 | [],c,h=>by cases h
theorem jym : ∀k:Fin 64,Bs.sg k.val≠10/\Bs.sg k.val≠32:=by decide +kernel
theorem jwm (s:List UInt8) {c:UInt8} (hc:gap c):c ∉ Bs.q73 s:=fun h=>by
 rcases jjc s c h with h1|⟨k,hk,h1⟩
 ·subst h1;rcases hc with hc|hc<;>exact absurd hc (by decide)
 ·have:=jym ⟨k,hk⟩
  rcases hc with hc|hc
  ·exact this.1 (h1.symm.trans hc)
  ·exact this.2 (h1.symm.trans hc)
theorem jkd {h:List UInt8} (hh:q3u h=true) {c:UInt8} (hc:gap c):c ∉ h:=by
 intro hm
 unfold q3u at hh
 obtain ⟨h1,h2⟩:=Bool.and_eq_true_iff.1 hh
 obtain ⟨h3,h4⟩:=Bool.and_eq_true_iff.1 h2
 obtain ⟨r,hr⟩:=of_decide_eq_true h1
 have hd:h.drop 3=r:=by rw [<-hr];rfl
 have he:Bs.q73 (Bs.qcx (h.drop 3)).1=h.drop 3:=Bs.jnr (by rw [<-h3])
 rw [<-hr] at hm
 rcases List.mem_append.1 hm with hm|hm
 ·unfold h1L at hm
  rcases hc with rfl|rfl<;>revert hm<;>decide
 ·rw [<-hd,<-he] at hm
  exact jwm _ hc hm
theorem hash_ne {h:List UInt8} (hh:q3u h=true):h ≠ []:=fun h0=>by subst h0;exact absurd hh (by decide)
theorem je5 {d:UInt8} {s:List UInt8} {c:UInt8} (hc:gap c) (hd : ¬ gap d) (h : ∀b∈s,b=46\/qux b=true):c ∉ q5t d s:=by
 unfold q5t
 split
 ·exact List.not_mem_nil
 ·intro hm
  rcases List.mem_cons.1 hm with hm|hm
  ·exact hd (hm ▸ hc)
  ·rcases h _ hm with h2|h2
   ·subst h2;rcases hc with hc|hc<;>exact absurd hc (by decide)
   ·rw [jxg hc] at h2;cases h2
theorem jjm {v:VD} (h:q0u v=true) {c:UInt8} (hc:gap c):c ∉ q3f v:=by
 obtain ⟨h1,h2,h3,h4,h5⟩:=q1g h
 have g45 : ¬ gap 45:=fun h=>by rcases h with h|h<;>exact absurd h (by decide)
 have g43 : ¬ gap 43:=fun h=>by rcases h with h|h<;>exact absurd h (by decide)
 have n118:c≠118:=fun h=>by subst h;rcases hc with hc|hc<;>exact absurd hc (by decide)
 have n46:c≠46:=fun h=>by subst h;rcases hc with hc|hc<;>exact absurd hc (by decide)
 have t1:=je5 (d:=45) hc g45 (qzd j7a h4)
 have t2:=je5 (d:=43) hc g43 (qzd qy1 h5)
 have d:=fun n=>qsy (jvj hc) n
 unfold q3f
 rw [if_pos h]
 unfold jiq
 rw [q0z h1.1,q0z h2.1,q0z h3.1]
 simp [n118,n46,d,t1,t2]
def qh9 (t:TgD):List UInt8:=t.1++32::(q3f (tV t)++32::tH t)
theorem js3 (t:TgD):q4g t=qh9 t ++ [10]:=by unfold q4g qh9;simp
theorem jgx {t:TgD} (h:q31 t=0):(10:UInt8) ∉ qh9 t:=by
 obtain ⟨h1,h2,_,h4⟩:=q3j h
 have g:gap 10:=Or.inl rfl
 unfold qh9
 simp [jnp h1 g,jjm h2 g,jkd h4 g]
theorem jhi {t:TgD} (h:q31 t=0):j7e t.1 (q3f (tV t)) (tH t)=some t:=by
 obtain ⟨h1,h2,_,h4⟩:=q3j h
 have hp:=jdk h2 rfl
 rw [qqa ⟨by rw [hp],ok_ne h1,hash_ne h4⟩,hp]
 rfl
theorem jhv {t:TgD} (h:q31 t=0):qap (qh9 t)=some t:=by
 obtain ⟨h1,h2,_,h4⟩:=q3j h
 have g:gap 32:=Or.inr rfl
 unfold qap qh9
 rw [qak 32 _ _ (jnp h1 g),qak 32 _ _ (jjm h2 g),q96 32 _ (jkd h4 g)]
 exact jhi h
def F10 (l:List (List UInt8)):List UInt8:=(l.map (· ++ [10])).flatten
theorem qox (x:List UInt8) (l:List (List UInt8)):F10 (x::l)=x++10::F10 l:=by unfold F10;simp
theorem jyc (x:List UInt8) (l:List (List UInt8)):F10 (x::l) ≠ []:=by rw [qox];simp
theorem j2d : ∀(x:List UInt8) (l:List (List UInt8)),F10 (x::l)=(F10 (x::l)).dropLast ++ [10]/\((∀y∈x::l,(10:UInt8) ∉ y)->spl 10 [] (F10 (x::l)).dropLast=x::l)
 | x,[]=>by
  have e:F10 [x]=x ++ [10]:=by rw [qox];rfl
  rw [e,List.dropLast_concat]
  exact ⟨rfl,fun h=>q96 10 x (h x (by simp))⟩
 | x,y::l=>by
  obtain ⟨h1,h2⟩:=j2d y l
  have e:(F10 (x::y::l)).dropLast=x++10::(F10 (y::l)).dropLast:=by
   rw [qox x,h1,show x++10::((F10 (y::l)).dropLast ++ [10])=(x++10::(F10 (y::l)).dropLast) ++ [10] by simp,List.dropLast_concat]
   rw [<-h1]
  rw [e]
  refine ⟨?_,fun h=>?_⟩
  ·rw [qox x]
   rw [List.append_assoc,List.cons_append,<-h1]
  ·rw [qak 10 x _ (h x (by simp)),h2 (fun z hz=>h z (by simp [List.mem_cons] at hz ⊢;exact Or.inr hz))]
theorem j9n {l:List (List UInt8)} (h : ∀y∈l,(10:UInt8) ∉ y):q0q (F10 l)=l:=by
 cases l with
 | nil=>rfl
 | cons x l =>
  obtain ⟨h1,h2⟩:=j2d x l
  unfold q0q
  rw [if_neg (jyc x l)]
  have he:qey (F10 (x::l))=true:=by unfold qey;rw [h1];simp
  rw [if_pos he,h2 h]
theorem je4 (l:List TgD):(l.map q4g).flatten=F10 (l.map qh9):=by
 unfold F10
 rw [List.map_map]
 congr 1
 exact List.map_congr_left fun t _=>js3 t
theorem qyy {l:List TgD} (h : ∀t∈l,q31 t=0):q0q (l.map q4g).flatten=l.map qh9:=by
 rw [je4]
 refine j9n fun y hy=>?_
 obtain ⟨t,ht,rfl⟩:=List.mem_map.1 hy
 exact jgx (h t ht)
theorem qwl : ∀(l d:List TgD),Good (d++l)->q0j d (l.map qh9)=(d++l,((((d++l).length:Nat):Int),0))
 | [],d,_=>by rw [List.append_nil];rfl
 | t::l,d,h=>by
  have h2:d++t::l=(d ++ [t])++l:=by simp
  have hw:q09 d t=0:=(j0u (m:=l) (by rw [h2] at h;exact h)).inv.2
  have hj:=(q70 hw).1
  show (match qap (qh9 t) with
    | none=>([],((d.length:Int),10))
    | some t=>if q09 d t=0 then q0j (d ++ [t]) (l.map qh9) else ([],((d.length:Int),q09 d t)))=_
  rw [jhv hj]
  show (if q09 d t=0 then q0j (d ++ [t]) (l.map qh9) else ([],((d.length:Int),q09 d t)))=_
  rw [if_pos hw,h2]
  exact qwl l (d ++ [t]) (by rw [<-h2];exact h)
theorem jhs {l:List TgD} (h:Good l):q0j [] (q0q (l.map q4g).flatten)=(l,(((l.length:Nat):Int),0)):=by
 rw [qyy h.judge]
 exact qwl l [] (by rw [List.nil_append];exact h)
theorem jt8 (c:UInt8) (s:List UInt8) : ∀w∈spl c [] s,c ∉ w:=by
 have h:=(qsb c (fun b=>!decide (b=c)) s []).2 ⟨rfl,fun b _=>by
  by_cases hb:b=c
  ·exact Or.inl hb
  ·exact Or.inr (by simp [hb])⟩
 intro w hw hm
 have:=List.all_eq_true.1 (List.all_eq_true.1 h w hw) c hm
 simp at this
theorem jg7 {s:List UInt8} {t:TgD} (h:qap s=some t):qh9 t=s:=by
 unfold qap at h
 have hno:=jt8 32 s
 generalize hL:spl 32 [] s=L at h hno
 unfold jh9 at h
 split at h
 case h_2=>cases h
 rename_i p v hh
 unfold j7e at h
 split at h
 case isFalse=>cases h
 rename_i hc
 obtain rfl:=Option.some.inj h
 obtain ⟨h1,h2⟩:=qyn hc.1
 show p++32::(q3f (q19 v).1++32::hh)=s
 rw [h2]
 apply jbi 32
 rw [hL,qak 32 _ _ (hno p (by simp)),qak 32 _ _ (hno v (by simp)),q96 32 _ (hno hh (by simp))]
theorem qst : ∀(ls:List (List UInt8)) (d:List TgD),(q0j d ls).2.2=0->∃ l,(q0j d ls).1=d++l/\l.map qh9=ls
 | [],d,_=>⟨[],by rw [List.append_nil];rfl,rfl⟩
 | s::ls,d,h=>by
  have e:q0j d (s::ls)=match qap s with
    | none=>([],((d.length:Int),10))
    | some t=>if q09 d t=0 then q0j (d ++ [t]) ls else ([],((d.length:Int),q09 d t)):=rfl
  rw [e] at h ⊢
  cases hr:qap s with
  | none=>rw [hr] at h;simp at h
  | some t =>
   rw [hr] at h
   by_cases hw:q09 d t=0
   ·simp only [if_pos hw] at h ⊢
    obtain ⟨l,h1,h2⟩:=qst ls (d ++ [t]) h
    refine ⟨t::l,by rw [h1];simp,by rw [List.map_cons,h2,jg7 hr]⟩
   ·simp only [if_neg hw] at h
    exact absurd h hw
theorem jlk (s:List UInt8):F10 (q0q s)=s\/F10 (q0q s)=s ++ [10]:=by
 unfold q0q
 by_cases h0:s = []
 ·rw [if_pos h0];exact Or.inl h0.symm
 ·rw [if_neg h0]
  have key : ∀u:List UInt8,F10 (spl 10 [] u)=u ++ [10]:=fun u=>by
   have hno:=jt8 10 u
   cases hL:spl 10 [] u with
   | nil=>exact absurd hL (jis 10 u [])
   | cons x l =>
    rw [hL] at hno
    obtain ⟨h1,h2⟩:=j2d x l
    have h3:=h2 hno
    rw [h1,jbi 10 _ u (h3.trans hL.symm)]
  by_cases he:qey s=true
  ·rw [if_pos he,key]
   left
   unfold qey at he
   rcases List.eq_nil_or_concat s with h|⟨m,c,rfl⟩
   ·exact absurd h h0
   ·simp at he
    subst he
    simp
  ·rw [if_neg he,key];exact Or.inr rfl
theorem jgg {s:List UInt8} (h:(q0j [] (q0q s)).2.2=0):((q0j [] (q0q s)).1.map q4g).flatten=s\/((q0j [] (q0q s)).1.map q4g).flatten=s ++ [10]:=by
 obtain ⟨l,h1,h2⟩:=qst (q0q s) [] h
 rw [List.nil_append] at h1
 rw [h1,je4,h2]
 exact jlk s
end Go.Proofs.YtcdjkibiggjdoaaGreatDoor.AM
