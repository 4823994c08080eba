
import Derived.Test.YtapfankgdkdkgaaGreatDoorEc9
namespace Go.Proofs.YtapfankgdkdkgaaGreatDoor.AM
open Go.RowKit
set_option linter.unusedVariables false
set_option maxRecDepth 20000
abbrev Z2:=((Int×Unit)×Unit×Unit)⊕(((List Yy)×((List Yy)×Unit))×Unit×Unit)
abbrev Z3:=((Bool×Unit)×Unit×Unit)⊕((Bool×((List Yy)×(Int×Unit)))×Unit×Unit)
abbrev Z4:=((Bool×Unit)×Unit×Unit)⊕((Unit×Unit)×(Vv×Unit)×Unit)
abbrev Z5:=((Int×Unit)×Unit×Unit)⊕((Int×Unit)×Unit×Unit)
abbrev Z6:=((Bool×Unit)×Unit×Unit)⊕((Yy×Unit)×Unit×Unit)
abbrev Z7:=((Bool×Unit)×Unit×Unit)⊕(Unit×Unit×Unit)
abbrev Z8:=((Int×Unit)×Unit×Unit)⊕(Unit×Unit×Unit)
abbrev Z9:=(Unit×Unit)×Unit×((List Yy)×Unit)
def q1e (n:Nat) (a1:Yy) (a2:Yy):Option Bool :=
 (bif decide ((a2.length:Int)<=(a1.length:Int)) then (q1a a1 (0:Int) (a2.length:Int)).bind fun s1=>some (decide (s1=a2)) else some false)
def q8d (n:Nat):FC:={ f:=181,args:=[.one (.c (.d .str)),.one (.c (.d .str))],res:=.one (.c (.d .bool)),F:=fun p=>q1e n p.1 p.2 }
theorem q3x (n:Nat):q05 Inv Tryz.prog (q8d n):=mkF Tryz.func181 [] [] (cn) (by kernel_rfl) trivial (by intro a;kernel_rfl)
def q8f (n:Nat) (a1:Yy) (a2:Yy):Option Yy :=
 (q1e n a1 a2).bind fun r1=>(bif r1 then (q1a a1 (a2.length:Int) (a1.length:Int)).bind fun s2=>some s2 else some a1)
def qm8 (n:Nat):FC:={ f:=183,args:=[.one (.c (.d .str)),.one (.c (.d .str))],res:=.one (.c (.d .str)),F:=fun p=>q8f n p.1 p.2 }
theorem qm9 (n:Nat):q05 Inv Tryz.prog (qm8 n):=mkF Tryz.func183 [] [] (cc (q3x n) <| cn) (by kernel_rfl) trivial (by intro a;kernel_rfl)
def q6f (n:Nat) (a1:Yy) (a2:Yy):Option Yy :=
 (q8f n a1 a2).bind fun r1=>some r1
def qqq (n:Nat):FC:={ f:=155,args:=[.one (.c (.d .str)),.one (.c (.d .str))],res:=.one (.c (.d .str)),F:=fun p=>q6f n p.1 p.2 }
theorem qcs (n:Nat):q05 Inv Tryz.prog (qqq n):=mkF Tryz.func155 [] [] (cc (qm9 n) <| cn) (by kernel_rfl) trivial (by intro a;kernel_rfl)
def j7b (n:Nat) (a1:Yy) (a2:Yy):Option (Yy×(Yy×Bool)) :=
 (qlw a1 a2).bind fun (r1:Int)=>(bif decide (0<=r1) then (q1a a1 (0:Int) r1).bind fun s2=>q00 (IntKind.wrap .i64 (r1+(a2.length:Int))) fun (n3:Int)=>(q1a a1 n3 (a1.length:Int)).bind fun s4=>some (s2,(s4,true)) else some (a1,(([]:Yy),false)))
def jl4 (n:Nat):FC:={ f:=82,args:=[.one (.c (.d .str)),.one (.c (.d .str))],res:=.tup [.c (.d .str),.c (.d .str),.c (.d .bool)],F:=fun p=>j7b n p.1 p.2 }
def jjm:q1j:=[(3,[⟨3298534883329,2^39,0⟩,⟨12582913*2^21,2^42,0⟩,⟨393*2^39,2^45,3⟩,⟨1688849860263937,2^48,0⟩,⟨6442450945*2^21,2^51,0⟩,⟨108086391056891912,2^54,0⟩,⟨49*2^54,2^57,32⟩,⟨3137*2^51,2^60,112⟩,⟨200705*2^48,2^63,248⟩,⟨35184372113408,4096,7⟩,⟨9223372036854972416,32768,1023⟩,⟨3*2^19,2^18,2047⟩])]
theorem jjo (n:Nat):q05 Inv Tryz.prog (jl4 n):=mkF Tryz.func82 jjm [] (cc (jf6) <| cn) (by kernel_rfl) trivial (by intro a;kernel_rfl)
def qrp (n:Nat) (a1:Yy) (a2:Yy):Option (Yy×(Yy×Bool)) :=
 (j7b n a1 a2).bind fun r1=>some r1
def jno (n:Nat):FC:={ f:=55,args:=[.one (.c (.d .str)),.one (.c (.d .str))],res:=.tup [.c (.d .str),.c (.d .str),.c (.d .bool)],F:=fun p=>qrp n p.1 p.2 }
theorem jaa (n:Nat):q05 Inv Tryz.prog (jno n):=mkF Tryz.func55 [] [] (cc (jjo n) <| cn) (by kernel_rfl) trivial (by intro a;kernel_rfl)
def qrc (n:Nat) (a1:Int):Option Bool :=
 some (!decide (a1=a1))
def jgf (n:Nat):FC:={ f:=184,args:=[.one (.c (.d (.int .i64)))],res:=.one (.c (.d .bool)),F:=fun p=>qrc n p }
theorem jgn (n:Nat):q05 Inv Tryz.prog (jgf n):=mkF Tryz.func184 [] [] (cn) (by kernel_rfl) trivial (by intro a;kernel_rfl)
def q81 (n:Nat) (a1:Int) (a2:Int):Option Int :=
 (qrc n a1).bind fun r1=>(qrc n a2).bind fun r2=>(bif r1 then (bif r2 then some (0:Int) else some (-1:Int)) else (bif r2 then some (1:Int) else (bif decide (a1<a2) then some (-1:Int) else (bif decide (a2<a1) then some (1:Int) else some (0:Int)))))
def j8t (n:Nat):FC:={ f:=158,args:=[.one (.c (.d (.int .i64))),.one (.c (.d (.int .i64)))],res:=.one (.c (.d (.int .i64))),F:=fun p=>q81 n p.1 p.2 }
theorem qsz (n:Nat):q05 Inv Tryz.prog (j8t n):=mkF Tryz.func158 [] [] (cc (jgn n) <| cn) (by kernel_rfl) trivial (by intro a;kernel_rfl)
@[reducible] def jam:SSt:=⟨[(3,.one (.c (.d (.int .i64)))),(6,.one (.c (.d (.lst (.int .i64))))),(7,.one (.c (.d (.int .i64)))),(8,.one (.c (.d (.int .i64))))],[],[]⟩
@[reducible] def qzb:List (Exit×SSt):=[(.ret,⟨[(2,.one (.c (.d (.int .i64))))],[],[]⟩),(.exit 0,⟨[(3,.one (.c (.d (.int .i64))))],[],[]⟩)]
def qpc (n:Nat) (rec:Int->(List Int)->Int->Int->Option Z5) (a1:Int) (a2:List Int) (a3:Int) (a4:Int):Option Z5 :=
 (bif decide (a4<a3) then (q0d a2 a4).bind fun x1=>(bif !decide (x1=a1) then some (Sum.inl ((x1,()),((),()))) else q00 (IntKind.wrap .i64 (a4+1)) fun n2=>rec a1 a2 a3 n2) else some (Sum.inr (((a1,()),((),())))))
def qzx (n:Nat):Stp jam qzb:=fun rec p=>qpc n (fun a1 a2 a3 a4=>rec ((a1,(a2,(a3,(a4,())))),((),()))) p.1.1 p.1.2.1 p.1.2.2.1 p.1.2.2.2.1
def q8i (n m:Nat) (a1:Int) (a2:List Int) (a3:Int) (a4:Int):Option Z5:=q0v (qzx n) m ((a1,(a2,(a3,(a4,())))),((),()))
theorem qgl (n m:Nat) (a1 a2 a3 a4):q8i n (m+1) a1 a2 a3 a4=qpc n (fun a1 a2 a3 a4=>q8i n m a1 a2 a3 a4) a1 a2 a3 a4:=rfl
def qlr (n:Nat) (a1:List Int):Option Int :=
 (q8i n n (0:Int) a1 (a1.length:Int) (0:Int)).bind fun o3=>Sum.elim (fun (q4:(Int×Unit)×Unit×Unit)=>some q4.1.1) (fun (q5:(Int×Unit)×Unit×Unit)=>some q5.1.1) o3
def jgh (n:Nat):FC:={ f:=157,args:=[.one (.c (.d (.lst (.int .i64))))],res:=.one (.c (.d (.int .i64))),F:=fun p=>qlr n p }
theorem j11 (n:Nat):q05 Inv Tryz.prog (jgh n):=mkF Tryz.func157 [] [q4o qzx n] (cn) (by kernel_rfl) ⟨ls (by intro rec p;kernel_rfl),trivial⟩ (by intro a;kernel_rfl)
@[reducible] def j68:SSt:=⟨[(1,.one (.c (.box 1 0))),(11,.one (.agg [.d (.int .i64),.d (.int .i64),.d (.int .i64)])),(12,.one (.c (.d (.int .i64))))],[(1,(44,[.d (.int .i64),.d (.int .i64),.d (.int .i64),.d .str,.d .str]))],[]⟩
@[reducible] def qru:List (Exit×SSt):=[(.ret,⟨[(2,.one (.c (.d .bool)))],[],[]⟩),(.exit 0,⟨[(1,.one (.c (.box 1 0)))],[(1,(44,[.d (.int .i64),.d (.int .i64),.d (.int .i64),.d .str,.d .str]))],[]⟩)]
def qci (n:Nat) (rec:Int->Int->Int->Int->Int->Int->Int->Yy->Yy->Option Z4) (a1:Int) (a2:Int) (a3:Int) (a4:Int) (a5:Int) (a6:Int) (a7:Int) (a8:Yy) (a9:Yy):Option Z4 :=
 (bif decide (a4<3) then (q0d ([a1,a2,a3]:List Int) a4).bind fun x1=>(bif decide (x1<0) then some (Sum.inl ((false,()),((),()))) else (bif decide (999999999<x1) then some (Sum.inl ((false,()),((),()))) else q00 (IntKind.wrap .i64 (a4+1)) fun n2=>rec a1 a2 a3 n2 a5 a6 a7 a8 a9)) else some (Sum.inr ((((),()),(((a5,(a6,(a7,(a8,a9)))),()),())))))
def qu5 (n:Nat):Stp j68 qru:=fun rec p=>qci n (fun a1 a2 a3 a4 a5 a6 a7 a8 a9=>rec (((),((a1,(a2,a3)),(a4,()))),(((a5,(a6,(a7,(a8,a9)))),()),()))) p.1.2.1.1 p.1.2.1.2.1 p.1.2.1.2.2 p.1.2.2.1 p.2.1.1.1 p.2.1.1.2.1 p.2.1.1.2.2.1 p.2.1.1.2.2.2.1 p.2.1.1.2.2.2.2
def q4c (n m:Nat) (a1:Int) (a2:Int) (a3:Int) (a4:Int) (a5:Int) (a6:Int) (a7:Int) (a8:Yy) (a9:Yy):Option Z4:=q0v (qu5 n) m (((),((a1,(a2,a3)),(a4,()))),(((a5,(a6,(a7,(a8,a9)))),()),()))
theorem q6r (n m:Nat) (a1 a2 a3 a4 a5 a6 a7 a8 a9):q4c n (m+1) a1 a2 a3 a4 a5 a6 a7 a8 a9=qci n (fun a1 a2 a3 a4 a5 a6 a7 a8 a9=>q4c n m a1 a2 a3 a4 a5 a6 a7 a8 a9) a1 a2 a3 a4 a5 a6 a7 a8 a9:=rfl
def q53 (n:Nat) (a1:Vv):Option Bool :=
 (q4c n n a1.1 a1.2.1 a1.2.2.1 (0:Int) a1.1 a1.2.1 a1.2.2.1 a1.2.2.2.1 a1.2.2.2.2).bind fun o3=>Sum.elim (fun (q4:(Bool×Unit)×Unit×Unit)=>some q4.1.1) (fun (q5:(Unit×Unit)×(Vv×Unit)×Unit)=>(qkm q5.2.1.1.2.2.2.1 ()).bind fun (r6:Bool)=>(bif r6 then (qfd q5.2.1.1.2.2.2.2 ()).bind fun (r7:Bool)=>some r7 else some false)) o3
def jbi (n:Nat):FC:={ f:=74,args:=[.one (.agg [.d (.int .i64),.d (.int .i64),.d (.int .i64),.d .str,.d .str])],res:=.one (.c (.d .bool)),F:=fun p=>q53 n p }
theorem q9t (n:Nat):q05 Inv Tryz.prog (jbi n):=mkF Tryz.func74 [] [q4o qu5 n] (cc (j55) <| cc (qwx) <| cn) (by kernel_rfl) ⟨ls (by intro rec p;kernel_rfl),trivial⟩ (by intro a;kernel_rfl)
def qba (n:Nat) (a1:Vv):Option Yy :=
 (q53 n a1).bind fun r1=>(bif !r1 then some ([]:Yy) else (qkz a1.1).bind fun (r2:Yy)=>(q5q ([118]:Yy) r2).bind fun s3=>(q5q s3 ([46]:Yy)).bind fun s4=>(qkz a1.2.1).bind fun (r5:Yy)=>(q5q s4 r5).bind fun s6=>(q5q s6 ([46]:Yy)).bind fun s7=>(qkz a1.2.2.1).bind fun (r8:Yy)=>(q5q s7 r8).bind fun s9=>(bif !decide (a1.2.2.2.1=([]:Yy)) then (q5q ([45]:Yy) a1.2.2.2.1).bind fun s10=>(q5q s9 s10).bind fun s11=>(bif !decide (a1.2.2.2.2=([]:Yy)) then (q5q ([43]:Yy) a1.2.2.2.2).bind fun s12=>(q5q s11 s12).bind fun s13=>some s13 else some s11) else (bif !decide (a1.2.2.2.2=([]:Yy)) then (q5q ([43]:Yy) a1.2.2.2.2).bind fun s14=>(q5q s9 s14).bind fun s15=>some s15 else some s9)))
def jgl (n:Nat):FC:={ f:=47,args:=[.one (.agg [.d (.int .i64),.d (.int .i64),.d (.int .i64),.d .str,.d .str])],res:=.one (.c (.d .str)),F:=fun p=>qba n p }
def jh1:q1j:=[(3,[⟨12582936,2^21,0⟩,⟨102760464,2^24,1⟩,⟨49*2^24,2^27,3⟩,⟨49*2^27,2^30,7⟩,⟨49*2^30,2^33,15⟩,⟨412316860440,2^36,0⟩,⟨3367254360080,2^39,32⟩,⟨49*2^39,2^42,103⟩,⟨25089*2^33,2^45,255⟩,⟨49*2^45,2^48,511⟩,⟨13510798882111512,2^51,0⟩,⟨110338190870577168,2^54,1024⟩,⟨49*2^54,2^57,3303⟩,⟨25089*2^48,2^60,8191⟩,⟨1152921504606850048,512,16383⟩]),(1000003,[])]
theorem qox (n:Nat):q05 Inv Tryz.prog (jgl n):=mkF Tryz.func47 jh1 [] (cc (q9t n) <| cc (jjj) <| cn) (by kernel_rfl) trivial (by intro a;kernel_rfl)
def qa4 (n:Nat) (a1:Yy):Option (Vv×Bool) :=
 (qrp n a1 ([43]:Yy)).bind fun r1=>(qrp n r1.1 ([45]:Yy)).bind fun r2=>(q6f n r2.1 ([118]:Yy)).bind fun r3=>(qrp n r3 ([46]:Yy)).bind fun r4=>(qrp n r4.2.1 ([46]:Yy)).bind fun r5=>(q51 r4.1).bind fun (r6:Int)=>(q51 r5.1).bind fun (r7:Int)=>(q51 r5.2.1).bind fun (r8:Int)=>(q53 n (r6,(r7,(r8,(r2.2.1,r1.2.1))))).bind fun r9=>(bif !r9 then some (((0:Int),((0:Int),((0:Int),(([]:Yy),([]:Yy))))),false) else (qba n (r6,(r7,(r8,(r2.2.1,r1.2.1))))).bind fun r10=>(bif !decide (r10=a1) then some (((0:Int),((0:Int),((0:Int),(([]:Yy),([]:Yy))))),false) else some ((r6,(r7,(r8,(r2.2.1,r1.2.1)))),true)))
def jbb (n:Nat):FC:={ f:=120,args:=[.one (.c (.d .str))],res:=.tup [.agg [.d (.int .i64),.d (.int .i64),.d (.int .i64),.d .str,.d .str],.c (.d .bool)],F:=fun p=>qa4 n p }
theorem qs0 (n:Nat):q05 Inv Tryz.prog (jbb n):=mkF Tryz.func120 [] [] (cc (jaa n) <| cc (qcs n) <| cc (jbs) <| cc (q9t n) <| cc (qox n) <| cn) (by kernel_rfl) trivial (by intro a;kernel_rfl)
def qow (n:Nat) (a1:Yy) (a2:Yy):Option Int :=
 (q59 n a1).bind fun r1=>(q59 n a2).bind fun r2=>(bif r1 then (bif r2 then (q81 n (a1.length:Int) (a2.length:Int)).bind fun r3=>(qbx a1 a2).bind fun (r4:Int)=>(qlr n ([r3,r4]:List Int)).bind fun r5=>some r5 else (bif r1 then some (-1:Int) else (bif r2 then some (1:Int) else (qbx a1 a2).bind fun (r6:Int)=>some r6))) else (bif r1 then some (-1:Int) else (bif r2 then some (1:Int) else (qbx a1 a2).bind fun (r7:Int)=>some r7)))
def jgi (n:Nat):FC:={ f:=186,args:=[.one (.c (.d .str)),.one (.c (.d .str))],res:=.one (.c (.d (.int .i64))),F:=fun p=>qow n p.1 p.2 }
theorem jep (n:Nat):q05 Inv Tryz.prog (jgi n):=mkF Tryz.func186 [] [] (cc (qlq n) <| cc (qsz n) <| cc (j37) <| cc (j11 n) <| cn) (by kernel_rfl) trivial (by intro a;kernel_rfl)
@[reducible] def qya:SSt:=⟨[(0,.one (.c (.d (.lst .str)))),(1,.one (.c (.d (.lst .str)))),(2,.one (.c (.fn 186 []))),(11,.one (.c (.d (.lst .str)))),(12,.one (.c (.d (.int .i64)))),(13,.one (.c (.d (.int .i64))))],[],[]⟩
@[reducible] def qrk:List (Exit×SSt):=[(.ret,⟨[(6,.one (.c (.d (.int .i64))))],[],[]⟩),(.exit 0,⟨[(0,.one (.c (.d (.lst .str)))),(1,.one (.c (.d (.lst .str))))],[],[]⟩)]
def qf2 (n:Nat) (rec:(List Yy)->(List Yy)->(List Yy)->Int->Int->Option Z2) (a1:List Yy) (a2:List Yy) (a3:List Yy) (a4:Int) (a5:Int):Option Z2 :=
 (bif decide (a5<a4) then (q0d a3 a5).bind fun x1=>(bif decide ((a2.length:Int)<=a5) then some (Sum.inl (((1:Int),()),((),()))) else (q0d a2 a5).bind fun x2=>(qow n x1 x2).bind fun r3=>(bif !decide (r3=0) then some (Sum.inl ((r3,()),((),()))) else q00 (IntKind.wrap .i64 (a5+1)) fun n4=>rec a1 a2 a3 a4 n4)) else some (Sum.inr (((a1,(a2,())),((),())))))
def qo3 (n:Nat):Stp qya qrk:=fun rec p=>qf2 n (fun a1 a2 a3 a4 a5=>rec ((a1,(a2,((),(a3,(a4,(a5,())))))),((),()))) p.1.1 p.1.2.1 p.1.2.2.2.1 p.1.2.2.2.2.1 p.1.2.2.2.2.2.1
def q4t (n m:Nat) (a1:List Yy) (a2:List Yy) (a3:List Yy) (a4:Int) (a5:Int):Option Z2:=q0v (qo3 n) m ((a1,(a2,((),(a3,(a4,(a5,())))))),((),()))
theorem qco (n m:Nat) (a1 a2 a3 a4 a5):q4t n (m+1) a1 a2 a3 a4 a5=qf2 n (fun a1 a2 a3 a4 a5=>q4t n m a1 a2 a3 a4 a5) a1 a2 a3 a4 a5:=rfl
def qjp (n:Nat) (a1:List Yy) (a2:List Yy) (a3:Unit):Option Int :=
 (q4t n n a1 a2 a1 (a1.length:Int) (0:Int)).bind fun o5=>Sum.elim (fun (q6:(Int×Unit)×Unit×Unit)=>some q6.1.1) (fun (q7:((List Yy)×((List Yy)×Unit))×Unit×Unit)=>(bif decide ((q7.1.1.length:Int)<(q7.1.2.1.length:Int)) then some (-1:Int) else some (0:Int))) o5
def j33 (n:Nat):FC:={ f:=185,args:=[.one (.c (.d (.lst .str))),.one (.c (.d (.lst .str))),.one (.c (.fn 186 []))],res:=.one (.c (.d (.int .i64))),F:=fun p=>qjp n p.1 p.2.1 p.2.2 }
theorem j62 (n:Nat):q05 Inv Tryz.prog (j33 n):=mkF Tryz.func185 [] [q4o qo3 n] (cc (jep n) <| cn) (by kernel_rfl) ⟨ls (by intro rec p;kernel_rfl),trivial⟩ (by intro a;kernel_rfl)
def j2h (n:Nat) (a1:Yy) (a2:Yy):Option Int :=
 (bif decide (a1=a2) then some (0:Int) else (bif decide (a1=([]:Yy)) then some (1:Int) else (bif decide (a2=([]:Yy)) then some (-1:Int) else (q82 a1 ([46]:Yy)).bind fun (r1:List Yy)=>(q82 a2 ([46]:Yy)).bind fun (r2:List Yy)=>(qjp n r1 r2 ()).bind fun r3=>some r3)))
def jlh (n:Nat):FC:={ f:=159,args:=[.one (.c (.d .str)),.one (.c (.d .str))],res:=.one (.c (.d (.int .i64))),F:=fun p=>j2h n p.1 p.2 }
theorem jiy (n:Nat):q05 Inv Tryz.prog (jlh n):=mkF Tryz.func159 [] [] (cc (j1j) <| cc (j62 n) <| cn) (by kernel_rfl) trivial (by intro a;kernel_rfl)
def qac (n:Nat) (a1:Vv) (a2:Vv):Option Int :=
 (q53 n a1).bind fun r1=>(bif !r1 then some (0:Int) else (q53 n a2).bind fun r2=>(bif !r2 then some (0:Int) else (q81 n a1.1 a2.1).bind fun r3=>(q81 n a1.2.1 a2.2.1).bind fun r4=>(q81 n a1.2.2.1 a2.2.2.1).bind fun r5=>(j2h n a1.2.2.2.1 a2.2.2.2.1).bind fun r6=>(qlr n ([r3,r4,r5,r6]:List Int)).bind fun r7=>some r7))
def qy4 (n:Nat):FC:={ f:=121,args:=[.one (.agg [.d (.int .i64),.d (.int .i64),.d (.int .i64),.d .str,.d .str]),.one (.agg [.d (.int .i64),.d (.int .i64),.d (.int .i64),.d .str,.d .str])],res:=.one (.c (.d (.int .i64))),F:=fun p=>qac n p.1 p.2 }
def qwv:q1j:=[(3,[⟨3298534883520,2^39,0⟩,⟨26938034880640,2^42,1⟩,⟨211106232534528,2^45,0⟩,⟨1724034232353792,2^48,4⟩,⟨3137*2^42,2^51,15⟩,⟨108086391056892096,2^54,0⟩,⟨882705526964617344,2^57,32⟩,⟨6917529027641083392,2^60,0⟩,⟨56493153725735502848,2^63,128⟩,⟨3137*2^57,2^66,511⟩,⟨3541774862152233910464,2^69,0⟩,⟨28924494707576576934016,2^72,1024⟩,⟨226673591177742970258944,2^75,0⟩,⟨1851167661284900923769856,2^78,4096⟩,⟨3137*2^72,2^81,16383⟩,⟨116056878683004400771793088,2^84,0⟩,⟨947797842577869272969642112,2^87,32768⟩,⟨7427640235712281649394746880,2^90,0⟩,⟨60659061924983633470057088000,2^93,2^17⟩,⟨3137*2^87,2^96,524287⟩,⟨1724035306127361*2^51,5*2^99,1048575⟩,⟨53*2^99,2^102,2097151⟩,⟨5070602400912917605986812846080,4096,4194303⟩])]
theorem qx1 (n:Nat):q05 Inv Tryz.prog (qy4 n):=mkF Tryz.func121 qwv [] (cc (q9t n) <| cc (qsz n) <| cc (jiy n) <| cc (j11 n) <| cn) (by kernel_rfl) trivial (by intro a;kernel_rfl)
@[reducible] def qbg:SSt:=⟨[(0,.one (.c (.d .str))),(1,.one (.c (.d (.int .u8)))),(5,.one (.c (.row 31))),(6,.one (.c (.d (.int .i64)))),(7,.one (.c (.d (.int .i64))))],[],[(31,⟨9,true,.str⟩)]⟩
@[reducible] def q80:List (Exit×SSt):=[(.exit 0,⟨[(5,.one (.c (.row 31)))],[],[(31,⟨9,true,.str⟩)]⟩)]
def q2q (n:Nat) (rec:(Yy)->Int->Int->Int->(List Yy)->Option Z9) (a1:Yy) (a2:Int) (a3:Int) (a4:Int) (a5:List Yy):Option Z9 :=
 (bif decide (a4<=(a1.length:Int)) then (bif decide (a4=(a1.length:Int)) then (q1a a1 a3 a4).bind fun s1=>(q1s 16 a5 ([s1]:List Yy)).bind fun l2=>q00 (IntKind.wrap .i64 (a4+1)) fun n3=>q00 (IntKind.wrap .i64 (a4+1)) fun n4=>rec a1 a2 n3 n4 l2 else (sAt a1 a4).bind fun c5=>(bif decide (c5=a2) then (q1a a1 a3 a4).bind fun s6=>(q1s 16 a5 ([s6]:List Yy)).bind fun l7=>q00 (IntKind.wrap .i64 (a4+1)) fun n8=>q00 (IntKind.wrap .i64 (a4+1)) fun n9=>rec a1 a2 n8 n9 l7 else q00 (IntKind.wrap .i64 (a4+1)) fun n10=>rec a1 a2 a3 n10 a5)) else some ((((),()),((),(a5,())))))
def q79 (n:Nat):Stp qbg q80:=fun rec p=>q2q n (fun a1 a2 a3 a4 a5=>rec ((a1,(a2,((),(a3,(a4,()))))),((),(a5,())))) p.1.1 p.1.2.1 p.1.2.2.2.1 p.1.2.2.2.2.1 p.2.2.1
def q1d (n m:Nat) (a1:Yy) (a2:Int) (a3:Int) (a4:Int) (a5:List Yy):Option Z9:=q0v (q79 n) m ((a1,(a2,((),(a3,(a4,()))))),((),(a5,())))
theorem q1m (n m:Nat) (a1 a2 a3 a4 a5):q1d n (m+1) a1 a2 a3 a4 a5=q2q n (fun a1 a2 a3 a4 a5=>q1d n m a1 a2 a3 a4 a5) a1 a2 a3 a4 a5:=rfl
def q0e (n:Nat) (a1:Yy) (a2:Int):Option (List Yy) :=
 (q1d n n a1 a2 (0:Int) (0:Int) []).bind fun o11=>some o11.2.2.1
def qao (n:Nat):FC:={ f:=41,args:=[.one (.c (.d .str)),.one (.c (.d (.int .u8)))],res:=.one (.c (.d (.lst .str))),F:=fun p=>q0e n p.1 p.2 }
theorem q2t (n:Nat):q05 Inv Tryz.prog (qao n):=mkF Tryz.func41 [] [q4o q79 n] (cn) (by kernel_rfl) ⟨ls (by intro rec p;kernel_rfl),trivial⟩ (by intro a;kernel_rfl)
@[reducible] def qwt:SSt:=⟨[(0,.one (.c (.d .str))),(3,.one (.c (.d (.int .i64))))],[],[]⟩
@[reducible] def qos:List (Exit×SSt):=[(.ret,⟨[(2,.one (.c (.d .bool)))],[],[]⟩),(.exit 0,⟨[(0,.one (.c (.d .str)))],[],[]⟩)]
def qei (n:Nat) (rec:(Yy)->Int->Option Z6) (a1:Yy) (a2:Int):Option Z6 :=
 (bif decide (a2<(a1.length:Int)) then (sAt a1 a2).bind fun c1=>(bif decide (c1<48) then some (Sum.inl ((false,()),((),()))) else (sAt a1 a2).bind fun c2=>(bif decide (57<c2) then some (Sum.inl ((false,()),((),()))) else q00 (IntKind.wrap .i64 (a2+1)) fun n3=>rec a1 n3)) else some (Sum.inr (((a1,()),((),())))))
def qnp (n:Nat):Stp qwt qos:=fun rec p=>qei n (fun a1 a2=>rec ((a1,(a2,())),((),()))) p.1.1 p.1.2.1
def q4u (n m:Nat) (a1:Yy) (a2:Int):Option Z6:=q0v (qnp n) m ((a1,(a2,())),((),()))
theorem qd8 (n m:Nat) (a1 a2):q4u n (m+1) a1 a2=qei n (fun a1 a2=>q4u n m a1 a2) a1 a2:=rfl
def q5i (n:Nat) (a1:Yy):Option Bool :=
 (q4u n n a1 (0:Int)).bind fun o4=>Sum.elim (fun (q5:(Bool×Unit)×Unit×Unit)=>some q5.1.1) (fun (q6:(Yy×Unit)×Unit×Unit)=>some (!decide (q6.1.1=([]:Yy)))) o4
def j5h (n:Nat):FC:={ f:=102,args:=[.one (.c (.d .str))],res:=.one (.c (.d .bool)),F:=fun p=>q5i n p }
theorem qey (n:Nat):q05 Inv Tryz.prog (j5h n):=mkF Tryz.func102 [] [q4o qnp n] (cn) (by kernel_rfl) ⟨ls (by intro rec p;kernel_rfl),trivial⟩ (by intro a;kernel_rfl)
@[reducible] def qx5:SSt:=⟨[(1,.one (.c (.d .bool))),(5,.one (.c (.d (.lst .str)))),(6,.one (.c (.d (.int .i64)))),(7,.one (.c (.d (.int .i64))))],[],[]⟩
@[reducible] def qpd:List (Exit×SSt):=[(.ret,⟨[(4,.one (.c (.d .bool)))],[],[]⟩),(.exit 2,⟨[(1,.one (.c (.d .bool))),(5,.one (.c (.d (.lst .str)))),(6,.one (.c (.d (.int .i64))))],[],[]⟩)]
def qed (n:Nat) (rec:Bool->(List Yy)->Int->Int->Option Z3) (a1:Bool) (a2:List Yy) (a3:Int) (a4:Int):Option Z3 :=
 (q0d a2 a3).bind fun x2=>(bif decide (a4<(x2.length:Int)) then (q0d a2 a3).bind fun x3=>(sAt x3 a4).bind fun c4=>(bif decide ((97:Int)<=c4) then (bif !(decide (c4<=(122:Int))) then (bif decide ((65:Int)<=c4) then (bif !(decide (c4<=(90:Int))) then (bif decide ((48:Int)<=c4) then (bif !(decide (c4<=(57:Int))) then (bif !decide (c4=(45:Int)) then some (Sum.inl ((false,()),((),()))) else q00 (IntKind.wrap .i64 (a4+(1:Int))) fun n5=>rec a1 a2 a3 n5) else q00 (IntKind.wrap .i64 (a4+(1:Int))) fun n6=>rec a1 a2 a3 n6) else (bif !decide (c4=(45:Int)) then some (Sum.inl ((false,()),((),()))) else q00 (IntKind.wrap .i64 (a4+(1:Int))) fun n7=>rec a1 a2 a3 n7)) else q00 (IntKind.wrap .i64 (a4+(1:Int))) fun n8=>rec a1 a2 a3 n8) else (bif decide ((48:Int)<=c4) then (bif !(decide (c4<=(57:Int))) then (bif !decide (c4=(45:Int)) then some (Sum.inl ((false,()),((),()))) else q00 (IntKind.wrap .i64 (a4+(1:Int))) fun n9=>rec a1 a2 a3 n9) else q00 (IntKind.wrap .i64 (a4+(1:Int))) fun n10=>rec a1 a2 a3 n10) else (bif !decide (c4=(45:Int)) then some (Sum.inl ((false,()),((),()))) else q00 (IntKind.wrap .i64 (a4+(1:Int))) fun n11=>rec a1 a2 a3 n11))) else q00 (IntKind.wrap .i64 (a4+(1:Int))) fun n12=>rec a1 a2 a3 n12) else (bif decide ((65:Int)<=c4) then (bif !(decide (c4<=(90:Int))) then (bif decide ((48:Int)<=c4) then (bif !(decide (c4<=(57:Int))) then (bif !decide (c4=(45:Int)) then some (Sum.inl ((false,()),((),()))) else q00 (IntKind.wrap .i64 (a4+(1:Int))) fun n13=>rec a1 a2 a3 n13) else q00 (IntKind.wrap .i64 (a4+(1:Int))) fun n14=>rec a1 a2 a3 n14) else (bif !decide (c4=(45:Int)) then some (Sum.inl ((false,()),((),()))) else q00 (IntKind.wrap .i64 (a4+(1:Int))) fun n15=>rec a1 a2 a3 n15)) else q00 (IntKind.wrap .i64 (a4+(1:Int))) fun n16=>rec a1 a2 a3 n16) else (bif decide ((48:Int)<=c4) then (bif !(decide (c4<=(57:Int))) then (bif !decide (c4=(45:Int)) then some (Sum.inl ((false,()),((),()))) else q00 (IntKind.wrap .i64 (a4+(1:Int))) fun n17=>rec a1 a2 a3 n17) else q00 (IntKind.wrap .i64 (a4+(1:Int))) fun n18=>rec a1 a2 a3 n18) else (bif !decide (c4=(45:Int)) then some (Sum.inl ((false,()),((),()))) else q00 (IntKind.wrap .i64 (a4+(1:Int))) fun n19=>rec a1 a2 a3 n19)))) else some (Sum.inr (((a1,(a2,(a3,()))),((),())))))
def qmv (n:Nat):Stp qx5 qpd:=fun rec p=>qed n (fun a1 a2 a3 a4=>rec ((a1,(a2,(a3,(a4,())))),((),()))) p.1.1 p.1.2.1 p.1.2.2.1 p.1.2.2.2.1
def q4r (n m:Nat) (a1:Bool) (a2:List Yy) (a3:Int) (a4:Int):Option Z3:=q0v (qmv n) m ((a1,(a2,(a3,(a4,())))),((),()))
theorem qdb (n m:Nat) (a1 a2 a3 a4):q4r n (m+1) a1 a2 a3 a4=qed n (fun a1 a2 a3 a4=>q4r n m a1 a2 a3 a4) a1 a2 a3 a4:=rfl
@[reducible] def qxa:SSt:=⟨[(1,.one (.c (.d .bool))),(5,.one (.c (.d (.lst .str)))),(6,.one (.c (.d (.int .i64))))],[],[]⟩
@[reducible] def qqg:List (Exit×SSt):=[(.ret,⟨[(4,.one (.c (.d .bool)))],[],[]⟩),(.exit 0,⟨[],[],[]⟩)]
def qfj (n:Nat) (rec:Bool->(List Yy)->Int->Option Z7) (a1:Bool) (a2:List Yy) (a3:Int):Option Z7 :=
 (bif decide (a3<(a2.length:Int)) then (q4r n n a1 a2 a3 (0:Int)).bind fun o20=>Sum.elim (fun (q21:(Bool×Unit)×Unit×Unit)=>some (Sum.inl ((q21.1.1,()),((),())))) (fun (q22:(Bool×((List Yy)×(Int×Unit)))×Unit×Unit)=>(q0d q22.1.2.1 q22.1.2.2.1).bind fun x23=>(bif decide (x23=([]:Yy)) then some (Sum.inl ((false,()),((),()))) else (bif !q22.1.1 then (q0d q22.1.2.1 q22.1.2.2.1).bind fun x24=>(q5i n x24).bind fun r25=>(bif r25 then (q0d q22.1.2.1 q22.1.2.2.1).bind fun x26=>(bif decide (1<(x26.length:Int)) then (q0d q22.1.2.1 q22.1.2.2.1).bind fun x27=>(sAt x27 (0:Int)).bind fun c28=>(bif decide (c28=48) then some (Sum.inl ((false,()),((),()))) else q00 (IntKind.wrap .i64 (q22.1.2.2.1+1)) fun n29=>rec q22.1.1 q22.1.2.1 n29) else q00 (IntKind.wrap .i64 (q22.1.2.2.1+1)) fun n30=>rec q22.1.1 q22.1.2.1 n30) else q00 (IntKind.wrap .i64 (q22.1.2.2.1+1)) fun n31=>rec q22.1.1 q22.1.2.1 n31) else q00 (IntKind.wrap .i64 (q22.1.2.2.1+1)) fun n32=>rec q22.1.1 q22.1.2.1 n32))) o20 else some (Sum.inr (((),((),())))))
def qnb (n:Nat):Stp qxa qqg:=fun rec p=>qfj n (fun a1 a2 a3=>rec ((a1,(a2,(a3,()))),((),()))) p.1.1 p.1.2.1 p.1.2.2.1
def q50 (n m:Nat) (a1:Bool) (a2:List Yy) (a3:Int):Option Z7:=q0v (qnb n) m ((a1,(a2,(a3,()))),((),()))
theorem qd4 (n m:Nat) (a1 a2 a3):q50 n (m+1) a1 a2 a3=qfj n (fun a1 a2 a3=>q50 n m a1 a2 a3) a1 a2 a3:=rfl
def q6q (n:Nat) (a1:Yy) (a2:Bool):Option Bool :=
 (q0e n a1 (46:Int)).bind fun r1=>(q50 n n a2 r1 (0:Int)).bind fun o33=>Sum.elim (fun (q34:(Bool×Unit)×Unit×Unit)=>some q34.1.1) (fun (q35:(Unit)×Unit×Unit)=>some true) o33
def j64 (n:Nat):FC:={ f:=68,args:=[.one (.c (.d .str)),.one (.c (.d .bool))],res:=.one (.c (.d .bool)),F:=fun p=>q6q n p.1 p.2 }
theorem j5q (n:Nat):q05 Inv Tryz.prog (j64 n):=mkF Tryz.func68 [] [q4o qnb n,q4o qmv n] (cc (q2t n) <| cc (qey n) <| cn) (by kernel_rfl) ⟨ls (by intro rec p;kernel_rfl),ls (by intro rec p;kernel_rfl),trivial⟩ (by intro a;kernel_rfl)
def qoc (n:Nat) (a1:Int):Option Bool :=
 (bif decide (0<=a1) then some (decide (a1<=999999999)) else some false)
def jm8 (n:Nat):FC:={ f:=67,args:=[.one (.c (.d (.int .i64)))],res:=.one (.c (.d .bool)),F:=fun p=>qoc n p }
theorem jjb (n:Nat):q05 Inv Tryz.prog (jm8 n):=mkF Tryz.func67 [] [] (cn) (by kernel_rfl) trivial (by intro a;kernel_rfl)
def q8e (n:Nat) (a1:Vv):Option Bool :=
 (qoc n a1.1).bind fun r1=>(bif !r1 then some false else (qoc n a1.2.1).bind fun r2=>(bif !r2 then some false else (qoc n a1.2.2.1).bind fun r3=>(bif !r3 then some false else (bif decide (30<(a1.2.2.2.1.length:Int)) then some false else (bif decide (30<(a1.2.2.2.2.length:Int)) then some false else (bif decide (a1.2.2.2.1=([]:Yy)) then (bif decide (a1.2.2.2.2=([]:Yy)) then some true else (q6q n a1.2.2.2.2 true).bind fun r4=>some r4) else (q6q n a1.2.2.2.1 false).bind fun r5=>(bif r5 then (bif decide (a1.2.2.2.2=([]:Yy)) then some true else (q6q n a1.2.2.2.2 true).bind fun r6=>some r6) else some false)))))))
def j7g (n:Nat):FC:={ f:=39,args:=[.one (.agg [.d (.int .i64),.d (.int .i64),.d (.int .i64),.d .str,.d .str])],res:=.one (.c (.d .bool)),F:=fun p=>q8e n p }
theorem qlu (n:Nat):q05 Inv Tryz.prog (j7g n):=mkF Tryz.func39 [] [] (cc (jjb n) <| cc (j5q n) <| cn) (by kernel_rfl) trivial (by intro a;kernel_rfl)
def qlh (n:Nat):List LC:=[]
def q1n:Nat->Int->Option Yy
 | 0,_=>none
 | n+1,a1 =>
 (jii a1 (10:Int)).bind fun n1=>q00 (IntKind.wrap .i64 ((48:Int)+n1)) fun n2=>q00 (IntKind.wrap .u8 n2) fun n3=>(bif decide ((10:Int)<=a1) then (jmy .i64 a1 (10:Int)).bind fun n4=>(q1n n n4).bind fun (r5:Yy)=>(q5q r5 (List.map (fun n:Int=>UInt8.ofNat n.toNat) ([n3]:List Int))).bind fun s6=>some s6 else some (List.map (fun n:Int=>UInt8.ofNat n.toNat) ([n3]:List Int)))
def q5a (n:Nat):FC:={ f:=40,args:=[.one (.c (.d (.int .i64)))],res:=.one (.c (.d .str)),F:=fun p=>q1n n p }
def qn1 (n:Nat):List FC:=[q5a n]
theorem qvp (n:Nat) (hrec:q05 Inv Tryz.prog (q5a n)) {G:World->Prop} (hG:Know Inv G) : ∀c∈qn1 n,qr1 Tryz.prog G c/\qbt c.args=true:=List.forall_mem_cons.2 ⟨hrec G hG,(fun _ h=>by cases h)⟩
def qoi:q1j:=[]
theorem j4b:drB qoi (q8n Tryz.f40)=true:=by kernel_rfl
theorem j6f (n:Nat) : ∀a,(q5a (n+1)).F a=main Tryz.prog 18 (qn1 n) (qlh n) qoi (q8n Tryz.f40) [.tmp 2] (q5a (n+1)).args (q5a (n+1)).res a:=by intro a;kernel_rfl
theorem qom:(n:Nat)->q05 Inv Tryz.prog (q5a n)
 | 0=>fun G hG=>⟨⟨by kernel_rfl,fun a r h=>by cases h⟩,rfl⟩
 | n+1=>fun G hG=>⟨⟨by kernel_rfl,fun a r h=>j6y (c:=q8n Tryz.f40) Tryz.func40 (by kernel_rfl) (by kernel_rfl) (Nat.le_of_ble_eq_true (by kernel_rfl)) hG.st (by kernel_rfl) (rs:=[.tmp 2]) (by kernel_rfl) (qvp n (qom n) hG) (lts:=qlh n) (fun F hF hFG=>have hK:Know Inv F.G:=hFG ▸ hG;(j7e fun j L h1 h2 h3=>absurd h2 (Nat.not_lt.2 (Nat.le_trans (by decide +kernel) h1)))) j4b ((j6f n a).symm.trans h)⟩,rfl⟩
def q6n (n:Nat) (a1:Vv):Option Yy :=
 (q8e n a1).bind fun r1=>(bif !r1 then some ([]:Yy) else (q1n n a1.1).bind fun (r2:Yy)=>(q5q ([118]:Yy) r2).bind fun s3=>(q5q s3 ([46]:Yy)).bind fun s4=>(q1n n a1.2.1).bind fun (r5:Yy)=>(q5q s4 r5).bind fun s6=>(q5q s6 ([46]:Yy)).bind fun s7=>(q1n n a1.2.2.1).bind fun (r8:Yy)=>(q5q s7 r8).bind fun s9=>(bif !decide (a1.2.2.2.1=([]:Yy)) then (q5q s9 ([45]:Yy)).bind fun s10=>(q5q s10 a1.2.2.2.1).bind fun s11=>(bif !decide (a1.2.2.2.2=([]:Yy)) then (q5q s11 ([43]:Yy)).bind fun s12=>(q5q s12 a1.2.2.2.2).bind fun s13=>some s13 else some s11) else (bif !decide (a1.2.2.2.2=([]:Yy)) then (q5q s9 ([43]:Yy)).bind fun s14=>(q5q s14 a1.2.2.2.2).bind fun s15=>some s15 else some s9)))
def jfz (n:Nat):FC:={ f:=20,args:=[.one (.agg [.d (.int .i64),.d (.int .i64),.d (.int .i64),.d .str,.d .str])],res:=.one (.c (.d .str)),F:=fun p=>q6n n p }
def jh2:q1j:=[(3,[⟨12582936,2^21,0⟩,⟨102760464,2^24,1⟩,⟨49*2^24,2^27,3⟩,⟨49*2^27,2^30,7⟩,⟨49*2^30,2^33,15⟩,⟨412316860440,2^36,0⟩,⟨3367254360080,2^39,32⟩,⟨49*2^39,2^42,103⟩,⟨25089*2^33,2^45,255⟩,⟨49*2^45,2^48,511⟩,⟨13510798882111512,2^51,0⟩,⟨110338190870577168,2^54,1024⟩,⟨49*2^54,2^57,3303⟩,⟨25089*2^48,2^60,8191⟩,⟨1152921504606850048,512,16383⟩]),(1000003,[])]
theorem jec (n:Nat):q05 Inv Tryz.prog (jfz n):=mkF Tryz.func20 jh2 [] (cc (qlu n) <| cc (qom n) <| cn) (by kernel_rfl) trivial (by intro a;kernel_rfl)
@[reducible] def jay:SSt:=⟨[(0,.one (.c (.d .str))),(1,.one (.c (.d (.int .u8)))),(5,.one (.c (.d (.int .i64))))],[],[]⟩
@[reducible] def qxl:List (Exit×SSt):=[(.ret,⟨[(4,.one (.c (.d (.int .i64))))],[],[]⟩),(.exit 0,⟨[],[],[]⟩)]
def qrg (n:Nat) (rec:(Yy)->Int->Int->Option Z8) (a1:Yy) (a2:Int) (a3:Int):Option Z8 :=
 (bif decide (a3<(a1.length:Int)) then (sAt a1 a3).bind fun c1=>(bif decide (c1=a2) then some (Sum.inl ((a3,()),((),()))) else q00 (IntKind.wrap .i64 (a3+1)) fun n2=>rec a1 a2 n2) else some (Sum.inr (((),((),())))))
def j2s (n:Nat):Stp jay qxl:=fun rec p=>qrg n (fun a1 a2 a3=>rec ((a1,(a2,(a3,()))),((),()))) p.1.1 p.1.2.1 p.1.2.2.1
def q7e (n m:Nat) (a1:Yy) (a2:Int) (a3:Int):Option Z8:=q0v (j2s n) m ((a1,(a2,(a3,()))),((),()))
theorem qgj (n m:Nat) (a1 a2 a3):q7e n (m+1) a1 a2 a3=qrg n (fun a1 a2 a3=>q7e n m a1 a2 a3) a1 a2 a3:=rfl
def q7l (n:Nat) (a1:Yy) (a2:Int):Option Int :=
 (q7e n n a1 a2 (0:Int)).bind fun o3=>Sum.elim (fun (q4:(Int×Unit)×Unit×Unit)=>some q4.1.1) (fun (q5:(Unit)×Unit×Unit)=>some (-1:Int)) o3
def jee (n:Nat):FC:={ f:=207,args:=[.one (.c (.d .str)),.one (.c (.d (.int .u8)))],res:=.one (.c (.d (.int .i64))),F:=fun p=>q7l n p.1 p.2 }
theorem jgg (n:Nat):q05 Inv Tryz.prog (jee n):=mkF Tryz.func207 [] [q4o j2s n] (cn) (by kernel_rfl) ⟨ls (by intro rec p;kernel_rfl),trivial⟩ (by intro a;kernel_rfl)
@[reducible] def ja9:SSt:=⟨[(0,.one (.c (.d .str))),(3,.one (.c (.d (.int .i64)))),(4,.one (.c (.d (.int .i64))))],[],[]⟩
@[reducible] def qxe:List (Exit×SSt):=[(.exit 0,⟨[(3,.one (.c (.d (.int .i64))))],[],[]⟩)]
def qoz (n:Nat) (rec:(Yy)->Int->Int->Option ((Int×Unit)×Unit×Unit)) (a1:Yy) (a2:Int) (a3:Int):Option ((Int×Unit)×Unit×Unit) :=
 (bif decide (a3<(a1.length:Int)) then q00 (IntKind.wrap .i64 ((10:Int)*a2)) fun n2=>(sAt a1 a3).bind fun c3=>q00 (IntKind.wrap .i64 c3) fun n4=>q00 (IntKind.wrap .i64 (n2+n4)) fun n5=>q00 (IntKind.wrap .i64 (n5 - (48:Int))) fun n6=>q00 (IntKind.wrap .i64 (a3+1)) fun n7=>rec a1 n6 n7 else some (((a2,()),((),()))))
def qzv (n:Nat):Stp ja9 qxe:=fun rec p=>qoz n (fun a1 a2 a3=>rec ((a1,(a2,(a3,()))),((),()))) p.1.1 p.1.2.1 p.1.2.2.1
def q83 (n m:Nat) (a1:Yy) (a2:Int) (a3:Int):Option ((Int×Unit)×Unit×Unit):=q0v (qzv n) m ((a1,(a2,(a3,()))),((),()))
theorem qgp (n m:Nat) (a1 a2 a3):q83 n (m+1) a1 a2 a3=qoz n (fun a1 a2 a3=>q83 n m a1 a2 a3) a1 a2 a3:=rfl
def q1c (n:Nat) (a1:Yy):Option Int :=
 (q5i n a1).bind fun r1=>(bif !r1 then some (-1:Int) else (bif decide (9<(a1.length:Int)) then some (-1:Int) else (q83 n n a1 (0:Int) (0:Int)).bind fun o8=>some o8.1.1))
def jh5 (n:Nat):FC:={ f:=208,args:=[.one (.c (.d .str))],res:=.one (.c (.d (.int .i64))),F:=fun p=>q1c n p }
theorem jfn (n:Nat):q05 Inv Tryz.prog (jh5 n):=mkF Tryz.func208 [] [q4o qzv n] (cc (qey n) <| cn) (by kernel_rfl) ⟨ls (by intro rec p;kernel_rfl),trivial⟩ (by intro a;kernel_rfl)
def q3t (n:Nat) (a1:Yy):Option (Vv×Bool) :=
 (bif decide (100<(a1.length:Int)) then some (((0:Int),((0:Int),((0:Int),(([]:Yy),([]:Yy))))),false) else (bif decide ((a1.length:Int)=0) then some (((0:Int),((0:Int),((0:Int),(([]:Yy),([]:Yy))))),false) else (sAt a1 (0:Int)).bind fun c1=>(bif !decide (c1=118) then some (((0:Int),((0:Int),((0:Int),(([]:Yy),([]:Yy))))),false) else (q1a a1 (1:Int) (a1.length:Int)).bind fun s2=>(q7l n s2 (43:Int)).bind fun r3=>(bif decide (0<=r3) then q00 (IntKind.wrap .i64 (r3+1)) fun n4=>(q1a s2 n4 (s2.length:Int)).bind fun s5=>(q1a s2 (0:Int) r3).bind fun s6=>(q7l n s6 (45:Int)).bind fun r7=>(bif decide (0<=r7) then q00 (IntKind.wrap .i64 (r7+1)) fun n8=>(q1a s6 n8 (s6.length:Int)).bind fun s9=>(q1a s6 (0:Int) r7).bind fun s10=>(q0e n s10 (46:Int)).bind fun r11=>(bif !decide ((r11.length:Int)=3) then some (((0:Int),((0:Int),((0:Int),(([]:Yy),([]:Yy))))),false) else (q0d r11 (0:Int)).bind fun x12=>(q1c n x12).bind fun r13=>(q0d r11 (1:Int)).bind fun x14=>(q1c n x14).bind fun r15=>(q0d r11 (2:Int)).bind fun x16=>(q1c n x16).bind fun r17=>(q6n n (r13,(r15,(r17,(s9,s5))))).bind fun r18=>(bif !decide (r18=a1) then some (((0:Int),((0:Int),((0:Int),(([]:Yy),([]:Yy))))),false) else some ((r13,(r15,(r17,(s9,s5)))),true))) else (q0e n s6 (46:Int)).bind fun r19=>(bif !decide ((r19.length:Int)=3) then some (((0:Int),((0:Int),((0:Int),(([]:Yy),([]:Yy))))),false) else (q0d r19 (0:Int)).bind fun x20=>(q1c n x20).bind fun r21=>(q0d r19 (1:Int)).bind fun x22=>(q1c n x22).bind fun r23=>(q0d r19 (2:Int)).bind fun x24=>(q1c n x24).bind fun r25=>(q6n n (r21,(r23,(r25,(([]:Yy),s5))))).bind fun r26=>(bif !decide (r26=a1) then some (((0:Int),((0:Int),((0:Int),(([]:Yy),([]:Yy))))),false) else some ((r21,(r23,(r25,(([]:Yy),s5)))),true)))) else (q7l n s2 (45:Int)).bind fun r27=>(bif decide (0<=r27) then q00 (IntKind.wrap .i64 (r27+1)) fun n28=>(q1a s2 n28 (s2.length:Int)).bind fun s29=>(q1a s2 (0:Int) r27).bind fun s30=>(q0e n s30 (46:Int)).bind fun r31=>(bif !decide ((r31.length:Int)=3) then some (((0:Int),((0:Int),((0:Int),(([]:Yy),([]:Yy))))),false) else (q0d r31 (0:Int)).bind fun x32=>(q1c n x32).bind fun r33=>(q0d r31 (1:Int)).bind fun x34=>(q1c n x34).bind fun r35=>(q0d r31 (2:Int)).bind fun x36=>(q1c n x36).bind fun r37=>(q6n n (r33,(r35,(r37,(s29,([]:Yy)))))).bind fun r38=>(bif !decide (r38=a1) then some (((0:Int),((0:Int),((0:Int),(([]:Yy),([]:Yy))))),false) else some ((r33,(r35,(r37,(s29,([]:Yy))))),true))) else (q0e n s2 (46:Int)).bind fun r39=>(bif !decide ((r39.length:Int)=3) then some (((0:Int),((0:Int),((0:Int),(([]:Yy),([]:Yy))))),false) else (q0d r39 (0:Int)).bind fun x40=>(q1c n x40).bind fun r41=>(q0d r39 (1:Int)).bind fun x42=>(q1c n x42).bind fun r43=>(q0d r39 (2:Int)).bind fun x44=>(q1c n x44).bind fun r45=>(q6n n (r41,(r43,(r45,(([]:Yy),([]:Yy)))))).bind fun r46=>(bif !decide (r46=a1) then some (((0:Int),((0:Int),((0:Int),(([]:Yy),([]:Yy))))),false) else some ((r41,(r43,(r45,(([]:Yy),([]:Yy))))),true))))))))
def jb6 (n:Nat):FC:={ f:=177,args:=[.one (.c (.d .str))],res:=.tup [.agg [.d (.int .i64),.d (.int .i64),.d (.int .i64),.d .str,.d .str],.c (.d .bool)],F:=fun p=>q3t n p }
theorem qug (n:Nat):q05 Inv Tryz.prog (jb6 n):=mkF Tryz.func177 [] [] (cc (jgg n) <| cc (q2t n) <| cc (jfn n) <| cc (jec n) <| cn) (by kernel_rfl) trivial (by intro a;kernel_rfl)
def q3l (n:Nat) (a1:Int) (a2:Int):Option Int :=
 (bif decide (a1<a2) then some (-1:Int) else (bif decide (a2<a1) then some (1:Int) else some (0:Int)))
def jbo (n:Nat):FC:={ f:=209,args:=[.one (.c (.d (.int .i64))),.one (.c (.d (.int .i64)))],res:=.one (.c (.d (.int .i64))),F:=fun p=>q3l n p.1 p.2 }
theorem qjt (n:Nat):q05 Inv Tryz.prog (jbo n):=mkF Tryz.func209 [] [] (cn) (by kernel_rfl) trivial (by intro a;kernel_rfl)
def qd0 (n:Nat) (a1:Yy) (a2:Yy):Option Int :=
 (q5i n a1).bind fun r1=>(q5i n a2).bind fun r2=>(bif r1 then (bif r2 then (bif !decide ((a1.length:Int)=(a2.length:Int)) then (q3l n (a1.length:Int) (a2.length:Int)).bind fun r3=>some r3 else (bif r1 then (bif !r2 then some (-1:Int) else (bif r2 then (bif !r1 then some (1:Int) else (bif ltS (a1) (a2) then some (-1:Int) else (bif !(ltS (a1) (a2)||decide (a1=a2)) then some (1:Int) else some (0:Int)))) else (bif ltS (a1) (a2) then some (-1:Int) else (bif !(ltS (a1) (a2)||decide (a1=a2)) then some (1:Int) else some (0:Int))))) else (bif r2 then (bif !r1 then some (1:Int) else (bif ltS (a1) (a2) then some (-1:Int) else (bif !(ltS (a1) (a2)||decide (a1=a2)) then some (1:Int) else some (0:Int)))) else (bif ltS (a1) (a2) then some (-1:Int) else (bif !(ltS (a1) (a2)||decide (a1=a2)) then some (1:Int) else some (0:Int)))))) else (bif r1 then (bif !r2 then some (-1:Int) else (bif r2 then (bif !r1 then some (1:Int) else (bif ltS (a1) (a2) then some (-1:Int) else (bif !(ltS (a1) (a2)||decide (a1=a2)) then some (1:Int) else some (0:Int)))) else (bif ltS (a1) (a2) then some (-1:Int) else (bif !(ltS (a1) (a2)||decide (a1=a2)) then some (1:Int) else some (0:Int))))) else (bif r2 then (bif !r1 then some (1:Int) else (bif ltS (a1) (a2) then some (-1:Int) else (bif !(ltS (a1) (a2)||decide (a1=a2)) then some (1:Int) else some (0:Int)))) else (bif ltS (a1) (a2) then some (-1:Int) else (bif !(ltS (a1) (a2)||decide (a1=a2)) then some (1:Int) else some (0:Int)))))) else (bif r1 then (bif !r2 then some (-1:Int) else (bif r2 then (bif !r1 then some (1:Int) else (bif ltS (a1) (a2) then some (-1:Int) else (bif !(ltS (a1) (a2)||decide (a1=a2)) then some (1:Int) else some (0:Int)))) else (bif ltS (a1) (a2) then some (-1:Int) else (bif !(ltS (a1) (a2)||decide (a1=a2)) then some (1:Int) else some (0:Int))))) else (bif r2 then (bif !r1 then some (1:Int) else (bif ltS (a1) (a2) then some (-1:Int) else (bif !(ltS (a1) (a2)||decide (a1=a2)) then some (1:Int) else some (0:Int)))) else (bif ltS (a1) (a2) then some (-1:Int) else (bif !(ltS (a1) (a2)||decide (a1=a2)) then some (1:Int) else some (0:Int))))))
def j9f (n:Nat):FC:={ f:=224,args:=[.one (.c (.d .str)),.one (.c (.d .str))],res:=.one (.c (.d (.int .i64))),F:=fun p=>qd0 n p.1 p.2 }
theorem ja4 (n:Nat):q05 Inv Tryz.prog (j9f n):=mkF Tryz.func224 [] [] (cc (qey n) <| cc (qjt n) <| cn) (by kernel_rfl) trivial (by intro a;kernel_rfl)
def q9p (n:Nat) (a1:Bool):Option Int :=
 (bif a1 then some (1:Int) else some (0:Int))
def qz0 (n:Nat):FC:={ f:=223,args:=[.one (.c (.d .bool))],res:=.one (.c (.d (.int .i64))),F:=fun p=>q9p n p }
theorem qz4 (n:Nat):q05 Inv Tryz.prog (qz0 n):=mkF Tryz.func223 [] [] (cn) (by kernel_rfl) trivial (by intro a;kernel_rfl)
@[reducible] def jfv:SSt:=⟨[(5,.one (.c (.d (.lst .str)))),(6,.one (.c (.d (.lst .str)))),(7,.one (.c (.d (.int .i64))))],[],[]⟩
@[reducible] def j30:List (Exit×SSt):=[(.ret,⟨[(4,.one (.c (.d (.int .i64))))],[],[]⟩),(.exit 0,⟨[(5,.one (.c (.d (.lst .str)))),(6,.one (.c (.d (.lst .str))))],[],[]⟩)]
def qz9 (n:Nat) (rec:(List Yy)->(List Yy)->Int->Option Z2) (a1:List Yy) (a2:List Yy) (a3:Int):Option Z2 :=
 (bif decide (a3<(a1.length:Int)) then (bif decide (a3<(a2.length:Int)) then (q0d a1 a3).bind fun x9=>(q0d a2 a3).bind fun x10=>(qd0 n x9 x10).bind fun r11=>(bif !decide (r11=0) then (q0d a1 a3).bind fun x12=>(q0d a2 a3).bind fun x13=>(qd0 n x12 x13).bind fun r14=>some (Sum.inl ((r14,()),((),()))) else q00 (IntKind.wrap .i64 (a3+1)) fun n15=>rec a1 a2 n15) else some (Sum.inr (((a1,(a2,())),((),()))))) else some (Sum.inr (((a1,(a2,())),((),())))))
def jc0 (n:Nat):Stp jfv j30:=fun rec p=>qz9 n (fun a1 a2 a3=>rec ((a1,(a2,(a3,()))),((),()))) p.1.1 p.1.2.1 p.1.2.2.1
def qan (n m:Nat) (a1:List Yy) (a2:List Yy) (a3:Int):Option Z2:=q0v (jc0 n) m ((a1,(a2,(a3,()))),((),()))
theorem qkp (n m:Nat) (a1 a2 a3):qan n (m+1) a1 a2 a3=qz9 n (fun a1 a2 a3=>qan n m a1 a2 a3) a1 a2 a3:=rfl
def j07 (n:Nat) (a1:Yy) (a2:Yy):Option Int :=
 (bif decide (a1=([]:Yy)) then (q9p n (decide (a1=([]:Yy)))).bind fun r1=>(q9p n (decide (a2=([]:Yy)))).bind fun r2=>(q3l n r1 r2).bind fun r3=>some r3 else (bif decide (a2=([]:Yy)) then (q9p n (decide (a1=([]:Yy)))).bind fun r4=>(q9p n (decide (a2=([]:Yy)))).bind fun r5=>(q3l n r4 r5).bind fun r6=>some r6 else (q0e n a1 (46:Int)).bind fun r7=>(q0e n a2 (46:Int)).bind fun r8=>(qan n n r7 r8 (0:Int)).bind fun o16=>Sum.elim (fun (q17:(Int×Unit)×Unit×Unit)=>some q17.1.1) (fun (q18:((List Yy)×((List Yy)×Unit))×Unit×Unit)=>(q3l n (q18.1.1.length:Int) (q18.1.2.1.length:Int)).bind fun r19=>some r19) o16))
def jj1 (n:Nat):FC:={ f:=210,args:=[.one (.c (.d .str)),.one (.c (.d .str))],res:=.one (.c (.d (.int .i64))),F:=fun p=>j07 n p.1 p.2 }
def jk0:q1j:=[(8,[⟨15576890575604482885591488987693056,2^111,0⟩,⟨59421121885698253195157962753*2^21,2^114,0⟩,⟨393*2^111,2^117,3⟩,⟨49*2^117,2^120,7⟩,⟨63802943797675961899382738893456801792,2^123,0⟩,⟨243388915243820045087367015432193*2^21,2^126,0⟩,⟨393*2^123,2^129,48⟩,⟨49*2^129,2^132,112⟩,⟨200705*2^120,2^135,255⟩,⟨49*2^135,2^138,511⟩]),(1000008,[]),(9,[⟨16725558898897967356151788704486271129518080,2^141,0⟩,⟨63802943797675961899382738893456539649*2^21,2^144,0⟩,⟨393*2^141,2^147,3⟩,⟨49*2^147,2^150,7⟩,⟨68507889249886074290797726533575766546372100096,2^153,0⟩,⟨261336857795280739939871698507597986398209*2^21,2^156,0⟩,⟨393*2^153,2^159,48⟩,⟨49*2^159,2^162,112⟩,⟨200705*2^150,2^165,255⟩,⟨46768052394588893382517914646921056628989841399808,4096,511⟩]),(1000009,[])]
theorem jmh (n:Nat):q05 Inv Tryz.prog (jj1 n):=mkF Tryz.func210 jk0 [q4o jc0 n] (cc (qz4 n) <| cc (qjt n) <| cc (q2t n) <| cc (ja4 n) <| cn) (by kernel_rfl) ⟨ls (by intro rec p;kernel_rfl),trivial⟩ (by intro a;kernel_rfl)
def q55 (n:Nat) (a1:Vv) (a2:Vv):Option Int :=
 (q8e n a1).bind fun r1=>(bif !r1 then some (0:Int) else (q8e n a2).bind fun r2=>(bif !r2 then some (0:Int) else (bif !decide (a1.1=a2.1) then (q3l n a1.1 a2.1).bind fun r3=>some r3 else (bif !decide (a1.2.1=a2.2.1) then (q3l n a1.2.1 a2.2.1).bind fun r4=>some r4 else (bif !decide (a1.2.2.1=a2.2.2.1) then (q3l n a1.2.2.1 a2.2.2.1).bind fun r5=>some r5 else (j07 n a1.2.2.2.1 a2.2.2.2.1).bind fun r6=>some r6)))))
def qy6 (n:Nat):FC:={ f:=178,args:=[.one (.agg [.d (.int .i64),.d (.int .i64),.d (.int .i64),.d .str,.d .str]),.one (.agg [.d (.int .i64),.d (.int .i64),.d (.int .i64),.d .str,.d .str])],res:=.one (.c (.d (.int .i64))),F:=fun p=>q55 n p.1 p.2 }
theorem qyi (n:Nat):q05 Inv Tryz.prog (qy6 n):=mkF Tryz.func178 [] [] (cc (qlu n) <| cc (qjt n) <| cc (jmh n) <| cn) (by kernel_rfl) trivial (by intro a;kernel_rfl)
end Go.Proofs.YtapfankgdkdkgaaGreatDoor.AM
