
import Derived.Test.YtapfankgdkdkgaaGreatDoorEa9
namespace Go.Proofs.YtapfankgdkdkgaaGreatDoor.AM
open Go.RowKit
set_option linter.unusedVariables false
set_option maxRecDepth 20000
abbrev Z2:=((Int×Unit)×Unit×Unit)⊕(((List Yy)×((List Yy)×Unit))×Unit×Unit)
abbrev Z3:=((Bool×Unit)×Unit×Unit)⊕((Unit×Unit)×(Vv×Unit)×Unit)
abbrev Z4:=((Int×Unit)×Unit×Unit)⊕((Int×Unit)×Unit×Unit)
def q0s (n:Nat) (a1:Yy) (a2:Yy):Option Bool :=
 (bif decide ((a2.length:Int)<=(a1.length:Int)) then (q1c a1 (0:Int) (a2.length:Int)).bind fun s1=>some (decide (s1=a2)) else some false)
def q5f (n:Nat):FC:={ f:=181,args:=[.one (.c (.d .str)),.one (.c (.d .str))],res:=.one (.c (.d .bool)),F:=fun p=>q0s n p.1 p.2 }
theorem q2a (n:Nat):q08 Inv Tryz.prog (q5f n):=mkF Tryz.func181 [] [] (cn) (by kernel_rfl) trivial (by intro a;kernel_rfl)
def q5a (n:Nat) (a1:Yy) (a2:Yy):Option Yy :=
 (q0s n a1 a2).bind fun r1=>(bif r1 then (q1c a1 (a2.length:Int) (a1.length:Int)).bind fun s2=>some s2 else some a1)
def qfx (n:Nat):FC:={ f:=183,args:=[.one (.c (.d .str)),.one (.c (.d .str))],res:=.one (.c (.d .str)),F:=fun p=>q5a n p.1 p.2 }
theorem qgb (n:Nat):q08 Inv Tryz.prog (qfx n):=mkF Tryz.func183 [] [] (cc (q2a n) <| cn) (by kernel_rfl) trivial (by intro a;kernel_rfl)
def q3x (n:Nat) (a1:Yy) (a2:Yy):Option Yy :=
 (q5a n a1 a2).bind fun r1=>some r1
def qj5 (n:Nat):FC:={ f:=155,args:=[.one (.c (.d .str)),.one (.c (.d .str))],res:=.one (.c (.d .str)),F:=fun p=>q3x n p.1 p.2 }
theorem q8k (n:Nat):q08 Inv Tryz.prog (qj5 n):=mkF Tryz.func155 [] [] (cc (qgb n) <| cn) (by kernel_rfl) trivial (by intro a;kernel_rfl)
def qyr (n:Nat) (a1:Yy) (a2:Yy):Option (Yy×(Yy×Bool)) :=
 (qel a1 a2).bind fun (r1:Int)=>(bif decide (0<=r1) then (q1c a1 (0:Int) r1).bind fun s2=>q0b (IntKind.wrap .i64 (r1+(a2.length:Int))) fun (n3:Int)=>(q1c a1 n3 (a1.length:Int)).bind fun s4=>some (s2,(s4,true)) else some (a1,(([]:Yy),false)))
def j8z (n:Nat):FC:={ f:=82,args:=[.one (.c (.d .str)),.one (.c (.d .str))],res:=.tup [.c (.d .str),.c (.d .str),.c (.d .bool)],F:=fun p=>qyr n p.1 p.2 }
def j5z:q1l:=[(3,[⟨3298534883329,2^39,0⟩,⟨12582913*2^21,2^42,0⟩,⟨393*2^39,2^45,3⟩,⟨1688849860263937,2^48,0⟩,⟨6442450945*2^21,2^51,0⟩,⟨108086391056891912,2^54,0⟩,⟨49*2^54,2^57,32⟩,⟨3137*2^51,2^60,112⟩,⟨200705*2^48,2^63,248⟩,⟨35184372113408,4096,7⟩,⟨9223372036854972416,32768,1023⟩,⟨3*2^19,2^18,2047⟩])]
theorem j7v (n:Nat):q08 Inv Tryz.prog (j8z n):=mkF Tryz.func82 j5z [] (cc (j49) <| cn) (by kernel_rfl) trivial (by intro a;kernel_rfl)
def qhw (n:Nat) (a1:Yy) (a2:Yy):Option (Yy×(Yy×Bool)) :=
 (qyr n a1 a2).bind fun r1=>some r1
def jcg (n:Nat):FC:={ f:=55,args:=[.one (.c (.d .str)),.one (.c (.d .str))],res:=.tup [.c (.d .str),.c (.d .str),.c (.d .bool)],F:=fun p=>qhw n p.1 p.2 }
theorem qz5 (n:Nat):q08 Inv Tryz.prog (jcg n):=mkF Tryz.func55 [] [] (cc (j7v n) <| cn) (by kernel_rfl) trivial (by intro a;kernel_rfl)
def qis (n:Nat) (a1:Int):Option Bool :=
 some (!decide (a1=a1))
def j1v (n:Nat):FC:={ f:=184,args:=[.one (.c (.d (.int .i64)))],res:=.one (.c (.d .bool)),F:=fun p=>qis n p }
theorem j17 (n:Nat):q08 Inv Tryz.prog (j1v n):=mkF Tryz.func184 [] [] (cn) (by kernel_rfl) trivial (by intro a;kernel_rfl)
def q5c (n:Nat) (a1:Int) (a2:Int):Option Int :=
 (qis n a1).bind fun r1=>(qis n a2).bind fun r2=>(bif r1 then (bif r2 then some (0:Int) else some (-1:Int)) else (bif r2 then some (1:Int) else (bif decide (a1<a2) then some (-1:Int) else (bif decide (a2<a1) then some (1:Int) else some (0:Int)))))
def qy1 (n:Nat):FC:={ f:=158,args:=[.one (.c (.d (.int .i64))),.one (.c (.d (.int .i64)))],res:=.one (.c (.d (.int .i64))),F:=fun p=>q5c n p.1 p.2 }
theorem qmj (n:Nat):q08 Inv Tryz.prog (qy1 n):=mkF Tryz.func158 [] [] (cc (j17 n) <| cn) (by kernel_rfl) trivial (by intro a;kernel_rfl)
@[reducible] def qzp:SSt:=⟨[(3,.one (.c (.d (.int .i64)))),(6,.one (.c (.d (.lst (.int .i64))))),(7,.one (.c (.d (.int .i64)))),(8,.one (.c (.d (.int .i64))))],[],[]⟩
@[reducible] def qpq:List (Exit×SSt):=[(.ret,⟨[(2,.one (.c (.d (.int .i64))))],[],[]⟩),(.exit 0,⟨[(3,.one (.c (.d (.int .i64))))],[],[]⟩)]
def qj4 (n:Nat) (rec:Int->(List Int)->Int->Int->Option Z4) (a1:Int) (a2:List Int) (a3:Int) (a4:Int):Option Z4 :=
 (bif decide (a4<a3) then (q1t a2 a4).bind fun x1=>(bif !decide (x1=a1) then some (Sum.inl ((x1,()),((),()))) else q0b (IntKind.wrap .i64 (a4+1)) fun n2=>rec a1 a2 a3 n2) else some (Sum.inr (((a1,()),((),())))))
def qq5 (n:Nat):Stp qzp qpq:=fun rec p=>qj4 n (fun a1 a2 a3 a4=>rec ((a1,(a2,(a3,(a4,())))),((),()))) p.1.1 p.1.2.1 p.1.2.2.1 p.1.2.2.2.1
def q4u (n m:Nat) (a1:Int) (a2:List Int) (a3:Int) (a4:Int):Option Z4:=q2y (qq5 n) m ((a1,(a2,(a3,(a4,())))),((),()))
theorem qb6 (n m:Nat) (a1 a2 a3 a4):q4u n (m+1) a1 a2 a3 a4=qj4 n (fun a1 a2 a3 a4=>q4u n m a1 a2 a3 a4) a1 a2 a3 a4:=rfl
def qce (n:Nat) (a1:List Int):Option Int :=
 (q4u n n (0:Int) a1 (a1.length:Int) (0:Int)).bind fun o3=>Sum.elim (fun (q4:(Int×Unit)×Unit×Unit)=>some q4.1.1) (fun (q5:(Int×Unit)×Unit×Unit)=>some q5.1.1) o3
def j3l (n:Nat):FC:={ f:=157,args:=[.one (.c (.d (.lst (.int .i64))))],res:=.one (.c (.d (.int .i64))),F:=fun p=>qce n p }
theorem qqi (n:Nat):q08 Inv Tryz.prog (j3l n):=mkF Tryz.func157 [] [qi5 qq5 n] (cn) (by kernel_rfl) ⟨ls (by intro rec p;kernel_rfl),trivial⟩ (by intro a;kernel_rfl)
@[reducible] def qtu:SSt:=⟨[(1,.one (.c (.box 1 0))),(11,.one (.agg [.d (.int .i64),.d (.int .i64),.d (.int .i64)])),(12,.one (.c (.d (.int .i64))))],[(1,(44,[.d (.int .i64),.d (.int .i64),.d (.int .i64),.d .str,.d .str]))],[]⟩
@[reducible] def qlj:List (Exit×SSt):=[(.ret,⟨[(2,.one (.c (.d .bool)))],[],[]⟩),(.exit 0,⟨[(1,.one (.c (.box 1 0)))],[(1,(44,[.d (.int .i64),.d (.int .i64),.d (.int .i64),.d .str,.d .str]))],[]⟩)]
def q8i (n:Nat) (rec:Int->Int->Int->Int->Int->Int->Int->Yy->Yy->Option Z3) (a1:Int) (a2:Int) (a3:Int) (a4:Int) (a5:Int) (a6:Int) (a7:Int) (a8:Yy) (a9:Yy):Option Z3 :=
 (bif decide (a4<3) then (q1t ([a1,a2,a3]:List Int) a4).bind fun x1=>(bif decide (x1<0) then some (Sum.inl ((false,()),((),()))) else (bif decide (999999999<x1) then some (Sum.inl ((false,()),((),()))) else q0b (IntKind.wrap .i64 (a4+1)) fun n2=>rec a1 a2 a3 n2 a5 a6 a7 a8 a9)) else some (Sum.inr ((((),()),(((a5,(a6,(a7,(a8,a9)))),()),())))))
def qni (n:Nat):Stp qtu qlj:=fun rec p=>q8i n (fun a1 a2 a3 a4 a5 a6 a7 a8 a9=>rec (((),((a1,(a2,a3)),(a4,()))),(((a5,(a6,(a7,(a8,a9)))),()),()))) p.1.2.1.1 p.1.2.1.2.1 p.1.2.1.2.2 p.1.2.2.1 p.2.1.1.1 p.2.1.1.2.1 p.2.1.1.2.2.1 p.2.1.1.2.2.2.1 p.2.1.1.2.2.2.2
def q2s (n m:Nat) (a1:Int) (a2:Int) (a3:Int) (a4:Int) (a5:Int) (a6:Int) (a7:Int) (a8:Yy) (a9:Yy):Option Z3:=q2y (qni n) m (((),((a1,(a2,a3)),(a4,()))),(((a5,(a6,(a7,(a8,a9)))),()),()))
theorem q4f (n m:Nat) (a1 a2 a3 a4 a5 a6 a7 a8 a9):q2s n (m+1) a1 a2 a3 a4 a5 a6 a7 a8 a9=q8i n (fun a1 a2 a3 a4 a5 a6 a7 a8 a9=>q2s n m a1 a2 a3 a4 a5 a6 a7 a8 a9) a1 a2 a3 a4 a5 a6 a7 a8 a9:=rfl
def q37 (n:Nat) (a1:Vv):Option Bool :=
 (q2s n n a1.1 a1.2.1 a1.2.2.1 (0:Int) a1.1 a1.2.1 a1.2.2.1 a1.2.2.2.1 a1.2.2.2.2).bind fun o3=>Sum.elim (fun (q4:(Bool×Unit)×Unit×Unit)=>some q4.1.1) (fun (q5:(Unit×Unit)×(Vv×Unit)×Unit)=>(qf9 q5.2.1.1.2.2.2.1 ()).bind fun (r6:Bool)=>(bif r6 then (qa0 q5.2.1.1.2.2.2.2 ()).bind fun (r7:Bool)=>some r7 else some false)) o3
def qx5 (n:Nat):FC:={ f:=74,args:=[.one (.agg [.d (.int .i64),.d (.int .i64),.d (.int .i64),.d .str,.d .str])],res:=.one (.c (.d .bool)),F:=fun p=>q37 n p }
theorem q60 (n:Nat):q08 Inv Tryz.prog (qx5 n):=mkF Tryz.func74 [] [qi5 qni n] (cc (qtb) <| cc (qnw) <| cn) (by kernel_rfl) ⟨ls (by intro rec p;kernel_rfl),trivial⟩ (by intro a;kernel_rfl)
def q7c (n:Nat) (a1:Vv):Option Yy :=
 (q37 n a1).bind fun r1=>(bif !r1 then some ([]:Yy) else (qea a1.1).bind fun (r2:Yy)=>(q6j ([118]:Yy) r2).bind fun s3=>(q6j s3 ([46]:Yy)).bind fun s4=>(qea a1.2.1).bind fun (r5:Yy)=>(q6j s4 r5).bind fun s6=>(q6j s6 ([46]:Yy)).bind fun s7=>(qea a1.2.2.1).bind fun (r8:Yy)=>(q6j s7 r8).bind fun s9=>(bif !decide (a1.2.2.2.1=([]:Yy)) then (q6j ([45]:Yy) a1.2.2.2.1).bind fun s10=>(q6j s9 s10).bind fun s11=>(bif !decide (a1.2.2.2.2=([]:Yy)) then (q6j ([43]:Yy) a1.2.2.2.2).bind fun s12=>(q6j s11 s12).bind fun s13=>some s13 else some s11) else (bif !decide (a1.2.2.2.2=([]:Yy)) then (q6j ([43]:Yy) a1.2.2.2.2).bind fun s14=>(q6j s9 s14).bind fun s15=>some s15 else some s9)))
def j2x (n:Nat):FC:={ f:=47,args:=[.one (.agg [.d (.int .i64),.d (.int .i64),.d (.int .i64),.d .str,.d .str])],res:=.one (.c (.d .str)),F:=fun p=>q7c n p }
def j22:q1l:=[(3,[⟨12582936,2^21,0⟩,⟨102760464,2^24,1⟩,⟨49*2^24,2^27,3⟩,⟨49*2^27,2^30,7⟩,⟨49*2^30,2^33,15⟩,⟨412316860440,2^36,0⟩,⟨3367254360080,2^39,32⟩,⟨49*2^39,2^42,103⟩,⟨25089*2^33,2^45,255⟩,⟨49*2^45,2^48,511⟩,⟨13510798882111512,2^51,0⟩,⟨110338190870577168,2^54,1024⟩,⟨49*2^54,2^57,3303⟩,⟨25089*2^48,2^60,8191⟩,⟨1152921504606850048,512,16383⟩]),(1000003,[])]
theorem qj3 (n:Nat):q08 Inv Tryz.prog (j2x n):=mkF Tryz.func47 j22 [] (cc (q60 n) <| cc (j7l) <| cn) (by kernel_rfl) trivial (by intro a;kernel_rfl)
def q6q (n:Nat) (a1:Yy):Option (Vv×Bool) :=
 (qhw n a1 ([43]:Yy)).bind fun r1=>(qhw n r1.1 ([45]:Yy)).bind fun r2=>(q3x n r2.1 ([118]:Yy)).bind fun r3=>(qhw n r3 ([46]:Yy)).bind fun r4=>(qhw n r4.2.1 ([46]:Yy)).bind fun r5=>(q38 r4.1).bind fun (r6:Int)=>(q38 r5.1).bind fun (r7:Int)=>(q38 r5.2.1).bind fun (r8:Int)=>(q37 n (r6,(r7,(r8,(r2.2.1,r1.2.1))))).bind fun r9=>(bif !r9 then some (((0:Int),((0:Int),((0:Int),(([]:Yy),([]:Yy))))),false) else (q7c n (r6,(r7,(r8,(r2.2.1,r1.2.1))))).bind fun r10=>(bif !decide (r10=a1) then some (((0:Int),((0:Int),((0:Int),(([]:Yy),([]:Yy))))),false) else some ((r6,(r7,(r8,(r2.2.1,r1.2.1)))),true)))
def qy8 (n:Nat):FC:={ f:=120,args:=[.one (.c (.d .str))],res:=.tup [.agg [.d (.int .i64),.d (.int .i64),.d (.int .i64),.d .str,.d .str],.c (.d .bool)],F:=fun p=>q6q n p }
theorem qkv (n:Nat):q08 Inv Tryz.prog (qy8 n):=mkF Tryz.func120 [] [] (cc (qz5 n) <| cc (q8k n) <| cc (qyp) <| cc (q60 n) <| cc (qj3 n) <| cn) (by kernel_rfl) trivial (by intro a;kernel_rfl)
def qin (n:Nat) (a1:Yy) (a2:Yy):Option Int :=
 (q3a n a1).bind fun r1=>(q3a n a2).bind fun r2=>(bif r1 then (bif r2 then (q5c n (a1.length:Int) (a2.length:Int)).bind fun r3=>(q95 a1 a2).bind fun (r4:Int)=>(qce n ([r3,r4]:List Int)).bind fun r5=>some r5 else (bif r1 then some (-1:Int) else (bif r2 then some (1:Int) else (q95 a1 a2).bind fun (r6:Int)=>some r6))) else (bif r1 then some (-1:Int) else (bif r2 then some (1:Int) else (q95 a1 a2).bind fun (r7:Int)=>some r7)))
def j4g (n:Nat):FC:={ f:=186,args:=[.one (.c (.d .str)),.one (.c (.d .str))],res:=.one (.c (.d (.int .i64))),F:=fun p=>qin n p.1 p.2 }
theorem j2p (n:Nat):q08 Inv Tryz.prog (j4g n):=mkF Tryz.func186 [] [] (cc (qdg n) <| cc (qmj n) <| cc (qt2) <| cc (qqi n) <| cn) (by kernel_rfl) trivial (by intro a;kernel_rfl)
@[reducible] def qp0:SSt:=⟨[(0,.one (.c (.d (.lst .str)))),(1,.one (.c (.d (.lst .str)))),(2,.one (.c (.fn 186 []))),(11,.one (.c (.d (.lst .str)))),(12,.one (.c (.d (.int .i64)))),(13,.one (.c (.d (.int .i64))))],[],[]⟩
@[reducible] def qj7:List (Exit×SSt):=[(.ret,⟨[(6,.one (.c (.d (.int .i64))))],[],[]⟩),(.exit 0,⟨[(0,.one (.c (.d (.lst .str)))),(1,.one (.c (.d (.lst .str))))],[],[]⟩)]
def q9v (n:Nat) (rec:(List Yy)->(List Yy)->(List Yy)->Int->Int->Option Z2) (a1:List Yy) (a2:List Yy) (a3:List Yy) (a4:Int) (a5:Int):Option Z2 :=
 (bif decide (a5<a4) then (q1t a3 a5).bind fun x1=>(bif decide ((a2.length:Int)<=a5) then some (Sum.inl (((1:Int),()),((),()))) else (q1t a2 a5).bind fun x2=>(qin n x1 x2).bind fun r3=>(bif !decide (r3=0) then some (Sum.inl ((r3,()),((),()))) else q0b (IntKind.wrap .i64 (a5+1)) fun n4=>rec a1 a2 a3 a4 n4)) else some (Sum.inr (((a1,(a2,())),((),())))))
def qhg (n:Nat):Stp qp0 qj7:=fun rec p=>q9v n (fun a1 a2 a3 a4 a5=>rec ((a1,(a2,((),(a3,(a4,(a5,())))))),((),()))) p.1.1 p.1.2.1 p.1.2.2.2.1 p.1.2.2.2.2.1 p.1.2.2.2.2.2.1
def q36 (n m:Nat) (a1:List Yy) (a2:List Yy) (a3:List Yy) (a4:Int) (a5:Int):Option Z2:=q2y (qhg n) m ((a1,(a2,((),(a3,(a4,(a5,())))))),((),()))
theorem q8u (n m:Nat) (a1 a2 a3 a4 a5):q36 n (m+1) a1 a2 a3 a4 a5=q9v n (fun a1 a2 a3 a4 a5=>q36 n m a1 a2 a3 a4 a5) a1 a2 a3 a4 a5:=rfl
def qe6 (n:Nat) (a1:List Yy) (a2:List Yy) (a3:Unit):Option Int :=
 (q36 n n a1 a2 a1 (a1.length:Int) (0:Int)).bind fun o5=>Sum.elim (fun (q6:(Int×Unit)×Unit×Unit)=>some q6.1.1) (fun (q7:((List Yy)×((List Yy)×Unit))×Unit×Unit)=>(bif decide ((q7.1.1.length:Int)<(q7.1.2.1.length:Int)) then some (-1:Int) else some (0:Int))) o5
def quc (n:Nat):FC:={ f:=185,args:=[.one (.c (.d (.lst .str))),.one (.c (.d (.lst .str))),.one (.c (.fn 186 []))],res:=.one (.c (.d (.int .i64))),F:=fun p=>qe6 n p.1 p.2.1 p.2.2 }
theorem qun (n:Nat):q08 Inv Tryz.prog (quc n):=mkF Tryz.func185 [] [qi5 qhg n] (cc (j2p n) <| cn) (by kernel_rfl) ⟨ls (by intro rec p;kernel_rfl),trivial⟩ (by intro a;kernel_rfl)
def qs4 (n:Nat) (a1:Yy) (a2:Yy):Option Int :=
 (bif decide (a1=a2) then some (0:Int) else (bif decide (a1=([]:Yy)) then some (1:Int) else (bif decide (a2=([]:Yy)) then some (-1:Int) else (q54 a1 ([46]:Yy)).bind fun (r1:List Yy)=>(q54 a2 ([46]:Yy)).bind fun (r2:List Yy)=>(qe6 n r1 r2 ()).bind fun r3=>some r3)))
def j86 (n:Nat):FC:={ f:=159,args:=[.one (.c (.d .str)),.one (.c (.d .str))],res:=.one (.c (.d (.int .i64))),F:=fun p=>qs4 n p.1 p.2 }
theorem j7h (n:Nat):q08 Inv Tryz.prog (j86 n):=mkF Tryz.func159 [] [] (cc (qr3) <| cc (qun n) <| cn) (by kernel_rfl) trivial (by intro a;kernel_rfl)
def q6u (n:Nat) (a1:Vv) (a2:Vv):Option Int :=
 (q37 n a1).bind fun r1=>(bif !r1 then some (0:Int) else (q37 n a2).bind fun r2=>(bif !r2 then some (0:Int) else (q5c n a1.1 a2.1).bind fun r3=>(q5c n a1.2.1 a2.2.1).bind fun r4=>(q5c n a1.2.2.1 a2.2.2.1).bind fun r5=>(qs4 n a1.2.2.2.1 a2.2.2.2.1).bind fun r6=>(qce n ([r3,r4,r5,r6]:List Int)).bind fun r7=>some r7))
def qpn (n:Nat):FC:={ f:=121,args:=[.one (.agg [.d (.int .i64),.d (.int .i64),.d (.int .i64),.d .str,.d .str]),.one (.agg [.d (.int .i64),.d (.int .i64),.d (.int .i64),.d .str,.d .str])],res:=.one (.c (.d (.int .i64))),F:=fun p=>q6u n p.1 p.2 }
def qos:q1l:=[(3,[⟨3298534883520,2^39,0⟩,⟨26938034880640,2^42,1⟩,⟨211106232534528,2^45,0⟩,⟨1724034232353792,2^48,4⟩,⟨3137*2^42,2^51,15⟩,⟨108086391056892096,2^54,0⟩,⟨882705526964617344,2^57,32⟩,⟨6917529027641083392,2^60,0⟩,⟨56493153725735502848,2^63,128⟩,⟨3137*2^57,2^66,511⟩,⟨3541774862152233910464,2^69,0⟩,⟨28924494707576576934016,2^72,1024⟩,⟨226673591177742970258944,2^75,0⟩,⟨1851167661284900923769856,2^78,4096⟩,⟨3137*2^72,2^81,16383⟩,⟨116056878683004400771793088,2^84,0⟩,⟨947797842577869272969642112,2^87,32768⟩,⟨7427640235712281649394746880,2^90,0⟩,⟨60659061924983633470057088000,2^93,2^17⟩,⟨3137*2^87,2^96,524287⟩,⟨1724035306127361*2^51,5*2^99,1048575⟩,⟨53*2^99,2^102,2097151⟩,⟨5070602400912917605986812846080,4096,4194303⟩])]
theorem qpz (n:Nat):q08 Inv Tryz.prog (qpn n):=mkF Tryz.func121 qos [] (cc (q60 n) <| cc (qmj n) <| cc (j7h n) <| cc (qqi n) <| cn) (by kernel_rfl) trivial (by intro a;kernel_rfl)
end Go.Proofs.YtapfankgdkdkgaaGreatDoor.AM
