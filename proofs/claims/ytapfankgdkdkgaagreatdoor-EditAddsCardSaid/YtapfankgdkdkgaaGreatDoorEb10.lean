
import Derived.Test.YtapfankgdkdkgaaGreatDoorEb9
namespace Go.Proofs.YtapfankgdkdkgaaGreatDoor.AM
open Go.RowKit
set_option linter.unusedVariables false
set_option maxRecDepth 20000
abbrev Z2:=((Int×Unit)×Unit×Unit)⊕(((List Yy)×((List Yy)×Unit))×Unit×Unit)
abbrev Z3:=((Bool×Unit)×Unit×Unit)⊕((Bool×((List Yy)×(Int×Unit)))×Unit×Unit)
abbrev Z4:=((Bool×Unit)×Unit×Unit)⊕((Unit×Unit)×(Vv×Unit)×Unit)
abbrev Z5:=((Int×Unit)×Unit×Unit)⊕((Int×Unit)×Unit×Unit)
abbrev Z6:=((Bool×Unit)×Unit×Unit)⊕((Yy×Unit)×Unit×Unit)
abbrev Z7:=((Bool×Unit)×Unit×Unit)⊕(Unit×Unit×Unit)
abbrev Z8:=((Int×Unit)×Unit×Unit)⊕(Unit×Unit×Unit)
abbrev Z9:=(Unit×Unit)×Unit×((List Yy)×Unit)
def q1e (n:Nat) (a1:Yy) (a2:Yy):Option Bool :=
 (bif decide ((a2.length:Int)<=(a1.length:Int)) then (q0w a1 (0:Int) (a2.length:Int)).bind fun s1=>some (decide (s1=a2)) else some false)
def q82 (n:Nat):FC:={ f:=181,args:=[.one (.c (.d .str)),.one (.c (.d .str))],res:=.one (.c (.d .bool)),F:=fun p=>q1e n p.1 p.2 }
theorem q3v (n:Nat):q06 Inv Tryz.prog (q82 n):=mkF Tryz.func181 [] [] (cn) (by kernel_rfl) trivial (by intro a;kernel_rfl)
def q89 (n:Nat) (a1:Yy) (a2:Yy):Option Yy :=
 (q1e n a1 a2).bind fun r1=>(bif r1 then (q0w a1 (a2.length:Int) (a1.length:Int)).bind fun s2=>some s2 else some a1)
def qmr (n:Nat):FC:={ f:=183,args:=[.one (.c (.d .str)),.one (.c (.d .str))],res:=.one (.c (.d .str)),F:=fun p=>q89 n p.1 p.2 }
theorem qmw (n:Nat):q06 Inv Tryz.prog (qmr n):=mkF Tryz.func183 [] [] (cc (q3v n) <| cn) (by kernel_rfl) trivial (by intro a;kernel_rfl)
def q68 (n:Nat) (a1:Yy) (a2:Yy):Option Yy :=
 (q89 n a1 a2).bind fun r1=>some r1
def qqu (n:Nat):FC:={ f:=155,args:=[.one (.c (.d .str)),.one (.c (.d .str))],res:=.one (.c (.d .str)),F:=fun p=>q68 n p.1 p.2 }
theorem qcv (n:Nat):q06 Inv Tryz.prog (qqu n):=mkF Tryz.func155 [] [] (cc (qmw n) <| cn) (by kernel_rfl) trivial (by intro a;kernel_rfl)
def je1 (n:Nat) (a1:Yy) (a2:Yy):Option (Yy×(Yy×Bool)) :=
 (qio a1 a2).bind fun (r1:Int)=>(bif decide (0<=r1) then (q0w a1 (0:Int) r1).bind fun s2=>q00 (IntKind.wrap .i64 (r1+(a2.length:Int))) fun (n3:Int)=>(q0w a1 n3 (a1.length:Int)).bind fun s4=>some (s2,(s4,true)) else some (a1,(([]:Yy),false)))
def jme (n:Nat):FC:={ f:=82,args:=[.one (.c (.d .str)),.one (.c (.d .str))],res:=.tup [.c (.d .str),.c (.d .str),.c (.d .bool)],F:=fun p=>je1 n p.1 p.2 }
def jk4:q1j:=[(3,[⟨3298534883329,2^39,0⟩,⟨12582913*2^21,2^42,0⟩,⟨393*2^39,2^45,3⟩,⟨1688849860263937,2^48,0⟩,⟨6442450945*2^21,2^51,0⟩,⟨108086391056891912,2^54,0⟩,⟨49*2^54,2^57,32⟩,⟨3137*2^51,2^60,112⟩,⟨200705*2^48,2^63,248⟩,⟨35184372113408,4096,7⟩,⟨9223372036854972416,32768,1023⟩,⟨3*2^19,2^18,2047⟩])]
theorem jkr (n:Nat):q06 Inv Tryz.prog (jme n):=mkF Tryz.func82 jk4 [] (cc (jgm) <| cn) (by kernel_rfl) trivial (by intro a;kernel_rfl)
def qr9 (n:Nat) (a1:Yy) (a2:Yy):Option (Yy×(Yy×Bool)) :=
 (je1 n a1 a2).bind fun r1=>some r1
def jq0 (n:Nat):FC:={ f:=55,args:=[.one (.c (.d .str)),.one (.c (.d .str))],res:=.tup [.c (.d .str),.c (.d .str),.c (.d .bool)],F:=fun p=>qr9 n p.1 p.2 }
theorem jdp (n:Nat):q06 Inv Tryz.prog (jq0 n):=mkF Tryz.func55 [] [] (cc (jkr n) <| cn) (by kernel_rfl) trivial (by intro a;kernel_rfl)
def qp9 (n:Nat) (a1:Int):Option Bool :=
 some (!decide (a1=a1))
def jef (n:Nat):FC:={ f:=184,args:=[.one (.c (.d (.int .i64)))],res:=.one (.c (.d .bool)),F:=fun p=>qp9 n p }
theorem ji1 (n:Nat):q06 Inv Tryz.prog (jef n):=mkF Tryz.func184 [] [] (cn) (by kernel_rfl) trivial (by intro a;kernel_rfl)
def q7t (n:Nat) (a1:Int) (a2:Int):Option Int :=
 (qp9 n a1).bind fun r1=>(qp9 n a2).bind fun r2=>(bif r1 then (bif r2 then some (0:Int) else some (-1:Int)) else (bif r2 then some (1:Int) else (bif decide (a1<a2) then some (-1:Int) else (bif decide (a2<a1) then some (1:Int) else some (0:Int)))))
def jc4 (n:Nat):FC:={ f:=158,args:=[.one (.c (.d (.int .i64))),.one (.c (.d (.int .i64)))],res:=.one (.c (.d (.int .i64))),F:=fun p=>q7t n p.1 p.2 }
theorem qv4 (n:Nat):q06 Inv Tryz.prog (jc4 n):=mkF Tryz.func158 [] [] (cc (ji1 n) <| cn) (by kernel_rfl) trivial (by intro a;kernel_rfl)
@[reducible] def j9p:SSt:=⟨[(3,.one (.c (.d (.int .i64)))),(6,.one (.c (.d (.lst (.int .i64))))),(7,.one (.c (.d (.int .i64)))),(8,.one (.c (.d (.int .i64))))],[],[]⟩
@[reducible] def qxr:List (Exit×SSt):=[(.ret,⟨[(2,.one (.c (.d (.int .i64))))],[],[]⟩),(.exit 0,⟨[(3,.one (.c (.d (.int .i64))))],[],[]⟩)]
def qrq (n:Nat) (rec:Int->(List Int)->Int->Int->Option Z5) (a1:Int) (a2:List Int) (a3:Int) (a4:Int):Option Z5 :=
 (bif decide (a4<a3) then (q0f a2 a4).bind fun x1=>(bif !decide (x1=a1) then some (Sum.inl ((x1,()),((),()))) else q00 (IntKind.wrap .i64 (a4+1)) fun n2=>rec a1 a2 a3 n2) else some (Sum.inr (((a1,()),((),())))))
def j2g (n:Nat):Stp j9p qxr:=fun rec p=>qrq n (fun a1 a2 a3 a4=>rec ((a1,(a2,(a3,(a4,())))),((),()))) p.1.1 p.1.2.1 p.1.2.2.1 p.1.2.2.2.1
def q80 (n m:Nat) (a1:Int) (a2:List Int) (a3:Int) (a4:Int):Option Z5:=q0u (j2g n) m ((a1,(a2,(a3,(a4,())))),((),()))
theorem qgq (n m:Nat) (a1 a2 a3 a4):q80 n (m+1) a1 a2 a3 a4=qrq n (fun a1 a2 a3 a4=>q80 n m a1 a2 a3 a4) a1 a2 a3 a4:=rfl
def qm2 (n:Nat) (a1:List Int):Option Int :=
 (q80 n n (0:Int) a1 (a1.length:Int) (0:Int)).bind fun o3=>Sum.elim (fun (q4:(Int×Unit)×Unit×Unit)=>some q4.1.1) (fun (q5:(Int×Unit)×Unit×Unit)=>some q5.1.1) o3
def jh3 (n:Nat):FC:={ f:=157,args:=[.one (.c (.d (.lst (.int .i64))))],res:=.one (.c (.d (.int .i64))),F:=fun p=>qm2 n p }
theorem j25 (n:Nat):q06 Inv Tryz.prog (jh3 n):=mkF Tryz.func157 [] [q5g j2g n] (cn) (by kernel_rfl) ⟨ls (by intro rec p;kernel_rfl),trivial⟩ (by intro a;kernel_rfl)
@[reducible] def j63:SSt:=⟨[(1,.one (.c (.box 1 0))),(11,.one (.agg [.d (.int .i64),.d (.int .i64),.d (.int .i64)])),(12,.one (.c (.d (.int .i64))))],[(1,(44,[.d (.int .i64),.d (.int .i64),.d (.int .i64),.d .str,.d .str]))],[]⟩
@[reducible] def qsf:List (Exit×SSt):=[(.ret,⟨[(2,.one (.c (.d .bool)))],[],[]⟩),(.exit 0,⟨[(1,.one (.c (.box 1 0)))],[(1,(44,[.d (.int .i64),.d (.int .i64),.d (.int .i64),.d .str,.d .str]))],[]⟩)]
def qdm (n:Nat) (rec:Int->Int->Int->Int->Int->Int->Int->Yy->Yy->Option Z4) (a1:Int) (a2:Int) (a3:Int) (a4:Int) (a5:Int) (a6:Int) (a7:Int) (a8:Yy) (a9:Yy):Option Z4 :=
 (bif decide (a4<3) then (q0f ([a1,a2,a3]:List Int) a4).bind fun x1=>(bif decide (x1<0) then some (Sum.inl ((false,()),((),()))) else (bif decide (999999999<x1) then some (Sum.inl ((false,()),((),()))) else q00 (IntKind.wrap .i64 (a4+1)) fun n2=>rec a1 a2 a3 n2 a5 a6 a7 a8 a9)) else some (Sum.inr ((((),()),(((a5,(a6,(a7,(a8,a9)))),()),())))))
def qwc (n:Nat):Stp j63 qsf:=fun rec p=>qdm n (fun a1 a2 a3 a4 a5 a6 a7 a8 a9=>rec (((),((a1,(a2,a3)),(a4,()))),(((a5,(a6,(a7,(a8,a9)))),()),()))) p.1.2.1.1 p.1.2.1.2.1 p.1.2.1.2.2 p.1.2.2.1 p.2.1.1.1 p.2.1.1.2.1 p.2.1.1.2.2.1 p.2.1.1.2.2.2.1 p.2.1.1.2.2.2.2
def q4g (n m:Nat) (a1:Int) (a2:Int) (a3:Int) (a4:Int) (a5:Int) (a6:Int) (a7:Int) (a8:Yy) (a9:Yy):Option Z4:=q0u (qwc n) m (((),((a1,(a2,a3)),(a4,()))),(((a5,(a6,(a7,(a8,a9)))),()),()))
theorem q7b (n m:Nat) (a1 a2 a3 a4 a5 a6 a7 a8 a9):q4g n (m+1) a1 a2 a3 a4 a5 a6 a7 a8 a9=qdm n (fun a1 a2 a3 a4 a5 a6 a7 a8 a9=>q4g n m a1 a2 a3 a4 a5 a6 a7 a8 a9) a1 a2 a3 a4 a5 a6 a7 a8 a9:=rfl
def q55 (n:Nat) (a1:Vv):Option Bool :=
 (q4g n n a1.1 a1.2.1 a1.2.2.1 (0:Int) a1.1 a1.2.1 a1.2.2.1 a1.2.2.2.1 a1.2.2.2.2).bind fun o3=>Sum.elim (fun (q4:(Bool×Unit)×Unit×Unit)=>some q4.1.1) (fun (q5:(Unit×Unit)×(Vv×Unit)×Unit)=>(qj4 q5.2.1.1.2.2.2.1 ()).bind fun (r6:Bool)=>(bif r6 then (qer q5.2.1.1.2.2.2.2 ()).bind fun (r7:Bool)=>some r7 else some false)) o3
def jbs (n:Nat):FC:={ f:=74,args:=[.one (.agg [.d (.int .i64),.d (.int .i64),.d (.int .i64),.d .str,.d .str])],res:=.one (.c (.d .bool)),F:=fun p=>q55 n p }
theorem q9o (n:Nat):q06 Inv Tryz.prog (jbs n):=mkF Tryz.func74 [] [q5g qwc n] (cc (j5l) <| cc (qzb) <| cn) (by kernel_rfl) ⟨ls (by intro rec p;kernel_rfl),trivial⟩ (by intro a;kernel_rfl)
def qbi (n:Nat) (a1:Vv):Option Yy :=
 (q55 n a1).bind fun r1=>(bif !r1 then some ([]:Yy) else (qks a1.1).bind fun (r2:Yy)=>(q5u ([118]:Yy) r2).bind fun s3=>(q5u s3 ([46]:Yy)).bind fun s4=>(qks a1.2.1).bind fun (r5:Yy)=>(q5u s4 r5).bind fun s6=>(q5u s6 ([46]:Yy)).bind fun s7=>(qks a1.2.2.1).bind fun (r8:Yy)=>(q5u s7 r8).bind fun s9=>(bif !decide (a1.2.2.2.1=([]:Yy)) then (q5u ([45]:Yy) a1.2.2.2.1).bind fun s10=>(q5u s9 s10).bind fun s11=>(bif !decide (a1.2.2.2.2=([]:Yy)) then (q5u ([43]:Yy) a1.2.2.2.2).bind fun s12=>(q5u s11 s12).bind fun s13=>some s13 else some s11) else (bif !decide (a1.2.2.2.2=([]:Yy)) then (q5u ([43]:Yy) a1.2.2.2.2).bind fun s14=>(q5u s9 s14).bind fun s15=>some s15 else some s9)))
def jfj (n:Nat):FC:={ f:=47,args:=[.one (.agg [.d (.int .i64),.d (.int .i64),.d (.int .i64),.d .str,.d .str])],res:=.one (.c (.d .str)),F:=fun p=>qbi n p }
def jf4:q1j:=[(3,[⟨12582936,2^21,0⟩,⟨102760464,2^24,1⟩,⟨49*2^24,2^27,3⟩,⟨49*2^27,2^30,7⟩,⟨49*2^30,2^33,15⟩,⟨412316860440,2^36,0⟩,⟨3367254360080,2^39,32⟩,⟨49*2^39,2^42,103⟩,⟨25089*2^33,2^45,255⟩,⟨49*2^45,2^48,511⟩,⟨13510798882111512,2^51,0⟩,⟨110338190870577168,2^54,1024⟩,⟨49*2^54,2^57,3303⟩,⟨25089*2^48,2^60,8191⟩,⟨1152921504606850048,512,16383⟩]),(1000003,[])]
theorem qqb (n:Nat):q06 Inv Tryz.prog (jfj n):=mkF Tryz.func47 jf4 [] (cc (q9o n) <| cc (jjc) <| cn) (by kernel_rfl) trivial (by intro a;kernel_rfl)
def qad (n:Nat) (a1:Yy):Option (Vv×Bool) :=
 (qr9 n a1 ([43]:Yy)).bind fun r1=>(qr9 n r1.1 ([45]:Yy)).bind fun r2=>(q68 n r2.1 ([118]:Yy)).bind fun r3=>(qr9 n r3 ([46]:Yy)).bind fun r4=>(qr9 n r4.2.1 ([46]:Yy)).bind fun r5=>(q51 r4.1).bind fun (r6:Int)=>(q51 r5.1).bind fun (r7:Int)=>(q51 r5.2.1).bind fun (r8:Int)=>(q55 n (r6,(r7,(r8,(r2.2.1,r1.2.1))))).bind fun r9=>(bif !r9 then some (((0:Int),((0:Int),((0:Int),(([]:Yy),([]:Yy))))),false) else (qbi n (r6,(r7,(r8,(r2.2.1,r1.2.1))))).bind fun r10=>(bif !decide (r10=a1) then some (((0:Int),((0:Int),((0:Int),(([]:Yy),([]:Yy))))),false) else some ((r6,(r7,(r8,(r2.2.1,r1.2.1)))),true)))
def jct (n:Nat):FC:={ f:=120,args:=[.one (.c (.d .str))],res:=.tup [.agg [.d (.int .i64),.d (.int .i64),.d (.int .i64),.d .str,.d .str],.c (.d .bool)],F:=fun p=>qad n p }
theorem qvb (n:Nat):q06 Inv Tryz.prog (jct n):=mkF Tryz.func120 [] [] (cc (jdp n) <| cc (qcv n) <| cc (j9e) <| cc (q9o n) <| cc (qqb n) <| cn) (by kernel_rfl) trivial (by intro a;kernel_rfl)
def qr7 (n:Nat) (a1:Yy) (a2:Yy):Option Int :=
 (q5f n a1).bind fun r1=>(q5f n a2).bind fun r2=>(bif r1 then (bif r2 then (q7t n (a1.length:Int) (a2.length:Int)).bind fun r3=>(qcy a1 a2).bind fun (r4:Int)=>(qm2 n ([r3,r4]:List Int)).bind fun r5=>some r5 else (bif r1 then some (-1:Int) else (bif r2 then some (1:Int) else (qcy a1 a2).bind fun (r6:Int)=>some r6))) else (bif r1 then some (-1:Int) else (bif r2 then some (1:Int) else (qcy a1 a2).bind fun (r7:Int)=>some r7)))
def jfn (n:Nat):FC:={ f:=186,args:=[.one (.c (.d .str)),.one (.c (.d .str))],res:=.one (.c (.d (.int .i64))),F:=fun p=>qr7 n p.1 p.2 }
theorem jgy (n:Nat):q06 Inv Tryz.prog (jfn n):=mkF Tryz.func186 [] [] (cc (qk7 n) <| cc (qv4 n) <| cc (j51) <| cc (j25 n) <| cn) (by kernel_rfl) trivial (by intro a;kernel_rfl)
@[reducible] def qx8:SSt:=⟨[(0,.one (.c (.d (.lst .str)))),(1,.one (.c (.d (.lst .str)))),(2,.one (.c (.fn 186 []))),(11,.one (.c (.d (.lst .str)))),(12,.one (.c (.d (.int .i64)))),(13,.one (.c (.d (.int .i64))))],[],[]⟩
@[reducible] def qqd:List (Exit×SSt):=[(.ret,⟨[(6,.one (.c (.d (.int .i64))))],[],[]⟩),(.exit 0,⟨[(0,.one (.c (.d (.lst .str)))),(1,.one (.c (.d (.lst .str))))],[],[]⟩)]
def qfm (n:Nat) (rec:(List Yy)->(List Yy)->(List Yy)->Int->Int->Option Z2) (a1:List Yy) (a2:List Yy) (a3:List Yy) (a4:Int) (a5:Int):Option Z2 :=
 (bif decide (a5<a4) then (q0f a3 a5).bind fun x1=>(bif decide ((a2.length:Int)<=a5) then some (Sum.inl (((1:Int),()),((),()))) else (q0f a2 a5).bind fun x2=>(qr7 n x1 x2).bind fun r3=>(bif !decide (r3=0) then some (Sum.inl ((r3,()),((),()))) else q00 (IntKind.wrap .i64 (a5+1)) fun n4=>rec a1 a2 a3 a4 n4)) else some (Sum.inr (((a1,(a2,())),((),())))))
def qo0 (n:Nat):Stp qx8 qqd:=fun rec p=>qfm n (fun a1 a2 a3 a4 a5=>rec ((a1,(a2,((),(a3,(a4,(a5,())))))),((),()))) p.1.1 p.1.2.1 p.1.2.2.2.1 p.1.2.2.2.2.1 p.1.2.2.2.2.2.1
def q54 (n m:Nat) (a1:List Yy) (a2:List Yy) (a3:List Yy) (a4:Int) (a5:Int):Option Z2:=q0u (qo0 n) m ((a1,(a2,((),(a3,(a4,(a5,())))))),((),()))
theorem qd2 (n m:Nat) (a1 a2 a3 a4 a5):q54 n (m+1) a1 a2 a3 a4 a5=qfm n (fun a1 a2 a3 a4 a5=>q54 n m a1 a2 a3 a4 a5) a1 a2 a3 a4 a5:=rfl
def ql1 (n:Nat) (a1:List Yy) (a2:List Yy) (a3:Unit):Option Int :=
 (q54 n n a1 a2 a1 (a1.length:Int) (0:Int)).bind fun o5=>Sum.elim (fun (q6:(Int×Unit)×Unit×Unit)=>some q6.1.1) (fun (q7:((List Yy)×((List Yy)×Unit))×Unit×Unit)=>(bif decide ((q7.1.1.length:Int)<(q7.1.2.1.length:Int)) then some (-1:Int) else some (0:Int))) o5
def j6x (n:Nat):FC:={ f:=185,args:=[.one (.c (.d (.lst .str))),.one (.c (.d (.lst .str))),.one (.c (.fn 186 []))],res:=.one (.c (.d (.int .i64))),F:=fun p=>ql1 n p.1 p.2.1 p.2.2 }
theorem j5g (n:Nat):q06 Inv Tryz.prog (j6x n):=mkF Tryz.func185 [] [q5g qo0 n] (cc (jgy n) <| cn) (by kernel_rfl) ⟨ls (by intro rec p;kernel_rfl),trivial⟩ (by intro a;kernel_rfl)
def j34 (n:Nat) (a1:Yy) (a2:Yy):Option Int :=
 (bif decide (a1=a2) then some (0:Int) else (bif decide (a1=([]:Yy)) then some (1:Int) else (bif decide (a2=([]:Yy)) then some (-1:Int) else (q8j a1 ([46]:Yy)).bind fun (r1:List Yy)=>(q8j a2 ([46]:Yy)).bind fun (r2:List Yy)=>(ql1 n r1 r2 ()).bind fun r3=>some r3)))
def jlb (n:Nat):FC:={ f:=159,args:=[.one (.c (.d .str)),.one (.c (.d .str))],res:=.one (.c (.d (.int .i64))),F:=fun p=>j34 n p.1 p.2 }
theorem jmq (n:Nat):q06 Inv Tryz.prog (jlb n):=mkF Tryz.func159 [] [] (cc (j28) <| cc (j5g n) <| cn) (by kernel_rfl) trivial (by intro a;kernel_rfl)
def qar (n:Nat) (a1:Vv) (a2:Vv):Option Int :=
 (q55 n a1).bind fun r1=>(bif !r1 then some (0:Int) else (q55 n a2).bind fun r2=>(bif !r2 then some (0:Int) else (q7t n a1.1 a2.1).bind fun r3=>(q7t n a1.2.1 a2.2.1).bind fun r4=>(q7t n a1.2.2.1 a2.2.2.1).bind fun r5=>(j34 n a1.2.2.2.1 a2.2.2.2.1).bind fun r6=>(qm2 n ([r3,r4,r5,r6]:List Int)).bind fun r7=>some r7))
def qxy (n:Nat):FC:={ f:=121,args:=[.one (.agg [.d (.int .i64),.d (.int .i64),.d (.int .i64),.d .str,.d .str]),.one (.agg [.d (.int .i64),.d (.int .i64),.d (.int .i64),.d .str,.d .str])],res:=.one (.c (.d (.int .i64))),F:=fun p=>qar n p.1 p.2 }
def qzi:q1j:=[(3,[⟨3298534883520,2^39,0⟩,⟨26938034880640,2^42,1⟩,⟨211106232534528,2^45,0⟩,⟨1724034232353792,2^48,4⟩,⟨3137*2^42,2^51,15⟩,⟨108086391056892096,2^54,0⟩,⟨882705526964617344,2^57,32⟩,⟨6917529027641083392,2^60,0⟩,⟨56493153725735502848,2^63,128⟩,⟨3137*2^57,2^66,511⟩,⟨3541774862152233910464,2^69,0⟩,⟨28924494707576576934016,2^72,1024⟩,⟨226673591177742970258944,2^75,0⟩,⟨1851167661284900923769856,2^78,4096⟩,⟨3137*2^72,2^81,16383⟩,⟨116056878683004400771793088,2^84,0⟩,⟨947797842577869272969642112,2^87,32768⟩,⟨7427640235712281649394746880,2^90,0⟩,⟨60659061924983633470057088000,2^93,2^17⟩,⟨3137*2^87,2^96,524287⟩,⟨1724035306127361*2^51,5*2^99,1048575⟩,⟨53*2^99,2^102,2097151⟩,⟨5070602400912917605986812846080,4096,4194303⟩])]
theorem qxu (n:Nat):q06 Inv Tryz.prog (qxy n):=mkF Tryz.func121 qzi [] (cc (q9o n) <| cc (qv4 n) <| cc (jmq n) <| cc (j25 n) <| cn) (by kernel_rfl) trivial (by intro a;kernel_rfl)
@[reducible] def qbs:SSt:=⟨[(0,.one (.c (.d .str))),(1,.one (.c (.d (.int .u8)))),(5,.one (.c (.row 31))),(6,.one (.c (.d (.int .i64)))),(7,.one (.c (.d (.int .i64))))],[],[(31,⟨9,true,.str⟩)]⟩
@[reducible] def q8i:List (Exit×SSt):=[(.exit 0,⟨[(5,.one (.c (.row 31)))],[],[(31,⟨9,true,.str⟩)]⟩)]
def q2o (n:Nat) (rec:(Yy)->Int->Int->Int->(List Yy)->Option Z9) (a1:Yy) (a2:Int) (a3:Int) (a4:Int) (a5:List Yy):Option Z9 :=
 (bif decide (a4<=(a1.length:Int)) then (bif decide (a4=(a1.length:Int)) then (q0w a1 a3 a4).bind fun s1=>(q1t 16 a5 ([s1]:List Yy)).bind fun l2=>q00 (IntKind.wrap .i64 (a4+1)) fun n3=>q00 (IntKind.wrap .i64 (a4+1)) fun n4=>rec a1 a2 n3 n4 l2 else (sAt a1 a4).bind fun c5=>(bif decide (c5=a2) then (q0w a1 a3 a4).bind fun s6=>(q1t 16 a5 ([s6]:List Yy)).bind fun l7=>q00 (IntKind.wrap .i64 (a4+1)) fun n8=>q00 (IntKind.wrap .i64 (a4+1)) fun n9=>rec a1 a2 n8 n9 l7 else q00 (IntKind.wrap .i64 (a4+1)) fun n10=>rec a1 a2 a3 n10 a5)) else some ((((),()),((),(a5,())))))
def q78 (n:Nat):Stp qbs q8i:=fun rec p=>q2o n (fun a1 a2 a3 a4 a5=>rec ((a1,(a2,((),(a3,(a4,()))))),((),(a5,())))) p.1.1 p.1.2.1 p.1.2.2.2.1 p.1.2.2.2.2.1 p.2.2.1
def q1c (n m:Nat) (a1:Yy) (a2:Int) (a3:Int) (a4:Int) (a5:List Yy):Option Z9:=q0u (q78 n) m ((a1,(a2,((),(a3,(a4,()))))),((),(a5,())))
theorem q1n (n m:Nat) (a1 a2 a3 a4 a5):q1c n (m+1) a1 a2 a3 a4 a5=q2o n (fun a1 a2 a3 a4 a5=>q1c n m a1 a2 a3 a4 a5) a1 a2 a3 a4 a5:=rfl
def q0d (n:Nat) (a1:Yy) (a2:Int):Option (List Yy) :=
 (q1c n n a1 a2 (0:Int) (0:Int) []).bind fun o11=>some o11.2.2.1
def qax (n:Nat):FC:={ f:=41,args:=[.one (.c (.d .str)),.one (.c (.d (.int .u8)))],res:=.one (.c (.d (.lst .str))),F:=fun p=>q0d n p.1 p.2 }
theorem q2t (n:Nat):q06 Inv Tryz.prog (qax n):=mkF Tryz.func41 [] [q5g q78 n] (cn) (by kernel_rfl) ⟨ls (by intro rec p;kernel_rfl),trivial⟩ (by intro a;kernel_rfl)
@[reducible] def qzg:SSt:=⟨[(0,.one (.c (.d .str))),(3,.one (.c (.d (.int .i64))))],[],[]⟩
@[reducible] def qp7:List (Exit×SSt):=[(.ret,⟨[(2,.one (.c (.d .bool)))],[],[]⟩),(.exit 0,⟨[(0,.one (.c (.d .str)))],[],[]⟩)]
def qej (n:Nat) (rec:(Yy)->Int->Option Z6) (a1:Yy) (a2:Int):Option Z6 :=
 (bif decide (a2<(a1.length:Int)) then (sAt a1 a2).bind fun c1=>(bif decide (c1<48) then some (Sum.inl ((false,()),((),()))) else (sAt a1 a2).bind fun c2=>(bif decide (57<c2) then some (Sum.inl ((false,()),((),()))) else q00 (IntKind.wrap .i64 (a2+1)) fun n3=>rec a1 n3)) else some (Sum.inr (((a1,()),((),())))))
def qom (n:Nat):Stp qzg qp7:=fun rec p=>qej n (fun a1 a2=>rec ((a1,(a2,())),((),()))) p.1.1 p.1.2.1
def q58 (n m:Nat) (a1:Yy) (a2:Int):Option Z6:=q0u (qom n) m ((a1,(a2,())),((),()))
theorem qde (n m:Nat) (a1 a2):q58 n (m+1) a1 a2=qej n (fun a1 a2=>q58 n m a1 a2) a1 a2:=rfl
def q5n (n:Nat) (a1:Yy):Option Bool :=
 (q58 n n a1 (0:Int)).bind fun o4=>Sum.elim (fun (q5:(Bool×Unit)×Unit×Unit)=>some q5.1.1) (fun (q6:(Yy×Unit)×Unit×Unit)=>some (!decide (q6.1.1=([]:Yy)))) o4
def j50 (n:Nat):FC:={ f:=102,args:=[.one (.c (.d .str))],res:=.one (.c (.d .bool)),F:=fun p=>q5n n p }
theorem qey (n:Nat):q06 Inv Tryz.prog (j50 n):=mkF Tryz.func102 [] [q5g qom n] (cn) (by kernel_rfl) ⟨ls (by intro rec p;kernel_rfl),trivial⟩ (by intro a;kernel_rfl)
@[reducible] def qzm:SSt:=⟨[(1,.one (.c (.d .bool))),(5,.one (.c (.d (.lst .str)))),(6,.one (.c (.d (.int .i64)))),(7,.one (.c (.d (.int .i64))))],[],[]⟩
@[reducible] def qoy:List (Exit×SSt):=[(.ret,⟨[(4,.one (.c (.d .bool)))],[],[]⟩),(.exit 2,⟨[(1,.one (.c (.d .bool))),(5,.one (.c (.d (.lst .str)))),(6,.one (.c (.d (.int .i64))))],[],[]⟩)]
def qfc (n:Nat) (rec:Bool->(List Yy)->Int->Int->Option Z3) (a1:Bool) (a2:List Yy) (a3:Int) (a4:Int):Option Z3 :=
 (q0f a2 a3).bind fun x2=>(bif decide (a4<(x2.length:Int)) then (q0f a2 a3).bind fun x3=>(sAt x3 a4).bind fun c4=>(bif decide ((97:Int)<=c4) then (bif !(decide (c4<=(122:Int))) then (bif decide ((65:Int)<=c4) then (bif !(decide (c4<=(90:Int))) then (bif decide ((48:Int)<=c4) then (bif !(decide (c4<=(57:Int))) then (bif !decide (c4=(45:Int)) then some (Sum.inl ((false,()),((),()))) else q00 (IntKind.wrap .i64 (a4+(1:Int))) fun n5=>rec a1 a2 a3 n5) else q00 (IntKind.wrap .i64 (a4+(1:Int))) fun n6=>rec a1 a2 a3 n6) else (bif !decide (c4=(45:Int)) then some (Sum.inl ((false,()),((),()))) else q00 (IntKind.wrap .i64 (a4+(1:Int))) fun n7=>rec a1 a2 a3 n7)) else q00 (IntKind.wrap .i64 (a4+(1:Int))) fun n8=>rec a1 a2 a3 n8) else (bif decide ((48:Int)<=c4) then (bif !(decide (c4<=(57:Int))) then (bif !decide (c4=(45:Int)) then some (Sum.inl ((false,()),((),()))) else q00 (IntKind.wrap .i64 (a4+(1:Int))) fun n9=>rec a1 a2 a3 n9) else q00 (IntKind.wrap .i64 (a4+(1:Int))) fun n10=>rec a1 a2 a3 n10) else (bif !decide (c4=(45:Int)) then some (Sum.inl ((false,()),((),()))) else q00 (IntKind.wrap .i64 (a4+(1:Int))) fun n11=>rec a1 a2 a3 n11))) else q00 (IntKind.wrap .i64 (a4+(1:Int))) fun n12=>rec a1 a2 a3 n12) else (bif decide ((65:Int)<=c4) then (bif !(decide (c4<=(90:Int))) then (bif decide ((48:Int)<=c4) then (bif !(decide (c4<=(57:Int))) then (bif !decide (c4=(45:Int)) then some (Sum.inl ((false,()),((),()))) else q00 (IntKind.wrap .i64 (a4+(1:Int))) fun n13=>rec a1 a2 a3 n13) else q00 (IntKind.wrap .i64 (a4+(1:Int))) fun n14=>rec a1 a2 a3 n14) else (bif !decide (c4=(45:Int)) then some (Sum.inl ((false,()),((),()))) else q00 (IntKind.wrap .i64 (a4+(1:Int))) fun n15=>rec a1 a2 a3 n15)) else q00 (IntKind.wrap .i64 (a4+(1:Int))) fun n16=>rec a1 a2 a3 n16) else (bif decide ((48:Int)<=c4) then (bif !(decide (c4<=(57:Int))) then (bif !decide (c4=(45:Int)) then some (Sum.inl ((false,()),((),()))) else q00 (IntKind.wrap .i64 (a4+(1:Int))) fun n17=>rec a1 a2 a3 n17) else q00 (IntKind.wrap .i64 (a4+(1:Int))) fun n18=>rec a1 a2 a3 n18) else (bif !decide (c4=(45:Int)) then some (Sum.inl ((false,()),((),()))) else q00 (IntKind.wrap .i64 (a4+(1:Int))) fun n19=>rec a1 a2 a3 n19)))) else some (Sum.inr (((a1,(a2,(a3,()))),((),())))))
def qo2 (n:Nat):Stp qzm qoy:=fun rec p=>qfc n (fun a1 a2 a3 a4=>rec ((a1,(a2,(a3,(a4,())))),((),()))) p.1.1 p.1.2.1 p.1.2.2.1 p.1.2.2.2.1
def q4y (n m:Nat) (a1:Bool) (a2:List Yy) (a3:Int) (a4:Int):Option Z3:=q0u (qo2 n) m ((a1,(a2,(a3,(a4,())))),((),()))
theorem qda (n m:Nat) (a1 a2 a3 a4):q4y n (m+1) a1 a2 a3 a4=qfc n (fun a1 a2 a3 a4=>q4y n m a1 a2 a3 a4) a1 a2 a3 a4:=rfl
@[reducible] def qzf:SSt:=⟨[(1,.one (.c (.d .bool))),(5,.one (.c (.d (.lst .str)))),(6,.one (.c (.d (.int .i64))))],[],[]⟩
@[reducible] def qr5:List (Exit×SSt):=[(.ret,⟨[(4,.one (.c (.d .bool)))],[],[]⟩),(.exit 0,⟨[],[],[]⟩)]
def qfo (n:Nat) (rec:Bool->(List Yy)->Int->Option Z7) (a1:Bool) (a2:List Yy) (a3:Int):Option Z7 :=
 (bif decide (a3<(a2.length:Int)) then (q4y n n a1 a2 a3 (0:Int)).bind fun o20=>Sum.elim (fun (q21:(Bool×Unit)×Unit×Unit)=>some (Sum.inl ((q21.1.1,()),((),())))) (fun (q22:(Bool×((List Yy)×(Int×Unit)))×Unit×Unit)=>(q0f q22.1.2.1 q22.1.2.2.1).bind fun x23=>(bif decide (x23=([]:Yy)) then some (Sum.inl ((false,()),((),()))) else (bif !q22.1.1 then (q0f q22.1.2.1 q22.1.2.2.1).bind fun x24=>(q5n n x24).bind fun r25=>(bif r25 then (q0f q22.1.2.1 q22.1.2.2.1).bind fun x26=>(bif decide (1<(x26.length:Int)) then (q0f q22.1.2.1 q22.1.2.2.1).bind fun x27=>(sAt x27 (0:Int)).bind fun c28=>(bif decide (c28=48) then some (Sum.inl ((false,()),((),()))) else q00 (IntKind.wrap .i64 (q22.1.2.2.1+1)) fun n29=>rec q22.1.1 q22.1.2.1 n29) else q00 (IntKind.wrap .i64 (q22.1.2.2.1+1)) fun n30=>rec q22.1.1 q22.1.2.1 n30) else q00 (IntKind.wrap .i64 (q22.1.2.2.1+1)) fun n31=>rec q22.1.1 q22.1.2.1 n31) else q00 (IntKind.wrap .i64 (q22.1.2.2.1+1)) fun n32=>rec q22.1.1 q22.1.2.1 n32))) o20 else some (Sum.inr (((),((),())))))
def qny (n:Nat):Stp qzf qr5:=fun rec p=>qfo n (fun a1 a2 a3=>rec ((a1,(a2,(a3,()))),((),()))) p.1.1 p.1.2.1 p.1.2.2.1
def q52 (n m:Nat) (a1:Bool) (a2:List Yy) (a3:Int):Option Z7:=q0u (qny n) m ((a1,(a2,(a3,()))),((),()))
theorem qcj (n m:Nat) (a1 a2 a3):q52 n (m+1) a1 a2 a3=qfo n (fun a1 a2 a3=>q52 n m a1 a2 a3) a1 a2 a3:=rfl
def q70 (n:Nat) (a1:Yy) (a2:Bool):Option Bool :=
 (q0d n a1 (46:Int)).bind fun r1=>(q52 n n a2 r1 (0:Int)).bind fun o33=>Sum.elim (fun (q34:(Bool×Unit)×Unit×Unit)=>some q34.1.1) (fun (q35:(Unit)×Unit×Unit)=>some true) o33
def j4e (n:Nat):FC:={ f:=68,args:=[.one (.c (.d .str)),.one (.c (.d .bool))],res:=.one (.c (.d .bool)),F:=fun p=>q70 n p.1 p.2 }
theorem j53 (n:Nat):q06 Inv Tryz.prog (j4e n):=mkF Tryz.func68 [] [q5g qny n,q5g qo2 n] (cc (q2t n) <| cc (qey n) <| cn) (by kernel_rfl) ⟨ls (by intro rec p;kernel_rfl),ls (by intro rec p;kernel_rfl),trivial⟩ (by intro a;kernel_rfl)
def qnr (n:Nat) (a1:Int):Option Bool :=
 (bif decide (0<=a1) then some (decide (a1<=999999999)) else some false)
def jlm (n:Nat):FC:={ f:=67,args:=[.one (.c (.d (.int .i64)))],res:=.one (.c (.d .bool)),F:=fun p=>qnr n p }
theorem jko (n:Nat):q06 Inv Tryz.prog (jlm n):=mkF Tryz.func67 [] [] (cn) (by kernel_rfl) trivial (by intro a;kernel_rfl)
def q7z (n:Nat) (a1:Vv):Option Bool :=
 (qnr n a1.1).bind fun r1=>(bif !r1 then some false else (qnr n a1.2.1).bind fun r2=>(bif !r2 then some false else (qnr n a1.2.2.1).bind fun r3=>(bif !r3 then some false else (bif decide (30<(a1.2.2.2.1.length:Int)) then some false else (bif decide (30<(a1.2.2.2.2.length:Int)) then some false else (bif decide (a1.2.2.2.1=([]:Yy)) then (bif decide (a1.2.2.2.2=([]:Yy)) then some true else (q70 n a1.2.2.2.2 true).bind fun r4=>some r4) else (q70 n a1.2.2.2.1 false).bind fun r5=>(bif r5 then (bif decide (a1.2.2.2.2=([]:Yy)) then some true else (q70 n a1.2.2.2.2 true).bind fun r6=>some r6) else some false)))))))
def j8w (n:Nat):FC:={ f:=39,args:=[.one (.agg [.d (.int .i64),.d (.int .i64),.d (.int .i64),.d .str,.d .str])],res:=.one (.c (.d .bool)),F:=fun p=>q7z n p }
theorem qk1 (n:Nat):q06 Inv Tryz.prog (j8w n):=mkF Tryz.func39 [] [] (cc (jko n) <| cc (j53 n) <| cn) (by kernel_rfl) trivial (by intro a;kernel_rfl)
def qk3 (n:Nat):List LC:=[]
def q1o:Nat->Int->Option Yy
 | 0,_=>none
 | n+1,a1 =>
 (jj4 a1 (10:Int)).bind fun n1=>q00 (IntKind.wrap .i64 ((48:Int)+n1)) fun n2=>q00 (IntKind.wrap .u8 n2) fun n3=>(bif decide ((10:Int)<=a1) then (jnf .i64 a1 (10:Int)).bind fun n4=>(q1o n n4).bind fun (r5:Yy)=>(q5u r5 (List.map (fun n:Int=>UInt8.ofNat n.toNat) ([n3]:List Int))).bind fun s6=>some s6 else some (List.map (fun n:Int=>UInt8.ofNat n.toNat) ([n3]:List Int)))
def q5h (n:Nat):FC:={ f:=40,args:=[.one (.c (.d (.int .i64)))],res:=.one (.c (.d .str)),F:=fun p=>q1o n p }
def qof (n:Nat):List FC:=[q5h n]
theorem qt0 (n:Nat) (hrec:q06 Inv Tryz.prog (q5h n)) {G:World->Prop} (hG:Know Inv G) : ∀c∈qof n,qrf Tryz.prog G c/\qbu c.args=true:=List.forall_mem_cons.2 ⟨hrec G hG,(fun _ h=>by cases h)⟩
def qo8:q1j:=[]
theorem j4k:drB qo8 (q8r Tryz.f40)=true:=by kernel_rfl
theorem j68 (n:Nat) : ∀a,(q5h (n+1)).F a=main Tryz.prog 18 (qof n) (qk3 n) qo8 (q8r Tryz.f40) [.tmp 2] (q5h (n+1)).args (q5h (n+1)).res a:=by intro a;kernel_rfl
theorem qou:(n:Nat)->q06 Inv Tryz.prog (q5h n)
 | 0=>fun G hG=>⟨⟨by kernel_rfl,fun a r h=>by cases h⟩,rfl⟩
 | n+1=>fun G hG=>⟨⟨by kernel_rfl,fun a r h=>j76 (c:=q8r Tryz.f40) Tryz.func40 (by kernel_rfl) (by kernel_rfl) (Nat.le_of_ble_eq_true (by kernel_rfl)) hG.st (by kernel_rfl) (rs:=[.tmp 2]) (by kernel_rfl) (qt0 n (qou n) hG) (lts:=qk3 n) (fun F hF hFG=>have hK:Know Inv F.G:=hFG ▸ hG;(ja3 fun j L h1 h2 h3=>absurd h2 (Nat.not_lt.2 (Nat.le_trans (by decide +kernel) h1)))) j4k ((j68 n a).symm.trans h)⟩,rfl⟩
def q6p (n:Nat) (a1:Vv):Option Yy :=
 (q7z n a1).bind fun r1=>(bif !r1 then some ([]:Yy) else (q1o n a1.1).bind fun (r2:Yy)=>(q5u ([118]:Yy) r2).bind fun s3=>(q5u s3 ([46]:Yy)).bind fun s4=>(q1o n a1.2.1).bind fun (r5:Yy)=>(q5u s4 r5).bind fun s6=>(q5u s6 ([46]:Yy)).bind fun s7=>(q1o n a1.2.2.1).bind fun (r8:Yy)=>(q5u s7 r8).bind fun s9=>(bif !decide (a1.2.2.2.1=([]:Yy)) then (q5u s9 ([45]:Yy)).bind fun s10=>(q5u s10 a1.2.2.2.1).bind fun s11=>(bif !decide (a1.2.2.2.2=([]:Yy)) then (q5u s11 ([43]:Yy)).bind fun s12=>(q5u s12 a1.2.2.2.2).bind fun s13=>some s13 else some s11) else (bif !decide (a1.2.2.2.2=([]:Yy)) then (q5u s9 ([43]:Yy)).bind fun s14=>(q5u s14 a1.2.2.2.2).bind fun s15=>some s15 else some s9)))
def jer (n:Nat):FC:={ f:=20,args:=[.one (.agg [.d (.int .i64),.d (.int .i64),.d (.int .i64),.d .str,.d .str])],res:=.one (.c (.d .str)),F:=fun p=>q6p n p }
def jg9:q1j:=[(3,[⟨12582936,2^21,0⟩,⟨102760464,2^24,1⟩,⟨49*2^24,2^27,3⟩,⟨49*2^27,2^30,7⟩,⟨49*2^30,2^33,15⟩,⟨412316860440,2^36,0⟩,⟨3367254360080,2^39,32⟩,⟨49*2^39,2^42,103⟩,⟨25089*2^33,2^45,255⟩,⟨49*2^45,2^48,511⟩,⟨13510798882111512,2^51,0⟩,⟨110338190870577168,2^54,1024⟩,⟨49*2^54,2^57,3303⟩,⟨25089*2^48,2^60,8191⟩,⟨1152921504606850048,512,16383⟩]),(1000003,[])]
theorem jfb (n:Nat):q06 Inv Tryz.prog (jer n):=mkF Tryz.func20 jg9 [] (cc (qk1 n) <| cc (qou n) <| cn) (by kernel_rfl) trivial (by intro a;kernel_rfl)
@[reducible] def jdc:SSt:=⟨[(0,.one (.c (.d .str))),(1,.one (.c (.d (.int .u8)))),(5,.one (.c (.d (.int .i64))))],[],[]⟩
@[reducible] def qyo:List (Exit×SSt):=[(.ret,⟨[(4,.one (.c (.d (.int .i64))))],[],[]⟩),(.exit 0,⟨[],[],[]⟩)]
def qr4 (n:Nat) (rec:(Yy)->Int->Int->Option Z8) (a1:Yy) (a2:Int) (a3:Int):Option Z8 :=
 (bif decide (a3<(a1.length:Int)) then (sAt a1 a3).bind fun c1=>(bif decide (c1=a2) then some (Sum.inl ((a3,()),((),()))) else q00 (IntKind.wrap .i64 (a3+1)) fun n2=>rec a1 a2 n2) else some (Sum.inr (((),((),())))))
def j13 (n:Nat):Stp jdc qyo:=fun rec p=>qr4 n (fun a1 a2 a3=>rec ((a1,(a2,(a3,()))),((),()))) p.1.1 p.1.2.1 p.1.2.2.1
def q8p (n m:Nat) (a1:Yy) (a2:Int) (a3:Int):Option Z8:=q0u (j13 n) m ((a1,(a2,(a3,()))),((),()))
theorem qgv (n m:Nat) (a1 a2 a3):q8p n (m+1) a1 a2 a3=qr4 n (fun a1 a2 a3=>q8p n m a1 a2 a3) a1 a2 a3:=rfl
def q86 (n:Nat) (a1:Yy) (a2:Int):Option Int :=
 (q8p n n a1 a2 (0:Int)).bind fun o3=>Sum.elim (fun (q4:(Int×Unit)×Unit×Unit)=>some q4.1.1) (fun (q5:(Unit)×Unit×Unit)=>some (-1:Int)) o3
def jey (n:Nat):FC:={ f:=207,args:=[.one (.c (.d .str)),.one (.c (.d (.int .u8)))],res:=.one (.c (.d (.int .i64))),F:=fun p=>q86 n p.1 p.2 }
theorem jgt (n:Nat):q06 Inv Tryz.prog (jey n):=mkF Tryz.func207 [] [q5g j13 n] (cn) (by kernel_rfl) ⟨ls (by intro rec p;kernel_rfl),trivial⟩ (by intro a;kernel_rfl)
@[reducible] def jad:SSt:=⟨[(0,.one (.c (.d .str))),(3,.one (.c (.d (.int .i64)))),(4,.one (.c (.d (.int .i64))))],[],[]⟩
@[reducible] def qy2:List (Exit×SSt):=[(.exit 0,⟨[(3,.one (.c (.d (.int .i64))))],[],[]⟩)]
def qpm (n:Nat) (rec:(Yy)->Int->Int->Option ((Int×Unit)×Unit×Unit)) (a1:Yy) (a2:Int) (a3:Int):Option ((Int×Unit)×Unit×Unit) :=
 (bif decide (a3<(a1.length:Int)) then q00 (IntKind.wrap .i64 ((10:Int)*a2)) fun n2=>(sAt a1 a3).bind fun c3=>q00 (IntKind.wrap .i64 c3) fun n4=>q00 (IntKind.wrap .i64 (n2+n4)) fun n5=>q00 (IntKind.wrap .i64 (n5 - (48:Int))) fun n6=>q00 (IntKind.wrap .i64 (a3+1)) fun n7=>rec a1 n6 n7 else some (((a2,()),((),()))))
def j2d (n:Nat):Stp jad qy2:=fun rec p=>qpm n (fun a1 a2 a3=>rec ((a1,(a2,(a3,()))),((),()))) p.1.1 p.1.2.1 p.1.2.2.1
def q8f (n m:Nat) (a1:Yy) (a2:Int) (a3:Int):Option ((Int×Unit)×Unit×Unit):=q0u (j2d n) m ((a1,(a2,(a3,()))),((),()))
theorem qgn (n m:Nat) (a1 a2 a3):q8f n (m+1) a1 a2 a3=qpm n (fun a1 a2 a3=>q8f n m a1 a2 a3) a1 a2 a3:=rfl
def q1b (n:Nat) (a1:Yy):Option Int :=
 (q5n n a1).bind fun r1=>(bif !r1 then some (-1:Int) else (bif decide (9<(a1.length:Int)) then some (-1:Int) else (q8f n n a1 (0:Int) (0:Int)).bind fun o8=>some o8.1.1))
def jh0 (n:Nat):FC:={ f:=208,args:=[.one (.c (.d .str))],res:=.one (.c (.d (.int .i64))),F:=fun p=>q1b n p }
theorem jfk (n:Nat):q06 Inv Tryz.prog (jh0 n):=mkF Tryz.func208 [] [q5g j2d n] (cc (qey n) <| cn) (by kernel_rfl) ⟨ls (by intro rec p;kernel_rfl),trivial⟩ (by intro a;kernel_rfl)
def q3y (n:Nat) (a1:Yy):Option (Vv×Bool) :=
 (bif decide (100<(a1.length:Int)) then some (((0:Int),((0:Int),((0:Int),(([]:Yy),([]:Yy))))),false) else (bif decide ((a1.length:Int)=0) then some (((0:Int),((0:Int),((0:Int),(([]:Yy),([]:Yy))))),false) else (sAt a1 (0:Int)).bind fun c1=>(bif !decide (c1=118) then some (((0:Int),((0:Int),((0:Int),(([]:Yy),([]:Yy))))),false) else (q0w a1 (1:Int) (a1.length:Int)).bind fun s2=>(q86 n s2 (43:Int)).bind fun r3=>(bif decide (0<=r3) then q00 (IntKind.wrap .i64 (r3+1)) fun n4=>(q0w s2 n4 (s2.length:Int)).bind fun s5=>(q0w s2 (0:Int) r3).bind fun s6=>(q86 n s6 (45:Int)).bind fun r7=>(bif decide (0<=r7) then q00 (IntKind.wrap .i64 (r7+1)) fun n8=>(q0w s6 n8 (s6.length:Int)).bind fun s9=>(q0w s6 (0:Int) r7).bind fun s10=>(q0d n s10 (46:Int)).bind fun r11=>(bif !decide ((r11.length:Int)=3) then some (((0:Int),((0:Int),((0:Int),(([]:Yy),([]:Yy))))),false) else (q0f r11 (0:Int)).bind fun x12=>(q1b n x12).bind fun r13=>(q0f r11 (1:Int)).bind fun x14=>(q1b n x14).bind fun r15=>(q0f r11 (2:Int)).bind fun x16=>(q1b n x16).bind fun r17=>(q6p n (r13,(r15,(r17,(s9,s5))))).bind fun r18=>(bif !decide (r18=a1) then some (((0:Int),((0:Int),((0:Int),(([]:Yy),([]:Yy))))),false) else some ((r13,(r15,(r17,(s9,s5)))),true))) else (q0d n s6 (46:Int)).bind fun r19=>(bif !decide ((r19.length:Int)=3) then some (((0:Int),((0:Int),((0:Int),(([]:Yy),([]:Yy))))),false) else (q0f r19 (0:Int)).bind fun x20=>(q1b n x20).bind fun r21=>(q0f r19 (1:Int)).bind fun x22=>(q1b n x22).bind fun r23=>(q0f r19 (2:Int)).bind fun x24=>(q1b n x24).bind fun r25=>(q6p n (r21,(r23,(r25,(([]:Yy),s5))))).bind fun r26=>(bif !decide (r26=a1) then some (((0:Int),((0:Int),((0:Int),(([]:Yy),([]:Yy))))),false) else some ((r21,(r23,(r25,(([]:Yy),s5)))),true)))) else (q86 n s2 (45:Int)).bind fun r27=>(bif decide (0<=r27) then q00 (IntKind.wrap .i64 (r27+1)) fun n28=>(q0w s2 n28 (s2.length:Int)).bind fun s29=>(q0w s2 (0:Int) r27).bind fun s30=>(q0d n s30 (46:Int)).bind fun r31=>(bif !decide ((r31.length:Int)=3) then some (((0:Int),((0:Int),((0:Int),(([]:Yy),([]:Yy))))),false) else (q0f r31 (0:Int)).bind fun x32=>(q1b n x32).bind fun r33=>(q0f r31 (1:Int)).bind fun x34=>(q1b n x34).bind fun r35=>(q0f r31 (2:Int)).bind fun x36=>(q1b n x36).bind fun r37=>(q6p n (r33,(r35,(r37,(s29,([]:Yy)))))).bind fun r38=>(bif !decide (r38=a1) then some (((0:Int),((0:Int),((0:Int),(([]:Yy),([]:Yy))))),false) else some ((r33,(r35,(r37,(s29,([]:Yy))))),true))) else (q0d n s2 (46:Int)).bind fun r39=>(bif !decide ((r39.length:Int)=3) then some (((0:Int),((0:Int),((0:Int),(([]:Yy),([]:Yy))))),false) else (q0f r39 (0:Int)).bind fun x40=>(q1b n x40).bind fun r41=>(q0f r39 (1:Int)).bind fun x42=>(q1b n x42).bind fun r43=>(q0f r39 (2:Int)).bind fun x44=>(q1b n x44).bind fun r45=>(q6p n (r41,(r43,(r45,(([]:Yy),([]:Yy)))))).bind fun r46=>(bif !decide (r46=a1) then some (((0:Int),((0:Int),((0:Int),(([]:Yy),([]:Yy))))),false) else some ((r41,(r43,(r45,(([]:Yy),([]:Yy))))),true))))))))
def j7l (n:Nat):FC:={ f:=177,args:=[.one (.c (.d .str))],res:=.tup [.agg [.d (.int .i64),.d (.int .i64),.d (.int .i64),.d .str,.d .str],.c (.d .bool)],F:=fun p=>q3y n p }
theorem qwq (n:Nat):q06 Inv Tryz.prog (j7l n):=mkF Tryz.func177 [] [] (cc (jgt n) <| cc (q2t n) <| cc (jfk n) <| cc (jfb n) <| cn) (by kernel_rfl) trivial (by intro a;kernel_rfl)
def q3j (n:Nat) (a1:Int) (a2:Int):Option Int :=
 (bif decide (a1<a2) then some (-1:Int) else (bif decide (a2<a1) then some (1:Int) else some (0:Int)))
def j93 (n:Nat):FC:={ f:=209,args:=[.one (.c (.d (.int .i64))),.one (.c (.d (.int .i64)))],res:=.one (.c (.d (.int .i64))),F:=fun p=>q3j n p.1 p.2 }
theorem qlp (n:Nat):q06 Inv Tryz.prog (j93 n):=mkF Tryz.func209 [] [] (cn) (by kernel_rfl) trivial (by intro a;kernel_rfl)
def qc6 (n:Nat) (a1:Yy) (a2:Yy):Option Int :=
 (q5n n a1).bind fun r1=>(q5n n a2).bind fun r2=>(bif r1 then (bif r2 then (bif !decide ((a1.length:Int)=(a2.length:Int)) then (q3j n (a1.length:Int) (a2.length:Int)).bind fun r3=>some r3 else (bif r1 then (bif !r2 then some (-1:Int) else (bif r2 then (bif !r1 then some (1:Int) else (bif ltS (a1) (a2) then some (-1:Int) else (bif !(ltS (a1) (a2)||decide (a1=a2)) then some (1:Int) else some (0:Int)))) else (bif ltS (a1) (a2) then some (-1:Int) else (bif !(ltS (a1) (a2)||decide (a1=a2)) then some (1:Int) else some (0:Int))))) else (bif r2 then (bif !r1 then some (1:Int) else (bif ltS (a1) (a2) then some (-1:Int) else (bif !(ltS (a1) (a2)||decide (a1=a2)) then some (1:Int) else some (0:Int)))) else (bif ltS (a1) (a2) then some (-1:Int) else (bif !(ltS (a1) (a2)||decide (a1=a2)) then some (1:Int) else some (0:Int)))))) else (bif r1 then (bif !r2 then some (-1:Int) else (bif r2 then (bif !r1 then some (1:Int) else (bif ltS (a1) (a2) then some (-1:Int) else (bif !(ltS (a1) (a2)||decide (a1=a2)) then some (1:Int) else some (0:Int)))) else (bif ltS (a1) (a2) then some (-1:Int) else (bif !(ltS (a1) (a2)||decide (a1=a2)) then some (1:Int) else some (0:Int))))) else (bif r2 then (bif !r1 then some (1:Int) else (bif ltS (a1) (a2) then some (-1:Int) else (bif !(ltS (a1) (a2)||decide (a1=a2)) then some (1:Int) else some (0:Int)))) else (bif ltS (a1) (a2) then some (-1:Int) else (bif !(ltS (a1) (a2)||decide (a1=a2)) then some (1:Int) else some (0:Int)))))) else (bif r1 then (bif !r2 then some (-1:Int) else (bif r2 then (bif !r1 then some (1:Int) else (bif ltS (a1) (a2) then some (-1:Int) else (bif !(ltS (a1) (a2)||decide (a1=a2)) then some (1:Int) else some (0:Int)))) else (bif ltS (a1) (a2) then some (-1:Int) else (bif !(ltS (a1) (a2)||decide (a1=a2)) then some (1:Int) else some (0:Int))))) else (bif r2 then (bif !r1 then some (1:Int) else (bif ltS (a1) (a2) then some (-1:Int) else (bif !(ltS (a1) (a2)||decide (a1=a2)) then some (1:Int) else some (0:Int)))) else (bif ltS (a1) (a2) then some (-1:Int) else (bif !(ltS (a1) (a2)||decide (a1=a2)) then some (1:Int) else some (0:Int))))))
def j8j (n:Nat):FC:={ f:=224,args:=[.one (.c (.d .str)),.one (.c (.d .str))],res:=.one (.c (.d (.int .i64))),F:=fun p=>qc6 n p.1 p.2 }
theorem jbk (n:Nat):q06 Inv Tryz.prog (j8j n):=mkF Tryz.func224 [] [] (cc (qey n) <| cc (qlp n) <| cn) (by kernel_rfl) trivial (by intro a;kernel_rfl)
def q94 (n:Nat) (a1:Bool):Option Int :=
 (bif a1 then some (1:Int) else some (0:Int))
def j00 (n:Nat):FC:={ f:=223,args:=[.one (.c (.d .bool))],res:=.one (.c (.d (.int .i64))),F:=fun p=>q94 n p }
theorem qxg (n:Nat):q06 Inv Tryz.prog (j00 n):=mkF Tryz.func223 [] [] (cn) (by kernel_rfl) trivial (by intro a;kernel_rfl)
@[reducible] def jho:SSt:=⟨[(5,.one (.c (.d (.lst .str)))),(6,.one (.c (.d (.lst .str)))),(7,.one (.c (.d (.int .i64))))],[],[]⟩
@[reducible] def j3v:List (Exit×SSt):=[(.ret,⟨[(4,.one (.c (.d (.int .i64))))],[],[]⟩),(.exit 0,⟨[(5,.one (.c (.d (.lst .str)))),(6,.one (.c (.d (.lst .str))))],[],[]⟩)]
def qyc (n:Nat) (rec:(List Yy)->(List Yy)->Int->Option Z2) (a1:List Yy) (a2:List Yy) (a3:Int):Option Z2 :=
 (bif decide (a3<(a1.length:Int)) then (bif decide (a3<(a2.length:Int)) then (q0f a1 a3).bind fun x9=>(q0f a2 a3).bind fun x10=>(qc6 n x9 x10).bind fun r11=>(bif !decide (r11=0) then (q0f a1 a3).bind fun x12=>(q0f a2 a3).bind fun x13=>(qc6 n x12 x13).bind fun r14=>some (Sum.inl ((r14,()),((),()))) else q00 (IntKind.wrap .i64 (a3+1)) fun n15=>rec a1 a2 n15) else some (Sum.inr (((a1,(a2,())),((),()))))) else some (Sum.inr (((a1,(a2,())),((),())))))
def jc5 (n:Nat):Stp jho j3v:=fun rec p=>qyc n (fun a1 a2 a3=>rec ((a1,(a2,(a3,()))),((),()))) p.1.1 p.1.2.1 p.1.2.2.1
def qa7 (n m:Nat) (a1:List Yy) (a2:List Yy) (a3:Int):Option Z2:=q0u (jc5 n) m ((a1,(a2,(a3,()))),((),()))
theorem qkm (n m:Nat) (a1 a2 a3):qa7 n (m+1) a1 a2 a3=qyc n (fun a1 a2 a3=>qa7 n m a1 a2 a3) a1 a2 a3:=rfl
def j0f (n:Nat) (a1:Yy) (a2:Yy):Option Int :=
 (bif decide (a1=([]:Yy)) then (q94 n (decide (a1=([]:Yy)))).bind fun r1=>(q94 n (decide (a2=([]:Yy)))).bind fun r2=>(q3j n r1 r2).bind fun r3=>some r3 else (bif decide (a2=([]:Yy)) then (q94 n (decide (a1=([]:Yy)))).bind fun r4=>(q94 n (decide (a2=([]:Yy)))).bind fun r5=>(q3j n r4 r5).bind fun r6=>some r6 else (q0d n a1 (46:Int)).bind fun r7=>(q0d n a2 (46:Int)).bind fun r8=>(qa7 n n r7 r8 (0:Int)).bind fun o16=>Sum.elim (fun (q17:(Int×Unit)×Unit×Unit)=>some q17.1.1) (fun (q18:((List Yy)×((List Yy)×Unit))×Unit×Unit)=>(q3j n (q18.1.1.length:Int) (q18.1.2.1.length:Int)).bind fun r19=>some r19) o16))
def jlp (n:Nat):FC:={ f:=210,args:=[.one (.c (.d .str)),.one (.c (.d .str))],res:=.one (.c (.d (.int .i64))),F:=fun p=>j0f n p.1 p.2 }
def jl5:q1j:=[(8,[⟨15576890575604482885591488987693056,2^111,0⟩,⟨59421121885698253195157962753*2^21,2^114,0⟩,⟨393*2^111,2^117,3⟩,⟨49*2^117,2^120,7⟩,⟨63802943797675961899382738893456801792,2^123,0⟩,⟨243388915243820045087367015432193*2^21,2^126,0⟩,⟨393*2^123,2^129,48⟩,⟨49*2^129,2^132,112⟩,⟨200705*2^120,2^135,255⟩,⟨49*2^135,2^138,511⟩]),(1000008,[]),(9,[⟨16725558898897967356151788704486271129518080,2^141,0⟩,⟨63802943797675961899382738893456539649*2^21,2^144,0⟩,⟨393*2^141,2^147,3⟩,⟨49*2^147,2^150,7⟩,⟨68507889249886074290797726533575766546372100096,2^153,0⟩,⟨261336857795280739939871698507597986398209*2^21,2^156,0⟩,⟨393*2^153,2^159,48⟩,⟨49*2^159,2^162,112⟩,⟨200705*2^150,2^165,255⟩,⟨46768052394588893382517914646921056628989841399808,4096,511⟩]),(1000009,[])]
theorem jlf (n:Nat):q06 Inv Tryz.prog (jlp n):=mkF Tryz.func210 jl5 [q5g jc5 n] (cc (qxg n) <| cc (qlp n) <| cc (q2t n) <| cc (jbk n) <| cn) (by kernel_rfl) ⟨ls (by intro rec p;kernel_rfl),trivial⟩ (by intro a;kernel_rfl)
def q59 (n:Nat) (a1:Vv) (a2:Vv):Option Int :=
 (q7z n a1).bind fun r1=>(bif !r1 then some (0:Int) else (q7z n a2).bind fun r2=>(bif !r2 then some (0:Int) else (bif !decide (a1.1=a2.1) then (q3j n a1.1 a2.1).bind fun r3=>some r3 else (bif !decide (a1.2.1=a2.2.1) then (q3j n a1.2.1 a2.2.1).bind fun r4=>some r4 else (bif !decide (a1.2.2.1=a2.2.2.1) then (q3j n a1.2.2.1 a2.2.2.1).bind fun r5=>some r5 else (j0f n a1.2.2.2.1 a2.2.2.2.1).bind fun r6=>some r6)))))
def qz6 (n:Nat):FC:={ f:=178,args:=[.one (.agg [.d (.int .i64),.d (.int .i64),.d (.int .i64),.d .str,.d .str]),.one (.agg [.d (.int .i64),.d (.int .i64),.d (.int .i64),.d .str,.d .str])],res:=.one (.c (.d (.int .i64))),F:=fun p=>q59 n p.1 p.2 }
theorem qz4 (n:Nat):q06 Inv Tryz.prog (qz6 n):=mkF Tryz.func178 [] [] (cc (qk1 n) <| cc (qlp n) <| cc (jlf n) <| cn) (by kernel_rfl) trivial (by intro a;kernel_rfl)
end Go.Proofs.YtapfankgdkdkgaaGreatDoor.AM
