
import Derived.Test.YtlkpgcifpnppeaaGreatDoorMv9
import Derived.Lib.SlTrimSet
import Derived.Shelf.Strings.SlTrimAscii
set_option linter.unusedVariables false
set_option linter.unusedSimpArgs false
set_option maxRecDepth 20000
namespace Go.Proofs.YtlkpgcifpnppeaaGreatDoor.AM
open Go.RowKit
abbrev Z2:=((Int×Unit)×Unit×Unit)⊕(((List Yy)×((List Yy)×Unit))×Unit×Unit)
abbrev Z3:=((Bool×Unit)×Unit×Unit)⊕(Unit×Unit×Unit)
abbrev Z4:=((Bool×Unit)×Unit×Unit)⊕((Bool×((List Yy)×(Int×Unit)))×Unit×Unit)
abbrev Z5:=((Bool×Unit)×Unit×Unit)⊕((Unit×Unit)×(Vv×Unit)×Unit)
abbrev Z6:=((Int×Unit)×Unit×Unit)⊕((Int×Unit)×Unit×Unit)
abbrev Z7:=((Bool×Unit)×Unit×Unit)⊕((Yy×Unit)×Unit×Unit)
abbrev Z8:=((Int×Unit)×Unit×Unit)⊕(Unit×Unit×Unit)
abbrev Z9:=(Unit×Unit)×Unit×((List Yy)×Unit)
def q5e (n:Nat) (a1:Yy) (a2:Yy):Option Bool :=
 (bif decide ((a2.length:Int)<=(a1.length:Int)) then (qoa a1 (0:Int) (a2.length:Int)).bind fun s1=>some (decide (s1=a2)) else some false)
def qtz (n:Nat):FC:={ f:=153,args:=[.one (.c (.d .str)),.one (.c (.d .str))],res:=.one (.c (.d .bool)),F:=fun p=>q5e n p.1 p.2 }
theorem qe8 (n:Nat):q09 Inv Tryz.prog (qtz n):=mkF Tryz.func153 [] [] (cn) (by kernel_rfl) trivial (by intro a;kernel_rfl)
def q9i (n:Nat) (a1:Yy) (a2:Yy):Option Yy :=
 (q5e n a1 a2).bind fun r1=>(bif r1 then (qoa a1 (a2.length:Int) (a1.length:Int)).bind fun s2=>some s2 else some a1)
def qpb (n:Nat):FC:={ f:=141,args:=[.one (.c (.d .str)),.one (.c (.d .str))],res:=.one (.c (.d .str)),F:=fun p=>q9i n p.1 p.2 }
theorem qpe (n:Nat):q09 Inv Tryz.prog (qpb n):=mkF Tryz.func141 [] [] (cc (qe8 n) <| cn) (by kernel_rfl) trivial (by intro a;kernel_rfl)
def qal (n:Nat) (a1:Yy) (a2:Yy):Option Yy :=
 (q9i n a1 a2).bind fun r1=>some r1
def qu3 (n:Nat):FC:={ f:=115,args:=[.one (.c (.d .str)),.one (.c (.d .str))],res:=.one (.c (.d .str)),F:=fun p=>qal n p.1 p.2 }
theorem quj (n:Nat):q09 Inv Tryz.prog (qu3 n):=mkF Tryz.func115 [] [] (cc (qpe n) <| cn) (by kernel_rfl) trivial (by intro a;kernel_rfl)
def qtv (n:Nat) (a1:Int):Option Bool :=
 some (!decide (a1=a1))
def jh2 (n:Nat):FC:={ f:=104,args:=[.one (.c (.d (.int .i64)))],res:=.one (.c (.d .bool)),F:=fun p=>qtv n p }
theorem jho (n:Nat):q09 Inv Tryz.prog (jh2 n):=mkF Tryz.func104 [] [] (cn) (by kernel_rfl) trivial (by intro a;kernel_rfl)
def q9h (n:Nat) (a1:Int) (a2:Int):Option Int :=
 (qtv n a1).bind fun r1=>(qtv n a2).bind fun r2=>(bif r1 then (bif r2 then some (0:Int) else some (-1:Int)) else (bif r2 then some (1:Int) else (bif decide (a1<a2) then some (-1:Int) else (bif decide (a2<a1) then some (1:Int) else some (0:Int)))))
def jb3 (n:Nat):FC:={ f:=76,args:=[.one (.c (.d (.int .i64))),.one (.c (.d (.int .i64)))],res:=.one (.c (.d (.int .i64))),F:=fun p=>q9h n p.1 p.2 }
theorem qw4 (n:Nat):q09 Inv Tryz.prog (jb3 n):=mkF Tryz.func76 [] [] (cc (jho n) <| cn) (by kernel_rfl) trivial (by intro a;kernel_rfl)
@[reducible] def jcr:SSt:=⟨[(3,.one (.c (.d (.int .i64)))),(6,.one (.c (.d (.lst (.int .i64))))),(7,.one (.c (.d (.int .i64)))),(8,.one (.c (.d (.int .i64))))],[],[]⟩
@[reducible] def j4g:List (Exit×SSt):=[(.ret,⟨[(2,.one (.c (.d (.int .i64))))],[],[]⟩),(.exit 0,⟨[(3,.one (.c (.d (.int .i64))))],[],[]⟩)]
def qsv (n:Nat) (rec:Int->(List Int)->Int->Int->Option Z6) (a1:Int) (a2:List Int) (a3:Int) (a4:Int):Option Z6 :=
 (bif decide (a4<a3) then (q0w a2 a4).bind fun x1=>(bif !decide (x1=a1) then some (Sum.inl ((x1,()),((),()))) else q08 (IntKind.wrap .i64 (a4+1)) fun n2=>rec a1 a2 a3 n2) else some (Sum.inr (((a1,()),((),())))))
def j4w (n:Nat):Stp jcr j4g:=fun rec p=>qsv n (fun a1 a2 a3 a4=>rec ((a1,(a2,(a3,(a4,())))),((),()))) p.1.1 p.1.2.1 p.1.2.2.1 p.1.2.2.2.1
def q8m (n m:Nat) (a1:Int) (a2:List Int) (a3:Int) (a4:Int):Option Z6:=q0i (j4w n) m ((a1,(a2,(a3,(a4,())))),((),()))
theorem qj0 (n m:Nat) (a1 a2 a3 a4):q8m n (m+1) a1 a2 a3 a4=qsv n (fun a1 a2 a3 a4=>q8m n m a1 a2 a3 a4) a1 a2 a3 a4:=rfl
def qnb (n:Nat) (a1:List Int):Option Int :=
 (q8m n n (0:Int) a1 (a1.length:Int) (0:Int)).bind fun o3=>Sum.elim (fun (q4:(Int×Unit)×Unit×Unit)=>some q4.1.1) (fun (q5:(Int×Unit)×Unit×Unit)=>some q5.1.1) o3
def jh5 (n:Nat):FC:={ f:=74,args:=[.one (.c (.d (.lst (.int .i64))))],res:=.one (.c (.d (.int .i64))),F:=fun p=>qnb n p }
theorem j6t (n:Nat):q09 Inv Tryz.prog (jh5 n):=mkF Tryz.func74 [] [q3x j4w n] (cn) (by kernel_rfl) ⟨ls (by intro rec p;kernel_rfl),trivial⟩ (by intro a;kernel_rfl)
@[reducible] def jak:SSt:=⟨[(1,.one (.c (.box 1 0))),(11,.one (.agg [.d (.int .i64),.d (.int .i64),.d (.int .i64)])),(12,.one (.c (.d (.int .i64))))],[(1,(25,[.d (.int .i64),.d (.int .i64),.d (.int .i64),.d .str,.d .str]))],[]⟩
@[reducible] def qxi:List (Exit×SSt):=[(.ret,⟨[(2,.one (.c (.d .bool)))],[],[]⟩),(.exit 0,⟨[(1,.one (.c (.box 1 0)))],[(1,(25,[.d (.int .i64),.d (.int .i64),.d (.int .i64),.d .str,.d .str]))],[]⟩)]
def qeb (n:Nat) (rec:Int->Int->Int->Int->Int->Int->Int->Yy->Yy->Option Z5) (a1:Int) (a2:Int) (a3:Int) (a4:Int) (a5:Int) (a6:Int) (a7:Int) (a8:Yy) (a9:Yy):Option Z5 :=
 (bif decide (a4<3) then (q0w ([a1,a2,a3]:List Int) a4).bind fun x1=>(bif decide (x1<0) then some (Sum.inl ((false,()),((),()))) else (bif decide (999999999<x1) then some (Sum.inl ((false,()),((),()))) else q08 (IntKind.wrap .i64 (a4+1)) fun n2=>rec a1 a2 a3 n2 a5 a6 a7 a8 a9)) else some (Sum.inr ((((),()),(((a5,(a6,(a7,(a8,a9)))),()),())))))
def qv6 (n:Nat):Stp jak qxi:=fun rec p=>qeb n (fun a1 a2 a3 a4 a5 a6 a7 a8 a9=>rec (((),((a1,(a2,a3)),(a4,()))),(((a5,(a6,(a7,(a8,a9)))),()),()))) p.1.2.1.1 p.1.2.1.2.1 p.1.2.1.2.2 p.1.2.2.1 p.2.1.1.1 p.2.1.1.2.1 p.2.1.1.2.2.1 p.2.1.1.2.2.2.1 p.2.1.1.2.2.2.2
def q58 (n m:Nat) (a1:Int) (a2:Int) (a3:Int) (a4:Int) (a5:Int) (a6:Int) (a7:Int) (a8:Yy) (a9:Yy):Option Z5:=q0i (qv6 n) m (((),((a1,(a2,a3)),(a4,()))),(((a5,(a6,(a7,(a8,a9)))),()),()))
theorem q8f (n m:Nat) (a1 a2 a3 a4 a5 a6 a7 a8 a9):q58 n (m+1) a1 a2 a3 a4 a5 a6 a7 a8 a9=qeb n (fun a1 a2 a3 a4 a5 a6 a7 a8 a9=>q58 n m a1 a2 a3 a4 a5 a6 a7 a8 a9) a1 a2 a3 a4 a5 a6 a7 a8 a9:=rfl
def qbd (n:Nat) (a1:Vv):Option Bool :=
 (q58 n n a1.1 a1.2.1 a1.2.2.1 (0:Int) a1.1 a1.2.1 a1.2.2.1 a1.2.2.2.1 a1.2.2.2.2).bind fun o3=>Sum.elim (fun (q4:(Bool×Unit)×Unit×Unit)=>some q4.1.1) (fun (q5:(Unit×Unit)×(Vv×Unit)×Unit)=>(qo1 q5.2.1.1.2.2.2.1 ()).bind fun (r6:Bool)=>(bif r6 then (qgg q5.2.1.1.2.2.2.2 ()).bind fun (r7:Bool)=>some r7 else some false)) o3
def jbr (n:Nat):FC:={ f:=71,args:=[.one (.agg [.d (.int .i64),.d (.int .i64),.d (.int .i64),.d .str,.d .str])],res:=.one (.c (.d .bool)),F:=fun p=>qbd n p }
theorem qvx (n:Nat):q09 Inv Tryz.prog (jbr n):=mkF Tryz.func71 [] [q3x qv6 n] (cc (j8u) <| cc (j0n) <| cn) (by kernel_rfl) ⟨ls (by intro rec p;kernel_rfl),trivial⟩ (by intro a;kernel_rfl)
def qtr (n:Nat) (a1:Yy) (a2:Yy):Option Int :=
 (q65 n a1).bind fun r1=>(q65 n a2).bind fun r2=>(bif r1 then (bif r2 then (q9h n (a1.length:Int) (a2.length:Int)).bind fun r3=>(q6q a1 a2).bind fun (r4:Int)=>(qnb n ([r3,r4]:List Int)).bind fun r5=>some r5 else (bif r1 then some (-1:Int) else (bif r2 then some (1:Int) else (q6q a1 a2).bind fun (r6:Int)=>some r6))) else (bif r1 then some (-1:Int) else (bif r2 then some (1:Int) else (q6q a1 a2).bind fun (r7:Int)=>some r7)))
def jj6 (n:Nat):FC:={ f:=107,args:=[.one (.c (.d .str)),.one (.c (.d .str))],res:=.one (.c (.d (.int .i64))),F:=fun p=>qtr n p.1 p.2 }
theorem jhx (n:Nat):q09 Inv Tryz.prog (jj6 n):=mkF Tryz.func107 [] [] (cc (ql8 n) <| cc (qw4 n) <| cc (qqm) <| cc (j6t n) <| cn) (by kernel_rfl) trivial (by intro a;kernel_rfl)
@[reducible] def j0v:SSt:=⟨[(0,.one (.c (.d (.lst .str)))),(1,.one (.c (.d (.lst .str)))),(2,.one (.c (.fn 107 []))),(11,.one (.c (.d (.lst .str)))),(12,.one (.c (.d (.int .i64)))),(13,.one (.c (.d (.int .i64))))],[],[]⟩
@[reducible] def qu0:List (Exit×SSt):=[(.ret,⟨[(6,.one (.c (.d (.int .i64))))],[],[]⟩),(.exit 0,⟨[(0,.one (.c (.d (.lst .str)))),(1,.one (.c (.d (.lst .str))))],[],[]⟩)]
def qhk (n:Nat) (rec:(List Yy)->(List Yy)->(List Yy)->Int->Int->Option Z2) (a1:List Yy) (a2:List Yy) (a3:List Yy) (a4:Int) (a5:Int):Option Z2 :=
 (bif decide (a5<a4) then (q0w a3 a5).bind fun x1=>(bif decide ((a2.length:Int)<=a5) then some (Sum.inl (((1:Int),()),((),()))) else (q0w a2 a5).bind fun x2=>(qtr n x1 x2).bind fun r3=>(bif !decide (r3=0) then some (Sum.inl ((r3,()),((),()))) else q08 (IntKind.wrap .i64 (a5+1)) fun n4=>rec a1 a2 a3 a4 n4)) else some (Sum.inr (((a1,(a2,())),((),())))))
def qrd (n:Nat):Stp j0v qu0:=fun rec p=>qhk n (fun a1 a2 a3 a4 a5=>rec ((a1,(a2,((),(a3,(a4,(a5,())))))),((),()))) p.1.1 p.1.2.1 p.1.2.2.2.1 p.1.2.2.2.2.1 p.1.2.2.2.2.2.1
def q5m (n m:Nat) (a1:List Yy) (a2:List Yy) (a3:List Yy) (a4:Int) (a5:Int):Option Z2:=q0i (qrd n) m ((a1,(a2,((),(a3,(a4,(a5,())))))),((),()))
theorem qfl (n m:Nat) (a1 a2 a3 a4 a5):q5m n (m+1) a1 a2 a3 a4 a5=qhk n (fun a1 a2 a3 a4 a5=>q5m n m a1 a2 a3 a4 a5) a1 a2 a3 a4 a5:=rfl
def qky (n:Nat) (a1:List Yy) (a2:List Yy) (a3:Unit):Option Int :=
 (q5m n n a1 a2 a1 (a1.length:Int) (0:Int)).bind fun o5=>Sum.elim (fun (q6:(Int×Unit)×Unit×Unit)=>some q6.1.1) (fun (q7:((List Yy)×((List Yy)×Unit))×Unit×Unit)=>(bif decide ((q7.1.1.length:Int)<(q7.1.2.1.length:Int)) then some (-1:Int) else some (0:Int))) o5
def j9g (n:Nat):FC:={ f:=105,args:=[.one (.c (.d (.lst .str))),.one (.c (.d (.lst .str))),.one (.c (.fn 107 []))],res:=.one (.c (.d (.int .i64))),F:=fun p=>qky n p.1 p.2.1 p.2.2 }
theorem j84 (n:Nat):q09 Inv Tryz.prog (j9g n):=mkF Tryz.func105 [] [q3x qrd n] (cc (jhx n) <| cn) (by kernel_rfl) ⟨ls (by intro rec p;kernel_rfl),trivial⟩ (by intro a;kernel_rfl)
def j7h (n:Nat) (a1:Yy) (a2:Yy):Option Int :=
 (bif decide (a1=a2) then some (0:Int) else (bif decide (a1=([]:Yy)) then some (1:Int) else (bif decide (a2=([]:Yy)) then some (-1:Int) else (qcy a1 ([46]:Yy)).bind fun (r1:List Yy)=>(qcy a2 ([46]:Yy)).bind fun (r2:List Yy)=>(qky n r1 r2 ()).bind fun r3=>some r3)))
def jnl (n:Nat):FC:={ f:=77,args:=[.one (.c (.d .str)),.one (.c (.d .str))],res:=.one (.c (.d (.int .i64))),F:=fun p=>j7h n p.1 p.2 }
theorem jo6 (n:Nat):q09 Inv Tryz.prog (jnl n):=mkF Tryz.func77 [] [] (cc (jip) <| cc (j84 n) <| cn) (by kernel_rfl) trivial (by intro a;kernel_rfl)
def q7y (n:Nat) (a1:Vv) (a2:Vv):Option Int :=
 (qbd n a1).bind fun r1=>(bif !r1 then some (0:Int) else (qbd n a2).bind fun r2=>(bif !r2 then some (0:Int) else (q9h n a1.1 a2.1).bind fun r3=>(q9h n a1.2.1 a2.2.1).bind fun r4=>(q9h n a1.2.2.1 a2.2.2.1).bind fun r5=>(j7h n a1.2.2.2.1 a2.2.2.2.1).bind fun r6=>(qnb n ([r3,r4,r5,r6]:List Int)).bind fun r7=>some r7))
def j1k (n:Nat):FC:={ f:=57,args:=[.one (.agg [.d (.int .i64),.d (.int .i64),.d (.int .i64),.d .str,.d .str]),.one (.agg [.d (.int .i64),.d (.int .i64),.d (.int .i64),.d .str,.d .str])],res:=.one (.c (.d (.int .i64))),F:=fun p=>q7y n p.1 p.2 }
def j3s:q1m:=[(3,[⟨3298534883520,2^39,0⟩,⟨26938034880640,2^42,1⟩,⟨211106232534528,2^45,0⟩,⟨1724034232353792,2^48,4⟩,⟨3137*2^42,2^51,15⟩,⟨108086391056892096,2^54,0⟩,⟨882705526964617344,2^57,32⟩,⟨6917529027641083392,2^60,0⟩,⟨56493153725735502848,2^63,128⟩,⟨3137*2^57,2^66,511⟩,⟨3541774862152233910464,2^69,0⟩,⟨28924494707576576934016,2^72,1024⟩,⟨226673591177742970258944,2^75,0⟩,⟨1851167661284900923769856,2^78,4096⟩,⟨3137*2^72,2^81,16383⟩,⟨116056878683004400771793088,2^84,0⟩,⟨947797842577869272969642112,2^87,32768⟩,⟨7427640235712281649394746880,2^90,0⟩,⟨60659061924983633470057088000,2^93,2^17⟩,⟨3137*2^87,2^96,524287⟩,⟨1724035306127361*2^51,5*2^99,1048575⟩,⟨53*2^99,2^102,2097151⟩,⟨5070602400912917605986812846080,4096,4194303⟩])]
theorem qlv (n:Nat):q09 Inv Tryz.prog (j1k n):=mkF Tryz.func57 j3s [] (cc (qvx n) <| cc (qw4 n) <| cc (jo6 n) <| cc (j6t n) <| cn) (by kernel_rfl) trivial (by intro a;kernel_rfl)
@[reducible] def j1g:SSt:=⟨[(0,.one (.c (.d .str))),(1,.one (.c (.d (.int .u8)))),(5,.one (.c (.row 31))),(6,.one (.c (.d (.int .i64)))),(7,.one (.c (.d (.int .i64))))],[],[(31,⟨9,true,.str⟩)]⟩
@[reducible] def qrp:List (Exit×SSt):=[(.exit 0,⟨[(5,.one (.c (.row 31)))],[],[(31,⟨9,true,.str⟩)]⟩)]
def qb3 (n:Nat) (rec:(Yy)->Int->Int->Int->(List Yy)->Option Z9) (a1:Yy) (a2:Int) (a3:Int) (a4:Int) (a5:List Yy):Option Z9 :=
 (bif decide (a4<=(a1.length:Int)) then (bif decide (a4=(a1.length:Int)) then (qoa a1 a3 a4).bind fun s1=>(q7r 16 a5 ([s1]:List Yy)).bind fun l2=>q08 (IntKind.wrap .i64 (a4+1)) fun n3=>q08 (IntKind.wrap .i64 (a4+1)) fun n4=>rec a1 a2 n3 n4 l2 else (sAt a1 a4).bind fun c5=>(bif decide (c5=a2) then (qoa a1 a3 a4).bind fun s6=>(q7r 16 a5 ([s6]:List Yy)).bind fun l7=>q08 (IntKind.wrap .i64 (a4+1)) fun n8=>q08 (IntKind.wrap .i64 (a4+1)) fun n9=>rec a1 a2 n8 n9 l7 else q08 (IntKind.wrap .i64 (a4+1)) fun n10=>rec a1 a2 a3 n10 a5)) else some ((((),()),((),(a5,())))))
def qrh (n:Nat):Stp j1g qrp:=fun rec p=>qb3 n (fun a1 a2 a3 a4 a5=>rec ((a1,(a2,((),(a3,(a4,()))))),((),(a5,())))) p.1.1 p.1.2.1 p.1.2.2.2.1 p.1.2.2.2.2.1 p.2.2.1
def q5n (n m:Nat) (a1:Yy) (a2:Int) (a3:Int) (a4:Int) (a5:List Yy):Option Z9:=q0i (qrh n) m ((a1,(a2,((),(a3,(a4,()))))),((),(a5,())))
theorem q6z (n m:Nat) (a1 a2 a3 a4 a5):q5n n (m+1) a1 a2 a3 a4 a5=qb3 n (fun a1 a2 a3 a4 a5=>q5n n m a1 a2 a3 a4 a5) a1 a2 a3 a4 a5:=rfl
def q2b (n:Nat) (a1:Yy) (a2:Int):Option (List Yy) :=
 (q5n n n a1 a2 (0:Int) (0:Int) []).bind fun o11=>some o11.2.2.1
def j9c (n:Nat):FC:={ f:=68,args:=[.one (.c (.d .str)),.one (.c (.d (.int .u8)))],res:=.one (.c (.d (.lst .str))),F:=fun p=>q2b n p.1 p.2 }
theorem q7w (n:Nat):q09 Inv Tryz.prog (j9c n):=mkF Tryz.func68 [] [q3x qrh n] (cn) (by kernel_rfl) ⟨ls (by intro rec p;kernel_rfl),trivial⟩ (by intro a;kernel_rfl)
@[reducible] def j0c:SSt:=⟨[(0,.one (.c (.d .str))),(3,.one (.c (.d (.int .i64))))],[],[]⟩
@[reducible] def qsf:List (Exit×SSt):=[(.ret,⟨[(2,.one (.c (.d .bool)))],[],[]⟩),(.exit 0,⟨[(0,.one (.c (.d .str)))],[],[]⟩)]
def qgr (n:Nat) (rec:(Yy)->Int->Option Z7) (a1:Yy) (a2:Int):Option Z7 :=
 (bif decide (a2<(a1.length:Int)) then (sAt a1 a2).bind fun c1=>(bif decide (c1<48) then some (Sum.inl ((false,()),((),()))) else (sAt a1 a2).bind fun c2=>(bif decide (57<c2) then some (Sum.inl ((false,()),((),()))) else q08 (IntKind.wrap .i64 (a2+1)) fun n3=>rec a1 n3)) else some (Sum.inr (((a1,()),((),())))))
def qrj (n:Nat):Stp j0c qsf:=fun rec p=>qgr n (fun a1 a2=>rec ((a1,(a2,())),((),()))) p.1.1 p.1.2.1
def q5w (n m:Nat) (a1:Yy) (a2:Int):Option Z7:=q0i (qrj n) m ((a1,(a2,())),((),()))
theorem qe9 (n m:Nat) (a1 a2):q5w n (m+1) a1 a2=qgr n (fun a1 a2=>q5w n m a1 a2) a1 a2:=rfl
def q89 (n:Nat) (a1:Yy):Option Bool :=
 (q5w n n a1 (0:Int)).bind fun o4=>Sum.elim (fun (q5:(Bool×Unit)×Unit×Unit)=>some q5.1.1) (fun (q6:(Yy×Unit)×Unit×Unit)=>some (!decide (q6.1.1=([]:Yy)))) o4
def jai (n:Nat):FC:={ f:=83,args:=[.one (.c (.d .str))],res:=.one (.c (.d .bool)),F:=fun p=>q89 n p }
theorem qr9 (n:Nat):q09 Inv Tryz.prog (jai n):=mkF Tryz.func83 [] [q3x qrj n] (cn) (by kernel_rfl) ⟨ls (by intro rec p;kernel_rfl),trivial⟩ (by intro a;kernel_rfl)
@[reducible] def j19:SSt:=⟨[(1,.one (.c (.d .bool))),(5,.one (.c (.d (.lst .str)))),(6,.one (.c (.d (.int .i64)))),(7,.one (.c (.d (.int .i64))))],[],[]⟩
@[reducible] def qsl:List (Exit×SSt):=[(.ret,⟨[(4,.one (.c (.d .bool)))],[],[]⟩),(.exit 2,⟨[(1,.one (.c (.d .bool))),(5,.one (.c (.d (.lst .str)))),(6,.one (.c (.d (.int .i64))))],[],[]⟩)]
def qh3 (n:Nat) (rec:Bool->(List Yy)->Int->Int->Option Z4) (a1:Bool) (a2:List Yy) (a3:Int) (a4:Int):Option Z4 :=
 (q0w a2 a3).bind fun x2=>(bif decide (a4<(x2.length:Int)) then (q0w a2 a3).bind fun x3=>(sAt x3 a4).bind fun c4=>(bif decide ((97:Int)<=c4) then (bif !(decide (c4<=(122:Int))) then (bif decide ((65:Int)<=c4) then (bif !(decide (c4<=(90:Int))) then (bif decide ((48:Int)<=c4) then (bif !(decide (c4<=(57:Int))) then (bif !decide (c4=(45:Int)) then some (Sum.inl ((false,()),((),()))) else q08 (IntKind.wrap .i64 (a4+(1:Int))) fun n5=>rec a1 a2 a3 n5) else q08 (IntKind.wrap .i64 (a4+(1:Int))) fun n6=>rec a1 a2 a3 n6) else (bif !decide (c4=(45:Int)) then some (Sum.inl ((false,()),((),()))) else q08 (IntKind.wrap .i64 (a4+(1:Int))) fun n7=>rec a1 a2 a3 n7)) else q08 (IntKind.wrap .i64 (a4+(1:Int))) fun n8=>rec a1 a2 a3 n8) else (bif decide ((48:Int)<=c4) then (bif !(decide (c4<=(57:Int))) then (bif !decide (c4=(45:Int)) then some (Sum.inl ((false,()),((),()))) else q08 (IntKind.wrap .i64 (a4+(1:Int))) fun n9=>rec a1 a2 a3 n9) else q08 (IntKind.wrap .i64 (a4+(1:Int))) fun n10=>rec a1 a2 a3 n10) else (bif !decide (c4=(45:Int)) then some (Sum.inl ((false,()),((),()))) else q08 (IntKind.wrap .i64 (a4+(1:Int))) fun n11=>rec a1 a2 a3 n11))) else q08 (IntKind.wrap .i64 (a4+(1:Int))) fun n12=>rec a1 a2 a3 n12) else (bif decide ((65:Int)<=c4) then (bif !(decide (c4<=(90:Int))) then (bif decide ((48:Int)<=c4) then (bif !(decide (c4<=(57:Int))) then (bif !decide (c4=(45:Int)) then some (Sum.inl ((false,()),((),()))) else q08 (IntKind.wrap .i64 (a4+(1:Int))) fun n13=>rec a1 a2 a3 n13) else q08 (IntKind.wrap .i64 (a4+(1:Int))) fun n14=>rec a1 a2 a3 n14) else (bif !decide (c4=(45:Int)) then some (Sum.inl ((false,()),((),()))) else q08 (IntKind.wrap .i64 (a4+(1:Int))) fun n15=>rec a1 a2 a3 n15)) else q08 (IntKind.wrap .i64 (a4+(1:Int))) fun n16=>rec a1 a2 a3 n16) else (bif decide ((48:Int)<=c4) then (bif !(decide (c4<=(57:Int))) then (bif !decide (c4=(45:Int)) then some (Sum.inl ((false,()),((),()))) else q08 (IntKind.wrap .i64 (a4+(1:Int))) fun n17=>rec a1 a2 a3 n17) else q08 (IntKind.wrap .i64 (a4+(1:Int))) fun n18=>rec a1 a2 a3 n18) else (bif !decide (c4=(45:Int)) then some (Sum.inl ((false,()),((),()))) else q08 (IntKind.wrap .i64 (a4+(1:Int))) fun n19=>rec a1 a2 a3 n19)))) else some (Sum.inr (((a1,(a2,(a3,()))),((),())))))
def qqq (n:Nat):Stp j19 qsl:=fun rec p=>qh3 n (fun a1 a2 a3 a4=>rec ((a1,(a2,(a3,(a4,())))),((),()))) p.1.1 p.1.2.1 p.1.2.2.1 p.1.2.2.2.1
def q5y (n m:Nat) (a1:Bool) (a2:List Yy) (a3:Int) (a4:Int):Option Z4:=q0i (qqq n) m ((a1,(a2,(a3,(a4,())))),((),()))
theorem qee (n m:Nat) (a1 a2 a3 a4):q5y n (m+1) a1 a2 a3 a4=qh3 n (fun a1 a2 a3 a4=>q5y n m a1 a2 a3 a4) a1 a2 a3 a4:=rfl
@[reducible] def j0b:SSt:=⟨[(1,.one (.c (.d .bool))),(5,.one (.c (.d (.lst .str)))),(6,.one (.c (.d (.int .i64))))],[],[]⟩
@[reducible] def qse:List (Exit×SSt):=[(.ret,⟨[(4,.one (.c (.d .bool)))],[],[]⟩),(.exit 0,⟨[],[],[]⟩)]
def qgu (n:Nat) (rec:Bool->(List Yy)->Int->Option Z3) (a1:Bool) (a2:List Yy) (a3:Int):Option Z3 :=
 (bif decide (a3<(a2.length:Int)) then (q5y n n a1 a2 a3 (0:Int)).bind fun o20=>Sum.elim (fun (q21:(Bool×Unit)×Unit×Unit)=>some (Sum.inl ((q21.1.1,()),((),())))) (fun (q22:(Bool×((List Yy)×(Int×Unit)))×Unit×Unit)=>(q0w q22.1.2.1 q22.1.2.2.1).bind fun x23=>(bif decide (x23=([]:Yy)) then some (Sum.inl ((false,()),((),()))) else (bif !q22.1.1 then (q0w q22.1.2.1 q22.1.2.2.1).bind fun x24=>(q89 n x24).bind fun r25=>(bif r25 then (q0w q22.1.2.1 q22.1.2.2.1).bind fun x26=>(bif decide (1<(x26.length:Int)) then (q0w q22.1.2.1 q22.1.2.2.1).bind fun x27=>(sAt x27 (0:Int)).bind fun c28=>(bif decide (c28=48) then some (Sum.inl ((false,()),((),()))) else q08 (IntKind.wrap .i64 (q22.1.2.2.1+1)) fun n29=>rec q22.1.1 q22.1.2.1 n29) else q08 (IntKind.wrap .i64 (q22.1.2.2.1+1)) fun n30=>rec q22.1.1 q22.1.2.1 n30) else q08 (IntKind.wrap .i64 (q22.1.2.2.1+1)) fun n31=>rec q22.1.1 q22.1.2.1 n31) else q08 (IntKind.wrap .i64 (q22.1.2.2.1+1)) fun n32=>rec q22.1.1 q22.1.2.1 n32))) o20 else some (Sum.inr (((),((),())))))
def qqx (n:Nat):Stp j0b qse:=fun rec p=>qgu n (fun a1 a2 a3=>rec ((a1,(a2,(a3,()))),((),()))) p.1.1 p.1.2.1 p.1.2.2.1
def q5p (n m:Nat) (a1:Bool) (a2:List Yy) (a3:Int):Option Z3:=q0i (qqx n) m ((a1,(a2,(a3,()))),((),()))
theorem qeh (n m:Nat) (a1 a2 a3):q5p n (m+1) a1 a2 a3=qgu n (fun a1 a2 a3=>q5p n m a1 a2 a3) a1 a2 a3:=rfl
def q85 (n:Nat) (a1:Yy) (a2:Bool):Option Bool :=
 (q2b n a1 (46:Int)).bind fun r1=>(q5p n n a2 r1 (0:Int)).bind fun o33=>Sum.elim (fun (q34:(Bool×Unit)×Unit×Unit)=>some q34.1.1) (fun (q35:(Unit)×Unit×Unit)=>some true) o33
def j8b (n:Nat):FC:={ f:=66,args:=[.one (.c (.d .str)),.one (.c (.d .bool))],res:=.one (.c (.d .bool)),F:=fun p=>q85 n p.1 p.2 }
theorem ja0 (n:Nat):q09 Inv Tryz.prog (j8b n):=mkF Tryz.func66 [] [q3x qqx n,q3x qqq n] (cc (q7w n) <| cc (qr9 n) <| cn) (by kernel_rfl) ⟨ls (by intro rec p;kernel_rfl),ls (by intro rec p;kernel_rfl),trivial⟩ (by intro a;kernel_rfl)
def qq1 (n:Nat) (a1:Int):Option Bool :=
 (bif decide (0<=a1) then some (decide (a1<=999999999)) else some false)
def jnk (n:Nat):FC:={ f:=65,args:=[.one (.c (.d (.int .i64)))],res:=.one (.c (.d .bool)),F:=fun p=>qq1 n p }
theorem jot (n:Nat):q09 Inv Tryz.prog (jnk n):=mkF Tryz.func65 [] [] (cn) (by kernel_rfl) trivial (by intro a;kernel_rfl)
def qbn (n:Nat) (a1:Vv):Option Bool :=
 (qq1 n a1.1).bind fun r1=>(bif !r1 then some false else (qq1 n a1.2.1).bind fun r2=>(bif !r2 then some false else (qq1 n a1.2.2.1).bind fun r3=>(bif !r3 then some false else (bif decide (30<(a1.2.2.2.1.length:Int)) then some false else (bif decide (30<(a1.2.2.2.2.length:Int)) then some false else (bif decide (a1.2.2.2.1=([]:Yy)) then (bif decide (a1.2.2.2.2=([]:Yy)) then some true else (q85 n a1.2.2.2.2 true).bind fun r4=>some r4) else (q85 n a1.2.2.2.1 false).bind fun r5=>(bif r5 then (bif decide (a1.2.2.2.2=([]:Yy)) then some true else (q85 n a1.2.2.2.2 true).bind fun r6=>some r6) else some false)))))))
def jel (n:Nat):FC:={ f:=51,args:=[.one (.agg [.d (.int .i64),.d (.int .i64),.d (.int .i64),.d .str,.d .str])],res:=.one (.c (.d .bool)),F:=fun p=>qbn n p }
theorem qzd (n:Nat):q09 Inv Tryz.prog (jel n):=mkF Tryz.func51 [] [] (cc (jot n) <| cc (ja0 n) <| cn) (by kernel_rfl) trivial (by intro a;kernel_rfl)
def q41 (n:Nat) (a1:Int) (a2:Int):Option Int :=
 (bif decide (a1<a2) then some (-1:Int) else (bif decide (a2<a1) then some (1:Int) else some (0:Int)))
def jex (n:Nat):FC:={ f:=52,args:=[.one (.c (.d (.int .i64))),.one (.c (.d (.int .i64)))],res:=.one (.c (.d (.int .i64))),F:=fun p=>q41 n p.1 p.2 }
theorem qn6 (n:Nat):q09 Inv Tryz.prog (jex n):=mkF Tryz.func52 [] [] (cn) (by kernel_rfl) trivial (by intro a;kernel_rfl)
def qex (n:Nat) (a1:Yy) (a2:Yy):Option Int :=
 (q89 n a1).bind fun r1=>(q89 n a2).bind fun r2=>(bif r1 then (bif r2 then (bif !decide ((a1.length:Int)=(a2.length:Int)) then (q41 n (a1.length:Int) (a2.length:Int)).bind fun r3=>some r3 else (bif r1 then (bif !r2 then some (-1:Int) else (bif r2 then (bif !r1 then some (1:Int) else (bif ltS (a1) (a2) then some (-1:Int) else (bif !(ltS (a1) (a2)||decide (a1=a2)) then some (1:Int) else some (0:Int)))) else (bif ltS (a1) (a2) then some (-1:Int) else (bif !(ltS (a1) (a2)||decide (a1=a2)) then some (1:Int) else some (0:Int))))) else (bif r2 then (bif !r1 then some (1:Int) else (bif ltS (a1) (a2) then some (-1:Int) else (bif !(ltS (a1) (a2)||decide (a1=a2)) then some (1:Int) else some (0:Int)))) else (bif ltS (a1) (a2) then some (-1:Int) else (bif !(ltS (a1) (a2)||decide (a1=a2)) then some (1:Int) else some (0:Int)))))) else (bif r1 then (bif !r2 then some (-1:Int) else (bif r2 then (bif !r1 then some (1:Int) else (bif ltS (a1) (a2) then some (-1:Int) else (bif !(ltS (a1) (a2)||decide (a1=a2)) then some (1:Int) else some (0:Int)))) else (bif ltS (a1) (a2) then some (-1:Int) else (bif !(ltS (a1) (a2)||decide (a1=a2)) then some (1:Int) else some (0:Int))))) else (bif r2 then (bif !r1 then some (1:Int) else (bif ltS (a1) (a2) then some (-1:Int) else (bif !(ltS (a1) (a2)||decide (a1=a2)) then some (1:Int) else some (0:Int)))) else (bif ltS (a1) (a2) then some (-1:Int) else (bif !(ltS (a1) (a2)||decide (a1=a2)) then some (1:Int) else some (0:Int)))))) else (bif r1 then (bif !r2 then some (-1:Int) else (bif r2 then (bif !r1 then some (1:Int) else (bif ltS (a1) (a2) then some (-1:Int) else (bif !(ltS (a1) (a2)||decide (a1=a2)) then some (1:Int) else some (0:Int)))) else (bif ltS (a1) (a2) then some (-1:Int) else (bif !(ltS (a1) (a2)||decide (a1=a2)) then some (1:Int) else some (0:Int))))) else (bif r2 then (bif !r1 then some (1:Int) else (bif ltS (a1) (a2) then some (-1:Int) else (bif !(ltS (a1) (a2)||decide (a1=a2)) then some (1:Int) else some (0:Int)))) else (bif ltS (a1) (a2) then some (-1:Int) else (bif !(ltS (a1) (a2)||decide (a1=a2)) then some (1:Int) else some (0:Int))))))
def jdh (n:Nat):FC:={ f:=69,args:=[.one (.c (.d .str)),.one (.c (.d .str))],res:=.one (.c (.d (.int .i64))),F:=fun p=>qex n p.1 p.2 }
theorem jd7 (n:Nat):q09 Inv Tryz.prog (jdh n):=mkF Tryz.func69 [] [] (cc (qr9 n) <| cc (qn6 n) <| cn) (by kernel_rfl) trivial (by intro a;kernel_rfl)
def qqw (n:Nat) (a1:Bool):Option Int :=
 (bif a1 then some (1:Int) else some (0:Int))
def jn8 (n:Nat):FC:={ f:=67,args:=[.one (.c (.d .bool))],res:=.one (.c (.d (.int .i64))),F:=fun p=>qqw n p }
theorem jn0 (n:Nat):q09 Inv Tryz.prog (jn8 n):=mkF Tryz.func67 [] [] (cn) (by kernel_rfl) trivial (by intro a;kernel_rfl)
@[reducible] def jh3:SSt:=⟨[(5,.one (.c (.d (.lst .str)))),(6,.one (.c (.d (.lst .str)))),(7,.one (.c (.d (.int .i64))))],[],[]⟩
@[reducible] def j8t:List (Exit×SSt):=[(.ret,⟨[(4,.one (.c (.d (.int .i64))))],[],[]⟩),(.exit 0,⟨[(5,.one (.c (.d (.lst .str)))),(6,.one (.c (.d (.lst .str))))],[],[]⟩)]
def j3f (n:Nat) (rec:(List Yy)->(List Yy)->Int->Option Z2) (a1:List Yy) (a2:List Yy) (a3:Int):Option Z2 :=
 (bif decide (a3<(a1.length:Int)) then (bif decide (a3<(a2.length:Int)) then (q0w a1 a3).bind fun x9=>(q0w a2 a3).bind fun x10=>(qex n x9 x10).bind fun r11=>(bif !decide (r11=0) then (q0w a1 a3).bind fun x12=>(q0w a2 a3).bind fun x13=>(qex n x12 x13).bind fun r14=>some (Sum.inl ((r14,()),((),()))) else q08 (IntKind.wrap .i64 (a3+1)) fun n15=>rec a1 a2 n15) else some (Sum.inr (((a1,(a2,())),((),()))))) else some (Sum.inr (((a1,(a2,())),((),())))))
def je4 (n:Nat):Stp jh3 j8t:=fun rec p=>j3f n (fun a1 a2 a3=>rec ((a1,(a2,(a3,()))),((),()))) p.1.1 p.1.2.1 p.1.2.2.1
def qbc (n m:Nat) (a1:List Yy) (a2:List Yy) (a3:Int):Option Z2:=q0i (je4 n) m ((a1,(a2,(a3,()))),((),()))
theorem qmg (n m:Nat) (a1 a2 a3):qbc n (m+1) a1 a2 a3=j3f n (fun a1 a2 a3=>qbc n m a1 a2 a3) a1 a2 a3:=rfl
def j6e (n:Nat) (a1:Yy) (a2:Yy):Option Int :=
 (bif decide (a1=([]:Yy)) then (qqw n (decide (a1=([]:Yy)))).bind fun r1=>(qqw n (decide (a2=([]:Yy)))).bind fun r2=>(q41 n r1 r2).bind fun r3=>some r3 else (bif decide (a2=([]:Yy)) then (qqw n (decide (a1=([]:Yy)))).bind fun r4=>(qqw n (decide (a2=([]:Yy)))).bind fun r5=>(q41 n r4 r5).bind fun r6=>some r6 else (q2b n a1 (46:Int)).bind fun r7=>(q2b n a2 (46:Int)).bind fun r8=>(qbc n n r7 r8 (0:Int)).bind fun o16=>Sum.elim (fun (q17:(Int×Unit)×Unit×Unit)=>some q17.1.1) (fun (q18:((List Yy)×((List Yy)×Unit))×Unit×Unit)=>(q41 n (q18.1.1.length:Int) (q18.1.2.1.length:Int)).bind fun r19=>some r19) o16))
def jnb (n:Nat):FC:={ f:=53,args:=[.one (.c (.d .str)),.one (.c (.d .str))],res:=.one (.c (.d (.int .i64))),F:=fun p=>j6e n p.1 p.2 }
def jos:q1m:=[(8,[⟨15576890575604482885591488987693056,2^111,0⟩,⟨59421121885698253195157962753*2^21,2^114,0⟩,⟨393*2^111,2^117,3⟩,⟨49*2^117,2^120,7⟩,⟨63802943797675961899382738893456801792,2^123,0⟩,⟨243388915243820045087367015432193*2^21,2^126,0⟩,⟨393*2^123,2^129,48⟩,⟨49*2^129,2^132,112⟩,⟨200705*2^120,2^135,255⟩,⟨49*2^135,2^138,511⟩]),(1000008,[]),(9,[⟨16725558898897967356151788704486271129518080,2^141,0⟩,⟨63802943797675961899382738893456539649*2^21,2^144,0⟩,⟨393*2^141,2^147,3⟩,⟨49*2^147,2^150,7⟩,⟨68507889249886074290797726533575766546372100096,2^153,0⟩,⟨261336857795280739939871698507597986398209*2^21,2^156,0⟩,⟨393*2^153,2^159,48⟩,⟨49*2^159,2^162,112⟩,⟨200705*2^150,2^165,255⟩,⟨46768052394588893382517914646921056628989841399808,4096,511⟩]),(1000009,[])]
theorem jo3 (n:Nat):q09 Inv Tryz.prog (jnb n):=mkF Tryz.func53 jos [q3x je4 n] (cc (jn0 n) <| cc (qn6 n) <| cc (q7w n) <| cc (jd7 n) <| cn) (by kernel_rfl) ⟨ls (by intro rec p;kernel_rfl),trivial⟩ (by intro a;kernel_rfl)
def q0g (n:Nat) (a1:Vv) (a2:Vv):Option Int :=
 (qbn n a1).bind fun r1=>(bif !r1 then some (0:Int) else (qbn n a2).bind fun r2=>(bif !r2 then some (0:Int) else (bif !decide (a1.1=a2.1) then (q41 n a1.1 a2.1).bind fun r3=>some r3 else (bif !decide (a1.2.1=a2.2.1) then (q41 n a1.2.1 a2.2.1).bind fun r4=>some r4 else (bif !decide (a1.2.2.1=a2.2.2.1) then (q41 n a1.2.2.1 a2.2.2.1).bind fun r5=>some r5 else (j6e n a1.2.2.2.1 a2.2.2.2.1).bind fun r6=>some r6)))))
def j4b (n:Nat):FC:={ f:=26,args:=[.one (.agg [.d (.int .i64),.d (.int .i64),.d (.int .i64),.d .str,.d .str]),.one (.agg [.d (.int .i64),.d (.int .i64),.d (.int .i64),.d .str,.d .str])],res:=.one (.c (.d (.int .i64))),F:=fun p=>q0g n p.1 p.2 }
theorem q3w (n:Nat):q09 Inv Tryz.prog (j4b n):=mkF Tryz.func26 [] [] (cc (qzd n) <| cc (qn6 n) <| cc (jo3 n) <| cn) (by kernel_rfl) trivial (by intro a;kernel_rfl)
def qne (c:UInt8):Bool:=j8y c||decide (c.toNat=95)||decide (c.toNat=46)
def qcs (s:Yy):Bool:=!decide (s = [])&&(!decide (s = [46])&&(!decide (s = [46,46])&&s.all qne))
def qbt (s:Yy):Bool:=decide (s.length<=60)&&(spl 47 [] s).all qcs
def q1i (w:Yy):Bool:=decide (w.head? = some 118)&&q3g (w.drop 1)
def anyS (s:Yy):Bool:=(spl 47 [] s).any q1i
def q7n (c:UInt8):Yy->Int
 | []=>-1
 | b::r=>if b=c then (r.length:Int) else q7n c r
def q82 (c:UInt8) (s:Yy):Int:=q7n c s.reverse
theorem j7l (c:UInt8) : ∀l,-1<=q7n c l/\q7n c l<(l.length:Int)
 | []=>by simp [q7n]
 | b::r=>by
  have:=j7l c r
  rw [q7n];split
  ·simp;omega
  ·simp;omega
theorem j6o (c:UInt8) (s:Yy) : -1<=q82 c s/\q82 c s<(s.length:Int):=by
 have:=j7l c s.reverse;unfold q82;simpa using this
theorem qr7 (c:UInt8) : ∀l,c ∉ l->q7n c l = -1
 | [],_=>rfl
 | b::r,h=>by
  have h1:b≠c:=fun e=>h (by simp [e])
  rw [q7n,if_neg h1,qr7 c r (fun e=>h (by simp [e]))]
theorem qw6 (c:UInt8) : ∀(y x:Yy),c ∉ y->q7n c (y++c::x)=(x.length:Int)
 | [],x,_=>by simp [q7n]
 | b::y,x,h=>by
  have h1:b≠c:=fun e=>h (by simp [e])
  rw [List.cons_append,q7n,if_neg h1,qw6 c y x (fun e=>h (by simp [e]))]
theorem j9e {c:UInt8} {s:Yy} (h:c ∉ s):q82 c s = -1:=qr7 c _ (by simpa using h)
theorem jav {c:UInt8} {x y:Yy} (h:c ∉ y):q82 c (x++c::y)=(x.length:Int):=by
 have:=qw6 c y.reverse x.reverse (by simpa using h)
 unfold q82
 simpa using this
def q2q (s:Yy):Yy:=s.take (q82 47 s).toNat
def q2l (s:Yy):Yy:=s.drop (q82 47 s+1).toNat
theorem j6h (c:UInt8) : ∀s:Yy,c ∉ s \/ ∃ x y,s=x++c::y/\c ∉ y
 | []=>Or.inl (by simp)
 | b::s=>by
  rcases j6h c s with h|⟨x,y,rfl,h⟩
  ·by_cases hb:b=c
   ·subst hb;exact Or.inr ⟨[],s,rfl,h⟩
   ·exact Or.inl (by simp [h,Ne.symm hb])
  ·exact Or.inr ⟨b::x,y,rfl,h⟩
theorem qv3 {s:Yy} (h:47 ∉ s):q2q s = []/\q2l s=s:=by
 unfold q2q q2l;rw [j9e h];exact ⟨rfl,rfl⟩
theorem j66 {x y:Yy} (h:47 ∉ y):q2q (x++47::y)=x/\q2l (x++47::y)=y:=by
 unfold q2q q2l;rw [jav h]
 constructor
 ·simp
 ·rw [show (((x.length:Nat):Int)+1).toNat=x.length+1 from by omega];simp
theorem j4a (c:UInt8) : ∀(x cur y:Yy),spl c cur (x++c::y)=spl c cur x++spl c [] y
 | [],cur,y=>by simp [spl]
 | b::x,cur,y=>by
  rw [List.cons_append,spl,spl]
  split
  ·rw [j4a c x];rfl
  ·rw [j4a c x]
theorem j98 (s:Yy):(47 ∉ s/\q2q s = []/\q2l s=s/\spl 47 [] s = [s])\/(s=q2q s++47::q2l s/\47 ∉ q2l s/\spl 47 [] s=spl 47 [] (q2q s) ++ [q2l s]):=by
 rcases j6h 47 s with h|⟨x,y,rfl,h⟩
 ·exact Or.inl ⟨h,(qv3 h).1,(qv3 h).2,qw8 47 s h⟩
 ·refine Or.inr ?_
  rw [(j66 h).1,(j66 h).2]
  exact ⟨rfl,h,by rw [j4a,qw8 47 y h]⟩
abbrev j9z:Yy:=[48,49,50,51,52,53,54,55,56,57]
theorem jhi (c:UInt8):j9z.contains c=q1v c:=by
 have h : ∀k:Fin 256,j9z.contains (UInt8.ofNat k.val)=q1v (UInt8.ofNat k.val):=by decide +kernel
 have h1:=h ⟨c.toNat,c.toNat_lt⟩
 simpa using h1
theorem dropWhile_nil (p:UInt8->Bool) : ∀l:Yy,l.dropWhile p = []↔l.all p=true
 | []=>by simp
 | b::l=>by
  rw [List.dropWhile_cons]
  cases h:p b with
  | true=>simp [h,dropWhile_nil p l]
  | false=>simp [h]
theorem qeq {p:UInt8->Bool} {c:UInt8} : ∀{l:Yy},c∈l->p c=false->c∈l.dropWhile p
 | b::l,h,hp=>by
  rw [List.dropWhile_cons]
  rcases List.mem_cons.1 h with rfl|h
  ·simp [hp]
  ·cases hb:p b with
   | true=>simpa using qeq h hp
   | false=>simp [h]
theorem jjo (s:Yy):decide (Lib.trimS s j9z = [])=s.all q1v:=by
 have he:(fun c=>j9z.contains c)=q1v:=funext jhi
 unfold Lib.trimS Lib.trimRightS Lib.trimLeftS
 rw [he]
 cases h:s.all q1v with
 | true =>
  have h2:s.reverse.all q1v=true:=by rw [List.all_reverse];exact h
  rw [(dropWhile_nil q1v s.reverse).2 h2];simp
 | false =>
  rw [decide_eq_false_iff_not,dropWhile_nil]
  intro hc
  have h3 : ∃ c,c∈s/\q1v c=false:=by
   have:=List.all_eq_false.1 h
   obtain ⟨c,hc,hn⟩:=this
   exact ⟨c,hc,by simpa using hn⟩
  obtain ⟨c,hm,hn⟩:=h3
  have h4:c∈(s.reverse.dropWhile q1v).reverse:=by simpa using qeq (l:=s.reverse) (by simpa using hm) hn
  have:=List.all_eq_true.1 hc c h4
  rw [hn] at this;cases this
def numOf (s:Yy):Int:=match Lib.atoiAll s with
 | .ok v=>v
 | .range=>Lib.atoiSat s
 | _=>0
def qoc (s:Yy):Bool:=match Lib.atoiAll s with
 | .ok v=>decide (2<=v)&&(decide (v<=999999999)&&decide (s=Lib.itoa v))
 | _=>false
theorem jds {n:Int} (h0:2<=n) (h1:n<=999999999):qoc (Lib.itoa n)=true/\numOf (Lib.itoa n)=n:=by
 unfold qoc numOf;rw [jba (by omega) h1];simp [h0,h1]
theorem qxg {s:Yy} (h:qoc s=true):2<=numOf s/\numOf s<=999999999/\s=Lib.itoa (numOf s):=by
 unfold qoc at h;unfold numOf
 cases e:Lib.atoiAll s with
 | ok v=>rw [e] at h;simpa using h
 | range=>rw [e] at h;cases h
 | «syntax»=>rw [e] at h;cases h
def okS (p:Yy):Bool:=qbt p&&(!anyS (q2q p)&&(!q1i (q2l p)||(qoc ((q2l p).drop 1) && !decide (q2q p = []))))
def q9v (p:Yy):Yy×(Int×Bool):=if okS p then (if q1i (q2l p) then (q2q p,(numOf ((q2l p).drop 1),true)) else (p,(0,true))) else ([],(0,false))
theorem j7o {s:Yy} (h:qbt s=true):s.length<=60/\(spl 47 [] s).all qcs=true:=by
 unfold qbt at h;simpa using h
theorem jbj {p:Yy} (h:okS p=true):qbt p=true/\anyS (q2q p)=false/\(q1i (q2l p)=true->qoc ((q2l p).drop 1)=true/\q2q p ≠ []):=by
 unfold okS at h
 simp only [Bool.and_eq_true,Bool.or_eq_true,Bool.not_eq_true',decide_eq_false_iff_not] at h
 refine ⟨h.1,h.2.1,fun ht=>?_⟩
 rcases h.2.2 with h3|h3
 ·rw [ht] at h3;cases h3
 ·exact h3
end Go.Proofs.YtlkpgcifpnppeaaGreatDoor.AM
namespace Go.Proofs
open Go.RowKit Go.Shelf Go.Lib
shelf_lay Lays.n160 Nm 160 at Tryz as Tryz.laysTrim
namespace YtlkpgcifpnppeaaGreatDoor.AM
def qm4 (s cs:List UInt8):Option (List UInt8):=if cs=j9z/\s.length<=1000000 then some (Lib.trimS s j9z) else none
def jhe:FC:={ f:=114,args:=[j53,j53],res:=j53,F:=fun p=>qm4 p.1 p.2 }
theorem jjh:q09 Inv Tryz.prog jhe:=fun G hG=>⟨⟨by kernel_rfl,fun a r h=>by
 obtain ⟨s,cs⟩:=a
 have h':qm4 s cs=some r:=h
 unfold qm4 at h'
 split at h'
 case isFalse=>cases h'
 rename_i hc
 obtain ⟨rfl,hl⟩:=hc
 have hr:Lib.trimS s j9z=r:=Option.some.inj h'
 intro Pc w vs hg hlt hv
 obtain ⟨l⟩:=vs
 match l,hv with
 | [x,y],⟨h1,h2,_⟩ =>
  obtain rfl:x = .string (ba s):=q07 h1
  obtain rfl:y = .string (ba j9z):=q07 h2
  have e1:(ba s).data.toList=s:=by simp [ba]
  have e2:(ba j9z).data.toList=j9z:=by simp [ba]
  have hh:=Any.strings_Trim_laid Tryz.laysTrim (by kernel_rfl) (ba s) (ba j9z) w (by rw [q44];omega) (by rw [q44];decide) (by rw [e2];exact ascii_of_all (by decide))
  rw [e1,e2,hr] at hh
  refine hh.mono ?_
  rintro e w' ⟨rfl,hb⟩
  exact qdz rfl hb (q04 (.string (ba r)))⟩,rfl⟩
end YtlkpgcifpnppeaaGreatDoor.AM
end Go.Proofs
namespace Go.Proofs.YtlkpgcifpnppeaaGreatDoor.AM
open Go.RowKit
@[reducible] def jbh:SSt:=⟨[(0,.one (.c (.d .str))),(1,.one (.c (.d (.int .u8)))),(5,.one (.c (.d (.int .i64))))],[],[]⟩
@[reducible] def j1s:List (Exit×SSt):=[(.ret,⟨[(4,.one (.c (.d (.int .i64))))],[],[]⟩),(.exit 0,⟨[],[],[]⟩)]
def qjg (n:Nat) (rec:(Yy)->Int->Int->Option Z8) (a1:Yy) (a2:Int) (a3:Int):Option Z8 :=
 (bif decide (0<=a3) then (sAt a1 a3).bind fun c2=>(bif decide (c2=a2) then some (Sum.inl ((a3,()),((),()))) else q08 (IntKind.wrap .i64 (a3 - (1:Int))) fun n3=>rec a1 a2 n3) else some (Sum.inr (((),((),())))))
def j57 (n:Nat):Stp jbh j1s:=fun rec p=>qjg n (fun a1 a2 a3=>rec ((a1,(a2,(a3,()))),((),()))) p.1.1 p.1.2.1 p.1.2.2.1
def q8y (n m:Nat) (a1:Yy) (a2:Int) (a3:Int):Option Z8:=q0i (j57 n) m ((a1,(a2,(a3,()))),((),()))
theorem q9q (n m:Nat) (a1 a2 a3):q8y n (m+1) a1 a2 a3=qjg n (fun a1 a2 a3=>q8y n m a1 a2 a3) a1 a2 a3:=rfl
def qu4 (n:Nat) (a1:Yy) (a2:Int):Option Int :=
 q08 (IntKind.wrap .i64 ((a1.length:Int) - (1:Int))) fun (n1:Int)=>(q8y n n a1 a2 n1).bind fun o4=>Sum.elim (fun (q5:(Int×Unit)×Unit×Unit)=>some q5.1.1) (fun (q6:(Unit)×Unit×Unit)=>some (-1:Int)) o4
def ji4 (n:Nat):FC:={ f:=130,args:=[.one (.c (.d .str)),.one (.c (.d (.int .u8)))],res:=.one (.c (.d (.int .i64))),F:=fun p=>qu4 n p.1 p.2 }
theorem jhm (n:Nat):q09 Inv Tryz.prog (ji4 n):=mkF Tryz.func130 [] [q3x j57 n] (cn) (by kernel_rfl) ⟨ls (by intro rec p;kernel_rfl),trivial⟩ (by intro a;kernel_rfl)
def qt5 (n:Nat) (a1:Yy) (a2:Int):Option Int :=
 (qu4 n a1 a2).bind fun r1=>some r1
def jgy (n:Nat):FC:={ f:=110,args:=[.one (.c (.d .str)),.one (.c (.d (.int .u8)))],res:=.one (.c (.d (.int .i64))),F:=fun p=>qt5 n p.1 p.2 }
theorem j7j (n:Nat):q09 Inv Tryz.prog (jgy n):=mkF Tryz.func110 [] [] (cc (jhm n) <| cn) (by kernel_rfl) trivial (by intro a;kernel_rfl)
def qab (n:Nat) (a1:Yy) (a2:Yy):Option (Yy×Bool) :=
 (q5e n a1 a2).bind fun r1=>(bif !r1 then some (a1,false) else (qoa a1 (a2.length:Int) (a1.length:Int)).bind fun s2=>some (s2,true))
def qsi (n:Nat):FC:={ f:=133,args:=[.one (.c (.d .str)),.one (.c (.d .str))],res:=.tup [.c (.d .str),.c (.d .bool)],F:=fun p=>qab n p.1 p.2 }
theorem qsz (n:Nat):q09 Inv Tryz.prog (qsi n):=mkF Tryz.func133 [] [] (cc (qe8 n) <| cn) (by kernel_rfl) trivial (by intro a;kernel_rfl)
def q8z (n:Nat) (a1:Yy) (a2:Yy):Option (Yy×Bool) :=
 (qab n a1 a2).bind fun r1=>some r1
def qvi (n:Nat):FC:={ f:=113,args:=[.one (.c (.d .str)),.one (.c (.d .str))],res:=.tup [.c (.d .str),.c (.d .bool)],F:=fun p=>q8z n p.1 p.2 }
theorem qy3 (n:Nat):q09 Inv Tryz.prog (qvi n):=mkF Tryz.func113 [] [] (cc (qsz n) <| cn) (by kernel_rfl) trivial (by intro a;kernel_rfl)
def qf5 (n:Nat) (a1:Yy):Option Bool :=
 (q8z n a1 ([118]:Yy)).bind fun r1=>(bif r1.2 then (bif !decide (r1.1=([]:Yy)) then (qm4 r1.1 ([48,49,50,51,52,53,54,55,56,57]:Yy)).bind fun (r2:Yy)=>some (decide (r2=([]:Yy))) else some false) else some false)
def je0 (n:Nat):FC:={ f:=88,args:=[.one (.c (.d .str))],res:=.one (.c (.d .bool)),F:=fun p=>qf5 n p }
theorem qxs (n:Nat):q09 Inv Tryz.prog (je0 n):=mkF Tryz.func88 [] [] (cc (qy3 n) <| cc (jjh) <| cn) (by kernel_rfl) trivial (by intro a;kernel_rfl)
end Go.Proofs.YtlkpgcifpnppeaaGreatDoor.AM
namespace Go.Proofs.YtlkpgcifpnppeaaGreatDoor.AM
open Go.RowKit
def qry (n:Nat) (a1:Int):Option Bool :=
 (bif decide (97<=a1) then (bif decide (a1<=122) then (bif decide (a1<=122) then some true else (bif decide (a1=45) then some true else (bif decide (a1=95) then some true else some (decide (a1=46))))) else (bif decide (65<=a1) then (bif decide (a1<=90) then (bif decide (a1<=90) then some true else (bif decide (a1=45) then some true else (bif decide (a1=95) then some true else some (decide (a1=46))))) else (bif decide (48<=a1) then (bif decide (a1<=57) then some true else (bif decide (a1=45) then some true else (bif decide (a1=95) then some true else some (decide (a1=46))))) else (bif decide (a1=45) then some true else (bif decide (a1=95) then some true else some (decide (a1=46)))))) else (bif decide (48<=a1) then (bif decide (a1<=57) then some true else (bif decide (a1=45) then some true else (bif decide (a1=95) then some true else some (decide (a1=46))))) else (bif decide (a1=45) then some true else (bif decide (a1=95) then some true else some (decide (a1=46))))))) else (bif decide (65<=a1) then (bif decide (a1<=90) then (bif decide (a1<=90) then some true else (bif decide (a1=45) then some true else (bif decide (a1=95) then some true else some (decide (a1=46))))) else (bif decide (48<=a1) then (bif decide (a1<=57) then some true else (bif decide (a1=45) then some true else (bif decide (a1=95) then some true else some (decide (a1=46))))) else (bif decide (a1=45) then some true else (bif decide (a1=95) then some true else some (decide (a1=46)))))) else (bif decide (48<=a1) then (bif decide (a1<=57) then some true else (bif decide (a1=45) then some true else (bif decide (a1=95) then some true else some (decide (a1=46))))) else (bif decide (a1=45) then some true else (bif decide (a1=95) then some true else some (decide (a1=46)))))))
def jie (n:Nat):FC:={ f:=132,args:=[.one (.c (.d (.int .u8)))],res:=.one (.c (.d .bool)),F:=fun p=>qry n p }
theorem jgw (n:Nat):q09 Inv Tryz.prog (jie n):=mkF Tryz.func132 [] [] (cn) (by kernel_rfl) trivial (by intro a;kernel_rfl)
@[reducible] def jg0:SSt:=⟨[(0,.one (.c (.d .str))),(15,.one (.c (.d (.int .i64)))),(16,.one (.c (.d (.int .i64))))],[],[]⟩
@[reducible] def j0l:List (Exit×SSt):=[(.ret,⟨[(2,.one (.c (.d .bool)))],[],[]⟩),(.exit 0,⟨[],[],[]⟩)]
def qul (n:Nat) (rec:(Yy)->Int->Int->Option Z3) (a1:Yy) (a2:Int) (a3:Int):Option Z3 :=
 (bif decide (a3<a2) then (sAt a1 a3).bind fun c1=>(qry n c1).bind fun r2=>(bif !r2 then some (Sum.inl ((false,()),((),()))) else q08 (IntKind.wrap .i64 (a3+1)) fun n3=>rec a1 a2 n3) else some (Sum.inr (((),((),())))))
def j4i (n:Nat):Stp jg0 j0l:=fun rec p=>qul n (fun a1 a2 a3=>rec ((a1,(a2,(a3,()))),((),()))) p.1.1 p.1.2.1 p.1.2.2.1
def q8o (n m:Nat) (a1:Yy) (a2:Int) (a3:Int):Option Z3:=q0i (j4i n) m ((a1,(a2,(a3,()))),((),()))
theorem qik (n m:Nat) (a1 a2 a3):q8o n (m+1) a1 a2 a3=qul n (fun a1 a2 a3=>q8o n m a1 a2 a3) a1 a2 a3:=rfl
def j2j (n:Nat) (a1:Yy):Option Bool :=
 (bif decide (a1=([]:Yy)) then some false else (bif decide (a1=([46]:Yy)) then some false else (bif decide (a1=([46,46]:Yy)) then some false else (q8o n n a1 (a1.length:Int) (0:Int)).bind fun o4=>Sum.elim (fun (q5:(Bool×Unit)×Unit×Unit)=>some q5.1.1) (fun (q6:(Unit)×Unit×Unit)=>some true) o4)))
def jjf (n:Nat):FC:={ f:=112,args:=[.one (.c (.d .str))],res:=.one (.c (.d .bool)),F:=fun p=>j2j n p }
theorem jiy (n:Nat):q09 Inv Tryz.prog (jjf n):=mkF Tryz.func112 [] [q3x j4i n] (cc (jgw n) <| cn) (by kernel_rfl) ⟨ls (by intro rec p;kernel_rfl),trivial⟩ (by intro a;kernel_rfl)
theorem ja9 (n:Nat) (c:UInt8):qry n ((c.toNat:Nat):Int)=some (qne c):=by
 have h : ∀k:Fin 256,qry 0 ((k.val:Nat):Int)=some (qne (UInt8.ofNat k.val)):=by decide +kernel
 have h1:=h ⟨c.toNat,c.toNat_lt⟩
 have e:UInt8.ofNat c.toNat=c:=by simp
 rw [e] at h1
 exact h1
theorem qpr (n:Nat) (s:Yy) (hL:s.length<=1000000) : ∀m j:Nat,j<=s.length->s.length - j<m->q8o n m s ((s.length:Nat):Int) (j:Int)=some (if (s.drop j).all qne=true then Sum.inr ((),((),())) else Sum.inl ((false,()),((),())))
 | 0,j,_,h=>absurd h (Nat.not_lt_zero _)
 | m+1,j,hj,h=>by
  rw [qik]
  unfold qul
  by_cases c0:j<s.length
  ·have c0':((j:Nat):Int)<((s.length:Nat):Int):=by omega
   have ih:=qpr n s hL m (j+1) (by omega) (by omega)
   have hd:s.drop j=s[j]::s.drop (j+1):=(List.drop_eq_getElem_cons c0)
   simp only [c0',decide_true,cond_true,q6n c0,Option.bind_some,ja9,q08,q00 (show j<4611686018427387904 by omega),ih,hd,List.all_cons]
   cases qne s[j]<;>simp
  ·have c0' : ¬ ((j:Nat):Int)<((s.length:Nat):Int):=by omega
   have:s.drop j = []:=List.drop_eq_nil_of_le (by omega)
   simp [c0',this]
theorem j8f (n:Nat) (s:Yy) (hL:s.length<=1000000) (hn:s.length<n):j2j n s=some (qcs s):=by
 unfold j2j qcs
 have:=qpr n s hL n 0 (Nat.zero_le _) (by omega)
 rw [show ((0:Nat):Int)=(0:Int) from rfl] at this
 rw [this,List.drop_zero]
 cases decide (s = [])<;>cases decide (s = [46])<;>cases decide (s = [46,46])<;>cases s.all qne<;>rfl
theorem jis {n:Int} (h:0<=n/\n<=999999999):(Lib.itoa n).length<=9:=by
 rw [qjo h.1];exact jcn 8 n.toNat (by omega)
theorem jcw (s:Yy):(q4c s).length<=s.length:=by
 unfold q4c;split
 ·rw [List.length_drop];omega
 ·exact Nat.le_refl _
theorem qc7 (n m:Nat) (a1 a2 a3 i i' a5 a6 a7 x:Int) (a8 a9:Yy) (hx:q0w ([a1,a2,a3]:List Int) i=some x) (hi:i<3) (hw:IntKind.wrap .i64 (i+1)=i') :
  q58 n (m+1) a1 a2 a3 i a5 a6 a7 a8 a9=if j6y x=true then q58 n m a1 a2 a3 i' a5 a6 a7 a8 a9 else some (Sum.inl ((false,()),((),()))):=by
 rw [q8f]
 unfold qeb j6y
 simp only [hi,decide_true,cond_true,hx,Option.bind_some,q08,hw]
 by_cases h1:x<0
 ·have : ¬ (0:Int)<=x:=by omega
  simp [h1,this]
 ·have h1':(0:Int)<=x:=by omega
  by_cases h2:999999999<x
  ·have : ¬ x<=999999999:=by omega
   simp [h1,h2,this]
  ·have:x<=999999999:=by omega
   simp [h1,h2,h1',this]
theorem qdy (n:Nat) (v:VD) (hn:4<=n):qbd n v=some (q06 v):=by
 obtain ⟨k,rfl⟩ : ∃ k,n=k+1+1+1+1:=⟨n - 4,by omega⟩
 obtain ⟨a,b,c,p,q⟩:=v
 unfold qbd
 rw [qc7 _ _ a b c 0 1 _ _ _ a _ _ rfl (by decide) rfl,qc7 _ _ a b c 1 2 _ _ _ b _ _ rfl (by decide) rfl,qc7 _ _ a b c 2 3 _ _ _ c _ _ rfl (by decide) rfl,q8f]
 unfold qeb q06 qo1 qgg
 dsimp only
 cases j6y a with
 | false=>rfl
 | true=>cases j6y b with
  | false=>rfl
  | true=>cases j6y c with
   | false=>rfl
   | true =>
    simp only [if_true,Bool.true_and,show ¬ (3:Int)<3 from by decide,decide_false,cond_false,Option.bind_some,Sum.elim_inr]
    cases q7o q5l p<;>cases q7o q2s q<;>rfl
theorem jg5 (n:Nat) (s:Yy) (hs:s.length<=1000000):qal n s [118]=some (q4c s):=by
 unfold qal q9i q5e q4c
 cases s with
 | nil=>rfl
 | cons b r =>
  have h1:((List.length ([118]:Yy):Nat):Int)<=((List.length (b::r):Nat):Int):=by simp;omega
  have h2:qoa (b::r) (0:Int) ((List.length ([118]:Yy):Nat):Int)=some [b]:=sub_zero (b:=1) (by simp)
  have h3:qoa (b::r) ((List.length ([118]:Yy):Nat):Int) ((List.length (b::r):Nat):Int)=some r:=by
   have:=sub_le (l:=b::r) (a:=1) (b:=(b::r).length) (by simp) (Nat.le_refl _)
   rw [show ((List.length ([118]:Yy):Nat):Int)=((1:Nat):Int) from rfl,this]
   simp
  simp only [h1,decide_true,cond_true,h2,Option.bind_some,List.head?_cons,Option.some.injEq,List.drop_succ_cons,List.drop_zero]
  by_cases hb:b=118
  ·simp only [hb,decide_true,cond_true,if_true] at h3 ⊢
   rw [h3];rfl
  ·have : ¬ [b]=([118]:Yy):=fun h=>hb (by simpa using h)
   simp [this,hb]
theorem qem (s:Yy) (j:Nat) (h:j<s.length):(s.take (j+1)).reverse=s[j]::(s.take j).reverse:=by
 rw [List.take_succ_eq_append_getElem h];simp
theorem qpm (n:Nat) (c:UInt8) (s:Yy) (hL:s.length<=1000000) : ∀m j:Nat,j<=s.length->j<m->q8y n m s ((c.toNat:Nat):Int) ((j:Int) - 1)=some (if q7n c (s.take j).reverse = -1 then Sum.inr ((),((),())) else Sum.inl ((q7n c (s.take j).reverse,()),((),())))
 | 0,j,_,h=>absurd h (Nat.not_lt_zero _)
 | m+1,0,_,_=>by
  rw [q9q]
  unfold qjg
  simp [q7n]
 | m+1,j+1,hj,h=>by
  rw [q9q]
  unfold qjg
  have e1:((j+1:Nat):Int) - 1=((j:Nat):Int):=by omega
  have ih:=qpm n c s hL m j (by omega) (by omega)
  have w1:IntKind.wrap .i64 (((j:Nat):Int) - 1)=((j:Nat):Int) - 1:=wrap64 (by omega) (by omega)
  have c0:(0:Int)<=((j:Nat):Int):=by omega
  have d1:decide (((s[j].toNat:Nat):Int)=((c.toNat:Nat):Int))=decide (s[j]=c):=decide_eq_decide.2 ⟨fun h=>UInt8.toNat_inj.1 (by omega),fun h=>by rw [h]⟩
  rw [e1]
  simp only [c0,decide_true,cond_true,q6n (show j<s.length by omega),Option.bind_some,d1,q08,w1,ih,qem s j (by omega),q7n]
  by_cases h0:s[j]=c
  ·have : ¬ (((s.take j).reverse.length:Nat):Int) = -1:=by omega
   have l1:(s.take j).reverse.length=j:=by simp;omega
   simp only [h0,decide_true,cond_true,if_true,this,if_false,l1]
   rw [if_neg (by omega)]
  ·simp [h0]
theorem j9d (n:Nat) (c:UInt8) (s:Yy) (hL:s.length<=1000000) (hn:s.length<n):qu4 n s ((c.toNat:Nat):Int)=some (q82 c s):=by
 unfold qu4
 have:=qpm n c s hL n s.length (Nat.le_refl _) hn
 have w1:IntKind.wrap .i64 (((s.length:Nat):Int) - 1)=((s.length:Nat):Int) - 1:=wrap64 (by omega) (by omega)
 simp only [q08,w1,this,List.take_length]
 unfold q82
 by_cases h:q7n c s.reverse = -1
 ·simp [h]
 ·simp [h]
theorem qr6 (n:Nat) (s:Yy) (hL:s.length<=1000000) (hn:s.length<n):qt5 n s (47:Int)=some (q82 47 s):=by
 unfold qt5
 rw [show (47:Int)=(((47:UInt8).toNat:Nat):Int) from rfl,j9d n 47 s hL hn];rfl
theorem j14 (n:Nat) (s:Yy) (hs:s.length<=1000000):q8z n s [118]=some (if s.head? = some 118 then (s.drop 1,true) else (s,false)):=by
 unfold q8z qab q5e
 cases s with
 | nil=>rfl
 | cons b r =>
  have h1:((List.length ([118]:Yy):Nat):Int)<=((List.length (b::r):Nat):Int):=by simp;omega
  have h2:qoa (b::r) (0:Int) ((List.length ([118]:Yy):Nat):Int)=some [b]:=sub_zero (b:=1) (by simp)
  have h3:qoa (b::r) ((List.length ([118]:Yy):Nat):Int) ((List.length (b::r):Nat):Int)=some r:=by
   have:=sub_le (l:=b::r) (a:=1) (b:=(b::r).length) (by simp) (Nat.le_refl _)
   rw [show ((List.length ([118]:Yy):Nat):Int)=((1:Nat):Int) from rfl,this]
   simp
  simp only [h1,decide_true,cond_true,h2,Option.bind_some,List.head?_cons,Option.some.injEq,List.drop_succ_cons,List.drop_zero]
  by_cases hb:b=118
  ·simp only [hb,decide_true,cond_true,if_true,Bool.not_true,cond_false] at h3 ⊢
   rw [h3];rfl
  ·have : ¬ [b]=([118]:Yy):=fun h=>hb (by simpa using h)
   simp [this,hb]
theorem qnr (n:Nat) (s:Yy) (hs:s.length<=1000000):qf5 n s=some (q1i s):=by
 unfold qf5 q1i q3g
 rw [j14 n s hs]
 by_cases h:s.head? = some 118
 ·have hl:(s.drop 1).length<=1000000:=by rw [List.length_drop];omega
  have ht:qm4 (s.drop 1) j9z=some (Lib.trimS (s.drop 1) j9z):=if_pos ⟨rfl,hl⟩
  simp only [h,if_true,Option.bind_some,cond_true,ht,jjo,decide_true,Bool.true_and]
  cases decide (s.drop 1 = [])<;>cases (s.drop 1).all q1v<;>rfl
 ·simp [h]
end Go.Proofs.YtlkpgcifpnppeaaGreatDoor.AM
namespace Go.Proofs
open Go.RowKit Go.Shelf Go.Lib
attribute [local go_sem] Oper.semAt_some
namespace YtlkpgcifpnppeaaGreatDoor.AM
theorem jhy (x:List UInt8) (w:World) (hI:Inv w) (hx:x.length<=1000000):Calls Tryz.prog 112 #[.string (ba x)] w fun e w'=>e = .returned (.bool (qcs x))/\Below w.heap.size w w':=by
 have h:=(jiy 1000001 Inv q24).1.2 x (qcs x) (j8f 1000001 x (by omega) (by omega))
 refine (h (fun _ _=>False) w #[.string (ba x)] hI (fun b o h=>h.elim) ⟨q04 _,trivial⟩).mono ?_
 rintro e w' ⟨v,Pc,rfl,hb,_,_,hv⟩
 have hv':v = .bool (qcs x):=q07 hv
 rw [hv']
 exact ⟨rfl,hb⟩
set_option maxHeartbeats 2000000 in
theorem j2l (s:List UInt8) (w:World) (hI:Inv w):Calls Tryz.prog 86 #[.string (ba s)] w fun e w'=>e = .returned (.bool (qbt s))/\Below w.heap.size w w':=by
 refine (callsIn_wide (n:=9)).1 ?_
 refine callsIn_of_wp_marks Tryz.func86 rfl trivial ?_ rfl
 simp only [Tryz.ntmps86,List.size_toArray,List.length_cons,List.length_nil,Nat.reduceAdd,Nat.reduceSub,Array.replicate_succ,Array.replicate_zero,List.push_toArray,List.append_toArray,List.nil_append,List.cons_append]
 have hsz:(ba s).size=s.length:=q44 s
 by_cases h2:s.length<=60
 ·skip
  gi_wp2_with (refine ⟨trivial,?_⟩;gi_at_call 111;refine (callsIn_wide.2 (q4k _ _ _)).mono ?_;rintro e w' ⟨rfl,rfl⟩)
  obtain ⟨W0,hW0,hs0,hb0,g0,g1,g2,g3⟩:=four w (Obj.cells #[Value.bool false] 4) (Obj.cells #[Value.string (ba s)] 9) (Obj.cells #[Value.string { data:=#[47] }] 9) (Obj.cells #[Value.int IntKind.i64 0] 3)
  rw [hW0]
  clear hW0
  obtain ⟨c1,f1⟩:=q0m g0
  obtain ⟨c2,f2⟩:=q0m g1
  obtain ⟨c3,f3⟩:=q0m g2
  obtain ⟨c4,f4⟩:=q0m g3
  refine range_split (n:=9) (by omega) 47 (w.heap.size+1) (w.heap.size+1+1) (w.heap.size+1+2) s (by omega) rfl ⟨c2,f2⟩
   (Rng (.string (ba [47])) (w.heap.size+1+1) w.heap.size (w.heap.size+1+1) (w.heap.size+1+2) 47 w qcs) (RngX w.heap.size w qcs) (qsc (by omega)) (qs2 (by omega))
   (fun pre W h=>⟨h.cP,h.cC,(hI.below h.below).maxLen⟩) (fun pre W v h=>qrm v h (by omega) (by omega) (by omega) (by omega) (by omega)) ⟨c3,c1,f1,c3,c4,hb0,rfl⟩
   (fun x=>{ tmps:=#[.string (ba s),undef,.pointer (some ⟨w.heap.size,0,none⟩),.string (ba x),.string (ba s),.int .i64 s.length,.bool (decide ((60:Int)<s.length)),.string (ba s),.func (.func 151) #[] #[.pointer (some ⟨w.heap.size+1+1,0,none⟩),.pointer (some ⟨w.heap.size+1,0,none⟩),.pointer (some ⟨w.heap.size+1+2,0,none⟩)],.string (ba x),undef,undef,undef],defers:=[] }) ?assign ?body ?done ?stop
  case assign =>
   intro l x W K hK
   gi_wp2
   exact hK
  case body =>
   intro l pre x r W hi hL hx
   have k1:=hi.res
   have k2:=hi.frz
   have hc:=jhy x W (hI.below hi.below) (by omega)
   cases hpx:qcs x with
   | true =>
    rw [hpx] at hc
    gi_wp2_with (refine ⟨trivial,?_⟩;gi_at_call 112;refine (CallsIn.inRound l (callsIn_wide.2 hc)).mono ?_;rintro e w' ⟨rfl,hb'⟩)
    exact ⟨q2r hb',qe3 hi hb' (by simp [hpx]),qb2 hL hb'⟩
   | false =>
    rw [hpx] at hc
    gi_wp2_with (refine ⟨trivial,?_⟩;gi_at_call 112;refine (CallsIn.inRound l (callsIn_wide.2 hc)).mono ?_;rintro e w' ⟨rfl,hb'⟩;have k3:=q2y hb' hi.res;have k4:=(q3z hb' hi.res).trans hi.frz)
    exact ⟨(q2r hb').trans (KeepsOthers.setCell _ _ _),World.cell?_setCell_same' _ _ _ (by rw [k3];rfl),(hi.below.trans (hb'.mono hi.below.size)).setCell (by simp) _,by simp [hpx]⟩
  case done =>
   intro D W hD hi hK
   have k1:=hi.res
   have k2:=hi.frz
   gi_wp2
   have hK':=(KeepsOthers.setCell W ⟨w.heap.size,0,none⟩ (.bool true)).same D _ hK rfl
   have hW':Below w.heap.size w (W.setCell ⟨w.heap.size,0,none⟩ (.bool true)):=hi.below.setCell (by simp) _
   have k5:(W.setCell ⟨w.heap.size,0,none⟩ (.bool true)).cell? ⟨w.heap.size,0,none⟩=some (.bool true):=World.cell?_setCell_same' _ _ _ (by rw [k1];rfl)
   generalize W.setCell ⟨w.heap.size,0,none⟩ (.bool true)=W2 at hK' hW' k5
   refine ⟨by simp,.inl ⟨_,_,rfl,run_takeDeferred hK',?_⟩⟩
   have hg:=grownBy_putObj' W2 D (.deferred none)
   refine ⟨_,q2w (b:=w.heap.size) (v:=.bool true) rfl rfl hag (cell_kept k5 hg (fun r e=>by cases e;exact ⟨_,hK',rfl⟩)),?_,?_⟩
   ·have ha:=hi.all
    unfold qbt;simp [h2,ha]
   ·exact hW'.grown hg hW'.size (fun k e=>by cases e;omega)
  case stop =>
   intro D pre x t W hD hsp hi hK
   refine ⟨by simp,.inl ⟨_,_,rfl,run_takeDeferred hK,?_⟩⟩
   have hg:=grownBy_putObj' W D (.deferred none)
   refine ⟨_,q2w (b:=w.heap.size) (v:=.bool false) rfl rfl hag (cell_kept hi.res hg (fun r e=>by cases e;exact ⟨_,hK,rfl⟩)),?_,?_⟩
   ·have ha:=j69 hsp hi.no
    unfold qbt;simp [ha]
   ·exact hi.below.grown hg hi.below.size (fun k e=>by cases e;omega)
 ·gi_wp2
  refine ⟨_,q2w (b:=w.heap.size) (v:=.bool false) rfl rfl hag (by simp),?_,?_⟩
  ·unfold qbt;simp [h2]
  ·exact (Below.refl _ w).alloc (Nat.le_refl _) _
def j2q (s:List UInt8):Option Bool:=some (qbt s)
def jiv:FC:={ f:=86,args:=[j53],res:=jin,F:=fun p=>j2q p }
theorem jja:q09 Inv Tryz.prog jiv:=fun G hG=>⟨⟨by kernel_rfl,fun (s:List UInt8) r h=>by
 have hr:qbt s=r:=Option.some.inj h
 intro Pc w vs hg hlt hv
 obtain ⟨l⟩:=vs
 match l,hv with
 | [x],⟨h1,_⟩ =>
  obtain rfl:x = .string (ba s):=q07 h1
  refine (j2l s w (hG.im w hg)).mono ?_
  rintro e w' ⟨rfl,hb⟩
  subst hr
  exact qdz rfl hb (q04 _)⟩,rfl⟩
end YtlkpgcifpnppeaaGreatDoor.AM
end Go.Proofs
