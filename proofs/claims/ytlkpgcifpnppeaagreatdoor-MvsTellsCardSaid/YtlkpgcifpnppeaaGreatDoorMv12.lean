
import Derived.Test.YtlkpgcifpnppeaaGreatDoorMv11
import Derived.Test.YtlkpgcifpnppeaaGreatDoorMv8
import Derived.Shelf.RegionOpenPlain
import Derived.Laws.CopyRow
import Derived.Laws.CopyOwn
import Derived.Laws.AppendOwn
import Derived.Laws.Externs
import Derived.Laws.NewBlocks
import Derived.Lib.Overlaps
import Derived.Lib.AppendZerosOnto
import Derived.Lib.JoinLaws
import Derived.Deep.RegionLaw
import Derived.Lib.Hide
import Derived.Lib.SliceRun
set_option linter.unusedVariables false
set_option linter.unusedSimpArgs false
namespace Go.Proofs.YtlkpgcifpnppeaaGreatDoor.AM
abbrev Tv:Ty:=.prod (.int .i64) (.prod (.int .i64) (.prod (.int .i64) (.prod .str .str)))
open Go.RowKit
set_option maxRecDepth 20000
abbrev Zd:=Yy×(Int×(Int×(Int×(Yy×(Yy×LQ)))))
abbrev Ze:=(List (Qq×Unit))×Unit
abbrev Zf:=Unit×(Qq×(Unit×Unit))×(LQ×Unit)
abbrev Zg:=((Int×Unit)×(Qq×Unit)×(LQ×Unit))⊕(Unit×(Qq×Unit)×(LQ×Unit))
abbrev Zh:=Unit×((List (Yy×Qq))×Unit)×Unit
abbrev Zi:=Unit×(Unit×(Unit×Ze))×(LQ×Unit)
abbrev Zj:=((Int×Unit)×Unit×Unit)⊕((Int×Unit)×Unit×Unit)
abbrev Zk:=(LQ×(Unit×Unit))×((List (Qq×Zd))×Unit)×Unit
abbrev Zl:=(Unit×Unit)×(Unit×Unit)×(LQ×Unit)
def qc0 (n:Nat) (a1:Qq):Option Bool :=
 (qu1 n a1.1 a1.2).bind fun r1=>some r1
def jo2 (n:Nat):FC:={ f:=32,args:=[.one (.agg [.d .str,.d (.int .i64),.d (.int .i64),.d (.int .i64),.d .str,.d .str])],res:=.one (.c (.d .bool)),F:=fun p=>qc0 n p }
theorem qt2 (n:Nat):q09 Inv Tryz.prog (jo2 n):=mkF Tryz.func32 [] [] (cc (jhp n) <| cn) (by kernel_rfl) trivial (by intro a;kernel_rfl)
def q8n (n:Nat) (a1:Qq) (a2:Qq):Option Bool :=
 (bif decide (a1.1=a2.1) then (q7y n a1.2 a2.2).bind fun r1=>some (decide (0<r1)) else some false)
def jfx (n:Nat):FC:={ f:=44,args:=[.one (.agg [.d .str,.d (.int .i64),.d (.int .i64),.d (.int .i64),.d .str,.d .str]),.one (.agg [.d .str,.d (.int .i64),.d (.int .i64),.d (.int .i64),.d .str,.d .str])],res:=.one (.c (.d .bool)),F:=fun p=>q8n n p.1 p.2 }
theorem qlf (n:Nat):q09 Inv Tryz.prog (jfx n):=mkF Tryz.func44 [] [] (cc (qlv n) <| cn) (by kernel_rfl) trivial (by intro a;kernel_rfl)
@[reducible] def ja6:SSt:=⟨[(3,.one (.c (.d (.int .i64)))),(6,.one (.c (.d (.lst (.int .i64))))),(7,.one (.c (.d (.int .i64)))),(8,.one (.c (.d (.int .i64))))],[],[]⟩
@[reducible] def qwu:List (Exit×SSt):=[(.ret,⟨[(2,.one (.c (.d (.int .i64))))],[],[]⟩),(.exit 0,⟨[(3,.one (.c (.d (.int .i64))))],[],[]⟩)]
def qfa (n:Nat) (rec:Int->(List Int)->Int->Int->Option Zj) (a1:Int) (a2:List Int) (a3:Int) (a4:Int):Option Zj :=
 (bif decide (a4<a3) then (q0w a2 a4).bind fun x1=>(bif !decide (x1=a1) then some (Sum.inl ((x1,()),((),()))) else q08 (IntKind.wrap .i64 (a4+1)) fun n2=>rec a1 a2 a3 n2) else some (Sum.inr (((a1,()),((),())))))
def qz7 (n:Nat):Stp ja6 qwu:=fun rec p=>qfa n (fun a1 a2 a3 a4=>rec ((a1,(a2,(a3,(a4,())))),((),()))) p.1.1 p.1.2.1 p.1.2.2.1 p.1.2.2.2.1
def q1c (n m:Nat) (a1:Int) (a2:List Int) (a3:Int) (a4:Int):Option Zj:=q0i (qz7 n) m ((a1,(a2,(a3,(a4,())))),((),()))
theorem q4f (n m:Nat) (a1 a2 a3 a4):q1c n (m+1) a1 a2 a3 a4=qfa n (fun a1 a2 a3 a4=>q1c n m a1 a2 a3 a4) a1 a2 a3 a4:=rfl
def qju (n:Nat) (a1:List Int):Option Int :=
 (q1c n n (0:Int) a1 (a1.length:Int) (0:Int)).bind fun o3=>Sum.elim (fun (q4:(Int×Unit)×Unit×Unit)=>some q4.1.1) (fun (q5:(Int×Unit)×Unit×Unit)=>some q5.1.1) o3
def jev (n:Nat):FC:={ f:=74,args:=[.one (.c (.d (.lst (.int .i64))))],res:=.one (.c (.d (.int .i64))),F:=fun p=>qju n p }
theorem jci (n:Nat):q09 Inv Tryz.prog (jev n):=mkF Tryz.func74 [] [q3x qz7 n] (cn) (by kernel_rfl) ⟨ls (by intro rec p;kernel_rfl),trivial⟩ (by intro a;kernel_rfl)
def qo4 (n:Nat) (a1:Qq) (a2:Qq):Option Int :=
 (q6q a1.1 a2.1).bind fun (r1:Int)=>(q7y n a1.2 a2.2).bind fun r2=>(qju n ([r1,r2]:List Int)).bind fun r3=>some r3
def jm3 (n:Nat):FC:={ f:=56,args:=[.one (.agg [.d .str,.d (.int .i64),.d (.int .i64),.d (.int .i64),.d .str,.d .str]),.one (.agg [.d .str,.d (.int .i64),.d (.int .i64),.d (.int .i64),.d .str,.d .str])],res:=.one (.c (.d (.int .i64))),F:=fun p=>qo4 n p.1 p.2 }
def jn7:q1m:=[(1,[⟨196800,32768,0⟩,⟨1605760,2^18,1⟩,⟨12584448,2^21,0⟩,⟨102761472,2^24,4⟩,⟨822345728,2^27,15⟩,⟨6442451136,2^30,0⟩,⟨52613349504,2^33,32⟩,⟨412316861952,2^36,0⟩,⟨3367254361088,2^39,128⟩,⟨3137*2^33,2^42,511⟩,⟨1605633*2^27,5*2^45,1023⟩,⟨53*2^45,2^48,2047⟩,⟨281474976735232,4096,4095⟩])]
theorem je8 (n:Nat):q09 Inv Tryz.prog (jm3 n):=mkF Tryz.func56 jn7 [] (cc (qqm) <| cc (qlv n) <| cc (jci n) <| cn) (by kernel_rfl) trivial (by intro a;kernel_rfl)
def q8v (n:Nat) (a1:Unit) (a2:Qq) (b1:List (Qq×Unit)):Option (Bool×Ze×Unit) :=
 jeg (q0o (.prod .str Tv) a2 b1) () fun (y1:Unit) (hb2:Bool)=>some (hb2,((b1,()),()))
def qfp (n:Nat):FX:={ f:=31,args:=[.one (.c (.mv 1000000)),.one (.agg [.d .str,.d (.int .i64),.d (.int .i64),.d (.int .i64),.d .str,.d .str])],boxes:=[(1000000,(2199023282177,[.d (.lst (.prod (.prod .str Tv) .unit))]))],rows:=[],res:=.one (.c (.d .bool)),oboxes:=[(1000000,(2199023282177,[.d (.lst (.prod (.prod .str Tv) .unit))]))],orows:=[],F:=fun p=>q8v n p.1.1 p.1.2 p.2.1.1 }
theorem qh1 (n:Nat):q88 Inv Tryz.prog (qfp n):=mkX Tryz.func31 [] [] (cn) (by kernel_rfl) trivial (by intro a;kernel_rfl)
def qb6 (n:Nat) (a1:Unit) (a2:Qq) (b1:List (Qq×Unit)):Option (Unit×Ze×Unit) :=
 some ((),((q6x (.prod .str Tv) a2 () b1,()),()))
def qo5 (n:Nat):FX:={ f:=33,args:=[.one (.c (.mv 1000000)),.one (.agg [.d .str,.d (.int .i64),.d (.int .i64),.d (.int .i64),.d .str,.d .str])],boxes:=[(1000000,(2199023282177,[.d (.lst (.prod (.prod .str Tv) .unit))]))],rows:=[],res:=.tup [],oboxes:=[(1000000,(2199023282177,[.d (.lst (.prod (.prod .str Tv) .unit))]))],orows:=[],F:=fun p=>qb6 n p.1.1 p.1.2 p.2.1.1 }
theorem qpx (n:Nat):q88 Inv Tryz.prog (qo5 n):=mkX Tryz.func33 [] [] (cn) (by kernel_rfl) trivial (by intro a;kernel_rfl)
def qur (n:Nat) (a1:Qq) (a2:Unit) (a3:Unit) (b1:List (Qq×Unit)) (b2:List Qq):Option Zi :=
 (q8v n () a1 b1).bind fun r1=>(bif !r1.1 then (qc0 n a1).bind fun r2=>(bif r2 then (qb6 n () a1 r1.2.1.1).bind fun r3=>(q7r 72 b2 ([a1]:List Qq)).bind fun l4=>some ((),(((),((),(r3.2.1.1,()))),(l4,()))) else some ((),(((),((),(r1.2.1.1,()))),(b2,())))) else some ((),(((),((),(r1.2.1.1,()))),(b2,()))))
def j5p (n:Nat):FX:={ f:=30,args:=[.one (.agg [.d .str,.d (.int .i64),.d (.int .i64),.d (.int .i64),.d .str,.d .str]),.one (.c (.box 1000000 0)),.one (.c (.box 1000001 0))],boxes:=[(1000000,(52,[.mv 1000002])),(1000001,(22,[.row 1000003])),(1000002,(2199023282177,[.d (.lst (.prod (.prod .str Tv) .unit))]))],rows:=[(1000003,⟨27,true,(.prod .str Tv)⟩)],res:=.tup [],oboxes:=[(1000000,(52,[.mv 1000002])),(1000001,(22,[.row 1000003])),(1000002,(2199023282177,[.d (.lst (.prod (.prod .str Tv) .unit))]))],orows:=[(1000003,⟨27,true,(.prod .str Tv)⟩)],F:=fun p=>qur n p.1.1 p.1.2.1 p.1.2.2 p.2.1.2.2.1 p.2.2.1 }
theorem jeu (n:Nat):q88 Inv Tryz.prog (j5p n):=mkX Tryz.func30 [] [] (cc (c:=q5g (qfp n) [(1000000,1000002)] []) (fun G hG=>q1g (qh1 n G hG)) <| cc (c:=q5g (qo5 n) [(1000000,1000002)] []) (fun G hG=>q1g (qpx n G hG)) <| cc (qt2 n) <| cn) (by kernel_rfl) trivial (by intro a;kernel_rfl)
@[reducible] def qxu:SSt:=⟨[(1,.one (.c (.fn 30 [1000000,1000001]))),(6,.one (.c (.d (.lst (.prod .str Tv))))),(7,.one (.c (.d (.int .i64)))),(8,.one (.c (.d (.int .i64))))],[(1000000,(52,[.mv 1000002])),(1000001,(22,[.row 1000003])),(1000002,(2199023282177,[.d (.lst (.prod (.prod .str Tv) .unit))]))],[(1000003,⟨27,true,(.prod .str Tv)⟩)]⟩
@[reducible] def qog:List (Exit×SSt):=[(.exit 0,⟨[],[(1000000,(52,[.mv 1000002])),(1000001,(22,[.row 1000003])),(1000002,(2199023282177,[.d (.lst (.prod (.prod .str Tv) .unit))]))],[(1000003,⟨27,true,(.prod .str Tv)⟩)]⟩)]
def qck (n:Nat) (rec:LQ->Int->Int->(List (Qq×Unit))->LQ->Option Zi) (a1:List Qq) (a2:Int) (a3:Int) (a4:List (Qq×Unit)) (a5:List Qq):Option Zi :=
 (bif decide (a3<a2) then (q0w a1 a3).bind fun x1=>(qur n x1 () () a4 a5).bind fun r2=>q08 (IntKind.wrap .i64 (a3+1)) fun n3=>rec a1 a2 n3 r2.2.1.2.2.1 r2.2.2.1 else some (((),(((),((),(a4,()))),(a5,())))))
def qlg (n:Nat):Stp qxu qog:=fun rec p=>qck n (fun a1 a2 a3 a4 a5=>rec (((),(a1,(a2,(a3,())))),(((),((),(a4,()))),(a5,())))) p.1.2.1 p.1.2.2.1 p.1.2.2.2.1 p.2.1.2.2.1 p.2.2.1
def q4v (n m:Nat) (a1:List Qq) (a2:Int) (a3:Int) (a4:List (Qq×Unit)) (a5:List Qq):Option Zi:=q0i (qlg n) m (((),(a1,(a2,(a3,())))),(((),((),(a4,()))),(a5,())))
theorem qcq (n m:Nat) (a1 a2 a3 a4 a5):q4v n (m+1) a1 a2 a3 a4 a5=qck n (fun a1 a2 a3 a4 a5=>q4v n m a1 a2 a3 a4 a5) a1 a2 a3 a4 a5:=rfl
def q32 (n:Nat) (a1:List Qq) (a2:Unit) (b1:List (Qq×Unit)) (b2:List Qq):Option Zi :=
 (q4v n n a1 (a1.length:Int) (0:Int) b1 b2).bind fun o4=>some ((),(((),((),(o4.2.1.2.2.1,()))),(o4.2.2.1,())))
def qmv (n:Nat):FX:={ f:=34,args:=[.one (.c (.d (.lst (.prod .str Tv)))),.one (.c (.fn 30 [1000000,1000001]))],boxes:=[(1000000,(52,[.mv 1000002])),(1000001,(22,[.row 1000003])),(1000002,(2199023282177,[.d (.lst (.prod (.prod .str Tv) .unit))]))],rows:=[(1000003,⟨27,true,(.prod .str Tv)⟩)],res:=.tup [],oboxes:=[(1000000,(52,[.mv 1000002])),(1000001,(22,[.row 1000003])),(1000002,(2199023282177,[.d (.lst (.prod (.prod .str Tv) .unit))]))],orows:=[(1000003,⟨27,true,(.prod .str Tv)⟩)],F:=fun p=>q32 n p.1.1 p.1.2 p.2.1.2.2.1 p.2.2.1 }
theorem qwr (n:Nat):q88 Inv Tryz.prog (qmv n):=mkX Tryz.func34 [] [q3x qlg n] (cc (c:=q5g (j5p n) [(1000000,1000000),(1000001,1000001),(1000002,1000002)] [(1000003,1000003)]) (fun G hG=>q1g (jeu n G hG)) <| cn) (by kernel_rfl) ⟨ls (by intro rec p;kernel_rfl),trivial⟩ (by intro a;kernel_rfl)
@[reducible] def qwx:SSt:=⟨[(5,.one (.c (.mv 14))),(10,.one (.c (.box 10 0))),(12,.one (.c (.fn 30 [11,10]))),(13,.one (.c (.d (.int .i64))))],[(10,(22,[.row 39])),(11,(52,[.mv 35])),(14,(2199023282191,[.d (.lst (.prod (.prod .str Tv) (.prod .str (.prod (.int .i64) (.prod (.int .i64) (.prod (.int .i64) (.prod .str (.prod .str (.lst (.prod .str Tv))))))))))])),(35,(2199023282177,[.d (.lst (.prod (.prod .str Tv) .unit))]))],[(39,⟨27,true,(.prod .str Tv)⟩)]⟩
@[reducible] def qph:List (Exit×SSt):=[(.exit 2,⟨[(10,.one (.c (.box 10 0)))],[(10,(22,[.row 39]))],[(39,⟨27,true,(.prod .str Tv)⟩)]⟩)]
def qcw (n:Nat) (rec:Int->(List (Qq×Zd))->(List (Qq×Unit))->LQ->Option Zl) (a1:Int) (a2:List (Qq×Zd)) (a3:List (Qq×Unit)) (a4:List Qq):Option Zl :=
 (bif decide (a1<(a4.length:Int)) then (q0w a4 a1).bind fun _x8=>(nth a4 (Int.toNat a1)).bind fun (x9:Qq)=>jap (q0o (.prod .str Tv) x9 a2) (fun (y10:Yy×(Int×(Int×(Int×(Yy×(Yy×LQ))))))=>(q32 n y10.2.2.2.2.2.2 () a3 a4).bind fun r12=>q08 (IntKind.wrap .i64 (a1+1)) fun n13=>rec n13 a2 r12.2.1.2.2.1 r12.2.2.1) ((q32 n [] () a3 a4).bind fun r14=>q08 (IntKind.wrap .i64 (a1+1)) fun n15=>rec n15 a2 r14.2.1.2.2.1 r14.2.2.1) else some ((((),()),(((),()),(a4,())))))
def qmn (n:Nat):Stp qwx qph:=fun rec p=>qcw n (fun a1 a2 a3 a4=>rec (((),((),((),(a1,())))),(((),((),(a2,(a3,())))),(a4,())))) p.1.2.2.2.1 p.2.1.2.2.1 p.2.1.2.2.2.1 p.2.2.1
def q3k (n m:Nat) (a1:Int) (a2:List (Qq×Zd)) (a3:List (Qq×Unit)) (a4:List Qq):Option Zl:=q0i (qmn n) m (((),((),((),(a1,())))),(((),((),(a2,(a3,())))),(a4,())))
theorem qcc (n m:Nat) (a1 a2 a3 a4):q3k n (m+1) a1 a2 a3 a4=qcw n (fun a1 a2 a3 a4=>q3k n m a1 a2 a3 a4) a1 a2 a3 a4:=rfl
@[reducible] def qwb:SSt:=⟨[(0,.one (.c (.d (.lst (.prod .str Tv))))),(5,.one (.c (.mv 14))),(15,.one (.c (.d (.lst (.prod .str (.prod (.int .i64) (.prod (.int .i64) (.prod (.int .i64) (.prod .str (.prod .str (.lst (.prod .str Tv)))))))))))),(16,.one (.c (.d (.int .i64)))),(17,.one (.c (.d (.int .i64))))],[(14,(2199023282191,[.d (.lst (.prod (.prod .str Tv) (.prod .str (.prod (.int .i64) (.prod (.int .i64) (.prod (.int .i64) (.prod .str (.prod .str (.lst (.prod .str Tv))))))))))]))],[]⟩
@[reducible] def qon:List (Exit×SSt):=[(.exit 0,⟨[(0,.one (.c (.d (.lst (.prod .str Tv))))),(5,.one (.c (.mv 14)))],[(14,(2199023282191,[.d (.lst (.prod (.prod .str Tv) (.prod .str (.prod (.int .i64) (.prod (.int .i64) (.prod (.int .i64) (.prod .str (.prod .str (.lst (.prod .str Tv))))))))))]))],[]⟩)]
def qd9 (n:Nat) (rec:LQ->(List Zd)->Int->Int->(List (Qq×Zd))->Option Zk) (a1:List Qq) (a2:List Zd) (a3:Int) (a4:Int) (a5:List (Qq×Zd)):Option Zk :=
 (bif decide (a4<a3) then (q0w a2 a4).bind fun x1=>jap (q0o (.prod .str Tv) (x1.1,(x1.2.1,(x1.2.2.1,(x1.2.2.2.1,(x1.2.2.2.2.1,x1.2.2.2.2.2.1))))) a5) (fun (y2:Yy×(Int×(Int×(Int×(Yy×(Yy×LQ))))))=>q08 (IntKind.wrap .i64 (a4+1)) fun n4=>rec a1 a2 a3 n4 a5) (q08 (IntKind.wrap .i64 (a4+1)) fun n5=>rec a1 a2 a3 n5 (q6x (.prod .str Tv) (x1.1,(x1.2.1,(x1.2.2.1,(x1.2.2.2.1,(x1.2.2.2.2.1,x1.2.2.2.2.2.1))))) x1 a5)) else some (((a1,((),())),((a5,()),()))))
def qo2 (n:Nat):Stp qwb qon:=fun rec p=>qd9 n (fun a1 a2 a3 a4 a5=>rec ((a1,((),(a2,(a3,(a4,()))))),((a5,()),()))) p.1.1 p.1.2.2.1 p.1.2.2.2.1 p.1.2.2.2.2.1 p.2.1.1
def q4l (n m:Nat) (a1:List Qq) (a2:List Zd) (a3:Int) (a4:Int) (a5:List (Qq×Zd)):Option Zk:=q0i (qo2 n) m ((a1,((),(a2,(a3,(a4,()))))),((a5,()),()))
theorem qdm (n m:Nat) (a1 a2 a3 a4 a5):q4l n (m+1) a1 a2 a3 a4 a5=qd9 n (fun a1 a2 a3 a4 a5=>q4l n m a1 a2 a3 a4 a5) a1 a2 a3 a4 a5:=rfl
def q1n (n:Nat) (a1:List Qq) (a2:List Zd):Option LQ :=
 (q4l n n a1 a2 (a2.length:Int) (0:Int) ([]:List (Qq×Zd))).bind fun o6=>(q32 n o6.1.1 () ([]:List (Qq×Unit)) []).bind fun r7=>(q3k n n (0:Int) o6.2.1.1 r7.2.1.2.2.1 r7.2.2.1).bind fun o16=>some o16.2.2.1
def j3l (n:Nat):FC:={ f:=15,args:=[.one (.c (.d (.lst (.prod .str Tv)))),.one (.c (.d (.lst (.prod .str (.prod (.int .i64) (.prod (.int .i64) (.prod (.int .i64) (.prod .str (.prod .str (.lst (.prod .str Tv)))))))))))],res:=.one (.c (.d (.lst (.prod .str Tv)))),F:=fun p=>q1n n p.1 p.2 }
theorem q4e (n:Nat):q09 Inv Tryz.prog (j3l n):=mkF Tryz.func15 [] [q3x qo2 n,q3x qmn n] (cc (c:=q5g (qmv n) [(1000000,11),(1000001,10),(1000002,35)] [(1000003,39)]) (fun G hG=>q1g (qwr n G hG)) <| cn) (by kernel_rfl) ⟨ls (by intro rec p;kernel_rfl),ls (by intro rec p;kernel_rfl),trivial⟩ (by intro a;kernel_rfl)
def qjx (n:Nat) (a1:Unit) (a2:Qq) (b1:List (Yy×Qq)):Option Zh :=
 jeg (j1y a2.1 b1) (([]:Yy),((0:Int),((0:Int),((0:Int),(([]:Yy),([]:Yy)))))) fun (y1:Qq) (hb2:Bool)=>(bif !hb2 then some ((),((jk9 a2.1 a2 b1,()),())) else (q8n n a2 y1).bind fun r3=>(bif r3 then some ((),((jk9 a2.1 a2 b1,()),())) else some ((),((b1,()),()))))
def qw7 (n:Nat):FX:={ f:=37,args:=[.one (.c (.mv 1000000)),.one (.agg [.d .str,.d (.int .i64),.d (.int .i64),.d (.int .i64),.d .str,.d .str])],boxes:=[(1000000,(2199023259661,[.d (.lst (.prod .str (.prod .str Tv)))]))],rows:=[],res:=.tup [],oboxes:=[(1000000,(2199023259661,[.d (.lst (.prod .str (.prod .str Tv)))]))],orows:=[],F:=fun p=>qjx n p.1.1 p.1.2 p.2.1.1 }
theorem j9k (n:Nat):q88 Inv Tryz.prog (qw7 n):=mkX Tryz.func37 [] [] (cc (qlf n) <| cn) (by kernel_rfl) trivial (by intro a;kernel_rfl)
@[reducible] def qvy:SSt:=⟨[(1,.one (.c (.fn 2199023255589 [1000000]))),(6,.one (.c (.d (.lst (.prod .str Tv))))),(7,.one (.c (.d (.int .i64)))),(8,.one (.c (.d (.int .i64))))],[(1000000,(2199023259661,[.d (.lst (.prod .str (.prod .str Tv)))]))],[]⟩
@[reducible] def qpi:List (Exit×SSt):=[(.exit 0,⟨[],[(1000000,(2199023259661,[.d (.lst (.prod .str (.prod .str Tv)))]))],[]⟩)]
def qde (n:Nat) (rec:LQ->Int->Int->(List (Yy×Qq))->Option Zh) (a1:List Qq) (a2:Int) (a3:Int) (a4:List (Yy×Qq)):Option Zh :=
 (bif decide (a3<a2) then (q0w a1 a3).bind fun x1=>(qjx n () x1 a4).bind fun r2=>q08 (IntKind.wrap .i64 (a3+1)) fun n3=>rec a1 a2 n3 r2.2.1.1 else some (((),((a4,()),()))))
def qk3 (n:Nat):Stp qvy qpi:=fun rec p=>qde n (fun a1 a2 a3 a4=>rec (((),(a1,(a2,(a3,())))),((a4,()),()))) p.1.2.1 p.1.2.2.1 p.1.2.2.2.1 p.2.1.1
def q4o (n m:Nat) (a1:List Qq) (a2:Int) (a3:Int) (a4:List (Yy×Qq)):Option Zh:=q0i (qk3 n) m (((),(a1,(a2,(a3,())))),((a4,()),()))
theorem qdj (n m:Nat) (a1 a2 a3 a4):q4o n (m+1) a1 a2 a3 a4=qde n (fun a1 a2 a3 a4=>q4o n m a1 a2 a3 a4) a1 a2 a3 a4:=rfl
def qbe (n:Nat) (a1:List Qq) (a2:Unit) (b1:List (Yy×Qq)):Option Zh :=
 (q4o n n a1 (a1.length:Int) (0:Int) b1).bind fun o4=>some ((),((o4.2.1.1,()),()))
def qku (n:Nat):FX:={ f:=34,args:=[.one (.c (.d (.lst (.prod .str Tv)))),.one (.c (.fn 2199023255589 [1000000]))],boxes:=[(1000000,(2199023259661,[.d (.lst (.prod .str (.prod .str Tv)))]))],rows:=[],res:=.tup [],oboxes:=[(1000000,(2199023259661,[.d (.lst (.prod .str (.prod .str Tv)))]))],orows:=[],F:=fun p=>qbe n p.1.1 p.1.2 p.2.1.1 }
theorem qyo (n:Nat):q88 Inv Tryz.prog (qku n):=mkX Tryz.func34 [] [q3x qk3 n] (cc (c:=q5g (qw7 n) [(1000000,1000000)] []) (fun G hG=>q1g (j9k n G hG)) <| cn) (by kernel_rfl) ⟨ls (by intro rec p;kernel_rfl),trivial⟩ (by intro a;kernel_rfl)
@[reducible] def j08:SSt:=⟨[(1,.one (.c (.fn 2199023255585 [1000000]))),(6,.one (.c (.d (.lst (.prod .str Tv))))),(7,.one (.c (.d (.int .i64)))),(8,.one (.c (.d (.int .i64))))],[(1000000,(2199023282177,[.d (.lst (.prod (.prod .str Tv) .unit))]))],[]⟩
@[reducible] def qtl:List (Exit×SSt):=[(.exit 0,⟨[],[(1000000,(2199023282177,[.d (.lst (.prod (.prod .str Tv) .unit))]))],[]⟩)]
def qgj (n:Nat) (rec:LQ->Int->Int->(List (Qq×Unit))->Option (Unit×Ze×Unit)) (a1:List Qq) (a2:Int) (a3:Int) (a4:List (Qq×Unit)):Option (Unit×Ze×Unit) :=
 (bif decide (a3<a2) then (q0w a1 a3).bind fun x1=>(qb6 n () x1 a4).bind fun r2=>q08 (IntKind.wrap .i64 (a3+1)) fun n3=>rec a1 a2 n3 r2.2.1.1 else some (((),((a4,()),()))))
def qqo (n:Nat):Stp j08 qtl:=fun rec p=>qgj n (fun a1 a2 a3 a4=>rec (((),(a1,(a2,(a3,())))),((a4,()),()))) p.1.2.1 p.1.2.2.1 p.1.2.2.2.1 p.2.1.1
def q5z (n m:Nat) (a1:List Qq) (a2:Int) (a3:Int) (a4:List (Qq×Unit)):Option (Unit×Ze×Unit):=q0i (qqo n) m (((),(a1,(a2,(a3,())))),((a4,()),()))
theorem qfd (n m:Nat) (a1 a2 a3 a4):q5z n (m+1) a1 a2 a3 a4=qgj n (fun a1 a2 a3 a4=>q5z n m a1 a2 a3 a4) a1 a2 a3 a4:=rfl
def qei (n:Nat) (a1:List Qq) (a2:Unit) (b1:List (Qq×Unit)):Option (Unit×Ze×Unit) :=
 (q5z n n a1 (a1.length:Int) (0:Int) b1).bind fun o4=>some ((),((o4.2.1.1,()),()))
def qq2 (n:Nat):FX:={ f:=34,args:=[.one (.c (.d (.lst (.prod .str Tv)))),.one (.c (.fn 2199023255585 [1000000]))],boxes:=[(1000000,(2199023282177,[.d (.lst (.prod (.prod .str Tv) .unit))]))],rows:=[],res:=.tup [],oboxes:=[(1000000,(2199023282177,[.d (.lst (.prod (.prod .str Tv) .unit))]))],orows:=[],F:=fun p=>qei n p.1.1 p.1.2 p.2.1.1 }
theorem j30 (n:Nat):q88 Inv Tryz.prog (qq2 n):=mkX Tryz.func34 [] [q3x qqo n] (cc (c:=q5g (qo5 n) [(1000000,1000000)] []) (fun G hG=>q1g (qpx n G hG)) <| cn) (by kernel_rfl) ⟨ls (by intro rec p;kernel_rfl),trivial⟩ (by intro a;kernel_rfl)
def qcl (n:Nat) (a1:Qq) (a2:Unit) (a3:Unit) (b1:Yy) (b2:Int) (b3:Int) (b4:Int) (b5:Yy) (b6:Yy) (b7:List Qq):Option Zf :=
 (q8n n a1 (b1,(b2,(b3,(b4,(b5,b6)))))).bind fun r1=>(bif r1 then (q7r 72 b7 ([a1]:List Qq)).bind fun l2=>some ((),(((b1,(b2,(b3,(b4,(b5,b6))))),((),())),(l2,()))) else some ((),(((b1,(b2,(b3,(b4,(b5,b6))))),((),())),(b7,()))))
def qu5 (n:Nat):FX:={ f:=58,args:=[.one (.agg [.d .str,.d (.int .i64),.d (.int .i64),.d (.int .i64),.d .str,.d .str]),.one (.c (.box 1000000 0)),.one (.c (.box 1000001 0))],boxes:=[(1000000,(27,[.d .str,.d (.int .i64),.d (.int .i64),.d (.int .i64),.d .str,.d .str])),(1000001,(22,[.row 1000003]))],rows:=[(1000003,⟨27,true,(.prod .str Tv)⟩)],res:=.tup [],oboxes:=[(1000000,(27,[.d .str,.d (.int .i64),.d (.int .i64),.d (.int .i64),.d .str,.d .str])),(1000001,(22,[.row 1000003]))],orows:=[(1000003,⟨27,true,(.prod .str Tv)⟩)],F:=fun p=>qcl n p.1.1 p.1.2.1 p.1.2.2 p.2.1.1.1 p.2.1.1.2.1 p.2.1.1.2.2.1 p.2.1.1.2.2.2.1 p.2.1.1.2.2.2.2.1 p.2.1.1.2.2.2.2.2 p.2.2.1 }
theorem qyl (n:Nat):q88 Inv Tryz.prog (qu5 n):=mkX Tryz.func58 [] [] (cc (qlf n) <| cn) (by kernel_rfl) trivial (by intro a;kernel_rfl)
@[reducible] def qwy:SSt:=⟨[(1,.one (.c (.fn 58 [1000000,1000001]))),(6,.one (.c (.d (.lst (.prod .str Tv))))),(7,.one (.c (.d (.int .i64)))),(8,.one (.c (.d (.int .i64))))],[(1000000,(27,[.d .str,.d (.int .i64),.d (.int .i64),.d (.int .i64),.d .str,.d .str])),(1000001,(22,[.row 1000003]))],[(1000003,⟨27,true,(.prod .str Tv)⟩)]⟩
@[reducible] def qp9:List (Exit×SSt):=[(.exit 0,⟨[],[(1000000,(27,[.d .str,.d (.int .i64),.d (.int .i64),.d (.int .i64),.d .str,.d .str])),(1000001,(22,[.row 1000003]))],[(1000003,⟨27,true,(.prod .str Tv)⟩)]⟩)]
def qcf (n:Nat) (rec:LQ->Int->Int->Yy->Int->Int->Int->Yy->Yy->LQ->Option Zf) (a1:List Qq) (a2:Int) (a3:Int) (a4:Yy) (a5:Int) (a6:Int) (a7:Int) (a8:Yy) (a9:Yy) (a10:List Qq):Option Zf :=
 (bif decide (a3<a2) then (q0w a1 a3).bind fun x1=>(qcl n x1 () () a4 a5 a6 a7 a8 a9 a10).bind fun r2=>q08 (IntKind.wrap .i64 (a3+1)) fun n3=>rec a1 a2 n3 r2.2.1.1.1 r2.2.1.1.2.1 r2.2.1.1.2.2.1 r2.2.1.1.2.2.2.1 r2.2.1.1.2.2.2.2.1 r2.2.1.1.2.2.2.2.2 r2.2.2.1 else some (((),(((a4,(a5,(a6,(a7,(a8,a9))))),((),())),(a10,())))))
def qn1 (n:Nat):Stp qwy qp9:=fun rec p=>qcf n (fun a1 a2 a3 a4 a5 a6 a7 a8 a9 a10=>rec (((),(a1,(a2,(a3,())))),(((a4,(a5,(a6,(a7,(a8,a9))))),((),())),(a10,())))) p.1.2.1 p.1.2.2.1 p.1.2.2.2.1 p.2.1.1.1 p.2.1.1.2.1 p.2.1.1.2.2.1 p.2.1.1.2.2.2.1 p.2.1.1.2.2.2.2.1 p.2.1.1.2.2.2.2.2 p.2.2.1
def q4u (n m:Nat) (a1:List Qq) (a2:Int) (a3:Int) (a4:Yy) (a5:Int) (a6:Int) (a7:Int) (a8:Yy) (a9:Yy) (a10:List Qq):Option Zf:=q0i (qn1 n) m (((),(a1,(a2,(a3,())))),(((a4,(a5,(a6,(a7,(a8,a9))))),((),())),(a10,())))
theorem qc4 (n m:Nat) (a1 a2 a3 a4 a5 a6 a7 a8 a9 a10):q4u n (m+1) a1 a2 a3 a4 a5 a6 a7 a8 a9 a10=qcf n (fun a1 a2 a3 a4 a5 a6 a7 a8 a9 a10=>q4u n m a1 a2 a3 a4 a5 a6 a7 a8 a9 a10) a1 a2 a3 a4 a5 a6 a7 a8 a9 a10:=rfl
def q62 (n:Nat) (a1:List Qq) (a2:Unit) (b1:Yy) (b2:Int) (b3:Int) (b4:Int) (b5:Yy) (b6:Yy) (b7:List Qq):Option Zf :=
 (q4u n n a1 (a1.length:Int) (0:Int) b1 b2 b3 b4 b5 b6 b7).bind fun o4=>some ((),((o4.2.1.1,((),())),(o4.2.2.1,())))
def qn5 (n:Nat):FX:={ f:=34,args:=[.one (.c (.d (.lst (.prod .str Tv)))),.one (.c (.fn 58 [1000000,1000001]))],boxes:=[(1000000,(27,[.d .str,.d (.int .i64),.d (.int .i64),.d (.int .i64),.d .str,.d .str])),(1000001,(22,[.row 1000003]))],rows:=[(1000003,⟨27,true,(.prod .str Tv)⟩)],res:=.tup [],oboxes:=[(1000000,(27,[.d .str,.d (.int .i64),.d (.int .i64),.d (.int .i64),.d .str,.d .str])),(1000001,(22,[.row 1000003]))],orows:=[(1000003,⟨27,true,(.prod .str Tv)⟩)],F:=fun p=>q62 n p.1.1 p.1.2 p.2.1.1.1 p.2.1.1.2.1 p.2.1.1.2.2.1 p.2.1.1.2.2.2.1 p.2.1.1.2.2.2.2.1 p.2.1.1.2.2.2.2.2 p.2.2.1 }
theorem qzl (n:Nat):q88 Inv Tryz.prog (qn5 n):=mkX Tryz.func34 [] [q3x qn1 n] (cc (c:=q5g (qu5 n) [(1000000,1000000),(1000001,1000001)] [(1000003,1000003)]) (fun G hG=>q1g (qyl n G hG)) <| cn) (by kernel_rfl) ⟨ls (by intro rec p;kernel_rfl),trivial⟩ (by intro a;kernel_rfl)
def qcr (n:Nat) (a1:Qq) (a2:Unit) (b1:Yy) (b2:Int) (b3:Int) (b4:Int) (b5:Yy) (b6:Yy):Option (Bool×(Qq×Unit)×Unit) :=
 some (decide (a1.1=b1),(((b1,(b2,(b3,(b4,(b5,b6))))),()),()))
def qi2 (n:Nat):FX:={ f:=43,args:=[.one (.agg [.d .str,.d (.int .i64),.d (.int .i64),.d (.int .i64),.d .str,.d .str]),.one (.c (.box 1000000 0))],boxes:=[(1000000,(27,[.d .str,.d (.int .i64),.d (.int .i64),.d (.int .i64),.d .str,.d .str]))],rows:=[],res:=.one (.c (.d .bool)),oboxes:=[(1000000,(27,[.d .str,.d (.int .i64),.d (.int .i64),.d (.int .i64),.d .str,.d .str]))],orows:=[],F:=fun p=>qcr n p.1.1 p.1.2 p.2.1.1.1 p.2.1.1.2.1 p.2.1.1.2.2.1 p.2.1.1.2.2.2.1 p.2.1.1.2.2.2.2.1 p.2.1.1.2.2.2.2.2 }
theorem qsw (n:Nat):q88 Inv Tryz.prog (qi2 n):=mkX Tryz.func43 [] [] (cn) (by kernel_rfl) trivial (by intro a;kernel_rfl)
@[reducible] def j8z:SSt:=⟨[(0,.one (.c (.row 2000000))),(1,.one (.c (.fn 43 [1000000]))),(7,.one (.c (.d (.int .i64)))),(8,.one (.c (.d (.int .i64))))],[(1000000,(27,[.d .str,.d (.int .i64),.d (.int .i64),.d (.int .i64),.d .str,.d .str]))],[(2000000,⟨27,true,(.prod .str Tv)⟩)]⟩
@[reducible] def qyd:List (Exit×SSt):=[(.ret,⟨[(4,.one (.c (.d (.int .i64))))],[(1000000,(27,[.d .str,.d (.int .i64),.d (.int .i64),.d (.int .i64),.d .str,.d .str]))],[(2000000,⟨27,true,(.prod .str Tv)⟩)]⟩),(.exit 0,⟨[],[(1000000,(27,[.d .str,.d (.int .i64),.d (.int .i64),.d (.int .i64),.d .str,.d .str]))],[(2000000,⟨27,true,(.prod .str Tv)⟩)]⟩)]
def qmj (n:Nat) (rec:Int->Int->Yy->Int->Int->Int->Yy->Yy->LQ->Option Zg) (a1:Int) (a2:Int) (a3:Yy) (a4:Int) (a5:Int) (a6:Int) (a7:Yy) (a8:Yy) (a9:List Qq):Option Zg :=
 (bif decide (a2<a1) then (q0w a9 a2).bind fun _x1=>(nth a9 (Int.toNat a2)).bind fun (x2:Qq)=>(qcr n x2 () a3 a4 a5 a6 a7 a8).bind fun r3=>(bif r3.1 then some (Sum.inl ((a2,()),((r3.2.1.1,()),(a9,())))) else q08 (IntKind.wrap .i64 (a2+1)) fun n4=>rec a1 n4 r3.2.1.1.1 r3.2.1.1.2.1 r3.2.1.1.2.2.1 r3.2.1.1.2.2.2.1 r3.2.1.1.2.2.2.2.1 r3.2.1.1.2.2.2.2.2 a9) else some (Sum.inr (((),(((a3,(a4,(a5,(a6,(a7,a8))))),()),(a9,()))))))
def qw5 (n:Nat):Stp j8z qyd:=fun rec p=>qmj n (fun a1 a2 a3 a4 a5 a6 a7 a8 a9=>rec (((),((),(a1,(a2,())))),(((a3,(a4,(a5,(a6,(a7,a8))))),()),(a9,())))) p.1.2.2.1 p.1.2.2.2.1 p.2.1.1.1 p.2.1.1.2.1 p.2.1.1.2.2.1 p.2.1.1.2.2.2.1 p.2.1.1.2.2.2.2.1 p.2.1.1.2.2.2.2.2 p.2.2.1
def q7g (n m:Nat) (a1:Int) (a2:Int) (a3:Yy) (a4:Int) (a5:Int) (a6:Int) (a7:Yy) (a8:Yy) (a9:List Qq):Option Zg:=q0i (qw5 n) m (((),((),(a1,(a2,())))),(((a3,(a4,(a5,(a6,(a7,a8))))),()),(a9,())))
theorem qgk (n m:Nat) (a1 a2 a3 a4 a5 a6 a7 a8 a9):q7g n (m+1) a1 a2 a3 a4 a5 a6 a7 a8 a9=qmj n (fun a1 a2 a3 a4 a5 a6 a7 a8 a9=>q7g n m a1 a2 a3 a4 a5 a6 a7 a8 a9) a1 a2 a3 a4 a5 a6 a7 a8 a9:=rfl
def qfk (n:Nat) (a1:Unit) (a2:Unit) (b1:Yy) (b2:Int) (b3:Int) (b4:Int) (b5:Yy) (b6:Yy) (b7:List Qq):Option (Int×(Qq×Unit)×(LQ×Unit)) :=
 (q7g n n (b7.length:Int) (0:Int) b1 b2 b3 b4 b5 b6 b7).bind fun o5=>Sum.elim (fun (q6:(Int×Unit)×(Qq×Unit)×(LQ×Unit))=>some (q6.1.1,((q6.2.1.1,()),(q6.2.2.1,())))) (fun (q7:(Unit)×(Qq×Unit)×(LQ×Unit))=>some ((-1:Int),((q7.2.1.1,()),(q7.2.2.1,())))) o5
def qxp (n:Nat):FX:={ f:=42,args:=[.one (.c (.row 2000000)),.one (.c (.fn 43 [1000000]))],boxes:=[(1000000,(27,[.d .str,.d (.int .i64),.d (.int .i64),.d (.int .i64),.d .str,.d .str]))],rows:=[(2000000,⟨27,true,(.prod .str Tv)⟩)],res:=.one (.c (.d (.int .i64))),oboxes:=[(1000000,(27,[.d .str,.d (.int .i64),.d (.int .i64),.d (.int .i64),.d .str,.d .str]))],orows:=[(2000000,⟨27,true,(.prod .str Tv)⟩)],F:=fun p=>qfk n p.1.1 p.1.2 p.2.1.1.1 p.2.1.1.2.1 p.2.1.1.2.2.1 p.2.1.1.2.2.2.1 p.2.1.1.2.2.2.2.1 p.2.1.1.2.2.2.2.2 p.2.2.1 }
theorem j8m (n:Nat):q88 Inv Tryz.prog (qxp n):=mkX Tryz.func42 [] [q3x qw5 n] (cc (c:=q5g (qi2 n) [(1000000,1000000)] []) (fun G hG=>q1g (qsw n G hG)) <| cn) (by kernel_rfl) ⟨ls (by intro rec p;kernel_rfl),trivial⟩ (by intro a;kernel_rfl)
end Go.Proofs.YtlkpgcifpnppeaaGreatDoor.AM
namespace Go.Proofs
open Go.RowKit Go.Lib
namespace YtlkpgcifpnppeaaGreatDoor.AM
structure CvT (T:Ty) (cv:den T->List Value):Prop where
 dat : ∀x,q01 T x=(cv x).map Dat.v
 one : ∀x,∀u∈cv x,u.oneCell'=true
 pos:0<width T
variable {T:Ty} {cv:den T->List Value}
theorem CvT.len (h:CvT T cv) (x:den T):(cv x).length=width T:=by
 have:=congrArg List.length (h.dat x)
 rw [q0c,List.length_map] at this
 exact this.symm
def cvs (cv:den T->List Value) (l:List (den T)):List Value:=l.flatMap cv
theorem q97 (x:den T) (l:List (den T)):cvs cv (x::l)=cv x++cvs cv l:=by unfold cvs;rw [List.flatMap_cons]
theorem qu6 (l m:List (den T)):cvs cv (l++m)=cvs cv l++cvs cv m:=by unfold cvs;rw [List.flatMap_append]
theorem CvT.lens (h:CvT T cv) : ∀l:List (den T),(cvs cv l).length=l.length*width T
 | []=>by unfold cvs;simp
 | x::l=>by rw [q97,List.length_append,h.len,h.lens l,List.length_cons,Nat.add_mul];omega
theorem CvT.ones (h:CvT T cv) : ∀l:List (den T),∀u∈cvs cv l,u.oneCell'=true
 | [],u,hu=>by unfold cvs at hu;simp at hu
 | x::l,u,hu=>by
  rw [q97] at hu
  rcases List.mem_append.1 hu with hu|hu
  ·exact h.one x u hu
  ·exact h.ones l u hu
theorem CvT.get (h:CvT T cv) : ∀(l:List (den T)) (k j:Nat) (hk:k<l.length),j<width T->(cvs cv l)[k*width T+j]? = (cv l[k])[j]?
 | [],k,j,hk,_=>by simp at hk
 | x::l,0,j,hk,hj=>by
  rw [q97,Nat.zero_mul,Nat.zero_add,List.getElem?_append_left (by rw [h.len];exact hj)];rfl
 | x::l,k+1,j,hk,hj=>by
  have e1:(k+1)*width T+j=width T+(k*width T+j):=by rw [Nat.add_mul];omega
  rw [q97,e1,List.getElem?_append_right (by rw [h.len];omega),h.len,Nat.add_sub_cancel_left,h.get l k j (by simpa using hk) hj]
  rfl
theorem jem {Pc:Nat->Nat->Prop} {w:World} : ∀l:List Value,q0b (DatRep Pc w) l (l.map Dat.v)
 | []=>trivial
 | x::l=>⟨.v x,jem l⟩
theorem CvT.reps (h:CvT T cv) {Pc:Nat->Nat->Prop} {w:World} : ∀l:List (den T),q0b (DatRep Pc w) (cvs cv l) (l.map (q01 T)).flatten
 | []=>by unfold cvs;exact trivial
 | x::l=>by
  rw [q97,List.map_cons,List.flatten_cons,h.dat]
  exact (jem (cv x)).append (h.reps l)
theorem CvT.cells (h:CvT T cv) {Pc:Nat->Nat->Prop} {w:World} {v:Value} {l:List (den T)} (hd:DatRep Pc w v (.lst (width T) (l.map (q01 T)))) :
  ∃ a cap b off,v = .slice a l.length cap/\l.length<=cap/\cap<=maxLen/\(0<l.length->a=some ⟨b,off,none⟩)/\∀j u,(cvs cv l)[j]? = some u->Pc b (off+j)/\w.cell? ⟨b,off+j,none⟩=some u:=by
 obtain ⟨a,n,cap,b,off,c,rfl,hn,hcap,hmax,hsz,ha,hc,hr⟩ : ∃ (a:Option Addr) (n cap b off:Nat) (c:Nat->Nat->Value),v = .slice a n cap/\n=(l.map (q01 T)).length/\n<=cap/\cap<=maxLen/\(∀x∈l.map (q01 T),x.length=width T)/\(0<(l.map (q01 T)).length->a=some ⟨b,off,none⟩) /\
   (∀k j,k<(l.map (q01 T)).length->j<width T->Pc b (off+k*width T+j)/\w.cell? ⟨b,off+k*width T+j,none⟩=some (c k j)/\(c k j).oneCell'=true) /\
   (∀(k j:Nat) (hk:k<(l.map (q01 T)).length) (hj:j<((l.map (q01 T))[k]).length),DatRep Pc w (c k j) (((l.map (q01 T))[k])[j])):=by
  generalize hL:l.map (q01 T)=L at hd
  generalize hW:width T=W at hd
  cases hd with
  | lst a n cap sz xs b off c hn hcap hmax hsz ha hc hr=>exact ⟨a,n,cap,b,off,c,rfl,hn,hcap,hmax,hsz,ha,hc,hr⟩
 rw [List.length_map] at hn ha hc
 subst hn
 refine ⟨a,cap,b,off,rfl,hcap,hmax,ha,fun j u hu=>?_⟩
 have hjl:j<(cvs cv l).length:=(List.getElem?_eq_some_iff.1 hu).1
 rw [h.lens] at hjl
 have hp:=h.pos
 have hk:j / width T<l.length:=by rw [Nat.div_lt_iff_lt_mul hp];exact hjl
 have hm:j % width T<width T:=Nat.mod_lt _ hp
 have ej:j / width T*width T+j % width T=j:=by rw [Nat.mul_comm];exact Nat.div_add_mod j _
 obtain ⟨g1,g2,_⟩:=hc (j / width T) (j % width T) hk hm
 rw [Nat.add_assoc,ej] at g1 g2
 have hrep:=hr (j / width T) (j % width T) (by rw [List.length_map];exact hk) (by rw [List.getElem_map,q0c];exact hm)
 simp only [List.getElem_map,h.dat] at hrep
 have hg:=h.get l (j / width T) (j % width T) hk hm
 rw [ej,hu] at hg
 have hlt:j % width T<(cv l[j / width T]).length:=by rw [h.len];exact hm
 rw [List.getElem?_eq_getElem hlt] at hg
 have e9:c (j / width T) (j % width T)=(cv l[j / width T])[j % width T]:=by
  generalize c (j / width T) (j % width T)=y at hrep
  cases hrep with
  | v x=>rfl
 refine ⟨g1,?_⟩
 rw [g2,e9]
 exact hg.symm
theorem CvT.own (h:CvT T cv) {w:World} {B E:Nat} {v:Value} {l:List (den T)} {Pc:Nat->Nat->Prop} (ho:w.ownsRow B E (width T) v l.length (cvs cv l)) (hP : ∀b o,v.ownBlock=some b->o<l.length*width T->Pc b o):DatRep Pc w v (.lst (width T) (l.map (q01 T))):=by
 rcases ho.2 with ⟨rfl,h0⟩|⟨g,cap,cur,rfl,hb,hg,hn,hc,hs,ht⟩
 ·have:l = []:=List.eq_nil_of_length_eq_zero h0
  subst this
  exact DatRep.lst none 0 0 (width T) [] 0 0 (fun _ _=>undef) rfl (Nat.le_refl _) (by unfold maxLen;omega) (fun x hx=>by cases hx) (fun h=>by cases h) (fun k j hk=>by cases hk) (fun k j hk=>by cases hk)
 ·refine DatRep.lst (some ⟨g,0,none⟩) l.length cap (width T) _ g 0 (fun k j=>(cvs cv l)[k*width T+j]?.getD undef) (by simp) hn hc (fun x hx=>by obtain ⟨f,_,rfl⟩:=List.mem_map.1 hx;exact q0c T f) (fun _=>rfl) (fun k j hk hj=>?_) (fun k j hk hj=>?_)
  ·have hk':k<l.length:=by simpa using hk
   have hlt2:k*width T+j<l.length*width T:=by
    have:(k+1)*width T<=l.length*width T:=Nat.mul_le_mul_right _ hk'
    rw [Nat.add_mul] at this;omega
   have hlt:k*width T+j<(cvs cv l).length:=by rw [h.lens];exact hlt2
   refine ⟨by rw [Nat.zero_add];exact hP g _ rfl hlt2,?_,?_⟩
   ·rw [cell_of_row w g _ cur _ _ hg,List.getElem?_eq_getElem hlt]
    have:cur.toList[k*width T+j]? = some (cvs cv l)[k*width T+j]:=by
     have e2:cur.toList[k*width T+j]? = (cur.toList.take (l.length*width T))[k*width T+j]?:=by rw [List.getElem?_take,if_pos hlt2]
     rw [e2,ht,List.getElem?_eq_getElem hlt]
    rw [Nat.zero_add]
    simpa using this
   ·rw [List.getElem?_eq_getElem hlt];exact h.ones l _ (List.getElem_mem hlt)
  ·have hk':k<l.length:=by simpa using hk
   have hj2:j<width T:=by rw [List.getElem_map,q0c] at hj;exact hj
   simp only [List.getElem_map,h.dat]
   have hlt:j<(cv l[k]).length:=by rw [h.len];exact hj2
   rw [h.get l k j hk' hj2,List.getElem?_eq_getElem hlt]
   exact .v _
theorem jct {F:Fr} {e:Env} {w w':World} {E:Nat} {T:Ty} {l:List (den T)} {v:Value} {cells:List Value} (hE:E<1099511627776) (hp:Hp F q7p e w) (hb:Below w.heap.size w w') (hown:w'.ownsRow w.heap.size E (width T) v l.length cells)
  (hl : ∀x∈l,(q01 T x).length=width T) (hd:q0b (DatRep e.Pc w') cells (l.map (q01 T)).flatten) (h1 : ∀u∈cells,u.oneCell'=true) (hsl : ∃ a n c,v = .slice a n c) :
  ∃ e',Hp F (eS ⟨[],[],[(1000000,⟨0,E,true,T,l⟩)]⟩) e' w'/\q1l e' (eS ⟨[],[],[(1000000,⟨0,E,true,T,l⟩)]⟩) w' v (.one (.c (.row 1000000 0))):=by
 obtain ⟨_,h⟩:=hp.grow hb
 have hrow : ∀t r,(eS ⟨[],[],[(1000000,⟨0,E,true,T,l⟩)]⟩).row t=some r->t=1000000/\r=⟨0,E,width T,true,l.map (q01 T)⟩:=fun t r hr=>by
  have hr':(lk [(1000000,(⟨0,E,true,T,l⟩:TRow))] t).map eR=some r:=hr
  rw [q0f] at hr'
  split at hr'
  ·rename_i ht
   exact ⟨ht,(Option.some.inj hr').symm⟩
  ·cases hr'
 have hbox : ∀β,¬ ((eS ⟨[],[],[(1000000,(⟨0,E,true,T,l⟩:TRow))]⟩).box β).isSome=true:=fun β hβ=>by
  have:((lk ([]:List (Nat×(Nat×List TC))) β).map eB).isSome=true:=hβ
  cases this
 have hrv : ∀r:Row,r.gen=0->qh8 e.rv 1000000 0 v 1000000 r.gen=v:=fun r hr=>by rw [hr];exact q0t _ _ _ _
 have hge : ∀b,v.ownBlock=some b->w.heap.size<=b:=fun b hvb=>by
  rcases hown.2 with ⟨rfl,_⟩|⟨g,cap,cur,rfl,hg,_⟩
  ·cases hvb
  ·obtain rfl:g=b:=by simpa [Value.ownBlock] using hvb
   exact hg
 have hnk : ∀b,v.ownBlock=some b->¬ F.K b:=fun b hvb hk=>absurd (Nat.lt_of_lt_of_le (F.kLt b hk) hp.kp.wkLe) (by have:=hge b hvb;omega)
 have hown':q6v w' F.w0.heap.size E (width T) v l.length cells:=by
  have h2:=(q2c hE).2 hown
  refine ⟨h2.1,?_⟩
  rcases h2.2 with h3|⟨g,cap,cur,h3,h4,h5⟩
  ·exact .inl h3
  ·exact .inr ⟨g,cap,cur,h3,Nat.le_trans hp.sizeLe h4,h5⟩
 refine ⟨{ e with rv:=qh8 e.rv 1000000 0 v },⟨h.below,h.pc0,h.pcNew,h.pcLt,fun β T' cs hx=>absurd (isSome_some hx) (hbox β),fun β hβ=>absurd hβ (hbox β),fun β β' hβ=>absurd hβ (hbox β),fun t r hr=>?_,fun t r b hr hw=>?_,fun t r b hr hvb o hpc=>?_,fun t r b β hr hvb hβ=>absurd hβ (hbox β),fun t t' r r' b hn hr hr'=>?_,
  ⟨h.kp.keep,h.kp.wkLe,fun β hβ=>absurd hβ (hbox β),fun t r b hr hvb=>?_,h.kp.pcK,h.kp.cellK,h.kp.boxM,fun t v0 r h0 hr=>(by obtain ⟨rfl,_⟩:=hrow t r hr;exact absurd h0 (F.r0lt (by decide) v0))⟩⟩,?_⟩
 ·obtain ⟨rfl,rfl⟩:=hrow t r hr
  refine ⟨fun x hx=>?_,cells,?_,hd,h1⟩
  ·obtain ⟨y,hy,rfl⟩:=List.mem_map.1 hx
   exact hl y hy
  ·show q6v w' _ E (width T) (qh8 e.rv 1000000 0 v 1000000 0) (l.map (q01 T)).length cells
   rw [q0t,List.length_map];exact hown'
 ·obtain ⟨rfl,rfl⟩:=hrow t r hr
  cases hw
 ·obtain ⟨rfl,rfl⟩:=hrow t r hr
  have hvb':(qh8 e.rv 1000000 0 v 1000000 0).ownBlock=some b:=hvb
  rw [q0t] at hvb'
  exact absurd (hp.pcLt b o hpc) (by have:=hge b hvb';omega)
 ·obtain ⟨rfl,_⟩:=hrow t r hr
  obtain ⟨rfl,_⟩:=hrow t' r' hr'
  exact absurd rfl hn
 ·obtain ⟨rfl,rfl⟩:=hrow t r hr
  have hvb':(qh8 e.rv 1000000 0 v 1000000 0).ownBlock=some b:=hvb
  rw [q0t] at hvb'
  exact hnk b hvb'
 ·show (∃ r,(eS ⟨[],[],[(1000000,⟨0,E,true,T,l⟩)]⟩).row 1000000=some r/\0<=r.gen)/\v=qh8 e.rv 1000000 0 v 1000000 0/\∃ a n c,v = .slice a n c
  exact ⟨⟨_,rfl,Nat.zero_le _⟩,(q0t _ _ _ _).symm,hsl⟩
end YtlkpgcifpnppeaaGreatDoor.AM
end Go.Proofs
namespace Go.Proofs
open Go.RowKit Go.Shelf Go.Lib
namespace YtlkpgcifpnppeaaGreatDoor.AM
section
variable {P:Program}
theorem q9p {ops:Array Oper} {o:Oper} {a:Act} {w:World} {K:Act->World->Prop} {Q:Exit->Act->World->Prop} {E:Prop}
  (hg:o.guard=none) (d x:Operand) (dT sT:TypeId) (hop:o.op=Op.call { callee:=Callee.builtin Builtin.append,args:=#[d,x],argTypes:=#[dT,sT] })
  (v u:Value) (hd:a.eval d=v) (hx:a.eval x=u) {v':Value} {w':World} (hr:(Builtin.append_ #[dT,sT] o.type #[v,u]).run P w = .ok v' w') (hK:K (a.put o.dst v') w') :
  if Region.wanted o (yielded ops a.tmps)=true then Oper.wp P o a w K Q else E:=by
 have hw:Region.wanted o (yielded ops a.tmps)=true:=by simp [Region.wanted,hg]
 rw [if_pos hw]
 unfold Oper.wp
 simp [execOp,hop,resolve,invoke,builtin,hd,hx,hr,Result.andThen]
 exact hK
theorem q42 (w:World) {ops:Array Oper} {rest:List Oper} {o:Oper} {a:Act} {Q:Exit->Act->World->Prop} (hgd:o.guard=none) (d s:Operand) (t t':TypeId)
  (ho:o.op = .call { callee:=.builtin .append,args:=#[d,s],argTypes:=#[t,t'] }) (v u:Value) (hd:a.eval d=v) (hs:a.eval s=u) {v':Value} {w':World}
  (hr:(Builtin.append_ #[t,t'] o.type #[v,u]).run P w = .ok v' w') (h:wpList P ops Q rest (a.put o.dst v') w'):wpList P ops Q (o::rest) a w :=
 wpList_plain hgd fun _ hK=>by
  unfold Oper.wp execOp
  simp only [ho,resolve,invoke,builtin,Sem.run_bind,Sem.run_pure,Result.andThen_ok,List.map_toArray,List.map_cons,List.map_nil,hd,hs,hr]
  exact hK _ _ h
theorem qg7 (w:World) {ops:Array Oper} {rest:List Oper} {o:Oper} {a:Act} {Q:Exit->Act->World->Prop} (hgd:o.guard=none) (d:Operand) (t:TypeId)
  (ho:o.op = .call { callee:=.builtin .clear,args:=#[d],argTypes:=#[t] }) (v:Value) (hd:a.eval d=v) {v':Value} {w':World}
  (hr:(Builtin.clear_ #[t] o.type #[v]).run P w = .ok v' w') (h:wpList P ops Q rest (a.put o.dst v') w'):wpList P ops Q (o::rest) a w :=
 wpList_plain hgd fun _ hK=>by
  unfold Oper.wp execOp
  simp only [ho,resolve,invoke,builtin,Sem.run_bind,Sem.run_pure,Result.andThen_ok,List.map_toArray,List.map_cons,List.map_nil,hd,hr]
  exact hK _ _ h
end
end YtlkpgcifpnppeaaGreatDoor.AM
end Go.Proofs
namespace Go.Proofs
open Go.RowKit Go.Shelf Go.Lib
attribute [local go_sem] Oper.semAt_some
namespace YtlkpgcifpnppeaaGreatDoor.AM
theorem qux (w:World) (o:Obj) (b:Nat) (h:b<w.heap.size):(w.alloc o).heap[b]? = w.heap[b]?:=Below.heap_alloc w o b h
abbrev QD:=List UInt8×(Int×(Int×(Int×(List UInt8×List UInt8))))
abbrev QT:Ty:=.prod .str (.prod (.int .i64) (.prod (.int .i64) (.prod (.int .i64) (.prod .str .str))))
def qcv (q:den QT):List Value:=match (q:QD) with
 | (p,(a,(b,(c,(r,m)))))=>[.string (ba p),.int .i64 a,.int .i64 b,.int .i64 c,.string (ba r),.string (ba m)]
theorem q64:CvT QT qcv:=⟨fun x=>by obtain ⟨p,a,b,c,r,m⟩:=(x:QD);rfl,fun x u hu=>by
 obtain ⟨p,a,b,c,r,m⟩:=(x:QD)
 have hu':u ∈ [Value.string (ba p),.int .i64 a,.int .i64 b,.int .i64 c,.string (ba r),.string (ba m)]:=hu
 simp only [List.mem_cons,List.not_mem_nil,or_false] at hu'
 rcases hu' with rfl|rfl|rfl|rfl|rfl|rfl<;>rfl,by decide⟩
theorem qtj : ∃ i:TypeInfo,Tryz.prog.info? 27=some i/\i.size=6/\i.bytes=72/\∃ z,i.zero=some z/\z.cells.size=6/\z.cells.toList = [.string ⟨#[]⟩,.int .i64 0,.int .i64 0,.int .i64 0,.string ⟨#[]⟩,.string ⟨#[]⟩]:=by
 have h:(match Tryz.prog.info? 27 with
  | some i=>decide (i.size=6/\i.bytes=72)&&(match i.zero with|some (.agg ⟨[.string ⟨⟨[]⟩⟩,.int .i64 a,.int .i64 b,.int .i64 c,.string ⟨⟨[]⟩⟩,.string ⟨⟨[]⟩⟩]⟩)=>decide (a=0/\b=0/\c=0)|_=>false)
  | none=>false)=true:=by kernel_rfl
 split at h
 ·rename_i i hi
  simp only [Bool.and_eq_true,decide_eq_true_eq] at h
  obtain ⟨⟨h1,h2⟩,h3⟩:=h
  split at h3
  ·rename_i a b c hz
   simp only [decide_eq_true_eq] at h3
   obtain ⟨rfl,rfl,rfl⟩:=h3
   exact ⟨i,hi,h1,h2,_,hz,rfl,rfl⟩
  ·cases h3
 ·cases h
def q74 (l:List QD):Option (Unit×(Unit×(List QD×Unit))):=if l.length<=1000000 then some ((),((),(l,()))) else none
def qo6:FX:={ f:=41,args:=[.one (.c (.d (.lst QT)))],boxes:=[],rows:=[],res:=.one (.c (.row 1000000)),oboxes:=[],orows:=[(1000000,⟨27,true,QT⟩)],F:=fun p=>q74 p.1 }
set_option maxHeartbeats 2000000 in
set_option maxRecDepth 1000000 in
theorem qyg {Pc:Nat->Nat->Prop} (w:World) (v:Value) (l:List QD) (hl:l.length<=1000000) (h:DatRep Pc w v (.lst 6 (l.map (q01 QT)))) :
  Calls Tryz.prog 41 #[v] w fun e w'=>∃ v',e = .returned v'/\w'.ownsRow w.heap.size 27 6 v' l.length (cvs qcv l)/\Below w.heap.size w w':=by
 obtain ⟨i0,hi0,hz,hby,z,hzz,hzs,hzl⟩:=qtj
 obtain ⟨a,cap,b,off,rfl,hlc,hcm,hnil,hcell⟩:=q64.cells h
 have hlen:=q64.lens l
 have hone:=q64.ones l
 cases a with
 | none =>
  have:l = []:=by
   by_cases h0:0<l.length
   ·cases hnil h0
   ·exact List.eq_nil_of_length_eq_zero (by omega)
  subst this
  have heq : ∀w,(binOp .eql 22 (.slice none 0 cap) (.slice none 0 0)).run Tryz.prog w = .ok (.bool true) w:=fun w=>Lib.run_eql_slice_nil w _ _ _ _ _ _ _ Tryz.underlying22
  go_enter Tryz.func41,Tryz.ntmps41
  go_wp2
  go_ret
  exact ⟨_,rfl,World.ownsRow_nil _ _ _ _,Below.refl _ _⟩
 | some ad =>
  have heq : ∀w,(binOp .eql 22 (.slice (some ad) l.length cap) (.slice none 0 0)).run Tryz.prog w = .ok (.bool false) w:=fun w=>Lib.run_eql_slice_nil w _ _ _ _ _ _ _ Tryz.underlying22
  have hnew:(w.alloc (.cells #[] 27)).ownsRow w.heap.size 27 6 (.slice (some ⟨w.heap.size,0,none⟩) 0 0) 0 []:=⟨rfl,.inr ⟨w.heap.size,0,#[],rfl,Nat.le_refl _,heap_alloc_new w _,Nat.le_refl _,by unfold maxLen;omega,rfl,rfl⟩⟩
  have hcell2 : ∀j u,(cvs qcv l)[j]? = some u->(w.alloc (.cells #[] 27)).cell? (ad.add j)=some u:=fun j u hu=>by
   have hl0:0<l.length:=by
    have:=(List.getElem?_eq_some_iff.1 hu).1
    rw [hlen] at this
    exact Nat.pos_of_ne_zero fun h0=>by rw [h0,Nat.zero_mul] at this;omega
   obtain rfl:=Option.some.inj (hnil hl0)
   rw [Addr.add_lit]
   exact Lib.cell?_alloc_some _ (hcell j u hu).2
  obtain ⟨v',w',hr,h2,h3,h4⟩:=run_append_own (P:=Tryz.prog) (w.alloc (.cells #[] 27)) w.heap.size 22 22 27 i0 z 6 72 Tryz.underlying22 hi0 hzz hz hby hzs (by omega) _ 0 [] hnew ad l.length cap (cvs qcv l) hlen hcell2 hone (by unfold maxLen;omega) (by omega) (by simp)
  rw [Nat.zero_add,List.nil_append] at h2
  clear hnew hcell2 hcell h hnil hone hlen
  go_enter Tryz.func41,Tryz.ntmps41
  go_wp2_with (at_builtin;refine q42 _ rfl _ _ 22 22 rfl _ _ rfl rfl hr ?_)
  go_ret
  exact ⟨_,rfl,h2,((Below.refl w.heap.size w).alloc (Nat.le_refl _) _).grown h3 (by simp) (fun k hk=>by simp [Value.ownBlock] at hk;omega)⟩
theorem qrb:q88 Inv Tryz.prog qo6:=fun G hG=>⟨by kernel_rfl,fun p q h=>by
 obtain ⟨l,p2⟩:=p
 have h':q74 l=some q:=h
 unfold q74 at h'
 split at h'
 case isFalse=>cases h'
 rename_i hc
 obtain rfl:=Option.some.inj h'
 intro F hF e w vs hp hv
 obtain ⟨vl⟩:=vs
 match vl,hv with
 | [x],⟨h1,_⟩ =>
  have hp':Hp F q7p e w:=hp.re (F':=F) (σ':=q7p) rfl rfl rfl rfl rfl rfl (by funext i;rfl) (by funext i;rfl)
  refine (qyg (Pc:=e.Pc) w x l hc h1).mono ?_
  rintro e1 w' ⟨v',rfl,hown,hb⟩
  obtain ⟨e',k1,k2⟩:=jct (T:=QT) (l:=l) (by decide) hp' hb hown (fun _ _=>rfl) (q64.reps l) (q64.ones l) (by
   rcases hown.2 with ⟨h5,_⟩|⟨g,cap,cur,h5,_⟩<;>exact ⟨_,_,_,h5⟩)
  exact ⟨_,e',rfl,k1,k2⟩⟩
end YtlkpgcifpnppeaaGreatDoor.AM
end Go.Proofs
namespace Go.Proofs.YtlkpgcifpnppeaaGreatDoor.AM
open Go.RowKit
abbrev ND:=Yy×(Int×(Int×(Int×(Yy×(Yy×List QD)))))
abbrev NT:Ty:=.prod .str (.prod (.int .i64) (.prod (.int .i64) (.prod (.int .i64) (.prod .str (.prod .str (.lst QT))))))
def nq (n:ND):QD:=(n.1,n.2.1,n.2.2.1,n.2.2.2.1,n.2.2.2.2.1,n.2.2.2.2.2.1)
def nR (n:ND):List QD:=n.2.2.2.2.2.2
def mkN (q:QD) (L:List QD):ND:=(q.1,q.2.1,q.2.2.1,q.2.2.2.1,q.2.2.2.2.1,q.2.2.2.2.2,L)
theorem jqs (q:QD) (L:List QD):nq (mkN q L)=q:=rfl
theorem jg3 (q:QD) (L:List QD):nR (mkN q L)=L:=rfl
def qob (q r:QD):List ND->List ND
 | []=>[mkN q [r]]
 | x::t=>if nq x=q then mkN (nq x) (nR x ++ [r])::t else x::qob q r t
def qat (r:QD) (acc:List ND) (l:List QD):List ND:=l.foldl (fun a q=>qob q r a) acc
def q1s:List QD->List ND->List ND->List ND
 | _,acc,[]=>acc
 | met,acc,n::l=>if nq n∈met then q1s met acc l else q1s (met ++ [nq n]) (qat (nq n) acc (nR n)) l
def qzi (l:List ND):Prop:=l.length<=1000/\∀n∈l,(nR n).length<=1000
instance (l:List ND):Decidable (qzi l):=by unfold qzi;infer_instance
end Go.Proofs.YtlkpgcifpnppeaaGreatDoor.AM
