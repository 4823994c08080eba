
import Derived.Test.YtapfankgdkdkgaaGreatDoorEb16
import Derived.Test.YtapfankgdkdkgaaGreatDoorEb14
import Derived.Deep.QuietTactic
import Derived.Test.YtapfankgdkdkgaaGreatDoorEb12
set_option linter.unusedVariables false
set_option linter.unusedSimpArgs false
set_option maxRecDepth 20000
namespace Go.Proofs.YtapfankgdkdkgaaGreatDoor.AM
open Go.RowKit
abbrev Zm:=((IV×(IV×Unit))×Unit×Unit)⊕((Int×(Unit×Unit))×((List (Yy×(List Yy×(Bool×IV))))×((List ((Yy×Qq)×(Int×Int)))×((Yy×(Yy×(Unit×(Unit×(Unit×(Unit×(Int×(Int×(Yy×(Unit×Unit))))))))))×Unit)))×(LQ×((List (Yy×Yy))×(LQ×((List (Int×(Int×(Int×(Yy×Qq)))))×Unit)))))
abbrev Zn:=(IV)×((Yy×(Yy×(Unit×(Unit×(Unit×(Unit×(Int×(Int×(Yy×(Unit×Unit))))))))))×((List (Yy×(List Yy×(Bool×IV))))×((List ((Yy×Qq)×(Int×Int)))×Unit)))×(LQ×((List (Yy×Yy))×(LQ×((List (Int×(Int×(Int×(Yy×Qq)))))×Unit))))
abbrev Zo:=Yy×(List Yy×(Bool×IV))
abbrev Zp:=Int×(Int×(Int×(Yy×Qq)))
abbrev Zq:=Yy×(Yy×(Unit×(Unit×(Unit×(Unit×(Int×(Int×(Yy×(Unit×Unit)))))))))
abbrev Zr:=List ((Yy×Qq)×(Int×Int))
abbrev Zs:=LQ×((List (Yy×Yy))×(LQ×((List Zp)×Unit)))
abbrev Zt:=List (List (Yy×Int)×Yy)
def q8d (n:Nat) (a1:Unit) (a2:Yy) (a3:List (Yy×Int)) (b1:Yy) (b2:Yy) (b3:Int) (b4:Int) (b5:Yy) (b6:List Zo) (b7:List ((Yy×Qq)×(Int×Int))) (b8:List Qq) (b9:List (Yy×Yy)) (b10:List Qq) (b11:List Zp):Option Zn :=
 qm1 (qaz a2 b6) (fun (y1:List Yy×(Bool×IV))=>(q7n n a3).bind fun r3=>(q5r n y1.1 r3).bind fun r4=>(bif !r4 then some ((qgw 126 (Value.agg ⟨[(Value.int .i64 (10:Int))]⟩)),(((b1,(b2,((),((),((),((),(b3,(b4,(b5,((),())))))))))),(b6,(b7,()))),(b8,(b9,(b10,(b11,())))))) else (qvd n a3).bind fun r5=>(bif je8 92 y1.2.2 then (q7w n () r5 b1 b2 b3 b4 b5 b6 b7 b8 b9 b10 b11).bind fun r6=>some (r6.1,(((r6.2.1.1.1,(r6.2.1.1.2.1,((),((),((),((),(r6.2.1.1.2.2.2.2.2.2.1,(r6.2.1.1.2.2.2.2.2.2.2.1,(r6.2.1.1.2.2.2.2.2.2.2.2.1,((),())))))))))),(r6.2.1.2.1,(r6.2.1.2.2.1,()))),(r6.2.2.1,(r6.2.2.2.1,(r6.2.2.2.2.1,(r6.2.2.2.2.2.1,())))))) else (bif je8 91 y1.2.2 then (q87 n () r5 b1 b2 b3 b4 b5 b6 b7 b8 b9 b10 b11).bind fun r7=>some (r7.1,(((r7.2.1.1.1,(r7.2.1.1.2.1,((),((),((),((),(r7.2.1.1.2.2.2.2.2.2.1,(r7.2.1.1.2.2.2.2.2.2.2.1,(r7.2.1.1.2.2.2.2.2.2.2.2.1,((),())))))))))),(r7.2.1.2.1,(r7.2.1.2.2.1,()))),(r7.2.2.1,(r7.2.2.2.1,(r7.2.2.2.2.1,(r7.2.2.2.2.2.1,())))))) else (bif je8 90 y1.2.2 then (q7i n () r5 b1 b2 b3 b4 b5 b6 b7 b8 b9 b10 b11).bind fun r8=>some (r8.1,(((r8.2.1.1.1,(r8.2.1.1.2.1,((),((),((),((),(r8.2.1.1.2.2.2.2.2.2.1,(r8.2.1.1.2.2.2.2.2.2.2.1,(r8.2.1.1.2.2.2.2.2.2.2.2.1,((),())))))))))),(r8.2.1.2.1,(r8.2.1.2.2.1,()))),(r8.2.2.1,(r8.2.2.2.1,(r8.2.2.2.2.1,(r8.2.2.2.2.2.1,())))))) else (bif je8 89 y1.2.2 then (q8g n () r5 b1 b2 b3 b4 b5 b6 b7 b8 b9 b10 b11).bind fun r9=>some (r9.1,(((r9.2.1.1.1,(r9.2.1.1.2.1,((),((),((),((),(r9.2.1.1.2.2.2.2.2.2.1,(r9.2.1.1.2.2.2.2.2.2.2.1,(r9.2.1.1.2.2.2.2.2.2.2.2.1,((),())))))))))),(r9.2.1.2.1,(r9.2.1.2.2.1,()))),(r9.2.2.1,(r9.2.2.2.1,(r9.2.2.2.2.1,(r9.2.2.2.2.2.1,())))))) else (bif je8 88 y1.2.2 then (q5y n () r5 b1 b2 b3 b4 b5 b6 b7 b8 b9 b10 b11).bind fun r10=>some (r10.1,(((r10.2.1.1.1,(r10.2.1.1.2.1,((),((),((),((),(r10.2.1.1.2.2.2.2.2.2.1,(r10.2.1.1.2.2.2.2.2.2.2.1,(r10.2.1.1.2.2.2.2.2.2.2.2.1,((),())))))))))),(r10.2.1.2.1,(r10.2.1.2.2.1,()))),(r10.2.2.1,(r10.2.2.2.1,(r10.2.2.2.2.1,(r10.2.2.2.2.2.1,())))))) else (bif je8 87 y1.2.2 then (qa9 n () r5 b1 b2 b3 b4 b5 b6 b7 b8 b9 b10 b11).bind fun r11=>some (r11.1,(((r11.2.1.1.1,(r11.2.1.1.2.1,((),((),((),((),(r11.2.1.1.2.2.2.2.2.2.1,(r11.2.1.1.2.2.2.2.2.2.2.1,(r11.2.1.1.2.2.2.2.2.2.2.2.1,((),())))))))))),(r11.2.1.2.1,(r11.2.1.2.2.1,()))),(r11.2.2.1,(r11.2.2.2.1,(r11.2.2.2.2.1,(r11.2.2.2.2.2.1,())))))) else none)))))))) ((q7n n a3).bind fun r12=>(q5r n [] r12).bind fun r13=>(bif !r13 then some ((qgw 126 (Value.agg ⟨[(Value.int .i64 (10:Int))]⟩)),(((b1,(b2,((),((),((),((),(b3,(b4,(b5,((),())))))))))),(b6,(b7,()))),(b8,(b9,(b10,(b11,())))))) else (qvd n a3).bind fun r14=>none))
def qjk (n:Nat):FX:={ f:=97,args:=[.one (.c (.box 1000000 0)),.one (.c (.d .str)),.one (.c (.d (.lst (.prod .str (.int .i64)))))],boxes:=[(1000000,(90,[.d .str,.d .str,.row 1000003,.row 1000004,.row 1000005,.row 1000006,.d (.int .i64),.d (.int .i64),.d .str,.mv 1000001,.mv 1000002])),(1000001,(2199023259655,[.d (.lst (.prod .str (.prod (.lst .str) (.prod .bool .any))))])),(1000002,(2199023286277,[.d (.lst (.prod (.prod .str (.prod .str Tv)) (.prod (.int .i64) (.int .i64))))]))],rows:=[(1000003,⟨46,true,(.prod .str Tv)⟩),(1000004,⟨76,true,(.prod .str .str)⟩),(1000005,⟨46,true,(.prod .str Tv)⟩),(1000006,⟨77,true,(.prod (.int .i64) (.prod (.int .i64) (.prod (.int .i64) (.prod .str (.prod .str Tv)))))⟩)],res:=.one (.c (.d .any)),oboxes:=[(1000000,(90,[.d .str,.d .str,.row 1000003,.row 1000004,.row 1000005,.row 1000006,.d (.int .i64),.d (.int .i64),.d .str,.mv 1000001,.mv 1000002])),(1000001,(2199023259655,[.d (.lst (.prod .str (.prod (.lst .str) (.prod .bool .any))))])),(1000002,(2199023286277,[.d (.lst (.prod (.prod .str (.prod .str Tv)) (.prod (.int .i64) (.int .i64))))]))],orows:=[(1000003,⟨46,true,(.prod .str Tv)⟩),(1000004,⟨76,true,(.prod .str .str)⟩),(1000005,⟨46,true,(.prod .str Tv)⟩),(1000006,⟨77,true,(.prod (.int .i64) (.prod (.int .i64) (.prod (.int .i64) (.prod .str (.prod .str Tv)))))⟩)],F:=fun p=>q8d n p.1.1 p.1.2.1 p.1.2.2 p.2.1.1.1 p.2.1.1.2.1 p.2.1.1.2.2.2.2.2.2.1 p.2.1.1.2.2.2.2.2.2.2.1 p.2.1.1.2.2.2.2.2.2.2.2.1 p.2.1.2.1 p.2.1.2.2.1 p.2.2.1 p.2.2.2.1 p.2.2.2.2.1 p.2.2.2.2.2.1 }
def ja6:q1j:=[(2,[⟨12582915*2^21,2^42,0⟩,⟨51380225*2^22,2^45,1⟩,⟨1688849860264000,2^48,0⟩,⟨49*2^48,2^51,4⟩,⟨3137*2^45,2^54,15⟩,⟨49*2^54,2^57,31⟩]),(1000002,[]),(4,[⟨211106232532995*2^21,2^66,0⟩,⟨862017116176385*2^22,2^69,1⟩,⟨16905424996341287883274873117328531408603114433155888708094742688853564881815195503181352188405030012629580639784228117724235121904085937192017247310814066461068373887968162693399408565645646113696775453062758028932736905368049975642828700760545167275999433485945487228929,2^72,0⟩,⟨226673591177742970257472,2^75,0⟩,⟨49*2^75,2^78,8⟩,⟨0,0,31⟩,⟨0,0,63⟩]),(3000004,[⟨5,0,0⟩])]
theorem qnt (n:Nat):q9w Inv Tryz.prog (qjk n):=mkX Tryz.func97 ja6 [] (cc (c:=q5v (qft n) [(1000000,1000000),(1000001,1000001),(1000002,1000002)] [(1000003,1000003),(1000004,1000004),(1000005,1000005),(1000006,1000006)]) (fun G hG=>q1v (qqr n G hG)) <| cc (c:=q5v (qfv n) [(1000000,1000000),(1000001,1000001),(1000002,1000002)] [(1000003,1000003),(1000004,1000004),(1000005,1000005),(1000006,1000006)]) (fun G hG=>q1v (qpk n G hG)) <| cc (c:=q5v (qgl n) [(1000000,1000000),(1000001,1000001),(1000002,1000002)] [(1000003,1000003),(1000004,1000004),(1000005,1000005),(1000006,1000006)]) (fun G hG=>q1v (qqn n G hG)) <| cc (c:=q5v (qg9 n) [(1000000,1000000),(1000001,1000001),(1000002,1000002)] [(1000003,1000003),(1000004,1000004),(1000005,1000005),(1000006,1000006)]) (fun G hG=>q1v (qrl n G hG)) <| cc (c:=q5v (qe8 n) [(1000000,1000000),(1000001,1000001),(1000002,1000002)] [(1000003,1000003),(1000004,1000004),(1000005,1000005),(1000006,1000006)]) (fun G hG=>q1v (qmu n G hG)) <| cc (c:=q5v (qhz n) [(1000000,1000000),(1000001,1000001),(1000002,1000002)] [(1000003,1000003),(1000004,1000004),(1000005,1000005),(1000006,1000006)]) (fun G hG=>q1v (quq n G hG)) <| cc (ql5 n) <| cc (qs4 n) <| cc (jm2 n) <| cn) (by kernel_rfl) trivial (by intro a;kernel_rfl)
def qqa (n:Nat) (a1:Unit) (a2:Yy) (a3:List (Yy×Int)) (b1:Yy) (b2:Yy) (b3:Int) (b4:Int) (b5:Yy) (b6:List Zo) (b7:List ((Yy×Qq)×(Int×Int))) (b8:List Qq) (b9:List (Yy×Yy)) (b10:List Qq) (b11:List Zp):Option Zn :=
 qm1 (qaz a2 b6) (fun (y1:List Yy×(Bool×IV))=>(bif y1.2.1 then (q7n n a3).bind fun r3=>(bif decide (r3=([40]:Yy)) then some (q9y,(((b1,(b2,((),((),((),((),(b3,(b4,(a2,((),())))))))))),(b6,(b7,()))),(b8,(b9,(b10,(b11,())))))) else (q8d n () a2 a3 b1 b2 b3 b4 b5 b6 b7 b8 b9 b10 b11).bind fun r4=>some (r4.1,(((r4.2.1.1.1,(r4.2.1.1.2.1,((),((),((),((),(r4.2.1.1.2.2.2.2.2.2.1,(r4.2.1.1.2.2.2.2.2.2.2.1,(r4.2.1.1.2.2.2.2.2.2.2.2.1,((),())))))))))),(r4.2.1.2.1,(r4.2.1.2.2.1,()))),(r4.2.2.1,(r4.2.2.2.1,(r4.2.2.2.2.1,(r4.2.2.2.2.2.1,()))))))) else (q8d n () a2 a3 b1 b2 b3 b4 b5 b6 b7 b8 b9 b10 b11).bind fun r5=>some (r5.1,(((r5.2.1.1.1,(r5.2.1.1.2.1,((),((),((),((),(r5.2.1.1.2.2.2.2.2.2.1,(r5.2.1.1.2.2.2.2.2.2.2.1,(r5.2.1.1.2.2.2.2.2.2.2.2.1,((),())))))))))),(r5.2.1.2.1,(r5.2.1.2.2.1,()))),(r5.2.2.1,(r5.2.2.2.1,(r5.2.2.2.2.1,(r5.2.2.2.2.2.1,())))))))) ((q8d n () a2 a3 b1 b2 b3 b4 b5 b6 b7 b8 b9 b10 b11).bind fun r6=>some (r6.1,(((r6.2.1.1.1,(r6.2.1.1.2.1,((),((),((),((),(r6.2.1.1.2.2.2.2.2.2.1,(r6.2.1.1.2.2.2.2.2.2.2.1,(r6.2.1.1.2.2.2.2.2.2.2.2.1,((),())))))))))),(r6.2.1.2.1,(r6.2.1.2.2.1,()))),(r6.2.2.1,(r6.2.2.2.1,(r6.2.2.2.2.1,(r6.2.2.2.2.2.1,())))))))
def j09 (n:Nat):FX:={ f:=95,args:=[.one (.c (.box 1000000 0)),.one (.c (.d .str)),.one (.c (.d (.lst (.prod .str (.int .i64)))))],boxes:=[(1000000,(90,[.d .str,.d .str,.row 1000003,.row 1000004,.row 1000005,.row 1000006,.d (.int .i64),.d (.int .i64),.d .str,.mv 1000001,.mv 1000002])),(1000001,(2199023259655,[.d (.lst (.prod .str (.prod (.lst .str) (.prod .bool .any))))])),(1000002,(2199023286277,[.d (.lst (.prod (.prod .str (.prod .str Tv)) (.prod (.int .i64) (.int .i64))))]))],rows:=[(1000003,⟨46,true,(.prod .str Tv)⟩),(1000004,⟨76,true,(.prod .str .str)⟩),(1000005,⟨46,true,(.prod .str Tv)⟩),(1000006,⟨77,true,(.prod (.int .i64) (.prod (.int .i64) (.prod (.int .i64) (.prod .str (.prod .str Tv)))))⟩)],res:=.one (.c (.d .any)),oboxes:=[(1000000,(90,[.d .str,.d .str,.row 1000003,.row 1000004,.row 1000005,.row 1000006,.d (.int .i64),.d (.int .i64),.d .str,.mv 1000001,.mv 1000002])),(1000001,(2199023259655,[.d (.lst (.prod .str (.prod (.lst .str) (.prod .bool .any))))])),(1000002,(2199023286277,[.d (.lst (.prod (.prod .str (.prod .str Tv)) (.prod (.int .i64) (.int .i64))))]))],orows:=[(1000003,⟨46,true,(.prod .str Tv)⟩),(1000004,⟨76,true,(.prod .str .str)⟩),(1000005,⟨46,true,(.prod .str Tv)⟩),(1000006,⟨77,true,(.prod (.int .i64) (.prod (.int .i64) (.prod (.int .i64) (.prod .str (.prod .str Tv)))))⟩)],F:=fun p=>qqa n p.1.1 p.1.2.1 p.1.2.2 p.2.1.1.1 p.2.1.1.2.1 p.2.1.1.2.2.2.2.2.2.1 p.2.1.1.2.2.2.2.2.2.2.1 p.2.1.1.2.2.2.2.2.2.2.2.1 p.2.1.2.1 p.2.1.2.2.1 p.2.2.1 p.2.2.2.1 p.2.2.2.2.1 p.2.2.2.2.2.1 }
theorem jbv (n:Nat):q9w Inv Tryz.prog (j09 n):=mkX Tryz.func95 [] [] (cc (c:=q5v (qjk n) [(1000000,1000000),(1000001,1000001),(1000002,1000002)] [(1000003,1000003),(1000004,1000004),(1000005,1000005),(1000006,1000006)]) (fun G hG=>q1v (qnt n G hG)) <| cc (ql5 n) <| cn) (by kernel_rfl) trivial (by intro a;kernel_rfl)
def qc7 (n:Nat) (a1:Unit) (a2:List (Yy×Int)) (b1:Yy) (b2:Yy) (b3:Int) (b4:Int) (b5:Yy) (b6:List Zo) (b7:List ((Yy×Qq)×(Int×Int))) (b8:List Qq) (b9:List (Yy×Yy)) (b10:List Qq) (b11:List Zp):Option Zn :=
 (bif decide ((a2.length:Int)=0) then some (q9y,(((b1,(b2,((),((),((),((),(b3,(b4,(b5,((),())))))))))),(b6,(b7,()))),(b8,(b9,(b10,(b11,())))))) else (bif decide (b5=([]:Yy)) then (q0f a2 (0:Int)).bind fun x1=>(q0w a2 (1:Int) (a2.length:Int)).bind fun s2=>(qqa n () x1.1 s2 b1 b2 b3 b4 b5 b6 b7 b8 b9 b10 b11).bind fun r3=>some (r3.1,(((r3.2.1.1.1,(r3.2.1.1.2.1,((),((),((),((),(r3.2.1.1.2.2.2.2.2.2.1,(r3.2.1.1.2.2.2.2.2.2.2.1,(r3.2.1.1.2.2.2.2.2.2.2.2.1,((),())))))))))),(r3.2.1.2.1,(r3.2.1.2.2.1,()))),(r3.2.2.1,(r3.2.2.2.1,(r3.2.2.2.2.1,(r3.2.2.2.2.2.1,())))))) else (q7n n a2).bind fun r4=>(bif decide (r4=([41]:Yy)) then some (q9y,(((b1,(b2,((),((),((),((),(b3,(b4,(([]:Yy),((),())))))))))),(b6,(b7,()))),(b8,(b9,(b10,(b11,())))))) else (q8d n () b5 a2 b1 b2 b3 b4 b5 b6 b7 b8 b9 b10 b11).bind fun r5=>some (r5.1,(((r5.2.1.1.1,(r5.2.1.1.2.1,((),((),((),((),(r5.2.1.1.2.2.2.2.2.2.1,(r5.2.1.1.2.2.2.2.2.2.2.1,(r5.2.1.1.2.2.2.2.2.2.2.2.1,((),())))))))))),(r5.2.1.2.1,(r5.2.1.2.2.1,()))),(r5.2.2.1,(r5.2.2.2.1,(r5.2.2.2.2.1,(r5.2.2.2.2.2.1,())))))))))
def qj8 (n:Nat):FX:={ f:=65,args:=[.one (.c (.box 1000000 0)),.one (.c (.d (.lst (.prod .str (.int .i64)))))],boxes:=[(1000000,(90,[.d .str,.d .str,.row 1000003,.row 1000004,.row 1000005,.row 1000006,.d (.int .i64),.d (.int .i64),.d .str,.mv 1000001,.mv 1000002])),(1000001,(2199023259655,[.d (.lst (.prod .str (.prod (.lst .str) (.prod .bool .any))))])),(1000002,(2199023286277,[.d (.lst (.prod (.prod .str (.prod .str Tv)) (.prod (.int .i64) (.int .i64))))]))],rows:=[(1000003,⟨46,true,(.prod .str Tv)⟩),(1000004,⟨76,true,(.prod .str .str)⟩),(1000005,⟨46,true,(.prod .str Tv)⟩),(1000006,⟨77,true,(.prod (.int .i64) (.prod (.int .i64) (.prod (.int .i64) (.prod .str (.prod .str Tv)))))⟩)],res:=.one (.c (.d .any)),oboxes:=[(1000000,(90,[.d .str,.d .str,.row 1000003,.row 1000004,.row 1000005,.row 1000006,.d (.int .i64),.d (.int .i64),.d .str,.mv 1000001,.mv 1000002])),(1000001,(2199023259655,[.d (.lst (.prod .str (.prod (.lst .str) (.prod .bool .any))))])),(1000002,(2199023286277,[.d (.lst (.prod (.prod .str (.prod .str Tv)) (.prod (.int .i64) (.int .i64))))]))],orows:=[(1000003,⟨46,true,(.prod .str Tv)⟩),(1000004,⟨76,true,(.prod .str .str)⟩),(1000005,⟨46,true,(.prod .str Tv)⟩),(1000006,⟨77,true,(.prod (.int .i64) (.prod (.int .i64) (.prod (.int .i64) (.prod .str (.prod .str Tv)))))⟩)],F:=fun p=>qc7 n p.1.1 p.1.2 p.2.1.1.1 p.2.1.1.2.1 p.2.1.1.2.2.2.2.2.2.1 p.2.1.1.2.2.2.2.2.2.2.1 p.2.1.1.2.2.2.2.2.2.2.2.1 p.2.1.2.1 p.2.1.2.2.1 p.2.2.1 p.2.2.2.1 p.2.2.2.2.1 p.2.2.2.2.2.1 }
def j8e:q1j:=[(4,[⟨16905424996341287883274873117328531408603114433155888708094742688853564881815195503181352188405030012629580639784228117724235121904085937192017247310814066461068373887968162693399408565645646113696775453062758028932736905368049975642828700760545167247665234799833848479745,2^45,0⟩,⟨1688849860263944,2^48,0⟩,⟨49*2^48,2^51,2⟩,⟨49*2^51,2^54,6⟩,⟨49*2^54,2^57,14⟩,⟨6917529027641081864,2^60,0⟩,⟨49*2^60,2^63,32⟩,⟨0,0,127⟩,⟨0,0,255⟩]),(3000004,[⟨7,0,0⟩])]
theorem qoj (n:Nat):q9w Inv Tryz.prog (qj8 n):=mkX Tryz.func65 j8e [] (cc (c:=q5v (j09 n) [(1000000,1000000),(1000001,1000001),(1000002,1000002)] [(1000003,1000003),(1000004,1000004),(1000005,1000005),(1000006,1000006)]) (fun G hG=>q1v (jbv n G hG)) <| cc (c:=q5v (qjk n) [(1000000,1000000),(1000001,1000001),(1000002,1000002)] [(1000003,1000003),(1000004,1000004),(1000005,1000005),(1000006,1000006)]) (fun G hG=>q1v (qnt n G hG)) <| cc (ql5 n) <| cn) (by kernel_rfl) trivial (by intro a;kernel_rfl)
end Go.Proofs.YtapfankgdkdkgaaGreatDoor.AM
namespace Go.Proofs
open Go.RowKit Go.Shelf Go.Lib
namespace YtapfankgdkdkgaaGreatDoor.AM
theorem jf8 (n:Int) (c:Value) (h1:c.oneCell'=true) (tb:Nat) (old old':Value) (w:World) (hI:Inv w) (ht0:w.cell? ⟨tb,0,none⟩=some old) (hf0:w.frozen? ⟨tb,0,none⟩=false) (ht0':w.cell? ⟨tb,1,none⟩=some old') (hf0':w.frozen? ⟨tb,1,none⟩=false) :
  Calls Tryz.prog 66 #[.iface 128 (.agg #[.int .i64 n,c]),.iface 135 (.pointer (some ⟨tb,0,none⟩))] w fun ev w'=>ev = .returned (.bool true)/\Below tb w w'/\w'.cell? ⟨tb,0,none⟩=some (.int .i64 n)/\(∀b,tb<b->b<w.heap.size->w'.heap[b]? = w.heap[b]?):=by
 have htl:tb<w.heap.size:=World.block_lt_of_cell? _ _ ht0
 refine (jky n c h1 tb old old' w hI.errT ht0 hf0 ht0' hf0').mono ?_
 rintro ev w' ⟨rfl,rfl⟩
 have b0:Below w.heap.size w ((((w.alloc (.cells #[.pointer (some ⟨tb,0,none⟩)] 135)).alloc (.cells #[.pointer (some ⟨gC,135,none⟩),.pointer (some ⟨w.heap.size,0,none⟩),.int .u64 150] 167)).alloc (.cells #[.pointer (some ⟨gC,135,none⟩),.pointer (some ⟨w.heap.size,0,none⟩),.int .u64 150] 167)).alloc (.cells #[.int .i64 n,c] 128)):=((((Below.refl _ _).alloc (by omega) _).alloc (by simp) _).alloc (by simp;omega) _).alloc (by simp;omega) _
 refine ⟨rfl,Below.setCell (p:=⟨tb,1,none⟩) (Below.setCell (p:=⟨tb,0,none⟩) (b0.mono (by omega)) (Nat.le_refl tb) _) (Nat.le_refl tb) _,?_,fun b hb hlt=>?_⟩
 ·refine (World.cell?_setCell_other _ _ _ _ (show (⟨tb,1,none⟩:Addr)≠⟨tb,0,none⟩ from by simp)).trans ?_
  refine World.cell?_setCell_same _ _ _ (u:=old) ?_
  rw [World.cell?_alloc_lt _ _ ⟨tb,0,none⟩ (by simp;omega),World.cell?_alloc_lt _ _ ⟨tb,0,none⟩ (by simp;omega),World.cell?_alloc_lt _ _ ⟨tb,0,none⟩ (by simp;omega),World.cell?_alloc_lt _ _ ⟨tb,0,none⟩ htl,ht0]
 ·rw [Below.heap_setCell _ _ _ _ (by simp;omega),Below.heap_setCell _ _ _ _ (by simp;omega)]
  exact b0.block b hlt
theorem jes (m n:Int) (tb:Nat) (old:Value) (w:World) (hI:Inv w) (ht0:w.cell? ⟨tb,0,none⟩=some old) (hf0:w.frozen? ⟨tb,0,none⟩=false) :
  Calls Tryz.prog 66 #[.iface 128 (.agg #[.int .i64 m,.iface 126 (.agg #[.int .i64 n])]),.iface 136 (.pointer (some ⟨tb,0,none⟩))] w fun ev w'=>ev = .returned (.bool true)/\Below tb w w'/\w'.cell? ⟨tb,0,none⟩=some (.int .i64 n):=by
 have htl:tb<w.heap.size:=World.block_lt_of_cell? _ _ ht0
 refine (jk5 m n tb old w hI.errT ht0 hf0).mono ?_
 rintro ev w' ⟨rfl,rfl⟩
 refine ⟨rfl,Below.setCell (p:=⟨tb,0,none⟩) ?_ (Nat.le_refl tb) _,?_⟩
 ·exact (((((Below.refl _ _).alloc (by omega) _).alloc (by simp;omega) _).alloc (by simp;omega) _).alloc (by simp;omega) _).alloc (by simp;omega) _
 refine World.cell?_setCell_same _ _ _ (u:=old) ?_
 rw [World.cell?_alloc_lt _ _ ⟨tb,0,none⟩ (by simp;omega),World.cell?_alloc_lt _ _ ⟨tb,0,none⟩ (by simp;omega),World.cell?_alloc_lt _ _ ⟨tb,0,none⟩ (by simp;omega),World.cell?_alloc_lt _ _ ⟨tb,0,none⟩ (by simp;omega),World.cell?_alloc_lt _ _ ⟨tb,0,none⟩ htl,ht0]
set_option maxHeartbeats 2000000 in
theorem j4p (m n:Int) (w:World) (hI:Inv w):Calls Tryz.prog 38 #[.iface 128 (.agg #[.int .i64 m,.iface 126 (.agg #[.int .i64 n])])] w fun e w'=>e = .returned (.tuple #[.int .i64 m,.int .i64 n])/\Below w.heap.size w w':=by
 go_enter Tryz.func38,Tryz.ntmps38
 go_wp2_with fail
 have b1:Below w.heap.size w ((w.alloc (.cells #[.int .i64 0,.nilIface] 128)).alloc (.cells #[.int .i64 0] 126)):=((Below.refl _ _).alloc (Nat.le_refl _) _).alloc (by simp) _
 refine (jf8 m (.iface 126 (.agg #[.int .i64 n])) rfl w.heap.size (.int .i64 0) .nilIface _ (hI.below b1) (by simp) (by simp) (by simp) (by simp)).mono ?_
 rintro e w1 ⟨rfl,b2,c1,k1⟩
 have k2:w1.heap[w.heap.size+1]? = some (.cells #[.int .i64 0] 126 (0,0)):=by
  rw [k1 _ (by omega) (by simp)]
  have:=heap_alloc_new (w.alloc (.cells #[.int .i64 0,.nilIface] 128)) (.cells #[.int .i64 0] 126)
  simpa using this
 have q1:w1.cell? ⟨w.heap.size+1,0,none⟩=some (.int .i64 0):=by rw [cell_of_row w1 _ 0 _ _ _ k2];rfl
 have q2:w1.frozen? ⟨w.heap.size+1,0,none⟩=false:=by simp [World.frozen?,k2]
 have b3:Below w.heap.size w w1:=b1.trans (b2.mono (by omega))
 go_wp2_with fail
 refine (jes m n (w.heap.size+1) (.int .i64 0) w1 (hI.below b3) q1 q2).mono ?_
 rintro e w2 ⟨rfl,b4,c2⟩
 have c3:w2.cell? ⟨w.heap.size,0,none⟩=some (.int .i64 m):=(b4.cell (p:=⟨w.heap.size,0,none⟩) (by simp)).trans c1
 have b5:Below w.heap.size w w2:=b3.trans (b4.mono (by omega))
 go_wp2
 go_quiet (fail)
 go_wp2
 go_ret2
 exact ⟨rfl,below_drewN b5 _⟩
def jl3 (v:Value):Option (Int×Int):=match v with
 | .iface T (.agg ⟨[.int .i64 m,.iface U (.agg ⟨[.int .i64 n]⟩)]⟩)=>bif Nat.beq T 128&&Nat.beq U 126 then some (m,n) else none
 | _=>none
def qrs (v:IV):Option (Int×Int):=jl3 (Subtype.val v)
def jfy:FC:={ f:=38,args:=[.one (.c (.d .any))],res:=.tup [.c (.d (.int .i64)),.c (.d (.int .i64))],F:=qrs }
theorem jf9:q06 Inv Tryz.prog jfy:=fun G hG=>⟨⟨by kernel_rfl,fun (a:IV) r h=>by
 intro Pc w vs hGw hlt hv
 have hI:Inv w:=hG.im w hGw
 obtain ⟨vl⟩:=vs
 match vl,hv with
 | [x],⟨q1,_⟩ =>
  obtain rfl:x=Subtype.val a:=q0a q1
  replace h:jl3 (Subtype.val a)=some r:=h
  unfold jl3 at h
  split at h
  ·rename_i T m U n hv
   cases hT:(Nat.beq T 128&&Nat.beq U 126) with
   | false=>rw [hT] at h;cases h
   | true =>
    rw [hT] at h
    obtain rfl:(m,n)=r:=Option.some.inj h
    obtain ⟨h1,h2⟩:=Bool.and_eq_true_iff.1 hT
    obtain rfl:=Nat.eq_of_beq_eq_true h1
    obtain rfl:=Nat.eq_of_beq_eq_true h2
    rw [hv]
    refine (j4p m n w hI).mono ?_
    rintro e w' ⟨rfl,b⟩
    exact q47 rfl b ⟨#[.int .i64 m,.int .i64 n],rfl,DatRep.v _,DatRep.v _,trivial⟩
  ·cases h⟩,rfl⟩
end YtapfankgdkdkgaaGreatDoor.AM
end Go.Proofs
namespace Go.Proofs.YtapfankgdkdkgaaGreatDoor.AM
open Go.RowKit
def qgx (n:Nat)  : Option (Unit×((List Zo)×Unit)×Unit) :=
 some ((),((je5 ([114,101,116,114,97,99,116]:Yy) (([([120]:Yy),([91,32,120,32,44,32,120,32,93]:Yy)]:List Yy),(true,(qq9 92))) (je5 ([114,101,112,108,97,99,101]:Yy) (([([120,32,61,62,32,120]:Yy)]:List Yy),(true,(qq9 91))) (je5 ([101,120,99,108,117,100,101]:Yy) (([([120,32,120]:Yy)]:List Yy),(true,(qq9 90))) (je5 ([114,101,113,117,105,114,101]:Yy) (([([120,32,120]:Yy)]:List Yy),(true,(qq9 89))) (je5 ([103,111]:Yy) (([([120]:Yy)]:List Yy),(false,(qq9 88))) (je5 ([109,111,100,117,108,101]:Yy) (([([120]:Yy)]:List Yy),(false,(qq9 87))) ([]:List Zo)))))),()),()))
def qi9 (n:Nat):FX:={ f:=63,args:=[],boxes:=[],rows:=[],res:=.one (.c (.mv 1)),oboxes:=[(1,(2199023259655,[.d (.lst (.prod .str (.prod (.lst .str) (.prod .bool .any))))]))],orows:=[],F:=fun p=>qgx n  }
theorem qni (n:Nat):q9w Inv Tryz.prog (qi9 n):=mkX Tryz.func63 [] [] (cn) (by kernel_rfl) trivial (by intro a;kernel_rfl)
@[reducible] def j5p:SSt:=⟨[(4,.one (.c (.d (.lst (.prod (.lst (.prod .str (.int .i64))) .str))))),(5,.one (.c (.d (.int .i64)))),(7,.one (.c (.box 29 0))),(31,.one (.c (.d (.lst .str)))),(32,.one (.c (.d (.int .i64)))),(33,.one (.c (.d (.int .i64))))],[(26,(2199023259655,[.d (.lst (.prod .str (.prod (.lst .str) (.prod .bool .any))))])),(27,(2199023286277,[.d (.lst (.prod (.prod .str (.prod .str Tv)) (.prod (.int .i64) (.int .i64))))])),(29,(90,[.d .str,.d .str,.row 44,.row 1044,.row 2044,.row 3044,.d (.int .i64),.d (.int .i64),.d .str,.mv 26,.mv 27]))],[(44,⟨46,true,(.prod .str Tv)⟩),(1044,⟨76,true,(.prod .str .str)⟩),(2044,⟨46,true,(.prod .str Tv)⟩),(3044,⟨77,true,(.prod (.int .i64) (.prod (.int .i64) (.prod (.int .i64) (.prod .str (.prod .str Tv)))))⟩)]⟩
@[reducible] def qvw:List (Exit×SSt):=[(.ret,⟨[(2,.one (.c (.d .any))),(3,.one (.c (.d .any)))],[],[]⟩),(.exit 0,⟨[(5,.one (.c (.d (.int .i64)))),(7,.one (.c (.box 29 0)))],[(26,(2199023259655,[.d (.lst (.prod .str (.prod (.lst .str) (.prod .bool .any))))])),(27,(2199023286277,[.d (.lst (.prod (.prod .str (.prod .str Tv)) (.prod (.int .i64) (.int .i64))))])),(29,(90,[.d .str,.d .str,.row 44,.row 1044,.row 2044,.row 3044,.d (.int .i64),.d (.int .i64),.d .str,.mv 26,.mv 27]))],[(44,⟨46,true,(.prod .str Tv)⟩),(1044,⟨76,true,(.prod .str .str)⟩),(2044,⟨46,true,(.prod .str Tv)⟩),(3044,⟨77,true,(.prod (.int .i64) (.prod (.int .i64) (.prod (.int .i64) (.prod .str (.prod .str Tv)))))⟩)]⟩)]
def jcj (n:Nat) (rec:Zt->Int->(List Yy)->Int->Int->(List Zo)->Zr->Yy->Yy->Int->Int->Yy->LQ->(List (Yy×Yy))->LQ->(List Zp)->Option Zm) (a1:List (List (Yy×Int)×Yy)) (a2:Int) (a3:List Yy) (a4:Int) (a5:Int) (a6:List Zo) (a7:List ((Yy×Qq)×(Int×Int))) (a8:Yy) (a9:Yy) (a10:Int) (a11:Int) (a12:Yy) (a13:List Qq) (a14:List (Yy×Yy)) (a15:List Qq) (a16:List Zp):Option Zm :=
 (bif decide (a5<a4) then (q0f a3 a5).bind fun x4=>(q0f a1 a5).bind fun x5=>(qc7 n () x5.1 a8 a9 a10 a11 a12 a6 a7 a13 a14 a15 a16).bind fun r6=>(q42 (Subtype.val r6.1)).bind fun (hb7:Bool)=>(bif !hb7 then some (Sum.inl ((qt4,((qgw 128 (Value.agg ⟨[(Value.int .i64 a5),(Subtype.val r6.1)]⟩)),())),((),()))) else q00 (IntKind.wrap .i64 ((x4.length:Int)+1)) fun (n8:Int)=>q00 (IntKind.wrap .i64 (r6.2.1.1.2.2.2.2.2.2.2.1+n8)) fun n9=>q00 (IntKind.wrap .i64 (a5+1)) fun n10=>rec a1 a2 a3 a4 n10 r6.2.1.2.1 r6.2.1.2.2.1 r6.2.1.1.1 r6.2.1.1.2.1 r6.2.1.1.2.2.2.2.2.2.1 n9 r6.2.1.1.2.2.2.2.2.2.2.2.1 r6.2.2.1 r6.2.2.2.1 r6.2.2.2.2.1 r6.2.2.2.2.2.1) else some (Sum.inr (((a2,((),())),((a6,(a7,((a8,(a9,((),((),((),((),(a10,(a11,(a12,((),())))))))))),()))),(a13,(a14,(a15,(a16,())))))))))
def qtc (n:Nat):Stp j5p qvw:=fun rec p=>jcj n (fun a1 a2 a3 a4 a5 a6 a7 a8 a9 a10 a11 a12 a13 a14 a15 a16=>rec ((a1,(a2,((),(a3,(a4,(a5,())))))),((a6,(a7,((a8,(a9,((),((),((),((),(a10,(a11,(a12,((),())))))))))),()))),(a13,(a14,(a15,(a16,()))))))) p.1.1 p.1.2.1 p.1.2.2.2.1 p.1.2.2.2.2.1 p.1.2.2.2.2.2.1 p.2.1.1 p.2.1.2.1 p.2.1.2.2.1.1 p.2.1.2.2.1.2.1 p.2.1.2.2.1.2.2.2.2.2.2.1 p.2.1.2.2.1.2.2.2.2.2.2.2.1 p.2.1.2.2.1.2.2.2.2.2.2.2.2.1 p.2.2.1 p.2.2.2.1 p.2.2.2.2.1 p.2.2.2.2.2.1
def qg3 (n m:Nat) (a1:List (List (Yy×Int)×Yy)) (a2:Int) (a3:List Yy) (a4:Int) (a5:Int) (a6:List Zo) (a7:List ((Yy×Qq)×(Int×Int))) (a8:Yy) (a9:Yy) (a10:Int) (a11:Int) (a12:Yy) (a13:List Qq) (a14:List (Yy×Yy)) (a15:List Qq) (a16:List Zp):Option Zm:=q0u (qtc n) m ((a1,(a2,((),(a3,(a4,(a5,())))))),((a6,(a7,((a8,(a9,((),((),((),((),(a10,(a11,(a12,((),())))))))))),()))),(a13,(a14,(a15,(a16,()))))))
def qc5 (n:Nat) (a1:Yy):Option (IV×IV) :=
 (Lx.qc8 n a1).bind fun (r1:Zt×(Int×Int))=>(bif !decide (r1.2.2=(0:Int)) then some (qt4,(qgw 128 (Value.agg ⟨[(Value.int .i64 r1.2.1),(Subtype.val (qgw 126 (Value.agg ⟨[(Value.int .i64 r1.2.2)]⟩)))]⟩))) else (qgx n).bind fun r2=>(Lx.qag n a1).bind fun (r3:List Yy)=>(qg3 n n r1.1 r1.2.1 r3 (r3.length:Int) (0:Int) r2.2.1.1 ([]:List ((Yy×Qq)×(Int×Int))) ([]:Yy) ([]:Yy) r1.2.1 (0:Int) ([]:Yy) [] [] [] []).bind fun o11=>Sum.elim (fun (q12:(IV×(IV×Unit))×Unit×Unit)=>some (q12.1.1,q12.1.2.1)) (fun (q13:(Int×(Unit×Unit))×((List Zo)×(Zr×(Zq×Unit)))×Zs)=>(bif !decide (q13.2.1.2.2.1.2.2.2.2.2.2.2.2.1=([]:Yy)) then some (qt4,(qgw 128 (Value.agg ⟨[(Value.int .i64 q13.1.1),(Subtype.val (qgw 126 (Value.agg ⟨[(Value.int .i64 (10:Int))]⟩)))]⟩))) else (bif decide (q13.2.1.2.2.1.1=([]:Yy)) then some (qt4,(qgw 128 (Value.agg ⟨[(Value.int .i64 q13.1.1),(Subtype.val (qgw 126 (Value.agg ⟨[(Value.int .i64 (5:Int))]⟩)))]⟩))) else none))) o11)
def ja2 (n:Nat):FC:={ f:=37,args:=[.one (.c (.d .str))],res:=.tup [.c (.d .any),.c (.d .any)],F:=fun p=>qc5 n p }
theorem qvc (n:Nat):q06 Inv Tryz.prog (ja2 n):=mkF Tryz.func37 [] [q5g qtc n] (cc (c:=j1z (qi9 n) [] [] [(1,26)]) (fun G hG=>j0z (qni n G hG)) <| cc (c:=q5v (qj8 n) [(1000000,29),(1000001,26),(1000002,27)] [(1000003,44),(1000004,1044),(1000005,2044),(1000006,3044)]) (fun G hG=>q1v (qoj n G hG)) <| cc (Lx.qti n) <| cc (Lx.qlr n) <| cn) (by kernel_rfl) ⟨ls (by intro rec p;kernel_rfl),trivial⟩ (by intro a;kernel_rfl)
@[reducible] def j3y:SSt:=⟨[(4,.one (.c (.d (.lst (.prod (.lst (.prod .str (.int .i64))) .str))))),(5,.one (.c (.d (.int .i64)))),(7,.one (.c (.box 29 0))),(31,.one (.c (.d (.lst .str)))),(32,.one (.c (.d (.int .i64)))),(33,.one (.c (.d (.int .i64))))],[(26,(2199023259655,[.d (.lst (.prod .str (.prod (.lst .str) (.prod .bool .any))))])),(27,(2199023286277,[.d (.lst (.prod (.prod .str (.prod .str Tv)) (.prod (.int .i64) (.int .i64))))])),(29,(90,[.d .str,.d .str,.row 44,.row 1044,.row 2044,.row 3044,.d (.int .i64),.d (.int .i64),.d .str,.mv 26,.mv 27]))],[(44,⟨46,true,(.prod .str Tv)⟩),(1044,⟨76,true,(.prod .str .str)⟩),(2044,⟨46,true,(.prod .str Tv)⟩),(3044,⟨77,true,(.prod (.int .i64) (.prod (.int .i64) (.prod (.int .i64) (.prod .str (.prod .str Tv)))))⟩)]⟩
@[reducible] def qsp:List (Exit×SSt):=[(.ret,⟨[(2,.one (.c (.d .any))),(3,.one (.c (.d .any)))],[],[]⟩),(.exit 0,⟨[(5,.one (.c (.d (.int .i64)))),(7,.one (.c (.box 29 0)))],[(26,(2199023259655,[.d (.lst (.prod .str (.prod (.lst .str) (.prod .bool .any))))])),(27,(2199023286277,[.d (.lst (.prod (.prod .str (.prod .str Tv)) (.prod (.int .i64) (.int .i64))))])),(29,(90,[.d .str,.d .str,.row 44,.row 1044,.row 2044,.row 3044,.d (.int .i64),.d (.int .i64),.d .str,.mv 26,.mv 27]))],[(44,⟨46,true,(.prod .str Tv)⟩),(1044,⟨76,true,(.prod .str .str)⟩),(2044,⟨46,true,(.prod .str Tv)⟩),(3044,⟨77,true,(.prod (.int .i64) (.prod (.int .i64) (.prod (.int .i64) (.prod .str (.prod .str Tv)))))⟩)]⟩)]
def qli (n:Nat) (rec:Zt->Int->(List Yy)->Int->Int->(List Zo)->Zr->Yy->Yy->Int->Int->Yy->LQ->(List (Yy×Yy))->LQ->(List Zp)->Option Zm) (a1:List (List (Yy×Int)×Yy)) (a2:Int) (a3:List Yy) (a4:Int) (a5:Int) (a6:List Zo) (a7:List ((Yy×Qq)×(Int×Int))) (a8:Yy) (a9:Yy) (a10:Int) (a11:Int) (a12:Yy) (a13:List Qq) (a14:List (Yy×Yy)) (a15:List Qq) (a16:List Zp):Option Zm :=
 (bif decide (a5<a4) then (q0f a3 a5).bind fun x4=>(q0f a1 a5).bind fun x5=>(qc7 n () x5.1 a8 a9 a10 a11 a12 a6 a7 a13 a14 a15 a16).bind fun r6=>(q42 (Subtype.val r6.1)).bind fun (hb7:Bool)=>(bif !hb7 then some (Sum.inl ((qt4,((qgw 128 (Value.agg ⟨[(Value.int .i64 a5),(Subtype.val r6.1)]⟩)),())),((),()))) else q00 (IntKind.wrap .i64 ((x4.length:Int)+1)) fun (n8:Int)=>q00 (IntKind.wrap .i64 (r6.2.1.1.2.2.2.2.2.2.2.1+n8)) fun n9=>q00 (IntKind.wrap .i64 (a5+1)) fun n10=>rec a1 a2 a3 a4 n10 r6.2.1.2.1 r6.2.1.2.2.1 r6.2.1.1.1 r6.2.1.1.2.1 r6.2.1.1.2.2.2.2.2.2.1 n9 r6.2.1.1.2.2.2.2.2.2.2.2.1 r6.2.2.1 r6.2.2.2.1 r6.2.2.2.2.1 r6.2.2.2.2.2.1) else some (Sum.inr (((a2,((),())),((a6,(a7,((a8,(a9,((),((),((),((),(a10,(a11,(a12,((),())))))))))),()))),(a13,(a14,(a15,(a16,())))))))))
def qsl (n:Nat):Stp j3y qsp:=fun rec p=>qli n (fun a1 a2 a3 a4 a5 a6 a7 a8 a9 a10 a11 a12 a13 a14 a15 a16=>rec ((a1,(a2,((),(a3,(a4,(a5,())))))),((a6,(a7,((a8,(a9,((),((),((),((),(a10,(a11,(a12,((),())))))))))),()))),(a13,(a14,(a15,(a16,()))))))) p.1.1 p.1.2.1 p.1.2.2.2.1 p.1.2.2.2.2.1 p.1.2.2.2.2.2.1 p.2.1.1 p.2.1.2.1 p.2.1.2.2.1.1 p.2.1.2.2.1.2.1 p.2.1.2.2.1.2.2.2.2.2.2.1 p.2.1.2.2.1.2.2.2.2.2.2.2.1 p.2.1.2.2.1.2.2.2.2.2.2.2.2.1 p.2.2.1 p.2.2.2.1 p.2.2.2.2.1 p.2.2.2.2.2.1
def q3g (n m:Nat) (a1:List (List (Yy×Int)×Yy)) (a2:Int) (a3:List Yy) (a4:Int) (a5:Int) (a6:List Zo) (a7:List ((Yy×Qq)×(Int×Int))) (a8:Yy) (a9:Yy) (a10:Int) (a11:Int) (a12:Yy) (a13:List Qq) (a14:List (Yy×Yy)) (a15:List Qq) (a16:List Zp):Option Zm:=q0u (qsl n) m ((a1,(a2,((),(a3,(a4,(a5,())))))),((a6,(a7,((a8,(a9,((),((),((),((),(a10,(a11,(a12,((),())))))))))),()))),(a13,(a14,(a15,(a16,()))))))
theorem qen (n m:Nat) (a1 a2 a3 a4 a5 a6 a7 a8 a9 a10 a11 a12 a13 a14 a15 a16):q3g n (m+1) a1 a2 a3 a4 a5 a6 a7 a8 a9 a10 a11 a12 a13 a14 a15 a16=qli n (fun a1 a2 a3 a4 a5 a6 a7 a8 a9 a10 a11 a12 a13 a14 a15 a16=>q3g n m a1 a2 a3 a4 a5 a6 a7 a8 a9 a10 a11 a12 a13 a14 a15 a16) a1 a2 a3 a4 a5 a6 a7 a8 a9 a10 a11 a12 a13 a14 a15 a16:=rfl
def qaj (n:Nat) (a1:Yy):Option ((Unit×IV)×(Zq×((List Zo)×(Zr×Unit)))×Zs) :=
 (Lx.qc8 n a1).bind fun (r1:Zt×(Int×Int))=>(bif !decide (r1.2.2=(0:Int)) then none else (qgx n).bind fun r2=>(Lx.qag n a1).bind fun (r3:List Yy)=>(q3g n n r1.1 r1.2.1 r3 (r3.length:Int) (0:Int) r2.2.1.1 ([]:List ((Yy×Qq)×(Int×Int))) ([]:Yy) ([]:Yy) r1.2.1 (0:Int) ([]:Yy) [] [] [] []).bind fun o11=>Sum.elim (fun (q12:(IV×(IV×Unit))×Unit×Unit)=>none) (fun (q13:(Int×(Unit×Unit))×((List Zo)×(Zr×(Zq×Unit)))×Zs)=>(bif !decide (q13.2.1.2.2.1.2.2.2.2.2.2.2.2.1=([]:Yy)) then none else (bif decide (q13.2.1.2.2.1.1=([]:Yy)) then none else some (((),q9y),(((q13.2.1.2.2.1.1,(q13.2.1.2.2.1.2.1,((),((),((),((),(q13.2.1.2.2.1.2.2.2.2.2.2.1,(q13.2.1.2.2.1.2.2.2.2.2.2.2.1,(q13.2.1.2.2.1.2.2.2.2.2.2.2.2.1,((),())))))))))),(q13.2.1.1,(q13.2.1.2.1,()))),(q13.2.2.1,(q13.2.2.2.1,(q13.2.2.2.2.1,(q13.2.2.2.2.2.1,()))))))))) o11)
def qlw (n:Nat):FX:={ f:=37,args:=[.one (.c (.d .str))],boxes:=[],rows:=[],res:=.tup [.c (.box 29 0),.c (.d .any)],oboxes:=[(29,(90,[.d .str,.d .str,.row 44,.row 1044,.row 2044,.row 3044,.d (.int .i64),.d (.int .i64),.d .str,.mv 26,.mv 27])),(26,(2199023259655,[.d (.lst (.prod .str (.prod (.lst .str) (.prod .bool .any))))])),(27,(2199023286277,[.d (.lst (.prod (.prod .str (.prod .str Tv)) (.prod (.int .i64) (.int .i64))))]))],orows:=[(44,⟨46,true,(.prod .str Tv)⟩),(1044,⟨76,true,(.prod .str .str)⟩),(2044,⟨46,true,(.prod .str Tv)⟩),(3044,⟨77,true,(.prod (.int .i64) (.prod (.int .i64) (.prod (.int .i64) (.prod .str (.prod .str Tv)))))⟩)],F:=fun p=>qaj n p.1 }
theorem qnb (n:Nat):q9w Inv Tryz.prog (qlw n):=mkX Tryz.func37 [] [q5g qsl n] (cc (c:=j1z (qi9 n) [] [] [(1,26)]) (fun G hG=>j0z (qni n G hG)) <| cc (c:=q5v (qj8 n) [(1000000,29),(1000001,26),(1000002,27)] [(1000003,44),(1000004,1044),(1000005,2044),(1000006,3044)]) (fun G hG=>q1v (qoj n G hG)) <| cc (Lx.qti n) <| cc (Lx.qlr n) <| cn) (by kernel_rfl) ⟨ls (by intro rec p;kernel_rfl),trivial⟩ (by intro a;kernel_rfl)
end Go.Proofs.YtapfankgdkdkgaaGreatDoor.AM
namespace Go.Proofs.YtapfankgdkdkgaaGreatDoor.AM
open Go.RowKit
theorem qi1 (n:Nat) (a b:Int):q7t n a b=some (q8l a b):=by
 unfold q7t qp9 q8l
 simp only [decide_true,Bool.not_true,Option.bind_some,cond_false]
 by_cases h1:a<b
 ·simp [h1]
 ·by_cases h2:b<a
  ·simp [h1,h2]
  ·simp [h1,h2]
def q7r:List Int->Int
 | []=>0
 | x::l=>or2 x (q7r l)
theorem qno (n:Nat) (l:List Int) (hL:l.length<=1000000) : ∀m j:Nat,j<=l.length->l.length - j<m->q80 n m 0 l ((l.length:Nat):Int) (j:Int)=some (if q7r (l.drop j)=0 then Sum.inr (((0:Int),()),((),())) else Sum.inl ((q7r (l.drop j),()),((),())))
 | 0,j,_,h=>absurd h (Nat.not_lt_zero _)
 | m+1,j,hj,h=>by
  rw [qgq]
  unfold qrq
  by_cases c0:j<l.length
  ·have c0':((j:Nat):Int)<((l.length:Nat):Int):=by omega
   have ih:=qno n l hL m (j+1) (by omega) (by omega)
   have hd:l.drop j=l[j]::l.drop (j+1):=(List.drop_eq_getElem_cons c0)
   simp only [c0',decide_true,cond_true,q0l c0,Option.bind_some,q00,q05 (show j<4611686018427387904 by omega),ih,hd,q7r,or2]
   by_cases h0:l[j]=0
   ·simp [h0]
   ·simp [h0]
  ·have c0' : ¬ ((j:Nat):Int)<((l.length:Nat):Int):=by omega
   have:l.drop j = []:=List.drop_eq_nil_of_le (by omega)
   simp [c0',this,q7r]
theorem qo6 (n:Nat) (l:List Int) (hL:l.length<=1000000) (hn:l.length<n):qm2 n l=some (q7r l):=by
 unfold qm2
 have:=qno n l hL n 0 (Nat.zero_le _) (by omega)
 rw [show ((0:Nat):Int)=(0:Int) from rfl] at this
 rw [this,List.drop_zero]
 by_cases h:q7r l=0
 ·simp [h]
 ·simp [h]
theorem qnj (n:Nat) (v:VD) (hn:4<=n):qbi n v=some (q0b v):=by
 unfold qbi q0b
 rw [q44 n v hn]
 cases hc:q0r v with
 | false=>rfl
 | true =>
  obtain ⟨h1,h2,h3,h4,h5⟩:=q1a hc
  have l1:=q7l h1
  have l2:=q7l h2
  have l3:=q7l h3
  have t1:=q4a h4
  have t2:=q4a h5
  simp only [Option.bind_some,Bool.not_true,cond_false,qm8 h1,qm8 h2,qm8 h3,if_true]
  unfold j71 q4k
  generalize Lib.itoa v.1=A at l1
  generalize Lib.itoa v.2.1=B at l2
  generalize Lib.itoa v.2.2.1=C at l3
  generalize v.2.2.2.1=p at t1
  generalize v.2.2.2.2=q at t2
  rw [q2d (by simp;omega)];simp only [Option.bind_some]
  rw [q2d (by simp;omega)];simp only [Option.bind_some]
  rw [q2d (by simp;omega)];simp only [Option.bind_some]
  rw [q2d (by simp;omega)];simp only [Option.bind_some]
  rw [q2d (by simp;omega)];simp only [Option.bind_some]
  have k1:q5u [45] p=some ([45]++p):=q2d (by simp;omega)
  have k2:q5u [43] q=some ([43]++q):=q2d (by simp;omega)
  by_cases hp:p = []
  ·by_cases hq:q = []
   ·simp [hp,hq]
   ·simp only [hp,hq,decide_true,decide_false,Bool.not_true,Bool.not_false,cond_true,cond_false,k2,Option.bind_some]
    rw [q2d (by simp;omega)]
    simp
  ·by_cases hq:q = []
   ·simp only [hp,hq,decide_true,decide_false,Bool.not_true,Bool.not_false,cond_true,cond_false,k1,Option.bind_some]
    rw [q2d (by simp;omega)]
    simp
   ·simp only [hp,hq,decide_true,decide_false,Bool.not_true,Bool.not_false,cond_true,cond_false,k1,k2,Option.bind_some]
    rw [q2d (by simp;omega)];simp only [Option.bind_some]
    rw [q2d (by simp;omega)]
    simp
theorem qak (n:Nat) (c:UInt8) (s:Yy) (hs:s.length<=1000000) : ∃ b,qr9 n s [c]=some (q2b c s,(q5e c s,b)):=by
 unfold qr9 je1 qio q2b q5e
 simp only [show s.length<4294967281 from by omega,if_true,Option.bind_some]
 have hge:=Lib.index_ge s [c]
 by_cases h1:Lib.index s [c] = -1
 ·simp only [h1,show ¬ (0:Int)<=-1 from by decide,decide_false,cond_false,Option.bind_some,if_true]
  exact ⟨_,rfl⟩
 ·obtain ⟨i,hi⟩ : ∃ i:Nat,Lib.index s [c]=(i:Int):=⟨(Lib.index s [c]).toNat,by omega⟩
  have hlt:=qh0 c s i hi
  have n1 : ¬ ((i:Nat):Int) = -1:=by omega
  have n2:(0:Int)<=((i:Nat):Int):=by omega
  rw [hi]
  have w1:IntKind.wrap .i64 (((i:Nat):Int)+((List.length [c]:Nat):Int))=((i+1:Nat):Int):=q05 (by omega)
  simp only [n1,n2,decide_true,cond_true,if_false,sub_zero (show i<=s.length by omega),Option.bind_some,q00,w1,sub_le (show i+1<=s.length by omega) (Nat.le_refl _),Int.toNat_natCast]
  refine ⟨true,?_⟩
  have e6:(s.drop (i+1)).take (s.length - (i+1))=s.drop (i+1):=List.take_of_length_le (by rw [List.length_drop];exact Nat.le_refl _)
  rw [e6]
theorem qci (c:UInt8) (s:Yy):(q2b c s).length<=s.length:=by
 unfold q2b;split
 ·exact Nat.le_refl _
 ·rw [List.length_take];omega
theorem qcw (c:UInt8) (s:Yy):(q5e c s).length<=s.length:=by
 unfold q5e;split
 ·simp
 ·rw [List.length_drop];omega
theorem qbn (n:Nat) (s:Yy) (hs:s.length<=1000000) (hn:4<=n):qad n s=some (q09 s):=by
 unfold qad q09 j4q
 obtain ⟨b1,e1⟩:=qak n 43 s hs
 have l1:=qci 43 s
 have l1':=qcw 43 s
 obtain ⟨b2,e2⟩:=qak n 45 (q2b 43 s) (by omega)
 have l2:=qci 45 (q2b 43 s)
 have e3:=qwn n (q2b 45 (q2b 43 s)) (by omega)
 have l3:=qva (q2b 45 (q2b 43 s))
 obtain ⟨b4,e4⟩:=qak n 46 (q1k (q2b 45 (q2b 43 s))) (by omega)
 have l4:=qci 46 (q1k (q2b 45 (q2b 43 s)))
 have l4':=qcw 46 (q1k (q2b 45 (q2b 43 s)))
 obtain ⟨b5,e5⟩:=qak n 46 (q5e 46 (q1k (q2b 45 (q2b 43 s)))) (by omega)
 have l5:=qci 46 (q5e 46 (q1k (q2b 45 (q2b 43 s))))
 have l5':=qcw 46 (q5e 46 (q1k (q2b 45 (q2b 43 s))))
 have m1:q51 (q2b 46 (q1k (q2b 45 (q2b 43 s))))=some (qdg (q2b 46 (q1k (q2b 45 (q2b 43 s))))):=if_pos (by omega)
 have m2:q51 (q2b 46 (q5e 46 (q1k (q2b 45 (q2b 43 s)))))=some (qdg (q2b 46 (q5e 46 (q1k (q2b 45 (q2b 43 s)))))):=if_pos (by omega)
 have m3:q51 (q5e 46 (q5e 46 (q1k (q2b 45 (q2b 43 s)))))=some (qdg (q5e 46 (q5e 46 (q1k (q2b 45 (q2b 43 s)))))):=if_pos (by omega)
 simp only [e1,Option.bind_some,e2,e3,e4,e5,m1,m2,m3]
 generalize (qdg (q2b 46 (q1k (q2b 45 (q2b 43 s)))),(qdg (q2b 46 (q5e 46 (q1k (q2b 45 (q2b 43 s))))),(qdg (q5e 46 (q5e 46 (q1k (q2b 45 (q2b 43 s))))),(q5e 45 (q2b 43 s),q5e 43 s))))=v
 rw [q44 n v hn,qnj n v hn]
 cases hc:q0r v with
 | false=>simp
 | true =>
  by_cases ht:q0b v=s
  ·simp [ht]
  ·simp [ht]
theorem j4a (n:Nat) (a b:Yy) (ha:a.length<=1000000) (hb:b.length<=1000000) (hn:a.length<n/\b.length<n/\3<=n):qr7 n a b=some (jd1 a b):=by
 unfold qr7 jd1 jj5 qcy
 rw [q88 n a ha hn.1,q88 n b hb hn.2.1]
 simp only [Option.bind_some,qi1,q9l]
 cases q29 a with
 | false=>cases q29 b with
  | false =>
   simp only [cond_false,Bool.false_eq_true,if_false]
   unfold qea q8l or2
   simp
  | true =>
   simp only [cond_false,cond_true,Bool.false_eq_true,if_false,if_true]
   unfold qea q8l or2
   simp
 | true=>cases q29 b with
  | false =>
   simp only [cond_false,cond_true,Bool.false_eq_true,if_false,if_true]
   unfold qea q8l or2
   simp
  | true =>
   simp only [cond_true,if_true]
   rw [qo6 n _ (by simp) (by simp;omega)]
   simp only [Option.bind_some,q7r]
   unfold qea
   have e0:q8l (0:Int) 0=0:=by decide
   dsimp only
   rw [e0]
   unfold or2
   simp only [if_true]
   split
   ·split<;>simp_all
   ·rfl
theorem qgb (n:Nat) (l1 l2:List Yy) (h1:l1.length<=1000000) (h2:l2.length<=1000000) (hw : ∀w,w∈l1\/w∈l2->w.length<=1000000/\w.length<n) (hn:3<=n) : ∀m j:Nat,j<=l1.length->j<=l2.length->l1.length - j<m ->
  ((q54 n m l1 l2 l1 ((l1.length:Nat):Int) (j:Int)).bind fun (o5:((Int×Unit)×Unit×Unit)⊕(((List Yy)×((List Yy)×Unit))×Unit×Unit))=>Sum.elim (fun (q6:(Int×Unit)×Unit×Unit)=>some q6.1.1) (fun (q7:((List Yy)×((List Yy)×Unit))×Unit×Unit)=>(bif decide (((List.length q7.1.1:Nat):Int)<((List.length q7.1.2.1:Nat):Int)) then some (-1:Int) else some (0:Int))) o5)=some (cmpL jd1 (l1.drop j) (l2.drop j))
 | 0,j,_,_,h=>absurd h (Nat.not_lt_zero _)
 | m+1,j,hj,hj2,h=>by
  rw [qd2]
  unfold qfm
  by_cases c0:j<l1.length
  ·have c0':((j:Nat):Int)<((l1.length:Nat):Int):=by omega
   have hd:l1.drop j=l1[j]::l1.drop (j+1):=(List.drop_eq_getElem_cons c0)
   by_cases c1:j<l2.length
   ·have c1' : ¬ ((l2.length:Nat):Int)<=((j:Nat):Int):=by omega
    have hd2:l2.drop j=l2[j]::l2.drop (j+1):=(List.drop_eq_getElem_cons c1)
    have ih:=qgb n l1 l2 h1 h2 hw hn m (j+1) (by omega) (by omega) (by omega)
    have k1:=hw l1[j] (Or.inl (List.getElem_mem c0))
    have k2:=hw l2[j] (Or.inr (List.getElem_mem c1))
    have hp:=j4a n l1[j] l2[j] k1.1 k2.1 ⟨k1.2,k2.2,hn⟩
    rw [hd,hd2,cmpL]
    simp only [c0',decide_true,cond_true,q0l c0,Option.bind_some,c1',decide_false,cond_false,q0l c1,hp,q00,q05 (show j<4611686018427387904 by omega)]
    unfold or2
    by_cases h0:jd1 l1[j] l2[j]=0
    ·simp only [h0,decide_true,Bool.not_true,cond_false,if_true]
     exact ih
    ·simp only [h0,decide_false,Bool.not_false,cond_true,if_false,Option.bind_some,Sum.elim_inl]
   ·have c1':((l2.length:Nat):Int)<=((j:Nat):Int):=by omega
    have hd2:l2.drop j = []:=List.drop_eq_nil_of_le (by omega)
    rw [hd,hd2,cmpL]
    simp only [c0',decide_true,cond_true,q0l c0,Option.bind_some,c1',Sum.elim_inl]
  ·have c0' : ¬ ((j:Nat):Int)<((l1.length:Nat):Int):=by omega
   have hd:l1.drop j = []:=List.drop_eq_nil_of_le (by omega)
   simp only [c0',decide_false,cond_false,Option.bind_some,Sum.elim_inr]
   have hje:j=l1.length:=by omega
   rw [hd]
   by_cases c1:j<l2.length
   ·have hd2:l2.drop j=l2[j]::l2.drop (j+1):=(List.drop_eq_getElem_cons c1)
    have c2:((l1.length:Nat):Int)<((l2.length:Nat):Int):=by omega
    rw [hd2]
    simp only [c2,decide_true,cond_true,cmpL]
   ·have hd2:l2.drop j = []:=List.drop_eq_nil_of_le (by omega)
    have c2 : ¬ ((l1.length:Nat):Int)<((l2.length:Nat):Int):=by omega
    rw [hd2]
    simp only [c2,decide_false,cond_false,cmpL]
theorem qtg (n:Nat) (l1 l2:List Yy) (h1:l1.length<=1000000) (h2:l2.length<=1000000) (hw : ∀w,w∈l1\/w∈l2->w.length<=1000000/\w.length<n) (hn:3<=n) (hn2:l1.length<n):ql1 n l1 l2 ()=some (cmpL jd1 l1 l2):=by
 have:=qgb n l1 l2 h1 h2 hw hn n 0 (Nat.zero_le _) (Nat.zero_le _) (by omega)
 rw [List.drop_zero,List.drop_zero] at this
 exact this
theorem j8r (n:Nat) (a b:Yy) (ha:a.length<=100000) (hb:b.length<=100000) (hn:a.length+3<n/\b.length+3<n):j34 n a b=some (qa1 a b):=by
 unfold j34
 by_cases hab:a=b
 ·subst hab
  rw [j43.refl]
  simp
 ·simp only [hab,decide_false,cond_false]
  by_cases h1:a = []
  ·have hb0:b ≠ []:=fun e=>hab (by rw [h1,e])
   simp only [h1,decide_true,cond_true]
   unfold qa1 qea j98 q8l or2
   simp [hb0]
  ·simp only [h1,decide_false,cond_false]
   by_cases h2:b = []
   ·simp only [h2,decide_true,cond_true]
    unfold qa1 qea j98 q8l or2
    simp [h1]
   ·simp only [h2,decide_false,cond_false]
    have s1:q8j a [46]=some (spl 46 [] a):=if_pos (by omega)
    have s2:q8j b [46]=some (spl 46 [] b):=if_pos (by omega)
    have k1:=q45 46 a []
    have k2:=q45 46 b []
    rw [s1,s2]
    simp only [Option.bind_some]
    rw [qtg n _ _ (by omega) (by omega) (fun w hw=>by
     rcases hw with hw|hw
     ·have:=q4l 46 a [] w hw;simp at this;omega
     ·have:=q4l 46 b [] w hw;simp at this;omega) (by omega) (by omega)]
    unfold qa1 j98
    simp only [h1,h2,if_false]
    unfold qea
    have e0:q8l (0:Int) 0=0:=by decide
    dsimp only
    rw [e0]
    unfold or2
    simp
theorem qqg (n:Nat) (a b:VD) (hn:100<=n):qar n a b=some (j41 a b):=by
 unfold qar j41
 rw [q44 n a (by omega),q44 n b (by omega)]
 cases hca:q0r a with
 | false=>rfl
 | true=>cases hcb:q0r b with
  | false=>rfl
  | true =>
   obtain ⟨-,-,-,h4,-⟩:=q1a hca
   obtain ⟨-,-,-,k4,-⟩:=q1a hcb
   have t1:=q4a h4
   have t2:=q4a k4
   simp only [Option.bind_some,Bool.not_true,cond_false,qi1]
   rw [j8r n _ _ (by omega) (by omega) ⟨by omega,by omega⟩]
   simp only [Option.bind_some]
   rw [qo6 n _ (by simp) (by simp;omega)]
   simp only [Option.bind_some,q7r,Bool.and_self,if_true]
   have z0 : ∀x:Int,or2 x 0=x:=fun x=>by unfold or2;split<;>simp_all
   rw [z0]
   rfl
end Go.Proofs.YtapfankgdkdkgaaGreatDoor.AM
