
import Derived.Test.YtapfankgdkdkgaaGreatDoorEa16
import Derived.Test.YtapfankgdkdkgaaGreatDoorEa14
import Derived.Deep.QuietTactic
import Derived.Test.YtapfankgdkdkgaaGreatDoorEa12
set_option linter.unusedVariables false
set_option linter.unusedSimpArgs false
set_option maxRecDepth 20000
namespace Go.Proofs.YtapfankgdkdkgaaGreatDoor.AM
open Go.RowKit
abbrev Ze:=((IV×(IV×Unit))×Unit×Unit)⊕((Int×(Unit×Unit))×((List (Yy×(List Yy×(Bool×IV))))×((List ((Yy×Qq)×(Int×Int)))×((Yy×(Yy×(Unit×(Unit×(Unit×(Unit×(Int×(Int×(Yy×(Unit×Unit))))))))))×Unit)))×(LQ×((List (Yy×Yy))×(LQ×((List (Int×(Int×(Int×(Yy×Qq)))))×Unit)))))
abbrev Zf:=(IV)×((Yy×(Yy×(Unit×(Unit×(Unit×(Unit×(Int×(Int×(Yy×(Unit×Unit))))))))))×((List (Yy×(List Yy×(Bool×IV))))×((List ((Yy×Qq)×(Int×Int)))×Unit)))×(LQ×((List (Yy×Yy))×(LQ×((List (Int×(Int×(Int×(Yy×Qq)))))×Unit))))
abbrev Zg:=Yy×(List Yy×(Bool×IV))
abbrev Zh:=Int×(Int×(Int×(Yy×Qq)))
abbrev Zi:=Yy×(Yy×(Unit×(Unit×(Unit×(Unit×(Int×(Int×(Yy×(Unit×Unit)))))))))
abbrev Zj:=List ((Yy×Qq)×(Int×Int))
abbrev Zk:=LQ×((List (Yy×Yy))×(LQ×((List Zh)×Unit)))
abbrev Zl:=List (List (Yy×Int)×Yy)
def q4q (n:Nat) (a1:Unit) (a2:Yy) (a3:List (Yy×Int)) (b1:Yy) (b2:Yy) (b3:Int) (b4:Int) (b5:Yy) (b6:List Zg) (b7:List ((Yy×Qq)×(Int×Int))) (b8:List Qq) (b9:List (Yy×Yy)) (b10:List Qq) (b11:List Zh):Option Zf :=
 qfl (q73 a2 b6) (fun (y1:List Yy×(Bool×IV))=>(q5d n a3).bind fun r3=>(q3n n y1.1 r3).bind fun r4=>(bif !r4 then some ((qbb 126 (Value.agg ⟨[(Value.int .i64 (10:Int))]⟩)),(((b1,(b2,((),((),((),((),(b3,(b4,(b5,((),())))))))))),(b6,(b7,()))),(b8,(b9,(b10,(b11,())))))) else (qmp n a3).bind fun r5=>(bif j12 92 y1.2.2 then (q51 n () r5 b1 b2 b3 b4 b5 b6 b7 b8 b9 b10 b11).bind fun r6=>some (r6.1,(((r6.2.1.1.1,(r6.2.1.1.2.1,((),((),((),((),(r6.2.1.1.2.2.2.2.2.2.1,(r6.2.1.1.2.2.2.2.2.2.2.1,(r6.2.1.1.2.2.2.2.2.2.2.2.1,((),())))))))))),(r6.2.1.2.1,(r6.2.1.2.2.1,()))),(r6.2.2.1,(r6.2.2.2.1,(r6.2.2.2.2.1,(r6.2.2.2.2.2.1,())))))) else (bif j12 91 y1.2.2 then (q56 n () r5 b1 b2 b3 b4 b5 b6 b7 b8 b9 b10 b11).bind fun r7=>some (r7.1,(((r7.2.1.1.1,(r7.2.1.1.2.1,((),((),((),((),(r7.2.1.1.2.2.2.2.2.2.1,(r7.2.1.1.2.2.2.2.2.2.2.1,(r7.2.1.1.2.2.2.2.2.2.2.2.1,((),())))))))))),(r7.2.1.2.1,(r7.2.1.2.2.1,()))),(r7.2.2.1,(r7.2.2.2.1,(r7.2.2.2.2.1,(r7.2.2.2.2.2.1,())))))) else (bif j12 90 y1.2.2 then (q57 n () r5 b1 b2 b3 b4 b5 b6 b7 b8 b9 b10 b11).bind fun r8=>some (r8.1,(((r8.2.1.1.1,(r8.2.1.1.2.1,((),((),((),((),(r8.2.1.1.2.2.2.2.2.2.1,(r8.2.1.1.2.2.2.2.2.2.2.1,(r8.2.1.1.2.2.2.2.2.2.2.2.1,((),())))))))))),(r8.2.1.2.1,(r8.2.1.2.2.1,()))),(r8.2.2.1,(r8.2.2.2.1,(r8.2.2.2.2.1,(r8.2.2.2.2.2.1,())))))) else (bif j12 89 y1.2.2 then (q4z n () r5 b1 b2 b3 b4 b5 b6 b7 b8 b9 b10 b11).bind fun r9=>some (r9.1,(((r9.2.1.1.1,(r9.2.1.1.2.1,((),((),((),((),(r9.2.1.1.2.2.2.2.2.2.1,(r9.2.1.1.2.2.2.2.2.2.2.1,(r9.2.1.1.2.2.2.2.2.2.2.2.1,((),())))))))))),(r9.2.1.2.1,(r9.2.1.2.2.1,()))),(r9.2.2.1,(r9.2.2.2.1,(r9.2.2.2.2.1,(r9.2.2.2.2.2.1,())))))) else (bif j12 88 y1.2.2 then (q49 n () r5 b1 b2 b3 b4 b5 b6 b7 b8 b9 b10 b11).bind fun r10=>some (r10.1,(((r10.2.1.1.1,(r10.2.1.1.2.1,((),((),((),((),(r10.2.1.1.2.2.2.2.2.2.1,(r10.2.1.1.2.2.2.2.2.2.2.1,(r10.2.1.1.2.2.2.2.2.2.2.2.1,((),())))))))))),(r10.2.1.2.1,(r10.2.1.2.2.1,()))),(r10.2.2.1,(r10.2.2.2.1,(r10.2.2.2.2.1,(r10.2.2.2.2.2.1,())))))) else (bif j12 87 y1.2.2 then (q6f n () r5 b1 b2 b3 b4 b5 b6 b7 b8 b9 b10 b11).bind fun r11=>some (r11.1,(((r11.2.1.1.1,(r11.2.1.1.2.1,((),((),((),((),(r11.2.1.1.2.2.2.2.2.2.1,(r11.2.1.1.2.2.2.2.2.2.2.1,(r11.2.1.1.2.2.2.2.2.2.2.2.1,((),())))))))))),(r11.2.1.2.1,(r11.2.1.2.2.1,()))),(r11.2.2.1,(r11.2.2.2.1,(r11.2.2.2.2.1,(r11.2.2.2.2.2.1,())))))) else none)))))))) ((q5d n a3).bind fun r12=>(q3n n [] r12).bind fun r13=>(bif !r13 then some ((qbb 126 (Value.agg ⟨[(Value.int .i64 (10:Int))]⟩)),(((b1,(b2,((),((),((),((),(b3,(b4,(b5,((),())))))))))),(b6,(b7,()))),(b8,(b9,(b10,(b11,())))))) else (qmp n a3).bind fun r14=>none))
def qey (n:Nat):FX:={ f:=97,args:=[.one (.c (.box 1000000 0)),.one (.c (.d .str)),.one (.c (.d (.lst (.prod .str (.int .i64)))))],boxes:=[(1000000,(90,[.d .str,.d .str,.row 1000003,.row 1000004,.row 1000005,.row 1000006,.d (.int .i64),.d (.int .i64),.d .str,.mv 1000001,.mv 1000002])),(1000001,(2199023259655,[.d (.lst (.prod .str (.prod (.lst .str) (.prod .bool .any))))])),(1000002,(2199023286277,[.d (.lst (.prod (.prod .str (.prod .str Tv)) (.prod (.int .i64) (.int .i64))))]))],rows:=[(1000003,⟨46,true,(.prod .str Tv)⟩),(1000004,⟨76,true,(.prod .str .str)⟩),(1000005,⟨46,true,(.prod .str Tv)⟩),(1000006,⟨77,true,(.prod (.int .i64) (.prod (.int .i64) (.prod (.int .i64) (.prod .str (.prod .str Tv)))))⟩)],res:=.one (.c (.d .any)),oboxes:=[(1000000,(90,[.d .str,.d .str,.row 1000003,.row 1000004,.row 1000005,.row 1000006,.d (.int .i64),.d (.int .i64),.d .str,.mv 1000001,.mv 1000002])),(1000001,(2199023259655,[.d (.lst (.prod .str (.prod (.lst .str) (.prod .bool .any))))])),(1000002,(2199023286277,[.d (.lst (.prod (.prod .str (.prod .str Tv)) (.prod (.int .i64) (.int .i64))))]))],orows:=[(1000003,⟨46,true,(.prod .str Tv)⟩),(1000004,⟨76,true,(.prod .str .str)⟩),(1000005,⟨46,true,(.prod .str Tv)⟩),(1000006,⟨77,true,(.prod (.int .i64) (.prod (.int .i64) (.prod (.int .i64) (.prod .str (.prod .str Tv)))))⟩)],F:=fun p=>q4q n p.1.1 p.1.2.1 p.1.2.2 p.2.1.1.1 p.2.1.1.2.1 p.2.1.1.2.2.2.2.2.2.1 p.2.1.1.2.2.2.2.2.2.2.1 p.2.1.1.2.2.2.2.2.2.2.2.1 p.2.1.2.1 p.2.1.2.2.1 p.2.2.1 p.2.2.2.1 p.2.2.2.2.1 p.2.2.2.2.2.1 }
def qym:q1l:=[(2,[⟨12582915*2^21,2^42,0⟩,⟨51380225*2^22,2^45,1⟩,⟨1688849860264000,2^48,0⟩,⟨49*2^48,2^51,4⟩,⟨3137*2^45,2^54,15⟩,⟨49*2^54,2^57,31⟩]),(1000002,[]),(4,[⟨211106232532995*2^21,2^66,0⟩,⟨862017116176385*2^22,2^69,1⟩,⟨16905424996341287883274873117328531408603114433155888708094742688853564881815195503181352188405030012629580639784228117724235121904085937192017247310814066461068373887968162693399408565645646113696775453062758028932736905368049975642828700760545167275999433485945487228929,2^72,0⟩,⟨226673591177742970257472,2^75,0⟩,⟨49*2^75,2^78,8⟩,⟨0,0,31⟩,⟨0,0,63⟩]),(3000004,[⟨5,0,0⟩])]
theorem qh1 (n:Nat):q62 Inv Tryz.prog (qey n):=mkX Tryz.func97 qym [] (cc (c:=q3s (qaj n) [(1000000,1000000),(1000001,1000001),(1000002,1000002)] [(1000003,1000003),(1000004,1000004),(1000005,1000005),(1000006,1000006)]) (fun G hG=>q15 (qiz n G hG)) <| cc (c:=q3s (qar n) [(1000000,1000000),(1000001,1000001),(1000002,1000002)] [(1000003,1000003),(1000004,1000004),(1000005,1000005),(1000006,1000006)]) (fun G hG=>q15 (qju n G hG)) <| cc (c:=q3s (qax n) [(1000000,1000000),(1000001,1000001),(1000002,1000002)] [(1000003,1000003),(1000004,1000004),(1000005,1000005),(1000006,1000006)]) (fun G hG=>q15 (qji n G hG)) <| cc (c:=q3s (qad n) [(1000000,1000000),(1000001,1000001),(1000002,1000002)] [(1000003,1000003),(1000004,1000004),(1000005,1000005),(1000006,1000006)]) (fun G hG=>q15 (qjd n G hG)) <| cc (c:=q3s (q94 n) [(1000000,1000000),(1000001,1000001),(1000002,1000002)] [(1000003,1000003),(1000004,1000004),(1000005,1000005),(1000006,1000006)]) (fun G hG=>q15 (qfu n G hG)) <| cc (c:=q3s (qeq n) [(1000000,1000000),(1000001,1000001),(1000002,1000002)] [(1000003,1000003),(1000004,1000004),(1000005,1000005),(1000006,1000006)]) (fun G hG=>q15 (qne n G hG)) <| cc (qdc n) <| cc (qma n) <| cc (j5y n) <| cn) (by kernel_rfl) trivial (by intro a;kernel_rfl)
def qjp (n:Nat) (a1:Unit) (a2:Yy) (a3:List (Yy×Int)) (b1:Yy) (b2:Yy) (b3:Int) (b4:Int) (b5:Yy) (b6:List Zg) (b7:List ((Yy×Qq)×(Int×Int))) (b8:List Qq) (b9:List (Yy×Yy)) (b10:List Qq) (b11:List Zh):Option Zf :=
 qfl (q73 a2 b6) (fun (y1:List Yy×(Bool×IV))=>(bif y1.2.1 then (q5d n a3).bind fun r3=>(bif decide (r3=([40]:Yy)) then some (q6a,(((b1,(b2,((),((),((),((),(b3,(b4,(a2,((),())))))))))),(b6,(b7,()))),(b8,(b9,(b10,(b11,())))))) else (q4q n () a2 a3 b1 b2 b3 b4 b5 b6 b7 b8 b9 b10 b11).bind fun r4=>some (r4.1,(((r4.2.1.1.1,(r4.2.1.1.2.1,((),((),((),((),(r4.2.1.1.2.2.2.2.2.2.1,(r4.2.1.1.2.2.2.2.2.2.2.1,(r4.2.1.1.2.2.2.2.2.2.2.2.1,((),())))))))))),(r4.2.1.2.1,(r4.2.1.2.2.1,()))),(r4.2.2.1,(r4.2.2.2.1,(r4.2.2.2.2.1,(r4.2.2.2.2.2.1,()))))))) else (q4q n () a2 a3 b1 b2 b3 b4 b5 b6 b7 b8 b9 b10 b11).bind fun r5=>some (r5.1,(((r5.2.1.1.1,(r5.2.1.1.2.1,((),((),((),((),(r5.2.1.1.2.2.2.2.2.2.1,(r5.2.1.1.2.2.2.2.2.2.2.1,(r5.2.1.1.2.2.2.2.2.2.2.2.1,((),())))))))))),(r5.2.1.2.1,(r5.2.1.2.2.1,()))),(r5.2.2.1,(r5.2.2.2.1,(r5.2.2.2.2.1,(r5.2.2.2.2.2.1,())))))))) ((q4q n () a2 a3 b1 b2 b3 b4 b5 b6 b7 b8 b9 b10 b11).bind fun r6=>some (r6.1,(((r6.2.1.1.1,(r6.2.1.1.2.1,((),((),((),((),(r6.2.1.1.2.2.2.2.2.2.1,(r6.2.1.1.2.2.2.2.2.2.2.1,(r6.2.1.1.2.2.2.2.2.2.2.2.1,((),())))))))))),(r6.2.1.2.1,(r6.2.1.2.2.1,()))),(r6.2.2.1,(r6.2.2.2.1,(r6.2.2.2.2.1,(r6.2.2.2.2.2.1,())))))))
def qst (n:Nat):FX:={ f:=95,args:=[.one (.c (.box 1000000 0)),.one (.c (.d .str)),.one (.c (.d (.lst (.prod .str (.int .i64)))))],boxes:=[(1000000,(90,[.d .str,.d .str,.row 1000003,.row 1000004,.row 1000005,.row 1000006,.d (.int .i64),.d (.int .i64),.d .str,.mv 1000001,.mv 1000002])),(1000001,(2199023259655,[.d (.lst (.prod .str (.prod (.lst .str) (.prod .bool .any))))])),(1000002,(2199023286277,[.d (.lst (.prod (.prod .str (.prod .str Tv)) (.prod (.int .i64) (.int .i64))))]))],rows:=[(1000003,⟨46,true,(.prod .str Tv)⟩),(1000004,⟨76,true,(.prod .str .str)⟩),(1000005,⟨46,true,(.prod .str Tv)⟩),(1000006,⟨77,true,(.prod (.int .i64) (.prod (.int .i64) (.prod (.int .i64) (.prod .str (.prod .str Tv)))))⟩)],res:=.one (.c (.d .any)),oboxes:=[(1000000,(90,[.d .str,.d .str,.row 1000003,.row 1000004,.row 1000005,.row 1000006,.d (.int .i64),.d (.int .i64),.d .str,.mv 1000001,.mv 1000002])),(1000001,(2199023259655,[.d (.lst (.prod .str (.prod (.lst .str) (.prod .bool .any))))])),(1000002,(2199023286277,[.d (.lst (.prod (.prod .str (.prod .str Tv)) (.prod (.int .i64) (.int .i64))))]))],orows:=[(1000003,⟨46,true,(.prod .str Tv)⟩),(1000004,⟨76,true,(.prod .str .str)⟩),(1000005,⟨46,true,(.prod .str Tv)⟩),(1000006,⟨77,true,(.prod (.int .i64) (.prod (.int .i64) (.prod (.int .i64) (.prod .str (.prod .str Tv)))))⟩)],F:=fun p=>qjp n p.1.1 p.1.2.1 p.1.2.2 p.2.1.1.1 p.2.1.1.2.1 p.2.1.1.2.2.2.2.2.2.1 p.2.1.1.2.2.2.2.2.2.2.1 p.2.1.1.2.2.2.2.2.2.2.2.1 p.2.1.2.1 p.2.1.2.2.1 p.2.2.1 p.2.2.2.1 p.2.2.2.2.1 p.2.2.2.2.2.1 }
theorem qw2 (n:Nat):q62 Inv Tryz.prog (qst n):=mkX Tryz.func95 [] [] (cc (c:=q3s (qey n) [(1000000,1000000),(1000001,1000001),(1000002,1000002)] [(1000003,1000003),(1000004,1000004),(1000005,1000005),(1000006,1000006)]) (fun G hG=>q15 (qh1 n G hG)) <| cc (qdc n) <| cn) (by kernel_rfl) trivial (by intro a;kernel_rfl)
def q8x (n:Nat) (a1:Unit) (a2:List (Yy×Int)) (b1:Yy) (b2:Yy) (b3:Int) (b4:Int) (b5:Yy) (b6:List Zg) (b7:List ((Yy×Qq)×(Int×Int))) (b8:List Qq) (b9:List (Yy×Yy)) (b10:List Qq) (b11:List Zh):Option Zf :=
 (bif decide ((a2.length:Int)=0) then some (q6a,(((b1,(b2,((),((),((),((),(b3,(b4,(b5,((),())))))))))),(b6,(b7,()))),(b8,(b9,(b10,(b11,())))))) else (bif decide (b5=([]:Yy)) then (q1t a2 (0:Int)).bind fun x1=>(q1c a2 (1:Int) (a2.length:Int)).bind fun s2=>(qjp n () x1.1 s2 b1 b2 b3 b4 b5 b6 b7 b8 b9 b10 b11).bind fun r3=>some (r3.1,(((r3.2.1.1.1,(r3.2.1.1.2.1,((),((),((),((),(r3.2.1.1.2.2.2.2.2.2.1,(r3.2.1.1.2.2.2.2.2.2.2.1,(r3.2.1.1.2.2.2.2.2.2.2.2.1,((),())))))))))),(r3.2.1.2.1,(r3.2.1.2.2.1,()))),(r3.2.2.1,(r3.2.2.2.1,(r3.2.2.2.2.1,(r3.2.2.2.2.2.1,())))))) else (q5d n a2).bind fun r4=>(bif decide (r4=([41]:Yy)) then some (q6a,(((b1,(b2,((),((),((),((),(b3,(b4,(([]:Yy),((),())))))))))),(b6,(b7,()))),(b8,(b9,(b10,(b11,())))))) else (q4q n () b5 a2 b1 b2 b3 b4 b5 b6 b7 b8 b9 b10 b11).bind fun r5=>some (r5.1,(((r5.2.1.1.1,(r5.2.1.1.2.1,((),((),((),((),(r5.2.1.1.2.2.2.2.2.2.1,(r5.2.1.1.2.2.2.2.2.2.2.1,(r5.2.1.1.2.2.2.2.2.2.2.2.1,((),())))))))))),(r5.2.1.2.1,(r5.2.1.2.2.1,()))),(r5.2.2.1,(r5.2.2.2.1,(r5.2.2.2.2.1,(r5.2.2.2.2.2.1,())))))))))
def qck (n:Nat):FX:={ f:=65,args:=[.one (.c (.box 1000000 0)),.one (.c (.d (.lst (.prod .str (.int .i64)))))],boxes:=[(1000000,(90,[.d .str,.d .str,.row 1000003,.row 1000004,.row 1000005,.row 1000006,.d (.int .i64),.d (.int .i64),.d .str,.mv 1000001,.mv 1000002])),(1000001,(2199023259655,[.d (.lst (.prod .str (.prod (.lst .str) (.prod .bool .any))))])),(1000002,(2199023286277,[.d (.lst (.prod (.prod .str (.prod .str Tv)) (.prod (.int .i64) (.int .i64))))]))],rows:=[(1000003,⟨46,true,(.prod .str Tv)⟩),(1000004,⟨76,true,(.prod .str .str)⟩),(1000005,⟨46,true,(.prod .str Tv)⟩),(1000006,⟨77,true,(.prod (.int .i64) (.prod (.int .i64) (.prod (.int .i64) (.prod .str (.prod .str Tv)))))⟩)],res:=.one (.c (.d .any)),oboxes:=[(1000000,(90,[.d .str,.d .str,.row 1000003,.row 1000004,.row 1000005,.row 1000006,.d (.int .i64),.d (.int .i64),.d .str,.mv 1000001,.mv 1000002])),(1000001,(2199023259655,[.d (.lst (.prod .str (.prod (.lst .str) (.prod .bool .any))))])),(1000002,(2199023286277,[.d (.lst (.prod (.prod .str (.prod .str Tv)) (.prod (.int .i64) (.int .i64))))]))],orows:=[(1000003,⟨46,true,(.prod .str Tv)⟩),(1000004,⟨76,true,(.prod .str .str)⟩),(1000005,⟨46,true,(.prod .str Tv)⟩),(1000006,⟨77,true,(.prod (.int .i64) (.prod (.int .i64) (.prod (.int .i64) (.prod .str (.prod .str Tv)))))⟩)],F:=fun p=>q8x n p.1.1 p.1.2 p.2.1.1.1 p.2.1.1.2.1 p.2.1.1.2.2.2.2.2.2.1 p.2.1.1.2.2.2.2.2.2.2.1 p.2.1.1.2.2.2.2.2.2.2.2.1 p.2.1.2.1 p.2.1.2.2.1 p.2.2.1 p.2.2.2.1 p.2.2.2.2.1 p.2.2.2.2.2.1 }
def qyo:q1l:=[(4,[⟨16905424996341287883274873117328531408603114433155888708094742688853564881815195503181352188405030012629580639784228117724235121904085937192017247310814066461068373887968162693399408565645646113696775453062758028932736905368049975642828700760545167247665234799833848479745,2^45,0⟩,⟨1688849860263944,2^48,0⟩,⟨49*2^48,2^51,2⟩,⟨49*2^51,2^54,6⟩,⟨49*2^54,2^57,14⟩,⟨6917529027641081864,2^60,0⟩,⟨49*2^60,2^63,32⟩,⟨0,0,127⟩,⟨0,0,255⟩]),(3000004,[⟨7,0,0⟩])]
theorem qh8 (n:Nat):q62 Inv Tryz.prog (qck n):=mkX Tryz.func65 qyo [] (cc (c:=q3s (qst n) [(1000000,1000000),(1000001,1000001),(1000002,1000002)] [(1000003,1000003),(1000004,1000004),(1000005,1000005),(1000006,1000006)]) (fun G hG=>q15 (qw2 n G hG)) <| cc (c:=q3s (qey n) [(1000000,1000000),(1000001,1000001),(1000002,1000002)] [(1000003,1000003),(1000004,1000004),(1000005,1000005),(1000006,1000006)]) (fun G hG=>q15 (qh1 n G hG)) <| cc (qdc n) <| cn) (by kernel_rfl) trivial (by intro a;kernel_rfl)
end Go.Proofs.YtapfankgdkdkgaaGreatDoor.AM
namespace Go.Proofs
open Go.RowKit Go.Shelf Go.Lib
namespace YtapfankgdkdkgaaGreatDoor.AM
theorem j4a (n:Int) (c:Value) (h1:c.oneCell'=true) (tb:Nat) (old old':Value) (w:World) (hI:Inv w) (ht0:w.cell? ⟨tb,0,none⟩=some old) (hf0:w.frozen? ⟨tb,0,none⟩=false) (ht0':w.cell? ⟨tb,1,none⟩=some old') (hf0':w.frozen? ⟨tb,1,none⟩=false) :
  Calls Tryz.prog 66 #[.iface 128 (.agg #[.int .i64 n,c]),.iface 135 (.pointer (some ⟨tb,0,none⟩))] w fun ev w'=>ev = .returned (.bool true)/\Below tb w w'/\w'.cell? ⟨tb,0,none⟩=some (.int .i64 n)/\(∀b,tb<b->b<w.heap.size->w'.heap[b]? = w.heap[b]?):=by
 have htl:tb<w.heap.size:=World.block_lt_of_cell? _ _ ht0
 refine (j7i n c h1 tb old old' w hI.errT ht0 hf0 ht0' hf0').mono ?_
 rintro ev w' ⟨rfl,rfl⟩
 have b0:Below w.heap.size w ((((w.alloc (.cells #[.pointer (some ⟨tb,0,none⟩)] 135)).alloc (.cells #[.pointer (some ⟨gC,135,none⟩),.pointer (some ⟨w.heap.size,0,none⟩),.int .u64 150] 167)).alloc (.cells #[.pointer (some ⟨gC,135,none⟩),.pointer (some ⟨w.heap.size,0,none⟩),.int .u64 150] 167)).alloc (.cells #[.int .i64 n,c] 128)):=((((Below.refl _ _).alloc (by omega) _).alloc (by simp) _).alloc (by simp;omega) _).alloc (by simp;omega) _
 refine ⟨rfl,Below.setCell (p:=⟨tb,1,none⟩) (Below.setCell (p:=⟨tb,0,none⟩) (b0.mono (by omega)) (Nat.le_refl tb) _) (Nat.le_refl tb) _,?_,fun b hb hlt=>?_⟩
 ·refine (World.cell?_setCell_other _ _ _ _ (show (⟨tb,1,none⟩:Addr)≠⟨tb,0,none⟩ from by simp)).trans ?_
  refine World.cell?_setCell_same _ _ _ (u:=old) ?_
  rw [World.cell?_alloc_lt _ _ ⟨tb,0,none⟩ (by simp;omega),World.cell?_alloc_lt _ _ ⟨tb,0,none⟩ (by simp;omega),World.cell?_alloc_lt _ _ ⟨tb,0,none⟩ (by simp;omega),World.cell?_alloc_lt _ _ ⟨tb,0,none⟩ htl,ht0]
 ·rw [Below.heap_setCell _ _ _ _ (by simp;omega),Below.heap_setCell _ _ _ _ (by simp;omega)]
  exact b0.block b hlt
theorem j4f (m n:Int) (tb:Nat) (old:Value) (w:World) (hI:Inv w) (ht0:w.cell? ⟨tb,0,none⟩=some old) (hf0:w.frozen? ⟨tb,0,none⟩=false) :
  Calls Tryz.prog 66 #[.iface 128 (.agg #[.int .i64 m,.iface 126 (.agg #[.int .i64 n])]),.iface 136 (.pointer (some ⟨tb,0,none⟩))] w fun ev w'=>ev = .returned (.bool true)/\Below tb w w'/\w'.cell? ⟨tb,0,none⟩=some (.int .i64 n):=by
 have htl:tb<w.heap.size:=World.block_lt_of_cell? _ _ ht0
 refine (j6x m n tb old w hI.errT ht0 hf0).mono ?_
 rintro ev w' ⟨rfl,rfl⟩
 refine ⟨rfl,Below.setCell (p:=⟨tb,0,none⟩) ?_ (Nat.le_refl tb) _,?_⟩
 ·exact (((((Below.refl _ _).alloc (by omega) _).alloc (by simp;omega) _).alloc (by simp;omega) _).alloc (by simp;omega) _).alloc (by simp;omega) _
 refine World.cell?_setCell_same _ _ _ (u:=old) ?_
 rw [World.cell?_alloc_lt _ _ ⟨tb,0,none⟩ (by simp;omega),World.cell?_alloc_lt _ _ ⟨tb,0,none⟩ (by simp;omega),World.cell?_alloc_lt _ _ ⟨tb,0,none⟩ (by simp;omega),World.cell?_alloc_lt _ _ ⟨tb,0,none⟩ (by simp;omega),World.cell?_alloc_lt _ _ ⟨tb,0,none⟩ htl,ht0]
set_option maxHeartbeats 2000000 in
theorem qtg (m n:Int) (w:World) (hI:Inv w):Calls Tryz.prog 38 #[.iface 128 (.agg #[.int .i64 m,.iface 126 (.agg #[.int .i64 n])])] w fun e w'=>e = .returned (.tuple #[.int .i64 m,.int .i64 n])/\Below w.heap.size w w':=by
 go_enter Tryz.func38,Tryz.ntmps38
 go_wp2_with fail
 have b1:Below w.heap.size w ((w.alloc (.cells #[.int .i64 0,.nilIface] 128)).alloc (.cells #[.int .i64 0] 126)):=((Below.refl _ _).alloc (Nat.le_refl _) _).alloc (by simp) _
 refine (j4a m (.iface 126 (.agg #[.int .i64 n])) rfl w.heap.size (.int .i64 0) .nilIface _ (hI.below b1) (by simp) (by simp) (by simp) (by simp)).mono ?_
 rintro e w1 ⟨rfl,b2,c1,k1⟩
 have k2:w1.heap[w.heap.size+1]? = some (.cells #[.int .i64 0] 126 (0,0)):=by
  rw [k1 _ (by omega) (by simp)]
  have:=heap_alloc_new (w.alloc (.cells #[.int .i64 0,.nilIface] 128)) (.cells #[.int .i64 0] 126)
  simpa using this
 have q1:w1.cell? ⟨w.heap.size+1,0,none⟩=some (.int .i64 0):=by rw [cell_of_row w1 _ 0 _ _ _ k2];rfl
 have q2:w1.frozen? ⟨w.heap.size+1,0,none⟩=false:=by simp [World.frozen?,k2]
 have b3:Below w.heap.size w w1:=b1.trans (b2.mono (by omega))
 go_wp2_with fail
 refine (j4f m n (w.heap.size+1) (.int .i64 0) w1 (hI.below b3) q1 q2).mono ?_
 rintro e w2 ⟨rfl,b4,c2⟩
 have c3:w2.cell? ⟨w.heap.size,0,none⟩=some (.int .i64 m):=(b4.cell (p:=⟨w.heap.size,0,none⟩) (by simp)).trans c1
 have b5:Below w.heap.size w w2:=b3.trans (b4.mono (by omega))
 go_wp2
 go_quiet (fail)
 go_wp2
 go_ret2
 exact ⟨rfl,below_drewN b5 _⟩
def j8r (v:Value):Option (Int×Int):=match v with
 | .iface T (.agg ⟨[.int .i64 m,.iface U (.agg ⟨[.int .i64 n]⟩)]⟩)=>bif Nat.beq T 128&&Nat.beq U 126 then some (m,n) else none
 | _=>none
def qj2 (v:IV):Option (Int×Int):=j8r (Subtype.val v)
def j1r:FC:={ f:=38,args:=[.one (.c (.d .any))],res:=.tup [.c (.d (.int .i64)),.c (.d (.int .i64))],F:=qj2 }
theorem j3m:q08 Inv Tryz.prog j1r:=fun G hG=>⟨⟨by kernel_rfl,fun (a:IV) r h=>by
 intro Pc w vs hGw hlt hv
 have hI:Inv w:=hG.im w hGw
 obtain ⟨vl⟩:=vs
 match vl,hv with
 | [x],⟨q1,_⟩ =>
  obtain rfl:x=Subtype.val a:=q04 q1
  replace h:j8r (Subtype.val a)=some r:=h
  unfold j8r at h
  split at h
  ·rename_i T m U n hv
   cases hT:(Nat.beq T 128&&Nat.beq U 126) with
   | false=>rw [hT] at h;cases h
   | true =>
    rw [hT] at h
    obtain rfl:(m,n)=r:=Option.some.inj h
    obtain ⟨h1,h2⟩:=Bool.and_eq_true_iff.1 hT
    obtain rfl:=Nat.eq_of_beq_eq_true h1
    obtain rfl:=Nat.eq_of_beq_eq_true h2
    rw [hv]
    refine (qtg m n w hI).mono ?_
    rintro e w' ⟨rfl,b⟩
    exact q2l rfl b ⟨#[.int .i64 m,.int .i64 n],rfl,DatRep.v _,DatRep.v _,trivial⟩
  ·cases h⟩,rfl⟩
end YtapfankgdkdkgaaGreatDoor.AM
end Go.Proofs
namespace Go.Proofs.YtapfankgdkdkgaaGreatDoor.AM
open Go.RowKit
def qbt (n:Nat)  : Option (Unit×((List Zg)×Unit)×Unit) :=
 some ((),((j10 ([114,101,116,114,97,99,116]:Yy) (([([120]:Yy),([91,32,120,32,44,32,120,32,93]:Yy)]:List Yy),(true,(qje 92))) (j10 ([114,101,112,108,97,99,101]:Yy) (([([120,32,61,62,32,120]:Yy)]:List Yy),(true,(qje 91))) (j10 ([101,120,99,108,117,100,101]:Yy) (([([120,32,120]:Yy)]:List Yy),(true,(qje 90))) (j10 ([114,101,113,117,105,114,101]:Yy) (([([120,32,120]:Yy)]:List Yy),(true,(qje 89))) (j10 ([103,111]:Yy) (([([120]:Yy)]:List Yy),(false,(qje 88))) (j10 ([109,111,100,117,108,101]:Yy) (([([120]:Yy)]:List Yy),(false,(qje 87))) ([]:List Zg)))))),()),()))
def qe5 (n:Nat):FX:={ f:=63,args:=[],boxes:=[],rows:=[],res:=.one (.c (.mv 1)),oboxes:=[(1,(2199023259655,[.d (.lst (.prod .str (.prod (.lst .str) (.prod .bool .any))))]))],orows:=[],F:=fun p=>qbt n  }
theorem qgm (n:Nat):q62 Inv Tryz.prog (qe5 n):=mkX Tryz.func63 [] [] (cn) (by kernel_rfl) trivial (by intro a;kernel_rfl)
@[reducible] def qu3:SSt:=⟨[(4,.one (.c (.d (.lst (.prod (.lst (.prod .str (.int .i64))) .str))))),(5,.one (.c (.d (.int .i64)))),(7,.one (.c (.box 29 0))),(31,.one (.c (.d (.lst .str)))),(32,.one (.c (.d (.int .i64)))),(33,.one (.c (.d (.int .i64))))],[(26,(2199023259655,[.d (.lst (.prod .str (.prod (.lst .str) (.prod .bool .any))))])),(27,(2199023286277,[.d (.lst (.prod (.prod .str (.prod .str Tv)) (.prod (.int .i64) (.int .i64))))])),(29,(90,[.d .str,.d .str,.row 44,.row 1044,.row 2044,.row 3044,.d (.int .i64),.d (.int .i64),.d .str,.mv 26,.mv 27]))],[(44,⟨46,true,(.prod .str Tv)⟩),(1044,⟨76,true,(.prod .str .str)⟩),(2044,⟨46,true,(.prod .str Tv)⟩),(3044,⟨77,true,(.prod (.int .i64) (.prod (.int .i64) (.prod (.int .i64) (.prod .str (.prod .str Tv)))))⟩)]⟩
@[reducible] def qmi:List (Exit×SSt):=[(.ret,⟨[(2,.one (.c (.d .any))),(3,.one (.c (.d .any)))],[],[]⟩),(.exit 0,⟨[(5,.one (.c (.d (.int .i64)))),(7,.one (.c (.box 29 0)))],[(26,(2199023259655,[.d (.lst (.prod .str (.prod (.lst .str) (.prod .bool .any))))])),(27,(2199023286277,[.d (.lst (.prod (.prod .str (.prod .str Tv)) (.prod (.int .i64) (.int .i64))))])),(29,(90,[.d .str,.d .str,.row 44,.row 1044,.row 2044,.row 3044,.d (.int .i64),.d (.int .i64),.d .str,.mv 26,.mv 27]))],[(44,⟨46,true,(.prod .str Tv)⟩),(1044,⟨76,true,(.prod .str .str)⟩),(2044,⟨46,true,(.prod .str Tv)⟩),(3044,⟨77,true,(.prod (.int .i64) (.prod (.int .i64) (.prod (.int .i64) (.prod .str (.prod .str Tv)))))⟩)]⟩)]
def qz0 (n:Nat) (rec:Zl->Int->(List Yy)->Int->Int->(List Zg)->Zj->Yy->Yy->Int->Int->Yy->LQ->(List (Yy×Yy))->LQ->(List Zh)->Option Ze) (a1:List (List (Yy×Int)×Yy)) (a2:Int) (a3:List Yy) (a4:Int) (a5:Int) (a6:List Zg) (a7:List ((Yy×Qq)×(Int×Int))) (a8:Yy) (a9:Yy) (a10:Int) (a11:Int) (a12:Yy) (a13:List Qq) (a14:List (Yy×Yy)) (a15:List Qq) (a16:List Zh):Option Ze :=
 (bif decide (a5<a4) then (q1t a3 a5).bind fun x4=>(q1t a1 a5).bind fun x5=>(q8x n () x5.1 a8 a9 a10 a11 a12 a6 a7 a13 a14 a15 a16).bind fun r6=>(q2i (Subtype.val r6.1)).bind fun (hb7:Bool)=>(bif !hb7 then some (Sum.inl ((qm4,((qbb 128 (Value.agg ⟨[(Value.int .i64 a5),(Subtype.val r6.1)]⟩)),())),((),()))) else q0b (IntKind.wrap .i64 ((x4.length:Int)+1)) fun (n8:Int)=>q0b (IntKind.wrap .i64 (r6.2.1.1.2.2.2.2.2.2.2.1+n8)) fun n9=>q0b (IntKind.wrap .i64 (a5+1)) fun n10=>rec a1 a2 a3 a4 n10 r6.2.1.2.1 r6.2.1.2.2.1 r6.2.1.1.1 r6.2.1.1.2.1 r6.2.1.1.2.2.2.2.2.2.1 n9 r6.2.1.1.2.2.2.2.2.2.2.2.1 r6.2.2.1 r6.2.2.2.1 r6.2.2.2.2.1 r6.2.2.2.2.2.1) else some (Sum.inr (((a2,((),())),((a6,(a7,((a8,(a9,((),((),((),((),(a10,(a11,(a12,((),())))))))))),()))),(a13,(a14,(a15,(a16,())))))))))
def qk6 (n:Nat):Stp qu3 qmi:=fun rec p=>qz0 n (fun a1 a2 a3 a4 a5 a6 a7 a8 a9 a10 a11 a12 a13 a14 a15 a16=>rec ((a1,(a2,((),(a3,(a4,(a5,())))))),((a6,(a7,((a8,(a9,((),((),((),((),(a10,(a11,(a12,((),())))))))))),()))),(a13,(a14,(a15,(a16,()))))))) p.1.1 p.1.2.1 p.1.2.2.2.1 p.1.2.2.2.2.1 p.1.2.2.2.2.2.1 p.2.1.1 p.2.1.2.1 p.2.1.2.2.1.1 p.2.1.2.2.1.2.1 p.2.1.2.2.1.2.2.2.2.2.2.1 p.2.1.2.2.1.2.2.2.2.2.2.2.1 p.2.1.2.2.1.2.2.2.2.2.2.2.2.1 p.2.2.1 p.2.2.2.1 p.2.2.2.2.1 p.2.2.2.2.2.1
def qae (n m:Nat) (a1:List (List (Yy×Int)×Yy)) (a2:Int) (a3:List Yy) (a4:Int) (a5:Int) (a6:List Zg) (a7:List ((Yy×Qq)×(Int×Int))) (a8:Yy) (a9:Yy) (a10:Int) (a11:Int) (a12:Yy) (a13:List Qq) (a14:List (Yy×Yy)) (a15:List Qq) (a16:List Zh):Option Ze:=q2y (qk6 n) m ((a1,(a2,((),(a3,(a4,(a5,())))))),((a6,(a7,((a8,(a9,((),((),((),((),(a10,(a11,(a12,((),())))))))))),()))),(a13,(a14,(a15,(a16,()))))))
def q8q (n:Nat) (a1:Yy):Option (IV×IV) :=
 (Lx.q87 n a1).bind fun (r1:Zl×(Int×Int))=>(bif !decide (r1.2.2=(0:Int)) then some (qm4,(qbb 128 (Value.agg ⟨[(Value.int .i64 r1.2.1),(Subtype.val (qbb 126 (Value.agg ⟨[(Value.int .i64 r1.2.2)]⟩)))]⟩))) else (qbt n).bind fun r2=>(Lx.q6v n a1).bind fun (r3:List Yy)=>(qae n n r1.1 r1.2.1 r3 (r3.length:Int) (0:Int) r2.2.1.1 ([]:List ((Yy×Qq)×(Int×Int))) ([]:Yy) ([]:Yy) r1.2.1 (0:Int) ([]:Yy) [] [] [] []).bind fun o11=>Sum.elim (fun (q12:(IV×(IV×Unit))×Unit×Unit)=>some (q12.1.1,q12.1.2.1)) (fun (q13:(Int×(Unit×Unit))×((List Zg)×(Zj×(Zi×Unit)))×Zk)=>(bif !decide (q13.2.1.2.2.1.2.2.2.2.2.2.2.2.1=([]:Yy)) then some (qm4,(qbb 128 (Value.agg ⟨[(Value.int .i64 q13.1.1),(Subtype.val (qbb 126 (Value.agg ⟨[(Value.int .i64 (10:Int))]⟩)))]⟩))) else (bif decide (q13.2.1.2.2.1.1=([]:Yy)) then some (qm4,(qbb 128 (Value.agg ⟨[(Value.int .i64 q13.1.1),(Subtype.val (qbb 126 (Value.agg ⟨[(Value.int .i64 (5:Int))]⟩)))]⟩))) else none))) o11)
def qxa (n:Nat):FC:={ f:=37,args:=[.one (.c (.d .str))],res:=.tup [.c (.d .any),.c (.d .any)],F:=fun p=>q8q n p }
theorem qlb (n:Nat):q08 Inv Tryz.prog (qxa n):=mkF Tryz.func37 [] [qi5 qk6 n] (cc (c:=qrz (qe5 n) [] [] [(1,26)]) (fun G hG=>qqk (qgm n G hG)) <| cc (c:=q3s (qck n) [(1000000,29),(1000001,26),(1000002,27)] [(1000003,44),(1000004,1044),(1000005,2044),(1000006,3044)]) (fun G hG=>q15 (qh8 n G hG)) <| cc (Lx.qlx n) <| cc (Lx.qco n) <| cn) (by kernel_rfl) ⟨ls (by intro rec p;kernel_rfl),trivial⟩ (by intro a;kernel_rfl)
@[reducible] def qtm:SSt:=⟨[(4,.one (.c (.d (.lst (.prod (.lst (.prod .str (.int .i64))) .str))))),(5,.one (.c (.d (.int .i64)))),(7,.one (.c (.box 29 0))),(31,.one (.c (.d (.lst .str)))),(32,.one (.c (.d (.int .i64)))),(33,.one (.c (.d (.int .i64))))],[(26,(2199023259655,[.d (.lst (.prod .str (.prod (.lst .str) (.prod .bool .any))))])),(27,(2199023286277,[.d (.lst (.prod (.prod .str (.prod .str Tv)) (.prod (.int .i64) (.int .i64))))])),(29,(90,[.d .str,.d .str,.row 44,.row 1044,.row 2044,.row 3044,.d (.int .i64),.d (.int .i64),.d .str,.mv 26,.mv 27]))],[(44,⟨46,true,(.prod .str Tv)⟩),(1044,⟨76,true,(.prod .str .str)⟩),(2044,⟨46,true,(.prod .str Tv)⟩),(3044,⟨77,true,(.prod (.int .i64) (.prod (.int .i64) (.prod (.int .i64) (.prod .str (.prod .str Tv)))))⟩)]⟩
@[reducible] def qmm:List (Exit×SSt):=[(.ret,⟨[(2,.one (.c (.d .any))),(3,.one (.c (.d .any)))],[],[]⟩),(.exit 0,⟨[(5,.one (.c (.d (.int .i64)))),(7,.one (.c (.box 29 0)))],[(26,(2199023259655,[.d (.lst (.prod .str (.prod (.lst .str) (.prod .bool .any))))])),(27,(2199023286277,[.d (.lst (.prod (.prod .str (.prod .str Tv)) (.prod (.int .i64) (.int .i64))))])),(29,(90,[.d .str,.d .str,.row 44,.row 1044,.row 2044,.row 3044,.d (.int .i64),.d (.int .i64),.d .str,.mv 26,.mv 27]))],[(44,⟨46,true,(.prod .str Tv)⟩),(1044,⟨76,true,(.prod .str .str)⟩),(2044,⟨46,true,(.prod .str Tv)⟩),(3044,⟨77,true,(.prod (.int .i64) (.prod (.int .i64) (.prod (.int .i64) (.prod .str (.prod .str Tv)))))⟩)]⟩)]
def qe7 (n:Nat) (rec:Zl->Int->(List Yy)->Int->Int->(List Zg)->Zj->Yy->Yy->Int->Int->Yy->LQ->(List (Yy×Yy))->LQ->(List Zh)->Option Ze) (a1:List (List (Yy×Int)×Yy)) (a2:Int) (a3:List Yy) (a4:Int) (a5:Int) (a6:List Zg) (a7:List ((Yy×Qq)×(Int×Int))) (a8:Yy) (a9:Yy) (a10:Int) (a11:Int) (a12:Yy) (a13:List Qq) (a14:List (Yy×Yy)) (a15:List Qq) (a16:List Zh):Option Ze :=
 (bif decide (a5<a4) then (q1t a3 a5).bind fun x4=>(q1t a1 a5).bind fun x5=>(q8x n () x5.1 a8 a9 a10 a11 a12 a6 a7 a13 a14 a15 a16).bind fun r6=>(q2i (Subtype.val r6.1)).bind fun (hb7:Bool)=>(bif !hb7 then some (Sum.inl ((qm4,((qbb 128 (Value.agg ⟨[(Value.int .i64 a5),(Subtype.val r6.1)]⟩)),())),((),()))) else q0b (IntKind.wrap .i64 ((x4.length:Int)+1)) fun (n8:Int)=>q0b (IntKind.wrap .i64 (r6.2.1.1.2.2.2.2.2.2.2.1+n8)) fun n9=>q0b (IntKind.wrap .i64 (a5+1)) fun n10=>rec a1 a2 a3 a4 n10 r6.2.1.2.1 r6.2.1.2.2.1 r6.2.1.1.1 r6.2.1.1.2.1 r6.2.1.1.2.2.2.2.2.2.1 n9 r6.2.1.1.2.2.2.2.2.2.2.2.1 r6.2.2.1 r6.2.2.2.1 r6.2.2.2.2.1 r6.2.2.2.2.2.1) else some (Sum.inr (((a2,((),())),((a6,(a7,((a8,(a9,((),((),((),((),(a10,(a11,(a12,((),())))))))))),()))),(a13,(a14,(a15,(a16,())))))))))
def qld (n:Nat):Stp qtm qmm:=fun rec p=>qe7 n (fun a1 a2 a3 a4 a5 a6 a7 a8 a9 a10 a11 a12 a13 a14 a15 a16=>rec ((a1,(a2,((),(a3,(a4,(a5,())))))),((a6,(a7,((a8,(a9,((),((),((),((),(a10,(a11,(a12,((),())))))))))),()))),(a13,(a14,(a15,(a16,()))))))) p.1.1 p.1.2.1 p.1.2.2.2.1 p.1.2.2.2.2.1 p.1.2.2.2.2.2.1 p.2.1.1 p.2.1.2.1 p.2.1.2.2.1.1 p.2.1.2.2.1.2.1 p.2.1.2.2.1.2.2.2.2.2.2.1 p.2.1.2.2.1.2.2.2.2.2.2.2.1 p.2.1.2.2.1.2.2.2.2.2.2.2.2.1 p.2.2.1 p.2.2.2.1 p.2.2.2.2.1 p.2.2.2.2.2.1
def q28 (n m:Nat) (a1:List (List (Yy×Int)×Yy)) (a2:Int) (a3:List Yy) (a4:Int) (a5:Int) (a6:List Zg) (a7:List ((Yy×Qq)×(Int×Int))) (a8:Yy) (a9:Yy) (a10:Int) (a11:Int) (a12:Yy) (a13:List Qq) (a14:List (Yy×Yy)) (a15:List Qq) (a16:List Zh):Option Ze:=q2y (qld n) m ((a1,(a2,((),(a3,(a4,(a5,())))))),((a6,(a7,((a8,(a9,((),((),((),((),(a10,(a11,(a12,((),())))))))))),()))),(a13,(a14,(a15,(a16,()))))))
theorem q9w (n m:Nat) (a1 a2 a3 a4 a5 a6 a7 a8 a9 a10 a11 a12 a13 a14 a15 a16):q28 n (m+1) a1 a2 a3 a4 a5 a6 a7 a8 a9 a10 a11 a12 a13 a14 a15 a16=qe7 n (fun a1 a2 a3 a4 a5 a6 a7 a8 a9 a10 a11 a12 a13 a14 a15 a16=>q28 n m a1 a2 a3 a4 a5 a6 a7 a8 a9 a10 a11 a12 a13 a14 a15 a16) a1 a2 a3 a4 a5 a6 a7 a8 a9 a10 a11 a12 a13 a14 a15 a16:=rfl
def q6t (n:Nat) (a1:Yy):Option ((Unit×IV)×(Zi×((List Zg)×(Zj×Unit)))×Zk) :=
 (Lx.q87 n a1).bind fun (r1:Zl×(Int×Int))=>(bif !decide (r1.2.2=(0:Int)) then none else (qbt n).bind fun r2=>(Lx.q6v n a1).bind fun (r3:List Yy)=>(q28 n n r1.1 r1.2.1 r3 (r3.length:Int) (0:Int) r2.2.1.1 ([]:List ((Yy×Qq)×(Int×Int))) ([]:Yy) ([]:Yy) r1.2.1 (0:Int) ([]:Yy) [] [] [] []).bind fun o11=>Sum.elim (fun (q12:(IV×(IV×Unit))×Unit×Unit)=>none) (fun (q13:(Int×(Unit×Unit))×((List Zg)×(Zj×(Zi×Unit)))×Zk)=>(bif !decide (q13.2.1.2.2.1.2.2.2.2.2.2.2.2.1=([]:Yy)) then none else (bif decide (q13.2.1.2.2.1.1=([]:Yy)) then none else some (((),q6a),(((q13.2.1.2.2.1.1,(q13.2.1.2.2.1.2.1,((),((),((),((),(q13.2.1.2.2.1.2.2.2.2.2.2.1,(q13.2.1.2.2.1.2.2.2.2.2.2.2.1,(q13.2.1.2.2.1.2.2.2.2.2.2.2.2.1,((),())))))))))),(q13.2.1.1,(q13.2.1.2.1,()))),(q13.2.2.1,(q13.2.2.2.1,(q13.2.2.2.2.1,(q13.2.2.2.2.2.1,()))))))))) o11)
def qdt (n:Nat):FX:={ f:=37,args:=[.one (.c (.d .str))],boxes:=[],rows:=[],res:=.tup [.c (.box 29 0),.c (.d .any)],oboxes:=[(29,(90,[.d .str,.d .str,.row 44,.row 1044,.row 2044,.row 3044,.d (.int .i64),.d (.int .i64),.d .str,.mv 26,.mv 27])),(26,(2199023259655,[.d (.lst (.prod .str (.prod (.lst .str) (.prod .bool .any))))])),(27,(2199023286277,[.d (.lst (.prod (.prod .str (.prod .str Tv)) (.prod (.int .i64) (.int .i64))))]))],orows:=[(44,⟨46,true,(.prod .str Tv)⟩),(1044,⟨76,true,(.prod .str .str)⟩),(2044,⟨46,true,(.prod .str Tv)⟩),(3044,⟨77,true,(.prod (.int .i64) (.prod (.int .i64) (.prod (.int .i64) (.prod .str (.prod .str Tv)))))⟩)],F:=fun p=>q6t n p.1 }
theorem qgf (n:Nat):q62 Inv Tryz.prog (qdt n):=mkX Tryz.func37 [] [qi5 qld n] (cc (c:=qrz (qe5 n) [] [] [(1,26)]) (fun G hG=>qqk (qgm n G hG)) <| cc (c:=q3s (qck n) [(1000000,29),(1000001,26),(1000002,27)] [(1000003,44),(1000004,1044),(1000005,2044),(1000006,3044)]) (fun G hG=>q15 (qh8 n G hG)) <| cc (Lx.qlx n) <| cc (Lx.qco n) <| cn) (by kernel_rfl) ⟨ls (by intro rec p;kernel_rfl),trivial⟩ (by intro a;kernel_rfl)
end Go.Proofs.YtapfankgdkdkgaaGreatDoor.AM
namespace Go.Proofs.YtapfankgdkdkgaaGreatDoor.AM
open Go.RowKit
theorem qcu (n:Nat) (a b:Int):q5c n a b=some (qk3 a b):=by
 unfold q5c qis qk3
 simp only [decide_true,Bool.not_true,Option.bind_some,cond_false]
 by_cases h1:a<b
 ·simp [h1]
 ·by_cases h2:b<a
  ·simp [h1,h2]
  ·simp [h1,h2]
def q59:List Int->Int
 | []=>0
 | x::l=>or2 x (q59 l)
theorem qh9 (n:Nat) (l:List Int) (hL:l.length<=1000000) : ∀m j:Nat,j<=l.length->l.length - j<m->q4u n m 0 l ((l.length:Nat):Int) (j:Int)=some (if q59 (l.drop j)=0 then Sum.inr (((0:Int),()),((),())) else Sum.inl ((q59 (l.drop j),()),((),())))
 | 0,j,_,h=>absurd h (Nat.not_lt_zero _)
 | m+1,j,hj,h=>by
  rw [qb6]
  unfold qj4
  by_cases c0:j<l.length
  ·have c0':((j:Nat):Int)<((l.length:Nat):Int):=by omega
   have ih:=qh9 n l hL m (j+1) (by omega) (by omega)
   have hd:l.drop j=l[j]::l.drop (j+1):=(List.drop_eq_getElem_cons c0)
   simp only [c0',decide_true,cond_true,q26 c0,Option.bind_some,q0b,q0q (show j<4611686018427387904 by omega),ih,hd,q59,or2]
   by_cases h0:l[j]=0
   ·simp [h0]
   ·simp [h0]
  ·have c0' : ¬ ((j:Nat):Int)<((l.length:Nat):Int):=by omega
   have:l.drop j = []:=List.drop_eq_nil_of_le (by omega)
   simp [c0',this,q59]
theorem qgh (n:Nat) (l:List Int) (hL:l.length<=1000000) (hn:l.length<n):qce n l=some (q59 l):=by
 unfold qce
 have:=qh9 n l hL n 0 (Nat.zero_le _) (by omega)
 rw [show ((0:Nat):Int)=(0:Int) from rfl] at this
 rw [this,List.drop_zero]
 by_cases h:q59 l=0
 ·simp [h]
 ·simp [h]
theorem qh7 (n:Nat) (v:VD) (hn:4<=n):q7c n v=some (q06 v):=by
 unfold q7c q06
 rw [q2k n v hn]
 cases hc:q0z v with
 | false=>rfl
 | true =>
  obtain ⟨h1,h2,h3,h4,h5⟩:=q21 hc
  have l1:=qj9 h1
  have l2:=qj9 h2
  have l3:=qj9 h3
  have t1:=q6p h4
  have t2:=q6p h5
  simp only [Option.bind_some,Bool.not_true,cond_false,qd7 h1,qd7 h2,qd7 h3,if_true]
  unfold j55 q3u
  generalize Lib.itoa v.1=A at l1
  generalize Lib.itoa v.2.1=B at l2
  generalize Lib.itoa v.2.2.1=C at l3
  generalize v.2.2.2.1=p at t1
  generalize v.2.2.2.2=q at t2
  rw [q69 (by simp;omega)];simp only [Option.bind_some]
  rw [q69 (by simp;omega)];simp only [Option.bind_some]
  rw [q69 (by simp;omega)];simp only [Option.bind_some]
  rw [q69 (by simp;omega)];simp only [Option.bind_some]
  rw [q69 (by simp;omega)];simp only [Option.bind_some]
  have k1:q6j [45] p=some ([45]++p):=q69 (by simp;omega)
  have k2:q6j [43] q=some ([43]++q):=q69 (by simp;omega)
  by_cases hp:p = []
  ·by_cases hq:q = []
   ·simp [hp,hq]
   ·simp only [hp,hq,decide_true,decide_false,Bool.not_true,Bool.not_false,cond_true,cond_false,k2,Option.bind_some]
    rw [q69 (by simp;omega)]
    simp
  ·by_cases hq:q = []
   ·simp only [hp,hq,decide_true,decide_false,Bool.not_true,Bool.not_false,cond_true,cond_false,k1,Option.bind_some]
    rw [q69 (by simp;omega)]
    simp
   ·simp only [hp,hq,decide_true,decide_false,Bool.not_true,Bool.not_false,cond_true,cond_false,k1,k2,Option.bind_some]
    rw [q69 (by simp;omega)];simp only [Option.bind_some]
    rw [q69 (by simp;omega)]
    simp
theorem q8l (n:Nat) (c:UInt8) (s:Yy) (hs:s.length<=1000000) : ∃ b,qhw n s [c]=some (q1v c s,(q71 c s,b)):=by
 unfold qhw qyr qel q1v q71
 simp only [show s.length<4294967281 from by omega,if_true,Option.bind_some]
 have hge:=Lib.index_ge s [c]
 by_cases h1:Lib.index s [c] = -1
 ·simp only [h1,show ¬ (0:Int)<=-1 from by decide,decide_false,cond_false,Option.bind_some,if_true]
  exact ⟨_,rfl⟩
 ·obtain ⟨i,hi⟩ : ∃ i:Nat,Lib.index s [c]=(i:Int):=⟨(Lib.index s [c]).toNat,by omega⟩
  have hlt:=qrp c s i hi
  have n1 : ¬ ((i:Nat):Int) = -1:=by omega
  have n2:(0:Int)<=((i:Nat):Int):=by omega
  rw [hi]
  have w1:IntKind.wrap .i64 (((i:Nat):Int)+((List.length [c]:Nat):Int))=((i+1:Nat):Int):=q0q (by omega)
  simp only [n1,n2,decide_true,cond_true,if_false,sub_zero (show i<=s.length by omega),Option.bind_some,q0b,w1,sub_le (show i+1<=s.length by omega) (Nat.le_refl _),Int.toNat_natCast]
  refine ⟨true,?_⟩
  have e6:(s.drop (i+1)).take (s.length - (i+1))=s.drop (i+1):=List.take_of_length_le (by rw [List.length_drop];exact Nat.le_refl _)
  rw [e6]
theorem q7v (c:UInt8) (s:Yy):(q1v c s).length<=s.length:=by
 unfold q1v;split
 ·exact Nat.le_refl _
 ·rw [List.length_take];omega
theorem qba (c:UInt8) (s:Yy):(q71 c s).length<=s.length:=by
 unfold q71;split
 ·simp
 ·rw [List.length_drop];omega
theorem q7q (n:Nat) (s:Yy) (hs:s.length<=1000000) (hn:4<=n):q6q n s=some (q0k s):=by
 unfold q6q q0k quw
 obtain ⟨b1,e1⟩:=q8l n 43 s hs
 have l1:=q7v 43 s
 have l1':=qba 43 s
 obtain ⟨b2,e2⟩:=q8l n 45 (q1v 43 s) (by omega)
 have l2:=q7v 45 (q1v 43 s)
 have e3:=qmu n (q1v 45 (q1v 43 s)) (by omega)
 have l3:=qme (q1v 45 (q1v 43 s))
 obtain ⟨b4,e4⟩:=q8l n 46 (q0w (q1v 45 (q1v 43 s))) (by omega)
 have l4:=q7v 46 (q0w (q1v 45 (q1v 43 s)))
 have l4':=qba 46 (q0w (q1v 45 (q1v 43 s)))
 obtain ⟨b5,e5⟩:=q8l n 46 (q71 46 (q0w (q1v 45 (q1v 43 s)))) (by omega)
 have l5:=q7v 46 (q71 46 (q0w (q1v 45 (q1v 43 s))))
 have l5':=qba 46 (q71 46 (q0w (q1v 45 (q1v 43 s))))
 have m1:q38 (q1v 46 (q0w (q1v 45 (q1v 43 s))))=some (q7y (q1v 46 (q0w (q1v 45 (q1v 43 s))))):=if_pos (by omega)
 have m2:q38 (q1v 46 (q71 46 (q0w (q1v 45 (q1v 43 s)))))=some (q7y (q1v 46 (q71 46 (q0w (q1v 45 (q1v 43 s)))))):=if_pos (by omega)
 have m3:q38 (q71 46 (q71 46 (q0w (q1v 45 (q1v 43 s)))))=some (q7y (q71 46 (q71 46 (q0w (q1v 45 (q1v 43 s)))))):=if_pos (by omega)
 simp only [e1,Option.bind_some,e2,e3,e4,e5,m1,m2,m3]
 generalize (q7y (q1v 46 (q0w (q1v 45 (q1v 43 s)))),(q7y (q1v 46 (q71 46 (q0w (q1v 45 (q1v 43 s))))),(q7y (q71 46 (q71 46 (q0w (q1v 45 (q1v 43 s))))),(q71 45 (q1v 43 s),q71 43 s))))=v
 rw [q2k n v hn,qh7 n v hn]
 cases hc:q0z v with
 | false=>simp
 | true =>
  by_cases ht:q06 v=s
  ·simp [ht]
  ·simp [ht]
theorem qus (n:Nat) (a b:Yy) (ha:a.length<=1000000) (hb:b.length<=1000000) (hn:a.length<n/\b.length<n/\3<=n):qin n a b=some (j90 a b):=by
 unfold qin j90 j8y q95
 rw [q5i n a ha hn.1,q5i n b hb hn.2.1]
 simp only [Option.bind_some,qcu,q65]
 cases q80 a with
 | false=>cases q80 b with
  | false =>
   simp only [cond_false,Bool.false_eq_true,if_false]
   unfold qgd qk3 or2
   simp
  | true =>
   simp only [cond_false,cond_true,Bool.false_eq_true,if_false,if_true]
   unfold qgd qk3 or2
   simp
 | true=>cases q80 b with
  | false =>
   simp only [cond_false,cond_true,Bool.false_eq_true,if_false,if_true]
   unfold qgd qk3 or2
   simp
  | true =>
   simp only [cond_true,if_true]
   rw [qgh n _ (by simp) (by simp;omega)]
   simp only [Option.bind_some,q59]
   unfold qgd
   have e0:qk3 (0:Int) 0=0:=by decide
   dsimp only
   rw [e0]
   unfold or2
   simp only [if_true]
   split
   ·split<;>simp_all
   ·rfl
theorem qag (n:Nat) (l1 l2:List Yy) (h1:l1.length<=1000000) (h2:l2.length<=1000000) (hw : ∀w,w∈l1\/w∈l2->w.length<=1000000/\w.length<n) (hn:3<=n) : ∀m j:Nat,j<=l1.length->j<=l2.length->l1.length - j<m ->
  ((q36 n m l1 l2 l1 ((l1.length:Nat):Int) (j:Int)).bind fun (o5:((Int×Unit)×Unit×Unit)⊕(((List Yy)×((List Yy)×Unit))×Unit×Unit))=>Sum.elim (fun (q6:(Int×Unit)×Unit×Unit)=>some q6.1.1) (fun (q7:((List Yy)×((List Yy)×Unit))×Unit×Unit)=>(bif decide (((List.length q7.1.1:Nat):Int)<((List.length q7.1.2.1:Nat):Int)) then some (-1:Int) else some (0:Int))) o5)=some (cmpL j90 (l1.drop j) (l2.drop j))
 | 0,j,_,_,h=>absurd h (Nat.not_lt_zero _)
 | m+1,j,hj,hj2,h=>by
  rw [q8u]
  unfold q9v
  by_cases c0:j<l1.length
  ·have c0':((j:Nat):Int)<((l1.length:Nat):Int):=by omega
   have hd:l1.drop j=l1[j]::l1.drop (j+1):=(List.drop_eq_getElem_cons c0)
   by_cases c1:j<l2.length
   ·have c1' : ¬ ((l2.length:Nat):Int)<=((j:Nat):Int):=by omega
    have hd2:l2.drop j=l2[j]::l2.drop (j+1):=(List.drop_eq_getElem_cons c1)
    have ih:=qag n l1 l2 h1 h2 hw hn m (j+1) (by omega) (by omega) (by omega)
    have k1:=hw l1[j] (Or.inl (List.getElem_mem c0))
    have k2:=hw l2[j] (Or.inr (List.getElem_mem c1))
    have hp:=qus n l1[j] l2[j] k1.1 k2.1 ⟨k1.2,k2.2,hn⟩
    rw [hd,hd2,cmpL]
    simp only [c0',decide_true,cond_true,q26 c0,Option.bind_some,c1',decide_false,cond_false,q26 c1,hp,q0b,q0q (show j<4611686018427387904 by omega)]
    unfold or2
    by_cases h0:j90 l1[j] l2[j]=0
    ·simp only [h0,decide_true,Bool.not_true,cond_false,if_true]
     exact ih
    ·simp only [h0,decide_false,Bool.not_false,cond_true,if_false,Option.bind_some,Sum.elim_inl]
   ·have c1':((l2.length:Nat):Int)<=((j:Nat):Int):=by omega
    have hd2:l2.drop j = []:=List.drop_eq_nil_of_le (by omega)
    rw [hd,hd2,cmpL]
    simp only [c0',decide_true,cond_true,q26 c0,Option.bind_some,c1',Sum.elim_inl]
  ·have c0' : ¬ ((j:Nat):Int)<((l1.length:Nat):Int):=by omega
   have hd:l1.drop j = []:=List.drop_eq_nil_of_le (by omega)
   simp only [c0',decide_false,cond_false,Option.bind_some,Sum.elim_inr]
   have hje:j=l1.length:=by omega
   rw [hd]
   by_cases c1:j<l2.length
   ·have hd2:l2.drop j=l2[j]::l2.drop (j+1):=(List.drop_eq_getElem_cons c1)
    have c2:((l1.length:Nat):Int)<((l2.length:Nat):Int):=by omega
    rw [hd2]
    simp only [c2,decide_true,cond_true,cmpL]
   ·have hd2:l2.drop j = []:=List.drop_eq_nil_of_le (by omega)
    have c2 : ¬ ((l1.length:Nat):Int)<((l2.length:Nat):Int):=by omega
    rw [hd2]
    simp only [c2,decide_false,cond_false,cmpL]
theorem qkr (n:Nat) (l1 l2:List Yy) (h1:l1.length<=1000000) (h2:l2.length<=1000000) (hw : ∀w,w∈l1\/w∈l2->w.length<=1000000/\w.length<n) (hn:3<=n) (hn2:l1.length<n):qe6 n l1 l2 ()=some (cmpL j90 l1 l2):=by
 have:=qag n l1 l2 h1 h2 hw hn n 0 (Nat.zero_le _) (Nat.zero_le _) (by omega)
 rw [List.drop_zero,List.drop_zero] at this
 exact this
theorem qz8 (n:Nat) (a b:Yy) (ha:a.length<=100000) (hb:b.length<=100000) (hn:a.length+3<n/\b.length+3<n):qs4 n a b=some (qgx a b):=by
 unfold qs4
 by_cases hab:a=b
 ·subst hab
  rw [qtp.refl]
  simp
 ·simp only [hab,decide_false,cond_false]
  by_cases h1:a = []
  ·have hb0:b ≠ []:=fun e=>hab (by rw [h1,e])
   simp only [h1,decide_true,cond_true]
   unfold qgx qgd j51 qk3 or2
   simp [hb0]
  ·simp only [h1,decide_false,cond_false]
   by_cases h2:b = []
   ·simp only [h2,decide_true,cond_true]
    unfold qgx qgd j51 qk3 or2
    simp [h1]
   ·simp only [h2,decide_false,cond_false]
    have s1:q54 a [46]=some (spl 46 [] a):=if_pos (by omega)
    have s2:q54 b [46]=some (spl 46 [] b):=if_pos (by omega)
    have k1:=qa6 46 a []
    have k2:=qa6 46 b []
    rw [s1,s2]
    simp only [Option.bind_some]
    rw [qkr n _ _ (by omega) (by omega) (fun w hw=>by
     rcases hw with hw|hw
     ·have:=qf3 46 a [] w hw;simp at this;omega
     ·have:=qf3 46 b [] w hw;simp at this;omega) (by omega) (by omega)]
    unfold qgx j51
    simp only [h1,h2,if_false]
    unfold qgd
    have e0:qk3 (0:Int) 0=0:=by decide
    dsimp only
    rw [e0]
    unfold or2
    simp
theorem qik (n:Nat) (a b:VD) (hn:100<=n):q6u n a b=some (j4u a b):=by
 unfold q6u j4u
 rw [q2k n a (by omega),q2k n b (by omega)]
 cases hca:q0z a with
 | false=>rfl
 | true=>cases hcb:q0z b with
  | false=>rfl
  | true =>
   obtain ⟨-,-,-,h4,-⟩:=q21 hca
   obtain ⟨-,-,-,k4,-⟩:=q21 hcb
   have t1:=q6p h4
   have t2:=q6p k4
   simp only [Option.bind_some,Bool.not_true,cond_false,qcu]
   rw [qz8 n _ _ (by omega) (by omega) ⟨by omega,by omega⟩]
   simp only [Option.bind_some]
   rw [qgh n _ (by simp) (by simp;omega)]
   simp only [Option.bind_some,q59,Bool.and_self,if_true]
   have z0 : ∀x:Int,or2 x 0=x:=fun x=>by unfold or2;split<;>simp_all
   rw [z0]
   rfl
end Go.Proofs.YtapfankgdkdkgaaGreatDoor.AM
