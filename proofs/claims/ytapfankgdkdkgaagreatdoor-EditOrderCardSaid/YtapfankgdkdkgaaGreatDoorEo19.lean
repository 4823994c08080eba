
import Derived.Test.YtapfankgdkdkgaaGreatDoorEo18
import Derived.Test.YtapfankgdkdkgaaGreatDoorEo15
import Derived.Deep.QuietTactic
set_option linter.unusedVariables false
namespace Go.Proofs.YtapfankgdkdkgaaGreatDoor.AM
open Go.RowKit
set_option maxRecDepth 20000
abbrev Ze:=((IV×(IV×Unit))×Unit×Unit)⊕((Int×(Unit×Unit))×((List (Yy×(List Yy×((Bool)×(IV)))))×((List ((Yy×(Qq))×(Int×(Int))))×((Yy×(Yy×(Unit×(Unit×(Unit×(Unit×(Int×(Int×(Yy×(Unit×Unit))))))))))×Unit)))×(LQ×((List (Yy×Yy))×(LQ×((List (Int×(Int×(Int×(Yy×(Qq))))))×Unit)))))
abbrev Zf:=(IV)×((Yy×(Yy×(Unit×(Unit×(Unit×(Unit×(Int×(Int×(Yy×(Unit×Unit))))))))))×((List (Yy×(List Yy×((Bool)×(IV)))))×((List ((Yy×(Qq))×(Int×(Int))))×Unit)))×(LQ×((List (Yy×Yy))×(LQ×((List (Int×(Int×(Int×(Yy×(Qq))))))×Unit))))
abbrev Zg:=Yy×(List Yy×((Bool)×(IV)))
abbrev Zh:=Int×(Int×(Int×(Yy×(Qq))))
abbrev Zi:=Yy×(Yy×(Unit×(Unit×(Unit×(Unit×(Int×(Int×(Yy×(Unit×Unit)))))))))
abbrev Zj:=List ((Yy×(Qq))×(Int×(Int)))
abbrev Zk:=LQ×((List (Yy×Yy))×(LQ×((List Zh)×Unit)))
abbrev Zl:=List (List (Yy×(Int))×Yy)
def qnx (n:Nat):List LC:=[]
def q7k (n:Nat) (a1:Unit) (a2:Yy) (a3:List (Yy×(Int))) (b1:Yy) (b2:Yy) (b3:Int) (b4:Int) (b5:Yy) (b6:List Zg) (b7:List ((Yy×(Qq))×(Int×(Int)))) (b8:List (Qq)) (b9:List (Yy×Yy)) (b10:List (Qq)) (b11:List Zh):Option Zf :=
 qhc (qab a2 b6) (fun (y1:List Yy×((Bool)×(IV)))=>(q7u n a3).bind fun r3=>(q56 n y1.1 r3).bind fun r4=>(bif !r4 then some ((qh2 126 (Value.agg ⟨[(Value.int .i64 (10:Int))]⟩)),(((b1,(b2,((),((),((),((),(b3,(b4,(b5,((),())))))))))),(b6,(b7,()))),(b8,(b9,(b10,(b11,())))))) else (qx9 n a3).bind fun r5=>(bif jet 92 y1.2.2 then (q6y n () r5 b1 b2 b3 b4 b5 b6 b7 b8 b9 b10 b11).bind fun r6=>some (r6.1,(((r6.2.1.1.1,(r6.2.1.1.2.1,((),((),((),((),(r6.2.1.1.2.2.2.2.2.2.1,(r6.2.1.1.2.2.2.2.2.2.2.1,(r6.2.1.1.2.2.2.2.2.2.2.2.1,((),())))))))))),(r6.2.1.2.1,(r6.2.1.2.2.1,()))),(r6.2.2.1,(r6.2.2.2.1,(r6.2.2.2.2.1,(r6.2.2.2.2.2.1,())))))) else (bif jet 91 y1.2.2 then (q7b n () r5 b1 b2 b3 b4 b5 b6 b7 b8 b9 b10 b11).bind fun r7=>some (r7.1,(((r7.2.1.1.1,(r7.2.1.1.2.1,((),((),((),((),(r7.2.1.1.2.2.2.2.2.2.1,(r7.2.1.1.2.2.2.2.2.2.2.1,(r7.2.1.1.2.2.2.2.2.2.2.2.1,((),())))))))))),(r7.2.1.2.1,(r7.2.1.2.2.1,()))),(r7.2.2.1,(r7.2.2.2.1,(r7.2.2.2.2.1,(r7.2.2.2.2.2.1,())))))) else (bif jet 90 y1.2.2 then (q7i n () r5 b1 b2 b3 b4 b5 b6 b7 b8 b9 b10 b11).bind fun r8=>some (r8.1,(((r8.2.1.1.1,(r8.2.1.1.2.1,((),((),((),((),(r8.2.1.1.2.2.2.2.2.2.1,(r8.2.1.1.2.2.2.2.2.2.2.1,(r8.2.1.1.2.2.2.2.2.2.2.2.1,((),())))))))))),(r8.2.1.2.1,(r8.2.1.2.2.1,()))),(r8.2.2.1,(r8.2.2.2.1,(r8.2.2.2.2.1,(r8.2.2.2.2.2.1,())))))) else (bif jet 89 y1.2.2 then (q7x n () r5 b1 b2 b3 b4 b5 b6 b7 b8 b9 b10 b11).bind fun r9=>some (r9.1,(((r9.2.1.1.1,(r9.2.1.1.2.1,((),((),((),((),(r9.2.1.1.2.2.2.2.2.2.1,(r9.2.1.1.2.2.2.2.2.2.2.1,(r9.2.1.1.2.2.2.2.2.2.2.2.1,((),())))))))))),(r9.2.1.2.1,(r9.2.1.2.2.1,()))),(r9.2.2.1,(r9.2.2.2.1,(r9.2.2.2.2.1,(r9.2.2.2.2.2.1,())))))) else (bif jet 88 y1.2.2 then (q64 n () r5 b1 b2 b3 b4 b5 b6 b7 b8 b9 b10 b11).bind fun r10=>some (r10.1,(((r10.2.1.1.1,(r10.2.1.1.2.1,((),((),((),((),(r10.2.1.1.2.2.2.2.2.2.1,(r10.2.1.1.2.2.2.2.2.2.2.1,(r10.2.1.1.2.2.2.2.2.2.2.2.1,((),())))))))))),(r10.2.1.2.1,(r10.2.1.2.2.1,()))),(r10.2.2.1,(r10.2.2.2.1,(r10.2.2.2.2.1,(r10.2.2.2.2.2.1,())))))) else (bif jet 87 y1.2.2 then (q99 n () r5 b1 b2 b3 b4 b5 b6 b7 b8 b9 b10 b11).bind fun r11=>some (r11.1,(((r11.2.1.1.1,(r11.2.1.1.2.1,((),((),((),((),(r11.2.1.1.2.2.2.2.2.2.1,(r11.2.1.1.2.2.2.2.2.2.2.1,(r11.2.1.1.2.2.2.2.2.2.2.2.1,((),())))))))))),(r11.2.1.2.1,(r11.2.1.2.2.1,()))),(r11.2.2.1,(r11.2.2.2.1,(r11.2.2.2.2.1,(r11.2.2.2.2.2.1,())))))) else none)))))))) ((q7u n a3).bind fun r12=>(q56 n [] r12).bind fun r13=>(bif !r13 then some ((qh2 126 (Value.agg ⟨[(Value.int .i64 (10:Int))]⟩)),(((b1,(b2,((),((),((),((),(b3,(b4,(b5,((),())))))))))),(b6,(b7,()))),(b8,(b9,(b10,(b11,())))))) else (qx9 n a3).bind fun r14=>none))
def q28 (n:Nat):FX:={ f:=97,args:=[.one (.c (.box 1000000 0)),.one (.c (.d .str)),.one (.c (.d (.lst (.prod .str (.int .i64)))))],boxes:=[(1000000,(90,[.d .str,.d .str,.row 1000003,.row 1000004,.row 1000005,.row 1000006,.d (.int .i64),.d (.int .i64),.d .str,.mv 1000001,.mv 1000002])),(1000001,(2199023259655,[.d (.lst (.prod .str (.prod (.lst .str) (.prod .bool .any))))])),(1000002,(2199023286277,[.d (.lst (.prod (.prod .str (.prod .str Tv)) (.prod (.int .i64) (.int .i64))))]))],rows:=[(1000003,⟨46,true,(.prod .str Tv)⟩),(1000004,⟨76,true,(.prod .str .str)⟩),(1000005,⟨46,true,(.prod .str Tv)⟩),(1000006,⟨77,true,(.prod (.int .i64) (.prod (.int .i64) (.prod (.int .i64) (.prod .str (.prod .str Tv)))))⟩)],res:=.one (.c (.d .any)),oboxes:=[(1000000,(90,[.d .str,.d .str,.row 1000003,.row 1000004,.row 1000005,.row 1000006,.d (.int .i64),.d (.int .i64),.d .str,.mv 1000001,.mv 1000002])),(1000001,(2199023259655,[.d (.lst (.prod .str (.prod (.lst .str) (.prod .bool .any))))])),(1000002,(2199023286277,[.d (.lst (.prod (.prod .str (.prod .str Tv)) (.prod (.int .i64) (.int .i64))))]))],orows:=[(1000003,⟨46,true,(.prod .str Tv)⟩),(1000004,⟨76,true,(.prod .str .str)⟩),(1000005,⟨46,true,(.prod .str Tv)⟩),(1000006,⟨77,true,(.prod (.int .i64) (.prod (.int .i64) (.prod (.int .i64) (.prod .str (.prod .str Tv)))))⟩)],F:=fun p=>q7k n p.1.1 p.1.2.1 p.1.2.2 p.2.1.1.1 p.2.1.1.2.1 p.2.1.1.2.2.2.2.2.2.1 p.2.1.1.2.2.2.2.2.2.2.1 p.2.1.1.2.2.2.2.2.2.2.2.1 p.2.1.2.1 p.2.1.2.2.1 p.2.2.1 p.2.2.2.1 p.2.2.2.2.1 p.2.2.2.2.2.1 }
def qtq (n:Nat):List FC:=[q5a (q1a n) [(1000000,1000000),(1000001,1000001),(1000002,1000002)] [(1000003,1000003),(1000004,1000004),(1000005,1000005),(1000006,1000006)],q5a (q18 n) [(1000000,1000000),(1000001,1000001),(1000002,1000002)] [(1000003,1000003),(1000004,1000004),(1000005,1000005),(1000006,1000006)],q5a (q19 n) [(1000000,1000000),(1000001,1000001),(1000002,1000002)] [(1000003,1000003),(1000004,1000004),(1000005,1000005),(1000006,1000006)],q5a (q17 n) [(1000000,1000000),(1000001,1000001),(1000002,1000002)] [(1000003,1000003),(1000004,1000004),(1000005,1000005),(1000006,1000006)],q5a (q0v n) [(1000000,1000000),(1000001,1000001),(1000002,1000002)] [(1000003,1000003),(1000004,1000004),(1000005,1000005),(1000006,1000006)],q5a (q1i n) [(1000000,1000000),(1000001,1000001),(1000002,1000002)] [(1000003,1000003),(1000004,1000004),(1000005,1000005),(1000006,1000006)],q54 n,q43 n,qhm n]
theorem qyn (n:Nat) {G:World->Prop} (hG:Know Inv G) : ∀c∈qtq n,q14 Tryz.prog G c/\q0c c.args=true:=List.forall_mem_cons.2 ⟨q1p (qra n G hG),List.forall_mem_cons.2 ⟨q1p (qrg n G hG),List.forall_mem_cons.2 ⟨q1p (qqi n G hG),List.forall_mem_cons.2 ⟨q1p (qrq n G hG),List.forall_mem_cons.2 ⟨q1p (qmx n G hG),List.forall_mem_cons.2 ⟨q1p (qu0 n G hG),List.forall_mem_cons.2 ⟨qjy n G hG,List.forall_mem_cons.2 ⟨qwk n G hG,List.forall_mem_cons.2 ⟨jk1 n G hG,(fun _ h=>by cases h)⟩⟩⟩⟩⟩⟩⟩⟩⟩
def qxv:q0b:=[(2,[⟨12582915*2^21,2^42,0⟩,⟨51380225*2^22,2^45,1⟩,⟨1688849860264000,2^48,0⟩,⟨49*2^48,2^51,4⟩,⟨3137*2^45,2^54,15⟩,⟨49*2^54,2^57,31⟩]),(1000002,[]),(4,[⟨211106232532995*2^21,2^66,0⟩,⟨862017116176385*2^22,2^69,1⟩,⟨16905424996341287883274873117328531408603114433155888708094742688853564881815195503181352188405030012629580639784228117724235121904085937192017247310814066461068373887968162693399408565645646113696775453062758028932736905368049975642828700760545167275999433485945487228929,2^72,0⟩,⟨226673591177742970257472,2^75,0⟩,⟨49*2^75,2^78,8⟩,⟨0,0,31⟩,⟨0,0,63⟩]),(3000004,[⟨5,0,0⟩])]
theorem jb6:drB qxv (q00 Tryz.f97)=true:=by kernel_rfl
theorem j9o (n:Nat) : ∀a,(q28 n).F a=q83 Tryz.prog 28 (qtq n) (qnx n) qxv (q00 Tryz.f97) [.tmp 6] (q28 n).args (q28 n).boxes (q28 n).rows (q28 n).res (q28 n).oboxes (q28 n).orows a:=by intro a;kernel_rfl
theorem qnm (n:Nat):qac Inv Tryz.prog (q28 n):=fun G hG=>⟨by kernel_rfl,fun a r h=>q1l (x:=q28 n) (c:=q00 Tryz.f97) Tryz.func97 (by kernel_rfl) (by kernel_rfl) (Nat.le_of_ble_eq_true (by kernel_rfl)) (by kernel_rfl) (rs:=[.tmp 6]) (by kernel_rfl) (qyn n hG) (lts:=qnx n) (fun F hF hFG=>have hK:Know Inv F.G:=hFG ▸ hG;(q03 fun j L h1 h2 h3=>absurd h2 (Nat.not_lt.2 (Nat.le_trans (by decide +kernel) h1)))) jb6 ((j9o n a).symm.trans h)⟩
def qvb (n:Nat):List LC:=[]
def qs1 (n:Nat) (a1:Unit) (a2:Yy) (a3:List (Yy×(Int))) (b1:Yy) (b2:Yy) (b3:Int) (b4:Int) (b5:Yy) (b6:List Zg) (b7:List ((Yy×(Qq))×(Int×(Int)))) (b8:List (Qq)) (b9:List (Yy×Yy)) (b10:List (Qq)) (b11:List Zh):Option Zf :=
 qhc (qab a2 b6) (fun (y1:List Yy×((Bool)×(IV)))=>(bif y1.2.1 then (q7u n a3).bind fun r3=>(bif decide (r3=([40]:Yy)) then some (q87,(((b1,(b2,((),((),((),((),(b3,(b4,(a2,((),())))))))))),(b6,(b7,()))),(b8,(b9,(b10,(b11,())))))) else (q7k n () a2 a3 b1 b2 b3 b4 b5 b6 b7 b8 b9 b10 b11).bind fun r4=>some (r4.1,(((r4.2.1.1.1,(r4.2.1.1.2.1,((),((),((),((),(r4.2.1.1.2.2.2.2.2.2.1,(r4.2.1.1.2.2.2.2.2.2.2.1,(r4.2.1.1.2.2.2.2.2.2.2.2.1,((),())))))))))),(r4.2.1.2.1,(r4.2.1.2.2.1,()))),(r4.2.2.1,(r4.2.2.2.1,(r4.2.2.2.2.1,(r4.2.2.2.2.2.1,()))))))) else (q7k n () a2 a3 b1 b2 b3 b4 b5 b6 b7 b8 b9 b10 b11).bind fun r5=>some (r5.1,(((r5.2.1.1.1,(r5.2.1.1.2.1,((),((),((),((),(r5.2.1.1.2.2.2.2.2.2.1,(r5.2.1.1.2.2.2.2.2.2.2.1,(r5.2.1.1.2.2.2.2.2.2.2.2.1,((),())))))))))),(r5.2.1.2.1,(r5.2.1.2.2.1,()))),(r5.2.2.1,(r5.2.2.2.1,(r5.2.2.2.2.1,(r5.2.2.2.2.2.1,())))))))) ((q7k n () a2 a3 b1 b2 b3 b4 b5 b6 b7 b8 b9 b10 b11).bind fun r6=>some (r6.1,(((r6.2.1.1.1,(r6.2.1.1.2.1,((),((),((),((),(r6.2.1.1.2.2.2.2.2.2.1,(r6.2.1.1.2.2.2.2.2.2.2.1,(r6.2.1.1.2.2.2.2.2.2.2.2.1,((),())))))))))),(r6.2.1.2.1,(r6.2.1.2.2.1,()))),(r6.2.2.1,(r6.2.2.2.1,(r6.2.2.2.2.1,(r6.2.2.2.2.2.1,())))))))
def q3r (n:Nat):FX:={ f:=95,args:=[.one (.c (.box 1000000 0)),.one (.c (.d .str)),.one (.c (.d (.lst (.prod .str (.int .i64)))))],boxes:=[(1000000,(90,[.d .str,.d .str,.row 1000003,.row 1000004,.row 1000005,.row 1000006,.d (.int .i64),.d (.int .i64),.d .str,.mv 1000001,.mv 1000002])),(1000001,(2199023259655,[.d (.lst (.prod .str (.prod (.lst .str) (.prod .bool .any))))])),(1000002,(2199023286277,[.d (.lst (.prod (.prod .str (.prod .str Tv)) (.prod (.int .i64) (.int .i64))))]))],rows:=[(1000003,⟨46,true,(.prod .str Tv)⟩),(1000004,⟨76,true,(.prod .str .str)⟩),(1000005,⟨46,true,(.prod .str Tv)⟩),(1000006,⟨77,true,(.prod (.int .i64) (.prod (.int .i64) (.prod (.int .i64) (.prod .str (.prod .str Tv)))))⟩)],res:=.one (.c (.d .any)),oboxes:=[(1000000,(90,[.d .str,.d .str,.row 1000003,.row 1000004,.row 1000005,.row 1000006,.d (.int .i64),.d (.int .i64),.d .str,.mv 1000001,.mv 1000002])),(1000001,(2199023259655,[.d (.lst (.prod .str (.prod (.lst .str) (.prod .bool .any))))])),(1000002,(2199023286277,[.d (.lst (.prod (.prod .str (.prod .str Tv)) (.prod (.int .i64) (.int .i64))))]))],orows:=[(1000003,⟨46,true,(.prod .str Tv)⟩),(1000004,⟨76,true,(.prod .str .str)⟩),(1000005,⟨46,true,(.prod .str Tv)⟩),(1000006,⟨77,true,(.prod (.int .i64) (.prod (.int .i64) (.prod (.int .i64) (.prod .str (.prod .str Tv)))))⟩)],F:=fun p=>qs1 n p.1.1 p.1.2.1 p.1.2.2 p.2.1.1.1 p.2.1.1.2.1 p.2.1.1.2.2.2.2.2.2.1 p.2.1.1.2.2.2.2.2.2.2.1 p.2.1.1.2.2.2.2.2.2.2.2.1 p.2.1.2.1 p.2.1.2.2.1 p.2.2.1 p.2.2.2.1 p.2.2.2.2.1 p.2.2.2.2.2.1 }
def j2n (n:Nat):List FC:=[q5a (q28 n) [(1000000,1000000),(1000001,1000001),(1000002,1000002)] [(1000003,1000003),(1000004,1000004),(1000005,1000005),(1000006,1000006)],q54 n]
theorem j64 (n:Nat) {G:World->Prop} (hG:Know Inv G) : ∀c∈j2n n,q14 Tryz.prog G c/\q0c c.args=true:=List.forall_mem_cons.2 ⟨q1p (qnm n G hG),List.forall_mem_cons.2 ⟨qjy n G hG,(fun _ h=>by cases h)⟩⟩
def j3e:q0b:=[]
theorem jgh:drB j3e (q00 Tryz.f95)=true:=by kernel_rfl
theorem jhz (n:Nat) : ∀a,(q3r n).F a=q83 Tryz.prog 27 (j2n n) (qvb n) j3e (q00 Tryz.f95) [.tmp 6] (q3r n).args (q3r n).boxes (q3r n).rows (q3r n).res (q3r n).oboxes (q3r n).orows a:=by intro a;kernel_rfl
theorem j8h (n:Nat):qac Inv Tryz.prog (q3r n):=fun G hG=>⟨by kernel_rfl,fun a r h=>q1l (x:=q3r n) (c:=q00 Tryz.f95) Tryz.func95 (by kernel_rfl) (by kernel_rfl) (Nat.le_of_ble_eq_true (by kernel_rfl)) (by kernel_rfl) (rs:=[.tmp 6]) (by kernel_rfl) (j64 n hG) (lts:=qvb n) (fun F hF hFG=>have hK:Know Inv F.G:=hFG ▸ hG;(q03 fun j L h1 h2 h3=>absurd h2 (Nat.not_lt.2 (Nat.le_trans (by decide +kernel) h1)))) jgh ((jhz n a).symm.trans h)⟩
def qp6 (n:Nat):List LC:=[]
def qcu (n:Nat) (a1:Unit) (a2:List (Yy×(Int))) (b1:Yy) (b2:Yy) (b3:Int) (b4:Int) (b5:Yy) (b6:List Zg) (b7:List ((Yy×(Qq))×(Int×(Int)))) (b8:List (Qq)) (b9:List (Yy×Yy)) (b10:List (Qq)) (b11:List Zh):Option Zf :=
 (bif decide ((a2.length:Int)=0) then some (q87,(((b1,(b2,((),((),((),((),(b3,(b4,(b5,((),())))))))))),(b6,(b7,()))),(b8,(b9,(b10,(b11,())))))) else (bif decide (b5=([]:Yy)) then (q2g a2 (0:Int)).bind fun x1=>(q20 a2 (1:Int) (a2.length:Int)).bind fun s2=>(qs1 n () x1.1 s2 b1 b2 b3 b4 b5 b6 b7 b8 b9 b10 b11).bind fun r3=>some (r3.1,(((r3.2.1.1.1,(r3.2.1.1.2.1,((),((),((),((),(r3.2.1.1.2.2.2.2.2.2.1,(r3.2.1.1.2.2.2.2.2.2.2.1,(r3.2.1.1.2.2.2.2.2.2.2.2.1,((),())))))))))),(r3.2.1.2.1,(r3.2.1.2.2.1,()))),(r3.2.2.1,(r3.2.2.2.1,(r3.2.2.2.2.1,(r3.2.2.2.2.2.1,())))))) else (q7u n a2).bind fun r4=>(bif decide (r4=([41]:Yy)) then some (q87,(((b1,(b2,((),((),((),((),(b3,(b4,(([]:Yy),((),())))))))))),(b6,(b7,()))),(b8,(b9,(b10,(b11,())))))) else (q7k n () b5 a2 b1 b2 b3 b4 b5 b6 b7 b8 b9 b10 b11).bind fun r5=>some (r5.1,(((r5.2.1.1.1,(r5.2.1.1.2.1,((),((),((),((),(r5.2.1.1.2.2.2.2.2.2.1,(r5.2.1.1.2.2.2.2.2.2.2.1,(r5.2.1.1.2.2.2.2.2.2.2.2.1,((),())))))))))),(r5.2.1.2.1,(r5.2.1.2.2.1,()))),(r5.2.2.1,(r5.2.2.2.1,(r5.2.2.2.2.1,(r5.2.2.2.2.2.1,())))))))))
def q23 (n:Nat):FX:={ f:=65,args:=[.one (.c (.box 1000000 0)),.one (.c (.d (.lst (.prod .str (.int .i64)))))],boxes:=[(1000000,(90,[.d .str,.d .str,.row 1000003,.row 1000004,.row 1000005,.row 1000006,.d (.int .i64),.d (.int .i64),.d .str,.mv 1000001,.mv 1000002])),(1000001,(2199023259655,[.d (.lst (.prod .str (.prod (.lst .str) (.prod .bool .any))))])),(1000002,(2199023286277,[.d (.lst (.prod (.prod .str (.prod .str Tv)) (.prod (.int .i64) (.int .i64))))]))],rows:=[(1000003,⟨46,true,(.prod .str Tv)⟩),(1000004,⟨76,true,(.prod .str .str)⟩),(1000005,⟨46,true,(.prod .str Tv)⟩),(1000006,⟨77,true,(.prod (.int .i64) (.prod (.int .i64) (.prod (.int .i64) (.prod .str (.prod .str Tv)))))⟩)],res:=.one (.c (.d .any)),oboxes:=[(1000000,(90,[.d .str,.d .str,.row 1000003,.row 1000004,.row 1000005,.row 1000006,.d (.int .i64),.d (.int .i64),.d .str,.mv 1000001,.mv 1000002])),(1000001,(2199023259655,[.d (.lst (.prod .str (.prod (.lst .str) (.prod .bool .any))))])),(1000002,(2199023286277,[.d (.lst (.prod (.prod .str (.prod .str Tv)) (.prod (.int .i64) (.int .i64))))]))],orows:=[(1000003,⟨46,true,(.prod .str Tv)⟩),(1000004,⟨76,true,(.prod .str .str)⟩),(1000005,⟨46,true,(.prod .str Tv)⟩),(1000006,⟨77,true,(.prod (.int .i64) (.prod (.int .i64) (.prod (.int .i64) (.prod .str (.prod .str Tv)))))⟩)],F:=fun p=>qcu n p.1.1 p.1.2 p.2.1.1.1 p.2.1.1.2.1 p.2.1.1.2.2.2.2.2.2.1 p.2.1.1.2.2.2.2.2.2.2.1 p.2.1.1.2.2.2.2.2.2.2.2.1 p.2.1.2.1 p.2.1.2.2.1 p.2.2.1 p.2.2.2.1 p.2.2.2.2.1 p.2.2.2.2.2.1 }
def qxw (n:Nat):List FC:=[q5a (q3r n) [(1000000,1000000),(1000001,1000001),(1000002,1000002)] [(1000003,1000003),(1000004,1000004),(1000005,1000005),(1000006,1000006)],q5a (q28 n) [(1000000,1000000),(1000001,1000001),(1000002,1000002)] [(1000003,1000003),(1000004,1000004),(1000005,1000005),(1000006,1000006)],q54 n]
theorem j09 (n:Nat) {G:World->Prop} (hG:Know Inv G) : ∀c∈qxw n,q14 Tryz.prog G c/\q0c c.args=true:=List.forall_mem_cons.2 ⟨q1p (j8h n G hG),List.forall_mem_cons.2 ⟨q1p (qnm n G hG),List.forall_mem_cons.2 ⟨qjy n G hG,(fun _ h=>by cases h)⟩⟩⟩
def qtn:q0b:=[(4,[⟨16905424996341287883274873117328531408603114433155888708094742688853564881815195503181352188405030012629580639784228117724235121904085937192017247310814066461068373887968162693399408565645646113696775453062758028932736905368049975642828700760545167247665234799833848479745,2^45,0⟩,⟨1688849860263944,2^48,0⟩,⟨49*2^48,2^51,2⟩,⟨49*2^51,2^54,6⟩,⟨49*2^54,2^57,14⟩,⟨6917529027641081864,2^60,0⟩,⟨49*2^60,2^63,32⟩,⟨0,0,127⟩,⟨0,0,255⟩]),(3000004,[⟨7,0,0⟩])]
theorem jdl:drB qtn (q00 Tryz.f65)=true:=by kernel_rfl
theorem j82 (n:Nat) : ∀a,(q23 n).F a=q83 Tryz.prog 37 (qxw n) (qp6 n) qtn (q00 Tryz.f65) [.tmp 4] (q23 n).args (q23 n).boxes (q23 n).rows (q23 n).res (q23 n).oboxes (q23 n).orows a:=by intro a;kernel_rfl
theorem qoc (n:Nat):qac Inv Tryz.prog (q23 n):=fun G hG=>⟨by kernel_rfl,fun a r h=>q1l (x:=q23 n) (c:=q00 Tryz.f65) Tryz.func65 (by kernel_rfl) (by kernel_rfl) (Nat.le_of_ble_eq_true (by kernel_rfl)) (by kernel_rfl) (rs:=[.tmp 4]) (by kernel_rfl) (j09 n hG) (lts:=qp6 n) (fun F hF hFG=>have hK:Know Inv F.G:=hFG ▸ hG;(q03 fun j L h1 h2 h3=>absurd h2 (Nat.not_lt.2 (Nat.le_trans (by decide +kernel) h1)))) jdl ((j82 n a).symm.trans h)⟩
end Go.Proofs.YtapfankgdkdkgaaGreatDoor.AM
namespace Go.Proofs
open Go.RowKit Go.Shelf Go.Lib
set_option linter.unusedSimpArgs false
namespace YtapfankgdkdkgaaGreatDoor.AM
theorem jgq (n:Int) (c:Value) (h1:c.oneCell'=true) (tb:Nat) (old old':Value) (w:World) (hI:Inv w) (ht0:w.cell? ⟨tb,0,none⟩=some old) (hf0:w.frozen? ⟨tb,0,none⟩=false) (ht0':w.cell? ⟨tb,1,none⟩=some old') (hf0':w.frozen? ⟨tb,1,none⟩=false) :
  Calls Tryz.prog 66 #[.iface 128 (.agg #[.int .i64 n,c]),.iface 135 (.pointer (some ⟨tb,0,none⟩))] w fun ev w'=>ev = .returned (.bool true)/\Below tb w w'/\w'.cell? ⟨tb,0,none⟩=some (.int .i64 n)/\(∀b,tb<b->b<w.heap.size->w'.heap[b]? = w.heap[b]?):=by
 have htl:tb<w.heap.size:=World.block_lt_of_cell? _ _ ht0
 refine (jlk n c h1 tb old old' w hI.errT ht0 hf0 ht0' hf0').mono ?_
 rintro ev w' ⟨rfl,rfl⟩
 have b0:Below w.heap.size w ((((w.alloc (.cells #[.pointer (some ⟨tb,0,none⟩)] 135)).alloc (.cells #[.pointer (some ⟨gC,135,none⟩),.pointer (some ⟨w.heap.size,0,none⟩),.int .u64 150] 167)).alloc (.cells #[.pointer (some ⟨gC,135,none⟩),.pointer (some ⟨w.heap.size,0,none⟩),.int .u64 150] 167)).alloc (.cells #[.int .i64 n,c] 128)):=((((Below.refl _ _).alloc (by omega) _).alloc (by simp) _).alloc (by simp;omega) _).alloc (by simp;omega) _
 refine ⟨rfl,Below.setCell (p:=⟨tb,1,none⟩) (Below.setCell (p:=⟨tb,0,none⟩) (b0.mono (by omega)) (Nat.le_refl tb) _) (Nat.le_refl tb) _,?_,fun b hb hlt=>?_⟩
 ·refine (World.cell?_setCell_other _ _ _ _ (show (⟨tb,1,none⟩:Addr)≠⟨tb,0,none⟩ from by simp)).trans ?_
  refine World.cell?_setCell_same _ _ _ (u:=old) ?_
  rw [World.cell?_alloc_lt _ _ ⟨tb,0,none⟩ (by simp;omega),World.cell?_alloc_lt _ _ ⟨tb,0,none⟩ (by simp;omega),World.cell?_alloc_lt _ _ ⟨tb,0,none⟩ (by simp;omega),World.cell?_alloc_lt _ _ ⟨tb,0,none⟩ htl,ht0]
 ·rw [Below.heap_setCell _ _ _ _ (by simp;omega),Below.heap_setCell _ _ _ _ (by simp;omega)]
  exact b0.block b hlt
theorem jh3 (m n:Int) (tb:Nat) (old:Value) (w:World) (hI:Inv w) (ht0:w.cell? ⟨tb,0,none⟩=some old) (hf0:w.frozen? ⟨tb,0,none⟩=false) :
  Calls Tryz.prog 66 #[.iface 128 (.agg #[.int .i64 m,.iface 126 (.agg #[.int .i64 n])]),.iface 136 (.pointer (some ⟨tb,0,none⟩))] w fun ev w'=>ev = .returned (.bool true)/\Below tb w w'/\w'.cell? ⟨tb,0,none⟩=some (.int .i64 n):=by
 have htl:tb<w.heap.size:=World.block_lt_of_cell? _ _ ht0
 refine (jn3 m n tb old w hI.errT ht0 hf0).mono ?_
 rintro ev w' ⟨rfl,rfl⟩
 refine ⟨rfl,Below.setCell (p:=⟨tb,0,none⟩) ?_ (Nat.le_refl tb) _,?_⟩
 ·exact (((((Below.refl _ _).alloc (by omega) _).alloc (by simp;omega) _).alloc (by simp;omega) _).alloc (by simp;omega) _).alloc (by simp;omega) _
 refine World.cell?_setCell_same _ _ _ (u:=old) ?_
 rw [World.cell?_alloc_lt _ _ ⟨tb,0,none⟩ (by simp;omega),World.cell?_alloc_lt _ _ ⟨tb,0,none⟩ (by simp;omega),World.cell?_alloc_lt _ _ ⟨tb,0,none⟩ (by simp;omega),World.cell?_alloc_lt _ _ ⟨tb,0,none⟩ (by simp;omega),World.cell?_alloc_lt _ _ ⟨tb,0,none⟩ htl,ht0]
set_option maxHeartbeats 2000000 in
theorem j74 (m n:Int) (w:World) (hI:Inv w):Calls Tryz.prog 38 #[.iface 128 (.agg #[.int .i64 m,.iface 126 (.agg #[.int .i64 n])])] w fun e w'=>e = .returned (.tuple #[.int .i64 m,.int .i64 n])/\Below w.heap.size w w':=by
 go_enter Tryz.func38,Tryz.ntmps38
 go_wp2_with fail
 have b1:Below w.heap.size w ((w.alloc (.cells #[.int .i64 0,.nilIface] 128)).alloc (.cells #[.int .i64 0] 126)):=((Below.refl _ _).alloc (Nat.le_refl _) _).alloc (by simp) _
 refine (jgq m (.iface 126 (.agg #[.int .i64 n])) rfl w.heap.size (.int .i64 0) .nilIface _ (hI.below b1) (by simp) (by simp) (by simp) (by simp)).mono ?_
 rintro e w1 ⟨rfl,b2,c1,k1⟩
 have k2:w1.heap[w.heap.size+1]? = some (.cells #[.int .i64 0] 126 (0,0)):=by
  rw [k1 _ (by omega) (by simp)]
  have:=heap_alloc_new (w.alloc (.cells #[.int .i64 0,.nilIface] 128)) (.cells #[.int .i64 0] 126)
  simpa using this
 have q1:w1.cell? ⟨w.heap.size+1,0,none⟩=some (.int .i64 0):=by rw [cell_of_row w1 _ 0 _ _ _ k2];rfl
 have q2:w1.frozen? ⟨w.heap.size+1,0,none⟩=false:=by simp [World.frozen?,k2]
 have b3:Below w.heap.size w w1:=b1.trans (b2.mono (by omega))
 go_wp2_with fail
 refine (jh3 m n (w.heap.size+1) (.int .i64 0) w1 (hI.below b3) q1 q2).mono ?_
 rintro e w2 ⟨rfl,b4,c2⟩
 have c3:w2.cell? ⟨w.heap.size,0,none⟩=some (.int .i64 m):=(b4.cell (p:=⟨w.heap.size,0,none⟩) (by simp)).trans c1
 have b5:Below w.heap.size w w2:=b3.trans (b4.mono (by omega))
 go_wp2
 go_quiet (fail)
 go_wp2
 go_ret2
 exact ⟨rfl,below_drewN b5 _⟩
def jk4 (v:Value):Option (Int×Int):=match v with
 | .iface T (.agg ⟨[.int .i64 m,.iface U (.agg ⟨[.int .i64 n]⟩)]⟩)=>bif Nat.beq T 128&&Nat.beq U 126 then some (m,n) else none
 | _=>none
def qqk (v:IV):Option (Int×Int):=jk4 (Subtype.val v)
def j21:FC:={ f:=38,args:=[.one (.c (.d .any))],res:=.tup [.c (.d (.int .i64)),.c (.d (.int .i64))],F:=qqk }
theorem jfo:q0g Inv Tryz.prog j21:=fun G hG=>⟨⟨by kernel_rfl,fun (a:IV) r h=>by
 intro Pc w vs hGw hlt hv
 have hI:Inv w:=hG.im w hGw
 obtain ⟨vl⟩:=vs
 match vl,hv with
 | [x],⟨q1,_⟩ =>
  obtain rfl:x=Subtype.val a:=q09 q1
  replace h:jk4 (Subtype.val a)=some r:=h
  unfold jk4 at h
  split at h
  ·rename_i T m U n hv
   cases hT:(Nat.beq T 128&&Nat.beq U 126) with
   | false=>rw [hT] at h;cases h
   | true =>
    rw [hT] at h
    obtain rfl:(m,n)=r:=Option.some.inj h
    obtain ⟨h1,h2⟩:=Bool.and_eq_true_iff.1 hT
    obtain rfl:=Nat.eq_of_beq_eq_true h1
    obtain rfl:=Nat.eq_of_beq_eq_true h2
    rw [hv]
    refine (j74 m n w hI).mono ?_
    rintro e w' ⟨rfl,b⟩
    exact q3p rfl b ⟨#[.int .i64 m,.int .i64 n],rfl,DatRep.v _,DatRep.v _,trivial⟩
  ·cases h⟩,rfl⟩
end YtapfankgdkdkgaaGreatDoor.AM
end Go.Proofs
namespace Go.Proofs.YtapfankgdkdkgaaGreatDoor.AM
open Go.RowKit
set_option maxRecDepth 20000
def qo4 (n:Nat):List LC:=[]
def qgy (n:Nat)  : Option (Unit×((List Zg)×Unit)×Unit) :=
 some ((),((jex ([114,101,116,114,97,99,116]:Yy) (([([120]:Yy),([91,32,120,32,44,32,120,32,93]:Yy)]:List (Yy)),(true,(qqr 92))) (jex ([114,101,112,108,97,99,101]:Yy) (([([120,32,61,62,32,120]:Yy)]:List (Yy)),(true,(qqr 91))) (jex ([101,120,99,108,117,100,101]:Yy) (([([120,32,120]:Yy)]:List (Yy)),(true,(qqr 90))) (jex ([114,101,113,117,105,114,101]:Yy) (([([120,32,120]:Yy)]:List (Yy)),(true,(qqr 89))) (jex ([103,111]:Yy) (([([120]:Yy)]:List (Yy)),(false,(qqr 88))) (jex ([109,111,100,117,108,101]:Yy) (([([120]:Yy)]:List (Yy)),(false,(qqr 87))) ([]:List Zg)))))),()),()))
def q26 (n:Nat):FX:={ f:=63,args:=[],boxes:=[],rows:=[],res:=.one (.c (.mv 1)),oboxes:=[(1,(2199023259655,[.d (.lst (.prod .str (.prod (.lst .str) (.prod .bool .any))))]))],orows:=[],F:=fun p=>qgy n  }
def qvz (n:Nat):List FC:=[]
theorem qzw (n:Nat) {G:World->Prop} (hG:Know Inv G) : ∀c∈qvz n,q14 Tryz.prog G c/\q0c c.args=true:=(fun _ h=>by cases h)
def qw7:q0b:=[]
theorem j8v:drB qw7 (q00 Tryz.f63)=true:=by kernel_rfl
theorem j8c (n:Nat) : ∀a,(q26 n).F a=q83 Tryz.prog 15 (qvz n) (qo4 n) qw7 (q00 Tryz.f63) [.tmp 0] (q26 n).args (q26 n).boxes (q26 n).rows (q26 n).res (q26 n).oboxes (q26 n).orows a:=by intro a;kernel_rfl
theorem qoq (n:Nat):qac Inv Tryz.prog (q26 n):=fun G hG=>⟨by kernel_rfl,fun a r h=>q1l (x:=q26 n) (c:=q00 Tryz.f63) Tryz.func63 (by kernel_rfl) (by kernel_rfl) (Nat.le_of_ble_eq_true (by kernel_rfl)) (by kernel_rfl) (rs:=[.tmp 0]) (by kernel_rfl) (qzw n hG) (lts:=qo4 n) (fun F hF hFG=>have hK:Know Inv F.G:=hFG ▸ hG;(q03 fun j L h1 h2 h3=>absurd h2 (Nat.not_lt.2 (Nat.le_trans (by decide +kernel) h1)))) j8v ((j8c n a).symm.trans h)⟩
@[reducible] def q9t:SSt:=⟨[(4,.one (.c (.d (.lst (.prod (.lst (.prod .str (.int .i64))) .str))))),(5,.one (.c (.d (.int .i64)))),(7,.one (.c (.box 29 0))),(31,.one (.c (.d (.lst .str)))),(32,.one (.c (.d (.int .i64)))),(33,.one (.c (.d (.int .i64))))],[(26,(2199023259655,[.d (.lst (.prod .str (.prod (.lst .str) (.prod .bool .any))))])),(27,(2199023286277,[.d (.lst (.prod (.prod .str (.prod .str Tv)) (.prod (.int .i64) (.int .i64))))])),(29,(90,[.d .str,.d .str,.row 44,.row 1044,.row 2044,.row 3044,.d (.int .i64),.d (.int .i64),.d .str,.mv 26,.mv 27]))],[(44,⟨46,true,(.prod .str Tv)⟩),(1044,⟨76,true,(.prod .str .str)⟩),(2044,⟨46,true,(.prod .str Tv)⟩),(3044,⟨77,true,(.prod (.int .i64) (.prod (.int .i64) (.prod (.int .i64) (.prod .str (.prod .str Tv)))))⟩)]⟩
@[reducible] def q5k:List (Exit×SSt):=[(.ret,⟨[(2,.one (.c (.d .any))),(3,.one (.c (.d .any)))],[],[]⟩),(.exit 0,⟨[(5,.one (.c (.d (.int .i64)))),(7,.one (.c (.box 29 0)))],[(26,(2199023259655,[.d (.lst (.prod .str (.prod (.lst .str) (.prod .bool .any))))])),(27,(2199023286277,[.d (.lst (.prod (.prod .str (.prod .str Tv)) (.prod (.int .i64) (.int .i64))))])),(29,(90,[.d .str,.d .str,.row 44,.row 1044,.row 2044,.row 3044,.d (.int .i64),.d (.int .i64),.d .str,.mv 26,.mv 27]))],[(44,⟨46,true,(.prod .str Tv)⟩),(1044,⟨76,true,(.prod .str .str)⟩),(2044,⟨46,true,(.prod .str Tv)⟩),(3044,⟨77,true,(.prod (.int .i64) (.prod (.int .i64) (.prod (.int .i64) (.prod .str (.prod .str Tv)))))⟩)]⟩)]
def j9p (n:Nat) (rec:Zl->Int->(List (Yy))->Int->Int->(List Zg)->Zj->(Yy)->(Yy)->Int->Int->(Yy)->LQ->(List (Yy×Yy))->LQ->(List Zh)->Option Ze) (a1:List (List (Yy×(Int))×Yy)) (a2:Int) (a3:List (Yy)) (a4:Int) (a5:Int) (a6:List Zg) (a7:List ((Yy×(Qq))×(Int×(Int)))) (a8:Yy) (a9:Yy) (a10:Int) (a11:Int) (a12:Yy) (a13:List (Qq)) (a14:List (Yy×Yy)) (a15:List (Qq)) (a16:List Zh):Option Ze :=
 (bif decide (a5<a4) then (q2g a3 a5).bind fun x4=>(q2g a1 a5).bind fun x5=>(qcu n () x5.1 a8 a9 a10 a11 a12 a6 a7 a13 a14 a15 a16).bind fun r6=>(q3j (Subtype.val r6.1)).bind fun (hb7:Bool)=>(bif !hb7 then some (Sum.inl ((qt2,((qh2 128 (Value.agg ⟨[(Value.int .i64 a5),(Subtype.val r6.1)]⟩)),())),((),()))) else q0h (IntKind.wrap .i64 ((x4.length:Int)+1)) fun (n8:Int)=>q0h (IntKind.wrap .i64 (r6.2.1.1.2.2.2.2.2.2.2.1+n8)) fun n9=>q0h (IntKind.wrap .i64 (a5+1)) fun n10=>rec a1 a2 a3 a4 n10 r6.2.1.2.1 r6.2.1.2.2.1 r6.2.1.1.1 r6.2.1.1.2.1 r6.2.1.1.2.2.2.2.2.2.1 n9 r6.2.1.1.2.2.2.2.2.2.2.2.1 r6.2.2.1 r6.2.2.2.1 r6.2.2.2.2.1 r6.2.2.2.2.2.1) else some (Sum.inr (((a2,((),())),((a6,(a7,((a8,(a9,((),((),((),((),(a10,(a11,(a12,((),())))))))))),()))),(a13,(a14,(a15,(a16,())))))))))
def qk1 (n:Nat) (rec:pSt q9t->Option (q1e q5k)) (p:pSt q9t):Option (q1e q5k):=j9p n (fun a1 a2 a3 a4 a5 a6 a7 a8 a9 a10 a11 a12 a13 a14 a15 a16=>rec ((a1,(a2,((),(a3,(a4,(a5,())))))),((a6,(a7,((a8,(a9,((),((),((),((),(a10,(a11,(a12,((),())))))))))),()))),(a13,(a14,(a15,(a16,()))))))) p.1.1 p.1.2.1 p.1.2.2.2.1 p.1.2.2.2.2.1 p.1.2.2.2.2.2.1 p.2.1.1 p.2.1.2.1 p.2.1.2.2.1.1 p.2.1.2.2.1.2.1 p.2.1.2.2.1.2.2.2.2.2.2.1 p.2.1.2.2.1.2.2.2.2.2.2.2.1 p.2.1.2.2.1.2.2.2.2.2.2.2.2.1 p.2.2.1 p.2.2.2.1 p.2.2.2.2.1 p.2.2.2.2.2.1
def qf2 (n m:Nat) (a1:List (List (Yy×(Int))×Yy)) (a2:Int) (a3:List (Yy)) (a4:Int) (a5:Int) (a6:List Zg) (a7:List ((Yy×(Qq))×(Int×(Int)))) (a8:Yy) (a9:Yy) (a10:Int) (a11:Int) (a12:Yy) (a13:List (Qq)) (a14:List (Yy×Yy)) (a15:List (Qq)) (a16:List Zh):Option Ze:=q1n (qk1 n) m ((a1,(a2,((),(a3,(a4,(a5,())))))),((a6,(a7,((a8,(a9,((),((),((),((),(a10,(a11,(a12,((),())))))))))),()))),(a13,(a14,(a15,(a16,()))))))
def qvn (n:Nat):LC:={ sh:=q9t,outs:=q5k,F:=q1n (qk1 n) n }
def qe8 (n:Nat):List LC:=[qvn n]
def qbh (n:Nat) (a1:Yy):Option (IV×(IV)) :=
 (Lx.qd9 n a1).bind fun (r1:Zl×(Int×(Int)))=>(bif !decide (r1.2.2=(0:Int)) then some (qt2,(qh2 128 (Value.agg ⟨[(Value.int .i64 r1.2.1),(Subtype.val (qh2 126 (Value.agg ⟨[(Value.int .i64 r1.2.2)]⟩)))]⟩))) else (qgy n).bind fun r2=>(Lx.q9y n a1).bind fun (r3:List (Yy))=>(qf2 n n r1.1 r1.2.1 r3 (r3.length:Int) (0:Int) r2.2.1.1 ([]:List ((Yy×(Qq))×(Int×(Int)))) ([]:Yy) ([]:Yy) r1.2.1 (0:Int) ([]:Yy) [] [] [] []).bind fun o11=>Sum.elim (fun (q12:(IV×(IV×Unit))×Unit×Unit)=>some (q12.1.1,q12.1.2.1)) (fun (q13:(Int×(Unit×Unit))×((List Zg)×(Zj×(Zi×Unit)))×Zk)=>(bif !decide (q13.2.1.2.2.1.2.2.2.2.2.2.2.2.1=([]:Yy)) then some (qt2,(qh2 128 (Value.agg ⟨[(Value.int .i64 q13.1.1),(Subtype.val (qh2 126 (Value.agg ⟨[(Value.int .i64 (10:Int))]⟩)))]⟩))) else (bif decide (q13.2.1.2.2.1.1=([]:Yy)) then some (qt2,(qh2 128 (Value.agg ⟨[(Value.int .i64 q13.1.1),(Subtype.val (qh2 126 (Value.agg ⟨[(Value.int .i64 (5:Int))]⟩)))]⟩))) else none))) o11)
def q6t (n:Nat):FC:={ f:=37,args:=[.one (.c (.d .str))],res:=.tup [.c (.d .any),.c (.d .any)],F:=fun p=>qbh n p }
def qhw (n:Nat):List FC:=[j2a (q26 n) [] [] [(1,26)],q5a (q23 n) [(1000000,29),(1000001,26),(1000002,27)] [(1000003,44),(1000004,1044),(1000005,2044),(1000006,3044)],Lx.q6k n,Lx.q59 n]
theorem qjh (n:Nat) {G:World->Prop} (hG:Know Inv G) : ∀c∈qhw n,q14 Tryz.prog G c/\q0c c.args=true:=List.forall_mem_cons.2 ⟨j31 (qoq n G hG),List.forall_mem_cons.2 ⟨q1p (qoc n G hG),List.forall_mem_cons.2 ⟨Lx.qwt n G hG,List.forall_mem_cons.2 ⟨Lx.qlq n G hG,(fun _ h=>by cases h)⟩⟩⟩⟩
def qik:q0b:=[]
theorem qsx:drB qik (q00 Tryz.f37)=true:=by kernel_rfl
theorem j79 (n:Nat) : ∀rec p,qk1 n rec p=round Tryz.prog 86 (qhw n) (qe8 n) qik 1 q9t q5k (q05 0 0 (q00 Tryz.f37)) rec p:=by intro rec p;kernel_rfl
theorem qy6 (n:Nat) {F:Fr} (hF:F.n=86) (hK:Know Inv F.G):qne Tryz.prog F (qvn n) (q05 0 0 (q00 Tryz.f37)) :=
 q1w hF (by kernel_rfl) (qjh n hK) (j79 n) (fuel:=n) (fun _=>rfl) (q03 fun j L h1 h2 h3=>absurd h2 (Nat.not_lt.2 (Nat.le_trans (by decide +kernel) h1))) (q3i qsx)
theorem j8w (n:Nat) : ∀a,(q6t n).F a=main Tryz.prog 86 (qhw n) (qe8 n) qik (q00 Tryz.f37) [.tmp 2,.tmp 3] (q6t n).args (q6t n).res a:=by intro a;kernel_rfl
theorem qtm (n:Nat):q0g Inv Tryz.prog (q6t n):=fun G hG=>⟨⟨by kernel_rfl,fun a r h=>q04 (c:=q00 Tryz.f37) Tryz.func37 (by kernel_rfl) (by kernel_rfl) (Nat.le_of_ble_eq_true (by kernel_rfl)) hG.st (by kernel_rfl) (rs:=[.tmp 2,.tmp 3]) (by kernel_rfl) (qjh n hG) (lts:=qe8 n) (fun F hF hFG=>have hK:Know Inv F.G:=hFG ▸ hG;(q03 (c:=(q00 Tryz.f37)) (fun j L h1 h2 h3=>by
  have h2':j<1:=Nat.lt_of_lt_of_le h2 (by decide +kernel)
  match j,h1,h2',h3 with
  | 0,_,_,h3=>obtain rfl:=Option.some.inj h3;exact (show q05 0 0 (q00 Tryz.f37)=q05 0 0 (q00 Tryz.f37) by kernel_rfl) ▸ qy6 n hF hK
  | j+1,_,h2',_=>exact absurd h2' (by omega)))) qsx ((j8w n a).symm.trans h)⟩,rfl⟩
@[reducible] def q9e:SSt:=⟨[(4,.one (.c (.d (.lst (.prod (.lst (.prod .str (.int .i64))) .str))))),(5,.one (.c (.d (.int .i64)))),(7,.one (.c (.box 29 0))),(31,.one (.c (.d (.lst .str)))),(32,.one (.c (.d (.int .i64)))),(33,.one (.c (.d (.int .i64))))],[(26,(2199023259655,[.d (.lst (.prod .str (.prod (.lst .str) (.prod .bool .any))))])),(27,(2199023286277,[.d (.lst (.prod (.prod .str (.prod .str Tv)) (.prod (.int .i64) (.int .i64))))])),(29,(90,[.d .str,.d .str,.row 44,.row 1044,.row 2044,.row 3044,.d (.int .i64),.d (.int .i64),.d .str,.mv 26,.mv 27]))],[(44,⟨46,true,(.prod .str Tv)⟩),(1044,⟨76,true,(.prod .str .str)⟩),(2044,⟨46,true,(.prod .str Tv)⟩),(3044,⟨77,true,(.prod (.int .i64) (.prod (.int .i64) (.prod (.int .i64) (.prod .str (.prod .str Tv)))))⟩)]⟩
@[reducible] def q62:List (Exit×SSt):=[(.ret,⟨[(2,.one (.c (.d .any))),(3,.one (.c (.d .any)))],[],[]⟩),(.exit 0,⟨[(5,.one (.c (.d (.int .i64)))),(7,.one (.c (.box 29 0)))],[(26,(2199023259655,[.d (.lst (.prod .str (.prod (.lst .str) (.prod .bool .any))))])),(27,(2199023286277,[.d (.lst (.prod (.prod .str (.prod .str Tv)) (.prod (.int .i64) (.int .i64))))])),(29,(90,[.d .str,.d .str,.row 44,.row 1044,.row 2044,.row 3044,.d (.int .i64),.d (.int .i64),.d .str,.mv 26,.mv 27]))],[(44,⟨46,true,(.prod .str Tv)⟩),(1044,⟨76,true,(.prod .str .str)⟩),(2044,⟨46,true,(.prod .str Tv)⟩),(3044,⟨77,true,(.prod (.int .i64) (.prod (.int .i64) (.prod (.int .i64) (.prod .str (.prod .str Tv)))))⟩)]⟩)]
def qkq (n:Nat) (rec:Zl->Int->(List (Yy))->Int->Int->(List Zg)->Zj->(Yy)->(Yy)->Int->Int->(Yy)->LQ->(List (Yy×Yy))->LQ->(List Zh)->Option Ze) (a1:List (List (Yy×(Int))×Yy)) (a2:Int) (a3:List (Yy)) (a4:Int) (a5:Int) (a6:List Zg) (a7:List ((Yy×(Qq))×(Int×(Int)))) (a8:Yy) (a9:Yy) (a10:Int) (a11:Int) (a12:Yy) (a13:List (Qq)) (a14:List (Yy×Yy)) (a15:List (Qq)) (a16:List Zh):Option Ze :=
 (bif decide (a5<a4) then (q2g a3 a5).bind fun x4=>(q2g a1 a5).bind fun x5=>(qcu n () x5.1 a8 a9 a10 a11 a12 a6 a7 a13 a14 a15 a16).bind fun r6=>(q3j (Subtype.val r6.1)).bind fun (hb7:Bool)=>(bif !hb7 then some (Sum.inl ((qt2,((qh2 128 (Value.agg ⟨[(Value.int .i64 a5),(Subtype.val r6.1)]⟩)),())),((),()))) else q0h (IntKind.wrap .i64 ((x4.length:Int)+1)) fun (n8:Int)=>q0h (IntKind.wrap .i64 (r6.2.1.1.2.2.2.2.2.2.2.1+n8)) fun n9=>q0h (IntKind.wrap .i64 (a5+1)) fun n10=>rec a1 a2 a3 a4 n10 r6.2.1.2.1 r6.2.1.2.2.1 r6.2.1.1.1 r6.2.1.1.2.1 r6.2.1.1.2.2.2.2.2.2.1 n9 r6.2.1.1.2.2.2.2.2.2.2.2.1 r6.2.2.1 r6.2.2.2.1 r6.2.2.2.2.1 r6.2.2.2.2.2.1) else some (Sum.inr (((a2,((),())),((a6,(a7,((a8,(a9,((),((),((),((),(a10,(a11,(a12,((),())))))))))),()))),(a13,(a14,(a15,(a16,())))))))))
def qhe (n:Nat) (rec:pSt q9e->Option (q1e q62)) (p:pSt q9e):Option (q1e q62):=qkq n (fun a1 a2 a3 a4 a5 a6 a7 a8 a9 a10 a11 a12 a13 a14 a15 a16=>rec ((a1,(a2,((),(a3,(a4,(a5,())))))),((a6,(a7,((a8,(a9,((),((),((),((),(a10,(a11,(a12,((),())))))))))),()))),(a13,(a14,(a15,(a16,()))))))) p.1.1 p.1.2.1 p.1.2.2.2.1 p.1.2.2.2.2.1 p.1.2.2.2.2.2.1 p.2.1.1 p.2.1.2.1 p.2.1.2.2.1.1 p.2.1.2.2.1.2.1 p.2.1.2.2.1.2.2.2.2.2.2.1 p.2.1.2.2.1.2.2.2.2.2.2.2.1 p.2.1.2.2.1.2.2.2.2.2.2.2.2.1 p.2.2.1 p.2.2.2.1 p.2.2.2.2.1 p.2.2.2.2.2.1
def q2w (n m:Nat) (a1:List (List (Yy×(Int))×Yy)) (a2:Int) (a3:List (Yy)) (a4:Int) (a5:Int) (a6:List Zg) (a7:List ((Yy×(Qq))×(Int×(Int)))) (a8:Yy) (a9:Yy) (a10:Int) (a11:Int) (a12:Yy) (a13:List (Qq)) (a14:List (Yy×Yy)) (a15:List (Qq)) (a16:List Zh):Option Ze:=q1n (qhe n) m ((a1,(a2,((),(a3,(a4,(a5,())))))),((a6,(a7,((a8,(a9,((),((),((),((),(a10,(a11,(a12,((),())))))))))),()))),(a13,(a14,(a15,(a16,()))))))
theorem qed (n m:Nat) (a1 a2 a3 a4 a5 a6 a7 a8 a9 a10 a11 a12 a13 a14 a15 a16):q2w n (m+1) a1 a2 a3 a4 a5 a6 a7 a8 a9 a10 a11 a12 a13 a14 a15 a16=qkq n (fun a1 a2 a3 a4 a5 a6 a7 a8 a9 a10 a11 a12 a13 a14 a15 a16=>q2w n m a1 a2 a3 a4 a5 a6 a7 a8 a9 a10 a11 a12 a13 a14 a15 a16) a1 a2 a3 a4 a5 a6 a7 a8 a9 a10 a11 a12 a13 a14 a15 a16:=rfl
def qth (n:Nat):LC:={ sh:=q9e,outs:=q62,F:=q1n (qhe n) n }
def qdk (n:Nat):List LC:=[qth n]
def q9d (n:Nat) (a1:Yy):Option ((Unit×(IV))×(Zi×((List Zg)×(Zj×Unit)))×Zk) :=
 (Lx.qd9 n a1).bind fun (r1:Zl×(Int×(Int)))=>(bif !decide (r1.2.2=(0:Int)) then none else (qgy n).bind fun r2=>(Lx.q9y n a1).bind fun (r3:List (Yy))=>(q2w n n r1.1 r1.2.1 r3 (r3.length:Int) (0:Int) r2.2.1.1 ([]:List ((Yy×(Qq))×(Int×(Int)))) ([]:Yy) ([]:Yy) r1.2.1 (0:Int) ([]:Yy) [] [] [] []).bind fun o11=>Sum.elim (fun (q12:(IV×(IV×Unit))×Unit×Unit)=>none) (fun (q13:(Int×(Unit×Unit))×((List Zg)×(Zj×(Zi×Unit)))×Zk)=>(bif !decide (q13.2.1.2.2.1.2.2.2.2.2.2.2.2.1=([]:Yy)) then none else (bif decide (q13.2.1.2.2.1.1=([]:Yy)) then none else some (((),q87),(((q13.2.1.2.2.1.1,(q13.2.1.2.2.1.2.1,((),((),((),((),(q13.2.1.2.2.1.2.2.2.2.2.2.1,(q13.2.1.2.2.1.2.2.2.2.2.2.2.1,(q13.2.1.2.2.1.2.2.2.2.2.2.2.2.1,((),())))))))))),(q13.2.1.1,(q13.2.1.2.1,()))),(q13.2.2.1,(q13.2.2.2.1,(q13.2.2.2.2.1,(q13.2.2.2.2.2.1,()))))))))) o11)
def q21 (n:Nat):FX:={ f:=37,args:=[.one (.c (.d .str))],boxes:=[],rows:=[],res:=.tup [.c (.box 29 0),.c (.d .any)],oboxes:=[(29,(90,[.d .str,.d .str,.row 44,.row 1044,.row 2044,.row 3044,.d (.int .i64),.d (.int .i64),.d .str,.mv 26,.mv 27])),(26,(2199023259655,[.d (.lst (.prod .str (.prod (.lst .str) (.prod .bool .any))))])),(27,(2199023286277,[.d (.lst (.prod (.prod .str (.prod .str Tv)) (.prod (.int .i64) (.int .i64))))]))],orows:=[(44,⟨46,true,(.prod .str Tv)⟩),(1044,⟨76,true,(.prod .str .str)⟩),(2044,⟨46,true,(.prod .str Tv)⟩),(3044,⟨77,true,(.prod (.int .i64) (.prod (.int .i64) (.prod (.int .i64) (.prod .str (.prod .str Tv)))))⟩)],F:=fun p=>q9d n p.1 }
def qig (n:Nat):List FC:=[j2a (q26 n) [] [] [(1,26)],q5a (q23 n) [(1000000,29),(1000001,26),(1000002,27)] [(1000003,44),(1000004,1044),(1000005,2044),(1000006,3044)],Lx.q6k n,Lx.q59 n]
theorem qmf (n:Nat) {G:World->Prop} (hG:Know Inv G) : ∀c∈qig n,q14 Tryz.prog G c/\q0c c.args=true:=List.forall_mem_cons.2 ⟨j31 (qoq n G hG),List.forall_mem_cons.2 ⟨q1p (qoc n G hG),List.forall_mem_cons.2 ⟨Lx.qwt n G hG,List.forall_mem_cons.2 ⟨Lx.qlq n G hG,(fun _ h=>by cases h)⟩⟩⟩⟩
def qis:q0b:=[]
theorem qsv:drB qis (q00 Tryz.f37)=true:=by kernel_rfl
theorem j71 (n:Nat) : ∀rec p,qhe n rec p=round Tryz.prog 86 (qig n) (qdk n) qis 1 q9e q62 (q05 0 0 (q00 Tryz.f37)) rec p:=by intro rec p;kernel_rfl
theorem qzg (n:Nat) {F:Fr} (hF:F.n=86) (hK:Know Inv F.G):qne Tryz.prog F (qth n) (q05 0 0 (q00 Tryz.f37)) :=
 q1w hF (by kernel_rfl) (qmf n hK) (j71 n) (fuel:=n) (fun _=>rfl) (q03 fun j L h1 h2 h3=>absurd h2 (Nat.not_lt.2 (Nat.le_trans (by decide +kernel) h1))) (q3i qsv)
theorem jcv (n:Nat) : ∀a,(q21 n).F a=q83 Tryz.prog 86 (qig n) (qdk n) qis (q00 Tryz.f37) [.tmp 2,.tmp 3] (q21 n).args (q21 n).boxes (q21 n).rows (q21 n).res (q21 n).oboxes (q21 n).orows a:=by intro a;kernel_rfl
theorem qoo (n:Nat):qac Inv Tryz.prog (q21 n):=fun G hG=>⟨by kernel_rfl,fun a r h=>q1l (x:=q21 n) (c:=q00 Tryz.f37) Tryz.func37 (by kernel_rfl) (by kernel_rfl) (Nat.le_of_ble_eq_true (by kernel_rfl)) (by kernel_rfl) (rs:=[.tmp 2,.tmp 3]) (by kernel_rfl) (qmf n hG) (lts:=qdk n) (fun F hF hFG=>have hK:Know Inv F.G:=hFG ▸ hG;(q03 (c:=(q00 Tryz.f37)) (fun j L h1 h2 h3=>by
  have h2':j<1:=Nat.lt_of_lt_of_le h2 (by decide +kernel)
  match j,h1,h2',h3 with
  | 0,_,_,h3=>obtain rfl:=Option.some.inj h3;exact (show q05 0 0 (q00 Tryz.f37)=q05 0 0 (q00 Tryz.f37) by kernel_rfl) ▸ qzg n hF hK
  | j+1,_,h2',_=>exact absurd h2' (by omega)))) qsv ((jcv n a).symm.trans h)⟩
end Go.Proofs.YtapfankgdkdkgaaGreatDoor.AM
