
import Derived.Test.YthpgnliicpejoaaGreatDoorVz31
namespace Go.Proofs.YthpgnliicpejoaaGreatDoor.AM
open Go.RowKit
set_option linter.unusedVariables false
set_option maxRecDepth 20000
def qg8 (n:Nat):List LC:=[]
def q9i (n:Nat) (a1:Int):Option ((List ((Bool)×((Int)×(List UInt8))))×(Int)) :=
 (bif decide (a1<(8:Int)) then some ([],(1:Int)) else (bif decide ((512:Int)<a1) then some ([],(1:Int)) else (q9q n a1).bind fun (r1:Int×(Int×(Int×(Int))))=>((q4q n).F ((r1.1,r1.2.1),(1:Int))).bind fun (r2:(List ((Bool)×((Int)×(List UInt8))))×(Int))=>some r2))
def q3d (n:Nat):FC:={ f:=15,args:=[.one (.c (.d (.int .i64)))],res:=.tup [.c (.d (.lst (.prod .bool (.prod (.int .i64) .str)))),.c (.d (.int .i64))],F:=fun p=>q9i n p }
def qhy (n:Nat):List FC:=[q5y n,q4q n]
theorem qp8 (n:Nat) {G:World->Prop} (hG:Know Inv G) : ∀c∈qhy n,q44 Tryz.prog G c/\q1o c.args=true:=List.forall_mem_cons.2 ⟨qp0 n G hG,List.forall_mem_cons.2 ⟨qnw n G hG,(fun _ h=>by cases h)⟩⟩
def qj9:q1m:=[]
theorem qyd:drB qj9 (q0g Tryz.f15)=true:=by kernel_rfl
theorem qx6 (n:Nat) : ∀a,(q3d n).F a=main Tryz.prog 16 (qhy n) (qg8 n) qj9 (q0g Tryz.f15) [.tmp 2,.tmp 3] (q3d n).args (q3d n).res a:=by intro a;kernel_rfl
theorem qib (n:Nat):q1a Inv Tryz.prog (q3d n):=fun G hG=>⟨⟨by kernel_rfl,fun a r h=>q0y (c:=q0g Tryz.f15) Tryz.func15 (by kernel_rfl) (by kernel_rfl) (Nat.le_of_ble_eq_true (by kernel_rfl)) hG.st (by kernel_rfl) (rs:=[.tmp 2,.tmp 3]) (by kernel_rfl) (qp8 n hG) (lts:=qg8 n) (fun F hF hFG=>have hK:Know Inv F.G:=hFG ▸ hG;(q0t fun j L h1 h2 h3=>absurd h2 (Nat.not_lt.2 (Nat.le_trans (by decide +kernel) h1)))) qyd ((qx6 n a).symm.trans h)⟩,rfl⟩
def qj0 (n:Nat):List LC:=[]
def q39 (n:Nat) (a1:(List (List UInt8))×(List ((Int)×(List UInt8)))):Option ((Int×(Int×(Int×(Int×(List (List UInt8×(List UInt8)))))))×(Int)) :=
 (qce n a1).bind fun (r1:(Int×(Int×(Int×(Int×(Int×(Int×((List (List UInt8))×(Int×(List (List UInt8×(List UInt8)))))))))))×(IV))=>(q58 (Subtype.val r1.2)).bind fun (b2:Bool)=>(bif !b2 then (q5w r1.2).bind fun (r3:Int)=>some (((0:Int),((0:Int),((0:Int),((0:Int),[])))),r3) else some ((r1.1.2.2.2.2.1,(r1.1.2.2.2.2.2.1,(((List.length r1.1.2.2.2.2.2.2.1:Nat):Int),r1.1.2.2.2.2.2.2.2))),(0:Int)))
def q4x (n:Nat):FC:={ f:=11,args:=[.one (.agg [.d (.lst .str),.d (.lst (.prod (.int .i64) .str))])],res:=.tup [.agg [.d (.int .i64),.d (.int .i64),.d (.int .i64),.d (.int .i64),.d (.lst (.prod .str .str))],.c (.d (.int .i64))],F:=fun p=>q39 n p }
def qqd (n:Nat):List FC:=[q6q n,qbo]
theorem qsy (n:Nat) {G:World->Prop} (hG:Know Inv G) : ∀c∈qqd n,q44 Tryz.prog G c/\q1o c.args=true:=List.forall_mem_cons.2 ⟨qls n G hG,List.forall_mem_cons.2 ⟨qim G hG,(fun _ h=>by cases h)⟩⟩
def qnc:q1m:=[]
theorem j5b:drB qnc (q0g Tryz.f11)=true:=by kernel_rfl
theorem j5k (n:Nat) : ∀a,(q4x n).F a=main Tryz.prog 31 (qqd n) (qj0 n) qnc (q0g Tryz.f11) [.cell 2 32,.tmp 3] (q4x n).args (q4x n).res a:=by intro a;kernel_rfl
theorem qfd (n:Nat):q1a Inv Tryz.prog (q4x n):=fun G hG=>⟨⟨by kernel_rfl,fun a r h=>q0y (c:=q0g Tryz.f11) Tryz.func11 (by kernel_rfl) (by kernel_rfl) (Nat.le_of_ble_eq_true (by kernel_rfl)) hG.st (by kernel_rfl) (rs:=[.cell 2 32,.tmp 3]) (by kernel_rfl) (qsy n hG) (lts:=qj0 n) (fun F hF hFG=>have hK:Know Inv F.G:=hFG ▸ hG;(q0t fun j L h1 h2 h3=>absurd h2 (Nat.not_lt.2 (Nat.le_trans (by decide +kernel) h1)))) j5b ((j5k n a).symm.trans h)⟩,rfl⟩
def qos (n:Nat):List LC:=[]
def q6b (n:Nat) (a1:(List (List UInt8))×(List ((Int)×(List UInt8)))):Option (Int) :=
 (qce n a1).bind fun (r1:(Int×(Int×(Int×(Int×(Int×(Int×((List (List UInt8))×(Int×(List (List UInt8×(List UInt8)))))))))))×(IV))=>(q58 (Subtype.val r1.2)).bind fun (b2:Bool)=>(bif !b2 then some (0:Int) else (if r1.1.2.2.2.2.1=0 then q1i (IntKind.wrap .i64 (r1.1.1+r1.1.2.1)) fun (n3:Int)=>q1i (IntKind.wrap .i64 (n3 - r1.1.2.2.2.2.2.2.2.1)) fun (n4:Int)=>some n4 else if r1.1.2.2.2.2.1=1 then q1i (IntKind.wrap .i64 (r1.1.2.2.1+r1.1.2.2.2.1)) fun (n5:Int)=>q1i (IntKind.wrap .i64 (n5 - r1.1.2.2.2.2.2.2.2.1)) fun (n6:Int)=>some n6 else none))
def q8a (n:Nat):FC:={ f:=19,args:=[.one (.agg [.d (.lst .str),.d (.lst (.prod (.int .i64) .str))])],res:=.one (.c (.d (.int .i64))),F:=fun p=>q6b n p }
def qwi (n:Nat):List FC:=[q6q n]
theorem qxm (n:Nat) {G:World->Prop} (hG:Know Inv G) : ∀c∈qwi n,q44 Tryz.prog G c/\q1o c.args=true:=List.forall_mem_cons.2 ⟨qls n G hG,(fun _ h=>by cases h)⟩
def qug:q1m:=[]
theorem j9i:drB qug (q0g Tryz.f19)=true:=by kernel_rfl
theorem j6y (n:Nat) : ∀a,(q8a n).F a=main Tryz.prog 27 (qwi n) (qos n) qug (q0g Tryz.f19) [.tmp 2] (q8a n).args (q8a n).res a:=by intro a;kernel_rfl
theorem qwy (n:Nat):q1a Inv Tryz.prog (q8a n):=fun G hG=>⟨⟨by kernel_rfl,fun a r h=>q0y (c:=q0g Tryz.f19) Tryz.func19 (by kernel_rfl) (by kernel_rfl) (Nat.le_of_ble_eq_true (by kernel_rfl)) hG.st (by kernel_rfl) (rs:=[.tmp 2]) (by kernel_rfl) (qxm n hG) (lts:=qos n) (fun F hF hFG=>have hK:Know Inv F.G:=hFG ▸ hG;(q0t fun j L h1 h2 h3=>absurd h2 (Nat.not_lt.2 (Nat.le_trans (by decide +kernel) h1)))) j9i ((j6y n a).symm.trans h)⟩,rfl⟩
def qi5 (n:Nat):List LC:=[]
def q9j (n:Nat) (a1:Int×(Int×(Int×(Int×(List (List UInt8×(List UInt8))))))) (a2:Int×(Int×(Int×(Int×(List (List UInt8×(List UInt8))))))):Option (Bool) :=
 (bif decide (a1.1=a2.1) then (bif decide (a1.2.1=a2.2.1) then (bif decide (a1.2.2.1=a2.2.2.1) then (bif decide (a1.2.2.2.1=a2.2.2.2.1) then (q9k n a1.2.2.2.2 a2.2.2.2.2).bind fun (r1:Bool)=>some r1 else some false) else some false) else some false) else some false)
def q5t (n:Nat):FC:={ f:=17,args:=[.one (.agg [.d (.int .i64),.d (.int .i64),.d (.int .i64),.d (.int .i64),.d (.lst (.prod .str .str))]),.one (.agg [.d (.int .i64),.d (.int .i64),.d (.int .i64),.d (.int .i64),.d (.lst (.prod .str .str))])],res:=.one (.c (.d .bool)),F:=fun p=>q9j n p.1 p.2 }
def qpo (n:Nat):List FC:=[q7e n]
theorem qrw (n:Nat) {G:World->Prop} (hG:Know Inv G) : ∀c∈qpo n,q44 Tryz.prog G c/\q1o c.args=true:=List.forall_mem_cons.2 ⟨j2d n G hG,(fun _ h=>by cases h)⟩
def qpt:q1m:=[]
theorem j2i:drB qpt (q0g Tryz.f17)=true:=by kernel_rfl
theorem j56 (n:Nat) : ∀a,(q5t n).F a=main Tryz.prog 38 (qpo n) (qi5 n) qpt (q0g Tryz.f17) [.tmp 4] (q5t n).args (q5t n).res a:=by intro a;kernel_rfl
theorem qou (n:Nat):q1a Inv Tryz.prog (q5t n):=fun G hG=>⟨⟨by kernel_rfl,fun a r h=>q0y (c:=q0g Tryz.f17) Tryz.func17 (by kernel_rfl) (by kernel_rfl) (Nat.le_of_ble_eq_true (by kernel_rfl)) hG.st (by kernel_rfl) (rs:=[.tmp 4]) (by kernel_rfl) (qrw n hG) (lts:=qi5 n) (fun F hF hFG=>have hK:Know Inv F.G:=hFG ▸ hG;(q0t fun j L h1 h2 h3=>absurd h2 (Nat.not_lt.2 (Nat.le_trans (by decide +kernel) h1)))) j2i ((j56 n a).symm.trans h)⟩,rfl⟩
end Go.Proofs.YthpgnliicpejoaaGreatDoor.AM
