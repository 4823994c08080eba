
import Derived.Test.YthpgnliicpejoaaGreatDoorVu31
namespace Go.Proofs.YthpgnliicpejoaaGreatDoor.AM
open Go.RowKit
set_option linter.unusedVariables false
set_option maxRecDepth 20000
def qic (n:Nat):List LC:=[]
def qcj (n:Nat) (a1:Int):Option ((List ((Bool)×((Int)×(List UInt8))))×(Int)) :=
 (bif decide (a1<(8:Int)) then some ([],(1:Int)) else (bif decide ((512:Int)<a1) then some ([],(1:Int)) else (qcy n a1).bind fun (r1:Int×(Int×(Int×(Int))))=>((q5i n).F ((r1.1,r1.2.1),(1:Int))).bind fun (r2:(List ((Bool)×((Int)×(List UInt8))))×(Int))=>some r2))
def q3n (n:Nat):FC:={ f:=15,args:=[.one (.c (.d (.int .i64)))],res:=.tup [.c (.d (.lst (.prod .bool (.prod (.int .i64) .str)))),.c (.d (.int .i64))],F:=fun p=>qcj n p }
def qmg (n:Nat):List FC:=[q6d n,q5i n]
theorem qsp (n:Nat) {G:World->Prop} (hG:Know Inv G) : ∀c∈qmg n,q3s Tryz.prog G c/\q1j c.args=true:=List.forall_mem_cons.2 ⟨qrv n G hG,List.forall_mem_cons.2 ⟨qtc n G hG,(fun _ h=>by cases h)⟩⟩
def qlb:q1h:=[]
theorem j1n:drB qlb (q0b Tryz.f15)=true:=by kernel_rfl
theorem j0t (n:Nat) : ∀a,(q3n n).F a=main Tryz.prog 16 (qmg n) (qic n) qlb (q0b Tryz.f15) [.tmp 2,.tmp 3] (q3n n).args (q3n n).res a:=by intro a;kernel_rfl
theorem qm7 (n:Nat):q18 Inv Tryz.prog (q3n n):=fun G hG=>⟨⟨by kernel_rfl,fun a r h=>q0u (c:=q0b Tryz.f15) Tryz.func15 (by kernel_rfl) (by kernel_rfl) (Nat.le_of_ble_eq_true (by kernel_rfl)) hG.st (by kernel_rfl) (rs:=[.tmp 2,.tmp 3]) (by kernel_rfl) (qsp n hG) (lts:=qic n) (fun F hF hFG=>have hK:Know Inv F.G:=hFG ▸ hG;(q0r fun j L h1 h2 h3=>absurd h2 (Nat.not_lt.2 (Nat.le_trans (by decide +kernel) h1)))) j1n ((j0t n a).symm.trans h)⟩,rfl⟩
def qm0 (n:Nat):List LC:=[]
def qfz (n:Nat) (a1:(List (List UInt8))×(List ((Int)×(List UInt8)))):Option ((Int×(Int×(Int×(Int×(List (List UInt8×(List UInt8)))))))×(Int)) :=
 (qev n a1).bind fun (r1:(Int×(Int×(Int×(Int×(Int×(Int×((List (List UInt8))×(Int×(List (List UInt8×(List UInt8)))))))))))×(IV))=>(q5s (Subtype.val r1.2)).bind fun (b2:Bool)=>(bif !b2 then (q6p r1.2).bind fun (r3:Int)=>some (((0:Int),((0:Int),((0:Int),((0:Int),[])))),r3) else some ((r1.1.2.2.2.2.1,(r1.1.2.2.2.2.2.1,(((List.length r1.1.2.2.2.2.2.2.1:Nat):Int),r1.1.2.2.2.2.2.2.2))),(0:Int)))
def q8k (n:Nat):FC:={ f:=11,args:=[.one (.agg [.d (.lst .str),.d (.lst (.prod (.int .i64) .str))])],res:=.tup [.agg [.d (.int .i64),.d (.int .i64),.d (.int .i64),.d (.int .i64),.d (.lst (.prod .str .str))],.c (.d (.int .i64))],F:=fun p=>qfz n p }
def qqm (n:Nat):List FC:=[q7e n,qeu]
theorem qwk (n:Nat) {G:World->Prop} (hG:Know Inv G) : ∀c∈qqm n,q3s Tryz.prog G c/\q1j c.args=true:=List.forall_mem_cons.2 ⟨qox n G hG,List.forall_mem_cons.2 ⟨qm2 G hG,(fun _ h=>by cases h)⟩⟩
def qr4:q1h:=[]
theorem j6c:drB qr4 (q0b Tryz.f11)=true:=by kernel_rfl
theorem j66 (n:Nat) : ∀a,(q8k n).F a=main Tryz.prog 31 (qqm n) (qm0 n) qr4 (q0b Tryz.f11) [.cell 2 32,.tmp 3] (q8k n).args (q8k n).res a:=by intro a;kernel_rfl
theorem j46 (n:Nat):q18 Inv Tryz.prog (q8k n):=fun G hG=>⟨⟨by kernel_rfl,fun a r h=>q0u (c:=q0b Tryz.f11) Tryz.func11 (by kernel_rfl) (by kernel_rfl) (Nat.le_of_ble_eq_true (by kernel_rfl)) hG.st (by kernel_rfl) (rs:=[.cell 2 32,.tmp 3]) (by kernel_rfl) (qwk n hG) (lts:=qm0 n) (fun F hF hFG=>have hK:Know Inv F.G:=hFG ▸ hG;(q0r fun j L h1 h2 h3=>absurd h2 (Nat.not_lt.2 (Nat.le_trans (by decide +kernel) h1)))) j6c ((j66 n a).symm.trans h)⟩,rfl⟩
def qsv (n:Nat):List LC:=[]
def qx1 (n:Nat) (a1:(List (List UInt8))×(List ((Int)×(List UInt8)))):Option (Int) :=
 (qev n a1).bind fun (r1:(Int×(Int×(Int×(Int×(Int×(Int×((List (List UInt8))×(Int×(List (List UInt8×(List UInt8)))))))))))×(IV))=>(q5s (Subtype.val r1.2)).bind fun (b2:Bool)=>(bif !b2 then some (0:Int) else (if r1.1.2.2.2.2.1=0 then q0n (IntKind.wrap .i64 (r1.1.1+r1.1.2.1)) fun (n3:Int)=>q0n (IntKind.wrap .i64 (n3 - r1.1.2.2.2.2.2.2.2.1)) fun (n4:Int)=>some n4 else if r1.1.2.2.2.2.1=1 then q0n (IntKind.wrap .i64 (r1.1.2.2.1+r1.1.2.2.2.1)) fun (n5:Int)=>q0n (IntKind.wrap .i64 (n5 - r1.1.2.2.2.2.2.2.2.1)) fun (n6:Int)=>some n6 else none))
def qbd (n:Nat):FC:={ f:=19,args:=[.one (.agg [.d (.lst .str),.d (.lst (.prod (.int .i64) .str))])],res:=.one (.c (.d (.int .i64))),F:=fun p=>qx1 n p }
def qzg (n:Nat):List FC:=[q7e n]
theorem j3b (n:Nat) {G:World->Prop} (hG:Know Inv G) : ∀c∈qzg n,q3s Tryz.prog G c/\q1j c.args=true:=List.forall_mem_cons.2 ⟨qox n G hG,(fun _ h=>by cases h)⟩
def j0r:q1h:=[]
theorem jab:drB j0r (q0b Tryz.f19)=true:=by kernel_rfl
theorem jd4 (n:Nat) : ∀a,(qbd n).F a=main Tryz.prog 27 (qzg n) (qsv n) j0r (q0b Tryz.f19) [.tmp 2] (qbd n).args (qbd n).res a:=by intro a;kernel_rfl
theorem jac (n:Nat):q18 Inv Tryz.prog (qbd n):=fun G hG=>⟨⟨by kernel_rfl,fun a r h=>q0u (c:=q0b Tryz.f19) Tryz.func19 (by kernel_rfl) (by kernel_rfl) (Nat.le_of_ble_eq_true (by kernel_rfl)) hG.st (by kernel_rfl) (rs:=[.tmp 2]) (by kernel_rfl) (j3b n hG) (lts:=qsv n) (fun F hF hFG=>have hK:Know Inv F.G:=hFG ▸ hG;(q0r fun j L h1 h2 h3=>absurd h2 (Nat.not_lt.2 (Nat.le_trans (by decide +kernel) h1)))) jab ((jd4 n a).symm.trans h)⟩,rfl⟩
end Go.Proofs.YthpgnliicpejoaaGreatDoor.AM
