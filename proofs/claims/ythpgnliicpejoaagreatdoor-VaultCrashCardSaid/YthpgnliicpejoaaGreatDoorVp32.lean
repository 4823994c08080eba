
import Derived.Test.YthpgnliicpejoaaGreatDoorVp31
namespace Go.Proofs.YthpgnliicpejoaaGreatDoor.AM
open Go.RowKit
set_option linter.unusedVariables false
set_option maxRecDepth 20000
def qin (n:Nat):List LC:=[]
def qaz (n:Nat) (a1:Int):Option ((List ((Bool)×((Int)×(List UInt8))))×(Int)) :=
 (bif decide (a1<(8:Int)) then some ([],(1:Int)) else (bif decide ((512:Int)<a1) then some ([],(1:Int)) else (qax n a1).bind fun (r1:Int×(Int×(Int×(Int))))=>((q56 n).F ((r1.1,r1.2.1),(1:Int))).bind fun (r2:(List ((Bool)×((Int)×(List UInt8))))×(Int))=>some r2))
def q3i (n:Nat):FC:={ f:=15,args:=[.one (.c (.d (.int .i64)))],res:=.tup [.c (.d (.lst (.prod .bool (.prod (.int .i64) .str)))),.c (.d (.int .i64))],F:=fun p=>qaz n p }
def qlb (n:Nat):List FC:=[q5z n,q56 n]
theorem qrp (n:Nat) {G:World->Prop} (hG:Know Inv G) : ∀c∈qlb n,q3s Tryz.prog G c/\q1k c.args=true:=List.forall_mem_cons.2 ⟨qsz n G hG,List.forall_mem_cons.2 ⟨qsg n G hG,(fun _ h=>by cases h)⟩⟩
def ql1:q1h:=[]
theorem j07:drB ql1 (q0d Tryz.f15)=true:=by kernel_rfl
theorem j25 (n:Nat) : ∀a,(q3i n).F a=main Tryz.prog 16 (qlb n) (qin n) ql1 (q0d Tryz.f15) [.tmp 2,.tmp 3] (q3i n).args (q3i n).res a:=by intro a;kernel_rfl
theorem qlk (n:Nat):q19 Inv Tryz.prog (q3i n):=fun G hG=>⟨⟨by kernel_rfl,fun a r h=>q0s (c:=q0d Tryz.f15) Tryz.func15 (by kernel_rfl) (by kernel_rfl) (Nat.le_of_ble_eq_true (by kernel_rfl)) hG.st (by kernel_rfl) (rs:=[.tmp 2,.tmp 3]) (by kernel_rfl) (qrp n hG) (lts:=qin n) (fun F hF hFG=>have hK:Know Inv F.G:=hFG ▸ hG;(q0p fun j L h1 h2 h3=>absurd h2 (Nat.not_lt.2 (Nat.le_trans (by decide +kernel) h1)))) j07 ((j25 n a).symm.trans h)⟩,rfl⟩
def qkw (n:Nat):List LC:=[]
def q5l (n:Nat) (a1:(List (List UInt8))×(List ((Int)×(List UInt8)))):Option ((Int×(Int×(Int×(Int×(List (List UInt8×(List UInt8)))))))×(Int)) :=
 (qdr n a1).bind fun (r1:(Int×(Int×(Int×(Int×(Int×(Int×((List (List UInt8))×(Int×(List (List UInt8×(List UInt8)))))))))))×(IV))=>(q5e (Subtype.val r1.2)).bind fun (b2:Bool)=>(bif !b2 then (q6f r1.2).bind fun (r3:Int)=>some (((0:Int),((0:Int),((0:Int),((0:Int),[])))),r3) else some ((r1.1.2.2.2.2.1,(r1.1.2.2.2.2.2.1,(((List.length r1.1.2.2.2.2.2.2.1:Nat):Int),r1.1.2.2.2.2.2.2.2))),(0:Int)))
def q67 (n:Nat):FC:={ f:=11,args:=[.one (.agg [.d (.lst .str),.d (.lst (.prod (.int .i64) .str))])],res:=.tup [.agg [.d (.int .i64),.d (.int .i64),.d (.int .i64),.d (.int .i64),.d (.lst (.prod .str .str))],.c (.d (.int .i64))],F:=fun p=>q5l n p }
def qpr (n:Nat):List FC:=[q7i n,qed]
theorem qv2 (n:Nat) {G:World->Prop} (hG:Know Inv G) : ∀c∈qpr n,q3s Tryz.prog G c/\q1k c.args=true:=List.forall_mem_cons.2 ⟨qna n G hG,List.forall_mem_cons.2 ⟨qkv G hG,(fun _ h=>by cases h)⟩⟩
def qt1:q1h:=[]
theorem j77:drB qt1 (q0d Tryz.f11)=true:=by kernel_rfl
theorem j8a (n:Nat) : ∀a,(q67 n).F a=main Tryz.prog 31 (qpr n) (qkw n) qt1 (q0d Tryz.f11) [.cell 2 32,.tmp 3] (q67 n).args (q67 n).res a:=by intro a;kernel_rfl
theorem qq7 (n:Nat):q19 Inv Tryz.prog (q67 n):=fun G hG=>⟨⟨by kernel_rfl,fun a r h=>q0s (c:=q0d Tryz.f11) Tryz.func11 (by kernel_rfl) (by kernel_rfl) (Nat.le_of_ble_eq_true (by kernel_rfl)) hG.st (by kernel_rfl) (rs:=[.cell 2 32,.tmp 3]) (by kernel_rfl) (qv2 n hG) (lts:=qkw n) (fun F hF hFG=>have hK:Know Inv F.G:=hFG ▸ hG;(q0p fun j L h1 h2 h3=>absurd h2 (Nat.not_lt.2 (Nat.le_trans (by decide +kernel) h1)))) j77 ((j8a n a).symm.trans h)⟩,rfl⟩
def qqa (n:Nat):List LC:=[]
def quc (n:Nat) (a1:(List (List UInt8))×(List ((Int)×(List UInt8)))):Option (Int) :=
 (qdr n a1).bind fun (r1:(Int×(Int×(Int×(Int×(Int×(Int×((List (List UInt8))×(Int×(List (List UInt8×(List UInt8)))))))))))×(IV))=>(q5e (Subtype.val r1.2)).bind fun (b2:Bool)=>(bif !b2 then some (0:Int) else (if r1.1.2.2.2.2.1=0 then q0u (IntKind.wrap .i64 (r1.1.1+r1.1.2.1)) fun (n3:Int)=>q0u (IntKind.wrap .i64 (n3 - r1.1.2.2.2.2.2.2.2.1)) fun (n4:Int)=>some n4 else if r1.1.2.2.2.2.1=1 then q0u (IntKind.wrap .i64 (r1.1.2.2.1+r1.1.2.2.2.1)) fun (n5:Int)=>q0u (IntKind.wrap .i64 (n5 - r1.1.2.2.2.2.2.2.2.1)) fun (n6:Int)=>some n6 else none))
def qat (n:Nat):FC:={ f:=19,args:=[.one (.agg [.d (.lst .str),.d (.lst (.prod (.int .i64) .str))])],res:=.one (.c (.d (.int .i64))),F:=fun p=>quc n p }
def qxb (n:Nat):List FC:=[q7i n]
theorem j08 (n:Nat) {G:World->Prop} (hG:Know Inv G) : ∀c∈qxb n,q3s Tryz.prog G c/\q1k c.args=true:=List.forall_mem_cons.2 ⟨qna n G hG,(fun _ h=>by cases h)⟩
def qwl:q1h:=[]
theorem jcx:drB qwl (q0d Tryz.f19)=true:=by kernel_rfl
theorem jcq (n:Nat) : ∀a,(qat n).F a=main Tryz.prog 27 (qxb n) (qqa n) qwl (q0d Tryz.f19) [.tmp 2] (qat n).args (qat n).res a:=by intro a;kernel_rfl
theorem jaa (n:Nat):q19 Inv Tryz.prog (qat n):=fun G hG=>⟨⟨by kernel_rfl,fun a r h=>q0s (c:=q0d Tryz.f19) Tryz.func19 (by kernel_rfl) (by kernel_rfl) (Nat.le_of_ble_eq_true (by kernel_rfl)) hG.st (by kernel_rfl) (rs:=[.tmp 2]) (by kernel_rfl) (j08 n hG) (lts:=qqa n) (fun F hF hFG=>have hK:Know Inv F.G:=hFG ▸ hG;(q0p fun j L h1 h2 h3=>absurd h2 (Nat.not_lt.2 (Nat.le_trans (by decide +kernel) h1)))) jcx ((jcq n a).symm.trans h)⟩,rfl⟩
end Go.Proofs.YthpgnliicpejoaaGreatDoor.AM
