
import Derived.Test.YtapfankgdkdkgaaGreatDoorMc21
namespace Go.Proofs.YtapfankgdkdkgaaGreatDoor.AM
open Go.RowKit
set_option linter.unusedVariables false
set_option maxRecDepth 20000
@[reducible] def q6q:SSt:=⟨[(0,.one (.c (.d (.lst (.prod .str (.prod (.int .i64) (.prod (.int .i64) (.prod (.int .i64) (.prod .str .str))))))))),(1,.one (.c (.d (.lst (.prod .str (.prod (.int .i64) (.prod (.int .i64) (.prod (.int .i64) (.prod .str .str))))))))),(5,.one (.c (.d (.int .i64))))],[],[]⟩
@[reducible] def q3s:List (Exit×SSt):=[(.ret,⟨[(4,.one (.c (.d .bool)))],[],[]⟩),(.exit 0,⟨[],[],[]⟩)]
def qcy (n:Nat) (rec:(List (List UInt8×((Int)×((Int)×((Int)×(List UInt8×(List UInt8)))))))->(List (List UInt8×((Int)×((Int)×((Int)×(List UInt8×(List UInt8)))))))->Int->Option (((Bool×(Unit))×(Unit)×(Unit))⊕((Unit)×(Unit)×(Unit)))) (a1:List (List UInt8×((Int)×((Int)×((Int)×(List UInt8×(List UInt8))))))) (a2:List (List UInt8×((Int)×((Int)×((Int)×(List UInt8×(List UInt8))))))) (a3:Int):Option (((Bool×(Unit))×(Unit)×(Unit))⊕((Unit)×(Unit)×(Unit))) :=
 (bif decide (a3<((List.length a1:Nat):Int)) then (q1h a1 a3).bind fun (x1:List UInt8×((Int)×((Int)×((Int)×(List UInt8×(List UInt8))))))=>(q1h a2 a3).bind fun (x2:List UInt8×((Int)×((Int)×((Int)×(List UInt8×(List UInt8))))))=>(bif !(decide (x1.1=x2.1)&&((decide (x1.2.1=x2.2.1)&&(decide (x1.2.2.1=x2.2.2.1)&&(decide (x1.2.2.2.1=x2.2.2.2.1)&&(decide (x1.2.2.2.2.1=x2.2.2.2.2.1)&&(decide (x1.2.2.2.2.2=x2.2.2.2.2.2)&&true)))))&&true)) then some (Sum.inl ((false,()),((),()))) else q0e (IntKind.wrap .i64 (a3+(1:Int))) fun (n3:Int)=>rec a1 a2 n3) else some (Sum.inr (((),((),())))))
def qdb (n:Nat) (rec:pSt q6q->Option (q0q q3s)) (p:pSt q6q):Option (q0q q3s):=qcy n (fun a1 a2 a3=>rec ((a1,(a2,(a3,()))),((),()))) p.1.1 p.1.2.1 p.1.2.2.1
def q3m (n m:Nat) (a1:List (List UInt8×((Int)×((Int)×((Int)×(List UInt8×(List UInt8))))))) (a2:List (List UInt8×((Int)×((Int)×((Int)×(List UInt8×(List UInt8))))))) (a3:Int):Option (((Bool×(Unit))×(Unit)×(Unit))⊕((Unit)×(Unit)×(Unit))):=q0t (qdb n) m ((a1,(a2,(a3,()))),((),()))
theorem qas (n m:Nat) (a1:List (List UInt8×((Int)×((Int)×((Int)×(List UInt8×(List UInt8))))))) (a2:List (List UInt8×((Int)×((Int)×((Int)×(List UInt8×(List UInt8))))))) (a3:Int):q3m n (m+1) a1 a2 a3=qcy n (fun a1 a2 a3=>q3m n m a1 a2 a3) a1 a2 a3:=rfl
def qn2 (n:Nat):LC:={ sh:=q6q,outs:=q3s,F:=q0t (qdb n) n }
def q9w (n:Nat):List LC:=[qn2 n]
def q82 (n:Nat) (a1:List (List UInt8×((Int)×((Int)×((Int)×(List UInt8×(List UInt8))))))) (a2:List (List UInt8×((Int)×((Int)×((Int)×(List UInt8×(List UInt8))))))):Option (Bool) :=
 (bif !decide (((List.length a1:Nat):Int)=((List.length a2:Nat):Int)) then some false else (q3m n n a1 a2 (0:Int)).bind fun (o4:((Bool×(Unit))×(Unit)×(Unit))⊕((Unit)×(Unit)×(Unit)))=>Sum.elim (fun (q5:(Bool×(Unit))×(Unit)×(Unit))=>some q5.1.1) (fun (q6:(Unit)×(Unit)×(Unit))=>some true) o4)
def q5u (n:Nat):FC:={ f:=24,args:=[.one (.c (.d (.lst (.prod .str (.prod (.int .i64) (.prod (.int .i64) (.prod (.int .i64) (.prod .str .str)))))))),.one (.c (.d (.lst (.prod .str (.prod (.int .i64) (.prod (.int .i64) (.prod (.int .i64) (.prod .str .str))))))))],res:=.one (.c (.d .bool)),F:=fun p=>q82 n p.1 p.2 }
def qcp (n:Nat):List FC:=[]
theorem qee (n:Nat) {G:World->Prop} (hG:Know Inv G) : ∀c∈qcp n,q18 Tryz.prog G c/\q09 c.args=true:=(fun _ h=>by cases h)
def qcv:q08:=[(6,[⟨13510798882111489,2^51,0⟩,⟨108086391056924672,2^54,0⟩,⟨393*2^51,2^57,3⟩,⟨49*2^57,2^60,7⟩,⟨55340232221128654856,2^63,0⟩,⟨442721857769029271552,2^66,0⟩,⟨393*2^63,2^69,48⟩,⟨49*2^69,2^72,112⟩,⟨200705*2^60,2^75,255⟩])]
theorem qmz:drB qcv (q00 Tryz.f24)=true:=by kernel_rfl
theorem qz2 (n:Nat) : ∀rec p,qdb n rec p=round Tryz.prog 26 (qcp n) (q9w n) qcv 1 q6q q3s (q01 0 0 (q00 Tryz.f24)) rec p:=by intro rec p;kernel_rfl
theorem qub (n:Nat) {F:Fr} (hF:F.n=26) (hK:Know Inv F.G):qdv Tryz.prog F (qn2 n) (q01 0 0 (q00 Tryz.f24)) :=
 q0x hF (by kernel_rfl) (qee n hK) (qz2 n) (fuel:=n) (fun _=>rfl) (q03 fun j L h1 h2 h3=>absurd h2 (Nat.not_lt.2 (Nat.le_trans (by decide +kernel) h1))) (q1n qmz)
theorem j3n (n:Nat) : ∀a,(q5u n).F a=main Tryz.prog 26 (qcp n) (q9w n) qcv (q00 Tryz.f24) [.tmp 4] (q5u n).args (q5u n).res a:=by intro a;kernel_rfl
theorem j5u (n:Nat):q0d Inv Tryz.prog (q5u n):=fun G hG=>⟨⟨by kernel_rfl,fun a r h=>q04 (c:=q00 Tryz.f24) Tryz.func24 (by kernel_rfl) (by kernel_rfl) (Nat.le_of_ble_eq_true (by kernel_rfl)) hG.st (by kernel_rfl) (rs:=[.tmp 4]) (by kernel_rfl) (qee n hG) (lts:=q9w n) (fun F hF hFG=>have hK:Know Inv F.G:=hFG ▸ hG;(q03 (c:=(q00 Tryz.f24)) (fun j L h1 h2 h3=>by
  have h2':j<1:=Nat.lt_of_lt_of_le h2 (by decide +kernel)
  match j,h1,h2',h3 with
  | 0,_,_,h3=>obtain rfl:=Option.some.inj h3;exact (show q01 0 0 (q00 Tryz.f24)=q01 0 0 (q00 Tryz.f24) by kernel_rfl) ▸ qub n hF hK
  | j+1,_,h2',_=>exact absurd h2' (by omega)))) qmz ((j3n n a).symm.trans h)⟩,rfl⟩
end Go.Proofs.YtapfankgdkdkgaaGreatDoor.AM
