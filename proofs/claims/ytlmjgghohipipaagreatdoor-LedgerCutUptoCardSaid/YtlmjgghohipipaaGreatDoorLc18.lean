
import Derived.Test.YtlmjgghohipipaaGreatDoorLc16
import Derived.Test.YtlmjgghohipipaaGreatDoorLc17
import Derived.Test.YtlmjgghohipipaaGreatDoorLc11
import Derived.Test.YtlmjgghohipipaaGreatDoorLc12
namespace Go.Proofs.YtlmjgghohipipaaGreatDoor.AM
open Go.RowKit
set_option linter.unusedVariables false
set_option maxRecDepth 20000
@[reducible] def q73:SSt:=⟨[(0,.one (.c (.d (.lst (.prod .str (.prod (.int .i64) (.prod (.int .i64) (.prod (.int .i64) (.prod .str (.prod .str .str)))))))))),(3,.one (.c (.d (.int .i64))))],[],[]⟩
@[reducible] def q3p:List (Exit×SSt):=[(.ret,⟨[(2,.one (.c (.d .bool)))],[],[]⟩),(.exit 0,⟨[(0,.one (.c (.d (.lst (.prod .str (.prod (.int .i64) (.prod (.int .i64) (.prod (.int .i64) (.prod .str (.prod .str .str))))))))))],[],[]⟩)]
def qh4 (n:Nat) (rec:(List (List UInt8×((Int)×((Int)×((Int)×(List UInt8×(List UInt8×(List UInt8))))))))->Int->Option (((Bool×(Unit))×(Unit)×(Unit))⊕(((List (List UInt8×((Int)×((Int)×((Int)×(List UInt8×(List UInt8×(List UInt8))))))))×(Unit))×(Unit)×(Unit)))) (a1:List (List UInt8×((Int)×((Int)×((Int)×(List UInt8×(List UInt8×(List UInt8)))))))) (a2:Int):Option (((Bool×(Unit))×(Unit)×(Unit))⊕(((List (List UInt8×((Int)×((Int)×((Int)×(List UInt8×(List UInt8×(List UInt8))))))))×(Unit))×(Unit)×(Unit))) :=
 (bif decide (a2<((List.length a1:Nat):Int)) then (q67 a1 a2).bind fun (x1:List UInt8×((Int)×((Int)×((Int)×(List UInt8×(List UInt8×(List UInt8)))))))=>(bif decide ((200:Int)<((List.length x1.1:Nat):Int)) then some (Sum.inl ((false,()),((),()))) else (q67 a1 a2).bind fun (x2:List UInt8×((Int)×((Int)×((Int)×(List UInt8×(List UInt8×(List UInt8)))))))=>(bif decide ((200:Int)<((List.length x2.2.2.2.2.2.2:Nat):Int)) then some (Sum.inl ((false,()),((),()))) else (q67 a1 a2).bind fun (x3:List UInt8×((Int)×((Int)×((Int)×(List UInt8×(List UInt8×(List UInt8)))))))=>(bif decide ((200:Int)<((List.length x3.2.2.2.2.1:Nat):Int)) then some (Sum.inl ((false,()),((),()))) else (q67 a1 a2).bind fun (x4:List UInt8×((Int)×((Int)×((Int)×(List UInt8×(List UInt8×(List UInt8)))))))=>(bif decide ((200:Int)<((List.length x4.2.2.2.2.2.1:Nat):Int)) then some (Sum.inl ((false,()),((),()))) else q2f (IntKind.wrap .i64 (a2+(1:Int))) fun (n5:Int)=>rec a1 n5)))) else some (Sum.inr (((a1,()),((),())))))
def qfp (n:Nat) (rec:pSt q73->Option (q0t q3p)) (p:pSt q73):Option (q0t q3p):=qh4 n (fun a1 a2=>rec ((a1,(a2,())),((),()))) p.1.1 p.1.2.1
def q2o (n m:Nat) (a1:List (List UInt8×((Int)×((Int)×((Int)×(List UInt8×(List UInt8×(List UInt8)))))))) (a2:Int):Option (((Bool×(Unit))×(Unit)×(Unit))⊕(((List (List UInt8×((Int)×((Int)×((Int)×(List UInt8×(List UInt8×(List UInt8))))))))×(Unit))×(Unit)×(Unit))):=q10 (qfp n) m ((a1,(a2,())),((),()))
theorem qaq (n m:Nat) (a1:List (List UInt8×((Int)×((Int)×((Int)×(List UInt8×(List UInt8×(List UInt8)))))))) (a2:Int):q2o n (m+1) a1 a2=qh4 n (fun a1 a2=>q2o n m a1 a2) a1 a2:=rfl
def qnj (n:Nat):LC:={ sh:=q73,outs:=q3p,F:=q10 (qfp n) n }
def qbg (n:Nat):List LC:=[qnj n]
def qdp (n:Nat) (a1:List (List UInt8×((Int)×((Int)×((Int)×(List UInt8×(List UInt8×(List UInt8)))))))):Option (Bool) :=
 (q2o n n a1 (0:Int)).bind fun (o6:((Bool×(Unit))×(Unit)×(Unit))⊕(((List (List UInt8×((Int)×((Int)×((Int)×(List UInt8×(List UInt8×(List UInt8))))))))×(Unit))×(Unit)×(Unit)))=>Sum.elim (fun (q7:(Bool×(Unit))×(Unit)×(Unit))=>some q7.1.1) (fun (q8:((List (List UInt8×((Int)×((Int)×((Int)×(List UInt8×(List UInt8×(List UInt8))))))))×(Unit))×(Unit)×(Unit))=>some (decide (((List.length q8.1.1:Nat):Int)<=(60:Int)))) o6
def q6v (n:Nat):FC:={ f:=13,args:=[.one (.c (.d (.lst (.prod .str (.prod (.int .i64) (.prod (.int .i64) (.prod (.int .i64) (.prod .str (.prod .str .str)))))))))],res:=.one (.c (.d .bool)),F:=fun p=>qdp n p }
def qdw (n:Nat):List FC:=[]
theorem qfe (n:Nat) {G:World->Prop} (hG:Know Inv G) : ∀c∈qdw n,q1b Tryz.prog G c/\q0i c.args=true:=(fun _ h=>by cases h)
def qfo:q0f:=[]
theorem qp7:drB qfo (q00 Tryz.f13)=true:=by kernel_rfl
theorem qyt (n:Nat) : ∀rec p,qfp n rec p=round Tryz.prog 49 (qdw n) (qbg n) qfo 1 q73 q3p (q03 0 0 (q00 Tryz.f13)) rec p:=by intro rec p;kernel_rfl
theorem qtn (n:Nat) {F:Fr} (hF:F.n=49) (hK:Know Inv F.G):qk3 Tryz.prog F (qnj n) (q03 0 0 (q00 Tryz.f13)) :=
 q1a hF (by kernel_rfl) (qfe n hK) (qyt n) (fuel:=n) (fun _=>rfl) (q07 fun j L h1 h2 h3=>absurd h2 (Nat.not_lt.2 (Nat.le_trans (by decide +kernel) h1))) (q2t qp7)
theorem j49 (n:Nat) : ∀a,(q6v n).F a=main Tryz.prog 49 (qdw n) (qbg n) qfo (q00 Tryz.f13) [.tmp 2] (q6v n).args (q6v n).res a:=by intro a;kernel_rfl
theorem j1i (n:Nat):q0d Inv Tryz.prog (q6v n):=fun G hG=>⟨⟨by kernel_rfl,fun a r h=>q06 (c:=q00 Tryz.f13) Tryz.func13 (by kernel_rfl) (by kernel_rfl) (Nat.le_of_ble_eq_true (by kernel_rfl)) hG.st (by kernel_rfl) (rs:=[.tmp 2]) (by kernel_rfl) (qfe n hG) (lts:=qbg n) (fun F hF hFG=>have hK:Know Inv F.G:=hFG ▸ hG;(q07 (c:=(q00 Tryz.f13)) (fun j L h1 h2 h3=>by
  have h2':j<1:=Nat.lt_of_lt_of_le h2 (by decide +kernel)
  match j,h1,h2',h3 with
  | 0,_,_,h3=>obtain rfl:=Option.some.inj h3;exact (show q03 0 0 (q00 Tryz.f13)=q03 0 0 (q00 Tryz.f13) by kernel_rfl) ▸ qtn n hF hK
  | j+1,_,h2',_=>exact absurd h2' (by omega)))) qp7 ((j49 n a).symm.trans h)⟩,rfl⟩
@[reducible] def q5k:SSt:=⟨[(0,.one (.c (.d (.lst (.prod .str (.prod (.int .i64) (.prod (.int .i64) (.prod (.int .i64) (.prod .str (.prod .str .str)))))))))),(1,.one (.c (.d (.lst (.prod .str (.prod (.int .i64) (.prod (.int .i64) (.prod (.int .i64) (.prod .str (.prod .str .str)))))))))),(5,.one (.c (.d (.int .i64))))],[],[]⟩
@[reducible] def q33:List (Exit×SSt):=[(.ret,⟨[(4,.one (.c (.d .bool)))],[],[]⟩),(.exit 0,⟨[],[],[]⟩)]
def qaz (n:Nat) (rec:(List (List UInt8×((Int)×((Int)×((Int)×(List UInt8×(List UInt8×(List UInt8))))))))->(List (List UInt8×((Int)×((Int)×((Int)×(List UInt8×(List UInt8×(List UInt8))))))))->Int->Option (((Bool×(Unit))×(Unit)×(Unit))⊕((Unit)×(Unit)×(Unit)))) (a1:List (List UInt8×((Int)×((Int)×((Int)×(List UInt8×(List UInt8×(List UInt8)))))))) (a2:List (List UInt8×((Int)×((Int)×((Int)×(List UInt8×(List UInt8×(List UInt8)))))))) (a3:Int):Option (((Bool×(Unit))×(Unit)×(Unit))⊕((Unit)×(Unit)×(Unit))) :=
 (bif decide (a3<((List.length a1:Nat):Int)) then (q67 a1 a3).bind fun (x1:List UInt8×((Int)×((Int)×((Int)×(List UInt8×(List UInt8×(List UInt8)))))))=>(q67 a2 a3).bind fun (x2:List UInt8×((Int)×((Int)×((Int)×(List UInt8×(List UInt8×(List UInt8)))))))=>(bif !(decide (x1.1=x2.1)&&((decide (x1.2.1=x2.2.1)&&(decide (x1.2.2.1=x2.2.2.1)&&(decide (x1.2.2.2.1=x2.2.2.2.1)&&(decide (x1.2.2.2.2.1=x2.2.2.2.2.1)&&(decide (x1.2.2.2.2.2.1=x2.2.2.2.2.2.1)&&true)))))&&(decide (x1.2.2.2.2.2.2=x2.2.2.2.2.2.2)&&true))) then some (Sum.inl ((false,()),((),()))) else q2f (IntKind.wrap .i64 (a3+(1:Int))) fun (n3:Int)=>rec a1 a2 n3) else some (Sum.inr (((),((),())))))
def qb4 (n:Nat) (rec:pSt q5k->Option (q0t q33)) (p:pSt q5k):Option (q0t q33):=qaz n (fun a1 a2 a3=>rec ((a1,(a2,(a3,()))),((),()))) p.1.1 p.1.2.1 p.1.2.2.1
def q2b (n m:Nat) (a1:List (List UInt8×((Int)×((Int)×((Int)×(List UInt8×(List UInt8×(List UInt8)))))))) (a2:List (List UInt8×((Int)×((Int)×((Int)×(List UInt8×(List UInt8×(List UInt8)))))))) (a3:Int):Option (((Bool×(Unit))×(Unit)×(Unit))⊕((Unit)×(Unit)×(Unit))):=q10 (qb4 n) m ((a1,(a2,(a3,()))),((),()))
theorem qa2 (n m:Nat) (a1:List (List UInt8×((Int)×((Int)×((Int)×(List UInt8×(List UInt8×(List UInt8)))))))) (a2:List (List UInt8×((Int)×((Int)×((Int)×(List UInt8×(List UInt8×(List UInt8)))))))) (a3:Int):q2b n (m+1) a1 a2 a3=qaz n (fun a1 a2 a3=>q2b n m a1 a2 a3) a1 a2 a3:=rfl
def qjc (n:Nat):LC:={ sh:=q5k,outs:=q33,F:=q10 (qb4 n) n }
def q8g (n:Nat):List LC:=[qjc n]
def q6h (n:Nat) (a1:List (List UInt8×((Int)×((Int)×((Int)×(List UInt8×(List UInt8×(List UInt8)))))))) (a2:List (List UInt8×((Int)×((Int)×((Int)×(List UInt8×(List UInt8×(List UInt8)))))))):Option (Bool) :=
 (bif !decide (((List.length a1:Nat):Int)=((List.length a2:Nat):Int)) then some false else (q2b n n a1 a2 (0:Int)).bind fun (o4:((Bool×(Unit))×(Unit)×(Unit))⊕((Unit)×(Unit)×(Unit)))=>Sum.elim (fun (q5:(Bool×(Unit))×(Unit)×(Unit))=>some q5.1.1) (fun (q6:(Unit)×(Unit)×(Unit))=>some true) o4)
def q4r (n:Nat):FC:={ f:=12,args:=[.one (.c (.d (.lst (.prod .str (.prod (.int .i64) (.prod (.int .i64) (.prod (.int .i64) (.prod .str (.prod .str .str))))))))),.one (.c (.d (.lst (.prod .str (.prod (.int .i64) (.prod (.int .i64) (.prod (.int .i64) (.prod .str (.prod .str .str)))))))))],res:=.one (.c (.d .bool)),F:=fun p=>q6h n p.1 p.2 }
def qav (n:Nat):List FC:=[]
theorem qby (n:Nat) {G:World->Prop} (hG:Know Inv G) : ∀c∈qav n,q1b Tryz.prog G c/\q0i c.args=true:=(fun _ h=>by cases h)
def qbd:q0f:=[(6,[⟨13510798882111489,2^51,0⟩,⟨108086391056924672,2^54,0⟩,⟨393*2^51,2^57,3⟩,⟨49*2^57,2^60,7⟩,⟨55340232221128654856,2^63,0⟩,⟨442721857769029271552,2^66,0⟩,⟨393*2^63,2^69,48⟩,⟨49*2^69,2^72,112⟩,⟨200705*2^60,2^75,255⟩])]
theorem qk6:drB qbd (q00 Tryz.f12)=true:=by kernel_rfl
theorem qry (n:Nat) : ∀rec p,qb4 n rec p=round Tryz.prog 26 (qav n) (q8g n) qbd 1 q5k q33 (q03 0 0 (q00 Tryz.f12)) rec p:=by intro rec p;kernel_rfl
theorem qoj (n:Nat) {F:Fr} (hF:F.n=26) (hK:Know Inv F.G):qk3 Tryz.prog F (qjc n) (q03 0 0 (q00 Tryz.f12)) :=
 q1a hF (by kernel_rfl) (qby n hK) (qry n) (fuel:=n) (fun _=>rfl) (q07 fun j L h1 h2 h3=>absurd h2 (Nat.not_lt.2 (Nat.le_trans (by decide +kernel) h1))) (q2t qk6)
theorem qzn (n:Nat) : ∀a,(q4r n).F a=main Tryz.prog 26 (qav n) (q8g n) qbd (q00 Tryz.f12) [.tmp 4] (q4r n).args (q4r n).res a:=by intro a;kernel_rfl
theorem qxy (n:Nat):q0d Inv Tryz.prog (q4r n):=fun G hG=>⟨⟨by kernel_rfl,fun a r h=>q06 (c:=q00 Tryz.f12) Tryz.func12 (by kernel_rfl) (by kernel_rfl) (Nat.le_of_ble_eq_true (by kernel_rfl)) hG.st (by kernel_rfl) (rs:=[.tmp 4]) (by kernel_rfl) (qby n hG) (lts:=q8g n) (fun F hF hFG=>have hK:Know Inv F.G:=hFG ▸ hG;(q07 (c:=(q00 Tryz.f12)) (fun j L h1 h2 h3=>by
  have h2':j<1:=Nat.lt_of_lt_of_le h2 (by decide +kernel)
  match j,h1,h2',h3 with
  | 0,_,_,h3=>obtain rfl:=Option.some.inj h3;exact (show q03 0 0 (q00 Tryz.f12)=q03 0 0 (q00 Tryz.f12) by kernel_rfl) ▸ qoj n hF hK
  | j+1,_,h2',_=>exact absurd h2' (by omega)))) qk6 ((qzn n a).symm.trans h)⟩,rfl⟩
end Go.Proofs.YtlmjgghohipipaaGreatDoor.AM
namespace Go.Proofs.YtlmjgghohipipaaGreatDoor.AM
open Go.RowKit
set_option linter.unusedVariables false
set_option linter.unusedSimpArgs false
end Go.Proofs.YtlmjgghohipipaaGreatDoor.AM
namespace Go.Proofs.YtlmjgghohipipaaGreatDoor.AM
open Go.RowKit
set_option linter.unusedVariables false
set_option linter.unusedSimpArgs false
end Go.Proofs.YtlmjgghohipipaaGreatDoor.AM
namespace Go.Proofs.YtlmjgghohipipaaGreatDoor.AM
open Go.RowKit
set_option linter.unusedVariables false
set_option linter.unusedSimpArgs false
end Go.Proofs.YtlmjgghohipipaaGreatDoor.AM
