
import Derived.Test.YtapfankgdkdkgaaGreatDoorEb15
namespace Go.Proofs.YtapfankgdkdkgaaGreatDoor.AM.Lx
open Go.RowKit
set_option linter.unusedVariables false
set_option maxRecDepth 20000
def q3t (n:Nat):List LC:=[]
def q1t (n:Nat) (a1:Yy) (a2:Yy):Option (Bool) :=
 (bif decide ((a2.length:Int)<=(a1.length:Int)) then (q1d a1 (0:Int) (a2.length:Int)).bind fun s1=>some (decide (s1=a2)) else some false)
def q0s (n:Nat):FC:={ f:=181,args:=[.one (.c (.d .str)),.one (.c (.d .str))],res:=.one (.c (.d .bool)),F:=fun p=>q1t n p.1 p.2 }
def q4q (n:Nat):List FC:=[]
theorem q7m (n:Nat) {G:World->Prop} (hG:Know Inv G) : ∀c∈q4q n,q0p Tryz.prog G c/\q07 c.args=true:=(fun _ h=>by cases h)
def q49:q06:=[]
theorem qal:drB q49 (q00 Tryz.f181)=true:=by kernel_rfl
theorem qax (n:Nat) : ∀a,(q0s n).F a=main Tryz.prog 18 (q4q n) (q3t n) q49 (q00 Tryz.f181) [.tmp 4] (q0s n).args (q0s n).res a:=by intro a;kernel_rfl
theorem q4d (n:Nat):q09 Inv Tryz.prog (q0s n):=fun G hG=>⟨⟨by kernel_rfl,fun a r h=>q03 (c:=q00 Tryz.f181) Tryz.func181 (by kernel_rfl) (by kernel_rfl) (Nat.le_of_ble_eq_true (by kernel_rfl)) hG.st (by kernel_rfl) (rs:=[.tmp 4]) (by kernel_rfl) (q7m n hG) (lts:=q3t n) (fun F hF hFG=>have hK:Know Inv F.G:=hFG ▸ hG;(q02 fun j L h1 h2 h3=>absurd h2 (Nat.not_lt.2 (Nat.le_trans (by decide +kernel) h1)))) qal ((qax n a).symm.trans h)⟩,rfl⟩
def q4n (n:Nat):List LC:=[]
def q0x (n:Nat) (a1:Yy) (a2:Yy):Option (Bool) :=
 (q1t n a1 a2).bind fun r1=>some r1
def q1s (n:Nat):FC:={ f:=152,args:=[.one (.c (.d .str)),.one (.c (.d .str))],res:=.one (.c (.d .bool)),F:=fun p=>q0x n p.1 p.2 }
def q5q (n:Nat):List FC:=[q0s n]
theorem q96 (n:Nat) {G:World->Prop} (hG:Know Inv G) : ∀c∈q5q n,q0p Tryz.prog G c/\q07 c.args=true:=List.forall_mem_cons.2 ⟨q4d n G hG,(fun _ h=>by cases h)⟩
def q5u:q06:=[]
theorem qel:drB q5u (q00 Tryz.f152)=true:=by kernel_rfl
theorem qdo (n:Nat) : ∀a,(q1s n).F a=main Tryz.prog 8 (q5q n) (q4n n) q5u (q00 Tryz.f152) [.tmp 4] (q1s n).args (q1s n).res a:=by intro a;kernel_rfl
theorem qp4 (n:Nat):q09 Inv Tryz.prog (q1s n):=fun G hG=>⟨⟨by kernel_rfl,fun a r h=>q03 (c:=q00 Tryz.f152) Tryz.func152 (by kernel_rfl) (by kernel_rfl) (Nat.le_of_ble_eq_true (by kernel_rfl)) hG.st (by kernel_rfl) (rs:=[.tmp 4]) (by kernel_rfl) (q96 n hG) (lts:=q4n n) (fun F hF hFG=>have hK:Know Inv F.G:=hFG ▸ hG;(q02 fun j L h1 h2 h3=>absurd h2 (Nat.not_lt.2 (Nat.le_trans (by decide +kernel) h1)))) qel ((qdo n a).symm.trans h)⟩,rfl⟩
def q3r (n:Nat):List LC:=[]
def q37 (n:Nat) (a1:Yy) (a2:Yy):Option (Bool) :=
 (bif decide ((a2.length:Int)<=(a1.length:Int)) then q04 (IntKind.wrap .i64 ((a1.length:Int) - (a2.length:Int))) fun (n1:Int)=>(q1d a1 n1 (a1.length:Int)).bind fun s2=>some (decide (s2=a2)) else some false)
def q14 (n:Nat):FC:={ f:=79,args:=[.one (.c (.d .str)),.one (.c (.d .str))],res:=.one (.c (.d .bool)),F:=fun p=>q37 n p.1 p.2 }
def q4s (n:Nat):List FC:=[]
theorem q7q (n:Nat) {G:World->Prop} (hG:Know Inv G) : ∀c∈q4s n,q0p Tryz.prog G c/\q07 c.args=true:=(fun _ h=>by cases h)
def q4k:q06:=[]
theorem qch:drB q4k (q00 Tryz.f79)=true:=by kernel_rfl
theorem qbl (n:Nat) : ∀a,(q14 n).F a=main Tryz.prog 21 (q4s n) (q3r n) q4k (q00 Tryz.f79) [.tmp 4] (q14 n).args (q14 n).res a:=by intro a;kernel_rfl
theorem qbw (n:Nat):q09 Inv Tryz.prog (q14 n):=fun G hG=>⟨⟨by kernel_rfl,fun a r h=>q03 (c:=q00 Tryz.f79) Tryz.func79 (by kernel_rfl) (by kernel_rfl) (Nat.le_of_ble_eq_true (by kernel_rfl)) hG.st (by kernel_rfl) (rs:=[.tmp 4]) (by kernel_rfl) (q7q n hG) (lts:=q3r n) (fun F hF hFG=>have hK:Know Inv F.G:=hFG ▸ hG;(q02 fun j L h1 h2 h3=>absurd h2 (Nat.not_lt.2 (Nat.le_trans (by decide +kernel) h1)))) qch ((qbl n a).symm.trans h)⟩,rfl⟩
def qef (n:Nat):List LC:=[]
def qbp (n:Nat) (a1:Yy) (a2:Yy):Option (Yy) :=
 (q37 n a1 a2).bind fun r1=>(bif r1 then q04 (IntKind.wrap .i64 ((a1.length:Int) - (a2.length:Int))) fun (n2:Int)=>(q1d a1 (0:Int) n2).bind fun s3=>some s3 else some a1)
def q3u (n:Nat):FC:={ f:=123,args:=[.one (.c (.d .str)),.one (.c (.d .str))],res:=.one (.c (.d .str)),F:=fun p=>qbp n p.1 p.2 }
def qgh (n:Nat):List FC:=[q14 n]
theorem qpg (n:Nat) {G:World->Prop} (hG:Know Inv G) : ∀c∈qgh n,q0p Tryz.prog G c/\q07 c.args=true:=List.forall_mem_cons.2 ⟨qbw n G hG,(fun _ h=>by cases h)⟩
def qgo:q06:=[]
theorem qy6:drB qgo (q00 Tryz.f123)=true:=by kernel_rfl
theorem qyq (n:Nat) : ∀a,(q3u n).F a=main Tryz.prog 16 (qgh n) (qef n) qgo (q00 Tryz.f123) [.tmp 4] (q3u n).args (q3u n).res a:=by intro a;kernel_rfl
theorem qyn (n:Nat):q09 Inv Tryz.prog (q3u n):=fun G hG=>⟨⟨by kernel_rfl,fun a r h=>q03 (c:=q00 Tryz.f123) Tryz.func123 (by kernel_rfl) (by kernel_rfl) (Nat.le_of_ble_eq_true (by kernel_rfl)) hG.st (by kernel_rfl) (rs:=[.tmp 4]) (by kernel_rfl) (qpg n hG) (lts:=qef n) (fun F hF hFG=>have hK:Know Inv F.G:=hFG ▸ hG;(q02 fun j L h1 h2 h3=>absurd h2 (Nat.not_lt.2 (Nat.le_trans (by decide +kernel) h1)))) qy6 ((qyq n a).symm.trans h)⟩,rfl⟩
def qgv (n:Nat):List LC:=[]
def q8c (n:Nat) (a1:Yy) (a2:Yy):Option (Yy) :=
 (qbp n a1 a2).bind fun r1=>some r1
def q4h (n:Nat):FC:={ f:=94,args:=[.one (.c (.d .str)),.one (.c (.d .str))],res:=.one (.c (.d .str)),F:=fun p=>q8c n p.1 p.2 }
def qim (n:Nat):List FC:=[q3u n]
theorem quz (n:Nat) {G:World->Prop} (hG:Know Inv G) : ∀c∈qim n,q0p Tryz.prog G c/\q07 c.args=true:=List.forall_mem_cons.2 ⟨qyn n G hG,(fun _ h=>by cases h)⟩
def qis:q06:=[]
theorem j2c:drB qis (q00 Tryz.f94)=true:=by kernel_rfl
theorem j3q (n:Nat) : ∀a,(q4h n).F a=main Tryz.prog 8 (qim n) (qgv n) qis (q00 Tryz.f94) [.tmp 4] (q4h n).args (q4h n).res a:=by intro a;kernel_rfl
theorem j45 (n:Nat):q09 Inv Tryz.prog (q4h n):=fun G hG=>⟨⟨by kernel_rfl,fun a r h=>q03 (c:=q00 Tryz.f94) Tryz.func94 (by kernel_rfl) (by kernel_rfl) (Nat.le_of_ble_eq_true (by kernel_rfl)) hG.st (by kernel_rfl) (rs:=[.tmp 4]) (by kernel_rfl) (quz n hG) (lts:=qgv n) (fun F hF hFG=>have hK:Know Inv F.G:=hFG ▸ hG;(q02 fun j L h1 h2 h3=>absurd h2 (Nat.not_lt.2 (Nat.le_trans (by decide +kernel) h1)))) j2c ((j3q n a).symm.trans h)⟩,rfl⟩
@[reducible] def qez:SSt:=⟨[(0,.one (.c (.d .str))),(5,.one (.c (.d (.int .i64)))),(6,.one (.c (.d (.int .i64))))],[],[]⟩
@[reducible] def q7y:List (Exit×SSt):=[(.ret,⟨[(2,.one (.c (.d .bool)))],[],[]⟩),(.exit 0,⟨[],[],[]⟩)]
def qqy (n:Nat) (rec:(Yy)->Int->Int->Option (((Bool×Unit)×Unit×Unit)⊕(Unit×Unit×Unit))) (a1:Yy) (a2:Int) (a3:Int):Option (((Bool×Unit)×Unit×Unit)⊕(Unit×Unit×Unit)) :=
 (bif decide (a3<a2) then (sAt a1 a3).bind fun c1=>(bif decide (c1<32) then (sAt a1 a3).bind fun c2=>(bif !decide (c2=9) then some (Sum.inl ((false,()),((),()))) else (sAt a1 a3).bind fun c3=>(bif decide (126<c3) then some (Sum.inl ((false,()),((),()))) else q04 (IntKind.wrap .i64 (a3+1)) fun n4=>rec a1 a2 n4)) else (sAt a1 a3).bind fun c5=>(bif decide (126<c5) then some (Sum.inl ((false,()),((),()))) else q04 (IntKind.wrap .i64 (a3+1)) fun n6=>rec a1 a2 n6)) else some (Sum.inr (((),((),())))))
def qui (n:Nat) (rec:pSt qez->Option (q0f q7y)) (p:pSt qez):Option (q0f q7y):=qqy n (fun a1 a2 a3=>rec ((a1,(a2,(a3,()))),((),()))) p.1.1 p.1.2.1 p.1.2.2.1
def q8n (n m:Nat) (a1:Yy) (a2:Int) (a3:Int):Option (((Bool×Unit)×Unit×Unit)⊕(Unit×Unit×Unit)):=q0g (qui n) m ((a1,(a2,(a3,()))),((),()))
theorem qmc (n m:Nat) (a1 a2 a3):q8n n (m+1) a1 a2 a3=qqy n (fun a1 a2 a3=>q8n n m a1 a2 a3) a1 a2 a3:=rfl
def j9n (n:Nat):LC:={ sh:=qez,outs:=q7y,F:=q0g (qui n) n }
def qmi (n:Nat):List LC:=[j9n n]
def qqf (n:Nat) (a1:Yy):Option (Bool) :=
 (q8n n n a1 (a1.length:Int) (0:Int)).bind fun o7=>Sum.elim (fun (q8:(Bool×Unit)×Unit×Unit)=>some q8.1.1) (fun (q9:(Unit)×Unit×Unit)=>some true) o7
def qdx (n:Nat):FC:={ f:=114,args:=[.one (.c (.d .str))],res:=.one (.c (.d .bool)),F:=fun p=>qqf n p }
def quh (n:Nat):List FC:=[]
theorem qso (n:Nat) {G:World->Prop} (hG:Know Inv G) : ∀c∈quh n,q0p Tryz.prog G c/\q07 c.args=true:=(fun _ h=>by cases h)
def qsc:q06:=[]
theorem jb1:drB qsc (q00 Tryz.f114)=true:=by kernel_rfl
theorem jmc (n:Nat) : ∀rec p,qui n rec p=round Tryz.prog 26 (quh n) (qmi n) qsc 1 qez q7y (q01 0 0 (q00 Tryz.f114)) rec p:=by intro rec p;kernel_rfl
theorem jh0 (n:Nat) {F:Fr} (hF:F.n=26) (hK:Know Inv F.G):q75 Tryz.prog F (j9n n) (q01 0 0 (q00 Tryz.f114)) :=
 q0i hF (by kernel_rfl) (qso n hK) (jmc n) (fuel:=n) (fun _=>rfl) (q02 fun j L h1 h2 h3=>absurd h2 (Nat.not_lt.2 (Nat.le_trans (by decide +kernel) h1))) (q0t jb1)
theorem jth (n:Nat) : ∀a,(qdx n).F a=main Tryz.prog 26 (quh n) (qmi n) qsc (q00 Tryz.f114) [.tmp 2] (qdx n).args (qdx n).res a:=by intro a;kernel_rfl
theorem jsx (n:Nat):q09 Inv Tryz.prog (qdx n):=fun G hG=>⟨⟨by kernel_rfl,fun a r h=>q03 (c:=q00 Tryz.f114) Tryz.func114 (by kernel_rfl) (by kernel_rfl) (Nat.le_of_ble_eq_true (by kernel_rfl)) hG.st (by kernel_rfl) (rs:=[.tmp 2]) (by kernel_rfl) (qso n hG) (lts:=qmi n) (fun F hF hFG=>have hK:Know Inv F.G:=hFG ▸ hG;(q02 (c:=(q00 Tryz.f114)) (fun j L h1 h2 h3=>by
  have h2':j<1:=Nat.lt_of_lt_of_le h2 (by decide +kernel)
  match j,h1,h2',h3 with
  | 0,_,_,h3=>obtain rfl:=Option.some.inj h3;exact (show q01 0 0 (q00 Tryz.f114)=q01 0 0 (q00 Tryz.f114) by kernel_rfl) ▸ jh0 n hF hK
  | j+1,_,h2',_=>exact absurd h2' (by omega)))) jb1 ((jth n a).symm.trans h)⟩,rfl⟩
@[reducible] def qqt:SSt:=⟨[(0,.one (.c (.d .str))),(4,.one (.c (.row 34))),(5,.one (.c (.d .bool))),(9,.one (.c (.d (.int .i64)))),(10,.one (.c (.d (.int .i64))))],[],[(34,⟨162,true,(.prod .str (.int .i64))⟩)]⟩
@[reducible] def qey:List (Exit×SSt):=[(.ret,⟨[(2,.one (.c (.row 34))),(3,.one (.c (.d (.int .i64))))],[],[(34,⟨162,true,(.prod .str (.int .i64))⟩)]⟩),(.exit 0,⟨[(0,.one (.c (.d .str))),(4,.one (.c (.row 34)))],[],[(34,⟨162,true,(.prod .str (.int .i64))⟩)]⟩)]
def qw8 (n:Nat) (rec:(Yy)->Bool->Int->Int->(List (Yy×(Int)))->Option (((Unit×(Int×Unit))×Unit×((List (Yy×(Int)))×Unit))⊕((Yy×(Unit×Unit))×Unit×((List (Yy×(Int)))×Unit)))) (a1:Yy) (a2:Bool) (a3:Int) (a4:Int) (a5:List (Yy×(Int))):Option (((Unit×(Int×Unit))×Unit×((List (Yy×(Int)))×Unit))⊕((Yy×(Unit×Unit))×Unit×((List (Yy×(Int)))×Unit))) :=
 (bif decide (a4<a3) then (sAt a1 a4).bind fun c1=>(bif decide (c1=40) then (bif decide (c1=40) then q04 (IntKind.wrap .i64 (a4+1)) fun n2=>(q1d a1 a4 n2).bind fun s3=>(q2g 24 a5 ([(s3,a4)]:List (Yy×(Int)))).bind fun l4=>q04 (IntKind.wrap .i64 (a4+1)) fun n5=>rec a1 false a3 n5 l4 else (bif decide (c1=32) then (bif decide (c1=32) then q04 (IntKind.wrap .i64 (a4+1)) fun n6=>rec a1 false a3 n6 a5 else (bif !a2 then (q1d a1 a4 (a1.length:Int)).bind fun s7=>(q0x n s7 ([47,47]:Yy)).bind fun r8=>(bif r8 then some (Sum.inl (((),(a4,())),((),(a5,())))) else (q2g 24 a5 ([(([]:Yy),a4)]:List (Yy×(Int)))).bind fun l9=>q04 (IntKind.wrap .i64 ((l9.length:Int) - (1:Int))) fun (n10:Int)=>(q0n l9 n10).bind fun _x11=>(nth l9 (Int.toNat n10)).bind fun (x12:Yy×(Int))=>q04 (IntKind.wrap .i64 (a4+1)) fun n13=>(q1d a1 x12.2 n13).bind fun s14=>(nth l9 (Int.toNat n10)).bind fun (x15:Yy×(Int))=>q04 (IntKind.wrap .i64 (a4+1)) fun n16=>rec a1 true a3 n16 (l9.set (Int.toNat n10) (s14,x15.2))) else q04 (IntKind.wrap .i64 ((a5.length:Int) - (1:Int))) fun (n17:Int)=>(q0n a5 n17).bind fun _x18=>(nth a5 (Int.toNat n17)).bind fun (x19:Yy×(Int))=>q04 (IntKind.wrap .i64 (a4+1)) fun n20=>(q1d a1 x19.2 n20).bind fun s21=>(nth a5 (Int.toNat n17)).bind fun (x22:Yy×(Int))=>q04 (IntKind.wrap .i64 (a4+1)) fun n23=>rec a1 a2 a3 n23 (a5.set (Int.toNat n17) (s21,x22.2)))) else (bif decide (c1=9) then q04 (IntKind.wrap .i64 (a4+1)) fun n24=>rec a1 false a3 n24 a5 else (bif !a2 then (q1d a1 a4 (a1.length:Int)).bind fun s25=>(q0x n s25 ([47,47]:Yy)).bind fun r26=>(bif r26 then some (Sum.inl (((),(a4,())),((),(a5,())))) else (q2g 24 a5 ([(([]:Yy),a4)]:List (Yy×(Int)))).bind fun l27=>q04 (IntKind.wrap .i64 ((l27.length:Int) - (1:Int))) fun (n28:Int)=>(q0n l27 n28).bind fun _x29=>(nth l27 (Int.toNat n28)).bind fun (x30:Yy×(Int))=>q04 (IntKind.wrap .i64 (a4+1)) fun n31=>(q1d a1 x30.2 n31).bind fun s32=>(nth l27 (Int.toNat n28)).bind fun (x33:Yy×(Int))=>q04 (IntKind.wrap .i64 (a4+1)) fun n34=>rec a1 true a3 n34 (l27.set (Int.toNat n28) (s32,x33.2))) else q04 (IntKind.wrap .i64 ((a5.length:Int) - (1:Int))) fun (n35:Int)=>(q0n a5 n35).bind fun _x36=>(nth a5 (Int.toNat n35)).bind fun (x37:Yy×(Int))=>q04 (IntKind.wrap .i64 (a4+1)) fun n38=>(q1d a1 x37.2 n38).bind fun s39=>(nth a5 (Int.toNat n35)).bind fun (x40:Yy×(Int))=>q04 (IntKind.wrap .i64 (a4+1)) fun n41=>rec a1 a2 a3 n41 (a5.set (Int.toNat n35) (s39,x40.2)))))) else (bif decide (c1=41) then (bif decide (c1=41) then q04 (IntKind.wrap .i64 (a4+1)) fun n42=>(q1d a1 a4 n42).bind fun s43=>(q2g 24 a5 ([(s43,a4)]:List (Yy×(Int)))).bind fun l44=>q04 (IntKind.wrap .i64 (a4+1)) fun n45=>rec a1 false a3 n45 l44 else (bif decide (c1=32) then (bif decide (c1=32) then q04 (IntKind.wrap .i64 (a4+1)) fun n46=>rec a1 false a3 n46 a5 else (bif !a2 then (q1d a1 a4 (a1.length:Int)).bind fun s47=>(q0x n s47 ([47,47]:Yy)).bind fun r48=>(bif r48 then some (Sum.inl (((),(a4,())),((),(a5,())))) else (q2g 24 a5 ([(([]:Yy),a4)]:List (Yy×(Int)))).bind fun l49=>q04 (IntKind.wrap .i64 ((l49.length:Int) - (1:Int))) fun (n50:Int)=>(q0n l49 n50).bind fun _x51=>(nth l49 (Int.toNat n50)).bind fun (x52:Yy×(Int))=>q04 (IntKind.wrap .i64 (a4+1)) fun n53=>(q1d a1 x52.2 n53).bind fun s54=>(nth l49 (Int.toNat n50)).bind fun (x55:Yy×(Int))=>q04 (IntKind.wrap .i64 (a4+1)) fun n56=>rec a1 true a3 n56 (l49.set (Int.toNat n50) (s54,x55.2))) else q04 (IntKind.wrap .i64 ((a5.length:Int) - (1:Int))) fun (n57:Int)=>(q0n a5 n57).bind fun _x58=>(nth a5 (Int.toNat n57)).bind fun (x59:Yy×(Int))=>q04 (IntKind.wrap .i64 (a4+1)) fun n60=>(q1d a1 x59.2 n60).bind fun s61=>(nth a5 (Int.toNat n57)).bind fun (x62:Yy×(Int))=>q04 (IntKind.wrap .i64 (a4+1)) fun n63=>rec a1 a2 a3 n63 (a5.set (Int.toNat n57) (s61,x62.2)))) else (bif decide (c1=9) then q04 (IntKind.wrap .i64 (a4+1)) fun n64=>rec a1 false a3 n64 a5 else (bif !a2 then (q1d a1 a4 (a1.length:Int)).bind fun s65=>(q0x n s65 ([47,47]:Yy)).bind fun r66=>(bif r66 then some (Sum.inl (((),(a4,())),((),(a5,())))) else (q2g 24 a5 ([(([]:Yy),a4)]:List (Yy×(Int)))).bind fun l67=>q04 (IntKind.wrap .i64 ((l67.length:Int) - (1:Int))) fun (n68:Int)=>(q0n l67 n68).bind fun _x69=>(nth l67 (Int.toNat n68)).bind fun (x70:Yy×(Int))=>q04 (IntKind.wrap .i64 (a4+1)) fun n71=>(q1d a1 x70.2 n71).bind fun s72=>(nth l67 (Int.toNat n68)).bind fun (x73:Yy×(Int))=>q04 (IntKind.wrap .i64 (a4+1)) fun n74=>rec a1 true a3 n74 (l67.set (Int.toNat n68) (s72,x73.2))) else q04 (IntKind.wrap .i64 ((a5.length:Int) - (1:Int))) fun (n75:Int)=>(q0n a5 n75).bind fun _x76=>(nth a5 (Int.toNat n75)).bind fun (x77:Yy×(Int))=>q04 (IntKind.wrap .i64 (a4+1)) fun n78=>(q1d a1 x77.2 n78).bind fun s79=>(nth a5 (Int.toNat n75)).bind fun (x80:Yy×(Int))=>q04 (IntKind.wrap .i64 (a4+1)) fun n81=>rec a1 a2 a3 n81 (a5.set (Int.toNat n75) (s79,x80.2)))))) else (bif decide (c1=91) then (bif decide (c1=91) then q04 (IntKind.wrap .i64 (a4+1)) fun n82=>(q1d a1 a4 n82).bind fun s83=>(q2g 24 a5 ([(s83,a4)]:List (Yy×(Int)))).bind fun l84=>q04 (IntKind.wrap .i64 (a4+1)) fun n85=>rec a1 false a3 n85 l84 else (bif decide (c1=32) then (bif decide (c1=32) then q04 (IntKind.wrap .i64 (a4+1)) fun n86=>rec a1 false a3 n86 a5 else (bif !a2 then (q1d a1 a4 (a1.length:Int)).bind fun s87=>(q0x n s87 ([47,47]:Yy)).bind fun r88=>(bif r88 then some (Sum.inl (((),(a4,())),((),(a5,())))) else (q2g 24 a5 ([(([]:Yy),a4)]:List (Yy×(Int)))).bind fun l89=>q04 (IntKind.wrap .i64 ((l89.length:Int) - (1:Int))) fun (n90:Int)=>(q0n l89 n90).bind fun _x91=>(nth l89 (Int.toNat n90)).bind fun (x92:Yy×(Int))=>q04 (IntKind.wrap .i64 (a4+1)) fun n93=>(q1d a1 x92.2 n93).bind fun s94=>(nth l89 (Int.toNat n90)).bind fun (x95:Yy×(Int))=>q04 (IntKind.wrap .i64 (a4+1)) fun n96=>rec a1 true a3 n96 (l89.set (Int.toNat n90) (s94,x95.2))) else q04 (IntKind.wrap .i64 ((a5.length:Int) - (1:Int))) fun (n97:Int)=>(q0n a5 n97).bind fun _x98=>(nth a5 (Int.toNat n97)).bind fun (x99:Yy×(Int))=>q04 (IntKind.wrap .i64 (a4+1)) fun n100=>(q1d a1 x99.2 n100).bind fun s101=>(nth a5 (Int.toNat n97)).bind fun (x102:Yy×(Int))=>q04 (IntKind.wrap .i64 (a4+1)) fun n103=>rec a1 a2 a3 n103 (a5.set (Int.toNat n97) (s101,x102.2)))) else (bif decide (c1=9) then q04 (IntKind.wrap .i64 (a4+1)) fun n104=>rec a1 false a3 n104 a5 else (bif !a2 then (q1d a1 a4 (a1.length:Int)).bind fun s105=>(q0x n s105 ([47,47]:Yy)).bind fun r106=>(bif r106 then some (Sum.inl (((),(a4,())),((),(a5,())))) else (q2g 24 a5 ([(([]:Yy),a4)]:List (Yy×(Int)))).bind fun l107=>q04 (IntKind.wrap .i64 ((l107.length:Int) - (1:Int))) fun (n108:Int)=>(q0n l107 n108).bind fun _x109=>(nth l107 (Int.toNat n108)).bind fun (x110:Yy×(Int))=>q04 (IntKind.wrap .i64 (a4+1)) fun n111=>(q1d a1 x110.2 n111).bind fun s112=>(nth l107 (Int.toNat n108)).bind fun (x113:Yy×(Int))=>q04 (IntKind.wrap .i64 (a4+1)) fun n114=>rec a1 true a3 n114 (l107.set (Int.toNat n108) (s112,x113.2))) else q04 (IntKind.wrap .i64 ((a5.length:Int) - (1:Int))) fun (n115:Int)=>(q0n a5 n115).bind fun _x116=>(nth a5 (Int.toNat n115)).bind fun (x117:Yy×(Int))=>q04 (IntKind.wrap .i64 (a4+1)) fun n118=>(q1d a1 x117.2 n118).bind fun s119=>(nth a5 (Int.toNat n115)).bind fun (x120:Yy×(Int))=>q04 (IntKind.wrap .i64 (a4+1)) fun n121=>rec a1 a2 a3 n121 (a5.set (Int.toNat n115) (s119,x120.2)))))) else (bif decide (c1=93) then (bif decide (c1=93) then q04 (IntKind.wrap .i64 (a4+1)) fun n122=>(q1d a1 a4 n122).bind fun s123=>(q2g 24 a5 ([(s123,a4)]:List (Yy×(Int)))).bind fun l124=>q04 (IntKind.wrap .i64 (a4+1)) fun n125=>rec a1 false a3 n125 l124 else (bif decide (c1=32) then (bif decide (c1=32) then q04 (IntKind.wrap .i64 (a4+1)) fun n126=>rec a1 false a3 n126 a5 else (bif !a2 then (q1d a1 a4 (a1.length:Int)).bind fun s127=>(q0x n s127 ([47,47]:Yy)).bind fun r128=>(bif r128 then some (Sum.inl (((),(a4,())),((),(a5,())))) else (q2g 24 a5 ([(([]:Yy),a4)]:List (Yy×(Int)))).bind fun l129=>q04 (IntKind.wrap .i64 ((l129.length:Int) - (1:Int))) fun (n130:Int)=>(q0n l129 n130).bind fun _x131=>(nth l129 (Int.toNat n130)).bind fun (x132:Yy×(Int))=>q04 (IntKind.wrap .i64 (a4+1)) fun n133=>(q1d a1 x132.2 n133).bind fun s134=>(nth l129 (Int.toNat n130)).bind fun (x135:Yy×(Int))=>q04 (IntKind.wrap .i64 (a4+1)) fun n136=>rec a1 true a3 n136 (l129.set (Int.toNat n130) (s134,x135.2))) else q04 (IntKind.wrap .i64 ((a5.length:Int) - (1:Int))) fun (n137:Int)=>(q0n a5 n137).bind fun _x138=>(nth a5 (Int.toNat n137)).bind fun (x139:Yy×(Int))=>q04 (IntKind.wrap .i64 (a4+1)) fun n140=>(q1d a1 x139.2 n140).bind fun s141=>(nth a5 (Int.toNat n137)).bind fun (x142:Yy×(Int))=>q04 (IntKind.wrap .i64 (a4+1)) fun n143=>rec a1 a2 a3 n143 (a5.set (Int.toNat n137) (s141,x142.2)))) else (bif decide (c1=9) then q04 (IntKind.wrap .i64 (a4+1)) fun n144=>rec a1 false a3 n144 a5 else (bif !a2 then (q1d a1 a4 (a1.length:Int)).bind fun s145=>(q0x n s145 ([47,47]:Yy)).bind fun r146=>(bif r146 then some (Sum.inl (((),(a4,())),((),(a5,())))) else (q2g 24 a5 ([(([]:Yy),a4)]:List (Yy×(Int)))).bind fun l147=>q04 (IntKind.wrap .i64 ((l147.length:Int) - (1:Int))) fun (n148:Int)=>(q0n l147 n148).bind fun _x149=>(nth l147 (Int.toNat n148)).bind fun (x150:Yy×(Int))=>q04 (IntKind.wrap .i64 (a4+1)) fun n151=>(q1d a1 x150.2 n151).bind fun s152=>(nth l147 (Int.toNat n148)).bind fun (x153:Yy×(Int))=>q04 (IntKind.wrap .i64 (a4+1)) fun n154=>rec a1 true a3 n154 (l147.set (Int.toNat n148) (s152,x153.2))) else q04 (IntKind.wrap .i64 ((a5.length:Int) - (1:Int))) fun (n155:Int)=>(q0n a5 n155).bind fun _x156=>(nth a5 (Int.toNat n155)).bind fun (x157:Yy×(Int))=>q04 (IntKind.wrap .i64 (a4+1)) fun n158=>(q1d a1 x157.2 n158).bind fun s159=>(nth a5 (Int.toNat n155)).bind fun (x160:Yy×(Int))=>q04 (IntKind.wrap .i64 (a4+1)) fun n161=>rec a1 a2 a3 n161 (a5.set (Int.toNat n155) (s159,x160.2)))))) else (bif decide (c1=44) then q04 (IntKind.wrap .i64 (a4+1)) fun n162=>(q1d a1 a4 n162).bind fun s163=>(q2g 24 a5 ([(s163,a4)]:List (Yy×(Int)))).bind fun l164=>q04 (IntKind.wrap .i64 (a4+1)) fun n165=>rec a1 false a3 n165 l164 else (bif decide (c1=32) then (bif decide (c1=32) then q04 (IntKind.wrap .i64 (a4+1)) fun n166=>rec a1 false a3 n166 a5 else (bif !a2 then (q1d a1 a4 (a1.length:Int)).bind fun s167=>(q0x n s167 ([47,47]:Yy)).bind fun r168=>(bif r168 then some (Sum.inl (((),(a4,())),((),(a5,())))) else (q2g 24 a5 ([(([]:Yy),a4)]:List (Yy×(Int)))).bind fun l169=>q04 (IntKind.wrap .i64 ((l169.length:Int) - (1:Int))) fun (n170:Int)=>(q0n l169 n170).bind fun _x171=>(nth l169 (Int.toNat n170)).bind fun (x172:Yy×(Int))=>q04 (IntKind.wrap .i64 (a4+1)) fun n173=>(q1d a1 x172.2 n173).bind fun s174=>(nth l169 (Int.toNat n170)).bind fun (x175:Yy×(Int))=>q04 (IntKind.wrap .i64 (a4+1)) fun n176=>rec a1 true a3 n176 (l169.set (Int.toNat n170) (s174,x175.2))) else q04 (IntKind.wrap .i64 ((a5.length:Int) - (1:Int))) fun (n177:Int)=>(q0n a5 n177).bind fun _x178=>(nth a5 (Int.toNat n177)).bind fun (x179:Yy×(Int))=>q04 (IntKind.wrap .i64 (a4+1)) fun n180=>(q1d a1 x179.2 n180).bind fun s181=>(nth a5 (Int.toNat n177)).bind fun (x182:Yy×(Int))=>q04 (IntKind.wrap .i64 (a4+1)) fun n183=>rec a1 a2 a3 n183 (a5.set (Int.toNat n177) (s181,x182.2)))) else (bif decide (c1=9) then q04 (IntKind.wrap .i64 (a4+1)) fun n184=>rec a1 false a3 n184 a5 else (bif !a2 then (q1d a1 a4 (a1.length:Int)).bind fun s185=>(q0x n s185 ([47,47]:Yy)).bind fun r186=>(bif r186 then some (Sum.inl (((),(a4,())),((),(a5,())))) else (q2g 24 a5 ([(([]:Yy),a4)]:List (Yy×(Int)))).bind fun l187=>q04 (IntKind.wrap .i64 ((l187.length:Int) - (1:Int))) fun (n188:Int)=>(q0n l187 n188).bind fun _x189=>(nth l187 (Int.toNat n188)).bind fun (x190:Yy×(Int))=>q04 (IntKind.wrap .i64 (a4+1)) fun n191=>(q1d a1 x190.2 n191).bind fun s192=>(nth l187 (Int.toNat n188)).bind fun (x193:Yy×(Int))=>q04 (IntKind.wrap .i64 (a4+1)) fun n194=>rec a1 true a3 n194 (l187.set (Int.toNat n188) (s192,x193.2))) else q04 (IntKind.wrap .i64 ((a5.length:Int) - (1:Int))) fun (n195:Int)=>(q0n a5 n195).bind fun _x196=>(nth a5 (Int.toNat n195)).bind fun (x197:Yy×(Int))=>q04 (IntKind.wrap .i64 (a4+1)) fun n198=>(q1d a1 x197.2 n198).bind fun s199=>(nth a5 (Int.toNat n195)).bind fun (x200:Yy×(Int))=>q04 (IntKind.wrap .i64 (a4+1)) fun n201=>rec a1 a2 a3 n201 (a5.set (Int.toNat n195) (s199,x200.2)))))))))) else some (Sum.inr (((a1,((),())),((),(a5,()))))))
def jg6 (n:Nat) (rec:pSt qqt->Option (q0f qey)) (p:pSt qqt):Option (q0f qey):=qw8 n (fun a1 a2 a3 a4 a5=>rec ((a1,((),(a2,(a3,(a4,()))))),((),(a5,())))) p.1.1 p.1.2.2.1 p.1.2.2.2.1 p.1.2.2.2.2.1 p.2.2.1
def q71 (n m:Nat) (a1:Yy) (a2:Bool) (a3:Int) (a4:Int) (a5:List (Yy×(Int))):Option (((Unit×(Int×Unit))×Unit×((List (Yy×(Int)))×Unit))⊕((Yy×(Unit×Unit))×Unit×((List (Yy×(Int)))×Unit))):=q0g (jg6 n) m ((a1,((),(a2,(a3,(a4,()))))),((),(a5,())))
theorem qv5 (n m:Nat) (a1 a2 a3 a4 a5):q71 n (m+1) a1 a2 a3 a4 a5=qw8 n (fun a1 a2 a3 a4 a5=>q71 n m a1 a2 a3 a4 a5) a1 a2 a3 a4 a5:=rfl
def jt6 (n:Nat):LC:={ sh:=qqt,outs:=qey,F:=q0g (jg6 n) n }
def j4r (n:Nat):List LC:=[jt6 n]
def jks (n:Nat) (a1:Yy):Option ((List (Yy×(Int)))×(Int)) :=
 (q71 n n a1 false (a1.length:Int) (0:Int) []).bind fun o202=>Sum.elim (fun (q203:(Unit×(Int×Unit))×Unit×((List (Yy×(Int)))×Unit))=>some (q203.2.2.1,q203.1.2.1)) (fun (q204:(Yy×(Unit×Unit))×Unit×((List (Yy×(Int)))×Unit))=>some (q204.2.2.1,(q204.1.1.length:Int))) o202
def qvs (n:Nat):FC:={ f:=115,args:=[.one (.c (.d .str))],res:=.tup [.c (.d (.lst (.prod .str (.int .i64)))),.c (.d (.int .i64))],F:=fun p=>jks n p }
def jct (n:Nat):List FC:=[q1s n]
theorem jb4 (n:Nat) {G:World->Prop} (hG:Know Inv G) : ∀c∈jct n,q0p Tryz.prog G c/\q07 c.args=true:=List.forall_mem_cons.2 ⟨qp4 n G hG,(fun _ h=>by cases h)⟩
def jgs:q06:=[]
theorem jxe:drB jgs (q00 Tryz.f115)=true:=by kernel_rfl
theorem k0k (n:Nat) : ∀rec p,jg6 n rec p=round Tryz.prog 68 (jct n) (j4r n) jgs 1 qqt qey (q01 0 0 (q00 Tryz.f115)) rec p:=by intro rec p;kernel_rfl
theorem js3 (n:Nat) {F:Fr} (hF:F.n=68) (hK:Know Inv F.G):q75 Tryz.prog F (jt6 n) (q01 0 0 (q00 Tryz.f115)) :=
 q0i hF (by kernel_rfl) (jb4 n hK) (k0k n) (fuel:=n) (fun _=>rfl) (q02 fun j L h1 h2 h3=>absurd h2 (Nat.not_lt.2 (Nat.le_trans (by decide +kernel) h1))) (q0t jxe)
theorem k47 (n:Nat) : ∀a,(qvs n).F a=main Tryz.prog 68 (jct n) (j4r n) jgs (q00 Tryz.f115) [.tmp 2,.tmp 3] (qvs n).args (qvs n).res a:=by intro a;kernel_rfl
theorem k5i (n:Nat):q09 Inv Tryz.prog (qvs n):=fun G hG=>⟨⟨by kernel_rfl,fun a r h=>q03 (c:=q00 Tryz.f115) Tryz.func115 (by kernel_rfl) (by kernel_rfl) (Nat.le_of_ble_eq_true (by kernel_rfl)) hG.st (by kernel_rfl) (rs:=[.tmp 2,.tmp 3]) (by kernel_rfl) (jb4 n hG) (lts:=j4r n) (fun F hF hFG=>have hK:Know Inv F.G:=hFG ▸ hG;(q02 (c:=(q00 Tryz.f115)) (fun j L h1 h2 h3=>by
  have h2':j<1:=Nat.lt_of_lt_of_le h2 (by decide +kernel)
  match j,h1,h2',h3 with
  | 0,_,_,h3=>obtain rfl:=Option.some.inj h3;exact (show q01 0 0 (q00 Tryz.f115)=q01 0 0 (q00 Tryz.f115) by kernel_rfl) ▸ js3 n hF hK
  | j+1,_,h2',_=>exact absurd h2' (by omega)))) jxe ((k47 n a).symm.trans h)⟩,rfl⟩
def jit (n:Nat):List LC:=[]
def j6a (n:Nat) (a1:Yy):Option (((List (Yy×(Int)))×Yy)×(Int)) :=
 (qqf n a1).bind fun r1=>(bif !r1 then some (([],([]:Yy)),(9:Int)) else (jks n a1).bind fun r2=>(q1d a1 r2.2 (a1.length:Int)).bind fun s3=>some ((r2.1,s3),(0:Int)))
def qvw (n:Nat):FC:={ f:=86,args:=[.one (.c (.d .str))],res:=.tup [.agg [.d (.lst (.prod .str (.int .i64))),.d .str],.c (.d (.int .i64))],F:=fun p=>j6a n p }
def jtx (n:Nat):List FC:=[qdx n,qvs n]
theorem jus (n:Nat) {G:World->Prop} (hG:Know Inv G) : ∀c∈jtx n,q0p Tryz.prog G c/\q07 c.args=true:=List.forall_mem_cons.2 ⟨jsx n G hG,List.forall_mem_cons.2 ⟨k5i n G hG,(fun _ h=>by cases h)⟩⟩
def jqj:q06:=[]
theorem k6f:drB jqj (q00 Tryz.f86)=true:=by kernel_rfl
theorem k5w (n:Nat) : ∀a,(qvw n).F a=main Tryz.prog 20 (jtx n) (jit n) jqj (q00 Tryz.f86) [.cell 2 133,.tmp 3] (qvw n).args (qvw n).res a:=by intro a;kernel_rfl
theorem k4h (n:Nat):q09 Inv Tryz.prog (qvw n):=fun G hG=>⟨⟨by kernel_rfl,fun a r h=>q03 (c:=q00 Tryz.f86) Tryz.func86 (by kernel_rfl) (by kernel_rfl) (Nat.le_of_ble_eq_true (by kernel_rfl)) hG.st (by kernel_rfl) (rs:=[.cell 2 133,.tmp 3]) (by kernel_rfl) (jus n hG) (lts:=jit n) (fun F hF hFG=>have hK:Know Inv F.G:=hFG ▸ hG;(q02 fun j L h1 h2 h3=>absurd h2 (Nat.not_lt.2 (Nat.le_trans (by decide +kernel) h1)))) k6f ((k5w n a).symm.trans h)⟩,rfl⟩
def qzh (n:Nat):List LC:=[]
def qew (n:Nat) (a1:Yy):Option (List (Yy)) :=
 (bif decide (a1=([]:Yy)) then some [] else (q8c n a1 ([10]:Yy)).bind fun r1=>(qak r1 ([10]:Yy)).bind fun (r2:List (Yy))=>some r2)
def q7d (n:Nat):FC:={ f:=64,args:=[.one (.c (.d .str))],res:=.one (.c (.d (.lst .str))),F:=fun p=>qew n p }
def jab (n:Nat):List FC:=[q4h n,j33]
theorem jgj (n:Nat) {G:World->Prop} (hG:Know Inv G) : ∀c∈jab n,q0p Tryz.prog G c/\q07 c.args=true:=List.forall_mem_cons.2 ⟨j45 n G hG,List.forall_mem_cons.2 ⟨jlc G hG,(fun _ h=>by cases h)⟩⟩
def ja0:q06:=[]
theorem jst:drB ja0 (q00 Tryz.f64)=true:=by kernel_rfl
theorem jww (n:Nat) : ∀a,(q7d n).F a=main Tryz.prog 8 (jab n) (qzh n) ja0 (q00 Tryz.f64) [.tmp 2] (q7d n).args (q7d n).res a:=by intro a;kernel_rfl
theorem qxp (n:Nat):q09 Inv Tryz.prog (q7d n):=fun G hG=>⟨⟨by kernel_rfl,fun a r h=>q03 (c:=q00 Tryz.f64) Tryz.func64 (by kernel_rfl) (by kernel_rfl) (Nat.le_of_ble_eq_true (by kernel_rfl)) hG.st (by kernel_rfl) (rs:=[.tmp 2]) (by kernel_rfl) (jgj n hG) (lts:=qzh n) (fun F hF hFG=>have hK:Know Inv F.G:=hFG ▸ hG;(q02 fun j L h1 h2 h3=>absurd h2 (Nat.not_lt.2 (Nat.le_trans (by decide +kernel) h1)))) jst ((jww n a).symm.trans h)⟩,rfl⟩
@[reducible] def qeu:SSt:=⟨[(5,.one (.c (.row 30))),(11,.one (.c (.d (.lst .str)))),(12,.one (.c (.d (.int .i64)))),(13,.one (.c (.d (.int .i64))))],[],[(30,⟨133,true,(.prod (.lst (.prod .str (.int .i64))) .str)⟩)]⟩
@[reducible] def q8l:List (Exit×SSt):=[(.ret,⟨[(2,.one (.c (.nil))),(3,.one (.c (.d (.int .i64)))),(4,.one (.c (.d (.int .i64))))],[],[]⟩),(.exit 0,⟨[(5,.one (.c (.row 30)))],[],[(30,⟨133,true,(.prod (.lst (.prod .str (.int .i64))) .str)⟩)]⟩)]
def qr6 (n:Nat) (rec:(List (Yy))->Int->Int->(List (List (Yy×(Int))×Yy))->Option (((Unit×(Int×(Int×Unit)))×Unit×Unit)⊕((Unit×Unit)×Unit×((List (List (Yy×(Int))×Yy))×Unit)))) (a1:List (Yy)) (a2:Int) (a3:Int) (a4:List (List (Yy×(Int))×Yy)):Option (((Unit×(Int×(Int×Unit)))×Unit×Unit)⊕((Unit×Unit)×Unit×((List (List (Yy×(Int))×Yy))×Unit))) :=
 (bif decide (a3<a2) then (q0n a1 a3).bind fun x2=>(j6a n x2).bind fun r3=>(bif !decide (r3.2=0) then some (Sum.inl (((),(a3,(r3.2,()))),((),()))) else (q2g 40 a4 ([r3.1]:List (List (Yy×(Int))×Yy))).bind fun l4=>q04 (IntKind.wrap .i64 (a3+1)) fun n5=>rec a1 a2 n5 l4) else some (Sum.inr ((((),()),((),(a4,()))))))
def qsv (n:Nat) (rec:pSt qeu->Option (q0f q8l)) (p:pSt qeu):Option (q0f q8l):=qr6 n (fun a1 a2 a3 a4=>rec (((),(a1,(a2,(a3,())))),((),(a4,())))) p.1.2.1 p.1.2.2.1 p.1.2.2.2.1 p.2.2.1
def q8v (n m:Nat) (a1:List (Yy)) (a2:Int) (a3:Int) (a4:List (List (Yy×(Int))×Yy)):Option (((Unit×(Int×(Int×Unit)))×Unit×Unit)⊕((Unit×Unit)×Unit×((List (List (Yy×(Int))×Yy))×Unit))):=q0g (qsv n) m (((),(a1,(a2,(a3,())))),((),(a4,())))
theorem qnr (n m:Nat) (a1 a2 a3 a4):q8v n (m+1) a1 a2 a3 a4=qr6 n (fun a1 a2 a3 a4=>q8v n m a1 a2 a3 a4) a1 a2 a3 a4:=rfl
def j6o (n:Nat):LC:={ sh:=qeu,outs:=q8l,F:=q0g (qsv n) n }
def ql3 (n:Nat):List LC:=[j6o n]
def qie (n:Nat) (a1:Yy):Option ((List (List (Yy×(Int))×Yy))×(Int×(Int))) :=
 (qew n a1).bind fun r1=>(q8v n n r1 (r1.length:Int) (0:Int) []).bind fun o6=>Sum.elim (fun (q7:(Unit×(Int×(Int×Unit)))×Unit×Unit)=>some ([],(q7.1.2.1,q7.1.2.2.1))) (fun (q8:(Unit×Unit)×Unit×((List (List (Yy×(Int))×Yy))×Unit))=>some (q8.2.2.1,((q8.2.2.1.length:Int),(0:Int)))) o6
def qa8 (n:Nat):FC:={ f:=62,args:=[.one (.c (.d .str))],res:=.tup [.c (.d (.lst (.prod (.lst (.prod .str (.int .i64))) .str))),.c (.d (.int .i64)),.c (.d (.int .i64))],F:=fun p=>qie n p }
def qt6 (n:Nat):List FC:=[q7d n,qvw n]
theorem qsw (n:Nat) {G:World->Prop} (hG:Know Inv G) : ∀c∈qt6 n,q0p Tryz.prog G c/\q07 c.args=true:=List.forall_mem_cons.2 ⟨qxp n G hG,List.forall_mem_cons.2 ⟨k4h n G hG,(fun _ h=>by cases h)⟩⟩
def qsg:q06:=[]
theorem jci:drB qsg (q00 Tryz.f62)=true:=by kernel_rfl
theorem job (n:Nat) : ∀rec p,qsv n rec p=round Tryz.prog 35 (qt6 n) (ql3 n) qsg 1 qeu q8l (q01 0 0 (q00 Tryz.f62)) rec p:=by intro rec p;kernel_rfl
theorem jfo (n:Nat) {F:Fr} (hF:F.n=35) (hK:Know Inv F.G):q75 Tryz.prog F (j6o n) (q01 0 0 (q00 Tryz.f62)) :=
 q0i hF (by kernel_rfl) (qsw n hK) (job n) (fuel:=n) (fun _=>rfl) (q02 fun j L h1 h2 h3=>absurd h2 (Nat.not_lt.2 (Nat.le_trans (by decide +kernel) h1))) (q0t jci)
theorem jvs (n:Nat) : ∀a,(qa8 n).F a=main Tryz.prog 35 (qt6 n) (ql3 n) qsg (q00 Tryz.f62) [.tmp 2,.tmp 3,.tmp 4] (qa8 n).args (qa8 n).res a:=by intro a;kernel_rfl
theorem j5r (n:Nat):q09 Inv Tryz.prog (qa8 n):=fun G hG=>⟨⟨by kernel_rfl,fun a r h=>q03 (c:=q00 Tryz.f62) Tryz.func62 (by kernel_rfl) (by kernel_rfl) (Nat.le_of_ble_eq_true (by kernel_rfl)) hG.st (by kernel_rfl) (rs:=[.tmp 2,.tmp 3,.tmp 4]) (by kernel_rfl) (qsw n hG) (lts:=ql3 n) (fun F hF hFG=>have hK:Know Inv F.G:=hFG ▸ hG;(q02 (c:=(q00 Tryz.f62)) (fun j L h1 h2 h3=>by
  have h2':j<1:=Nat.lt_of_lt_of_le h2 (by decide +kernel)
  match j,h1,h2',h3 with
  | 0,_,_,h3=>obtain rfl:=Option.some.inj h3;exact (show q01 0 0 (q00 Tryz.f62)=q01 0 0 (q00 Tryz.f62) by kernel_rfl) ▸ jfo n hF hK
  | j+1,_,h2',_=>exact absurd h2' (by omega)))) jci ((jvs n a).symm.trans h)⟩,rfl⟩
def j09 (n:Nat):List LC:=[]
def qff (n:Nat) (a1:Int):Option (Bool) :=
 (bif decide (a1=32) then some true else some (decide (a1=9)))
def qa5 (n:Nat):FC:={ f:=43,args:=[.one (.c (.d (.int .u8)))],res:=.one (.c (.d .bool)),F:=fun p=>qff n p }
def ja3 (n:Nat):List FC:=[]
theorem jez (n:Nat) {G:World->Prop} (hG:Know Inv G) : ∀c∈ja3 n,q0p Tryz.prog G c/\q07 c.args=true:=(fun _ h=>by cases h)
def j9l:q06:=[]
theorem jtn:drB j9l (q00 Tryz.f43)=true:=by kernel_rfl
theorem jx2 (n:Nat) : ∀a,(qa5 n).F a=main Tryz.prog 9 (ja3 n) (j09 n) j9l (q00 Tryz.f43) [.tmp 2] (qa5 n).args (qa5 n).res a:=by intro a;kernel_rfl
theorem j7p (n:Nat):q09 Inv Tryz.prog (qa5 n):=fun G hG=>⟨⟨by kernel_rfl,fun a r h=>q03 (c:=q00 Tryz.f43) Tryz.func43 (by kernel_rfl) (by kernel_rfl) (Nat.le_of_ble_eq_true (by kernel_rfl)) hG.st (by kernel_rfl) (rs:=[.tmp 2]) (by kernel_rfl) (jez n hG) (lts:=j09 n) (fun F hF hFG=>have hK:Know Inv F.G:=hFG ▸ hG;(q02 fun j L h1 h2 h3=>absurd h2 (Nat.not_lt.2 (Nat.le_trans (by decide +kernel) h1)))) jtn ((jx2 n a).symm.trans h)⟩,rfl⟩
def jbh (n:Nat):List LC:=[]
def qlh (n:Nat) (a1:Int):Option (Bool) :=
 (bif decide (a1=40) then some true else (bif decide (a1=41) then some true else (bif decide (a1=91) then some true else (bif decide (a1=93) then some true else some (decide (a1=44))))))
def qf1 (n:Nat):FC:={ f:=44,args:=[.one (.c (.d (.int .u8)))],res:=.one (.c (.d .bool)),F:=fun p=>qlh n p }
def jhu (n:Nat):List FC:=[]
theorem jon (n:Nat) {G:World->Prop} (hG:Know Inv G) : ∀c∈jhu n,q0p Tryz.prog G c/\q07 c.args=true:=(fun _ h=>by cases h)
def jj1:q06:=[]
theorem k17:drB jj1 (q00 Tryz.f44)=true:=by kernel_rfl
theorem k0s (n:Nat) : ∀a,(qf1 n).F a=main Tryz.prog 21 (jhu n) (jbh n) jj1 (q00 Tryz.f44) [.tmp 2] (qf1 n).args (qf1 n).res a:=by intro a;kernel_rfl
theorem jlb (n:Nat):q09 Inv Tryz.prog (qf1 n):=fun G hG=>⟨⟨by kernel_rfl,fun a r h=>q03 (c:=q00 Tryz.f44) Tryz.func44 (by kernel_rfl) (by kernel_rfl) (Nat.le_of_ble_eq_true (by kernel_rfl)) hG.st (by kernel_rfl) (rs:=[.tmp 2]) (by kernel_rfl) (jon n hG) (lts:=jbh n) (fun F hF hFG=>have hK:Know Inv F.G:=hFG ▸ hG;(q02 fun j L h1 h2 h3=>absurd h2 (Nat.not_lt.2 (Nat.le_trans (by decide +kernel) h1)))) k17 ((k0s n a).symm.trans h)⟩,rfl⟩
@[reducible] def qca:SSt:=⟨[(0,.one (.c (.d .str))),(3,.one (.c (.d (.int .i64))))],[],[]⟩
@[reducible] def q6p:List (Exit×SSt):=[(.ret,⟨[(2,.one (.c (.d (.int .i64))))],[],[]⟩),(.exit 0,⟨[(0,.one (.c (.d .str)))],[],[]⟩)]
def qln (n:Nat) (rec:(Yy)->Int->Option (((Int×Unit)×Unit×Unit)⊕((Yy×Unit)×Unit×Unit))) (a1:Yy) (a2:Int):Option (((Int×Unit)×Unit×Unit)⊕((Yy×Unit)×Unit×Unit)) :=
 q04 (IntKind.wrap .i64 (a2+1)) fun n1=>(bif decide (n1<(a1.length:Int)) then (sAt a1 a2).bind fun c2=>(bif decide (c2=47) then q04 (IntKind.wrap .i64 (a2+1)) fun n3=>(sAt a1 n3).bind fun c4=>(bif decide (c4=47) then (bif decide (a2=0) then some (Sum.inl ((a2,()),((),()))) else q04 (IntKind.wrap .i64 (a2 - (1:Int))) fun n5=>(sAt a1 n5).bind fun c6=>(qff n c6).bind fun r7=>(bif r7 then some (Sum.inl ((a2,()),((),()))) else q04 (IntKind.wrap .i64 (a2 - (1:Int))) fun n8=>(sAt a1 n8).bind fun c9=>(qlh n c9).bind fun r10=>(bif r10 then some (Sum.inl ((a2,()),((),()))) else q04 (IntKind.wrap .i64 (a2+1)) fun n11=>rec a1 n11))) else q04 (IntKind.wrap .i64 (a2+1)) fun n12=>rec a1 n12) else q04 (IntKind.wrap .i64 (a2+1)) fun n13=>rec a1 n13) else some (Sum.inr (((a1,()),((),())))))
def qnc (n:Nat) (rec:pSt qca->Option (q0f q6p)) (p:pSt qca):Option (q0f q6p):=qln n (fun a1 a2=>rec ((a1,(a2,())),((),()))) p.1.1 p.1.2.1
def q2j (n m:Nat) (a1:Yy) (a2:Int):Option (((Int×Unit)×Unit×Unit)⊕((Yy×Unit)×Unit×Unit)):=q0g (qnc n) m ((a1,(a2,())),((),()))
theorem qjh (n m:Nat) (a1 a2):q2j n (m+1) a1 a2=qln n (fun a1 a2=>q2j n m a1 a2) a1 a2:=rfl
def qzj (n:Nat):LC:={ sh:=qca,outs:=q6p,F:=q0g (qnc n) n }
def qhb (n:Nat):List LC:=[qzj n]
def qia (n:Nat) (a1:Yy):Option (Int) :=
 (q2j n n a1 (0:Int)).bind fun o14=>Sum.elim (fun (q15:(Int×Unit)×Unit×Unit)=>some q15.1.1) (fun (q16:(Yy×Unit)×Unit×Unit)=>some (q16.1.1.length:Int)) o14
def qa9 (n:Nat):FC:={ f:=42,args:=[.one (.c (.d .str))],res:=.one (.c (.d (.int .i64))),F:=fun p=>qia n p }
def qnf (n:Nat):List FC:=[qa5 n,qf1 n]
theorem qnw (n:Nat) {G:World->Prop} (hG:Know Inv G) : ∀c∈qnf n,q0p Tryz.prog G c/\q07 c.args=true:=List.forall_mem_cons.2 ⟨j7p n G hG,List.forall_mem_cons.2 ⟨jlb n G hG,(fun _ h=>by cases h)⟩⟩
def qm8:q06:=[]
theorem j05:drB qm8 (q00 Tryz.f42)=true:=by kernel_rfl
theorem jcw (n:Nat) : ∀rec p,qnc n rec p=round Tryz.prog 43 (qnf n) (qhb n) qm8 1 qca q6p (q01 0 0 (q00 Tryz.f42)) rec p:=by intro rec p;kernel_rfl
theorem j94 (n:Nat) {F:Fr} (hF:F.n=43) (hK:Know Inv F.G):q75 Tryz.prog F (qzj n) (q01 0 0 (q00 Tryz.f42)) :=
 q0i hF (by kernel_rfl) (qnw n hK) (jcw n) (fuel:=n) (fun _=>rfl) (q02 fun j L h1 h2 h3=>absurd h2 (Nat.not_lt.2 (Nat.le_trans (by decide +kernel) h1))) (q0t j05)
theorem jow (n:Nat) : ∀a,(qa9 n).F a=main Tryz.prog 43 (qnf n) (qhb n) qm8 (q00 Tryz.f42) [.tmp 2] (qa9 n).args (qa9 n).res a:=by intro a;kernel_rfl
theorem jlw (n:Nat):q09 Inv Tryz.prog (qa9 n):=fun G hG=>⟨⟨by kernel_rfl,fun a r h=>q03 (c:=q00 Tryz.f42) Tryz.func42 (by kernel_rfl) (by kernel_rfl) (Nat.le_of_ble_eq_true (by kernel_rfl)) hG.st (by kernel_rfl) (rs:=[.tmp 2]) (by kernel_rfl) (qnw n hG) (lts:=qhb n) (fun F hF hFG=>have hK:Know Inv F.G:=hFG ▸ hG;(q02 (c:=(q00 Tryz.f42)) (fun j L h1 h2 h3=>by
  have h2':j<1:=Nat.lt_of_lt_of_le h2 (by decide +kernel)
  match j,h1,h2',h3 with
  | 0,_,_,h3=>obtain rfl:=Option.some.inj h3;exact (show q01 0 0 (q00 Tryz.f42)=q01 0 0 (q00 Tryz.f42) by kernel_rfl) ▸ j94 n hF hK
  | j+1,_,h2',_=>exact absurd h2' (by omega)))) j05 ((jow n a).symm.trans h)⟩,rfl⟩
@[reducible] def qps:SSt:=⟨[(0,.one (.c (.d .str))),(2,.one (.c (.box 2 0))),(5,.one (.c (.d (.int .i64)))),(6,.one (.c (.row 79))),(7,.one (.c (.d (.int .i64)))),(8,.one (.c (.d (.int .i64))))],[(2,(53,[.nil,.d .str]))],[(79,⟨102,true,(.prod .str (.int .i64))⟩)]⟩
@[reducible] def qfl:List (Exit×SSt):=[(.exit 4,⟨[(0,.one (.c (.d .str))),(2,.one (.c (.box 2 0))),(5,.one (.c (.d (.int .i64)))),(6,.one (.c (.row 79))),(7,.one (.c (.d (.int .i64)))),(8,.one (.c (.d (.int .i64)))),(49,.one (.c (.d .str))),(50,.one (.c (.d (.int .i64)))),(51,.one (.c (.d (.int .u8)))),(52,.one (.c (.d .bool))),(53,.one (.c (.d .bool))),(56,.one (.c (.d .str))),(57,.one (.c (.d (.int .i64)))),(58,.one (.c (.d (.int .u8)))),(59,.one (.c (.d .bool))),(60,.one (.c (.d .bool))),(63,.one (.c (.d .str))),(64,.one (.c (.d (.int .i64)))),(65,.one (.c (.d (.int .u8)))),(66,.one (.c (.d .bool))),(67,.one (.c (.d .bool)))],[(2,(53,[.nil,.d .str]))],[(79,⟨102,true,(.prod .str (.int .i64))⟩)]⟩),(.exit 4,⟨[(0,.one (.c (.d .str))),(2,.one (.c (.box 2 0))),(5,.one (.c (.d (.int .i64)))),(6,.one (.c (.row 79))),(7,.one (.c (.d (.int .i64)))),(8,.one (.c (.d (.int .i64)))),(49,.one (.c (.d .str))),(50,.one (.c (.d (.int .i64)))),(51,.one (.c (.d (.int .u8)))),(52,.one (.c (.d .bool))),(53,.one (.c (.d .bool))),(56,.one (.c (.d .str))),(57,.one (.c (.d (.int .i64)))),(58,.one (.c (.d (.int .u8)))),(59,.one (.c (.d .bool))),(60,.one (.c (.d .bool))),(63,.one (.c (.undef))),(64,.one (.c (.undef))),(65,.one (.c (.undef))),(66,.one (.c (.undef))),(67,.one (.c (.undef)))],[(2,(53,[.nil,.d .str]))],[(79,⟨102,true,(.prod .str (.int .i64))⟩)]⟩),(.exit 4,⟨[(0,.one (.c (.d .str))),(2,.one (.c (.box 2 0))),(5,.one (.c (.d (.int .i64)))),(6,.one (.c (.row 79))),(7,.one (.c (.d (.int .i64)))),(8,.one (.c (.d (.int .i64)))),(49,.one (.c (.d .str))),(50,.one (.c (.d (.int .i64)))),(51,.one (.c (.d (.int .u8)))),(52,.one (.c (.d .bool))),(53,.one (.c (.d .bool))),(56,.one (.c (.undef))),(57,.one (.c (.undef))),(58,.one (.c (.undef))),(59,.one (.c (.undef))),(60,.one (.c (.undef))),(63,.one (.c (.undef))),(64,.one (.c (.undef))),(65,.one (.c (.undef))),(66,.one (.c (.undef))),(67,.one (.c (.undef)))],[(2,(53,[.nil,.d .str]))],[(79,⟨102,true,(.prod .str (.int .i64))⟩)]⟩),(.exit 4,⟨[(0,.one (.c (.d .str))),(2,.one (.c (.box 2 0))),(5,.one (.c (.d (.int .i64)))),(6,.one (.c (.row 79))),(7,.one (.c (.d (.int .i64)))),(8,.one (.c (.d (.int .i64)))),(49,.one (.c (.undef))),(50,.one (.c (.undef))),(51,.one (.c (.undef))),(52,.one (.c (.undef))),(53,.one (.c (.undef))),(56,.one (.c (.undef))),(57,.one (.c (.undef))),(58,.one (.c (.undef))),(59,.one (.c (.undef))),(60,.one (.c (.undef))),(63,.one (.c (.undef))),(64,.one (.c (.undef))),(65,.one (.c (.undef))),(66,.one (.c (.undef))),(67,.one (.c (.undef)))],[(2,(53,[.nil,.d .str]))],[(79,⟨102,true,(.prod .str (.int .i64))⟩)]⟩)]
def jeo (n:Nat) (rec:(Yy)->Int->Int->Int->(Yy)->(List (Yy×(Int)))->Option (((Yy×(Unit×(Int×(Unit×(Int×(Int×(Yy×(Int×(Int×(Bool×(Bool×(Yy×(Int×(Int×(Bool×(Bool×(Yy×(Int×(Int×(Bool×(Bool×Unit)))))))))))))))))))))×((Unit×Yy)×Unit)×((List (Yy×(Int)))×Unit))⊕(((Yy×(Unit×(Int×(Unit×(Int×(Int×(Yy×(Int×(Int×(Bool×(Bool×(Yy×(Int×(Int×(Bool×(Bool×(Unit×(Unit×(Unit×(Unit×(Unit×Unit)))))))))))))))))))))×((Unit×Yy)×Unit)×((List (Yy×(Int)))×Unit))⊕(((Yy×(Unit×(Int×(Unit×(Int×(Int×(Yy×(Int×(Int×(Bool×(Bool×(Unit×(Unit×(Unit×(Unit×(Unit×(Unit×(Unit×(Unit×(Unit×(Unit×Unit)))))))))))))))))))))×((Unit×Yy)×Unit)×((List (Yy×(Int)))×Unit))⊕((Yy×(Unit×(Int×(Unit×(Int×(Int×(Unit×(Unit×(Unit×(Unit×(Unit×(Unit×(Unit×(Unit×(Unit×(Unit×(Unit×(Unit×(Unit×(Unit×(Unit×Unit)))))))))))))))))))))×((Unit×Yy)×Unit)×((List (Yy×(Int)))×Unit)))))) (a1:Yy) (a2:Int) (a3:Int) (a4:Int) (a5:Yy) (a6:List (Yy×(Int))):Option (((Yy×(Unit×(Int×(Unit×(Int×(Int×(Yy×(Int×(Int×(Bool×(Bool×(Yy×(Int×(Int×(Bool×(Bool×(Yy×(Int×(Int×(Bool×(Bool×Unit)))))))))))))))))))))×((Unit×Yy)×Unit)×((List (Yy×(Int)))×Unit))⊕(((Yy×(Unit×(Int×(Unit×(Int×(Int×(Yy×(Int×(Int×(Bool×(Bool×(Yy×(Int×(Int×(Bool×(Bool×(Unit×(Unit×(Unit×(Unit×(Unit×Unit)))))))))))))))))))))×((Unit×Yy)×Unit)×((List (Yy×(Int)))×Unit))⊕(((Yy×(Unit×(Int×(Unit×(Int×(Int×(Yy×(Int×(Int×(Bool×(Bool×(Unit×(Unit×(Unit×(Unit×(Unit×(Unit×(Unit×(Unit×(Unit×(Unit×Unit)))))))))))))))))))))×((Unit×Yy)×Unit)×((List (Yy×(Int)))×Unit))⊕((Yy×(Unit×(Int×(Unit×(Int×(Int×(Unit×(Unit×(Unit×(Unit×(Unit×(Unit×(Unit×(Unit×(Unit×(Unit×(Unit×(Unit×(Unit×(Unit×(Unit×Unit)))))))))))))))))))))×((Unit×Yy)×Unit)×((List (Yy×(Int)))×Unit))))) :=
 (bif decide (a4<a2) then (sAt a1 a3).bind fun c15=>(qlh n c15).bind fun r16=>(bif !r16 then (sAt a1 a4).bind fun c17=>(qff n c17).bind fun r18=>(bif !r18 then (sAt a1 a4).bind fun c19=>(qlh n c19).bind fun r20=>(bif !r20 then q04 (IntKind.wrap .i64 (a4+1)) fun n21=>rec a1 a2 a3 n21 a5 a6 else some (Sum.inl ((a1,((),(a2,((),(a3,(a4,(a1,(a3,(c15,(r16,(!r16,(a1,(a4,(c17,(r18,(!r18,(a1,(a4,(c19,(r20,(!r20,()))))))))))))))))))))),((((),a5),()),(a6,()))))) else some (Sum.inr (Sum.inl ((a1,((),(a2,((),(a3,(a4,(a1,(a3,(c15,(r16,(!r16,(a1,(a4,(c17,(r18,(!r18,((),((),((),((),((),()))))))))))))))))))))),((((),a5),()),(a6,())))))) else some (Sum.inr (Sum.inr (Sum.inl ((a1,((),(a2,((),(a3,(a4,(a1,(a3,(c15,(r16,(!r16,((),((),((),((),((),((),((),((),((),((),()))))))))))))))))))))),((((),a5),()),(a6,()))))))) else some (Sum.inr (Sum.inr (Sum.inr (((a1,((),(a2,((),(a3,(a4,((),((),((),((),((),((),((),((),((),((),((),((),((),((),((),()))))))))))))))))))))),((((),a5),()),(a6,()))))))))
def jgx (n:Nat) (rec:pSt qps->Option (q0f qfl)) (p:pSt qps):Option (q0f qfl):=jeo n (fun a1 a2 a3 a4 a5 a6=>rec ((a1,((),(a2,((),(a3,(a4,())))))),((((),a5),()),(a6,())))) p.1.1 p.1.2.2.1 p.1.2.2.2.2.1 p.1.2.2.2.2.2.1 p.2.1.1.2 p.2.2.1
def qeo (n m:Nat) (a1:Yy) (a2:Int) (a3:Int) (a4:Int) (a5:Yy) (a6:List (Yy×(Int))):Option (((Yy×(Unit×(Int×(Unit×(Int×(Int×(Yy×(Int×(Int×(Bool×(Bool×(Yy×(Int×(Int×(Bool×(Bool×(Yy×(Int×(Int×(Bool×(Bool×Unit)))))))))))))))))))))×((Unit×Yy)×Unit)×((List (Yy×(Int)))×Unit))⊕(((Yy×(Unit×(Int×(Unit×(Int×(Int×(Yy×(Int×(Int×(Bool×(Bool×(Yy×(Int×(Int×(Bool×(Bool×(Unit×(Unit×(Unit×(Unit×(Unit×Unit)))))))))))))))))))))×((Unit×Yy)×Unit)×((List (Yy×(Int)))×Unit))⊕(((Yy×(Unit×(Int×(Unit×(Int×(Int×(Yy×(Int×(Int×(Bool×(Bool×(Unit×(Unit×(Unit×(Unit×(Unit×(Unit×(Unit×(Unit×(Unit×(Unit×Unit)))))))))))))))))))))×((Unit×Yy)×Unit)×((List (Yy×(Int)))×Unit))⊕((Yy×(Unit×(Int×(Unit×(Int×(Int×(Unit×(Unit×(Unit×(Unit×(Unit×(Unit×(Unit×(Unit×(Unit×(Unit×(Unit×(Unit×(Unit×(Unit×(Unit×Unit)))))))))))))))))))))×((Unit×Yy)×Unit)×((List (Yy×(Int)))×Unit))))):=q0g (jgx n) m ((a1,((),(a2,((),(a3,(a4,())))))),((((),a5),()),(a6,())))
theorem qro (n m:Nat) (a1 a2 a3 a4 a5 a6):qeo n (m+1) a1 a2 a3 a4 a5 a6=jeo n (fun a1 a2 a3 a4 a5 a6=>qeo n m a1 a2 a3 a4 a5 a6) a1 a2 a3 a4 a5 a6:=rfl
def jvf (n:Nat):LC:={ sh:=qps,outs:=qfl,F:=q0g (jgx n) n }
@[reducible] def qqc:SSt:=⟨[(0,.one (.c (.d .str))),(2,.one (.c (.box 2 0))),(5,.one (.c (.d (.int .i64)))),(6,.one (.c (.row 79))),(7,.one (.c (.d (.int .i64))))],[(2,(53,[.nil,.d .str]))],[(79,⟨102,true,(.prod .str (.int .i64))⟩)]⟩
@[reducible] def qem:List (Exit×SSt):=[(.exit 2,⟨[(0,.one (.c (.d .str))),(2,.one (.c (.box 2 0))),(5,.one (.c (.d (.int .i64)))),(6,.one (.c (.row 79)))],[(2,(53,[.nil,.d .str]))],[(79,⟨102,true,(.prod .str (.int .i64))⟩)]⟩)]
def jes (n:Nat) (rec:(Yy)->Int->Int->(Yy)->(List (Yy×(Int)))->Option ((Yy×(Unit×(Int×(Unit×Unit))))×((Unit×Yy)×Unit)×((List (Yy×(Int)))×Unit))) (a1:Yy) (a2:Int) (a3:Int) (a4:Yy) (a5:List (Yy×(Int))):Option ((Yy×(Unit×(Int×(Unit×Unit))))×((Unit×Yy)×Unit)×((List (Yy×(Int)))×Unit)) :=
 (bif decide (a3<a2) then (sAt a1 a3).bind fun c11=>(qff n c11).bind fun r12=>(bif r12 then q04 (IntKind.wrap .i64 (a3+1)) fun n13=>rec a1 a2 n13 a4 a5 else q04 (IntKind.wrap .i64 (a3+1)) fun n14=>(qeo n n a1 a2 a3 n14 a4 a5).bind fun o22=>Sum.elim (fun (q23:(Yy×(Unit×(Int×(Unit×(Int×(Int×(Yy×(Int×(Int×(Bool×(Bool×(Yy×(Int×(Int×(Bool×(Bool×(Yy×(Int×(Int×(Bool×(Bool×Unit)))))))))))))))))))))×((Unit×Yy)×Unit)×((List (Yy×(Int)))×Unit))=>(q1d q23.1.1 q23.1.2.2.2.2.1 q23.1.2.2.2.2.2.1).bind fun s25=>(q2g 24 q23.2.2.1 ([(s25,q23.1.2.2.2.2.1)]:List (Yy×(Int)))).bind fun l26=>rec q23.1.1 q23.1.2.2.1 q23.1.2.2.2.2.2.1 q23.2.1.1.2 l26) (fun (q24:((Yy×(Unit×(Int×(Unit×(Int×(Int×(Yy×(Int×(Int×(Bool×(Bool×(Yy×(Int×(Int×(Bool×(Bool×(Unit×(Unit×(Unit×(Unit×(Unit×Unit)))))))))))))))))))))×((Unit×Yy)×Unit)×((List (Yy×(Int)))×Unit))⊕(((Yy×(Unit×(Int×(Unit×(Int×(Int×(Yy×(Int×(Int×(Bool×(Bool×(Unit×(Unit×(Unit×(Unit×(Unit×(Unit×(Unit×(Unit×(Unit×(Unit×Unit)))))))))))))))))))))×((Unit×Yy)×Unit)×((List (Yy×(Int)))×Unit))⊕((Yy×(Unit×(Int×(Unit×(Int×(Int×(Unit×(Unit×(Unit×(Unit×(Unit×(Unit×(Unit×(Unit×(Unit×(Unit×(Unit×(Unit×(Unit×(Unit×(Unit×Unit)))))))))))))))))))))×((Unit×Yy)×Unit)×((List (Yy×(Int)))×Unit))))=>Sum.elim (fun (q27:(Yy×(Unit×(Int×(Unit×(Int×(Int×(Yy×(Int×(Int×(Bool×(Bool×(Yy×(Int×(Int×(Bool×(Bool×(Unit×(Unit×(Unit×(Unit×(Unit×Unit)))))))))))))))))))))×((Unit×Yy)×Unit)×((List (Yy×(Int)))×Unit))=>(q1d q27.1.1 q27.1.2.2.2.2.1 q27.1.2.2.2.2.2.1).bind fun s29=>(q2g 24 q27.2.2.1 ([(s29,q27.1.2.2.2.2.1)]:List (Yy×(Int)))).bind fun l30=>rec q27.1.1 q27.1.2.2.1 q27.1.2.2.2.2.2.1 q27.2.1.1.2 l30) (fun (q28:((Yy×(Unit×(Int×(Unit×(Int×(Int×(Yy×(Int×(Int×(Bool×(Bool×(Unit×(Unit×(Unit×(Unit×(Unit×(Unit×(Unit×(Unit×(Unit×(Unit×Unit)))))))))))))))))))))×((Unit×Yy)×Unit)×((List (Yy×(Int)))×Unit))⊕((Yy×(Unit×(Int×(Unit×(Int×(Int×(Unit×(Unit×(Unit×(Unit×(Unit×(Unit×(Unit×(Unit×(Unit×(Unit×(Unit×(Unit×(Unit×(Unit×(Unit×Unit)))))))))))))))))))))×((Unit×Yy)×Unit)×((List (Yy×(Int)))×Unit)))=>Sum.elim (fun (q31:(Yy×(Unit×(Int×(Unit×(Int×(Int×(Yy×(Int×(Int×(Bool×(Bool×(Unit×(Unit×(Unit×(Unit×(Unit×(Unit×(Unit×(Unit×(Unit×(Unit×Unit)))))))))))))))))))))×((Unit×Yy)×Unit)×((List (Yy×(Int)))×Unit))=>(q1d q31.1.1 q31.1.2.2.2.2.1 q31.1.2.2.2.2.2.1).bind fun s33=>(q2g 24 q31.2.2.1 ([(s33,q31.1.2.2.2.2.1)]:List (Yy×(Int)))).bind fun l34=>rec q31.1.1 q31.1.2.2.1 q31.1.2.2.2.2.2.1 q31.2.1.1.2 l34) (fun (q32:(Yy×(Unit×(Int×(Unit×(Int×(Int×(Unit×(Unit×(Unit×(Unit×(Unit×(Unit×(Unit×(Unit×(Unit×(Unit×(Unit×(Unit×(Unit×(Unit×(Unit×Unit)))))))))))))))))))))×((Unit×Yy)×Unit)×((List (Yy×(Int)))×Unit))=>(q1d q32.1.1 q32.1.2.2.2.2.1 q32.1.2.2.2.2.2.1).bind fun s35=>(q2g 24 q32.2.2.1 ([(s35,q32.1.2.2.2.2.1)]:List (Yy×(Int)))).bind fun l36=>rec q32.1.1 q32.1.2.2.1 q32.1.2.2.2.2.2.1 q32.2.1.1.2 l36) q28) q24) o22) else some (((a1,((),(a2,((),())))),((((),a4),()),(a5,())))))
def jd3 (n:Nat) (rec:pSt qqc->Option (q0f qem)) (p:pSt qqc):Option (q0f qem):=jes n (fun a1 a2 a3 a4 a5=>rec ((a1,((),(a2,((),(a3,()))))),((((),a4),()),(a5,())))) p.1.1 p.1.2.2.1 p.1.2.2.2.2.1 p.2.1.1.2 p.2.2.1
def q9v (n m:Nat) (a1:Yy) (a2:Int) (a3:Int) (a4:Yy) (a5:List (Yy×(Int))):Option ((Yy×(Unit×(Int×(Unit×Unit))))×((Unit×Yy)×Unit)×((List (Yy×(Int)))×Unit)):=q0g (jd3 n) m ((a1,((),(a2,((),(a3,()))))),((((),a4),()),(a5,())))
theorem qwa (n m:Nat) (a1 a2 a3 a4 a5):q9v n (m+1) a1 a2 a3 a4 a5=jes n (fun a1 a2 a3 a4 a5=>q9v n m a1 a2 a3 a4 a5) a1 a2 a3 a4 a5:=rfl
def jpv (n:Nat):LC:={ sh:=qqc,outs:=qem,F:=q0g (jd3 n) n }
@[reducible] def qqp:SSt:=⟨[(0,.one (.c (.d .str))),(2,.one (.c (.box 2 0))),(4,.one (.c (.d (.int .i64))))],[(2,(53,[.nil,.d .str]))],[]⟩
@[reducible] def qf7:List (Exit×SSt):=[(.ret,⟨[(2,.one (.c (.box 2 0))),(3,.one (.c (.d (.int .i64))))],[(2,(53,[.nil,.d .str]))],[]⟩),(.exit 0,⟨[(0,.one (.c (.d .str))),(2,.one (.c (.box 2 0)))],[(2,(53,[.nil,.d .str]))],[]⟩)]
def je9 (n:Nat) (rec:(Yy)->Int->(Yy)->Option (((Unit×(Int×Unit))×((Unit×Yy)×Unit)×Unit)⊕((Yy×(Unit×Unit))×((Unit×Yy)×Unit)×Unit))) (a1:Yy) (a2:Int) (a3:Yy):Option (((Unit×(Int×Unit))×((Unit×Yy)×Unit)×Unit)⊕((Yy×(Unit×Unit))×((Unit×Yy)×Unit)×Unit)) :=
 (bif decide (a2<(a1.length:Int)) then (sAt a1 a2).bind fun c1=>(bif decide (c1<32) then (sAt a1 a2).bind fun c2=>(bif !decide (c2=9) then some (Sum.inl (((),((9:Int),())),((((),([]:Yy)),()),()))) else (sAt a1 a2).bind fun c3=>(bif decide (126<c3) then some (Sum.inl (((),((9:Int),())),((((),([]:Yy)),()),()))) else q04 (IntKind.wrap .i64 (a2+1)) fun n4=>rec a1 n4 a3)) else (sAt a1 a2).bind fun c5=>(bif decide (126<c5) then some (Sum.inl (((),((9:Int),())),((((),([]:Yy)),()),()))) else q04 (IntKind.wrap .i64 (a2+1)) fun n6=>rec a1 n6 a3)) else some (Sum.inr (((a1,((),())),((((),a3),()),())))))
def jcn (n:Nat) (rec:pSt qqp->Option (q0f qf7)) (p:pSt qqp):Option (q0f qf7):=je9 n (fun a1 a2 a3=>rec ((a1,((),(a2,()))),((((),a3),()),()))) p.1.1 p.1.2.2.1 p.2.1.1.2
def qfh (n m:Nat) (a1:Yy) (a2:Int) (a3:Yy):Option (((Unit×(Int×Unit))×((Unit×Yy)×Unit)×Unit)⊕((Yy×(Unit×Unit))×((Unit×Yy)×Unit)×Unit)):=q0g (jcn n) m ((a1,((),(a2,()))),((((),a3),()),()))
theorem qv2 (n m:Nat) (a1 a2 a3):qfh n (m+1) a1 a2 a3=je9 n (fun a1 a2 a3=>qfh n m a1 a2 a3) a1 a2 a3:=rfl
def jtc (n:Nat):LC:={ sh:=qqp,outs:=qf7,F:=q0g (jcn n) n }
def q7v (n:Nat):List LC:=[jtc n,jpv n,jvf n]
def qdu (n:Nat) (a1:Yy):Option (((List (Yy×(Int)))×Yy)×(Int)) :=
 (qfh n n a1 (0:Int) ([]:Yy)).bind fun o7=>Sum.elim (fun (q8:(Unit×(Int×Unit))×((Unit×Yy)×Unit)×Unit)=>some (([],q8.2.1.1.2),q8.1.2.1)) (fun (q9:(Yy×(Unit×Unit))×((Unit×Yy)×Unit)×Unit)=>(qia n q9.1.1).bind fun r10=>(q9v n n q9.1.1 r10 (0:Int) q9.2.1.1.2 []).bind fun o37=>(q1d o37.1.1 o37.1.2.2.1 (o37.1.1.length:Int)).bind fun s38=>some ((o37.2.2.1,s38),(0:Int))) o7
def q76 (n:Nat):FC:={ f:=22,args:=[.one (.c (.d .str))],res:=.tup [.agg [.d (.lst (.prod .str (.int .i64))),.d .str],.c (.d (.int .i64))],F:=fun p=>qdu n p }
def qei (n:Nat):List FC:=[qa9 n,qa5 n,qf1 n]
theorem q9w (n:Nat) {G:World->Prop} (hG:Know Inv G) : ∀c∈qei n,q0p Tryz.prog G c/\q07 c.args=true:=List.forall_mem_cons.2 ⟨jlw n G hG,List.forall_mem_cons.2 ⟨j7p n G hG,List.forall_mem_cons.2 ⟨jlb n G hG,(fun _ h=>by cases h)⟩⟩⟩
def qdn:q06:=[]
theorem qlt:drB qdn (q00 Tryz.f22)=true:=by kernel_rfl
theorem jzq (n:Nat) : ∀rec p,jgx n rec p=round Tryz.prog 86 (qei n) (q7v n) qdn 3 qps qfl (q01 0 2 (q00 Tryz.f22)) rec p:=by intro rec p;kernel_rfl
theorem jym (n:Nat) : ∀rec p,jd3 n rec p=round Tryz.prog 86 (qei n) (q7v n) qdn 2 qqc qem (q01 0 1 (q00 Tryz.f22)) rec p:=by intro rec p;kernel_rfl
theorem k1c (n:Nat) : ∀rec p,jcn n rec p=round Tryz.prog 86 (qei n) (q7v n) qdn 1 qqp qf7 (q01 0 0 (q00 Tryz.f22)) rec p:=by intro rec p;kernel_rfl
theorem j64 (n:Nat) {F:Fr} (hF:F.n=86) (hK:Know Inv F.G):q75 Tryz.prog F (jvf n) (q01 0 2 (q00 Tryz.f22)) :=
 q0i hF (by kernel_rfl) (q9w n hK) (jzq n) (fuel:=n) (fun _=>rfl) (q02 fun j L h1 h2 h3=>absurd h2 (Nat.not_lt.2 (Nat.le_trans (by decide +kernel) h1))) (q0t qlt)
theorem jru (n:Nat) {F:Fr} (hF:F.n=86) (hK:Know Inv F.G):q75 Tryz.prog F (jpv n) (q01 0 1 (q00 Tryz.f22)) :=
 q0i hF (by kernel_rfl) (q9w n hK) (jym n) (fuel:=n) (fun _=>rfl) (q02 (c:=(q01 0 1 (q00 Tryz.f22))) (fun j L h1 h2 h3=>by
  have h2':j<3:=Nat.lt_of_lt_of_le h2 (by decide +kernel)
  match j,h1,h2',h3 with
  | 0,h1,_,_=>exact absurd h1 (by decide)
  | 1,h1,_,_=>exact absurd h1 (by decide)
  | 2,_,_,h3=>obtain rfl:=Option.some.inj h3;exact (show q01 0 2 (q00 Tryz.f22)=q01 2 2 (q01 0 1 (q00 Tryz.f22)) by kernel_rfl) ▸ j64 n hF hK
  | j+3,_,h2',_=>exact absurd h2' (by omega))) (q0t qlt)
theorem jqc (n:Nat) {F:Fr} (hF:F.n=86) (hK:Know Inv F.G):q75 Tryz.prog F (jtc n) (q01 0 0 (q00 Tryz.f22)) :=
 q0i hF (by kernel_rfl) (q9w n hK) (k1c n) (fuel:=n) (fun _=>rfl) (q02 fun j L h1 h2 h3=>absurd h2 (Nat.not_lt.2 (Nat.le_trans (by decide +kernel) h1))) (q0t qlt)
theorem jfs (n:Nat) : ∀a,(q76 n).F a=main Tryz.prog 86 (qei n) (q7v n) qdn (q00 Tryz.f22) [.cell 2 53,.tmp 3] (q76 n).args (q76 n).res a:=by intro a;kernel_rfl
theorem jf7 (n:Nat):q09 Inv Tryz.prog (q76 n):=fun G hG=>⟨⟨by kernel_rfl,fun a r h=>q03 (c:=q00 Tryz.f22) Tryz.func22 (by kernel_rfl) (by kernel_rfl) (Nat.le_of_ble_eq_true (by kernel_rfl)) hG.st (by kernel_rfl) (rs:=[.cell 2 53,.tmp 3]) (by kernel_rfl) (q9w n hG) (lts:=q7v n) (fun F hF hFG=>have hK:Know Inv F.G:=hFG ▸ hG;(q02 (c:=(q00 Tryz.f22)) (fun j L h1 h2 h3=>by
  have h2':j<3:=Nat.lt_of_lt_of_le h2 (by decide +kernel)
  match j,h1,h2',h3 with
  | 0,_,_,h3=>obtain rfl:=Option.some.inj h3;exact (show q01 0 0 (q00 Tryz.f22)=q01 0 0 (q00 Tryz.f22) by kernel_rfl) ▸ jqc n hF hK
  | 1,_,_,h3=>obtain rfl:=Option.some.inj h3;exact (show q01 0 1 (q00 Tryz.f22)=q01 0 1 (q00 Tryz.f22) by kernel_rfl) ▸ jru n hF hK
  | 2,_,_,h3=>obtain rfl:=Option.some.inj h3;exact (show q01 0 2 (q00 Tryz.f22)=q01 0 2 (q00 Tryz.f22) by kernel_rfl) ▸ j64 n hF hK
  | j+3,_,h2',_=>exact absurd h2' (by omega)))) qlt ((jfs n a).symm.trans h)⟩,rfl⟩
@[reducible] def q2n:SSt:=⟨[(0,.one (.c (.d .str))),(1,.one (.c (.d (.int .u8)))),(5,.one (.c (.row 31))),(6,.one (.c (.d (.int .i64)))),(7,.one (.c (.d (.int .i64))))],[],[(31,⟨9,true,.str⟩)]⟩
@[reducible] def q1o:List (Exit×SSt):=[(.exit 0,⟨[(5,.one (.c (.row 31)))],[],[(31,⟨9,true,.str⟩)]⟩)]
def q3g (n:Nat) (rec:(Yy)->Int->Int->Int->(List (Yy))->Option ((Unit×Unit)×Unit×((List (Yy))×Unit))) (a1:Yy) (a2:Int) (a3:Int) (a4:Int) (a5:List (Yy)):Option ((Unit×Unit)×Unit×((List (Yy))×Unit)) :=
 (bif decide (a4<=(a1.length:Int)) then (bif decide (a4=(a1.length:Int)) then (q1d a1 a3 a4).bind fun s1=>(q2g 16 a5 ([s1]:List (Yy))).bind fun l2=>q04 (IntKind.wrap .i64 (a4+1)) fun n3=>q04 (IntKind.wrap .i64 (a4+1)) fun n4=>rec a1 a2 n3 n4 l2 else (sAt a1 a4).bind fun c5=>(bif decide (c5=a2) then (q1d a1 a3 a4).bind fun s6=>(q2g 16 a5 ([s6]:List (Yy))).bind fun l7=>q04 (IntKind.wrap .i64 (a4+1)) fun n8=>q04 (IntKind.wrap .i64 (a4+1)) fun n9=>rec a1 a2 n8 n9 l7 else q04 (IntKind.wrap .i64 (a4+1)) fun n10=>rec a1 a2 a3 n10 a5)) else some ((((),()),((),(a5,())))))
def q4z (n:Nat) (rec:pSt q2n->Option (q0f q1o)) (p:pSt q2n):Option (q0f q1o):=q3g n (fun a1 a2 a3 a4 a5=>rec ((a1,(a2,((),(a3,(a4,()))))),((),(a5,())))) p.1.1 p.1.2.1 p.1.2.2.2.1 p.1.2.2.2.2.1 p.2.2.1
def q1m (n m:Nat) (a1:Yy) (a2:Int) (a3:Int) (a4:Int) (a5:List (Yy)):Option ((Unit×Unit)×Unit×((List (Yy))×Unit)):=q0g (q4z n) m ((a1,(a2,((),(a3,(a4,()))))),((),(a5,())))
theorem q20 (n m:Nat) (a1 a2 a3 a4 a5):q1m n (m+1) a1 a2 a3 a4 a5=q3g n (fun a1 a2 a3 a4 a5=>q1m n m a1 a2 a3 a4 a5) a1 a2 a3 a4 a5:=rfl
def q9h (n:Nat):LC:={ sh:=q2n,outs:=q1o,F:=q0g (q4z n) n }
def q40 (n:Nat):List LC:=[q9h n]
def q0k (n:Nat) (a1:Yy) (a2:Int):Option (List (Yy)) :=
 (q1m n n a1 a2 (0:Int) (0:Int) []).bind fun o11=>some o11.2.2.1
def q0u (n:Nat):FC:={ f:=41,args:=[.one (.c (.d .str)),.one (.c (.d (.int .u8)))],res:=.one (.c (.d (.lst .str))),F:=fun p=>q0k n p.1 p.2 }
def q52 (n:Nat):List FC:=[]
theorem q5v (n:Nat) {G:World->Prop} (hG:Know Inv G) : ∀c∈q52 n,q0p Tryz.prog G c/\q07 c.args=true:=(fun _ h=>by cases h)
def q56:q06:=[]
theorem qa2:drB q56 (q00 Tryz.f41)=true:=by kernel_rfl
theorem qhw (n:Nat) : ∀rec p,q4z n rec p=round Tryz.prog 35 (q52 n) (q40 n) q56 1 q2n q1o (q01 0 0 (q00 Tryz.f41)) rec p:=by intro rec p;kernel_rfl
theorem qdk (n:Nat) {F:Fr} (hF:F.n=35) (hK:Know Inv F.G):q75 Tryz.prog F (q9h n) (q01 0 0 (q00 Tryz.f41)) :=
 q0i hF (by kernel_rfl) (q5v n hK) (qhw n) (fuel:=n) (fun _=>rfl) (q02 fun j L h1 h2 h3=>absurd h2 (Nat.not_lt.2 (Nat.le_trans (by decide +kernel) h1))) (q0t qa2)
theorem qnn (n:Nat) : ∀a,(q0u n).F a=main Tryz.prog 35 (q52 n) (q40 n) q56 (q00 Tryz.f41) [.tmp 4] (q0u n).args (q0u n).res a:=by intro a;kernel_rfl
theorem q3i (n:Nat):q09 Inv Tryz.prog (q0u n):=fun G hG=>⟨⟨by kernel_rfl,fun a r h=>q03 (c:=q00 Tryz.f41) Tryz.func41 (by kernel_rfl) (by kernel_rfl) (Nat.le_of_ble_eq_true (by kernel_rfl)) hG.st (by kernel_rfl) (rs:=[.tmp 4]) (by kernel_rfl) (q5v n hG) (lts:=q40 n) (fun F hF hFG=>have hK:Know Inv F.G:=hFG ▸ hG;(q02 (c:=(q00 Tryz.f41)) (fun j L h1 h2 h3=>by
  have h2':j<1:=Nat.lt_of_lt_of_le h2 (by decide +kernel)
  match j,h1,h2',h3 with
  | 0,_,_,h3=>obtain rfl:=Option.some.inj h3;exact (show q01 0 0 (q00 Tryz.f41)=q01 0 0 (q00 Tryz.f41) by kernel_rfl) ▸ qdk n hF hK
  | j+1,_,h2',_=>exact absurd h2' (by omega)))) qa2 ((qnn n a).symm.trans h)⟩,rfl⟩
def qzf (n:Nat):List LC:=[]
def qk6 (n:Nat) (a1:Yy):Option (List (Yy)) :=
 (q0k n a1 (10:Int)).bind fun r1=>q04 (IntKind.wrap .i64 ((r1.length:Int) - (1:Int))) fun (n2:Int)=>(q0n r1 n2).bind fun x3=>(bif decide (x3=([]:Yy)) then q04 (IntKind.wrap .i64 ((r1.length:Int) - (1:Int))) fun (n4:Int)=>(q1d r1 (0:Int) n4).bind fun s5=>some s5 else some r1)
def q9k (n:Nat):FC:={ f:=21,args:=[.one (.c (.d .str))],res:=.one (.c (.d (.lst .str))),F:=fun p=>qk6 n p }
def jbz (n:Nat):List FC:=[q0u n]
theorem jh1 (n:Nat) {G:World->Prop} (hG:Know Inv G) : ∀c∈jbz n,q0p Tryz.prog G c/\q07 c.args=true:=List.forall_mem_cons.2 ⟨q3i n G hG,(fun _ h=>by cases h)⟩
def jb6:q06:=[]
theorem jrq:drB jb6 (q00 Tryz.f21)=true:=by kernel_rfl
theorem jpu (n:Nat) : ∀a,(q9k n).F a=main Tryz.prog 19 (jbz n) (qzf n) jb6 (q00 Tryz.f21) [.tmp 2] (q9k n).args (q9k n).res a:=by intro a;kernel_rfl
theorem j9b (n:Nat):q09 Inv Tryz.prog (q9k n):=fun G hG=>⟨⟨by kernel_rfl,fun a r h=>q03 (c:=q00 Tryz.f21) Tryz.func21 (by kernel_rfl) (by kernel_rfl) (Nat.le_of_ble_eq_true (by kernel_rfl)) hG.st (by kernel_rfl) (rs:=[.tmp 2]) (by kernel_rfl) (jh1 n hG) (lts:=qzf n) (fun F hF hFG=>have hK:Know Inv F.G:=hFG ▸ hG;(q02 fun j L h1 h2 h3=>absurd h2 (Nat.not_lt.2 (Nat.le_trans (by decide +kernel) h1)))) jrq ((jpu n a).symm.trans h)⟩,rfl⟩
@[reducible] def qen:SSt:=⟨[(5,.one (.c (.row 33))),(6,.one (.c (.d (.lst .str)))),(7,.one (.c (.d (.int .i64))))],[],[(33,⟨53,true,(.prod (.lst (.prod .str (.int .i64))) .str)⟩)]⟩
@[reducible] def q83:List (Exit×SSt):=[(.ret,⟨[(2,.one (.c (.nil))),(3,.one (.c (.d (.int .i64)))),(4,.one (.c (.d (.int .i64))))],[],[]⟩),(.exit 0,⟨[(5,.one (.c (.row 33))),(6,.one (.c (.d (.lst .str))))],[],[(33,⟨53,true,(.prod (.lst (.prod .str (.int .i64))) .str)⟩)]⟩)]
def qt7 (n:Nat) (rec:(List (Yy))->Int->(List (List (Yy×(Int))×Yy))->Option (((Unit×(Int×(Int×Unit)))×Unit×Unit)⊕((Unit×((List (Yy))×Unit))×Unit×((List (List (Yy×(Int))×Yy))×Unit)))) (a1:List (Yy)) (a2:Int) (a3:List (List (Yy×(Int))×Yy)):Option (((Unit×(Int×(Int×Unit)))×Unit×Unit)⊕((Unit×((List (Yy))×Unit))×Unit×((List (List (Yy×(Int))×Yy))×Unit))) :=
 (bif decide (a2<(a1.length:Int)) then (q0n a1 a2).bind fun x2=>(qdu n x2).bind fun r3=>(bif !decide (r3.2=0) then some (Sum.inl (((),(a2,(r3.2,()))),((),()))) else (q2g 40 a3 ([r3.1]:List (List (Yy×(Int))×Yy))).bind fun l4=>q04 (IntKind.wrap .i64 (a2+1)) fun n5=>rec a1 n5 l4) else some (Sum.inr ((((),(a1,())),((),(a3,()))))))
def qtt (n:Nat) (rec:pSt qen->Option (q0f q83)) (p:pSt qen):Option (q0f q83):=qt7 n (fun a1 a2 a3=>rec (((),(a1,(a2,()))),((),(a3,())))) p.1.2.1 p.1.2.2.1 p.2.2.1
def q8j (n m:Nat) (a1:List (Yy)) (a2:Int) (a3:List (List (Yy×(Int))×Yy)):Option (((Unit×(Int×(Int×Unit)))×Unit×Unit)⊕((Unit×((List (Yy))×Unit))×Unit×((List (List (Yy×(Int))×Yy))×Unit))):=q0g (qtt n) m (((),(a1,(a2,()))),((),(a3,())))
theorem qne (n m:Nat) (a1 a2 a3):q8j n (m+1) a1 a2 a3=qt7 n (fun a1 a2 a3=>q8j n m a1 a2 a3) a1 a2 a3:=rfl
def jbe (n:Nat):LC:={ sh:=qen,outs:=q83,F:=q0g (qtt n) n }
def qlj (n:Nat):List LC:=[jbe n]
def qpu (n:Nat) (a1:Yy):Option ((List (List (Yy×(Int))×Yy))×(Int×(Int))) :=
 (qk6 n a1).bind fun r1=>(q8j n n r1 (0:Int) []).bind fun o6=>Sum.elim (fun (q7:(Unit×(Int×(Int×Unit)))×Unit×Unit)=>some ([],(q7.1.2.1,q7.1.2.2.1))) (fun (q8:(Unit×((List (Yy))×Unit))×Unit×((List (List (Yy×(Int))×Yy))×Unit))=>some (q8.2.2.1,((q8.1.2.1.length:Int),(0:Int)))) o6
def qdl (n:Nat):FC:={ f:=77,args:=[.one (.c (.d .str))],res:=.tup [.c (.d (.lst (.prod (.lst (.prod .str (.int .i64))) .str))),.c (.d (.int .i64)),.c (.d (.int .i64))],F:=fun p=>qpu n p }
def qsb (n:Nat):List FC:=[q9k n,q76 n]
theorem quj (n:Nat) {G:World->Prop} (hG:Know Inv G) : ∀c∈qsb n,q0p Tryz.prog G c/\q07 c.args=true:=List.forall_mem_cons.2 ⟨j9b n G hG,List.forall_mem_cons.2 ⟨jf7 n G hG,(fun _ h=>by cases h)⟩⟩
def qtj:q06:=[]
theorem j6w:drB qtj (q00 Tryz.f77)=true:=by kernel_rfl
theorem jm3 (n:Nat) : ∀rec p,qtt n rec p=round Tryz.prog 37 (qsb n) (qlj n) qtj 1 qen q83 (q01 0 0 (q00 Tryz.f77)) rec p:=by intro rec p;kernel_rfl
theorem jdi (n:Nat) {F:Fr} (hF:F.n=37) (hK:Know Inv F.G):q75 Tryz.prog F (jbe n) (q01 0 0 (q00 Tryz.f77)) :=
 q0i hF (by kernel_rfl) (quj n hK) (jm3 n) (fuel:=n) (fun _=>rfl) (q02 fun j L h1 h2 h3=>absurd h2 (Nat.not_lt.2 (Nat.le_trans (by decide +kernel) h1))) (q0t j6w)
theorem jvd (n:Nat) : ∀a,(qdl n).F a=main Tryz.prog 37 (qsb n) (qlj n) qtj (q00 Tryz.f77) [.tmp 2,.tmp 3,.tmp 4] (qdl n).args (qdl n).res a:=by intro a;kernel_rfl
theorem jre (n:Nat):q09 Inv Tryz.prog (qdl n):=fun G hG=>⟨⟨by kernel_rfl,fun a r h=>q03 (c:=q00 Tryz.f77) Tryz.func77 (by kernel_rfl) (by kernel_rfl) (Nat.le_of_ble_eq_true (by kernel_rfl)) hG.st (by kernel_rfl) (rs:=[.tmp 2,.tmp 3,.tmp 4]) (by kernel_rfl) (quj n hG) (lts:=qlj n) (fun F hF hFG=>have hK:Know Inv F.G:=hFG ▸ hG;(q02 (c:=(q00 Tryz.f77)) (fun j L h1 h2 h3=>by
  have h2':j<1:=Nat.lt_of_lt_of_le h2 (by decide +kernel)
  match j,h1,h2',h3 with
  | 0,_,_,h3=>obtain rfl:=Option.some.inj h3;exact (show q01 0 0 (q00 Tryz.f77)=q01 0 0 (q00 Tryz.f77) by kernel_rfl) ▸ jdi n hF hK
  | j+1,_,h2',_=>exact absurd h2' (by omega)))) j6w ((jvd n a).symm.trans h)⟩,rfl⟩
end Go.Proofs.YtapfankgdkdkgaaGreatDoor.AM.Lx
