
import Derived.Test.YtcdjkibiggjdoaaGreatDoorLp16
import Derived.Test.YtcdjkibiggjdoaaGreatDoorLp17
import Derived.Test.YtcdjkibiggjdoaaGreatDoorLp11
import Derived.Test.YtcdjkibiggjdoaaGreatDoorLp12
namespace Go.Proofs.YtcdjkibiggjdoaaGreatDoor.AM
open Go.RowKit
set_option linter.unusedVariables false
set_option maxRecDepth 20000
def qpr (n:Nat):List LC:=[]
def q7j (n:Nat) (a1:List UInt8):Option (Bool) :=
  (bif decide (((List.length a1:Nat):Int)<(3:Int)) then some false else (q7n a1 (0:Int) (3:Int)).bind fun (s1:List UInt8)=>(bif !decide (s1=([104,49,58]:List UInt8)) then some false else (q7n a1 (3:Int) ((List.length a1:Nat):Int)).bind fun (s2:List UInt8)=>(Bs.qba n s2).bind fun (r3:(List UInt8)×(Bool))=>(bif r3.2 then some (decide (((List.length r3.1:Nat):Int)=(32:Int))) else some false)))
def q6v (n:Nat):FC:={ f:=21,args:=[.one (.c (.d .str))],res:=.one (.c (.d .bool)),F:=fun p=>q7j n p }
def qwn (n:Nat):List FC:=[Bs.q5m n]
theorem j5r (n:Nat) {G:World->Prop} (hG:Know Inv G) : ∀c∈qwn n,q1b Tryz.prog G c/\q0e c.args=true:=List.forall_mem_cons.2 ⟨Bs.j3r n G hG,(fun _ h=>by cases h)⟩
def qxt:q0c:=[]
theorem jhc:drB qxt (q00 Tryz.f21)=true:=by kernel_rfl
theorem jg4 (n:Nat) : ∀a,(q6v n).F a=main Tryz.prog 25 (qwn n) (qpr n) qxt (q00 Tryz.f21) [.tmp 2] (q6v n).args (q6v n).res a:=by intro a;kernel_rfl
theorem qxc (n:Nat):q0a Inv Tryz.prog (q6v n):=fun G hG=>⟨⟨by kernel_rfl,fun a r h=>q03 (c:=q00 Tryz.f21) Tryz.func21 (by kernel_rfl) (by kernel_rfl) (Nat.le_of_ble_eq_true (by kernel_rfl)) hG.st (by kernel_rfl) (rs:=[.tmp 2]) (by kernel_rfl) (j5r n hG) (lts:=qpr n) (fun F hF hFG=>have hK:Know Inv F.G:=hFG ▸ hG;(q02 fun j L h1 h2 h3=>absurd h2 (Nat.not_lt.2 (Nat.le_trans (by decide +kernel) h1)))) jhc ((jg4 n a).symm.trans h)⟩,rfl⟩
@[reducible] def qep:SSt:=⟨[(0,.one (.c (.d (.lst (.prod .str (.prod (.int .i64) (.prod (.int .i64) (.prod (.int .i64) (.prod .str (.prod .str .str)))))))))),(3,.one (.c (.d (.int .i64))))],[],[]⟩
@[reducible] def q81:List (Exit×SSt):=[(.ret,⟨[(2,.one (.c (.d .bool)))],[],[]⟩),(.exit 0,⟨[(0,.one (.c (.d (.lst (.prod .str (.prod (.int .i64) (.prod (.int .i64) (.prod (.int .i64) (.prod .str (.prod .str .str))))))))))],[],[]⟩)]
def qu1 (n:Nat) (rec:(List (List UInt8×((Int)×((Int)×((Int)×(List UInt8×(List UInt8×(List UInt8))))))))->Int->Option (((Bool×(Unit))×(Unit)×(Unit))⊕(((List (List UInt8×((Int)×((Int)×((Int)×(List UInt8×(List UInt8×(List UInt8))))))))×(Unit))×(Unit)×(Unit)))) (a1:List (List UInt8×((Int)×((Int)×((Int)×(List UInt8×(List UInt8×(List UInt8)))))))) (a2:Int):Option (((Bool×(Unit))×(Unit)×(Unit))⊕(((List (List UInt8×((Int)×((Int)×((Int)×(List UInt8×(List UInt8×(List UInt8))))))))×(Unit))×(Unit)×(Unit))) :=
  (bif decide (a2<((List.length a1:Nat):Int)) then (q1a a1 a2).bind fun (x1:List UInt8×((Int)×((Int)×((Int)×(List UInt8×(List UInt8×(List UInt8)))))))=>(bif decide ((200:Int)<((List.length x1.1:Nat):Int)) then some (Sum.inl ((false,()),((),()))) else (q1a a1 a2).bind fun (x2:List UInt8×((Int)×((Int)×((Int)×(List UInt8×(List UInt8×(List UInt8)))))))=>(bif decide ((200:Int)<((List.length x2.2.2.2.2.2.2:Nat):Int)) then some (Sum.inl ((false,()),((),()))) else (q1a a1 a2).bind fun (x3:List UInt8×((Int)×((Int)×((Int)×(List UInt8×(List UInt8×(List UInt8)))))))=>(bif decide ((200:Int)<((List.length x3.2.2.2.2.1:Nat):Int)) then some (Sum.inl ((false,()),((),()))) else (q1a a1 a2).bind fun (x4:List UInt8×((Int)×((Int)×((Int)×(List UInt8×(List UInt8×(List UInt8)))))))=>(bif decide ((200:Int)<((List.length x4.2.2.2.2.2.1:Nat):Int)) then some (Sum.inl ((false,()),((),()))) else q0b (IntKind.wrap .i64 (a2+(1:Int))) fun (n5:Int)=>rec a1 n5)))) else some (Sum.inr (((a1,()),((),())))))
def qug (n:Nat) (rec:pSt qep->Option (q0f q81)) (p:pSt qep):Option (q0f q81):=qu1 n (fun a1 a2=>rec ((a1,(a2,())),((),()))) p.1.1 p.1.2.1
def q5d (n m:Nat) (a1:List (List UInt8×((Int)×((Int)×((Int)×(List UInt8×(List UInt8×(List UInt8)))))))) (a2:Int):Option (((Bool×(Unit))×(Unit)×(Unit))⊕(((List (List UInt8×((Int)×((Int)×((Int)×(List UInt8×(List UInt8×(List UInt8))))))))×(Unit))×(Unit)×(Unit))):=q0g (qug n) m ((a1,(a2,())),((),()))
theorem qle (n m:Nat) (a1:List (List UInt8×((Int)×((Int)×((Int)×(List UInt8×(List UInt8×(List UInt8)))))))) (a2:Int):q5d n (m+1) a1 a2=qu1 n (fun a1 a2=>q5d n m a1 a2) a1 a2:=rfl
def j55 (n:Nat):LC:={ sh:=qep,outs:=q81,F:=q0g (qug n) n }
def ql7 (n:Nat):List LC:=[j55 n]
def q4x (n:Nat) (a1:List (List UInt8×((Int)×((Int)×((Int)×(List UInt8×(List UInt8×(List UInt8)))))))):Option (Bool) :=
  (q5d n n a1 (0:Int)).bind fun (o6:((Bool×(Unit))×(Unit)×(Unit))⊕(((List (List UInt8×((Int)×((Int)×((Int)×(List UInt8×(List UInt8×(List UInt8))))))))×(Unit))×(Unit)×(Unit)))=>Sum.elim (fun (q7:(Bool×(Unit))×(Unit)×(Unit))=>some q7.1.1) (fun (q8:((List (List UInt8×((Int)×((Int)×((Int)×(List UInt8×(List UInt8×(List UInt8))))))))×(Unit))×(Unit)×(Unit))=>some (decide (((List.length q8.1.1:Nat):Int)<=(60:Int)))) o6
def q7c (n:Nat):FC:={ f:=13,args:=[.one (.c (.d (.lst (.prod .str (.prod (.int .i64) (.prod (.int .i64) (.prod (.int .i64) (.prod .str (.prod .str .str)))))))))],res:=.one (.c (.d .bool)),F:=fun p=>q4x n p }
def qsr (n:Nat):List FC:=[]
theorem qr5 (n:Nat) {G:World->Prop} (hG:Know Inv G) : ∀c∈qsr n,q1b Tryz.prog G c/\q0e c.args=true:=(fun _ h=>by cases h)
def qso:q0c:=[]
theorem j53:drB qso (q00 Tryz.f13)=true:=by kernel_rfl
theorem jfs (n:Nat) : ∀rec p,qug n rec p=round Tryz.prog 49 (qsr n) (ql7 n) qso 1 qep q81 (q01 0 0 (q00 Tryz.f13)) rec p:=by intro rec p;kernel_rfl
theorem jam (n:Nat) {F:Fr} (hF:F.n=49) (hK:Know Inv F.G):q71 Tryz.prog F (j55 n) (q01 0 0 (q00 Tryz.f13)) :=
  q0h hF (by kernel_rfl) (qr5 n hK) (jfs n) (fuel:=n) (fun _=>rfl) (q02 fun j L h1 h2 h3=>absurd h2 (Nat.not_lt.2 (Nat.le_trans (by decide +kernel) h1))) (q0r j53)
theorem jm7 (n:Nat) : ∀a,(q7c n).F a=main Tryz.prog 49 (qsr n) (ql7 n) qso (q00 Tryz.f13) [.tmp 2] (q7c n).args (q7c n).res a:=by intro a;kernel_rfl
theorem qtc (n:Nat):q0a Inv Tryz.prog (q7c n):=fun G hG=>⟨⟨by kernel_rfl,fun a r h=>q03 (c:=q00 Tryz.f13) Tryz.func13 (by kernel_rfl) (by kernel_rfl) (Nat.le_of_ble_eq_true (by kernel_rfl)) hG.st (by kernel_rfl) (rs:=[.tmp 2]) (by kernel_rfl) (qr5 n hG) (lts:=ql7 n) (fun F hF hFG=>have hK:Know Inv F.G:=hFG ▸ hG;(q02 (c:=(q00 Tryz.f13)) (fun j L h1 h2 h3=>by
    have h2':j<1:=Nat.lt_of_lt_of_le h2 (by decide +kernel)
    match j,h1,h2',h3 with
    | 0,_,_,h3=>obtain rfl:=Option.some.inj h3;exact (show q01 0 0 (q00 Tryz.f13)=q01 0 0 (q00 Tryz.f13) by kernel_rfl) ▸ jam n hF hK
    | j+1,_,h2',_=>exact absurd h2' (by omega)))) j53 ((jm7 n a).symm.trans h)⟩,rfl⟩
@[reducible] def qad:SSt:=⟨[(0,.one (.c (.d (.lst (.prod .str (.prod (.int .i64) (.prod (.int .i64) (.prod (.int .i64) (.prod .str (.prod .str .str)))))))))),(1,.one (.c (.d (.lst (.prod .str (.prod (.int .i64) (.prod (.int .i64) (.prod (.int .i64) (.prod .str (.prod .str .str)))))))))),(5,.one (.c (.d (.int .i64))))],[],[]⟩
@[reducible] def q62:List (Exit×SSt):=[(.ret,⟨[(4,.one (.c (.d .bool)))],[],[]⟩),(.exit 0,⟨[],[],[]⟩)]
def qm6 (n:Nat) (rec:(List (List UInt8×((Int)×((Int)×((Int)×(List UInt8×(List UInt8×(List UInt8))))))))->(List (List UInt8×((Int)×((Int)×((Int)×(List UInt8×(List UInt8×(List UInt8))))))))->Int->Option (((Bool×(Unit))×(Unit)×(Unit))⊕((Unit)×(Unit)×(Unit)))) (a1:List (List UInt8×((Int)×((Int)×((Int)×(List UInt8×(List UInt8×(List UInt8)))))))) (a2:List (List UInt8×((Int)×((Int)×((Int)×(List UInt8×(List UInt8×(List UInt8)))))))) (a3:Int):Option (((Bool×(Unit))×(Unit)×(Unit))⊕((Unit)×(Unit)×(Unit))) :=
  (bif decide (a3<((List.length a1:Nat):Int)) then (q1a a1 a3).bind fun (x1:List UInt8×((Int)×((Int)×((Int)×(List UInt8×(List UInt8×(List UInt8)))))))=>(q1a a2 a3).bind fun (x2:List UInt8×((Int)×((Int)×((Int)×(List UInt8×(List UInt8×(List UInt8)))))))=>(bif !(decide (x1.1=x2.1)&&((decide (x1.2.1=x2.2.1)&&(decide (x1.2.2.1=x2.2.2.1)&&(decide (x1.2.2.2.1=x2.2.2.2.1)&&(decide (x1.2.2.2.2.1=x2.2.2.2.2.1)&&(decide (x1.2.2.2.2.2.1=x2.2.2.2.2.2.1)&&true)))))&&(decide (x1.2.2.2.2.2.2=x2.2.2.2.2.2.2)&&true))) then some (Sum.inl ((false,()),((),()))) else q0b (IntKind.wrap .i64 (a3+(1:Int))) fun (n3:Int)=>rec a1 a2 n3) else some (Sum.inr (((),((),())))))
def qkf (n:Nat) (rec:pSt qad->Option (q0f q62)) (p:pSt qad):Option (q0f q62):=qm6 n (fun a1 a2 a3=>rec ((a1,(a2,(a3,()))),((),()))) p.1.1 p.1.2.1 p.1.2.2.1
def q4a (n m:Nat) (a1:List (List UInt8×((Int)×((Int)×((Int)×(List UInt8×(List UInt8×(List UInt8)))))))) (a2:List (List UInt8×((Int)×((Int)×((Int)×(List UInt8×(List UInt8×(List UInt8)))))))) (a3:Int):Option (((Bool×(Unit))×(Unit)×(Unit))⊕((Unit)×(Unit)×(Unit))):=q0g (qkf n) m ((a1,(a2,(a3,()))),((),()))
theorem qjb (n m:Nat) (a1:List (List UInt8×((Int)×((Int)×((Int)×(List UInt8×(List UInt8×(List UInt8)))))))) (a2:List (List UInt8×((Int)×((Int)×((Int)×(List UInt8×(List UInt8×(List UInt8)))))))) (a3:Int):q4a n (m+1) a1 a2 a3=qm6 n (fun a1 a2 a3=>q4a n m a1 a2 a3) a1 a2 a3:=rfl
def qwd (n:Nat):LC:={ sh:=qad,outs:=q62,F:=q0g (qkf n) n }
def qge (n:Nat):List LC:=[qwd n]
def q7l (n:Nat) (a1:List (List UInt8×((Int)×((Int)×((Int)×(List UInt8×(List UInt8×(List UInt8)))))))) (a2:List (List UInt8×((Int)×((Int)×((Int)×(List UInt8×(List UInt8×(List UInt8)))))))):Option (Bool) :=
  (bif !decide (((List.length a1:Nat):Int)=((List.length a2:Nat):Int)) then some false else (q4a n n a1 a2 (0:Int)).bind fun (o4:((Bool×(Unit))×(Unit)×(Unit))⊕((Unit)×(Unit)×(Unit)))=>Sum.elim (fun (q5:(Bool×(Unit))×(Unit)×(Unit))=>some q5.1.1) (fun (q6:(Unit)×(Unit)×(Unit))=>some true) o4)
def q4o (n:Nat):FC:={ f:=12,args:=[.one (.c (.d (.lst (.prod .str (.prod (.int .i64) (.prod (.int .i64) (.prod (.int .i64) (.prod .str (.prod .str .str))))))))),.one (.c (.d (.lst (.prod .str (.prod (.int .i64) (.prod (.int .i64) (.prod (.int .i64) (.prod .str (.prod .str .str)))))))))],res:=.one (.c (.d .bool)),F:=fun p=>q7l n p.1 p.2 }
def qjx (n:Nat):List FC:=[]
theorem qnr (n:Nat) {G:World->Prop} (hG:Know Inv G) : ∀c∈qjx n,q1b Tryz.prog G c/\q0e c.args=true:=(fun _ h=>by cases h)
def qki:q0c:=[(6,[⟨13510798882111489,2^51,0⟩,⟨108086391056924672,2^54,0⟩,⟨393*2^51,2^57,3⟩,⟨49*2^57,2^60,7⟩,⟨55340232221128654856,2^63,0⟩,⟨442721857769029271552,2^66,0⟩,⟨393*2^63,2^69,48⟩,⟨49*2^69,2^72,112⟩,⟨200705*2^60,2^75,255⟩])]
theorem qxw:drB qki (q00 Tryz.f12)=true:=by kernel_rfl
theorem j8f (n:Nat) : ∀rec p,qkf n rec p=round Tryz.prog 26 (qjx n) (qge n) qki 1 qad q62 (q01 0 0 (q00 Tryz.f12)) rec p:=by intro rec p;kernel_rfl
theorem j5u (n:Nat) {F:Fr} (hF:F.n=26) (hK:Know Inv F.G):q71 Tryz.prog F (qwd n) (q01 0 0 (q00 Tryz.f12)) :=
  q0h hF (by kernel_rfl) (qnr n hK) (j8f n) (fuel:=n) (fun _=>rfl) (q02 fun j L h1 h2 h3=>absurd h2 (Nat.not_lt.2 (Nat.le_trans (by decide +kernel) h1))) (q0r qxw)
theorem jgq (n:Nat) : ∀a,(q4o n).F a=main Tryz.prog 26 (qjx n) (qge n) qki (q00 Tryz.f12) [.tmp 4] (q4o n).args (q4o n).res a:=by intro a;kernel_rfl
theorem qm5 (n:Nat):q0a Inv Tryz.prog (q4o n):=fun G hG=>⟨⟨by kernel_rfl,fun a r h=>q03 (c:=q00 Tryz.f12) Tryz.func12 (by kernel_rfl) (by kernel_rfl) (Nat.le_of_ble_eq_true (by kernel_rfl)) hG.st (by kernel_rfl) (rs:=[.tmp 4]) (by kernel_rfl) (qnr n hG) (lts:=qge n) (fun F hF hFG=>have hK:Know Inv F.G:=hFG ▸ hG;(q02 (c:=(q00 Tryz.f12)) (fun j L h1 h2 h3=>by
    have h2':j<1:=Nat.lt_of_lt_of_le h2 (by decide +kernel)
    match j,h1,h2',h3 with
    | 0,_,_,h3=>obtain rfl:=Option.some.inj h3;exact (show q01 0 0 (q00 Tryz.f12)=q01 0 0 (q00 Tryz.f12) by kernel_rfl) ▸ j5u n hF hK
    | j+1,_,h2',_=>exact absurd h2' (by omega)))) qxw ((jgq n a).symm.trans h)⟩,rfl⟩
@[reducible] def q8p:SSt:=⟨[(0,.one (.c (.d (.lst (.prod .str (.prod (.int .i64) (.prod (.int .i64) (.prod (.int .i64) (.prod .str (.prod .str .str)))))))))),(3,.one (.c (.box 3 0))),(5,.one (.c (.d (.int .i64))))],[(3,(32,[.d .str,.d (.int .i64),.d (.int .i64),.d (.int .i64),.d .str,.d .str,.d .str]))],[]⟩
@[reducible] def q4z:List (Exit×SSt):=[(.ret,⟨[(4,.one (.c (.d (.int .i64))))],[],[]⟩),(.exit 0,⟨[],[],[]⟩)]
def qgw (n:Nat) (rec:(List (List UInt8×((Int)×((Int)×((Int)×(List UInt8×(List UInt8×(List UInt8))))))))->Int->(List UInt8)->Int->Int->Int->(List UInt8)->(List UInt8)->(List UInt8)->Option (((Int×(Unit))×(Unit)×(Unit))⊕((Unit)×(Unit)×(Unit)))) (a1:List (List UInt8×((Int)×((Int)×((Int)×(List UInt8×(List UInt8×(List UInt8)))))))) (a2:Int) (a3:List UInt8) (a4:Int) (a5:Int) (a6:Int) (a7:List UInt8) (a8:List UInt8) (a9:List UInt8):Option (((Int×(Unit))×(Unit)×(Unit))⊕((Unit)×(Unit)×(Unit))) :=
  (bif decide (a2<((List.length a1:Nat):Int)) then (q1a a1 a2).bind fun (x5:List UInt8×((Int)×((Int)×((Int)×(List UInt8×(List UInt8×(List UInt8)))))))=>(bif decide (x5.1=a3) then (q1a a1 a2).bind fun (x6:List UInt8×((Int)×((Int)×((Int)×(List UInt8×(List UInt8×(List UInt8)))))))=>(q2u n (x6.2.1,(x6.2.2.1,(x6.2.2.2.1,(x6.2.2.2.2.1,x6.2.2.2.2.2.1)))) (a4,(a5,(a6,(a7,a8))))).bind fun (r7:Int)=>(bif decide ((0:Int)<=r7) then some (Sum.inl (((13:Int),()),((),()))) else q0b (IntKind.wrap .i64 (a2+(1:Int))) fun (n8:Int)=>rec a1 n8 a3 a4 a5 a6 a7 a8 a9) else q0b (IntKind.wrap .i64 (a2+(1:Int))) fun (n9:Int)=>rec a1 n9 a3 a4 a5 a6 a7 a8 a9) else some (Sum.inr (((),((),())))))
def qg9 (n:Nat) (rec:pSt q8p->Option (q0f q4z)) (p:pSt q8p):Option (q0f q4z):=qgw n (fun a1 a2 a3 a4 a5 a6 a7 a8 a9=>rec ((a1,((),(a2,()))),(((a3,(a4,(a5,(a6,(a7,(a8,a9)))))),()),()))) p.1.1 p.1.2.2.1 p.2.1.1.1 p.2.1.1.2.1 p.2.1.1.2.2.1 p.2.1.1.2.2.2.1 p.2.1.1.2.2.2.2.1 p.2.1.1.2.2.2.2.2.1 p.2.1.1.2.2.2.2.2.2
def q2e (n m:Nat) (a1:List (List UInt8×((Int)×((Int)×((Int)×(List UInt8×(List UInt8×(List UInt8)))))))) (a2:Int) (a3:List UInt8) (a4:Int) (a5:Int) (a6:Int) (a7:List UInt8) (a8:List UInt8) (a9:List UInt8):Option (((Int×(Unit))×(Unit)×(Unit))⊕((Unit)×(Unit)×(Unit))):=q0g (qg9 n) m ((a1,((),(a2,()))),(((a3,(a4,(a5,(a6,(a7,(a8,a9)))))),()),()))
theorem qfw (n m:Nat) (a1:List (List UInt8×((Int)×((Int)×((Int)×(List UInt8×(List UInt8×(List UInt8)))))))) (a2:Int) (a3:List UInt8) (a4:Int) (a5:Int) (a6:Int) (a7:List UInt8) (a8:List UInt8) (a9:List UInt8):q2e n (m+1) a1 a2 a3 a4 a5 a6 a7 a8 a9=qgw n (fun a1 a2 a3 a4 a5 a6 a7 a8 a9=>q2e n m a1 a2 a3 a4 a5 a6 a7 a8 a9) a1 a2 a3 a4 a5 a6 a7 a8 a9:=rfl
def qpg (n:Nat):LC:={ sh:=q8p,outs:=q4z,F:=q0g (qg9 n) n }
def qcb (n:Nat):List LC:=[qpg n]
def q9k (n:Nat) (a1:List (List UInt8×((Int)×((Int)×((Int)×(List UInt8×(List UInt8×(List UInt8)))))))) (a2:(List UInt8)×(Int×(Int×(Int×((List UInt8)×((List UInt8)×(List UInt8))))))):Option (Int) :=
  (qbq n a2.1).bind fun (r1:Bool)=>(bif !r1 then some (6:Int) else (q66 n (a2.2.1,(a2.2.2.1,(a2.2.2.2.1,(a2.2.2.2.2.1,a2.2.2.2.2.2.1))))).bind fun (r2:Bool)=>(bif !r2 then some (7:Int) else (qb9 n a2.1 (a2.2.1,(a2.2.2.1,(a2.2.2.2.1,(a2.2.2.2.2.1,a2.2.2.2.2.2.1))))).bind fun (r3:Bool)=>(bif !r3 then some (8:Int) else (q7j n a2.2.2.2.2.2.2).bind fun (r4:Bool)=>(bif !r4 then some (4:Int) else (q2e n n a1 (0:Int) a2.1 a2.2.1 a2.2.2.1 a2.2.2.2.1 a2.2.2.2.2.1 a2.2.2.2.2.2.1 a2.2.2.2.2.2.2).bind fun (o10:((Int×(Unit))×(Unit)×(Unit))⊕((Unit)×(Unit)×(Unit)))=>Sum.elim (fun (q11:(Int×(Unit))×(Unit)×(Unit))=>some q11.1.1) (fun (q12:(Unit)×(Unit)×(Unit))=>some (0:Int)) o10))))
def q4k (n:Nat):FC:={ f:=30,args:=[.one (.c (.d (.lst (.prod .str (.prod (.int .i64) (.prod (.int .i64) (.prod (.int .i64) (.prod .str (.prod .str .str))))))))),.one (.agg [.d .str,.d (.int .i64),.d (.int .i64),.d (.int .i64),.d .str,.d .str,.d .str])],res:=.one (.c (.d (.int .i64))),F:=fun p=>q9k n p.1 p.2 }
def qgd (n:Nat):List FC:=[q6x n,q5e n,q8z n,q6v n,q3d n]
theorem qhf (n:Nat) {G:World->Prop} (hG:Know Inv G) : ∀c∈qgd n,q1b Tryz.prog G c/\q0e c.args=true:=List.forall_mem_cons.2 ⟨qxh n G hG,List.forall_mem_cons.2 ⟨qh5 n G hG,List.forall_mem_cons.2 ⟨j57 n G hG,List.forall_mem_cons.2 ⟨qxc n G hG,List.forall_mem_cons.2 ⟨qg5 n G hG,(fun _ h=>by cases h)⟩⟩⟩⟩⟩
def qg2:q0c:=[(12,[⟨7427640235712281649394745345,2^90,0⟩,⟨59421121885698253195157995520,2^93,0⟩,⟨393*2^90,2^96,3⟩,⟨49*2^96,2^99,7⟩,⟨49*2^99,2^102,15⟩,⟨243388915243820045087367015433728,2^105,0⟩,⟨1987676141157863701546830626030592,2^108,32⟩,⟨3137*2^102,2^111,127⟩,⟨49*2^111,2^114,255⟩,⟨1017690184272826215191977280527138817,2^117,511⟩,⟨7996137162143634547936964346998980608,2^120,511⟩,⟨3145*2^114,2^123,2047⟩,⟨25089*2^114,2^126,4095⟩,⟨200705*2^114,2^129,8191⟩,⟨32667127993597526631794476435435065181696,2^132,511⟩,⟨266781396435203189494596206348491594662912,2^135,16895⟩,⟨102793217*2^114,2^138,65535⟩,⟨822083585*2^114,2^141,131071⟩,⟨6576668673*2^114,2^144,262143⟩]),(1000012,[])]
theorem qt7:drB qg2 (q00 Tryz.f30)=true:=by kernel_rfl
theorem j7q (n:Nat) : ∀rec p,qg9 n rec p=round Tryz.prog 49 (qgd n) (qcb n) qg2 1 q8p q4z (q01 0 0 (q00 Tryz.f30)) rec p:=by intro rec p;kernel_rfl
theorem j1z (n:Nat) {F:Fr} (hF:F.n=49) (hK:Know Inv F.G):q71 Tryz.prog F (qpg n) (q01 0 0 (q00 Tryz.f30)) :=
  q0h hF (by kernel_rfl) (qhf n hK) (j7q n) (fuel:=n) (fun _=>rfl) (q02 fun j L h1 h2 h3=>absurd h2 (Nat.not_lt.2 (Nat.le_trans (by decide +kernel) h1))) (q0r qt7)
theorem j9s (n:Nat) : ∀a,(q4k n).F a=main Tryz.prog 49 (qgd n) (qcb n) qg2 (q00 Tryz.f30) [.tmp 4] (q4k n).args (q4k n).res a:=by intro a;kernel_rfl
theorem qt2 (n:Nat):q0a Inv Tryz.prog (q4k n):=fun G hG=>⟨⟨by kernel_rfl,fun a r h=>q03 (c:=q00 Tryz.f30) Tryz.func30 (by kernel_rfl) (by kernel_rfl) (Nat.le_of_ble_eq_true (by kernel_rfl)) hG.st (by kernel_rfl) (rs:=[.tmp 4]) (by kernel_rfl) (qhf n hG) (lts:=qcb n) (fun F hF hFG=>have hK:Know Inv F.G:=hFG ▸ hG;(q02 (c:=(q00 Tryz.f30)) (fun j L h1 h2 h3=>by
    have h2':j<1:=Nat.lt_of_lt_of_le h2 (by decide +kernel)
    match j,h1,h2',h3 with
    | 0,_,_,h3=>obtain rfl:=Option.some.inj h3;exact (show q01 0 0 (q00 Tryz.f30)=q01 0 0 (q00 Tryz.f30) by kernel_rfl) ▸ j1z n hF hK
    | j+1,_,h2',_=>exact absurd h2' (by omega)))) qt7 ((j9s n a).symm.trans h)⟩,rfl⟩
@[reducible] def q60:SSt:=⟨[(0,.one (.c (.d (.lst (.prod .str (.prod (.int .i64) (.prod (.int .i64) (.prod (.int .i64) (.prod .str (.prod .str .str)))))))))),(1,.one (.c (.d .str))),(4,.one (.c (.box 4 0))),(6,.one (.c (.box 6 0))),(7,.one (.c (.d .bool))),(8,.one (.c (.d (.int .i64))))],[(4,(32,[.d .str,.d (.int .i64),.d (.int .i64),.d (.int .i64),.d .str,.d .str,.d .str])),(6,(32,[.d .str,.d (.int .i64),.d (.int .i64),.d (.int .i64),.d .str,.d .str,.d .str]))],[]⟩
@[reducible] def q3z:List (Exit×SSt):=[(.exit 0,⟨[(4,.one (.c (.box 4 0))),(6,.one (.c (.box 6 0))),(7,.one (.c (.d .bool)))],[(4,(32,[.d .str,.d (.int .i64),.d (.int .i64),.d (.int .i64),.d .str,.d .str,.d .str])),(6,(32,[.d .str,.d (.int .i64),.d (.int .i64),.d (.int .i64),.d .str,.d .str,.d .str]))],[]⟩)]
def qdc (n:Nat) (rec:(List (List UInt8×((Int)×((Int)×((Int)×(List UInt8×(List UInt8×(List UInt8))))))))->(List UInt8)->Bool->Int->(List UInt8)->Int->Int->Int->(List UInt8)->(List UInt8)->(List UInt8)->(List UInt8)->Int->Int->Int->(List UInt8)->(List UInt8)->(List UInt8)->Option ((Unit×(Unit×(Bool×(Unit))))×(((List UInt8)×(Int×(Int×(Int×((List UInt8)×((List UInt8)×(List UInt8)))))))×(((List UInt8)×(Int×(Int×(Int×((List UInt8)×((List UInt8)×(List UInt8)))))))×(Unit)))×(Unit))) (a1:List (List UInt8×((Int)×((Int)×((Int)×(List UInt8×(List UInt8×(List UInt8)))))))) (a2:List UInt8) (a3:Bool) (a4:Int) (a5:List UInt8) (a6:Int) (a7:Int) (a8:Int) (a9:List UInt8) (a10:List UInt8) (a11:List UInt8) (a12:List UInt8) (a13:Int) (a14:Int) (a15:Int) (a16:List UInt8) (a17:List UInt8) (a18:List UInt8):Option ((Unit×(Unit×(Bool×(Unit))))×(((List UInt8)×(Int×(Int×(Int×((List UInt8)×((List UInt8)×(List UInt8)))))))×(((List UInt8)×(Int×(Int×(Int×((List UInt8)×((List UInt8)×(List UInt8)))))))×(Unit)))×(Unit)) :=
  (bif decide (a4<((List.length a1:Nat):Int)) then (q1a a1 a4).bind fun (x1:List UInt8×((Int)×((Int)×((Int)×(List UInt8×(List UInt8×(List UInt8)))))))=>(bif decide (x1.1=a2) then (bif !a3 then (q1a a1 a4).bind fun (x2:List UInt8×((Int)×((Int)×((Int)×(List UInt8×(List UInt8×(List UInt8)))))))=>q0b (IntKind.wrap .i64 (a4+(1:Int))) fun (n3:Int)=>rec a1 a2 true n3 a5 a6 a7 a8 a9 a10 a11 x2.1 x2.2.1 x2.2.2.1 x2.2.2.2.1 x2.2.2.2.2.1 x2.2.2.2.2.2.1 x2.2.2.2.2.2.2 else (q1a a1 a4).bind fun (x4:List UInt8×((Int)×((Int)×((Int)×(List UInt8×(List UInt8×(List UInt8)))))))=>(q2u n (x4.2.1,(x4.2.2.1,(x4.2.2.2.1,(x4.2.2.2.2.1,x4.2.2.2.2.2.1)))) (a13,(a14,(a15,(a16,a17))))).bind fun (r5:Int)=>(bif decide ((0:Int)<r5) then (q1a a1 a4).bind fun (x6:List UInt8×((Int)×((Int)×((Int)×(List UInt8×(List UInt8×(List UInt8)))))))=>q0b (IntKind.wrap .i64 (a4+(1:Int))) fun (n7:Int)=>rec a1 a2 true n7 a5 a6 a7 a8 a9 a10 a11 x6.1 x6.2.1 x6.2.2.1 x6.2.2.2.1 x6.2.2.2.2.1 x6.2.2.2.2.2.1 x6.2.2.2.2.2.2 else q0b (IntKind.wrap .i64 (a4+(1:Int))) fun (n8:Int)=>rec a1 a2 a3 n8 a5 a6 a7 a8 a9 a10 a11 a12 a13 a14 a15 a16 a17 a18)) else q0b (IntKind.wrap .i64 (a4+(1:Int))) fun (n9:Int)=>rec a1 a2 a3 n9 a5 a6 a7 a8 a9 a10 a11 a12 a13 a14 a15 a16 a17 a18) else some ((((),((),(a3,()))),(((a5,(a6,(a7,(a8,(a9,(a10,a11)))))),((a12,(a13,(a14,(a15,(a16,(a17,a18)))))),())),()))))
def qc6 (n:Nat) (rec:pSt q60->Option (q0f q3z)) (p:pSt q60):Option (q0f q3z):=qdc n (fun a1 a2 a3 a4 a5 a6 a7 a8 a9 a10 a11 a12 a13 a14 a15 a16 a17 a18=>rec ((a1,(a2,((),((),(a3,(a4,())))))),(((a5,(a6,(a7,(a8,(a9,(a10,a11)))))),((a12,(a13,(a14,(a15,(a16,(a17,a18)))))),())),()))) p.1.1 p.1.2.1 p.1.2.2.2.2.1 p.1.2.2.2.2.2.1 p.2.1.1.1 p.2.1.1.2.1 p.2.1.1.2.2.1 p.2.1.1.2.2.2.1 p.2.1.1.2.2.2.2.1 p.2.1.1.2.2.2.2.2.1 p.2.1.1.2.2.2.2.2.2 p.2.1.2.1.1 p.2.1.2.1.2.1 p.2.1.2.1.2.2.1 p.2.1.2.1.2.2.2.1 p.2.1.2.1.2.2.2.2.1 p.2.1.2.1.2.2.2.2.2.1 p.2.1.2.1.2.2.2.2.2.2
def q2l (n m:Nat) (a1:List (List UInt8×((Int)×((Int)×((Int)×(List UInt8×(List UInt8×(List UInt8)))))))) (a2:List UInt8) (a3:Bool) (a4:Int) (a5:List UInt8) (a6:Int) (a7:Int) (a8:Int) (a9:List UInt8) (a10:List UInt8) (a11:List UInt8) (a12:List UInt8) (a13:Int) (a14:Int) (a15:Int) (a16:List UInt8) (a17:List UInt8) (a18:List UInt8):Option ((Unit×(Unit×(Bool×(Unit))))×(((List UInt8)×(Int×(Int×(Int×((List UInt8)×((List UInt8)×(List UInt8)))))))×(((List UInt8)×(Int×(Int×(Int×((List UInt8)×((List UInt8)×(List UInt8)))))))×(Unit)))×(Unit)):=q0g (qc6 n) m ((a1,(a2,((),((),(a3,(a4,())))))),(((a5,(a6,(a7,(a8,(a9,(a10,a11)))))),((a12,(a13,(a14,(a15,(a16,(a17,a18)))))),())),()))
theorem qev (n m:Nat) (a1:List (List UInt8×((Int)×((Int)×((Int)×(List UInt8×(List UInt8×(List UInt8)))))))) (a2:List UInt8) (a3:Bool) (a4:Int) (a5:List UInt8) (a6:Int) (a7:Int) (a8:Int) (a9:List UInt8) (a10:List UInt8) (a11:List UInt8) (a12:List UInt8) (a13:Int) (a14:Int) (a15:Int) (a16:List UInt8) (a17:List UInt8) (a18:List UInt8):q2l n (m+1) a1 a2 a3 a4 a5 a6 a7 a8 a9 a10 a11 a12 a13 a14 a15 a16 a17 a18=qdc n (fun a1 a2 a3 a4 a5 a6 a7 a8 a9 a10 a11 a12 a13 a14 a15 a16 a17 a18=>q2l n m a1 a2 a3 a4 a5 a6 a7 a8 a9 a10 a11 a12 a13 a14 a15 a16 a17 a18) a1 a2 a3 a4 a5 a6 a7 a8 a9 a10 a11 a12 a13 a14 a15 a16 a17 a18:=rfl
def qmn (n:Nat):LC:={ sh:=q60,outs:=q3z,F:=q0g (qc6 n) n }
def qal (n:Nat):List LC:=[qmn n]
def qa5 (n:Nat) (a1:List (List UInt8×((Int)×((Int)×((Int)×(List UInt8×(List UInt8×(List UInt8)))))))) (a2:List UInt8):Option (((List UInt8)×(Int×(Int×(Int×((List UInt8)×((List UInt8)×(List UInt8)))))))×(Bool)) :=
  (q2l n n a1 a2 false (0:Int) ([]:List UInt8) (0:Int) (0:Int) (0:Int) ([]:List UInt8) ([]:List UInt8) ([]:List UInt8) ([]:List UInt8) (0:Int) (0:Int) (0:Int) ([]:List UInt8) ([]:List UInt8) ([]:List UInt8)).bind fun (o10:(Unit×(Unit×(Bool×(Unit))))×(((List UInt8)×(Int×(Int×(Int×((List UInt8)×((List UInt8)×(List UInt8)))))))×(((List UInt8)×(Int×(Int×(Int×((List UInt8)×((List UInt8)×(List UInt8)))))))×(Unit)))×(Unit))=>some (o10.2.1.2.1,o10.1.2.2.1)
def q5f (n:Nat):FC:={ f:=19,args:=[.one (.c (.d (.lst (.prod .str (.prod (.int .i64) (.prod (.int .i64) (.prod (.int .i64) (.prod .str (.prod .str .str))))))))),.one (.c (.d .str))],res:=.tup [.agg [.d .str,.d (.int .i64),.d (.int .i64),.d (.int .i64),.d .str,.d .str,.d .str],.c (.d .bool)],F:=fun p=>qa5 n p.1 p.2 }
def qd5 (n:Nat):List FC:=[q3d n]
theorem qfd (n:Nat) {G:World->Prop} (hG:Know Inv G) : ∀c∈qd5 n,q1b Tryz.prog G c/\q0e c.args=true:=List.forall_mem_cons.2 ⟨qg5 n G hG,(fun _ h=>by cases h)⟩
def qd9:q0c:=[(6,[⟨1688849860263937,2^48,0⟩,⟨805306369*2^24,2^51,0⟩,⟨393*2^48,2^54,3⟩,⟨49*2^54,2^57,7⟩,⟨49*2^57,2^60,15⟩,⟨55340232221128654856,2^63,0⟩,⟨393*2^60,2^66,63⟩,⟨49*2^66,2^69,127⟩,⟨13792273858822145*2^21,2^72,255⟩,⟨393*2^69,2^75,511⟩,⟨3137*2^69,2^78,1023⟩,⟨14809341290279207390150657,2^81,2047⟩,⟨6935543426150563841*2^24,2^84,2047⟩,⟨3145*2^78,2^87,8191⟩,⟨25089*2^78,2^90,16383⟩,⟨200705*2^78,2^93,32767⟩,⟨475369277317040929218558164992,2^96,2047⟩,⟨7404671221600355998498817*2^19,2^99,67583⟩,⟨102793217*2^78,2^102,262143⟩,⟨822083585*2^78,2^105,524287⟩,⟨3367254360577*2^69,2^108,1048575⟩,⟨26938034880513*2^69,2^111,2097151⟩]),(1000006,[])]
theorem qnf:drB qd9 (q00 Tryz.f19)=true:=by kernel_rfl
theorem j1p (n:Nat) : ∀rec p,qc6 n rec p=round Tryz.prog 44 (qd5 n) (qal n) qd9 1 q60 q3z (q01 0 0 (q00 Tryz.f19)) rec p:=by intro rec p;kernel_rfl
theorem qvf (n:Nat) {F:Fr} (hF:F.n=44) (hK:Know Inv F.G):q71 Tryz.prog F (qmn n) (q01 0 0 (q00 Tryz.f19)) :=
  q0h hF (by kernel_rfl) (qfd n hK) (j1p n) (fuel:=n) (fun _=>rfl) (q02 fun j L h1 h2 h3=>absurd h2 (Nat.not_lt.2 (Nat.le_trans (by decide +kernel) h1))) (q0r qnf)
theorem j5v (n:Nat) : ∀a,(q5f n).F a=main Tryz.prog 44 (qd5 n) (qal n) qd9 (q00 Tryz.f19) [.cell 4 32,.tmp 5] (q5f n).args (q5f n).res a:=by intro a;kernel_rfl
theorem j45 (n:Nat):q0a Inv Tryz.prog (q5f n):=fun G hG=>⟨⟨by kernel_rfl,fun a r h=>q03 (c:=q00 Tryz.f19) Tryz.func19 (by kernel_rfl) (by kernel_rfl) (Nat.le_of_ble_eq_true (by kernel_rfl)) hG.st (by kernel_rfl) (rs:=[.cell 4 32,.tmp 5]) (by kernel_rfl) (qfd n hG) (lts:=qal n) (fun F hF hFG=>have hK:Know Inv F.G:=hFG ▸ hG;(q02 (c:=(q00 Tryz.f19)) (fun j L h1 h2 h3=>by
    have h2':j<1:=Nat.lt_of_lt_of_le h2 (by decide +kernel)
    match j,h1,h2',h3 with
    | 0,_,_,h3=>obtain rfl:=Option.some.inj h3;exact (show q01 0 0 (q00 Tryz.f19)=q01 0 0 (q00 Tryz.f19) by kernel_rfl) ▸ qvf n hF hK
    | j+1,_,h2',_=>exact absurd h2' (by omega)))) qnf ((j5v n a).symm.trans h)⟩,rfl⟩
def qy8 (n:Nat):List LC:=[]
def qds (n:Nat) (a1:List (List UInt8×((Int)×((Int)×((Int)×(List UInt8×(List UInt8×(List UInt8)))))))) (a2:(List UInt8)×(Int×(Int×(Int×((List UInt8)×((List UInt8)×(List UInt8))))))):Option ((List (List UInt8×((Int)×((Int)×((Int)×(List UInt8×(List UInt8×(List UInt8))))))))×(Int)) :=
  (q9k n a1 a2).bind fun (r1:Int)=>(bif !decide (r1=(0:Int)) then some ([],r1) else (qj6 88 ([]:List (List UInt8×((Int)×((Int)×((Int)×(List UInt8×(List UInt8×(List UInt8)))))))) a1).bind fun (l2:List (List UInt8×((Int)×((Int)×((Int)×(List UInt8×(List UInt8×(List UInt8))))))))=>(qj6 88 l2 ([a2]:List (List UInt8×((Int)×((Int)×((Int)×(List UInt8×(List UInt8×(List UInt8))))))))).bind fun (l3:List (List UInt8×((Int)×((Int)×((Int)×(List UInt8×(List UInt8×(List UInt8))))))))=>some (l3,(0:Int)))
def q9f (n:Nat):FC:={ f:=17,args:=[.one (.c (.d (.lst (.prod .str (.prod (.int .i64) (.prod (.int .i64) (.prod (.int .i64) (.prod .str (.prod .str .str))))))))),.one (.agg [.d .str,.d (.int .i64),.d (.int .i64),.d (.int .i64),.d .str,.d .str,.d .str])],res:=.tup [.c (.d (.lst (.prod .str (.prod (.int .i64) (.prod (.int .i64) (.prod (.int .i64) (.prod .str (.prod .str .str)))))))),.c (.d (.int .i64))],F:=fun p=>qds n p.1 p.2 }
def j5c (n:Nat):List FC:=[q4k n]
theorem jbv (n:Nat) {G:World->Prop} (hG:Know Inv G) : ∀c∈j5c n,q1b Tryz.prog G c/\q0e c.args=true:=List.forall_mem_cons.2 ⟨qt2 n G hG,(fun _ h=>by cases h)⟩
def j2t:q0c:=[]
theorem jk8:drB j2t (q00 Tryz.f17)=true:=by kernel_rfl
theorem jpb (n:Nat) : ∀a,(q9f n).F a=main Tryz.prog 22 (j5c n) (qy8 n) j2t (q00 Tryz.f17) [.tmp 4,.tmp 5] (q9f n).args (q9f n).res a:=by intro a;kernel_rfl
theorem j5k (n:Nat):q0a Inv Tryz.prog (q9f n):=fun G hG=>⟨⟨by kernel_rfl,fun a r h=>q03 (c:=q00 Tryz.f17) Tryz.func17 (by kernel_rfl) (by kernel_rfl) (Nat.le_of_ble_eq_true (by kernel_rfl)) hG.st (by kernel_rfl) (rs:=[.tmp 4,.tmp 5]) (by kernel_rfl) (jbv n hG) (lts:=qy8 n) (fun F hF hFG=>have hK:Know Inv F.G:=hFG ▸ hG;(q02 fun j L h1 h2 h3=>absurd h2 (Nat.not_lt.2 (Nat.le_trans (by decide +kernel) h1)))) jk8 ((jpb n a).symm.trans h)⟩,rfl⟩
@[reducible] def qbf:SSt:=⟨[(0,.one (.c (.d (.lst (.prod .str (.prod (.int .i64) (.prod (.int .i64) (.prod (.int .i64) (.prod .str (.prod .str .str)))))))))),(4,.one (.c (.d .str))),(5,.one (.c (.d (.int .i64))))],[],[]⟩
@[reducible] def q6g:List (Exit×SSt):=[(.ret,⟨[(2,.one (.c (.d .str))),(3,.one (.c (.d (.int .i64))))],[],[]⟩),(.exit 0,⟨[(4,.one (.c (.d .str)))],[],[]⟩)]
def qlx (n:Nat) (rec:(List (List UInt8×((Int)×((Int)×((Int)×(List UInt8×(List UInt8×(List UInt8))))))))->(List UInt8)->Int->Option ((((List UInt8)×(Int×(Unit)))×(Unit)×(Unit))⊕(((List UInt8)×(Unit))×(Unit)×(Unit)))) (a1:List (List UInt8×((Int)×((Int)×((Int)×(List UInt8×(List UInt8×(List UInt8)))))))) (a2:List UInt8) (a3:Int):Option ((((List UInt8)×(Int×(Unit)))×(Unit)×(Unit))⊕(((List UInt8)×(Unit))×(Unit)×(Unit))) :=
  (bif decide (a3<((List.length a1:Nat):Int)) then (q7n a1 (0:Int) a3).bind fun (s1:List (List UInt8×((Int)×((Int)×((Int)×(List UInt8×(List UInt8×(List UInt8))))))))=>(q1a a1 a3).bind fun (x2:List UInt8×((Int)×((Int)×((Int)×(List UInt8×(List UInt8×(List UInt8)))))))=>(q9k n s1 x2).bind fun (r3:Int)=>(bif !decide (r3=(0:Int)) then some (Sum.inl ((([]:List UInt8),(r3,())),((),()))) else (q1a a1 a3).bind fun (x4:List UInt8×((Int)×((Int)×((Int)×(List UInt8×(List UInt8×(List UInt8)))))))=>(qaj a2 x4.1).bind fun (s5:List UInt8)=>(qaj s5 ([32]:List UInt8)).bind fun (s6:List UInt8)=>(q1a a1 a3).bind fun (x7:List UInt8×((Int)×((Int)×((Int)×(List UInt8×(List UInt8×(List UInt8)))))))=>(q5v n (x7.2.1,(x7.2.2.1,(x7.2.2.2.1,(x7.2.2.2.2.1,x7.2.2.2.2.2.1))))).bind fun (r8:List UInt8)=>(qaj s6 r8).bind fun (s9:List UInt8)=>(qaj s9 ([32]:List UInt8)).bind fun (s10:List UInt8)=>(q1a a1 a3).bind fun (x11:List UInt8×((Int)×((Int)×((Int)×(List UInt8×(List UInt8×(List UInt8)))))))=>(qaj s10 x11.2.2.2.2.2.2).bind fun (s12:List UInt8)=>(qaj s12 ([10]:List UInt8)).bind fun (s13:List UInt8)=>q0b (IntKind.wrap .i64 (a3+(1:Int))) fun (n14:Int)=>rec a1 s13 n14) else some (Sum.inr (((a2,()),((),())))))
def qlw (n:Nat) (rec:pSt qbf->Option (q0f q6g)) (p:pSt qbf):Option (q0f q6g):=qlx n (fun a1 a2 a3=>rec ((a1,(a2,(a3,()))),((),()))) p.1.1 p.1.2.1 p.1.2.2.1
def q3w (n m:Nat) (a1:List (List UInt8×((Int)×((Int)×((Int)×(List UInt8×(List UInt8×(List UInt8)))))))) (a2:List UInt8) (a3:Int):Option ((((List UInt8)×(Int×(Unit)))×(Unit)×(Unit))⊕(((List UInt8)×(Unit))×(Unit)×(Unit))):=q0g (qlw n) m ((a1,(a2,(a3,()))),((),()))
theorem qic (n m:Nat) (a1:List (List UInt8×((Int)×((Int)×((Int)×(List UInt8×(List UInt8×(List UInt8)))))))) (a2:List UInt8) (a3:Int):q3w n (m+1) a1 a2 a3=qlx n (fun a1 a2 a3=>q3w n m a1 a2 a3) a1 a2 a3:=rfl
def qy5 (n:Nat):LC:={ sh:=qbf,outs:=q6g,F:=q0g (qlw n) n }
def qgz (n:Nat):List LC:=[qy5 n]
def qhp (n:Nat) (a1:List (List UInt8×((Int)×((Int)×((Int)×(List UInt8×(List UInt8×(List UInt8)))))))):Option ((List UInt8)×(Int)) :=
  (q3w n n a1 ([]:List UInt8) (0:Int)).bind fun (o15:(((List UInt8)×(Int×(Unit)))×(Unit)×(Unit))⊕(((List UInt8)×(Unit))×(Unit)×(Unit)))=>Sum.elim (fun (q16:((List UInt8)×(Int×(Unit)))×(Unit)×(Unit))=>some (q16.1.1,q16.1.2.1)) (fun (q17:((List UInt8)×(Unit))×(Unit)×(Unit))=>some (q17.1.1,(0:Int))) o15
def q99 (n:Nat):FC:={ f:=15,args:=[.one (.c (.d (.lst (.prod .str (.prod (.int .i64) (.prod (.int .i64) (.prod (.int .i64) (.prod .str (.prod .str .str)))))))))],res:=.tup [.c (.d .str),.c (.d (.int .i64))],F:=fun p=>qhp n p }
def qkr (n:Nat):List FC:=[q4k n,qel n]
theorem qnv (n:Nat) {G:World->Prop} (hG:Know Inv G) : ∀c∈qkr n,q1b Tryz.prog G c/\q0e c.args=true:=List.forall_mem_cons.2 ⟨qt2 n G hG,List.forall_mem_cons.2 ⟨jec n G hG,(fun _ h=>by cases h)⟩⟩
def qls:q0c:=[(5,[⟨3298534883329,2^39,0⟩,⟨26388279099392,2^42,0⟩,⟨393*2^39,2^45,3⟩,⟨1688849860263937,2^48,0⟩,⟨13510798882144256,2^51,0⟩,⟨393*2^48,2^54,24⟩,⟨49*2^54,2^57,56⟩,⟨200705*2^45,2^60,127⟩,⟨2199023255555*2^19,2^18,255⟩]),(8,[⟨28334198897217871286272,2^72,0⟩,⟨226673591177742970257409,2^75,0⟩,⟨1813388729421943762092032,2^78,0⟩,⟨393*2^75,2^81,6⟩,⟨49*2^81,2^84,14⟩,⟨49*2^84,2^87,30⟩,⟨1605633*2^72,2^90,63⟩,⟨49*2^90,2^93,127⟩,⟨475368975085586025561263702017,2^96,0⟩,⟨3802951800684688204490109648896,2^99,0⟩,⟨393*2^96,2^102,768⟩,⟨49*2^102,2^105,1792⟩,⟨49*2^105,2^108,3840⟩,⟨49*2^108,2^111,7936⟩,⟨12845057*2^93,2^114,16383⟩,⟨49*2^114,2^117,32767⟩,⟨7975367974709495237422842361682067457,2^120,0⟩,⟨63802943797675961899382738893456572416,2^123,0⟩,⟨393*2^120,2^126,196608⟩,⟨49*2^126,2^129,458752⟩,⟨49*2^129,2^132,983040⟩,⟨1605633*2^117,2^135,2097151⟩,⟨49*2^135,2^138,4194303⟩,⟨348449143727040986586495598010130648555520,4096,8388607⟩]),(1000008,[])]
theorem qy3:drB qls (q00 Tryz.f15)=true:=by kernel_rfl
theorem jay (n:Nat) : ∀rec p,qlw n rec p=round Tryz.prog 48 (qkr n) (qgz n) qls 1 qbf q6g (q01 0 0 (q00 Tryz.f15)) rec p:=by intro rec p;kernel_rfl
theorem j6n (n:Nat) {F:Fr} (hF:F.n=48) (hK:Know Inv F.G):q71 Tryz.prog F (qy5 n) (q01 0 0 (q00 Tryz.f15)) :=
  q0h hF (by kernel_rfl) (qnv n hK) (jay n) (fuel:=n) (fun _=>rfl) (q02 fun j L h1 h2 h3=>absurd h2 (Nat.not_lt.2 (Nat.le_trans (by decide +kernel) h1))) (q0r qy3)
theorem ji0 (n:Nat) : ∀a,(q99 n).F a=main Tryz.prog 48 (qkr n) (qgz n) qls (q00 Tryz.f15) [.tmp 2,.tmp 3] (q99 n).args (q99 n).res a:=by intro a;kernel_rfl
theorem jg3 (n:Nat):q0a Inv Tryz.prog (q99 n):=fun G hG=>⟨⟨by kernel_rfl,fun a r h=>q03 (c:=q00 Tryz.f15) Tryz.func15 (by kernel_rfl) (by kernel_rfl) (Nat.le_of_ble_eq_true (by kernel_rfl)) hG.st (by kernel_rfl) (rs:=[.tmp 2,.tmp 3]) (by kernel_rfl) (qnv n hG) (lts:=qgz n) (fun F hF hFG=>have hK:Know Inv F.G:=hFG ▸ hG;(q02 (c:=(q00 Tryz.f15)) (fun j L h1 h2 h3=>by
    have h2':j<1:=Nat.lt_of_lt_of_le h2 (by decide +kernel)
    match j,h1,h2',h3 with
    | 0,_,_,h3=>obtain rfl:=Option.some.inj h3;exact (show q01 0 0 (q00 Tryz.f15)=q01 0 0 (q00 Tryz.f15) by kernel_rfl) ▸ j6n n hF hK
    | j+1,_,h2',_=>exact absurd h2' (by omega)))) qy3 ((ji0 n a).symm.trans h)⟩,rfl⟩
@[reducible] def q7y:SSt:=⟨[(5,.one (.c (.d (.lst (.prod .str (.prod (.int .i64) (.prod (.int .i64) (.prod (.int .i64) (.prod .str (.prod .str .str)))))))))),(6,.one (.c (.d (.lst .str)))),(7,.one (.c (.d (.int .i64))))],[],[]⟩
@[reducible] def q4t:List (Exit×SSt):=[(.ret,⟨[(2,.one (.c (.nil))),(3,.one (.c (.d (.int .i64)))),(4,.one (.c (.d (.int .i64))))],[],[]⟩),(.exit 0,⟨[(5,.one (.c (.d (.lst (.prod .str (.prod (.int .i64) (.prod (.int .i64) (.prod (.int .i64) (.prod .str (.prod .str .str))))))))))],[],[]⟩)]
def qg7 (n:Nat) (rec:(List (List UInt8×((Int)×((Int)×((Int)×(List UInt8×(List UInt8×(List UInt8))))))))->(List (List UInt8))->Int->Option (((Unit×(Int×(Int×(Unit))))×(Unit)×(Unit))⊕(((List (List UInt8×((Int)×((Int)×((Int)×(List UInt8×(List UInt8×(List UInt8))))))))×(Unit))×(Unit)×(Unit)))) (a1:List (List UInt8×((Int)×((Int)×((Int)×(List UInt8×(List UInt8×(List UInt8)))))))) (a2:List (List UInt8)) (a3:Int):Option (((Unit×(Int×(Int×(Unit))))×(Unit)×(Unit))⊕(((List (List UInt8×((Int)×((Int)×((Int)×(List UInt8×(List UInt8×(List UInt8))))))))×(Unit))×(Unit)×(Unit))) :=
  (bif decide (a3<((List.length a2:Nat):Int)) then (q1a a2 a3).bind fun (x2:List UInt8)=>((q1f n).F (x2,(32:Int))).bind fun (r3:List (List UInt8))=>(bif !decide (((List.length r3:Nat):Int)=(3:Int)) then some (Sum.inl (((),(a3,((10:Int),()))),((),()))) else (q1a r3 (1:Int)).bind fun (x4:List UInt8)=>(qjd n x4).bind fun (r5:(Int×(Int×(Int×((List UInt8)×(List UInt8)))))×(Bool))=>(bif !r5.2 then some (Sum.inl (((),(a3,((10:Int),()))),((),()))) else (q1a r3 (0:Int)).bind fun (x6:List UInt8)=>(bif decide (x6=([]:List UInt8)) then some (Sum.inl (((),(a3,((10:Int),()))),((),()))) else (q1a r3 (2:Int)).bind fun (x7:List UInt8)=>(bif decide (x7=([]:List UInt8)) then some (Sum.inl (((),(a3,((10:Int),()))),((),()))) else (q1a r3 (0:Int)).bind fun (x8:List UInt8)=>(q1a r3 (2:Int)).bind fun (x9:List UInt8)=>(qds n a1 (x8,(r5.1.1,(r5.1.2.1,(r5.1.2.2.1,(r5.1.2.2.2.1,(r5.1.2.2.2.2,x9))))))).bind fun (r10:(List (List UInt8×((Int)×((Int)×((Int)×(List UInt8×(List UInt8×(List UInt8))))))))×(Int))=>(bif !decide (r10.2=(0:Int)) then some (Sum.inl (((),(a3,(r10.2,()))),((),()))) else q0b (IntKind.wrap .i64 (a3+(1:Int))) fun (n11:Int)=>rec r10.1 a2 n11))))) else some (Sum.inr (((a1,()),((),())))))
def qgc (n:Nat) (rec:pSt q7y->Option (q0f q4t)) (p:pSt q7y):Option (q0f q4t):=qg7 n (fun a1 a2 a3=>rec ((a1,(a2,(a3,()))),((),()))) p.1.1 p.1.2.1 p.1.2.2.1
def q30 (n m:Nat) (a1:List (List UInt8×((Int)×((Int)×((Int)×(List UInt8×(List UInt8×(List UInt8)))))))) (a2:List (List UInt8)) (a3:Int):Option (((Unit×(Int×(Int×(Unit))))×(Unit)×(Unit))⊕(((List (List UInt8×((Int)×((Int)×((Int)×(List UInt8×(List UInt8×(List UInt8))))))))×(Unit))×(Unit)×(Unit))):=q0g (qgc n) m ((a1,(a2,(a3,()))),((),()))
theorem qg8 (n m:Nat) (a1:List (List UInt8×((Int)×((Int)×((Int)×(List UInt8×(List UInt8×(List UInt8)))))))) (a2:List (List UInt8)) (a3:Int):q30 n (m+1) a1 a2 a3=qg7 n (fun a1 a2 a3=>q30 n m a1 a2 a3) a1 a2 a3:=rfl
def qqj (n:Nat):LC:={ sh:=q7y,outs:=q4t,F:=q0g (qgc n) n }
def qc7 (n:Nat):List LC:=[qqj n]
def qdn (n:Nat) (a1:List UInt8):Option ((List (List UInt8×((Int)×((Int)×((Int)×(List UInt8×(List UInt8×(List UInt8))))))))×(Int×(Int))) :=
  (qoi n a1).bind fun (r1:List (List UInt8))=>(q30 n n [] r1 (0:Int)).bind fun (o12:((Unit×(Int×(Int×(Unit))))×(Unit)×(Unit))⊕(((List (List UInt8×((Int)×((Int)×((Int)×(List UInt8×(List UInt8×(List UInt8))))))))×(Unit))×(Unit)×(Unit)))=>Sum.elim (fun (q13:(Unit×(Int×(Int×(Unit))))×(Unit)×(Unit))=>some ([],(q13.1.2.1,q13.1.2.2.1))) (fun (q14:((List (List UInt8×((Int)×((Int)×((Int)×(List UInt8×(List UInt8×(List UInt8))))))))×(Unit))×(Unit)×(Unit))=>some (q14.1.1,(((List.length q14.1.1:Nat):Int),(0:Int)))) o12
def q74 (n:Nat):FC:={ f:=11,args:=[.one (.c (.d .str))],res:=.tup [.c (.d (.lst (.prod .str (.prod (.int .i64) (.prod (.int .i64) (.prod (.int .i64) (.prod .str (.prod .str .str)))))))),.c (.d (.int .i64)),.c (.d (.int .i64))],F:=fun p=>qdn n p }
def qgo (n:Nat):List FC:=[qdi n,q1f n,qcz n,q9f n]
theorem qjf (n:Nat) {G:World->Prop} (hG:Know Inv G) : ∀c∈qgo n,q1b Tryz.prog G c/\q0e c.args=true:=List.forall_mem_cons.2 ⟨jjd n G hG,List.forall_mem_cons.2 ⟨q3k n G hG,List.forall_mem_cons.2 ⟨jlb n G hG,List.forall_mem_cons.2 ⟨j5k n G hG,(fun _ h=>by cases h)⟩⟩⟩⟩
def qgj:q0c:=[(12,[⟨4384504911992708754611054498148849058967797661696,2^159,0⟩,⟨2090694862362245919518973588060783891185665*2^24,2^162,0⟩,⟨49*2^162,2^165,2⟩,⟨49*2^165,2^168,6⟩,⟨133804471191183738849214309635890169035882499*2^27,2^171,0⟩,⟨8563486156235759286349715816696970818296479745*2^24,2^174,0⟩,⟨49*2^174,2^177,32⟩,⟨49*2^177,2^180,96⟩,⟨200713*2^168,2^183,254⟩,⟨822083585*2^159,2^186,511⟩,⟨536870915*2^157,2^156,1023⟩,⟨51539607553*2^156,2^189,2047⟩,⟨412316860417*2^156,2^192,2047⟩,⟨45671926166590716193865151022383844364247891971*2^34,2^33,4095⟩,⟨45671926166590716193865151022383844364247891971*2^37,2^36,16383⟩])]
theorem qu9:drB qgj (q00 Tryz.f11)=true:=by kernel_rfl
theorem j7j (n:Nat) : ∀rec p,qgc n rec p=round Tryz.prog 73 (qgo n) (qc7 n) qgj 1 q7y q4t (q01 0 0 (q00 Tryz.f11)) rec p:=by intro rec p;kernel_rfl
theorem qyv (n:Nat) {F:Fr} (hF:F.n=73) (hK:Know Inv F.G):q71 Tryz.prog F (qqj n) (q01 0 0 (q00 Tryz.f11)) :=
  q0h hF (by kernel_rfl) (qjf n hK) (j7j n) (fuel:=n) (fun _=>rfl) (q02 fun j L h1 h2 h3=>absurd h2 (Nat.not_lt.2 (Nat.le_trans (by decide +kernel) h1))) (q0r qu9)
theorem ja0 (n:Nat) : ∀a,(q74 n).F a=main Tryz.prog 73 (qgo n) (qc7 n) qgj (q00 Tryz.f11) [.tmp 2,.tmp 3,.tmp 4] (q74 n).args (q74 n).res a:=by intro a;kernel_rfl
theorem jaq (n:Nat):q0a Inv Tryz.prog (q74 n):=fun G hG=>⟨⟨by kernel_rfl,fun a r h=>q03 (c:=q00 Tryz.f11) Tryz.func11 (by kernel_rfl) (by kernel_rfl) (Nat.le_of_ble_eq_true (by kernel_rfl)) hG.st (by kernel_rfl) (rs:=[.tmp 2,.tmp 3,.tmp 4]) (by kernel_rfl) (qjf n hG) (lts:=qc7 n) (fun F hF hFG=>have hK:Know Inv F.G:=hFG ▸ hG;(q02 (c:=(q00 Tryz.f11)) (fun j L h1 h2 h3=>by
    have h2':j<1:=Nat.lt_of_lt_of_le h2 (by decide +kernel)
    match j,h1,h2',h3 with
    | 0,_,_,h3=>obtain rfl:=Option.some.inj h3;exact (show q01 0 0 (q00 Tryz.f11)=q01 0 0 (q00 Tryz.f11) by kernel_rfl) ▸ qyv n hF hK
    | j+1,_,h2',_=>exact absurd h2' (by omega)))) qu9 ((ja0 n a).symm.trans h)⟩,rfl⟩
end Go.Proofs.YtcdjkibiggjdoaaGreatDoor.AM
namespace Go.Proofs.YtcdjkibiggjdoaaGreatDoor.AM
open Go.RowKit
set_option linter.unusedVariables false
set_option linter.unusedSimpArgs false
theorem j4f : ∀(k:Nat) (a:Int),0<=a->a<10 ^ (k+1)->k<=15->q1p (k+1) a=some (Lib.itoa a):=by
  intro k
  induction k with
  | zero =>
    intro a h0 h1 _
    have h1':a<10:=by simpa using h1
    unfold q1p
    have e1:j58 a 10=some (a % 10):=by unfold j58;rw [if_pos (by decide),Int.tmod_eq_emod_of_nonneg h0]
    have w1:IntKind.wrap .i64 (48+a % 10)=48+a % 10:=wrap64 (by omega) (by omega)
    have w2:IntKind.wrap .u8 (48+a % 10)=48+a % 10:=jy0 (by omega) (by omega)
    have c1 : ¬ (10:Int)<=a:=by omega
    simp only [e1,Option.bind_some,q0b,w1,w2,c1,decide_false,cond_false]
    rw [jei h0,if_pos h1']
    simp only [List.map_cons,List.map_nil]
    rw [show (48+a % 10).toNat=48+a.toNat from by omega]
  | succ k ih =>
    intro a h0 h1 hk
    unfold q1p
    have e1:j58 a 10=some (a % 10):=by unfold j58;rw [if_pos (by decide),Int.tmod_eq_emod_of_nonneg h0]
    have w1:IntKind.wrap .i64 (48+a % 10)=48+a % 10:=wrap64 (by omega) (by omega)
    have w2:IntKind.wrap .u8 (48+a % 10)=48+a % 10:=jy0 (by omega) (by omega)
    have hp:(10:Int) ^ (k+1+1)=10*10 ^ (k+1):=by rw [Int.pow_succ];omega
    have hb:(10:Int) ^ (k+1)<=10 ^ 16:=by
      have:=Nat.pow_le_pow_right (n:=10) (by decide) (show k+1<=16 by omega)
      have e2:((10 ^ (k+1):Nat):Int)=(10:Int) ^ (k+1):=by simp
      have e3:((10 ^ 16:Nat):Int)=(10:Int) ^ 16:=by simp
      rw [<-e2,<-e3];omega
    have e9:(10:Int) ^ 16=10000000000000000:=by decide
    rw [hp] at h1
    rw [e9] at hb
    simp only [e1,Option.bind_some,q0b,w1,w2]
    rw [jei h0]
    by_cases c1:(10:Int)<=a
    · have q1:jwh .i64 a 10=some (a / 10):=by
        unfold jwh;rw [if_pos (by decide),Int.tdiv_eq_ediv_of_nonneg h0,wrap64 (by omega) (by omega)]
      have i1:=ih (a / 10) (by omega) (by omega) (by omega)
      have c2 : ¬ a<10:=by omega
      have hlen:(Lib.itoa (a / 10)).length<=20:=by
        rw [q0z (by omega)]
        have:=qfp 19 (a / 10).toNat (by omega)
        omega
      simp only [c1,decide_true,cond_true,q1,Option.bind_some,i1,c2,if_false,List.map_cons,List.map_nil]
      rw [q1j (by simp;omega)]
      rw [show (48+a % 10).toNat=48+(a % 10).toNat from by omega]
      rfl
    · have c2:a<10:=by omega
      simp only [c1,c2,decide_false,cond_false,if_true,List.map_cons,List.map_nil]
      rw [show (48+a % 10).toNat=48+a.toNat from by omega]
theorem j8e (n:Nat) {a:Int} (h:0<=a/\a<=999999999) (hn:10<=n) : ∀k,n=k+10->q1p n a=some (Lib.itoa a):=by
  have more : ∀(k:Nat) (a:Int) (r:List UInt8),q1p k a=some r->q1p (k+1) a=some r:=by
    intro k
    induction k with
    | zero=>intro a r hr;cases hr
    | succ k ih =>
      intro a r hr
      rw [q1p] at hr ⊢
      cases e1:j58 a 10 with
      | none=>rw [e1] at hr;cases hr
      | some n1 =>
        rw [e1] at hr
        simp only [Option.bind_some,q0b] at hr ⊢
        by_cases c1:(10:Int)<=a
        · simp only [c1,decide_true,cond_true] at hr ⊢
          cases e2:jwh .i64 a 10 with
          | none=>rw [e2] at hr;cases hr
          | some n4 =>
            rw [e2] at hr
            simp only [Option.bind_some] at hr ⊢
            cases e3:q1p k n4 with
            | none=>rw [e3] at hr;cases hr
            | some r5 =>
              rw [e3] at hr
              rw [ih n4 r5 e3]
              exact hr
        · simp only [c1,decide_false,cond_false] at hr ⊢
          exact hr
  intro k
  induction k generalizing n with
  | zero =>
    rintro rfl
    exact j4f 9 a h.1 (by
                                   have:(10:Int) ^ (9+1)=10000000000:=by decide
                                   rw [this];omega) (by decide)
  | succ k ih =>
    rintro rfl
    exact more _ _ _ (ih (k+10) (by omega) rfl)
theorem qgk (n:Nat) {a:Int} (h:0<=a/\a<=999999999) (hn:10<=n):q1p n a=some (Lib.itoa a):=j8e n h hn (n - 10) (by omega)
end Go.Proofs.YtcdjkibiggjdoaaGreatDoor.AM
namespace Go.Proofs.YtcdjkibiggjdoaaGreatDoor.AM
open Go.RowKit
set_option linter.unusedVariables false
set_option linter.unusedSimpArgs false
theorem qwp (n:Nat) (v:VD) (hn:100<=n):q5v n v=some (q3f v):=by
  unfold q5v q3f
  rw [q72 n v hn]
  cases hc:q0u v with
  | false=>rfl
  | true =>
    obtain ⟨h1,h2,h3,h4,h5⟩:=q1g hc
    have l1:=qb8 h1
    have l2:=qb8 h2
    have l3:=qb8 h3
    have t1:=q4v h4
    have t2:=q4v h5
    simp only [Option.bind_some,Bool.not_true,cond_false,qgk n h1 (by omega),qgk n h2 (by omega),qgk n h3 (by omega),if_true]
    unfold jiq q5t
    generalize Lib.itoa v.1=A at l1
    generalize Lib.itoa v.2.1=B at l2
    generalize Lib.itoa v.2.2.1=C at l3
    generalize v.2.2.2.1=p at t1
    generalize v.2.2.2.2=q at t2
    rw [q1j (by simp;omega)];simp only [Option.bind_some]
    rw [q1j (by simp;omega)];simp only [Option.bind_some]
    rw [q1j (by simp;omega)];simp only [Option.bind_some]
    rw [q1j (by simp;omega)];simp only [Option.bind_some]
    rw [q1j (by simp;omega)];simp only [Option.bind_some]
    by_cases hp:p = []
    · by_cases hq:q = []
      · simp [hp,hq]
      · simp only [hp,hq,decide_true,decide_false,Bool.not_true,Bool.not_false,cond_true,cond_false]
        rw [q1j (by simp;omega)];simp only [Option.bind_some]
        rw [q1j (by simp;omega)]
        simp
    · by_cases hq:q = []
      · simp only [hp,hq,decide_true,decide_false,Bool.not_true,Bool.not_false,cond_true,cond_false]
        rw [q1j (by simp;omega)];simp only [Option.bind_some]
        rw [q1j (by simp;omega)]
        simp
      · simp only [hp,hq,decide_true,decide_false,Bool.not_true,Bool.not_false,cond_true,cond_false]
        rw [q1j (by simp;omega)];simp only [Option.bind_some]
        rw [q1j (by simp;omega)];simp only [Option.bind_some]
        rw [q1j (by simp;omega)];simp only [Option.bind_some]
        rw [q1j (by simp;omega)]
        simp
theorem qup (n:Nat) (s:List UInt8) (c:UInt8) (hs:s.length<=1000000) : ∀m j:Nat,j<=s.length->s.length - j<m->qac n m s ((c.toNat:Nat):Int) (j:Int)=some (if Lib.index (s.drop j) [c] = -1 then Sum.inr ((),((),())) else Sum.inl (((j:Int)+Lib.index (s.drop j) [c],()),((),())))
  | 0,j,_,h=>absurd h (Nat.not_lt_zero _)
  | m+1,j,hj,h=>by
    rw [qo5]
    unfold j1q
    by_cases c0:j<s.length
    · have c0':((j:Nat):Int)<((s.length:Nat):Int):=by omega
      have ih:=qup n s c hs m (j+1) (by omega) (by omega)
      have hd:s.drop j=s[j]::s.drop (j+1):=(List.drop_eq_getElem_cons c0)
      have hc:decide (((s[j].toNat:Nat):Int)=((c.toNat:Nat):Int))=decide (s[j]=c):=by
        apply decide_eq_decide.2
        constructor
        · intro hh;exact UInt8.toNat_inj.1 (by omega)
        · intro hh;rw [hh]
      simp only [c0',decide_true,cond_true,q2z c0,Option.bind_some,q0b,q06 (show j<4611686018427387904 by omega),hc,hd]
      by_cases h1:s[j]=c
      · have:=index_self c (s.drop (j+1))
        rw [h1,this]
        simp
      · rw [qog h1]
        simp only [h1,decide_false,cond_false,ih]
        have hge:=Lib.index_ge (s.drop (j+1)) [c]
        by_cases h2:Lib.index (s.drop (j+1)) [c] = -1
        · simp [h2]
        · have h3 : ¬ (Lib.index (s.drop (j+1)) [c] == -1)=true:=fun e=>h2 (beq_iff_eq.1 e)
          have h4 : ¬ Lib.index (s.drop (j+1)) [c]+1 = -1:=by omega
          rw [if_neg h3,if_neg h4,if_neg h2]
          congr 4
          omega
    · have c0' : ¬ ((j:Nat):Int)<((s.length:Nat):Int):=by omega
      have hd:s.drop j = []:=List.drop_eq_nil_of_le (by omega)
      have:Lib.index ([]:List UInt8) [c] = -1:=qlb c [] (by simp)
      simp only [c0',decide_false,cond_false,hd,this,if_true]
theorem qx3 (n:Nat) (s:List UInt8) (c:UInt8) (hs:s.length<=1000000) (hn:s.length<n):qaq n s ((c.toNat:Nat):Int)=some (Lib.index s [c]):=by
  unfold qaq
  have h:=qup n s c hs n 0 (Nat.zero_le _) (by omega)
  rw [show ((0:Nat):Int)=(0:Int) from rfl,List.drop_zero] at h
  rw [h]
  by_cases h1:Lib.index s [c] = -1
  · simp [h1]
  · simp [h1]
theorem quh (n:Nat) (s:List UInt8) (hs:s.length<=9) (hd:s.all q1i=true) : ∀(m j:Nat) (a:Int),j<=s.length->s.length - j<m->0<=a->a<10 ^ j->qaf n m s a (j:Int)=some ((qbo a (s.drop j),()),((),()))
  | 0,j,_,_,h,_,_=>absurd h (Nat.not_lt_zero _)
  | m+1,j,a,hj,h,ha,hb=>by
    rw [qnw]
    unfold j15
    by_cases c0:j<s.length
    · have c0':((j:Nat):Int)<((s.length:Nat):Int):=by omega
      have hdr:s.drop j=s[j]::s.drop (j+1):=(List.drop_eq_getElem_cons c0)
      have hdg:=List.all_eq_true.1 hd s[j] (List.getElem_mem c0)
      unfold q1i at hdg
      simp only [Bool.and_eq_true,decide_eq_true_eq] at hdg
      have hp:(10:Int) ^ (j+1)=10*10 ^ j:=by rw [Int.pow_succ];omega
      have hbb:(10:Int) ^ j<=10 ^ 9:=by
        have:=Nat.pow_le_pow_right (n:=10) (by decide) (show j<=9 by omega)
        have e2:((10 ^ j:Nat):Int)=(10:Int) ^ j:=by simp
        have e3:((10 ^ 9:Nat):Int)=(10:Int) ^ 9:=by simp
        rw [<-e2,<-e3];omega
      have e9:(10:Int) ^ 9=1000000000:=by decide
      rw [e9] at hbb
      have ih:=quh n s hs hd m (j+1) (10*a+s[j].toNat - 48) (by omega) (by omega) (by omega) (by rw [hp];omega)
      have w1:IntKind.wrap .i64 (10*a)=10*a:=wrap64 (by omega) (by omega)
      have w2:IntKind.wrap .i64 ((s[j].toNat:Nat):Int)=((s[j].toNat:Nat):Int):=wrap64 (by omega) (by omega)
      have w3:IntKind.wrap .i64 (10*a+((s[j].toNat:Nat):Int))=10*a+((s[j].toNat:Nat):Int):=wrap64 (by omega) (by omega)
      have w4:IntKind.wrap .i64 (10*a+((s[j].toNat:Nat):Int) - 48)=10*a+((s[j].toNat:Nat):Int) - 48:=wrap64 (by omega) (by omega)
      simp only [c0',decide_true,cond_true,q2z c0,Option.bind_some,q0b,q06 (show j<4611686018427387904 by omega),w1,w2,w3,w4,ih]
      rw [hdr,qbo]
    · have c0' : ¬ ((j:Nat):Int)<((s.length:Nat):Int):=by omega
      have hdr:s.drop j = []:=List.drop_eq_nil_of_le (by omega)
      simp only [c0',decide_false,cond_false,hdr,qbo]
theorem qjy (n:Nat) (s:List UInt8) (hs:s.length<=1000000) (hn:s.length<n/\10<=n):q1h n s=some (qez s):=by
  unfold q1h qez
  rw [q88 n s hs hn.1]
  cases hd:q2a s with
  | false=>rfl
  | true =>
    by_cases h9:s.length<=9
    · have c1 : ¬ (9:Int)<((s.length:Nat):Int):=by omega
      have ha:s.all q1i=true:=by unfold q2a at hd;simp only [Bool.and_eq_true] at hd;exact hd.1
      have h:=quh n s h9 ha n 0 0 (Nat.zero_le _) (by omega) (by decide) (by decide)
      rw [show ((0:Nat):Int)=(0:Int) from rfl,List.drop_zero] at h
      simp only [Option.bind_some,Bool.not_true,cond_false,c1,decide_false,h,h9,decide_true,Bool.and_self,if_true]
    · have c1:(9:Int)<((s.length:Nat):Int):=by omega
      simp only [Option.bind_some,Bool.not_true,cond_false,c1,decide_true,cond_true,h9,decide_false,Bool.and_false,Bool.false_eq_true,if_false]
def jgy (s:List UInt8) (l:List (List UInt8)) (p b:List UInt8):VD×Bool:=match l with
  | [x,y,z]=>if q3f (qez x,(qez y,(qez z,(p,b))))=s then ((qez x,(qez y,(qez z,(p,b)))),true) else (v0,false)
  | _=>(v0,false)
theorem j5h (n:Nat) (s r p b:List UInt8) (hr:r.length<=5000) (hn:20000<=n) :
    ((q0n n r (46:Int)).bind fun (r11:List (List UInt8))=>(bif !decide (((List.length r11:Nat):Int)=(3:Int)) then some (((0:Int),((0:Int),((0:Int),(([]:List UInt8),([]:List UInt8))))),false) else (q1a r11 (0:Int)).bind fun (x12:List UInt8)=>(q1h n x12).bind fun (r13:Int)=>(q1a r11 (1:Int)).bind fun (x14:List UInt8)=>(q1h n x14).bind fun (r15:Int)=>(q1a r11 (2:Int)).bind fun (x16:List UInt8)=>(q1h n x16).bind fun (r17:Int)=>(q5v n (r13,(r15,(r17,(p,b))))).bind fun (r18:List UInt8)=>(bif !decide (r18=s) then some (((0:Int),((0:Int),((0:Int),(([]:List UInt8),([]:List UInt8))))),false) else some ((r13,(r15,(r17,(p,b)))),true))))=some (jgy s (spl 46 [] r) p b):=by
  have e1:q0n n r (46:Int)=some (spl 46 [] r):=q43 n r 46 (by omega) (by omega)
  have hm : ∀w∈spl 46 [] r,w.length<=5000:=fun w hw=>by have:=q4c 46 r [] w hw;simp at this;omega
  rw [e1]
  simp only [Option.bind_some]
  generalize spl 46 [] r=l at hm
  unfold jgy
  match l,hm with
  | [],_=>simp
  | [_],_=>simp
  | [_,_],_=>simp
  | [x,y,z],hm =>
    have hx:=hm x (by simp)
    have hy:=hm y (by simp)
    have hz:=hm z (by simp)
    have i0:q1a [x,y,z] (0:Int)=some x:=rfl
    have i1:q1a [x,y,z] (1:Int)=some y:=rfl
    have i2:q1a [x,y,z] (2:Int)=some z:=rfl
    have c3:((List.length [x,y,z]:Nat):Int)=3:=by simp
    simp only [c3,decide_true,Bool.not_true,cond_false,i0,i1,i2,Option.bind_some,qjy n x (by omega) ⟨by omega,by omega⟩,qjy n y (by omega) ⟨by omega,by omega⟩,qjy n z (by omega) ⟨by omega,by omega⟩,qwp n _ (show 100<=n by omega)]
    by_cases h:q3f (qez x,(qez y,(qez z,(p,b))))=s
    · simp only [h,decide_true,Bool.not_true,cond_false,if_true]
    · simp only [h,decide_false,Bool.not_false,cond_true,if_false]
  | _::_::_::_::t,_ =>
    have : ¬ ((((t.length+1+1+1+1:Nat)):Int)=3):=by omega
    simp only [List.length_cons,this,decide_false,Bool.not_false,cond_true]
theorem j8r (n:Nat) (s:List UInt8) (hs:s.length<=5000) (hn:20000<=n):qjd n s=some (q19 s):=by
  have goal:qjd n s=some (if s.length<=100/\s.head? = some 118 then jgy s (spl 46 [] (q2h 45 (q2h 43 (s.drop 1)))) (qav 45 (q2h 43 (s.drop 1))) (qav 43 (s.drop 1)) else (v0,false)):=by
    unfold qjd
    by_cases c1:(100:Int)<((s.length:Nat):Int)
    · have : ¬ s.length<=100:=by omega
      simp [c1,this]
    · have c1':s.length<=100:=by omega
      cases s with
      | nil=>simp
      | cons c r =>
        have c2 : ¬ (((c::r).length:Nat):Int)=0:=by simp;omega
        have i0:sAt (c::r) (0:Int)=some ((c.toNat:Nat):Int):=q2z (s:=c::r) (j:=0) (by simp)
        have h1:decide (((c.toNat:Nat):Int)=(118:Int))=decide (c=118):=decide_eq_decide.2 (by
          constructor
          · intro h;exact UInt8.toNat_inj.1 (by have e:(118:UInt8).toNat=118:=rfl;rw [e];omega)
          · rintro rfl;rfl)
        have s1:q7n (c::r) (1:Int) (((c::r).length:Nat):Int)=some r:=by
          have:=sub_le (l:=c::r) (a:=1) (b:=(c::r).length) (by simp) (Nat.le_refl _)
          rw [show (1:Int)=((1:Nat):Int) from rfl,this];simp
        simp only [c1,c2,decide_false,cond_false,i0,Option.bind_some,h1,c1',true_and,List.head?_cons,Option.some.injEq,List.drop_succ_cons,List.drop_zero]
        by_cases h118:c=118
        · subst h118
          have hr:r.length<=5000:=by simp at c1';omega
          have f43:qaq n r (43:Int)=some (Lib.index r [43]):=qx3 n r 43 (by omega) (by omega)
          simp only [decide_true,Bool.not_true,cond_false,s1,Option.bind_some,f43,if_true]
          have cut45 : ∀(q b:List UInt8),q.length<=5000 ->
              ((
                qaq n q (45:Int)).bind fun (r7:Int)=>(bif decide ((0:Int)<=r7) then q0b (IntKind.wrap .i64 (r7+(1:Int))) fun (n8:Int)=>(q7n q n8 ((List.length q:Nat):Int)).bind fun (s9:List UInt8)=>(q7n q (0:Int) r7).bind fun (s10:List UInt8)=>(q0n n s10 (46:Int)).bind fun (r11:List (List UInt8))=>(bif !decide (((List.length r11:Nat):Int)=(3:Int)) then some (((0:Int),((0:Int),((0:Int),(([]:List UInt8),([]:List UInt8))))),false) else (q1a r11 (0:Int)).bind fun (x12:List UInt8)=>(q1h n x12).bind fun (r13:Int)=>(q1a r11 (1:Int)).bind fun (x14:List UInt8)=>(q1h n x14).bind fun (r15:Int)=>(q1a r11 (2:Int)).bind fun (x16:List UInt8)=>(q1h n x16).bind fun (r17:Int)=>(q5v n (r13,(r15,(r17,(s9,b))))).bind fun (r18:List UInt8)=>(bif !decide (r18=118::r) then some (((0:Int),((0:Int),((0:Int),(([]:List UInt8),([]:List UInt8))))),false) else some ((r13,(r15,(r17,(s9,b)))),true)))
                else (q0n n q (46:Int)).bind fun (r19:List (List UInt8))=>(bif !decide (((List.length r19:Nat):Int)=(3:Int)) then some (((0:Int),((0:Int),((0:Int),(([]:List UInt8),([]:List UInt8))))),false) else (q1a r19 (0:Int)).bind fun (x20:List UInt8)=>(q1h n x20).bind fun (r21:Int)=>(q1a r19 (1:Int)).bind fun (x22:List UInt8)=>(q1h n x22).bind fun (r23:Int)=>(q1a r19 (2:Int)).bind fun (x24:List UInt8)=>(q1h n x24).bind fun (r25:Int)=>(q5v n (r21,(r23,(r25,(([]:List UInt8),b))))).bind fun (r26:List UInt8)=>(bif !decide (r26=118::r) then some (((0:Int),((0:Int),((0:Int),(([]:List UInt8),([]:List UInt8))))),false) else some ((r21,(r23,(r25,(([]:List UInt8),b)))),true)))))=some (jgy (118::r) (spl 46 [] (q2h 45 q)) (qav 45 q) b):=by
            intro q b hq
            have f45:qaq n q (45:Int)=some (Lib.index q [45]):=qx3 n q 45 (by omega) (by omega)
            rw [f45]
            simp only [Option.bind_some]
            have hge:=Lib.index_ge q [45]
            unfold q2h qav
            by_cases k1:Lib.index q [45] = -1
            · have k2 : ¬ (0:Int)<=-1:=by decide
              simp only [k1,k2,decide_false,cond_false,if_true]
              exact j5h n (118::r) q [] b (by omega) hn
            · obtain ⟨i,hi⟩ : ∃ i:Nat,Lib.index q [45]=(i:Int):=⟨(Lib.index q [45]).toNat,by omega⟩
              have hlt:=qoe 45 q i hi
              have n1 : ¬ ((i:Nat):Int) = -1:=by omega
              have n2:(0:Int)<=((i:Nat):Int):=by omega
              rw [hi]
              have e6:(q.drop (i+1)).take (q.length - (i+1))=q.drop (i+1):=List.take_of_length_le (by rw [List.length_drop];exact Nat.le_refl _)
              simp only [n1,n2,decide_true,cond_true,if_false,q0b,q06 (show i<4611686018427387904 by omega),sub_le (show i+1<=q.length by omega) (Nat.le_refl _),sub_zero (show i<=q.length by omega),Option.bind_some,Int.toNat_natCast,e6]
              exact j5h n (118::r) (q.take i) (q.drop (i+1)) b (by rw [List.length_take];omega) hn
          have hge:=Lib.index_ge r [43]
          by_cases k1:Lib.index r [43] = -1
          · have k2 : ¬ (0:Int)<=-1:=by decide
            have u1:q2h 43 r=r:=by unfold q2h;rw [if_pos k1]
            have u2:qav 43 r = []:=by unfold qav;rw [if_pos k1]
            simp only [k1,k2,decide_false,cond_false,u1,u2]
            exact cut45 r [] hr
          · obtain ⟨i,hi⟩ : ∃ i:Nat,Lib.index r [43]=(i:Int):=⟨(Lib.index r [43]).toNat,by omega⟩
            have hlt:=qoe 43 r i hi
            have n1 : ¬ ((i:Nat):Int) = -1:=by omega
            have n2:(0:Int)<=((i:Nat):Int):=by omega
            have u1:q2h 43 r=r.take i:=by unfold q2h;rw [if_neg k1,hi,Int.toNat_natCast]
            have u2:qav 43 r=r.drop (i+1):=by unfold qav;rw [if_neg k1,hi,Int.toNat_natCast]
            rw [hi]
            have e6:(r.drop (i+1)).take (r.length - (i+1))=r.drop (i+1):=List.take_of_length_le (by rw [List.length_drop];exact Nat.le_refl _)
            simp only [n2,decide_true,cond_true,q0b,q06 (show i<4611686018427387904 by omega),sub_le (show i+1<=r.length by omega) (Nat.le_refl _),sub_zero (show i<=r.length by omega),Option.bind_some,u1,u2,e6]
            exact cut45 (r.take i) (r.drop (i+1)) (by rw [List.length_take];omega)
        · simp [h118]
  rw [goal]
  congr 1
  by_cases ex : ∃ v,q0u v=true/\q3f v=s
  · obtain ⟨v,hc,ht⟩:=ex
    rw [jdk hc ht]
    have e1:s=jiq v:=by rw [<-ht];unfold q3f;rw [if_pos hc]
    have hl:=jok hc
    have hcand:=jmg hc
    rw [<-e1] at hl hcand
    rw [if_pos ⟨by omega,by rw [e1];rfl⟩]
    unfold jv7 at hcand
    unfold jgy
    split at hcand
    · rename_i x y z hsp
      rw [hsp]
      have hv:=Option.some.inj hcand
      simp only [hv]
      rw [if_pos ht]
    · cases hcand
  · have hno : ∀v,q0u v=true->q3f v≠s:=fun v h1 h2=>ex ⟨v,h1,h2⟩
    rw [jgc hno]
    by_cases c:s.length<=100/\s.head? = some 118
    · rw [if_pos c]
      unfold jgy
      split
      · rename_i x y z hsp
        rw [if_neg]
        intro ht
        have hne:s ≠ []:=fun e=>by rw [e] at c;simp at c
        refine hno _ ?_ ht
        unfold q3f at ht
        split at ht
        · assumption
        · exact absurd ht.symm hne
      · rfl
    · rw [if_neg c]
end Go.Proofs.YtcdjkibiggjdoaaGreatDoor.AM
namespace Go.Proofs.YtcdjkibiggjdoaaGreatDoor.AM
open Go.RowKit
set_option linter.unusedVariables false
set_option linter.unusedSimpArgs false
end Go.Proofs.YtcdjkibiggjdoaaGreatDoor.AM
