
import Derived.Test.YtggoebaobojmjaaGreatDoorBp10
namespace Go.Proofs.YtggoebaobojmjaaGreatDoor.AM
open Go.RowKit
set_option linter.unusedVariables false
set_option maxRecDepth 20000
def qe8 (n:Nat):List LC:=[]
def q51 (n:Nat) (a1:List UInt8) (a2:List UInt8):Option (Bool) :=
 (bif decide (((List.length a2:Nat):Int)<=((List.length a1:Nat):Int)) then (qv2 a1 (0:Int) ((List.length a2:Nat):Int)).bind fun (s1:List UInt8)=>some (decide (s1=a2)) else some false)
def q2g (n:Nat):FC:={ f:=142,args:=[.one (.c (.d .str)),.one (.c (.d .str))],res:=.one (.c (.d .bool)),F:=fun p=>q51 n p.1 p.2 }
def qgn (n:Nat):List FC:=[]
theorem qqa (n:Nat) {G:World->Prop} (hG:Know Inv G) : ∀c∈qgn n,q0z Tryz.prog G c/\q0a c.args=true:=(fun _ h=>by cases h)
def qix:q09:=[]
theorem qyr:drB qix (q00 Tryz.f142)=true:=by kernel_rfl
theorem j0t (n:Nat) : ∀a,(q2g n).F a=main Tryz.prog 18 (qgn n) (qe8 n) qix (q00 Tryz.f142) [.tmp 4] (q2g n).args (q2g n).res a:=by intro a;kernel_rfl
theorem qif (n:Nat):q0f Inv Tryz.prog (q2g n):=fun G hG=>⟨⟨by kernel_rfl,fun a r h=>q05 (c:=q00 Tryz.f142) Tryz.func142 (by kernel_rfl) (by kernel_rfl) (Nat.le_of_ble_eq_true (by kernel_rfl)) hG.st (by kernel_rfl) (rs:=[.tmp 4]) (by kernel_rfl) (qqa n hG) (lts:=qe8 n) (fun F hF hFG=>have hK:Know Inv F.G:=hFG ▸ hG;(q02 fun j L h1 h2 h3=>absurd h2 (Nat.not_lt.2 (Nat.le_trans (by decide +kernel) h1)))) qyr ((j0t n a).symm.trans h)⟩,rfl⟩
def qbv (n:Nat):List LC:=[]
def qag (n:Nat) (a1:List UInt8) (a2:List UInt8):Option (List UInt8) :=
 (q51 n a1 a2).bind fun (r1:Bool)=>(bif r1 then (qv2 a1 ((List.length a2:Nat):Int) ((List.length a1:Nat):Int)).bind fun (s2:List UInt8)=>some s2 else some a1)
def q2w (n:Nat):FC:={ f:=123,args:=[.one (.c (.d .str)),.one (.c (.d .str))],res:=.one (.c (.d .str)),F:=fun p=>qag n p.1 p.2 }
def qe6 (n:Nat):List FC:=[q2g n]
theorem qny (n:Nat) {G:World->Prop} (hG:Know Inv G) : ∀c∈qe6 n,q0z Tryz.prog G c/\q0a c.args=true:=List.forall_mem_cons.2 ⟨qif n G hG,(fun _ h=>by cases h)⟩
def qeg:q09:=[]
theorem quu:drB qeg (q00 Tryz.f123)=true:=by kernel_rfl
theorem qv3 (n:Nat) : ∀a,(q2w n).F a=main Tryz.prog 13 (qe6 n) (qbv n) qeg (q00 Tryz.f123) [.tmp 4] (q2w n).args (q2w n).res a:=by intro a;kernel_rfl
theorem qv6 (n:Nat):q0f Inv Tryz.prog (q2w n):=fun G hG=>⟨⟨by kernel_rfl,fun a r h=>q05 (c:=q00 Tryz.f123) Tryz.func123 (by kernel_rfl) (by kernel_rfl) (Nat.le_of_ble_eq_true (by kernel_rfl)) hG.st (by kernel_rfl) (rs:=[.tmp 4]) (by kernel_rfl) (qny n hG) (lts:=qbv n) (fun F hF hFG=>have hK:Know Inv F.G:=hFG ▸ hG;(q02 fun j L h1 h2 h3=>absurd h2 (Nat.not_lt.2 (Nat.le_trans (by decide +kernel) h1)))) quu ((qv3 n a).symm.trans h)⟩,rfl⟩
def qe4 (n:Nat):List LC:=[]
def qc2 (n:Nat) (a1:List UInt8) (a2:List UInt8):Option (List UInt8) :=
 (qag n a1 a2).bind fun (r1:List UInt8)=>some r1
def q5m (n:Nat):FC:={ f:=94,args:=[.one (.c (.d .str)),.one (.c (.d .str))],res:=.one (.c (.d .str)),F:=fun p=>qc2 n p.1 p.2 }
def qge (n:Nat):List FC:=[q2w n]
theorem qrt (n:Nat) {G:World->Prop} (hG:Know Inv G) : ∀c∈qge n,q0z Tryz.prog G c/\q0a c.args=true:=List.forall_mem_cons.2 ⟨qv6 n G hG,(fun _ h=>by cases h)⟩
def qhg:q09:=[]
theorem qyf:drB qhg (q00 Tryz.f94)=true:=by kernel_rfl
theorem qz4 (n:Nat) : ∀a,(q5m n).F a=main Tryz.prog 8 (qge n) (qe4 n) qhg (q00 Tryz.f94) [.tmp 4] (q5m n).args (q5m n).res a:=by intro a;kernel_rfl
theorem qzc (n:Nat):q0f Inv Tryz.prog (q5m n):=fun G hG=>⟨⟨by kernel_rfl,fun a r h=>q05 (c:=q00 Tryz.f94) Tryz.func94 (by kernel_rfl) (by kernel_rfl) (Nat.le_of_ble_eq_true (by kernel_rfl)) hG.st (by kernel_rfl) (rs:=[.tmp 4]) (by kernel_rfl) (qrt n hG) (lts:=qe4 n) (fun F hF hFG=>have hK:Know Inv F.G:=hFG ▸ hG;(q02 fun j L h1 h2 h3=>absurd h2 (Nat.not_lt.2 (Nat.le_trans (by decide +kernel) h1)))) qyf ((qz4 n a).symm.trans h)⟩,rfl⟩
def j5r (n:Nat):List LC:=[]
def qya (n:Nat) (a1:Int):Option (Bool) :=
 some (!decide (a1=a1))
def qis (n:Nat):FC:={ f:=128,args:=[.one (.c (.d (.int .i64)))],res:=.one (.c (.d .bool)),F:=fun p=>qya n p }
def je3 (n:Nat):List FC:=[]
theorem ji6 (n:Nat) {G:World->Prop} (hG:Know Inv G) : ∀c∈je3 n,q0z Tryz.prog G c/\q0a c.args=true:=(fun _ h=>by cases h)
def jbz:q09:=[]
theorem jsu:drB jbz (q00 Tryz.f128)=true:=by kernel_rfl
theorem jqg (n:Nat) : ∀a,(qis n).F a=main Tryz.prog 6 (je3 n) (j5r n) jbz (q00 Tryz.f128) [.tmp 2] (qis n).args (qis n).res a:=by intro a;kernel_rfl
theorem js3 (n:Nat):q0f Inv Tryz.prog (qis n):=fun G hG=>⟨⟨by kernel_rfl,fun a r h=>q05 (c:=q00 Tryz.f128) Tryz.func128 (by kernel_rfl) (by kernel_rfl) (Nat.le_of_ble_eq_true (by kernel_rfl)) hG.st (by kernel_rfl) (rs:=[.tmp 2]) (by kernel_rfl) (ji6 n hG) (lts:=j5r n) (fun F hF hFG=>have hK:Know Inv F.G:=hFG ▸ hG;(q02 fun j L h1 h2 h3=>absurd h2 (Nat.not_lt.2 (Nat.le_trans (by decide +kernel) h1)))) jsu ((jqg n a).symm.trans h)⟩,rfl⟩
def qx9 (n:Nat):List LC:=[]
def q9q (n:Nat) (a1:Int) (a2:Int):Option (Int) :=
 (qya n a1).bind fun (r1:Bool)=>(qya n a2).bind fun (r2:Bool)=>(bif r1 then (bif r2 then some (0:Int) else some (-1:Int)) else (bif r2 then some (1:Int) else (bif decide (a1<a2) then some (-1:Int) else (bif decide (a2<a1) then some (1:Int) else some (0:Int)))))
def q8p (n:Nat):FC:={ f:=99,args:=[.one (.c (.d (.int .i64))),.one (.c (.d (.int .i64)))],res:=.one (.c (.d (.int .i64))),F:=fun p=>q9q n p.1 p.2 }
def j53 (n:Nat):List FC:=[qis n]
theorem jaw (n:Nat) {G:World->Prop} (hG:Know Inv G) : ∀c∈j53 n,q0z Tryz.prog G c/\q0a c.args=true:=List.forall_mem_cons.2 ⟨js3 n G hG,(fun _ h=>by cases h)⟩
def j67:q09:=[]
theorem jkp:drB j67 (q00 Tryz.f99)=true:=by kernel_rfl
theorem joe (n:Nat) : ∀a,(q8p n).F a=main Tryz.prog 20 (j53 n) (qx9 n) j67 (q00 Tryz.f99) [.tmp 4] (q8p n).args (q8p n).res a:=by intro a;kernel_rfl
theorem j1s (n:Nat):q0f Inv Tryz.prog (q8p n):=fun G hG=>⟨⟨by kernel_rfl,fun a r h=>q05 (c:=q00 Tryz.f99) Tryz.func99 (by kernel_rfl) (by kernel_rfl) (Nat.le_of_ble_eq_true (by kernel_rfl)) hG.st (by kernel_rfl) (rs:=[.tmp 4]) (by kernel_rfl) (jaw n hG) (lts:=qx9 n) (fun F hF hFG=>have hK:Know Inv F.G:=hFG ▸ hG;(q02 fun j L h1 h2 h3=>absurd h2 (Nat.not_lt.2 (Nat.le_trans (by decide +kernel) h1)))) jkp ((joe n a).symm.trans h)⟩,rfl⟩
@[reducible] def qh0:SSt:=⟨[(3,.one (.c (.d (.int .i64)))),(6,.one (.c (.d (.lst (.int .i64))))),(7,.one (.c (.d (.int .i64)))),(8,.one (.c (.d (.int .i64))))],[],[]⟩
@[reducible] def qad:List (Exit×SSt):=[(.ret,⟨[(2,.one (.c (.d (.int .i64))))],[],[]⟩),(.exit 0,⟨[(3,.one (.c (.d (.int .i64))))],[],[]⟩)]
def j0s (n:Nat) (rec:Int->(List (Int))->Int->Int->Option (((Int×(Unit))×(Unit)×(Unit))⊕((Int×(Unit))×(Unit)×(Unit)))) (a1:Int) (a2:List (Int)) (a3:Int) (a4:Int):Option (((Int×(Unit))×(Unit)×(Unit))⊕((Int×(Unit))×(Unit)×(Unit))) :=
 (bif decide (a4<a3) then (q1a a2 a4).bind fun (x1:Int)=>(bif !decide (x1=a1) then some (Sum.inl ((x1,()),((),()))) else q0d (IntKind.wrap .i64 (a4+(1:Int))) fun (n2:Int)=>rec a1 a2 a3 n2) else some (Sum.inr (((a1,()),((),())))))
def qzl (n:Nat) (rec:pSt qh0->Option (q0b qad)) (p:pSt qh0):Option (q0b qad):=j0s n (fun a1 a2 a3 a4=>rec ((a1,(a2,(a3,(a4,())))),((),()))) p.1.1 p.1.2.1 p.1.2.2.1 p.1.2.2.2.1
def qaa (n m:Nat) (a1:Int) (a2:List (Int)) (a3:Int) (a4:Int):Option (((Int×(Unit))×(Unit)×(Unit))⊕((Int×(Unit))×(Unit)×(Unit))):=q0c (qzl n) m ((a1,(a2,(a3,(a4,())))),((),()))
theorem qnj (n m:Nat) (a1:Int) (a2:List (Int)) (a3:Int) (a4:Int):qaa n (m+1) a1 a2 a3 a4=j0s n (fun a1 a2 a3 a4=>qaa n m a1 a2 a3 a4) a1 a2 a3 a4:=rfl
def jdw (n:Nat):LC:={ sh:=qh0,outs:=qad,F:=q0c (qzl n) n }
def qtv (n:Nat):List LC:=[jdw n]
def qr5 (n:Nat) (a1:List (Int)):Option (Int) :=
 (qaa n n (0:Int) a1 ((List.length a1:Nat):Int) (0:Int)).bind fun (o3:((Int×(Unit))×(Unit)×(Unit))⊕((Int×(Unit))×(Unit)×(Unit)))=>Sum.elim (fun (q4:(Int×(Unit))×(Unit)×(Unit))=>some q4.1.1) (fun (q5:(Int×(Unit))×(Unit)×(Unit))=>some q5.1.1) o3
def qd3 (n:Nat):FC:={ f:=98,args:=[.one (.c (.d (.lst (.int .i64))))],res:=.one (.c (.d (.int .i64))),F:=fun p=>qr5 n p }
def j0f (n:Nat):List FC:=[]
theorem qwy (n:Nat) {G:World->Prop} (hG:Know Inv G) : ∀c∈j0f n,q0z Tryz.prog G c/\q0a c.args=true:=(fun _ h=>by cases h)
def qy5:q09:=[]
theorem jf0:drB qy5 (q00 Tryz.f98)=true:=by kernel_rfl
theorem jjj (n:Nat) : ∀rec p,qzl n rec p=round Tryz.prog 18 (j0f n) (qtv n) qy5 1 qh0 qad (q01 0 0 (q00 Tryz.f98)) rec p:=by intro rec p;kernel_rfl
theorem jhp (n:Nat) {F:Fr} (hF:F.n=18) (hK:Know Inv F.G):q57 Tryz.prog F (jdw n) (q01 0 0 (q00 Tryz.f98)) :=
 q0e hF (by kernel_rfl) (qwy n hK) (jjj n) (fuel:=n) (fun _=>rfl) (q02 fun j L h1 h2 h3=>absurd h2 (Nat.not_lt.2 (Nat.le_trans (by decide +kernel) h1))) (q0j jf0)
theorem jra (n:Nat) : ∀a,(qd3 n).F a=main Tryz.prog 18 (j0f n) (qtv n) qy5 (q00 Tryz.f98) [.tmp 2] (qd3 n).args (qd3 n).res a:=by intro a;kernel_rfl
theorem je4 (n:Nat):q0f Inv Tryz.prog (qd3 n):=fun G hG=>⟨⟨by kernel_rfl,fun a r h=>q05 (c:=q00 Tryz.f98) Tryz.func98 (by kernel_rfl) (by kernel_rfl) (Nat.le_of_ble_eq_true (by kernel_rfl)) hG.st (by kernel_rfl) (rs:=[.tmp 2]) (by kernel_rfl) (qwy n hG) (lts:=qtv n) (fun F hF hFG=>have hK:Know Inv F.G:=hFG ▸ hG;(q02 (c:=(q00 Tryz.f98)) (fun j L h1 h2 h3=>by
  have h2':j<1:=Nat.lt_of_lt_of_le h2 (by decide +kernel)
  match j,h1,h2',h3 with
  | 0,_,_,h3=>obtain rfl:=Option.some.inj h3;exact (show q01 0 0 (q00 Tryz.f98)=q01 0 0 (q00 Tryz.f98) by kernel_rfl) ▸ jhp n hF hK
  | j+1,_,h2',_=>exact absurd h2' (by omega)))) jf0 ((jra n a).symm.trans h)⟩,rfl⟩
@[reducible] def qcy:SSt:=⟨[(1,.one (.c (.box 1 0))),(11,.one (.agg [.d (.int .i64),.d (.int .i64),.d (.int .i64)])),(12,.one (.c (.d (.int .i64))))],[(1,(26,[.d (.int .i64),.d (.int .i64),.d (.int .i64),.d .str,.d .str]))],[]⟩
@[reducible] def q77:List (Exit×SSt):=[(.ret,⟨[(2,.one (.c (.d .bool)))],[],[]⟩),(.exit 0,⟨[(1,.one (.c (.box 1 0)))],[(1,(26,[.d (.int .i64),.d (.int .i64),.d (.int .i64),.d .str,.d .str]))],[]⟩)]
def qib (n:Nat) (rec:Int->Int->Int->Int->Int->Int->Int->(List UInt8)->(List UInt8)->Option (((Bool×(Unit))×(Unit)×(Unit))⊕((Unit×(Unit))×((Int×(Int×(Int×((List UInt8)×(List UInt8)))))×(Unit))×(Unit)))) (a1:Int) (a2:Int) (a3:Int) (a4:Int) (a5:Int) (a6:Int) (a7:Int) (a8:List UInt8) (a9:List UInt8):Option (((Bool×(Unit))×(Unit)×(Unit))⊕((Unit×(Unit))×((Int×(Int×(Int×((List UInt8)×(List UInt8)))))×(Unit))×(Unit))) :=
 (bif decide (a4<(3:Int)) then (q1a ([a1,a2,a3]:List (Int)) a4).bind fun (x1:Int)=>(bif decide (x1<(0:Int)) then some (Sum.inl ((false,()),((),()))) else (bif decide ((999999999:Int)<x1) then some (Sum.inl ((false,()),((),()))) else q0d (IntKind.wrap .i64 (a4+(1:Int))) fun (n2:Int)=>rec a1 a2 a3 n2 a5 a6 a7 a8 a9)) else some (Sum.inr ((((),()),(((a5,(a6,(a7,(a8,a9)))),()),())))))
def qu8 (n:Nat) (rec:pSt qcy->Option (q0b q77)) (p:pSt qcy):Option (q0b q77):=qib n (fun a1 a2 a3 a4 a5 a6 a7 a8 a9=>rec (((),((a1,(a2,a3)),(a4,()))),(((a5,(a6,(a7,(a8,a9)))),()),()))) p.1.2.1.1 p.1.2.1.2.1 p.1.2.1.2.2 p.1.2.2.1 p.2.1.1.1 p.2.1.1.2.1 p.2.1.1.2.2.1 p.2.1.1.2.2.2.1 p.2.1.1.2.2.2.2
def q4s (n m:Nat) (a1:Int) (a2:Int) (a3:Int) (a4:Int) (a5:Int) (a6:Int) (a7:Int) (a8:List UInt8) (a9:List UInt8):Option (((Bool×(Unit))×(Unit)×(Unit))⊕((Unit×(Unit))×((Int×(Int×(Int×((List UInt8)×(List UInt8)))))×(Unit))×(Unit))):=q0c (qu8 n) m (((),((a1,(a2,a3)),(a4,()))),(((a5,(a6,(a7,(a8,a9)))),()),()))
theorem q8n (n m:Nat) (a1:Int) (a2:Int) (a3:Int) (a4:Int) (a5:Int) (a6:Int) (a7:Int) (a8:List UInt8) (a9:List UInt8):q4s n (m+1) a1 a2 a3 a4 a5 a6 a7 a8 a9=qib n (fun a1 a2 a3 a4 a5 a6 a7 a8 a9=>q4s n m a1 a2 a3 a4 a5 a6 a7 a8 a9) a1 a2 a3 a4 a5 a6 a7 a8 a9:=rfl
def j3f (n:Nat):LC:={ sh:=qcy,outs:=q77,F:=q0c (qu8 n) n }
def qlm (n:Nat):List LC:=[j3f n]
def q7g (n:Nat) (a1:Int×(Int×(Int×((List UInt8)×(List UInt8))))):Option (Bool) :=
 (q4s n n a1.1 a1.2.1 a1.2.2.1 (0:Int) a1.1 a1.2.1 a1.2.2.1 a1.2.2.2.1 a1.2.2.2.2).bind fun (o3:((Bool×(Unit))×(Unit)×(Unit))⊕((Unit×(Unit))×((Int×(Int×(Int×((List UInt8)×(List UInt8)))))×(Unit))×(Unit)))=>Sum.elim (fun (q4:(Bool×(Unit))×(Unit)×(Unit))=>some q4.1.1) (fun (q5:(Unit×(Unit))×((Int×(Int×(Int×((List UInt8)×(List UInt8)))))×(Unit))×(Unit))=>(qte q5.2.1.1.2.2.2.1 ()).bind fun (r6:Bool)=>(bif r6 then (ql5 q5.2.1.1.2.2.2.2 ()).bind fun (r7:Bool)=>some r7 else some false)) o3
def q4x (n:Nat):FC:={ f:=67,args:=[.one (.agg [.d (.int .i64),.d (.int .i64),.d (.int .i64),.d .str,.d .str])],res:=.one (.c (.d .bool)),F:=fun p=>q7g n p }
def qrm (n:Nat):List FC:=[qwq,qr3]
theorem qpe (n:Nat) {G:World->Prop} (hG:Know Inv G) : ∀c∈qrm n,q0z Tryz.prog G c/\q0a c.args=true:=List.forall_mem_cons.2 ⟨jgc G hG,List.forall_mem_cons.2 ⟨jao G hG,(fun _ h=>by cases h)⟩⟩
def qr7:q09:=[]
theorem j41:drB qr7 (q00 Tryz.f67)=true:=by kernel_rfl
theorem jfx (n:Nat) : ∀rec p,qu8 n rec p=round Tryz.prog 30 (qrm n) (qlm n) qr7 1 qcy q77 (q01 0 0 (q00 Tryz.f67)) rec p:=by intro rec p;kernel_rfl
theorem j9j (n:Nat) {F:Fr} (hF:F.n=30) (hK:Know Inv F.G):q57 Tryz.prog F (j3f n) (q01 0 0 (q00 Tryz.f67)) :=
 q0e hF (by kernel_rfl) (qpe n hK) (jfx n) (fuel:=n) (fun _=>rfl) (q02 fun j L h1 h2 h3=>absurd h2 (Nat.not_lt.2 (Nat.le_trans (by decide +kernel) h1))) (q0j j41)
theorem jlc (n:Nat) : ∀a,(q4x n).F a=main Tryz.prog 30 (qrm n) (qlm n) qr7 (q00 Tryz.f67) [.tmp 2] (q4x n).args (q4x n).res a:=by intro a;kernel_rfl
theorem qh3 (n:Nat):q0f Inv Tryz.prog (q4x n):=fun G hG=>⟨⟨by kernel_rfl,fun a r h=>q05 (c:=q00 Tryz.f67) Tryz.func67 (by kernel_rfl) (by kernel_rfl) (Nat.le_of_ble_eq_true (by kernel_rfl)) hG.st (by kernel_rfl) (rs:=[.tmp 2]) (by kernel_rfl) (qpe n hG) (lts:=qlm n) (fun F hF hFG=>have hK:Know Inv F.G:=hFG ▸ hG;(q02 (c:=(q00 Tryz.f67)) (fun j L h1 h2 h3=>by
  have h2':j<1:=Nat.lt_of_lt_of_le h2 (by decide +kernel)
  match j,h1,h2',h3 with
  | 0,_,_,h3=>obtain rfl:=Option.some.inj h3;exact (show q01 0 0 (q00 Tryz.f67)=q01 0 0 (q00 Tryz.f67) by kernel_rfl) ▸ j9j n hF hK
  | j+1,_,h2',_=>exact absurd h2' (by omega)))) j41 ((jlc n a).symm.trans h)⟩,rfl⟩
def qy0 (n:Nat):List LC:=[]
def qgz (n:Nat) (a1:Int×(Int×(Int×((List UInt8)×(List UInt8))))) (a2:Int):Option (Int×(Int×(Int×((List UInt8)×(List UInt8))))) :=
 (bif decide (a2=(3:Int)) then some (a1.1,((0:Int),((0:Int),a1.2.2.2))) else (bif decide (a2=(2:Int)) then some (a1.1,(a1.2.1,((0:Int),a1.2.2.2))) else some a1))
def qca (n:Nat):FC:={ f:=104,args:=[.one (.agg [.d (.int .i64),.d (.int .i64),.d (.int .i64),.d .str,.d .str]),.one (.c (.d (.int .i64)))],res:=.one (.agg [.d (.int .i64),.d (.int .i64),.d (.int .i64),.d .str,.d .str]),F:=fun p=>qgz n p.1 p.2 }
def j5n (n:Nat):List FC:=[]
theorem j8i (n:Nat) {G:World->Prop} (hG:Know Inv G) : ∀c∈j5n n,q0z Tryz.prog G c/\q0a c.args=true:=(fun _ h=>by cases h)
def j2u:q09:=[]
theorem jpq:drB j2u (q00 Tryz.f104)=true:=by kernel_rfl
theorem jpn (n:Nat) : ∀a,(qca n).F a=main Tryz.prog 13 (j5n n) (qy0 n) j2u (q00 Tryz.f104) [.cell 4 26] (qca n).args (qca n).res a:=by intro a;kernel_rfl
theorem jos (n:Nat):q0f Inv Tryz.prog (qca n):=fun G hG=>⟨⟨by kernel_rfl,fun a r h=>q05 (c:=q00 Tryz.f104) Tryz.func104 (by kernel_rfl) (by kernel_rfl) (Nat.le_of_ble_eq_true (by kernel_rfl)) hG.st (by kernel_rfl) (rs:=[.cell 4 26]) (by kernel_rfl) (j8i n hG) (lts:=qy0 n) (fun F hF hFG=>have hK:Know Inv F.G:=hFG ▸ hG;(q02 fun j L h1 h2 h3=>absurd h2 (Nat.not_lt.2 (Nat.le_trans (by decide +kernel) h1)))) jpq ((jpn n a).symm.trans h)⟩,rfl⟩
def j64 (n:Nat):List LC:=[]
def j1h (n:Nat) (a1:List UInt8) (a2:List UInt8):Option (Int) :=
 (q66 n a1).bind fun (r1:Bool)=>(q66 n a2).bind fun (r2:Bool)=>(bif r1 then (bif r2 then (q9q n ((List.length a1:Nat):Int) ((List.length a2:Nat):Int)).bind fun (r3:Int)=>(qhs a1 a2).bind fun (r4:Int)=>(qr5 n ([r3,r4]:List (Int))).bind fun (r5:Int)=>some r5 else (bif r1 then some (-1:Int) else (bif r2 then some (1:Int) else (qhs a1 a2).bind fun (r6:Int)=>some r6))) else (bif r1 then some (-1:Int) else (bif r2 then some (1:Int) else (qhs a1 a2).bind fun (r7:Int)=>some r7)))
def qi8 (n:Nat):FC:={ f:=131,args:=[.one (.c (.d .str)),.one (.c (.d .str))],res:=.one (.c (.d (.int .i64))),F:=fun p=>j1h n p.1 p.2 }
def jf8 (n:Nat):List FC:=[q40 n,q8p n,qw1,qd3 n]
theorem jhe (n:Nat) {G:World->Prop} (hG:Know Inv G) : ∀c∈jf8 n,q0z Tryz.prog G c/\q0a c.args=true:=List.forall_mem_cons.2 ⟨qst n G hG,List.forall_mem_cons.2 ⟨j1s n G hG,List.forall_mem_cons.2 ⟨jfk G hG,List.forall_mem_cons.2 ⟨je4 n G hG,(fun _ h=>by cases h)⟩⟩⟩⟩
def jei:q09:=[]
theorem jsy:drB jei (q00 Tryz.f131)=true:=by kernel_rfl
theorem jt7 (n:Nat) : ∀a,(qi8 n).F a=main Tryz.prog 33 (jf8 n) (j64 n) jei (q00 Tryz.f131) [.tmp 4] (qi8 n).args (qi8 n).res a:=by intro a;kernel_rfl
theorem jqz (n:Nat):q0f Inv Tryz.prog (qi8 n):=fun G hG=>⟨⟨by kernel_rfl,fun a r h=>q05 (c:=q00 Tryz.f131) Tryz.func131 (by kernel_rfl) (by kernel_rfl) (Nat.le_of_ble_eq_true (by kernel_rfl)) hG.st (by kernel_rfl) (rs:=[.tmp 4]) (by kernel_rfl) (jhe n hG) (lts:=j64 n) (fun F hF hFG=>have hK:Know Inv F.G:=hFG ▸ hG;(q02 fun j L h1 h2 h3=>absurd h2 (Nat.not_lt.2 (Nat.le_trans (by decide +kernel) h1)))) jsy ((jt7 n a).symm.trans h)⟩,rfl⟩
@[reducible] def qan:SSt:=⟨[(0,.one (.c (.d (.lst .str)))),(1,.one (.c (.d (.lst .str)))),(2,.one (.c (.fn 131 []))),(11,.one (.c (.d (.lst .str)))),(12,.one (.c (.d (.int .i64)))),(13,.one (.c (.d (.int .i64))))],[],[]⟩
@[reducible] def q5y:List (Exit×SSt):=[(.ret,⟨[(6,.one (.c (.d (.int .i64))))],[],[]⟩),(.exit 0,⟨[(0,.one (.c (.d (.lst .str)))),(1,.one (.c (.d (.lst .str))))],[],[]⟩)]
def qkw (n:Nat) (rec:(List (List UInt8))->(List (List UInt8))->(List (List UInt8))->Int->Int->Option (((Int×(Unit))×(Unit)×(Unit))⊕(((List (List UInt8))×((List (List UInt8))×(Unit)))×(Unit)×(Unit)))) (a1:List (List UInt8)) (a2:List (List UInt8)) (a3:List (List UInt8)) (a4:Int) (a5:Int):Option (((Int×(Unit))×(Unit)×(Unit))⊕(((List (List UInt8))×((List (List UInt8))×(Unit)))×(Unit)×(Unit))) :=
 (bif decide (a5<a4) then (q1a a3 a5).bind fun (x1:List UInt8)=>(bif decide (((List.length a2:Nat):Int)<=a5) then some (Sum.inl (((1:Int),()),((),()))) else (q1a a2 a5).bind fun (x2:List UInt8)=>(j1h n x1 x2).bind fun (r3:Int)=>(bif !decide (r3=(0:Int)) then some (Sum.inl ((r3,()),((),()))) else q0d (IntKind.wrap .i64 (a5+(1:Int))) fun (n4:Int)=>rec a1 a2 a3 a4 n4)) else some (Sum.inr (((a1,(a2,())),((),())))))
def qkv (n:Nat) (rec:pSt qan->Option (q0b q5y)) (p:pSt qan):Option (q0b q5y):=qkw n (fun a1 a2 a3 a4 a5=>rec ((a1,(a2,((),(a3,(a4,(a5,())))))),((),()))) p.1.1 p.1.2.1 p.1.2.2.2.1 p.1.2.2.2.2.1 p.1.2.2.2.2.2.1
def q5v (n m:Nat) (a1:List (List UInt8)) (a2:List (List UInt8)) (a3:List (List UInt8)) (a4:Int) (a5:Int):Option (((Int×(Unit))×(Unit)×(Unit))⊕(((List (List UInt8))×((List (List UInt8))×(Unit)))×(Unit)×(Unit))):=q0c (qkv n) m ((a1,(a2,((),(a3,(a4,(a5,())))))),((),()))
theorem qiu (n m:Nat) (a1:List (List UInt8)) (a2:List (List UInt8)) (a3:List (List UInt8)) (a4:Int) (a5:Int):q5v n (m+1) a1 a2 a3 a4 a5=qkw n (fun a1 a2 a3 a4 a5=>q5v n m a1 a2 a3 a4 a5) a1 a2 a3 a4 a5:=rfl
def qvw (n:Nat):LC:={ sh:=qan,outs:=q5y,F:=q0c (qkv n) n }
def qex (n:Nat):List LC:=[qvw n]
def qqd (n:Nat) (a1:List (List UInt8)) (a2:List (List UInt8)) (a3:Unit):Option (Int) :=
 (q5v n n a1 a2 a1 ((List.length a1:Nat):Int) (0:Int)).bind fun (o5:((Int×(Unit))×(Unit)×(Unit))⊕(((List (List UInt8))×((List (List UInt8))×(Unit)))×(Unit)×(Unit)))=>Sum.elim (fun (q6:(Int×(Unit))×(Unit)×(Unit))=>some q6.1.1) (fun (q7:((List (List UInt8))×((List (List UInt8))×(Unit)))×(Unit)×(Unit))=>(bif decide (((List.length q7.1.1:Nat):Int)<((List.length q7.1.2.1:Nat):Int)) then some (-1:Int) else some (0:Int))) o5
def q99 (n:Nat):FC:={ f:=129,args:=[.one (.c (.d (.lst .str))),.one (.c (.d (.lst .str))),.one (.c (.fn 131 []))],res:=.one (.c (.d (.int .i64))),F:=fun p=>qqd n p.1 p.2.1 p.2.2 }
def qls (n:Nat):List FC:=[qi8 n]
theorem qm3 (n:Nat) {G:World->Prop} (hG:Know Inv G) : ∀c∈qls n,q0z Tryz.prog G c/\q0a c.args=true:=List.forall_mem_cons.2 ⟨jqz n G hG,(fun _ h=>by cases h)⟩
def ql4:q09:=[]
theorem qwp:drB ql4 (q00 Tryz.f129)=true:=by kernel_rfl
theorem jbe (n:Nat) : ∀rec p,qkv n rec p=round Tryz.prog 39 (qls n) (qex n) ql4 1 qan q5y (q01 0 0 (q00 Tryz.f129)) rec p:=by intro rec p;kernel_rfl
theorem j4i (n:Nat) {F:Fr} (hF:F.n=39) (hK:Know Inv F.G):q57 Tryz.prog F (qvw n) (q01 0 0 (q00 Tryz.f129)) :=
 q0e hF (by kernel_rfl) (qm3 n hK) (jbe n) (fuel:=n) (fun _=>rfl) (q02 fun j L h1 h2 h3=>absurd h2 (Nat.not_lt.2 (Nat.le_trans (by decide +kernel) h1))) (q0j qwp)
theorem jhd (n:Nat) : ∀a,(q99 n).F a=main Tryz.prog 39 (qls n) (qex n) ql4 (q00 Tryz.f129) [.tmp 6] (q99 n).args (q99 n).res a:=by intro a;kernel_rfl
theorem jh5 (n:Nat):q0f Inv Tryz.prog (q99 n):=fun G hG=>⟨⟨by kernel_rfl,fun a r h=>q05 (c:=q00 Tryz.f129) Tryz.func129 (by kernel_rfl) (by kernel_rfl) (Nat.le_of_ble_eq_true (by kernel_rfl)) hG.st (by kernel_rfl) (rs:=[.tmp 6]) (by kernel_rfl) (qm3 n hG) (lts:=qex n) (fun F hF hFG=>have hK:Know Inv F.G:=hFG ▸ hG;(q02 (c:=(q00 Tryz.f129)) (fun j L h1 h2 h3=>by
  have h2':j<1:=Nat.lt_of_lt_of_le h2 (by decide +kernel)
  match j,h1,h2',h3 with
  | 0,_,_,h3=>obtain rfl:=Option.some.inj h3;exact (show q01 0 0 (q00 Tryz.f129)=q01 0 0 (q00 Tryz.f129) by kernel_rfl) ▸ j4i n hF hK
  | j+1,_,h2',_=>exact absurd h2' (by omega)))) qwp ((jhd n a).symm.trans h)⟩,rfl⟩
def jdv (n:Nat):List LC:=[]
def jdg (n:Nat) (a1:List UInt8) (a2:List UInt8):Option (Int) :=
 (bif decide (a1=a2) then some (0:Int) else (bif decide (a1=([]:List UInt8)) then some (1:Int) else (bif decide (a2=([]:List UInt8)) then some (-1:Int) else (qev a1 ([46]:List UInt8)).bind fun (r1:List (List UInt8))=>(qev a2 ([46]:List UInt8)).bind fun (r2:List (List UInt8))=>(qqd n r1 r2 ()).bind fun (r3:Int)=>some r3)))
def qra (n:Nat):FC:={ f:=100,args:=[.one (.c (.d .str)),.one (.c (.d .str))],res:=.one (.c (.d (.int .i64))),F:=fun p=>jdg n p.1 p.2 }
def joi (n:Nat):List FC:=[jcm,q99 n]
theorem jjh (n:Nat) {G:World->Prop} (hG:Know Inv G) : ∀c∈joi n,q0z Tryz.prog G c/\q0a c.args=true:=List.forall_mem_cons.2 ⟨jqm G hG,List.forall_mem_cons.2 ⟨jh5 n G hG,(fun _ h=>by cases h)⟩⟩
def jo4:q09:=[]
theorem jwp:drB jo4 (q00 Tryz.f100)=true:=by kernel_rfl
theorem jvk (n:Nat) : ∀a,(qra n).F a=main Tryz.prog 20 (joi n) (jdv n) jo4 (q00 Tryz.f100) [.tmp 4] (qra n).args (qra n).res a:=by intro a;kernel_rfl
theorem jx6 (n:Nat):q0f Inv Tryz.prog (qra n):=fun G hG=>⟨⟨by kernel_rfl,fun a r h=>q05 (c:=q00 Tryz.f100) Tryz.func100 (by kernel_rfl) (by kernel_rfl) (Nat.le_of_ble_eq_true (by kernel_rfl)) hG.st (by kernel_rfl) (rs:=[.tmp 4]) (by kernel_rfl) (jjh n hG) (lts:=jdv n) (fun F hF hFG=>have hK:Know Inv F.G:=hFG ▸ hG;(q02 fun j L h1 h2 h3=>absurd h2 (Nat.not_lt.2 (Nat.le_trans (by decide +kernel) h1)))) jwp ((jvk n a).symm.trans h)⟩,rfl⟩
def qn9 (n:Nat):List LC:=[]
def q64 (n:Nat) (a1:Int×(Int×(Int×((List UInt8)×(List UInt8))))) (a2:Int×(Int×(Int×((List UInt8)×(List UInt8))))):Option (Int) :=
 (q7g n a1).bind fun (r1:Bool)=>(bif !r1 then some (0:Int) else (q7g n a2).bind fun (r2:Bool)=>(bif !r2 then some (0:Int) else (q9q n a1.1 a2.1).bind fun (r3:Int)=>(q9q n a1.2.1 a2.2.1).bind fun (r4:Int)=>(q9q n a1.2.2.1 a2.2.2.1).bind fun (r5:Int)=>(jdg n a1.2.2.2.1 a2.2.2.2.1).bind fun (r6:Int)=>(qr5 n ([r3,r4,r5,r6]:List (Int))).bind fun (r7:Int)=>some r7))
def q3t (n:Nat):FC:={ f:=66,args:=[.one (.agg [.d (.int .i64),.d (.int .i64),.d (.int .i64),.d .str,.d .str]),.one (.agg [.d (.int .i64),.d (.int .i64),.d (.int .i64),.d .str,.d .str])],res:=.one (.c (.d (.int .i64))),F:=fun p=>q64 n p.1 p.2 }
def qse (n:Nat):List FC:=[q4x n,q8p n,qra n,qd3 n]
theorem j18 (n:Nat) {G:World->Prop} (hG:Know Inv G) : ∀c∈qse n,q0z Tryz.prog G c/\q0a c.args=true:=List.forall_mem_cons.2 ⟨qh3 n G hG,List.forall_mem_cons.2 ⟨j1s n G hG,List.forall_mem_cons.2 ⟨jx6 n G hG,List.forall_mem_cons.2 ⟨je4 n G hG,(fun _ h=>by cases h)⟩⟩⟩⟩
def qu1:q09:=[(3,[⟨3298534883520,2^39,0⟩,⟨26938034880640,2^42,1⟩,⟨211106232534528,2^45,0⟩,⟨1724034232353792,2^48,4⟩,⟨3137*2^42,2^51,15⟩,⟨108086391056892096,2^54,0⟩,⟨882705526964617344,2^57,32⟩,⟨6917529027641083392,2^60,0⟩,⟨56493153725735502848,2^63,128⟩,⟨3137*2^57,2^66,511⟩,⟨3541774862152233910464,2^69,0⟩,⟨28924494707576576934016,2^72,1024⟩,⟨226673591177742970258944,2^75,0⟩,⟨1851167661284900923769856,2^78,4096⟩,⟨3137*2^72,2^81,16383⟩,⟨116056878683004400771793088,2^84,0⟩,⟨947797842577869272969642112,2^87,32768⟩,⟨7427640235712281649394746880,2^90,0⟩,⟨60659061924983633470057088000,2^93,2^17⟩,⟨3137*2^87,2^96,524287⟩,⟨1724035306127361*2^51,5*2^99,1048575⟩,⟨53*2^99,2^102,2097151⟩,⟨5070602400912917605986812846080,4096,4194303⟩])]
theorem jav:drB qu1 (q00 Tryz.f66)=true:=by kernel_rfl
theorem j72 (n:Nat) : ∀a,(q3t n).F a=main Tryz.prog 35 (qse n) (qn9 n) qu1 (q00 Tryz.f66) [.tmp 4] (q3t n).args (q3t n).res a:=by intro a;kernel_rfl
theorem qso (n:Nat):q0f Inv Tryz.prog (q3t n):=fun G hG=>⟨⟨by kernel_rfl,fun a r h=>q05 (c:=q00 Tryz.f66) Tryz.func66 (by kernel_rfl) (by kernel_rfl) (Nat.le_of_ble_eq_true (by kernel_rfl)) hG.st (by kernel_rfl) (rs:=[.tmp 4]) (by kernel_rfl) (j18 n hG) (lts:=qn9 n) (fun F hF hFG=>have hK:Know Inv F.G:=hFG ▸ hG;(q02 fun j L h1 h2 h3=>absurd h2 (Nat.not_lt.2 (Nat.le_trans (by decide +kernel) h1)))) jav ((j72 n a).symm.trans h)⟩,rfl⟩
def j55 (n:Nat):List LC:=[]
def qyg (n:Nat) (a1:Int×(Int×(Int×((List UInt8)×(List UInt8))))) (a2:Int):Option ((Int×(Int×(Int×((List UInt8)×(List UInt8)))))×(Int)) :=
 (q7g n a1).bind fun (r1:Bool)=>(bif !r1 then some (((0:Int),((0:Int),((0:Int),(([]:List UInt8),([]:List UInt8))))),(1:Int)) else (bif decide (a2<(1:Int)) then some (((0:Int),((0:Int),((0:Int),(([]:List UInt8),([]:List UInt8))))),(1:Int)) else (bif decide ((3:Int)<a2) then some (((0:Int),((0:Int),((0:Int),(([]:List UInt8),([]:List UInt8))))),(1:Int)) else (qgz n (a1.1,(a1.2.1,(a1.2.2.1,(([]:List UInt8),([]:List UInt8))))) a2).bind fun (r2:Int×(Int×(Int×((List UInt8)×(List UInt8)))))=>(q64 n r2 a1).bind fun (r3:Int)=>(bif decide ((0:Int)<r3) then some (r2,(0:Int)) else (bif decide (a2=(1:Int)) then (bif decide (a1.2.2.1<(999999999:Int)) then q0d (IntKind.wrap .i64 (a1.2.2.1+(1:Int))) fun (n4:Int)=>some ((a1.1,(a1.2.1,(n4,(([]:List UInt8),([]:List UInt8))))),(0:Int)) else (bif decide (a1.2.1<(999999999:Int)) then q0d (IntKind.wrap .i64 (a1.2.1+(1:Int))) fun (n5:Int)=>some ((a1.1,(n5,((0:Int),(([]:List UInt8),([]:List UInt8))))),(0:Int)) else (bif decide (a1.1<(999999999:Int)) then q0d (IntKind.wrap .i64 (a1.1+(1:Int))) fun (n6:Int)=>some ((n6,((0:Int),((0:Int),(([]:List UInt8),([]:List UInt8))))),(0:Int)) else some (((0:Int),((0:Int),((0:Int),(([]:List UInt8),([]:List UInt8))))),(15:Int))))) else (bif decide (a2=(2:Int)) then (bif decide (a1.2.1<(999999999:Int)) then q0d (IntKind.wrap .i64 (a1.2.1+(1:Int))) fun (n7:Int)=>some ((a1.1,(n7,((0:Int),(([]:List UInt8),([]:List UInt8))))),(0:Int)) else (bif decide (a1.1<(999999999:Int)) then q0d (IntKind.wrap .i64 (a1.1+(1:Int))) fun (n8:Int)=>some ((n8,((0:Int),((0:Int),(([]:List UInt8),([]:List UInt8))))),(0:Int)) else some (((0:Int),((0:Int),((0:Int),(([]:List UInt8),([]:List UInt8))))),(15:Int)))) else (bif decide (a2=(3:Int)) then (bif decide (a1.1<(999999999:Int)) then q0d (IntKind.wrap .i64 (a1.1+(1:Int))) fun (n9:Int)=>some ((n9,((0:Int),((0:Int),(([]:List UInt8),([]:List UInt8))))),(0:Int)) else some (((0:Int),((0:Int),((0:Int),(([]:List UInt8),([]:List UInt8))))),(15:Int))) else some (((0:Int),((0:Int),((0:Int),(([]:List UInt8),([]:List UInt8))))),(15:Int)))))))))
def qgg (n:Nat):FC:={ f:=68,args:=[.one (.agg [.d (.int .i64),.d (.int .i64),.d (.int .i64),.d .str,.d .str]),.one (.c (.d (.int .i64)))],res:=.tup [.agg [.d (.int .i64),.d (.int .i64),.d (.int .i64),.d .str,.d .str],.c (.d (.int .i64))],F:=fun p=>qyg n p.1 p.2 }
def jbw (n:Nat):List FC:=[q4x n,qca n,q3t n]
theorem ji1 (n:Nat) {G:World->Prop} (hG:Know Inv G) : ∀c∈jbw n,q0z Tryz.prog G c/\q0a c.args=true:=List.forall_mem_cons.2 ⟨qh3 n G hG,List.forall_mem_cons.2 ⟨jos n G hG,List.forall_mem_cons.2 ⟨qso n G hG,(fun _ h=>by cases h)⟩⟩⟩
def jdu:q09:=[]
theorem js6:drB jdu (q00 Tryz.f68)=true:=by kernel_rfl
theorem jt0 (n:Nat) : ∀a,(qgg n).F a=main Tryz.prog 70 (jbw n) (j55 n) jdu (q00 Tryz.f68) [.cell 4 26,.tmp 5] (qgg n).args (qgg n).res a:=by intro a;kernel_rfl
theorem js8 (n:Nat):q0f Inv Tryz.prog (qgg n):=fun G hG=>⟨⟨by kernel_rfl,fun a r h=>q05 (c:=q00 Tryz.f68) Tryz.func68 (by kernel_rfl) (by kernel_rfl) (Nat.le_of_ble_eq_true (by kernel_rfl)) hG.st (by kernel_rfl) (rs:=[.cell 4 26,.tmp 5]) (by kernel_rfl) (ji1 n hG) (lts:=j55 n) (fun F hF hFG=>have hK:Know Inv F.G:=hFG ▸ hG;(q02 fun j L h1 h2 h3=>absurd h2 (Nat.not_lt.2 (Nat.le_trans (by decide +kernel) h1)))) js6 ((jt0 n a).symm.trans h)⟩,rfl⟩
@[reducible] def qao:SSt:=⟨[(0,.one (.c (.d .str))),(1,.one (.c (.d (.int .u8)))),(5,.one (.c (.row 31))),(6,.one (.c (.d (.int .i64)))),(7,.one (.c (.d (.int .i64))))],[],[(31,⟨9,true,.str⟩)]⟩
@[reducible] def q5u:List (Exit×SSt):=[(.exit 0,⟨[(5,.one (.c (.row 31)))],[],[(31,⟨9,true,.str⟩)]⟩)]
def qdj (n:Nat) (rec:(List UInt8)->Int->Int->Int->(List (List UInt8))->Option ((Unit×(Unit))×(Unit)×((List (List UInt8))×(Unit)))) (a1:List UInt8) (a2:Int) (a3:Int) (a4:Int) (a5:List (List UInt8)):Option ((Unit×(Unit))×(Unit)×((List (List UInt8))×(Unit))) :=
 (bif decide (a4<=((List.length a1:Nat):Int)) then (bif decide (a4=((List.length a1:Nat):Int)) then (qv2 a1 a3 a4).bind fun (s1:List UInt8)=>(qxh 16 a5 ([s1]:List (List UInt8))).bind fun (l2:List (List UInt8))=>q0d (IntKind.wrap .i64 (a4+(1:Int))) fun (n3:Int)=>q0d (IntKind.wrap .i64 (a4+(1:Int))) fun (n4:Int)=>rec a1 a2 n3 n4 l2 else (sAt a1 a4).bind fun (c5:Int)=>(bif decide (c5=a2) then (qv2 a1 a3 a4).bind fun (s6:List UInt8)=>(qxh 16 a5 ([s6]:List (List UInt8))).bind fun (l7:List (List UInt8))=>q0d (IntKind.wrap .i64 (a4+(1:Int))) fun (n8:Int)=>q0d (IntKind.wrap .i64 (a4+(1:Int))) fun (n9:Int)=>rec a1 a2 n8 n9 l7 else q0d (IntKind.wrap .i64 (a4+(1:Int))) fun (n10:Int)=>rec a1 a2 a3 n10 a5)) else some ((((),()),((),(a5,())))))
def qkt (n:Nat) (rec:pSt qao->Option (q0b q5u)) (p:pSt qao):Option (q0b q5u):=qdj n (fun a1 a2 a3 a4 a5=>rec ((a1,(a2,((),(a3,(a4,()))))),((),(a5,())))) p.1.1 p.1.2.1 p.1.2.2.2.1 p.1.2.2.2.2.1 p.2.2.1
def q5p (n m:Nat) (a1:List UInt8) (a2:Int) (a3:Int) (a4:Int) (a5:List (List UInt8)):Option ((Unit×(Unit))×(Unit)×((List (List UInt8))×(Unit))):=q0c (qkt n) m ((a1,(a2,((),(a3,(a4,()))))),((),(a5,())))
theorem q7z (n m:Nat) (a1:List UInt8) (a2:Int) (a3:Int) (a4:Int) (a5:List (List UInt8)):q5p n (m+1) a1 a2 a3 a4 a5=qdj n (fun a1 a2 a3 a4 a5=>q5p n m a1 a2 a3 a4 a5) a1 a2 a3 a4 a5:=rfl
def qwh (n:Nat):LC:={ sh:=qao,outs:=q5u,F:=q0c (qkt n) n }
def qf5 (n:Nat):List LC:=[qwh n]
def q1w (n:Nat) (a1:List UInt8) (a2:Int):Option (List (List UInt8)) :=
 (q5p n n a1 a2 (0:Int) (0:Int) []).bind fun (o11:(Unit×(Unit))×(Unit)×((List (List UInt8))×(Unit)))=>some o11.2.2.1
def q2q (n:Nat):FC:={ f:=62,args:=[.one (.c (.d .str)),.one (.c (.d (.int .u8)))],res:=.one (.c (.d (.lst .str))),F:=fun p=>q1w n p.1 p.2 }
def qjv (n:Nat):List FC:=[]
theorem qms (n:Nat) {G:World->Prop} (hG:Know Inv G) : ∀c∈qjv n,q0z Tryz.prog G c/\q0a c.args=true:=(fun _ h=>by cases h)
def qky:q09:=[]
theorem qxx:drB qky (q00 Tryz.f62)=true:=by kernel_rfl
theorem jbh (n:Nat) : ∀rec p,qkt n rec p=round Tryz.prog 35 (qjv n) (qf5 n) qky 1 qao q5u (q01 0 0 (q00 Tryz.f62)) rec p:=by intro rec p;kernel_rfl
theorem j2g (n:Nat) {F:Fr} (hF:F.n=35) (hK:Know Inv F.G):q57 Tryz.prog F (qwh n) (q01 0 0 (q00 Tryz.f62)) :=
 q0e hF (by kernel_rfl) (qms n hK) (jbh n) (fuel:=n) (fun _=>rfl) (q02 fun j L h1 h2 h3=>absurd h2 (Nat.not_lt.2 (Nat.le_trans (by decide +kernel) h1))) (q0j qxx)
theorem jfu (n:Nat) : ∀a,(q2q n).F a=main Tryz.prog 35 (qjv n) (qf5 n) qky (q00 Tryz.f62) [.tmp 4] (q2q n).args (q2q n).res a:=by intro a;kernel_rfl
theorem q8g (n:Nat):q0f Inv Tryz.prog (q2q n):=fun G hG=>⟨⟨by kernel_rfl,fun a r h=>q05 (c:=q00 Tryz.f62) Tryz.func62 (by kernel_rfl) (by kernel_rfl) (Nat.le_of_ble_eq_true (by kernel_rfl)) hG.st (by kernel_rfl) (rs:=[.tmp 4]) (by kernel_rfl) (qms n hG) (lts:=qf5 n) (fun F hF hFG=>have hK:Know Inv F.G:=hFG ▸ hG;(q02 (c:=(q00 Tryz.f62)) (fun j L h1 h2 h3=>by
  have h2':j<1:=Nat.lt_of_lt_of_le h2 (by decide +kernel)
  match j,h1,h2',h3 with
  | 0,_,_,h3=>obtain rfl:=Option.some.inj h3;exact (show q01 0 0 (q00 Tryz.f62)=q01 0 0 (q00 Tryz.f62) by kernel_rfl) ▸ j2g n hF hK
  | j+1,_,h2',_=>exact absurd h2' (by omega)))) qxx ((jfu n a).symm.trans h)⟩,rfl⟩
@[reducible] def q9f:SSt:=⟨[(0,.one (.c (.d .str))),(3,.one (.c (.d (.int .i64))))],[],[]⟩
@[reducible] def q5q:List (Exit×SSt):=[(.ret,⟨[(2,.one (.c (.d .bool)))],[],[]⟩),(.exit 0,⟨[(0,.one (.c (.d .str)))],[],[]⟩)]
def qkr (n:Nat) (rec:(List UInt8)->Int->Option (((Bool×(Unit))×(Unit)×(Unit))⊕(((List UInt8)×(Unit))×(Unit)×(Unit)))) (a1:List UInt8) (a2:Int):Option (((Bool×(Unit))×(Unit)×(Unit))⊕(((List UInt8)×(Unit))×(Unit)×(Unit))) :=
 (bif decide (a2<((List.length a1:Nat):Int)) then (sAt a1 a2).bind fun (c1:Int)=>(bif decide (c1<(48:Int)) then some (Sum.inl ((false,()),((),()))) else (sAt a1 a2).bind fun (c2:Int)=>(bif decide ((57:Int)<c2) then some (Sum.inl ((false,()),((),()))) else q0d (IntKind.wrap .i64 (a2+(1:Int))) fun (n3:Int)=>rec a1 n3)) else some (Sum.inr (((a1,()),((),())))))
def qly (n:Nat) (rec:pSt q9f->Option (q0b q5q)) (p:pSt q9f):Option (q0b q5q):=qkr n (fun a1 a2=>rec ((a1,(a2,())),((),()))) p.1.1 p.1.2.1
def q5k (n m:Nat) (a1:List UInt8) (a2:Int):Option (((Bool×(Unit))×(Unit)×(Unit))⊕(((List UInt8)×(Unit))×(Unit)×(Unit))):=q0c (qly n) m ((a1,(a2,())),((),()))
theorem qhr (n m:Nat) (a1:List UInt8) (a2:Int):q5k n (m+1) a1 a2=qkr n (fun a1 a2=>q5k n m a1 a2) a1 a2:=rfl
def qy4 (n:Nat):LC:={ sh:=q9f,outs:=q5q,F:=q0c (qly n) n }
def qf4 (n:Nat):List LC:=[qy4 n]
def q95 (n:Nat) (a1:List UInt8):Option (Bool) :=
 (q5k n n a1 (0:Int)).bind fun (o4:((Bool×(Unit))×(Unit)×(Unit))⊕(((List UInt8)×(Unit))×(Unit)×(Unit)))=>Sum.elim (fun (q5:(Bool×(Unit))×(Unit)×(Unit))=>some q5.1.1) (fun (q6:((List UInt8)×(Unit))×(Unit)×(Unit))=>some (!decide (q6.1.1=([]:List UInt8)))) o4
def q68 (n:Nat):FC:={ f:=105,args:=[.one (.c (.d .str))],res:=.one (.c (.d .bool)),F:=fun p=>q95 n p }
def qlz (n:Nat):List FC:=[]
theorem qmn (n:Nat) {G:World->Prop} (hG:Know Inv G) : ∀c∈qlz n,q0z Tryz.prog G c/\q0a c.args=true:=(fun _ h=>by cases h)
def qjg:q09:=[]
theorem qxy:drB qjg (q00 Tryz.f105)=true:=by kernel_rfl
theorem jac (n:Nat) : ∀rec p,qly n rec p=round Tryz.prog 22 (qlz n) (qf4 n) qjg 1 q9f q5q (q01 0 0 (q00 Tryz.f105)) rec p:=by intro rec p;kernel_rfl
theorem j2d (n:Nat) {F:Fr} (hF:F.n=22) (hK:Know Inv F.G):q57 Tryz.prog F (qy4 n) (q01 0 0 (q00 Tryz.f105)) :=
 q0e hF (by kernel_rfl) (qmn n hK) (jac n) (fuel:=n) (fun _=>rfl) (q02 fun j L h1 h2 h3=>absurd h2 (Nat.not_lt.2 (Nat.le_trans (by decide +kernel) h1))) (q0j qxy)
theorem jgj (n:Nat) : ∀a,(q68 n).F a=main Tryz.prog 22 (qlz n) (qf4 n) qjg (q00 Tryz.f105) [.tmp 2] (q68 n).args (q68 n).res a:=by intro a;kernel_rfl
theorem qxn (n:Nat):q0f Inv Tryz.prog (q68 n):=fun G hG=>⟨⟨by kernel_rfl,fun a r h=>q05 (c:=q00 Tryz.f105) Tryz.func105 (by kernel_rfl) (by kernel_rfl) (Nat.le_of_ble_eq_true (by kernel_rfl)) hG.st (by kernel_rfl) (rs:=[.tmp 2]) (by kernel_rfl) (qmn n hG) (lts:=qf4 n) (fun F hF hFG=>have hK:Know Inv F.G:=hFG ▸ hG;(q02 (c:=(q00 Tryz.f105)) (fun j L h1 h2 h3=>by
  have h2':j<1:=Nat.lt_of_lt_of_le h2 (by decide +kernel)
  match j,h1,h2',h3 with
  | 0,_,_,h3=>obtain rfl:=Option.some.inj h3;exact (show q01 0 0 (q00 Tryz.f105)=q01 0 0 (q00 Tryz.f105) by kernel_rfl) ▸ j2d n hF hK
  | j+1,_,h2',_=>exact absurd h2' (by omega)))) qxy ((jgj n a).symm.trans h)⟩,rfl⟩
@[reducible] def q9o:SSt:=⟨[(1,.one (.c (.d .bool))),(5,.one (.c (.d (.lst .str)))),(6,.one (.c (.d (.int .i64)))),(7,.one (.c (.d (.int .i64))))],[],[]⟩
@[reducible] def q61:List (Exit×SSt):=[(.ret,⟨[(4,.one (.c (.d .bool)))],[],[]⟩),(.exit 2,⟨[(1,.one (.c (.d .bool))),(5,.one (.c (.d (.lst .str)))),(6,.one (.c (.d (.int .i64))))],[],[]⟩)]
def qlc (n:Nat) (rec:Bool->(List (List UInt8))->Int->Int->Option (((Bool×(Unit))×(Unit)×(Unit))⊕((Bool×((List (List UInt8))×(Int×(Unit))))×(Unit)×(Unit)))) (a1:Bool) (a2:List (List UInt8)) (a3:Int) (a4:Int):Option (((Bool×(Unit))×(Unit)×(Unit))⊕((Bool×((List (List UInt8))×(Int×(Unit))))×(Unit)×(Unit))) :=
 (q1a a2 a3).bind fun (x2:List UInt8)=>(bif decide (a4<((List.length x2:Nat):Int)) then (q1a a2 a3).bind fun (x3:List UInt8)=>(sAt x3 a4).bind fun (c4:Int)=>(bif decide ((97:Int)<=c4) then (bif !(decide (c4<=(122:Int))) then (bif decide ((65:Int)<=c4) then (bif !(decide (c4<=(90:Int))) then (bif decide ((48:Int)<=c4) then (bif !(decide (c4<=(57:Int))) then (bif !decide (c4=(45:Int)) then some (Sum.inl ((false,()),((),()))) else q0d (IntKind.wrap .i64 (a4+(1:Int))) fun (n5:Int)=>rec a1 a2 a3 n5) else q0d (IntKind.wrap .i64 (a4+(1:Int))) fun (n6:Int)=>rec a1 a2 a3 n6) else (bif !decide (c4=(45:Int)) then some (Sum.inl ((false,()),((),()))) else q0d (IntKind.wrap .i64 (a4+(1:Int))) fun (n7:Int)=>rec a1 a2 a3 n7)) else q0d (IntKind.wrap .i64 (a4+(1:Int))) fun (n8:Int)=>rec a1 a2 a3 n8) else (bif decide ((48:Int)<=c4) then (bif !(decide (c4<=(57:Int))) then (bif !decide (c4=(45:Int)) then some (Sum.inl ((false,()),((),()))) else q0d (IntKind.wrap .i64 (a4+(1:Int))) fun (n9:Int)=>rec a1 a2 a3 n9) else q0d (IntKind.wrap .i64 (a4+(1:Int))) fun (n10:Int)=>rec a1 a2 a3 n10) else (bif !decide (c4=(45:Int)) then some (Sum.inl ((false,()),((),()))) else q0d (IntKind.wrap .i64 (a4+(1:Int))) fun (n11:Int)=>rec a1 a2 a3 n11))) else q0d (IntKind.wrap .i64 (a4+(1:Int))) fun (n12:Int)=>rec a1 a2 a3 n12) else (bif decide ((65:Int)<=c4) then (bif !(decide (c4<=(90:Int))) then (bif decide ((48:Int)<=c4) then (bif !(decide (c4<=(57:Int))) then (bif !decide (c4=(45:Int)) then some (Sum.inl ((false,()),((),()))) else q0d (IntKind.wrap .i64 (a4+(1:Int))) fun (n13:Int)=>rec a1 a2 a3 n13) else q0d (IntKind.wrap .i64 (a4+(1:Int))) fun (n14:Int)=>rec a1 a2 a3 n14) else (bif !decide (c4=(45:Int)) then some (Sum.inl ((false,()),((),()))) else q0d (IntKind.wrap .i64 (a4+(1:Int))) fun (n15:Int)=>rec a1 a2 a3 n15)) else q0d (IntKind.wrap .i64 (a4+(1:Int))) fun (n16:Int)=>rec a1 a2 a3 n16) else (bif decide ((48:Int)<=c4) then (bif !(decide (c4<=(57:Int))) then (bif !decide (c4=(45:Int)) then some (Sum.inl ((false,()),((),()))) else q0d (IntKind.wrap .i64 (a4+(1:Int))) fun (n17:Int)=>rec a1 a2 a3 n17) else q0d (IntKind.wrap .i64 (a4+(1:Int))) fun (n18:Int)=>rec a1 a2 a3 n18) else (bif !decide (c4=(45:Int)) then some (Sum.inl ((false,()),((),()))) else q0d (IntKind.wrap .i64 (a4+(1:Int))) fun (n19:Int)=>rec a1 a2 a3 n19)))) else some (Sum.inr (((a1,(a2,(a3,()))),((),())))))
def qjs (n:Nat) (rec:pSt q9o->Option (q0b q61)) (p:pSt q9o):Option (q0b q61):=qlc n (fun a1 a2 a3 a4=>rec ((a1,(a2,(a3,(a4,())))),((),()))) p.1.1 p.1.2.1 p.1.2.2.1 p.1.2.2.2.1
def q60 (n m:Nat) (a1:Bool) (a2:List (List UInt8)) (a3:Int) (a4:Int):Option (((Bool×(Unit))×(Unit)×(Unit))⊕((Bool×((List (List UInt8))×(Int×(Unit))))×(Unit)×(Unit))):=q0c (qjs n) m ((a1,(a2,(a3,(a4,())))),((),()))
theorem qg9 (n m:Nat) (a1:Bool) (a2:List (List UInt8)) (a3:Int) (a4:Int):q60 n (m+1) a1 a2 a3 a4=qlc n (fun a1 a2 a3 a4=>q60 n m a1 a2 a3 a4) a1 a2 a3 a4:=rfl
def qvl (n:Nat):LC:={ sh:=q9o,outs:=q61,F:=q0c (qjs n) n }
@[reducible] def qax:SSt:=⟨[(1,.one (.c (.d .bool))),(5,.one (.c (.d (.lst .str)))),(6,.one (.c (.d (.int .i64))))],[],[]⟩
@[reducible] def q5l:List (Exit×SSt):=[(.ret,⟨[(4,.one (.c (.d .bool)))],[],[]⟩),(.exit 0,⟨[],[],[]⟩)]
def qkx (n:Nat) (rec:Bool->(List (List UInt8))->Int->Option (((Bool×(Unit))×(Unit)×(Unit))⊕((Unit)×(Unit)×(Unit)))) (a1:Bool) (a2:List (List UInt8)) (a3:Int):Option (((Bool×(Unit))×(Unit)×(Unit))⊕((Unit)×(Unit)×(Unit))) :=
 (bif decide (a3<((List.length a2:Nat):Int)) then (q60 n n a1 a2 a3 (0:Int)).bind fun (o20:((Bool×(Unit))×(Unit)×(Unit))⊕((Bool×((List (List UInt8))×(Int×(Unit))))×(Unit)×(Unit)))=>Sum.elim (fun (q21:(Bool×(Unit))×(Unit)×(Unit))=>some (Sum.inl ((q21.1.1,()),((),())))) (fun (q22:(Bool×((List (List UInt8))×(Int×(Unit))))×(Unit)×(Unit))=>(q1a q22.1.2.1 q22.1.2.2.1).bind fun (x23:List UInt8)=>(bif decide (x23=([]:List UInt8)) then some (Sum.inl ((false,()),((),()))) else (bif !q22.1.1 then (q1a q22.1.2.1 q22.1.2.2.1).bind fun (x24:List UInt8)=>(q95 n x24).bind fun (r25:Bool)=>(bif r25 then (q1a q22.1.2.1 q22.1.2.2.1).bind fun (x26:List UInt8)=>(bif decide ((1:Int)<((List.length x26:Nat):Int)) then (q1a q22.1.2.1 q22.1.2.2.1).bind fun (x27:List UInt8)=>(sAt x27 (0:Int)).bind fun (c28:Int)=>(bif decide (c28=(48:Int)) then some (Sum.inl ((false,()),((),()))) else q0d (IntKind.wrap .i64 (q22.1.2.2.1+(1:Int))) fun (n29:Int)=>rec q22.1.1 q22.1.2.1 n29) else q0d (IntKind.wrap .i64 (q22.1.2.2.1+(1:Int))) fun (n30:Int)=>rec q22.1.1 q22.1.2.1 n30) else q0d (IntKind.wrap .i64 (q22.1.2.2.1+(1:Int))) fun (n31:Int)=>rec q22.1.1 q22.1.2.1 n31) else q0d (IntKind.wrap .i64 (q22.1.2.2.1+(1:Int))) fun (n32:Int)=>rec q22.1.1 q22.1.2.1 n32))) o20 else some (Sum.inr (((),((),())))))
def qkl (n:Nat) (rec:pSt qax->Option (q0b q5l)) (p:pSt qax):Option (q0b q5l):=qkx n (fun a1 a2 a3=>rec ((a1,(a2,(a3,()))),((),()))) p.1.1 p.1.2.1 p.1.2.2.1
def q5w (n m:Nat) (a1:Bool) (a2:List (List UInt8)) (a3:Int):Option (((Bool×(Unit))×(Unit)×(Unit))⊕((Unit)×(Unit)×(Unit))):=q0c (qkl n) m ((a1,(a2,(a3,()))),((),()))
theorem qhd (n m:Nat) (a1:Bool) (a2:List (List UInt8)) (a3:Int):q5w n (m+1) a1 a2 a3=qkx n (fun a1 a2 a3=>q5w n m a1 a2 a3) a1 a2 a3:=rfl
def qvs (n:Nat):LC:={ sh:=qax,outs:=q5l,F:=q0c (qkl n) n }
def q9e (n:Nat):List LC:=[qvs n,qvl n]
def q8u (n:Nat) (a1:List UInt8) (a2:Bool):Option (Bool) :=
 (q1w n a1 (46:Int)).bind fun (r1:List (List UInt8))=>(q5w n n a2 r1 (0:Int)).bind fun (o33:((Bool×(Unit))×(Unit)×(Unit))⊕((Unit)×(Unit)×(Unit)))=>Sum.elim (fun (q34:(Bool×(Unit))×(Unit)×(Unit))=>some q34.1.1) (fun (q35:(Unit)×(Unit)×(Unit))=>some true) o33
def q9b (n:Nat):FC:={ f:=71,args:=[.one (.c (.d .str)),.one (.c (.d .bool))],res:=.one (.c (.d .bool)),F:=fun p=>q8u n p.1 p.2 }
def qdk (n:Nat):List FC:=[q2q n,q68 n]
theorem qbg (n:Nat) {G:World->Prop} (hG:Know Inv G) : ∀c∈qdk n,q0z Tryz.prog G c/\q0a c.args=true:=List.forall_mem_cons.2 ⟨q8g n G hG,List.forall_mem_cons.2 ⟨qxn n G hG,(fun _ h=>by cases h)⟩⟩
def qcx:q09:=[]
theorem qkk:drB qcx (q00 Tryz.f71)=true:=by kernel_rfl
theorem j9k (n:Nat) : ∀rec p,qjs n rec p=round Tryz.prog 93 (qdk n) (q9e n) qcx 2 q9o q61 (q01 0 1 (q00 Tryz.f71)) rec p:=by intro rec p;kernel_rfl
theorem j90 (n:Nat) : ∀rec p,qkl n rec p=round Tryz.prog 93 (qdk n) (q9e n) qcx 1 qax q5l (q01 0 0 (q00 Tryz.f71)) rec p:=by intro rec p;kernel_rfl
theorem qma (n:Nat) {F:Fr} (hF:F.n=93) (hK:Know Inv F.G):q57 Tryz.prog F (qvl n) (q01 0 1 (q00 Tryz.f71)) :=
 q0e hF (by kernel_rfl) (qbg n hK) (j9k n) (fuel:=n) (fun _=>rfl) (q02 fun j L h1 h2 h3=>absurd h2 (Nat.not_lt.2 (Nat.le_trans (by decide +kernel) h1))) (q0j qkk)
theorem j26 (n:Nat) {F:Fr} (hF:F.n=93) (hK:Know Inv F.G):q57 Tryz.prog F (qvs n) (q01 0 0 (q00 Tryz.f71)) :=
 q0e hF (by kernel_rfl) (qbg n hK) (j90 n) (fuel:=n) (fun _=>rfl) (q02 (c:=(q01 0 0 (q00 Tryz.f71))) (fun j L h1 h2 h3=>by
  have h2':j<2:=Nat.lt_of_lt_of_le h2 (by decide +kernel)
  match j,h1,h2',h3 with
  | 0,h1,_,_=>exact absurd h1 (by decide)
  | 1,_,_,h3=>obtain rfl:=Option.some.inj h3;exact (show q01 0 1 (q00 Tryz.f71)=q01 1 1 (q01 0 0 (q00 Tryz.f71)) by kernel_rfl) ▸ qma n hF hK
  | j+2,_,h2',_=>exact absurd h2' (by omega))) (q0j qkk)
theorem jfq (n:Nat) : ∀a,(q9b n).F a=main Tryz.prog 93 (qdk n) (q9e n) qcx (q00 Tryz.f71) [.tmp 4] (q9b n).args (q9b n).res a:=by intro a;kernel_rfl
theorem jfn (n:Nat):q0f Inv Tryz.prog (q9b n):=fun G hG=>⟨⟨by kernel_rfl,fun a r h=>q05 (c:=q00 Tryz.f71) Tryz.func71 (by kernel_rfl) (by kernel_rfl) (Nat.le_of_ble_eq_true (by kernel_rfl)) hG.st (by kernel_rfl) (rs:=[.tmp 4]) (by kernel_rfl) (qbg n hG) (lts:=q9e n) (fun F hF hFG=>have hK:Know Inv F.G:=hFG ▸ hG;(q02 (c:=(q00 Tryz.f71)) (fun j L h1 h2 h3=>by
  have h2':j<2:=Nat.lt_of_lt_of_le h2 (by decide +kernel)
  match j,h1,h2',h3 with
  | 0,_,_,h3=>obtain rfl:=Option.some.inj h3;exact (show q01 0 0 (q00 Tryz.f71)=q01 0 0 (q00 Tryz.f71) by kernel_rfl) ▸ j26 n hF hK
  | 1,_,_,h3=>obtain rfl:=Option.some.inj h3;exact (show q01 0 1 (q00 Tryz.f71)=q01 0 1 (q00 Tryz.f71) by kernel_rfl) ▸ qma n hF hK
  | j+2,_,h2',_=>exact absurd h2' (by omega)))) qkk ((jfq n a).symm.trans h)⟩,rfl⟩
def jea (n:Nat):List LC:=[]
def qx4 (n:Nat) (a1:Int):Option (Bool) :=
 (bif decide ((0:Int)<=a1) then some (decide (a1<=(999999999:Int))) else some false)
def qrv (n:Nat):FC:={ f:=70,args:=[.one (.c (.d (.int .i64)))],res:=.one (.c (.d .bool)),F:=fun p=>qx4 n p }
def jkq (n:Nat):List FC:=[]
theorem jlj (n:Nat) {G:World->Prop} (hG:Know Inv G) : ∀c∈jkq n,q0z Tryz.prog G c/\q0a c.args=true:=(fun _ h=>by cases h)
def jje:q09:=[]
theorem jwv:drB jje (q00 Tryz.f70)=true:=by kernel_rfl
theorem jxh (n:Nat) : ∀a,(qrv n).F a=main Tryz.prog 9 (jkq n) (jea n) jje (q00 Tryz.f70) [.tmp 2] (qrv n).args (qrv n).res a:=by intro a;kernel_rfl
theorem jw6 (n:Nat):q0f Inv Tryz.prog (qrv n):=fun G hG=>⟨⟨by kernel_rfl,fun a r h=>q05 (c:=q00 Tryz.f70) Tryz.func70 (by kernel_rfl) (by kernel_rfl) (Nat.le_of_ble_eq_true (by kernel_rfl)) hG.st (by kernel_rfl) (rs:=[.tmp 2]) (by kernel_rfl) (jlj n hG) (lts:=jea n) (fun F hF hFG=>have hK:Know Inv F.G:=hFG ▸ hG;(q02 fun j L h1 h2 h3=>absurd h2 (Nat.not_lt.2 (Nat.le_trans (by decide +kernel) h1)))) jwv ((jxh n a).symm.trans h)⟩,rfl⟩
def qvd (n:Nat):List LC:=[]
def q2k (n:Nat) (a1:Int×(Int×(Int×((List UInt8)×(List UInt8))))):Option (Bool) :=
 (qx4 n a1.1).bind fun (r1:Bool)=>(bif !r1 then some false else (qx4 n a1.2.1).bind fun (r2:Bool)=>(bif !r2 then some false else (qx4 n a1.2.2.1).bind fun (r3:Bool)=>(bif !r3 then some false else (bif decide ((30:Int)<((List.length a1.2.2.2.1:Nat):Int)) then some false else (bif decide ((30:Int)<((List.length a1.2.2.2.2:Nat):Int)) then some false else (bif decide (a1.2.2.2.1=([]:List UInt8)) then (bif decide (a1.2.2.2.2=([]:List UInt8)) then some true else (q8u n a1.2.2.2.2 true).bind fun (r4:Bool)=>some r4) else (q8u n a1.2.2.2.1 false).bind fun (r5:Bool)=>(bif r5 then (bif decide (a1.2.2.2.2=([]:List UInt8)) then some true else (q8u n a1.2.2.2.2 true).bind fun (r6:Bool)=>some r6) else some false)))))))
def q4o (n:Nat):FC:={ f:=33,args:=[.one (.agg [.d (.int .i64),.d (.int .i64),.d (.int .i64),.d .str,.d .str])],res:=.one (.c (.d .bool)),F:=fun p=>q2k n p }
def j2q (n:Nat):List FC:=[qrv n,q9b n]
theorem jas (n:Nat) {G:World->Prop} (hG:Know Inv G) : ∀c∈j2q n,q0z Tryz.prog G c/\q0a c.args=true:=List.forall_mem_cons.2 ⟨jw6 n G hG,List.forall_mem_cons.2 ⟨jfn n G hG,(fun _ h=>by cases h)⟩⟩
def j66:q09:=[]
theorem jmk:drB j66 (q00 Tryz.f33)=true:=by kernel_rfl
theorem jp5 (n:Nat) : ∀a,(q4o n).F a=main Tryz.prog 49 (j2q n) (qvd n) j66 (q00 Tryz.f33) [.tmp 2] (q4o n).args (q4o n).res a:=by intro a;kernel_rfl
theorem qi1 (n:Nat):q0f Inv Tryz.prog (q4o n):=fun G hG=>⟨⟨by kernel_rfl,fun a r h=>q05 (c:=q00 Tryz.f33) Tryz.func33 (by kernel_rfl) (by kernel_rfl) (Nat.le_of_ble_eq_true (by kernel_rfl)) hG.st (by kernel_rfl) (rs:=[.tmp 2]) (by kernel_rfl) (jas n hG) (lts:=qvd n) (fun F hF hFG=>have hK:Know Inv F.G:=hFG ▸ hG;(q02 fun j L h1 h2 h3=>absurd h2 (Nat.not_lt.2 (Nat.le_trans (by decide +kernel) h1)))) jmk ((jp5 n a).symm.trans h)⟩,rfl⟩
def qvk (n:Nat):List LC:=[]
def q3g (n:Nat) (a1:Int) (a2:Int):Option (Int) :=
 (bif decide (a1<a2) then some (-1:Int) else (bif decide (a2<a1) then some (1:Int) else some (0:Int)))
def q6b (n:Nat):FC:={ f:=53,args:=[.one (.c (.d (.int .i64))),.one (.c (.d (.int .i64)))],res:=.one (.c (.d (.int .i64))),F:=fun p=>q3g n p.1 p.2 }
def j2c (n:Nat):List FC:=[]
theorem j9g (n:Nat) {G:World->Prop} (hG:Know Inv G) : ∀c∈j2c n,q0z Tryz.prog G c/\q0a c.args=true:=(fun _ h=>by cases h)
def j3g:q09:=[]
theorem jlm:drB j3g (q00 Tryz.f53)=true:=by kernel_rfl
theorem jk4 (n:Nat) : ∀a,(q6b n).F a=main Tryz.prog 11 (j2c n) (qvk n) j3g (q00 Tryz.f53) [.tmp 4] (q6b n).args (q6b n).res a:=by intro a;kernel_rfl
theorem qs0 (n:Nat):q0f Inv Tryz.prog (q6b n):=fun G hG=>⟨⟨by kernel_rfl,fun a r h=>q05 (c:=q00 Tryz.f53) Tryz.func53 (by kernel_rfl) (by kernel_rfl) (Nat.le_of_ble_eq_true (by kernel_rfl)) hG.st (by kernel_rfl) (rs:=[.tmp 4]) (by kernel_rfl) (j9g n hG) (lts:=qvk n) (fun F hF hFG=>have hK:Know Inv F.G:=hFG ▸ hG;(q02 fun j L h1 h2 h3=>absurd h2 (Nat.not_lt.2 (Nat.le_trans (by decide +kernel) h1)))) jlm ((jk4 n a).symm.trans h)⟩,rfl⟩
def qv9 (n:Nat):List LC:=[]
def qhx (n:Nat) (a1:List UInt8) (a2:List UInt8):Option (Int) :=
 (q95 n a1).bind fun (r1:Bool)=>(q95 n a2).bind fun (r2:Bool)=>(bif r1 then (bif r2 then (bif !decide (((List.length a1:Nat):Int)=((List.length a2:Nat):Int)) then (q3g n ((List.length a1:Nat):Int) ((List.length a2:Nat):Int)).bind fun (r3:Int)=>some r3 else (bif r1 then (bif !r2 then some (-1:Int) else (bif r2 then (bif !r1 then some (1:Int) else (bif ltS (a1) (a2) then some (-1:Int) else (bif !(ltS (a1) (a2)||decide (a1=a2)) then some (1:Int) else some (0:Int)))) else (bif ltS (a1) (a2) then some (-1:Int) else (bif !(ltS (a1) (a2)||decide (a1=a2)) then some (1:Int) else some (0:Int))))) else (bif r2 then (bif !r1 then some (1:Int) else (bif ltS (a1) (a2) then some (-1:Int) else (bif !(ltS (a1) (a2)||decide (a1=a2)) then some (1:Int) else some (0:Int)))) else (bif ltS (a1) (a2) then some (-1:Int) else (bif !(ltS (a1) (a2)||decide (a1=a2)) then some (1:Int) else some (0:Int)))))) else (bif r1 then (bif !r2 then some (-1:Int) else (bif r2 then (bif !r1 then some (1:Int) else (bif ltS (a1) (a2) then some (-1:Int) else (bif !(ltS (a1) (a2)||decide (a1=a2)) then some (1:Int) else some (0:Int)))) else (bif ltS (a1) (a2) then some (-1:Int) else (bif !(ltS (a1) (a2)||decide (a1=a2)) then some (1:Int) else some (0:Int))))) else (bif r2 then (bif !r1 then some (1:Int) else (bif ltS (a1) (a2) then some (-1:Int) else (bif !(ltS (a1) (a2)||decide (a1=a2)) then some (1:Int) else some (0:Int)))) else (bif ltS (a1) (a2) then some (-1:Int) else (bif !(ltS (a1) (a2)||decide (a1=a2)) then some (1:Int) else some (0:Int)))))) else (bif r1 then (bif !r2 then some (-1:Int) else (bif r2 then (bif !r1 then some (1:Int) else (bif ltS (a1) (a2) then some (-1:Int) else (bif !(ltS (a1) (a2)||decide (a1=a2)) then some (1:Int) else some (0:Int)))) else (bif ltS (a1) (a2) then some (-1:Int) else (bif !(ltS (a1) (a2)||decide (a1=a2)) then some (1:Int) else some (0:Int))))) else (bif r2 then (bif !r1 then some (1:Int) else (bif ltS (a1) (a2) then some (-1:Int) else (bif !(ltS (a1) (a2)||decide (a1=a2)) then some (1:Int) else some (0:Int)))) else (bif ltS (a1) (a2) then some (-1:Int) else (bif !(ltS (a1) (a2)||decide (a1=a2)) then some (1:Int) else some (0:Int))))))
def qcd (n:Nat):FC:={ f:=88,args:=[.one (.c (.d .str)),.one (.c (.d .str))],res:=.one (.c (.d (.int .i64))),F:=fun p=>qhx n p.1 p.2 }
def j2x (n:Nat):List FC:=[q68 n,q6b n]
theorem j8h (n:Nat) {G:World->Prop} (hG:Know Inv G) : ∀c∈j2x n,q0z Tryz.prog G c/\q0a c.args=true:=List.forall_mem_cons.2 ⟨qxn n G hG,List.forall_mem_cons.2 ⟨qs0 n G hG,(fun _ h=>by cases h)⟩⟩
def j6q:q09:=[]
theorem joj:drB j6q (q00 Tryz.f88)=true:=by kernel_rfl
theorem jkv (n:Nat) : ∀a,(qcd n).F a=main Tryz.prog 43 (j2x n) (qv9 n) j6q (q00 Tryz.f88) [.tmp 4] (qcd n).args (qcd n).res a:=by intro a;kernel_rfl
theorem jmm (n:Nat):q0f Inv Tryz.prog (qcd n):=fun G hG=>⟨⟨by kernel_rfl,fun a r h=>q05 (c:=q00 Tryz.f88) Tryz.func88 (by kernel_rfl) (by kernel_rfl) (Nat.le_of_ble_eq_true (by kernel_rfl)) hG.st (by kernel_rfl) (rs:=[.tmp 4]) (by kernel_rfl) (j8h n hG) (lts:=qv9 n) (fun F hF hFG=>have hK:Know Inv F.G:=hFG ▸ hG;(q02 fun j L h1 h2 h3=>absurd h2 (Nat.not_lt.2 (Nat.le_trans (by decide +kernel) h1)))) joj ((jkv n a).symm.trans h)⟩,rfl⟩
def jcg (n:Nat):List LC:=[]
def qw2 (n:Nat) (a1:Bool):Option (Int) :=
 (bif a1 then some (1:Int) else some (0:Int))
def qp1 (n:Nat):FC:={ f:=87,args:=[.one (.c (.d .bool))],res:=.one (.c (.d (.int .i64))),F:=fun p=>qw2 n p }
def jom (n:Nat):List FC:=[]
theorem jjo (n:Nat) {G:World->Prop} (hG:Know Inv G) : ∀c∈jom n,q0z Tryz.prog G c/\q0a c.args=true:=(fun _ h=>by cases h)
def jjv:q09:=[]
theorem jvi:drB jjv (q00 Tryz.f87)=true:=by kernel_rfl
theorem jvr (n:Nat) : ∀a,(qp1 n).F a=main Tryz.prog 4 (jom n) (jcg n) jjv (q00 Tryz.f87) [.tmp 2] (qp1 n).args (qp1 n).res a:=by intro a;kernel_rfl
theorem jxo (n:Nat):q0f Inv Tryz.prog (qp1 n):=fun G hG=>⟨⟨by kernel_rfl,fun a r h=>q05 (c:=q00 Tryz.f87) Tryz.func87 (by kernel_rfl) (by kernel_rfl) (Nat.le_of_ble_eq_true (by kernel_rfl)) hG.st (by kernel_rfl) (rs:=[.tmp 2]) (by kernel_rfl) (jjo n hG) (lts:=jcg n) (fun F hF hFG=>have hK:Know Inv F.G:=hFG ▸ hG;(q02 fun j L h1 h2 h3=>absurd h2 (Nat.not_lt.2 (Nat.le_trans (by decide +kernel) h1)))) jvi ((jvr n a).symm.trans h)⟩,rfl⟩
@[reducible] def qob:SSt:=⟨[(5,.one (.c (.d (.lst .str)))),(6,.one (.c (.d (.lst .str)))),(7,.one (.c (.d (.int .i64))))],[],[]⟩
@[reducible] def qdb:List (Exit×SSt):=[(.ret,⟨[(4,.one (.c (.d (.int .i64))))],[],[]⟩),(.exit 0,⟨[(5,.one (.c (.d (.lst .str)))),(6,.one (.c (.d (.lst .str))))],[],[]⟩)]
def j8w (n:Nat) (rec:(List (List UInt8))->(List (List UInt8))->Int->Option (((Int×(Unit))×(Unit)×(Unit))⊕(((List (List UInt8))×((List (List UInt8))×(Unit)))×(Unit)×(Unit)))) (a1:List (List UInt8)) (a2:List (List UInt8)) (a3:Int):Option (((Int×(Unit))×(Unit)×(Unit))⊕(((List (List UInt8))×((List (List UInt8))×(Unit)))×(Unit)×(Unit))) :=
 (bif decide (a3<((List.length a1:Nat):Int)) then (bif decide (a3<((List.length a2:Nat):Int)) then (q1a a1 a3).bind fun (x9:List UInt8)=>(q1a a2 a3).bind fun (x10:List UInt8)=>(qhx n x9 x10).bind fun (r11:Int)=>(bif !decide (r11=(0:Int)) then (q1a a1 a3).bind fun (x12:List UInt8)=>(q1a a2 a3).bind fun (x13:List UInt8)=>(qhx n x12 x13).bind fun (r14:Int)=>some (Sum.inl ((r14,()),((),()))) else q0d (IntKind.wrap .i64 (a3+(1:Int))) fun (n15:Int)=>rec a1 a2 n15) else some (Sum.inr (((a1,(a2,())),((),()))))) else some (Sum.inr (((a1,(a2,())),((),())))))
def j7c (n:Nat) (rec:pSt qob->Option (q0b qdb)) (p:pSt qob):Option (q0b qdb):=j8w n (fun a1 a2 a3=>rec ((a1,(a2,(a3,()))),((),()))) p.1.1 p.1.2.1 p.1.2.2.1
def qd7 (n m:Nat) (a1:List (List UInt8)) (a2:List (List UInt8)) (a3:Int):Option (((Int×(Unit))×(Unit)×(Unit))⊕(((List (List UInt8))×((List (List UInt8))×(Unit)))×(Unit)×(Unit))):=q0c (j7c n) m ((a1,(a2,(a3,()))),((),()))
theorem qsg (n m:Nat) (a1:List (List UInt8)) (a2:List (List UInt8)) (a3:Int):qd7 n (m+1) a1 a2 a3=j8w n (fun a1 a2 a3=>qd7 n m a1 a2 a3) a1 a2 a3:=rfl
def jly (n:Nat):LC:={ sh:=qob,outs:=qdb,F:=q0c (j7c n) n }
def qzg (n:Nat):List LC:=[jly n]
def jfd (n:Nat) (a1:List UInt8) (a2:List UInt8):Option (Int) :=
 (bif decide (a1=([]:List UInt8)) then (qw2 n (decide (a1=([]:List UInt8)))).bind fun (r1:Int)=>(qw2 n (decide (a2=([]:List UInt8)))).bind fun (r2:Int)=>(q3g n r1 r2).bind fun (r3:Int)=>some r3 else (bif decide (a2=([]:List UInt8)) then (qw2 n (decide (a1=([]:List UInt8)))).bind fun (r4:Int)=>(qw2 n (decide (a2=([]:List UInt8)))).bind fun (r5:Int)=>(q3g n r4 r5).bind fun (r6:Int)=>some r6 else (q1w n a1 (46:Int)).bind fun (r7:List (List UInt8))=>(q1w n a2 (46:Int)).bind fun (r8:List (List UInt8))=>(qd7 n n r7 r8 (0:Int)).bind fun (o16:((Int×(Unit))×(Unit)×(Unit))⊕(((List (List UInt8))×((List (List UInt8))×(Unit)))×(Unit)×(Unit)))=>Sum.elim (fun (q17:(Int×(Unit))×(Unit)×(Unit))=>some q17.1.1) (fun (q18:((List (List UInt8))×((List (List UInt8))×(Unit)))×(Unit)×(Unit))=>(q3g n ((List.length q18.1.1:Nat):Int) ((List.length q18.1.2.1:Nat):Int)).bind fun (r19:Int)=>some r19) o16))
def qty (n:Nat):FC:={ f:=54,args:=[.one (.c (.d .str)),.one (.c (.d .str))],res:=.one (.c (.d (.int .i64))),F:=fun p=>jfd n p.1 p.2 }
def j87 (n:Nat):List FC:=[qp1 n,q6b n,q2q n,qcd n]
theorem j4c (n:Nat) {G:World->Prop} (hG:Know Inv G) : ∀c∈j87 n,q0z Tryz.prog G c/\q0a c.args=true:=List.forall_mem_cons.2 ⟨jxo n G hG,List.forall_mem_cons.2 ⟨qs0 n G hG,List.forall_mem_cons.2 ⟨q8g n G hG,List.forall_mem_cons.2 ⟨jmm n G hG,(fun _ h=>by cases h)⟩⟩⟩⟩
def j9o:q09:=[(8,[⟨15576890575604482885591488987693056,2^111,0⟩,⟨59421121885698253195157962753*2^21,2^114,0⟩,⟨393*2^111,2^117,3⟩,⟨49*2^117,2^120,7⟩,⟨63802943797675961899382738893456801792,2^123,0⟩,⟨243388915243820045087367015432193*2^21,2^126,0⟩,⟨393*2^123,2^129,48⟩,⟨49*2^129,2^132,112⟩,⟨200705*2^120,2^135,255⟩,⟨49*2^135,2^138,511⟩]),(1000008,[]),(9,[⟨16725558898897967356151788704486271129518080,2^141,0⟩,⟨63802943797675961899382738893456539649*2^21,2^144,0⟩,⟨393*2^141,2^147,3⟩,⟨49*2^147,2^150,7⟩,⟨68507889249886074290797726533575766546372100096,2^153,0⟩,⟨261336857795280739939871698507597986398209*2^21,2^156,0⟩,⟨393*2^153,2^159,48⟩,⟨49*2^159,2^162,112⟩,⟨200705*2^150,2^165,255⟩,⟨46768052394588893382517914646921056628989841399808,4096,511⟩]),(1000009,[])]
theorem jpt:drB j9o (q00 Tryz.f54)=true:=by kernel_rfl
theorem jsx (n:Nat) : ∀rec p,j7c n rec p=round Tryz.prog 61 (j87 n) (qzg n) j9o 1 qob qdb (q01 0 0 (q00 Tryz.f54)) rec p:=by intro rec p;kernel_rfl
theorem jnd (n:Nat) {F:Fr} (hF:F.n=61) (hK:Know Inv F.G):q57 Tryz.prog F (jly n) (q01 0 0 (q00 Tryz.f54)) :=
 q0e hF (by kernel_rfl) (j4c n hK) (jsx n) (fuel:=n) (fun _=>rfl) (q02 fun j L h1 h2 h3=>absurd h2 (Nat.not_lt.2 (Nat.le_trans (by decide +kernel) h1))) (q0j jpt)
theorem jxd (n:Nat) : ∀a,(qty n).F a=main Tryz.prog 61 (j87 n) (qzg n) j9o (q00 Tryz.f54) [.tmp 4] (qty n).args (qty n).res a:=by intro a;kernel_rfl
theorem jwe (n:Nat):q0f Inv Tryz.prog (qty n):=fun G hG=>⟨⟨by kernel_rfl,fun a r h=>q05 (c:=q00 Tryz.f54) Tryz.func54 (by kernel_rfl) (by kernel_rfl) (Nat.le_of_ble_eq_true (by kernel_rfl)) hG.st (by kernel_rfl) (rs:=[.tmp 4]) (by kernel_rfl) (j4c n hG) (lts:=qzg n) (fun F hF hFG=>have hK:Know Inv F.G:=hFG ▸ hG;(q02 (c:=(q00 Tryz.f54)) (fun j L h1 h2 h3=>by
  have h2':j<1:=Nat.lt_of_lt_of_le h2 (by decide +kernel)
  match j,h1,h2',h3 with
  | 0,_,_,h3=>obtain rfl:=Option.some.inj h3;exact (show q01 0 0 (q00 Tryz.f54)=q01 0 0 (q00 Tryz.f54) by kernel_rfl) ▸ jnd n hF hK
  | j+1,_,h2',_=>exact absurd h2' (by omega)))) jpt ((jxd n a).symm.trans h)⟩,rfl⟩
def qm7 (n:Nat):List LC:=[]
def q1y (n:Nat) (a1:Int×(Int×(Int×((List UInt8)×(List UInt8))))) (a2:Int×(Int×(Int×((List UInt8)×(List UInt8))))):Option (Int) :=
 (q2k n a1).bind fun (r1:Bool)=>(bif !r1 then some (0:Int) else (q2k n a2).bind fun (r2:Bool)=>(bif !r2 then some (0:Int) else (bif !decide (a1.1=a2.1) then (q3g n a1.1 a2.1).bind fun (r3:Int)=>some r3 else (bif !decide (a1.2.1=a2.2.1) then (q3g n a1.2.1 a2.2.1).bind fun (r4:Int)=>some r4 else (bif !decide (a1.2.2.1=a2.2.2.1) then (q3g n a1.2.2.1 a2.2.2.1).bind fun (r5:Int)=>some r5 else (jfd n a1.2.2.2.1 a2.2.2.2.1).bind fun (r6:Int)=>some r6)))))
def q3z (n:Nat):FC:={ f:=26,args:=[.one (.agg [.d (.int .i64),.d (.int .i64),.d (.int .i64),.d .str,.d .str]),.one (.agg [.d (.int .i64),.d (.int .i64),.d (.int .i64),.d .str,.d .str])],res:=.one (.c (.d (.int .i64))),F:=fun p=>q1y n p.1 p.2 }
def qpy (n:Nat):List FC:=[q4o n,q6b n,qty n]
theorem j05 (n:Nat) {G:World->Prop} (hG:Know Inv G) : ∀c∈qpy n,q0z Tryz.prog G c/\q0a c.args=true:=List.forall_mem_cons.2 ⟨qi1 n G hG,List.forall_mem_cons.2 ⟨qs0 n G hG,List.forall_mem_cons.2 ⟨jwe n G hG,(fun _ h=>by cases h)⟩⟩⟩
def qsn:q09:=[]
theorem jah:drB qsn (q00 Tryz.f26)=true:=by kernel_rfl
theorem j99 (n:Nat) : ∀a,(q3z n).F a=main Tryz.prog 48 (qpy n) (qm7 n) qsn (q00 Tryz.f26) [.tmp 4] (q3z n).args (q3z n).res a:=by intro a;kernel_rfl
theorem qu7 (n:Nat):q0f Inv Tryz.prog (q3z n):=fun G hG=>⟨⟨by kernel_rfl,fun a r h=>q05 (c:=q00 Tryz.f26) Tryz.func26 (by kernel_rfl) (by kernel_rfl) (Nat.le_of_ble_eq_true (by kernel_rfl)) hG.st (by kernel_rfl) (rs:=[.tmp 4]) (by kernel_rfl) (j05 n hG) (lts:=qm7 n) (fun F hF hFG=>have hK:Know Inv F.G:=hFG ▸ hG;(q02 fun j L h1 h2 h3=>absurd h2 (Nat.not_lt.2 (Nat.le_trans (by decide +kernel) h1)))) jah ((j99 n a).symm.trans h)⟩,rfl⟩
@[reducible] def qgl:SSt:=⟨[(1,.one (.c (.d (.int .i64)))),(2,.one (.c (.box 2 0))),(4,.one (.c (.box 4 0))),(6,.one (.c (.row 46))),(7,.one (.c (.d (.int .i64))))],[(2,(26,[.d (.int .i64),.d (.int .i64),.d (.int .i64),.d .str,.d .str])),(4,(26,[.d (.int .i64),.d (.int .i64),.d (.int .i64),.d .str,.d .str]))],[(46,⟨26,true,(.prod (.int .i64) (.prod (.int .i64) (.prod (.int .i64) (.prod .str .str))))⟩)]⟩
@[reducible] def q9r:List (Exit×SSt):=[(.ret,⟨[(4,.one (.c (.box 4 0))),(5,.one (.c (.d (.int .i64))))],[(4,(26,[.d (.int .i64),.d (.int .i64),.d (.int .i64),.d .str,.d .str]))],[]⟩),(.exit 0,⟨[(4,.one (.c (.box 4 0)))],[(4,(26,[.d (.int .i64),.d (.int .i64),.d (.int .i64),.d .str,.d .str]))],[]⟩)]
def qoa (n:Nat) (rec:Int->Int->Int->Int->Int->(List UInt8)->(List UInt8)->Int->Int->Int->(List UInt8)->(List UInt8)->(List ((Int)×((Int)×((Int)×(List UInt8×(List UInt8))))))->Option (((Unit×(Int×(Unit)))×((Int×(Int×(Int×((List UInt8)×(List UInt8)))))×(Unit))×(Unit))⊕((Unit×(Unit))×((Int×(Int×(Int×((List UInt8)×(List UInt8)))))×(Unit))×(Unit)))) (a1:Int) (a2:Int) (a3:Int) (a4:Int) (a5:Int) (a6:List UInt8) (a7:List UInt8) (a8:Int) (a9:Int) (a10:Int) (a11:List UInt8) (a12:List UInt8) (a13:List ((Int)×((Int)×((Int)×(List UInt8×(List UInt8)))))):Option (((Unit×(Int×(Unit)))×((Int×(Int×(Int×((List UInt8)×(List UInt8)))))×(Unit))×(Unit))⊕((Unit×(Unit))×((Int×(Int×(Int×((List UInt8)×(List UInt8)))))×(Unit))×(Unit))) :=
 (bif decide (a2<((List.length a13:Nat):Int)) then (q1a a13 a2).bind fun (_x5:(Int)×((Int)×((Int)×(List UInt8×(List UInt8)))))=>(nth a13 (Int.toNat a2)).bind fun (x6:(Int)×((Int)×((Int)×(List UInt8×(List UInt8)))))=>(bif decide ((2:Int)<=a1) then (bif !decide (x6.2.2.1=(0:Int)) then q0d (IntKind.wrap .i64 (a2+(1:Int))) fun (n7:Int)=>rec a1 n7 a3 a4 a5 a6 a7 a8 a9 a10 a11 a12 a13 else (bif decide (a1=(3:Int)) then (bif !decide (x6.2.1=(0:Int)) then q0d (IntKind.wrap .i64 (a2+(1:Int))) fun (n8:Int)=>rec a1 n8 a3 a4 a5 a6 a7 a8 a9 a10 a11 a12 a13 else (q2k n x6).bind fun (r9:Bool)=>(bif !r9 then q0d (IntKind.wrap .i64 (a2+(1:Int))) fun (n10:Int)=>rec a1 n10 a3 a4 a5 a6 a7 a8 a9 a10 a11 a12 a13 else (q1y n x6 (a3,(a4,(a5,(a6,a7))))).bind fun (r11:Int)=>(bif decide ((0:Int)<r11) then some (Sum.inl (((),((0:Int),())),((x6,()),()))) else q0d (IntKind.wrap .i64 (a2+(1:Int))) fun (n12:Int)=>rec a1 n12 a3 a4 a5 a6 a7 a8 a9 a10 a11 a12 a13))) else (q2k n x6).bind fun (r13:Bool)=>(bif !r13 then q0d (IntKind.wrap .i64 (a2+(1:Int))) fun (n14:Int)=>rec a1 n14 a3 a4 a5 a6 a7 a8 a9 a10 a11 a12 a13 else (q1y n x6 (a3,(a4,(a5,(a6,a7))))).bind fun (r15:Int)=>(bif decide ((0:Int)<r15) then some (Sum.inl (((),((0:Int),())),((x6,()),()))) else q0d (IntKind.wrap .i64 (a2+(1:Int))) fun (n16:Int)=>rec a1 n16 a3 a4 a5 a6 a7 a8 a9 a10 a11 a12 a13)))) else (bif decide (a1=(3:Int)) then (bif !decide (x6.2.1=(0:Int)) then q0d (IntKind.wrap .i64 (a2+(1:Int))) fun (n17:Int)=>rec a1 n17 a3 a4 a5 a6 a7 a8 a9 a10 a11 a12 a13 else (q2k n x6).bind fun (r18:Bool)=>(bif !r18 then q0d (IntKind.wrap .i64 (a2+(1:Int))) fun (n19:Int)=>rec a1 n19 a3 a4 a5 a6 a7 a8 a9 a10 a11 a12 a13 else (q1y n x6 (a3,(a4,(a5,(a6,a7))))).bind fun (r20:Int)=>(bif decide ((0:Int)<r20) then some (Sum.inl (((),((0:Int),())),((x6,()),()))) else q0d (IntKind.wrap .i64 (a2+(1:Int))) fun (n21:Int)=>rec a1 n21 a3 a4 a5 a6 a7 a8 a9 a10 a11 a12 a13))) else (q2k n x6).bind fun (r22:Bool)=>(bif !r22 then q0d (IntKind.wrap .i64 (a2+(1:Int))) fun (n23:Int)=>rec a1 n23 a3 a4 a5 a6 a7 a8 a9 a10 a11 a12 a13 else (q1y n x6 (a3,(a4,(a5,(a6,a7))))).bind fun (r24:Int)=>(bif decide ((0:Int)<r24) then some (Sum.inl (((),((0:Int),())),((x6,()),()))) else q0d (IntKind.wrap .i64 (a2+(1:Int))) fun (n25:Int)=>rec a1 n25 a3 a4 a5 a6 a7 a8 a9 a10 a11 a12 a13)))) else some (Sum.inr ((((),()),(((a8,(a9,(a10,(a11,a12)))),()),())))))
def qzu (n:Nat) (rec:pSt qgl->Option (q0b q9r)) (p:pSt qgl):Option (q0b q9r):=qoa n (fun a1 a2 a3 a4 a5 a6 a7 a8 a9 a10 a11 a12 a13=>rec ((a1,((),((),((),(a2,()))))),(((a3,(a4,(a5,(a6,a7)))),((a8,(a9,(a10,(a11,a12)))),())),(a13,())))) p.1.1 p.1.2.2.2.2.1 p.2.1.1.1 p.2.1.1.2.1 p.2.1.1.2.2.1 p.2.1.1.2.2.2.1 p.2.1.1.2.2.2.2 p.2.1.2.1.1 p.2.1.2.1.2.1 p.2.1.2.1.2.2.1 p.2.1.2.1.2.2.2.1 p.2.1.2.1.2.2.2.2 p.2.2.1
def q3r (n m:Nat) (a1:Int) (a2:Int) (a3:Int) (a4:Int) (a5:Int) (a6:List UInt8) (a7:List UInt8) (a8:Int) (a9:Int) (a10:Int) (a11:List UInt8) (a12:List UInt8) (a13:List ((Int)×((Int)×((Int)×(List UInt8×(List UInt8)))))):Option (((Unit×(Int×(Unit)))×((Int×(Int×(Int×((List UInt8)×(List UInt8)))))×(Unit))×(Unit))⊕((Unit×(Unit))×((Int×(Int×(Int×((List UInt8)×(List UInt8)))))×(Unit))×(Unit))):=q0c (qzu n) m ((a1,((),((),((),(a2,()))))),(((a3,(a4,(a5,(a6,a7)))),((a8,(a9,(a10,(a11,a12)))),())),(a13,())))
theorem qb1 (n m:Nat) (a1:Int) (a2:Int) (a3:Int) (a4:Int) (a5:Int) (a6:List UInt8) (a7:List UInt8) (a8:Int) (a9:Int) (a10:Int) (a11:List UInt8) (a12:List UInt8) (a13:List ((Int)×((Int)×((Int)×(List UInt8×(List UInt8)))))):q3r n (m+1) a1 a2 a3 a4 a5 a6 a7 a8 a9 a10 a11 a12 a13=qoa n (fun a1 a2 a3 a4 a5 a6 a7 a8 a9 a10 a11 a12 a13=>q3r n m a1 a2 a3 a4 a5 a6 a7 a8 a9 a10 a11 a12 a13) a1 a2 a3 a4 a5 a6 a7 a8 a9 a10 a11 a12 a13:=rfl
def jbn (n:Nat):LC:={ sh:=qgl,outs:=q9r,F:=q0c (qzu n) n }
def qsl (n:Nat):List LC:=[jbn n]
def qti (n:Nat) (a1:Int×(Int×(Int×((List UInt8)×(List UInt8))))) (a2:Int):Option ((Int×(Int×(Int×((List UInt8)×(List UInt8)))))×(Int)) :=
 (q2k n a1).bind fun (r1:Bool)=>(bif !r1 then some (((0:Int),((0:Int),((0:Int),(([]:List UInt8),([]:List UInt8))))),(1:Int)) else (bif decide (a2<(1:Int)) then some (((0:Int),((0:Int),((0:Int),(([]:List UInt8),([]:List UInt8))))),(1:Int)) else (bif decide ((3:Int)<a2) then some (((0:Int),((0:Int),((0:Int),(([]:List UInt8),([]:List UInt8))))),(1:Int)) else q0d (IntKind.wrap .i64 (a1.2.2.1+(1:Int))) fun (n2:Int)=>q0d (IntKind.wrap .i64 (a1.2.1+(1:Int))) fun (n3:Int)=>q0d (IntKind.wrap .i64 (a1.1+(1:Int))) fun (n4:Int)=>(q3r n n a2 (0:Int) a1.1 a1.2.1 a1.2.2.1 a1.2.2.2.1 a1.2.2.2.2 (0:Int) (0:Int) (0:Int) ([]:List UInt8) ([]:List UInt8) ([(a1.1,(a1.2.1,(a1.2.2.1,(([]:List UInt8),([]:List UInt8))))),(a1.1,(a1.2.1,(n2,(([]:List UInt8),([]:List UInt8))))),(a1.1,(n3,((0:Int),(([]:List UInt8),([]:List UInt8))))),(n4,((0:Int),((0:Int),(([]:List UInt8),([]:List UInt8)))))]:List ((Int)×((Int)×((Int)×(List UInt8×(List UInt8))))))).bind fun (o26:((Unit×(Int×(Unit)))×((Int×(Int×(Int×((List UInt8)×(List UInt8)))))×(Unit))×(Unit))⊕((Unit×(Unit))×((Int×(Int×(Int×((List UInt8)×(List UInt8)))))×(Unit))×(Unit)))=>Sum.elim (fun (q27:(Unit×(Int×(Unit)))×((Int×(Int×(Int×((List UInt8)×(List UInt8)))))×(Unit))×(Unit))=>some (q27.2.1.1,q27.1.2.1)) (fun (q28:(Unit×(Unit))×((Int×(Int×(Int×((List UInt8)×(List UInt8)))))×(Unit))×(Unit))=>some (((0:Int),((0:Int),((0:Int),(([]:List UInt8),([]:List UInt8))))),(15:Int))) o26)))
def qgu (n:Nat):FC:={ f:=34,args:=[.one (.agg [.d (.int .i64),.d (.int .i64),.d (.int .i64),.d .str,.d .str]),.one (.c (.d (.int .i64)))],res:=.tup [.agg [.d (.int .i64),.d (.int .i64),.d (.int .i64),.d .str,.d .str],.c (.d (.int .i64))],F:=fun p=>qti n p.1 p.2 }
def j0u (n:Nat):List FC:=[q4o n,q3z n]
theorem qxq (n:Nat) {G:World->Prop} (hG:Know Inv G) : ∀c∈j0u n,q0z Tryz.prog G c/\q0a c.args=true:=List.forall_mem_cons.2 ⟨qi1 n G hG,List.forall_mem_cons.2 ⟨qu7 n G hG,(fun _ h=>by cases h)⟩⟩
def j0z:q09:=[]
theorem jdb:drB j0z (q00 Tryz.f34)=true:=by kernel_rfl
theorem jmr (n:Nat) : ∀rec p,qzu n rec p=round Tryz.prog 84 (j0u n) (qsl n) j0z 1 qgl q9r (q01 0 0 (q00 Tryz.f34)) rec p:=by intro rec p;kernel_rfl
theorem ji3 (n:Nat) {F:Fr} (hF:F.n=84) (hK:Know Inv F.G):q57 Tryz.prog F (jbn n) (q01 0 0 (q00 Tryz.f34)) :=
 q0e hF (by kernel_rfl) (qxq n hK) (jmr n) (fuel:=n) (fun _=>rfl) (q02 fun j L h1 h2 h3=>absurd h2 (Nat.not_lt.2 (Nat.le_trans (by decide +kernel) h1))) (q0j jdb)
theorem jsm (n:Nat) : ∀a,(qgu n).F a=main Tryz.prog 84 (j0u n) (qsl n) j0z (q00 Tryz.f34) [.cell 4 26,.tmp 5] (qgu n).args (qgu n).res a:=by intro a;kernel_rfl
theorem jqi (n:Nat):q0f Inv Tryz.prog (qgu n):=fun G hG=>⟨⟨by kernel_rfl,fun a r h=>q05 (c:=q00 Tryz.f34) Tryz.func34 (by kernel_rfl) (by kernel_rfl) (Nat.le_of_ble_eq_true (by kernel_rfl)) hG.st (by kernel_rfl) (rs:=[.cell 4 26,.tmp 5]) (by kernel_rfl) (qxq n hG) (lts:=qsl n) (fun F hF hFG=>have hK:Know Inv F.G:=hFG ▸ hG;(q02 (c:=(q00 Tryz.f34)) (fun j L h1 h2 h3=>by
  have h2':j<1:=Nat.lt_of_lt_of_le h2 (by decide +kernel)
  match j,h1,h2',h3 with
  | 0,_,_,h3=>obtain rfl:=Option.some.inj h3;exact (show q01 0 0 (q00 Tryz.f34)=q01 0 0 (q00 Tryz.f34) by kernel_rfl) ▸ ji3 n hF hK
  | j+1,_,h2',_=>exact absurd h2' (by omega)))) jdb ((jsm n a).symm.trans h)⟩,rfl⟩
end Go.Proofs.YtggoebaobojmjaaGreatDoor.AM
