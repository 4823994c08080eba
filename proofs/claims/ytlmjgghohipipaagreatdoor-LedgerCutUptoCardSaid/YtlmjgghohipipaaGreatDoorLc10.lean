
import Derived.Test.YtlmjgghohipipaaGreatDoorLc9
namespace Go.Proofs.YtlmjgghohipipaaGreatDoor.AM
open Go.RowKit
set_option linter.unusedVariables false
set_option maxRecDepth 20000
def q7s (n:Nat):List LC:=[]
def q0x (n:Nat) (a1:List UInt8) (a2:List UInt8):Option (Bool) :=
 (bif decide (((List.length a2:Nat):Int)<=((List.length a1:Nat):Int)) then (q5y a1 (0:Int) ((List.length a2:Nat):Int)).bind fun (s1:List UInt8)=>some (decide (s1=a2)) else some false)
def q1h (n:Nat):FC:={ f:=116,args:=[.one (.c (.d .str)),.one (.c (.d .str))],res:=.one (.c (.d .bool)),F:=fun p=>q0x n p.1 p.2 }
def q90 (n:Nat):List FC:=[]
theorem qek (n:Nat) {G:World->Prop} (hG:Know Inv G) : ∀c∈q90 n,q1b Tryz.prog G c/\q0i c.args=true:=(fun _ h=>by cases h)
def q8q:q0f:=[]
theorem qmk:drB q8q (q00 Tryz.f116)=true:=by kernel_rfl
theorem qln (n:Nat) : ∀a,(q1h n).F a=main Tryz.prog 18 (q90 n) (q7s n) q8q (q00 Tryz.f116) [.tmp 4] (q1h n).args (q1h n).res a:=by intro a;kernel_rfl
theorem qa9 (n:Nat):q0d Inv Tryz.prog (q1h n):=fun G hG=>⟨⟨by kernel_rfl,fun a r h=>q06 (c:=q00 Tryz.f116) Tryz.func116 (by kernel_rfl) (by kernel_rfl) (Nat.le_of_ble_eq_true (by kernel_rfl)) hG.st (by kernel_rfl) (rs:=[.tmp 4]) (by kernel_rfl) (qek n hG) (lts:=q7s n) (fun F hF hFG=>have hK:Know Inv F.G:=hFG ▸ hG;(q07 fun j L h1 h2 h3=>absurd h2 (Nat.not_lt.2 (Nat.le_trans (by decide +kernel) h1)))) qmk ((qln n a).symm.trans h)⟩,rfl⟩
def q60 (n:Nat):List LC:=[]
def q5m (n:Nat) (a1:List UInt8) (a2:List UInt8):Option (List UInt8) :=
 (q0x n a1 a2).bind fun (r1:Bool)=>(bif r1 then (q5y a1 ((List.length a2:Nat):Int) ((List.length a1:Nat):Int)).bind fun (s2:List UInt8)=>some s2 else some a1)
def q1l (n:Nat):FC:={ f:=92,args:=[.one (.c (.d .str)),.one (.c (.d .str))],res:=.one (.c (.d .str)),F:=fun p=>q5m n p.1 p.2 }
def q7t (n:Nat):List FC:=[q1h n]
theorem qcp (n:Nat) {G:World->Prop} (hG:Know Inv G) : ∀c∈q7t n,q1b Tryz.prog G c/\q0i c.args=true:=List.forall_mem_cons.2 ⟨qa9 n G hG,(fun _ h=>by cases h)⟩
def q80:q0f:=[]
theorem qhp:drB q80 (q00 Tryz.f92)=true:=by kernel_rfl
theorem qhl (n:Nat) : ∀a,(q1l n).F a=main Tryz.prog 13 (q7t n) (q60 n) q80 (q00 Tryz.f92) [.tmp 4] (q1l n).args (q1l n).res a:=by intro a;kernel_rfl
theorem qhq (n:Nat):q0d Inv Tryz.prog (q1l n):=fun G hG=>⟨⟨by kernel_rfl,fun a r h=>q06 (c:=q00 Tryz.f92) Tryz.func92 (by kernel_rfl) (by kernel_rfl) (Nat.le_of_ble_eq_true (by kernel_rfl)) hG.st (by kernel_rfl) (rs:=[.tmp 4]) (by kernel_rfl) (qcp n hG) (lts:=q60 n) (fun F hF hFG=>have hK:Know Inv F.G:=hFG ▸ hG;(q07 fun j L h1 h2 h3=>absurd h2 (Nat.not_lt.2 (Nat.le_trans (by decide +kernel) h1)))) qhp ((qhl n a).symm.trans h)⟩,rfl⟩
def q83 (n:Nat):List LC:=[]
def q41 (n:Nat) (a1:List UInt8) (a2:List UInt8):Option (List UInt8) :=
 (q5m n a1 a2).bind fun (r1:List UInt8)=>some r1
def q27 (n:Nat):FC:={ f:=72,args:=[.one (.c (.d .str)),.one (.c (.d .str))],res:=.one (.c (.d .str)),F:=fun p=>q41 n p.1 p.2 }
def q9d (n:Nat):List FC:=[q1l n]
theorem qge (n:Nat) {G:World->Prop} (hG:Know Inv G) : ∀c∈q9d n,q1b Tryz.prog G c/\q0i c.args=true:=List.forall_mem_cons.2 ⟨qhq n G hG,(fun _ h=>by cases h)⟩
def q99:q0f:=[]
theorem qkx:drB q99 (q00 Tryz.f72)=true:=by kernel_rfl
theorem qkw (n:Nat) : ∀a,(q27 n).F a=main Tryz.prog 8 (q9d n) (q83 n) q99 (q00 Tryz.f72) [.tmp 4] (q27 n).args (q27 n).res a:=by intro a;kernel_rfl
theorem q9q (n:Nat):q0d Inv Tryz.prog (q27 n):=fun G hG=>⟨⟨by kernel_rfl,fun a r h=>q06 (c:=q00 Tryz.f72) Tryz.func72 (by kernel_rfl) (by kernel_rfl) (Nat.le_of_ble_eq_true (by kernel_rfl)) hG.st (by kernel_rfl) (rs:=[.tmp 4]) (by kernel_rfl) (qge n hG) (lts:=q83 n) (fun F hF hFG=>have hK:Know Inv F.G:=hFG ▸ hG;(q07 fun j L h1 h2 h3=>absurd h2 (Nat.not_lt.2 (Nat.le_trans (by decide +kernel) h1)))) qkx ((qkw n a).symm.trans h)⟩,rfl⟩
def qvn (n:Nat):List LC:=[]
def qzs (n:Nat) (a1:List UInt8) (a2:List UInt8):Option ((List UInt8)×((List UInt8)×(Bool))) :=
 (qf8 a1 a2).bind fun (r1:Int)=>(bif decide ((0:Int)<=r1) then (q5y a1 (0:Int) r1).bind fun (s2:List UInt8)=>q2f (IntKind.wrap .i64 (r1+((List.length a2:Nat):Int))) fun (n3:Int)=>(q5y a1 n3 ((List.length a1:Nat):Int)).bind fun (s4:List UInt8)=>some (s2,(s4,true)) else some (a1,(([]:List UInt8),false)))
def qee (n:Nat):FC:={ f:=91,args:=[.one (.c (.d .str)),.one (.c (.d .str))],res:=.tup [.c (.d .str),.c (.d .str),.c (.d .bool)],F:=fun p=>qzs n p.1 p.2 }
def j11 (n:Nat):List FC:=[qwx]
theorem j0g (n:Nat) {G:World->Prop} (hG:Know Inv G) : ∀c∈j11 n,q1b Tryz.prog G c/\q0i c.args=true:=List.forall_mem_cons.2 ⟨j6l G hG,(fun _ h=>by cases h)⟩
def j0v:q0f:=[(3,[⟨3298534883329,2^39,0⟩,⟨12582913*2^21,2^42,0⟩,⟨393*2^39,2^45,3⟩,⟨1688849860263937,2^48,0⟩,⟨6442450945*2^21,2^51,0⟩,⟨108086391056891912,2^54,0⟩,⟨49*2^54,2^57,32⟩,⟨3137*2^51,2^60,112⟩,⟨200705*2^48,2^63,248⟩,⟨35184372113408,4096,7⟩,⟨9223372036854972416,32768,1023⟩,⟨3*2^19,2^18,2047⟩])]
theorem ja1:drB j0v (q00 Tryz.f91)=true:=by kernel_rfl
theorem j9o (n:Nat) : ∀a,(qee n).F a=main Tryz.prog 23 (j11 n) (qvn n) j0v (q00 Tryz.f91) [.tmp 4,.tmp 5,.tmp 6] (qee n).args (qee n).res a:=by intro a;kernel_rfl
theorem jad (n:Nat):q0d Inv Tryz.prog (qee n):=fun G hG=>⟨⟨by kernel_rfl,fun a r h=>q06 (c:=q00 Tryz.f91) Tryz.func91 (by kernel_rfl) (by kernel_rfl) (Nat.le_of_ble_eq_true (by kernel_rfl)) hG.st (by kernel_rfl) (rs:=[.tmp 4,.tmp 5,.tmp 6]) (by kernel_rfl) (j0g n hG) (lts:=qvn n) (fun F hF hFG=>have hK:Know Inv F.G:=hFG ▸ hG;(q07 fun j L h1 h2 h3=>absurd h2 (Nat.not_lt.2 (Nat.le_trans (by decide +kernel) h1)))) ja1 ((j9o n a).symm.trans h)⟩,rfl⟩
def j2r (n:Nat):List LC:=[]
def qrm (n:Nat) (a1:List UInt8) (a2:List UInt8):Option ((List UInt8)×((List UInt8)×(Bool))) :=
 (qzs n a1 a2).bind fun (r1:(List UInt8)×((List UInt8)×(Bool)))=>some r1
def qnu (n:Nat):FC:={ f:=71,args:=[.one (.c (.d .str)),.one (.c (.d .str))],res:=.tup [.c (.d .str),.c (.d .str),.c (.d .bool)],F:=fun p=>qrm n p.1 p.2 }
def j8q (n:Nat):List FC:=[qee n]
theorem j5c (n:Nat) {G:World->Prop} (hG:Know Inv G) : ∀c∈j8q n,q1b Tryz.prog G c/\q0i c.args=true:=List.forall_mem_cons.2 ⟨jad n G hG,(fun _ h=>by cases h)⟩
def j8f:q0f:=[]
theorem jc3:drB j8f (q00 Tryz.f71)=true:=by kernel_rfl
theorem jdi (n:Nat) : ∀a,(qnu n).F a=main Tryz.prog 13 (j8q n) (j2r n) j8f (q00 Tryz.f71) [.tmp 4,.tmp 5,.tmp 6] (qnu n).args (qnu n).res a:=by intro a;kernel_rfl
theorem jcs (n:Nat):q0d Inv Tryz.prog (qnu n):=fun G hG=>⟨⟨by kernel_rfl,fun a r h=>q06 (c:=q00 Tryz.f71) Tryz.func71 (by kernel_rfl) (by kernel_rfl) (Nat.le_of_ble_eq_true (by kernel_rfl)) hG.st (by kernel_rfl) (rs:=[.tmp 4,.tmp 5,.tmp 6]) (by kernel_rfl) (j5c n hG) (lts:=j2r n) (fun F hF hFG=>have hK:Know Inv F.G:=hFG ▸ hG;(q07 fun j L h1 h2 h3=>absurd h2 (Nat.not_lt.2 (Nat.le_trans (by decide +kernel) h1)))) jc3 ((jdi n a).symm.trans h)⟩,rfl⟩
def qph (n:Nat):List LC:=[]
def qmc (n:Nat) (a1:Int):Option (Bool) :=
 some (!decide (a1=a1))
def q93 (n:Nat):FC:={ f:=84,args:=[.one (.c (.d (.int .i64)))],res:=.one (.c (.d .bool)),F:=fun p=>qmc n p }
def qww (n:Nat):List FC:=[]
theorem qyd (n:Nat) {G:World->Prop} (hG:Know Inv G) : ∀c∈qww n,q1b Tryz.prog G c/\q0i c.args=true:=(fun _ h=>by cases h)
def qv3:q0f:=[]
theorem j5h:drB qv3 (q00 Tryz.f84)=true:=by kernel_rfl
theorem j5u (n:Nat) : ∀a,(q93 n).F a=main Tryz.prog 6 (qww n) (qph n) qv3 (q00 Tryz.f84) [.tmp 2] (q93 n).args (q93 n).res a:=by intro a;kernel_rfl
theorem j7s (n:Nat):q0d Inv Tryz.prog (q93 n):=fun G hG=>⟨⟨by kernel_rfl,fun a r h=>q06 (c:=q00 Tryz.f84) Tryz.func84 (by kernel_rfl) (by kernel_rfl) (Nat.le_of_ble_eq_true (by kernel_rfl)) hG.st (by kernel_rfl) (rs:=[.tmp 2]) (by kernel_rfl) (qyd n hG) (lts:=qph n) (fun F hF hFG=>have hK:Know Inv F.G:=hFG ▸ hG;(q07 fun j L h1 h2 h3=>absurd h2 (Nat.not_lt.2 (Nat.le_trans (by decide +kernel) h1)))) j5h ((j5u n a).symm.trans h)⟩,rfl⟩
def qji (n:Nat):List LC:=[]
def q59 (n:Nat) (a1:Int) (a2:Int):Option (Int) :=
 (qmc n a1).bind fun (r1:Bool)=>(qmc n a2).bind fun (r2:Bool)=>(bif r1 then (bif r2 then some (0:Int) else some (-1:Int)) else (bif r2 then some (1:Int) else (bif decide (a1<a2) then some (-1:Int) else (bif decide (a2<a1) then some (1:Int) else some (0:Int)))))
def q4u (n:Nat):FC:={ f:=57,args:=[.one (.c (.d (.int .i64))),.one (.c (.d (.int .i64)))],res:=.one (.c (.d (.int .i64))),F:=fun p=>q59 n p.1 p.2 }
def qnm (n:Nat):List FC:=[q93 n]
theorem qs3 (n:Nat) {G:World->Prop} (hG:Know Inv G) : ∀c∈qnm n,q1b Tryz.prog G c/\q0i c.args=true:=List.forall_mem_cons.2 ⟨j7s n G hG,(fun _ h=>by cases h)⟩
def qnq:q0f:=[]
theorem j18:drB qnq (q00 Tryz.f57)=true:=by kernel_rfl
theorem j3j (n:Nat) : ∀a,(q4u n).F a=main Tryz.prog 20 (qnm n) (qji n) qnq (q00 Tryz.f57) [.tmp 4] (q4u n).args (q4u n).res a:=by intro a;kernel_rfl
theorem qn9 (n:Nat):q0d Inv Tryz.prog (q4u n):=fun G hG=>⟨⟨by kernel_rfl,fun a r h=>q06 (c:=q00 Tryz.f57) Tryz.func57 (by kernel_rfl) (by kernel_rfl) (Nat.le_of_ble_eq_true (by kernel_rfl)) hG.st (by kernel_rfl) (rs:=[.tmp 4]) (by kernel_rfl) (qs3 n hG) (lts:=qji n) (fun F hF hFG=>have hK:Know Inv F.G:=hFG ▸ hG;(q07 fun j L h1 h2 h3=>absurd h2 (Nat.not_lt.2 (Nat.le_trans (by decide +kernel) h1)))) j18 ((j3j n a).symm.trans h)⟩,rfl⟩
@[reducible] def q9t:SSt:=⟨[(3,.one (.c (.d (.int .i64)))),(6,.one (.c (.d (.lst (.int .i64))))),(7,.one (.c (.d (.int .i64)))),(8,.one (.c (.d (.int .i64))))],[],[]⟩
@[reducible] def q55:List (Exit×SSt):=[(.ret,⟨[(2,.one (.c (.d (.int .i64))))],[],[]⟩),(.exit 0,⟨[(3,.one (.c (.d (.int .i64))))],[],[]⟩)]
def qlb (n:Nat) (rec:Int->(List (Int))->Int->Int->Option (((Int×(Unit))×(Unit)×(Unit))⊕((Int×(Unit))×(Unit)×(Unit)))) (a1:Int) (a2:List (Int)) (a3:Int) (a4:Int):Option (((Int×(Unit))×(Unit)×(Unit))⊕((Int×(Unit))×(Unit)×(Unit))) :=
 (bif decide (a4<a3) then (q67 a2 a4).bind fun (x1:Int)=>(bif !decide (x1=a1) then some (Sum.inl ((x1,()),((),()))) else q2f (IntKind.wrap .i64 (a4+(1:Int))) fun (n2:Int)=>rec a1 a2 a3 n2) else some (Sum.inr (((a1,()),((),())))))
def qle (n:Nat) (rec:pSt q9t->Option (q0t q55)) (p:pSt q9t):Option (q0t q55):=qlb n (fun a1 a2 a3 a4=>rec ((a1,(a2,(a3,(a4,())))),((),()))) p.1.1 p.1.2.1 p.1.2.2.1 p.1.2.2.2.1
def q5q (n m:Nat) (a1:Int) (a2:List (Int)) (a3:Int) (a4:Int):Option (((Int×(Unit))×(Unit)×(Unit))⊕((Int×(Unit))×(Unit)×(Unit))):=q10 (qle n) m ((a1,(a2,(a3,(a4,())))),((),()))
theorem qcs (n m:Nat) (a1:Int) (a2:List (Int)) (a3:Int) (a4:Int):q5q n (m+1) a1 a2 a3 a4=qlb n (fun a1 a2 a3 a4=>q5q n m a1 a2 a3 a4) a1 a2 a3 a4:=rfl
def qwu (n:Nat):LC:={ sh:=q9t,outs:=q55,F:=q10 (qle n) n }
def qes (n:Nat):List LC:=[qwu n]
def qeb (n:Nat) (a1:List (Int)):Option (Int) :=
 (q5q n n (0:Int) a1 ((List.length a1:Nat):Int) (0:Int)).bind fun (o3:((Int×(Unit))×(Unit)×(Unit))⊕((Int×(Unit))×(Unit)×(Unit)))=>Sum.elim (fun (q4:(Int×(Unit))×(Unit)×(Unit))=>some q4.1.1) (fun (q5:(Int×(Unit))×(Unit)×(Unit))=>some q5.1.1) o3
def q7o (n:Nat):FC:={ f:=56,args:=[.one (.c (.d (.lst (.int .i64))))],res:=.one (.c (.d (.int .i64))),F:=fun p=>qeb n p }
def qmb (n:Nat):List FC:=[]
theorem qje (n:Nat) {G:World->Prop} (hG:Know Inv G) : ∀c∈qmb n,q1b Tryz.prog G c/\q0i c.args=true:=(fun _ h=>by cases h)
def qma:q0f:=[]
theorem qux:drB qma (q00 Tryz.f56)=true:=by kernel_rfl
theorem j4j (n:Nat) : ∀rec p,qle n rec p=round Tryz.prog 18 (qmb n) (qes n) qma 1 q9t q55 (q03 0 0 (q00 Tryz.f56)) rec p:=by intro rec p;kernel_rfl
theorem qzk (n:Nat) {F:Fr} (hF:F.n=18) (hK:Know Inv F.G):qk3 Tryz.prog F (qwu n) (q03 0 0 (q00 Tryz.f56)) :=
 q1a hF (by kernel_rfl) (qje n hK) (j4j n) (fuel:=n) (fun _=>rfl) (q07 fun j L h1 h2 h3=>absurd h2 (Nat.not_lt.2 (Nat.le_trans (by decide +kernel) h1))) (q2t qux)
theorem j6j (n:Nat) : ∀a,(q7o n).F a=main Tryz.prog 18 (qmb n) (qes n) qma (q00 Tryz.f56) [.tmp 2] (q7o n).args (q7o n).res a:=by intro a;kernel_rfl
theorem qv1 (n:Nat):q0d Inv Tryz.prog (q7o n):=fun G hG=>⟨⟨by kernel_rfl,fun a r h=>q06 (c:=q00 Tryz.f56) Tryz.func56 (by kernel_rfl) (by kernel_rfl) (Nat.le_of_ble_eq_true (by kernel_rfl)) hG.st (by kernel_rfl) (rs:=[.tmp 2]) (by kernel_rfl) (qje n hG) (lts:=qes n) (fun F hF hFG=>have hK:Know Inv F.G:=hFG ▸ hG;(q07 (c:=(q00 Tryz.f56)) (fun j L h1 h2 h3=>by
  have h2':j<1:=Nat.lt_of_lt_of_le h2 (by decide +kernel)
  match j,h1,h2',h3 with
  | 0,_,_,h3=>obtain rfl:=Option.some.inj h3;exact (show q03 0 0 (q00 Tryz.f56)=q03 0 0 (q00 Tryz.f56) by kernel_rfl) ▸ qzk n hF hK
  | j+1,_,h2',_=>exact absurd h2' (by omega)))) qux ((j6j n a).symm.trans h)⟩,rfl⟩
@[reducible] def q7b:SSt:=⟨[(1,.one (.c (.box 1 0))),(11,.one (.agg [.d (.int .i64),.d (.int .i64),.d (.int .i64)])),(12,.one (.c (.d (.int .i64))))],[(1,(30,[.d (.int .i64),.d (.int .i64),.d (.int .i64),.d .str,.d .str]))],[]⟩
@[reducible] def q44:List (Exit×SSt):=[(.ret,⟨[(2,.one (.c (.d .bool)))],[],[]⟩),(.exit 0,⟨[(1,.one (.c (.box 1 0)))],[(1,(30,[.d (.int .i64),.d (.int .i64),.d (.int .i64),.d .str,.d .str]))],[]⟩)]
def q9n (n:Nat) (rec:Int->Int->Int->Int->Int->Int->Int->(List UInt8)->(List UInt8)->Option (((Bool×(Unit))×(Unit)×(Unit))⊕((Unit×(Unit))×((Int×(Int×(Int×((List UInt8)×(List UInt8)))))×(Unit))×(Unit)))) (a1:Int) (a2:Int) (a3:Int) (a4:Int) (a5:Int) (a6:Int) (a7:Int) (a8:List UInt8) (a9:List UInt8):Option (((Bool×(Unit))×(Unit)×(Unit))⊕((Unit×(Unit))×((Int×(Int×(Int×((List UInt8)×(List UInt8)))))×(Unit))×(Unit))) :=
 (bif decide (a4<(3:Int)) then (q67 ([a1,a2,a3]:List (Int)) a4).bind fun (x1:Int)=>(bif decide (x1<(0:Int)) then some (Sum.inl ((false,()),((),()))) else (bif decide ((999999999:Int)<x1) then some (Sum.inl ((false,()),((),()))) else q2f (IntKind.wrap .i64 (a4+(1:Int))) fun (n2:Int)=>rec a1 a2 a3 n2 a5 a6 a7 a8 a9)) else some (Sum.inr ((((),()),(((a5,(a6,(a7,(a8,a9)))),()),())))))
def qfb (n:Nat) (rec:pSt q7b->Option (q0t q44)) (p:pSt q7b):Option (q0t q44):=q9n n (fun a1 a2 a3 a4 a5 a6 a7 a8 a9=>rec (((),((a1,(a2,a3)),(a4,()))),(((a5,(a6,(a7,(a8,a9)))),()),()))) p.1.2.1.1 p.1.2.1.2.1 p.1.2.1.2.2 p.1.2.2.1 p.2.1.1.1 p.2.1.1.2.1 p.2.1.1.2.2.1 p.2.1.1.2.2.2.1 p.2.1.1.2.2.2.2
def q2v (n m:Nat) (a1:Int) (a2:Int) (a3:Int) (a4:Int) (a5:Int) (a6:Int) (a7:Int) (a8:List UInt8) (a9:List UInt8):Option (((Bool×(Unit))×(Unit)×(Unit))⊕((Unit×(Unit))×((Int×(Int×(Int×((List UInt8)×(List UInt8)))))×(Unit))×(Unit))):=q10 (qfb n) m (((),((a1,(a2,a3)),(a4,()))),(((a5,(a6,(a7,(a8,a9)))),()),()))
theorem q4w (n m:Nat) (a1:Int) (a2:Int) (a3:Int) (a4:Int) (a5:Int) (a6:Int) (a7:Int) (a8:List UInt8) (a9:List UInt8):q2v n (m+1) a1 a2 a3 a4 a5 a6 a7 a8 a9=q9n n (fun a1 a2 a3 a4 a5 a6 a7 a8 a9=>q2v n m a1 a2 a3 a4 a5 a6 a7 a8 a9) a1 a2 a3 a4 a5 a6 a7 a8 a9:=rfl
def qqq (n:Nat):LC:={ sh:=q7b,outs:=q44,F:=q10 (qfb n) n }
def qao (n:Nat):List LC:=[qqq n]
def q2c (n:Nat) (a1:Int×(Int×(Int×((List UInt8)×(List UInt8))))):Option (Bool) :=
 (q2v n n a1.1 a1.2.1 a1.2.2.1 (0:Int) a1.1 a1.2.1 a1.2.2.1 a1.2.2.2.1 a1.2.2.2.2).bind fun (o3:((Bool×(Unit))×(Unit)×(Unit))⊕((Unit×(Unit))×((Int×(Int×(Int×((List UInt8)×(List UInt8)))))×(Unit))×(Unit)))=>Sum.elim (fun (q4:(Bool×(Unit))×(Unit)×(Unit))=>some q4.1.1) (fun (q5:(Unit×(Unit))×((Int×(Int×(Int×((List UInt8)×(List UInt8)))))×(Unit))×(Unit))=>(qgm q5.2.1.1.2.2.2.1 ()).bind fun (r6:Bool)=>(bif r6 then (qbk q5.2.1.1.2.2.2.2 ()).bind fun (r7:Bool)=>some r7 else some false)) o3
def q2e (n:Nat):FC:={ f:=52,args:=[.one (.agg [.d (.int .i64),.d (.int .i64),.d (.int .i64),.d .str,.d .str])],res:=.one (.c (.d .bool)),F:=fun p=>q2c n p }
def qhh (n:Nat):List FC:=[qjk,qgn]
theorem qfn (n:Nat) {G:World->Prop} (hG:Know Inv G) : ∀c∈qhh n,q1b Tryz.prog G c/\q0i c.args=true:=List.forall_mem_cons.2 ⟨qxk G hG,List.forall_mem_cons.2 ⟨qs2 G hG,(fun _ h=>by cases h)⟩⟩
def qfl:q0f:=[]
theorem qog:drB qfl (q00 Tryz.f52)=true:=by kernel_rfl
theorem qyh (n:Nat) : ∀rec p,qfb n rec p=round Tryz.prog 30 (qhh n) (qao n) qfl 1 q7b q44 (q03 0 0 (q00 Tryz.f52)) rec p:=by intro rec p;kernel_rfl
theorem qu7 (n:Nat) {F:Fr} (hF:F.n=30) (hK:Know Inv F.G):qk3 Tryz.prog F (qqq n) (q03 0 0 (q00 Tryz.f52)) :=
 q1a hF (by kernel_rfl) (qfn n hK) (qyh n) (fuel:=n) (fun _=>rfl) (q07 fun j L h1 h2 h3=>absurd h2 (Nat.not_lt.2 (Nat.le_trans (by decide +kernel) h1))) (q2t qog)
theorem j2i (n:Nat) : ∀a,(q2e n).F a=main Tryz.prog 30 (qhh n) (qao n) qfl (q00 Tryz.f52) [.tmp 2] (q2e n).args (q2e n).res a:=by intro a;kernel_rfl
theorem q68 (n:Nat):q0d Inv Tryz.prog (q2e n):=fun G hG=>⟨⟨by kernel_rfl,fun a r h=>q06 (c:=q00 Tryz.f52) Tryz.func52 (by kernel_rfl) (by kernel_rfl) (Nat.le_of_ble_eq_true (by kernel_rfl)) hG.st (by kernel_rfl) (rs:=[.tmp 2]) (by kernel_rfl) (qfn n hG) (lts:=qao n) (fun F hF hFG=>have hK:Know Inv F.G:=hFG ▸ hG;(q07 (c:=(q00 Tryz.f52)) (fun j L h1 h2 h3=>by
  have h2':j<1:=Nat.lt_of_lt_of_le h2 (by decide +kernel)
  match j,h1,h2',h3 with
  | 0,_,_,h3=>obtain rfl:=Option.some.inj h3;exact (show q03 0 0 (q00 Tryz.f52)=q03 0 0 (q00 Tryz.f52) by kernel_rfl) ▸ qu7 n hF hK
  | j+1,_,h2',_=>exact absurd h2' (by omega)))) qog ((j2i n a).symm.trans h)⟩,rfl⟩
def qny (n:Nat):List LC:=[]
def qbf (n:Nat) (a1:Int×(Int×(Int×((List UInt8)×(List UInt8))))):Option (List UInt8) :=
 (q2c n a1).bind fun (r1:Bool)=>(bif !r1 then some ([]:List UInt8) else (qew a1.1).bind fun (r2:List UInt8)=>(qmz ([118]:List UInt8) r2).bind fun (s3:List UInt8)=>(qmz s3 ([46]:List UInt8)).bind fun (s4:List UInt8)=>(qew a1.2.1).bind fun (r5:List UInt8)=>(qmz s4 r5).bind fun (s6:List UInt8)=>(qmz s6 ([46]:List UInt8)).bind fun (s7:List UInt8)=>(qew a1.2.2.1).bind fun (r8:List UInt8)=>(qmz s7 r8).bind fun (s9:List UInt8)=>(bif !decide (a1.2.2.2.1=([]:List UInt8)) then (qmz ([45]:List UInt8) a1.2.2.2.1).bind fun (s10:List UInt8)=>(qmz s9 s10).bind fun (s11:List UInt8)=>(bif !decide (a1.2.2.2.2=([]:List UInt8)) then (qmz ([43]:List UInt8) a1.2.2.2.2).bind fun (s12:List UInt8)=>(qmz s11 s12).bind fun (s13:List UInt8)=>some s13 else some s11) else (bif !decide (a1.2.2.2.2=([]:List UInt8)) then (qmz ([43]:List UInt8) a1.2.2.2.2).bind fun (s14:List UInt8)=>(qmz s9 s14).bind fun (s15:List UInt8)=>some s15 else some s9)))
def q7e (n:Nat):FC:={ f:=74,args:=[.one (.agg [.d (.int .i64),.d (.int .i64),.d (.int .i64),.d .str,.d .str])],res:=.one (.c (.d .str)),F:=fun p=>qbf n p }
def qvb (n:Nat):List FC:=[q2e n,j2e]
theorem qyv (n:Nat) {G:World->Prop} (hG:Know Inv G) : ∀c∈qvb n,q1b Tryz.prog G c/\q0i c.args=true:=List.forall_mem_cons.2 ⟨q68 n G hG,List.forall_mem_cons.2 ⟨jar G hG,(fun _ h=>by cases h)⟩⟩
def qwv:q0f:=[(3,[⟨12582936,2^21,0⟩,⟨102760464,2^24,1⟩,⟨49*2^24,2^27,3⟩,⟨49*2^27,2^30,7⟩,⟨49*2^30,2^33,15⟩,⟨412316860440,2^36,0⟩,⟨3367254360080,2^39,32⟩,⟨49*2^39,2^42,103⟩,⟨25089*2^33,2^45,255⟩,⟨49*2^45,2^48,511⟩,⟨13510798882111512,2^51,0⟩,⟨110338190870577168,2^54,1024⟩,⟨49*2^54,2^57,3303⟩,⟨25089*2^48,2^60,8191⟩,⟨1152921504606850048,512,16383⟩]),(1000003,[])]
theorem j6t:drB qwv (q00 Tryz.f74)=true:=by kernel_rfl
theorem j58 (n:Nat) : ∀a,(q7e n).F a=main Tryz.prog 38 (qvb n) (qny n) qwv (q00 Tryz.f74) [.tmp 2] (q7e n).args (q7e n).res a:=by intro a;kernel_rfl
theorem qva (n:Nat):q0d Inv Tryz.prog (q7e n):=fun G hG=>⟨⟨by kernel_rfl,fun a r h=>q06 (c:=q00 Tryz.f74) Tryz.func74 (by kernel_rfl) (by kernel_rfl) (Nat.le_of_ble_eq_true (by kernel_rfl)) hG.st (by kernel_rfl) (rs:=[.tmp 2]) (by kernel_rfl) (qyv n hG) (lts:=qny n) (fun F hF hFG=>have hK:Know Inv F.G:=hFG ▸ hG;(q07 fun j L h1 h2 h3=>absurd h2 (Nat.not_lt.2 (Nat.le_trans (by decide +kernel) h1)))) j6t ((j58 n a).symm.trans h)⟩,rfl⟩
def qjn (n:Nat):List LC:=[]
def qdu (n:Nat) (a1:List UInt8):Option ((Int×(Int×(Int×((List UInt8)×(List UInt8)))))×(Bool)) :=
 (qrm n a1 ([43]:List UInt8)).bind fun (r1:(List UInt8)×((List UInt8)×(Bool)))=>(qrm n r1.1 ([45]:List UInt8)).bind fun (r2:(List UInt8)×((List UInt8)×(Bool)))=>(q41 n r2.1 ([118]:List UInt8)).bind fun (r3:List UInt8)=>(qrm n r3 ([46]:List UInt8)).bind fun (r4:(List UInt8)×((List UInt8)×(Bool)))=>(qrm n r4.2.1 ([46]:List UInt8)).bind fun (r5:(List UInt8)×((List UInt8)×(Bool)))=>(q36 r4.1).bind fun (r6:Int)=>(q36 r5.1).bind fun (r7:Int)=>(q36 r5.2.1).bind fun (r8:Int)=>(q2c n (r6,(r7,(r8,(r2.2.1,r1.2.1))))).bind fun (r9:Bool)=>(bif !r9 then some (((0:Int),((0:Int),((0:Int),(([]:List UInt8),([]:List UInt8))))),false) else (qbf n (r6,(r7,(r8,(r2.2.1,r1.2.1))))).bind fun (r10:List UInt8)=>(bif !decide (r10=a1) then some (((0:Int),((0:Int),((0:Int),(([]:List UInt8),([]:List UInt8))))),false) else some ((r6,(r7,(r8,(r2.2.1,r1.2.1)))),true)))
def q6a (n:Nat):FC:={ f:=44,args:=[.one (.c (.d .str))],res:=.tup [.agg [.d (.int .i64),.d (.int .i64),.d (.int .i64),.d .str,.d .str],.c (.d .bool)],F:=fun p=>qdu n p }
def qo5 (n:Nat):List FC:=[qnu n,q27 n,qod,q2e n,q7e n]
theorem qro (n:Nat) {G:World->Prop} (hG:Know Inv G) : ∀c∈qo5 n,q1b Tryz.prog G c/\q0i c.args=true:=List.forall_mem_cons.2 ⟨jcs n G hG,List.forall_mem_cons.2 ⟨q9q n G hG,List.forall_mem_cons.2 ⟨j0m G hG,List.forall_mem_cons.2 ⟨q68 n G hG,List.forall_mem_cons.2 ⟨qva n G hG,(fun _ h=>by cases h)⟩⟩⟩⟩⟩
def qn7:q0f:=[]
theorem j3k:drB qn7 (q00 Tryz.f44)=true:=by kernel_rfl
theorem j3l (n:Nat) : ∀a,(q6a n).F a=main Tryz.prog 62 (qo5 n) (qjn n) qn7 (q00 Tryz.f44) [.cell 2 30,.tmp 3] (q6a n).args (q6a n).res a:=by intro a;kernel_rfl
theorem j3i (n:Nat):q0d Inv Tryz.prog (q6a n):=fun G hG=>⟨⟨by kernel_rfl,fun a r h=>q06 (c:=q00 Tryz.f44) Tryz.func44 (by kernel_rfl) (by kernel_rfl) (Nat.le_of_ble_eq_true (by kernel_rfl)) hG.st (by kernel_rfl) (rs:=[.cell 2 30,.tmp 3]) (by kernel_rfl) (qro n hG) (lts:=qjn n) (fun F hF hFG=>have hK:Know Inv F.G:=hFG ▸ hG;(q07 fun j L h1 h2 h3=>absurd h2 (Nat.not_lt.2 (Nat.le_trans (by decide +kernel) h1)))) j3k ((j3l n a).symm.trans h)⟩,rfl⟩
def qni (n:Nat):List LC:=[]
def qlp (n:Nat) (a1:List UInt8) (a2:List UInt8):Option (Int) :=
 (q39 n a1).bind fun (r1:Bool)=>(q39 n a2).bind fun (r2:Bool)=>(bif r1 then (bif r2 then (q59 n ((List.length a1:Nat):Int) ((List.length a2:Nat):Int)).bind fun (r3:Int)=>(qac a1 a2).bind fun (r4:Int)=>(qeb n ([r3,r4]:List (Int))).bind fun (r5:Int)=>some r5 else (bif r1 then some (-1:Int) else (bif r2 then some (1:Int) else (qac a1 a2).bind fun (r6:Int)=>some r6))) else (bif r1 then some (-1:Int) else (bif r2 then some (1:Int) else (qac a1 a2).bind fun (r7:Int)=>some r7)))
def qa0 (n:Nat):FC:={ f:=86,args:=[.one (.c (.d .str)),.one (.c (.d .str))],res:=.one (.c (.d (.int .i64))),F:=fun p=>qlp n p.1 p.2 }
def qwn (n:Nat):List FC:=[q2g n,q4u n,qig,q7o n]
theorem qy2 (n:Nat) {G:World->Prop} (hG:Know Inv G) : ∀c∈qwn n,q1b Tryz.prog G c/\q0i c.args=true:=List.forall_mem_cons.2 ⟨qh0 n G hG,List.forall_mem_cons.2 ⟨qn9 n G hG,List.forall_mem_cons.2 ⟨qxt G hG,List.forall_mem_cons.2 ⟨qv1 n G hG,(fun _ h=>by cases h)⟩⟩⟩⟩
def qv8:q0f:=[]
theorem j5o:drB qv8 (q00 Tryz.f86)=true:=by kernel_rfl
theorem j79 (n:Nat) : ∀a,(qa0 n).F a=main Tryz.prog 33 (qwn n) (qni n) qv8 (q00 Tryz.f86) [.tmp 4] (qa0 n).args (qa0 n).res a:=by intro a;kernel_rfl
theorem j55 (n:Nat):q0d Inv Tryz.prog (qa0 n):=fun G hG=>⟨⟨by kernel_rfl,fun a r h=>q06 (c:=q00 Tryz.f86) Tryz.func86 (by kernel_rfl) (by kernel_rfl) (Nat.le_of_ble_eq_true (by kernel_rfl)) hG.st (by kernel_rfl) (rs:=[.tmp 4]) (by kernel_rfl) (qy2 n hG) (lts:=qni n) (fun F hF hFG=>have hK:Know Inv F.G:=hFG ▸ hG;(q07 fun j L h1 h2 h3=>absurd h2 (Nat.not_lt.2 (Nat.le_trans (by decide +kernel) h1)))) j5o ((j79 n a).symm.trans h)⟩,rfl⟩
@[reducible] def q4x:SSt:=⟨[(0,.one (.c (.d (.lst .str)))),(1,.one (.c (.d (.lst .str)))),(2,.one (.c (.fn 86 []))),(11,.one (.c (.d (.lst .str)))),(12,.one (.c (.d (.int .i64)))),(13,.one (.c (.d (.int .i64))))],[],[]⟩
@[reducible] def q38:List (Exit×SSt):=[(.ret,⟨[(6,.one (.c (.d (.int .i64))))],[],[]⟩),(.exit 0,⟨[(0,.one (.c (.d (.lst .str)))),(1,.one (.c (.d (.lst .str))))],[],[]⟩)]
def qbo (n:Nat) (rec:(List (List UInt8))->(List (List UInt8))->(List (List UInt8))->Int->Int->Option (((Int×(Unit))×(Unit)×(Unit))⊕(((List (List UInt8))×((List (List UInt8))×(Unit)))×(Unit)×(Unit)))) (a1:List (List UInt8)) (a2:List (List UInt8)) (a3:List (List UInt8)) (a4:Int) (a5:Int):Option (((Int×(Unit))×(Unit)×(Unit))⊕(((List (List UInt8))×((List (List UInt8))×(Unit)))×(Unit)×(Unit))) :=
 (bif decide (a5<a4) then (q67 a3 a5).bind fun (x1:List UInt8)=>(bif decide (((List.length a2:Nat):Int)<=a5) then some (Sum.inl (((1:Int),()),((),()))) else (q67 a2 a5).bind fun (x2:List UInt8)=>(qlp n x1 x2).bind fun (r3:Int)=>(bif !decide (r3=(0:Int)) then some (Sum.inl ((r3,()),((),()))) else q2f (IntKind.wrap .i64 (a5+(1:Int))) fun (n4:Int)=>rec a1 a2 a3 a4 n4)) else some (Sum.inr (((a1,(a2,())),((),())))))
def qb7 (n:Nat) (rec:pSt q4x->Option (q0t q38)) (p:pSt q4x):Option (q0t q38):=qbo n (fun a1 a2 a3 a4 a5=>rec ((a1,(a2,((),(a3,(a4,(a5,())))))),((),()))) p.1.1 p.1.2.1 p.1.2.2.2.1 p.1.2.2.2.2.1 p.1.2.2.2.2.2.1
def q32 (n m:Nat) (a1:List (List UInt8)) (a2:List (List UInt8)) (a3:List (List UInt8)) (a4:Int) (a5:Int):Option (((Int×(Unit))×(Unit)×(Unit))⊕(((List (List UInt8))×((List (List UInt8))×(Unit)))×(Unit)×(Unit))):=q10 (qb7 n) m ((a1,(a2,((),(a3,(a4,(a5,())))))),((),()))
theorem q92 (n m:Nat) (a1:List (List UInt8)) (a2:List (List UInt8)) (a3:List (List UInt8)) (a4:Int) (a5:Int):q32 n (m+1) a1 a2 a3 a4 a5=qbo n (fun a1 a2 a3 a4 a5=>q32 n m a1 a2 a3 a4 a5) a1 a2 a3 a4 a5:=rfl
def qie (n:Nat):LC:={ sh:=q4x,outs:=q38,F:=q10 (qb7 n) n }
def q8j (n:Nat):List LC:=[qie n]
def qev (n:Nat) (a1:List (List UInt8)) (a2:List (List UInt8)) (a3:Unit):Option (Int) :=
 (q32 n n a1 a2 a1 ((List.length a1:Nat):Int) (0:Int)).bind fun (o5:((Int×(Unit))×(Unit)×(Unit))⊕(((List (List UInt8))×((List (List UInt8))×(Unit)))×(Unit)×(Unit)))=>Sum.elim (fun (q6:(Int×(Unit))×(Unit)×(Unit))=>some q6.1.1) (fun (q7:((List (List UInt8))×((List (List UInt8))×(Unit)))×(Unit)×(Unit))=>(bif decide (((List.length q7.1.1:Nat):Int)<((List.length q7.1.2.1:Nat):Int)) then some (-1:Int) else some (0:Int))) o5
def q4c (n:Nat):FC:={ f:=85,args:=[.one (.c (.d (.lst .str))),.one (.c (.d (.lst .str))),.one (.c (.fn 86 []))],res:=.one (.c (.d (.int .i64))),F:=fun p=>qev n p.1 p.2.1 p.2.2 }
def qbm (n:Nat):List FC:=[qa0 n]
theorem qcl (n:Nat) {G:World->Prop} (hG:Know Inv G) : ∀c∈qbm n,q1b Tryz.prog G c/\q0i c.args=true:=List.forall_mem_cons.2 ⟨j55 n G hG,(fun _ h=>by cases h)⟩
def qbr:q0f:=[]
theorem qio:drB qbr (q00 Tryz.f85)=true:=by kernel_rfl
theorem qsh (n:Nat) : ∀rec p,qb7 n rec p=round Tryz.prog 39 (qbm n) (q8j n) qbr 1 q4x q38 (q03 0 0 (q00 Tryz.f85)) rec p:=by intro rec p;kernel_rfl
theorem qq0 (n:Nat) {F:Fr} (hF:F.n=39) (hK:Know Inv F.G):qk3 Tryz.prog F (qie n) (q03 0 0 (q00 Tryz.f85)) :=
 q1a hF (by kernel_rfl) (qcl n hK) (qsh n) (fuel:=n) (fun _=>rfl) (q07 fun j L h1 h2 h3=>absurd h2 (Nat.not_lt.2 (Nat.le_trans (by decide +kernel) h1))) (q2t qio)
theorem qy1 (n:Nat) : ∀a,(q4c n).F a=main Tryz.prog 39 (qbm n) (q8j n) qbr (q00 Tryz.f85) [.tmp 6] (q4c n).args (q4c n).res a:=by intro a;kernel_rfl
theorem qyz (n:Nat):q0d Inv Tryz.prog (q4c n):=fun G hG=>⟨⟨by kernel_rfl,fun a r h=>q06 (c:=q00 Tryz.f85) Tryz.func85 (by kernel_rfl) (by kernel_rfl) (Nat.le_of_ble_eq_true (by kernel_rfl)) hG.st (by kernel_rfl) (rs:=[.tmp 6]) (by kernel_rfl) (qcl n hG) (lts:=q8j n) (fun F hF hFG=>have hK:Know Inv F.G:=hFG ▸ hG;(q07 (c:=(q00 Tryz.f85)) (fun j L h1 h2 h3=>by
  have h2':j<1:=Nat.lt_of_lt_of_le h2 (by decide +kernel)
  match j,h1,h2',h3 with
  | 0,_,_,h3=>obtain rfl:=Option.some.inj h3;exact (show q03 0 0 (q00 Tryz.f85)=q03 0 0 (q00 Tryz.f85) by kernel_rfl) ▸ qq0 n hF hK
  | j+1,_,h2',_=>exact absurd h2' (by omega)))) qio ((qy1 n a).symm.trans h)⟩,rfl⟩
def qus (n:Nat):List LC:=[]
def qur (n:Nat) (a1:List UInt8) (a2:List UInt8):Option (Int) :=
 (bif decide (a1=a2) then some (0:Int) else (bif decide (a1=([]:List UInt8)) then some (1:Int) else (bif decide (a2=([]:List UInt8)) then some (-1:Int) else (q49 a1 ([46]:List UInt8)).bind fun (r1:List (List UInt8))=>(q49 a2 ([46]:List UInt8)).bind fun (r2:List (List UInt8))=>(qev n r1 r2 ()).bind fun (r3:Int)=>some r3)))
def qet (n:Nat):FC:={ f:=58,args:=[.one (.c (.d .str)),.one (.c (.d .str))],res:=.one (.c (.d (.int .i64))),F:=fun p=>qur n p.1 p.2 }
def j31 (n:Nat):List FC:=[qdl,q4c n]
theorem j1z (n:Nat) {G:World->Prop} (hG:Know Inv G) : ∀c∈j31 n,q1b Tryz.prog G c/\q0i c.args=true:=List.forall_mem_cons.2 ⟨qkk G hG,List.forall_mem_cons.2 ⟨qyz n G hG,(fun _ h=>by cases h)⟩⟩
def j3o:q0f:=[]
theorem j9c:drB j3o (q00 Tryz.f58)=true:=by kernel_rfl
theorem jb9 (n:Nat) : ∀a,(qet n).F a=main Tryz.prog 20 (j31 n) (qus n) j3o (q00 Tryz.f58) [.tmp 4] (qet n).args (qet n).res a:=by intro a;kernel_rfl
theorem j94 (n:Nat):q0d Inv Tryz.prog (qet n):=fun G hG=>⟨⟨by kernel_rfl,fun a r h=>q06 (c:=q00 Tryz.f58) Tryz.func58 (by kernel_rfl) (by kernel_rfl) (Nat.le_of_ble_eq_true (by kernel_rfl)) hG.st (by kernel_rfl) (rs:=[.tmp 4]) (by kernel_rfl) (j1z n hG) (lts:=qus n) (fun F hF hFG=>have hK:Know Inv F.G:=hFG ▸ hG;(q07 fun j L h1 h2 h3=>absurd h2 (Nat.not_lt.2 (Nat.le_trans (by decide +kernel) h1)))) j9c ((jb9 n a).symm.trans h)⟩,rfl⟩
def qce (n:Nat):List LC:=[]
def q4a (n:Nat) (a1:Int×(Int×(Int×((List UInt8)×(List UInt8))))) (a2:Int×(Int×(Int×((List UInt8)×(List UInt8))))):Option (Int) :=
 (q2c n a1).bind fun (r1:Bool)=>(bif !r1 then some (0:Int) else (q2c n a2).bind fun (r2:Bool)=>(bif !r2 then some (0:Int) else (q59 n a1.1 a2.1).bind fun (r3:Int)=>(q59 n a1.2.1 a2.2.1).bind fun (r4:Int)=>(q59 n a1.2.2.1 a2.2.2.1).bind fun (r5:Int)=>(qur n a1.2.2.2.1 a2.2.2.2.1).bind fun (r6:Int)=>(qeb n ([r3,r4,r5,r6]:List (Int))).bind fun (r7:Int)=>some r7))
def q2i (n:Nat):FC:={ f:=35,args:=[.one (.agg [.d (.int .i64),.d (.int .i64),.d (.int .i64),.d .str,.d .str]),.one (.agg [.d (.int .i64),.d (.int .i64),.d (.int .i64),.d .str,.d .str])],res:=.one (.c (.d (.int .i64))),F:=fun p=>q4a n p.1 p.2 }
def qfw (n:Nat):List FC:=[q2e n,q4u n,qet n,q7o n]
theorem qke (n:Nat) {G:World->Prop} (hG:Know Inv G) : ∀c∈qfw n,q1b Tryz.prog G c/\q0i c.args=true:=List.forall_mem_cons.2 ⟨q68 n G hG,List.forall_mem_cons.2 ⟨qn9 n G hG,List.forall_mem_cons.2 ⟨j94 n G hG,List.forall_mem_cons.2 ⟨qv1 n G hG,(fun _ h=>by cases h)⟩⟩⟩⟩
def qfc:q0f:=[(3,[⟨3298534883520,2^39,0⟩,⟨26938034880640,2^42,1⟩,⟨211106232534528,2^45,0⟩,⟨1724034232353792,2^48,4⟩,⟨3137*2^42,2^51,15⟩,⟨108086391056892096,2^54,0⟩,⟨882705526964617344,2^57,32⟩,⟨6917529027641083392,2^60,0⟩,⟨56493153725735502848,2^63,128⟩,⟨3137*2^57,2^66,511⟩,⟨3541774862152233910464,2^69,0⟩,⟨28924494707576576934016,2^72,1024⟩,⟨226673591177742970258944,2^75,0⟩,⟨1851167661284900923769856,2^78,4096⟩,⟨3137*2^72,2^81,16383⟩,⟨116056878683004400771793088,2^84,0⟩,⟨947797842577869272969642112,2^87,32768⟩,⟨7427640235712281649394746880,2^90,0⟩,⟨60659061924983633470057088000,2^93,2^17⟩,⟨3137*2^87,2^96,524287⟩,⟨1724035306127361*2^51,5*2^99,1048575⟩,⟨53*2^99,2^102,2097151⟩,⟨5070602400912917605986812846080,4096,4194303⟩])]
theorem qre:drB qfc (q00 Tryz.f35)=true:=by kernel_rfl
theorem qru (n:Nat) : ∀a,(q2i n).F a=main Tryz.prog 35 (qfw n) (qce n) qfc (q00 Tryz.f35) [.tmp 4] (q2i n).args (q2i n).res a:=by intro a;kernel_rfl
theorem qep (n:Nat):q0d Inv Tryz.prog (q2i n):=fun G hG=>⟨⟨by kernel_rfl,fun a r h=>q06 (c:=q00 Tryz.f35) Tryz.func35 (by kernel_rfl) (by kernel_rfl) (Nat.le_of_ble_eq_true (by kernel_rfl)) hG.st (by kernel_rfl) (rs:=[.tmp 4]) (by kernel_rfl) (qke n hG) (lts:=qce n) (fun F hF hFG=>have hK:Know Inv F.G:=hFG ▸ hG;(q07 fun j L h1 h2 h3=>absurd h2 (Nat.not_lt.2 (Nat.le_trans (by decide +kernel) h1)))) qre ((qru n a).symm.trans h)⟩,rfl⟩
end Go.Proofs.YtlmjgghohipipaaGreatDoor.AM
