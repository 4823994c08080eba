
import Derived.Test.YtapfankgdkdkgaaGreatDoorEo28
namespace Go.Proofs.YtapfankgdkdkgaaGreatDoor.AM
open Go.RowKit
set_option linter.unusedVariables false
set_option maxRecDepth 20000
abbrev Zq:=((Bool×Unit)×Unit×Unit)⊕((LQ×Unit)×Unit×Unit)
def ql7 (n:Nat):List LC:=[]
def q35 (n:Nat)  : Option (Bool) :=
 (q8z n ([109,111,100,117,108,101,32,101,120,47,97,10,114,101,113,117,105,114,101,32,101,120,47,98,32,118,49,46,48,46,48,32,47,47,32,120,10]:Yy) (([101,120,47,98]:Yy),((1:Int),((1:Int),((0:Int),(([]:Yy),([]:Yy))))))).bind fun r1=>(q8z n ([109,111,100,117,108,101,32,101,120,47,97,10,114,101,113,117,105,114,101,32,101,120,47,98,32,118,49,46,48,46,48,32,47,47,32,120,10]:Yy) (([101,120,47,99]:Yy),((0:Int),((1:Int),((0:Int),(([]:Yy),([]:Yy))))))).bind fun r2=>(je7 n ([109,111,100,117,108,101,32,101,120,47,97]:Yy) (([101,120,47,99]:Yy),((0:Int),((1:Int),((0:Int),(([]:Yy),([]:Yy))))))).bind fun r3=>(je7 n ([109,111,100,117,108,101,32,101,120,47,97,10,114,101,113,117,105,114,101,32,101,120,47,98,32,118,49,46,48,46,48,32,47,47,32,120,10]:Yy) (([101,120,47,98]:Yy),((1:Int),((1:Int),((0:Int),(([]:Yy),([]:Yy))))))).bind fun r4=>(j9j n ([109,111,100,117,108,101,32,101,120,47,97,10,114,101,113,117,105,114,101,32,101,120,47,98,32,118,49,46,48,46,48,32,47,47,32,120,10]:Yy) ([101,120,47,98]:Yy)).bind fun r5=>(jji n ([109,111,100,117,108,101,32,101,120,47,97,10,114,101,113,117,105,114,101,32,101,120,47,98,32,118,49,46,48,46,48,32,47,47,32,120,10]:Yy) ([(([101,120,47,99]:Yy),((0:Int),((1:Int),((0:Int),(([]:Yy),([]:Yy)))))),(([101,120,47,98]:Yy),((1:Int),((1:Int),((0:Int),(([]:Yy),([]:Yy))))))]:List (Qq))).bind fun r6=>(q8z n ([109,111,100,117,108,101,32,101,120,47,97,10,114,101,113,117,105,114,101,32,101,120,47,98,32,118,49,46,48,46,48,32,47,47,32,120,10]:Yy) (([101,120,47,98]:Yy),((2:Int),((0:Int),((0:Int),(([]:Yy),([]:Yy))))))).bind fun r7=>(bif decide (r1.2=0) then (bif decide (r1.1=([109,111,100,117,108,101,32,101,120,47,97,10,114,101,113,117,105,114,101,32,101,120,47,98,32,118,49,46,49,46,48,32,47,47,32,120,10]:Yy)) then (bif decide (r2.2=5) then (bif decide (r3.2=0) then (bif decide (r3.1=([109,111,100,117,108,101,32,101,120,47,97,10,114,101,113,117,105,114,101,32,101,120,47,99,32,118,48,46,49,46,48,10]:Yy)) then (bif decide (r4.2=11) then (bif decide (r5.2=0) then (bif decide (r5.1=([109,111,100,117,108,101,32,101,120,47,97,10]:Yy)) then (bif decide (r6.1=r1.1) then (bif decide (r6.2.1=1) then (bif decide (r6.2.2=0) then some (decide (r7.2=8)) else some false) else some false) else some false) else some false) else some false) else some false) else some false) else some false) else some false) else some false) else some false)
def q6l (n:Nat):FC:={ f:=26,args:=[],res:=.one (.c (.d .bool)),F:=fun p=>q35 n  }
def qok (n:Nat):List FC:=[qat n,qk4 n,qcd n,qhz n]
theorem qx3 (n:Nat) {G:World->Prop} (hG:Know Inv G) : ∀c∈qok n,q14 Tryz.prog G c/\q0c c.args=true:=List.forall_mem_cons.2 ⟨qzx n G hG,List.forall_mem_cons.2 ⟨jmb n G hG,List.forall_mem_cons.2 ⟨jif n G hG,List.forall_mem_cons.2 ⟨jma n G hG,(fun _ h=>by cases h)⟩⟩⟩⟩
def qo2:q0b:=[]
theorem j5v:drB qo2 (q00 Tryz.f26)=true:=by kernel_rfl
theorem j72 (n:Nat) : ∀a,(q6l n).F a=main Tryz.prog 114 (qok n) (ql7 n) qo2 (q00 Tryz.f26) [.tmp 0] (q6l n).args (q6l n).res a:=by intro a;kernel_rfl
theorem j6m (n:Nat):q0g Inv Tryz.prog (q6l n):=fun G hG=>⟨⟨by kernel_rfl,fun a r h=>q04 (c:=q00 Tryz.f26) Tryz.func26 (by kernel_rfl) (by kernel_rfl) (Nat.le_of_ble_eq_true (by kernel_rfl)) hG.st (by kernel_rfl) (rs:=[.tmp 0]) (by kernel_rfl) (qx3 n hG) (lts:=ql7 n) (fun F hF hFG=>have hK:Know Inv F.G:=hFG ▸ hG;(q03 fun j L h1 h2 h3=>absurd h2 (Nat.not_lt.2 (Nat.le_trans (by decide +kernel) h1)))) j5v ((j72 n a).symm.trans h)⟩,rfl⟩
@[reducible] def q9g:SSt:=⟨[(0,.one (.c (.d (.lst (.prod .str Tv))))),(3,.one (.c (.d (.int .i64))))],[],[]⟩
@[reducible] def q5q:List (Exit×SSt):=[(.ret,⟨[(2,.one (.c (.d .bool)))],[],[]⟩),(.exit 0,⟨[(0,.one (.c (.d (.lst (.prod .str Tv)))))],[],[]⟩)]
def qka (n:Nat) (rec:LQ->Int->Option Zq) (a1:List (Qq)) (a2:Int):Option Zq :=
 (bif decide (a2<(a1.length:Int)) then (q2g a1 a2).bind fun x1=>(bif decide (200<(x1.1.length:Int)) then some (Sum.inl ((false,()),((),()))) else (q2g a1 a2).bind fun x2=>(bif decide (200<(x2.2.2.2.2.1.length:Int)) then some (Sum.inl ((false,()),((),()))) else (q2g a1 a2).bind fun x3=>(bif decide (200<(x3.2.2.2.2.2.length:Int)) then some (Sum.inl ((false,()),((),()))) else q0h (IntKind.wrap .i64 (a2+1)) fun n4=>rec a1 n4))) else some (Sum.inr (((a1,()),((),())))))
def qjq (n:Nat) (rec:pSt q9g->Option (q1e q5q)) (p:pSt q9g):Option (q1e q5q):=qka n (fun a1 a2=>rec ((a1,(a2,())),((),()))) p.1.1 p.1.2.1
def q5g (n m:Nat) (a1:List (Qq)) (a2:Int):Option Zq:=q1n (qjq n) m ((a1,(a2,())),((),()))
theorem qeo (n m:Nat) (a1 a2):q5g n (m+1) a1 a2=qka n (fun a1 a2=>q5g n m a1 a2) a1 a2:=rfl
def qt3 (n:Nat):LC:={ sh:=q9g,outs:=q5q,F:=q1n (qjq n) n }
def qeu (n:Nat):List LC:=[qt3 n]
def qgi (n:Nat) (a1:List (Qq)):Option (Bool) :=
 (q5g n n a1 (0:Int)).bind fun o5=>Sum.elim (fun (q6:(Bool×Unit)×Unit×Unit)=>some q6.1.1) (fun (q7:(LQ×Unit)×Unit×Unit)=>some (decide ((q7.1.1.length:Int)<=20))) o5
def q8q (n:Nat):FC:={ f:=25,args:=[.one (.c (.d (.lst (.prod .str Tv))))],res:=.one (.c (.d .bool)),F:=fun p=>qgi n p }
def qla (n:Nat):List FC:=[]
theorem qkn (n:Nat) {G:World->Prop} (hG:Know Inv G) : ∀c∈qla n,q14 Tryz.prog G c/\q0c c.args=true:=(fun _ h=>by cases h)
def qmj:q0b:=[]
theorem qvy:drB qmj (q00 Tryz.f25)=true:=by kernel_rfl
theorem j63 (n:Nat) : ∀rec p,qjq n rec p=round Tryz.prog 40 (qla n) (qeu n) qmj 1 q9g q5q (q05 0 0 (q00 Tryz.f25)) rec p:=by intro rec p;kernel_rfl
theorem j11 (n:Nat) {F:Fr} (hF:F.n=40) (hK:Know Inv F.G):qne Tryz.prog F (qt3 n) (q05 0 0 (q00 Tryz.f25)) :=
 q1w hF (by kernel_rfl) (qkn n hK) (j63 n) (fuel:=n) (fun _=>rfl) (q03 fun j L h1 h2 h3=>absurd h2 (Nat.not_lt.2 (Nat.le_trans (by decide +kernel) h1))) (q3i qvy)
theorem j86 (n:Nat) : ∀a,(q8q n).F a=main Tryz.prog 40 (qla n) (qeu n) qmj (q00 Tryz.f25) [.tmp 2] (q8q n).args (q8q n).res a:=by intro a;kernel_rfl
theorem jav (n:Nat):q0g Inv Tryz.prog (q8q n):=fun G hG=>⟨⟨by kernel_rfl,fun a r h=>q04 (c:=q00 Tryz.f25) Tryz.func25 (by kernel_rfl) (by kernel_rfl) (Nat.le_of_ble_eq_true (by kernel_rfl)) hG.st (by kernel_rfl) (rs:=[.tmp 2]) (by kernel_rfl) (qkn n hG) (lts:=qeu n) (fun F hF hFG=>have hK:Know Inv F.G:=hFG ▸ hG;(q03 (c:=(q00 Tryz.f25)) (fun j L h1 h2 h3=>by
  have h2':j<1:=Nat.lt_of_lt_of_le h2 (by decide +kernel)
  match j,h1,h2',h3 with
  | 0,_,_,h3=>obtain rfl:=Option.some.inj h3;exact (show q05 0 0 (q00 Tryz.f25)=q05 0 0 (q00 Tryz.f25) by kernel_rfl) ▸ j11 n hF hK
  | j+1,_,h2',_=>exact absurd h2' (by omega)))) qvy ((j86 n a).symm.trans h)⟩,rfl⟩
def qfh (n:Nat):List LC:=[]
def qa5 (n:Nat) (a1:Yy) (a2:Qq) (a3:Qq):Option (Bool) :=
 (bif decide (3000<(a1.length:Int)) then (q35 n).bind fun r1=>some r1 else (qgi n ([a2,a3]:List (Qq))).bind fun r2=>(bif !r2 then (q35 n).bind fun r3=>some r3 else (q8z n a1 a2).bind fun r4=>(q8z n a1 a3).bind fun r5=>(bif !decide (r4.2=0) then (q35 n).bind fun r6=>some r6 else (bif !decide (r5.2=0) then (q35 n).bind fun r7=>some r7 else (q8z n r4.1 a3).bind fun r8=>(q8z n r5.1 a2).bind fun r9=>(bif !decide (r8.2=0) then some false else (bif !decide (r9.2=0) then some false else (bif !decide (a2.1=a3.1) then (bif decide (r8.1=r9.1) then (q35 n).bind fun r10=>some r10 else some false) else (bif decide (r8.1=r5.1) then (bif decide (r9.1=r4.1) then (q35 n).bind fun r11=>some r11 else some false) else some false))))))))
def q7e (n:Nat):FC:={ f:=9,args:=[.one (.c (.d .str)),.one (.agg [.d .str,.d (.int .i64),.d (.int .i64),.d (.int .i64),.d .str,.d .str]),.one (.agg [.d .str,.d (.int .i64),.d (.int .i64),.d (.int .i64),.d .str,.d .str])],res:=.one (.c (.d .bool)),F:=fun p=>qa5 n p.1 p.2.1 p.2.2 }
def qit (n:Nat):List FC:=[q6l n,q8q n,qat n]
theorem qr7 (n:Nat) {G:World->Prop} (hG:Know Inv G) : ∀c∈qit n,q14 Tryz.prog G c/\q0c c.args=true:=List.forall_mem_cons.2 ⟨j6m n G hG,List.forall_mem_cons.2 ⟨jav n G hG,List.forall_mem_cons.2 ⟨qzx n G hG,(fun _ h=>by cases h)⟩⟩⟩
def qk2:q0b:=[]
theorem qzf:drB qk2 (q00 Tryz.f9)=true:=by kernel_rfl
theorem j0e (n:Nat) : ∀a,(q7e n).F a=main Tryz.prog 85 (qit n) (qfh n) qk2 (q00 Tryz.f9) [.tmp 6] (q7e n).args (q7e n).res a:=by intro a;kernel_rfl
theorem j0h (n:Nat):q0g Inv Tryz.prog (q7e n):=fun G hG=>⟨⟨by kernel_rfl,fun a r h=>q04 (c:=q00 Tryz.f9) Tryz.func9 (by kernel_rfl) (by kernel_rfl) (Nat.le_of_ble_eq_true (by kernel_rfl)) hG.st (by kernel_rfl) (rs:=[.tmp 6]) (by kernel_rfl) (qr7 n hG) (lts:=qfh n) (fun F hF hFG=>have hK:Know Inv F.G:=hFG ▸ hG;(q03 fun j L h1 h2 h3=>absurd h2 (Nat.not_lt.2 (Nat.le_trans (by decide +kernel) h1)))) qzf ((j0e n a).symm.trans h)⟩,rfl⟩
end Go.Proofs.YtapfankgdkdkgaaGreatDoor.AM
