
import Derived.Test.YtapfankgdkdkgaaGreatDoorMc9
namespace Go.Proofs.YtapfankgdkdkgaaGreatDoor.AM
open Go.RowKit
set_option linter.unusedVariables false
set_option maxRecDepth 20000
def q2b (n:Nat):List LC:=[]
def q14 (n:Nat) (a1:List UInt8) (a2:List UInt8):Option (Bool) :=
 (bif decide (((List.length a2:Nat):Int)<=((List.length a1:Nat):Int)) then (q1x a1 (0:Int) ((List.length a2:Nat):Int)).bind fun (s1:List UInt8)=>some (decide (s1=a2)) else some false)
def q0h (n:Nat):FC:={ f:=181,args:=[.one (.c (.d .str)),.one (.c (.d .str))],res:=.one (.c (.d .bool)),F:=fun p=>q14 n p.1 p.2 }
def q2n (n:Nat):List FC:=[]
theorem q42 (n:Nat) {G:World->Prop} (hG:Know Inv G) : ∀c∈q2n n,q18 Tryz.prog G c/\q09 c.args=true:=(fun _ h=>by cases h)
def q2p:q08:=[]
theorem q6x:drB q2p (q00 Tryz.f181)=true:=by kernel_rfl
theorem q62 (n:Nat) : ∀a,(q0h n).F a=main Tryz.prog 18 (q2n n) (q2b n) q2p (q00 Tryz.f181) [.tmp 4] (q0h n).args (q0h n).res a:=by intro a;kernel_rfl
theorem q2m (n:Nat):q0d Inv Tryz.prog (q0h n):=fun G hG=>⟨⟨by kernel_rfl,fun a r h=>q04 (c:=q00 Tryz.f181) Tryz.func181 (by kernel_rfl) (by kernel_rfl) (Nat.le_of_ble_eq_true (by kernel_rfl)) hG.st (by kernel_rfl) (rs:=[.tmp 4]) (by kernel_rfl) (q42 n hG) (lts:=q2b n) (fun F hF hFG=>have hK:Know Inv F.G:=hFG ▸ hG;(q03 fun j L h1 h2 h3=>absurd h2 (Nat.not_lt.2 (Nat.le_trans (by decide +kernel) h1)))) q6x ((q62 n a).symm.trans h)⟩,rfl⟩
def q88 (n:Nat):List LC:=[]
def q63 (n:Nat) (a1:List UInt8) (a2:List UInt8):Option (List UInt8) :=
 (q14 n a1 a2).bind fun (r1:Bool)=>(bif r1 then (q1x a1 ((List.length a2:Nat):Int) ((List.length a1:Nat):Int)).bind fun (s2:List UInt8)=>some s2 else some a1)
def q28 (n:Nat):FC:={ f:=183,args:=[.one (.c (.d .str)),.one (.c (.d .str))],res:=.one (.c (.d .str)),F:=fun p=>q63 n p.1 p.2 }
def q9j (n:Nat):List FC:=[q0h n]
theorem qfa (n:Nat) {G:World->Prop} (hG:Know Inv G) : ∀c∈q9j n,q18 Tryz.prog G c/\q09 c.args=true:=List.forall_mem_cons.2 ⟨q2m n G hG,(fun _ h=>by cases h)⟩
def q9f:q08:=[]
theorem qlo:drB q9f (q00 Tryz.f183)=true:=by kernel_rfl
theorem qma (n:Nat) : ∀a,(q28 n).F a=main Tryz.prog 13 (q9j n) (q88 n) q9f (q00 Tryz.f183) [.tmp 4] (q28 n).args (q28 n).res a:=by intro a;kernel_rfl
theorem qm3 (n:Nat):q0d Inv Tryz.prog (q28 n):=fun G hG=>⟨⟨by kernel_rfl,fun a r h=>q04 (c:=q00 Tryz.f183) Tryz.func183 (by kernel_rfl) (by kernel_rfl) (Nat.le_of_ble_eq_true (by kernel_rfl)) hG.st (by kernel_rfl) (rs:=[.tmp 4]) (by kernel_rfl) (qfa n hG) (lts:=q88 n) (fun F hF hFG=>have hK:Know Inv F.G:=hFG ▸ hG;(q03 fun j L h1 h2 h3=>absurd h2 (Nat.not_lt.2 (Nat.le_trans (by decide +kernel) h1)))) qlo ((qma n a).symm.trans h)⟩,rfl⟩
def q9c (n:Nat):List LC:=[]
def q4p (n:Nat) (a1:List UInt8) (a2:List UInt8):Option (List UInt8) :=
 (q63 n a1 a2).bind fun (r1:List UInt8)=>some r1
def q2o (n:Nat):FC:={ f:=155,args:=[.one (.c (.d .str)),.one (.c (.d .str))],res:=.one (.c (.d .str)),F:=fun p=>q4p n p.1 p.2 }
def qc3 (n:Nat):List FC:=[q28 n]
theorem qi0 (n:Nat) {G:World->Prop} (hG:Know Inv G) : ∀c∈qc3 n,q18 Tryz.prog G c/\q09 c.args=true:=List.forall_mem_cons.2 ⟨qm3 n G hG,(fun _ h=>by cases h)⟩
def qat:q08:=[]
theorem qpf:drB qat (q00 Tryz.f155)=true:=by kernel_rfl
theorem qqq (n:Nat) : ∀a,(q2o n).F a=main Tryz.prog 8 (qc3 n) (q9c n) qat (q00 Tryz.f155) [.tmp 4] (q2o n).args (q2o n).res a:=by intro a;kernel_rfl
theorem qc9 (n:Nat):q0d Inv Tryz.prog (q2o n):=fun G hG=>⟨⟨by kernel_rfl,fun a r h=>q04 (c:=q00 Tryz.f155) Tryz.func155 (by kernel_rfl) (by kernel_rfl) (Nat.le_of_ble_eq_true (by kernel_rfl)) hG.st (by kernel_rfl) (rs:=[.tmp 4]) (by kernel_rfl) (qi0 n hG) (lts:=q9c n) (fun F hF hFG=>have hK:Know Inv F.G:=hFG ▸ hG;(q03 fun j L h1 h2 h3=>absurd h2 (Nat.not_lt.2 (Nat.le_trans (by decide +kernel) h1)))) qpf ((qqq n a).symm.trans h)⟩,rfl⟩
def j3g (n:Nat):List LC:=[]
def j8t (n:Nat) (a1:List UInt8) (a2:List UInt8):Option ((List UInt8)×((List UInt8)×(Bool))) :=
 (qhg a1 a2).bind fun (r1:Int)=>(bif decide ((0:Int)<=r1) then (q1x a1 (0:Int) r1).bind fun (s2:List UInt8)=>q0e (IntKind.wrap .i64 (r1+((List.length a2:Nat):Int))) fun (n3:Int)=>(q1x a1 n3 ((List.length a1:Nat):Int)).bind fun (s4:List UInt8)=>some (s2,(s4,true)) else some (a1,(([]:List UInt8),false)))
def qi5 (n:Nat):FC:={ f:=82,args:=[.one (.c (.d .str)),.one (.c (.d .str))],res:=.tup [.c (.d .str),.c (.d .str),.c (.d .bool)],F:=fun p=>j8t n p.1 p.2 }
def j6s (n:Nat):List FC:=[j3a]
theorem j8r (n:Nat) {G:World->Prop} (hG:Know Inv G) : ∀c∈j6s n,q18 Tryz.prog G c/\q09 c.args=true:=List.forall_mem_cons.2 ⟨jek G hG,(fun _ h=>by cases h)⟩
def j9e:q08:=[(3,[⟨3298534883329,2^39,0⟩,⟨12582913*2^21,2^42,0⟩,⟨393*2^39,2^45,3⟩,⟨1688849860263937,2^48,0⟩,⟨6442450945*2^21,2^51,0⟩,⟨108086391056891912,2^54,0⟩,⟨49*2^54,2^57,32⟩,⟨3137*2^51,2^60,112⟩,⟨200705*2^48,2^63,248⟩,⟨35184372113408,4096,7⟩,⟨9223372036854972416,32768,1023⟩,⟨3*2^19,2^18,2047⟩])]
theorem ji3:drB j9e (q00 Tryz.f82)=true:=by kernel_rfl
theorem jip (n:Nat) : ∀a,(qi5 n).F a=main Tryz.prog 23 (j6s n) (j3g n) j9e (q00 Tryz.f82) [.tmp 4,.tmp 5,.tmp 6] (qi5 n).args (qi5 n).res a:=by intro a;kernel_rfl
theorem jjz (n:Nat):q0d Inv Tryz.prog (qi5 n):=fun G hG=>⟨⟨by kernel_rfl,fun a r h=>q04 (c:=q00 Tryz.f82) Tryz.func82 (by kernel_rfl) (by kernel_rfl) (Nat.le_of_ble_eq_true (by kernel_rfl)) hG.st (by kernel_rfl) (rs:=[.tmp 4,.tmp 5,.tmp 6]) (by kernel_rfl) (j8r n hG) (lts:=j3g n) (fun F hF hFG=>have hK:Know Inv F.G:=hFG ▸ hG;(q03 fun j L h1 h2 h3=>absurd h2 (Nat.not_lt.2 (Nat.le_trans (by decide +kernel) h1)))) ji3 ((jip n a).symm.trans h)⟩,rfl⟩
def ja5 (n:Nat):List LC:=[]
def qut (n:Nat) (a1:List UInt8) (a2:List UInt8):Option ((List UInt8)×((List UInt8)×(Bool))) :=
 (j8t n a1 a2).bind fun (r1:(List UInt8)×((List UInt8)×(Bool)))=>some r1
def qnx (n:Nat):FC:={ f:=55,args:=[.one (.c (.d .str)),.one (.c (.d .str))],res:=.tup [.c (.d .str),.c (.d .str),.c (.d .bool)],F:=fun p=>qut n p.1 p.2 }
def jfs (n:Nat):List FC:=[qi5 n]
theorem jd1 (n:Nat) {G:World->Prop} (hG:Know Inv G) : ∀c∈jfs n,q18 Tryz.prog G c/\q09 c.args=true:=List.forall_mem_cons.2 ⟨jjz n G hG,(fun _ h=>by cases h)⟩
def jfz:q08:=[]
theorem jn5:drB jfz (q00 Tryz.f55)=true:=by kernel_rfl
theorem jn6 (n:Nat) : ∀a,(qnx n).F a=main Tryz.prog 13 (jfs n) (ja5 n) jfz (q00 Tryz.f55) [.tmp 4,.tmp 5,.tmp 6] (qnx n).args (qnx n).res a:=by intro a;kernel_rfl
theorem jgs (n:Nat):q0d Inv Tryz.prog (qnx n):=fun G hG=>⟨⟨by kernel_rfl,fun a r h=>q04 (c:=q00 Tryz.f55) Tryz.func55 (by kernel_rfl) (by kernel_rfl) (Nat.le_of_ble_eq_true (by kernel_rfl)) hG.st (by kernel_rfl) (rs:=[.tmp 4,.tmp 5,.tmp 6]) (by kernel_rfl) (jd1 n hG) (lts:=ja5 n) (fun F hF hFG=>have hK:Know Inv F.G:=hFG ▸ hG;(q03 fun j L h1 h2 h3=>absurd h2 (Nat.not_lt.2 (Nat.le_trans (by decide +kernel) h1)))) jn5 ((jn6 n a).symm.trans h)⟩,rfl⟩
def qw5 (n:Nat):List LC:=[]
def qr9 (n:Nat) (a1:Int):Option (Bool) :=
 some (!decide (a1=a1))
def qan (n:Nat):FC:={ f:=184,args:=[.one (.c (.d (.int .i64)))],res:=.one (.c (.d .bool)),F:=fun p=>qr9 n p }
def j1b (n:Nat):List FC:=[]
theorem j3q (n:Nat) {G:World->Prop} (hG:Know Inv G) : ∀c∈j1b n,q18 Tryz.prog G c/\q09 c.args=true:=(fun _ h=>by cases h)
def j21:q08:=[]
theorem je4:drB j21 (q00 Tryz.f184)=true:=by kernel_rfl
theorem jdq (n:Nat) : ∀a,(qan n).F a=main Tryz.prog 6 (j1b n) (qw5 n) j21 (q00 Tryz.f184) [.tmp 2] (qan n).args (qan n).res a:=by intro a;kernel_rfl
theorem jev (n:Nat):q0d Inv Tryz.prog (qan n):=fun G hG=>⟨⟨by kernel_rfl,fun a r h=>q04 (c:=q00 Tryz.f184) Tryz.func184 (by kernel_rfl) (by kernel_rfl) (Nat.le_of_ble_eq_true (by kernel_rfl)) hG.st (by kernel_rfl) (rs:=[.tmp 2]) (by kernel_rfl) (j3q n hG) (lts:=qw5 n) (fun F hF hFG=>have hK:Know Inv F.G:=hFG ▸ hG;(q03 fun j L h1 h2 h3=>absurd h2 (Nat.not_lt.2 (Nat.le_trans (by decide +kernel) h1)))) je4 ((jdq n a).symm.trans h)⟩,rfl⟩
def qo6 (n:Nat):List LC:=[]
def q6g (n:Nat) (a1:Int) (a2:Int):Option (Int) :=
 (qr9 n a1).bind fun (r1:Bool)=>(qr9 n a2).bind fun (r2:Bool)=>(bif r1 then (bif r2 then some (0:Int) else some (-1:Int)) else (bif r2 then some (1:Int) else (bif decide (a1<a2) then some (-1:Int) else (bif decide (a2<a1) then some (1:Int) else some (0:Int)))))
def q5d (n:Nat):FC:={ f:=158,args:=[.one (.c (.d (.int .i64))),.one (.c (.d (.int .i64)))],res:=.one (.c (.d (.int .i64))),F:=fun p=>q6g n p.1 p.2 }
def qtz (n:Nat):List FC:=[qan n]
theorem qxu (n:Nat) {G:World->Prop} (hG:Know Inv G) : ∀c∈qtz n,q18 Tryz.prog G c/\q09 c.args=true:=List.forall_mem_cons.2 ⟨jev n G hG,(fun _ h=>by cases h)⟩
def qu1:q08:=[]
theorem ja8:drB qu1 (q00 Tryz.f158)=true:=by kernel_rfl
theorem jbv (n:Nat) : ∀a,(q5d n).F a=main Tryz.prog 20 (qtz n) (qo6 n) qu1 (q00 Tryz.f158) [.tmp 4] (q5d n).args (q5d n).res a:=by intro a;kernel_rfl
theorem qui (n:Nat):q0d Inv Tryz.prog (q5d n):=fun G hG=>⟨⟨by kernel_rfl,fun a r h=>q04 (c:=q00 Tryz.f158) Tryz.func158 (by kernel_rfl) (by kernel_rfl) (Nat.le_of_ble_eq_true (by kernel_rfl)) hG.st (by kernel_rfl) (rs:=[.tmp 4]) (by kernel_rfl) (qxu n hG) (lts:=qo6 n) (fun F hF hFG=>have hK:Know Inv F.G:=hFG ▸ hG;(q03 fun j L h1 h2 h3=>absurd h2 (Nat.not_lt.2 (Nat.le_trans (by decide +kernel) h1)))) ja8 ((jbv n a).symm.trans h)⟩,rfl⟩
@[reducible] def qbt:SSt:=⟨[(3,.one (.c (.d (.int .i64)))),(6,.one (.c (.d (.lst (.int .i64))))),(7,.one (.c (.d (.int .i64)))),(8,.one (.c (.d (.int .i64))))],[],[]⟩
@[reducible] def q6a:List (Exit×SSt):=[(.ret,⟨[(2,.one (.c (.d (.int .i64))))],[],[]⟩),(.exit 0,⟨[(3,.one (.c (.d (.int .i64))))],[],[]⟩)]
def qra (n:Nat) (rec:Int->(List (Int))->Int->Int->Option (((Int×(Unit))×(Unit)×(Unit))⊕((Int×(Unit))×(Unit)×(Unit)))) (a1:Int) (a2:List (Int)) (a3:Int) (a4:Int):Option (((Int×(Unit))×(Unit)×(Unit))⊕((Int×(Unit))×(Unit)×(Unit))) :=
 (bif decide (a4<a3) then (q1h a2 a4).bind fun (x1:Int)=>(bif !decide (x1=a1) then some (Sum.inl ((x1,()),((),()))) else q0e (IntKind.wrap .i64 (a4+(1:Int))) fun (n2:Int)=>rec a1 a2 a3 n2) else some (Sum.inr (((a1,()),((),())))))
def qp5 (n:Nat) (rec:pSt qbt->Option (q0q q6a)) (p:pSt qbt):Option (q0q q6a):=qra n (fun a1 a2 a3 a4=>rec ((a1,(a2,(a3,(a4,())))),((),()))) p.1.1 p.1.2.1 p.1.2.2.1 p.1.2.2.2.1
def q6p (n m:Nat) (a1:Int) (a2:List (Int)) (a3:Int) (a4:Int):Option (((Int×(Unit))×(Unit)×(Unit))⊕((Int×(Unit))×(Unit)×(Unit))):=q0t (qp5 n) m ((a1,(a2,(a3,(a4,())))),((),()))
theorem qf8 (n m:Nat) (a1:Int) (a2:List (Int)) (a3:Int) (a4:Int):q6p n (m+1) a1 a2 a3 a4=qra n (fun a1 a2 a3 a4=>q6p n m a1 a2 a3 a4) a1 a2 a3 a4:=rfl
def j2d (n:Nat):LC:={ sh:=qbt,outs:=q6a,F:=q0t (qp5 n) n }
def qjz (n:Nat):List LC:=[j2d n]
def qk5 (n:Nat) (a1:List (Int)):Option (Int) :=
 (q6p n n (0:Int) a1 ((List.length a1:Nat):Int) (0:Int)).bind fun (o3:((Int×(Unit))×(Unit)×(Unit))⊕((Int×(Unit))×(Unit)×(Unit)))=>Sum.elim (fun (q4:(Int×(Unit))×(Unit)×(Unit))=>some q4.1.1) (fun (q5:(Int×(Unit))×(Unit)×(Unit))=>some q5.1.1) o3
def q98 (n:Nat):FC:={ f:=157,args:=[.one (.c (.d (.lst (.int .i64))))],res:=.one (.c (.d (.int .i64))),F:=fun p=>qk5 n p }
def qp8 (n:Nat):List FC:=[]
theorem qn0 (n:Nat) {G:World->Prop} (hG:Know Inv G) : ∀c∈qp8 n,q18 Tryz.prog G c/\q09 c.args=true:=(fun _ h=>by cases h)
def qq9:q08:=[]
theorem j16:drB qq9 (q00 Tryz.f157)=true:=by kernel_rfl
theorem j7q (n:Nat) : ∀rec p,qp5 n rec p=round Tryz.prog 18 (qp8 n) (qjz n) qq9 1 qbt q6a (q01 0 0 (q00 Tryz.f157)) rec p:=by intro rec p;kernel_rfl
theorem j3r (n:Nat) {F:Fr} (hF:F.n=18) (hK:Know Inv F.G):qdv Tryz.prog F (j2d n) (q01 0 0 (q00 Tryz.f157)) :=
 q0x hF (by kernel_rfl) (qn0 n hK) (j7q n) (fuel:=n) (fun _=>rfl) (q03 fun j L h1 h2 h3=>absurd h2 (Nat.not_lt.2 (Nat.le_trans (by decide +kernel) h1))) (q1n j16)
theorem jeq (n:Nat) : ∀a,(q98 n).F a=main Tryz.prog 18 (qp8 n) (qjz n) qq9 (q00 Tryz.f157) [.tmp 2] (q98 n).args (q98 n).res a:=by intro a;kernel_rfl
theorem j0x (n:Nat):q0d Inv Tryz.prog (q98 n):=fun G hG=>⟨⟨by kernel_rfl,fun a r h=>q04 (c:=q00 Tryz.f157) Tryz.func157 (by kernel_rfl) (by kernel_rfl) (Nat.le_of_ble_eq_true (by kernel_rfl)) hG.st (by kernel_rfl) (rs:=[.tmp 2]) (by kernel_rfl) (qn0 n hG) (lts:=qjz n) (fun F hF hFG=>have hK:Know Inv F.G:=hFG ▸ hG;(q03 (c:=(q00 Tryz.f157)) (fun j L h1 h2 h3=>by
  have h2':j<1:=Nat.lt_of_lt_of_le h2 (by decide +kernel)
  match j,h1,h2',h3 with
  | 0,_,_,h3=>obtain rfl:=Option.some.inj h3;exact (show q01 0 0 (q00 Tryz.f157)=q01 0 0 (q00 Tryz.f157) by kernel_rfl) ▸ j3r n hF hK
  | j+1,_,h2',_=>exact absurd h2' (by omega)))) j16 ((jeq n a).symm.trans h)⟩,rfl⟩
@[reducible] def q8d:SSt:=⟨[(1,.one (.c (.box 1 0))),(11,.one (.agg [.d (.int .i64),.d (.int .i64),.d (.int .i64)])),(12,.one (.c (.d (.int .i64))))],[(1,(44,[.d (.int .i64),.d (.int .i64),.d (.int .i64),.d .str,.d .str]))],[]⟩
@[reducible] def q4i:List (Exit×SSt):=[(.ret,⟨[(2,.one (.c (.d .bool)))],[],[]⟩),(.exit 0,⟨[(1,.one (.c (.box 1 0)))],[(1,(44,[.d (.int .i64),.d (.int .i64),.d (.int .i64),.d .str,.d .str]))],[]⟩)]
def qbv (n:Nat) (rec:Int->Int->Int->Int->Int->Int->Int->(List UInt8)->(List UInt8)->Option (((Bool×(Unit))×(Unit)×(Unit))⊕((Unit×(Unit))×((Int×(Int×(Int×((List UInt8)×(List UInt8)))))×(Unit))×(Unit)))) (a1:Int) (a2:Int) (a3:Int) (a4:Int) (a5:Int) (a6:Int) (a7:Int) (a8:List UInt8) (a9:List UInt8):Option (((Bool×(Unit))×(Unit)×(Unit))⊕((Unit×(Unit))×((Int×(Int×(Int×((List UInt8)×(List UInt8)))))×(Unit))×(Unit))) :=
 (bif decide (a4<(3:Int)) then (q1h ([a1,a2,a3]:List (Int)) a4).bind fun (x1:Int)=>(bif decide (x1<(0:Int)) then some (Sum.inl ((false,()),((),()))) else (bif decide ((999999999:Int)<x1) then some (Sum.inl ((false,()),((),()))) else q0e (IntKind.wrap .i64 (a4+(1:Int))) fun (n2:Int)=>rec a1 a2 a3 n2 a5 a6 a7 a8 a9)) else some (Sum.inr ((((),()),(((a5,(a6,(a7,(a8,a9)))),()),())))))
def ql6 (n:Nat) (rec:pSt q8d->Option (q0q q4i)) (p:pSt q8d):Option (q0q q4i):=qbv n (fun a1 a2 a3 a4 a5 a6 a7 a8 a9=>rec (((),((a1,(a2,a3)),(a4,()))),(((a5,(a6,(a7,(a8,a9)))),()),()))) p.1.2.1.1 p.1.2.1.2.1 p.1.2.1.2.2 p.1.2.2.1 p.2.1.1.1 p.2.1.1.2.1 p.2.1.1.2.2.1 p.2.1.1.2.2.2.1 p.2.1.1.2.2.2.2
def q34 (n m:Nat) (a1:Int) (a2:Int) (a3:Int) (a4:Int) (a5:Int) (a6:Int) (a7:Int) (a8:List UInt8) (a9:List UInt8):Option (((Bool×(Unit))×(Unit)×(Unit))⊕((Unit×(Unit))×((Int×(Int×(Int×((List UInt8)×(List UInt8)))))×(Unit))×(Unit))):=q0t (ql6 n) m (((),((a1,(a2,a3)),(a4,()))),(((a5,(a6,(a7,(a8,a9)))),()),()))
theorem q5h (n m:Nat) (a1:Int) (a2:Int) (a3:Int) (a4:Int) (a5:Int) (a6:Int) (a7:Int) (a8:List UInt8) (a9:List UInt8):q34 n (m+1) a1 a2 a3 a4 a5 a6 a7 a8 a9=qbv n (fun a1 a2 a3 a4 a5 a6 a7 a8 a9=>q34 n m a1 a2 a3 a4 a5 a6 a7 a8 a9) a1 a2 a3 a4 a5 a6 a7 a8 a9:=rfl
def qvj (n:Nat):LC:={ sh:=q8d,outs:=q4i,F:=q0t (ql6 n) n }
def qd0 (n:Nat):List LC:=[qvj n]
def q50 (n:Nat) (a1:Int×(Int×(Int×((List UInt8)×(List UInt8))))):Option (Bool) :=
 (q34 n n a1.1 a1.2.1 a1.2.2.1 (0:Int) a1.1 a1.2.1 a1.2.2.1 a1.2.2.2.1 a1.2.2.2.2).bind fun (o3:((Bool×(Unit))×(Unit)×(Unit))⊕((Unit×(Unit))×((Int×(Int×(Int×((List UInt8)×(List UInt8)))))×(Unit))×(Unit)))=>Sum.elim (fun (q4:(Bool×(Unit))×(Unit)×(Unit))=>some q4.1.1) (fun (q5:(Unit×(Unit))×((Int×(Int×(Int×((List UInt8)×(List UInt8)))))×(Unit))×(Unit))=>(qlf q5.2.1.1.2.2.2.1 ()).bind fun (r6:Bool)=>(bif r6 then (qcn q5.2.1.1.2.2.2.2 ()).bind fun (r7:Bool)=>some r7 else some false)) o3
def q3a (n:Nat):FC:={ f:=74,args:=[.one (.agg [.d (.int .i64),.d (.int .i64),.d (.int .i64),.d .str,.d .str])],res:=.one (.c (.d .bool)),F:=fun p=>q50 n p }
def qjh (n:Nat):List FC:=[qng,qhj]
theorem qk1 (n:Nat) {G:World->Prop} (hG:Know Inv G) : ∀c∈qjh n,q18 Tryz.prog G c/\q09 c.args=true:=List.forall_mem_cons.2 ⟨j53 G hG,List.forall_mem_cons.2 ⟨qyo G hG,(fun _ h=>by cases h)⟩⟩
def ql5:q08:=[]
theorem qu8:drB ql5 (q00 Tryz.f74)=true:=by kernel_rfl
theorem j4e (n:Nat) : ∀rec p,ql6 n rec p=round Tryz.prog 30 (qjh n) (qd0 n) ql5 1 q8d q4i (q01 0 0 (q00 Tryz.f74)) rec p:=by intro rec p;kernel_rfl
theorem qy4 (n:Nat) {F:Fr} (hF:F.n=30) (hK:Know Inv F.G):qdv Tryz.prog F (qvj n) (q01 0 0 (q00 Tryz.f74)) :=
 q0x hF (by kernel_rfl) (qk1 n hK) (j4e n) (fuel:=n) (fun _=>rfl) (q03 fun j L h1 h2 h3=>absurd h2 (Nat.not_lt.2 (Nat.le_trans (by decide +kernel) h1))) (q1n qu8)
theorem jbs (n:Nat) : ∀a,(q3a n).F a=main Tryz.prog 30 (qjh n) (qd0 n) ql5 (q00 Tryz.f74) [.tmp 2] (q3a n).args (q3a n).res a:=by intro a;kernel_rfl
theorem qb1 (n:Nat):q0d Inv Tryz.prog (q3a n):=fun G hG=>⟨⟨by kernel_rfl,fun a r h=>q04 (c:=q00 Tryz.f74) Tryz.func74 (by kernel_rfl) (by kernel_rfl) (Nat.le_of_ble_eq_true (by kernel_rfl)) hG.st (by kernel_rfl) (rs:=[.tmp 2]) (by kernel_rfl) (qk1 n hG) (lts:=qd0 n) (fun F hF hFG=>have hK:Know Inv F.G:=hFG ▸ hG;(q03 (c:=(q00 Tryz.f74)) (fun j L h1 h2 h3=>by
  have h2':j<1:=Nat.lt_of_lt_of_le h2 (by decide +kernel)
  match j,h1,h2',h3 with
  | 0,_,_,h3=>obtain rfl:=Option.some.inj h3;exact (show q01 0 0 (q00 Tryz.f74)=q01 0 0 (q00 Tryz.f74) by kernel_rfl) ▸ qy4 n hF hK
  | j+1,_,h2',_=>exact absurd h2' (by omega)))) qu8 ((jbs n a).symm.trans h)⟩,rfl⟩
def qs3 (n:Nat):List LC:=[]
def q6r (n:Nat) (a1:Int×(Int×(Int×((List UInt8)×(List UInt8))))):Option (List UInt8) :=
 (q50 n a1).bind fun (r1:Bool)=>(bif !r1 then some ([]:List UInt8) else (qks a1.1).bind fun (r2:List UInt8)=>(qlt ([118]:List UInt8) r2).bind fun (s3:List UInt8)=>(qlt s3 ([46]:List UInt8)).bind fun (s4:List UInt8)=>(qks a1.2.1).bind fun (r5:List UInt8)=>(qlt s4 r5).bind fun (s6:List UInt8)=>(qlt s6 ([46]:List UInt8)).bind fun (s7:List UInt8)=>(qks a1.2.2.1).bind fun (r8:List UInt8)=>(qlt s7 r8).bind fun (s9:List UInt8)=>(bif !decide (a1.2.2.2.1=([]:List UInt8)) then (qlt ([45]:List UInt8) a1.2.2.2.1).bind fun (s10:List UInt8)=>(qlt s9 s10).bind fun (s11:List UInt8)=>(bif !decide (a1.2.2.2.2=([]:List UInt8)) then (qlt ([43]:List UInt8) a1.2.2.2.2).bind fun (s12:List UInt8)=>(qlt s11 s12).bind fun (s13:List UInt8)=>some s13 else some s11) else (bif !decide (a1.2.2.2.2=([]:List UInt8)) then (qlt ([43]:List UInt8) a1.2.2.2.2).bind fun (s14:List UInt8)=>(qlt s9 s14).bind fun (s15:List UInt8)=>some s15 else some s9)))
def q6o (n:Nat):FC:={ f:=47,args:=[.one (.agg [.d (.int .i64),.d (.int .i64),.d (.int .i64),.d .str,.d .str])],res:=.one (.c (.d .str)),F:=fun p=>q6r n p }
def j3i (n:Nat):List FC:=[q3a n,jb9]
theorem j58 (n:Nat) {G:World->Prop} (hG:Know Inv G) : ∀c∈j3i n,q18 Tryz.prog G c/\q09 c.args=true:=List.forall_mem_cons.2 ⟨qb1 n G hG,List.forall_mem_cons.2 ⟨jho G hG,(fun _ h=>by cases h)⟩⟩
def j1t:q08:=[(3,[⟨12582936,2^21,0⟩,⟨102760464,2^24,1⟩,⟨49*2^24,2^27,3⟩,⟨49*2^27,2^30,7⟩,⟨49*2^30,2^33,15⟩,⟨412316860440,2^36,0⟩,⟨3367254360080,2^39,32⟩,⟨49*2^39,2^42,103⟩,⟨25089*2^33,2^45,255⟩,⟨49*2^45,2^48,511⟩,⟨13510798882111512,2^51,0⟩,⟨110338190870577168,2^54,1024⟩,⟨49*2^54,2^57,3303⟩,⟨25089*2^48,2^60,8191⟩,⟨1152921504606850048,512,16383⟩]),(1000003,[])]
theorem jes:drB j1t (q00 Tryz.f47)=true:=by kernel_rfl
theorem jf2 (n:Nat) : ∀a,(q6o n).F a=main Tryz.prog 38 (j3i n) (qs3 n) j1t (q00 Tryz.f47) [.tmp 2] (q6o n).args (q6o n).res a:=by intro a;kernel_rfl
theorem qrd (n:Nat):q0d Inv Tryz.prog (q6o n):=fun G hG=>⟨⟨by kernel_rfl,fun a r h=>q04 (c:=q00 Tryz.f47) Tryz.func47 (by kernel_rfl) (by kernel_rfl) (Nat.le_of_ble_eq_true (by kernel_rfl)) hG.st (by kernel_rfl) (rs:=[.tmp 2]) (by kernel_rfl) (j58 n hG) (lts:=qs3 n) (fun F hF hFG=>have hK:Know Inv F.G:=hFG ▸ hG;(q03 fun j L h1 h2 h3=>absurd h2 (Nat.not_lt.2 (Nat.le_trans (by decide +kernel) h1)))) jes ((jf2 n a).symm.trans h)⟩,rfl⟩
def qmm (n:Nat):List LC:=[]
def q94 (n:Nat) (a1:List UInt8):Option ((Int×(Int×(Int×((List UInt8)×(List UInt8)))))×(Bool)) :=
 (qut n a1 ([43]:List UInt8)).bind fun (r1:(List UInt8)×((List UInt8)×(Bool)))=>(qut n r1.1 ([45]:List UInt8)).bind fun (r2:(List UInt8)×((List UInt8)×(Bool)))=>(q4p n r2.1 ([118]:List UInt8)).bind fun (r3:List UInt8)=>(qut n r3 ([46]:List UInt8)).bind fun (r4:(List UInt8)×((List UInt8)×(Bool)))=>(qut n r4.2.1 ([46]:List UInt8)).bind fun (r5:(List UInt8)×((List UInt8)×(Bool)))=>(q3t r4.1).bind fun (r6:Int)=>(q3t r5.1).bind fun (r7:Int)=>(q3t r5.2.1).bind fun (r8:Int)=>(q50 n (r6,(r7,(r8,(r2.2.1,r1.2.1))))).bind fun (r9:Bool)=>(bif !r9 then some (((0:Int),((0:Int),((0:Int),(([]:List UInt8),([]:List UInt8))))),false) else (q6r n (r6,(r7,(r8,(r2.2.1,r1.2.1))))).bind fun (r10:List UInt8)=>(bif !decide (r10=a1) then some (((0:Int),((0:Int),((0:Int),(([]:List UInt8),([]:List UInt8))))),false) else some ((r6,(r7,(r8,(r2.2.1,r1.2.1)))),true)))
def q5n (n:Nat):FC:={ f:=120,args:=[.one (.c (.d .str))],res:=.tup [.agg [.d (.int .i64),.d (.int .i64),.d (.int .i64),.d .str,.d .str],.c (.d .bool)],F:=fun p=>q94 n p }
def qu6 (n:Nat):List FC:=[qnx n,q2o n,quf,q3a n,q6o n]
theorem qy9 (n:Nat) {G:World->Prop} (hG:Know Inv G) : ∀c∈qu6 n,q18 Tryz.prog G c/\q09 c.args=true:=List.forall_mem_cons.2 ⟨jgs n G hG,List.forall_mem_cons.2 ⟨qc9 n G hG,List.forall_mem_cons.2 ⟨j7d G hG,List.forall_mem_cons.2 ⟨qb1 n G hG,List.forall_mem_cons.2 ⟨qrd n G hG,(fun _ h=>by cases h)⟩⟩⟩⟩⟩
def qvs:q08:=[]
theorem ja0:drB qvs (q00 Tryz.f120)=true:=by kernel_rfl
theorem jaq (n:Nat) : ∀a,(q5n n).F a=main Tryz.prog 62 (qu6 n) (qmm n) qvs (q00 Tryz.f120) [.cell 2 44,.tmp 3] (q5n n).args (q5n n).res a:=by intro a;kernel_rfl
theorem qte (n:Nat):q0d Inv Tryz.prog (q5n n):=fun G hG=>⟨⟨by kernel_rfl,fun a r h=>q04 (c:=q00 Tryz.f120) Tryz.func120 (by kernel_rfl) (by kernel_rfl) (Nat.le_of_ble_eq_true (by kernel_rfl)) hG.st (by kernel_rfl) (rs:=[.cell 2 44,.tmp 3]) (by kernel_rfl) (qy9 n hG) (lts:=qmm n) (fun F hF hFG=>have hK:Know Inv F.G:=hFG ▸ hG;(q03 fun j L h1 h2 h3=>absurd h2 (Nat.not_lt.2 (Nat.le_trans (by decide +kernel) h1)))) ja0 ((jaq n a).symm.trans h)⟩,rfl⟩
def qtc (n:Nat):List LC:=[]
def qpn (n:Nat) (a1:List UInt8) (a2:List UInt8):Option (Int) :=
 (q3u n a1).bind fun (r1:Bool)=>(q3u n a2).bind fun (r2:Bool)=>(bif r1 then (bif r2 then (q6g n ((List.length a1:Nat):Int) ((List.length a2:Nat):Int)).bind fun (r3:Int)=>(qag a1 a2).bind fun (r4:Int)=>(qk5 n ([r3,r4]:List (Int))).bind fun (r5:Int)=>some r5 else (bif r1 then some (-1:Int) else (bif r2 then some (1:Int) else (qag a1 a2).bind fun (r6:Int)=>some r6))) else (bif r1 then some (-1:Int) else (bif r2 then some (1:Int) else (qag a1 a2).bind fun (r7:Int)=>some r7)))
def qbq (n:Nat):FC:={ f:=186,args:=[.one (.c (.d .str)),.one (.c (.d .str))],res:=.one (.c (.d (.int .i64))),F:=fun p=>qpn n p.1 p.2 }
def j1k (n:Nat):List FC:=[q2y n,q5d n,qoj,q98 n]
theorem j5h (n:Nat) {G:World->Prop} (hG:Know Inv G) : ∀c∈j1k n,q18 Tryz.prog G c/\q09 c.args=true:=List.forall_mem_cons.2 ⟨qjg n G hG,List.forall_mem_cons.2 ⟨qui n G hG,List.forall_mem_cons.2 ⟨j4l G hG,List.forall_mem_cons.2 ⟨j0x n G hG,(fun _ h=>by cases h)⟩⟩⟩⟩
def j2u:q08:=[]
theorem jfk:drB j2u (q00 Tryz.f186)=true:=by kernel_rfl
theorem je8 (n:Nat) : ∀a,(qbq n).F a=main Tryz.prog 33 (j1k n) (qtc n) j2u (q00 Tryz.f186) [.tmp 4] (qbq n).args (qbq n).res a:=by intro a;kernel_rfl
theorem jen (n:Nat):q0d Inv Tryz.prog (qbq n):=fun G hG=>⟨⟨by kernel_rfl,fun a r h=>q04 (c:=q00 Tryz.f186) Tryz.func186 (by kernel_rfl) (by kernel_rfl) (Nat.le_of_ble_eq_true (by kernel_rfl)) hG.st (by kernel_rfl) (rs:=[.tmp 4]) (by kernel_rfl) (j5h n hG) (lts:=qtc n) (fun F hF hFG=>have hK:Know Inv F.G:=hFG ▸ hG;(q03 fun j L h1 h2 h3=>absurd h2 (Nat.not_lt.2 (Nat.le_trans (by decide +kernel) h1)))) jfk ((je8 n a).symm.trans h)⟩,rfl⟩
@[reducible] def q6t:SSt:=⟨[(0,.one (.c (.d (.lst .str)))),(1,.one (.c (.d (.lst .str)))),(2,.one (.c (.fn 186 []))),(11,.one (.c (.d (.lst .str)))),(12,.one (.c (.d (.int .i64)))),(13,.one (.c (.d (.int .i64))))],[],[]⟩
@[reducible] def q3q:List (Exit×SSt):=[(.ret,⟨[(6,.one (.c (.d (.int .i64))))],[],[]⟩),(.exit 0,⟨[(0,.one (.c (.d (.lst .str)))),(1,.one (.c (.d (.lst .str))))],[],[]⟩)]
def qcr (n:Nat) (rec:(List (List UInt8))->(List (List UInt8))->(List (List UInt8))->Int->Int->Option (((Int×(Unit))×(Unit)×(Unit))⊕(((List (List UInt8))×((List (List UInt8))×(Unit)))×(Unit)×(Unit)))) (a1:List (List UInt8)) (a2:List (List UInt8)) (a3:List (List UInt8)) (a4:Int) (a5:Int):Option (((Int×(Unit))×(Unit)×(Unit))⊕(((List (List UInt8))×((List (List UInt8))×(Unit)))×(Unit)×(Unit))) :=
 (bif decide (a5<a4) then (q1h a3 a5).bind fun (x1:List UInt8)=>(bif decide (((List.length a2:Nat):Int)<=a5) then some (Sum.inl (((1:Int),()),((),()))) else (q1h a2 a5).bind fun (x2:List UInt8)=>(qpn n x1 x2).bind fun (r3:Int)=>(bif !decide (r3=(0:Int)) then some (Sum.inl ((r3,()),((),()))) else q0e (IntKind.wrap .i64 (a5+(1:Int))) fun (n4:Int)=>rec a1 a2 a3 a4 n4)) else some (Sum.inr (((a1,(a2,())),((),())))))
def qe3 (n:Nat) (rec:pSt q6t->Option (q0q q3q)) (p:pSt q6t):Option (q0q q3q):=qcr n (fun a1 a2 a3 a4 a5=>rec ((a1,(a2,((),(a3,(a4,(a5,())))))),((),()))) p.1.1 p.1.2.1 p.1.2.2.2.1 p.1.2.2.2.2.1 p.1.2.2.2.2.2.1
def q3o (n m:Nat) (a1:List (List UInt8)) (a2:List (List UInt8)) (a3:List (List UInt8)) (a4:Int) (a5:Int):Option (((Int×(Unit))×(Unit)×(Unit))⊕(((List (List UInt8))×((List (List UInt8))×(Unit)))×(Unit)×(Unit))):=q0t (qe3 n) m ((a1,(a2,((),(a3,(a4,(a5,())))))),((),()))
theorem qbg (n m:Nat) (a1:List (List UInt8)) (a2:List (List UInt8)) (a3:List (List UInt8)) (a4:Int) (a5:Int):q3o n (m+1) a1 a2 a3 a4 a5=qcr n (fun a1 a2 a3 a4 a5=>q3o n m a1 a2 a3 a4 a5) a1 a2 a3 a4 a5:=rfl
def qob (n:Nat):LC:={ sh:=q6t,outs:=q3q,F:=q0t (qe3 n) n }
def qa9 (n:Nat):List LC:=[qob n]
def qig (n:Nat) (a1:List (List UInt8)) (a2:List (List UInt8)) (a3:Unit):Option (Int) :=
 (q3o n n a1 a2 a1 ((List.length a1:Nat):Int) (0:Int)).bind fun (o5:((Int×(Unit))×(Unit)×(Unit))⊕(((List (List UInt8))×((List (List UInt8))×(Unit)))×(Unit)×(Unit)))=>Sum.elim (fun (q6:(Int×(Unit))×(Unit)×(Unit))=>some q6.1.1) (fun (q7:((List (List UInt8))×((List (List UInt8))×(Unit)))×(Unit)×(Unit))=>(bif decide (((List.length q7.1.1:Nat):Int)<((List.length q7.1.2.1:Nat):Int)) then some (-1:Int) else some (0:Int))) o5
def q5q (n:Nat):FC:={ f:=185,args:=[.one (.c (.d (.lst .str))),.one (.c (.d (.lst .str))),.one (.c (.fn 186 []))],res:=.one (.c (.d (.int .i64))),F:=fun p=>qig n p.1 p.2.1 p.2.2 }
def qdt (n:Nat):List FC:=[qbq n]
theorem qeq (n:Nat) {G:World->Prop} (hG:Know Inv G) : ∀c∈qdt n,q18 Tryz.prog G c/\q09 c.args=true:=List.forall_mem_cons.2 ⟨jen n G hG,(fun _ h=>by cases h)⟩
def qe1:q08:=[]
theorem qo4:drB qe1 (q00 Tryz.f185)=true:=by kernel_rfl
theorem qzt (n:Nat) : ∀rec p,qe3 n rec p=round Tryz.prog 39 (qdt n) (qa9 n) qe1 1 q6t q3q (q01 0 0 (q00 Tryz.f185)) rec p:=by intro rec p;kernel_rfl
theorem qv0 (n:Nat) {F:Fr} (hF:F.n=39) (hK:Know Inv F.G):qdv Tryz.prog F (qob n) (q01 0 0 (q00 Tryz.f185)) :=
 q0x hF (by kernel_rfl) (qeq n hK) (qzt n) (fuel:=n) (fun _=>rfl) (q03 fun j L h1 h2 h3=>absurd h2 (Nat.not_lt.2 (Nat.le_trans (by decide +kernel) h1))) (q1n qo4)
theorem j5m (n:Nat) : ∀a,(q5q n).F a=main Tryz.prog 39 (qdt n) (qa9 n) qe1 (q00 Tryz.f185) [.tmp 6] (q5q n).args (q5q n).res a:=by intro a;kernel_rfl
theorem j5e (n:Nat):q0d Inv Tryz.prog (q5q n):=fun G hG=>⟨⟨by kernel_rfl,fun a r h=>q04 (c:=q00 Tryz.f185) Tryz.func185 (by kernel_rfl) (by kernel_rfl) (Nat.le_of_ble_eq_true (by kernel_rfl)) hG.st (by kernel_rfl) (rs:=[.tmp 6]) (by kernel_rfl) (qeq n hG) (lts:=qa9 n) (fun F hF hFG=>have hK:Know Inv F.G:=hFG ▸ hG;(q03 (c:=(q00 Tryz.f185)) (fun j L h1 h2 h3=>by
  have h2':j<1:=Nat.lt_of_lt_of_le h2 (by decide +kernel)
  match j,h1,h2',h3 with
  | 0,_,_,h3=>obtain rfl:=Option.some.inj h3;exact (show q01 0 0 (q00 Tryz.f185)=q01 0 0 (q00 Tryz.f185) by kernel_rfl) ▸ qv0 n hF hK
  | j+1,_,h2',_=>exact absurd h2' (by omega)))) qo4 ((j5m n a).symm.trans h)⟩,rfl⟩
def j2r (n:Nat):List LC:=[]
def j29 (n:Nat) (a1:List UInt8) (a2:List UInt8):Option (Int) :=
 (bif decide (a1=a2) then some (0:Int) else (bif decide (a1=([]:List UInt8)) then some (1:Int) else (bif decide (a2=([]:List UInt8)) then some (-1:Int) else (q5z a1 ([46]:List UInt8)).bind fun (r1:List (List UInt8))=>(q5z a2 ([46]:List UInt8)).bind fun (r2:List (List UInt8))=>(qig n r1 r2 ()).bind fun (r3:Int)=>some r3)))
def qkg (n:Nat):FC:={ f:=159,args:=[.one (.c (.d .str)),.one (.c (.d .str))],res:=.one (.c (.d (.int .i64))),F:=fun p=>j29 n p.1 p.2 }
def jbd (n:Nat):List FC:=[qr1,q5q n]
theorem j8n (n:Nat) {G:World->Prop} (hG:Know Inv G) : ∀c∈jbd n,q18 Tryz.prog G c/\q09 c.args=true:=List.forall_mem_cons.2 ⟨j09 G hG,List.forall_mem_cons.2 ⟨j5e n G hG,(fun _ h=>by cases h)⟩⟩
def j6u:q08:=[]
theorem jio:drB j6u (q00 Tryz.f159)=true:=by kernel_rfl
theorem jh3 (n:Nat) : ∀a,(qkg n).F a=main Tryz.prog 20 (jbd n) (j2r n) j6u (q00 Tryz.f159) [.tmp 4] (qkg n).args (qkg n).res a:=by intro a;kernel_rfl
theorem jii (n:Nat):q0d Inv Tryz.prog (qkg n):=fun G hG=>⟨⟨by kernel_rfl,fun a r h=>q04 (c:=q00 Tryz.f159) Tryz.func159 (by kernel_rfl) (by kernel_rfl) (Nat.le_of_ble_eq_true (by kernel_rfl)) hG.st (by kernel_rfl) (rs:=[.tmp 4]) (by kernel_rfl) (j8n n hG) (lts:=j2r n) (fun F hF hFG=>have hK:Know Inv F.G:=hFG ▸ hG;(q03 fun j L h1 h2 h3=>absurd h2 (Nat.not_lt.2 (Nat.le_trans (by decide +kernel) h1)))) jio ((jh3 n a).symm.trans h)⟩,rfl⟩
def qeh (n:Nat):List LC:=[]
def q91 (n:Nat) (a1:Int×(Int×(Int×((List UInt8)×(List UInt8))))) (a2:Int×(Int×(Int×((List UInt8)×(List UInt8))))):Option (Int) :=
 (q50 n a1).bind fun (r1:Bool)=>(bif !r1 then some (0:Int) else (q50 n a2).bind fun (r2:Bool)=>(bif !r2 then some (0:Int) else (q6g n a1.1 a2.1).bind fun (r3:Int)=>(q6g n a1.2.1 a2.2.1).bind fun (r4:Int)=>(q6g n a1.2.2.1 a2.2.2.1).bind fun (r5:Int)=>(j29 n a1.2.2.2.1 a2.2.2.2.1).bind fun (r6:Int)=>(qk5 n ([r3,r4,r5,r6]:List (Int))).bind fun (r7:Int)=>some r7))
def q47 (n:Nat):FC:={ f:=121,args:=[.one (.agg [.d (.int .i64),.d (.int .i64),.d (.int .i64),.d .str,.d .str]),.one (.agg [.d (.int .i64),.d (.int .i64),.d (.int .i64),.d .str,.d .str])],res:=.one (.c (.d (.int .i64))),F:=fun p=>q91 n p.1 p.2 }
def qi8 (n:Nat):List FC:=[q3a n,q5d n,qkg n,q98 n]
theorem qqv (n:Nat) {G:World->Prop} (hG:Know Inv G) : ∀c∈qi8 n,q18 Tryz.prog G c/\q09 c.args=true:=List.forall_mem_cons.2 ⟨qb1 n G hG,List.forall_mem_cons.2 ⟨qui n G hG,List.forall_mem_cons.2 ⟨jii n G hG,List.forall_mem_cons.2 ⟨j0x n G hG,(fun _ h=>by cases h)⟩⟩⟩⟩
def qhh:q08:=[(3,[⟨3298534883520,2^39,0⟩,⟨26938034880640,2^42,1⟩,⟨211106232534528,2^45,0⟩,⟨1724034232353792,2^48,4⟩,⟨3137*2^42,2^51,15⟩,⟨108086391056892096,2^54,0⟩,⟨882705526964617344,2^57,32⟩,⟨6917529027641083392,2^60,0⟩,⟨56493153725735502848,2^63,128⟩,⟨3137*2^57,2^66,511⟩,⟨3541774862152233910464,2^69,0⟩,⟨28924494707576576934016,2^72,1024⟩,⟨226673591177742970258944,2^75,0⟩,⟨1851167661284900923769856,2^78,4096⟩,⟨3137*2^72,2^81,16383⟩,⟨116056878683004400771793088,2^84,0⟩,⟨947797842577869272969642112,2^87,32768⟩,⟨7427640235712281649394746880,2^90,0⟩,⟨60659061924983633470057088000,2^93,2^17⟩,⟨3137*2^87,2^96,524287⟩,⟨1724035306127361*2^51,5*2^99,1048575⟩,⟨53*2^99,2^102,2097151⟩,⟨5070602400912917605986812846080,4096,4194303⟩])]
theorem qzh:drB qhh (q00 Tryz.f121)=true:=by kernel_rfl
theorem qzw (n:Nat) : ∀a,(q47 n).F a=main Tryz.prog 35 (qi8 n) (qeh n) qhh (q00 Tryz.f121) [.tmp 4] (q47 n).args (q47 n).res a:=by intro a;kernel_rfl
theorem qyg (n:Nat):q0d Inv Tryz.prog (q47 n):=fun G hG=>⟨⟨by kernel_rfl,fun a r h=>q04 (c:=q00 Tryz.f121) Tryz.func121 (by kernel_rfl) (by kernel_rfl) (Nat.le_of_ble_eq_true (by kernel_rfl)) hG.st (by kernel_rfl) (rs:=[.tmp 4]) (by kernel_rfl) (qqv n hG) (lts:=qeh n) (fun F hF hFG=>have hK:Know Inv F.G:=hFG ▸ hG;(q03 fun j L h1 h2 h3=>absurd h2 (Nat.not_lt.2 (Nat.le_trans (by decide +kernel) h1)))) qzh ((qzw n a).symm.trans h)⟩,rfl⟩
end Go.Proofs.YtapfankgdkdkgaaGreatDoor.AM
