
import Derived.Test.YtlmjgghohipipaaGreatDoorLc15
import Derived.Lib.AppendZeros
namespace Go.Proofs.YtlmjgghohipipaaGreatDoor.AM
open Go.RowKit
set_option linter.unusedVariables false
set_option maxRecDepth 20000
def q7y (n:Nat):List LC:=[]
def q5z (n:Nat) (a1:List UInt8) (a2:List UInt8):Option (Bool) :=
 (bif decide (((List.length a2:Nat):Int)≤((List.length a1:Nat):Int)) then q2f (IntKind.wrap .i64 (((List.length a1:Nat):Int) - ((List.length a2:Nat):Int))) fun (n1:Int)=>(q5y a1 n1 ((List.length a1:Nat):Int)).bind fun (s2:List UInt8)=>some (decide (s2=a2)) else some false)
def q24 (n:Nat):FC:={ f:=90,args:=[.one (.c (.d .str)),.one (.c (.d .str))],res:=.one (.c (.d .bool)),F:=fun p=>q5z n p.1 p.2 }
def q9e (n:Nat):List FC:=[]
theorem qh2 (n:Nat) {G:World→Prop} (hG:Know Inv G) : ∀ c∈q9e n,q1b Tryz.prog G c∧q0i c.args=true:=(fun _ h=>by cases h)
def q9s:q0f:=[]
theorem ql3:drB q9s (q00 Tryz.f90)=true:=by kernel_rfl
theorem qlh (n:Nat) : ∀ a,(q24 n).F a=main Tryz.prog 21 (q9e n) (q7y n) q9s (q00 Tryz.f90) [.tmp 4] (q24 n).args (q24 n).res a:=by intro a;kernel_rfl
theorem qmo (n:Nat):q0d Inv Tryz.prog (q24 n):=fun G hG=>⟨⟨by kernel_rfl,fun a r h=>q06 (c:=q00 Tryz.f90) Tryz.func90 (by kernel_rfl) (by kernel_rfl) (Nat.le_of_ble_eq_true (by kernel_rfl)) hG.st (by kernel_rfl) (rs:=[.tmp 4]) (by kernel_rfl) (qh2 n hG) (lts:=q7y n) (fun F hF hFG=>have hK:Know Inv F.G:=hFG ▸ hG;(q07 fun j L h1 h2 h3=>absurd h2 (Nat.not_lt.2 (Nat.le_trans (by decide +kernel) h1)))) ql3 ((qlh n a).symm.trans h)⟩,rfl⟩
def q6t (n:Nat):List LC:=[]
def q5e (n:Nat) (a1:List UInt8) (a2:List UInt8):Option (List UInt8) :=
 (q5z n a1 a2).bind fun (r1:Bool)=>(bif r1 then q2f (IntKind.wrap .i64 (((List.length a1:Nat):Int) - ((List.length a2:Nat):Int))) fun (n2:Int)=>(q5y a1 (0:Int) n2).bind fun (s3:List UInt8)=>some s3 else some a1)
def q1m (n:Nat):FC:={ f:=69,args:=[.one (.c (.d .str)),.one (.c (.d .str))],res:=.one (.c (.d .str)),F:=fun p=>q5e n p.1 p.2 }
def q7v (n:Nat):List FC:=[q24 n]
theorem qct (n:Nat) {G:World→Prop} (hG:Know Inv G) : ∀ c∈q7v n,q1b Tryz.prog G c∧q0i c.args=true:=List.forall_mem_cons.2 ⟨qmo n G hG,(fun _ h=>by cases h)⟩
def q81:q0f:=[]
theorem qho:drB q81 (q00 Tryz.f69)=true:=by kernel_rfl
theorem qhy (n:Nat) : ∀ a,(q1m n).F a=main Tryz.prog 16 (q7v n) (q6t n) q81 (q00 Tryz.f69) [.tmp 4] (q1m n).args (q1m n).res a:=by intro a;kernel_rfl
theorem qi2 (n:Nat):q0d Inv Tryz.prog (q1m n):=fun G hG=>⟨⟨by kernel_rfl,fun a r h=>q06 (c:=q00 Tryz.f69) Tryz.func69 (by kernel_rfl) (by kernel_rfl) (Nat.le_of_ble_eq_true (by kernel_rfl)) hG.st (by kernel_rfl) (rs:=[.tmp 4]) (by kernel_rfl) (qct n hG) (lts:=q6t n) (fun F hF hFG=>have hK:Know Inv F.G:=hFG ▸ hG;(q07 fun j L h1 h2 h3=>absurd h2 (Nat.not_lt.2 (Nat.le_trans (by decide +kernel) h1)))) qho ((qhy n a).symm.trans h)⟩,rfl⟩
def q82 (n:Nat):List LC:=[]
def q3u (n:Nat) (a1:List UInt8) (a2:List UInt8):Option (List UInt8) :=
 (q5e n a1 a2).bind fun (r1:List UInt8)=>some r1
def q2d (n:Nat):FC:={ f:=42,args:=[.one (.c (.d .str)),.one (.c (.d .str))],res:=.one (.c (.d .str)),F:=fun p=>q3u n p.1 p.2 }
def q9y (n:Nat):List FC:=[q1m n]
theorem qhi (n:Nat) {G:World→Prop} (hG:Know Inv G) : ∀ c∈q9y n,q1b Tryz.prog G c∧q0i c.args=true:=List.forall_mem_cons.2 ⟨qi2 n G hG,(fun _ h=>by cases h)⟩
def q8t:q0f:=[]
theorem ql4:drB q8t (q00 Tryz.f42)=true:=by kernel_rfl
theorem qlq (n:Nat) : ∀ a,(q2d n).F a=main Tryz.prog 8 (q9y n) (q82 n) q8t (q00 Tryz.f42) [.tmp 4] (q2d n).args (q2d n).res a:=by intro a;kernel_rfl
theorem qly (n:Nat):q0d Inv Tryz.prog (q2d n):=fun G hG=>⟨⟨by kernel_rfl,fun a r h=>q06 (c:=q00 Tryz.f42) Tryz.func42 (by kernel_rfl) (by kernel_rfl) (Nat.le_of_ble_eq_true (by kernel_rfl)) hG.st (by kernel_rfl) (rs:=[.tmp 4]) (by kernel_rfl) (qhi n hG) (lts:=q82 n) (fun F hF hFG=>have hK:Know Inv F.G:=hFG ▸ hG;(q07 fun j L h1 h2 h3=>absurd h2 (Nat.not_lt.2 (Nat.le_trans (by decide +kernel) h1)))) ql4 ((qlq n a).symm.trans h)⟩,rfl⟩
def qj5 (n:Nat):List LC:=[]
def qdt (n:Nat) (a1:List UInt8):Option (List (List UInt8)) :=
 (bif decide (a1=([]:List UInt8)) then some [] else (q3u n a1 ([10]:List UInt8)).bind fun (r1:List UInt8)=>(q49 r1 ([10]:List UInt8)).bind fun (r2:List (List UInt8))=>some r2)
def q6g (n:Nat):FC:={ f:=23,args:=[.one (.c (.d .str))],res:=.one (.c (.d (.lst .str))),F:=fun p=>qdt n p }
def qos (n:Nat):List FC:=[q2d n,qdl]
theorem qtv (n:Nat) {G:World→Prop} (hG:Know Inv G) : ∀ c∈qos n,q1b Tryz.prog G c∧q0i c.args=true:=List.forall_mem_cons.2 ⟨qly n G hG,List.forall_mem_cons.2 ⟨qkk G hG,(fun _ h=>by cases h)⟩⟩
def qon:q0f:=[]
theorem j2z:drB qon (q00 Tryz.f23)=true:=by kernel_rfl
theorem qzx (n:Nat) : ∀ a,(q6g n).F a=main Tryz.prog 8 (qos n) (qj5 n) qon (q00 Tryz.f23) [.tmp 2] (q6g n).args (q6g n).res a:=by intro a;kernel_rfl
theorem j0a (n:Nat):q0d Inv Tryz.prog (q6g n):=fun G hG=>⟨⟨by kernel_rfl,fun a r h=>q06 (c:=q00 Tryz.f23) Tryz.func23 (by kernel_rfl) (by kernel_rfl) (Nat.le_of_ble_eq_true (by kernel_rfl)) hG.st (by kernel_rfl) (rs:=[.tmp 2]) (by kernel_rfl) (qtv n hG) (lts:=qj5 n) (fun F hF hFG=>have hK:Know Inv F.G:=hFG ▸ hG;(q07 fun j L h1 h2 h3=>absurd h2 (Nat.not_lt.2 (Nat.le_trans (by decide +kernel) h1)))) j2z ((qzx n a).symm.trans h)⟩,rfl⟩
def qg7 (n:Nat):List LC:=[]
def q2n (n:Nat) (a1:List UInt8):Option (Bool) :=
 (q11 n a1 ([104,49,58]:List UInt8)).bind fun (r1:(List UInt8)×(Bool))=>(bif !r1.2 then some false else (Bs.q6y r1.1).bind fun (r2:(List UInt8)×(Bool))=>(bif r2.2 then some (decide (((List.length r2.1:Nat):Int)=(32:Int))) else some false))
def q4g (n:Nat):FC:={ f:=54,args:=[.one (.c (.d .str))],res:=.one (.c (.d .bool)),F:=fun p=>q2n n p }
def qk0 (n:Nat):List FC:=[q1y n,Bs.qoz]
theorem qnw (n:Nat) {G:World→Prop} (hG:Know Inv G) : ∀ c∈qk0 n,q1b Tryz.prog G c∧q0i c.args=true:=List.forall_mem_cons.2 ⟨qbx n G hG,List.forall_mem_cons.2 ⟨Bs.j0j G hG,(fun _ h=>by cases h)⟩⟩
def qjp:q0f:=[]
theorem qy0:drB qjp (q00 Tryz.f54)=true:=by kernel_rfl
theorem qxb (n:Nat) : ∀ a,(q4g n).F a=main Tryz.prog 24 (qk0 n) (qg7 n) qjp (q00 Tryz.f54) [.tmp 2] (q4g n).args (q4g n).res a:=by intro a;kernel_rfl
theorem qxf (n:Nat):q0d Inv Tryz.prog (q4g n):=fun G hG=>⟨⟨by kernel_rfl,fun a r h=>q06 (c:=q00 Tryz.f54) Tryz.func54 (by kernel_rfl) (by kernel_rfl) (Nat.le_of_ble_eq_true (by kernel_rfl)) hG.st (by kernel_rfl) (rs:=[.tmp 2]) (by kernel_rfl) (qnw n hG) (lts:=qg7 n) (fun F hF hFG=>have hK:Know Inv F.G:=hFG ▸ hG;(q07 fun j L h1 h2 h3=>absurd h2 (Nat.not_lt.2 (Nat.le_trans (by decide +kernel) h1)))) qy0 ((qxb n a).symm.trans h)⟩,rfl⟩
@[reducible] def q7a:SSt:=⟨[(0,.one (.c (.d (.lst .str)))),(1,.one (.c (.d .str))),(7,.one (.c (.d (.int .i64)))),(8,.one (.c (.d (.int .i64))))],[],[]⟩
@[reducible] def q3r:List (Exit×SSt):=[(.ret,⟨[(4,.one (.c (.d (.int .i64))))],[],[]⟩),(.exit 0,⟨[],[],[]⟩)]
def qgx (n:Nat) (rec:(List (List UInt8))→(List UInt8)→Int→Int→Option (((Int×(Unit))×(Unit)×(Unit))⊕((Unit)×(Unit)×(Unit)))) (a1:List (List UInt8)) (a2:List UInt8) (a3:Int) (a4:Int):Option (((Int×(Unit))×(Unit)×(Unit))⊕((Unit)×(Unit)×(Unit))) :=
 (bif decide (a4<a3) then (q67 a1 a4).bind fun (x1:List UInt8)=>(bif decide (a2=x1) then some (Sum.inl ((a4,()),((),()))) else q2f (IntKind.wrap .i64 (a4+(1:Int))) fun (n2:Int)=>rec a1 a2 a3 n2) else some (Sum.inr (((),((),())))))
def qg2 (n:Nat) (rec:pSt q7a→Option (q0t q3r)) (p:pSt q7a):Option (q0t q3r):=qgx n (fun a1 a2 a3 a4=>rec ((a1,(a2,(a3,(a4,())))),((),()))) p.1.1 p.1.2.1 p.1.2.2.1 p.1.2.2.2.1
def q2k (n m:Nat) (a1:List (List UInt8)) (a2:List UInt8) (a3:Int) (a4:Int):Option (((Int×(Unit))×(Unit)×(Unit))⊕((Unit)×(Unit)×(Unit))):=q10 (qg2 n) m ((a1,(a2,(a3,(a4,())))),((),()))
theorem qaw (n m:Nat) (a1:List (List UInt8)) (a2:List UInt8) (a3:Int) (a4:Int):q2k n (m+1) a1 a2 a3 a4=qgx n (fun a1 a2 a3 a4=>q2k n m a1 a2 a3 a4) a1 a2 a3 a4:=rfl
def qnd (n:Nat):LC:={ sh:=q7a,outs:=q3r,F:=q10 (qg2 n) n }
def qan (n:Nat):List LC:=[qnd n]
def ql9 (n:Nat) (a1:List (List UInt8)) (a2:List UInt8):Option (Int) :=
 (q2k n n a1 a2 ((List.length a1:Nat):Int) (0:Int)).bind fun (o3:((Int×(Unit))×(Unit)×(Unit))⊕((Unit)×(Unit)×(Unit)))=>Sum.elim (fun (q4:(Int×(Unit))×(Unit)×(Unit))=>some q4.1.1) (fun (q5:(Unit)×(Unit)×(Unit))=>some (-1:Int)) o3
def q6i (n:Nat):FC:={ f:=70,args:=[.one (.c (.d (.lst .str))),.one (.c (.d .str))],res:=.one (.c (.d (.int .i64))),F:=fun p=>ql9 n p.1 p.2 }
def qh1 (n:Nat):List FC:=[]
theorem qea (n:Nat) {G:World→Prop} (hG:Know Inv G) : ∀ c∈qh1 n,q1b Tryz.prog G c∧q0i c.args=true:=(fun _ h=>by cases h)
def qfa:q0f:=[]
theorem qnh:drB qfa (q00 Tryz.f70)=true:=by kernel_rfl
theorem qyx (n:Nat) : ∀ rec p,qg2 n rec p=round Tryz.prog 19 (qh1 n) (qan n) qfa 1 q7a q3r (q03 0 0 (q00 Tryz.f70)) rec p:=by intro rec p;kernel_rfl
theorem qte (n:Nat) {F:Fr} (hF:F.n=19) (hK:Know Inv F.G):qk3 Tryz.prog F (qnd n) (q03 0 0 (q00 Tryz.f70)) :=
 q1a hF (by kernel_rfl) (qea n hK) (qyx n) (fuel:=n) (fun _=>rfl) (q07 fun j L h1 h2 h3=>absurd h2 (Nat.not_lt.2 (Nat.le_trans (by decide +kernel) h1))) (q2t qnh)
theorem j3a (n:Nat) : ∀ a,(q6i n).F a=main Tryz.prog 19 (qh1 n) (qan n) qfa (q00 Tryz.f70) [.tmp 4] (q6i n).args (q6i n).res a:=by intro a;kernel_rfl
theorem j1q (n:Nat):q0d Inv Tryz.prog (q6i n):=fun G hG=>⟨⟨by kernel_rfl,fun a r h=>q06 (c:=q00 Tryz.f70) Tryz.func70 (by kernel_rfl) (by kernel_rfl) (Nat.le_of_ble_eq_true (by kernel_rfl)) hG.st (by kernel_rfl) (rs:=[.tmp 4]) (by kernel_rfl) (qea n hG) (lts:=qan n) (fun F hF hFG=>have hK:Know Inv F.G:=hFG ▸ hG;(q07 (c:=(q00 Tryz.f70)) (fun j L h1 h2 h3=>by
  have h2':j<1:=Nat.lt_of_lt_of_le h2 (by decide +kernel)
  match j,h1,h2',h3 with
  | 0,_,_,h3=>obtain rfl:=Option.some.inj h3;exact (show q03 0 0 (q00 Tryz.f70)=q03 0 0 (q00 Tryz.f70) by kernel_rfl) ▸ qte n hF hK
  | j+1,_,h2',_=>exact absurd h2' (by omega)))) qnh ((j3a n a).symm.trans h)⟩,rfl⟩
def q8x (n:Nat):List LC:=[]
def q5f (n:Nat) (a1:List (List UInt8)) (a2:List UInt8):Option (Bool) :=
 (ql9 n a1 a2).bind fun (r1:Int)=>some (decide ((0:Int)≤r1))
def q2s (n:Nat):FC:={ f:=43,args:=[.one (.c (.d (.lst .str))),.one (.c (.d .str))],res:=.one (.c (.d .bool)),F:=fun p=>q5f n p.1 p.2 }
def qcm (n:Nat):List FC:=[q6i n]
theorem qhu (n:Nat) {G:World→Prop} (hG:Know Inv G) : ∀ c∈qcm n,q1b Tryz.prog G c∧q0i c.args=true:=List.forall_mem_cons.2 ⟨j1q n G hG,(fun _ h=>by cases h)⟩
def qc3:q0f:=[]
theorem qq2:drB qc3 (q00 Tryz.f43)=true:=by kernel_rfl
theorem qn5 (n:Nat) : ∀ a,(q2s n).F a=main Tryz.prog 9 (qcm n) (q8x n) qc3 (q00 Tryz.f43) [.tmp 4] (q2s n).args (q2s n).res a:=by intro a;kernel_rfl
theorem qpb (n:Nat):q0d Inv Tryz.prog (q2s n):=fun G hG=>⟨⟨by kernel_rfl,fun a r h=>q06 (c:=q00 Tryz.f43) Tryz.func43 (by kernel_rfl) (by kernel_rfl) (Nat.le_of_ble_eq_true (by kernel_rfl)) hG.st (by kernel_rfl) (rs:=[.tmp 4]) (by kernel_rfl) (qhu n hG) (lts:=q8x n) (fun F hF hFG=>have hK:Know Inv F.G:=hFG ▸ hG;(q07 fun j L h1 h2 h3=>absurd h2 (Nat.not_lt.2 (Nat.le_trans (by decide +kernel) h1)))) qq2 ((qn5 n a).symm.trans h)⟩,rfl⟩
def qpq (n:Nat):List LC:=[]
def qlj (n:Nat) (a1:List UInt8):Option (((List UInt8)×(Int×(Int×(Int×((List UInt8)×((List UInt8)×(List UInt8)))))))×(Bool)) :=
 (q49 a1 ([32]:List UInt8)).bind fun (r1:List (List UInt8))=>(bif !decide (((List.length r1:Nat):Int)=(3:Int)) then some ((([]:List UInt8),((0:Int),((0:Int),((0:Int),(([]:List UInt8),(([]:List UInt8),([]:List UInt8))))))),false) else (q5f n r1 ([]:List UInt8)).bind fun (r2:Bool)=>(bif r2 then some ((([]:List UInt8),((0:Int),((0:Int),((0:Int),(([]:List UInt8),(([]:List UInt8),([]:List UInt8))))))),false) else (q67 r1 (1:Int)).bind fun (x3:List UInt8)=>(qdu n x3).bind fun (r4:(Int×(Int×(Int×((List UInt8)×(List UInt8)))))×(Bool))=>(q67 r1 (0:Int)).bind fun (x5:List UInt8)=>(q67 r1 (2:Int)).bind fun (x6:List UInt8)=>some ((x5,(r4.1.1,(r4.1.2.1,(r4.1.2.2.1,(r4.1.2.2.2.1,(r4.1.2.2.2.2,x6)))))),r4.2)))
def qa3 (n:Nat):FC:={ f:=24,args:=[.one (.c (.d .str))],res:=.tup [.agg [.d .str,.d (.int .i64),.d (.int .i64),.d (.int .i64),.d .str,.d .str,.d .str],.c (.d .bool)],F:=fun p=>qlj n p }
def quh (n:Nat):List FC:=[qdl,q2s n,q6a n]
theorem qz4 (n:Nat) {G:World→Prop} (hG:Know Inv G) : ∀ c∈quh n,q1b Tryz.prog G c∧q0i c.args=true:=List.forall_mem_cons.2 ⟨qkk G hG,List.forall_mem_cons.2 ⟨qpb n G hG,List.forall_mem_cons.2 ⟨j3i n G hG,(fun _ h=>by cases h)⟩⟩⟩
def qvp:q0f:=[(5,[⟨28334198897217871286272,2^72,0⟩,⟨49*2^72,2^75,1⟩,⟨49*2^75,2^78,3⟩,⟨14507109835375550096572416,2^81,0⟩,⟨116056878683004400771796992,2^84,0⟩,⟨49*2^84,2^87,16⟩,⟨49*2^87,2^90,48⟩,⟨200713*2^78,2^93,127⟩,⟨475368975085586025561263964160,2^96,0⟩,⟨9903520314283042199192993984,128,255⟩,⟨79228162514264337593543953408,512,1023⟩])]
theorem j4x:drB qvp (q00 Tryz.f24)=true:=by kernel_rfl
theorem j7j (n:Nat) : ∀ a,(qa3 n).F a=main Tryz.prog 33 (quh n) (qpq n) qvp (q00 Tryz.f24) [.cell 2 32,.tmp 3] (qa3 n).args (qa3 n).res a:=by intro a;kernel_rfl
theorem j63 (n:Nat):q0d Inv Tryz.prog (qa3 n):=fun G hG=>⟨⟨by kernel_rfl,fun a r h=>q06 (c:=q00 Tryz.f24) Tryz.func24 (by kernel_rfl) (by kernel_rfl) (Nat.le_of_ble_eq_true (by kernel_rfl)) hG.st (by kernel_rfl) (rs:=[.cell 2 32,.tmp 3]) (by kernel_rfl) (qz4 n hG) (lts:=qpq n) (fun F hF hFG=>have hK:Know Inv F.G:=hFG ▸ hG;(q07 fun j L h1 h2 h3=>absurd h2 (Nat.not_lt.2 (Nat.le_trans (by decide +kernel) h1)))) j4x ((j7j n a).symm.trans h)⟩,rfl⟩
def qja (n:Nat):List LC:=[]
def q5p (n:Nat) (a1:(List UInt8)×(Int×(Int×(Int×((List UInt8)×((List UInt8)×(List UInt8))))))):Option (Int) :=
 (q7l n a1.1).bind fun (r1:Bool)=>(bif !r1 then some (6:Int) else (q2c n (a1.2.1,(a1.2.2.1,(a1.2.2.2.1,(a1.2.2.2.2.1,a1.2.2.2.2.2.1))))).bind fun (r2:Bool)=>(bif !r2 then some (7:Int) else (qb2 n a1.1 (a1.2.1,(a1.2.2.1,(a1.2.2.2.1,(a1.2.2.2.2.1,a1.2.2.2.2.2.1))))).bind fun (r3:Bool)=>(bif !r3 then some (8:Int) else (q2n n a1.2.2.2.2.2.2).bind fun (r4:Bool)=>(bif !r4 then some (4:Int) else some (0:Int)))))
def q4b (n:Nat):FC:={ f:=32,args:=[.one (.agg [.d .str,.d (.int .i64),.d (.int .i64),.d (.int .i64),.d .str,.d .str,.d .str])],res:=.one (.c (.d (.int .i64))),F:=fun p=>q5p n p }
def qqj (n:Nat):List FC:=[q6e n,q2e n,qa8 n,q4g n]
theorem qs4 (n:Nat) {G:World→Prop} (hG:Know Inv G) : ∀ c∈qqj n,q1b Tryz.prog G c∧q0i c.args=true:=List.forall_mem_cons.2 ⟨j2d n G hG,List.forall_mem_cons.2 ⟨q68 n G hG,List.forall_mem_cons.2 ⟨j5e n G hG,List.forall_mem_cons.2 ⟨qxf n G hG,(fun _ h=>by cases h)⟩⟩⟩⟩
def qr0:q0f:=[]
theorem j2o:drB qr0 (q00 Tryz.f32)=true:=by kernel_rfl
theorem j3v (n:Nat) : ∀ a,(q4b n).F a=main Tryz.prog 25 (qqj n) (qja n) qr0 (q00 Tryz.f32) [.tmp 2] (q4b n).args (q4b n).res a:=by intro a;kernel_rfl
theorem qp9 (n:Nat):q0d Inv Tryz.prog (q4b n):=fun G hG=>⟨⟨by kernel_rfl,fun a r h=>q06 (c:=q00 Tryz.f32) Tryz.func32 (by kernel_rfl) (by kernel_rfl) (Nat.le_of_ble_eq_true (by kernel_rfl)) hG.st (by kernel_rfl) (rs:=[.tmp 2]) (by kernel_rfl) (qs4 n hG) (lts:=qja n) (fun F hF hFG=>have hK:Know Inv F.G:=hFG ▸ hG;(q07 fun j L h1 h2 h3=>absurd h2 (Nat.not_lt.2 (Nat.le_trans (by decide +kernel) h1)))) j2o ((j3v n a).symm.trans h)⟩,rfl⟩
def qin (n:Nat):List LC:=[]
def q5i (n:Nat) (a1:Int×(Int×(Int×((List UInt8)×(List UInt8))))) (a2:Int×(Int×(Int×((List UInt8)×(List UInt8))))):Option (Bool) :=
 (q4a n a1 a2).bind fun (r1:Int)=>some (decide (r1<(0:Int)))
def q4v (n:Nat):FC:={ f:=33,args:=[.one (.agg [.d (.int .i64),.d (.int .i64),.d (.int .i64),.d .str,.d .str]),.one (.agg [.d (.int .i64),.d (.int .i64),.d (.int .i64),.d .str,.d .str])],res:=.one (.c (.d .bool)),F:=fun p=>q5i n p.1 p.2 }
def qpf (n:Nat):List FC:=[q2i n]
theorem qu6 (n:Nat) {G:World→Prop} (hG:Know Inv G) : ∀ c∈qpf n,q1b Tryz.prog G c∧q0i c.args=true:=List.forall_mem_cons.2 ⟨qep n G hG,(fun _ h=>by cases h)⟩
def qqy:q0f:=[]
theorem j3x:drB qqy (q00 Tryz.f33)=true:=by kernel_rfl
theorem j35 (n:Nat) : ∀ a,(q4v n).F a=main Tryz.prog 9 (qpf n) (qin n) qqy (q00 Tryz.f33) [.tmp 4] (q4v n).args (q4v n).res a:=by intro a;kernel_rfl
theorem qob (n:Nat):q0d Inv Tryz.prog (q4v n):=fun G hG=>⟨⟨by kernel_rfl,fun a r h=>q06 (c:=q00 Tryz.f33) Tryz.func33 (by kernel_rfl) (by kernel_rfl) (Nat.le_of_ble_eq_true (by kernel_rfl)) hG.st (by kernel_rfl) (rs:=[.tmp 4]) (by kernel_rfl) (qu6 n hG) (lts:=qin n) (fun F hF hFG=>have hK:Know Inv F.G:=hFG ▸ hG;(q07 fun j L h1 h2 h3=>absurd h2 (Nat.not_lt.2 (Nat.le_trans (by decide +kernel) h1)))) j3x ((j35 n a).symm.trans h)⟩,rfl⟩
@[reducible] def q57:SSt:=⟨[(1,.one (.c (.d .str))),(4,.one (.c (.box 4 0))),(6,.one (.c (.box 6 0))),(7,.one (.c (.d .bool))),(11,.one (.c (.d (.lst (.prod .str (.prod (.int .i64) (.prod (.int .i64) (.prod (.int .i64) (.prod .str (.prod .str .str)))))))))),(12,.one (.c (.d (.int .i64)))),(13,.one (.c (.d (.int .i64))))],[(4,(32,[.d .str,.d (.int .i64),.d (.int .i64),.d (.int .i64),.d .str,.d .str,.d .str])),(6,(32,[.d .str,.d (.int .i64),.d (.int .i64),.d (.int .i64),.d .str,.d .str,.d .str]))],[]⟩
@[reducible] def q35:List (Exit×SSt):=[(.exit 0,⟨[(4,.one (.c (.box 4 0))),(6,.one (.c (.box 6 0))),(7,.one (.c (.d .bool)))],[(4,(32,[.d .str,.d (.int .i64),.d (.int .i64),.d (.int .i64),.d .str,.d .str,.d .str])),(6,(32,[.d .str,.d (.int .i64),.d (.int .i64),.d (.int .i64),.d .str,.d .str,.d .str]))],[]⟩)]
def qzd (n:Nat) (rec:(List UInt8)→Bool→(List (List UInt8×((Int)×((Int)×((Int)×(List UInt8×(List UInt8×(List UInt8))))))))→Int→Int→(List UInt8)→Int→Int→Int→(List UInt8)→(List UInt8)→(List UInt8)→(List UInt8)→Int→Int→Int→(List UInt8)→(List UInt8)→(List UInt8)→Option ((Unit×(Unit×(Bool×(Unit))))×(((List UInt8)×(Int×(Int×(Int×((List UInt8)×((List UInt8)×(List UInt8)))))))×(((List UInt8)×(Int×(Int×(Int×((List UInt8)×((List UInt8)×(List UInt8)))))))×(Unit)))×(Unit))) (a1:List UInt8) (a2:Bool) (a3:List (List UInt8×((Int)×((Int)×((Int)×(List UInt8×(List UInt8×(List UInt8)))))))) (a4:Int) (a5:Int) (a6:List UInt8) (a7:Int) (a8:Int) (a9:Int) (a10:List UInt8) (a11:List UInt8) (a12:List UInt8) (a13:List UInt8) (a14:Int) (a15:Int) (a16:Int) (a17:List UInt8) (a18:List UInt8) (a19:List UInt8):Option ((Unit×(Unit×(Bool×(Unit))))×(((List UInt8)×(Int×(Int×(Int×((List UInt8)×((List UInt8)×(List UInt8)))))))×(((List UInt8)×(Int×(Int×(Int×((List UInt8)×((List UInt8)×(List UInt8)))))))×(Unit)))×(Unit)) :=
 (bif decide (a5<a4) then (q67 a3 a5).bind fun (x1:List UInt8×((Int)×((Int)×((Int)×(List UInt8×(List UInt8×(List UInt8)))))))=>(bif decide (x1.1=a1) then (bif !a2 then q2f (IntKind.wrap .i64 (a5+(1:Int))) fun (n2:Int)=>rec a1 true a3 a4 n2 a6 a7 a8 a9 a10 a11 a12 x1.1 x1.2.1 x1.2.2.1 x1.2.2.2.1 x1.2.2.2.2.1 x1.2.2.2.2.2.1 x1.2.2.2.2.2.2 else (q4a n (x1.2.1,(x1.2.2.1,(x1.2.2.2.1,(x1.2.2.2.2.1,x1.2.2.2.2.2.1)))) (a14,(a15,(a16,(a17,a18))))).bind fun (r3:Int)=>(bif decide ((0:Int)<r3) then q2f (IntKind.wrap .i64 (a5+(1:Int))) fun (n4:Int)=>rec a1 true a3 a4 n4 a6 a7 a8 a9 a10 a11 a12 x1.1 x1.2.1 x1.2.2.1 x1.2.2.2.1 x1.2.2.2.2.1 x1.2.2.2.2.2.1 x1.2.2.2.2.2.2 else q2f (IntKind.wrap .i64 (a5+(1:Int))) fun (n5:Int)=>rec a1 a2 a3 a4 n5 a6 a7 a8 a9 a10 a11 a12 a13 a14 a15 a16 a17 a18 a19)) else q2f (IntKind.wrap .i64 (a5+(1:Int))) fun (n6:Int)=>rec a1 a2 a3 a4 n6 a6 a7 a8 a9 a10 a11 a12 a13 a14 a15 a16 a17 a18 a19) else some ((((),((),(a2,()))),(((a6,(a7,(a8,(a9,(a10,(a11,a12)))))),((a13,(a14,(a15,(a16,(a17,(a18,a19)))))),())),()))))
def qbn (n:Nat) (rec:pSt q57→Option (q0t q35)) (p:pSt q57):Option (q0t q35):=qzd n (fun a1 a2 a3 a4 a5 a6 a7 a8 a9 a10 a11 a12 a13 a14 a15 a16 a17 a18 a19=>rec ((a1,((),((),(a2,(a3,(a4,(a5,()))))))),(((a6,(a7,(a8,(a9,(a10,(a11,a12)))))),((a13,(a14,(a15,(a16,(a17,(a18,a19)))))),())),()))) p.1.1 p.1.2.2.2.1 p.1.2.2.2.2.1 p.1.2.2.2.2.2.1 p.1.2.2.2.2.2.2.1 p.2.1.1.1 p.2.1.1.2.1 p.2.1.1.2.2.1 p.2.1.1.2.2.2.1 p.2.1.1.2.2.2.2.1 p.2.1.1.2.2.2.2.2.1 p.2.1.1.2.2.2.2.2.2 p.2.1.2.1.1 p.2.1.2.1.2.1 p.2.1.2.1.2.2.1 p.2.1.2.1.2.2.2.1 p.2.1.2.1.2.2.2.2.1 p.2.1.2.1.2.2.2.2.2.1 p.2.1.2.1.2.2.2.2.2.2
def ql1 (n m:Nat) (a1:List UInt8) (a2:Bool) (a3:List (List UInt8×((Int)×((Int)×((Int)×(List UInt8×(List UInt8×(List UInt8)))))))) (a4:Int) (a5:Int) (a6:List UInt8) (a7:Int) (a8:Int) (a9:Int) (a10:List UInt8) (a11:List UInt8) (a12:List UInt8) (a13:List UInt8) (a14:Int) (a15:Int) (a16:Int) (a17:List UInt8) (a18:List UInt8) (a19:List UInt8):Option ((Unit×(Unit×(Bool×(Unit))))×(((List UInt8)×(Int×(Int×(Int×((List UInt8)×((List UInt8)×(List UInt8)))))))×(((List UInt8)×(Int×(Int×(Int×((List UInt8)×((List UInt8)×(List UInt8)))))))×(Unit)))×(Unit)):=q10 (qbn n) m ((a1,((),((),(a2,(a3,(a4,(a5,()))))))),(((a6,(a7,(a8,(a9,(a10,(a11,a12)))))),((a13,(a14,(a15,(a16,(a17,(a18,a19)))))),())),()))
def qjz (n:Nat):LC:={ sh:=q57,outs:=q35,F:=q10 (qbn n) n }
def q8e (n:Nat):List LC:=[qjz n]
def qf2 (n:Nat) (a1:List (List UInt8×((Int)×((Int)×((Int)×(List UInt8×(List UInt8×(List UInt8)))))))) (a2:List UInt8):Option (((List UInt8)×(Int×(Int×(Int×((List UInt8)×((List UInt8)×(List UInt8)))))))×(Bool)) :=
 (ql1 n n a2 false a1 ((List.length a1:Nat):Int) (0:Int) ([]:List UInt8) (0:Int) (0:Int) (0:Int) ([]:List UInt8) ([]:List UInt8) ([]:List UInt8) ([]:List UInt8) (0:Int) (0:Int) (0:Int) ([]:List UInt8) ([]:List UInt8) ([]:List UInt8)).bind fun (o7:(Unit×(Unit×(Bool×(Unit))))×(((List UInt8)×(Int×(Int×(Int×((List UInt8)×((List UInt8)×(List UInt8)))))))×(((List UInt8)×(Int×(Int×(Int×((List UInt8)×((List UInt8)×(List UInt8)))))))×(Unit)))×(Unit))=>some (o7.2.1.2.1,o7.1.2.2.1)
def q4m (n:Nat):FC:={ f:=18,args:=[.one (.c (.d (.lst (.prod .str (.prod (.int .i64) (.prod (.int .i64) (.prod (.int .i64) (.prod .str (.prod .str .str))))))))),.one (.c (.d .str))],res:=.tup [.agg [.d .str,.d (.int .i64),.d (.int .i64),.d (.int .i64),.d .str,.d .str,.d .str],.c (.d .bool)],F:=fun p=>qf2 n p.1 p.2 }
def qap (n:Nat):List FC:=[q2i n]
theorem qch (n:Nat) {G:World→Prop} (hG:Know Inv G) : ∀ c∈qap n,q1b Tryz.prog G c∧q0i c.args=true:=List.forall_mem_cons.2 ⟨qep n G hG,(fun _ h=>by cases h)⟩
def qb5:q0f:=[]
theorem qii:drB qb5 (q00 Tryz.f18)=true:=by kernel_rfl
theorem qsm (n:Nat) : ∀ rec p,qbn n rec p=round Tryz.prog 37 (qap n) (q8e n) qb5 1 q57 q35 (q03 0 0 (q00 Tryz.f18)) rec p:=by intro rec p;kernel_rfl
theorem qr5 (n:Nat) {F:Fr} (hF:F.n=37) (hK:Know Inv F.G):qk3 Tryz.prog F (qjz n) (q03 0 0 (q00 Tryz.f18)) :=
 q1a hF (by kernel_rfl) (qch n hK) (qsm n) (fuel:=n) (fun _=>rfl) (q07 fun j L h1 h2 h3=>absurd h2 (Nat.not_lt.2 (Nat.le_trans (by decide +kernel) h1))) (q2t qii)
theorem qz5 (n:Nat) : ∀ a,(q4m n).F a=main Tryz.prog 37 (qap n) (q8e n) qb5 (q00 Tryz.f18) [.cell 4 32,.tmp 5] (q4m n).args (q4m n).res a:=by intro a;kernel_rfl
theorem qxm (n:Nat):q0d Inv Tryz.prog (q4m n):=fun G hG=>⟨⟨by kernel_rfl,fun a r h=>q06 (c:=q00 Tryz.f18) Tryz.func18 (by kernel_rfl) (by kernel_rfl) (Nat.le_of_ble_eq_true (by kernel_rfl)) hG.st (by kernel_rfl) (rs:=[.cell 4 32,.tmp 5]) (by kernel_rfl) (qch n hG) (lts:=q8e n) (fun F hF hFG=>have hK:Know Inv F.G:=hFG ▸ hG;(q07 (c:=(q00 Tryz.f18)) (fun j L h1 h2 h3=>by
  have h2':j<1:=Nat.lt_of_lt_of_le h2 (by decide +kernel)
  match j,h1,h2',h3 with
  | 0,_,_,h3=>obtain rfl:=Option.some.inj h3;exact (show q03 0 0 (q00 Tryz.f18)=q03 0 0 (q00 Tryz.f18) by kernel_rfl) ▸ qr5 n hF hK
  | j+1,_,h2',_=>exact absurd h2' (by omega)))) qii ((qz5 n a).symm.trans h)⟩,rfl⟩
def qqh (n:Nat):List LC:=[]
def q6k (n:Nat) (a1:(List UInt8)×(Int×(Int×(Int×((List UInt8)×((List UInt8)×(List UInt8))))))):Option (List UInt8) :=
 (qbf n (a1.2.1,(a1.2.2.1,(a1.2.2.2.1,(a1.2.2.2.2.1,a1.2.2.2.2.2.1))))).bind fun (r1:List UInt8)=>(qgt ([a1.1,r1,a1.2.2.2.2.2.2]:List (List UInt8)) ([32]:List UInt8)).bind fun (r2:List UInt8)=>(qmz r2 ([10]:List UInt8)).bind fun (s3:List UInt8)=>some s3
def qdc (n:Nat):FC:={ f:=193,args:=[.one (.agg [.d .str,.d (.int .i64),.d (.int .i64),.d (.int .i64),.d .str,.d .str,.d .str])],res:=.one (.c (.d .str)),F:=fun p=>q6k n p }
def qv2 (n:Nat):List FC:=[q7e n,j32]
theorem qxj (n:Nat) {G:World→Prop} (hG:Know Inv G) : ∀ c∈qv2 n,q1b Tryz.prog G c∧q0i c.args=true:=List.forall_mem_cons.2 ⟨qva n G hG,List.forall_mem_cons.2 ⟨jaf G hG,(fun _ h=>by cases h)⟩⟩
def qv9:q0f:=[(1,[⟨3096,512,0⟩,⟨25104,4096,1⟩,⟨200720,32768,3⟩,⟨1572888,2^18,0⟩,⟨12845072,2^21,8⟩,⟨102760464,2^24,24⟩,⟨49*2^24,2^27,56⟩,⟨6442450968,2^30,0⟩,⟨52613349392,2^33,128⟩,⟨420906795024,2^36,384⟩,⟨3367388610560,5*2^39,1023⟩,⟨53*2^39,2^42,2047⟩,⟨49*2^42,2^45,4095⟩,⟨35184372089216,64,8191⟩])]
theorem j78:drB qv9 (q00 Tryz.f193)=true:=by kernel_rfl
theorem j7q (n:Nat) : ∀ a,(qdc n).F a=main Tryz.prog 16 (qv2 n) (qqh n) qv9 (q00 Tryz.f193) [.tmp 2] (qdc n).args (qdc n).res a:=by intro a;kernel_rfl
theorem j65 (n:Nat):q0d Inv Tryz.prog (qdc n):=fun G hG=>⟨⟨by kernel_rfl,fun a r h=>q06 (c:=q00 Tryz.f193) Tryz.func193 (by kernel_rfl) (by kernel_rfl) (Nat.le_of_ble_eq_true (by kernel_rfl)) hG.st (by kernel_rfl) (rs:=[.tmp 2]) (by kernel_rfl) (qxj n hG) (lts:=qqh n) (fun F hF hFG=>have hK:Know Inv F.G:=hFG ▸ hG;(q07 fun j L h1 h2 h3=>absurd h2 (Nat.not_lt.2 (Nat.le_trans (by decide +kernel) h1)))) j78 ((j7q n a).symm.trans h)⟩,rfl⟩
def qqo (n:Nat):List LC:=[]
def q86 (n:Nat) (a1:Unit) (a2:(List UInt8)×(Int×(Int×(Int×((List UInt8)×((List UInt8)×(List UInt8))))))) (b1:List (List UInt8×((Int)×((Int)×((Int)×(List UInt8×(List UInt8))))))):Option ((Int)×((List (List UInt8×((Int)×((Int)×((Int)×(List UInt8×(List UInt8)))))))×(Unit))×(Unit)) :=
 (q5p n a2).bind fun (r1:Int)=>(bif !decide (r1=(0:Int)) then some (r1,((b1,()),())) else j5d (q5w a2.1 b1) ((0:Int),((0:Int),((0:Int),(([]:List UInt8),([]:List UInt8))))) fun (y2:(Int)×((Int)×((Int)×(List UInt8×(List UInt8))))) (b3:Bool)=>(bif b3 then (q5i n y2 (a2.2.1,(a2.2.2.1,(a2.2.2.2.1,(a2.2.2.2.2.1,a2.2.2.2.2.2.1))))).bind fun (r4:Bool)=>(bif !r4 then some ((13:Int),((b1,()),())) else some ((0:Int),((qxh a2.1 (a2.2.1,(a2.2.2.1,(a2.2.2.2.1,(a2.2.2.2.2.1,a2.2.2.2.2.2.1)))) b1,()),()))) else some ((0:Int),((qxh a2.1 (a2.2.1,(a2.2.2.1,(a2.2.2.2.1,(a2.2.2.2.2.1,a2.2.2.2.2.2.1)))) b1,()),()))))
def q25 (n:Nat):FX:={ f:=25,args:=[.one (.c (.mv 1000000)),.one (.agg [.d .str,.d (.int .i64),.d (.int .i64),.d (.int .i64),.d .str,.d .str,.d .str])],boxes:=[(1000000,(2199023259659,[.d (.lst (.prod .str (.prod (.int .i64) (.prod (.int .i64) (.prod (.int .i64) (.prod .str .str))))))]))],rows:=[],res:=.one (.c (.d (.int .i64))),oboxes:=[(1000000,(2199023259659,[.d (.lst (.prod .str (.prod (.int .i64) (.prod (.int .i64) (.prod (.int .i64) (.prod .str .str))))))]))],orows:=[],F:=fun p=>q86 n p.1.1 p.1.2 p.2.1.1 }
def qw1 (n:Nat):List FC:=[q4b n,q4v n]
theorem qxr (n:Nat) {G:World→Prop} (hG:Know Inv G) : ∀ c∈qw1 n,q1b Tryz.prog G c∧q0i c.args=true:=List.forall_mem_cons.2 ⟨qp9 n G hG,List.forall_mem_cons.2 ⟨qob n G hG,(fun _ h=>by cases h)⟩⟩
def qx1:q0f:=[]
theorem j5z:drB qx1 (q00 Tryz.f25)=true:=by kernel_rfl
theorem j6d (n:Nat) : ∀ a,(q25 n).F a=jas Tryz.prog 33 (qw1 n) (qqo n) qx1 (q00 Tryz.f25) [.tmp 4] (q25 n).args (q25 n).boxes (q25 n).rows (q25 n).res (q25 n).oboxes (q25 n).orows a:=by intro a;kernel_rfl
theorem qqn (n:Nat):jce Inv Tryz.prog (q25 n):=fun G hG=>⟨by kernel_rfl,fun a r h=>j6n (x:=q25 n) (c:=q00 Tryz.f25) Tryz.func25 (by kernel_rfl) (by kernel_rfl) (Nat.le_of_ble_eq_true (by kernel_rfl)) (by kernel_rfl) (rs:=[.tmp 4]) (by kernel_rfl) (qxr n hG) (lts:=qqo n) (fun F hF hFG=>have hK:Know Inv F.G:=hFG ▸ hG;(q07 fun j L h1 h2 h3=>absurd h2 (Nat.not_lt.2 (Nat.le_trans (by decide +kernel) h1)))) j5z ((j6d n a).symm.trans h)⟩
end Go.Proofs.YtlmjgghohipipaaGreatDoor.AM
namespace Go.Proofs
open Go.RowKit Go.Shelf Go.Lib
set_option linter.unusedVariables false
set_option linter.unusedSimpArgs false
namespace YtlmjgghohipipaaGreatDoor.AM
abbrev qbt:Ty:=.prod .str (.prod (.int .i64) (.prod (.int .i64) (.prod (.int .i64) (.prod .str (.prod .str .str)))))
def qwm (_:Unit) (n:Int):Option (Unit×(Unit×(List (den qbt)×Unit))):=if 0≤n∧n≤1000000000000 then some ((),((),([],()))) else none
def j3z:FX:={ f:=55,args:=[.one (.c .nil),.one (.c (.d (.int .i64)))],boxes:=[],rows:=[],res:=.one (.c (.row 1000000)),oboxes:=[],orows:=[(1000000,⟨32,true,qbt⟩)],F:=fun p=>qwm p.1.1 p.1.2 }
theorem j5s {F:Fr} {e:Env} {w w':World} {v:Value} (hp:Hp F q6b e w) (hown:q3l w' F.w0.heap.size 32 7 v 0 []) (hgr:w.grownBy w' none) (hblk : ∀ b,v.ownBlock=some b→w.heap.size≤b) (hsl : ∃ a n c,v = .slice a n c) :
  ∃ e',Hp F (eS ⟨[],[],[(1000000,⟨0,32,true,qbt,[]⟩)]⟩) e' w'∧q0v e' (eS ⟨[],[],[(1000000,⟨0,32,true,qbt,[]⟩)]⟩) w' v (.one (.c (.row 1000000 0))):=by
 obtain ⟨hf,hh⟩:=hp.rowNext 1000000 ⟨0,32,7,true,[]⟩ (.slice none 0 0) v [] (Or.inr ⟨rfl,rfl⟩) (fun x hx=>by cases hx) hown hgr (fun r hr=>by cases hr) (fun b hb=>Or.inr (hblk b hb)) trivial (fun u hu=>by cases hu)
 have hrow:(eS ⟨[],[],[(1000000,⟨0,32,true,qbt,[]⟩)]⟩).row=upd q6b.row 1000000 (some ⟨0,32,7,true,[]⟩):=by
  funext i
  show (lk [(1000000,(⟨0,32,true,qbt,[]⟩:TRow))] i).map eR=_
  rw [q0b]
  unfold upd
  split<;>rfl
 have h2:=hh.re (F':=F) (σ':=eS ⟨[],[],[(1000000,⟨0,32,true,qbt,[]⟩)]⟩) rfl rfl rfl rfl rfl (by funext i;rfl) hrow
 refine ⟨_,h2,?_⟩
 show (∃ r,(eS ⟨[],[],[(1000000,⟨0,32,true,qbt,[]⟩)]⟩).row 1000000=some r∧0≤r.gen)∧v=qn0 e.rv 1000000 0 v 1000000 0∧∃ a n c,v = .slice a n c
 refine ⟨⟨⟨0,32,7,true,[]⟩,by rw [hrow];exact q0g _ _ _,Nat.zero_le _⟩,(q0r _ _ _ _).symm,hsl⟩
set_option maxRecDepth 100000 in
set_option maxHeartbeats 1600000 in
theorem qz8 (n:Nat) (w:World) (hn:n≤1000000000000):Calls Tryz.prog 55 #[.slice none 0 0,.int .i64 n] w fun e w'=>∃ v,e = .returned v∧(∀ base,base≤w.heap.size→q3l w' base 32 7 v 0 [])∧w.grownBy w' none∧(∀ b,v.ownBlock=some b→w.heap.size≤b)∧∃ a n c,v = .slice a n c:=by
 rcases Nat.eq_zero_or_pos n with rfl|h0
 ·go_enter Tryz.func55,Tryz.ntmps55
  go_wp2
  go_ret
  refine ⟨.slice none 0 0,rfl,fun base _=>qpw _ _ _ _,World.grownBy.refl _ _,?_,none,0,0,rfl⟩
  intro b hb
  cases hb
 ·have hi:(0:Int)<(n:Int):=by omega
  have hA:=Lib.run_append_nil_zeros (P:=Tryz.prog) w 23 3 23 32 Tryz.t32 _ .i64 .i64 (by kernel_rfl) (by kernel_rfl) (by kernel_rfl) rfl n h0 (by decide) (by omega) (by show n*88≤_;omega)
  have hgc:=grownCap_ge w n 0 32
  have hgm:=grownCap_le_maxLen w n 0 32 (by unfold maxLen;omega)
  generalize grownCap w n 0 32=cap at hA hgc hgm
  obtain ⟨row,hrow⟩ : ∃ r,Builtin.zeroCells (Tryz.t32.zero.getD undef).cells n++Builtin.zeroCells (Tryz.t32.zero.getD undef).cells (cap - n)=r:=⟨_,rfl⟩
  have hA2:(Builtin.append_ #[23,3] 23 #[.slice none 0 0,.int .i64 n]).run Tryz.prog w = .ok (.slice (some ⟨w.heap.size,0,none⟩) n cap) (w.drew.alloc (.cells row 32)):=by rw [← hrow];exact hA
  clear hA
  go_enter Tryz.func55,Tryz.ntmps55
  go_wp2_with (at_builtin;refine Lib.wpList_append_run _ rfl _ _ _ _ rfl _ _ rfl rfl _ _ hA2 ?_)
  go_ret
  have hsz:row.size=cap*7:=by
   rw [← hrow,Array.size_append,size_zeroCells,size_zeroCells]
   have h7:(Tryz.t32.zero.getD undef).cells.size=7:=rfl
   rw [h7];omega
  refine ⟨_,rfl,fun base hb=>⟨rfl,Or.inr ⟨w.heap.size,cap,row,rfl,hb,?_,Nat.zero_le _,hgm,hsz,?_⟩⟩,?_,?_,_,_,_,rfl⟩
  ·exact heap_alloc_new w.drew _
  ·rw [Nat.zero_mul];exact List.take_zero
  ·have h1:=World.grownBy_alloc w.drew (.cells row 32) none
   exact ⟨h1.os,h1.tape,h1.output,h1.size,h1.block⟩
  ·intro b hb
   have:w.heap.size=b:=Option.some.inj hb
   omega
theorem j7d:jce Inv Tryz.prog j3z:=fun G hG=>⟨by kernel_rfl,fun p q h=>by
 obtain ⟨⟨u,n⟩,p2⟩:=p
 have h':qwm u n=some q:=h
 unfold qwm at h'
 split at h'
 case isFalse=>cases h'
 rename_i hn
 obtain rfl:=Option.some.inj h'
 intro F hF e w vs hp hv
 obtain ⟨l⟩:=vs
 match l,hv with
 | [x,y],⟨h1,h2,_⟩ =>
  obtain rfl:x = .slice none 0 0:=q05 h1
  obtain rfl:y = .int .i64 n:=q05 h2
  obtain ⟨m,rfl⟩ : ∃ m:Nat,n=(m:Int):=⟨Int.toNat n,(Int.toNat_of_nonneg hn.1).symm⟩
  refine (qz8 m w (by have h7:=hn.2;omega)).mono ?_
  rintro e1 w' ⟨v,rfl,hown,hgr,hblk,hsl⟩
  have hp':Hp F q6b e w:=hp.re (F':=F) (σ':=q6b) rfl rfl rfl rfl rfl (by funext i;rfl) (by funext i;rfl)
  obtain ⟨e',k1,k2⟩:=j5s hp' (hown _ hp.sizeLe) hgr hblk hsl
  exact ⟨v,e',rfl,k1,k2⟩⟩
def jbe:Value→Option (den qbt)
 | .iface 57 (.agg ⟨[.string p,.int .i64 a,.int .i64 b,.int .i64 c,.string q,.string r,.string h]⟩)=>some (unB p,(a,(b,(c,(unB q,(unB r,unB h))))))
 | _=>none
def j4w (x:den qbt):Value:=.agg ⟨[.string (ba x.1),.int .i64 x.2.1,.int .i64 x.2.2.1,.int .i64 x.2.2.2.1,.string (ba x.2.2.2.2.1),.string (ba x.2.2.2.2.2.1),.string (ba x.2.2.2.2.2.2)]⟩
theorem j9d {v:Value} {x:den qbt} (h:jbe v=some x):v = .iface 57 (j4w x):=by
 unfold jbe at h
 split at h
 case h_2=>cases h
 rename_i p a b c q r hh
 obtain rfl:=Option.some.inj h
 unfold j4w
 simp only [j0y]
def j68 (n:Nat):List IV→Option (List (List UInt8))
 | []=>some []
 | v::l=>match (jbe v.1).bind (q6k n),j68 n l with
  | some a,some b=>some (a::b)
  | _,_=>none
def qi6 (n:Nat) (l:List IV):Option (List UInt8):=(j68 n l).bind fun ls=>if ls.flatten.length≤100000000000∧l.length≤100000000000 then some ls.flatten else none
def j8b (n:Nat):FC:={ f:=29,args:=[.one (.c (.d (.lst .any)))],res:=qhk,F:=fun p=>qi6 n p }
theorem j3y {n:Nat} : ∀ {l:List IV} {ls:List (List UInt8)},j68 n l=some ls→ls.length=l.length∧∀ k (hk:k<l.length) (hk':k<ls.length),∃ x,(l[k]).1 = .iface 57 (j4w x)∧q6k n x=some ls[k]
 | [],ls,h=>by
  obtain rfl:=Option.some.inj h
  exact ⟨rfl,fun k hk=>by simp at hk⟩
 | v::l,ls,h=>by
  unfold j68 at h
  split at h
  case h_2=>cases h
  rename_i a b h1 h2
  obtain rfl:=Option.some.inj h
  obtain ⟨h3,h4⟩:=j3y h2
  refine ⟨by rw [List.length_cons,List.length_cons,h3],fun k hk hk'=>?_⟩
  cases k with
  | zero =>
   obtain ⟨x,hx,h5⟩:=Option.bind_eq_some_iff.1 h1
   exact ⟨x,j9d hx,h5⟩
  | succ k=>exact h4 k (by simpa using hk) (by simpa using hk')
theorem jcg (B b:Nat) (l s:List UInt8) (w:World) (h:Lib.IsBuilder 78 5 B b (Lib.byteCells l) w) (hlen:l.length+s.length≤140737488355328) (hBw:B≤w.heap.size) :
  Calls Tryz.prog 47 #[.pointer (some ⟨b,0,none⟩),.string (ba s)] w fun e w'=>e = .returned (.tuple #[.int .i64 (ba s).size,.nilIface])∧Lib.IsBuilder 78 5 B b (Lib.byteCells (l++s)) w'∧Below B w w':=by
 refine Calls.mono (Any.Builder_WriteString (ρ:=Tryz.lays156_ren) { Tryz.lays156 with } Tryz.Builder_Extra_156 B b (Lib.byteCells l) (ba s) w h (by rw [Lib.byteCells_length,q0p];exact hlen) hBw) ?_
 rintro e w' ⟨he,h1,h2⟩
 refine ⟨he,.inr ?_,h2⟩
 have e1:(ba s).data.toList=s:=by simp [ba]
 have e2:Lib.byteCells s=Lib.strCells (ba s):=by rw [Lib.strCells_eq,e1]
 rw [Lib.byteCells_append,e2]
 exact h1
theorem j39 {T e B b:Nat} {bs:List Value} {w w':World} (h:Lib.IsBuilder T e B b bs w) (hb:Below w.heap.size w w'):Lib.IsBuilder T e B b bs w':=by
 have key : ∀ p,Lib.BuilderAt T e B b p bs w→Lib.BuilderAt T e B b p bs w':=fun p ⟨h1,v,h2,h3,h4⟩=>⟨h1,v,(hb.block b (q30 h2)).trans h2,by
  refine ⟨h3.1,?_⟩
  rcases h3.2 with h5|⟨g,cap,cur,h5,h6,h7,h8⟩
  ·exact .inl h5
  ·exact .inr ⟨g,cap,cur,h5,h6,(hb.block g (q30 h7)).trans h7,h8⟩,h4⟩
 rcases h with h|h
 ·exact .inl (key _ h)
 ·exact .inr (key _ h)
theorem jcw (n:Nat) (x:den qbt) (s:List UInt8) (w:World) (hI:Inv w) (h:q6k n x=some s):Calls Tryz.prog 193 #[j4w x] w fun e w'=>e = .returned (.string (ba s))∧Below w.heap.size w w':=by
 have hh:=(j65 n Inv q34).1.2 x s h
 refine (hh (fun _ _=>False) w #[j4w x] hI (fun b o h=>h.elim) ⟨⟨_,rfl,.v _,.v _,.v _,.v _,.v _,.v _,.v _,trivial⟩,trivial⟩).mono ?_
 rintro e w' ⟨v,Pc,rfl,hb,_,_,hv⟩
 have hv':v = .string (ba s):=q05 hv
 rw [hv']
 exact ⟨rfl,hb⟩
theorem lineM (x:den qbt) (w:World):(Go.method 290 57 (j4w x) "armada/ledger.line").run Tryz.prog w = .ok (193,j4w x) w:=by kernel_rfl
theorem j0n {Pc:Nat→Nat→Prop} {w:World} {v:Value} {l:List IV} (hP : ∀ b o,Pc b o→b<w.heap.size) (h:DatRep Pc w v (.lst 1 (l.map (q01 .any)))) :
  ∃ a cap,v = .slice a l.length cap∧l.length≤cap∧cap≤maxLen∧(0<l.length→∃ b off,a=some ⟨b,off,none⟩∧b<w.heap.size∧∀ k (hk:k<l.length),w.cell? ⟨b,off+k,none⟩=some (l[k]).1):=by
 obtain ⟨a,cap,rfl,h1,h2,h3,h4⟩:=qr2 (by omega) hP h
 have hlen:(l.map (q01 .any)).length=l.length:=List.length_map ..
 rw [hlen] at h1
 refine ⟨a,cap,by rw [hlen],h1,h2,fun hl=>?_⟩
 obtain ⟨b,off,rfl,hb,c,hc,hr⟩:=h4 (by rw [hlen];exact hl)
 refine ⟨b,off,rfl,hb,fun k hk=>?_⟩
 have k1:=(hc k 0 (by rw [hlen];exact hk) (by omega)).2.1
 have k2:=hr k 0 (by simpa using hk) (by rw [List.getElem_map];simp [q01])
 simp only [List.getElem_map] at k2
 have k3:DatRep Pc w (c k 0) (.v (l[k]).1):=k2
 have k4:c k 0=(l[k]).1:=by generalize c k 0=u at k3;cases k3 with|v x=>rfl
 rw [k4] at k1
 simpa using k1
set_option maxHeartbeats 4000000 in
set_option maxRecDepth 1000000 in
theorem j3q (n:Nat) {Pc:Nat→Nat→Prop} (w:World) (v:Value) (l:List IV) (ls:List (List UInt8)) (hI:Inv w) (hP : ∀ b o,Pc b o→b<w.heap.size) (hl:j68 n l=some ls) (hb:ls.flatten.length≤100000000000) (hb2:l.length≤100000000000)
  (h2:DatRep Pc w v (.lst 1 (l.map (q01 .any)))) :
  Calls Tryz.prog 29 #[v] w fun e w'=>e = .returned (.string (ba ls.flatten))∧Below w.heap.size w w':=by
 obtain ⟨a,cap,rfl,hl1,hl2,hcs⟩:=j0n hP h2
 obtain ⟨hlen,hat⟩:=j3y hl
 have HC:=hid hcs
 have HA:=hid hat
 clear h2 hcs hat hl hP
 go_enter Tryz.func29,Tryz.ntmps29
 go_wp2_with fail
 have hnew:=Go.Lib.fresh_isBuilder 78 5 w
 go_loopw [8] (fun i wr=>∃ k:Nat,k≤l.length∧i = .int .i64 k∧Lib.IsBuilder 78 5 w.heap.size w.heap.size (Lib.byteCells (ls.take k).flatten) wr∧Below w.heap.size w wr) (fun i _=>l.length - (RowKit.intOf i).toNat)
 case atStart=>exact ⟨0,Nat.zero_le _,rfl,hnew,(Below.refl _ _).alloc (Nat.le_refl _) _⟩
 case round =>
  obtain ⟨k,hk,rfl,hbld,hbel⟩:=hrel
  have HB:=hid hbld
  clear hbld hnew
  have hIr:=hI.below hbel
  have hfl:(ls.take k).flatten.length≤100000000000:=by
   have:ls.flatten.length=(ls.take k).flatten.length+(ls.drop k).flatten.length:=by rw [← List.length_append,← List.flatten_append,List.take_append_drop]
   omega
  by_cases hkl:k<l.length
  ·obtain ⟨b,off,rfl,hbw,hcell⟩:=HC.out (by omega)
   have hkl':k<ls.length:=by omega
   obtain ⟨x,hx,hline⟩:=HA.out k hkl hkl'
   have hcx:wr.cell? ⟨b,off+k,none⟩=some (.iface 57 (j4w x)):=(hbel.cell (p:=⟨b,off+k,none⟩) hbw).trans ((hcell k hkl).trans (by rw [hx]))
   have hsnoc:Hid ((ls.take k).flatten++ls[k]=(ls.take (k+1)).flatten):=hid (by rw [List.take_succ_eq_append_getElem hkl',List.flatten_append];simp)
   have hfl2:(ls.take k).flatten.length+ls[k].length≤100000000000:=by
    have h5:=congrArg List.length hsnoc.out
    rw [List.length_append] at h5
    have:ls.flatten.length=(ls.take (k+1)).flatten.length+(ls.drop (k+1)).flatten.length:=by rw [← List.length_append,← List.flatten_append,List.take_append_drop]
    omega
   have hkk:(k:Int)<(l.length:Int):=by omega
   generalize ls[k]=s at *
   have hln:=jcw n x s wr hIr hline
   have hM:=lineM x wr
   clear hcell hx hline
   go_wp2_with fail
   refine hln.mono ?_
   rintro e W1 ⟨rfl,hb1⟩
   clear hln hM
   have HB1:=hid (j39 HB.out hb1)
   have hbel1:=hbel.trans (hb1.mono hbel.size)
   have hwr:=jcg w.heap.size w.heap.size (ls.take k).flatten s W1 HB1.out (by omega) hbel1.size
   go_wp2_with fail
   refine hwr.mono ?_
   rintro e W2 ⟨rfl,hbld2,hb2'⟩
   clear hwr
   rw [hsnoc.out] at hbld2
   have HB2:=hid hbld2
   clear hbld2
   have hbel2:=hbel1.trans hb2'
   go_wp2_with fail
   go_roundw
   case rel=>exact ⟨k+1,by omega,by go_num,HB2.out,hbel2⟩
   case measure=>simp [RowKit.intOf];omega
  ·have hkk:k=l.length:=by omega
   subst hkk
   have hlen2:Hid (ls.take l.length=ls):=hid (List.take_of_length_le (by omega))
   have hkn : ¬ (l.length:Int)<(l.length:Int):=by omega
   have hst:=Tryz.Builder_String_any w.heap.size w.heap.size (ls.take l.length).flatten wr HB.out hbel.size
   go_wp2_with fail
   refine hst.mono ?_
   rintro e W3 ⟨rfl,hb3⟩
   clear hst
   go_wp2
   go_ret
   rw [hlen2.out]
   exact ⟨rfl,hbel.trans hb3⟩
theorem jd4 (n:Nat):q0d Inv Tryz.prog (j8b n):=fun G hG=>⟨⟨by kernel_rfl,fun (l:List IV) r h=>by
 have h':qi6 n l=some r:=h
 obtain ⟨ls,hl,h3⟩:=Option.bind_eq_some_iff.1 h'
 split at h3
 case isFalse=>cases h3
 rename_i hc
 obtain rfl:=Option.some.inj h3
 intro Pc w vs hg hlt hv
 obtain ⟨vl⟩:=vs
 match vl,hv with
 | [x],⟨h1,_⟩ =>
  refine (j3q n w x l ls (hG.im w hg) hlt hl hc.1 hc.2 h1).mono ?_
  rintro e w' ⟨rfl,hbel⟩
  exact q2x rfl hbel (q02 _)⟩,rfl⟩
end YtlmjgghohipipaaGreatDoor.AM
end Go.Proofs
namespace Go.Proofs.YtlmjgghohipipaaGreatDoor.AM
open Go.RowKit
set_option linter.unusedVariables false
set_option maxRecDepth 20000
@[reducible] def q70:SSt:=⟨[(6,.one (.c (.row 24))),(25,.one (.c (.d (.lst (.lst (.prod .str (.prod (.int .i64) (.prod (.int .i64) (.prod (.int .i64) (.prod .str (.prod .str .str))))))))))),(26,.one (.c (.d (.int .i64)))),(27,.one (.c (.d (.int .i64))))],[],[(24,⟨32,true,(.prod .str (.prod (.int .i64) (.prod (.int .i64) (.prod (.int .i64) (.prod .str (.prod .str .str))))))⟩)]⟩
@[reducible] def q3s:List (Exit×SSt):=[(.exit 2,⟨[(6,.one (.c (.row 24)))],[],[(24,⟨32,true,(.prod .str (.prod (.int .i64) (.prod (.int .i64) (.prod (.int .i64) (.prod .str (.prod .str .str))))))⟩)]⟩)]
def j4e (n:Nat) (rec:(List (List (List UInt8×((Int)×((Int)×((Int)×(List UInt8×(List UInt8×(List UInt8)))))))))→Int→Int→(List (List UInt8×((Int)×((Int)×((Int)×(List UInt8×(List UInt8×(List UInt8))))))))→Option ((Unit×(Unit))×(Unit)×((List (List UInt8×((Int)×((Int)×((Int)×(List UInt8×(List UInt8×(List UInt8))))))))×(Unit)))) (a1:List (List (List UInt8×((Int)×((Int)×((Int)×(List UInt8×(List UInt8×(List UInt8))))))))) (a2:Int) (a3:Int) (a4:List (List UInt8×((Int)×((Int)×((Int)×(List UInt8×(List UInt8×(List UInt8)))))))):Option ((Unit×(Unit))×(Unit)×((List (List UInt8×((Int)×((Int)×((Int)×(List UInt8×(List UInt8×(List UInt8))))))))×(Unit))) :=
 (bif decide (a3<a2) then (q67 a1 a3).bind fun (x6:List (List UInt8×((Int)×((Int)×((Int)×(List UInt8×(List UInt8×(List UInt8))))))))=>(qrc 88 a4 x6).bind fun (l7:List (List UInt8×((Int)×((Int)×((Int)×(List UInt8×(List UInt8×(List UInt8))))))))=>q2f (IntKind.wrap .i64 (a3+(1:Int))) fun (n8:Int)=>rec a1 a2 n8 l7 else some ((((),()),((),(a4,())))))
def qgu (n:Nat) (rec:pSt q70→Option (q0t q3s)) (p:pSt q70):Option (q0t q3s):=j4e n (fun a1 a2 a3 a4=>rec (((),(a1,(a2,(a3,())))),((),(a4,())))) p.1.2.1 p.1.2.2.1 p.1.2.2.2.1 p.2.2.1
def qpo (n m:Nat) (a1:List (List (List UInt8×((Int)×((Int)×((Int)×(List UInt8×(List UInt8×(List UInt8))))))))) (a2:Int) (a3:Int) (a4:List (List UInt8×((Int)×((Int)×((Int)×(List UInt8×(List UInt8×(List UInt8)))))))):Option ((Unit×(Unit))×(Unit)×((List (List UInt8×((Int)×((Int)×((Int)×(List UInt8×(List UInt8×(List UInt8))))))))×(Unit))):=q10 (qgu n) m (((),(a1,(a2,(a3,())))),((),(a4,())))
def qr3 (n:Nat):LC:={ sh:=q70,outs:=q3s,F:=q10 (qgu n) n }
@[reducible] def q7f:SSt:=⟨[(0,.one (.c (.d (.lst (.lst (.prod .str (.prod (.int .i64) (.prod (.int .i64) (.prod (.int .i64) (.prod .str (.prod .str .str))))))))))),(3,.one (.c (.d (.int .i64)))),(9,.one (.c (.d (.lst (.lst (.prod .str (.prod (.int .i64) (.prod (.int .i64) (.prod (.int .i64) (.prod .str (.prod .str .str))))))))))),(10,.one (.c (.d (.int .i64)))),(11,.one (.c (.d (.int .i64))))],[],[]⟩
@[reducible] def q3y:List (Exit×SSt):=[(.exit 0,⟨[(0,.one (.c (.d (.lst (.lst (.prod .str (.prod (.int .i64) (.prod (.int .i64) (.prod (.int .i64) (.prod .str (.prod .str .str))))))))))),(3,.one (.c (.d (.int .i64))))],[],[]⟩)]
def j38 (n:Nat) (rec:(List (List (List UInt8×((Int)×((Int)×((Int)×(List UInt8×(List UInt8×(List UInt8)))))))))→Int→(List (List (List UInt8×((Int)×((Int)×((Int)×(List UInt8×(List UInt8×(List UInt8)))))))))→Int→Int→Option (((List (List (List UInt8×((Int)×((Int)×((Int)×(List UInt8×(List UInt8×(List UInt8)))))))))×(Int×(Unit)))×(Unit)×(Unit))) (a1:List (List (List UInt8×((Int)×((Int)×((Int)×(List UInt8×(List UInt8×(List UInt8))))))))) (a2:Int) (a3:List (List (List UInt8×((Int)×((Int)×((Int)×(List UInt8×(List UInt8×(List UInt8))))))))) (a4:Int) (a5:Int):Option (((List (List (List UInt8×((Int)×((Int)×((Int)×(List UInt8×(List UInt8×(List UInt8)))))))))×(Int×(Unit)))×(Unit)×(Unit)) :=
 (bif decide (a5<a4) then (q67 a3 a5).bind fun (x1:List (List UInt8×((Int)×((Int)×((Int)×(List UInt8×(List UInt8×(List UInt8))))))))=>q2f (IntKind.wrap .i64 (a2+((List.length x1:Nat):Int))) fun (n2:Int)=>(bif decide (n2<(0:Int)) then none else q2f (IntKind.wrap .i64 (a5+(1:Int))) fun (n3:Int)=>rec a1 n2 a3 a4 n3) else some (((a1,(a2,())),((),()))))
def qfm (n:Nat) (rec:pSt q7f→Option (q0t q3y)) (p:pSt q7f):Option (q0t q3y):=j38 n (fun a1 a2 a3 a4 a5=>rec ((a1,(a2,(a3,(a4,(a5,()))))),((),()))) p.1.1 p.1.2.1 p.1.2.2.1 p.1.2.2.2.1 p.1.2.2.2.2.1
def qqr (n m:Nat) (a1:List (List (List UInt8×((Int)×((Int)×((Int)×(List UInt8×(List UInt8×(List UInt8))))))))) (a2:Int) (a3:List (List (List UInt8×((Int)×((Int)×((Int)×(List UInt8×(List UInt8×(List UInt8))))))))) (a4:Int) (a5:Int):Option (((List (List (List UInt8×((Int)×((Int)×((Int)×(List UInt8×(List UInt8×(List UInt8)))))))))×(Int×(Unit)))×(Unit)×(Unit)):=q10 (qfm n) m ((a1,(a2,(a3,(a4,(a5,()))))),((),()))
def qnk (n:Nat):LC:={ sh:=q7f,outs:=q3y,F:=q10 (qfm n) n }
def q7j (n:Nat):List LC:=[qnk n,qr3 n]
def qvo (n:Nat) (a1:List (List (List UInt8×((Int)×((Int)×((Int)×(List UInt8×(List UInt8×(List UInt8))))))))):Option (List (List UInt8×((Int)×((Int)×((Int)×(List UInt8×(List UInt8×(List UInt8)))))))) :=
 (qqr n n a1 (0:Int) a1 ((List.length a1:Nat):Int) (0:Int)).bind fun (o4:((List (List (List UInt8×((Int)×((Int)×((Int)×(List UInt8×(List UInt8×(List UInt8)))))))))×(Int×(Unit)))×(Unit)×(Unit))=>(qwm () o4.1.2.1).bind fun (r5:(Unit)×(Unit)×((List (List UInt8×((Int)×((Int)×((Int)×(List UInt8×(List UInt8×(List UInt8))))))))×(Unit)))=>(qpo n n o4.1.1 ((List.length o4.1.1:Nat):Int) (0:Int) r5.2.2.1).bind fun (o9:(Unit×(Unit))×(Unit)×((List (List UInt8×((Int)×((Int)×((Int)×(List UInt8×(List UInt8×(List UInt8))))))))×(Unit)))=>some o9.2.2.1
def q63 (n:Nat):FC:={ f:=34,args:=[.one (.c (.d (.lst (.lst (.prod .str (.prod (.int .i64) (.prod (.int .i64) (.prod (.int .i64) (.prod .str (.prod .str .str))))))))))],res:=.one (.c (.d (.lst (.prod .str (.prod (.int .i64) (.prod (.int .i64) (.prod (.int .i64) (.prod .str (.prod .str .str))))))))),F:=fun p=>qvo n p }
def q9o (n:Nat):List FC:=[j1j (j3z) [] [(1000000,24)]]
theorem q8k (n:Nat) {G:World→Prop} (hG:Know Inv G) : ∀ c∈q9o n,q1b Tryz.prog G c∧q0i c.args=true:=List.forall_mem_cons.2 ⟨qtm (j7d G hG),(fun _ h=>by cases h)⟩
def q95:q0f:=[]
theorem qf7:drB q95 (q00 Tryz.f34)=true:=by kernel_rfl
theorem qz6 (n:Nat) : ∀ rec p,qgu n rec p=round Tryz.prog 36 (q9o n) (q7j n) q95 2 q70 q3s (q03 0 1 (q00 Tryz.f34)) rec p:=by intro rec p;kernel_rfl
theorem qxs (n:Nat) : ∀ rec p,qfm n rec p=round Tryz.prog 36 (q9o n) (q7j n) q95 1 q7f q3y (q03 0 0 (q00 Tryz.f34)) rec p:=by intro rec p;kernel_rfl
theorem qtx (n:Nat) {F:Fr} (hF:F.n=36) (hK:Know Inv F.G):qk3 Tryz.prog F (qr3 n) (q03 0 1 (q00 Tryz.f34)) :=
 q1a hF (by kernel_rfl) (q8k n hK) (qz6 n) (fuel:=n) (fun _=>rfl) (q07 fun j L h1 h2 h3=>absurd h2 (Nat.not_lt.2 (Nat.le_trans (by decide +kernel) h1))) (q2t qf7)
theorem qta (n:Nat) {F:Fr} (hF:F.n=36) (hK:Know Inv F.G):qk3 Tryz.prog F (qnk n) (q03 0 0 (q00 Tryz.f34)) :=
 q1a hF (by kernel_rfl) (q8k n hK) (qxs n) (fuel:=n) (fun _=>rfl) (q07 fun j L h1 h2 h3=>absurd h2 (Nat.not_lt.2 (Nat.le_trans (by decide +kernel) h1))) (q2t qf7)
theorem j0o (n:Nat) : ∀ a,(q63 n).F a=main Tryz.prog 36 (q9o n) (q7j n) q95 (q00 Tryz.f34) [.tmp 2] (q63 n).args (q63 n).res a:=by intro a;kernel_rfl
theorem j23 (n:Nat):q0d Inv Tryz.prog (q63 n):=fun G hG=>⟨⟨by kernel_rfl,fun a r h=>q06 (c:=q00 Tryz.f34) Tryz.func34 (by kernel_rfl) (by kernel_rfl) (Nat.le_of_ble_eq_true (by kernel_rfl)) hG.st (by kernel_rfl) (rs:=[.tmp 2]) (by kernel_rfl) (q8k n hG) (lts:=q7j n) (fun F hF hFG=>have hK:Know Inv F.G:=hFG ▸ hG;(q07 (c:=(q00 Tryz.f34)) (fun j L h1 h2 h3=>by
  have h2':j<2:=Nat.lt_of_lt_of_le h2 (by decide +kernel)
  match j,h1,h2',h3 with
  | 0,_,_,h3=>obtain rfl:=Option.some.inj h3;exact (show q03 0 0 (q00 Tryz.f34)=q03 0 0 (q00 Tryz.f34) by kernel_rfl) ▸ qta n hF hK
  | 1,_,_,h3=>obtain rfl:=Option.some.inj h3;exact (show q03 0 1 (q00 Tryz.f34)=q03 0 1 (q00 Tryz.f34) by kernel_rfl) ▸ qtx n hF hK
  | j+2,_,h2',_=>exact absurd h2' (by omega)))) qf7 ((j0o n a).symm.trans h)⟩,rfl⟩
@[reducible] def q77:SSt:=⟨[(5,.one (.c (.row 39))),(6,.one (.c (.mv 12))),(14,.one (.c (.d (.lst .str)))),(15,.one (.c (.d (.int .i64)))),(16,.one (.c (.d (.int .i64))))],[(12,(2199023259659,[.d (.lst (.prod .str (.prod (.int .i64) (.prod (.int .i64) (.prod (.int .i64) (.prod .str .str))))))]))],[(39,⟨32,true,(.prod .str (.prod (.int .i64) (.prod (.int .i64) (.prod (.int .i64) (.prod .str (.prod .str .str))))))⟩)]⟩
@[reducible] def q3t:List (Exit×SSt):=[(.ret,⟨[(2,.one (.c (.nil))),(3,.one (.c (.d (.int .i64)))),(4,.one (.c (.d (.int .i64))))],[],[]⟩),(.exit 0,⟨[(5,.one (.c (.row 39)))],[],[(39,⟨32,true,(.prod .str (.prod (.int .i64) (.prod (.int .i64) (.prod (.int .i64) (.prod .str (.prod .str .str))))))⟩)]⟩)]
def qgw (n:Nat) (rec:(List (List UInt8))→Int→Int→(List (List UInt8×((Int)×((Int)×((Int)×(List UInt8×(List UInt8)))))))→(List (List UInt8×((Int)×((Int)×((Int)×(List UInt8×(List UInt8×(List UInt8))))))))→Option (((Unit×(Int×(Int×(Unit))))×(Unit)×(Unit))⊕((Unit×(Unit))×(Unit)×((List (List UInt8×((Int)×((Int)×((Int)×(List UInt8×(List UInt8×(List UInt8))))))))×(Unit))))) (a1:List (List UInt8)) (a2:Int) (a3:Int) (a4:List (List UInt8×((Int)×((Int)×((Int)×(List UInt8×(List UInt8))))))) (a5:List (List UInt8×((Int)×((Int)×((Int)×(List UInt8×(List UInt8×(List UInt8)))))))):Option (((Unit×(Int×(Int×(Unit))))×(Unit)×(Unit))⊕((Unit×(Unit))×(Unit)×((List (List UInt8×((Int)×((Int)×((Int)×(List UInt8×(List UInt8×(List UInt8))))))))×(Unit)))) :=
 (bif decide (a3<a2) then (q67 a1 a3).bind fun (x2:List UInt8)=>(qlj n x2).bind fun (r3:((List UInt8)×(Int×(Int×(Int×((List UInt8)×((List UInt8)×(List UInt8)))))))×(Bool))=>(bif !r3.2 then some (Sum.inl (((),(a3,((10:Int),()))),((),()))) else (q86 n () r3.1 a4).bind fun (r4:(Int)×((List (List UInt8×((Int)×((Int)×((Int)×(List UInt8×(List UInt8)))))))×(Unit))×(Unit))=>(bif !decide (r4.1=(0:Int)) then some (Sum.inl (((),(a3,(r4.1,()))),((),()))) else (qrc 88 a5 ([r3.1]:List (List UInt8×((Int)×((Int)×((Int)×(List UInt8×(List UInt8×(List UInt8))))))))).bind fun (l5:List (List UInt8×((Int)×((Int)×((Int)×(List UInt8×(List UInt8×(List UInt8))))))))=>q2f (IntKind.wrap .i64 (a3+(1:Int))) fun (n6:Int)=>rec a1 a2 n6 r4.2.1.1 l5)) else some (Sum.inr ((((),()),((),(a5,()))))))
def qeh (n:Nat) (rec:pSt q77→Option (q0t q3t)) (p:pSt q77):Option (q0t q3t):=qgw n (fun a1 a2 a3 a4 a5=>rec (((),((),(a1,(a2,(a3,()))))),((a4,()),(a5,())))) p.1.2.2.1 p.1.2.2.2.1 p.1.2.2.2.2.1 p.2.1.1 p.2.2.1
def q2m (n m:Nat) (a1:List (List UInt8)) (a2:Int) (a3:Int) (a4:List (List UInt8×((Int)×((Int)×((Int)×(List UInt8×(List UInt8))))))) (a5:List (List UInt8×((Int)×((Int)×((Int)×(List UInt8×(List UInt8×(List UInt8)))))))):Option (((Unit×(Int×(Int×(Unit))))×(Unit)×(Unit))⊕((Unit×(Unit))×(Unit)×((List (List UInt8×((Int)×((Int)×((Int)×(List UInt8×(List UInt8×(List UInt8))))))))×(Unit)))):=q10 (qeh n) m (((),((),(a1,(a2,(a3,()))))),((a4,()),(a5,())))
theorem qb0 (n m:Nat) (a1:List (List UInt8)) (a2:Int) (a3:Int) (a4:List (List UInt8×((Int)×((Int)×((Int)×(List UInt8×(List UInt8))))))) (a5:List (List UInt8×((Int)×((Int)×((Int)×(List UInt8×(List UInt8×(List UInt8)))))))):q2m n (m+1) a1 a2 a3 a4 a5=qgw n (fun a1 a2 a3 a4 a5=>q2m n m a1 a2 a3 a4 a5) a1 a2 a3 a4 a5:=rfl
def qow (n:Nat):LC:={ sh:=q77,outs:=q3t,F:=q10 (qeh n) n }
def qbq (n:Nat):List LC:=[qow n]
def q5j (n:Nat) (a1:List UInt8):Option ((List (List UInt8×((Int)×((Int)×((Int)×(List UInt8×(List UInt8×(List UInt8))))))))×(Int×(Int))) :=
 (qdt n a1).bind fun (r1:List (List UInt8))=>(q2m n n r1 ((List.length r1:Nat):Int) (0:Int) ([]:List (List UInt8×((Int)×((Int)×((Int)×(List UInt8×(List UInt8))))))) []).bind fun (o7:((Unit×(Int×(Int×(Unit))))×(Unit)×(Unit))⊕((Unit×(Unit))×(Unit)×((List (List UInt8×((Int)×((Int)×((Int)×(List UInt8×(List UInt8×(List UInt8))))))))×(Unit))))=>Sum.elim (fun (q8:(Unit×(Int×(Int×(Unit))))×(Unit)×(Unit))=>some ([],(q8.1.2.1,q8.1.2.2.1))) (fun (q9:(Unit×(Unit))×(Unit)×((List (List UInt8×((Int)×((Int)×((Int)×(List UInt8×(List UInt8×(List UInt8))))))))×(Unit)))=>some (q9.2.2.1,(((List.length q9.2.2.1:Nat):Int),(0:Int)))) o7
def q4h (n:Nat):FC:={ f:=10,args:=[.one (.c (.d .str))],res:=.tup [.c (.d (.lst (.prod .str (.prod (.int .i64) (.prod (.int .i64) (.prod (.int .i64) (.prod .str (.prod .str .str)))))))),.c (.d (.int .i64)),.c (.d (.int .i64))],F:=fun p=>q5j n p }
def qff (n:Nat):List FC:=[j1j (q25 n) [(1000000,12)] [],q6g n,qa3 n]
theorem qfj (n:Nat) {G:World→Prop} (hG:Know Inv G) : ∀ c∈qff n,q1b Tryz.prog G c∧q0i c.args=true:=List.forall_mem_cons.2 ⟨qtm (qqn n G hG),List.forall_mem_cons.2 ⟨j0a n G hG,List.forall_mem_cons.2 ⟨j63 n G hG,(fun _ h=>by cases h)⟩⟩⟩
def qed:q0f:=[]
theorem qna:drB qed (q00 Tryz.f10)=true:=by kernel_rfl
theorem qyq (n:Nat) : ∀ rec p,qeh n rec p=round Tryz.prog 44 (qff n) (qbq n) qed 1 q77 q3t (q03 0 0 (q00 Tryz.f10)) rec p:=by intro rec p;kernel_rfl
theorem qsp (n:Nat) {F:Fr} (hF:F.n=44) (hK:Know Inv F.G):qk3 Tryz.prog F (qow n) (q03 0 0 (q00 Tryz.f10)) :=
 q1a hF (by kernel_rfl) (qfj n hK) (qyq n) (fuel:=n) (fun _=>rfl) (q07 fun j L h1 h2 h3=>absurd h2 (Nat.not_lt.2 (Nat.le_trans (by decide +kernel) h1))) (q2t qna)
theorem j3w (n:Nat) : ∀ a,(q4h n).F a=main Tryz.prog 44 (qff n) (qbq n) qed (q00 Tryz.f10) [.tmp 2,.tmp 3,.tmp 4] (q4h n).args (q4h n).res a:=by intro a;kernel_rfl
theorem qok (n:Nat):q0d Inv Tryz.prog (q4h n):=fun G hG=>⟨⟨by kernel_rfl,fun a r h=>q06 (c:=q00 Tryz.f10) Tryz.func10 (by kernel_rfl) (by kernel_rfl) (Nat.le_of_ble_eq_true (by kernel_rfl)) hG.st (by kernel_rfl) (rs:=[.tmp 2,.tmp 3,.tmp 4]) (by kernel_rfl) (qfj n hG) (lts:=qbq n) (fun F hF hFG=>have hK:Know Inv F.G:=hFG ▸ hG;(q07 (c:=(q00 Tryz.f10)) (fun j L h1 h2 h3=>by
  have h2':j<1:=Nat.lt_of_lt_of_le h2 (by decide +kernel)
  match j,h1,h2',h3 with
  | 0,_,_,h3=>obtain rfl:=Option.some.inj h3;exact (show q03 0 0 (q00 Tryz.f10)=q03 0 0 (q00 Tryz.f10) by kernel_rfl) ▸ qsp n hF hK
  | j+1,_,h2',_=>exact absurd h2' (by omega)))) qna ((j3w n a).symm.trans h)⟩,rfl⟩
@[reducible] def q9m:SSt:=⟨[(4,.one (.c (.row 27))),(5,.one (.c (.mv 9))),(10,.one (.c (.d (.lst (.prod .str (.prod (.int .i64) (.prod (.int .i64) (.prod (.int .i64) (.prod .str (.prod .str .str)))))))))),(11,.one (.c (.d (.int .i64)))),(12,.one (.c (.d (.int .i64))))],[(9,(2199023259659,[.d (.lst (.prod .str (.prod (.int .i64) (.prod (.int .i64) (.prod (.int .i64) (.prod .str .str))))))]))],[(27,⟨80,true,.any⟩)]⟩
@[reducible] def q50:List (Exit×SSt):=[(.ret,⟨[(2,.one (.c (.d .str))),(3,.one (.c (.d (.int .i64))))],[],[]⟩),(.exit 0,⟨[(4,.one (.c (.row 27)))],[],[(27,⟨80,true,.any⟩)]⟩)]
def qdg (n:Nat) (rec:(List (List UInt8×((Int)×((Int)×((Int)×(List UInt8×(List UInt8×(List UInt8))))))))→Int→Int→(List (List UInt8×((Int)×((Int)×((Int)×(List UInt8×(List UInt8)))))))→(List (IV))→Option ((((List UInt8)×(Int×(Unit)))×(Unit)×(Unit))⊕((Unit×(Unit))×(Unit)×((List (IV))×(Unit))))) (a1:List (List UInt8×((Int)×((Int)×((Int)×(List UInt8×(List UInt8×(List UInt8)))))))) (a2:Int) (a3:Int) (a4:List (List UInt8×((Int)×((Int)×((Int)×(List UInt8×(List UInt8))))))) (a5:List (IV)):Option ((((List UInt8)×(Int×(Unit)))×(Unit)×(Unit))⊕((Unit×(Unit))×(Unit)×((List (IV))×(Unit)))) :=
 (bif decide (a3<a2) then (q67 a1 a3).bind fun (x1:List UInt8×((Int)×((Int)×((Int)×(List UInt8×(List UInt8×(List UInt8)))))))=>(q86 n () x1 a4).bind fun (r2:(Int)×((List (List UInt8×((Int)×((Int)×((Int)×(List UInt8×(List UInt8)))))))×(Unit))×(Unit))=>(bif !decide (r2.1=(0:Int)) then some (Sum.inl ((([]:List UInt8),(r2.1,())),((),()))) else (qrc 16 a5 ([(mkIV 57 (Value.agg ⟨[(Value.string (ba x1.1)),(Value.int .i64 x1.2.1),(Value.int .i64 x1.2.2.1),(Value.int .i64 x1.2.2.2.1),(Value.string (ba x1.2.2.2.2.1)),(Value.string (ba x1.2.2.2.2.2.1)),(Value.string (ba x1.2.2.2.2.2.2))]⟩))]:List (IV))).bind fun (l3:List (IV))=>q2f (IntKind.wrap .i64 (a3+(1:Int))) fun (n4:Int)=>rec a1 a2 n4 r2.2.1.1 l3) else some (Sum.inr ((((),()),((),(a5,()))))))
def qmt (n:Nat) (rec:pSt q9m→Option (q0t q50)) (p:pSt q9m):Option (q0t q50):=qdg n (fun a1 a2 a3 a4 a5=>rec (((),((),(a1,(a2,(a3,()))))),((a4,()),(a5,())))) p.1.2.2.1 p.1.2.2.2.1 p.1.2.2.2.2.1 p.2.1.1 p.2.2.1
def q1u (n m:Nat) (a1:List (List UInt8×((Int)×((Int)×((Int)×(List UInt8×(List UInt8×(List UInt8)))))))) (a2:Int) (a3:Int) (a4:List (List UInt8×((Int)×((Int)×((Int)×(List UInt8×(List UInt8))))))) (a5:List (IV)):Option ((((List UInt8)×(Int×(Unit)))×(Unit)×(Unit))⊕((Unit×(Unit))×(Unit)×((List (IV))×(Unit)))):=q10 (qmt n) m (((),((),(a1,(a2,(a3,()))))),((a4,()),(a5,())))
theorem q5s (n m:Nat) (a1:List (List UInt8×((Int)×((Int)×((Int)×(List UInt8×(List UInt8×(List UInt8)))))))) (a2:Int) (a3:Int) (a4:List (List UInt8×((Int)×((Int)×((Int)×(List UInt8×(List UInt8))))))) (a5:List (IV)):q1u n (m+1) a1 a2 a3 a4 a5=qdg n (fun a1 a2 a3 a4 a5=>q1u n m a1 a2 a3 a4 a5) a1 a2 a3 a4 a5:=rfl
def qvr (n:Nat):LC:={ sh:=q9m,outs:=q50,F:=q10 (qmt n) n }
def qdz (n:Nat):List LC:=[qvr n]
def q47 (n:Nat) (a1:List (List UInt8×((Int)×((Int)×((Int)×(List UInt8×(List UInt8×(List UInt8)))))))):Option ((List UInt8)×(Int)) :=
 (q1u n n a1 ((List.length a1:Nat):Int) (0:Int) ([]:List (List UInt8×((Int)×((Int)×((Int)×(List UInt8×(List UInt8))))))) []).bind fun (o5:(((List UInt8)×(Int×(Unit)))×(Unit)×(Unit))⊕((Unit×(Unit))×(Unit)×((List (IV))×(Unit))))=>Sum.elim (fun (q6:((List UInt8)×(Int×(Unit)))×(Unit)×(Unit))=>some (q6.1.1,q6.1.2.1)) (fun (q7:(Unit×(Unit))×(Unit)×((List (IV))×(Unit)))=>(qi6 n q7.2.2.1).bind fun (r8:List UInt8)=>some (r8,(0:Int))) o5
def q7g (n:Nat):FC:={ f:=14,args:=[.one (.c (.d (.lst (.prod .str (.prod (.int .i64) (.prod (.int .i64) (.prod (.int .i64) (.prod .str (.prod .str .str)))))))))],res:=.tup [.c (.d .str),.c (.d (.int .i64))],F:=fun p=>q47 n p }
def ql0 (n:Nat):List FC:=[j1j (q25 n) [(1000000,9)] [],j8b n]
theorem qjj (n:Nat) {G:World→Prop} (hG:Know Inv G) : ∀ c∈ql0 n,q1b Tryz.prog G c∧q0i c.args=true:=List.forall_mem_cons.2 ⟨qtm (qqn n G hG),List.forall_mem_cons.2 ⟨jd4 n G hG,(fun _ h=>by cases h)⟩⟩
def qkf:q0f:=[]
theorem qx5:drB qkf (q00 Tryz.f14)=true:=by kernel_rfl
theorem qzu (n:Nat) : ∀ rec p,qmt n rec p=round Tryz.prog 31 (ql0 n) (qdz n) qkf 1 q9m q50 (q03 0 0 (q00 Tryz.f14)) rec p:=by intro rec p;kernel_rfl
theorem qz1 (n:Nat) {F:Fr} (hF:F.n=31) (hK:Know Inv F.G):qk3 Tryz.prog F (qvr n) (q03 0 0 (q00 Tryz.f14)) :=
 q1a hF (by kernel_rfl) (qjj n hK) (qzu n) (fuel:=n) (fun _=>rfl) (q07 fun j L h1 h2 h3=>absurd h2 (Nat.not_lt.2 (Nat.le_trans (by decide +kernel) h1))) (q2t qx5)
theorem j6e (n:Nat) : ∀ a,(q7g n).F a=main Tryz.prog 31 (ql0 n) (qdz n) qkf (q00 Tryz.f14) [.tmp 2,.tmp 3] (q7g n).args (q7g n).res a:=by intro a;kernel_rfl
theorem qun (n:Nat):q0d Inv Tryz.prog (q7g n):=fun G hG=>⟨⟨by kernel_rfl,fun a r h=>q06 (c:=q00 Tryz.f14) Tryz.func14 (by kernel_rfl) (by kernel_rfl) (Nat.le_of_ble_eq_true (by kernel_rfl)) hG.st (by kernel_rfl) (rs:=[.tmp 2,.tmp 3]) (by kernel_rfl) (qjj n hG) (lts:=qdz n) (fun F hF hFG=>have hK:Know Inv F.G:=hFG ▸ hG;(q07 (c:=(q00 Tryz.f14)) (fun j L h1 h2 h3=>by
  have h2':j<1:=Nat.lt_of_lt_of_le h2 (by decide +kernel)
  match j,h1,h2',h3 with
  | 0,_,_,h3=>obtain rfl:=Option.some.inj h3;exact (show q03 0 0 (q00 Tryz.f14)=q03 0 0 (q00 Tryz.f14) by kernel_rfl) ▸ qz1 n hF hK
  | j+1,_,h2',_=>exact absurd h2' (by omega)))) qx5 ((j6e n a).symm.trans h)⟩,rfl⟩
@[reducible] def qdh:SSt:=⟨[(0,.one (.c (.d (.lst (.prod .str (.prod (.int .i64) (.prod (.int .i64) (.prod (.int .i64) (.prod .str (.prod .str .str)))))))))),(3,.one (.c (.box 3 0))),(14,.one (.c (.d (.lst (.prod .str (.prod (.int .i64) (.prod (.int .i64) (.prod (.int .i64) (.prod .str (.prod .str .str)))))))))),(15,.one (.c (.d (.int .i64)))),(16,.one (.c (.d (.int .i64))))],[(3,(32,[.d .str,.d (.int .i64),.d (.int .i64),.d (.int .i64),.d .str,.d .str,.d .str]))],[]⟩
@[reducible] def q78:List (Exit×SSt):=[(.ret,⟨[(4,.one (.c (.nil))),(5,.one (.c (.d (.int .i64))))],[],[]⟩),(.exit 0,⟨[(0,.one (.c (.d (.lst (.prod .str (.prod (.int .i64) (.prod (.int .i64) (.prod (.int .i64) (.prod .str (.prod .str .str)))))))))),(3,.one (.c (.box 3 0)))],[(3,(32,[.d .str,.d (.int .i64),.d (.int .i64),.d (.int .i64),.d .str,.d .str,.d .str]))],[]⟩)]
def j9h (n:Nat) (rec:(List (List UInt8×((Int)×((Int)×((Int)×(List UInt8×(List UInt8×(List UInt8))))))))→(List (List UInt8×((Int)×((Int)×((Int)×(List UInt8×(List UInt8×(List UInt8))))))))→Int→Int→(List UInt8)→Int→Int→Int→(List UInt8)→(List UInt8)→(List UInt8)→Option (((Unit×(Int×(Unit)))×(Unit)×(Unit))⊕(((List (List UInt8×((Int)×((Int)×((Int)×(List UInt8×(List UInt8×(List UInt8))))))))×(Unit×(Unit)))×(((List UInt8)×(Int×(Int×(Int×((List UInt8)×((List UInt8)×(List UInt8)))))))×(Unit))×(Unit)))) (a1:List (List UInt8×((Int)×((Int)×((Int)×(List UInt8×(List UInt8×(List UInt8)))))))) (a2:List (List UInt8×((Int)×((Int)×((Int)×(List UInt8×(List UInt8×(List UInt8)))))))) (a3:Int) (a4:Int) (a5:List UInt8) (a6:Int) (a7:Int) (a8:Int) (a9:List UInt8) (a10:List UInt8) (a11:List UInt8):Option (((Unit×(Int×(Unit)))×(Unit)×(Unit))⊕(((List (List UInt8×((Int)×((Int)×((Int)×(List UInt8×(List UInt8×(List UInt8))))))))×(Unit×(Unit)))×(((List UInt8)×(Int×(Int×(Int×((List UInt8)×((List UInt8)×(List UInt8)))))))×(Unit))×(Unit))) :=
 (bif decide (a4<a3) then (q67 a2 a4).bind fun (x2:List UInt8×((Int)×((Int)×((Int)×(List UInt8×(List UInt8×(List UInt8)))))))=>(bif decide (x2.1=a5) then (q5i n (x2.2.1,(x2.2.2.1,(x2.2.2.2.1,(x2.2.2.2.2.1,x2.2.2.2.2.2.1)))) (a6,(a7,(a8,(a9,a10))))).bind fun (r3:Bool)=>(bif !r3 then some (Sum.inl (((),((13:Int),())),((),()))) else q2f (IntKind.wrap .i64 (a4+(1:Int))) fun (n4:Int)=>rec a1 a2 a3 n4 a5 a6 a7 a8 a9 a10 a11) else q2f (IntKind.wrap .i64 (a4+(1:Int))) fun (n5:Int)=>rec a1 a2 a3 n5 a5 a6 a7 a8 a9 a10 a11) else some (Sum.inr (((a1,((),())),(((a5,(a6,(a7,(a8,(a9,(a10,a11)))))),()),())))))
def qsb (n:Nat) (rec:pSt qdh→Option (q0t q78)) (p:pSt qdh):Option (q0t q78):=j9h n (fun a1 a2 a3 a4 a5 a6 a7 a8 a9 a10 a11=>rec ((a1,((),(a2,(a3,(a4,()))))),(((a5,(a6,(a7,(a8,(a9,(a10,a11)))))),()),()))) p.1.1 p.1.2.2.1 p.1.2.2.2.1 p.1.2.2.2.2.1 p.2.1.1.1 p.2.1.1.2.1 p.2.1.1.2.2.1 p.2.1.1.2.2.2.1 p.2.1.1.2.2.2.2.1 p.2.1.1.2.2.2.2.2.1 p.2.1.1.2.2.2.2.2.2
def qxl (n m:Nat) (a1:List (List UInt8×((Int)×((Int)×((Int)×(List UInt8×(List UInt8×(List UInt8)))))))) (a2:List (List UInt8×((Int)×((Int)×((Int)×(List UInt8×(List UInt8×(List UInt8)))))))) (a3:Int) (a4:Int) (a5:List UInt8) (a6:Int) (a7:Int) (a8:Int) (a9:List UInt8) (a10:List UInt8) (a11:List UInt8):Option (((Unit×(Int×(Unit)))×(Unit)×(Unit))⊕(((List (List UInt8×((Int)×((Int)×((Int)×(List UInt8×(List UInt8×(List UInt8))))))))×(Unit×(Unit)))×(((List UInt8)×(Int×(Int×(Int×((List UInt8)×((List UInt8)×(List UInt8)))))))×(Unit))×(Unit))):=q10 (qsb n) m ((a1,((),(a2,(a3,(a4,()))))),(((a5,(a6,(a7,(a8,(a9,(a10,a11)))))),()),()))
def j3t (n:Nat):LC:={ sh:=qdh,outs:=q78,F:=q10 (qsb n) n }
def qmd (n:Nat):List LC:=[j3t n]
def j2t (n:Nat) (a1:List (List UInt8×((Int)×((Int)×((Int)×(List UInt8×(List UInt8×(List UInt8)))))))) (a2:(List UInt8)×(Int×(Int×(Int×((List UInt8)×((List UInt8)×(List UInt8))))))):Option ((List (List UInt8×((Int)×((Int)×((Int)×(List UInt8×(List UInt8×(List UInt8))))))))×(Int)) :=
 (q5p n a2).bind fun (r1:Int)=>(bif !decide (r1=(0:Int)) then some ([],r1) else (qxl n n a1 a1 ((List.length a1:Nat):Int) (0:Int) a2.1 a2.2.1 a2.2.2.1 a2.2.2.2.1 a2.2.2.2.2.1 a2.2.2.2.2.2.1 a2.2.2.2.2.2.2).bind fun (o6:((Unit×(Int×(Unit)))×(Unit)×(Unit))⊕(((List (List UInt8×((Int)×((Int)×((Int)×(List UInt8×(List UInt8×(List UInt8))))))))×(Unit×(Unit)))×(((List UInt8)×(Int×(Int×(Int×((List UInt8)×((List UInt8)×(List UInt8)))))))×(Unit))×(Unit)))=>Sum.elim (fun (q7:(Unit×(Int×(Unit)))×(Unit)×(Unit))=>some ([],q7.1.2.1)) (fun (q8:((List (List UInt8×((Int)×((Int)×((Int)×(List UInt8×(List UInt8×(List UInt8))))))))×(Unit×(Unit)))×(((List UInt8)×(Int×(Int×(Int×((List UInt8)×((List UInt8)×(List UInt8)))))))×(Unit))×(Unit))=>(qvo n ([q8.1.1,([q8.2.1.1]:List (List UInt8×((Int)×((Int)×((Int)×(List UInt8×(List UInt8×(List UInt8))))))))]:List (List (List UInt8×((Int)×((Int)×((Int)×(List UInt8×(List UInt8×(List UInt8)))))))))).bind fun (r9:List (List UInt8×((Int)×((Int)×((Int)×(List UInt8×(List UInt8×(List UInt8))))))))=>some (r9,(0:Int))) o6)
def qhf (n:Nat):FC:={ f:=16,args:=[.one (.c (.d (.lst (.prod .str (.prod (.int .i64) (.prod (.int .i64) (.prod (.int .i64) (.prod .str (.prod .str .str))))))))),.one (.agg [.d .str,.d (.int .i64),.d (.int .i64),.d (.int .i64),.d .str,.d .str,.d .str])],res:=.tup [.c (.d (.lst (.prod .str (.prod (.int .i64) (.prod (.int .i64) (.prod (.int .i64) (.prod .str (.prod .str .str)))))))),.c (.d (.int .i64))],F:=fun p=>j2t n p.1 p.2 }
def qsw (n:Nat):List FC:=[q4b n,q4v n,q63 n]
theorem qn6 (n:Nat) {G:World→Prop} (hG:Know Inv G) : ∀ c∈qsw n,q1b Tryz.prog G c∧q0i c.args=true:=List.forall_mem_cons.2 ⟨qp9 n G hG,List.forall_mem_cons.2 ⟨qob n G hG,List.forall_mem_cons.2 ⟨j23 n G hG,(fun _ h=>by cases h)⟩⟩⟩
def qs8:q0f:=[]
theorem j14:drB qs8 (q00 Tryz.f16)=true:=by kernel_rfl
theorem j5t (n:Nat) : ∀ rec p,qsb n rec p=round Tryz.prog 39 (qsw n) (qmd n) qs8 1 qdh q78 (q03 0 0 (q00 Tryz.f16)) rec p:=by intro rec p;kernel_rfl
theorem j07 (n:Nat) {F:Fr} (hF:F.n=39) (hK:Know Inv F.G):qk3 Tryz.prog F (j3t n) (q03 0 0 (q00 Tryz.f16)) :=
 q1a hF (by kernel_rfl) (qn6 n hK) (j5t n) (fuel:=n) (fun _=>rfl) (q07 fun j L h1 h2 h3=>absurd h2 (Nat.not_lt.2 (Nat.le_trans (by decide +kernel) h1))) (q2t j14)
theorem ja0 (n:Nat) : ∀ a,(qhf n).F a=main Tryz.prog 39 (qsw n) (qmd n) qs8 (q00 Tryz.f16) [.tmp 4,.tmp 5] (qhf n).args (qhf n).res a:=by intro a;kernel_rfl
theorem j9s (n:Nat):q0d Inv Tryz.prog (qhf n):=fun G hG=>⟨⟨by kernel_rfl,fun a r h=>q06 (c:=q00 Tryz.f16) Tryz.func16 (by kernel_rfl) (by kernel_rfl) (Nat.le_of_ble_eq_true (by kernel_rfl)) hG.st (by kernel_rfl) (rs:=[.tmp 4,.tmp 5]) (by kernel_rfl) (qn6 n hG) (lts:=qmd n) (fun F hF hFG=>have hK:Know Inv F.G:=hFG ▸ hG;(q07 (c:=(q00 Tryz.f16)) (fun j L h1 h2 h3=>by
  have h2':j<1:=Nat.lt_of_lt_of_le h2 (by decide +kernel)
  match j,h1,h2',h3 with
  | 0,_,_,h3=>obtain rfl:=Option.some.inj h3;exact (show q03 0 0 (q00 Tryz.f16)=q03 0 0 (q00 Tryz.f16) by kernel_rfl) ▸ j07 n hF hK
  | j+1,_,h2',_=>exact absurd h2' (by omega)))) j14 ((ja0 n a).symm.trans h)⟩,rfl⟩
end Go.Proofs.YtlmjgghohipipaaGreatDoor.AM
