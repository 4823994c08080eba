
import Derived.Test.YtapfankgdkdkgaaGreatDoorMk9
namespace Go.Proofs.YtapfankgdkdkgaaGreatDoor.AM
open Go.RowKit
set_option linter.unusedVariables false
set_option maxRecDepth 20000
def q32 (n:Nat):List LC:=[]
def q1k (n:Nat) (a1:List UInt8) (a2:List UInt8):Option (Bool) :=
 (bif decide ((a2.length:Int)<=(a1.length:Int)) then (q2i a1 (0:Int) (a2.length:Int)).bind fun s1=>some (decide (s1=a2)) else some false)
def q0m (n:Nat):FC:={ f:=181,args:=[.one (.c (.d .str)),.one (.c (.d .str))],res:=.one (.c (.d .bool)),F:=fun p=>q1k n p.1 p.2 }
def q3x (n:Nat):List FC:=[]
theorem q6e (n:Nat) {G:World->Prop} (hG:Know Inv G) : ∀c∈q3x n,q17 Tryz.prog G c/\q0b c.args=true:=(fun _ h=>by cases h)
def q3t:q0a:=[]
theorem qa2:drB q3t (q00 Tryz.f181)=true:=by kernel_rfl
theorem q97 (n:Nat) : ∀a,(q0m n).F a=main Tryz.prog 18 (q3x n) (q32 n) q3t (q00 Tryz.f181) [.tmp 4] (q0m n).args (q0m n).res a:=by intro a;kernel_rfl
theorem q40 (n:Nat):q0d Inv Tryz.prog (q0m n):=fun G hG=>⟨⟨by kernel_rfl,fun a r h=>q04 (c:=q00 Tryz.f181) Tryz.func181 (by kernel_rfl) (by kernel_rfl) (Nat.le_of_ble_eq_true (by kernel_rfl)) hG.st (by kernel_rfl) (rs:=[.tmp 4]) (by kernel_rfl) (q6e n hG) (lts:=q32 n) (fun F hF hFG=>have hK:Know Inv F.G:=hFG ▸ hG;(q02 fun j L h1 h2 h3=>absurd h2 (Nat.not_lt.2 (Nat.le_trans (by decide +kernel) h1)))) qa2 ((q97 n a).symm.trans h)⟩,rfl⟩
def qbr (n:Nat):List LC:=[]
def qaj (n:Nat) (a1:List UInt8) (a2:List UInt8):Option (List UInt8) :=
 (q1k n a1 a2).bind fun r1=>(bif r1 then (q2i a1 (a2.length:Int) (a1.length:Int)).bind fun s2=>some s2 else some a1)
def q39 (n:Nat):FC:={ f:=183,args:=[.one (.c (.d .str)),.one (.c (.d .str))],res:=.one (.c (.d .str)),F:=fun p=>qaj n p.1 p.2 }
def qe8 (n:Nat):List FC:=[q0m n]
theorem qmj (n:Nat) {G:World->Prop} (hG:Know Inv G) : ∀c∈qe8 n,q17 Tryz.prog G c/\q0b c.args=true:=List.forall_mem_cons.2 ⟨q40 n G hG,(fun _ h=>by cases h)⟩
def qdx:q0a:=[]
theorem qua:drB qdx (q00 Tryz.f183)=true:=by kernel_rfl
theorem qu1 (n:Nat) : ∀a,(q39 n).F a=main Tryz.prog 13 (qe8 n) (qbr n) qdx (q00 Tryz.f183) [.tmp 4] (q39 n).args (q39 n).res a:=by intro a;kernel_rfl
theorem qtz (n:Nat):q0d Inv Tryz.prog (q39 n):=fun G hG=>⟨⟨by kernel_rfl,fun a r h=>q04 (c:=q00 Tryz.f183) Tryz.func183 (by kernel_rfl) (by kernel_rfl) (Nat.le_of_ble_eq_true (by kernel_rfl)) hG.st (by kernel_rfl) (rs:=[.tmp 4]) (by kernel_rfl) (qmj n hG) (lts:=qbr n) (fun F hF hFG=>have hK:Know Inv F.G:=hFG ▸ hG;(q02 fun j L h1 h2 h3=>absurd h2 (Nat.not_lt.2 (Nat.le_trans (by decide +kernel) h1)))) qua ((qu1 n a).symm.trans h)⟩,rfl⟩
def qe9 (n:Nat):List LC:=[]
def q71 (n:Nat) (a1:List UInt8) (a2:List UInt8):Option (List UInt8) :=
 (qaj n a1 a2).bind fun r1=>some r1
def q3q (n:Nat):FC:={ f:=155,args:=[.one (.c (.d .str)),.one (.c (.d .str))],res:=.one (.c (.d .str)),F:=fun p=>q71 n p.1 p.2 }
def qgu (n:Nat):List FC:=[q39 n]
theorem qqc (n:Nat) {G:World->Prop} (hG:Know Inv G) : ∀c∈qgu n,q17 Tryz.prog G c/\q0b c.args=true:=List.forall_mem_cons.2 ⟨qtz n G hG,(fun _ h=>by cases h)⟩
def qg4:q0a:=[]
theorem qzw:drB qg4 (q00 Tryz.f155)=true:=by kernel_rfl
theorem qxp (n:Nat) : ∀a,(q3q n).F a=main Tryz.prog 8 (qgu n) (qe9 n) qg4 (q00 Tryz.f155) [.tmp 4] (q3q n).args (q3q n).res a:=by intro a;kernel_rfl
theorem qi9 (n:Nat):q0d Inv Tryz.prog (q3q n):=fun G hG=>⟨⟨by kernel_rfl,fun a r h=>q04 (c:=q00 Tryz.f155) Tryz.func155 (by kernel_rfl) (by kernel_rfl) (Nat.le_of_ble_eq_true (by kernel_rfl)) hG.st (by kernel_rfl) (rs:=[.tmp 4]) (by kernel_rfl) (qqc n hG) (lts:=qe9 n) (fun F hF hFG=>have hK:Know Inv F.G:=hFG ▸ hG;(q02 fun j L h1 h2 h3=>absurd h2 (Nat.not_lt.2 (Nat.le_trans (by decide +kernel) h1)))) qzw ((qxp n a).symm.trans h)⟩,rfl⟩
def jbf (n:Nat):List LC:=[]
def jni (n:Nat) (a1:List UInt8) (a2:List UInt8):Option ((List UInt8)×((List UInt8)×(Bool))) :=
 (qph a1 a2).bind fun (r1:Int)=>(bif decide (0<=r1) then (q2i a1 (0:Int) r1).bind fun s2=>q08 (IntKind.wrap .i64 (r1+(a2.length:Int))) fun (n3:Int)=>(q2i a1 n3 (a1.length:Int)).bind fun s4=>some (s2,(s4,true)) else some (a1,(([]:List UInt8),false)))
def qrp (n:Nat):FC:={ f:=82,args:=[.one (.c (.d .str)),.one (.c (.d .str))],res:=.tup [.c (.d .str),.c (.d .str),.c (.d .bool)],F:=fun p=>jni n p.1 p.2 }
def jm0 (n:Nat):List FC:=[jdc]
theorem jib (n:Nat) {G:World->Prop} (hG:Know Inv G) : ∀c∈jm0 n,q17 Tryz.prog G c/\q0b c.args=true:=List.forall_mem_cons.2 ⟨jry G hG,(fun _ h=>by cases h)⟩
def jn8:q0a:=[(3,[⟨3298534883329,2^39,0⟩,⟨12582913*2^21,2^42,0⟩,⟨393*2^39,2^45,3⟩,⟨1688849860263937,2^48,0⟩,⟨6442450945*2^21,2^51,0⟩,⟨108086391056891912,2^54,0⟩,⟨49*2^54,2^57,32⟩,⟨3137*2^51,2^60,112⟩,⟨200705*2^48,2^63,248⟩,⟨35184372113408,4096,7⟩,⟨9223372036854972416,32768,1023⟩,⟨3*2^19,2^18,2047⟩])]
theorem jul:drB jn8 (q00 Tryz.f82)=true:=by kernel_rfl
theorem jvr (n:Nat) : ∀a,(qrp n).F a=main Tryz.prog 23 (jm0 n) (jbf n) jn8 (q00 Tryz.f82) [.tmp 4,.tmp 5,.tmp 6] (qrp n).args (qrp n).res a:=by intro a;kernel_rfl
theorem juz (n:Nat):q0d Inv Tryz.prog (qrp n):=fun G hG=>⟨⟨by kernel_rfl,fun a r h=>q04 (c:=q00 Tryz.f82) Tryz.func82 (by kernel_rfl) (by kernel_rfl) (Nat.le_of_ble_eq_true (by kernel_rfl)) hG.st (by kernel_rfl) (rs:=[.tmp 4,.tmp 5,.tmp 6]) (by kernel_rfl) (jib n hG) (lts:=jbf n) (fun F hF hFG=>have hK:Know Inv F.G:=hFG ▸ hG;(q02 fun j L h1 h2 h3=>absurd h2 (Nat.not_lt.2 (Nat.le_trans (by decide +kernel) h1)))) jul ((jvr n a).symm.trans h)⟩,rfl⟩
def jjl (n:Nat):List LC:=[]
def j1l (n:Nat) (a1:List UInt8) (a2:List UInt8):Option ((List UInt8)×((List UInt8)×(Bool))) :=
 (jni n a1 a2).bind fun r1=>some r1
def qv4 (n:Nat):FC:={ f:=55,args:=[.one (.c (.d .str)),.one (.c (.d .str))],res:=.tup [.c (.d .str),.c (.d .str),.c (.d .bool)],F:=fun p=>j1l n p.1 p.2 }
def jsp (n:Nat):List FC:=[qrp n]
theorem jqi (n:Nat) {G:World->Prop} (hG:Know Inv G) : ∀c∈jsp n,q17 Tryz.prog G c/\q0b c.args=true:=List.forall_mem_cons.2 ⟨juz n G hG,(fun _ h=>by cases h)⟩
def jsh:q0a:=[]
theorem jz7:drB jsh (q00 Tryz.f55)=true:=by kernel_rfl
theorem jyj (n:Nat) : ∀a,(qv4 n).F a=main Tryz.prog 13 (jsp n) (jjl n) jsh (q00 Tryz.f55) [.tmp 4,.tmp 5,.tmp 6] (qv4 n).args (qv4 n).res a:=by intro a;kernel_rfl
theorem jt0 (n:Nat):q0d Inv Tryz.prog (qv4 n):=fun G hG=>⟨⟨by kernel_rfl,fun a r h=>q04 (c:=q00 Tryz.f55) Tryz.func55 (by kernel_rfl) (by kernel_rfl) (Nat.le_of_ble_eq_true (by kernel_rfl)) hG.st (by kernel_rfl) (rs:=[.tmp 4,.tmp 5,.tmp 6]) (by kernel_rfl) (jqi n hG) (lts:=jjl n) (fun F hF hFG=>have hK:Know Inv F.G:=hFG ▸ hG;(q02 fun j L h1 h2 h3=>absurd h2 (Nat.not_lt.2 (Nat.le_trans (by decide +kernel) h1)))) jz7 ((jyj n a).symm.trans h)⟩,rfl⟩
def j68 (n:Nat):List LC:=[]
def qyl (n:Nat) (a1:Int):Option (Bool) :=
 some (!decide (a1=a1))
def qfv (n:Nat):FC:={ f:=184,args:=[.one (.c (.d (.int .i64)))],res:=.one (.c (.d .bool)),F:=fun p=>qyl n p }
def jbb (n:Nat):List FC:=[]
theorem jfe (n:Nat) {G:World->Prop} (hG:Know Inv G) : ∀c∈jbb n,q17 Tryz.prog G c/\q0b c.args=true:=(fun _ h=>by cases h)
def jb8:q0a:=[]
theorem jpn:drB jb8 (q00 Tryz.f184)=true:=by kernel_rfl
theorem jrb (n:Nat) : ∀a,(qfv n).F a=main Tryz.prog 6 (jbb n) (j68 n) jb8 (q00 Tryz.f184) [.tmp 2] (qfv n).args (qfv n).res a:=by intro a;kernel_rfl
theorem jq7 (n:Nat):q0d Inv Tryz.prog (qfv n):=fun G hG=>⟨⟨by kernel_rfl,fun a r h=>q04 (c:=q00 Tryz.f184) Tryz.func184 (by kernel_rfl) (by kernel_rfl) (Nat.le_of_ble_eq_true (by kernel_rfl)) hG.st (by kernel_rfl) (rs:=[.tmp 2]) (by kernel_rfl) (jfe n hG) (lts:=j68 n) (fun F hF hFG=>have hK:Know Inv F.G:=hFG ▸ hG;(q02 fun j L h1 h2 h3=>absurd h2 (Nat.not_lt.2 (Nat.le_trans (by decide +kernel) h1)))) jpn ((jrb n a).symm.trans h)⟩,rfl⟩
def qvn (n:Nat):List LC:=[]
def qak (n:Nat) (a1:Int) (a2:Int):Option (Int) :=
 (qyl n a1).bind fun r1=>(qyl n a2).bind fun r2=>(bif r1 then (bif r2 then some (0:Int) else some (-1:Int)) else (bif r2 then some (1:Int) else (bif decide (a1<a2) then some (-1:Int) else (bif decide (a2<a1) then some (1:Int) else some (0:Int)))))
def q8e (n:Nat):FC:={ f:=158,args:=[.one (.c (.d (.int .i64))),.one (.c (.d (.int .i64)))],res:=.one (.c (.d (.int .i64))),F:=fun p=>qak n p.1 p.2 }
def j42 (n:Nat):List FC:=[qfv n]
theorem j8t (n:Nat) {G:World->Prop} (hG:Know Inv G) : ∀c∈j42 n,q17 Tryz.prog G c/\q0b c.args=true:=List.forall_mem_cons.2 ⟨jq7 n G hG,(fun _ h=>by cases h)⟩
def j2k:q0a:=[]
theorem jlj:drB j2k (q00 Tryz.f158)=true:=by kernel_rfl
theorem jje (n:Nat) : ∀a,(q8e n).F a=main Tryz.prog 20 (j42 n) (qvn n) j2k (q00 Tryz.f158) [.tmp 4] (q8e n).args (q8e n).res a:=by intro a;kernel_rfl
theorem j2r (n:Nat):q0d Inv Tryz.prog (q8e n):=fun G hG=>⟨⟨by kernel_rfl,fun a r h=>q04 (c:=q00 Tryz.f158) Tryz.func158 (by kernel_rfl) (by kernel_rfl) (Nat.le_of_ble_eq_true (by kernel_rfl)) hG.st (by kernel_rfl) (rs:=[.tmp 4]) (by kernel_rfl) (j8t n hG) (lts:=qvn n) (fun F hF hFG=>have hK:Know Inv F.G:=hFG ▸ hG;(q02 fun j L h1 h2 h3=>absurd h2 (Nat.not_lt.2 (Nat.le_trans (by decide +kernel) h1)))) jlj ((jje n a).symm.trans h)⟩,rfl⟩
@[reducible] def qgm:SSt:=⟨[(3,.one (.c (.d (.int .i64)))),(6,.one (.c (.d (.lst (.int .i64))))),(7,.one (.c (.d (.int .i64)))),(8,.one (.c (.d (.int .i64))))],[],[]⟩
@[reducible] def q9v:List (Exit×SSt):=[(.ret,⟨[(2,.one (.c (.d (.int .i64))))],[],[]⟩),(.exit 0,⟨[(3,.one (.c (.d (.int .i64))))],[],[]⟩)]
def qy4 (n:Nat) (rec:Int->(List (Int))->Int->Int->Option (((Int×Unit)×Unit×Unit)⊕((Int×Unit)×Unit×Unit))) (a1:Int) (a2:List (Int)) (a3:Int) (a4:Int):Option (((Int×Unit)×Unit×Unit)⊕((Int×Unit)×Unit×Unit)) :=
 (bif decide (a4<a3) then (q1b a2 a4).bind fun x1=>(bif !decide (x1=a1) then some (Sum.inl ((x1,()),((),()))) else q08 (IntKind.wrap .i64 (a4+1)) fun n2=>rec a1 a2 a3 n2) else some (Sum.inr (((a1,()),((),())))))
def qx9 (n:Nat) (rec:pSt qgm->Option (q0e q9v)) (p:pSt qgm):Option (q0e q9v):=qy4 n (fun a1 a2 a3 a4=>rec ((a1,(a2,(a3,(a4,())))),((),()))) p.1.1 p.1.2.1 p.1.2.2.1 p.1.2.2.2.1
def qa9 (n m:Nat) (a1:Int) (a2:List (Int)) (a3:Int) (a4:Int):Option (((Int×Unit)×Unit×Unit)⊕((Int×Unit)×Unit×Unit)):=q0g (qx9 n) m ((a1,(a2,(a3,(a4,())))),((),()))
theorem qmk (n m:Nat) (a1 a2 a3 a4):qa9 n (m+1) a1 a2 a3 a4=qy4 n (fun a1 a2 a3 a4=>qa9 n m a1 a2 a3 a4) a1 a2 a3 a4:=rfl
def jc4 (n:Nat):LC:={ sh:=qgm,outs:=q9v,F:=q0g (qx9 n) n }
def qt1 (n:Nat):List LC:=[jc4 n]
def qoz (n:Nat) (a1:List (Int)):Option (Int) :=
 (qa9 n n (0:Int) a1 (a1.length:Int) (0:Int)).bind fun o3=>Sum.elim (fun (q4:(Int×Unit)×Unit×Unit)=>some q4.1.1) (fun (q5:(Int×Unit)×Unit×Unit)=>some q5.1.1) o3
def qcn (n:Nat):FC:={ f:=157,args:=[.one (.c (.d (.lst (.int .i64))))],res:=.one (.c (.d (.int .i64))),F:=fun p=>qoz n p }
def qz0 (n:Nat):List FC:=[]
theorem qut (n:Nat) {G:World->Prop} (hG:Know Inv G) : ∀c∈qz0 n,q17 Tryz.prog G c/\q0b c.args=true:=(fun _ h=>by cases h)
def qzk:q0a:=[]
theorem jao:drB qzk (q00 Tryz.f157)=true:=by kernel_rfl
theorem jjd (n:Nat) : ∀rec p,qx9 n rec p=round Tryz.prog 18 (qz0 n) (qt1 n) qzk 1 qgm q9v (q01 0 0 (q00 Tryz.f157)) rec p:=by intro rec p;kernel_rfl
theorem jf4 (n:Nat) {F:Fr} (hF:F.n=18) (hK:Know Inv F.G):q8a Tryz.prog F (jc4 n) (q01 0 0 (q00 Tryz.f157)) :=
 q0h hF (by kernel_rfl) (qut n hK) (jjd n) (fuel:=n) (fun _=>rfl) (q02 fun j L h1 h2 h3=>absurd h2 (Nat.not_lt.2 (Nat.le_trans (by decide +kernel) h1))) (q0w jao)
theorem jqs (n:Nat) : ∀a,(qcn n).F a=main Tryz.prog 18 (qz0 n) (qt1 n) qzk (q00 Tryz.f157) [.tmp 2] (qcn n).args (qcn n).res a:=by intro a;kernel_rfl
theorem jef (n:Nat):q0d Inv Tryz.prog (qcn n):=fun G hG=>⟨⟨by kernel_rfl,fun a r h=>q04 (c:=q00 Tryz.f157) Tryz.func157 (by kernel_rfl) (by kernel_rfl) (Nat.le_of_ble_eq_true (by kernel_rfl)) hG.st (by kernel_rfl) (rs:=[.tmp 2]) (by kernel_rfl) (qut n hG) (lts:=qt1 n) (fun F hF hFG=>have hK:Know Inv F.G:=hFG ▸ hG;(q02 (c:=(q00 Tryz.f157)) (fun j L h1 h2 h3=>by
  have h2':j<1:=Nat.lt_of_lt_of_le h2 (by decide +kernel)
  match j,h1,h2',h3 with
  | 0,_,_,h3=>obtain rfl:=Option.some.inj h3;exact (show q01 0 0 (q00 Tryz.f157)=q01 0 0 (q00 Tryz.f157) by kernel_rfl) ▸ jf4 n hF hK
  | j+1,_,h2',_=>exact absurd h2' (by omega)))) jao ((jqs n a).symm.trans h)⟩,rfl⟩
@[reducible] def qct:SSt:=⟨[(1,.one (.c (.box 1 0))),(11,.one (.agg [.d (.int .i64),.d (.int .i64),.d (.int .i64)])),(12,.one (.c (.d (.int .i64))))],[(1,(44,[.d (.int .i64),.d (.int .i64),.d (.int .i64),.d .str,.d .str]))],[]⟩
@[reducible] def q7w:List (Exit×SSt):=[(.ret,⟨[(2,.one (.c (.d .bool)))],[],[]⟩),(.exit 0,⟨[(1,.one (.c (.box 1 0)))],[(1,(44,[.d (.int .i64),.d (.int .i64),.d (.int .i64),.d .str,.d .str]))],[]⟩)]
def qha (n:Nat) (rec:Int->Int->Int->Int->Int->Int->Int->(List UInt8)->(List UInt8)->Option (((Bool×Unit)×Unit×Unit)⊕((Unit×Unit)×((Int×(Int×(Int×((List UInt8)×List UInt8))))×Unit)×Unit))) (a1:Int) (a2:Int) (a3:Int) (a4:Int) (a5:Int) (a6:Int) (a7:Int) (a8:List UInt8) (a9:List UInt8):Option (((Bool×Unit)×Unit×Unit)⊕((Unit×Unit)×((Int×(Int×(Int×((List UInt8)×List UInt8))))×Unit)×Unit)) :=
 (bif decide (a4<3) then (q1b ([a1,a2,a3]:List (Int)) a4).bind fun x1=>(bif decide (x1<0) then some (Sum.inl ((false,()),((),()))) else (bif decide (999999999<x1) then some (Sum.inl ((false,()),((),()))) else q08 (IntKind.wrap .i64 (a4+1)) fun n2=>rec a1 a2 a3 n2 a5 a6 a7 a8 a9)) else some (Sum.inr ((((),()),(((a5,(a6,(a7,(a8,a9)))),()),())))))
def qtn (n:Nat) (rec:pSt qct->Option (q0e q7w)) (p:pSt qct):Option (q0e q7w):=qha n (fun a1 a2 a3 a4 a5 a6 a7 a8 a9=>rec (((),((a1,(a2,a3)),(a4,()))),(((a5,(a6,(a7,(a8,a9)))),()),()))) p.1.2.1.1 p.1.2.1.2.1 p.1.2.1.2.2 p.1.2.2.1 p.2.1.1.1 p.2.1.1.2.1 p.2.1.1.2.2.1 p.2.1.1.2.2.2.1 p.2.1.1.2.2.2.2
def q4o (n m:Nat) (a1:Int) (a2:Int) (a3:Int) (a4:Int) (a5:Int) (a6:Int) (a7:Int) (a8:List UInt8) (a9:List UInt8):Option (((Bool×Unit)×Unit×Unit)⊕((Unit×Unit)×((Int×(Int×(Int×((List UInt8)×List UInt8))))×Unit)×Unit)):=q0g (qtn n) m (((),((a1,(a2,a3)),(a4,()))),(((a5,(a6,(a7,(a8,a9)))),()),()))
theorem q8v (n m:Nat) (a1 a2 a3 a4 a5 a6 a7 a8 a9):q4o n (m+1) a1 a2 a3 a4 a5 a6 a7 a8 a9=qha n (fun a1 a2 a3 a4 a5 a6 a7 a8 a9=>q4o n m a1 a2 a3 a4 a5 a6 a7 a8 a9) a1 a2 a3 a4 a5 a6 a7 a8 a9:=rfl
def j4e (n:Nat):LC:={ sh:=qct,outs:=q7w,F:=q0g (qtn n) n }
def qkw (n:Nat):List LC:=[j4e n]
def q7q (n:Nat) (a1:Int×(Int×(Int×((List UInt8)×List UInt8)))):Option (Bool) :=
 (q4o n n a1.1 a1.2.1 a1.2.2.1 (0:Int) a1.1 a1.2.1 a1.2.2.1 a1.2.2.2.1 a1.2.2.2.2).bind fun o3=>Sum.elim (fun (q4:(Bool×Unit)×Unit×Unit)=>some q4.1.1) (fun (q5:(Unit×Unit)×((Int×(Int×(Int×((List UInt8)×List UInt8))))×Unit)×Unit)=>(qsl q5.2.1.1.2.2.2.1 ()).bind fun (r6:Bool)=>(bif r6 then (qj6 q5.2.1.1.2.2.2.2 ()).bind fun (r7:Bool)=>some r7 else some false)) o3
def q4q (n:Nat):FC:={ f:=74,args:=[.one (.agg [.d (.int .i64),.d (.int .i64),.d (.int .i64),.d .str,.d .str])],res:=.one (.c (.d .bool)),F:=fun p=>q7q n p }
def qry (n:Nat):List FC:=[qwt,qsh]
theorem qpr (n:Nat) {G:World->Prop} (hG:Know Inv G) : ∀c∈qry n,q17 Tryz.prog G c/\q0b c.args=true:=List.forall_mem_cons.2 ⟨jew G hG,List.forall_mem_cons.2 ⟨j7p G hG,(fun _ h=>by cases h)⟩⟩
def qsz:q0a:=[]
theorem j2h:drB qsz (q00 Tryz.f74)=true:=by kernel_rfl
theorem jh5 (n:Nat) : ∀rec p,qtn n rec p=round Tryz.prog 30 (qry n) (qkw n) qsz 1 qct q7w (q01 0 0 (q00 Tryz.f74)) rec p:=by intro rec p;kernel_rfl
theorem j9z (n:Nat) {F:Fr} (hF:F.n=30) (hK:Know Inv F.G):q8a Tryz.prog F (j4e n) (q01 0 0 (q00 Tryz.f74)) :=
 q0h hF (by kernel_rfl) (qpr n hK) (jh5 n) (fuel:=n) (fun _=>rfl) (q02 fun j L h1 h2 h3=>absurd h2 (Nat.not_lt.2 (Nat.le_trans (by decide +kernel) h1))) (q0w j2h)
theorem jjs (n:Nat) : ∀a,(q4q n).F a=main Tryz.prog 30 (qry n) (qkw n) qsz (q00 Tryz.f74) [.tmp 2] (q4q n).args (q4q n).res a:=by intro a;kernel_rfl
theorem qi3 (n:Nat):q0d Inv Tryz.prog (q4q n):=fun G hG=>⟨⟨by kernel_rfl,fun a r h=>q04 (c:=q00 Tryz.f74) Tryz.func74 (by kernel_rfl) (by kernel_rfl) (Nat.le_of_ble_eq_true (by kernel_rfl)) hG.st (by kernel_rfl) (rs:=[.tmp 2]) (by kernel_rfl) (qpr n hG) (lts:=qkw n) (fun F hF hFG=>have hK:Know Inv F.G:=hFG ▸ hG;(q02 (c:=(q00 Tryz.f74)) (fun j L h1 h2 h3=>by
  have h2':j<1:=Nat.lt_of_lt_of_le h2 (by decide +kernel)
  match j,h1,h2',h3 with
  | 0,_,_,h3=>obtain rfl:=Option.some.inj h3;exact (show q01 0 0 (q00 Tryz.f74)=q01 0 0 (q00 Tryz.f74) by kernel_rfl) ▸ j9z n hF hK
  | j+1,_,h2',_=>exact absurd h2' (by omega)))) j2h ((jjs n a).symm.trans h)⟩,rfl⟩
def j0z (n:Nat):List LC:=[]
def q6w (n:Nat) (a1:Int×(Int×(Int×((List UInt8)×List UInt8)))):Option (List UInt8) :=
 (q7q n a1).bind fun r1=>(bif !r1 then some ([]:List UInt8) else (qpy a1.1).bind fun (r2:List UInt8)=>(qc4 ([118]:List UInt8) r2).bind fun s3=>(qc4 s3 ([46]:List UInt8)).bind fun s4=>(qpy a1.2.1).bind fun (r5:List UInt8)=>(qc4 s4 r5).bind fun s6=>(qc4 s6 ([46]:List UInt8)).bind fun s7=>(qpy a1.2.2.1).bind fun (r8:List UInt8)=>(qc4 s7 r8).bind fun s9=>(bif !decide (a1.2.2.2.1=([]:List UInt8)) then (qc4 ([45]:List UInt8) a1.2.2.2.1).bind fun s10=>(qc4 s9 s10).bind fun s11=>(bif !decide (a1.2.2.2.2=([]:List UInt8)) then (qc4 ([43]:List UInt8) a1.2.2.2.2).bind fun s12=>(qc4 s11 s12).bind fun s13=>some s13 else some s11) else (bif !decide (a1.2.2.2.2=([]:List UInt8)) then (qc4 ([43]:List UInt8) a1.2.2.2.2).bind fun s14=>(qc4 s9 s14).bind fun s15=>some s15 else some s9)))
def q9s (n:Nat):FC:={ f:=47,args:=[.one (.agg [.d (.int .i64),.d (.int .i64),.d (.int .i64),.d .str,.d .str])],res:=.one (.c (.d .str)),F:=fun p=>q6w n p }
def je6 (n:Nat):List FC:=[q4q n,jj3]
theorem jfa (n:Nat) {G:World->Prop} (hG:Know Inv G) : ∀c∈je6 n,q17 Tryz.prog G c/\q0b c.args=true:=List.forall_mem_cons.2 ⟨qi3 n G hG,List.forall_mem_cons.2 ⟨jv6 G hG,(fun _ h=>by cases h)⟩⟩
def jbz:q0a:=[(3,[⟨12582936,2^21,0⟩,⟨102760464,2^24,1⟩,⟨49*2^24,2^27,3⟩,⟨49*2^27,2^30,7⟩,⟨49*2^30,2^33,15⟩,⟨412316860440,2^36,0⟩,⟨3367254360080,2^39,32⟩,⟨49*2^39,2^42,103⟩,⟨25089*2^33,2^45,255⟩,⟨49*2^45,2^48,511⟩,⟨13510798882111512,2^51,0⟩,⟨110338190870577168,2^54,1024⟩,⟨49*2^54,2^57,3303⟩,⟨25089*2^48,2^60,8191⟩,⟨1152921504606850048,512,16383⟩]),(1000003,[])]
theorem jrn:drB jbz (q00 Tryz.f47)=true:=by kernel_rfl
theorem jr8 (n:Nat) : ∀a,(q9s n).F a=main Tryz.prog 38 (je6 n) (j0z n) jbz (q00 Tryz.f47) [.tmp 2] (q9s n).args (q9s n).res a:=by intro a;kernel_rfl
theorem qy8 (n:Nat):q0d Inv Tryz.prog (q9s n):=fun G hG=>⟨⟨by kernel_rfl,fun a r h=>q04 (c:=q00 Tryz.f47) Tryz.func47 (by kernel_rfl) (by kernel_rfl) (Nat.le_of_ble_eq_true (by kernel_rfl)) hG.st (by kernel_rfl) (rs:=[.tmp 2]) (by kernel_rfl) (jfa n hG) (lts:=j0z n) (fun F hF hFG=>have hK:Know Inv F.G:=hFG ▸ hG;(q02 fun j L h1 h2 h3=>absurd h2 (Nat.not_lt.2 (Nat.le_trans (by decide +kernel) h1)))) jrn ((jr8 n a).symm.trans h)⟩,rfl⟩
def qvq (n:Nat):List LC:=[]
def qcs (n:Nat) (a1:List UInt8):Option ((Int×(Int×(Int×((List UInt8)×List UInt8))))×(Bool)) :=
 (j1l n a1 ([43]:List UInt8)).bind fun r1=>(j1l n r1.1 ([45]:List UInt8)).bind fun r2=>(q71 n r2.1 ([118]:List UInt8)).bind fun r3=>(j1l n r3 ([46]:List UInt8)).bind fun r4=>(j1l n r4.2.1 ([46]:List UInt8)).bind fun r5=>(q5q r4.1).bind fun (r6:Int)=>(q5q r5.1).bind fun (r7:Int)=>(q5q r5.2.1).bind fun (r8:Int)=>(q7q n (r6,(r7,(r8,(r2.2.1,r1.2.1))))).bind fun r9=>(bif !r9 then some (((0:Int),((0:Int),((0:Int),(([]:List UInt8),([]:List UInt8))))),false) else (q6w n (r6,(r7,(r8,(r2.2.1,r1.2.1))))).bind fun r10=>(bif !decide (r10=a1) then some (((0:Int),((0:Int),((0:Int),(([]:List UInt8),([]:List UInt8))))),false) else some ((r6,(r7,(r8,(r2.2.1,r1.2.1)))),true)))
def q92 (n:Nat):FC:={ f:=120,args:=[.one (.c (.d .str))],res:=.tup [.agg [.d (.int .i64),.d (.int .i64),.d (.int .i64),.d .str,.d .str],.c (.d .bool)],F:=fun p=>qcs n p }
def j10 (n:Nat):List FC:=[qv4 n,q3q n,j49,q4q n,q9s n]
theorem j72 (n:Nat) {G:World->Prop} (hG:Know Inv G) : ∀c∈j10 n,q17 Tryz.prog G c/\q0b c.args=true:=List.forall_mem_cons.2 ⟨jt0 n G hG,List.forall_mem_cons.2 ⟨qi9 n G hG,List.forall_mem_cons.2 ⟨jjp G hG,List.forall_mem_cons.2 ⟨qi3 n G hG,List.forall_mem_cons.2 ⟨qy8 n G hG,(fun _ h=>by cases h)⟩⟩⟩⟩⟩
def j0v:q0a:=[]
theorem jlt:drB j0v (q00 Tryz.f120)=true:=by kernel_rfl
theorem jk0 (n:Nat) : ∀a,(q92 n).F a=main Tryz.prog 62 (j10 n) (qvq n) j0v (q00 Tryz.f120) [.cell 2 44,.tmp 3] (q92 n).args (q92 n).res a:=by intro a;kernel_rfl
theorem j2x (n:Nat):q0d Inv Tryz.prog (q92 n):=fun G hG=>⟨⟨by kernel_rfl,fun a r h=>q04 (c:=q00 Tryz.f120) Tryz.func120 (by kernel_rfl) (by kernel_rfl) (Nat.le_of_ble_eq_true (by kernel_rfl)) hG.st (by kernel_rfl) (rs:=[.cell 2 44,.tmp 3]) (by kernel_rfl) (j72 n hG) (lts:=qvq n) (fun F hF hFG=>have hK:Know Inv F.G:=hFG ▸ hG;(q02 fun j L h1 h2 h3=>absurd h2 (Nat.not_lt.2 (Nat.le_trans (by decide +kernel) h1)))) jlt ((jk0 n a).symm.trans h)⟩,rfl⟩
def j18 (n:Nat):List LC:=[]
def qyu (n:Nat) (a1:List UInt8) (a2:List UInt8):Option (Int) :=
 (q60 n a1).bind fun r1=>(q60 n a2).bind fun r2=>(bif r1 then (bif r2 then (qak n (a1.length:Int) (a2.length:Int)).bind fun r3=>(qhf a1 a2).bind fun (r4:Int)=>(qoz n ([r3,r4]:List (Int))).bind fun r5=>some r5 else (bif r1 then some (-1:Int) else (bif r2 then some (1:Int) else (qhf a1 a2).bind fun (r6:Int)=>some r6))) else (bif r1 then some (-1:Int) else (bif r2 then some (1:Int) else (qhf a1 a2).bind fun (r7:Int)=>some r7)))
def qhk (n:Nat):FC:={ f:=186,args:=[.one (.c (.d .str)),.one (.c (.d .str))],res:=.one (.c (.d (.int .i64))),F:=fun p=>qyu n p.1 p.2 }
def jcv (n:Nat):List FC:=[q45 n,q8e n,qx2,qcn n]
theorem jex (n:Nat) {G:World->Prop} (hG:Know Inv G) : ∀c∈jcv n,q17 Tryz.prog G c/\q0b c.args=true:=List.forall_mem_cons.2 ⟨qp6 n G hG,List.forall_mem_cons.2 ⟨j2r n G hG,List.forall_mem_cons.2 ⟨jfc G hG,List.forall_mem_cons.2 ⟨jef n G hG,(fun _ h=>by cases h)⟩⟩⟩⟩
def jde:q0a:=[]
theorem jrk:drB jde (q00 Tryz.f186)=true:=by kernel_rfl
theorem jqv (n:Nat) : ∀a,(qhk n).F a=main Tryz.prog 33 (jcv n) (j18 n) jde (q00 Tryz.f186) [.tmp 4] (qhk n).args (qhk n).res a:=by intro a;kernel_rfl
theorem jok (n:Nat):q0d Inv Tryz.prog (qhk n):=fun G hG=>⟨⟨by kernel_rfl,fun a r h=>q04 (c:=q00 Tryz.f186) Tryz.func186 (by kernel_rfl) (by kernel_rfl) (Nat.le_of_ble_eq_true (by kernel_rfl)) hG.st (by kernel_rfl) (rs:=[.tmp 4]) (by kernel_rfl) (jex n hG) (lts:=j18 n) (fun F hF hFG=>have hK:Know Inv F.G:=hFG ▸ hG;(q02 fun j L h1 h2 h3=>absurd h2 (Nat.not_lt.2 (Nat.le_trans (by decide +kernel) h1)))) jrk ((jqv n a).symm.trans h)⟩,rfl⟩
@[reducible] def qaa:SSt:=⟨[(0,.one (.c (.d (.lst .str)))),(1,.one (.c (.d (.lst .str)))),(2,.one (.c (.fn 186 []))),(11,.one (.c (.d (.lst .str)))),(12,.one (.c (.d (.int .i64)))),(13,.one (.c (.d (.int .i64))))],[],[]⟩
@[reducible] def q5e:List (Exit×SSt):=[(.ret,⟨[(6,.one (.c (.d (.int .i64))))],[],[]⟩),(.exit 0,⟨[(0,.one (.c (.d (.lst .str)))),(1,.one (.c (.d (.lst .str))))],[],[]⟩)]
def qks (n:Nat) (rec:(List (List UInt8))->(List (List UInt8))->(List (List UInt8))->Int->Int->Option (((Int×Unit)×Unit×Unit)⊕(((List (List UInt8))×((List (List UInt8))×Unit))×Unit×Unit))) (a1:List (List UInt8)) (a2:List (List UInt8)) (a3:List (List UInt8)) (a4:Int) (a5:Int):Option (((Int×Unit)×Unit×Unit)⊕(((List (List UInt8))×((List (List UInt8))×Unit))×Unit×Unit)) :=
 (bif decide (a5<a4) then (q1b a3 a5).bind fun x1=>(bif decide ((a2.length:Int)<=a5) then some (Sum.inl (((1:Int),()),((),()))) else (q1b a2 a5).bind fun x2=>(qyu n x1 x2).bind fun r3=>(bif !decide (r3=0) then some (Sum.inl ((r3,()),((),()))) else q08 (IntKind.wrap .i64 (a5+1)) fun n4=>rec a1 a2 a3 a4 n4)) else some (Sum.inr (((a1,(a2,())),((),())))))
def qk3 (n:Nat) (rec:pSt qaa->Option (q0e q5e)) (p:pSt qaa):Option (q0e q5e):=qks n (fun a1 a2 a3 a4 a5=>rec ((a1,(a2,((),(a3,(a4,(a5,())))))),((),()))) p.1.1 p.1.2.1 p.1.2.2.2.1 p.1.2.2.2.2.1 p.1.2.2.2.2.2.1
def q5l (n m:Nat) (a1:List (List UInt8)) (a2:List (List UInt8)) (a3:List (List UInt8)) (a4:Int) (a5:Int):Option (((Int×Unit)×Unit×Unit)⊕(((List (List UInt8))×((List (List UInt8))×Unit))×Unit×Unit)):=q0g (qk3 n) m ((a1,(a2,((),(a3,(a4,(a5,())))))),((),()))
theorem qhj (n m:Nat) (a1 a2 a3 a4 a5):q5l n (m+1) a1 a2 a3 a4 a5=qks n (fun a1 a2 a3 a4 a5=>q5l n m a1 a2 a3 a4 a5) a1 a2 a3 a4 a5:=rfl
def qwd (n:Nat):LC:={ sh:=qaa,outs:=q5e,F:=q0g (qk3 n) n }
def qew (n:Nat):List LC:=[qwd n]
def qql (n:Nat) (a1:List (List UInt8)) (a2:List (List UInt8)) (a3:Unit):Option (Int) :=
 (q5l n n a1 a2 a1 (a1.length:Int) (0:Int)).bind fun o5=>Sum.elim (fun (q6:(Int×Unit)×Unit×Unit)=>some q6.1.1) (fun (q7:((List (List UInt8))×((List (List UInt8))×Unit))×Unit×Unit)=>(bif decide ((q7.1.1.length:Int)<(q7.1.2.1.length:Int)) then some (-1:Int) else some (0:Int))) o5
def q8m (n:Nat):FC:={ f:=185,args:=[.one (.c (.d (.lst .str))),.one (.c (.d (.lst .str))),.one (.c (.fn 186 []))],res:=.one (.c (.d (.int .i64))),F:=fun p=>qql n p.1 p.2.1 p.2.2 }
def qjb (n:Nat):List FC:=[qhk n]
theorem qlz (n:Nat) {G:World->Prop} (hG:Know Inv G) : ∀c∈qjb n,q17 Tryz.prog G c/\q0b c.args=true:=List.forall_mem_cons.2 ⟨jok n G hG,(fun _ h=>by cases h)⟩
def qk5:q0a:=[]
theorem qwu:drB qk5 (q00 Tryz.f185)=true:=by kernel_rfl
theorem j82 (n:Nat) : ∀rec p,qk3 n rec p=round Tryz.prog 39 (qjb n) (qew n) qk5 1 qaa q5e (q01 0 0 (q00 Tryz.f185)) rec p:=by intro rec p;kernel_rfl
theorem j3w (n:Nat) {F:Fr} (hF:F.n=39) (hK:Know Inv F.G):q8a Tryz.prog F (qwd n) (q01 0 0 (q00 Tryz.f185)) :=
 q0h hF (by kernel_rfl) (qlz n hK) (j82 n) (fuel:=n) (fun _=>rfl) (q02 fun j L h1 h2 h3=>absurd h2 (Nat.not_lt.2 (Nat.le_trans (by decide +kernel) h1))) (q0w qwu)
theorem jgb (n:Nat) : ∀a,(q8m n).F a=main Tryz.prog 39 (qjb n) (qew n) qk5 (q00 Tryz.f185) [.tmp 6] (q8m n).args (q8m n).res a:=by intro a;kernel_rfl
theorem jfy (n:Nat):q0d Inv Tryz.prog (q8m n):=fun G hG=>⟨⟨by kernel_rfl,fun a r h=>q04 (c:=q00 Tryz.f185) Tryz.func185 (by kernel_rfl) (by kernel_rfl) (Nat.le_of_ble_eq_true (by kernel_rfl)) hG.st (by kernel_rfl) (rs:=[.tmp 6]) (by kernel_rfl) (qlz n hG) (lts:=qew n) (fun F hF hFG=>have hK:Know Inv F.G:=hFG ▸ hG;(q02 (c:=(q00 Tryz.f185)) (fun j L h1 h2 h3=>by
  have h2':j<1:=Nat.lt_of_lt_of_le h2 (by decide +kernel)
  match j,h1,h2',h3 with
  | 0,_,_,h3=>obtain rfl:=Option.some.inj h3;exact (show q01 0 0 (q00 Tryz.f185)=q01 0 0 (q00 Tryz.f185) by kernel_rfl) ▸ j3w n hF hK
  | j+1,_,h2',_=>exact absurd h2' (by omega)))) qwu ((jgb n a).symm.trans h)⟩,rfl⟩
def je2 (n:Nat):List LC:=[]
def jca (n:Nat) (a1:List UInt8) (a2:List UInt8):Option (Int) :=
 (bif decide (a1=a2) then some (0:Int) else (bif decide (a1=([]:List UInt8)) then some (1:Int) else (bif decide (a2=([]:List UInt8)) then some (-1:Int) else (qa6 a1 ([46]:List UInt8)).bind fun (r1:List (List UInt8))=>(qa6 a2 ([46]:List UInt8)).bind fun (r2:List (List UInt8))=>(qql n r1 r2 ()).bind fun r3=>some r3)))
def qqh (n:Nat):FC:={ f:=159,args:=[.one (.c (.d .str)),.one (.c (.d .str))],res:=.one (.c (.d (.int .i64))),F:=fun p=>jca n p.1 p.2 }
def jl5 (n:Nat):List FC:=[qzx,q8m n]
theorem jjo (n:Nat) {G:World->Prop} (hG:Know Inv G) : ∀c∈jl5 n,q17 Tryz.prog G c/\q0b c.args=true:=List.forall_mem_cons.2 ⟨jbd G hG,List.forall_mem_cons.2 ⟨jfy n G hG,(fun _ h=>by cases h)⟩⟩
def jkx:q0a:=[]
theorem jue:drB jkx (q00 Tryz.f159)=true:=by kernel_rfl
theorem jvw (n:Nat) : ∀a,(qqh n).F a=main Tryz.prog 20 (jl5 n) (je2 n) jkx (q00 Tryz.f159) [.tmp 4] (qqh n).args (qqh n).res a:=by intro a;kernel_rfl
theorem jvc (n:Nat):q0d Inv Tryz.prog (qqh n):=fun G hG=>⟨⟨by kernel_rfl,fun a r h=>q04 (c:=q00 Tryz.f159) Tryz.func159 (by kernel_rfl) (by kernel_rfl) (Nat.le_of_ble_eq_true (by kernel_rfl)) hG.st (by kernel_rfl) (rs:=[.tmp 4]) (by kernel_rfl) (jjo n hG) (lts:=je2 n) (fun F hF hFG=>have hK:Know Inv F.G:=hFG ▸ hG;(q02 fun j L h1 h2 h3=>absurd h2 (Nat.not_lt.2 (Nat.le_trans (by decide +kernel) h1)))) jue ((jvw n a).symm.trans h)⟩,rfl⟩
def ql0 (n:Nat):List LC:=[]
def qdn (n:Nat) (a1:Int×(Int×(Int×((List UInt8)×List UInt8)))) (a2:Int×(Int×(Int×((List UInt8)×List UInt8)))):Option (Int) :=
 (q7q n a1).bind fun r1=>(bif !r1 then some (0:Int) else (q7q n a2).bind fun r2=>(bif !r2 then some (0:Int) else (qak n a1.1 a2.1).bind fun r3=>(qak n a1.2.1 a2.2.1).bind fun r4=>(qak n a1.2.2.1 a2.2.2.1).bind fun r5=>(jca n a1.2.2.2.1 a2.2.2.2.1).bind fun r6=>(qoz n ([r3,r4,r5,r6]:List (Int))).bind fun r7=>some r7))
def q6o (n:Nat):FC:={ f:=121,args:=[.one (.agg [.d (.int .i64),.d (.int .i64),.d (.int .i64),.d .str,.d .str]),.one (.agg [.d (.int .i64),.d (.int .i64),.d (.int .i64),.d .str,.d .str])],res:=.one (.c (.d (.int .i64))),F:=fun p=>qdn n p.1 p.2 }
def qp5 (n:Nat):List FC:=[q4q n,q8e n,qqh n,qcn n]
theorem qxz (n:Nat) {G:World->Prop} (hG:Know Inv G) : ∀c∈qp5 n,q17 Tryz.prog G c/\q0b c.args=true:=List.forall_mem_cons.2 ⟨qi3 n G hG,List.forall_mem_cons.2 ⟨j2r n G hG,List.forall_mem_cons.2 ⟨jvc n G hG,List.forall_mem_cons.2 ⟨jef n G hG,(fun _ h=>by cases h)⟩⟩⟩⟩
def qpp:q0a:=[(3,[⟨3298534883520,2^39,0⟩,⟨26938034880640,2^42,1⟩,⟨211106232534528,2^45,0⟩,⟨1724034232353792,2^48,4⟩,⟨3137*2^42,2^51,15⟩,⟨108086391056892096,2^54,0⟩,⟨882705526964617344,2^57,32⟩,⟨6917529027641083392,2^60,0⟩,⟨56493153725735502848,2^63,128⟩,⟨3137*2^57,2^66,511⟩,⟨3541774862152233910464,2^69,0⟩,⟨28924494707576576934016,2^72,1024⟩,⟨226673591177742970258944,2^75,0⟩,⟨1851167661284900923769856,2^78,4096⟩,⟨3137*2^72,2^81,16383⟩,⟨116056878683004400771793088,2^84,0⟩,⟨947797842577869272969642112,2^87,32768⟩,⟨7427640235712281649394746880,2^90,0⟩,⟨60659061924983633470057088000,2^93,2^17⟩,⟨3137*2^87,2^96,524287⟩,⟨1724035306127361*2^51,5*2^99,1048575⟩,⟨53*2^99,2^102,2097151⟩,⟨5070602400912917605986812846080,4096,4194303⟩])]
theorem j8d:drB qpp (q00 Tryz.f121)=true:=by kernel_rfl
theorem j98 (n:Nat) : ∀a,(q6o n).F a=main Tryz.prog 35 (qp5 n) (ql0 n) qpp (q00 Tryz.f121) [.tmp 4] (q6o n).args (q6o n).res a:=by intro a;kernel_rfl
theorem j71 (n:Nat):q0d Inv Tryz.prog (q6o n):=fun G hG=>⟨⟨by kernel_rfl,fun a r h=>q04 (c:=q00 Tryz.f121) Tryz.func121 (by kernel_rfl) (by kernel_rfl) (Nat.le_of_ble_eq_true (by kernel_rfl)) hG.st (by kernel_rfl) (rs:=[.tmp 4]) (by kernel_rfl) (qxz n hG) (lts:=ql0 n) (fun F hF hFG=>have hK:Know Inv F.G:=hFG ▸ hG;(q02 fun j L h1 h2 h3=>absurd h2 (Nat.not_lt.2 (Nat.le_trans (by decide +kernel) h1)))) j8d ((j98 n a).symm.trans h)⟩,rfl⟩
@[reducible] def q1y:SSt:=⟨[(0,.one (.c (.d .str))),(1,.one (.c (.d (.int .u8)))),(5,.one (.c (.row 31))),(6,.one (.c (.d (.int .i64)))),(7,.one (.c (.d (.int .i64))))],[],[(31,⟨9,true,.str⟩)]⟩
@[reducible] def q1e:List (Exit×SSt):=[(.exit 0,⟨[(5,.one (.c (.row 31)))],[],[(31,⟨9,true,.str⟩)]⟩)]
def q2s (n:Nat) (rec:(List UInt8)->Int->Int->Int->(List (List UInt8))->Option ((Unit×Unit)×Unit×((List (List UInt8))×Unit))) (a1:List UInt8) (a2:Int) (a3:Int) (a4:Int) (a5:List (List UInt8)):Option ((Unit×Unit)×Unit×((List (List UInt8))×Unit)) :=
 (bif decide (a4<=(a1.length:Int)) then (bif decide (a4=(a1.length:Int)) then (q2i a1 a3 a4).bind fun s1=>(q3e 16 a5 ([s1]:List (List UInt8))).bind fun l2=>q08 (IntKind.wrap .i64 (a4+1)) fun n3=>q08 (IntKind.wrap .i64 (a4+1)) fun n4=>rec a1 a2 n3 n4 l2 else (sAt a1 a4).bind fun c5=>(bif decide (c5=a2) then (q2i a1 a3 a4).bind fun s6=>(q3e 16 a5 ([s6]:List (List UInt8))).bind fun l7=>q08 (IntKind.wrap .i64 (a4+1)) fun n8=>q08 (IntKind.wrap .i64 (a4+1)) fun n9=>rec a1 a2 n8 n9 l7 else q08 (IntKind.wrap .i64 (a4+1)) fun n10=>rec a1 a2 a3 n10 a5)) else some ((((),()),((),(a5,())))))
def q4a (n:Nat) (rec:pSt q1y->Option (q0e q1e)) (p:pSt q1y):Option (q0e q1e):=q2s n (fun a1 a2 a3 a4 a5=>rec ((a1,(a2,((),(a3,(a4,()))))),((),(a5,())))) p.1.1 p.1.2.1 p.1.2.2.2.1 p.1.2.2.2.2.1 p.2.2.1
def q1d (n m:Nat) (a1:List UInt8) (a2:Int) (a3:Int) (a4:Int) (a5:List (List UInt8)):Option ((Unit×Unit)×Unit×((List (List UInt8))×Unit)):=q0g (q4a n) m ((a1,(a2,((),(a3,(a4,()))))),((),(a5,())))
theorem q1p (n m:Nat) (a1 a2 a3 a4 a5):q1d n (m+1) a1 a2 a3 a4 a5=q2s n (fun a1 a2 a3 a4 a5=>q1d n m a1 a2 a3 a4 a5) a1 a2 a3 a4 a5:=rfl
def q8w (n:Nat):LC:={ sh:=q1y,outs:=q1e,F:=q0g (q4a n) n }
def q3g (n:Nat):List LC:=[q8w n]
def q3s (n:Nat) (a1:List UInt8) (a2:Int):Option (List (List UInt8)) :=
 (q1d n n a1 a2 (0:Int) (0:Int) []).bind fun o11=>some o11.2.2.1
def q2d (n:Nat):FC:={ f:=41,args:=[.one (.c (.d .str)),.one (.c (.d (.int .u8)))],res:=.one (.c (.d (.lst .str))),F:=fun p=>q3s n p.1 p.2 }
def q48 (n:Nat):List FC:=[]
theorem q50 (n:Nat) {G:World->Prop} (hG:Know Inv G) : ∀c∈q48 n,q17 Tryz.prog G c/\q0b c.args=true:=(fun _ h=>by cases h)
def q49:q0a:=[]
theorem q8r:drB q49 (q00 Tryz.f41)=true:=by kernel_rfl
theorem qei (n:Nat) : ∀rec p,q4a n rec p=round Tryz.prog 35 (q48 n) (q3g n) q49 1 q1y q1e (q01 0 0 (q00 Tryz.f41)) rec p:=by intro rec p;kernel_rfl
theorem qbq (n:Nat) {F:Fr} (hF:F.n=35) (hK:Know Inv F.G):q8a Tryz.prog F (q8w n) (q01 0 0 (q00 Tryz.f41)) :=
 q0h hF (by kernel_rfl) (q50 n hK) (qei n) (fuel:=n) (fun _=>rfl) (q02 fun j L h1 h2 h3=>absurd h2 (Nat.not_lt.2 (Nat.le_trans (by decide +kernel) h1))) (q0w q8r)
theorem qjc (n:Nat) : ∀a,(q2d n).F a=main Tryz.prog 35 (q48 n) (q3g n) q49 (q00 Tryz.f41) [.tmp 4] (q2d n).args (q2d n).res a:=by intro a;kernel_rfl
theorem qvj (n:Nat):q0d Inv Tryz.prog (q2d n):=fun G hG=>⟨⟨by kernel_rfl,fun a r h=>q04 (c:=q00 Tryz.f41) Tryz.func41 (by kernel_rfl) (by kernel_rfl) (Nat.le_of_ble_eq_true (by kernel_rfl)) hG.st (by kernel_rfl) (rs:=[.tmp 4]) (by kernel_rfl) (q50 n hG) (lts:=q3g n) (fun F hF hFG=>have hK:Know Inv F.G:=hFG ▸ hG;(q02 (c:=(q00 Tryz.f41)) (fun j L h1 h2 h3=>by
  have h2':j<1:=Nat.lt_of_lt_of_le h2 (by decide +kernel)
  match j,h1,h2',h3 with
  | 0,_,_,h3=>obtain rfl:=Option.some.inj h3;exact (show q01 0 0 (q00 Tryz.f41)=q01 0 0 (q00 Tryz.f41) by kernel_rfl) ▸ qbq n hF hK
  | j+1,_,h2',_=>exact absurd h2' (by omega)))) q8r ((qjc n a).symm.trans h)⟩,rfl⟩
@[reducible] def q9u:SSt:=⟨[(0,.one (.c (.d .str))),(3,.one (.c (.d (.int .i64))))],[],[]⟩
@[reducible] def q59:List (Exit×SSt):=[(.ret,⟨[(2,.one (.c (.d .bool)))],[],[]⟩),(.exit 0,⟨[(0,.one (.c (.d .str)))],[],[]⟩)]
def qje (n:Nat) (rec:(List UInt8)->Int->Option (((Bool×Unit)×Unit×Unit)⊕(((List UInt8)×Unit)×Unit×Unit))) (a1:List UInt8) (a2:Int):Option (((Bool×Unit)×Unit×Unit)⊕(((List UInt8)×Unit)×Unit×Unit)) :=
 (bif decide (a2<(a1.length:Int)) then (sAt a1 a2).bind fun c1=>(bif decide (c1<48) then some (Sum.inl ((false,()),((),()))) else (sAt a1 a2).bind fun c2=>(bif decide (57<c2) then some (Sum.inl ((false,()),((),()))) else q08 (IntKind.wrap .i64 (a2+1)) fun n3=>rec a1 n3)) else some (Sum.inr (((a1,()),((),())))))
def qjd (n:Nat) (rec:pSt q9u->Option (q0e q59)) (p:pSt q9u):Option (q0e q59):=qje n (fun a1 a2=>rec ((a1,(a2,())),((),()))) p.1.1 p.1.2.1
def q5g (n m:Nat) (a1:List UInt8) (a2:Int):Option (((Bool×Unit)×Unit×Unit)⊕(((List UInt8)×Unit)×Unit×Unit)):=q0g (qjd n) m ((a1,(a2,())),((),()))
theorem qgl (n m:Nat) (a1 a2):q5g n (m+1) a1 a2=qje n (fun a1 a2=>q5g n m a1 a2) a1 a2:=rfl
def qvx (n:Nat):LC:={ sh:=q9u,outs:=q59,F:=q0g (qjd n) n }
def qf3 (n:Nat):List LC:=[qvx n]
def qid (n:Nat) (a1:List UInt8):Option (Bool) :=
 (q5g n n a1 (0:Int)).bind fun o4=>Sum.elim (fun (q5:(Bool×Unit)×Unit×Unit)=>some q5.1.1) (fun (q6:((List UInt8)×Unit)×Unit×Unit)=>some (!decide (q6.1.1=([]:List UInt8)))) o4
def q8n (n:Nat):FC:={ f:=102,args:=[.one (.c (.d .str))],res:=.one (.c (.d .bool)),F:=fun p=>qid n p }
def qkp (n:Nat):List FC:=[]
theorem qkx (n:Nat) {G:World->Prop} (hG:Know Inv G) : ∀c∈qkp n,q17 Tryz.prog G c/\q0b c.args=true:=(fun _ h=>by cases h)
def qjm:q0a:=[]
theorem qv8:drB qjm (q00 Tryz.f102)=true:=by kernel_rfl
theorem j9b (n:Nat) : ∀rec p,qjd n rec p=round Tryz.prog 22 (qkp n) (qf3 n) qjm 1 q9u q59 (q01 0 0 (q00 Tryz.f102)) rec p:=by intro rec p;kernel_rfl
theorem j2g (n:Nat) {F:Fr} (hF:F.n=22) (hK:Know Inv F.G):q8a Tryz.prog F (qvx n) (q01 0 0 (q00 Tryz.f102)) :=
 q0h hF (by kernel_rfl) (qkx n hK) (j9b n) (fuel:=n) (fun _=>rfl) (q02 fun j L h1 h2 h3=>absurd h2 (Nat.not_lt.2 (Nat.le_trans (by decide +kernel) h1))) (q0w qv8)
theorem jes (n:Nat) : ∀a,(q8n n).F a=main Tryz.prog 22 (qkp n) (qf3 n) qjm (q00 Tryz.f102) [.tmp 2] (q8n n).args (q8n n).res a:=by intro a;kernel_rfl
theorem jgz (n:Nat):q0d Inv Tryz.prog (q8n n):=fun G hG=>⟨⟨by kernel_rfl,fun a r h=>q04 (c:=q00 Tryz.f102) Tryz.func102 (by kernel_rfl) (by kernel_rfl) (Nat.le_of_ble_eq_true (by kernel_rfl)) hG.st (by kernel_rfl) (rs:=[.tmp 2]) (by kernel_rfl) (qkx n hG) (lts:=qf3 n) (fun F hF hFG=>have hK:Know Inv F.G:=hFG ▸ hG;(q02 (c:=(q00 Tryz.f102)) (fun j L h1 h2 h3=>by
  have h2':j<1:=Nat.lt_of_lt_of_le h2 (by decide +kernel)
  match j,h1,h2',h3 with
  | 0,_,_,h3=>obtain rfl:=Option.some.inj h3;exact (show q01 0 0 (q00 Tryz.f102)=q01 0 0 (q00 Tryz.f102) by kernel_rfl) ▸ j2g n hF hK
  | j+1,_,h2',_=>exact absurd h2' (by omega)))) qv8 ((jes n a).symm.trans h)⟩,rfl⟩
@[reducible] def qab:SSt:=⟨[(1,.one (.c (.d .bool))),(5,.one (.c (.d (.lst .str)))),(6,.one (.c (.d (.int .i64)))),(7,.one (.c (.d (.int .i64))))],[],[]⟩
@[reducible] def q5m:List (Exit×SSt):=[(.ret,⟨[(4,.one (.c (.d .bool)))],[],[]⟩),(.exit 2,⟨[(1,.one (.c (.d .bool))),(5,.one (.c (.d (.lst .str)))),(6,.one (.c (.d (.int .i64))))],[],[]⟩)]
def qj9 (n:Nat) (rec:Bool->(List (List UInt8))->Int->Int->Option (((Bool×Unit)×Unit×Unit)⊕((Bool×((List (List UInt8))×(Int×Unit)))×Unit×Unit))) (a1:Bool) (a2:List (List UInt8)) (a3:Int) (a4:Int):Option (((Bool×Unit)×Unit×Unit)⊕((Bool×((List (List UInt8))×(Int×Unit)))×Unit×Unit)) :=
 (q1b a2 a3).bind fun x2=>(bif decide (a4<(x2.length:Int)) then (q1b a2 a3).bind fun x3=>(sAt x3 a4).bind fun c4=>(bif decide ((97:Int)<=c4) then (bif !(decide (c4<=(122:Int))) then (bif decide ((65:Int)<=c4) then (bif !(decide (c4<=(90:Int))) then (bif decide ((48:Int)<=c4) then (bif !(decide (c4<=(57:Int))) then (bif !decide (c4=(45:Int)) then some (Sum.inl ((false,()),((),()))) else q08 (IntKind.wrap .i64 (a4+(1:Int))) fun n5=>rec a1 a2 a3 n5) else q08 (IntKind.wrap .i64 (a4+(1:Int))) fun n6=>rec a1 a2 a3 n6) else (bif !decide (c4=(45:Int)) then some (Sum.inl ((false,()),((),()))) else q08 (IntKind.wrap .i64 (a4+(1:Int))) fun n7=>rec a1 a2 a3 n7)) else q08 (IntKind.wrap .i64 (a4+(1:Int))) fun n8=>rec a1 a2 a3 n8) else (bif decide ((48:Int)<=c4) then (bif !(decide (c4<=(57:Int))) then (bif !decide (c4=(45:Int)) then some (Sum.inl ((false,()),((),()))) else q08 (IntKind.wrap .i64 (a4+(1:Int))) fun n9=>rec a1 a2 a3 n9) else q08 (IntKind.wrap .i64 (a4+(1:Int))) fun n10=>rec a1 a2 a3 n10) else (bif !decide (c4=(45:Int)) then some (Sum.inl ((false,()),((),()))) else q08 (IntKind.wrap .i64 (a4+(1:Int))) fun n11=>rec a1 a2 a3 n11))) else q08 (IntKind.wrap .i64 (a4+(1:Int))) fun n12=>rec a1 a2 a3 n12) else (bif decide ((65:Int)<=c4) then (bif !(decide (c4<=(90:Int))) then (bif decide ((48:Int)<=c4) then (bif !(decide (c4<=(57:Int))) then (bif !decide (c4=(45:Int)) then some (Sum.inl ((false,()),((),()))) else q08 (IntKind.wrap .i64 (a4+(1:Int))) fun n13=>rec a1 a2 a3 n13) else q08 (IntKind.wrap .i64 (a4+(1:Int))) fun n14=>rec a1 a2 a3 n14) else (bif !decide (c4=(45:Int)) then some (Sum.inl ((false,()),((),()))) else q08 (IntKind.wrap .i64 (a4+(1:Int))) fun n15=>rec a1 a2 a3 n15)) else q08 (IntKind.wrap .i64 (a4+(1:Int))) fun n16=>rec a1 a2 a3 n16) else (bif decide ((48:Int)<=c4) then (bif !(decide (c4<=(57:Int))) then (bif !decide (c4=(45:Int)) then some (Sum.inl ((false,()),((),()))) else q08 (IntKind.wrap .i64 (a4+(1:Int))) fun n17=>rec a1 a2 a3 n17) else q08 (IntKind.wrap .i64 (a4+(1:Int))) fun n18=>rec a1 a2 a3 n18) else (bif !decide (c4=(45:Int)) then some (Sum.inl ((false,()),((),()))) else q08 (IntKind.wrap .i64 (a4+(1:Int))) fun n19=>rec a1 a2 a3 n19)))) else some (Sum.inr (((a1,(a2,(a3,()))),((),())))))
def qkr (n:Nat) (rec:pSt qab->Option (q0e q5m)) (p:pSt qab):Option (q0e q5m):=qj9 n (fun a1 a2 a3 a4=>rec ((a1,(a2,(a3,(a4,())))),((),()))) p.1.1 p.1.2.1 p.1.2.2.1 p.1.2.2.2.1
def q5v (n m:Nat) (a1:Bool) (a2:List (List UInt8)) (a3:Int) (a4:Int):Option (((Bool×Unit)×Unit×Unit)⊕((Bool×((List (List UInt8))×(Int×Unit)))×Unit×Unit)):=q0g (qkr n) m ((a1,(a2,(a3,(a4,())))),((),()))
theorem qhq (n m:Nat) (a1 a2 a3 a4):q5v n (m+1) a1 a2 a3 a4=qj9 n (fun a1 a2 a3 a4=>q5v n m a1 a2 a3 a4) a1 a2 a3 a4:=rfl
def qwg (n:Nat):LC:={ sh:=qab,outs:=q5m,F:=q0g (qkr n) n }
@[reducible] def qai:SSt:=⟨[(1,.one (.c (.d .bool))),(5,.one (.c (.d (.lst .str)))),(6,.one (.c (.d (.int .i64))))],[],[]⟩
@[reducible] def q5c:List (Exit×SSt):=[(.ret,⟨[(4,.one (.c (.d .bool)))],[],[]⟩),(.exit 0,⟨[],[],[]⟩)]
def qj2 (n:Nat) (rec:Bool->(List (List UInt8))->Int->Option (((Bool×Unit)×Unit×Unit)⊕(Unit×Unit×Unit))) (a1:Bool) (a2:List (List UInt8)) (a3:Int):Option (((Bool×Unit)×Unit×Unit)⊕(Unit×Unit×Unit)) :=
 (bif decide (a3<(a2.length:Int)) then (q5v n n a1 a2 a3 (0:Int)).bind fun o20=>Sum.elim (fun (q21:(Bool×Unit)×Unit×Unit)=>some (Sum.inl ((q21.1.1,()),((),())))) (fun (q22:(Bool×((List (List UInt8))×(Int×Unit)))×Unit×Unit)=>(q1b q22.1.2.1 q22.1.2.2.1).bind fun x23=>(bif decide (x23=([]:List UInt8)) then some (Sum.inl ((false,()),((),()))) else (bif !q22.1.1 then (q1b q22.1.2.1 q22.1.2.2.1).bind fun x24=>(qid n x24).bind fun r25=>(bif r25 then (q1b q22.1.2.1 q22.1.2.2.1).bind fun x26=>(bif decide (1<(x26.length:Int)) then (q1b q22.1.2.1 q22.1.2.2.1).bind fun x27=>(sAt x27 (0:Int)).bind fun c28=>(bif decide (c28=48) then some (Sum.inl ((false,()),((),()))) else q08 (IntKind.wrap .i64 (q22.1.2.2.1+1)) fun n29=>rec q22.1.1 q22.1.2.1 n29) else q08 (IntKind.wrap .i64 (q22.1.2.2.1+1)) fun n30=>rec q22.1.1 q22.1.2.1 n30) else q08 (IntKind.wrap .i64 (q22.1.2.2.1+1)) fun n31=>rec q22.1.1 q22.1.2.1 n31) else q08 (IntKind.wrap .i64 (q22.1.2.2.1+1)) fun n32=>rec q22.1.1 q22.1.2.1 n32))) o20 else some (Sum.inr (((),((),())))))
def qkn (n:Nat) (rec:pSt qai->Option (q0e q5c)) (p:pSt qai):Option (q0e q5c):=qj2 n (fun a1 a2 a3=>rec ((a1,(a2,(a3,()))),((),()))) p.1.1 p.1.2.1 p.1.2.2.1
def q5f (n m:Nat) (a1:Bool) (a2:List (List UInt8)) (a3:Int):Option (((Bool×Unit)×Unit×Unit)⊕(Unit×Unit×Unit)):=q0g (qkn n) m ((a1,(a2,(a3,()))),((),()))
theorem qhn (n m:Nat) (a1 a2 a3):q5f n (m+1) a1 a2 a3=qj2 n (fun a1 a2 a3=>q5f n m a1 a2 a3) a1 a2 a3:=rfl
def qx8 (n:Nat):LC:={ sh:=qai,outs:=q5c,F:=q0g (qkn n) n }
def qa4 (n:Nat):List LC:=[qx8 n,qwg n]
def q8t (n:Nat) (a1:List UInt8) (a2:Bool):Option (Bool) :=
 (q3s n a1 (46:Int)).bind fun r1=>(q5f n n a2 r1 (0:Int)).bind fun o33=>Sum.elim (fun (q34:(Bool×Unit)×Unit×Unit)=>some q34.1.1) (fun (q35:(Unit)×Unit×Unit)=>some true) o33
def q8b (n:Nat):FC:={ f:=68,args:=[.one (.c (.d .str)),.one (.c (.d .bool))],res:=.one (.c (.d .bool)),F:=fun p=>q8t n p.1 p.2 }
def qdl (n:Nat):List FC:=[q2d n,q8n n]
theorem qb4 (n:Nat) {G:World->Prop} (hG:Know Inv G) : ∀c∈qdl n,q17 Tryz.prog G c/\q0b c.args=true:=List.forall_mem_cons.2 ⟨qvj n G hG,List.forall_mem_cons.2 ⟨jgz n G hG,(fun _ h=>by cases h)⟩⟩
def qch:q0a:=[]
theorem qjg:drB qch (q00 Tryz.f68)=true:=by kernel_rfl
theorem j81 (n:Nat) : ∀rec p,qkr n rec p=round Tryz.prog 93 (qdl n) (qa4 n) qch 2 qab q5m (q01 0 1 (q00 Tryz.f68)) rec p:=by intro rec p;kernel_rfl
theorem j8b (n:Nat) : ∀rec p,qkn n rec p=round Tryz.prog 93 (qdl n) (qa4 n) qch 1 qai q5c (q01 0 0 (q00 Tryz.f68)) rec p:=by intro rec p;kernel_rfl
theorem qm1 (n:Nat) {F:Fr} (hF:F.n=93) (hK:Know Inv F.G):q8a Tryz.prog F (qwg n) (q01 0 1 (q00 Tryz.f68)) :=
 q0h hF (by kernel_rfl) (qb4 n hK) (j81 n) (fuel:=n) (fun _=>rfl) (q02 fun j L h1 h2 h3=>absurd h2 (Nat.not_lt.2 (Nat.le_trans (by decide +kernel) h1))) (q0w qjg)
theorem j0o (n:Nat) {F:Fr} (hF:F.n=93) (hK:Know Inv F.G):q8a Tryz.prog F (qx8 n) (q01 0 0 (q00 Tryz.f68)) :=
 q0h hF (by kernel_rfl) (qb4 n hK) (j8b n) (fuel:=n) (fun _=>rfl) (q02 (c:=(q01 0 0 (q00 Tryz.f68))) (fun j L h1 h2 h3=>by
  have h2':j<2:=Nat.lt_of_lt_of_le h2 (by decide +kernel)
  match j,h1,h2',h3 with
  | 0,h1,_,_=>exact absurd h1 (by decide)
  | 1,_,_,h3=>obtain rfl:=Option.some.inj h3;exact (show q01 0 1 (q00 Tryz.f68)=q01 1 1 (q01 0 0 (q00 Tryz.f68)) by kernel_rfl) ▸ qm1 n hF hK
  | j+2,_,h2',_=>exact absurd h2' (by omega))) (q0w qjg)
theorem jgv (n:Nat) : ∀a,(q8b n).F a=main Tryz.prog 93 (qdl n) (qa4 n) qch (q00 Tryz.f68) [.tmp 4] (q8b n).args (q8b n).res a:=by intro a;kernel_rfl
theorem jfp (n:Nat):q0d Inv Tryz.prog (q8b n):=fun G hG=>⟨⟨by kernel_rfl,fun a r h=>q04 (c:=q00 Tryz.f68) Tryz.func68 (by kernel_rfl) (by kernel_rfl) (Nat.le_of_ble_eq_true (by kernel_rfl)) hG.st (by kernel_rfl) (rs:=[.tmp 4]) (by kernel_rfl) (qb4 n hG) (lts:=qa4 n) (fun F hF hFG=>have hK:Know Inv F.G:=hFG ▸ hG;(q02 (c:=(q00 Tryz.f68)) (fun j L h1 h2 h3=>by
  have h2':j<2:=Nat.lt_of_lt_of_le h2 (by decide +kernel)
  match j,h1,h2',h3 with
  | 0,_,_,h3=>obtain rfl:=Option.some.inj h3;exact (show q01 0 0 (q00 Tryz.f68)=q01 0 0 (q00 Tryz.f68) by kernel_rfl) ▸ j0o n hF hK
  | 1,_,_,h3=>obtain rfl:=Option.some.inj h3;exact (show q01 0 1 (q00 Tryz.f68)=q01 0 1 (q00 Tryz.f68) by kernel_rfl) ▸ qm1 n hF hK
  | j+2,_,h2',_=>exact absurd h2' (by omega)))) qjg ((jgv n a).symm.trans h)⟩,rfl⟩
def jdl (n:Nat):List LC:=[]
def qw1 (n:Nat) (a1:Int):Option (Bool) :=
 (bif decide (0<=a1) then some (decide (a1<=999999999)) else some false)
def qrw (n:Nat):FC:={ f:=67,args:=[.one (.c (.d (.int .i64)))],res:=.one (.c (.d .bool)),F:=fun p=>qw1 n p }
def jld (n:Nat):List FC:=[]
theorem jkf (n:Nat) {G:World->Prop} (hG:Know Inv G) : ∀c∈jld n,q17 Tryz.prog G c/\q0b c.args=true:=(fun _ h=>by cases h)
def jjq:q0a:=[]
theorem jtj:drB jjq (q00 Tryz.f67)=true:=by kernel_rfl
theorem jwl (n:Nat) : ∀a,(qrw n).F a=main Tryz.prog 9 (jld n) (jdl n) jjq (q00 Tryz.f67) [.tmp 2] (qrw n).args (qrw n).res a:=by intro a;kernel_rfl
theorem jw0 (n:Nat):q0d Inv Tryz.prog (qrw n):=fun G hG=>⟨⟨by kernel_rfl,fun a r h=>q04 (c:=q00 Tryz.f67) Tryz.func67 (by kernel_rfl) (by kernel_rfl) (Nat.le_of_ble_eq_true (by kernel_rfl)) hG.st (by kernel_rfl) (rs:=[.tmp 2]) (by kernel_rfl) (jkf n hG) (lts:=jdl n) (fun F hF hFG=>have hK:Know Inv F.G:=hFG ▸ hG;(q02 fun j L h1 h2 h3=>absurd h2 (Nat.not_lt.2 (Nat.le_trans (by decide +kernel) h1)))) jtj ((jwl n a).symm.trans h)⟩,rfl⟩
def qw3 (n:Nat):List LC:=[]
def qnr (n:Nat) (a1:Int×(Int×(Int×((List UInt8)×List UInt8)))):Option (Bool) :=
 (qw1 n a1.1).bind fun r1=>(bif !r1 then some false else (qw1 n a1.2.1).bind fun r2=>(bif !r2 then some false else (qw1 n a1.2.2.1).bind fun r3=>(bif !r3 then some false else (bif decide (30<(a1.2.2.2.1.length:Int)) then some false else (bif decide (30<(a1.2.2.2.2.length:Int)) then some false else (bif decide (a1.2.2.2.1=([]:List UInt8)) then (bif decide (a1.2.2.2.2=([]:List UInt8)) then some true else (q8t n a1.2.2.2.2 true).bind fun r4=>some r4) else (q8t n a1.2.2.2.1 false).bind fun r5=>(bif r5 then (bif decide (a1.2.2.2.2=([]:List UInt8)) then some true else (q8t n a1.2.2.2.2 true).bind fun r6=>some r6) else some false)))))))
def qbl (n:Nat):FC:={ f:=39,args:=[.one (.agg [.d (.int .i64),.d (.int .i64),.d (.int .i64),.d .str,.d .str])],res:=.one (.c (.d .bool)),F:=fun p=>qnr n p }
def j2f (n:Nat):List FC:=[qrw n,q8b n]
theorem j9x (n:Nat) {G:World->Prop} (hG:Know Inv G) : ∀c∈j2f n,q17 Tryz.prog G c/\q0b c.args=true:=List.forall_mem_cons.2 ⟨jw0 n G hG,List.forall_mem_cons.2 ⟨jfp n G hG,(fun _ h=>by cases h)⟩⟩
def j5z:q0a:=[]
theorem jk7:drB j5z (q00 Tryz.f39)=true:=by kernel_rfl
theorem ji6 (n:Nat) : ∀a,(qbl n).F a=main Tryz.prog 49 (j2f n) (qw3 n) j5z (q00 Tryz.f39) [.tmp 2] (qbl n).args (qbl n).res a:=by intro a;kernel_rfl
theorem jk4 (n:Nat):q0d Inv Tryz.prog (qbl n):=fun G hG=>⟨⟨by kernel_rfl,fun a r h=>q04 (c:=q00 Tryz.f39) Tryz.func39 (by kernel_rfl) (by kernel_rfl) (Nat.le_of_ble_eq_true (by kernel_rfl)) hG.st (by kernel_rfl) (rs:=[.tmp 2]) (by kernel_rfl) (j9x n hG) (lts:=qw3 n) (fun F hF hFG=>have hK:Know Inv F.G:=hFG ▸ hG;(q02 fun j L h1 h2 h3=>absurd h2 (Nat.not_lt.2 (Nat.le_trans (by decide +kernel) h1)))) jk7 ((ji6 n a).symm.trans h)⟩,rfl⟩
def qq8 (n:Nat):List LC:=[]
def q1o:Nat->Int->Option (List UInt8)
 | 0,_=>none
 | n+1,a1 =>
 (jsb a1 (10:Int)).bind fun n1=>q08 (IntKind.wrap .i64 ((48:Int)+n1)) fun n2=>q08 (IntKind.wrap .u8 n2) fun n3=>(bif decide ((10:Int)<=a1) then (jwu .i64 a1 (10:Int)).bind fun n4=>(q1o n n4).bind fun (r5:List UInt8)=>(qc4 r5 (List.map (fun n:Int=>UInt8.ofNat n.toNat) ([n3]:List (Int)))).bind fun s6=>some s6 else some (List.map (fun n:Int=>UInt8.ofNat n.toNat) ([n3]:List (Int))))
def q46 (n:Nat):FC:={ f:=40,args:=[.one (.c (.d (.int .i64)))],res:=.one (.c (.d .str)),F:=fun p=>q1o n p }
def qwa (n:Nat):List FC:=[q46 n]
theorem j3f (n:Nat) (hrec:q0d Inv Tryz.prog (q46 n)) {G:World->Prop} (hG:Know Inv G) : ∀c∈qwa n,q17 Tryz.prog G c/\q0b c.args=true:=List.forall_mem_cons.2 ⟨hrec G hG,(fun _ h=>by cases h)⟩
def qwk:q0a:=[]
theorem jet:drB qwk (q00 Tryz.f40)=true:=by kernel_rfl
theorem jeu (n:Nat) : ∀a,(q46 (n+1)).F a=main Tryz.prog 18 (qwa n) (qq8 n) qwk (q00 Tryz.f40) [.tmp 2] (q46 (n+1)).args (q46 (n+1)).res a:=by intro a;kernel_rfl
theorem qve:(n:Nat)->q0d Inv Tryz.prog (q46 n)
 | 0=>fun G hG=>⟨⟨by kernel_rfl,fun a r h=>by cases h⟩,rfl⟩
 | n+1=>fun G hG=>⟨⟨by kernel_rfl,fun a r h=>q04 (c:=q00 Tryz.f40) Tryz.func40 (by kernel_rfl) (by kernel_rfl) (Nat.le_of_ble_eq_true (by kernel_rfl)) hG.st (by kernel_rfl) (rs:=[.tmp 2]) (by kernel_rfl) (j3f n (qve n) hG) (lts:=qq8 n) (fun F hF hFG=>have hK:Know Inv F.G:=hFG ▸ hG;(q02 fun j L h1 h2 h3=>absurd h2 (Nat.not_lt.2 (Nat.le_trans (by decide +kernel) h1)))) jet ((jeu n a).symm.trans h)⟩,rfl⟩
def j27 (n:Nat):List LC:=[]
def qxk (n:Nat) (a1:Int×(Int×(Int×((List UInt8)×List UInt8)))):Option (List UInt8) :=
 (qnr n a1).bind fun r1=>(bif !r1 then some ([]:List UInt8) else (q1o n a1.1).bind fun (r2:List UInt8)=>(qc4 ([118]:List UInt8) r2).bind fun s3=>(qc4 s3 ([46]:List UInt8)).bind fun s4=>(q1o n a1.2.1).bind fun (r5:List UInt8)=>(qc4 s4 r5).bind fun s6=>(qc4 s6 ([46]:List UInt8)).bind fun s7=>(q1o n a1.2.2.1).bind fun (r8:List UInt8)=>(qc4 s7 r8).bind fun s9=>(bif !decide (a1.2.2.2.1=([]:List UInt8)) then (qc4 s9 ([45]:List UInt8)).bind fun s10=>(qc4 s10 a1.2.2.2.1).bind fun s11=>(bif !decide (a1.2.2.2.2=([]:List UInt8)) then (qc4 s11 ([43]:List UInt8)).bind fun s12=>(qc4 s12 a1.2.2.2.2).bind fun s13=>some s13 else some s11) else (bif !decide (a1.2.2.2.2=([]:List UInt8)) then (qc4 s9 ([43]:List UInt8)).bind fun s14=>(qc4 s14 a1.2.2.2.2).bind fun s15=>some s15 else some s9)))
def qg6 (n:Nat):FC:={ f:=20,args:=[.one (.agg [.d (.int .i64),.d (.int .i64),.d (.int .i64),.d .str,.d .str])],res:=.one (.c (.d .str)),F:=fun p=>qxk n p }
def jas (n:Nat):List FC:=[qbl n,q46 n]
theorem jgg (n:Nat) {G:World->Prop} (hG:Know Inv G) : ∀c∈jas n,q17 Tryz.prog G c/\q0b c.args=true:=List.forall_mem_cons.2 ⟨jk4 n G hG,List.forall_mem_cons.2 ⟨qve n G hG,(fun _ h=>by cases h)⟩⟩
def jea:q0a:=[(3,[⟨12582936,2^21,0⟩,⟨102760464,2^24,1⟩,⟨49*2^24,2^27,3⟩,⟨49*2^27,2^30,7⟩,⟨49*2^30,2^33,15⟩,⟨412316860440,2^36,0⟩,⟨3367254360080,2^39,32⟩,⟨49*2^39,2^42,103⟩,⟨25089*2^33,2^45,255⟩,⟨49*2^45,2^48,511⟩,⟨13510798882111512,2^51,0⟩,⟨110338190870577168,2^54,1024⟩,⟨49*2^54,2^57,3303⟩,⟨25089*2^48,2^60,8191⟩,⟨1152921504606850048,512,16383⟩]),(1000003,[])]
theorem jpm:drB jea (q00 Tryz.f20)=true:=by kernel_rfl
theorem jq0 (n:Nat) : ∀a,(qg6 n).F a=main Tryz.prog 38 (jas n) (j27 n) jea (q00 Tryz.f20) [.tmp 2] (qg6 n).args (qg6 n).res a:=by intro a;kernel_rfl
theorem jrv (n:Nat):q0d Inv Tryz.prog (qg6 n):=fun G hG=>⟨⟨by kernel_rfl,fun a r h=>q04 (c:=q00 Tryz.f20) Tryz.func20 (by kernel_rfl) (by kernel_rfl) (Nat.le_of_ble_eq_true (by kernel_rfl)) hG.st (by kernel_rfl) (rs:=[.tmp 2]) (by kernel_rfl) (jgg n hG) (lts:=j27 n) (fun F hF hFG=>have hK:Know Inv F.G:=hFG ▸ hG;(q02 fun j L h1 h2 h3=>absurd h2 (Nat.not_lt.2 (Nat.le_trans (by decide +kernel) h1)))) jpm ((jq0 n a).symm.trans h)⟩,rfl⟩
end Go.Proofs.YtapfankgdkdkgaaGreatDoor.AM
