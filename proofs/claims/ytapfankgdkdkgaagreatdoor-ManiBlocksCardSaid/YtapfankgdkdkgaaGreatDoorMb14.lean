
import Derived.Test.YtapfankgdkdkgaaGreatDoorMb13
import Derived.Test.YtapfankgdkdkgaaGreatDoorMb12
import Derived.Test.YtapfankgdkdkgaaGreatDoorMb8
import Derived.Lib.Join
import Derived.WalkKit
import Derived.LaidEql
import Derived.Stop.Asserts
import Derived.RowKitTokens
import Derived.Test.YtapfankgdkdkgaaGreatDoorProg
namespace Go.Proofs.YtapfankgdkdkgaaGreatDoor.AM
open Go.RowKit
set_option linter.unusedVariables false
set_option maxRecDepth 20000
def j21 (n:Nat):List LC:=[]
def j05 (n:Nat) (a1:List UInt8):Option (List UInt8) :=
 (j0o n a1 (47:Int)).bind fun (r1:Int)=>q05 (IntKind.wrap .i64 (r1+(1:Int))) fun (n2:Int)=>(q2k a1 n2 ((List.length a1:Nat):Int)).bind fun (s3:List UInt8)=>some s3
def qh9 (n:Nat):FC:={ f:=132,args:=[.one (.c (.d .str))],res:=.one (.c (.d .str)),F:=fun p=>j05 n p }
def jc1 (n:Nat):List FC:=[qi9 n]
theorem jgm (n:Nat) {G:World→Prop} (hG:Know Inv G) : ∀ c∈jc1 n,q0w Tryz.prog G c∧q09 c.args=true:=List.forall_mem_cons.2 ⟨jfg n G hG,(fun _ h=>by cases h)⟩
def je8:q08:=[]
theorem jqt:drB je8 (q00 Tryz.f132)=true:=by kernel_rfl
theorem jqr (n:Nat) : ∀ a,(qh9 n).F a=main Tryz.prog 8 (jc1 n) (j21 n) je8 (q00 Tryz.f132) [.tmp 2] (qh9 n).args (qh9 n).res a:=by intro a;kernel_rfl
theorem jrx (n:Nat):q0c Inv Tryz.prog (qh9 n):=fun G hG=>⟨⟨by kernel_rfl,fun a r h=>q03 (c:=q00 Tryz.f132) Tryz.func132 (by kernel_rfl) (by kernel_rfl) (Nat.le_of_ble_eq_true (by kernel_rfl)) hG.st (by kernel_rfl) (rs:=[.tmp 2]) (by kernel_rfl) (jgm n hG) (lts:=j21 n) (fun F hF hFG=>have hK:Know Inv F.G:=hFG ▸ hG;(q02 fun j L h1 h2 h3=>absurd h2 (Nat.not_lt.2 (Nat.le_trans (by decide +kernel) h1)))) jqt ((jqr n a).symm.trans h)⟩,rfl⟩
def qxt (n:Nat):List LC:=[]
def qib (n:Nat) (a1:List UInt8):Option ((List UInt8)×(Int×(Bool))) :=
 (qpy a1).bind fun (r1:List UInt8)=>(j05 n a1).bind fun (r2:List UInt8)=>(qsl a1).bind fun (r3:Bool)=>(bif !r3 then (bif !r3 then some (([]:List UInt8),((0:Int),false)) else (qid n r2).bind fun (r4:Bool)=>(bif !r4 then some (a1,((0:Int),true)) else (qwq r2).bind fun (r5:Int×(Bool))=>(bif !r5.2 then some (([]:List UInt8),((0:Int),false)) else (bif decide (r1=([]:List UInt8)) then some (([]:List UInt8),((0:Int),false)) else some (r1,(r5.1,true)))))) else (j4v r1).bind fun (r6:Bool)=>(bif r6 then some (([]:List UInt8),((0:Int),false)) else (qid n r2).bind fun (r7:Bool)=>(bif !r7 then some (a1,((0:Int),true)) else (qwq r2).bind fun (r8:Int×(Bool))=>(bif !r8.2 then some (([]:List UInt8),((0:Int),false)) else (bif decide (r1=([]:List UInt8)) then some (([]:List UInt8),((0:Int),false)) else some (r1,(r8.1,true)))))))
def q8n (n:Nat):FC:={ f:=104,args:=[.one (.c (.d .str))],res:=.tup [.c (.d .str),.c (.d (.int .i64)),.c (.d .bool)],F:=fun p=>qib n p }
def j29 (n:Nat):List FC:=[jer,qh9 n,j0e,qbd n,jog,jos]
theorem j8k (n:Nat) {G:World→Prop} (hG:Know Inv G) : ∀ c∈j29 n,q0w Tryz.prog G c∧q09 c.args=true:=List.forall_mem_cons.2 ⟨jsb G hG,List.forall_mem_cons.2 ⟨jrx n G hG,List.forall_mem_cons.2 ⟨jc3 G hG,List.forall_mem_cons.2 ⟨j45 n G hG,List.forall_mem_cons.2 ⟨jws G hG,List.forall_mem_cons.2 ⟨jv4 G hG,(fun _ h=>by cases h)⟩⟩⟩⟩⟩⟩
def j2l:q08:=[]
theorem jmv:drB j2l (q00 Tryz.f104)=true:=by kernel_rfl
theorem jov (n:Nat) : ∀ a,(q8n n).F a=main Tryz.prog 37 (j29 n) (qxt n) j2l (q00 Tryz.f104) [.tmp 2,.tmp 3,.tmp 4] (q8n n).args (q8n n).res a:=by intro a;kernel_rfl
theorem j1q (n:Nat):q0c Inv Tryz.prog (q8n n):=fun G hG=>⟨⟨by kernel_rfl,fun a r h=>q03 (c:=q00 Tryz.f104) Tryz.func104 (by kernel_rfl) (by kernel_rfl) (Nat.le_of_ble_eq_true (by kernel_rfl)) hG.st (by kernel_rfl) (rs:=[.tmp 2,.tmp 3,.tmp 4]) (by kernel_rfl) (j8k n hG) (lts:=qxt n) (fun F hF hFG=>have hK:Know Inv F.G:=hFG ▸ hG;(q02 fun j L h1 h2 h3=>absurd h2 (Nat.not_lt.2 (Nat.le_trans (by decide +kernel) h1)))) jmv ((jov n a).symm.trans h)⟩,rfl⟩
def qvm (n:Nat):List LC:=[]
def qd6 (n:Nat) (a1:List UInt8):Option (Bool) :=
 (qib n a1).bind fun (r1:(List UInt8)×(Int×(Bool)))=>some r1.2.2
def q6w (n:Nat):FC:={ f:=73,args:=[.one (.c (.d .str))],res:=.one (.c (.d .bool)),F:=fun p=>qd6 n p }
def j7j (n:Nat):List FC:=[q8n n]
theorem j91 (n:Nat) {G:World→Prop} (hG:Know Inv G) : ∀ c∈j7j n,q0w Tryz.prog G c∧q09 c.args=true:=List.forall_mem_cons.2 ⟨j1q n G hG,(fun _ h=>by cases h)⟩
def j5p:q08:=[]
theorem jls:drB j5p (q00 Tryz.f73)=true:=by kernel_rfl
theorem jn7 (n:Nat) : ∀ a,(q6w n).F a=main Tryz.prog 13 (j7j n) (qvm n) j5p (q00 Tryz.f73) [.tmp 2] (q6w n).args (q6w n).res a:=by intro a;kernel_rfl
theorem qry (n:Nat):q0c Inv Tryz.prog (q6w n):=fun G hG=>⟨⟨by kernel_rfl,fun a r h=>q03 (c:=q00 Tryz.f73) Tryz.func73 (by kernel_rfl) (by kernel_rfl) (Nat.le_of_ble_eq_true (by kernel_rfl)) hG.st (by kernel_rfl) (rs:=[.tmp 2]) (by kernel_rfl) (j91 n hG) (lts:=qvm n) (fun F hF hFG=>have hK:Know Inv F.G:=hFG ▸ hG;(q02 fun j L h1 h2 h3=>absurd h2 (Nat.not_lt.2 (Nat.le_trans (by decide +kernel) h1)))) jls ((jn7 n a).symm.trans h)⟩,rfl⟩
def j6l (n:Nat):List LC:=[]
def j0d (n:Nat) (a1:List UInt8) (a2:Int×(Int×(Int×((List UInt8)×(List UInt8))))):Option (Bool) :=
 (qib n a1).bind fun (r1:(List UInt8)×(Int×(Bool)))=>(bif !r1.2.2 then (bif !r1.2.2 then some false else (bif decide (r1.2.1=(0:Int)) then some (decide (a2.1<(2:Int))) else some (decide (a2.1=r1.2.1)))) else (q7r n a2).bind fun (r2:Bool)=>(bif !r2 then some false else (bif decide (r1.2.1=(0:Int)) then some (decide (a2.1<(2:Int))) else some (decide (a2.1=r1.2.1)))))
def qgy (n:Nat):FC:={ f:=75,args:=[.one (.c (.d .str)),.one (.agg [.d (.int .i64),.d (.int .i64),.d (.int .i64),.d .str,.d .str])],res:=.one (.c (.d .bool)),F:=fun p=>j0d n p.1 p.2 }
def jez (n:Nat):List FC:=[q8n n,q4w n]
theorem jgl (n:Nat) {G:World→Prop} (hG:Know Inv G) : ∀ c∈jez n,q0w Tryz.prog G c∧q09 c.args=true:=List.forall_mem_cons.2 ⟨j1q n G hG,List.forall_mem_cons.2 ⟨qh7 n G hG,(fun _ h=>by cases h)⟩⟩
def jde:q08:=[]
theorem jrj:drB jde (q00 Tryz.f75)=true:=by kernel_rfl
theorem jta (n:Nat) : ∀ a,(qgy n).F a=main Tryz.prog 30 (jez n) (j6l n) jde (q00 Tryz.f75) [.tmp 4] (qgy n).args (qgy n).res a:=by intro a;kernel_rfl
theorem jt3 (n:Nat):q0c Inv Tryz.prog (qgy n):=fun G hG=>⟨⟨by kernel_rfl,fun a r h=>q03 (c:=q00 Tryz.f75) Tryz.func75 (by kernel_rfl) (by kernel_rfl) (Nat.le_of_ble_eq_true (by kernel_rfl)) hG.st (by kernel_rfl) (rs:=[.tmp 4]) (by kernel_rfl) (jgl n hG) (lts:=j6l n) (fun F hF hFG=>have hK:Know Inv F.G:=hFG ▸ hG;(q02 fun j L h1 h2 h3=>absurd h2 (Nat.not_lt.2 (Nat.le_trans (by decide +kernel) h1)))) jrj ((jta n a).symm.trans h)⟩,rfl⟩
@[reducible] def qcy:SSt:=⟨[(0,.one (.c (.d .str))),(3,.one (.c (.d (.int .i64))))],[],[]⟩
@[reducible] def q7o:List (Exit×SSt):=[(.ret,⟨[(2,.one (.c (.d .bool)))],[],[]⟩),(.exit 0,⟨[(0,.one (.c (.d .str)))],[],[]⟩)]
def qr6 (n:Nat) (rec:(List UInt8)→Int→Option (((Bool×(Unit))×(Unit)×(Unit))⊕(((List UInt8)×(Unit))×(Unit)×(Unit)))) (a1:List UInt8) (a2:Int):Option (((Bool×(Unit))×(Unit)×(Unit))⊕(((List UInt8)×(Unit))×(Unit)×(Unit))) :=
 (bif decide (a2<((List.length a1:Nat):Int)) then (sAt a1 a2).bind fun (c1:Int)=>(bif decide ((97:Int)≤c1) then (bif decide (c1≤(122:Int)) then q05 (IntKind.wrap .i64 (a2+(1:Int))) fun (n2:Int)=>rec a1 n2 else (bif decide ((65:Int)≤c1) then (bif decide (c1≤(90:Int)) then q05 (IntKind.wrap .i64 (a2+(1:Int))) fun (n3:Int)=>rec a1 n3 else (bif decide ((48:Int)≤c1) then (bif !(decide (c1≤(57:Int))) then (bif !decide (c1=(45:Int)) then (bif !decide (c1=(95:Int)) then (bif !decide (c1=(46:Int)) then some (Sum.inl ((false,()),((),()))) else q05 (IntKind.wrap .i64 (a2+(1:Int))) fun (n4:Int)=>rec a1 n4) else q05 (IntKind.wrap .i64 (a2+(1:Int))) fun (n5:Int)=>rec a1 n5) else q05 (IntKind.wrap .i64 (a2+(1:Int))) fun (n6:Int)=>rec a1 n6) else q05 (IntKind.wrap .i64 (a2+(1:Int))) fun (n7:Int)=>rec a1 n7) else (bif !decide (c1=(45:Int)) then (bif !decide (c1=(95:Int)) then (bif !decide (c1=(46:Int)) then some (Sum.inl ((false,()),((),()))) else q05 (IntKind.wrap .i64 (a2+(1:Int))) fun (n8:Int)=>rec a1 n8) else q05 (IntKind.wrap .i64 (a2+(1:Int))) fun (n9:Int)=>rec a1 n9) else q05 (IntKind.wrap .i64 (a2+(1:Int))) fun (n10:Int)=>rec a1 n10))) else (bif decide ((48:Int)≤c1) then (bif !(decide (c1≤(57:Int))) then (bif !decide (c1=(45:Int)) then (bif !decide (c1=(95:Int)) then (bif !decide (c1=(46:Int)) then some (Sum.inl ((false,()),((),()))) else q05 (IntKind.wrap .i64 (a2+(1:Int))) fun (n11:Int)=>rec a1 n11) else q05 (IntKind.wrap .i64 (a2+(1:Int))) fun (n12:Int)=>rec a1 n12) else q05 (IntKind.wrap .i64 (a2+(1:Int))) fun (n13:Int)=>rec a1 n13) else q05 (IntKind.wrap .i64 (a2+(1:Int))) fun (n14:Int)=>rec a1 n14) else (bif !decide (c1=(45:Int)) then (bif !decide (c1=(95:Int)) then (bif !decide (c1=(46:Int)) then some (Sum.inl ((false,()),((),()))) else q05 (IntKind.wrap .i64 (a2+(1:Int))) fun (n15:Int)=>rec a1 n15) else q05 (IntKind.wrap .i64 (a2+(1:Int))) fun (n16:Int)=>rec a1 n16) else q05 (IntKind.wrap .i64 (a2+(1:Int))) fun (n17:Int)=>rec a1 n17)))) else (bif decide ((65:Int)≤c1) then (bif decide (c1≤(90:Int)) then q05 (IntKind.wrap .i64 (a2+(1:Int))) fun (n18:Int)=>rec a1 n18 else (bif decide ((48:Int)≤c1) then (bif !(decide (c1≤(57:Int))) then (bif !decide (c1=(45:Int)) then (bif !decide (c1=(95:Int)) then (bif !decide (c1=(46:Int)) then some (Sum.inl ((false,()),((),()))) else q05 (IntKind.wrap .i64 (a2+(1:Int))) fun (n19:Int)=>rec a1 n19) else q05 (IntKind.wrap .i64 (a2+(1:Int))) fun (n20:Int)=>rec a1 n20) else q05 (IntKind.wrap .i64 (a2+(1:Int))) fun (n21:Int)=>rec a1 n21) else q05 (IntKind.wrap .i64 (a2+(1:Int))) fun (n22:Int)=>rec a1 n22) else (bif !decide (c1=(45:Int)) then (bif !decide (c1=(95:Int)) then (bif !decide (c1=(46:Int)) then some (Sum.inl ((false,()),((),()))) else q05 (IntKind.wrap .i64 (a2+(1:Int))) fun (n23:Int)=>rec a1 n23) else q05 (IntKind.wrap .i64 (a2+(1:Int))) fun (n24:Int)=>rec a1 n24) else q05 (IntKind.wrap .i64 (a2+(1:Int))) fun (n25:Int)=>rec a1 n25))) else (bif decide ((48:Int)≤c1) then (bif !(decide (c1≤(57:Int))) then (bif !decide (c1=(45:Int)) then (bif !decide (c1=(95:Int)) then (bif !decide (c1=(46:Int)) then some (Sum.inl ((false,()),((),()))) else q05 (IntKind.wrap .i64 (a2+(1:Int))) fun (n26:Int)=>rec a1 n26) else q05 (IntKind.wrap .i64 (a2+(1:Int))) fun (n27:Int)=>rec a1 n27) else q05 (IntKind.wrap .i64 (a2+(1:Int))) fun (n28:Int)=>rec a1 n28) else q05 (IntKind.wrap .i64 (a2+(1:Int))) fun (n29:Int)=>rec a1 n29) else (bif !decide (c1=(45:Int)) then (bif !decide (c1=(95:Int)) then (bif !decide (c1=(46:Int)) then some (Sum.inl ((false,()),((),()))) else q05 (IntKind.wrap .i64 (a2+(1:Int))) fun (n30:Int)=>rec a1 n30) else q05 (IntKind.wrap .i64 (a2+(1:Int))) fun (n31:Int)=>rec a1 n31) else q05 (IntKind.wrap .i64 (a2+(1:Int))) fun (n32:Int)=>rec a1 n32)))) else some (Sum.inr (((a1,()),((),())))))
def qpq (n:Nat) (rec:pSt qcy→Option (q0d q7o)) (p:pSt qcy):Option (q0d q7o):=qr6 n (fun a1 a2=>rec ((a1,(a2,())),((),()))) p.1.1 p.1.2.1
def q79 (n m:Nat) (a1:List UInt8) (a2:Int):Option (((Bool×(Unit))×(Unit)×(Unit))⊕(((List UInt8)×(Unit))×(Unit)×(Unit))):=q0e (qpq n) m ((a1,(a2,())),((),()))
theorem qko (n m:Nat) (a1:List UInt8) (a2:Int):q79 n (m+1) a1 a2=qr6 n (fun a1 a2=>q79 n m a1 a2) a1 a2:=rfl
def j3r (n:Nat):LC:={ sh:=qcy,outs:=q7o,F:=q0e (qpq n) n }
def qkq (n:Nat):List LC:=[j3r n]
def qmy (n:Nat) (a1:List UInt8):Option (Bool) :=
 (q79 n n a1 (0:Int)).bind fun (o33:((Bool×(Unit))×(Unit)×(Unit))⊕(((List UInt8)×(Unit))×(Unit)×(Unit)))=>Sum.elim (fun (q34:(Bool×(Unit))×(Unit)×(Unit))=>some q34.1.1) (fun (q35:((List UInt8)×(Unit))×(Unit)×(Unit))=>(bif !decide (q35.1.1=([]:List UInt8)) then (bif !decide (q35.1.1=([46]:List UInt8)) then some (!decide (q35.1.1=([46,46]:List UInt8))) else some false) else some false)) o33
def qcg (n:Nat):FC:={ f:=130,args:=[.one (.c (.d .str))],res:=.one (.c (.d .bool)),F:=fun p=>qmy n p }
def qt0 (n:Nat):List FC:=[]
theorem qsc (n:Nat) {G:World→Prop} (hG:Know Inv G) : ∀ c∈qt0 n,q0w Tryz.prog G c∧q09 c.args=true:=(fun _ h=>by cases h)
def qp1:q08:=[]
theorem j6c:drB qp1 (q00 Tryz.f130)=true:=by kernel_rfl
theorem jiv (n:Nat) : ∀ rec p,qpq n rec p=round Tryz.prog 61 (qt0 n) (qkq n) qp1 1 qcy q7o (q01 0 0 (q00 Tryz.f130)) rec p:=by intro rec p;kernel_rfl
theorem j82 (n:Nat) {F:Fr} (hF:F.n=61) (hK:Know Inv F.G):q6a Tryz.prog F (j3r n) (q01 0 0 (q00 Tryz.f130)) :=
 q0g hF (by kernel_rfl) (qsc n hK) (jiv n) (fuel:=n) (fun _=>rfl) (q02 fun j L h1 h2 h3=>absurd h2 (Nat.not_lt.2 (Nat.le_trans (by decide +kernel) h1))) (q0n j6c)
theorem jjf (n:Nat) : ∀ a,(qcg n).F a=main Tryz.prog 61 (qt0 n) (qkq n) qp1 (q00 Tryz.f130) [.tmp 2] (qcg n).args (qcg n).res a:=by intro a;kernel_rfl
theorem jml (n:Nat):q0c Inv Tryz.prog (qcg n):=fun G hG=>⟨⟨by kernel_rfl,fun a r h=>q03 (c:=q00 Tryz.f130) Tryz.func130 (by kernel_rfl) (by kernel_rfl) (Nat.le_of_ble_eq_true (by kernel_rfl)) hG.st (by kernel_rfl) (rs:=[.tmp 2]) (by kernel_rfl) (qsc n hG) (lts:=qkq n) (fun F hF hFG=>have hK:Know Inv F.G:=hFG ▸ hG;(q02 (c:=(q00 Tryz.f130)) (fun j L h1 h2 h3=>by
  have h2':j<1:=Nat.lt_of_lt_of_le h2 (by decide +kernel)
  match j,h1,h2',h3 with
  | 0,_,_,h3=>obtain rfl:=Option.some.inj h3;exact (show q01 0 0 (q00 Tryz.f130)=q01 0 0 (q00 Tryz.f130) by kernel_rfl) ▸ j82 n hF hK
  | j+1,_,h2',_=>exact absurd h2' (by omega)))) j6c ((jjf n a).symm.trans h)⟩,rfl⟩
@[reducible] def qdz:SSt:=⟨[(3,.one (.c (.d (.lst .str)))),(4,.one (.c (.d (.int .i64))))],[],[]⟩
@[reducible] def q7b:List (Exit×SSt):=[(.ret,⟨[(2,.one (.c (.d .bool)))],[],[]⟩),(.exit 0,⟨[],[],[]⟩)]
def qp6 (n:Nat) (rec:(List (List UInt8))→Int→Option (((Bool×(Unit))×(Unit)×(Unit))⊕((Unit)×(Unit)×(Unit)))) (a1:List (List UInt8)) (a2:Int):Option (((Bool×(Unit))×(Unit)×(Unit))⊕((Unit)×(Unit)×(Unit))) :=
 (bif decide (a2<((List.length a1:Nat):Int)) then (q0z a1 a2).bind fun (x2:List UInt8)=>(qmy n x2).bind fun (r3:Bool)=>(bif !r3 then some (Sum.inl ((false,()),((),()))) else q05 (IntKind.wrap .i64 (a2+(1:Int))) fun (n4:Int)=>rec a1 n4) else some (Sum.inr (((),((),())))))
def qo9 (n:Nat) (rec:pSt qdz→Option (q0d q7b)) (p:pSt qdz):Option (q0d q7b):=qp6 n (fun a1 a2=>rec ((a1,(a2,())),((),()))) p.1.1 p.1.2.1
def q6z (n m:Nat) (a1:List (List UInt8)) (a2:Int):Option (((Bool×(Unit))×(Unit)×(Unit))⊕((Unit)×(Unit)×(Unit))):=q0e (qo9 n) m ((a1,(a2,())),((),()))
theorem qjq (n m:Nat) (a1:List (List UInt8)) (a2:Int):q6z n (m+1) a1 a2=qp6 n (fun a1 a2=>q6z n m a1 a2) a1 a2:=rfl
def j34 (n:Nat):LC:={ sh:=qdz,outs:=q7b,F:=q0e (qo9 n) n }
def qit (n:Nat):List LC:=[j34 n]
def qny (n:Nat) (a1:List UInt8):Option (Bool) :=
 (bif decide ((60:Int)<((List.length a1:Nat):Int)) then some false else (q2b n a1 (47:Int)).bind fun (r1:List (List UInt8))=>(q6z n n r1 (0:Int)).bind fun (o5:((Bool×(Unit))×(Unit)×(Unit))⊕((Unit)×(Unit)×(Unit)))=>Sum.elim (fun (q6:(Bool×(Unit))×(Unit)×(Unit))=>some q6.1.1) (fun (q7:(Unit)×(Unit)×(Unit))=>some true) o5)
def qc4 (n:Nat):FC:={ f:=103,args:=[.one (.c (.d .str))],res:=.one (.c (.d .bool)),F:=fun p=>qny n p }
def qr0 (n:Nat):List FC:=[q1l n,qcg n]
theorem qri (n:Nat) {G:World→Prop} (hG:Know Inv G) : ∀ c∈qr0 n,q0w Tryz.prog G c∧q09 c.args=true:=List.forall_mem_cons.2 ⟨q8f n G hG,List.forall_mem_cons.2 ⟨jml n G hG,(fun _ h=>by cases h)⟩⟩
def qqt:q08:=[]
theorem j46:drB qqt (q00 Tryz.f103)=true:=by kernel_rfl
theorem jgk (n:Nat) : ∀ rec p,qo9 n rec p=round Tryz.prog 22 (qr0 n) (qit n) qqt 1 qdz q7b (q01 0 0 (q00 Tryz.f103)) rec p:=by intro rec p;kernel_rfl
theorem j84 (n:Nat) {F:Fr} (hF:F.n=22) (hK:Know Inv F.G):q6a Tryz.prog F (j34 n) (q01 0 0 (q00 Tryz.f103)) :=
 q0g hF (by kernel_rfl) (qri n hK) (jgk n) (fuel:=n) (fun _=>rfl) (q02 fun j L h1 h2 h3=>absurd h2 (Nat.not_lt.2 (Nat.le_trans (by decide +kernel) h1))) (q0n j46)
theorem jod (n:Nat) : ∀ a,(qc4 n).F a=main Tryz.prog 22 (qr0 n) (qit n) qqt (q00 Tryz.f103) [.tmp 2] (qc4 n).args (qc4 n).res a:=by intro a;kernel_rfl
theorem jkk (n:Nat):q0c Inv Tryz.prog (qc4 n):=fun G hG=>⟨⟨by kernel_rfl,fun a r h=>q03 (c:=q00 Tryz.f103) Tryz.func103 (by kernel_rfl) (by kernel_rfl) (Nat.le_of_ble_eq_true (by kernel_rfl)) hG.st (by kernel_rfl) (rs:=[.tmp 2]) (by kernel_rfl) (qri n hG) (lts:=qit n) (fun F hF hFG=>have hK:Know Inv F.G:=hFG ▸ hG;(q02 (c:=(q00 Tryz.f103)) (fun j L h1 h2 h3=>by
  have h2':j<1:=Nat.lt_of_lt_of_le h2 (by decide +kernel)
  match j,h1,h2',h3 with
  | 0,_,_,h3=>obtain rfl:=Option.some.inj h3;exact (show q01 0 0 (q00 Tryz.f103)=q01 0 0 (q00 Tryz.f103) by kernel_rfl) ▸ j84 n hF hK
  | j+1,_,h2',_=>exact absurd h2' (by omega)))) j46 ((jod n a).symm.trans h)⟩,rfl⟩
@[reducible] def qap:SSt:=⟨[(0,.one (.c (.d .str))),(3,.one (.c (.d (.int .i64))))],[],[]⟩
@[reducible] def q5o:List (Exit×SSt):=[(.ret,⟨[(2,.one (.c (.d .bool)))],[],[]⟩),(.exit 0,⟨[(0,.one (.c (.d .str)))],[],[]⟩)]
def ql0 (n:Nat) (rec:(List UInt8)→Int→Option (((Bool×(Unit))×(Unit)×(Unit))⊕(((List UInt8)×(Unit))×(Unit)×(Unit)))) (a1:List UInt8) (a2:Int):Option (((Bool×(Unit))×(Unit)×(Unit))⊕(((List UInt8)×(Unit))×(Unit)×(Unit))) :=
 (bif decide (a2<((List.length a1:Nat):Int)) then (sAt a1 a2).bind fun (c1:Int)=>(bif decide (c1<(48:Int)) then some (Sum.inl ((false,()),((),()))) else (sAt a1 a2).bind fun (c2:Int)=>(bif decide ((57:Int)<c2) then some (Sum.inl ((false,()),((),()))) else q05 (IntKind.wrap .i64 (a2+(1:Int))) fun (n3:Int)=>rec a1 n3)) else some (Sum.inr (((a1,()),((),())))))
def ql4 (n:Nat) (rec:pSt qap→Option (q0d q5o)) (p:pSt qap):Option (q0d q5o):=ql0 n (fun a1 a2=>rec ((a1,(a2,())),((),()))) p.1.1 p.1.2.1
def q62 (n m:Nat) (a1:List UInt8) (a2:Int):Option (((Bool×(Unit))×(Unit)×(Unit))⊕(((List UInt8)×(Unit))×(Unit)×(Unit))):=q0e (ql4 n) m ((a1,(a2,())),((),()))
theorem qgk (n m:Nat) (a1:List UInt8) (a2:Int):q62 n (m+1) a1 a2=ql0 n (fun a1 a2=>q62 n m a1 a2) a1 a2:=rfl
def qwd (n:Nat):LC:={ sh:=qap,outs:=q5o,F:=q0e (ql4 n) n }
def qfh (n:Nat):List LC:=[qwd n]
def qc2 (n:Nat) (a1:List UInt8):Option (Bool) :=
 (q62 n n a1 (1:Int)).bind fun (o4:((Bool×(Unit))×(Unit)×(Unit))⊕(((List UInt8)×(Unit))×(Unit)×(Unit)))=>Sum.elim (fun (q5:(Bool×(Unit))×(Unit)×(Unit))=>some q5.1.1) (fun (q6:((List UInt8)×(Unit))×(Unit)×(Unit))=>(bif decide ((1:Int)<((List.length q6.1.1:Nat):Int)) then (sAt q6.1.1 (0:Int)).bind fun (c7:Int)=>some (decide (c7=(118:Int))) else some false)) o4
def q67 (n:Nat):FC:={ f:=70,args:=[.one (.c (.d .str))],res:=.one (.c (.d .bool)),F:=fun p=>qc2 n p }
def qjb (n:Nat):List FC:=[]
theorem qlw (n:Nat) {G:World→Prop} (hG:Know Inv G) : ∀ c∈qjb n,q0w Tryz.prog G c∧q09 c.args=true:=(fun _ h=>by cases h)
def qkl:q08:=[]
theorem qxh:drB qkl (q00 Tryz.f70)=true:=by kernel_rfl
theorem jak (n:Nat) : ∀ rec p,ql4 n rec p=round Tryz.prog 28 (qjb n) (qfh n) qkl 1 qap q5o (q01 0 0 (q00 Tryz.f70)) rec p:=by intro rec p;kernel_rfl
theorem j68 (n:Nat) {F:Fr} (hF:F.n=28) (hK:Know Inv F.G):q6a Tryz.prog F (qwd n) (q01 0 0 (q00 Tryz.f70)) :=
 q0g hF (by kernel_rfl) (qlw n hK) (jak n) (fuel:=n) (fun _=>rfl) (q02 fun j L h1 h2 h3=>absurd h2 (Nat.not_lt.2 (Nat.le_trans (by decide +kernel) h1))) (q0n qxh)
theorem ji0 (n:Nat) : ∀ a,(q67 n).F a=main Tryz.prog 28 (qjb n) (qfh n) qkl (q00 Tryz.f70) [.tmp 2] (q67 n).args (q67 n).res a:=by intro a;kernel_rfl
theorem qvj (n:Nat):q0c Inv Tryz.prog (q67 n):=fun G hG=>⟨⟨by kernel_rfl,fun a r h=>q03 (c:=q00 Tryz.f70) Tryz.func70 (by kernel_rfl) (by kernel_rfl) (Nat.le_of_ble_eq_true (by kernel_rfl)) hG.st (by kernel_rfl) (rs:=[.tmp 2]) (by kernel_rfl) (qlw n hG) (lts:=qfh n) (fun F hF hFG=>have hK:Know Inv F.G:=hFG ▸ hG;(q02 (c:=(q00 Tryz.f70)) (fun j L h1 h2 h3=>by
  have h2':j<1:=Nat.lt_of_lt_of_le h2 (by decide +kernel)
  match j,h1,h2',h3 with
  | 0,_,_,h3=>obtain rfl:=Option.some.inj h3;exact (show q01 0 0 (q00 Tryz.f70)=q01 0 0 (q00 Tryz.f70) by kernel_rfl) ▸ j68 n hF hK
  | j+1,_,h2',_=>exact absurd h2' (by omega)))) qxh ((ji0 n a).symm.trans h)⟩,rfl⟩
@[reducible] def q74:SSt:=⟨[(0,.one (.c (.d .str))),(3,.one (.c (.d (.int .i64)))),(4,.one (.c (.d (.int .i64))))],[],[]⟩
@[reducible] def q4f:List (Exit×SSt):=[(.exit 0,⟨[(3,.one (.c (.d (.int .i64))))],[],[]⟩)]
def qfj (n:Nat) (rec:(List UInt8)→Int→Int→Option ((Int×(Unit))×(Unit)×(Unit))) (a1:List UInt8) (a2:Int) (a3:Int):Option ((Int×(Unit))×(Unit)×(Unit)) :=
 (bif decide (a3<((List.length a1:Nat):Int)) then q05 (IntKind.wrap .i64 ((10:Int)*a2)) fun (n2:Int)=>(sAt a1 a3).bind fun (c3:Int)=>q05 (IntKind.wrap .i64 c3) fun (n4:Int)=>q05 (IntKind.wrap .i64 (n2+n4)) fun (n5:Int)=>q05 (IntKind.wrap .i64 (n5 - (48:Int))) fun (n6:Int)=>q05 (IntKind.wrap .i64 (a3+(1:Int))) fun (n7:Int)=>rec a1 n6 n7 else some (((a2,()),((),()))))
def qf2 (n:Nat) (rec:pSt q74→Option (q0d q4f)) (p:pSt q74):Option (q0d q4f):=qfj n (fun a1 a2 a3=>rec ((a1,(a2,(a3,()))),((),()))) p.1.1 p.1.2.1 p.1.2.2.1
def q4g (n m:Nat) (a1:List UInt8) (a2:Int) (a3:Int):Option ((Int×(Unit))×(Unit)×(Unit)):=q0e (qf2 n) m ((a1,(a2,(a3,()))),((),()))
theorem qfq (n m:Nat) (a1:List UInt8) (a2:Int) (a3:Int):q4g n (m+1) a1 a2 a3=qfj n (fun a1 a2 a3=>q4g n m a1 a2 a3) a1 a2 a3:=rfl
def qsb (n:Nat):LC:={ sh:=q74,outs:=q4f,F:=q0e (qf2 n) n }
def qcb (n:Nat):List LC:=[qsb n]
def q8q (n:Nat) (a1:List UInt8):Option (Int) :=
 (bif decide ((10:Int)<((List.length a1:Nat):Int)) then some (0:Int) else (sAt a1 (1:Int)).bind fun (c1:Int)=>(bif decide (c1=(48:Int)) then some (0:Int) else (q4g n n a1 (0:Int) (1:Int)).bind fun (o8:(Int×(Unit))×(Unit)×(Unit))=>(bif decide (o8.1.1<(2:Int)) then some (0:Int) else some o8.1.1)))
def q4b (n:Nat):FC:={ f:=72,args:=[.one (.c (.d .str))],res:=.one (.c (.d (.int .i64))),F:=fun p=>q8q n p }
def qep (n:Nat):List FC:=[]
theorem qh0 (n:Nat) {G:World→Prop} (hG:Know Inv G) : ∀ c∈qep n,q0w Tryz.prog G c∧q09 c.args=true:=(fun _ h=>by cases h)
def qfb:q08:=[]
theorem qt6:drB qfb (q00 Tryz.f72)=true:=by kernel_rfl
theorem j4q (n:Nat) : ∀ rec p,qf2 n rec p=round Tryz.prog 30 (qep n) (qcb n) qfb 1 q74 q4f (q01 0 0 (q00 Tryz.f72)) rec p:=by intro rec p;kernel_rfl
theorem j0u (n:Nat) {F:Fr} (hF:F.n=30) (hK:Know Inv F.G):q6a Tryz.prog F (qsb n) (q01 0 0 (q00 Tryz.f72)) :=
 q0g hF (by kernel_rfl) (qh0 n hK) (j4q n) (fuel:=n) (fun _=>rfl) (q02 fun j L h1 h2 h3=>absurd h2 (Nat.not_lt.2 (Nat.le_trans (by decide +kernel) h1))) (q0n qt6)
theorem jaq (n:Nat) : ∀ a,(q4b n).F a=main Tryz.prog 30 (qep n) (qcb n) qfb (q00 Tryz.f72) [.tmp 2] (q4b n).args (q4b n).res a:=by intro a;kernel_rfl
theorem qt5 (n:Nat):q0c Inv Tryz.prog (q4b n):=fun G hG=>⟨⟨by kernel_rfl,fun a r h=>q03 (c:=q00 Tryz.f72) Tryz.func72 (by kernel_rfl) (by kernel_rfl) (Nat.le_of_ble_eq_true (by kernel_rfl)) hG.st (by kernel_rfl) (rs:=[.tmp 2]) (by kernel_rfl) (qh0 n hG) (lts:=qcb n) (fun F hF hFG=>have hK:Know Inv F.G:=hFG ▸ hG;(q02 (c:=(q00 Tryz.f72)) (fun j L h1 h2 h3=>by
  have h2':j<1:=Nat.lt_of_lt_of_le h2 (by decide +kernel)
  match j,h1,h2',h3 with
  | 0,_,_,h3=>obtain rfl:=Option.some.inj h3;exact (show q01 0 0 (q00 Tryz.f72)=q01 0 0 (q00 Tryz.f72) by kernel_rfl) ▸ j0u n hF hK
  | j+1,_,h2',_=>exact absurd h2' (by omega)))) qt6 ((jaq n a).symm.trans h)⟩,rfl⟩
@[reducible] def q9w:SSt:=⟨[(3,.one (.c (.d (.lst .str)))),(4,.one (.c (.d (.int .i64))))],[],[]⟩
@[reducible] def q5w:List (Exit×SSt):=[(.ret,⟨[(2,.one (.c (.d .bool)))],[],[]⟩),(.exit 0,⟨[],[],[]⟩)]
def qdd (n:Nat) (rec:(List (List UInt8))→Int→Option (((Bool×(Unit))×(Unit)×(Unit))⊕((Unit)×(Unit)×(Unit)))) (a1:List (List UInt8)) (a2:Int):Option (((Bool×(Unit))×(Unit)×(Unit))⊕((Unit)×(Unit)×(Unit))) :=
 (bif decide (a2<((List.length a1:Nat):Int)) then (q0z a1 a2).bind fun (x3:List UInt8)=>(qc2 n x3).bind fun (r4:Bool)=>(bif r4 then q05 (IntKind.wrap .i64 (((List.length a1:Nat):Int) - (1:Int))) fun (n5:Int)=>(bif decide (a2<n5) then some (Sum.inl ((false,()),((),()))) else (bif decide (a2=(0:Int)) then some (Sum.inl ((false,()),((),()))) else (q0z a1 a2).bind fun (x6:List UInt8)=>(q8q n x6).bind fun (r7:Int)=>(bif decide (r7=(0:Int)) then some (Sum.inl ((false,()),((),()))) else q05 (IntKind.wrap .i64 (a2+(1:Int))) fun (n8:Int)=>rec a1 n8))) else q05 (IntKind.wrap .i64 (a2+(1:Int))) fun (n9:Int)=>rec a1 n9) else some (Sum.inr (((),((),())))))
def qkn (n:Nat) (rec:pSt q9w→Option (q0d q5w)) (p:pSt q9w):Option (q0d q5w):=qdd n (fun a1 a2=>rec ((a1,(a2,())),((),()))) p.1.1 p.1.2.1
def q3w (n m:Nat) (a1:List (List UInt8)) (a2:Int):Option (((Bool×(Unit))×(Unit)×(Unit))⊕((Unit)×(Unit)×(Unit))):=q0e (qkn n) m ((a1,(a2,())),((),()))
theorem q7k (n m:Nat) (a1:List (List UInt8)) (a2:Int):q3w n (m+1) a1 a2=qdd n (fun a1 a2=>q3w n m a1 a2) a1 a2:=rfl
def qwr (n:Nat):LC:={ sh:=q9w,outs:=q5w,F:=q0e (qkn n) n }
def qen (n:Nat):List LC:=[qwr n]
def qg1 (n:Nat) (a1:List UInt8):Option (Bool) :=
 (qny n a1).bind fun (r1:Bool)=>(bif !r1 then some false else (q2b n a1 (47:Int)).bind fun (r2:List (List UInt8))=>(q3w n n r2 (0:Int)).bind fun (o10:((Bool×(Unit))×(Unit)×(Unit))⊕((Unit)×(Unit)×(Unit)))=>Sum.elim (fun (q11:(Bool×(Unit))×(Unit)×(Unit))=>some q11.1.1) (fun (q12:(Unit)×(Unit)×(Unit))=>some true) o10)
def q94 (n:Nat):FC:={ f:=69,args:=[.one (.c (.d .str))],res:=.one (.c (.d .bool)),F:=fun p=>qg1 n p }
def qk8 (n:Nat):List FC:=[qc4 n,q1l n,q67 n,q4b n]
theorem qls (n:Nat) {G:World→Prop} (hG:Know Inv G) : ∀ c∈qk8 n,q0w Tryz.prog G c∧q09 c.args=true:=List.forall_mem_cons.2 ⟨jkk n G hG,List.forall_mem_cons.2 ⟨q8f n G hG,List.forall_mem_cons.2 ⟨qvj n G hG,List.forall_mem_cons.2 ⟨qt5 n G hG,(fun _ h=>by cases h)⟩⟩⟩⟩
def qja:q08:=[]
theorem qwk:drB qja (q00 Tryz.f69)=true:=by kernel_rfl
theorem j9i (n:Nat) : ∀ rec p,qkn n rec p=round Tryz.prog 40 (qk8 n) (qen n) qja 1 q9w q5w (q01 0 0 (q00 Tryz.f69)) rec p:=by intro rec p;kernel_rfl
theorem j37 (n:Nat) {F:Fr} (hF:F.n=40) (hK:Know Inv F.G):q6a Tryz.prog F (qwr n) (q01 0 0 (q00 Tryz.f69)) :=
 q0g hF (by kernel_rfl) (qls n hK) (j9i n) (fuel:=n) (fun _=>rfl) (q02 fun j L h1 h2 h3=>absurd h2 (Nat.not_lt.2 (Nat.le_trans (by decide +kernel) h1))) (q0n qwk)
theorem ji4 (n:Nat) : ∀ a,(q94 n).F a=main Tryz.prog 40 (qk8 n) (qen n) qja (q00 Tryz.f69) [.tmp 2] (q94 n).args (q94 n).res a:=by intro a;kernel_rfl
theorem jis (n:Nat):q0c Inv Tryz.prog (q94 n):=fun G hG=>⟨⟨by kernel_rfl,fun a r h=>q03 (c:=q00 Tryz.f69) Tryz.func69 (by kernel_rfl) (by kernel_rfl) (Nat.le_of_ble_eq_true (by kernel_rfl)) hG.st (by kernel_rfl) (rs:=[.tmp 2]) (by kernel_rfl) (qls n hG) (lts:=qen n) (fun F hF hFG=>have hK:Know Inv F.G:=hFG ▸ hG;(q02 (c:=(q00 Tryz.f69)) (fun j L h1 h2 h3=>by
  have h2':j<1:=Nat.lt_of_lt_of_le h2 (by decide +kernel)
  match j,h1,h2',h3 with
  | 0,_,_,h3=>obtain rfl:=Option.some.inj h3;exact (show q01 0 0 (q00 Tryz.f69)=q01 0 0 (q00 Tryz.f69) by kernel_rfl) ▸ j37 n hF hK
  | j+1,_,h2',_=>exact absurd h2' (by omega)))) qwk ((ji4 n a).symm.trans h)⟩,rfl⟩
@[reducible] def qd0:SSt:=⟨[(0,.one (.c (.d .str))),(3,.one (.c (.d (.int .i64))))],[],[]⟩
@[reducible] def q72:List (Exit×SSt):=[(.ret,⟨[(2,.one (.c (.d .str)))],[],[]⟩),(.exit 0,⟨[],[],[]⟩)]
def qgs (n:Nat) (rec:(List UInt8)→Int→Option ((((List UInt8)×(Unit))×(Unit)×(Unit))⊕((Unit)×(Unit)×(Unit)))) (a1:List UInt8) (a2:Int):Option ((((List UInt8)×(Unit))×(Unit)×(Unit))⊕((Unit)×(Unit)×(Unit))) :=
 (bif decide ((0:Int)≤a2) then (sAt a1 a2).bind fun (c2:Int)=>(bif decide (c2=(47:Int)) then (q2k a1 (0:Int) a2).bind fun (s3:List UInt8)=>some (Sum.inl ((s3,()),((),()))) else q05 (IntKind.wrap .i64 (a2 - (1:Int))) fun (n4:Int)=>rec a1 n4) else some (Sum.inr (((),((),())))))
def qqy (n:Nat) (rec:pSt qd0→Option (q0d q72)) (p:pSt qd0):Option (q0d q72):=qgs n (fun a1 a2=>rec ((a1,(a2,())),((),()))) p.1.1 p.1.2.1
def q7l (n m:Nat) (a1:List UInt8) (a2:Int):Option ((((List UInt8)×(Unit))×(Unit)×(Unit))⊕((Unit)×(Unit)×(Unit))):=q0e (qqy n) m ((a1,(a2,())),((),()))
theorem q8k (n m:Nat) (a1:List UInt8) (a2:Int):q7l n (m+1) a1 a2=qgs n (fun a1 a2=>q7l n m a1 a2) a1 a2:=rfl
def j3y (n:Nat):LC:={ sh:=qd0,outs:=q72,F:=q0e (qqy n) n }
def qky (n:Nat):List LC:=[j3y n]
def qno (n:Nat) (a1:List UInt8):Option (List UInt8) :=
 q05 (IntKind.wrap .i64 (((List.length a1:Nat):Int) - (1:Int))) fun (n1:Int)=>(q7l n n a1 n1).bind fun (o5:(((List UInt8)×(Unit))×(Unit)×(Unit))⊕((Unit)×(Unit)×(Unit)))=>Sum.elim (fun (q6:((List UInt8)×(Unit))×(Unit)×(Unit))=>some q6.1.1) (fun (q7:(Unit)×(Unit)×(Unit))=>some ([]:List UInt8)) o5
def qb1 (n:Nat):FC:={ f:=71,args:=[.one (.c (.d .str))],res:=.one (.c (.d .str)),F:=fun p=>qno n p }
def qsv (n:Nat):List FC:=[]
theorem qqg (n:Nat) {G:World→Prop} (hG:Know Inv G) : ∀ c∈qsv n,q0w Tryz.prog G c∧q09 c.args=true:=(fun _ h=>by cases h)
def qrc:q08:=[]
theorem j6i:drB qrc (q00 Tryz.f71)=true:=by kernel_rfl
theorem jgs (n:Nat) : ∀ rec p,qqy n rec p=round Tryz.prog 18 (qsv n) (qky n) qrc 1 qd0 q72 (q01 0 0 (q00 Tryz.f71)) rec p:=by intro rec p;kernel_rfl
theorem jbk (n:Nat) {F:Fr} (hF:F.n=18) (hK:Know Inv F.G):q6a Tryz.prog F (j3y n) (q01 0 0 (q00 Tryz.f71)) :=
 q0g hF (by kernel_rfl) (qqg n hK) (jgs n) (fuel:=n) (fun _=>rfl) (q02 fun j L h1 h2 h3=>absurd h2 (Nat.not_lt.2 (Nat.le_trans (by decide +kernel) h1))) (q0n j6i)
theorem jmo (n:Nat) : ∀ a,(qb1 n).F a=main Tryz.prog 18 (qsv n) (qky n) qrc (q00 Tryz.f71) [.tmp 2] (qb1 n).args (qb1 n).res a:=by intro a;kernel_rfl
theorem jn0 (n:Nat):q0c Inv Tryz.prog (qb1 n):=fun G hG=>⟨⟨by kernel_rfl,fun a r h=>q03 (c:=q00 Tryz.f71) Tryz.func71 (by kernel_rfl) (by kernel_rfl) (Nat.le_of_ble_eq_true (by kernel_rfl)) hG.st (by kernel_rfl) (rs:=[.tmp 2]) (by kernel_rfl) (qqg n hG) (lts:=qky n) (fun F hF hFG=>have hK:Know Inv F.G:=hFG ▸ hG;(q02 (c:=(q00 Tryz.f71)) (fun j L h1 h2 h3=>by
  have h2':j<1:=Nat.lt_of_lt_of_le h2 (by decide +kernel)
  match j,h1,h2',h3 with
  | 0,_,_,h3=>obtain rfl:=Option.some.inj h3;exact (show q01 0 0 (q00 Tryz.f71)=q01 0 0 (q00 Tryz.f71) by kernel_rfl) ▸ jbk n hF hK
  | j+1,_,h2',_=>exact absurd h2' (by omega)))) j6i ((jmo n a).symm.trans h)⟩,rfl⟩
def qto (n:Nat):List LC:=[]
def qg0 (n:Nat) (a1:List UInt8):Option ((List UInt8)×(Int×(Bool))) :=
 (qg1 n a1).bind fun (r1:Bool)=>(bif !r1 then some (([]:List UInt8),((0:Int),false)) else (q2b n a1 (47:Int)).bind fun (r2:List (List UInt8))=>q05 (IntKind.wrap .i64 (((List.length r2:Nat):Int) - (1:Int))) fun (n3:Int)=>(q0z r2 n3).bind fun (x4:List UInt8)=>(qc2 n x4).bind fun (r5:Bool)=>(bif !r5 then some (a1,((0:Int),true)) else (qno n a1).bind fun (r6:List UInt8)=>(q8q n x4).bind fun (r7:Int)=>some (r6,(r7,true))))
def q8c (n:Nat):FC:={ f:=45,args:=[.one (.c (.d .str))],res:=.tup [.c (.d .str),.c (.d (.int .i64)),.c (.d .bool)],F:=fun p=>qg0 n p }
def qxp (n:Nat):List FC:=[q94 n,q1l n,q67 n,qb1 n,q4b n]
theorem j3m (n:Nat) {G:World→Prop} (hG:Know Inv G) : ∀ c∈qxp n,q0w Tryz.prog G c∧q09 c.args=true:=List.forall_mem_cons.2 ⟨jis n G hG,List.forall_mem_cons.2 ⟨q8f n G hG,List.forall_mem_cons.2 ⟨qvj n G hG,List.forall_mem_cons.2 ⟨jn0 n G hG,List.forall_mem_cons.2 ⟨qt5 n G hG,(fun _ h=>by cases h)⟩⟩⟩⟩⟩
def qvz:q08:=[]
theorem jgv:drB qvz (q00 Tryz.f45)=true:=by kernel_rfl
theorem jic (n:Nat) : ∀ a,(q8c n).F a=main Tryz.prog 26 (qxp n) (qto n) qvz (q00 Tryz.f45) [.tmp 2,.tmp 3,.tmp 4] (q8c n).args (q8c n).res a:=by intro a;kernel_rfl
theorem jhx (n:Nat):q0c Inv Tryz.prog (q8c n):=fun G hG=>⟨⟨by kernel_rfl,fun a r h=>q03 (c:=q00 Tryz.f45) Tryz.func45 (by kernel_rfl) (by kernel_rfl) (Nat.le_of_ble_eq_true (by kernel_rfl)) hG.st (by kernel_rfl) (rs:=[.tmp 2,.tmp 3,.tmp 4]) (by kernel_rfl) (j3m n hG) (lts:=qto n) (fun F hF hFG=>have hK:Know Inv F.G:=hFG ▸ hG;(q02 fun j L h1 h2 h3=>absurd h2 (Nat.not_lt.2 (Nat.le_trans (by decide +kernel) h1)))) jgv ((jic n a).symm.trans h)⟩,rfl⟩
def qv7 (n:Nat):List LC:=[]
def qmx (n:Nat) (a1:List UInt8) (a2:Int×(Int×(Int×((List UInt8)×(List UInt8))))):Option (Bool) :=
 (qg0 n a1).bind fun (r1:(List UInt8)×(Int×(Bool)))=>(bif !r1.2.2 then some false else (qfw n a2).bind fun (r2:Bool)=>(bif !r2 then some false else (bif decide (a2.1=r1.2.1) then some true else (bif decide (r1.2.1=(0:Int)) then some (decide (a2.1=(1:Int))) else some false))))
def qbv (n:Nat):FC:={ f:=23,args:=[.one (.c (.d .str)),.one (.agg [.d (.int .i64),.d (.int .i64),.d (.int .i64),.d .str,.d .str])],res:=.one (.c (.d .bool)),F:=fun p=>qmx n p.1 p.2 }
def j5d (n:Nat):List FC:=[q8c n,q8p n]
theorem ja0 (n:Nat) {G:World→Prop} (hG:Know Inv G) : ∀ c∈j5d n,q0w Tryz.prog G c∧q09 c.args=true:=List.forall_mem_cons.2 ⟨jhx n G hG,List.forall_mem_cons.2 ⟨j2u n G hG,(fun _ h=>by cases h)⟩⟩
def j38:q08:=[]
theorem jn2:drB j38 (q00 Tryz.f23)=true:=by kernel_rfl
theorem jk1 (n:Nat) : ∀ a,(qbv n).F a=main Tryz.prog 34 (j5d n) (qv7 n) j38 (q00 Tryz.f23) [.tmp 4] (qbv n).args (qbv n).res a:=by intro a;kernel_rfl
theorem joa (n:Nat):q0c Inv Tryz.prog (qbv n):=fun G hG=>⟨⟨by kernel_rfl,fun a r h=>q03 (c:=q00 Tryz.f23) Tryz.func23 (by kernel_rfl) (by kernel_rfl) (Nat.le_of_ble_eq_true (by kernel_rfl)) hG.st (by kernel_rfl) (rs:=[.tmp 4]) (by kernel_rfl) (ja0 n hG) (lts:=qv7 n) (fun F hF hFG=>have hK:Know Inv F.G:=hFG ▸ hG;(q02 fun j L h1 h2 h3=>absurd h2 (Nat.not_lt.2 (Nat.le_trans (by decide +kernel) h1)))) jn2 ((jk1 n a).symm.trans h)⟩,rfl⟩
end Go.Proofs.YtapfankgdkdkgaaGreatDoor.AM
namespace Go.Proofs.YtapfankgdkdkgaaGreatDoor.AM
open Go.RowKit
set_option linter.unusedVariables false
set_option linter.unusedSimpArgs false
theorem q2p (n:Nat) (s:List UInt8) (c:UInt8) (hs:s.length≤1000000) : ∀ (m i fr:Nat) (out:List (List UInt8)),i≤s.length→s.length - i+1<m→fr≤i→out.length≤i →
  q1b n m s ((c.toNat:Nat):Int) (fr:Int) (i:Int) out=some (((),()),((),(out++spl c ((s.drop fr).take (i - fr)) (s.drop i),())))
 | 0,i,fr,_,_,h,_,_=>absurd h (Nat.not_lt_zero _)
 | m+1,i,fr,out,hi,h,hf,ho=>by
  rw [q1p]
  unfold q2u
  have c0:((i:Nat):Int)≤((s.length:Nat):Int):=by omega
  have w1:=q0a (show i<4611686018427387904 by omega)
  have s1:q2k s ((fr:Nat):Int) ((i:Nat):Int)=some ((s.drop fr).take (i - fr)):=sub_le hf hi
  have a1:q4q 16 out [(s.drop fr).take (i - fr)]=some (out ++ [(s.drop fr).take (i - fr)]):=q7c (by simp;omega)
  by_cases c1:i=s.length
  ·have c1':((i:Nat):Int)=((s.length:Nat):Int):=by omega
   have hd:s.drop i = []:=List.drop_eq_nil_of_le (by omega)
   simp only [c0,c1',decide_true,cond_true]
   rw [← c1',s1,Option.bind_some,a1,Option.bind_some,hd]
   simp only [q05,w1]
   cases m with
   | zero=>omega
   | succ m =>
    rw [q1p]
    unfold q2u
    have c2 : ¬ ((i+1:Nat):Int)≤((s.length:Nat):Int):=by omega
    simp only [c2,Int.le_refl,decide_true,decide_false,cond_true,cond_false]
    rfl
  ·have c1' : ¬ ((i:Nat):Int)=((s.length:Nat):Int):=by omega
   have hi':i<s.length:=by omega
   have hd:s.drop i=s[i]::s.drop (i+1):=List.drop_eq_getElem_cons hi'
   simp only [c0,c1',decide_true,decide_false,cond_true,cond_false,q3g hi',Option.bind_some,q05,w1,s1,a1]
   have hc:decide (((s[i].toNat:Nat):Int)=((c.toNat:Nat):Int))=decide (s[i]=c):=by
    apply decide_eq_decide.2
    constructor
    ·intro hh;exact UInt8.toNat_inj.1 (by omega)
    ·intro hh;rw [hh]
   rw [hc,hd,spl]
   by_cases c2:s[i]=c
   ·simp only [c2,decide_true,cond_true,if_true]
    rw [q2p n s c hs m (i+1) (i+1) (out ++ [(s.drop fr).take (i - fr)]) (by omega) (by omega) (Nat.le_refl _) (by simp;omega)]
    simp
   ·simp only [c2,decide_false,cond_false,if_false]
    rw [q2p n s c hs m (i+1) fr out (by omega) (by omega) (by omega) (by omega)]
    have e1:(s.drop fr).take (i+1 - fr)=(s.drop fr).take (i - fr) ++ [s[i]]:=by
     rw [show i+1 - fr=(i - fr)+1 from by omega,List.take_add_one,List.getElem?_drop,show fr+(i - fr)=i from by omega,List.getElem?_eq_getElem hi']
     rfl
    rw [e1]
theorem qaz (n:Nat) (s:List UInt8) (c:UInt8) (hs:s.length≤1000000) (hn:s.length+1<n):q2b n s ((c.toNat:Nat):Int)=some (spl c [] s):=by
 unfold q2b
 have h:=q2p n s c hs n 0 0 [] (Nat.zero_le _) (by omega) (Nat.le_refl _) (Nat.zero_le _)
 rw [show ((0:Nat):Int)=(0:Int) from rfl] at h
 rw [h]
 simp
theorem qlc (n:Nat) (s:List UInt8) (hL:s.length≤1000000) : ∀ m j:Nat,j≤s.length→s.length - j<m→q5q n m s (j:Int)=some (if (s.drop j).all q18=true then Sum.inr ((s,()),((),())) else Sum.inl ((false,()),((),())))
 | 0,j,_,h=>absurd h (Nat.not_lt_zero _)
 | m+1,j,hj,h=>by
  rw [qhp]
  unfold qjn
  by_cases c0:j<s.length
  ·have c0':((j:Nat):Int)<((s.length:Nat):Int):=by omega
   have ih:=qlc n s hL m (j+1) (by omega) (by omega)
   have hd:s.drop j=s[j]::s.drop (j+1):=(List.drop_eq_getElem_cons c0)
   simp only [c0',decide_true,cond_true,q3g c0,Option.bind_some,q05,q0a (show j<4611686018427387904 by omega),ih,hd,List.all_cons]
   unfold q18
   by_cases h1:s[j].toNat<48
   ·have e1:((s[j].toNat:Nat):Int)<48:=by omega
    have e2 : ¬ 48≤s[j].toNat:=by omega
    simp [e1,e2]
   ·have e1 : ¬ ((s[j].toNat:Nat):Int)<48:=by omega
    have e2:48≤s[j].toNat:=by omega
    by_cases h2:57<s[j].toNat
    ·have e3:(57:Int)<((s[j].toNat:Nat):Int):=by omega
     have e4 : ¬ s[j].toNat≤57:=by omega
     simp [e1,e2,e3,e4]
    ·have e3 : ¬ (57:Int)<((s[j].toNat:Nat):Int):=by omega
     have e4:s[j].toNat≤57:=by omega
     simp [e1,e2,e3,e4]
  ·have c0' : ¬ ((j:Nat):Int)<((s.length:Nat):Int):=by omega
   have:s.drop j = []:=List.drop_eq_nil_of_le (by omega)
   simp [c0',this]
theorem j6v (n:Nat) (s:List UInt8) (hL:s.length≤1000000) (hn:s.length<n):qhr n s=some (q42 s):=by
 unfold qhr q42
 have:=qlc n s hL n 0 (Nat.zero_le _) (by omega)
 rw [show ((0:Nat):Int)=(0:Int) from rfl] at this
 rw [this,List.drop_zero]
 cases s.all q18<;>rfl
theorem jeb (c:UInt8):qnn c=((decide ((97:Int)≤((c.toNat:Nat):Int))&&decide (((c.toNat:Nat):Int)≤(122:Int)))||(decide ((65:Int)≤((c.toNat:Nat):Int))&&decide (((c.toNat:Nat):Int)≤(90:Int)))||(decide ((48:Int)≤((c.toNat:Nat):Int))&&decide (((c.toNat:Nat):Int)≤(57:Int)))||decide (((c.toNat:Nat):Int)=(45:Int))):=by
 unfold qnn q18
 have h1:decide ((97:Int)≤((c.toNat:Nat):Int))=decide (97≤c.toNat):=decide_eq_decide.2 (by omega)
 have h2:decide (((c.toNat:Nat):Int)≤(122:Int))=decide (c.toNat≤122):=decide_eq_decide.2 (by omega)
 have h3:decide ((65:Int)≤((c.toNat:Nat):Int))=decide (65≤c.toNat):=decide_eq_decide.2 (by omega)
 have h4:decide (((c.toNat:Nat):Int)≤(90:Int))=decide (c.toNat≤90):=decide_eq_decide.2 (by omega)
 have h5:decide (((c.toNat:Nat):Int)=(45:Int))=decide (c.toNat=45):=decide_eq_decide.2 (by omega)
 have h6:decide ((48:Int)≤((c.toNat:Nat):Int))=decide (48≤c.toNat):=decide_eq_decide.2 (by omega)
 have h7:decide (((c.toNat:Nat):Int)≤(57:Int))=decide (c.toNat≤57):=decide_eq_decide.2 (by omega)
 rw [h1,h2,h3,h4,h5,h6,h7]
theorem qeb (n:Nat) (z:Bool) (l:List (List UInt8)) (i:Nat) (hi:i<l.length) (w:List UInt8) (hw:l[i]=w) (hL:w.length≤1000000) : ∀ m j:Nat,j≤w.length→w.length - j<m→q5v n m z l (i:Int) (j:Int)=some (if (w.drop j).all qnn=true then Sum.inr ((z,(l,((i:Int),()))),((),())) else Sum.inl ((false,()),((),())))
 | 0,j,_,h=>absurd h (Nat.not_lt_zero _)
 | m+1,j,hj,h=>by
  rw [qga]
  unfold qkw
  have e0:q0z l ((i:Nat):Int)=some w:=by rw [q0x hi,hw]
  by_cases c0:j<w.length
  ·have c0':((j:Nat):Int)<((w.length:Nat):Int):=by omega
   have ih:=qeb n z l i hi w hw hL m (j+1) (by omega) (by omega)
   have hd:w.drop j=w[j]::w.drop (j+1):=(List.drop_eq_getElem_cons c0)
   simp only [e0,Option.bind_some,c0',decide_true,cond_true,q3g c0,q05,q0a (show j<4611686018427387904 by omega),ih,hd,List.all_cons,jeb]
   cases decide ((97:Int)≤((w[j].toNat:Nat):Int))<;>cases decide (((w[j].toNat:Nat):Int)≤(122:Int))<;>cases decide ((65:Int)≤((w[j].toNat:Nat):Int))<;>cases decide (((w[j].toNat:Nat):Int)≤(90:Int))<;>cases decide ((48:Int)≤((w[j].toNat:Nat):Int))<;>cases decide (((w[j].toNat:Nat):Int)≤(57:Int))<;>cases decide (((w[j].toNat:Nat):Int)=(45:Int))<;>rfl
  ·have c0' : ¬ ((j:Nat):Int)<((w.length:Nat):Int):=by omega
   have:w.drop j = []:=List.drop_eq_nil_of_le (by omega)
   simp only [e0,Option.bind_some,c0',decide_false,cond_false,this,List.all_nil,if_true]
def q89 (z:Bool) (w:List UInt8):Bool:=q29 w&&(z || !(q42 w&&(decide (1<w.length)&&decide (w.head? = some 48))))
theorem j4w (w:List UInt8):q89 true w=q29 w:=by unfold q89;simp
theorem j04 (w:List UInt8):q89 false w=q45 w:=by
 unfold q89 q45
 cases w with
 | nil=>simp [q29]
 | cons c r =>
  cases hn:q42 (c::r) with
  | false=>simp
  | true =>
   by_cases hc:c=48
   ·subst hc
    cases r with
    | nil=>simp
    | cons d r=>simp
   ·simp [hc]
theorem qim (n:Nat) (z:Bool) (l:List (List UInt8)) (hl:l.length≤1000000) (hw : ∀ w∈l,w.length≤1000000∧w.length<n) : ∀ m i:Nat,i≤l.length→l.length - i<m→q5t n m z l (i:Int)=some (if (l.drop i).all (q89 z)=true then Sum.inr ((),((),())) else Sum.inl ((false,()),((),())))
 | 0,j,_,h=>absurd h (Nat.not_lt_zero _)
 | m+1,i,hi,h=>by
  rw [qgl]
  unfold qjz
  by_cases c0:i<l.length
  ·have c0':((i:Nat):Int)<((l.length:Nat):Int):=by omega
   have ih:=qim n z l hl hw m (i+1) (by omega) (by omega)
   have hd:l.drop i=l[i]::l.drop (i+1):=(List.drop_eq_getElem_cons c0)
   have hww:=hw l[i] (List.getElem_mem c0)
   have h1:=qeb n z l i c0 l[i] rfl hww.1 n 0 (Nat.zero_le _) (by omega)
   rw [show ((0:Nat):Int)=(0:Int) from rfl,List.drop_zero] at h1
   rw [hd,List.all_cons]
   simp only [c0',decide_true,cond_true,h1,Option.bind_some]
   rw [show q89 z l[i]=((l[i].all qnn && !decide (l[i] = []))&&(z || !(q42 l[i]&&(decide (1<l[i].length)&&decide (l[i].head? = some 48))))) from rfl]
   cases hs:l[i].all qnn with
   | false=>simp
   | true =>
    simp only [if_true,Sum.elim_inr,q0x c0,Option.bind_some,j6v n _ hww.1 hww.2,q05,q0a (show i<4611686018427387904 by omega),ih]
    generalize hx:l[i]=x at hs hww
    cases x with
    | nil=>simp
    | cons c r =>
     have h0:sAt (c::r) (0:Int)=some ((c.toNat:Nat):Int):=q3g (s:=c::r) (j:=0) (by simp)
     have h2:decide (((c.toNat:Nat):Int)=(48:Int))=decide ((c::r).head? = some 48):=decide_eq_decide.2 (by
      simp only [List.head?_cons,Option.some.injEq]
      constructor
      ·intro h;exact UInt8.toNat_inj.1 (by have e48:(48:UInt8).toNat=48:=rfl;rw [e48];omega)
      ·rintro rfl;rfl)
     have h3:decide ((1:Int)<(((c::r).length:Nat):Int))=decide (1<(c::r).length):=decide_eq_decide.2 (by omega)
     have e0:decide (c::r=([]:List UInt8))=false:=by simp
     simp only [h0,h2,h3,e0,Option.bind_some,cond_false]
     cases z<;>cases q42 (c::r)<;>cases decide (1<(c::r).length)<;>cases decide ((c::r).head? = some 48)<;>simp
  ·have c0' : ¬ ((i:Nat):Int)<((l.length:Nat):Int):=by omega
   have:l.drop i = []:=List.drop_eq_nil_of_le (by omega)
   simp only [c0',decide_false,cond_false,this,List.all_nil,if_true]
theorem qlk (n:Nat) (s:List UInt8) (z:Bool) (hs:s.length≤100000) (hn:s.length+2<n):q8g n s z=some ((spl 46 [] s).all (q89 z)):=by
 unfold q8g
 have e1:q2b n s (46:Int)=some (spl 46 [] s):=qaz n s 46 (by omega) (by omega)
 rw [e1]
 have k:=q8a 46 s []
 have h:=qim n z (spl 46 [] s) (by omega) (fun w hw=>by have:=qck 46 s [] w hw;simp at this;omega) n 0 (Nat.zero_le _) (by omega)
 rw [show ((0:Nat):Int)=(0:Int) from rfl,List.drop_zero] at h
 simp only [Option.bind_some,h]
 cases (spl 46 [] s).all (q89 z)<;>rfl
theorem jjw (n:Nat) (a:Int):qv6 n a=some (jem a):=by
 unfold qv6 jem
 cases decide ((0:Int)≤a)<;>rfl
theorem qty (n:Nat) (v:VD) (hn:100≤n):qfw n v=some (q1m v):=by
 unfold qfw q1m
 simp only [jjw,Option.bind_some]
 cases jem v.1 with
 | false=>rfl
 | true=>cases jem v.2.1 with
  | false=>rfl
  | true=>cases jem v.2.2.1 with
   | false=>rfl
   | true =>
    simp only [Bool.not_true,cond_false,Bool.true_and]
    unfold q5h
    have f1:(q89 true)=q29:=funext j4w
    have f2:(q89 false)=q45:=funext j04
    by_cases c1:(30:Int)<((v.2.2.2.1.length:Nat):Int)
    ·have e1:v.2.2.2.1 ≠ []:=fun e=>by rw [e] at c1;simp at c1
     have e2 : ¬ v.2.2.2.1.length≤30:=by omega
     simp [c1,e1,e2]
    ·by_cases c2:(30:Int)<((v.2.2.2.2.length:Nat):Int)
     ·have e1:v.2.2.2.2 ≠ []:=fun e=>by rw [e] at c2;simp at c2
      have e2 : ¬ v.2.2.2.2.length≤30:=by omega
      simp [c1,c2,e1,e2]
     ·have l1:v.2.2.2.1.length≤30:=by omega
      have l2:v.2.2.2.2.length≤30:=by omega
      have r1:=qlk n v.2.2.2.1 false (by omega) (by omega)
      have r2:=qlk n v.2.2.2.2 true (by omega) (by omega)
      rw [f2] at r1
      rw [f1] at r2
      simp only [c1,c2,decide_false,cond_false,r1,r2,l1,l2,decide_true,Bool.true_and,Option.bind_some]
      by_cases p:v.2.2.2.1 = []
      ·by_cases q:v.2.2.2.2 = []<;>simp [p,q]
      ·by_cases q:v.2.2.2.2 = []
       ·simp only [p,q,decide_false,decide_true,cond_false,cond_true,Bool.false_or,Bool.true_or,Bool.and_true]
        cases (spl 46 [] v.2.2.2.1).all q45<;>rfl
       ·simp only [p,q,decide_false,decide_true,cond_false,cond_true,Bool.false_or]
        cases (spl 46 [] v.2.2.2.1).all q45<;>rfl
end Go.Proofs.YtapfankgdkdkgaaGreatDoor.AM
namespace Go.Proofs.YtapfankgdkdkgaaGreatDoor.AM
open Go.RowKit
set_option linter.unusedVariables false
set_option linter.unusedSimpArgs false
theorem jh7 (n:Nat) (s:List UInt8) (hL:s.length≤1000000) (hn:s.length<n):j05 n s=some (q2g s):=by
 unfold j05 q2g
 have hg:=jeo 47 s
 obtain ⟨k,hk⟩ : ∃ k:Nat,q92 47 s+1=(k:Int):=⟨(q92 47 s+1).toNat,by omega⟩
 rw [qwa n s hL hn]
 simp only [Option.bind_some,q05]
 rw [hk,wrap64 (by omega) (by omega),sub_le (by omega) (Nat.le_refl _)]
 simp only [Option.bind_some,Int.toNat_natCast]
 rw [List.take_of_length_le (by rw [List.length_drop];exact Nat.le_refl _)]
theorem jqp (s:List UInt8):(q2j s).length≤s.length:=by unfold q2j;rw [List.length_take];omega
theorem jco (s:List UInt8):(q2g s).length≤s.length:=by unfold q2g;rw [List.length_drop];omega
theorem j95 {s:List UInt8} (h:q1n s=true):q1o s=s.drop 1:=by
 unfold q1n at h
 simp only [Bool.and_eq_true,decide_eq_true_eq] at h
 unfold q1o;rw [if_pos h.1]
theorem qt8 (n:Nat) (s:List UInt8) (hL:s.length≤1000000) (hn:s.length<n):qib n s=some (qce s):=by
 have hb:=jqp s
 have hl:=jco s
 have e1:qpy s=some (q2j s):=if_pos hL
 have e2:j4v (q2j s)=some (anyS (q2j s)):=if_pos (by omega)
 have e3:qwq (q2g s)=some (numOf (q1o (q2g s)),qv3 (q1o (q2g s))):=if_pos (by omega)
 have e4:qsl s=some (q56 s):=rfl
 unfold qib qce okS
 simp only [e1,e2,e3,e4,jh7 n s hL hn,qq3 n (q2g s) (by omega),Option.bind_some]
 cases q56 s with
 | false=>rfl
 | true=>cases anyS (q2j s) with
  | true=>rfl
  | false=>cases ht:q1n (q2g s) with
   | false=>rfl
   | true =>
    rw [j95 ht]
    cases qv3 ((q2g s).drop 1) with
    | false=>rfl
    | true =>
     by_cases h0:q2j s = []
     ·simp [h0]
     ·simp [h0]
theorem qzm (s:List UInt8):(qce s).2.2=okS s:=by
 unfold qce
 cases okS s with
 | false=>rfl
 | true=>cases q1n (q2g s)<;>rfl
theorem qeu (n:Nat) (s:List UInt8) (hL:s.length≤1000000) (hn:s.length<n):qd6 n s=some (okS s):=by
 unfold qd6
 rw [qt8 n s hL hn,← qzm];rfl
def q3p (p:List UInt8) (v:VD):Bool:=okS p&&(q1m v&&(if (qce p).2.1=0 then decide (v.1<2) else decide (v.1=(qce p).2.1)))
theorem jhd (n:Nat) (s:List UInt8) (v:VD) (hL:s.length≤1000000) (hn:s.length<n) (h4:4≤n):j0d n s v=some (q3p s v):=by
 unfold j0d q3p
 rw [qt8 n s hL hn]
 simp only [Option.bind_some,qzm,q6u n v h4]
 cases okS s with
 | false=>rfl
 | true=>cases q1m v with
  | false=>rfl
  | true =>
   by_cases h:(qce s).2.1=0
   ·simp [h]
   ·simp [h]
theorem j81 (c:UInt8):qa3 c=((decide ((97:Int)≤((c.toNat:Nat):Int))&&decide (((c.toNat:Nat):Int)≤(122:Int)))||(decide ((65:Int)≤((c.toNat:Nat):Int))&&decide (((c.toNat:Nat):Int)≤(90:Int)))||(decide ((48:Int)≤((c.toNat:Nat):Int))&&decide (((c.toNat:Nat):Int)≤(57:Int)))||decide (((c.toNat:Nat):Int)=(45:Int))||decide (((c.toNat:Nat):Int)=(95:Int))||decide (((c.toNat:Nat):Int)=(46:Int))):=by
 unfold qa3
 have h6:decide (((c.toNat:Nat):Int)=(95:Int))=decide (c.toNat=95):=decide_eq_decide.2 (by omega)
 have h7:decide (((c.toNat:Nat):Int)=(46:Int))=decide (c.toNat=46):=decide_eq_decide.2 (by omega)
 rw [h6,h7,← jeb]
theorem qro (n:Nat) (s:List UInt8) (hL:s.length≤1000000) : ∀ m j:Nat,j≤s.length→s.length - j<m→q79 n m s (j:Int)=some (if (s.drop j).all qa3=true then Sum.inr ((s,()),((),())) else Sum.inl ((false,()),((),())))
 | 0,j,_,h=>absurd h (Nat.not_lt_zero _)
 | m+1,j,hj,h=>by
  rw [qko]
  unfold qr6
  by_cases c0:j<s.length
  ·have c0':((j:Nat):Int)<((s.length:Nat):Int):=by omega
   have ih:=qro n s hL m (j+1) (by omega) (by omega)
   have hd:s.drop j=s[j]::s.drop (j+1):=(List.drop_eq_getElem_cons c0)
   simp only [c0',decide_true,cond_true,q3g c0,Option.bind_some,q05,q0a (show j<4611686018427387904 by omega),ih,hd,List.all_cons]
   rw [j81]
   generalize (List.drop (j+1) s).all qa3=B
   generalize decide ((97:Int)≤((s[j].toNat:Nat):Int))=b1
   generalize decide (((s[j].toNat:Nat):Int)≤(122:Int))=b2
   generalize decide ((65:Int)≤((s[j].toNat:Nat):Int))=b3
   generalize decide (((s[j].toNat:Nat):Int)≤(90:Int))=b4
   generalize decide ((48:Int)≤((s[j].toNat:Nat):Int))=b5
   generalize decide (((s[j].toNat:Nat):Int)≤(57:Int))=b6
   generalize decide (((s[j].toNat:Nat):Int)=(45:Int))=b7
   generalize decide (((s[j].toNat:Nat):Int)=(95:Int))=b8
   generalize decide (((s[j].toNat:Nat):Int)=(46:Int))=b9
   cases b1<;>cases b2<;>cases b3<;>cases b4<;>cases b5<;>cases b6<;>cases b7<;>cases b8<;>cases b9<;>rfl
  ·have c0' : ¬ ((j:Nat):Int)<((s.length:Nat):Int):=by omega
   have:s.drop j = []:=List.drop_eq_nil_of_le (by omega)
   simp [c0',this]
theorem jas (n:Nat) (s:List UInt8) (hL:s.length≤1000000) (hn:s.length<n):qmy n s=some (qav s):=by
 unfold qmy qav
 have:=qro n s hL n 0 (Nat.zero_le _) (by omega)
 rw [show ((0:Nat):Int)=(0:Int) from rfl] at this
 rw [this,List.drop_zero]
 cases s.all qa3 with
 | true =>
  simp only [if_true,Option.bind_some,Sum.elim_inr]
  cases decide (s = [])<;>cases decide (s = [46])<;>cases decide (s = [46,46])<;>rfl
 | false =>
  simp only [Bool.false_eq_true,if_false,Option.bind_some,Sum.elim_inl]
  cases decide (s = [])<;>cases decide (s = [46])<;>cases decide (s = [46,46])<;>rfl
theorem qs9 (n:Nat) (l:List (List UInt8)) (hl:l.length≤1000000) (hw : ∀ w∈l,w.length≤1000000∧w.length<n) : ∀ m j:Nat,j≤l.length→l.length - j<m→q6z n m l (j:Int)=some (if (l.drop j).all qav=true then Sum.inr ((),((),())) else Sum.inl ((false,()),((),())))
 | 0,j,_,h=>absurd h (Nat.not_lt_zero _)
 | m+1,j,hj,h=>by
  rw [qjq]
  unfold qp6
  by_cases c0:j<l.length
  ·have c0':((j:Nat):Int)<((l.length:Nat):Int):=by omega
   have ih:=qs9 n l hl hw m (j+1) (by omega) (by omega)
   have hd:l.drop j=l[j]::l.drop (j+1):=(List.drop_eq_getElem_cons c0)
   have hm:=hw l[j] (List.getElem_mem c0)
   simp only [c0',decide_true,cond_true,q0x c0,Option.bind_some,jas n l[j] hm.1 hm.2,q05,q0a (show j<4611686018427387904 by omega),ih,hd,List.all_cons]
   cases qav l[j]<;>simp
  ·have c0' : ¬ ((j:Nat):Int)<((l.length:Nat):Int):=by omega
   have:l.drop j = []:=List.drop_eq_nil_of_le (by omega)
   simp [c0',this]
theorem jb4 (n:Nat) (s:List UInt8) (hL:s.length≤1000000) (hn:100≤n):qny n s=some (q56 s):=by
 unfold qny q56
 by_cases h:s.length≤60
 ·have h' : ¬ (60:Int)<((s.length:Nat):Int):=by omega
  have hlen:=q8a 47 s []
  have hw : ∀ w∈spl 47 [] s,w.length≤s.length:=fun w hm=>by have:=qck 47 s [] w hm;simpa using this
  have:=qs9 n (spl 47 [] s) (by omega) (fun w hm=>⟨by have:=hw w hm;omega,by have:=hw w hm;omega⟩) n 0 (Nat.zero_le _) (by omega)
  rw [show ((0:Nat):Int)=(0:Int) from rfl] at this
  simp only [h',decide_false,cond_false]
  rw [show (47:Int)=(((47:UInt8).toNat:Nat):Int) from rfl,qaz n s 47 hL (by omega)]
  simp only [Option.bind_some]
  rw [this,List.drop_zero]
  cases (spl 47 [] s).all qav<;>simp [h]
 ·have h':(60:Int)<((s.length:Nat):Int):=by omega
  simp [h,h']
end Go.Proofs.YtapfankgdkdkgaaGreatDoor.AM
namespace Go.Proofs.YtapfankgdkdkgaaGreatDoor.AM
open Go.RowKit
set_option linter.unusedVariables false
set_option linter.unusedSimpArgs false
abbrev Rq:=List UInt8×VD
abbrev Sw:=List UInt8×List UInt8
abbrev Sp:=Int×(Int×(Int×(List UInt8×(List UInt8×VD))))
def jvq (a b:VD):Sp:=(a.1,(a.2.1,(a.2.2.1,(a.2.2.2.1,(a.2.2.2.2,b)))))
def jiz (x:Sp):VD:=(x.1,(x.2.1,(x.2.2.1,(x.2.2.2.1,x.2.2.2.2.1))))
def qtd (x:Sp):VD:=x.2.2.2.2.2
theorem jtw (a b:VD):jiz (jvq a b)=a:=rfl
theorem jl2 (a b:VD):qtd (jvq a b)=b:=rfl
abbrev MD:=List UInt8×(List UInt8×(List Rq×(List Sw×(List Rq×List Sp))))
abbrev Cl:=List UInt8×(List UInt8×VD)
abbrev jyz:=List (Cl×(Int×Int))
abbrev clT:Ty:=.prod .str (.prod .str (.prod (.int .i64) (.prod (.int .i64) (.prod (.int .i64) (.prod .str .str)))))
abbrev qnh:List UInt8:=[109,111,100,117,108,101]
abbrev kGo:List UInt8:=[103,111]
abbrev q8b:List UInt8:=[114,101,113,117,105,114,101]
abbrev qu2:List UInt8:=[101,120,99,108,117,100,101]
abbrev qu0:List UInt8:=[114,101,112,108,97,99,101]
abbrev jpz:List UInt8:=[114,101,116,114,97,99,116]
def j7f (t:List UInt8):Bool:=decide (t = [61,62])||(decide (t = [91])||(decide (t = [44])||(decide (t = [93])||(decide (t = [40])||decide (t = [41])))))
def qu1 (w:Lx.Wd):List UInt8:=if j7f w.1 then w.1 else [120]
def shp (ws:List Lx.Wd):List UInt8:=Lib.join (ws.map qu1) [32]
def unm (ws:List Lx.Wd):List Lx.Wd:=ws.filter fun w=>!j7f w.1
def q3v (v:List UInt8):List (List UInt8) :=
 if v=qnh then [[120]] else if v=kGo then [[120]] else if v=q8b then [[120,32,120]] else if v=qu2 then [[120,32,120]] else if v=qu0 then [[120,32,61,62,32,120]]
 else if v=jpz then [[120],[91,32,120,32,44,32,120,32,93]] else []
def qdi (v:List UInt8):Bool:=decide (v=q8b)||(decide (v=qu2)||(decide (v=qu0)||decide (v=jpz)))
def qif (s:List UInt8):Bool:=s.all q18&&(decide (1≤s.length)&&(decide (s.length≤9)&&(decide (s = [48]) || !decide (s.head? = some 48))))
def qos (x:List UInt8):Bool:=qif (q38 46 x)&&qif (qe2 46 x)
def ja4 (p v:List UInt8):Int⊕Rq:=if okS p=false then .inl 6 else if (q10 v).2=false then .inl 7 else if q3p p (q10 v).1=false then .inl 8 else .inr (p,(q10 v).1)
structure MS where
 mo:List UInt8
 go:List UInt8
 bk:List UInt8
 sd:jyz
 rq:List Rq
 sw:List Sw
 ex:List Rq
 rt:List Sp
def ms0:MS:=⟨[],[],[],[],[],[],[],[]⟩
def MS.md (σ:MS):MD:=(σ.mo,(σ.go,(σ.rq,(σ.sw,(σ.ex,σ.rt)))))
def q1w (σ:MS) (c:Cl) (st:Int) (w:Lx.Wd):Int⊕MS:=if (q0f clT c σ.sd).isSome then .inl 11 else .inr { σ with sd:=q41 clT c (st+w.2,st+w.2+(w.1.length:Nat)) σ.sd }
def qu3 (σ:MS) (st:Int) (v:List UInt8) (ws:List Lx.Wd):Int⊕MS :=
 match ws with
 | []=>.inl 10
 | w::ws' =>
  if v=qnh then (if okS w.1=false then .inl 6 else q1w { σ with mo:=w.1 } (qnh,([],v0)) st w)
  else if v=kGo then (if qos w.1=false then .inl 7 else q1w { σ with go:=w.1 } (kGo,([],v0)) st w)
  else if v=q8b then (match ja4 w.1 ((ws'.headD ([],0)).1) with
   | .inl e=>.inl e
   | .inr q=>q1w { σ with rq:=σ.rq ++ [q] } (q8b,(q.1,v0)) st (ws'.headD ([],0)))
  else if v=qu2 then (match ja4 w.1 ((ws'.headD ([],0)).1) with
   | .inl e=>.inl e
   | .inr q=>q1w { σ with ex:=σ.ex ++ [q] } (qu2,(q.1,q.2)) st (ws'.headD ([],0)))
  else if v=qu0 then (if okS w.1=false then .inl 6 else if q56 ((ws'.headD ([],0)).1)=false then .inl 6 else q1w { σ with sw:=σ.sw ++ [(w.1,(ws'.headD ([],0)).1)] } (qu0,(w.1,v0)) st (ws'.headD ([],0)))
  else if (q10 w.1).2=false then .inl 7 else if (q10 ((ws'.getLast?.getD w).1)).2=false then .inl 7
  else if 0<jx5 (q10 w.1).1 (q10 ((ws'.getLast?.getD w).1)).1 then .inl 7 else .inr { σ with rt:=σ.rt ++ [jvq (q10 w.1).1 (q10 ((ws'.getLast?.getD w).1)).1] }
def q6d (σ:MS) (st:Int) (v:List UInt8) (ws:List Lx.Wd):Int⊕MS:=if shp ws∈q3v v then qu3 σ st v (unm ws) else .inl 10
def q58 (σ:MS) (st:Int) (ws:List Lx.Wd):Int⊕MS :=
 match ws with
 | []=>.inr σ
 | w::ws' =>
  if σ.bk = [] then (if qdi w.1=true∧shp ws' = [40] then .inr { σ with bk:=w.1 } else q6d σ st w.1 ws')
  else if shp (w::ws') = [41] then .inr { σ with bk:=[] } else q6d σ st σ.bk (w::ws')
def q15 (t:List UInt8):List Lx.Wd:=(Lx.j7n t).1
def q1a:List (List UInt8)→Int→Int→MS→(Int×Int)⊕MS
 | [],_,_,σ=>.inr σ
 | t::ts,i,st,σ=>match q58 σ st (q15 t) with
  | .inl e=>.inl (i,e)
  | .inr σ'=>q1a ts (i+1) (st+((t.length:Nat):Int)+1) σ'
def qsn (s:List UInt8):(Int×Int)⊕(MS×Int) :=
 if (Lx.q4x (Lx.q0p s) 0 []).2.2≠0 then .inl ((Lx.q4x (Lx.q0p s) 0 []).2.1,(Lx.q4x (Lx.q0p s) 0 []).2.2)
 else match q1a (Lx.q0p s) 0 0 ms0 with
  | .inl e=>.inl e
  | .inr σ=>if σ.bk ≠ [] then .inl (((Lx.q0p s).length:Nat),10) else if σ.mo = [] then .inl (((Lx.q0p s).length:Nat),5) else .inr (σ,((Lx.q0p s).length:Nat))
abbrev md0:MD:=([],([],([],([],([],[])))))
def qcf (s:List UInt8):MD×(Int×Int):=match qsn s with
 | .inl e=>(md0,e)
 | .inr (σ,n)=>(σ.md,(n,0))
theorem qwx (a b:Cl):eqT clT a b=true↔a=b:=by
 obtain ⟨a1,a2,a3,a4,a5,a6,a7⟩:=a
 obtain ⟨b1,b2,b3,b4,b5,b6,b7⟩:=b
 show (decide (a1=b1)&&(decide (a2=b2)&&(decide (a3=b3)&&(decide (a4=b4)&&(decide (a5=b5)&&(decide (a6=b6)&&decide (a7=b7)))))))=true↔_
 simp only [Bool.and_eq_true,decide_eq_true_eq,Prod.mk.injEq]
theorem ju2 {a b:Cl} (h:a≠b):eqT clT a b=false:=by
 cases hb:eqT clT a b with
 | true=>exact absurd ((qwx a b).1 hb) h
 | false=>rfl
theorem qg8 (c c':Cl) (v:Int×Int) : ∀ l:jyz,q0f clT c (q41 clT c' v l)=bif eqT clT c c' then some v else q0f clT c l
 | []=>rfl
 | (k,y)::l=>by
  show q0f clT c (bif eqT clT c' k then (c',v)::l else (k,y)::q41 clT c' v l)=bif eqT clT c c' then some v else (bif eqT clT c k then some y else q0f clT c l)
  cases hk:eqT clT c' k with
  | true =>
   have hk':=(qwx c' k).1 hk
   subst hk'
   show (bif eqT clT c c' then some v else q0f clT c l)=_
   cases eqT clT c c'<;>rfl
  | false =>
   show (bif eqT clT c k then some y else q0f clT c (q41 clT c' v l))=_
   rw [qg8 c c' v l]
   cases hb:eqT clT c k with
   | true =>
    have:=(qwx c k).1 hb
    subst this
    have:eqT clT c c'=false:=by
     refine ju2 fun h=>?_
     subst h;rw [(qwx c c).2 rfl] at hk;cases hk
    rw [this];rfl
   | false=>rfl
theorem jy3 {c c':Cl} (h:c≠c') (v:Int×Int) (l:jyz):q0f clT c (q41 clT c' v l)=q0f clT c l:=by rw [qg8,ju2 h];rfl
end Go.Proofs.YtapfankgdkdkgaaGreatDoor.AM
namespace Go.Proofs
open Go.RowKit Go.Extern.Stop Go.Stop Go.Extern
set_option linter.unusedVariables false
set_option linter.unusedSimpArgs false
namespace YtapfankgdkdkgaaGreatDoor.AM
abbrev gC:Nat:=9
theorem jsj (z:Sem Value) (f:TypeId→Addr→Nat→Nat→Sem Value) (v:Value) :
  ReflectliteValue.method z f #[v]=(do match ← ReflectliteValue.parts v with|none=>z|some (t,a,fl)=>f t a fl (fl % 32)):=rfl
theorem k0d (v x:Value):ReflectliteValue.set #[v,x]=(do
  let (some (dst,a,fl),some (src,b,_)):=(← ReflectliteValue.parts v,← ReflectliteValue.parts x)
   | unsupported (.noEntry "extern/(internal/reflectlite.Value).Set.zeroValue")
  if fl / ReflectliteValue.flagAddr % 2==0 then unsupported (.noEntry "extern/(internal/reflectlite.Value).Set.unaddressable")
  let val ← loadVar src b
  if ← Rtype.directlyAssignable dst src then storeVar dst a val
  else if ← Rtype.implements dst src then
   if (← Rtype.kind src)==20 then
    match val with
    | .nilIface=>unsupported (.noEntry "extern/reflectlite: a nil value of one interface type handed on as a value of another")
    | _=>storeVar dst a val
   else storeVar dst a (.iface src val)
  else panicString ("reflectlite.Set: value of type " ++ (← Rtype.spelt src) ++ " is not assignable to type " ++ (← Rtype.spelt dst))
  pure (.tuple #[])):=rfl
theorem asMK (h:Value) (w:World):(Go.method 406 196 (.agg #[h]) "Kind").run Tryz.prog w = .ok (250,h) w:=by kernel_rfl
theorem asME (h:Value) (w:World):(Go.method 406 196 (.agg #[h]) "Elem").run Tryz.prog w = .ok (263,.agg #[h]) w:=by kernel_rfl
theorem asMI (h:Value) (w:World):(Go.method 406 196 (.agg #[h]) "Implements").run Tryz.prog w = .ok (264,.agg #[h]) w:=by kernel_rfl
theorem asMA (h:Value) (w:World):(Go.method 406 196 (.agg #[h]) "AssignableTo").run Tryz.prog w = .ok (261,.agg #[h]) w:=by kernel_rfl
theorem jwr (t:Addr) (w:World):(ReflectliteValue.unpack (.iface 136 (.pointer (some t)))).run Tryz.prog w
  = .ok (.agg #[.pointer (some ⟨gC,136,none⟩),.pointer (some ⟨w.heap.size,0,none⟩),.int .u64 150]) (w.alloc (.cells #[.pointer (some t)] 136)):=by kernel_rfl
theorem jvm (a:Addr) (w:World):(ReflectliteValue.methodAny (ReflectliteValue.valueError "reflectlite.Value.Type" 0) (fun t _ _ _=>ReflectliteType.toType t) #[.agg #[.pointer (some ⟨gC,136,none⟩),.pointer (some a),.int .u64 150]]).run Tryz.prog w
  = .ok (.iface 196 (.agg #[.pointer (some ⟨gC,136,none⟩)])) w:=by kernel_rfl
theorem jvx (w:World):((ReflectliteType.abiMethod fun t=>(fun a:Nat=>Value.int IntKind.u8 (a:Int)) <$> Rtype.kind t) #[.pointer (some ⟨gC,136,none⟩)]).run Tryz.prog w = .ok (.int .u8 22) w:=by kernel_rfl
theorem k13 (w:World):((ReflectliteType.abiMethod fun t=>(fun a:Nat=>Value.int IntKind.u8 (a:Int)) <$> Rtype.kind t) #[.pointer (some ⟨gC,126,none⟩)]).run Tryz.prog w = .ok (.int .u8 25) w:=by kernel_rfl
theorem jn9 (a:Addr) (w:World):(ReflectliteValue.parts (.agg #[.pointer (some ⟨gC,136,none⟩),.pointer (some a),.int .u64 150])).run Tryz.prog w = .ok (some (136,a,150)) w:=by kernel_rfl
theorem jnk:Tryz.prog.underlying 136=some (.pointer 126):=by kernel_rfl
theorem jw9 (a p:Addr) (W:World) (ha:W.cell? a=some (.pointer (some p))) :
  (ReflectliteValue.method (ReflectliteValue.valueError "reflectlite.Value.IsNil" 0) ReflectliteValue.isNil #[.agg #[.pointer (some ⟨gC,136,none⟩),.pointer (some a),.int .u64 150]]).run Tryz.prog W = .ok (.bool false) W:=by
 rw [jsj]
 simp only [Sem.run_bind,jn9,Result.andThen]
 simp [ReflectliteValue.isNil,loadVar,isAgg,underlying,jnk,ha,Result.andThen]
theorem jx7 (w:World):(ReflectliteType.method ReflectliteType.elem #[.agg #[.pointer (some ⟨gC,136,none⟩)]]).run Tryz.prog w = .ok (.iface 196 (.agg #[.pointer (some ⟨gC,126,none⟩)])) w:=by kernel_rfl
theorem k0p (w:World):(ReflectliteType.relation "Implements" ReflectliteType.implements_ #[.agg #[.pointer (some ⟨gC,126,none⟩)],.iface 196 (.agg #[.pointer (some ⟨gC,82,none⟩)])]).run Tryz.prog w = .ok (.bool true) w:=by kernel_rfl
theorem k0t (v:Value) (w:World):(ReflectliteType.typeOf #[.iface 126 v]).run Tryz.prog w = .ok (.iface 196 (.agg #[.pointer (some ⟨gC,126,none⟩)])) w:=by kernel_rfl
theorem k18 (w:World):(ReflectliteType.relation "AssignableTo" ReflectliteType.assignableTo #[.agg #[.pointer (some ⟨gC,126,none⟩)],.iface 196 (.agg #[.pointer (some ⟨gC,126,none⟩)])]).run Tryz.prog w = .ok (.bool true) w:=by kernel_rfl
theorem jy4 (w:World):(Rtype.elem? 136).run Tryz.prog w = .ok (some 126) w:=by kernel_rfl
theorem asMkT (p:Addr) (w:World):(ReflectliteValue.mk 126 p ReflectliteValue.flagAddr).run Tryz.prog w = .ok (.agg #[.pointer (some ⟨gC,126,none⟩),.pointer (some p),.int .u64 409]) w:=by kernel_rfl
theorem jrc (a p:Addr) (W:World) (ha:W.cell? a=some (.pointer (some p))) :
  (ReflectliteValue.method (ReflectliteValue.valueError "reflectlite.Value.Elem" 0) ReflectliteValue.elem #[.agg #[.pointer (some ⟨gC,136,none⟩),.pointer (some a),.int .u64 150]]).run Tryz.prog W
   = .ok (.agg #[.pointer (some ⟨gC,126,none⟩),.pointer (some p),.int .u64 409]) W:=by
 rw [jsj]
 simp only [Sem.run_bind,jn9,Result.andThen]
 simp [ReflectliteValue.elem,loadVar,isAgg,underlying,jnk,ha,Result.andThen,jy4,asMkT]
theorem k12 (n:Int) (w:World):(ReflectliteValue.unpack (.iface 126 (.agg #[.int .i64 n]))).run Tryz.prog w
  = .ok (.agg #[.pointer (some ⟨gC,126,none⟩),.pointer (some ⟨w.heap.size,0,none⟩),.int .u64 153]) (w.alloc (.cells #[.int .i64 n] 126)):=by kernel_rfl
theorem jxf (a:Addr) (w:World):(ReflectliteValue.parts (.agg #[.pointer (some ⟨gC,126,none⟩),.pointer (some a),.int .u64 409])).run Tryz.prog w = .ok (some (126,a,409)) w:=by kernel_rfl
theorem jz9 (a:Addr) (w:World):(ReflectliteValue.parts (.agg #[.pointer (some ⟨gC,126,none⟩),.pointer (some a),.int .u64 153])).run Tryz.prog w = .ok (some (126,a,153)) w:=by kernel_rfl
theorem k0m (w:World):(Rtype.directlyAssignable 126 126).run Tryz.prog w = .ok true w:=by kernel_rfl
theorem k0b (w:World):(sizeOf 126).run Tryz.prog w = .ok 1 w:=by kernel_rfl
theorem jw6 (t:Addr) (w:World):(ReflectliteValue.unpack (.iface 135 (.pointer (some t)))).run Tryz.prog w
  = .ok (.agg #[.pointer (some ⟨gC,135,none⟩),.pointer (some ⟨w.heap.size,0,none⟩),.int .u64 150]) (w.alloc (.cells #[.pointer (some t)] 135)):=by kernel_rfl
theorem jwj (a:Addr) (w:World):(ReflectliteValue.methodAny (ReflectliteValue.valueError "reflectlite.Value.Type" 0) (fun t _ _ _=>ReflectliteType.toType t) #[.agg #[.pointer (some ⟨gC,135,none⟩),.pointer (some a),.int .u64 150]]).run Tryz.prog w
  = .ok (.iface 196 (.agg #[.pointer (some ⟨gC,135,none⟩)])) w:=by kernel_rfl
theorem jye (w:World):((ReflectliteType.abiMethod fun t=>(fun a:Nat=>Value.int IntKind.u8 (a:Int)) <$> Rtype.kind t) #[.pointer (some ⟨gC,135,none⟩)]).run Tryz.prog w = .ok (.int .u8 22) w:=by kernel_rfl
theorem k14 (w:World):((ReflectliteType.abiMethod fun t=>(fun a:Nat=>Value.int IntKind.u8 (a:Int)) <$> Rtype.kind t) #[.pointer (some ⟨gC,128,none⟩)]).run Tryz.prog w = .ok (.int .u8 25) w:=by kernel_rfl
theorem jp6 (a:Addr) (w:World):(ReflectliteValue.parts (.agg #[.pointer (some ⟨gC,135,none⟩),.pointer (some a),.int .u64 150])).run Tryz.prog w = .ok (some (135,a,150)) w:=by kernel_rfl
theorem jo1:Tryz.prog.underlying 135=some (.pointer 128):=by kernel_rfl
theorem jxq (a p:Addr) (W:World) (ha:W.cell? a=some (.pointer (some p))) :
  (ReflectliteValue.method (ReflectliteValue.valueError "reflectlite.Value.IsNil" 0) ReflectliteValue.isNil #[.agg #[.pointer (some ⟨gC,135,none⟩),.pointer (some a),.int .u64 150]]).run Tryz.prog W = .ok (.bool false) W:=by
 rw [jsj]
 simp only [Sem.run_bind,jp6,Result.andThen]
 simp [ReflectliteValue.isNil,loadVar,isAgg,underlying,jo1,ha,Result.andThen]
theorem jw5 (w:World):(ReflectliteType.method ReflectliteType.elem #[.agg #[.pointer (some ⟨gC,135,none⟩)]]).run Tryz.prog w = .ok (.iface 196 (.agg #[.pointer (some ⟨gC,128,none⟩)])) w:=by kernel_rfl
theorem k1f (w:World):(ReflectliteType.relation "Implements" ReflectliteType.implements_ #[.agg #[.pointer (some ⟨gC,128,none⟩)],.iface 196 (.agg #[.pointer (some ⟨gC,82,none⟩)])]).run Tryz.prog w = .ok (.bool true) w:=by kernel_rfl
theorem jut (v:Value) (w:World):(ReflectliteType.typeOf #[.iface 128 v]).run Tryz.prog w = .ok (.iface 196 (.agg #[.pointer (some ⟨gC,128,none⟩)])) w:=by kernel_rfl
theorem jzv (w:World):(ReflectliteType.relation "AssignableTo" ReflectliteType.assignableTo #[.agg #[.pointer (some ⟨gC,128,none⟩)],.iface 196 (.agg #[.pointer (some ⟨gC,128,none⟩)])]).run Tryz.prog w = .ok (.bool true) w:=by kernel_rfl
theorem jx6 (w:World):(Rtype.elem? 135).run Tryz.prog w = .ok (some 128) w:=by kernel_rfl
theorem asMkB (p:Addr) (w:World):(ReflectliteValue.mk 128 p ReflectliteValue.flagAddr).run Tryz.prog w = .ok (.agg #[.pointer (some ⟨gC,128,none⟩),.pointer (some p),.int .u64 409]) w:=by kernel_rfl
theorem jss (a p:Addr) (W:World) (ha:W.cell? a=some (.pointer (some p))) :
  (ReflectliteValue.method (ReflectliteValue.valueError "reflectlite.Value.Elem" 0) ReflectliteValue.elem #[.agg #[.pointer (some ⟨gC,135,none⟩),.pointer (some a),.int .u64 150]]).run Tryz.prog W
   = .ok (.agg #[.pointer (some ⟨gC,128,none⟩),.pointer (some p),.int .u64 409]) W:=by
 rw [jsj]
 simp only [Sem.run_bind,jp6,Result.andThen]
 simp [ReflectliteValue.elem,loadVar,isAgg,underlying,jo1,ha,Result.andThen,jx6,asMkB]
theorem jzq (n:Int) (c:Value) (w:World):(ReflectliteValue.unpack (.iface 128 (.agg #[.int .i64 n,c]))).run Tryz.prog w
  = .ok (.agg #[.pointer (some ⟨gC,128,none⟩),.pointer (some ⟨w.heap.size,0,none⟩),.int .u64 153]) (w.alloc (.cells #[.int .i64 n,c] 128)):=by kernel_rfl
theorem jvl (a:Addr) (w:World):(ReflectliteValue.parts (.agg #[.pointer (some ⟨gC,128,none⟩),.pointer (some a),.int .u64 409])).run Tryz.prog w = .ok (some (128,a,409)) w:=by kernel_rfl
theorem k1h (a:Addr) (w:World):(ReflectliteValue.parts (.agg #[.pointer (some ⟨gC,128,none⟩),.pointer (some a),.int .u64 153])).run Tryz.prog w = .ok (some (128,a,153)) w:=by kernel_rfl
theorem jz5 (w:World):(Rtype.directlyAssignable 128 128).run Tryz.prog w = .ok true w:=by kernel_rfl
theorem jzr (w:World):(sizeOf 128).run Tryz.prog w = .ok 2 w:=by kernel_rfl
theorem jy0 (w:World):(ReflectliteType.relation "AssignableTo" ReflectliteType.assignableTo #[.agg #[.pointer (some ⟨gC,128,none⟩)],.iface 196 (.agg #[.pointer (some ⟨gC,126,none⟩)])]).run Tryz.prog w = .ok (.bool false) w:=by kernel_rfl
theorem asMU (v:Value) (w:World):(Go.method 406 128 v "Unwrap").run Tryz.prog w = .ok (255,v) w:=by kernel_rfl
end YtapfankgdkdkgaaGreatDoor.AM
end Go.Proofs
