
import Derived.Test.YtapfankgdkdkgaaGreatDoorMb12
import Derived.Test.YtapfankgdkdkgaaGreatDoorMb9
import Derived.Test.YtapfankgdkdkgaaGreatDoorMb10
namespace Go.Proofs.YtapfankgdkdkgaaGreatDoor.AM
open Go.RowKit
set_option linter.unusedVariables false
set_option maxRecDepth 20000
@[reducible] def qig:SSt:=⟨[(0,.one (.c (.d .str))),(1,.one (.c (.d (.int .u8)))),(5,.one (.c (.d (.int .i64))))],[],[]⟩
@[reducible] def qah:List (Exit×SSt):=[(.ret,⟨[(4,.one (.c (.d (.int .i64))))],[],[]⟩),(.exit 0,⟨[],[],[]⟩)]
def qns (n:Nat) (rec:(List UInt8)->Int->Int->Option (((Int×(Unit))×(Unit)×(Unit))⊕((Unit)×(Unit)×(Unit)))) (a1:List UInt8) (a2:Int) (a3:Int):Option (((Int×(Unit))×(Unit)×(Unit))⊕((Unit)×(Unit)×(Unit))) :=
 (bif decide ((0:Int)<=a3) then (sAt a1 a3).bind fun (c2:Int)=>(bif decide (c2=a2) then some (Sum.inl ((a3,()),((),()))) else q05 (IntKind.wrap .i64 (a3 - (1:Int))) fun (n3:Int)=>rec a1 a2 n3) else some (Sum.inr (((),((),())))))
def qyg (n:Nat) (rec:pSt qig->Option (q0d qah)) (p:pSt qig):Option (q0d qah):=qns n (fun a1 a2 a3=>rec ((a1,(a2,(a3,()))),((),()))) p.1.1 p.1.2.1 p.1.2.2.1
def qan (n m:Nat) (a1:List UInt8) (a2:Int) (a3:Int):Option (((Int×(Unit))×(Unit)×(Unit))⊕((Unit)×(Unit)×(Unit))):=q0e (qyg n) m ((a1,(a2,(a3,()))),((),()))
theorem qas (n m:Nat) (a1:List UInt8) (a2:Int) (a3:Int):qan n (m+1) a1 a2 a3=qns n (fun a1 a2 a3=>qan n m a1 a2 a3) a1 a2 a3:=rfl
def jeg (n:Nat):LC:={ sh:=qig,outs:=qah,F:=q0e (qyg n) n }
def qpg (n:Nat):List LC:=[jeg n]
def qy9 (n:Nat) (a1:List UInt8) (a2:Int):Option (Int) :=
 q05 (IntKind.wrap .i64 (((List.length a1:Nat):Int) - (1:Int))) fun (n1:Int)=>(qan n n a1 a2 n1).bind fun (o4:((Int×(Unit))×(Unit)×(Unit))⊕((Unit)×(Unit)×(Unit)))=>Sum.elim (fun (q5:(Int×(Unit))×(Unit)×(Unit))=>some q5.1.1) (fun (q6:(Unit)×(Unit)×(Unit))=>some (-1:Int)) o4
def qi2 (n:Nat):FC:={ f:=80,args:=[.one (.c (.d .str)),.one (.c (.d (.int .u8)))],res:=.one (.c (.d (.int .i64))),F:=fun p=>qy9 n p.1 p.2 }
def j11 (n:Nat):List FC:=[]
theorem qxb (n:Nat) {G:World->Prop} (hG:Know Inv G) : ∀c∈j11 n,q0w Tryz.prog G c/\q09 c.args=true:=(fun _ h=>by cases h)
def j0n:q08:=[]
theorem jfl:drB j0n (q00 Tryz.f80)=true:=by kernel_rfl
theorem jpq (n:Nat) : ∀rec p,qyg n rec p=round Tryz.prog 19 (j11 n) (qpg n) j0n 1 qig qah (q01 0 0 (q00 Tryz.f80)) rec p:=by intro rec p;kernel_rfl
theorem ji5 (n:Nat) {F:Fr} (hF:F.n=19) (hK:Know Inv F.G):q6a Tryz.prog F (jeg n) (q01 0 0 (q00 Tryz.f80)) :=
 q0g hF (by kernel_rfl) (qxb n hK) (jpq n) (fuel:=n) (fun _=>rfl) (q02 fun j L h1 h2 h3=>absurd h2 (Nat.not_lt.2 (Nat.le_trans (by decide +kernel) h1))) (q0n jfl)
theorem jt0 (n:Nat) : ∀a,(qi2 n).F a=main Tryz.prog 19 (j11 n) (qpg n) j0n (q00 Tryz.f80) [.tmp 4] (qi2 n).args (qi2 n).res a:=by intro a;kernel_rfl
theorem jsw (n:Nat):q0c Inv Tryz.prog (qi2 n):=fun G hG=>⟨⟨by kernel_rfl,fun a r h=>q03 (c:=q00 Tryz.f80) Tryz.func80 (by kernel_rfl) (by kernel_rfl) (Nat.le_of_ble_eq_true (by kernel_rfl)) hG.st (by kernel_rfl) (rs:=[.tmp 4]) (by kernel_rfl) (qxb n hG) (lts:=qpg n) (fun F hF hFG=>have hK:Know Inv F.G:=hFG ▸ hG;(q02 (c:=(q00 Tryz.f80)) (fun j L h1 h2 h3=>by
  have h2':j<1:=Nat.lt_of_lt_of_le h2 (by decide +kernel)
  match j,h1,h2',h3 with
  | 0,_,_,h3=>obtain rfl:=Option.some.inj h3;exact (show q01 0 0 (q00 Tryz.f80)=q01 0 0 (q00 Tryz.f80) by kernel_rfl) ▸ ji5 n hF hK
  | j+1,_,h2',_=>exact absurd h2' (by omega)))) jfl ((jt0 n a).symm.trans h)⟩,rfl⟩
def j7b (n:Nat):List LC:=[]
def j0o (n:Nat) (a1:List UInt8) (a2:Int):Option (Int) :=
 (qy9 n a1 a2).bind fun (r1:Int)=>some r1
def qi9 (n:Nat):FC:={ f:=164,args:=[.one (.c (.d .str)),.one (.c (.d (.int .u8)))],res:=.one (.c (.d (.int .i64))),F:=fun p=>j0o n p.1 p.2 }
def jdj (n:Nat):List FC:=[qi2 n]
theorem jgu (n:Nat) {G:World->Prop} (hG:Know Inv G) : ∀c∈jdj n,q0w Tryz.prog G c/\q09 c.args=true:=List.forall_mem_cons.2 ⟨jsw n G hG,(fun _ h=>by cases h)⟩
def jce:q08:=[]
theorem js5:drB jce (q00 Tryz.f164)=true:=by kernel_rfl
theorem jq6 (n:Nat) : ∀a,(qi9 n).F a=main Tryz.prog 8 (jdj n) (j7b n) jce (q00 Tryz.f164) [.tmp 4] (qi9 n).args (qi9 n).res a:=by intro a;kernel_rfl
theorem jfg (n:Nat):q0c Inv Tryz.prog (qi9 n):=fun G hG=>⟨⟨by kernel_rfl,fun a r h=>q03 (c:=q00 Tryz.f164) Tryz.func164 (by kernel_rfl) (by kernel_rfl) (Nat.le_of_ble_eq_true (by kernel_rfl)) hG.st (by kernel_rfl) (rs:=[.tmp 4]) (by kernel_rfl) (jgu n hG) (lts:=j7b n) (fun F hF hFG=>have hK:Know Inv F.G:=hFG ▸ hG;(q02 fun j L h1 h2 h3=>absurd h2 (Nat.not_lt.2 (Nat.le_trans (by decide +kernel) h1)))) js5 ((jq6 n a).symm.trans h)⟩,rfl⟩
def qej (n:Nat):List LC:=[]
def qcj (n:Nat) (a1:List UInt8) (a2:List UInt8):Option ((List UInt8)×(Bool)) :=
 (q1j n a1 a2).bind fun (r1:Bool)=>(bif !r1 then some (a1,false) else (q2k a1 ((List.length a2:Nat):Int) ((List.length a1:Nat):Int)).bind fun (s2:List UInt8)=>some (s2,true))
def q3m (n:Nat):FC:={ f:=190,args:=[.one (.c (.d .str)),.one (.c (.d .str))],res:=.tup [.c (.d .str),.c (.d .bool)],F:=fun p=>qcj n p.1 p.2 }
def qhu (n:Nat):List FC:=[q0m n]
theorem qoq (n:Nat) {G:World->Prop} (hG:Know Inv G) : ∀c∈qhu n,q0w Tryz.prog G c/\q09 c.args=true:=List.forall_mem_cons.2 ⟨q3n n G hG,(fun _ h=>by cases h)⟩
def qgt:q08:=[]
theorem qz0:drB qgt (q00 Tryz.f190)=true:=by kernel_rfl
theorem qym (n:Nat) : ∀a,(q3m n).F a=main Tryz.prog 15 (qhu n) (qej n) qgt (q00 Tryz.f190) [.tmp 4,.tmp 5] (q3m n).args (q3m n).res a:=by intro a;kernel_rfl
theorem j06 (n:Nat):q0c Inv Tryz.prog (q3m n):=fun G hG=>⟨⟨by kernel_rfl,fun a r h=>q03 (c:=q00 Tryz.f190) Tryz.func190 (by kernel_rfl) (by kernel_rfl) (Nat.le_of_ble_eq_true (by kernel_rfl)) hG.st (by kernel_rfl) (rs:=[.tmp 4,.tmp 5]) (by kernel_rfl) (qoq n hG) (lts:=qej n) (fun F hF hFG=>have hK:Know Inv F.G:=hFG ▸ hG;(q02 fun j L h1 h2 h3=>absurd h2 (Nat.not_lt.2 (Nat.le_trans (by decide +kernel) h1)))) qz0 ((qym n a).symm.trans h)⟩,rfl⟩
def qhd (n:Nat):List LC:=[]
def qaf (n:Nat) (a1:List UInt8) (a2:List UInt8):Option ((List UInt8)×(Bool)) :=
 (qcj n a1 a2).bind fun (r1:(List UInt8)×(Bool))=>some r1
def q51 (n:Nat):FC:={ f:=165,args:=[.one (.c (.d .str)),.one (.c (.d .str))],res:=.tup [.c (.d .str),.c (.d .bool)],F:=fun p=>qaf n p.1 p.2 }
def ql6 (n:Nat):List FC:=[q3m n]
theorem quu (n:Nat) {G:World->Prop} (hG:Know Inv G) : ∀c∈ql6 n,q0w Tryz.prog G c/\q09 c.args=true:=List.forall_mem_cons.2 ⟨j06 n G hG,(fun _ h=>by cases h)⟩
def qlr:q08:=[]
theorem j4i:drB qlr (q00 Tryz.f165)=true:=by kernel_rfl
theorem j2c (n:Nat) : ∀a,(q51 n).F a=main Tryz.prog 11 (ql6 n) (qhd n) qlr (q00 Tryz.f165) [.tmp 4,.tmp 5] (q51 n).args (q51 n).res a:=by intro a;kernel_rfl
theorem j4z (n:Nat):q0c Inv Tryz.prog (q51 n):=fun G hG=>⟨⟨by kernel_rfl,fun a r h=>q03 (c:=q00 Tryz.f165) Tryz.func165 (by kernel_rfl) (by kernel_rfl) (Nat.le_of_ble_eq_true (by kernel_rfl)) hG.st (by kernel_rfl) (rs:=[.tmp 4,.tmp 5]) (by kernel_rfl) (quu n hG) (lts:=qhd n) (fun F hF hFG=>have hK:Know Inv F.G:=hFG ▸ hG;(q02 fun j L h1 h2 h3=>absurd h2 (Nat.not_lt.2 (Nat.le_trans (by decide +kernel) h1)))) j4i ((j2c n a).symm.trans h)⟩,rfl⟩
def q3r (n:Nat):List LC:=[]
def q0r (n:Nat) (a1:List UInt8) (a2:List UInt8):Option (Bool) :=
 (q1j n a1 a2).bind fun (r1:Bool)=>some r1
def q1g (n:Nat):FC:={ f:=152,args:=[.one (.c (.d .str)),.one (.c (.d .str))],res:=.one (.c (.d .bool)),F:=fun p=>q0r n p.1 p.2 }
def q4v (n:Nat):List FC:=[q0m n]
theorem q86 (n:Nat) {G:World->Prop} (hG:Know Inv G) : ∀c∈q4v n,q0w Tryz.prog G c/\q09 c.args=true:=List.forall_mem_cons.2 ⟨q3n n G hG,(fun _ h=>by cases h)⟩
def q4s:q08:=[]
theorem qbr:drB q4s (q00 Tryz.f152)=true:=by kernel_rfl
theorem qca (n:Nat) : ∀a,(q1g n).F a=main Tryz.prog 8 (q4v n) (q3r n) q4s (q00 Tryz.f152) [.tmp 4] (q1g n).args (q1g n).res a:=by intro a;kernel_rfl
theorem qmh (n:Nat):q0c Inv Tryz.prog (q1g n):=fun G hG=>⟨⟨by kernel_rfl,fun a r h=>q03 (c:=q00 Tryz.f152) Tryz.func152 (by kernel_rfl) (by kernel_rfl) (Nat.le_of_ble_eq_true (by kernel_rfl)) hG.st (by kernel_rfl) (rs:=[.tmp 4]) (by kernel_rfl) (q86 n hG) (lts:=q3r n) (fun F hF hFG=>have hK:Know Inv F.G:=hFG ▸ hG;(q02 fun j L h1 h2 h3=>absurd h2 (Nat.not_lt.2 (Nat.le_trans (by decide +kernel) h1)))) qbr ((qca n a).symm.trans h)⟩,rfl⟩
def qwy (n:Nat):List LC:=[]
def qid (n:Nat) (a1:List UInt8):Option (Bool) :=
 (qaf n a1 ([118]:List UInt8)).bind fun (r1:(List UInt8)×(Bool))=>(bif r1.2 then (bif !decide (r1.1=([]:List UInt8)) then (qrd r1.1 ([48,49,50,51,52,53,54,55,56,57]:List UInt8)).bind fun (r2:List UInt8)=>some (decide (r2=([]:List UInt8))) else some false) else some false)
def qbd (n:Nat):FC:={ f:=134,args:=[.one (.c (.d .str))],res:=.one (.c (.d .bool)),F:=fun p=>qid n p }
def j59 (n:Nat):List FC:=[q51 n,jfi]
theorem jai (n:Nat) {G:World->Prop} (hG:Know Inv G) : ∀c∈j59 n,q0w Tryz.prog G c/\q09 c.args=true:=List.forall_mem_cons.2 ⟨j4z n G hG,List.forall_mem_cons.2 ⟨jqh G hG,(fun _ h=>by cases h)⟩⟩
def j3f:q08:=[]
theorem joe:drB j3f (q00 Tryz.f134)=true:=by kernel_rfl
theorem jkj (n:Nat) : ∀a,(qbd n).F a=main Tryz.prog 20 (j59 n) (qwy n) j3f (q00 Tryz.f134) [.tmp 2] (qbd n).args (qbd n).res a:=by intro a;kernel_rfl
theorem j45 (n:Nat):q0c Inv Tryz.prog (qbd n):=fun G hG=>⟨⟨by kernel_rfl,fun a r h=>q03 (c:=q00 Tryz.f134) Tryz.func134 (by kernel_rfl) (by kernel_rfl) (Nat.le_of_ble_eq_true (by kernel_rfl)) hG.st (by kernel_rfl) (rs:=[.tmp 2]) (by kernel_rfl) (jai n hG) (lts:=qwy n) (fun F hF hFG=>have hK:Know Inv F.G:=hFG ▸ hG;(q02 fun j L h1 h2 h3=>absurd h2 (Nat.not_lt.2 (Nat.le_trans (by decide +kernel) h1)))) joe ((jkj n a).symm.trans h)⟩,rfl⟩
end Go.Proofs.YtapfankgdkdkgaaGreatDoor.AM
namespace Go.Proofs.YtapfankgdkdkgaaGreatDoor.AM
open Go.RowKit
set_option linter.unusedVariables false
set_option maxRecDepth 20000
def j35 (n:Nat):List LC:=[]
def qy0 (n:Nat) (a1:Int):Option (Bool) :=
 (bif decide ((97:Int)<=a1) then (bif decide (a1<=(122:Int)) then (bif decide (a1<=(122:Int)) then some true else (bif decide (a1=(45:Int)) then some true else (bif decide (a1=(95:Int)) then some true else some (decide (a1=(46:Int)))))) else (bif decide ((65:Int)<=a1) then (bif decide (a1<=(90:Int)) then (bif decide (a1<=(90:Int)) then some true else (bif decide (a1=(45:Int)) then some true else (bif decide (a1=(95:Int)) then some true else some (decide (a1=(46:Int)))))) else (bif decide ((48:Int)<=a1) then (bif decide (a1<=(57:Int)) then some true else (bif decide (a1=(45:Int)) then some true else (bif decide (a1=(95:Int)) then some true else some (decide (a1=(46:Int)))))) else (bif decide (a1=(45:Int)) then some true else (bif decide (a1=(95:Int)) then some true else some (decide (a1=(46:Int))))))) else (bif decide ((48:Int)<=a1) then (bif decide (a1<=(57:Int)) then some true else (bif decide (a1=(45:Int)) then some true else (bif decide (a1=(95:Int)) then some true else some (decide (a1=(46:Int)))))) else (bif decide (a1=(45:Int)) then some true else (bif decide (a1=(95:Int)) then some true else some (decide (a1=(46:Int)))))))) else (bif decide ((65:Int)<=a1) then (bif decide (a1<=(90:Int)) then (bif decide (a1<=(90:Int)) then some true else (bif decide (a1=(45:Int)) then some true else (bif decide (a1=(95:Int)) then some true else some (decide (a1=(46:Int)))))) else (bif decide ((48:Int)<=a1) then (bif decide (a1<=(57:Int)) then some true else (bif decide (a1=(45:Int)) then some true else (bif decide (a1=(95:Int)) then some true else some (decide (a1=(46:Int)))))) else (bif decide (a1=(45:Int)) then some true else (bif decide (a1=(95:Int)) then some true else some (decide (a1=(46:Int))))))) else (bif decide ((48:Int)<=a1) then (bif decide (a1<=(57:Int)) then some true else (bif decide (a1=(45:Int)) then some true else (bif decide (a1=(95:Int)) then some true else some (decide (a1=(46:Int)))))) else (bif decide (a1=(45:Int)) then some true else (bif decide (a1=(95:Int)) then some true else some (decide (a1=(46:Int))))))))
def qih (n:Nat):FC:={ f:=182,args:=[.one (.c (.d (.int .u8)))],res:=.one (.c (.d .bool)),F:=fun p=>qy0 n p }
def jcl (n:Nat):List FC:=[]
theorem ji3 (n:Nat) {G:World->Prop} (hG:Know Inv G) : ∀c∈jcl n,q0w Tryz.prog G c/\q09 c.args=true:=(fun _ h=>by cases h)
def jcr:q08:=[]
theorem jqq:drB jcr (q00 Tryz.f182)=true:=by kernel_rfl
theorem jrr (n:Nat) : ∀a,(qih n).F a=main Tryz.prog 32 (jcl n) (j35 n) jcr (q00 Tryz.f182) [.tmp 2] (qih n).args (qih n).res a:=by intro a;kernel_rfl
theorem jtm (n:Nat):q0c Inv Tryz.prog (qih n):=fun G hG=>⟨⟨by kernel_rfl,fun a r h=>q03 (c:=q00 Tryz.f182) Tryz.func182 (by kernel_rfl) (by kernel_rfl) (Nat.le_of_ble_eq_true (by kernel_rfl)) hG.st (by kernel_rfl) (rs:=[.tmp 2]) (by kernel_rfl) (ji3 n hG) (lts:=j35 n) (fun F hF hFG=>have hK:Know Inv F.G:=hFG ▸ hG;(q02 fun j L h1 h2 h3=>absurd h2 (Nat.not_lt.2 (Nat.le_trans (by decide +kernel) h1)))) jqq ((jrr n a).symm.trans h)⟩,rfl⟩
@[reducible] def qi0:SSt:=⟨[(0,.one (.c (.d .str))),(15,.one (.c (.d (.int .i64)))),(16,.one (.c (.d (.int .i64))))],[],[]⟩
@[reducible] def q9b:List (Exit×SSt):=[(.ret,⟨[(2,.one (.c (.d .bool)))],[],[]⟩),(.exit 0,⟨[],[],[]⟩)]
def qy8 (n:Nat) (rec:(List UInt8)->Int->Int->Option (((Bool×(Unit))×(Unit)×(Unit))⊕((Unit)×(Unit)×(Unit)))) (a1:List UInt8) (a2:Int) (a3:Int):Option (((Bool×(Unit))×(Unit)×(Unit))⊕((Unit)×(Unit)×(Unit))) :=
 (bif decide (a3<a2) then (sAt a1 a3).bind fun (c1:Int)=>(qy0 n c1).bind fun (r2:Bool)=>(bif !r2 then some (Sum.inl ((false,()),((),()))) else q05 (IntKind.wrap .i64 (a3+(1:Int))) fun (n3:Int)=>rec a1 a2 n3) else some (Sum.inr (((),((),())))))
def qze (n:Nat) (rec:pSt qi0->Option (q0d q9b)) (p:pSt qi0):Option (q0d q9b):=qy8 n (fun a1 a2 a3=>rec ((a1,(a2,(a3,()))),((),()))) p.1.1 p.1.2.1 p.1.2.2.1
def qa8 (n m:Nat) (a1:List UInt8) (a2:Int) (a3:Int):Option (((Bool×(Unit))×(Unit)×(Unit))⊕((Unit)×(Unit)×(Unit))):=q0e (qze n) m ((a1,(a2,(a3,()))),((),()))
theorem qmr (n m:Nat) (a1:List UInt8) (a2:Int) (a3:Int):qa8 n (m+1) a1 a2 a3=qy8 n (fun a1 a2 a3=>qa8 n m a1 a2 a3) a1 a2 a3:=rfl
def jc5 (n:Nat):LC:={ sh:=qi0,outs:=q9b,F:=q0e (qze n) n }
def qrs (n:Nat):List LC:=[jc5 n]
def j9d (n:Nat) (a1:List UInt8):Option (Bool) :=
 (bif decide (a1=([]:List UInt8)) then some false else (bif decide (a1=([46]:List UInt8)) then some false else (bif decide (a1=([46,46]:List UInt8)) then some false else (qa8 n n a1 ((List.length a1:Nat):Int) (0:Int)).bind fun (o4:((Bool×(Unit))×(Unit)×(Unit))⊕((Unit)×(Unit)×(Unit)))=>Sum.elim (fun (q5:(Bool×(Unit))×(Unit)×(Unit))=>some q5.1.1) (fun (q6:(Unit)×(Unit)×(Unit))=>some true) o4)))
def qni (n:Nat):FC:={ f:=154,args:=[.one (.c (.d .str))],res:=.one (.c (.d .bool)),F:=fun p=>j9d n p }
def j0j (n:Nat):List FC:=[qih n]
theorem qxq (n:Nat) {G:World->Prop} (hG:Know Inv G) : ∀c∈j0j n,q0w Tryz.prog G c/\q09 c.args=true:=List.forall_mem_cons.2 ⟨jtm n G hG,(fun _ h=>by cases h)⟩
def qz6:q08:=[]
theorem jfj:drB qz6 (q00 Tryz.f154)=true:=by kernel_rfl
theorem jmz (n:Nat) : ∀rec p,qze n rec p=round Tryz.prog 25 (j0j n) (qrs n) qz6 1 qi0 q9b (q01 0 0 (q00 Tryz.f154)) rec p:=by intro rec p;kernel_rfl
theorem jfr (n:Nat) {F:Fr} (hF:F.n=25) (hK:Know Inv F.G):q6a Tryz.prog F (jc5 n) (q01 0 0 (q00 Tryz.f154)) :=
 q0g hF (by kernel_rfl) (qxq n hK) (jmz n) (fuel:=n) (fun _=>rfl) (q02 fun j L h1 h2 h3=>absurd h2 (Nat.not_lt.2 (Nat.le_trans (by decide +kernel) h1))) (q0n jfj)
theorem jsg (n:Nat) : ∀a,(qni n).F a=main Tryz.prog 25 (j0j n) (qrs n) qz6 (q00 Tryz.f154) [.tmp 2] (qni n).args (qni n).res a:=by intro a;kernel_rfl
theorem jrt (n:Nat):q0c Inv Tryz.prog (qni n):=fun G hG=>⟨⟨by kernel_rfl,fun a r h=>q03 (c:=q00 Tryz.f154) Tryz.func154 (by kernel_rfl) (by kernel_rfl) (Nat.le_of_ble_eq_true (by kernel_rfl)) hG.st (by kernel_rfl) (rs:=[.tmp 2]) (by kernel_rfl) (qxq n hG) (lts:=qrs n) (fun F hF hFG=>have hK:Know Inv F.G:=hFG ▸ hG;(q02 (c:=(q00 Tryz.f154)) (fun j L h1 h2 h3=>by
  have h2':j<1:=Nat.lt_of_lt_of_le h2 (by decide +kernel)
  match j,h1,h2',h3 with
  | 0,_,_,h3=>obtain rfl:=Option.some.inj h3;exact (show q01 0 0 (q00 Tryz.f154)=q01 0 0 (q00 Tryz.f154) by kernel_rfl) ▸ jfr n hF hK
  | j+1,_,h2',_=>exact absurd h2' (by omega)))) jfj ((jsg n a).symm.trans h)⟩,rfl⟩
end Go.Proofs.YtapfankgdkdkgaaGreatDoor.AM
namespace Go.Proofs.YtapfankgdkdkgaaGreatDoor.AM
open Go.RowKit
set_option linter.unusedVariables false
set_option linter.unusedSimpArgs false
theorem jgp (n:Nat) (c:UInt8):qy0 n ((c.toNat:Nat):Int)=some (qa3 c):=by
 have h : ∀k:Fin 256,qy0 0 ((k.val:Nat):Int)=some (qa3 (UInt8.ofNat k.val)):=by decide +kernel
 have h1:=h ⟨c.toNat,c.toNat_lt⟩
 have e:UInt8.ofNat c.toNat=c:=by simp
 rw [e] at h1
 exact h1
theorem qxr (n:Nat) (s:List UInt8) (hL:s.length<=1000000) : ∀m j:Nat,j<=s.length->s.length - j<m->qa8 n m s ((s.length:Nat):Int) (j:Int)=some (if (s.drop j).all qa3=true then Sum.inr ((),((),())) else Sum.inl ((false,()),((),())))
 | 0,j,_,h=>absurd h (Nat.not_lt_zero _)
 | m+1,j,hj,h=>by
  rw [qmr]
  unfold qy8
  by_cases c0:j<s.length
  ·have c0':((j:Nat):Int)<((s.length:Nat):Int):=by omega
   have ih:=qxr n s hL m (j+1) (by omega) (by omega)
   have hd:s.drop j=s[j]::s.drop (j+1):=(List.drop_eq_getElem_cons c0)
   simp only [c0',decide_true,cond_true,q3g c0,Option.bind_some,jgp,q05,q0a (show j<4611686018427387904 by omega),ih,hd,List.all_cons]
   cases qa3 s[j]<;>simp
  ·have c0' : ¬ ((j:Nat):Int)<((s.length:Nat):Int):=by omega
   have:s.drop j = []:=List.drop_eq_nil_of_le (by omega)
   simp [c0',this]
theorem jiu (n:Nat) (s:List UInt8) (hL:s.length<=1000000) (hn:s.length<n):j9d n s=some (qav s):=by
 unfold j9d qav
 have:=qxr n s hL n 0 (Nat.zero_le _) (by omega)
 rw [show ((0:Nat):Int)=(0:Int) from rfl] at this
 rw [this,List.drop_zero]
 cases decide (s = [])<;>cases decide (s = [46])<;>cases decide (s = [46,46])<;>cases s.all qa3<;>rfl
end Go.Proofs.YtapfankgdkdkgaaGreatDoor.AM
namespace Go.Proofs.YtapfankgdkdkgaaGreatDoor.AM
open Go.RowKit
set_option linter.unusedVariables false
set_option linter.unusedSimpArgs false
theorem jc6 {a:Int} (h0:0<=a):Lib.itoa a=if a<10 then [UInt8.ofNat (48+a.toNat)] else Lib.itoa (a / 10) ++ [UInt8.ofNat (48+(a % 10).toNat)]:=by
 rw [q1t h0,Lib.decDigits]
 by_cases h:a<10
 ·rw [if_pos h,dif_pos (by omega)]
 ·rw [if_neg h,dif_neg (by omega),q1t (by omega)]
  rw [show (a / 10).toNat=a.toNat / 10 from by omega,show (a % 10).toNat=a.toNat % 10 from by omega]
theorem qab {n:Int} (h:0<=n/\n<=999999999):(Lib.itoa n).length<=9:=by
 rw [q1t h.1];exact qjl 8 n.toNat (by omega)
theorem j2n (s:List UInt8):(q1o s).length<=s.length:=by
 unfold q1o;split
 ·rw [List.length_drop];omega
 ·exact Nat.le_refl _
end Go.Proofs.YtapfankgdkdkgaaGreatDoor.AM
namespace Go.Proofs.YtapfankgdkdkgaaGreatDoor.AM
open Go.RowKit
set_option linter.unusedVariables false
set_option linter.unusedSimpArgs false
theorem q2c {s t:List UInt8} (h:s.length+t.length<=9223372036854775807):q6q s t=some (s++t):=if_pos h
theorem qfv (n m:Nat) (a1 a2 a3 i i' a5 a6 a7 x:Int) (a8 a9:List UInt8) (hx:q0z ([a1,a2,a3]:List Int) i=some x) (hi:i<3) (hw:IntKind.wrap .i64 (i+1)=i') :
  q52 n (m+1) a1 a2 a3 i a5 a6 a7 a8 a9=if jem x=true then q52 n m a1 a2 a3 i' a5 a6 a7 a8 a9 else some (Sum.inl ((false,()),((),()))):=by
 rw [q8m]
 unfold qii jem
 simp only [hi,decide_true,cond_true,hx,Option.bind_some,q05,hw]
 by_cases h1:x<0
 ·have : ¬ (0:Int)<=x:=by omega
  simp [h1,this]
 ·have h1':(0:Int)<=x:=by omega
  by_cases h2:999999999<x
  ·have : ¬ x<=999999999:=by omega
   simp [h1,h2,this]
  ·have:x<=999999999:=by omega
   simp [h1,h2,h1',this]
theorem q6u (n:Nat) (v:VD) (hn:4<=n):q7r n v=some (q1m v):=by
 obtain ⟨k,rfl⟩ : ∃ k,n=k+1+1+1+1:=⟨n - 4,by omega⟩
 obtain ⟨a,b,c,p,q⟩:=v
 unfold q7r
 rw [qfv _ _ a b c 0 1 _ _ _ a _ _ rfl (by decide) rfl,qfv _ _ a b c 1 2 _ _ _ b _ _ rfl (by decide) rfl,qfv _ _ a b c 2 3 _ _ _ c _ _ rfl (by decide) rfl,q8m]
 unfold qii q1m qs2 qkr
 dsimp only
 cases jem a with
 | false=>rfl
 | true=>cases jem b with
  | false=>rfl
  | true=>cases jem c with
   | false=>rfl
   | true =>
    simp only [if_true,Bool.true_and,show ¬ (3:Int)<3 from by decide,decide_false,cond_false,Option.bind_some,Sum.elim_inr]
    cases q5h q45 p<;>cases q5h q29 q<;>rfl
theorem j32 (n:Nat) (s:List UInt8) (hs:s.length<=1000000):q7e n s [118]=some (q1o s):=by
 unfold q7e q9z q1j q1o
 cases s with
 | nil=>rfl
 | cons b r =>
  have h1:((List.length ([118]:List UInt8):Nat):Int)<=((List.length (b::r):Nat):Int):=by simp;omega
  have h2:q2k (b::r) (0:Int) ((List.length ([118]:List UInt8):Nat):Int)=some [b]:=sub_zero (b:=1) (by simp)
  have h3:q2k (b::r) ((List.length ([118]:List UInt8):Nat):Int) ((List.length (b::r):Nat):Int)=some r:=by
   have:=sub_le (l:=b::r) (a:=1) (b:=(b::r).length) (by simp) (Nat.le_refl _)
   rw [show ((List.length ([118]:List UInt8):Nat):Int)=((1:Nat):Int) from rfl,this]
   simp
  simp only [h1,decide_true,cond_true,h2,Option.bind_some,List.head?_cons,Option.some.injEq,List.drop_succ_cons,List.drop_zero]
  by_cases hb:b=118
  ·simp only [hb,decide_true,cond_true,if_true] at h3 ⊢
   rw [h3];rfl
  ·have : ¬ [b]=([118]:List UInt8):=fun h=>hb (by simpa using h)
   simp [this,hb]
theorem qoe {n:Int} (h:0<=n/\n<=999999999):qtw n=some (Lib.itoa n):=if_pos ⟨by omega,by omega⟩
end Go.Proofs.YtapfankgdkdkgaaGreatDoor.AM
namespace Go.Proofs.YtapfankgdkdkgaaGreatDoor.AM
open Go.RowKit
set_option linter.unusedVariables false
set_option linter.unusedSimpArgs false
theorem qhq (s:List UInt8) (j:Nat) (h:j<s.length):(s.take (j+1)).reverse=s[j]::(s.take j).reverse:=by
 rw [List.take_succ_eq_append_getElem h];simp
theorem qxa (n:Nat) (c:UInt8) (s:List UInt8) (hL:s.length<=1000000) : ∀m j:Nat,j<=s.length->j<m->qan n m s ((c.toNat:Nat):Int) ((j:Int) - 1)=some (if q87 c (s.take j).reverse = -1 then Sum.inr ((),((),())) else Sum.inl ((q87 c (s.take j).reverse,()),((),())))
 | 0,j,_,h=>absurd h (Nat.not_lt_zero _)
 | m+1,0,_,_=>by
  rw [qas]
  unfold qns
  simp [q87]
 | m+1,j+1,hj,h=>by
  rw [qas]
  unfold qns
  have e1:((j+1:Nat):Int) - 1=((j:Nat):Int):=by omega
  have ih:=qxa n c s hL m j (by omega) (by omega)
  have w1:IntKind.wrap .i64 (((j:Nat):Int) - 1)=((j:Nat):Int) - 1:=wrap64 (by omega) (by omega)
  have c0:(0:Int)<=((j:Nat):Int):=by omega
  have d1:decide (((s[j].toNat:Nat):Int)=((c.toNat:Nat):Int))=decide (s[j]=c):=decide_eq_decide.2 ⟨fun h=>UInt8.toNat_inj.1 (by omega),fun h=>by rw [h]⟩
  rw [e1]
  simp only [c0,decide_true,cond_true,q3g (show j<s.length by omega),Option.bind_some,d1,q05,w1,ih,qhq s j (by omega),q87]
  by_cases h0:s[j]=c
  ·have : ¬ (((s.take j).reverse.length:Nat):Int) = -1:=by omega
   have l1:(s.take j).reverse.length=j:=by simp;omega
   simp only [h0,decide_true,cond_true,if_true,this,if_false,l1]
   rw [if_neg (by omega)]
  ·simp [h0]
theorem jgr (n:Nat) (c:UInt8) (s:List UInt8) (hL:s.length<=1000000) (hn:s.length<n):qy9 n s ((c.toNat:Nat):Int)=some (q92 c s):=by
 unfold qy9
 have:=qxa n c s hL n s.length (Nat.le_refl _) hn
 have w1:IntKind.wrap .i64 (((s.length:Nat):Int) - 1)=((s.length:Nat):Int) - 1:=wrap64 (by omega) (by omega)
 simp only [q05,w1,this,List.take_length]
 unfold q92
 by_cases h:q87 c s.reverse = -1
 ·simp [h]
 ·simp [h]
theorem qwa (n:Nat) (s:List UInt8) (hL:s.length<=1000000) (hn:s.length<n):j0o n s (47:Int)=some (q92 47 s):=by
 unfold j0o
 rw [show (47:Int)=(((47:UInt8).toNat:Nat):Int) from rfl,jgr n 47 s hL hn];rfl
theorem j98 (n:Nat) (s:List UInt8) (hs:s.length<=1000000):qaf n s [118]=some (if s.head? = some 118 then (s.drop 1,true) else (s,false)):=by
 unfold qaf qcj q1j
 cases s with
 | nil=>rfl
 | cons b r =>
  have h1:((List.length ([118]:List UInt8):Nat):Int)<=((List.length (b::r):Nat):Int):=by simp;omega
  have h2:q2k (b::r) (0:Int) ((List.length ([118]:List UInt8):Nat):Int)=some [b]:=sub_zero (b:=1) (by simp)
  have h3:q2k (b::r) ((List.length ([118]:List UInt8):Nat):Int) ((List.length (b::r):Nat):Int)=some r:=by
   have:=sub_le (l:=b::r) (a:=1) (b:=(b::r).length) (by simp) (Nat.le_refl _)
   rw [show ((List.length ([118]:List UInt8):Nat):Int)=((1:Nat):Int) from rfl,this]
   simp
  simp only [h1,decide_true,cond_true,h2,Option.bind_some,List.head?_cons,Option.some.injEq,List.drop_succ_cons,List.drop_zero]
  by_cases hb:b=118
  ·simp only [hb,decide_true,cond_true,if_true,Bool.not_true,cond_false] at h3 ⊢
   rw [h3];rfl
  ·have : ¬ [b]=([118]:List UInt8):=fun h=>hb (by simpa using h)
   simp [this,hb]
theorem qq3 (n:Nat) (s:List UInt8) (hs:s.length<=1000000):qid n s=some (q1n s):=by
 unfold qid q1n q42
 rw [j98 n s hs]
 by_cases h:s.head? = some 118
 ·have hl:(s.drop 1).length<=1000000:=by rw [List.length_drop];omega
  have ht:qrd (s.drop 1) jg4=some (Lib.trimS (s.drop 1) jg4):=if_pos ⟨rfl,hl⟩
  simp only [h,if_true,Option.bind_some,cond_true,ht,jr0,decide_true,Bool.true_and]
  cases decide (s.drop 1 = [])<;>cases (s.drop 1).all q18<;>rfl
 ·simp [h]
end Go.Proofs.YtapfankgdkdkgaaGreatDoor.AM
namespace Go.Proofs
open Go.RowKit Go.Shelf Go.Lib
attribute [local go_sem] Oper.semAt_some
set_option linter.unusedVariables false
set_option linter.unusedSimpArgs false
namespace YtapfankgdkdkgaaGreatDoor.AM
theorem jqs (x:List UInt8) (w:World) (hI:Inv w) (hx:x.length<=1000000):Calls Tryz.prog 154 #[.string (ba x)] w fun e w'=>e = .returned (.bool (qav x))/\Below w.heap.size w w':=by
 have h:=(jrt 1000001 Inv q9u).1.2 x (qav x) (jiu 1000001 x (by omega) (by omega))
 refine (h (fun _ _=>False) w #[.string (ba x)] hI (fun b o h=>h.elim) ⟨q06 _,trivial⟩).mono ?_
 rintro e w' ⟨v,Pc,rfl,hb,_,_,hv⟩
 have hv':v = .bool (qav x):=q0b hv
 rw [hv']
 exact ⟨rfl,hb⟩
set_option maxHeartbeats 2000000 in
theorem jbn (s:List UInt8) (w:World) (hI:Inv w):Calls Tryz.prog 119 #[.string (ba s)] w fun e w'=>e = .returned (.bool (q56 s))/\Below w.heap.size w w':=by
 refine (callsIn_wide (n:=9)).1 ?_
 refine callsIn_of_wp_marks Tryz.func119 rfl trivial ?_ rfl
 simp only [Tryz.ntmps119,List.size_toArray,List.length_cons,List.length_nil,Nat.reduceAdd,Nat.reduceSub,Array.replicate_succ,Array.replicate_zero,List.push_toArray,List.append_toArray,List.nil_append,List.cons_append]
 have hsz:(ba s).size=s.length:=q39 s
 by_cases h2:s.length<=60
 ·skip
  gi_wp2_with (refine ⟨trivial,?_⟩;gi_at_call 136;refine (callsIn_wide.2 (q4k _ _ _)).mono ?_;rintro e w' ⟨rfl,rfl⟩)
  obtain ⟨W0,hW0,hs0,hb0,g0,g1,g2,g3⟩:=four w (Obj.cells #[Value.bool false] 4) (Obj.cells #[Value.string (ba s)] 9) (Obj.cells #[Value.string { data:=#[47] }] 9) (Obj.cells #[Value.int IntKind.i64 0] 3)
  rw [hW0]
  clear hW0
  obtain ⟨c1,f1⟩:=q0o g0
  obtain ⟨c2,f2⟩:=q0o g1
  obtain ⟨c3,f3⟩:=q0o g2
  obtain ⟨c4,f4⟩:=q0o g3
  refine range_split (n:=9) (by omega) 47 (w.heap.size+1) (w.heap.size+1+1) (w.heap.size+1+2) s (by omega) rfl ⟨c2,f2⟩
   (Rng (.string (ba [47])) (w.heap.size+1+1) w.heap.size (w.heap.size+1+1) (w.heap.size+1+2) 47 w qav) (RngX w.heap.size w qav) (qxy (by omega)) (qzo (by omega))
   (fun pre W h=>⟨h.cP,h.cC,(hI.below h.below).maxLen⟩) (fun pre W v h=>qz7 v h (by omega) (by omega) (by omega) (by omega) (by omega)) ⟨c3,c1,f1,c3,c4,hb0,rfl⟩
   (fun x=>{ tmps:=#[.string (ba s),undef,.pointer (some ⟨w.heap.size,0,none⟩),.string (ba x),.string (ba s),.int .i64 s.length,.bool (decide ((60:Int)<s.length)),.string (ba s),.func (.func 200) #[] #[.pointer (some ⟨w.heap.size+1+1,0,none⟩),.pointer (some ⟨w.heap.size+1,0,none⟩),.pointer (some ⟨w.heap.size+1+2,0,none⟩)],.string (ba x),undef,undef,undef],defers:=[] }) ?assign ?body ?done ?stop
  case assign =>
   intro l x W K hK
   gi_wp2
   exact hK
  case body =>
   intro l pre x r W hi hL hx
   have k1:=hi.res
   have k2:=hi.frz
   have hc:=jqs x W (hI.below hi.below) (by omega)
   cases hpx:qav x with
   | true =>
    rw [hpx] at hc
    gi_wp2_with (refine ⟨trivial,?_⟩;gi_at_call 154;refine (CallsIn.inRound l (callsIn_wide.2 hc)).mono ?_;rintro e w' ⟨rfl,hb'⟩)
    exact ⟨q2n hb',qhv hi hb' (by simp [hpx]),qd4 hL hb'⟩
   | false =>
    rw [hpx] at hc
    gi_wp2_with (refine ⟨trivial,?_⟩;gi_at_call 154;refine (CallsIn.inRound l (callsIn_wide.2 hc)).mono ?_;rintro e w' ⟨rfl,hb'⟩;have k3:=q2y hb' hi.res;have k4:=(q3h hb' hi.res).trans hi.frz)
    exact ⟨(q2n hb').trans (KeepsOthers.setCell _ _ _),World.cell?_setCell_same' _ _ _ (by rw [k3];rfl),(hi.below.trans (hb'.mono hi.below.size)).setCell (by simp) _,by simp [hpx]⟩
  case done =>
   intro D W hD hi hK
   have k1:=hi.res
   have k2:=hi.frz
   gi_wp2
   have hK':=(KeepsOthers.setCell W ⟨w.heap.size,0,none⟩ (.bool true)).same D _ hK rfl
   have hW':Below w.heap.size w (W.setCell ⟨w.heap.size,0,none⟩ (.bool true)):=hi.below.setCell (by simp) _
   have k5:(W.setCell ⟨w.heap.size,0,none⟩ (.bool true)).cell? ⟨w.heap.size,0,none⟩=some (.bool true):=World.cell?_setCell_same' _ _ _ (by rw [k1];rfl)
   generalize W.setCell ⟨w.heap.size,0,none⟩ (.bool true)=W2 at hK' hW' k5
   refine ⟨by simp,.inl ⟨_,_,rfl,run_takeDeferred hK',?_⟩⟩
   have hg:=grownBy_putObj' W2 D (.deferred none)
   refine ⟨_,q2s (b:=w.heap.size) (v:=.bool true) rfl rfl hag (cell_kept k5 hg (fun r e=>by cases e;exact ⟨_,hK',rfl⟩)),?_,?_⟩
   ·have ha:=hi.all
    unfold q56;simp [h2,ha]
   ·exact hW'.grown hg hW'.size (fun k e=>by cases e;omega)
  case stop =>
   intro D pre x t W hD hsp hi hK
   refine ⟨by simp,.inl ⟨_,_,rfl,run_takeDeferred hK,?_⟩⟩
   have hg:=grownBy_putObj' W D (.deferred none)
   refine ⟨_,q2s (b:=w.heap.size) (v:=.bool false) rfl rfl hag (cell_kept hi.res hg (fun r e=>by cases e;exact ⟨_,hK,rfl⟩)),?_,?_⟩
   ·have ha:=jcp hsp hi.no
    unfold q56;simp [ha]
   ·exact hi.below.grown hg hi.below.size (fun k e=>by cases e;omega)
 ·gi_wp2
  refine ⟨_,q2s (b:=w.heap.size) (v:=.bool false) rfl rfl hag (by simp),?_,?_⟩
  ·unfold q56;simp [h2]
  ·exact (Below.refl _ w).alloc (Nat.le_refl _) _
def qsl (s:List UInt8):Option Bool:=some (q56 s)
def j0e:FC:={ f:=119,args:=[qvn],res:=jrk,F:=fun p=>qsl p }
theorem jc3:q0c Inv Tryz.prog j0e:=fun G hG=>⟨⟨by kernel_rfl,fun (s:List UInt8) r h=>by
 have hr:q56 s=r:=Option.some.inj h
 intro Pc w vs hg hlt hv
 obtain ⟨l⟩:=vs
 match l,hv with
 | [x],⟨h1,_⟩ =>
  obtain rfl:x = .string (ba s):=q0b h1
  refine (jbn s w (hG.im w hg)).mono ?_
  rintro e w' ⟨rfl,hb⟩
  subst hr
  exact q4d rfl hb (q06 _)⟩,rfl⟩
end YtapfankgdkdkgaaGreatDoor.AM
end Go.Proofs
namespace Go.Proofs
open Go.RowKit Go.Shelf Go.Lib
attribute [local go_sem] Oper.semAt_some
set_option linter.unusedVariables false
set_option linter.unusedSimpArgs false
namespace YtapfankgdkdkgaaGreatDoor.AM
theorem jj9 (x:List UInt8) (w:World) (hI:Inv w) (hx:x.length<=1000000):Calls Tryz.prog 134 #[.string (ba x)] w fun e w'=>e = .returned (.bool (q1n x))/\Below w.heap.size w w':=by
 have h:=(j45 1000001 Inv q9u).1.2 x (q1n x) (qq3 1000001 x (by omega))
 refine (h (fun _ _=>False) w #[.string (ba x)] hI (fun b o h=>h.elim) ⟨q06 _,trivial⟩).mono ?_
 rintro e w' ⟨v,Pc,rfl,hb,_,_,hv⟩
 have hv':v = .bool (q1n x):=q0b hv
 rw [hv']
 exact ⟨rfl,hb⟩
set_option maxHeartbeats 2000000 in
theorem jfu (s:List UInt8) (w:World) (hI:Inv w) (h2:s.length<=1000000):Calls Tryz.prog 133 #[.string (ba s)] w fun e w'=>e = .returned (.bool (anyS s))/\Below w.heap.size w w':=by
 refine (callsIn_wide (n:=9)).1 ?_
 refine callsIn_of_wp_marks Tryz.func133 rfl trivial ?_ rfl
 simp only [Tryz.ntmps133,List.size_toArray,List.length_cons,List.length_nil,Nat.reduceAdd,Nat.reduceSub,Array.replicate_succ,Array.replicate_zero,List.push_toArray,List.append_toArray,List.nil_append,List.cons_append]
 have hsz:(ba s).size=s.length:=q39 s
 have key:anyS s = !((spl 47 [] s).all fun x=>!q1n x):=by unfold anyS;rw [List.any_eq_not_all_not]
 ·skip
  gi_wp2_with (refine ⟨trivial,?_⟩;gi_at_call 136;refine (callsIn_wide.2 (q4k _ _ _)).mono ?_;rintro e w' ⟨rfl,rfl⟩)
  obtain ⟨W0,hW0,hs0,hb0,g0,g1,g2,g3⟩:=four w (Obj.cells #[Value.bool false] 4) (Obj.cells #[Value.string (ba s)] 9) (Obj.cells #[Value.string { data:=#[47] }] 9) (Obj.cells #[Value.int IntKind.i64 0] 3)
  rw [hW0]
  clear hW0
  obtain ⟨c1,f1⟩:=q0o g0
  obtain ⟨c2,f2⟩:=q0o g1
  obtain ⟨c3,f3⟩:=q0o g2
  obtain ⟨c4,f4⟩:=q0o g3
  refine range_split (n:=9) (by omega) 47 (w.heap.size+1) (w.heap.size+1+1) (w.heap.size+1+2) s (by omega) rfl ⟨c2,f2⟩
   (Rng (.string (ba [47])) (w.heap.size+1+1) w.heap.size (w.heap.size+1+1) (w.heap.size+1+2) 47 w (fun x=>!q1n x)) (RngY w.heap.size w (fun x=>!q1n x)) (qxy (by omega)) (jr4 (by omega))
   (fun pre W h=>⟨h.cP,h.cC,(hI.below h.below).maxLen⟩) (fun pre W v h=>qz7 v h (by omega) (by omega) (by omega) (by omega) (by omega)) ⟨c3,c1,f1,c3,c4,hb0,rfl⟩
   (fun x=>{ tmps:=#[.string (ba s),undef,.pointer (some ⟨w.heap.size,0,none⟩),.string (ba x),.string (ba s),.func (.func 200) #[] #[.pointer (some ⟨w.heap.size+1+1,0,none⟩),.pointer (some ⟨w.heap.size+1,0,none⟩),.pointer (some ⟨w.heap.size+1+2,0,none⟩)],.string (ba x),undef,undef],defers:=[] }) ?assign ?body ?done ?stop
  case assign =>
   intro l x W K hK
   gi_wp2
   exact hK
  case body =>
   intro l pre x r W hi hL hx
   have k1:=hi.res
   have k2:=hi.frz
   have hc:=jj9 x W (hI.below hi.below) (by omega)
   cases hpx:q1n x with
   | false =>
    rw [hpx] at hc
    gi_wp2_with (refine ⟨trivial,?_⟩;gi_at_call 134;refine (CallsIn.inRound l (callsIn_wide.2 hc)).mono ?_;rintro e w' ⟨rfl,hb'⟩)
    exact ⟨q2n hb',qhv hi hb' (by simp [hpx]),qd4 hL hb'⟩
   | true =>
    rw [hpx] at hc
    gi_wp2_with (refine ⟨trivial,?_⟩;gi_at_call 134;refine (CallsIn.inRound l (callsIn_wide.2 hc)).mono ?_;rintro e w' ⟨rfl,hb'⟩;have k3:=q2y hb' hi.res;have k4:=(q3h hb' hi.res).trans hi.frz)
    exact ⟨(q2n hb').trans (KeepsOthers.setCell _ _ _),World.cell?_setCell_same' _ _ _ (by rw [k3];rfl),(hi.below.trans (hb'.mono hi.below.size)).setCell (by simp) _,by simp [hpx]⟩
  case done =>
   intro D W hD hi hK
   have k1:=hi.res
   have k2:=hi.frz
   gi_wp2
   have hK':=(KeepsOthers.setCell W ⟨w.heap.size,0,none⟩ (.bool false)).same D _ hK rfl
   have hW':Below w.heap.size w (W.setCell ⟨w.heap.size,0,none⟩ (.bool false)):=hi.below.setCell (by simp) _
   have k5:(W.setCell ⟨w.heap.size,0,none⟩ (.bool false)).cell? ⟨w.heap.size,0,none⟩=some (.bool false):=World.cell?_setCell_same' _ _ _ (by rw [k1];rfl)
   generalize W.setCell ⟨w.heap.size,0,none⟩ (.bool false)=W2 at hK' hW' k5
   refine ⟨by simp,.inl ⟨_,_,rfl,run_takeDeferred hK',?_⟩⟩
   have hg:=grownBy_putObj' W2 D (.deferred none)
   refine ⟨_,q2s (b:=w.heap.size) (v:=.bool false) rfl rfl hag (cell_kept k5 hg (fun r e=>by cases e;exact ⟨_,hK',rfl⟩)),?_,?_⟩
   ·have ha:=hi.all
    rw [key,ha];rfl
   ·exact hW'.grown hg hW'.size (fun k e=>by cases e;omega)
  case stop =>
   intro D pre x t W hD hsp hi hK
   refine ⟨by simp,.inl ⟨_,_,rfl,run_takeDeferred hK,?_⟩⟩
   have hg:=grownBy_putObj' W D (.deferred none)
   refine ⟨_,q2s (b:=w.heap.size) (v:=.bool true) rfl rfl hag (cell_kept hi.res hg (fun r e=>by cases e;exact ⟨_,hK,rfl⟩)),?_,?_⟩
   ·have ha:=jcp hsp hi.no
    rw [key,ha];rfl
   ·exact hi.below.grown hg hi.below.size (fun k e=>by cases e;omega)
theorem jlp (s:List UInt8) (b:Nat):(ba s).extract 0 b=ba (s.take b):=by
 rw [<-juu ((ba s).extract 0 b)]
 congr 1
 unfold unB ba
 rw [ByteArray.data_extract]
 simp
theorem jmm (x:List UInt8) (w:World) (hI:Inv w) (hx:x.length<=1000000):Calls Tryz.prog 164 #[.string (ba x),.int .u8 47] w fun e w'=>e = .returned (.int .i64 (q92 47 x))/\Below w.heap.size w w':=by
 have h:=(jfg 1000001 Inv q9u).1.2 (x,(47:Int)) (q92 47 x) (qwa 1000001 x (by omega) (by omega))
 refine (h (fun _ _=>False) w #[.string (ba x),.int .u8 47] hI (fun b o h=>h.elim) ⟨q06 _,q06 _,trivial⟩).mono ?_
 rintro e w' ⟨v,Pc,rfl,hb,_,_,hv⟩
 have hv':v = .int .i64 (q92 47 x):=q0b hv
 rw [hv']
 exact ⟨rfl,hb⟩
theorem j9v (s:List UInt8) (w:World) (hI:Inv w) (hs:s.length<=1000000):Calls Tryz.prog 131 #[.string (ba s)] w fun e w'=>e = .returned (.string (ba (q2j s)))/\Below w.heap.size w w':=by
 have hl:=jeo 47 s
 have hsz:(ba s).size=s.length:=q39 s
 have hc:=jmm s w hI hs
 go_enter Tryz.func131,Tryz.ntmps131
 by_cases h0:q92 47 s = -1
 ·rw [h0] at hc
  go_wp2_with (go_at_call 164;refine hc.mono ?_)
  rintro e w' ⟨rfl,hb⟩
  go_wp2
  go_ret
  refine ⟨?_,hb⟩
  show Ending.returned (.string ((ba s).extract 0 (max 0 (-1:Int)).toNat))=_
  rw [jlp];unfold q2j;rw [h0];rfl
 ·obtain ⟨k,hk⟩ : ∃ k:Nat,q92 47 s=(k:Int):=⟨(q92 47 s).toNat,by omega⟩
  rw [hk] at hc
  go_wp2_with (go_at_call 164;refine hc.mono ?_)
  rintro e w' ⟨rfl,hb⟩
  go_wp2
  go_ret
  refine ⟨?_,hb⟩
  show Ending.returned (.string ((ba s).extract 0 (max 0 (k:Int)).toNat))=_
  rw [jlp];unfold q2j;rw [hk,Int.max_eq_right (by omega)]
theorem jqg (x:List UInt8) (w:World) (hI:Inv w) (hx:x.length<=1000000):Calls Tryz.prog 155 #[.string (ba x),.string (ba [118])] w fun e w'=>e = .returned (.string (ba (q1o x)))/\Below w.heap.size w w':=by
 have h:=(qfz 100 Inv q9u).1.2 (x,([118]:List UInt8)) (q1o x) (j32 100 x (by omega))
 refine (h (fun _ _=>False) w #[.string (ba x),.string (ba [118])] hI (fun b o h=>h.elim) ⟨q06 _,q06 _,trivial⟩).mono ?_
 rintro e w' ⟨v,Pc,rfl,hb,_,_,hv⟩
 have hv':v = .string (ba (q1o x)):=q0b hv
 rw [hv']
 exact ⟨rfl,hb⟩
theorem jpt (n:Int) (w:World) (hI:Inv w) (h0:2<=n) (h1:n<=999999999):Calls Tryz.prog 76 #[.int .i64 n] w fun e w'=>e = .returned (.string (ba (Lib.itoa n)))/\Below w.heap.size w w':=by
 refine (Any.strconv_Itoa Tryz.laysItoa n (by omega) (by omega) w hI.tab).mono ?_
 rintro e w' ⟨rfl,k,os,rfl⟩
 exact ⟨rfl,Lib.below_grow _ w (Nat.le_refl _) k os⟩
set_option maxHeartbeats 2000000 in
theorem jhe (s:List UInt8) (w:World) (hI:Inv w) (hs:s.length<=1000000):Calls Tryz.prog 135 #[.string (ba s)] w fun e w'=>e = .returned (.tuple #[.int .i64 (numOf (q1o s)),.bool (qv3 (q1o s))])/\Below w.heap.size w w':=by
 have hc:=jqg s w hI hs
 have hl:=j2n s
 go_enter Tryz.func135,Tryz.ntmps135
 go_wp2_with (go_at_call 155;refine hc.mono ?_)
 rintro e w1 ⟨rfl,hb1⟩
 clear hc
 have hI1:=hI.below hb1
 have e1:(ba (q1o s)).data.toList=q1o s:=by simp [ba]
 have hl':(ba (q1o s)).size<=281474976710656:=by rw [q39];omega
 obtain ⟨ts,ps,hsy⟩:=hI1.syn
 obtain ⟨tr,pr,hrg⟩:=hI1.rng
 cases h:Lib.atoiAll (q1o s) with
 | ok v =>
  go_wp2_with (go_at_call 167;refine (Any.strconv_Atoi_ok Tryz.laysAtoi (ba (q1o s)) (by omega) v (by rw [e1];exact h) w1).mono ?_)
  rintro e w2 ⟨rfl,hw⟩
  have hb2:Below w1.heap.size w1 w2:=by
   rcases hw with rfl|⟨t,rfl⟩
   ·exact Below.refl _ _
   ·exact Lib.bytesWorld_below _ _ _
  clear hw
  have hb:Below w.heap.size w w2:=hb1.trans (hb2.mono hb1.size)
  by_cases h2:2<=v
  ·by_cases h3:v<=999999999
   ·have hi:=jpt v w2 (hI.below hb) h2 h3
    go_wp2_with (go_at_call 76;refine hi.mono ?_)
    rintro e w3 ⟨rfl,hb3⟩
    go_wp2
    go_ret2
    refine ⟨?_,hb.trans (hb3.mono hb.size)⟩
    unfold numOf qv3;rw [h]
    simp [h2,h3,q8u]
    rw [Bool.eq_iff_iff];simp
   ·go_wp2
    go_ret2
    refine ⟨?_,hb⟩
    unfold numOf qv3;rw [h]
    simp [h2,show ¬ v<=999999999 from by omega]
  ·go_wp2
   go_ret2
   refine ⟨?_,hb⟩
   unfold numOf qv3;rw [h]
   simp [show ¬ 2<=v from by omega]
 | «syntax» =>
  go_wp2_with (go_at_call 167;refine (Any.strconv_Atoi_syntax Tryz.laysAtoi (ba (q1o s)) hl' (by rw [e1];exact h) _ w1 hsy (Or.inr ⟨_,_,rfl⟩)).mono ?_)
  rintro e w2 ⟨N,rfl,hN,hc,hb2⟩
  go_wp2
  go_ret2
  refine ⟨?_,hb1.trans (hb2.mono hb1.size)⟩
  unfold numOf qv3;rw [h];rfl
 | range =>
  go_wp2_with (go_at_call 167;refine (Any.strconv_Atoi_range Tryz.laysAtoi (ba (q1o s)) hl' (by rw [e1];exact h) _ w1 hrg (Or.inr ⟨_,_,rfl⟩)).mono ?_)
  rintro e w2 ⟨N,rfl,hN,hc,hb2⟩
  rw [e1]
  go_wp2
  go_ret2
  refine ⟨?_,hb1.trans (hb2.mono hb1.size)⟩
  unfold numOf qv3;rw [h];rfl
def j4v (s:List UInt8):Option Bool:=if s.length<=1000000 then some (anyS s) else none
def jos:FC:={ f:=133,args:=[qvn],res:=jrk,F:=fun p=>j4v p }
theorem jv4:q0c Inv Tryz.prog jos:=fun G hG=>⟨⟨by kernel_rfl,fun (s:List UInt8) r h=>by
 have h':j4v s=some r:=h
 unfold j4v at h'
 split at h'
 case isFalse=>cases h'
 rename_i hc
 have hr:anyS s=r:=Option.some.inj h'
 intro Pc w vs hg hlt hv
 obtain ⟨l⟩:=vs
 match l,hv with
 | [x],⟨h1,_⟩ =>
  obtain rfl:x = .string (ba s):=q0b h1
  refine (jfu s w (hG.im w hg) hc).mono ?_
  rintro e w' ⟨rfl,hb⟩
  subst hr
  exact q4d rfl hb (q06 _)⟩,rfl⟩
def qpy (s:List UInt8):Option (List UInt8):=if s.length<=1000000 then some (q2j s) else none
def jer:FC:={ f:=131,args:=[qvn],res:=qvn,F:=fun p=>qpy p }
theorem jsb:q0c Inv Tryz.prog jer:=fun G hG=>⟨⟨by kernel_rfl,fun (s:List UInt8) r h=>by
 have h':qpy s=some r:=h
 unfold qpy at h'
 split at h'
 case isFalse=>cases h'
 rename_i hc
 have hr:q2j s=r:=Option.some.inj h'
 intro Pc w vs hg hlt hv
 obtain ⟨l⟩:=vs
 match l,hv with
 | [x],⟨h1,_⟩ =>
  obtain rfl:x = .string (ba s):=q0b h1
  refine (j9v s w (hG.im w hg) hc).mono ?_
  rintro e w' ⟨rfl,hb⟩
  subst hr
  exact q4d rfl hb (q06 (.string (ba (q2j s))))⟩,rfl⟩
def qwq (s:List UInt8):Option (Int×Bool):=if s.length<=1000000 then some (numOf (q1o s),qv3 (q1o s)) else none
def jog:FC:={ f:=135,args:=[qvn],res:=.tup [.c (.d (.int .i64)),.c (.d .bool)],F:=fun p=>qwq p }
theorem jws:q0c Inv Tryz.prog jog:=fun G hG=>⟨⟨by kernel_rfl,fun (s:List UInt8) (r:Int×Bool) h=>by
 have h':qwq s=some r:=h
 unfold qwq at h'
 split at h'
 case isFalse=>cases h'
 rename_i hc
 have hr:(numOf (q1o s),qv3 (q1o s))=r:=Option.some.inj h'
 intro Pc w vs hg hlt hv
 obtain ⟨l⟩:=vs
 match l,hv with
 | [x],⟨h1,_⟩ =>
  obtain rfl:x = .string (ba s):=q0b h1
  refine (jhe s w (hG.im w hg) hc).mono ?_
  rintro e w' ⟨rfl,hb⟩
  subst hr
  refine ⟨_,Pc,rfl,hb,fun _ _ h=>h,fun _ _ h=>Or.inl h,?_⟩
  exact ⟨#[.int .i64 (numOf (q1o s)),.bool (qv3 (q1o s))],rfl,q06 (σ:=qol) (.int .i64 (numOf (q1o s))),q06 (σ:=qol) (.bool (qv3 (q1o s))),trivial⟩⟩,rfl⟩
end YtapfankgdkdkgaaGreatDoor.AM
end Go.Proofs
