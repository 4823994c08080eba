
import Derived.Test.YtapfankgdkdkgaaGreatDoorMk12
import Derived.Test.YtapfankgdkdkgaaGreatDoorMk9
import Derived.Test.YtapfankgdkdkgaaGreatDoorMk10
namespace Go.Proofs.YtapfankgdkdkgaaGreatDoor.AM
open Go.RowKit
set_option linter.unusedVariables false
set_option maxRecDepth 20000
@[reducible] def qh7:SSt:=⟨[(0,.one (.c (.d .str))),(1,.one (.c (.d (.int .u8)))),(5,.one (.c (.d (.int .i64))))],[],[]⟩
@[reducible] def q9d:List (Exit×SSt):=[(.ret,⟨[(4,.one (.c (.d (.int .i64))))],[],[]⟩),(.exit 0,⟨[],[],[]⟩)]
def qnt (n:Nat) (rec:(List UInt8)->Int->Int->Option (((Int×Unit)×Unit×Unit)⊕(Unit×Unit×Unit))) (a1:List UInt8) (a2:Int) (a3:Int):Option (((Int×Unit)×Unit×Unit)⊕(Unit×Unit×Unit)) :=
 (bif decide (0<=a3) then (sAt a1 a3).bind fun c2=>(bif decide (c2=a2) then some (Sum.inl ((a3,()),((),()))) else q08 (IntKind.wrap .i64 (a3 - (1:Int))) fun n3=>rec a1 a2 n3) else some (Sum.inr (((),((),())))))
def qzj (n:Nat) (rec:pSt qh7->Option (q0e q9d)) (p:pSt qh7):Option (q0e q9d):=qnt n (fun a1 a2 a3=>rec ((a1,(a2,(a3,()))),((),()))) p.1.1 p.1.2.1 p.1.2.2.1
def q9n (n m:Nat) (a1:List UInt8) (a2:Int) (a3:Int):Option (((Int×Unit)×Unit×Unit)⊕(Unit×Unit×Unit)):=q0g (qzj n) m ((a1,(a2,(a3,()))),((),()))
theorem qan (n m:Nat) (a1 a2 a3):q9n n (m+1) a1 a2 a3=qnt n (fun a1 a2 a3=>q9n n m a1 a2 a3) a1 a2 a3:=rfl
def jbi (n:Nat):LC:={ sh:=qh7,outs:=q9d,F:=q0g (qzj n) n }
def qq6 (n:Nat):List LC:=[jbi n]
def qzz (n:Nat) (a1:List UInt8) (a2:Int):Option (Int) :=
 q08 (IntKind.wrap .i64 ((a1.length:Int) - (1:Int))) fun (n1:Int)=>(q9n n n a1 a2 n1).bind fun o4=>Sum.elim (fun (q5:(Int×Unit)×Unit×Unit)=>some q5.1.1) (fun (q6:(Unit)×Unit×Unit)=>some (-1:Int)) o4
def qfy (n:Nat):FC:={ f:=80,args:=[.one (.c (.d .str)),.one (.c (.d (.int .u8)))],res:=.one (.c (.d (.int .i64))),F:=fun p=>qzz n p.1 p.2 }
def qxr (n:Nat):List FC:=[]
theorem qvr (n:Nat) {G:World->Prop} (hG:Know Inv G) : ∀c∈qxr n,q17 Tryz.prog G c/\q0b c.args=true:=(fun _ h=>by cases h)
def qyc:q0a:=[]
theorem jc3:drB qyc (q00 Tryz.f80)=true:=by kernel_rfl
theorem jo1 (n:Nat) : ∀rec p,qzj n rec p=round Tryz.prog 19 (qxr n) (qq6 n) qyc 1 qh7 q9d (q01 0 0 (q00 Tryz.f80)) rec p:=by intro rec p;kernel_rfl
theorem jfi (n:Nat) {F:Fr} (hF:F.n=19) (hK:Know Inv F.G):q8a Tryz.prog F (jbi n) (q01 0 0 (q00 Tryz.f80)) :=
 q0h hF (by kernel_rfl) (qvr n hK) (jo1 n) (fuel:=n) (fun _=>rfl) (q02 fun j L h1 h2 h3=>absurd h2 (Nat.not_lt.2 (Nat.le_trans (by decide +kernel) h1))) (q0w jc3)
theorem jop (n:Nat) : ∀a,(qfy n).F a=main Tryz.prog 19 (qxr n) (qq6 n) qyc (q00 Tryz.f80) [.tmp 4] (qfy n).args (qfy n).res a:=by intro a;kernel_rfl
theorem jq3 (n:Nat):q0d Inv Tryz.prog (qfy n):=fun G hG=>⟨⟨by kernel_rfl,fun a r h=>q04 (c:=q00 Tryz.f80) Tryz.func80 (by kernel_rfl) (by kernel_rfl) (Nat.le_of_ble_eq_true (by kernel_rfl)) hG.st (by kernel_rfl) (rs:=[.tmp 4]) (by kernel_rfl) (qvr n hG) (lts:=qq6 n) (fun F hF hFG=>have hK:Know Inv F.G:=hFG ▸ hG;(q02 (c:=(q00 Tryz.f80)) (fun j L h1 h2 h3=>by
  have h2':j<1:=Nat.lt_of_lt_of_le h2 (by decide +kernel)
  match j,h1,h2',h3 with
  | 0,_,_,h3=>obtain rfl:=Option.some.inj h3;exact (show q01 0 0 (q00 Tryz.f80)=q01 0 0 (q00 Tryz.f80) by kernel_rfl) ▸ jfi n hF hK
  | j+1,_,h2',_=>exact absurd h2' (by omega)))) jc3 ((jop n a).symm.trans h)⟩,rfl⟩
def j1h (n:Nat):List LC:=[]
def qzf (n:Nat) (a1:List UInt8) (a2:Int):Option (Int) :=
 (qzz n a1 a2).bind fun r1=>some r1
def qgw (n:Nat):FC:={ f:=164,args:=[.one (.c (.d .str)),.one (.c (.d (.int .u8)))],res:=.one (.c (.d (.int .i64))),F:=fun p=>qzf n p.1 p.2 }
def jec (n:Nat):List FC:=[qfy n]
theorem jg0 (n:Nat) {G:World->Prop} (hG:Know Inv G) : ∀c∈jec n,q17 Tryz.prog G c/\q0b c.args=true:=List.forall_mem_cons.2 ⟨jq3 n G hG,(fun _ h=>by cases h)⟩
def jcy:q0a:=[]
theorem js1:drB jcy (q00 Tryz.f164)=true:=by kernel_rfl
theorem jqy (n:Nat) : ∀a,(qgw n).F a=main Tryz.prog 8 (jec n) (j1h n) jcy (q00 Tryz.f164) [.tmp 4] (qgw n).args (qgw n).res a:=by intro a;kernel_rfl
theorem jbt (n:Nat):q0d Inv Tryz.prog (qgw n):=fun G hG=>⟨⟨by kernel_rfl,fun a r h=>q04 (c:=q00 Tryz.f164) Tryz.func164 (by kernel_rfl) (by kernel_rfl) (Nat.le_of_ble_eq_true (by kernel_rfl)) hG.st (by kernel_rfl) (rs:=[.tmp 4]) (by kernel_rfl) (jg0 n hG) (lts:=j1h n) (fun F hF hFG=>have hK:Know Inv F.G:=hFG ▸ hG;(q02 fun j L h1 h2 h3=>absurd h2 (Nat.not_lt.2 (Nat.le_trans (by decide +kernel) h1)))) js1 ((jqy n a).symm.trans h)⟩,rfl⟩
def qe0 (n:Nat):List LC:=[]
def qbs (n:Nat) (a1:List UInt8) (a2:List UInt8):Option ((List UInt8)×(Bool)) :=
 (q1k n a1 a2).bind fun r1=>(bif !r1 then some (a1,false) else (q2i a1 (a2.length:Int) (a1.length:Int)).bind fun s2=>some (s2,true))
def q3m (n:Nat):FC:={ f:=190,args:=[.one (.c (.d .str)),.one (.c (.d .str))],res:=.tup [.c (.d .str),.c (.d .bool)],F:=fun p=>qbs n p.1 p.2 }
def qia (n:Nat):List FC:=[q0m n]
theorem qoe (n:Nat) {G:World->Prop} (hG:Know Inv G) : ∀c∈qia n,q17 Tryz.prog G c/\q0b c.args=true:=List.forall_mem_cons.2 ⟨q40 n G hG,(fun _ h=>by cases h)⟩
def qgv:q0a:=[]
theorem qxg:drB qgv (q00 Tryz.f190)=true:=by kernel_rfl
theorem qyg (n:Nat) : ∀a,(q3m n).F a=main Tryz.prog 15 (qia n) (qe0 n) qgv (q00 Tryz.f190) [.tmp 4,.tmp 5] (q3m n).args (q3m n).res a:=by intro a;kernel_rfl
theorem j09 (n:Nat):q0d Inv Tryz.prog (q3m n):=fun G hG=>⟨⟨by kernel_rfl,fun a r h=>q04 (c:=q00 Tryz.f190) Tryz.func190 (by kernel_rfl) (by kernel_rfl) (Nat.le_of_ble_eq_true (by kernel_rfl)) hG.st (by kernel_rfl) (rs:=[.tmp 4,.tmp 5]) (by kernel_rfl) (qoe n hG) (lts:=qe0 n) (fun F hF hFG=>have hK:Know Inv F.G:=hFG ▸ hG;(q02 fun j L h1 h2 h3=>absurd h2 (Nat.not_lt.2 (Nat.le_trans (by decide +kernel) h1)))) qxg ((qyg n a).symm.trans h)⟩,rfl⟩
def qh9 (n:Nat):List LC:=[]
def q9j (n:Nat) (a1:List UInt8) (a2:List UInt8):Option ((List UInt8)×(Bool)) :=
 (qbs n a1 a2).bind fun r1=>some r1
def q4x (n:Nat):FC:={ f:=165,args:=[.one (.c (.d .str)),.one (.c (.d .str))],res:=.tup [.c (.d .str),.c (.d .bool)],F:=fun p=>q9j n p.1 p.2 }
def ql1 (n:Nat):List FC:=[q3m n]
theorem qtv (n:Nat) {G:World->Prop} (hG:Know Inv G) : ∀c∈ql1 n,q17 Tryz.prog G c/\q0b c.args=true:=List.forall_mem_cons.2 ⟨j09 n G hG,(fun _ h=>by cases h)⟩
def qlg:q0a:=[]
theorem j4h:drB qlg (q00 Tryz.f165)=true:=by kernel_rfl
theorem j3x (n:Nat) : ∀a,(q4x n).F a=main Tryz.prog 11 (ql1 n) (qh9 n) qlg (q00 Tryz.f165) [.tmp 4,.tmp 5] (q4x n).args (q4x n).res a:=by intro a;kernel_rfl
theorem j55 (n:Nat):q0d Inv Tryz.prog (q4x n):=fun G hG=>⟨⟨by kernel_rfl,fun a r h=>q04 (c:=q00 Tryz.f165) Tryz.func165 (by kernel_rfl) (by kernel_rfl) (Nat.le_of_ble_eq_true (by kernel_rfl)) hG.st (by kernel_rfl) (rs:=[.tmp 4,.tmp 5]) (by kernel_rfl) (qtv n hG) (lts:=qh9 n) (fun F hF hFG=>have hK:Know Inv F.G:=hFG ▸ hG;(q02 fun j L h1 h2 h3=>absurd h2 (Nat.not_lt.2 (Nat.le_trans (by decide +kernel) h1)))) j4h ((j3x n a).symm.trans h)⟩,rfl⟩
def q3u (n:Nat):List LC:=[]
def q0s (n:Nat) (a1:List UInt8) (a2:List UInt8):Option (Bool) :=
 (q1k n a1 a2).bind fun r1=>some r1
def q1i (n:Nat):FC:={ f:=152,args:=[.one (.c (.d .str)),.one (.c (.d .str))],res:=.one (.c (.d .bool)),F:=fun p=>q0s n p.1 p.2 }
def q51 (n:Nat):List FC:=[q0m n]
theorem q88 (n:Nat) {G:World->Prop} (hG:Know Inv G) : ∀c∈q51 n,q17 Tryz.prog G c/\q0b c.args=true:=List.forall_mem_cons.2 ⟨q40 n G hG,(fun _ h=>by cases h)⟩
def q4u:q0a:=[]
theorem qc9:drB q4u (q00 Tryz.f152)=true:=by kernel_rfl
theorem qbj (n:Nat) : ∀a,(q1i n).F a=main Tryz.prog 8 (q51 n) (q3u n) q4u (q00 Tryz.f152) [.tmp 4] (q1i n).args (q1i n).res a:=by intro a;kernel_rfl
theorem qlx (n:Nat):q0d Inv Tryz.prog (q1i n):=fun G hG=>⟨⟨by kernel_rfl,fun a r h=>q04 (c:=q00 Tryz.f152) Tryz.func152 (by kernel_rfl) (by kernel_rfl) (Nat.le_of_ble_eq_true (by kernel_rfl)) hG.st (by kernel_rfl) (rs:=[.tmp 4]) (by kernel_rfl) (q88 n hG) (lts:=q3u n) (fun F hF hFG=>have hK:Know Inv F.G:=hFG ▸ hG;(q02 fun j L h1 h2 h3=>absurd h2 (Nat.not_lt.2 (Nat.le_trans (by decide +kernel) h1)))) qc9 ((qbj n a).symm.trans h)⟩,rfl⟩
def quz (n:Nat):List LC:=[]
def qg0 (n:Nat) (a1:List UInt8):Option (Bool) :=
 (q9j n a1 ([118]:List UInt8)).bind fun r1=>(bif r1.2 then (bif !decide (r1.1=([]:List UInt8)) then (qru r1.1 ([48,49,50,51,52,53,54,55,56,57]:List UInt8)).bind fun (r2:List UInt8)=>some (decide (r2=([]:List UInt8))) else some false) else some false)
def qc1 (n:Nat):FC:={ f:=134,args:=[.one (.c (.d .str))],res:=.one (.c (.d .bool)),F:=fun p=>qg0 n p }
def j3o (n:Nat):List FC:=[q4x n,jbr]
theorem j8v (n:Nat) {G:World->Prop} (hG:Know Inv G) : ∀c∈j3o n,q17 Tryz.prog G c/\q0b c.args=true:=List.forall_mem_cons.2 ⟨j55 n G hG,List.forall_mem_cons.2 ⟨jru G hG,(fun _ h=>by cases h)⟩⟩
def j1p:q0a:=[]
theorem jml:drB j1p (q00 Tryz.f134)=true:=by kernel_rfl
theorem jnl (n:Nat) : ∀a,(qc1 n).F a=main Tryz.prog 20 (j3o n) (quz n) j1p (q00 Tryz.f134) [.tmp 2] (qc1 n).args (qc1 n).res a:=by intro a;kernel_rfl
theorem j5x (n:Nat):q0d Inv Tryz.prog (qc1 n):=fun G hG=>⟨⟨by kernel_rfl,fun a r h=>q04 (c:=q00 Tryz.f134) Tryz.func134 (by kernel_rfl) (by kernel_rfl) (Nat.le_of_ble_eq_true (by kernel_rfl)) hG.st (by kernel_rfl) (rs:=[.tmp 2]) (by kernel_rfl) (j8v n hG) (lts:=quz n) (fun F hF hFG=>have hK:Know Inv F.G:=hFG ▸ hG;(q02 fun j L h1 h2 h3=>absurd h2 (Nat.not_lt.2 (Nat.le_trans (by decide +kernel) h1)))) jml ((jnl n a).symm.trans h)⟩,rfl⟩
end Go.Proofs.YtapfankgdkdkgaaGreatDoor.AM
namespace Go.Proofs.YtapfankgdkdkgaaGreatDoor.AM
open Go.RowKit
set_option linter.unusedVariables false
set_option maxRecDepth 20000
def j24 (n:Nat):List LC:=[]
def j03 (n:Nat) (a1:Int):Option (Bool) :=
 (bif decide (97<=a1) then (bif decide (a1<=122) then (bif decide (a1<=122) then some true else (bif decide (a1=45) then some true else (bif decide (a1=95) then some true else some (decide (a1=46))))) else (bif decide (65<=a1) then (bif decide (a1<=90) then (bif decide (a1<=90) then some true else (bif decide (a1=45) then some true else (bif decide (a1=95) then some true else some (decide (a1=46))))) else (bif decide (48<=a1) then (bif decide (a1<=57) then some true else (bif decide (a1=45) then some true else (bif decide (a1=95) then some true else some (decide (a1=46))))) else (bif decide (a1=45) then some true else (bif decide (a1=95) then some true else some (decide (a1=46)))))) else (bif decide (48<=a1) then (bif decide (a1<=57) then some true else (bif decide (a1=45) then some true else (bif decide (a1=95) then some true else some (decide (a1=46))))) else (bif decide (a1=45) then some true else (bif decide (a1=95) then some true else some (decide (a1=46))))))) else (bif decide (65<=a1) then (bif decide (a1<=90) then (bif decide (a1<=90) then some true else (bif decide (a1=45) then some true else (bif decide (a1=95) then some true else some (decide (a1=46))))) else (bif decide (48<=a1) then (bif decide (a1<=57) then some true else (bif decide (a1=45) then some true else (bif decide (a1=95) then some true else some (decide (a1=46))))) else (bif decide (a1=45) then some true else (bif decide (a1=95) then some true else some (decide (a1=46)))))) else (bif decide (48<=a1) then (bif decide (a1<=57) then some true else (bif decide (a1=45) then some true else (bif decide (a1=95) then some true else some (decide (a1=46))))) else (bif decide (a1=45) then some true else (bif decide (a1=95) then some true else some (decide (a1=46)))))))
def qh3 (n:Nat):FC:={ f:=182,args:=[.one (.c (.d (.int .u8)))],res:=.one (.c (.d .bool)),F:=fun p=>j03 n p }
def jbq (n:Nat):List FC:=[]
theorem jfm (n:Nat) {G:World->Prop} (hG:Know Inv G) : ∀c∈jbq n,q17 Tryz.prog G c/\q0b c.args=true:=(fun _ h=>by cases h)
def jd2:q0a:=[]
theorem jrj:drB jd2 (q00 Tryz.f182)=true:=by kernel_rfl
theorem jqf (n:Nat) : ∀a,(qh3 n).F a=main Tryz.prog 32 (jbq n) (j24 n) jd2 (q00 Tryz.f182) [.tmp 2] (qh3 n).args (qh3 n).res a:=by intro a;kernel_rfl
theorem jq6 (n:Nat):q0d Inv Tryz.prog (qh3 n):=fun G hG=>⟨⟨by kernel_rfl,fun a r h=>q04 (c:=q00 Tryz.f182) Tryz.func182 (by kernel_rfl) (by kernel_rfl) (Nat.le_of_ble_eq_true (by kernel_rfl)) hG.st (by kernel_rfl) (rs:=[.tmp 2]) (by kernel_rfl) (jfm n hG) (lts:=j24 n) (fun F hF hFG=>have hK:Know Inv F.G:=hFG ▸ hG;(q02 fun j L h1 h2 h3=>absurd h2 (Nat.not_lt.2 (Nat.le_trans (by decide +kernel) h1)))) jrj ((jqf n a).symm.trans h)⟩,rfl⟩
@[reducible] def qhs:SSt:=⟨[(0,.one (.c (.d .str))),(15,.one (.c (.d (.int .i64)))),(16,.one (.c (.d (.int .i64))))],[],[]⟩
@[reducible] def qal:List (Exit×SSt):=[(.ret,⟨[(2,.one (.c (.d .bool)))],[],[]⟩),(.exit 0,⟨[],[],[]⟩)]
def qy1 (n:Nat) (rec:(List UInt8)->Int->Int->Option (((Bool×Unit)×Unit×Unit)⊕(Unit×Unit×Unit))) (a1:List UInt8) (a2:Int) (a3:Int):Option (((Bool×Unit)×Unit×Unit)⊕(Unit×Unit×Unit)) :=
 (bif decide (a3<a2) then (sAt a1 a3).bind fun c1=>(j03 n c1).bind fun r2=>(bif !r2 then some (Sum.inl ((false,()),((),()))) else q08 (IntKind.wrap .i64 (a3+1)) fun n3=>rec a1 a2 n3) else some (Sum.inr (((),((),())))))
def qyy (n:Nat) (rec:pSt qhs->Option (q0e qal)) (p:pSt qhs):Option (q0e qal):=qy1 n (fun a1 a2 a3=>rec ((a1,(a2,(a3,()))),((),()))) p.1.1 p.1.2.1 p.1.2.2.1
def q9b (n m:Nat) (a1:List UInt8) (a2:Int) (a3:Int):Option (((Bool×Unit)×Unit×Unit)⊕(Unit×Unit×Unit)):=q0g (qyy n) m ((a1,(a2,(a3,()))),((),()))
theorem qmh (n m:Nat) (a1 a2 a3):q9b n (m+1) a1 a2 a3=qy1 n (fun a1 a2 a3=>q9b n m a1 a2 a3) a1 a2 a3:=rfl
def jcd (n:Nat):LC:={ sh:=qhs,outs:=qal,F:=q0g (qyy n) n }
def qsx (n:Nat):List LC:=[jcd n]
def j9c (n:Nat) (a1:List UInt8):Option (Bool) :=
 (bif decide (a1=([]:List UInt8)) then some false else (bif decide (a1=([46]:List UInt8)) then some false else (bif decide (a1=([46,46]:List UInt8)) then some false else (q9b n n a1 (a1.length:Int) (0:Int)).bind fun o4=>Sum.elim (fun (q5:(Bool×Unit)×Unit×Unit)=>some q5.1.1) (fun (q6:(Unit)×Unit×Unit)=>some true) o4)))
def qmx (n:Nat):FC:={ f:=154,args:=[.one (.c (.d .str))],res:=.one (.c (.d .bool)),F:=fun p=>j9c n p }
def qz5 (n:Nat):List FC:=[qh3 n]
theorem qx0 (n:Nat) {G:World->Prop} (hG:Know Inv G) : ∀c∈qz5 n,q17 Tryz.prog G c/\q0b c.args=true:=List.forall_mem_cons.2 ⟨jq6 n G hG,(fun _ h=>by cases h)⟩
def j01:q0a:=[]
theorem jed:drB j01 (q00 Tryz.f154)=true:=by kernel_rfl
theorem jjn (n:Nat) : ∀rec p,qyy n rec p=round Tryz.prog 25 (qz5 n) (qsx n) j01 1 qhs qal (q01 0 0 (q00 Tryz.f154)) rec p:=by intro rec p;kernel_rfl
theorem jg5 (n:Nat) {F:Fr} (hF:F.n=25) (hK:Know Inv F.G):q8a Tryz.prog F (jcd n) (q01 0 0 (q00 Tryz.f154)) :=
 q0h hF (by kernel_rfl) (qx0 n hK) (jjn n) (fuel:=n) (fun _=>rfl) (q02 fun j L h1 h2 h3=>absurd h2 (Nat.not_lt.2 (Nat.le_trans (by decide +kernel) h1))) (q0w jed)
theorem jqm (n:Nat) : ∀a,(qmx n).F a=main Tryz.prog 25 (qz5 n) (qsx n) j01 (q00 Tryz.f154) [.tmp 2] (qmx n).args (qmx n).res a:=by intro a;kernel_rfl
theorem jq5 (n:Nat):q0d Inv Tryz.prog (qmx n):=fun G hG=>⟨⟨by kernel_rfl,fun a r h=>q04 (c:=q00 Tryz.f154) Tryz.func154 (by kernel_rfl) (by kernel_rfl) (Nat.le_of_ble_eq_true (by kernel_rfl)) hG.st (by kernel_rfl) (rs:=[.tmp 2]) (by kernel_rfl) (qx0 n hG) (lts:=qsx n) (fun F hF hFG=>have hK:Know Inv F.G:=hFG ▸ hG;(q02 (c:=(q00 Tryz.f154)) (fun j L h1 h2 h3=>by
  have h2':j<1:=Nat.lt_of_lt_of_le h2 (by decide +kernel)
  match j,h1,h2',h3 with
  | 0,_,_,h3=>obtain rfl:=Option.some.inj h3;exact (show q01 0 0 (q00 Tryz.f154)=q01 0 0 (q00 Tryz.f154) by kernel_rfl) ▸ jg5 n hF hK
  | j+1,_,h2',_=>exact absurd h2' (by omega)))) jed ((jqm n a).symm.trans h)⟩,rfl⟩
end Go.Proofs.YtapfankgdkdkgaaGreatDoor.AM
namespace Go.Proofs.YtapfankgdkdkgaaGreatDoor.AM
open Go.RowKit
set_option linter.unusedVariables false
set_option linter.unusedSimpArgs false
theorem jgm (n:Nat) (c:UInt8):j03 n ((c.toNat:Nat):Int)=some (qfk c):=by
 have h : ∀k:Fin 256,j03 0 ((k.val:Nat):Int)=some (qfk (UInt8.ofNat k.val)):=by decide +kernel
 have h1:=h ⟨c.toNat,c.toNat_lt⟩
 have e:UInt8.ofNat c.toNat=c:=by simp
 rw [e] at h1
 exact h1
theorem qus (n:Nat) (s:List UInt8) (hL:s.length<=1000000) : ∀m j:Nat,j<=s.length->s.length - j<m->q9b n m s ((s.length:Nat):Int) (j:Int)=some (if (s.drop j).all qfk=true then Sum.inr ((),((),())) else Sum.inl ((false,()),((),())))
 | 0,j,_,h=>absurd h (Nat.not_lt_zero _)
 | m+1,j,hj,h=>by
  rw [qmh]
  unfold qy1
  by_cases c0:j<s.length
  ·have c0':((j:Nat):Int)<((s.length:Nat):Int):=by omega
   have ih:=qus n s hL m (j+1) (by omega) (by omega)
   have hd:s.drop j=s[j]::s.drop (j+1):=(List.drop_eq_getElem_cons c0)
   simp only [c0',decide_true,cond_true,q7j c0,Option.bind_some,jgm,q08,q07 (show j<4611686018427387904 by omega),ih,hd,List.all_cons]
   cases qfk s[j]<;>simp
  ·have c0' : ¬ ((j:Nat):Int)<((s.length:Nat):Int):=by omega
   have:s.drop j = []:=List.drop_eq_nil_of_le (by omega)
   simp [c0',this]
theorem jf5 (n:Nat) (s:List UInt8) (hL:s.length<=1000000) (hn:s.length<n):j9c n s=some (qk7 s):=by
 unfold j9c qk7
 have:=qus n s hL n 0 (Nat.zero_le _) (by omega)
 rw [show ((0:Nat):Int)=(0:Int) from rfl] at this
 rw [this,List.drop_zero]
 cases decide (s = [])<;>cases decide (s = [46])<;>cases decide (s = [46,46])<;>cases s.all qfk<;>rfl
end Go.Proofs.YtapfankgdkdkgaaGreatDoor.AM
namespace Go.Proofs.YtapfankgdkdkgaaGreatDoor.AM
open Go.RowKit
set_option linter.unusedVariables false
set_option linter.unusedSimpArgs false
theorem jav {a:Int} (h0:0<=a):Lib.itoa a=if a<10 then [UInt8.ofNat (48+a.toNat)] else Lib.itoa (a / 10) ++ [UInt8.ofNat (48+(a % 10).toNat)]:=by
 rw [q2h h0,Lib.decDigits]
 by_cases h:a<10
 ·rw [if_pos h,dif_pos (by omega)]
 ·rw [if_neg h,dif_neg (by omega),q2h (by omega)]
  rw [show (a / 10).toNat=a.toNat / 10 from by omega,show (a % 10).toNat=a.toNat % 10 from by omega]
theorem qcj {n:Int} (h:0<=n/\n<=999999999):(Lib.itoa n).length<=9:=by
 rw [q2h h.1];exact qkh 8 n.toNat (by omega)
theorem j25 (s:List UInt8):(q1m s).length<=s.length:=by
 unfold q1m;split
 ·rw [List.length_drop];omega
 ·exact Nat.le_refl _
end Go.Proofs.YtapfankgdkdkgaaGreatDoor.AM
namespace Go.Proofs.YtapfankgdkdkgaaGreatDoor.AM
open Go.RowKit
set_option linter.unusedVariables false
set_option linter.unusedSimpArgs false
theorem q2b {s t:List UInt8} (h:s.length+t.length<=9223372036854775807):qc4 s t=some (s++t):=if_pos h
theorem qek (n m:Nat) (a1 a2 a3 i i' a5 a6 a7 x:Int) (a8 a9:List UInt8) (hx:q1b ([a1,a2,a3]:List Int) i=some x) (hi:i<3) (hw:IntKind.wrap .i64 (i+1)=i') :
  q4o n (m+1) a1 a2 a3 i a5 a6 a7 a8 a9=if je1 x=true then q4o n m a1 a2 a3 i' a5 a6 a7 a8 a9 else some (Sum.inl ((false,()),((),()))):=by
 rw [q8v]
 unfold qha je1
 simp only [hi,decide_true,cond_true,hx,Option.bind_some,q08,hw]
 by_cases h1:x<0
 ·have : ¬ (0:Int)<=x:=by omega
  simp [h1,this]
 ·have h1':(0:Int)<=x:=by omega
  by_cases h2:999999999<x
  ·have : ¬ x<=999999999:=by omega
   simp [h1,h2,this]
  ·have:x<=999999999:=by omega
   simp [h1,h2,h1',this]
theorem q6c (n:Nat) (v:VD) (hn:4<=n):q7q n v=some (q10 v):=by
 obtain ⟨k,rfl⟩ : ∃ k,n=k+1+1+1+1:=⟨n - 4,by omega⟩
 obtain ⟨a,b,c,p,q⟩:=v
 unfold q7q
 rw [qek _ _ a b c 0 1 _ _ _ a _ _ rfl (by decide) rfl,qek _ _ a b c 1 2 _ _ _ b _ _ rfl (by decide) rfl,qek _ _ a b c 2 3 _ _ _ c _ _ rfl (by decide) rfl,q8v]
 unfold qha q10 qsl qj6
 dsimp only
 cases je1 a with
 | false=>rfl
 | true=>cases je1 b with
  | false=>rfl
  | true=>cases je1 c with
   | false=>rfl
   | true =>
    simp only [if_true,Bool.true_and,show ¬ (3:Int)<3 from by decide,decide_false,cond_false,Option.bind_some,Sum.elim_inr]
    cases q5w q41 p<;>cases q5w q29 q<;>rfl
theorem j0y (n:Nat) (s:List UInt8) (hs:s.length<=1000000):q71 n s [118]=some (q1m s):=by
 unfold q71 qaj q1k q1m
 cases s with
 | nil=>rfl
 | cons b r =>
  have h1:((List.length ([118]:List UInt8):Nat):Int)<=((List.length (b::r):Nat):Int):=by simp;omega
  have h2:q2i (b::r) (0:Int) ((List.length ([118]:List UInt8):Nat):Int)=some [b]:=sub_zero (b:=1) (by simp)
  have h3:q2i (b::r) ((List.length ([118]:List UInt8):Nat):Int) ((List.length (b::r):Nat):Int)=some r:=by
   have:=sub_le (l:=b::r) (a:=1) (b:=(b::r).length) (by simp) (Nat.le_refl _)
   rw [show ((List.length ([118]:List UInt8):Nat):Int)=((1:Nat):Int) from rfl,this]
   simp
  simp only [h1,decide_true,cond_true,h2,Option.bind_some,List.head?_cons,Option.some.injEq,List.drop_succ_cons,List.drop_zero]
  by_cases hb:b=118
  ·simp only [hb,decide_true,cond_true,if_true] at h3 ⊢
   rw [h3];rfl
  ·have : ¬ [b]=([118]:List UInt8):=fun h=>hb (by simpa using h)
   simp [this,hb]
theorem qqs {n:Int} (h:0<=n/\n<=999999999):qpy n=some (Lib.itoa n):=if_pos ⟨by omega,by omega⟩
end Go.Proofs.YtapfankgdkdkgaaGreatDoor.AM
namespace Go.Proofs.YtapfankgdkdkgaaGreatDoor.AM
open Go.RowKit
set_option linter.unusedVariables false
set_option linter.unusedSimpArgs false
theorem qy5 (s:List UInt8) (j:Nat) (h:j<s.length):(s.take (j+1)).reverse=s[j]::(s.take j).reverse:=by
 rw [List.take_succ_eq_append_getElem h];simp
theorem qwy (n:Nat) (c:UInt8) (s:List UInt8) (hL:s.length<=1000000) : ∀m j:Nat,j<=s.length->j<m->q9n n m s ((c.toNat:Nat):Int) ((j:Int) - 1)=some (if qqt c (s.take j).reverse = -1 then Sum.inr ((),((),())) else Sum.inl ((qqt c (s.take j).reverse,()),((),())))
 | 0,j,_,h=>absurd h (Nat.not_lt_zero _)
 | m+1,0,_,_=>by
  rw [qan]
  unfold qnt
  simp [qqt]
 | m+1,j+1,hj,h=>by
  rw [qan]
  unfold qnt
  have e1:((j+1:Nat):Int) - 1=((j:Nat):Int):=by omega
  have ih:=qwy n c s hL m j (by omega) (by omega)
  have w1:IntKind.wrap .i64 (((j:Nat):Int) - 1)=((j:Nat):Int) - 1:=wrap64 (by omega) (by omega)
  have c0:(0:Int)<=((j:Nat):Int):=by omega
  have d1:decide (((s[j].toNat:Nat):Int)=((c.toNat:Nat):Int))=decide (s[j]=c):=decide_eq_decide.2 ⟨fun h=>UInt8.toNat_inj.1 (by omega),fun h=>by rw [h]⟩
  rw [e1]
  simp only [c0,decide_true,cond_true,q7j (show j<s.length by omega),Option.bind_some,d1,q08,w1,ih,qy5 s j (by omega),qqt]
  by_cases h0:s[j]=c
  ·have : ¬ (((s.take j).reverse.length:Nat):Int) = -1:=by omega
   have l1:(s.take j).reverse.length=j:=by simp;omega
   simp only [h0,decide_true,cond_true,if_true,this,if_false,l1]
   rw [if_neg (by omega)]
  ·simp [h0]
theorem jf2 (n:Nat) (c:UInt8) (s:List UInt8) (hL:s.length<=1000000) (hn:s.length<n):qzz n s ((c.toNat:Nat):Int)=some (qdt c s):=by
 unfold qzz
 have:=qwy n c s hL n s.length (Nat.le_refl _) hn
 have w1:IntKind.wrap .i64 (((s.length:Nat):Int) - 1)=((s.length:Nat):Int) - 1:=wrap64 (by omega) (by omega)
 simp only [q08,w1,this,List.take_length]
 unfold qdt
 by_cases h:qqt c s.reverse = -1
 ·simp [h]
 ·simp [h]
theorem qwv (n:Nat) (s:List UInt8) (hL:s.length<=1000000) (hn:s.length<n):qzf n s (47:Int)=some (qdt 47 s):=by
 unfold qzf
 rw [show (47:Int)=(((47:UInt8).toNat:Nat):Int) from rfl,jf2 n 47 s hL hn];rfl
theorem j8q (n:Nat) (s:List UInt8) (hs:s.length<=1000000):q9j n s [118]=some (if s.head? = some 118 then (s.drop 1,true) else (s,false)):=by
 unfold q9j qbs q1k
 cases s with
 | nil=>rfl
 | cons b r =>
  have h1:((List.length ([118]:List UInt8):Nat):Int)<=((List.length (b::r):Nat):Int):=by simp;omega
  have h2:q2i (b::r) (0:Int) ((List.length ([118]:List UInt8):Nat):Int)=some [b]:=sub_zero (b:=1) (by simp)
  have h3:q2i (b::r) ((List.length ([118]:List UInt8):Nat):Int) ((List.length (b::r):Nat):Int)=some r:=by
   have:=sub_le (l:=b::r) (a:=1) (b:=(b::r).length) (by simp) (Nat.le_refl _)
   rw [show ((List.length ([118]:List UInt8):Nat):Int)=((1:Nat):Int) from rfl,this]
   simp
  simp only [h1,decide_true,cond_true,h2,Option.bind_some,List.head?_cons,Option.some.injEq,List.drop_succ_cons,List.drop_zero]
  by_cases hb:b=118
  ·simp only [hb,decide_true,cond_true,if_true,Bool.not_true,cond_false] at h3 ⊢
   rw [h3];rfl
  ·have : ¬ [b]=([118]:List UInt8):=fun h=>hb (by simpa using h)
   simp [this,hb]
theorem qta (n:Nat) (s:List UInt8) (hs:s.length<=1000000):qg0 n s=some (q4r s):=by
 unfold qg0 q4r q6v
 rw [j8q n s hs]
 by_cases h:s.head? = some 118
 ·have hl:(s.drop 1).length<=1000000:=by rw [List.length_drop];omega
  have ht:qru (s.drop 1) jg8=some (Lib.trimS (s.drop 1) jg8):=if_pos ⟨rfl,hl⟩
  simp only [h,if_true,Option.bind_some,cond_true,ht,jpz,decide_true,Bool.true_and]
  cases decide (s.drop 1 = [])<;>cases (s.drop 1).all q26<;>rfl
 ·simp [h]
end Go.Proofs.YtapfankgdkdkgaaGreatDoor.AM
namespace Go.Proofs
open Go.RowKit Go.Shelf Go.Lib
attribute [local go_sem] Oper.semAt_some
set_option linter.unusedVariables false
set_option linter.unusedSimpArgs false
namespace YtapfankgdkdkgaaGreatDoor.AM
theorem jrw (x:List UInt8) (w:World) (hI:Inv w) (hx:x.length<=1000000):Calls Tryz.prog 154 #[.string (ba x)] w fun e w'=>e = .returned (.bool (qk7 x))/\Below w.heap.size w w':=by
 have h:=(jq5 1000001 Inv q9p).1.2 x (qk7 x) (jf5 1000001 x (by omega) (by omega))
 refine (h (fun _ _=>False) w #[.string (ba x)] hI (fun b o h=>h.elim) ⟨q05 _,trivial⟩).mono ?_
 rintro e w' ⟨v,Pc,rfl,hb,_,_,hv⟩
 have hv':v = .bool (qk7 x):=q09 hv
 rw [hv']
 exact ⟨rfl,hb⟩
set_option maxHeartbeats 2000000 in
theorem j93 (s:List UInt8) (w:World) (hI:Inv w):Calls Tryz.prog 119 #[.string (ba s)] w fun e w'=>e = .returned (.bool (q4w s))/\Below w.heap.size w w':=by
 refine (callsIn_wide (n:=9)).1 ?_
 refine callsIn_of_wp_marks Tryz.func119 rfl trivial ?_ rfl
 simp only [Tryz.ntmps119,List.size_toArray,List.length_cons,List.length_nil,Nat.reduceAdd,Nat.reduceSub,Array.replicate_succ,Array.replicate_zero,List.push_toArray,List.append_toArray,List.nil_append,List.cons_append]
 have hsz:(ba s).size=s.length:=q2y s
 by_cases h2:s.length<=60
 ·skip
  gi_wp2_with (refine ⟨trivial,?_⟩;gi_at_call 136;refine (callsIn_wide.2 (q4n _ _ _)).mono ?_;rintro e w' ⟨rfl,rfl⟩)
  obtain ⟨W0,hW0,hs0,hb0,g0,g1,g2,g3⟩:=four w (Obj.cells #[Value.bool false] 4) (Obj.cells #[Value.string (ba s)] 9) (Obj.cells #[Value.string { data:=#[47] }] 9) (Obj.cells #[Value.int IntKind.i64 0] 3)
  rw [hW0]
  clear hW0
  obtain ⟨c1,f1⟩:=q0q g0
  obtain ⟨c2,f2⟩:=q0q g1
  obtain ⟨c3,f3⟩:=q0q g2
  obtain ⟨c4,f4⟩:=q0q g3
  refine range_split (n:=9) (by omega) 47 (w.heap.size+1) (w.heap.size+1+1) (w.heap.size+1+2) s (by omega) rfl ⟨c2,f2⟩
   (Rng (.string (ba [47])) (w.heap.size+1+1) w.heap.size (w.heap.size+1+1) (w.heap.size+1+2) 47 w qk7) (RngX w.heap.size w qk7) (j08 (by omega)) (qy2 (by omega))
   (fun pre W h=>⟨h.cP,h.cC,(hI.below h.below).maxLen⟩) (fun pre W v h=>qyi v h (by omega) (by omega) (by omega) (by omega) (by omega)) ⟨c3,c1,f1,c3,c4,hb0,rfl⟩
   (fun x=>{ tmps:=#[.string (ba s),undef,.pointer (some ⟨w.heap.size,0,none⟩),.string (ba x),.string (ba s),.int .i64 s.length,.bool (decide ((60:Int)<s.length)),.string (ba s),.func (.func 200) #[] #[.pointer (some ⟨w.heap.size+1+1,0,none⟩),.pointer (some ⟨w.heap.size+1,0,none⟩),.pointer (some ⟨w.heap.size+1+2,0,none⟩)],.string (ba x),undef,undef,undef],defers:=[] }) ?assign ?body ?done ?stop
  case assign =>
   intro l x W K hK
   gi_wp2
   exact hK
  case body =>
   intro l pre x r W hi hL hx
   have k1:=hi.res
   have k2:=hi.frz
   have hc:=jrw x W (hI.below hi.below) (by omega)
   cases hpx:qk7 x with
   | true =>
    rw [hpx] at hc
    gi_wp2_with (refine ⟨trivial,?_⟩;gi_at_call 154;refine (CallsIn.inRound l (callsIn_wide.2 hc)).mono ?_;rintro e w' ⟨rfl,hb'⟩)
    exact ⟨q2p hb',qg7 hi hb' (by simp [hpx]),qck hL hb'⟩
   | false =>
    rw [hpx] at hc
    gi_wp2_with (refine ⟨trivial,?_⟩;gi_at_call 154;refine (CallsIn.inRound l (callsIn_wide.2 hc)).mono ?_;rintro e w' ⟨rfl,hb'⟩;have k3:=q2w hb' hi.res;have k4:=(q3k hb' hi.res).trans hi.frz)
    exact ⟨(q2p hb').trans (KeepsOthers.setCell _ _ _),World.cell?_setCell_same' _ _ _ (by rw [k3];rfl),(hi.below.trans (hb'.mono hi.below.size)).setCell (by simp) _,by simp [hpx]⟩
  case done =>
   intro D W hD hi hK
   have k1:=hi.res
   have k2:=hi.frz
   gi_wp2
   have hK':=(KeepsOthers.setCell W ⟨w.heap.size,0,none⟩ (.bool true)).same D _ hK rfl
   have hW':Below w.heap.size w (W.setCell ⟨w.heap.size,0,none⟩ (.bool true)):=hi.below.setCell (by simp) _
   have k5:(W.setCell ⟨w.heap.size,0,none⟩ (.bool true)).cell? ⟨w.heap.size,0,none⟩=some (.bool true):=World.cell?_setCell_same' _ _ _ (by rw [k1];rfl)
   generalize W.setCell ⟨w.heap.size,0,none⟩ (.bool true)=W2 at hK' hW' k5
   refine ⟨by simp,.inl ⟨_,_,rfl,run_takeDeferred hK',?_⟩⟩
   have hg:=grownBy_putObj' W2 D (.deferred none)
   refine ⟨_,q2r (b:=w.heap.size) (v:=.bool true) rfl rfl hag (cell_kept k5 hg (fun r e=>by cases e;exact ⟨_,hK',rfl⟩)),?_,?_⟩
   ·have ha:=hi.all
    unfold q4w;simp [h2,ha]
   ·exact hW'.grown hg hW'.size (fun k e=>by cases e;omega)
  case stop =>
   intro D pre x t W hD hsp hi hK
   refine ⟨by simp,.inl ⟨_,_,rfl,run_takeDeferred hK,?_⟩⟩
   have hg:=grownBy_putObj' W D (.deferred none)
   refine ⟨_,q2r (b:=w.heap.size) (v:=.bool false) rfl rfl hag (cell_kept hi.res hg (fun r e=>by cases e;exact ⟨_,hK,rfl⟩)),?_,?_⟩
   ·have ha:=jbh hsp hi.no
    unfold q4w;simp [ha]
   ·exact hi.below.grown hg hi.below.size (fun k e=>by cases e;omega)
 ·gi_wp2
  refine ⟨_,q2r (b:=w.heap.size) (v:=.bool false) rfl rfl hag (by simp),?_,?_⟩
  ·unfold q4w;simp [h2]
  ·exact (Below.refl _ w).alloc (Nat.le_refl _) _
def qqu (s:List UInt8):Option Bool:=some (q4w s)
def qyd:FC:={ f:=119,args:=[qv7],res:=jqu,F:=fun p=>qqu p }
theorem jdp:q0d Inv Tryz.prog qyd:=fun G hG=>⟨⟨by kernel_rfl,fun (s:List UInt8) r h=>by
 have hr:q4w s=r:=Option.some.inj h
 intro Pc w vs hg hlt hv
 obtain ⟨l⟩:=vs
 match l,hv with
 | [x],⟨h1,_⟩ =>
  obtain rfl:x = .string (ba s):=q09 h1
  refine (j93 s w (hG.im w hg)).mono ?_
  rintro e w' ⟨rfl,hb⟩
  subst hr
  exact q4c rfl hb (q05 _)⟩,rfl⟩
end YtapfankgdkdkgaaGreatDoor.AM
end Go.Proofs
namespace Go.Proofs
open Go.RowKit Go.Shelf Go.Lib
attribute [local go_sem] Oper.semAt_some
set_option linter.unusedVariables false
set_option linter.unusedSimpArgs false
namespace YtapfankgdkdkgaaGreatDoor.AM
theorem jnn (x:List UInt8) (w:World) (hI:Inv w) (hx:x.length<=1000000):Calls Tryz.prog 134 #[.string (ba x)] w fun e w'=>e = .returned (.bool (q4r x))/\Below w.heap.size w w':=by
 have h:=(j5x 1000001 Inv q9p).1.2 x (q4r x) (qta 1000001 x (by omega))
 refine (h (fun _ _=>False) w #[.string (ba x)] hI (fun b o h=>h.elim) ⟨q05 _,trivial⟩).mono ?_
 rintro e w' ⟨v,Pc,rfl,hb,_,_,hv⟩
 have hv':v = .bool (q4r x):=q09 hv
 rw [hv']
 exact ⟨rfl,hb⟩
set_option maxHeartbeats 2000000 in
theorem jg1 (s:List UInt8) (w:World) (hI:Inv w) (h2:s.length<=1000000):Calls Tryz.prog 133 #[.string (ba s)] w fun e w'=>e = .returned (.bool (anyS s))/\Below w.heap.size w w':=by
 refine (callsIn_wide (n:=9)).1 ?_
 refine callsIn_of_wp_marks Tryz.func133 rfl trivial ?_ rfl
 simp only [Tryz.ntmps133,List.size_toArray,List.length_cons,List.length_nil,Nat.reduceAdd,Nat.reduceSub,Array.replicate_succ,Array.replicate_zero,List.push_toArray,List.append_toArray,List.nil_append,List.cons_append]
 have hsz:(ba s).size=s.length:=q2y s
 have key:anyS s = !((spl 47 [] s).all fun x=>!q4r x):=by unfold anyS;rw [List.any_eq_not_all_not]
 ·skip
  gi_wp2_with (refine ⟨trivial,?_⟩;gi_at_call 136;refine (callsIn_wide.2 (q4n _ _ _)).mono ?_;rintro e w' ⟨rfl,rfl⟩)
  obtain ⟨W0,hW0,hs0,hb0,g0,g1,g2,g3⟩:=four w (Obj.cells #[Value.bool false] 4) (Obj.cells #[Value.string (ba s)] 9) (Obj.cells #[Value.string { data:=#[47] }] 9) (Obj.cells #[Value.int IntKind.i64 0] 3)
  rw [hW0]
  clear hW0
  obtain ⟨c1,f1⟩:=q0q g0
  obtain ⟨c2,f2⟩:=q0q g1
  obtain ⟨c3,f3⟩:=q0q g2
  obtain ⟨c4,f4⟩:=q0q g3
  refine range_split (n:=9) (by omega) 47 (w.heap.size+1) (w.heap.size+1+1) (w.heap.size+1+2) s (by omega) rfl ⟨c2,f2⟩
   (Rng (.string (ba [47])) (w.heap.size+1+1) w.heap.size (w.heap.size+1+1) (w.heap.size+1+2) 47 w (fun x=>!q4r x)) (RngY w.heap.size w (fun x=>!q4r x)) (j08 (by omega)) (joi (by omega))
   (fun pre W h=>⟨h.cP,h.cC,(hI.below h.below).maxLen⟩) (fun pre W v h=>qyi v h (by omega) (by omega) (by omega) (by omega) (by omega)) ⟨c3,c1,f1,c3,c4,hb0,rfl⟩
   (fun x=>{ tmps:=#[.string (ba s),undef,.pointer (some ⟨w.heap.size,0,none⟩),.string (ba x),.string (ba s),.func (.func 200) #[] #[.pointer (some ⟨w.heap.size+1+1,0,none⟩),.pointer (some ⟨w.heap.size+1,0,none⟩),.pointer (some ⟨w.heap.size+1+2,0,none⟩)],.string (ba x),undef,undef],defers:=[] }) ?assign ?body ?done ?stop
  case assign =>
   intro l x W K hK
   gi_wp2
   exact hK
  case body =>
   intro l pre x r W hi hL hx
   have k1:=hi.res
   have k2:=hi.frz
   have hc:=jnn x W (hI.below hi.below) (by omega)
   cases hpx:q4r x with
   | false =>
    rw [hpx] at hc
    gi_wp2_with (refine ⟨trivial,?_⟩;gi_at_call 134;refine (CallsIn.inRound l (callsIn_wide.2 hc)).mono ?_;rintro e w' ⟨rfl,hb'⟩)
    exact ⟨q2p hb',qg7 hi hb' (by simp [hpx]),qck hL hb'⟩
   | true =>
    rw [hpx] at hc
    gi_wp2_with (refine ⟨trivial,?_⟩;gi_at_call 134;refine (CallsIn.inRound l (callsIn_wide.2 hc)).mono ?_;rintro e w' ⟨rfl,hb'⟩;have k3:=q2w hb' hi.res;have k4:=(q3k hb' hi.res).trans hi.frz)
    exact ⟨(q2p hb').trans (KeepsOthers.setCell _ _ _),World.cell?_setCell_same' _ _ _ (by rw [k3];rfl),(hi.below.trans (hb'.mono hi.below.size)).setCell (by simp) _,by simp [hpx]⟩
  case done =>
   intro D W hD hi hK
   have k1:=hi.res
   have k2:=hi.frz
   gi_wp2
   have hK':=(KeepsOthers.setCell W ⟨w.heap.size,0,none⟩ (.bool false)).same D _ hK rfl
   have hW':Below w.heap.size w (W.setCell ⟨w.heap.size,0,none⟩ (.bool false)):=hi.below.setCell (by simp) _
   have k5:(W.setCell ⟨w.heap.size,0,none⟩ (.bool false)).cell? ⟨w.heap.size,0,none⟩=some (.bool false):=World.cell?_setCell_same' _ _ _ (by rw [k1];rfl)
   generalize W.setCell ⟨w.heap.size,0,none⟩ (.bool false)=W2 at hK' hW' k5
   refine ⟨by simp,.inl ⟨_,_,rfl,run_takeDeferred hK',?_⟩⟩
   have hg:=grownBy_putObj' W2 D (.deferred none)
   refine ⟨_,q2r (b:=w.heap.size) (v:=.bool false) rfl rfl hag (cell_kept k5 hg (fun r e=>by cases e;exact ⟨_,hK',rfl⟩)),?_,?_⟩
   ·have ha:=hi.all
    rw [key,ha];rfl
   ·exact hW'.grown hg hW'.size (fun k e=>by cases e;omega)
  case stop =>
   intro D pre x t W hD hsp hi hK
   refine ⟨by simp,.inl ⟨_,_,rfl,run_takeDeferred hK,?_⟩⟩
   have hg:=grownBy_putObj' W D (.deferred none)
   refine ⟨_,q2r (b:=w.heap.size) (v:=.bool true) rfl rfl hag (cell_kept hi.res hg (fun r e=>by cases e;exact ⟨_,hK,rfl⟩)),?_,?_⟩
   ·have ha:=jbh hsp hi.no
    rw [key,ha];rfl
   ·exact hi.below.grown hg hi.below.size (fun k e=>by cases e;omega)
theorem jin (s:List UInt8) (b:Nat):(ba s).extract 0 b=ba (s.take b):=by
 rw [<-jns ((ba s).extract 0 b)]
 congr 1
 unfold unB ba
 rw [ByteArray.data_extract]
 simp
theorem jm5 (x:List UInt8) (w:World) (hI:Inv w) (hx:x.length<=1000000):Calls Tryz.prog 164 #[.string (ba x),.int .u8 47] w fun e w'=>e = .returned (.int .i64 (qdt 47 x))/\Below w.heap.size w w':=by
 have h:=(jbt 1000001 Inv q9p).1.2 (x,(47:Int)) (qdt 47 x) (qwv 1000001 x (by omega) (by omega))
 refine (h (fun _ _=>False) w #[.string (ba x),.int .u8 47] hI (fun b o h=>h.elim) ⟨q05 _,q05 _,trivial⟩).mono ?_
 rintro e w' ⟨v,Pc,rfl,hb,_,_,hv⟩
 have hv':v = .int .i64 (qdt 47 x):=q09 hv
 rw [hv']
 exact ⟨rfl,hb⟩
theorem j9o (s:List UInt8) (w:World) (hI:Inv w) (hs:s.length<=1000000):Calls Tryz.prog 131 #[.string (ba s)] w fun e w'=>e = .returned (.string (ba (qau s)))/\Below w.heap.size w w':=by
 have hl:=jbm 47 s
 have hsz:(ba s).size=s.length:=q2y s
 have hc:=jm5 s w hI hs
 go_enter Tryz.func131,Tryz.ntmps131
 by_cases h0:qdt 47 s = -1
 ·rw [h0] at hc
  go_wp2_with (go_at_call 164;refine hc.mono ?_)
  rintro e w' ⟨rfl,hb⟩
  go_wp2
  go_ret
  refine ⟨?_,hb⟩
  show Ending.returned (.string ((ba s).extract 0 (max 0 (-1:Int)).toNat))=_
  rw [jin];unfold qau;rw [h0];rfl
 ·obtain ⟨k,hk⟩ : ∃ k:Nat,qdt 47 s=(k:Int):=⟨(qdt 47 s).toNat,by omega⟩
  rw [hk] at hc
  go_wp2_with (go_at_call 164;refine hc.mono ?_)
  rintro e w' ⟨rfl,hb⟩
  go_wp2
  go_ret
  refine ⟨?_,hb⟩
  show Ending.returned (.string ((ba s).extract 0 (max 0 (k:Int)).toNat))=_
  rw [jin];unfold qau;rw [hk,Int.max_eq_right (by omega)]
theorem jqz (x:List UInt8) (w:World) (hI:Inv w) (hx:x.length<=1000000):Calls Tryz.prog 155 #[.string (ba x),.string (ba [118])] w fun e w'=>e = .returned (.string (ba (q1m x)))/\Below w.heap.size w w':=by
 have h:=(qi9 100 Inv q9p).1.2 (x,([118]:List UInt8)) (q1m x) (j0y 100 x (by omega))
 refine (h (fun _ _=>False) w #[.string (ba x),.string (ba [118])] hI (fun b o h=>h.elim) ⟨q05 _,q05 _,trivial⟩).mono ?_
 rintro e w' ⟨v,Pc,rfl,hb,_,_,hv⟩
 have hv':v = .string (ba (q1m x)):=q09 hv
 rw [hv']
 exact ⟨rfl,hb⟩
theorem jky (n:Int) (w:World) (hI:Inv w) (h0:2<=n) (h1:n<=999999999):Calls Tryz.prog 76 #[.int .i64 n] w fun e w'=>e = .returned (.string (ba (Lib.itoa n)))/\Below w.heap.size w w':=by
 refine (Any.strconv_Itoa Tryz.laysItoa n (by omega) (by omega) w hI.tab).mono ?_
 rintro e w' ⟨rfl,k,os,rfl⟩
 exact ⟨rfl,Lib.below_grow _ w (Nat.le_refl _) k os⟩
set_option maxHeartbeats 2000000 in
theorem jf1 (s:List UInt8) (w:World) (hI:Inv w) (hs:s.length<=1000000):Calls Tryz.prog 135 #[.string (ba s)] w fun e w'=>e = .returned (.tuple #[.int .i64 (numOf (q1m s)),.bool (jaq (q1m s))])/\Below w.heap.size w w':=by
 have hc:=jqz s w hI hs
 have hl:=j25 s
 go_enter Tryz.func135,Tryz.ntmps135
 go_wp2_with (go_at_call 155;refine hc.mono ?_)
 rintro e w1 ⟨rfl,hb1⟩
 clear hc
 have hI1:=hI.below hb1
 have e1:(ba (q1m s)).data.toList=q1m s:=by simp [ba]
 have hl':(ba (q1m s)).size<=281474976710656:=by rw [q2y];omega
 obtain ⟨ts,ps,hsy⟩:=hI1.syn
 obtain ⟨tr,pr,hrg⟩:=hI1.rng
 cases h:Lib.atoiAll (q1m s) with
 | ok v =>
  go_wp2_with (go_at_call 167;refine (Any.strconv_Atoi_ok Tryz.laysAtoi (ba (q1m s)) (by omega) v (by rw [e1];exact h) w1).mono ?_)
  rintro e w2 ⟨rfl,hw⟩
  have hb2:Below w1.heap.size w1 w2:=by
   rcases hw with rfl|⟨t,rfl⟩
   ·exact Below.refl _ _
   ·exact Lib.bytesWorld_below _ _ _
  clear hw
  have hb:Below w.heap.size w w2:=hb1.trans (hb2.mono hb1.size)
  by_cases h2:2<=v
  ·by_cases h3:v<=999999999
   ·have hi:=jky v w2 (hI.below hb) h2 h3
    go_wp2_with (go_at_call 76;refine hi.mono ?_)
    rintro e w3 ⟨rfl,hb3⟩
    go_wp2
    go_ret2
    refine ⟨?_,hb.trans (hb3.mono hb.size)⟩
    unfold numOf jaq;rw [h]
    simp [h2,h3,q90]
    rw [Bool.eq_iff_iff];simp
   ·go_wp2
    go_ret2
    refine ⟨?_,hb⟩
    unfold numOf jaq;rw [h]
    simp [h2,show ¬ v<=999999999 from by omega]
  ·go_wp2
   go_ret2
   refine ⟨?_,hb⟩
   unfold numOf jaq;rw [h]
   simp [show ¬ 2<=v from by omega]
 | «syntax» =>
  go_wp2_with (go_at_call 167;refine (Any.strconv_Atoi_syntax Tryz.laysAtoi (ba (q1m s)) hl' (by rw [e1];exact h) _ w1 hsy (Or.inr ⟨_,_,rfl⟩)).mono ?_)
  rintro e w2 ⟨N,rfl,hN,hc,hb2⟩
  go_wp2
  go_ret2
  refine ⟨?_,hb1.trans (hb2.mono hb1.size)⟩
  unfold numOf jaq;rw [h];rfl
 | range =>
  go_wp2_with (go_at_call 167;refine (Any.strconv_Atoi_range Tryz.laysAtoi (ba (q1m s)) hl' (by rw [e1];exact h) _ w1 hrg (Or.inr ⟨_,_,rfl⟩)).mono ?_)
  rintro e w2 ⟨N,rfl,hN,hc,hb2⟩
  rw [e1]
  go_wp2
  go_ret2
  refine ⟨?_,hb1.trans (hb2.mono hb1.size)⟩
  unfold numOf jaq;rw [h];rfl
def j1z (s:List UInt8):Option Bool:=if s.length<=1000000 then some (anyS s) else none
def jix:FC:={ f:=133,args:=[qv7],res:=jqu,F:=fun p=>j1z p }
theorem jvj:q0d Inv Tryz.prog jix:=fun G hG=>⟨⟨by kernel_rfl,fun (s:List UInt8) r h=>by
 have h':j1z s=some r:=h
 unfold j1z at h'
 split at h'
 case isFalse=>cases h'
 rename_i hc
 have hr:anyS s=r:=Option.some.inj h'
 intro Pc w vs hg hlt hv
 obtain ⟨l⟩:=vs
 match l,hv with
 | [x],⟨h1,_⟩ =>
  obtain rfl:x = .string (ba s):=q09 h1
  refine (jg1 s w (hG.im w hg) hc).mono ?_
  rintro e w' ⟨rfl,hb⟩
  subst hr
  exact q4c rfl hb (q05 _)⟩,rfl⟩
def qo5 (s:List UInt8):Option (List UInt8):=if s.length<=1000000 then some (qau s) else none
def jan:FC:={ f:=131,args:=[qv7],res:=qv7,F:=fun p=>qo5 p }
theorem jp7:q0d Inv Tryz.prog jan:=fun G hG=>⟨⟨by kernel_rfl,fun (s:List UInt8) r h=>by
 have h':qo5 s=some r:=h
 unfold qo5 at h'
 split at h'
 case isFalse=>cases h'
 rename_i hc
 have hr:qau s=r:=Option.some.inj h'
 intro Pc w vs hg hlt hv
 obtain ⟨l⟩:=vs
 match l,hv with
 | [x],⟨h1,_⟩ =>
  obtain rfl:x = .string (ba s):=q09 h1
  refine (j9o s w (hG.im w hg) hc).mono ?_
  rintro e w' ⟨rfl,hb⟩
  subst hr
  exact q4c rfl hb (q05 (.string (ba (qau s))))⟩,rfl⟩
def qvm (s:List UInt8):Option (Int×Bool):=if s.length<=1000000 then some (numOf (q1m s),jaq (q1m s)) else none
def jlf:FC:={ f:=135,args:=[qv7],res:=.tup [.c (.d (.int .i64)),.c (.d .bool)],F:=fun p=>qvm p }
theorem jvx:q0d Inv Tryz.prog jlf:=fun G hG=>⟨⟨by kernel_rfl,fun (s:List UInt8) (r:Int×Bool) h=>by
 have h':qvm s=some r:=h
 unfold qvm at h'
 split at h'
 case isFalse=>cases h'
 rename_i hc
 have hr:(numOf (q1m s),jaq (q1m s))=r:=Option.some.inj h'
 intro Pc w vs hg hlt hv
 obtain ⟨l⟩:=vs
 match l,hv with
 | [x],⟨h1,_⟩ =>
  obtain rfl:x = .string (ba s):=q09 h1
  refine (jf1 s w (hG.im w hg) hc).mono ?_
  rintro e w' ⟨rfl,hb⟩
  subst hr
  refine ⟨_,Pc,rfl,hb,fun _ _ h=>h,fun _ _ h=>Or.inl h,?_⟩
  exact ⟨#[.int .i64 (numOf (q1m s)),.bool (jaq (q1m s))],rfl,q05 (σ:=qt7) (.int .i64 (numOf (q1m s))),q05 (σ:=qt7) (.bool (jaq (q1m s))),trivial⟩⟩,rfl⟩
end YtapfankgdkdkgaaGreatDoor.AM
end Go.Proofs
