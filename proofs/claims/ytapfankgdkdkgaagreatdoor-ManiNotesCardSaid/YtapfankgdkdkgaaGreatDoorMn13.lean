
import Derived.Test.YtapfankgdkdkgaaGreatDoorMn12
import Derived.Test.YtapfankgdkdkgaaGreatDoorMn9
import Derived.Test.YtapfankgdkdkgaaGreatDoorMn10
namespace Go.Proofs.YtapfankgdkdkgaaGreatDoor.AM
open Go.RowKit
set_option linter.unusedVariables false
set_option maxRecDepth 20000
@[reducible] def qe7:SSt:=⟨[(0,.one (.c (.d .str))),(1,.one (.c (.d (.int .u8)))),(5,.one (.c (.d (.int .i64))))],[],[]⟩
@[reducible] def q7s:List (Exit×SSt):=[(.ret,⟨[(4,.one (.c (.d (.int .i64))))],[],[]⟩),(.exit 0,⟨[],[],[]⟩)]
def qk0 (n:Nat) (rec:(List UInt8)->Int->Int->Option (((Int×(Unit))×(Unit)×(Unit))⊕((Unit)×(Unit)×(Unit)))) (a1:List UInt8) (a2:Int) (a3:Int):Option (((Int×(Unit))×(Unit)×(Unit))⊕((Unit)×(Unit)×(Unit))) :=
 (bif decide ((0:Int)<=a3) then (sAt a1 a3).bind fun (c2:Int)=>(bif decide (c2=a2) then some (Sum.inl ((a3,()),((),()))) else q0b (IntKind.wrap .i64 (a3 - (1:Int))) fun (n3:Int)=>rec a1 a2 n3) else some (Sum.inr (((),((),())))))
def qvi (n:Nat) (rec:pSt qe7->Option (q0h q7s)) (p:pSt qe7):Option (q0h q7s):=qk0 n (fun a1 a2 a3=>rec ((a1,(a2,(a3,()))),((),()))) p.1.1 p.1.2.1 p.1.2.2.1
def q7m (n m:Nat) (a1:List UInt8) (a2:Int) (a3:Int):Option (((Int×(Unit))×(Unit)×(Unit))⊕((Unit)×(Unit)×(Unit))):=q0i (qvi n) m ((a1,(a2,(a3,()))),((),()))
theorem q8p (n m:Nat) (a1:List UInt8) (a2:Int) (a3:Int):q7m n (m+1) a1 a2 a3=qk0 n (fun a1 a2 a3=>q7m n m a1 a2 a3) a1 a2 a3:=rfl
def j61 (n:Nat):LC:={ sh:=qe7,outs:=q7s,F:=q0i (qvi n) n }
def qkg (n:Nat):List LC:=[j61 n]
def qv4 (n:Nat) (a1:List UInt8) (a2:Int):Option (Int) :=
 q0b (IntKind.wrap .i64 (((List.length a1:Nat):Int) - (1:Int))) fun (n1:Int)=>(q7m n n a1 a2 n1).bind fun (o4:((Int×(Unit))×(Unit)×(Unit))⊕((Unit)×(Unit)×(Unit)))=>Sum.elim (fun (q5:(Int×(Unit))×(Unit)×(Unit))=>some q5.1.1) (fun (q6:(Unit)×(Unit)×(Unit))=>some (-1:Int)) o4
def qd2 (n:Nat):FC:={ f:=80,args:=[.one (.c (.d .str)),.one (.c (.d (.int .u8)))],res:=.one (.c (.d (.int .i64))),F:=fun p=>qv4 n p.1 p.2 }
def qub (n:Nat):List FC:=[]
theorem qqi (n:Nat) {G:World->Prop} (hG:Know Inv G) : ∀c∈qub n,q0y Tryz.prog G c/\q09 c.args=true:=(fun _ h=>by cases h)
def qt5:q08:=[]
theorem j50:drB qt5 (q00 Tryz.f80)=true:=by kernel_rfl
theorem jcy (n:Nat) : ∀rec p,qvi n rec p=round Tryz.prog 19 (qub n) (qkg n) qt5 1 qe7 q7s (q01 0 0 (q00 Tryz.f80)) rec p:=by intro rec p;kernel_rfl
theorem j90 (n:Nat) {F:Fr} (hF:F.n=19) (hK:Know Inv F.G):q8n Tryz.prog F (j61 n) (q01 0 0 (q00 Tryz.f80)) :=
 q0j hF (by kernel_rfl) (qqi n hK) (jcy n) (fuel:=n) (fun _=>rfl) (q02 fun j L h1 h2 h3=>absurd h2 (Nat.not_lt.2 (Nat.le_trans (by decide +kernel) h1))) (q0w j50)
theorem jip (n:Nat) : ∀a,(qd2 n).F a=main Tryz.prog 19 (qub n) (qkg n) qt5 (q00 Tryz.f80) [.tmp 4] (qd2 n).args (qd2 n).res a:=by intro a;kernel_rfl
theorem jkk (n:Nat):q0d Inv Tryz.prog (qd2 n):=fun G hG=>⟨⟨by kernel_rfl,fun a r h=>q04 (c:=q00 Tryz.f80) Tryz.func80 (by kernel_rfl) (by kernel_rfl) (Nat.le_of_ble_eq_true (by kernel_rfl)) hG.st (by kernel_rfl) (rs:=[.tmp 4]) (by kernel_rfl) (qqi n hG) (lts:=qkg n) (fun F hF hFG=>have hK:Know Inv F.G:=hFG ▸ hG;(q02 (c:=(q00 Tryz.f80)) (fun j L h1 h2 h3=>by
  have h2':j<1:=Nat.lt_of_lt_of_le h2 (by decide +kernel)
  match j,h1,h2',h3 with
  | 0,_,_,h3=>obtain rfl:=Option.some.inj h3;exact (show q01 0 0 (q00 Tryz.f80)=q01 0 0 (q00 Tryz.f80) by kernel_rfl) ▸ j90 n hF hK
  | j+1,_,h2',_=>exact absurd h2' (by omega)))) j50 ((jip n a).symm.trans h)⟩,rfl⟩
def qwk (n:Nat):List LC:=[]
def qtf (n:Nat) (a1:List UInt8) (a2:Int):Option (Int) :=
 (qv4 n a1 a2).bind fun (r1:Int)=>some r1
def qdl (n:Nat):FC:={ f:=164,args:=[.one (.c (.d .str)),.one (.c (.d (.int .u8)))],res:=.one (.c (.d (.int .i64))),F:=fun p=>qtf n p.1 p.2 }
def j85 (n:Nat):List FC:=[qd2 n]
theorem j8d (n:Nat) {G:World->Prop} (hG:Know Inv G) : ∀c∈j85 n,q0y Tryz.prog G c/\q09 c.args=true:=List.forall_mem_cons.2 ⟨jkk n G hG,(fun _ h=>by cases h)⟩
def j5i:q08:=[]
theorem jk9:drB j5i (q00 Tryz.f164)=true:=by kernel_rfl
theorem jis (n:Nat) : ∀a,(qdl n).F a=main Tryz.prog 8 (j85 n) (qwk n) j5i (q00 Tryz.f164) [.tmp 4] (qdl n).args (qdl n).res a:=by intro a;kernel_rfl
theorem j4s (n:Nat):q0d Inv Tryz.prog (qdl n):=fun G hG=>⟨⟨by kernel_rfl,fun a r h=>q04 (c:=q00 Tryz.f164) Tryz.func164 (by kernel_rfl) (by kernel_rfl) (Nat.le_of_ble_eq_true (by kernel_rfl)) hG.st (by kernel_rfl) (rs:=[.tmp 4]) (by kernel_rfl) (j8d n hG) (lts:=qwk n) (fun F hF hFG=>have hK:Know Inv F.G:=hFG ▸ hG;(q02 fun j L h1 h2 h3=>absurd h2 (Nat.not_lt.2 (Nat.le_trans (by decide +kernel) h1)))) jk9 ((jis n a).symm.trans h)⟩,rfl⟩
def qc3 (n:Nat):List LC:=[]
def q9b (n:Nat) (a1:List UInt8) (a2:List UInt8):Option ((List UInt8)×(Bool)) :=
 (q18 n a1 a2).bind fun (r1:Bool)=>(bif !r1 then some (a1,false) else (q1s a1 ((List.length a2:Nat):Int) ((List.length a1:Nat):Int)).bind fun (s2:List UInt8)=>some (s2,true))
def q3a (n:Nat):FC:={ f:=190,args:=[.one (.c (.d .str)),.one (.c (.d .str))],res:=.tup [.c (.d .str),.c (.d .bool)],F:=fun p=>q9b n p.1 p.2 }
def qea (n:Nat):List FC:=[q0m n]
theorem qp0 (n:Nat) {G:World->Prop} (hG:Know Inv G) : ∀c∈qea n,q0y Tryz.prog G c/\q09 c.args=true:=List.forall_mem_cons.2 ⟨q3e n G hG,(fun _ h=>by cases h)⟩
def qdu:q08:=[]
theorem qtg:drB qdu (q00 Tryz.f190)=true:=by kernel_rfl
theorem qt1 (n:Nat) : ∀a,(q3a n).F a=main Tryz.prog 15 (qea n) (qc3 n) qdu (q00 Tryz.f190) [.tmp 4,.tmp 5] (q3a n).args (q3a n).res a:=by intro a;kernel_rfl
theorem qta (n:Nat):q0d Inv Tryz.prog (q3a n):=fun G hG=>⟨⟨by kernel_rfl,fun a r h=>q04 (c:=q00 Tryz.f190) Tryz.func190 (by kernel_rfl) (by kernel_rfl) (Nat.le_of_ble_eq_true (by kernel_rfl)) hG.st (by kernel_rfl) (rs:=[.tmp 4,.tmp 5]) (by kernel_rfl) (qp0 n hG) (lts:=qc3 n) (fun F hF hFG=>have hK:Know Inv F.G:=hFG ▸ hG;(q02 fun j L h1 h2 h3=>absurd h2 (Nat.not_lt.2 (Nat.le_trans (by decide +kernel) h1)))) qtg ((qt1 n a).symm.trans h)⟩,rfl⟩
def qef (n:Nat):List LC:=[]
def q7n (n:Nat) (a1:List UInt8) (a2:List UInt8):Option ((List UInt8)×(Bool)) :=
 (q9b n a1 a2).bind fun (r1:(List UInt8)×(Bool))=>some r1
def q44 (n:Nat):FC:={ f:=165,args:=[.one (.c (.d .str)),.one (.c (.d .str))],res:=.tup [.c (.d .str),.c (.d .bool)],F:=fun p=>q7n n p.1 p.2 }
def qia (n:Nat):List FC:=[q3a n]
theorem qq5 (n:Nat) {G:World->Prop} (hG:Know Inv G) : ∀c∈qia n,q0y Tryz.prog G c/\q09 c.args=true:=List.forall_mem_cons.2 ⟨qta n G hG,(fun _ h=>by cases h)⟩
def qi1:q08:=[]
theorem qws:drB qi1 (q00 Tryz.f165)=true:=by kernel_rfl
theorem qy6 (n:Nat) : ∀a,(q44 n).F a=main Tryz.prog 11 (qia n) (qef n) qi1 (q00 Tryz.f165) [.tmp 4,.tmp 5] (q44 n).args (q44 n).res a:=by intro a;kernel_rfl
theorem qw1 (n:Nat):q0d Inv Tryz.prog (q44 n):=fun G hG=>⟨⟨by kernel_rfl,fun a r h=>q04 (c:=q00 Tryz.f165) Tryz.func165 (by kernel_rfl) (by kernel_rfl) (Nat.le_of_ble_eq_true (by kernel_rfl)) hG.st (by kernel_rfl) (rs:=[.tmp 4,.tmp 5]) (by kernel_rfl) (qq5 n hG) (lts:=qef n) (fun F hF hFG=>have hK:Know Inv F.G:=hFG ▸ hG;(q02 fun j L h1 h2 h3=>absurd h2 (Nat.not_lt.2 (Nat.le_trans (by decide +kernel) h1)))) qws ((qy6 n a).symm.trans h)⟩,rfl⟩
def q3c (n:Nat):List LC:=[]
def q0q (n:Nat) (a1:List UInt8) (a2:List UInt8):Option (Bool) :=
 (q18 n a1 a2).bind fun (r1:Bool)=>some r1
def q1d (n:Nat):FC:={ f:=152,args:=[.one (.c (.d .str)),.one (.c (.d .str))],res:=.one (.c (.d .bool)),F:=fun p=>q0q n p.1 p.2 }
def q3x (n:Nat):List FC:=[q0m n]
theorem q6h (n:Nat) {G:World->Prop} (hG:Know Inv G) : ∀c∈q3x n,q0y Tryz.prog G c/\q09 c.args=true:=List.forall_mem_cons.2 ⟨q3e n G hG,(fun _ h=>by cases h)⟩
def q3z:q08:=[]
theorem q8v:drB q3z (q00 Tryz.f152)=true:=by kernel_rfl
theorem qa1 (n:Nat) : ∀a,(q1d n).F a=main Tryz.prog 8 (q3x n) (q3c n) q3z (q00 Tryz.f152) [.tmp 4] (q1d n).args (q1d n).res a:=by intro a;kernel_rfl
theorem qhs (n:Nat):q0d Inv Tryz.prog (q1d n):=fun G hG=>⟨⟨by kernel_rfl,fun a r h=>q04 (c:=q00 Tryz.f152) Tryz.func152 (by kernel_rfl) (by kernel_rfl) (Nat.le_of_ble_eq_true (by kernel_rfl)) hG.st (by kernel_rfl) (rs:=[.tmp 4]) (by kernel_rfl) (q6h n hG) (lts:=q3c n) (fun F hF hFG=>have hK:Know Inv F.G:=hFG ▸ hG;(q02 fun j L h1 h2 h3=>absurd h2 (Nat.not_lt.2 (Nat.le_trans (by decide +kernel) h1)))) q8v ((qa1 n a).symm.trans h)⟩,rfl⟩
def qrv (n:Nat):List LC:=[]
def qe4 (n:Nat) (a1:List UInt8):Option (Bool) :=
 (q7n n a1 ([118]:List UInt8)).bind fun (r1:(List UInt8)×(Bool))=>(bif r1.2 then (bif !decide (r1.1=([]:List UInt8)) then (qlt r1.1 ([48,49,50,51,52,53,54,55,56,57]:List UInt8)).bind fun (r2:List UInt8)=>some (decide (r2=([]:List UInt8))) else some false) else some false)
def q96 (n:Nat):FC:={ f:=134,args:=[.one (.c (.d .str))],res:=.one (.c (.d .bool)),F:=fun p=>qe4 n p }
def j05 (n:Nat):List FC:=[q44 n,j54]
theorem j1i (n:Nat) {G:World->Prop} (hG:Know Inv G) : ∀c∈j05 n,q0y Tryz.prog G c/\q09 c.args=true:=List.forall_mem_cons.2 ⟨qw1 n G hG,List.forall_mem_cons.2 ⟨jl5 G hG,(fun _ h=>by cases h)⟩⟩
def qxh:q08:=[]
theorem jf7:drB qxh (q00 Tryz.f134)=true:=by kernel_rfl
theorem jdj (n:Nat) : ∀a,(q96 n).F a=main Tryz.prog 20 (j05 n) (qrv n) qxh (q00 Tryz.f134) [.tmp 2] (q96 n).args (q96 n).res a:=by intro a;kernel_rfl
theorem qw3 (n:Nat):q0d Inv Tryz.prog (q96 n):=fun G hG=>⟨⟨by kernel_rfl,fun a r h=>q04 (c:=q00 Tryz.f134) Tryz.func134 (by kernel_rfl) (by kernel_rfl) (Nat.le_of_ble_eq_true (by kernel_rfl)) hG.st (by kernel_rfl) (rs:=[.tmp 2]) (by kernel_rfl) (j1i n hG) (lts:=qrv n) (fun F hF hFG=>have hK:Know Inv F.G:=hFG ▸ hG;(q02 fun j L h1 h2 h3=>absurd h2 (Nat.not_lt.2 (Nat.le_trans (by decide +kernel) h1)))) jf7 ((jdj n a).symm.trans h)⟩,rfl⟩
end Go.Proofs.YtapfankgdkdkgaaGreatDoor.AM
namespace Go.Proofs.YtapfankgdkdkgaaGreatDoor.AM
open Go.RowKit
set_option linter.unusedVariables false
set_option maxRecDepth 20000
def qwl (n:Nat):List LC:=[]
def qv5 (n:Nat) (a1:Int):Option (Bool) :=
 (bif decide ((97:Int)<=a1) then (bif decide (a1<=(122:Int)) then (bif decide (a1<=(122:Int)) then some true else (bif decide (a1=(45:Int)) then some true else (bif decide (a1=(95:Int)) then some true else some (decide (a1=(46:Int)))))) else (bif decide ((65:Int)<=a1) then (bif decide (a1<=(90:Int)) then (bif decide (a1<=(90:Int)) then some true else (bif decide (a1=(45:Int)) then some true else (bif decide (a1=(95:Int)) then some true else some (decide (a1=(46:Int)))))) else (bif decide ((48:Int)<=a1) then (bif decide (a1<=(57:Int)) then some true else (bif decide (a1=(45:Int)) then some true else (bif decide (a1=(95:Int)) then some true else some (decide (a1=(46:Int)))))) else (bif decide (a1=(45:Int)) then some true else (bif decide (a1=(95:Int)) then some true else some (decide (a1=(46:Int))))))) else (bif decide ((48:Int)<=a1) then (bif decide (a1<=(57:Int)) then some true else (bif decide (a1=(45:Int)) then some true else (bif decide (a1=(95:Int)) then some true else some (decide (a1=(46:Int)))))) else (bif decide (a1=(45:Int)) then some true else (bif decide (a1=(95:Int)) then some true else some (decide (a1=(46:Int)))))))) else (bif decide ((65:Int)<=a1) then (bif decide (a1<=(90:Int)) then (bif decide (a1<=(90:Int)) then some true else (bif decide (a1=(45:Int)) then some true else (bif decide (a1=(95:Int)) then some true else some (decide (a1=(46:Int)))))) else (bif decide ((48:Int)<=a1) then (bif decide (a1<=(57:Int)) then some true else (bif decide (a1=(45:Int)) then some true else (bif decide (a1=(95:Int)) then some true else some (decide (a1=(46:Int)))))) else (bif decide (a1=(45:Int)) then some true else (bif decide (a1=(95:Int)) then some true else some (decide (a1=(46:Int))))))) else (bif decide ((48:Int)<=a1) then (bif decide (a1<=(57:Int)) then some true else (bif decide (a1=(45:Int)) then some true else (bif decide (a1=(95:Int)) then some true else some (decide (a1=(46:Int)))))) else (bif decide (a1=(45:Int)) then some true else (bif decide (a1=(95:Int)) then some true else some (decide (a1=(46:Int))))))))
def qeh (n:Nat):FC:={ f:=182,args:=[.one (.c (.d (.int .u8)))],res:=.one (.c (.d .bool)),F:=fun p=>qv5 n p }
def j82 (n:Nat):List FC:=[]
theorem jas (n:Nat) {G:World->Prop} (hG:Know Inv G) : ∀c∈j82 n,q0y Tryz.prog G c/\q09 c.args=true:=(fun _ h=>by cases h)
def j6z:q08:=[]
theorem jkf:drB j6z (q00 Tryz.f182)=true:=by kernel_rfl
theorem jje (n:Nat) : ∀a,(qeh n).F a=main Tryz.prog 32 (j82 n) (qwl n) j6z (q00 Tryz.f182) [.tmp 2] (qeh n).args (qeh n).res a:=by intro a;kernel_rfl
theorem jj9 (n:Nat):q0d Inv Tryz.prog (qeh n):=fun G hG=>⟨⟨by kernel_rfl,fun a r h=>q04 (c:=q00 Tryz.f182) Tryz.func182 (by kernel_rfl) (by kernel_rfl) (Nat.le_of_ble_eq_true (by kernel_rfl)) hG.st (by kernel_rfl) (rs:=[.tmp 2]) (by kernel_rfl) (jas n hG) (lts:=qwl n) (fun F hF hFG=>have hK:Know Inv F.G:=hFG ▸ hG;(q02 fun j L h1 h2 h3=>absurd h2 (Nat.not_lt.2 (Nat.le_trans (by decide +kernel) h1)))) jkf ((jje n a).symm.trans h)⟩,rfl⟩
@[reducible] def qdi:SSt:=⟨[(0,.one (.c (.d .str))),(15,.one (.c (.d (.int .i64)))),(16,.one (.c (.d (.int .i64))))],[],[]⟩
@[reducible] def q88:List (Exit×SSt):=[(.ret,⟨[(2,.one (.c (.d .bool)))],[],[]⟩),(.exit 0,⟨[],[],[]⟩)]
def qu3 (n:Nat) (rec:(List UInt8)->Int->Int->Option (((Bool×(Unit))×(Unit)×(Unit))⊕((Unit)×(Unit)×(Unit)))) (a1:List UInt8) (a2:Int) (a3:Int):Option (((Bool×(Unit))×(Unit)×(Unit))⊕((Unit)×(Unit)×(Unit))) :=
 (bif decide (a3<a2) then (sAt a1 a3).bind fun (c1:Int)=>(qv5 n c1).bind fun (r2:Bool)=>(bif !r2 then some (Sum.inl ((false,()),((),()))) else q0b (IntKind.wrap .i64 (a3+(1:Int))) fun (n3:Int)=>rec a1 a2 n3) else some (Sum.inr (((),((),())))))
def qv6 (n:Nat) (rec:pSt qdi->Option (q0h q88)) (p:pSt qdi):Option (q0h q88):=qu3 n (fun a1 a2 a3=>rec ((a1,(a2,(a3,()))),((),()))) p.1.1 p.1.2.1 p.1.2.2.1
def q87 (n m:Nat) (a1:List UInt8) (a2:Int) (a3:Int):Option (((Bool×(Unit))×(Unit)×(Unit))⊕((Unit)×(Unit)×(Unit))):=q0i (qv6 n) m ((a1,(a2,(a3,()))),((),()))
theorem qiw (n m:Nat) (a1:List UInt8) (a2:Int) (a3:Int):q87 n (m+1) a1 a2 a3=qu3 n (fun a1 a2 a3=>q87 n m a1 a2 a3) a1 a2 a3:=rfl
def j4y (n:Nat):LC:={ sh:=qdi,outs:=q88,F:=q0i (qv6 n) n }
def qk7 (n:Nat):List LC:=[j4y n]
def j42 (n:Nat) (a1:List UInt8):Option (Bool) :=
 (bif decide (a1=([]:List UInt8)) then some false else (bif decide (a1=([46]:List UInt8)) then some false else (bif decide (a1=([46,46]:List UInt8)) then some false else (q87 n n a1 ((List.length a1:Nat):Int) (0:Int)).bind fun (o4:((Bool×(Unit))×(Unit)×(Unit))⊕((Unit)×(Unit)×(Unit)))=>Sum.elim (fun (q5:(Bool×(Unit))×(Unit)×(Unit))=>some q5.1.1) (fun (q6:(Unit)×(Unit)×(Unit))=>some true) o4)))
def qji (n:Nat):FC:={ f:=154,args:=[.one (.c (.d .str))],res:=.one (.c (.d .bool)),F:=fun p=>j42 n p }
def qt8 (n:Nat):List FC:=[qeh n]
theorem qqy (n:Nat) {G:World->Prop} (hG:Know Inv G) : ∀c∈qt8 n,q0y Tryz.prog G c/\q09 c.args=true:=List.forall_mem_cons.2 ⟨jj9 n G hG,(fun _ h=>by cases h)⟩
def qte:q08:=[]
theorem j6v:drB qte (q00 Tryz.f154)=true:=by kernel_rfl
theorem je6 (n:Nat) : ∀rec p,qv6 n rec p=round Tryz.prog 25 (qt8 n) (qk7 n) qte 1 qdi q88 (q01 0 0 (q00 Tryz.f154)) rec p:=by intro rec p;kernel_rfl
theorem jap (n:Nat) {F:Fr} (hF:F.n=25) (hK:Know Inv F.G):q8n Tryz.prog F (j4y n) (q01 0 0 (q00 Tryz.f154)) :=
 q0j hF (by kernel_rfl) (qqy n hK) (je6 n) (fuel:=n) (fun _=>rfl) (q02 fun j L h1 h2 h3=>absurd h2 (Nat.not_lt.2 (Nat.le_trans (by decide +kernel) h1))) (q0w j6v)
theorem jj7 (n:Nat) : ∀a,(qji n).F a=main Tryz.prog 25 (qt8 n) (qk7 n) qte (q00 Tryz.f154) [.tmp 2] (qji n).args (qji n).res a:=by intro a;kernel_rfl
theorem jif (n:Nat):q0d Inv Tryz.prog (qji n):=fun G hG=>⟨⟨by kernel_rfl,fun a r h=>q04 (c:=q00 Tryz.f154) Tryz.func154 (by kernel_rfl) (by kernel_rfl) (Nat.le_of_ble_eq_true (by kernel_rfl)) hG.st (by kernel_rfl) (rs:=[.tmp 2]) (by kernel_rfl) (qqy n hG) (lts:=qk7 n) (fun F hF hFG=>have hK:Know Inv F.G:=hFG ▸ hG;(q02 (c:=(q00 Tryz.f154)) (fun j L h1 h2 h3=>by
  have h2':j<1:=Nat.lt_of_lt_of_le h2 (by decide +kernel)
  match j,h1,h2',h3 with
  | 0,_,_,h3=>obtain rfl:=Option.some.inj h3;exact (show q01 0 0 (q00 Tryz.f154)=q01 0 0 (q00 Tryz.f154) by kernel_rfl) ▸ jap n hF hK
  | j+1,_,h2',_=>exact absurd h2' (by omega)))) j6v ((jj7 n a).symm.trans h)⟩,rfl⟩
end Go.Proofs.YtapfankgdkdkgaaGreatDoor.AM
namespace Go.Proofs.YtapfankgdkdkgaaGreatDoor.AM
open Go.RowKit
set_option linter.unusedVariables false
set_option linter.unusedSimpArgs false
theorem ja4 (n:Nat) (c:UInt8):qv5 n ((c.toNat:Nat):Int)=some (qo0 c):=by
 have h : ∀k:Fin 256,qv5 0 ((k.val:Nat):Int)=some (qo0 (UInt8.ofNat k.val)):=by decide +kernel
 have h1:=h ⟨c.toNat,c.toNat_lt⟩
 have e:UInt8.ofNat c.toNat=c:=by simp
 rw [e] at h1
 exact h1
theorem qqj (n:Nat) (s:List UInt8) (hL:s.length<=1000000) : ∀m j:Nat,j<=s.length->s.length - j<m->q87 n m s ((s.length:Nat):Int) (j:Int)=some (if (s.drop j).all qo0=true then Sum.inr ((),((),())) else Sum.inl ((false,()),((),())))
 | 0,j,_,h=>absurd h (Nat.not_lt_zero _)
 | m+1,j,hj,h=>by
  rw [qiw]
  unfold qu3
  by_cases c0:j<s.length
  ·have c0':((j:Nat):Int)<((s.length:Nat):Int):=by omega
   have ih:=qqj n s hL m (j+1) (by omega) (by omega)
   have hd:s.drop j=s[j]::s.drop (j+1):=(List.drop_eq_getElem_cons c0)
   simp only [c0',decide_true,cond_true,q3l c0,Option.bind_some,ja4,q0b,q0g (show j<4611686018427387904 by omega),ih,hd,List.all_cons]
   cases qo0 s[j]<;>simp
  ·have c0' : ¬ ((j:Nat):Int)<((s.length:Nat):Int):=by omega
   have:s.drop j = []:=List.drop_eq_nil_of_le (by omega)
   simp [c0',this]
theorem jal (n:Nat) (s:List UInt8) (hL:s.length<=1000000) (hn:s.length<n):j42 n s=some (qfu s):=by
 unfold j42 qfu
 have:=qqj n s hL n 0 (Nat.zero_le _) (by omega)
 rw [show ((0:Nat):Int)=(0:Int) from rfl] at this
 rw [this,List.drop_zero]
 cases decide (s = [])<;>cases decide (s = [46])<;>cases decide (s = [46,46])<;>cases s.all qo0<;>rfl
end Go.Proofs.YtapfankgdkdkgaaGreatDoor.AM
namespace Go.Proofs.YtapfankgdkdkgaaGreatDoor.AM
open Go.RowKit
set_option linter.unusedVariables false
set_option linter.unusedSimpArgs false
theorem quz {n:Int} (h:0<=n/\n<=999999999):(Lib.itoa n).length<=9:=by
 rw [jj0 h.1];exact jg4 8 n.toNat (by omega)
theorem j08 (s:List UInt8):(q1f s).length<=s.length:=by
 unfold q1f;split
 ·rw [List.length_drop];omega
 ·exact Nat.le_refl _
end Go.Proofs.YtapfankgdkdkgaaGreatDoor.AM
namespace Go.Proofs.YtapfankgdkdkgaaGreatDoor.AM
open Go.RowKit
set_option linter.unusedVariables false
set_option linter.unusedSimpArgs false
theorem q98 {s t:List UInt8} (h:s.length+t.length<=9223372036854775807):qbu s t=some (s++t):=if_pos h
theorem qc8 (n m:Nat) (a1 a2 a3 i i' a5 a6 a7 x:Int) (a8 a9:List UInt8) (hx:q1g ([a1,a2,a3]:List Int) i=some x) (hi:i<3) (hw:IntKind.wrap .i64 (i+1)=i') :
  q49 n (m+1) a1 a2 a3 i a5 a6 a7 a8 a9=if jj4 x=true then q49 n m a1 a2 a3 i' a5 a6 a7 a8 a9 else some (Sum.inl ((false,()),((),()))):=by
 rw [q6t]
 unfold qe1 jj4
 simp only [hi,decide_true,cond_true,hx,Option.bind_some,q0b,hw]
 by_cases h1:x<0
 ·have : ¬ (0:Int)<=x:=by omega
  simp [h1,this]
 ·have h1':(0:Int)<=x:=by omega
  by_cases h2:999999999<x
  ·have : ¬ x<=999999999:=by omega
   simp [h1,h2,this]
  ·have:x<=999999999:=by omega
   simp [h1,h2,h1',this]
theorem q5c (n:Nat) (v:VD) (hn:4<=n):q5o n v=some (q3h v):=by
 obtain ⟨k,rfl⟩ : ∃ k,n=k+1+1+1+1:=⟨n - 4,by omega⟩
 obtain ⟨a,b,c,p,q⟩:=v
 unfold q5o
 rw [qc8 _ _ a b c 0 1 _ _ _ a _ _ rfl (by decide) rfl,qc8 _ _ a b c 1 2 _ _ _ b _ _ rfl (by decide) rfl,qc8 _ _ a b c 2 3 _ _ _ c _ _ rfl (by decide) rfl,q6t]
 unfold qe1 q3h qkt qg2
 dsimp only
 cases jj4 a with
 | false=>rfl
 | true=>cases jj4 b with
  | false=>rfl
  | true=>cases jj4 c with
   | false=>rfl
   | true =>
    simp only [if_true,Bool.true_and,show ¬ (3:Int)<3 from by decide,decide_false,cond_false,Option.bind_some,Sum.elim_inr]
    cases q6r q9e p<;>cases q6r q3o q<;>rfl
theorem qzh (n:Nat) (s:List UInt8) (hs:s.length<=1000000):q61 n s [118]=some (q1f s):=by
 unfold q61 q89 q18 q1f
 cases s with
 | nil=>rfl
 | cons b r =>
  have h1:((List.length ([118]:List UInt8):Nat):Int)<=((List.length (b::r):Nat):Int):=by simp;omega
  have h2:q1s (b::r) (0:Int) ((List.length ([118]:List UInt8):Nat):Int)=some [b]:=sub_zero (b:=1) (by simp)
  have h3:q1s (b::r) ((List.length ([118]:List UInt8):Nat):Int) ((List.length (b::r):Nat):Int)=some r:=by
   have:=sub_le (l:=b::r) (a:=1) (b:=(b::r).length) (by simp) (Nat.le_refl _)
   rw [show ((List.length ([118]:List UInt8):Nat):Int)=((1:Nat):Int) from rfl,this]
   simp
  simp only [h1,decide_true,cond_true,h2,Option.bind_some,List.head?_cons,Option.some.injEq,List.drop_succ_cons,List.drop_zero]
  by_cases hb:b=118
  ·simp only [hb,decide_true,cond_true,if_true] at h3 ⊢
   rw [h3];rfl
  ·have : ¬ [b]=([118]:List UInt8):=fun h=>hb (by simpa using h)
   simp [this,hb]
theorem qp8 {n:Int} (h:0<=n/\n<=999999999):qnq n=some (Lib.itoa n):=if_pos ⟨by omega,by omega⟩
end Go.Proofs.YtapfankgdkdkgaaGreatDoor.AM
namespace Go.Proofs.YtapfankgdkdkgaaGreatDoor.AM
open Go.RowKit
set_option linter.unusedVariables false
set_option linter.unusedSimpArgs false
theorem qu6 (s:List UInt8) (j:Nat) (h:j<s.length):(s.take (j+1)).reverse=s[j]::(s.take j).reverse:=by
 rw [List.take_succ_eq_append_getElem h];simp
theorem qqq (n:Nat) (c:UInt8) (s:List UInt8) (hL:s.length<=1000000) : ∀m j:Nat,j<=s.length->j<m->q7m n m s ((c.toNat:Nat):Int) ((j:Int) - 1)=some (if qm2 c (s.take j).reverse = -1 then Sum.inr ((),((),())) else Sum.inl ((qm2 c (s.take j).reverse,()),((),())))
 | 0,j,_,h=>absurd h (Nat.not_lt_zero _)
 | m+1,0,_,_=>by
  rw [q8p]
  unfold qk0
  simp [qm2]
 | m+1,j+1,hj,h=>by
  rw [q8p]
  unfold qk0
  have e1:((j+1:Nat):Int) - 1=((j:Nat):Int):=by omega
  have ih:=qqq n c s hL m j (by omega) (by omega)
  have w1:IntKind.wrap .i64 (((j:Nat):Int) - 1)=((j:Nat):Int) - 1:=wrap64 (by omega) (by omega)
  have c0:(0:Int)<=((j:Nat):Int):=by omega
  have d1:decide (((s[j].toNat:Nat):Int)=((c.toNat:Nat):Int))=decide (s[j]=c):=decide_eq_decide.2 ⟨fun h=>UInt8.toNat_inj.1 (by omega),fun h=>by rw [h]⟩
  rw [e1]
  simp only [c0,decide_true,cond_true,q3l (show j<s.length by omega),Option.bind_some,d1,q0b,w1,ih,qu6 s j (by omega),qm2]
  by_cases h0:s[j]=c
  ·have : ¬ (((s.take j).reverse.length:Nat):Int) = -1:=by omega
   have l1:(s.take j).reverse.length=j:=by simp;omega
   simp only [h0,decide_true,cond_true,if_true,this,if_false,l1]
   rw [if_neg (by omega)]
  ·simp [h0]
theorem j8j (n:Nat) (c:UInt8) (s:List UInt8) (hL:s.length<=1000000) (hn:s.length<n):qv4 n s ((c.toNat:Nat):Int)=some (qbk c s):=by
 unfold qv4
 have:=qqq n c s hL n s.length (Nat.le_refl _) hn
 have w1:IntKind.wrap .i64 (((s.length:Nat):Int) - 1)=((s.length:Nat):Int) - 1:=wrap64 (by omega) (by omega)
 simp only [q0b,w1,this,List.take_length]
 unfold qbk
 by_cases h:qm2 c s.reverse = -1
 ·simp [h]
 ·simp [h]
theorem qs0 (n:Nat) (s:List UInt8) (hL:s.length<=1000000) (hn:s.length<n):qtf n s (47:Int)=some (qbk 47 s):=by
 unfold qtf
 rw [show (47:Int)=(((47:UInt8).toNat:Nat):Int) from rfl,j8j n 47 s hL hn];rfl
theorem j3j (n:Nat) (s:List UInt8) (hs:s.length<=1000000):q7n n s [118]=some (if s.head? = some 118 then (s.drop 1,true) else (s,false)):=by
 unfold q7n q9b q18
 cases s with
 | nil=>rfl
 | cons b r =>
  have h1:((List.length ([118]:List UInt8):Nat):Int)<=((List.length (b::r):Nat):Int):=by simp;omega
  have h2:q1s (b::r) (0:Int) ((List.length ([118]:List UInt8):Nat):Int)=some [b]:=sub_zero (b:=1) (by simp)
  have h3:q1s (b::r) ((List.length ([118]:List UInt8):Nat):Int) ((List.length (b::r):Nat):Int)=some r:=by
   have:=sub_le (l:=b::r) (a:=1) (b:=(b::r).length) (by simp) (Nat.le_refl _)
   rw [show ((List.length ([118]:List UInt8):Nat):Int)=((1:Nat):Int) from rfl,this]
   simp
  simp only [h1,decide_true,cond_true,h2,Option.bind_some,List.head?_cons,Option.some.injEq,List.drop_succ_cons,List.drop_zero]
  by_cases hb:b=118
  ·simp only [hb,decide_true,cond_true,if_true,Bool.not_true,cond_false] at h3 ⊢
   rw [h3];rfl
  ·have : ¬ [b]=([118]:List UInt8):=fun h=>hb (by simpa using h)
   simp [this,hb]
theorem qp7 (n:Nat) (s:List UInt8) (hs:s.length<=1000000):qe4 n s=some (q3w s):=by
 unfold qe4 q3w qdx
 rw [j3j n s hs]
 by_cases h:s.head? = some 118
 ·have hl:(s.drop 1).length<=1000000:=by rw [List.length_drop];omega
  have ht:qlt (s.drop 1) jai=some (Lib.trimS (s.drop 1) jai):=if_pos ⟨rfl,hl⟩
  simp only [h,if_true,Option.bind_some,cond_true,ht,jla,decide_true,Bool.true_and]
  cases decide (s.drop 1 = [])<;>cases (s.drop 1).all q47<;>rfl
 ·simp [h]
end Go.Proofs.YtapfankgdkdkgaaGreatDoor.AM
namespace Go.Proofs
open Go.RowKit Go.Shelf Go.Lib
attribute [local go_sem] Oper.semAt_some
set_option linter.unusedVariables false
set_option linter.unusedSimpArgs false
namespace YtapfankgdkdkgaaGreatDoor.AM
theorem jj2 (x:List UInt8) (w:World) (hI:Inv w) (hx:x.length<=1000000):Calls Tryz.prog 154 #[.string (ba x)] w fun e w'=>e = .returned (.bool (qfu x))/\Below w.heap.size w w':=by
 have h:=(jif 1000001 Inv q7u).1.2 x (qfu x) (jal 1000001 x (by omega) (by omega))
 refine (h (fun _ _=>False) w #[.string (ba x)] hI (fun b o h=>h.elim) ⟨q05 _,trivial⟩).mono ?_
 rintro e w' ⟨v,Pc,rfl,hb,_,_,hv⟩
 have hv':v = .bool (qfu x):=q07 hv
 rw [hv']
 exact ⟨rfl,hb⟩
set_option maxHeartbeats 2000000 in
theorem j3i (s:List UInt8) (w:World) (hI:Inv w):Calls Tryz.prog 119 #[.string (ba s)] w fun e w'=>e = .returned (.bool (q8g s))/\Below w.heap.size w w':=by
 refine (callsIn_wide (n:=9)).1 ?_
 refine callsIn_of_wp_marks Tryz.func119 rfl trivial ?_ rfl
 simp only [Tryz.ntmps119,List.size_toArray,List.length_cons,List.length_nil,Nat.reduceAdd,Nat.reduceSub,Array.replicate_succ,Array.replicate_zero,List.push_toArray,List.append_toArray,List.nil_append,List.cons_append]
 have hsz:(ba s).size=s.length:=q2u s
 by_cases h2:s.length<=60
 ·skip
  gi_wp2_with (refine ⟨trivial,?_⟩;gi_at_call 136;refine (callsIn_wide.2 (q3u _ _ _)).mono ?_;rintro e w' ⟨rfl,rfl⟩)
  obtain ⟨W0,hW0,hs0,hb0,g0,g1,g2,g3⟩:=four w (Obj.cells #[Value.bool false] 4) (Obj.cells #[Value.string (ba s)] 9) (Obj.cells #[Value.string { data:=#[47] }] 9) (Obj.cells #[Value.int IntKind.i64 0] 3)
  rw [hW0]
  clear hW0
  obtain ⟨c1,f1⟩:=q0o g0
  obtain ⟨c2,f2⟩:=q0o g1
  obtain ⟨c3,f3⟩:=q0o g2
  obtain ⟨c4,f4⟩:=q0o g3
  refine range_split (n:=9) (by omega) 47 (w.heap.size+1) (w.heap.size+1+1) (w.heap.size+1+2) s (by omega) rfl ⟨c2,f2⟩
   (Rng (.string (ba [47])) (w.heap.size+1+1) w.heap.size (w.heap.size+1+1) (w.heap.size+1+2) 47 w qfu) (RngX w.heap.size w qfu) (qvd (by omega)) (qun (by omega))
   (fun pre W h=>⟨h.cP,h.cC,(hI.below h.below).maxLen⟩) (fun pre W v h=>qtl v h (by omega) (by omega) (by omega) (by omega) (by omega)) ⟨c3,c1,f1,c3,c4,hb0,rfl⟩
   (fun x=>{ tmps:=#[.string (ba s),undef,.pointer (some ⟨w.heap.size,0,none⟩),.string (ba x),.string (ba s),.int .i64 s.length,.bool (decide ((60:Int)<s.length)),.string (ba s),.func (.func 200) #[] #[.pointer (some ⟨w.heap.size+1+1,0,none⟩),.pointer (some ⟨w.heap.size+1,0,none⟩),.pointer (some ⟨w.heap.size+1+2,0,none⟩)],.string (ba x),undef,undef,undef],defers:=[] }) ?assign ?body ?done ?stop
  case assign =>
   intro l x W K hK
   gi_wp2
   exact hK
  case body =>
   intro l pre x r W hi hL hx
   have k1:=hi.res
   have k2:=hi.frz
   have hc:=jj2 x W (hI.below hi.below) (by omega)
   cases hpx:qfu x with
   | true =>
    rw [hpx] at hc
    gi_wp2_with (refine ⟨trivial,?_⟩;gi_at_call 154;refine (CallsIn.inRound l (callsIn_wide.2 hc)).mono ?_;rintro e w' ⟨rfl,hb'⟩)
    exact ⟨q22 hb',qe0 hi hb' (by simp [hpx]),qbj hL hb'⟩
   | false =>
    rw [hpx] at hc
    gi_wp2_with (refine ⟨trivial,?_⟩;gi_at_call 154;refine (CallsIn.inRound l (callsIn_wide.2 hc)).mono ?_;rintro e w' ⟨rfl,hb'⟩;have k3:=q2i hb' hi.res;have k4:=(q33 hb' hi.res).trans hi.frz)
    exact ⟨(q22 hb').trans (KeepsOthers.setCell _ _ _),World.cell?_setCell_same' _ _ _ (by rw [k3];rfl),(hi.below.trans (hb'.mono hi.below.size)).setCell (by simp) _,by simp [hpx]⟩
  case done =>
   intro D W hD hi hK
   have k1:=hi.res
   have k2:=hi.frz
   gi_wp2
   have hK':=(KeepsOthers.setCell W ⟨w.heap.size,0,none⟩ (.bool true)).same D _ hK rfl
   have hW':Below w.heap.size w (W.setCell ⟨w.heap.size,0,none⟩ (.bool true)):=hi.below.setCell (by simp) _
   have k5:(W.setCell ⟨w.heap.size,0,none⟩ (.bool true)).cell? ⟨w.heap.size,0,none⟩=some (.bool true):=World.cell?_setCell_same' _ _ _ (by rw [k1];rfl)
   generalize W.setCell ⟨w.heap.size,0,none⟩ (.bool true)=W2 at hK' hW' k5
   refine ⟨by simp,.inl ⟨_,_,rfl,run_takeDeferred hK',?_⟩⟩
   have hg:=grownBy_putObj' W2 D (.deferred none)
   refine ⟨_,q2e (b:=w.heap.size) (v:=.bool true) rfl rfl hag (cell_kept k5 hg (fun r e=>by cases e;exact ⟨_,hK',rfl⟩)),?_,?_⟩
   ·have ha:=hi.all
    unfold q8g;simp [h2,ha]
   ·exact hW'.grown hg hW'.size (fun k e=>by cases e;omega)
  case stop =>
   intro D pre x t W hD hsp hi hK
   refine ⟨by simp,.inl ⟨_,_,rfl,run_takeDeferred hK,?_⟩⟩
   have hg:=grownBy_putObj' W D (.deferred none)
   refine ⟨_,q2e (b:=w.heap.size) (v:=.bool false) rfl rfl hag (cell_kept hi.res hg (fun r e=>by cases e;exact ⟨_,hK,rfl⟩)),?_,?_⟩
   ·have ha:=j78 hsp hi.no
    unfold q8g;simp [ha]
   ·exact hi.below.grown hg hi.below.size (fun k e=>by cases e;omega)
 ·gi_wp2
  refine ⟨_,q2e (b:=w.heap.size) (v:=.bool false) rfl rfl hag (by simp),?_,?_⟩
  ·unfold q8g;simp [h2]
  ·exact (Below.refl _ w).alloc (Nat.le_refl _) _
def qnj (s:List UInt8):Option Bool:=some (q8g s)
def qui:FC:={ f:=119,args:=[qrs],res:=jkn,F:=fun p=>qnj p }
theorem j76:q0d Inv Tryz.prog qui:=fun G hG=>⟨⟨by kernel_rfl,fun (s:List UInt8) r h=>by
 have hr:q8g s=r:=Option.some.inj h
 intro Pc w vs hg hlt hv
 obtain ⟨l⟩:=vs
 match l,hv with
 | [x],⟨h1,_⟩ =>
  obtain rfl:x = .string (ba s):=q07 h1
  refine (j3i s w (hG.im w hg)).mono ?_
  rintro e w' ⟨rfl,hb⟩
  subst hr
  exact q3n rfl hb (q05 _)⟩,rfl⟩
end YtapfankgdkdkgaaGreatDoor.AM
end Go.Proofs
namespace Go.Proofs
open Go.RowKit Go.Shelf Go.Lib
attribute [local go_sem] Oper.semAt_some
set_option linter.unusedVariables false
set_option linter.unusedSimpArgs false
namespace YtapfankgdkdkgaaGreatDoor.AM
theorem jcc (x:List UInt8) (w:World) (hI:Inv w) (hx:x.length<=1000000):Calls Tryz.prog 134 #[.string (ba x)] w fun e w'=>e = .returned (.bool (q3w x))/\Below w.heap.size w w':=by
 have h:=(qw3 1000001 Inv q7u).1.2 x (q3w x) (qp7 1000001 x (by omega))
 refine (h (fun _ _=>False) w #[.string (ba x)] hI (fun b o h=>h.elim) ⟨q05 _,trivial⟩).mono ?_
 rintro e w' ⟨v,Pc,rfl,hb,_,_,hv⟩
 have hv':v = .bool (q3w x):=q07 hv
 rw [hv']
 exact ⟨rfl,hb⟩
set_option maxHeartbeats 2000000 in
theorem j8i (s:List UInt8) (w:World) (hI:Inv w) (h2:s.length<=1000000):Calls Tryz.prog 133 #[.string (ba s)] w fun e w'=>e = .returned (.bool (anyS s))/\Below w.heap.size w w':=by
 refine (callsIn_wide (n:=9)).1 ?_
 refine callsIn_of_wp_marks Tryz.func133 rfl trivial ?_ rfl
 simp only [Tryz.ntmps133,List.size_toArray,List.length_cons,List.length_nil,Nat.reduceAdd,Nat.reduceSub,Array.replicate_succ,Array.replicate_zero,List.push_toArray,List.append_toArray,List.nil_append,List.cons_append]
 have hsz:(ba s).size=s.length:=q2u s
 have key:anyS s = !((spl 47 [] s).all fun x=>!q3w x):=by unfold anyS;rw [List.any_eq_not_all_not]
 ·skip
  gi_wp2_with (refine ⟨trivial,?_⟩;gi_at_call 136;refine (callsIn_wide.2 (q3u _ _ _)).mono ?_;rintro e w' ⟨rfl,rfl⟩)
  obtain ⟨W0,hW0,hs0,hb0,g0,g1,g2,g3⟩:=four w (Obj.cells #[Value.bool false] 4) (Obj.cells #[Value.string (ba s)] 9) (Obj.cells #[Value.string { data:=#[47] }] 9) (Obj.cells #[Value.int IntKind.i64 0] 3)
  rw [hW0]
  clear hW0
  obtain ⟨c1,f1⟩:=q0o g0
  obtain ⟨c2,f2⟩:=q0o g1
  obtain ⟨c3,f3⟩:=q0o g2
  obtain ⟨c4,f4⟩:=q0o g3
  refine range_split (n:=9) (by omega) 47 (w.heap.size+1) (w.heap.size+1+1) (w.heap.size+1+2) s (by omega) rfl ⟨c2,f2⟩
   (Rng (.string (ba [47])) (w.heap.size+1+1) w.heap.size (w.heap.size+1+1) (w.heap.size+1+2) 47 w (fun x=>!q3w x)) (RngY w.heap.size w (fun x=>!q3w x)) (qvd (by omega)) (jli (by omega))
   (fun pre W h=>⟨h.cP,h.cC,(hI.below h.below).maxLen⟩) (fun pre W v h=>qtl v h (by omega) (by omega) (by omega) (by omega) (by omega)) ⟨c3,c1,f1,c3,c4,hb0,rfl⟩
   (fun x=>{ tmps:=#[.string (ba s),undef,.pointer (some ⟨w.heap.size,0,none⟩),.string (ba x),.string (ba s),.func (.func 200) #[] #[.pointer (some ⟨w.heap.size+1+1,0,none⟩),.pointer (some ⟨w.heap.size+1,0,none⟩),.pointer (some ⟨w.heap.size+1+2,0,none⟩)],.string (ba x),undef,undef],defers:=[] }) ?assign ?body ?done ?stop
  case assign =>
   intro l x W K hK
   gi_wp2
   exact hK
  case body =>
   intro l pre x r W hi hL hx
   have k1:=hi.res
   have k2:=hi.frz
   have hc:=jcc x W (hI.below hi.below) (by omega)
   cases hpx:q3w x with
   | false =>
    rw [hpx] at hc
    gi_wp2_with (refine ⟨trivial,?_⟩;gi_at_call 134;refine (CallsIn.inRound l (callsIn_wide.2 hc)).mono ?_;rintro e w' ⟨rfl,hb'⟩)
    exact ⟨q22 hb',qe0 hi hb' (by simp [hpx]),qbj hL hb'⟩
   | true =>
    rw [hpx] at hc
    gi_wp2_with (refine ⟨trivial,?_⟩;gi_at_call 134;refine (CallsIn.inRound l (callsIn_wide.2 hc)).mono ?_;rintro e w' ⟨rfl,hb'⟩;have k3:=q2i hb' hi.res;have k4:=(q33 hb' hi.res).trans hi.frz)
    exact ⟨(q22 hb').trans (KeepsOthers.setCell _ _ _),World.cell?_setCell_same' _ _ _ (by rw [k3];rfl),(hi.below.trans (hb'.mono hi.below.size)).setCell (by simp) _,by simp [hpx]⟩
  case done =>
   intro D W hD hi hK
   have k1:=hi.res
   have k2:=hi.frz
   gi_wp2
   have hK':=(KeepsOthers.setCell W ⟨w.heap.size,0,none⟩ (.bool false)).same D _ hK rfl
   have hW':Below w.heap.size w (W.setCell ⟨w.heap.size,0,none⟩ (.bool false)):=hi.below.setCell (by simp) _
   have k5:(W.setCell ⟨w.heap.size,0,none⟩ (.bool false)).cell? ⟨w.heap.size,0,none⟩=some (.bool false):=World.cell?_setCell_same' _ _ _ (by rw [k1];rfl)
   generalize W.setCell ⟨w.heap.size,0,none⟩ (.bool false)=W2 at hK' hW' k5
   refine ⟨by simp,.inl ⟨_,_,rfl,run_takeDeferred hK',?_⟩⟩
   have hg:=grownBy_putObj' W2 D (.deferred none)
   refine ⟨_,q2e (b:=w.heap.size) (v:=.bool false) rfl rfl hag (cell_kept k5 hg (fun r e=>by cases e;exact ⟨_,hK',rfl⟩)),?_,?_⟩
   ·have ha:=hi.all
    rw [key,ha];rfl
   ·exact hW'.grown hg hW'.size (fun k e=>by cases e;omega)
  case stop =>
   intro D pre x t W hD hsp hi hK
   refine ⟨by simp,.inl ⟨_,_,rfl,run_takeDeferred hK,?_⟩⟩
   have hg:=grownBy_putObj' W D (.deferred none)
   refine ⟨_,q2e (b:=w.heap.size) (v:=.bool true) rfl rfl hag (cell_kept hi.res hg (fun r e=>by cases e;exact ⟨_,hK,rfl⟩)),?_,?_⟩
   ·have ha:=j78 hsp hi.no
    rw [key,ha];rfl
   ·exact hi.below.grown hg hi.below.size (fun k e=>by cases e;omega)
theorem jcl (s:List UInt8) (b:Nat):(ba s).extract 0 b=ba (s.take b):=by
 rw [<-jbu ((ba s).extract 0 b)]
 congr 1
 unfold unB ba
 rw [ByteArray.data_extract]
 simp
theorem jbm (x:List UInt8) (w:World) (hI:Inv w) (hx:x.length<=1000000):Calls Tryz.prog 164 #[.string (ba x),.int .u8 47] w fun e w'=>e = .returned (.int .i64 (qbk 47 x))/\Below w.heap.size w w':=by
 have h:=(j4s 1000001 Inv q7u).1.2 (x,(47:Int)) (qbk 47 x) (qs0 1000001 x (by omega) (by omega))
 refine (h (fun _ _=>False) w #[.string (ba x),.int .u8 47] hI (fun b o h=>h.elim) ⟨q05 _,q05 _,trivial⟩).mono ?_
 rintro e w' ⟨v,Pc,rfl,hb,_,_,hv⟩
 have hv':v = .int .i64 (qbk 47 x):=q07 hv
 rw [hv']
 exact ⟨rfl,hb⟩
theorem j3u (s:List UInt8) (w:World) (hI:Inv w) (hs:s.length<=1000000):Calls Tryz.prog 131 #[.string (ba s)] w fun e w'=>e = .returned (.string (ba (q8r s)))/\Below w.heap.size w w':=by
 have hl:=j73 47 s
 have hsz:(ba s).size=s.length:=q2u s
 have hc:=jbm s w hI hs
 go_enter Tryz.func131,Tryz.ntmps131
 by_cases h0:qbk 47 s = -1
 ·rw [h0] at hc
  go_wp2_with (go_at_call 164;refine hc.mono ?_)
  rintro e w' ⟨rfl,hb⟩
  go_wp2
  go_ret
  refine ⟨?_,hb⟩
  show Ending.returned (.string ((ba s).extract 0 (max 0 (-1:Int)).toNat))=_
  rw [jcl];unfold q8r;rw [h0];rfl
 ·obtain ⟨k,hk⟩ : ∃ k:Nat,qbk 47 s=(k:Int):=⟨(qbk 47 s).toNat,by omega⟩
  rw [hk] at hc
  go_wp2_with (go_at_call 164;refine hc.mono ?_)
  rintro e w' ⟨rfl,hb⟩
  go_wp2
  go_ret
  refine ⟨?_,hb⟩
  show Ending.returned (.string ((ba s).extract 0 (max 0 (k:Int)).toNat))=_
  rw [jcl];unfold q8r;rw [hk,Int.max_eq_right (by omega)]
theorem jia (x:List UInt8) (w:World) (hI:Inv w) (hx:x.length<=1000000):Calls Tryz.prog 155 #[.string (ba x),.string (ba [118])] w fun e w'=>e = .returned (.string (ba (q1f x)))/\Below w.heap.size w w':=by
 have h:=(qf4 100 Inv q7u).1.2 (x,([118]:List UInt8)) (q1f x) (qzh 100 x (by omega))
 refine (h (fun _ _=>False) w #[.string (ba x),.string (ba [118])] hI (fun b o h=>h.elim) ⟨q05 _,q05 _,trivial⟩).mono ?_
 rintro e w' ⟨v,Pc,rfl,hb,_,_,hv⟩
 have hv':v = .string (ba (q1f x)):=q07 hv
 rw [hv']
 exact ⟨rfl,hb⟩
theorem jdx (n:Int) (w:World) (hI:Inv w) (h0:2<=n) (h1:n<=999999999):Calls Tryz.prog 76 #[.int .i64 n] w fun e w'=>e = .returned (.string (ba (Lib.itoa n)))/\Below w.heap.size w w':=by
 refine (Any.strconv_Itoa Tryz.laysItoa n (by omega) (by omega) w hI.tab).mono ?_
 rintro e w' ⟨rfl,k,os,rfl⟩
 exact ⟨rfl,Lib.below_grow _ w (Nat.le_refl _) k os⟩
set_option maxHeartbeats 2000000 in
theorem j9o (s:List UInt8) (w:World) (hI:Inv w) (hs:s.length<=1000000):Calls Tryz.prog 135 #[.string (ba s)] w fun e w'=>e = .returned (.tuple #[.int .i64 (numOf (q1f s)),.bool (j7f (q1f s))])/\Below w.heap.size w w':=by
 have hc:=jia s w hI hs
 have hl:=j08 s
 go_enter Tryz.func135,Tryz.ntmps135
 go_wp2_with (go_at_call 155;refine hc.mono ?_)
 rintro e w1 ⟨rfl,hb1⟩
 clear hc
 have hI1:=hI.below hb1
 have e1:(ba (q1f s)).data.toList=q1f s:=by simp [ba]
 have hl':(ba (q1f s)).size<=281474976710656:=by rw [q2u];omega
 obtain ⟨ts,ps,hsy⟩:=hI1.syn
 obtain ⟨tr,pr,hrg⟩:=hI1.rng
 cases h:Lib.atoiAll (q1f s) with
 | ok v =>
  go_wp2_with (go_at_call 167;refine (Any.strconv_Atoi_ok Tryz.laysAtoi (ba (q1f s)) (by omega) v (by rw [e1];exact h) w1).mono ?_)
  rintro e w2 ⟨rfl,hw⟩
  have hb2:Below w1.heap.size w1 w2:=by
   rcases hw with rfl|⟨t,rfl⟩
   ·exact Below.refl _ _
   ·exact Lib.bytesWorld_below _ _ _
  clear hw
  have hb:Below w.heap.size w w2:=hb1.trans (hb2.mono hb1.size)
  by_cases h2:2<=v
  ·by_cases h3:v<=999999999
   ·have hi:=jdx v w2 (hI.below hb) h2 h3
    go_wp2_with (go_at_call 76;refine hi.mono ?_)
    rintro e w3 ⟨rfl,hb3⟩
    go_wp2
    go_ret2
    refine ⟨?_,hb.trans (hb3.mono hb.size)⟩
    unfold numOf j7f;rw [h]
    simp [h2,h3,q6p]
    rw [Bool.eq_iff_iff];simp
   ·go_wp2
    go_ret2
    refine ⟨?_,hb⟩
    unfold numOf j7f;rw [h]
    simp [h2,show ¬ v<=999999999 from by omega]
  ·go_wp2
   go_ret2
   refine ⟨?_,hb⟩
   unfold numOf j7f;rw [h]
   simp [show ¬ 2<=v from by omega]
 | «syntax» =>
  go_wp2_with (go_at_call 167;refine (Any.strconv_Atoi_syntax Tryz.laysAtoi (ba (q1f s)) hl' (by rw [e1];exact h) _ w1 hsy (Or.inr ⟨_,_,rfl⟩)).mono ?_)
  rintro e w2 ⟨N,rfl,hN,hc,hb2⟩
  go_wp2
  go_ret2
  refine ⟨?_,hb1.trans (hb2.mono hb1.size)⟩
  unfold numOf j7f;rw [h];rfl
 | range =>
  go_wp2_with (go_at_call 167;refine (Any.strconv_Atoi_range Tryz.laysAtoi (ba (q1f s)) hl' (by rw [e1];exact h) _ w1 hrg (Or.inr ⟨_,_,rfl⟩)).mono ?_)
  rintro e w2 ⟨N,rfl,hN,hc,hb2⟩
  rw [e1]
  go_wp2
  go_ret2
  refine ⟨?_,hb1.trans (hb2.mono hb1.size)⟩
  unfold numOf j7f;rw [h];rfl
def j0j (s:List UInt8):Option Bool:=if s.length<=1000000 then some (anyS s) else none
def jfm:FC:={ f:=133,args:=[qrs],res:=jkn,F:=fun p=>j0j p }
theorem jn4:q0d Inv Tryz.prog jfm:=fun G hG=>⟨⟨by kernel_rfl,fun (s:List UInt8) r h=>by
 have h':j0j s=some r:=h
 unfold j0j at h'
 split at h'
 case isFalse=>cases h'
 rename_i hc
 have hr:anyS s=r:=Option.some.inj h'
 intro Pc w vs hg hlt hv
 obtain ⟨l⟩:=vs
 match l,hv with
 | [x],⟨h1,_⟩ =>
  obtain rfl:x = .string (ba s):=q07 h1
  refine (j8i s w (hG.im w hg) hc).mono ?_
  rintro e w' ⟨rfl,hb⟩
  subst hr
  exact q3n rfl hb (q05 _)⟩,rfl⟩
def qmy (s:List UInt8):Option (List UInt8):=if s.length<=1000000 then some (q8r s) else none
def j80:FC:={ f:=131,args:=[qrs],res:=qrs,F:=fun p=>qmy p }
theorem jk0:q0d Inv Tryz.prog j80:=fun G hG=>⟨⟨by kernel_rfl,fun (s:List UInt8) r h=>by
 have h':qmy s=some r:=h
 unfold qmy at h'
 split at h'
 case isFalse=>cases h'
 rename_i hc
 have hr:q8r s=r:=Option.some.inj h'
 intro Pc w vs hg hlt hv
 obtain ⟨l⟩:=vs
 match l,hv with
 | [x],⟨h1,_⟩ =>
  obtain rfl:x = .string (ba s):=q07 h1
  refine (j3u s w (hG.im w hg) hc).mono ?_
  rintro e w' ⟨rfl,hb⟩
  subst hr
  exact q3n rfl hb (q05 (.string (ba (q8r s))))⟩,rfl⟩
def qra (s:List UInt8):Option (Int×Bool):=if s.length<=1000000 then some (numOf (q1f s),j7f (q1f s)) else none
def jgb:FC:={ f:=135,args:=[qrs],res:=.tup [.c (.d (.int .i64)),.c (.d .bool)],F:=fun p=>qra p }
theorem joj:q0d Inv Tryz.prog jgb:=fun G hG=>⟨⟨by kernel_rfl,fun (s:List UInt8) (r:Int×Bool) h=>by
 have h':qra s=some r:=h
 unfold qra at h'
 split at h'
 case isFalse=>cases h'
 rename_i hc
 have hr:(numOf (q1f s),j7f (q1f s))=r:=Option.some.inj h'
 intro Pc w vs hg hlt hv
 obtain ⟨l⟩:=vs
 match l,hv with
 | [x],⟨h1,_⟩ =>
  obtain rfl:x = .string (ba s):=q07 h1
  refine (j9o s w (hG.im w hg) hc).mono ?_
  rintro e w' ⟨rfl,hb⟩
  subst hr
  refine ⟨_,Pc,rfl,hb,fun _ _ h=>h,fun _ _ h=>Or.inl h,?_⟩
  exact ⟨#[.int .i64 (numOf (q1f s)),.bool (j7f (q1f s))],rfl,q05 (σ:=ql8) (.int .i64 (numOf (q1f s))),q05 (σ:=ql8) (.bool (j7f (q1f s))),trivial⟩⟩,rfl⟩
end YtapfankgdkdkgaaGreatDoor.AM
end Go.Proofs
