
import Derived.Test.YtapfankgdkdkgaaGreatDoorEo12
import Derived.Test.YtapfankgdkdkgaaGreatDoorEo9
import Derived.Test.YtapfankgdkdkgaaGreatDoorEo10
set_option linter.unusedVariables false
set_option linter.unusedSimpArgs false
namespace Go.Proofs.YtapfankgdkdkgaaGreatDoor.AM
open Go.RowKit
set_option maxRecDepth 20000
abbrev Z5:=((Bool×Unit)×Unit×Unit)⊕(Unit×Unit×Unit)
abbrev Z6:=((Int×Unit)×Unit×Unit)⊕(Unit×Unit×Unit)
@[reducible] def qbp:SSt:=⟨[(0,.one (.c (.d .str))),(1,.one (.c (.d (.int .u8)))),(5,.one (.c (.d (.int .i64))))],[],[]⟩
@[reducible] def q7a:List (Exit×SSt):=[(.ret,⟨[(4,.one (.c (.d (.int .i64))))],[],[]⟩),(.exit 0,⟨[],[],[]⟩)]
def qgn (n:Nat) (rec:(Yy)->Int->Int->Option Z6) (a1:Yy) (a2:Int) (a3:Int):Option Z6 :=
 (bif decide (0<=a3) then (sAt a1 a3).bind fun c2=>(bif decide (c2=a2) then some (Sum.inl ((a3,()),((),()))) else q0h (IntKind.wrap .i64 (a3 - (1:Int))) fun n3=>rec a1 a2 n3) else some (Sum.inr (((),((),())))))
def qsm (n:Nat) (rec:pSt qbp->Option (q1e q7a)) (p:pSt qbp):Option (q1e q7a):=qgn n (fun a1 a2 a3=>rec ((a1,(a2,(a3,()))),((),()))) p.1.1 p.1.2.1 p.1.2.2.1
def q6v (n m:Nat) (a1:Yy) (a2:Int) (a3:Int):Option Z6:=q1n (qsm n) m ((a1,(a2,(a3,()))),((),()))
theorem q81 (n m:Nat) (a1 a2 a3):q6v n (m+1) a1 a2 a3=qgn n (fun a1 a2 a3=>q6v n m a1 a2 a3) a1 a2 a3:=rfl
def j4n (n:Nat):LC:={ sh:=qbp,outs:=q7a,F:=q1n (qsm n) n }
def qkv (n:Nat):List LC:=[j4n n]
def qku (n:Nat) (a1:Yy) (a2:Int):Option (Int) :=
 q0h (IntKind.wrap .i64 ((a1.length:Int) - (1:Int))) fun (n1:Int)=>(q6v n n a1 a2 n1).bind fun o4=>Sum.elim (fun (q5:(Int×Unit)×Unit×Unit)=>some q5.1.1) (fun (q6:(Unit)×Unit×Unit)=>some (-1:Int)) o4
def qa7 (n:Nat):FC:={ f:=80,args:=[.one (.c (.d .str)),.one (.c (.d (.int .u8)))],res:=.one (.c (.d (.int .i64))),F:=fun p=>qku n p.1 p.2 }
def qr2 (n:Nat):List FC:=[]
theorem qon (n:Nat) {G:World->Prop} (hG:Know Inv G) : ∀c∈qr2 n,q14 Tryz.prog G c/\q0c c.args=true:=(fun _ h=>by cases h)
def qqg:q0b:=[]
theorem j4x:drB qqg (q00 Tryz.f80)=true:=by kernel_rfl
theorem j9y (n:Nat) : ∀rec p,qsm n rec p=round Tryz.prog 19 (qr2 n) (qkv n) qqg 1 qbp q7a (q05 0 0 (q00 Tryz.f80)) rec p:=by intro rec p;kernel_rfl
theorem j5d (n:Nat) {F:Fr} (hF:F.n=19) (hK:Know Inv F.G):qne Tryz.prog F (j4n n) (q05 0 0 (q00 Tryz.f80)) :=
 q1w hF (by kernel_rfl) (qon n hK) (j9y n) (fuel:=n) (fun _=>rfl) (q03 fun j L h1 h2 h3=>absurd h2 (Nat.not_lt.2 (Nat.le_trans (by decide +kernel) h1))) (q3i j4x)
theorem jgv (n:Nat) : ∀a,(qa7 n).F a=main Tryz.prog 19 (qr2 n) (qkv n) qqg (q00 Tryz.f80) [.tmp 4] (qa7 n).args (qa7 n).res a:=by intro a;kernel_rfl
theorem j4g (n:Nat):q0g Inv Tryz.prog (qa7 n):=fun G hG=>⟨⟨by kernel_rfl,fun a r h=>q04 (c:=q00 Tryz.f80) Tryz.func80 (by kernel_rfl) (by kernel_rfl) (Nat.le_of_ble_eq_true (by kernel_rfl)) hG.st (by kernel_rfl) (rs:=[.tmp 4]) (by kernel_rfl) (qon n hG) (lts:=qkv n) (fun F hF hFG=>have hK:Know Inv F.G:=hFG ▸ hG;(q03 (c:=(q00 Tryz.f80)) (fun j L h1 h2 h3=>by
  have h2':j<1:=Nat.lt_of_lt_of_le h2 (by decide +kernel)
  match j,h1,h2',h3 with
  | 0,_,_,h3=>obtain rfl:=Option.some.inj h3;exact (show q05 0 0 (q00 Tryz.f80)=q05 0 0 (q00 Tryz.f80) by kernel_rfl) ▸ j5d n hF hK
  | j+1,_,h2',_=>exact absurd h2' (by omega)))) j4x ((jgv n a).symm.trans h)⟩,rfl⟩
def quw (n:Nat):List LC:=[]
def qpv (n:Nat) (a1:Yy) (a2:Int):Option (Int) :=
 (qku n a1 a2).bind fun r1=>some r1
def qca (n:Nat):FC:={ f:=164,args:=[.one (.c (.d .str)),.one (.c (.d (.int .u8)))],res:=.one (.c (.d (.int .i64))),F:=fun p=>qpv n p.1 p.2 }
def j2q (n:Nat):List FC:=[qa7 n]
theorem j6c (n:Nat) {G:World->Prop} (hG:Know Inv G) : ∀c∈j2q n,q14 Tryz.prog G c/\q0c c.args=true:=List.forall_mem_cons.2 ⟨j4g n G hG,(fun _ h=>by cases h)⟩
def j3b:q0b:=[]
theorem ji2:drB j3b (q00 Tryz.f164)=true:=by kernel_rfl
theorem jg9 (n:Nat) : ∀a,(qca n).F a=main Tryz.prog 8 (j2q n) (quw n) j3b (q00 Tryz.f164) [.tmp 4] (qca n).args (qca n).res a:=by intro a;kernel_rfl
theorem j2z (n:Nat):q0g Inv Tryz.prog (qca n):=fun G hG=>⟨⟨by kernel_rfl,fun a r h=>q04 (c:=q00 Tryz.f164) Tryz.func164 (by kernel_rfl) (by kernel_rfl) (Nat.le_of_ble_eq_true (by kernel_rfl)) hG.st (by kernel_rfl) (rs:=[.tmp 4]) (by kernel_rfl) (j6c n hG) (lts:=quw n) (fun F hF hFG=>have hK:Know Inv F.G:=hFG ▸ hG;(q03 fun j L h1 h2 h3=>absurd h2 (Nat.not_lt.2 (Nat.le_trans (by decide +kernel) h1)))) ji2 ((jg9 n a).symm.trans h)⟩,rfl⟩
def qaf (n:Nat):List LC:=[]
def q92 (n:Nat) (a1:Yy) (a2:Yy):Option (Yy×(Bool)) :=
 (q16 n a1 a2).bind fun r1=>(bif !r1 then some (a1,false) else (q20 a1 (a2.length:Int) (a1.length:Int)).bind fun s2=>some (s2,true))
def q3b (n:Nat):FC:={ f:=190,args:=[.one (.c (.d .str)),.one (.c (.d .str))],res:=.tup [.c (.d .str),.c (.d .bool)],F:=fun p=>q92 n p.1 p.2 }
def qd4 (n:Nat):List FC:=[q0j n]
theorem qm3 (n:Nat) {G:World->Prop} (hG:Know Inv G) : ∀c∈qd4 n,q14 Tryz.prog G c/\q0c c.args=true:=List.forall_mem_cons.2 ⟨q3e n G hG,(fun _ h=>by cases h)⟩
def qd8:q0b:=[]
theorem qqq:drB qd8 (q00 Tryz.f190)=true:=by kernel_rfl
theorem qpx (n:Nat) : ∀a,(q3b n).F a=main Tryz.prog 15 (qd4 n) (qaf n) qd8 (q00 Tryz.f190) [.tmp 4,.tmp 5] (q3b n).args (q3b n).res a:=by intro a;kernel_rfl
theorem qrc (n:Nat):q0g Inv Tryz.prog (q3b n):=fun G hG=>⟨⟨by kernel_rfl,fun a r h=>q04 (c:=q00 Tryz.f190) Tryz.func190 (by kernel_rfl) (by kernel_rfl) (Nat.le_of_ble_eq_true (by kernel_rfl)) hG.st (by kernel_rfl) (rs:=[.tmp 4,.tmp 5]) (by kernel_rfl) (qm3 n hG) (lts:=qaf n) (fun F hF hFG=>have hK:Know Inv F.G:=hFG ▸ hG;(q03 fun j L h1 h2 h3=>absurd h2 (Nat.not_lt.2 (Nat.le_trans (by decide +kernel) h1)))) qqq ((qpx n a).symm.trans h)⟩,rfl⟩
def qco (n:Nat):List LC:=[]
def q7y (n:Nat) (a1:Yy) (a2:Yy):Option (Yy×(Bool)) :=
 (q92 n a1 a2).bind fun r1=>some r1
def q3v (n:Nat):FC:={ f:=165,args:=[.one (.c (.d .str)),.one (.c (.d .str))],res:=.tup [.c (.d .str),.c (.d .bool)],F:=fun p=>q7y n p.1 p.2 }
def qfa (n:Nat):List FC:=[q3b n]
theorem qn9 (n:Nat) {G:World->Prop} (hG:Know Inv G) : ∀c∈qfa n,q14 Tryz.prog G c/\q0c c.args=true:=List.forall_mem_cons.2 ⟨qrc n G hG,(fun _ h=>by cases h)⟩
def qf9:q0b:=[]
theorem qtt:drB qf9 (q00 Tryz.f165)=true:=by kernel_rfl
theorem qxl (n:Nat) : ∀a,(q3v n).F a=main Tryz.prog 11 (qfa n) (qco n) qf9 (q00 Tryz.f165) [.tmp 4,.tmp 5] (q3v n).args (q3v n).res a:=by intro a;kernel_rfl
theorem qw9 (n:Nat):q0g Inv Tryz.prog (q3v n):=fun G hG=>⟨⟨by kernel_rfl,fun a r h=>q04 (c:=q00 Tryz.f165) Tryz.func165 (by kernel_rfl) (by kernel_rfl) (Nat.le_of_ble_eq_true (by kernel_rfl)) hG.st (by kernel_rfl) (rs:=[.tmp 4,.tmp 5]) (by kernel_rfl) (qn9 n hG) (lts:=qco n) (fun F hF hFG=>have hK:Know Inv F.G:=hFG ▸ hG;(q03 fun j L h1 h2 h3=>absurd h2 (Nat.not_lt.2 (Nat.le_trans (by decide +kernel) h1)))) qtt ((qxl n a).symm.trans h)⟩,rfl⟩
def q3c (n:Nat):List LC:=[]
def q0p (n:Nat) (a1:Yy) (a2:Yy):Option (Bool) :=
 (q16 n a1 a2).bind fun r1=>some r1
def q15 (n:Nat):FC:={ f:=152,args:=[.one (.c (.d .str)),.one (.c (.d .str))],res:=.one (.c (.d .bool)),F:=fun p=>q0p n p.1 p.2 }
def q45 (n:Nat):List FC:=[q0j n]
theorem q67 (n:Nat) {G:World->Prop} (hG:Know Inv G) : ∀c∈q45 n,q14 Tryz.prog G c/\q0c c.args=true:=List.forall_mem_cons.2 ⟨q3e n G hG,(fun _ h=>by cases h)⟩
def q3x:q0b:=[]
theorem q88:drB q3x (q00 Tryz.f152)=true:=by kernel_rfl
theorem q8r (n:Nat) : ∀a,(q15 n).F a=main Tryz.prog 8 (q45 n) (q3c n) q3x (q00 Tryz.f152) [.tmp 4] (q15 n).args (q15 n).res a:=by intro a;kernel_rfl
theorem qfp (n:Nat):q0g Inv Tryz.prog (q15 n):=fun G hG=>⟨⟨by kernel_rfl,fun a r h=>q04 (c:=q00 Tryz.f152) Tryz.func152 (by kernel_rfl) (by kernel_rfl) (Nat.le_of_ble_eq_true (by kernel_rfl)) hG.st (by kernel_rfl) (rs:=[.tmp 4]) (by kernel_rfl) (q67 n hG) (lts:=q3c n) (fun F hF hFG=>have hK:Know Inv F.G:=hFG ▸ hG;(q03 fun j L h1 h2 h3=>absurd h2 (Nat.not_lt.2 (Nat.le_trans (by decide +kernel) h1)))) q88 ((q8r n a).symm.trans h)⟩,rfl⟩
def qo8 (n:Nat):List LC:=[]
def qbx (n:Nat) (a1:Yy):Option (Bool) :=
 (q7y n a1 ([118]:Yy)).bind fun r1=>(bif r1.2 then (bif !decide (r1.1=([]:Yy)) then (qkw r1.1 ([48,49,50,51,52,53,54,55,56,57]:Yy)).bind fun (r2:Yy)=>some (decide (r2=([]:Yy))) else some false) else some false)
def q8x (n:Nat):FC:={ f:=134,args:=[.one (.c (.d .str))],res:=.one (.c (.d .bool)),F:=fun p=>qbx n p }
def qsy (n:Nat):List FC:=[q3v n,j3i]
theorem qyt (n:Nat) {G:World->Prop} (hG:Know Inv G) : ∀c∈qsy n,q14 Tryz.prog G c/\q0c c.args=true:=List.forall_mem_cons.2 ⟨qw9 n G hG,List.forall_mem_cons.2 ⟨jhn G hG,(fun _ h=>by cases h)⟩⟩
def qu9:q0b:=[]
theorem jea:drB qu9 (q00 Tryz.f134)=true:=by kernel_rfl
theorem jbj (n:Nat) : ∀a,(q8x n).F a=main Tryz.prog 20 (qsy n) (qo8 n) qu9 (q00 Tryz.f134) [.tmp 2] (q8x n).args (q8x n).res a:=by intro a;kernel_rfl
theorem qwg (n:Nat):q0g Inv Tryz.prog (q8x n):=fun G hG=>⟨⟨by kernel_rfl,fun a r h=>q04 (c:=q00 Tryz.f134) Tryz.func134 (by kernel_rfl) (by kernel_rfl) (Nat.le_of_ble_eq_true (by kernel_rfl)) hG.st (by kernel_rfl) (rs:=[.tmp 2]) (by kernel_rfl) (qyt n hG) (lts:=qo8 n) (fun F hF hFG=>have hK:Know Inv F.G:=hFG ▸ hG;(q03 fun j L h1 h2 h3=>absurd h2 (Nat.not_lt.2 (Nat.le_trans (by decide +kernel) h1)))) jea ((jbj n a).symm.trans h)⟩,rfl⟩
end Go.Proofs.YtapfankgdkdkgaaGreatDoor.AM
namespace Go.Proofs.YtapfankgdkdkgaaGreatDoor.AM
open Go.RowKit
set_option maxRecDepth 20000
def qum (n:Nat):List LC:=[]
def qpu (n:Nat) (a1:Int):Option (Bool) :=
 (bif decide (97<=a1) then (bif decide (a1<=122) then (bif decide (a1<=122) then some true else (bif decide (a1=45) then some true else (bif decide (a1=95) then some true else some (decide (a1=46))))) else (bif decide (65<=a1) then (bif decide (a1<=90) then (bif decide (a1<=90) then some true else (bif decide (a1=45) then some true else (bif decide (a1=95) then some true else some (decide (a1=46))))) else (bif decide (48<=a1) then (bif decide (a1<=57) then some true else (bif decide (a1=45) then some true else (bif decide (a1=95) then some true else some (decide (a1=46))))) else (bif decide (a1=45) then some true else (bif decide (a1=95) then some true else some (decide (a1=46)))))) else (bif decide (48<=a1) then (bif decide (a1<=57) then some true else (bif decide (a1=45) then some true else (bif decide (a1=95) then some true else some (decide (a1=46))))) else (bif decide (a1=45) then some true else (bif decide (a1=95) then some true else some (decide (a1=46))))))) else (bif decide (65<=a1) then (bif decide (a1<=90) then (bif decide (a1<=90) then some true else (bif decide (a1=45) then some true else (bif decide (a1=95) then some true else some (decide (a1=46))))) else (bif decide (48<=a1) then (bif decide (a1<=57) then some true else (bif decide (a1=45) then some true else (bif decide (a1=95) then some true else some (decide (a1=46))))) else (bif decide (a1=45) then some true else (bif decide (a1=95) then some true else some (decide (a1=46)))))) else (bif decide (48<=a1) then (bif decide (a1<=57) then some true else (bif decide (a1=45) then some true else (bif decide (a1=95) then some true else some (decide (a1=46))))) else (bif decide (a1=45) then some true else (bif decide (a1=95) then some true else some (decide (a1=46)))))))
def qc3 (n:Nat):FC:={ f:=182,args:=[.one (.c (.d (.int .u8)))],res:=.one (.c (.d .bool)),F:=fun p=>qpu n p }
def j27 (n:Nat):List FC:=[]
theorem j7f (n:Nat) {G:World->Prop} (hG:Know Inv G) : ∀c∈j27 n,q14 Tryz.prog G c/\q0c c.args=true:=(fun _ h=>by cases h)
def j3r:q0b:=[]
theorem jhm:drB j3r (q00 Tryz.f182)=true:=by kernel_rfl
theorem jii (n:Nat) : ∀a,(qc3 n).F a=main Tryz.prog 32 (j27 n) (qum n) j3r (q00 Tryz.f182) [.tmp 2] (qc3 n).args (qc3 n).res a:=by intro a;kernel_rfl
theorem jgn (n:Nat):q0g Inv Tryz.prog (qc3 n):=fun G hG=>⟨⟨by kernel_rfl,fun a r h=>q04 (c:=q00 Tryz.f182) Tryz.func182 (by kernel_rfl) (by kernel_rfl) (Nat.le_of_ble_eq_true (by kernel_rfl)) hG.st (by kernel_rfl) (rs:=[.tmp 2]) (by kernel_rfl) (j7f n hG) (lts:=qum n) (fun F hF hFG=>have hK:Know Inv F.G:=hFG ▸ hG;(q03 fun j L h1 h2 h3=>absurd h2 (Nat.not_lt.2 (Nat.le_trans (by decide +kernel) h1)))) jhm ((jii n a).symm.trans h)⟩,rfl⟩
@[reducible] def qdf:SSt:=⟨[(0,.one (.c (.d .str))),(15,.one (.c (.d (.int .i64)))),(16,.one (.c (.d (.int .i64))))],[],[]⟩
@[reducible] def q6z:List (Exit×SSt):=[(.ret,⟨[(2,.one (.c (.d .bool)))],[],[]⟩),(.exit 0,⟨[],[],[]⟩)]
def qpw (n:Nat) (rec:(Yy)->Int->Int->Option Z5) (a1:Yy) (a2:Int) (a3:Int):Option Z5 :=
 (bif decide (a3<a2) then (sAt a1 a3).bind fun c1=>(qpu n c1).bind fun r2=>(bif !r2 then some (Sum.inl ((false,()),((),()))) else q0h (IntKind.wrap .i64 (a3+1)) fun n3=>rec a1 a2 n3) else some (Sum.inr (((),((),())))))
def qs2 (n:Nat) (rec:pSt qdf->Option (q1e q6z)) (p:pSt qdf):Option (q1e q6z):=qpw n (fun a1 a2 a3=>rec ((a1,(a2,(a3,()))),((),()))) p.1.1 p.1.2.1 p.1.2.2.1
def q77 (n m:Nat) (a1:Yy) (a2:Int) (a3:Int):Option Z5:=q1n (qs2 n) m ((a1,(a2,(a3,()))),((),()))
theorem qg5 (n m:Nat) (a1 a2 a3):q77 n (m+1) a1 a2 a3=qpw n (fun a1 a2 a3=>q77 n m a1 a2 a3) a1 a2 a3:=rfl
def j3f (n:Nat):LC:={ sh:=qdf,outs:=q6z,F:=q1n (qs2 n) n }
def qkr (n:Nat):List LC:=[j3f n]
def qzi (n:Nat) (a1:Yy):Option (Bool) :=
 (bif decide (a1=([]:Yy)) then some false else (bif decide (a1=([46]:Yy)) then some false else (bif decide (a1=([46,46]:Yy)) then some false else (q77 n n a1 (a1.length:Int) (0:Int)).bind fun o4=>Sum.elim (fun (q5:(Bool×Unit)×Unit×Unit)=>some q5.1.1) (fun (q6:(Unit)×Unit×Unit)=>some true) o4)))
def qh7 (n:Nat):FC:={ f:=154,args:=[.one (.c (.d .str))],res:=.one (.c (.d .bool)),F:=fun p=>qzi n p }
def qqz (n:Nat):List FC:=[qc3 n]
theorem qnv (n:Nat) {G:World->Prop} (hG:Know Inv G) : ∀c∈qqz n,q14 Tryz.prog G c/\q0c c.args=true:=List.forall_mem_cons.2 ⟨jgn n G hG,(fun _ h=>by cases h)⟩
def qq1:q0b:=[]
theorem j3l:drB qq1 (q00 Tryz.f154)=true:=by kernel_rfl
theorem jdy (n:Nat) : ∀rec p,qs2 n rec p=round Tryz.prog 25 (qqz n) (qkr n) qq1 1 qdf q6z (q05 0 0 (q00 Tryz.f154)) rec p:=by intro rec p;kernel_rfl
theorem j69 (n:Nat) {F:Fr} (hF:F.n=25) (hK:Know Inv F.G):qne Tryz.prog F (j3f n) (q05 0 0 (q00 Tryz.f154)) :=
 q1w hF (by kernel_rfl) (qnv n hK) (jdy n) (fuel:=n) (fun _=>rfl) (q03 fun j L h1 h2 h3=>absurd h2 (Nat.not_lt.2 (Nat.le_trans (by decide +kernel) h1))) (q3i j3l)
theorem jfw (n:Nat) : ∀a,(qh7 n).F a=main Tryz.prog 25 (qqz n) (qkr n) qq1 (q00 Tryz.f154) [.tmp 2] (qh7 n).args (qh7 n).res a:=by intro a;kernel_rfl
theorem jh9 (n:Nat):q0g Inv Tryz.prog (qh7 n):=fun G hG=>⟨⟨by kernel_rfl,fun a r h=>q04 (c:=q00 Tryz.f154) Tryz.func154 (by kernel_rfl) (by kernel_rfl) (Nat.le_of_ble_eq_true (by kernel_rfl)) hG.st (by kernel_rfl) (rs:=[.tmp 2]) (by kernel_rfl) (qnv n hG) (lts:=qkr n) (fun F hF hFG=>have hK:Know Inv F.G:=hFG ▸ hG;(q03 (c:=(q00 Tryz.f154)) (fun j L h1 h2 h3=>by
  have h2':j<1:=Nat.lt_of_lt_of_le h2 (by decide +kernel)
  match j,h1,h2',h3 with
  | 0,_,_,h3=>obtain rfl:=Option.some.inj h3;exact (show q05 0 0 (q00 Tryz.f154)=q05 0 0 (q00 Tryz.f154) by kernel_rfl) ▸ j69 n hF hK
  | j+1,_,h2',_=>exact absurd h2' (by omega)))) j3l ((jfw n a).symm.trans h)⟩,rfl⟩
end Go.Proofs.YtapfankgdkdkgaaGreatDoor.AM
namespace Go.Proofs.YtapfankgdkdkgaaGreatDoor.AM
open Go.RowKit
theorem j7b (n:Nat) (c:UInt8):qpu n ((c.toNat:Nat):Int)=some (qcf c):=by
 have h : ∀k:Fin 256,qpu 0 ((k.val:Nat):Int)=some (qcf (UInt8.ofNat k.val)):=by decide +kernel
 have h1:=h ⟨c.toNat,c.toNat_lt⟩
 have e:UInt8.ofNat c.toNat=c:=by simp
 rw [e] at h1
 exact h1
theorem qp9 (n:Nat) (s:Yy) (hL:s.length<=1000000) : ∀m j:Nat,j<=s.length->s.length - j<m->q77 n m s ((s.length:Nat):Int) (j:Int)=some (if (s.drop j).all qcf=true then Sum.inr ((),((),())) else Sum.inl ((false,()),((),())))
 | 0,j,_,h=>absurd h (Nat.not_lt_zero _)
 | m+1,j,hj,h=>by
  rw [qg5]
  unfold qpw
  by_cases c0:j<s.length
  ·have c0':((j:Nat):Int)<((s.length:Nat):Int):=by omega
   have ih:=qp9 n s hL m (j+1) (by omega) (by omega)
   have hd:s.drop j=s[j]::s.drop (j+1):=(List.drop_eq_getElem_cons c0)
   simp only [c0',decide_true,cond_true,qcn c0,Option.bind_some,j7b,q0h,q1f (show j<4611686018427387904 by omega),ih,hd,List.all_cons]
   cases qcf s[j]<;>simp
  ·have c0' : ¬ ((j:Nat):Int)<((s.length:Nat):Int):=by omega
   have:s.drop j = []:=List.drop_eq_nil_of_le (by omega)
   simp [c0',this]
theorem j7k (n:Nat) (s:Yy) (hL:s.length<=1000000) (hn:s.length<n):qzi n s=some (qe3 s):=by
 unfold qzi qe3
 have:=qp9 n s hL n 0 (Nat.zero_le _) (by omega)
 rw [show ((0:Nat):Int)=(0:Int) from rfl] at this
 rw [this,List.drop_zero]
 cases decide (s = [])<;>cases decide (s = [46])<;>cases decide (s = [46,46])<;>cases s.all qcf<;>rfl
end Go.Proofs.YtapfankgdkdkgaaGreatDoor.AM
namespace Go.Proofs.YtapfankgdkdkgaaGreatDoor.AM
open Go.RowKit
theorem qrs {n:Int} (h:0<=n/\n<=999999999):(Lib.itoa n).length<=9:=by
 rw [q3g h.1];exact qme 8 n.toNat (by omega)
theorem qvu (s:Yy):(q1c s).length<=s.length:=by
 unfold q1c;split
 ·rw [List.length_drop];omega
 ·exact Nat.le_refl _
end Go.Proofs.YtapfankgdkdkgaaGreatDoor.AM
namespace Go.Proofs.YtapfankgdkdkgaaGreatDoor.AM
open Go.RowKit
theorem q8v {s t:Yy} (h:s.length+t.length<=9223372036854775807):q9w s t=some (s++t):=if_pos h
theorem qb1 (n m:Nat) (a1 a2 a3 i i' a5 a6 a7 x:Int) (a8 a9:Yy) (hx:q2g ([a1,a2,a3]:List Int) i=some x) (hi:i<3) (hw:IntKind.wrap .i64 (i+1)=i') :
  q49 n (m+1) a1 a2 a3 i a5 a6 a7 a8 a9=if jfd x=true then q49 n m a1 a2 a3 i' a5 a6 a7 a8 a9 else some (Sum.inl ((false,()),((),()))):=by
 rw [q6s]
 unfold qcx jfd
 simp only [hi,decide_true,cond_true,hx,Option.bind_some,q0h,hw]
 by_cases h1:x<0
 ·have : ¬ (0:Int)<=x:=by omega
  simp [h1,this]
 ·have h1':(0:Int)<=x:=by omega
  by_cases h2:999999999<x
  ·have : ¬ x<=999999999:=by omega
   simp [h1,h2,this]
  ·have:x<=999999999:=by omega
   simp [h1,h2,h1',this]
theorem q3l (n:Nat) (v:VD) (hn:4<=n):q4i n v=some (q1g v):=by
 obtain ⟨k,rfl⟩ : ∃ k,n=k+1+1+1+1:=⟨n - 4,by omega⟩
 obtain ⟨a,b,c,p,q⟩:=v
 unfold q4i
 rw [qb1 _ _ a b c 0 1 _ _ _ a _ _ rfl (by decide) rfl,qb1 _ _ a b c 1 2 _ _ _ b _ _ rfl (by decide) rfl,qb1 _ _ a b c 2 3 _ _ _ c _ _ rfl (by decide) rfl,q6s]
 unfold qcx q1g qhn qew
 dsimp only
 cases jfd a with
 | false=>rfl
 | true=>cases jfd b with
  | false=>rfl
  | true=>cases jfd c with
   | false=>rfl
   | true =>
    simp only [if_true,Bool.true_and,show ¬ (3:Int)<3 from by decide,decide_false,cond_false,Option.bind_some,Sum.elim_inr]
    cases q50 q6a p<;>cases q50 q2v q<;>rfl
theorem qte (n:Nat) (s:Yy) (hs:s.length<=1000000):q5x n s [118]=some (q1c s):=by
 unfold q5x q7s q16 q1c
 cases s with
 | nil=>rfl
 | cons b r =>
  have h1:((List.length ([118]:Yy):Nat):Int)<=((List.length (b::r):Nat):Int):=by simp;omega
  have h2:q20 (b::r) (0:Int) ((List.length ([118]:Yy):Nat):Int)=some [b]:=sub_zero (b:=1) (by simp)
  have h3:q20 (b::r) ((List.length ([118]:Yy):Nat):Int) ((List.length (b::r):Nat):Int)=some r:=by
   have:=sub_le (l:=b::r) (a:=1) (b:=(b::r).length) (by simp) (Nat.le_refl _)
   rw [show ((List.length ([118]:Yy):Nat):Int)=((1:Nat):Int) from rfl,this]
   simp
  simp only [h1,decide_true,cond_true,h2,Option.bind_some,List.head?_cons,Option.some.injEq,List.drop_succ_cons,List.drop_zero]
  by_cases hb:b=118
  ·simp only [hb,decide_true,cond_true,if_true] at h3 ⊢
   rw [h3];rfl
  ·have : ¬ [b]=([118]:Yy):=fun h=>hb (by simpa using h)
   simp [this,hb]
theorem qk5 {n:Int} (h:0<=n/\n<=999999999):qj6 n=some (Lib.itoa n):=if_pos ⟨by omega,by omega⟩
end Go.Proofs.YtapfankgdkdkgaaGreatDoor.AM
namespace Go.Proofs.YtapfankgdkdkgaaGreatDoor.AM
open Go.RowKit
theorem qqn (s:Yy) (j:Nat) (h:j<s.length):(s.take (j+1)).reverse=s[j]::(s.take j).reverse:=by
 rw [List.take_succ_eq_append_getElem h];simp
theorem qob (n:Nat) (c:UInt8) (s:Yy) (hL:s.length<=1000000) : ∀m j:Nat,j<=s.length->j<m->q6v n m s ((c.toNat:Nat):Int) ((j:Int) - 1)=some (if qlu c (s.take j).reverse = -1 then Sum.inr ((),((),())) else Sum.inl ((qlu c (s.take j).reverse,()),((),())))
 | 0,j,_,h=>absurd h (Nat.not_lt_zero _)
 | m+1,0,_,_=>by
  rw [q81]
  unfold qgn
  simp [qlu]
 | m+1,j+1,hj,h=>by
  rw [q81]
  unfold qgn
  have e1:((j+1:Nat):Int) - 1=((j:Nat):Int):=by omega
  have ih:=qob n c s hL m j (by omega) (by omega)
  have w1:IntKind.wrap .i64 (((j:Nat):Int) - 1)=((j:Nat):Int) - 1:=wrap64 (by omega) (by omega)
  have c0:(0:Int)<=((j:Nat):Int):=by omega
  have d1:decide (((s[j].toNat:Nat):Int)=((c.toNat:Nat):Int))=decide (s[j]=c):=decide_eq_decide.2 ⟨fun h=>UInt8.toNat_inj.1 (by omega),fun h=>by rw [h]⟩
  rw [e1]
  simp only [c0,decide_true,cond_true,qcn (show j<s.length by omega),Option.bind_some,d1,q0h,w1,ih,qqn s j (by omega),qlu]
  by_cases h0:s[j]=c
  ·have : ¬ (((s.take j).reverse.length:Nat):Int) = -1:=by omega
   have l1:(s.take j).reverse.length=j:=by simp;omega
   simp only [h0,decide_true,cond_true,if_true,this,if_false,l1]
   rw [if_neg (by omega)]
  ·simp [h0]
theorem j76 (n:Nat) (c:UInt8) (s:Yy) (hL:s.length<=1000000) (hn:s.length<n):qku n s ((c.toNat:Nat):Int)=some (qad c s):=by
 unfold qku
 have:=qob n c s hL n s.length (Nat.le_refl _) hn
 have w1:IntKind.wrap .i64 (((s.length:Nat):Int) - 1)=((s.length:Nat):Int) - 1:=wrap64 (by omega) (by omega)
 simp only [q0h,w1,this,List.take_length]
 unfold qad
 by_cases h:qlu c s.reverse = -1
 ·simp [h]
 ·simp [h]
theorem qny (n:Nat) (s:Yy) (hL:s.length<=1000000) (hn:s.length<n):qpv n s (47:Int)=some (qad 47 s):=by
 unfold qpv
 rw [show (47:Int)=(((47:UInt8).toNat:Nat):Int) from rfl,j76 n 47 s hL hn];rfl
theorem qzn (n:Nat) (s:Yy) (hs:s.length<=1000000):q7y n s [118]=some (if s.head? = some 118 then (s.drop 1,true) else (s,false)):=by
 unfold q7y q92 q16
 cases s with
 | nil=>rfl
 | cons b r =>
  have h1:((List.length ([118]:Yy):Nat):Int)<=((List.length (b::r):Nat):Int):=by simp;omega
  have h2:q20 (b::r) (0:Int) ((List.length ([118]:Yy):Nat):Int)=some [b]:=sub_zero (b:=1) (by simp)
  have h3:q20 (b::r) ((List.length ([118]:Yy):Nat):Int) ((List.length (b::r):Nat):Int)=some r:=by
   have:=sub_le (l:=b::r) (a:=1) (b:=(b::r).length) (by simp) (Nat.le_refl _)
   rw [show ((List.length ([118]:Yy):Nat):Int)=((1:Nat):Int) from rfl,this]
   simp
  simp only [h1,decide_true,cond_true,h2,Option.bind_some,List.head?_cons,Option.some.injEq,List.drop_succ_cons,List.drop_zero]
  by_cases hb:b=118
  ·simp only [hb,decide_true,cond_true,if_true,Bool.not_true,cond_false] at h3 ⊢
   rw [h3];rfl
  ·have : ¬ [b]=([118]:Yy):=fun h=>hb (by simpa using h)
   simp [this,hb]
theorem qlv (n:Nat) (s:Yy) (hs:s.length<=1000000):qbx n s=some (q3z s):=by
 unfold qbx q3z qc5
 rw [qzn n s hs]
 by_cases h:s.head? = some 118
 ·have hl:(s.drop 1).length<=1000000:=by rw [List.length_drop];omega
  have ht:qkw (s.drop 1) j6y=some (Lib.trimS (s.drop 1) j6y):=if_pos ⟨rfl,hl⟩
  simp only [h,if_true,Option.bind_some,cond_true,ht,jhk,decide_true,Bool.true_and]
  cases decide (s.drop 1 = [])<;>cases (s.drop 1).all q29<;>rfl
 ·simp [h]
end Go.Proofs.YtapfankgdkdkgaaGreatDoor.AM
namespace Go.Proofs
open Go.RowKit Go.Shelf Go.Lib
attribute [local go_sem] Oper.semAt_some
namespace YtapfankgdkdkgaaGreatDoor.AM
theorem jf3 (x:List UInt8) (w:World) (hI:Inv w) (hx:x.length<=1000000):Calls Tryz.prog 154 #[.string (ba x)] w fun e w'=>e = .returned (.bool (qe3 x))/\Below w.heap.size w w':=by
 have h:=(jh9 1000001 Inv q79).1.2 x (qe3 x) (j7k 1000001 x (by omega) (by omega))
 refine (h (fun _ _=>False) w #[.string (ba x)] hI (fun b o h=>h.elim) ⟨q06 _,trivial⟩).mono ?_
 rintro e w' ⟨v,Pc,rfl,hb,_,_,hv⟩
 have hv':v = .bool (qe3 x):=q09 hv
 rw [hv']
 exact ⟨rfl,hb⟩
set_option maxHeartbeats 2000000 in
theorem j13 (s:List UInt8) (w:World) (hI:Inv w):Calls Tryz.prog 119 #[.string (ba s)] w fun e w'=>e = .returned (.bool (q5b s))/\Below w.heap.size w w':=by
 refine (callsIn_wide (n:=9)).1 ?_
 refine callsIn_of_wp_marks Tryz.func119 rfl trivial ?_ rfl
 simp only [Tryz.ntmps119,List.size_toArray,List.length_cons,List.length_nil,Nat.reduceAdd,Nat.reduceSub,Array.replicate_succ,Array.replicate_zero,List.push_toArray,List.append_toArray,List.nil_append,List.cons_append]
 have hsz:(ba s).size=s.length:=q2k s
 by_cases h2:s.length<=60
 ·skip
  gi_wp2_with (refine ⟨trivial,?_⟩;gi_at_call 136;refine (callsIn_wide.2 (q3q _ _ _)).mono ?_;rintro e w' ⟨rfl,rfl⟩)
  obtain ⟨W0,hW0,hs0,hb0,g0,g1,g2,g3⟩:=four w (Obj.cells #[Value.bool false] 4) (Obj.cells #[Value.string (ba s)] 9) (Obj.cells #[Value.string { data:=#[47] }] 9) (Obj.cells #[Value.int IntKind.i64 0] 3)
  rw [hW0]
  clear hW0
  obtain ⟨c1,f1⟩:=q0m g0
  obtain ⟨c2,f2⟩:=q0m g1
  obtain ⟨c3,f3⟩:=q0m g2
  obtain ⟨c4,f4⟩:=q0m g3
  refine range_split (n:=9) (by omega) 47 (w.heap.size+1) (w.heap.size+1+1) (w.heap.size+1+2) s (by omega) rfl ⟨c2,f2⟩
   (Rng (.string (ba [47])) (w.heap.size+1+1) w.heap.size (w.heap.size+1+1) (w.heap.size+1+2) 47 w qe3) (RngX w.heap.size w qe3) (qsf (by omega)) (qrd (by omega))
   (fun pre W h=>⟨h.cP,h.cC,(hI.below h.below).maxLen⟩) (fun pre W v h=>qrm v h (by omega) (by omega) (by omega) (by omega) (by omega)) ⟨c3,c1,f1,c3,c4,hb0,rfl⟩
   (fun x=>{ tmps:=#[.string (ba s),undef,.pointer (some ⟨w.heap.size,0,none⟩),.string (ba x),.string (ba s),.int .i64 s.length,.bool (decide ((60:Int)<s.length)),.string (ba s),.func (.func 200) #[] #[.pointer (some ⟨w.heap.size+1+1,0,none⟩),.pointer (some ⟨w.heap.size+1,0,none⟩),.pointer (some ⟨w.heap.size+1+2,0,none⟩)],.string (ba x),undef,undef,undef],defers:=[] }) ?assign ?body ?done ?stop
  case assign =>
   intro l x W K hK
   gi_wp2
   exact hK
  case body =>
   intro l pre x r W hi hL hx
   have k1:=hi.res
   have k2:=hi.frz
   have hc:=jf3 x W (hI.below hi.below) (by omega)
   cases hpx:qe3 x with
   | true =>
    rw [hpx] at hc
    gi_wp2_with (refine ⟨trivial,?_⟩;gi_at_call 154;refine (CallsIn.inRound l (callsIn_wide.2 hc)).mono ?_;rintro e w' ⟨rfl,hb'⟩)
    exact ⟨q25 hb',qbl hi hb' (by simp [hpx]),q9n hL hb'⟩
   | false =>
    rw [hpx] at hc
    gi_wp2_with (refine ⟨trivial,?_⟩;gi_at_call 154;refine (CallsIn.inRound l (callsIn_wide.2 hc)).mono ?_;rintro e w' ⟨rfl,hb'⟩;have k3:=q2c hb' hi.res;have k4:=(q2y hb' hi.res).trans hi.frz)
    exact ⟨(q25 hb').trans (KeepsOthers.setCell _ _ _),World.cell?_setCell_same' _ _ _ (by rw [k3];rfl),(hi.below.trans (hb'.mono hi.below.size)).setCell (by simp) _,by simp [hpx]⟩
  case done =>
   intro D W hD hi hK
   have k1:=hi.res
   have k2:=hi.frz
   gi_wp2
   have hK':=(KeepsOthers.setCell W ⟨w.heap.size,0,none⟩ (.bool true)).same D _ hK rfl
   have hW':Below w.heap.size w (W.setCell ⟨w.heap.size,0,none⟩ (.bool true)):=hi.below.setCell (by simp) _
   have k5:(W.setCell ⟨w.heap.size,0,none⟩ (.bool true)).cell? ⟨w.heap.size,0,none⟩=some (.bool true):=World.cell?_setCell_same' _ _ _ (by rw [k1];rfl)
   generalize W.setCell ⟨w.heap.size,0,none⟩ (.bool true)=W2 at hK' hW' k5
   refine ⟨by simp,.inl ⟨_,_,rfl,run_takeDeferred hK',?_⟩⟩
   have hg:=grownBy_putObj' W2 D (.deferred none)
   refine ⟨_,q2b (b:=w.heap.size) (v:=.bool true) rfl rfl hag (cell_kept k5 hg (fun r e=>by cases e;exact ⟨_,hK',rfl⟩)),?_,?_⟩
   ·have ha:=hi.all
    unfold q5b;simp [h2,ha]
   ·exact hW'.grown hg hW'.size (fun k e=>by cases e;omega)
  case stop =>
   intro D pre x t W hD hsp hi hK
   refine ⟨by simp,.inl ⟨_,_,rfl,run_takeDeferred hK,?_⟩⟩
   have hg:=grownBy_putObj' W D (.deferred none)
   refine ⟨_,q2b (b:=w.heap.size) (v:=.bool false) rfl rfl hag (cell_kept hi.res hg (fun r e=>by cases e;exact ⟨_,hK,rfl⟩)),?_,?_⟩
   ·have ha:=j3k hsp hi.no
    unfold q5b;simp [ha]
   ·exact hi.below.grown hg hi.below.size (fun k e=>by cases e;omega)
 ·gi_wp2
  refine ⟨_,q2b (b:=w.heap.size) (v:=.bool false) rfl rfl hag (by simp),?_,?_⟩
  ·unfold q5b;simp [h2]
  ·exact (Below.refl _ w).alloc (Nat.le_refl _) _
def qi0 (s:List UInt8):Option Bool:=some (q5b s)
def qqm:FC:={ f:=119,args:=[qp8],res:=jgl,F:=fun p=>qi0 p }
theorem j2c:q0g Inv Tryz.prog qqm:=fun G hG=>⟨⟨by kernel_rfl,fun (s:List UInt8) r h=>by
 have hr:q5b s=r:=Option.some.inj h
 intro Pc w vs hg hlt hv
 obtain ⟨l⟩:=vs
 match l,hv with
 | [x],⟨h1,_⟩ =>
  obtain rfl:x = .string (ba s):=q09 h1
  refine (j13 s w (hG.im w hg)).mono ?_
  rintro e w' ⟨rfl,hb⟩
  subst hr
  exact q3p rfl hb (q06 _)⟩,rfl⟩
end YtapfankgdkdkgaaGreatDoor.AM
end Go.Proofs
namespace Go.Proofs
open Go.RowKit Go.Shelf Go.Lib
attribute [local go_sem] Oper.semAt_some
namespace YtapfankgdkdkgaaGreatDoor.AM
theorem jbt (x:List UInt8) (w:World) (hI:Inv w) (hx:x.length<=1000000):Calls Tryz.prog 134 #[.string (ba x)] w fun e w'=>e = .returned (.bool (q3z x))/\Below w.heap.size w w':=by
 have h:=(qwg 1000001 Inv q79).1.2 x (q3z x) (qlv 1000001 x (by omega))
 refine (h (fun _ _=>False) w #[.string (ba x)] hI (fun b o h=>h.elim) ⟨q06 _,trivial⟩).mono ?_
 rintro e w' ⟨v,Pc,rfl,hb,_,_,hv⟩
 have hv':v = .bool (q3z x):=q09 hv
 rw [hv']
 exact ⟨rfl,hb⟩
set_option maxHeartbeats 2000000 in
theorem j6j (s:List UInt8) (w:World) (hI:Inv w) (h2:s.length<=1000000):Calls Tryz.prog 133 #[.string (ba s)] w fun e w'=>e = .returned (.bool (anyS s))/\Below w.heap.size w w':=by
 refine (callsIn_wide (n:=9)).1 ?_
 refine callsIn_of_wp_marks Tryz.func133 rfl trivial ?_ rfl
 simp only [Tryz.ntmps133,List.size_toArray,List.length_cons,List.length_nil,Nat.reduceAdd,Nat.reduceSub,Array.replicate_succ,Array.replicate_zero,List.push_toArray,List.append_toArray,List.nil_append,List.cons_append]
 have hsz:(ba s).size=s.length:=q2k s
 have key:anyS s = !((spl 47 [] s).all fun x=>!q3z x):=by unfold anyS;rw [List.any_eq_not_all_not]
 ·skip
  gi_wp2_with (refine ⟨trivial,?_⟩;gi_at_call 136;refine (callsIn_wide.2 (q3q _ _ _)).mono ?_;rintro e w' ⟨rfl,rfl⟩)
  obtain ⟨W0,hW0,hs0,hb0,g0,g1,g2,g3⟩:=four w (Obj.cells #[Value.bool false] 4) (Obj.cells #[Value.string (ba s)] 9) (Obj.cells #[Value.string { data:=#[47] }] 9) (Obj.cells #[Value.int IntKind.i64 0] 3)
  rw [hW0]
  clear hW0
  obtain ⟨c1,f1⟩:=q0m g0
  obtain ⟨c2,f2⟩:=q0m g1
  obtain ⟨c3,f3⟩:=q0m g2
  obtain ⟨c4,f4⟩:=q0m g3
  refine range_split (n:=9) (by omega) 47 (w.heap.size+1) (w.heap.size+1+1) (w.heap.size+1+2) s (by omega) rfl ⟨c2,f2⟩
   (Rng (.string (ba [47])) (w.heap.size+1+1) w.heap.size (w.heap.size+1+1) (w.heap.size+1+2) 47 w (fun x=>!q3z x)) (RngY w.heap.size w (fun x=>!q3z x)) (qsf (by omega)) (jgw (by omega))
   (fun pre W h=>⟨h.cP,h.cC,(hI.below h.below).maxLen⟩) (fun pre W v h=>qrm v h (by omega) (by omega) (by omega) (by omega) (by omega)) ⟨c3,c1,f1,c3,c4,hb0,rfl⟩
   (fun x=>{ tmps:=#[.string (ba s),undef,.pointer (some ⟨w.heap.size,0,none⟩),.string (ba x),.string (ba s),.func (.func 200) #[] #[.pointer (some ⟨w.heap.size+1+1,0,none⟩),.pointer (some ⟨w.heap.size+1,0,none⟩),.pointer (some ⟨w.heap.size+1+2,0,none⟩)],.string (ba x),undef,undef],defers:=[] }) ?assign ?body ?done ?stop
  case assign =>
   intro l x W K hK
   gi_wp2
   exact hK
  case body =>
   intro l pre x r W hi hL hx
   have k1:=hi.res
   have k2:=hi.frz
   have hc:=jbt x W (hI.below hi.below) (by omega)
   cases hpx:q3z x with
   | false =>
    rw [hpx] at hc
    gi_wp2_with (refine ⟨trivial,?_⟩;gi_at_call 134;refine (CallsIn.inRound l (callsIn_wide.2 hc)).mono ?_;rintro e w' ⟨rfl,hb'⟩)
    exact ⟨q25 hb',qbl hi hb' (by simp [hpx]),q9n hL hb'⟩
   | true =>
    rw [hpx] at hc
    gi_wp2_with (refine ⟨trivial,?_⟩;gi_at_call 134;refine (CallsIn.inRound l (callsIn_wide.2 hc)).mono ?_;rintro e w' ⟨rfl,hb'⟩;have k3:=q2c hb' hi.res;have k4:=(q2y hb' hi.res).trans hi.frz)
    exact ⟨(q25 hb').trans (KeepsOthers.setCell _ _ _),World.cell?_setCell_same' _ _ _ (by rw [k3];rfl),(hi.below.trans (hb'.mono hi.below.size)).setCell (by simp) _,by simp [hpx]⟩
  case done =>
   intro D W hD hi hK
   have k1:=hi.res
   have k2:=hi.frz
   gi_wp2
   have hK':=(KeepsOthers.setCell W ⟨w.heap.size,0,none⟩ (.bool false)).same D _ hK rfl
   have hW':Below w.heap.size w (W.setCell ⟨w.heap.size,0,none⟩ (.bool false)):=hi.below.setCell (by simp) _
   have k5:(W.setCell ⟨w.heap.size,0,none⟩ (.bool false)).cell? ⟨w.heap.size,0,none⟩=some (.bool false):=World.cell?_setCell_same' _ _ _ (by rw [k1];rfl)
   generalize W.setCell ⟨w.heap.size,0,none⟩ (.bool false)=W2 at hK' hW' k5
   refine ⟨by simp,.inl ⟨_,_,rfl,run_takeDeferred hK',?_⟩⟩
   have hg:=grownBy_putObj' W2 D (.deferred none)
   refine ⟨_,q2b (b:=w.heap.size) (v:=.bool false) rfl rfl hag (cell_kept k5 hg (fun r e=>by cases e;exact ⟨_,hK',rfl⟩)),?_,?_⟩
   ·have ha:=hi.all
    rw [key,ha];rfl
   ·exact hW'.grown hg hW'.size (fun k e=>by cases e;omega)
  case stop =>
   intro D pre x t W hD hsp hi hK
   refine ⟨by simp,.inl ⟨_,_,rfl,run_takeDeferred hK,?_⟩⟩
   have hg:=grownBy_putObj' W D (.deferred none)
   refine ⟨_,q2b (b:=w.heap.size) (v:=.bool true) rfl rfl hag (cell_kept hi.res hg (fun r e=>by cases e;exact ⟨_,hK,rfl⟩)),?_,?_⟩
   ·have ha:=j3k hsp hi.no
    rw [key,ha];rfl
   ·exact hi.below.grown hg hi.below.size (fun k e=>by cases e;omega)
theorem j97 (s:List UInt8) (b:Nat):(ba s).extract 0 b=ba (s.take b):=by
 rw [<-jbf ((ba s).extract 0 b)]
 congr 1
 unfold unB ba
 rw [ByteArray.data_extract]
 simp
theorem jc2 (x:List UInt8) (w:World) (hI:Inv w) (hx:x.length<=1000000):Calls Tryz.prog 164 #[.string (ba x),.int .u8 47] w fun e w'=>e = .returned (.int .i64 (qad 47 x))/\Below w.heap.size w w':=by
 have h:=(j2z 1000001 Inv q79).1.2 (x,(47:Int)) (qad 47 x) (qny 1000001 x (by omega) (by omega))
 refine (h (fun _ _=>False) w #[.string (ba x),.int .u8 47] hI (fun b o h=>h.elim) ⟨q06 _,q06 _,trivial⟩).mono ?_
 rintro e w' ⟨v,Pc,rfl,hb,_,_,hv⟩
 have hv':v = .int .i64 (qad 47 x):=q09 hv
 rw [hv']
 exact ⟨rfl,hb⟩
theorem qzj (s:List UInt8) (w:World) (hI:Inv w) (hs:s.length<=1000000):Calls Tryz.prog 131 #[.string (ba s)] w fun e w'=>e = .returned (.string (ba (q84 s)))/\Below w.heap.size w w':=by
 have hl:=j1r 47 s
 have hsz:(ba s).size=s.length:=q2k s
 have hc:=jc2 s w hI hs
 go_enter Tryz.func131,Tryz.ntmps131
 by_cases h0:qad 47 s = -1
 ·rw [h0] at hc
  go_wp2_with (go_at_call 164;refine hc.mono ?_)
  rintro e w' ⟨rfl,hb⟩
  go_wp2
  go_ret
  refine ⟨?_,hb⟩
  show Ending.returned (.string ((ba s).extract 0 (max 0 (-1:Int)).toNat))=_
  rw [j97];unfold q84;rw [h0];rfl
 ·obtain ⟨k,hk⟩ : ∃ k:Nat,qad 47 s=(k:Int):=⟨(qad 47 s).toNat,by omega⟩
  rw [hk] at hc
  go_wp2_with (go_at_call 164;refine hc.mono ?_)
  rintro e w' ⟨rfl,hb⟩
  go_wp2
  go_ret
  refine ⟨?_,hb⟩
  show Ending.returned (.string ((ba s).extract 0 (max 0 (k:Int)).toNat))=_
  rw [j97];unfold q84;rw [hk,Int.max_eq_right (by omega)]
theorem ji5 (x:List UInt8) (w:World) (hI:Inv w) (hx:x.length<=1000000):Calls Tryz.prog 155 #[.string (ba x),.string (ba [118])] w fun e w'=>e = .returned (.string (ba (q1c x)))/\Below w.heap.size w w':=by
 have h:=(qc8 100 Inv q79).1.2 (x,([118]:List UInt8)) (q1c x) (qte 100 x (by omega))
 refine (h (fun _ _=>False) w #[.string (ba x),.string (ba [118])] hI (fun b o h=>h.elim) ⟨q06 _,q06 _,trivial⟩).mono ?_
 rintro e w' ⟨v,Pc,rfl,hb,_,_,hv⟩
 have hv':v = .string (ba (q1c x)):=q09 hv
 rw [hv']
 exact ⟨rfl,hb⟩
theorem jaj (n:Int) (w:World) (hI:Inv w) (h0:2<=n) (h1:n<=999999999):Calls Tryz.prog 76 #[.int .i64 n] w fun e w'=>e = .returned (.string (ba (Lib.itoa n)))/\Below w.heap.size w w':=by
 refine (Any.strconv_Itoa Tryz.laysItoa n (by omega) (by omega) w hI.tab).mono ?_
 rintro e w' ⟨rfl,k,os,rfl⟩
 exact ⟨rfl,Lib.below_grow _ w (Nat.le_refl _) k os⟩
set_option maxHeartbeats 2000000 in
theorem j7j (s:List UInt8) (w:World) (hI:Inv w) (hs:s.length<=1000000):Calls Tryz.prog 135 #[.string (ba s)] w fun e w'=>e = .returned (.tuple #[.int .i64 (numOf (q1c s)),.bool (j1y (q1c s))])/\Below w.heap.size w w':=by
 have hc:=ji5 s w hI hs
 have hl:=qvu s
 go_enter Tryz.func135,Tryz.ntmps135
 go_wp2_with (go_at_call 155;refine hc.mono ?_)
 rintro e w1 ⟨rfl,hb1⟩
 clear hc
 have hI1:=hI.below hb1
 have e1:(ba (q1c s)).data.toList=q1c s:=by simp [ba]
 have hl':(ba (q1c s)).size<=281474976710656:=by rw [q2k];omega
 obtain ⟨ts,ps,hsy⟩:=hI1.syn
 obtain ⟨tr,pr,hrg⟩:=hI1.rng
 cases h:Lib.atoiAll (q1c s) with
 | ok v =>
  go_wp2_with (go_at_call 167;refine (Any.strconv_Atoi_ok Tryz.laysAtoi (ba (q1c s)) (by omega) v (by rw [e1];exact h) w1).mono ?_)
  rintro e w2 ⟨rfl,hw⟩
  have hb2:Below w1.heap.size w1 w2:=by
   rcases hw with rfl|⟨t,rfl⟩
   ·exact Below.refl _ _
   ·exact Lib.bytesWorld_below _ _ _
  clear hw
  have hb:Below w.heap.size w w2:=hb1.trans (hb2.mono hb1.size)
  by_cases h2:2<=v
  ·by_cases h3:v<=999999999
   ·have hi:=jaj v w2 (hI.below hb) h2 h3
    go_wp2_with (go_at_call 76;refine hi.mono ?_)
    rintro e w3 ⟨rfl,hb3⟩
    go_wp2
    go_ret2
    refine ⟨?_,hb.trans (hb3.mono hb.size)⟩
    unfold numOf j1y;rw [h]
    simp [h2,h3,q6c]
    rw [Bool.eq_iff_iff];simp
   ·go_wp2
    go_ret2
    refine ⟨?_,hb⟩
    unfold numOf j1y;rw [h]
    simp [h2,show ¬ v<=999999999 from by omega]
  ·go_wp2
   go_ret2
   refine ⟨?_,hb⟩
   unfold numOf j1y;rw [h]
   simp [show ¬ 2<=v from by omega]
 | «syntax» =>
  go_wp2_with (go_at_call 167;refine (Any.strconv_Atoi_syntax Tryz.laysAtoi (ba (q1c s)) hl' (by rw [e1];exact h) _ w1 hsy (Or.inr ⟨_,_,rfl⟩)).mono ?_)
  rintro e w2 ⟨N,rfl,hN,hc,hb2⟩
  go_wp2
  go_ret2
  refine ⟨?_,hb1.trans (hb2.mono hb1.size)⟩
  unfold numOf j1y;rw [h];rfl
 | range =>
  go_wp2_with (go_at_call 167;refine (Any.strconv_Atoi_range Tryz.laysAtoi (ba (q1c s)) hl' (by rw [e1];exact h) _ w1 hrg (Or.inr ⟨_,_,rfl⟩)).mono ?_)
  rintro e w2 ⟨N,rfl,hN,hc,hb2⟩
  rw [e1]
  go_wp2
  go_ret2
  refine ⟨?_,hb1.trans (hb2.mono hb1.size)⟩
  unfold numOf j1y;rw [h];rfl
def qwv (s:List UInt8):Option Bool:=if s.length<=1000000 then some (anyS s) else none
def jad:FC:={ f:=133,args:=[qp8],res:=jgl,F:=fun p=>qwv p }
theorem jk7:q0g Inv Tryz.prog jad:=fun G hG=>⟨⟨by kernel_rfl,fun (s:List UInt8) r h=>by
 have h':qwv s=some r:=h
 unfold qwv at h'
 split at h'
 case isFalse=>cases h'
 rename_i hc
 have hr:anyS s=r:=Option.some.inj h'
 intro Pc w vs hg hlt hv
 obtain ⟨l⟩:=vs
 match l,hv with
 | [x],⟨h1,_⟩ =>
  obtain rfl:x = .string (ba s):=q09 h1
  refine (j6j s w (hG.im w hg) hc).mono ?_
  rintro e w' ⟨rfl,hb⟩
  subst hr
  exact q3p rfl hb (q06 _)⟩,rfl⟩
def qix (s:List UInt8):Option (List UInt8):=if s.length<=1000000 then some (q84 s) else none
def j57:FC:={ f:=131,args:=[qp8],res:=qp8,F:=fun p=>qix p }
theorem jg6:q0g Inv Tryz.prog j57:=fun G hG=>⟨⟨by kernel_rfl,fun (s:List UInt8) r h=>by
 have h':qix s=some r:=h
 unfold qix at h'
 split at h'
 case isFalse=>cases h'
 rename_i hc
 have hr:q84 s=r:=Option.some.inj h'
 intro Pc w vs hg hlt hv
 obtain ⟨l⟩:=vs
 match l,hv with
 | [x],⟨h1,_⟩ =>
  obtain rfl:x = .string (ba s):=q09 h1
  refine (qzj s w (hG.im w hg) hc).mono ?_
  rintro e w' ⟨rfl,hb⟩
  subst hr
  exact q3p rfl hb (q06 (.string (ba (q84 s))))⟩,rfl⟩
def qp2 (s:List UInt8):Option (Int×Bool):=if s.length<=1000000 then some (numOf (q1c s),j1y (q1c s)) else none
def jen:FC:={ f:=135,args:=[qp8],res:=.tup [.c (.d (.int .i64)),.c (.d .bool)],F:=fun p=>qp2 p }
theorem jn8:q0g Inv Tryz.prog jen:=fun G hG=>⟨⟨by kernel_rfl,fun (s:List UInt8) (r:Int×Bool) h=>by
 have h':qp2 s=some r:=h
 unfold qp2 at h'
 split at h'
 case isFalse=>cases h'
 rename_i hc
 have hr:(numOf (q1c s),j1y (q1c s))=r:=Option.some.inj h'
 intro Pc w vs hg hlt hv
 obtain ⟨l⟩:=vs
 match l,hv with
 | [x],⟨h1,_⟩ =>
  obtain rfl:x = .string (ba s):=q09 h1
  refine (j7j s w (hG.im w hg) hc).mono ?_
  rintro e w' ⟨rfl,hb⟩
  subst hr
  refine ⟨_,Pc,rfl,hb,fun _ _ h=>h,fun _ _ h=>Or.inl h,?_⟩
  exact ⟨#[.int .i64 (numOf (q1c s)),.bool (j1y (q1c s))],rfl,q06 (σ:=qgt) (.int .i64 (numOf (q1c s))),q06 (σ:=qgt) (.bool (j1y (q1c s))),trivial⟩⟩,rfl⟩
end YtapfankgdkdkgaaGreatDoor.AM
end Go.Proofs
