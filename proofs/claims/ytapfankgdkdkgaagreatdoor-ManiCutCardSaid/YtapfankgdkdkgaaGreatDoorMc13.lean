
import Derived.Test.YtapfankgdkdkgaaGreatDoorMc12
import Derived.Test.YtapfankgdkdkgaaGreatDoorMc9
import Derived.Test.YtapfankgdkdkgaaGreatDoorMc10
namespace Go.Proofs.YtapfankgdkdkgaaGreatDoor.AM
open Go.RowKit
set_option linter.unusedVariables false
set_option maxRecDepth 20000
@[reducible] def qc0:SSt:=⟨[(0,.one (.c (.d .str))),(1,.one (.c (.d (.int .u8)))),(5,.one (.c (.d (.int .i64))))],[],[]⟩
@[reducible] def q61:List (Exit×SSt):=[(.ret,⟨[(4,.one (.c (.d (.int .i64))))],[],[]⟩),(.exit 0,⟨[],[],[]⟩)]
def qfm (n:Nat) (rec:(List UInt8)->Int->Int->Option (((Int×(Unit))×(Unit)×(Unit))⊕((Unit)×(Unit)×(Unit)))) (a1:List UInt8) (a2:Int) (a3:Int):Option (((Int×(Unit))×(Unit)×(Unit))⊕((Unit)×(Unit)×(Unit))) :=
 (bif decide ((0:Int)<=a3) then (sAt a1 a3).bind fun (c2:Int)=>(bif decide (c2=a2) then some (Sum.inl ((a3,()),((),()))) else q0e (IntKind.wrap .i64 (a3 - (1:Int))) fun (n3:Int)=>rec a1 a2 n3) else some (Sum.inr (((),((),())))))
def qr2 (n:Nat) (rec:pSt qc0->Option (q0q q61)) (p:pSt qc0):Option (q0q q61):=qfm n (fun a1 a2 a3=>rec ((a1,(a2,(a3,()))),((),()))) p.1.1 p.1.2.1 p.1.2.2.1
def q6z (n m:Nat) (a1:List UInt8) (a2:Int) (a3:Int):Option (((Int×(Unit))×(Unit)×(Unit))⊕((Unit)×(Unit)×(Unit))):=q0t (qr2 n) m ((a1,(a2,(a3,()))),((),()))
theorem q71 (n m:Nat) (a1:List UInt8) (a2:Int) (a3:Int):q6z n (m+1) a1 a2 a3=qfm n (fun a1 a2 a3=>q6z n m a1 a2 a3) a1 a2 a3:=rfl
def j30 (n:Nat):LC:={ sh:=qc0,outs:=q61,F:=q0t (qr2 n) n }
def qif (n:Nat):List LC:=[j30 n]
def qoy (n:Nat) (a1:List UInt8) (a2:Int):Option (Int) :=
 q0e (IntKind.wrap .i64 (((List.length a1:Nat):Int) - (1:Int))) fun (n1:Int)=>(q6z n n a1 a2 n1).bind fun (o4:((Int×(Unit))×(Unit)×(Unit))⊕((Unit)×(Unit)×(Unit)))=>Sum.elim (fun (q5:(Int×(Unit))×(Unit)×(Unit))=>some q5.1.1) (fun (q6:(Unit)×(Unit)×(Unit))=>some (-1:Int)) o4
def qbl (n:Nat):FC:={ f:=80,args:=[.one (.c (.d .str)),.one (.c (.d (.int .u8)))],res:=.one (.c (.d (.int .i64))),F:=fun p=>qoy n p.1 p.2 }
def qpw (n:Nat):List FC:=[]
theorem qmx (n:Nat) {G:World->Prop} (hG:Know Inv G) : ∀c∈qpw n,q18 Tryz.prog G c/\q09 c.args=true:=(fun _ h=>by cases h)
def qpr:q08:=[]
theorem j2h:drB qpr (q00 Tryz.f80)=true:=by kernel_rfl
theorem j9n (n:Nat) : ∀rec p,qr2 n rec p=round Tryz.prog 19 (qpw n) (qif n) qpr 1 qc0 q61 (q01 0 0 (q00 Tryz.f80)) rec p:=by intro rec p;kernel_rfl
theorem j45 (n:Nat) {F:Fr} (hF:F.n=19) (hK:Know Inv F.G):qdv Tryz.prog F (j30 n) (q01 0 0 (q00 Tryz.f80)) :=
 q0x hF (by kernel_rfl) (qmx n hK) (j9n n) (fuel:=n) (fun _=>rfl) (q03 fun j L h1 h2 h3=>absurd h2 (Nat.not_lt.2 (Nat.le_trans (by decide +kernel) h1))) (q1n j2h)
theorem jeb (n:Nat) : ∀a,(qbl n).F a=main Tryz.prog 19 (qpw n) (qif n) qpr (q00 Tryz.f80) [.tmp 4] (qbl n).args (qbl n).res a:=by intro a;kernel_rfl
theorem jem (n:Nat):q0d Inv Tryz.prog (qbl n):=fun G hG=>⟨⟨by kernel_rfl,fun a r h=>q04 (c:=q00 Tryz.f80) Tryz.func80 (by kernel_rfl) (by kernel_rfl) (Nat.le_of_ble_eq_true (by kernel_rfl)) hG.st (by kernel_rfl) (rs:=[.tmp 4]) (by kernel_rfl) (qmx n hG) (lts:=qif n) (fun F hF hFG=>have hK:Know Inv F.G:=hFG ▸ hG;(q03 (c:=(q00 Tryz.f80)) (fun j L h1 h2 h3=>by
  have h2':j<1:=Nat.lt_of_lt_of_le h2 (by decide +kernel)
  match j,h1,h2',h3 with
  | 0,_,_,h3=>obtain rfl:=Option.some.inj h3;exact (show q01 0 0 (q00 Tryz.f80)=q01 0 0 (q00 Tryz.f80) by kernel_rfl) ▸ j45 n hF hK
  | j+1,_,h2',_=>exact absurd h2' (by omega)))) j2h ((jeb n a).symm.trans h)⟩,rfl⟩
def qux (n:Nat):List LC:=[]
def qrh (n:Nat) (a1:List UInt8) (a2:Int):Option (Int) :=
 (qoy n a1 a2).bind fun (r1:Int)=>some r1
def qak (n:Nat):FC:={ f:=164,args:=[.one (.c (.d .str)),.one (.c (.d (.int .u8)))],res:=.one (.c (.d (.int .i64))),F:=fun p=>qrh n p.1 p.2 }
def j0l (n:Nat):List FC:=[qbl n]
theorem j4j (n:Nat) {G:World->Prop} (hG:Know Inv G) : ∀c∈j0l n,q18 Tryz.prog G c/\q09 c.args=true:=List.forall_mem_cons.2 ⟨jem n G hG,(fun _ h=>by cases h)⟩
def j2m:q08:=[]
theorem jd7:drB j2m (q00 Tryz.f164)=true:=by kernel_rfl
theorem jfd (n:Nat) : ∀a,(qak n).F a=main Tryz.prog 8 (j0l n) (qux n) j2m (q00 Tryz.f164) [.tmp 4] (qak n).args (qak n).res a:=by intro a;kernel_rfl
theorem j1u (n:Nat):q0d Inv Tryz.prog (qak n):=fun G hG=>⟨⟨by kernel_rfl,fun a r h=>q04 (c:=q00 Tryz.f164) Tryz.func164 (by kernel_rfl) (by kernel_rfl) (Nat.le_of_ble_eq_true (by kernel_rfl)) hG.st (by kernel_rfl) (rs:=[.tmp 4]) (by kernel_rfl) (j4j n hG) (lts:=qux n) (fun F hF hFG=>have hK:Know Inv F.G:=hFG ▸ hG;(q03 fun j L h1 h2 h3=>absurd h2 (Nat.not_lt.2 (Nat.le_trans (by decide +kernel) h1)))) jd7 ((jfd n a).symm.trans h)⟩,rfl⟩
def q9e (n:Nat):List LC:=[]
def q77 (n:Nat) (a1:List UInt8) (a2:List UInt8):Option ((List UInt8)×(Bool)) :=
 (q14 n a1 a2).bind fun (r1:Bool)=>(bif !r1 then some (a1,false) else (q1x a1 ((List.length a2:Nat):Int) ((List.length a1:Nat):Int)).bind fun (s2:List UInt8)=>some (s2,true))
def q2j (n:Nat):FC:={ f:=190,args:=[.one (.c (.d .str)),.one (.c (.d .str))],res:=.tup [.c (.d .str),.c (.d .bool)],F:=fun p=>q77 n p.1 p.2 }
def qal (n:Nat):List FC:=[q0h n]
theorem qle (n:Nat) {G:World->Prop} (hG:Know Inv G) : ∀c∈qal n,q18 Tryz.prog G c/\q09 c.args=true:=List.forall_mem_cons.2 ⟨q2m n G hG,(fun _ h=>by cases h)⟩
def qbh:q08:=[]
theorem qqd:drB qbh (q00 Tryz.f190)=true:=by kernel_rfl
theorem qqa (n:Nat) : ∀a,(q2j n).F a=main Tryz.prog 15 (qal n) (q9e n) qbh (q00 Tryz.f190) [.tmp 4,.tmp 5] (q2j n).args (q2j n).res a:=by intro a;kernel_rfl
theorem qrm (n:Nat):q0d Inv Tryz.prog (q2j n):=fun G hG=>⟨⟨by kernel_rfl,fun a r h=>q04 (c:=q00 Tryz.f190) Tryz.func190 (by kernel_rfl) (by kernel_rfl) (Nat.le_of_ble_eq_true (by kernel_rfl)) hG.st (by kernel_rfl) (rs:=[.tmp 4,.tmp 5]) (by kernel_rfl) (qle n hG) (lts:=q9e n) (fun F hF hFG=>have hK:Know Inv F.G:=hFG ▸ hG;(q03 fun j L h1 h2 h3=>absurd h2 (Nat.not_lt.2 (Nat.le_trans (by decide +kernel) h1)))) qqd ((qqa n a).symm.trans h)⟩,rfl⟩
def qbk (n:Nat):List LC:=[]
def q68 (n:Nat) (a1:List UInt8) (a2:List UInt8):Option ((List UInt8)×(Bool)) :=
 (q77 n a1 a2).bind fun (r1:(List UInt8)×(Bool))=>some r1
def q3d (n:Nat):FC:={ f:=165,args:=[.one (.c (.d .str)),.one (.c (.d .str))],res:=.tup [.c (.d .str),.c (.d .bool)],F:=fun p=>q68 n p.1 p.2 }
def qf5 (n:Nat):List FC:=[q2j n]
theorem qm7 (n:Nat) {G:World->Prop} (hG:Know Inv G) : ∀c∈qf5 n,q18 Tryz.prog G c/\q09 c.args=true:=List.forall_mem_cons.2 ⟨qrm n G hG,(fun _ h=>by cases h)⟩
def qed:q08:=[]
theorem qvy:drB qed (q00 Tryz.f165)=true:=by kernel_rfl
theorem qse (n:Nat) : ∀a,(q3d n).F a=main Tryz.prog 11 (qf5 n) (qbk n) qed (q00 Tryz.f165) [.tmp 4,.tmp 5] (q3d n).args (q3d n).res a:=by intro a;kernel_rfl
theorem qtq (n:Nat):q0d Inv Tryz.prog (q3d n):=fun G hG=>⟨⟨by kernel_rfl,fun a r h=>q04 (c:=q00 Tryz.f165) Tryz.func165 (by kernel_rfl) (by kernel_rfl) (Nat.le_of_ble_eq_true (by kernel_rfl)) hG.st (by kernel_rfl) (rs:=[.tmp 4,.tmp 5]) (by kernel_rfl) (qm7 n hG) (lts:=qbk n) (fun F hF hFG=>have hK:Know Inv F.G:=hFG ▸ hG;(q03 fun j L h1 h2 h3=>absurd h2 (Nat.not_lt.2 (Nat.le_trans (by decide +kernel) h1)))) qvy ((qse n a).symm.trans h)⟩,rfl⟩
def q2k (n:Nat):List LC:=[]
def q0l (n:Nat) (a1:List UInt8) (a2:List UInt8):Option (Bool) :=
 (q14 n a1 a2).bind fun (r1:Bool)=>some r1
def q16 (n:Nat):FC:={ f:=152,args:=[.one (.c (.d .str)),.one (.c (.d .str))],res:=.one (.c (.d .bool)),F:=fun p=>q0l n p.1 p.2 }
def q3f (n:Nat):List FC:=[q0h n]
theorem q5b (n:Nat) {G:World->Prop} (hG:Know Inv G) : ∀c∈q3f n,q18 Tryz.prog G c/\q09 c.args=true:=List.forall_mem_cons.2 ⟨q2m n G hG,(fun _ h=>by cases h)⟩
def q3b:q08:=[]
theorem q7a:drB q3b (q00 Tryz.f152)=true:=by kernel_rfl
theorem q7r (n:Nat) : ∀a,(q16 n).F a=main Tryz.prog 8 (q3f n) (q2k n) q3b (q00 Tryz.f152) [.tmp 4] (q16 n).args (q16 n).res a:=by intro a;kernel_rfl
theorem qef (n:Nat):q0d Inv Tryz.prog (q16 n):=fun G hG=>⟨⟨by kernel_rfl,fun a r h=>q04 (c:=q00 Tryz.f152) Tryz.func152 (by kernel_rfl) (by kernel_rfl) (Nat.le_of_ble_eq_true (by kernel_rfl)) hG.st (by kernel_rfl) (rs:=[.tmp 4]) (by kernel_rfl) (q5b n hG) (lts:=q2k n) (fun F hF hFG=>have hK:Know Inv F.G:=hFG ▸ hG;(q03 fun j L h1 h2 h3=>absurd h2 (Nat.not_lt.2 (Nat.le_trans (by decide +kernel) h1)))) q7a ((q7r n a).symm.trans h)⟩,rfl⟩
def qoc (n:Nat):List LC:=[]
def qbu (n:Nat) (a1:List UInt8):Option (Bool) :=
 (q68 n a1 ([118]:List UInt8)).bind fun (r1:(List UInt8)×(Bool))=>(bif r1.2 then (bif !decide (r1.1=([]:List UInt8)) then (qkn r1.1 ([48,49,50,51,52,53,54,55,56,57]:List UInt8)).bind fun (r2:List UInt8)=>some (decide (r2=([]:List UInt8))) else some false) else some false)
def q87 (n:Nat):FC:={ f:=134,args:=[.one (.c (.d .str))],res:=.one (.c (.d .bool)),F:=fun p=>qbu n p }
def qwa (n:Nat):List FC:=[q3d n,j1v]
theorem qzm (n:Nat) {G:World->Prop} (hG:Know Inv G) : ∀c∈qwa n,q18 Tryz.prog G c/\q09 c.args=true:=List.forall_mem_cons.2 ⟨qtq n G hG,List.forall_mem_cons.2 ⟨jdf G hG,(fun _ h=>by cases h)⟩⟩
def qtp:q08:=[]
theorem jao:drB qtp (q00 Tryz.f134)=true:=by kernel_rfl
theorem jan (n:Nat) : ∀a,(q87 n).F a=main Tryz.prog 20 (qwa n) (qoc n) qtp (q00 Tryz.f134) [.tmp 2] (q87 n).args (q87 n).res a:=by intro a;kernel_rfl
theorem qwm (n:Nat):q0d Inv Tryz.prog (q87 n):=fun G hG=>⟨⟨by kernel_rfl,fun a r h=>q04 (c:=q00 Tryz.f134) Tryz.func134 (by kernel_rfl) (by kernel_rfl) (Nat.le_of_ble_eq_true (by kernel_rfl)) hG.st (by kernel_rfl) (rs:=[.tmp 2]) (by kernel_rfl) (qzm n hG) (lts:=qoc n) (fun F hF hFG=>have hK:Know Inv F.G:=hFG ▸ hG;(q03 fun j L h1 h2 h3=>absurd h2 (Nat.not_lt.2 (Nat.le_trans (by decide +kernel) h1)))) jao ((jan n a).symm.trans h)⟩,rfl⟩
end Go.Proofs.YtapfankgdkdkgaaGreatDoor.AM
namespace Go.Proofs.YtapfankgdkdkgaaGreatDoor.AM
open Go.RowKit
set_option linter.unusedVariables false
set_option maxRecDepth 20000
def qrx (n:Nat):List LC:=[]
def qpj (n:Nat) (a1:Int):Option (Bool) :=
 (bif decide ((97:Int)<=a1) then (bif decide (a1<=(122:Int)) then (bif decide (a1<=(122:Int)) then some true else (bif decide (a1=(45:Int)) then some true else (bif decide (a1=(95:Int)) then some true else some (decide (a1=(46:Int)))))) else (bif decide ((65:Int)<=a1) then (bif decide (a1<=(90:Int)) then (bif decide (a1<=(90:Int)) then some true else (bif decide (a1=(45:Int)) then some true else (bif decide (a1=(95:Int)) then some true else some (decide (a1=(46:Int)))))) else (bif decide ((48:Int)<=a1) then (bif decide (a1<=(57:Int)) then some true else (bif decide (a1=(45:Int)) then some true else (bif decide (a1=(95:Int)) then some true else some (decide (a1=(46:Int)))))) else (bif decide (a1=(45:Int)) then some true else (bif decide (a1=(95:Int)) then some true else some (decide (a1=(46:Int))))))) else (bif decide ((48:Int)<=a1) then (bif decide (a1<=(57:Int)) then some true else (bif decide (a1=(45:Int)) then some true else (bif decide (a1=(95:Int)) then some true else some (decide (a1=(46:Int)))))) else (bif decide (a1=(45:Int)) then some true else (bif decide (a1=(95:Int)) then some true else some (decide (a1=(46:Int)))))))) else (bif decide ((65:Int)<=a1) then (bif decide (a1<=(90:Int)) then (bif decide (a1<=(90:Int)) then some true else (bif decide (a1=(45:Int)) then some true else (bif decide (a1=(95:Int)) then some true else some (decide (a1=(46:Int)))))) else (bif decide ((48:Int)<=a1) then (bif decide (a1<=(57:Int)) then some true else (bif decide (a1=(45:Int)) then some true else (bif decide (a1=(95:Int)) then some true else some (decide (a1=(46:Int)))))) else (bif decide (a1=(45:Int)) then some true else (bif decide (a1=(95:Int)) then some true else some (decide (a1=(46:Int))))))) else (bif decide ((48:Int)<=a1) then (bif decide (a1<=(57:Int)) then some true else (bif decide (a1=(45:Int)) then some true else (bif decide (a1=(95:Int)) then some true else some (decide (a1=(46:Int)))))) else (bif decide (a1=(45:Int)) then some true else (bif decide (a1=(95:Int)) then some true else some (decide (a1=(46:Int))))))))
def qcf (n:Nat):FC:={ f:=182,args:=[.one (.c (.d (.int .u8)))],res:=.one (.c (.d .bool)),F:=fun p=>qpj n p }
def j2e (n:Nat):List FC:=[]
theorem j3z (n:Nat) {G:World->Prop} (hG:Know Inv G) : ∀c∈j2e n,q18 Tryz.prog G c/\q09 c.args=true:=(fun _ h=>by cases h)
def j27:q08:=[]
theorem jed:drB j27 (q00 Tryz.f182)=true:=by kernel_rfl
theorem jf3 (n:Nat) : ∀a,(qcf n).F a=main Tryz.prog 32 (j2e n) (qrx n) j27 (q00 Tryz.f182) [.tmp 2] (qcf n).args (qcf n).res a:=by intro a;kernel_rfl
theorem jef (n:Nat):q0d Inv Tryz.prog (qcf n):=fun G hG=>⟨⟨by kernel_rfl,fun a r h=>q04 (c:=q00 Tryz.f182) Tryz.func182 (by kernel_rfl) (by kernel_rfl) (Nat.le_of_ble_eq_true (by kernel_rfl)) hG.st (by kernel_rfl) (rs:=[.tmp 2]) (by kernel_rfl) (j3z n hG) (lts:=qrx n) (fun F hF hFG=>have hK:Know Inv F.G:=hFG ▸ hG;(q03 fun j L h1 h2 h3=>absurd h2 (Nat.not_lt.2 (Nat.le_trans (by decide +kernel) h1)))) jed ((jf3 n a).symm.trans h)⟩,rfl⟩
@[reducible] def qbi:SSt:=⟨[(0,.one (.c (.d .str))),(15,.one (.c (.d (.int .i64)))),(16,.one (.c (.d (.int .i64))))],[],[]⟩
@[reducible] def q6j:List (Exit×SSt):=[(.ret,⟨[(2,.one (.c (.d .bool)))],[],[]⟩),(.exit 0,⟨[],[],[]⟩)]
def qpd (n:Nat) (rec:(List UInt8)->Int->Int->Option (((Bool×(Unit))×(Unit)×(Unit))⊕((Unit)×(Unit)×(Unit)))) (a1:List UInt8) (a2:Int) (a3:Int):Option (((Bool×(Unit))×(Unit)×(Unit))⊕((Unit)×(Unit)×(Unit))) :=
 (bif decide (a3<a2) then (sAt a1 a3).bind fun (c1:Int)=>(qpj n c1).bind fun (r2:Bool)=>(bif !r2 then some (Sum.inl ((false,()),((),()))) else q0e (IntKind.wrap .i64 (a3+(1:Int))) fun (n3:Int)=>rec a1 a2 n3) else some (Sum.inr (((),((),())))))
def qq6 (n:Nat) (rec:pSt qbi->Option (q0q q6j)) (p:pSt qbi):Option (q0q q6j):=qpd n (fun a1 a2 a3=>rec ((a1,(a2,(a3,()))),((),()))) p.1.1 p.1.2.1 p.1.2.2.1
def q6d (n m:Nat) (a1:List UInt8) (a2:Int) (a3:Int):Option (((Bool×(Unit))×(Unit)×(Unit))⊕((Unit)×(Unit)×(Unit))):=q0t (qq6 n) m ((a1,(a2,(a3,()))),((),()))
theorem qfd (n m:Nat) (a1:List UInt8) (a2:Int) (a3:Int):q6d n (m+1) a1 a2 a3=qpd n (fun a1 a2 a3=>q6d n m a1 a2 a3) a1 a2 a3:=rfl
def j2q (n:Nat):LC:={ sh:=qbi,outs:=q6j,F:=q0t (qq6 n) n }
def ql9 (n:Nat):List LC:=[j2q n]
def qx9 (n:Nat) (a1:List UInt8):Option (Bool) :=
 (bif decide (a1=([]:List UInt8)) then some false else (bif decide (a1=([46]:List UInt8)) then some false else (bif decide (a1=([46,46]:List UInt8)) then some false else (q6d n n a1 ((List.length a1:Nat):Int) (0:Int)).bind fun (o4:((Bool×(Unit))×(Unit)×(Unit))⊕((Unit)×(Unit)×(Unit)))=>Sum.elim (fun (q5:(Bool×(Unit))×(Unit)×(Unit))=>some q5.1.1) (fun (q6:(Unit)×(Unit)×(Unit))=>some true) o4)))
def qg9 (n:Nat):FC:={ f:=154,args:=[.one (.c (.d .str))],res:=.one (.c (.d .bool)),F:=fun p=>qx9 n p }
def qpo (n:Nat):List FC:=[qcf n]
theorem qnq (n:Nat) {G:World->Prop} (hG:Know Inv G) : ∀c∈qpo n,q18 Tryz.prog G c/\q09 c.args=true:=List.forall_mem_cons.2 ⟨jef n G hG,(fun _ h=>by cases h)⟩
def qqb:q08:=[]
theorem j18:drB qqb (q00 Tryz.f154)=true:=by kernel_rfl
theorem j7n (n:Nat) : ∀rec p,qq6 n rec p=round Tryz.prog 25 (qpo n) (ql9 n) qqb 1 qbi q6j (q01 0 0 (q00 Tryz.f154)) rec p:=by intro rec p;kernel_rfl
theorem j5l (n:Nat) {F:Fr} (hF:F.n=25) (hK:Know Inv F.G):qdv Tryz.prog F (j2q n) (q01 0 0 (q00 Tryz.f154)) :=
 q0x hF (by kernel_rfl) (qnq n hK) (j7n n) (fuel:=n) (fun _=>rfl) (q03 fun j L h1 h2 h3=>absurd h2 (Nat.not_lt.2 (Nat.le_trans (by decide +kernel) h1))) (q1n j18)
theorem jdu (n:Nat) : ∀a,(qg9 n).F a=main Tryz.prog 25 (qpo n) (ql9 n) qqb (q00 Tryz.f154) [.tmp 2] (qg9 n).args (qg9 n).res a:=by intro a;kernel_rfl
theorem jdc (n:Nat):q0d Inv Tryz.prog (qg9 n):=fun G hG=>⟨⟨by kernel_rfl,fun a r h=>q04 (c:=q00 Tryz.f154) Tryz.func154 (by kernel_rfl) (by kernel_rfl) (Nat.le_of_ble_eq_true (by kernel_rfl)) hG.st (by kernel_rfl) (rs:=[.tmp 2]) (by kernel_rfl) (qnq n hG) (lts:=ql9 n) (fun F hF hFG=>have hK:Know Inv F.G:=hFG ▸ hG;(q03 (c:=(q00 Tryz.f154)) (fun j L h1 h2 h3=>by
  have h2':j<1:=Nat.lt_of_lt_of_le h2 (by decide +kernel)
  match j,h1,h2',h3 with
  | 0,_,_,h3=>obtain rfl:=Option.some.inj h3;exact (show q01 0 0 (q00 Tryz.f154)=q01 0 0 (q00 Tryz.f154) by kernel_rfl) ▸ j5l n hF hK
  | j+1,_,h2',_=>exact absurd h2' (by omega)))) j18 ((jdu n a).symm.trans h)⟩,rfl⟩
end Go.Proofs.YtapfankgdkdkgaaGreatDoor.AM
namespace Go.Proofs.YtapfankgdkdkgaaGreatDoor.AM
open Go.RowKit
set_option linter.unusedVariables false
set_option linter.unusedSimpArgs false
theorem j4w (n:Nat) (c:UInt8):qpj n ((c.toNat:Nat):Int)=some (qkf c):=by
 have h : ∀k:Fin 256,qpj 0 ((k.val:Nat):Int)=some (qkf (UInt8.ofNat k.val)):=by decide +kernel
 have h1:=h ⟨c.toNat,c.toNat_lt⟩
 have e:UInt8.ofNat c.toNat=c:=by simp
 rw [e] at h1
 exact h1
theorem qnh (n:Nat) (s:List UInt8) (hL:s.length<=1000000) : ∀m j:Nat,j<=s.length->s.length - j<m->q6d n m s ((s.length:Nat):Int) (j:Int)=some (if (s.drop j).all qkf=true then Sum.inr ((),((),())) else Sum.inl ((false,()),((),())))
 | 0,j,_,h=>absurd h (Nat.not_lt_zero _)
 | m+1,j,hj,h=>by
  rw [qfd]
  unfold qpd
  by_cases c0:j<s.length
  ·have c0':((j:Nat):Int)<((s.length:Nat):Int):=by omega
   have ih:=qnh n s hL m (j+1) (by omega) (by omega)
   have hd:s.drop j=s[j]::s.drop (j+1):=(List.drop_eq_getElem_cons c0)
   simp only [c0',decide_true,cond_true,q9d c0,Option.bind_some,j4w,q0e,q0w (show j<4611686018427387904 by omega),ih,hd,List.all_cons]
   cases qkf s[j]<;>simp
  ·have c0' : ¬ ((j:Nat):Int)<((s.length:Nat):Int):=by omega
   have:s.drop j = []:=List.drop_eq_nil_of_le (by omega)
   simp [c0',this]
theorem j4m (n:Nat) (s:List UInt8) (hL:s.length<=1000000) (hn:s.length<n):qx9 n s=some (qd5 s):=by
 unfold qx9 qd5
 have:=qnh n s hL n 0 (Nat.zero_le _) (by omega)
 rw [show ((0:Nat):Int)=(0:Int) from rfl] at this
 rw [this,List.drop_zero]
 cases decide (s = [])<;>cases decide (s = [46])<;>cases decide (s = [46,46])<;>cases s.all qkf<;>rfl
end Go.Proofs.YtapfankgdkdkgaaGreatDoor.AM
namespace Go.Proofs.YtapfankgdkdkgaaGreatDoor.AM
open Go.RowKit
set_option linter.unusedVariables false
set_option linter.unusedSimpArgs false
theorem qq3 {n:Int} (h:0<=n/\n<=999999999):(Lib.itoa n).length<=9:=by
 rw [jdd h.1];exact j7l 8 n.toNat (by omega)
theorem qty (s:List UInt8):(q19 s).length<=s.length:=by
 unfold q19;split
 ·rw [List.length_drop];omega
 ·exact Nat.le_refl _
end Go.Proofs.YtapfankgdkdkgaaGreatDoor.AM
namespace Go.Proofs.YtapfankgdkdkgaaGreatDoor.AM
open Go.RowKit
set_option linter.unusedVariables false
set_option linter.unusedSimpArgs false
theorem q83 {s t:List UInt8} (h:s.length+t.length<=9223372036854775807):qlt s t=some (s++t):=if_pos h
theorem qaa (n m:Nat) (a1 a2 a3 i i' a5 a6 a7 x:Int) (a8 a9:List UInt8) (hx:q1h ([a1,a2,a3]:List Int) i=some x) (hi:i<3) (hw:IntKind.wrap .i64 (i+1)=i') :
  q34 n (m+1) a1 a2 a3 i a5 a6 a7 a8 a9=if jej x=true then q34 n m a1 a2 a3 i' a5 a6 a7 a8 a9 else some (Sum.inl ((false,()),((),()))):=by
 rw [q5h]
 unfold qbv jej
 simp only [hi,decide_true,cond_true,hx,Option.bind_some,q0e,hw]
 by_cases h1:x<0
 ·have : ¬ (0:Int)<=x:=by omega
  simp [h1,this]
 ·have h1':(0:Int)<=x:=by omega
  by_cases h2:999999999<x
  ·have : ¬ x<=999999999:=by omega
   simp [h1,h2,this]
  ·have:x<=999999999:=by omega
   simp [h1,h2,h1',this]
theorem q4b (n:Nat) (v:VD) (hn:4<=n):q50 n v=some (q2t v):=by
 obtain ⟨k,rfl⟩ : ∃ k,n=k+1+1+1+1:=⟨n - 4,by omega⟩
 obtain ⟨a,b,c,p,q⟩:=v
 unfold q50
 rw [qaa _ _ a b c 0 1 _ _ _ a _ _ rfl (by decide) rfl,qaa _ _ a b c 1 2 _ _ _ b _ _ rfl (by decide) rfl,qaa _ _ a b c 2 3 _ _ _ c _ _ rfl (by decide) rfl,q5h]
 unfold qbv q2t qlf qcn
 dsimp only
 cases jej a with
 | false=>rfl
 | true=>cases jej b with
  | false=>rfl
  | true=>cases jej c with
   | false=>rfl
   | true =>
    simp only [if_true,Bool.true_and,show ¬ (3:Int)<3 from by decide,decide_false,cond_false,Option.bind_some,Sum.elim_inr]
    cases q5r q7z p<;>cases q5r q30 q<;>rfl
theorem qv1 (n:Nat) (s:List UInt8) (hs:s.length<=1000000):q4p n s [118]=some (q19 s):=by
 unfold q4p q63 q14 q19
 cases s with
 | nil=>rfl
 | cons b r =>
  have h1:((List.length ([118]:List UInt8):Nat):Int)<=((List.length (b::r):Nat):Int):=by simp;omega
  have h2:q1x (b::r) (0:Int) ((List.length ([118]:List UInt8):Nat):Int)=some [b]:=sub_zero (b:=1) (by simp)
  have h3:q1x (b::r) ((List.length ([118]:List UInt8):Nat):Int) ((List.length (b::r):Nat):Int)=some r:=by
   have:=sub_le (l:=b::r) (a:=1) (b:=(b::r).length) (by simp) (Nat.le_refl _)
   rw [show ((List.length ([118]:List UInt8):Nat):Int)=((1:Nat):Int) from rfl,this]
   simp
  simp only [h1,decide_true,cond_true,h2,Option.bind_some,List.head?_cons,Option.some.injEq,List.drop_succ_cons,List.drop_zero]
  by_cases hb:b=118
  ·simp only [hb,decide_true,cond_true,if_true] at h3 ⊢
   rw [h3];rfl
  ·have : ¬ [b]=([118]:List UInt8):=fun h=>hb (by simpa using h)
   simp [this,hb]
theorem qjo {n:Int} (h:0<=n/\n<=999999999):qks n=some (Lib.itoa n):=if_pos ⟨by omega,by omega⟩
end Go.Proofs.YtapfankgdkdkgaaGreatDoor.AM
namespace Go.Proofs.YtapfankgdkdkgaaGreatDoor.AM
open Go.RowKit
set_option linter.unusedVariables false
set_option linter.unusedSimpArgs false
theorem qri (s:List UInt8) (j:Nat) (h:j<s.length):(s.take (j+1)).reverse=s[j]::(s.take j).reverse:=by
 rw [List.take_succ_eq_append_getElem h];simp
theorem qmq (n:Nat) (c:UInt8) (s:List UInt8) (hL:s.length<=1000000) : ∀m j:Nat,j<=s.length->j<m->q6z n m s ((c.toNat:Nat):Int) ((j:Int) - 1)=some (if qjl c (s.take j).reverse = -1 then Sum.inr ((),((),())) else Sum.inl ((qjl c (s.take j).reverse,()),((),())))
 | 0,j,_,h=>absurd h (Nat.not_lt_zero _)
 | m+1,0,_,_=>by
  rw [q71]
  unfold qfm
  simp [qjl]
 | m+1,j+1,hj,h=>by
  rw [q71]
  unfold qfm
  have e1:((j+1:Nat):Int) - 1=((j:Nat):Int):=by omega
  have ih:=qmq n c s hL m j (by omega) (by omega)
  have w1:IntKind.wrap .i64 (((j:Nat):Int) - 1)=((j:Nat):Int) - 1:=wrap64 (by omega) (by omega)
  have c0:(0:Int)<=((j:Nat):Int):=by omega
  have d1:decide (((s[j].toNat:Nat):Int)=((c.toNat:Nat):Int))=decide (s[j]=c):=decide_eq_decide.2 ⟨fun h=>UInt8.toNat_inj.1 (by omega),fun h=>by rw [h]⟩
  rw [e1]
  simp only [c0,decide_true,cond_true,q9d (show j<s.length by omega),Option.bind_some,d1,q0e,w1,ih,qri s j (by omega),qjl]
  by_cases h0:s[j]=c
  ·have : ¬ (((s.take j).reverse.length:Nat):Int) = -1:=by omega
   have l1:(s.take j).reverse.length=j:=by simp;omega
   simp only [h0,decide_true,cond_true,if_true,this,if_false,l1]
   rw [if_neg (by omega)]
  ·simp [h0]
theorem j4r (n:Nat) (c:UInt8) (s:List UInt8) (hL:s.length<=1000000) (hn:s.length<n):qoy n s ((c.toNat:Nat):Int)=some (q9b c s):=by
 unfold qoy
 have:=qmq n c s hL n s.length (Nat.le_refl _) hn
 have w1:IntKind.wrap .i64 (((s.length:Nat):Int) - 1)=((s.length:Nat):Int) - 1:=wrap64 (by omega) (by omega)
 simp only [q0e,w1,this,List.take_length]
 unfold q9b
 by_cases h:qjl c s.reverse = -1
 ·simp [h]
 ·simp [h]
theorem qn9 (n:Nat) (s:List UInt8) (hL:s.length<=1000000) (hn:s.length<n):qrh n s (47:Int)=some (q9b 47 s):=by
 unfold qrh
 rw [show (47:Int)=(((47:UInt8).toNat:Nat):Int) from rfl,j4r n 47 s hL hn];rfl
theorem qy0 (n:Nat) (s:List UInt8) (hs:s.length<=1000000):q68 n s [118]=some (if s.head? = some 118 then (s.drop 1,true) else (s,false)):=by
 unfold q68 q77 q14
 cases s with
 | nil=>rfl
 | cons b r =>
  have h1:((List.length ([118]:List UInt8):Nat):Int)<=((List.length (b::r):Nat):Int):=by simp;omega
  have h2:q1x (b::r) (0:Int) ((List.length ([118]:List UInt8):Nat):Int)=some [b]:=sub_zero (b:=1) (by simp)
  have h3:q1x (b::r) ((List.length ([118]:List UInt8):Nat):Int) ((List.length (b::r):Nat):Int)=some r:=by
   have:=sub_le (l:=b::r) (a:=1) (b:=(b::r).length) (by simp) (Nat.le_refl _)
   rw [show ((List.length ([118]:List UInt8):Nat):Int)=((1:Nat):Int) from rfl,this]
   simp
  simp only [h1,decide_true,cond_true,h2,Option.bind_some,List.head?_cons,Option.some.injEq,List.drop_succ_cons,List.drop_zero]
  by_cases hb:b=118
  ·simp only [hb,decide_true,cond_true,if_true,Bool.not_true,cond_false] at h3 ⊢
   rw [h3];rfl
  ·have : ¬ [b]=([118]:List UInt8):=fun h=>hb (by simpa using h)
   simp [this,hb]
theorem qla (n:Nat) (s:List UInt8) (hs:s.length<=1000000):qbu n s=some (q35 s):=by
 unfold qbu q35 qc6
 rw [qy0 n s hs]
 by_cases h:s.head? = some 118
 ·have hl:(s.drop 1).length<=1000000:=by rw [List.length_drop];omega
  have ht:qkn (s.drop 1) j4t=some (Lib.trimS (s.drop 1) j4t):=if_pos ⟨rfl,hl⟩
  simp only [h,if_true,Option.bind_some,cond_true,ht,jdl,decide_true,Bool.true_and]
  cases decide (s.drop 1 = [])<;>cases (s.drop 1).all q38<;>rfl
 ·simp [h]
end Go.Proofs.YtapfankgdkdkgaaGreatDoor.AM
namespace Go.Proofs
open Go.RowKit Go.Shelf Go.Lib
attribute [local go_sem] Oper.semAt_some
set_option linter.unusedVariables false
set_option linter.unusedSimpArgs false
namespace YtapfankgdkdkgaaGreatDoor.AM
theorem jcv (x:List UInt8) (w:World) (hI:Inv w) (hx:x.length<=1000000):Calls Tryz.prog 154 #[.string (ba x)] w fun e w'=>e = .returned (.bool (qd5 x))/\Below w.heap.size w w':=by
 have h:=(jdc 1000001 Inv q6n).1.2 x (qd5 x) (j4m 1000001 x (by omega) (by omega))
 refine (h (fun _ _=>False) w #[.string (ba x)] hI (fun b o h=>h.elim) ⟨q05 _,trivial⟩).mono ?_
 rintro e w' ⟨v,Pc,rfl,hb,_,_,hv⟩
 have hv':v = .bool (qd5 x):=q07 hv
 rw [hv']
 exact ⟨rfl,hb⟩
set_option maxHeartbeats 2000000 in
theorem qye (s:List UInt8) (w:World) (hI:Inv w):Calls Tryz.prog 119 #[.string (ba s)] w fun e w'=>e = .returned (.bool (q6h s))/\Below w.heap.size w w':=by
 refine (callsIn_wide (n:=9)).1 ?_
 refine callsIn_of_wp_marks Tryz.func119 rfl trivial ?_ rfl
 simp only [Tryz.ntmps119,List.size_toArray,List.length_cons,List.length_nil,Nat.reduceAdd,Nat.reduceSub,Array.replicate_succ,Array.replicate_zero,List.push_toArray,List.append_toArray,List.nil_append,List.cons_append]
 have hsz:(ba s).size=s.length:=q29 s
 by_cases h2:s.length<=60
 ·skip
  gi_wp2_with (refine ⟨trivial,?_⟩;gi_at_call 136;refine (callsIn_wide.2 (q32 _ _ _)).mono ?_;rintro e w' ⟨rfl,rfl⟩)
  obtain ⟨W0,hW0,hs0,hb0,g0,g1,g2,g3⟩:=four w (Obj.cells #[Value.bool false] 4) (Obj.cells #[Value.string (ba s)] 9) (Obj.cells #[Value.string { data:=#[47] }] 9) (Obj.cells #[Value.int IntKind.i64 0] 3)
  rw [hW0]
  clear hW0
  obtain ⟨c1,f1⟩:=q0j g0
  obtain ⟨c2,f2⟩:=q0j g1
  obtain ⟨c3,f3⟩:=q0j g2
  obtain ⟨c4,f4⟩:=q0j g3
  refine range_split (n:=9) (by omega) 47 (w.heap.size+1) (w.heap.size+1+1) (w.heap.size+1+2) s (by omega) rfl ⟨c2,f2⟩
   (Rng (.string (ba [47])) (w.heap.size+1+1) w.heap.size (w.heap.size+1+1) (w.heap.size+1+2) 47 w qd5) (RngX w.heap.size w qd5) (qpp (by omega)) (qrn (by omega))
   (fun pre W h=>⟨h.cP,h.cC,(hI.below h.below).maxLen⟩) (fun pre W v h=>qqg v h (by omega) (by omega) (by omega) (by omega) (by omega)) ⟨c3,c1,f1,c3,c4,hb0,rfl⟩
   (fun x=>{ tmps:=#[.string (ba s),undef,.pointer (some ⟨w.heap.size,0,none⟩),.string (ba x),.string (ba s),.int .i64 s.length,.bool (decide ((60:Int)<s.length)),.string (ba s),.func (.func 200) #[] #[.pointer (some ⟨w.heap.size+1+1,0,none⟩),.pointer (some ⟨w.heap.size+1,0,none⟩),.pointer (some ⟨w.heap.size+1+2,0,none⟩)],.string (ba x),undef,undef,undef],defers:=[] }) ?assign ?body ?done ?stop
  case assign =>
   intro l x W K hK
   gi_wp2
   exact hK
  case body =>
   intro l pre x r W hi hL hx
   have k1:=hi.res
   have k2:=hi.frz
   have hc:=jcv x W (hI.below hi.below) (by omega)
   cases hpx:qd5 x with
   | true =>
    rw [hpx] at hc
    gi_wp2_with (refine ⟨trivial,?_⟩;gi_at_call 154;refine (CallsIn.inRound l (callsIn_wide.2 hc)).mono ?_;rintro e w' ⟨rfl,hb'⟩)
    exact ⟨q1r hb',qba hi hb' (by simp [hpx]),q93 hL hb'⟩
   | false =>
    rw [hpx] at hc
    gi_wp2_with (refine ⟨trivial,?_⟩;gi_at_call 154;refine (CallsIn.inRound l (callsIn_wide.2 hc)).mono ?_;rintro e w' ⟨rfl,hb'⟩;have k3:=q1z hb' hi.res;have k4:=(q2f hb' hi.res).trans hi.frz)
    exact ⟨(q1r hb').trans (KeepsOthers.setCell _ _ _),World.cell?_setCell_same' _ _ _ (by rw [k3];rfl),(hi.below.trans (hb'.mono hi.below.size)).setCell (by simp) _,by simp [hpx]⟩
  case done =>
   intro D W hD hi hK
   have k1:=hi.res
   have k2:=hi.frz
   gi_wp2
   have hK':=(KeepsOthers.setCell W ⟨w.heap.size,0,none⟩ (.bool true)).same D _ hK rfl
   have hW':Below w.heap.size w (W.setCell ⟨w.heap.size,0,none⟩ (.bool true)):=hi.below.setCell (by simp) _
   have k5:(W.setCell ⟨w.heap.size,0,none⟩ (.bool true)).cell? ⟨w.heap.size,0,none⟩=some (.bool true):=World.cell?_setCell_same' _ _ _ (by rw [k1];rfl)
   generalize W.setCell ⟨w.heap.size,0,none⟩ (.bool true)=W2 at hK' hW' k5
   refine ⟨by simp,.inl ⟨_,_,rfl,run_takeDeferred hK',?_⟩⟩
   have hg:=grownBy_putObj' W2 D (.deferred none)
   refine ⟨_,q21 (b:=w.heap.size) (v:=.bool true) rfl rfl hag (cell_kept k5 hg (fun r e=>by cases e;exact ⟨_,hK',rfl⟩)),?_,?_⟩
   ·have ha:=hi.all
    unfold q6h;simp [h2,ha]
   ·exact hW'.grown hg hW'.size (fun k e=>by cases e;omega)
  case stop =>
   intro D pre x t W hD hsp hi hK
   refine ⟨by simp,.inl ⟨_,_,rfl,run_takeDeferred hK,?_⟩⟩
   have hg:=grownBy_putObj' W D (.deferred none)
   refine ⟨_,q21 (b:=w.heap.size) (v:=.bool false) rfl rfl hag (cell_kept hi.res hg (fun r e=>by cases e;exact ⟨_,hK,rfl⟩)),?_,?_⟩
   ·have ha:=j0m hsp hi.no
    unfold q6h;simp [ha]
   ·exact hi.below.grown hg hi.below.size (fun k e=>by cases e;omega)
 ·gi_wp2
  refine ⟨_,q21 (b:=w.heap.size) (v:=.bool false) rfl rfl hag (by simp),?_,?_⟩
  ·unfold q6h;simp [h2]
  ·exact (Below.refl _ w).alloc (Nat.le_refl _) _
def qkp (s:List UInt8):Option Bool:=some (q6h s)
def qpx:FC:={ f:=119,args:=[qmr],res:=jcr,F:=fun p=>qkp p }
theorem j0v:q0d Inv Tryz.prog qpx:=fun G hG=>⟨⟨by kernel_rfl,fun (s:List UInt8) r h=>by
 have hr:q6h s=r:=Option.some.inj h
 intro Pc w vs hg hlt hv
 obtain ⟨l⟩:=vs
 match l,hv with
 | [x],⟨h1,_⟩ =>
  obtain rfl:x = .string (ba s):=q07 h1
  refine (qye s w (hG.im w hg)).mono ?_
  rintro e w' ⟨rfl,hb⟩
  subst hr
  exact q2z rfl hb (q05 _)⟩,rfl⟩
end YtapfankgdkdkgaaGreatDoor.AM
end Go.Proofs
namespace Go.Proofs
open Go.RowKit Go.Shelf Go.Lib
attribute [local go_sem] Oper.semAt_some
set_option linter.unusedVariables false
set_option linter.unusedSimpArgs false
namespace YtapfankgdkdkgaaGreatDoor.AM
theorem j6e (x:List UInt8) (w:World) (hI:Inv w) (hx:x.length<=1000000):Calls Tryz.prog 134 #[.string (ba x)] w fun e w'=>e = .returned (.bool (q35 x))/\Below w.heap.size w w':=by
 have h:=(qwm 1000001 Inv q6n).1.2 x (q35 x) (qla 1000001 x (by omega))
 refine (h (fun _ _=>False) w #[.string (ba x)] hI (fun b o h=>h.elim) ⟨q05 _,trivial⟩).mono ?_
 rintro e w' ⟨v,Pc,rfl,hb,_,_,hv⟩
 have hv':v = .bool (q35 x):=q07 hv
 rw [hv']
 exact ⟨rfl,hb⟩
set_option maxHeartbeats 2000000 in
theorem j4a (s:List UInt8) (w:World) (hI:Inv w) (h2:s.length<=1000000):Calls Tryz.prog 133 #[.string (ba s)] w fun e w'=>e = .returned (.bool (anyS s))/\Below w.heap.size w w':=by
 refine (callsIn_wide (n:=9)).1 ?_
 refine callsIn_of_wp_marks Tryz.func133 rfl trivial ?_ rfl
 simp only [Tryz.ntmps133,List.size_toArray,List.length_cons,List.length_nil,Nat.reduceAdd,Nat.reduceSub,Array.replicate_succ,Array.replicate_zero,List.push_toArray,List.append_toArray,List.nil_append,List.cons_append]
 have hsz:(ba s).size=s.length:=q29 s
 have key:anyS s = !((spl 47 [] s).all fun x=>!q35 x):=by unfold anyS;rw [List.any_eq_not_all_not]
 ·skip
  gi_wp2_with (refine ⟨trivial,?_⟩;gi_at_call 136;refine (callsIn_wide.2 (q32 _ _ _)).mono ?_;rintro e w' ⟨rfl,rfl⟩)
  obtain ⟨W0,hW0,hs0,hb0,g0,g1,g2,g3⟩:=four w (Obj.cells #[Value.bool false] 4) (Obj.cells #[Value.string (ba s)] 9) (Obj.cells #[Value.string { data:=#[47] }] 9) (Obj.cells #[Value.int IntKind.i64 0] 3)
  rw [hW0]
  clear hW0
  obtain ⟨c1,f1⟩:=q0j g0
  obtain ⟨c2,f2⟩:=q0j g1
  obtain ⟨c3,f3⟩:=q0j g2
  obtain ⟨c4,f4⟩:=q0j g3
  refine range_split (n:=9) (by omega) 47 (w.heap.size+1) (w.heap.size+1+1) (w.heap.size+1+2) s (by omega) rfl ⟨c2,f2⟩
   (Rng (.string (ba [47])) (w.heap.size+1+1) w.heap.size (w.heap.size+1+1) (w.heap.size+1+2) 47 w (fun x=>!q35 x)) (RngY w.heap.size w (fun x=>!q35 x)) (qpp (by omega)) (jcz (by omega))
   (fun pre W h=>⟨h.cP,h.cC,(hI.below h.below).maxLen⟩) (fun pre W v h=>qqg v h (by omega) (by omega) (by omega) (by omega) (by omega)) ⟨c3,c1,f1,c3,c4,hb0,rfl⟩
   (fun x=>{ tmps:=#[.string (ba s),undef,.pointer (some ⟨w.heap.size,0,none⟩),.string (ba x),.string (ba s),.func (.func 200) #[] #[.pointer (some ⟨w.heap.size+1+1,0,none⟩),.pointer (some ⟨w.heap.size+1,0,none⟩),.pointer (some ⟨w.heap.size+1+2,0,none⟩)],.string (ba x),undef,undef],defers:=[] }) ?assign ?body ?done ?stop
  case assign =>
   intro l x W K hK
   gi_wp2
   exact hK
  case body =>
   intro l pre x r W hi hL hx
   have k1:=hi.res
   have k2:=hi.frz
   have hc:=j6e x W (hI.below hi.below) (by omega)
   cases hpx:q35 x with
   | false =>
    rw [hpx] at hc
    gi_wp2_with (refine ⟨trivial,?_⟩;gi_at_call 134;refine (CallsIn.inRound l (callsIn_wide.2 hc)).mono ?_;rintro e w' ⟨rfl,hb'⟩)
    exact ⟨q1r hb',qba hi hb' (by simp [hpx]),q93 hL hb'⟩
   | true =>
    rw [hpx] at hc
    gi_wp2_with (refine ⟨trivial,?_⟩;gi_at_call 134;refine (CallsIn.inRound l (callsIn_wide.2 hc)).mono ?_;rintro e w' ⟨rfl,hb'⟩;have k3:=q1z hb' hi.res;have k4:=(q2f hb' hi.res).trans hi.frz)
    exact ⟨(q1r hb').trans (KeepsOthers.setCell _ _ _),World.cell?_setCell_same' _ _ _ (by rw [k3];rfl),(hi.below.trans (hb'.mono hi.below.size)).setCell (by simp) _,by simp [hpx]⟩
  case done =>
   intro D W hD hi hK
   have k1:=hi.res
   have k2:=hi.frz
   gi_wp2
   have hK':=(KeepsOthers.setCell W ⟨w.heap.size,0,none⟩ (.bool false)).same D _ hK rfl
   have hW':Below w.heap.size w (W.setCell ⟨w.heap.size,0,none⟩ (.bool false)):=hi.below.setCell (by simp) _
   have k5:(W.setCell ⟨w.heap.size,0,none⟩ (.bool false)).cell? ⟨w.heap.size,0,none⟩=some (.bool false):=World.cell?_setCell_same' _ _ _ (by rw [k1];rfl)
   generalize W.setCell ⟨w.heap.size,0,none⟩ (.bool false)=W2 at hK' hW' k5
   refine ⟨by simp,.inl ⟨_,_,rfl,run_takeDeferred hK',?_⟩⟩
   have hg:=grownBy_putObj' W2 D (.deferred none)
   refine ⟨_,q21 (b:=w.heap.size) (v:=.bool false) rfl rfl hag (cell_kept k5 hg (fun r e=>by cases e;exact ⟨_,hK',rfl⟩)),?_,?_⟩
   ·have ha:=hi.all
    rw [key,ha];rfl
   ·exact hW'.grown hg hW'.size (fun k e=>by cases e;omega)
  case stop =>
   intro D pre x t W hD hsp hi hK
   refine ⟨by simp,.inl ⟨_,_,rfl,run_takeDeferred hK,?_⟩⟩
   have hg:=grownBy_putObj' W D (.deferred none)
   refine ⟨_,q21 (b:=w.heap.size) (v:=.bool true) rfl rfl hag (cell_kept hi.res hg (fun r e=>by cases e;exact ⟨_,hK,rfl⟩)),?_,?_⟩
   ·have ha:=j0m hsp hi.no
    rw [key,ha];rfl
   ·exact hi.below.grown hg hi.below.size (fun k e=>by cases e;omega)
theorem j92 (s:List UInt8) (b:Nat):(ba s).extract 0 b=ba (s.take b):=by
 rw [<-j68 ((ba s).extract 0 b)]
 congr 1
 unfold unB ba
 rw [ByteArray.data_extract]
 simp
theorem jb5 (x:List UInt8) (w:World) (hI:Inv w) (hx:x.length<=1000000):Calls Tryz.prog 164 #[.string (ba x),.int .u8 47] w fun e w'=>e = .returned (.int .i64 (q9b 47 x))/\Below w.heap.size w w':=by
 have h:=(j1u 1000001 Inv q6n).1.2 (x,(47:Int)) (q9b 47 x) (qn9 1000001 x (by omega) (by omega))
 refine (h (fun _ _=>False) w #[.string (ba x),.int .u8 47] hI (fun b o h=>h.elim) ⟨q05 _,q05 _,trivial⟩).mono ?_
 rintro e w' ⟨v,Pc,rfl,hb,_,_,hv⟩
 have hv':v = .int .i64 (q9b 47 x):=q07 hv
 rw [hv']
 exact ⟨rfl,hb⟩
theorem qz8 (s:List UInt8) (w:World) (hI:Inv w) (hs:s.length<=1000000):Calls Tryz.prog 131 #[.string (ba s)] w fun e w'=>e = .returned (.string (ba (q75 s)))/\Below w.heap.size w w':=by
 have hl:=j36 47 s
 have hsz:(ba s).size=s.length:=q29 s
 have hc:=jb5 s w hI hs
 go_enter Tryz.func131,Tryz.ntmps131
 by_cases h0:q9b 47 s = -1
 ·rw [h0] at hc
  go_wp2_with (go_at_call 164;refine hc.mono ?_)
  rintro e w' ⟨rfl,hb⟩
  go_wp2
  go_ret
  refine ⟨?_,hb⟩
  show Ending.returned (.string ((ba s).extract 0 (max 0 (-1:Int)).toNat))=_
  rw [j92];unfold q75;rw [h0];rfl
 ·obtain ⟨k,hk⟩ : ∃ k:Nat,q9b 47 s=(k:Int):=⟨(q9b 47 s).toNat,by omega⟩
  rw [hk] at hc
  go_wp2_with (go_at_call 164;refine hc.mono ?_)
  rintro e w' ⟨rfl,hb⟩
  go_wp2
  go_ret
  refine ⟨?_,hb⟩
  show Ending.returned (.string ((ba s).extract 0 (max 0 (k:Int)).toNat))=_
  rw [j92];unfold q75;rw [hk,Int.max_eq_right (by omega)]
theorem jfe (x:List UInt8) (w:World) (hI:Inv w) (hx:x.length<=1000000):Calls Tryz.prog 155 #[.string (ba x),.string (ba [118])] w fun e w'=>e = .returned (.string (ba (q19 x)))/\Below w.heap.size w w':=by
 have h:=(qc9 100 Inv q6n).1.2 (x,([118]:List UInt8)) (q19 x) (qv1 100 x (by omega))
 refine (h (fun _ _=>False) w #[.string (ba x),.string (ba [118])] hI (fun b o h=>h.elim) ⟨q05 _,q05 _,trivial⟩).mono ?_
 rintro e w' ⟨v,Pc,rfl,hb,_,_,hv⟩
 have hv':v = .string (ba (q19 x)):=q07 hv
 rw [hv']
 exact ⟨rfl,hb⟩
theorem j7z (n:Int) (w:World) (hI:Inv w) (h0:2<=n) (h1:n<=999999999):Calls Tryz.prog 76 #[.int .i64 n] w fun e w'=>e = .returned (.string (ba (Lib.itoa n)))/\Below w.heap.size w w':=by
 refine (Any.strconv_Itoa Tryz.laysItoa n (by omega) (by omega) w hI.tab).mono ?_
 rintro e w' ⟨rfl,k,os,rfl⟩
 exact ⟨rfl,Lib.below_grow _ w (Nat.le_refl _) k os⟩
set_option maxHeartbeats 2000000 in
theorem j4p (s:List UInt8) (w:World) (hI:Inv w) (hs:s.length<=1000000):Calls Tryz.prog 135 #[.string (ba s)] w fun e w'=>e = .returned (.tuple #[.int .i64 (numOf (q19 s)),.bool (j0h (q19 s))])/\Below w.heap.size w w':=by
 have hc:=jfe s w hI hs
 have hl:=qty s
 go_enter Tryz.func135,Tryz.ntmps135
 go_wp2_with (go_at_call 155;refine hc.mono ?_)
 rintro e w1 ⟨rfl,hb1⟩
 clear hc
 have hI1:=hI.below hb1
 have e1:(ba (q19 s)).data.toList=q19 s:=by simp [ba]
 have hl':(ba (q19 s)).size<=281474976710656:=by rw [q29];omega
 obtain ⟨ts,ps,hsy⟩:=hI1.syn
 obtain ⟨tr,pr,hrg⟩:=hI1.rng
 cases h:Lib.atoiAll (q19 s) with
 | ok v =>
  go_wp2_with (go_at_call 167;refine (Any.strconv_Atoi_ok Tryz.laysAtoi (ba (q19 s)) (by omega) v (by rw [e1];exact h) w1).mono ?_)
  rintro e w2 ⟨rfl,hw⟩
  have hb2:Below w1.heap.size w1 w2:=by
   rcases hw with rfl|⟨t,rfl⟩
   ·exact Below.refl _ _
   ·exact Lib.bytesWorld_below _ _ _
  clear hw
  have hb:Below w.heap.size w w2:=hb1.trans (hb2.mono hb1.size)
  by_cases h2:2<=v
  ·by_cases h3:v<=999999999
   ·have hi:=j7z v w2 (hI.below hb) h2 h3
    go_wp2_with (go_at_call 76;refine hi.mono ?_)
    rintro e w3 ⟨rfl,hb3⟩
    go_wp2
    go_ret2
    refine ⟨?_,hb.trans (hb3.mono hb.size)⟩
    unfold numOf j0h;rw [h]
    simp [h2,h3,q5l]
    rw [Bool.eq_iff_iff];simp
   ·go_wp2
    go_ret2
    refine ⟨?_,hb⟩
    unfold numOf j0h;rw [h]
    simp [h2,show ¬ v<=999999999 from by omega]
  ·go_wp2
   go_ret2
   refine ⟨?_,hb⟩
   unfold numOf j0h;rw [h]
   simp [show ¬ 2<=v from by omega]
 | «syntax» =>
  go_wp2_with (go_at_call 167;refine (Any.strconv_Atoi_syntax Tryz.laysAtoi (ba (q19 s)) hl' (by rw [e1];exact h) _ w1 hsy (Or.inr ⟨_,_,rfl⟩)).mono ?_)
  rintro e w2 ⟨N,rfl,hN,hc,hb2⟩
  go_wp2
  go_ret2
  refine ⟨?_,hb1.trans (hb2.mono hb1.size)⟩
  unfold numOf j0h;rw [h];rfl
 | range =>
  go_wp2_with (go_at_call 167;refine (Any.strconv_Atoi_range Tryz.laysAtoi (ba (q19 s)) hl' (by rw [e1];exact h) _ w1 hrg (Or.inr ⟨_,_,rfl⟩)).mono ?_)
  rintro e w2 ⟨N,rfl,hN,hc,hb2⟩
  rw [e1]
  go_wp2
  go_ret2
  refine ⟨?_,hb1.trans (hb2.mono hb1.size)⟩
  unfold numOf j0h;rw [h];rfl
def qv4 (s:List UInt8):Option Bool:=if s.length<=1000000 then some (anyS s) else none
def j9y:FC:={ f:=133,args:=[qmr],res:=jcr,F:=fun p=>qv4 p }
theorem jjc:q0d Inv Tryz.prog j9y:=fun G hG=>⟨⟨by kernel_rfl,fun (s:List UInt8) r h=>by
 have h':qv4 s=some r:=h
 unfold qv4 at h'
 split at h'
 case isFalse=>cases h'
 rename_i hc
 have hr:anyS s=r:=Option.some.inj h'
 intro Pc w vs hg hlt hv
 obtain ⟨l⟩:=vs
 match l,hv with
 | [x],⟨h1,_⟩ =>
  obtain rfl:x = .string (ba s):=q07 h1
  refine (j4a s w (hG.im w hg) hc).mono ?_
  rintro e w' ⟨rfl,hb⟩
  subst hr
  exact q2z rfl hb (q05 _)⟩,rfl⟩
def qgw (s:List UInt8):Option (List UInt8):=if s.length<=1000000 then some (q75 s) else none
def j1i:FC:={ f:=131,args:=[qmr],res:=qmr,F:=fun p=>qgw p }
theorem jdm:q0d Inv Tryz.prog j1i:=fun G hG=>⟨⟨by kernel_rfl,fun (s:List UInt8) r h=>by
 have h':qgw s=some r:=h
 unfold qgw at h'
 split at h'
 case isFalse=>cases h'
 rename_i hc
 have hr:q75 s=r:=Option.some.inj h'
 intro Pc w vs hg hlt hv
 obtain ⟨l⟩:=vs
 match l,hv with
 | [x],⟨h1,_⟩ =>
  obtain rfl:x = .string (ba s):=q07 h1
  refine (qz8 s w (hG.im w hg) hc).mono ?_
  rintro e w' ⟨rfl,hb⟩
  subst hr
  exact q2z rfl hb (q05 (.string (ba (q75 s))))⟩,rfl⟩
def qnm (s:List UInt8):Option (Int×Bool):=if s.length<=1000000 then some (numOf (q19 s),j0h (q19 s)) else none
def j95:FC:={ f:=135,args:=[qmr],res:=.tup [.c (.d (.int .i64)),.c (.d .bool)],F:=fun p=>qnm p }
theorem jib:q0d Inv Tryz.prog j95:=fun G hG=>⟨⟨by kernel_rfl,fun (s:List UInt8) (r:Int×Bool) h=>by
 have h':qnm s=some r:=h
 unfold qnm at h'
 split at h'
 case isFalse=>cases h'
 rename_i hc
 have hr:(numOf (q19 s),j0h (q19 s))=r:=Option.some.inj h'
 intro Pc w vs hg hlt hv
 obtain ⟨l⟩:=vs
 match l,hv with
 | [x],⟨h1,_⟩ =>
  obtain rfl:x = .string (ba s):=q07 h1
  refine (j4p s w (hG.im w hg) hc).mono ?_
  rintro e w' ⟨rfl,hb⟩
  subst hr
  refine ⟨_,Pc,rfl,hb,fun _ _ h=>h,fun _ _ h=>Or.inl h,?_⟩
  exact ⟨#[.int .i64 (numOf (q19 s)),.bool (j0h (q19 s))],rfl,q05 (σ:=ql8) (.int .i64 (numOf (q19 s))),q05 (σ:=ql8) (.bool (j0h (q19 s))),trivial⟩⟩,rfl⟩
end YtapfankgdkdkgaaGreatDoor.AM
end Go.Proofs
