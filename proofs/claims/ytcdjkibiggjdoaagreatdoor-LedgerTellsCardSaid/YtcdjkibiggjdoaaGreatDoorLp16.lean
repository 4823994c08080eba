
import Derived.Test.YtcdjkibiggjdoaaGreatDoorLp15
import Derived.Lib.AppendZeros
namespace Go.Proofs.YtcdjkibiggjdoaaGreatDoor.AM
open Go.RowKit
set_option linter.unusedVariables false
set_option maxRecDepth 20000
def qfl (n:Nat):List LC:=[]
def qcl (n:Nat) (a1:List UInt8) (a2:List UInt8):Option (Bool) :=
 (bif decide (((List.length a2:Nat):Int)≤((List.length a1:Nat):Int)) then q0b (IntKind.wrap .i64 (((List.length a1:Nat):Int) - ((List.length a2:Nat):Int))) fun (n1:Int)=>(q7n a1 n1 ((List.length a1:Nat):Int)).bind fun (s2:List UInt8)=>some (decide (s2=a2)) else some false)
def q3p (n:Nat):FC:={ f:=90,args:=[.one (.c (.d .str)),.one (.c (.d .str))],res:=.one (.c (.d .bool)),F:=fun p=>qcl n p.1 p.2 }
def qhe (n:Nat):List FC:=[]
theorem qtm (n:Nat) {G:World→Prop} (hG:Know Inv G) : ∀ c∈qhe n,q1b Tryz.prog G c∧q0e c.args=true:=(fun _ h=>by cases h)
def qjo:q0c:=[]
theorem j1n:drB qjo (q00 Tryz.f90)=true:=by kernel_rfl
theorem j25 (n:Nat) : ∀ a,(q3p n).F a=main Tryz.prog 21 (qhe n) (qfl n) qjo (q00 Tryz.f90) [.tmp 4] (q3p n).args (q3p n).res a:=by intro a;kernel_rfl
theorem j1o (n:Nat):q0a Inv Tryz.prog (q3p n):=fun G hG=>⟨⟨by kernel_rfl,fun a r h=>q03 (c:=q00 Tryz.f90) Tryz.func90 (by kernel_rfl) (by kernel_rfl) (Nat.le_of_ble_eq_true (by kernel_rfl)) hG.st (by kernel_rfl) (rs:=[.tmp 4]) (by kernel_rfl) (qtm n hG) (lts:=qfl n) (fun F hF hFG=>have hK:Know Inv F.G:=hFG ▸ hG;(q02 fun j L h1 h2 h3=>absurd h2 (Nat.not_lt.2 (Nat.le_trans (by decide +kernel) h1)))) j1n ((j25 n a).symm.trans h)⟩,rfl⟩
def qde (n:Nat):List LC:=[]
def qab (n:Nat) (a1:List UInt8) (a2:List UInt8):Option (List UInt8) :=
 (qcl n a1 a2).bind fun (r1:Bool)=>(bif r1 then q0b (IntKind.wrap .i64 (((List.length a1:Nat):Int) - ((List.length a2:Nat):Int))) fun (n2:Int)=>(q7n a1 (0:Int) n2).bind fun (s3:List UInt8)=>some s3 else some a1)
def q39 (n:Nat):FC:={ f:=69,args:=[.one (.c (.d .str)),.one (.c (.d .str))],res:=.one (.c (.d .str)),F:=fun p=>qab n p.1 p.2 }
def qfh (n:Nat):List FC:=[q3p n]
theorem qo2 (n:Nat) {G:World→Prop} (hG:Know Inv G) : ∀ c∈qfh n,q1b Tryz.prog G c∧q0e c.args=true:=List.forall_mem_cons.2 ⟨j1o n G hG,(fun _ h=>by cases h)⟩
def qf7:q0c:=[]
theorem qvn:drB qf7 (q00 Tryz.f69)=true:=by kernel_rfl
theorem qv1 (n:Nat) : ∀ a,(q39 n).F a=main Tryz.prog 16 (qfh n) (qde n) qf7 (q00 Tryz.f69) [.tmp 4] (q39 n).args (q39 n).res a:=by intro a;kernel_rfl
theorem qvi (n:Nat):q0a Inv Tryz.prog (q39 n):=fun G hG=>⟨⟨by kernel_rfl,fun a r h=>q03 (c:=q00 Tryz.f69) Tryz.func69 (by kernel_rfl) (by kernel_rfl) (Nat.le_of_ble_eq_true (by kernel_rfl)) hG.st (by kernel_rfl) (rs:=[.tmp 4]) (by kernel_rfl) (qo2 n hG) (lts:=qde n) (fun F hF hFG=>have hK:Know Inv F.G:=hFG ▸ hG;(q02 fun j L h1 h2 h3=>absurd h2 (Nat.not_lt.2 (Nat.le_trans (by decide +kernel) h1)))) qvn ((qv1 n a).symm.trans h)⟩,rfl⟩
def qfk (n:Nat):List LC:=[]
def q7t (n:Nat) (a1:List UInt8) (a2:List UInt8):Option (List UInt8) :=
 (qab n a1 a2).bind fun (r1:List UInt8)=>some r1
def q4b (n:Nat):FC:={ f:=42,args:=[.one (.c (.d .str)),.one (.c (.d .str))],res:=.one (.c (.d .str)),F:=fun p=>q7t n p.1 p.2 }
def qhw (n:Nat):List FC:=[q39 n]
theorem qre (n:Nat) {G:World→Prop} (hG:Know Inv G) : ∀ c∈qhw n,q1b Tryz.prog G c∧q0e c.args=true:=List.forall_mem_cons.2 ⟨qvi n G hG,(fun _ h=>by cases h)⟩
def qi7:q0c:=[]
theorem qzy:drB qi7 (q00 Tryz.f42)=true:=by kernel_rfl
theorem j0q (n:Nat) : ∀ a,(q4b n).F a=main Tryz.prog 8 (qhw n) (qfk n) qi7 (q00 Tryz.f42) [.tmp 4] (q4b n).args (q4b n).res a:=by intro a;kernel_rfl
theorem j1v (n:Nat):q0a Inv Tryz.prog (q4b n):=fun G hG=>⟨⟨by kernel_rfl,fun a r h=>q03 (c:=q00 Tryz.f42) Tryz.func42 (by kernel_rfl) (by kernel_rfl) (Nat.le_of_ble_eq_true (by kernel_rfl)) hG.st (by kernel_rfl) (rs:=[.tmp 4]) (by kernel_rfl) (qre n hG) (lts:=qfk n) (fun F hF hFG=>have hK:Know Inv F.G:=hFG ▸ hG;(q02 fun j L h1 h2 h3=>absurd h2 (Nat.not_lt.2 (Nat.le_trans (by decide +kernel) h1)))) qzy ((j0q n a).symm.trans h)⟩,rfl⟩
def qws (n:Nat):List LC:=[]
def qoy (n:Nat) (a1:List UInt8):Option (List (List UInt8)) :=
 (bif decide (a1=([]:List UInt8)) then some [] else (q7t n a1 ([10]:List UInt8)).bind fun (r1:List UInt8)=>(q8v r1 ([10]:List UInt8)).bind fun (r2:List (List UInt8))=>some r2)
def qc3 (n:Nat):FC:={ f:=23,args:=[.one (.c (.d .str))],res:=.one (.c (.d (.lst .str))),F:=fun p=>qoy n p }
def j2n (n:Nat):List FC:=[q4b n,qoz]
theorem jaz (n:Nat) {G:World→Prop} (hG:Know Inv G) : ∀ c∈j2n n,q1b Tryz.prog G c∧q0e c.args=true:=List.forall_mem_cons.2 ⟨j1v n G hG,List.forall_mem_cons.2 ⟨qzn G hG,(fun _ h=>by cases h)⟩⟩
def j6d:q0c:=[]
theorem jk6:drB j6d (q00 Tryz.f23)=true:=by kernel_rfl
theorem jjs (n:Nat) : ∀ a,(qc3 n).F a=main Tryz.prog 8 (j2n n) (qws n) j6d (q00 Tryz.f23) [.tmp 2] (qc3 n).args (qc3 n).res a:=by intro a;kernel_rfl
theorem jjn (n:Nat):q0a Inv Tryz.prog (qc3 n):=fun G hG=>⟨⟨by kernel_rfl,fun a r h=>q03 (c:=q00 Tryz.f23) Tryz.func23 (by kernel_rfl) (by kernel_rfl) (Nat.le_of_ble_eq_true (by kernel_rfl)) hG.st (by kernel_rfl) (rs:=[.tmp 2]) (by kernel_rfl) (jaz n hG) (lts:=qws n) (fun F hF hFG=>have hK:Know Inv F.G:=hFG ▸ hG;(q02 fun j L h1 h2 h3=>absurd h2 (Nat.not_lt.2 (Nat.le_trans (by decide +kernel) h1)))) jk6 ((jjs n a).symm.trans h)⟩,rfl⟩
def qx7 (n:Nat):List LC:=[]
def qoi (n:Nat) (a1:List UInt8):Option (List (List UInt8)) :=
 ((q1f n).F (a1,(10:Int))).bind fun (r1:List (List UInt8))=>q0b (IntKind.wrap .i64 (((List.length r1:Nat):Int) - (1:Int))) fun (n2:Int)=>(q1a r1 n2).bind fun (x3:List UInt8)=>(bif decide (x3=([]:List UInt8)) then q0b (IntKind.wrap .i64 (((List.length r1:Nat):Int) - (1:Int))) fun (n4:Int)=>(q7n r1 (0:Int) n4).bind fun (s5:List (List UInt8))=>some s5 else some r1)
def qdi (n:Nat):FC:={ f:=26,args:=[.one (.c (.d .str))],res:=.one (.c (.d (.lst .str))),F:=fun p=>qoi n p }
def j2j (n:Nat):List FC:=[q1f n]
theorem j8o (n:Nat) {G:World→Prop} (hG:Know Inv G) : ∀ c∈j2j n,q1b Tryz.prog G c∧q0e c.args=true:=List.forall_mem_cons.2 ⟨q3k n G hG,(fun _ h=>by cases h)⟩
def j6t:q0c:=[]
theorem jn3:drB j6t (q00 Tryz.f26)=true:=by kernel_rfl
theorem jnt (n:Nat) : ∀ a,(qdi n).F a=main Tryz.prog 19 (j2j n) (qx7 n) j6t (q00 Tryz.f26) [.tmp 2] (qdi n).args (qdi n).res a:=by intro a;kernel_rfl
theorem jjd (n:Nat):q0a Inv Tryz.prog (qdi n):=fun G hG=>⟨⟨by kernel_rfl,fun a r h=>q03 (c:=q00 Tryz.f26) Tryz.func26 (by kernel_rfl) (by kernel_rfl) (Nat.le_of_ble_eq_true (by kernel_rfl)) hG.st (by kernel_rfl) (rs:=[.tmp 2]) (by kernel_rfl) (j8o n hG) (lts:=qx7 n) (fun F hF hFG=>have hK:Know Inv F.G:=hFG ▸ hG;(q02 fun j L h1 h2 h3=>absurd h2 (Nat.not_lt.2 (Nat.le_trans (by decide +kernel) h1)))) jn3 ((jnt n a).symm.trans h)⟩,rfl⟩
def qtq (n:Nat):List LC:=[]
def qd4 (n:Nat) (a1:List UInt8):Option (Bool) :=
 (q3g n a1 ([104,49,58]:List UInt8)).bind fun (r1:(List UInt8)×(Bool))=>(bif !r1.2 then some false else (Bs.qea r1.1).bind fun (r2:(List UInt8)×(Bool))=>(bif r2.2 then some (decide (((List.length r2.1:Nat):Int)=(32:Int))) else some false))
def q9l (n:Nat):FC:={ f:=54,args:=[.one (.c (.d .str))],res:=.one (.c (.d .bool)),F:=fun p=>qd4 n p }
def qxr (n:Nat):List FC:=[q3l n,Bs.j4y]
theorem j3k (n:Nat) {G:World→Prop} (hG:Know Inv G) : ∀ c∈qxr n,q1b Tryz.prog G c∧q0e c.args=true:=List.forall_mem_cons.2 ⟨qmd n G hG,List.forall_mem_cons.2 ⟨Bs.jjx G hG,(fun _ h=>by cases h)⟩⟩
def qyk:q0c:=[]
theorem ji4:drB qyk (q00 Tryz.f54)=true:=by kernel_rfl
theorem jfi (n:Nat) : ∀ a,(q9l n).F a=main Tryz.prog 24 (qxr n) (qtq n) qyk (q00 Tryz.f54) [.tmp 2] (q9l n).args (q9l n).res a:=by intro a;kernel_rfl
theorem jh6 (n:Nat):q0a Inv Tryz.prog (q9l n):=fun G hG=>⟨⟨by kernel_rfl,fun a r h=>q03 (c:=q00 Tryz.f54) Tryz.func54 (by kernel_rfl) (by kernel_rfl) (Nat.le_of_ble_eq_true (by kernel_rfl)) hG.st (by kernel_rfl) (rs:=[.tmp 2]) (by kernel_rfl) (j3k n hG) (lts:=qtq n) (fun F hF hFG=>have hK:Know Inv F.G:=hFG ▸ hG;(q02 fun j L h1 h2 h3=>absurd h2 (Nat.not_lt.2 (Nat.le_trans (by decide +kernel) h1)))) ji4 ((jfi n a).symm.trans h)⟩,rfl⟩
@[reducible] def qee:SSt:=⟨[(0,.one (.c (.d (.lst .str)))),(1,.one (.c (.d .str))),(7,.one (.c (.d (.int .i64)))),(8,.one (.c (.d (.int .i64))))],[],[]⟩
@[reducible] def q89:List (Exit×SSt):=[(.ret,⟨[(4,.one (.c (.d (.int .i64))))],[],[]⟩),(.exit 0,⟨[],[],[]⟩)]
def qpz (n:Nat) (rec:(List (List UInt8))→(List UInt8)→Int→Int→Option (((Int×(Unit))×(Unit)×(Unit))⊕((Unit)×(Unit)×(Unit)))) (a1:List (List UInt8)) (a2:List UInt8) (a3:Int) (a4:Int):Option (((Int×(Unit))×(Unit)×(Unit))⊕((Unit)×(Unit)×(Unit))) :=
 (bif decide (a4<a3) then (q1a a1 a4).bind fun (x1:List UInt8)=>(bif decide (a2=x1) then some (Sum.inl ((a4,()),((),()))) else q0b (IntKind.wrap .i64 (a4+(1:Int))) fun (n2:Int)=>rec a1 a2 a3 n2) else some (Sum.inr (((),((),())))))
def qrr (n:Nat) (rec:pSt qee→Option (q0f q89)) (p:pSt qee):Option (q0f q89):=qpz n (fun a1 a2 a3 a4=>rec ((a1,(a2,(a3,(a4,())))),((),()))) p.1.1 p.1.2.1 p.1.2.2.1 p.1.2.2.2.1
def q5k (n m:Nat) (a1:List (List UInt8)) (a2:List UInt8) (a3:Int) (a4:Int):Option (((Int×(Unit))×(Unit)×(Unit))⊕((Unit)×(Unit)×(Unit))):=q0g (qrr n) m ((a1,(a2,(a3,(a4,())))),((),()))
theorem qko (n m:Nat) (a1:List (List UInt8)) (a2:List UInt8) (a3:Int) (a4:Int):q5k n (m+1) a1 a2 a3 a4=qpz n (fun a1 a2 a3 a4=>q5k n m a1 a2 a3 a4) a1 a2 a3 a4:=rfl
def j6b (n:Nat):LC:={ sh:=qee,outs:=q89,F:=q0g (qrr n) n }
def qk7 (n:Nat):List LC:=[j6b n]
def qz0 (n:Nat) (a1:List (List UInt8)) (a2:List UInt8):Option (Int) :=
 (q5k n n a1 a2 ((List.length a1:Nat):Int) (0:Int)).bind fun (o3:((Int×(Unit))×(Unit)×(Unit))⊕((Unit)×(Unit)×(Unit)))=>Sum.elim (fun (q4:(Int×(Unit))×(Unit)×(Unit))=>some q4.1.1) (fun (q5:(Unit)×(Unit)×(Unit))=>some (-1:Int)) o3
def qbv (n:Nat):FC:={ f:=70,args:=[.one (.c (.d (.lst .str))),.one (.c (.d .str))],res:=.one (.c (.d (.int .i64))),F:=fun p=>qz0 n p.1 p.2 }
def qq9 (n:Nat):List FC:=[]
theorem qtg (n:Nat) {G:World→Prop} (hG:Know Inv G) : ∀ c∈qq9 n,q1b Tryz.prog G c∧q0e c.args=true:=(fun _ h=>by cases h)
def qqx:q0c:=[]
theorem j36:drB qqx (q00 Tryz.f70)=true:=by kernel_rfl
theorem jfk (n:Nat) : ∀ rec p,qrr n rec p=round Tryz.prog 19 (qq9 n) (qk7 n) qqx 1 qee q89 (q01 0 0 (q00 Tryz.f70)) rec p:=by intro rec p;kernel_rfl
theorem jae (n:Nat) {F:Fr} (hF:F.n=19) (hK:Know Inv F.G):q71 Tryz.prog F (j6b n) (q01 0 0 (q00 Tryz.f70)) :=
 q0h hF (by kernel_rfl) (qtg n hK) (jfk n) (fuel:=n) (fun _=>rfl) (q02 fun j L h1 h2 h3=>absurd h2 (Nat.not_lt.2 (Nat.le_trans (by decide +kernel) h1))) (q0r j36)
theorem jmn (n:Nat) : ∀ a,(qbv n).F a=main Tryz.prog 19 (qq9 n) (qk7 n) qqx (q00 Tryz.f70) [.tmp 4] (qbv n).args (qbv n).res a:=by intro a;kernel_rfl
theorem jog (n:Nat):q0a Inv Tryz.prog (qbv n):=fun G hG=>⟨⟨by kernel_rfl,fun a r h=>q03 (c:=q00 Tryz.f70) Tryz.func70 (by kernel_rfl) (by kernel_rfl) (Nat.le_of_ble_eq_true (by kernel_rfl)) hG.st (by kernel_rfl) (rs:=[.tmp 4]) (by kernel_rfl) (qtg n hG) (lts:=qk7 n) (fun F hF hFG=>have hK:Know Inv F.G:=hFG ▸ hG;(q02 (c:=(q00 Tryz.f70)) (fun j L h1 h2 h3=>by
  have h2':j<1:=Nat.lt_of_lt_of_le h2 (by decide +kernel)
  match j,h1,h2',h3 with
  | 0,_,_,h3=>obtain rfl:=Option.some.inj h3;exact (show q01 0 0 (q00 Tryz.f70)=q01 0 0 (q00 Tryz.f70) by kernel_rfl) ▸ jae n hF hK
  | j+1,_,h2',_=>exact absurd h2' (by omega)))) j36 ((jmn n a).symm.trans h)⟩,rfl⟩
def qho (n:Nat):List LC:=[]
def qae (n:Nat) (a1:List (List UInt8)) (a2:List UInt8):Option (Bool) :=
 (qz0 n a1 a2).bind fun (r1:Int)=>some (decide ((0:Int)≤r1))
def q5g (n:Nat):FC:={ f:=43,args:=[.one (.c (.d (.lst .str))),.one (.c (.d .str))],res:=.one (.c (.d .bool)),F:=fun p=>qae n p.1 p.2 }
def qmt (n:Nat):List FC:=[qbv n]
theorem qvs (n:Nat) {G:World→Prop} (hG:Know Inv G) : ∀ c∈qmt n,q1b Tryz.prog G c∧q0e c.args=true:=List.forall_mem_cons.2 ⟨jog n G hG,(fun _ h=>by cases h)⟩
def qmm:q0c:=[]
theorem j80:drB qmm (q00 Tryz.f43)=true:=by kernel_rfl
theorem j7d (n:Nat) : ∀ a,(q5g n).F a=main Tryz.prog 9 (qmt n) (qho n) qmm (q00 Tryz.f43) [.tmp 4] (q5g n).args (q5g n).res a:=by intro a;kernel_rfl
theorem j78 (n:Nat):q0a Inv Tryz.prog (q5g n):=fun G hG=>⟨⟨by kernel_rfl,fun a r h=>q03 (c:=q00 Tryz.f43) Tryz.func43 (by kernel_rfl) (by kernel_rfl) (Nat.le_of_ble_eq_true (by kernel_rfl)) hG.st (by kernel_rfl) (rs:=[.tmp 4]) (by kernel_rfl) (qvs n hG) (lts:=qho n) (fun F hF hFG=>have hK:Know Inv F.G:=hFG ▸ hG;(q02 fun j L h1 h2 h3=>absurd h2 (Nat.not_lt.2 (Nat.le_trans (by decide +kernel) h1)))) j80 ((j7d n a).symm.trans h)⟩,rfl⟩
def j73 (n:Nat):List LC:=[]
def qz3 (n:Nat) (a1:List UInt8):Option (((List UInt8)×(Int×(Int×(Int×((List UInt8)×((List UInt8)×(List UInt8)))))))×(Bool)) :=
 (q8v a1 ([32]:List UInt8)).bind fun (r1:List (List UInt8))=>(bif !decide (((List.length r1:Nat):Int)=(3:Int)) then some ((([]:List UInt8),((0:Int),((0:Int),((0:Int),(([]:List UInt8),(([]:List UInt8),([]:List UInt8))))))),false) else (qae n r1 ([]:List UInt8)).bind fun (r2:Bool)=>(bif r2 then some ((([]:List UInt8),((0:Int),((0:Int),((0:Int),(([]:List UInt8),(([]:List UInt8),([]:List UInt8))))))),false) else (q1a r1 (1:Int)).bind fun (x3:List UInt8)=>(qp7 n x3).bind fun (r4:(Int×(Int×(Int×((List UInt8)×(List UInt8)))))×(Bool))=>(q1a r1 (0:Int)).bind fun (x5:List UInt8)=>(q1a r1 (2:Int)).bind fun (x6:List UInt8)=>some ((x5,(r4.1.1,(r4.1.2.1,(r4.1.2.2.1,(r4.1.2.2.2.1,(r4.1.2.2.2.2,x6)))))),r4.2)))
def qi5 (n:Nat):FC:={ f:=24,args:=[.one (.c (.d .str))],res:=.tup [.agg [.d .str,.d (.int .i64),.d (.int .i64),.d (.int .i64),.d .str,.d .str,.d .str],.c (.d .bool)],F:=fun p=>qz3 n p }
def jdm (n:Nat):List FC:=[qoz,q5g n,qdm n]
theorem jgd (n:Nat) {G:World→Prop} (hG:Know Inv G) : ∀ c∈jdm n,q1b Tryz.prog G c∧q0e c.args=true:=List.forall_mem_cons.2 ⟨qzn G hG,List.forall_mem_cons.2 ⟨j78 n G hG,List.forall_mem_cons.2 ⟨jki n G hG,(fun _ h=>by cases h)⟩⟩⟩
def jfa:q0c:=[(5,[⟨28334198897217871286272,2^72,0⟩,⟨49*2^72,2^75,1⟩,⟨49*2^75,2^78,3⟩,⟨14507109835375550096572416,2^81,0⟩,⟨116056878683004400771796992,2^84,0⟩,⟨49*2^84,2^87,16⟩,⟨49*2^87,2^90,48⟩,⟨200713*2^78,2^93,127⟩,⟨475368975085586025561263964160,2^96,0⟩,⟨9903520314283042199192993984,128,255⟩,⟨79228162514264337593543953408,512,1023⟩])]
theorem jqb:drB jfa (q00 Tryz.f24)=true:=by kernel_rfl
theorem js8 (n:Nat) : ∀ a,(qi5 n).F a=main Tryz.prog 33 (jdm n) (j73 n) jfa (q00 Tryz.f24) [.cell 2 32,.tmp 3] (qi5 n).args (qi5 n).res a:=by intro a;kernel_rfl
theorem js0 (n:Nat):q0a Inv Tryz.prog (qi5 n):=fun G hG=>⟨⟨by kernel_rfl,fun a r h=>q03 (c:=q00 Tryz.f24) Tryz.func24 (by kernel_rfl) (by kernel_rfl) (Nat.le_of_ble_eq_true (by kernel_rfl)) hG.st (by kernel_rfl) (rs:=[.cell 2 32,.tmp 3]) (by kernel_rfl) (jgd n hG) (lts:=j73 n) (fun F hF hFG=>have hK:Know Inv F.G:=hFG ▸ hG;(q02 fun j L h1 h2 h3=>absurd h2 (Nat.not_lt.2 (Nat.le_trans (by decide +kernel) h1)))) jqb ((js8 n a).symm.trans h)⟩,rfl⟩
def qwi (n:Nat):List LC:=[]
def qjj (n:Nat) (a1:(List UInt8)×(Int×(Int×(Int×((List UInt8)×((List UInt8)×(List UInt8))))))):Option (Int) :=
 (qp1 n a1.1).bind fun (r1:Bool)=>(bif !r1 then some (6:Int) else (q4u n (a1.2.1,(a1.2.2.1,(a1.2.2.2.1,(a1.2.2.2.2.1,a1.2.2.2.2.2.1))))).bind fun (r2:Bool)=>(bif !r2 then some (7:Int) else (qtd n a1.1 (a1.2.1,(a1.2.2.1,(a1.2.2.2.1,(a1.2.2.2.2.1,a1.2.2.2.2.2.1))))).bind fun (r3:Bool)=>(bif !r3 then some (8:Int) else (qd4 n a1.2.2.2.2.2.2).bind fun (r4:Bool)=>(bif !r4 then some (4:Int) else some (0:Int)))))
def q98 (n:Nat):FC:={ f:=32,args:=[.one (.agg [.d .str,.d (.int .i64),.d (.int .i64),.d (.int .i64),.d .str,.d .str,.d .str])],res:=.one (.c (.d (.int .i64))),F:=fun p=>qjj n p }
def j6m (n:Nat):List FC:=[qcv n,q42 n,qit n,q9l n]
theorem j8m (n:Nat) {G:World→Prop} (hG:Know Inv G) : ∀ c∈j6m n,q1b Tryz.prog G c∧q0e c.args=true:=List.forall_mem_cons.2 ⟨jlf n G hG,List.forall_mem_cons.2 ⟨qbr n G hG,List.forall_mem_cons.2 ⟨jqr n G hG,List.forall_mem_cons.2 ⟨jh6 n G hG,(fun _ h=>by cases h)⟩⟩⟩⟩
def j3q:q0c:=[]
theorem jlq:drB j3q (q00 Tryz.f32)=true:=by kernel_rfl
theorem jmq (n:Nat) : ∀ a,(q98 n).F a=main Tryz.prog 25 (j6m n) (qwi n) j3q (q00 Tryz.f32) [.tmp 2] (q98 n).args (q98 n).res a:=by intro a;kernel_rfl
theorem j46 (n:Nat):q0a Inv Tryz.prog (q98 n):=fun G hG=>⟨⟨by kernel_rfl,fun a r h=>q03 (c:=q00 Tryz.f32) Tryz.func32 (by kernel_rfl) (by kernel_rfl) (Nat.le_of_ble_eq_true (by kernel_rfl)) hG.st (by kernel_rfl) (rs:=[.tmp 2]) (by kernel_rfl) (j8m n hG) (lts:=qwi n) (fun F hF hFG=>have hK:Know Inv F.G:=hFG ▸ hG;(q02 fun j L h1 h2 h3=>absurd h2 (Nat.not_lt.2 (Nat.le_trans (by decide +kernel) h1)))) jlq ((jmq n a).symm.trans h)⟩,rfl⟩
def qym (n:Nat):List LC:=[]
def qa3 (n:Nat) (a1:Int×(Int×(Int×((List UInt8)×(List UInt8))))) (a2:Int×(Int×(Int×((List UInt8)×(List UInt8))))):Option (Bool) :=
 (q6t n a1 a2).bind fun (r1:Int)=>some (decide (r1<(0:Int)))
def q9d (n:Nat):FC:={ f:=33,args:=[.one (.agg [.d (.int .i64),.d (.int .i64),.d (.int .i64),.d .str,.d .str]),.one (.agg [.d (.int .i64),.d (.int .i64),.d (.int .i64),.d .str,.d .str])],res:=.one (.c (.d .bool)),F:=fun p=>qa3 n p.1 p.2 }
def j48 (n:Nat):List FC:=[q4m n]
theorem jcf (n:Nat) {G:World→Prop} (hG:Know Inv G) : ∀ c∈j48 n,q1b Tryz.prog G c∧q0e c.args=true:=List.forall_mem_cons.2 ⟨qsn n G hG,(fun _ h=>by cases h)⟩
def j6w:q0c:=[]
theorem jmf:drB j6w (q00 Tryz.f33)=true:=by kernel_rfl
theorem jp8 (n:Nat) : ∀ a,(q9d n).F a=main Tryz.prog 9 (j48 n) (qym n) j6w (q00 Tryz.f33) [.tmp 4] (q9d n).args (q9d n).res a:=by intro a;kernel_rfl
theorem j5j (n:Nat):q0a Inv Tryz.prog (q9d n):=fun G hG=>⟨⟨by kernel_rfl,fun a r h=>q03 (c:=q00 Tryz.f33) Tryz.func33 (by kernel_rfl) (by kernel_rfl) (Nat.le_of_ble_eq_true (by kernel_rfl)) hG.st (by kernel_rfl) (rs:=[.tmp 4]) (by kernel_rfl) (jcf n hG) (lts:=qym n) (fun F hF hFG=>have hK:Know Inv F.G:=hFG ▸ hG;(q02 fun j L h1 h2 h3=>absurd h2 (Nat.not_lt.2 (Nat.le_trans (by decide +kernel) h1)))) jmf ((jp8 n a).symm.trans h)⟩,rfl⟩
@[reducible] def qay:SSt:=⟨[(1,.one (.c (.d .str))),(4,.one (.c (.box 4 0))),(6,.one (.c (.box 6 0))),(7,.one (.c (.d .bool))),(11,.one (.c (.d (.lst (.prod .str (.prod (.int .i64) (.prod (.int .i64) (.prod (.int .i64) (.prod .str (.prod .str .str)))))))))),(12,.one (.c (.d (.int .i64)))),(13,.one (.c (.d (.int .i64))))],[(4,(32,[.d .str,.d (.int .i64),.d (.int .i64),.d (.int .i64),.d .str,.d .str,.d .str])),(6,(32,[.d .str,.d (.int .i64),.d (.int .i64),.d (.int .i64),.d .str,.d .str,.d .str]))],[]⟩
@[reducible] def q6q:List (Exit×SSt):=[(.exit 0,⟨[(4,.one (.c (.box 4 0))),(6,.one (.c (.box 6 0))),(7,.one (.c (.d .bool)))],[(4,(32,[.d .str,.d (.int .i64),.d (.int .i64),.d (.int .i64),.d .str,.d .str,.d .str])),(6,(32,[.d .str,.d (.int .i64),.d (.int .i64),.d (.int .i64),.d .str,.d .str,.d .str]))],[]⟩)]
def qkt (n:Nat) (rec:(List UInt8)→Bool→(List (List UInt8×((Int)×((Int)×((Int)×(List UInt8×(List UInt8×(List UInt8))))))))→Int→Int→(List UInt8)→Int→Int→Int→(List UInt8)→(List UInt8)→(List UInt8)→(List UInt8)→Int→Int→Int→(List UInt8)→(List UInt8)→(List UInt8)→Option ((Unit×(Unit×(Bool×(Unit))))×(((List UInt8)×(Int×(Int×(Int×((List UInt8)×((List UInt8)×(List UInt8)))))))×(((List UInt8)×(Int×(Int×(Int×((List UInt8)×((List UInt8)×(List UInt8)))))))×(Unit)))×(Unit))) (a1:List UInt8) (a2:Bool) (a3:List (List UInt8×((Int)×((Int)×((Int)×(List UInt8×(List UInt8×(List UInt8)))))))) (a4:Int) (a5:Int) (a6:List UInt8) (a7:Int) (a8:Int) (a9:Int) (a10:List UInt8) (a11:List UInt8) (a12:List UInt8) (a13:List UInt8) (a14:Int) (a15:Int) (a16:Int) (a17:List UInt8) (a18:List UInt8) (a19:List UInt8):Option ((Unit×(Unit×(Bool×(Unit))))×(((List UInt8)×(Int×(Int×(Int×((List UInt8)×((List UInt8)×(List UInt8)))))))×(((List UInt8)×(Int×(Int×(Int×((List UInt8)×((List UInt8)×(List UInt8)))))))×(Unit)))×(Unit)) :=
 (bif decide (a5<a4) then (q1a a3 a5).bind fun (x1:List UInt8×((Int)×((Int)×((Int)×(List UInt8×(List UInt8×(List UInt8)))))))=>(bif decide (x1.1=a1) then (bif !a2 then q0b (IntKind.wrap .i64 (a5+(1:Int))) fun (n2:Int)=>rec a1 true a3 a4 n2 a6 a7 a8 a9 a10 a11 a12 x1.1 x1.2.1 x1.2.2.1 x1.2.2.2.1 x1.2.2.2.2.1 x1.2.2.2.2.2.1 x1.2.2.2.2.2.2 else (q6t n (x1.2.1,(x1.2.2.1,(x1.2.2.2.1,(x1.2.2.2.2.1,x1.2.2.2.2.2.1)))) (a14,(a15,(a16,(a17,a18))))).bind fun (r3:Int)=>(bif decide ((0:Int)<r3) then q0b (IntKind.wrap .i64 (a5+(1:Int))) fun (n4:Int)=>rec a1 true a3 a4 n4 a6 a7 a8 a9 a10 a11 a12 x1.1 x1.2.1 x1.2.2.1 x1.2.2.2.1 x1.2.2.2.2.1 x1.2.2.2.2.2.1 x1.2.2.2.2.2.2 else q0b (IntKind.wrap .i64 (a5+(1:Int))) fun (n5:Int)=>rec a1 a2 a3 a4 n5 a6 a7 a8 a9 a10 a11 a12 a13 a14 a15 a16 a17 a18 a19)) else q0b (IntKind.wrap .i64 (a5+(1:Int))) fun (n6:Int)=>rec a1 a2 a3 a4 n6 a6 a7 a8 a9 a10 a11 a12 a13 a14 a15 a16 a17 a18 a19) else some ((((),((),(a2,()))),(((a6,(a7,(a8,(a9,(a10,(a11,a12)))))),((a13,(a14,(a15,(a16,(a17,(a18,a19)))))),())),()))))
def qm0 (n:Nat) (rec:pSt qay→Option (q0f q6q)) (p:pSt qay):Option (q0f q6q):=qkt n (fun a1 a2 a3 a4 a5 a6 a7 a8 a9 a10 a11 a12 a13 a14 a15 a16 a17 a18 a19=>rec ((a1,((),((),(a2,(a3,(a4,(a5,()))))))),(((a6,(a7,(a8,(a9,(a10,(a11,a12)))))),((a13,(a14,(a15,(a16,(a17,(a18,a19)))))),())),()))) p.1.1 p.1.2.2.2.1 p.1.2.2.2.2.1 p.1.2.2.2.2.2.1 p.1.2.2.2.2.2.2.1 p.2.1.1.1 p.2.1.1.2.1 p.2.1.1.2.2.1 p.2.1.1.2.2.2.1 p.2.1.1.2.2.2.2.1 p.2.1.1.2.2.2.2.2.1 p.2.1.1.2.2.2.2.2.2 p.2.1.2.1.1 p.2.1.2.1.2.1 p.2.1.2.1.2.2.1 p.2.1.2.1.2.2.2.1 p.2.1.2.1.2.2.2.2.1 p.2.1.2.1.2.2.2.2.2.1 p.2.1.2.1.2.2.2.2.2.2
def q4e (n m:Nat) (a1:List UInt8) (a2:Bool) (a3:List (List UInt8×((Int)×((Int)×((Int)×(List UInt8×(List UInt8×(List UInt8)))))))) (a4:Int) (a5:Int) (a6:List UInt8) (a7:Int) (a8:Int) (a9:Int) (a10:List UInt8) (a11:List UInt8) (a12:List UInt8) (a13:List UInt8) (a14:Int) (a15:Int) (a16:Int) (a17:List UInt8) (a18:List UInt8) (a19:List UInt8):Option ((Unit×(Unit×(Bool×(Unit))))×(((List UInt8)×(Int×(Int×(Int×((List UInt8)×((List UInt8)×(List UInt8)))))))×(((List UInt8)×(Int×(Int×(Int×((List UInt8)×((List UInt8)×(List UInt8)))))))×(Unit)))×(Unit)):=q0g (qm0 n) m ((a1,((),((),(a2,(a3,(a4,(a5,()))))))),(((a6,(a7,(a8,(a9,(a10,(a11,a12)))))),((a13,(a14,(a15,(a16,(a17,(a18,a19)))))),())),()))
theorem qim (n m:Nat) (a1:List UInt8) (a2:Bool) (a3:List (List UInt8×((Int)×((Int)×((Int)×(List UInt8×(List UInt8×(List UInt8)))))))) (a4:Int) (a5:Int) (a6:List UInt8) (a7:Int) (a8:Int) (a9:Int) (a10:List UInt8) (a11:List UInt8) (a12:List UInt8) (a13:List UInt8) (a14:Int) (a15:Int) (a16:Int) (a17:List UInt8) (a18:List UInt8) (a19:List UInt8):q4e n (m+1) a1 a2 a3 a4 a5 a6 a7 a8 a9 a10 a11 a12 a13 a14 a15 a16 a17 a18 a19=qkt n (fun a1 a2 a3 a4 a5 a6 a7 a8 a9 a10 a11 a12 a13 a14 a15 a16 a17 a18 a19=>q4e n m a1 a2 a3 a4 a5 a6 a7 a8 a9 a10 a11 a12 a13 a14 a15 a16 a17 a18 a19) a1 a2 a3 a4 a5 a6 a7 a8 a9 a10 a11 a12 a13 a14 a15 a16 a17 a18 a19:=rfl
def qyf (n:Nat):LC:={ sh:=qay,outs:=q6q,F:=q0g (qm0 n) n }
def qgv (n:Nat):List LC:=[qyf n]
def q32 (n:Nat) (a1:List (List UInt8×((Int)×((Int)×((Int)×(List UInt8×(List UInt8×(List UInt8)))))))) (a2:List UInt8):Option (((List UInt8)×(Int×(Int×(Int×((List UInt8)×((List UInt8)×(List UInt8)))))))×(Bool)) :=
 (q4e n n a2 false a1 ((List.length a1:Nat):Int) (0:Int) ([]:List UInt8) (0:Int) (0:Int) (0:Int) ([]:List UInt8) ([]:List UInt8) ([]:List UInt8) ([]:List UInt8) (0:Int) (0:Int) (0:Int) ([]:List UInt8) ([]:List UInt8) ([]:List UInt8)).bind fun (o7:(Unit×(Unit×(Bool×(Unit))))×(((List UInt8)×(Int×(Int×(Int×((List UInt8)×((List UInt8)×(List UInt8)))))))×(((List UInt8)×(Int×(Int×(Int×((List UInt8)×((List UInt8)×(List UInt8)))))))×(Unit)))×(Unit))=>some (o7.2.1.2.1,o7.1.2.2.1)
def q3i (n:Nat):FC:={ f:=18,args:=[.one (.c (.d (.lst (.prod .str (.prod (.int .i64) (.prod (.int .i64) (.prod (.int .i64) (.prod .str (.prod .str .str))))))))),.one (.c (.d .str))],res:=.tup [.agg [.d .str,.d (.int .i64),.d (.int .i64),.d (.int .i64),.d .str,.d .str,.d .str],.c (.d .bool)],F:=fun p=>q32 n p.1 p.2 }
def qlr (n:Nat):List FC:=[q4m n]
theorem qnh (n:Nat) {G:World→Prop} (hG:Know Inv G) : ∀ c∈qlr n,q1b Tryz.prog G c∧q0e c.args=true:=List.forall_mem_cons.2 ⟨qsn n G hG,(fun _ h=>by cases h)⟩
def qm2:q0c:=[]
theorem qy2:drB qm2 (q00 Tryz.f18)=true:=by kernel_rfl
theorem j8n (n:Nat) : ∀ rec p,qm0 n rec p=round Tryz.prog 37 (qlr n) (qgv n) qm2 1 qay q6q (q01 0 0 (q00 Tryz.f18)) rec p:=by intro rec p;kernel_rfl
theorem j40 (n:Nat) {F:Fr} (hF:F.n=37) (hK:Know Inv F.G):q71 Tryz.prog F (qyf n) (q01 0 0 (q00 Tryz.f18)) :=
 q0h hF (by kernel_rfl) (qnh n hK) (j8n n) (fuel:=n) (fun _=>rfl) (q02 fun j L h1 h2 h3=>absurd h2 (Nat.not_lt.2 (Nat.le_trans (by decide +kernel) h1))) (q0r qy2)
theorem jh4 (n:Nat) : ∀ a,(q3i n).F a=main Tryz.prog 37 (qlr n) (qgv n) qm2 (q00 Tryz.f18) [.cell 4 32,.tmp 5] (q3i n).args (q3i n).res a:=by intro a;kernel_rfl
theorem qdz (n:Nat):q0a Inv Tryz.prog (q3i n):=fun G hG=>⟨⟨by kernel_rfl,fun a r h=>q03 (c:=q00 Tryz.f18) Tryz.func18 (by kernel_rfl) (by kernel_rfl) (Nat.le_of_ble_eq_true (by kernel_rfl)) hG.st (by kernel_rfl) (rs:=[.cell 4 32,.tmp 5]) (by kernel_rfl) (qnh n hG) (lts:=qgv n) (fun F hF hFG=>have hK:Know Inv F.G:=hFG ▸ hG;(q02 (c:=(q00 Tryz.f18)) (fun j L h1 h2 h3=>by
  have h2':j<1:=Nat.lt_of_lt_of_le h2 (by decide +kernel)
  match j,h1,h2',h3 with
  | 0,_,_,h3=>obtain rfl:=Option.some.inj h3;exact (show q01 0 0 (q00 Tryz.f18)=q01 0 0 (q00 Tryz.f18) by kernel_rfl) ▸ j40 n hF hK
  | j+1,_,h2',_=>exact absurd h2' (by omega)))) qy2 ((jh4 n a).symm.trans h)⟩,rfl⟩
def j65 (n:Nat):List LC:=[]
def qgp (n:Nat) (a1:(List UInt8)×(Int×(Int×(Int×((List UInt8)×((List UInt8)×(List UInt8))))))):Option (List UInt8) :=
 (qlg n (a1.2.1,(a1.2.2.1,(a1.2.2.2.1,(a1.2.2.2.2.1,a1.2.2.2.2.2.1))))).bind fun (r1:List UInt8)=>(qri ([a1.1,r1,a1.2.2.2.2.2.2]:List (List UInt8)) ([32]:List UInt8)).bind fun (r2:List UInt8)=>(qaj r2 ([10]:List UInt8)).bind fun (s3:List UInt8)=>some s3
def qob (n:Nat):FC:={ f:=193,args:=[.one (.agg [.d .str,.d (.int .i64),.d (.int .i64),.d (.int .i64),.d .str,.d .str,.d .str])],res:=.one (.c (.d .str)),F:=fun p=>qgp n p }
def jeo (n:Nat):List FC:=[qed n,jji]
theorem jik (n:Nat) {G:World→Prop} (hG:Know Inv G) : ∀ c∈jeo n,q1b Tryz.prog G c∧q0e c.args=true:=List.forall_mem_cons.2 ⟨jdy n G hG,List.forall_mem_cons.2 ⟨ju9 G hG,(fun _ h=>by cases h)⟩⟩
def jdw:q0c:=[(1,[⟨3096,512,0⟩,⟨25104,4096,1⟩,⟨200720,32768,3⟩,⟨1572888,2^18,0⟩,⟨12845072,2^21,8⟩,⟨102760464,2^24,24⟩,⟨49*2^24,2^27,56⟩,⟨6442450968,2^30,0⟩,⟨52613349392,2^33,128⟩,⟨420906795024,2^36,384⟩,⟨3367388610560,5*2^39,1023⟩,⟨53*2^39,2^42,2047⟩,⟨49*2^42,2^45,4095⟩,⟨35184372089216,64,8191⟩])]
theorem js9:drB jdw (q00 Tryz.f193)=true:=by kernel_rfl
theorem jpi (n:Nat) : ∀ a,(qob n).F a=main Tryz.prog 16 (jeo n) (j65 n) jdw (q00 Tryz.f193) [.tmp 2] (qob n).args (qob n).res a:=by intro a;kernel_rfl
theorem jsj (n:Nat):q0a Inv Tryz.prog (qob n):=fun G hG=>⟨⟨by kernel_rfl,fun a r h=>q03 (c:=q00 Tryz.f193) Tryz.func193 (by kernel_rfl) (by kernel_rfl) (Nat.le_of_ble_eq_true (by kernel_rfl)) hG.st (by kernel_rfl) (rs:=[.tmp 2]) (by kernel_rfl) (jik n hG) (lts:=j65 n) (fun F hF hFG=>have hK:Know Inv F.G:=hFG ▸ hG;(q02 fun j L h1 h2 h3=>absurd h2 (Nat.not_lt.2 (Nat.le_trans (by decide +kernel) h1)))) js9 ((jpi n a).symm.trans h)⟩,rfl⟩
def j5z (n:Nat):List LC:=[]
def qqq (n:Nat) (a1:Unit) (a2:(List UInt8)×(Int×(Int×(Int×((List UInt8)×((List UInt8)×(List UInt8))))))) (b1:List (List UInt8×((Int)×((Int)×((Int)×(List UInt8×(List UInt8))))))):Option ((Int)×((List (List UInt8×((Int)×((Int)×((Int)×(List UInt8×(List UInt8)))))))×(Unit))×(Unit)) :=
 (qjj n a2).bind fun (r1:Int)=>(bif !decide (r1=(0:Int)) then some (r1,((b1,()),())) else jw2 (qc4 a2.1 b1) ((0:Int),((0:Int),((0:Int),(([]:List UInt8),([]:List UInt8))))) fun (y2:(Int)×((Int)×((Int)×(List UInt8×(List UInt8))))) (b3:Bool)=>(bif b3 then (qa3 n y2 (a2.2.1,(a2.2.2.1,(a2.2.2.2.1,(a2.2.2.2.2.1,a2.2.2.2.2.2.1))))).bind fun (r4:Bool)=>(bif !r4 then some ((13:Int),((b1,()),())) else some ((0:Int),((jhp a2.1 (a2.2.1,(a2.2.2.1,(a2.2.2.2.1,(a2.2.2.2.2.1,a2.2.2.2.2.2.1)))) b1,()),()))) else some ((0:Int),((jhp a2.1 (a2.2.1,(a2.2.2.1,(a2.2.2.2.1,(a2.2.2.2.2.1,a2.2.2.2.2.2.1)))) b1,()),()))))
def q3v (n:Nat):FX:={ f:=25,args:=[.one (.c (.mv 1000000)),.one (.agg [.d .str,.d (.int .i64),.d (.int .i64),.d (.int .i64),.d .str,.d .str,.d .str])],boxes:=[(1000000,(2199023259659,[.d (.lst (.prod .str (.prod (.int .i64) (.prod (.int .i64) (.prod (.int .i64) (.prod .str .str))))))]))],rows:=[],res:=.one (.c (.d (.int .i64))),oboxes:=[(1000000,(2199023259659,[.d (.lst (.prod .str (.prod (.int .i64) (.prod (.int .i64) (.prod (.int .i64) (.prod .str .str))))))]))],orows:=[],F:=fun p=>qqq n p.1.1 p.1.2 p.2.1.1 }
def jcl (n:Nat):List FC:=[q98 n,q9d n]
theorem jg8 (n:Nat) {G:World→Prop} (hG:Know Inv G) : ∀ c∈jcl n,q1b Tryz.prog G c∧q0e c.args=true:=List.forall_mem_cons.2 ⟨j46 n G hG,List.forall_mem_cons.2 ⟨j5j n G hG,(fun _ h=>by cases h)⟩⟩
def jfc:q0c:=[]
theorem jrc:drB jfc (q00 Tryz.f25)=true:=by kernel_rfl
theorem jql (n:Nat) : ∀ a,(q3v n).F a=jtz Tryz.prog 33 (jcl n) (j5z n) jfc (q00 Tryz.f25) [.tmp 4] (q3v n).args (q3v n).boxes (q3v n).rows (q3v n).res (q3v n).oboxes (q3v n).orows a:=by intro a;kernel_rfl
theorem j4v (n:Nat):jwx Inv Tryz.prog (q3v n):=fun G hG=>⟨by kernel_rfl,fun a r h=>jpl (x:=q3v n) (c:=q00 Tryz.f25) Tryz.func25 (by kernel_rfl) (by kernel_rfl) (Nat.le_of_ble_eq_true (by kernel_rfl)) (by kernel_rfl) (rs:=[.tmp 4]) (by kernel_rfl) (jg8 n hG) (lts:=j5z n) (fun F hF hFG=>have hK:Know Inv F.G:=hFG ▸ hG;(q02 fun j L h1 h2 h3=>absurd h2 (Nat.not_lt.2 (Nat.le_trans (by decide +kernel) h1)))) jrc ((jql n a).symm.trans h)⟩
end Go.Proofs.YtcdjkibiggjdoaaGreatDoor.AM
namespace Go.Proofs
open Go.RowKit Go.Shelf Go.Lib
set_option linter.unusedVariables false
set_option linter.unusedSimpArgs false
namespace YtcdjkibiggjdoaaGreatDoor.AM
abbrev qld:Ty:=.prod .str (.prod (.int .i64) (.prod (.int .i64) (.prod (.int .i64) (.prod .str (.prod .str .str)))))
def qyl (_:Unit) (n:Int):Option (Unit×(Unit×(List (den qld)×Unit))):=if 0≤n∧n≤1000000000000 then some ((),((),([],()))) else none
def jnc:FX:={ f:=55,args:=[.one (.c .nil),.one (.c (.d (.int .i64)))],boxes:=[],rows:=[],res:=.one (.c (.row 1000000)),oboxes:=[],orows:=[(1000000,⟨32,true,qld⟩)],F:=fun p=>qyl p.1.1 p.1.2 }
theorem jsi {F:Fr} {e:Env} {w w':World} {v:Value} (hp:Hp F qbm e w) (hown:q7o w' F.w0.heap.size 32 7 v 0 []) (hgr:w.grownBy w' none) (hblk : ∀ b,v.ownBlock=some b→w.heap.size≤b) (hsl : ∃ a n c,v = .slice a n c) :
  ∃ e',Hp F (eS ⟨[],[],[(1000000,⟨0,32,true,qld,[]⟩)]⟩) e' w'∧q1w e' (eS ⟨[],[],[(1000000,⟨0,32,true,qld,[]⟩)]⟩) w' v (.one (.c (.row 1000000 0))):=by
 obtain ⟨hf,hh⟩:=hp.rowNext 1000000 ⟨0,32,7,true,[]⟩ (.slice none 0 0) v [] (Or.inr ⟨rfl,rfl⟩) (fun x hx=>by cases hx) hown hgr (fun r hr=>by cases hr) (fun b hb=>Or.inr (hblk b hb)) trivial (fun u hu=>by cases hu)
 have hrow:(eS ⟨[],[],[(1000000,⟨0,32,true,qld,[]⟩)]⟩).row=upd qbm.row 1000000 (some ⟨0,32,7,true,[]⟩):=by
  funext i
  show (lk [(1000000,(⟨0,32,true,qld,[]⟩:TRow))] i).map eR=_
  rw [q0p]
  unfold upd
  split<;>rfl
 have h2:=hh.re (F':=F) (σ':=eS ⟨[],[],[(1000000,⟨0,32,true,qld,[]⟩)]⟩) rfl rfl rfl rfl rfl (by funext i;rfl) hrow
 refine ⟨_,h2,?_⟩
 show (∃ r,(eS ⟨[],[],[(1000000,⟨0,32,true,qld,[]⟩)]⟩).row 1000000=some r∧0≤r.gen)∧v=j2h e.rv 1000000 0 v 1000000 0∧∃ a n c,v = .slice a n c
 refine ⟨⟨⟨0,32,7,true,[]⟩,by rw [hrow];exact q0s _ _ _,Nat.zero_le _⟩,(q1r _ _ _ _).symm,hsl⟩
set_option maxRecDepth 100000 in
set_option maxHeartbeats 1600000 in
theorem jic (n:Nat) (w:World) (hn:n≤1000000000000):Calls Tryz.prog 55 #[.slice none 0 0,.int .i64 n] w fun e w'=>∃ v,e = .returned v∧(∀ base,base≤w.heap.size→q7o w' base 32 7 v 0 [])∧w.grownBy w' none∧(∀ b,v.ownBlock=some b→w.heap.size≤b)∧∃ a n c,v = .slice a n c:=by
 rcases Nat.eq_zero_or_pos n with rfl|h0
 ·go_enter Tryz.func55,Tryz.ntmps55
  go_wp2
  go_ret
  refine ⟨.slice none 0 0,rfl,fun base _=>j4s _ _ _ _,World.grownBy.refl _ _,?_,none,0,0,rfl⟩
  intro b hb
  cases hb
 ·have hi:(0:Int)<(n:Int):=by omega
  have hA:=Lib.run_append_nil_zeros (P:=Tryz.prog) w 23 3 23 32 Tryz.t32 _ .i64 .i64 (by kernel_rfl) (by kernel_rfl) (by kernel_rfl) rfl n h0 (by decide) (by omega) (by show n*88≤_;omega)
  have hgc:=grownCap_ge w n 0 32
  have hgm:=grownCap_le_maxLen w n 0 32 (by unfold maxLen;omega)
  generalize grownCap w n 0 32=cap at hA hgc hgm
  obtain ⟨row,hrow⟩ : ∃ r,Builtin.zeroCells (Tryz.t32.zero.getD undef).cells n++Builtin.zeroCells (Tryz.t32.zero.getD undef).cells (cap - n)=r:=⟨_,rfl⟩
  have hA2:(Builtin.append_ #[23,3] 23 #[.slice none 0 0,.int .i64 n]).run Tryz.prog w = .ok (.slice (some ⟨w.heap.size,0,none⟩) n cap) (w.drew.alloc (.cells row 32)):=by rw [← hrow];exact hA
  clear hA
  go_enter Tryz.func55,Tryz.ntmps55
  go_wp2_with (at_builtin;refine Lib.wpList_append_run _ rfl _ _ _ _ rfl _ _ rfl rfl _ _ hA2 ?_)
  go_ret
  have hsz:row.size=cap*7:=by
   rw [← hrow,Array.size_append,size_zeroCells,size_zeroCells]
   have h7:(Tryz.t32.zero.getD undef).cells.size=7:=rfl
   rw [h7];omega
  refine ⟨_,rfl,fun base hb=>⟨rfl,Or.inr ⟨w.heap.size,cap,row,rfl,hb,?_,Nat.zero_le _,hgm,hsz,?_⟩⟩,?_,?_,_,_,_,rfl⟩
  ·exact heap_alloc_new w.drew _
  ·rw [Nat.zero_mul];exact List.take_zero
  ·have h1:=World.grownBy_alloc w.drew (.cells row 32) none
   exact ⟨h1.os,h1.tape,h1.output,h1.size,h1.block⟩
  ·intro b hb
   have:w.heap.size=b:=Option.some.inj hb
   omega
theorem jqv:jwx Inv Tryz.prog jnc:=fun G hG=>⟨by kernel_rfl,fun p q h=>by
 obtain ⟨⟨u,n⟩,p2⟩:=p
 have h':qyl u n=some q:=h
 unfold qyl at h'
 split at h'
 case isFalse=>cases h'
 rename_i hn
 obtain rfl:=Option.some.inj h'
 intro F hF e w vs hp hv
 obtain ⟨l⟩:=vs
 match l,hv with
 | [x,y],⟨h1,h2,_⟩ =>
  obtain rfl:x = .slice none 0 0:=q07 h1
  obtain rfl:y = .int .i64 n:=q07 h2
  obtain ⟨m,rfl⟩ : ∃ m:Nat,n=(m:Int):=⟨Int.toNat n,(Int.toNat_of_nonneg hn.1).symm⟩
  refine (jic m w (by have h7:=hn.2;omega)).mono ?_
  rintro e1 w' ⟨v,rfl,hown,hgr,hblk,hsl⟩
  have hp':Hp F qbm e w:=hp.re (F':=F) (σ':=qbm) rfl rfl rfl rfl rfl (by funext i;rfl) (by funext i;rfl)
  obtain ⟨e',k1,k2⟩:=jsi hp' (hown _ hp.sizeLe) hgr hblk hsl
  exact ⟨v,e',rfl,k1,k2⟩⟩
def jwl:Value→Option (den qld)
 | .iface 57 (.agg ⟨[.string p,.int .i64 a,.int .i64 b,.int .i64 c,.string q,.string r,.string h]⟩)=>some (unB p,(a,(b,(c,(unB q,(unB r,unB h))))))
 | _=>none
def jrf (x:den qld):Value:=.agg ⟨[.string (ba x.1),.int .i64 x.2.1,.int .i64 x.2.2.1,.int .i64 x.2.2.2.1,.string (ba x.2.2.2.2.1),.string (ba x.2.2.2.2.2.1),.string (ba x.2.2.2.2.2.2)]⟩
theorem jub {v:Value} {x:den qld} (h:jwl v=some x):v = .iface 57 (jrf x):=by
 unfold jwl at h
 split at h
 case h_2=>cases h
 rename_i p a b c q r hh
 obtain rfl:=Option.some.inj h
 unfold jrf
 simp only [jdc]
def juj (n:Nat):List IV→Option (List (List UInt8))
 | []=>some []
 | v::l=>match (jwl v.1).bind (qgp n),juj n l with
  | some a,some b=>some (a::b)
  | _,_=>none
def j8g (n:Nat) (l:List IV):Option (List UInt8):=(juj n l).bind fun ls=>if ls.flatten.length≤100000000000∧l.length≤100000000000 then some ls.flatten else none
def jt3 (n:Nat):FC:={ f:=29,args:=[.one (.c (.d (.lst .any)))],res:=quw,F:=fun p=>j8g n p }
theorem jny {n:Nat} : ∀ {l:List IV} {ls:List (List UInt8)},juj n l=some ls→ls.length=l.length∧∀ k (hk:k<l.length) (hk':k<ls.length),∃ x,(l[k]).1 = .iface 57 (jrf x)∧qgp n x=some ls[k]
 | [],ls,h=>by
  obtain rfl:=Option.some.inj h
  exact ⟨rfl,fun k hk=>by simp at hk⟩
 | v::l,ls,h=>by
  unfold juj at h
  split at h
  case h_2=>cases h
  rename_i a b h1 h2
  obtain rfl:=Option.some.inj h
  obtain ⟨h3,h4⟩:=jny h2
  refine ⟨by rw [List.length_cons,List.length_cons,h3],fun k hk hk'=>?_⟩
  cases k with
  | zero =>
   obtain ⟨x,hx,h5⟩:=Option.bind_eq_some_iff.1 h1
   exact ⟨x,jub hx,h5⟩
  | succ k=>exact h4 k (by simpa using hk) (by simpa using hk')
theorem jy6 (B b:Nat) (l s:List UInt8) (w:World) (h:Lib.IsBuilder 78 5 B b (Lib.byteCells l) w) (hlen:l.length+s.length≤140737488355328) (hBw:B≤w.heap.size) :
  Calls Tryz.prog 47 #[.pointer (some ⟨b,0,none⟩),.string (ba s)] w fun e w'=>e = .returned (.tuple #[.int .i64 (ba s).size,.nilIface])∧Lib.IsBuilder 78 5 B b (Lib.byteCells (l++s)) w'∧Below B w w':=by
 refine Calls.mono (Any.Builder_WriteString (ρ:=Tryz.lays156_ren) { Tryz.lays156 with } Tryz.Builder_Extra_156 B b (Lib.byteCells l) (ba s) w h (by rw [Lib.byteCells_length,q1o];exact hlen) hBw) ?_
 rintro e w' ⟨he,h1,h2⟩
 refine ⟨he,.inr ?_,h2⟩
 have e1:(ba s).data.toList=s:=by simp [ba]
 have e2:Lib.byteCells s=Lib.strCells (ba s):=by rw [Lib.strCells_eq,e1]
 rw [Lib.byteCells_append,e2]
 exact h1
theorem jkm {T e B b:Nat} {bs:List Value} {w w':World} (h:Lib.IsBuilder T e B b bs w) (hb:Below w.heap.size w w'):Lib.IsBuilder T e B b bs w':=by
 have key : ∀ p,Lib.BuilderAt T e B b p bs w→Lib.BuilderAt T e B b p bs w':=fun p ⟨h1,v,h2,h3,h4⟩=>⟨h1,v,(hb.block b (q5w h2)).trans h2,by
  refine ⟨h3.1,?_⟩
  rcases h3.2 with h5|⟨g,cap,cur,h5,h6,h7,h8⟩
  ·exact .inl h5
  ·exact .inr ⟨g,cap,cur,h5,h6,(hb.block g (q5w h7)).trans h7,h8⟩,h4⟩
 rcases h with h|h
 ·exact .inl (key _ h)
 ·exact .inr (key _ h)
theorem jyp (n:Nat) (x:den qld) (s:List UInt8) (w:World) (hI:Inv w) (h:qgp n x=some s):Calls Tryz.prog 193 #[jrf x] w fun e w'=>e = .returned (.string (ba s))∧Below w.heap.size w w':=by
 have hh:=(jsj n Inv q2r).1.2 x s h
 refine (hh (fun _ _=>False) w #[jrf x] hI (fun b o h=>h.elim) ⟨⟨_,rfl,.v _,.v _,.v _,.v _,.v _,.v _,.v _,trivial⟩,trivial⟩).mono ?_
 rintro e w' ⟨v,Pc,rfl,hb,_,_,hv⟩
 have hv':v = .string (ba s):=q07 hv
 rw [hv']
 exact ⟨rfl,hb⟩
theorem lineM (x:den qld) (w:World):(Go.method 290 57 (jrf x) "armada/ledger.line").run Tryz.prog w = .ok (193,jrf x) w:=by kernel_rfl
theorem jnh {Pc:Nat→Nat→Prop} {w:World} {v:Value} {l:List IV} (hP : ∀ b o,Pc b o→b<w.heap.size) (h:DatRep Pc w v (.lst 1 (l.map (q04 .any)))) :
  ∃ a cap,v = .slice a l.length cap∧l.length≤cap∧cap≤maxLen∧(0<l.length→∃ b off,a=some ⟨b,off,none⟩∧b<w.heap.size∧∀ k (hk:k<l.length),w.cell? ⟨b,off+k,none⟩=some (l[k]).1):=by
 obtain ⟨a,cap,rfl,h1,h2,h3,h4⟩:=j6j (by omega) hP h
 have hlen:(l.map (q04 .any)).length=l.length:=List.length_map ..
 rw [hlen] at h1
 refine ⟨a,cap,by rw [hlen],h1,h2,fun hl=>?_⟩
 obtain ⟨b,off,rfl,hb,c,hc,hr⟩:=h4 (by rw [hlen];exact hl)
 refine ⟨b,off,rfl,hb,fun k hk=>?_⟩
 have k1:=(hc k 0 (by rw [hlen];exact hk) (by omega)).2.1
 have k2:=hr k 0 (by simpa using hk) (by rw [List.getElem_map];simp [q04])
 simp only [List.getElem_map] at k2
 have k3:DatRep Pc w (c k 0) (.v (l[k]).1):=k2
 have k4:c k 0=(l[k]).1:=by generalize c k 0=u at k3;cases k3 with|v x=>rfl
 rw [k4] at k1
 simpa using k1
set_option maxHeartbeats 4000000 in
set_option maxRecDepth 1000000 in
theorem jl4 (n:Nat) {Pc:Nat→Nat→Prop} (w:World) (v:Value) (l:List IV) (ls:List (List UInt8)) (hI:Inv w) (hP : ∀ b o,Pc b o→b<w.heap.size) (hl:juj n l=some ls) (hb:ls.flatten.length≤100000000000) (hb2:l.length≤100000000000)
  (h2:DatRep Pc w v (.lst 1 (l.map (q04 .any)))) :
  Calls Tryz.prog 29 #[v] w fun e w'=>e = .returned (.string (ba ls.flatten))∧Below w.heap.size w w':=by
 obtain ⟨a,cap,rfl,hl1,hl2,hcs⟩:=jnh hP h2
 obtain ⟨hlen,hat⟩:=jny hl
 have HC:=hid hcs
 have HA:=hid hat
 clear h2 hcs hat hl hP
 go_enter Tryz.func29,Tryz.ntmps29
 go_wp2_with fail
 have hnew:=Go.Lib.fresh_isBuilder 78 5 w
 go_loopw [8] (fun i wr=>∃ k:Nat,k≤l.length∧i = .int .i64 k∧Lib.IsBuilder 78 5 w.heap.size w.heap.size (Lib.byteCells (ls.take k).flatten) wr∧Below w.heap.size w wr) (fun i _=>l.length - (RowKit.intOf i).toNat)
 case atStart=>exact ⟨0,Nat.zero_le _,rfl,hnew,(Below.refl _ _).alloc (Nat.le_refl _) _⟩
 case round =>
  obtain ⟨k,hk,rfl,hbld,hbel⟩:=hrel
  have HB:=hid hbld
  clear hbld hnew
  have hIr:=hI.below hbel
  have hfl:(ls.take k).flatten.length≤100000000000:=by
   have:ls.flatten.length=(ls.take k).flatten.length+(ls.drop k).flatten.length:=by rw [← List.length_append,← List.flatten_append,List.take_append_drop]
   omega
  by_cases hkl:k<l.length
  ·obtain ⟨b,off,rfl,hbw,hcell⟩:=HC.out (by omega)
   have hkl':k<ls.length:=by omega
   obtain ⟨x,hx,hline⟩:=HA.out k hkl hkl'
   have hcx:wr.cell? ⟨b,off+k,none⟩=some (.iface 57 (jrf x)):=(hbel.cell (p:=⟨b,off+k,none⟩) hbw).trans ((hcell k hkl).trans (by rw [hx]))
   have hsnoc:Hid ((ls.take k).flatten++ls[k]=(ls.take (k+1)).flatten):=hid (by rw [List.take_succ_eq_append_getElem hkl',List.flatten_append];simp)
   have hfl2:(ls.take k).flatten.length+ls[k].length≤100000000000:=by
    have h5:=congrArg List.length hsnoc.out
    rw [List.length_append] at h5
    have:ls.flatten.length=(ls.take (k+1)).flatten.length+(ls.drop (k+1)).flatten.length:=by rw [← List.length_append,← List.flatten_append,List.take_append_drop]
    omega
   have hkk:(k:Int)<(l.length:Int):=by omega
   generalize ls[k]=s at *
   have hln:=jyp n x s wr hIr hline
   have hM:=lineM x wr
   clear hcell hx hline
   go_wp2_with fail
   refine hln.mono ?_
   rintro e W1 ⟨rfl,hb1⟩
   clear hln hM
   have HB1:=hid (jkm HB.out hb1)
   have hbel1:=hbel.trans (hb1.mono hbel.size)
   have hwr:=jy6 w.heap.size w.heap.size (ls.take k).flatten s W1 HB1.out (by omega) hbel1.size
   go_wp2_with fail
   refine hwr.mono ?_
   rintro e W2 ⟨rfl,hbld2,hb2'⟩
   clear hwr
   rw [hsnoc.out] at hbld2
   have HB2:=hid hbld2
   clear hbld2
   have hbel2:=hbel1.trans hb2'
   go_wp2_with fail
   go_roundw
   case rel=>exact ⟨k+1,by omega,by go_num,HB2.out,hbel2⟩
   case measure=>simp [RowKit.intOf];omega
  ·have hkk:k=l.length:=by omega
   subst hkk
   have hlen2:Hid (ls.take l.length=ls):=hid (List.take_of_length_le (by omega))
   have hkn : ¬ (l.length:Int)<(l.length:Int):=by omega
   have hst:=Tryz.Builder_String_any w.heap.size w.heap.size (ls.take l.length).flatten wr HB.out hbel.size
   go_wp2_with fail
   refine hst.mono ?_
   rintro e W3 ⟨rfl,hb3⟩
   clear hst
   go_wp2
   go_ret
   rw [hlen2.out]
   exact ⟨rfl,hbel.trans hb3⟩
theorem jy4 (n:Nat):q0a Inv Tryz.prog (jt3 n):=fun G hG=>⟨⟨by kernel_rfl,fun (l:List IV) r h=>by
 have h':j8g n l=some r:=h
 obtain ⟨ls,hl,h3⟩:=Option.bind_eq_some_iff.1 h'
 split at h3
 case isFalse=>cases h3
 rename_i hc
 obtain rfl:=Option.some.inj h3
 intro Pc w vs hg hlt hv
 obtain ⟨vl⟩:=vs
 match vl,hv with
 | [x],⟨h1,_⟩ =>
  refine (jl4 n w x l ls (hG.im w hg) hlt hl hc.1 hc.2 h1).mono ?_
  rintro e w' ⟨rfl,hbel⟩
  exact q5r rfl hbel (q05 _)⟩,rfl⟩
end YtcdjkibiggjdoaaGreatDoor.AM
end Go.Proofs
namespace Go.Proofs.YtcdjkibiggjdoaaGreatDoor.AM
open Go.RowKit
set_option linter.unusedVariables false
set_option maxRecDepth 20000
@[reducible] def qet:SSt:=⟨[(6,.one (.c (.row 24))),(25,.one (.c (.d (.lst (.lst (.prod .str (.prod (.int .i64) (.prod (.int .i64) (.prod (.int .i64) (.prod .str (.prod .str .str))))))))))),(26,.one (.c (.d (.int .i64)))),(27,.one (.c (.d (.int .i64))))],[],[(24,⟨32,true,(.prod .str (.prod (.int .i64) (.prod (.int .i64) (.prod (.int .i64) (.prod .str (.prod .str .str))))))⟩)]⟩
@[reducible] def q8n:List (Exit×SSt):=[(.exit 2,⟨[(6,.one (.c (.row 24)))],[],[(24,⟨32,true,(.prod .str (.prod (.int .i64) (.prod (.int .i64) (.prod (.int .i64) (.prod .str (.prod .str .str))))))⟩)]⟩)]
def qsm (n:Nat) (rec:(List (List (List UInt8×((Int)×((Int)×((Int)×(List UInt8×(List UInt8×(List UInt8)))))))))→Int→Int→(List (List UInt8×((Int)×((Int)×((Int)×(List UInt8×(List UInt8×(List UInt8))))))))→Option ((Unit×(Unit))×(Unit)×((List (List UInt8×((Int)×((Int)×((Int)×(List UInt8×(List UInt8×(List UInt8))))))))×(Unit)))) (a1:List (List (List UInt8×((Int)×((Int)×((Int)×(List UInt8×(List UInt8×(List UInt8))))))))) (a2:Int) (a3:Int) (a4:List (List UInt8×((Int)×((Int)×((Int)×(List UInt8×(List UInt8×(List UInt8)))))))):Option ((Unit×(Unit))×(Unit)×((List (List UInt8×((Int)×((Int)×((Int)×(List UInt8×(List UInt8×(List UInt8))))))))×(Unit))) :=
 (bif decide (a3<a2) then (q1a a1 a3).bind fun (x6:List (List UInt8×((Int)×((Int)×((Int)×(List UInt8×(List UInt8×(List UInt8))))))))=>(qj6 88 a4 x6).bind fun (l7:List (List UInt8×((Int)×((Int)×((Int)×(List UInt8×(List UInt8×(List UInt8))))))))=>q0b (IntKind.wrap .i64 (a3+(1:Int))) fun (n8:Int)=>rec a1 a2 n8 l7 else some ((((),()),((),(a4,())))))
def qtr (n:Nat) (rec:pSt qet→Option (q0f q8n)) (p:pSt qet):Option (q0f q8n):=qsm n (fun a1 a2 a3 a4=>rec (((),(a1,(a2,(a3,())))),((),(a4,())))) p.1.2.1 p.1.2.2.1 p.1.2.2.2.1 p.2.2.1
def q57 (n m:Nat) (a1:List (List (List UInt8×((Int)×((Int)×((Int)×(List UInt8×(List UInt8×(List UInt8))))))))) (a2:Int) (a3:Int) (a4:List (List UInt8×((Int)×((Int)×((Int)×(List UInt8×(List UInt8×(List UInt8)))))))):Option ((Unit×(Unit))×(Unit)×((List (List UInt8×((Int)×((Int)×((Int)×(List UInt8×(List UInt8×(List UInt8))))))))×(Unit))):=q0g (qtr n) m (((),(a1,(a2,(a3,())))),((),(a4,())))
theorem qkp (n m:Nat) (a1:List (List (List UInt8×((Int)×((Int)×((Int)×(List UInt8×(List UInt8×(List UInt8))))))))) (a2:Int) (a3:Int) (a4:List (List UInt8×((Int)×((Int)×((Int)×(List UInt8×(List UInt8×(List UInt8)))))))):q57 n (m+1) a1 a2 a3 a4=qsm n (fun a1 a2 a3 a4=>q57 n m a1 a2 a3 a4) a1 a2 a3 a4:=rfl
def j3i (n:Nat):LC:={ sh:=qet,outs:=q8n,F:=q0g (qtr n) n }
@[reducible] def qec:SSt:=⟨[(0,.one (.c (.d (.lst (.lst (.prod .str (.prod (.int .i64) (.prod (.int .i64) (.prod (.int .i64) (.prod .str (.prod .str .str))))))))))),(3,.one (.c (.d (.int .i64)))),(9,.one (.c (.d (.lst (.lst (.prod .str (.prod (.int .i64) (.prod (.int .i64) (.prod (.int .i64) (.prod .str (.prod .str .str))))))))))),(10,.one (.c (.d (.int .i64)))),(11,.one (.c (.d (.int .i64))))],[],[]⟩
@[reducible] def q7w:List (Exit×SSt):=[(.exit 0,⟨[(0,.one (.c (.d (.lst (.lst (.prod .str (.prod (.int .i64) (.prod (.int .i64) (.prod (.int .i64) (.prod .str (.prod .str .str))))))))))),(3,.one (.c (.d (.int .i64))))],[],[]⟩)]
def qs4 (n:Nat) (rec:(List (List (List UInt8×((Int)×((Int)×((Int)×(List UInt8×(List UInt8×(List UInt8)))))))))→Int→(List (List (List UInt8×((Int)×((Int)×((Int)×(List UInt8×(List UInt8×(List UInt8)))))))))→Int→Int→Option (((List (List (List UInt8×((Int)×((Int)×((Int)×(List UInt8×(List UInt8×(List UInt8)))))))))×(Int×(Unit)))×(Unit)×(Unit))) (a1:List (List (List UInt8×((Int)×((Int)×((Int)×(List UInt8×(List UInt8×(List UInt8))))))))) (a2:Int) (a3:List (List (List UInt8×((Int)×((Int)×((Int)×(List UInt8×(List UInt8×(List UInt8))))))))) (a4:Int) (a5:Int):Option (((List (List (List UInt8×((Int)×((Int)×((Int)×(List UInt8×(List UInt8×(List UInt8)))))))))×(Int×(Unit)))×(Unit)×(Unit)) :=
 (bif decide (a5<a4) then (q1a a3 a5).bind fun (x1:List (List UInt8×((Int)×((Int)×((Int)×(List UInt8×(List UInt8×(List UInt8))))))))=>q0b (IntKind.wrap .i64 (a2+((List.length x1:Nat):Int))) fun (n2:Int)=>(bif decide (n2<(0:Int)) then none else q0b (IntKind.wrap .i64 (a5+(1:Int))) fun (n3:Int)=>rec a1 n2 a3 a4 n3) else some (((a1,(a2,())),((),()))))
def qsp (n:Nat) (rec:pSt qec→Option (q0f q7w)) (p:pSt qec):Option (q0f q7w):=qs4 n (fun a1 a2 a3 a4 a5=>rec ((a1,(a2,(a3,(a4,(a5,()))))),((),()))) p.1.1 p.1.2.1 p.1.2.2.1 p.1.2.2.2.1 p.1.2.2.2.2.1
def q5h (n m:Nat) (a1:List (List (List UInt8×((Int)×((Int)×((Int)×(List UInt8×(List UInt8×(List UInt8))))))))) (a2:Int) (a3:List (List (List UInt8×((Int)×((Int)×((Int)×(List UInt8×(List UInt8×(List UInt8))))))))) (a4:Int) (a5:Int):Option (((List (List (List UInt8×((Int)×((Int)×((Int)×(List UInt8×(List UInt8×(List UInt8)))))))))×(Int×(Unit)))×(Unit)×(Unit)):=q0g (qsp n) m ((a1,(a2,(a3,(a4,(a5,()))))),((),()))
theorem qkc (n m:Nat) (a1:List (List (List UInt8×((Int)×((Int)×((Int)×(List UInt8×(List UInt8×(List UInt8))))))))) (a2:Int) (a3:List (List (List UInt8×((Int)×((Int)×((Int)×(List UInt8×(List UInt8×(List UInt8))))))))) (a4:Int) (a5:Int):q5h n (m+1) a1 a2 a3 a4 a5=qs4 n (fun a1 a2 a3 a4 a5=>q5h n m a1 a2 a3 a4 a5) a1 a2 a3 a4 a5:=rfl
def j6y (n:Nat):LC:={ sh:=qec,outs:=q7w,F:=q0g (qsp n) n }
def qdp (n:Nat):List LC:=[j6y n,j3i n]
def qie (n:Nat) (a1:List (List (List UInt8×((Int)×((Int)×((Int)×(List UInt8×(List UInt8×(List UInt8))))))))):Option (List (List UInt8×((Int)×((Int)×((Int)×(List UInt8×(List UInt8×(List UInt8)))))))) :=
 (q5h n n a1 (0:Int) a1 ((List.length a1:Nat):Int) (0:Int)).bind fun (o4:((List (List (List UInt8×((Int)×((Int)×((Int)×(List UInt8×(List UInt8×(List UInt8)))))))))×(Int×(Unit)))×(Unit)×(Unit))=>(qyl () o4.1.2.1).bind fun (r5:(Unit)×(Unit)×((List (List UInt8×((Int)×((Int)×((Int)×(List UInt8×(List UInt8×(List UInt8))))))))×(Unit)))=>(q57 n n o4.1.1 ((List.length o4.1.1:Nat):Int) (0:Int) r5.2.2.1).bind fun (o9:(Unit×(Unit))×(Unit)×((List (List UInt8×((Int)×((Int)×((Int)×(List UInt8×(List UInt8×(List UInt8))))))))×(Unit)))=>some o9.2.2.1
def qcg (n:Nat):FC:={ f:=34,args:=[.one (.c (.d (.lst (.lst (.prod .str (.prod (.int .i64) (.prod (.int .i64) (.prod (.int .i64) (.prod .str (.prod .str .str))))))))))],res:=.one (.c (.d (.lst (.prod .str (.prod (.int .i64) (.prod (.int .i64) (.prod (.int .i64) (.prod .str (.prod .str .str))))))))),F:=fun p=>qie n p }
def qiz (n:Nat):List FC:=[jit (jnc) [] [(1000000,24)]]
theorem qga (n:Nat) {G:World→Prop} (hG:Know Inv G) : ∀ c∈qiz n,q1b Tryz.prog G c∧q0e c.args=true:=List.forall_mem_cons.2 ⟨j90 (jqv G hG),(fun _ h=>by cases h)⟩
def qix:q0c:=[]
theorem qpn:drB qix (q00 Tryz.f34)=true:=by kernel_rfl
theorem jgk (n:Nat) : ∀ rec p,qtr n rec p=round Tryz.prog 36 (qiz n) (qdp n) qix 2 qet q8n (q01 0 1 (q00 Tryz.f34)) rec p:=by intro rec p;kernel_rfl
theorem jfz (n:Nat) : ∀ rec p,qsp n rec p=round Tryz.prog 36 (qiz n) (qdp n) qix 1 qec q7w (q01 0 0 (q00 Tryz.f34)) rec p:=by intro rec p;kernel_rfl
theorem jar (n:Nat) {F:Fr} (hF:F.n=36) (hK:Know Inv F.G):q71 Tryz.prog F (j3i n) (q01 0 1 (q00 Tryz.f34)) :=
 q0h hF (by kernel_rfl) (qga n hK) (jgk n) (fuel:=n) (fun _=>rfl) (q02 fun j L h1 h2 h3=>absurd h2 (Nat.not_lt.2 (Nat.le_trans (by decide +kernel) h1))) (q0r qpn)
theorem jat (n:Nat) {F:Fr} (hF:F.n=36) (hK:Know Inv F.G):q71 Tryz.prog F (j6y n) (q01 0 0 (q00 Tryz.f34)) :=
 q0h hF (by kernel_rfl) (qga n hK) (jfz n) (fuel:=n) (fun _=>rfl) (q02 fun j L h1 h2 h3=>absurd h2 (Nat.not_lt.2 (Nat.le_trans (by decide +kernel) h1))) (q0r qpn)
theorem jo3 (n:Nat) : ∀ a,(qcg n).F a=main Tryz.prog 36 (qiz n) (qdp n) qix (q00 Tryz.f34) [.tmp 2] (qcg n).args (qcg n).res a:=by intro a;kernel_rfl
theorem jko (n:Nat):q0a Inv Tryz.prog (qcg n):=fun G hG=>⟨⟨by kernel_rfl,fun a r h=>q03 (c:=q00 Tryz.f34) Tryz.func34 (by kernel_rfl) (by kernel_rfl) (Nat.le_of_ble_eq_true (by kernel_rfl)) hG.st (by kernel_rfl) (rs:=[.tmp 2]) (by kernel_rfl) (qga n hG) (lts:=qdp n) (fun F hF hFG=>have hK:Know Inv F.G:=hFG ▸ hG;(q02 (c:=(q00 Tryz.f34)) (fun j L h1 h2 h3=>by
  have h2':j<2:=Nat.lt_of_lt_of_le h2 (by decide +kernel)
  match j,h1,h2',h3 with
  | 0,_,_,h3=>obtain rfl:=Option.some.inj h3;exact (show q01 0 0 (q00 Tryz.f34)=q01 0 0 (q00 Tryz.f34) by kernel_rfl) ▸ jat n hF hK
  | 1,_,_,h3=>obtain rfl:=Option.some.inj h3;exact (show q01 0 1 (q00 Tryz.f34)=q01 0 1 (q00 Tryz.f34) by kernel_rfl) ▸ jar n hF hK
  | j+2,_,h2',_=>exact absurd h2' (by omega)))) qpn ((jo3 n a).symm.trans h)⟩,rfl⟩
@[reducible] def qdt:SSt:=⟨[(5,.one (.c (.row 39))),(6,.one (.c (.mv 12))),(14,.one (.c (.d (.lst .str)))),(15,.one (.c (.d (.int .i64)))),(16,.one (.c (.d (.int .i64))))],[(12,(2199023259659,[.d (.lst (.prod .str (.prod (.int .i64) (.prod (.int .i64) (.prod (.int .i64) (.prod .str .str))))))]))],[(39,⟨32,true,(.prod .str (.prod (.int .i64) (.prod (.int .i64) (.prod (.int .i64) (.prod .str (.prod .str .str))))))⟩)]⟩
@[reducible] def q8i:List (Exit×SSt):=[(.ret,⟨[(2,.one (.c (.nil))),(3,.one (.c (.d (.int .i64)))),(4,.one (.c (.d (.int .i64))))],[],[]⟩),(.exit 0,⟨[(5,.one (.c (.row 39)))],[],[(39,⟨32,true,(.prod .str (.prod (.int .i64) (.prod (.int .i64) (.prod (.int .i64) (.prod .str (.prod .str .str))))))⟩)]⟩)]
def qqu (n:Nat) (rec:(List (List UInt8))→Int→Int→(List (List UInt8×((Int)×((Int)×((Int)×(List UInt8×(List UInt8)))))))→(List (List UInt8×((Int)×((Int)×((Int)×(List UInt8×(List UInt8×(List UInt8))))))))→Option (((Unit×(Int×(Int×(Unit))))×(Unit)×(Unit))⊕((Unit×(Unit))×(Unit)×((List (List UInt8×((Int)×((Int)×((Int)×(List UInt8×(List UInt8×(List UInt8))))))))×(Unit))))) (a1:List (List UInt8)) (a2:Int) (a3:Int) (a4:List (List UInt8×((Int)×((Int)×((Int)×(List UInt8×(List UInt8))))))) (a5:List (List UInt8×((Int)×((Int)×((Int)×(List UInt8×(List UInt8×(List UInt8)))))))):Option (((Unit×(Int×(Int×(Unit))))×(Unit)×(Unit))⊕((Unit×(Unit))×(Unit)×((List (List UInt8×((Int)×((Int)×((Int)×(List UInt8×(List UInt8×(List UInt8))))))))×(Unit)))) :=
 (bif decide (a3<a2) then (q1a a1 a3).bind fun (x2:List UInt8)=>(qz3 n x2).bind fun (r3:((List UInt8)×(Int×(Int×(Int×((List UInt8)×((List UInt8)×(List UInt8)))))))×(Bool))=>(bif !r3.2 then some (Sum.inl (((),(a3,((10:Int),()))),((),()))) else (qqq n () r3.1 a4).bind fun (r4:(Int)×((List (List UInt8×((Int)×((Int)×((Int)×(List UInt8×(List UInt8)))))))×(Unit))×(Unit))=>(bif !decide (r4.1=(0:Int)) then some (Sum.inl (((),(a3,(r4.1,()))),((),()))) else (qj6 88 a5 ([r3.1]:List (List UInt8×((Int)×((Int)×((Int)×(List UInt8×(List UInt8×(List UInt8))))))))).bind fun (l5:List (List UInt8×((Int)×((Int)×((Int)×(List UInt8×(List UInt8×(List UInt8))))))))=>q0b (IntKind.wrap .i64 (a3+(1:Int))) fun (n6:Int)=>rec a1 a2 n6 r4.2.1.1 l5)) else some (Sum.inr ((((),()),((),(a5,()))))))
def qu6 (n:Nat) (rec:pSt qdt→Option (q0f q8i)) (p:pSt qdt):Option (q0f q8i):=qqu n (fun a1 a2 a3 a4 a5=>rec (((),((),(a1,(a2,(a3,()))))),((a4,()),(a5,())))) p.1.2.2.1 p.1.2.2.2.1 p.1.2.2.2.2.1 p.2.1.1 p.2.2.1
def q56 (n m:Nat) (a1:List (List UInt8)) (a2:Int) (a3:Int) (a4:List (List UInt8×((Int)×((Int)×((Int)×(List UInt8×(List UInt8))))))) (a5:List (List UInt8×((Int)×((Int)×((Int)×(List UInt8×(List UInt8×(List UInt8)))))))):Option (((Unit×(Int×(Int×(Unit))))×(Unit)×(Unit))⊕((Unit×(Unit))×(Unit)×((List (List UInt8×((Int)×((Int)×((Int)×(List UInt8×(List UInt8×(List UInt8))))))))×(Unit)))):=q0g (qu6 n) m (((),((),(a1,(a2,(a3,()))))),((a4,()),(a5,())))
theorem qlm (n m:Nat) (a1:List (List UInt8)) (a2:Int) (a3:Int) (a4:List (List UInt8×((Int)×((Int)×((Int)×(List UInt8×(List UInt8))))))) (a5:List (List UInt8×((Int)×((Int)×((Int)×(List UInt8×(List UInt8×(List UInt8)))))))):q56 n (m+1) a1 a2 a3 a4 a5=qqu n (fun a1 a2 a3 a4 a5=>q56 n m a1 a2 a3 a4 a5) a1 a2 a3 a4 a5:=rfl
def j7g (n:Nat):LC:={ sh:=qdt,outs:=q8i,F:=q0g (qu6 n) n }
def ql3 (n:Nat):List LC:=[j7g n]
def q3a (n:Nat) (a1:List UInt8):Option ((List (List UInt8×((Int)×((Int)×((Int)×(List UInt8×(List UInt8×(List UInt8))))))))×(Int×(Int))) :=
 (qoy n a1).bind fun (r1:List (List UInt8))=>(q56 n n r1 ((List.length r1:Nat):Int) (0:Int) ([]:List (List UInt8×((Int)×((Int)×((Int)×(List UInt8×(List UInt8))))))) []).bind fun (o7:((Unit×(Int×(Int×(Unit))))×(Unit)×(Unit))⊕((Unit×(Unit))×(Unit)×((List (List UInt8×((Int)×((Int)×((Int)×(List UInt8×(List UInt8×(List UInt8))))))))×(Unit))))=>Sum.elim (fun (q8:(Unit×(Int×(Int×(Unit))))×(Unit)×(Unit))=>some ([],(q8.1.2.1,q8.1.2.2.1))) (fun (q9:(Unit×(Unit))×(Unit)×((List (List UInt8×((Int)×((Int)×((Int)×(List UInt8×(List UInt8×(List UInt8))))))))×(Unit)))=>some (q9.2.2.1,(((List.length q9.2.2.1:Nat):Int),(0:Int)))) o7
def q5b (n:Nat):FC:={ f:=10,args:=[.one (.c (.d .str))],res:=.tup [.c (.d (.lst (.prod .str (.prod (.int .i64) (.prod (.int .i64) (.prod (.int .i64) (.prod .str (.prod .str .str)))))))),.c (.d (.int .i64)),.c (.d (.int .i64))],F:=fun p=>q3a n p }
def qt9 (n:Nat):List FC:=[jit (q3v n) [(1000000,12)] [],qc3 n,qi5 n]
theorem qr1 (n:Nat) {G:World→Prop} (hG:Know Inv G) : ∀ c∈qt9 n,q1b Tryz.prog G c∧q0e c.args=true:=List.forall_mem_cons.2 ⟨j90 (j4v n G hG),List.forall_mem_cons.2 ⟨jjn n G hG,List.forall_mem_cons.2 ⟨js0 n G hG,(fun _ h=>by cases h)⟩⟩⟩
def qsx:q0c:=[]
theorem j5w:drB qsx (q00 Tryz.f10)=true:=by kernel_rfl
theorem jhz (n:Nat) : ∀ rec p,qu6 n rec p=round Tryz.prog 44 (qt9 n) (ql3 n) qsx 1 qdt q8i (q01 0 0 (q00 Tryz.f10)) rec p:=by intro rec p;kernel_rfl
theorem j9o (n:Nat) {F:Fr} (hF:F.n=44) (hK:Know Inv F.G):q71 Tryz.prog F (j7g n) (q01 0 0 (q00 Tryz.f10)) :=
 q0h hF (by kernel_rfl) (qr1 n hK) (jhz n) (fuel:=n) (fun _=>rfl) (q02 fun j L h1 h2 h3=>absurd h2 (Nat.not_lt.2 (Nat.le_trans (by decide +kernel) h1))) (q0r j5w)
theorem jm2 (n:Nat) : ∀ a,(q5b n).F a=main Tryz.prog 44 (qt9 n) (ql3 n) qsx (q00 Tryz.f10) [.tmp 2,.tmp 3,.tmp 4] (q5b n).args (q5b n).res a:=by intro a;kernel_rfl
theorem qi0 (n:Nat):q0a Inv Tryz.prog (q5b n):=fun G hG=>⟨⟨by kernel_rfl,fun a r h=>q03 (c:=q00 Tryz.f10) Tryz.func10 (by kernel_rfl) (by kernel_rfl) (Nat.le_of_ble_eq_true (by kernel_rfl)) hG.st (by kernel_rfl) (rs:=[.tmp 2,.tmp 3,.tmp 4]) (by kernel_rfl) (qr1 n hG) (lts:=ql3 n) (fun F hF hFG=>have hK:Know Inv F.G:=hFG ▸ hG;(q02 (c:=(q00 Tryz.f10)) (fun j L h1 h2 h3=>by
  have h2':j<1:=Nat.lt_of_lt_of_le h2 (by decide +kernel)
  match j,h1,h2',h3 with
  | 0,_,_,h3=>obtain rfl:=Option.some.inj h3;exact (show q01 0 0 (q00 Tryz.f10)=q01 0 0 (q00 Tryz.f10) by kernel_rfl) ▸ j9o n hF hK
  | j+1,_,h2',_=>exact absurd h2' (by omega)))) j5w ((jm2 n a).symm.trans h)⟩,rfl⟩
@[reducible] def qhc:SSt:=⟨[(4,.one (.c (.row 27))),(5,.one (.c (.mv 9))),(10,.one (.c (.d (.lst (.prod .str (.prod (.int .i64) (.prod (.int .i64) (.prod (.int .i64) (.prod .str (.prod .str .str)))))))))),(11,.one (.c (.d (.int .i64)))),(12,.one (.c (.d (.int .i64))))],[(9,(2199023259659,[.d (.lst (.prod .str (.prod (.int .i64) (.prod (.int .i64) (.prod (.int .i64) (.prod .str .str))))))]))],[(27,⟨80,true,.any⟩)]⟩
@[reducible] def q9s:List (Exit×SSt):=[(.ret,⟨[(2,.one (.c (.d .str))),(3,.one (.c (.d (.int .i64))))],[],[]⟩),(.exit 0,⟨[(4,.one (.c (.row 27)))],[],[(27,⟨80,true,.any⟩)]⟩)]
def j2a (n:Nat) (rec:(List (List UInt8×((Int)×((Int)×((Int)×(List UInt8×(List UInt8×(List UInt8))))))))→Int→Int→(List (List UInt8×((Int)×((Int)×((Int)×(List UInt8×(List UInt8)))))))→(List (IV))→Option ((((List UInt8)×(Int×(Unit)))×(Unit)×(Unit))⊕((Unit×(Unit))×(Unit)×((List (IV))×(Unit))))) (a1:List (List UInt8×((Int)×((Int)×((Int)×(List UInt8×(List UInt8×(List UInt8)))))))) (a2:Int) (a3:Int) (a4:List (List UInt8×((Int)×((Int)×((Int)×(List UInt8×(List UInt8))))))) (a5:List (IV)):Option ((((List UInt8)×(Int×(Unit)))×(Unit)×(Unit))⊕((Unit×(Unit))×(Unit)×((List (IV))×(Unit)))) :=
 (bif decide (a3<a2) then (q1a a1 a3).bind fun (x1:List UInt8×((Int)×((Int)×((Int)×(List UInt8×(List UInt8×(List UInt8)))))))=>(qqq n () x1 a4).bind fun (r2:(Int)×((List (List UInt8×((Int)×((Int)×((Int)×(List UInt8×(List UInt8)))))))×(Unit))×(Unit))=>(bif !decide (r2.1=(0:Int)) then some (Sum.inl ((([]:List UInt8),(r2.1,())),((),()))) else (qj6 16 a5 ([(mkIV 57 (Value.agg ⟨[(Value.string (ba x1.1)),(Value.int .i64 x1.2.1),(Value.int .i64 x1.2.2.1),(Value.int .i64 x1.2.2.2.1),(Value.string (ba x1.2.2.2.2.1)),(Value.string (ba x1.2.2.2.2.2.1)),(Value.string (ba x1.2.2.2.2.2.2))]⟩))]:List (IV))).bind fun (l3:List (IV))=>q0b (IntKind.wrap .i64 (a3+(1:Int))) fun (n4:Int)=>rec a1 a2 n4 r2.2.1.1 l3) else some (Sum.inr ((((),()),((),(a5,()))))))
def j1e (n:Nat) (rec:pSt qhc→Option (q0f q9s)) (p:pSt qhc):Option (q0f q9s):=j2a n (fun a1 a2 a3 a4 a5=>rec (((),((),(a1,(a2,(a3,()))))),((a4,()),(a5,())))) p.1.2.2.1 p.1.2.2.2.1 p.1.2.2.2.2.1 p.2.1.1 p.2.2.1
def q7e (n m:Nat) (a1:List (List UInt8×((Int)×((Int)×((Int)×(List UInt8×(List UInt8×(List UInt8)))))))) (a2:Int) (a3:Int) (a4:List (List UInt8×((Int)×((Int)×((Int)×(List UInt8×(List UInt8))))))) (a5:List (IV)):Option ((((List UInt8)×(Int×(Unit)))×(Unit)×(Unit))⊕((Unit×(Unit))×(Unit)×((List (IV))×(Unit)))):=q0g (j1e n) m (((),((),(a1,(a2,(a3,()))))),((a4,()),(a5,())))
theorem qo6 (n m:Nat) (a1:List (List UInt8×((Int)×((Int)×((Int)×(List UInt8×(List UInt8×(List UInt8)))))))) (a2:Int) (a3:Int) (a4:List (List UInt8×((Int)×((Int)×((Int)×(List UInt8×(List UInt8))))))) (a5:List (IV)):q7e n (m+1) a1 a2 a3 a4 a5=j2a n (fun a1 a2 a3 a4 a5=>q7e n m a1 a2 a3 a4 a5) a1 a2 a3 a4 a5:=rfl
def jcz (n:Nat):LC:={ sh:=qhc,outs:=q9s,F:=q0g (j1e n) n }
def qut (n:Nat):List LC:=[jcz n]
def q5u (n:Nat) (a1:List (List UInt8×((Int)×((Int)×((Int)×(List UInt8×(List UInt8×(List UInt8)))))))):Option ((List UInt8)×(Int)) :=
 (q7e n n a1 ((List.length a1:Nat):Int) (0:Int) ([]:List (List UInt8×((Int)×((Int)×((Int)×(List UInt8×(List UInt8))))))) []).bind fun (o5:(((List UInt8)×(Int×(Unit)))×(Unit)×(Unit))⊕((Unit×(Unit))×(Unit)×((List (IV))×(Unit))))=>Sum.elim (fun (q6:((List UInt8)×(Int×(Unit)))×(Unit)×(Unit))=>some (q6.1.1,q6.1.2.1)) (fun (q7:(Unit×(Unit))×(Unit)×((List (IV))×(Unit)))=>(j8g n q7.2.2.1).bind fun (r8:List UInt8)=>some (r8,(0:Int))) o5
def q8k (n:Nat):FC:={ f:=14,args:=[.one (.c (.d (.lst (.prod .str (.prod (.int .i64) (.prod (.int .i64) (.prod (.int .i64) (.prod .str (.prod .str .str)))))))))],res:=.tup [.c (.d .str),.c (.d (.int .i64))],F:=fun p=>q5u n p }
def j1h (n:Nat):List FC:=[jit (q3v n) [(1000000,9)] [],jt3 n]
theorem qx9 (n:Nat) {G:World→Prop} (hG:Know Inv G) : ∀ c∈j1h n,q1b Tryz.prog G c∧q0e c.args=true:=List.forall_mem_cons.2 ⟨j90 (j4v n G hG),List.forall_mem_cons.2 ⟨jy4 n G hG,(fun _ h=>by cases h)⟩⟩
def j27:q0c:=[]
theorem jcr:drB j27 (q00 Tryz.f14)=true:=by kernel_rfl
theorem jol (n:Nat) : ∀ rec p,j1e n rec p=round Tryz.prog 31 (j1h n) (qut n) j27 1 qhc q9s (q01 0 0 (q00 Tryz.f14)) rec p:=by intro rec p;kernel_rfl
theorem jia (n:Nat) {F:Fr} (hF:F.n=31) (hK:Know Inv F.G):q71 Tryz.prog F (jcz n) (q01 0 0 (q00 Tryz.f14)) :=
 q0h hF (by kernel_rfl) (qx9 n hK) (jol n) (fuel:=n) (fun _=>rfl) (q02 fun j L h1 h2 h3=>absurd h2 (Nat.not_lt.2 (Nat.le_trans (by decide +kernel) h1))) (q0r jcr)
theorem jqa (n:Nat) : ∀ a,(q8k n).F a=main Tryz.prog 31 (j1h n) (qut n) j27 (q00 Tryz.f14) [.tmp 2,.tmp 3] (q8k n).args (q8k n).res a:=by intro a;kernel_rfl
theorem qof (n:Nat):q0a Inv Tryz.prog (q8k n):=fun G hG=>⟨⟨by kernel_rfl,fun a r h=>q03 (c:=q00 Tryz.f14) Tryz.func14 (by kernel_rfl) (by kernel_rfl) (Nat.le_of_ble_eq_true (by kernel_rfl)) hG.st (by kernel_rfl) (rs:=[.tmp 2,.tmp 3]) (by kernel_rfl) (qx9 n hG) (lts:=qut n) (fun F hF hFG=>have hK:Know Inv F.G:=hFG ▸ hG;(q02 (c:=(q00 Tryz.f14)) (fun j L h1 h2 h3=>by
  have h2':j<1:=Nat.lt_of_lt_of_le h2 (by decide +kernel)
  match j,h1,h2',h3 with
  | 0,_,_,h3=>obtain rfl:=Option.some.inj h3;exact (show q01 0 0 (q00 Tryz.f14)=q01 0 0 (q00 Tryz.f14) by kernel_rfl) ▸ jia n hF hK
  | j+1,_,h2',_=>exact absurd h2' (by omega)))) jcr ((jqa n a).symm.trans h)⟩,rfl⟩
@[reducible] def qok:SSt:=⟨[(0,.one (.c (.d (.lst (.prod .str (.prod (.int .i64) (.prod (.int .i64) (.prod (.int .i64) (.prod .str (.prod .str .str)))))))))),(3,.one (.c (.box 3 0))),(14,.one (.c (.d (.lst (.prod .str (.prod (.int .i64) (.prod (.int .i64) (.prod (.int .i64) (.prod .str (.prod .str .str)))))))))),(15,.one (.c (.d (.int .i64)))),(16,.one (.c (.d (.int .i64))))],[(3,(32,[.d .str,.d (.int .i64),.d (.int .i64),.d (.int .i64),.d .str,.d .str,.d .str]))],[]⟩
@[reducible] def qe6:List (Exit×SSt):=[(.ret,⟨[(4,.one (.c (.nil))),(5,.one (.c (.d (.int .i64))))],[],[]⟩),(.exit 0,⟨[(0,.one (.c (.d (.lst (.prod .str (.prod (.int .i64) (.prod (.int .i64) (.prod (.int .i64) (.prod .str (.prod .str .str)))))))))),(3,.one (.c (.box 3 0)))],[(3,(32,[.d .str,.d (.int .i64),.d (.int .i64),.d (.int .i64),.d .str,.d .str,.d .str]))],[]⟩)]
def j92 (n:Nat) (rec:(List (List UInt8×((Int)×((Int)×((Int)×(List UInt8×(List UInt8×(List UInt8))))))))→(List (List UInt8×((Int)×((Int)×((Int)×(List UInt8×(List UInt8×(List UInt8))))))))→Int→Int→(List UInt8)→Int→Int→Int→(List UInt8)→(List UInt8)→(List UInt8)→Option (((Unit×(Int×(Unit)))×(Unit)×(Unit))⊕(((List (List UInt8×((Int)×((Int)×((Int)×(List UInt8×(List UInt8×(List UInt8))))))))×(Unit×(Unit)))×(((List UInt8)×(Int×(Int×(Int×((List UInt8)×((List UInt8)×(List UInt8)))))))×(Unit))×(Unit)))) (a1:List (List UInt8×((Int)×((Int)×((Int)×(List UInt8×(List UInt8×(List UInt8)))))))) (a2:List (List UInt8×((Int)×((Int)×((Int)×(List UInt8×(List UInt8×(List UInt8)))))))) (a3:Int) (a4:Int) (a5:List UInt8) (a6:Int) (a7:Int) (a8:Int) (a9:List UInt8) (a10:List UInt8) (a11:List UInt8):Option (((Unit×(Int×(Unit)))×(Unit)×(Unit))⊕(((List (List UInt8×((Int)×((Int)×((Int)×(List UInt8×(List UInt8×(List UInt8))))))))×(Unit×(Unit)))×(((List UInt8)×(Int×(Int×(Int×((List UInt8)×((List UInt8)×(List UInt8)))))))×(Unit))×(Unit))) :=
 (bif decide (a4<a3) then (q1a a2 a4).bind fun (x2:List UInt8×((Int)×((Int)×((Int)×(List UInt8×(List UInt8×(List UInt8)))))))=>(bif decide (x2.1=a5) then (qa3 n (x2.2.1,(x2.2.2.1,(x2.2.2.2.1,(x2.2.2.2.2.1,x2.2.2.2.2.2.1)))) (a6,(a7,(a8,(a9,a10))))).bind fun (r3:Bool)=>(bif !r3 then some (Sum.inl (((),((13:Int),())),((),()))) else q0b (IntKind.wrap .i64 (a4+(1:Int))) fun (n4:Int)=>rec a1 a2 a3 n4 a5 a6 a7 a8 a9 a10 a11) else q0b (IntKind.wrap .i64 (a4+(1:Int))) fun (n5:Int)=>rec a1 a2 a3 n5 a5 a6 a7 a8 a9 a10 a11) else some (Sum.inr (((a1,((),())),(((a5,(a6,(a7,(a8,(a9,(a10,a11)))))),()),())))))
def jad (n:Nat) (rec:pSt qok→Option (q0f qe6)) (p:pSt qok):Option (q0f qe6):=j92 n (fun a1 a2 a3 a4 a5 a6 a7 a8 a9 a10 a11=>rec ((a1,((),(a2,(a3,(a4,()))))),(((a5,(a6,(a7,(a8,(a9,(a10,a11)))))),()),()))) p.1.1 p.1.2.2.1 p.1.2.2.2.1 p.1.2.2.2.2.1 p.2.1.1.1 p.2.1.1.2.1 p.2.1.1.2.2.1 p.2.1.1.2.2.2.1 p.2.1.1.2.2.2.2.1 p.2.1.1.2.2.2.2.2.1 p.2.1.1.2.2.2.2.2.2
def q9c (n m:Nat) (a1:List (List UInt8×((Int)×((Int)×((Int)×(List UInt8×(List UInt8×(List UInt8)))))))) (a2:List (List UInt8×((Int)×((Int)×((Int)×(List UInt8×(List UInt8×(List UInt8)))))))) (a3:Int) (a4:Int) (a5:List UInt8) (a6:Int) (a7:Int) (a8:Int) (a9:List UInt8) (a10:List UInt8) (a11:List UInt8):Option (((Unit×(Int×(Unit)))×(Unit)×(Unit))⊕(((List (List UInt8×((Int)×((Int)×((Int)×(List UInt8×(List UInt8×(List UInt8))))))))×(Unit×(Unit)))×(((List UInt8)×(Int×(Int×(Int×((List UInt8)×((List UInt8)×(List UInt8)))))))×(Unit))×(Unit))):=q0g (jad n) m ((a1,((),(a2,(a3,(a4,()))))),(((a5,(a6,(a7,(a8,(a9,(a10,a11)))))),()),()))
theorem qqf (n m:Nat) (a1:List (List UInt8×((Int)×((Int)×((Int)×(List UInt8×(List UInt8×(List UInt8)))))))) (a2:List (List UInt8×((Int)×((Int)×((Int)×(List UInt8×(List UInt8×(List UInt8)))))))) (a3:Int) (a4:Int) (a5:List UInt8) (a6:Int) (a7:Int) (a8:Int) (a9:List UInt8) (a10:List UInt8) (a11:List UInt8):q9c n (m+1) a1 a2 a3 a4 a5 a6 a7 a8 a9 a10 a11=j92 n (fun a1 a2 a3 a4 a5 a6 a7 a8 a9 a10 a11=>q9c n m a1 a2 a3 a4 a5 a6 a7 a8 a9 a10 a11) a1 a2 a3 a4 a5 a6 a7 a8 a9 a10 a11:=rfl
def jnb (n:Nat):LC:={ sh:=qok,outs:=qe6,F:=q0g (jad n) n }
def qz6 (n:Nat):List LC:=[jnb n]
def qmi (n:Nat) (a1:List (List UInt8×((Int)×((Int)×((Int)×(List UInt8×(List UInt8×(List UInt8)))))))) (a2:(List UInt8)×(Int×(Int×(Int×((List UInt8)×((List UInt8)×(List UInt8))))))):Option ((List (List UInt8×((Int)×((Int)×((Int)×(List UInt8×(List UInt8×(List UInt8))))))))×(Int)) :=
 (qjj n a2).bind fun (r1:Int)=>(bif !decide (r1=(0:Int)) then some ([],r1) else (q9c n n a1 a1 ((List.length a1:Nat):Int) (0:Int) a2.1 a2.2.1 a2.2.2.1 a2.2.2.2.1 a2.2.2.2.2.1 a2.2.2.2.2.2.1 a2.2.2.2.2.2.2).bind fun (o6:((Unit×(Int×(Unit)))×(Unit)×(Unit))⊕(((List (List UInt8×((Int)×((Int)×((Int)×(List UInt8×(List UInt8×(List UInt8))))))))×(Unit×(Unit)))×(((List UInt8)×(Int×(Int×(Int×((List UInt8)×((List UInt8)×(List UInt8)))))))×(Unit))×(Unit)))=>Sum.elim (fun (q7:(Unit×(Int×(Unit)))×(Unit)×(Unit))=>some ([],q7.1.2.1)) (fun (q8:((List (List UInt8×((Int)×((Int)×((Int)×(List UInt8×(List UInt8×(List UInt8))))))))×(Unit×(Unit)))×(((List UInt8)×(Int×(Int×(Int×((List UInt8)×((List UInt8)×(List UInt8)))))))×(Unit))×(Unit))=>(qie n ([q8.1.1,([q8.2.1.1]:List (List UInt8×((Int)×((Int)×((Int)×(List UInt8×(List UInt8×(List UInt8))))))))]:List (List (List UInt8×((Int)×((Int)×((Int)×(List UInt8×(List UInt8×(List UInt8)))))))))).bind fun (r9:List (List UInt8×((Int)×((Int)×((Int)×(List UInt8×(List UInt8×(List UInt8))))))))=>some (r9,(0:Int))) o6)
def qgm (n:Nat):FC:={ f:=16,args:=[.one (.c (.d (.lst (.prod .str (.prod (.int .i64) (.prod (.int .i64) (.prod (.int .i64) (.prod .str (.prod .str .str))))))))),.one (.agg [.d .str,.d (.int .i64),.d (.int .i64),.d (.int .i64),.d .str,.d .str,.d .str])],res:=.tup [.c (.d (.lst (.prod .str (.prod (.int .i64) (.prod (.int .i64) (.prod (.int .i64) (.prod .str (.prod .str .str)))))))),.c (.d (.int .i64))],F:=fun p=>qmi n p.1 p.2 }
def j8w (n:Nat):List FC:=[q98 n,q9d n,qcg n]
theorem j3l (n:Nat) {G:World→Prop} (hG:Know Inv G) : ∀ c∈j8w n,q1b Tryz.prog G c∧q0e c.args=true:=List.forall_mem_cons.2 ⟨j46 n G hG,List.forall_mem_cons.2 ⟨j5j n G hG,List.forall_mem_cons.2 ⟨jko n G hG,(fun _ h=>by cases h)⟩⟩⟩
def jc6:q0c:=[]
theorem jlv:drB jc6 (q00 Tryz.f16)=true:=by kernel_rfl
theorem jpq (n:Nat) : ∀ rec p,jad n rec p=round Tryz.prog 39 (j8w n) (qz6 n) jc6 1 qok qe6 (q01 0 0 (q00 Tryz.f16)) rec p:=by intro rec p;kernel_rfl
theorem jjl (n:Nat) {F:Fr} (hF:F.n=39) (hK:Know Inv F.G):q71 Tryz.prog F (jnb n) (q01 0 0 (q00 Tryz.f16)) :=
 q0h hF (by kernel_rfl) (j3l n hK) (jpq n) (fuel:=n) (fun _=>rfl) (q02 fun j L h1 h2 h3=>absurd h2 (Nat.not_lt.2 (Nat.le_trans (by decide +kernel) h1))) (q0r jlv)
theorem jue (n:Nat) : ∀ a,(qgm n).F a=main Tryz.prog 39 (j8w n) (qz6 n) jc6 (q00 Tryz.f16) [.tmp 4,.tmp 5] (qgm n).args (qgm n).res a:=by intro a;kernel_rfl
theorem ja3 (n:Nat):q0a Inv Tryz.prog (qgm n):=fun G hG=>⟨⟨by kernel_rfl,fun a r h=>q03 (c:=q00 Tryz.f16) Tryz.func16 (by kernel_rfl) (by kernel_rfl) (Nat.le_of_ble_eq_true (by kernel_rfl)) hG.st (by kernel_rfl) (rs:=[.tmp 4,.tmp 5]) (by kernel_rfl) (j3l n hG) (lts:=qz6 n) (fun F hF hFG=>have hK:Know Inv F.G:=hFG ▸ hG;(q02 (c:=(q00 Tryz.f16)) (fun j L h1 h2 h3=>by
  have h2':j<1:=Nat.lt_of_lt_of_le h2 (by decide +kernel)
  match j,h1,h2',h3 with
  | 0,_,_,h3=>obtain rfl:=Option.some.inj h3;exact (show q01 0 0 (q00 Tryz.f16)=q01 0 0 (q00 Tryz.f16) by kernel_rfl) ▸ jjl n hF hK
  | j+1,_,h2',_=>exact absurd h2' (by omega)))) jlv ((jue n a).symm.trans h)⟩,rfl⟩
end Go.Proofs.YtcdjkibiggjdoaaGreatDoor.AM
