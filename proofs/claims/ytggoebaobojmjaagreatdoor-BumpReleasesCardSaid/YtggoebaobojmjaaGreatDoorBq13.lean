
import Derived.Test.YtggoebaobojmjaaGreatDoorBq12
namespace Go.Proofs.YtggoebaobojmjaaGreatDoor.AM
open Go.RowKit
set_option linter.unusedVariables false
set_option maxRecDepth 20000
def jfi (n:Nat):List LC:=[]
def j72 (n:Nat) (a1:List UInt8):Option (List UInt8) :=
 (j6k n a1 (47:Int)).bind fun r1=>q0f (IntKind.wrap .i64 (r1+1)) fun n2=>(j2i a1 n2 (a1.length:Int)).bind fun s3=>some s3
def qm7 (n:Nat):FC:={ f:=56,args:=[.one (.c (.d .str))],res:=.one (.c (.d .str)),F:=fun p=>j72 n p }
def jm2 (n:Nat):List FC:=[qlp n]
theorem js1 (n:Nat) {G:World->Prop} (hG:Know Inv G) : ∀c∈jm2 n,q0t Tryz.prog G c/\q0c c.args=true:=List.forall_mem_cons.2 ⟨jox n G hG,(fun _ h=>by cases h)⟩
def jom:q0b:=[]
theorem k0x:drB jom (q00 Tryz.f56)=true:=by kernel_rfl
theorem k2l (n:Nat) : ∀a,(qm7 n).F a=main Tryz.prog 8 (jm2 n) (jfi n) jom (q00 Tryz.f56) [.tmp 2] (qm7 n).args (qm7 n).res a:=by intro a;kernel_rfl
theorem k25 (n:Nat):q0h Inv Tryz.prog (qm7 n):=fun G hG=>⟨⟨by kernel_rfl,fun a r h=>q05 (c:=q00 Tryz.f56) Tryz.func56 (by kernel_rfl) (by kernel_rfl) (Nat.le_of_ble_eq_true (by kernel_rfl)) hG.st (by kernel_rfl) (rs:=[.tmp 2]) (by kernel_rfl) (js1 n hG) (lts:=jfi n) (fun F hF hFG=>have hK:Know Inv F.G:=hFG ▸ hG;(q02 fun j L h1 h2 h3=>absurd h2 (Nat.not_lt.2 (Nat.le_trans (by decide +kernel) h1)))) k0x ((k2l n a).symm.trans h)⟩,rfl⟩
def j3x (n:Nat):List LC:=[]
def qhf (n:Nat) (a1:List UInt8):Option ((List UInt8)×(Int×(Bool))) :=
 (qy1 a1).bind fun (r1:List UInt8)=>(j72 n a1).bind fun r2=>(jk4 a1).bind fun (r3:Bool)=>(bif !r3 then (bif !r3 then some (([]:List UInt8),((0:Int),false)) else (qm3 n r2).bind fun r4=>(bif !r4 then some (a1,((0:Int),true)) else (j3c r2).bind fun (r5:Int×(Bool))=>(bif !r5.2 then some (([]:List UInt8),((0:Int),false)) else (bif decide (r1=([]:List UInt8)) then some (([]:List UInt8),((0:Int),false)) else some (r1,(r5.1,true)))))) else (ja3 r1).bind fun (r6:Bool)=>(bif r6 then some (([]:List UInt8),((0:Int),false)) else (qm3 n r2).bind fun r7=>(bif !r7 then some (a1,((0:Int),true)) else (j3c r2).bind fun (r8:Int×(Bool))=>(bif !r8.2 then some (([]:List UInt8),((0:Int),false)) else (bif decide (r1=([]:List UInt8)) then some (([]:List UInt8),((0:Int),false)) else some (r1,(r8.1,true)))))))
def q8k (n:Nat):FC:={ f:=27,args:=[.one (.c (.d .str))],res:=.tup [.c (.d .str),.c (.d (.int .i64)),.c (.d .bool)],F:=fun p=>qhf n p }
def jar (n:Nat):List FC:=[jl1,qm7 n,jmn,qfa n,jwr,jww]
theorem jjl (n:Nat) {G:World->Prop} (hG:Know Inv G) : ∀c∈jar n,q0t Tryz.prog G c/\q0c c.args=true:=List.forall_mem_cons.2 ⟨k06 G hG,List.forall_mem_cons.2 ⟨k25 n G hG,List.forall_mem_cons.2 ⟨k23 G hG,List.forall_mem_cons.2 ⟨jat n G hG,List.forall_mem_cons.2 ⟨k5b G hG,List.forall_mem_cons.2 ⟨k6v G hG,(fun _ h=>by cases h)⟩⟩⟩⟩⟩⟩
def jby:q0b:=[]
theorem jzp:drB jby (q00 Tryz.f27)=true:=by kernel_rfl
theorem jxp (n:Nat) : ∀a,(q8k n).F a=main Tryz.prog 37 (jar n) (j3x n) jby (q00 Tryz.f27) [.tmp 2,.tmp 3,.tmp 4] (q8k n).args (q8k n).res a:=by intro a;kernel_rfl
theorem j0o (n:Nat):q0h Inv Tryz.prog (q8k n):=fun G hG=>⟨⟨by kernel_rfl,fun a r h=>q05 (c:=q00 Tryz.f27) Tryz.func27 (by kernel_rfl) (by kernel_rfl) (Nat.le_of_ble_eq_true (by kernel_rfl)) hG.st (by kernel_rfl) (rs:=[.tmp 2,.tmp 3,.tmp 4]) (by kernel_rfl) (jjl n hG) (lts:=j3x n) (fun F hF hFG=>have hK:Know Inv F.G:=hFG ▸ hG;(q02 fun j L h1 h2 h3=>absurd h2 (Nat.not_lt.2 (Nat.le_trans (by decide +kernel) h1)))) jzp ((jxp n a).symm.trans h)⟩,rfl⟩
def j43 (n:Nat):List LC:=[]
def qvk (n:Nat) (a1:List UInt8):Option (Bool) :=
 (qhf n a1).bind fun r1=>some r1.2.2
def qfr (n:Nat):FC:={ f:=106,args:=[.one (.c (.d .str))],res:=.one (.c (.d .bool)),F:=fun p=>qvk n p }
def jav (n:Nat):List FC:=[q8k n]
theorem jix (n:Nat) {G:World->Prop} (hG:Know Inv G) : ∀c∈jav n,q0t Tryz.prog G c/\q0c c.args=true:=List.forall_mem_cons.2 ⟨j0o n G hG,(fun _ h=>by cases h)⟩
def jfl:q0b:=[]
theorem jut:drB jfl (q00 Tryz.f106)=true:=by kernel_rfl
theorem jws (n:Nat) : ∀a,(qfr n).F a=main Tryz.prog 13 (jav n) (j43 n) jfl (q00 Tryz.f106) [.tmp 2] (qfr n).args (qfr n).res a:=by intro a;kernel_rfl
theorem jyg (n:Nat):q0h Inv Tryz.prog (qfr n):=fun G hG=>⟨⟨by kernel_rfl,fun a r h=>q05 (c:=q00 Tryz.f106) Tryz.func106 (by kernel_rfl) (by kernel_rfl) (Nat.le_of_ble_eq_true (by kernel_rfl)) hG.st (by kernel_rfl) (rs:=[.tmp 2]) (by kernel_rfl) (jix n hG) (lts:=j43 n) (fun F hF hFG=>have hK:Know Inv F.G:=hFG ▸ hG;(q02 fun j L h1 h2 h3=>absurd h2 (Nat.not_lt.2 (Nat.le_trans (by decide +kernel) h1)))) jut ((jws n a).symm.trans h)⟩,rfl⟩
def jd8 (n:Nat):List LC:=[]
def j8a (n:Nat) (a1:List UInt8) (a2:Int×(Int×(Int×((List UInt8)×List UInt8)))):Option (Bool) :=
 (qhf n a1).bind fun r1=>(bif !r1.2.2 then (bif !r1.2.2 then some false else (bif decide (r1.2.1=0) then some (decide (a2.1<2)) else some (decide (a2.1=r1.2.1)))) else (q9l n a2).bind fun r2=>(bif !r2 then some false else (bif decide (r1.2.1=0) then some (decide (a2.1<2)) else some (decide (a2.1=r1.2.1)))))
def qm2 (n:Nat):FC:={ f:=69,args:=[.one (.c (.d .str)),.one (.agg [.d (.int .i64),.d (.int .i64),.d (.int .i64),.d .str,.d .str])],res:=.one (.c (.d .bool)),F:=fun p=>j8a n p.1 p.2 }
def jll (n:Nat):List FC:=[q8k n,q6a n]
theorem jp3 (n:Nat) {G:World->Prop} (hG:Know Inv G) : ∀c∈jll n,q0t Tryz.prog G c/\q0c c.args=true:=List.forall_mem_cons.2 ⟨j0o n G hG,List.forall_mem_cons.2 ⟨qms n G hG,(fun _ h=>by cases h)⟩⟩
def jnr:q0b:=[]
theorem k05:drB jnr (q00 Tryz.f69)=true:=by kernel_rfl
theorem k07 (n:Nat) : ∀a,(qm2 n).F a=main Tryz.prog 30 (jll n) (jd8 n) jnr (q00 Tryz.f69) [.tmp 4] (qm2 n).args (qm2 n).res a:=by intro a;kernel_rfl
theorem k1c (n:Nat):q0h Inv Tryz.prog (qm2 n):=fun G hG=>⟨⟨by kernel_rfl,fun a r h=>q05 (c:=q00 Tryz.f69) Tryz.func69 (by kernel_rfl) (by kernel_rfl) (Nat.le_of_ble_eq_true (by kernel_rfl)) hG.st (by kernel_rfl) (rs:=[.tmp 4]) (by kernel_rfl) (jp3 n hG) (lts:=jd8 n) (fun F hF hFG=>have hK:Know Inv F.G:=hFG ▸ hG;(q02 fun j L h1 h2 h3=>absurd h2 (Nat.not_lt.2 (Nat.le_trans (by decide +kernel) h1)))) k05 ((k07 n a).symm.trans h)⟩,rfl⟩
@[reducible] def qgr:SSt:=⟨[(0,.one (.c (.d .str))),(3,.one (.c (.d (.int .i64))))],[],[]⟩
@[reducible] def qa6:List (Exit×SSt):=[(.ret,⟨[(2,.one (.c (.d .bool)))],[],[]⟩),(.exit 0,⟨[(0,.one (.c (.d .str)))],[],[]⟩)]
def qvy (n:Nat) (rec:(List UInt8)->Int->Option (((Bool×Unit)×Unit×Unit)⊕(((List UInt8)×Unit)×Unit×Unit))) (a1:List UInt8) (a2:Int):Option (((Bool×Unit)×Unit×Unit)⊕(((List UInt8)×Unit)×Unit×Unit)) :=
 (bif decide (a2<(a1.length:Int)) then (sAt a1 a2).bind fun c1=>(bif decide (97<=c1) then (bif decide (c1<=122) then q0f (IntKind.wrap .i64 (a2+1)) fun n2=>rec a1 n2 else (bif decide (65<=c1) then (bif decide (c1<=90) then q0f (IntKind.wrap .i64 (a2+1)) fun n3=>rec a1 n3 else (bif decide (48<=c1) then (bif !(decide (c1<=57)) then (bif !decide (c1=45) then (bif !decide (c1=95) then (bif !decide (c1=46) then some (Sum.inl ((false,()),((),()))) else q0f (IntKind.wrap .i64 (a2+1)) fun n4=>rec a1 n4) else q0f (IntKind.wrap .i64 (a2+1)) fun n5=>rec a1 n5) else q0f (IntKind.wrap .i64 (a2+1)) fun n6=>rec a1 n6) else q0f (IntKind.wrap .i64 (a2+1)) fun n7=>rec a1 n7) else (bif !decide (c1=45) then (bif !decide (c1=95) then (bif !decide (c1=46) then some (Sum.inl ((false,()),((),()))) else q0f (IntKind.wrap .i64 (a2+1)) fun n8=>rec a1 n8) else q0f (IntKind.wrap .i64 (a2+1)) fun n9=>rec a1 n9) else q0f (IntKind.wrap .i64 (a2+1)) fun n10=>rec a1 n10))) else (bif decide (48<=c1) then (bif !(decide (c1<=57)) then (bif !decide (c1=45) then (bif !decide (c1=95) then (bif !decide (c1=46) then some (Sum.inl ((false,()),((),()))) else q0f (IntKind.wrap .i64 (a2+1)) fun n11=>rec a1 n11) else q0f (IntKind.wrap .i64 (a2+1)) fun n12=>rec a1 n12) else q0f (IntKind.wrap .i64 (a2+1)) fun n13=>rec a1 n13) else q0f (IntKind.wrap .i64 (a2+1)) fun n14=>rec a1 n14) else (bif !decide (c1=45) then (bif !decide (c1=95) then (bif !decide (c1=46) then some (Sum.inl ((false,()),((),()))) else q0f (IntKind.wrap .i64 (a2+1)) fun n15=>rec a1 n15) else q0f (IntKind.wrap .i64 (a2+1)) fun n16=>rec a1 n16) else q0f (IntKind.wrap .i64 (a2+1)) fun n17=>rec a1 n17)))) else (bif decide (65<=c1) then (bif decide (c1<=90) then q0f (IntKind.wrap .i64 (a2+1)) fun n18=>rec a1 n18 else (bif decide (48<=c1) then (bif !(decide (c1<=57)) then (bif !decide (c1=45) then (bif !decide (c1=95) then (bif !decide (c1=46) then some (Sum.inl ((false,()),((),()))) else q0f (IntKind.wrap .i64 (a2+1)) fun n19=>rec a1 n19) else q0f (IntKind.wrap .i64 (a2+1)) fun n20=>rec a1 n20) else q0f (IntKind.wrap .i64 (a2+1)) fun n21=>rec a1 n21) else q0f (IntKind.wrap .i64 (a2+1)) fun n22=>rec a1 n22) else (bif !decide (c1=45) then (bif !decide (c1=95) then (bif !decide (c1=46) then some (Sum.inl ((false,()),((),()))) else q0f (IntKind.wrap .i64 (a2+1)) fun n23=>rec a1 n23) else q0f (IntKind.wrap .i64 (a2+1)) fun n24=>rec a1 n24) else q0f (IntKind.wrap .i64 (a2+1)) fun n25=>rec a1 n25))) else (bif decide (48<=c1) then (bif !(decide (c1<=57)) then (bif !decide (c1=45) then (bif !decide (c1=95) then (bif !decide (c1=46) then some (Sum.inl ((false,()),((),()))) else q0f (IntKind.wrap .i64 (a2+1)) fun n26=>rec a1 n26) else q0f (IntKind.wrap .i64 (a2+1)) fun n27=>rec a1 n27) else q0f (IntKind.wrap .i64 (a2+1)) fun n28=>rec a1 n28) else q0f (IntKind.wrap .i64 (a2+1)) fun n29=>rec a1 n29) else (bif !decide (c1=45) then (bif !decide (c1=95) then (bif !decide (c1=46) then some (Sum.inl ((false,()),((),()))) else q0f (IntKind.wrap .i64 (a2+1)) fun n30=>rec a1 n30) else q0f (IntKind.wrap .i64 (a2+1)) fun n31=>rec a1 n31) else q0f (IntKind.wrap .i64 (a2+1)) fun n32=>rec a1 n32)))) else some (Sum.inr (((a1,()),((),())))))
def qw4 (n:Nat) (rec:pSt qgr->Option (q06 qa6)) (p:pSt qgr):Option (q06 qa6):=qvy n (fun a1 a2=>rec ((a1,(a2,())),((),()))) p.1.1 p.1.2.1
def q9r (n m:Nat) (a1:List UInt8) (a2:Int):Option (((Bool×Unit)×Unit×Unit)⊕(((List UInt8)×Unit)×Unit×Unit)):=q08 (qw4 n) m ((a1,(a2,())),((),()))
theorem qqb (n m:Nat) (a1 a2):q9r n (m+1) a1 a2=qvy n (fun a1 a2=>q9r n m a1 a2) a1 a2:=rfl
def ja4 (n:Nat):LC:={ sh:=qgr,outs:=qa6,F:=q08 (qw4 n) n }
def qq0 (n:Nat):List LC:=[ja4 n]
def qv0 (n:Nat) (a1:List UInt8):Option (Bool) :=
 (q9r n n a1 (0:Int)).bind fun o33=>Sum.elim (fun (q34:(Bool×Unit)×Unit×Unit)=>some q34.1.1) (fun (q35:((List UInt8)×Unit)×Unit×Unit)=>(bif !decide (q35.1.1=([]:List UInt8)) then (bif !decide (q35.1.1=([46]:List UInt8)) then some (!decide (q35.1.1=([46,46]:List UInt8))) else some false) else some false)) o33
def qei (n:Nat):FC:={ f:=127,args:=[.one (.c (.d .str))],res:=.one (.c (.d .bool)),F:=fun p=>qv0 n p }
def qz9 (n:Nat):List FC:=[]
theorem j1p (n:Nat) {G:World->Prop} (hG:Know Inv G) : ∀c∈qz9 n,q0t Tryz.prog G c/\q0c c.args=true:=(fun _ h=>by cases h)
def qzq:q0b:=[]
theorem jay:drB qzq (q00 Tryz.f127)=true:=by kernel_rfl
theorem jso (n:Nat) : ∀rec p,qw4 n rec p=round Tryz.prog 61 (qz9 n) (qq0 n) qzq 1 qgr qa6 (q01 0 0 (q00 Tryz.f127)) rec p:=by intro rec p;kernel_rfl
theorem jj7 (n:Nat) {F:Fr} (hF:F.n=61) (hK:Know Inv F.G):q2h Tryz.prog F (ja4 n) (q01 0 0 (q00 Tryz.f127)) :=
 q09 hF (by kernel_rfl) (j1p n hK) (jso n) (fuel:=n) (fun _=>rfl) (q02 fun j L h1 h2 h3=>absurd h2 (Nat.not_lt.2 (Nat.le_trans (by decide +kernel) h1))) (q0g jay)
theorem juk (n:Nat) : ∀a,(qei n).F a=main Tryz.prog 61 (qz9 n) (qq0 n) qzq (q00 Tryz.f127) [.tmp 2] (qei n).args (qei n).res a:=by intro a;kernel_rfl
theorem jy3 (n:Nat):q0h Inv Tryz.prog (qei n):=fun G hG=>⟨⟨by kernel_rfl,fun a r h=>q05 (c:=q00 Tryz.f127) Tryz.func127 (by kernel_rfl) (by kernel_rfl) (Nat.le_of_ble_eq_true (by kernel_rfl)) hG.st (by kernel_rfl) (rs:=[.tmp 2]) (by kernel_rfl) (j1p n hG) (lts:=qq0 n) (fun F hF hFG=>have hK:Know Inv F.G:=hFG ▸ hG;(q02 (c:=(q00 Tryz.f127)) (fun j L h1 h2 h3=>by
  have h2':j<1:=Nat.lt_of_lt_of_le h2 (by decide +kernel)
  match j,h1,h2',h3 with
  | 0,_,_,h3=>obtain rfl:=Option.some.inj h3;exact (show q01 0 0 (q00 Tryz.f127)=q01 0 0 (q00 Tryz.f127) by kernel_rfl) ▸ jj7 n hF hK
  | j+1,_,h2',_=>exact absurd h2' (by omega)))) jay ((juk n a).symm.trans h)⟩,rfl⟩
@[reducible] def qgh:SSt:=⟨[(3,.one (.c (.d (.lst .str)))),(4,.one (.c (.d (.int .i64))))],[],[]⟩
@[reducible] def qa1:List (Exit×SSt):=[(.ret,⟨[(2,.one (.c (.d .bool)))],[],[]⟩),(.exit 0,⟨[],[],[]⟩)]
def qxg (n:Nat) (rec:(List (List UInt8))->Int->Option (((Bool×Unit)×Unit×Unit)⊕(Unit×Unit×Unit))) (a1:List (List UInt8)) (a2:Int):Option (((Bool×Unit)×Unit×Unit)⊕(Unit×Unit×Unit)) :=
 (bif decide (a2<(a1.length:Int)) then (q0s a1 a2).bind fun x2=>(qv0 n x2).bind fun r3=>(bif !r3 then some (Sum.inl ((false,()),((),()))) else q0f (IntKind.wrap .i64 (a2+1)) fun n4=>rec a1 n4) else some (Sum.inr (((),((),())))))
def qyk (n:Nat) (rec:pSt qgh->Option (q06 qa1)) (p:pSt qgh):Option (q06 qa1):=qxg n (fun a1 a2=>rec ((a1,(a2,())),((),()))) p.1.1 p.1.2.1
def qa3 (n m:Nat) (a1:List (List UInt8)) (a2:Int):Option (((Bool×Unit)×Unit×Unit)⊕(Unit×Unit×Unit)):=q08 (qyk n) m ((a1,(a2,())),((),()))
theorem qpr (n m:Nat) (a1 a2):qa3 n (m+1) a1 a2=qxg n (fun a1 a2=>qa3 n m a1 a2) a1 a2:=rfl
def jde (n:Nat):LC:={ sh:=qgh,outs:=qa1,F:=q08 (qyk n) n }
def qqn (n:Nat):List LC:=[jde n]
def qvn (n:Nat) (a1:List UInt8):Option (Bool) :=
 (bif decide (60<(a1.length:Int)) then some false else (q24 n a1 (47:Int)).bind fun r1=>(qa3 n n r1 (0:Int)).bind fun o5=>Sum.elim (fun (q6:(Bool×Unit)×Unit×Unit)=>some q6.1.1) (fun (q7:(Unit)×Unit×Unit)=>some true) o5)
def qfv (n:Nat):FC:={ f:=97,args:=[.one (.c (.d .str))],res:=.one (.c (.d .bool)),F:=fun p=>qvn n p }
def qwm (n:Nat):List FC:=[q33 n,qei n]
theorem qxo (n:Nat) {G:World->Prop} (hG:Know Inv G) : ∀c∈qwm n,q0t Tryz.prog G c/\q0c c.args=true:=List.forall_mem_cons.2 ⟨qbe n G hG,List.forall_mem_cons.2 ⟨jy3 n G hG,(fun _ h=>by cases h)⟩⟩
def qyd:q0b:=[]
theorem j9z:drB qyd (q00 Tryz.f97)=true:=by kernel_rfl
theorem jq5 (n:Nat) : ∀rec p,qyk n rec p=round Tryz.prog 22 (qwm n) (qqn n) qyd 1 qgh qa1 (q01 0 0 (q00 Tryz.f97)) rec p:=by intro rec p;kernel_rfl
theorem jjb (n:Nat) {F:Fr} (hF:F.n=22) (hK:Know Inv F.G):q2h Tryz.prog F (jde n) (q01 0 0 (q00 Tryz.f97)) :=
 q09 hF (by kernel_rfl) (qxo n hK) (jq5 n) (fuel:=n) (fun _=>rfl) (q02 fun j L h1 h2 h3=>absurd h2 (Nat.not_lt.2 (Nat.le_trans (by decide +kernel) h1))) (q0g j9z)
theorem jyd (n:Nat) : ∀a,(qfv n).F a=main Tryz.prog 22 (qwm n) (qqn n) qyd (q00 Tryz.f97) [.tmp 2] (qfv n).args (qfv n).res a:=by intro a;kernel_rfl
theorem jvq (n:Nat):q0h Inv Tryz.prog (qfv n):=fun G hG=>⟨⟨by kernel_rfl,fun a r h=>q05 (c:=q00 Tryz.f97) Tryz.func97 (by kernel_rfl) (by kernel_rfl) (Nat.le_of_ble_eq_true (by kernel_rfl)) hG.st (by kernel_rfl) (rs:=[.tmp 2]) (by kernel_rfl) (qxo n hG) (lts:=qqn n) (fun F hF hFG=>have hK:Know Inv F.G:=hFG ▸ hG;(q02 (c:=(q00 Tryz.f97)) (fun j L h1 h2 h3=>by
  have h2':j<1:=Nat.lt_of_lt_of_le h2 (by decide +kernel)
  match j,h1,h2',h3 with
  | 0,_,_,h3=>obtain rfl:=Option.some.inj h3;exact (show q01 0 0 (q00 Tryz.f97)=q01 0 0 (q00 Tryz.f97) by kernel_rfl) ▸ jjb n hF hK
  | j+1,_,h2',_=>exact absurd h2' (by omega)))) j9z ((jyd n a).symm.trans h)⟩,rfl⟩
@[reducible] def qdh:SSt:=⟨[(0,.one (.c (.d .str))),(3,.one (.c (.d (.int .i64))))],[],[]⟩
@[reducible] def q77:List (Exit×SSt):=[(.ret,⟨[(2,.one (.c (.d .bool)))],[],[]⟩),(.exit 0,⟨[(0,.one (.c (.d .str)))],[],[]⟩)]
def qr3 (n:Nat) (rec:(List UInt8)->Int->Option (((Bool×Unit)×Unit×Unit)⊕(((List UInt8)×Unit)×Unit×Unit))) (a1:List UInt8) (a2:Int):Option (((Bool×Unit)×Unit×Unit)⊕(((List UInt8)×Unit)×Unit×Unit)) :=
 (bif decide (a2<(a1.length:Int)) then (sAt a1 a2).bind fun c1=>(bif decide (c1<48) then some (Sum.inl ((false,()),((),()))) else (sAt a1 a2).bind fun c2=>(bif decide (57<c2) then some (Sum.inl ((false,()),((),()))) else q0f (IntKind.wrap .i64 (a2+1)) fun n3=>rec a1 n3)) else some (Sum.inr (((a1,()),((),())))))
def qrc (n:Nat) (rec:pSt qdh->Option (q06 q77)) (p:pSt qdh):Option (q06 q77):=qr3 n (fun a1 a2=>rec ((a1,(a2,())),((),()))) p.1.1 p.1.2.1
def q7i (n m:Nat) (a1:List UInt8) (a2:Int):Option (((Bool×Unit)×Unit×Unit)⊕(((List UInt8)×Unit)×Unit×Unit)):=q08 (qrc n) m ((a1,(a2,())),((),()))
theorem qma (n m:Nat) (a1 a2):q7i n (m+1) a1 a2=qr3 n (fun a1 a2=>q7i n m a1 a2) a1 a2:=rfl
def j2y (n:Nat):LC:={ sh:=qdh,outs:=q77,F:=q08 (qrc n) n }
def qkf (n:Nat):List LC:=[j2y n]
def qf7 (n:Nat) (a1:List UInt8):Option (Bool) :=
 (q7i n n a1 (1:Int)).bind fun o4=>Sum.elim (fun (q5:(Bool×Unit)×Unit×Unit)=>some q5.1.1) (fun (q6:((List UInt8)×Unit)×Unit×Unit)=>(bif decide (1<(q6.1.1.length:Int)) then (sAt q6.1.1 (0:Int)).bind fun c7=>some (decide (c7=118)) else some false)) o4
def q7n (n:Nat):FC:={ f:=63,args:=[.one (.c (.d .str))],res:=.one (.c (.d .bool)),F:=fun p=>qf7 n p }
def qrv (n:Nat):List FC:=[]
theorem qt3 (n:Nat) {G:World->Prop} (hG:Know Inv G) : ∀c∈qrv n,q0t Tryz.prog G c/\q0c c.args=true:=(fun _ h=>by cases h)
def qr6:q0b:=[]
theorem j4q:drB qr6 (q00 Tryz.f63)=true:=by kernel_rfl
theorem jh3 (n:Nat) : ∀rec p,qrc n rec p=round Tryz.prog 28 (qrv n) (qkf n) qr6 1 qdh q77 (q01 0 0 (q00 Tryz.f63)) rec p:=by intro rec p;kernel_rfl
theorem jdg (n:Nat) {F:Fr} (hF:F.n=28) (hK:Know Inv F.G):q2h Tryz.prog F (j2y n) (q01 0 0 (q00 Tryz.f63)) :=
 q09 hF (by kernel_rfl) (qt3 n hK) (jh3 n) (fuel:=n) (fun _=>rfl) (q02 fun j L h1 h2 h3=>absurd h2 (Nat.not_lt.2 (Nat.le_trans (by decide +kernel) h1))) (q0g j4q)
theorem jq0 (n:Nat) : ∀a,(q7n n).F a=main Tryz.prog 28 (qrv n) (qkf n) qr6 (q00 Tryz.f63) [.tmp 2] (q7n n).args (q7n n).res a:=by intro a;kernel_rfl
theorem j36 (n:Nat):q0h Inv Tryz.prog (q7n n):=fun G hG=>⟨⟨by kernel_rfl,fun a r h=>q05 (c:=q00 Tryz.f63) Tryz.func63 (by kernel_rfl) (by kernel_rfl) (Nat.le_of_ble_eq_true (by kernel_rfl)) hG.st (by kernel_rfl) (rs:=[.tmp 2]) (by kernel_rfl) (qt3 n hG) (lts:=qkf n) (fun F hF hFG=>have hK:Know Inv F.G:=hFG ▸ hG;(q02 (c:=(q00 Tryz.f63)) (fun j L h1 h2 h3=>by
  have h2':j<1:=Nat.lt_of_lt_of_le h2 (by decide +kernel)
  match j,h1,h2',h3 with
  | 0,_,_,h3=>obtain rfl:=Option.some.inj h3;exact (show q01 0 0 (q00 Tryz.f63)=q01 0 0 (q00 Tryz.f63) by kernel_rfl) ▸ jdg n hF hK
  | j+1,_,h2',_=>exact absurd h2' (by omega)))) j4q ((jq0 n a).symm.trans h)⟩,rfl⟩
@[reducible] def q91:SSt:=⟨[(0,.one (.c (.d .str))),(3,.one (.c (.d (.int .i64)))),(4,.one (.c (.d (.int .i64))))],[],[]⟩
@[reducible] def q58:List (Exit×SSt):=[(.exit 0,⟨[(3,.one (.c (.d (.int .i64))))],[],[]⟩)]
def qk7 (n:Nat) (rec:(List UInt8)->Int->Int->Option ((Int×Unit)×Unit×Unit)) (a1:List UInt8) (a2:Int) (a3:Int):Option ((Int×Unit)×Unit×Unit) :=
 (bif decide (a3<(a1.length:Int)) then q0f (IntKind.wrap .i64 ((10:Int)*a2)) fun n2=>(sAt a1 a3).bind fun c3=>q0f (IntKind.wrap .i64 c3) fun n4=>q0f (IntKind.wrap .i64 (n2+n4)) fun n5=>q0f (IntKind.wrap .i64 (n5 - (48:Int))) fun n6=>q0f (IntKind.wrap .i64 (a3+1)) fun n7=>rec a1 n6 n7 else some (((a2,()),((),()))))
def qkq (n:Nat) (rec:pSt q91->Option (q06 q58)) (p:pSt q91):Option (q06 q58):=qk7 n (fun a1 a2 a3=>rec ((a1,(a2,(a3,()))),((),()))) p.1.1 p.1.2.1 p.1.2.2.1
def q5d (n m:Nat) (a1:List UInt8) (a2:Int) (a3:Int):Option ((Int×Unit)×Unit×Unit):=q08 (qkq n) m ((a1,(a2,(a3,()))),((),()))
theorem qjo (n m:Nat) (a1 a2 a3):q5d n (m+1) a1 a2 a3=qk7 n (fun a1 a2 a3=>q5d n m a1 a2 a3) a1 a2 a3:=rfl
def qz8 (n:Nat):LC:={ sh:=q91,outs:=q58,F:=q08 (qkq n) n }
def qfw (n:Nat):List LC:=[qz8 n]
def qbw (n:Nat) (a1:List UInt8):Option (Int) :=
 (bif decide (10<(a1.length:Int)) then some (0:Int) else (sAt a1 (1:Int)).bind fun c1=>(bif decide (c1=48) then some (0:Int) else (q5d n n a1 (0:Int) (1:Int)).bind fun o8=>(bif decide (o8.1.1<2) then some (0:Int) else some o8.1.1)))
def q4w (n:Nat):FC:={ f:=65,args:=[.one (.c (.d .str))],res:=.one (.c (.d (.int .i64))),F:=fun p=>qbw n p }
def qja (n:Nat):List FC:=[]
theorem qm6 (n:Nat) {G:World->Prop} (hG:Know Inv G) : ∀c∈qja n,q0t Tryz.prog G c/\q0c c.args=true:=(fun _ h=>by cases h)
def qj7:q0b:=[]
theorem qxy:drB qj7 (q00 Tryz.f65)=true:=by kernel_rfl
theorem jec (n:Nat) : ∀rec p,qkq n rec p=round Tryz.prog 30 (qja n) (qfw n) qj7 1 q91 q58 (q01 0 0 (q00 Tryz.f65)) rec p:=by intro rec p;kernel_rfl
theorem j61 (n:Nat) {F:Fr} (hF:F.n=30) (hK:Know Inv F.G):q2h Tryz.prog F (qz8 n) (q01 0 0 (q00 Tryz.f65)) :=
 q09 hF (by kernel_rfl) (qm6 n hK) (jec n) (fuel:=n) (fun _=>rfl) (q02 fun j L h1 h2 h3=>absurd h2 (Nat.not_lt.2 (Nat.le_trans (by decide +kernel) h1))) (q0g qxy)
theorem jkq (n:Nat) : ∀a,(q4w n).F a=main Tryz.prog 30 (qja n) (qfw n) qj7 (q00 Tryz.f65) [.tmp 2] (q4w n).args (q4w n).res a:=by intro a;kernel_rfl
theorem qws (n:Nat):q0h Inv Tryz.prog (q4w n):=fun G hG=>⟨⟨by kernel_rfl,fun a r h=>q05 (c:=q00 Tryz.f65) Tryz.func65 (by kernel_rfl) (by kernel_rfl) (Nat.le_of_ble_eq_true (by kernel_rfl)) hG.st (by kernel_rfl) (rs:=[.tmp 2]) (by kernel_rfl) (qm6 n hG) (lts:=qfw n) (fun F hF hFG=>have hK:Know Inv F.G:=hFG ▸ hG;(q02 (c:=(q00 Tryz.f65)) (fun j L h1 h2 h3=>by
  have h2':j<1:=Nat.lt_of_lt_of_le h2 (by decide +kernel)
  match j,h1,h2',h3 with
  | 0,_,_,h3=>obtain rfl:=Option.some.inj h3;exact (show q01 0 0 (q00 Tryz.f65)=q01 0 0 (q00 Tryz.f65) by kernel_rfl) ▸ j61 n hF hK
  | j+1,_,h2',_=>exact absurd h2' (by omega)))) qxy ((jkq n a).symm.trans h)⟩,rfl⟩
@[reducible] def qd0:SSt:=⟨[(3,.one (.c (.d (.lst .str)))),(4,.one (.c (.d (.int .i64))))],[],[]⟩
@[reducible] def q70:List (Exit×SSt):=[(.ret,⟨[(2,.one (.c (.d .bool)))],[],[]⟩),(.exit 0,⟨[],[],[]⟩)]
def qhg (n:Nat) (rec:(List (List UInt8))->Int->Option (((Bool×Unit)×Unit×Unit)⊕(Unit×Unit×Unit))) (a1:List (List UInt8)) (a2:Int):Option (((Bool×Unit)×Unit×Unit)⊕(Unit×Unit×Unit)) :=
 (bif decide (a2<(a1.length:Int)) then (q0s a1 a2).bind fun x3=>(qf7 n x3).bind fun r4=>(bif r4 then q0f (IntKind.wrap .i64 ((a1.length:Int) - (1:Int))) fun (n5:Int)=>(bif decide (a2<n5) then some (Sum.inl ((false,()),((),()))) else (bif decide (a2=0) then some (Sum.inl ((false,()),((),()))) else (q0s a1 a2).bind fun x6=>(qbw n x6).bind fun r7=>(bif decide (r7=0) then some (Sum.inl ((false,()),((),()))) else q0f (IntKind.wrap .i64 (a2+1)) fun n8=>rec a1 n8))) else q0f (IntKind.wrap .i64 (a2+1)) fun n9=>rec a1 n9) else some (Sum.inr (((),((),())))))
def qqg (n:Nat) (rec:pSt qd0->Option (q06 q70)) (p:pSt qd0):Option (q06 q70):=qhg n (fun a1 a2=>rec ((a1,(a2,())),((),()))) p.1.1 p.1.2.1
def q44 (n m:Nat) (a1:List (List UInt8)) (a2:Int):Option (((Bool×Unit)×Unit×Unit)⊕(Unit×Unit×Unit)):=q08 (qqg n) m ((a1,(a2,())),((),()))
theorem q8w (n m:Nat) (a1 a2):q44 n (m+1) a1 a2=qhg n (fun a1 a2=>q44 n m a1 a2) a1 a2:=rfl
def j4r (n:Nat):LC:={ sh:=qd0,outs:=q70,F:=q08 (qqg n) n }
def qj2 (n:Nat):List LC:=[j4r n]
def qfn (n:Nat) (a1:List UInt8):Option (Bool) :=
 (qvn n a1).bind fun r1=>(bif !r1 then some false else (q24 n a1 (47:Int)).bind fun r2=>(q44 n n r2 (0:Int)).bind fun o10=>Sum.elim (fun (q11:(Bool×Unit)×Unit×Unit)=>some q11.1.1) (fun (q12:(Unit)×Unit×Unit)=>some true) o10)
def q7r (n:Nat):FC:={ f:=61,args:=[.one (.c (.d .str))],res:=.one (.c (.d .bool)),F:=fun p=>qfn n p }
def qrm (n:Nat):List FC:=[qfv n,q33 n,q7n n,q4w n]
theorem qt8 (n:Nat) {G:World->Prop} (hG:Know Inv G) : ∀c∈qrm n,q0t Tryz.prog G c/\q0c c.args=true:=List.forall_mem_cons.2 ⟨jvq n G hG,List.forall_mem_cons.2 ⟨qbe n G hG,List.forall_mem_cons.2 ⟨j36 n G hG,List.forall_mem_cons.2 ⟨qws n G hG,(fun _ h=>by cases h)⟩⟩⟩⟩
def qpw:q0b:=[]
theorem j39:drB qpw (q00 Tryz.f61)=true:=by kernel_rfl
theorem jjx (n:Nat) : ∀rec p,qqg n rec p=round Tryz.prog 40 (qrm n) (qj2 n) qpw 1 qd0 q70 (q01 0 0 (q00 Tryz.f61)) rec p:=by intro rec p;kernel_rfl
theorem jc0 (n:Nat) {F:Fr} (hF:F.n=40) (hK:Know Inv F.G):q2h Tryz.prog F (j4r n) (q01 0 0 (q00 Tryz.f61)) :=
 q09 hF (by kernel_rfl) (qt8 n hK) (jjx n) (fuel:=n) (fun _=>rfl) (q02 fun j L h1 h2 h3=>absurd h2 (Nat.not_lt.2 (Nat.le_trans (by decide +kernel) h1))) (q0g j39)
theorem jp2 (n:Nat) : ∀a,(q7r n).F a=main Tryz.prog 40 (qrm n) (qj2 n) qpw (q00 Tryz.f61) [.tmp 2] (q7r n).args (q7r n).res a:=by intro a;kernel_rfl
theorem j3e (n:Nat):q0h Inv Tryz.prog (q7r n):=fun G hG=>⟨⟨by kernel_rfl,fun a r h=>q05 (c:=q00 Tryz.f61) Tryz.func61 (by kernel_rfl) (by kernel_rfl) (Nat.le_of_ble_eq_true (by kernel_rfl)) hG.st (by kernel_rfl) (rs:=[.tmp 2]) (by kernel_rfl) (qt8 n hG) (lts:=qj2 n) (fun F hF hFG=>have hK:Know Inv F.G:=hFG ▸ hG;(q02 (c:=(q00 Tryz.f61)) (fun j L h1 h2 h3=>by
  have h2':j<1:=Nat.lt_of_lt_of_le h2 (by decide +kernel)
  match j,h1,h2',h3 with
  | 0,_,_,h3=>obtain rfl:=Option.some.inj h3;exact (show q01 0 0 (q00 Tryz.f61)=q01 0 0 (q00 Tryz.f61) by kernel_rfl) ▸ jc0 n hF hK
  | j+1,_,h2',_=>exact absurd h2' (by omega)))) j39 ((jp2 n a).symm.trans h)⟩,rfl⟩
@[reducible] def qgg:SSt:=⟨[(0,.one (.c (.d .str))),(3,.one (.c (.d (.int .i64))))],[],[]⟩
@[reducible] def q9w:List (Exit×SSt):=[(.ret,⟨[(2,.one (.c (.d .str)))],[],[]⟩),(.exit 0,⟨[],[],[]⟩)]
def qo2 (n:Nat) (rec:(List UInt8)->Int->Option ((((List UInt8)×Unit)×Unit×Unit)⊕(Unit×Unit×Unit))) (a1:List UInt8) (a2:Int):Option ((((List UInt8)×Unit)×Unit×Unit)⊕(Unit×Unit×Unit)) :=
 (bif decide (0<=a2) then (sAt a1 a2).bind fun c2=>(bif decide (c2=47) then (j2i a1 (0:Int) a2).bind fun s3=>some (Sum.inl ((s3,()),((),()))) else q0f (IntKind.wrap .i64 (a2 - (1:Int))) fun n4=>rec a1 n4) else some (Sum.inr (((),((),())))))
def qwq (n:Nat) (rec:pSt qgg->Option (q06 q9w)) (p:pSt qgg):Option (q06 q9w):=qo2 n (fun a1 a2=>rec ((a1,(a2,())),((),()))) p.1.1 p.1.2.1
def qa4 (n m:Nat) (a1:List UInt8) (a2:Int):Option ((((List UInt8)×Unit)×Unit×Unit)⊕(Unit×Unit×Unit)):=q08 (qwq n) m ((a1,(a2,())),((),()))
theorem qbo (n m:Nat) (a1 a2):qa4 n (m+1) a1 a2=qo2 n (fun a1 a2=>qa4 n m a1 a2) a1 a2:=rfl
def jcc (n:Nat):LC:={ sh:=qgg,outs:=q9w,F:=q08 (qwq n) n }
def qpg (n:Nat):List LC:=[jcc n]
def qv2 (n:Nat) (a1:List UInt8):Option (List UInt8) :=
 q0f (IntKind.wrap .i64 ((a1.length:Int) - (1:Int))) fun (n1:Int)=>(qa4 n n a1 n1).bind fun o5=>Sum.elim (fun (q6:((List UInt8)×Unit)×Unit×Unit)=>some q6.1.1) (fun (q7:(Unit)×Unit×Unit)=>some ([]:List UInt8)) o5
def qel (n:Nat):FC:={ f:=64,args:=[.one (.c (.d .str))],res:=.one (.c (.d .str)),F:=fun p=>qv2 n p }
def qzu (n:Nat):List FC:=[]
theorem qxi (n:Nat) {G:World->Prop} (hG:Know Inv G) : ∀c∈qzu n,q0t Tryz.prog G c/\q0c c.args=true:=(fun _ h=>by cases h)
def j0f:q0b:=[]
theorem jb9:drB j0f (q00 Tryz.f64)=true:=by kernel_rfl
theorem jrl (n:Nat) : ∀rec p,qwq n rec p=round Tryz.prog 18 (qzu n) (qpg n) j0f 1 qgg q9w (q01 0 0 (q00 Tryz.f64)) rec p:=by intro rec p;kernel_rfl
theorem jfu (n:Nat) {F:Fr} (hF:F.n=18) (hK:Know Inv F.G):q2h Tryz.prog F (jcc n) (q01 0 0 (q00 Tryz.f64)) :=
 q09 hF (by kernel_rfl) (qxi n hK) (jrl n) (fuel:=n) (fun _=>rfl) (q02 fun j L h1 h2 h3=>absurd h2 (Nat.not_lt.2 (Nat.le_trans (by decide +kernel) h1))) (q0g jb9)
theorem jwu (n:Nat) : ∀a,(qel n).F a=main Tryz.prog 18 (qzu n) (qpg n) j0f (q00 Tryz.f64) [.tmp 2] (qel n).args (qel n).res a:=by intro a;kernel_rfl
theorem jze (n:Nat):q0h Inv Tryz.prog (qel n):=fun G hG=>⟨⟨by kernel_rfl,fun a r h=>q05 (c:=q00 Tryz.f64) Tryz.func64 (by kernel_rfl) (by kernel_rfl) (Nat.le_of_ble_eq_true (by kernel_rfl)) hG.st (by kernel_rfl) (rs:=[.tmp 2]) (by kernel_rfl) (qxi n hG) (lts:=qpg n) (fun F hF hFG=>have hK:Know Inv F.G:=hFG ▸ hG;(q02 (c:=(q00 Tryz.f64)) (fun j L h1 h2 h3=>by
  have h2':j<1:=Nat.lt_of_lt_of_le h2 (by decide +kernel)
  match j,h1,h2',h3 with
  | 0,_,_,h3=>obtain rfl:=Option.some.inj h3;exact (show q01 0 0 (q00 Tryz.f64)=q01 0 0 (q00 Tryz.f64) by kernel_rfl) ▸ jfu n hF hK
  | j+1,_,h2',_=>exact absurd h2' (by omega)))) jb9 ((jwu n a).symm.trans h)⟩,rfl⟩
def j0s (n:Nat):List LC:=[]
def qf4 (n:Nat) (a1:List UInt8):Option ((List UInt8)×(Int×(Bool))) :=
 (qfn n a1).bind fun r1=>(bif !r1 then some (([]:List UInt8),((0:Int),false)) else (q24 n a1 (47:Int)).bind fun r2=>q0f (IntKind.wrap .i64 ((r2.length:Int) - (1:Int))) fun (n3:Int)=>(q0s r2 n3).bind fun x4=>(qf7 n x4).bind fun r5=>(bif !r5 then some (a1,((0:Int),true)) else (qv2 n a1).bind fun r6=>(qbw n x4).bind fun r7=>some (r6,(r7,true))))
def q7x (n:Nat):FC:={ f:=28,args:=[.one (.c (.d .str))],res:=.tup [.c (.d .str),.c (.d (.int .i64)),.c (.d .bool)],F:=fun p=>qf4 n p }
def j4l (n:Nat):List FC:=[q7r n,q33 n,q7n n,qel n,q4w n]
theorem jb6 (n:Nat) {G:World->Prop} (hG:Know Inv G) : ∀c∈j4l n,q0t Tryz.prog G c/\q0c c.args=true:=List.forall_mem_cons.2 ⟨j3e n G hG,List.forall_mem_cons.2 ⟨qbe n G hG,List.forall_mem_cons.2 ⟨j36 n G hG,List.forall_mem_cons.2 ⟨jze n G hG,List.forall_mem_cons.2 ⟨qws n G hG,(fun _ h=>by cases h)⟩⟩⟩⟩⟩
def j3s:q0b:=[]
theorem jqq:drB j3s (q00 Tryz.f28)=true:=by kernel_rfl
theorem jr0 (n:Nat) : ∀a,(q7x n).F a=main Tryz.prog 26 (j4l n) (j0s n) j3s (q00 Tryz.f28) [.tmp 2,.tmp 3,.tmp 4] (q7x n).args (q7x n).res a:=by intro a;kernel_rfl
theorem j5g (n:Nat):q0h Inv Tryz.prog (q7x n):=fun G hG=>⟨⟨by kernel_rfl,fun a r h=>q05 (c:=q00 Tryz.f28) Tryz.func28 (by kernel_rfl) (by kernel_rfl) (Nat.le_of_ble_eq_true (by kernel_rfl)) hG.st (by kernel_rfl) (rs:=[.tmp 2,.tmp 3,.tmp 4]) (by kernel_rfl) (jb6 n hG) (lts:=j0s n) (fun F hF hFG=>have hK:Know Inv F.G:=hFG ▸ hG;(q02 fun j L h1 h2 h3=>absurd h2 (Nat.not_lt.2 (Nat.le_trans (by decide +kernel) h1)))) jqq ((jr0 n a).symm.trans h)⟩,rfl⟩
def j44 (n:Nat):List LC:=[]
def qui (n:Nat) (a1:List UInt8) (a2:Int×(Int×(Int×((List UInt8)×List UInt8)))):Option (Bool) :=
 (qf4 n a1).bind fun r1=>(bif !r1.2.2 then some false else (q2y n a2).bind fun r2=>(bif !r2 then some false else (bif decide (a2.1=r1.2.1) then some true else (bif decide (r1.2.1=0) then some (decide (a2.1=1)) else some false))))
def qew (n:Nat):FC:={ f:=25,args:=[.one (.c (.d .str)),.one (.agg [.d (.int .i64),.d (.int .i64),.d (.int .i64),.d .str,.d .str])],res:=.one (.c (.d .bool)),F:=fun p=>qui n p.1 p.2 }
def jae (n:Nat):List FC:=[q7x n,q6c n]
theorem jjo (n:Nat) {G:World->Prop} (hG:Know Inv G) : ∀c∈jae n,q0t Tryz.prog G c/\q0c c.args=true:=List.forall_mem_cons.2 ⟨j5g n G hG,List.forall_mem_cons.2 ⟨qnm n G hG,(fun _ h=>by cases h)⟩⟩
def j9x:q0b:=[]
theorem jwe:drB j9x (q00 Tryz.f25)=true:=by kernel_rfl
theorem jvp (n:Nat) : ∀a,(qew n).F a=main Tryz.prog 34 (jae n) (j44 n) j9x (q00 Tryz.f25) [.tmp 4] (qew n).args (qew n).res a:=by intro a;kernel_rfl
theorem jtp (n:Nat):q0h Inv Tryz.prog (qew n):=fun G hG=>⟨⟨by kernel_rfl,fun a r h=>q05 (c:=q00 Tryz.f25) Tryz.func25 (by kernel_rfl) (by kernel_rfl) (Nat.le_of_ble_eq_true (by kernel_rfl)) hG.st (by kernel_rfl) (rs:=[.tmp 4]) (by kernel_rfl) (jjo n hG) (lts:=j44 n) (fun F hF hFG=>have hK:Know Inv F.G:=hFG ▸ hG;(q02 fun j L h1 h2 h3=>absurd h2 (Nat.not_lt.2 (Nat.le_trans (by decide +kernel) h1)))) jwe ((jvp n a).symm.trans h)⟩,rfl⟩
end Go.Proofs.YtggoebaobojmjaaGreatDoor.AM
