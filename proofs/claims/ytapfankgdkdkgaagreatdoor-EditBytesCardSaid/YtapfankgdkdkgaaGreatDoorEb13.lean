
import Derived.Test.YtapfankgdkdkgaaGreatDoorEb12
namespace Go.Proofs.YtapfankgdkdkgaaGreatDoor.AM
open Go.RowKit
set_option linter.unusedVariables false
set_option maxRecDepth 20000
def j80 (n:Nat):List LC:=[]
def j2p (n:Nat) (a1:Yy):Option (Yy) :=
 (j20 n a1 (47:Int)).bind fun r1=>q04 (IntKind.wrap .i64 (r1+1)) fun n2=>(q1d a1 n2 (a1.length:Int)).bind fun s3=>some s3
def qjo (n:Nat):FC:={ f:=132,args:=[.one (.c (.d .str))],res:=.one (.c (.d .str)),F:=fun p=>j2p n p }
def jkq (n:Nat):List FC:=[qj1 n]
theorem jm9 (n:Nat) {G:World->Prop} (hG:Know Inv G) : ∀c∈jkq n,q0p Tryz.prog G c/\q07 c.args=true:=List.forall_mem_cons.2 ⟨jjw n G hG,(fun _ h=>by cases h)⟩
def jjv:q06:=[]
theorem jz7:drB jjv (q00 Tryz.f132)=true:=by kernel_rfl
theorem k1b (n:Nat) : ∀a,(qjo n).F a=main Tryz.prog 8 (jkq n) (j80 n) jjv (q00 Tryz.f132) [.tmp 2] (qjo n).args (qjo n).res a:=by intro a;kernel_rfl
theorem k04 (n:Nat):q09 Inv Tryz.prog (qjo n):=fun G hG=>⟨⟨by kernel_rfl,fun a r h=>q03 (c:=q00 Tryz.f132) Tryz.func132 (by kernel_rfl) (by kernel_rfl) (Nat.le_of_ble_eq_true (by kernel_rfl)) hG.st (by kernel_rfl) (rs:=[.tmp 2]) (by kernel_rfl) (jm9 n hG) (lts:=j80 n) (fun F hF hFG=>have hK:Know Inv F.G:=hFG ▸ hG;(q02 fun j L h1 h2 h3=>absurd h2 (Nat.not_lt.2 (Nat.le_trans (by decide +kernel) h1)))) jz7 ((k1b n a).symm.trans h)⟩,rfl⟩
def j0q (n:Nat):List LC:=[]
def qjt (n:Nat) (a1:Yy):Option (Yy×(Int×(Bool))) :=
 (qv6 a1).bind fun (r1:Yy)=>(j2p n a1).bind fun r2=>(qxu a1).bind fun (r3:Bool)=>(bif !r3 then (bif !r3 then some (([]:Yy),((0:Int),false)) else (qj5 n r2).bind fun r4=>(bif !r4 then some (a1,((0:Int),true)) else (qyw r2).bind fun (r5:Int×(Bool))=>(bif !r5.2 then some (([]:Yy),((0:Int),false)) else (bif decide (r1=([]:Yy)) then some (([]:Yy),((0:Int),false)) else some (r1,(r5.1,true)))))) else (j7y r1).bind fun (r6:Bool)=>(bif r6 then some (([]:Yy),((0:Int),false)) else (qj5 n r2).bind fun r7=>(bif !r7 then some (a1,((0:Int),true)) else (qyw r2).bind fun (r8:Int×(Bool))=>(bif !r8.2 then some (([]:Yy),((0:Int),false)) else (bif decide (r1=([]:Yy)) then some (([]:Yy),((0:Int),false)) else some (r1,(r8.1,true)))))))
def q9z (n:Nat):FC:={ f:=104,args:=[.one (.c (.d .str))],res:=.tup [.c (.d .str),.c (.d (.int .i64)),.c (.d .bool)],F:=fun p=>qjt n p }
def j6h (n:Nat):List FC:=[jll,qjo n,j3m,qd3 n,jrn,jwb]
theorem jf4 (n:Nat) {G:World->Prop} (hG:Know Inv G) : ∀c∈j6h n,q0p Tryz.prog G c/\q07 c.args=true:=List.forall_mem_cons.2 ⟨jy5 G hG,List.forall_mem_cons.2 ⟨k04 n G hG,List.forall_mem_cons.2 ⟨jke G hG,List.forall_mem_cons.2 ⟨j7x n G hG,List.forall_mem_cons.2 ⟨k4k G hG,List.forall_mem_cons.2 ⟨k3n G hG,(fun _ h=>by cases h)⟩⟩⟩⟩⟩⟩
def j6n:q06:=[]
theorem jvb:drB j6n (q00 Tryz.f104)=true:=by kernel_rfl
theorem jup (n:Nat) : ∀a,(q9z n).F a=main Tryz.prog 37 (j6h n) (j0q n) j6n (q00 Tryz.f104) [.tmp 2,.tmp 3,.tmp 4] (q9z n).args (q9z n).res a:=by intro a;kernel_rfl
theorem jc1 (n:Nat):q09 Inv Tryz.prog (q9z n):=fun G hG=>⟨⟨by kernel_rfl,fun a r h=>q03 (c:=q00 Tryz.f104) Tryz.func104 (by kernel_rfl) (by kernel_rfl) (Nat.le_of_ble_eq_true (by kernel_rfl)) hG.st (by kernel_rfl) (rs:=[.tmp 2,.tmp 3,.tmp 4]) (by kernel_rfl) (jf4 n hG) (lts:=j0q n) (fun F hF hFG=>have hK:Know Inv F.G:=hFG ▸ hG;(q02 fun j L h1 h2 h3=>absurd h2 (Nat.not_lt.2 (Nat.le_trans (by decide +kernel) h1)))) jvb ((jup n a).symm.trans h)⟩,rfl⟩
def j1r (n:Nat):List LC:=[]
def qbi (n:Nat) (a1:Yy):Option (Bool) :=
 (qjt n a1).bind fun r1=>some r1.2.2
def q61 (n:Nat):FC:={ f:=73,args:=[.one (.c (.d .str))],res:=.one (.c (.d .bool)),F:=fun p=>qbi n p }
def j5k (n:Nat):List FC:=[q9z n]
theorem jf2 (n:Nat) {G:World->Prop} (hG:Know Inv G) : ∀c∈j5k n,q0p Tryz.prog G c/\q07 c.args=true:=List.forall_mem_cons.2 ⟨jc1 n G hG,(fun _ h=>by cases h)⟩
def j7u:q06:=[]
theorem jw9:drB j7u (q00 Tryz.f73)=true:=by kernel_rfl
theorem jvj (n:Nat) : ∀a,(q61 n).F a=main Tryz.prog 13 (j5k n) (j1r n) j7u (q00 Tryz.f73) [.tmp 2] (q61 n).args (q61 n).res a:=by intro a;kernel_rfl
theorem qi8 (n:Nat):q09 Inv Tryz.prog (q61 n):=fun G hG=>⟨⟨by kernel_rfl,fun a r h=>q03 (c:=q00 Tryz.f73) Tryz.func73 (by kernel_rfl) (by kernel_rfl) (Nat.le_of_ble_eq_true (by kernel_rfl)) hG.st (by kernel_rfl) (rs:=[.tmp 2]) (by kernel_rfl) (jf2 n hG) (lts:=j1r n) (fun F hF hFG=>have hK:Know Inv F.G:=hFG ▸ hG;(q02 fun j L h1 h2 h3=>absurd h2 (Nat.not_lt.2 (Nat.le_trans (by decide +kernel) h1)))) jw9 ((jvj n a).symm.trans h)⟩,rfl⟩
def jbf (n:Nat):List LC:=[]
def qvd (n:Nat) (a1:Yy) (a2:Vv):Option (Bool) :=
 (qjt n a1).bind fun r1=>(bif !r1.2.2 then (bif !r1.2.2 then some false else (bif decide (r1.2.1=0) then some (decide (a2.1<2)) else some (decide (a2.1=r1.2.1)))) else (q6c n a2).bind fun r2=>(bif !r2 then some false else (bif decide (r1.2.1=0) then some (decide (a2.1<2)) else some (decide (a2.1=r1.2.1)))))
def qg1 (n:Nat):FC:={ f:=75,args:=[.one (.c (.d .str)),.one (.agg [.d (.int .i64),.d (.int .i64),.d (.int .i64),.d .str,.d .str])],res:=.one (.c (.d .bool)),F:=fun p=>qvd n p.1 p.2 }
def jkt (n:Nat):List FC:=[q9z n,q4r n]
theorem jmh (n:Nat) {G:World->Prop} (hG:Know Inv G) : ∀c∈jkt n,q0p Tryz.prog G c/\q07 c.args=true:=List.forall_mem_cons.2 ⟨jc1 n G hG,List.forall_mem_cons.2 ⟨qea n G hG,(fun _ h=>by cases h)⟩⟩
def jlp:q06:=[]
theorem jyv:drB jlp (q00 Tryz.f75)=true:=by kernel_rfl
theorem jy9 (n:Nat) : ∀a,(qg1 n).F a=main Tryz.prog 30 (jkt n) (jbf n) jlp (q00 Tryz.f75) [.tmp 4] (qg1 n).args (qg1 n).res a:=by intro a;kernel_rfl
theorem jk5 (n:Nat):q09 Inv Tryz.prog (qg1 n):=fun G hG=>⟨⟨by kernel_rfl,fun a r h=>q03 (c:=q00 Tryz.f75) Tryz.func75 (by kernel_rfl) (by kernel_rfl) (Nat.le_of_ble_eq_true (by kernel_rfl)) hG.st (by kernel_rfl) (rs:=[.tmp 4]) (by kernel_rfl) (jmh n hG) (lts:=jbf n) (fun F hF hFG=>have hK:Know Inv F.G:=hFG ▸ hG;(q02 fun j L h1 h2 h3=>absurd h2 (Nat.not_lt.2 (Nat.le_trans (by decide +kernel) h1)))) jyv ((jy9 n a).symm.trans h)⟩,rfl⟩
@[reducible] def qf3:SSt:=⟨[(0,.one (.c (.d .str))),(3,.one (.c (.d (.int .i64))))],[],[]⟩
@[reducible] def q84:List (Exit×SSt):=[(.ret,⟨[(2,.one (.c (.d .bool)))],[],[]⟩),(.exit 0,⟨[(0,.one (.c (.d .str)))],[],[]⟩)]
def qwo (n:Nat) (rec:(Yy)->Int->Option (((Bool×Unit)×Unit×Unit)⊕((Yy×Unit)×Unit×Unit))) (a1:Yy) (a2:Int):Option (((Bool×Unit)×Unit×Unit)⊕((Yy×Unit)×Unit×Unit)) :=
 (bif decide (a2<(a1.length:Int)) then (sAt a1 a2).bind fun c1=>(bif decide (97<=c1) then (bif decide (c1<=122) then q04 (IntKind.wrap .i64 (a2+1)) fun n2=>rec a1 n2 else (bif decide (65<=c1) then (bif decide (c1<=90) then q04 (IntKind.wrap .i64 (a2+1)) fun n3=>rec a1 n3 else (bif decide (48<=c1) then (bif !(decide (c1<=57)) then (bif !decide (c1=45) then (bif !decide (c1=95) then (bif !decide (c1=46) then some (Sum.inl ((false,()),((),()))) else q04 (IntKind.wrap .i64 (a2+1)) fun n4=>rec a1 n4) else q04 (IntKind.wrap .i64 (a2+1)) fun n5=>rec a1 n5) else q04 (IntKind.wrap .i64 (a2+1)) fun n6=>rec a1 n6) else q04 (IntKind.wrap .i64 (a2+1)) fun n7=>rec a1 n7) else (bif !decide (c1=45) then (bif !decide (c1=95) then (bif !decide (c1=46) then some (Sum.inl ((false,()),((),()))) else q04 (IntKind.wrap .i64 (a2+1)) fun n8=>rec a1 n8) else q04 (IntKind.wrap .i64 (a2+1)) fun n9=>rec a1 n9) else q04 (IntKind.wrap .i64 (a2+1)) fun n10=>rec a1 n10))) else (bif decide (48<=c1) then (bif !(decide (c1<=57)) then (bif !decide (c1=45) then (bif !decide (c1=95) then (bif !decide (c1=46) then some (Sum.inl ((false,()),((),()))) else q04 (IntKind.wrap .i64 (a2+1)) fun n11=>rec a1 n11) else q04 (IntKind.wrap .i64 (a2+1)) fun n12=>rec a1 n12) else q04 (IntKind.wrap .i64 (a2+1)) fun n13=>rec a1 n13) else q04 (IntKind.wrap .i64 (a2+1)) fun n14=>rec a1 n14) else (bif !decide (c1=45) then (bif !decide (c1=95) then (bif !decide (c1=46) then some (Sum.inl ((false,()),((),()))) else q04 (IntKind.wrap .i64 (a2+1)) fun n15=>rec a1 n15) else q04 (IntKind.wrap .i64 (a2+1)) fun n16=>rec a1 n16) else q04 (IntKind.wrap .i64 (a2+1)) fun n17=>rec a1 n17)))) else (bif decide (65<=c1) then (bif decide (c1<=90) then q04 (IntKind.wrap .i64 (a2+1)) fun n18=>rec a1 n18 else (bif decide (48<=c1) then (bif !(decide (c1<=57)) then (bif !decide (c1=45) then (bif !decide (c1=95) then (bif !decide (c1=46) then some (Sum.inl ((false,()),((),()))) else q04 (IntKind.wrap .i64 (a2+1)) fun n19=>rec a1 n19) else q04 (IntKind.wrap .i64 (a2+1)) fun n20=>rec a1 n20) else q04 (IntKind.wrap .i64 (a2+1)) fun n21=>rec a1 n21) else q04 (IntKind.wrap .i64 (a2+1)) fun n22=>rec a1 n22) else (bif !decide (c1=45) then (bif !decide (c1=95) then (bif !decide (c1=46) then some (Sum.inl ((false,()),((),()))) else q04 (IntKind.wrap .i64 (a2+1)) fun n23=>rec a1 n23) else q04 (IntKind.wrap .i64 (a2+1)) fun n24=>rec a1 n24) else q04 (IntKind.wrap .i64 (a2+1)) fun n25=>rec a1 n25))) else (bif decide (48<=c1) then (bif !(decide (c1<=57)) then (bif !decide (c1=45) then (bif !decide (c1=95) then (bif !decide (c1=46) then some (Sum.inl ((false,()),((),()))) else q04 (IntKind.wrap .i64 (a2+1)) fun n26=>rec a1 n26) else q04 (IntKind.wrap .i64 (a2+1)) fun n27=>rec a1 n27) else q04 (IntKind.wrap .i64 (a2+1)) fun n28=>rec a1 n28) else q04 (IntKind.wrap .i64 (a2+1)) fun n29=>rec a1 n29) else (bif !decide (c1=45) then (bif !decide (c1=95) then (bif !decide (c1=46) then some (Sum.inl ((false,()),((),()))) else q04 (IntKind.wrap .i64 (a2+1)) fun n30=>rec a1 n30) else q04 (IntKind.wrap .i64 (a2+1)) fun n31=>rec a1 n31) else q04 (IntKind.wrap .i64 (a2+1)) fun n32=>rec a1 n32)))) else some (Sum.inr (((a1,()),((),())))))
def qrt (n:Nat) (rec:pSt qf3->Option (q0f q84)) (p:pSt qf3):Option (q0f q84):=qwo n (fun a1 a2=>rec ((a1,(a2,())),((),()))) p.1.1 p.1.2.1
def q8f (n m:Nat) (a1:Yy) (a2:Int):Option (((Bool×Unit)×Unit×Unit)⊕((Yy×Unit)×Unit×Unit)):=q0g (qrt n) m ((a1,(a2,())),((),()))
theorem qm5 (n m:Nat) (a1 a2):q8f n (m+1) a1 a2=qwo n (fun a1 a2=>q8f n m a1 a2) a1 a2:=rfl
def jaj (n:Nat):LC:={ sh:=qf3,outs:=q84,F:=q0g (qrt n) n }
def qmq (n:Nat):List LC:=[jaj n]
def qqq (n:Nat) (a1:Yy):Option (Bool) :=
 (q8f n n a1 (0:Int)).bind fun o33=>Sum.elim (fun (q34:(Bool×Unit)×Unit×Unit)=>some q34.1.1) (fun (q35:(Yy×Unit)×Unit×Unit)=>(bif !decide (q35.1.1=([]:Yy)) then (bif !decide (q35.1.1=([46]:Yy)) then some (!decide (q35.1.1=([46,46]:Yy))) else some false) else some false)) o33
def qdh (n:Nat):FC:={ f:=130,args:=[.one (.c (.d .str))],res:=.one (.c (.d .bool)),F:=fun p=>qqq n p }
def qsx (n:Nat):List FC:=[]
theorem qug (n:Nat) {G:World->Prop} (hG:Know Inv G) : ∀c∈qsx n,q0p Tryz.prog G c/\q07 c.args=true:=(fun _ h=>by cases h)
def qwv:q06:=[]
theorem j6f:drB qwv (q00 Tryz.f130)=true:=by kernel_rfl
theorem jn1 (n:Nat) : ∀rec p,qrt n rec p=round Tryz.prog 61 (qsx n) (qmq n) qwv 1 qf3 q84 (q01 0 0 (q00 Tryz.f130)) rec p:=by intro rec p;kernel_rfl
theorem jh7 (n:Nat) {F:Fr} (hF:F.n=61) (hK:Know Inv F.G):q75 Tryz.prog F (jaj n) (q01 0 0 (q00 Tryz.f130)) :=
 q0i hF (by kernel_rfl) (qug n hK) (jn1 n) (fuel:=n) (fun _=>rfl) (q02 fun j L h1 h2 h3=>absurd h2 (Nat.not_lt.2 (Nat.le_trans (by decide +kernel) h1))) (q0t j6f)
theorem jvv (n:Nat) : ∀a,(qdh n).F a=main Tryz.prog 61 (qsx n) (qmq n) qwv (q00 Tryz.f130) [.tmp 2] (qdh n).args (qdh n).res a:=by intro a;kernel_rfl
theorem jry (n:Nat):q09 Inv Tryz.prog (qdh n):=fun G hG=>⟨⟨by kernel_rfl,fun a r h=>q03 (c:=q00 Tryz.f130) Tryz.func130 (by kernel_rfl) (by kernel_rfl) (Nat.le_of_ble_eq_true (by kernel_rfl)) hG.st (by kernel_rfl) (rs:=[.tmp 2]) (by kernel_rfl) (qug n hG) (lts:=qmq n) (fun F hF hFG=>have hK:Know Inv F.G:=hFG ▸ hG;(q02 (c:=(q00 Tryz.f130)) (fun j L h1 h2 h3=>by
  have h2':j<1:=Nat.lt_of_lt_of_le h2 (by decide +kernel)
  match j,h1,h2',h3 with
  | 0,_,_,h3=>obtain rfl:=Option.some.inj h3;exact (show q01 0 0 (q00 Tryz.f130)=q01 0 0 (q00 Tryz.f130) by kernel_rfl) ▸ jh7 n hF hK
  | j+1,_,h2',_=>exact absurd h2' (by omega)))) j6f ((jvv n a).symm.trans h)⟩,rfl⟩
@[reducible] def qfw:SSt:=⟨[(3,.one (.c (.d (.lst .str)))),(4,.one (.c (.d (.int .i64))))],[],[]⟩
@[reducible] def q8u:List (Exit×SSt):=[(.ret,⟨[(2,.one (.c (.d .bool)))],[],[]⟩),(.exit 0,⟨[],[],[]⟩)]
def qtr (n:Nat) (rec:(List (Yy))->Int->Option (((Bool×Unit)×Unit×Unit)⊕(Unit×Unit×Unit))) (a1:List (Yy)) (a2:Int):Option (((Bool×Unit)×Unit×Unit)⊕(Unit×Unit×Unit)) :=
 (bif decide (a2<(a1.length:Int)) then (q0n a1 a2).bind fun x2=>(qqq n x2).bind fun r3=>(bif !r3 then some (Sum.inl ((false,()),((),()))) else q04 (IntKind.wrap .i64 (a2+1)) fun n4=>rec a1 n4) else some (Sum.inr (((),((),())))))
def qvj (n:Nat) (rec:pSt qfw->Option (q0f q8u)) (p:pSt qfw):Option (q0f q8u):=qtr n (fun a1 a2=>rec ((a1,(a2,())),((),()))) p.1.1 p.1.2.1
def q8x (n m:Nat) (a1:List (Yy)) (a2:Int):Option (((Bool×Unit)×Unit×Unit)⊕(Unit×Unit×Unit)):=q0g (qvj n) m ((a1,(a2,())),((),()))
theorem qmx (n m:Nat) (a1 a2):q8x n (m+1) a1 a2=qtr n (fun a1 a2=>q8x n m a1 a2) a1 a2:=rfl
def jak (n:Nat):LC:={ sh:=qfw,outs:=q8u,F:=q0g (qvj n) n }
def qmh (n:Nat):List LC:=[jak n]
def qkn (n:Nat) (a1:Yy):Option (Bool) :=
 (bif decide (60<(a1.length:Int)) then some false else (q0k n a1 (47:Int)).bind fun r1=>(q8x n n r1 (0:Int)).bind fun o5=>Sum.elim (fun (q6:(Bool×Unit)×Unit×Unit)=>some q6.1.1) (fun (q7:(Unit)×Unit×Unit)=>some true) o5)
def qac (n:Nat):FC:={ f:=103,args:=[.one (.c (.d .str))],res:=.one (.c (.d .bool)),F:=fun p=>qkn n p }
def qvp (n:Nat):List FC:=[q0u n,qdh n]
theorem qr9 (n:Nat) {G:World->Prop} (hG:Know Inv G) : ∀c∈qvp n,q0p Tryz.prog G c/\q07 c.args=true:=List.forall_mem_cons.2 ⟨q3i n G hG,List.forall_mem_cons.2 ⟨jry n G hG,(fun _ h=>by cases h)⟩⟩
def qrq:q06:=[]
theorem j5w:drB qrq (q00 Tryz.f103)=true:=by kernel_rfl
theorem jn4 (n:Nat) : ∀rec p,qvj n rec p=round Tryz.prog 22 (qvp n) (qmh n) qrq 1 qfw q8u (q01 0 0 (q00 Tryz.f103)) rec p:=by intro rec p;kernel_rfl
theorem jdk (n:Nat) {F:Fr} (hF:F.n=22) (hK:Know Inv F.G):q75 Tryz.prog F (jak n) (q01 0 0 (q00 Tryz.f103)) :=
 q0i hF (by kernel_rfl) (qr9 n hK) (jn4 n) (fuel:=n) (fun _=>rfl) (q02 fun j L h1 h2 h3=>absurd h2 (Nat.not_lt.2 (Nat.le_trans (by decide +kernel) h1))) (q0t j5w)
theorem jpk (n:Nat) : ∀a,(qac n).F a=main Tryz.prog 22 (qvp n) (qmh n) qrq (q00 Tryz.f103) [.tmp 2] (qac n).args (qac n).res a:=by intro a;kernel_rfl
theorem j9e (n:Nat):q09 Inv Tryz.prog (qac n):=fun G hG=>⟨⟨by kernel_rfl,fun a r h=>q03 (c:=q00 Tryz.f103) Tryz.func103 (by kernel_rfl) (by kernel_rfl) (Nat.le_of_ble_eq_true (by kernel_rfl)) hG.st (by kernel_rfl) (rs:=[.tmp 2]) (by kernel_rfl) (qr9 n hG) (lts:=qmh n) (fun F hF hFG=>have hK:Know Inv F.G:=hFG ▸ hG;(q02 (c:=(q00 Tryz.f103)) (fun j L h1 h2 h3=>by
  have h2':j<1:=Nat.lt_of_lt_of_le h2 (by decide +kernel)
  match j,h1,h2',h3 with
  | 0,_,_,h3=>obtain rfl:=Option.some.inj h3;exact (show q01 0 0 (q00 Tryz.f103)=q01 0 0 (q00 Tryz.f103) by kernel_rfl) ▸ jdk n hF hK
  | j+1,_,h2',_=>exact absurd h2' (by omega)))) j5w ((jpk n a).symm.trans h)⟩,rfl⟩
@[reducible] def qay:SSt:=⟨[(0,.one (.c (.d .str))),(3,.one (.c (.d (.int .i64))))],[],[]⟩
@[reducible] def q6t:List (Exit×SSt):=[(.ret,⟨[(2,.one (.c (.d .bool)))],[],[]⟩),(.exit 0,⟨[(0,.one (.c (.d .str)))],[],[]⟩)]
def qn7 (n:Nat) (rec:(Yy)->Int->Option (((Bool×Unit)×Unit×Unit)⊕((Yy×Unit)×Unit×Unit))) (a1:Yy) (a2:Int):Option (((Bool×Unit)×Unit×Unit)⊕((Yy×Unit)×Unit×Unit)) :=
 (bif decide (a2<(a1.length:Int)) then (sAt a1 a2).bind fun c1=>(bif decide (c1<48) then some (Sum.inl ((false,()),((),()))) else (sAt a1 a2).bind fun c2=>(bif decide (57<c2) then some (Sum.inl ((false,()),((),()))) else q04 (IntKind.wrap .i64 (a2+1)) fun n3=>rec a1 n3)) else some (Sum.inr (((a1,()),((),())))))
def qm1 (n:Nat) (rec:pSt qay->Option (q0f q6t)) (p:pSt qay):Option (q0f q6t):=qn7 n (fun a1 a2=>rec ((a1,(a2,())),((),()))) p.1.1 p.1.2.1
def q6d (n m:Nat) (a1:Yy) (a2:Int):Option (((Bool×Unit)×Unit×Unit)⊕((Yy×Unit)×Unit×Unit)):=q0g (qm1 n) m ((a1,(a2,())),((),()))
theorem qk1 (n m:Nat) (a1 a2):q6d n (m+1) a1 a2=qn7 n (fun a1 a2=>q6d n m a1 a2) a1 a2:=rfl
def j0g (n:Nat):LC:={ sh:=qay,outs:=q6t,F:=q0g (qm1 n) n }
def qhk (n:Nat):List LC:=[j0g n]
def qee (n:Nat) (a1:Yy):Option (Bool) :=
 (q6d n n a1 (1:Int)).bind fun o4=>Sum.elim (fun (q5:(Bool×Unit)×Unit×Unit)=>some q5.1.1) (fun (q6:(Yy×Unit)×Unit×Unit)=>(bif decide (1<(q6.1.1.length:Int)) then (sAt q6.1.1 (0:Int)).bind fun c7=>some (decide (c7=118)) else some false)) o4
def q6y (n:Nat):FC:={ f:=70,args:=[.one (.c (.d .str))],res:=.one (.c (.d .bool)),F:=fun p=>qee n p }
def qn5 (n:Nat):List FC:=[]
theorem qos (n:Nat) {G:World->Prop} (hG:Know Inv G) : ∀c∈qn5 n,q0p Tryz.prog G c/\q07 c.args=true:=(fun _ h=>by cases h)
def qlo:q06:=[]
theorem qz6:drB qlo (q00 Tryz.f70)=true:=by kernel_rfl
theorem jd1 (n:Nat) : ∀rec p,qm1 n rec p=round Tryz.prog 28 (qn5 n) (qhk n) qlo 1 qay q6t (q01 0 0 (q00 Tryz.f70)) rec p:=by intro rec p;kernel_rfl
theorem j8k (n:Nat) {F:Fr} (hF:F.n=28) (hK:Know Inv F.G):q75 Tryz.prog F (j0g n) (q01 0 0 (q00 Tryz.f70)) :=
 q0i hF (by kernel_rfl) (qos n hK) (jd1 n) (fuel:=n) (fun _=>rfl) (q02 fun j L h1 h2 h3=>absurd h2 (Nat.not_lt.2 (Nat.le_trans (by decide +kernel) h1))) (q0t qz6)
theorem jop (n:Nat) : ∀a,(q6y n).F a=main Tryz.prog 28 (qn5 n) (qhk n) qlo (q00 Tryz.f70) [.tmp 2] (q6y n).args (q6y n).res a:=by intro a;kernel_rfl
theorem qz3 (n:Nat):q09 Inv Tryz.prog (q6y n):=fun G hG=>⟨⟨by kernel_rfl,fun a r h=>q03 (c:=q00 Tryz.f70) Tryz.func70 (by kernel_rfl) (by kernel_rfl) (Nat.le_of_ble_eq_true (by kernel_rfl)) hG.st (by kernel_rfl) (rs:=[.tmp 2]) (by kernel_rfl) (qos n hG) (lts:=qhk n) (fun F hF hFG=>have hK:Know Inv F.G:=hFG ▸ hG;(q02 (c:=(q00 Tryz.f70)) (fun j L h1 h2 h3=>by
  have h2':j<1:=Nat.lt_of_lt_of_le h2 (by decide +kernel)
  match j,h1,h2',h3 with
  | 0,_,_,h3=>obtain rfl:=Option.some.inj h3;exact (show q01 0 0 (q00 Tryz.f70)=q01 0 0 (q00 Tryz.f70) by kernel_rfl) ▸ j8k n hF hK
  | j+1,_,h2',_=>exact absurd h2' (by omega)))) qz6 ((jop n a).symm.trans h)⟩,rfl⟩
@[reducible] def q88:SSt:=⟨[(0,.one (.c (.d .str))),(3,.one (.c (.d (.int .i64)))),(4,.one (.c (.d (.int .i64))))],[],[]⟩
@[reducible] def q5a:List (Exit×SSt):=[(.exit 0,⟨[(3,.one (.c (.d (.int .i64))))],[],[]⟩)]
def qhv (n:Nat) (rec:(Yy)->Int->Int->Option ((Int×Unit)×Unit×Unit)) (a1:Yy) (a2:Int) (a3:Int):Option ((Int×Unit)×Unit×Unit) :=
 (bif decide (a3<(a1.length:Int)) then q04 (IntKind.wrap .i64 ((10:Int)*a2)) fun n2=>(sAt a1 a3).bind fun c3=>q04 (IntKind.wrap .i64 c3) fun n4=>q04 (IntKind.wrap .i64 (n2+n4)) fun n5=>q04 (IntKind.wrap .i64 (n5 - (48:Int))) fun n6=>q04 (IntKind.wrap .i64 (a3+1)) fun n7=>rec a1 n6 n7 else some (((a2,()),((),()))))
def qhd (n:Nat) (rec:pSt q88->Option (q0f q5a)) (p:pSt q88):Option (q0f q5a):=qhv n (fun a1 a2 a3=>rec ((a1,(a2,(a3,()))),((),()))) p.1.1 p.1.2.1 p.1.2.2.1
def q5j (n m:Nat) (a1:Yy) (a2:Int) (a3:Int):Option ((Int×Unit)×Unit×Unit):=q0g (qhd n) m ((a1,(a2,(a3,()))),((),()))
theorem qhf (n m:Nat) (a1 a2 a3):q5j n (m+1) a1 a2 a3=qhv n (fun a1 a2 a3=>q5j n m a1 a2 a3) a1 a2 a3:=rfl
def qxi (n:Nat):LC:={ sh:=q88,outs:=q5a,F:=q0g (qhd n) n }
def qdp (n:Nat):List LC:=[qxi n]
def q9x (n:Nat) (a1:Yy):Option (Int) :=
 (bif decide (10<(a1.length:Int)) then some (0:Int) else (sAt a1 (1:Int)).bind fun c1=>(bif decide (c1=48) then some (0:Int) else (q5j n n a1 (0:Int) (1:Int)).bind fun o8=>(bif decide (o8.1.1<2) then some (0:Int) else some o8.1.1)))
def q51 (n:Nat):FC:={ f:=72,args:=[.one (.c (.d .str))],res:=.one (.c (.d (.int .i64))),F:=fun p=>q9x n p }
def qh4 (n:Nat):List FC:=[]
theorem qii (n:Nat) {G:World->Prop} (hG:Know Inv G) : ∀c∈qh4 n,q0p Tryz.prog G c/\q07 c.args=true:=(fun _ h=>by cases h)
def qh3:q06:=[]
theorem qtz:drB qh3 (q00 Tryz.f72)=true:=by kernel_rfl
theorem jbp (n:Nat) : ∀rec p,qhd n rec p=round Tryz.prog 30 (qh4 n) (qdp n) qh3 1 q88 q5a (q01 0 0 (q00 Tryz.f72)) rec p:=by intro rec p;kernel_rfl
theorem j3a (n:Nat) {F:Fr} (hF:F.n=30) (hK:Know Inv F.G):q75 Tryz.prog F (qxi n) (q01 0 0 (q00 Tryz.f72)) :=
 q0i hF (by kernel_rfl) (qii n hK) (jbp n) (fuel:=n) (fun _=>rfl) (q02 fun j L h1 h2 h3=>absurd h2 (Nat.not_lt.2 (Nat.le_trans (by decide +kernel) h1))) (q0t qtz)
theorem jfm (n:Nat) : ∀a,(q51 n).F a=main Tryz.prog 30 (qh4 n) (qdp n) qh3 (q00 Tryz.f72) [.tmp 2] (q51 n).args (q51 n).res a:=by intro a;kernel_rfl
theorem qtu (n:Nat):q09 Inv Tryz.prog (q51 n):=fun G hG=>⟨⟨by kernel_rfl,fun a r h=>q03 (c:=q00 Tryz.f72) Tryz.func72 (by kernel_rfl) (by kernel_rfl) (Nat.le_of_ble_eq_true (by kernel_rfl)) hG.st (by kernel_rfl) (rs:=[.tmp 2]) (by kernel_rfl) (qii n hG) (lts:=qdp n) (fun F hF hFG=>have hK:Know Inv F.G:=hFG ▸ hG;(q02 (c:=(q00 Tryz.f72)) (fun j L h1 h2 h3=>by
  have h2':j<1:=Nat.lt_of_lt_of_le h2 (by decide +kernel)
  match j,h1,h2',h3 with
  | 0,_,_,h3=>obtain rfl:=Option.some.inj h3;exact (show q01 0 0 (q00 Tryz.f72)=q01 0 0 (q00 Tryz.f72) by kernel_rfl) ▸ j3a n hF hK
  | j+1,_,h2',_=>exact absurd h2' (by omega)))) qtz ((jfm n a).symm.trans h)⟩,rfl⟩
@[reducible] def qas:SSt:=⟨[(3,.one (.c (.d (.lst .str)))),(4,.one (.c (.d (.int .i64))))],[],[]⟩
@[reducible] def q6j:List (Exit×SSt):=[(.ret,⟨[(2,.one (.c (.d .bool)))],[],[]⟩),(.exit 0,⟨[],[],[]⟩)]
def qep (n:Nat) (rec:(List (Yy))->Int->Option (((Bool×Unit)×Unit×Unit)⊕(Unit×Unit×Unit))) (a1:List (Yy)) (a2:Int):Option (((Bool×Unit)×Unit×Unit)⊕(Unit×Unit×Unit)) :=
 (bif decide (a2<(a1.length:Int)) then (q0n a1 a2).bind fun x3=>(qee n x3).bind fun r4=>(bif r4 then q04 (IntKind.wrap .i64 ((a1.length:Int) - (1:Int))) fun (n5:Int)=>(bif decide (a2<n5) then some (Sum.inl ((false,()),((),()))) else (bif decide (a2=0) then some (Sum.inl ((false,()),((),()))) else (q0n a1 a2).bind fun x6=>(q9x n x6).bind fun r7=>(bif decide (r7=0) then some (Sum.inl ((false,()),((),()))) else q04 (IntKind.wrap .i64 (a2+1)) fun n8=>rec a1 n8))) else q04 (IntKind.wrap .i64 (a2+1)) fun n9=>rec a1 n9) else some (Sum.inr (((),((),())))))
def qno (n:Nat) (rec:pSt qas->Option (q0f q6j)) (p:pSt qas):Option (q0f q6j):=qep n (fun a1 a2=>rec ((a1,(a2,())),((),()))) p.1.1 p.1.2.1
def q4c (n m:Nat) (a1:List (Yy)) (a2:Int):Option (((Bool×Unit)×Unit×Unit)⊕(Unit×Unit×Unit)):=q0g (qno n) m ((a1,(a2,())),((),()))
theorem q8k (n m:Nat) (a1 a2):q4c n (m+1) a1 a2=qep n (fun a1 a2=>q4c n m a1 a2) a1 a2:=rfl
def qzv (n:Nat):LC:={ sh:=qas,outs:=q6j,F:=q0g (qno n) n }
def qhm (n:Nat):List LC:=[qzv n]
def q4m (n:Nat) (a1:Yy):Option (Bool) :=
 (qkn n a1).bind fun r1=>(bif !r1 then some false else (q0k n a1 (47:Int)).bind fun r2=>(q4c n n r2 (0:Int)).bind fun o10=>Sum.elim (fun (q11:(Bool×Unit)×Unit×Unit)=>some q11.1.1) (fun (q12:(Unit)×Unit×Unit)=>some true) o10)
def q44 (n:Nat):FC:={ f:=69,args:=[.one (.c (.d .str))],res:=.one (.c (.d .bool)),F:=fun p=>q4m n p }
def qlm (n:Nat):List FC:=[qac n,q0u n,q6y n,q51 n]
theorem qp9 (n:Nat) {G:World->Prop} (hG:Know Inv G) : ∀c∈qlm n,q0p Tryz.prog G c/\q07 c.args=true:=List.forall_mem_cons.2 ⟨j9e n G hG,List.forall_mem_cons.2 ⟨q3i n G hG,List.forall_mem_cons.2 ⟨qz3 n G hG,List.forall_mem_cons.2 ⟨qtu n G hG,(fun _ h=>by cases h)⟩⟩⟩⟩
def qm7:q06:=[]
theorem qzl:drB qm7 (q00 Tryz.f69)=true:=by kernel_rfl
theorem jet (n:Nat) : ∀rec p,qno n rec p=round Tryz.prog 40 (qlm n) (qhm n) qm7 1 qas q6j (q01 0 0 (q00 Tryz.f69)) rec p:=by intro rec p;kernel_rfl
theorem jc4 (n:Nat) {F:Fr} (hF:F.n=40) (hK:Know Inv F.G):q75 Tryz.prog F (qzv n) (q01 0 0 (q00 Tryz.f69)) :=
 q0i hF (by kernel_rfl) (qp9 n hK) (jet n) (fuel:=n) (fun _=>rfl) (q02 fun j L h1 h2 h3=>absurd h2 (Nat.not_lt.2 (Nat.le_trans (by decide +kernel) h1))) (q0t qzl)
theorem jn8 (n:Nat) : ∀a,(q44 n).F a=main Tryz.prog 40 (qlm n) (qhm n) qm7 (q00 Tryz.f69) [.tmp 2] (q44 n).args (q44 n).res a:=by intro a;kernel_rfl
theorem qfi (n:Nat):q09 Inv Tryz.prog (q44 n):=fun G hG=>⟨⟨by kernel_rfl,fun a r h=>q03 (c:=q00 Tryz.f69) Tryz.func69 (by kernel_rfl) (by kernel_rfl) (Nat.le_of_ble_eq_true (by kernel_rfl)) hG.st (by kernel_rfl) (rs:=[.tmp 2]) (by kernel_rfl) (qp9 n hG) (lts:=qhm n) (fun F hF hFG=>have hK:Know Inv F.G:=hFG ▸ hG;(q02 (c:=(q00 Tryz.f69)) (fun j L h1 h2 h3=>by
  have h2':j<1:=Nat.lt_of_lt_of_le h2 (by decide +kernel)
  match j,h1,h2',h3 with
  | 0,_,_,h3=>obtain rfl:=Option.some.inj h3;exact (show q01 0 0 (q00 Tryz.f69)=q01 0 0 (q00 Tryz.f69) by kernel_rfl) ▸ jc4 n hF hK
  | j+1,_,h2',_=>exact absurd h2' (by omega)))) qzl ((jn8 n a).symm.trans h)⟩,rfl⟩
@[reducible] def qg3:SSt:=⟨[(0,.one (.c (.d .str))),(3,.one (.c (.d (.int .i64))))],[],[]⟩
@[reducible] def q81:List (Exit×SSt):=[(.ret,⟨[(2,.one (.c (.d .str)))],[],[]⟩),(.exit 0,⟨[],[],[]⟩)]
def qkh (n:Nat) (rec:(Yy)->Int->Option (((Yy×Unit)×Unit×Unit)⊕(Unit×Unit×Unit))) (a1:Yy) (a2:Int):Option (((Yy×Unit)×Unit×Unit)⊕(Unit×Unit×Unit)) :=
 (bif decide (0<=a2) then (sAt a1 a2).bind fun c2=>(bif decide (c2=47) then (q1d a1 (0:Int) a2).bind fun s3=>some (Sum.inl ((s3,()),((),()))) else q04 (IntKind.wrap .i64 (a2 - (1:Int))) fun n4=>rec a1 n4) else some (Sum.inr (((),((),())))))
def qrc (n:Nat) (rec:pSt qg3->Option (q0f q81)) (p:pSt qg3):Option (q0f q81):=qkh n (fun a1 a2=>rec ((a1,(a2,())),((),()))) p.1.1 p.1.2.1
def q8e (n m:Nat) (a1:Yy) (a2:Int):Option (((Yy×Unit)×Unit×Unit)⊕(Unit×Unit×Unit)):=q0g (qrc n) m ((a1,(a2,())),((),()))
theorem q9f (n m:Nat) (a1 a2):q8e n (m+1) a1 a2=qkh n (fun a1 a2=>q8e n m a1 a2) a1 a2:=rfl
def jcg (n:Nat):LC:={ sh:=qg3,outs:=q81,F:=q0g (qrc n) n }
def qni (n:Nat):List LC:=[jcg n]
def qqk (n:Nat) (a1:Yy):Option (Yy) :=
 q04 (IntKind.wrap .i64 ((a1.length:Int) - (1:Int))) fun (n1:Int)=>(q8e n n a1 n1).bind fun o5=>Sum.elim (fun (q6:(Yy×Unit)×Unit×Unit)=>some q6.1.1) (fun (q7:(Unit)×Unit×Unit)=>some ([]:Yy)) o5
def qek (n:Nat):FC:={ f:=71,args:=[.one (.c (.d .str))],res:=.one (.c (.d .str)),F:=fun p=>qqk n p }
def qvx (n:Nat):List FC:=[]
theorem qr0 (n:Nat) {G:World->Prop} (hG:Know Inv G) : ∀c∈qvx n,q0p Tryz.prog G c/\q07 c.args=true:=(fun _ h=>by cases h)
def qxg:q06:=[]
theorem j8q:drB qxg (q00 Tryz.f71)=true:=by kernel_rfl
theorem jor (n:Nat) : ∀rec p,qrc n rec p=round Tryz.prog 18 (qvx n) (qni n) qxg 1 qg3 q81 (q01 0 0 (q00 Tryz.f71)) rec p:=by intro rec p;kernel_rfl
theorem jcr (n:Nat) {F:Fr} (hF:F.n=18) (hK:Know Inv F.G):q75 Tryz.prog F (jcg n) (q01 0 0 (q00 Tryz.f71)) :=
 q0i hF (by kernel_rfl) (qr0 n hK) (jor n) (fuel:=n) (fun _=>rfl) (q02 fun j L h1 h2 h3=>absurd h2 (Nat.not_lt.2 (Nat.le_trans (by decide +kernel) h1))) (q0t j8q)
theorem jr5 (n:Nat) : ∀a,(qek n).F a=main Tryz.prog 18 (qvx n) (qni n) qxg (q00 Tryz.f71) [.tmp 2] (qek n).args (qek n).res a:=by intro a;kernel_rfl
theorem jsl (n:Nat):q09 Inv Tryz.prog (qek n):=fun G hG=>⟨⟨by kernel_rfl,fun a r h=>q03 (c:=q00 Tryz.f71) Tryz.func71 (by kernel_rfl) (by kernel_rfl) (Nat.le_of_ble_eq_true (by kernel_rfl)) hG.st (by kernel_rfl) (rs:=[.tmp 2]) (by kernel_rfl) (qr0 n hG) (lts:=qni n) (fun F hF hFG=>have hK:Know Inv F.G:=hFG ▸ hG;(q02 (c:=(q00 Tryz.f71)) (fun j L h1 h2 h3=>by
  have h2':j<1:=Nat.lt_of_lt_of_le h2 (by decide +kernel)
  match j,h1,h2',h3 with
  | 0,_,_,h3=>obtain rfl:=Option.some.inj h3;exact (show q01 0 0 (q00 Tryz.f71)=q01 0 0 (q00 Tryz.f71) by kernel_rfl) ▸ jcr n hF hK
  | j+1,_,h2',_=>exact absurd h2' (by omega)))) j8q ((jr5 n a).symm.trans h)⟩,rfl⟩
def qrg (n:Nat):List LC:=[]
def qe3 (n:Nat) (a1:Yy):Option (Yy×(Int×(Bool))) :=
 (q4m n a1).bind fun r1=>(bif !r1 then some (([]:Yy),((0:Int),false)) else (q0k n a1 (47:Int)).bind fun r2=>q04 (IntKind.wrap .i64 ((r2.length:Int) - (1:Int))) fun (n3:Int)=>(q0n r2 n3).bind fun x4=>(qee n x4).bind fun r5=>(bif !r5 then some (a1,((0:Int),true)) else (qqk n a1).bind fun r6=>(q9x n x4).bind fun r7=>some (r6,(r7,true))))
def q9l (n:Nat):FC:={ f:=45,args:=[.one (.c (.d .str))],res:=.tup [.c (.d .str),.c (.d (.int .i64)),.c (.d .bool)],F:=fun p=>qe3 n p }
def qzi (n:Nat):List FC:=[q44 n,q0u n,q6y n,qek n,q51 n]
theorem j6y (n:Nat) {G:World->Prop} (hG:Know Inv G) : ∀c∈qzi n,q0p Tryz.prog G c/\q07 c.args=true:=List.forall_mem_cons.2 ⟨qfi n G hG,List.forall_mem_cons.2 ⟨q3i n G hG,List.forall_mem_cons.2 ⟨qz3 n G hG,List.forall_mem_cons.2 ⟨jsl n G hG,List.forall_mem_cons.2 ⟨qtu n G hG,(fun _ h=>by cases h)⟩⟩⟩⟩⟩
def j1x:q06:=[]
theorem joh:drB j1x (q00 Tryz.f45)=true:=by kernel_rfl
theorem jnm (n:Nat) : ∀a,(q9l n).F a=main Tryz.prog 26 (qzi n) (qrg n) j1x (q00 Tryz.f45) [.tmp 2,.tmp 3,.tmp 4] (q9l n).args (q9l n).res a:=by intro a;kernel_rfl
theorem jp4 (n:Nat):q09 Inv Tryz.prog (q9l n):=fun G hG=>⟨⟨by kernel_rfl,fun a r h=>q03 (c:=q00 Tryz.f45) Tryz.func45 (by kernel_rfl) (by kernel_rfl) (Nat.le_of_ble_eq_true (by kernel_rfl)) hG.st (by kernel_rfl) (rs:=[.tmp 2,.tmp 3,.tmp 4]) (by kernel_rfl) (j6y n hG) (lts:=qrg n) (fun F hF hFG=>have hK:Know Inv F.G:=hFG ▸ hG;(q02 fun j L h1 h2 h3=>absurd h2 (Nat.not_lt.2 (Nat.le_trans (by decide +kernel) h1)))) joh ((jnm n a).symm.trans h)⟩,rfl⟩
def j1m (n:Nat):List LC:=[]
def qfr (n:Nat) (a1:Yy) (a2:Vv):Option (Bool) :=
 (qe3 n a1).bind fun r1=>(bif !r1.2.2 then some false else (qbb n a2).bind fun r2=>(bif !r2 then some false else (bif decide (a2.1=r1.2.1) then some true else (bif decide (r1.2.1=0) then some (decide (a2.1=1)) else some false))))
def qdz (n:Nat):FC:={ f:=23,args:=[.one (.c (.d .str)),.one (.agg [.d (.int .i64),.d (.int .i64),.d (.int .i64),.d .str,.d .str])],res:=.one (.c (.d .bool)),F:=fun p=>qfr n p.1 p.2 }
def j69 (n:Nat):List FC:=[q9l n,q7r n]
theorem jge (n:Nat) {G:World->Prop} (hG:Know Inv G) : ∀c∈j69 n,q0p Tryz.prog G c/\q07 c.args=true:=List.forall_mem_cons.2 ⟨jp4 n G hG,List.forall_mem_cons.2 ⟨qw2 n G hG,(fun _ h=>by cases h)⟩⟩
def j8n:q06:=[]
theorem jq6:drB j8n (q00 Tryz.f23)=true:=by kernel_rfl
theorem jxa (n:Nat) : ∀a,(qdz n).F a=main Tryz.prog 34 (j69 n) (j1m n) j8n (q00 Tryz.f23) [.tmp 4] (qdz n).args (qdz n).res a:=by intro a;kernel_rfl
theorem ju9 (n:Nat):q09 Inv Tryz.prog (qdz n):=fun G hG=>⟨⟨by kernel_rfl,fun a r h=>q03 (c:=q00 Tryz.f23) Tryz.func23 (by kernel_rfl) (by kernel_rfl) (Nat.le_of_ble_eq_true (by kernel_rfl)) hG.st (by kernel_rfl) (rs:=[.tmp 4]) (by kernel_rfl) (jge n hG) (lts:=j1m n) (fun F hF hFG=>have hK:Know Inv F.G:=hFG ▸ hG;(q02 fun j L h1 h2 h3=>absurd h2 (Nat.not_lt.2 (Nat.le_trans (by decide +kernel) h1)))) jq6 ((jxa n a).symm.trans h)⟩,rfl⟩
end Go.Proofs.YtapfankgdkdkgaaGreatDoor.AM
