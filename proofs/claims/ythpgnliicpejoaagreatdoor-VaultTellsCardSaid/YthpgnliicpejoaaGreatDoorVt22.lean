
import Derived.Test.YthpgnliicpejoaaGreatDoorVt21
import Derived.Test.YthpgnliicpejoaaGreatDoorVt5
import Derived.Test.YthpgnliicpejoaaGreatDoorVt20
import Derived.Test.YthpgnliicpejoaaGreatDoorVt10
namespace Go.Proofs.YthpgnliicpejoaaGreatDoor.AM
open Go.RowKit
set_option linter.unusedVariables false
set_option maxRecDepth 20000
def j3p (n:Nat):List LC:=[]
def qql (n:Nat) (a1:Int×(Int)):Option (Bool) :=
 (bif decide (0<=a1.1) then (bif decide (2<=a1.2) then q0n (IntKind.wrap .i64 ((512:Int) - a1.1)) fun (n1:Int)=>some (decide (a1.2<=n1)) else some false) else some false)
def qch (n:Nat):FC:={ f:=85,args:=[.one (.agg [.d (.int .i64),.d (.int .i64)])],res:=.one (.c (.d .bool)),F:=fun p=>qql n p }
def jat (n:Nat):List FC:=[]
theorem jf0 (n:Nat) {G:World->Prop} (hG:Know Inv G) : ∀c∈jat n,q27 Tryz.prog G c/\q0z c.args=true:=(fun _ h=>by cases h)
def jfh:q0y:=[]
theorem jnc:drB jfh (q05 Tryz.f85)=true:=by kernel_rfl
theorem joy (n:Nat) : ∀a,(qch n).F a=main Tryz.prog 19 (jat n) (j3p n) jfh (q05 Tryz.f85) [.tmp 2] (qch n).args (qch n).res a:=by intro a;kernel_rfl
theorem j3h (n:Nat):q0v Inv Tryz.prog (qch n):=fun G hG=>⟨⟨by kernel_rfl,fun a r h=>q0p (c:=q05 Tryz.f85) Tryz.func85 (by kernel_rfl) (by kernel_rfl) (Nat.le_of_ble_eq_true (by kernel_rfl)) hG.st (by kernel_rfl) (rs:=[.tmp 2]) (by kernel_rfl) (jf0 n hG) (lts:=j3p n) (fun F hF hFG=>have hK:Know Inv F.G:=hFG ▸ hG;(q0k fun j L h1 h2 h3=>absurd h2 (Nat.not_lt.2 (Nat.le_trans (by decide +kernel) h1)))) jnc ((joy n a).symm.trans h)⟩,rfl⟩
def qx3 (n:Nat):List LC:=[]
def qcu (n:Nat) (a1:Int×(Int×(Int))):Option (Int) :=
 q0n (IntKind.wrap .i64 (a1.1+a1.2.1)) fun (n1:Int)=>q0n (IntKind.wrap .i64 (n1 - a1.2.2)) fun (n2:Int)=>some n2
def q7t (n:Nat):FC:={ f:=76,args:=[.one (.agg [.d (.int .i64),.d (.int .i64),.d (.int .i64)])],res:=.one (.c (.d (.int .i64))),F:=fun p=>qcu n p }
def j5g (n:Nat):List FC:=[]
theorem j8z (n:Nat) {G:World->Prop} (hG:Know Inv G) : ∀c∈j5g n,q27 Tryz.prog G c/\q0z c.args=true:=(fun _ h=>by cases h)
def j3k:q0y:=[]
theorem jj6:drB j3k (q05 Tryz.f76)=true:=by kernel_rfl
theorem jlf (n:Nat) : ∀a,(q7t n).F a=main Tryz.prog 13 (j5g n) (qx3 n) j3k (q05 Tryz.f76) [.tmp 2] (q7t n).args (q7t n).res a:=by intro a;kernel_rfl
theorem qrq (n:Nat):q0v Inv Tryz.prog (q7t n):=fun G hG=>⟨⟨by kernel_rfl,fun a r h=>q0p (c:=q05 Tryz.f76) Tryz.func76 (by kernel_rfl) (by kernel_rfl) (Nat.le_of_ble_eq_true (by kernel_rfl)) hG.st (by kernel_rfl) (rs:=[.tmp 2]) (by kernel_rfl) (j8z n hG) (lts:=qx3 n) (fun F hF hFG=>have hK:Know Inv F.G:=hFG ▸ hG;(q0k fun j L h1 h2 h3=>absurd h2 (Nat.not_lt.2 (Nat.le_trans (by decide +kernel) h1)))) jj6 ((jlf n a).symm.trans h)⟩,rfl⟩
def j3w (n:Nat):List LC:=[]
def qyp (n:Nat) (a1:Int×(Int×(Int))) (a2:Int):Option (Int×(Int×(Int))) :=
 (q4b a2).bind fun (r1:Int)=>q0n (IntKind.wrap .i64 ((1:Int)+r1)) fun n2=>q0n (IntKind.wrap .i64 (a1.2.2+n2)) fun n3=>some (a1.1,(a1.2.1,n3))
def qhg (n:Nat):FC:={ f:=121,args:=[.one (.agg [.d (.int .i64),.d (.int .i64),.d (.int .i64)]),.one (.c (.d (.int .i64)))],res:=.one (.agg [.d (.int .i64),.d (.int .i64),.d (.int .i64)]),F:=fun p=>qyp n p.1 p.2 }
def jec (n:Nat):List FC:=[qfa]
theorem jh1 (n:Nat) {G:World->Prop} (hG:Know Inv G) : ∀c∈jec n,q27 Tryz.prog G c/\q0z c.args=true:=List.forall_mem_cons.2 ⟨qlp G hG,(fun _ h=>by cases h)⟩
def jde:q0y:=[(1,[⟨196800,32768,0⟩,⟨1605760,2^18,1⟩,⟨12582920,2^21,0⟩,⟨49*2^21,2^24,4⟩,⟨49*2^24,2^27,12⟩,⟨6576930816,2^30,31⟩,⟨51539607744,2^33,63⟩,⟨9663676544,128,127⟩]),(1000001,[])]
theorem jns:drB jde (q05 Tryz.f121)=true:=by kernel_rfl
theorem jq5 (n:Nat) : ∀a,(qhg n).F a=main Tryz.prog 13 (jec n) (j3w n) jde (q05 Tryz.f121) [.cell 4 140] (qhg n).args (qhg n).res a:=by intro a;kernel_rfl
theorem jaz (n:Nat):q0v Inv Tryz.prog (qhg n):=fun G hG=>⟨⟨by kernel_rfl,fun a r h=>q0p (c:=q05 Tryz.f121) Tryz.func121 (by kernel_rfl) (by kernel_rfl) (Nat.le_of_ble_eq_true (by kernel_rfl)) hG.st (by kernel_rfl) (rs:=[.cell 4 140]) (by kernel_rfl) (jh1 n hG) (lts:=j3w n) (fun F hF hFG=>have hK:Know Inv F.G:=hFG ▸ hG;(q0k fun j L h1 h2 h3=>absurd h2 (Nat.not_lt.2 (Nat.le_trans (by decide +kernel) h1)))) jns ((jq5 n a).symm.trans h)⟩,rfl⟩
def j6b (n:Nat):List LC:=[]
def qy2 (n:Nat) (a1:Int×(Int×(Int))):Option (Bool) :=
 (qql n (a1.1,a1.2.1)).bind fun r1=>(bif r1 then (bif decide (a1.1<a1.2.2) then q0n (IntKind.wrap .i64 (a1.1+a1.2.1)) fun n2=>some (decide (a1.2.2<=n2)) else some false) else some false)
def qhb (n:Nat):FC:={ f:=75,args:=[.one (.agg [.d (.int .i64),.d (.int .i64),.d (.int .i64)])],res:=.one (.c (.d .bool)),F:=fun p=>qy2 n p }
def jao (n:Nat):List FC:=[qch n]
theorem jd7 (n:Nat) {G:World->Prop} (hG:Know Inv G) : ∀c∈jao n,q27 Tryz.prog G c/\q0z c.args=true:=List.forall_mem_cons.2 ⟨j3h n G hG,(fun _ h=>by cases h)⟩
def jaw:q0y:=[]
theorem jo8:drB jaw (q05 Tryz.f75)=true:=by kernel_rfl
theorem joc (n:Nat) : ∀a,(qhb n).F a=main Tryz.prog 26 (jao n) (j6b n) jaw (q05 Tryz.f75) [.tmp 2] (qhb n).args (qhb n).res a:=by intro a;kernel_rfl
theorem jg5 (n:Nat):q0v Inv Tryz.prog (qhb n):=fun G hG=>⟨⟨by kernel_rfl,fun a r h=>q0p (c:=q05 Tryz.f75) Tryz.func75 (by kernel_rfl) (by kernel_rfl) (Nat.le_of_ble_eq_true (by kernel_rfl)) hG.st (by kernel_rfl) (rs:=[.tmp 2]) (by kernel_rfl) (jd7 n hG) (lts:=j6b n) (fun F hF hFG=>have hK:Know Inv F.G:=hFG ▸ hG;(q0k fun j L h1 h2 h3=>absurd h2 (Nat.not_lt.2 (Nat.le_trans (by decide +kernel) h1)))) jo8 ((joc n a).symm.trans h)⟩,rfl⟩
def qvf (n:Nat):List LC:=[]
def qco (n:Nat) (a1:Int) (a2:Int) (a3:Int) (a4:List UInt8):Option ((List UInt8)×(Bool)) :=
 (q4o a1 a2 a3 a4).bind fun (r1:(Int×(Int×(Int×(Int×(Int)))))×(Bool))=>(bif !r1.2 then some (([]:List UInt8),false) else (q6u r1.1).bind fun (r2:(List UInt8)×(Bool))=>some r2)
def q39 (n:Nat):FC:={ f:=78,args:=[.one (.c (.d (.int .i64))),.one (.c (.d (.int .i64))),.one (.c (.d (.int .i64))),.one (.c (.d .str))],res:=.tup [.c (.d .str),.c (.d .bool)],F:=fun p=>qco n p.1 p.2.1 p.2.2.1 p.2.2.2 }
def j4z (n:Nat):List FC:=[j3j,j5q]
theorem j8v (n:Nat) {G:World->Prop} (hG:Know Inv G) : ∀c∈j4z n,q27 Tryz.prog G c/\q0z c.args=true:=List.forall_mem_cons.2 ⟨jlk G hG,List.forall_mem_cons.2 ⟨jkd G hG,(fun _ h=>by cases h)⟩⟩
def j6z:q0y:=[]
theorem jl6:drB j6z (q05 Tryz.f78)=true:=by kernel_rfl
theorem jly (n:Nat) : ∀a,(q39 n).F a=main Tryz.prog 26 (j4z n) (qvf n) j6z (q05 Tryz.f78) [.tmp 8,.tmp 9] (q39 n).args (q39 n).res a:=by intro a;kernel_rfl
theorem qiw (n:Nat):q0v Inv Tryz.prog (q39 n):=fun G hG=>⟨⟨by kernel_rfl,fun a r h=>q0p (c:=q05 Tryz.f78) Tryz.func78 (by kernel_rfl) (by kernel_rfl) (Nat.le_of_ble_eq_true (by kernel_rfl)) hG.st (by kernel_rfl) (rs:=[.tmp 8,.tmp 9]) (by kernel_rfl) (j8v n hG) (lts:=qvf n) (fun F hF hFG=>have hK:Know Inv F.G:=hFG ▸ hG;(q0k fun j L h1 h2 h3=>absurd h2 (Nat.not_lt.2 (Nat.le_trans (by decide +kernel) h1)))) jl6 ((jly n a).symm.trans h)⟩,rfl⟩
def j3z (n:Nat):List LC:=[]
def j42 (n:Nat) (a1:(List (List UInt8))×(List ((Int)×List UInt8))) (a2:Int×(Int)):Option ((List (List UInt8))×(Bool)) :=
 (qql n a2).bind fun r1=>(bif !r1 then some ([],false) else (j37 a1).bind fun (r2:((List (List UInt8))×(List ((Int)×List UInt8)))×(Int))=>(bif !decide (r2.2=0) then some ([],false) else q0n (IntKind.wrap .i64 (a2.1+a2.2)) fun n3=>(bif decide ((r2.1.1.length:Int)<n3) then some ([],false) else some (r2.1.1,true))))
def qmt (n:Nat):FC:={ f:=118,args:=[.one (.agg [.d (.lst .str),.d (.lst (.prod (.int .i64) .str))]),.one (.agg [.d (.int .i64),.d (.int .i64)])],res:=.tup [.c (.d (.lst .str)),.c (.d .bool)],F:=fun p=>j42 n p.1 p.2 }
def jh8 (n:Nat):List FC:=[qch n,j6a]
theorem jg6 (n:Nat) {G:World->Prop} (hG:Know Inv G) : ∀c∈jh8 n,q27 Tryz.prog G c/\q0z c.args=true:=List.forall_mem_cons.2 ⟨j3h n G hG,List.forall_mem_cons.2 ⟨jm0 G hG,(fun _ h=>by cases h)⟩⟩
def jem:q0y:=[]
theorem jne:drB jem (q05 Tryz.f118)=true:=by kernel_rfl
theorem jnb (n:Nat) : ∀a,(qmt n).F a=main Tryz.prog 31 (jh8 n) (j3z n) jem (q05 Tryz.f118) [.tmp 4,.tmp 5] (qmt n).args (qmt n).res a:=by intro a;kernel_rfl
theorem jpo (n:Nat):q0v Inv Tryz.prog (qmt n):=fun G hG=>⟨⟨by kernel_rfl,fun a r h=>q0p (c:=q05 Tryz.f118) Tryz.func118 (by kernel_rfl) (by kernel_rfl) (Nat.le_of_ble_eq_true (by kernel_rfl)) hG.st (by kernel_rfl) (rs:=[.tmp 4,.tmp 5]) (by kernel_rfl) (jg6 n hG) (lts:=j3z n) (fun F hF hFG=>have hK:Know Inv F.G:=hFG ▸ hG;(q0k fun j L h1 h2 h3=>absurd h2 (Nat.not_lt.2 (Nat.le_trans (by decide +kernel) h1)))) jne ((jnb n a).symm.trans h)⟩,rfl⟩
def j76 (n:Nat):List LC:=[]
def j6e (n:Nat) (a1:Int×(Int×(Int))) (a2:List (List UInt8)) (a3:Int) (a4:Int):Option ((List UInt8)×(Bool)) :=
 (qcu n a1).bind fun r1=>(bif decide (r1<1) then some (([]:List UInt8),false) else (q1f a2 a1.2.2).bind fun x2=>(q8b x2).bind fun (r3:(Int×(Int×(Int×(Int×(Int)))))×(Bool))=>(bif !r3.2 then some (([]:List UInt8),false) else (bif !decide (r3.1.1=2) then some (([]:List UInt8),false) else (bif !decide (r3.1.2.1=a3) then some (([]:List UInt8),false) else (bif !decide (r3.1.2.2.1=a4) then some (([]:List UInt8),false) else (qyp n a1 r3.1.2.2.2.1).bind fun r4=>(qcu n r4).bind fun r5=>(bif decide (r5<0) then some (([]:List UInt8),false) else q0n (IntKind.wrap .i64 (a1.2.2+1)) fun n6=>(q3g a2 n6 r4.2.2).bind fun s7=>(qfs s7 r3.1.2.2.2.1).bind fun (r8:(List UInt8)×(Bool))=>(bif !r8.2 then some (([]:List UInt8),false) else (q6j r8.1).bind fun (r9:Int)=>(bif !decide (r9=r3.1.2.2.2.2) then some (([]:List UInt8),false) else some (r8.1,true)))))))))
def qnp (n:Nat):FC:={ f:=120,args:=[.one (.agg [.d (.int .i64),.d (.int .i64),.d (.int .i64)]),.one (.c (.d (.lst .str))),.one (.c (.d (.int .i64))),.one (.c (.d (.int .i64)))],res:=.tup [.c (.d .str),.c (.d .bool)],F:=fun p=>j6e n p.1 p.2.1 p.2.2.1 p.2.2.2 }
def jdi (n:Nat):List FC:=[q7t n,qt6,qhg n,j7b,qza]
theorem jak (n:Nat) {G:World->Prop} (hG:Know Inv G) : ∀c∈jdi n,q27 Tryz.prog G c/\q0z c.args=true:=List.forall_mem_cons.2 ⟨qrq n G hG,List.forall_mem_cons.2 ⟨j4r G hG,List.forall_mem_cons.2 ⟨jaz n G hG,List.forall_mem_cons.2 ⟨jm1 G hG,List.forall_mem_cons.2 ⟨jh4 G hG,(fun _ h=>by cases h)⟩⟩⟩⟩⟩
def jbe:q0y:=[(9,[⟨4384504911992708754611054498148849058967797628936,2^159,0⟩,⟨35076039295941670036888435985190792471742381043712,2^162,0⟩,⟨286454320916856971967922227212391471852562778431488,2^165,2⟩,⟨49*2^165,2^168,6⟩,⟨261336857795280739939871698507597986398211*2^36,2^171,0⟩,⟨1067125502664063021421142768906025111126017*2^37,2^174,16⟩,⟨1606145*2^159,2^177,63⟩,⟨8563486156235759286349715816696970818296479747*2^30,2^180,0⟩,⟨34967568471296017085928006251512630841377292289*2^31,2^183,128⟩,⟨3137*2^177,2^186,511⟩,⟨536870915*2^157,2^156,1023⟩,⟨51539607553*2^156,2^189,2047⟩,⟨412316860417*2^156,2^192,2047⟩,⟨713623846352979940529142984724747568191373315*2^40,2^39,4095⟩,⟨365375409332725729550921208179070754913983135747*2^34,2^33,16383⟩]),(10,[⟨35076039295941670036888435985190792471742381031425*2^33,2^195,0⟩,⟨49*2^195,2^198,1⟩,⟨49*2^198,2^201,3⟩,⟨286454320916856971967922227212391471852562778423297*2^39,2^204,7⟩,⟨393*2^201,2^207,15⟩,⟨9197966400548586839326563309439258049336690082949627907*2^30,2^210,7⟩,⟨37547637328890903874367742738451276472471236168422260737*2^31,2^213,39⟩,⟨200769*2^201,2^216,127⟩,⟨1605633*2^201,2^219,255⟩]),(1000010,[])]
theorem jp3:drB jbe (q05 Tryz.f120)=true:=by kernel_rfl
theorem jqq (n:Nat) : ∀a,(qnp n).F a=main Tryz.prog 75 (jdi n) (j76 n) jbe (q05 Tryz.f120) [.tmp 8,.tmp 9] (qnp n).args (qnp n).res a:=by intro a;kernel_rfl
theorem jqe (n:Nat):q0v Inv Tryz.prog (qnp n):=fun G hG=>⟨⟨by kernel_rfl,fun a r h=>q0p (c:=q05 Tryz.f120) Tryz.func120 (by kernel_rfl) (by kernel_rfl) (Nat.le_of_ble_eq_true (by kernel_rfl)) hG.st (by kernel_rfl) (rs:=[.tmp 8,.tmp 9]) (by kernel_rfl) (jak n hG) (lts:=j76 n) (fun F hF hFG=>have hK:Know Inv F.G:=hFG ▸ hG;(q0k fun j L h1 h2 h3=>absurd h2 (Nat.not_lt.2 (Nat.le_trans (by decide +kernel) h1)))) jp3 ((jqq n a).symm.trans h)⟩,rfl⟩
@[reducible] def qdh:SSt:=⟨[(4,.one (.c (.box 4 0))),(6,.one (.c (.d (.lst .str)))),(13,.one (.c (.box 13 0))),(14,.one (.c (.box 14 0)))],[(4,(77,[.d (.int .i64),.nil,.d (.int .i64)])),(13,(140,[.d (.int .i64),.d (.int .i64),.d (.int .i64)])),(14,(77,[.d (.int .i64),.row 75,.d (.int .i64)]))],[(75,⟨9,true,.str⟩)]⟩
@[reducible] def q7l:List (Exit×SSt):=[(.exit 0,⟨[(4,.one (.c (.box 4 0))),(13,.one (.c (.box 13 0))),(14,.one (.c (.box 14 0)))],[(4,(77,[.d (.int .i64),.nil,.d (.int .i64)])),(13,(140,[.d (.int .i64),.d (.int .i64),.d (.int .i64)])),(14,(77,[.d (.int .i64),.row 75,.d (.int .i64)]))],[(75,⟨9,true,.str⟩)]⟩)]
def qu0 (n:Nat) (rec:(List (List UInt8))->Int->Int->Int->Int->Int->Int->Int->(List (List UInt8))->Option ((Unit×(Unit×(Unit×Unit)))×((Int×(Unit×(Int)))×((Int×(Int×(Int)))×((Int×(Unit×(Int)))×Unit)))×((List (List UInt8))×Unit))) (a1:List (List UInt8)) (a2:Int) (a3:Int) (a4:Int) (a5:Int) (a6:Int) (a7:Int) (a8:Int) (a9:List (List UInt8)):Option ((Unit×(Unit×(Unit×Unit)))×((Int×(Unit×(Int)))×((Int×(Int×(Int)))×((Int×(Unit×(Int)))×Unit)))×((List (List UInt8))×Unit)) :=
 (j6e n (a4,(a5,a6)) a1 a7 (a9.length:Int)).bind fun r6=>(bif !r6.2 then some ((((),((),((),()))),(((a2,((),a3)),((a4,(a5,a6)),((a7,((),a8)),()))),(a9,())))) else (q2g 16 a9 ([r6.1]:List (List UInt8))).bind fun l7=>(qyp n (a4,(a5,a6)) (r6.1.length:Int)).bind fun r8=>rec a1 a2 a3 r8.1 r8.2.1 r8.2.2 a7 a8 l7)
def qrl (n:Nat) (rec:pSt qdh->Option (q17 q7l)) (p:pSt qdh):Option (q17 q7l):=qu0 n (fun a1 a2 a3 a4 a5 a6 a7 a8 a9=>rec (((),(a1,((),((),())))),(((a2,((),a3)),((a4,(a5,a6)),((a7,((),a8)),()))),(a9,())))) p.1.2.1 p.2.1.1.1 p.2.1.1.2.2 p.2.1.2.1.1 p.2.1.2.1.2.1 p.2.1.2.1.2.2 p.2.1.2.2.1.1 p.2.1.2.2.1.2.2 p.2.2.1
def q8a (n m:Nat) (a1:List (List UInt8)) (a2:Int) (a3:Int) (a4:Int) (a5:Int) (a6:Int) (a7:Int) (a8:Int) (a9:List (List UInt8)):Option ((Unit×(Unit×(Unit×Unit)))×((Int×(Unit×(Int)))×((Int×(Int×(Int)))×((Int×(Unit×(Int)))×Unit)))×((List (List UInt8))×Unit)):=q1b (qrl n) m (((),(a1,((),((),())))),(((a2,((),a3)),((a4,(a5,a6)),((a7,((),a8)),()))),(a9,())))
theorem qic (n m:Nat) (a1 a2 a3 a4 a5 a6 a7 a8 a9):q8a n (m+1) a1 a2 a3 a4 a5 a6 a7 a8 a9=qu0 n (fun a1 a2 a3 a4 a5 a6 a7 a8 a9=>q8a n m a1 a2 a3 a4 a5 a6 a7 a8 a9) a1 a2 a3 a4 a5 a6 a7 a8 a9:=rfl
def j6i (n:Nat):LC:={ sh:=qdh,outs:=q7l,F:=q1b (qrl n) n }
def qnu (n:Nat):List LC:=[j6i n]
def qmj (n:Nat) (a1:(List (List UInt8))×(List ((Int)×List UInt8))) (a2:Int×(Int)):Option ((Int×((List (List UInt8))×(Int)))×(Int)) :=
 (j42 n a1 a2).bind fun r1=>(bif !r1.2 then some (((0:Int),([],(0:Int))),(1:Int)) else (q1f r1.1 a2.1).bind fun x2=>(q8b x2).bind fun (r3:(Int×(Int×(Int×(Int×(Int)))))×(Bool))=>((q39 n).F ((1:Int),(r3.1.2.1,((0:Int),([]:List UInt8))))).bind fun (r4:(List UInt8)×(Bool))=>(bif !r4.2 then some (((0:Int),([],(0:Int))),(5:Int)) else (bif !decide (r4.1=x2) then some (((0:Int),([],(0:Int))),(5:Int)) else q0n (IntKind.wrap .i64 (a2.1+1)) fun n5=>(q8a n n r1.1 (0:Int) (0:Int) a2.1 a2.2 n5 r3.1.2.1 (0:Int) []).bind fun o9=>some ((o9.2.1.2.2.1.1,(o9.2.2.1,o9.2.1.2.1.2.2)),(0:Int)))))
def qf1 (n:Nat):FC:={ f:=93,args:=[.one (.agg [.d (.lst .str),.d (.lst (.prod (.int .i64) .str))]),.one (.agg [.d (.int .i64),.d (.int .i64)])],res:=.tup [.agg [.d (.int .i64),.d (.lst .str),.d (.int .i64)],.c (.d (.int .i64))],F:=fun p=>qmj n p.1 p.2 }
def qtb (n:Nat):List FC:=[qmt n,qt6,q39 n,qnp n,qhg n]
theorem qq9 (n:Nat) {G:World->Prop} (hG:Know Inv G) : ∀c∈qtb n,q27 Tryz.prog G c/\q0z c.args=true:=List.forall_mem_cons.2 ⟨jpo n G hG,List.forall_mem_cons.2 ⟨j4r G hG,List.forall_mem_cons.2 ⟨qiw n G hG,List.forall_mem_cons.2 ⟨jqe n G hG,List.forall_mem_cons.2 ⟨jaz n G hG,(fun _ h=>by cases h)⟩⟩⟩⟩⟩
def qto:q0y:=[]
theorem j6u:drB qto (q05 Tryz.f93)=true:=by kernel_rfl
theorem jfx (n:Nat) : ∀rec p,qrl n rec p=round Tryz.prog 85 (qtb n) (qnu n) qto 1 qdh q7l (q0h 0 0 (q05 Tryz.f93)) rec p:=by intro rec p;kernel_rfl
theorem j93 (n:Nat) {F:Fr} (hF:F.n=85) (hK:Know Inv F.G):qae Tryz.prog F (j6i n) (q0h 0 0 (q05 Tryz.f93)) :=
 q1h hF (by kernel_rfl) (qq9 n hK) (jfx n) (fuel:=n) (fun _=>rfl) (q0k fun j L h1 h2 h3=>absurd h2 (Nat.not_lt.2 (Nat.le_trans (by decide +kernel) h1))) (q20 j6u)
theorem jj3 (n:Nat) : ∀a,(qf1 n).F a=main Tryz.prog 85 (qtb n) (qnu n) qto (q05 Tryz.f93) [.cell 4 77,.tmp 5] (qf1 n).args (qf1 n).res a:=by intro a;kernel_rfl
theorem jkf (n:Nat):q0v Inv Tryz.prog (qf1 n):=fun G hG=>⟨⟨by kernel_rfl,fun a r h=>q0p (c:=q05 Tryz.f93) Tryz.func93 (by kernel_rfl) (by kernel_rfl) (Nat.le_of_ble_eq_true (by kernel_rfl)) hG.st (by kernel_rfl) (rs:=[.cell 4 77,.tmp 5]) (by kernel_rfl) (qq9 n hG) (lts:=qnu n) (fun F hF hFG=>have hK:Know Inv F.G:=hFG ▸ hG;(q0k (c:=(q05 Tryz.f93)) (fun j L h1 h2 h3=>by
  have h2':j<1:=Nat.lt_of_lt_of_le h2 (by decide +kernel)
  match j,h1,h2',h3 with
  | 0,_,_,h3=>obtain rfl:=Option.some.inj h3;exact (show q0h 0 0 (q05 Tryz.f93)=q0h 0 0 (q05 Tryz.f93) by kernel_rfl) ▸ j93 n hF hK
  | j+1,_,h2',_=>exact absurd h2' (by omega)))) j6u ((jj3 n a).symm.trans h)⟩,rfl⟩
def qpe (n:Nat):List LC:=[]
def qau (n:Nat) (a1:Int×(Int)) (a2:Int):Option ((List ((Bool)×((Int)×List UInt8)))×(Int)) :=
 ((q39 n).F ((1:Int),(a2,((0:Int),([]:List UInt8))))).bind fun (r1:(List UInt8)×(Bool))=>(qql n a1).bind fun r2=>(bif !r2 then some ([],(1:Int)) else (bif !r1.2 then some ([],(1:Int)) else some (([(false,(a1.1,r1.1)),(true,((0:Int),([]:List UInt8)))]:List ((Bool)×((Int)×List UInt8))),(0:Int))))
def q5t (n:Nat):FC:={ f:=45,args:=[.one (.agg [.d (.int .i64),.d (.int .i64)]),.one (.c (.d (.int .i64)))],res:=.tup [.c (.d (.lst (.prod .bool (.prod (.int .i64) .str)))),.c (.d (.int .i64))],F:=fun p=>qau n p.1 p.2 }
def qx9 (n:Nat):List FC:=[q39 n,qch n]
theorem qzy (n:Nat) {G:World->Prop} (hG:Know Inv G) : ∀c∈qx9 n,q27 Tryz.prog G c/\q0z c.args=true:=List.forall_mem_cons.2 ⟨qiw n G hG,List.forall_mem_cons.2 ⟨j3h n G hG,(fun _ h=>by cases h)⟩⟩
def qv6:q0y:=[]
theorem jbx:drB qv6 (q05 Tryz.f45)=true:=by kernel_rfl
theorem jdy (n:Nat) : ∀a,(q5t n).F a=main Tryz.prog 26 (qx9 n) (qpe n) qv6 (q05 Tryz.f45) [.tmp 4,.tmp 5] (q5t n).args (q5t n).res a:=by intro a;kernel_rfl
theorem qvh (n:Nat):q0v Inv Tryz.prog (q5t n):=fun G hG=>⟨⟨by kernel_rfl,fun a r h=>q0p (c:=q05 Tryz.f45) Tryz.func45 (by kernel_rfl) (by kernel_rfl) (Nat.le_of_ble_eq_true (by kernel_rfl)) hG.st (by kernel_rfl) (rs:=[.tmp 4,.tmp 5]) (by kernel_rfl) (qzy n hG) (lts:=qpe n) (fun F hF hFG=>have hK:Know Inv F.G:=hFG ▸ hG;(q0k fun j L h1 h2 h3=>absurd h2 (Nat.not_lt.2 (Nat.le_trans (by decide +kernel) h1)))) jbx ((jdy n a).symm.trans h)⟩,rfl⟩
@[reducible] def qiy:SSt:=⟨[(8,.one (.c (.box 8 0))),(9,.one (.c (.d .str))),(11,.one (.c (.row 74))),(58,.one (.c (.d (.lst .str)))),(59,.one (.c (.d (.int .i64)))),(60,.one (.c (.d (.int .i64))))],[(8,(140,[.d (.int .i64),.d (.int .i64),.d (.int .i64)]))],[(74,⟨99,true,(.prod .bool (.prod (.int .i64) .str))⟩)]⟩
@[reducible] def qak:List (Exit×SSt):=[(.exit 0,⟨[(8,.one (.c (.box 8 0))),(9,.one (.c (.d .str))),(11,.one (.c (.row 74)))],[(8,(140,[.d (.int .i64),.d (.int .i64),.d (.int .i64)]))],[(74,⟨99,true,(.prod .bool (.prod (.int .i64) .str))⟩)]⟩)]
def j2k (n:Nat) (rec:(List UInt8)->(List (List UInt8))->Int->Int->Int->Int->Int->(List ((Bool)×((Int)×List UInt8)))->Option ((Unit×((List UInt8)×(Unit×Unit)))×((Int×(Int×(Int)))×Unit)×((List ((Bool)×((Int)×List UInt8)))×Unit))) (a1:List UInt8) (a2:List (List UInt8)) (a3:Int) (a4:Int) (a5:Int) (a6:Int) (a7:Int) (a8:List ((Bool)×((Int)×List UInt8))):Option ((Unit×((List UInt8)×(Unit×Unit)))×((Int×(Int×(Int)))×Unit)×((List ((Bool)×((Int)×List UInt8)))×Unit)) :=
 (bif decide (a4<a3) then (q1f a2 a4).bind fun x7=>q0n (IntKind.wrap .i64 (a7+1)) fun n8=>q0n (IntKind.wrap .i64 (n8+a4)) fun n9=>(q2g 32 a8 ([(false,(n9,x7))]:List ((Bool)×((Int)×List UInt8)))).bind fun l10=>q0n (IntKind.wrap .i64 (a4+1)) fun n11=>rec a1 a2 a3 n11 a5 a6 a7 l10 else some ((((),(a1,((),()))),(((a5,(a6,a7)),()),(a8,())))))
def j35 (n:Nat) (rec:pSt qiy->Option (q17 qak)) (p:pSt qiy):Option (q17 qak):=j2k n (fun a1 a2 a3 a4 a5 a6 a7 a8=>rec (((),(a1,((),(a2,(a3,(a4,())))))),(((a5,(a6,a7)),()),(a8,())))) p.1.2.1 p.1.2.2.2.1 p.1.2.2.2.2.1 p.1.2.2.2.2.2.1 p.2.1.1.1 p.2.1.1.2.1 p.2.1.1.2.2 p.2.2.1
def q71 (n m:Nat) (a1:List UInt8) (a2:List (List UInt8)) (a3:Int) (a4:Int) (a5:Int) (a6:Int) (a7:Int) (a8:List ((Bool)×((Int)×List UInt8))):Option ((Unit×((List UInt8)×(Unit×Unit)))×((Int×(Int×(Int)))×Unit)×((List ((Bool)×((Int)×List UInt8)))×Unit)):=q1b (j35 n) m (((),(a1,((),(a2,(a3,(a4,())))))),(((a5,(a6,a7)),()),(a8,())))
theorem qkb (n m:Nat) (a1 a2 a3 a4 a5 a6 a7 a8):q71 n (m+1) a1 a2 a3 a4 a5 a6 a7 a8=j2k n (fun a1 a2 a3 a4 a5 a6 a7 a8=>q71 n m a1 a2 a3 a4 a5 a6 a7 a8) a1 a2 a3 a4 a5 a6 a7 a8:=rfl
def jbd (n:Nat):LC:={ sh:=qiy,outs:=qak,F:=q1b (j35 n) n }
def qtt (n:Nat):List LC:=[jbd n]
def qym (n:Nat) (a1:Int×(Int)) (a2:Int×((List (List UInt8))×(Int))) (a3:List UInt8):Option ((List ((Bool)×((Int)×List UInt8)))×(Int)) :=
 (qy2 n (a1.1,(a1.2,a2.2.2))).bind fun r1=>(bif !r1 then some ([],(1:Int)) else (bif decide (a2.1<0) then some ([],(1:Int)) else (bif decide (1073741824<a2.1) then some ([],(1:Int)) else (bif decide (65535<(a2.2.1.length:Int)) then some ([],(1:Int)) else (bif decide (4096<(a3.length:Int)) then some ([],(2:Int)) else (qcu n (a1.1,(a1.2,a2.2.2))).bind fun r2=>(q4b (a3.length:Int)).bind fun (r3:Int)=>q0n (IntKind.wrap .i64 ((1:Int)+r3)) fun n4=>(bif decide (r2<n4) then some ([],(3:Int)) else ((q39 n).F ((2:Int),(a2.1,((a2.2.1.length:Int),a3)))).bind fun (r5:(List UInt8)×(Bool))=>(qvd a3).bind fun (r6:List (List UInt8))=>(q71 n n r5.1 r6 (r6.length:Int) (0:Int) a1.1 a1.2 a2.2.2 []).bind fun o12=>(q2g 32 o12.2.2.1 ([(true,((0:Int),([]:List UInt8))),(false,(o12.2.1.1.2.2,o12.1.2.1)),(true,((0:Int),([]:List UInt8)))]:List ((Bool)×((Int)×List UInt8)))).bind fun l13=>some (l13,(0:Int))))))))
def ql6 (n:Nat):FC:={ f:=40,args:=[.one (.agg [.d (.int .i64),.d (.int .i64)]),.one (.agg [.d (.int .i64),.d (.lst .str),.d (.int .i64)]),.one (.c (.d .str))],res:=.tup [.c (.d (.lst (.prod .bool (.prod (.int .i64) .str)))),.c (.d (.int .i64))],F:=fun p=>qym n p.1 p.2.1 p.2.2 }
def j0z (n:Nat):List FC:=[qhb n,q7t n,qfa,q39 n,j19]
theorem qwi (n:Nat) {G:World->Prop} (hG:Know Inv G) : ∀c∈j0z n,q27 Tryz.prog G c/\q0z c.args=true:=List.forall_mem_cons.2 ⟨jg5 n G hG,List.forall_mem_cons.2 ⟨qrq n G hG,List.forall_mem_cons.2 ⟨qlp G hG,List.forall_mem_cons.2 ⟨qiw n G hG,List.forall_mem_cons.2 ⟨jhb G hG,(fun _ h=>by cases h)⟩⟩⟩⟩⟩
def j0i:q0y:=[]
theorem jb8:drB j0i (q05 Tryz.f40)=true:=by kernel_rfl
theorem jiu (n:Nat) : ∀rec p,j35 n rec p=round Tryz.prog 85 (j0z n) (qtt n) j0i 1 qiy qak (q0h 0 0 (q05 Tryz.f40)) rec p:=by intro rec p;kernel_rfl
theorem jcy (n:Nat) {F:Fr} (hF:F.n=85) (hK:Know Inv F.G):qae Tryz.prog F (jbd n) (q0h 0 0 (q05 Tryz.f40)) :=
 q1h hF (by kernel_rfl) (qwi n hK) (jiu n) (fuel:=n) (fun _=>rfl) (q0k fun j L h1 h2 h3=>absurd h2 (Nat.not_lt.2 (Nat.le_trans (by decide +kernel) h1))) (q20 jb8)
theorem jnk (n:Nat) : ∀a,(ql6 n).F a=main Tryz.prog 85 (j0z n) (qtt n) j0i (q05 Tryz.f40) [.tmp 6,.tmp 7] (ql6 n).args (ql6 n).res a:=by intro a;kernel_rfl
theorem jr0 (n:Nat):q0v Inv Tryz.prog (ql6 n):=fun G hG=>⟨⟨by kernel_rfl,fun a r h=>q0p (c:=q05 Tryz.f40) Tryz.func40 (by kernel_rfl) (by kernel_rfl) (Nat.le_of_ble_eq_true (by kernel_rfl)) hG.st (by kernel_rfl) (rs:=[.tmp 6,.tmp 7]) (by kernel_rfl) (qwi n hG) (lts:=qtt n) (fun F hF hFG=>have hK:Know Inv F.G:=hFG ▸ hG;(q0k (c:=(q05 Tryz.f40)) (fun j L h1 h2 h3=>by
  have h2':j<1:=Nat.lt_of_lt_of_le h2 (by decide +kernel)
  match j,h1,h2',h3 with
  | 0,_,_,h3=>obtain rfl:=Option.some.inj h3;exact (show q0h 0 0 (q05 Tryz.f40)=q0h 0 0 (q05 Tryz.f40) by kernel_rfl) ▸ jcy n hF hK
  | j+1,_,h2',_=>exact absurd h2' (by omega)))) jb8 ((jnk n a).symm.trans h)⟩,rfl⟩
def qvp (n:Nat):List LC:=[]
def qbs (n:Nat) (a1:Int×(Int)):Option (Bool) :=
 (bif decide (0<=a1.1) then (bif decide (2<=a1.2) then (bif decide (a1.2<=512) then q0n (IntKind.wrap .i64 ((512:Int) - a1.2)) fun (n1:Int)=>some (decide (a1.1<=n1)) else some false) else some false) else some false)
def q6b (n:Nat):FC:={ f:=81,args:=[.one (.agg [.d (.int .i64),.d (.int .i64)])],res:=.one (.c (.d .bool)),F:=fun p=>qbs n p }
def j6m (n:Nat):List FC:=[]
theorem j8o (n:Nat) {G:World->Prop} (hG:Know Inv G) : ∀c∈j6m n,q27 Tryz.prog G c/\q0z c.args=true:=(fun _ h=>by cases h)
def j53:q0y:=[]
theorem jkq:drB j53 (q05 Tryz.f81)=true:=by kernel_rfl
theorem jig (n:Nat) : ∀a,(q6b n).F a=main Tryz.prog 24 (j6m n) (qvp n) j53 (q05 Tryz.f81) [.tmp 2] (q6b n).args (q6b n).res a:=by intro a;kernel_rfl
theorem qiv (n:Nat):q0v Inv Tryz.prog (q6b n):=fun G hG=>⟨⟨by kernel_rfl,fun a r h=>q0p (c:=q05 Tryz.f81) Tryz.func81 (by kernel_rfl) (by kernel_rfl) (Nat.le_of_ble_eq_true (by kernel_rfl)) hG.st (by kernel_rfl) (rs:=[.tmp 2]) (by kernel_rfl) (j8o n hG) (lts:=qvp n) (fun F hF hFG=>have hK:Know Inv F.G:=hFG ▸ hG;(q0k fun j L h1 h2 h3=>absurd h2 (Nat.not_lt.2 (Nat.le_trans (by decide +kernel) h1)))) jkq ((jig n a).symm.trans h)⟩,rfl⟩
def qpb (n:Nat):List LC:=[]
def qj5 (n:Nat) (a1:(List (List UInt8))×(List ((Int)×List UInt8))) (a2:Int×(Int)):Option (Bool) :=
 (qbs n a2).bind fun r1=>(bif r1 then (qzi a1).bind fun (r2:Bool)=>(bif r2 then q0n (IntKind.wrap .i64 (a2.1+a2.2)) fun n3=>some (decide (n3<=(a1.1.length:Int))) else some false) else some false)
def q9q (n:Nat):FC:={ f:=99,args:=[.one (.agg [.d (.lst .str),.d (.lst (.prod (.int .i64) .str))]),.one (.agg [.d (.int .i64),.d (.int .i64)])],res:=.one (.c (.d .bool)),F:=fun p=>qj5 n p.1 p.2 }
def qxp (n:Nat):List FC:=[q6b n,j2e]
theorem j1t (n:Nat) {G:World->Prop} (hG:Know Inv G) : ∀c∈qxp n,q27 Tryz.prog G c/\q0z c.args=true:=List.forall_mem_cons.2 ⟨qiv n G hG,List.forall_mem_cons.2 ⟨jgp G hG,(fun _ h=>by cases h)⟩⟩
def qz7:q0y:=[]
theorem jhe:drB qz7 (q05 Tryz.f99)=true:=by kernel_rfl
theorem jcx (n:Nat) : ∀a,(q9q n).F a=main Tryz.prog 22 (qxp n) (qpb n) qz7 (q05 Tryz.f99) [.tmp 4] (q9q n).args (q9q n).res a:=by intro a;kernel_rfl
theorem jhz (n:Nat):q0v Inv Tryz.prog (q9q n):=fun G hG=>⟨⟨by kernel_rfl,fun a r h=>q0p (c:=q05 Tryz.f99) Tryz.func99 (by kernel_rfl) (by kernel_rfl) (Nat.le_of_ble_eq_true (by kernel_rfl)) hG.st (by kernel_rfl) (rs:=[.tmp 4]) (by kernel_rfl) (j1t n hG) (lts:=qpb n) (fun F hF hFG=>have hK:Know Inv F.G:=hFG ▸ hG;(q0k fun j L h1 h2 h3=>absurd h2 (Nat.not_lt.2 (Nat.le_trans (by decide +kernel) h1)))) jhe ((jcx n a).symm.trans h)⟩,rfl⟩
end Go.Proofs.YthpgnliicpejoaaGreatDoor.AM
namespace Go.Proofs.YthpgnliicpejoaaGreatDoor
open Go.RowKit
namespace RM
theorem j86 (s:ByteArray) (h:s.size<=4096):q2l s=(s.size+30) / 31:=by unfold q2l;rw [if_pos h]
theorem qpn (s:ByteArray) (h:s.size<=4096):q0u (s.size:Int)=(q2l s:Int):=by
 unfold q0u;rw [if_pos (by omega),j86 s h];omega
theorem qgi (l:List ByteArray) (n:Int) (h:q38 l n):0<=n/\((qfj l n).size:Int)=n/\q0u n=(l.length:Int):=by
 have h1:=qj9 l.length n h.1
 obtain ⟨m,rfl⟩ : ∃ m:Nat,n=(m:Int):=⟨n.toNat,by omega⟩
 refine ⟨h1.1,?_,h.1.symm⟩
 rw [qkq _ _ h,qr5 l m h.2.1 (by omega)]
theorem quq (a b c d:UInt8) (l r:List UInt8) (k:Nat) (hl:l.length=k):num (l++a::b::c::d::r) k=(a.toNat:Int)*16777216+(b.toNat:Int)*65536+(c.toNat:Int)*256+(d.toNat:Int):=by
 subst hl
 unfold num
 simp [List.getD]
theorem qti (n:Int) (h0:0<=n) (h1:n<4294967296):((UInt8.ofNat (n / 16777216 % 256).toNat).toNat:Int)*16777216+((UInt8.ofNat (n / 65536 % 256).toNat).toNat:Int)*65536+((UInt8.ofNat (n / 256 % 256).toNat).toNat:Int)*256+((UInt8.ofNat (n % 256).toNat).toNat:Int)=n:=by
 rw [q46 _ (by omega) (by omega),q46 _ (by omega) (by omega),q46 _ (by omega) (by omega),q46 _ (by omega) (by omega)]
 omega
theorem ja6 (k g q z m:Int) : ∃ r,qcw k g q z m = [72,UInt8.ofNat k.toNat]++(be4 g++(be4 q++(be4 z++(be4 m++r)))):=⟨_,rfl⟩
theorem qw1 (k g q z m:Int) (h:may k g q z m):q1u (str (qcw k g q z m))=k/\q0i (str (qcw k g q z m)) 2=g/\q0i (str (qcw k g q z m)) 6=q/\q0i (str (qcw k g q z m)) 10=z/\q0i (str (qcw k g q z m)) 14=m:=by
 obtain ⟨hk,hg,hq,hz,hm⟩:=h
 have hm2:=SM.j57 hm
 obtain ⟨r,hr⟩:=ja6 k g q z m
 unfold q0i q1u
 rw [jj8]
 refine ⟨?_,?_,?_,?_,?_⟩
 ·rw [hr]
  show ((UInt8.ofNat k.toNat).toNat:Int)=k
  exact q46 k (by omega) (by omega)
 ·rw [hr]
  exact (quq _ _ _ _ [72,UInt8.ofNat k.toNat] _ 2 rfl).trans (qti g (by omega) (by omega))
 ·rw [hr,<-List.append_assoc]
  exact (quq _ _ _ _ ([72,UInt8.ofNat k.toNat]++be4 g) _ 6 rfl).trans (qti q (by omega) (by omega))
 ·rw [hr,<-List.append_assoc,<-List.append_assoc]
  exact (quq _ _ _ _ ([72,UInt8.ofNat k.toNat]++be4 g++be4 q) _ 10 rfl).trans (qti z (by omega) (by omega))
 ·rw [hr,<-List.append_assoc,<-List.append_assoc,<-List.append_assoc]
  exact (quq _ _ _ _ ([72,UInt8.ofNat k.toNat]++be4 g++be4 q++be4 z) _ 14 rfl).trans (qti m (by omega) (by omega))
theorem qny (k g q z m:Int) (h:may k g q z m):q3i k g q z m=str (qcw k g q z m):=if_pos h
theorem jh9 (k g q z m:Int) (h:may k g q z m):q1m (q3i k g q z m)/\qx1 (q3i k g q z m)=hd k g q z m:=by
 obtain ⟨e1,e2,e3,e4,e5⟩:=qw1 k g q z m h
 have hr:q1m (str (qcw k g q z m)):=by
  refine ⟨by rw [q4v];rfl,?_,?_⟩
  ·rw [e1,e2,e3,e4,e5];exact h
  ·rw [e1,e2,e3,e4,e5]
 rw [qny _ _ _ _ _ h]
 refine ⟨hr,?_⟩
 rw [q7i _ hr,e1,e2,e3,e4,e5]
end RM
end Go.Proofs.YthpgnliicpejoaaGreatDoor
namespace Go.Proofs
open Go.RowKit
set_option linter.unusedVariables false
set_option linter.unusedSimpArgs false
namespace YthpgnliicpejoaaGreatDoor.AM
theorem j4x (b:ByteArray):unB b=b.data.toList:=rfl
theorem qap (b:ByteArray):(unB b).length=b.size:=jr5 b
theorem q0j {α β:Type} (x:α) (f:α->Option β):q0n x f=f x:=rfl
def chk (f z:Int):Prop:=0<=f/\2<=z/\z<=512 - f
instance (f z:Int):Decidable (chk f z):=by unfold chk;infer_instance
theorem qjl (n:Nat) (f z:Int) (h1 : -9223372036854775808<=f) (h2:f<=9223372036854775807):qql n (f,z)=some (decide (chk f z)):=by
 unfold qql chk
 simp only
 by_cases c1:0<=f
 ·rw [decide_eq_true c1,cond_true]
  by_cases c2:2<=z
  ·rw [decide_eq_true c2,cond_true,wrap64 (by omega) (by omega),q0j]
   congr 1
   simp [c1,c2]
  ·rw [decide_eq_false c2,cond_false]
   simp [c2]
 ·rw [decide_eq_false c1,cond_false]
  simp [c1]
theorem qdy (n:Nat) (f z a:Nat) (h1:f+z<=512) (h2:a<=100000):qcu n ((f:Int),((z:Int),(a:Int)))=some (((f+z:Nat):Int) - (a:Int)):=by
 unfold qcu
 simp only
 rw [wrap64 (by omega) (by omega),q0j,wrap64 (by omega) (by omega),q0j]
 congr 1
theorem q9l (m:Int) (h:0<=m/\m<=4096):0<=RM.q0u m/\RM.q0u m<=133:=by unfold RM.q0u;rw [if_pos h];omega
theorem j66 (n:Nat) (f z a:Nat) (m:Int) (h2:a<=100000) (h:0<=m/\m<=4096):qyp n ((f:Int),((z:Int),(a:Int))) m=some ((f:Int),((z:Int),((a+1+(RM.q0u m).toNat:Nat):Int))):=by
 have hc:=q9l m h
 unfold qyp q4b
 rw [if_pos (show qot m by unfold qot;omega),Option.bind_some]
 simp only
 rw [wrap64 (by omega) (by omega),q0j,wrap64 (by omega) (by omega),q0j]
 congr 3
 omega
def flat (D:DM.Dk):List ByteArray:=DM.q19 (fun _=>true) D.secs D.cache D.cache.length
theorem qdx (D:DM.Dk):(flat D).length=D.secs.length:=DM.q1w _ _ _ _
def jhq (D:DM.Dk) (f z:Int):Prop:=chk f z/\DM.q2y D/\f+z<=(D.secs.length:Int)
instance (D:DM.Dk) (f z:Int):Decidable (jhq D f z):=by unfold jhq;infer_instance
theorem jk5 (n:Nat) (d:DkT) (hd:smD d) (f z:Int) (h1 : -9223372036854775808<=f) (h2:f<=9223372036854775807):j42 n d (f,z)=some (if jhq (q0x d) f z then ((flat (q0x d)).map unB,true) else ([],false)):=by
 unfold j42
 rw [qjl n f z h1 h2,Option.bind_some]
 by_cases c:chk f z
 ·have c':=c
  unfold chk at c'
  rw [decide_eq_true c,Bool.not_true,cond_false]
  unfold j37
  rw [if_pos hd,Option.bind_some]
  simp only
  by_cases cm:DM.q2y (q0x d)
  ·have e1:DM.qxa (q0x d)=0:=by unfold DM.qxa;rw [if_pos cm]
   have e2:DM.q3f (fun _=>true) (q0x d)=⟨flat (q0x d),[]⟩:=by unfold DM.q3f DM.q3r flat;rw [if_pos cm]
   rw [e1,decide_eq_true rfl,Bool.not_true,cond_false,wrap64 (by omega) (by omega),q0j,e2]
   have e3:(ji8 ⟨flat (q0x d),[]⟩).1=(flat (q0x d)).map unB:=rfl
   rw [e3,List.length_map,qdx]
   by_cases cl:((q0x d).secs.length:Int)<f+z
   ·rw [decide_eq_true cl,cond_true,if_neg (fun h=>by have:=h.2.2;omega)]
   ·rw [decide_eq_false cl,cond_false,if_pos ⟨c,cm,by omega⟩]
  ·have e1:DM.qxa (q0x d)=1:=by unfold DM.qxa;rw [if_neg cm]
   rw [e1,decide_eq_false (by decide),Bool.not_false,cond_true,if_neg (fun h=>cm h.2.1)]
 ·rw [decide_eq_false c,Bool.not_false,cond_true,if_neg (fun h=>c h.1)]
theorem qtz (b:ByteArray):q8b (unB b)=some (q3w b,decide (RM.q1m b)):=by unfold q8b;rw [qbq]
theorem qce {b:ByteArray} (h:RM.q1m b):0<=RM.q0i b 10/\RM.q0i b 10<=4096:=h.2.1.2.2.2.1
def gB (B:List ByteArray) (j:Nat):ByteArray:=B.getD j ⟨#[]⟩
theorem jqd {B:List ByteArray} {j:Nat} (h:j<B.length):gB B j=B[j]:=by
 unfold gB
 rw [List.getD_eq_getElem?_getD,List.getElem?_eq_getElem h];rfl
def qm7 (B:List ByteArray) (e at_:Nat) (g q:Int):Prop :=
 at_<e/\RM.q1m (gB B at_)/\RM.q1u (gB B at_)=2/\RM.q0i (gB B at_) 2=g/\RM.q0i (gB B at_) 6=q/\at_+1+(RM.q0u (RM.q0i (gB B at_) 10)).toNat<=e /\
 RM.q38 ((B.drop (at_+1)).take (RM.q0u (RM.q0i (gB B at_) 10)).toNat) (RM.q0i (gB B at_) 10) /\
 SM.q1d 1 (RM.qfj ((B.drop (at_+1)).take (RM.q0u (RM.q0i (gB B at_) 10)).toNat) (RM.q0i (gB B at_) 10)).data.toList=RM.q0i (gB B at_) 14
def qay (B:List ByteArray) (at_:Nat):ByteArray:=RM.qfj ((B.drop (at_+1)).take (RM.q0u (RM.q0i (gB B at_) 10)).toNat) (RM.q0i (gB B at_) 10)
instance (B:List ByteArray) (e a:Nat) (g q:Int):Decidable (qm7 B e a g q):=by unfold qm7;infer_instance
theorem jkb (n:Nat) (B:List ByteArray) (f z a:Nat) (g q:Int) (h1:f+z<=512) (h2:a<=2000) (hB:f+z<=B.length) :
  j6e n ((f:Int),((z:Int),(a:Int))) (B.map unB) g q=some (if qm7 B (f+z) a g q then (unB (qay B a),true) else ([],false)):=by
 unfold j6e
 rw [qdy n f z a h1 (by omega),Option.bind_some]
 by_cases c0:a<f+z
 case neg =>
  rw [decide_eq_true (by omega),cond_true,if_neg (fun h=>c0 h.1)]
 have ha:a<B.length:=by omega
 have ha':a<(B.map unB).length:=by rw [List.length_map];exact ha
 have hg:gB B a=B[a]:=jqd ha
 have hrP:qm7 B (f+z) a g q↔(a<f+z/\RM.q1m B[a]/\RM.q1u B[a]=2/\RM.q0i B[a] 2=g/\RM.q0i B[a] 6=q/\a+1+(RM.q0u (RM.q0i B[a] 10)).toNat<=f+z/\RM.q38 ((B.drop (a+1)).take (RM.q0u (RM.q0i B[a] 10)).toNat) (RM.q0i B[a] 10) /\
   SM.q1d 1 (RM.qfj ((B.drop (a+1)).take (RM.q0u (RM.q0i B[a] 10)).toNat) (RM.q0i B[a] 10)).data.toList=RM.q0i B[a] 14):=by unfold qm7;rw [hg]
 rw [decide_eq_false (by omega),cond_false]
 simp only
 rw [q26 ha',List.getElem_map,Option.bind_some,qtz,Option.bind_some]
 simp only
 by_cases c1:RM.q1m B[a]
 case neg =>
  rw [decide_eq_false c1,Bool.not_false,cond_true,if_neg (fun h=>c1 (hrP.1 h).2.1)]
 have hz:=qce c1
 have hcz:=q9l _ hz
 have eh:q3w B[a]=(RM.q1u B[a],(RM.q0i B[a] 2,(RM.q0i B[a] 6,(RM.q0i B[a] 10,RM.q0i B[a] 14)))):=by unfold q3w;rw [if_pos c1]
 rw [decide_eq_true c1,Bool.not_true,cond_false,eh]
 simp only
 have hrec:qay B a=RM.qfj ((B.drop (a+1)).take (RM.q0u (RM.q0i B[a] 10)).toNat) (RM.q0i B[a] 10):=by unfold qay;rw [hg]
 clear hg eh
 generalize RM.q1u B[a]=kd at *
 generalize RM.q0i B[a] 2=n2 at *
 generalize RM.q0i B[a] 6=n6 at *
 generalize RM.q0i B[a] 10=n10 at *
 generalize RM.q0i B[a] 14=n14 at *
 by_cases c2:kd=2
 case neg=>rw [decide_eq_false c2,Bool.not_false,cond_true,if_neg (fun h=>c2 (hrP.1 h).2.2.1)]
 rw [decide_eq_true c2,Bool.not_true,cond_false]
 by_cases c3:n2=g
 case neg=>rw [decide_eq_false c3,Bool.not_false,cond_true,if_neg (fun h=>c3 (hrP.1 h).2.2.2.1)]
 rw [decide_eq_true c3,Bool.not_true,cond_false]
 by_cases c4:n6=q
 case neg=>rw [decide_eq_false c4,Bool.not_false,cond_true,if_neg (fun h=>c4 (hrP.1 h).2.2.2.2.1)]
 have hcc:(RM.q0u n10).toNat<=133:=by omega
 have e4:=j66 n f z a n10 (by omega) hz
 have e5:=qdy n f z (a+1+(RM.q0u n10).toNat) h1 (by omega)
 rw [decide_eq_true c4,Bool.not_true,cond_false,e4,Option.bind_some,e5,Option.bind_some]
 by_cases c5:a+1+(RM.q0u n10).toNat<=f+z
 case neg=>rw [decide_eq_true (by omega),cond_true,if_neg (fun h=>c5 (hrP.1 h).2.2.2.2.2.1)]
 rw [decide_eq_false (by omega),cond_false]
 simp only
 have w1:IntKind.wrap .i64 ((a:Int)+1)=((a+1:Nat):Int):=q0w (by omega)
 rw [w1,q0j,sub_le (by omega) (by rw [List.length_map];omega),Option.bind_some]
 have e1:a+1+(RM.q0u n10).toNat - (a+1)=(RM.q0u n10).toNat:=by omega
 rw [e1]
 have e2:(((B.map unB).drop (a+1)).take (RM.q0u n10).toNat)=((B.drop (a+1)).take (RM.q0u n10).toNat).map unB:=by rw [<-List.map_drop,<-List.map_take]
 rw [e2]
 have e3 : ∀l:List ByteArray,(l.map unB).map ba=l:=fun l=>by
  rw [List.map_map]
  exact (List.map_congr_left fun x _=>qbq x).trans (List.map_id _)
 have hl:((B.drop (a+1)).take (RM.q0u n10).toNat).length<=1000:=by rw [List.length_take];omega
 unfold qfs
 rw [if_pos ⟨by rw [List.length_map];exact hl,by unfold qot;omega⟩,Option.bind_some,e3,<-hrec]
 simp only
 by_cases c6:RM.q38 ((B.drop (a+1)).take (RM.q0u n10).toNat) n10
 case neg=>rw [decide_eq_false c6,Bool.not_false,cond_true,if_neg (fun h=>c6 (hrP.1 h).2.2.2.2.2.2.1)]
 rw [decide_eq_true c6,Bool.not_true,cond_false]
 have hlen:(unB (qay B a)).length<=maxLen:=by
  have hM:=max_eq
  have h9:=(RM.qgi _ _ c6).2.1
  rw [<-hrec] at h9
  rw [qap]
  generalize (qay B a).size=u at *
  omega
 unfold q6j
 rw [if_pos hlen,Option.bind_some]
 by_cases c7:SM.q1d 1 (unB (qay B a))=n14
 ·rw [decide_eq_true c7,Bool.not_true,cond_false,if_pos]
  exact hrP.2 ⟨c0,c1,c2,c3,c4,c5,c6,by rw [<-hrec,<-j4x];exact c7⟩
 ·rw [decide_eq_false c7,Bool.not_false,cond_true,if_neg]
  intro h
  have h8:=(hrP.1 h).2.2.2.2.2.2.2
  rw [<-hrec,<-j4x] at h8
  exact c7 h8
theorem qj4 {B:List ByteArray} {e a:Nat} {g q:Int} (h:qm7 B e a g q):(qay B a).size<=4096:=by
 have hz:=qce h.2.1
 have c6:=h.2.2.2.2.2.2.1
 unfold qay RM.qfj
 rw [if_pos c6]
 unfold RM.qbj
 rw [RM.q4v,List.length_take]
 omega
def q3h (B:List ByteArray) (e:Nat) (g:Int):Nat->Nat->List ByteArray->List ByteArray×Nat
 | 0,a,its=>(its,a)
 | m+1,a,its=>if qm7 B e a g (its.length:Int) then q3h B e g m (a+1+(RM.q0u ((qay B a).size:Int)).toNat) (its ++ [qay B a]) else (its,a)
theorem q3l {B:List ByteArray} {e:Nat} {g:Int} (m a:Nat) (its:List ByteArray) (h : ¬ qm7 B e a g (its.length:Int)):q3h B e g m a its=(its,a):=by
 cases m with
 | zero=>rfl
 | succ m=>unfold q3h;rw [if_neg h]
theorem qh7 {B:List ByteArray} {e:Nat} {g:Int} : ∀(m k a:Nat) (its:List ByteArray),e - a<=m->e - a<=k->q3h B e g m a its=q3h B e g k a its
 | 0,k,a,its,h1,h2=>(q3l k a its (fun h=>absurd (show a<e from h.1) (by omega))).symm
 | m+1,0,a,its,h1,h2=>q3l (m+1) a its (fun h=>absurd (show a<e from h.1) (by omega))
 | m+1,k+1,a,its,h1,h2=>by
  unfold q3h
  split
  ·rename_i h
   have:=h.1
   exact qh7 m k _ _ (by omega) (by omega)
  ·rfl
theorem jc3 (n:Nat) (B:List ByteArray) (f z:Nat) (g:Int) (h1:f+z<=512) (hB:f+z<=B.length) : ∀(m a:Nat) (its:List ByteArray),f+z - a<m->a<=1000->its.length<=a ->
  q8a n m (B.map unB) 0 0 (f:Int) (z:Int) (a:Int) g 0 (its.map unB)=some (((),((),((),()))),(((0:Int),((),(0:Int))),(((f:Int),((z:Int),(((q3h B (f+z) g (f+z - a) a its).2:Nat):Int))),((g,((),(0:Int))),()))),((q3h B (f+z) g (f+z - a) a its).1.map unB,())):=by
 intro m
 induction m with
 | zero=>intro a its h _ _;omega
 | succ m ihm =>
  intro a its hm ha hi
  rw [qic]
  unfold qu0
  rw [List.length_map,jkb n B f z a g (its.length:Int) h1 (by omega) hB,Option.bind_some]
  by_cases c:qm7 B (f+z) a g (its.length:Int)
  ·have hl:=qj4 c
   have ha1:=c.1
   have hu:(unB (qay B a)).length=(qay B a).size:=qap _
   have es : ∀m,q3h B (f+z) g (m+1) a its=q3h B (f+z) g m (a+1+(RM.q0u ((qay B a).size:Int)).toNat) (its ++ [qay B a]):=fun m=>by
    conv=>lhs;unfold q3h
    rw [if_pos c]
   rw [if_pos c]
   clear c
   generalize qay B a=x at *
   have eb:=j66 n f z a (x.size:Int) (by omega) ⟨by omega,by omega⟩
   have hcz:=q9l (x.size:Int) ⟨by omega,by omega⟩
   have hk:(RM.q0u (x.size:Int)).toNat<=133:=by omega
   generalize (RM.q0u (x.size:Int)).toNat=k at *
   simp only [Bool.not_true,cond_false]
   rw [q4i (by simp;omega),Option.bind_some,hu,eb,Option.bind_some]
   simp only
   have ih:=ihm (a+1+k) (its ++ [x]) (by omega) (by omega) (by simp;omega)
   have e:q3h B (f+z) g (f+z - a) a its=q3h B (f+z) g (f+z - (a+1+k)) (a+1+k) (its ++ [x]):=by
    rw [show f+z - a=(f+z - a - 1)+1 from by omega,es]
    exact qh7 _ _ _ _ (by omega) (by omega)
   rw [e]
   rw [List.map_append] at ih
   exact ih
  ·rw [if_neg c,q3l _ a its c]
   simp only [Bool.not_false,cond_true]
end YthpgnliicpejoaaGreatDoor.AM
end Go.Proofs
namespace Go.Proofs
open Go.RowKit
set_option linter.unusedVariables false
set_option linter.unusedSimpArgs false
namespace YthpgnliicpejoaaGreatDoor.AM
abbrev BL:=List ByteArray
theorem ju1 (B:BL) (a j:Nat) (x:ByteArray):gB (B.set a x) j=if a=j/\a<B.length then x else gB B j:=by
 unfold gB
 rw [List.getD_eq_getElem?_getD,List.getElem?_set]
 by_cases h:a=j
 ·subst h
  by_cases h2:a<B.length
  ·rw [if_pos rfl,if_pos h2,if_pos ⟨rfl,h2⟩];rfl
  ·rw [if_pos rfl,if_neg h2,if_neg (fun h=>h2 h.2)]
   rw [List.getD_eq_getElem?_getD,List.getElem?_eq_none (by omega)]
 ·rw [if_neg h,if_neg (fun h2=>h h2.1),<-List.getD_eq_getElem?_getD]
def alike (B X:BL) (lo e:Nat):Prop:=∀j,lo<=j->j<e->gB B j=gB X j
theorem j6y {B:BL} {e a:Nat} {g q:Int} (h:qm7 B e a g q):((qay B a).size:Int)=RM.q0i (gB B a) 10:=(RM.qgi _ _ h.2.2.2.2.2.2.1).2.1
theorem joz {B:BL} {e a:Nat} {g q:Int} (h:qm7 B e a g q):a+1+(RM.q0u ((qay B a).size:Int)).toNat<=e:=by rw [j6y h];exact h.2.2.2.2.2.1
theorem qdb {B:BL} {e:Nat} {g:Int} (m a:Nat) (its:BL) (h:qm7 B e a g (its.length:Int)):q3h B e g (m+1) a its=q3h B e g m (a+1+(RM.q0u ((qay B a).size:Int)).toNat) (its ++ [qay B a]):=by
 conv=>lhs;unfold q3h
 rw [if_pos h]
theorem j5o {B:BL} {e:Nat} {g:Int} : ∀(m a:Nat) (its:BL),a<=(q3h B e g m a its).2
 | 0,a,its=>Nat.le_refl _
 | m+1,a,its=>by
  by_cases h:qm7 B e a g (its.length:Int)
  ·rw [qdb m a its h]
   have:=j5o (B:=B) (e:=e) (g:=g) m (a+1+(RM.q0u ((qay B a).size:Int)).toNat) (its ++ [qay B a])
   omega
  ·rw [q3l _ a its h];exact Nat.le_refl _
theorem j70 {B:BL} {e:Nat} {g:Int} : ∀(m a:Nat) (its:BL),a<=e->(q3h B e g m a its).2<=e
 | 0,a,its,ha=>ha
 | m+1,a,its,ha=>by
  by_cases h:qm7 B e a g (its.length:Int)
  ·rw [qdb m a its h]
   exact j70 m _ _ (joz h)
  ·rw [q3l _ a its h];exact ha
theorem qxv {B:BL} {e:Nat} {g:Int} : ∀(m a:Nat) (its:BL),its.length<=a->(q3h B e g m a its).1.length<=(q3h B e g m a its).2
 | 0,a,its,ha=>ha
 | m+1,a,its,ha=>by
  by_cases h:qm7 B e a g (its.length:Int)
  ·rw [qdb m a its h]
   exact qxv m _ _ (by simp only [List.length_append,List.length_cons,List.length_nil];omega)
  ·rw [q3l _ a its h];exact ha
theorem qle {B:BL} {e:Nat} {g:Int} : ∀(m a:Nat) (its:BL),(∀x∈its,x.size<=4096)->∀x∈(q3h B e g m a its).1,x.size<=4096
 | 0,a,its,ha=>ha
 | m+1,a,its,ha=>by
  by_cases h:qm7 B e a g (its.length:Int)
  ·rw [qdb m a its h]
   refine qle m _ _ (fun x hx=>?_)
   rcases List.mem_append.1 hx with h1|h1
   ·exact ha x h1
   ·obtain rfl:x=qay B a:=by simpa using h1
    exact qj4 h
  ·rw [q3l _ a its h];exact ha
def bad (x:ByteArray) (g:Int) (q:Nat):Prop:=RM.q1m x/\RM.q1u x=2/\RM.q0i x 2=g/\(q:Int)<=RM.q0i x 6
instance (x:ByteArray) (g:Int) (q:Nat):Decidable (bad x g q):=by unfold bad;infer_instance
def jhf (B:BL) (lo e:Nat) (g:Int) (q:Nat):Prop:=∀j,j<e->lo<=j->¬ bad (gB B j) g q
instance (B:BL) (lo e:Nat) (g:Int) (q:Nat):Decidable (jhf B lo e g q):=by unfold jhf;infer_instance
def qk4 (B:BL) (f:Nat):Int:=(q3w (gB B f)).2.1
def qut (B:BL) (f:Nat):Prop:=gB B f=RM.q3i 1 (qk4 B f) 0 0 1
instance (B:BL) (f:Nat):Decidable (qut B f):=by unfold qut;infer_instance
theorem qt3 (B:BL) (f:Nat):0<=qk4 B f/\qk4 B f<=1073741824:=by
 unfold qk4 q3w
 by_cases c:RM.q1m (gB B f)
 ·rw [if_pos c];exact c.2.1.2.1
 ·rw [if_neg c];exact ⟨Int.le_refl _,by decide⟩
theorem qjy {g:Int} (h:0<=g/\g<=1073741824):RM.may 1 g 0 0 1:=⟨Or.inl rfl,h,by decide,by decide,SM.jhg⟩
def j8k (B:BL) (f z:Nat):BL×Nat:=q3h B (f+z) (qk4 B f) (z - 1) (f+1) []
end YthpgnliicpejoaaGreatDoor.AM
end Go.Proofs
namespace Go.Proofs
open Go.RowKit
set_option linter.unusedVariables false
set_option linter.unusedSimpArgs false
namespace YthpgnliicpejoaaGreatDoor.AM
def qs4 (nx:Nat) (p:ByteArray) (k:Nat):List DM.Ac:=(List.range k).map fun i=>(false,((nx+1+i:Nat):Int),RM.sec p i)
def flA:DM.Ac:=(true,0,⟨#[]⟩)
def jah (nx:Nat) (p h:ByteArray):List DM.Ac:=qs4 nx p (RM.q2l p) ++ [flA,(false,(nx:Int),h),flA]
theorem q7k (nx:Nat) (p:ByteArray) (k:Nat):(qs4 nx p k).length=k:=by unfold qs4;simp
theorem qff (nx:Nat) (p h:ByteArray):(jah nx p h).length=RM.q2l p+3:=by unfold jah;rw [List.length_append,q7k];rfl
end YthpgnliicpejoaaGreatDoor.AM
end Go.Proofs
