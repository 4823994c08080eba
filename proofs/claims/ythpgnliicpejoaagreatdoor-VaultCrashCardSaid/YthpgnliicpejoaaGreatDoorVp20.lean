
import Derived.Test.YthpgnliicpejoaaGreatDoorVp19
import Derived.Test.YthpgnliicpejoaaGreatDoorVp5
import Derived.Test.YthpgnliicpejoaaGreatDoorVp18
import Derived.Test.YthpgnliicpejoaaGreatDoorVp10
namespace Go.Proofs.YthpgnliicpejoaaGreatDoor.AM
open Go.RowKit
set_option linter.unusedVariables false
set_option maxRecDepth 20000
def qyz (n:Nat):List LC:=[]
def qm0 (n:Nat) (a1:Int×(Int)):Option (Bool) :=
 (bif decide ((0:Int)<=a1.1) then (bif decide ((2:Int)<=a1.2) then q0u (IntKind.wrap .i64 ((512:Int) - a1.1)) fun (n1:Int)=>some (decide (a1.2<=n1)) else some false) else some false)
def qaj (n:Nat):FC:={ f:=85,args:=[.one (.agg [.d (.int .i64),.d (.int .i64)])],res:=.one (.c (.d .bool)),F:=fun p=>qm0 n p }
def j56 (n:Nat):List FC:=[]
theorem j7c (n:Nat) {G:World->Prop} (hG:Know Inv G) : ∀c∈j56 n,q3s Tryz.prog G c/\q1k c.args=true:=(fun _ h=>by cases h)
def j73:q1h:=[]
theorem jgh:drB j73 (q0d Tryz.f85)=true:=by kernel_rfl
theorem jew (n:Nat) : ∀a,(qaj n).F a=main Tryz.prog 19 (j56 n) (qyz n) j73 (q0d Tryz.f85) [.tmp 2] (qaj n).args (qaj n).res a:=by intro a;kernel_rfl
theorem quq (n:Nat):q19 Inv Tryz.prog (qaj n):=fun G hG=>⟨⟨by kernel_rfl,fun a r h=>q0s (c:=q0d Tryz.f85) Tryz.func85 (by kernel_rfl) (by kernel_rfl) (Nat.le_of_ble_eq_true (by kernel_rfl)) hG.st (by kernel_rfl) (rs:=[.tmp 2]) (by kernel_rfl) (j7c n hG) (lts:=qyz n) (fun F hF hFG=>have hK:Know Inv F.G:=hFG ▸ hG;(q0p fun j L h1 h2 h3=>absurd h2 (Nat.not_lt.2 (Nat.le_trans (by decide +kernel) h1)))) jgh ((jew n a).symm.trans h)⟩,rfl⟩
def qsp (n:Nat):List LC:=[]
def qa5 (n:Nat) (a1:Int×(Int×(Int))):Option (Int) :=
 q0u (IntKind.wrap .i64 (a1.1+a1.2.1)) fun (n1:Int)=>q0u (IntKind.wrap .i64 (n1 - a1.2.2)) fun (n2:Int)=>some n2
def q6q (n:Nat):FC:={ f:=76,args:=[.one (.agg [.d (.int .i64),.d (.int .i64),.d (.int .i64)])],res:=.one (.c (.d (.int .i64))),F:=fun p=>qa5 n p }
def j03 (n:Nat):List FC:=[]
theorem j0h (n:Nat) {G:World->Prop} (hG:Know Inv G) : ∀c∈j03 n,q3s Tryz.prog G c/\q1k c.args=true:=(fun _ h=>by cases h)
def qx3:q1h:=[]
theorem ja6:drB qx3 (q0d Tryz.f76)=true:=by kernel_rfl
theorem jdc (n:Nat) : ∀a,(q6q n).F a=main Tryz.prog 13 (j03 n) (qsp n) qx3 (q0d Tryz.f76) [.tmp 2] (q6q n).args (q6q n).res a:=by intro a;kernel_rfl
theorem qn0 (n:Nat):q19 Inv Tryz.prog (q6q n):=fun G hG=>⟨⟨by kernel_rfl,fun a r h=>q0s (c:=q0d Tryz.f76) Tryz.func76 (by kernel_rfl) (by kernel_rfl) (Nat.le_of_ble_eq_true (by kernel_rfl)) hG.st (by kernel_rfl) (rs:=[.tmp 2]) (by kernel_rfl) (j0h n hG) (lts:=qsp n) (fun F hF hFG=>have hK:Know Inv F.G:=hFG ▸ hG;(q0p fun j L h1 h2 h3=>absurd h2 (Nat.not_lt.2 (Nat.le_trans (by decide +kernel) h1)))) ja6 ((jdc n a).symm.trans h)⟩,rfl⟩
def qwu (n:Nat):List LC:=[]
def qrr (n:Nat) (a1:Int×(Int×(Int))) (a2:Int):Option (Int×(Int×(Int))) :=
 (q77 a2).bind fun (r1:Int)=>q0u (IntKind.wrap .i64 ((1:Int)+r1)) fun (n2:Int)=>q0u (IntKind.wrap .i64 (a1.2.2+n2)) fun (n3:Int)=>some (a1.1,(a1.2.1,n3))
def qd1 (n:Nat):FC:={ f:=121,args:=[.one (.agg [.d (.int .i64),.d (.int .i64),.d (.int .i64)]),.one (.c (.d (.int .i64)))],res:=.one (.agg [.d (.int .i64),.d (.int .i64),.d (.int .i64)]),F:=fun p=>qrr n p.1 p.2 }
def j5i (n:Nat):List FC:=[qcc]
theorem j6r (n:Nat) {G:World->Prop} (hG:Know Inv G) : ∀c∈j5i n,q3s Tryz.prog G c/\q1k c.args=true:=List.forall_mem_cons.2 ⟨qgd G hG,(fun _ h=>by cases h)⟩
def j7e:q1h:=[(1,[⟨196800,32768,0⟩,⟨1605760,2^18,1⟩,⟨12582920,2^21,0⟩,⟨49*2^21,2^24,4⟩,⟨49*2^24,2^27,12⟩,⟨6576930816,2^30,31⟩,⟨51539607744,2^33,63⟩,⟨9663676544,128,127⟩]),(1000001,[])]
theorem ji5:drB j7e (q0d Tryz.f121)=true:=by kernel_rfl
theorem jg5 (n:Nat) : ∀a,(qd1 n).F a=main Tryz.prog 13 (j5i n) (qwu n) j7e (q0d Tryz.f121) [.cell 4 140] (qd1 n).args (qd1 n).res a:=by intro a;kernel_rfl
theorem j51 (n:Nat):q19 Inv Tryz.prog (qd1 n):=fun G hG=>⟨⟨by kernel_rfl,fun a r h=>q0s (c:=q0d Tryz.f121) Tryz.func121 (by kernel_rfl) (by kernel_rfl) (Nat.le_of_ble_eq_true (by kernel_rfl)) hG.st (by kernel_rfl) (rs:=[.cell 4 140]) (by kernel_rfl) (j6r n hG) (lts:=qwu n) (fun F hF hFG=>have hK:Know Inv F.G:=hFG ▸ hG;(q0p fun j L h1 h2 h3=>absurd h2 (Nat.not_lt.2 (Nat.le_trans (by decide +kernel) h1)))) ji5 ((jg5 n a).symm.trans h)⟩,rfl⟩
def qzf (n:Nat):List LC:=[]
def qqq (n:Nat) (a1:Int×(Int×(Int))):Option (Bool) :=
 (qm0 n (a1.1,a1.2.1)).bind fun (r1:Bool)=>(bif r1 then (bif decide (a1.1<a1.2.2) then q0u (IntKind.wrap .i64 (a1.1+a1.2.1)) fun (n2:Int)=>some (decide (a1.2.2<=n2)) else some false) else some false)
def qea (n:Nat):FC:={ f:=75,args:=[.one (.agg [.d (.int .i64),.d (.int .i64),.d (.int .i64)])],res:=.one (.c (.d .bool)),F:=fun p=>qqq n p }
def j94 (n:Nat):List FC:=[qaj n]
theorem j5t (n:Nat) {G:World->Prop} (hG:Know Inv G) : ∀c∈j94 n,q3s Tryz.prog G c/\q1k c.args=true:=List.forall_mem_cons.2 ⟨quq n G hG,(fun _ h=>by cases h)⟩
def j38:q1h:=[]
theorem jet:drB j38 (q0d Tryz.f75)=true:=by kernel_rfl
theorem jhs (n:Nat) : ∀a,(qea n).F a=main Tryz.prog 26 (j94 n) (qzf n) j38 (q0d Tryz.f75) [.tmp 2] (qea n).args (qea n).res a:=by intro a;kernel_rfl
theorem j40 (n:Nat):q19 Inv Tryz.prog (qea n):=fun G hG=>⟨⟨by kernel_rfl,fun a r h=>q0s (c:=q0d Tryz.f75) Tryz.func75 (by kernel_rfl) (by kernel_rfl) (Nat.le_of_ble_eq_true (by kernel_rfl)) hG.st (by kernel_rfl) (rs:=[.tmp 2]) (by kernel_rfl) (j5t n hG) (lts:=qzf n) (fun F hF hFG=>have hK:Know Inv F.G:=hFG ▸ hG;(q0p fun j L h1 h2 h3=>absurd h2 (Nat.not_lt.2 (Nat.le_trans (by decide +kernel) h1)))) jet ((jhs n a).symm.trans h)⟩,rfl⟩
def qsm (n:Nat):List LC:=[]
def qa8 (n:Nat) (a1:Int) (a2:Int) (a3:Int) (a4:List UInt8):Option ((List UInt8)×(Bool)) :=
 (qtk a1 a2 a3 a4).bind fun (r1:(Int×(Int×(Int×(Int×(Int)))))×(Bool))=>(bif !r1.2 then some (([]:List UInt8),false) else (qvu r1.1).bind fun (r2:(List UInt8)×(Bool))=>some r2)
def q3g (n:Nat):FC:={ f:=78,args:=[.one (.c (.d (.int .i64))),.one (.c (.d (.int .i64))),.one (.c (.d (.int .i64))),.one (.c (.d .str))],res:=.tup [.c (.d .str),.c (.d .bool)],F:=fun p=>qa8 n p.1 p.2.1 p.2.2.1 p.2.2.2 }
def qwm (n:Nat):List FC:=[qx5,qzy]
theorem j05 (n:Nat) {G:World->Prop} (hG:Know Inv G) : ∀c∈qwm n,q3s Tryz.prog G c/\q1k c.args=true:=List.forall_mem_cons.2 ⟨jam G hG,List.forall_mem_cons.2 ⟨jas G hG,(fun _ h=>by cases h)⟩⟩
def qzo:q1h:=[]
theorem jbe:drB qzo (q0d Tryz.f78)=true:=by kernel_rfl
theorem jcz (n:Nat) : ∀a,(q3g n).F a=main Tryz.prog 26 (qwm n) (qsm n) qzo (q0d Tryz.f78) [.tmp 8,.tmp 9] (q3g n).args (q3g n).res a:=by intro a;kernel_rfl
theorem qg6 (n:Nat):q19 Inv Tryz.prog (q3g n):=fun G hG=>⟨⟨by kernel_rfl,fun a r h=>q0s (c:=q0d Tryz.f78) Tryz.func78 (by kernel_rfl) (by kernel_rfl) (Nat.le_of_ble_eq_true (by kernel_rfl)) hG.st (by kernel_rfl) (rs:=[.tmp 8,.tmp 9]) (by kernel_rfl) (j05 n hG) (lts:=qsm n) (fun F hF hFG=>have hK:Know Inv F.G:=hFG ▸ hG;(q0p fun j L h1 h2 h3=>absurd h2 (Nat.not_lt.2 (Nat.le_trans (by decide +kernel) h1)))) jbe ((jcz n a).symm.trans h)⟩,rfl⟩
def qzm (n:Nat):List LC:=[]
def qyi (n:Nat) (a1:(List (List UInt8))×(List ((Int)×(List UInt8)))) (a2:Int×(Int)):Option ((List (List UInt8))×(Bool)) :=
 (qm0 n a2).bind fun (r1:Bool)=>(bif !r1 then some ([],false) else (qvo a1).bind fun (r2:((List (List UInt8))×(List ((Int)×(List UInt8))))×(Int))=>(bif !decide (r2.2=(0:Int)) then some ([],false) else q0u (IntKind.wrap .i64 (a2.1+a2.2)) fun (n3:Int)=>(bif decide (((List.length r2.1.1:Nat):Int)<n3) then some ([],false) else some (r2.1.1,true))))
def qh3 (n:Nat):FC:={ f:=118,args:=[.one (.agg [.d (.lst .str),.d (.lst (.prod (.int .i64) .str))]),.one (.agg [.d (.int .i64),.d (.int .i64)])],res:=.tup [.c (.d (.lst .str)),.c (.d .bool)],F:=fun p=>qyi n p.1 p.2 }
def j53 (n:Nat):List FC:=[qaj n,qyg]
theorem j67 (n:Nat) {G:World->Prop} (hG:Know Inv G) : ∀c∈j53 n,q3s Tryz.prog G c/\q1k c.args=true:=List.forall_mem_cons.2 ⟨quq n G hG,List.forall_mem_cons.2 ⟨j9t G hG,(fun _ h=>by cases h)⟩⟩
def j8g:q1h:=[]
theorem jf5:drB j8g (q0d Tryz.f118)=true:=by kernel_rfl
theorem jga (n:Nat) : ∀a,(qh3 n).F a=main Tryz.prog 31 (j53 n) (qzm n) j8g (q0d Tryz.f118) [.tmp 4,.tmp 5] (qh3 n).args (qh3 n).res a:=by intro a;kernel_rfl
theorem jgo (n:Nat):q19 Inv Tryz.prog (qh3 n):=fun G hG=>⟨⟨by kernel_rfl,fun a r h=>q0s (c:=q0d Tryz.f118) Tryz.func118 (by kernel_rfl) (by kernel_rfl) (Nat.le_of_ble_eq_true (by kernel_rfl)) hG.st (by kernel_rfl) (rs:=[.tmp 4,.tmp 5]) (by kernel_rfl) (j67 n hG) (lts:=qzm n) (fun F hF hFG=>have hK:Know Inv F.G:=hFG ▸ hG;(q0p fun j L h1 h2 h3=>absurd h2 (Nat.not_lt.2 (Nat.le_trans (by decide +kernel) h1)))) jf5 ((jga n a).symm.trans h)⟩,rfl⟩
def qwz (n:Nat):List LC:=[]
def qx1 (n:Nat) (a1:Int×(Int×(Int))) (a2:List (List UInt8)) (a3:Int) (a4:Int):Option ((List UInt8)×(Bool)) :=
 (qa5 n a1).bind fun (r1:Int)=>(bif decide (r1<(1:Int)) then some (([]:List UInt8),false) else (q21 a2 a1.2.2).bind fun (x2:List UInt8)=>(qjc x2).bind fun (r3:(Int×(Int×(Int×(Int×(Int)))))×(Bool))=>(bif !r3.2 then some (([]:List UInt8),false) else (bif !decide (r3.1.1=(2:Int)) then some (([]:List UInt8),false) else (bif !decide (r3.1.2.1=a3) then some (([]:List UInt8),false) else (bif !decide (r3.1.2.2.1=a4) then some (([]:List UInt8),false) else (qrr n a1 r3.1.2.2.2.1).bind fun (r4:Int×(Int×(Int)))=>(qa5 n r4).bind fun (r5:Int)=>(bif decide (r5<(0:Int)) then some (([]:List UInt8),false) else q0u (IntKind.wrap .i64 (a1.2.2+(1:Int))) fun (n6:Int)=>(q4a a2 n6 r4.2.2).bind fun (s7:List (List UInt8))=>(qv6 s7 r3.1.2.2.2.1).bind fun (r8:(List UInt8)×(Bool))=>(bif !r8.2 then some (([]:List UInt8),false) else (qoq r8.1).bind fun (r9:Int)=>(bif !decide (r9=r3.1.2.2.2.2) then some (([]:List UInt8),false) else some (r8.1,true)))))))))
def qix (n:Nat):FC:={ f:=120,args:=[.one (.agg [.d (.int .i64),.d (.int .i64),.d (.int .i64)]),.one (.c (.d (.lst .str))),.one (.c (.d (.int .i64))),.one (.c (.d (.int .i64)))],res:=.tup [.c (.d .str),.c (.d .bool)],F:=fun p=>qx1 n p.1 p.2.1 p.2.2.1 p.2.2.2 }
def j3x (n:Nat):List FC:=[q6q n,qp9,qd1 n,qy1,qsd]
theorem j5c (n:Nat) {G:World->Prop} (hG:Know Inv G) : ∀c∈j3x n,q3s Tryz.prog G c/\q1k c.args=true:=List.forall_mem_cons.2 ⟨qn0 n G hG,List.forall_mem_cons.2 ⟨qwn G hG,List.forall_mem_cons.2 ⟨j51 n G hG,List.forall_mem_cons.2 ⟨jc8 G hG,List.forall_mem_cons.2 ⟨j4p G hG,(fun _ h=>by cases h)⟩⟩⟩⟩⟩
def j8j:q1h:=[(9,[⟨4384504911992708754611054498148849058967797628936,2^159,0⟩,⟨35076039295941670036888435985190792471742381043712,2^162,0⟩,⟨286454320916856971967922227212391471852562778431488,2^165,2⟩,⟨49*2^165,2^168,6⟩,⟨261336857795280739939871698507597986398211*2^36,2^171,0⟩,⟨1067125502664063021421142768906025111126017*2^37,2^174,16⟩,⟨1606145*2^159,2^177,63⟩,⟨8563486156235759286349715816696970818296479747*2^30,2^180,0⟩,⟨34967568471296017085928006251512630841377292289*2^31,2^183,128⟩,⟨3137*2^177,2^186,511⟩,⟨536870915*2^157,2^156,1023⟩,⟨51539607553*2^156,2^189,2047⟩,⟨412316860417*2^156,2^192,2047⟩,⟨713623846352979940529142984724747568191373315*2^40,2^39,4095⟩,⟨365375409332725729550921208179070754913983135747*2^34,2^33,16383⟩]),(10,[⟨35076039295941670036888435985190792471742381031425*2^33,2^195,0⟩,⟨49*2^195,2^198,1⟩,⟨49*2^198,2^201,3⟩,⟨286454320916856971967922227212391471852562778423297*2^39,2^204,7⟩,⟨393*2^201,2^207,15⟩,⟨9197966400548586839326563309439258049336690082949627907*2^30,2^210,7⟩,⟨37547637328890903874367742738451276472471236168422260737*2^31,2^213,39⟩,⟨200769*2^201,2^216,127⟩,⟨1605633*2^201,2^219,255⟩]),(1000010,[])]
theorem jf1:drB j8j (q0d Tryz.f120)=true:=by kernel_rfl
theorem jfc (n:Nat) : ∀a,(qix n).F a=main Tryz.prog 75 (j3x n) (qwz n) j8j (q0d Tryz.f120) [.tmp 8,.tmp 9] (qix n).args (qix n).res a:=by intro a;kernel_rfl
theorem jhc (n:Nat):q19 Inv Tryz.prog (qix n):=fun G hG=>⟨⟨by kernel_rfl,fun a r h=>q0s (c:=q0d Tryz.f120) Tryz.func120 (by kernel_rfl) (by kernel_rfl) (Nat.le_of_ble_eq_true (by kernel_rfl)) hG.st (by kernel_rfl) (rs:=[.tmp 8,.tmp 9]) (by kernel_rfl) (j5c n hG) (lts:=qwz n) (fun F hF hFG=>have hK:Know Inv F.G:=hFG ▸ hG;(q0p fun j L h1 h2 h3=>absurd h2 (Nat.not_lt.2 (Nat.le_trans (by decide +kernel) h1)))) jf1 ((jfc n a).symm.trans h)⟩,rfl⟩
@[reducible] def qbl:SSt:=⟨[(4,.one (.c (.box 4 0))),(6,.one (.c (.d (.lst .str)))),(13,.one (.c (.box 13 0))),(14,.one (.c (.box 14 0)))],[(4,(77,[.d (.int .i64),.nil,.d (.int .i64)])),(13,(140,[.d (.int .i64),.d (.int .i64),.d (.int .i64)])),(14,(77,[.d (.int .i64),.row 75,.d (.int .i64)]))],[(75,⟨9,true,.str⟩)]⟩
@[reducible] def q6j:List (Exit×SSt):=[(.exit 0,⟨[(4,.one (.c (.box 4 0))),(13,.one (.c (.box 13 0))),(14,.one (.c (.box 14 0)))],[(4,(77,[.d (.int .i64),.nil,.d (.int .i64)])),(13,(140,[.d (.int .i64),.d (.int .i64),.d (.int .i64)])),(14,(77,[.d (.int .i64),.row 75,.d (.int .i64)]))],[(75,⟨9,true,.str⟩)]⟩)]
def qnq (n:Nat) (rec:(List (List UInt8))->Int->Int->Int->Int->Int->Int->Int->(List (List UInt8))->Option ((Unit×(Unit×(Unit×(Unit))))×((Int×(Unit×(Int)))×((Int×(Int×(Int)))×((Int×(Unit×(Int)))×(Unit))))×((List (List UInt8))×(Unit)))) (a1:List (List UInt8)) (a2:Int) (a3:Int) (a4:Int) (a5:Int) (a6:Int) (a7:Int) (a8:Int) (a9:List (List UInt8)):Option ((Unit×(Unit×(Unit×(Unit))))×((Int×(Unit×(Int)))×((Int×(Int×(Int)))×((Int×(Unit×(Int)))×(Unit))))×((List (List UInt8))×(Unit))) :=
 (qx1 n (a4,(a5,a6)) a1 a7 ((List.length a9:Nat):Int)).bind fun (r6:(List UInt8)×(Bool))=>(bif !r6.2 then some ((((),((),((),()))),(((a2,((),a3)),((a4,(a5,a6)),((a7,((),a8)),()))),(a9,())))) else (q50 16 a9 ([r6.1]:List (List UInt8))).bind fun (l7:List (List UInt8))=>(qrr n (a4,(a5,a6)) ((List.length r6.1:Nat):Int)).bind fun (r8:Int×(Int×(Int)))=>rec a1 a2 a3 r8.1 r8.2.1 r8.2.2 a7 a8 l7)
def qp1 (n:Nat) (rec:pSt qbl->Option (q1l q6j)) (p:pSt qbl):Option (q1l q6j):=qnq n (fun a1 a2 a3 a4 a5 a6 a7 a8 a9=>rec (((),(a1,((),((),())))),(((a2,((),a3)),((a4,(a5,a6)),((a7,((),a8)),()))),(a9,())))) p.1.2.1 p.2.1.1.1 p.2.1.1.2.2 p.2.1.2.1.1 p.2.1.2.1.2.1 p.2.1.2.1.2.2 p.2.1.2.2.1.1 p.2.1.2.2.1.2.2 p.2.2.1
def q72 (n m:Nat) (a1:List (List UInt8)) (a2:Int) (a3:Int) (a4:Int) (a5:Int) (a6:Int) (a7:Int) (a8:Int) (a9:List (List UInt8)):Option ((Unit×(Unit×(Unit×(Unit))))×((Int×(Unit×(Int)))×((Int×(Int×(Int)))×((Int×(Unit×(Int)))×(Unit))))×((List (List UInt8))×(Unit))):=q1r (qp1 n) m (((),(a1,((),((),())))),(((a2,((),a3)),((a4,(a5,a6)),((a7,((),a8)),()))),(a9,())))
theorem qf4 (n m:Nat) (a1:List (List UInt8)) (a2:Int) (a3:Int) (a4:Int) (a5:Int) (a6:Int) (a7:Int) (a8:Int) (a9:List (List UInt8)):q72 n (m+1) a1 a2 a3 a4 a5 a6 a7 a8 a9=qnq n (fun a1 a2 a3 a4 a5 a6 a7 a8 a9=>q72 n m a1 a2 a3 a4 a5 a6 a7 a8 a9) a1 a2 a3 a4 a5 a6 a7 a8 a9:=rfl
def qxx (n:Nat):LC:={ sh:=qbl,outs:=q6j,F:=q1r (qp1 n) n }
def qiu (n:Nat):List LC:=[qxx n]
def qih (n:Nat) (a1:(List (List UInt8))×(List ((Int)×(List UInt8)))) (a2:Int×(Int)):Option ((Int×((List (List UInt8))×(Int)))×(Int)) :=
 (qyi n a1 a2).bind fun (r1:(List (List UInt8))×(Bool))=>(bif !r1.2 then some (((0:Int),([],(0:Int))),(1:Int)) else (q21 r1.1 a2.1).bind fun (x2:List UInt8)=>(qjc x2).bind fun (r3:(Int×(Int×(Int×(Int×(Int)))))×(Bool))=>((q3g n).F ((1:Int),(r3.1.2.1,((0:Int),([]:List UInt8))))).bind fun (r4:(List UInt8)×(Bool))=>(bif !r4.2 then some (((0:Int),([],(0:Int))),(5:Int)) else (bif !decide (r4.1=x2) then some (((0:Int),([],(0:Int))),(5:Int)) else q0u (IntKind.wrap .i64 (a2.1+(1:Int))) fun (n5:Int)=>(q72 n n r1.1 (0:Int) (0:Int) a2.1 a2.2 n5 r3.1.2.1 (0:Int) []).bind fun (o9:(Unit×(Unit×(Unit×(Unit))))×((Int×(Unit×(Int)))×((Int×(Int×(Int)))×((Int×(Unit×(Int)))×(Unit))))×((List (List UInt8))×(Unit)))=>some ((o9.2.1.2.2.1.1,(o9.2.2.1,o9.2.1.2.1.2.2)),(0:Int)))))
def qce (n:Nat):FC:={ f:=93,args:=[.one (.agg [.d (.lst .str),.d (.lst (.prod (.int .i64) .str))]),.one (.agg [.d (.int .i64),.d (.int .i64)])],res:=.tup [.agg [.d (.int .i64),.d (.lst .str),.d (.int .i64)],.c (.d (.int .i64))],F:=fun p=>qih n p.1 p.2 }
def qmm (n:Nat):List FC:=[qh3 n,qp9,q3g n,qix n,qd1 n]
theorem ql6 (n:Nat) {G:World->Prop} (hG:Know Inv G) : ∀c∈qmm n,q3s Tryz.prog G c/\q1k c.args=true:=List.forall_mem_cons.2 ⟨jgo n G hG,List.forall_mem_cons.2 ⟨qwn G hG,List.forall_mem_cons.2 ⟨qg6 n G hG,List.forall_mem_cons.2 ⟨jhc n G hG,List.forall_mem_cons.2 ⟨j51 n G hG,(fun _ h=>by cases h)⟩⟩⟩⟩⟩
def qmh:q1h:=[]
theorem qzu:drB qmh (q0d Tryz.f93)=true:=by kernel_rfl
theorem j8z (n:Nat) : ∀rec p,qp1 n rec p=round Tryz.prog 85 (qmm n) (qiu n) qmh 1 qbl q6j (q0h 0 0 (q0d Tryz.f93)) rec p:=by intro rec p;kernel_rfl
theorem j1v (n:Nat) {F:Fr} (hF:F.n=85) (hK:Know Inv F.G):qfv Tryz.prog F (qxx n) (q0h 0 0 (q0d Tryz.f93)) :=
 q26 hF (by kernel_rfl) (ql6 n hK) (j8z n) (fuel:=n) (fun _=>rfl) (q0p fun j L h1 h2 h3=>absurd h2 (Nat.not_lt.2 (Nat.le_trans (by decide +kernel) h1))) (q39 qzu)
theorem jar (n:Nat) : ∀a,(qce n).F a=main Tryz.prog 85 (qmm n) (qiu n) qmh (q0d Tryz.f93) [.cell 4 77,.tmp 5] (qce n).args (qce n).res a:=by intro a;kernel_rfl
theorem jav (n:Nat):q19 Inv Tryz.prog (qce n):=fun G hG=>⟨⟨by kernel_rfl,fun a r h=>q0s (c:=q0d Tryz.f93) Tryz.func93 (by kernel_rfl) (by kernel_rfl) (Nat.le_of_ble_eq_true (by kernel_rfl)) hG.st (by kernel_rfl) (rs:=[.cell 4 77,.tmp 5]) (by kernel_rfl) (ql6 n hG) (lts:=qiu n) (fun F hF hFG=>have hK:Know Inv F.G:=hFG ▸ hG;(q0p (c:=(q0d Tryz.f93)) (fun j L h1 h2 h3=>by
  have h2':j<1:=Nat.lt_of_lt_of_le h2 (by decide +kernel)
  match j,h1,h2',h3 with
  | 0,_,_,h3=>obtain rfl:=Option.some.inj h3;exact (show q0h 0 0 (q0d Tryz.f93)=q0h 0 0 (q0d Tryz.f93) by kernel_rfl) ▸ j1v n hF hK
  | j+1,_,h2',_=>exact absurd h2' (by omega)))) qzu ((jar n a).symm.trans h)⟩,rfl⟩
def qkm (n:Nat):List LC:=[]
def q9g (n:Nat) (a1:Int×(Int)) (a2:Int):Option ((List ((Bool)×((Int)×(List UInt8))))×(Int)) :=
 ((q3g n).F ((1:Int),(a2,((0:Int),([]:List UInt8))))).bind fun (r1:(List UInt8)×(Bool))=>(qm0 n a1).bind fun (r2:Bool)=>(bif !r2 then some ([],(1:Int)) else (bif !r1.2 then some ([],(1:Int)) else some (([(false,(a1.1,r1.1)),(true,((0:Int),([]:List UInt8)))]:List ((Bool)×((Int)×(List UInt8)))),(0:Int))))
def q56 (n:Nat):FC:={ f:=45,args:=[.one (.agg [.d (.int .i64),.d (.int .i64)]),.one (.c (.d (.int .i64)))],res:=.tup [.c (.d (.lst (.prod .bool (.prod (.int .i64) .str)))),.c (.d (.int .i64))],F:=fun p=>q9g n p.1 p.2 }
def qsj (n:Nat):List FC:=[q3g n,qaj n]
theorem quz (n:Nat) {G:World->Prop} (hG:Know Inv G) : ∀c∈qsj n,q3s Tryz.prog G c/\q1k c.args=true:=List.forall_mem_cons.2 ⟨qg6 n G hG,List.forall_mem_cons.2 ⟨quq n G hG,(fun _ h=>by cases h)⟩⟩
def qr7:q1h:=[]
theorem j8h:drB qr7 (q0d Tryz.f45)=true:=by kernel_rfl
theorem j6x (n:Nat) : ∀a,(q56 n).F a=main Tryz.prog 26 (qsj n) (qkm n) qr7 (q0d Tryz.f45) [.tmp 4,.tmp 5] (q56 n).args (q56 n).res a:=by intro a;kernel_rfl
theorem qsg (n:Nat):q19 Inv Tryz.prog (q56 n):=fun G hG=>⟨⟨by kernel_rfl,fun a r h=>q0s (c:=q0d Tryz.f45) Tryz.func45 (by kernel_rfl) (by kernel_rfl) (Nat.le_of_ble_eq_true (by kernel_rfl)) hG.st (by kernel_rfl) (rs:=[.tmp 4,.tmp 5]) (by kernel_rfl) (quz n hG) (lts:=qkm n) (fun F hF hFG=>have hK:Know Inv F.G:=hFG ▸ hG;(q0p fun j L h1 h2 h3=>absurd h2 (Nat.not_lt.2 (Nat.le_trans (by decide +kernel) h1)))) j8h ((j6x n a).symm.trans h)⟩,rfl⟩
@[reducible] def qfw:SSt:=⟨[(8,.one (.c (.box 8 0))),(9,.one (.c (.d .str))),(11,.one (.c (.row 74))),(58,.one (.c (.d (.lst .str)))),(59,.one (.c (.d (.int .i64)))),(60,.one (.c (.d (.int .i64))))],[(8,(140,[.d (.int .i64),.d (.int .i64),.d (.int .i64)]))],[(74,⟨99,true,(.prod .bool (.prod (.int .i64) .str))⟩)]⟩
@[reducible] def q95:List (Exit×SSt):=[(.exit 0,⟨[(8,.one (.c (.box 8 0))),(9,.one (.c (.d .str))),(11,.one (.c (.row 74)))],[(8,(140,[.d (.int .i64),.d (.int .i64),.d (.int .i64)]))],[(74,⟨99,true,(.prod .bool (.prod (.int .i64) .str))⟩)]⟩)]
def qwf (n:Nat) (rec:(List UInt8)->(List (List UInt8))->Int->Int->Int->Int->Int->(List ((Bool)×((Int)×(List UInt8))))->Option ((Unit×((List UInt8)×(Unit×(Unit))))×((Int×(Int×(Int)))×(Unit))×((List ((Bool)×((Int)×(List UInt8))))×(Unit)))) (a1:List UInt8) (a2:List (List UInt8)) (a3:Int) (a4:Int) (a5:Int) (a6:Int) (a7:Int) (a8:List ((Bool)×((Int)×(List UInt8)))):Option ((Unit×((List UInt8)×(Unit×(Unit))))×((Int×(Int×(Int)))×(Unit))×((List ((Bool)×((Int)×(List UInt8))))×(Unit))) :=
 (bif decide (a4<a3) then (q21 a2 a4).bind fun (x7:List UInt8)=>q0u (IntKind.wrap .i64 (a7+(1:Int))) fun (n8:Int)=>q0u (IntKind.wrap .i64 (n8+a4)) fun (n9:Int)=>(q50 32 a8 ([(false,(n9,x7))]:List ((Bool)×((Int)×(List UInt8))))).bind fun (l10:List ((Bool)×((Int)×(List UInt8))))=>q0u (IntKind.wrap .i64 (a4+(1:Int))) fun (n11:Int)=>rec a1 a2 a3 n11 a5 a6 a7 l10 else some ((((),(a1,((),()))),(((a5,(a6,a7)),()),(a8,())))))
def qtj (n:Nat) (rec:pSt qfw->Option (q1l q95)) (p:pSt qfw):Option (q1l q95):=qwf n (fun a1 a2 a3 a4 a5 a6 a7 a8=>rec (((),(a1,((),(a2,(a3,(a4,())))))),(((a5,(a6,a7)),()),(a8,())))) p.1.2.1 p.1.2.2.2.1 p.1.2.2.2.2.1 p.1.2.2.2.2.2.1 p.2.1.1.1 p.2.1.1.2.1 p.2.1.1.2.2 p.2.2.1
def q6h (n m:Nat) (a1:List UInt8) (a2:List (List UInt8)) (a3:Int) (a4:Int) (a5:Int) (a6:Int) (a7:Int) (a8:List ((Bool)×((Int)×(List UInt8)))):Option ((Unit×((List UInt8)×(Unit×(Unit))))×((Int×(Int×(Int)))×(Unit))×((List ((Bool)×((Int)×(List UInt8))))×(Unit))):=q1r (qtj n) m (((),(a1,((),(a2,(a3,(a4,())))))),(((a5,(a6,a7)),()),(a8,())))
theorem qgv (n m:Nat) (a1:List UInt8) (a2:List (List UInt8)) (a3:Int) (a4:Int) (a5:Int) (a6:Int) (a7:Int) (a8:List ((Bool)×((Int)×(List UInt8)))):q6h n (m+1) a1 a2 a3 a4 a5 a6 a7 a8=qwf n (fun a1 a2 a3 a4 a5 a6 a7 a8=>q6h n m a1 a2 a3 a4 a5 a6 a7 a8) a1 a2 a3 a4 a5 a6 a7 a8:=rfl
def j6k (n:Nat):LC:={ sh:=qfw,outs:=q95,F:=q1r (qtj n) n }
def qo2 (n:Nat):List LC:=[j6k n]
def qs1 (n:Nat) (a1:Int×(Int)) (a2:Int×((List (List UInt8))×(Int))) (a3:List UInt8):Option ((List ((Bool)×((Int)×(List UInt8))))×(Int)) :=
 (qqq n (a1.1,(a1.2,a2.2.2))).bind fun (r1:Bool)=>(bif !r1 then some ([],(1:Int)) else (bif decide (a2.1<(0:Int)) then some ([],(1:Int)) else (bif decide ((1073741824:Int)<a2.1) then some ([],(1:Int)) else (bif decide ((65535:Int)<((List.length a2.2.1:Nat):Int)) then some ([],(1:Int)) else (bif decide ((4096:Int)<((List.length a3:Nat):Int)) then some ([],(2:Int)) else (qa5 n (a1.1,(a1.2,a2.2.2))).bind fun (r2:Int)=>(q77 ((List.length a3:Nat):Int)).bind fun (r3:Int)=>q0u (IntKind.wrap .i64 ((1:Int)+r3)) fun (n4:Int)=>(bif decide (r2<n4) then some ([],(3:Int)) else ((q3g n).F ((2:Int),(a2.1,(((List.length a2.2.1:Nat):Int),a3)))).bind fun (r5:(List UInt8)×(Bool))=>(qsh a3).bind fun (r6:List (List UInt8))=>(q6h n n r5.1 r6 ((List.length r6:Nat):Int) (0:Int) a1.1 a1.2 a2.2.2 []).bind fun (o12:(Unit×((List UInt8)×(Unit×(Unit))))×((Int×(Int×(Int)))×(Unit))×((List ((Bool)×((Int)×(List UInt8))))×(Unit)))=>(q50 32 o12.2.2.1 ([(true,((0:Int),([]:List UInt8))),(false,(o12.2.1.1.2.2,o12.1.2.1)),(true,((0:Int),([]:List UInt8)))]:List ((Bool)×((Int)×(List UInt8))))).bind fun (l13:List ((Bool)×((Int)×(List UInt8))))=>some (l13,(0:Int))))))))
def qhj (n:Nat):FC:={ f:=40,args:=[.one (.agg [.d (.int .i64),.d (.int .i64)]),.one (.agg [.d (.int .i64),.d (.lst .str),.d (.int .i64)]),.one (.c (.d .str))],res:=.tup [.c (.d (.lst (.prod .bool (.prod (.int .i64) .str)))),.c (.d (.int .i64))],F:=fun p=>qs1 n p.1 p.2.1 p.2.2 }
def qw2 (n:Nat):List FC:=[qea n,q6q n,qcc,q3g n,qu4]
theorem qpm (n:Nat) {G:World->Prop} (hG:Know Inv G) : ∀c∈qw2 n,q3s Tryz.prog G c/\q1k c.args=true:=List.forall_mem_cons.2 ⟨j40 n G hG,List.forall_mem_cons.2 ⟨qn0 n G hG,List.forall_mem_cons.2 ⟨qgd G hG,List.forall_mem_cons.2 ⟨qg6 n G hG,List.forall_mem_cons.2 ⟨j4k G hG,(fun _ h=>by cases h)⟩⟩⟩⟩⟩
def qto:q1h:=[]
theorem j8w:drB qto (q0d Tryz.f40)=true:=by kernel_rfl
theorem ja7 (n:Nat) : ∀rec p,qtj n rec p=round Tryz.prog 85 (qw2 n) (qo2 n) qto 1 qfw q95 (q0h 0 0 (q0d Tryz.f40)) rec p:=by intro rec p;kernel_rfl
theorem j95 (n:Nat) {F:Fr} (hF:F.n=85) (hK:Know Inv F.G):qfv Tryz.prog F (j6k n) (q0h 0 0 (q0d Tryz.f40)) :=
 q26 hF (by kernel_rfl) (qpm n hK) (ja7 n) (fuel:=n) (fun _=>rfl) (q0p fun j L h1 h2 h3=>absurd h2 (Nat.not_lt.2 (Nat.le_trans (by decide +kernel) h1))) (q39 j8w)
theorem jie (n:Nat) : ∀a,(qhj n).F a=main Tryz.prog 85 (qw2 n) (qo2 n) qto (q0d Tryz.f40) [.tmp 6,.tmp 7] (qhj n).args (qhj n).res a:=by intro a;kernel_rfl
theorem jg2 (n:Nat):q19 Inv Tryz.prog (qhj n):=fun G hG=>⟨⟨by kernel_rfl,fun a r h=>q0s (c:=q0d Tryz.f40) Tryz.func40 (by kernel_rfl) (by kernel_rfl) (Nat.le_of_ble_eq_true (by kernel_rfl)) hG.st (by kernel_rfl) (rs:=[.tmp 6,.tmp 7]) (by kernel_rfl) (qpm n hG) (lts:=qo2 n) (fun F hF hFG=>have hK:Know Inv F.G:=hFG ▸ hG;(q0p (c:=(q0d Tryz.f40)) (fun j L h1 h2 h3=>by
  have h2':j<1:=Nat.lt_of_lt_of_le h2 (by decide +kernel)
  match j,h1,h2',h3 with
  | 0,_,_,h3=>obtain rfl:=Option.some.inj h3;exact (show q0h 0 0 (q0d Tryz.f40)=q0h 0 0 (q0d Tryz.f40) by kernel_rfl) ▸ j95 n hF hK
  | j+1,_,h2',_=>exact absurd h2' (by omega)))) j8w ((jie n a).symm.trans h)⟩,rfl⟩
end Go.Proofs.YthpgnliicpejoaaGreatDoor.AM
namespace Go.Proofs.YthpgnliicpejoaaGreatDoor
open Go.RowKit
namespace RM
theorem jbc (s:ByteArray) (i:Nat):(sec s i).data.toList.drop 1=(s.data.toList.drop (31*i)).take 31++List.replicate (32 - (68::(s.data.toList.drop (31*i)).take 31).length) 0:=rfl
theorem j1c (s:ByteArray) (k:Nat) (hk:31*k<=s.size+30):(qng ((List.range k).map (sec s))).take (min (31*k) s.size)=s.data.toList.take (31*k):=by
 have hs:s.data.toList.length=s.size:=by simp
 induction k with
 | zero=>simp
 | succ k ih =>
  have hlen:(qng ((List.range k).map (sec s))).length=31*k:=by
   rw [q7g _ (by intro x hx;obtain ⟨i,_,rfl⟩:=List.mem_map.1 hx;exact qbm s i)];simp
  have ih:=ih (by omega)
  rw [Nat.min_eq_left (by omega),List.take_of_length_le (by omega)] at ih
  have e1:qng ((List.range (k+1)).map (sec s))=qng ((List.range k).map (sec s))++(sec s k).data.toList.drop 1:=by
   rw [qya];unfold qng;simp
  rw [e1,jbc,ih,show 31*(k+1)=31*k+31 from by omega,List.take_add,<-List.append_assoc]
  have hl2:(List.take (31*k) s.data.toList++List.take 31 (List.drop (31*k) s.data.toList)).length=min (31*k+31) s.size:=by
   simp;omega
  rw [<-hl2,List.take_left]
theorem qlm (s:ByteArray) (h:s.size<=4096):q1d s=(s.size+30) / 31:=by unfold q1d;rw [if_pos h]
theorem q93 (s:ByteArray) (h:s.size<=4096):q0v (s.size:Int)=(q1d s:Int):=by
 unfold q0v;rw [if_pos (by omega),qlm s h];omega
theorem qt2 (s:ByteArray) (h:s.size<=4096):qd9 (qew s) (s.size:Int)=s:=by
 have hs:s.data.toList.length=s.size:=by simp
 have hn:=qlm s h
 have e:=j1c s (q1d s) (by omega)
 unfold qd9
 rw [Nat.min_eq_right (by omega)] at e
 rw [show (s.size:Int).toNat=s.size from by omega]
 unfold qew
 rw [e,List.take_of_length_le (by omega),qww]
theorem qlr (s:ByteArray) (h:s.size<=4096):q4f (qew s) (s.size:Int):=by
 refine ⟨?_,?_,?_⟩
 ·rw [q2y,q93 s h]
 ·intro x hx;obtain ⟨i,_,rfl⟩:=List.mem_map.1 hx;exact qbm s i
 ·rw [qt2 s h]
theorem qpu (s:ByteArray) (h:s.size<=4096):qid (qew s) (s.size:Int)=s:=by rw [qia _ _ (qlr s h),qt2 s h]
theorem qlc (l:List ByteArray) (n:Int) (h:q4f l n):0<=n/\((qid l n).size:Int)=n/\q0v n=(l.length:Int):=by
 have h1:=qxs l.length n h.1
 obtain ⟨m,rfl⟩ : ∃ m:Nat,n=(m:Int):=⟨n.toNat,by omega⟩
 refine ⟨h1.1,?_,h.1.symm⟩
 rw [qia _ _ h,j2d l m h.2.1 (by omega)]
theorem j5a (s:ByteArray) (i:Nat):(sec s i).data.toList.head? = some 68:=rfl
theorem j21 (k g q z m:Int):(str (qdh k g q z m)).data.toList.head? = some 72:=rfl
theorem jau (s:ByteArray) (i:Nat) (k g q z m:Int):sec s i≠str (qdh k g q z m):=by
 intro h
 have:=j5a s i
 rw [h,j21] at this
 simp at this
theorem qes (s:ByteArray) (i:Nat) : ¬ q1v (sec s i):=fun h=>jau s i _ _ _ _ _ h.2.2.symm
theorem qn3 (a b c d:UInt8) (l r:List UInt8) (k:Nat) (hl:l.length=k):num (l++a::b::c::d::r) k=(a.toNat:Int)*16777216+(b.toNat:Int)*65536+(c.toNat:Int)*256+(d.toNat:Int):=by
 subst hl
 unfold num
 simp [List.getD]
theorem qpa (n:Int) (h0:0<=n) (h1:n<4294967296):((UInt8.ofNat (n / 16777216 % 256).toNat).toNat:Int)*16777216+((UInt8.ofNat (n / 65536 % 256).toNat).toNat:Int)*65536+((UInt8.ofNat (n / 256 % 256).toNat).toNat:Int)*256+((UInt8.ofNat (n % 256).toNat).toNat:Int)=n:=by
 rw [q42 _ (by omega) (by omega),q42 _ (by omega) (by omega),q42 _ (by omega) (by omega),q42 _ (by omega) (by omega)]
 omega
theorem j1h (k g q z m:Int) : ∃ r,qdh k g q z m = [72,UInt8.ofNat k.toNat]++(be4 g++(be4 q++(be4 z++(be4 m++r)))):=⟨_,rfl⟩
theorem q88 (k g q z m:Int) (h:may k g q z m):q2w (str (qdh k g q z m))=k/\q0i (str (qdh k g q z m)) 2=g/\q0i (str (qdh k g q z m)) 6=q/\q0i (str (qdh k g q z m)) 10=z/\q0i (str (qdh k g q z m)) 14=m:=by
 obtain ⟨hk,hg,hq,hz,hm⟩:=h
 have hm2:=SM.qzx hm
 obtain ⟨r,hr⟩:=j1h k g q z m
 unfold q0i q2w
 rw [jce]
 refine ⟨?_,?_,?_,?_,?_⟩
 ·rw [hr]
  show ((UInt8.ofNat k.toNat).toNat:Int)=k
  exact q42 k (by omega) (by omega)
 ·rw [hr]
  exact (qn3 _ _ _ _ [72,UInt8.ofNat k.toNat] _ 2 rfl).trans (qpa g (by omega) (by omega))
 ·rw [hr,<-List.append_assoc]
  exact (qn3 _ _ _ _ ([72,UInt8.ofNat k.toNat]++be4 g) _ 6 rfl).trans (qpa q (by omega) (by omega))
 ·rw [hr,<-List.append_assoc,<-List.append_assoc]
  exact (qn3 _ _ _ _ ([72,UInt8.ofNat k.toNat]++be4 g++be4 q) _ 10 rfl).trans (qpa z (by omega) (by omega))
 ·rw [hr,<-List.append_assoc,<-List.append_assoc,<-List.append_assoc]
  exact (qn3 _ _ _ _ ([72,UInt8.ofNat k.toNat]++be4 g++be4 q++be4 z) _ 14 rfl).trans (qpa m (by omega) (by omega))
theorem q52 (k g q z m:Int) (h:may k g q z m):q1a k g q z m=str (qdh k g q z m):=if_pos h
theorem qhv (k g q z m:Int) (h:may k g q z m):q1v (q1a k g q z m)/\qrt (q1a k g q z m)=hd k g q z m:=by
 obtain ⟨e1,e2,e3,e4,e5⟩:=q88 k g q z m h
 have hr:q1v (str (qdh k g q z m)):=by
  refine ⟨by rw [q4m];rfl,?_,?_⟩
  ·rw [e1,e2,e3,e4,e5];exact h
  ·rw [e1,e2,e3,e4,e5]
 rw [q52 _ _ _ _ _ h]
 refine ⟨hr,?_⟩
 rw [q66 _ hr,e1,e2,e3,e4,e5]
def turned (s:ByteArray) (i x:Nat):List UInt8:=s.data.toList.set i (UInt8.ofNat ((s.data.toList.getD i 0).toNat ^^^ x))
end RM
end Go.Proofs.YthpgnliicpejoaaGreatDoor
namespace Go.Proofs
open Go.RowKit
set_option linter.unusedVariables false
set_option linter.unusedSimpArgs false
namespace YthpgnliicpejoaaGreatDoor.AM
theorem je0 (b:ByteArray):unB b=b.data.toList:=rfl
theorem q94 (b:ByteArray):(unB b).length=b.size:=jfa b
theorem q0t {α β:Type} (x:α) (f:α->Option β):q0u x f=f x:=rfl
def chk (f z:Int):Prop:=0<=f/\2<=z/\z<=512 - f
instance (f z:Int):Decidable (chk f z):=by unfold chk;infer_instance
theorem qfg (n:Nat) (f z:Int) (h1 : -9223372036854775808<=f) (h2:f<=9223372036854775807):qm0 n (f,z)=some (decide (chk f z)):=by
 unfold qm0 chk
 simp only
 by_cases c1:0<=f
 ·rw [decide_eq_true c1,cond_true]
  by_cases c2:2<=z
  ·rw [decide_eq_true c2,cond_true,wrap64 (by omega) (by omega),q0t]
   congr 1
   simp [c1,c2]
  ·rw [decide_eq_false c2,cond_false]
   simp [c2]
 ·rw [decide_eq_false c1,cond_false]
  simp [c1]
theorem qci (n:Nat) (f z a:Nat) (h1:f+z<=512) (h2:a<=100000):qa5 n ((f:Int),((z:Int),(a:Int)))=some (((f+z:Nat):Int) - (a:Int)):=by
 unfold qa5
 simp only
 rw [wrap64 (by omega) (by omega),q0t,wrap64 (by omega) (by omega),q0t]
 congr 1
theorem qgq (m:Int) (h:0<=m/\m<=4096):0<=RM.q0v m/\RM.q0v m<=133:=by unfold RM.q0v;rw [if_pos h];omega
theorem qy7 (n:Nat) (f z a:Nat) (m:Int) (h2:a<=100000) (h:0<=m/\m<=4096):qrr n ((f:Int),((z:Int),(a:Int))) m=some ((f:Int),((z:Int),((a+1+(RM.q0v m).toNat:Nat):Int))):=by
 have hc:=qgq m h
 unfold qrr q77
 rw [if_pos (show qxp m by unfold qxp;omega),Option.bind_some]
 simp only
 rw [wrap64 (by omega) (by omega),q0t,wrap64 (by omega) (by omega),q0t]
 congr 3
 omega
def flat (D:DM.Dk):List ByteArray:=DM.q0k (fun _=>true) D.secs D.cache D.cache.length
theorem qxg (D:DM.Dk):(flat D).length=D.secs.length:=DM.q0z _ _ _ _
def j89 (D:DM.Dk) (f z:Int):Prop:=chk f z/\DM.q2e D/\f+z<=(D.secs.length:Int)
instance (D:DM.Dk) (f z:Int):Decidable (j89 D f z):=by unfold j89;infer_instance
theorem jdg (n:Nat) (d:DkT) (hd:smD d) (f z:Int) (h1 : -9223372036854775808<=f) (h2:f<=9223372036854775807):qyi n d (f,z)=some (if j89 (q2m d) f z then ((flat (q2m d)).map unB,true) else ([],false)):=by
 unfold qyi
 rw [qfg n f z h1 h2,Option.bind_some]
 by_cases c:chk f z
 ·have c':=c
  unfold chk at c'
  rw [decide_eq_true c,Bool.not_true,cond_false]
  unfold qvo
  rw [if_pos hd,Option.bind_some]
  simp only
  by_cases cm:DM.q2e (q2m d)
  ·have e1:DM.qjy (q2m d)=0:=by unfold DM.qjy;rw [if_pos cm]
   have e2:DM.q2x (fun _=>true) (q2m d)=⟨flat (q2m d),[]⟩:=by unfold DM.q2x DM.q1c flat;rw [if_pos cm]
   rw [e1,decide_eq_true rfl,Bool.not_true,cond_false,wrap64 (by omega) (by omega),q0t,e2]
   have e3:(q6i ⟨flat (q2m d),[]⟩).1=(flat (q2m d)).map unB:=rfl
   rw [e3,List.length_map,qxg]
   by_cases cl:((q2m d).secs.length:Int)<f+z
   ·rw [decide_eq_true cl,cond_true,if_neg (fun h=>by have:=h.2.2;omega)]
   ·rw [decide_eq_false cl,cond_false,if_pos ⟨c,cm,by omega⟩]
  ·have e1:DM.qjy (q2m d)=1:=by unfold DM.qjy;rw [if_neg cm]
   rw [e1,decide_eq_false (by decide),Bool.not_false,cond_true,if_neg (fun h=>cm h.2.1)]
 ·rw [decide_eq_false c,Bool.not_false,cond_true,if_neg (fun h=>c h.1)]
theorem qz8 (b:ByteArray):qjc (unB b)=some (qi5 b,decide (RM.q1v b)):=by unfold qjc;rw [qbe]
theorem qhi {b:ByteArray} (h:RM.q1v b):0<=RM.q0i b 10/\RM.q0i b 10<=4096:=h.2.1.2.2.2.1
def gB (B:List ByteArray) (j:Nat):ByteArray:=B.getD j ⟨#[]⟩
theorem j1s {B:List ByteArray} {j:Nat} (h:j<B.length):gB B j=B[j]:=by
 unfold gB
 rw [List.getD_eq_getElem?_getD,List.getElem?_eq_getElem h];rfl
def qga (B:List ByteArray) (e at_:Nat) (g q:Int):Prop :=
 at_<e/\RM.q1v (gB B at_)/\RM.q2w (gB B at_)=2/\RM.q0i (gB B at_) 2=g/\RM.q0i (gB B at_) 6=q/\at_+1+(RM.q0v (RM.q0i (gB B at_) 10)).toNat<=e /\
 RM.q4f ((B.drop (at_+1)).take (RM.q0v (RM.q0i (gB B at_) 10)).toNat) (RM.q0i (gB B at_) 10) /\
 SM.q1g 1 (RM.qid ((B.drop (at_+1)).take (RM.q0v (RM.q0i (gB B at_) 10)).toNat) (RM.q0i (gB B at_) 10)).data.toList=RM.q0i (gB B at_) 14
def qc8 (B:List ByteArray) (at_:Nat):ByteArray:=RM.qid ((B.drop (at_+1)).take (RM.q0v (RM.q0i (gB B at_) 10)).toNat) (RM.q0i (gB B at_) 10)
instance (B:List ByteArray) (e a:Nat) (g q:Int):Decidable (qga B e a g q):=by unfold qga;infer_instance
theorem jci (n:Nat) (B:List ByteArray) (f z a:Nat) (g q:Int) (h1:f+z<=512) (h2:a<=2000) (hB:f+z<=B.length) :
  qx1 n ((f:Int),((z:Int),(a:Int))) (B.map unB) g q=some (if qga B (f+z) a g q then (unB (qc8 B a),true) else ([],false)):=by
 unfold qx1
 rw [qci n f z a h1 (by omega),Option.bind_some]
 by_cases c0:a<f+z
 case neg =>
  rw [decide_eq_true (by omega),cond_true,if_neg (fun h=>c0 h.1)]
 have ha:a<B.length:=by omega
 have ha':a<(B.map unB).length:=by rw [List.length_map];exact ha
 have hg:gB B a=B[a]:=j1s ha
 have hrP:qga B (f+z) a g q↔(a<f+z/\RM.q1v B[a]/\RM.q2w B[a]=2/\RM.q0i B[a] 2=g/\RM.q0i B[a] 6=q/\a+1+(RM.q0v (RM.q0i B[a] 10)).toNat<=f+z/\RM.q4f ((B.drop (a+1)).take (RM.q0v (RM.q0i B[a] 10)).toNat) (RM.q0i B[a] 10) /\
   SM.q1g 1 (RM.qid ((B.drop (a+1)).take (RM.q0v (RM.q0i B[a] 10)).toNat) (RM.q0i B[a] 10)).data.toList=RM.q0i B[a] 14):=by unfold qga;rw [hg]
 rw [decide_eq_false (by omega),cond_false]
 simp only
 rw [q37 ha',List.getElem_map,Option.bind_some,qz8,Option.bind_some]
 simp only
 by_cases c1:RM.q1v B[a]
 case neg =>
  rw [decide_eq_false c1,Bool.not_false,cond_true,if_neg (fun h=>c1 (hrP.1 h).2.1)]
 have hz:=qhi c1
 have hcz:=qgq _ hz
 have eh:qi5 B[a]=(RM.q2w B[a],(RM.q0i B[a] 2,(RM.q0i B[a] 6,(RM.q0i B[a] 10,RM.q0i B[a] 14)))):=by unfold qi5;rw [if_pos c1]
 rw [decide_eq_true c1,Bool.not_true,cond_false,eh]
 simp only
 have hrec:qc8 B a=RM.qid ((B.drop (a+1)).take (RM.q0v (RM.q0i B[a] 10)).toNat) (RM.q0i B[a] 10):=by unfold qc8;rw [hg]
 clear hg eh
 generalize RM.q2w B[a]=kd at *
 generalize RM.q0i B[a] 2=n2 at *
 generalize RM.q0i B[a] 6=n6 at *
 generalize RM.q0i B[a] 10=n10 at *
 generalize RM.q0i B[a] 14=n14 at *
 by_cases c2:kd=2
 case neg=>rw [decide_eq_false c2,Bool.not_false,cond_true,if_neg (fun h=>c2 (hrP.1 h).2.2.1)]
 rw [decide_eq_true c2,Bool.not_true,cond_false]
 by_cases c3:n2=g
 case neg=>rw [decide_eq_false c3,Bool.not_false,cond_true,if_neg (fun h=>c3 (hrP.1 h).2.2.2.1)]
 rw [decide_eq_true c3,Bool.not_true,cond_false]
 by_cases c4:n6=q
 case neg=>rw [decide_eq_false c4,Bool.not_false,cond_true,if_neg (fun h=>c4 (hrP.1 h).2.2.2.2.1)]
 have hcc:(RM.q0v n10).toNat<=133:=by omega
 have e4:=qy7 n f z a n10 (by omega) hz
 have e5:=qci n f z (a+1+(RM.q0v n10).toNat) h1 (by omega)
 rw [decide_eq_true c4,Bool.not_true,cond_false,e4,Option.bind_some,e5,Option.bind_some]
 by_cases c5:a+1+(RM.q0v n10).toNat<=f+z
 case neg=>rw [decide_eq_true (by omega),cond_true,if_neg (fun h=>c5 (hrP.1 h).2.2.2.2.2.1)]
 rw [decide_eq_false (by omega),cond_false]
 simp only
 have w1:IntKind.wrap .i64 ((a:Int)+1)=((a+1:Nat):Int):=q1e (by omega)
 rw [w1,q0t,sub_le (by omega) (by rw [List.length_map];omega),Option.bind_some]
 have e1:a+1+(RM.q0v n10).toNat - (a+1)=(RM.q0v n10).toNat:=by omega
 rw [e1]
 have e2:(((B.map unB).drop (a+1)).take (RM.q0v n10).toNat)=((B.drop (a+1)).take (RM.q0v n10).toNat).map unB:=by rw [<-List.map_drop,<-List.map_take]
 rw [e2]
 have e3 : ∀l:List ByteArray,(l.map unB).map ba=l:=fun l=>by
  rw [List.map_map]
  exact (List.map_congr_left fun x _=>qbe x).trans (List.map_id _)
 have hl:((B.drop (a+1)).take (RM.q0v n10).toNat).length<=1000:=by rw [List.length_take];omega
 unfold qv6
 rw [if_pos ⟨by rw [List.length_map];exact hl,by unfold qxp;omega⟩,Option.bind_some,e3,<-hrec]
 simp only
 by_cases c6:RM.q4f ((B.drop (a+1)).take (RM.q0v n10).toNat) n10
 case neg=>rw [decide_eq_false c6,Bool.not_false,cond_true,if_neg (fun h=>c6 (hrP.1 h).2.2.2.2.2.2.1)]
 rw [decide_eq_true c6,Bool.not_true,cond_false]
 have hlen:(unB (qc8 B a)).length<=maxLen:=by
  have hM:=max_eq
  have h9:=(RM.qlc _ _ c6).2.1
  rw [<-hrec] at h9
  rw [q94]
  generalize (qc8 B a).size=u at *
  omega
 unfold qoq
 rw [if_pos hlen,Option.bind_some]
 by_cases c7:SM.q1g 1 (unB (qc8 B a))=n14
 ·rw [decide_eq_true c7,Bool.not_true,cond_false,if_pos]
  exact hrP.2 ⟨c0,c1,c2,c3,c4,c5,c6,by rw [<-hrec,<-je0];exact c7⟩
 ·rw [decide_eq_false c7,Bool.not_false,cond_true,if_neg]
  intro h
  have h8:=(hrP.1 h).2.2.2.2.2.2.2
  rw [<-hrec,<-je0] at h8
  exact c7 h8
theorem qzh {B:List ByteArray} {e a:Nat} {g q:Int} (h:qga B e a g q):(qc8 B a).size<=4096:=by
 have hz:=qhi h.2.1
 have c6:=h.2.2.2.2.2.2.1
 unfold qc8 RM.qid
 rw [if_pos c6]
 unfold RM.qd9
 rw [RM.q4m,List.length_take]
 omega
def q3a (B:List ByteArray) (e:Nat) (g:Int):Nat->Nat->List ByteArray->List ByteArray×Nat
 | 0,a,its=>(its,a)
 | m+1,a,its=>if qga B e a g (its.length:Int) then q3a B e g m (a+1+(RM.q0v ((qc8 B a).size:Int)).toNat) (its ++ [qc8 B a]) else (its,a)
theorem q2c {B:List ByteArray} {e:Nat} {g:Int} (m a:Nat) (its:List ByteArray) (h : ¬ qga B e a g (its.length:Int)):q3a B e g m a its=(its,a):=by
 cases m with
 | zero=>rfl
 | succ m=>unfold q3a;rw [if_neg h]
theorem qd2 {B:List ByteArray} {e:Nat} {g:Int} : ∀(m k a:Nat) (its:List ByteArray),e - a<=m->e - a<=k->q3a B e g m a its=q3a B e g k a its
 | 0,k,a,its,h1,h2=>(q2c k a its (fun h=>absurd (show a<e from h.1) (by omega))).symm
 | m+1,0,a,its,h1,h2=>q2c (m+1) a its (fun h=>absurd (show a<e from h.1) (by omega))
 | m+1,k+1,a,its,h1,h2=>by
  unfold q3a
  split
  ·rename_i h
   have:=h.1
   exact qd2 m k _ _ (by omega) (by omega)
  ·rfl
theorem j5j (n:Nat) (B:List ByteArray) (f z:Nat) (g:Int) (h1:f+z<=512) (hB:f+z<=B.length) : ∀(m a:Nat) (its:List ByteArray),f+z - a<m->a<=1000->its.length<=a ->
  q72 n m (B.map unB) 0 0 (f:Int) (z:Int) (a:Int) g 0 (its.map unB)=some (((),((),((),()))),(((0:Int),((),(0:Int))),(((f:Int),((z:Int),(((q3a B (f+z) g (f+z - a) a its).2:Nat):Int))),((g,((),(0:Int))),()))),((q3a B (f+z) g (f+z - a) a its).1.map unB,())):=by
 intro m
 induction m with
 | zero=>intro a its h _ _;omega
 | succ m ihm =>
  intro a its hm ha hi
  rw [qf4]
  unfold qnq
  rw [List.length_map,jci n B f z a g (its.length:Int) h1 (by omega) hB,Option.bind_some]
  by_cases c:qga B (f+z) a g (its.length:Int)
  ·have hl:=qzh c
   have ha1:=c.1
   have hu:(unB (qc8 B a)).length=(qc8 B a).size:=q94 _
   have es : ∀m,q3a B (f+z) g (m+1) a its=q3a B (f+z) g m (a+1+(RM.q0v ((qc8 B a).size:Int)).toNat) (its ++ [qc8 B a]):=fun m=>by
    conv=>lhs;unfold q3a
    rw [if_pos c]
   rw [if_pos c]
   clear c
   generalize qc8 B a=x at *
   have eb:=qy7 n f z a (x.size:Int) (by omega) ⟨by omega,by omega⟩
   have hcz:=qgq (x.size:Int) ⟨by omega,by omega⟩
   have hk:(RM.q0v (x.size:Int)).toNat<=133:=by omega
   generalize (RM.q0v (x.size:Int)).toNat=k at *
   simp only [Bool.not_true,cond_false]
   rw [qkf (by simp;omega),Option.bind_some,hu,eb,Option.bind_some]
   simp only
   have ih:=ihm (a+1+k) (its ++ [x]) (by omega) (by omega) (by simp;omega)
   have e:q3a B (f+z) g (f+z - a) a its=q3a B (f+z) g (f+z - (a+1+k)) (a+1+k) (its ++ [x]):=by
    rw [show f+z - a=(f+z - a - 1)+1 from by omega,es]
    exact qd2 _ _ _ _ (by omega) (by omega)
   rw [e]
   rw [List.map_append] at ih
   exact ih
  ·rw [if_neg c,q2c _ a its c]
   simp only [Bool.not_false,cond_true]
end YthpgnliicpejoaaGreatDoor.AM
end Go.Proofs
namespace Go.Proofs
open Go.RowKit
set_option linter.unusedVariables false
set_option linter.unusedSimpArgs false
namespace YthpgnliicpejoaaGreatDoor.AM
abbrev BL:=List ByteArray
theorem q9r (B:BL) (a j:Nat) (x:ByteArray):gB (B.set a x) j=if a=j/\a<B.length then x else gB B j:=by
 unfold gB
 rw [List.getD_eq_getElem?_getD,List.getElem?_set]
 by_cases h:a=j
 ·subst h
  by_cases h2:a<B.length
  ·rw [if_pos rfl,if_pos h2,if_pos ⟨rfl,h2⟩];rfl
  ·rw [if_pos rfl,if_neg h2,if_neg (fun h=>h2 h.2)]
   rw [List.getD_eq_getElem?_getD,List.getElem?_eq_none (by omega)]
 ·rw [if_neg h,if_neg (fun h2=>h h2.1),<-List.getD_eq_getElem?_getD]
def alike (B X:BL) (lo e:Nat):Prop:=∀j,lo<=j->j<e->gB B j=gB X j
theorem j0n {B X:BL} {a c:Nat} (h1:a+c<=B.length) (h2:a+c<=X.length) (h:alike B X a (a+c)):(B.drop a).take c=(X.drop a).take c:=by
 apply List.ext_getElem
 ·simp only [List.length_take,List.length_drop];omega
 ·intro j h3 h4
  rw [List.length_take,List.length_drop] at h3
  rw [List.getElem_take,List.getElem_take,List.getElem_drop,List.getElem_drop]
  have:=h (a+j) (by omega) (by omega)
  rw [j1s (by omega),j1s (by omega)] at this
  exact this
theorem qm6 {B X:BL} {e a:Nat} {g q:Int} (hB:e<=B.length) (hX:e<=X.length) (h:qga B e a g q) (hal:alike B X a (a+1+(RM.q0v (RM.q0i (gB B a) 10)).toNat)):qga X e a g q/\qc8 X a=qc8 B a:=by
 have hend:a+1+(RM.q0v (RM.q0i (gB B a) 10)).toNat<=e:=h.2.2.2.2.2.1
 have e0:gB B a=gB X a:=hal a (Nat.le_refl _) (by omega)
 have e1:(B.drop (a+1)).take (RM.q0v (RM.q0i (gB B a) 10)).toNat=(X.drop (a+1)).take (RM.q0v (RM.q0i (gB B a) 10)).toNat:=j0n (by omega) (by omega) (fun j h1 h2=>hal j (by omega) (by omega))
 refine ⟨?_,?_⟩
 ·unfold qga;rw [<-e0,<-e1];exact h
 ·unfold qc8;rw [<-e0,<-e1]
theorem qyy {B:BL} {e a:Nat} {g q:Int} (h:qga B e a g q):((qc8 B a).size:Int)=RM.q0i (gB B a) 10:=(RM.qlc _ _ h.2.2.2.2.2.2.1).2.1
theorem jey {B:BL} {e a:Nat} {g q:Int} (h:qga B e a g q):a+1+(RM.q0v ((qc8 B a).size:Int)).toNat<=e:=by rw [qyy h];exact h.2.2.2.2.2.1
theorem q46 {B:BL} {e:Nat} {g:Int} (m a:Nat) (its:BL) (h:qga B e a g (its.length:Int)):q3a B e g (m+1) a its=q3a B e g m (a+1+(RM.q0v ((qc8 B a).size:Int)).toNat) (its ++ [qc8 B a]):=by
 conv=>lhs;unfold q3a
 rw [if_pos h]
theorem q8p {B:BL} {e:Nat} {g:Int} : ∀(m a:Nat) (its:BL),a<=(q3a B e g m a its).2
 | 0,a,its=>Nat.le_refl _
 | m+1,a,its=>by
  by_cases h:qga B e a g (its.length:Int)
  ·rw [q46 m a its h]
   have:=q8p (B:=B) (e:=e) (g:=g) m (a+1+(RM.q0v ((qc8 B a).size:Int)).toNat) (its ++ [qc8 B a])
   omega
  ·rw [q2c _ a its h];exact Nat.le_refl _
theorem qp3 {B:BL} {e:Nat} {g:Int} : ∀(m a:Nat) (its:BL),a<=e->(q3a B e g m a its).2<=e
 | 0,a,its,ha=>ha
 | m+1,a,its,ha=>by
  by_cases h:qga B e a g (its.length:Int)
  ·rw [q46 m a its h]
   exact qp3 m _ _ (jey h)
  ·rw [q2c _ a its h];exact ha
theorem qri {B:BL} {e:Nat} {g:Int} : ∀(m a:Nat) (its:BL),its.length<=a->(q3a B e g m a its).1.length<=(q3a B e g m a its).2
 | 0,a,its,ha=>ha
 | m+1,a,its,ha=>by
  by_cases h:qga B e a g (its.length:Int)
  ·rw [q46 m a its h]
   exact qri m _ _ (by simp only [List.length_append,List.length_cons,List.length_nil];omega)
  ·rw [q2c _ a its h];exact ha
theorem qgk {B:BL} {e:Nat} {g:Int} : ∀(m a:Nat) (its:BL),(∀x∈its,x.size<=4096)->∀x∈(q3a B e g m a its).1,x.size<=4096
 | 0,a,its,ha=>ha
 | m+1,a,its,ha=>by
  by_cases h:qga B e a g (its.length:Int)
  ·rw [q46 m a its h]
   refine qgk m _ _ (fun x hx=>?_)
   rcases List.mem_append.1 hx with h1|h1
   ·exact ha x h1
   ·obtain rfl:x=qc8 B a:=by simpa using h1
    exact qzh h
  ·rw [q2c _ a its h];exact ha
theorem qm4 {B:BL} {e:Nat} {g:Int} : ∀(m a:Nat) (its:BL),e - a<=m->¬ qga B e (q3a B e g m a its).2 g (((q3a B e g m a its).1.length:Nat):Int)
 | 0,a,its,hm=>fun h=>absurd (show a<e from h.1) (by omega)
 | m+1,a,its,hm=>by
  by_cases h:qga B e a g (its.length:Int)
  ·rw [q46 m a its h]
   have:=h.1
   exact qm4 m _ _ (by omega)
  ·rw [q2c _ a its h];exact h
theorem qaa {B X:BL} {e:Nat} {g:Int} (hB:e<=B.length) (hX:e<=X.length) : ∀(m a:Nat) (its:BL),e - a<=m->alike B X a (q3a B e g m a its).2 ->
  q3a X e g m a its=q3a X e g m (q3a B e g m a its).2 (q3a B e g m a its).1:=by
 intro m
 induction m with
 | zero=>intro a its hm hal;rfl
 | succ m ihm =>
  intro a its hm hal
  by_cases h:qga B e a g (its.length:Int)
  ·have e1:=q46 m a its h
   have hs:=qyy h
   have ha:a<e:=h.1
   have hxx:=fun hal'=>qm6 (X:=X) hB hX h hal'
   have e2:=fun hx=>q46 (B:=X) (e:=e) (g:=g) m a its hx
   rw [<-hs] at hxx
   rw [e1] at hal ⊢
   clear e1 hs
   obtain ⟨x,hx0⟩ : ∃ x,qc8 B a=x:=⟨_,rfl⟩
   rw [hx0] at hal hxx ⊢
   obtain ⟨k,hk⟩ : ∃ k,(RM.q0v (x.size:Int)).toNat=k:=⟨_,rfl⟩
   rw [hk] at hal hxx ⊢
   have hge:=q8p (B:=B) (e:=e) (g:=g) m (a+1+k) (its ++ [x])
   have ih:=ihm (a+1+k) (its ++ [x]) (by omega) (fun j h1 h2=>hal j (by omega) h2)
   obtain ⟨p,hp⟩ : ∃ p,q3a B e g m (a+1+k) (its ++ [x])=p:=⟨_,rfl⟩
   rw [hp] at hal hge ih ⊢
   obtain ⟨q1,q2⟩:=hxx (fun j h1 h2=>hal j h1 (by omega))
   rw [e2 q1,q2,hk,ih]
   exact qd2 m (m+1) _ _ (by omega) (by omega)
  ·rw [q2c _ a its h]
def bad (x:ByteArray) (g:Int) (q:Nat):Prop:=RM.q1v x/\RM.q2w x=2/\RM.q0i x 2=g/\(q:Int)<=RM.q0i x 6
instance (x:ByteArray) (g:Int) (q:Nat):Decidable (bad x g q):=by unfold bad;infer_instance
def q85 (B:BL) (lo e:Nat) (g:Int) (q:Nat):Prop:=∀j,j<e->lo<=j->¬ bad (gB B j) g q
instance (B:BL) (lo e:Nat) (g:Int) (q:Nat):Decidable (q85 B lo e g q):=by unfold q85;infer_instance
theorem j4z {X:BL} {e a:Nat} {g:Int} {q:Nat} (h:a<e->¬ bad (gB X a) g q) : ¬ qga X e a g (q:Int):=fun hr=>h hr.1 ⟨hr.2.1,hr.2.2.1,hr.2.2.2.1,by rw [hr.2.2.2.2.1];exact Int.le_refl _⟩
def q3k (B:BL) (f:Nat):Int:=(qi5 (gB B f)).2.1
def q9q (B:BL) (f:Nat):Prop:=gB B f=RM.q1a 1 (q3k B f) 0 0 1
instance (B:BL) (f:Nat):Decidable (q9q B f):=by unfold q9q;infer_instance
theorem q79 (B:BL) (f:Nat):0<=q3k B f/\q3k B f<=1073741824:=by
 unfold q3k qi5
 by_cases c:RM.q1v (gB B f)
 ·rw [if_pos c];exact c.2.1.2.1
 ·rw [if_neg c];exact ⟨Int.le_refl _,by decide⟩
theorem q9x {g:Int} (h:0<=g/\g<=1073741824):RM.may 1 g 0 0 1:=⟨Or.inl rfl,h,by decide,by decide,SM.j86⟩
theorem qgb {B:BL} {f:Nat} {g:Int} (h:0<=g/\g<=1073741824) (hb:gB B f=RM.q1a 1 g 0 0 1):q3k B f=g:=by
 have hm:=q9x h
 have h1:=(RM.qhv 1 g 0 0 1 hm).1
 obtain ⟨_,h2,_⟩:=RM.q88 1 g 0 0 1 hm
 unfold q3k qi5
 rw [hb,if_pos h1]
 show RM.q0i (RM.q1a 1 g 0 0 1) 2=g
 rw [RM.q52 _ _ _ _ _ hm];exact h2
def q3p (B:BL) (f z:Nat):BL×Nat:=q3a B (f+z) (q3k B f) (z - 1) (f+1) []
def qvl (B X:BL) (nx k:Nat) (p:ByteArray):Prop:=X.length=B.length/\∀j,gB X j=gB B j \/ ∃ i,i<k/\j=nx+1+i/\gB X j=RM.sec p i
def qrh (B X:BL) (nx k:Nat) (p h:ByteArray):Prop:=X.length=B.length/\(∀j,(j<nx\/nx+k<j)->gB X j=gB B j)/\gB X nx=h/\∀i,i<k->gB X (nx+1+i)=RM.sec p i
theorem jeu {B X:BL} {f z k:Nat} {p:ByteArray} (hz:1<=z) (hB:f+z<=B.length) (hcl:q85 B (q3p B f z).2 (f+z) (q3k B f) (q3p B f z).1.length) (h:qvl B X (q3p B f z).2 k p) :
  q3k X f=q3k B f/\(q9q B f->q9q X f)/\q3p X f z=q3p B f z/\q85 X (q3p X f z).2 (f+z) (q3k X f) (q3p X f z).1.length:=by
 obtain ⟨hl,ha⟩:=h
 have hge:f+1<=(q3p B f z).2:=q8p _ _ _
 have same : ∀j,j<=(q3p B f z).2->gB X j=gB B j:=fun j hj=>by
  rcases ha j with h|⟨i,_,h,_⟩
  ·exact h
  ·omega
 have e0:=same f (by omega)
 have eg:q3k X f=q3k B f:=by unfold q3k;rw [e0]
 have eo:q3p X f z=q3p B f z:=by
  have h1:=qaa (g:=q3k B f) hB (hl ▸ hB) (z - 1) (f+1) [] (by omega) (fun j h1 h2=>(same j (Nat.le_of_lt h2)).symm)
  unfold q3p at hcl same ⊢
  rw [eg,h1,q2c]
  apply j4z
  intro hlt
  rw [same _ (Nat.le_refl _)]
  exact hcl _ hlt (Nat.le_refl _)
 refine ⟨eg,fun hb=>?_,eo,?_⟩
 ·unfold q9q at hb ⊢;rw [eg,e0];exact hb
 ·rw [eo,eg]
  intro j h1 h2
  rcases ha j with h|⟨i,_,_,h⟩
  ·rw [h];exact hcl j h1 h2
  ·rw [h];exact fun hb=>RM.qes p i hb.1
theorem j31 {B X:BL} {f z:Nat} {p:ByteArray} (hz:1<=z) (hB:f+z<=B.length) (hcl:q85 B (q3p B f z).2 (f+z) (q3k B f) (q3p B f z).1.length) (hp:p.size<=4096) (hq:(q3p B f z).1.length<=65535)
  (hr:(q3p B f z).2+1+RM.q1d p<=f+z) (h:qrh B X (q3p B f z).2 (RM.q1d p) p (RM.q1a 2 (q3k B f) ((q3p B f z).1.length:Int) (p.size:Int) (SM.q1g 1 p.data.toList))) :
  q3k X f=q3k B f/\(q9q B f->q9q X f)/\q3p X f z=((q3p B f z).1 ++ [p],(q3p B f z).2+1+RM.q1d p)/\q85 X (q3p X f z).2 (f+z) (q3k X f) (q3p X f z).1.length:=by
 obtain ⟨hl,ha,hh,hs⟩:=h
 have hge:f+1<=(q3p B f z).2:=q8p _ _ _
 have e0:=ha f (Or.inl (by omega))
 have eg:q3k X f=q3k B f:=by unfold q3k;rw [e0]
 have hm:RM.may 2 (q3k B f) ((q3p B f z).1.length:Int) (p.size:Int) (SM.q1g 1 p.data.toList):=⟨Or.inr rfl,q79 B f,⟨by omega,by omega⟩,⟨by omega,by omega⟩,SM.q4v _ _⟩
 have hread:=(RM.qhv _ _ _ _ _ hm).1
 obtain ⟨n1,n2,n3,n4,n5⟩:=RM.q88 _ _ _ _ _ hm
 rw [<-RM.q52 _ _ _ _ _ hm] at n1 n2 n3 n4 n5
 rw [<-hh] at n1 n2 n3 n4 n5 hread
 have hck:(RM.q0v (p.size:Int)).toNat=RM.q1d p:=by rw [RM.q93 p hp];omega
 have ecut:(X.drop ((q3p B f z).2+1)).take (RM.q1d p)=RM.qew p:=by
  apply List.ext_getElem
  ·rw [List.length_take,List.length_drop,RM.q2y];omega
  ·intro i h1 h2
   rw [RM.q2y] at h2
   rw [List.getElem_take,List.getElem_drop]
   have:=hs i h2
   rw [j1s (by omega)] at this
   rw [this]
   simp [RM.qew]
 have erec:qga X (f+z) (q3p B f z).2 (q3k B f) ((q3p B f z).1.length:Int)/\qc8 X (q3p B f z).2=p:=by
  have eb:qc8 X (q3p B f z).2=p:=by
   unfold qc8
   rw [n4,hck,ecut];exact RM.qpu p hp
  refine ⟨⟨by omega,hread,n1,n2,n3,?_,?_,?_⟩,eb⟩
  ·rw [n4,hck];exact hr
  ·rw [n4,hck,ecut];exact RM.qlr p hp
  ·rw [n4,hck,ecut,n5,RM.qpu p hp]
 have hbad : ∀j,j<f+z->(q3p B f z).2+1+RM.q1d p<=j->¬ bad (gB X j) (q3k B f) (((q3p B f z).1 ++ [p]).length):=fun j h1 h2 hb=>by
  rw [ha j (Or.inr (by omega))] at hb
  refine hcl j h1 (by omega) ⟨hb.1,hb.2.1,hb.2.2.1,?_⟩
  have:=hb.2.2.2
  rw [List.length_append,List.length_cons,List.length_nil] at this
  omega
 have eo:q3p X f z=((q3p B f z).1 ++ [p],(q3p B f z).2+1+RM.q1d p):=by
  have h1:=qaa (g:=q3k B f) hB (hl ▸ hB) (z - 1) (f+1) [] (by omega) (fun j h1 h2=>(ha j (Or.inl h2)).symm)
  have hstep:=q46 (B:=X) (e:=f+z) (g:=q3k B f) (z - 2) (q3p B f z).2 (q3p B f z).1 erec.1
  rw [erec.2,hck,q2c _ _ _ (j4z (fun hlt=>hbad _ hlt (Nat.le_refl _))),show z - 2+1=z - 1 from by omega] at hstep
  show q3a X (f+z) (q3k X f) (z - 1) (f+1) []=_
  rw [eg,h1]
  exact hstep
 refine ⟨eg,fun hb=>?_,eo,?_⟩
 ·unfold q9q at hb ⊢;rw [eg,e0];exact hb
 ·rw [eo,eg]
  exact hbad
end YthpgnliicpejoaaGreatDoor.AM
end Go.Proofs
namespace Go.Proofs
open Go.RowKit
set_option linter.unusedVariables false
set_option linter.unusedSimpArgs false
namespace YthpgnliicpejoaaGreatDoor.AM
theorem qhw {s:ByteArray} (h:s.size=32):DM.q5b s=s:=by
 have hl:s.data.toList.length=32:=by simpa using h
 unfold DM.q5b RM.qfb
 rw [hl]
 simp only [Nat.sub_self,List.replicate_zero,List.append_nil]
 exact RM.qww s
theorem qb9 (d:DM.Dk) (l m:List DM.Ac):DM.runK d (l++m)=DM.runK (DM.runK d l) m:=by unfold DM.runK;rw [List.foldl_append]
theorem q4w (B:BL) : ∀(l:List DM.Ac) (c:List DM.Wr),(∀a∈l,a.1=false)->DM.runK ⟨B,c⟩ l=⟨B,c++l.map fun a=>(a.2.1,DM.q5b a.2.2)⟩
 | [],c,_=>by simp [DM.runK]
 | a::l,c,h=>by
  have ha:a.1=false:=h a (List.mem_cons_self ..)
  have e:DM.q6e ⟨B,c⟩ a=⟨B,c ++ [(a.2.1,DM.q5b a.2.2)]⟩:=by unfold DM.q6e DM.j2w;rw [ha];rfl
  show DM.runK (DM.q6e ⟨B,c⟩ a) l=_
  rw [e,q4w B l _ (fun b hb=>h b (List.mem_cons_of_mem _ hb)),List.map_cons,List.append_assoc];rfl
theorem qrl (keep:Nat->Bool) (B:BL) (c:List DM.Wr) : ∀(k:Nat),k<=c.length->∀j,gB (DM.q0k keep B c k) j=gB B j \/ ∃ p∈c,p.1.toNat=j/\gB (DM.q0k keep B c k) j=p.2
 | 0,_,j=>Or.inl rfl
 | k+1,hk,j=>by
  have ih:=qrl keep B c k (by omega) j
  unfold DM.q0k
  by_cases h:keep k=true
  ·rw [if_pos h,q9r]
   have hg:c.getD k (0,⟨#[]⟩)=c[k]:=by simp [List.getD,show k<c.length from hk]
   rw [hg]
   by_cases h2:(c[k].1.toNat=j/\c[k].1.toNat<(DM.q0k keep B c k).length)
   ·rw [if_pos h2];exact Or.inr ⟨c[k],List.getElem_mem _,h2.1,rfl⟩
   ·rw [if_neg h2];exact ih
  ·rw [if_neg h];exact ih
def j4b (nx:Nat) (p:ByteArray) (k:Nat):List DM.Wr:=(List.range k).map fun i=>(((nx+1+i:Nat):Int),RM.sec p i)
theorem qxf (nx:Nat) (p:ByteArray) (k:Nat):(j4b nx p k).length=k:=by unfold j4b;simp
theorem qli (B:BL) (nx k:Nat) (p:ByteArray) (hl:nx+k<B.length) : ∀i,i<=k->∀j,gB (DM.q0k (fun _=>true) B (j4b nx p k) i) j=if nx<j/\j<=nx+i then RM.sec p (j - nx - 1) else gB B j
 | 0,_,j=>by rw [if_neg (by omega)];rfl
 | i+1,hi,j=>by
  have ih:=qli B nx k p hl i (by omega) j
  have hg:(j4b nx p k).getD i (0,⟨#[]⟩)=(((nx+1+i:Nat):Int),RM.sec p i):=by
   rw [List.getD_eq_getElem?_getD,List.getElem?_eq_getElem (by rw [qxf];omega)]
   simp [j4b]
  unfold DM.q0k
  rw [if_pos rfl,q9r,hg,DM.q0z,ih,Int.toNat_natCast]
  by_cases h:nx+1+i=j
  ·rw [if_pos ⟨h,by omega⟩,if_pos ⟨by omega,by omega⟩,show j - nx - 1=i from by omega]
  ·rw [if_neg (fun h2=>h h2.1)]
   by_cases h2:nx<j/\j<=nx+i
   ·rw [if_pos h2,if_pos ⟨h2.1,by omega⟩]
   ·rw [if_neg h2,if_neg (fun h3=>h2 ⟨h3.1,by omega⟩)]
def qjn (nx:Nat) (p:ByteArray) (k:Nat):List DM.Ac:=(List.range k).map fun i=>(false,((nx+1+i:Nat):Int),RM.sec p i)
def flA:DM.Ac:=(true,0,⟨#[]⟩)
def q9y (nx:Nat) (p h:ByteArray):List DM.Ac:=qjn nx p (RM.q1d p) ++ [flA,(false,(nx:Int),h),flA]
theorem q6t (nx:Nat) (p:ByteArray) (k:Nat):(qjn nx p k).length=k:=by unfold qjn;simp
theorem q8n (nx:Nat) (p h:ByteArray):(q9y nx p h).length=RM.q1d p+3:=by unfold q9y;rw [List.length_append,q6t];rfl
theorem qlt (nx:Nat) (p:ByteArray) (k:Nat) : ∀a∈qjn nx p k,a.1=false:=fun a ha=>by
 obtain ⟨i,_,rfl⟩:=List.mem_map.1 ha;rfl
theorem qxv (nx:Nat) (p:ByteArray) (k:Nat):((qjn nx p k).map fun a=>(a.2.1,DM.q5b a.2.2))=j4b nx p k:=by
 unfold qjn j4b
 rw [List.map_map]
 exact List.map_congr_left fun i _=>by simp only [Function.comp,qhw (RM.qbm p i)]
theorem qo5 {n nx:Nat} {p h:ByteArray} (hl:nx+RM.q1d p<n) (hh:h.size=32) : ∀a∈q9y nx p h,DM.q3t n a:=fun a ha=>by
 rcases List.mem_append.1 ha with h1|h1
 ·obtain ⟨i,hi,rfl⟩:=List.mem_map.1 h1
  have:=List.mem_range.1 hi
  refine Or.inr ?_
  unfold DM.q1y
  rw [if_pos (show DM.inD n ((nx+1+i:Nat):Int) from ⟨by omega,by omega⟩),if_neg (by simp only [RM.qbm];omega)]
 ·simp only [List.mem_cons,List.not_mem_nil,or_false] at h1
  rcases h1 with rfl|rfl|rfl
  ·exact Or.inl rfl
  ·refine Or.inr ?_
   unfold DM.q1y
   rw [if_pos ⟨by simp only;omega,by simp only;omega⟩,if_neg (by simp only [hh];omega)]
  ·exact Or.inl rfl
theorem qyl {d:DM.Dk} {l:List DM.Ac} (hm:DM.q2e d) (h : ∀a∈l,DM.q3t d.secs.length a):DM.qma d l=0/\DM.qw9 d l=DM.runK d l/\DM.q2e (DM.runK d l):=by
 have h1:=DM.qe7 _ _ h
 refine ⟨?_,?_,DM.qe6 hm h⟩
 ·unfold DM.qma;rw [if_pos hm,h1]
 ·unfold DM.qw9;rw [if_pos ⟨hm,h1⟩]
theorem qh4 {B S:BL} {nx:Nat} {p h:ByteArray} (hl:nx+RM.q1d p<B.length) (hS:S.length=B.length) (hs : ∀j,gB S j=if nx<j/\j<=nx+RM.q1d p then RM.sec p (j - nx - 1) else gB B j):qrh B (S.set nx h) nx (RM.q1d p) p h:=by
 refine ⟨by rw [List.length_set];exact hS,fun j hj=>?_,?_,fun i hi=>?_⟩
 ·rw [q9r,if_neg (by omega),hs,if_neg (by omega)]
 ·rw [q9r,if_pos ⟨rfl,by omega⟩]
 ·rw [q9r,if_neg (by omega),hs,if_pos (by omega)]
  congr 1;omega
theorem qaw {B S:BL} {nx:Nat} {p:ByteArray} (hS:S.length=B.length) (hs : ∀j,gB S j=if nx<j/\j<=nx+RM.q1d p then RM.sec p (j - nx - 1) else gB B j):qvl B S nx (RM.q1d p) p:=by
 refine ⟨hS,fun j=>?_⟩
 by_cases h:nx<j/\j<=nx+RM.q1d p
 ·refine Or.inr ⟨j - nx - 1,by omega,by omega,?_⟩
  rw [hs,if_pos h]
 ·refine Or.inl ?_
  rw [hs,if_neg h]
theorem qhz (B:BL) (nx:Nat) (p h:ByteArray) (N:Nat) (keep:Nat->Bool) (hl:nx+RM.q1d p<B.length) (hh:h.size=32) :
  ∃ X,DM.q1c keep (DM.runK ⟨B,[]⟩ ((q9y nx p h).take N))=⟨X,[]⟩/\(N<=RM.q1d p+1->qvl B X nx (RM.q1d p) p)/\(RM.q1d p+3<=N->qrh B X nx (RM.q1d p) p h)/\(qvl B X nx (RM.q1d p) p\/qrh B X nx (RM.q1d p) p h) /\
   (RM.q1d p+3<=N->DM.runK ⟨B,[]⟩ ((q9y nx p h).take N)=⟨X,[]⟩):=by
 obtain ⟨S,hSd⟩ : ∃ S,DM.q0k (fun _=>true) B (j4b nx p (RM.q1d p)) (RM.q1d p)=S:=⟨_,rfl⟩
 have hS:S.length=B.length:=by rw [<-hSd,DM.q0z]
 have hs:=qli B nx (RM.q1d p) p hl (RM.q1d p) (Nat.le_refl _)
 rw [hSd] at hs
 have e1:DM.runK ⟨B,[]⟩ (qjn nx p (RM.q1d p) ++ [flA])=⟨S,[]⟩:=by
  rw [qb9,q4w B _ _ (qlt nx p (RM.q1d p)),List.nil_append,qxv]
  show DM.q1c _ _=_
  unfold DM.q1c
  simp only [qxf]
  rw [hSd]
 by_cases c1:N<=RM.q1d p
 ·have et:(q9y nx p h).take N=(qjn nx p (RM.q1d p)).take N:=by unfold q9y;rw [List.take_append_of_le_length (by rw [q6t];exact c1)]
  have hA:qvl B (DM.q0k keep B ((j4b nx p (RM.q1d p)).take N) ((j4b nx p (RM.q1d p)).take N).length) nx (RM.q1d p) p:=by
   refine ⟨DM.q0z ..,fun j=>?_⟩
   rcases qrl keep B ((j4b nx p (RM.q1d p)).take N) _ (Nat.le_refl _) j with h1|⟨q,hq,h2,h3⟩
   ·exact Or.inl h1
   ·obtain ⟨i,hi,rfl⟩:=List.mem_map.1 (List.mem_of_mem_take hq)
    exact Or.inr ⟨i,List.mem_range.1 hi,by rw [<-h2];exact Int.toNat_natCast _,h3⟩
  refine ⟨_,?_,fun _=>hA,fun h=>by omega,Or.inl hA,fun h=>by omega⟩
  rw [et,q4w B _ _ (fun a ha=>qlt _ _ _ a (List.mem_of_mem_take ha)),List.nil_append,List.map_take,qxv]
  rfl
 ·by_cases c2:N=RM.q1d p+1
  ·have et:(q9y nx p h).take N=qjn nx p (RM.q1d p) ++ [flA]:=by
    subst c2;unfold q9y
    rw [show RM.q1d p+1=(qjn nx p (RM.q1d p)).length+1 from by rw [q6t],List.take_length_add_append];rfl
   rw [et,e1]
   exact ⟨S,rfl,fun _=>qaw hS hs,fun h=>by omega,Or.inl (qaw hS hs),fun h=>by omega⟩
  ·by_cases c3:N=RM.q1d p+2
   ·have et:(q9y nx p h).take N=(qjn nx p (RM.q1d p) ++ [flA]) ++ [(false,(nx:Int),h)]:=by
     subst c3;unfold q9y
     rw [show RM.q1d p+2=(qjn nx p (RM.q1d p)).length+2 from by rw [q6t],List.take_length_add_append,List.append_assoc];rfl
    have er:DM.runK ⟨B,[]⟩ ((qjn nx p (RM.q1d p) ++ [flA]) ++ [(false,(nx:Int),h)])=⟨S,[((nx:Int),h)]⟩:=by
     rw [qb9,e1,q4w S _ _ (fun a ha=>by obtain rfl:a=_:=List.mem_singleton.1 ha;rfl)]
     simp only [List.map_cons,List.map_nil,List.nil_append,qhw hh]
    rw [et,er]
    by_cases hk:keep 0=true
    ·refine ⟨S.set nx h,?_,fun h=>by omega,fun h=>by omega,Or.inr (qh4 hl hS hs),fun h=>by omega⟩
     show DM.Dk.mk (DM.q0k keep S [((nx:Int),h)] 1) []=_
     unfold DM.q0k DM.q0k
     rw [if_pos hk];rfl
    ·refine ⟨S,?_,fun _=>qaw hS hs,fun h=>by omega,Or.inl (qaw hS hs),fun h=>by omega⟩
     show DM.Dk.mk (DM.q0k keep S [((nx:Int),h)] 1) []=_
     unfold DM.q0k DM.q0k
     rw [if_neg hk]
   ·have et:(q9y nx p h).take N=(qjn nx p (RM.q1d p) ++ [flA]) ++ [(false,(nx:Int),h),flA]:=by
     rw [List.take_of_length_le (by rw [q8n];omega)]
     unfold q9y;rw [List.append_assoc];rfl
    have er:DM.runK ⟨B,[]⟩ ((qjn nx p (RM.q1d p) ++ [flA]) ++ [(false,(nx:Int),h),flA])=⟨S.set nx h,[]⟩:=by
     rw [qb9,e1]
     show DM.q1c (fun _=>true) ⟨S,[] ++ [((nx:Int),DM.q5b h)]⟩=_
     rw [qhw hh]
     show DM.Dk.mk (DM.q0k (fun _=>true) S [((nx:Int),h)] 1) []=_
     unfold DM.q0k DM.q0k
     rw [if_pos rfl];rfl
    rw [et,er]
    exact ⟨S.set nx h,rfl,fun h=>by omega,fun _=>qh4 hl hS hs,Or.inr (qh4 hl hS hs),fun _=>rfl⟩
end YthpgnliicpejoaaGreatDoor.AM
end Go.Proofs
