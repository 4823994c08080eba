
import Derived.Test.YthpgnliicpejoaaGreatDoorVu19
import Derived.Test.YthpgnliicpejoaaGreatDoorVu5
import Derived.Test.YthpgnliicpejoaaGreatDoorVu18
import Derived.Test.YthpgnliicpejoaaGreatDoorVu10
namespace Go.Proofs.YthpgnliicpejoaaGreatDoor.AM
open Go.RowKit
set_option linter.unusedVariables false
set_option maxRecDepth 20000
def qxq (n:Nat):List LC:=[]
def qla (n:Nat) (a1:Int×(Int)):Option (Bool) :=
 (bif decide ((0:Int)<=a1.1) then (bif decide ((2:Int)<=a1.2) then q0n (IntKind.wrap .i64 ((512:Int) - a1.1)) fun (n1:Int)=>some (decide (a1.2<=n1)) else some false) else some false)
def qay (n:Nat):FC:={ f:=85,args:=[.one (.agg [.d (.int .i64),.d (.int .i64)])],res:=.one (.c (.d .bool)),F:=fun p=>qla n p }
def j3p (n:Nat):List FC:=[]
theorem j7g (n:Nat) {G:World->Prop} (hG:Know Inv G) : ∀c∈j3p n,q3s Tryz.prog G c/\q1j c.args=true:=(fun _ h=>by cases h)
def ja1:q1h:=[]
theorem jg9:drB ja1 (q0b Tryz.f85)=true:=by kernel_rfl
theorem jhj (n:Nat) : ∀a,(qay n).F a=main Tryz.prog 19 (j3p n) (qxq n) ja1 (q0b Tryz.f85) [.tmp 2] (qay n).args (qay n).res a:=by intro a;kernel_rfl
theorem qv0 (n:Nat):q18 Inv Tryz.prog (qay n):=fun G hG=>⟨⟨by kernel_rfl,fun a r h=>q0u (c:=q0b Tryz.f85) Tryz.func85 (by kernel_rfl) (by kernel_rfl) (Nat.le_of_ble_eq_true (by kernel_rfl)) hG.st (by kernel_rfl) (rs:=[.tmp 2]) (by kernel_rfl) (j7g n hG) (lts:=qxq n) (fun F hF hFG=>have hK:Know Inv F.G:=hFG ▸ hG;(q0r fun j L h1 h2 h3=>absurd h2 (Nat.not_lt.2 (Nat.le_trans (by decide +kernel) h1)))) jg9 ((jhj n a).symm.trans h)⟩,rfl⟩
def qsi (n:Nat):List LC:=[]
def qb4 (n:Nat) (a1:Int×(Int×(Int))):Option (Int) :=
 q0n (IntKind.wrap .i64 (a1.1+a1.2.1)) fun (n1:Int)=>q0n (IntKind.wrap .i64 (n1 - a1.2.2)) fun (n2:Int)=>some n2
def q79 (n:Nat):FC:={ f:=76,args:=[.one (.agg [.d (.int .i64),.d (.int .i64),.d (.int .i64)])],res:=.one (.c (.d (.int .i64))),F:=fun p=>qb4 n p }
def qy9 (n:Nat):List FC:=[]
theorem j21 (n:Nat) {G:World->Prop} (hG:Know Inv G) : ∀c∈qy9 n,q3s Tryz.prog G c/\q1j c.args=true:=(fun _ h=>by cases h)
def j00:q1h:=[]
theorem jba:drB j00 (q0b Tryz.f76)=true:=by kernel_rfl
theorem jaf (n:Nat) : ∀a,(q79 n).F a=main Tryz.prog 13 (qy9 n) (qsi n) j00 (q0b Tryz.f76) [.tmp 2] (q79 n).args (q79 n).res a:=by intro a;kernel_rfl
theorem qor (n:Nat):q18 Inv Tryz.prog (q79 n):=fun G hG=>⟨⟨by kernel_rfl,fun a r h=>q0u (c:=q0b Tryz.f76) Tryz.func76 (by kernel_rfl) (by kernel_rfl) (Nat.le_of_ble_eq_true (by kernel_rfl)) hG.st (by kernel_rfl) (rs:=[.tmp 2]) (by kernel_rfl) (j21 n hG) (lts:=qsi n) (fun F hF hFG=>have hK:Know Inv F.G:=hFG ▸ hG;(q0r fun j L h1 h2 h3=>absurd h2 (Nat.not_lt.2 (Nat.le_trans (by decide +kernel) h1)))) jba ((jaf n a).symm.trans h)⟩,rfl⟩
def qzm (n:Nat):List LC:=[]
def qqb (n:Nat) (a1:Int×(Int×(Int))) (a2:Int):Option (Int×(Int×(Int))) :=
 (q7n a2).bind fun (r1:Int)=>q0n (IntKind.wrap .i64 ((1:Int)+r1)) fun (n2:Int)=>q0n (IntKind.wrap .i64 (a1.2.2+n2)) fun (n3:Int)=>some (a1.1,(a1.2.1,n3))
def qe6 (n:Nat):FC:={ f:=121,args:=[.one (.agg [.d (.int .i64),.d (.int .i64),.d (.int .i64)]),.one (.c (.d (.int .i64)))],res:=.one (.agg [.d (.int .i64),.d (.int .i64),.d (.int .i64)]),F:=fun p=>qqb n p.1 p.2 }
def j4a (n:Nat):List FC:=[qcz]
theorem j4c (n:Nat) {G:World->Prop} (hG:Know Inv G) : ∀c∈j4a n,q3s Tryz.prog G c/\q1j c.args=true:=List.forall_mem_cons.2 ⟨qiv G hG,(fun _ h=>by cases h)⟩
def j84:q1h:=[(1,[⟨196800,32768,0⟩,⟨1605760,2^18,1⟩,⟨12582920,2^21,0⟩,⟨49*2^21,2^24,4⟩,⟨49*2^24,2^27,12⟩,⟨6576930816,2^30,31⟩,⟨51539607744,2^33,63⟩,⟨9663676544,128,127⟩]),(1000001,[])]
theorem jfr:drB j84 (q0b Tryz.f121)=true:=by kernel_rfl
theorem jgo (n:Nat) : ∀a,(qe6 n).F a=main Tryz.prog 13 (j4a n) (qzm n) j84 (q0b Tryz.f121) [.cell 4 140] (qe6 n).args (qe6 n).res a:=by intro a;kernel_rfl
theorem j7i (n:Nat):q18 Inv Tryz.prog (qe6 n):=fun G hG=>⟨⟨by kernel_rfl,fun a r h=>q0u (c:=q0b Tryz.f121) Tryz.func121 (by kernel_rfl) (by kernel_rfl) (Nat.le_of_ble_eq_true (by kernel_rfl)) hG.st (by kernel_rfl) (rs:=[.cell 4 140]) (by kernel_rfl) (j4c n hG) (lts:=qzm n) (fun F hF hFG=>have hK:Know Inv F.G:=hFG ▸ hG;(q0r fun j L h1 h2 h3=>absurd h2 (Nat.not_lt.2 (Nat.le_trans (by decide +kernel) h1)))) jfr ((jgo n a).symm.trans h)⟩,rfl⟩
def qyq (n:Nat):List LC:=[]
def qr5 (n:Nat) (a1:Int×(Int×(Int))):Option (Bool) :=
 (qla n (a1.1,a1.2.1)).bind fun (r1:Bool)=>(bif r1 then (bif decide (a1.1<a1.2.2) then q0n (IntKind.wrap .i64 (a1.1+a1.2.1)) fun (n2:Int)=>some (decide (a1.2.2<=n2)) else some false) else some false)
def qdq (n:Nat):FC:={ f:=75,args:=[.one (.agg [.d (.int .i64),.d (.int .i64),.d (.int .i64)])],res:=.one (.c (.d .bool)),F:=fun p=>qr5 n p }
def j3y (n:Nat):List FC:=[qay n]
theorem j74 (n:Nat) {G:World->Prop} (hG:Know Inv G) : ∀c∈j3y n,q3s Tryz.prog G c/\q1j c.args=true:=List.forall_mem_cons.2 ⟨qv0 n G hG,(fun _ h=>by cases h)⟩
def j7r:q1h:=[]
theorem jg5:drB j7r (q0b Tryz.f75)=true:=by kernel_rfl
theorem jgd (n:Nat) : ∀a,(qdq n).F a=main Tryz.prog 26 (j3y n) (qyq n) j7r (q0b Tryz.f75) [.tmp 2] (qdq n).args (qdq n).res a:=by intro a;kernel_rfl
theorem j3v (n:Nat):q18 Inv Tryz.prog (qdq n):=fun G hG=>⟨⟨by kernel_rfl,fun a r h=>q0u (c:=q0b Tryz.f75) Tryz.func75 (by kernel_rfl) (by kernel_rfl) (Nat.le_of_ble_eq_true (by kernel_rfl)) hG.st (by kernel_rfl) (rs:=[.tmp 2]) (by kernel_rfl) (j74 n hG) (lts:=qyq n) (fun F hF hFG=>have hK:Know Inv F.G:=hFG ▸ hG;(q0r fun j L h1 h2 h3=>absurd h2 (Nat.not_lt.2 (Nat.le_trans (by decide +kernel) h1)))) jg5 ((jgd n a).symm.trans h)⟩,rfl⟩
def qtd (n:Nat):List LC:=[]
def qap (n:Nat) (a1:Int) (a2:Int) (a3:Int) (a4:List UInt8):Option ((List UInt8)×(Bool)) :=
 (qvt a1 a2 a3 a4).bind fun (r1:(Int×(Int×(Int×(Int×(Int)))))×(Bool))=>(bif !r1.2 then some (([]:List UInt8),false) else (qvs r1.1).bind fun (r2:(List UInt8)×(Bool))=>some r2)
def q3h (n:Nat):FC:={ f:=78,args:=[.one (.c (.d (.int .i64))),.one (.c (.d (.int .i64))),.one (.c (.d (.int .i64))),.one (.c (.d .str))],res:=.tup [.c (.d .str),.c (.d .bool)],F:=fun p=>qap n p.1 p.2.1 p.2.2.1 p.2.2.2 }
def j0a (n:Nat):List FC:=[qxf,qzc]
theorem j2i (n:Nat) {G:World->Prop} (hG:Know Inv G) : ∀c∈j0a n,q3s Tryz.prog G c/\q1j c.args=true:=List.forall_mem_cons.2 ⟨jca G hG,List.forall_mem_cons.2 ⟨jdk G hG,(fun _ h=>by cases h)⟩⟩
def j0k:q1h:=[]
theorem jbz:drB j0k (q0b Tryz.f78)=true:=by kernel_rfl
theorem jcc (n:Nat) : ∀a,(q3h n).F a=main Tryz.prog 26 (j0a n) (qtd n) j0k (q0b Tryz.f78) [.tmp 8,.tmp 9] (q3h n).args (q3h n).res a:=by intro a;kernel_rfl
theorem qg3 (n:Nat):q18 Inv Tryz.prog (q3h n):=fun G hG=>⟨⟨by kernel_rfl,fun a r h=>q0u (c:=q0b Tryz.f78) Tryz.func78 (by kernel_rfl) (by kernel_rfl) (Nat.le_of_ble_eq_true (by kernel_rfl)) hG.st (by kernel_rfl) (rs:=[.tmp 8,.tmp 9]) (by kernel_rfl) (j2i n hG) (lts:=qtd n) (fun F hF hFG=>have hK:Know Inv F.G:=hFG ▸ hG;(q0r fun j L h1 h2 h3=>absurd h2 (Nat.not_lt.2 (Nat.le_trans (by decide +kernel) h1)))) jbz ((jcc n a).symm.trans h)⟩,rfl⟩
def qz8 (n:Nat):List LC:=[]
def qxa (n:Nat) (a1:(List (List UInt8))×(List ((Int)×(List UInt8)))) (a2:Int×(Int)):Option ((List (List UInt8))×(Bool)) :=
 (qla n a2).bind fun (r1:Bool)=>(bif !r1 then some ([],false) else (qwf a1).bind fun (r2:((List (List UInt8))×(List ((Int)×(List UInt8))))×(Int))=>(bif !decide (r2.2=(0:Int)) then some ([],false) else q0n (IntKind.wrap .i64 (a2.1+a2.2)) fun (n3:Int)=>(bif decide (((List.length r2.1.1:Nat):Int)<n3) then some ([],false) else some (r2.1.1,true))))
def qho (n:Nat):FC:={ f:=118,args:=[.one (.agg [.d (.lst .str),.d (.lst (.prod (.int .i64) .str))]),.one (.agg [.d (.int .i64),.d (.int .i64)])],res:=.tup [.c (.d (.lst .str)),.c (.d .bool)],F:=fun p=>qxa n p.1 p.2 }
def j5v (n:Nat):List FC:=[qay n,qxc]
theorem j63 (n:Nat) {G:World->Prop} (hG:Know Inv G) : ∀c∈j5v n,q3s Tryz.prog G c/\q1j c.args=true:=List.forall_mem_cons.2 ⟨qv0 n G hG,List.forall_mem_cons.2 ⟨jdf G hG,(fun _ h=>by cases h)⟩⟩
def j9p:q1h:=[]
theorem jh8:drB j9p (q0b Tryz.f118)=true:=by kernel_rfl
theorem jh3 (n:Nat) : ∀a,(qho n).F a=main Tryz.prog 31 (j5v n) (qz8 n) j9p (q0b Tryz.f118) [.tmp 4,.tmp 5] (qho n).args (qho n).res a:=by intro a;kernel_rfl
theorem jfi (n:Nat):q18 Inv Tryz.prog (qho n):=fun G hG=>⟨⟨by kernel_rfl,fun a r h=>q0u (c:=q0b Tryz.f118) Tryz.func118 (by kernel_rfl) (by kernel_rfl) (Nat.le_of_ble_eq_true (by kernel_rfl)) hG.st (by kernel_rfl) (rs:=[.tmp 4,.tmp 5]) (by kernel_rfl) (j63 n hG) (lts:=qz8 n) (fun F hF hFG=>have hK:Know Inv F.G:=hFG ▸ hG;(q0r fun j L h1 h2 h3=>absurd h2 (Nat.not_lt.2 (Nat.le_trans (by decide +kernel) h1)))) jh8 ((jh3 n a).symm.trans h)⟩,rfl⟩
def j01 (n:Nat):List LC:=[]
def j0j (n:Nat) (a1:Int×(Int×(Int))) (a2:List (List UInt8)) (a3:Int) (a4:Int):Option ((List UInt8)×(Bool)) :=
 (qb4 n a1).bind fun (r1:Int)=>(bif decide (r1<(1:Int)) then some (([]:List UInt8),false) else (q1a a2 a1.2.2).bind fun (x2:List UInt8)=>(qit x2).bind fun (r3:(Int×(Int×(Int×(Int×(Int)))))×(Bool))=>(bif !r3.2 then some (([]:List UInt8),false) else (bif !decide (r3.1.1=(2:Int)) then some (([]:List UInt8),false) else (bif !decide (r3.1.2.1=a3) then some (([]:List UInt8),false) else (bif !decide (r3.1.2.2.1=a4) then some (([]:List UInt8),false) else (qqb n a1 r3.1.2.2.2.1).bind fun (r4:Int×(Int×(Int)))=>(qb4 n r4).bind fun (r5:Int)=>(bif decide (r5<(0:Int)) then some (([]:List UInt8),false) else q0n (IntKind.wrap .i64 (a1.2.2+(1:Int))) fun (n6:Int)=>(q4i a2 n6 r4.2.2).bind fun (s7:List (List UInt8))=>(qvy s7 r3.1.2.2.2.1).bind fun (r8:(List UInt8)×(Bool))=>(bif !r8.2 then some (([]:List UInt8),false) else (qmz r8.1).bind fun (r9:Int)=>(bif !decide (r9=r3.1.2.2.2.2) then some (([]:List UInt8),false) else some (r8.1,true)))))))))
def qhk (n:Nat):FC:={ f:=120,args:=[.one (.agg [.d (.int .i64),.d (.int .i64),.d (.int .i64)]),.one (.c (.d (.lst .str))),.one (.c (.d (.int .i64))),.one (.c (.d (.int .i64)))],res:=.tup [.c (.d .str),.c (.d .bool)],F:=fun p=>j0j n p.1 p.2.1 p.2.2.1 p.2.2.2 }
def j3s (n:Nat):List FC:=[q79 n,qnh,qe6 n,qzt,qrl]
theorem j72 (n:Nat) {G:World->Prop} (hG:Know Inv G) : ∀c∈j3s n,q3s Tryz.prog G c/\q1j c.args=true:=List.forall_mem_cons.2 ⟨qor n G hG,List.forall_mem_cons.2 ⟨qyp G hG,List.forall_mem_cons.2 ⟨j7i n G hG,List.forall_mem_cons.2 ⟨jd5 G hG,List.forall_mem_cons.2 ⟨j45 G hG,(fun _ h=>by cases h)⟩⟩⟩⟩⟩
def j7o:q1h:=[(9,[⟨4384504911992708754611054498148849058967797628936,2^159,0⟩,⟨35076039295941670036888435985190792471742381043712,2^162,0⟩,⟨286454320916856971967922227212391471852562778431488,2^165,2⟩,⟨49*2^165,2^168,6⟩,⟨261336857795280739939871698507597986398211*2^36,2^171,0⟩,⟨1067125502664063021421142768906025111126017*2^37,2^174,16⟩,⟨1606145*2^159,2^177,63⟩,⟨8563486156235759286349715816696970818296479747*2^30,2^180,0⟩,⟨34967568471296017085928006251512630841377292289*2^31,2^183,128⟩,⟨3137*2^177,2^186,511⟩,⟨536870915*2^157,2^156,1023⟩,⟨51539607553*2^156,2^189,2047⟩,⟨412316860417*2^156,2^192,2047⟩,⟨713623846352979940529142984724747568191373315*2^40,2^39,4095⟩,⟨365375409332725729550921208179070754913983135747*2^34,2^33,16383⟩]),(10,[⟨35076039295941670036888435985190792471742381031425*2^33,2^195,0⟩,⟨49*2^195,2^198,1⟩,⟨49*2^198,2^201,3⟩,⟨286454320916856971967922227212391471852562778423297*2^39,2^204,7⟩,⟨393*2^201,2^207,15⟩,⟨9197966400548586839326563309439258049336690082949627907*2^30,2^210,7⟩,⟨37547637328890903874367742738451276472471236168422260737*2^31,2^213,39⟩,⟨200769*2^201,2^216,127⟩,⟨1605633*2^201,2^219,255⟩]),(1000010,[])]
theorem jgm:drB j7o (q0b Tryz.f120)=true:=by kernel_rfl
theorem jhi (n:Nat) : ∀a,(qhk n).F a=main Tryz.prog 75 (j3s n) (j01 n) j7o (q0b Tryz.f120) [.tmp 8,.tmp 9] (qhk n).args (qhk n).res a:=by intro a;kernel_rfl
theorem jez (n:Nat):q18 Inv Tryz.prog (qhk n):=fun G hG=>⟨⟨by kernel_rfl,fun a r h=>q0u (c:=q0b Tryz.f120) Tryz.func120 (by kernel_rfl) (by kernel_rfl) (Nat.le_of_ble_eq_true (by kernel_rfl)) hG.st (by kernel_rfl) (rs:=[.tmp 8,.tmp 9]) (by kernel_rfl) (j72 n hG) (lts:=j01 n) (fun F hF hFG=>have hK:Know Inv F.G:=hFG ▸ hG;(q0r fun j L h1 h2 h3=>absurd h2 (Nat.not_lt.2 (Nat.le_trans (by decide +kernel) h1)))) jgm ((jhi n a).symm.trans h)⟩,rfl⟩
@[reducible] def qbt:SSt:=⟨[(4,.one (.c (.box 4 0))),(6,.one (.c (.d (.lst .str)))),(13,.one (.c (.box 13 0))),(14,.one (.c (.box 14 0)))],[(4,(77,[.d (.int .i64),.nil,.d (.int .i64)])),(13,(140,[.d (.int .i64),.d (.int .i64),.d (.int .i64)])),(14,(77,[.d (.int .i64),.row 75,.d (.int .i64)]))],[(75,⟨9,true,.str⟩)]⟩
@[reducible] def q6x:List (Exit×SSt):=[(.exit 0,⟨[(4,.one (.c (.box 4 0))),(13,.one (.c (.box 13 0))),(14,.one (.c (.box 14 0)))],[(4,(77,[.d (.int .i64),.nil,.d (.int .i64)])),(13,(140,[.d (.int .i64),.d (.int .i64),.d (.int .i64)])),(14,(77,[.d (.int .i64),.row 75,.d (.int .i64)]))],[(75,⟨9,true,.str⟩)]⟩)]
def qpm (n:Nat) (rec:(List (List UInt8))->Int->Int->Int->Int->Int->Int->Int->(List (List UInt8))->Option ((Unit×(Unit×(Unit×(Unit))))×((Int×(Unit×(Int)))×((Int×(Int×(Int)))×((Int×(Unit×(Int)))×(Unit))))×((List (List UInt8))×(Unit)))) (a1:List (List UInt8)) (a2:Int) (a3:Int) (a4:Int) (a5:Int) (a6:Int) (a7:Int) (a8:Int) (a9:List (List UInt8)):Option ((Unit×(Unit×(Unit×(Unit))))×((Int×(Unit×(Int)))×((Int×(Int×(Int)))×((Int×(Unit×(Int)))×(Unit))))×((List (List UInt8))×(Unit))) :=
 (j0j n (a4,(a5,a6)) a1 a7 ((List.length a9:Nat):Int)).bind fun (r6:(List UInt8)×(Bool))=>(bif !r6.2 then some ((((),((),((),()))),(((a2,((),a3)),((a4,(a5,a6)),((a7,((),a8)),()))),(a9,())))) else (q3k 16 a9 ([r6.1]:List (List UInt8))).bind fun (l7:List (List UInt8))=>(qqb n (a4,(a5,a6)) ((List.length r6.1:Nat):Int)).bind fun (r8:Int×(Int×(Int)))=>rec a1 a2 a3 r8.1 r8.2.1 r8.2.2 a7 a8 l7)
def qok (n:Nat) (rec:pSt qbt->Option (q1m q6x)) (p:pSt qbt):Option (q1m q6x):=qpm n (fun a1 a2 a3 a4 a5 a6 a7 a8 a9=>rec (((),(a1,((),((),())))),(((a2,((),a3)),((a4,(a5,a6)),((a7,((),a8)),()))),(a9,())))) p.1.2.1 p.2.1.1.1 p.2.1.1.2.2 p.2.1.2.1.1 p.2.1.2.1.2.1 p.2.1.2.1.2.2 p.2.1.2.2.1.1 p.2.1.2.2.1.2.2 p.2.2.1
def q7q (n m:Nat) (a1:List (List UInt8)) (a2:Int) (a3:Int) (a4:Int) (a5:Int) (a6:Int) (a7:Int) (a8:Int) (a9:List (List UInt8)):Option ((Unit×(Unit×(Unit×(Unit))))×((Int×(Unit×(Int)))×((Int×(Int×(Int)))×((Int×(Unit×(Int)))×(Unit))))×((List (List UInt8))×(Unit))):=q1s (qok n) m (((),(a1,((),((),())))),(((a2,((),a3)),((a4,(a5,a6)),((a7,((),a8)),()))),(a9,())))
theorem qfm (n m:Nat) (a1:List (List UInt8)) (a2:Int) (a3:Int) (a4:Int) (a5:Int) (a6:Int) (a7:Int) (a8:Int) (a9:List (List UInt8)):q7q n (m+1) a1 a2 a3 a4 a5 a6 a7 a8 a9=qpm n (fun a1 a2 a3 a4 a5 a6 a7 a8 a9=>q7q n m a1 a2 a3 a4 a5 a6 a7 a8 a9) a1 a2 a3 a4 a5 a6 a7 a8 a9:=rfl
def qy1 (n:Nat):LC:={ sh:=qbt,outs:=q6x,F:=q1s (qok n) n }
def qhv (n:Nat):List LC:=[qy1 n]
def qhq (n:Nat) (a1:(List (List UInt8))×(List ((Int)×(List UInt8)))) (a2:Int×(Int)):Option ((Int×((List (List UInt8))×(Int)))×(Int)) :=
 (qxa n a1 a2).bind fun (r1:(List (List UInt8))×(Bool))=>(bif !r1.2 then some (((0:Int),([],(0:Int))),(1:Int)) else (q1a r1.1 a2.1).bind fun (x2:List UInt8)=>(qit x2).bind fun (r3:(Int×(Int×(Int×(Int×(Int)))))×(Bool))=>((q3h n).F ((1:Int),(r3.1.2.1,((0:Int),([]:List UInt8))))).bind fun (r4:(List UInt8)×(Bool))=>(bif !r4.2 then some (((0:Int),([],(0:Int))),(5:Int)) else (bif !decide (r4.1=x2) then some (((0:Int),([],(0:Int))),(5:Int)) else q0n (IntKind.wrap .i64 (a2.1+(1:Int))) fun (n5:Int)=>(q7q n n r1.1 (0:Int) (0:Int) a2.1 a2.2 n5 r3.1.2.1 (0:Int) []).bind fun (o9:(Unit×(Unit×(Unit×(Unit))))×((Int×(Unit×(Int)))×((Int×(Int×(Int)))×((Int×(Unit×(Int)))×(Unit))))×((List (List UInt8))×(Unit)))=>some ((o9.2.1.2.2.1.1,(o9.2.2.1,o9.2.1.2.1.2.2)),(0:Int)))))
def qd0 (n:Nat):FC:={ f:=93,args:=[.one (.agg [.d (.lst .str),.d (.lst (.prod (.int .i64) .str))]),.one (.agg [.d (.int .i64),.d (.int .i64)])],res:=.tup [.agg [.d (.int .i64),.d (.lst .str),.d (.int .i64)],.c (.d (.int .i64))],F:=fun p=>qhq n p.1 p.2 }
def qoj (n:Nat):List FC:=[qho n,qnh,q3h n,qhk n,qe6 n]
theorem qlc (n:Nat) {G:World->Prop} (hG:Know Inv G) : ∀c∈qoj n,q3s Tryz.prog G c/\q1j c.args=true:=List.forall_mem_cons.2 ⟨jfi n G hG,List.forall_mem_cons.2 ⟨qyp G hG,List.forall_mem_cons.2 ⟨qg3 n G hG,List.forall_mem_cons.2 ⟨jez n G hG,List.forall_mem_cons.2 ⟨j7i n G hG,(fun _ h=>by cases h)⟩⟩⟩⟩⟩
def qmr:q1h:=[]
theorem qxd:drB qmr (q0b Tryz.f93)=true:=by kernel_rfl
theorem j8q (n:Nat) : ∀rec p,qok n rec p=round Tryz.prog 85 (qoj n) (qhv n) qmr 1 qbt q6x (q0h 0 0 (q0b Tryz.f93)) rec p:=by intro rec p;kernel_rfl
theorem j2y (n:Nat) {F:Fr} (hF:F.n=85) (hK:Know Inv F.G):qfl Tryz.prog F (qy1 n) (q0h 0 0 (q0b Tryz.f93)) :=
 q1y hF (by kernel_rfl) (qlc n hK) (j8q n) (fuel:=n) (fun _=>rfl) (q0r fun j L h1 h2 h3=>absurd h2 (Nat.not_lt.2 (Nat.le_trans (by decide +kernel) h1))) (q37 qxd)
theorem jcz (n:Nat) : ∀a,(qd0 n).F a=main Tryz.prog 85 (qoj n) (qhv n) qmr (q0b Tryz.f93) [.cell 4 77,.tmp 5] (qd0 n).args (qd0 n).res a:=by intro a;kernel_rfl
theorem jaq (n:Nat):q18 Inv Tryz.prog (qd0 n):=fun G hG=>⟨⟨by kernel_rfl,fun a r h=>q0u (c:=q0b Tryz.f93) Tryz.func93 (by kernel_rfl) (by kernel_rfl) (Nat.le_of_ble_eq_true (by kernel_rfl)) hG.st (by kernel_rfl) (rs:=[.cell 4 77,.tmp 5]) (by kernel_rfl) (qlc n hG) (lts:=qhv n) (fun F hF hFG=>have hK:Know Inv F.G:=hFG ▸ hG;(q0r (c:=(q0b Tryz.f93)) (fun j L h1 h2 h3=>by
  have h2':j<1:=Nat.lt_of_lt_of_le h2 (by decide +kernel)
  match j,h1,h2',h3 with
  | 0,_,_,h3=>obtain rfl:=Option.some.inj h3;exact (show q0h 0 0 (q0b Tryz.f93)=q0h 0 0 (q0b Tryz.f93) by kernel_rfl) ▸ j2y n hF hK
  | j+1,_,h2',_=>exact absurd h2' (by omega)))) qxd ((jcz n a).symm.trans h)⟩,rfl⟩
def qln (n:Nat):List LC:=[]
def q99 (n:Nat) (a1:Int×(Int)) (a2:Int):Option ((List ((Bool)×((Int)×(List UInt8))))×(Int)) :=
 ((q3h n).F ((1:Int),(a2,((0:Int),([]:List UInt8))))).bind fun (r1:(List UInt8)×(Bool))=>(qla n a1).bind fun (r2:Bool)=>(bif !r2 then some ([],(1:Int)) else (bif !r1.2 then some ([],(1:Int)) else some (([(false,(a1.1,r1.1)),(true,((0:Int),([]:List UInt8)))]:List ((Bool)×((Int)×(List UInt8)))),(0:Int))))
def q5i (n:Nat):FC:={ f:=45,args:=[.one (.agg [.d (.int .i64),.d (.int .i64)]),.one (.c (.d (.int .i64)))],res:=.tup [.c (.d (.lst (.prod .bool (.prod (.int .i64) .str)))),.c (.d (.int .i64))],F:=fun p=>q99 n p.1 p.2 }
def qrs (n:Nat):List FC:=[q3h n,qay n]
theorem qwm (n:Nat) {G:World->Prop} (hG:Know Inv G) : ∀c∈qrs n,q3s Tryz.prog G c/\q1j c.args=true:=List.forall_mem_cons.2 ⟨qg3 n G hG,List.forall_mem_cons.2 ⟨qv0 n G hG,(fun _ h=>by cases h)⟩⟩
def qt7:q1h:=[]
theorem j65:drB qt7 (q0b Tryz.f45)=true:=by kernel_rfl
theorem j5n (n:Nat) : ∀a,(q5i n).F a=main Tryz.prog 26 (qrs n) (qln n) qt7 (q0b Tryz.f45) [.tmp 4,.tmp 5] (q5i n).args (q5i n).res a:=by intro a;kernel_rfl
theorem qtc (n:Nat):q18 Inv Tryz.prog (q5i n):=fun G hG=>⟨⟨by kernel_rfl,fun a r h=>q0u (c:=q0b Tryz.f45) Tryz.func45 (by kernel_rfl) (by kernel_rfl) (Nat.le_of_ble_eq_true (by kernel_rfl)) hG.st (by kernel_rfl) (rs:=[.tmp 4,.tmp 5]) (by kernel_rfl) (qwm n hG) (lts:=qln n) (fun F hF hFG=>have hK:Know Inv F.G:=hFG ▸ hG;(q0r fun j L h1 h2 h3=>absurd h2 (Nat.not_lt.2 (Nat.le_trans (by decide +kernel) h1)))) j65 ((j5n n a).symm.trans h)⟩,rfl⟩
@[reducible] def qfy:SSt:=⟨[(8,.one (.c (.box 8 0))),(9,.one (.c (.d .str))),(11,.one (.c (.row 74))),(58,.one (.c (.d (.lst .str)))),(59,.one (.c (.d (.int .i64)))),(60,.one (.c (.d (.int .i64))))],[(8,(140,[.d (.int .i64),.d (.int .i64),.d (.int .i64)]))],[(74,⟨99,true,(.prod .bool (.prod (.int .i64) .str))⟩)]⟩
@[reducible] def q94:List (Exit×SSt):=[(.exit 0,⟨[(8,.one (.c (.box 8 0))),(9,.one (.c (.d .str))),(11,.one (.c (.row 74)))],[(8,(140,[.d (.int .i64),.d (.int .i64),.d (.int .i64)]))],[(74,⟨99,true,(.prod .bool (.prod (.int .i64) .str))⟩)]⟩)]
def qx6 (n:Nat) (rec:(List UInt8)->(List (List UInt8))->Int->Int->Int->Int->Int->(List ((Bool)×((Int)×(List UInt8))))->Option ((Unit×((List UInt8)×(Unit×(Unit))))×((Int×(Int×(Int)))×(Unit))×((List ((Bool)×((Int)×(List UInt8))))×(Unit)))) (a1:List UInt8) (a2:List (List UInt8)) (a3:Int) (a4:Int) (a5:Int) (a6:Int) (a7:Int) (a8:List ((Bool)×((Int)×(List UInt8)))):Option ((Unit×((List UInt8)×(Unit×(Unit))))×((Int×(Int×(Int)))×(Unit))×((List ((Bool)×((Int)×(List UInt8))))×(Unit))) :=
 (bif decide (a4<a3) then (q1a a2 a4).bind fun (x7:List UInt8)=>q0n (IntKind.wrap .i64 (a7+(1:Int))) fun (n8:Int)=>q0n (IntKind.wrap .i64 (n8+a4)) fun (n9:Int)=>(q3k 32 a8 ([(false,(n9,x7))]:List ((Bool)×((Int)×(List UInt8))))).bind fun (l10:List ((Bool)×((Int)×(List UInt8))))=>q0n (IntKind.wrap .i64 (a4+(1:Int))) fun (n11:Int)=>rec a1 a2 a3 n11 a5 a6 a7 l10 else some ((((),(a1,((),()))),(((a5,(a6,a7)),()),(a8,())))))
def qx4 (n:Nat) (rec:pSt qfy->Option (q1m q94)) (p:pSt qfy):Option (q1m q94):=qx6 n (fun a1 a2 a3 a4 a5 a6 a7 a8=>rec (((),(a1,((),(a2,(a3,(a4,())))))),(((a5,(a6,a7)),()),(a8,())))) p.1.2.1 p.1.2.2.2.1 p.1.2.2.2.2.1 p.1.2.2.2.2.2.1 p.2.1.1.1 p.2.1.1.2.1 p.2.1.1.2.2 p.2.2.1
def q6i (n m:Nat) (a1:List UInt8) (a2:List (List UInt8)) (a3:Int) (a4:Int) (a5:Int) (a6:Int) (a7:Int) (a8:List ((Bool)×((Int)×(List UInt8)))):Option ((Unit×((List UInt8)×(Unit×(Unit))))×((Int×(Int×(Int)))×(Unit))×((List ((Bool)×((Int)×(List UInt8))))×(Unit))):=q1s (qx4 n) m (((),(a1,((),(a2,(a3,(a4,())))))),(((a5,(a6,a7)),()),(a8,())))
theorem qjj (n m:Nat) (a1:List UInt8) (a2:List (List UInt8)) (a3:Int) (a4:Int) (a5:Int) (a6:Int) (a7:Int) (a8:List ((Bool)×((Int)×(List UInt8)))):q6i n (m+1) a1 a2 a3 a4 a5 a6 a7 a8=qx6 n (fun a1 a2 a3 a4 a5 a6 a7 a8=>q6i n m a1 a2 a3 a4 a5 a6 a7 a8) a1 a2 a3 a4 a5 a6 a7 a8:=rfl
def j3z (n:Nat):LC:={ sh:=qfy,outs:=q94,F:=q1s (qx4 n) n }
def qnb (n:Nat):List LC:=[j3z n]
def qqq (n:Nat) (a1:Int×(Int)) (a2:Int×((List (List UInt8))×(Int))) (a3:List UInt8):Option ((List ((Bool)×((Int)×(List UInt8))))×(Int)) :=
 (qr5 n (a1.1,(a1.2,a2.2.2))).bind fun (r1:Bool)=>(bif !r1 then some ([],(1:Int)) else (bif decide (a2.1<(0:Int)) then some ([],(1:Int)) else (bif decide ((1073741824:Int)<a2.1) then some ([],(1:Int)) else (bif decide ((65535:Int)<((List.length a2.2.1:Nat):Int)) then some ([],(1:Int)) else (bif decide ((4096:Int)<((List.length a3:Nat):Int)) then some ([],(2:Int)) else (qb4 n (a1.1,(a1.2,a2.2.2))).bind fun (r2:Int)=>(q7n ((List.length a3:Nat):Int)).bind fun (r3:Int)=>q0n (IntKind.wrap .i64 ((1:Int)+r3)) fun (n4:Int)=>(bif decide (r2<n4) then some ([],(3:Int)) else ((q3h n).F ((2:Int),(a2.1,(((List.length a2.2.1:Nat):Int),a3)))).bind fun (r5:(List UInt8)×(Bool))=>(qrq a3).bind fun (r6:List (List UInt8))=>(q6i n n r5.1 r6 ((List.length r6:Nat):Int) (0:Int) a1.1 a1.2 a2.2.2 []).bind fun (o12:(Unit×((List UInt8)×(Unit×(Unit))))×((Int×(Int×(Int)))×(Unit))×((List ((Bool)×((Int)×(List UInt8))))×(Unit)))=>(q3k 32 o12.2.2.1 ([(true,((0:Int),([]:List UInt8))),(false,(o12.2.1.1.2.2,o12.1.2.1)),(true,((0:Int),([]:List UInt8)))]:List ((Bool)×((Int)×(List UInt8))))).bind fun (l13:List ((Bool)×((Int)×(List UInt8))))=>some (l13,(0:Int))))))))
def qgx (n:Nat):FC:={ f:=40,args:=[.one (.agg [.d (.int .i64),.d (.int .i64)]),.one (.agg [.d (.int .i64),.d (.lst .str),.d (.int .i64)]),.one (.c (.d .str))],res:=.tup [.c (.d (.lst (.prod .bool (.prod (.int .i64) .str)))),.c (.d (.int .i64))],F:=fun p=>qqq n p.1 p.2.1 p.2.2 }
def qvj (n:Nat):List FC:=[qdq n,q79 n,qcz,q3h n,qv5]
theorem qs5 (n:Nat) {G:World->Prop} (hG:Know Inv G) : ∀c∈qvj n,q3s Tryz.prog G c/\q1j c.args=true:=List.forall_mem_cons.2 ⟨j3v n G hG,List.forall_mem_cons.2 ⟨qor n G hG,List.forall_mem_cons.2 ⟨qiv G hG,List.forall_mem_cons.2 ⟨qg3 n G hG,List.forall_mem_cons.2 ⟨j4j G hG,(fun _ h=>by cases h)⟩⟩⟩⟩⟩
def qu8:q1h:=[]
theorem j5y:drB qu8 (q0b Tryz.f40)=true:=by kernel_rfl
theorem jb0 (n:Nat) : ∀rec p,qx4 n rec p=round Tryz.prog 85 (qvj n) (qnb n) qu8 1 qfy q94 (q0h 0 0 (q0b Tryz.f40)) rec p:=by intro rec p;kernel_rfl
theorem j70 (n:Nat) {F:Fr} (hF:F.n=85) (hK:Know Inv F.G):qfl Tryz.prog F (j3z n) (q0h 0 0 (q0b Tryz.f40)) :=
 q1y hF (by kernel_rfl) (qs5 n hK) (jb0 n) (fuel:=n) (fun _=>rfl) (q0r fun j L h1 h2 h3=>absurd h2 (Nat.not_lt.2 (Nat.le_trans (by decide +kernel) h1))) (q37 j5y)
theorem jhc (n:Nat) : ∀a,(qgx n).F a=main Tryz.prog 85 (qvj n) (qnb n) qu8 (q0b Tryz.f40) [.tmp 6,.tmp 7] (qgx n).args (qgx n).res a:=by intro a;kernel_rfl
theorem jib (n:Nat):q18 Inv Tryz.prog (qgx n):=fun G hG=>⟨⟨by kernel_rfl,fun a r h=>q0u (c:=q0b Tryz.f40) Tryz.func40 (by kernel_rfl) (by kernel_rfl) (Nat.le_of_ble_eq_true (by kernel_rfl)) hG.st (by kernel_rfl) (rs:=[.tmp 6,.tmp 7]) (by kernel_rfl) (qs5 n hG) (lts:=qnb n) (fun F hF hFG=>have hK:Know Inv F.G:=hFG ▸ hG;(q0r (c:=(q0b Tryz.f40)) (fun j L h1 h2 h3=>by
  have h2':j<1:=Nat.lt_of_lt_of_le h2 (by decide +kernel)
  match j,h1,h2',h3 with
  | 0,_,_,h3=>obtain rfl:=Option.some.inj h3;exact (show q0h 0 0 (q0b Tryz.f40)=q0h 0 0 (q0b Tryz.f40) by kernel_rfl) ▸ j70 n hF hK
  | j+1,_,h2',_=>exact absurd h2' (by omega)))) j5y ((jhc n a).symm.trans h)⟩,rfl⟩
end Go.Proofs.YthpgnliicpejoaaGreatDoor.AM
namespace Go.Proofs.YthpgnliicpejoaaGreatDoor
open Go.RowKit
namespace RM
theorem jbl (s:ByteArray) (i:Nat):(sec s i).data.toList.drop 1=(s.data.toList.drop (31*i)).take 31++List.replicate (32 - (68::(s.data.toList.drop (31*i)).take 31).length) 0:=rfl
theorem j17 (s:ByteArray) (k:Nat) (hk:31*k<=s.size+30):(qng ((List.range k).map (sec s))).take (min (31*k) s.size)=s.data.toList.take (31*k):=by
 have hs:s.data.toList.length=s.size:=by simp
 induction k with
 | zero=>simp
 | succ k ih =>
  have hlen:(qng ((List.range k).map (sec s))).length=31*k:=by
   rw [q75 _ (by intro x hx;obtain ⟨i,_,rfl⟩:=List.mem_map.1 hx;exact qcp s i)];simp
  have ih:=ih (by omega)
  rw [Nat.min_eq_left (by omega),List.take_of_length_le (by omega)] at ih
  have e1:qng ((List.range (k+1)).map (sec s))=qng ((List.range k).map (sec s))++(sec s k).data.toList.drop 1:=by
   rw [qze];unfold qng;simp
  rw [e1,jbl,ih,show 31*(k+1)=31*k+31 from by omega,List.take_add,<-List.append_assoc]
  have hl2:(List.take (31*k) s.data.toList++List.take 31 (List.drop (31*k) s.data.toList)).length=min (31*k+31) s.size:=by
   simp;omega
  rw [<-hl2,List.take_left]
theorem qlk (s:ByteArray) (h:s.size<=4096):q1e s=(s.size+30) / 31:=by unfold q1e;rw [if_pos h]
theorem q9l (s:ByteArray) (h:s.size<=4096):q0w (s.size:Int)=(q1e s:Int):=by
 unfold q0w;rw [if_pos (by omega),qlk s h];omega
theorem qrn (s:ByteArray) (h:s.size<=4096):qdy (qfj s) (s.size:Int)=s:=by
 have hs:s.data.toList.length=s.size:=by simp
 have hn:=qlk s h
 have e:=j17 s (q1e s) (by omega)
 unfold qdy
 rw [Nat.min_eq_right (by omega)] at e
 rw [show (s.size:Int).toNat=s.size from by omega]
 unfold qfj
 rw [e,List.take_of_length_le (by omega),qx7]
theorem qkn (s:ByteArray) (h:s.size<=4096):q4q (qfj s) (s.size:Int):=by
 refine ⟨?_,?_,?_⟩
 ·rw [q2y,q9l s h]
 ·intro x hx;obtain ⟨i,_,rfl⟩:=List.mem_map.1 hx;exact qcp s i
 ·rw [qrn s h]
theorem qqr (s:ByteArray) (h:s.size<=4096):qjy (qfj s) (s.size:Int)=s:=by rw [qjr _ _ (qkn s h),qrn s h]
theorem qkv (l:List ByteArray) (n:Int) (h:q4q l n):0<=n/\((qjy l n).size:Int)=n/\q0w n=(l.length:Int):=by
 have h1:=qy6 l.length n h.1
 obtain ⟨m,rfl⟩ : ∃ m:Nat,n=(m:Int):=⟨n.toNat,by omega⟩
 refine ⟨h1.1,?_,h.1.symm⟩
 rw [qjr _ _ h,j38 l m h.2.1 (by omega)]
theorem j6w (s:ByteArray) (i:Nat):(sec s i).data.toList.head? = some 68:=rfl
theorem j2c (k g q z m:Int):(str (qej k g q z m)).data.toList.head? = some 72:=rfl
theorem jak (s:ByteArray) (i:Nat) (k g q z m:Int):sec s i≠str (qej k g q z m):=by
 intro h
 have:=j6w s i
 rw [h,j2c] at this
 simp at this
theorem qfe (s:ByteArray) (i:Nat) : ¬ q1w (sec s i):=fun h=>jak s i _ _ _ _ _ h.2.2.symm
theorem qou (a b c d:UInt8) (l r:List UInt8) (k:Nat) (hl:l.length=k):num (l++a::b::c::d::r) k=(a.toNat:Int)*16777216+(b.toNat:Int)*65536+(c.toNat:Int)*256+(d.toNat:Int):=by
 subst hl
 unfold num
 simp [List.getD]
theorem qop (n:Int) (h0:0<=n) (h1:n<4294967296):((UInt8.ofNat (n / 16777216 % 256).toNat).toNat:Int)*16777216+((UInt8.ofNat (n / 65536 % 256).toNat).toNat:Int)*65536+((UInt8.ofNat (n / 256 % 256).toNat).toNat:Int)*256+((UInt8.ofNat (n % 256).toNat).toNat:Int)=n:=by
 rw [q4b _ (by omega) (by omega),q4b _ (by omega) (by omega),q4b _ (by omega) (by omega),q4b _ (by omega) (by omega)]
 omega
theorem j1v (k g q z m:Int) : ∃ r,qej k g q z m = [72,UInt8.ofNat k.toNat]++(be4 g++(be4 q++(be4 z++(be4 m++r)))):=⟨_,rfl⟩
theorem q82 (k g q z m:Int) (h:may k g q z m):q2x (str (qej k g q z m))=k/\q0i (str (qej k g q z m)) 2=g/\q0i (str (qej k g q z m)) 6=q/\q0i (str (qej k g q z m)) 10=z/\q0i (str (qej k g q z m)) 14=m:=by
 obtain ⟨hk,hg,hq,hz,hm⟩:=h
 have hm2:=SM.qyx hm
 obtain ⟨r,hr⟩:=j1v k g q z m
 unfold q0i q2x
 rw [jbw]
 refine ⟨?_,?_,?_,?_,?_⟩
 ·rw [hr]
  show ((UInt8.ofNat k.toNat).toNat:Int)=k
  exact q4b k (by omega) (by omega)
 ·rw [hr]
  exact (qou _ _ _ _ [72,UInt8.ofNat k.toNat] _ 2 rfl).trans (qop g (by omega) (by omega))
 ·rw [hr,<-List.append_assoc]
  exact (qou _ _ _ _ ([72,UInt8.ofNat k.toNat]++be4 g) _ 6 rfl).trans (qop q (by omega) (by omega))
 ·rw [hr,<-List.append_assoc,<-List.append_assoc]
  exact (qou _ _ _ _ ([72,UInt8.ofNat k.toNat]++be4 g++be4 q) _ 10 rfl).trans (qop z (by omega) (by omega))
 ·rw [hr,<-List.append_assoc,<-List.append_assoc,<-List.append_assoc]
  exact (qou _ _ _ _ ([72,UInt8.ofNat k.toNat]++be4 g++be4 q++be4 z) _ 14 rfl).trans (qop m (by omega) (by omega))
theorem q5n (k g q z m:Int) (h:may k g q z m):q1b k g q z m=str (qej k g q z m):=if_pos h
theorem qj6 (k g q z m:Int) (h:may k g q z m):q1w (q1b k g q z m)/\qql (q1b k g q z m)=hd k g q z m:=by
 obtain ⟨e1,e2,e3,e4,e5⟩:=q82 k g q z m h
 have hr:q1w (str (qej k g q z m)):=by
  refine ⟨by rw [q4v];rfl,?_,?_⟩
  ·rw [e1,e2,e3,e4,e5];exact h
  ·rw [e1,e2,e3,e4,e5]
 rw [q5n _ _ _ _ _ h]
 refine ⟨hr,?_⟩
 rw [q6l _ hr,e1,e2,e3,e4,e5]
def turned (s:ByteArray) (i x:Nat):List UInt8:=s.data.toList.set i (UInt8.ofNat ((s.data.toList.getD i 0).toNat ^^^ x))
end RM
end Go.Proofs.YthpgnliicpejoaaGreatDoor
namespace Go.Proofs
open Go.RowKit
set_option linter.unusedVariables false
set_option linter.unusedSimpArgs false
namespace YthpgnliicpejoaaGreatDoor.AM
theorem je5 (b:ByteArray):unB b=b.data.toList:=rfl
theorem q9a (b:ByteArray):(unB b).length=b.size:=jii b
theorem q0q {α β:Type} (x:α) (f:α->Option β):q0n x f=f x:=rfl
def chk (f z:Int):Prop:=0<=f/\2<=z/\z<=512 - f
instance (f z:Int):Decidable (chk f z):=by unfold chk;infer_instance
theorem qgk (n:Nat) (f z:Int) (h1 : -9223372036854775808<=f) (h2:f<=9223372036854775807):qla n (f,z)=some (decide (chk f z)):=by
 unfold qla chk
 simp only
 by_cases c1:0<=f
 ·rw [decide_eq_true c1,cond_true]
  by_cases c2:2<=z
  ·rw [decide_eq_true c2,cond_true,wrap64 (by omega) (by omega),q0q]
   congr 1
   simp [c1,c2]
  ·rw [decide_eq_false c2,cond_false]
   simp [c2]
 ·rw [decide_eq_false c1,cond_false]
  simp [c1]
theorem qbv (n:Nat) (f z a:Nat) (h1:f+z<=512) (h2:a<=100000):qb4 n ((f:Int),((z:Int),(a:Int)))=some (((f+z:Nat):Int) - (a:Int)):=by
 unfold qb4
 simp only
 rw [wrap64 (by omega) (by omega),q0q,wrap64 (by omega) (by omega),q0q]
 congr 1
theorem qgu (m:Int) (h:0<=m/\m<=4096):0<=RM.q0w m/\RM.q0w m<=133:=by unfold RM.q0w;rw [if_pos h];omega
theorem qyk (n:Nat) (f z a:Nat) (m:Int) (h2:a<=100000) (h:0<=m/\m<=4096):qqb n ((f:Int),((z:Int),(a:Int))) m=some ((f:Int),((z:Int),((a+1+(RM.q0w m).toNat:Nat):Int))):=by
 have hc:=qgu m h
 unfold qqb q7n
 rw [if_pos (show qxu m by unfold qxu;omega),Option.bind_some]
 simp only
 rw [wrap64 (by omega) (by omega),q0q,wrap64 (by omega) (by omega),q0q]
 congr 3
 omega
def flat (D:DM.Dk):List ByteArray:=DM.q0m (fun _=>true) D.secs D.cache D.cache.length
theorem qzp (D:DM.Dk):(flat D).length=D.secs.length:=DM.q1f _ _ _ _
def j5m (D:DM.Dk) (f z:Int):Prop:=chk f z/\DM.q2s D/\f+z<=(D.secs.length:Int)
instance (D:DM.Dk) (f z:Int):Decidable (j5m D f z):=by unfold j5m;infer_instance
theorem jbk (n:Nat) (d:DkT) (hd:smD d) (f z:Int) (h1 : -9223372036854775808<=f) (h2:f<=9223372036854775807):qxa n d (f,z)=some (if j5m (q2v d) f z then ((flat (q2v d)).map unB,true) else ([],false)):=by
 unfold qxa
 rw [qgk n f z h1 h2,Option.bind_some]
 by_cases c:chk f z
 ·have c':=c
  unfold chk at c'
  rw [decide_eq_true c,Bool.not_true,cond_false]
  unfold qwf
  rw [if_pos hd,Option.bind_some]
  simp only
  by_cases cm:DM.q2s (q2v d)
  ·have e1:DM.qtv (q2v d)=0:=by unfold DM.qtv;rw [if_pos cm]
   have e2:DM.q3z (fun _=>true) (q2v d)=⟨flat (q2v d),[]⟩:=by unfold DM.q3z DM.q1n flat;rw [if_pos cm]
   rw [e1,decide_eq_true rfl,Bool.not_true,cond_false,wrap64 (by omega) (by omega),q0q,e2]
   have e3:(qd6 ⟨flat (q2v d),[]⟩).1=(flat (q2v d)).map unB:=rfl
   rw [e3,List.length_map,qzp]
   by_cases cl:((q2v d).secs.length:Int)<f+z
   ·rw [decide_eq_true cl,cond_true,if_neg (fun h=>by have:=h.2.2;omega)]
   ·rw [decide_eq_false cl,cond_false,if_pos ⟨c,cm,by omega⟩]
  ·have e1:DM.qtv (q2v d)=1:=by unfold DM.qtv;rw [if_neg cm]
   rw [e1,decide_eq_false (by decide),Bool.not_false,cond_true,if_neg (fun h=>cm h.2.1)]
 ·rw [decide_eq_false c,Bool.not_false,cond_true,if_neg (fun h=>c h.1)]
theorem qy2 (b:ByteArray):qit (unB b)=some (qj7 b,decide (RM.q1w b)):=by unfold qit;rw [qct]
theorem qgy {b:ByteArray} (h:RM.q1w b):0<=RM.q0i b 10/\RM.q0i b 10<=4096:=h.2.1.2.2.2.1
def gB (B:List ByteArray) (j:Nat):ByteArray:=B.getD j ⟨#[]⟩
theorem j33 {B:List ByteArray} {j:Nat} (h:j<B.length):gB B j=B[j]:=by
 unfold gB
 rw [List.getD_eq_getElem?_getD,List.getElem?_eq_getElem h];rfl
def qgh (B:List ByteArray) (e at_:Nat) (g q:Int):Prop :=
 at_<e/\RM.q1w (gB B at_)/\RM.q2x (gB B at_)=2/\RM.q0i (gB B at_) 2=g/\RM.q0i (gB B at_) 6=q/\at_+1+(RM.q0w (RM.q0i (gB B at_) 10)).toNat<=e /\
 RM.q4q ((B.drop (at_+1)).take (RM.q0w (RM.q0i (gB B at_) 10)).toNat) (RM.q0i (gB B at_) 10) /\
 SM.q1k 1 (RM.qjy ((B.drop (at_+1)).take (RM.q0w (RM.q0i (gB B at_) 10)).toNat) (RM.q0i (gB B at_) 10)).data.toList=RM.q0i (gB B at_) 14
def qbj (B:List ByteArray) (at_:Nat):ByteArray:=RM.qjy ((B.drop (at_+1)).take (RM.q0w (RM.q0i (gB B at_) 10)).toNat) (RM.q0i (gB B at_) 10)
instance (B:List ByteArray) (e a:Nat) (g q:Int):Decidable (qgh B e a g q):=by unfold qgh;infer_instance
theorem jc6 (n:Nat) (B:List ByteArray) (f z a:Nat) (g q:Int) (h1:f+z<=512) (h2:a<=2000) (hB:f+z<=B.length) :
  j0j n ((f:Int),((z:Int),(a:Int))) (B.map unB) g q=some (if qgh B (f+z) a g q then (unB (qbj B a),true) else ([],false)):=by
 unfold j0j
 rw [qbv n f z a h1 (by omega),Option.bind_some]
 by_cases c0:a<f+z
 case neg =>
  rw [decide_eq_true (by omega),cond_true,if_neg (fun h=>c0 h.1)]
 have ha:a<B.length:=by omega
 have ha':a<(B.map unB).length:=by rw [List.length_map];exact ha
 have hg:gB B a=B[a]:=j33 ha
 have hrP:qgh B (f+z) a g q↔(a<f+z/\RM.q1w B[a]/\RM.q2x B[a]=2/\RM.q0i B[a] 2=g/\RM.q0i B[a] 6=q/\a+1+(RM.q0w (RM.q0i B[a] 10)).toNat<=f+z/\RM.q4q ((B.drop (a+1)).take (RM.q0w (RM.q0i B[a] 10)).toNat) (RM.q0i B[a] 10) /\
   SM.q1k 1 (RM.qjy ((B.drop (a+1)).take (RM.q0w (RM.q0i B[a] 10)).toNat) (RM.q0i B[a] 10)).data.toList=RM.q0i B[a] 14):=by unfold qgh;rw [hg]
 rw [decide_eq_false (by omega),cond_false]
 simp only
 rw [q2h ha',List.getElem_map,Option.bind_some,qy2,Option.bind_some]
 simp only
 by_cases c1:RM.q1w B[a]
 case neg =>
  rw [decide_eq_false c1,Bool.not_false,cond_true,if_neg (fun h=>c1 (hrP.1 h).2.1)]
 have hz:=qgy c1
 have hcz:=qgu _ hz
 have eh:qj7 B[a]=(RM.q2x B[a],(RM.q0i B[a] 2,(RM.q0i B[a] 6,(RM.q0i B[a] 10,RM.q0i B[a] 14)))):=by unfold qj7;rw [if_pos c1]
 rw [decide_eq_true c1,Bool.not_true,cond_false,eh]
 simp only
 have hrec:qbj B a=RM.qjy ((B.drop (a+1)).take (RM.q0w (RM.q0i B[a] 10)).toNat) (RM.q0i B[a] 10):=by unfold qbj;rw [hg]
 clear hg eh
 generalize RM.q2x B[a]=kd at *
 generalize RM.q0i B[a] 2=n2 at *
 generalize RM.q0i B[a] 6=n6 at *
 generalize RM.q0i B[a] 10=n10 at *
 generalize RM.q0i B[a] 14=n14 at *
 by_cases c2:kd=2
 case neg=>rw [decide_eq_false c2,Bool.not_false,cond_true,if_neg (fun h=>c2 (hrP.1 h).2.2.1)]
 rw [decide_eq_true c2,Bool.not_true,cond_false]
 by_cases c3:n2=g
 case neg=>rw [decide_eq_false c3,Bool.not_false,cond_true,if_neg (fun h=>c3 (hrP.1 h).2.2.2.1)]
 rw [decide_eq_true c3,Bool.not_true,cond_false]
 by_cases c4:n6=q
 case neg=>rw [decide_eq_false c4,Bool.not_false,cond_true,if_neg (fun h=>c4 (hrP.1 h).2.2.2.2.1)]
 have hcc:(RM.q0w n10).toNat<=133:=by omega
 have e4:=qyk n f z a n10 (by omega) hz
 have e5:=qbv n f z (a+1+(RM.q0w n10).toNat) h1 (by omega)
 rw [decide_eq_true c4,Bool.not_true,cond_false,e4,Option.bind_some,e5,Option.bind_some]
 by_cases c5:a+1+(RM.q0w n10).toNat<=f+z
 case neg=>rw [decide_eq_true (by omega),cond_true,if_neg (fun h=>c5 (hrP.1 h).2.2.2.2.2.1)]
 rw [decide_eq_false (by omega),cond_false]
 simp only
 have w1:IntKind.wrap .i64 ((a:Int)+1)=((a+1:Nat):Int):=q19 (by omega)
 rw [w1,q0q,sub_le (by omega) (by rw [List.length_map];omega),Option.bind_some]
 have e1:a+1+(RM.q0w n10).toNat - (a+1)=(RM.q0w n10).toNat:=by omega
 rw [e1]
 have e2:(((B.map unB).drop (a+1)).take (RM.q0w n10).toNat)=((B.drop (a+1)).take (RM.q0w n10).toNat).map unB:=by rw [<-List.map_drop,<-List.map_take]
 rw [e2]
 have e3 : ∀l:List ByteArray,(l.map unB).map ba=l:=fun l=>by
  rw [List.map_map]
  exact (List.map_congr_left fun x _=>qct x).trans (List.map_id _)
 have hl:((B.drop (a+1)).take (RM.q0w n10).toNat).length<=1000:=by rw [List.length_take];omega
 unfold qvy
 rw [if_pos ⟨by rw [List.length_map];exact hl,by unfold qxu;omega⟩,Option.bind_some,e3,<-hrec]
 simp only
 by_cases c6:RM.q4q ((B.drop (a+1)).take (RM.q0w n10).toNat) n10
 case neg=>rw [decide_eq_false c6,Bool.not_false,cond_true,if_neg (fun h=>c6 (hrP.1 h).2.2.2.2.2.2.1)]
 rw [decide_eq_true c6,Bool.not_true,cond_false]
 have hlen:(unB (qbj B a)).length<=maxLen:=by
  have hM:=max_eq
  have h9:=(RM.qkv _ _ c6).2.1
  rw [<-hrec] at h9
  rw [q9a]
  generalize (qbj B a).size=u at *
  omega
 unfold qmz
 rw [if_pos hlen,Option.bind_some]
 by_cases c7:SM.q1k 1 (unB (qbj B a))=n14
 ·rw [decide_eq_true c7,Bool.not_true,cond_false,if_pos]
  exact hrP.2 ⟨c0,c1,c2,c3,c4,c5,c6,by rw [<-hrec,<-je5];exact c7⟩
 ·rw [decide_eq_false c7,Bool.not_false,cond_true,if_neg]
  intro h
  have h8:=(hrP.1 h).2.2.2.2.2.2.2
  rw [<-hrec,<-je5] at h8
  exact c7 h8
theorem j0i {B:List ByteArray} {e a:Nat} {g q:Int} (h:qgh B e a g q):(qbj B a).size<=4096:=by
 have hz:=qgy h.2.1
 have c6:=h.2.2.2.2.2.2.1
 unfold qbj RM.qjy
 rw [if_pos c6]
 unfold RM.qdy
 rw [RM.q4v,List.length_take]
 omega
def q3a (B:List ByteArray) (e:Nat) (g:Int):Nat->Nat->List ByteArray->List ByteArray×Nat
 | 0,a,its=>(its,a)
 | m+1,a,its=>if qgh B e a g (its.length:Int) then q3a B e g m (a+1+(RM.q0w ((qbj B a).size:Int)).toNat) (its ++ [qbj B a]) else (its,a)
theorem q29 {B:List ByteArray} {e:Nat} {g:Int} (m a:Nat) (its:List ByteArray) (h : ¬ qgh B e a g (its.length:Int)):q3a B e g m a its=(its,a):=by
 cases m with
 | zero=>rfl
 | succ m=>unfold q3a;rw [if_neg h]
theorem qef {B:List ByteArray} {e:Nat} {g:Int} : ∀(m k a:Nat) (its:List ByteArray),e - a<=m->e - a<=k->q3a B e g m a its=q3a B e g k a its
 | 0,k,a,its,h1,h2=>(q29 k a its (fun h=>absurd (show a<e from h.1) (by omega))).symm
 | m+1,0,a,its,h1,h2=>q29 (m+1) a its (fun h=>absurd (show a<e from h.1) (by omega))
 | m+1,k+1,a,its,h1,h2=>by
  unfold q3a
  split
  ·rename_i h
   have:=h.1
   exact qef m k _ _ (by omega) (by omega)
  ·rfl
theorem j9o (n:Nat) (B:List ByteArray) (f z:Nat) (g:Int) (h1:f+z<=512) (hB:f+z<=B.length) : ∀(m a:Nat) (its:List ByteArray),f+z - a<m->a<=1000->its.length<=a ->
  q7q n m (B.map unB) 0 0 (f:Int) (z:Int) (a:Int) g 0 (its.map unB)=some (((),((),((),()))),(((0:Int),((),(0:Int))),(((f:Int),((z:Int),(((q3a B (f+z) g (f+z - a) a its).2:Nat):Int))),((g,((),(0:Int))),()))),((q3a B (f+z) g (f+z - a) a its).1.map unB,())):=by
 intro m
 induction m with
 | zero=>intro a its h _ _;omega
 | succ m ihm =>
  intro a its hm ha hi
  rw [qfm]
  unfold qpm
  rw [List.length_map,jc6 n B f z a g (its.length:Int) h1 (by omega) hB,Option.bind_some]
  by_cases c:qgh B (f+z) a g (its.length:Int)
  ·have hl:=j0i c
   have ha1:=c.1
   have hu:(unB (qbj B a)).length=(qbj B a).size:=q9a _
   have es : ∀m,q3a B (f+z) g (m+1) a its=q3a B (f+z) g m (a+1+(RM.q0w ((qbj B a).size:Int)).toNat) (its ++ [qbj B a]):=fun m=>by
    conv=>lhs;unfold q3a
    rw [if_pos c]
   rw [if_pos c]
   clear c
   generalize qbj B a=x at *
   have eb:=qyk n f z a (x.size:Int) (by omega) ⟨by omega,by omega⟩
   have hcz:=qgu (x.size:Int) ⟨by omega,by omega⟩
   have hk:(RM.q0w (x.size:Int)).toNat<=133:=by omega
   generalize (RM.q0w (x.size:Int)).toNat=k at *
   simp only [Bool.not_true,cond_false]
   rw [ql2 (by simp;omega),Option.bind_some,hu,eb,Option.bind_some]
   simp only
   have ih:=ihm (a+1+k) (its ++ [x]) (by omega) (by omega) (by simp;omega)
   have e:q3a B (f+z) g (f+z - a) a its=q3a B (f+z) g (f+z - (a+1+k)) (a+1+k) (its ++ [x]):=by
    rw [show f+z - a=(f+z - a - 1)+1 from by omega,es]
    exact qef _ _ _ _ (by omega) (by omega)
   rw [e]
   rw [List.map_append] at ih
   exact ih
  ·rw [if_neg c,q29 _ a its c]
   simp only [Bool.not_false,cond_true]
end YthpgnliicpejoaaGreatDoor.AM
end Go.Proofs
namespace Go.Proofs
open Go.RowKit
set_option linter.unusedVariables false
set_option linter.unusedSimpArgs false
namespace YthpgnliicpejoaaGreatDoor.AM
abbrev BL:=List ByteArray
theorem qa3 (B:BL) (a j:Nat) (x:ByteArray):gB (B.set a x) j=if a=j/\a<B.length then x else gB B j:=by
 unfold gB
 rw [List.getD_eq_getElem?_getD,List.getElem?_set]
 by_cases h:a=j
 ·subst h
  by_cases h2:a<B.length
  ·rw [if_pos rfl,if_pos h2,if_pos ⟨rfl,h2⟩];rfl
  ·rw [if_pos rfl,if_neg h2,if_neg (fun h=>h2 h.2)]
   rw [List.getD_eq_getElem?_getD,List.getElem?_eq_none (by omega)]
 ·rw [if_neg h,if_neg (fun h2=>h h2.1),<-List.getD_eq_getElem?_getD]
def alike (B X:BL) (lo e:Nat):Prop:=∀j,lo<=j->j<e->gB B j=gB X j
theorem j1s {B X:BL} {a c:Nat} (h1:a+c<=B.length) (h2:a+c<=X.length) (h:alike B X a (a+c)):(B.drop a).take c=(X.drop a).take c:=by
 apply List.ext_getElem
 ·simp only [List.length_take,List.length_drop];omega
 ·intro j h3 h4
  rw [List.length_take,List.length_drop] at h3
  rw [List.getElem_take,List.getElem_take,List.getElem_drop,List.getElem_drop]
  have:=h (a+j) (by omega) (by omega)
  rw [j33 (by omega),j33 (by omega)] at this
  exact this
theorem qma {B X:BL} {e a:Nat} {g q:Int} (hB:e<=B.length) (hX:e<=X.length) (h:qgh B e a g q) (hal:alike B X a (a+1+(RM.q0w (RM.q0i (gB B a) 10)).toNat)):qgh X e a g q/\qbj X a=qbj B a:=by
 have hend:a+1+(RM.q0w (RM.q0i (gB B a) 10)).toNat<=e:=h.2.2.2.2.2.1
 have e0:gB B a=gB X a:=hal a (Nat.le_refl _) (by omega)
 have e1:(B.drop (a+1)).take (RM.q0w (RM.q0i (gB B a) 10)).toNat=(X.drop (a+1)).take (RM.q0w (RM.q0i (gB B a) 10)).toNat:=j1s (by omega) (by omega) (fun j h1 h2=>hal j (by omega) (by omega))
 refine ⟨?_,?_⟩
 ·unfold qgh;rw [<-e0,<-e1];exact h
 ·unfold qbj;rw [<-e0,<-e1]
theorem qzq {B:BL} {e a:Nat} {g q:Int} (h:qgh B e a g q):((qbj B a).size:Int)=RM.q0i (gB B a) 10:=(RM.qkv _ _ h.2.2.2.2.2.2.1).2.1
theorem jif {B:BL} {e a:Nat} {g q:Int} (h:qgh B e a g q):a+1+(RM.q0w ((qbj B a).size:Int)).toNat<=e:=by rw [qzq h];exact h.2.2.2.2.2.1
theorem q4k {B:BL} {e:Nat} {g:Int} (m a:Nat) (its:BL) (h:qgh B e a g (its.length:Int)):q3a B e g (m+1) a its=q3a B e g m (a+1+(RM.q0w ((qbj B a).size:Int)).toNat) (its ++ [qbj B a]):=by
 conv=>lhs;unfold q3a
 rw [if_pos h]
theorem q9k {B:BL} {e:Nat} {g:Int} : ∀(m a:Nat) (its:BL),a<=(q3a B e g m a its).2
 | 0,a,its=>Nat.le_refl _
 | m+1,a,its=>by
  by_cases h:qgh B e a g (its.length:Int)
  ·rw [q4k m a its h]
   have:=q9k (B:=B) (e:=e) (g:=g) m (a+1+(RM.q0w ((qbj B a).size:Int)).toNat) (its ++ [qbj B a])
   omega
  ·rw [q29 _ a its h];exact Nat.le_refl _
theorem qps {B:BL} {e:Nat} {g:Int} : ∀(m a:Nat) (its:BL),a<=e->(q3a B e g m a its).2<=e
 | 0,a,its,ha=>ha
 | m+1,a,its,ha=>by
  by_cases h:qgh B e a g (its.length:Int)
  ·rw [q4k m a its h]
   exact qps m _ _ (jif h)
  ·rw [q29 _ a its h];exact ha
theorem qtj {B:BL} {e:Nat} {g:Int} : ∀(m a:Nat) (its:BL),its.length<=a->(q3a B e g m a its).1.length<=(q3a B e g m a its).2
 | 0,a,its,ha=>ha
 | m+1,a,its,ha=>by
  by_cases h:qgh B e a g (its.length:Int)
  ·rw [q4k m a its h]
   exact qtj m _ _ (by simp only [List.length_append,List.length_cons,List.length_nil];omega)
  ·rw [q29 _ a its h];exact ha
theorem qgz {B:BL} {e:Nat} {g:Int} : ∀(m a:Nat) (its:BL),(∀x∈its,x.size<=4096)->∀x∈(q3a B e g m a its).1,x.size<=4096
 | 0,a,its,ha=>ha
 | m+1,a,its,ha=>by
  by_cases h:qgh B e a g (its.length:Int)
  ·rw [q4k m a its h]
   refine qgz m _ _ (fun x hx=>?_)
   rcases List.mem_append.1 hx with h1|h1
   ·exact ha x h1
   ·obtain rfl:x=qbj B a:=by simpa using h1
    exact j0i h
  ·rw [q29 _ a its h];exact ha
theorem qku {B:BL} {e:Nat} {g:Int} : ∀(m a:Nat) (its:BL),e - a<=m->¬ qgh B e (q3a B e g m a its).2 g (((q3a B e g m a its).1.length:Nat):Int)
 | 0,a,its,hm=>fun h=>absurd (show a<e from h.1) (by omega)
 | m+1,a,its,hm=>by
  by_cases h:qgh B e a g (its.length:Int)
  ·rw [q4k m a its h]
   have:=h.1
   exact qku m _ _ (by omega)
  ·rw [q29 _ a its h];exact h
theorem qae {B X:BL} {e:Nat} {g:Int} (hB:e<=B.length) (hX:e<=X.length) : ∀(m a:Nat) (its:BL),e - a<=m->alike B X a (q3a B e g m a its).2 ->
  q3a X e g m a its=q3a X e g m (q3a B e g m a its).2 (q3a B e g m a its).1:=by
 intro m
 induction m with
 | zero=>intro a its hm hal;rfl
 | succ m ihm =>
  intro a its hm hal
  by_cases h:qgh B e a g (its.length:Int)
  ·have e1:=q4k m a its h
   have hs:=qzq h
   have ha:a<e:=h.1
   have hxx:=fun hal'=>qma (X:=X) hB hX h hal'
   have e2:=fun hx=>q4k (B:=X) (e:=e) (g:=g) m a its hx
   rw [<-hs] at hxx
   rw [e1] at hal ⊢
   clear e1 hs
   obtain ⟨x,hx0⟩ : ∃ x,qbj B a=x:=⟨_,rfl⟩
   rw [hx0] at hal hxx ⊢
   obtain ⟨k,hk⟩ : ∃ k,(RM.q0w (x.size:Int)).toNat=k:=⟨_,rfl⟩
   rw [hk] at hal hxx ⊢
   have hge:=q9k (B:=B) (e:=e) (g:=g) m (a+1+k) (its ++ [x])
   have ih:=ihm (a+1+k) (its ++ [x]) (by omega) (fun j h1 h2=>hal j (by omega) h2)
   obtain ⟨p,hp⟩ : ∃ p,q3a B e g m (a+1+k) (its ++ [x])=p:=⟨_,rfl⟩
   rw [hp] at hal hge ih ⊢
   obtain ⟨q1,q2⟩:=hxx (fun j h1 h2=>hal j h1 (by omega))
   rw [e2 q1,q2,hk,ih]
   exact qef m (m+1) _ _ (by omega) (by omega)
  ·rw [q29 _ a its h]
def bad (x:ByteArray) (g:Int) (q:Nat):Prop:=RM.q1w x/\RM.q2x x=2/\RM.q0i x 2=g/\(q:Int)<=RM.q0i x 6
instance (x:ByteArray) (g:Int) (q:Nat):Decidable (bad x g q):=by unfold bad;infer_instance
def q8n (B:BL) (lo e:Nat) (g:Int) (q:Nat):Prop:=∀j,j<e->lo<=j->¬ bad (gB B j) g q
instance (B:BL) (lo e:Nat) (g:Int) (q:Nat):Decidable (q8n B lo e g q):=by unfold q8n;infer_instance
theorem j9j {X:BL} {e a:Nat} {g:Int} {q:Nat} (h:a<e->¬ bad (gB X a) g q) : ¬ qgh X e a g (q:Int):=fun hr=>h hr.1 ⟨hr.2.1,hr.2.2.1,hr.2.2.2.1,by rw [hr.2.2.2.2.1];exact Int.le_refl _⟩
def q3m (B:BL) (f:Nat):Int:=(qj7 (gB B f)).2.1
def qa6 (B:BL) (f:Nat):Prop:=gB B f=RM.q1b 1 (q3m B f) 0 0 1
instance (B:BL) (f:Nat):Decidable (qa6 B f):=by unfold qa6;infer_instance
theorem q7k (B:BL) (f:Nat):0<=q3m B f/\q3m B f<=1073741824:=by
 unfold q3m qj7
 by_cases c:RM.q1w (gB B f)
 ·rw [if_pos c];exact c.2.1.2.1
 ·rw [if_neg c];exact ⟨Int.le_refl _,by decide⟩
theorem qao {g:Int} (h:0<=g/\g<=1073741824):RM.may 1 g 0 0 1:=⟨Or.inl rfl,h,by decide,by decide,SM.j8w⟩
theorem qhb {B:BL} {f:Nat} {g:Int} (h:0<=g/\g<=1073741824) (hb:gB B f=RM.q1b 1 g 0 0 1):q3m B f=g:=by
 have hm:=qao h
 have h1:=(RM.qj6 1 g 0 0 1 hm).1
 obtain ⟨_,h2,_⟩:=RM.q82 1 g 0 0 1 hm
 unfold q3m qj7
 rw [hb,if_pos h1]
 show RM.q0i (RM.q1b 1 g 0 0 1) 2=g
 rw [RM.q5n _ _ _ _ _ hm];exact h2
def q3o (B:BL) (f z:Nat):BL×Nat:=q3a B (f+z) (q3m B f) (z - 1) (f+1) []
def qum (B X:BL) (nx k:Nat) (p:ByteArray):Prop:=X.length=B.length/\∀j,gB X j=gB B j \/ ∃ i,i<k/\j=nx+1+i/\gB X j=RM.sec p i
def qtb (B X:BL) (nx k:Nat) (p h:ByteArray):Prop:=X.length=B.length/\(∀j,(j<nx\/nx+k<j)->gB X j=gB B j)/\gB X nx=h/\∀i,i<k->gB X (nx+1+i)=RM.sec p i
theorem jh1 {B X:BL} {f z k:Nat} {p:ByteArray} (hz:1<=z) (hB:f+z<=B.length) (hcl:q8n B (q3o B f z).2 (f+z) (q3m B f) (q3o B f z).1.length) (h:qum B X (q3o B f z).2 k p) :
  q3m X f=q3m B f/\(qa6 B f->qa6 X f)/\q3o X f z=q3o B f z/\q8n X (q3o X f z).2 (f+z) (q3m X f) (q3o X f z).1.length:=by
 obtain ⟨hl,ha⟩:=h
 have hge:f+1<=(q3o B f z).2:=q9k _ _ _
 have same : ∀j,j<=(q3o B f z).2->gB X j=gB B j:=fun j hj=>by
  rcases ha j with h|⟨i,_,h,_⟩
  ·exact h
  ·omega
 have e0:=same f (by omega)
 have eg:q3m X f=q3m B f:=by unfold q3m;rw [e0]
 have eo:q3o X f z=q3o B f z:=by
  have h1:=qae (g:=q3m B f) hB (hl ▸ hB) (z - 1) (f+1) [] (by omega) (fun j h1 h2=>(same j (Nat.le_of_lt h2)).symm)
  unfold q3o at hcl same ⊢
  rw [eg,h1,q29]
  apply j9j
  intro hlt
  rw [same _ (Nat.le_refl _)]
  exact hcl _ hlt (Nat.le_refl _)
 refine ⟨eg,fun hb=>?_,eo,?_⟩
 ·unfold qa6 at hb ⊢;rw [eg,e0];exact hb
 ·rw [eo,eg]
  intro j h1 h2
  rcases ha j with h|⟨i,_,_,h⟩
  ·rw [h];exact hcl j h1 h2
  ·rw [h];exact fun hb=>RM.qfe p i hb.1
theorem j5o {B X:BL} {f z:Nat} {p:ByteArray} (hz:1<=z) (hB:f+z<=B.length) (hcl:q8n B (q3o B f z).2 (f+z) (q3m B f) (q3o B f z).1.length) (hp:p.size<=4096) (hq:(q3o B f z).1.length<=65535)
  (hr:(q3o B f z).2+1+RM.q1e p<=f+z) (h:qtb B X (q3o B f z).2 (RM.q1e p) p (RM.q1b 2 (q3m B f) ((q3o B f z).1.length:Int) (p.size:Int) (SM.q1k 1 p.data.toList))) :
  q3m X f=q3m B f/\(qa6 B f->qa6 X f)/\q3o X f z=((q3o B f z).1 ++ [p],(q3o B f z).2+1+RM.q1e p)/\q8n X (q3o X f z).2 (f+z) (q3m X f) (q3o X f z).1.length:=by
 obtain ⟨hl,ha,hh,hs⟩:=h
 have hge:f+1<=(q3o B f z).2:=q9k _ _ _
 have e0:=ha f (Or.inl (by omega))
 have eg:q3m X f=q3m B f:=by unfold q3m;rw [e0]
 have hm:RM.may 2 (q3m B f) ((q3o B f z).1.length:Int) (p.size:Int) (SM.q1k 1 p.data.toList):=⟨Or.inr rfl,q7k B f,⟨by omega,by omega⟩,⟨by omega,by omega⟩,SM.q54 _ _⟩
 have hread:=(RM.qj6 _ _ _ _ _ hm).1
 obtain ⟨n1,n2,n3,n4,n5⟩:=RM.q82 _ _ _ _ _ hm
 rw [<-RM.q5n _ _ _ _ _ hm] at n1 n2 n3 n4 n5
 rw [<-hh] at n1 n2 n3 n4 n5 hread
 have hck:(RM.q0w (p.size:Int)).toNat=RM.q1e p:=by rw [RM.q9l p hp];omega
 have ecut:(X.drop ((q3o B f z).2+1)).take (RM.q1e p)=RM.qfj p:=by
  apply List.ext_getElem
  ·rw [List.length_take,List.length_drop,RM.q2y];omega
  ·intro i h1 h2
   rw [RM.q2y] at h2
   rw [List.getElem_take,List.getElem_drop]
   have:=hs i h2
   rw [j33 (by omega)] at this
   rw [this]
   simp [RM.qfj]
 have erec:qgh X (f+z) (q3o B f z).2 (q3m B f) ((q3o B f z).1.length:Int)/\qbj X (q3o B f z).2=p:=by
  have eb:qbj X (q3o B f z).2=p:=by
   unfold qbj
   rw [n4,hck,ecut];exact RM.qqr p hp
  refine ⟨⟨by omega,hread,n1,n2,n3,?_,?_,?_⟩,eb⟩
  ·rw [n4,hck];exact hr
  ·rw [n4,hck,ecut];exact RM.qkn p hp
  ·rw [n4,hck,ecut,n5,RM.qqr p hp]
 have hbad : ∀j,j<f+z->(q3o B f z).2+1+RM.q1e p<=j->¬ bad (gB X j) (q3m B f) (((q3o B f z).1 ++ [p]).length):=fun j h1 h2 hb=>by
  rw [ha j (Or.inr (by omega))] at hb
  refine hcl j h1 (by omega) ⟨hb.1,hb.2.1,hb.2.2.1,?_⟩
  have:=hb.2.2.2
  rw [List.length_append,List.length_cons,List.length_nil] at this
  omega
 have eo:q3o X f z=((q3o B f z).1 ++ [p],(q3o B f z).2+1+RM.q1e p):=by
  have h1:=qae (g:=q3m B f) hB (hl ▸ hB) (z - 1) (f+1) [] (by omega) (fun j h1 h2=>(ha j (Or.inl h2)).symm)
  have hstep:=q4k (B:=X) (e:=f+z) (g:=q3m B f) (z - 2) (q3o B f z).2 (q3o B f z).1 erec.1
  rw [erec.2,hck,q29 _ _ _ (j9j (fun hlt=>hbad _ hlt (Nat.le_refl _))),show z - 2+1=z - 1 from by omega] at hstep
  show q3a X (f+z) (q3m X f) (z - 1) (f+1) []=_
  rw [eg,h1]
  exact hstep
 refine ⟨eg,fun hb=>?_,eo,?_⟩
 ·unfold qa6 at hb ⊢;rw [eg,e0];exact hb
 ·rw [eo,eg]
  exact hbad
end YthpgnliicpejoaaGreatDoor.AM
end Go.Proofs
namespace Go.Proofs
open Go.RowKit
set_option linter.unusedVariables false
set_option linter.unusedSimpArgs false
namespace YthpgnliicpejoaaGreatDoor.AM
theorem qk2 {s:ByteArray} (h:s.size=32):DM.q5p s=s:=by
 have hl:s.data.toList.length=32:=by simpa using h
 unfold DM.q5p RM.qfr
 rw [hl]
 simp only [Nat.sub_self,List.replicate_zero,List.append_nil]
 exact RM.qx7 s
theorem qcw (d:DM.Dk) (l m:List DM.Ac):DM.runK d (l++m)=DM.runK (DM.runK d l) m:=by unfold DM.runK;rw [List.foldl_append]
theorem q5b (B:BL) : ∀(l:List DM.Ac) (c:List DM.Wr),(∀a∈l,a.1=false)->DM.runK ⟨B,c⟩ l=⟨B,c++l.map fun a=>(a.2.1,DM.q5p a.2.2)⟩
 | [],c,_=>by simp [DM.runK]
 | a::l,c,h=>by
  have ha:a.1=false:=h a (List.mem_cons_self ..)
  have e:DM.q6k ⟨B,c⟩ a=⟨B,c ++ [(a.2.1,DM.q5p a.2.2)]⟩:=by unfold DM.q6k DM.j3i;rw [ha];rfl
  show DM.runK (DM.q6k ⟨B,c⟩ a) l=_
  rw [e,q5b B l _ (fun b hb=>h b (List.mem_cons_of_mem _ hb)),List.map_cons,List.append_assoc];rfl
theorem qru (keep:Nat->Bool) (B:BL) (c:List DM.Wr) : ∀(k:Nat),k<=c.length->∀j,gB (DM.q0m keep B c k) j=gB B j \/ ∃ p∈c,p.1.toNat=j/\gB (DM.q0m keep B c k) j=p.2
 | 0,_,j=>Or.inl rfl
 | k+1,hk,j=>by
  have ih:=qru keep B c k (by omega) j
  unfold DM.q0m
  by_cases h:keep k=true
  ·rw [if_pos h,qa3]
   have hg:c.getD k (0,⟨#[]⟩)=c[k]:=by simp [List.getD,show k<c.length from hk]
   rw [hg]
   by_cases h2:(c[k].1.toNat=j/\c[k].1.toNat<(DM.q0m keep B c k).length)
   ·rw [if_pos h2];exact Or.inr ⟨c[k],List.getElem_mem _,h2.1,rfl⟩
   ·rw [if_neg h2];exact ih
  ·rw [if_neg h];exact ih
def j6g (nx:Nat) (p:ByteArray) (k:Nat):List DM.Wr:=(List.range k).map fun i=>(((nx+1+i:Nat):Int),RM.sec p i)
theorem qx9 (nx:Nat) (p:ByteArray) (k:Nat):(j6g nx p k).length=k:=by unfold j6g;simp
theorem qme (B:BL) (nx k:Nat) (p:ByteArray) (hl:nx+k<B.length) : ∀i,i<=k->∀j,gB (DM.q0m (fun _=>true) B (j6g nx p k) i) j=if nx<j/\j<=nx+i then RM.sec p (j - nx - 1) else gB B j
 | 0,_,j=>by rw [if_neg (by omega)];rfl
 | i+1,hi,j=>by
  have ih:=qme B nx k p hl i (by omega) j
  have hg:(j6g nx p k).getD i (0,⟨#[]⟩)=(((nx+1+i:Nat):Int),RM.sec p i):=by
   rw [List.getD_eq_getElem?_getD,List.getElem?_eq_getElem (by rw [qx9];omega)]
   simp [j6g]
  unfold DM.q0m
  rw [if_pos rfl,qa3,hg,DM.q1f,ih,Int.toNat_natCast]
  by_cases h:nx+1+i=j
  ·rw [if_pos ⟨h,by omega⟩,if_pos ⟨by omega,by omega⟩,show j - nx - 1=i from by omega]
  ·rw [if_neg (fun h2=>h h2.1)]
   by_cases h2:nx<j/\j<=nx+i
   ·rw [if_pos h2,if_pos ⟨h2.1,by omega⟩]
   ·rw [if_neg h2,if_neg (fun h3=>h2 ⟨h3.1,by omega⟩)]
def qk4 (nx:Nat) (p:ByteArray) (k:Nat):List DM.Ac:=(List.range k).map fun i=>(false,((nx+1+i:Nat):Int),RM.sec p i)
def flA:DM.Ac:=(true,0,⟨#[]⟩)
def qb5 (nx:Nat) (p h:ByteArray):List DM.Ac:=qk4 nx p (RM.q1e p) ++ [flA,(false,(nx:Int),h),flA]
theorem q7p (nx:Nat) (p:ByteArray) (k:Nat):(qk4 nx p k).length=k:=by unfold qk4;simp
theorem q9f (nx:Nat) (p h:ByteArray):(qb5 nx p h).length=RM.q1e p+3:=by unfold qb5;rw [List.length_append,q7p];rfl
theorem qml (nx:Nat) (p:ByteArray) (k:Nat) : ∀a∈qk4 nx p k,a.1=false:=fun a ha=>by
 obtain ⟨i,_,rfl⟩:=List.mem_map.1 ha;rfl
theorem qyv (nx:Nat) (p:ByteArray) (k:Nat):((qk4 nx p k).map fun a=>(a.2.1,DM.q5p a.2.2))=j6g nx p k:=by
 unfold qk4 j6g
 rw [List.map_map]
 exact List.map_congr_left fun i _=>by simp only [Function.comp,qk2 (RM.qcp p i)]
theorem qpo {n nx:Nat} {p h:ByteArray} (hl:nx+RM.q1e p<n) (hh:h.size=32) : ∀a∈qb5 nx p h,DM.q3y n a:=fun a ha=>by
 rcases List.mem_append.1 ha with h1|h1
 ·obtain ⟨i,hi,rfl⟩:=List.mem_map.1 h1
  have:=List.mem_range.1 hi
  refine Or.inr ?_
  unfold DM.q20
  rw [if_pos (show DM.inD n ((nx+1+i:Nat):Int) from ⟨by omega,by omega⟩),if_neg (by simp only [RM.qcp];omega)]
 ·simp only [List.mem_cons,List.not_mem_nil,or_false] at h1
  rcases h1 with rfl|rfl|rfl
  ·exact Or.inl rfl
  ·refine Or.inr ?_
   unfold DM.q20
   rw [if_pos ⟨by simp only;omega,by simp only;omega⟩,if_neg (by simp only [hh];omega)]
  ·exact Or.inl rfl
theorem j04 {d:DM.Dk} {l:List DM.Ac} (hm:DM.q2s d) (h : ∀a∈l,DM.q3y d.secs.length a):DM.qp4 d l=0/\DM.qui d l=DM.runK d l/\DM.q2s (DM.runK d l):=by
 have h1:=DM.qdo _ _ h
 refine ⟨?_,?_,DM.qdx hm h⟩
 ·unfold DM.qp4;rw [if_pos hm,h1]
 ·unfold DM.qui;rw [if_pos ⟨hm,h1⟩]
theorem qin {B S:BL} {nx:Nat} {p h:ByteArray} (hl:nx+RM.q1e p<B.length) (hS:S.length=B.length) (hs : ∀j,gB S j=if nx<j/\j<=nx+RM.q1e p then RM.sec p (j - nx - 1) else gB B j):qtb B (S.set nx h) nx (RM.q1e p) p h:=by
 refine ⟨by rw [List.length_set];exact hS,fun j hj=>?_,?_,fun i hi=>?_⟩
 ·rw [qa3,if_neg (by omega),hs,if_neg (by omega)]
 ·rw [qa3,if_pos ⟨rfl,by omega⟩]
 ·rw [qa3,if_neg (by omega),hs,if_pos (by omega)]
  congr 1;omega
theorem qcn {B S:BL} {nx:Nat} {p:ByteArray} (hS:S.length=B.length) (hs : ∀j,gB S j=if nx<j/\j<=nx+RM.q1e p then RM.sec p (j - nx - 1) else gB B j):qum B S nx (RM.q1e p) p:=by
 refine ⟨hS,fun j=>?_⟩
 by_cases h:nx<j/\j<=nx+RM.q1e p
 ·refine Or.inr ⟨j - nx - 1,by omega,by omega,?_⟩
  rw [hs,if_pos h]
 ·refine Or.inl ?_
  rw [hs,if_neg h]
theorem qjz (B:BL) (nx:Nat) (p h:ByteArray) (N:Nat) (keep:Nat->Bool) (hl:nx+RM.q1e p<B.length) (hh:h.size=32) :
  ∃ X,DM.q1n keep (DM.runK ⟨B,[]⟩ ((qb5 nx p h).take N))=⟨X,[]⟩/\(N<=RM.q1e p+1->qum B X nx (RM.q1e p) p)/\(RM.q1e p+3<=N->qtb B X nx (RM.q1e p) p h)/\(qum B X nx (RM.q1e p) p\/qtb B X nx (RM.q1e p) p h) /\
   (RM.q1e p+3<=N->DM.runK ⟨B,[]⟩ ((qb5 nx p h).take N)=⟨X,[]⟩):=by
 obtain ⟨S,hSd⟩ : ∃ S,DM.q0m (fun _=>true) B (j6g nx p (RM.q1e p)) (RM.q1e p)=S:=⟨_,rfl⟩
 have hS:S.length=B.length:=by rw [<-hSd,DM.q1f]
 have hs:=qme B nx (RM.q1e p) p hl (RM.q1e p) (Nat.le_refl _)
 rw [hSd] at hs
 have e1:DM.runK ⟨B,[]⟩ (qk4 nx p (RM.q1e p) ++ [flA])=⟨S,[]⟩:=by
  rw [qcw,q5b B _ _ (qml nx p (RM.q1e p)),List.nil_append,qyv]
  show DM.q1n _ _=_
  unfold DM.q1n
  simp only [qx9]
  rw [hSd]
 by_cases c1:N<=RM.q1e p
 ·have et:(qb5 nx p h).take N=(qk4 nx p (RM.q1e p)).take N:=by unfold qb5;rw [List.take_append_of_le_length (by rw [q7p];exact c1)]
  have hA:qum B (DM.q0m keep B ((j6g nx p (RM.q1e p)).take N) ((j6g nx p (RM.q1e p)).take N).length) nx (RM.q1e p) p:=by
   refine ⟨DM.q1f ..,fun j=>?_⟩
   rcases qru keep B ((j6g nx p (RM.q1e p)).take N) _ (Nat.le_refl _) j with h1|⟨q,hq,h2,h3⟩
   ·exact Or.inl h1
   ·obtain ⟨i,hi,rfl⟩:=List.mem_map.1 (List.mem_of_mem_take hq)
    exact Or.inr ⟨i,List.mem_range.1 hi,by rw [<-h2];exact Int.toNat_natCast _,h3⟩
  refine ⟨_,?_,fun _=>hA,fun h=>by omega,Or.inl hA,fun h=>by omega⟩
  rw [et,q5b B _ _ (fun a ha=>qml _ _ _ a (List.mem_of_mem_take ha)),List.nil_append,List.map_take,qyv]
  rfl
 ·by_cases c2:N=RM.q1e p+1
  ·have et:(qb5 nx p h).take N=qk4 nx p (RM.q1e p) ++ [flA]:=by
    subst c2;unfold qb5
    rw [show RM.q1e p+1=(qk4 nx p (RM.q1e p)).length+1 from by rw [q7p],List.take_length_add_append];rfl
   rw [et,e1]
   exact ⟨S,rfl,fun _=>qcn hS hs,fun h=>by omega,Or.inl (qcn hS hs),fun h=>by omega⟩
  ·by_cases c3:N=RM.q1e p+2
   ·have et:(qb5 nx p h).take N=(qk4 nx p (RM.q1e p) ++ [flA]) ++ [(false,(nx:Int),h)]:=by
     subst c3;unfold qb5
     rw [show RM.q1e p+2=(qk4 nx p (RM.q1e p)).length+2 from by rw [q7p],List.take_length_add_append,List.append_assoc];rfl
    have er:DM.runK ⟨B,[]⟩ ((qk4 nx p (RM.q1e p) ++ [flA]) ++ [(false,(nx:Int),h)])=⟨S,[((nx:Int),h)]⟩:=by
     rw [qcw,e1,q5b S _ _ (fun a ha=>by obtain rfl:a=_:=List.mem_singleton.1 ha;rfl)]
     simp only [List.map_cons,List.map_nil,List.nil_append,qk2 hh]
    rw [et,er]
    by_cases hk:keep 0=true
    ·refine ⟨S.set nx h,?_,fun h=>by omega,fun h=>by omega,Or.inr (qin hl hS hs),fun h=>by omega⟩
     show DM.Dk.mk (DM.q0m keep S [((nx:Int),h)] 1) []=_
     unfold DM.q0m DM.q0m
     rw [if_pos hk];rfl
    ·refine ⟨S,?_,fun _=>qcn hS hs,fun h=>by omega,Or.inl (qcn hS hs),fun h=>by omega⟩
     show DM.Dk.mk (DM.q0m keep S [((nx:Int),h)] 1) []=_
     unfold DM.q0m DM.q0m
     rw [if_neg hk]
   ·have et:(qb5 nx p h).take N=(qk4 nx p (RM.q1e p) ++ [flA]) ++ [(false,(nx:Int),h),flA]:=by
     rw [List.take_of_length_le (by rw [q9f];omega)]
     unfold qb5;rw [List.append_assoc];rfl
    have er:DM.runK ⟨B,[]⟩ ((qk4 nx p (RM.q1e p) ++ [flA]) ++ [(false,(nx:Int),h),flA])=⟨S.set nx h,[]⟩:=by
     rw [qcw,e1]
     show DM.q1n (fun _=>true) ⟨S,[] ++ [((nx:Int),DM.q5p h)]⟩=_
     rw [qk2 hh]
     show DM.Dk.mk (DM.q0m (fun _=>true) S [((nx:Int),h)] 1) []=_
     unfold DM.q0m DM.q0m
     rw [if_pos rfl];rfl
    rw [et,er]
    exact ⟨S.set nx h,rfl,fun h=>by omega,fun _=>qin hl hS hs,Or.inr (qin hl hS hs),fun _=>rfl⟩
end YthpgnliicpejoaaGreatDoor.AM
end Go.Proofs
