
import Derived.Test.YthpgnliicpejoaaGreatDoorVz19
import Derived.Test.YthpgnliicpejoaaGreatDoorVz5
import Derived.Test.YthpgnliicpejoaaGreatDoorVz18
import Derived.Test.YthpgnliicpejoaaGreatDoorVz10
namespace Go.Proofs.YthpgnliicpejoaaGreatDoor.AM
open Go.RowKit
set_option linter.unusedVariables false
set_option maxRecDepth 20000
def qv3 (n:Nat):List LC:=[]
def qhx (n:Nat) (a1:Int×(Int)):Option (Bool) :=
 (bif decide ((0:Int)<=a1.1) then (bif decide ((2:Int)<=a1.2) then q1i (IntKind.wrap .i64 ((512:Int) - a1.1)) fun (n1:Int)=>some (decide (a1.2<=n1)) else some false) else some false)
def q8t (n:Nat):FC:={ f:=85,args:=[.one (.agg [.d (.int .i64),.d (.int .i64)])],res:=.one (.c (.d .bool)),F:=fun p=>qhx n p }
def j1n (n:Nat):List FC:=[]
theorem j2p (n:Nat) {G:World->Prop} (hG:Know Inv G) : ∀c∈j1n n,q44 Tryz.prog G c/\q1o c.args=true:=(fun _ h=>by cases h)
def j04:q1m:=[]
theorem je3:drB j04 (q0g Tryz.f85)=true:=by kernel_rfl
theorem je4 (n:Nat) : ∀a,(q8t n).F a=main Tryz.prog 19 (j1n n) (qv3 n) j04 (q0g Tryz.f85) [.tmp 2] (q8t n).args (q8t n).res a:=by intro a;kernel_rfl
theorem qra (n:Nat):q1a Inv Tryz.prog (q8t n):=fun G hG=>⟨⟨by kernel_rfl,fun a r h=>q0y (c:=q0g Tryz.f85) Tryz.func85 (by kernel_rfl) (by kernel_rfl) (Nat.le_of_ble_eq_true (by kernel_rfl)) hG.st (by kernel_rfl) (rs:=[.tmp 2]) (by kernel_rfl) (j2p n hG) (lts:=qv3 n) (fun F hF hFG=>have hK:Know Inv F.G:=hFG ▸ hG;(q0t fun j L h1 h2 h3=>absurd h2 (Nat.not_lt.2 (Nat.le_trans (by decide +kernel) h1)))) je3 ((je4 n a).symm.trans h)⟩,rfl⟩
def qoy (n:Nat):List LC:=[]
def q8q (n:Nat) (a1:Int×(Int×(Int))):Option (Int) :=
 q1i (IntKind.wrap .i64 (a1.1+a1.2.1)) fun (n1:Int)=>q1i (IntKind.wrap .i64 (n1 - a1.2.2)) fun (n2:Int)=>some n2
def q66 (n:Nat):FC:={ f:=76,args:=[.one (.agg [.d (.int .i64),.d (.int .i64),.d (.int .i64)])],res:=.one (.c (.d (.int .i64))),F:=fun p=>q8q n p }
def qu8 (n:Nat):List FC:=[]
theorem qxz (n:Nat) {G:World->Prop} (hG:Know Inv G) : ∀c∈qu8 n,q44 Tryz.prog G c/\q1o c.args=true:=(fun _ h=>by cases h)
def qws:q1m:=[]
theorem j8f:drB qws (q0g Tryz.f76)=true:=by kernel_rfl
theorem j8i (n:Nat) : ∀a,(q66 n).F a=main Tryz.prog 13 (qu8 n) (qoy n) qws (q0g Tryz.f76) [.tmp 2] (q66 n).args (q66 n).res a:=by intro a;kernel_rfl
theorem qmi (n:Nat):q1a Inv Tryz.prog (q66 n):=fun G hG=>⟨⟨by kernel_rfl,fun a r h=>q0y (c:=q0g Tryz.f76) Tryz.func76 (by kernel_rfl) (by kernel_rfl) (Nat.le_of_ble_eq_true (by kernel_rfl)) hG.st (by kernel_rfl) (rs:=[.tmp 2]) (by kernel_rfl) (qxz n hG) (lts:=qoy n) (fun F hF hFG=>have hK:Know Inv F.G:=hFG ▸ hG;(q0t fun j L h1 h2 h3=>absurd h2 (Nat.not_lt.2 (Nat.le_trans (by decide +kernel) h1)))) j8f ((j8i n a).symm.trans h)⟩,rfl⟩
def qw6 (n:Nat):List LC:=[]
def qom (n:Nat) (a1:Int×(Int×(Int))) (a2:Int):Option (Int×(Int×(Int))) :=
 (q6t a2).bind fun (r1:Int)=>q1i (IntKind.wrap .i64 ((1:Int)+r1)) fun (n2:Int)=>q1i (IntKind.wrap .i64 (a1.2.2+n2)) fun (n3:Int)=>some (a1.1,(a1.2.1,n3))
def qbe (n:Nat):FC:={ f:=121,args:=[.one (.agg [.d (.int .i64),.d (.int .i64),.d (.int .i64)]),.one (.c (.d (.int .i64)))],res:=.one (.agg [.d (.int .i64),.d (.int .i64),.d (.int .i64)]),F:=fun p=>qom n p.1 p.2 }
def j46 (n:Nat):List FC:=[qa4]
theorem j1t (n:Nat) {G:World->Prop} (hG:Know Inv G) : ∀c∈j46 n,q44 Tryz.prog G c/\q1o c.args=true:=List.forall_mem_cons.2 ⟨qg6 G hG,(fun _ h=>by cases h)⟩
def j2v:q1m:=[(1,[⟨196800,32768,0⟩,⟨1605760,2^18,1⟩,⟨12582920,2^21,0⟩,⟨49*2^21,2^24,4⟩,⟨49*2^24,2^27,12⟩,⟨6576930816,2^30,31⟩,⟨51539607744,2^33,63⟩,⟨9663676544,128,127⟩]),(1000001,[])]
theorem jcv:drB j2v (q0g Tryz.f121)=true:=by kernel_rfl
theorem jdg (n:Nat) : ∀a,(qbe n).F a=main Tryz.prog 13 (j46 n) (qw6 n) j2v (q0g Tryz.f121) [.cell 4 140] (qbe n).args (qbe n).res a:=by intro a;kernel_rfl
theorem j2w (n:Nat):q1a Inv Tryz.prog (qbe n):=fun G hG=>⟨⟨by kernel_rfl,fun a r h=>q0y (c:=q0g Tryz.f121) Tryz.func121 (by kernel_rfl) (by kernel_rfl) (Nat.le_of_ble_eq_true (by kernel_rfl)) hG.st (by kernel_rfl) (rs:=[.cell 4 140]) (by kernel_rfl) (j1t n hG) (lts:=qw6 n) (fun F hF hFG=>have hK:Know Inv F.G:=hFG ▸ hG;(q0t fun j L h1 h2 h3=>absurd h2 (Nat.not_lt.2 (Nat.le_trans (by decide +kernel) h1)))) jcv ((jdg n a).symm.trans h)⟩,rfl⟩
def qva (n:Nat):List LC:=[]
def qpp (n:Nat) (a1:Int×(Int×(Int))):Option (Bool) :=
 (qhx n (a1.1,a1.2.1)).bind fun (r1:Bool)=>(bif r1 then (bif decide (a1.1<a1.2.2) then q1i (IntKind.wrap .i64 (a1.1+a1.2.1)) fun (n2:Int)=>some (decide (a1.2.2<=n2)) else some false) else some false)
def qb6 (n:Nat):FC:={ f:=75,args:=[.one (.agg [.d (.int .i64),.d (.int .i64),.d (.int .i64)])],res:=.one (.c (.d .bool)),F:=fun p=>qpp n p }
def j1b (n:Nat):List FC:=[q8t n]
theorem j1m (n:Nat) {G:World->Prop} (hG:Know Inv G) : ∀c∈j1b n,q44 Tryz.prog G c/\q1o c.args=true:=List.forall_mem_cons.2 ⟨qra n G hG,(fun _ h=>by cases h)⟩
def qzw:q1m:=[]
theorem jck:drB qzw (q0g Tryz.f75)=true:=by kernel_rfl
theorem jd5 (n:Nat) : ∀a,(qb6 n).F a=main Tryz.prog 26 (j1b n) (qva n) qzw (q0g Tryz.f75) [.tmp 2] (qb6 n).args (qb6 n).res a:=by intro a;kernel_rfl
theorem j2b (n:Nat):q1a Inv Tryz.prog (qb6 n):=fun G hG=>⟨⟨by kernel_rfl,fun a r h=>q0y (c:=q0g Tryz.f75) Tryz.func75 (by kernel_rfl) (by kernel_rfl) (Nat.le_of_ble_eq_true (by kernel_rfl)) hG.st (by kernel_rfl) (rs:=[.tmp 2]) (by kernel_rfl) (j1m n hG) (lts:=qva n) (fun F hF hFG=>have hK:Know Inv F.G:=hFG ▸ hG;(q0t fun j L h1 h2 h3=>absurd h2 (Nat.not_lt.2 (Nat.le_trans (by decide +kernel) h1)))) jck ((jd5 n a).symm.trans h)⟩,rfl⟩
def qq8 (n:Nat):List LC:=[]
def q91 (n:Nat) (a1:Int) (a2:Int) (a3:Int) (a4:List UInt8):Option ((List UInt8)×(Bool)) :=
 (qsp a1 a2 a3 a4).bind fun (r1:(Int×(Int×(Int×(Int×(Int)))))×(Bool))=>(bif !r1.2 then some (([]:List UInt8),false) else (qr7 r1.1).bind fun (r2:(List UInt8)×(Bool))=>some r2)
def q37 (n:Nat):FC:={ f:=78,args:=[.one (.c (.d (.int .i64))),.one (.c (.d (.int .i64))),.one (.c (.d (.int .i64))),.one (.c (.d .str))],res:=.tup [.c (.d .str),.c (.d .bool)],F:=fun p=>q91 n p.1 p.2.1 p.2.2.1 p.2.2.2 }
def qui (n:Nat):List FC:=[qwl,qu1]
theorem qx0 (n:Nat) {G:World->Prop} (hG:Know Inv G) : ∀c∈qui n,q44 Tryz.prog G c/\q1o c.args=true:=List.forall_mem_cons.2 ⟨j7z G hG,List.forall_mem_cons.2 ⟨j8b G hG,(fun _ h=>by cases h)⟩⟩
def qts:q1m:=[]
theorem j99:drB qts (q0g Tryz.f78)=true:=by kernel_rfl
theorem j6c (n:Nat) : ∀a,(q37 n).F a=main Tryz.prog 26 (qui n) (qq8 n) qts (q0g Tryz.f78) [.tmp 8,.tmp 9] (q37 n).args (q37 n).res a:=by intro a;kernel_rfl
theorem qdr (n:Nat):q1a Inv Tryz.prog (q37 n):=fun G hG=>⟨⟨by kernel_rfl,fun a r h=>q0y (c:=q0g Tryz.f78) Tryz.func78 (by kernel_rfl) (by kernel_rfl) (Nat.le_of_ble_eq_true (by kernel_rfl)) hG.st (by kernel_rfl) (rs:=[.tmp 8,.tmp 9]) (by kernel_rfl) (qx0 n hG) (lts:=qq8 n) (fun F hF hFG=>have hK:Know Inv F.G:=hFG ▸ hG;(q0t fun j L h1 h2 h3=>absurd h2 (Nat.not_lt.2 (Nat.le_trans (by decide +kernel) h1)))) j99 ((j6c n a).symm.trans h)⟩,rfl⟩
def qwt (n:Nat):List LC:=[]
def qv9 (n:Nat) (a1:(List (List UInt8))×(List ((Int)×(List UInt8)))) (a2:Int×(Int)):Option ((List (List UInt8))×(Bool)) :=
 (qhx n a2).bind fun (r1:Bool)=>(bif !r1 then some ([],false) else (qrh a1).bind fun (r2:((List (List UInt8))×(List ((Int)×(List UInt8))))×(Int))=>(bif !decide (r2.2=(0:Int)) then some ([],false) else q1i (IntKind.wrap .i64 (a2.1+a2.2)) fun (n3:Int)=>(bif decide (((List.length r2.1.1:Nat):Int)<n3) then some ([],false) else some (r2.1.1,true))))
def qei (n:Nat):FC:={ f:=118,args:=[.one (.agg [.d (.lst .str),.d (.lst (.prod (.int .i64) .str))]),.one (.agg [.d (.int .i64),.d (.int .i64)])],res:=.tup [.c (.d (.lst .str)),.c (.d .bool)],F:=fun p=>qv9 n p.1 p.2 }
def j20 (n:Nat):List FC:=[q8t n,quj]
theorem j5m (n:Nat) {G:World->Prop} (hG:Know Inv G) : ∀c∈j20 n,q44 Tryz.prog G c/\q1o c.args=true:=List.forall_mem_cons.2 ⟨qra n G hG,List.forall_mem_cons.2 ⟨j8p G hG,(fun _ h=>by cases h)⟩⟩
def j10:q1m:=[]
theorem jdm:drB j10 (q0g Tryz.f118)=true:=by kernel_rfl
theorem jbx (n:Nat) : ∀a,(qei n).F a=main Tryz.prog 31 (j20 n) (qwt n) j10 (q0g Tryz.f118) [.tmp 4,.tmp 5] (qei n).args (qei n).res a:=by intro a;kernel_rfl
theorem jc9 (n:Nat):q1a Inv Tryz.prog (qei n):=fun G hG=>⟨⟨by kernel_rfl,fun a r h=>q0y (c:=q0g Tryz.f118) Tryz.func118 (by kernel_rfl) (by kernel_rfl) (Nat.le_of_ble_eq_true (by kernel_rfl)) hG.st (by kernel_rfl) (rs:=[.tmp 4,.tmp 5]) (by kernel_rfl) (j5m n hG) (lts:=qwt n) (fun F hF hFG=>have hK:Know Inv F.G:=hFG ▸ hG;(q0t fun j L h1 h2 h3=>absurd h2 (Nat.not_lt.2 (Nat.le_trans (by decide +kernel) h1)))) jdm ((jbx n a).symm.trans h)⟩,rfl⟩
def qw7 (n:Nat):List LC:=[]
def quh (n:Nat) (a1:Int×(Int×(Int))) (a2:List (List UInt8)) (a3:Int) (a4:Int):Option ((List UInt8)×(Bool)) :=
 (q8q n a1).bind fun (r1:Int)=>(bif decide (r1<(1:Int)) then some (([]:List UInt8),false) else (q2v a2 a1.2.2).bind fun (x2:List UInt8)=>(qfl x2).bind fun (r3:(Int×(Int×(Int×(Int×(Int)))))×(Bool))=>(bif !r3.2 then some (([]:List UInt8),false) else (bif !decide (r3.1.1=(2:Int)) then some (([]:List UInt8),false) else (bif !decide (r3.1.2.1=a3) then some (([]:List UInt8),false) else (bif !decide (r3.1.2.2.1=a4) then some (([]:List UInt8),false) else (qom n a1 r3.1.2.2.2.1).bind fun (r4:Int×(Int×(Int)))=>(q8q n r4).bind fun (r5:Int)=>(bif decide (r5<(0:Int)) then some (([]:List UInt8),false) else q1i (IntKind.wrap .i64 (a1.2.2+(1:Int))) fun (n6:Int)=>(q4a a2 n6 r4.2.2).bind fun (s7:List (List UInt8))=>(qqo s7 r3.1.2.2.2.1).bind fun (r8:(List UInt8)×(Bool))=>(bif !r8.2 then some (([]:List UInt8),false) else (qmq r8.1).bind fun (r9:Int)=>(bif !decide (r9=r3.1.2.2.2.2) then some (([]:List UInt8),false) else some (r8.1,true)))))))))
def qgn (n:Nat):FC:={ f:=120,args:=[.one (.agg [.d (.int .i64),.d (.int .i64),.d (.int .i64)]),.one (.c (.d (.lst .str))),.one (.c (.d (.int .i64))),.one (.c (.d (.int .i64)))],res:=.tup [.c (.d .str),.c (.d .bool)],F:=fun p=>quh n p.1 p.2.1 p.2.2.1 p.2.2.2 }
def j5j (n:Nat):List FC:=[q66 n,qlq,qbe n,qvj,qnj]
theorem j09 (n:Nat) {G:World->Prop} (hG:Know Inv G) : ∀c∈j5j n,q44 Tryz.prog G c/\q1o c.args=true:=List.forall_mem_cons.2 ⟨qmi n G hG,List.forall_mem_cons.2 ⟨qwa G hG,List.forall_mem_cons.2 ⟨j2w n G hG,List.forall_mem_cons.2 ⟨j79 G hG,List.forall_mem_cons.2 ⟨j4v G hG,(fun _ h=>by cases h)⟩⟩⟩⟩⟩
def j13:q1m:=[(9,[⟨4384504911992708754611054498148849058967797628936,2^159,0⟩,⟨35076039295941670036888435985190792471742381043712,2^162,0⟩,⟨286454320916856971967922227212391471852562778431488,2^165,2⟩,⟨49*2^165,2^168,6⟩,⟨261336857795280739939871698507597986398211*2^36,2^171,0⟩,⟨1067125502664063021421142768906025111126017*2^37,2^174,16⟩,⟨1606145*2^159,2^177,63⟩,⟨8563486156235759286349715816696970818296479747*2^30,2^180,0⟩,⟨34967568471296017085928006251512630841377292289*2^31,2^183,128⟩,⟨3137*2^177,2^186,511⟩,⟨536870915*2^157,2^156,1023⟩,⟨51539607553*2^156,2^189,2047⟩,⟨412316860417*2^156,2^192,2047⟩,⟨713623846352979940529142984724747568191373315*2^40,2^39,4095⟩,⟨365375409332725729550921208179070754913983135747*2^34,2^33,16383⟩]),(10,[⟨35076039295941670036888435985190792471742381031425*2^33,2^195,0⟩,⟨49*2^195,2^198,1⟩,⟨49*2^198,2^201,3⟩,⟨286454320916856971967922227212391471852562778423297*2^39,2^204,7⟩,⟨393*2^201,2^207,15⟩,⟨9197966400548586839326563309439258049336690082949627907*2^30,2^210,7⟩,⟨37547637328890903874367742738451276472471236168422260737*2^31,2^213,39⟩,⟨200769*2^201,2^216,127⟩,⟨1605633*2^201,2^219,255⟩]),(1000010,[])]
theorem jc4:drB j13 (q0g Tryz.f120)=true:=by kernel_rfl
theorem jeg (n:Nat) : ∀a,(qgn n).F a=main Tryz.prog 75 (j5j n) (qw7 n) j13 (q0g Tryz.f120) [.tmp 8,.tmp 9] (qgn n).args (qgn n).res a:=by intro a;kernel_rfl
theorem je9 (n:Nat):q1a Inv Tryz.prog (qgn n):=fun G hG=>⟨⟨by kernel_rfl,fun a r h=>q0y (c:=q0g Tryz.f120) Tryz.func120 (by kernel_rfl) (by kernel_rfl) (Nat.le_of_ble_eq_true (by kernel_rfl)) hG.st (by kernel_rfl) (rs:=[.tmp 8,.tmp 9]) (by kernel_rfl) (j09 n hG) (lts:=qw7 n) (fun F hF hFG=>have hK:Know Inv F.G:=hFG ▸ hG;(q0t fun j L h1 h2 h3=>absurd h2 (Nat.not_lt.2 (Nat.le_trans (by decide +kernel) h1)))) jc4 ((jeg n a).symm.trans h)⟩,rfl⟩
@[reducible] def qa9:SSt:=⟨[(4,.one (.c (.box 4 0))),(6,.one (.c (.d (.lst .str)))),(13,.one (.c (.box 13 0))),(14,.one (.c (.box 14 0)))],[(4,(77,[.d (.int .i64),.nil,.d (.int .i64)])),(13,(140,[.d (.int .i64),.d (.int .i64),.d (.int .i64)])),(14,(77,[.d (.int .i64),.row 75,.d (.int .i64)]))],[(75,⟨9,true,.str⟩)]⟩
@[reducible] def q6c:List (Exit×SSt):=[(.exit 0,⟨[(4,.one (.c (.box 4 0))),(13,.one (.c (.box 13 0))),(14,.one (.c (.box 14 0)))],[(4,(77,[.d (.int .i64),.nil,.d (.int .i64)])),(13,(140,[.d (.int .i64),.d (.int .i64),.d (.int .i64)])),(14,(77,[.d (.int .i64),.row 75,.d (.int .i64)]))],[(75,⟨9,true,.str⟩)]⟩)]
def qkx (n:Nat) (rec:(List (List UInt8))->Int->Int->Int->Int->Int->Int->Int->(List (List UInt8))->Option ((Unit×(Unit×(Unit×(Unit))))×((Int×(Unit×(Int)))×((Int×(Int×(Int)))×((Int×(Unit×(Int)))×(Unit))))×((List (List UInt8))×(Unit)))) (a1:List (List UInt8)) (a2:Int) (a3:Int) (a4:Int) (a5:Int) (a6:Int) (a7:Int) (a8:Int) (a9:List (List UInt8)):Option ((Unit×(Unit×(Unit×(Unit))))×((Int×(Unit×(Int)))×((Int×(Int×(Int)))×((Int×(Unit×(Int)))×(Unit))))×((List (List UInt8))×(Unit))) :=
 (quh n (a4,(a5,a6)) a1 a7 ((List.length a9:Nat):Int)).bind fun (r6:(List UInt8)×(Bool))=>(bif !r6.2 then some ((((),((),((),()))),(((a2,((),a3)),((a4,(a5,a6)),((a7,((),a8)),()))),(a9,())))) else (q94 16 a9 ([r6.1]:List (List UInt8))).bind fun (l7:List (List UInt8))=>(qom n (a4,(a5,a6)) ((List.length r6.1:Nat):Int)).bind fun (r8:Int×(Int×(Int)))=>rec a1 a2 a3 r8.1 r8.2.1 r8.2.2 a7 a8 l7)
def qjv (n:Nat) (rec:pSt qa9->Option (q2h q6c)) (p:pSt qa9):Option (q2h q6c):=qkx n (fun a1 a2 a3 a4 a5 a6 a7 a8 a9=>rec (((),(a1,((),((),())))),(((a2,((),a3)),((a4,(a5,a6)),((a7,((),a8)),()))),(a9,())))) p.1.2.1 p.2.1.1.1 p.2.1.1.2.2 p.2.1.2.1.1 p.2.1.2.1.2.1 p.2.1.2.1.2.2 p.2.1.2.2.1.1 p.2.1.2.2.1.2.2 p.2.2.1
def q64 (n m:Nat) (a1:List (List UInt8)) (a2:Int) (a3:Int) (a4:Int) (a5:Int) (a6:Int) (a7:Int) (a8:Int) (a9:List (List UInt8)):Option ((Unit×(Unit×(Unit×(Unit))))×((Int×(Unit×(Int)))×((Int×(Int×(Int)))×((Int×(Unit×(Int)))×(Unit))))×((List (List UInt8))×(Unit))):=q2z (qjv n) m (((),(a1,((),((),())))),(((a2,((),a3)),((a4,(a5,a6)),((a7,((),a8)),()))),(a9,())))
theorem qd9 (n m:Nat) (a1:List (List UInt8)) (a2:Int) (a3:Int) (a4:Int) (a5:Int) (a6:Int) (a7:Int) (a8:Int) (a9:List (List UInt8)):q64 n (m+1) a1 a2 a3 a4 a5 a6 a7 a8 a9=qkx n (fun a1 a2 a3 a4 a5 a6 a7 a8 a9=>q64 n m a1 a2 a3 a4 a5 a6 a7 a8 a9) a1 a2 a3 a4 a5 a6 a7 a8 a9:=rfl
def qu2 (n:Nat):LC:={ sh:=qa9,outs:=q6c,F:=q2z (qjv n) n }
def qg2 (n:Nat):List LC:=[qu2 n]
def qfx (n:Nat) (a1:(List (List UInt8))×(List ((Int)×(List UInt8)))) (a2:Int×(Int)):Option ((Int×((List (List UInt8))×(Int)))×(Int)) :=
 (qv9 n a1 a2).bind fun (r1:(List (List UInt8))×(Bool))=>(bif !r1.2 then some (((0:Int),([],(0:Int))),(1:Int)) else (q2v r1.1 a2.1).bind fun (x2:List UInt8)=>(qfl x2).bind fun (r3:(Int×(Int×(Int×(Int×(Int)))))×(Bool))=>((q37 n).F ((1:Int),(r3.1.2.1,((0:Int),([]:List UInt8))))).bind fun (r4:(List UInt8)×(Bool))=>(bif !r4.2 then some (((0:Int),([],(0:Int))),(5:Int)) else (bif !decide (r4.1=x2) then some (((0:Int),([],(0:Int))),(5:Int)) else q1i (IntKind.wrap .i64 (a2.1+(1:Int))) fun (n5:Int)=>(q64 n n r1.1 (0:Int) (0:Int) a2.1 a2.2 n5 r3.1.2.1 (0:Int) []).bind fun (o9:(Unit×(Unit×(Unit×(Unit))))×((Int×(Unit×(Int)))×((Int×(Int×(Int)))×((Int×(Unit×(Int)))×(Unit))))×((List (List UInt8))×(Unit)))=>some ((o9.2.1.2.2.1.1,(o9.2.2.1,o9.2.1.2.1.2.2)),(0:Int)))))
def qal (n:Nat):FC:={ f:=93,args:=[.one (.agg [.d (.lst .str),.d (.lst (.prod (.int .i64) .str))]),.one (.agg [.d (.int .i64),.d (.int .i64)])],res:=.tup [.agg [.d (.int .i64),.d (.lst .str),.d (.int .i64)],.c (.d (.int .i64))],F:=fun p=>qfx n p.1 p.2 }
def qju (n:Nat):List FC:=[qei n,qlq,q37 n,qgn n,qbe n]
theorem qi2 (n:Nat) {G:World->Prop} (hG:Know Inv G) : ∀c∈qju n,q44 Tryz.prog G c/\q1o c.args=true:=List.forall_mem_cons.2 ⟨jc9 n G hG,List.forall_mem_cons.2 ⟨qwa G hG,List.forall_mem_cons.2 ⟨qdr n G hG,List.forall_mem_cons.2 ⟨je9 n G hG,List.forall_mem_cons.2 ⟨j2w n G hG,(fun _ h=>by cases h)⟩⟩⟩⟩⟩
def qlk:q1m:=[]
theorem qtw:drB qlk (q0g Tryz.f93)=true:=by kernel_rfl
theorem j64 (n:Nat) : ∀rec p,qjv n rec p=round Tryz.prog 85 (qju n) (qg2 n) qlk 1 qa9 q6c (q0m 0 0 (q0g Tryz.f93)) rec p:=by intro rec p;kernel_rfl
theorem qyg (n:Nat) {F:Fr} (hF:F.n=85) (hK:Know Inv F.G):qq9 Tryz.prog F (qu2 n) (q0m 0 0 (q0g Tryz.f93)) :=
 q3h hF (by kernel_rfl) (qi2 n hK) (j64 n) (fuel:=n) (fun _=>rfl) (q0t fun j L h1 h2 h3=>absurd h2 (Nat.not_lt.2 (Nat.le_trans (by decide +kernel) h1))) (q56 qtw)
theorem j9w (n:Nat) : ∀a,(qal n).F a=main Tryz.prog 85 (qju n) (qg2 n) qlk (q0g Tryz.f93) [.cell 4 77,.tmp 5] (qal n).args (qal n).res a:=by intro a;kernel_rfl
theorem j8u (n:Nat):q1a Inv Tryz.prog (qal n):=fun G hG=>⟨⟨by kernel_rfl,fun a r h=>q0y (c:=q0g Tryz.f93) Tryz.func93 (by kernel_rfl) (by kernel_rfl) (Nat.le_of_ble_eq_true (by kernel_rfl)) hG.st (by kernel_rfl) (rs:=[.cell 4 77,.tmp 5]) (by kernel_rfl) (qi2 n hG) (lts:=qg2 n) (fun F hF hFG=>have hK:Know Inv F.G:=hFG ▸ hG;(q0t (c:=(q0g Tryz.f93)) (fun j L h1 h2 h3=>by
  have h2':j<1:=Nat.lt_of_lt_of_le h2 (by decide +kernel)
  match j,h1,h2',h3 with
  | 0,_,_,h3=>obtain rfl:=Option.some.inj h3;exact (show q0m 0 0 (q0g Tryz.f93)=q0m 0 0 (q0g Tryz.f93) by kernel_rfl) ▸ qyg n hF hK
  | j+1,_,h2',_=>exact absurd h2' (by omega)))) qtw ((j9w n a).symm.trans h)⟩,rfl⟩
def qix (n:Nat):List LC:=[]
def q82 (n:Nat) (a1:Int×(Int)) (a2:Int):Option ((List ((Bool)×((Int)×(List UInt8))))×(Int)) :=
 ((q37 n).F ((1:Int),(a2,((0:Int),([]:List UInt8))))).bind fun (r1:(List UInt8)×(Bool))=>(qhx n a1).bind fun (r2:Bool)=>(bif !r2 then some ([],(1:Int)) else (bif !r1.2 then some ([],(1:Int)) else some (([(false,(a1.1,r1.1)),(true,((0:Int),([]:List UInt8)))]:List ((Bool)×((Int)×(List UInt8)))),(0:Int))))
def q4q (n:Nat):FC:={ f:=45,args:=[.one (.agg [.d (.int .i64),.d (.int .i64)]),.one (.c (.d (.int .i64)))],res:=.tup [.c (.d (.lst (.prod .bool (.prod (.int .i64) .str)))),.c (.d (.int .i64))],F:=fun p=>q82 n p.1 p.2 }
def qqa (n:Nat):List FC:=[q37 n,q8t n]
theorem qrk (n:Nat) {G:World->Prop} (hG:Know Inv G) : ∀c∈qqa n,q44 Tryz.prog G c/\q1o c.args=true:=List.forall_mem_cons.2 ⟨qdr n G hG,List.forall_mem_cons.2 ⟨qra n G hG,(fun _ h=>by cases h)⟩⟩
def qp4:q1m:=[]
theorem j4l:drB qp4 (q0g Tryz.f45)=true:=by kernel_rfl
theorem j1c (n:Nat) : ∀a,(q4q n).F a=main Tryz.prog 26 (qqa n) (qix n) qp4 (q0g Tryz.f45) [.tmp 4,.tmp 5] (q4q n).args (q4q n).res a:=by intro a;kernel_rfl
theorem qnw (n:Nat):q1a Inv Tryz.prog (q4q n):=fun G hG=>⟨⟨by kernel_rfl,fun a r h=>q0y (c:=q0g Tryz.f45) Tryz.func45 (by kernel_rfl) (by kernel_rfl) (Nat.le_of_ble_eq_true (by kernel_rfl)) hG.st (by kernel_rfl) (rs:=[.tmp 4,.tmp 5]) (by kernel_rfl) (qrk n hG) (lts:=qix n) (fun F hF hFG=>have hK:Know Inv F.G:=hFG ▸ hG;(q0t fun j L h1 h2 h3=>absurd h2 (Nat.not_lt.2 (Nat.le_trans (by decide +kernel) h1)))) j4l ((j1c n a).symm.trans h)⟩,rfl⟩
@[reducible] def qeb:SSt:=⟨[(8,.one (.c (.box 8 0))),(9,.one (.c (.d .str))),(11,.one (.c (.row 74))),(58,.one (.c (.d (.lst .str)))),(59,.one (.c (.d (.int .i64)))),(60,.one (.c (.d (.int .i64))))],[(8,(140,[.d (.int .i64),.d (.int .i64),.d (.int .i64)]))],[(74,⟨99,true,(.prod .bool (.prod (.int .i64) .str))⟩)]⟩
@[reducible] def q7v:List (Exit×SSt):=[(.exit 0,⟨[(8,.one (.c (.box 8 0))),(9,.one (.c (.d .str))),(11,.one (.c (.row 74)))],[(8,(140,[.d (.int .i64),.d (.int .i64),.d (.int .i64)]))],[(74,⟨99,true,(.prod .bool (.prod (.int .i64) .str))⟩)]⟩)]
def qt4 (n:Nat) (rec:(List UInt8)->(List (List UInt8))->Int->Int->Int->Int->Int->(List ((Bool)×((Int)×(List UInt8))))->Option ((Unit×((List UInt8)×(Unit×(Unit))))×((Int×(Int×(Int)))×(Unit))×((List ((Bool)×((Int)×(List UInt8))))×(Unit)))) (a1:List UInt8) (a2:List (List UInt8)) (a3:Int) (a4:Int) (a5:Int) (a6:Int) (a7:Int) (a8:List ((Bool)×((Int)×(List UInt8)))):Option ((Unit×((List UInt8)×(Unit×(Unit))))×((Int×(Int×(Int)))×(Unit))×((List ((Bool)×((Int)×(List UInt8))))×(Unit))) :=
 (bif decide (a4<a3) then (q2v a2 a4).bind fun (x7:List UInt8)=>q1i (IntKind.wrap .i64 (a7+(1:Int))) fun (n8:Int)=>q1i (IntKind.wrap .i64 (n8+a4)) fun (n9:Int)=>(q94 32 a8 ([(false,(n9,x7))]:List ((Bool)×((Int)×(List UInt8))))).bind fun (l10:List ((Bool)×((Int)×(List UInt8))))=>q1i (IntKind.wrap .i64 (a4+(1:Int))) fun (n11:Int)=>rec a1 a2 a3 n11 a5 a6 a7 l10 else some ((((),(a1,((),()))),(((a5,(a6,a7)),()),(a8,())))))
def qrx (n:Nat) (rec:pSt qeb->Option (q2h q7v)) (p:pSt qeb):Option (q2h q7v):=qt4 n (fun a1 a2 a3 a4 a5 a6 a7 a8=>rec (((),(a1,((),(a2,(a3,(a4,())))))),(((a5,(a6,a7)),()),(a8,())))) p.1.2.1 p.1.2.2.2.1 p.1.2.2.2.2.1 p.1.2.2.2.2.2.1 p.2.1.1.1 p.2.1.1.2.1 p.2.1.1.2.2 p.2.2.1
def q60 (n m:Nat) (a1:List UInt8) (a2:List (List UInt8)) (a3:Int) (a4:Int) (a5:Int) (a6:Int) (a7:Int) (a8:List ((Bool)×((Int)×(List UInt8)))):Option ((Unit×((List UInt8)×(Unit×(Unit))))×((Int×(Int×(Int)))×(Unit))×((List ((Bool)×((Int)×(List UInt8))))×(Unit))):=q2z (qrx n) m (((),(a1,((),(a2,(a3,(a4,())))))),(((a5,(a6,a7)),()),(a8,())))
theorem qew (n m:Nat) (a1:List UInt8) (a2:List (List UInt8)) (a3:Int) (a4:Int) (a5:Int) (a6:Int) (a7:Int) (a8:List ((Bool)×((Int)×(List UInt8)))):q60 n (m+1) a1 a2 a3 a4 a5 a6 a7 a8=qt4 n (fun a1 a2 a3 a4 a5 a6 a7 a8=>q60 n m a1 a2 a3 a4 a5 a6 a7 a8) a1 a2 a3 a4 a5 a6 a7 a8:=rfl
def j21 (n:Nat):LC:={ sh:=qeb,outs:=q7v,F:=q2z (qrx n) n }
def qkl (n:Nat):List LC:=[j21 n]
def qni (n:Nat) (a1:Int×(Int)) (a2:Int×((List (List UInt8))×(Int))) (a3:List UInt8):Option ((List ((Bool)×((Int)×(List UInt8))))×(Int)) :=
 (qpp n (a1.1,(a1.2,a2.2.2))).bind fun (r1:Bool)=>(bif !r1 then some ([],(1:Int)) else (bif decide (a2.1<(0:Int)) then some ([],(1:Int)) else (bif decide ((1073741824:Int)<a2.1) then some ([],(1:Int)) else (bif decide ((65535:Int)<((List.length a2.2.1:Nat):Int)) then some ([],(1:Int)) else (bif decide ((4096:Int)<((List.length a3:Nat):Int)) then some ([],(2:Int)) else (q8q n (a1.1,(a1.2,a2.2.2))).bind fun (r2:Int)=>(q6t ((List.length a3:Nat):Int)).bind fun (r3:Int)=>q1i (IntKind.wrap .i64 ((1:Int)+r3)) fun (n4:Int)=>(bif decide (r2<n4) then some ([],(3:Int)) else ((q37 n).F ((2:Int),(a2.1,(((List.length a2.2.1:Nat):Int),a3)))).bind fun (r5:(List UInt8)×(Bool))=>(qov a3).bind fun (r6:List (List UInt8))=>(q60 n n r5.1 r6 ((List.length r6:Nat):Int) (0:Int) a1.1 a1.2 a2.2.2 []).bind fun (o12:(Unit×((List UInt8)×(Unit×(Unit))))×((Int×(Int×(Int)))×(Unit))×((List ((Bool)×((Int)×(List UInt8))))×(Unit)))=>(q94 32 o12.2.2.1 ([(true,((0:Int),([]:List UInt8))),(false,(o12.2.1.1.2.2,o12.1.2.1)),(true,((0:Int),([]:List UInt8)))]:List ((Bool)×((Int)×(List UInt8))))).bind fun (l13:List ((Bool)×((Int)×(List UInt8))))=>some (l13,(0:Int))))))))
def qfi (n:Nat):FC:={ f:=40,args:=[.one (.agg [.d (.int .i64),.d (.int .i64)]),.one (.agg [.d (.int .i64),.d (.lst .str),.d (.int .i64)]),.one (.c (.d .str))],res:=.tup [.c (.d (.lst (.prod .bool (.prod (.int .i64) .str)))),.c (.d (.int .i64))],F:=fun p=>qni n p.1 p.2.1 p.2.2 }
def qsj (n:Nat):List FC:=[qb6 n,q66 n,qa4,q37 n,qrr]
theorem qoc (n:Nat) {G:World->Prop} (hG:Know Inv G) : ∀c∈qsj n,q44 Tryz.prog G c/\q1o c.args=true:=List.forall_mem_cons.2 ⟨j2b n G hG,List.forall_mem_cons.2 ⟨qmi n G hG,List.forall_mem_cons.2 ⟨qg6 G hG,List.forall_mem_cons.2 ⟨qdr n G hG,List.forall_mem_cons.2 ⟨j5f G hG,(fun _ h=>by cases h)⟩⟩⟩⟩⟩
def qs0:q1m:=[]
theorem j4j:drB qs0 (q0g Tryz.f40)=true:=by kernel_rfl
theorem j83 (n:Nat) : ∀rec p,qrx n rec p=round Tryz.prog 85 (qsj n) (qkl n) qs0 1 qeb q7v (q0m 0 0 (q0g Tryz.f40)) rec p:=by intro rec p;kernel_rfl
theorem j19 (n:Nat) {F:Fr} (hF:F.n=85) (hK:Know Inv F.G):qq9 Tryz.prog F (j21 n) (q0m 0 0 (q0g Tryz.f40)) :=
 q3h hF (by kernel_rfl) (qoc n hK) (j83 n) (fuel:=n) (fun _=>rfl) (q0t fun j L h1 h2 h3=>absurd h2 (Nat.not_lt.2 (Nat.le_trans (by decide +kernel) h1))) (q56 j4j)
theorem jco (n:Nat) : ∀a,(qfi n).F a=main Tryz.prog 85 (qsj n) (qkl n) qs0 (q0g Tryz.f40) [.tmp 6,.tmp 7] (qfi n).args (qfi n).res a:=by intro a;kernel_rfl
theorem jd2 (n:Nat):q1a Inv Tryz.prog (qfi n):=fun G hG=>⟨⟨by kernel_rfl,fun a r h=>q0y (c:=q0g Tryz.f40) Tryz.func40 (by kernel_rfl) (by kernel_rfl) (Nat.le_of_ble_eq_true (by kernel_rfl)) hG.st (by kernel_rfl) (rs:=[.tmp 6,.tmp 7]) (by kernel_rfl) (qoc n hG) (lts:=qkl n) (fun F hF hFG=>have hK:Know Inv F.G:=hFG ▸ hG;(q0t (c:=(q0g Tryz.f40)) (fun j L h1 h2 h3=>by
  have h2':j<1:=Nat.lt_of_lt_of_le h2 (by decide +kernel)
  match j,h1,h2',h3 with
  | 0,_,_,h3=>obtain rfl:=Option.some.inj h3;exact (show q0m 0 0 (q0g Tryz.f40)=q0m 0 0 (q0g Tryz.f40) by kernel_rfl) ▸ j19 n hF hK
  | j+1,_,h2',_=>exact absurd h2' (by omega)))) j4j ((jco n a).symm.trans h)⟩,rfl⟩
end Go.Proofs.YthpgnliicpejoaaGreatDoor.AM
namespace Go.Proofs.YthpgnliicpejoaaGreatDoor
open Go.RowKit
namespace RM
theorem j6s (s:ByteArray) (i:Nat):(sec s i).data.toList.drop 1=(s.data.toList.drop (31*i)).take 31++List.replicate (32 - (68::(s.data.toList.drop (31*i)).take 31).length) 0:=rfl
theorem qya (s:ByteArray) (k:Nat) (hk:31*k<=s.size+30):(qkt ((List.range k).map (sec s))).take (min (31*k) s.size)=s.data.toList.take (31*k):=by
 have hs:s.data.toList.length=s.size:=by simp
 induction k with
 | zero=>simp
 | succ k ih =>
  have hlen:(qkt ((List.range k).map (sec s))).length=31*k:=by
   rw [q6n _ (by intro x hx;obtain ⟨i,_,rfl⟩:=List.mem_map.1 hx;exact qan s i)];simp
  have ih:=ih (by omega)
  rw [Nat.min_eq_left (by omega),List.take_of_length_le (by omega)] at ih
  have e1:qkt ((List.range (k+1)).map (sec s))=qkt ((List.range k).map (sec s))++(sec s k).data.toList.drop 1:=by
   rw [qvm];unfold qkt;simp
  rw [e1,j6s,ih,show 31*(k+1)=31*k+31 from by omega,List.take_add,<-List.append_assoc]
  have hl2:(List.take (31*k) s.data.toList++List.take 31 (List.drop (31*k) s.data.toList)).length=min (31*k+31) s.size:=by
   simp;omega
  rw [<-hl2,List.take_left]
theorem qjm (s:ByteArray) (h:s.size<=4096):q1b s=(s.size+30) / 31:=by unfold q1b;rw [if_pos h]
theorem q81 (s:ByteArray) (h:s.size<=4096):q0u (s.size:Int)=(q1b s:Int):=by
 unfold q0u;rw [if_pos (by omega),qjm s h];omega
theorem qnk (s:ByteArray) (h:s.size<=4096):qck (qd0 s) (s.size:Int)=s:=by
 have hs:s.data.toList.length=s.size:=by simp
 have hn:=qjm s h
 have e:=qya s (q1b s) (by omega)
 unfold qck
 rw [Nat.min_eq_right (by omega)] at e
 rw [show (s.size:Int).toNat=s.size from by omega]
 unfold qd0
 rw [e,List.take_of_length_le (by omega),qu5]
theorem qij (s:ByteArray) (h:s.size<=4096):q48 (qd0 s) (s.size:Int):=by
 refine ⟨?_,?_,?_⟩
 ·rw [q2t,q81 s h]
 ·intro x hx;obtain ⟨i,_,rfl⟩:=List.mem_map.1 hx;exact qan s i
 ·rw [qnk s h]
theorem qqi (s:ByteArray) (h:s.size<=4096):qhc (qd0 s) (s.size:Int)=s:=by rw [qff _ _ (qij s h),qnk s h]
theorem qip (l:List ByteArray) (n:Int) (h:q48 l n):0<=n/\((qhc l n).size:Int)=n/\q0u n=(l.length:Int):=by
 have h1:=qul l.length n h.1
 obtain ⟨m,rfl⟩ : ∃ m:Nat,n=(m:Int):=⟨n.toNat,by omega⟩
 refine ⟨h1.1,?_,h.1.symm⟩
 rw [qff _ _ h,qz0 l m h.2.1 (by omega)]
theorem j1v (s:ByteArray) (i:Nat):(sec s i).data.toList.head? = some 68:=rfl
theorem qy3 (k g q z m:Int):(str (qbh k g q z m)).data.toList.head? = some 72:=rfl
theorem j7m (s:ByteArray) (i:Nat) (k g q z m:Int):sec s i≠str (qbh k g q z m):=by
 intro h
 have:=j1v s i
 rw [h,qy3] at this
 simp at this
theorem qd3 (s:ByteArray) (i:Nat) : ¬ q1r (sec s i):=fun h=>j7m s i _ _ _ _ _ h.2.2.symm
theorem ql1 (a b c d:UInt8) (l r:List UInt8) (k:Nat) (hl:l.length=k):num (l++a::b::c::d::r) k=(a.toNat:Int)*16777216+(b.toNat:Int)*65536+(c.toNat:Int)*256+(d.toNat:Int):=by
 subst hl
 unfold num
 simp [List.getD]
theorem qmt (n:Int) (h0:0<=n) (h1:n<4294967296):((UInt8.ofNat (n / 16777216 % 256).toNat).toNat:Int)*16777216+((UInt8.ofNat (n / 65536 % 256).toNat).toNat:Int)*65536+((UInt8.ofNat (n / 256 % 256).toNat).toNat:Int)*256+((UInt8.ofNat (n % 256).toNat).toNat:Int)=n:=by
 rw [q3y _ (by omega) (by omega),q3y _ (by omega) (by omega),q3y _ (by omega) (by omega),q3y _ (by omega) (by omega)]
 omega
theorem qy2 (k g q z m:Int) : ∃ r,qbh k g q z m = [72,UInt8.ofNat k.toNat]++(be4 g++(be4 q++(be4 z++(be4 m++r)))):=⟨_,rfl⟩
theorem q76 (k g q z m:Int) (h:may k g q z m):q2s (str (qbh k g q z m))=k/\q0h (str (qbh k g q z m)) 2=g/\q0h (str (qbh k g q z m)) 6=q/\q0h (str (qbh k g q z m)) 10=z/\q0h (str (qbh k g q z m)) 14=m:=by
 obtain ⟨hk,hg,hq,hz,hm⟩:=h
 have hm2:=SM.quz hm
 obtain ⟨r,hr⟩:=qy2 k g q z m
 unfold q0h q2s
 rw [j8l]
 refine ⟨?_,?_,?_,?_,?_⟩
 ·rw [hr]
  show ((UInt8.ofNat k.toNat).toNat:Int)=k
  exact q3y k (by omega) (by omega)
 ·rw [hr]
  exact (ql1 _ _ _ _ [72,UInt8.ofNat k.toNat] _ 2 rfl).trans (qmt g (by omega) (by omega))
 ·rw [hr,<-List.append_assoc]
  exact (ql1 _ _ _ _ ([72,UInt8.ofNat k.toNat]++be4 g) _ 6 rfl).trans (qmt q (by omega) (by omega))
 ·rw [hr,<-List.append_assoc,<-List.append_assoc]
  exact (ql1 _ _ _ _ ([72,UInt8.ofNat k.toNat]++be4 g++be4 q) _ 10 rfl).trans (qmt z (by omega) (by omega))
 ·rw [hr,<-List.append_assoc,<-List.append_assoc,<-List.append_assoc]
  exact (ql1 _ _ _ _ ([72,UInt8.ofNat k.toNat]++be4 g++be4 q++be4 z) _ 14 rfl).trans (qmt m (by omega) (by omega))
theorem q4y (k g q z m:Int) (h:may k g q z m):q18 k g q z m=str (qbh k g q z m):=if_pos h
theorem qh8 (k g q z m:Int) (h:may k g q z m):q1r (q18 k g q z m)/\qqg (q18 k g q z m)=hd k g q z m:=by
 obtain ⟨e1,e2,e3,e4,e5⟩:=q76 k g q z m h
 have hr:q1r (str (qbh k g q z m)):=by
  refine ⟨by rw [q4f];rfl,?_,?_⟩
  ·rw [e1,e2,e3,e4,e5];exact h
  ·rw [e1,e2,e3,e4,e5]
 rw [q4y _ _ _ _ _ h]
 refine ⟨hr,?_⟩
 rw [q5q _ hr,e1,e2,e3,e4,e5]
def turned (s:ByteArray) (i x:Nat):List UInt8:=s.data.toList.set i (UInt8.ofNat ((s.data.toList.getD i 0).toNat ^^^ x))
end RM
end Go.Proofs.YthpgnliicpejoaaGreatDoor
namespace Go.Proofs
open Go.RowKit
set_option linter.unusedVariables false
set_option linter.unusedSimpArgs false
namespace YthpgnliicpejoaaGreatDoor.AM
theorem jb0 (b:ByteArray):unB b=b.data.toList:=rfl
theorem q8d (b:ByteArray):(unB b).length=b.size:=jep b
theorem q0o {α β:Type} (x:α) (f:α->Option β):q1i x f=f x:=rfl
def chk (f z:Int):Prop:=0<=f/\2<=z/\z<=512 - f
instance (f z:Int):Decidable (chk f z):=by unfold chk;infer_instance
theorem qdl (n:Nat) (f z:Int) (h1 : -9223372036854775808<=f) (h2:f<=9223372036854775807):qhx n (f,z)=some (decide (chk f z)):=by
 unfold qhx chk
 simp only
 by_cases c1:0<=f
 ·rw [decide_eq_true c1,cond_true]
  by_cases c2:2<=z
  ·rw [decide_eq_true c2,cond_true,wrap64 (by omega) (by omega),q0o]
   congr 1
   simp [c1,c2]
  ·rw [decide_eq_false c2,cond_false]
   simp [c2]
 ·rw [decide_eq_false c1,cond_false]
  simp [c1]
theorem qak (n:Nat) (f z a:Nat) (h1:f+z<=512) (h2:a<=100000):q8q n ((f:Int),((z:Int),(a:Int)))=some (((f+z:Nat):Int) - (a:Int)):=by
 unfold q8q
 simp only
 rw [wrap64 (by omega) (by omega),q0o,wrap64 (by omega) (by omega),q0o]
 congr 1
theorem qey (m:Int) (h:0<=m/\m<=4096):0<=RM.q0u m/\RM.q0u m<=133:=by unfold RM.q0u;rw [if_pos h];omega
theorem qvx (n:Nat) (f z a:Nat) (m:Int) (h2:a<=100000) (h:0<=m/\m<=4096):qom n ((f:Int),((z:Int),(a:Int))) m=some ((f:Int),((z:Int),((a+1+(RM.q0u m).toNat:Nat):Int))):=by
 have hc:=qey m h
 unfold qom q6t
 rw [if_pos (show qwg m by unfold qwg;omega),Option.bind_some]
 simp only
 rw [wrap64 (by omega) (by omega),q0o,wrap64 (by omega) (by omega),q0o]
 congr 3
 omega
def flat (D:DM.Dk):List ByteArray:=DM.q0j (fun _=>true) D.secs D.cache D.cache.length
theorem qw2 (D:DM.Dk):(flat D).length=D.secs.length:=DM.q0x _ _ _ _
def j27 (D:DM.Dk) (f z:Int):Prop:=chk f z/\DM.q2b D/\f+z<=(D.secs.length:Int)
instance (D:DM.Dk) (f z:Int):Decidable (j27 D f z):=by unfold j27;infer_instance
theorem j81 (n:Nat) (d:DkT) (hd:smD d) (f z:Int) (h1 : -9223372036854775808<=f) (h2:f<=9223372036854775807):qv9 n d (f,z)=some (if j27 (q29 d) f z then ((flat (q29 d)).map unB,true) else ([],false)):=by
 unfold qv9
 rw [qdl n f z h1 h2,Option.bind_some]
 by_cases c:chk f z
 ·have c':=c
  unfold chk at c'
  rw [decide_eq_true c,Bool.not_true,cond_false]
  unfold qrh
  rw [if_pos hd,Option.bind_some]
  simp only
  by_cases cm:DM.q2b (q29 d)
  ·have e1:DM.qhw (q29 d)=0:=by unfold DM.qhw;rw [if_pos cm]
   have e2:DM.q2r (fun _=>true) (q29 d)=⟨flat (q29 d),[]⟩:=by unfold DM.q2r DM.q16 flat;rw [if_pos cm]
   rw [e1,decide_eq_true rfl,Bool.not_true,cond_false,wrap64 (by omega) (by omega),q0o,e2]
   have e3:(q3f ⟨flat (q29 d),[]⟩).1=(flat (q29 d)).map unB:=rfl
   rw [e3,List.length_map,qw2]
   by_cases cl:((q29 d).secs.length:Int)<f+z
   ·rw [decide_eq_true cl,cond_true,if_neg (fun h=>by have:=h.2.2;omega)]
   ·rw [decide_eq_false cl,cond_false,if_pos ⟨c,cm,by omega⟩]
  ·have e1:DM.qhw (q29 d)=1:=by unfold DM.qhw;rw [if_neg cm]
   rw [e1,decide_eq_false (by decide),Bool.not_false,cond_true,if_neg (fun h=>cm h.2.1)]
 ·rw [decide_eq_false c,Bool.not_false,cond_true,if_neg (fun h=>c h.1)]
theorem qtr (b:ByteArray):qfl (unB b)=some (qep b,decide (RM.q1r b)):=by unfold qfl;rw [q9g]
theorem qh2 {b:ByteArray} (h:RM.q1r b):0<=RM.q0h b 10/\RM.q0h b 10<=4096:=h.2.1.2.2.2.1
def gB (B:List ByteArray) (j:Nat):ByteArray:=B.getD j ⟨#[]⟩
theorem qwz {B:List ByteArray} {j:Nat} (h:j<B.length):gB B j=B[j]:=by
 unfold gB
 rw [List.getD_eq_getElem?_getD,List.getElem?_eq_getElem h];rfl
def qe1 (B:List ByteArray) (e at_:Nat) (g q:Int):Prop :=
 at_<e/\RM.q1r (gB B at_)/\RM.q2s (gB B at_)=2/\RM.q0h (gB B at_) 2=g/\RM.q0h (gB B at_) 6=q/\at_+1+(RM.q0u (RM.q0h (gB B at_) 10)).toNat<=e /\
 RM.q48 ((B.drop (at_+1)).take (RM.q0u (RM.q0h (gB B at_) 10)).toNat) (RM.q0h (gB B at_) 10) /\
 SM.q1f 1 (RM.qhc ((B.drop (at_+1)).take (RM.q0u (RM.q0h (gB B at_) 10)).toNat) (RM.q0h (gB B at_) 10)).data.toList=RM.q0h (gB B at_) 14
def q9p (B:List ByteArray) (at_:Nat):ByteArray:=RM.qhc ((B.drop (at_+1)).take (RM.q0u (RM.q0h (gB B at_) 10)).toNat) (RM.q0h (gB B at_) 10)
instance (B:List ByteArray) (e a:Nat) (g q:Int):Decidable (qe1 B e a g q):=by unfold qe1;infer_instance
theorem j7d (n:Nat) (B:List ByteArray) (f z a:Nat) (g q:Int) (h1:f+z<=512) (h2:a<=2000) (hB:f+z<=B.length) :
  quh n ((f:Int),((z:Int),(a:Int))) (B.map unB) g q=some (if qe1 B (f+z) a g q then (unB (q9p B a),true) else ([],false)):=by
 unfold quh
 rw [qak n f z a h1 (by omega),Option.bind_some]
 by_cases c0:a<f+z
 case neg =>
  rw [decide_eq_true (by omega),cond_true,if_neg (fun h=>c0 h.1)]
 have ha:a<B.length:=by omega
 have ha':a<(B.map unB).length:=by rw [List.length_map];exact ha
 have hg:gB B a=B[a]:=qwz ha
 have hrP:qe1 B (f+z) a g q↔(a<f+z/\RM.q1r B[a]/\RM.q2s B[a]=2/\RM.q0h B[a] 2=g/\RM.q0h B[a] 6=q/\a+1+(RM.q0u (RM.q0h B[a] 10)).toNat<=f+z/\RM.q48 ((B.drop (a+1)).take (RM.q0u (RM.q0h B[a] 10)).toNat) (RM.q0h B[a] 10) /\
   SM.q1f 1 (RM.qhc ((B.drop (a+1)).take (RM.q0u (RM.q0h B[a] 10)).toNat) (RM.q0h B[a] 10)).data.toList=RM.q0h B[a] 14):=by unfold qe1;rw [hg]
 rw [decide_eq_false (by omega),cond_false]
 simp only
 rw [q49 ha',List.getElem_map,Option.bind_some,qtr,Option.bind_some]
 simp only
 by_cases c1:RM.q1r B[a]
 case neg =>
  rw [decide_eq_false c1,Bool.not_false,cond_true,if_neg (fun h=>c1 (hrP.1 h).2.1)]
 have hz:=qh2 c1
 have hcz:=qey _ hz
 have eh:qep B[a]=(RM.q2s B[a],(RM.q0h B[a] 2,(RM.q0h B[a] 6,(RM.q0h B[a] 10,RM.q0h B[a] 14)))):=by unfold qep;rw [if_pos c1]
 rw [decide_eq_true c1,Bool.not_true,cond_false,eh]
 simp only
 have hrec:q9p B a=RM.qhc ((B.drop (a+1)).take (RM.q0u (RM.q0h B[a] 10)).toNat) (RM.q0h B[a] 10):=by unfold q9p;rw [hg]
 clear hg eh
 generalize RM.q2s B[a]=kd at *
 generalize RM.q0h B[a] 2=n2 at *
 generalize RM.q0h B[a] 6=n6 at *
 generalize RM.q0h B[a] 10=n10 at *
 generalize RM.q0h B[a] 14=n14 at *
 by_cases c2:kd=2
 case neg=>rw [decide_eq_false c2,Bool.not_false,cond_true,if_neg (fun h=>c2 (hrP.1 h).2.2.1)]
 rw [decide_eq_true c2,Bool.not_true,cond_false]
 by_cases c3:n2=g
 case neg=>rw [decide_eq_false c3,Bool.not_false,cond_true,if_neg (fun h=>c3 (hrP.1 h).2.2.2.1)]
 rw [decide_eq_true c3,Bool.not_true,cond_false]
 by_cases c4:n6=q
 case neg=>rw [decide_eq_false c4,Bool.not_false,cond_true,if_neg (fun h=>c4 (hrP.1 h).2.2.2.2.1)]
 have hcc:(RM.q0u n10).toNat<=133:=by omega
 have e4:=qvx n f z a n10 (by omega) hz
 have e5:=qak n f z (a+1+(RM.q0u n10).toNat) h1 (by omega)
 rw [decide_eq_true c4,Bool.not_true,cond_false,e4,Option.bind_some,e5,Option.bind_some]
 by_cases c5:a+1+(RM.q0u n10).toNat<=f+z
 case neg=>rw [decide_eq_true (by omega),cond_true,if_neg (fun h=>c5 (hrP.1 h).2.2.2.2.2.1)]
 rw [decide_eq_false (by omega),cond_false]
 simp only
 have w1:IntKind.wrap .i64 ((a:Int)+1)=((a+1:Nat):Int):=q24 (by omega)
 rw [w1,q0o,sub_le (by omega) (by rw [List.length_map];omega),Option.bind_some]
 have e1:a+1+(RM.q0u n10).toNat - (a+1)=(RM.q0u n10).toNat:=by omega
 rw [e1]
 have e2:(((B.map unB).drop (a+1)).take (RM.q0u n10).toNat)=((B.drop (a+1)).take (RM.q0u n10).toNat).map unB:=by rw [<-List.map_drop,<-List.map_take]
 rw [e2]
 have e3 : ∀l:List ByteArray,(l.map unB).map ba=l:=fun l=>by
  rw [List.map_map]
  exact (List.map_congr_left fun x _=>q9g x).trans (List.map_id _)
 have hl:((B.drop (a+1)).take (RM.q0u n10).toNat).length<=1000:=by rw [List.length_take];omega
 unfold qqo
 rw [if_pos ⟨by rw [List.length_map];exact hl,by unfold qwg;omega⟩,Option.bind_some,e3,<-hrec]
 simp only
 by_cases c6:RM.q48 ((B.drop (a+1)).take (RM.q0u n10).toNat) n10
 case neg=>rw [decide_eq_false c6,Bool.not_false,cond_true,if_neg (fun h=>c6 (hrP.1 h).2.2.2.2.2.2.1)]
 rw [decide_eq_true c6,Bool.not_true,cond_false]
 have hlen:(unB (q9p B a)).length<=maxLen:=by
  have hM:=max_eq
  have h9:=(RM.qip _ _ c6).2.1
  rw [<-hrec] at h9
  rw [q8d]
  generalize (q9p B a).size=u at *
  omega
 unfold qmq
 rw [if_pos hlen,Option.bind_some]
 by_cases c7:SM.q1f 1 (unB (q9p B a))=n14
 ·rw [decide_eq_true c7,Bool.not_true,cond_false,if_pos]
  exact hrP.2 ⟨c0,c1,c2,c3,c4,c5,c6,by rw [<-hrec,<-jb0];exact c7⟩
 ·rw [decide_eq_false c7,Bool.not_false,cond_true,if_neg]
  intro h
  have h8:=(hrP.1 h).2.2.2.2.2.2.2
  rw [<-hrec,<-jb0] at h8
  exact c7 h8
theorem quf {B:List ByteArray} {e a:Nat} {g q:Int} (h:qe1 B e a g q):(q9p B a).size<=4096:=by
 have hz:=qh2 h.2.1
 have c6:=h.2.2.2.2.2.2.1
 unfold q9p RM.qhc
 rw [if_pos c6]
 unfold RM.qck
 rw [RM.q4f,List.length_take]
 omega
def q36 (B:List ByteArray) (e:Nat) (g:Int):Nat->Nat->List ByteArray->List ByteArray×Nat
 | 0,a,its=>(its,a)
 | m+1,a,its=>if qe1 B e a g (its.length:Int) then q36 B e g m (a+1+(RM.q0u ((q9p B a).size:Int)).toNat) (its ++ [q9p B a]) else (its,a)
theorem q27 {B:List ByteArray} {e:Nat} {g:Int} (m a:Nat) (its:List ByteArray) (h : ¬ qe1 B e a g (its.length:Int)):q36 B e g m a its=(its,a):=by
 cases m with
 | zero=>rfl
 | succ m=>unfold q36;rw [if_neg h]
theorem qb9 {B:List ByteArray} {e:Nat} {g:Int} : ∀(m k a:Nat) (its:List ByteArray),e - a<=m->e - a<=k->q36 B e g m a its=q36 B e g k a its
 | 0,k,a,its,h1,h2=>(q27 k a its (fun h=>absurd (show a<e from h.1) (by omega))).symm
 | m+1,0,a,its,h1,h2=>q27 (m+1) a its (fun h=>absurd (show a<e from h.1) (by omega))
 | m+1,k+1,a,its,h1,h2=>by
  unfold q36
  split
  ·rename_i h
   have:=h.1
   exact qb9 m k _ _ (by omega) (by omega)
  ·rfl
theorem j52 (n:Nat) (B:List ByteArray) (f z:Nat) (g:Int) (h1:f+z<=512) (hB:f+z<=B.length) : ∀(m a:Nat) (its:List ByteArray),f+z - a<m->a<=1000->its.length<=a ->
  q64 n m (B.map unB) 0 0 (f:Int) (z:Int) (a:Int) g 0 (its.map unB)=some (((),((),((),()))),(((0:Int),((),(0:Int))),(((f:Int),((z:Int),(((q36 B (f+z) g (f+z - a) a its).2:Nat):Int))),((g,((),(0:Int))),()))),((q36 B (f+z) g (f+z - a) a its).1.map unB,())):=by
 intro m
 induction m with
 | zero=>intro a its h _ _;omega
 | succ m ihm =>
  intro a its hm ha hi
  rw [qd9]
  unfold qkx
  rw [List.length_map,j7d n B f z a g (its.length:Int) h1 (by omega) hB,Option.bind_some]
  by_cases c:qe1 B (f+z) a g (its.length:Int)
  ·have hl:=quf c
   have ha1:=c.1
   have hu:(unB (q9p B a)).length=(q9p B a).size:=q8d _
   have es : ∀m,q36 B (f+z) g (m+1) a its=q36 B (f+z) g m (a+1+(RM.q0u ((q9p B a).size:Int)).toNat) (its ++ [q9p B a]):=fun m=>by
    conv=>lhs;unfold q36
    rw [if_pos c]
   rw [if_pos c]
   clear c
   generalize q9p B a=x at *
   have eb:=qvx n f z a (x.size:Int) (by omega) ⟨by omega,by omega⟩
   have hcz:=qey (x.size:Int) ⟨by omega,by omega⟩
   have hk:(RM.q0u (x.size:Int)).toNat<=133:=by omega
   generalize (RM.q0u (x.size:Int)).toNat=k at *
   simp only [Bool.not_true,cond_false]
   rw [qnb (by simp;omega),Option.bind_some,hu,eb,Option.bind_some]
   simp only
   have ih:=ihm (a+1+k) (its ++ [x]) (by omega) (by omega) (by simp;omega)
   have e:q36 B (f+z) g (f+z - a) a its=q36 B (f+z) g (f+z - (a+1+k)) (a+1+k) (its ++ [x]):=by
    rw [show f+z - a=(f+z - a - 1)+1 from by omega,es]
    exact qb9 _ _ _ _ (by omega) (by omega)
   rw [e]
   rw [List.map_append] at ih
   exact ih
  ·rw [if_neg c,q27 _ a its c]
   simp only [Bool.not_false,cond_true]
end YthpgnliicpejoaaGreatDoor.AM
end Go.Proofs
namespace Go.Proofs
open Go.RowKit
set_option linter.unusedVariables false
set_option linter.unusedSimpArgs false
namespace YthpgnliicpejoaaGreatDoor.AM
abbrev BL:=List ByteArray
theorem q8o (B:BL) (a j:Nat) (x:ByteArray):gB (B.set a x) j=if a=j/\a<B.length then x else gB B j:=by
 unfold gB
 rw [List.getD_eq_getElem?_getD,List.getElem?_set]
 by_cases h:a=j
 ·subst h
  by_cases h2:a<B.length
  ·rw [if_pos rfl,if_pos h2,if_pos ⟨rfl,h2⟩];rfl
  ·rw [if_pos rfl,if_neg h2,if_neg (fun h=>h2 h.2)]
   rw [List.getD_eq_getElem?_getD,List.getElem?_eq_none (by omega)]
 ·rw [if_neg h,if_neg (fun h2=>h h2.1),<-List.getD_eq_getElem?_getD]
def alike (B X:BL) (lo e:Nat):Prop:=∀j,lo<=j->j<e->gB B j=gB X j
theorem qxu {B X:BL} {a c:Nat} (h1:a+c<=B.length) (h2:a+c<=X.length) (h:alike B X a (a+c)):(B.drop a).take c=(X.drop a).take c:=by
 apply List.ext_getElem
 ·simp only [List.length_take,List.length_drop];omega
 ·intro j h3 h4
  rw [List.length_take,List.length_drop] at h3
  rw [List.getElem_take,List.getElem_take,List.getElem_drop,List.getElem_drop]
  have:=h (a+j) (by omega) (by omega)
  rw [qwz (by omega),qwz (by omega)] at this
  exact this
theorem qiw {B X:BL} {e a:Nat} {g q:Int} (hB:e<=B.length) (hX:e<=X.length) (h:qe1 B e a g q) (hal:alike B X a (a+1+(RM.q0u (RM.q0h (gB B a) 10)).toNat)):qe1 X e a g q/\q9p X a=q9p B a:=by
 have hend:a+1+(RM.q0u (RM.q0h (gB B a) 10)).toNat<=e:=h.2.2.2.2.2.1
 have e0:gB B a=gB X a:=hal a (Nat.le_refl _) (by omega)
 have e1:(B.drop (a+1)).take (RM.q0u (RM.q0h (gB B a) 10)).toNat=(X.drop (a+1)).take (RM.q0u (RM.q0h (gB B a) 10)).toNat:=qxu (by omega) (by omega) (fun j h1 h2=>hal j (by omega) (by omega))
 refine ⟨?_,?_⟩
 ·unfold qe1;rw [<-e0,<-e1];exact h
 ·unfold q9p;rw [<-e0,<-e1]
theorem qvy {B:BL} {e a:Nat} {g q:Int} (h:qe1 B e a g q):((q9p B a).size:Int)=RM.q0h (gB B a) 10:=(RM.qip _ _ h.2.2.2.2.2.2.1).2.1
theorem jbq {B:BL} {e a:Nat} {g q:Int} (h:qe1 B e a g q):a+1+(RM.q0u ((q9p B a).size:Int)).toNat<=e:=by rw [qvy h];exact h.2.2.2.2.2.1
theorem q42 {B:BL} {e:Nat} {g:Int} (m a:Nat) (its:BL) (h:qe1 B e a g (its.length:Int)):q36 B e g (m+1) a its=q36 B e g m (a+1+(RM.q0u ((q9p B a).size:Int)).toNat) (its ++ [q9p B a]):=by
 conv=>lhs;unfold q36
 rw [if_pos h]
theorem q7z {B:BL} {e:Nat} {g:Int} : ∀(m a:Nat) (its:BL),a<=(q36 B e g m a its).2
 | 0,a,its=>Nat.le_refl _
 | m+1,a,its=>by
  by_cases h:qe1 B e a g (its.length:Int)
  ·rw [q42 m a its h]
   have:=q7z (B:=B) (e:=e) (g:=g) m (a+1+(RM.q0u ((q9p B a).size:Int)).toNat) (its ++ [q9p B a])
   omega
  ·rw [q27 _ a its h];exact Nat.le_refl _
theorem qkb {B:BL} {e:Nat} {g:Int} : ∀(m a:Nat) (its:BL),a<=e->(q36 B e g m a its).2<=e
 | 0,a,its,ha=>ha
 | m+1,a,its,ha=>by
  by_cases h:qe1 B e a g (its.length:Int)
  ·rw [q42 m a its h]
   exact qkb m _ _ (jbq h)
  ·rw [q27 _ a its h];exact ha
theorem qpr {B:BL} {e:Nat} {g:Int} : ∀(m a:Nat) (its:BL),its.length<=a->(q36 B e g m a its).1.length<=(q36 B e g m a its).2
 | 0,a,its,ha=>ha
 | m+1,a,its,ha=>by
  by_cases h:qe1 B e a g (its.length:Int)
  ·rw [q42 m a its h]
   exact qpr m _ _ (by simp only [List.length_append,List.length_cons,List.length_nil];omega)
  ·rw [q27 _ a its h];exact ha
theorem qer {B:BL} {e:Nat} {g:Int} : ∀(m a:Nat) (its:BL),(∀x∈its,x.size<=4096)->∀x∈(q36 B e g m a its).1,x.size<=4096
 | 0,a,its,ha=>ha
 | m+1,a,its,ha=>by
  by_cases h:qe1 B e a g (its.length:Int)
  ·rw [q42 m a its h]
   refine qer m _ _ (fun x hx=>?_)
   rcases List.mem_append.1 hx with h1|h1
   ·exact ha x h1
   ·obtain rfl:x=q9p B a:=by simpa using h1
    exact quf h
  ·rw [q27 _ a its h];exact ha
theorem qjo {B:BL} {e:Nat} {g:Int} : ∀(m a:Nat) (its:BL),e - a<=m->¬ qe1 B e (q36 B e g m a its).2 g (((q36 B e g m a its).1.length:Nat):Int)
 | 0,a,its,hm=>fun h=>absurd (show a<e from h.1) (by omega)
 | m+1,a,its,hm=>by
  by_cases h:qe1 B e a g (its.length:Int)
  ·rw [q42 m a its h]
   have:=h.1
   exact qjo m _ _ (by omega)
  ·rw [q27 _ a its h];exact h
theorem q90 {B X:BL} {e:Nat} {g:Int} (hB:e<=B.length) (hX:e<=X.length) : ∀(m a:Nat) (its:BL),e - a<=m->alike B X a (q36 B e g m a its).2 ->
  q36 X e g m a its=q36 X e g m (q36 B e g m a its).2 (q36 B e g m a its).1:=by
 intro m
 induction m with
 | zero=>intro a its hm hal;rfl
 | succ m ihm =>
  intro a its hm hal
  by_cases h:qe1 B e a g (its.length:Int)
  ·have e1:=q42 m a its h
   have hs:=qvy h
   have ha:a<e:=h.1
   have hxx:=fun hal'=>qiw (X:=X) hB hX h hal'
   have e2:=fun hx=>q42 (B:=X) (e:=e) (g:=g) m a its hx
   rw [<-hs] at hxx
   rw [e1] at hal ⊢
   clear e1 hs
   obtain ⟨x,hx0⟩ : ∃ x,q9p B a=x:=⟨_,rfl⟩
   rw [hx0] at hal hxx ⊢
   obtain ⟨k,hk⟩ : ∃ k,(RM.q0u (x.size:Int)).toNat=k:=⟨_,rfl⟩
   rw [hk] at hal hxx ⊢
   have hge:=q7z (B:=B) (e:=e) (g:=g) m (a+1+k) (its ++ [x])
   have ih:=ihm (a+1+k) (its ++ [x]) (by omega) (fun j h1 h2=>hal j (by omega) h2)
   obtain ⟨p,hp⟩ : ∃ p,q36 B e g m (a+1+k) (its ++ [x])=p:=⟨_,rfl⟩
   rw [hp] at hal hge ih ⊢
   obtain ⟨q1,q2⟩:=hxx (fun j h1 h2=>hal j h1 (by omega))
   rw [e2 q1,q2,hk,ih]
   exact qb9 m (m+1) _ _ (by omega) (by omega)
  ·rw [q27 _ a its h]
def bad (x:ByteArray) (g:Int) (q:Nat):Prop:=RM.q1r x/\RM.q2s x=2/\RM.q0h x 2=g/\(q:Int)<=RM.q0h x 6
instance (x:ByteArray) (g:Int) (q:Nat):Decidable (bad x g q):=by unfold bad;infer_instance
def q78 (B:BL) (lo e:Nat) (g:Int) (q:Nat):Prop:=∀j,j<e->lo<=j->¬ bad (gB B j) g q
instance (B:BL) (lo e:Nat) (g:Int) (q:Nat):Decidable (q78 B lo e g q):=by unfold q78;infer_instance
theorem j5t {X:BL} {e a:Nat} {g:Int} {q:Nat} (h:a<e->¬ bad (gB X a) g q) : ¬ qe1 X e a g (q:Int):=fun hr=>h hr.1 ⟨hr.2.1,hr.2.2.1,hr.2.2.2.1,by rw [hr.2.2.2.2.1];exact Int.le_refl _⟩
def q3e (B:BL) (f:Nat):Int:=(qep (gB B f)).2.1
def q8p (B:BL) (f:Nat):Prop:=gB B f=RM.q18 1 (q3e B f) 0 0 1
instance (B:BL) (f:Nat):Decidable (q8p B f):=by unfold q8p;infer_instance
theorem q5g (B:BL) (f:Nat):0<=q3e B f/\q3e B f<=1073741824:=by
 unfold q3e qep
 by_cases c:RM.q1r (gB B f)
 ·rw [if_pos c];exact c.2.1.2.1
 ·rw [if_neg c];exact ⟨Int.le_refl _,by decide⟩
theorem q95 {g:Int} (h:0<=g/\g<=1073741824):RM.may 1 g 0 0 1:=⟨Or.inl rfl,h,by decide,by decide,SM.j1i⟩
theorem qf3 {B:BL} {f:Nat} {g:Int} (h:0<=g/\g<=1073741824) (hb:gB B f=RM.q18 1 g 0 0 1):q3e B f=g:=by
 have hm:=q95 h
 have h1:=(RM.qh8 1 g 0 0 1 hm).1
 obtain ⟨_,h2,_⟩:=RM.q76 1 g 0 0 1 hm
 unfold q3e qep
 rw [hb,if_pos h1]
 show RM.q0h (RM.q18 1 g 0 0 1) 2=g
 rw [RM.q4y _ _ _ _ _ hm];exact h2
def q3j (B:BL) (f z:Nat):BL×Nat:=q36 B (f+z) (q3e B f) (z - 1) (f+1) []
def qte (B X:BL) (nx k:Nat) (p:ByteArray):Prop:=X.length=B.length/\∀j,gB X j=gB B j \/ ∃ i,i<k/\j=nx+1+i/\gB X j=RM.sec p i
def qnn (B X:BL) (nx k:Nat) (p h:ByteArray):Prop:=X.length=B.length/\(∀j,(j<nx\/nx+k<j)->gB X j=gB B j)/\gB X nx=h/\∀i,i<k->gB X (nx+1+i)=RM.sec p i
theorem jdu {B X:BL} {f z k:Nat} {p:ByteArray} (hz:1<=z) (hB:f+z<=B.length) (hcl:q78 B (q3j B f z).2 (f+z) (q3e B f) (q3j B f z).1.length) (h:qte B X (q3j B f z).2 k p) :
  q3e X f=q3e B f/\(q8p B f->q8p X f)/\q3j X f z=q3j B f z/\q78 X (q3j X f z).2 (f+z) (q3e X f) (q3j X f z).1.length:=by
 obtain ⟨hl,ha⟩:=h
 have hge:f+1<=(q3j B f z).2:=q7z _ _ _
 have same : ∀j,j<=(q3j B f z).2->gB X j=gB B j:=fun j hj=>by
  rcases ha j with h|⟨i,_,h,_⟩
  ·exact h
  ·omega
 have e0:=same f (by omega)
 have eg:q3e X f=q3e B f:=by unfold q3e;rw [e0]
 have eo:q3j X f z=q3j B f z:=by
  have h1:=q90 (g:=q3e B f) hB (hl ▸ hB) (z - 1) (f+1) [] (by omega) (fun j h1 h2=>(same j (Nat.le_of_lt h2)).symm)
  unfold q3j at hcl same ⊢
  rw [eg,h1,q27]
  apply j5t
  intro hlt
  rw [same _ (Nat.le_refl _)]
  exact hcl _ hlt (Nat.le_refl _)
 refine ⟨eg,fun hb=>?_,eo,?_⟩
 ·unfold q8p at hb ⊢;rw [eg,e0];exact hb
 ·rw [eo,eg]
  intro j h1 h2
  rcases ha j with h|⟨i,_,_,h⟩
  ·rw [h];exact hcl j h1 h2
  ·rw [h];exact fun hb=>RM.qd3 p i hb.1
theorem j3j {B X:BL} {f z:Nat} {p:ByteArray} (hz:1<=z) (hB:f+z<=B.length) (hcl:q78 B (q3j B f z).2 (f+z) (q3e B f) (q3j B f z).1.length) (hp:p.size<=4096) (hq:(q3j B f z).1.length<=65535)
  (hr:(q3j B f z).2+1+RM.q1b p<=f+z) (h:qnn B X (q3j B f z).2 (RM.q1b p) p (RM.q18 2 (q3e B f) ((q3j B f z).1.length:Int) (p.size:Int) (SM.q1f 1 p.data.toList))) :
  q3e X f=q3e B f/\(q8p B f->q8p X f)/\q3j X f z=((q3j B f z).1 ++ [p],(q3j B f z).2+1+RM.q1b p)/\q78 X (q3j X f z).2 (f+z) (q3e X f) (q3j X f z).1.length:=by
 obtain ⟨hl,ha,hh,hs⟩:=h
 have hge:f+1<=(q3j B f z).2:=q7z _ _ _
 have e0:=ha f (Or.inl (by omega))
 have eg:q3e X f=q3e B f:=by unfold q3e;rw [e0]
 have hm:RM.may 2 (q3e B f) ((q3j B f z).1.length:Int) (p.size:Int) (SM.q1f 1 p.data.toList):=⟨Or.inr rfl,q5g B f,⟨by omega,by omega⟩,⟨by omega,by omega⟩,SM.q4k _ _⟩
 have hread:=(RM.qh8 _ _ _ _ _ hm).1
 obtain ⟨n1,n2,n3,n4,n5⟩:=RM.q76 _ _ _ _ _ hm
 rw [<-RM.q4y _ _ _ _ _ hm] at n1 n2 n3 n4 n5
 rw [<-hh] at n1 n2 n3 n4 n5 hread
 have hck:(RM.q0u (p.size:Int)).toNat=RM.q1b p:=by rw [RM.q81 p hp];omega
 have ecut:(X.drop ((q3j B f z).2+1)).take (RM.q1b p)=RM.qd0 p:=by
  apply List.ext_getElem
  ·rw [List.length_take,List.length_drop,RM.q2t];omega
  ·intro i h1 h2
   rw [RM.q2t] at h2
   rw [List.getElem_take,List.getElem_drop]
   have:=hs i h2
   rw [qwz (by omega)] at this
   rw [this]
   simp [RM.qd0]
 have erec:qe1 X (f+z) (q3j B f z).2 (q3e B f) ((q3j B f z).1.length:Int)/\q9p X (q3j B f z).2=p:=by
  have eb:q9p X (q3j B f z).2=p:=by
   unfold q9p
   rw [n4,hck,ecut];exact RM.qqi p hp
  refine ⟨⟨by omega,hread,n1,n2,n3,?_,?_,?_⟩,eb⟩
  ·rw [n4,hck];exact hr
  ·rw [n4,hck,ecut];exact RM.qij p hp
  ·rw [n4,hck,ecut,n5,RM.qqi p hp]
 have hbad : ∀j,j<f+z->(q3j B f z).2+1+RM.q1b p<=j->¬ bad (gB X j) (q3e B f) (((q3j B f z).1 ++ [p]).length):=fun j h1 h2 hb=>by
  rw [ha j (Or.inr (by omega))] at hb
  refine hcl j h1 (by omega) ⟨hb.1,hb.2.1,hb.2.2.1,?_⟩
  have:=hb.2.2.2
  rw [List.length_append,List.length_cons,List.length_nil] at this
  omega
 have eo:q3j X f z=((q3j B f z).1 ++ [p],(q3j B f z).2+1+RM.q1b p):=by
  have h1:=q90 (g:=q3e B f) hB (hl ▸ hB) (z - 1) (f+1) [] (by omega) (fun j h1 h2=>(ha j (Or.inl h2)).symm)
  have hstep:=q42 (B:=X) (e:=f+z) (g:=q3e B f) (z - 2) (q3j B f z).2 (q3j B f z).1 erec.1
  rw [erec.2,hck,q27 _ _ _ (j5t (fun hlt=>hbad _ hlt (Nat.le_refl _))),show z - 2+1=z - 1 from by omega] at hstep
  show q36 X (f+z) (q3e X f) (z - 1) (f+1) []=_
  rw [eg,h1]
  exact hstep
 refine ⟨eg,fun hb=>?_,eo,?_⟩
 ·unfold q8p at hb ⊢;rw [eg,e0];exact hb
 ·rw [eo,eg]
  exact hbad
end YthpgnliicpejoaaGreatDoor.AM
end Go.Proofs
namespace Go.Proofs
open Go.RowKit
set_option linter.unusedVariables false
set_option linter.unusedSimpArgs false
namespace YthpgnliicpejoaaGreatDoor.AM
theorem qf5 {s:ByteArray} (h:s.size=32):DM.q52 s=s:=by
 have hl:s.data.toList.length=32:=by simpa using h
 unfold DM.q52 RM.qdh
 rw [hl]
 simp only [Nat.sub_self,List.replicate_zero,List.append_nil]
 exact RM.qu5 s
theorem qap (d:DM.Dk) (l m:List DM.Ac):DM.runK d (l++m)=DM.runK (DM.runK d l) m:=by unfold DM.runK;rw [List.foldl_append]
theorem q4u (B:BL) : ∀(l:List DM.Ac) (c:List DM.Wr),(∀a∈l,a.1=false)->DM.runK ⟨B,c⟩ l=⟨B,c++l.map fun a=>(a.2.1,DM.q52 a.2.2)⟩
 | [],c,_=>by simp [DM.runK]
 | a::l,c,h=>by
  have ha:a.1=false:=h a (List.mem_cons_self ..)
  have e:DM.q5v ⟨B,c⟩ a=⟨B,c ++ [(a.2.1,DM.q52 a.2.2)]⟩:=by unfold DM.q5v DM.qzo;rw [ha];rfl
  show DM.runK (DM.q5v ⟨B,c⟩ a) l=_
  rw [e,q4u B l _ (fun b hb=>h b (List.mem_cons_of_mem _ hb)),List.map_cons,List.append_assoc];rfl
theorem qpx (keep:Nat->Bool) (B:BL) (c:List DM.Wr) : ∀(k:Nat),k<=c.length->∀j,gB (DM.q0j keep B c k) j=gB B j \/ ∃ p∈c,p.1.toNat=j/\gB (DM.q0j keep B c k) j=p.2
 | 0,_,j=>Or.inl rfl
 | k+1,hk,j=>by
  have ih:=qpx keep B c k (by omega) j
  unfold DM.q0j
  by_cases h:keep k=true
  ·rw [if_pos h,q8o]
   have hg:c.getD k (0,⟨#[]⟩)=c[k]:=by simp [List.getD,show k<c.length from hk]
   rw [hg]
   by_cases h2:(c[k].1.toNat=j/\c[k].1.toNat<(DM.q0j keep B c k).length)
   ·rw [if_pos h2];exact Or.inr ⟨c[k],List.getElem_mem _,h2.1,rfl⟩
   ·rw [if_neg h2];exact ih
  ·rw [if_neg h];exact ih
def j5n (nx:Nat) (p:ByteArray) (k:Nat):List DM.Wr:=(List.range k).map fun i=>(((nx+1+i:Nat):Int),RM.sec p i)
theorem qur (nx:Nat) (p:ByteArray) (k:Nat):(j5n nx p k).length=k:=by unfold j5n;simp
theorem qic (B:BL) (nx k:Nat) (p:ByteArray) (hl:nx+k<B.length) : ∀i,i<=k->∀j,gB (DM.q0j (fun _=>true) B (j5n nx p k) i) j=if nx<j/\j<=nx+i then RM.sec p (j - nx - 1) else gB B j
 | 0,_,j=>by rw [if_neg (by omega)];rfl
 | i+1,hi,j=>by
  have ih:=qic B nx k p hl i (by omega) j
  have hg:(j5n nx p k).getD i (0,⟨#[]⟩)=(((nx+1+i:Nat):Int),RM.sec p i):=by
   rw [List.getD_eq_getElem?_getD,List.getElem?_eq_getElem (by rw [qur];omega)]
   simp [j5n]
  unfold DM.q0j
  rw [if_pos rfl,q8o,hg,DM.q0x,ih,Int.toNat_natCast]
  by_cases h:nx+1+i=j
  ·rw [if_pos ⟨h,by omega⟩,if_pos ⟨by omega,by omega⟩,show j - nx - 1=i from by omega]
  ·rw [if_neg (fun h2=>h h2.1)]
   by_cases h2:nx<j/\j<=nx+i
   ·rw [if_pos h2,if_pos ⟨h2.1,by omega⟩]
   ·rw [if_neg h2,if_neg (fun h3=>h2 ⟨h3.1,by omega⟩)]
def qhf (nx:Nat) (p:ByteArray) (k:Nat):List DM.Ac:=(List.range k).map fun i=>(false,((nx+1+i:Nat):Int),RM.sec p i)
def flA:DM.Ac:=(true,0,⟨#[]⟩)
def q92 (nx:Nat) (p h:ByteArray):List DM.Ac:=qhf nx p (RM.q1b p) ++ [flA,(false,(nx:Int),h),flA]
theorem q6l (nx:Nat) (p:ByteArray) (k:Nat):(qhf nx p k).length=k:=by unfold qhf;simp
theorem q8f (nx:Nat) (p h:ByteArray):(q92 nx p h).length=RM.q1b p+3:=by unfold q92;rw [List.length_append,q6l];rfl
theorem qj8 (nx:Nat) (p:ByteArray) (k:Nat) : ∀a∈qhf nx p k,a.1=false:=fun a ha=>by
 obtain ⟨i,_,rfl⟩:=List.mem_map.1 ha;rfl
theorem qtn (nx:Nat) (p:ByteArray) (k:Nat):((qhf nx p k).map fun a=>(a.2.1,DM.q52 a.2.2))=j5n nx p k:=by
 unfold qhf j5n
 rw [List.map_map]
 exact List.map_congr_left fun i _=>by simp only [Function.comp,qf5 (RM.qan p i)]
theorem qmj {n nx:Nat} {p h:ByteArray} (hl:nx+RM.q1b p<n) (hh:h.size=32) : ∀a∈q92 nx p h,DM.q3m n a:=fun a ha=>by
 rcases List.mem_append.1 ha with h1|h1
 ·obtain ⟨i,hi,rfl⟩:=List.mem_map.1 h1
  have:=List.mem_range.1 hi
  refine Or.inr ?_
  unfold DM.q1v
  rw [if_pos (show DM.inD n ((nx+1+i:Nat):Int) from ⟨by omega,by omega⟩),if_neg (by simp only [RM.qan];omega)]
 ·simp only [List.mem_cons,List.not_mem_nil,or_false] at h1
  rcases h1 with rfl|rfl|rfl
  ·exact Or.inl rfl
  ·refine Or.inr ?_
   unfold DM.q1v
   rw [if_pos ⟨by simp only;omega,by simp only;omega⟩,if_neg (by simp only [hh];omega)]
  ·exact Or.inl rfl
theorem qk0 {d:DM.Dk} {l:List DM.Ac} (hm:DM.q2b d) (h : ∀a∈l,DM.q3m d.secs.length a):DM.qkr d l=0/\DM.qt1 d l=DM.runK d l/\DM.q2b (DM.runK d l):=by
 have h1:=DM.qbk _ _ h
 refine ⟨?_,?_,DM.qb4 hm h⟩
 ·unfold DM.qkr;rw [if_pos hm,h1]
 ·unfold DM.qt1;rw [if_pos ⟨hm,h1⟩]
theorem qgv {B S:BL} {nx:Nat} {p h:ByteArray} (hl:nx+RM.q1b p<B.length) (hS:S.length=B.length) (hs : ∀j,gB S j=if nx<j/\j<=nx+RM.q1b p then RM.sec p (j - nx - 1) else gB B j):qnn B (S.set nx h) nx (RM.q1b p) p h:=by
 refine ⟨by rw [List.length_set];exact hS,fun j hj=>?_,?_,fun i hi=>?_⟩
 ·rw [q8o,if_neg (by omega),hs,if_neg (by omega)]
 ·rw [q8o,if_pos ⟨rfl,by omega⟩]
 ·rw [q8o,if_neg (by omega),hs,if_pos (by omega)]
  congr 1;omega
theorem qaq {B S:BL} {nx:Nat} {p:ByteArray} (hS:S.length=B.length) (hs : ∀j,gB S j=if nx<j/\j<=nx+RM.q1b p then RM.sec p (j - nx - 1) else gB B j):qte B S nx (RM.q1b p) p:=by
 refine ⟨hS,fun j=>?_⟩
 by_cases h:nx<j/\j<=nx+RM.q1b p
 ·refine Or.inr ⟨j - nx - 1,by omega,by omega,?_⟩
  rw [hs,if_pos h]
 ·refine Or.inl ?_
  rw [hs,if_neg h]
theorem qg7 (B:BL) (nx:Nat) (p h:ByteArray) (N:Nat) (keep:Nat->Bool) (hl:nx+RM.q1b p<B.length) (hh:h.size=32) :
  ∃ X,DM.q16 keep (DM.runK ⟨B,[]⟩ ((q92 nx p h).take N))=⟨X,[]⟩/\(N<=RM.q1b p+1->qte B X nx (RM.q1b p) p)/\(RM.q1b p+3<=N->qnn B X nx (RM.q1b p) p h)/\(qte B X nx (RM.q1b p) p\/qnn B X nx (RM.q1b p) p h) /\
   (RM.q1b p+3<=N->DM.runK ⟨B,[]⟩ ((q92 nx p h).take N)=⟨X,[]⟩):=by
 obtain ⟨S,hSd⟩ : ∃ S,DM.q0j (fun _=>true) B (j5n nx p (RM.q1b p)) (RM.q1b p)=S:=⟨_,rfl⟩
 have hS:S.length=B.length:=by rw [<-hSd,DM.q0x]
 have hs:=qic B nx (RM.q1b p) p hl (RM.q1b p) (Nat.le_refl _)
 rw [hSd] at hs
 have e1:DM.runK ⟨B,[]⟩ (qhf nx p (RM.q1b p) ++ [flA])=⟨S,[]⟩:=by
  rw [qap,q4u B _ _ (qj8 nx p (RM.q1b p)),List.nil_append,qtn]
  show DM.q16 _ _=_
  unfold DM.q16
  simp only [qur]
  rw [hSd]
 by_cases c1:N<=RM.q1b p
 ·have et:(q92 nx p h).take N=(qhf nx p (RM.q1b p)).take N:=by unfold q92;rw [List.take_append_of_le_length (by rw [q6l];exact c1)]
  have hA:qte B (DM.q0j keep B ((j5n nx p (RM.q1b p)).take N) ((j5n nx p (RM.q1b p)).take N).length) nx (RM.q1b p) p:=by
   refine ⟨DM.q0x ..,fun j=>?_⟩
   rcases qpx keep B ((j5n nx p (RM.q1b p)).take N) _ (Nat.le_refl _) j with h1|⟨q,hq,h2,h3⟩
   ·exact Or.inl h1
   ·obtain ⟨i,hi,rfl⟩:=List.mem_map.1 (List.mem_of_mem_take hq)
    exact Or.inr ⟨i,List.mem_range.1 hi,by rw [<-h2];exact Int.toNat_natCast _,h3⟩
  refine ⟨_,?_,fun _=>hA,fun h=>by omega,Or.inl hA,fun h=>by omega⟩
  rw [et,q4u B _ _ (fun a ha=>qj8 _ _ _ a (List.mem_of_mem_take ha)),List.nil_append,List.map_take,qtn]
  rfl
 ·by_cases c2:N=RM.q1b p+1
  ·have et:(q92 nx p h).take N=qhf nx p (RM.q1b p) ++ [flA]:=by
    subst c2;unfold q92
    rw [show RM.q1b p+1=(qhf nx p (RM.q1b p)).length+1 from by rw [q6l],List.take_length_add_append];rfl
   rw [et,e1]
   exact ⟨S,rfl,fun _=>qaq hS hs,fun h=>by omega,Or.inl (qaq hS hs),fun h=>by omega⟩
  ·by_cases c3:N=RM.q1b p+2
   ·have et:(q92 nx p h).take N=(qhf nx p (RM.q1b p) ++ [flA]) ++ [(false,(nx:Int),h)]:=by
     subst c3;unfold q92
     rw [show RM.q1b p+2=(qhf nx p (RM.q1b p)).length+2 from by rw [q6l],List.take_length_add_append,List.append_assoc];rfl
    have er:DM.runK ⟨B,[]⟩ ((qhf nx p (RM.q1b p) ++ [flA]) ++ [(false,(nx:Int),h)])=⟨S,[((nx:Int),h)]⟩:=by
     rw [qap,e1,q4u S _ _ (fun a ha=>by obtain rfl:a=_:=List.mem_singleton.1 ha;rfl)]
     simp only [List.map_cons,List.map_nil,List.nil_append,qf5 hh]
    rw [et,er]
    by_cases hk:keep 0=true
    ·refine ⟨S.set nx h,?_,fun h=>by omega,fun h=>by omega,Or.inr (qgv hl hS hs),fun h=>by omega⟩
     show DM.Dk.mk (DM.q0j keep S [((nx:Int),h)] 1) []=_
     unfold DM.q0j DM.q0j
     rw [if_pos hk];rfl
    ·refine ⟨S,?_,fun _=>qaq hS hs,fun h=>by omega,Or.inl (qaq hS hs),fun h=>by omega⟩
     show DM.Dk.mk (DM.q0j keep S [((nx:Int),h)] 1) []=_
     unfold DM.q0j DM.q0j
     rw [if_neg hk]
   ·have et:(q92 nx p h).take N=(qhf nx p (RM.q1b p) ++ [flA]) ++ [(false,(nx:Int),h),flA]:=by
     rw [List.take_of_length_le (by rw [q8f];omega)]
     unfold q92;rw [List.append_assoc];rfl
    have er:DM.runK ⟨B,[]⟩ ((qhf nx p (RM.q1b p) ++ [flA]) ++ [(false,(nx:Int),h),flA])=⟨S.set nx h,[]⟩:=by
     rw [qap,e1]
     show DM.q16 (fun _=>true) ⟨S,[] ++ [((nx:Int),DM.q52 h)]⟩=_
     rw [qf5 hh]
     show DM.Dk.mk (DM.q0j (fun _=>true) S [((nx:Int),h)] 1) []=_
     unfold DM.q0j DM.q0j
     rw [if_pos rfl];rfl
    rw [et,er]
    exact ⟨S.set nx h,rfl,fun h=>by omega,fun _=>qgv hl hS hs,Or.inr (qgv hl hS hs),fun _=>rfl⟩
end YthpgnliicpejoaaGreatDoor.AM
end Go.Proofs
