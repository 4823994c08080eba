
import Derived.Test.YtapfankgdkdkgaaGreatDoorEb20
import Derived.Test.YtapfankgdkdkgaaGreatDoorEb12
namespace Go.Proofs.YtapfankgdkdkgaaGreatDoor.AM
open Go.RowKit
set_option linter.unusedVariables false
set_option maxRecDepth 20000
def q3r (n:Nat):List LC:=[]
def q37 (n:Nat) (a1:Yy) (a2:Yy):Option (Bool) :=
 (bif decide ((a2.length:Int)<=(a1.length:Int)) then q04 (IntKind.wrap .i64 ((a1.length:Int) - (a2.length:Int))) fun (n1:Int)=>(q1d a1 n1 (a1.length:Int)).bind fun s2=>some (decide (s2=a2)) else some false)
def q14 (n:Nat):FC:={ f:=79,args:=[.one (.c (.d .str)),.one (.c (.d .str))],res:=.one (.c (.d .bool)),F:=fun p=>q37 n p.1 p.2 }
def q4s (n:Nat):List FC:=[]
theorem q7q (n:Nat) {G:World->Prop} (hG:Know Inv G) : ∀c∈q4s n,q0p Tryz.prog G c/\q07 c.args=true:=(fun _ h=>by cases h)
def q4k:q06:=[]
theorem qch:drB q4k (q00 Tryz.f79)=true:=by kernel_rfl
theorem qbl (n:Nat) : ∀a,(q14 n).F a=main Tryz.prog 21 (q4s n) (q3r n) q4k (q00 Tryz.f79) [.tmp 4] (q14 n).args (q14 n).res a:=by intro a;kernel_rfl
theorem qbw (n:Nat):q09 Inv Tryz.prog (q14 n):=fun G hG=>⟨⟨by kernel_rfl,fun a r h=>q03 (c:=q00 Tryz.f79) Tryz.func79 (by kernel_rfl) (by kernel_rfl) (Nat.le_of_ble_eq_true (by kernel_rfl)) hG.st (by kernel_rfl) (rs:=[.tmp 4]) (by kernel_rfl) (q7q n hG) (lts:=q3r n) (fun F hF hFG=>have hK:Know Inv F.G:=hFG ▸ hG;(q02 fun j L h1 h2 h3=>absurd h2 (Nat.not_lt.2 (Nat.le_trans (by decide +kernel) h1)))) qch ((qbl n a).symm.trans h)⟩,rfl⟩
def qj3 (n:Nat):List LC:=[]
def qbd (n:Nat) (a1:Yy) (a2:Yy):Option (Bool) :=
 (q37 n a1 a2).bind fun r1=>some r1
def q5t (n:Nat):FC:={ f:=52,args:=[.one (.c (.d .str)),.one (.c (.d .str))],res:=.one (.c (.d .bool)),F:=fun p=>qbd n p.1 p.2 }
def qnv (n:Nat):List FC:=[q14 n]
theorem qxz (n:Nat) {G:World->Prop} (hG:Know Inv G) : ∀c∈qnv n,q0p Tryz.prog G c/\q07 c.args=true:=List.forall_mem_cons.2 ⟨qbw n G hG,(fun _ h=>by cases h)⟩
def qpc:q06:=[]
theorem j6r:drB qpc (q00 Tryz.f52)=true:=by kernel_rfl
theorem j85 (n:Nat) : ∀a,(q5t n).F a=main Tryz.prog 8 (qnv n) (qj3 n) qpc (q00 Tryz.f52) [.tmp 4] (q5t n).args (q5t n).res a:=by intro a;kernel_rfl
theorem jbm (n:Nat):q09 Inv Tryz.prog (q5t n):=fun G hG=>⟨⟨by kernel_rfl,fun a r h=>q03 (c:=q00 Tryz.f52) Tryz.func52 (by kernel_rfl) (by kernel_rfl) (Nat.le_of_ble_eq_true (by kernel_rfl)) hG.st (by kernel_rfl) (rs:=[.tmp 4]) (by kernel_rfl) (qxz n hG) (lts:=qj3 n) (fun F hF hFG=>have hK:Know Inv F.G:=hFG ▸ hG;(q02 fun j L h1 h2 h3=>absurd h2 (Nat.not_lt.2 (Nat.le_trans (by decide +kernel) h1)))) j6r ((j85 n a).symm.trans h)⟩,rfl⟩
def jkn (n:Nat):List LC:=[]
def jif (n:Nat) (a1:Yy) (a2:Yy):Option (Bool) :=
 (qf0 n a1 a2).bind fun r1=>some r1.2.2
def qmf (n:Nat):FC:={ f:=51,args:=[.one (.c (.d .str)),.one (.c (.d .str))],res:=.one (.c (.d .bool)),F:=fun p=>jif n p.1 p.2 }
def jqt (n:Nat):List FC:=[q7h n]
theorem jwz (n:Nat) {G:World->Prop} (hG:Know Inv G) : ∀c∈jqt n,q0p Tryz.prog G c/\q07 c.args=true:=List.forall_mem_cons.2 ⟨qtk n G hG,(fun _ h=>by cases h)⟩
def jtv:q06:=[]
theorem k5h:drB jtv (q00 Tryz.f51)=true:=by kernel_rfl
theorem k5s (n:Nat) : ∀a,(qmf n).F a=main Tryz.prog 16 (jqt n) (jkn n) jtv (q00 Tryz.f51) [.tmp 4] (qmf n).args (qmf n).res a:=by intro a;kernel_rfl
theorem jqk (n:Nat):q09 Inv Tryz.prog (qmf n):=fun G hG=>⟨⟨by kernel_rfl,fun a r h=>q03 (c:=q00 Tryz.f51) Tryz.func51 (by kernel_rfl) (by kernel_rfl) (Nat.le_of_ble_eq_true (by kernel_rfl)) hG.st (by kernel_rfl) (rs:=[.tmp 4]) (by kernel_rfl) (jwz n hG) (lts:=jkn n) (fun F hF hFG=>have hK:Know Inv F.G:=hFG ▸ hG;(q02 fun j L h1 h2 h3=>absurd h2 (Nat.not_lt.2 (Nat.le_trans (by decide +kernel) h1)))) k5h ((k5s n a).symm.trans h)⟩,rfl⟩
def qzm (n:Nat):List LC:=[]
def qit (n:Nat) (a1:Yy) (a2:Qq):Option (Int) :=
 (qf5 n a1).bind fun r1=>(bif !decide (r1.2.2=0) then some r1.2.2 else (qbi n a2.1).bind fun r2=>(bif !r2 then some (6:Int) else (q6c n a2.2).bind fun r3=>(bif !r3 then some (7:Int) else (qvd n a2.1 a2.2).bind fun r4=>(bif !r4 then some (8:Int) else some (0:Int)))))
def qae (n:Nat):FC:={ f:=46,args:=[.one (.c (.d .str)),.one (.agg [.d .str,.d (.int .i64),.d (.int .i64),.d (.int .i64),.d .str,.d .str])],res:=.one (.c (.d (.int .i64))),F:=fun p=>qit n p.1 p.2 }
def j8h (n:Nat):List FC:=[q7k n,q61 n,q4r n,qg1 n]
theorem je4 (n:Nat) {G:World->Prop} (hG:Know Inv G) : ∀c∈j8h n,q0p Tryz.prog G c/\q07 c.args=true:=List.forall_mem_cons.2 ⟨qwm n G hG,List.forall_mem_cons.2 ⟨qi8 n G hG,List.forall_mem_cons.2 ⟨qea n G hG,List.forall_mem_cons.2 ⟨jk5 n G hG,(fun _ h=>by cases h)⟩⟩⟩⟩
def j9q:q06:=[]
theorem jvy:drB j9q (q00 Tryz.f46)=true:=by kernel_rfl
theorem jq0 (n:Nat) : ∀a,(qae n).F a=main Tryz.prog 35 (j8h n) (qzm n) j9q (q00 Tryz.f46) [.tmp 4] (qae n).args (qae n).res a:=by intro a;kernel_rfl
theorem jby (n:Nat):q09 Inv Tryz.prog (qae n):=fun G hG=>⟨⟨by kernel_rfl,fun a r h=>q03 (c:=q00 Tryz.f46) Tryz.func46 (by kernel_rfl) (by kernel_rfl) (Nat.le_of_ble_eq_true (by kernel_rfl)) hG.st (by kernel_rfl) (rs:=[.tmp 4]) (by kernel_rfl) (je4 n hG) (lts:=qzm n) (fun F hF hFG=>have hK:Know Inv F.G:=hFG ▸ hG;(q02 fun j L h1 h2 h3=>absurd h2 (Nat.not_lt.2 (Nat.le_trans (by decide +kernel) h1)))) jvy ((jq0 n a).symm.trans h)⟩,rfl⟩
def qr1 (n:Nat):List LC:=[]
def j9u (n:Nat) (a1:Yy) (a2:Yy):Option (Int) :=
 (bif decide ((a2.length:Int)=0) then some (a1.length:Int) else (bif decide ((a2.length:Int)=1) then (sAt a2 (0:Int)).bind fun c1=>(qtd n a1 c1).bind fun r2=>some r2 else (bif decide ((a2.length:Int)=(a1.length:Int)) then (bif decide (a2=a1) then some (0:Int) else some (-1:Int)) else (bif decide ((a1.length:Int)<(a2.length:Int)) then some (-1:Int) else none))))
def q9s (n:Nat):FC:={ f:=54,args:=[.one (.c (.d .str)),.one (.c (.d .str))],res:=.one (.c (.d (.int .i64))),F:=fun p=>j9u n p.1 p.2 }
def j0a (n:Nat):List FC:=[qer n]
theorem jau (n:Nat) {G:World->Prop} (hG:Know Inv G) : ∀c∈j0a n,q0p Tryz.prog G c/\q07 c.args=true:=List.forall_mem_cons.2 ⟨jiv n G hG,(fun _ h=>by cases h)⟩
def qyx:q06:=[]
theorem jmn:drB qyx (q00 Tryz.f54)=true:=by kernel_rfl
theorem jn3 (n:Nat) : ∀a,(q9s n).F a=main Tryz.prog 36 (j0a n) (qr1 n) qyx (q00 Tryz.f54) [.tmp 4] (q9s n).args (q9s n).res a:=by intro a;kernel_rfl
theorem jou (n:Nat):q09 Inv Tryz.prog (q9s n):=fun G hG=>⟨⟨by kernel_rfl,fun a r h=>q03 (c:=q00 Tryz.f54) Tryz.func54 (by kernel_rfl) (by kernel_rfl) (Nat.le_of_ble_eq_true (by kernel_rfl)) hG.st (by kernel_rfl) (rs:=[.tmp 4]) (by kernel_rfl) (jau n hG) (lts:=qr1 n) (fun F hF hFG=>have hK:Know Inv F.G:=hFG ▸ hG;(q02 fun j L h1 h2 h3=>absurd h2 (Nat.not_lt.2 (Nat.le_trans (by decide +kernel) h1)))) jmn ((jn3 n a).symm.trans h)⟩,rfl⟩
def j73 (n:Nat):List LC:=[]
def jfv (n:Nat) (a1:Int) (a2:Int) (a3:Unit) (a4:Unit) (b1:Yy) (b2:Yy):Option (Yy×(Yy×(Yy×Unit))×Unit) :=
 (q1d b1 (0:Int) a1).bind fun s1=>(q7s s1 b2).bind fun s2=>(q1d b1 a2 (b1.length:Int)).bind fun s3=>(q7s s2 s3).bind fun s4=>some (s4,((b1,(b2,())),()))
def q5c (n:Nat):FX:={ f:=49,args:=[.one (.c (.d (.int .i64))),.one (.c (.d (.int .i64))),.one (.c (.box 1000000 0)),.one (.c (.box 1000001 0))],boxes:=[(1000000,(9,[.d .str])),(1000001,(9,[.d .str]))],rows:=[],res:=.one (.c (.d .str)),oboxes:=[(1000000,(9,[.d .str])),(1000001,(9,[.d .str]))],orows:=[],F:=fun p=>jfv n p.1.1 p.1.2.1 p.1.2.2.1 p.1.2.2.2 p.2.1.1 p.2.1.2.1 }
def jii (n:Nat):List FC:=[]
theorem jn5 (n:Nat) {G:World->Prop} (hG:Know Inv G) : ∀c∈jii n,q0p Tryz.prog G c/\q07 c.args=true:=(fun _ h=>by cases h)
def jjx:q06:=[(1,[⟨16905424996341287883274873117328531408603114433155888708094742688853564881815195503181352188405030012629580639784228117724235121904085937192017247310814066461068373887968162693399408565645646113696775453062758028932736905368049975642828700760545167247665234588727628529728,2^21,0⟩,⟨100663297,2^24,0⟩,⟨393*2^21,2^27,3⟩,⟨135243399970730303066198984938628251268824915465247109664757941510828519054521564025450817507240240101036645118273824941793880975232687497536137978486512531688546991103745301547195268525165168909574203624502064231461895242944399805142629606084361337981321876709827370025472,2^30,0⟩,⟨393*2^27,2^33,15⟩,⟨16905424996341287883274873117328531408603114433155888708094742688853564881815195503181352188405030012629580639784228117724235121904085937192017247310814066461068373887968162693399408565645646113696775453062758028932736905368049975642828700760545167247665234589139932807232,2^36,0⟩,⟨3298534883336,2^39,0⟩,⟨393*2^36,2^42,96⟩,⟨25089*2^33,2^45,255⟩,⟨67108867*2^19,2^18,511⟩])]
theorem k02:drB jjx (q00 Tryz.f49)=true:=by kernel_rfl
theorem jzu (n:Nat) : ∀a,(q5c n).F a=qcs Tryz.prog 16 (jii n) (j73 n) jjx (q00 Tryz.f49) [.tmp 6] (q5c n).args (q5c n).boxes (q5c n).rows (q5c n).res (q5c n).oboxes (q5c n).orows a:=by intro a;kernel_rfl
theorem jr8 (n:Nat):qgd Inv Tryz.prog (q5c n):=fun G hG=>⟨by kernel_rfl,fun a r h=>q2b (x:=q5c n) (c:=q00 Tryz.f49) Tryz.func49 (by kernel_rfl) (by kernel_rfl) (Nat.le_of_ble_eq_true (by kernel_rfl)) (by kernel_rfl) (rs:=[.tmp 6]) (by kernel_rfl) (jn5 n hG) (lts:=j73 n) (fun F hF hFG=>have hK:Know Inv F.G:=hFG ▸ hG;(q02 fun j L h1 h2 h3=>absurd h2 (Nat.not_lt.2 (Nat.le_trans (by decide +kernel) h1)))) k02 ((jzu n a).symm.trans h)⟩
def j6s (n:Nat):List LC:=[]
def jda (n:Nat) (a1:Yy) (a2:Yy) (a3:Unit) (b1:Yy) (b2:Yy):Option ((Yy×(Int))×(Yy×(Yy×Unit))×Unit) :=
 (qf0 n a1 a2).bind fun r1=>(bif !r1.2.2 then some ((([]:Yy),(5:Int)),((b1,(b2,())),())) else (jfv n r1.1 r1.2.1 () () b1 b2).bind fun r2=>some ((r2.1,(0:Int)),((r2.2.1.1,(r2.2.1.2.1,())),())))
def q59 (n:Nat):FX:={ f:=48,args:=[.one (.c (.d .str)),.one (.c (.d .str)),.one (.c (.fn 49 [1000000,1000001]))],boxes:=[(1000000,(9,[.d .str])),(1000001,(9,[.d .str]))],rows:=[],res:=.tup [.c (.d .str),.c (.d (.int .i64))],oboxes:=[(1000000,(9,[.d .str])),(1000001,(9,[.d .str]))],orows:=[],F:=fun p=>jda n p.1.1 p.1.2.1 p.1.2.2 p.2.1.1 p.2.1.2.1 }
def jhm (n:Nat):List FC:=[q7u (q5c n) [(1000000,1000000),(1000001,1000001)] [],q7h n]
theorem jnw (n:Nat) {G:World->Prop} (hG:Know Inv G) : ∀c∈jhm n,q0p Tryz.prog G c/\q07 c.args=true:=List.forall_mem_cons.2 ⟨q2c (jr8 n G hG),List.forall_mem_cons.2 ⟨qtk n G hG,(fun _ h=>by cases h)⟩⟩
def jjm:q06:=[]
theorem k12:drB jjm (q00 Tryz.f48)=true:=by kernel_rfl
theorem k16 (n:Nat) : ∀a,(q59 n).F a=qcs Tryz.prog 24 (jhm n) (j6s n) jjm (q00 Tryz.f48) [.tmp 6,.tmp 7] (q59 n).args (q59 n).boxes (q59 n).rows (q59 n).res (q59 n).oboxes (q59 n).orows a:=by intro a;kernel_rfl
theorem jsn (n:Nat):qgd Inv Tryz.prog (q59 n):=fun G hG=>⟨by kernel_rfl,fun a r h=>q2b (x:=q59 n) (c:=q00 Tryz.f48) Tryz.func48 (by kernel_rfl) (by kernel_rfl) (Nat.le_of_ble_eq_true (by kernel_rfl)) (by kernel_rfl) (rs:=[.tmp 6,.tmp 7]) (by kernel_rfl) (jnw n hG) (lts:=j6s n) (fun F hF hFG=>have hK:Know Inv F.G:=hFG ▸ hG;(q02 fun j L h1 h2 h3=>absurd h2 (Nat.not_lt.2 (Nat.le_trans (by decide +kernel) h1)))) k12 ((k16 n a).symm.trans h)⟩
def jig (n:Nat):List LC:=[]
def qop (n:Nat) (a1:Yy) (a2:Qq):Option (Yy×(Int)) :=
 (qit n a1 a2).bind fun r1=>(bif !decide (r1=0) then some (([]:Yy),r1) else (qh2 n a2.2).bind fun r2=>(jda n a1 a2.1 () a1 r2).bind fun r3=>some r3.1)
def qhp (n:Nat):FC:={ f:=27,args:=[.one (.c (.d .str)),.one (.agg [.d .str,.d (.int .i64),.d (.int .i64),.d (.int .i64),.d .str,.d .str])],res:=.tup [.c (.d .str),.c (.d (.int .i64))],F:=fun p=>qop n p.1 p.2 }
def jws (n:Nat):List FC:=[q7u (q59 n) [(1000000,2),(1000001,7)] [],qae n,qb7 n]
theorem jsf (n:Nat) {G:World->Prop} (hG:Know Inv G) : ∀c∈jws n,q0p Tryz.prog G c/\q07 c.args=true:=List.forall_mem_cons.2 ⟨q2c (jsn n G hG),List.forall_mem_cons.2 ⟨jby n G hG,List.forall_mem_cons.2 ⟨j2z n G hG,(fun _ h=>by cases h)⟩⟩⟩
def jsk:q06:=[]
theorem k4u:drB jsk (q00 Tryz.f27)=true:=by kernel_rfl
theorem k4n (n:Nat) : ∀a,(qhp n).F a=main Tryz.prog 24 (jws n) (jig n) jsk (q00 Tryz.f27) [.tmp 4,.tmp 5] (qhp n).args (qhp n).res a:=by intro a;kernel_rfl
theorem jef (n:Nat):q09 Inv Tryz.prog (qhp n):=fun G hG=>⟨⟨by kernel_rfl,fun a r h=>q03 (c:=q00 Tryz.f27) Tryz.func27 (by kernel_rfl) (by kernel_rfl) (Nat.le_of_ble_eq_true (by kernel_rfl)) hG.st (by kernel_rfl) (rs:=[.tmp 4,.tmp 5]) (by kernel_rfl) (jsf n hG) (lts:=jig n) (fun F hF hFG=>have hK:Know Inv F.G:=hFG ▸ hG;(q02 fun j L h1 h2 h3=>absurd h2 (Nat.not_lt.2 (Nat.le_trans (by decide +kernel) h1)))) k4u ((k4n n a).symm.trans h)⟩,rfl⟩
def jkd (n:Nat):List LC:=[]
def qyz (n:Nat) (a1:Yy) (a2:Qq):Option (Yy×(Int)) :=
 (qit n a1 a2).bind fun r1=>(bif !decide (r1=0) then some (([]:Yy),r1) else (jif n a1 a2.1).bind fun r2=>(bif r2 then some (([]:Yy),(11:Int)) else (qbd n a1 ([10]:Yy)).bind fun r3=>(bif !r3 then (q7s a1 ([10]:Yy)).bind fun s4=>(q7s s4 ([114,101,113,117,105,114,101]:Yy)).bind fun s5=>(q7s s5 ([32]:Yy)).bind fun s6=>(q7s s6 a2.1).bind fun s7=>(q7s s7 ([32]:Yy)).bind fun s8=>(qh2 n a2.2).bind fun r9=>(q7s s8 r9).bind fun s10=>(q7s s10 ([10]:Yy)).bind fun s11=>some (s11,(0:Int)) else (q7s a1 ([114,101,113,117,105,114,101]:Yy)).bind fun s12=>(q7s s12 ([32]:Yy)).bind fun s13=>(q7s s13 a2.1).bind fun s14=>(q7s s14 ([32]:Yy)).bind fun s15=>(qh2 n a2.2).bind fun r16=>(q7s s15 r16).bind fun s17=>(q7s s17 ([10]:Yy)).bind fun s18=>some (s18,(0:Int)))))
def qna (n:Nat):FC:={ f:=30,args:=[.one (.c (.d .str)),.one (.agg [.d .str,.d (.int .i64),.d (.int .i64),.d (.int .i64),.d .str,.d .str])],res:=.tup [.c (.d .str),.c (.d (.int .i64))],F:=fun p=>qyz n p.1 p.2 }
def jto (n:Nat):List FC:=[qae n,qmf n,q5t n,qb7 n]
theorem jxn (n:Nat) {G:World->Prop} (hG:Know Inv G) : ∀c∈jto n,q0p Tryz.prog G c/\q07 c.args=true:=List.forall_mem_cons.2 ⟨jby n G hG,List.forall_mem_cons.2 ⟨jqk n G hG,List.forall_mem_cons.2 ⟨jbm n G hG,List.forall_mem_cons.2 ⟨j2z n G hG,(fun _ h=>by cases h)⟩⟩⟩⟩
def jq5:q06:=[(8,[⟨442721857769029238785,2^66,0⟩,⟨49*2^66,2^69,1⟩,⟨49*2^69,2^72,3⟩,⟨226673591177742970258944,2^75,0⟩,⟨1851167661284900923769856,2^78,8⟩,⟨3137*2^72,2^81,31⟩,⟨49*2^81,2^84,63⟩,⟨928455029464035206174344704,2^87,0⟩,⟨7582382740622954183757136896,2^90,128⟩,⟨49*2^90,2^93,384⟩,⟨25089*2^84,2^96,1023⟩,⟨49*2^96,2^99,2047⟩,⟨633825300114114700748351627264,4096,4095⟩,⟨196608,32768,8191⟩]),(1000008,[])]
theorem k4q:drB jq5 (q00 Tryz.f30)=true:=by kernel_rfl
theorem k6h (n:Nat) : ∀a,(qna n).F a=main Tryz.prog 34 (jto n) (jkd n) jq5 (q00 Tryz.f30) [.tmp 4,.tmp 5] (qna n).args (qna n).res a:=by intro a;kernel_rfl
theorem jtg (n:Nat):q09 Inv Tryz.prog (qna n):=fun G hG=>⟨⟨by kernel_rfl,fun a r h=>q03 (c:=q00 Tryz.f30) Tryz.func30 (by kernel_rfl) (by kernel_rfl) (Nat.le_of_ble_eq_true (by kernel_rfl)) hG.st (by kernel_rfl) (rs:=[.tmp 4,.tmp 5]) (by kernel_rfl) (jxn n hG) (lts:=jkd n) (fun F hF hFG=>have hK:Know Inv F.G:=hFG ▸ hG;(q02 fun j L h1 h2 h3=>absurd h2 (Nat.not_lt.2 (Nat.le_trans (by decide +kernel) h1)))) k4q ((k6h n a).symm.trans h)⟩,rfl⟩
def j1t (n:Nat):List LC:=[]
def jil (n:Nat) (a1:Int) (a2:Int) (a3:Unit) (b1:Yy):Option (Yy×(Yy×Unit)×Unit) :=
 (q1d b1 (0:Int) a1).bind fun s1=>(j9u n s1 ([10]:Yy)).bind fun r2=>q04 (IntKind.wrap .i64 (r2+(1:Int))) fun n3=>(q1d b1 a2 (b1.length:Int)).bind fun s4=>(j50 n s4 ([10]:Yy)).bind fun r5=>(q1d b1 (0:Int) n3).bind fun s6=>(q7s s6 r5.2.1).bind fun s7=>some (s7,((b1,()),()))
def q3v (n:Nat):FX:={ f:=53,args:=[.one (.c (.d (.int .i64))),.one (.c (.d (.int .i64))),.one (.c (.box 1000000 0))],boxes:=[(1000000,(9,[.d .str]))],rows:=[],res:=.one (.c (.d .str)),oboxes:=[(1000000,(9,[.d .str]))],orows:=[],F:=fun p=>jil n p.1.1 p.1.2.1 p.1.2.2 p.2.1.1 }
def jc0 (n:Nat):List FC:=[q9s n,qru n]
theorem jg1 (n:Nat) {G:World->Prop} (hG:Know Inv G) : ∀c∈jc0 n,q0p Tryz.prog G c/\q07 c.args=true:=List.forall_mem_cons.2 ⟨jou n G hG,List.forall_mem_cons.2 ⟨jt8 n G hG,(fun _ h=>by cases h)⟩⟩
def jbx:q06:=[]
theorem jub:drB jbx (q00 Tryz.f53)=true:=by kernel_rfl
theorem jw6 (n:Nat) : ∀a,(q3v n).F a=qcs Tryz.prog 28 (jc0 n) (j1t n) jbx (q00 Tryz.f53) [.tmp 5] (q3v n).args (q3v n).boxes (q3v n).rows (q3v n).res (q3v n).oboxes (q3v n).orows a:=by intro a;kernel_rfl
theorem jp9 (n:Nat):qgd Inv Tryz.prog (q3v n):=fun G hG=>⟨by kernel_rfl,fun a r h=>q2b (x:=q3v n) (c:=q00 Tryz.f53) Tryz.func53 (by kernel_rfl) (by kernel_rfl) (Nat.le_of_ble_eq_true (by kernel_rfl)) (by kernel_rfl) (rs:=[.tmp 5]) (by kernel_rfl) (jg1 n hG) (lts:=j1t n) (fun F hF hFG=>have hK:Know Inv F.G:=hFG ▸ hG;(q02 fun j L h1 h2 h3=>absurd h2 (Nat.not_lt.2 (Nat.le_trans (by decide +kernel) h1)))) jub ((jw6 n a).symm.trans h)⟩
def j5m (n:Nat):List LC:=[]
def jqo (n:Nat) (a1:Yy) (a2:Yy) (a3:Unit) (b1:Yy):Option ((Yy×(Int))×(Yy×Unit)×Unit) :=
 (qf0 n a1 a2).bind fun r1=>(bif !r1.2.2 then some ((([]:Yy),(5:Int)),((b1,()),())) else (jil n r1.1 r1.2.1 () b1).bind fun r2=>some ((r2.1,(0:Int)),((r2.2.1.1,()),())))
def q5d (n:Nat):FX:={ f:=48,args:=[.one (.c (.d .str)),.one (.c (.d .str)),.one (.c (.fn 53 [1000000]))],boxes:=[(1000000,(9,[.d .str]))],rows:=[],res:=.tup [.c (.d .str),.c (.d (.int .i64))],oboxes:=[(1000000,(9,[.d .str]))],orows:=[],F:=fun p=>jqo n p.1.1 p.1.2.1 p.1.2.2 p.2.1.1 }
def jkg (n:Nat):List FC:=[q7u (q3v n) [(1000000,1000000)] [],q7h n]
theorem jot (n:Nat) {G:World->Prop} (hG:Know Inv G) : ∀c∈jkg n,q0p Tryz.prog G c/\q07 c.args=true:=List.forall_mem_cons.2 ⟨q2c (jp9 n G hG),List.forall_mem_cons.2 ⟨qtk n G hG,(fun _ h=>by cases h)⟩⟩
def jjg:q06:=[]
theorem k1i:drB jjg (q00 Tryz.f48)=true:=by kernel_rfl
theorem jzz (n:Nat) : ∀a,(q5d n).F a=qcs Tryz.prog 24 (jkg n) (j5m n) jjg (q00 Tryz.f48) [.tmp 6,.tmp 7] (q5d n).args (q5d n).boxes (q5d n).rows (q5d n).res (q5d n).oboxes (q5d n).orows a:=by intro a;kernel_rfl
theorem jxo (n:Nat):qgd Inv Tryz.prog (q5d n):=fun G hG=>⟨by kernel_rfl,fun a r h=>q2b (x:=q5d n) (c:=q00 Tryz.f48) Tryz.func48 (by kernel_rfl) (by kernel_rfl) (Nat.le_of_ble_eq_true (by kernel_rfl)) (by kernel_rfl) (rs:=[.tmp 6,.tmp 7]) (by kernel_rfl) (jot n hG) (lts:=j5m n) (fun F hF hFG=>have hK:Know Inv F.G:=hFG ▸ hG;(q02 fun j L h1 h2 h3=>absurd h2 (Nat.not_lt.2 (Nat.le_trans (by decide +kernel) h1)))) k1i ((jzz n a).symm.trans h)⟩
def j5o (n:Nat):List LC:=[]
def jsz (n:Nat) (a1:Yy) (a2:Yy):Option (Yy×(Int)) :=
 (qf5 n a1).bind fun r1=>(bif !decide (r1.2.2=0) then some (([]:Yy),r1.2.2) else (jqo n a1 a2 () a1).bind fun r2=>some r2.1)
def qiz (n:Nat):FC:={ f:=31,args:=[.one (.c (.d .str)),.one (.c (.d .str))],res:=.tup [.c (.d .str),.c (.d (.int .i64))],F:=fun p=>jsz n p.1 p.2 }
def ji1 (n:Nat):List FC:=[q7u (q5d n) [(1000000,2)] [],q7k n]
theorem jnz (n:Nat) {G:World->Prop} (hG:Know Inv G) : ∀c∈ji1 n,q0p Tryz.prog G c/\q07 c.args=true:=List.forall_mem_cons.2 ⟨q2c (jxo n G hG),List.forall_mem_cons.2 ⟨qwm n G hG,(fun _ h=>by cases h)⟩⟩
def jkh:q06:=[]
theorem k0d:drB jkh (q00 Tryz.f31)=true:=by kernel_rfl
theorem jyw (n:Nat) : ∀a,(qiz n).F a=main Tryz.prog 24 (ji1 n) (j5o n) jkh (q00 Tryz.f31) [.tmp 4,.tmp 5] (qiz n).args (qiz n).res a:=by intro a;kernel_rfl
theorem k0e (n:Nat):q09 Inv Tryz.prog (qiz n):=fun G hG=>⟨⟨by kernel_rfl,fun a r h=>q03 (c:=q00 Tryz.f31) Tryz.func31 (by kernel_rfl) (by kernel_rfl) (Nat.le_of_ble_eq_true (by kernel_rfl)) hG.st (by kernel_rfl) (rs:=[.tmp 4,.tmp 5]) (by kernel_rfl) (jnz n hG) (lts:=j5o n) (fun F hF hFG=>have hK:Know Inv F.G:=hFG ▸ hG;(q02 fun j L h1 h2 h3=>absurd h2 (Nat.not_lt.2 (Nat.le_trans (by decide +kernel) h1)))) k0d ((jyw n a).symm.trans h)⟩,rfl⟩
@[reducible] def qqu:SSt:=⟨[(0,.one (.c (.d .str))),(10,.one (.c (.d (.int .i64)))),(24,.one (.c (.d (.lst (.prod .str Tv))))),(25,.one (.c (.d (.int .i64)))),(26,.one (.c (.d (.int .i64))))],[],[]⟩
@[reducible] def qfz:List (Exit×SSt):=[(.ret,⟨[(4,.one (.c (.d .str))),(5,.one (.c (.d (.int .i64)))),(6,.one (.c (.d (.int .i64))))],[],[]⟩),(.exit 0,⟨[(0,.one (.c (.d .str))),(10,.one (.c (.d (.int .i64))))],[],[]⟩)]
def k4j (n:Nat) (rec:(Yy)->Int->LQ->Int->Int->Option (((Yy×(Int×(Int×Unit)))×Unit×Unit)⊕((Yy×(Int×Unit))×Unit×Unit))) (a1:Yy) (a2:Int) (a3:List (Qq)) (a4:Int) (a5:Int):Option (((Yy×(Int×(Int×Unit)))×Unit×Unit)⊕((Yy×(Int×Unit))×Unit×Unit)) :=
 (bif decide (a5<a4) then (q0n a3 a5).bind fun x2=>(jif n a1 x2.1).bind fun r3=>(bif !r3 then q04 (IntKind.wrap .i64 (a5+1)) fun n4=>rec a1 a2 a3 a4 n4 else (qop n a1 x2).bind fun r5=>(bif !decide (r5.2=0) then some (Sum.inl ((([]:Yy),((0:Int),(r5.2,()))),((),()))) else q04 (IntKind.wrap .i64 (a2+1)) fun n6=>q04 (IntKind.wrap .i64 (a5+1)) fun n7=>rec r5.1 n6 a3 a4 n7)) else some (Sum.inr (((a1,(a2,())),((),())))))
def je0 (n:Nat) (rec:pSt qqu->Option (q0f qfz)) (p:pSt qqu):Option (q0f qfz):=k4j n (fun a1 a2 a3 a4 a5=>rec ((a1,(a2,(a3,(a4,(a5,()))))),((),()))) p.1.1 p.1.2.1 p.1.2.2.1 p.1.2.2.2.1 p.1.2.2.2.2.1
def jlv (n m:Nat) (a1:Yy) (a2:Int) (a3:List (Qq)) (a4:Int) (a5:Int):Option (((Yy×(Int×(Int×Unit)))×Unit×Unit)⊕((Yy×(Int×Unit))×Unit×Unit)):=q0g (je0 n) m ((a1,(a2,(a3,(a4,(a5,()))))),((),()))
def jqd (n:Nat):LC:={ sh:=qqu,outs:=qfz,F:=q0g (je0 n) n }
def j4e (n:Nat):List LC:=[jqd n]
def k2q (n:Nat) (a1:Yy) (a2:List (Qq)):Option (Yy×(Int×(Int))) :=
 (qf5 n a1).bind fun r1=>(bif !decide (r1.2.2=0) then some (([]:Yy),((0:Int),r1.2.2)) else (jlv n n a1 (0:Int) a2 (a2.length:Int) (0:Int)).bind fun o8=>Sum.elim (fun (q9:(Yy×(Int×(Int×Unit)))×Unit×Unit)=>some (q9.1.1,(q9.1.2.1,q9.1.2.2.1))) (fun (q10:(Yy×(Int×Unit))×Unit×Unit)=>some (q10.1.1,(q10.1.2.1,(0:Int)))) o8)
def qsn (n:Nat):FC:={ f:=32,args:=[.one (.c (.d .str)),.one (.c (.d (.lst (.prod .str Tv))))],res:=.tup [.c (.d .str),.c (.d (.int .i64)),.c (.d (.int .i64))],F:=fun p=>k2q n p.1 p.2 }
def jel (n:Nat):List FC:=[q7k n,qmf n,qhp n]
theorem j7c (n:Nat) {G:World->Prop} (hG:Know Inv G) : ∀c∈jel n,q0p Tryz.prog G c/\q07 c.args=true:=List.forall_mem_cons.2 ⟨qwm n G hG,List.forall_mem_cons.2 ⟨jqk n G hG,List.forall_mem_cons.2 ⟨jef n G hG,(fun _ h=>by cases h)⟩⟩⟩
def jh4:q06:=[]
theorem jr0:drB jh4 (q00 Tryz.f32)=true:=by kernel_rfl
theorem k0f (n:Nat) : ∀rec p,je0 n rec p=round Tryz.prog 50 (jel n) (j4e n) jh4 1 qqu qfz (q01 0 0 (q00 Tryz.f32)) rec p:=by intro rec p;kernel_rfl
theorem jtf (n:Nat) {F:Fr} (hF:F.n=50) (hK:Know Inv F.G):q75 Tryz.prog F (jqd n) (q01 0 0 (q00 Tryz.f32)) :=
 q0i hF (by kernel_rfl) (j7c n hK) (k0f n) (fuel:=n) (fun _=>rfl) (q02 fun j L h1 h2 h3=>absurd h2 (Nat.not_lt.2 (Nat.le_trans (by decide +kernel) h1))) (q0t jr0)
theorem k6e (n:Nat) : ∀a,(qsn n).F a=main Tryz.prog 50 (jel n) (j4e n) jh4 (q00 Tryz.f32) [.tmp 4,.tmp 5,.tmp 6] (qsn n).args (qsn n).res a:=by intro a;kernel_rfl
theorem k5g (n:Nat):q09 Inv Tryz.prog (qsn n):=fun G hG=>⟨⟨by kernel_rfl,fun a r h=>q03 (c:=q00 Tryz.f32) Tryz.func32 (by kernel_rfl) (by kernel_rfl) (Nat.le_of_ble_eq_true (by kernel_rfl)) hG.st (by kernel_rfl) (rs:=[.tmp 4,.tmp 5,.tmp 6]) (by kernel_rfl) (j7c n hG) (lts:=j4e n) (fun F hF hFG=>have hK:Know Inv F.G:=hFG ▸ hG;(q02 (c:=(q00 Tryz.f32)) (fun j L h1 h2 h3=>by
  have h2':j<1:=Nat.lt_of_lt_of_le h2 (by decide +kernel)
  match j,h1,h2',h3 with
  | 0,_,_,h3=>obtain rfl:=Option.some.inj h3;exact (show q01 0 0 (q00 Tryz.f32)=q01 0 0 (q00 Tryz.f32) by kernel_rfl) ▸ jtf n hF hK
  | j+1,_,h2',_=>exact absurd h2' (by omega)))) jr0 ((k6e n a).symm.trans h)⟩,rfl⟩
end Go.Proofs.YtapfankgdkdkgaaGreatDoor.AM
