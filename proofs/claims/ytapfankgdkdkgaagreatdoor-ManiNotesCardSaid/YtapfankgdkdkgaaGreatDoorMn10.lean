
import Derived.Test.YtapfankgdkdkgaaGreatDoorMn9
namespace Go.Proofs.YtapfankgdkdkgaaGreatDoor.AM
open Go.RowKit
set_option linter.unusedVariables false
set_option maxRecDepth 20000
def q2v (n:Nat):List LC:=[]
def q18 (n:Nat) (a1:List UInt8) (a2:List UInt8):Option (Bool) :=
 (bif decide (((List.length a2:Nat):Int)<=((List.length a1:Nat):Int)) then (q1s a1 (0:Int) ((List.length a2:Nat):Int)).bind fun (s1:List UInt8)=>some (decide (s1=a2)) else some false)
def q0m (n:Nat):FC:={ f:=181,args:=[.one (.c (.d .str)),.one (.c (.d .str))],res:=.one (.c (.d .bool)),F:=fun p=>q18 n p.1 p.2 }
def q3i (n:Nat):List FC:=[]
theorem q5k (n:Nat) {G:World->Prop} (hG:Know Inv G) : ∀c∈q3i n,q0y Tryz.prog G c/\q09 c.args=true:=(fun _ h=>by cases h)
def q38:q08:=[]
theorem q7h:drB q38 (q00 Tryz.f181)=true:=by kernel_rfl
theorem q7r (n:Nat) : ∀a,(q0m n).F a=main Tryz.prog 18 (q3i n) (q2v n) q38 (q00 Tryz.f181) [.tmp 4] (q0m n).args (q0m n).res a:=by intro a;kernel_rfl
theorem q3e (n:Nat):q0d Inv Tryz.prog (q0m n):=fun G hG=>⟨⟨by kernel_rfl,fun a r h=>q04 (c:=q00 Tryz.f181) Tryz.func181 (by kernel_rfl) (by kernel_rfl) (Nat.le_of_ble_eq_true (by kernel_rfl)) hG.st (by kernel_rfl) (rs:=[.tmp 4]) (by kernel_rfl) (q5k n hG) (lts:=q2v n) (fun F hF hFG=>have hK:Know Inv F.G:=hFG ▸ hG;(q02 fun j L h1 h2 h3=>absurd h2 (Nat.not_lt.2 (Nat.le_trans (by decide +kernel) h1)))) q7h ((q7r n a).symm.trans h)⟩,rfl⟩
def q9x (n:Nat):List LC:=[]
def q89 (n:Nat) (a1:List UInt8) (a2:List UInt8):Option (List UInt8) :=
 (q18 n a1 a2).bind fun (r1:Bool)=>(bif r1 then (q1s a1 ((List.length a2:Nat):Int) ((List.length a1:Nat):Int)).bind fun (s2:List UInt8)=>some s2 else some a1)
def q2p (n:Nat):FC:={ f:=183,args:=[.one (.c (.d .str)),.one (.c (.d .str))],res:=.one (.c (.d .str)),F:=fun p=>q89 n p.1 p.2 }
def qbr (n:Nat):List FC:=[q0m n]
theorem qiu (n:Nat) {G:World->Prop} (hG:Know Inv G) : ∀c∈qbr n,q0y Tryz.prog G c/\q09 c.args=true:=List.forall_mem_cons.2 ⟨q3e n G hG,(fun _ h=>by cases h)⟩
def qc5:q08:=[]
theorem qpm:drB qc5 (q00 Tryz.f183)=true:=by kernel_rfl
theorem qqb (n:Nat) : ∀a,(q2p n).F a=main Tryz.prog 13 (qbr n) (q9x n) qc5 (q00 Tryz.f183) [.tmp 4] (q2p n).args (q2p n).res a:=by intro a;kernel_rfl
theorem qpz (n:Nat):q0d Inv Tryz.prog (q2p n):=fun G hG=>⟨⟨by kernel_rfl,fun a r h=>q04 (c:=q00 Tryz.f183) Tryz.func183 (by kernel_rfl) (by kernel_rfl) (Nat.le_of_ble_eq_true (by kernel_rfl)) hG.st (by kernel_rfl) (rs:=[.tmp 4]) (by kernel_rfl) (qiu n hG) (lts:=q9x n) (fun F hF hFG=>have hK:Know Inv F.G:=hFG ▸ hG;(q02 fun j L h1 h2 h3=>absurd h2 (Nat.not_lt.2 (Nat.le_trans (by decide +kernel) h1)))) qpm ((qqb n a).symm.trans h)⟩,rfl⟩
def qbt (n:Nat):List LC:=[]
def q61 (n:Nat) (a1:List UInt8) (a2:List UInt8):Option (List UInt8) :=
 (q89 n a1 a2).bind fun (r1:List UInt8)=>some r1
def q37 (n:Nat):FC:={ f:=155,args:=[.one (.c (.d .str)),.one (.c (.d .str))],res:=.one (.c (.d .str)),F:=fun p=>q61 n p.1 p.2 }
def qdt (n:Nat):List FC:=[q2p n]
theorem qml (n:Nat) {G:World->Prop} (hG:Know Inv G) : ∀c∈qdt n,q0y Tryz.prog G c/\q09 c.args=true:=List.forall_mem_cons.2 ⟨qpz n G hG,(fun _ h=>by cases h)⟩
def qev:q08:=[]
theorem qt4:drB qev (q00 Tryz.f155)=true:=by kernel_rfl
theorem qtt (n:Nat) : ∀a,(q37 n).F a=main Tryz.prog 8 (qdt n) (qbt n) qev (q00 Tryz.f155) [.tmp 4] (q37 n).args (q37 n).res a:=by intro a;kernel_rfl
theorem qf4 (n:Nat):q0d Inv Tryz.prog (q37 n):=fun G hG=>⟨⟨by kernel_rfl,fun a r h=>q04 (c:=q00 Tryz.f155) Tryz.func155 (by kernel_rfl) (by kernel_rfl) (Nat.le_of_ble_eq_true (by kernel_rfl)) hG.st (by kernel_rfl) (rs:=[.tmp 4]) (by kernel_rfl) (qml n hG) (lts:=qbt n) (fun F hF hFG=>have hK:Know Inv F.G:=hFG ▸ hG;(q02 fun j L h1 h2 h3=>absurd h2 (Nat.not_lt.2 (Nat.le_trans (by decide +kernel) h1)))) qt4 ((qtt n a).symm.trans h)⟩,rfl⟩
def j5j (n:Nat):List LC:=[]
def jcp (n:Nat) (a1:List UInt8) (a2:List UInt8):Option ((List UInt8)×((List UInt8)×(Bool))) :=
 (qo9 a1 a2).bind fun (r1:Int)=>(bif decide ((0:Int)<=r1) then (q1s a1 (0:Int) r1).bind fun (s2:List UInt8)=>q0b (IntKind.wrap .i64 (r1+((List.length a2:Nat):Int))) fun (n3:Int)=>(q1s a1 n3 ((List.length a1:Nat):Int)).bind fun (s4:List UInt8)=>some (s2,(s4,true)) else some (a1,(([]:List UInt8),false)))
def qnf (n:Nat):FC:={ f:=82,args:=[.one (.c (.d .str)),.one (.c (.d .str))],res:=.tup [.c (.d .str),.c (.d .str),.c (.d .bool)],F:=fun p=>jcp n p.1 p.2 }
def jgo (n:Nat):List FC:=[j70]
theorem jfj (n:Nat) {G:World->Prop} (hG:Know Inv G) : ∀c∈jgo n,q0y Tryz.prog G c/\q09 c.args=true:=List.forall_mem_cons.2 ⟨jkm G hG,(fun _ h=>by cases h)⟩
def jey:q08:=[(3,[⟨3298534883329,2^39,0⟩,⟨12582913*2^21,2^42,0⟩,⟨393*2^39,2^45,3⟩,⟨1688849860263937,2^48,0⟩,⟨6442450945*2^21,2^51,0⟩,⟨108086391056891912,2^54,0⟩,⟨49*2^54,2^57,32⟩,⟨3137*2^51,2^60,112⟩,⟨200705*2^48,2^63,248⟩,⟨35184372113408,4096,7⟩,⟨9223372036854972416,32768,1023⟩,⟨3*2^19,2^18,2047⟩])]
theorem jq4:drB jey (q00 Tryz.f82)=true:=by kernel_rfl
theorem jod (n:Nat) : ∀a,(qnf n).F a=main Tryz.prog 23 (jgo n) (j5j n) jey (q00 Tryz.f82) [.tmp 4,.tmp 5,.tmp 6] (qnf n).args (qnf n).res a:=by intro a;kernel_rfl
theorem jng (n:Nat):q0d Inv Tryz.prog (qnf n):=fun G hG=>⟨⟨by kernel_rfl,fun a r h=>q04 (c:=q00 Tryz.f82) Tryz.func82 (by kernel_rfl) (by kernel_rfl) (Nat.le_of_ble_eq_true (by kernel_rfl)) hG.st (by kernel_rfl) (rs:=[.tmp 4,.tmp 5,.tmp 6]) (by kernel_rfl) (jfj n hG) (lts:=j5j n) (fun F hF hFG=>have hK:Know Inv F.G:=hFG ▸ hG;(q02 fun j L h1 h2 h3=>absurd h2 (Nat.not_lt.2 (Nat.le_trans (by decide +kernel) h1)))) jq4 ((jod n a).symm.trans h)⟩,rfl⟩
def jbe (n:Nat):List LC:=[]
def qvw (n:Nat) (a1:List UInt8) (a2:List UInt8):Option ((List UInt8)×((List UInt8)×(Bool))) :=
 (jcp n a1 a2).bind fun (r1:(List UInt8)×((List UInt8)×(Bool)))=>some r1
def qrl (n:Nat):FC:={ f:=55,args:=[.one (.c (.d .str)),.one (.c (.d .str))],res:=.tup [.c (.d .str),.c (.d .str),.c (.d .bool)],F:=fun p=>qvw n p.1 p.2 }
def jm9 (n:Nat):List FC:=[qnf n]
theorem jju (n:Nat) {G:World->Prop} (hG:Know Inv G) : ∀c∈jm9 n,q0y Tryz.prog G c/\q09 c.args=true:=List.forall_mem_cons.2 ⟨jng n G hG,(fun _ h=>by cases h)⟩
def jmg:q08:=[]
theorem jsa:drB jmg (q00 Tryz.f55)=true:=by kernel_rfl
theorem jrl (n:Nat) : ∀a,(qrl n).F a=main Tryz.prog 13 (jm9 n) (jbe n) jmg (q00 Tryz.f55) [.tmp 4,.tmp 5,.tmp 6] (qrl n).args (qrl n).res a:=by intro a;kernel_rfl
theorem jlu (n:Nat):q0d Inv Tryz.prog (qrl n):=fun G hG=>⟨⟨by kernel_rfl,fun a r h=>q04 (c:=q00 Tryz.f55) Tryz.func55 (by kernel_rfl) (by kernel_rfl) (Nat.le_of_ble_eq_true (by kernel_rfl)) hG.st (by kernel_rfl) (rs:=[.tmp 4,.tmp 5,.tmp 6]) (by kernel_rfl) (jju n hG) (lts:=jbe n) (fun F hF hFG=>have hK:Know Inv F.G:=hFG ▸ hG;(q02 fun j L h1 h2 h3=>absurd h2 (Nat.not_lt.2 (Nat.le_trans (by decide +kernel) h1)))) jsa ((jrl n a).symm.trans h)⟩,rfl⟩
def j0b (n:Nat):List LC:=[]
def qtm (n:Nat) (a1:Int):Option (Bool) :=
 some (!decide (a1=a1))
def qf2 (n:Nat):FC:={ f:=184,args:=[.one (.c (.d (.int .i64)))],res:=.one (.c (.d .bool)),F:=fun p=>qtm n p }
def j6g (n:Nat):List FC:=[]
theorem j94 (n:Nat) {G:World->Prop} (hG:Know Inv G) : ∀c∈j6g n,q0y Tryz.prog G c/\q09 c.args=true:=(fun _ h=>by cases h)
def j6r:q08:=[]
theorem jk2:drB j6r (q00 Tryz.f184)=true:=by kernel_rfl
theorem jjs (n:Nat) : ∀a,(qf2 n).F a=main Tryz.prog 6 (j6g n) (j0b n) j6r (q00 Tryz.f184) [.tmp 2] (qf2 n).args (qf2 n).res a:=by intro a;kernel_rfl
theorem jkr (n:Nat):q0d Inv Tryz.prog (qf2 n):=fun G hG=>⟨⟨by kernel_rfl,fun a r h=>q04 (c:=q00 Tryz.f184) Tryz.func184 (by kernel_rfl) (by kernel_rfl) (Nat.le_of_ble_eq_true (by kernel_rfl)) hG.st (by kernel_rfl) (rs:=[.tmp 2]) (by kernel_rfl) (j94 n hG) (lts:=j0b n) (fun F hF hFG=>have hK:Know Inv F.G:=hFG ▸ hG;(q02 fun j L h1 h2 h3=>absurd h2 (Nat.not_lt.2 (Nat.le_trans (by decide +kernel) h1)))) jk2 ((jjs n a).symm.trans h)⟩,rfl⟩
def qqv (n:Nat):List LC:=[]
def q8h (n:Nat) (a1:Int) (a2:Int):Option (Int) :=
 (qtm n a1).bind fun (r1:Bool)=>(qtm n a2).bind fun (r2:Bool)=>(bif r1 then (bif r2 then some (0:Int) else some (-1:Int)) else (bif r2 then some (1:Int) else (bif decide (a1<a2) then some (-1:Int) else (bif decide (a2<a1) then some (1:Int) else some (0:Int)))))
def q6n (n:Nat):FC:={ f:=158,args:=[.one (.c (.d (.int .i64))),.one (.c (.d (.int .i64)))],res:=.one (.c (.d (.int .i64))),F:=fun p=>q8h n p.1 p.2 }
def qzc (n:Nat):List FC:=[qf2 n]
theorem j43 (n:Nat) {G:World->Prop} (hG:Know Inv G) : ∀c∈qzc n,q0y Tryz.prog G c/\q09 c.args=true:=List.forall_mem_cons.2 ⟨jkr n G hG,(fun _ h=>by cases h)⟩
def qxu:q08:=[]
theorem jgx:drB qxu (q00 Tryz.f158)=true:=by kernel_rfl
theorem jfs (n:Nat) : ∀a,(q6n n).F a=main Tryz.prog 20 (qzc n) (qqv n) qxu (q00 Tryz.f158) [.tmp 4] (q6n n).args (q6n n).res a:=by intro a;kernel_rfl
theorem qwa (n:Nat):q0d Inv Tryz.prog (q6n n):=fun G hG=>⟨⟨by kernel_rfl,fun a r h=>q04 (c:=q00 Tryz.f158) Tryz.func158 (by kernel_rfl) (by kernel_rfl) (Nat.le_of_ble_eq_true (by kernel_rfl)) hG.st (by kernel_rfl) (rs:=[.tmp 4]) (by kernel_rfl) (j43 n hG) (lts:=qqv n) (fun F hF hFG=>have hK:Know Inv F.G:=hFG ▸ hG;(q02 fun j L h1 h2 h3=>absurd h2 (Nat.not_lt.2 (Nat.le_trans (by decide +kernel) h1)))) jgx ((jfs n a).symm.trans h)⟩,rfl⟩
@[reducible] def qed:SSt:=⟨[(3,.one (.c (.d (.int .i64)))),(6,.one (.c (.d (.lst (.int .i64))))),(7,.one (.c (.d (.int .i64)))),(8,.one (.c (.d (.int .i64))))],[],[]⟩
@[reducible] def q8j:List (Exit×SSt):=[(.ret,⟨[(2,.one (.c (.d (.int .i64))))],[],[]⟩),(.exit 0,⟨[(3,.one (.c (.d (.int .i64))))],[],[]⟩)]
def qtu (n:Nat) (rec:Int->(List (Int))->Int->Int->Option (((Int×(Unit))×(Unit)×(Unit))⊕((Int×(Unit))×(Unit)×(Unit)))) (a1:Int) (a2:List (Int)) (a3:Int) (a4:Int):Option (((Int×(Unit))×(Unit)×(Unit))⊕((Int×(Unit))×(Unit)×(Unit))) :=
 (bif decide (a4<a3) then (q1g a2 a4).bind fun (x1:Int)=>(bif !decide (x1=a1) then some (Sum.inl ((x1,()),((),()))) else q0b (IntKind.wrap .i64 (a4+(1:Int))) fun (n2:Int)=>rec a1 a2 a3 n2) else some (Sum.inr (((a1,()),((),())))))
def qty (n:Nat) (rec:pSt qed->Option (q0h q8j)) (p:pSt qed):Option (q0h q8j):=qtu n (fun a1 a2 a3 a4=>rec ((a1,(a2,(a3,(a4,())))),((),()))) p.1.1 p.1.2.1 p.1.2.2.1 p.1.2.2.2.1
def q8e (n m:Nat) (a1:Int) (a2:List (Int)) (a3:Int) (a4:Int):Option (((Int×(Unit))×(Unit)×(Unit))⊕((Int×(Unit))×(Unit)×(Unit))):=q0i (qty n) m ((a1,(a2,(a3,(a4,())))),((),()))
theorem qip (n m:Nat) (a1:Int) (a2:List (Int)) (a3:Int) (a4:Int):q8e n (m+1) a1 a2 a3 a4=qtu n (fun a1 a2 a3 a4=>q8e n m a1 a2 a3 a4) a1 a2 a3 a4:=rfl
def j7q (n:Nat):LC:={ sh:=qed,outs:=q8j,F:=q0i (qty n) n }
def qmj (n:Nat):List LC:=[j7q n]
def qno (n:Nat) (a1:List (Int)):Option (Int) :=
 (q8e n n (0:Int) a1 ((List.length a1:Nat):Int) (0:Int)).bind fun (o3:((Int×(Unit))×(Unit)×(Unit))⊕((Int×(Unit))×(Unit)×(Unit)))=>Sum.elim (fun (q4:(Int×(Unit))×(Unit)×(Unit))=>some q4.1.1) (fun (q5:(Int×(Unit))×(Unit)×(Unit))=>some q5.1.1) o3
def qbe (n:Nat):FC:={ f:=157,args:=[.one (.c (.d (.lst (.int .i64))))],res:=.one (.c (.d (.int .i64))),F:=fun p=>qno n p }
def qvb (n:Nat):List FC:=[]
theorem qsq (n:Nat) {G:World->Prop} (hG:Know Inv G) : ∀c∈qvb n,q0y Tryz.prog G c/\q09 c.args=true:=(fun _ h=>by cases h)
def qug:q08:=[]
theorem j89:drB qug (q00 Tryz.f157)=true:=by kernel_rfl
theorem jhn (n:Nat) : ∀rec p,qty n rec p=round Tryz.prog 18 (qvb n) (qmj n) qug 1 qed q8j (q01 0 0 (q00 Tryz.f157)) rec p:=by intro rec p;kernel_rfl
theorem j9p (n:Nat) {F:Fr} (hF:F.n=18) (hK:Know Inv F.G):q8n Tryz.prog F (j7q n) (q01 0 0 (q00 Tryz.f157)) :=
 q0j hF (by kernel_rfl) (qsq n hK) (jhn n) (fuel:=n) (fun _=>rfl) (q02 fun j L h1 h2 h3=>absurd h2 (Nat.not_lt.2 (Nat.le_trans (by decide +kernel) h1))) (q0w j89)
theorem jji (n:Nat) : ∀a,(qbe n).F a=main Tryz.prog 18 (qvb n) (qmj n) qug (q00 Tryz.f157) [.tmp 2] (qbe n).args (qbe n).res a:=by intro a;kernel_rfl
theorem j6w (n:Nat):q0d Inv Tryz.prog (qbe n):=fun G hG=>⟨⟨by kernel_rfl,fun a r h=>q04 (c:=q00 Tryz.f157) Tryz.func157 (by kernel_rfl) (by kernel_rfl) (Nat.le_of_ble_eq_true (by kernel_rfl)) hG.st (by kernel_rfl) (rs:=[.tmp 2]) (by kernel_rfl) (qsq n hG) (lts:=qmj n) (fun F hF hFG=>have hK:Know Inv F.G:=hFG ▸ hG;(q02 (c:=(q00 Tryz.f157)) (fun j L h1 h2 h3=>by
  have h2':j<1:=Nat.lt_of_lt_of_le h2 (by decide +kernel)
  match j,h1,h2',h3 with
  | 0,_,_,h3=>obtain rfl:=Option.some.inj h3;exact (show q01 0 0 (q00 Tryz.f157)=q01 0 0 (q00 Tryz.f157) by kernel_rfl) ▸ j9p n hF hK
  | j+1,_,h2',_=>exact absurd h2' (by omega)))) j89 ((jji n a).symm.trans h)⟩,rfl⟩
@[reducible] def qam:SSt:=⟨[(1,.one (.c (.box 1 0))),(11,.one (.agg [.d (.int .i64),.d (.int .i64),.d (.int .i64)])),(12,.one (.c (.d (.int .i64))))],[(1,(44,[.d (.int .i64),.d (.int .i64),.d (.int .i64),.d .str,.d .str]))],[]⟩
@[reducible] def q6a:List (Exit×SSt):=[(.ret,⟨[(2,.one (.c (.d .bool)))],[],[]⟩),(.exit 0,⟨[(1,.one (.c (.box 1 0)))],[(1,(44,[.d (.int .i64),.d (.int .i64),.d (.int .i64),.d .str,.d .str]))],[]⟩)]
def qe1 (n:Nat) (rec:Int->Int->Int->Int->Int->Int->Int->(List UInt8)->(List UInt8)->Option (((Bool×(Unit))×(Unit)×(Unit))⊕((Unit×(Unit))×((Int×(Int×(Int×((List UInt8)×(List UInt8)))))×(Unit))×(Unit)))) (a1:Int) (a2:Int) (a3:Int) (a4:Int) (a5:Int) (a6:Int) (a7:Int) (a8:List UInt8) (a9:List UInt8):Option (((Bool×(Unit))×(Unit)×(Unit))⊕((Unit×(Unit))×((Int×(Int×(Int×((List UInt8)×(List UInt8)))))×(Unit))×(Unit))) :=
 (bif decide (a4<(3:Int)) then (q1g ([a1,a2,a3]:List (Int)) a4).bind fun (x1:Int)=>(bif decide (x1<(0:Int)) then some (Sum.inl ((false,()),((),()))) else (bif decide ((999999999:Int)<x1) then some (Sum.inl ((false,()),((),()))) else q0b (IntKind.wrap .i64 (a4+(1:Int))) fun (n2:Int)=>rec a1 a2 a3 n2 a5 a6 a7 a8 a9)) else some (Sum.inr ((((),()),(((a5,(a6,(a7,(a8,a9)))),()),())))))
def qmm (n:Nat) (rec:pSt qam->Option (q0h q6a)) (p:pSt qam):Option (q0h q6a):=qe1 n (fun a1 a2 a3 a4 a5 a6 a7 a8 a9=>rec (((),((a1,(a2,a3)),(a4,()))),(((a5,(a6,(a7,(a8,a9)))),()),()))) p.1.2.1.1 p.1.2.1.2.1 p.1.2.1.2.2 p.1.2.2.1 p.2.1.1.1 p.2.1.1.2.1 p.2.1.1.2.2.1 p.2.1.1.2.2.2.1 p.2.1.1.2.2.2.2
def q49 (n m:Nat) (a1:Int) (a2:Int) (a3:Int) (a4:Int) (a5:Int) (a6:Int) (a7:Int) (a8:List UInt8) (a9:List UInt8):Option (((Bool×(Unit))×(Unit)×(Unit))⊕((Unit×(Unit))×((Int×(Int×(Int×((List UInt8)×(List UInt8)))))×(Unit))×(Unit))):=q0i (qmm n) m (((),((a1,(a2,a3)),(a4,()))),(((a5,(a6,(a7,(a8,a9)))),()),()))
theorem q6t (n m:Nat) (a1:Int) (a2:Int) (a3:Int) (a4:Int) (a5:Int) (a6:Int) (a7:Int) (a8:List UInt8) (a9:List UInt8):q49 n (m+1) a1 a2 a3 a4 a5 a6 a7 a8 a9=qe1 n (fun a1 a2 a3 a4 a5 a6 a7 a8 a9=>q49 n m a1 a2 a3 a4 a5 a6 a7 a8 a9) a1 a2 a3 a4 a5 a6 a7 a8 a9:=rfl
def qzk (n:Nat):LC:={ sh:=qam,outs:=q6a,F:=q0i (qmm n) n }
def qh6 (n:Nat):List LC:=[qzk n]
def q5o (n:Nat) (a1:Int×(Int×(Int×((List UInt8)×(List UInt8))))):Option (Bool) :=
 (q49 n n a1.1 a1.2.1 a1.2.2.1 (0:Int) a1.1 a1.2.1 a1.2.2.1 a1.2.2.2.1 a1.2.2.2.2).bind fun (o3:((Bool×(Unit))×(Unit)×(Unit))⊕((Unit×(Unit))×((Int×(Int×(Int×((List UInt8)×(List UInt8)))))×(Unit))×(Unit)))=>Sum.elim (fun (q4:(Bool×(Unit))×(Unit)×(Unit))=>some q4.1.1) (fun (q5:(Unit×(Unit))×((Int×(Int×(Int×((List UInt8)×(List UInt8)))))×(Unit))×(Unit))=>(qkt q5.2.1.1.2.2.2.1 ()).bind fun (r6:Bool)=>(bif r6 then (qg2 q5.2.1.1.2.2.2.2 ()).bind fun (r7:Bool)=>some r7 else some false)) o3
def q48 (n:Nat):FC:={ f:=74,args:=[.one (.agg [.d (.int .i64),.d (.int .i64),.d (.int .i64),.d .str,.d .str])],res:=.one (.c (.d .bool)),F:=fun p=>q5o n p }
def qp3 (n:Nat):List FC:=[qsp,qo3]
theorem qnh (n:Nat) {G:World->Prop} (hG:Know Inv G) : ∀c∈qp3 n,q0y Tryz.prog G c/\q09 c.args=true:=List.forall_mem_cons.2 ⟨j8u G hG,List.forall_mem_cons.2 ⟨j29 G hG,(fun _ h=>by cases h)⟩⟩
def qlr:q08:=[]
theorem qwj:drB qlr (q00 Tryz.f74)=true:=by kernel_rfl
theorem j8m (n:Nat) : ∀rec p,qmm n rec p=round Tryz.prog 30 (qp3 n) (qh6 n) qlr 1 qam q6a (q01 0 0 (q00 Tryz.f74)) rec p:=by intro rec p;kernel_rfl
theorem j2p (n:Nat) {F:Fr} (hF:F.n=30) (hK:Know Inv F.G):q8n Tryz.prog F (qzk n) (q01 0 0 (q00 Tryz.f74)) :=
 q0j hF (by kernel_rfl) (qnh n hK) (j8m n) (fuel:=n) (fun _=>rfl) (q02 fun j L h1 h2 h3=>absurd h2 (Nat.not_lt.2 (Nat.le_trans (by decide +kernel) h1))) (q0w qwj)
theorem jbd (n:Nat) : ∀a,(q48 n).F a=main Tryz.prog 30 (qp3 n) (qh6 n) qlr (q00 Tryz.f74) [.tmp 2] (q48 n).args (q48 n).res a:=by intro a;kernel_rfl
theorem qf5 (n:Nat):q0d Inv Tryz.prog (q48 n):=fun G hG=>⟨⟨by kernel_rfl,fun a r h=>q04 (c:=q00 Tryz.f74) Tryz.func74 (by kernel_rfl) (by kernel_rfl) (Nat.le_of_ble_eq_true (by kernel_rfl)) hG.st (by kernel_rfl) (rs:=[.tmp 2]) (by kernel_rfl) (qnh n hG) (lts:=qh6 n) (fun F hF hFG=>have hK:Know Inv F.G:=hFG ▸ hG;(q02 (c:=(q00 Tryz.f74)) (fun j L h1 h2 h3=>by
  have h2':j<1:=Nat.lt_of_lt_of_le h2 (by decide +kernel)
  match j,h1,h2',h3 with
  | 0,_,_,h3=>obtain rfl:=Option.some.inj h3;exact (show q01 0 0 (q00 Tryz.f74)=q01 0 0 (q00 Tryz.f74) by kernel_rfl) ▸ j2p n hF hK
  | j+1,_,h2',_=>exact absurd h2' (by omega)))) qwj ((jbd n a).symm.trans h)⟩,rfl⟩
def qw5 (n:Nat):List LC:=[]
def q8f (n:Nat) (a1:Int×(Int×(Int×((List UInt8)×(List UInt8))))):Option (List UInt8) :=
 (q5o n a1).bind fun (r1:Bool)=>(bif !r1 then some ([]:List UInt8) else (qnq a1.1).bind fun (r2:List UInt8)=>(qbu ([118]:List UInt8) r2).bind fun (s3:List UInt8)=>(qbu s3 ([46]:List UInt8)).bind fun (s4:List UInt8)=>(qnq a1.2.1).bind fun (r5:List UInt8)=>(qbu s4 r5).bind fun (s6:List UInt8)=>(qbu s6 ([46]:List UInt8)).bind fun (s7:List UInt8)=>(qnq a1.2.2.1).bind fun (r8:List UInt8)=>(qbu s7 r8).bind fun (s9:List UInt8)=>(bif !decide (a1.2.2.2.1=([]:List UInt8)) then (qbu ([45]:List UInt8) a1.2.2.2.1).bind fun (s10:List UInt8)=>(qbu s9 s10).bind fun (s11:List UInt8)=>(bif !decide (a1.2.2.2.2=([]:List UInt8)) then (qbu ([43]:List UInt8) a1.2.2.2.2).bind fun (s12:List UInt8)=>(qbu s11 s12).bind fun (s13:List UInt8)=>some s13 else some s11) else (bif !decide (a1.2.2.2.2=([]:List UInt8)) then (qbu ([43]:List UInt8) a1.2.2.2.2).bind fun (s14:List UInt8)=>(qbu s9 s14).bind fun (s15:List UInt8)=>some s15 else some s9)))
def q7q (n:Nat):FC:={ f:=47,args:=[.one (.agg [.d (.int .i64),.d (.int .i64),.d (.int .i64),.d .str,.d .str])],res:=.one (.c (.d .str)),F:=fun p=>q8f n p }
def j52 (n:Nat):List FC:=[q48 n,jdm]
theorem j9e (n:Nat) {G:World->Prop} (hG:Know Inv G) : ∀c∈j52 n,q0y Tryz.prog G c/\q09 c.args=true:=List.forall_mem_cons.2 ⟨qf5 n G hG,List.forall_mem_cons.2 ⟨jnm G hG,(fun _ h=>by cases h)⟩⟩
def j6q:q08:=[(3,[⟨12582936,2^21,0⟩,⟨102760464,2^24,1⟩,⟨49*2^24,2^27,3⟩,⟨49*2^27,2^30,7⟩,⟨49*2^30,2^33,15⟩,⟨412316860440,2^36,0⟩,⟨3367254360080,2^39,32⟩,⟨49*2^39,2^42,103⟩,⟨25089*2^33,2^45,255⟩,⟨49*2^45,2^48,511⟩,⟨13510798882111512,2^51,0⟩,⟨110338190870577168,2^54,1024⟩,⟨49*2^54,2^57,3303⟩,⟨25089*2^48,2^60,8191⟩,⟨1152921504606850048,512,16383⟩]),(1000003,[])]
theorem jhx:drB j6q (q00 Tryz.f47)=true:=by kernel_rfl
theorem jjd (n:Nat) : ∀a,(q7q n).F a=main Tryz.prog 38 (j52 n) (qw5 n) j6q (q00 Tryz.f47) [.tmp 2] (q7q n).args (q7q n).res a:=by intro a;kernel_rfl
theorem quw (n:Nat):q0d Inv Tryz.prog (q7q n):=fun G hG=>⟨⟨by kernel_rfl,fun a r h=>q04 (c:=q00 Tryz.f47) Tryz.func47 (by kernel_rfl) (by kernel_rfl) (Nat.le_of_ble_eq_true (by kernel_rfl)) hG.st (by kernel_rfl) (rs:=[.tmp 2]) (by kernel_rfl) (j9e n hG) (lts:=qw5 n) (fun F hF hFG=>have hK:Know Inv F.G:=hFG ▸ hG;(q02 fun j L h1 h2 h3=>absurd h2 (Nat.not_lt.2 (Nat.le_trans (by decide +kernel) h1)))) jhx ((jjd n a).symm.trans h)⟩,rfl⟩
def qsa (n:Nat):List LC:=[]
def qba (n:Nat) (a1:List UInt8):Option ((Int×(Int×(Int×((List UInt8)×(List UInt8)))))×(Bool)) :=
 (qvw n a1 ([43]:List UInt8)).bind fun (r1:(List UInt8)×((List UInt8)×(Bool)))=>(qvw n r1.1 ([45]:List UInt8)).bind fun (r2:(List UInt8)×((List UInt8)×(Bool)))=>(q61 n r2.1 ([118]:List UInt8)).bind fun (r3:List UInt8)=>(qvw n r3 ([46]:List UInt8)).bind fun (r4:(List UInt8)×((List UInt8)×(Bool)))=>(qvw n r4.2.1 ([46]:List UInt8)).bind fun (r5:(List UInt8)×((List UInt8)×(Bool)))=>(q4o r4.1).bind fun (r6:Int)=>(q4o r5.1).bind fun (r7:Int)=>(q4o r5.2.1).bind fun (r8:Int)=>(q5o n (r6,(r7,(r8,(r2.2.1,r1.2.1))))).bind fun (r9:Bool)=>(bif !r9 then some (((0:Int),((0:Int),((0:Int),(([]:List UInt8),([]:List UInt8))))),false) else (q8f n (r6,(r7,(r8,(r2.2.1,r1.2.1))))).bind fun (r10:List UInt8)=>(bif !decide (r10=a1) then some (((0:Int),((0:Int),((0:Int),(([]:List UInt8),([]:List UInt8))))),false) else some ((r6,(r7,(r8,(r2.2.1,r1.2.1)))),true)))
def q6o (n:Nat):FC:={ f:=120,args:=[.one (.c (.d .str))],res:=.tup [.agg [.d (.int .i64),.d (.int .i64),.d (.int .i64),.d .str,.d .str],.c (.d .bool)],F:=fun p=>qba n p }
def qxf (n:Nat):List FC:=[qrl n,q37 n,qy9,q48 n,q7q n]
theorem j35 (n:Nat) {G:World->Prop} (hG:Know Inv G) : ∀c∈qxf n,q0y Tryz.prog G c/\q09 c.args=true:=List.forall_mem_cons.2 ⟨jlu n G hG,List.forall_mem_cons.2 ⟨qf4 n G hG,List.forall_mem_cons.2 ⟨jbc G hG,List.forall_mem_cons.2 ⟨qf5 n G hG,List.forall_mem_cons.2 ⟨quw n G hG,(fun _ h=>by cases h)⟩⟩⟩⟩⟩
def j0q:q08:=[]
theorem jd5:drB j0q (q00 Tryz.f120)=true:=by kernel_rfl
theorem jeb (n:Nat) : ∀a,(q6o n).F a=main Tryz.prog 62 (qxf n) (qsa n) j0q (q00 Tryz.f120) [.cell 2 44,.tmp 3] (q6o n).args (q6o n).res a:=by intro a;kernel_rfl
theorem qyl (n:Nat):q0d Inv Tryz.prog (q6o n):=fun G hG=>⟨⟨by kernel_rfl,fun a r h=>q04 (c:=q00 Tryz.f120) Tryz.func120 (by kernel_rfl) (by kernel_rfl) (Nat.le_of_ble_eq_true (by kernel_rfl)) hG.st (by kernel_rfl) (rs:=[.cell 2 44,.tmp 3]) (by kernel_rfl) (j35 n hG) (lts:=qsa n) (fun F hF hFG=>have hK:Know Inv F.G:=hFG ▸ hG;(q02 fun j L h1 h2 h3=>absurd h2 (Nat.not_lt.2 (Nat.le_trans (by decide +kernel) h1)))) jd5 ((jeb n a).symm.trans h)⟩,rfl⟩
def qy0 (n:Nat):List LC:=[]
def qv2 (n:Nat) (a1:List UInt8) (a2:List UInt8):Option (Int) :=
 (q4z n a1).bind fun (r1:Bool)=>(q4z n a2).bind fun (r2:Bool)=>(bif r1 then (bif r2 then (q8h n ((List.length a1:Nat):Int) ((List.length a2:Nat):Int)).bind fun (r3:Int)=>(qfa a1 a2).bind fun (r4:Int)=>(qno n ([r3,r4]:List (Int))).bind fun (r5:Int)=>some r5 else (bif r1 then some (-1:Int) else (bif r2 then some (1:Int) else (qfa a1 a2).bind fun (r6:Int)=>some r6))) else (bif r1 then some (-1:Int) else (bif r2 then some (1:Int) else (qfa a1 a2).bind fun (r7:Int)=>some r7)))
def qe8 (n:Nat):FC:={ f:=186,args:=[.one (.c (.d .str)),.one (.c (.d .str))],res:=.one (.c (.d (.int .i64))),F:=fun p=>qv2 n p.1 p.2 }
def j5s (n:Nat):List FC:=[q3r n,q6n n,qqe,qbe n]
theorem j98 (n:Nat) {G:World->Prop} (hG:Know Inv G) : ∀c∈j5s n,q0y Tryz.prog G c/\q09 c.args=true:=List.forall_mem_cons.2 ⟨qke n G hG,List.forall_mem_cons.2 ⟨qwa n G hG,List.forall_mem_cons.2 ⟨jat G hG,List.forall_mem_cons.2 ⟨j6w n G hG,(fun _ h=>by cases h)⟩⟩⟩⟩
def j5y:q08:=[]
theorem jld:drB j5y (q00 Tryz.f186)=true:=by kernel_rfl
theorem jjz (n:Nat) : ∀a,(qe8 n).F a=main Tryz.prog 33 (j5s n) (qy0 n) j5y (q00 Tryz.f186) [.tmp 4] (qe8 n).args (qe8 n).res a:=by intro a;kernel_rfl
theorem jj1 (n:Nat):q0d Inv Tryz.prog (qe8 n):=fun G hG=>⟨⟨by kernel_rfl,fun a r h=>q04 (c:=q00 Tryz.f186) Tryz.func186 (by kernel_rfl) (by kernel_rfl) (Nat.le_of_ble_eq_true (by kernel_rfl)) hG.st (by kernel_rfl) (rs:=[.tmp 4]) (by kernel_rfl) (j98 n hG) (lts:=qy0 n) (fun F hF hFG=>have hK:Know Inv F.G:=hFG ▸ hG;(q02 fun j L h1 h2 h3=>absurd h2 (Nat.not_lt.2 (Nat.le_trans (by decide +kernel) h1)))) jld ((jjz n a).symm.trans h)⟩,rfl⟩
@[reducible] def q7p:SSt:=⟨[(0,.one (.c (.d (.lst .str)))),(1,.one (.c (.d (.lst .str)))),(2,.one (.c (.fn 186 []))),(11,.one (.c (.d (.lst .str)))),(12,.one (.c (.d (.int .i64)))),(13,.one (.c (.d (.int .i64))))],[],[]⟩
@[reducible] def q4u:List (Exit×SSt):=[(.ret,⟨[(6,.one (.c (.d (.int .i64))))],[],[]⟩),(.exit 0,⟨[(0,.one (.c (.d (.lst .str)))),(1,.one (.c (.d (.lst .str))))],[],[]⟩)]
def qh8 (n:Nat) (rec:(List (List UInt8))->(List (List UInt8))->(List (List UInt8))->Int->Int->Option (((Int×(Unit))×(Unit)×(Unit))⊕(((List (List UInt8))×((List (List UInt8))×(Unit)))×(Unit)×(Unit)))) (a1:List (List UInt8)) (a2:List (List UInt8)) (a3:List (List UInt8)) (a4:Int) (a5:Int):Option (((Int×(Unit))×(Unit)×(Unit))⊕(((List (List UInt8))×((List (List UInt8))×(Unit)))×(Unit)×(Unit))) :=
 (bif decide (a5<a4) then (q1g a3 a5).bind fun (x1:List UInt8)=>(bif decide (((List.length a2:Nat):Int)<=a5) then some (Sum.inl (((1:Int),()),((),()))) else (q1g a2 a5).bind fun (x2:List UInt8)=>(qv2 n x1 x2).bind fun (r3:Int)=>(bif !decide (r3=(0:Int)) then some (Sum.inl ((r3,()),((),()))) else q0b (IntKind.wrap .i64 (a5+(1:Int))) fun (n4:Int)=>rec a1 a2 a3 a4 n4)) else some (Sum.inr (((a1,(a2,())),((),())))))
def qhf (n:Nat) (rec:pSt q7p->Option (q0h q4u)) (p:pSt q7p):Option (q0h q4u):=qh8 n (fun a1 a2 a3 a4 a5=>rec ((a1,(a2,((),(a3,(a4,(a5,())))))),((),()))) p.1.1 p.1.2.1 p.1.2.2.2.1 p.1.2.2.2.2.1 p.1.2.2.2.2.2.1
def q4h (n m:Nat) (a1:List (List UInt8)) (a2:List (List UInt8)) (a3:List (List UInt8)) (a4:Int) (a5:Int):Option (((Int×(Unit))×(Unit)×(Unit))⊕(((List (List UInt8))×((List (List UInt8))×(Unit)))×(Unit)×(Unit))):=q0i (qhf n) m ((a1,(a2,((),(a3,(a4,(a5,())))))),((),()))
theorem qdf (n m:Nat) (a1:List (List UInt8)) (a2:List (List UInt8)) (a3:List (List UInt8)) (a4:Int) (a5:Int):q4h n (m+1) a1 a2 a3 a4 a5=qh8 n (fun a1 a2 a3 a4 a5=>q4h n m a1 a2 a3 a4 a5) a1 a2 a3 a4 a5:=rfl
def qqw (n:Nat):LC:={ sh:=q7p,outs:=q4u,F:=q0i (qhf n) n }
def qcu (n:Nat):List LC:=[qqw n]
def qkc (n:Nat) (a1:List (List UInt8)) (a2:List (List UInt8)) (a3:Unit):Option (Int) :=
 (q4h n n a1 a2 a1 ((List.length a1:Nat):Int) (0:Int)).bind fun (o5:((Int×(Unit))×(Unit)×(Unit))⊕(((List (List UInt8))×((List (List UInt8))×(Unit)))×(Unit)×(Unit)))=>Sum.elim (fun (q6:(Int×(Unit))×(Unit)×(Unit))=>some q6.1.1) (fun (q7:((List (List UInt8))×((List (List UInt8))×(Unit)))×(Unit)×(Unit))=>(bif decide (((List.length q7.1.1:Nat):Int)<((List.length q7.1.2.1:Nat):Int)) then some (-1:Int) else some (0:Int))) o5
def q79 (n:Nat):FC:={ f:=185,args:=[.one (.c (.d (.lst .str))),.one (.c (.d (.lst .str))),.one (.c (.fn 186 []))],res:=.one (.c (.d (.int .i64))),F:=fun p=>qkc n p.1 p.2.1 p.2.2 }
def qg5 (n:Nat):List FC:=[qe8 n]
theorem qig (n:Nat) {G:World->Prop} (hG:Know Inv G) : ∀c∈qg5 n,q0y Tryz.prog G c/\q09 c.args=true:=List.forall_mem_cons.2 ⟨jj1 n G hG,(fun _ h=>by cases h)⟩
def qgr:q08:=[]
theorem qsc:drB qgr (q00 Tryz.f185)=true:=by kernel_rfl
theorem j23 (n:Nat) : ∀rec p,qhf n rec p=round Tryz.prog 39 (qg5 n) (qcu n) qgr 1 q7p q4u (q01 0 0 (q00 Tryz.f185)) rec p:=by intro rec p;kernel_rfl
theorem j10 (n:Nat) {F:Fr} (hF:F.n=39) (hK:Know Inv F.G):q8n Tryz.prog F (qqw n) (q01 0 0 (q00 Tryz.f185)) :=
 q0j hF (by kernel_rfl) (qig n hK) (j23 n) (fuel:=n) (fun _=>rfl) (q02 fun j L h1 h2 h3=>absurd h2 (Nat.not_lt.2 (Nat.le_trans (by decide +kernel) h1))) (q0w qsc)
theorem ja0 (n:Nat) : ∀a,(q79 n).F a=main Tryz.prog 39 (qg5 n) (qcu n) qgr (q00 Tryz.f185) [.tmp 6] (q79 n).args (q79 n).res a:=by intro a;kernel_rfl
theorem j9v (n:Nat):q0d Inv Tryz.prog (q79 n):=fun G hG=>⟨⟨by kernel_rfl,fun a r h=>q04 (c:=q00 Tryz.f185) Tryz.func185 (by kernel_rfl) (by kernel_rfl) (Nat.le_of_ble_eq_true (by kernel_rfl)) hG.st (by kernel_rfl) (rs:=[.tmp 6]) (by kernel_rfl) (qig n hG) (lts:=qcu n) (fun F hF hFG=>have hK:Know Inv F.G:=hFG ▸ hG;(q02 (c:=(q00 Tryz.f185)) (fun j L h1 h2 h3=>by
  have h2':j<1:=Nat.lt_of_lt_of_le h2 (by decide +kernel)
  match j,h1,h2',h3 with
  | 0,_,_,h3=>obtain rfl:=Option.some.inj h3;exact (show q01 0 0 (q00 Tryz.f185)=q01 0 0 (q00 Tryz.f185) by kernel_rfl) ▸ j10 n hF hK
  | j+1,_,h2',_=>exact absurd h2' (by omega)))) qsc ((ja0 n a).symm.trans h)⟩,rfl⟩
def j55 (n:Nat):List LC:=[]
def j63 (n:Nat) (a1:List UInt8) (a2:List UInt8):Option (Int) :=
 (bif decide (a1=a2) then some (0:Int) else (bif decide (a1=([]:List UInt8)) then some (1:Int) else (bif decide (a2=([]:List UInt8)) then some (-1:Int) else (q7o a1 ([46]:List UInt8)).bind fun (r1:List (List UInt8))=>(q7o a2 ([46]:List UInt8)).bind fun (r2:List (List UInt8))=>(qkc n r1 r2 ()).bind fun (r3:Int)=>some r3)))
def qo6 (n:Nat):FC:={ f:=159,args:=[.one (.c (.d .str)),.one (.c (.d .str))],res:=.one (.c (.d (.int .i64))),F:=fun p=>j63 n p.1 p.2 }
def jb9 (n:Nat):List FC:=[quh,q79 n]
theorem jcu (n:Nat) {G:World->Prop} (hG:Know Inv G) : ∀c∈jb9 n,q0y Tryz.prog G c/\q09 c.args=true:=List.forall_mem_cons.2 ⟨j5z G hG,List.forall_mem_cons.2 ⟨j9v n G hG,(fun _ h=>by cases h)⟩⟩
def jdi:q08:=[]
theorem jos:drB jdi (q00 Tryz.f159)=true:=by kernel_rfl
theorem jo9 (n:Nat) : ∀a,(qo6 n).F a=main Tryz.prog 20 (jb9 n) (j55 n) jdi (q00 Tryz.f159) [.tmp 4] (qo6 n).args (qo6 n).res a:=by intro a;kernel_rfl
theorem jmm (n:Nat):q0d Inv Tryz.prog (qo6 n):=fun G hG=>⟨⟨by kernel_rfl,fun a r h=>q04 (c:=q00 Tryz.f159) Tryz.func159 (by kernel_rfl) (by kernel_rfl) (Nat.le_of_ble_eq_true (by kernel_rfl)) hG.st (by kernel_rfl) (rs:=[.tmp 4]) (by kernel_rfl) (jcu n hG) (lts:=j55 n) (fun F hF hFG=>have hK:Know Inv F.G:=hFG ▸ hG;(q02 fun j L h1 h2 h3=>absurd h2 (Nat.not_lt.2 (Nat.le_trans (by decide +kernel) h1)))) jos ((jo9 n a).symm.trans h)⟩,rfl⟩
def qih (n:Nat):List LC:=[]
def qaa (n:Nat) (a1:Int×(Int×(Int×((List UInt8)×(List UInt8))))) (a2:Int×(Int×(Int×((List UInt8)×(List UInt8))))):Option (Int) :=
 (q5o n a1).bind fun (r1:Bool)=>(bif !r1 then some (0:Int) else (q5o n a2).bind fun (r2:Bool)=>(bif !r2 then some (0:Int) else (q8h n a1.1 a2.1).bind fun (r3:Int)=>(q8h n a1.2.1 a2.2.1).bind fun (r4:Int)=>(q8h n a1.2.2.1 a2.2.2.1).bind fun (r5:Int)=>(j63 n a1.2.2.2.1 a2.2.2.2.1).bind fun (r6:Int)=>(qno n ([r3,r4,r5,r6]:List (Int))).bind fun (r7:Int)=>some r7))
def q5i (n:Nat):FC:={ f:=121,args:=[.one (.agg [.d (.int .i64),.d (.int .i64),.d (.int .i64),.d .str,.d .str]),.one (.agg [.d (.int .i64),.d (.int .i64),.d (.int .i64),.d .str,.d .str])],res:=.one (.c (.d (.int .i64))),F:=fun p=>qaa n p.1 p.2 }
def qox (n:Nat):List FC:=[q48 n,q6n n,qo6 n,qbe n]
theorem quk (n:Nat) {G:World->Prop} (hG:Know Inv G) : ∀c∈qox n,q0y Tryz.prog G c/\q09 c.args=true:=List.forall_mem_cons.2 ⟨qf5 n G hG,List.forall_mem_cons.2 ⟨qwa n G hG,List.forall_mem_cons.2 ⟨jmm n G hG,List.forall_mem_cons.2 ⟨j6w n G hG,(fun _ h=>by cases h)⟩⟩⟩⟩
def qok:q08:=[(3,[⟨3298534883520,2^39,0⟩,⟨26938034880640,2^42,1⟩,⟨211106232534528,2^45,0⟩,⟨1724034232353792,2^48,4⟩,⟨3137*2^42,2^51,15⟩,⟨108086391056892096,2^54,0⟩,⟨882705526964617344,2^57,32⟩,⟨6917529027641083392,2^60,0⟩,⟨56493153725735502848,2^63,128⟩,⟨3137*2^57,2^66,511⟩,⟨3541774862152233910464,2^69,0⟩,⟨28924494707576576934016,2^72,1024⟩,⟨226673591177742970258944,2^75,0⟩,⟨1851167661284900923769856,2^78,4096⟩,⟨3137*2^72,2^81,16383⟩,⟨116056878683004400771793088,2^84,0⟩,⟨947797842577869272969642112,2^87,32768⟩,⟨7427640235712281649394746880,2^90,0⟩,⟨60659061924983633470057088000,2^93,2^17⟩,⟨3137*2^87,2^96,524287⟩,⟨1724035306127361*2^51,5*2^99,1048575⟩,⟨53*2^99,2^102,2097151⟩,⟨5070602400912917605986812846080,4096,4194303⟩])]
theorem j48:drB qok (q00 Tryz.f121)=true:=by kernel_rfl
theorem j3m (n:Nat) : ∀a,(q5i n).F a=main Tryz.prog 35 (qox n) (qih n) qok (q00 Tryz.f121) [.tmp 4] (q5i n).args (q5i n).res a:=by intro a;kernel_rfl
theorem j4h (n:Nat):q0d Inv Tryz.prog (q5i n):=fun G hG=>⟨⟨by kernel_rfl,fun a r h=>q04 (c:=q00 Tryz.f121) Tryz.func121 (by kernel_rfl) (by kernel_rfl) (Nat.le_of_ble_eq_true (by kernel_rfl)) hG.st (by kernel_rfl) (rs:=[.tmp 4]) (by kernel_rfl) (quk n hG) (lts:=qih n) (fun F hF hFG=>have hK:Know Inv F.G:=hFG ▸ hG;(q02 fun j L h1 h2 h3=>absurd h2 (Nat.not_lt.2 (Nat.le_trans (by decide +kernel) h1)))) j48 ((j3m n a).symm.trans h)⟩,rfl⟩
@[reducible] def q1t:SSt:=⟨[(0,.one (.c (.d .str))),(1,.one (.c (.d (.int .u8)))),(5,.one (.c (.row 31))),(6,.one (.c (.d (.int .i64)))),(7,.one (.c (.d (.int .i64))))],[],[(31,⟨9,true,.str⟩)]⟩
@[reducible] def q11:List (Exit×SSt):=[(.exit 0,⟨[(5,.one (.c (.row 31)))],[],[(31,⟨9,true,.str⟩)]⟩)]
def q2g (n:Nat) (rec:(List UInt8)->Int->Int->Int->(List (List UInt8))->Option ((Unit×(Unit))×(Unit)×((List (List UInt8))×(Unit)))) (a1:List UInt8) (a2:Int) (a3:Int) (a4:Int) (a5:List (List UInt8)):Option ((Unit×(Unit))×(Unit)×((List (List UInt8))×(Unit))) :=
 (bif decide (a4<=((List.length a1:Nat):Int)) then (bif decide (a4=((List.length a1:Nat):Int)) then (q1s a1 a3 a4).bind fun (s1:List UInt8)=>(q35 16 a5 ([s1]:List (List UInt8))).bind fun (l2:List (List UInt8))=>q0b (IntKind.wrap .i64 (a4+(1:Int))) fun (n3:Int)=>q0b (IntKind.wrap .i64 (a4+(1:Int))) fun (n4:Int)=>rec a1 a2 n3 n4 l2 else (sAt a1 a4).bind fun (c5:Int)=>(bif decide (c5=a2) then (q1s a1 a3 a4).bind fun (s6:List UInt8)=>(q35 16 a5 ([s6]:List (List UInt8))).bind fun (l7:List (List UInt8))=>q0b (IntKind.wrap .i64 (a4+(1:Int))) fun (n8:Int)=>q0b (IntKind.wrap .i64 (a4+(1:Int))) fun (n9:Int)=>rec a1 a2 n8 n9 l7 else q0b (IntKind.wrap .i64 (a4+(1:Int))) fun (n10:Int)=>rec a1 a2 a3 n10 a5)) else some ((((),()),((),(a5,())))))
def q3q (n:Nat) (rec:pSt q1t->Option (q0h q11)) (p:pSt q1t):Option (q0h q11):=q2g n (fun a1 a2 a3 a4 a5=>rec ((a1,(a2,((),(a3,(a4,()))))),((),(a5,())))) p.1.1 p.1.2.1 p.1.2.2.2.1 p.1.2.2.2.2.1 p.2.2.1
def q10 (n m:Nat) (a1:List UInt8) (a2:Int) (a3:Int) (a4:Int) (a5:List (List UInt8)):Option ((Unit×(Unit))×(Unit)×((List (List UInt8))×(Unit))):=q0i (q3q n) m ((a1,(a2,((),(a3,(a4,()))))),((),(a5,())))
theorem q1i (n m:Nat) (a1:List UInt8) (a2:Int) (a3:Int) (a4:Int) (a5:List (List UInt8)):q10 n (m+1) a1 a2 a3 a4 a5=q2g n (fun a1 a2 a3 a4 a5=>q10 n m a1 a2 a3 a4 a5) a1 a2 a3 a4 a5:=rfl
def q6x (n:Nat):LC:={ sh:=q1t,outs:=q11,F:=q0i (q3q n) n }
def q2y (n:Nat):List LC:=[q6x n]
def q4a (n:Nat) (a1:List UInt8) (a2:Int):Option (List (List UInt8)) :=
 (q10 n n a1 a2 (0:Int) (0:Int) []).bind fun (o11:(Unit×(Unit))×(Unit)×((List (List UInt8))×(Unit)))=>some o11.2.2.1
def q1y (n:Nat):FC:={ f:=41,args:=[.one (.c (.d .str)),.one (.c (.d (.int .u8)))],res:=.one (.c (.d (.lst .str))),F:=fun p=>q4a n p.1 p.2 }
def q3s (n:Nat):List FC:=[]
theorem q46 (n:Nat) {G:World->Prop} (hG:Know Inv G) : ∀c∈q3s n,q0y Tryz.prog G c/\q09 c.args=true:=(fun _ h=>by cases h)
def q3m:q08:=[]
theorem q6m:drB q3m (q00 Tryz.f41)=true:=by kernel_rfl
theorem qch (n:Nat) : ∀rec p,q3q n rec p=round Tryz.prog 35 (q3s n) (q2y n) q3m 1 q1t q11 (q01 0 0 (q00 Tryz.f41)) rec p:=by intro rec p;kernel_rfl
theorem q8y (n:Nat) {F:Fr} (hF:F.n=35) (hK:Know Inv F.G):q8n Tryz.prog F (q6x n) (q01 0 0 (q00 Tryz.f41)) :=
 q0j hF (by kernel_rfl) (q46 n hK) (qch n) (fuel:=n) (fun _=>rfl) (q02 fun j L h1 h2 h3=>absurd h2 (Nat.not_lt.2 (Nat.le_trans (by decide +kernel) h1))) (q0w q6m)
theorem qg7 (n:Nat) : ∀a,(q1y n).F a=main Tryz.prog 35 (q3s n) (q2y n) q3m (q00 Tryz.f41) [.tmp 4] (q1y n).args (q1y n).res a:=by intro a;kernel_rfl
theorem qrq (n:Nat):q0d Inv Tryz.prog (q1y n):=fun G hG=>⟨⟨by kernel_rfl,fun a r h=>q04 (c:=q00 Tryz.f41) Tryz.func41 (by kernel_rfl) (by kernel_rfl) (Nat.le_of_ble_eq_true (by kernel_rfl)) hG.st (by kernel_rfl) (rs:=[.tmp 4]) (by kernel_rfl) (q46 n hG) (lts:=q2y n) (fun F hF hFG=>have hK:Know Inv F.G:=hFG ▸ hG;(q02 (c:=(q00 Tryz.f41)) (fun j L h1 h2 h3=>by
  have h2':j<1:=Nat.lt_of_lt_of_le h2 (by decide +kernel)
  match j,h1,h2',h3 with
  | 0,_,_,h3=>obtain rfl:=Option.some.inj h3;exact (show q01 0 0 (q00 Tryz.f41)=q01 0 0 (q00 Tryz.f41) by kernel_rfl) ▸ q8y n hF hK
  | j+1,_,h2',_=>exact absurd h2' (by omega)))) q6m ((qg7 n a).symm.trans h)⟩,rfl⟩
def q5l (n:Nat):List LC:=[]
def qik (n:Nat) (a1:Bool):Option (Int) :=
 (bif a1 then some (1:Int) else some (0:Int))
def q6j (n:Nat):FC:={ f:=223,args:=[.one (.c (.d .bool))],res:=.one (.c (.d (.int .i64))),F:=fun p=>qik n p }
def q92 (n:Nat):List FC:=[]
theorem q6y (n:Nat) {G:World->Prop} (hG:Know Inv G) : ∀c∈q92 n,q0y Tryz.prog G c/\q09 c.args=true:=(fun _ h=>by cases h)
def q8u:q08:=[]
theorem qfn:drB q8u (q00 Tryz.f223)=true:=by kernel_rfl
theorem j25 (n:Nat) : ∀a,(q6j n).F a=main Tryz.prog 4 (q92 n) (q5l n) q8u (q00 Tryz.f223) [.tmp 2] (q6j n).args (q6j n).res a:=by intro a;kernel_rfl
theorem jhc (n:Nat):q0d Inv Tryz.prog (q6j n):=fun G hG=>⟨⟨by kernel_rfl,fun a r h=>q04 (c:=q00 Tryz.f223) Tryz.func223 (by kernel_rfl) (by kernel_rfl) (Nat.le_of_ble_eq_true (by kernel_rfl)) hG.st (by kernel_rfl) (rs:=[.tmp 2]) (by kernel_rfl) (q6y n hG) (lts:=q5l n) (fun F hF hFG=>have hK:Know Inv F.G:=hFG ▸ hG;(q02 fun j L h1 h2 h3=>absurd h2 (Nat.not_lt.2 (Nat.le_trans (by decide +kernel) h1)))) qfn ((j25 n a).symm.trans h)⟩,rfl⟩
end Go.Proofs.YtapfankgdkdkgaaGreatDoor.AM
