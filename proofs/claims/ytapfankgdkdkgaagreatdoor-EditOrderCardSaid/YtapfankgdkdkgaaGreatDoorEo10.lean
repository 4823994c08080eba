
import Derived.Test.YtapfankgdkdkgaaGreatDoorEo9
namespace Go.Proofs.YtapfankgdkdkgaaGreatDoor.AM
open Go.RowKit
set_option linter.unusedVariables false
set_option maxRecDepth 20000
abbrev Z2:=((Int×Unit)×Unit×Unit)⊕(((List (Yy))×((List (Yy))×Unit))×Unit×Unit)
abbrev Z3:=((Bool×Unit)×Unit×Unit)⊕((Unit×Unit)×((Vv)×Unit)×Unit)
abbrev Z4:=((Int×Unit)×Unit×Unit)⊕((Int×Unit)×Unit×Unit)
def q2o (n:Nat):List LC:=[]
def q16 (n:Nat) (a1:Yy) (a2:Yy):Option (Bool) :=
 (bif decide ((a2.length:Int)<=(a1.length:Int)) then (q20 a1 (0:Int) (a2.length:Int)).bind fun s1=>some (decide (s1=a2)) else some false)
def q0j (n:Nat):FC:={ f:=181,args:=[.one (.c (.d .str)),.one (.c (.d .str))],res:=.one (.c (.d .bool)),F:=fun p=>q16 n p.1 p.2 }
def q39 (n:Nat):List FC:=[]
theorem q52 (n:Nat) {G:World->Prop} (hG:Know Inv G) : ∀c∈q39 n,q14 Tryz.prog G c/\q0c c.args=true:=(fun _ h=>by cases h)
def q3f:q0b:=[]
theorem q7p:drB q3f (q00 Tryz.f181)=true:=by kernel_rfl
theorem q72 (n:Nat) : ∀a,(q0j n).F a=main Tryz.prog 18 (q39 n) (q2o n) q3f (q00 Tryz.f181) [.tmp 4] (q0j n).args (q0j n).res a:=by intro a;kernel_rfl
theorem q3e (n:Nat):q0g Inv Tryz.prog (q0j n):=fun G hG=>⟨⟨by kernel_rfl,fun a r h=>q04 (c:=q00 Tryz.f181) Tryz.func181 (by kernel_rfl) (by kernel_rfl) (Nat.le_of_ble_eq_true (by kernel_rfl)) hG.st (by kernel_rfl) (rs:=[.tmp 4]) (by kernel_rfl) (q52 n hG) (lts:=q2o n) (fun F hF hFG=>have hK:Know Inv F.G:=hFG ▸ hG;(q03 fun j L h1 h2 h3=>absurd h2 (Nat.not_lt.2 (Nat.le_trans (by decide +kernel) h1)))) q7p ((q72 n a).symm.trans h)⟩,rfl⟩
def q93 (n:Nat):List LC:=[]
def q7s (n:Nat) (a1:Yy) (a2:Yy):Option (Yy) :=
 (q16 n a1 a2).bind fun r1=>(bif r1 then (q20 a1 (a2.length:Int) (a1.length:Int)).bind fun s2=>some s2 else some a1)
def q2i (n:Nat):FC:={ f:=183,args:=[.one (.c (.d .str)),.one (.c (.d .str))],res:=.one (.c (.d .str)),F:=fun p=>q7s n p.1 p.2 }
def qai (n:Nat):List FC:=[q0j n]
theorem qg3 (n:Nat) {G:World->Prop} (hG:Know Inv G) : ∀c∈qai n,q14 Tryz.prog G c/\q0c c.args=true:=List.forall_mem_cons.2 ⟨q3e n G hG,(fun _ h=>by cases h)⟩
def qag:q0b:=[]
theorem qmu:drB qag (q00 Tryz.f183)=true:=by kernel_rfl
theorem qmy (n:Nat) : ∀a,(q2i n).F a=main Tryz.prog 13 (qai n) (q93 n) qag (q00 Tryz.f183) [.tmp 4] (q2i n).args (q2i n).res a:=by intro a;kernel_rfl
theorem qnk (n:Nat):q0g Inv Tryz.prog (q2i n):=fun G hG=>⟨⟨by kernel_rfl,fun a r h=>q04 (c:=q00 Tryz.f183) Tryz.func183 (by kernel_rfl) (by kernel_rfl) (Nat.le_of_ble_eq_true (by kernel_rfl)) hG.st (by kernel_rfl) (rs:=[.tmp 4]) (by kernel_rfl) (qg3 n hG) (lts:=q93 n) (fun F hF hFG=>have hK:Know Inv F.G:=hFG ▸ hG;(q03 fun j L h1 h2 h3=>absurd h2 (Nat.not_lt.2 (Nat.le_trans (by decide +kernel) h1)))) qmu ((qmy n a).symm.trans h)⟩,rfl⟩
def qaj (n:Nat):List LC:=[]
def q5x (n:Nat) (a1:Yy) (a2:Yy):Option (Yy) :=
 (q7s n a1 a2).bind fun r1=>some r1
def q3d (n:Nat):FC:={ f:=155,args:=[.one (.c (.d .str)),.one (.c (.d .str))],res:=.one (.c (.d .str)),F:=fun p=>q5x n p.1 p.2 }
def qbe (n:Nat):List FC:=[q2i n]
theorem qmc (n:Nat) {G:World->Prop} (hG:Know Inv G) : ∀c∈qbe n,q14 Tryz.prog G c/\q0c c.args=true:=List.forall_mem_cons.2 ⟨qnk n G hG,(fun _ h=>by cases h)⟩
def qcg:q0b:=[]
theorem qsg:drB qcg (q00 Tryz.f155)=true:=by kernel_rfl
theorem qq3 (n:Nat) : ∀a,(q3d n).F a=main Tryz.prog 8 (qbe n) (qaj n) qcg (q00 Tryz.f155) [.tmp 4] (q3d n).args (q3d n).res a:=by intro a;kernel_rfl
theorem qc8 (n:Nat):q0g Inv Tryz.prog (q3d n):=fun G hG=>⟨⟨by kernel_rfl,fun a r h=>q04 (c:=q00 Tryz.f155) Tryz.func155 (by kernel_rfl) (by kernel_rfl) (Nat.le_of_ble_eq_true (by kernel_rfl)) hG.st (by kernel_rfl) (rs:=[.tmp 4]) (by kernel_rfl) (qmc n hG) (lts:=qaj n) (fun F hF hFG=>have hK:Know Inv F.G:=hFG ▸ hG;(q03 fun j L h1 h2 h3=>absurd h2 (Nat.not_lt.2 (Nat.le_trans (by decide +kernel) h1)))) qsg ((qq3 n a).symm.trans h)⟩,rfl⟩
def j4m (n:Nat):List LC:=[]
def j90 (n:Nat) (a1:Yy) (a2:Yy):Option (Yy×(Yy×(Bool))) :=
 (qlz a1 a2).bind fun (r1:Int)=>(bif decide (0<=r1) then (q20 a1 (0:Int) r1).bind fun s2=>q0h (IntKind.wrap .i64 (r1+(a2.length:Int))) fun (n3:Int)=>(q20 a1 n3 (a1.length:Int)).bind fun s4=>some (s2,(s4,true)) else some (a1,(([]:Yy),false)))
def qio (n:Nat):FC:={ f:=82,args:=[.one (.c (.d .str)),.one (.c (.d .str))],res:=.tup [.c (.d .str),.c (.d .str),.c (.d .bool)],F:=fun p=>j90 n p.1 p.2 }
def j8x (n:Nat):List FC:=[j25]
theorem jd0 (n:Nat) {G:World->Prop} (hG:Know Inv G) : ∀c∈j8x n,q14 Tryz.prog G c/\q0c c.args=true:=List.forall_mem_cons.2 ⟨jfq G hG,(fun _ h=>by cases h)⟩
def ja6:q0b:=[(3,[⟨3298534883329,2^39,0⟩,⟨12582913*2^21,2^42,0⟩,⟨393*2^39,2^45,3⟩,⟨1688849860263937,2^48,0⟩,⟨6442450945*2^21,2^51,0⟩,⟨108086391056891912,2^54,0⟩,⟨49*2^54,2^57,32⟩,⟨3137*2^51,2^60,112⟩,⟨200705*2^48,2^63,248⟩,⟨35184372113408,4096,7⟩,⟨9223372036854972416,32768,1023⟩,⟨3*2^19,2^18,2047⟩])]
theorem jk5:drB ja6 (q00 Tryz.f82)=true:=by kernel_rfl
theorem jly (n:Nat) : ∀a,(qio n).F a=main Tryz.prog 23 (j8x n) (j4m n) ja6 (q00 Tryz.f82) [.tmp 4,.tmp 5,.tmp 6] (qio n).args (qio n).res a:=by intro a;kernel_rfl
theorem jkf (n:Nat):q0g Inv Tryz.prog (qio n):=fun G hG=>⟨⟨by kernel_rfl,fun a r h=>q04 (c:=q00 Tryz.f82) Tryz.func82 (by kernel_rfl) (by kernel_rfl) (Nat.le_of_ble_eq_true (by kernel_rfl)) hG.st (by kernel_rfl) (rs:=[.tmp 4,.tmp 5,.tmp 6]) (by kernel_rfl) (jd0 n hG) (lts:=j4m n) (fun F hF hFG=>have hK:Know Inv F.G:=hFG ▸ hG;(q03 fun j L h1 h2 h3=>absurd h2 (Nat.not_lt.2 (Nat.le_trans (by decide +kernel) h1)))) jk5 ((jly n a).symm.trans h)⟩,rfl⟩
def jde (n:Nat):List LC:=[]
def qs0 (n:Nat) (a1:Yy) (a2:Yy):Option (Yy×(Yy×(Bool))) :=
 (j90 n a1 a2).bind fun r1=>some r1
def qma (n:Nat):FC:={ f:=55,args:=[.one (.c (.d .str)),.one (.c (.d .str))],res:=.tup [.c (.d .str),.c (.d .str),.c (.d .bool)],F:=fun p=>qs0 n p.1 p.2 }
def jju (n:Nat):List FC:=[qio n]
theorem jg4 (n:Nat) {G:World->Prop} (hG:Know Inv G) : ∀c∈jju n,q14 Tryz.prog G c/\q0c c.args=true:=List.forall_mem_cons.2 ⟨jkf n G hG,(fun _ h=>by cases h)⟩
def jjy:q0b:=[]
theorem jq0:drB jjy (q00 Tryz.f55)=true:=by kernel_rfl
theorem jpw (n:Nat) : ∀a,(qma n).F a=main Tryz.prog 13 (jju n) (jde n) jjy (q00 Tryz.f55) [.tmp 4,.tmp 5,.tmp 6] (qma n).args (qma n).res a:=by intro a;kernel_rfl
theorem jac (n:Nat):q0g Inv Tryz.prog (qma n):=fun G hG=>⟨⟨by kernel_rfl,fun a r h=>q04 (c:=q00 Tryz.f55) Tryz.func55 (by kernel_rfl) (by kernel_rfl) (Nat.le_of_ble_eq_true (by kernel_rfl)) hG.st (by kernel_rfl) (rs:=[.tmp 4,.tmp 5,.tmp 6]) (by kernel_rfl) (jg4 n hG) (lts:=jde n) (fun F hF hFG=>have hK:Know Inv F.G:=hFG ▸ hG;(q03 fun j L h1 h2 h3=>absurd h2 (Nat.not_lt.2 (Nat.le_trans (by decide +kernel) h1)))) jq0 ((jpw n a).symm.trans h)⟩,rfl⟩
def qti (n:Nat):List LC:=[]
def qpr (n:Nat) (a1:Int):Option (Bool) :=
 some (!decide (a1=a1))
def qcq (n:Nat):FC:={ f:=184,args:=[.one (.c (.d (.int .i64)))],res:=.one (.c (.d .bool)),F:=fun p=>qpr n p }
def j1j (n:Nat):List FC:=[]
theorem j66 (n:Nat) {G:World->Prop} (hG:Know Inv G) : ∀c∈j1j n,q14 Tryz.prog G c/\q0c c.args=true:=(fun _ h=>by cases h)
def j29:q0b:=[]
theorem jgy:drB j29 (q00 Tryz.f184)=true:=by kernel_rfl
theorem jgp (n:Nat) : ∀a,(qcq n).F a=main Tryz.prog 6 (j1j n) (qti n) j29 (q00 Tryz.f184) [.tmp 2] (qcq n).args (qcq n).res a:=by intro a;kernel_rfl
theorem jid (n:Nat):q0g Inv Tryz.prog (qcq n):=fun G hG=>⟨⟨by kernel_rfl,fun a r h=>q04 (c:=q00 Tryz.f184) Tryz.func184 (by kernel_rfl) (by kernel_rfl) (Nat.le_of_ble_eq_true (by kernel_rfl)) hG.st (by kernel_rfl) (rs:=[.tmp 2]) (by kernel_rfl) (j66 n hG) (lts:=qti n) (fun F hF hFG=>have hK:Know Inv F.G:=hFG ▸ hG;(q03 fun j L h1 h2 h3=>absurd h2 (Nat.not_lt.2 (Nat.le_trans (by decide +kernel) h1)))) jgy ((jgp n a).symm.trans h)⟩,rfl⟩
def qp3 (n:Nat):List LC:=[]
def q6w (n:Nat) (a1:Int) (a2:Int):Option (Int) :=
 (qpr n a1).bind fun r1=>(qpr n a2).bind fun r2=>(bif r1 then (bif r2 then some (0:Int) else some (-1:Int)) else (bif r2 then some (1:Int) else (bif decide (a1<a2) then some (-1:Int) else (bif decide (a2<a1) then some (1:Int) else some (0:Int)))))
def q6h (n:Nat):FC:={ f:=158,args:=[.one (.c (.d (.int .i64))),.one (.c (.d (.int .i64)))],res:=.one (.c (.d (.int .i64))),F:=fun p=>q6w n p.1 p.2 }
def qxy (n:Nat):List FC:=[qcq n]
theorem qyy (n:Nat) {G:World->Prop} (hG:Know Inv G) : ∀c∈qxy n,q14 Tryz.prog G c/\q0c c.args=true:=List.forall_mem_cons.2 ⟨jid n G hG,(fun _ h=>by cases h)⟩
def qtd:q0b:=[]
theorem ja9:drB qtd (q00 Tryz.f158)=true:=by kernel_rfl
theorem j8m (n:Nat) : ∀a,(q6h n).F a=main Tryz.prog 20 (qxy n) (qp3 n) qtd (q00 Tryz.f158) [.tmp 4] (q6h n).args (q6h n).res a:=by intro a;kernel_rfl
theorem qug (n:Nat):q0g Inv Tryz.prog (q6h n):=fun G hG=>⟨⟨by kernel_rfl,fun a r h=>q04 (c:=q00 Tryz.f158) Tryz.func158 (by kernel_rfl) (by kernel_rfl) (Nat.le_of_ble_eq_true (by kernel_rfl)) hG.st (by kernel_rfl) (rs:=[.tmp 4]) (by kernel_rfl) (qyy n hG) (lts:=qp3 n) (fun F hF hFG=>have hK:Know Inv F.G:=hFG ▸ hG;(q03 fun j L h1 h2 h3=>absurd h2 (Nat.not_lt.2 (Nat.le_trans (by decide +kernel) h1)))) ja9 ((j8m n a).symm.trans h)⟩,rfl⟩
@[reducible] def qd7:SSt:=⟨[(3,.one (.c (.d (.int .i64)))),(6,.one (.c (.d (.lst (.int .i64))))),(7,.one (.c (.d (.int .i64)))),(8,.one (.c (.d (.int .i64))))],[],[]⟩
@[reducible] def q7w:List (Exit×SSt):=[(.ret,⟨[(2,.one (.c (.d (.int .i64))))],[],[]⟩),(.exit 0,⟨[(3,.one (.c (.d (.int .i64))))],[],[]⟩)]
def qq8 (n:Nat) (rec:Int->(List (Int))->Int->Int->Option Z4) (a1:Int) (a2:List (Int)) (a3:Int) (a4:Int):Option Z4 :=
 (bif decide (a4<a3) then (q2g a2 a4).bind fun x1=>(bif !decide (x1=a1) then some (Sum.inl ((x1,()),((),()))) else q0h (IntKind.wrap .i64 (a4+1)) fun n2=>rec a1 a2 a3 n2) else some (Sum.inr (((a1,()),((),())))))
def qsc (n:Nat) (rec:pSt qd7->Option (q1e q7w)) (p:pSt qd7):Option (q1e q7w):=qq8 n (fun a1 a2 a3 a4=>rec ((a1,(a2,(a3,(a4,())))),((),()))) p.1.1 p.1.2.1 p.1.2.2.1 p.1.2.2.2.1
def q75 (n m:Nat) (a1:Int) (a2:List (Int)) (a3:Int) (a4:Int):Option Z4:=q1n (qsc n) m ((a1,(a2,(a3,(a4,())))),((),()))
theorem qg1 (n m:Nat) (a1 a2 a3 a4):q75 n (m+1) a1 a2 a3 a4=qq8 n (fun a1 a2 a3 a4=>q75 n m a1 a2 a3 a4) a1 a2 a3 a4:=rfl
def j56 (n:Nat):LC:={ sh:=qd7,outs:=q7w,F:=q1n (qsc n) n }
def qlp (n:Nat):List LC:=[j56 n]
def qi9 (n:Nat) (a1:List (Int)):Option (Int) :=
 (q75 n n (0:Int) a1 (a1.length:Int) (0:Int)).bind fun o3=>Sum.elim (fun (q4:(Int×Unit)×Unit×Unit)=>some q4.1.1) (fun (q5:(Int×Unit)×Unit×Unit)=>some q5.1.1) o3
def q97 (n:Nat):FC:={ f:=157,args:=[.one (.c (.d (.lst (.int .i64))))],res:=.one (.c (.d (.int .i64))),F:=fun p=>qi9 n p }
def qrf (n:Nat):List FC:=[]
theorem qnp (n:Nat) {G:World->Prop} (hG:Know Inv G) : ∀c∈qrf n,q14 Tryz.prog G c/\q0c c.args=true:=(fun _ h=>by cases h)
def qs6:q0b:=[]
theorem j5a:drB qs6 (q00 Tryz.f157)=true:=by kernel_rfl
theorem je4 (n:Nat) : ∀rec p,qsc n rec p=round Tryz.prog 18 (qrf n) (qlp n) qs6 1 qd7 q7w (q05 0 0 (q00 Tryz.f157)) rec p:=by intro rec p;kernel_rfl
theorem j5e (n:Nat) {F:Fr} (hF:F.n=18) (hK:Know Inv F.G):qne Tryz.prog F (j56 n) (q05 0 0 (q00 Tryz.f157)) :=
 q1w hF (by kernel_rfl) (qnp n hK) (je4 n) (fuel:=n) (fun _=>rfl) (q03 fun j L h1 h2 h3=>absurd h2 (Nat.not_lt.2 (Nat.le_trans (by decide +kernel) h1))) (q3i j5a)
theorem jfb (n:Nat) : ∀a,(q97 n).F a=main Tryz.prog 18 (qrf n) (qlp n) qs6 (q00 Tryz.f157) [.tmp 2] (q97 n).args (q97 n).res a:=by intro a;kernel_rfl
theorem j52 (n:Nat):q0g Inv Tryz.prog (q97 n):=fun G hG=>⟨⟨by kernel_rfl,fun a r h=>q04 (c:=q00 Tryz.f157) Tryz.func157 (by kernel_rfl) (by kernel_rfl) (Nat.le_of_ble_eq_true (by kernel_rfl)) hG.st (by kernel_rfl) (rs:=[.tmp 2]) (by kernel_rfl) (qnp n hG) (lts:=qlp n) (fun F hF hFG=>have hK:Know Inv F.G:=hFG ▸ hG;(q03 (c:=(q00 Tryz.f157)) (fun j L h1 h2 h3=>by
  have h2':j<1:=Nat.lt_of_lt_of_le h2 (by decide +kernel)
  match j,h1,h2',h3 with
  | 0,_,_,h3=>obtain rfl:=Option.some.inj h3;exact (show q05 0 0 (q00 Tryz.f157)=q05 0 0 (q00 Tryz.f157) by kernel_rfl) ▸ j5e n hF hK
  | j+1,_,h2',_=>exact absurd h2' (by omega)))) j5a ((jfb n a).symm.trans h)⟩,rfl⟩
@[reducible] def q9k:SSt:=⟨[(1,.one (.c (.box 1 0))),(11,.one (.agg [.d (.int .i64),.d (.int .i64),.d (.int .i64)])),(12,.one (.c (.d (.int .i64))))],[(1,(44,[.d (.int .i64),.d (.int .i64),.d (.int .i64),.d .str,.d .str]))],[]⟩
@[reducible] def q5j:List (Exit×SSt):=[(.ret,⟨[(2,.one (.c (.d .bool)))],[],[]⟩),(.exit 0,⟨[(1,.one (.c (.box 1 0)))],[(1,(44,[.d (.int .i64),.d (.int .i64),.d (.int .i64),.d .str,.d .str]))],[]⟩)]
def qcx (n:Nat) (rec:Int->Int->Int->Int->Int->Int->Int->(Yy)->(Yy)->Option Z3) (a1:Int) (a2:Int) (a3:Int) (a4:Int) (a5:Int) (a6:Int) (a7:Int) (a8:Yy) (a9:Yy):Option Z3 :=
 (bif decide (a4<3) then (q2g ([a1,a2,a3]:List (Int)) a4).bind fun x1=>(bif decide (x1<0) then some (Sum.inl ((false,()),((),()))) else (bif decide (999999999<x1) then some (Sum.inl ((false,()),((),()))) else q0h (IntKind.wrap .i64 (a4+1)) fun n2=>rec a1 a2 a3 n2 a5 a6 a7 a8 a9)) else some (Sum.inr ((((),()),(((a5,(a6,(a7,(a8,a9)))),()),())))))
def qkd (n:Nat) (rec:pSt q9k->Option (q1e q5j)) (p:pSt q9k):Option (q1e q5j):=qcx n (fun a1 a2 a3 a4 a5 a6 a7 a8 a9=>rec (((),((a1,(a2,a3)),(a4,()))),(((a5,(a6,(a7,(a8,a9)))),()),()))) p.1.2.1.1 p.1.2.1.2.1 p.1.2.1.2.2 p.1.2.2.1 p.2.1.1.1 p.2.1.1.2.1 p.2.1.1.2.2.1 p.2.1.1.2.2.2.1 p.2.1.1.2.2.2.2
def q49 (n m:Nat) (a1:Int) (a2:Int) (a3:Int) (a4:Int) (a5:Int) (a6:Int) (a7:Int) (a8:Yy) (a9:Yy):Option Z3:=q1n (qkd n) m (((),((a1,(a2,a3)),(a4,()))),(((a5,(a6,(a7,(a8,a9)))),()),()))
theorem q6s (n m:Nat) (a1 a2 a3 a4 a5 a6 a7 a8 a9):q49 n (m+1) a1 a2 a3 a4 a5 a6 a7 a8 a9=qcx n (fun a1 a2 a3 a4 a5 a6 a7 a8 a9=>q49 n m a1 a2 a3 a4 a5 a6 a7 a8 a9) a1 a2 a3 a4 a5 a6 a7 a8 a9:=rfl
def qtw (n:Nat):LC:={ sh:=q9k,outs:=q5j,F:=q1n (qkd n) n }
def qdt (n:Nat):List LC:=[qtw n]
def q4i (n:Nat) (a1:Vv):Option (Bool) :=
 (q49 n n a1.1 a1.2.1 a1.2.2.1 (0:Int) a1.1 a1.2.1 a1.2.2.1 a1.2.2.2.1 a1.2.2.2.2).bind fun o3=>Sum.elim (fun (q4:(Bool×Unit)×Unit×Unit)=>some q4.1.1) (fun (q5:(Unit×Unit)×((Vv)×Unit)×Unit)=>(qhn q5.2.1.1.2.2.2.1 ()).bind fun (r6:Bool)=>(bif r6 then (qew q5.2.1.1.2.2.2.2 ()).bind fun (r7:Bool)=>some r7 else some false)) o3
def q34 (n:Nat):FC:={ f:=74,args:=[.one (.agg [.d (.int .i64),.d (.int .i64),.d (.int .i64),.d .str,.d .str])],res:=.one (.c (.d .bool)),F:=fun p=>q4i n p }
def qif (n:Nat):List FC:=[qpg,qm0]
theorem qle (n:Nat) {G:World->Prop} (hG:Know Inv G) : ∀c∈qif n,q14 Tryz.prog G c/\q0c c.args=true:=List.forall_mem_cons.2 ⟨j6s G hG,List.forall_mem_cons.2 ⟨j0r G hG,(fun _ h=>by cases h)⟩⟩
def qho:q0b:=[]
theorem qxz:drB qho (q00 Tryz.f74)=true:=by kernel_rfl
theorem j7r (n:Nat) : ∀rec p,qkd n rec p=round Tryz.prog 30 (qif n) (qdt n) qho 1 q9k q5j (q05 0 0 (q00 Tryz.f74)) rec p:=by intro rec p;kernel_rfl
theorem j15 (n:Nat) {F:Fr} (hF:F.n=30) (hK:Know Inv F.G):qne Tryz.prog F (qtw n) (q05 0 0 (q00 Tryz.f74)) :=
 q1w hF (by kernel_rfl) (qle n hK) (j7r n) (fuel:=n) (fun _=>rfl) (q03 fun j L h1 h2 h3=>absurd h2 (Nat.not_lt.2 (Nat.le_trans (by decide +kernel) h1))) (q3i qxz)
theorem jc7 (n:Nat) : ∀a,(q34 n).F a=main Tryz.prog 30 (qif n) (qdt n) qho (q00 Tryz.f74) [.tmp 2] (q34 n).args (q34 n).res a:=by intro a;kernel_rfl
theorem q94 (n:Nat):q0g Inv Tryz.prog (q34 n):=fun G hG=>⟨⟨by kernel_rfl,fun a r h=>q04 (c:=q00 Tryz.f74) Tryz.func74 (by kernel_rfl) (by kernel_rfl) (Nat.le_of_ble_eq_true (by kernel_rfl)) hG.st (by kernel_rfl) (rs:=[.tmp 2]) (by kernel_rfl) (qle n hG) (lts:=qdt n) (fun F hF hFG=>have hK:Know Inv F.G:=hFG ▸ hG;(q03 (c:=(q00 Tryz.f74)) (fun j L h1 h2 h3=>by
  have h2':j<1:=Nat.lt_of_lt_of_le h2 (by decide +kernel)
  match j,h1,h2',h3 with
  | 0,_,_,h3=>obtain rfl:=Option.some.inj h3;exact (show q05 0 0 (q00 Tryz.f74)=q05 0 0 (q00 Tryz.f74) by kernel_rfl) ▸ j15 n hF hK
  | j+1,_,h2',_=>exact absurd h2' (by omega)))) qxz ((jc7 n a).symm.trans h)⟩,rfl⟩
def qtl (n:Nat):List LC:=[]
def qar (n:Nat) (a1:Vv):Option (Yy) :=
 (q4i n a1).bind fun r1=>(bif !r1 then some ([]:Yy) else (qj6 a1.1).bind fun (r2:Yy)=>(q9w ([118]:Yy) r2).bind fun s3=>(q9w s3 ([46]:Yy)).bind fun s4=>(qj6 a1.2.1).bind fun (r5:Yy)=>(q9w s4 r5).bind fun s6=>(q9w s6 ([46]:Yy)).bind fun s7=>(qj6 a1.2.2.1).bind fun (r8:Yy)=>(q9w s7 r8).bind fun s9=>(bif !decide (a1.2.2.2.1=([]:Yy)) then (q9w ([45]:Yy) a1.2.2.2.1).bind fun s10=>(q9w s9 s10).bind fun s11=>(bif !decide (a1.2.2.2.2=([]:Yy)) then (q9w ([43]:Yy) a1.2.2.2.2).bind fun s12=>(q9w s11 s12).bind fun s13=>some s13 else some s11) else (bif !decide (a1.2.2.2.2=([]:Yy)) then (q9w ([43]:Yy) a1.2.2.2.2).bind fun s14=>(q9w s9 s14).bind fun s15=>some s15 else some s9)))
def q7n (n:Nat):FC:={ f:=47,args:=[.one (.agg [.d (.int .i64),.d (.int .i64),.d (.int .i64),.d .str,.d .str])],res:=.one (.c (.d .str)),F:=fun p=>qar n p }
def j1t (n:Nat):List FC:=[q34 n,jed]
theorem j6l (n:Nat) {G:World->Prop} (hG:Know Inv G) : ∀c∈j1t n,q14 Tryz.prog G c/\q0c c.args=true:=List.forall_mem_cons.2 ⟨q94 n G hG,List.forall_mem_cons.2 ⟨jl9 G hG,(fun _ h=>by cases h)⟩⟩
def j44:q0b:=[(3,[⟨12582936,2^21,0⟩,⟨102760464,2^24,1⟩,⟨49*2^24,2^27,3⟩,⟨49*2^27,2^30,7⟩,⟨49*2^30,2^33,15⟩,⟨412316860440,2^36,0⟩,⟨3367254360080,2^39,32⟩,⟨49*2^39,2^42,103⟩,⟨25089*2^33,2^45,255⟩,⟨49*2^45,2^48,511⟩,⟨13510798882111512,2^51,0⟩,⟨110338190870577168,2^54,1024⟩,⟨49*2^54,2^57,3303⟩,⟨25089*2^48,2^60,8191⟩,⟨1152921504606850048,512,16383⟩]),(1000003,[])]
theorem jgr:drB j44 (q00 Tryz.f47)=true:=by kernel_rfl
theorem ji9 (n:Nat) : ∀a,(q7n n).F a=main Tryz.prog 38 (j1t n) (qtl n) j44 (q00 Tryz.f47) [.tmp 2] (q7n n).args (q7n n).res a:=by intro a;kernel_rfl
theorem qs3 (n:Nat):q0g Inv Tryz.prog (q7n n):=fun G hG=>⟨⟨by kernel_rfl,fun a r h=>q04 (c:=q00 Tryz.f47) Tryz.func47 (by kernel_rfl) (by kernel_rfl) (Nat.le_of_ble_eq_true (by kernel_rfl)) hG.st (by kernel_rfl) (rs:=[.tmp 2]) (by kernel_rfl) (j6l n hG) (lts:=qtl n) (fun F hF hFG=>have hK:Know Inv F.G:=hFG ▸ hG;(q03 fun j L h1 h2 h3=>absurd h2 (Nat.not_lt.2 (Nat.le_trans (by decide +kernel) h1)))) jgr ((ji9 n a).symm.trans h)⟩,rfl⟩
def qnr (n:Nat):List LC:=[]
def q9b (n:Nat) (a1:Yy):Option ((Vv)×(Bool)) :=
 (qs0 n a1 ([43]:Yy)).bind fun r1=>(qs0 n r1.1 ([45]:Yy)).bind fun r2=>(q5x n r2.1 ([118]:Yy)).bind fun r3=>(qs0 n r3 ([46]:Yy)).bind fun r4=>(qs0 n r4.2.1 ([46]:Yy)).bind fun r5=>(q4h r4.1).bind fun (r6:Int)=>(q4h r5.1).bind fun (r7:Int)=>(q4h r5.2.1).bind fun (r8:Int)=>(q4i n (r6,(r7,(r8,(r2.2.1,r1.2.1))))).bind fun r9=>(bif !r9 then some (((0:Int),((0:Int),((0:Int),(([]:Yy),([]:Yy))))),false) else (qar n (r6,(r7,(r8,(r2.2.1,r1.2.1))))).bind fun r10=>(bif !decide (r10=a1) then some (((0:Int),((0:Int),((0:Int),(([]:Yy),([]:Yy))))),false) else some ((r6,(r7,(r8,(r2.2.1,r1.2.1)))),true)))
def q6e (n:Nat):FC:={ f:=120,args:=[.one (.c (.d .str))],res:=.tup [.agg [.d (.int .i64),.d (.int .i64),.d (.int .i64),.d .str,.d .str],.c (.d .bool)],F:=fun p=>q9b n p }
def qu3 (n:Nat):List FC:=[qma n,q3d n,qww,q34 n,q7n n]
theorem j14 (n:Nat) {G:World->Prop} (hG:Know Inv G) : ∀c∈qu3 n,q14 Tryz.prog G c/\q0c c.args=true:=List.forall_mem_cons.2 ⟨jac n G hG,List.forall_mem_cons.2 ⟨qc8 n G hG,List.forall_mem_cons.2 ⟨jda G hG,List.forall_mem_cons.2 ⟨q94 n G hG,List.forall_mem_cons.2 ⟨qs3 n G hG,(fun _ h=>by cases h)⟩⟩⟩⟩⟩
def qup:q0b:=[]
theorem je8:drB qup (q00 Tryz.f120)=true:=by kernel_rfl
theorem jep (n:Nat) : ∀a,(q6e n).F a=main Tryz.prog 62 (qu3 n) (qnr n) qup (q00 Tryz.f120) [.cell 2 44,.tmp 3] (q6e n).args (q6e n).res a:=by intro a;kernel_rfl
theorem qxn (n:Nat):q0g Inv Tryz.prog (q6e n):=fun G hG=>⟨⟨by kernel_rfl,fun a r h=>q04 (c:=q00 Tryz.f120) Tryz.func120 (by kernel_rfl) (by kernel_rfl) (Nat.le_of_ble_eq_true (by kernel_rfl)) hG.st (by kernel_rfl) (rs:=[.cell 2 44,.tmp 3]) (by kernel_rfl) (j14 n hG) (lts:=qnr n) (fun F hF hFG=>have hK:Know Inv F.G:=hFG ▸ hG;(q03 fun j L h1 h2 h3=>absurd h2 (Nat.not_lt.2 (Nat.le_trans (by decide +kernel) h1)))) je8 ((jep n a).symm.trans h)⟩,rfl⟩
def qtr (n:Nat):List LC:=[]
def qpz (n:Nat) (a1:Yy) (a2:Yy):Option (Int) :=
 (q4q n a1).bind fun r1=>(q4q n a2).bind fun r2=>(bif r1 then (bif r2 then (q6w n (a1.length:Int) (a2.length:Int)).bind fun r3=>(qcl a1 a2).bind fun (r4:Int)=>(qi9 n ([r3,r4]:List (Int))).bind fun r5=>some r5 else (bif r1 then some (-1:Int) else (bif r2 then some (1:Int) else (qcl a1 a2).bind fun (r6:Int)=>some r6))) else (bif r1 then some (-1:Int) else (bif r2 then some (1:Int) else (qcl a1 a2).bind fun (r7:Int)=>some r7)))
def qc9 (n:Nat):FC:={ f:=186,args:=[.one (.c (.d .str)),.one (.c (.d .str))],res:=.one (.c (.d (.int .i64))),F:=fun p=>qpz n p.1 p.2 }
def j55 (n:Nat):List FC:=[q3o n,q6h n,qpe,q97 n]
theorem j65 (n:Nat) {G:World->Prop} (hG:Know Inv G) : ∀c∈j55 n,q14 Tryz.prog G c/\q0c c.args=true:=List.forall_mem_cons.2 ⟨qm4 n G hG,List.forall_mem_cons.2 ⟨qug n G hG,List.forall_mem_cons.2 ⟨j7u G hG,List.forall_mem_cons.2 ⟨j52 n G hG,(fun _ h=>by cases h)⟩⟩⟩⟩
def j4t:q0b:=[]
theorem ji3:drB j4t (q00 Tryz.f186)=true:=by kernel_rfl
theorem jfy (n:Nat) : ∀a,(qc9 n).F a=main Tryz.prog 33 (j55 n) (qtr n) j4t (q00 Tryz.f186) [.tmp 4] (qc9 n).args (qc9 n).res a:=by intro a;kernel_rfl
theorem jhi (n:Nat):q0g Inv Tryz.prog (qc9 n):=fun G hG=>⟨⟨by kernel_rfl,fun a r h=>q04 (c:=q00 Tryz.f186) Tryz.func186 (by kernel_rfl) (by kernel_rfl) (Nat.le_of_ble_eq_true (by kernel_rfl)) hG.st (by kernel_rfl) (rs:=[.tmp 4]) (by kernel_rfl) (j65 n hG) (lts:=qtr n) (fun F hF hFG=>have hK:Know Inv F.G:=hFG ▸ hG;(q03 fun j L h1 h2 h3=>absurd h2 (Nat.not_lt.2 (Nat.le_trans (by decide +kernel) h1)))) ji3 ((jfy n a).symm.trans h)⟩,rfl⟩
@[reducible] def q7r:SSt:=⟨[(0,.one (.c (.d (.lst .str)))),(1,.one (.c (.d (.lst .str)))),(2,.one (.c (.fn 186 []))),(11,.one (.c (.d (.lst .str)))),(12,.one (.c (.d (.int .i64)))),(13,.one (.c (.d (.int .i64))))],[],[]⟩
@[reducible] def q4g:List (Exit×SSt):=[(.ret,⟨[(6,.one (.c (.d (.int .i64))))],[],[]⟩),(.exit 0,⟨[(0,.one (.c (.d (.lst .str)))),(1,.one (.c (.d (.lst .str))))],[],[]⟩)]
def qe7 (n:Nat) (rec:(List (Yy))->(List (Yy))->(List (Yy))->Int->Int->Option Z2) (a1:List (Yy)) (a2:List (Yy)) (a3:List (Yy)) (a4:Int) (a5:Int):Option Z2 :=
 (bif decide (a5<a4) then (q2g a3 a5).bind fun x1=>(bif decide ((a2.length:Int)<=a5) then some (Sum.inl (((1:Int),()),((),()))) else (q2g a2 a5).bind fun x2=>(qpz n x1 x2).bind fun r3=>(bif !decide (r3=0) then some (Sum.inl ((r3,()),((),()))) else q0h (IntKind.wrap .i64 (a5+1)) fun n4=>rec a1 a2 a3 a4 n4)) else some (Sum.inr (((a1,(a2,())),((),())))))
def qe2 (n:Nat) (rec:pSt q7r->Option (q1e q4g)) (p:pSt q7r):Option (q1e q4g):=qe7 n (fun a1 a2 a3 a4 a5=>rec ((a1,(a2,((),(a3,(a4,(a5,())))))),((),()))) p.1.1 p.1.2.1 p.1.2.2.2.1 p.1.2.2.2.2.1 p.1.2.2.2.2.2.1
def q4l (n m:Nat) (a1:List (Yy)) (a2:List (Yy)) (a3:List (Yy)) (a4:Int) (a5:Int):Option Z2:=q1n (qe2 n) m ((a1,(a2,((),(a3,(a4,(a5,())))))),((),()))
theorem qcv (n m:Nat) (a1 a2 a3 a4 a5):q4l n (m+1) a1 a2 a3 a4 a5=qe7 n (fun a1 a2 a3 a4 a5=>q4l n m a1 a2 a3 a4 a5) a1 a2 a3 a4 a5:=rfl
def qo7 (n:Nat):LC:={ sh:=q7r,outs:=q4g,F:=q1n (qe2 n) n }
def qb4 (n:Nat):List LC:=[qo7 n]
def ql6 (n:Nat) (a1:List (Yy)) (a2:List (Yy)) (a3:Unit):Option (Int) :=
 (q4l n n a1 a2 a1 (a1.length:Int) (0:Int)).bind fun o5=>Sum.elim (fun (q6:(Int×Unit)×Unit×Unit)=>some q6.1.1) (fun (q7:((List (Yy))×((List (Yy))×Unit))×Unit×Unit)=>(bif decide ((q7.1.1.length:Int)<(q7.1.2.1.length:Int)) then some (-1:Int) else some (0:Int))) o5
def q6n (n:Nat):FC:={ f:=185,args:=[.one (.c (.d (.lst .str))),.one (.c (.d (.lst .str))),.one (.c (.fn 186 []))],res:=.one (.c (.d (.int .i64))),F:=fun p=>ql6 n p.1 p.2.1 p.2.2 }
def qen (n:Nat):List FC:=[qc9 n]
theorem qfv (n:Nat) {G:World->Prop} (hG:Know Inv G) : ∀c∈qen n,q14 Tryz.prog G c/\q0c c.args=true:=List.forall_mem_cons.2 ⟨jhi n G hG,(fun _ h=>by cases h)⟩
def qer:q0b:=[]
theorem qot:drB qer (q00 Tryz.f185)=true:=by kernel_rfl
theorem qyz (n:Nat) : ∀rec p,qe2 n rec p=round Tryz.prog 39 (qen n) (qb4 n) qer 1 q7r q4g (q05 0 0 (q00 Tryz.f185)) rec p:=by intro rec p;kernel_rfl
theorem qwd (n:Nat) {F:Fr} (hF:F.n=39) (hK:Know Inv F.G):qne Tryz.prog F (qo7 n) (q05 0 0 (q00 Tryz.f185)) :=
 q1w hF (by kernel_rfl) (qfv n hK) (qyz n) (fuel:=n) (fun _=>rfl) (q03 fun j L h1 h2 h3=>absurd h2 (Nat.not_lt.2 (Nat.le_trans (by decide +kernel) h1))) (q3i qot)
theorem j77 (n:Nat) : ∀a,(q6n n).F a=main Tryz.prog 39 (qen n) (qb4 n) qer (q00 Tryz.f185) [.tmp 6] (q6n n).args (q6n n).res a:=by intro a;kernel_rfl
theorem j6k (n:Nat):q0g Inv Tryz.prog (q6n n):=fun G hG=>⟨⟨by kernel_rfl,fun a r h=>q04 (c:=q00 Tryz.f185) Tryz.func185 (by kernel_rfl) (by kernel_rfl) (Nat.le_of_ble_eq_true (by kernel_rfl)) hG.st (by kernel_rfl) (rs:=[.tmp 6]) (by kernel_rfl) (qfv n hG) (lts:=qb4 n) (fun F hF hFG=>have hK:Know Inv F.G:=hFG ▸ hG;(q03 (c:=(q00 Tryz.f185)) (fun j L h1 h2 h3=>by
  have h2':j<1:=Nat.lt_of_lt_of_le h2 (by decide +kernel)
  match j,h1,h2',h3 with
  | 0,_,_,h3=>obtain rfl:=Option.some.inj h3;exact (show q05 0 0 (q00 Tryz.f185)=q05 0 0 (q00 Tryz.f185) by kernel_rfl) ▸ qwd n hF hK
  | j+1,_,h2',_=>exact absurd h2' (by omega)))) qot ((j77 n a).symm.trans h)⟩,rfl⟩
def j4i (n:Nat):List LC:=[]
def j49 (n:Nat) (a1:Yy) (a2:Yy):Option (Int) :=
 (bif decide (a1=a2) then some (0:Int) else (bif decide (a1=([]:Yy)) then some (1:Int) else (bif decide (a2=([]:Yy)) then some (-1:Int) else (q7h a1 ([46]:Yy)).bind fun (r1:List (Yy))=>(q7h a2 ([46]:Yy)).bind fun (r2:List (Yy))=>(ql6 n r1 r2 ()).bind fun r3=>some r3)))
def qlm (n:Nat):FC:={ f:=159,args:=[.one (.c (.d .str)),.one (.c (.d .str))],res:=.one (.c (.d (.int .i64))),F:=fun p=>j49 n p.1 p.2 }
def jd4 (n:Nat):List FC:=[qrr,q6n n]
theorem j9n (n:Nat) {G:World->Prop} (hG:Know Inv G) : ∀c∈jd4 n,q14 Tryz.prog G c/\q0c c.args=true:=List.forall_mem_cons.2 ⟨j5b G hG,List.forall_mem_cons.2 ⟨j6k n G hG,(fun _ h=>by cases h)⟩⟩
def jdh:q0b:=[]
theorem jn7:drB jdh (q00 Tryz.f159)=true:=by kernel_rfl
theorem jkr (n:Nat) : ∀a,(qlm n).F a=main Tryz.prog 20 (jd4 n) (j4i n) jdh (q00 Tryz.f159) [.tmp 4] (qlm n).args (qlm n).res a:=by intro a;kernel_rfl
theorem jmi (n:Nat):q0g Inv Tryz.prog (qlm n):=fun G hG=>⟨⟨by kernel_rfl,fun a r h=>q04 (c:=q00 Tryz.f159) Tryz.func159 (by kernel_rfl) (by kernel_rfl) (Nat.le_of_ble_eq_true (by kernel_rfl)) hG.st (by kernel_rfl) (rs:=[.tmp 4]) (by kernel_rfl) (j9n n hG) (lts:=j4i n) (fun F hF hFG=>have hK:Know Inv F.G:=hFG ▸ hG;(q03 fun j L h1 h2 h3=>absurd h2 (Nat.not_lt.2 (Nat.le_trans (by decide +kernel) h1)))) jn7 ((jkr n a).symm.trans h)⟩,rfl⟩
def qfm (n:Nat):List LC:=[]
def q9c (n:Nat) (a1:Vv) (a2:Vv):Option (Int) :=
 (q4i n a1).bind fun r1=>(bif !r1 then some (0:Int) else (q4i n a2).bind fun r2=>(bif !r2 then some (0:Int) else (q6w n a1.1 a2.1).bind fun r3=>(q6w n a1.2.1 a2.2.1).bind fun r4=>(q6w n a1.2.2.1 a2.2.2.1).bind fun r5=>(j49 n a1.2.2.2.1 a2.2.2.2.1).bind fun r6=>(qi9 n ([r3,r4,r5,r6]:List (Int))).bind fun r7=>some r7))
def q58 (n:Nat):FC:={ f:=121,args:=[.one (.agg [.d (.int .i64),.d (.int .i64),.d (.int .i64),.d .str,.d .str]),.one (.agg [.d (.int .i64),.d (.int .i64),.d (.int .i64),.d .str,.d .str])],res:=.one (.c (.d (.int .i64))),F:=fun p=>q9c n p.1 p.2 }
def qhj (n:Nat):List FC:=[q34 n,q6h n,qlm n,q97 n]
theorem qre (n:Nat) {G:World->Prop} (hG:Know Inv G) : ∀c∈qhj n,q14 Tryz.prog G c/\q0c c.args=true:=List.forall_mem_cons.2 ⟨q94 n G hG,List.forall_mem_cons.2 ⟨qug n G hG,List.forall_mem_cons.2 ⟨jmi n G hG,List.forall_mem_cons.2 ⟨j52 n G hG,(fun _ h=>by cases h)⟩⟩⟩⟩
def qkk:q0b:=[(3,[⟨3298534883520,2^39,0⟩,⟨26938034880640,2^42,1⟩,⟨211106232534528,2^45,0⟩,⟨1724034232353792,2^48,4⟩,⟨3137*2^42,2^51,15⟩,⟨108086391056892096,2^54,0⟩,⟨882705526964617344,2^57,32⟩,⟨6917529027641083392,2^60,0⟩,⟨56493153725735502848,2^63,128⟩,⟨3137*2^57,2^66,511⟩,⟨3541774862152233910464,2^69,0⟩,⟨28924494707576576934016,2^72,1024⟩,⟨226673591177742970258944,2^75,0⟩,⟨1851167661284900923769856,2^78,4096⟩,⟨3137*2^72,2^81,16383⟩,⟨116056878683004400771793088,2^84,0⟩,⟨947797842577869272969642112,2^87,32768⟩,⟨7427640235712281649394746880,2^90,0⟩,⟨60659061924983633470057088000,2^93,2^17⟩,⟨3137*2^87,2^96,524287⟩,⟨1724035306127361*2^51,5*2^99,1048575⟩,⟨53*2^99,2^102,2097151⟩,⟨5070602400912917605986812846080,4096,4194303⟩])]
theorem qym:drB qkk (q00 Tryz.f121)=true:=by kernel_rfl
theorem qzd (n:Nat) : ∀a,(q58 n).F a=main Tryz.prog 35 (qhj n) (qfm n) qkk (q00 Tryz.f121) [.tmp 4] (q58 n).args (q58 n).res a:=by intro a;kernel_rfl
theorem j0v (n:Nat):q0g Inv Tryz.prog (q58 n):=fun G hG=>⟨⟨by kernel_rfl,fun a r h=>q04 (c:=q00 Tryz.f121) Tryz.func121 (by kernel_rfl) (by kernel_rfl) (Nat.le_of_ble_eq_true (by kernel_rfl)) hG.st (by kernel_rfl) (rs:=[.tmp 4]) (by kernel_rfl) (qre n hG) (lts:=qfm n) (fun F hF hFG=>have hK:Know Inv F.G:=hFG ▸ hG;(q03 fun j L h1 h2 h3=>absurd h2 (Nat.not_lt.2 (Nat.le_trans (by decide +kernel) h1)))) qym ((qzd n a).symm.trans h)⟩,rfl⟩
end Go.Proofs.YtapfankgdkdkgaaGreatDoor.AM
