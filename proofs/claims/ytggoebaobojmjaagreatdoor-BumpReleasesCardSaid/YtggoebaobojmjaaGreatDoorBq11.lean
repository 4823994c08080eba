
import Derived.Test.YtggoebaobojmjaaGreatDoorBq10
namespace Go.Proofs.YtggoebaobojmjaaGreatDoor.AM
open Go.RowKit
set_option linter.unusedVariables false
set_option maxRecDepth 20000
def qi6 (n:Nat):List LC:=[]
def q6h (n:Nat) (a1:List UInt8) (a2:List UInt8):Option (Bool) :=
 (bif decide ((a2.length:Int)<=(a1.length:Int)) then (j2i a1 (0:Int) (a2.length:Int)).bind fun s1=>some (decide (s1=a2)) else some false)
def q36 (n:Nat):FC:={ f:=142,args:=[.one (.c (.d .str)),.one (.c (.d .str))],res:=.one (.c (.d .bool)),F:=fun p=>q6h n p.1 p.2 }
def qlg (n:Nat):List FC:=[]
theorem qxm (n:Nat) {G:World->Prop} (hG:Know Inv G) : ∀c∈qlg n,q0t Tryz.prog G c/\q0c c.args=true:=(fun _ h=>by cases h)
def qnj:q0b:=[]
theorem j8m:drB qnj (q00 Tryz.f142)=true:=by kernel_rfl
theorem j5x (n:Nat) : ∀a,(q36 n).F a=main Tryz.prog 18 (qlg n) (qi6 n) qnj (q00 Tryz.f142) [.tmp 4] (q36 n).args (q36 n).res a:=by intro a;kernel_rfl
theorem qly (n:Nat):q0h Inv Tryz.prog (q36 n):=fun G hG=>⟨⟨by kernel_rfl,fun a r h=>q05 (c:=q00 Tryz.f142) Tryz.func142 (by kernel_rfl) (by kernel_rfl) (Nat.le_of_ble_eq_true (by kernel_rfl)) hG.st (by kernel_rfl) (rs:=[.tmp 4]) (by kernel_rfl) (qxm n hG) (lts:=qi6 n) (fun F hF hFG=>have hK:Know Inv F.G:=hFG ▸ hG;(q02 fun j L h1 h2 h3=>absurd h2 (Nat.not_lt.2 (Nat.le_trans (by decide +kernel) h1)))) j8m ((j5x n a).symm.trans h)⟩,rfl⟩
def qfm (n:Nat):List LC:=[]
def qcs (n:Nat) (a1:List UInt8) (a2:List UInt8):Option (List UInt8) :=
 (q6h n a1 a2).bind fun r1=>(bif r1 then (j2i a1 (a2.length:Int) (a1.length:Int)).bind fun s2=>some s2 else some a1)
def q3f (n:Nat):FC:={ f:=123,args:=[.one (.c (.d .str)),.one (.c (.d .str))],res:=.one (.c (.d .str)),F:=fun p=>qcs n p.1 p.2 }
def qig (n:Nat):List FC:=[q36 n]
theorem qua (n:Nat) {G:World->Prop} (hG:Know Inv G) : ∀c∈qig n,q0t Tryz.prog G c/\q0c c.args=true:=List.forall_mem_cons.2 ⟨qly n G hG,(fun _ h=>by cases h)⟩
def qid:q0b:=[]
theorem j27:drB qid (q00 Tryz.f123)=true:=by kernel_rfl
theorem j25 (n:Nat) : ∀a,(q3f n).F a=main Tryz.prog 13 (qig n) (qfm n) qid (q00 Tryz.f123) [.tmp 4] (q3f n).args (q3f n).res a:=by intro a;kernel_rfl
theorem j2m (n:Nat):q0h Inv Tryz.prog (q3f n):=fun G hG=>⟨⟨by kernel_rfl,fun a r h=>q05 (c:=q00 Tryz.f123) Tryz.func123 (by kernel_rfl) (by kernel_rfl) (Nat.le_of_ble_eq_true (by kernel_rfl)) hG.st (by kernel_rfl) (rs:=[.tmp 4]) (by kernel_rfl) (qua n hG) (lts:=qfm n) (fun F hF hFG=>have hK:Know Inv F.G:=hFG ▸ hG;(q02 fun j L h1 h2 h3=>absurd h2 (Nat.not_lt.2 (Nat.le_trans (by decide +kernel) h1)))) j27 ((j25 n a).symm.trans h)⟩,rfl⟩
def qi7 (n:Nat):List LC:=[]
def qf6 (n:Nat) (a1:List UInt8) (a2:List UInt8):Option (List UInt8) :=
 (qcs n a1 a2).bind fun r1=>some r1
def q6t (n:Nat):FC:={ f:=94,args:=[.one (.c (.d .str)),.one (.c (.d .str))],res:=.one (.c (.d .str)),F:=fun p=>qf6 n p.1 p.2 }
def qln (n:Nat):List FC:=[q3f n]
theorem qxn (n:Nat) {G:World->Prop} (hG:Know Inv G) : ∀c∈qln n,q0t Tryz.prog G c/\q0c c.args=true:=List.forall_mem_cons.2 ⟨j2m n G hG,(fun _ h=>by cases h)⟩
def qo3:q0b:=[]
theorem j67:drB qo3 (q00 Tryz.f94)=true:=by kernel_rfl
theorem j8k (n:Nat) : ∀a,(q6t n).F a=main Tryz.prog 8 (qln n) (qi7 n) qo3 (q00 Tryz.f94) [.tmp 4] (q6t n).args (q6t n).res a:=by intro a;kernel_rfl
theorem j77 (n:Nat):q0h Inv Tryz.prog (q6t n):=fun G hG=>⟨⟨by kernel_rfl,fun a r h=>q05 (c:=q00 Tryz.f94) Tryz.func94 (by kernel_rfl) (by kernel_rfl) (Nat.le_of_ble_eq_true (by kernel_rfl)) hG.st (by kernel_rfl) (rs:=[.tmp 4]) (by kernel_rfl) (qxn n hG) (lts:=qi7 n) (fun F hF hFG=>have hK:Know Inv F.G:=hFG ▸ hG;(q02 fun j L h1 h2 h3=>absurd h2 (Nat.not_lt.2 (Nat.le_trans (by decide +kernel) h1)))) j67 ((j8k n a).symm.trans h)⟩,rfl⟩
def jcr (n:Nat):List LC:=[]
def j66 (n:Nat) (a1:Int):Option (Bool) :=
 some (!decide (a1=a1))
def qn9 (n:Nat):FC:={ f:=128,args:=[.one (.c (.d (.int .i64)))],res:=.one (.c (.d .bool)),F:=fun p=>j66 n p }
def jop (n:Nat):List FC:=[]
theorem jrf (n:Nat) {G:World->Prop} (hG:Know Inv G) : ∀c∈jop n,q0t Tryz.prog G c/\q0c c.args=true:=(fun _ h=>by cases h)
def jn6:q0b:=[]
theorem k0d:drB jn6 (q00 Tryz.f128)=true:=by kernel_rfl
theorem k15 (n:Nat) : ∀a,(qn9 n).F a=main Tryz.prog 6 (jop n) (jcr n) jn6 (q00 Tryz.f128) [.tmp 2] (qn9 n).args (qn9 n).res a:=by intro a;kernel_rfl
theorem k19 (n:Nat):q0h Inv Tryz.prog (qn9 n):=fun G hG=>⟨⟨by kernel_rfl,fun a r h=>q05 (c:=q00 Tryz.f128) Tryz.func128 (by kernel_rfl) (by kernel_rfl) (Nat.le_of_ble_eq_true (by kernel_rfl)) hG.st (by kernel_rfl) (rs:=[.tmp 2]) (by kernel_rfl) (jrf n hG) (lts:=jcr n) (fun F hF hFG=>have hK:Know Inv F.G:=hFG ▸ hG;(q02 fun j L h1 h2 h3=>absurd h2 (Nat.not_lt.2 (Nat.le_trans (by decide +kernel) h1)))) k0d ((k15 n a).symm.trans h)⟩,rfl⟩
def j2p (n:Nat):List LC:=[]
def qda (n:Nat) (a1:Int) (a2:Int):Option (Int) :=
 (j66 n a1).bind fun r1=>(j66 n a2).bind fun r2=>(bif r1 then (bif r2 then some (0:Int) else some (-1:Int)) else (bif r2 then some (1:Int) else (bif decide (a1<a2) then some (-1:Int) else (bif decide (a2<a1) then some (1:Int) else some (0:Int)))))
def qbx (n:Nat):FC:={ f:=99,args:=[.one (.c (.d (.int .i64))),.one (.c (.d (.int .i64)))],res:=.one (.c (.d (.int .i64))),F:=fun p=>qda n p.1 p.2 }
def jcg (n:Nat):List FC:=[qn9 n]
theorem jgp (n:Nat) {G:World->Prop} (hG:Know Inv G) : ∀c∈jcg n,q0t Tryz.prog G c/\q0c c.args=true:=List.forall_mem_cons.2 ⟨k19 n G hG,(fun _ h=>by cases h)⟩
def jet:q0b:=[]
theorem jv5:drB jet (q00 Tryz.f99)=true:=by kernel_rfl
theorem jyq (n:Nat) : ∀a,(qbx n).F a=main Tryz.prog 20 (jcg n) (j2p n) jet (q00 Tryz.f99) [.tmp 4] (qbx n).args (qbx n).res a:=by intro a;kernel_rfl
theorem jah (n:Nat):q0h Inv Tryz.prog (qbx n):=fun G hG=>⟨⟨by kernel_rfl,fun a r h=>q05 (c:=q00 Tryz.f99) Tryz.func99 (by kernel_rfl) (by kernel_rfl) (Nat.le_of_ble_eq_true (by kernel_rfl)) hG.st (by kernel_rfl) (rs:=[.tmp 4]) (by kernel_rfl) (jgp n hG) (lts:=j2p n) (fun F hF hFG=>have hK:Know Inv F.G:=hFG ▸ hG;(q02 fun j L h1 h2 h3=>absurd h2 (Nat.not_lt.2 (Nat.le_trans (by decide +kernel) h1)))) jv5 ((jyq n a).symm.trans h)⟩,rfl⟩
@[reducible] def qlw:SSt:=⟨[(3,.one (.c (.d (.int .i64)))),(6,.one (.c (.d (.lst (.int .i64))))),(7,.one (.c (.d (.int .i64)))),(8,.one (.c (.d (.int .i64))))],[],[]⟩
@[reducible] def qdo:List (Exit×SSt):=[(.ret,⟨[(2,.one (.c (.d (.int .i64))))],[],[]⟩),(.exit 0,⟨[(3,.one (.c (.d (.int .i64))))],[],[]⟩)]
def j7d (n:Nat) (rec:Int->(List (Int))->Int->Int->Option (((Int×Unit)×Unit×Unit)⊕((Int×Unit)×Unit×Unit))) (a1:Int) (a2:List (Int)) (a3:Int) (a4:Int):Option (((Int×Unit)×Unit×Unit)⊕((Int×Unit)×Unit×Unit)) :=
 (bif decide (a4<a3) then (q0s a2 a4).bind fun x1=>(bif !decide (x1=a1) then some (Sum.inl ((x1,()),((),()))) else q0f (IntKind.wrap .i64 (a4+1)) fun n2=>rec a1 a2 a3 n2) else some (Sum.inr (((a1,()),((),())))))
def j6i (n:Nat) (rec:pSt qlw->Option (q06 qdo)) (p:pSt qlw):Option (q06 qdo):=j7d n (fun a1 a2 a3 a4=>rec ((a1,(a2,(a3,(a4,())))),((),()))) p.1.1 p.1.2.1 p.1.2.2.1 p.1.2.2.2.1
def qcm (n m:Nat) (a1:Int) (a2:List (Int)) (a3:Int) (a4:Int):Option (((Int×Unit)×Unit×Unit)⊕((Int×Unit)×Unit×Unit)):=q08 (j6i n) m ((a1,(a2,(a3,(a4,())))),((),()))
theorem quh (n m:Nat) (a1 a2 a3 a4):qcm n (m+1) a1 a2 a3 a4=j7d n (fun a1 a2 a3 a4=>qcm n m a1 a2 a3 a4) a1 a2 a3 a4:=rfl
def jn0 (n:Nat):LC:={ sh:=qlw,outs:=qdo,F:=q08 (j6i n) n }
def qzr (n:Nat):List LC:=[jn0 n]
def j07 (n:Nat) (a1:List (Int)):Option (Int) :=
 (qcm n n (0:Int) a1 (a1.length:Int) (0:Int)).bind fun o3=>Sum.elim (fun (q4:(Int×Unit)×Unit×Unit)=>some q4.1.1) (fun (q5:(Int×Unit)×Unit×Unit)=>some q5.1.1) o3
def qh1 (n:Nat):FC:={ f:=98,args:=[.one (.c (.d (.lst (.int .i64))))],res:=.one (.c (.d (.int .i64))),F:=fun p=>j07 n p }
def j7w (n:Nat):List FC:=[]
theorem j53 (n:Nat) {G:World->Prop} (hG:Know Inv G) : ∀c∈j7w n,q0t Tryz.prog G c/\q0c c.args=true:=(fun _ h=>by cases h)
def j94:q0b:=[]
theorem jmu:drB j94 (q00 Tryz.f98)=true:=by kernel_rfl
theorem jt9 (n:Nat) : ∀rec p,j6i n rec p=round Tryz.prog 18 (j7w n) (qzr n) j94 1 qlw qdo (q01 0 0 (q00 Tryz.f98)) rec p:=by intro rec p;kernel_rfl
theorem jr8 (n:Nat) {F:Fr} (hF:F.n=18) (hK:Know Inv F.G):q2h Tryz.prog F (jn0 n) (q01 0 0 (q00 Tryz.f98)) :=
 q09 hF (by kernel_rfl) (j53 n hK) (jt9 n) (fuel:=n) (fun _=>rfl) (q02 fun j L h1 h2 h3=>absurd h2 (Nat.not_lt.2 (Nat.le_trans (by decide +kernel) h1))) (q0g jmu)
theorem k0o (n:Nat) : ∀a,(qh1 n).F a=main Tryz.prog 18 (j7w n) (qzr n) j94 (q00 Tryz.f98) [.tmp 2] (qh1 n).args (qh1 n).res a:=by intro a;kernel_rfl
theorem jli (n:Nat):q0h Inv Tryz.prog (qh1 n):=fun G hG=>⟨⟨by kernel_rfl,fun a r h=>q05 (c:=q00 Tryz.f98) Tryz.func98 (by kernel_rfl) (by kernel_rfl) (Nat.le_of_ble_eq_true (by kernel_rfl)) hG.st (by kernel_rfl) (rs:=[.tmp 2]) (by kernel_rfl) (j53 n hG) (lts:=qzr n) (fun F hF hFG=>have hK:Know Inv F.G:=hFG ▸ hG;(q02 (c:=(q00 Tryz.f98)) (fun j L h1 h2 h3=>by
  have h2':j<1:=Nat.lt_of_lt_of_le h2 (by decide +kernel)
  match j,h1,h2',h3 with
  | 0,_,_,h3=>obtain rfl:=Option.some.inj h3;exact (show q01 0 0 (q00 Tryz.f98)=q01 0 0 (q00 Tryz.f98) by kernel_rfl) ▸ jr8 n hF hK
  | j+1,_,h2',_=>exact absurd h2' (by omega)))) jmu ((k0o n a).symm.trans h)⟩,rfl⟩
@[reducible] def qh9:SSt:=⟨[(1,.one (.c (.box 1 0))),(11,.one (.agg [.d (.int .i64),.d (.int .i64),.d (.int .i64)])),(12,.one (.c (.d (.int .i64))))],[(1,(26,[.d (.int .i64),.d (.int .i64),.d (.int .i64),.d .str,.d .str]))],[]⟩
@[reducible] def q8v:List (Exit×SSt):=[(.ret,⟨[(2,.one (.c (.d .bool)))],[],[]⟩),(.exit 0,⟨[(1,.one (.c (.box 1 0)))],[(1,(26,[.d (.int .i64),.d (.int .i64),.d (.int .i64),.d .str,.d .str]))],[]⟩)]
def qns (n:Nat) (rec:Int->Int->Int->Int->Int->Int->Int->(List UInt8)->(List UInt8)->Option (((Bool×Unit)×Unit×Unit)⊕((Unit×Unit)×((Int×(Int×(Int×((List UInt8)×List UInt8))))×Unit)×Unit))) (a1:Int) (a2:Int) (a3:Int) (a4:Int) (a5:Int) (a6:Int) (a7:Int) (a8:List UInt8) (a9:List UInt8):Option (((Bool×Unit)×Unit×Unit)⊕((Unit×Unit)×((Int×(Int×(Int×((List UInt8)×List UInt8))))×Unit)×Unit)) :=
 (bif decide (a4<3) then (q0s ([a1,a2,a3]:List (Int)) a4).bind fun x1=>(bif decide (x1<0) then some (Sum.inl ((false,()),((),()))) else (bif decide (999999999<x1) then some (Sum.inl ((false,()),((),()))) else q0f (IntKind.wrap .i64 (a4+1)) fun n2=>rec a1 a2 a3 n2 a5 a6 a7 a8 a9)) else some (Sum.inr ((((),()),(((a5,(a6,(a7,(a8,a9)))),()),())))))
def qz4 (n:Nat) (rec:pSt qh9->Option (q06 q8v)) (p:pSt qh9):Option (q06 q8v):=qns n (fun a1 a2 a3 a4 a5 a6 a7 a8 a9=>rec (((),((a1,(a2,a3)),(a4,()))),(((a5,(a6,(a7,(a8,a9)))),()),()))) p.1.2.1.1 p.1.2.1.2.1 p.1.2.1.2.2 p.1.2.2.1 p.2.1.1.1 p.2.1.1.2.1 p.2.1.1.2.2.1 p.2.1.1.2.2.2.1 p.2.1.1.2.2.2.2
def q6e (n m:Nat) (a1:Int) (a2:Int) (a3:Int) (a4:Int) (a5:Int) (a6:Int) (a7:Int) (a8:List UInt8) (a9:List UInt8):Option (((Bool×Unit)×Unit×Unit)⊕((Unit×Unit)×((Int×(Int×(Int×((List UInt8)×List UInt8))))×Unit)×Unit)):=q08 (qz4 n) m (((),((a1,(a2,a3)),(a4,()))),(((a5,(a6,(a7,(a8,a9)))),()),()))
theorem qbt (n m:Nat) (a1 a2 a3 a4 a5 a6 a7 a8 a9):q6e n (m+1) a1 a2 a3 a4 a5 a6 a7 a8 a9=qns n (fun a1 a2 a3 a4 a5 a6 a7 a8 a9=>q6e n m a1 a2 a3 a4 a5 a6 a7 a8 a9) a1 a2 a3 a4 a5 a6 a7 a8 a9:=rfl
def jfm (n:Nat):LC:={ sh:=qh9,outs:=q8v,F:=q08 (qz4 n) n }
def qop (n:Nat):List LC:=[jfm n]
def q9l (n:Nat) (a1:Int×(Int×(Int×((List UInt8)×List UInt8)))):Option (Bool) :=
 (q6e n n a1.1 a1.2.1 a1.2.2.1 (0:Int) a1.1 a1.2.1 a1.2.2.1 a1.2.2.2.1 a1.2.2.2.2).bind fun o3=>Sum.elim (fun (q4:(Bool×Unit)×Unit×Unit)=>some q4.1.1) (fun (q5:(Unit×Unit)×((Int×(Int×(Int×((List UInt8)×List UInt8))))×Unit)×Unit)=>(qz6 q5.2.1.1.2.2.2.1 ()).bind fun (r6:Bool)=>(bif r6 then (qqs q5.2.1.1.2.2.2.2 ()).bind fun (r7:Bool)=>some r7 else some false)) o3
def q6a (n:Nat):FC:={ f:=67,args:=[.one (.agg [.d (.int .i64),.d (.int .i64),.d (.int .i64),.d .str,.d .str])],res:=.one (.c (.d .bool)),F:=fun p=>q9l n p }
def qyu (n:Nat):List FC:=[j4f,j12]
theorem qxu (n:Nat) {G:World->Prop} (hG:Know Inv G) : ∀c∈qyu n,q0t Tryz.prog G c/\q0c c.args=true:=List.forall_mem_cons.2 ⟨jr9 G hG,List.forall_mem_cons.2 ⟨jhf G hG,(fun _ h=>by cases h)⟩⟩
def qyb:q0b:=[]
theorem jac:drB qyb (q00 Tryz.f67)=true:=by kernel_rfl
theorem jpd (n:Nat) : ∀rec p,qz4 n rec p=round Tryz.prog 30 (qyu n) (qop n) qyb 1 qh9 q8v (q01 0 0 (q00 Tryz.f67)) rec p:=by intro rec p;kernel_rfl
theorem jgu (n:Nat) {F:Fr} (hF:F.n=30) (hK:Know Inv F.G):q2h Tryz.prog F (jfm n) (q01 0 0 (q00 Tryz.f67)) :=
 q09 hF (by kernel_rfl) (qxu n hK) (jpd n) (fuel:=n) (fun _=>rfl) (q02 fun j L h1 h2 h3=>absurd h2 (Nat.not_lt.2 (Nat.le_trans (by decide +kernel) h1))) (q0g jac)
theorem jwt (n:Nat) : ∀a,(q6a n).F a=main Tryz.prog 30 (qyu n) (qop n) qyb (q00 Tryz.f67) [.tmp 2] (q6a n).args (q6a n).res a:=by intro a;kernel_rfl
theorem qms (n:Nat):q0h Inv Tryz.prog (q6a n):=fun G hG=>⟨⟨by kernel_rfl,fun a r h=>q05 (c:=q00 Tryz.f67) Tryz.func67 (by kernel_rfl) (by kernel_rfl) (Nat.le_of_ble_eq_true (by kernel_rfl)) hG.st (by kernel_rfl) (rs:=[.tmp 2]) (by kernel_rfl) (qxu n hG) (lts:=qop n) (fun F hF hFG=>have hK:Know Inv F.G:=hFG ▸ hG;(q02 (c:=(q00 Tryz.f67)) (fun j L h1 h2 h3=>by
  have h2':j<1:=Nat.lt_of_lt_of_le h2 (by decide +kernel)
  match j,h1,h2',h3 with
  | 0,_,_,h3=>obtain rfl:=Option.some.inj h3;exact (show q01 0 0 (q00 Tryz.f67)=q01 0 0 (q00 Tryz.f67) by kernel_rfl) ▸ jgu n hF hK
  | j+1,_,h2',_=>exact absurd h2' (by omega)))) jac ((jwt n a).symm.trans h)⟩,rfl⟩
def j3r (n:Nat):List LC:=[]
def qlq (n:Nat) (a1:Int×(Int×(Int×((List UInt8)×List UInt8)))) (a2:Int):Option (Int×(Int×(Int×((List UInt8)×List UInt8)))) :=
 (bif decide (a2=3) then some (a1.1,((0:Int),((0:Int),a1.2.2.2))) else (bif decide (a2=2) then some (a1.1,(a1.2.1,((0:Int),a1.2.2.2))) else some a1))
def qfx (n:Nat):FC:={ f:=104,args:=[.one (.agg [.d (.int .i64),.d (.int .i64),.d (.int .i64),.d .str,.d .str]),.one (.c (.d (.int .i64)))],res:=.one (.agg [.d (.int .i64),.d (.int .i64),.d (.int .i64),.d .str,.d .str]),F:=fun p=>qlq n p.1 p.2 }
def jfg (n:Nat):List FC:=[]
theorem jgc (n:Nat) {G:World->Prop} (hG:Know Inv G) : ∀c∈jfg n,q0t Tryz.prog G c/\q0c c.args=true:=(fun _ h=>by cases h)
def jbt:q0b:=[]
theorem jya:drB jbt (q00 Tryz.f104)=true:=by kernel_rfl
theorem jz8 (n:Nat) : ∀a,(qfx n).F a=main Tryz.prog 13 (jfg n) (j3r n) jbt (q00 Tryz.f104) [.cell 4 26] (qfx n).args (qfx n).res a:=by intro a;kernel_rfl
theorem jtf (n:Nat):q0h Inv Tryz.prog (qfx n):=fun G hG=>⟨⟨by kernel_rfl,fun a r h=>q05 (c:=q00 Tryz.f104) Tryz.func104 (by kernel_rfl) (by kernel_rfl) (Nat.le_of_ble_eq_true (by kernel_rfl)) hG.st (by kernel_rfl) (rs:=[.cell 4 26]) (by kernel_rfl) (jgc n hG) (lts:=j3r n) (fun F hF hFG=>have hK:Know Inv F.G:=hFG ▸ hG;(q02 fun j L h1 h2 h3=>absurd h2 (Nat.not_lt.2 (Nat.le_trans (by decide +kernel) h1)))) jya ((jz8 n a).symm.trans h)⟩,rfl⟩
def jeo (n:Nat):List LC:=[]
def j6v (n:Nat) (a1:List UInt8) (a2:List UInt8):Option (Int) :=
 (q7s n a1).bind fun r1=>(q7s n a2).bind fun r2=>(bif r1 then (bif r2 then (qda n (a1.length:Int) (a2.length:Int)).bind fun r3=>(qm9 a1 a2).bind fun (r4:Int)=>(j07 n ([r3,r4]:List (Int))).bind fun r5=>some r5 else (bif r1 then some (-1:Int) else (bif r2 then some (1:Int) else (qm9 a1 a2).bind fun (r6:Int)=>some r6))) else (bif r1 then some (-1:Int) else (bif r2 then some (1:Int) else (qm9 a1 a2).bind fun (r7:Int)=>some r7)))
def qlh (n:Nat):FC:={ f:=131,args:=[.one (.c (.d .str)),.one (.c (.d .str))],res:=.one (.c (.d (.int .i64))),F:=fun p=>j6v n p.1 p.2 }
def jm7 (n:Nat):List FC:=[q4x n,qbx n,j41,qh1 n]
theorem jqd (n:Nat) {G:World->Prop} (hG:Know Inv G) : ∀c∈jm7 n,q0t Tryz.prog G c/\q0c c.args=true:=List.forall_mem_cons.2 ⟨j1f n G hG,List.forall_mem_cons.2 ⟨jah n G hG,List.forall_mem_cons.2 ⟨jpc G hG,List.forall_mem_cons.2 ⟨jli n G hG,(fun _ h=>by cases h)⟩⟩⟩⟩
def jlq:q0b:=[]
theorem k32:drB jlq (q00 Tryz.f131)=true:=by kernel_rfl
theorem k3k (n:Nat) : ∀a,(qlh n).F a=main Tryz.prog 33 (jm7 n) (jeo n) jlq (q00 Tryz.f131) [.tmp 4] (qlh n).args (qlh n).res a:=by intro a;kernel_rfl
theorem k14 (n:Nat):q0h Inv Tryz.prog (qlh n):=fun G hG=>⟨⟨by kernel_rfl,fun a r h=>q05 (c:=q00 Tryz.f131) Tryz.func131 (by kernel_rfl) (by kernel_rfl) (Nat.le_of_ble_eq_true (by kernel_rfl)) hG.st (by kernel_rfl) (rs:=[.tmp 4]) (by kernel_rfl) (jqd n hG) (lts:=jeo n) (fun F hF hFG=>have hK:Know Inv F.G:=hFG ▸ hG;(q02 fun j L h1 h2 h3=>absurd h2 (Nat.not_lt.2 (Nat.le_trans (by decide +kernel) h1)))) k32 ((k3k n a).symm.trans h)⟩,rfl⟩
@[reducible] def qe0:SSt:=⟨[(0,.one (.c (.d (.lst .str)))),(1,.one (.c (.d (.lst .str)))),(2,.one (.c (.fn 131 []))),(11,.one (.c (.d (.lst .str)))),(12,.one (.c (.d (.int .i64)))),(13,.one (.c (.d (.int .i64))))],[],[]⟩
@[reducible] def q79:List (Exit×SSt):=[(.ret,⟨[(6,.one (.c (.d (.int .i64))))],[],[]⟩),(.exit 0,⟨[(0,.one (.c (.d (.lst .str)))),(1,.one (.c (.d (.lst .str))))],[],[]⟩)]
def qqp (n:Nat) (rec:(List (List UInt8))->(List (List UInt8))->(List (List UInt8))->Int->Int->Option (((Int×Unit)×Unit×Unit)⊕(((List (List UInt8))×((List (List UInt8))×Unit))×Unit×Unit))) (a1:List (List UInt8)) (a2:List (List UInt8)) (a3:List (List UInt8)) (a4:Int) (a5:Int):Option (((Int×Unit)×Unit×Unit)⊕(((List (List UInt8))×((List (List UInt8))×Unit))×Unit×Unit)) :=
 (bif decide (a5<a4) then (q0s a3 a5).bind fun x1=>(bif decide ((a2.length:Int)<=a5) then some (Sum.inl (((1:Int),()),((),()))) else (q0s a2 a5).bind fun x2=>(j6v n x1 x2).bind fun r3=>(bif !decide (r3=0) then some (Sum.inl ((r3,()),((),()))) else q0f (IntKind.wrap .i64 (a5+1)) fun n4=>rec a1 a2 a3 a4 n4)) else some (Sum.inr (((a1,(a2,())),((),())))))
def qql (n:Nat) (rec:pSt qe0->Option (q06 q79)) (p:pSt qe0):Option (q06 q79):=qqp n (fun a1 a2 a3 a4 a5=>rec ((a1,(a2,((),(a3,(a4,(a5,())))))),((),()))) p.1.1 p.1.2.1 p.1.2.2.2.1 p.1.2.2.2.2.1 p.1.2.2.2.2.2.1
def q7h (n m:Nat) (a1:List (List UInt8)) (a2:List (List UInt8)) (a3:List (List UInt8)) (a4:Int) (a5:Int):Option (((Int×Unit)×Unit×Unit)⊕(((List (List UInt8))×((List (List UInt8))×Unit))×Unit×Unit)):=q08 (qql n) m ((a1,(a2,((),(a3,(a4,(a5,())))))),((),()))
theorem qle (n m:Nat) (a1 a2 a3 a4 a5):q7h n (m+1) a1 a2 a3 a4 a5=qqp n (fun a1 a2 a3 a4 a5=>q7h n m a1 a2 a3 a4 a5) a1 a2 a3 a4 a5:=rfl
def j5r (n:Nat):LC:={ sh:=qe0,outs:=q79,F:=q08 (qql n) n }
def qk5 (n:Nat):List LC:=[j5r n]
def qy4 (n:Nat) (a1:List (List UInt8)) (a2:List (List UInt8)) (a3:Unit):Option (Int) :=
 (q7h n n a1 a2 a1 (a1.length:Int) (0:Int)).bind fun o5=>Sum.elim (fun (q6:(Int×Unit)×Unit×Unit)=>some q6.1.1) (fun (q7:((List (List UInt8))×((List (List UInt8))×Unit))×Unit×Unit)=>(bif decide ((q7.1.1.length:Int)<(q7.1.2.1.length:Int)) then some (-1:Int) else some (0:Int))) o5
def qb5 (n:Nat):FC:={ f:=129,args:=[.one (.c (.d (.lst .str))),.one (.c (.d (.lst .str))),.one (.c (.fn 131 []))],res:=.one (.c (.d (.int .i64))),F:=fun p=>qy4 n p.1 p.2.1 p.2.2 }
def qq9 (n:Nat):List FC:=[qlh n]
theorem qtj (n:Nat) {G:World->Prop} (hG:Know Inv G) : ∀c∈qq9 n,q0t Tryz.prog G c/\q0c c.args=true:=List.forall_mem_cons.2 ⟨k14 n G hG,(fun _ h=>by cases h)⟩
def qpj:q0b:=[]
theorem j59:drB qpj (q00 Tryz.f129)=true:=by kernel_rfl
theorem jid (n:Nat) : ∀rec p,qql n rec p=round Tryz.prog 39 (qq9 n) (qk5 n) qpj 1 qe0 q79 (q01 0 0 (q00 Tryz.f129)) rec p:=by intro rec p;kernel_rfl
theorem jbi (n:Nat) {F:Fr} (hF:F.n=39) (hK:Know Inv F.G):q2h Tryz.prog F (j5r n) (q01 0 0 (q00 Tryz.f129)) :=
 q09 hF (by kernel_rfl) (qtj n hK) (jid n) (fuel:=n) (fun _=>rfl) (q02 fun j L h1 h2 h3=>absurd h2 (Nat.not_lt.2 (Nat.le_trans (by decide +kernel) h1))) (q0g j59)
theorem js6 (n:Nat) : ∀a,(qb5 n).F a=main Tryz.prog 39 (qq9 n) (qk5 n) qpj (q00 Tryz.f129) [.tmp 6] (qb5 n).args (qb5 n).res a:=by intro a;kernel_rfl
theorem jpe (n:Nat):q0h Inv Tryz.prog (qb5 n):=fun G hG=>⟨⟨by kernel_rfl,fun a r h=>q05 (c:=q00 Tryz.f129) Tryz.func129 (by kernel_rfl) (by kernel_rfl) (Nat.le_of_ble_eq_true (by kernel_rfl)) hG.st (by kernel_rfl) (rs:=[.tmp 6]) (by kernel_rfl) (qtj n hG) (lts:=qk5 n) (fun F hF hFG=>have hK:Know Inv F.G:=hFG ▸ hG;(q02 (c:=(q00 Tryz.f129)) (fun j L h1 h2 h3=>by
  have h2':j<1:=Nat.lt_of_lt_of_le h2 (by decide +kernel)
  match j,h1,h2',h3 with
  | 0,_,_,h3=>obtain rfl:=Option.some.inj h3;exact (show q01 0 0 (q00 Tryz.f129)=q01 0 0 (q00 Tryz.f129) by kernel_rfl) ▸ jbi n hF hK
  | j+1,_,h2',_=>exact absurd h2' (by omega)))) j59 ((js6 n a).symm.trans h)⟩,rfl⟩
def jmy (n:Nat):List LC:=[]
def jmx (n:Nat) (a1:List UInt8) (a2:List UInt8):Option (Int) :=
 (bif decide (a1=a2) then some (0:Int) else (bif decide (a1=([]:List UInt8)) then some (1:Int) else (bif decide (a2=([]:List UInt8)) then some (-1:Int) else (qjd a1 ([46]:List UInt8)).bind fun (r1:List (List UInt8))=>(qjd a2 ([46]:List UInt8)).bind fun (r2:List (List UInt8))=>(qy4 n r1 r2 ()).bind fun r3=>some r3)))
def qzo (n:Nat):FC:={ f:=100,args:=[.one (.c (.d .str)),.one (.c (.d .str))],res:=.one (.c (.d (.int .i64))),F:=fun p=>jmx n p.1 p.2 }
def jto (n:Nat):List FC:=[jny,qb5 n]
theorem ju9 (n:Nat) {G:World->Prop} (hG:Know Inv G) : ∀c∈jto n,q0t Tryz.prog G c/\q0c c.args=true:=List.forall_mem_cons.2 ⟨k0l G hG,List.forall_mem_cons.2 ⟨jpe n G hG,(fun _ h=>by cases h)⟩⟩
def jvn:q0b:=[]
theorem k6c:drB jvn (q00 Tryz.f100)=true:=by kernel_rfl
theorem k7j (n:Nat) : ∀a,(qzo n).F a=main Tryz.prog 20 (jto n) (jmy n) jvn (q00 Tryz.f100) [.tmp 4] (qzo n).args (qzo n).res a:=by intro a;kernel_rfl
theorem k72 (n:Nat):q0h Inv Tryz.prog (qzo n):=fun G hG=>⟨⟨by kernel_rfl,fun a r h=>q05 (c:=q00 Tryz.f100) Tryz.func100 (by kernel_rfl) (by kernel_rfl) (Nat.le_of_ble_eq_true (by kernel_rfl)) hG.st (by kernel_rfl) (rs:=[.tmp 4]) (by kernel_rfl) (ju9 n hG) (lts:=jmy n) (fun F hF hFG=>have hK:Know Inv F.G:=hFG ▸ hG;(q02 fun j L h1 h2 h3=>absurd h2 (Nat.not_lt.2 (Nat.le_trans (by decide +kernel) h1)))) k6c ((k7j n a).symm.trans h)⟩,rfl⟩
def qsj (n:Nat):List LC:=[]
def q7p (n:Nat) (a1:Int×(Int×(Int×((List UInt8)×List UInt8)))) (a2:Int×(Int×(Int×((List UInt8)×List UInt8)))):Option (Int) :=
 (q9l n a1).bind fun r1=>(bif !r1 then some (0:Int) else (q9l n a2).bind fun r2=>(bif !r2 then some (0:Int) else (qda n a1.1 a2.1).bind fun r3=>(qda n a1.2.1 a2.2.1).bind fun r4=>(qda n a1.2.2.1 a2.2.2.1).bind fun r5=>(jmx n a1.2.2.2.1 a2.2.2.2.1).bind fun r6=>(j07 n ([r3,r4,r5,r6]:List (Int))).bind fun r7=>some r7))
def q4r (n:Nat):FC:={ f:=66,args:=[.one (.agg [.d (.int .i64),.d (.int .i64),.d (.int .i64),.d .str,.d .str]),.one (.agg [.d (.int .i64),.d (.int .i64),.d (.int .i64),.d .str,.d .str])],res:=.one (.c (.d (.int .i64))),F:=fun p=>q7p n p.1 p.2 }
def qxk (n:Nat):List FC:=[q6a n,qbx n,qzo n,qh1 n]
theorem j6c (n:Nat) {G:World->Prop} (hG:Know Inv G) : ∀c∈qxk n,q0t Tryz.prog G c/\q0c c.args=true:=List.forall_mem_cons.2 ⟨qms n G hG,List.forall_mem_cons.2 ⟨jah n G hG,List.forall_mem_cons.2 ⟨k72 n G hG,List.forall_mem_cons.2 ⟨jli n G hG,(fun _ h=>by cases h)⟩⟩⟩⟩
def qxs:q0b:=[(3,[⟨3298534883520,2^39,0⟩,⟨26938034880640,2^42,1⟩,⟨211106232534528,2^45,0⟩,⟨1724034232353792,2^48,4⟩,⟨3137*2^42,2^51,15⟩,⟨108086391056892096,2^54,0⟩,⟨882705526964617344,2^57,32⟩,⟨6917529027641083392,2^60,0⟩,⟨56493153725735502848,2^63,128⟩,⟨3137*2^57,2^66,511⟩,⟨3541774862152233910464,2^69,0⟩,⟨28924494707576576934016,2^72,1024⟩,⟨226673591177742970258944,2^75,0⟩,⟨1851167661284900923769856,2^78,4096⟩,⟨3137*2^72,2^81,16383⟩,⟨116056878683004400771793088,2^84,0⟩,⟨947797842577869272969642112,2^87,32768⟩,⟨7427640235712281649394746880,2^90,0⟩,⟨60659061924983633470057088000,2^93,2^17⟩,⟨3137*2^87,2^96,524287⟩,⟨1724035306127361*2^51,5*2^99,1048575⟩,⟨53*2^99,2^102,2097151⟩,⟨5070602400912917605986812846080,4096,4194303⟩])]
theorem jh5:drB qxs (q00 Tryz.f66)=true:=by kernel_rfl
theorem jgh (n:Nat) : ∀a,(q4r n).F a=main Tryz.prog 35 (qxk n) (qsj n) qxs (q00 Tryz.f66) [.tmp 4] (q4r n).args (q4r n).res a:=by intro a;kernel_rfl
theorem qyy (n:Nat):q0h Inv Tryz.prog (q4r n):=fun G hG=>⟨⟨by kernel_rfl,fun a r h=>q05 (c:=q00 Tryz.f66) Tryz.func66 (by kernel_rfl) (by kernel_rfl) (Nat.le_of_ble_eq_true (by kernel_rfl)) hG.st (by kernel_rfl) (rs:=[.tmp 4]) (by kernel_rfl) (j6c n hG) (lts:=qsj n) (fun F hF hFG=>have hK:Know Inv F.G:=hFG ▸ hG;(q02 fun j L h1 h2 h3=>absurd h2 (Nat.not_lt.2 (Nat.le_trans (by decide +kernel) h1)))) jh5 ((jgh n a).symm.trans h)⟩,rfl⟩
def ja8 (n:Nat):List LC:=[]
def j9p (n:Nat) (a1:Int×(Int×(Int×((List UInt8)×List UInt8)))) (a2:Int):Option ((Int×(Int×(Int×((List UInt8)×List UInt8))))×(Int)) :=
 (q9l n a1).bind fun r1=>(bif !r1 then some (((0:Int),((0:Int),((0:Int),(([]:List UInt8),([]:List UInt8))))),(1:Int)) else (bif decide (a2<1) then some (((0:Int),((0:Int),((0:Int),(([]:List UInt8),([]:List UInt8))))),(1:Int)) else (bif decide (3<a2) then some (((0:Int),((0:Int),((0:Int),(([]:List UInt8),([]:List UInt8))))),(1:Int)) else (qlq n (a1.1,(a1.2.1,(a1.2.2.1,(([]:List UInt8),([]:List UInt8))))) a2).bind fun r2=>(q7p n r2 a1).bind fun r3=>(bif decide (0<r3) then some (r2,(0:Int)) else (bif decide (a2=1) then (bif decide (a1.2.2.1<999999999) then q0f (IntKind.wrap .i64 (a1.2.2.1+1)) fun n4=>some ((a1.1,(a1.2.1,(n4,(([]:List UInt8),([]:List UInt8))))),(0:Int)) else (bif decide (a1.2.1<999999999) then q0f (IntKind.wrap .i64 (a1.2.1+1)) fun n5=>some ((a1.1,(n5,((0:Int),(([]:List UInt8),([]:List UInt8))))),(0:Int)) else (bif decide (a1.1<999999999) then q0f (IntKind.wrap .i64 (a1.1+1)) fun n6=>some ((n6,((0:Int),((0:Int),(([]:List UInt8),([]:List UInt8))))),(0:Int)) else some (((0:Int),((0:Int),((0:Int),(([]:List UInt8),([]:List UInt8))))),(15:Int))))) else (bif decide (a2=2) then (bif decide (a1.2.1<999999999) then q0f (IntKind.wrap .i64 (a1.2.1+1)) fun n7=>some ((a1.1,(n7,((0:Int),(([]:List UInt8),([]:List UInt8))))),(0:Int)) else (bif decide (a1.1<999999999) then q0f (IntKind.wrap .i64 (a1.1+1)) fun n8=>some ((n8,((0:Int),((0:Int),(([]:List UInt8),([]:List UInt8))))),(0:Int)) else some (((0:Int),((0:Int),((0:Int),(([]:List UInt8),([]:List UInt8))))),(15:Int)))) else (bif decide (a2=3) then (bif decide (a1.1<999999999) then q0f (IntKind.wrap .i64 (a1.1+1)) fun n9=>some ((n9,((0:Int),((0:Int),(([]:List UInt8),([]:List UInt8))))),(0:Int)) else some (((0:Int),((0:Int),((0:Int),(([]:List UInt8),([]:List UInt8))))),(15:Int))) else some (((0:Int),((0:Int),((0:Int),(([]:List UInt8),([]:List UInt8))))),(15:Int)))))))))
def qlf (n:Nat):FC:={ f:=68,args:=[.one (.agg [.d (.int .i64),.d (.int .i64),.d (.int .i64),.d .str,.d .str]),.one (.c (.d (.int .i64)))],res:=.tup [.agg [.d (.int .i64),.d (.int .i64),.d (.int .i64),.d .str,.d .str],.c (.d (.int .i64))],F:=fun p=>j9p n p.1 p.2 }
def jm1 (n:Nat):List FC:=[q6a n,qfx n,q4r n]
theorem jq9 (n:Nat) {G:World->Prop} (hG:Know Inv G) : ∀c∈jm1 n,q0t Tryz.prog G c/\q0c c.args=true:=List.forall_mem_cons.2 ⟨qms n G hG,List.forall_mem_cons.2 ⟨jtf n G hG,List.forall_mem_cons.2 ⟨qyy n G hG,(fun _ h=>by cases h)⟩⟩⟩
def jlo:q0b:=[]
theorem k21:drB jlo (q00 Tryz.f68)=true:=by kernel_rfl
theorem k0j (n:Nat) : ∀a,(qlf n).F a=main Tryz.prog 70 (jm1 n) (ja8 n) jlo (q00 Tryz.f68) [.cell 4 26,.tmp 5] (qlf n).args (qlf n).res a:=by intro a;kernel_rfl
theorem k1u (n:Nat):q0h Inv Tryz.prog (qlf n):=fun G hG=>⟨⟨by kernel_rfl,fun a r h=>q05 (c:=q00 Tryz.f68) Tryz.func68 (by kernel_rfl) (by kernel_rfl) (Nat.le_of_ble_eq_true (by kernel_rfl)) hG.st (by kernel_rfl) (rs:=[.cell 4 26,.tmp 5]) (by kernel_rfl) (jq9 n hG) (lts:=ja8 n) (fun F hF hFG=>have hK:Know Inv F.G:=hFG ▸ hG;(q02 fun j L h1 h2 h3=>absurd h2 (Nat.not_lt.2 (Nat.le_trans (by decide +kernel) h1)))) k21 ((k0j n a).symm.trans h)⟩,rfl⟩
@[reducible] def qd1:SSt:=⟨[(0,.one (.c (.d .str))),(1,.one (.c (.d (.int .u8)))),(5,.one (.c (.row 31))),(6,.one (.c (.d (.int .i64)))),(7,.one (.c (.d (.int .i64))))],[],[(31,⟨9,true,.str⟩)]⟩
@[reducible] def q7f:List (Exit×SSt):=[(.exit 0,⟨[(5,.one (.c (.row 31)))],[],[(31,⟨9,true,.str⟩)]⟩)]
def qgy (n:Nat) (rec:(List UInt8)->Int->Int->Int->(List (List UInt8))->Option ((Unit×Unit)×Unit×((List (List UInt8))×Unit))) (a1:List UInt8) (a2:Int) (a3:Int) (a4:Int) (a5:List (List UInt8)):Option ((Unit×Unit)×Unit×((List (List UInt8))×Unit)) :=
 (bif decide (a4<=(a1.length:Int)) then (bif decide (a4=(a1.length:Int)) then (j2i a1 a3 a4).bind fun s1=>(ql1 16 a5 ([s1]:List (List UInt8))).bind fun l2=>q0f (IntKind.wrap .i64 (a4+1)) fun n3=>q0f (IntKind.wrap .i64 (a4+1)) fun n4=>rec a1 a2 n3 n4 l2 else (sAt a1 a4).bind fun c5=>(bif decide (c5=a2) then (j2i a1 a3 a4).bind fun s6=>(ql1 16 a5 ([s6]:List (List UInt8))).bind fun l7=>q0f (IntKind.wrap .i64 (a4+1)) fun n8=>q0f (IntKind.wrap .i64 (a4+1)) fun n9=>rec a1 a2 n8 n9 l7 else q0f (IntKind.wrap .i64 (a4+1)) fun n10=>rec a1 a2 a3 n10 a5)) else some ((((),()),((),(a5,())))))
def qpd (n:Nat) (rec:pSt qd1->Option (q06 q7f)) (p:pSt qd1):Option (q06 q7f):=qgy n (fun a1 a2 a3 a4 a5=>rec ((a1,(a2,((),(a3,(a4,()))))),((),(a5,())))) p.1.1 p.1.2.1 p.1.2.2.2.1 p.1.2.2.2.2.1 p.2.2.1
def q78 (n m:Nat) (a1:List UInt8) (a2:Int) (a3:Int) (a4:Int) (a5:List (List UInt8)):Option ((Unit×Unit)×Unit×((List (List UInt8))×Unit)):=q08 (qpd n) m ((a1,(a2,((),(a3,(a4,()))))),((),(a5,())))
theorem q9t (n m:Nat) (a1 a2 a3 a4 a5):q78 n (m+1) a1 a2 a3 a4 a5=qgy n (fun a1 a2 a3 a4 a5=>q78 n m a1 a2 a3 a4 a5) a1 a2 a3 a4 a5:=rfl
def j51 (n:Nat):LC:={ sh:=qd1,outs:=q7f,F:=q08 (qpd n) n }
def qkh (n:Nat):List LC:=[j51 n]
def q24 (n:Nat) (a1:List UInt8) (a2:Int):Option (List (List UInt8)) :=
 (q78 n n a1 a2 (0:Int) (0:Int) []).bind fun o11=>some o11.2.2.1
def q33 (n:Nat):FC:={ f:=62,args:=[.one (.c (.d .str)),.one (.c (.d (.int .u8)))],res:=.one (.c (.d (.lst .str))),F:=fun p=>q24 n p.1 p.2 }
def qq7 (n:Nat):List FC:=[]
theorem qs8 (n:Nat) {G:World->Prop} (hG:Know Inv G) : ∀c∈qq7 n,q0t Tryz.prog G c/\q0c c.args=true:=(fun _ h=>by cases h)
def qqq:q0b:=[]
theorem j4t:drB qqq (q00 Tryz.f62)=true:=by kernel_rfl
theorem jk0 (n:Nat) : ∀rec p,qpd n rec p=round Tryz.prog 35 (qq7 n) (qkh n) qqq 1 qd1 q7f (q01 0 0 (q00 Tryz.f62)) rec p:=by intro rec p;kernel_rfl
theorem jfd (n:Nat) {F:Fr} (hF:F.n=35) (hK:Know Inv F.G):q2h Tryz.prog F (j51 n) (q01 0 0 (q00 Tryz.f62)) :=
 q09 hF (by kernel_rfl) (qs8 n hK) (jk0 n) (fuel:=n) (fun _=>rfl) (q02 fun j L h1 h2 h3=>absurd h2 (Nat.not_lt.2 (Nat.le_trans (by decide +kernel) h1))) (q0g j4t)
theorem jpb (n:Nat) : ∀a,(q33 n).F a=main Tryz.prog 35 (qq7 n) (qkh n) qqq (q00 Tryz.f62) [.tmp 4] (q33 n).args (q33 n).res a:=by intro a;kernel_rfl
theorem qbe (n:Nat):q0h Inv Tryz.prog (q33 n):=fun G hG=>⟨⟨by kernel_rfl,fun a r h=>q05 (c:=q00 Tryz.f62) Tryz.func62 (by kernel_rfl) (by kernel_rfl) (Nat.le_of_ble_eq_true (by kernel_rfl)) hG.st (by kernel_rfl) (rs:=[.tmp 4]) (by kernel_rfl) (qs8 n hG) (lts:=qkh n) (fun F hF hFG=>have hK:Know Inv F.G:=hFG ▸ hG;(q02 (c:=(q00 Tryz.f62)) (fun j L h1 h2 h3=>by
  have h2':j<1:=Nat.lt_of_lt_of_le h2 (by decide +kernel)
  match j,h1,h2',h3 with
  | 0,_,_,h3=>obtain rfl:=Option.some.inj h3;exact (show q01 0 0 (q00 Tryz.f62)=q01 0 0 (q00 Tryz.f62) by kernel_rfl) ▸ jfd n hF hK
  | j+1,_,h2',_=>exact absurd h2' (by omega)))) j4t ((jpb n a).symm.trans h)⟩,rfl⟩
@[reducible] def qdy:SSt:=⟨[(0,.one (.c (.d .str))),(3,.one (.c (.d (.int .i64))))],[],[]⟩
@[reducible] def q7a:List (Exit×SSt):=[(.ret,⟨[(2,.one (.c (.d .bool)))],[],[]⟩),(.exit 0,⟨[(0,.one (.c (.d .str)))],[],[]⟩)]
def qpb (n:Nat) (rec:(List UInt8)->Int->Option (((Bool×Unit)×Unit×Unit)⊕(((List UInt8)×Unit)×Unit×Unit))) (a1:List UInt8) (a2:Int):Option (((Bool×Unit)×Unit×Unit)⊕(((List UInt8)×Unit)×Unit×Unit)) :=
 (bif decide (a2<(a1.length:Int)) then (sAt a1 a2).bind fun c1=>(bif decide (c1<48) then some (Sum.inl ((false,()),((),()))) else (sAt a1 a2).bind fun c2=>(bif decide (57<c2) then some (Sum.inl ((false,()),((),()))) else q0f (IntKind.wrap .i64 (a2+1)) fun n3=>rec a1 n3)) else some (Sum.inr (((a1,()),((),())))))
def qp5 (n:Nat) (rec:pSt qdy->Option (q06 q7a)) (p:pSt qdy):Option (q06 q7a):=qpb n (fun a1 a2=>rec ((a1,(a2,())),((),()))) p.1.1 p.1.2.1
def q7l (n m:Nat) (a1:List UInt8) (a2:Int):Option (((Bool×Unit)×Unit×Unit)⊕(((List UInt8)×Unit)×Unit×Unit)):=q08 (qp5 n) m ((a1,(a2,())),((),()))
theorem qll (n m:Nat) (a1 a2):q7l n (m+1) a1 a2=qpb n (fun a1 a2=>q7l n m a1 a2) a1 a2:=rfl
def j4p (n:Nat):LC:={ sh:=qdy,outs:=q7a,F:=q08 (qp5 n) n }
def qkz (n:Nat):List LC:=[j4p n]
def qbq (n:Nat) (a1:List UInt8):Option (Bool) :=
 (q7l n n a1 (0:Int)).bind fun o4=>Sum.elim (fun (q5:(Bool×Unit)×Unit×Unit)=>some q5.1.1) (fun (q6:((List UInt8)×Unit)×Unit×Unit)=>some (!decide (q6.1.1=([]:List UInt8)))) o4
def q7t (n:Nat):FC:={ f:=105,args:=[.one (.c (.d .str))],res:=.one (.c (.d .bool)),F:=fun p=>qbq n p }
def qqz (n:Nat):List FC:=[]
theorem qse (n:Nat) {G:World->Prop} (hG:Know Inv G) : ∀c∈qqz n,q0t Tryz.prog G c/\q0c c.args=true:=(fun _ h=>by cases h)
def qp3:q0b:=[]
theorem j4o:drB qp3 (q00 Tryz.f105)=true:=by kernel_rfl
theorem jhw (n:Nat) : ∀rec p,qp5 n rec p=round Tryz.prog 22 (qqz n) (qkz n) qp3 1 qdy q7a (q01 0 0 (q00 Tryz.f105)) rec p:=by intro rec p;kernel_rfl
theorem jab (n:Nat) {F:Fr} (hF:F.n=22) (hK:Know Inv F.G):q2h Tryz.prog F (j4p n) (q01 0 0 (q00 Tryz.f105)) :=
 q09 hF (by kernel_rfl) (qse n hK) (jhw n) (fuel:=n) (fun _=>rfl) (q02 fun j L h1 h2 h3=>absurd h2 (Nat.not_lt.2 (Nat.le_trans (by decide +kernel) h1))) (q0g j4o)
theorem jrh (n:Nat) : ∀a,(q7t n).F a=main Tryz.prog 22 (qqz n) (qkz n) qp3 (q00 Tryz.f105) [.tmp 2] (q7t n).args (q7t n).res a:=by intro a;kernel_rfl
theorem j3i (n:Nat):q0h Inv Tryz.prog (q7t n):=fun G hG=>⟨⟨by kernel_rfl,fun a r h=>q05 (c:=q00 Tryz.f105) Tryz.func105 (by kernel_rfl) (by kernel_rfl) (Nat.le_of_ble_eq_true (by kernel_rfl)) hG.st (by kernel_rfl) (rs:=[.tmp 2]) (by kernel_rfl) (qse n hG) (lts:=qkz n) (fun F hF hFG=>have hK:Know Inv F.G:=hFG ▸ hG;(q02 (c:=(q00 Tryz.f105)) (fun j L h1 h2 h3=>by
  have h2':j<1:=Nat.lt_of_lt_of_le h2 (by decide +kernel)
  match j,h1,h2',h3 with
  | 0,_,_,h3=>obtain rfl:=Option.some.inj h3;exact (show q01 0 0 (q00 Tryz.f105)=q01 0 0 (q00 Tryz.f105) by kernel_rfl) ▸ jab n hF hK
  | j+1,_,h2',_=>exact absurd h2' (by omega)))) j4o ((jrh n a).symm.trans h)⟩,rfl⟩
@[reducible] def qc7:SSt:=⟨[(1,.one (.c (.d .bool))),(5,.one (.c (.d (.lst .str)))),(6,.one (.c (.d (.int .i64)))),(7,.one (.c (.d (.int .i64))))],[],[]⟩
@[reducible] def q6x:List (Exit×SSt):=[(.ret,⟨[(4,.one (.c (.d .bool)))],[],[]⟩),(.exit 2,⟨[(1,.one (.c (.d .bool))),(5,.one (.c (.d (.lst .str)))),(6,.one (.c (.d (.int .i64))))],[],[]⟩)]
def qr2 (n:Nat) (rec:Bool->(List (List UInt8))->Int->Int->Option (((Bool×Unit)×Unit×Unit)⊕((Bool×((List (List UInt8))×(Int×Unit)))×Unit×Unit))) (a1:Bool) (a2:List (List UInt8)) (a3:Int) (a4:Int):Option (((Bool×Unit)×Unit×Unit)⊕((Bool×((List (List UInt8))×(Int×Unit)))×Unit×Unit)) :=
 (q0s a2 a3).bind fun x2=>(bif decide (a4<(x2.length:Int)) then (q0s a2 a3).bind fun x3=>(sAt x3 a4).bind fun c4=>(bif decide ((97:Int)<=c4) then (bif !(decide (c4<=(122:Int))) then (bif decide ((65:Int)<=c4) then (bif !(decide (c4<=(90:Int))) then (bif decide ((48:Int)<=c4) then (bif !(decide (c4<=(57:Int))) then (bif !decide (c4=(45:Int)) then some (Sum.inl ((false,()),((),()))) else q0f (IntKind.wrap .i64 (a4+(1:Int))) fun n5=>rec a1 a2 a3 n5) else q0f (IntKind.wrap .i64 (a4+(1:Int))) fun n6=>rec a1 a2 a3 n6) else (bif !decide (c4=(45:Int)) then some (Sum.inl ((false,()),((),()))) else q0f (IntKind.wrap .i64 (a4+(1:Int))) fun n7=>rec a1 a2 a3 n7)) else q0f (IntKind.wrap .i64 (a4+(1:Int))) fun n8=>rec a1 a2 a3 n8) else (bif decide ((48:Int)<=c4) then (bif !(decide (c4<=(57:Int))) then (bif !decide (c4=(45:Int)) then some (Sum.inl ((false,()),((),()))) else q0f (IntKind.wrap .i64 (a4+(1:Int))) fun n9=>rec a1 a2 a3 n9) else q0f (IntKind.wrap .i64 (a4+(1:Int))) fun n10=>rec a1 a2 a3 n10) else (bif !decide (c4=(45:Int)) then some (Sum.inl ((false,()),((),()))) else q0f (IntKind.wrap .i64 (a4+(1:Int))) fun n11=>rec a1 a2 a3 n11))) else q0f (IntKind.wrap .i64 (a4+(1:Int))) fun n12=>rec a1 a2 a3 n12) else (bif decide ((65:Int)<=c4) then (bif !(decide (c4<=(90:Int))) then (bif decide ((48:Int)<=c4) then (bif !(decide (c4<=(57:Int))) then (bif !decide (c4=(45:Int)) then some (Sum.inl ((false,()),((),()))) else q0f (IntKind.wrap .i64 (a4+(1:Int))) fun n13=>rec a1 a2 a3 n13) else q0f (IntKind.wrap .i64 (a4+(1:Int))) fun n14=>rec a1 a2 a3 n14) else (bif !decide (c4=(45:Int)) then some (Sum.inl ((false,()),((),()))) else q0f (IntKind.wrap .i64 (a4+(1:Int))) fun n15=>rec a1 a2 a3 n15)) else q0f (IntKind.wrap .i64 (a4+(1:Int))) fun n16=>rec a1 a2 a3 n16) else (bif decide ((48:Int)<=c4) then (bif !(decide (c4<=(57:Int))) then (bif !decide (c4=(45:Int)) then some (Sum.inl ((false,()),((),()))) else q0f (IntKind.wrap .i64 (a4+(1:Int))) fun n17=>rec a1 a2 a3 n17) else q0f (IntKind.wrap .i64 (a4+(1:Int))) fun n18=>rec a1 a2 a3 n18) else (bif !decide (c4=(45:Int)) then some (Sum.inl ((false,()),((),()))) else q0f (IntKind.wrap .i64 (a4+(1:Int))) fun n19=>rec a1 a2 a3 n19)))) else some (Sum.inr (((a1,(a2,(a3,()))),((),())))))
def qq4 (n:Nat) (rec:pSt qc7->Option (q06 q6x)) (p:pSt qc7):Option (q06 q6x):=qr2 n (fun a1 a2 a3 a4=>rec ((a1,(a2,(a3,(a4,())))),((),()))) p.1.1 p.1.2.1 p.1.2.2.1 p.1.2.2.2.1
def q7e (n m:Nat) (a1:Bool) (a2:List (List UInt8)) (a3:Int) (a4:Int):Option (((Bool×Unit)×Unit×Unit)⊕((Bool×((List (List UInt8))×(Int×Unit)))×Unit×Unit)):=q08 (qq4 n) m ((a1,(a2,(a3,(a4,())))),((),()))
theorem qlu (n m:Nat) (a1 a2 a3 a4):q7e n (m+1) a1 a2 a3 a4=qr2 n (fun a1 a2 a3 a4=>q7e n m a1 a2 a3 a4) a1 a2 a3 a4:=rfl
def j37 (n:Nat):LC:={ sh:=qc7,outs:=q6x,F:=q08 (qq4 n) n }
@[reducible] def qdx:SSt:=⟨[(1,.one (.c (.d .bool))),(5,.one (.c (.d (.lst .str)))),(6,.one (.c (.d (.int .i64))))],[],[]⟩
@[reducible] def q7j:List (Exit×SSt):=[(.ret,⟨[(4,.one (.c (.d .bool)))],[],[]⟩),(.exit 0,⟨[],[],[]⟩)]
def qox (n:Nat) (rec:Bool->(List (List UInt8))->Int->Option (((Bool×Unit)×Unit×Unit)⊕(Unit×Unit×Unit))) (a1:Bool) (a2:List (List UInt8)) (a3:Int):Option (((Bool×Unit)×Unit×Unit)⊕(Unit×Unit×Unit)) :=
 (bif decide (a3<(a2.length:Int)) then (q7e n n a1 a2 a3 (0:Int)).bind fun o20=>Sum.elim (fun (q21:(Bool×Unit)×Unit×Unit)=>some (Sum.inl ((q21.1.1,()),((),())))) (fun (q22:(Bool×((List (List UInt8))×(Int×Unit)))×Unit×Unit)=>(q0s q22.1.2.1 q22.1.2.2.1).bind fun x23=>(bif decide (x23=([]:List UInt8)) then some (Sum.inl ((false,()),((),()))) else (bif !q22.1.1 then (q0s q22.1.2.1 q22.1.2.2.1).bind fun x24=>(qbq n x24).bind fun r25=>(bif r25 then (q0s q22.1.2.1 q22.1.2.2.1).bind fun x26=>(bif decide (1<(x26.length:Int)) then (q0s q22.1.2.1 q22.1.2.2.1).bind fun x27=>(sAt x27 (0:Int)).bind fun c28=>(bif decide (c28=48) then some (Sum.inl ((false,()),((),()))) else q0f (IntKind.wrap .i64 (q22.1.2.2.1+1)) fun n29=>rec q22.1.1 q22.1.2.1 n29) else q0f (IntKind.wrap .i64 (q22.1.2.2.1+1)) fun n30=>rec q22.1.1 q22.1.2.1 n30) else q0f (IntKind.wrap .i64 (q22.1.2.2.1+1)) fun n31=>rec q22.1.1 q22.1.2.1 n31) else q0f (IntKind.wrap .i64 (q22.1.2.2.1+1)) fun n32=>rec q22.1.1 q22.1.2.1 n32))) o20 else some (Sum.inr (((),((),())))))
def qr8 (n:Nat) (rec:pSt qdx->Option (q06 q7j)) (p:pSt qdx):Option (q06 q7j):=qox n (fun a1 a2 a3=>rec ((a1,(a2,(a3,()))),((),()))) p.1.1 p.1.2.1 p.1.2.2.1
def q6w (n m:Nat) (a1:Bool) (a2:List (List UInt8)) (a3:Int):Option (((Bool×Unit)×Unit×Unit)⊕(Unit×Unit×Unit)):=q08 (qr8 n) m ((a1,(a2,(a3,()))),((),()))
theorem qme (n m:Nat) (a1 a2 a3):q6w n (m+1) a1 a2 a3=qox n (fun a1 a2 a3=>q6w n m a1 a2 a3) a1 a2 a3:=rfl
def j5l (n:Nat):LC:={ sh:=qdx,outs:=q7j,F:=q08 (qr8 n) n }
def qc4 (n:Nat):List LC:=[j5l n,j37 n]
def qb8 (n:Nat) (a1:List UInt8) (a2:Bool):Option (Bool) :=
 (q24 n a1 (46:Int)).bind fun r1=>(q6w n n a2 r1 (0:Int)).bind fun o33=>Sum.elim (fun (q34:(Bool×Unit)×Unit×Unit)=>some q34.1.1) (fun (q35:(Unit)×Unit×Unit)=>some true) o33
def qb2 (n:Nat):FC:={ f:=71,args:=[.one (.c (.d .str)),.one (.c (.d .bool))],res:=.one (.c (.d .bool)),F:=fun p=>qb8 n p.1 p.2 }
def qgb (n:Nat):List FC:=[q33 n,q7t n]
theorem qef (n:Nat) {G:World->Prop} (hG:Know Inv G) : ∀c∈qgb n,q0t Tryz.prog G c/\q0c c.args=true:=List.forall_mem_cons.2 ⟨qbe n G hG,List.forall_mem_cons.2 ⟨j3i n G hG,(fun _ h=>by cases h)⟩⟩
def qgl:q0b:=[]
theorem qpl:drB qgl (q00 Tryz.f71)=true:=by kernel_rfl
theorem jjr (n:Nat) : ∀rec p,qq4 n rec p=round Tryz.prog 93 (qgb n) (qc4 n) qgl 2 qc7 q6x (q01 0 1 (q00 Tryz.f71)) rec p:=by intro rec p;kernel_rfl
theorem jk6 (n:Nat) : ∀rec p,qr8 n rec p=round Tryz.prog 93 (qgb n) (qc4 n) qgl 1 qdx q7j (q01 0 0 (q00 Tryz.f71)) rec p:=by intro rec p;kernel_rfl
theorem qtf (n:Nat) {F:Fr} (hF:F.n=93) (hK:Know Inv F.G):q2h Tryz.prog F (j37 n) (q01 0 1 (q00 Tryz.f71)) :=
 q09 hF (by kernel_rfl) (qef n hK) (jjr n) (fuel:=n) (fun _=>rfl) (q02 fun j L h1 h2 h3=>absurd h2 (Nat.not_lt.2 (Nat.le_trans (by decide +kernel) h1))) (q0g qpl)
theorem jb5 (n:Nat) {F:Fr} (hF:F.n=93) (hK:Know Inv F.G):q2h Tryz.prog F (j5l n) (q01 0 0 (q00 Tryz.f71)) :=
 q09 hF (by kernel_rfl) (qef n hK) (jk6 n) (fuel:=n) (fun _=>rfl) (q02 (c:=(q01 0 0 (q00 Tryz.f71))) (fun j L h1 h2 h3=>by
  have h2':j<2:=Nat.lt_of_lt_of_le h2 (by decide +kernel)
  match j,h1,h2',h3 with
  | 0,h1,_,_=>exact absurd h1 (by decide)
  | 1,_,_,h3=>obtain rfl:=Option.some.inj h3;exact (show q01 0 1 (q00 Tryz.f71)=q01 1 1 (q01 0 0 (q00 Tryz.f71)) by kernel_rfl) ▸ qtf n hF hK
  | j+2,_,h2',_=>exact absurd h2' (by omega))) (q0g qpl)
theorem jqg (n:Nat) : ∀a,(qb2 n).F a=main Tryz.prog 93 (qgb n) (qc4 n) qgl (q00 Tryz.f71) [.tmp 4] (qb2 n).args (qb2 n).res a:=by intro a;kernel_rfl
theorem jsw (n:Nat):q0h Inv Tryz.prog (qb2 n):=fun G hG=>⟨⟨by kernel_rfl,fun a r h=>q05 (c:=q00 Tryz.f71) Tryz.func71 (by kernel_rfl) (by kernel_rfl) (Nat.le_of_ble_eq_true (by kernel_rfl)) hG.st (by kernel_rfl) (rs:=[.tmp 4]) (by kernel_rfl) (qef n hG) (lts:=qc4 n) (fun F hF hFG=>have hK:Know Inv F.G:=hFG ▸ hG;(q02 (c:=(q00 Tryz.f71)) (fun j L h1 h2 h3=>by
  have h2':j<2:=Nat.lt_of_lt_of_le h2 (by decide +kernel)
  match j,h1,h2',h3 with
  | 0,_,_,h3=>obtain rfl:=Option.some.inj h3;exact (show q01 0 0 (q00 Tryz.f71)=q01 0 0 (q00 Tryz.f71) by kernel_rfl) ▸ jb5 n hF hK
  | 1,_,_,h3=>obtain rfl:=Option.some.inj h3;exact (show q01 0 1 (q00 Tryz.f71)=q01 0 1 (q00 Tryz.f71) by kernel_rfl) ▸ qtf n hF hK
  | j+2,_,h2',_=>exact absurd h2' (by omega)))) qpl ((jqg n a).symm.trans h)⟩,rfl⟩
def jkt (n:Nat):List LC:=[]
def j5i (n:Nat) (a1:Int):Option (Bool) :=
 (bif decide (0<=a1) then some (decide (a1<=999999999)) else some false)
def qwl (n:Nat):FC:={ f:=70,args:=[.one (.c (.d (.int .i64)))],res:=.one (.c (.d .bool)),F:=fun p=>j5i n p }
def jwc (n:Nat):List FC:=[]
theorem jxg (n:Nat) {G:World->Prop} (hG:Know Inv G) : ∀c∈jwc n,q0t Tryz.prog G c/\q0c c.args=true:=(fun _ h=>by cases h)
def jw7:q0b:=[]
theorem k73:drB jw7 (q00 Tryz.f70)=true:=by kernel_rfl
theorem k70 (n:Nat) : ∀a,(qwl n).F a=main Tryz.prog 9 (jwc n) (jkt n) jw7 (q00 Tryz.f70) [.tmp 2] (qwl n).args (qwl n).res a:=by intro a;kernel_rfl
theorem k6n (n:Nat):q0h Inv Tryz.prog (qwl n):=fun G hG=>⟨⟨by kernel_rfl,fun a r h=>q05 (c:=q00 Tryz.f70) Tryz.func70 (by kernel_rfl) (by kernel_rfl) (Nat.le_of_ble_eq_true (by kernel_rfl)) hG.st (by kernel_rfl) (rs:=[.tmp 2]) (by kernel_rfl) (jxg n hG) (lts:=jkt n) (fun F hF hFG=>have hK:Know Inv F.G:=hFG ▸ hG;(q02 fun j L h1 h2 h3=>absurd h2 (Nat.not_lt.2 (Nat.le_trans (by decide +kernel) h1)))) k73 ((k70 n a).symm.trans h)⟩,rfl⟩
def j4a (n:Nat):List LC:=[]
def q2y (n:Nat) (a1:Int×(Int×(Int×((List UInt8)×List UInt8)))):Option (Bool) :=
 (j5i n a1.1).bind fun r1=>(bif !r1 then some false else (j5i n a1.2.1).bind fun r2=>(bif !r2 then some false else (j5i n a1.2.2.1).bind fun r3=>(bif !r3 then some false else (bif decide (30<(a1.2.2.2.1.length:Int)) then some false else (bif decide (30<(a1.2.2.2.2.length:Int)) then some false else (bif decide (a1.2.2.2.1=([]:List UInt8)) then (bif decide (a1.2.2.2.2=([]:List UInt8)) then some true else (qb8 n a1.2.2.2.2 true).bind fun r4=>some r4) else (qb8 n a1.2.2.2.1 false).bind fun r5=>(bif r5 then (bif decide (a1.2.2.2.2=([]:List UInt8)) then some true else (qb8 n a1.2.2.2.2 true).bind fun r6=>some r6) else some false)))))))
def q6c (n:Nat):FC:={ f:=33,args:=[.one (.agg [.d (.int .i64),.d (.int .i64),.d (.int .i64),.d .str,.d .str])],res:=.one (.c (.d .bool)),F:=fun p=>q2y n p }
def jf3 (n:Nat):List FC:=[qwl n,qb2 n]
theorem jk8 (n:Nat) {G:World->Prop} (hG:Know Inv G) : ∀c∈jf3 n,q0t Tryz.prog G c/\q0c c.args=true:=List.forall_mem_cons.2 ⟨k6n n G hG,List.forall_mem_cons.2 ⟨jsw n G hG,(fun _ h=>by cases h)⟩⟩
def jak:q0b:=[]
theorem jxe:drB jak (q00 Tryz.f33)=true:=by kernel_rfl
theorem jul (n:Nat) : ∀a,(q6c n).F a=main Tryz.prog 49 (jf3 n) (j4a n) jak (q00 Tryz.f33) [.tmp 2] (q6c n).args (q6c n).res a:=by intro a;kernel_rfl
theorem qnm (n:Nat):q0h Inv Tryz.prog (q6c n):=fun G hG=>⟨⟨by kernel_rfl,fun a r h=>q05 (c:=q00 Tryz.f33) Tryz.func33 (by kernel_rfl) (by kernel_rfl) (Nat.le_of_ble_eq_true (by kernel_rfl)) hG.st (by kernel_rfl) (rs:=[.tmp 2]) (by kernel_rfl) (jk8 n hG) (lts:=j4a n) (fun F hF hFG=>have hK:Know Inv F.G:=hFG ▸ hG;(q02 fun j L h1 h2 h3=>absurd h2 (Nat.not_lt.2 (Nat.le_trans (by decide +kernel) h1)))) jxe ((jul n a).symm.trans h)⟩,rfl⟩
def j4n (n:Nat):List LC:=[]
def q4k (n:Nat) (a1:Int) (a2:Int):Option (Int) :=
 (bif decide (a1<a2) then some (-1:Int) else (bif decide (a2<a1) then some (1:Int) else some (0:Int)))
def q82 (n:Nat):FC:={ f:=53,args:=[.one (.c (.d (.int .i64))),.one (.c (.d (.int .i64)))],res:=.one (.c (.d (.int .i64))),F:=fun p=>q4k n p.1 p.2 }
def jc7 (n:Nat):List FC:=[]
theorem ji2 (n:Nat) {G:World->Prop} (hG:Know Inv G) : ∀c∈jc7 n,q0t Tryz.prog G c/\q0c c.args=true:=(fun _ h=>by cases h)
def jaq:q0b:=[]
theorem jtk:drB jaq (q00 Tryz.f53)=true:=by kernel_rfl
theorem jxc (n:Nat) : ∀a,(q82 n).F a=main Tryz.prog 11 (jc7 n) (j4n n) jaq (q00 Tryz.f53) [.tmp 4] (q82 n).args (q82 n).res a:=by intro a;kernel_rfl
theorem qyo (n:Nat):q0h Inv Tryz.prog (q82 n):=fun G hG=>⟨⟨by kernel_rfl,fun a r h=>q05 (c:=q00 Tryz.f53) Tryz.func53 (by kernel_rfl) (by kernel_rfl) (Nat.le_of_ble_eq_true (by kernel_rfl)) hG.st (by kernel_rfl) (rs:=[.tmp 4]) (by kernel_rfl) (ji2 n hG) (lts:=j4n n) (fun F hF hFG=>have hK:Know Inv F.G:=hFG ▸ hG;(q02 fun j L h1 h2 h3=>absurd h2 (Nat.not_lt.2 (Nat.le_trans (by decide +kernel) h1)))) jtk ((jxc n a).symm.trans h)⟩,rfl⟩
def j2x (n:Nat):List LC:=[]
def qn5 (n:Nat) (a1:List UInt8) (a2:List UInt8):Option (Int) :=
 (qbq n a1).bind fun r1=>(qbq n a2).bind fun r2=>(bif r1 then (bif r2 then (bif !decide ((a1.length:Int)=(a2.length:Int)) then (q4k n (a1.length:Int) (a2.length:Int)).bind fun r3=>some r3 else (bif r1 then (bif !r2 then some (-1:Int) else (bif r2 then (bif !r1 then some (1:Int) else (bif ltS (a1) (a2) then some (-1:Int) else (bif !(ltS (a1) (a2)||decide (a1=a2)) then some (1:Int) else some (0:Int)))) else (bif ltS (a1) (a2) then some (-1:Int) else (bif !(ltS (a1) (a2)||decide (a1=a2)) then some (1:Int) else some (0:Int))))) else (bif r2 then (bif !r1 then some (1:Int) else (bif ltS (a1) (a2) then some (-1:Int) else (bif !(ltS (a1) (a2)||decide (a1=a2)) then some (1:Int) else some (0:Int)))) else (bif ltS (a1) (a2) then some (-1:Int) else (bif !(ltS (a1) (a2)||decide (a1=a2)) then some (1:Int) else some (0:Int)))))) else (bif r1 then (bif !r2 then some (-1:Int) else (bif r2 then (bif !r1 then some (1:Int) else (bif ltS (a1) (a2) then some (-1:Int) else (bif !(ltS (a1) (a2)||decide (a1=a2)) then some (1:Int) else some (0:Int)))) else (bif ltS (a1) (a2) then some (-1:Int) else (bif !(ltS (a1) (a2)||decide (a1=a2)) then some (1:Int) else some (0:Int))))) else (bif r2 then (bif !r1 then some (1:Int) else (bif ltS (a1) (a2) then some (-1:Int) else (bif !(ltS (a1) (a2)||decide (a1=a2)) then some (1:Int) else some (0:Int)))) else (bif ltS (a1) (a2) then some (-1:Int) else (bif !(ltS (a1) (a2)||decide (a1=a2)) then some (1:Int) else some (0:Int)))))) else (bif r1 then (bif !r2 then some (-1:Int) else (bif r2 then (bif !r1 then some (1:Int) else (bif ltS (a1) (a2) then some (-1:Int) else (bif !(ltS (a1) (a2)||decide (a1=a2)) then some (1:Int) else some (0:Int)))) else (bif ltS (a1) (a2) then some (-1:Int) else (bif !(ltS (a1) (a2)||decide (a1=a2)) then some (1:Int) else some (0:Int))))) else (bif r2 then (bif !r1 then some (1:Int) else (bif ltS (a1) (a2) then some (-1:Int) else (bif !(ltS (a1) (a2)||decide (a1=a2)) then some (1:Int) else some (0:Int)))) else (bif ltS (a1) (a2) then some (-1:Int) else (bif !(ltS (a1) (a2)||decide (a1=a2)) then some (1:Int) else some (0:Int))))))
def qf5 (n:Nat):FC:={ f:=88,args:=[.one (.c (.d .str)),.one (.c (.d .str))],res:=.one (.c (.d (.int .i64))),F:=fun p=>qn5 n p.1 p.2 }
def jf7 (n:Nat):List FC:=[q7t n,q82 n]
theorem jgs (n:Nat) {G:World->Prop} (hG:Know Inv G) : ∀c∈jf7 n,q0t Tryz.prog G c/\q0c c.args=true:=List.forall_mem_cons.2 ⟨j3i n G hG,List.forall_mem_cons.2 ⟨qyo n G hG,(fun _ h=>by cases h)⟩⟩
def jey:q0b:=[]
theorem jtz:drB jey (q00 Tryz.f88)=true:=by kernel_rfl
theorem jts (n:Nat) : ∀a,(qf5 n).F a=main Tryz.prog 43 (jf7 n) (j2x n) jey (q00 Tryz.f88) [.tmp 4] (qf5 n).args (qf5 n).res a:=by intro a;kernel_rfl
theorem jyb (n:Nat):q0h Inv Tryz.prog (qf5 n):=fun G hG=>⟨⟨by kernel_rfl,fun a r h=>q05 (c:=q00 Tryz.f88) Tryz.func88 (by kernel_rfl) (by kernel_rfl) (Nat.le_of_ble_eq_true (by kernel_rfl)) hG.st (by kernel_rfl) (rs:=[.tmp 4]) (by kernel_rfl) (jgs n hG) (lts:=j2x n) (fun F hF hFG=>have hK:Know Inv F.G:=hFG ▸ hG;(q02 fun j L h1 h2 h3=>absurd h2 (Nat.not_lt.2 (Nat.le_trans (by decide +kernel) h1)))) jtz ((jts n a).symm.trans h)⟩,rfl⟩
def jok (n:Nat):List LC:=[]
def j5b (n:Nat) (a1:Bool):Option (Int) :=
 (bif a1 then some (1:Int) else some (0:Int))
def qzh (n:Nat):FC:={ f:=87,args:=[.one (.c (.d .bool))],res:=.one (.c (.d (.int .i64))),F:=fun p=>j5b n p }
def jxu (n:Nat):List FC:=[]
theorem jz1 (n:Nat) {G:World->Prop} (hG:Know Inv G) : ∀c∈jxu n,q0t Tryz.prog G c/\q0c c.args=true:=(fun _ h=>by cases h)
def jx6:q0b:=[]
theorem k5t:drB jx6 (q00 Tryz.f87)=true:=by kernel_rfl
theorem k68 (n:Nat) : ∀a,(qzh n).F a=main Tryz.prog 4 (jxu n) (jok n) jx6 (q00 Tryz.f87) [.tmp 2] (qzh n).args (qzh n).res a:=by intro a;kernel_rfl
theorem k7n (n:Nat):q0h Inv Tryz.prog (qzh n):=fun G hG=>⟨⟨by kernel_rfl,fun a r h=>q05 (c:=q00 Tryz.f87) Tryz.func87 (by kernel_rfl) (by kernel_rfl) (Nat.le_of_ble_eq_true (by kernel_rfl)) hG.st (by kernel_rfl) (rs:=[.tmp 2]) (by kernel_rfl) (jz1 n hG) (lts:=jok n) (fun F hF hFG=>have hK:Know Inv F.G:=hFG ▸ hG;(q02 fun j L h1 h2 h3=>absurd h2 (Nat.not_lt.2 (Nat.le_trans (by decide +kernel) h1)))) k5t ((k68 n a).symm.trans h)⟩,rfl⟩
@[reducible] def qur:SSt:=⟨[(5,.one (.c (.d (.lst .str)))),(6,.one (.c (.d (.lst .str)))),(7,.one (.c (.d (.int .i64))))],[],[]⟩
@[reducible] def qhe:List (Exit×SSt):=[(.ret,⟨[(4,.one (.c (.d (.int .i64))))],[],[]⟩),(.exit 0,⟨[(5,.one (.c (.d (.lst .str)))),(6,.one (.c (.d (.lst .str))))],[],[]⟩)]
def jk3 (n:Nat) (rec:(List (List UInt8))->(List (List UInt8))->Int->Option (((Int×Unit)×Unit×Unit)⊕(((List (List UInt8))×((List (List UInt8))×Unit))×Unit×Unit))) (a1:List (List UInt8)) (a2:List (List UInt8)) (a3:Int):Option (((Int×Unit)×Unit×Unit)⊕(((List (List UInt8))×((List (List UInt8))×Unit))×Unit×Unit)) :=
 (bif decide (a3<(a1.length:Int)) then (bif decide (a3<(a2.length:Int)) then (q0s a1 a3).bind fun x9=>(q0s a2 a3).bind fun x10=>(qn5 n x9 x10).bind fun r11=>(bif !decide (r11=0) then (q0s a1 a3).bind fun x12=>(q0s a2 a3).bind fun x13=>(qn5 n x12 x13).bind fun r14=>some (Sum.inl ((r14,()),((),()))) else q0f (IntKind.wrap .i64 (a3+1)) fun n15=>rec a1 a2 n15) else some (Sum.inr (((a1,(a2,())),((),()))))) else some (Sum.inr (((a1,(a2,())),((),())))))
def jjq (n:Nat) (rec:pSt qur->Option (q06 qhe)) (p:pSt qur):Option (q06 qhe):=jk3 n (fun a1 a2 a3=>rec ((a1,(a2,(a3,()))),((),()))) p.1.1 p.1.2.1 p.1.2.2.1
def qhn (n m:Nat) (a1:List (List UInt8)) (a2:List (List UInt8)) (a3:Int):Option (((Int×Unit)×Unit×Unit)⊕(((List (List UInt8))×((List (List UInt8))×Unit))×Unit×Unit)):=q08 (jjq n) m ((a1,(a2,(a3,()))),((),()))
theorem qw3 (n m:Nat) (a1 a2 a3):qhn n (m+1) a1 a2 a3=jk3 n (fun a1 a2 a3=>qhn n m a1 a2 a3) a1 a2 a3:=rfl
def jvh (n:Nat):LC:={ sh:=qur,outs:=qhe,F:=q08 (jjq n) n }
def j8y (n:Nat):List LC:=[jvh n]
def jlp (n:Nat) (a1:List UInt8) (a2:List UInt8):Option (Int) :=
 (bif decide (a1=([]:List UInt8)) then (j5b n (decide (a1=([]:List UInt8)))).bind fun r1=>(j5b n (decide (a2=([]:List UInt8)))).bind fun r2=>(q4k n r1 r2).bind fun r3=>some r3 else (bif decide (a2=([]:List UInt8)) then (j5b n (decide (a1=([]:List UInt8)))).bind fun r4=>(j5b n (decide (a2=([]:List UInt8)))).bind fun r5=>(q4k n r4 r5).bind fun r6=>some r6 else (q24 n a1 (46:Int)).bind fun r7=>(q24 n a2 (46:Int)).bind fun r8=>(qhn n n r7 r8 (0:Int)).bind fun o16=>Sum.elim (fun (q17:(Int×Unit)×Unit×Unit)=>some q17.1.1) (fun (q18:((List (List UInt8))×((List (List UInt8))×Unit))×Unit×Unit)=>(q4k n (q18.1.1.length:Int) (q18.1.2.1.length:Int)).bind fun r19=>some r19) o16))
def j04 (n:Nat):FC:={ f:=54,args:=[.one (.c (.d .str)),.one (.c (.d .str))],res:=.one (.c (.d (.int .i64))),F:=fun p=>jlp n p.1 p.2 }
def jjt (n:Nat):List FC:=[qzh n,q82 n,q33 n,qf5 n]
theorem jdy (n:Nat) {G:World->Prop} (hG:Know Inv G) : ∀c∈jjt n,q0t Tryz.prog G c/\q0c c.args=true:=List.forall_mem_cons.2 ⟨k7n n G hG,List.forall_mem_cons.2 ⟨qyo n G hG,List.forall_mem_cons.2 ⟨qbe n G hG,List.forall_mem_cons.2 ⟨jyb n G hG,(fun _ h=>by cases h)⟩⟩⟩⟩
def jg5:q0b:=[(8,[⟨15576890575604482885591488987693056,2^111,0⟩,⟨59421121885698253195157962753*2^21,2^114,0⟩,⟨393*2^111,2^117,3⟩,⟨49*2^117,2^120,7⟩,⟨63802943797675961899382738893456801792,2^123,0⟩,⟨243388915243820045087367015432193*2^21,2^126,0⟩,⟨393*2^123,2^129,48⟩,⟨49*2^129,2^132,112⟩,⟨200705*2^120,2^135,255⟩,⟨49*2^135,2^138,511⟩]),(1000008,[]),(9,[⟨16725558898897967356151788704486271129518080,2^141,0⟩,⟨63802943797675961899382738893456539649*2^21,2^144,0⟩,⟨393*2^141,2^147,3⟩,⟨49*2^147,2^150,7⟩,⟨68507889249886074290797726533575766546372100096,2^153,0⟩,⟨261336857795280739939871698507597986398209*2^21,2^156,0⟩,⟨393*2^153,2^159,48⟩,⟨49*2^159,2^162,112⟩,⟨200705*2^150,2^165,255⟩,⟨46768052394588893382517914646921056628989841399808,4096,511⟩]),(1000009,[])]
theorem jys:drB jg5 (q00 Tryz.f54)=true:=by kernel_rfl
theorem k1y (n:Nat) : ∀rec p,jjq n rec p=round Tryz.prog 61 (jjt n) (j8y n) jg5 1 qur qhe (q01 0 0 (q00 Tryz.f54)) rec p:=by intro rec p;kernel_rfl
theorem jw8 (n:Nat) {F:Fr} (hF:F.n=61) (hK:Know Inv F.G):q2h Tryz.prog F (jvh n) (q01 0 0 (q00 Tryz.f54)) :=
 q09 hF (by kernel_rfl) (jdy n hK) (k1y n) (fuel:=n) (fun _=>rfl) (q02 fun j L h1 h2 h3=>absurd h2 (Nat.not_lt.2 (Nat.le_trans (by decide +kernel) h1))) (q0g jys)
theorem k7u (n:Nat) : ∀a,(j04 n).F a=main Tryz.prog 61 (jjt n) (j8y n) jg5 (q00 Tryz.f54) [.tmp 4] (j04 n).args (j04 n).res a:=by intro a;kernel_rfl
theorem k56 (n:Nat):q0h Inv Tryz.prog (j04 n):=fun G hG=>⟨⟨by kernel_rfl,fun a r h=>q05 (c:=q00 Tryz.f54) Tryz.func54 (by kernel_rfl) (by kernel_rfl) (Nat.le_of_ble_eq_true (by kernel_rfl)) hG.st (by kernel_rfl) (rs:=[.tmp 4]) (by kernel_rfl) (jdy n hG) (lts:=j8y n) (fun F hF hFG=>have hK:Know Inv F.G:=hFG ▸ hG;(q02 (c:=(q00 Tryz.f54)) (fun j L h1 h2 h3=>by
  have h2':j<1:=Nat.lt_of_lt_of_le h2 (by decide +kernel)
  match j,h1,h2',h3 with
  | 0,_,_,h3=>obtain rfl:=Option.some.inj h3;exact (show q01 0 0 (q00 Tryz.f54)=q01 0 0 (q00 Tryz.f54) by kernel_rfl) ▸ jw8 n hF hK
  | j+1,_,h2',_=>exact absurd h2' (by omega)))) jys ((k7u n a).symm.trans h)⟩,rfl⟩
def qth (n:Nat):List LC:=[]
def q2b (n:Nat) (a1:Int×(Int×(Int×((List UInt8)×List UInt8)))) (a2:Int×(Int×(Int×((List UInt8)×List UInt8)))):Option (Int) :=
 (q2y n a1).bind fun r1=>(bif !r1 then some (0:Int) else (q2y n a2).bind fun r2=>(bif !r2 then some (0:Int) else (bif !decide (a1.1=a2.1) then (q4k n a1.1 a2.1).bind fun r3=>some r3 else (bif !decide (a1.2.1=a2.2.1) then (q4k n a1.2.1 a2.2.1).bind fun r4=>some r4 else (bif !decide (a1.2.2.1=a2.2.2.1) then (q4k n a1.2.2.1 a2.2.2.1).bind fun r5=>some r5 else (jlp n a1.2.2.2.1 a2.2.2.2.1).bind fun r6=>some r6)))))
def q4t (n:Nat):FC:={ f:=26,args:=[.one (.agg [.d (.int .i64),.d (.int .i64),.d (.int .i64),.d .str,.d .str]),.one (.agg [.d (.int .i64),.d (.int .i64),.d (.int .i64),.d .str,.d .str])],res:=.one (.c (.d (.int .i64))),F:=fun p=>q2b n p.1 p.2 }
def qx5 (n:Nat):List FC:=[q6c n,q82 n,j04 n]
theorem j8o (n:Nat) {G:World->Prop} (hG:Know Inv G) : ∀c∈qx5 n,q0t Tryz.prog G c/\q0c c.args=true:=List.forall_mem_cons.2 ⟨qnm n G hG,List.forall_mem_cons.2 ⟨qyo n G hG,List.forall_mem_cons.2 ⟨k56 n G hG,(fun _ h=>by cases h)⟩⟩⟩
def j03:q0b:=[]
theorem ji1:drB j03 (q00 Tryz.f26)=true:=by kernel_rfl
theorem jg7 (n:Nat) : ∀a,(q4t n).F a=main Tryz.prog 48 (qx5 n) (qth n) j03 (q00 Tryz.f26) [.tmp 4] (q4t n).args (q4t n).res a:=by intro a;kernel_rfl
theorem qw2 (n:Nat):q0h Inv Tryz.prog (q4t n):=fun G hG=>⟨⟨by kernel_rfl,fun a r h=>q05 (c:=q00 Tryz.f26) Tryz.func26 (by kernel_rfl) (by kernel_rfl) (Nat.le_of_ble_eq_true (by kernel_rfl)) hG.st (by kernel_rfl) (rs:=[.tmp 4]) (by kernel_rfl) (j8o n hG) (lts:=qth n) (fun F hF hFG=>have hK:Know Inv F.G:=hFG ▸ hG;(q02 fun j L h1 h2 h3=>absurd h2 (Nat.not_lt.2 (Nat.le_trans (by decide +kernel) h1)))) ji1 ((jg7 n a).symm.trans h)⟩,rfl⟩
@[reducible] def qmv:SSt:=⟨[(1,.one (.c (.d (.int .i64)))),(2,.one (.c (.box 2 0))),(4,.one (.c (.box 4 0))),(6,.one (.c (.row 46))),(7,.one (.c (.d (.int .i64))))],[(2,(26,[.d (.int .i64),.d (.int .i64),.d (.int .i64),.d .str,.d .str])),(4,(26,[.d (.int .i64),.d (.int .i64),.d (.int .i64),.d .str,.d .str]))],[(46,⟨26,true,(.prod (.int .i64) (.prod (.int .i64) (.prod (.int .i64) (.prod .str .str))))⟩)]⟩
@[reducible] def qd8:List (Exit×SSt):=[(.ret,⟨[(4,.one (.c (.box 4 0))),(5,.one (.c (.d (.int .i64))))],[(4,(26,[.d (.int .i64),.d (.int .i64),.d (.int .i64),.d .str,.d .str]))],[]⟩),(.exit 0,⟨[(4,.one (.c (.box 4 0)))],[(4,(26,[.d (.int .i64),.d (.int .i64),.d (.int .i64),.d .str,.d .str]))],[]⟩)]
def quw (n:Nat) (rec:Int->Int->Int->Int->Int->(List UInt8)->(List UInt8)->Int->Int->Int->(List UInt8)->(List UInt8)->(List ((Int)×((Int)×((Int)×(List UInt8×List UInt8)))))->Option (((Unit×(Int×Unit))×((Int×(Int×(Int×((List UInt8)×List UInt8))))×Unit)×Unit)⊕((Unit×Unit)×((Int×(Int×(Int×((List UInt8)×List UInt8))))×Unit)×Unit))) (a1:Int) (a2:Int) (a3:Int) (a4:Int) (a5:Int) (a6:List UInt8) (a7:List UInt8) (a8:Int) (a9:Int) (a10:Int) (a11:List UInt8) (a12:List UInt8) (a13:List ((Int)×((Int)×((Int)×(List UInt8×List UInt8))))):Option (((Unit×(Int×Unit))×((Int×(Int×(Int×((List UInt8)×List UInt8))))×Unit)×Unit)⊕((Unit×Unit)×((Int×(Int×(Int×((List UInt8)×List UInt8))))×Unit)×Unit)) :=
 (bif decide (a2<(a13.length:Int)) then (q0s a13 a2).bind fun _x5=>(nth a13 (Int.toNat a2)).bind fun (x6:(Int)×((Int)×((Int)×(List UInt8×List UInt8))))=>(bif decide (2<=a1) then (bif !decide (x6.2.2.1=0) then q0f (IntKind.wrap .i64 (a2+1)) fun n7=>rec a1 n7 a3 a4 a5 a6 a7 a8 a9 a10 a11 a12 a13 else (bif decide (a1=3) then (bif !decide (x6.2.1=0) then q0f (IntKind.wrap .i64 (a2+1)) fun n8=>rec a1 n8 a3 a4 a5 a6 a7 a8 a9 a10 a11 a12 a13 else (q2y n x6).bind fun r9=>(bif !r9 then q0f (IntKind.wrap .i64 (a2+1)) fun n10=>rec a1 n10 a3 a4 a5 a6 a7 a8 a9 a10 a11 a12 a13 else (q2b n x6 (a3,(a4,(a5,(a6,a7))))).bind fun r11=>(bif decide (0<r11) then some (Sum.inl (((),((0:Int),())),((x6,()),()))) else q0f (IntKind.wrap .i64 (a2+1)) fun n12=>rec a1 n12 a3 a4 a5 a6 a7 a8 a9 a10 a11 a12 a13))) else (q2y n x6).bind fun r13=>(bif !r13 then q0f (IntKind.wrap .i64 (a2+1)) fun n14=>rec a1 n14 a3 a4 a5 a6 a7 a8 a9 a10 a11 a12 a13 else (q2b n x6 (a3,(a4,(a5,(a6,a7))))).bind fun r15=>(bif decide (0<r15) then some (Sum.inl (((),((0:Int),())),((x6,()),()))) else q0f (IntKind.wrap .i64 (a2+1)) fun n16=>rec a1 n16 a3 a4 a5 a6 a7 a8 a9 a10 a11 a12 a13)))) else (bif decide (a1=3) then (bif !decide (x6.2.1=0) then q0f (IntKind.wrap .i64 (a2+1)) fun n17=>rec a1 n17 a3 a4 a5 a6 a7 a8 a9 a10 a11 a12 a13 else (q2y n x6).bind fun r18=>(bif !r18 then q0f (IntKind.wrap .i64 (a2+1)) fun n19=>rec a1 n19 a3 a4 a5 a6 a7 a8 a9 a10 a11 a12 a13 else (q2b n x6 (a3,(a4,(a5,(a6,a7))))).bind fun r20=>(bif decide (0<r20) then some (Sum.inl (((),((0:Int),())),((x6,()),()))) else q0f (IntKind.wrap .i64 (a2+1)) fun n21=>rec a1 n21 a3 a4 a5 a6 a7 a8 a9 a10 a11 a12 a13))) else (q2y n x6).bind fun r22=>(bif !r22 then q0f (IntKind.wrap .i64 (a2+1)) fun n23=>rec a1 n23 a3 a4 a5 a6 a7 a8 a9 a10 a11 a12 a13 else (q2b n x6 (a3,(a4,(a5,(a6,a7))))).bind fun r24=>(bif decide (0<r24) then some (Sum.inl (((),((0:Int),())),((x6,()),()))) else q0f (IntKind.wrap .i64 (a2+1)) fun n25=>rec a1 n25 a3 a4 a5 a6 a7 a8 a9 a10 a11 a12 a13)))) else some (Sum.inr ((((),()),(((a8,(a9,(a10,(a11,a12)))),()),())))))
def j8z (n:Nat) (rec:pSt qmv->Option (q06 qd8)) (p:pSt qmv):Option (q06 qd8):=quw n (fun a1 a2 a3 a4 a5 a6 a7 a8 a9 a10 a11 a12 a13=>rec ((a1,((),((),((),(a2,()))))),(((a3,(a4,(a5,(a6,a7)))),((a8,(a9,(a10,(a11,a12)))),())),(a13,())))) p.1.1 p.1.2.2.2.2.1 p.2.1.1.1 p.2.1.1.2.1 p.2.1.1.2.2.1 p.2.1.1.2.2.2.1 p.2.1.1.2.2.2.2 p.2.1.2.1.1 p.2.1.2.1.2.1 p.2.1.2.1.2.2.1 p.2.1.2.1.2.2.2.1 p.2.1.2.1.2.2.2.2 p.2.2.1
def q4v (n m:Nat) (a1:Int) (a2:Int) (a3:Int) (a4:Int) (a5:Int) (a6:List UInt8) (a7:List UInt8) (a8:Int) (a9:Int) (a10:Int) (a11:List UInt8) (a12:List UInt8) (a13:List ((Int)×((Int)×((Int)×(List UInt8×List UInt8))))):Option (((Unit×(Int×Unit))×((Int×(Int×(Int×((List UInt8)×List UInt8))))×Unit)×Unit)⊕((Unit×Unit)×((Int×(Int×(Int×((List UInt8)×List UInt8))))×Unit)×Unit)):=q08 (j8z n) m ((a1,((),((),((),(a2,()))))),(((a3,(a4,(a5,(a6,a7)))),((a8,(a9,(a10,(a11,a12)))),())),(a13,())))
theorem qe5 (n m:Nat) (a1 a2 a3 a4 a5 a6 a7 a8 a9 a10 a11 a12 a13):q4v n (m+1) a1 a2 a3 a4 a5 a6 a7 a8 a9 a10 a11 a12 a13=quw n (fun a1 a2 a3 a4 a5 a6 a7 a8 a9 a10 a11 a12 a13=>q4v n m a1 a2 a3 a4 a5 a6 a7 a8 a9 a10 a11 a12 a13) a1 a2 a3 a4 a5 a6 a7 a8 a9 a10 a11 a12 a13:=rfl
def jo6 (n:Nat):LC:={ sh:=qmv,outs:=qd8,F:=q08 (j8z n) n }
def qz7 (n:Nat):List LC:=[jo6 n]
def qvz (n:Nat) (a1:Int×(Int×(Int×((List UInt8)×List UInt8)))) (a2:Int):Option ((Int×(Int×(Int×((List UInt8)×List UInt8))))×(Int)) :=
 (q2y n a1).bind fun r1=>(bif !r1 then some (((0:Int),((0:Int),((0:Int),(([]:List UInt8),([]:List UInt8))))),(1:Int)) else (bif decide (a2<1) then some (((0:Int),((0:Int),((0:Int),(([]:List UInt8),([]:List UInt8))))),(1:Int)) else (bif decide (3<a2) then some (((0:Int),((0:Int),((0:Int),(([]:List UInt8),([]:List UInt8))))),(1:Int)) else q0f (IntKind.wrap .i64 (a1.2.2.1+1)) fun n2=>q0f (IntKind.wrap .i64 (a1.2.1+1)) fun n3=>q0f (IntKind.wrap .i64 (a1.1+1)) fun n4=>(q4v n n a2 (0:Int) a1.1 a1.2.1 a1.2.2.1 a1.2.2.2.1 a1.2.2.2.2 (0:Int) (0:Int) (0:Int) ([]:List UInt8) ([]:List UInt8) ([(a1.1,(a1.2.1,(a1.2.2.1,(([]:List UInt8),([]:List UInt8))))),(a1.1,(a1.2.1,(n2,(([]:List UInt8),([]:List UInt8))))),(a1.1,(n3,((0:Int),(([]:List UInt8),([]:List UInt8))))),(n4,((0:Int),((0:Int),(([]:List UInt8),([]:List UInt8)))))]:List ((Int)×((Int)×((Int)×(List UInt8×List UInt8)))))).bind fun o26=>Sum.elim (fun (q27:(Unit×(Int×Unit))×((Int×(Int×(Int×((List UInt8)×List UInt8))))×Unit)×Unit)=>some (q27.2.1.1,q27.1.2.1)) (fun (q28:(Unit×Unit)×((Int×(Int×(Int×((List UInt8)×List UInt8))))×Unit)×Unit)=>some (((0:Int),((0:Int),((0:Int),(([]:List UInt8),([]:List UInt8))))),(15:Int))) o26)))
def qoc (n:Nat):FC:={ f:=34,args:=[.one (.agg [.d (.int .i64),.d (.int .i64),.d (.int .i64),.d .str,.d .str]),.one (.c (.d (.int .i64)))],res:=.tup [.agg [.d (.int .i64),.d (.int .i64),.d (.int .i64),.d .str,.d .str],.c (.d (.int .i64))],F:=fun p=>qvz n p.1 p.2 }
def j9g (n:Nat):List FC:=[q6c n,q4t n]
theorem j3a (n:Nat) {G:World->Prop} (hG:Know Inv G) : ∀c∈j9g n,q0t Tryz.prog G c/\q0c c.args=true:=List.forall_mem_cons.2 ⟨qnm n G hG,List.forall_mem_cons.2 ⟨qw2 n G hG,(fun _ h=>by cases h)⟩⟩
def j8p:q0b:=[]
theorem jla:drB j8p (q00 Tryz.f34)=true:=by kernel_rfl
theorem jtv (n:Nat) : ∀rec p,j8z n rec p=round Tryz.prog 84 (j9g n) (qz7 n) j8p 1 qmv qd8 (q01 0 0 (q00 Tryz.f34)) rec p:=by intro rec p;kernel_rfl
theorem jqi (n:Nat) {F:Fr} (hF:F.n=84) (hK:Know Inv F.G):q2h Tryz.prog F (jo6 n) (q01 0 0 (q00 Tryz.f34)) :=
 q09 hF (by kernel_rfl) (j3a n hK) (jtv n) (fuel:=n) (fun _=>rfl) (q02 fun j L h1 h2 h3=>absurd h2 (Nat.not_lt.2 (Nat.le_trans (by decide +kernel) h1))) (q0g jla)
theorem k3v (n:Nat) : ∀a,(qoc n).F a=main Tryz.prog 84 (j9g n) (qz7 n) j8p (q00 Tryz.f34) [.cell 4 26,.tmp 5] (qoc n).args (qoc n).res a:=by intro a;kernel_rfl
theorem k2r (n:Nat):q0h Inv Tryz.prog (qoc n):=fun G hG=>⟨⟨by kernel_rfl,fun a r h=>q05 (c:=q00 Tryz.f34) Tryz.func34 (by kernel_rfl) (by kernel_rfl) (Nat.le_of_ble_eq_true (by kernel_rfl)) hG.st (by kernel_rfl) (rs:=[.cell 4 26,.tmp 5]) (by kernel_rfl) (j3a n hG) (lts:=qz7 n) (fun F hF hFG=>have hK:Know Inv F.G:=hFG ▸ hG;(q02 (c:=(q00 Tryz.f34)) (fun j L h1 h2 h3=>by
  have h2':j<1:=Nat.lt_of_lt_of_le h2 (by decide +kernel)
  match j,h1,h2',h3 with
  | 0,_,_,h3=>obtain rfl:=Option.some.inj h3;exact (show q01 0 0 (q00 Tryz.f34)=q01 0 0 (q00 Tryz.f34) by kernel_rfl) ▸ jqi n hF hK
  | j+1,_,h2',_=>exact absurd h2' (by omega)))) jla ((k3v n a).symm.trans h)⟩,rfl⟩
end Go.Proofs.YtggoebaobojmjaaGreatDoor.AM
