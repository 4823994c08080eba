
import Derived.Test.YtggoebaobojmjaaGreatDoorBq14
namespace Go.Proofs.YtggoebaobojmjaaGreatDoor.AM
open Go.RowKit
set_option linter.unusedVariables false
set_option maxRecDepth 20000
@[reducible] def qa5:SSt:=⟨[(0,.one (.c (.d (.lst (.prod .str (.prod .str (.lst (.prod .str (.prod (.int .i64) (.prod (.int .i64) (.prod (.int .i64) (.prod .str .str)))))))))))),(4,.one (.c (.d (.int .i64)))),(5,.one (.c (.d (.int .i64))))],[],[]⟩
@[reducible] def q5g:List (Exit×SSt):=[(.ret,⟨[(2,.one (.c (.d (.int .i64))))],[],[]⟩),(.exit 4,⟨[(0,.one (.c (.d (.lst (.prod .str (.prod .str (.lst (.prod .str (.prod (.int .i64) (.prod (.int .i64) (.prod (.int .i64) (.prod .str .str)))))))))))),(4,.one (.c (.d (.int .i64))))],[],[]⟩)]
def qk6 (n:Nat) (rec:(List (List UInt8×(List UInt8×(List (List UInt8×((Int)×((Int)×((Int)×(List UInt8×List UInt8)))))))))->Int->Int->Option (((Int×Unit)×Unit×Unit)⊕(((List (List UInt8×(List UInt8×(List (List UInt8×((Int)×((Int)×((Int)×(List UInt8×List UInt8)))))))))×(Int×Unit))×Unit×Unit))) (a1:List (List UInt8×(List UInt8×(List (List UInt8×((Int)×((Int)×((Int)×(List UInt8×List UInt8))))))))) (a2:Int) (a3:Int):Option (((Int×Unit)×Unit×Unit)⊕(((List (List UInt8×(List UInt8×(List (List UInt8×((Int)×((Int)×((Int)×(List UInt8×List UInt8)))))))))×(Int×Unit))×Unit×Unit)) :=
 (bif decide (a3<a2) then (q0s a1 a3).bind fun x7=>(q0s a1 a2).bind fun x8=>(bif decide (x7.2.1=x8.2.1) then some (Sum.inl (((11:Int),()),((),()))) else q0f (IntKind.wrap .i64 (a3+1)) fun n9=>rec a1 a2 n9) else some (Sum.inr (((a1,(a2,())),((),())))))
def qkc (n:Nat) (rec:pSt qa5->Option (q06 q5g)) (p:pSt qa5):Option (q06 q5g):=qk6 n (fun a1 a2 a3=>rec ((a1,(a2,(a3,()))),((),()))) p.1.1 p.1.2.1 p.1.2.2.1
def q5s (n m:Nat) (a1:List (List UInt8×(List UInt8×(List (List UInt8×((Int)×((Int)×((Int)×(List UInt8×List UInt8))))))))) (a2:Int) (a3:Int):Option (((Int×Unit)×Unit×Unit)⊕(((List (List UInt8×(List UInt8×(List (List UInt8×((Int)×((Int)×((Int)×(List UInt8×List UInt8)))))))))×(Int×Unit))×Unit×Unit)):=q08 (qkc n) m ((a1,(a2,(a3,()))),((),()))
theorem qiv (n m:Nat) (a1 a2 a3):q5s n (m+1) a1 a2 a3=qk6 n (fun a1 a2 a3=>q5s n m a1 a2 a3) a1 a2 a3:=rfl
def qx7 (n:Nat):LC:={ sh:=qa5,outs:=q5g,F:=q08 (qkc n) n }
@[reducible] def q9e:SSt:=⟨[(0,.one (.c (.d (.lst (.prod .str (.prod .str (.lst (.prod .str (.prod (.int .i64) (.prod (.int .i64) (.prod (.int .i64) (.prod .str .str)))))))))))),(4,.one (.c (.d (.int .i64))))],[],[]⟩
@[reducible] def q52:List (Exit×SSt):=[(.ret,⟨[(2,.one (.c (.d (.int .i64))))],[],[]⟩),(.exit 2,⟨[],[],[]⟩)]
def qis (n:Nat) (rec:(List (List UInt8×(List UInt8×(List (List UInt8×((Int)×((Int)×((Int)×(List UInt8×List UInt8)))))))))->Int->Option (((Int×Unit)×Unit×Unit)⊕(Unit×Unit×Unit))) (a1:List (List UInt8×(List UInt8×(List (List UInt8×((Int)×((Int)×((Int)×(List UInt8×List UInt8))))))))) (a2:Int):Option (((Int×Unit)×Unit×Unit)⊕(Unit×Unit×Unit)) :=
 (bif decide (a2<(a1.length:Int)) then (q5s n n a1 a2 (0:Int)).bind fun o10=>Sum.elim (fun (q11:(Int×Unit)×Unit×Unit)=>some (Sum.inl ((q11.1.1,()),((),())))) (fun (q12:((List (List UInt8×(List UInt8×(List (List UInt8×((Int)×((Int)×((Int)×(List UInt8×List UInt8)))))))))×(Int×Unit))×Unit×Unit)=>q0f (IntKind.wrap .i64 (q12.1.2.1+1)) fun n13=>rec q12.1.1 n13) o10 else some (Sum.inr (((),((),())))))
def qk4 (n:Nat) (rec:pSt q9e->Option (q06 q52)) (p:pSt q9e):Option (q06 q52):=qis n (fun a1 a2=>rec ((a1,(a2,())),((),()))) p.1.1 p.1.2.1
def q1m (n m:Nat) (a1:List (List UInt8×(List UInt8×(List (List UInt8×((Int)×((Int)×((Int)×(List UInt8×List UInt8))))))))) (a2:Int):Option (((Int×Unit)×Unit×Unit)⊕(Unit×Unit×Unit)):=q08 (qk4 n) m ((a1,(a2,())),((),()))
theorem qjk (n m:Nat) (a1 a2):q1m n (m+1) a1 a2=qis n (fun a1 a2=>q1m n m a1 a2) a1 a2:=rfl
def qyp (n:Nat):LC:={ sh:=q9e,outs:=q52,F:=q08 (qk4 n) n }
@[reducible] def q9b:SSt:=⟨[(0,.one (.c (.d (.lst (.prod .str (.prod .str (.lst (.prod .str (.prod (.int .i64) (.prod (.int .i64) (.prod (.int .i64) (.prod .str .str)))))))))))),(3,.one (.c (.d (.int .i64))))],[],[]⟩
@[reducible] def q5n:List (Exit×SSt):=[(.ret,⟨[(2,.one (.c (.d (.int .i64))))],[],[]⟩),(.exit 0,⟨[(0,.one (.c (.d (.lst (.prod .str (.prod .str (.lst (.prod .str (.prod (.int .i64) (.prod (.int .i64) (.prod (.int .i64) (.prod .str .str))))))))))))],[],[]⟩)]
def qj9 (n:Nat) (rec:(List (List UInt8×(List UInt8×(List (List UInt8×((Int)×((Int)×((Int)×(List UInt8×List UInt8)))))))))->Int->Option (((Int×Unit)×Unit×Unit)⊕(((List (List UInt8×(List UInt8×(List (List UInt8×((Int)×((Int)×((Int)×(List UInt8×List UInt8)))))))))×Unit)×Unit×Unit))) (a1:List (List UInt8×(List UInt8×(List (List UInt8×((Int)×((Int)×((Int)×(List UInt8×List UInt8))))))))) (a2:Int):Option (((Int×Unit)×Unit×Unit)⊕(((List (List UInt8×(List UInt8×(List (List UInt8×((Int)×((Int)×((Int)×(List UInt8×List UInt8)))))))))×Unit)×Unit×Unit)) :=
 (bif decide (a2<(a1.length:Int)) then (q0s a1 a2).bind fun x1=>(qfn n x1.2.1).bind fun r2=>(bif !r2 then some (Sum.inl (((6:Int),()),((),()))) else q0f (IntKind.wrap .i64 (a2+1)) fun n3=>rec a1 n3) else some (Sum.inr (((a1,()),((),())))))
def qkv (n:Nat) (rec:pSt q9b->Option (q06 q5n)) (p:pSt q9b):Option (q06 q5n):=qj9 n (fun a1 a2=>rec ((a1,(a2,())),((),()))) p.1.1 p.1.2.1
def q3e (n m:Nat) (a1:List (List UInt8×(List UInt8×(List (List UInt8×((Int)×((Int)×((Int)×(List UInt8×List UInt8))))))))) (a2:Int):Option (((Int×Unit)×Unit×Unit)⊕(((List (List UInt8×(List UInt8×(List (List UInt8×((Int)×((Int)×((Int)×(List UInt8×List UInt8)))))))))×Unit)×Unit×Unit)):=q08 (qkv n) m ((a1,(a2,())),((),()))
theorem qki (n m:Nat) (a1 a2):q3e n (m+1) a1 a2=qj9 n (fun a1 a2=>q3e n m a1 a2) a1 a2:=rfl
def qx3 (n:Nat):LC:={ sh:=q9b,outs:=q5n,F:=q08 (qkv n) n }
def q68 (n:Nat):List LC:=[qx3 n,qyp n,qx7 n]
def q4p (n:Nat) (a1:List (List UInt8×(List UInt8×(List (List UInt8×((Int)×((Int)×((Int)×(List UInt8×List UInt8))))))))):Option (Int) :=
 (bif decide (12<(a1.length:Int)) then some (1:Int) else (q3e n n a1 (0:Int)).bind fun o4=>Sum.elim (fun (q5:(Int×Unit)×Unit×Unit)=>some q5.1.1) (fun (q6:((List (List UInt8×(List UInt8×(List (List UInt8×((Int)×((Int)×((Int)×(List UInt8×List UInt8)))))))))×Unit)×Unit×Unit)=>(q1m n n q6.1.1 (0:Int)).bind fun o14=>Sum.elim (fun (q15:(Int×Unit)×Unit×Unit)=>some q15.1.1) (fun (q16:(Unit)×Unit×Unit)=>some (0:Int)) o14) o4)
def q2o (n:Nat):FC:={ f:=51,args:=[.one (.c (.d (.lst (.prod .str (.prod .str (.lst (.prod .str (.prod (.int .i64) (.prod (.int .i64) (.prod (.int .i64) (.prod .str .str)))))))))))],res:=.one (.c (.d (.int .i64))),F:=fun p=>q4p n p }
def q8b (n:Nat):List FC:=[q7r n]
theorem q7k (n:Nat) {G:World->Prop} (hG:Know Inv G) : ∀c∈q8b n,q0t Tryz.prog G c/\q0c c.args=true:=List.forall_mem_cons.2 ⟨j3e n G hG,(fun _ h=>by cases h)⟩
def q8g:q0b:=[(14,[⟨3802951800684688204490109616129,2^99,0⟩,⟨30423614405477505635920876961792,2^102,0⟩,⟨393*2^99,2^105,3⟩,⟨49*2^105,2^108,7⟩,⟨49*2^108,2^111,15⟩,⟨124615124604835863084731911901282305,2^114,0⟩,⟨996920996838686904677855295210262528,2^117,0⟩,⟨393*2^114,2^120,96⟩,⟨49*2^120,2^123,224⟩,⟨49*2^123,2^126,480⟩,⟨1605633*2^111,2^129,1023⟩])]
theorem qc9:drB q8g (q00 Tryz.f51)=true:=by kernel_rfl
theorem jfp (n:Nat) : ∀rec p,qkc n rec p=round Tryz.prog 44 (q8b n) (q68 n) q8g 3 qa5 q5g (q01 0 2 (q00 Tryz.f51)) rec p:=by intro rec p;kernel_rfl
theorem ja6 (n:Nat) : ∀rec p,qk4 n rec p=round Tryz.prog 44 (q8b n) (q68 n) q8g 2 q9e q52 (q01 0 1 (q00 Tryz.f51)) rec p:=by intro rec p;kernel_rfl
theorem jam (n:Nat) : ∀rec p,qkv n rec p=round Tryz.prog 44 (q8b n) (q68 n) q8g 1 q9b q5n (q01 0 0 (q00 Tryz.f51)) rec p:=by intro rec p;kernel_rfl
theorem qlx (n:Nat) {F:Fr} (hF:F.n=44) (hK:Know Inv F.G):q2h Tryz.prog F (qx7 n) (q01 0 2 (q00 Tryz.f51)) :=
 q09 hF (by kernel_rfl) (q7k n hK) (jfp n) (fuel:=n) (fun _=>rfl) (q02 fun j L h1 h2 h3=>absurd h2 (Nat.not_lt.2 (Nat.le_trans (by decide +kernel) h1))) (q0g qc9)
theorem j6x (n:Nat) {F:Fr} (hF:F.n=44) (hK:Know Inv F.G):q2h Tryz.prog F (qyp n) (q01 0 1 (q00 Tryz.f51)) :=
 q09 hF (by kernel_rfl) (q7k n hK) (ja6 n) (fuel:=n) (fun _=>rfl) (q02 (c:=(q01 0 1 (q00 Tryz.f51))) (fun j L h1 h2 h3=>by
  have h2':j<3:=Nat.lt_of_lt_of_le h2 (by decide +kernel)
  match j,h1,h2',h3 with
  | 0,h1,_,_=>exact absurd h1 (by decide)
  | 1,h1,_,_=>exact absurd h1 (by decide)
  | 2,_,_,h3=>obtain rfl:=Option.some.inj h3;exact (show q01 0 2 (q00 Tryz.f51)=q01 2 2 (q01 0 1 (q00 Tryz.f51)) by kernel_rfl) ▸ qlx n hF hK
  | j+3,_,h2',_=>exact absurd h2' (by omega))) (q0g qc9)
theorem j92 (n:Nat) {F:Fr} (hF:F.n=44) (hK:Know Inv F.G):q2h Tryz.prog F (qx3 n) (q01 0 0 (q00 Tryz.f51)) :=
 q09 hF (by kernel_rfl) (q7k n hK) (jam n) (fuel:=n) (fun _=>rfl) (q02 fun j L h1 h2 h3=>absurd h2 (Nat.not_lt.2 (Nat.le_trans (by decide +kernel) h1))) (q0g qc9)
theorem jh0 (n:Nat) : ∀a,(q2o n).F a=main Tryz.prog 44 (q8b n) (q68 n) q8g (q00 Tryz.f51) [.tmp 2] (q2o n).args (q2o n).res a:=by intro a;kernel_rfl
theorem qdc (n:Nat):q0h Inv Tryz.prog (q2o n):=fun G hG=>⟨⟨by kernel_rfl,fun a r h=>q05 (c:=q00 Tryz.f51) Tryz.func51 (by kernel_rfl) (by kernel_rfl) (Nat.le_of_ble_eq_true (by kernel_rfl)) hG.st (by kernel_rfl) (rs:=[.tmp 2]) (by kernel_rfl) (q7k n hG) (lts:=q68 n) (fun F hF hFG=>have hK:Know Inv F.G:=hFG ▸ hG;(q02 (c:=(q00 Tryz.f51)) (fun j L h1 h2 h3=>by
  have h2':j<3:=Nat.lt_of_lt_of_le h2 (by decide +kernel)
  match j,h1,h2',h3 with
  | 0,_,_,h3=>obtain rfl:=Option.some.inj h3;exact (show q01 0 0 (q00 Tryz.f51)=q01 0 0 (q00 Tryz.f51) by kernel_rfl) ▸ j92 n hF hK
  | 1,_,_,h3=>obtain rfl:=Option.some.inj h3;exact (show q01 0 1 (q00 Tryz.f51)=q01 0 1 (q00 Tryz.f51) by kernel_rfl) ▸ j6x n hF hK
  | 2,_,_,h3=>obtain rfl:=Option.some.inj h3;exact (show q01 0 2 (q00 Tryz.f51)=q01 0 2 (q00 Tryz.f51) by kernel_rfl) ▸ qlx n hF hK
  | j+3,_,h2',_=>exact absurd h2' (by omega)))) qc9 ((jh0 n a).symm.trans h)⟩,rfl⟩
@[reducible] def qgs:SSt:=⟨[(1,.one (.c (.d .str))),(2,.one (.c (.box 2 0))),(5,.one (.c (.d (.int .i64))))],[(2,(63,[.d .str,.d .str,.d (.lst (.prod .str (.prod (.int .i64) (.prod (.int .i64) (.prod (.int .i64) (.prod .str .str))))))]))],[]⟩
@[reducible] def q9c:List (Exit×SSt):=[(.ret,⟨[(4,.one (.c (.d .bool)))],[],[]⟩),(.exit 0,⟨[],[],[]⟩)]
def qwk (n:Nat) (rec:(List UInt8)->Int->(List UInt8)->(List UInt8)->(List (List UInt8×((Int)×((Int)×((Int)×(List UInt8×List UInt8))))))->Option (((Bool×Unit)×Unit×Unit)⊕(Unit×Unit×Unit))) (a1:List UInt8) (a2:Int) (a3:List UInt8) (a4:List UInt8) (a5:List (List UInt8×((Int)×((Int)×((Int)×(List UInt8×List UInt8)))))):Option (((Bool×Unit)×Unit×Unit)⊕(Unit×Unit×Unit)) :=
 (bif decide (a2<(a5.length:Int)) then (q0s a5 a2).bind fun x1=>(bif decide (x1.1=a1) then some (Sum.inl ((true,()),((),()))) else q0f (IntKind.wrap .i64 (a2+1)) fun n2=>rec a1 n2 a3 a4 a5) else some (Sum.inr (((),((),())))))
def j10 (n:Nat) (rec:pSt qgs->Option (q06 q9c)) (p:pSt qgs):Option (q06 q9c):=qwk n (fun a1 a2 a3 a4 a5=>rec ((a1,((),(a2,()))),(((a3,(a4,a5)),()),()))) p.1.1 p.1.2.2.1 p.2.1.1.1 p.2.1.1.2.1 p.2.1.1.2.2
def q65 (n m:Nat) (a1:List UInt8) (a2:Int) (a3:List UInt8) (a4:List UInt8) (a5:List (List UInt8×((Int)×((Int)×((Int)×(List UInt8×List UInt8)))))):Option (((Bool×Unit)×Unit×Unit)⊕(Unit×Unit×Unit)):=q08 (j10 n) m ((a1,((),(a2,()))),(((a3,(a4,a5)),()),()))
theorem qrz (n m:Nat) (a1 a2 a3 a4 a5):q65 n (m+1) a1 a2 a3 a4 a5=qwk n (fun a1 a2 a3 a4 a5=>q65 n m a1 a2 a3 a4 a5) a1 a2 a3 a4 a5:=rfl
def jf0 (n:Nat):LC:={ sh:=qgs,outs:=q9c,F:=q08 (j10 n) n }
def qry (n:Nat):List LC:=[jf0 n]
def qoj (n:Nat) (a1:(List UInt8)×((List UInt8)×(List (List UInt8×((Int)×((Int)×((Int)×(List UInt8×List UInt8)))))))) (a2:List UInt8):Option (Bool) :=
 (q65 n n a2 (0:Int) a1.1 a1.2.1 a1.2.2).bind fun o3=>Sum.elim (fun (q4:(Bool×Unit)×Unit×Unit)=>some q4.1.1) (fun (q5:(Unit)×Unit×Unit)=>some false) o3
def qb3 (n:Nat):FC:={ f:=52,args:=[.one (.agg [.d .str,.d .str,.d (.lst (.prod .str (.prod (.int .i64) (.prod (.int .i64) (.prod (.int .i64) (.prod .str .str))))))]),.one (.c (.d .str))],res:=.one (.c (.d .bool)),F:=fun p=>qoj n p.1 p.2 }
def qwv (n:Nat):List FC:=[]
theorem j0k (n:Nat) {G:World->Prop} (hG:Know Inv G) : ∀c∈qwv n,q0t Tryz.prog G c/\q0c c.args=true:=(fun _ h=>by cases h)
def j0d:q0b:=[]
theorem jdk:drB j0d (q00 Tryz.f52)=true:=by kernel_rfl
theorem jp8 (n:Nat) : ∀rec p,j10 n rec p=round Tryz.prog 21 (qwv n) (qry n) j0d 1 qgs q9c (q01 0 0 (q00 Tryz.f52)) rec p:=by intro rec p;kernel_rfl
theorem jjd (n:Nat) {F:Fr} (hF:F.n=21) (hK:Know Inv F.G):q2h Tryz.prog F (jf0 n) (q01 0 0 (q00 Tryz.f52)) :=
 q09 hF (by kernel_rfl) (j0k n hK) (jp8 n) (fuel:=n) (fun _=>rfl) (q02 fun j L h1 h2 h3=>absurd h2 (Nat.not_lt.2 (Nat.le_trans (by decide +kernel) h1))) (q0g jdk)
theorem jyt (n:Nat) : ∀a,(qb3 n).F a=main Tryz.prog 21 (qwv n) (qry n) j0d (q00 Tryz.f52) [.tmp 4] (qb3 n).args (qb3 n).res a:=by intro a;kernel_rfl
theorem jdm (n:Nat):q0h Inv Tryz.prog (qb3 n):=fun G hG=>⟨⟨by kernel_rfl,fun a r h=>q05 (c:=q00 Tryz.f52) Tryz.func52 (by kernel_rfl) (by kernel_rfl) (Nat.le_of_ble_eq_true (by kernel_rfl)) hG.st (by kernel_rfl) (rs:=[.tmp 4]) (by kernel_rfl) (j0k n hG) (lts:=qry n) (fun F hF hFG=>have hK:Know Inv F.G:=hFG ▸ hG;(q02 (c:=(q00 Tryz.f52)) (fun j L h1 h2 h3=>by
  have h2':j<1:=Nat.lt_of_lt_of_le h2 (by decide +kernel)
  match j,h1,h2',h3 with
  | 0,_,_,h3=>obtain rfl:=Option.some.inj h3;exact (show q01 0 0 (q00 Tryz.f52)=q01 0 0 (q00 Tryz.f52) by kernel_rfl) ▸ jjd n hF hK
  | j+1,_,h2',_=>exact absurd h2' (by omega)))) jdk ((jyt n a).symm.trans h)⟩,rfl⟩
@[reducible] def q9k:SSt:=⟨[(0,.one (.c (.d (.lst (.prod .str (.prod .str (.lst (.prod .str (.prod (.int .i64) (.prod (.int .i64) (.prod (.int .i64) (.prod .str .str)))))))))))),(1,.one (.c (.d (.int .i64)))),(5,.one (.c (.row 40))),(6,.one (.c (.d (.int .i64))))],[],[(40,⟨3,false,(.int .i64)⟩)]⟩
@[reducible] def q5f:List (Exit×SSt):=[(.exit 0,⟨[(5,.one (.c (.row 40)))],[],[(40,⟨3,false,(.int .i64)⟩)]⟩)]
def qk8 (n:Nat) (rec:(List (List UInt8×(List UInt8×(List (List UInt8×((Int)×((Int)×((Int)×(List UInt8×List UInt8)))))))))->Int->Int->(List (Int))->Option ((Unit×Unit)×Unit×((List (Int))×Unit))) (a1:List (List UInt8×(List UInt8×(List (List UInt8×((Int)×((Int)×((Int)×(List UInt8×List UInt8))))))))) (a2:Int) (a3:Int) (a4:List (Int)):Option ((Unit×Unit)×Unit×((List (Int))×Unit)) :=
 (bif decide (a3<(a1.length:Int)) then (q0s a1 a2).bind fun x2=>(q0s a1 a3).bind fun x3=>(qoj n x2 x3.2.1).bind fun r4=>(bif r4 then (ql1 8 a4 ([a3]:List (Int))).bind fun l5=>q0f (IntKind.wrap .i64 (a3+1)) fun n6=>rec a1 a2 n6 l5 else q0f (IntKind.wrap .i64 (a3+1)) fun n7=>rec a1 a2 n7 a4) else some ((((),()),((),(a4,())))))
def qir (n:Nat) (rec:pSt q9k->Option (q06 q5f)) (p:pSt q9k):Option (q06 q5f):=qk8 n (fun a1 a2 a3 a4=>rec ((a1,(a2,((),(a3,())))),((),(a4,())))) p.1.1 p.1.2.1 p.1.2.2.2.1 p.2.2.1
def q29 (n m:Nat) (a1:List (List UInt8×(List UInt8×(List (List UInt8×((Int)×((Int)×((Int)×(List UInt8×List UInt8))))))))) (a2:Int) (a3:Int) (a4:List (Int)):Option ((Unit×Unit)×Unit×((List (Int))×Unit)):=q08 (qir n) m ((a1,(a2,((),(a3,())))),((),(a4,())))
theorem qje (n m:Nat) (a1 a2 a3 a4):q29 n (m+1) a1 a2 a3 a4=qk8 n (fun a1 a2 a3 a4=>q29 n m a1 a2 a3 a4) a1 a2 a3 a4:=rfl
def qzb (n:Nat):LC:={ sh:=q9k,outs:=q5f,F:=q08 (qir n) n }
def qft (n:Nat):List LC:=[qzb n]
def qhj (n:Nat) (a1:List (List UInt8×(List UInt8×(List (List UInt8×((Int)×((Int)×((Int)×(List UInt8×List UInt8))))))))) (a2:Int):Option (List (Int)) :=
 (q4p n a1).bind fun r1=>(bif !decide (r1=0) then some [] else (bif decide (a2<0) then some [] else (bif decide ((a1.length:Int)<=a2) then some [] else (q29 n n a1 a2 (0:Int) []).bind fun o8=>some o8.2.2.1)))
def q8p (n:Nat):FC:={ f:=24,args:=[.one (.c (.d (.lst (.prod .str (.prod .str (.lst (.prod .str (.prod (.int .i64) (.prod (.int .i64) (.prod (.int .i64) (.prod .str .str))))))))))),.one (.c (.d (.int .i64)))],res:=.one (.c (.d (.lst (.int .i64)))),F:=fun p=>qhj n p.1 p.2 }
def qjy (n:Nat):List FC:=[q2o n,qb3 n]
theorem qnl (n:Nat) {G:World->Prop} (hG:Know Inv G) : ∀c∈qjy n,q0t Tryz.prog G c/\q0c c.args=true:=List.forall_mem_cons.2 ⟨qdc n G hG,List.forall_mem_cons.2 ⟨jdm n G hG,(fun _ h=>by cases h)⟩⟩
def qke:q0b:=[(7,[⟨14507109835375550096474113,2^81,0⟩,⟨116056878683004400771792904,2^84,0⟩,⟨393*2^81,2^87,3⟩,⟨49*2^87,2^90,7⟩,⟨59421121885698253195157962753,2^93,0⟩,⟨475368975085586025561263964160,2^96,0⟩,⟨393*2^93,2^99,48⟩,⟨49*2^99,2^102,112⟩,⟨49*2^102,2^105,240⟩,⟨1605633*2^90,2^108,511⟩])]
theorem j09:drB qke (q00 Tryz.f24)=true:=by kernel_rfl
theorem jeu (n:Nat) : ∀rec p,qir n rec p=round Tryz.prog 42 (qjy n) (qft n) qke 1 q9k q5f (q01 0 0 (q00 Tryz.f24)) rec p:=by intro rec p;kernel_rfl
theorem j93 (n:Nat) {F:Fr} (hF:F.n=42) (hK:Know Inv F.G):q2h Tryz.prog F (qzb n) (q01 0 0 (q00 Tryz.f24)) :=
 q09 hF (by kernel_rfl) (qnl n hK) (jeu n) (fuel:=n) (fun _=>rfl) (q02 fun j L h1 h2 h3=>absurd h2 (Nat.not_lt.2 (Nat.le_trans (by decide +kernel) h1))) (q0g j09)
theorem jii (n:Nat) : ∀a,(q8p n).F a=main Tryz.prog 42 (qjy n) (qft n) qke (q00 Tryz.f24) [.tmp 4] (q8p n).args (q8p n).res a:=by intro a;kernel_rfl
theorem ji8 (n:Nat):q0h Inv Tryz.prog (q8p n):=fun G hG=>⟨⟨by kernel_rfl,fun a r h=>q05 (c:=q00 Tryz.f24) Tryz.func24 (by kernel_rfl) (by kernel_rfl) (Nat.le_of_ble_eq_true (by kernel_rfl)) hG.st (by kernel_rfl) (rs:=[.tmp 4]) (by kernel_rfl) (qnl n hG) (lts:=qft n) (fun F hF hFG=>have hK:Know Inv F.G:=hFG ▸ hG;(q02 (c:=(q00 Tryz.f24)) (fun j L h1 h2 h3=>by
  have h2':j<1:=Nat.lt_of_lt_of_le h2 (by decide +kernel)
  match j,h1,h2',h3 with
  | 0,_,_,h3=>obtain rfl:=Option.some.inj h3;exact (show q01 0 0 (q00 Tryz.f24)=q01 0 0 (q00 Tryz.f24) by kernel_rfl) ▸ j93 n hF hK
  | j+1,_,h2',_=>exact absurd h2' (by omega)))) j09 ((jii n a).symm.trans h)⟩,rfl⟩
@[reducible] def qdr:SSt:=⟨[(0,.one (.c (.d (.lst (.prod .str (.prod .str (.lst (.prod .str (.prod (.int .i64) (.prod (.int .i64) (.prod (.int .i64) (.prod .str .str)))))))))))),(1,.one (.c (.d (.int .i64)))),(5,.one (.c (.row 40))),(6,.one (.c (.d (.int .i64))))],[],[(40,⟨3,true,(.int .i64)⟩)]⟩
@[reducible] def q76:List (Exit×SSt):=[(.exit 0,⟨[(5,.one (.c (.row 40)))],[],[(40,⟨3,true,(.int .i64)⟩)]⟩)]
def jpn (n:Nat) (rec:(List (List UInt8×(List UInt8×(List (List UInt8×((Int)×((Int)×((Int)×(List UInt8×List UInt8)))))))))->Int->Int->(List (Int))->Option ((Unit×Unit)×Unit×((List (Int))×Unit))) (a1:List (List UInt8×(List UInt8×(List (List UInt8×((Int)×((Int)×((Int)×(List UInt8×List UInt8))))))))) (a2:Int) (a3:Int) (a4:List (Int)):Option ((Unit×Unit)×Unit×((List (Int))×Unit)) :=
 (bif decide (a3<(a1.length:Int)) then (q0s a1 a2).bind fun x2=>(q0s a1 a3).bind fun x3=>(qoj n x2 x3.2.1).bind fun r4=>(bif r4 then (ql1 8 a4 ([a3]:List (Int))).bind fun l5=>q0f (IntKind.wrap .i64 (a3+1)) fun n6=>rec a1 a2 n6 l5 else q0f (IntKind.wrap .i64 (a3+1)) fun n7=>rec a1 a2 n7 a4) else some ((((),()),((),(a4,())))))
def qos (n:Nat) (rec:pSt qdr->Option (q06 q76)) (p:pSt qdr):Option (q06 q76):=jpn n (fun a1 a2 a3 a4=>rec ((a1,(a2,((),(a3,())))),((),(a4,())))) p.1.1 p.1.2.1 p.1.2.2.2.1 p.2.2.1
def qlo (n m:Nat) (a1:List (List UInt8×(List UInt8×(List (List UInt8×((Int)×((Int)×((Int)×(List UInt8×List UInt8))))))))) (a2:Int) (a3:Int) (a4:List (Int)):Option ((Unit×Unit)×Unit×((List (Int))×Unit)):=q08 (qos n) m ((a1,(a2,((),(a3,())))),((),(a4,())))
def j4g (n:Nat):LC:={ sh:=qdr,outs:=q76,F:=q08 (qos n) n }
def qkm (n:Nat):List LC:=[j4g n]
def qf0 (n:Nat) (a1:List (List UInt8×(List UInt8×(List (List UInt8×((Int)×((Int)×((Int)×(List UInt8×List UInt8))))))))) (a2:Int):Option (Unit×Unit×((List (Int))×Unit)) :=
 (q4p n a1).bind fun r1=>(bif !decide (r1=0) then some ((),((),([],()))) else (bif decide (a2<0) then some ((),((),([],()))) else (bif decide ((a1.length:Int)<=a2) then some ((),((),([],()))) else (qlo n n a1 a2 (0:Int) []).bind fun o8=>some ((),((),(o8.2.2.1,()))))))
def q1p (n:Nat):FX:={ f:=24,args:=[.one (.c (.d (.lst (.prod .str (.prod .str (.lst (.prod .str (.prod (.int .i64) (.prod (.int .i64) (.prod (.int .i64) (.prod .str .str))))))))))),.one (.c (.d (.int .i64)))],boxes:=[],rows:=[],res:=.one (.c (.row 40)),oboxes:=[],orows:=[(40,⟨3,true,(.int .i64)⟩)],F:=fun p=>qf0 n p.1.1 p.1.2 }
def qra (n:Nat):List FC:=[q2o n,qb3 n]
theorem qsz (n:Nat) {G:World->Prop} (hG:Know Inv G) : ∀c∈qra n,q0t Tryz.prog G c/\q0c c.args=true:=List.forall_mem_cons.2 ⟨qdc n G hG,List.forall_mem_cons.2 ⟨jdm n G hG,(fun _ h=>by cases h)⟩⟩
def qqc:q0b:=[(7,[⟨14507109835375550096474113,2^81,0⟩,⟨116056878683004400771792904,2^84,0⟩,⟨393*2^81,2^87,3⟩,⟨49*2^87,2^90,7⟩,⟨59421121885698253195157962753,2^93,0⟩,⟨475368975085586025561263964160,2^96,0⟩,⟨393*2^93,2^99,48⟩,⟨49*2^99,2^102,112⟩,⟨49*2^102,2^105,240⟩,⟨1605633*2^90,2^108,511⟩]),(1000007,[])]
theorem j5c:drB qqc (q00 Tryz.f24)=true:=by kernel_rfl
theorem jhr (n:Nat) : ∀rec p,qos n rec p=round Tryz.prog 42 (qra n) (qkm n) qqc 1 qdr q76 (q01 0 0 (q00 Tryz.f24)) rec p:=by intro rec p;kernel_rfl
theorem jfj (n:Nat) {F:Fr} (hF:F.n=42) (hK:Know Inv F.G):q2h Tryz.prog F (j4g n) (q01 0 0 (q00 Tryz.f24)) :=
 q09 hF (by kernel_rfl) (qsz n hK) (jhr n) (fuel:=n) (fun _=>rfl) (q02 fun j L h1 h2 h3=>absurd h2 (Nat.not_lt.2 (Nat.le_trans (by decide +kernel) h1))) (q0g j5c)
theorem jqz (n:Nat) : ∀a,(q1p n).F a=qdn Tryz.prog 42 (qra n) (qkm n) qqc (q00 Tryz.f24) [.tmp 4] (q1p n).args (q1p n).boxes (q1p n).rows (q1p n).res (q1p n).oboxes (q1p n).orows a:=by intro a;kernel_rfl
theorem j0j (n:Nat):q8u Inv Tryz.prog (q1p n):=fun G hG=>⟨by kernel_rfl,fun a r h=>q1k (x:=q1p n) (c:=q00 Tryz.f24) Tryz.func24 (by kernel_rfl) (by kernel_rfl) (Nat.le_of_ble_eq_true (by kernel_rfl)) (by kernel_rfl) (rs:=[.tmp 4]) (by kernel_rfl) (qsz n hG) (lts:=qkm n) (fun F hF hFG=>have hK:Know Inv F.G:=hFG ▸ hG;(q02 (c:=(q00 Tryz.f24)) (fun j L h1 h2 h3=>by
  have h2':j<1:=Nat.lt_of_lt_of_le h2 (by decide +kernel)
  match j,h1,h2',h3 with
  | 0,_,_,h3=>obtain rfl:=Option.some.inj h3;exact (show q01 0 0 (q00 Tryz.f24)=q01 0 0 (q00 Tryz.f24) by kernel_rfl) ▸ jfj n hF hK
  | j+1,_,h2',_=>exact absurd h2' (by omega)))) j5c ((jqz n a).symm.trans h)⟩
@[reducible] def qnc:SSt:=⟨[(0,.one (.c (.d (.lst (.int .i64))))),(1,.one (.c (.d (.int .i64)))),(5,.one (.c (.d (.int .i64))))],[],[]⟩
@[reducible] def qd4:List (Exit×SSt):=[(.ret,⟨[(4,.one (.c (.d .bool)))],[],[]⟩),(.exit 0,⟨[],[],[]⟩)]
def j86 (n:Nat) (rec:(List (Int))->Int->Int->Option (((Bool×Unit)×Unit×Unit)⊕(Unit×Unit×Unit))) (a1:List (Int)) (a2:Int) (a3:Int):Option (((Bool×Unit)×Unit×Unit)⊕(Unit×Unit×Unit)) :=
 (bif decide (a3<(a1.length:Int)) then (q0s a1 a3).bind fun x1=>(bif decide (x1=a2) then some (Sum.inl ((true,()),((),()))) else q0f (IntKind.wrap .i64 (a3+1)) fun n2=>rec a1 a2 n2) else some (Sum.inr (((),((),())))))
def j8u (n:Nat) (rec:pSt qnc->Option (q06 qd4)) (p:pSt qnc):Option (q06 qd4):=j86 n (fun a1 a2 a3=>rec ((a1,(a2,(a3,()))),((),()))) p.1.1 p.1.2.1 p.1.2.2.1
def q83 (n m:Nat) (a1:List (Int)) (a2:Int) (a3:Int):Option (((Bool×Unit)×Unit×Unit)⊕(Unit×Unit×Unit)):=q08 (j8u n) m ((a1,(a2,(a3,()))),((),()))
theorem qtu (n m:Nat) (a1 a2 a3):q83 n (m+1) a1 a2 a3=j86 n (fun a1 a2 a3=>q83 n m a1 a2 a3) a1 a2 a3:=rfl
def jkz (n:Nat):LC:={ sh:=qnc,outs:=qd4,F:=q08 (j8u n) n }
def qwe (n:Nat):List LC:=[jkz n]
def qal (n:Nat) (a1:List (Int)) (a2:Int):Option (Bool) :=
 (q83 n n a1 a2 (0:Int)).bind fun o3=>Sum.elim (fun (q4:(Bool×Unit)×Unit×Unit)=>some q4.1.1) (fun (q5:(Unit)×Unit×Unit)=>some false) o3
def q5h (n:Nat):FC:={ f:=23,args:=[.one (.c (.d (.lst (.int .i64)))),.one (.c (.d (.int .i64)))],res:=.one (.c (.d .bool)),F:=fun p=>qal n p.1 p.2 }
def j7o (n:Nat):List FC:=[]
theorem j4i (n:Nat) {G:World->Prop} (hG:Know Inv G) : ∀c∈j7o n,q0t Tryz.prog G c/\q0c c.args=true:=(fun _ h=>by cases h)
def j83:q0b:=[]
theorem jo9:drB j83 (q00 Tryz.f23)=true:=by kernel_rfl
theorem jyv (n:Nat) : ∀rec p,j8u n rec p=round Tryz.prog 18 (j7o n) (qwe n) j83 1 qnc qd4 (q01 0 0 (q00 Tryz.f23)) rec p:=by intro rec p;kernel_rfl
theorem jqb (n:Nat) {F:Fr} (hF:F.n=18) (hK:Know Inv F.G):q2h Tryz.prog F (jkz n) (q01 0 0 (q00 Tryz.f23)) :=
 q09 hF (by kernel_rfl) (j4i n hK) (jyv n) (fuel:=n) (fun _=>rfl) (q02 fun j L h1 h2 h3=>absurd h2 (Nat.not_lt.2 (Nat.le_trans (by decide +kernel) h1))) (q0g jo9)
theorem k0w (n:Nat) : ∀a,(q5h n).F a=main Tryz.prog 18 (j7o n) (qwe n) j83 (q00 Tryz.f23) [.tmp 4] (q5h n).args (q5h n).res a:=by intro a;kernel_rfl
theorem qgx (n:Nat):q0h Inv Tryz.prog (q5h n):=fun G hG=>⟨⟨by kernel_rfl,fun a r h=>q05 (c:=q00 Tryz.f23) Tryz.func23 (by kernel_rfl) (by kernel_rfl) (Nat.le_of_ble_eq_true (by kernel_rfl)) hG.st (by kernel_rfl) (rs:=[.tmp 4]) (by kernel_rfl) (j4i n hG) (lts:=qwe n) (fun F hF hFG=>have hK:Know Inv F.G:=hFG ▸ hG;(q02 (c:=(q00 Tryz.f23)) (fun j L h1 h2 h3=>by
  have h2':j<1:=Nat.lt_of_lt_of_le h2 (by decide +kernel)
  match j,h1,h2',h3 with
  | 0,_,_,h3=>obtain rfl:=Option.some.inj h3;exact (show q01 0 0 (q00 Tryz.f23)=q01 0 0 (q00 Tryz.f23) by kernel_rfl) ▸ jqb n hF hK
  | j+1,_,h2',_=>exact absurd h2' (by omega)))) jo9 ((k0w n a).symm.trans h)⟩,rfl⟩
@[reducible] def qd9:SSt:=⟨[(0,.one (.c (.d (.lst (.prod .str (.prod .str (.lst (.prod .str (.prod (.int .i64) (.prod (.int .i64) (.prod (.int .i64) (.prod .str .str)))))))))))),(5,.one (.c (.row 11))),(6,.one (.c (.d (.int .i64)))),(7,.one (.c (.row 23))),(8,.one (.c (.d (.int .i64))))],[],[(11,⟨3,false,(.int .i64)⟩),(23,⟨3,false,(.int .i64)⟩)]⟩
@[reducible] def q7c:List (Exit×SSt):=[(.exit 2,⟨[(0,.one (.c (.d (.lst (.prod .str (.prod .str (.lst (.prod .str (.prod (.int .i64) (.prod (.int .i64) (.prod (.int .i64) (.prod .str .str)))))))))))),(5,.one (.c (.row 11))),(6,.one (.c (.d (.int .i64))))],[],[(11,⟨3,false,(.int .i64)⟩)]⟩)]
def qow (n:Nat) (rec:(List (List UInt8×(List UInt8×(List (List UInt8×((Int)×((Int)×((Int)×(List UInt8×List UInt8)))))))))->Int->Int->(List (Int))->(List (Int))->Option (((List (List UInt8×(List UInt8×(List (List UInt8×((Int)×((Int)×((Int)×(List UInt8×List UInt8)))))))))×(Unit×(Int×Unit)))×Unit×((List (Int))×Unit))) (a1:List (List UInt8×(List UInt8×(List (List UInt8×((Int)×((Int)×((Int)×(List UInt8×List UInt8))))))))) (a2:Int) (a3:Int) (a4:List (Int)) (a5:List (Int)):Option (((List (List UInt8×(List UInt8×(List (List UInt8×((Int)×((Int)×((Int)×(List UInt8×List UInt8)))))))))×(Unit×(Int×Unit)))×Unit×((List (Int))×Unit)) :=
 (bif decide (a3<(a5.length:Int)) then (q0s a5 a3).bind fun _x5=>(nth a5 (Int.toNat a3)).bind fun (x6:Int)=>(qal n a4 x6).bind fun r7=>(bif !r7 then (q0s a5 a3).bind fun _x8=>(nth a5 (Int.toNat a3)).bind fun (x9:Int)=>(ql1 8 a4 ([x9]:List (Int))).bind fun l10=>q0f (IntKind.wrap .i64 (a3+1)) fun n11=>rec a1 a2 n11 l10 a5 else q0f (IntKind.wrap .i64 (a3+1)) fun n12=>rec a1 a2 n12 a4 a5) else some (((a1,((),(a2,()))),((),(a4,())))))
def qrw (n:Nat) (rec:pSt qd9->Option (q06 q7c)) (p:pSt qd9):Option (q06 q7c):=qow n (fun a1 a2 a3 a4 a5=>rec ((a1,((),(a2,((),(a3,()))))),((),(a4,(a5,()))))) p.1.1 p.1.2.2.1 p.1.2.2.2.2.1 p.2.2.1 p.2.2.2.1
def q4g (n m:Nat) (a1:List (List UInt8×(List UInt8×(List (List UInt8×((Int)×((Int)×((Int)×(List UInt8×List UInt8))))))))) (a2:Int) (a3:Int) (a4:List (Int)) (a5:List (Int)):Option (((List (List UInt8×(List UInt8×(List (List UInt8×((Int)×((Int)×((Int)×(List UInt8×List UInt8)))))))))×(Unit×(Int×Unit)))×Unit×((List (Int))×Unit)):=q08 (qrw n) m ((a1,((),(a2,((),(a3,()))))),((),(a4,(a5,()))))
theorem qnh (n m:Nat) (a1 a2 a3 a4 a5):q4g n (m+1) a1 a2 a3 a4 a5=qow n (fun a1 a2 a3 a4 a5=>q4g n m a1 a2 a3 a4 a5) a1 a2 a3 a4 a5:=rfl
def j38 (n:Nat):LC:={ sh:=qd9,outs:=q7c,F:=q08 (qrw n) n }
@[reducible] def qdw:SSt:=⟨[(0,.one (.c (.d (.lst (.prod .str (.prod .str (.lst (.prod .str (.prod (.int .i64) (.prod (.int .i64) (.prod (.int .i64) (.prod .str .str)))))))))))),(5,.one (.c (.row 11))),(6,.one (.c (.d (.int .i64))))],[],[(11,⟨3,false,(.int .i64)⟩)]⟩
@[reducible] def q75:List (Exit×SSt):=[(.exit 0,⟨[(5,.one (.c (.row 11)))],[],[(11,⟨3,false,(.int .i64)⟩)]⟩)]
def qrj (n:Nat) (rec:(List (List UInt8×(List UInt8×(List (List UInt8×((Int)×((Int)×((Int)×(List UInt8×List UInt8)))))))))->Int->(List (Int))->Option ((Unit×Unit)×Unit×((List (Int))×Unit))) (a1:List (List UInt8×(List UInt8×(List (List UInt8×((Int)×((Int)×((Int)×(List UInt8×List UInt8))))))))) (a2:Int) (a3:List (Int)):Option ((Unit×Unit)×Unit×((List (Int))×Unit)) :=
 (bif decide (a2<(a3.length:Int)) then (q0s a3 a2).bind fun _x2=>(nth a3 (Int.toNat a2)).bind fun (x3:Int)=>(qf0 n a1 x3).bind fun r4=>(q4g n n a1 a2 (0:Int) a3 r4.2.2.1).bind fun o13=>q0f (IntKind.wrap .i64 (o13.1.2.2.1+1)) fun n14=>rec o13.1.1 n14 o13.2.2.1 else some ((((),()),((),(a3,())))))
def qoq (n:Nat) (rec:pSt qdw->Option (q06 q75)) (p:pSt qdw):Option (q06 q75):=qrj n (fun a1 a2 a3=>rec ((a1,((),(a2,()))),((),(a3,())))) p.1.1 p.1.2.2.1 p.2.2.1
def q1z (n m:Nat) (a1:List (List UInt8×(List UInt8×(List (List UInt8×((Int)×((Int)×((Int)×(List UInt8×List UInt8))))))))) (a2:Int) (a3:List (Int)):Option ((Unit×Unit)×Unit×((List (Int))×Unit)):=q08 (qoq n) m ((a1,((),(a2,()))),((),(a3,())))
theorem q9d (n m:Nat) (a1 a2 a3):q1z n (m+1) a1 a2 a3=qrj n (fun a1 a2 a3=>q1z n m a1 a2 a3) a1 a2 a3:=rfl
def j4d (n:Nat):LC:={ sh:=qdw,outs:=q75,F:=q08 (qoq n) n }
def qcj (n:Nat):List LC:=[j4d n,j38 n]
def q8o (n:Nat) (a1:List (List UInt8×(List UInt8×(List (List UInt8×((Int)×((Int)×((Int)×(List UInt8×List UInt8))))))))) (a2:Int):Option (List (Int)) :=
 (qf0 n a1 a2).bind fun r1=>(q1z n n a1 (0:Int) r1.2.2.1).bind fun o15=>some o15.2.2.1
def q7w (n:Nat):FC:={ f:=86,args:=[.one (.c (.d (.lst (.prod .str (.prod .str (.lst (.prod .str (.prod (.int .i64) (.prod (.int .i64) (.prod (.int .i64) (.prod .str .str))))))))))),.one (.c (.d (.int .i64)))],res:=.one (.c (.d (.lst (.int .i64)))),F:=fun p=>q8o n p.1 p.2 }
def qhb (n:Nat):List FC:=[qai (q1p n) [] [(40,11)],qai (q1p n) [] [(40,23)],q5h n]
theorem qg9 (n:Nat) {G:World->Prop} (hG:Know Inv G) : ∀c∈qhb n,q0t Tryz.prog G c/\q0c c.args=true:=List.forall_mem_cons.2 ⟨q1w (j0j n G hG),List.forall_mem_cons.2 ⟨q1w (j0j n G hG),List.forall_mem_cons.2 ⟨qgx n G hG,(fun _ h=>by cases h)⟩⟩⟩
def qgu:q0b:=[]
theorem qr0:drB qgu (q00 Tryz.f86)=true:=by kernel_rfl
theorem jkj (n:Nat) : ∀rec p,qrw n rec p=round Tryz.prog 45 (qhb n) (qcj n) qgu 2 qd9 q7c (q01 0 1 (q00 Tryz.f86)) rec p:=by intro rec p;kernel_rfl
theorem jj1 (n:Nat) : ∀rec p,qoq n rec p=round Tryz.prog 45 (qhb n) (qcj n) qgu 1 qdw q75 (q01 0 0 (q00 Tryz.f86)) rec p:=by intro rec p;kernel_rfl
theorem qs3 (n:Nat) {F:Fr} (hF:F.n=45) (hK:Know Inv F.G):q2h Tryz.prog F (j38 n) (q01 0 1 (q00 Tryz.f86)) :=
 q09 hF (by kernel_rfl) (qg9 n hK) (jkj n) (fuel:=n) (fun _=>rfl) (q02 fun j L h1 h2 h3=>absurd h2 (Nat.not_lt.2 (Nat.le_trans (by decide +kernel) h1))) (q0g qr0)
theorem jfk (n:Nat) {F:Fr} (hF:F.n=45) (hK:Know Inv F.G):q2h Tryz.prog F (j4d n) (q01 0 0 (q00 Tryz.f86)) :=
 q09 hF (by kernel_rfl) (qg9 n hK) (jj1 n) (fuel:=n) (fun _=>rfl) (q02 (c:=(q01 0 0 (q00 Tryz.f86))) (fun j L h1 h2 h3=>by
  have h2':j<2:=Nat.lt_of_lt_of_le h2 (by decide +kernel)
  match j,h1,h2',h3 with
  | 0,h1,_,_=>exact absurd h1 (by decide)
  | 1,_,_,h3=>obtain rfl:=Option.some.inj h3;exact (show q01 0 1 (q00 Tryz.f86)=q01 1 1 (q01 0 0 (q00 Tryz.f86)) by kernel_rfl) ▸ qs3 n hF hK
  | j+2,_,h2',_=>exact absurd h2' (by omega))) (q0g qr0)
theorem jqv (n:Nat) : ∀a,(q7w n).F a=main Tryz.prog 45 (qhb n) (qcj n) qgu (q00 Tryz.f86) [.tmp 4] (q7w n).args (q7w n).res a:=by intro a;kernel_rfl
theorem j4m (n:Nat):q0h Inv Tryz.prog (q7w n):=fun G hG=>⟨⟨by kernel_rfl,fun a r h=>q05 (c:=q00 Tryz.f86) Tryz.func86 (by kernel_rfl) (by kernel_rfl) (Nat.le_of_ble_eq_true (by kernel_rfl)) hG.st (by kernel_rfl) (rs:=[.tmp 4]) (by kernel_rfl) (qg9 n hG) (lts:=qcj n) (fun F hF hFG=>have hK:Know Inv F.G:=hFG ▸ hG;(q02 (c:=(q00 Tryz.f86)) (fun j L h1 h2 h3=>by
  have h2':j<2:=Nat.lt_of_lt_of_le h2 (by decide +kernel)
  match j,h1,h2',h3 with
  | 0,_,_,h3=>obtain rfl:=Option.some.inj h3;exact (show q01 0 0 (q00 Tryz.f86)=q01 0 0 (q00 Tryz.f86) by kernel_rfl) ▸ jfk n hF hK
  | 1,_,_,h3=>obtain rfl:=Option.some.inj h3;exact (show q01 0 1 (q00 Tryz.f86)=q01 0 1 (q00 Tryz.f86) by kernel_rfl) ▸ qs3 n hF hK
  | j+2,_,h2',_=>exact absurd h2' (by omega)))) qr0 ((jqv n a).symm.trans h)⟩,rfl⟩
@[reducible] def qha:SSt:=⟨[(0,.one (.c (.d (.lst (.prod .str (.prod .str (.lst (.prod .str (.prod (.int .i64) (.prod (.int .i64) (.prod (.int .i64) (.prod .str .str)))))))))))),(3,.one (.c (.row 19))),(4,.one (.c (.d (.int .i64))))],[],[(19,⟨3,true,(.int .i64)⟩)]⟩
@[reducible] def q9i:List (Exit×SSt):=[(.exit 0,⟨[(3,.one (.c (.row 19)))],[],[(19,⟨3,true,(.int .i64)⟩)]⟩)]
def qm4 (n:Nat) (rec:(List (List UInt8×(List UInt8×(List (List UInt8×((Int)×((Int)×((Int)×(List UInt8×List UInt8)))))))))->Int->(List (Int))->Option ((Unit×Unit)×Unit×((List (Int))×Unit))) (a1:List (List UInt8×(List UInt8×(List (List UInt8×((Int)×((Int)×((Int)×(List UInt8×List UInt8))))))))) (a2:Int) (a3:List (Int)):Option ((Unit×Unit)×Unit×((List (Int))×Unit)) :=
 (bif decide (a2<(a1.length:Int)) then (q8o n a1 a2).bind fun r1=>(qal n r1 a2).bind fun r2=>(bif r2 then (ql1 8 a3 ([a2]:List (Int))).bind fun l3=>q0f (IntKind.wrap .i64 (a2+1)) fun n4=>rec a1 n4 l3 else q0f (IntKind.wrap .i64 (a2+1)) fun n5=>rec a1 n5 a3) else some ((((),()),((),(a3,())))))
def j0r (n:Nat) (rec:pSt qha->Option (q06 q9i)) (p:pSt qha):Option (q06 q9i):=qm4 n (fun a1 a2 a3=>rec ((a1,((),(a2,()))),((),(a3,())))) p.1.1 p.1.2.2.1 p.2.2.1
def q69 (n m:Nat) (a1:List (List UInt8×(List UInt8×(List (List UInt8×((Int)×((Int)×((Int)×(List UInt8×List UInt8))))))))) (a2:Int) (a3:List (Int)):Option ((Unit×Unit)×Unit×((List (Int))×Unit)):=q08 (j0r n) m ((a1,((),(a2,()))),((),(a3,())))
theorem qb4 (n m:Nat) (a1 a2 a3):q69 n (m+1) a1 a2 a3=qm4 n (fun a1 a2 a3=>q69 n m a1 a2 a3) a1 a2 a3:=rfl
def jaa (n:Nat):LC:={ sh:=qha,outs:=q9i,F:=q08 (j0r n) n }
def qqv (n:Nat):List LC:=[jaa n]
def qv3 (n:Nat) (a1:List (List UInt8×(List UInt8×(List (List UInt8×((Int)×((Int)×((Int)×(List UInt8×List UInt8))))))))):Option (List (Int)) :=
 (q69 n n a1 (0:Int) []).bind fun o6=>some o6.2.2.1
def qf3 (n:Nat):FC:={ f:=84,args:=[.one (.c (.d (.lst (.prod .str (.prod .str (.lst (.prod .str (.prod (.int .i64) (.prod (.int .i64) (.prod (.int .i64) (.prod .str .str)))))))))))],res:=.one (.c (.d (.lst (.int .i64)))),F:=fun p=>qv3 n p }
def qxr (n:Nat):List FC:=[q7w n,q5h n]
theorem qxd (n:Nat) {G:World->Prop} (hG:Know Inv G) : ∀c∈qxr n,q0t Tryz.prog G c/\q0c c.args=true:=List.forall_mem_cons.2 ⟨j4m n G hG,List.forall_mem_cons.2 ⟨qgx n G hG,(fun _ h=>by cases h)⟩⟩
def j02:q0b:=[]
theorem jd3:drB j02 (q00 Tryz.f84)=true:=by kernel_rfl
theorem jpl (n:Nat) : ∀rec p,j0r n rec p=round Tryz.prog 21 (qxr n) (qqv n) j02 1 qha q9i (q01 0 0 (q00 Tryz.f84)) rec p:=by intro rec p;kernel_rfl
theorem jh6 (n:Nat) {F:Fr} (hF:F.n=21) (hK:Know Inv F.G):q2h Tryz.prog F (jaa n) (q01 0 0 (q00 Tryz.f84)) :=
 q09 hF (by kernel_rfl) (qxd n hK) (jpl n) (fuel:=n) (fun _=>rfl) (q02 fun j L h1 h2 h3=>absurd h2 (Nat.not_lt.2 (Nat.le_trans (by decide +kernel) h1))) (q0g jd3)
theorem jue (n:Nat) : ∀a,(qf3 n).F a=main Tryz.prog 21 (qxr n) (qqv n) j02 (q00 Tryz.f84) [.tmp 2] (qf3 n).args (qf3 n).res a:=by intro a;kernel_rfl
theorem jx1 (n:Nat):q0h Inv Tryz.prog (qf3 n):=fun G hG=>⟨⟨by kernel_rfl,fun a r h=>q05 (c:=q00 Tryz.f84) Tryz.func84 (by kernel_rfl) (by kernel_rfl) (Nat.le_of_ble_eq_true (by kernel_rfl)) hG.st (by kernel_rfl) (rs:=[.tmp 2]) (by kernel_rfl) (qxd n hG) (lts:=qqv n) (fun F hF hFG=>have hK:Know Inv F.G:=hFG ▸ hG;(q02 (c:=(q00 Tryz.f84)) (fun j L h1 h2 h3=>by
  have h2':j<1:=Nat.lt_of_lt_of_le h2 (by decide +kernel)
  match j,h1,h2',h3 with
  | 0,_,_,h3=>obtain rfl:=Option.some.inj h3;exact (show q01 0 0 (q00 Tryz.f84)=q01 0 0 (q00 Tryz.f84) by kernel_rfl) ▸ jh6 n hF hK
  | j+1,_,h2',_=>exact absurd h2' (by omega)))) jd3 ((jue n a).symm.trans h)⟩,rfl⟩
@[reducible] def qgo:SSt:=⟨[(0,.one (.c (.d (.lst (.int .i64))))),(1,.one (.c (.d (.lst (.int .i64))))),(5,.one (.c (.d (.int .i64))))],[],[]⟩
@[reducible] def qa9:List (Exit×SSt):=[(.ret,⟨[(4,.one (.c (.d .bool)))],[],[]⟩),(.exit 0,⟨[],[],[]⟩)]
def qvw (n:Nat) (rec:(List (Int))->(List (Int))->Int->Option (((Bool×Unit)×Unit×Unit)⊕(Unit×Unit×Unit))) (a1:List (Int)) (a2:List (Int)) (a3:Int):Option (((Bool×Unit)×Unit×Unit)⊕(Unit×Unit×Unit)) :=
 (bif decide (a3<(a1.length:Int)) then (q0s a1 a3).bind fun x1=>(qal n a2 x1).bind fun r2=>(bif !r2 then some (Sum.inl ((false,()),((),()))) else q0f (IntKind.wrap .i64 (a3+1)) fun n3=>rec a1 a2 n3) else some (Sum.inr (((),((),())))))
def qwx (n:Nat) (rec:pSt qgo->Option (q06 qa9)) (p:pSt qgo):Option (q06 qa9):=qvw n (fun a1 a2 a3=>rec ((a1,(a2,(a3,()))),((),()))) p.1.1 p.1.2.1 p.1.2.2.1
def q5y (n m:Nat) (a1:List (Int)) (a2:List (Int)) (a3:Int):Option (((Bool×Unit)×Unit×Unit)⊕(Unit×Unit×Unit)):=q08 (qwx n) m ((a1,(a2,(a3,()))),((),()))
theorem qr4 (n m:Nat) (a1 a2 a3):q5y n (m+1) a1 a2 a3=qvw n (fun a1 a2 a3=>q5y n m a1 a2 a3) a1 a2 a3:=rfl
def jc6 (n:Nat):LC:={ sh:=qgo,outs:=qa9,F:=q08 (qwx n) n }
def qq6 (n:Nat):List LC:=[jc6 n]
def qun (n:Nat) (a1:List (Int)) (a2:List (Int)):Option (Bool) :=
 (q5y n n a1 a2 (0:Int)).bind fun o4=>Sum.elim (fun (q5:(Bool×Unit)×Unit×Unit)=>some q5.1.1) (fun (q6:(Unit)×Unit×Unit)=>some true) o4
def qg8 (n:Nat):FC:={ f:=85,args:=[.one (.c (.d (.lst (.int .i64)))),.one (.c (.d (.lst (.int .i64))))],res:=.one (.c (.d .bool)),F:=fun p=>qun n p.1 p.2 }
def qyn (n:Nat):List FC:=[q5h n]
theorem qyj (n:Nat) {G:World->Prop} (hG:Know Inv G) : ∀c∈qyn n,q0t Tryz.prog G c/\q0c c.args=true:=List.forall_mem_cons.2 ⟨qgx n G hG,(fun _ h=>by cases h)⟩
def j0i:q0b:=[]
theorem jek:drB j0i (q00 Tryz.f85)=true:=by kernel_rfl
theorem jr7 (n:Nat) : ∀rec p,qwx n rec p=round Tryz.prog 19 (qyn n) (qq6 n) j0i 1 qgo qa9 (q01 0 0 (q00 Tryz.f85)) rec p:=by intro rec p;kernel_rfl
theorem jg1 (n:Nat) {F:Fr} (hF:F.n=19) (hK:Know Inv F.G):q2h Tryz.prog F (jc6 n) (q01 0 0 (q00 Tryz.f85)) :=
 q09 hF (by kernel_rfl) (qyj n hK) (jr7 n) (fuel:=n) (fun _=>rfl) (q02 fun j L h1 h2 h3=>absurd h2 (Nat.not_lt.2 (Nat.le_trans (by decide +kernel) h1))) (q0g jek)
theorem jyp (n:Nat) : ∀a,(qg8 n).F a=main Tryz.prog 19 (qyn n) (qq6 n) j0i (q00 Tryz.f85) [.tmp 4] (qg8 n).args (qg8 n).res a:=by intro a;kernel_rfl
theorem jx3 (n:Nat):q0h Inv Tryz.prog (qg8 n):=fun G hG=>⟨⟨by kernel_rfl,fun a r h=>q05 (c:=q00 Tryz.f85) Tryz.func85 (by kernel_rfl) (by kernel_rfl) (Nat.le_of_ble_eq_true (by kernel_rfl)) hG.st (by kernel_rfl) (rs:=[.tmp 4]) (by kernel_rfl) (qyj n hG) (lts:=qq6 n) (fun F hF hFG=>have hK:Know Inv F.G:=hFG ▸ hG;(q02 (c:=(q00 Tryz.f85)) (fun j L h1 h2 h3=>by
  have h2':j<1:=Nat.lt_of_lt_of_le h2 (by decide +kernel)
  match j,h1,h2',h3 with
  | 0,_,_,h3=>obtain rfl:=Option.some.inj h3;exact (show q01 0 0 (q00 Tryz.f85)=q01 0 0 (q00 Tryz.f85) by kernel_rfl) ▸ jg1 n hF hK
  | j+1,_,h2',_=>exact absurd h2' (by omega)))) jek ((jyp n a).symm.trans h)⟩,rfl⟩
@[reducible] def qab:SSt:=⟨[(0,.one (.c (.d (.lst (.prod .str (.prod .str (.lst (.prod .str (.prod (.int .i64) (.prod (.int .i64) (.prod (.int .i64) (.prod .str .str)))))))))))),(5,.one (.c (.row 41))),(6,.one (.c (.d (.int .i64))))],[],[(41,⟨3,false,(.int .i64)⟩)]⟩
@[reducible] def q56:List (Exit×SSt):=[(.exit 2,⟨[(0,.one (.c (.d (.lst (.prod .str (.prod .str (.lst (.prod .str (.prod (.int .i64) (.prod (.int .i64) (.prod (.int .i64) (.prod .str .str)))))))))))),(5,.one (.c (.row 41))),(32,.one (.c (.d (.lst (.prod .str (.prod .str (.lst (.prod .str (.prod (.int .i64) (.prod (.int .i64) (.prod (.int .i64) (.prod .str .str)))))))))))),(33,.one (.c (.d (.int .i64)))),(34,.one (.c (.d (.lst (.int .i64))))),(36,.one (.c (.d .bool)))],[],[(41,⟨3,false,(.int .i64)⟩)]⟩),(.exit 2,⟨[(0,.one (.c (.d (.lst (.prod .str (.prod .str (.lst (.prod .str (.prod (.int .i64) (.prod (.int .i64) (.prod (.int .i64) (.prod .str .str)))))))))))),(5,.one (.c (.row 41)))],[],[(41,⟨3,false,(.int .i64)⟩)]⟩)]
def qjt (n:Nat) (rec:(List (List UInt8×(List UInt8×(List (List UInt8×((Int)×((Int)×((Int)×(List UInt8×List UInt8)))))))))->Int->(List (Int))->Option ((((List (List UInt8×(List UInt8×(List (List UInt8×((Int)×((Int)×((Int)×(List UInt8×List UInt8)))))))))×(Unit×((List (List UInt8×(List UInt8×(List (List UInt8×((Int)×((Int)×((Int)×(List UInt8×List UInt8)))))))))×(Int×((List (Int))×(Bool×Unit))))))×Unit×((List (Int))×Unit))⊕(((List (List UInt8×(List UInt8×(List (List UInt8×((Int)×((Int)×((Int)×(List UInt8×List UInt8)))))))))×(Unit×Unit))×Unit×((List (Int))×Unit)))) (a1:List (List UInt8×(List UInt8×(List (List UInt8×((Int)×((Int)×((Int)×(List UInt8×List UInt8))))))))) (a2:Int) (a3:List (Int)):Option ((((List (List UInt8×(List UInt8×(List (List UInt8×((Int)×((Int)×((Int)×(List UInt8×List UInt8)))))))))×(Unit×((List (List UInt8×(List UInt8×(List (List UInt8×((Int)×((Int)×((Int)×(List UInt8×List UInt8)))))))))×(Int×((List (Int))×(Bool×Unit))))))×Unit×((List (Int))×Unit))⊕(((List (List UInt8×(List UInt8×(List (List UInt8×((Int)×((Int)×((Int)×(List UInt8×List UInt8)))))))))×(Unit×Unit))×Unit×((List (Int))×Unit))) :=
 (bif decide (a2<(a1.length:Int)) then (qal n a3 a2).bind fun r3=>(bif !r3 then (qhj n a1 a2).bind fun r4=>(qun n r4 a3).bind fun r5=>(bif r5 then (ql1 8 a3 ([a2]:List (Int))).bind fun l6=>some (Sum.inl ((a1,((),(a1,(a2,(r4,(r5,())))))),((),(l6,())))) else q0f (IntKind.wrap .i64 (a2+1)) fun n7=>rec a1 n7 a3) else q0f (IntKind.wrap .i64 (a2+1)) fun n8=>rec a1 n8 a3) else some (Sum.inr (((a1,((),())),((),(a3,()))))))
def qko (n:Nat) (rec:pSt qab->Option (q06 q56)) (p:pSt qab):Option (q06 q56):=qjt n (fun a1 a2 a3=>rec ((a1,((),(a2,()))),((),(a3,())))) p.1.1 p.1.2.2.1 p.2.2.1
def q5w (n m:Nat) (a1:List (List UInt8×(List UInt8×(List (List UInt8×((Int)×((Int)×((Int)×(List UInt8×List UInt8))))))))) (a2:Int) (a3:List (Int)):Option ((((List (List UInt8×(List UInt8×(List (List UInt8×((Int)×((Int)×((Int)×(List UInt8×List UInt8)))))))))×(Unit×((List (List UInt8×(List UInt8×(List (List UInt8×((Int)×((Int)×((Int)×(List UInt8×List UInt8)))))))))×(Int×((List (Int))×(Bool×Unit))))))×Unit×((List (Int))×Unit))⊕(((List (List UInt8×(List UInt8×(List (List UInt8×((Int)×((Int)×((Int)×(List UInt8×List UInt8)))))))))×(Unit×Unit))×Unit×((List (Int))×Unit))):=q08 (qko n) m ((a1,((),(a2,()))),((),(a3,())))
theorem qiq (n m:Nat) (a1 a2 a3):q5w n (m+1) a1 a2 a3=qjt n (fun a1 a2 a3=>q5w n m a1 a2 a3) a1 a2 a3:=rfl
def qyl (n:Nat):LC:={ sh:=qab,outs:=q56,F:=q08 (qko n) n }
@[reducible] def q93:SSt:=⟨[(0,.one (.c (.d (.lst (.prod .str (.prod .str (.lst (.prod .str (.prod (.int .i64) (.prod (.int .i64) (.prod (.int .i64) (.prod .str .str)))))))))))),(5,.one (.c (.row 41)))],[],[(41,⟨3,false,(.int .i64)⟩)]⟩
@[reducible] def q5m:List (Exit×SSt):=[(.exit 0,⟨[(5,.one (.c (.row 41)))],[],[(41,⟨3,false,(.int .i64)⟩)]⟩)]
def qiy (n:Nat) (rec:(List (List UInt8×(List UInt8×(List (List UInt8×((Int)×((Int)×((Int)×(List UInt8×List UInt8)))))))))->(List (Int))->Option ((Unit×Unit)×Unit×((List (Int))×Unit))) (a1:List (List UInt8×(List UInt8×(List (List UInt8×((Int)×((Int)×((Int)×(List UInt8×List UInt8))))))))) (a2:List (Int)):Option ((Unit×Unit)×Unit×((List (Int))×Unit)) :=
 (bif decide ((a2.length:Int)<(a1.length:Int)) then (q5w n n a1 (0:Int) a2).bind fun o9=>Sum.elim (fun (q10:((List (List UInt8×(List UInt8×(List (List UInt8×((Int)×((Int)×((Int)×(List UInt8×List UInt8)))))))))×(Unit×((List (List UInt8×(List UInt8×(List (List UInt8×((Int)×((Int)×((Int)×(List UInt8×List UInt8)))))))))×(Int×((List (Int))×(Bool×Unit))))))×Unit×((List (Int))×Unit))=>rec q10.1.1 q10.2.2.1) (fun (q11:((List (List UInt8×(List UInt8×(List (List UInt8×((Int)×((Int)×((Int)×(List UInt8×List UInt8)))))))))×(Unit×Unit))×Unit×((List (Int))×Unit))=>rec q11.1.1 q11.2.2.1) o9 else some ((((),()),((),(a2,())))))
def qks (n:Nat) (rec:pSt q93->Option (q06 q5m)) (p:pSt q93):Option (q06 q5m):=qiy n (fun a1 a2=>rec ((a1,((),())),((),(a2,())))) p.1.1 p.2.2.1
def q3g (n m:Nat) (a1:List (List UInt8×(List UInt8×(List (List UInt8×((Int)×((Int)×((Int)×(List UInt8×List UInt8))))))))) (a2:List (Int)):Option ((Unit×Unit)×Unit×((List (Int))×Unit)):=q08 (qks n) m ((a1,((),())),((),(a2,())))
theorem qka (n m:Nat) (a1 a2):q3g n (m+1) a1 a2=qiy n (fun a1 a2=>q3g n m a1 a2) a1 a2:=rfl
def qxa (n:Nat):LC:={ sh:=q93,outs:=q5m,F:=q08 (qks n) n }
def q90 (n:Nat):List LC:=[qxa n,qyl n]
def qgw (n:Nat) (a1:List (List UInt8×(List UInt8×(List (List UInt8×((Int)×((Int)×((Int)×(List UInt8×List UInt8))))))))):Option ((List (Int))×(Int)) :=
 (q4p n a1).bind fun r1=>(bif !decide (r1=0) then some ([],r1) else (qv3 n a1).bind fun r2=>(bif decide (0<(r2.length:Int)) then some ([],(12:Int)) else (q3g n n a1 []).bind fun o12=>some (o12.2.2.1,(0:Int))))
def q8d (n:Nat):FC:={ f:=46,args:=[.one (.c (.d (.lst (.prod .str (.prod .str (.lst (.prod .str (.prod (.int .i64) (.prod (.int .i64) (.prod (.int .i64) (.prod .str .str)))))))))))],res:=.tup [.c (.d (.lst (.int .i64))),.c (.d (.int .i64))],F:=fun p=>qgw n p }
def qdm (n:Nat):List FC:=[q2o n,qf3 n,q5h n,q8p n,qg8 n]
theorem qco (n:Nat) {G:World->Prop} (hG:Know Inv G) : ∀c∈qdm n,q0t Tryz.prog G c/\q0c c.args=true:=List.forall_mem_cons.2 ⟨qdc n G hG,List.forall_mem_cons.2 ⟨jx1 n G hG,List.forall_mem_cons.2 ⟨qgx n G hG,List.forall_mem_cons.2 ⟨ji8 n G hG,List.forall_mem_cons.2 ⟨jx3 n G hG,(fun _ h=>by cases h)⟩⟩⟩⟩⟩
def qd6:q0b:=[]
theorem qiz:drB qd6 (q00 Tryz.f46)=true:=by kernel_rfl
theorem jc2 (n:Nat) : ∀rec p,qko n rec p=round Tryz.prog 43 (qdm n) (q90 n) qd6 2 qab q56 (q01 0 1 (q00 Tryz.f46)) rec p:=by intro rec p;kernel_rfl
theorem jeq (n:Nat) : ∀rec p,qks n rec p=round Tryz.prog 43 (qdm n) (q90 n) qd6 1 q93 q5m (q01 0 0 (q00 Tryz.f46)) rec p:=by intro rec p;kernel_rfl
theorem qnz (n:Nat) {F:Fr} (hF:F.n=43) (hK:Know Inv F.G):q2h Tryz.prog F (qyl n) (q01 0 1 (q00 Tryz.f46)) :=
 q09 hF (by kernel_rfl) (qco n hK) (jc2 n) (fuel:=n) (fun _=>rfl) (q02 fun j L h1 h2 h3=>absurd h2 (Nat.not_lt.2 (Nat.le_trans (by decide +kernel) h1))) (q0g qiz)
theorem j97 (n:Nat) {F:Fr} (hF:F.n=43) (hK:Know Inv F.G):q2h Tryz.prog F (qxa n) (q01 0 0 (q00 Tryz.f46)) :=
 q09 hF (by kernel_rfl) (qco n hK) (jeq n) (fuel:=n) (fun _=>rfl) (q02 (c:=(q01 0 0 (q00 Tryz.f46))) (fun j L h1 h2 h3=>by
  have h2':j<2:=Nat.lt_of_lt_of_le h2 (by decide +kernel)
  match j,h1,h2',h3 with
  | 0,h1,_,_=>exact absurd h1 (by decide)
  | 1,_,_,h3=>obtain rfl:=Option.some.inj h3;exact (show q01 0 1 (q00 Tryz.f46)=q01 1 1 (q01 0 0 (q00 Tryz.f46)) by kernel_rfl) ▸ qnz n hF hK
  | j+2,_,h2',_=>exact absurd h2' (by omega))) (q0g qiz)
theorem jkp (n:Nat) : ∀a,(q8d n).F a=main Tryz.prog 43 (qdm n) (q90 n) qd6 (q00 Tryz.f46) [.tmp 2,.tmp 3] (q8d n).args (q8d n).res a:=by intro a;kernel_rfl
theorem jfy (n:Nat):q0h Inv Tryz.prog (q8d n):=fun G hG=>⟨⟨by kernel_rfl,fun a r h=>q05 (c:=q00 Tryz.f46) Tryz.func46 (by kernel_rfl) (by kernel_rfl) (Nat.le_of_ble_eq_true (by kernel_rfl)) hG.st (by kernel_rfl) (rs:=[.tmp 2,.tmp 3]) (by kernel_rfl) (qco n hG) (lts:=q90 n) (fun F hF hFG=>have hK:Know Inv F.G:=hFG ▸ hG;(q02 (c:=(q00 Tryz.f46)) (fun j L h1 h2 h3=>by
  have h2':j<2:=Nat.lt_of_lt_of_le h2 (by decide +kernel)
  match j,h1,h2',h3 with
  | 0,_,_,h3=>obtain rfl:=Option.some.inj h3;exact (show q01 0 0 (q00 Tryz.f46)=q01 0 0 (q00 Tryz.f46) by kernel_rfl) ▸ j97 n hF hK
  | 1,_,_,h3=>obtain rfl:=Option.some.inj h3;exact (show q01 0 1 (q00 Tryz.f46)=q01 0 1 (q00 Tryz.f46) by kernel_rfl) ▸ qnz n hF hK
  | j+2,_,h2',_=>exact absurd h2' (by omega)))) qiz ((jkp n a).symm.trans h)⟩,rfl⟩
@[reducible] def qo1:SSt:=⟨[(0,.one (.c (.d (.lst (.prod .str (.prod .str (.lst (.prod .str (.prod (.int .i64) (.prod (.int .i64) (.prod (.int .i64) (.prod .str .str)))))))))))),(1,.one (.c (.d (.lst (.int .i64))))),(5,.one (.c (.row 45))),(6,.one (.c (.d (.int .i64)))),(7,.one (.c (.d (.lst (.int .i64))))),(8,.one (.c (.d .bool))),(9,.one (.c (.d (.int .i64))))],[],[(45,⟨3,true,(.int .i64)⟩)]⟩
@[reducible] def qe1:List (Exit×SSt):=[(.exit 2,⟨[(0,.one (.c (.d (.lst (.prod .str (.prod .str (.lst (.prod .str (.prod (.int .i64) (.prod (.int .i64) (.prod (.int .i64) (.prod .str .str)))))))))))),(1,.one (.c (.d (.lst (.int .i64))))),(5,.one (.c (.row 45))),(6,.one (.c (.d (.int .i64)))),(8,.one (.c (.d .bool)))],[],[(45,⟨3,true,(.int .i64)⟩)]⟩)]
def j9b (n:Nat) (rec:(List (List UInt8×(List UInt8×(List (List UInt8×((Int)×((Int)×((Int)×(List UInt8×List UInt8)))))))))->(List (Int))->Int->(List (Int))->Bool->Int->(List (Int))->Option (((List (List UInt8×(List UInt8×(List (List UInt8×((Int)×((Int)×((Int)×(List UInt8×List UInt8)))))))))×((List (Int))×(Unit×(Int×(Bool×Unit)))))×Unit×((List (Int))×Unit))) (a1:List (List UInt8×(List UInt8×(List (List UInt8×((Int)×((Int)×((Int)×(List UInt8×List UInt8))))))))) (a2:List (Int)) (a3:Int) (a4:List (Int)) (a5:Bool) (a6:Int) (a7:List (Int)):Option (((List (List UInt8×(List UInt8×(List (List UInt8×((Int)×((Int)×((Int)×(List UInt8×List UInt8)))))))))×((List (Int))×(Unit×(Int×(Bool×Unit)))))×Unit×((List (Int))×Unit)) :=
 (bif decide (a6<(a4.length:Int)) then (bif a5 then q0f (IntKind.wrap .i64 (a6+1)) fun n4=>rec a1 a2 a3 a4 true n4 a7 else (q0s a4 a6).bind fun x5=>(qal n a2 x5).bind fun r6=>q0f (IntKind.wrap .i64 (a6+1)) fun n7=>rec a1 a2 a3 a4 r6 n7 a7) else some (((a1,(a2,((),(a3,(a5,()))))),((),(a7,())))))
def j6f (n:Nat) (rec:pSt qo1->Option (q06 qe1)) (p:pSt qo1):Option (q06 qe1):=j9b n (fun a1 a2 a3 a4 a5 a6 a7=>rec ((a1,(a2,((),(a3,(a4,(a5,(a6,()))))))),((),(a7,())))) p.1.1 p.1.2.1 p.1.2.2.2.1 p.1.2.2.2.2.1 p.1.2.2.2.2.2.1 p.1.2.2.2.2.2.2.1 p.2.2.1
def qc2 (n m:Nat) (a1:List (List UInt8×(List UInt8×(List (List UInt8×((Int)×((Int)×((Int)×(List UInt8×List UInt8))))))))) (a2:List (Int)) (a3:Int) (a4:List (Int)) (a5:Bool) (a6:Int) (a7:List (Int)):Option (((List (List UInt8×(List UInt8×(List (List UInt8×((Int)×((Int)×((Int)×(List UInt8×List UInt8)))))))))×((List (Int))×(Unit×(Int×(Bool×Unit)))))×Unit×((List (Int))×Unit)):=q08 (j6f n) m ((a1,(a2,((),(a3,(a4,(a5,(a6,()))))))),((),(a7,())))
theorem qu5 (n m:Nat) (a1 a2 a3 a4 a5 a6 a7):qc2 n (m+1) a1 a2 a3 a4 a5 a6 a7=j9b n (fun a1 a2 a3 a4 a5 a6 a7=>qc2 n m a1 a2 a3 a4 a5 a6 a7) a1 a2 a3 a4 a5 a6 a7:=rfl
def jlf (n:Nat):LC:={ sh:=qo1,outs:=qe1,F:=q08 (j6f n) n }
@[reducible] def ql9:SSt:=⟨[(0,.one (.c (.d (.lst (.prod .str (.prod .str (.lst (.prod .str (.prod (.int .i64) (.prod (.int .i64) (.prod (.int .i64) (.prod .str .str)))))))))))),(1,.one (.c (.d (.lst (.int .i64))))),(5,.one (.c (.row 45))),(6,.one (.c (.d (.int .i64))))],[],[(45,⟨3,true,(.int .i64)⟩)]⟩
@[reducible] def qcp:List (Exit×SSt):=[(.exit 0,⟨[(5,.one (.c (.row 45)))],[],[(45,⟨3,true,(.int .i64)⟩)]⟩)]
def j7h (n:Nat) (rec:(List (List UInt8×(List UInt8×(List (List UInt8×((Int)×((Int)×((Int)×(List UInt8×List UInt8)))))))))->(List (Int))->Int->(List (Int))->Option ((Unit×Unit)×Unit×((List (Int))×Unit))) (a1:List (List UInt8×(List UInt8×(List (List UInt8×((Int)×((Int)×((Int)×(List UInt8×List UInt8))))))))) (a2:List (Int)) (a3:Int) (a4:List (Int)):Option ((Unit×Unit)×Unit×((List (Int))×Unit)) :=
 (bif decide (a3<(a1.length:Int)) then (q8o n a1 a3).bind fun r2=>(qal n a2 a3).bind fun r3=>(qc2 n n a1 a2 a3 r2 r3 (0:Int) a4).bind fun o8=>(bif o8.1.2.2.2.2.1 then (ql1 8 o8.2.2.1 ([o8.1.2.2.2.1]:List (Int))).bind fun l9=>q0f (IntKind.wrap .i64 (o8.1.2.2.2.1+1)) fun n10=>rec o8.1.1 o8.1.2.1 n10 l9 else q0f (IntKind.wrap .i64 (o8.1.2.2.2.1+1)) fun n11=>rec o8.1.1 o8.1.2.1 n11 o8.2.2.1) else some ((((),()),((),(a4,())))))
def j9a (n:Nat) (rec:pSt ql9->Option (q06 qcp)) (p:pSt ql9):Option (q06 qcp):=j7h n (fun a1 a2 a3 a4=>rec ((a1,(a2,((),(a3,())))),((),(a4,())))) p.1.1 p.1.2.1 p.1.2.2.2.1 p.2.2.1
def q4u (n m:Nat) (a1:List (List UInt8×(List UInt8×(List (List UInt8×((Int)×((Int)×((Int)×(List UInt8×List UInt8))))))))) (a2:List (Int)) (a3:Int) (a4:List (Int)):Option ((Unit×Unit)×Unit×((List (Int))×Unit)):=q08 (j9a n) m ((a1,(a2,((),(a3,())))),((),(a4,())))
theorem qtx (n m:Nat) (a1 a2 a3 a4):q4u n (m+1) a1 a2 a3 a4=j7h n (fun a1 a2 a3 a4=>q4u n m a1 a2 a3 a4) a1 a2 a3 a4:=rfl
def jmw (n:Nat):LC:={ sh:=ql9,outs:=qcp,F:=q08 (j9a n) n }
def qm5 (n:Nat):List LC:=[jmw n,jlf n]
def qw0 (n:Nat) (a1:List (List UInt8×(List UInt8×(List (List UInt8×((Int)×((Int)×((Int)×(List UInt8×List UInt8))))))))) (a2:List (Int)):Option (List (Int)) :=
 (q4p n a1).bind fun r1=>(bif !decide (r1=0) then some [] else (q4u n n a1 a2 (0:Int) []).bind fun o12=>some o12.2.2.1)
def qm1 (n:Nat):FC:={ f:=48,args:=[.one (.c (.d (.lst (.prod .str (.prod .str (.lst (.prod .str (.prod (.int .i64) (.prod (.int .i64) (.prod (.int .i64) (.prod .str .str))))))))))),.one (.c (.d (.lst (.int .i64))))],res:=.one (.c (.d (.lst (.int .i64)))),F:=fun p=>qw0 n p.1 p.2 }
def qul (n:Nat):List FC:=[q2o n,q7w n,q5h n]
theorem qrs (n:Nat) {G:World->Prop} (hG:Know Inv G) : ∀c∈qul n,q0t Tryz.prog G c/\q0c c.args=true:=List.forall_mem_cons.2 ⟨qdc n G hG,List.forall_mem_cons.2 ⟨j4m n G hG,List.forall_mem_cons.2 ⟨qgx n G hG,(fun _ h=>by cases h)⟩⟩⟩
def qvi:q0b:=[]
theorem j87:drB qvi (q00 Tryz.f48)=true:=by kernel_rfl
theorem jz5 (n:Nat) : ∀rec p,j6f n rec p=round Tryz.prog 47 (qul n) (qm5 n) qvi 2 qo1 qe1 (q01 0 1 (q00 Tryz.f48)) rec p:=by intro rec p;kernel_rfl
theorem jwk (n:Nat) : ∀rec p,j9a n rec p=round Tryz.prog 47 (qul n) (qm5 n) qvi 1 ql9 qcp (q01 0 0 (q00 Tryz.f48)) rec p:=by intro rec p;kernel_rfl
theorem j3k (n:Nat) {F:Fr} (hF:F.n=47) (hK:Know Inv F.G):q2h Tryz.prog F (jlf n) (q01 0 1 (q00 Tryz.f48)) :=
 q09 hF (by kernel_rfl) (qrs n hK) (jz5 n) (fuel:=n) (fun _=>rfl) (q02 fun j L h1 h2 h3=>absurd h2 (Nat.not_lt.2 (Nat.le_trans (by decide +kernel) h1))) (q0g j87)
theorem jrk (n:Nat) {F:Fr} (hF:F.n=47) (hK:Know Inv F.G):q2h Tryz.prog F (jmw n) (q01 0 0 (q00 Tryz.f48)) :=
 q09 hF (by kernel_rfl) (qrs n hK) (jwk n) (fuel:=n) (fun _=>rfl) (q02 (c:=(q01 0 0 (q00 Tryz.f48))) (fun j L h1 h2 h3=>by
  have h2':j<2:=Nat.lt_of_lt_of_le h2 (by decide +kernel)
  match j,h1,h2',h3 with
  | 0,h1,_,_=>exact absurd h1 (by decide)
  | 1,_,_,h3=>obtain rfl:=Option.some.inj h3;exact (show q01 0 1 (q00 Tryz.f48)=q01 1 1 (q01 0 0 (q00 Tryz.f48)) by kernel_rfl) ▸ j3k n hF hK
  | j+2,_,h2',_=>exact absurd h2' (by omega))) (q0g j87)
theorem k0y (n:Nat) : ∀a,(qm1 n).F a=main Tryz.prog 47 (qul n) (qm5 n) qvi (q00 Tryz.f48) [.tmp 4] (qm1 n).args (qm1 n).res a:=by intro a;kernel_rfl
theorem k3g (n:Nat):q0h Inv Tryz.prog (qm1 n):=fun G hG=>⟨⟨by kernel_rfl,fun a r h=>q05 (c:=q00 Tryz.f48) Tryz.func48 (by kernel_rfl) (by kernel_rfl) (Nat.le_of_ble_eq_true (by kernel_rfl)) hG.st (by kernel_rfl) (rs:=[.tmp 4]) (by kernel_rfl) (qrs n hG) (lts:=qm5 n) (fun F hF hFG=>have hK:Know Inv F.G:=hFG ▸ hG;(q02 (c:=(q00 Tryz.f48)) (fun j L h1 h2 h3=>by
  have h2':j<2:=Nat.lt_of_lt_of_le h2 (by decide +kernel)
  match j,h1,h2',h3 with
  | 0,_,_,h3=>obtain rfl:=Option.some.inj h3;exact (show q01 0 0 (q00 Tryz.f48)=q01 0 0 (q00 Tryz.f48) by kernel_rfl) ▸ jrk n hF hK
  | 1,_,_,h3=>obtain rfl:=Option.some.inj h3;exact (show q01 0 1 (q00 Tryz.f48)=q01 0 1 (q00 Tryz.f48) by kernel_rfl) ▸ j3k n hF hK
  | j+2,_,h2',_=>exact absurd h2' (by omega)))) j87 ((k0y n a).symm.trans h)⟩,rfl⟩
@[reducible] def q8y:SSt:=⟨[(0,.one (.c (.d (.lst (.prod .str (.prod .str (.lst (.prod .str (.prod (.int .i64) (.prod (.int .i64) (.prod (.int .i64) (.prod .str .str)))))))))))),(3,.one (.c (.d (.int .i64)))),(4,.one (.c (.d (.int .i64)))),(20,.one (.c (.d (.lst (.prod .str (.prod .str (.lst (.prod .str (.prod (.int .i64) (.prod (.int .i64) (.prod (.int .i64) (.prod .str .str)))))))))))),(21,.one (.c (.d (.int .i64)))),(24,.one (.c (.d .str))),(25,.one (.c (.d (.int .i64)))),(26,.one (.c (.d .bool))),(29,.one (.c (.d (.lst (.prod .str (.prod .str (.lst (.prod .str (.prod (.int .i64) (.prod (.int .i64) (.prod (.int .i64) (.prod .str .str)))))))))))),(30,.one (.c (.d (.int .i64)))),(33,.one (.c (.d (.lst (.prod .str (.prod (.int .i64) (.prod (.int .i64) (.prod (.int .i64) (.prod .str .str))))))))),(34,.one (.c (.d (.int .i64)))),(35,.one (.c (.d .bool)))],[],[]⟩
@[reducible] def q5p:List (Exit×SSt):=[(.ret,⟨[(2,.one (.c (.d .bool)))],[],[]⟩),(.exit 2,⟨[(0,.one (.c (.d (.lst (.prod .str (.prod .str (.lst (.prod .str (.prod (.int .i64) (.prod (.int .i64) (.prod (.int .i64) (.prod .str .str)))))))))))),(3,.one (.c (.d (.int .i64)))),(20,.one (.c (.d (.lst (.prod .str (.prod .str (.lst (.prod .str (.prod (.int .i64) (.prod (.int .i64) (.prod (.int .i64) (.prod .str .str)))))))))))),(21,.one (.c (.d (.int .i64)))),(24,.one (.c (.d .str))),(25,.one (.c (.d (.int .i64)))),(26,.one (.c (.d .bool))),(29,.one (.c (.d (.lst (.prod .str (.prod .str (.lst (.prod .str (.prod (.int .i64) (.prod (.int .i64) (.prod (.int .i64) (.prod .str .str)))))))))))),(30,.one (.c (.d (.int .i64)))),(33,.one (.c (.d (.lst (.prod .str (.prod (.int .i64) (.prod (.int .i64) (.prod (.int .i64) (.prod .str .str))))))))),(34,.one (.c (.d (.int .i64)))),(35,.one (.c (.d .bool)))],[],[]⟩)]
def qkw (n:Nat) (rec:(List (List UInt8×(List UInt8×(List (List UInt8×((Int)×((Int)×((Int)×(List UInt8×List UInt8)))))))))->Int->Int->(List (List UInt8×(List UInt8×(List (List UInt8×((Int)×((Int)×((Int)×(List UInt8×List UInt8)))))))))->Int->(List UInt8)->Int->Bool->(List (List UInt8×(List UInt8×(List (List UInt8×((Int)×((Int)×((Int)×(List UInt8×List UInt8)))))))))->Int->(List (List UInt8×((Int)×((Int)×((Int)×(List UInt8×List UInt8))))))->Int->Bool->Option (((Bool×Unit)×Unit×Unit)⊕(((List (List UInt8×(List UInt8×(List (List UInt8×((Int)×((Int)×((Int)×(List UInt8×List UInt8)))))))))×(Int×((List (List UInt8×(List UInt8×(List (List UInt8×((Int)×((Int)×((Int)×(List UInt8×List UInt8)))))))))×(Int×((List UInt8)×(Int×(Bool×((List (List UInt8×(List UInt8×(List (List UInt8×((Int)×((Int)×((Int)×(List UInt8×List UInt8)))))))))×(Int×((List (List UInt8×((Int)×((Int)×((Int)×(List UInt8×List UInt8))))))×(Int×(Bool×Unit))))))))))))×Unit×Unit))) (a1:List (List UInt8×(List UInt8×(List (List UInt8×((Int)×((Int)×((Int)×(List UInt8×List UInt8))))))))) (a2:Int) (a3:Int) (a4:List (List UInt8×(List UInt8×(List (List UInt8×((Int)×((Int)×((Int)×(List UInt8×List UInt8))))))))) (a5:Int) (a6:List UInt8) (a7:Int) (a8:Bool) (a9:List (List UInt8×(List UInt8×(List (List UInt8×((Int)×((Int)×((Int)×(List UInt8×List UInt8))))))))) (a10:Int) (a11:List (List UInt8×((Int)×((Int)×((Int)×(List UInt8×List UInt8)))))) (a12:Int) (a13:Bool):Option (((Bool×Unit)×Unit×Unit)⊕(((List (List UInt8×(List UInt8×(List (List UInt8×((Int)×((Int)×((Int)×(List UInt8×List UInt8)))))))))×(Int×((List (List UInt8×(List UInt8×(List (List UInt8×((Int)×((Int)×((Int)×(List UInt8×List UInt8)))))))))×(Int×((List UInt8)×(Int×(Bool×((List (List UInt8×(List UInt8×(List (List UInt8×((Int)×((Int)×((Int)×(List UInt8×List UInt8)))))))))×(Int×((List (List UInt8×((Int)×((Int)×((Int)×(List UInt8×List UInt8))))))×(Int×(Bool×Unit))))))))))))×Unit×Unit)) :=
 (q0s a1 a2).bind fun x4=>(bif decide (a3<(x4.2.2.length:Int)) then (q0s a1 a2).bind fun x5=>(q0s x5.2.2 a3).bind fun x6=>(bif decide ((200:Int)<(x6.1.length:Int)) then some (Sum.inl ((false,()),((),()))) else (bif decide ((200:Int)<(x6.2.2.2.2.1.length:Int)) then some (Sum.inl ((false,()),((),()))) else (bif decide ((200:Int)<(x6.2.2.2.2.2.length:Int)) then some (Sum.inl ((false,()),((),()))) else q0f (IntKind.wrap .i64 (a3+(1:Int))) fun n7=>rec a1 a2 n7 a4 a5 a6 a7 a8 a9 a10 a11 a12 a13))) else some (Sum.inr (((a1,(a2,(a4,(a5,(a6,(a7,(a8,(a9,(a10,(a11,(a12,(a13,())))))))))))),((),())))))
def qju (n:Nat) (rec:pSt q8y->Option (q06 q5p)) (p:pSt q8y):Option (q06 q5p):=qkw n (fun a1 a2 a3 a4 a5 a6 a7 a8 a9 a10 a11 a12 a13=>rec ((a1,(a2,(a3,(a4,(a5,(a6,(a7,(a8,(a9,(a10,(a11,(a12,(a13,()))))))))))))),((),()))) p.1.1 p.1.2.1 p.1.2.2.1 p.1.2.2.2.1 p.1.2.2.2.2.1 p.1.2.2.2.2.2.1 p.1.2.2.2.2.2.2.1 p.1.2.2.2.2.2.2.2.1 p.1.2.2.2.2.2.2.2.2.1 p.1.2.2.2.2.2.2.2.2.2.1 p.1.2.2.2.2.2.2.2.2.2.2.1 p.1.2.2.2.2.2.2.2.2.2.2.2.1 p.1.2.2.2.2.2.2.2.2.2.2.2.2.1
def q3b (n m:Nat) (a1:List (List UInt8×(List UInt8×(List (List UInt8×((Int)×((Int)×((Int)×(List UInt8×List UInt8))))))))) (a2:Int) (a3:Int) (a4:List (List UInt8×(List UInt8×(List (List UInt8×((Int)×((Int)×((Int)×(List UInt8×List UInt8))))))))) (a5:Int) (a6:List UInt8) (a7:Int) (a8:Bool) (a9:List (List UInt8×(List UInt8×(List (List UInt8×((Int)×((Int)×((Int)×(List UInt8×List UInt8))))))))) (a10:Int) (a11:List (List UInt8×((Int)×((Int)×((Int)×(List UInt8×List UInt8)))))) (a12:Int) (a13:Bool):Option (((Bool×Unit)×Unit×Unit)⊕(((List (List UInt8×(List UInt8×(List (List UInt8×((Int)×((Int)×((Int)×(List UInt8×List UInt8)))))))))×(Int×((List (List UInt8×(List UInt8×(List (List UInt8×((Int)×((Int)×((Int)×(List UInt8×List UInt8)))))))))×(Int×((List UInt8)×(Int×(Bool×((List (List UInt8×(List UInt8×(List (List UInt8×((Int)×((Int)×((Int)×(List UInt8×List UInt8)))))))))×(Int×((List (List UInt8×((Int)×((Int)×((Int)×(List UInt8×List UInt8))))))×(Int×(Bool×Unit))))))))))))×Unit×Unit)):=q08 (qju n) m ((a1,(a2,(a3,(a4,(a5,(a6,(a7,(a8,(a9,(a10,(a11,(a12,(a13,()))))))))))))),((),()))
theorem qjc (n m:Nat) (a1 a2 a3 a4 a5 a6 a7 a8 a9 a10 a11 a12 a13):q3b n (m+1) a1 a2 a3 a4 a5 a6 a7 a8 a9 a10 a11 a12 a13=qkw n (fun a1 a2 a3 a4 a5 a6 a7 a8 a9 a10 a11 a12 a13=>q3b n m a1 a2 a3 a4 a5 a6 a7 a8 a9 a10 a11 a12 a13) a1 a2 a3 a4 a5 a6 a7 a8 a9 a10 a11 a12 a13:=rfl
def qyc (n:Nat):LC:={ sh:=q8y,outs:=q5p,F:=q08 (qju n) n }
@[reducible] def q9u:SSt:=⟨[(0,.one (.c (.d (.lst (.prod .str (.prod .str (.lst (.prod .str (.prod (.int .i64) (.prod (.int .i64) (.prod (.int .i64) (.prod .str .str)))))))))))),(3,.one (.c (.d (.int .i64))))],[],[]⟩
@[reducible] def q5a:List (Exit×SSt):=[(.ret,⟨[(2,.one (.c (.d .bool)))],[],[]⟩),(.exit 0,⟨[(0,.one (.c (.d (.lst (.prod .str (.prod .str (.lst (.prod .str (.prod (.int .i64) (.prod (.int .i64) (.prod (.int .i64) (.prod .str .str))))))))))))],[],[]⟩)]
def qky (n:Nat) (rec:(List (List UInt8×(List UInt8×(List (List UInt8×((Int)×((Int)×((Int)×(List UInt8×List UInt8)))))))))->Int->Option (((Bool×Unit)×Unit×Unit)⊕(((List (List UInt8×(List UInt8×(List (List UInt8×((Int)×((Int)×((Int)×(List UInt8×List UInt8)))))))))×Unit)×Unit×Unit))) (a1:List (List UInt8×(List UInt8×(List (List UInt8×((Int)×((Int)×((Int)×(List UInt8×List UInt8))))))))) (a2:Int):Option (((Bool×Unit)×Unit×Unit)⊕(((List (List UInt8×(List UInt8×(List (List UInt8×((Int)×((Int)×((Int)×(List UInt8×List UInt8)))))))))×Unit)×Unit×Unit)) :=
 (bif decide (a2<(a1.length:Int)) then (q0s a1 a2).bind fun x1=>(bif decide (200<(x1.2.1.length:Int)) then some (Sum.inl ((false,()),((),()))) else (q0s a1 a2).bind fun x2=>(bif decide (200<(x2.1.length:Int)) then some (Sum.inl ((false,()),((),()))) else (q0s a1 a2).bind fun x3=>(bif decide (30<(x3.2.2.length:Int)) then some (Sum.inl ((false,()),((),()))) else (q3b n n a1 a2 (0:Int) a1 a2 x2.1 (x2.1.length:Int) (decide (200<(x2.1.length:Int))) a1 a2 x3.2.2 (x3.2.2.length:Int) (decide (30<(x3.2.2.length:Int)))).bind fun o8=>Sum.elim (fun (q9:(Bool×Unit)×Unit×Unit)=>some (Sum.inl ((q9.1.1,()),((),())))) (fun (q10:((List (List UInt8×(List UInt8×(List (List UInt8×((Int)×((Int)×((Int)×(List UInt8×List UInt8)))))))))×(Int×((List (List UInt8×(List UInt8×(List (List UInt8×((Int)×((Int)×((Int)×(List UInt8×List UInt8)))))))))×(Int×((List UInt8)×(Int×(Bool×((List (List UInt8×(List UInt8×(List (List UInt8×((Int)×((Int)×((Int)×(List UInt8×List UInt8)))))))))×(Int×((List (List UInt8×((Int)×((Int)×((Int)×(List UInt8×List UInt8))))))×(Int×(Bool×Unit))))))))))))×Unit×Unit)=>q0f (IntKind.wrap .i64 (q10.1.2.1+1)) fun n11=>rec q10.1.1 n11) o8))) else some (Sum.inr (((a1,()),((),())))))
def qjw (n:Nat) (rec:pSt q9u->Option (q06 q5a)) (p:pSt q9u):Option (q06 q5a):=qky n (fun a1 a2=>rec ((a1,(a2,())),((),()))) p.1.1 p.1.2.1
def q1n (n m:Nat) (a1:List (List UInt8×(List UInt8×(List (List UInt8×((Int)×((Int)×((Int)×(List UInt8×List UInt8))))))))) (a2:Int):Option (((Bool×Unit)×Unit×Unit)⊕(((List (List UInt8×(List UInt8×(List (List UInt8×((Int)×((Int)×((Int)×(List UInt8×List UInt8)))))))))×Unit)×Unit×Unit)):=q08 (qjw n) m ((a1,(a2,())),((),()))
theorem qip (n m:Nat) (a1 a2):q1n n (m+1) a1 a2=qky n (fun a1 a2=>q1n n m a1 a2) a1 a2:=rfl
def qxl (n:Nat):LC:={ sh:=q9u,outs:=q5a,F:=q08 (qjw n) n }
def q97 (n:Nat):List LC:=[qxl n,qyc n]
def qhl (n:Nat) (a1:List (List UInt8×(List UInt8×(List (List UInt8×((Int)×((Int)×((Int)×(List UInt8×List UInt8))))))))):Option (Bool) :=
 (q1n n n a1 (0:Int)).bind fun o12=>Sum.elim (fun (q13:(Bool×Unit)×Unit×Unit)=>some q13.1.1) (fun (q14:((List (List UInt8×(List UInt8×(List (List UInt8×((Int)×((Int)×((Int)×(List UInt8×List UInt8)))))))))×Unit)×Unit×Unit)=>some (decide ((q14.1.1.length:Int)<=20))) o12
def q8r (n:Nat):FC:={ f:=35,args:=[.one (.c (.d (.lst (.prod .str (.prod .str (.lst (.prod .str (.prod (.int .i64) (.prod (.int .i64) (.prod (.int .i64) (.prod .str .str)))))))))))],res:=.one (.c (.d .bool)),F:=fun p=>qhl n p }
def qdb (n:Nat):List FC:=[]
theorem qdz (n:Nat) {G:World->Prop} (hG:Know Inv G) : ∀c∈qdb n,q0t Tryz.prog G c/\q0c c.args=true:=(fun _ h=>by cases h)
def qch:q0b:=[]
theorem ql2:drB qch (q00 Tryz.f35)=true:=by kernel_rfl
theorem jdz (n:Nat) : ∀rec p,qju n rec p=round Tryz.prog 76 (qdb n) (q97 n) qch 2 q8y q5p (q01 0 1 (q00 Tryz.f35)) rec p:=by intro rec p;kernel_rfl
theorem jdh (n:Nat) : ∀rec p,qjw n rec p=round Tryz.prog 76 (qdb n) (q97 n) qch 1 q9u q5a (q01 0 0 (q00 Tryz.f35)) rec p:=by intro rec p;kernel_rfl
theorem ql6 (n:Nat) {F:Fr} (hF:F.n=76) (hK:Know Inv F.G):q2h Tryz.prog F (qyc n) (q01 0 1 (q00 Tryz.f35)) :=
 q09 hF (by kernel_rfl) (qdz n hK) (jdz n) (fuel:=n) (fun _=>rfl) (q02 fun j L h1 h2 h3=>absurd h2 (Nat.not_lt.2 (Nat.le_trans (by decide +kernel) h1))) (q0g ql2)
theorem j6s (n:Nat) {F:Fr} (hF:F.n=76) (hK:Know Inv F.G):q2h Tryz.prog F (qxl n) (q01 0 0 (q00 Tryz.f35)) :=
 q09 hF (by kernel_rfl) (qdz n hK) (jdh n) (fuel:=n) (fun _=>rfl) (q02 (c:=(q01 0 0 (q00 Tryz.f35))) (fun j L h1 h2 h3=>by
  have h2':j<2:=Nat.lt_of_lt_of_le h2 (by decide +kernel)
  match j,h1,h2',h3 with
  | 0,h1,_,_=>exact absurd h1 (by decide)
  | 1,_,_,h3=>obtain rfl:=Option.some.inj h3;exact (show q01 0 1 (q00 Tryz.f35)=q01 1 1 (q01 0 0 (q00 Tryz.f35)) by kernel_rfl) ▸ ql6 n hF hK
  | j+2,_,h2',_=>exact absurd h2' (by omega))) (q0g ql2)
theorem jh4 (n:Nat) : ∀a,(q8r n).F a=main Tryz.prog 76 (qdb n) (q97 n) qch (q00 Tryz.f35) [.tmp 2] (q8r n).args (q8r n).res a:=by intro a;kernel_rfl
theorem jhk (n:Nat):q0h Inv Tryz.prog (q8r n):=fun G hG=>⟨⟨by kernel_rfl,fun a r h=>q05 (c:=q00 Tryz.f35) Tryz.func35 (by kernel_rfl) (by kernel_rfl) (Nat.le_of_ble_eq_true (by kernel_rfl)) hG.st (by kernel_rfl) (rs:=[.tmp 2]) (by kernel_rfl) (qdz n hG) (lts:=q97 n) (fun F hF hFG=>have hK:Know Inv F.G:=hFG ▸ hG;(q02 (c:=(q00 Tryz.f35)) (fun j L h1 h2 h3=>by
  have h2':j<2:=Nat.lt_of_lt_of_le h2 (by decide +kernel)
  match j,h1,h2',h3 with
  | 0,_,_,h3=>obtain rfl:=Option.some.inj h3;exact (show q01 0 0 (q00 Tryz.f35)=q01 0 0 (q00 Tryz.f35) by kernel_rfl) ▸ j6s n hF hK
  | 1,_,_,h3=>obtain rfl:=Option.some.inj h3;exact (show q01 0 1 (q00 Tryz.f35)=q01 0 1 (q00 Tryz.f35) by kernel_rfl) ▸ ql6 n hF hK
  | j+2,_,h2',_=>exact absurd h2' (by omega)))) ql2 ((jh4 n a).symm.trans h)⟩,rfl⟩
end Go.Proofs.YtggoebaobojmjaaGreatDoor.AM
