
import Derived.Test.YtapfankgdkdkgaaGreatDoorEb10
namespace Go.Proofs.YtapfankgdkdkgaaGreatDoor.AM
open Go.RowKit
set_option linter.unusedVariables false
set_option maxRecDepth 20000
def q3t (n:Nat):List LC:=[]
def q1t (n:Nat) (a1:Yy) (a2:Yy):Option (Bool) :=
 (bif decide ((a2.length:Int)<=(a1.length:Int)) then (q1d a1 (0:Int) (a2.length:Int)).bind fun s1=>some (decide (s1=a2)) else some false)
def q0s (n:Nat):FC:={ f:=181,args:=[.one (.c (.d .str)),.one (.c (.d .str))],res:=.one (.c (.d .bool)),F:=fun p=>q1t n p.1 p.2 }
def q4q (n:Nat):List FC:=[]
theorem q7m (n:Nat) {G:World->Prop} (hG:Know Inv G) : ∀c∈q4q n,q0p Tryz.prog G c/\q07 c.args=true:=(fun _ h=>by cases h)
def q49:q06:=[]
theorem qal:drB q49 (q00 Tryz.f181)=true:=by kernel_rfl
theorem qax (n:Nat) : ∀a,(q0s n).F a=main Tryz.prog 18 (q4q n) (q3t n) q49 (q00 Tryz.f181) [.tmp 4] (q0s n).args (q0s n).res a:=by intro a;kernel_rfl
theorem q4d (n:Nat):q09 Inv Tryz.prog (q0s n):=fun G hG=>⟨⟨by kernel_rfl,fun a r h=>q03 (c:=q00 Tryz.f181) Tryz.func181 (by kernel_rfl) (by kernel_rfl) (Nat.le_of_ble_eq_true (by kernel_rfl)) hG.st (by kernel_rfl) (rs:=[.tmp 4]) (by kernel_rfl) (q7m n hG) (lts:=q3t n) (fun F hF hFG=>have hK:Know Inv F.G:=hFG ▸ hG;(q02 fun j L h1 h2 h3=>absurd h2 (Nat.not_lt.2 (Nat.le_trans (by decide +kernel) h1)))) qal ((qax n a).symm.trans h)⟩,rfl⟩
def qd8 (n:Nat):List LC:=[]
def qbk (n:Nat) (a1:Yy) (a2:Yy):Option (Yy) :=
 (q1t n a1 a2).bind fun r1=>(bif r1 then (q1d a1 (a2.length:Int) (a1.length:Int)).bind fun s2=>some s2 else some a1)
def q3q (n:Nat):FC:={ f:=183,args:=[.one (.c (.d .str)),.one (.c (.d .str))],res:=.one (.c (.d .str)),F:=fun p=>qbk n p.1 p.2 }
def qgk (n:Nat):List FC:=[q0s n]
theorem qpe (n:Nat) {G:World->Prop} (hG:Know Inv G) : ∀c∈qgk n,q0p Tryz.prog G c/\q07 c.args=true:=List.forall_mem_cons.2 ⟨q4d n G hG,(fun _ h=>by cases h)⟩
def qgq:q06:=[]
theorem qy1:drB qgq (q00 Tryz.f183)=true:=by kernel_rfl
theorem qyg (n:Nat) : ∀a,(q3q n).F a=main Tryz.prog 13 (qgk n) (qd8 n) qgq (q00 Tryz.f183) [.tmp 4] (q3q n).args (q3q n).res a:=by intro a;kernel_rfl
theorem qyi (n:Nat):q09 Inv Tryz.prog (q3q n):=fun G hG=>⟨⟨by kernel_rfl,fun a r h=>q03 (c:=q00 Tryz.f183) Tryz.func183 (by kernel_rfl) (by kernel_rfl) (Nat.le_of_ble_eq_true (by kernel_rfl)) hG.st (by kernel_rfl) (rs:=[.tmp 4]) (by kernel_rfl) (qpe n hG) (lts:=qd8 n) (fun F hF hFG=>have hK:Know Inv F.G:=hFG ▸ hG;(q02 fun j L h1 h2 h3=>absurd h2 (Nat.not_lt.2 (Nat.le_trans (by decide +kernel) h1)))) qy1 ((qyg n a).symm.trans h)⟩,rfl⟩
def qgs (n:Nat):List LC:=[]
def q91 (n:Nat) (a1:Yy) (a2:Yy):Option (Yy) :=
 (qbk n a1 a2).bind fun r1=>some r1
def q48 (n:Nat):FC:={ f:=155,args:=[.one (.c (.d .str)),.one (.c (.d .str))],res:=.one (.c (.d .str)),F:=fun p=>q91 n p.1 p.2 }
def qj4 (n:Nat):List FC:=[q3q n]
theorem qxj (n:Nat) {G:World->Prop} (hG:Know Inv G) : ∀c∈qj4 n,q0p Tryz.prog G c/\q07 c.args=true:=List.forall_mem_cons.2 ⟨qyi n G hG,(fun _ h=>by cases h)⟩
def qjc:q06:=[]
theorem j3c:drB qjc (q00 Tryz.f155)=true:=by kernel_rfl
theorem j3b (n:Nat) : ∀a,(q48 n).F a=main Tryz.prog 8 (qj4 n) (qgs n) qjc (q00 Tryz.f155) [.tmp 4] (q48 n).args (q48 n).res a:=by intro a;kernel_rfl
theorem qkr (n:Nat):q09 Inv Tryz.prog (q48 n):=fun G hG=>⟨⟨by kernel_rfl,fun a r h=>q03 (c:=q00 Tryz.f155) Tryz.func155 (by kernel_rfl) (by kernel_rfl) (Nat.le_of_ble_eq_true (by kernel_rfl)) hG.st (by kernel_rfl) (rs:=[.tmp 4]) (by kernel_rfl) (qxj n hG) (lts:=qgs n) (fun F hF hFG=>have hK:Know Inv F.G:=hFG ▸ hG;(q02 fun j L h1 h2 h3=>absurd h2 (Nat.not_lt.2 (Nat.le_trans (by decide +kernel) h1)))) j3c ((j3b n a).symm.trans h)⟩,rfl⟩
def jlm (n:Nat):List LC:=[]
def jpt (n:Nat) (a1:Yy) (a2:Yy):Option (Yy×(Yy×(Bool))) :=
 (qs1 a1 a2).bind fun (r1:Int)=>(bif decide (0<=r1) then (q1d a1 (0:Int) r1).bind fun s2=>q04 (IntKind.wrap .i64 (r1+(a2.length:Int))) fun (n3:Int)=>(q1d a1 n3 (a1.length:Int)).bind fun s4=>some (s2,(s4,true)) else some (a1,(([]:Yy),false)))
def quc (n:Nat):FC:={ f:=82,args:=[.one (.c (.d .str)),.one (.c (.d .str))],res:=.tup [.c (.d .str),.c (.d .str),.c (.d .bool)],F:=fun p=>jpt n p.1 p.2 }
def jro (n:Nat):List FC:=[jjz]
theorem jr4 (n:Nat) {G:World->Prop} (hG:Know Inv G) : ∀c∈jro n,q0p Tryz.prog G c/\q07 c.args=true:=List.forall_mem_cons.2 ⟨jzo G hG,(fun _ h=>by cases h)⟩
def jw8:q06:=[(3,[⟨3298534883329,2^39,0⟩,⟨12582913*2^21,2^42,0⟩,⟨393*2^39,2^45,3⟩,⟨1688849860263937,2^48,0⟩,⟨6442450945*2^21,2^51,0⟩,⟨108086391056891912,2^54,0⟩,⟨49*2^54,2^57,32⟩,⟨3137*2^51,2^60,112⟩,⟨200705*2^48,2^63,248⟩,⟨35184372113408,4096,7⟩,⟨9223372036854972416,32768,1023⟩,⟨3*2^19,2^18,2047⟩])]
theorem k62:drB jw8 (q00 Tryz.f82)=true:=by kernel_rfl
theorem k3x (n:Nat) : ∀a,(quc n).F a=main Tryz.prog 23 (jro n) (jlm n) jw8 (q00 Tryz.f82) [.tmp 4,.tmp 5,.tmp 6] (quc n).args (quc n).res a:=by intro a;kernel_rfl
theorem k5z (n:Nat):q09 Inv Tryz.prog (quc n):=fun G hG=>⟨⟨by kernel_rfl,fun a r h=>q03 (c:=q00 Tryz.f82) Tryz.func82 (by kernel_rfl) (by kernel_rfl) (Nat.le_of_ble_eq_true (by kernel_rfl)) hG.st (by kernel_rfl) (rs:=[.tmp 4,.tmp 5,.tmp 6]) (by kernel_rfl) (jr4 n hG) (lts:=jlm n) (fun F hF hFG=>have hK:Know Inv F.G:=hFG ▸ hG;(q02 fun j L h1 h2 h3=>absurd h2 (Nat.not_lt.2 (Nat.le_trans (by decide +kernel) h1)))) k62 ((k3x n a).symm.trans h)⟩,rfl⟩
def jvq (n:Nat):List LC:=[]
def j50 (n:Nat) (a1:Yy) (a2:Yy):Option (Yy×(Yy×(Bool))) :=
 (jpt n a1 a2).bind fun r1=>some r1
def qru (n:Nat):FC:={ f:=55,args:=[.one (.c (.d .str)),.one (.c (.d .str))],res:=.tup [.c (.d .str),.c (.d .str),.c (.d .bool)],F:=fun p=>j50 n p.1 p.2 }
def k1u (n:Nat):List FC:=[quc n]
theorem jz9 (n:Nat) {G:World->Prop} (hG:Know Inv G) : ∀c∈k1u n,q0p Tryz.prog G c/\q07 c.args=true:=List.forall_mem_cons.2 ⟨k5z n G hG,(fun _ h=>by cases h)⟩
def k2y:q06:=[]
theorem k7n:drB k2y (q00 Tryz.f55)=true:=by kernel_rfl
theorem k91 (n:Nat) : ∀a,(qru n).F a=main Tryz.prog 13 (k1u n) (jvq n) k2y (q00 Tryz.f55) [.tmp 4,.tmp 5,.tmp 6] (qru n).args (qru n).res a:=by intro a;kernel_rfl
theorem jt8 (n:Nat):q09 Inv Tryz.prog (qru n):=fun G hG=>⟨⟨by kernel_rfl,fun a r h=>q03 (c:=q00 Tryz.f55) Tryz.func55 (by kernel_rfl) (by kernel_rfl) (Nat.le_of_ble_eq_true (by kernel_rfl)) hG.st (by kernel_rfl) (rs:=[.tmp 4,.tmp 5,.tmp 6]) (by kernel_rfl) (jz9 n hG) (lts:=jvq n) (fun F hF hFG=>have hK:Know Inv F.G:=hFG ▸ hG;(q02 fun j L h1 h2 h3=>absurd h2 (Nat.not_lt.2 (Nat.le_trans (by decide +kernel) h1)))) k7n ((k91 n a).symm.trans h)⟩,rfl⟩
def jbo (n:Nat):List LC:=[]
def j4g (n:Nat) (a1:Int):Option (Bool) :=
 some (!decide (a1=a1))
def qiv (n:Nat):FC:={ f:=184,args:=[.one (.c (.d (.int .i64)))],res:=.one (.c (.d .bool)),F:=fun p=>j4g n p }
def jk3 (n:Nat):List FC:=[]
theorem jmm (n:Nat) {G:World->Prop} (hG:Know Inv G) : ∀c∈jk3 n,q0p Tryz.prog G c/\q07 c.args=true:=(fun _ h=>by cases h)
def jkr:q06:=[]
theorem k1j:drB jkr (q00 Tryz.f184)=true:=by kernel_rfl
theorem jzd (n:Nat) : ∀a,(qiv n).F a=main Tryz.prog 6 (jk3 n) (jbo n) jkr (q00 Tryz.f184) [.tmp 2] (qiv n).args (qiv n).res a:=by intro a;kernel_rfl
theorem jz3 (n:Nat):q09 Inv Tryz.prog (qiv n):=fun G hG=>⟨⟨by kernel_rfl,fun a r h=>q03 (c:=q00 Tryz.f184) Tryz.func184 (by kernel_rfl) (by kernel_rfl) (Nat.le_of_ble_eq_true (by kernel_rfl)) hG.st (by kernel_rfl) (rs:=[.tmp 2]) (by kernel_rfl) (jmm n hG) (lts:=jbo n) (fun F hF hFG=>have hK:Know Inv F.G:=hFG ▸ hG;(q02 fun j L h1 h2 h3=>absurd h2 (Nat.not_lt.2 (Nat.le_trans (by decide +kernel) h1)))) k1j ((jzd n a).symm.trans h)⟩,rfl⟩
def j1v (n:Nat):List LC:=[]
def qbm (n:Nat) (a1:Int) (a2:Int):Option (Int) :=
 (j4g n a1).bind fun r1=>(j4g n a2).bind fun r2=>(bif r1 then (bif r2 then some (0:Int) else some (-1:Int)) else (bif r2 then some (1:Int) else (bif decide (a1<a2) then some (-1:Int) else (bif decide (a2<a1) then some (1:Int) else some (0:Int)))))
def qa4 (n:Nat):FC:={ f:=158,args:=[.one (.c (.d (.int .i64))),.one (.c (.d (.int .i64)))],res:=.one (.c (.d (.int .i64))),F:=fun p=>qbm n p.1 p.2 }
def jan (n:Nat):List FC:=[qiv n]
theorem jfg (n:Nat) {G:World->Prop} (hG:Know Inv G) : ∀c∈jan n,q0p Tryz.prog G c/\q07 c.args=true:=List.forall_mem_cons.2 ⟨jz3 n G hG,(fun _ h=>by cases h)⟩
def j8x:q06:=[]
theorem jx4:drB j8x (q00 Tryz.f158)=true:=by kernel_rfl
theorem jso (n:Nat) : ∀a,(qa4 n).F a=main Tryz.prog 20 (jan n) (j1v n) j8x (q00 Tryz.f158) [.tmp 4] (qa4 n).args (qa4 n).res a:=by intro a;kernel_rfl
theorem j7j (n:Nat):q09 Inv Tryz.prog (qa4 n):=fun G hG=>⟨⟨by kernel_rfl,fun a r h=>q03 (c:=q00 Tryz.f158) Tryz.func158 (by kernel_rfl) (by kernel_rfl) (Nat.le_of_ble_eq_true (by kernel_rfl)) hG.st (by kernel_rfl) (rs:=[.tmp 4]) (by kernel_rfl) (jfg n hG) (lts:=j1v n) (fun F hF hFG=>have hK:Know Inv F.G:=hFG ▸ hG;(q02 fun j L h1 h2 h3=>absurd h2 (Nat.not_lt.2 (Nat.le_trans (by decide +kernel) h1)))) jx4 ((jso n a).symm.trans h)⟩,rfl⟩
@[reducible] def qku:SSt:=⟨[(3,.one (.c (.d (.int .i64)))),(6,.one (.c (.d (.lst (.int .i64))))),(7,.one (.c (.d (.int .i64)))),(8,.one (.c (.d (.int .i64))))],[],[]⟩
@[reducible] def qbz:List (Exit×SSt):=[(.ret,⟨[(2,.one (.c (.d (.int .i64))))],[],[]⟩),(.exit 0,⟨[(3,.one (.c (.d (.int .i64))))],[],[]⟩)]
def j3l (n:Nat) (rec:Int->(List (Int))->Int->Int->Option (((Int×Unit)×Unit×Unit)⊕((Int×Unit)×Unit×Unit))) (a1:Int) (a2:List (Int)) (a3:Int) (a4:Int):Option (((Int×Unit)×Unit×Unit)⊕((Int×Unit)×Unit×Unit)) :=
 (bif decide (a4<a3) then (q0n a2 a4).bind fun x1=>(bif !decide (x1=a1) then some (Sum.inl ((x1,()),((),()))) else q04 (IntKind.wrap .i64 (a4+1)) fun n2=>rec a1 a2 a3 n2) else some (Sum.inr (((a1,()),((),())))))
def j38 (n:Nat) (rec:pSt qku->Option (q0f qbz)) (p:pSt qku):Option (q0f qbz):=j3l n (fun a1 a2 a3 a4=>rec ((a1,(a2,(a3,(a4,())))),((),()))) p.1.1 p.1.2.1 p.1.2.2.1 p.1.2.2.2.1
def qaz (n m:Nat) (a1:Int) (a2:List (Int)) (a3:Int) (a4:Int):Option (((Int×Unit)×Unit×Unit)⊕((Int×Unit)×Unit×Unit)):=q0g (j38 n) m ((a1,(a2,(a3,(a4,())))),((),()))
theorem qph (n m:Nat) (a1 a2 a3 a4):qaz n (m+1) a1 a2 a3 a4=j3l n (fun a1 a2 a3 a4=>qaz n m a1 a2 a3 a4) a1 a2 a3 a4:=rfl
def jld (n:Nat):LC:={ sh:=qku,outs:=qbz,F:=q0g (j38 n) n }
def qsd (n:Nat):List LC:=[jld n]
def qs2 (n:Nat) (a1:List (Int)):Option (Int) :=
 (qaz n n (0:Int) a1 (a1.length:Int) (0:Int)).bind fun o3=>Sum.elim (fun (q4:(Int×Unit)×Unit×Unit)=>some q4.1.1) (fun (q5:(Int×Unit)×Unit×Unit)=>some q5.1.1) o3
def qfu (n:Nat):FC:={ f:=157,args:=[.one (.c (.d (.lst (.int .i64))))],res:=.one (.c (.d (.int .i64))),F:=fun p=>qs2 n p }
def j4q (n:Nat):List FC:=[]
theorem j1e (n:Nat) {G:World->Prop} (hG:Know Inv G) : ∀c∈j4q n,q0p Tryz.prog G c/\q07 c.args=true:=(fun _ h=>by cases h)
def j30:q06:=[]
theorem jhi:drB j30 (q00 Tryz.f157)=true:=by kernel_rfl
theorem jux (n:Nat) : ∀rec p,j38 n rec p=round Tryz.prog 18 (j4q n) (qsd n) j30 1 qku qbz (q01 0 0 (q00 Tryz.f157)) rec p:=by intro rec p;kernel_rfl
theorem jos (n:Nat) {F:Fr} (hF:F.n=18) (hK:Know Inv F.G):q75 Tryz.prog F (jld n) (q01 0 0 (q00 Tryz.f157)) :=
 q0i hF (by kernel_rfl) (j1e n hK) (jux n) (fuel:=n) (fun _=>rfl) (q02 fun j L h1 h2 h3=>absurd h2 (Nat.not_lt.2 (Nat.le_trans (by decide +kernel) h1))) (q0t jhi)
theorem jzp (n:Nat) : ∀a,(qfu n).F a=main Tryz.prog 18 (j4q n) (qsd n) j30 (q00 Tryz.f157) [.tmp 2] (qfu n).args (qfu n).res a:=by intro a;kernel_rfl
theorem jia (n:Nat):q09 Inv Tryz.prog (qfu n):=fun G hG=>⟨⟨by kernel_rfl,fun a r h=>q03 (c:=q00 Tryz.f157) Tryz.func157 (by kernel_rfl) (by kernel_rfl) (Nat.le_of_ble_eq_true (by kernel_rfl)) hG.st (by kernel_rfl) (rs:=[.tmp 2]) (by kernel_rfl) (j1e n hG) (lts:=qsd n) (fun F hF hFG=>have hK:Know Inv F.G:=hFG ▸ hG;(q02 (c:=(q00 Tryz.f157)) (fun j L h1 h2 h3=>by
  have h2':j<1:=Nat.lt_of_lt_of_le h2 (by decide +kernel)
  match j,h1,h2',h3 with
  | 0,_,_,h3=>obtain rfl:=Option.some.inj h3;exact (show q01 0 0 (q00 Tryz.f157)=q01 0 0 (q00 Tryz.f157) by kernel_rfl) ▸ jos n hF hK
  | j+1,_,h2',_=>exact absurd h2' (by omega)))) jhi ((jzp n a).symm.trans h)⟩,rfl⟩
@[reducible] def qfg:SSt:=⟨[(1,.one (.c (.box 1 0))),(11,.one (.agg [.d (.int .i64),.d (.int .i64),.d (.int .i64)])),(12,.one (.c (.d (.int .i64))))],[(1,(44,[.d (.int .i64),.d (.int .i64),.d (.int .i64),.d .str,.d .str]))],[]⟩
@[reducible] def q85:List (Exit×SSt):=[(.ret,⟨[(2,.one (.c (.d .bool)))],[],[]⟩),(.exit 0,⟨[(1,.one (.c (.box 1 0)))],[(1,(44,[.d (.int .i64),.d (.int .i64),.d (.int .i64),.d .str,.d .str]))],[]⟩)]
def qi7 (n:Nat) (rec:Int->Int->Int->Int->Int->Int->Int->(Yy)->(Yy)->Option (((Bool×Unit)×Unit×Unit)⊕((Unit×Unit)×((Vv)×Unit)×Unit))) (a1:Int) (a2:Int) (a3:Int) (a4:Int) (a5:Int) (a6:Int) (a7:Int) (a8:Yy) (a9:Yy):Option (((Bool×Unit)×Unit×Unit)⊕((Unit×Unit)×((Vv)×Unit)×Unit)) :=
 (bif decide (a4<3) then (q0n ([a1,a2,a3]:List (Int)) a4).bind fun x1=>(bif decide (x1<0) then some (Sum.inl ((false,()),((),()))) else (bif decide (999999999<x1) then some (Sum.inl ((false,()),((),()))) else q04 (IntKind.wrap .i64 (a4+1)) fun n2=>rec a1 a2 a3 n2 a5 a6 a7 a8 a9)) else some (Sum.inr ((((),()),(((a5,(a6,(a7,(a8,a9)))),()),())))))
def qw9 (n:Nat) (rec:pSt qfg->Option (q0f q85)) (p:pSt qfg):Option (q0f q85):=qi7 n (fun a1 a2 a3 a4 a5 a6 a7 a8 a9=>rec (((),((a1,(a2,a3)),(a4,()))),(((a5,(a6,(a7,(a8,a9)))),()),()))) p.1.2.1.1 p.1.2.1.2.1 p.1.2.1.2.2 p.1.2.2.1 p.2.1.1.1 p.2.1.1.2.1 p.2.1.1.2.2.1 p.2.1.1.2.2.2.1 p.2.1.1.2.2.2.2
def q60 (n m:Nat) (a1:Int) (a2:Int) (a3:Int) (a4:Int) (a5:Int) (a6:Int) (a7:Int) (a8:Yy) (a9:Yy):Option (((Bool×Unit)×Unit×Unit)⊕((Unit×Unit)×((Vv)×Unit)×Unit)):=q0g (qw9 n) m (((),((a1,(a2,a3)),(a4,()))),(((a5,(a6,(a7,(a8,a9)))),()),()))
theorem q9d (n m:Nat) (a1 a2 a3 a4 a5 a6 a7 a8 a9):q60 n (m+1) a1 a2 a3 a4 a5 a6 a7 a8 a9=qi7 n (fun a1 a2 a3 a4 a5 a6 a7 a8 a9=>q60 n m a1 a2 a3 a4 a5 a6 a7 a8 a9) a1 a2 a3 a4 a5 a6 a7 a8 a9:=rfl
def j6j (n:Nat):LC:={ sh:=qfg,outs:=q85,F:=q0g (qw9 n) n }
def ql9 (n:Nat):List LC:=[j6j n]
def q6c (n:Nat) (a1:Vv):Option (Bool) :=
 (q60 n n a1.1 a1.2.1 a1.2.2.1 (0:Int) a1.1 a1.2.1 a1.2.2.1 a1.2.2.2.1 a1.2.2.2.2).bind fun o3=>Sum.elim (fun (q4:(Bool×Unit)×Unit×Unit)=>some q4.1.1) (fun (q5:(Unit×Unit)×((Vv)×Unit)×Unit)=>(qvk q5.2.1.1.2.2.2.1 ()).bind fun (r6:Bool)=>(bif r6 then (qlu q5.2.1.1.2.2.2.2 ()).bind fun (r7:Bool)=>some r7 else some false)) o3
def q4r (n:Nat):FC:={ f:=74,args:=[.one (.agg [.d (.int .i64),.d (.int .i64),.d (.int .i64),.d .str,.d .str])],res:=.one (.c (.d .bool)),F:=fun p=>q6c n p }
def qxn (n:Nat):List FC:=[j0m,qvz]
theorem qwi (n:Nat) {G:World->Prop} (hG:Know Inv G) : ∀c∈qxn n,q0p Tryz.prog G c/\q07 c.args=true:=List.forall_mem_cons.2 ⟨jnb G hG,List.forall_mem_cons.2 ⟨jdz G hG,(fun _ h=>by cases h)⟩⟩
def qwh:q06:=[]
theorem jai:drB qwh (q00 Tryz.f74)=true:=by kernel_rfl
theorem jo6 (n:Nat) : ∀rec p,qw9 n rec p=round Tryz.prog 30 (qxn n) (ql9 n) qwh 1 qfg q85 (q01 0 0 (q00 Tryz.f74)) rec p:=by intro rec p;kernel_rfl
theorem jgb (n:Nat) {F:Fr} (hF:F.n=30) (hK:Know Inv F.G):q75 Tryz.prog F (j6j n) (q01 0 0 (q00 Tryz.f74)) :=
 q0i hF (by kernel_rfl) (qwi n hK) (jo6 n) (fuel:=n) (fun _=>rfl) (q02 fun j L h1 h2 h3=>absurd h2 (Nat.not_lt.2 (Nat.le_trans (by decide +kernel) h1))) (q0t jai)
theorem jve (n:Nat) : ∀a,(q4r n).F a=main Tryz.prog 30 (qxn n) (ql9 n) qwh (q00 Tryz.f74) [.tmp 2] (q4r n).args (q4r n).res a:=by intro a;kernel_rfl
theorem qea (n:Nat):q09 Inv Tryz.prog (q4r n):=fun G hG=>⟨⟨by kernel_rfl,fun a r h=>q03 (c:=q00 Tryz.f74) Tryz.func74 (by kernel_rfl) (by kernel_rfl) (Nat.le_of_ble_eq_true (by kernel_rfl)) hG.st (by kernel_rfl) (rs:=[.tmp 2]) (by kernel_rfl) (qwi n hG) (lts:=ql9 n) (fun F hF hFG=>have hK:Know Inv F.G:=hFG ▸ hG;(q02 (c:=(q00 Tryz.f74)) (fun j L h1 h2 h3=>by
  have h2':j<1:=Nat.lt_of_lt_of_le h2 (by decide +kernel)
  match j,h1,h2',h3 with
  | 0,_,_,h3=>obtain rfl:=Option.some.inj h3;exact (show q01 0 0 (q00 Tryz.f74)=q01 0 0 (q00 Tryz.f74) by kernel_rfl) ▸ jgb n hF hK
  | j+1,_,h2',_=>exact absurd h2' (by omega)))) jai ((jve n a).symm.trans h)⟩,rfl⟩
def j66 (n:Nat):List LC:=[]
def qh2 (n:Nat) (a1:Vv):Option (Yy) :=
 (q6c n a1).bind fun r1=>(bif !r1 then some ([]:Yy) else (qxs a1.1).bind fun (r2:Yy)=>(q7s ([118]:Yy) r2).bind fun s3=>(q7s s3 ([46]:Yy)).bind fun s4=>(qxs a1.2.1).bind fun (r5:Yy)=>(q7s s4 r5).bind fun s6=>(q7s s6 ([46]:Yy)).bind fun s7=>(qxs a1.2.2.1).bind fun (r8:Yy)=>(q7s s7 r8).bind fun s9=>(bif !decide (a1.2.2.2.1=([]:Yy)) then (q7s ([45]:Yy) a1.2.2.2.1).bind fun s10=>(q7s s9 s10).bind fun s11=>(bif !decide (a1.2.2.2.2=([]:Yy)) then (q7s ([43]:Yy) a1.2.2.2.2).bind fun s12=>(q7s s11 s12).bind fun s13=>some s13 else some s11) else (bif !decide (a1.2.2.2.2=([]:Yy)) then (q7s ([43]:Yy) a1.2.2.2.2).bind fun s14=>(q7s s9 s14).bind fun s15=>some s15 else some s9)))
def qb7 (n:Nat):FC:={ f:=47,args:=[.one (.agg [.d (.int .i64),.d (.int .i64),.d (.int .i64),.d .str,.d .str])],res:=.one (.c (.d .str)),F:=fun p=>qh2 n p }
def jip (n:Nat):List FC:=[q4r n,jug]
theorem jme (n:Nat) {G:World->Prop} (hG:Know Inv G) : ∀c∈jip n,q0p Tryz.prog G c/\q07 c.args=true:=List.forall_mem_cons.2 ⟨qea n G hG,List.forall_mem_cons.2 ⟨k3w G hG,(fun _ h=>by cases h)⟩⟩
def ji7:q06:=[(3,[⟨12582936,2^21,0⟩,⟨102760464,2^24,1⟩,⟨49*2^24,2^27,3⟩,⟨49*2^27,2^30,7⟩,⟨49*2^30,2^33,15⟩,⟨412316860440,2^36,0⟩,⟨3367254360080,2^39,32⟩,⟨49*2^39,2^42,103⟩,⟨25089*2^33,2^45,255⟩,⟨49*2^45,2^48,511⟩,⟨13510798882111512,2^51,0⟩,⟨110338190870577168,2^54,1024⟩,⟨49*2^54,2^57,3303⟩,⟨25089*2^48,2^60,8191⟩,⟨1152921504606850048,512,16383⟩]),(1000003,[])]
theorem k1m:drB ji7 (q00 Tryz.f47)=true:=by kernel_rfl
theorem k14 (n:Nat) : ∀a,(qb7 n).F a=main Tryz.prog 38 (jip n) (j66 n) ji7 (q00 Tryz.f47) [.tmp 2] (qb7 n).args (qb7 n).res a:=by intro a;kernel_rfl
theorem j2z (n:Nat):q09 Inv Tryz.prog (qb7 n):=fun G hG=>⟨⟨by kernel_rfl,fun a r h=>q03 (c:=q00 Tryz.f47) Tryz.func47 (by kernel_rfl) (by kernel_rfl) (Nat.le_of_ble_eq_true (by kernel_rfl)) hG.st (by kernel_rfl) (rs:=[.tmp 2]) (by kernel_rfl) (jme n hG) (lts:=j66 n) (fun F hF hFG=>have hK:Know Inv F.G:=hFG ▸ hG;(q02 fun j L h1 h2 h3=>absurd h2 (Nat.not_lt.2 (Nat.le_trans (by decide +kernel) h1)))) k1m ((k14 n a).symm.trans h)⟩,rfl⟩
def j07 (n:Nat):List LC:=[]
def qg5 (n:Nat) (a1:Yy):Option ((Vv)×(Bool)) :=
 (j50 n a1 ([43]:Yy)).bind fun r1=>(j50 n r1.1 ([45]:Yy)).bind fun r2=>(q91 n r2.1 ([118]:Yy)).bind fun r3=>(j50 n r3 ([46]:Yy)).bind fun r4=>(j50 n r4.2.1 ([46]:Yy)).bind fun r5=>(q6n r4.1).bind fun (r6:Int)=>(q6n r5.1).bind fun (r7:Int)=>(q6n r5.2.1).bind fun (r8:Int)=>(q6c n (r6,(r7,(r8,(r2.2.1,r1.2.1))))).bind fun r9=>(bif !r9 then some (((0:Int),((0:Int),((0:Int),(([]:Yy),([]:Yy))))),false) else (qh2 n (r6,(r7,(r8,(r2.2.1,r1.2.1))))).bind fun r10=>(bif !decide (r10=a1) then some (((0:Int),((0:Int),((0:Int),(([]:Yy),([]:Yy))))),false) else some ((r6,(r7,(r8,(r2.2.1,r1.2.1)))),true)))
def qa3 (n:Nat):FC:={ f:=120,args:=[.one (.c (.d .str))],res:=.tup [.agg [.d (.int .i64),.d (.int .i64),.d (.int .i64),.d .str,.d .str],.c (.d .bool)],F:=fun p=>qg5 n p }
def j8t (n:Nat):List FC:=[qru n,q48 n,jce,q4r n,qb7 n]
theorem jg4 (n:Nat) {G:World->Prop} (hG:Know Inv G) : ∀c∈j8t n,q0p Tryz.prog G c/\q07 c.args=true:=List.forall_mem_cons.2 ⟨jt8 n G hG,List.forall_mem_cons.2 ⟨qkr n G hG,List.forall_mem_cons.2 ⟨jwc G hG,List.forall_mem_cons.2 ⟨qea n G hG,List.forall_mem_cons.2 ⟨j2z n G hG,(fun _ h=>by cases h)⟩⟩⟩⟩⟩
def j68:q06:=[]
theorem jsc:drB j68 (q00 Tryz.f120)=true:=by kernel_rfl
theorem juk (n:Nat) : ∀a,(qa3 n).F a=main Tryz.prog 62 (j8t n) (j07 n) j68 (q00 Tryz.f120) [.cell 2 44,.tmp 3] (qa3 n).args (qa3 n).res a:=by intro a;kernel_rfl
theorem j8y (n:Nat):q09 Inv Tryz.prog (qa3 n):=fun G hG=>⟨⟨by kernel_rfl,fun a r h=>q03 (c:=q00 Tryz.f120) Tryz.func120 (by kernel_rfl) (by kernel_rfl) (Nat.le_of_ble_eq_true (by kernel_rfl)) hG.st (by kernel_rfl) (rs:=[.cell 2 44,.tmp 3]) (by kernel_rfl) (jg4 n hG) (lts:=j07 n) (fun F hF hFG=>have hK:Know Inv F.G:=hFG ▸ hG;(q02 fun j L h1 h2 h3=>absurd h2 (Nat.not_lt.2 (Nat.le_trans (by decide +kernel) h1)))) jsc ((juk n a).symm.trans h)⟩,rfl⟩
def j5v (n:Nat):List LC:=[]
def j2f (n:Nat) (a1:Yy) (a2:Yy):Option (Int) :=
 (q6x n a1).bind fun r1=>(q6x n a2).bind fun r2=>(bif r1 then (bif r2 then (qbm n (a1.length:Int) (a2.length:Int)).bind fun r3=>(qih a1 a2).bind fun (r4:Int)=>(qs2 n ([r3,r4]:List (Int))).bind fun r5=>some r5 else (bif r1 then some (-1:Int) else (bif r2 then some (1:Int) else (qih a1 a2).bind fun (r6:Int)=>some r6))) else (bif r1 then some (-1:Int) else (bif r2 then some (1:Int) else (qih a1 a2).bind fun (r7:Int)=>some r7)))
def qjs (n:Nat):FC:={ f:=186,args:=[.one (.c (.d .str)),.one (.c (.d .str))],res:=.one (.c (.d (.int .i64))),F:=fun p=>j2f n p.1 p.2 }
def jlg (n:Nat):List FC:=[q55 n,qa4 n,qzc,qfu n]
theorem jmv (n:Nat) {G:World->Prop} (hG:Know Inv G) : ∀c∈jlg n,q0p Tryz.prog G c/\q07 c.args=true:=List.forall_mem_cons.2 ⟨qur n G hG,List.forall_mem_cons.2 ⟨j7j n G hG,List.forall_mem_cons.2 ⟨jlu G hG,List.forall_mem_cons.2 ⟨jia n G hG,(fun _ h=>by cases h)⟩⟩⟩⟩
def ji5:q06:=[]
theorem k0t:drB ji5 (q00 Tryz.f186)=true:=by kernel_rfl
theorem jzs (n:Nat) : ∀a,(qjs n).F a=main Tryz.prog 33 (jlg n) (j5v n) ji5 (q00 Tryz.f186) [.tmp 4] (qjs n).args (qjs n).res a:=by intro a;kernel_rfl
theorem jze (n:Nat):q09 Inv Tryz.prog (qjs n):=fun G hG=>⟨⟨by kernel_rfl,fun a r h=>q03 (c:=q00 Tryz.f186) Tryz.func186 (by kernel_rfl) (by kernel_rfl) (Nat.le_of_ble_eq_true (by kernel_rfl)) hG.st (by kernel_rfl) (rs:=[.tmp 4]) (by kernel_rfl) (jmv n hG) (lts:=j5v n) (fun F hF hFG=>have hK:Know Inv F.G:=hFG ▸ hG;(q02 fun j L h1 h2 h3=>absurd h2 (Nat.not_lt.2 (Nat.le_trans (by decide +kernel) h1)))) k0t ((jzs n a).symm.trans h)⟩,rfl⟩
@[reducible] def qbu:SSt:=⟨[(0,.one (.c (.d (.lst .str)))),(1,.one (.c (.d (.lst .str)))),(2,.one (.c (.fn 186 []))),(11,.one (.c (.d (.lst .str)))),(12,.one (.c (.d (.int .i64)))),(13,.one (.c (.d (.int .i64))))],[],[]⟩
@[reducible] def q6e:List (Exit×SSt):=[(.ret,⟨[(6,.one (.c (.d (.int .i64))))],[],[]⟩),(.exit 0,⟨[(0,.one (.c (.d (.lst .str)))),(1,.one (.c (.d (.lst .str))))],[],[]⟩)]
def qly (n:Nat) (rec:(List (Yy))->(List (Yy))->(List (Yy))->Int->Int->Option (((Int×Unit)×Unit×Unit)⊕(((List (Yy))×((List (Yy))×Unit))×Unit×Unit))) (a1:List (Yy)) (a2:List (Yy)) (a3:List (Yy)) (a4:Int) (a5:Int):Option (((Int×Unit)×Unit×Unit)⊕(((List (Yy))×((List (Yy))×Unit))×Unit×Unit)) :=
 (bif decide (a5<a4) then (q0n a3 a5).bind fun x1=>(bif decide ((a2.length:Int)<=a5) then some (Sum.inl (((1:Int),()),((),()))) else (q0n a2 a5).bind fun x2=>(j2f n x1 x2).bind fun r3=>(bif !decide (r3=0) then some (Sum.inl ((r3,()),((),()))) else q04 (IntKind.wrap .i64 (a5+1)) fun n4=>rec a1 a2 a3 a4 n4)) else some (Sum.inr (((a1,(a2,())),((),())))))
def qlc (n:Nat) (rec:pSt qbu->Option (q0f q6e)) (p:pSt qbu):Option (q0f q6e):=qly n (fun a1 a2 a3 a4 a5=>rec ((a1,(a2,((),(a3,(a4,(a5,())))))),((),()))) p.1.1 p.1.2.1 p.1.2.2.2.1 p.1.2.2.2.2.1 p.1.2.2.2.2.2.1
def q6h (n m:Nat) (a1:List (Yy)) (a2:List (Yy)) (a3:List (Yy)) (a4:Int) (a5:Int):Option (((Int×Unit)×Unit×Unit)⊕(((List (Yy))×((List (Yy))×Unit))×Unit×Unit)):=q0g (qlc n) m ((a1,(a2,((),(a3,(a4,(a5,())))))),((),()))
theorem qio (n m:Nat) (a1 a2 a3 a4 a5):q6h n (m+1) a1 a2 a3 a4 a5=qly n (fun a1 a2 a3 a4 a5=>q6h n m a1 a2 a3 a4 a5) a1 a2 a3 a4 a5:=rfl
def j0v (n:Nat):LC:={ sh:=qbu,outs:=q6e,F:=q0g (qlc n) n }
def qgw (n:Nat):List LC:=[j0v n]
def qws (n:Nat) (a1:List (Yy)) (a2:List (Yy)) (a3:Unit):Option (Int) :=
 (q6h n n a1 a2 a1 (a1.length:Int) (0:Int)).bind fun o5=>Sum.elim (fun (q6:(Int×Unit)×Unit×Unit)=>some q6.1.1) (fun (q7:((List (Yy))×((List (Yy))×Unit))×Unit×Unit)=>(bif decide ((q7.1.1.length:Int)<(q7.1.2.1.length:Int)) then some (-1:Int) else some (0:Int))) o5
def qa0 (n:Nat):FC:={ f:=185,args:=[.one (.c (.d (.lst .str))),.one (.c (.d (.lst .str))),.one (.c (.fn 186 []))],res:=.one (.c (.d (.int .i64))),F:=fun p=>qws n p.1 p.2.1 p.2.2 }
def qmo (n:Nat):List FC:=[qjs n]
theorem qnx (n:Nat) {G:World->Prop} (hG:Know Inv G) : ∀c∈qmo n,q0p Tryz.prog G c/\q07 c.args=true:=List.forall_mem_cons.2 ⟨jze n G hG,(fun _ h=>by cases h)⟩
def qlw:q06:=[]
theorem j0d:drB qlw (q00 Tryz.f185)=true:=by kernel_rfl
theorem je8 (n:Nat) : ∀rec p,qlc n rec p=round Tryz.prog 39 (qmo n) (qgw n) qlw 1 qbu q6e (q01 0 0 (q00 Tryz.f185)) rec p:=by intro rec p;kernel_rfl
theorem jbq (n:Nat) {F:Fr} (hF:F.n=39) (hK:Know Inv F.G):q75 Tryz.prog F (j0v n) (q01 0 0 (q00 Tryz.f185)) :=
 q0i hF (by kernel_rfl) (qnx n hK) (je8 n) (fuel:=n) (fun _=>rfl) (q02 fun j L h1 h2 h3=>absurd h2 (Nat.not_lt.2 (Nat.le_trans (by decide +kernel) h1))) (q0t j0d)
theorem jnc (n:Nat) : ∀a,(qa0 n).F a=main Tryz.prog 39 (qmo n) (qgw n) qlw (q00 Tryz.f185) [.tmp 6] (qa0 n).args (qa0 n).res a:=by intro a;kernel_rfl
theorem jod (n:Nat):q09 Inv Tryz.prog (qa0 n):=fun G hG=>⟨⟨by kernel_rfl,fun a r h=>q03 (c:=q00 Tryz.f185) Tryz.func185 (by kernel_rfl) (by kernel_rfl) (Nat.le_of_ble_eq_true (by kernel_rfl)) hG.st (by kernel_rfl) (rs:=[.tmp 6]) (by kernel_rfl) (qnx n hG) (lts:=qgw n) (fun F hF hFG=>have hK:Know Inv F.G:=hFG ▸ hG;(q02 (c:=(q00 Tryz.f185)) (fun j L h1 h2 h3=>by
  have h2':j<1:=Nat.lt_of_lt_of_le h2 (by decide +kernel)
  match j,h1,h2',h3 with
  | 0,_,_,h3=>obtain rfl:=Option.some.inj h3;exact (show q01 0 0 (q00 Tryz.f185)=q01 0 0 (q00 Tryz.f185) by kernel_rfl) ▸ jbq n hF hK
  | j+1,_,h2',_=>exact absurd h2' (by omega)))) j0d ((jnc n a).symm.trans h)⟩,rfl⟩
def jk8 (n:Nat):List LC:=[]
def jhy (n:Nat) (a1:Yy) (a2:Yy):Option (Int) :=
 (bif decide (a1=a2) then some (0:Int) else (bif decide (a1=([]:Yy)) then some (1:Int) else (bif decide (a2=([]:Yy)) then some (-1:Int) else (qak a1 ([46]:Yy)).bind fun (r1:List (Yy))=>(qak a2 ([46]:Yy)).bind fun (r2:List (Yy))=>(qws n r1 r2 ()).bind fun r3=>some r3)))
def qrx (n:Nat):FC:={ f:=159,args:=[.one (.c (.d .str)),.one (.c (.d .str))],res:=.one (.c (.d (.int .i64))),F:=fun p=>jhy n p.1 p.2 }
def jsg (n:Nat):List FC:=[j33,qa0 n]
theorem jwf (n:Nat) {G:World->Prop} (hG:Know Inv G) : ∀c∈jsg n,q0p Tryz.prog G c/\q07 c.args=true:=List.forall_mem_cons.2 ⟨jlc G hG,List.forall_mem_cons.2 ⟨jod n G hG,(fun _ h=>by cases h)⟩⟩
def jsr:q06:=[]
theorem k31:drB jsr (q00 Tryz.f159)=true:=by kernel_rfl
theorem k6i (n:Nat) : ∀a,(qrx n).F a=main Tryz.prog 20 (jsg n) (jk8 n) jsr (q00 Tryz.f159) [.tmp 4] (qrx n).args (qrx n).res a:=by intro a;kernel_rfl
theorem k63 (n:Nat):q09 Inv Tryz.prog (qrx n):=fun G hG=>⟨⟨by kernel_rfl,fun a r h=>q03 (c:=q00 Tryz.f159) Tryz.func159 (by kernel_rfl) (by kernel_rfl) (Nat.le_of_ble_eq_true (by kernel_rfl)) hG.st (by kernel_rfl) (rs:=[.tmp 4]) (by kernel_rfl) (jwf n hG) (lts:=jk8 n) (fun F hF hFG=>have hK:Know Inv F.G:=hFG ▸ hG;(q02 fun j L h1 h2 h3=>absurd h2 (Nat.not_lt.2 (Nat.le_trans (by decide +kernel) h1)))) k31 ((k6i n a).symm.trans h)⟩,rfl⟩
def qoh (n:Nat):List LC:=[]
def qex (n:Nat) (a1:Vv) (a2:Vv):Option (Int) :=
 (q6c n a1).bind fun r1=>(bif !r1 then some (0:Int) else (q6c n a2).bind fun r2=>(bif !r2 then some (0:Int) else (qbm n a1.1 a2.1).bind fun r3=>(qbm n a1.2.1 a2.2.1).bind fun r4=>(qbm n a1.2.2.1 a2.2.2.1).bind fun r5=>(jhy n a1.2.2.2.1 a2.2.2.2.1).bind fun r6=>(qs2 n ([r3,r4,r5,r6]:List (Int))).bind fun r7=>some r7))
def q73 (n:Nat):FC:={ f:=121,args:=[.one (.agg [.d (.int .i64),.d (.int .i64),.d (.int .i64),.d .str,.d .str]),.one (.agg [.d (.int .i64),.d (.int .i64),.d (.int .i64),.d .str,.d .str])],res:=.one (.c (.d (.int .i64))),F:=fun p=>qex n p.1 p.2 }
def qv8 (n:Nat):List FC:=[q4r n,qa4 n,qrx n,qfu n]
theorem j4j (n:Nat) {G:World->Prop} (hG:Know Inv G) : ∀c∈qv8 n,q0p Tryz.prog G c/\q07 c.args=true:=List.forall_mem_cons.2 ⟨qea n G hG,List.forall_mem_cons.2 ⟨j7j n G hG,List.forall_mem_cons.2 ⟨k63 n G hG,List.forall_mem_cons.2 ⟨jia n G hG,(fun _ h=>by cases h)⟩⟩⟩⟩
def qv0:q06:=[(3,[⟨3298534883520,2^39,0⟩,⟨26938034880640,2^42,1⟩,⟨211106232534528,2^45,0⟩,⟨1724034232353792,2^48,4⟩,⟨3137*2^42,2^51,15⟩,⟨108086391056892096,2^54,0⟩,⟨882705526964617344,2^57,32⟩,⟨6917529027641083392,2^60,0⟩,⟨56493153725735502848,2^63,128⟩,⟨3137*2^57,2^66,511⟩,⟨3541774862152233910464,2^69,0⟩,⟨28924494707576576934016,2^72,1024⟩,⟨226673591177742970258944,2^75,0⟩,⟨1851167661284900923769856,2^78,4096⟩,⟨3137*2^72,2^81,16383⟩,⟨116056878683004400771793088,2^84,0⟩,⟨947797842577869272969642112,2^87,32768⟩,⟨7427640235712281649394746880,2^90,0⟩,⟨60659061924983633470057088000,2^93,2^17⟩,⟨3137*2^87,2^96,524287⟩,⟨1724035306127361*2^51,5*2^99,1048575⟩,⟨53*2^99,2^102,2097151⟩,⟨5070602400912917605986812846080,4096,4194303⟩])]
theorem jee:drB qv0 (q00 Tryz.f121)=true:=by kernel_rfl
theorem jgz (n:Nat) : ∀a,(q73 n).F a=main Tryz.prog 35 (qv8 n) (qoh n) qv0 (q00 Tryz.f121) [.tmp 4] (q73 n).args (q73 n).res a:=by intro a;kernel_rfl
theorem jga (n:Nat):q09 Inv Tryz.prog (q73 n):=fun G hG=>⟨⟨by kernel_rfl,fun a r h=>q03 (c:=q00 Tryz.f121) Tryz.func121 (by kernel_rfl) (by kernel_rfl) (Nat.le_of_ble_eq_true (by kernel_rfl)) hG.st (by kernel_rfl) (rs:=[.tmp 4]) (by kernel_rfl) (j4j n hG) (lts:=qoh n) (fun F hF hFG=>have hK:Know Inv F.G:=hFG ▸ hG;(q02 fun j L h1 h2 h3=>absurd h2 (Nat.not_lt.2 (Nat.le_trans (by decide +kernel) h1)))) jee ((jgz n a).symm.trans h)⟩,rfl⟩
@[reducible] def q2n:SSt:=⟨[(0,.one (.c (.d .str))),(1,.one (.c (.d (.int .u8)))),(5,.one (.c (.row 31))),(6,.one (.c (.d (.int .i64)))),(7,.one (.c (.d (.int .i64))))],[],[(31,⟨9,true,.str⟩)]⟩
@[reducible] def q1o:List (Exit×SSt):=[(.exit 0,⟨[(5,.one (.c (.row 31)))],[],[(31,⟨9,true,.str⟩)]⟩)]
def q3g (n:Nat) (rec:(Yy)->Int->Int->Int->(List (Yy))->Option ((Unit×Unit)×Unit×((List (Yy))×Unit))) (a1:Yy) (a2:Int) (a3:Int) (a4:Int) (a5:List (Yy)):Option ((Unit×Unit)×Unit×((List (Yy))×Unit)) :=
 (bif decide (a4<=(a1.length:Int)) then (bif decide (a4=(a1.length:Int)) then (q1d a1 a3 a4).bind fun s1=>(q2g 16 a5 ([s1]:List (Yy))).bind fun l2=>q04 (IntKind.wrap .i64 (a4+1)) fun n3=>q04 (IntKind.wrap .i64 (a4+1)) fun n4=>rec a1 a2 n3 n4 l2 else (sAt a1 a4).bind fun c5=>(bif decide (c5=a2) then (q1d a1 a3 a4).bind fun s6=>(q2g 16 a5 ([s6]:List (Yy))).bind fun l7=>q04 (IntKind.wrap .i64 (a4+1)) fun n8=>q04 (IntKind.wrap .i64 (a4+1)) fun n9=>rec a1 a2 n8 n9 l7 else q04 (IntKind.wrap .i64 (a4+1)) fun n10=>rec a1 a2 a3 n10 a5)) else some ((((),()),((),(a5,())))))
def q4z (n:Nat) (rec:pSt q2n->Option (q0f q1o)) (p:pSt q2n):Option (q0f q1o):=q3g n (fun a1 a2 a3 a4 a5=>rec ((a1,(a2,((),(a3,(a4,()))))),((),(a5,())))) p.1.1 p.1.2.1 p.1.2.2.2.1 p.1.2.2.2.2.1 p.2.2.1
def q1m (n m:Nat) (a1:Yy) (a2:Int) (a3:Int) (a4:Int) (a5:List (Yy)):Option ((Unit×Unit)×Unit×((List (Yy))×Unit)):=q0g (q4z n) m ((a1,(a2,((),(a3,(a4,()))))),((),(a5,())))
theorem q20 (n m:Nat) (a1 a2 a3 a4 a5):q1m n (m+1) a1 a2 a3 a4 a5=q3g n (fun a1 a2 a3 a4 a5=>q1m n m a1 a2 a3 a4 a5) a1 a2 a3 a4 a5:=rfl
def q9h (n:Nat):LC:={ sh:=q2n,outs:=q1o,F:=q0g (q4z n) n }
def q40 (n:Nat):List LC:=[q9h n]
def q0k (n:Nat) (a1:Yy) (a2:Int):Option (List (Yy)) :=
 (q1m n n a1 a2 (0:Int) (0:Int) []).bind fun o11=>some o11.2.2.1
def q0u (n:Nat):FC:={ f:=41,args:=[.one (.c (.d .str)),.one (.c (.d (.int .u8)))],res:=.one (.c (.d (.lst .str))),F:=fun p=>q0k n p.1 p.2 }
def q52 (n:Nat):List FC:=[]
theorem q5v (n:Nat) {G:World->Prop} (hG:Know Inv G) : ∀c∈q52 n,q0p Tryz.prog G c/\q07 c.args=true:=(fun _ h=>by cases h)
def q56:q06:=[]
theorem qa2:drB q56 (q00 Tryz.f41)=true:=by kernel_rfl
theorem qhw (n:Nat) : ∀rec p,q4z n rec p=round Tryz.prog 35 (q52 n) (q40 n) q56 1 q2n q1o (q01 0 0 (q00 Tryz.f41)) rec p:=by intro rec p;kernel_rfl
theorem qdk (n:Nat) {F:Fr} (hF:F.n=35) (hK:Know Inv F.G):q75 Tryz.prog F (q9h n) (q01 0 0 (q00 Tryz.f41)) :=
 q0i hF (by kernel_rfl) (q5v n hK) (qhw n) (fuel:=n) (fun _=>rfl) (q02 fun j L h1 h2 h3=>absurd h2 (Nat.not_lt.2 (Nat.le_trans (by decide +kernel) h1))) (q0t qa2)
theorem qnn (n:Nat) : ∀a,(q0u n).F a=main Tryz.prog 35 (q52 n) (q40 n) q56 (q00 Tryz.f41) [.tmp 4] (q0u n).args (q0u n).res a:=by intro a;kernel_rfl
theorem q3i (n:Nat):q09 Inv Tryz.prog (q0u n):=fun G hG=>⟨⟨by kernel_rfl,fun a r h=>q03 (c:=q00 Tryz.f41) Tryz.func41 (by kernel_rfl) (by kernel_rfl) (Nat.le_of_ble_eq_true (by kernel_rfl)) hG.st (by kernel_rfl) (rs:=[.tmp 4]) (by kernel_rfl) (q5v n hG) (lts:=q40 n) (fun F hF hFG=>have hK:Know Inv F.G:=hFG ▸ hG;(q02 (c:=(q00 Tryz.f41)) (fun j L h1 h2 h3=>by
  have h2':j<1:=Nat.lt_of_lt_of_le h2 (by decide +kernel)
  match j,h1,h2',h3 with
  | 0,_,_,h3=>obtain rfl:=Option.some.inj h3;exact (show q01 0 0 (q00 Tryz.f41)=q01 0 0 (q00 Tryz.f41) by kernel_rfl) ▸ qdk n hF hK
  | j+1,_,h2',_=>exact absurd h2' (by omega)))) qa2 ((qnn n a).symm.trans h)⟩,rfl⟩
@[reducible] def qcc:SSt:=⟨[(0,.one (.c (.d .str))),(3,.one (.c (.d (.int .i64))))],[],[]⟩
@[reducible] def q6q:List (Exit×SSt):=[(.ret,⟨[(2,.one (.c (.d .bool)))],[],[]⟩),(.exit 0,⟨[(0,.one (.c (.d .str)))],[],[]⟩)]
def qmm (n:Nat) (rec:(Yy)->Int->Option (((Bool×Unit)×Unit×Unit)⊕((Yy×Unit)×Unit×Unit))) (a1:Yy) (a2:Int):Option (((Bool×Unit)×Unit×Unit)⊕((Yy×Unit)×Unit×Unit)) :=
 (bif decide (a2<(a1.length:Int)) then (sAt a1 a2).bind fun c1=>(bif decide (c1<48) then some (Sum.inl ((false,()),((),()))) else (sAt a1 a2).bind fun c2=>(bif decide (57<c2) then some (Sum.inl ((false,()),((),()))) else q04 (IntKind.wrap .i64 (a2+1)) fun n3=>rec a1 n3)) else some (Sum.inr (((a1,()),((),())))))
def qmr (n:Nat) (rec:pSt qcc->Option (q0f q6q)) (p:pSt qcc):Option (q0f q6q):=qmm n (fun a1 a2=>rec ((a1,(a2,())),((),()))) p.1.1 p.1.2.1
def q6v (n m:Nat) (a1:Yy) (a2:Int):Option (((Bool×Unit)×Unit×Unit)⊕((Yy×Unit)×Unit×Unit)):=q0g (qmr n) m ((a1,(a2,())),((),()))
theorem qj0 (n m:Nat) (a1 a2):q6v n (m+1) a1 a2=qmm n (fun a1 a2=>q6v n m a1 a2) a1 a2:=rfl
def qzg (n:Nat):LC:={ sh:=qcc,outs:=q6q,F:=q0g (qmr n) n }
def qh7 (n:Nat):List LC:=[qzg n]
def q7n (n:Nat) (a1:Yy):Option (Bool) :=
 (q6v n n a1 (0:Int)).bind fun o4=>Sum.elim (fun (q5:(Bool×Unit)×Unit×Unit)=>some q5.1.1) (fun (q6:(Yy×Unit)×Unit×Unit)=>some (!decide (q6.1.1=([]:Yy)))) o4
def q50 (n:Nat):FC:={ f:=102,args:=[.one (.c (.d .str))],res:=.one (.c (.d .bool)),F:=fun p=>q7n n p }
def qmz (n:Nat):List FC:=[]
theorem qp5 (n:Nat) {G:World->Prop} (hG:Know Inv G) : ∀c∈qmz n,q0p Tryz.prog G c/\q07 c.args=true:=(fun _ h=>by cases h)
def qnl:q06:=[]
theorem qzd:drB qnl (q00 Tryz.f102)=true:=by kernel_rfl
theorem jh3 (n:Nat) : ∀rec p,qmr n rec p=round Tryz.prog 22 (qmz n) (qh7 n) qnl 1 qcc q6q (q01 0 0 (q00 Tryz.f102)) rec p:=by intro rec p;kernel_rfl
theorem jao (n:Nat) {F:Fr} (hF:F.n=22) (hK:Know Inv F.G):q75 Tryz.prog F (qzg n) (q01 0 0 (q00 Tryz.f102)) :=
 q0i hF (by kernel_rfl) (qp5 n hK) (jh3 n) (fuel:=n) (fun _=>rfl) (q02 fun j L h1 h2 h3=>absurd h2 (Nat.not_lt.2 (Nat.le_trans (by decide +kernel) h1))) (q0t qzd)
theorem jm8 (n:Nat) : ∀a,(q50 n).F a=main Tryz.prog 22 (qmz n) (qh7 n) qnl (q00 Tryz.f102) [.tmp 2] (q50 n).args (q50 n).res a:=by intro a;kernel_rfl
theorem qlp (n:Nat):q09 Inv Tryz.prog (q50 n):=fun G hG=>⟨⟨by kernel_rfl,fun a r h=>q03 (c:=q00 Tryz.f102) Tryz.func102 (by kernel_rfl) (by kernel_rfl) (Nat.le_of_ble_eq_true (by kernel_rfl)) hG.st (by kernel_rfl) (rs:=[.tmp 2]) (by kernel_rfl) (qp5 n hG) (lts:=qh7 n) (fun F hF hFG=>have hK:Know Inv F.G:=hFG ▸ hG;(q02 (c:=(q00 Tryz.f102)) (fun j L h1 h2 h3=>by
  have h2':j<1:=Nat.lt_of_lt_of_le h2 (by decide +kernel)
  match j,h1,h2',h3 with
  | 0,_,_,h3=>obtain rfl:=Option.some.inj h3;exact (show q01 0 0 (q00 Tryz.f102)=q01 0 0 (q00 Tryz.f102) by kernel_rfl) ▸ jao n hF hK
  | j+1,_,h2',_=>exact absurd h2' (by omega)))) qzd ((jm8 n a).symm.trans h)⟩,rfl⟩
@[reducible] def qb3:SSt:=⟨[(1,.one (.c (.d .bool))),(5,.one (.c (.d (.lst .str)))),(6,.one (.c (.d (.int .i64)))),(7,.one (.c (.d (.int .i64))))],[],[]⟩
@[reducible] def q6a:List (Exit×SSt):=[(.ret,⟨[(4,.one (.c (.d .bool)))],[],[]⟩),(.exit 2,⟨[(1,.one (.c (.d .bool))),(5,.one (.c (.d (.lst .str)))),(6,.one (.c (.d (.int .i64))))],[],[]⟩)]
def qmw (n:Nat) (rec:Bool->(List (Yy))->Int->Int->Option (((Bool×Unit)×Unit×Unit)⊕((Bool×((List (Yy))×(Int×Unit)))×Unit×Unit))) (a1:Bool) (a2:List (Yy)) (a3:Int) (a4:Int):Option (((Bool×Unit)×Unit×Unit)⊕((Bool×((List (Yy))×(Int×Unit)))×Unit×Unit)) :=
 (q0n a2 a3).bind fun x2=>(bif decide (a4<(x2.length:Int)) then (q0n a2 a3).bind fun x3=>(sAt x3 a4).bind fun c4=>(bif decide ((97:Int)<=c4) then (bif !(decide (c4<=(122:Int))) then (bif decide ((65:Int)<=c4) then (bif !(decide (c4<=(90:Int))) then (bif decide ((48:Int)<=c4) then (bif !(decide (c4<=(57:Int))) then (bif !decide (c4=(45:Int)) then some (Sum.inl ((false,()),((),()))) else q04 (IntKind.wrap .i64 (a4+(1:Int))) fun n5=>rec a1 a2 a3 n5) else q04 (IntKind.wrap .i64 (a4+(1:Int))) fun n6=>rec a1 a2 a3 n6) else (bif !decide (c4=(45:Int)) then some (Sum.inl ((false,()),((),()))) else q04 (IntKind.wrap .i64 (a4+(1:Int))) fun n7=>rec a1 a2 a3 n7)) else q04 (IntKind.wrap .i64 (a4+(1:Int))) fun n8=>rec a1 a2 a3 n8) else (bif decide ((48:Int)<=c4) then (bif !(decide (c4<=(57:Int))) then (bif !decide (c4=(45:Int)) then some (Sum.inl ((false,()),((),()))) else q04 (IntKind.wrap .i64 (a4+(1:Int))) fun n9=>rec a1 a2 a3 n9) else q04 (IntKind.wrap .i64 (a4+(1:Int))) fun n10=>rec a1 a2 a3 n10) else (bif !decide (c4=(45:Int)) then some (Sum.inl ((false,()),((),()))) else q04 (IntKind.wrap .i64 (a4+(1:Int))) fun n11=>rec a1 a2 a3 n11))) else q04 (IntKind.wrap .i64 (a4+(1:Int))) fun n12=>rec a1 a2 a3 n12) else (bif decide ((65:Int)<=c4) then (bif !(decide (c4<=(90:Int))) then (bif decide ((48:Int)<=c4) then (bif !(decide (c4<=(57:Int))) then (bif !decide (c4=(45:Int)) then some (Sum.inl ((false,()),((),()))) else q04 (IntKind.wrap .i64 (a4+(1:Int))) fun n13=>rec a1 a2 a3 n13) else q04 (IntKind.wrap .i64 (a4+(1:Int))) fun n14=>rec a1 a2 a3 n14) else (bif !decide (c4=(45:Int)) then some (Sum.inl ((false,()),((),()))) else q04 (IntKind.wrap .i64 (a4+(1:Int))) fun n15=>rec a1 a2 a3 n15)) else q04 (IntKind.wrap .i64 (a4+(1:Int))) fun n16=>rec a1 a2 a3 n16) else (bif decide ((48:Int)<=c4) then (bif !(decide (c4<=(57:Int))) then (bif !decide (c4=(45:Int)) then some (Sum.inl ((false,()),((),()))) else q04 (IntKind.wrap .i64 (a4+(1:Int))) fun n17=>rec a1 a2 a3 n17) else q04 (IntKind.wrap .i64 (a4+(1:Int))) fun n18=>rec a1 a2 a3 n18) else (bif !decide (c4=(45:Int)) then some (Sum.inl ((false,()),((),()))) else q04 (IntKind.wrap .i64 (a4+(1:Int))) fun n19=>rec a1 a2 a3 n19)))) else some (Sum.inr (((a1,(a2,(a3,()))),((),())))))
def qn1 (n:Nat) (rec:pSt qb3->Option (q0f q6a)) (p:pSt qb3):Option (q0f q6a):=qmw n (fun a1 a2 a3 a4=>rec ((a1,(a2,(a3,(a4,())))),((),()))) p.1.1 p.1.2.1 p.1.2.2.1 p.1.2.2.2.1
def q6b (n m:Nat) (a1:Bool) (a2:List (Yy)) (a3:Int) (a4:Int):Option (((Bool×Unit)×Unit×Unit)⊕((Bool×((List (Yy))×(Int×Unit)))×Unit×Unit)):=q0g (qn1 n) m ((a1,(a2,(a3,(a4,())))),((),()))
theorem qir (n m:Nat) (a1 a2 a3 a4):q6b n (m+1) a1 a2 a3 a4=qmw n (fun a1 a2 a3 a4=>q6b n m a1 a2 a3 a4) a1 a2 a3 a4:=rfl
def j17 (n:Nat):LC:={ sh:=qb3,outs:=q6a,F:=q0g (qn1 n) n }
@[reducible] def qar:SSt:=⟨[(1,.one (.c (.d .bool))),(5,.one (.c (.d (.lst .str)))),(6,.one (.c (.d (.int .i64))))],[],[]⟩
@[reducible] def q6i:List (Exit×SSt):=[(.ret,⟨[(4,.one (.c (.d .bool)))],[],[]⟩),(.exit 0,⟨[],[],[]⟩)]
def qmd (n:Nat) (rec:Bool->(List (Yy))->Int->Option (((Bool×Unit)×Unit×Unit)⊕(Unit×Unit×Unit))) (a1:Bool) (a2:List (Yy)) (a3:Int):Option (((Bool×Unit)×Unit×Unit)⊕(Unit×Unit×Unit)) :=
 (bif decide (a3<(a2.length:Int)) then (q6b n n a1 a2 a3 (0:Int)).bind fun o20=>Sum.elim (fun (q21:(Bool×Unit)×Unit×Unit)=>some (Sum.inl ((q21.1.1,()),((),())))) (fun (q22:(Bool×((List (Yy))×(Int×Unit)))×Unit×Unit)=>(q0n q22.1.2.1 q22.1.2.2.1).bind fun x23=>(bif decide (x23=([]:Yy)) then some (Sum.inl ((false,()),((),()))) else (bif !q22.1.1 then (q0n q22.1.2.1 q22.1.2.2.1).bind fun x24=>(q7n n x24).bind fun r25=>(bif r25 then (q0n q22.1.2.1 q22.1.2.2.1).bind fun x26=>(bif decide (1<(x26.length:Int)) then (q0n q22.1.2.1 q22.1.2.2.1).bind fun x27=>(sAt x27 (0:Int)).bind fun c28=>(bif decide (c28=48) then some (Sum.inl ((false,()),((),()))) else q04 (IntKind.wrap .i64 (q22.1.2.2.1+1)) fun n29=>rec q22.1.1 q22.1.2.1 n29) else q04 (IntKind.wrap .i64 (q22.1.2.2.1+1)) fun n30=>rec q22.1.1 q22.1.2.1 n30) else q04 (IntKind.wrap .i64 (q22.1.2.2.1+1)) fun n31=>rec q22.1.1 q22.1.2.1 n31) else q04 (IntKind.wrap .i64 (q22.1.2.2.1+1)) fun n32=>rec q22.1.1 q22.1.2.1 n32))) o20 else some (Sum.inr (((),((),())))))
def qnq (n:Nat) (rec:pSt qar->Option (q0f q6i)) (p:pSt qar):Option (q0f q6i):=qmd n (fun a1 a2 a3=>rec ((a1,(a2,(a3,()))),((),()))) p.1.1 p.1.2.1 p.1.2.2.1
def q6k (n m:Nat) (a1:Bool) (a2:List (Yy)) (a3:Int):Option (((Bool×Unit)×Unit×Unit)⊕(Unit×Unit×Unit)):=q0g (qnq n) m ((a1,(a2,(a3,()))),((),()))
theorem qj9 (n m:Nat) (a1 a2 a3):q6k n (m+1) a1 a2 a3=qmd n (fun a1 a2 a3=>q6k n m a1 a2 a3) a1 a2 a3:=rfl
def j1k (n:Nat):LC:={ sh:=qar,outs:=q6i,F:=q0g (qnq n) n }
def qbq (n:Nat):List LC:=[j1k n,j17 n]
def qa6 (n:Nat) (a1:Yy) (a2:Bool):Option (Bool) :=
 (q0k n a1 (46:Int)).bind fun r1=>(q6k n n a2 r1 (0:Int)).bind fun o33=>Sum.elim (fun (q34:(Bool×Unit)×Unit×Unit)=>some q34.1.1) (fun (q35:(Unit)×Unit×Unit)=>some true) o33
def qab (n:Nat):FC:={ f:=68,args:=[.one (.c (.d .str)),.one (.c (.d .bool))],res:=.one (.c (.d .bool)),F:=fun p=>qa6 n p.1 p.2 }
def qg6 (n:Nat):List FC:=[q0u n,q50 n]
theorem qdd (n:Nat) {G:World->Prop} (hG:Know Inv G) : ∀c∈qg6 n,q0p Tryz.prog G c/\q07 c.args=true:=List.forall_mem_cons.2 ⟨q3i n G hG,List.forall_mem_cons.2 ⟨qlp n G hG,(fun _ h=>by cases h)⟩⟩
def qfp:q06:=[]
theorem qmb:drB qfp (q00 Tryz.f68)=true:=by kernel_rfl
theorem jdc (n:Nat) : ∀rec p,qn1 n rec p=round Tryz.prog 93 (qg6 n) (qbq n) qfp 2 qb3 q6a (q01 0 1 (q00 Tryz.f68)) rec p:=by intro rec p;kernel_rfl
theorem jfi (n:Nat) : ∀rec p,qnq n rec p=round Tryz.prog 93 (qg6 n) (qbq n) qfp 1 qar q6i (q01 0 0 (q00 Tryz.f68)) rec p:=by intro rec p;kernel_rfl
theorem qom (n:Nat) {F:Fr} (hF:F.n=93) (hK:Know Inv F.G):q75 Tryz.prog F (j17 n) (q01 0 1 (q00 Tryz.f68)) :=
 q0i hF (by kernel_rfl) (qdd n hK) (jdc n) (fuel:=n) (fun _=>rfl) (q02 fun j L h1 h2 h3=>absurd h2 (Nat.not_lt.2 (Nat.le_trans (by decide +kernel) h1))) (q0t qmb)
theorem j6k (n:Nat) {F:Fr} (hF:F.n=93) (hK:Know Inv F.G):q75 Tryz.prog F (j1k n) (q01 0 0 (q00 Tryz.f68)) :=
 q0i hF (by kernel_rfl) (qdd n hK) (jfi n) (fuel:=n) (fun _=>rfl) (q02 (c:=(q01 0 0 (q00 Tryz.f68))) (fun j L h1 h2 h3=>by
  have h2':j<2:=Nat.lt_of_lt_of_le h2 (by decide +kernel)
  match j,h1,h2',h3 with
  | 0,h1,_,_=>exact absurd h1 (by decide)
  | 1,_,_,h3=>obtain rfl:=Option.some.inj h3;exact (show q01 0 1 (q00 Tryz.f68)=q01 1 1 (q01 0 0 (q00 Tryz.f68)) by kernel_rfl) ▸ qom n hF hK
  | j+2,_,h2',_=>exact absurd h2' (by omega))) (q0t qmb)
theorem jlx (n:Nat) : ∀a,(qab n).F a=main Tryz.prog 93 (qg6 n) (qbq n) qfp (q00 Tryz.f68) [.tmp 4] (qab n).args (qab n).res a:=by intro a;kernel_rfl
theorem jpb (n:Nat):q09 Inv Tryz.prog (qab n):=fun G hG=>⟨⟨by kernel_rfl,fun a r h=>q03 (c:=q00 Tryz.f68) Tryz.func68 (by kernel_rfl) (by kernel_rfl) (Nat.le_of_ble_eq_true (by kernel_rfl)) hG.st (by kernel_rfl) (rs:=[.tmp 4]) (by kernel_rfl) (qdd n hG) (lts:=qbq n) (fun F hF hFG=>have hK:Know Inv F.G:=hFG ▸ hG;(q02 (c:=(q00 Tryz.f68)) (fun j L h1 h2 h3=>by
  have h2':j<2:=Nat.lt_of_lt_of_le h2 (by decide +kernel)
  match j,h1,h2',h3 with
  | 0,_,_,h3=>obtain rfl:=Option.some.inj h3;exact (show q01 0 0 (q00 Tryz.f68)=q01 0 0 (q00 Tryz.f68) by kernel_rfl) ▸ j6k n hF hK
  | 1,_,_,h3=>obtain rfl:=Option.some.inj h3;exact (show q01 0 1 (q00 Tryz.f68)=q01 0 1 (q00 Tryz.f68) by kernel_rfl) ▸ qom n hF hK
  | j+2,_,h2',_=>exact absurd h2' (by omega)))) qmb ((jlx n a).symm.trans h)⟩,rfl⟩
def jhr (n:Nat):List LC:=[]
def j0x (n:Nat) (a1:Int):Option (Bool) :=
 (bif decide (0<=a1) then some (decide (a1<=999999999)) else some false)
def qtf (n:Nat):FC:={ f:=67,args:=[.one (.c (.d (.int .i64)))],res:=.one (.c (.d .bool)),F:=fun p=>j0x n p }
def jsm (n:Nat):List FC:=[]
theorem jxj (n:Nat) {G:World->Prop} (hG:Know Inv G) : ∀c∈jsm n,q0p Tryz.prog G c/\q07 c.args=true:=(fun _ h=>by cases h)
def jul:q06:=[]
theorem k2z:drB jul (q00 Tryz.f67)=true:=by kernel_rfl
theorem k4i (n:Nat) : ∀a,(qtf n).F a=main Tryz.prog 9 (jsm n) (jhr n) jul (q00 Tryz.f67) [.tmp 2] (qtf n).args (qtf n).res a:=by intro a;kernel_rfl
theorem k4b (n:Nat):q09 Inv Tryz.prog (qtf n):=fun G hG=>⟨⟨by kernel_rfl,fun a r h=>q03 (c:=q00 Tryz.f67) Tryz.func67 (by kernel_rfl) (by kernel_rfl) (Nat.le_of_ble_eq_true (by kernel_rfl)) hG.st (by kernel_rfl) (rs:=[.tmp 2]) (by kernel_rfl) (jxj n hG) (lts:=jhr n) (fun F hF hFG=>have hK:Know Inv F.G:=hFG ▸ hG;(q02 fun j L h1 h2 h3=>absurd h2 (Nat.not_lt.2 (Nat.le_trans (by decide +kernel) h1)))) k2z ((k4i n a).symm.trans h)⟩,rfl⟩
def j1h (n:Nat):List LC:=[]
def qbb (n:Nat) (a1:Vv):Option (Bool) :=
 (j0x n a1.1).bind fun r1=>(bif !r1 then some false else (j0x n a1.2.1).bind fun r2=>(bif !r2 then some false else (j0x n a1.2.2.1).bind fun r3=>(bif !r3 then some false else (bif decide (30<(a1.2.2.2.1.length:Int)) then some false else (bif decide (30<(a1.2.2.2.2.length:Int)) then some false else (bif decide (a1.2.2.2.1=([]:Yy)) then (bif decide (a1.2.2.2.2=([]:Yy)) then some true else (qa6 n a1.2.2.2.2 true).bind fun r4=>some r4) else (qa6 n a1.2.2.2.1 false).bind fun r5=>(bif r5 then (bif decide (a1.2.2.2.2=([]:Yy)) then some true else (qa6 n a1.2.2.2.2 true).bind fun r6=>some r6) else some false)))))))
def q7r (n:Nat):FC:={ f:=39,args:=[.one (.agg [.d (.int .i64),.d (.int .i64),.d (.int .i64),.d .str,.d .str])],res:=.one (.c (.d .bool)),F:=fun p=>qbb n p }
def jc7 (n:Nat):List FC:=[qtf n,qab n]
theorem jgw (n:Nat) {G:World->Prop} (hG:Know Inv G) : ∀c∈jc7 n,q0p Tryz.prog G c/\q07 c.args=true:=List.forall_mem_cons.2 ⟨k4b n G hG,List.forall_mem_cons.2 ⟨jpb n G hG,(fun _ h=>by cases h)⟩⟩
def jaf:q06:=[]
theorem juw:drB jaf (q00 Tryz.f39)=true:=by kernel_rfl
theorem jrv (n:Nat) : ∀a,(q7r n).F a=main Tryz.prog 49 (jc7 n) (j1h n) jaf (q00 Tryz.f39) [.tmp 2] (q7r n).args (q7r n).res a:=by intro a;kernel_rfl
theorem qw2 (n:Nat):q09 Inv Tryz.prog (q7r n):=fun G hG=>⟨⟨by kernel_rfl,fun a r h=>q03 (c:=q00 Tryz.f39) Tryz.func39 (by kernel_rfl) (by kernel_rfl) (Nat.le_of_ble_eq_true (by kernel_rfl)) hG.st (by kernel_rfl) (rs:=[.tmp 2]) (by kernel_rfl) (jgw n hG) (lts:=j1h n) (fun F hF hFG=>have hK:Know Inv F.G:=hFG ▸ hG;(q02 fun j L h1 h2 h3=>absurd h2 (Nat.not_lt.2 (Nat.le_trans (by decide +kernel) h1)))) juw ((jrv n a).symm.trans h)⟩,rfl⟩
def qwk (n:Nat):List LC:=[]
def q25:Nat->Int->Option (Yy)
 | 0,_=>none
 | n+1,a1 =>
 (k2h a1 (10:Int)).bind fun n1=>q04 (IntKind.wrap .i64 ((48:Int)+n1)) fun n2=>q04 (IntKind.wrap .u8 n2) fun n3=>(bif decide ((10:Int)<=a1) then (k72 .i64 a1 (10:Int)).bind fun n4=>(q25 n n4).bind fun (r5:Yy)=>(q7s r5 (List.map (fun n:Int=>UInt8.ofNat n.toNat) ([n3]:List (Int)))).bind fun s6=>some s6 else some (List.map (fun n:Int=>UInt8.ofNat n.toNat) ([n3]:List (Int))))
def q54 (n:Nat):FC:={ f:=40,args:=[.one (.c (.d (.int .i64)))],res:=.one (.c (.d .str)),F:=fun p=>q25 n p }
def qzz (n:Nat):List FC:=[q54 n]
theorem j5s (n:Nat) (hrec:q09 Inv Tryz.prog (q54 n)) {G:World->Prop} (hG:Know Inv G) : ∀c∈qzz n,q0p Tryz.prog G c/\q07 c.args=true:=List.forall_mem_cons.2 ⟨hrec G hG,(fun _ h=>by cases h)⟩
def qyv:q06:=[]
theorem jpa:drB qyv (q00 Tryz.f40)=true:=by kernel_rfl
theorem jo0 (n:Nat) : ∀a,(q54 (n+1)).F a=main Tryz.prog 18 (qzz n) (qwk n) qyv (q00 Tryz.f40) [.tmp 2] (q54 (n+1)).args (q54 (n+1)).res a:=by intro a;kernel_rfl
theorem j1p:(n:Nat)->q09 Inv Tryz.prog (q54 n)
 | 0=>fun G hG=>⟨⟨by kernel_rfl,fun a r h=>by cases h⟩,rfl⟩
 | n+1=>fun G hG=>⟨⟨by kernel_rfl,fun a r h=>q03 (c:=q00 Tryz.f40) Tryz.func40 (by kernel_rfl) (by kernel_rfl) (Nat.le_of_ble_eq_true (by kernel_rfl)) hG.st (by kernel_rfl) (rs:=[.tmp 2]) (by kernel_rfl) (j5s n (j1p n) hG) (lts:=qwk n) (fun F hF hFG=>have hK:Know Inv F.G:=hFG ▸ hG;(q02 fun j L h1 h2 h3=>absurd h2 (Nat.not_lt.2 (Nat.le_trans (by decide +kernel) h1)))) jpa ((jo0 n a).symm.trans h)⟩,rfl⟩
def j8m (n:Nat):List LC:=[]
def q63 (n:Nat) (a1:Vv):Option (Yy) :=
 (qbb n a1).bind fun r1=>(bif !r1 then some ([]:Yy) else (q25 n a1.1).bind fun (r2:Yy)=>(q7s ([118]:Yy) r2).bind fun s3=>(q7s s3 ([46]:Yy)).bind fun s4=>(q25 n a1.2.1).bind fun (r5:Yy)=>(q7s s4 r5).bind fun s6=>(q7s s6 ([46]:Yy)).bind fun s7=>(q25 n a1.2.2.1).bind fun (r8:Yy)=>(q7s s7 r8).bind fun s9=>(bif !decide (a1.2.2.2.1=([]:Yy)) then (q7s s9 ([45]:Yy)).bind fun s10=>(q7s s10 a1.2.2.2.1).bind fun s11=>(bif !decide (a1.2.2.2.2=([]:Yy)) then (q7s s11 ([43]:Yy)).bind fun s12=>(q7s s12 a1.2.2.2.2).bind fun s13=>some s13 else some s11) else (bif !decide (a1.2.2.2.2=([]:Yy)) then (q7s s9 ([43]:Yy)).bind fun s14=>(q7s s14 a1.2.2.2.2).bind fun s15=>some s15 else some s9)))
def qcg (n:Nat):FC:={ f:=20,args:=[.one (.agg [.d (.int .i64),.d (.int .i64),.d (.int .i64),.d .str,.d .str])],res:=.one (.c (.d .str)),F:=fun p=>q63 n p }
def jjs (n:Nat):List FC:=[q7r n,q54 n]
theorem jmr (n:Nat) {G:World->Prop} (hG:Know Inv G) : ∀c∈jjs n,q0p Tryz.prog G c/\q07 c.args=true:=List.forall_mem_cons.2 ⟨qw2 n G hG,List.forall_mem_cons.2 ⟨j1p n G hG,(fun _ h=>by cases h)⟩⟩
def jk9:q06:=[(3,[⟨12582936,2^21,0⟩,⟨102760464,2^24,1⟩,⟨49*2^24,2^27,3⟩,⟨49*2^27,2^30,7⟩,⟨49*2^30,2^33,15⟩,⟨412316860440,2^36,0⟩,⟨3367254360080,2^39,32⟩,⟨49*2^39,2^42,103⟩,⟨25089*2^33,2^45,255⟩,⟨49*2^45,2^48,511⟩,⟨13510798882111512,2^51,0⟩,⟨110338190870577168,2^54,1024⟩,⟨49*2^54,2^57,3303⟩,⟨25089*2^48,2^60,8191⟩,⟨1152921504606850048,512,16383⟩]),(1000003,[])]
theorem k1o:drB jk9 (q00 Tryz.f20)=true:=by kernel_rfl
theorem k0y (n:Nat) : ∀a,(qcg n).F a=main Tryz.prog 38 (jjs n) (j8m n) jk9 (q00 Tryz.f20) [.tmp 2] (qcg n).args (qcg n).res a:=by intro a;kernel_rfl
theorem j2e (n:Nat):q09 Inv Tryz.prog (qcg n):=fun G hG=>⟨⟨by kernel_rfl,fun a r h=>q03 (c:=q00 Tryz.f20) Tryz.func20 (by kernel_rfl) (by kernel_rfl) (Nat.le_of_ble_eq_true (by kernel_rfl)) hG.st (by kernel_rfl) (rs:=[.tmp 2]) (by kernel_rfl) (jmr n hG) (lts:=j8m n) (fun F hF hFG=>have hK:Know Inv F.G:=hFG ▸ hG;(q02 fun j L h1 h2 h3=>absurd h2 (Nat.not_lt.2 (Nat.le_trans (by decide +kernel) h1)))) k1o ((k0y n a).symm.trans h)⟩,rfl⟩
@[reducible] def qiu:SSt:=⟨[(0,.one (.c (.d .str))),(1,.one (.c (.d (.int .u8)))),(5,.one (.c (.d (.int .i64))))],[],[]⟩
@[reducible] def qb4:List (Exit×SSt):=[(.ret,⟨[(4,.one (.c (.d (.int .i64))))],[],[]⟩),(.exit 0,⟨[],[],[]⟩)]
def j3x (n:Nat) (rec:(Yy)->Int->Int->Option (((Int×Unit)×Unit×Unit)⊕(Unit×Unit×Unit))) (a1:Yy) (a2:Int) (a3:Int):Option (((Int×Unit)×Unit×Unit)⊕(Unit×Unit×Unit)) :=
 (bif decide (a3<(a1.length:Int)) then (sAt a1 a3).bind fun c1=>(bif decide (c1=a2) then some (Sum.inl ((a3,()),((),()))) else q04 (IntKind.wrap .i64 (a3+1)) fun n2=>rec a1 a2 n2) else some (Sum.inr (((),((),())))))
def j41 (n:Nat) (rec:pSt qiu->Option (q0f qb4)) (p:pSt qiu):Option (q0f qb4):=j3x n (fun a1 a2 a3=>rec ((a1,(a2,(a3,()))),((),()))) p.1.1 p.1.2.1 p.1.2.2.1
def qc6 (n m:Nat) (a1:Yy) (a2:Int) (a3:Int):Option (((Int×Unit)×Unit×Unit)⊕(Unit×Unit×Unit)):=q0g (j41 n) m ((a1,(a2,(a3,()))),((),()))
theorem qpn (n m:Nat) (a1 a2 a3):qc6 n (m+1) a1 a2 a3=j3x n (fun a1 a2 a3=>qc6 n m a1 a2 a3) a1 a2 a3:=rfl
def jj3 (n:Nat):LC:={ sh:=qiu,outs:=qb4,F:=q0g (j41 n) n }
def qtn (n:Nat):List LC:=[jj3 n]
def qce (n:Nat) (a1:Yy) (a2:Int):Option (Int) :=
 (qc6 n n a1 a2 (0:Int)).bind fun o3=>Sum.elim (fun (q4:(Int×Unit)×Unit×Unit)=>some q4.1.1) (fun (q5:(Unit)×Unit×Unit)=>some (-1:Int)) o3
def qko (n:Nat):FC:={ f:=207,args:=[.one (.c (.d .str)),.one (.c (.d (.int .u8)))],res:=.one (.c (.d (.int .i64))),F:=fun p=>qce n p.1 p.2 }
def j5f (n:Nat):List FC:=[]
theorem j0p (n:Nat) {G:World->Prop} (hG:Know Inv G) : ∀c∈j5f n,q0p Tryz.prog G c/\q07 c.args=true:=(fun _ h=>by cases h)
def j39:q06:=[]
theorem jlj:drB j39 (q00 Tryz.f207)=true:=by kernel_rfl
theorem jsq (n:Nat) : ∀rec p,j41 n rec p=round Tryz.prog 18 (j5f n) (qtn n) j39 1 qiu qb4 (q01 0 0 (q00 Tryz.f207)) rec p:=by intro rec p;kernel_rfl
theorem jny (n:Nat) {F:Fr} (hF:F.n=18) (hK:Know Inv F.G):q75 Tryz.prog F (jj3 n) (q01 0 0 (q00 Tryz.f207)) :=
 q0i hF (by kernel_rfl) (j0p n hK) (jsq n) (fuel:=n) (fun _=>rfl) (q02 fun j L h1 h2 h3=>absurd h2 (Nat.not_lt.2 (Nat.le_trans (by decide +kernel) h1))) (q0t jlj)
theorem k0a (n:Nat) : ∀a,(qko n).F a=main Tryz.prog 18 (j5f n) (qtn n) j39 (q00 Tryz.f207) [.tmp 4] (qko n).args (qko n).res a:=by intro a;kernel_rfl
theorem k19 (n:Nat):q09 Inv Tryz.prog (qko n):=fun G hG=>⟨⟨by kernel_rfl,fun a r h=>q03 (c:=q00 Tryz.f207) Tryz.func207 (by kernel_rfl) (by kernel_rfl) (Nat.le_of_ble_eq_true (by kernel_rfl)) hG.st (by kernel_rfl) (rs:=[.tmp 4]) (by kernel_rfl) (j0p n hG) (lts:=qtn n) (fun F hF hFG=>have hK:Know Inv F.G:=hFG ▸ hG;(q02 (c:=(q00 Tryz.f207)) (fun j L h1 h2 h3=>by
  have h2':j<1:=Nat.lt_of_lt_of_le h2 (by decide +kernel)
  match j,h1,h2',h3 with
  | 0,_,_,h3=>obtain rfl:=Option.some.inj h3;exact (show q01 0 0 (q00 Tryz.f207)=q01 0 0 (q00 Tryz.f207) by kernel_rfl) ▸ jny n hF hK
  | j+1,_,h2',_=>exact absurd h2' (by omega)))) jlj ((k0a n a).symm.trans h)⟩,rfl⟩
@[reducible] def qjw:SSt:=⟨[(0,.one (.c (.d .str))),(3,.one (.c (.d (.int .i64)))),(4,.one (.c (.d (.int .i64))))],[],[]⟩
@[reducible] def qb8:List (Exit×SSt):=[(.exit 0,⟨[(3,.one (.c (.d (.int .i64))))],[],[]⟩)]
def j2m (n:Nat) (rec:(Yy)->Int->Int->Option ((Int×Unit)×Unit×Unit)) (a1:Yy) (a2:Int) (a3:Int):Option ((Int×Unit)×Unit×Unit) :=
 (bif decide (a3<(a1.length:Int)) then q04 (IntKind.wrap .i64 ((10:Int)*a2)) fun n2=>(sAt a1 a3).bind fun c3=>q04 (IntKind.wrap .i64 c3) fun n4=>q04 (IntKind.wrap .i64 (n2+n4)) fun n5=>q04 (IntKind.wrap .i64 (n5 - (48:Int))) fun n6=>q04 (IntKind.wrap .i64 (a3+1)) fun n7=>rec a1 n6 n7 else some (((a2,()),((),()))))
def j3r (n:Nat) (rec:pSt qjw->Option (q0f qb8)) (p:pSt qjw):Option (q0f qb8):=j2m n (fun a1 a2 a3=>rec ((a1,(a2,(a3,()))),((),()))) p.1.1 p.1.2.1 p.1.2.2.1
def qan (n m:Nat) (a1:Yy) (a2:Int) (a3:Int):Option ((Int×Unit)×Unit×Unit):=q0g (j3r n) m ((a1,(a2,(a3,()))),((),()))
theorem qpm (n m:Nat) (a1 a2 a3):qan n (m+1) a1 a2 a3=j2m n (fun a1 a2 a3=>qan n m a1 a2 a3) a1 a2 a3:=rfl
def ji0 (n:Nat):LC:={ sh:=qjw,outs:=qb8,F:=q0g (j3r n) n }
def qte (n:Nat):List LC:=[ji0 n]
def q1n (n:Nat) (a1:Yy):Option (Int) :=
 (q7n n a1).bind fun r1=>(bif !r1 then some (-1:Int) else (bif decide (9<(a1.length:Int)) then some (-1:Int) else (qan n n a1 (0:Int) (0:Int)).bind fun o8=>some o8.1.1))
def qkv (n:Nat):FC:={ f:=208,args:=[.one (.c (.d .str))],res:=.one (.c (.d (.int .i64))),F:=fun p=>q1n n p }
def j4k (n:Nat):List FC:=[q50 n]
theorem j1s (n:Nat) {G:World->Prop} (hG:Know Inv G) : ∀c∈j4k n,q0p Tryz.prog G c/\q07 c.args=true:=List.forall_mem_cons.2 ⟨qlp n G hG,(fun _ h=>by cases h)⟩
def j2i:q06:=[]
theorem jjq:drB j2i (q00 Tryz.f208)=true:=by kernel_rfl
theorem jwd (n:Nat) : ∀rec p,j3r n rec p=round Tryz.prog 28 (j4k n) (qte n) j2i 1 qjw qb8 (q01 0 0 (q00 Tryz.f208)) rec p:=by intro rec p;kernel_rfl
theorem joy (n:Nat) {F:Fr} (hF:F.n=28) (hK:Know Inv F.G):q75 Tryz.prog F (ji0 n) (q01 0 0 (q00 Tryz.f208)) :=
 q0i hF (by kernel_rfl) (j1s n hK) (jwd n) (fuel:=n) (fun _=>rfl) (q02 fun j L h1 h2 h3=>absurd h2 (Nat.not_lt.2 (Nat.le_trans (by decide +kernel) h1))) (q0t jjq)
theorem k0j (n:Nat) : ∀a,(qkv n).F a=main Tryz.prog 28 (j4k n) (qte n) j2i (q00 Tryz.f208) [.tmp 2] (qkv n).args (qkv n).res a:=by intro a;kernel_rfl
theorem jyp (n:Nat):q09 Inv Tryz.prog (qkv n):=fun G hG=>⟨⟨by kernel_rfl,fun a r h=>q03 (c:=q00 Tryz.f208) Tryz.func208 (by kernel_rfl) (by kernel_rfl) (Nat.le_of_ble_eq_true (by kernel_rfl)) hG.st (by kernel_rfl) (rs:=[.tmp 2]) (by kernel_rfl) (j1s n hG) (lts:=qte n) (fun F hF hFG=>have hK:Know Inv F.G:=hFG ▸ hG;(q02 (c:=(q00 Tryz.f208)) (fun j L h1 h2 h3=>by
  have h2':j<1:=Nat.lt_of_lt_of_le h2 (by decide +kernel)
  match j,h1,h2',h3 with
  | 0,_,_,h3=>obtain rfl:=Option.some.inj h3;exact (show q01 0 0 (q00 Tryz.f208)=q01 0 0 (q00 Tryz.f208) by kernel_rfl) ▸ joy n hF hK
  | j+1,_,h2',_=>exact absurd h2' (by omega)))) jjq ((k0j n a).symm.trans h)⟩,rfl⟩
def j1f (n:Nat):List LC:=[]
def q4l (n:Nat) (a1:Yy):Option ((Vv)×(Bool)) :=
 (bif decide (100<(a1.length:Int)) then some (((0:Int),((0:Int),((0:Int),(([]:Yy),([]:Yy))))),false) else (bif decide ((a1.length:Int)=0) then some (((0:Int),((0:Int),((0:Int),(([]:Yy),([]:Yy))))),false) else (sAt a1 (0:Int)).bind fun c1=>(bif !decide (c1=118) then some (((0:Int),((0:Int),((0:Int),(([]:Yy),([]:Yy))))),false) else (q1d a1 (1:Int) (a1.length:Int)).bind fun s2=>(qce n s2 (43:Int)).bind fun r3=>(bif decide (0<=r3) then q04 (IntKind.wrap .i64 (r3+1)) fun n4=>(q1d s2 n4 (s2.length:Int)).bind fun s5=>(q1d s2 (0:Int) r3).bind fun s6=>(qce n s6 (45:Int)).bind fun r7=>(bif decide (0<=r7) then q04 (IntKind.wrap .i64 (r7+1)) fun n8=>(q1d s6 n8 (s6.length:Int)).bind fun s9=>(q1d s6 (0:Int) r7).bind fun s10=>(q0k n s10 (46:Int)).bind fun r11=>(bif !decide ((r11.length:Int)=3) then some (((0:Int),((0:Int),((0:Int),(([]:Yy),([]:Yy))))),false) else (q0n r11 (0:Int)).bind fun x12=>(q1n n x12).bind fun r13=>(q0n r11 (1:Int)).bind fun x14=>(q1n n x14).bind fun r15=>(q0n r11 (2:Int)).bind fun x16=>(q1n n x16).bind fun r17=>(q63 n (r13,(r15,(r17,(s9,s5))))).bind fun r18=>(bif !decide (r18=a1) then some (((0:Int),((0:Int),((0:Int),(([]:Yy),([]:Yy))))),false) else some ((r13,(r15,(r17,(s9,s5)))),true))) else (q0k n s6 (46:Int)).bind fun r19=>(bif !decide ((r19.length:Int)=3) then some (((0:Int),((0:Int),((0:Int),(([]:Yy),([]:Yy))))),false) else (q0n r19 (0:Int)).bind fun x20=>(q1n n x20).bind fun r21=>(q0n r19 (1:Int)).bind fun x22=>(q1n n x22).bind fun r23=>(q0n r19 (2:Int)).bind fun x24=>(q1n n x24).bind fun r25=>(q63 n (r21,(r23,(r25,(([]:Yy),s5))))).bind fun r26=>(bif !decide (r26=a1) then some (((0:Int),((0:Int),((0:Int),(([]:Yy),([]:Yy))))),false) else some ((r21,(r23,(r25,(([]:Yy),s5)))),true)))) else (qce n s2 (45:Int)).bind fun r27=>(bif decide (0<=r27) then q04 (IntKind.wrap .i64 (r27+1)) fun n28=>(q1d s2 n28 (s2.length:Int)).bind fun s29=>(q1d s2 (0:Int) r27).bind fun s30=>(q0k n s30 (46:Int)).bind fun r31=>(bif !decide ((r31.length:Int)=3) then some (((0:Int),((0:Int),((0:Int),(([]:Yy),([]:Yy))))),false) else (q0n r31 (0:Int)).bind fun x32=>(q1n n x32).bind fun r33=>(q0n r31 (1:Int)).bind fun x34=>(q1n n x34).bind fun r35=>(q0n r31 (2:Int)).bind fun x36=>(q1n n x36).bind fun r37=>(q63 n (r33,(r35,(r37,(s29,([]:Yy)))))).bind fun r38=>(bif !decide (r38=a1) then some (((0:Int),((0:Int),((0:Int),(([]:Yy),([]:Yy))))),false) else some ((r33,(r35,(r37,(s29,([]:Yy))))),true))) else (q0k n s2 (46:Int)).bind fun r39=>(bif !decide ((r39.length:Int)=3) then some (((0:Int),((0:Int),((0:Int),(([]:Yy),([]:Yy))))),false) else (q0n r39 (0:Int)).bind fun x40=>(q1n n x40).bind fun r41=>(q0n r39 (1:Int)).bind fun x42=>(q1n n x42).bind fun r43=>(q0n r39 (2:Int)).bind fun x44=>(q1n n x44).bind fun r45=>(q63 n (r41,(r43,(r45,(([]:Yy),([]:Yy)))))).bind fun r46=>(bif !decide (r46=a1) then some (((0:Int),((0:Int),((0:Int),(([]:Yy),([]:Yy))))),false) else some ((r41,(r43,(r45,(([]:Yy),([]:Yy))))),true))))))))
def q9r (n:Nat):FC:={ f:=177,args:=[.one (.c (.d .str))],res:=.tup [.agg [.d (.int .i64),.d (.int .i64),.d (.int .i64),.d .str,.d .str],.c (.d .bool)],F:=fun p=>q4l n p }
def jbi (n:Nat):List FC:=[qko n,q0u n,qkv n,qcg n]
theorem jdo (n:Nat) {G:World->Prop} (hG:Know Inv G) : ∀c∈jbi n,q0p Tryz.prog G c/\q07 c.args=true:=List.forall_mem_cons.2 ⟨k19 n G hG,List.forall_mem_cons.2 ⟨q3i n G hG,List.forall_mem_cons.2 ⟨jyp n G hG,List.forall_mem_cons.2 ⟨j2e n G hG,(fun _ h=>by cases h)⟩⟩⟩⟩
def j7t:q06:=[]
theorem jts:drB j7t (q00 Tryz.f177)=true:=by kernel_rfl
theorem jpy (n:Nat) : ∀a,(q9r n).F a=main Tryz.prog 77 (jbi n) (j1f n) j7t (q00 Tryz.f177) [.cell 2 44,.tmp 3] (q9r n).args (q9r n).res a:=by intro a;kernel_rfl
theorem j6c (n:Nat):q09 Inv Tryz.prog (q9r n):=fun G hG=>⟨⟨by kernel_rfl,fun a r h=>q03 (c:=q00 Tryz.f177) Tryz.func177 (by kernel_rfl) (by kernel_rfl) (Nat.le_of_ble_eq_true (by kernel_rfl)) hG.st (by kernel_rfl) (rs:=[.cell 2 44,.tmp 3]) (by kernel_rfl) (jdo n hG) (lts:=j1f n) (fun F hF hFG=>have hK:Know Inv F.G:=hFG ▸ hG;(q02 fun j L h1 h2 h3=>absurd h2 (Nat.not_lt.2 (Nat.le_trans (by decide +kernel) h1)))) jts ((jpy n a).symm.trans h)⟩,rfl⟩
def j1n (n:Nat):List LC:=[]
def q4i (n:Nat) (a1:Int) (a2:Int):Option (Int) :=
 (bif decide (a1<a2) then some (-1:Int) else (bif decide (a2<a1) then some (1:Int) else some (0:Int)))
def q74 (n:Nat):FC:={ f:=209,args:=[.one (.c (.d (.int .i64))),.one (.c (.d (.int .i64)))],res:=.one (.c (.d (.int .i64))),F:=fun p=>q4i n p.1 p.2 }
def jay (n:Nat):List FC:=[]
theorem jgd (n:Nat) {G:World->Prop} (hG:Know Inv G) : ∀c∈jay n,q0p Tryz.prog G c/\q07 c.args=true:=(fun _ h=>by cases h)
def jb0:q06:=[]
theorem jsi:drB jb0 (q00 Tryz.f209)=true:=by kernel_rfl
theorem jtb (n:Nat) : ∀a,(q74 n).F a=main Tryz.prog 11 (jay n) (j1n n) jb0 (q00 Tryz.f209) [.tmp 4] (q74 n).args (q74 n).res a:=by intro a;kernel_rfl
theorem qtv (n:Nat):q09 Inv Tryz.prog (q74 n):=fun G hG=>⟨⟨by kernel_rfl,fun a r h=>q03 (c:=q00 Tryz.f209) Tryz.func209 (by kernel_rfl) (by kernel_rfl) (Nat.le_of_ble_eq_true (by kernel_rfl)) hG.st (by kernel_rfl) (rs:=[.tmp 4]) (by kernel_rfl) (jgd n hG) (lts:=j1n n) (fun F hF hFG=>have hK:Know Inv F.G:=hFG ▸ hG;(q02 fun j L h1 h2 h3=>absurd h2 (Nat.not_lt.2 (Nat.le_trans (by decide +kernel) h1)))) jsi ((jtb n a).symm.trans h)⟩,rfl⟩
def qz2 (n:Nat):List LC:=[]
def qja (n:Nat) (a1:Yy) (a2:Yy):Option (Int) :=
 (q7n n a1).bind fun r1=>(q7n n a2).bind fun r2=>(bif r1 then (bif r2 then (bif !decide ((a1.length:Int)=(a2.length:Int)) then (q4i n (a1.length:Int) (a2.length:Int)).bind fun r3=>some r3 else (bif r1 then (bif !r2 then some (-1:Int) else (bif r2 then (bif !r1 then some (1:Int) else (bif ltS (a1) (a2) then some (-1:Int) else (bif !(ltS (a1) (a2)||decide (a1=a2)) then some (1:Int) else some (0:Int)))) else (bif ltS (a1) (a2) then some (-1:Int) else (bif !(ltS (a1) (a2)||decide (a1=a2)) then some (1:Int) else some (0:Int))))) else (bif r2 then (bif !r1 then some (1:Int) else (bif ltS (a1) (a2) then some (-1:Int) else (bif !(ltS (a1) (a2)||decide (a1=a2)) then some (1:Int) else some (0:Int)))) else (bif ltS (a1) (a2) then some (-1:Int) else (bif !(ltS (a1) (a2)||decide (a1=a2)) then some (1:Int) else some (0:Int)))))) else (bif r1 then (bif !r2 then some (-1:Int) else (bif r2 then (bif !r1 then some (1:Int) else (bif ltS (a1) (a2) then some (-1:Int) else (bif !(ltS (a1) (a2)||decide (a1=a2)) then some (1:Int) else some (0:Int)))) else (bif ltS (a1) (a2) then some (-1:Int) else (bif !(ltS (a1) (a2)||decide (a1=a2)) then some (1:Int) else some (0:Int))))) else (bif r2 then (bif !r1 then some (1:Int) else (bif ltS (a1) (a2) then some (-1:Int) else (bif !(ltS (a1) (a2)||decide (a1=a2)) then some (1:Int) else some (0:Int)))) else (bif ltS (a1) (a2) then some (-1:Int) else (bif !(ltS (a1) (a2)||decide (a1=a2)) then some (1:Int) else some (0:Int)))))) else (bif r1 then (bif !r2 then some (-1:Int) else (bif r2 then (bif !r1 then some (1:Int) else (bif ltS (a1) (a2) then some (-1:Int) else (bif !(ltS (a1) (a2)||decide (a1=a2)) then some (1:Int) else some (0:Int)))) else (bif ltS (a1) (a2) then some (-1:Int) else (bif !(ltS (a1) (a2)||decide (a1=a2)) then some (1:Int) else some (0:Int))))) else (bif r2 then (bif !r1 then some (1:Int) else (bif ltS (a1) (a2) then some (-1:Int) else (bif !(ltS (a1) (a2)||decide (a1=a2)) then some (1:Int) else some (0:Int)))) else (bif ltS (a1) (a2) then some (-1:Int) else (bif !(ltS (a1) (a2)||decide (a1=a2)) then some (1:Int) else some (0:Int))))))
def qeh (n:Nat):FC:={ f:=224,args:=[.one (.c (.d .str)),.one (.c (.d .str))],res:=.one (.c (.d (.int .i64))),F:=fun p=>qja n p.1 p.2 }
def j7s (n:Nat):List FC:=[q50 n,q74 n]
theorem jh6 (n:Nat) {G:World->Prop} (hG:Know Inv G) : ∀c∈j7s n,q0p Tryz.prog G c/\q07 c.args=true:=List.forall_mem_cons.2 ⟨qlp n G hG,List.forall_mem_cons.2 ⟨qtv n G hG,(fun _ h=>by cases h)⟩⟩
def jc6:q06:=[]
theorem jxg:drB jc6 (q00 Tryz.f224)=true:=by kernel_rfl
theorem jv8 (n:Nat) : ∀a,(qeh n).F a=main Tryz.prog 43 (j7s n) (qz2 n) jc6 (q00 Tryz.f224) [.tmp 4] (qeh n).args (qeh n).res a:=by intro a;kernel_rfl
theorem jrj (n:Nat):q09 Inv Tryz.prog (qeh n):=fun G hG=>⟨⟨by kernel_rfl,fun a r h=>q03 (c:=q00 Tryz.f224) Tryz.func224 (by kernel_rfl) (by kernel_rfl) (Nat.le_of_ble_eq_true (by kernel_rfl)) hG.st (by kernel_rfl) (rs:=[.tmp 4]) (by kernel_rfl) (jh6 n hG) (lts:=qz2 n) (fun F hF hFG=>have hK:Know Inv F.G:=hFG ▸ hG;(q02 fun j L h1 h2 h3=>absurd h2 (Nat.not_lt.2 (Nat.le_trans (by decide +kernel) h1)))) jxg ((jv8 n a).symm.trans h)⟩,rfl⟩
def q7v (n:Nat):List LC:=[]
def qdu (n:Nat) (a1:Bool):Option (Int) :=
 (bif a1 then some (1:Int) else some (0:Int))
def q76 (n:Nat):FC:={ f:=223,args:=[.one (.c (.d .bool))],res:=.one (.c (.d (.int .i64))),F:=fun p=>qdu n p }
def qei (n:Nat):List FC:=[]
theorem q9w (n:Nat) {G:World->Prop} (hG:Know Inv G) : ∀c∈qei n,q0p Tryz.prog G c/\q07 c.args=true:=(fun _ h=>by cases h)
def qdn:q06:=[]
theorem qlt:drB qdn (q00 Tryz.f223)=true:=by kernel_rfl
theorem jfs (n:Nat) : ∀a,(q76 n).F a=main Tryz.prog 4 (qei n) (q7v n) qdn (q00 Tryz.f223) [.tmp 2] (q76 n).args (q76 n).res a:=by intro a;kernel_rfl
theorem jf7 (n:Nat):q09 Inv Tryz.prog (q76 n):=fun G hG=>⟨⟨by kernel_rfl,fun a r h=>q03 (c:=q00 Tryz.f223) Tryz.func223 (by kernel_rfl) (by kernel_rfl) (Nat.le_of_ble_eq_true (by kernel_rfl)) hG.st (by kernel_rfl) (rs:=[.tmp 2]) (by kernel_rfl) (q9w n hG) (lts:=q7v n) (fun F hF hFG=>have hK:Know Inv F.G:=hFG ▸ hG;(q02 fun j L h1 h2 h3=>absurd h2 (Nat.not_lt.2 (Nat.le_trans (by decide +kernel) h1)))) qlt ((jfs n a).symm.trans h)⟩,rfl⟩
@[reducible] def qqh:SSt:=⟨[(5,.one (.c (.d (.lst .str)))),(6,.one (.c (.d (.lst .str)))),(7,.one (.c (.d (.int .i64))))],[],[]⟩
@[reducible] def qfx:List (Exit×SSt):=[(.ret,⟨[(4,.one (.c (.d (.int .i64))))],[],[]⟩),(.exit 0,⟨[(5,.one (.c (.d (.lst .str)))),(6,.one (.c (.d (.lst .str))))],[],[]⟩)]
def jeu (n:Nat) (rec:(List (Yy))->(List (Yy))->Int->Option (((Int×Unit)×Unit×Unit)⊕(((List (Yy))×((List (Yy))×Unit))×Unit×Unit))) (a1:List (Yy)) (a2:List (Yy)) (a3:Int):Option (((Int×Unit)×Unit×Unit)⊕(((List (Yy))×((List (Yy))×Unit))×Unit×Unit)) :=
 (bif decide (a3<(a1.length:Int)) then (bif decide (a3<(a2.length:Int)) then (q0n a1 a3).bind fun x9=>(q0n a2 a3).bind fun x10=>(qja n x9 x10).bind fun r11=>(bif !decide (r11=0) then (q0n a1 a3).bind fun x12=>(q0n a2 a3).bind fun x13=>(qja n x12 x13).bind fun r14=>some (Sum.inl ((r14,()),((),()))) else q04 (IntKind.wrap .i64 (a3+1)) fun n15=>rec a1 a2 n15) else some (Sum.inr (((a1,(a2,())),((),()))))) else some (Sum.inr (((a1,(a2,())),((),())))))
def jgq (n:Nat) (rec:pSt qqh->Option (q0f qfx)) (p:pSt qqh):Option (q0f qfx):=jeu n (fun a1 a2 a3=>rec ((a1,(a2,(a3,()))),((),()))) p.1.1 p.1.2.1 p.1.2.2.1
def qfk (n m:Nat) (a1:List (Yy)) (a2:List (Yy)) (a3:Int):Option (((Int×Unit)×Unit×Unit)⊕(((List (Yy))×((List (Yy))×Unit))×Unit×Unit)):=q0g (jgq n) m ((a1,(a2,(a3,()))),((),()))
theorem quv (n m:Nat) (a1 a2 a3):qfk n (m+1) a1 a2 a3=jeu n (fun a1 a2 a3=>qfk n m a1 a2 a3) a1 a2 a3:=rfl
def jw2 (n:Nat):LC:={ sh:=qqh,outs:=qfx,F:=q0g (jgq n) n }
def j4m (n:Nat):List LC:=[jw2 n]
def ji6 (n:Nat) (a1:Yy) (a2:Yy):Option (Int) :=
 (bif decide (a1=([]:Yy)) then (qdu n (decide (a1=([]:Yy)))).bind fun r1=>(qdu n (decide (a2=([]:Yy)))).bind fun r2=>(q4i n r1 r2).bind fun r3=>some r3 else (bif decide (a2=([]:Yy)) then (qdu n (decide (a1=([]:Yy)))).bind fun r4=>(qdu n (decide (a2=([]:Yy)))).bind fun r5=>(q4i n r4 r5).bind fun r6=>some r6 else (q0k n a1 (46:Int)).bind fun r7=>(q0k n a2 (46:Int)).bind fun r8=>(qfk n n r7 r8 (0:Int)).bind fun o16=>Sum.elim (fun (q17:(Int×Unit)×Unit×Unit)=>some q17.1.1) (fun (q18:((List (Yy))×((List (Yy))×Unit))×Unit×Unit)=>(q4i n (q18.1.1.length:Int) (q18.1.2.1.length:Int)).bind fun r19=>some r19) o16))
def qus (n:Nat):FC:={ f:=210,args:=[.one (.c (.d .str)),.one (.c (.d .str))],res:=.one (.c (.d (.int .i64))),F:=fun p=>ji6 n p.1 p.2 }
def jfe (n:Nat):List FC:=[q76 n,q74 n,q0u n,qeh n]
theorem j7h (n:Nat) {G:World->Prop} (hG:Know Inv G) : ∀c∈jfe n,q0p Tryz.prog G c/\q07 c.args=true:=List.forall_mem_cons.2 ⟨jf7 n G hG,List.forall_mem_cons.2 ⟨qtv n G hG,List.forall_mem_cons.2 ⟨q3i n G hG,List.forall_mem_cons.2 ⟨jrj n G hG,(fun _ h=>by cases h)⟩⟩⟩⟩
def jd0:q06:=[(8,[⟨15576890575604482885591488987693056,2^111,0⟩,⟨59421121885698253195157962753*2^21,2^114,0⟩,⟨393*2^111,2^117,3⟩,⟨49*2^117,2^120,7⟩,⟨63802943797675961899382738893456801792,2^123,0⟩,⟨243388915243820045087367015432193*2^21,2^126,0⟩,⟨393*2^123,2^129,48⟩,⟨49*2^129,2^132,112⟩,⟨200705*2^120,2^135,255⟩,⟨49*2^135,2^138,511⟩]),(1000008,[]),(9,[⟨16725558898897967356151788704486271129518080,2^141,0⟩,⟨63802943797675961899382738893456539649*2^21,2^144,0⟩,⟨393*2^141,2^147,3⟩,⟨49*2^147,2^150,7⟩,⟨68507889249886074290797726533575766546372100096,2^153,0⟩,⟨261336857795280739939871698507597986398209*2^21,2^156,0⟩,⟨393*2^153,2^159,48⟩,⟨49*2^159,2^162,112⟩,⟨200705*2^150,2^165,255⟩,⟨46768052394588893382517914646921056628989841399808,4096,511⟩]),(1000009,[])]
theorem jsp:drB jd0 (q00 Tryz.f210)=true:=by kernel_rfl
theorem jyt (n:Nat) : ∀rec p,jgq n rec p=round Tryz.prog 61 (jfe n) (j4m n) jd0 1 qqh qfx (q01 0 0 (q00 Tryz.f210)) rec p:=by intro rec p;kernel_rfl
theorem js6 (n:Nat) {F:Fr} (hF:F.n=61) (hK:Know Inv F.G):q75 Tryz.prog F (jw2 n) (q01 0 0 (q00 Tryz.f210)) :=
 q0i hF (by kernel_rfl) (j7h n hK) (jyt n) (fuel:=n) (fun _=>rfl) (q02 fun j L h1 h2 h3=>absurd h2 (Nat.not_lt.2 (Nat.le_trans (by decide +kernel) h1))) (q0t jsp)
theorem k53 (n:Nat) : ∀a,(qus n).F a=main Tryz.prog 61 (jfe n) (j4m n) jd0 (q00 Tryz.f210) [.tmp 4] (qus n).args (qus n).res a:=by intro a;kernel_rfl
theorem k46 (n:Nat):q09 Inv Tryz.prog (qus n):=fun G hG=>⟨⟨by kernel_rfl,fun a r h=>q03 (c:=q00 Tryz.f210) Tryz.func210 (by kernel_rfl) (by kernel_rfl) (Nat.le_of_ble_eq_true (by kernel_rfl)) hG.st (by kernel_rfl) (rs:=[.tmp 4]) (by kernel_rfl) (j7h n hG) (lts:=j4m n) (fun F hF hFG=>have hK:Know Inv F.G:=hFG ▸ hG;(q02 (c:=(q00 Tryz.f210)) (fun j L h1 h2 h3=>by
  have h2':j<1:=Nat.lt_of_lt_of_le h2 (by decide +kernel)
  match j,h1,h2',h3 with
  | 0,_,_,h3=>obtain rfl:=Option.some.inj h3;exact (show q01 0 0 (q00 Tryz.f210)=q01 0 0 (q00 Tryz.f210) by kernel_rfl) ▸ js6 n hF hK
  | j+1,_,h2',_=>exact absurd h2' (by omega)))) jsp ((k53 n a).symm.trans h)⟩,rfl⟩
def qod (n:Nat):List LC:=[]
def q72 (n:Nat) (a1:Vv) (a2:Vv):Option (Int) :=
 (qbb n a1).bind fun r1=>(bif !r1 then some (0:Int) else (qbb n a2).bind fun r2=>(bif !r2 then some (0:Int) else (bif !decide (a1.1=a2.1) then (q4i n a1.1 a2.1).bind fun r3=>some r3 else (bif !decide (a1.2.1=a2.2.1) then (q4i n a1.2.1 a2.2.1).bind fun r4=>some r4 else (bif !decide (a1.2.2.1=a2.2.2.1) then (q4i n a1.2.2.1 a2.2.2.1).bind fun r5=>some r5 else (ji6 n a1.2.2.2.1 a2.2.2.2.1).bind fun r6=>some r6)))))
def q77 (n:Nat):FC:={ f:=178,args:=[.one (.agg [.d (.int .i64),.d (.int .i64),.d (.int .i64),.d .str,.d .str]),.one (.agg [.d (.int .i64),.d (.int .i64),.d (.int .i64),.d .str,.d .str])],res:=.one (.c (.d (.int .i64))),F:=fun p=>q72 n p.1 p.2 }
def qsk (n:Nat):List FC:=[q7r n,q74 n,qus n]
theorem j4u (n:Nat) {G:World->Prop} (hG:Know Inv G) : ∀c∈qsk n,q0p Tryz.prog G c/\q07 c.args=true:=List.forall_mem_cons.2 ⟨qw2 n G hG,List.forall_mem_cons.2 ⟨qtv n G hG,List.forall_mem_cons.2 ⟨k46 n G hG,(fun _ h=>by cases h)⟩⟩⟩
def qs5:q06:=[]
theorem jcu:drB qs5 (q00 Tryz.f178)=true:=by kernel_rfl
theorem jdl (n:Nat) : ∀a,(q77 n).F a=main Tryz.prog 48 (qsk n) (qod n) qs5 (q00 Tryz.f178) [.tmp 4] (q77 n).args (q77 n).res a:=by intro a;kernel_rfl
theorem jei (n:Nat):q09 Inv Tryz.prog (q77 n):=fun G hG=>⟨⟨by kernel_rfl,fun a r h=>q03 (c:=q00 Tryz.f178) Tryz.func178 (by kernel_rfl) (by kernel_rfl) (Nat.le_of_ble_eq_true (by kernel_rfl)) hG.st (by kernel_rfl) (rs:=[.tmp 4]) (by kernel_rfl) (j4u n hG) (lts:=qod n) (fun F hF hFG=>have hK:Know Inv F.G:=hFG ▸ hG;(q02 fun j L h1 h2 h3=>absurd h2 (Nat.not_lt.2 (Nat.le_trans (by decide +kernel) h1)))) jcu ((jdl n a).symm.trans h)⟩,rfl⟩
end Go.Proofs.YtapfankgdkdkgaaGreatDoor.AM
