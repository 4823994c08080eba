
import Derived.Test.YtcdjkibiggjdoaaGreatDoorLp9
namespace Go.Proofs.YtcdjkibiggjdoaaGreatDoor.AM
open Go.RowKit
set_option linter.unusedVariables false
set_option maxRecDepth 20000
def qfe (n:Nat):List LC:=[]
def q2m (n:Nat) (a1:List UInt8) (a2:List UInt8):Option (Bool) :=
 (bif decide (((List.length a2:Nat):Int)<=((List.length a1:Nat):Int)) then (q7n a1 (0:Int) ((List.length a2:Nat):Int)).bind fun (s1:List UInt8)=>some (decide (s1=a2)) else some false)
def q2w (n:Nat):FC:={ f:=116,args:=[.one (.c (.d .str)),.one (.c (.d .str))],res:=.one (.c (.d .bool)),F:=fun p=>q2m n p.1 p.2 }
def qjl (n:Nat):List FC:=[]
theorem qqt (n:Nat) {G:World->Prop} (hG:Know Inv G) : ∀c∈qjl n,q1b Tryz.prog G c/\q0e c.args=true:=(fun _ h=>by cases h)
def qh4:q0c:=[]
theorem j0v:drB qh4 (q00 Tryz.f116)=true:=by kernel_rfl
theorem j28 (n:Nat) : ∀a,(q2w n).F a=main Tryz.prog 18 (qjl n) (qfe n) qh4 (q00 Tryz.f116) [.tmp 4] (q2w n).args (q2w n).res a:=by intro a;kernel_rfl
theorem qjm (n:Nat):q0a Inv Tryz.prog (q2w n):=fun G hG=>⟨⟨by kernel_rfl,fun a r h=>q03 (c:=q00 Tryz.f116) Tryz.func116 (by kernel_rfl) (by kernel_rfl) (Nat.le_of_ble_eq_true (by kernel_rfl)) hG.st (by kernel_rfl) (rs:=[.tmp 4]) (by kernel_rfl) (qqt n hG) (lts:=qfe n) (fun F hF hFG=>have hK:Know Inv F.G:=hFG ▸ hG;(q02 fun j L h1 h2 h3=>absurd h2 (Nat.not_lt.2 (Nat.le_trans (by decide +kernel) h1)))) j0v ((j28 n a).symm.trans h)⟩,rfl⟩
def qcq (n:Nat):List LC:=[]
def qah (n:Nat) (a1:List UInt8) (a2:List UInt8):Option (List UInt8) :=
 (q2m n a1 a2).bind fun (r1:Bool)=>(bif r1 then (q7n a1 ((List.length a2:Nat):Int) ((List.length a1:Nat):Int)).bind fun (s2:List UInt8)=>some s2 else some a1)
def q37 (n:Nat):FC:={ f:=92,args:=[.one (.c (.d .str)),.one (.c (.d .str))],res:=.one (.c (.d .str)),F:=fun p=>qah n p.1 p.2 }
def qf8 (n:Nat):List FC:=[q2w n]
theorem qo3 (n:Nat) {G:World->Prop} (hG:Know Inv G) : ∀c∈qf8 n,q1b Tryz.prog G c/\q0e c.args=true:=List.forall_mem_cons.2 ⟨qjm n G hG,(fun _ h=>by cases h)⟩
def qfm:q0c:=[]
theorem qva:drB qfm (q00 Tryz.f92)=true:=by kernel_rfl
theorem qvx (n:Nat) : ∀a,(q37 n).F a=main Tryz.prog 13 (qf8 n) (qcq n) qfm (q00 Tryz.f92) [.tmp 4] (q37 n).args (q37 n).res a:=by intro a;kernel_rfl
theorem qvk (n:Nat):q0a Inv Tryz.prog (q37 n):=fun G hG=>⟨⟨by kernel_rfl,fun a r h=>q03 (c:=q00 Tryz.f92) Tryz.func92 (by kernel_rfl) (by kernel_rfl) (Nat.le_of_ble_eq_true (by kernel_rfl)) hG.st (by kernel_rfl) (rs:=[.tmp 4]) (by kernel_rfl) (qo3 n hG) (lts:=qcq n) (fun F hF hFG=>have hK:Know Inv F.G:=hFG ▸ hG;(q02 fun j L h1 h2 h3=>absurd h2 (Nat.not_lt.2 (Nat.le_trans (by decide +kernel) h1)))) qva ((qvx n a).symm.trans h)⟩,rfl⟩
def qfa (n:Nat):List LC:=[]
def q8m (n:Nat) (a1:List UInt8) (a2:List UInt8):Option (List UInt8) :=
 (qah n a1 a2).bind fun (r1:List UInt8)=>some r1
def q49 (n:Nat):FC:={ f:=72,args:=[.one (.c (.d .str)),.one (.c (.d .str))],res:=.one (.c (.d .str)),F:=fun p=>q8m n p.1 p.2 }
def qjq (n:Nat):List FC:=[q37 n]
theorem qus (n:Nat) {G:World->Prop} (hG:Know Inv G) : ∀c∈qjq n,q1b Tryz.prog G c/\q0e c.args=true:=List.forall_mem_cons.2 ⟨qvk n G hG,(fun _ h=>by cases h)⟩
def qi9:q0c:=[]
theorem j2b:drB qi9 (q00 Tryz.f72)=true:=by kernel_rfl
theorem j0a (n:Nat) : ∀a,(q49 n).F a=main Tryz.prog 8 (qjq n) (qfa n) qi9 (q00 Tryz.f72) [.tmp 4] (q49 n).args (q49 n).res a:=by intro a;kernel_rfl
theorem qi1 (n:Nat):q0a Inv Tryz.prog (q49 n):=fun G hG=>⟨⟨by kernel_rfl,fun a r h=>q03 (c:=q00 Tryz.f72) Tryz.func72 (by kernel_rfl) (by kernel_rfl) (Nat.le_of_ble_eq_true (by kernel_rfl)) hG.st (by kernel_rfl) (rs:=[.tmp 4]) (by kernel_rfl) (qus n hG) (lts:=qfa n) (fun F hF hFG=>have hK:Know Inv F.G:=hFG ▸ hG;(q02 fun j L h1 h2 h3=>absurd h2 (Nat.not_lt.2 (Nat.le_trans (by decide +kernel) h1)))) j2b ((j0a n a).symm.trans h)⟩,rfl⟩
def je1 (n:Nat):List LC:=[]
def jkn (n:Nat) (a1:List UInt8) (a2:List UInt8):Option ((List UInt8)×((List UInt8)×(Bool))) :=
 (qrb a1 a2).bind fun (r1:Int)=>(bif decide ((0:Int)<=r1) then (q7n a1 (0:Int) r1).bind fun (s2:List UInt8)=>q0b (IntKind.wrap .i64 (r1+((List.length a2:Nat):Int))) fun (n3:Int)=>(q7n a1 n3 ((List.length a1:Nat):Int)).bind fun (s4:List UInt8)=>some (s2,(s4,true)) else some (a1,(([]:List UInt8),false)))
def qsz (n:Nat):FC:={ f:=91,args:=[.one (.c (.d .str)),.one (.c (.d .str))],res:=.tup [.c (.d .str),.c (.d .str),.c (.d .bool)],F:=fun p=>jkn n p.1 p.2 }
def jmy (n:Nat):List FC:=[je2]
theorem jld (n:Nat) {G:World->Prop} (hG:Know Inv G) : ∀c∈jmy n,q1b Tryz.prog G c/\q0e c.args=true:=List.forall_mem_cons.2 ⟨jpu G hG,(fun _ h=>by cases h)⟩
def jpa:q0c:=[(3,[⟨3298534883329,2^39,0⟩,⟨12582913*2^21,2^42,0⟩,⟨393*2^39,2^45,3⟩,⟨1688849860263937,2^48,0⟩,⟨6442450945*2^21,2^51,0⟩,⟨108086391056891912,2^54,0⟩,⟨49*2^54,2^57,32⟩,⟨3137*2^51,2^60,112⟩,⟨200705*2^48,2^63,248⟩,⟨35184372113408,4096,7⟩,⟨9223372036854972416,32768,1023⟩,⟨3*2^19,2^18,2047⟩])]
theorem jvn:drB jpa (q00 Tryz.f91)=true:=by kernel_rfl
theorem jvt (n:Nat) : ∀a,(qsz n).F a=main Tryz.prog 23 (jmy n) (je1 n) jpa (q00 Tryz.f91) [.tmp 4,.tmp 5,.tmp 6] (qsz n).args (qsz n).res a:=by intro a;kernel_rfl
theorem juq (n:Nat):q0a Inv Tryz.prog (qsz n):=fun G hG=>⟨⟨by kernel_rfl,fun a r h=>q03 (c:=q00 Tryz.f91) Tryz.func91 (by kernel_rfl) (by kernel_rfl) (Nat.le_of_ble_eq_true (by kernel_rfl)) hG.st (by kernel_rfl) (rs:=[.tmp 4,.tmp 5,.tmp 6]) (by kernel_rfl) (jld n hG) (lts:=je1 n) (fun F hF hFG=>have hK:Know Inv F.G:=hFG ▸ hG;(q02 fun j L h1 h2 h3=>absurd h2 (Nat.not_lt.2 (Nat.le_trans (by decide +kernel) h1)))) jvn ((jvt n a).symm.trans h)⟩,rfl⟩
def jp4 (n:Nat):List LC:=[]
def jc0 (n:Nat) (a1:List UInt8) (a2:List UInt8):Option ((List UInt8)×((List UInt8)×(Bool))) :=
 (jkn n a1 a2).bind fun (r1:(List UInt8)×((List UInt8)×(Bool)))=>some r1
def j41 (n:Nat):FC:={ f:=71,args:=[.one (.c (.d .str)),.one (.c (.d .str))],res:=.tup [.c (.d .str),.c (.d .str),.c (.d .bool)],F:=fun p=>jc0 n p.1 p.2 }
def jtk (n:Nat):List FC:=[qsz n]
theorem jpv (n:Nat) {G:World->Prop} (hG:Know Inv G) : ∀c∈jtk n,q1b Tryz.prog G c/\q0e c.args=true:=List.forall_mem_cons.2 ⟨juq n G hG,(fun _ h=>by cases h)⟩
def jst:q0c:=[]
theorem jx1:drB jst (q00 Tryz.f71)=true:=by kernel_rfl
theorem jx9 (n:Nat) : ∀a,(j41 n).F a=main Tryz.prog 13 (jtk n) (jp4 n) jst (q00 Tryz.f71) [.tmp 4,.tmp 5,.tmp 6] (j41 n).args (j41 n).res a:=by intro a;kernel_rfl
theorem jyr (n:Nat):q0a Inv Tryz.prog (j41 n):=fun G hG=>⟨⟨by kernel_rfl,fun a r h=>q03 (c:=q00 Tryz.f71) Tryz.func71 (by kernel_rfl) (by kernel_rfl) (Nat.le_of_ble_eq_true (by kernel_rfl)) hG.st (by kernel_rfl) (rs:=[.tmp 4,.tmp 5,.tmp 6]) (by kernel_rfl) (jpv n hG) (lts:=jp4 n) (fun F hF hFG=>have hK:Know Inv F.G:=hFG ▸ hG;(q02 fun j L h1 h2 h3=>absurd h2 (Nat.not_lt.2 (Nat.le_trans (by decide +kernel) h1)))) jx1 ((jx9 n a).symm.trans h)⟩,rfl⟩
def j67 (n:Nat):List LC:=[]
def j22 (n:Nat) (a1:Int):Option (Bool) :=
 some (!decide (a1=a1))
def qhv (n:Nat):FC:={ f:=84,args:=[.one (.c (.d (.int .i64)))],res:=.one (.c (.d .bool)),F:=fun p=>j22 n p }
def jdi (n:Nat):List FC:=[]
theorem jhd (n:Nat) {G:World->Prop} (hG:Know Inv G) : ∀c∈jdi n,q1b Tryz.prog G c/\q0e c.args=true:=(fun _ h=>by cases h)
def jea:q0c:=[]
theorem jq5:drB jea (q00 Tryz.f84)=true:=by kernel_rfl
theorem jrb (n:Nat) : ∀a,(qhv n).F a=main Tryz.prog 6 (jdi n) (j67 n) jea (q00 Tryz.f84) [.tmp 2] (qhv n).args (qhv n).res a:=by intro a;kernel_rfl
theorem jrd (n:Nat):q0a Inv Tryz.prog (qhv n):=fun G hG=>⟨⟨by kernel_rfl,fun a r h=>q03 (c:=q00 Tryz.f84) Tryz.func84 (by kernel_rfl) (by kernel_rfl) (Nat.le_of_ble_eq_true (by kernel_rfl)) hG.st (by kernel_rfl) (rs:=[.tmp 2]) (by kernel_rfl) (jhd n hG) (lts:=j67 n) (fun F hF hFG=>have hK:Know Inv F.G:=hFG ▸ hG;(q02 fun j L h1 h2 h3=>absurd h2 (Nat.not_lt.2 (Nat.le_trans (by decide +kernel) h1)))) jq5 ((jrb n a).symm.trans h)⟩,rfl⟩
def qw2 (n:Nat):List LC:=[]
def qat (n:Nat) (a1:Int) (a2:Int):Option (Int) :=
 (j22 n a1).bind fun (r1:Bool)=>(j22 n a2).bind fun (r2:Bool)=>(bif r1 then (bif r2 then some (0:Int) else some (-1:Int)) else (bif r2 then some (1:Int) else (bif decide (a1<a2) then some (-1:Int) else (bif decide (a2<a1) then some (1:Int) else some (0:Int)))))
def q9q (n:Nat):FC:={ f:=57,args:=[.one (.c (.d (.int .i64))),.one (.c (.d (.int .i64)))],res:=.one (.c (.d (.int .i64))),F:=fun p=>qat n p.1 p.2 }
def j6u (n:Nat):List FC:=[qhv n]
theorem jai (n:Nat) {G:World->Prop} (hG:Know Inv G) : ∀c∈j6u n,q1b Tryz.prog G c/\q0e c.args=true:=List.forall_mem_cons.2 ⟨jrd n G hG,(fun _ h=>by cases h)⟩
def j2w:q0c:=[]
theorem jjr:drB j2w (q00 Tryz.f57)=true:=by kernel_rfl
theorem jn4 (n:Nat) : ∀a,(q9q n).F a=main Tryz.prog 20 (j6u n) (qw2 n) j2w (q00 Tryz.f57) [.tmp 4] (q9q n).args (q9q n).res a:=by intro a;kernel_rfl
theorem j38 (n:Nat):q0a Inv Tryz.prog (q9q n):=fun G hG=>⟨⟨by kernel_rfl,fun a r h=>q03 (c:=q00 Tryz.f57) Tryz.func57 (by kernel_rfl) (by kernel_rfl) (Nat.le_of_ble_eq_true (by kernel_rfl)) hG.st (by kernel_rfl) (rs:=[.tmp 4]) (by kernel_rfl) (jai n hG) (lts:=qw2 n) (fun F hF hFG=>have hK:Know Inv F.G:=hFG ▸ hG;(q02 fun j L h1 h2 h3=>absurd h2 (Nat.not_lt.2 (Nat.le_trans (by decide +kernel) h1)))) jjr ((jn4 n a).symm.trans h)⟩,rfl⟩
@[reducible] def qha:SSt:=⟨[(3,.one (.c (.d (.int .i64)))),(6,.one (.c (.d (.lst (.int .i64))))),(7,.one (.c (.d (.int .i64)))),(8,.one (.c (.d (.int .i64))))],[],[]⟩
@[reducible] def qb7:List (Exit×SSt):=[(.ret,⟨[(2,.one (.c (.d (.int .i64))))],[],[]⟩),(.exit 0,⟨[(3,.one (.c (.d (.int .i64))))],[],[]⟩)]
def j0l (n:Nat) (rec:Int->(List (Int))->Int->Int->Option (((Int×(Unit))×(Unit)×(Unit))⊕((Int×(Unit))×(Unit)×(Unit)))) (a1:Int) (a2:List (Int)) (a3:Int) (a4:Int):Option (((Int×(Unit))×(Unit)×(Unit))⊕((Int×(Unit))×(Unit)×(Unit))) :=
 (bif decide (a4<a3) then (q1a a2 a4).bind fun (x1:Int)=>(bif !decide (x1=a1) then some (Sum.inl ((x1,()),((),()))) else q0b (IntKind.wrap .i64 (a4+(1:Int))) fun (n2:Int)=>rec a1 a2 a3 n2) else some (Sum.inr (((a1,()),((),())))))
def qz7 (n:Nat) (rec:pSt qha->Option (q0f qb7)) (p:pSt qha):Option (q0f qb7):=j0l n (fun a1 a2 a3 a4=>rec ((a1,(a2,(a3,(a4,())))),((),()))) p.1.1 p.1.2.1 p.1.2.2.1 p.1.2.2.2.1
def qa8 (n m:Nat) (a1:Int) (a2:List (Int)) (a3:Int) (a4:Int):Option (((Int×(Unit))×(Unit)×(Unit))⊕((Int×(Unit))×(Unit)×(Unit))):=q0g (qz7 n) m ((a1,(a2,(a3,(a4,())))),((),()))
theorem qo4 (n m:Nat) (a1:Int) (a2:List (Int)) (a3:Int) (a4:Int):qa8 n (m+1) a1 a2 a3 a4=j0l n (fun a1 a2 a3 a4=>qa8 n m a1 a2 a3 a4) a1 a2 a3 a4:=rfl
def jez (n:Nat):LC:={ sh:=qha,outs:=qb7,F:=q0g (qz7 n) n }
def qpq (n:Nat):List LC:=[jez n]
def qr8 (n:Nat) (a1:List (Int)):Option (Int) :=
 (qa8 n n (0:Int) a1 ((List.length a1:Nat):Int) (0:Int)).bind fun (o3:((Int×(Unit))×(Unit)×(Unit))⊕((Int×(Unit))×(Unit)×(Unit)))=>Sum.elim (fun (q4:(Int×(Unit))×(Unit)×(Unit))=>some q4.1.1) (fun (q5:(Int×(Unit))×(Unit)×(Unit))=>some q5.1.1) o3
def qdo (n:Nat):FC:={ f:=56,args:=[.one (.c (.d (.lst (.int .i64))))],res:=.one (.c (.d (.int .i64))),F:=fun p=>qr8 n p }
def j0y (n:Nat):List FC:=[]
theorem qwf (n:Nat) {G:World->Prop} (hG:Know Inv G) : ∀c∈j0y n,q1b Tryz.prog G c/\q0e c.args=true:=(fun _ h=>by cases h)
def j06:q0c:=[]
theorem jcm:drB j06 (q00 Tryz.f56)=true:=by kernel_rfl
theorem jje (n:Nat) : ∀rec p,qz7 n rec p=round Tryz.prog 18 (j0y n) (qpq n) j06 1 qha qb7 (q01 0 0 (q00 Tryz.f56)) rec p:=by intro rec p;kernel_rfl
theorem jfo (n:Nat) {F:Fr} (hF:F.n=18) (hK:Know Inv F.G):q71 Tryz.prog F (jez n) (q01 0 0 (q00 Tryz.f56)) :=
 q0h hF (by kernel_rfl) (qwf n hK) (jje n) (fuel:=n) (fun _=>rfl) (q02 fun j L h1 h2 h3=>absurd h2 (Nat.not_lt.2 (Nat.le_trans (by decide +kernel) h1))) (q0r jcm)
theorem jpn (n:Nat) : ∀a,(qdo n).F a=main Tryz.prog 18 (j0y n) (qpq n) j06 (q00 Tryz.f56) [.tmp 2] (qdo n).args (qdo n).res a:=by intro a;kernel_rfl
theorem jd2 (n:Nat):q0a Inv Tryz.prog (qdo n):=fun G hG=>⟨⟨by kernel_rfl,fun a r h=>q03 (c:=q00 Tryz.f56) Tryz.func56 (by kernel_rfl) (by kernel_rfl) (Nat.le_of_ble_eq_true (by kernel_rfl)) hG.st (by kernel_rfl) (rs:=[.tmp 2]) (by kernel_rfl) (qwf n hG) (lts:=qpq n) (fun F hF hFG=>have hK:Know Inv F.G:=hFG ▸ hG;(q02 (c:=(q00 Tryz.f56)) (fun j L h1 h2 h3=>by
  have h2':j<1:=Nat.lt_of_lt_of_le h2 (by decide +kernel)
  match j,h1,h2',h3 with
  | 0,_,_,h3=>obtain rfl:=Option.some.inj h3;exact (show q01 0 0 (q00 Tryz.f56)=q01 0 0 (q00 Tryz.f56) by kernel_rfl) ▸ jfo n hF hK
  | j+1,_,h2',_=>exact absurd h2' (by omega)))) jcm ((jpn n a).symm.trans h)⟩,rfl⟩
@[reducible] def qdr:SSt:=⟨[(1,.one (.c (.box 1 0))),(11,.one (.agg [.d (.int .i64),.d (.int .i64),.d (.int .i64)])),(12,.one (.c (.d (.int .i64))))],[(1,(30,[.d (.int .i64),.d (.int .i64),.d (.int .i64),.d .str,.d .str]))],[]⟩
@[reducible] def q8b:List (Exit×SSt):=[(.ret,⟨[(2,.one (.c (.d .bool)))],[],[]⟩),(.exit 0,⟨[(1,.one (.c (.box 1 0)))],[(1,(30,[.d (.int .i64),.d (.int .i64),.d (.int .i64),.d .str,.d .str]))],[]⟩)]
def qi6 (n:Nat) (rec:Int->Int->Int->Int->Int->Int->Int->(List UInt8)->(List UInt8)->Option (((Bool×(Unit))×(Unit)×(Unit))⊕((Unit×(Unit))×((Int×(Int×(Int×((List UInt8)×(List UInt8)))))×(Unit))×(Unit)))) (a1:Int) (a2:Int) (a3:Int) (a4:Int) (a5:Int) (a6:Int) (a7:Int) (a8:List UInt8) (a9:List UInt8):Option (((Bool×(Unit))×(Unit)×(Unit))⊕((Unit×(Unit))×((Int×(Int×(Int×((List UInt8)×(List UInt8)))))×(Unit))×(Unit))) :=
 (bif decide (a4<(3:Int)) then (q1a ([a1,a2,a3]:List (Int)) a4).bind fun (x1:Int)=>(bif decide (x1<(0:Int)) then some (Sum.inl ((false,()),((),()))) else (bif decide ((999999999:Int)<x1) then some (Sum.inl ((false,()),((),()))) else q0b (IntKind.wrap .i64 (a4+(1:Int))) fun (n2:Int)=>rec a1 a2 a3 n2 a5 a6 a7 a8 a9)) else some (Sum.inr ((((),()),(((a5,(a6,(a7,(a8,a9)))),()),())))))
def qry (n:Nat) (rec:pSt qdr->Option (q0f q8b)) (p:pSt qdr):Option (q0f q8b):=qi6 n (fun a1 a2 a3 a4 a5 a6 a7 a8 a9=>rec (((),((a1,(a2,a3)),(a4,()))),(((a5,(a6,(a7,(a8,a9)))),()),()))) p.1.2.1.1 p.1.2.1.2.1 p.1.2.1.2.2 p.1.2.2.1 p.2.1.1.1 p.2.1.1.2.1 p.2.1.1.2.2.1 p.2.1.1.2.2.2.1 p.2.1.1.2.2.2.2
def q5c (n m:Nat) (a1:Int) (a2:Int) (a3:Int) (a4:Int) (a5:Int) (a6:Int) (a7:Int) (a8:List UInt8) (a9:List UInt8):Option (((Bool×(Unit))×(Unit)×(Unit))⊕((Unit×(Unit))×((Int×(Int×(Int×((List UInt8)×(List UInt8)))))×(Unit))×(Unit))):=q0g (qry n) m (((),((a1,(a2,a3)),(a4,()))),(((a5,(a6,(a7,(a8,a9)))),()),()))
theorem q9h (n m:Nat) (a1:Int) (a2:Int) (a3:Int) (a4:Int) (a5:Int) (a6:Int) (a7:Int) (a8:List UInt8) (a9:List UInt8):q5c n (m+1) a1 a2 a3 a4 a5 a6 a7 a8 a9=qi6 n (fun a1 a2 a3 a4 a5 a6 a7 a8 a9=>q5c n m a1 a2 a3 a4 a5 a6 a7 a8 a9) a1 a2 a3 a4 a5 a6 a7 a8 a9:=rfl
def j2i (n:Nat):LC:={ sh:=qdr,outs:=q8b,F:=q0g (qry n) n }
def qjz (n:Nat):List LC:=[j2i n]
def q4u (n:Nat) (a1:Int×(Int×(Int×((List UInt8)×(List UInt8))))):Option (Bool) :=
 (q5c n n a1.1 a1.2.1 a1.2.2.1 (0:Int) a1.1 a1.2.1 a1.2.2.1 a1.2.2.2.1 a1.2.2.2.2).bind fun (o3:((Bool×(Unit))×(Unit)×(Unit))⊕((Unit×(Unit))×((Int×(Int×(Int×((List UInt8)×(List UInt8)))))×(Unit))×(Unit)))=>Sum.elim (fun (q4:(Bool×(Unit))×(Unit)×(Unit))=>some q4.1.1) (fun (q5:(Unit×(Unit))×((Int×(Int×(Int×((List UInt8)×(List UInt8)))))×(Unit))×(Unit))=>(qrv q5.2.1.1.2.2.2.1 ()).bind fun (r6:Bool)=>(bif r6 then (qlt q5.2.1.1.2.2.2.2 ()).bind fun (r7:Bool)=>some r7 else some false)) o3
def q42 (n:Nat):FC:={ f:=52,args:=[.one (.agg [.d (.int .i64),.d (.int .i64),.d (.int .i64),.d .str,.d .str])],res:=.one (.c (.d .bool)),F:=fun p=>q4u n p }
def qu7 (n:Nat):List FC:=[qxq,qss]
theorem qta (n:Nat) {G:World->Prop} (hG:Know Inv G) : ∀c∈qu7 n,q1b Tryz.prog G c/\q0e c.args=true:=List.forall_mem_cons.2 ⟨jfx G hG,List.forall_mem_cons.2 ⟨jbp G hG,(fun _ h=>by cases h)⟩⟩
def qsd:q0c:=[]
theorem j68:drB qsd (q00 Tryz.f52)=true:=by kernel_rfl
theorem jhb (n:Nat) : ∀rec p,qry n rec p=round Tryz.prog 30 (qu7 n) (qjz n) qsd 1 qdr q8b (q01 0 0 (q00 Tryz.f52)) rec p:=by intro rec p;kernel_rfl
theorem j8d (n:Nat) {F:Fr} (hF:F.n=30) (hK:Know Inv F.G):q71 Tryz.prog F (j2i n) (q01 0 0 (q00 Tryz.f52)) :=
 q0h hF (by kernel_rfl) (qta n hK) (jhb n) (fuel:=n) (fun _=>rfl) (q02 fun j L h1 h2 h3=>absurd h2 (Nat.not_lt.2 (Nat.le_trans (by decide +kernel) h1))) (q0r j68)
theorem jnk (n:Nat) : ∀a,(q42 n).F a=main Tryz.prog 30 (qu7 n) (qjz n) qsd (q00 Tryz.f52) [.tmp 2] (q42 n).args (q42 n).res a:=by intro a;kernel_rfl
theorem qbr (n:Nat):q0a Inv Tryz.prog (q42 n):=fun G hG=>⟨⟨by kernel_rfl,fun a r h=>q03 (c:=q00 Tryz.f52) Tryz.func52 (by kernel_rfl) (by kernel_rfl) (Nat.le_of_ble_eq_true (by kernel_rfl)) hG.st (by kernel_rfl) (rs:=[.tmp 2]) (by kernel_rfl) (qta n hG) (lts:=qjz n) (fun F hF hFG=>have hK:Know Inv F.G:=hFG ▸ hG;(q02 (c:=(q00 Tryz.f52)) (fun j L h1 h2 h3=>by
  have h2':j<1:=Nat.lt_of_lt_of_le h2 (by decide +kernel)
  match j,h1,h2',h3 with
  | 0,_,_,h3=>obtain rfl:=Option.some.inj h3;exact (show q01 0 0 (q00 Tryz.f52)=q01 0 0 (q00 Tryz.f52) by kernel_rfl) ▸ j8d n hF hK
  | j+1,_,h2',_=>exact absurd h2' (by omega)))) j68 ((jnk n a).symm.trans h)⟩,rfl⟩
def j6p (n:Nat):List LC:=[]
def qlg (n:Nat) (a1:Int×(Int×(Int×((List UInt8)×(List UInt8))))):Option (List UInt8) :=
 (q4u n a1).bind fun (r1:Bool)=>(bif !r1 then some ([]:List UInt8) else (qpt a1.1).bind fun (r2:List UInt8)=>(qaj ([118]:List UInt8) r2).bind fun (s3:List UInt8)=>(qaj s3 ([46]:List UInt8)).bind fun (s4:List UInt8)=>(qpt a1.2.1).bind fun (r5:List UInt8)=>(qaj s4 r5).bind fun (s6:List UInt8)=>(qaj s6 ([46]:List UInt8)).bind fun (s7:List UInt8)=>(qpt a1.2.2.1).bind fun (r8:List UInt8)=>(qaj s7 r8).bind fun (s9:List UInt8)=>(bif !decide (a1.2.2.2.1=([]:List UInt8)) then (qaj ([45]:List UInt8) a1.2.2.2.1).bind fun (s10:List UInt8)=>(qaj s9 s10).bind fun (s11:List UInt8)=>(bif !decide (a1.2.2.2.2=([]:List UInt8)) then (qaj ([43]:List UInt8) a1.2.2.2.2).bind fun (s12:List UInt8)=>(qaj s11 s12).bind fun (s13:List UInt8)=>some s13 else some s11) else (bif !decide (a1.2.2.2.2=([]:List UInt8)) then (qaj ([43]:List UInt8) a1.2.2.2.2).bind fun (s14:List UInt8)=>(qaj s9 s14).bind fun (s15:List UInt8)=>some s15 else some s9)))
def qed (n:Nat):FC:={ f:=74,args:=[.one (.agg [.d (.int .i64),.d (.int .i64),.d (.int .i64),.d .str,.d .str])],res:=.one (.c (.d .str)),F:=fun p=>qlg n p }
def jep (n:Nat):List FC:=[q42 n,jlr]
theorem jgt (n:Nat) {G:World->Prop} (hG:Know Inv G) : ∀c∈jep n,q1b Tryz.prog G c/\q0e c.args=true:=List.forall_mem_cons.2 ⟨qbr n G hG,List.forall_mem_cons.2 ⟨jw0 G hG,(fun _ h=>by cases h)⟩⟩
def jch:q0c:=[(3,[⟨12582936,2^21,0⟩,⟨102760464,2^24,1⟩,⟨49*2^24,2^27,3⟩,⟨49*2^27,2^30,7⟩,⟨49*2^30,2^33,15⟩,⟨412316860440,2^36,0⟩,⟨3367254360080,2^39,32⟩,⟨49*2^39,2^42,103⟩,⟨25089*2^33,2^45,255⟩,⟨49*2^45,2^48,511⟩,⟨13510798882111512,2^51,0⟩,⟨110338190870577168,2^54,1024⟩,⟨49*2^54,2^57,3303⟩,⟨25089*2^48,2^60,8191⟩,⟨1152921504606850048,512,16383⟩]),(1000003,[])]
theorem jpz:drB jch (q00 Tryz.f74)=true:=by kernel_rfl
theorem jqs (n:Nat) : ∀a,(qed n).F a=main Tryz.prog 38 (jep n) (j6p n) jch (q00 Tryz.f74) [.tmp 2] (qed n).args (qed n).res a:=by intro a;kernel_rfl
theorem jdy (n:Nat):q0a Inv Tryz.prog (qed n):=fun G hG=>⟨⟨by kernel_rfl,fun a r h=>q03 (c:=q00 Tryz.f74) Tryz.func74 (by kernel_rfl) (by kernel_rfl) (Nat.le_of_ble_eq_true (by kernel_rfl)) hG.st (by kernel_rfl) (rs:=[.tmp 2]) (by kernel_rfl) (jgt n hG) (lts:=j6p n) (fun F hF hFG=>have hK:Know Inv F.G:=hFG ▸ hG;(q02 fun j L h1 h2 h3=>absurd h2 (Nat.not_lt.2 (Nat.le_trans (by decide +kernel) h1)))) jpz ((jqs n a).symm.trans h)⟩,rfl⟩
def qxg (n:Nat):List LC:=[]
def qp7 (n:Nat) (a1:List UInt8):Option ((Int×(Int×(Int×((List UInt8)×(List UInt8)))))×(Bool)) :=
 (jc0 n a1 ([43]:List UInt8)).bind fun (r1:(List UInt8)×((List UInt8)×(Bool)))=>(jc0 n r1.1 ([45]:List UInt8)).bind fun (r2:(List UInt8)×((List UInt8)×(Bool)))=>(q8m n r2.1 ([118]:List UInt8)).bind fun (r3:List UInt8)=>(jc0 n r3 ([46]:List UInt8)).bind fun (r4:(List UInt8)×((List UInt8)×(Bool)))=>(jc0 n r4.2.1 ([46]:List UInt8)).bind fun (r5:(List UInt8)×((List UInt8)×(Bool)))=>(q6d r4.1).bind fun (r6:Int)=>(q6d r5.1).bind fun (r7:Int)=>(q6d r5.2.1).bind fun (r8:Int)=>(q4u n (r6,(r7,(r8,(r2.2.1,r1.2.1))))).bind fun (r9:Bool)=>(bif !r9 then some (((0:Int),((0:Int),((0:Int),(([]:List UInt8),([]:List UInt8))))),false) else (qlg n (r6,(r7,(r8,(r2.2.1,r1.2.1))))).bind fun (r10:List UInt8)=>(bif !decide (r10=a1) then some (((0:Int),((0:Int),((0:Int),(([]:List UInt8),([]:List UInt8))))),false) else some ((r6,(r7,(r8,(r2.2.1,r1.2.1)))),true)))
def qdm (n:Nat):FC:={ f:=44,args:=[.one (.c (.d .str))],res:=.tup [.agg [.d (.int .i64),.d (.int .i64),.d (.int .i64),.d .str,.d .str],.c (.d .bool)],F:=fun p=>qp7 n p }
def j3g (n:Nat):List FC:=[j41 n,q49 n,j2m,q42 n,qed n]
theorem jca (n:Nat) {G:World->Prop} (hG:Know Inv G) : ∀c∈j3g n,q1b Tryz.prog G c/\q0e c.args=true:=List.forall_mem_cons.2 ⟨jyr n G hG,List.forall_mem_cons.2 ⟨qi1 n G hG,List.forall_mem_cons.2 ⟨jnm G hG,List.forall_mem_cons.2 ⟨qbr n G hG,List.forall_mem_cons.2 ⟨jdy n G hG,(fun _ h=>by cases h)⟩⟩⟩⟩⟩
def j5i:q0c:=[]
theorem jkx:drB j5i (q00 Tryz.f44)=true:=by kernel_rfl
theorem jkg (n:Nat) : ∀a,(qdm n).F a=main Tryz.prog 62 (j3g n) (qxg n) j5i (q00 Tryz.f44) [.cell 2 30,.tmp 3] (qdm n).args (qdm n).res a:=by intro a;kernel_rfl
theorem jki (n:Nat):q0a Inv Tryz.prog (qdm n):=fun G hG=>⟨⟨by kernel_rfl,fun a r h=>q03 (c:=q00 Tryz.f44) Tryz.func44 (by kernel_rfl) (by kernel_rfl) (Nat.le_of_ble_eq_true (by kernel_rfl)) hG.st (by kernel_rfl) (rs:=[.cell 2 30,.tmp 3]) (by kernel_rfl) (jca n hG) (lts:=qxg n) (fun F hF hFG=>have hK:Know Inv F.G:=hFG ▸ hG;(q02 fun j L h1 h2 h3=>absurd h2 (Nat.not_lt.2 (Nat.le_trans (by decide +kernel) h1)))) jkx ((jkg n a).symm.trans h)⟩,rfl⟩
def j7m (n:Nat):List LC:=[]
def qzi (n:Nat) (a1:List UInt8) (a2:List UInt8):Option (Int) :=
 (q6u n a1).bind fun (r1:Bool)=>(q6u n a2).bind fun (r2:Bool)=>(bif r1 then (bif r2 then (qat n ((List.length a1:Nat):Int) ((List.length a2:Nat):Int)).bind fun (r3:Int)=>(qhy a1 a2).bind fun (r4:Int)=>(qr8 n ([r3,r4]:List (Int))).bind fun (r5:Int)=>some r5 else (bif r1 then some (-1:Int) else (bif r2 then some (1:Int) else (qhy a1 a2).bind fun (r6:Int)=>some r6))) else (bif r1 then some (-1:Int) else (bif r2 then some (1:Int) else (qhy a1 a2).bind fun (r7:Int)=>some r7)))
def qip (n:Nat):FC:={ f:=86,args:=[.one (.c (.d .str)),.one (.c (.d .str))],res:=.one (.c (.d (.int .i64))),F:=fun p=>qzi n p.1 p.2 }
def jct (n:Nat):List FC:=[q4n n,q9q n,qyi,qdo n]
theorem jga (n:Nat) {G:World->Prop} (hG:Know Inv G) : ∀c∈jct n,q1b Tryz.prog G c/\q0e c.args=true:=List.forall_mem_cons.2 ⟨qrh n G hG,List.forall_mem_cons.2 ⟨j38 n G hG,List.forall_mem_cons.2 ⟨jin G hG,List.forall_mem_cons.2 ⟨jd2 n G hG,(fun _ h=>by cases h)⟩⟩⟩⟩
def jew:q0c:=[]
theorem jr7:drB jew (q00 Tryz.f86)=true:=by kernel_rfl
theorem jrl (n:Nat) : ∀a,(qip n).F a=main Tryz.prog 33 (jct n) (j7m n) jew (q00 Tryz.f86) [.tmp 4] (qip n).args (qip n).res a:=by intro a;kernel_rfl
theorem jr0 (n:Nat):q0a Inv Tryz.prog (qip n):=fun G hG=>⟨⟨by kernel_rfl,fun a r h=>q03 (c:=q00 Tryz.f86) Tryz.func86 (by kernel_rfl) (by kernel_rfl) (Nat.le_of_ble_eq_true (by kernel_rfl)) hG.st (by kernel_rfl) (rs:=[.tmp 4]) (by kernel_rfl) (jga n hG) (lts:=j7m n) (fun F hF hFG=>have hK:Know Inv F.G:=hFG ▸ hG;(q02 fun j L h1 h2 h3=>absurd h2 (Nat.not_lt.2 (Nat.le_trans (by decide +kernel) h1)))) jr7 ((jrl n a).symm.trans h)⟩,rfl⟩
@[reducible] def qa1:SSt:=⟨[(0,.one (.c (.d (.lst .str)))),(1,.one (.c (.d (.lst .str)))),(2,.one (.c (.fn 86 []))),(11,.one (.c (.d (.lst .str)))),(12,.one (.c (.d (.int .i64)))),(13,.one (.c (.d (.int .i64))))],[],[]⟩
@[reducible] def q6o:List (Exit×SSt):=[(.ret,⟨[(6,.one (.c (.d (.int .i64))))],[],[]⟩),(.exit 0,⟨[(0,.one (.c (.d (.lst .str)))),(1,.one (.c (.d (.lst .str))))],[],[]⟩)]
def qli (n:Nat) (rec:(List (List UInt8))->(List (List UInt8))->(List (List UInt8))->Int->Int->Option (((Int×(Unit))×(Unit)×(Unit))⊕(((List (List UInt8))×((List (List UInt8))×(Unit)))×(Unit)×(Unit)))) (a1:List (List UInt8)) (a2:List (List UInt8)) (a3:List (List UInt8)) (a4:Int) (a5:Int):Option (((Int×(Unit))×(Unit)×(Unit))⊕(((List (List UInt8))×((List (List UInt8))×(Unit)))×(Unit)×(Unit))) :=
 (bif decide (a5<a4) then (q1a a3 a5).bind fun (x1:List UInt8)=>(bif decide (((List.length a2:Nat):Int)<=a5) then some (Sum.inl (((1:Int),()),((),()))) else (q1a a2 a5).bind fun (x2:List UInt8)=>(qzi n x1 x2).bind fun (r3:Int)=>(bif !decide (r3=(0:Int)) then some (Sum.inl ((r3,()),((),()))) else q0b (IntKind.wrap .i64 (a5+(1:Int))) fun (n4:Int)=>rec a1 a2 a3 a4 n4)) else some (Sum.inr (((a1,(a2,())),((),())))))
def qll (n:Nat) (rec:pSt qa1->Option (q0f q6o)) (p:pSt qa1):Option (q0f q6o):=qli n (fun a1 a2 a3 a4 a5=>rec ((a1,(a2,((),(a3,(a4,(a5,())))))),((),()))) p.1.1 p.1.2.1 p.1.2.2.2.1 p.1.2.2.2.2.1 p.1.2.2.2.2.2.1
def q63 (n m:Nat) (a1:List (List UInt8)) (a2:List (List UInt8)) (a3:List (List UInt8)) (a4:Int) (a5:Int):Option (((Int×(Unit))×(Unit)×(Unit))⊕(((List (List UInt8))×((List (List UInt8))×(Unit)))×(Unit)×(Unit))):=q0g (qll n) m ((a1,(a2,((),(a3,(a4,(a5,())))))),((),()))
theorem qj8 (n m:Nat) (a1:List (List UInt8)) (a2:List (List UInt8)) (a3:List (List UInt8)) (a4:Int) (a5:Int):q63 n (m+1) a1 a2 a3 a4 a5=qli n (fun a1 a2 a3 a4 a5=>q63 n m a1 a2 a3 a4 a5) a1 a2 a3 a4 a5:=rfl
def qxn (n:Nat):LC:={ sh:=qa1,outs:=q6o,F:=q0g (qll n) n }
def qgl (n:Nat):List LC:=[qxn n]
def qt3 (n:Nat) (a1:List (List UInt8)) (a2:List (List UInt8)) (a3:Unit):Option (Int) :=
 (q63 n n a1 a2 a1 ((List.length a1:Nat):Int) (0:Int)).bind fun (o5:((Int×(Unit))×(Unit)×(Unit))⊕(((List (List UInt8))×((List (List UInt8))×(Unit)))×(Unit)×(Unit)))=>Sum.elim (fun (q6:(Int×(Unit))×(Unit)×(Unit))=>some q6.1.1) (fun (q7:((List (List UInt8))×((List (List UInt8))×(Unit)))×(Unit)×(Unit))=>(bif decide (((List.length q7.1.1:Nat):Int)<((List.length q7.1.2.1:Nat):Int)) then some (-1:Int) else some (0:Int))) o5
def q9b (n:Nat):FC:={ f:=85,args:=[.one (.c (.d (.lst .str))),.one (.c (.d (.lst .str))),.one (.c (.fn 86 []))],res:=.one (.c (.d (.int .i64))),F:=fun p=>qt3 n p.1 p.2.1 p.2.2 }
def qjw (n:Nat):List FC:=[qip n]
theorem qnm (n:Nat) {G:World->Prop} (hG:Know Inv G) : ∀c∈qjw n,q1b Tryz.prog G c/\q0e c.args=true:=List.forall_mem_cons.2 ⟨jr0 n G hG,(fun _ h=>by cases h)⟩
def qky:q0c:=[]
theorem qxv:drB qky (q00 Tryz.f85)=true:=by kernel_rfl
theorem j9z (n:Nat) : ∀rec p,qll n rec p=round Tryz.prog 39 (qjw n) (qgl n) qky 1 qa1 q6o (q01 0 0 (q00 Tryz.f85)) rec p:=by intro rec p;kernel_rfl
theorem j6o (n:Nat) {F:Fr} (hF:F.n=39) (hK:Know Inv F.G):q71 Tryz.prog F (qxn n) (q01 0 0 (q00 Tryz.f85)) :=
 q0h hF (by kernel_rfl) (qnm n hK) (j9z n) (fuel:=n) (fun _=>rfl) (q02 fun j L h1 h2 h3=>absurd h2 (Nat.not_lt.2 (Nat.le_trans (by decide +kernel) h1))) (q0r qxv)
theorem jhy (n:Nat) : ∀a,(q9b n).F a=main Tryz.prog 39 (qjw n) (qgl n) qky (q00 Tryz.f85) [.tmp 6] (q9b n).args (q9b n).res a:=by intro a;kernel_rfl
theorem jh0 (n:Nat):q0a Inv Tryz.prog (q9b n):=fun G hG=>⟨⟨by kernel_rfl,fun a r h=>q03 (c:=q00 Tryz.f85) Tryz.func85 (by kernel_rfl) (by kernel_rfl) (Nat.le_of_ble_eq_true (by kernel_rfl)) hG.st (by kernel_rfl) (rs:=[.tmp 6]) (by kernel_rfl) (qnm n hG) (lts:=qgl n) (fun F hF hFG=>have hK:Know Inv F.G:=hFG ▸ hG;(q02 (c:=(q00 Tryz.f85)) (fun j L h1 h2 h3=>by
  have h2':j<1:=Nat.lt_of_lt_of_le h2 (by decide +kernel)
  match j,h1,h2',h3 with
  | 0,_,_,h3=>obtain rfl:=Option.some.inj h3;exact (show q01 0 0 (q00 Tryz.f85)=q01 0 0 (q00 Tryz.f85) by kernel_rfl) ▸ j6o n hF hK
  | j+1,_,h2',_=>exact absurd h2' (by omega)))) qxv ((jhy n a).symm.trans h)⟩,rfl⟩
def jfb (n:Nat):List LC:=[]
def jd8 (n:Nat) (a1:List UInt8) (a2:List UInt8):Option (Int) :=
 (bif decide (a1=a2) then some (0:Int) else (bif decide (a1=([]:List UInt8)) then some (1:Int) else (bif decide (a2=([]:List UInt8)) then some (-1:Int) else (q8v a1 ([46]:List UInt8)).bind fun (r1:List (List UInt8))=>(q8v a2 ([46]:List UInt8)).bind fun (r2:List (List UInt8))=>(qt3 n r1 r2 ()).bind fun (r3:Int)=>some r3)))
def qtn (n:Nat):FC:={ f:=58,args:=[.one (.c (.d .str)),.one (.c (.d .str))],res:=.one (.c (.d (.int .i64))),F:=fun p=>jd8 n p.1 p.2 }
def jns (n:Nat):List FC:=[qoz,q9b n]
theorem jke (n:Nat) {G:World->Prop} (hG:Know Inv G) : ∀c∈jns n,q1b Tryz.prog G c/\q0e c.args=true:=List.forall_mem_cons.2 ⟨qzn G hG,List.forall_mem_cons.2 ⟨jh0 n G hG,(fun _ h=>by cases h)⟩⟩
def jjq:q0c:=[]
theorem jv6:drB jjq (q00 Tryz.f58)=true:=by kernel_rfl
theorem jvi (n:Nat) : ∀a,(qtn n).F a=main Tryz.prog 20 (jns n) (jfb n) jjq (q00 Tryz.f58) [.tmp 4] (qtn n).args (qtn n).res a:=by intro a;kernel_rfl
theorem jw3 (n:Nat):q0a Inv Tryz.prog (qtn n):=fun G hG=>⟨⟨by kernel_rfl,fun a r h=>q03 (c:=q00 Tryz.f58) Tryz.func58 (by kernel_rfl) (by kernel_rfl) (Nat.le_of_ble_eq_true (by kernel_rfl)) hG.st (by kernel_rfl) (rs:=[.tmp 4]) (by kernel_rfl) (jke n hG) (lts:=jfb n) (fun F hF hFG=>have hK:Know Inv F.G:=hFG ▸ hG;(q02 fun j L h1 h2 h3=>absurd h2 (Nat.not_lt.2 (Nat.le_trans (by decide +kernel) h1)))) jv6 ((jvi n a).symm.trans h)⟩,rfl⟩
def qnp (n:Nat):List LC:=[]
def q6t (n:Nat) (a1:Int×(Int×(Int×((List UInt8)×(List UInt8))))) (a2:Int×(Int×(Int×((List UInt8)×(List UInt8))))):Option (Int) :=
 (q4u n a1).bind fun (r1:Bool)=>(bif !r1 then some (0:Int) else (q4u n a2).bind fun (r2:Bool)=>(bif !r2 then some (0:Int) else (qat n a1.1 a2.1).bind fun (r3:Int)=>(qat n a1.2.1 a2.2.1).bind fun (r4:Int)=>(qat n a1.2.2.1 a2.2.2.1).bind fun (r5:Int)=>(jd8 n a1.2.2.2.1 a2.2.2.2.1).bind fun (r6:Int)=>(qr8 n ([r3,r4,r5,r6]:List (Int))).bind fun (r7:Int)=>some r7))
def q4m (n:Nat):FC:={ f:=35,args:=[.one (.agg [.d (.int .i64),.d (.int .i64),.d (.int .i64),.d .str,.d .str]),.one (.agg [.d (.int .i64),.d (.int .i64),.d (.int .i64),.d .str,.d .str])],res:=.one (.c (.d (.int .i64))),F:=fun p=>q6t n p.1 p.2 }
def qpo (n:Nat):List FC:=[q42 n,q9q n,qtn n,qdo n]
theorem qzv (n:Nat) {G:World->Prop} (hG:Know Inv G) : ∀c∈qpo n,q1b Tryz.prog G c/\q0e c.args=true:=List.forall_mem_cons.2 ⟨qbr n G hG,List.forall_mem_cons.2 ⟨j38 n G hG,List.forall_mem_cons.2 ⟨jw3 n G hG,List.forall_mem_cons.2 ⟨jd2 n G hG,(fun _ h=>by cases h)⟩⟩⟩⟩
def qtl:q0c:=[(3,[⟨3298534883520,2^39,0⟩,⟨26938034880640,2^42,1⟩,⟨211106232534528,2^45,0⟩,⟨1724034232353792,2^48,4⟩,⟨3137*2^42,2^51,15⟩,⟨108086391056892096,2^54,0⟩,⟨882705526964617344,2^57,32⟩,⟨6917529027641083392,2^60,0⟩,⟨56493153725735502848,2^63,128⟩,⟨3137*2^57,2^66,511⟩,⟨3541774862152233910464,2^69,0⟩,⟨28924494707576576934016,2^72,1024⟩,⟨226673591177742970258944,2^75,0⟩,⟨1851167661284900923769856,2^78,4096⟩,⟨3137*2^72,2^81,16383⟩,⟨116056878683004400771793088,2^84,0⟩,⟨947797842577869272969642112,2^87,32768⟩,⟨7427640235712281649394746880,2^90,0⟩,⟨60659061924983633470057088000,2^93,2^17⟩,⟨3137*2^87,2^96,524287⟩,⟨1724035306127361*2^51,5*2^99,1048575⟩,⟨53*2^99,2^102,2097151⟩,⟨5070602400912917605986812846080,4096,4194303⟩])]
theorem jbc:drB qtl (q00 Tryz.f35)=true:=by kernel_rfl
theorem jbq (n:Nat) : ∀a,(q4m n).F a=main Tryz.prog 35 (qpo n) (qnp n) qtl (q00 Tryz.f35) [.tmp 4] (q4m n).args (q4m n).res a:=by intro a;kernel_rfl
theorem qsn (n:Nat):q0a Inv Tryz.prog (q4m n):=fun G hG=>⟨⟨by kernel_rfl,fun a r h=>q03 (c:=q00 Tryz.f35) Tryz.func35 (by kernel_rfl) (by kernel_rfl) (Nat.le_of_ble_eq_true (by kernel_rfl)) hG.st (by kernel_rfl) (rs:=[.tmp 4]) (by kernel_rfl) (qzv n hG) (lts:=qnp n) (fun F hF hFG=>have hK:Know Inv F.G:=hFG ▸ hG;(q02 fun j L h1 h2 h3=>absurd h2 (Nat.not_lt.2 (Nat.le_trans (by decide +kernel) h1)))) jbc ((jbq n a).symm.trans h)⟩,rfl⟩
@[reducible] def q9z:SSt:=⟨[(0,.one (.c (.d .str))),(1,.one (.c (.d (.int .u8)))),(5,.one (.c (.row 31))),(6,.one (.c (.d (.int .i64)))),(7,.one (.c (.d (.int .i64))))],[],[(31,⟨9,true,.str⟩)]⟩
@[reducible] def q67:List (Exit×SSt):=[(.exit 0,⟨[(5,.one (.c (.row 31)))],[],[(31,⟨9,true,.str⟩)]⟩)]
def qej (n:Nat) (rec:(List UInt8)->Int->Int->Int->(List (List UInt8))->Option ((Unit×(Unit))×(Unit)×((List (List UInt8))×(Unit)))) (a1:List UInt8) (a2:Int) (a3:Int) (a4:Int) (a5:List (List UInt8)):Option ((Unit×(Unit))×(Unit)×((List (List UInt8))×(Unit))) :=
 (bif decide (a4<=((List.length a1:Nat):Int)) then (bif decide (a4=((List.length a1:Nat):Int)) then (q7n a1 a3 a4).bind fun (s1:List UInt8)=>(qj6 16 a5 ([s1]:List (List UInt8))).bind fun (l2:List (List UInt8))=>q0b (IntKind.wrap .i64 (a4+(1:Int))) fun (n3:Int)=>q0b (IntKind.wrap .i64 (a4+(1:Int))) fun (n4:Int)=>rec a1 a2 n3 n4 l2 else (sAt a1 a4).bind fun (c5:Int)=>(bif decide (c5=a2) then (q7n a1 a3 a4).bind fun (s6:List UInt8)=>(qj6 16 a5 ([s6]:List (List UInt8))).bind fun (l7:List (List UInt8))=>q0b (IntKind.wrap .i64 (a4+(1:Int))) fun (n8:Int)=>q0b (IntKind.wrap .i64 (a4+(1:Int))) fun (n9:Int)=>rec a1 a2 n8 n9 l7 else q0b (IntKind.wrap .i64 (a4+(1:Int))) fun (n10:Int)=>rec a1 a2 a3 n10 a5)) else some ((((),()),((),(a5,())))))
def qk8 (n:Nat) (rec:pSt q9z->Option (q0f q67)) (p:pSt q9z):Option (q0f q67):=qej n (fun a1 a2 a3 a4 a5=>rec ((a1,(a2,((),(a3,(a4,()))))),((),(a5,())))) p.1.1 p.1.2.1 p.1.2.2.2.1 p.1.2.2.2.2.1 p.2.2.1
def q64 (n m:Nat) (a1:List UInt8) (a2:Int) (a3:Int) (a4:Int) (a5:List (List UInt8)):Option ((Unit×(Unit))×(Unit)×((List (List UInt8))×(Unit))):=q0g (qk8 n) m ((a1,(a2,((),(a3,(a4,()))))),((),(a5,())))
theorem q8q (n m:Nat) (a1:List UInt8) (a2:Int) (a3:Int) (a4:Int) (a5:List (List UInt8)):q64 n (m+1) a1 a2 a3 a4 a5=qej n (fun a1 a2 a3 a4 a5=>q64 n m a1 a2 a3 a4 a5) a1 a2 a3 a4 a5:=rfl
def qye (n:Nat):LC:={ sh:=q9z,outs:=q67,F:=q0g (qk8 n) n }
def qfu (n:Nat):List LC:=[qye n]
def q0n (n:Nat) (a1:List UInt8) (a2:Int):Option (List (List UInt8)) :=
 (q64 n n a1 a2 (0:Int) (0:Int) []).bind fun (o11:(Unit×(Unit))×(Unit)×((List (List UInt8))×(Unit)))=>some o11.2.2.1
def q1f (n:Nat):FC:={ f:=27,args:=[.one (.c (.d .str)),.one (.c (.d (.int .u8)))],res:=.one (.c (.d (.lst .str))),F:=fun p=>q0n n p.1 p.2 }
def qkd (n:Nat):List FC:=[]
theorem qn7 (n:Nat) {G:World->Prop} (hG:Know Inv G) : ∀c∈qkd n,q1b Tryz.prog G c/\q0e c.args=true:=(fun _ h=>by cases h)
def qk2:q0c:=[]
theorem qwr:drB qk2 (q00 Tryz.f27)=true:=by kernel_rfl
theorem j8h (n:Nat) : ∀rec p,qk8 n rec p=round Tryz.prog 35 (qkd n) (qfu n) qk2 1 q9z q67 (q01 0 0 (q00 Tryz.f27)) rec p:=by intro rec p;kernel_rfl
theorem j5n (n:Nat) {F:Fr} (hF:F.n=35) (hK:Know Inv F.G):q71 Tryz.prog F (qye n) (q01 0 0 (q00 Tryz.f27)) :=
 q0h hF (by kernel_rfl) (qn7 n hK) (j8h n) (fuel:=n) (fun _=>rfl) (q02 fun j L h1 h2 h3=>absurd h2 (Nat.not_lt.2 (Nat.le_trans (by decide +kernel) h1))) (q0r qwr)
theorem jh2 (n:Nat) : ∀a,(q1f n).F a=main Tryz.prog 35 (qkd n) (qfu n) qk2 (q00 Tryz.f27) [.tmp 4] (q1f n).args (q1f n).res a:=by intro a;kernel_rfl
theorem q3k (n:Nat):q0a Inv Tryz.prog (q1f n):=fun G hG=>⟨⟨by kernel_rfl,fun a r h=>q03 (c:=q00 Tryz.f27) Tryz.func27 (by kernel_rfl) (by kernel_rfl) (Nat.le_of_ble_eq_true (by kernel_rfl)) hG.st (by kernel_rfl) (rs:=[.tmp 4]) (by kernel_rfl) (qn7 n hG) (lts:=qfu n) (fun F hF hFG=>have hK:Know Inv F.G:=hFG ▸ hG;(q02 (c:=(q00 Tryz.f27)) (fun j L h1 h2 h3=>by
  have h2':j<1:=Nat.lt_of_lt_of_le h2 (by decide +kernel)
  match j,h1,h2',h3 with
  | 0,_,_,h3=>obtain rfl:=Option.some.inj h3;exact (show q01 0 0 (q00 Tryz.f27)=q01 0 0 (q00 Tryz.f27) by kernel_rfl) ▸ j5n n hF hK
  | j+1,_,h2',_=>exact absurd h2' (by omega)))) qwr ((jh2 n a).symm.trans h)⟩,rfl⟩
@[reducible] def qbd:SSt:=⟨[(0,.one (.c (.d .str))),(3,.one (.c (.d (.int .i64))))],[],[]⟩
@[reducible] def q6r:List (Exit×SSt):=[(.ret,⟨[(2,.one (.c (.d .bool)))],[],[]⟩),(.exit 0,⟨[(0,.one (.c (.d .str)))],[],[]⟩)]
def ql4 (n:Nat) (rec:(List UInt8)->Int->Option (((Bool×(Unit))×(Unit)×(Unit))⊕(((List UInt8)×(Unit))×(Unit)×(Unit)))) (a1:List UInt8) (a2:Int):Option (((Bool×(Unit))×(Unit)×(Unit))⊕(((List UInt8)×(Unit))×(Unit)×(Unit))) :=
 (bif decide (a2<((List.length a1:Nat):Int)) then (sAt a1 a2).bind fun (c1:Int)=>(bif decide (c1<(48:Int)) then some (Sum.inl ((false,()),((),()))) else (sAt a1 a2).bind fun (c2:Int)=>(bif decide ((57:Int)<c2) then some (Sum.inl ((false,()),((),()))) else q0b (IntKind.wrap .i64 (a2+(1:Int))) fun (n3:Int)=>rec a1 n3)) else some (Sum.inr (((a1,()),((),())))))
def qla (n:Nat) (rec:pSt qbd->Option (q0f q6r)) (p:pSt qbd):Option (q0f q6r):=ql4 n (fun a1 a2=>rec ((a1,(a2,())),((),()))) p.1.1 p.1.2.1
def q6s (n m:Nat) (a1:List UInt8) (a2:Int):Option (((Bool×(Unit))×(Unit)×(Unit))⊕(((List UInt8)×(Unit))×(Unit)×(Unit))):=q0g (qla n) m ((a1,(a2,())),((),()))
theorem qhz (n m:Nat) (a1:List UInt8) (a2:Int):q6s n (m+1) a1 a2=ql4 n (fun a1 a2=>q6s n m a1 a2) a1 a2:=rfl
def qxk (n:Nat):LC:={ sh:=qbd,outs:=q6r,F:=q0g (qla n) n }
def qh1 (n:Nat):List LC:=[qxk n]
def q75 (n:Nat) (a1:List UInt8):Option (Bool) :=
 (q6s n n a1 (0:Int)).bind fun (o4:((Bool×(Unit))×(Unit)×(Unit))⊕(((List UInt8)×(Unit))×(Unit)×(Unit)))=>Sum.elim (fun (q5:(Bool×(Unit))×(Unit)×(Unit))=>some q5.1.1) (fun (q6:((List UInt8)×(Unit))×(Unit)×(Unit))=>some (!decide (q6.1.1=([]:List UInt8)))) o4
def q4j (n:Nat):FC:={ f:=75,args:=[.one (.c (.d .str))],res:=.one (.c (.d .bool)),F:=fun p=>q75 n p }
def qkk (n:Nat):List FC:=[]
theorem qns (n:Nat) {G:World->Prop} (hG:Know Inv G) : ∀c∈qkk n,q1b Tryz.prog G c/\q0e c.args=true:=(fun _ h=>by cases h)
def qkb:q0c:=[]
theorem qwu:drB qkb (q00 Tryz.f75)=true:=by kernel_rfl
theorem jcb (n:Nat) : ∀rec p,qla n rec p=round Tryz.prog 22 (qkk n) (qh1 n) qkb 1 qbd q6r (q01 0 0 (q00 Tryz.f75)) rec p:=by intro rec p;kernel_rfl
theorem j32 (n:Nat) {F:Fr} (hF:F.n=22) (hK:Know Inv F.G):q71 Tryz.prog F (qxk n) (q01 0 0 (q00 Tryz.f75)) :=
 q0h hF (by kernel_rfl) (qns n hK) (jcb n) (fuel:=n) (fun _=>rfl) (q02 fun j L h1 h2 h3=>absurd h2 (Nat.not_lt.2 (Nat.le_trans (by decide +kernel) h1))) (q0r qwu)
theorem jho (n:Nat) : ∀a,(q4j n).F a=main Tryz.prog 22 (qkk n) (qh1 n) qkb (q00 Tryz.f75) [.tmp 2] (q4j n).args (q4j n).res a:=by intro a;kernel_rfl
theorem qlf (n:Nat):q0a Inv Tryz.prog (q4j n):=fun G hG=>⟨⟨by kernel_rfl,fun a r h=>q03 (c:=q00 Tryz.f75) Tryz.func75 (by kernel_rfl) (by kernel_rfl) (Nat.le_of_ble_eq_true (by kernel_rfl)) hG.st (by kernel_rfl) (rs:=[.tmp 2]) (by kernel_rfl) (qns n hG) (lts:=qh1 n) (fun F hF hFG=>have hK:Know Inv F.G:=hFG ▸ hG;(q02 (c:=(q00 Tryz.f75)) (fun j L h1 h2 h3=>by
  have h2':j<1:=Nat.lt_of_lt_of_le h2 (by decide +kernel)
  match j,h1,h2',h3 with
  | 0,_,_,h3=>obtain rfl:=Option.some.inj h3;exact (show q01 0 0 (q00 Tryz.f75)=q01 0 0 (q00 Tryz.f75) by kernel_rfl) ▸ j32 n hF hK
  | j+1,_,h2',_=>exact absurd h2' (by omega)))) qwu ((jho n a).symm.trans h)⟩,rfl⟩
@[reducible] def qaa:SSt:=⟨[(1,.one (.c (.d .bool))),(5,.one (.c (.d (.lst .str)))),(6,.one (.c (.d (.int .i64)))),(7,.one (.c (.d (.int .i64))))],[],[]⟩
@[reducible] def q6m:List (Exit×SSt):=[(.ret,⟨[(4,.one (.c (.d .bool)))],[],[]⟩),(.exit 2,⟨[(1,.one (.c (.d .bool))),(5,.one (.c (.d (.lst .str)))),(6,.one (.c (.d (.int .i64))))],[],[]⟩)]
def qk3 (n:Nat) (rec:Bool->(List (List UInt8))->Int->Int->Option (((Bool×(Unit))×(Unit)×(Unit))⊕((Bool×((List (List UInt8))×(Int×(Unit))))×(Unit)×(Unit)))) (a1:Bool) (a2:List (List UInt8)) (a3:Int) (a4:Int):Option (((Bool×(Unit))×(Unit)×(Unit))⊕((Bool×((List (List UInt8))×(Int×(Unit))))×(Unit)×(Unit))) :=
 (q1a a2 a3).bind fun (x2:List UInt8)=>(bif decide (a4<((List.length x2:Nat):Int)) then (q1a a2 a3).bind fun (x3:List UInt8)=>(sAt x3 a4).bind fun (c4:Int)=>(bif decide ((97:Int)<=c4) then (bif !(decide (c4<=(122:Int))) then (bif decide ((65:Int)<=c4) then (bif !(decide (c4<=(90:Int))) then (bif decide ((48:Int)<=c4) then (bif !(decide (c4<=(57:Int))) then (bif !decide (c4=(45:Int)) then some (Sum.inl ((false,()),((),()))) else q0b (IntKind.wrap .i64 (a4+(1:Int))) fun (n5:Int)=>rec a1 a2 a3 n5) else q0b (IntKind.wrap .i64 (a4+(1:Int))) fun (n6:Int)=>rec a1 a2 a3 n6) else (bif !decide (c4=(45:Int)) then some (Sum.inl ((false,()),((),()))) else q0b (IntKind.wrap .i64 (a4+(1:Int))) fun (n7:Int)=>rec a1 a2 a3 n7)) else q0b (IntKind.wrap .i64 (a4+(1:Int))) fun (n8:Int)=>rec a1 a2 a3 n8) else (bif decide ((48:Int)<=c4) then (bif !(decide (c4<=(57:Int))) then (bif !decide (c4=(45:Int)) then some (Sum.inl ((false,()),((),()))) else q0b (IntKind.wrap .i64 (a4+(1:Int))) fun (n9:Int)=>rec a1 a2 a3 n9) else q0b (IntKind.wrap .i64 (a4+(1:Int))) fun (n10:Int)=>rec a1 a2 a3 n10) else (bif !decide (c4=(45:Int)) then some (Sum.inl ((false,()),((),()))) else q0b (IntKind.wrap .i64 (a4+(1:Int))) fun (n11:Int)=>rec a1 a2 a3 n11))) else q0b (IntKind.wrap .i64 (a4+(1:Int))) fun (n12:Int)=>rec a1 a2 a3 n12) else (bif decide ((65:Int)<=c4) then (bif !(decide (c4<=(90:Int))) then (bif decide ((48:Int)<=c4) then (bif !(decide (c4<=(57:Int))) then (bif !decide (c4=(45:Int)) then some (Sum.inl ((false,()),((),()))) else q0b (IntKind.wrap .i64 (a4+(1:Int))) fun (n13:Int)=>rec a1 a2 a3 n13) else q0b (IntKind.wrap .i64 (a4+(1:Int))) fun (n14:Int)=>rec a1 a2 a3 n14) else (bif !decide (c4=(45:Int)) then some (Sum.inl ((false,()),((),()))) else q0b (IntKind.wrap .i64 (a4+(1:Int))) fun (n15:Int)=>rec a1 a2 a3 n15)) else q0b (IntKind.wrap .i64 (a4+(1:Int))) fun (n16:Int)=>rec a1 a2 a3 n16) else (bif decide ((48:Int)<=c4) then (bif !(decide (c4<=(57:Int))) then (bif !decide (c4=(45:Int)) then some (Sum.inl ((false,()),((),()))) else q0b (IntKind.wrap .i64 (a4+(1:Int))) fun (n17:Int)=>rec a1 a2 a3 n17) else q0b (IntKind.wrap .i64 (a4+(1:Int))) fun (n18:Int)=>rec a1 a2 a3 n18) else (bif !decide (c4=(45:Int)) then some (Sum.inl ((false,()),((),()))) else q0b (IntKind.wrap .i64 (a4+(1:Int))) fun (n19:Int)=>rec a1 a2 a3 n19)))) else some (Sum.inr (((a1,(a2,(a3,()))),((),())))))
def ql5 (n:Nat) (rec:pSt qaa->Option (q0f q6m)) (p:pSt qaa):Option (q0f q6m):=qk3 n (fun a1 a2 a3 a4=>rec ((a1,(a2,(a3,(a4,())))),((),()))) p.1.1 p.1.2.1 p.1.2.2.1 p.1.2.2.2.1
def q68 (n m:Nat) (a1:Bool) (a2:List (List UInt8)) (a3:Int) (a4:Int):Option (((Bool×(Unit))×(Unit)×(Unit))⊕((Bool×((List (List UInt8))×(Int×(Unit))))×(Unit)×(Unit))):=q0g (ql5 n) m ((a1,(a2,(a3,(a4,())))),((),()))
theorem qi8 (n m:Nat) (a1:Bool) (a2:List (List UInt8)) (a3:Int) (a4:Int):q68 n (m+1) a1 a2 a3 a4=qk3 n (fun a1 a2 a3 a4=>q68 n m a1 a2 a3 a4) a1 a2 a3 a4:=rfl
def qwm (n:Nat):LC:={ sh:=qaa,outs:=q6m,F:=q0g (ql5 n) n }
@[reducible] def qbc:SSt:=⟨[(1,.one (.c (.d .bool))),(5,.one (.c (.d (.lst .str)))),(6,.one (.c (.d (.int .i64))))],[],[]⟩
@[reducible] def q6n:List (Exit×SSt):=[(.ret,⟨[(4,.one (.c (.d .bool)))],[],[]⟩),(.exit 0,⟨[],[],[]⟩)]
def qkm (n:Nat) (rec:Bool->(List (List UInt8))->Int->Option (((Bool×(Unit))×(Unit)×(Unit))⊕((Unit)×(Unit)×(Unit)))) (a1:Bool) (a2:List (List UInt8)) (a3:Int):Option (((Bool×(Unit))×(Unit)×(Unit))⊕((Unit)×(Unit)×(Unit))) :=
 (bif decide (a3<((List.length a2:Nat):Int)) then (q68 n n a1 a2 a3 (0:Int)).bind fun (o20:((Bool×(Unit))×(Unit)×(Unit))⊕((Bool×((List (List UInt8))×(Int×(Unit))))×(Unit)×(Unit)))=>Sum.elim (fun (q21:(Bool×(Unit))×(Unit)×(Unit))=>some (Sum.inl ((q21.1.1,()),((),())))) (fun (q22:(Bool×((List (List UInt8))×(Int×(Unit))))×(Unit)×(Unit))=>(q1a q22.1.2.1 q22.1.2.2.1).bind fun (x23:List UInt8)=>(bif decide (x23=([]:List UInt8)) then some (Sum.inl ((false,()),((),()))) else (bif !q22.1.1 then (q1a q22.1.2.1 q22.1.2.2.1).bind fun (x24:List UInt8)=>(q75 n x24).bind fun (r25:Bool)=>(bif r25 then (q1a q22.1.2.1 q22.1.2.2.1).bind fun (x26:List UInt8)=>(bif decide ((1:Int)<((List.length x26:Nat):Int)) then (q1a q22.1.2.1 q22.1.2.2.1).bind fun (x27:List UInt8)=>(sAt x27 (0:Int)).bind fun (c28:Int)=>(bif decide (c28=(48:Int)) then some (Sum.inl ((false,()),((),()))) else q0b (IntKind.wrap .i64 (q22.1.2.2.1+(1:Int))) fun (n29:Int)=>rec q22.1.1 q22.1.2.1 n29) else q0b (IntKind.wrap .i64 (q22.1.2.2.1+(1:Int))) fun (n30:Int)=>rec q22.1.1 q22.1.2.1 n30) else q0b (IntKind.wrap .i64 (q22.1.2.2.1+(1:Int))) fun (n31:Int)=>rec q22.1.1 q22.1.2.1 n31) else q0b (IntKind.wrap .i64 (q22.1.2.2.1+(1:Int))) fun (n32:Int)=>rec q22.1.1 q22.1.2.1 n32))) o20 else some (Sum.inr (((),((),())))))
def qlh (n:Nat) (rec:pSt qbc->Option (q0f q6n)) (p:pSt qbc):Option (q0f q6n):=qkm n (fun a1 a2 a3=>rec ((a1,(a2,(a3,()))),((),()))) p.1.1 p.1.2.1 p.1.2.2.1
def q6j (n m:Nat) (a1:Bool) (a2:List (List UInt8)) (a3:Int):Option (((Bool×(Unit))×(Unit)×(Unit))⊕((Unit)×(Unit)×(Unit))):=q0g (qlh n) m ((a1,(a2,(a3,()))),((),()))
theorem qj0 (n m:Nat) (a1:Bool) (a2:List (List UInt8)) (a3:Int):q6j n (m+1) a1 a2 a3=qkm n (fun a1 a2 a3=>q6j n m a1 a2 a3) a1 a2 a3:=rfl
def qw5 (n:Nat):LC:={ sh:=qbc,outs:=q6n,F:=q0g (qlh n) n }
def qa7 (n:Nat):List LC:=[qw5 n,qwm n]
def q9e (n:Nat) (a1:List UInt8) (a2:Bool):Option (Bool) :=
 (q0n n a1 (46:Int)).bind fun (r1:List (List UInt8))=>(q6j n n a2 r1 (0:Int)).bind fun (o33:((Bool×(Unit))×(Unit)×(Unit))⊕((Unit)×(Unit)×(Unit)))=>Sum.elim (fun (q34:(Bool×(Unit))×(Unit)×(Unit))=>some q34.1.1) (fun (q35:(Unit)×(Unit)×(Unit))=>some true) o33
def q93 (n:Nat):FC:={ f:=63,args:=[.one (.c (.d .str)),.one (.c (.d .bool))],res:=.one (.c (.d .bool)),F:=fun p=>q9e n p.1 p.2 }
def qdy (n:Nat):List FC:=[q1f n,q4j n]
theorem qdf (n:Nat) {G:World->Prop} (hG:Know Inv G) : ∀c∈qdy n,q1b Tryz.prog G c/\q0e c.args=true:=List.forall_mem_cons.2 ⟨q3k n G hG,List.forall_mem_cons.2 ⟨qlf n G hG,(fun _ h=>by cases h)⟩⟩
def qdq:q0c:=[]
theorem qkq:drB qdq (q00 Tryz.f63)=true:=by kernel_rfl
theorem j96 (n:Nat) : ∀rec p,ql5 n rec p=round Tryz.prog 93 (qdy n) (qa7 n) qdq 2 qaa q6m (q01 0 1 (q00 Tryz.f63)) rec p:=by intro rec p;kernel_rfl
theorem jby (n:Nat) : ∀rec p,qlh n rec p=round Tryz.prog 93 (qdy n) (qa7 n) qdq 1 qbc q6n (q01 0 0 (q00 Tryz.f63)) rec p:=by intro rec p;kernel_rfl
theorem qmv (n:Nat) {F:Fr} (hF:F.n=93) (hK:Know Inv F.G):q71 Tryz.prog F (qwm n) (q01 0 1 (q00 Tryz.f63)) :=
 q0h hF (by kernel_rfl) (qdf n hK) (j96 n) (fuel:=n) (fun _=>rfl) (q02 fun j L h1 h2 h3=>absurd h2 (Nat.not_lt.2 (Nat.le_trans (by decide +kernel) h1))) (q0r qkq)
theorem j3v (n:Nat) {F:Fr} (hF:F.n=93) (hK:Know Inv F.G):q71 Tryz.prog F (qw5 n) (q01 0 0 (q00 Tryz.f63)) :=
 q0h hF (by kernel_rfl) (qdf n hK) (jby n) (fuel:=n) (fun _=>rfl) (q02 (c:=(q01 0 0 (q00 Tryz.f63))) (fun j L h1 h2 h3=>by
  have h2':j<2:=Nat.lt_of_lt_of_le h2 (by decide +kernel)
  match j,h1,h2',h3 with
  | 0,h1,_,_=>exact absurd h1 (by decide)
  | 1,_,_,h3=>obtain rfl:=Option.some.inj h3;exact (show q01 0 1 (q00 Tryz.f63)=q01 1 1 (q01 0 0 (q00 Tryz.f63)) by kernel_rfl) ▸ qmv n hF hK
  | j+2,_,h2',_=>exact absurd h2' (by omega))) (q0r qkq)
theorem jfl (n:Nat) : ∀a,(q93 n).F a=main Tryz.prog 93 (qdy n) (qa7 n) qdq (q00 Tryz.f63) [.tmp 4] (q93 n).args (q93 n).res a:=by intro a;kernel_rfl
theorem jih (n:Nat):q0a Inv Tryz.prog (q93 n):=fun G hG=>⟨⟨by kernel_rfl,fun a r h=>q03 (c:=q00 Tryz.f63) Tryz.func63 (by kernel_rfl) (by kernel_rfl) (Nat.le_of_ble_eq_true (by kernel_rfl)) hG.st (by kernel_rfl) (rs:=[.tmp 4]) (by kernel_rfl) (qdf n hG) (lts:=qa7 n) (fun F hF hFG=>have hK:Know Inv F.G:=hFG ▸ hG;(q02 (c:=(q00 Tryz.f63)) (fun j L h1 h2 h3=>by
  have h2':j<2:=Nat.lt_of_lt_of_le h2 (by decide +kernel)
  match j,h1,h2',h3 with
  | 0,_,_,h3=>obtain rfl:=Option.some.inj h3;exact (show q01 0 0 (q00 Tryz.f63)=q01 0 0 (q00 Tryz.f63) by kernel_rfl) ▸ j3v n hF hK
  | 1,_,_,h3=>obtain rfl:=Option.some.inj h3;exact (show q01 0 1 (q00 Tryz.f63)=q01 0 1 (q00 Tryz.f63) by kernel_rfl) ▸ qmv n hF hK
  | j+2,_,h2',_=>exact absurd h2' (by omega)))) qkq ((jfl n a).symm.trans h)⟩,rfl⟩
def jdl (n:Nat):List LC:=[]
def qxe (n:Nat) (a1:Int):Option (Bool) :=
 (bif decide ((0:Int)<=a1) then some (decide (a1<=(999999999:Int))) else some false)
def qpx (n:Nat):FC:={ f:=62,args:=[.one (.c (.d (.int .i64)))],res:=.one (.c (.d .bool)),F:=fun p=>qxe n p }
def jjy (n:Nat):List FC:=[]
theorem jj5 (n:Nat) {G:World->Prop} (hG:Know Inv G) : ∀c∈jjy n,q1b Tryz.prog G c/\q0e c.args=true:=(fun _ h=>by cases h)
def jmm:q0c:=[]
theorem jvh:drB jmm (q00 Tryz.f62)=true:=by kernel_rfl
theorem juv (n:Nat) : ∀a,(qpx n).F a=main Tryz.prog 9 (jjy n) (jdl n) jmm (q00 Tryz.f62) [.tmp 2] (qpx n).args (qpx n).res a:=by intro a;kernel_rfl
theorem jvq (n:Nat):q0a Inv Tryz.prog (qpx n):=fun G hG=>⟨⟨by kernel_rfl,fun a r h=>q03 (c:=q00 Tryz.f62) Tryz.func62 (by kernel_rfl) (by kernel_rfl) (Nat.le_of_ble_eq_true (by kernel_rfl)) hG.st (by kernel_rfl) (rs:=[.tmp 2]) (by kernel_rfl) (jj5 n hG) (lts:=jdl n) (fun F hF hFG=>have hK:Know Inv F.G:=hFG ▸ hG;(q02 fun j L h1 h2 h3=>absurd h2 (Nat.not_lt.2 (Nat.le_trans (by decide +kernel) h1)))) jvh ((juv n a).symm.trans h)⟩,rfl⟩
def qwj (n:Nat):List LC:=[]
def q66 (n:Nat) (a1:Int×(Int×(Int×((List UInt8)×(List UInt8))))):Option (Bool) :=
 (qxe n a1.1).bind fun (r1:Bool)=>(bif !r1 then some false else (qxe n a1.2.1).bind fun (r2:Bool)=>(bif !r2 then some false else (qxe n a1.2.2.1).bind fun (r3:Bool)=>(bif !r3 then some false else (bif decide ((30:Int)<((List.length a1.2.2.2.1:Nat):Int)) then some false else (bif decide ((30:Int)<((List.length a1.2.2.2.2:Nat):Int)) then some false else (bif decide (a1.2.2.2.1=([]:List UInt8)) then (bif decide (a1.2.2.2.2=([]:List UInt8)) then some true else (q9e n a1.2.2.2.2 true).bind fun (r4:Bool)=>some r4) else (q9e n a1.2.2.2.1 false).bind fun (r5:Bool)=>(bif r5 then (bif decide (a1.2.2.2.2=([]:List UInt8)) then some true else (q9e n a1.2.2.2.2 true).bind fun (r6:Bool)=>some r6) else some false)))))))
def q5e (n:Nat):FC:={ f:=37,args:=[.one (.agg [.d (.int .i64),.d (.int .i64),.d (.int .i64),.d .str,.d .str])],res:=.one (.c (.d .bool)),F:=fun p=>q66 n p }
def j4n (n:Nat):List FC:=[qpx n,q93 n]
theorem jbt (n:Nat) {G:World->Prop} (hG:Know Inv G) : ∀c∈j4n n,q1b Tryz.prog G c/\q0e c.args=true:=List.forall_mem_cons.2 ⟨jvq n G hG,List.forall_mem_cons.2 ⟨jih n G hG,(fun _ h=>by cases h)⟩⟩
def j69:q0c:=[]
theorem jp0:drB j69 (q00 Tryz.f37)=true:=by kernel_rfl
theorem jk9 (n:Nat) : ∀a,(q5e n).F a=main Tryz.prog 49 (j4n n) (qwj n) j69 (q00 Tryz.f37) [.tmp 2] (q5e n).args (q5e n).res a:=by intro a;kernel_rfl
theorem qh5 (n:Nat):q0a Inv Tryz.prog (q5e n):=fun G hG=>⟨⟨by kernel_rfl,fun a r h=>q03 (c:=q00 Tryz.f37) Tryz.func37 (by kernel_rfl) (by kernel_rfl) (Nat.le_of_ble_eq_true (by kernel_rfl)) hG.st (by kernel_rfl) (rs:=[.tmp 2]) (by kernel_rfl) (jbt n hG) (lts:=qwj n) (fun F hF hFG=>have hK:Know Inv F.G:=hFG ▸ hG;(q02 fun j L h1 h2 h3=>absurd h2 (Nat.not_lt.2 (Nat.le_trans (by decide +kernel) h1)))) jp0 ((jk9 n a).symm.trans h)⟩,rfl⟩
def qq2 (n:Nat):List LC:=[]
def q1p:Nat->Int->Option (List UInt8)
 | 0,_=>none
 | n+1,a1 =>
 (j58 a1 (10:Int)).bind fun (n1:Int)=>q0b (IntKind.wrap .i64 ((48:Int)+n1)) fun (n2:Int)=>q0b (IntKind.wrap .u8 n2) fun (n3:Int)=>(bif decide ((10:Int)<=a1) then (jwh .i64 a1 (10:Int)).bind fun (n4:Int)=>(q1p n n4).bind fun (r5:List UInt8)=>(qaj r5 (List.map (fun n:Int=>UInt8.ofNat n.toNat) ([n3]:List (Int)))).bind fun (s6:List UInt8)=>some s6 else some (List.map (fun n:Int=>UInt8.ofNat n.toNat) ([n3]:List (Int))))
def q4r (n:Nat):FC:={ f:=50,args:=[.one (.c (.d (.int .i64)))],res:=.one (.c (.d .str)),F:=fun p=>q1p n p }
def qyd (n:Nat):List FC:=[q4r n]
theorem j5p (n:Nat) (hrec:q0a Inv Tryz.prog (q4r n)) {G:World->Prop} (hG:Know Inv G) : ∀c∈qyd n,q1b Tryz.prog G c/\q0e c.args=true:=List.forall_mem_cons.2 ⟨hrec G hG,(fun _ h=>by cases h)⟩
def qy9:q0c:=[]
theorem jhu:drB qy9 (q00 Tryz.f50)=true:=by kernel_rfl
theorem jgi (n:Nat) : ∀a,(q4r (n+1)).F a=main Tryz.prog 18 (qyd n) (qq2 n) qy9 (q00 Tryz.f50) [.tmp 2] (q4r (n+1)).args (q4r (n+1)).res a:=by intro a;kernel_rfl
theorem qy7:(n:Nat)->q0a Inv Tryz.prog (q4r n)
 | 0=>fun G hG=>⟨⟨by kernel_rfl,fun a r h=>by cases h⟩,rfl⟩
 | n+1=>fun G hG=>⟨⟨by kernel_rfl,fun a r h=>q03 (c:=q00 Tryz.f50) Tryz.func50 (by kernel_rfl) (by kernel_rfl) (Nat.le_of_ble_eq_true (by kernel_rfl)) hG.st (by kernel_rfl) (rs:=[.tmp 2]) (by kernel_rfl) (j5p n (qy7 n) hG) (lts:=qq2 n) (fun F hF hFG=>have hK:Know Inv F.G:=hFG ▸ hG;(q02 fun j L h1 h2 h3=>absurd h2 (Nat.not_lt.2 (Nat.le_trans (by decide +kernel) h1)))) jhu ((jgi n a).symm.trans h)⟩,rfl⟩
def j6z (n:Nat):List LC:=[]
def q5v (n:Nat) (a1:Int×(Int×(Int×((List UInt8)×(List UInt8))))):Option (List UInt8) :=
 (q66 n a1).bind fun (r1:Bool)=>(bif !r1 then some ([]:List UInt8) else (q1p n a1.1).bind fun (r2:List UInt8)=>(qaj ([118]:List UInt8) r2).bind fun (s3:List UInt8)=>(qaj s3 ([46]:List UInt8)).bind fun (s4:List UInt8)=>(q1p n a1.2.1).bind fun (r5:List UInt8)=>(qaj s4 r5).bind fun (s6:List UInt8)=>(qaj s6 ([46]:List UInt8)).bind fun (s7:List UInt8)=>(q1p n a1.2.2.1).bind fun (r8:List UInt8)=>(qaj s7 r8).bind fun (s9:List UInt8)=>(bif !decide (a1.2.2.2.1=([]:List UInt8)) then (qaj s9 ([45]:List UInt8)).bind fun (s10:List UInt8)=>(qaj s10 a1.2.2.2.1).bind fun (s11:List UInt8)=>(bif !decide (a1.2.2.2.2=([]:List UInt8)) then (qaj s11 ([43]:List UInt8)).bind fun (s12:List UInt8)=>(qaj s12 a1.2.2.2.2).bind fun (s13:List UInt8)=>some s13 else some s11) else (bif !decide (a1.2.2.2.2=([]:List UInt8)) then (qaj s9 ([43]:List UInt8)).bind fun (s14:List UInt8)=>(qaj s14 a1.2.2.2.2).bind fun (s15:List UInt8)=>some s15 else some s9)))
def qel (n:Nat):FC:={ f:=31,args:=[.one (.agg [.d (.int .i64),.d (.int .i64),.d (.int .i64),.d .str,.d .str])],res:=.one (.c (.d .str)),F:=fun p=>q5v n p }
def jel (n:Nat):List FC:=[q5e n,q4r n]
theorem jhk (n:Nat) {G:World->Prop} (hG:Know Inv G) : ∀c∈jel n,q1b Tryz.prog G c/\q0e c.args=true:=List.forall_mem_cons.2 ⟨qh5 n G hG,List.forall_mem_cons.2 ⟨qy7 n G hG,(fun _ h=>by cases h)⟩⟩
def jdb:q0c:=[(3,[⟨12582936,2^21,0⟩,⟨102760464,2^24,1⟩,⟨49*2^24,2^27,3⟩,⟨49*2^27,2^30,7⟩,⟨49*2^30,2^33,15⟩,⟨412316860440,2^36,0⟩,⟨3367254360080,2^39,32⟩,⟨49*2^39,2^42,103⟩,⟨25089*2^33,2^45,255⟩,⟨49*2^45,2^48,511⟩,⟨13510798882111512,2^51,0⟩,⟨110338190870577168,2^54,1024⟩,⟨49*2^54,2^57,3303⟩,⟨25089*2^48,2^60,8191⟩,⟨1152921504606850048,512,16383⟩]),(1000003,[])]
theorem jsg:drB jdb (q00 Tryz.f31)=true:=by kernel_rfl
theorem jpt (n:Nat) : ∀a,(qel n).F a=main Tryz.prog 38 (jel n) (j6z n) jdb (q00 Tryz.f31) [.tmp 2] (qel n).args (qel n).res a:=by intro a;kernel_rfl
theorem jec (n:Nat):q0a Inv Tryz.prog (qel n):=fun G hG=>⟨⟨by kernel_rfl,fun a r h=>q03 (c:=q00 Tryz.f31) Tryz.func31 (by kernel_rfl) (by kernel_rfl) (Nat.le_of_ble_eq_true (by kernel_rfl)) hG.st (by kernel_rfl) (rs:=[.tmp 2]) (by kernel_rfl) (jhk n hG) (lts:=j6z n) (fun F hF hFG=>have hK:Know Inv F.G:=hFG ▸ hG;(q02 fun j L h1 h2 h3=>absurd h2 (Nat.not_lt.2 (Nat.le_trans (by decide +kernel) h1)))) jsg ((jpt n a).symm.trans h)⟩,rfl⟩
@[reducible] def qhd:SSt:=⟨[(0,.one (.c (.d .str))),(1,.one (.c (.d (.int .u8)))),(5,.one (.c (.d (.int .i64))))],[],[]⟩
@[reducible] def qaz:List (Exit×SSt):=[(.ret,⟨[(4,.one (.c (.d (.int .i64))))],[],[]⟩),(.exit 0,⟨[],[],[]⟩)]
def j1q (n:Nat) (rec:(List UInt8)->Int->Int->Option (((Int×(Unit))×(Unit)×(Unit))⊕((Unit)×(Unit)×(Unit)))) (a1:List UInt8) (a2:Int) (a3:Int):Option (((Int×(Unit))×(Unit)×(Unit))⊕((Unit)×(Unit)×(Unit))) :=
 (bif decide (a3<((List.length a1:Nat):Int)) then (sAt a1 a3).bind fun (c1:Int)=>(bif decide (c1=a2) then some (Sum.inl ((a3,()),((),()))) else q0b (IntKind.wrap .i64 (a3+(1:Int))) fun (n2:Int)=>rec a1 a2 n2) else some (Sum.inr (((),((),())))))
def qzz (n:Nat) (rec:pSt qhd->Option (q0f qaz)) (p:pSt qhd):Option (q0f qaz):=j1q n (fun a1 a2 a3=>rec ((a1,(a2,(a3,()))),((),()))) p.1.1 p.1.2.1 p.1.2.2.1
def qac (n m:Nat) (a1:List UInt8) (a2:Int) (a3:Int):Option (((Int×(Unit))×(Unit)×(Unit))⊕((Unit)×(Unit)×(Unit))):=q0g (qzz n) m ((a1,(a2,(a3,()))),((),()))
theorem qo5 (n m:Nat) (a1:List UInt8) (a2:Int) (a3:Int):qac n (m+1) a1 a2 a3=j1q n (fun a1 a2 a3=>qac n m a1 a2 a3) a1 a2 a3:=rfl
def jdt (n:Nat):LC:={ sh:=qhd,outs:=qaz,F:=q0g (qzz n) n }
def qr0 (n:Nat):List LC:=[jdt n]
def qaq (n:Nat) (a1:List UInt8) (a2:Int):Option (Int) :=
 (qac n n a1 a2 (0:Int)).bind fun (o3:((Int×(Unit))×(Unit)×(Unit))⊕((Unit)×(Unit)×(Unit)))=>Sum.elim (fun (q4:(Int×(Unit))×(Unit)×(Unit))=>some q4.1.1) (fun (q5:(Unit)×(Unit)×(Unit))=>some (-1:Int)) o3
def qh2 (n:Nat):FC:={ f:=45,args:=[.one (.c (.d .str)),.one (.c (.d (.int .u8)))],res:=.one (.c (.d (.int .i64))),F:=fun p=>qaq n p.1 p.2 }
def qzp (n:Nat):List FC:=[]
theorem qwx (n:Nat) {G:World->Prop} (hG:Know Inv G) : ∀c∈qzp n,q1b Tryz.prog G c/\q0e c.args=true:=(fun _ h=>by cases h)
def j07:q0c:=[]
theorem jdr:drB j07 (q00 Tryz.f45)=true:=by kernel_rfl
theorem jj7 (n:Nat) : ∀rec p,qzz n rec p=round Tryz.prog 18 (qzp n) (qr0 n) j07 1 qhd qaz (q01 0 0 (q00 Tryz.f45)) rec p:=by intro rec p;kernel_rfl
theorem jgn (n:Nat) {F:Fr} (hF:F.n=18) (hK:Know Inv F.G):q71 Tryz.prog F (jdt n) (q01 0 0 (q00 Tryz.f45)) :=
 q0h hF (by kernel_rfl) (qwx n hK) (jj7 n) (fuel:=n) (fun _=>rfl) (q02 fun j L h1 h2 h3=>absurd h2 (Nat.not_lt.2 (Nat.le_trans (by decide +kernel) h1))) (q0r jdr)
theorem jpm (n:Nat) : ∀a,(qh2 n).F a=main Tryz.prog 18 (qzp n) (qr0 n) j07 (q00 Tryz.f45) [.tmp 4] (qh2 n).args (qh2 n).res a:=by intro a;kernel_rfl
theorem jsk (n:Nat):q0a Inv Tryz.prog (qh2 n):=fun G hG=>⟨⟨by kernel_rfl,fun a r h=>q03 (c:=q00 Tryz.f45) Tryz.func45 (by kernel_rfl) (by kernel_rfl) (Nat.le_of_ble_eq_true (by kernel_rfl)) hG.st (by kernel_rfl) (rs:=[.tmp 4]) (by kernel_rfl) (qwx n hG) (lts:=qr0 n) (fun F hF hFG=>have hK:Know Inv F.G:=hFG ▸ hG;(q02 (c:=(q00 Tryz.f45)) (fun j L h1 h2 h3=>by
  have h2':j<1:=Nat.lt_of_lt_of_le h2 (by decide +kernel)
  match j,h1,h2',h3 with
  | 0,_,_,h3=>obtain rfl:=Option.some.inj h3;exact (show q01 0 0 (q00 Tryz.f45)=q01 0 0 (q00 Tryz.f45) by kernel_rfl) ▸ jgn n hF hK
  | j+1,_,h2',_=>exact absurd h2' (by omega)))) jdr ((jpm n a).symm.trans h)⟩,rfl⟩
@[reducible] def qin:SSt:=⟨[(0,.one (.c (.d .str))),(3,.one (.c (.d (.int .i64)))),(4,.one (.c (.d (.int .i64))))],[],[]⟩
@[reducible] def qbb:List (Exit×SSt):=[(.exit 0,⟨[(3,.one (.c (.d (.int .i64))))],[],[]⟩)]
def j15 (n:Nat) (rec:(List UInt8)->Int->Int->Option ((Int×(Unit))×(Unit)×(Unit))) (a1:List UInt8) (a2:Int) (a3:Int):Option ((Int×(Unit))×(Unit)×(Unit)) :=
 (bif decide (a3<((List.length a1:Nat):Int)) then q0b (IntKind.wrap .i64 ((10:Int)*a2)) fun (n2:Int)=>(sAt a1 a3).bind fun (c3:Int)=>q0b (IntKind.wrap .i64 c3) fun (n4:Int)=>q0b (IntKind.wrap .i64 (n2+n4)) fun (n5:Int)=>q0b (IntKind.wrap .i64 (n5 - (48:Int))) fun (n6:Int)=>q0b (IntKind.wrap .i64 (a3+(1:Int))) fun (n7:Int)=>rec a1 n6 n7 else some (((a2,()),((),()))))
def j1y (n:Nat) (rec:pSt qin->Option (q0f qbb)) (p:pSt qin):Option (q0f qbb):=j15 n (fun a1 a2 a3=>rec ((a1,(a2,(a3,()))),((),()))) p.1.1 p.1.2.1 p.1.2.2.1
def qaf (n m:Nat) (a1:List UInt8) (a2:Int) (a3:Int):Option ((Int×(Unit))×(Unit)×(Unit)):=q0g (j1y n) m ((a1,(a2,(a3,()))),((),()))
theorem qnw (n m:Nat) (a1:List UInt8) (a2:Int) (a3:Int):qaf n (m+1) a1 a2 a3=j15 n (fun a1 a2 a3=>qaf n m a1 a2 a3) a1 a2 a3:=rfl
def jex (n:Nat):LC:={ sh:=qin,outs:=qbb,F:=q0g (j1y n) n }
def qro (n:Nat):List LC:=[jex n]
def q1h (n:Nat) (a1:List UInt8):Option (Int) :=
 (q75 n a1).bind fun (r1:Bool)=>(bif !r1 then some (-1:Int) else (bif decide ((9:Int)<((List.length a1:Nat):Int)) then some (-1:Int) else (qaf n n a1 (0:Int) (0:Int)).bind fun (o8:(Int×(Unit))×(Unit)×(Unit))=>some o8.1.1))
def qhr (n:Nat):FC:={ f:=46,args:=[.one (.c (.d .str))],res:=.one (.c (.d (.int .i64))),F:=fun p=>q1h n p }
def j10 (n:Nat):List FC:=[q4j n]
theorem qya (n:Nat) {G:World->Prop} (hG:Know Inv G) : ∀c∈j10 n,q1b Tryz.prog G c/\q0e c.args=true:=List.forall_mem_cons.2 ⟨qlf n G hG,(fun _ h=>by cases h)⟩
def qzh:q0c:=[]
theorem jda:drB qzh (q00 Tryz.f46)=true:=by kernel_rfl
theorem jla (n:Nat) : ∀rec p,j1y n rec p=round Tryz.prog 28 (j10 n) (qro n) qzh 1 qin qbb (q01 0 0 (q00 Tryz.f46)) rec p:=by intro rec p;kernel_rfl
theorem jgp (n:Nat) {F:Fr} (hF:F.n=28) (hK:Know Inv F.G):q71 Tryz.prog F (jex n) (q01 0 0 (q00 Tryz.f46)) :=
 q0h hF (by kernel_rfl) (qya n hK) (jla n) (fuel:=n) (fun _=>rfl) (q02 fun j L h1 h2 h3=>absurd h2 (Nat.not_lt.2 (Nat.le_trans (by decide +kernel) h1))) (q0r jda)
theorem jru (n:Nat) : ∀a,(qhr n).F a=main Tryz.prog 28 (j10 n) (qro n) qzh (q00 Tryz.f46) [.tmp 2] (qhr n).args (qhr n).res a:=by intro a;kernel_rfl
theorem jr9 (n:Nat):q0a Inv Tryz.prog (qhr n):=fun G hG=>⟨⟨by kernel_rfl,fun a r h=>q03 (c:=q00 Tryz.f46) Tryz.func46 (by kernel_rfl) (by kernel_rfl) (Nat.le_of_ble_eq_true (by kernel_rfl)) hG.st (by kernel_rfl) (rs:=[.tmp 2]) (by kernel_rfl) (qya n hG) (lts:=qro n) (fun F hF hFG=>have hK:Know Inv F.G:=hFG ▸ hG;(q02 (c:=(q00 Tryz.f46)) (fun j L h1 h2 h3=>by
  have h2':j<1:=Nat.lt_of_lt_of_le h2 (by decide +kernel)
  match j,h1,h2',h3 with
  | 0,_,_,h3=>obtain rfl:=Option.some.inj h3;exact (show q01 0 0 (q00 Tryz.f46)=q01 0 0 (q00 Tryz.f46) by kernel_rfl) ▸ jgp n hF hK
  | j+1,_,h2',_=>exact absurd h2' (by omega)))) jda ((jru n a).symm.trans h)⟩,rfl⟩
def qwz (n:Nat):List LC:=[]
def qjd (n:Nat) (a1:List UInt8):Option ((Int×(Int×(Int×((List UInt8)×(List UInt8)))))×(Bool)) :=
 (bif decide ((100:Int)<((List.length a1:Nat):Int)) then some (((0:Int),((0:Int),((0:Int),(([]:List UInt8),([]:List UInt8))))),false) else (bif decide (((List.length a1:Nat):Int)=(0:Int)) then some (((0:Int),((0:Int),((0:Int),(([]:List UInt8),([]:List UInt8))))),false) else (sAt a1 (0:Int)).bind fun (c1:Int)=>(bif !decide (c1=(118:Int)) then some (((0:Int),((0:Int),((0:Int),(([]:List UInt8),([]:List UInt8))))),false) else (q7n a1 (1:Int) ((List.length a1:Nat):Int)).bind fun (s2:List UInt8)=>(qaq n s2 (43:Int)).bind fun (r3:Int)=>(bif decide ((0:Int)<=r3) then q0b (IntKind.wrap .i64 (r3+(1:Int))) fun (n4:Int)=>(q7n s2 n4 ((List.length s2:Nat):Int)).bind fun (s5:List UInt8)=>(q7n s2 (0:Int) r3).bind fun (s6:List UInt8)=>(qaq n s6 (45:Int)).bind fun (r7:Int)=>(bif decide ((0:Int)<=r7) then q0b (IntKind.wrap .i64 (r7+(1:Int))) fun (n8:Int)=>(q7n s6 n8 ((List.length s6:Nat):Int)).bind fun (s9:List UInt8)=>(q7n s6 (0:Int) r7).bind fun (s10:List UInt8)=>(q0n n s10 (46:Int)).bind fun (r11:List (List UInt8))=>(bif !decide (((List.length r11:Nat):Int)=(3:Int)) then some (((0:Int),((0:Int),((0:Int),(([]:List UInt8),([]:List UInt8))))),false) else (q1a r11 (0:Int)).bind fun (x12:List UInt8)=>(q1h n x12).bind fun (r13:Int)=>(q1a r11 (1:Int)).bind fun (x14:List UInt8)=>(q1h n x14).bind fun (r15:Int)=>(q1a r11 (2:Int)).bind fun (x16:List UInt8)=>(q1h n x16).bind fun (r17:Int)=>(q5v n (r13,(r15,(r17,(s9,s5))))).bind fun (r18:List UInt8)=>(bif !decide (r18=a1) then some (((0:Int),((0:Int),((0:Int),(([]:List UInt8),([]:List UInt8))))),false) else some ((r13,(r15,(r17,(s9,s5)))),true))) else (q0n n s6 (46:Int)).bind fun (r19:List (List UInt8))=>(bif !decide (((List.length r19:Nat):Int)=(3:Int)) then some (((0:Int),((0:Int),((0:Int),(([]:List UInt8),([]:List UInt8))))),false) else (q1a r19 (0:Int)).bind fun (x20:List UInt8)=>(q1h n x20).bind fun (r21:Int)=>(q1a r19 (1:Int)).bind fun (x22:List UInt8)=>(q1h n x22).bind fun (r23:Int)=>(q1a r19 (2:Int)).bind fun (x24:List UInt8)=>(q1h n x24).bind fun (r25:Int)=>(q5v n (r21,(r23,(r25,(([]:List UInt8),s5))))).bind fun (r26:List UInt8)=>(bif !decide (r26=a1) then some (((0:Int),((0:Int),((0:Int),(([]:List UInt8),([]:List UInt8))))),false) else some ((r21,(r23,(r25,(([]:List UInt8),s5)))),true)))) else (qaq n s2 (45:Int)).bind fun (r27:Int)=>(bif decide ((0:Int)<=r27) then q0b (IntKind.wrap .i64 (r27+(1:Int))) fun (n28:Int)=>(q7n s2 n28 ((List.length s2:Nat):Int)).bind fun (s29:List UInt8)=>(q7n s2 (0:Int) r27).bind fun (s30:List UInt8)=>(q0n n s30 (46:Int)).bind fun (r31:List (List UInt8))=>(bif !decide (((List.length r31:Nat):Int)=(3:Int)) then some (((0:Int),((0:Int),((0:Int),(([]:List UInt8),([]:List UInt8))))),false) else (q1a r31 (0:Int)).bind fun (x32:List UInt8)=>(q1h n x32).bind fun (r33:Int)=>(q1a r31 (1:Int)).bind fun (x34:List UInt8)=>(q1h n x34).bind fun (r35:Int)=>(q1a r31 (2:Int)).bind fun (x36:List UInt8)=>(q1h n x36).bind fun (r37:Int)=>(q5v n (r33,(r35,(r37,(s29,([]:List UInt8)))))).bind fun (r38:List UInt8)=>(bif !decide (r38=a1) then some (((0:Int),((0:Int),((0:Int),(([]:List UInt8),([]:List UInt8))))),false) else some ((r33,(r35,(r37,(s29,([]:List UInt8))))),true))) else (q0n n s2 (46:Int)).bind fun (r39:List (List UInt8))=>(bif !decide (((List.length r39:Nat):Int)=(3:Int)) then some (((0:Int),((0:Int),((0:Int),(([]:List UInt8),([]:List UInt8))))),false) else (q1a r39 (0:Int)).bind fun (x40:List UInt8)=>(q1h n x40).bind fun (r41:Int)=>(q1a r39 (1:Int)).bind fun (x42:List UInt8)=>(q1h n x42).bind fun (r43:Int)=>(q1a r39 (2:Int)).bind fun (x44:List UInt8)=>(q1h n x44).bind fun (r45:Int)=>(q5v n (r41,(r43,(r45,(([]:List UInt8),([]:List UInt8)))))).bind fun (r46:List UInt8)=>(bif !decide (r46=a1) then some (((0:Int),((0:Int),((0:Int),(([]:List UInt8),([]:List UInt8))))),false) else some ((r41,(r43,(r45,(([]:List UInt8),([]:List UInt8))))),true))))))))
def qcz (n:Nat):FC:={ f:=28,args:=[.one (.c (.d .str))],res:=.tup [.agg [.d (.int .i64),.d (.int .i64),.d (.int .i64),.d .str,.d .str],.c (.d .bool)],F:=fun p=>qjd n p }
def j6a (n:Nat):List FC:=[qh2 n,q1f n,qhr n,qel n]
theorem j9p (n:Nat) {G:World->Prop} (hG:Know Inv G) : ∀c∈j6a n,q1b Tryz.prog G c/\q0e c.args=true:=List.forall_mem_cons.2 ⟨jsk n G hG,List.forall_mem_cons.2 ⟨q3k n G hG,List.forall_mem_cons.2 ⟨jr9 n G hG,List.forall_mem_cons.2 ⟨jec n G hG,(fun _ h=>by cases h)⟩⟩⟩⟩
def j83:q0c:=[]
theorem jm0:drB j83 (q00 Tryz.f28)=true:=by kernel_rfl
theorem jov (n:Nat) : ∀a,(qcz n).F a=main Tryz.prog 77 (j6a n) (qwz n) j83 (q00 Tryz.f28) [.cell 2 30,.tmp 3] (qcz n).args (qcz n).res a:=by intro a;kernel_rfl
theorem jlb (n:Nat):q0a Inv Tryz.prog (qcz n):=fun G hG=>⟨⟨by kernel_rfl,fun a r h=>q03 (c:=q00 Tryz.f28) Tryz.func28 (by kernel_rfl) (by kernel_rfl) (Nat.le_of_ble_eq_true (by kernel_rfl)) hG.st (by kernel_rfl) (rs:=[.cell 2 30,.tmp 3]) (by kernel_rfl) (j9p n hG) (lts:=qwz n) (fun F hF hFG=>have hK:Know Inv F.G:=hFG ▸ hG;(q02 fun j L h1 h2 h3=>absurd h2 (Nat.not_lt.2 (Nat.le_trans (by decide +kernel) h1)))) jm0 ((jov n a).symm.trans h)⟩,rfl⟩
def qwo (n:Nat):List LC:=[]
def q41 (n:Nat) (a1:Int) (a2:Int):Option (Int) :=
 (bif decide (a1<a2) then some (-1:Int) else (bif decide (a2<a1) then some (1:Int) else some (0:Int)))
def q76 (n:Nat):FC:={ f:=39,args:=[.one (.c (.d (.int .i64))),.one (.c (.d (.int .i64)))],res:=.one (.c (.d (.int .i64))),F:=fun p=>q41 n p.1 p.2 }
def j82 (n:Nat):List FC:=[]
theorem jb6 (n:Nat) {G:World->Prop} (hG:Know Inv G) : ∀c∈j82 n,q1b Tryz.prog G c/\q0e c.args=true:=(fun _ h=>by cases h)
def j72:q0c:=[]
theorem jnl:drB j72 (q00 Tryz.f39)=true:=by kernel_rfl
theorem jju (n:Nat) : ∀a,(q76 n).F a=main Tryz.prog 11 (j82 n) (qwo n) j72 (q00 Tryz.f39) [.tmp 4] (q76 n).args (q76 n).res a:=by intro a;kernel_rfl
theorem qql (n:Nat):q0a Inv Tryz.prog (q76 n):=fun G hG=>⟨⟨by kernel_rfl,fun a r h=>q03 (c:=q00 Tryz.f39) Tryz.func39 (by kernel_rfl) (by kernel_rfl) (Nat.le_of_ble_eq_true (by kernel_rfl)) hG.st (by kernel_rfl) (rs:=[.tmp 4]) (by kernel_rfl) (jb6 n hG) (lts:=qwo n) (fun F hF hFG=>have hK:Know Inv F.G:=hFG ▸ hG;(q02 fun j L h1 h2 h3=>absurd h2 (Nat.not_lt.2 (Nat.le_trans (by decide +kernel) h1)))) jnl ((jju n a).symm.trans h)⟩,rfl⟩
def qw8 (n:Nat):List LC:=[]
def qhb (n:Nat) (a1:List UInt8) (a2:List UInt8):Option (Int) :=
 (q75 n a1).bind fun (r1:Bool)=>(q75 n a2).bind fun (r2:Bool)=>(bif r1 then (bif r2 then (bif !decide (((List.length a1:Nat):Int)=((List.length a2:Nat):Int)) then (q41 n ((List.length a1:Nat):Int) ((List.length a2:Nat):Int)).bind fun (r3:Int)=>some r3 else (bif r1 then (bif !r2 then some (-1:Int) else (bif r2 then (bif !r1 then some (1:Int) else (bif ltS (a1) (a2) then some (-1:Int) else (bif !(ltS (a1) (a2)||decide (a1=a2)) then some (1:Int) else some (0:Int)))) else (bif ltS (a1) (a2) then some (-1:Int) else (bif !(ltS (a1) (a2)||decide (a1=a2)) then some (1:Int) else some (0:Int))))) else (bif r2 then (bif !r1 then some (1:Int) else (bif ltS (a1) (a2) then some (-1:Int) else (bif !(ltS (a1) (a2)||decide (a1=a2)) then some (1:Int) else some (0:Int)))) else (bif ltS (a1) (a2) then some (-1:Int) else (bif !(ltS (a1) (a2)||decide (a1=a2)) then some (1:Int) else some (0:Int)))))) else (bif r1 then (bif !r2 then some (-1:Int) else (bif r2 then (bif !r1 then some (1:Int) else (bif ltS (a1) (a2) then some (-1:Int) else (bif !(ltS (a1) (a2)||decide (a1=a2)) then some (1:Int) else some (0:Int)))) else (bif ltS (a1) (a2) then some (-1:Int) else (bif !(ltS (a1) (a2)||decide (a1=a2)) then some (1:Int) else some (0:Int))))) else (bif r2 then (bif !r1 then some (1:Int) else (bif ltS (a1) (a2) then some (-1:Int) else (bif !(ltS (a1) (a2)||decide (a1=a2)) then some (1:Int) else some (0:Int)))) else (bif ltS (a1) (a2) then some (-1:Int) else (bif !(ltS (a1) (a2)||decide (a1=a2)) then some (1:Int) else some (0:Int)))))) else (bif r1 then (bif !r2 then some (-1:Int) else (bif r2 then (bif !r1 then some (1:Int) else (bif ltS (a1) (a2) then some (-1:Int) else (bif !(ltS (a1) (a2)||decide (a1=a2)) then some (1:Int) else some (0:Int)))) else (bif ltS (a1) (a2) then some (-1:Int) else (bif !(ltS (a1) (a2)||decide (a1=a2)) then some (1:Int) else some (0:Int))))) else (bif r2 then (bif !r1 then some (1:Int) else (bif ltS (a1) (a2) then some (-1:Int) else (bif !(ltS (a1) (a2)||decide (a1=a2)) then some (1:Int) else some (0:Int)))) else (bif ltS (a1) (a2) then some (-1:Int) else (bif !(ltS (a1) (a2)||decide (a1=a2)) then some (1:Int) else some (0:Int))))))
def qd8 (n:Nat):FC:={ f:=67,args:=[.one (.c (.d .str)),.one (.c (.d .str))],res:=.one (.c (.d (.int .i64))),F:=fun p=>qhb n p.1 p.2 }
def j59 (n:Nat):List FC:=[q4j n,q76 n]
theorem j9d (n:Nat) {G:World->Prop} (hG:Know Inv G) : ∀c∈j59 n,q1b Tryz.prog G c/\q0e c.args=true:=List.forall_mem_cons.2 ⟨qlf n G hG,List.forall_mem_cons.2 ⟨qql n G hG,(fun _ h=>by cases h)⟩⟩
def j6c:q0c:=[]
theorem jnd:drB j6c (q00 Tryz.f67)=true:=by kernel_rfl
theorem jl2 (n:Nat) : ∀a,(qd8 n).F a=main Tryz.prog 43 (j59 n) (qw8 n) j6c (q00 Tryz.f67) [.tmp 4] (qd8 n).args (qd8 n).res a:=by intro a;kernel_rfl
theorem jn6 (n:Nat):q0a Inv Tryz.prog (qd8 n):=fun G hG=>⟨⟨by kernel_rfl,fun a r h=>q03 (c:=q00 Tryz.f67) Tryz.func67 (by kernel_rfl) (by kernel_rfl) (Nat.le_of_ble_eq_true (by kernel_rfl)) hG.st (by kernel_rfl) (rs:=[.tmp 4]) (by kernel_rfl) (j9d n hG) (lts:=qw8 n) (fun F hF hFG=>have hK:Know Inv F.G:=hFG ▸ hG;(q02 fun j L h1 h2 h3=>absurd h2 (Nat.not_lt.2 (Nat.le_trans (by decide +kernel) h1)))) jnd ((jl2 n a).symm.trans h)⟩,rfl⟩
def jd9 (n:Nat):List LC:=[]
def qyu (n:Nat) (a1:Bool):Option (Int) :=
 (bif a1 then some (1:Int) else some (0:Int))
def qpp (n:Nat):FC:={ f:=66,args:=[.one (.c (.d .bool))],res:=.one (.c (.d (.int .i64))),F:=fun p=>qyu n p }
def jj1 (n:Nat):List FC:=[]
theorem jml (n:Nat) {G:World->Prop} (hG:Know Inv G) : ∀c∈jj1 n,q1b Tryz.prog G c/\q0e c.args=true:=(fun _ h=>by cases h)
def jms:q0c:=[]
theorem ju7:drB jms (q00 Tryz.f66)=true:=by kernel_rfl
theorem jv5 (n:Nat) : ∀a,(qpp n).F a=main Tryz.prog 4 (jj1 n) (jd9 n) jms (q00 Tryz.f66) [.tmp 2] (qpp n).args (qpp n).res a:=by intro a;kernel_rfl
theorem jug (n:Nat):q0a Inv Tryz.prog (qpp n):=fun G hG=>⟨⟨by kernel_rfl,fun a r h=>q03 (c:=q00 Tryz.f66) Tryz.func66 (by kernel_rfl) (by kernel_rfl) (Nat.le_of_ble_eq_true (by kernel_rfl)) hG.st (by kernel_rfl) (rs:=[.tmp 2]) (by kernel_rfl) (jml n hG) (lts:=jd9 n) (fun F hF hFG=>have hK:Know Inv F.G:=hFG ▸ hG;(q02 fun j L h1 h2 h3=>absurd h2 (Nat.not_lt.2 (Nat.le_trans (by decide +kernel) h1)))) ju7 ((jv5 n a).symm.trans h)⟩,rfl⟩
@[reducible] def qp8:SSt:=⟨[(5,.one (.c (.d (.lst .str)))),(6,.one (.c (.d (.lst .str)))),(7,.one (.c (.d (.int .i64))))],[],[]⟩
@[reducible] def qdv:List (Exit×SSt):=[(.ret,⟨[(4,.one (.c (.d (.int .i64))))],[],[]⟩),(.exit 0,⟨[(5,.one (.c (.d (.lst .str)))),(6,.one (.c (.d (.lst .str))))],[],[]⟩)]
def jap (n:Nat) (rec:(List (List UInt8))->(List (List UInt8))->Int->Option (((Int×(Unit))×(Unit)×(Unit))⊕(((List (List UInt8))×((List (List UInt8))×(Unit)))×(Unit)×(Unit)))) (a1:List (List UInt8)) (a2:List (List UInt8)) (a3:Int):Option (((Int×(Unit))×(Unit)×(Unit))⊕(((List (List UInt8))×((List (List UInt8))×(Unit)))×(Unit)×(Unit))) :=
 (bif decide (a3<((List.length a1:Nat):Int)) then (bif decide (a3<((List.length a2:Nat):Int)) then (q1a a1 a3).bind fun (x9:List UInt8)=>(q1a a2 a3).bind fun (x10:List UInt8)=>(qhb n x9 x10).bind fun (r11:Int)=>(bif !decide (r11=(0:Int)) then (q1a a1 a3).bind fun (x12:List UInt8)=>(q1a a2 a3).bind fun (x13:List UInt8)=>(qhb n x12 x13).bind fun (r14:Int)=>some (Sum.inl ((r14,()),((),()))) else q0b (IntKind.wrap .i64 (a3+(1:Int))) fun (n15:Int)=>rec a1 a2 n15) else some (Sum.inr (((a1,(a2,())),((),()))))) else some (Sum.inr (((a1,(a2,())),((),())))))
def jbw (n:Nat) (rec:pSt qp8->Option (q0f qdv)) (p:pSt qp8):Option (q0f qdv):=jap n (fun a1 a2 a3=>rec ((a1,(a2,(a3,()))),((),()))) p.1.1 p.1.2.1 p.1.2.2.1
def qe9 (n m:Nat) (a1:List (List UInt8)) (a2:List (List UInt8)) (a3:Int):Option (((Int×(Unit))×(Unit)×(Unit))⊕(((List (List UInt8))×((List (List UInt8))×(Unit)))×(Unit)×(Unit))):=q0g (jbw n) m ((a1,(a2,(a3,()))),((),()))
theorem qsw (n m:Nat) (a1:List (List UInt8)) (a2:List (List UInt8)) (a3:Int):qe9 n (m+1) a1 a2 a3=jap n (fun a1 a2 a3=>qe9 n m a1 a2 a3) a1 a2 a3:=rfl
def jna (n:Nat):LC:={ sh:=qp8,outs:=qdv,F:=q0g (jbw n) n }
def j0s (n:Nat):List LC:=[jna n]
def jdd (n:Nat) (a1:List UInt8) (a2:List UInt8):Option (Int) :=
 (bif decide (a1=([]:List UInt8)) then (qyu n (decide (a1=([]:List UInt8)))).bind fun (r1:Int)=>(qyu n (decide (a2=([]:List UInt8)))).bind fun (r2:Int)=>(q41 n r1 r2).bind fun (r3:Int)=>some r3 else (bif decide (a2=([]:List UInt8)) then (qyu n (decide (a1=([]:List UInt8)))).bind fun (r4:Int)=>(qyu n (decide (a2=([]:List UInt8)))).bind fun (r5:Int)=>(q41 n r4 r5).bind fun (r6:Int)=>some r6 else (q0n n a1 (46:Int)).bind fun (r7:List (List UInt8))=>(q0n n a2 (46:Int)).bind fun (r8:List (List UInt8))=>(qe9 n n r7 r8 (0:Int)).bind fun (o16:((Int×(Unit))×(Unit)×(Unit))⊕(((List (List UInt8))×((List (List UInt8))×(Unit)))×(Unit)×(Unit)))=>Sum.elim (fun (q17:(Int×(Unit))×(Unit)×(Unit))=>some q17.1.1) (fun (q18:((List (List UInt8))×((List (List UInt8))×(Unit)))×(Unit)×(Unit))=>(q41 n ((List.length q18.1.1:Nat):Int) ((List.length q18.1.2.1:Nat):Int)).bind fun (r19:Int)=>some r19) o16))
def qu8 (n:Nat):FC:={ f:=40,args:=[.one (.c (.d .str)),.one (.c (.d .str))],res:=.one (.c (.d (.int .i64))),F:=fun p=>jdd n p.1 p.2 }
def j9u (n:Nat):List FC:=[qpp n,q76 n,q1f n,qd8 n]
theorem j7w (n:Nat) {G:World->Prop} (hG:Know Inv G) : ∀c∈j9u n,q1b Tryz.prog G c/\q0e c.args=true:=List.forall_mem_cons.2 ⟨jug n G hG,List.forall_mem_cons.2 ⟨qql n G hG,List.forall_mem_cons.2 ⟨q3k n G hG,List.forall_mem_cons.2 ⟨jn6 n G hG,(fun _ h=>by cases h)⟩⟩⟩⟩
def jce:q0c:=[(8,[⟨15576890575604482885591488987693056,2^111,0⟩,⟨59421121885698253195157962753*2^21,2^114,0⟩,⟨393*2^111,2^117,3⟩,⟨49*2^117,2^120,7⟩,⟨63802943797675961899382738893456801792,2^123,0⟩,⟨243388915243820045087367015432193*2^21,2^126,0⟩,⟨393*2^123,2^129,48⟩,⟨49*2^129,2^132,112⟩,⟨200705*2^120,2^135,255⟩,⟨49*2^135,2^138,511⟩]),(1000008,[]),(9,[⟨16725558898897967356151788704486271129518080,2^141,0⟩,⟨63802943797675961899382738893456539649*2^21,2^144,0⟩,⟨393*2^141,2^147,3⟩,⟨49*2^147,2^150,7⟩,⟨68507889249886074290797726533575766546372100096,2^153,0⟩,⟨261336857795280739939871698507597986398209*2^21,2^156,0⟩,⟨393*2^153,2^159,48⟩,⟨49*2^159,2^162,112⟩,⟨200705*2^150,2^165,255⟩,⟨46768052394588893382517914646921056628989841399808,4096,511⟩]),(1000009,[])]
theorem joz:drB jce (q00 Tryz.f40)=true:=by kernel_rfl
theorem jq3 (n:Nat) : ∀rec p,jbw n rec p=round Tryz.prog 61 (j9u n) (j0s n) jce 1 qp8 qdv (q01 0 0 (q00 Tryz.f40)) rec p:=by intro rec p;kernel_rfl
theorem jnv (n:Nat) {F:Fr} (hF:F.n=61) (hK:Know Inv F.G):q71 Tryz.prog F (jna n) (q01 0 0 (q00 Tryz.f40)) :=
 q0h hF (by kernel_rfl) (j7w n hK) (jq3 n) (fuel:=n) (fun _=>rfl) (q02 fun j L h1 h2 h3=>absurd h2 (Nat.not_lt.2 (Nat.le_trans (by decide +kernel) h1))) (q0r joz)
theorem ju0 (n:Nat) : ∀a,(qu8 n).F a=main Tryz.prog 61 (j9u n) (j0s n) jce (q00 Tryz.f40) [.tmp 4] (qu8 n).args (qu8 n).res a:=by intro a;kernel_rfl
theorem juh (n:Nat):q0a Inv Tryz.prog (qu8 n):=fun G hG=>⟨⟨by kernel_rfl,fun a r h=>q03 (c:=q00 Tryz.f40) Tryz.func40 (by kernel_rfl) (by kernel_rfl) (Nat.le_of_ble_eq_true (by kernel_rfl)) hG.st (by kernel_rfl) (rs:=[.tmp 4]) (by kernel_rfl) (j7w n hG) (lts:=j0s n) (fun F hF hFG=>have hK:Know Inv F.G:=hFG ▸ hG;(q02 (c:=(q00 Tryz.f40)) (fun j L h1 h2 h3=>by
  have h2':j<1:=Nat.lt_of_lt_of_le h2 (by decide +kernel)
  match j,h1,h2',h3 with
  | 0,_,_,h3=>obtain rfl:=Option.some.inj h3;exact (show q01 0 0 (q00 Tryz.f40)=q01 0 0 (q00 Tryz.f40) by kernel_rfl) ▸ jnv n hF hK
  | j+1,_,h2',_=>exact absurd h2' (by omega)))) joz ((ju0 n a).symm.trans h)⟩,rfl⟩
def qnj (n:Nat):List LC:=[]
def q2u (n:Nat) (a1:Int×(Int×(Int×((List UInt8)×(List UInt8))))) (a2:Int×(Int×(Int×((List UInt8)×(List UInt8))))):Option (Int) :=
 (q66 n a1).bind fun (r1:Bool)=>(bif !r1 then some (0:Int) else (q66 n a2).bind fun (r2:Bool)=>(bif !r2 then some (0:Int) else (bif !decide (a1.1=a2.1) then (q41 n a1.1 a2.1).bind fun (r3:Int)=>some r3 else (bif !decide (a1.2.1=a2.2.1) then (q41 n a1.2.1 a2.2.1).bind fun (r4:Int)=>some r4 else (bif !decide (a1.2.2.1=a2.2.2.1) then (q41 n a1.2.2.1 a2.2.2.1).bind fun (r5:Int)=>some r5 else (jdd n a1.2.2.2.1 a2.2.2.2.1).bind fun (r6:Int)=>some r6)))))
def q3d (n:Nat):FC:={ f:=22,args:=[.one (.agg [.d (.int .i64),.d (.int .i64),.d (.int .i64),.d .str,.d .str]),.one (.agg [.d (.int .i64),.d (.int .i64),.d (.int .i64),.d .str,.d .str])],res:=.one (.c (.d (.int .i64))),F:=fun p=>q2u n p.1 p.2 }
def qtz (n:Nat):List FC:=[q5e n,q76 n,qu8 n]
theorem j0e (n:Nat) {G:World->Prop} (hG:Know Inv G) : ∀c∈qtz n,q1b Tryz.prog G c/\q0e c.args=true:=List.forall_mem_cons.2 ⟨qh5 n G hG,List.forall_mem_cons.2 ⟨qql n G hG,List.forall_mem_cons.2 ⟨juh n G hG,(fun _ h=>by cases h)⟩⟩⟩
def qtp:q0c:=[]
theorem ja5:drB qtp (q00 Tryz.f22)=true:=by kernel_rfl
theorem jb4 (n:Nat) : ∀a,(q3d n).F a=main Tryz.prog 48 (qtz n) (qnj n) qtp (q00 Tryz.f22) [.tmp 4] (q3d n).args (q3d n).res a:=by intro a;kernel_rfl
theorem qg5 (n:Nat):q0a Inv Tryz.prog (q3d n):=fun G hG=>⟨⟨by kernel_rfl,fun a r h=>q03 (c:=q00 Tryz.f22) Tryz.func22 (by kernel_rfl) (by kernel_rfl) (Nat.le_of_ble_eq_true (by kernel_rfl)) hG.st (by kernel_rfl) (rs:=[.tmp 4]) (by kernel_rfl) (j0e n hG) (lts:=qnj n) (fun F hF hFG=>have hK:Know Inv F.G:=hFG ▸ hG;(q02 fun j L h1 h2 h3=>absurd h2 (Nat.not_lt.2 (Nat.le_trans (by decide +kernel) h1)))) ja5 ((jb4 n a).symm.trans h)⟩,rfl⟩
end Go.Proofs.YtcdjkibiggjdoaaGreatDoor.AM
