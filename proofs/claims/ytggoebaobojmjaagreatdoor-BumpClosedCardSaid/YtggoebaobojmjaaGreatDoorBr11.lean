
import Derived.Test.YtggoebaobojmjaaGreatDoorBr10
namespace Go.Proofs.YtggoebaobojmjaaGreatDoor.AM
open Go.RowKit
set_option linter.unusedVariables false
set_option maxRecDepth 20000
def qfi (n:Nat):List LC:=[]
def q54 (n:Nat) (a1:List UInt8) (a2:List UInt8):Option (Bool) :=
 (bif decide (((List.length a2:Nat):Int)<=((List.length a1:Nat):Int)) then (qtj a1 (0:Int) ((List.length a2:Nat):Int)).bind fun (s1:List UInt8)=>some (decide (s1=a2)) else some false)
def q2t (n:Nat):FC:={ f:=142,args:=[.one (.c (.d .str)),.one (.c (.d .str))],res:=.one (.c (.d .bool)),F:=fun p=>q54 n p.1 p.2 }
def qig (n:Nat):List FC:=[]
theorem qqx (n:Nat) {G:World->Prop} (hG:Know Inv G) : ∀c∈qig n,q0v Tryz.prog G c/\q0d c.args=true:=(fun _ h=>by cases h)
def qhu:q0c:=[]
theorem qzt:drB qhu (q00 Tryz.f142)=true:=by kernel_rfl
theorem j1t (n:Nat) : ∀a,(q2t n).F a=main Tryz.prog 18 (qig n) (qfi n) qhu (q00 Tryz.f142) [.tmp 4] (q2t n).args (q2t n).res a:=by intro a;kernel_rfl
theorem qic (n:Nat):q0g Inv Tryz.prog (q2t n):=fun G hG=>⟨⟨by kernel_rfl,fun a r h=>q05 (c:=q00 Tryz.f142) Tryz.func142 (by kernel_rfl) (by kernel_rfl) (Nat.le_of_ble_eq_true (by kernel_rfl)) hG.st (by kernel_rfl) (rs:=[.tmp 4]) (by kernel_rfl) (qqx n hG) (lts:=qfi n) (fun F hF hFG=>have hK:Know Inv F.G:=hFG ▸ hG;(q02 fun j L h1 h2 h3=>absurd h2 (Nat.not_lt.2 (Nat.le_trans (by decide +kernel) h1)))) qzt ((j1t n a).symm.trans h)⟩,rfl⟩
def qc5 (n:Nat):List LC:=[]
def qaz (n:Nat) (a1:List UInt8) (a2:List UInt8):Option (List UInt8) :=
 (q54 n a1 a2).bind fun (r1:Bool)=>(bif r1 then (qtj a1 ((List.length a2:Nat):Int) ((List.length a1:Nat):Int)).bind fun (s2:List UInt8)=>some s2 else some a1)
def q30 (n:Nat):FC:={ f:=123,args:=[.one (.c (.d .str)),.one (.c (.d .str))],res:=.one (.c (.d .str)),F:=fun p=>qaz n p.1 p.2 }
def qf7 (n:Nat):List FC:=[q2t n]
theorem qop (n:Nat) {G:World->Prop} (hG:Know Inv G) : ∀c∈qf7 n,q0v Tryz.prog G c/\q0d c.args=true:=List.forall_mem_cons.2 ⟨qic n G hG,(fun _ h=>by cases h)⟩
def qfg:q0c:=[]
theorem qvh:drB qfg (q00 Tryz.f123)=true:=by kernel_rfl
theorem qvq (n:Nat) : ∀a,(q30 n).F a=main Tryz.prog 13 (qf7 n) (qc5 n) qfg (q00 Tryz.f123) [.tmp 4] (q30 n).args (q30 n).res a:=by intro a;kernel_rfl
theorem qvo (n:Nat):q0g Inv Tryz.prog (q30 n):=fun G hG=>⟨⟨by kernel_rfl,fun a r h=>q05 (c:=q00 Tryz.f123) Tryz.func123 (by kernel_rfl) (by kernel_rfl) (Nat.le_of_ble_eq_true (by kernel_rfl)) hG.st (by kernel_rfl) (rs:=[.tmp 4]) (by kernel_rfl) (qop n hG) (lts:=qc5 n) (fun F hF hFG=>have hK:Know Inv F.G:=hFG ▸ hG;(q02 fun j L h1 h2 h3=>absurd h2 (Nat.not_lt.2 (Nat.le_trans (by decide +kernel) h1)))) qvh ((qvq n a).symm.trans h)⟩,rfl⟩
def qf8 (n:Nat):List LC:=[]
def qc4 (n:Nat) (a1:List UInt8) (a2:List UInt8):Option (List UInt8) :=
 (qaz n a1 a2).bind fun (r1:List UInt8)=>some r1
def q5v (n:Nat):FC:={ f:=94,args:=[.one (.c (.d .str)),.one (.c (.d .str))],res:=.one (.c (.d .str)),F:=fun p=>qc4 n p.1 p.2 }
def qjh (n:Nat):List FC:=[q30 n]
theorem qu3 (n:Nat) {G:World->Prop} (hG:Know Inv G) : ∀c∈qjh n,q0v Tryz.prog G c/\q0d c.args=true:=List.forall_mem_cons.2 ⟨qvo n G hG,(fun _ h=>by cases h)⟩
def qjm:q0c:=[]
theorem j1r:drB qjm (q00 Tryz.f94)=true:=by kernel_rfl
theorem qzg (n:Nat) : ∀a,(q5v n).F a=main Tryz.prog 8 (qjh n) (qf8 n) qjm (q00 Tryz.f94) [.tmp 4] (q5v n).args (q5v n).res a:=by intro a;kernel_rfl
theorem qzx (n:Nat):q0g Inv Tryz.prog (q5v n):=fun G hG=>⟨⟨by kernel_rfl,fun a r h=>q05 (c:=q00 Tryz.f94) Tryz.func94 (by kernel_rfl) (by kernel_rfl) (Nat.le_of_ble_eq_true (by kernel_rfl)) hG.st (by kernel_rfl) (rs:=[.tmp 4]) (by kernel_rfl) (qu3 n hG) (lts:=qf8 n) (fun F hF hFG=>have hK:Know Inv F.G:=hFG ▸ hG;(q02 fun j L h1 h2 h3=>absurd h2 (Nat.not_lt.2 (Nat.le_trans (by decide +kernel) h1)))) j1r ((qzg n a).symm.trans h)⟩,rfl⟩
def j4o (n:Nat):List LC:=[]
def j05 (n:Nat) (a1:Int):Option (Bool) :=
 some (!decide (a1=a1))
def qio (n:Nat):FC:={ f:=128,args:=[.one (.c (.d (.int .i64)))],res:=.one (.c (.d .bool)),F:=fun p=>j05 n p }
def jfh (n:Nat):List FC:=[]
theorem jj0 (n:Nat) {G:World->Prop} (hG:Know Inv G) : ∀c∈jfh n,q0v Tryz.prog G c/\q0d c.args=true:=(fun _ h=>by cases h)
def jgf:q0c:=[]
theorem js8:drB jgf (q00 Tryz.f128)=true:=by kernel_rfl
theorem jtm (n:Nat) : ∀a,(qio n).F a=main Tryz.prog 6 (jfh n) (j4o n) jgf (q00 Tryz.f128) [.tmp 2] (qio n).args (qio n).res a:=by intro a;kernel_rfl
theorem jr3 (n:Nat):q0g Inv Tryz.prog (qio n):=fun G hG=>⟨⟨by kernel_rfl,fun a r h=>q05 (c:=q00 Tryz.f128) Tryz.func128 (by kernel_rfl) (by kernel_rfl) (Nat.le_of_ble_eq_true (by kernel_rfl)) hG.st (by kernel_rfl) (rs:=[.tmp 2]) (by kernel_rfl) (jj0 n hG) (lts:=j4o n) (fun F hF hFG=>have hK:Know Inv F.G:=hFG ▸ hG;(q02 fun j L h1 h2 h3=>absurd h2 (Nat.not_lt.2 (Nat.le_trans (by decide +kernel) h1)))) js8 ((jtm n a).symm.trans h)⟩,rfl⟩
def qws (n:Nat):List LC:=[]
def qax (n:Nat) (a1:Int) (a2:Int):Option (Int) :=
 (j05 n a1).bind fun (r1:Bool)=>(j05 n a2).bind fun (r2:Bool)=>(bif r1 then (bif r2 then some (0:Int) else some (-1:Int)) else (bif r2 then some (1:Int) else (bif decide (a1<a2) then some (-1:Int) else (bif decide (a2<a1) then some (1:Int) else some (0:Int)))))
def q9h (n:Nat):FC:={ f:=99,args:=[.one (.c (.d (.int .i64))),.one (.c (.d (.int .i64)))],res:=.one (.c (.d (.int .i64))),F:=fun p=>qax n p.1 p.2 }
def j40 (n:Nat):List FC:=[qio n]
theorem j83 (n:Nat) {G:World->Prop} (hG:Know Inv G) : ∀c∈j40 n,q0v Tryz.prog G c/\q0d c.args=true:=List.forall_mem_cons.2 ⟨jr3 n G hG,(fun _ h=>by cases h)⟩
def j7b:q0c:=[]
theorem job:drB j7b (q00 Tryz.f99)=true:=by kernel_rfl
theorem jnd (n:Nat) : ∀a,(q9h n).F a=main Tryz.prog 20 (j40 n) (qws n) j7b (q00 Tryz.f99) [.tmp 4] (q9h n).args (q9h n).res a:=by intro a;kernel_rfl
theorem j5e (n:Nat):q0g Inv Tryz.prog (q9h n):=fun G hG=>⟨⟨by kernel_rfl,fun a r h=>q05 (c:=q00 Tryz.f99) Tryz.func99 (by kernel_rfl) (by kernel_rfl) (Nat.le_of_ble_eq_true (by kernel_rfl)) hG.st (by kernel_rfl) (rs:=[.tmp 4]) (by kernel_rfl) (j83 n hG) (lts:=qws n) (fun F hF hFG=>have hK:Know Inv F.G:=hFG ▸ hG;(q02 fun j L h1 h2 h3=>absurd h2 (Nat.not_lt.2 (Nat.le_trans (by decide +kernel) h1)))) job ((jnd n a).symm.trans h)⟩,rfl⟩
@[reducible] def qi2:SSt:=⟨[(3,.one (.c (.d (.int .i64)))),(6,.one (.c (.d (.lst (.int .i64))))),(7,.one (.c (.d (.int .i64)))),(8,.one (.c (.d (.int .i64))))],[],[]⟩
@[reducible] def qbb:List (Exit×SSt):=[(.ret,⟨[(2,.one (.c (.d (.int .i64))))],[],[]⟩),(.exit 0,⟨[(3,.one (.c (.d (.int .i64))))],[],[]⟩)]
def qzb (n:Nat) (rec:Int->(List (Int))->Int->Int->Option (((Int×(Unit))×(Unit)×(Unit))⊕((Int×(Unit))×(Unit)×(Unit)))) (a1:Int) (a2:List (Int)) (a3:Int) (a4:Int):Option (((Int×(Unit))×(Unit)×(Unit))⊕((Int×(Unit))×(Unit)×(Unit))) :=
 (bif decide (a4<a3) then (q0x a2 a4).bind fun (x1:Int)=>(bif !decide (x1=a1) then some (Sum.inl ((x1,()),((),()))) else q0e (IntKind.wrap .i64 (a4+(1:Int))) fun (n2:Int)=>rec a1 a2 a3 n2) else some (Sum.inr (((a1,()),((),())))))
def qzz (n:Nat) (rec:pSt qi2->Option (q08 qbb)) (p:pSt qi2):Option (q08 qbb):=qzb n (fun a1 a2 a3 a4=>rec ((a1,(a2,(a3,(a4,())))),((),()))) p.1.1 p.1.2.1 p.1.2.2.1 p.1.2.2.2.1
def qb0 (n m:Nat) (a1:Int) (a2:List (Int)) (a3:Int) (a4:Int):Option (((Int×(Unit))×(Unit)×(Unit))⊕((Int×(Unit))×(Unit)×(Unit))):=q0a (qzz n) m ((a1,(a2,(a3,(a4,())))),((),()))
theorem qor (n m:Nat) (a1:Int) (a2:List (Int)) (a3:Int) (a4:Int):qb0 n (m+1) a1 a2 a3 a4=qzb n (fun a1 a2 a3 a4=>qb0 n m a1 a2 a3 a4) a1 a2 a3 a4:=rfl
def jg2 (n:Nat):LC:={ sh:=qi2,outs:=qbb,F:=q0a (qzz n) n }
def qu5 (n:Nat):List LC:=[jg2 n]
def qsh (n:Nat) (a1:List (Int)):Option (Int) :=
 (qb0 n n (0:Int) a1 ((List.length a1:Nat):Int) (0:Int)).bind fun (o3:((Int×(Unit))×(Unit)×(Unit))⊕((Int×(Unit))×(Unit)×(Unit)))=>Sum.elim (fun (q4:(Int×(Unit))×(Unit)×(Unit))=>some q4.1.1) (fun (q5:(Int×(Unit))×(Unit)×(Unit))=>some q5.1.1) o3
def qe9 (n:Nat):FC:={ f:=98,args:=[.one (.c (.d (.lst (.int .i64))))],res:=.one (.c (.d (.int .i64))),F:=fun p=>qsh n p }
def qzf (n:Nat):List FC:=[]
theorem qxa (n:Nat) {G:World->Prop} (hG:Know Inv G) : ∀c∈qzf n,q0v Tryz.prog G c/\q0d c.args=true:=(fun _ h=>by cases h)
def j1e:q0c:=[]
theorem jd1:drB j1e (q00 Tryz.f98)=true:=by kernel_rfl
theorem jkl (n:Nat) : ∀rec p,qzz n rec p=round Tryz.prog 18 (qzf n) (qu5 n) j1e 1 qi2 qbb (q01 0 0 (q00 Tryz.f98)) rec p:=by intro rec p;kernel_rfl
theorem jhy (n:Nat) {F:Fr} (hF:F.n=18) (hK:Know Inv F.G):q3k Tryz.prog F (jg2 n) (q01 0 0 (q00 Tryz.f98)) :=
 q0b hF (by kernel_rfl) (qxa n hK) (jkl n) (fuel:=n) (fun _=>rfl) (q02 fun j L h1 h2 h3=>absurd h2 (Nat.not_lt.2 (Nat.le_trans (by decide +kernel) h1))) (q0h jd1)
theorem jr4 (n:Nat) : ∀a,(qe9 n).F a=main Tryz.prog 18 (qzf n) (qu5 n) j1e (q00 Tryz.f98) [.tmp 2] (qe9 n).args (qe9 n).res a:=by intro a;kernel_rfl
theorem jeo (n:Nat):q0g Inv Tryz.prog (qe9 n):=fun G hG=>⟨⟨by kernel_rfl,fun a r h=>q05 (c:=q00 Tryz.f98) Tryz.func98 (by kernel_rfl) (by kernel_rfl) (Nat.le_of_ble_eq_true (by kernel_rfl)) hG.st (by kernel_rfl) (rs:=[.tmp 2]) (by kernel_rfl) (qxa n hG) (lts:=qu5 n) (fun F hF hFG=>have hK:Know Inv F.G:=hFG ▸ hG;(q02 (c:=(q00 Tryz.f98)) (fun j L h1 h2 h3=>by
  have h2':j<1:=Nat.lt_of_lt_of_le h2 (by decide +kernel)
  match j,h1,h2',h3 with
  | 0,_,_,h3=>obtain rfl:=Option.some.inj h3;exact (show q01 0 0 (q00 Tryz.f98)=q01 0 0 (q00 Tryz.f98) by kernel_rfl) ▸ jhy n hF hK
  | j+1,_,h2',_=>exact absurd h2' (by omega)))) jd1 ((jr4 n a).symm.trans h)⟩,rfl⟩
@[reducible] def qec:SSt:=⟨[(1,.one (.c (.box 1 0))),(11,.one (.agg [.d (.int .i64),.d (.int .i64),.d (.int .i64)])),(12,.one (.c (.d (.int .i64))))],[(1,(26,[.d (.int .i64),.d (.int .i64),.d (.int .i64),.d .str,.d .str]))],[]⟩
@[reducible] def q7p:List (Exit×SSt):=[(.ret,⟨[(2,.one (.c (.d .bool)))],[],[]⟩),(.exit 0,⟨[(1,.one (.c (.box 1 0)))],[(1,(26,[.d (.int .i64),.d (.int .i64),.d (.int .i64),.d .str,.d .str]))],[]⟩)]
def qi3 (n:Nat) (rec:Int->Int->Int->Int->Int->Int->Int->(List UInt8)->(List UInt8)->Option (((Bool×(Unit))×(Unit)×(Unit))⊕((Unit×(Unit))×((Int×(Int×(Int×((List UInt8)×(List UInt8)))))×(Unit))×(Unit)))) (a1:Int) (a2:Int) (a3:Int) (a4:Int) (a5:Int) (a6:Int) (a7:Int) (a8:List UInt8) (a9:List UInt8):Option (((Bool×(Unit))×(Unit)×(Unit))⊕((Unit×(Unit))×((Int×(Int×(Int×((List UInt8)×(List UInt8)))))×(Unit))×(Unit))) :=
 (bif decide (a4<(3:Int)) then (q0x ([a1,a2,a3]:List (Int)) a4).bind fun (x1:Int)=>(bif decide (x1<(0:Int)) then some (Sum.inl ((false,()),((),()))) else (bif decide ((999999999:Int)<x1) then some (Sum.inl ((false,()),((),()))) else q0e (IntKind.wrap .i64 (a4+(1:Int))) fun (n2:Int)=>rec a1 a2 a3 n2 a5 a6 a7 a8 a9)) else some (Sum.inr ((((),()),(((a5,(a6,(a7,(a8,a9)))),()),())))))
def qte (n:Nat) (rec:pSt qec->Option (q08 q7p)) (p:pSt qec):Option (q08 q7p):=qi3 n (fun a1 a2 a3 a4 a5 a6 a7 a8 a9=>rec (((),((a1,(a2,a3)),(a4,()))),(((a5,(a6,(a7,(a8,a9)))),()),()))) p.1.2.1.1 p.1.2.1.2.1 p.1.2.1.2.2 p.1.2.2.1 p.2.1.1.1 p.2.1.1.2.1 p.2.1.1.2.2.1 p.2.1.1.2.2.2.1 p.2.1.1.2.2.2.2
def q51 (n m:Nat) (a1:Int) (a2:Int) (a3:Int) (a4:Int) (a5:Int) (a6:Int) (a7:Int) (a8:List UInt8) (a9:List UInt8):Option (((Bool×(Unit))×(Unit)×(Unit))⊕((Unit×(Unit))×((Int×(Int×(Int×((List UInt8)×(List UInt8)))))×(Unit))×(Unit))):=q0a (qte n) m (((),((a1,(a2,a3)),(a4,()))),(((a5,(a6,(a7,(a8,a9)))),()),()))
theorem q9i (n m:Nat) (a1:Int) (a2:Int) (a3:Int) (a4:Int) (a5:Int) (a6:Int) (a7:Int) (a8:List UInt8) (a9:List UInt8):q51 n (m+1) a1 a2 a3 a4 a5 a6 a7 a8 a9=qi3 n (fun a1 a2 a3 a4 a5 a6 a7 a8 a9=>q51 n m a1 a2 a3 a4 a5 a6 a7 a8 a9) a1 a2 a3 a4 a5 a6 a7 a8 a9:=rfl
def j3o (n:Nat):LC:={ sh:=qec,outs:=q7p,F:=q0a (qte n) n }
def qkk (n:Nat):List LC:=[j3o n]
def q7m (n:Nat) (a1:Int×(Int×(Int×((List UInt8)×(List UInt8))))):Option (Bool) :=
 (q51 n n a1.1 a1.2.1 a1.2.2.1 (0:Int) a1.1 a1.2.1 a1.2.2.1 a1.2.2.2.1 a1.2.2.2.2).bind fun (o3:((Bool×(Unit))×(Unit)×(Unit))⊕((Unit×(Unit))×((Int×(Int×(Int×((List UInt8)×(List UInt8)))))×(Unit))×(Unit)))=>Sum.elim (fun (q4:(Bool×(Unit))×(Unit)×(Unit))=>some q4.1.1) (fun (q5:(Unit×(Unit))×((Int×(Int×(Int×((List UInt8)×(List UInt8)))))×(Unit))×(Unit))=>(qrf q5.2.1.1.2.2.2.1 ()).bind fun (r6:Bool)=>(bif r6 then (qkd q5.2.1.1.2.2.2.2 ()).bind fun (r7:Bool)=>some r7 else some false)) o3
def q4x (n:Nat):FC:={ f:=67,args:=[.one (.agg [.d (.int .i64),.d (.int .i64),.d (.int .i64),.d .str,.d .str])],res:=.one (.c (.d .bool)),F:=fun p=>q7m n p }
def qug (n:Nat):List FC:=[qwk,qqm]
theorem qsv (n:Nat) {G:World->Prop} (hG:Know Inv G) : ∀c∈qug n,q0v Tryz.prog G c/\q0d c.args=true:=List.forall_mem_cons.2 ⟨jgu G hG,List.forall_mem_cons.2 ⟨j80 G hG,(fun _ h=>by cases h)⟩⟩
def qtw:q0c:=[]
theorem j5o:drB qtw (q00 Tryz.f67)=true:=by kernel_rfl
theorem jjs (n:Nat) : ∀rec p,qte n rec p=round Tryz.prog 30 (qug n) (qkk n) qtw 1 qec q7p (q01 0 0 (q00 Tryz.f67)) rec p:=by intro rec p;kernel_rfl
theorem jad (n:Nat) {F:Fr} (hF:F.n=30) (hK:Know Inv F.G):q3k Tryz.prog F (j3o n) (q01 0 0 (q00 Tryz.f67)) :=
 q0b hF (by kernel_rfl) (qsv n hK) (jjs n) (fuel:=n) (fun _=>rfl) (q02 fun j L h1 h2 h3=>absurd h2 (Nat.not_lt.2 (Nat.le_trans (by decide +kernel) h1))) (q0h j5o)
theorem jmw (n:Nat) : ∀a,(q4x n).F a=main Tryz.prog 30 (qug n) (qkk n) qtw (q00 Tryz.f67) [.tmp 2] (q4x n).args (q4x n).res a:=by intro a;kernel_rfl
theorem qj6 (n:Nat):q0g Inv Tryz.prog (q4x n):=fun G hG=>⟨⟨by kernel_rfl,fun a r h=>q05 (c:=q00 Tryz.f67) Tryz.func67 (by kernel_rfl) (by kernel_rfl) (Nat.le_of_ble_eq_true (by kernel_rfl)) hG.st (by kernel_rfl) (rs:=[.tmp 2]) (by kernel_rfl) (qsv n hG) (lts:=qkk n) (fun F hF hFG=>have hK:Know Inv F.G:=hFG ▸ hG;(q02 (c:=(q00 Tryz.f67)) (fun j L h1 h2 h3=>by
  have h2':j<1:=Nat.lt_of_lt_of_le h2 (by decide +kernel)
  match j,h1,h2',h3 with
  | 0,_,_,h3=>obtain rfl:=Option.some.inj h3;exact (show q01 0 0 (q00 Tryz.f67)=q01 0 0 (q00 Tryz.f67) by kernel_rfl) ▸ jad n hF hK
  | j+1,_,h2',_=>exact absurd h2' (by omega)))) j5o ((jmw n a).symm.trans h)⟩,rfl⟩
def qx0 (n:Nat):List LC:=[]
def qk5 (n:Nat) (a1:Int×(Int×(Int×((List UInt8)×(List UInt8))))) (a2:Int):Option (Int×(Int×(Int×((List UInt8)×(List UInt8))))) :=
 (bif decide (a2=(3:Int)) then some (a1.1,((0:Int),((0:Int),a1.2.2.2))) else (bif decide (a2=(2:Int)) then some (a1.1,(a1.2.1,((0:Int),a1.2.2.2))) else some a1))
def qc0 (n:Nat):FC:={ f:=104,args:=[.one (.agg [.d (.int .i64),.d (.int .i64),.d (.int .i64),.d .str,.d .str]),.one (.c (.d (.int .i64)))],res:=.one (.agg [.d (.int .i64),.d (.int .i64),.d (.int .i64),.d .str,.d .str]),F:=fun p=>qk5 n p.1 p.2 }
def j6t (n:Nat):List FC:=[]
theorem j9e (n:Nat) {G:World->Prop} (hG:Know Inv G) : ∀c∈j6t n,q0v Tryz.prog G c/\q0d c.args=true:=(fun _ h=>by cases h)
def j3c:q0c:=[]
theorem jka:drB j3c (q00 Tryz.f104)=true:=by kernel_rfl
theorem jll (n:Nat) : ∀a,(qc0 n).F a=main Tryz.prog 13 (j6t n) (qx0 n) j3c (q00 Tryz.f104) [.cell 4 26] (qc0 n).args (qc0 n).res a:=by intro a;kernel_rfl
theorem jny (n:Nat):q0g Inv Tryz.prog (qc0 n):=fun G hG=>⟨⟨by kernel_rfl,fun a r h=>q05 (c:=q00 Tryz.f104) Tryz.func104 (by kernel_rfl) (by kernel_rfl) (Nat.le_of_ble_eq_true (by kernel_rfl)) hG.st (by kernel_rfl) (rs:=[.cell 4 26]) (by kernel_rfl) (j9e n hG) (lts:=qx0 n) (fun F hF hFG=>have hK:Know Inv F.G:=hFG ▸ hG;(q02 fun j L h1 h2 h3=>absurd h2 (Nat.not_lt.2 (Nat.le_trans (by decide +kernel) h1)))) jka ((jll n a).symm.trans h)⟩,rfl⟩
def j5y (n:Nat):List LC:=[]
def qyy (n:Nat) (a1:List UInt8) (a2:List UInt8):Option (Int) :=
 (q6k n a1).bind fun (r1:Bool)=>(q6k n a2).bind fun (r2:Bool)=>(bif r1 then (bif r2 then (qax n ((List.length a1:Nat):Int) ((List.length a2:Nat):Int)).bind fun (r3:Int)=>(qjy a1 a2).bind fun (r4:Int)=>(qsh n ([r3,r4]:List (Int))).bind fun (r5:Int)=>some r5 else (bif r1 then some (-1:Int) else (bif r2 then some (1:Int) else (qjy a1 a2).bind fun (r6:Int)=>some r6))) else (bif r1 then some (-1:Int) else (bif r2 then some (1:Int) else (qjy a1 a2).bind fun (r7:Int)=>some r7)))
def qjw (n:Nat):FC:={ f:=131,args:=[.one (.c (.d .str)),.one (.c (.d .str))],res:=.one (.c (.d (.int .i64))),F:=fun p=>qyy n p.1 p.2 }
def jfe (n:Nat):List FC:=[q47 n,q9h n,qwi,qe9 n]
theorem jji (n:Nat) {G:World->Prop} (hG:Know Inv G) : ∀c∈jfe n,q0v Tryz.prog G c/\q0d c.args=true:=List.forall_mem_cons.2 ⟨qse n G hG,List.forall_mem_cons.2 ⟨j5e n G hG,List.forall_mem_cons.2 ⟨jhf G hG,List.forall_mem_cons.2 ⟨jeo n G hG,(fun _ h=>by cases h)⟩⟩⟩⟩
def jew:q0c:=[]
theorem jte:drB jew (q00 Tryz.f131)=true:=by kernel_rfl
theorem juh (n:Nat) : ∀a,(qjw n).F a=main Tryz.prog 33 (jfe n) (j5y n) jew (q00 Tryz.f131) [.tmp 4] (qjw n).args (qjw n).res a:=by intro a;kernel_rfl
theorem jsv (n:Nat):q0g Inv Tryz.prog (qjw n):=fun G hG=>⟨⟨by kernel_rfl,fun a r h=>q05 (c:=q00 Tryz.f131) Tryz.func131 (by kernel_rfl) (by kernel_rfl) (Nat.le_of_ble_eq_true (by kernel_rfl)) hG.st (by kernel_rfl) (rs:=[.tmp 4]) (by kernel_rfl) (jji n hG) (lts:=j5y n) (fun F hF hFG=>have hK:Know Inv F.G:=hFG ▸ hG;(q02 fun j L h1 h2 h3=>absurd h2 (Nat.not_lt.2 (Nat.le_trans (by decide +kernel) h1)))) jte ((juh n a).symm.trans h)⟩,rfl⟩
@[reducible] def qat:SSt:=⟨[(0,.one (.c (.d (.lst .str)))),(1,.one (.c (.d (.lst .str)))),(2,.one (.c (.fn 131 []))),(11,.one (.c (.d (.lst .str)))),(12,.one (.c (.d (.int .i64)))),(13,.one (.c (.d (.int .i64))))],[],[]⟩
@[reducible] def q6g:List (Exit×SSt):=[(.ret,⟨[(6,.one (.c (.d (.int .i64))))],[],[]⟩),(.exit 0,⟨[(0,.one (.c (.d (.lst .str)))),(1,.one (.c (.d (.lst .str))))],[],[]⟩)]
def qlr (n:Nat) (rec:(List (List UInt8))->(List (List UInt8))->(List (List UInt8))->Int->Int->Option (((Int×(Unit))×(Unit)×(Unit))⊕(((List (List UInt8))×((List (List UInt8))×(Unit)))×(Unit)×(Unit)))) (a1:List (List UInt8)) (a2:List (List UInt8)) (a3:List (List UInt8)) (a4:Int) (a5:Int):Option (((Int×(Unit))×(Unit)×(Unit))⊕(((List (List UInt8))×((List (List UInt8))×(Unit)))×(Unit)×(Unit))) :=
 (bif decide (a5<a4) then (q0x a3 a5).bind fun (x1:List UInt8)=>(bif decide (((List.length a2:Nat):Int)<=a5) then some (Sum.inl (((1:Int),()),((),()))) else (q0x a2 a5).bind fun (x2:List UInt8)=>(qyy n x1 x2).bind fun (r3:Int)=>(bif !decide (r3=(0:Int)) then some (Sum.inl ((r3,()),((),()))) else q0e (IntKind.wrap .i64 (a5+(1:Int))) fun (n4:Int)=>rec a1 a2 a3 a4 n4)) else some (Sum.inr (((a1,(a2,())),((),())))))
def qmr (n:Nat) (rec:pSt qat->Option (q08 q6g)) (p:pSt qat):Option (q08 q6g):=qlr n (fun a1 a2 a3 a4 a5=>rec ((a1,(a2,((),(a3,(a4,(a5,())))))),((),()))) p.1.1 p.1.2.1 p.1.2.2.2.1 p.1.2.2.2.2.1 p.1.2.2.2.2.2.1
def q6d (n m:Nat) (a1:List (List UInt8)) (a2:List (List UInt8)) (a3:List (List UInt8)) (a4:Int) (a5:Int):Option (((Int×(Unit))×(Unit)×(Unit))⊕(((List (List UInt8))×((List (List UInt8))×(Unit)))×(Unit)×(Unit))):=q0a (qmr n) m ((a1,(a2,((),(a3,(a4,(a5,())))))),((),()))
theorem qiw (n m:Nat) (a1:List (List UInt8)) (a2:List (List UInt8)) (a3:List (List UInt8)) (a4:Int) (a5:Int):q6d n (m+1) a1 a2 a3 a4 a5=qlr n (fun a1 a2 a3 a4 a5=>q6d n m a1 a2 a3 a4 a5) a1 a2 a3 a4 a5:=rfl
def qwr (n:Nat):LC:={ sh:=qat,outs:=q6g,F:=q0a (qmr n) n }
def qgc (n:Nat):List LC:=[qwr n]
def que (n:Nat) (a1:List (List UInt8)) (a2:List (List UInt8)) (a3:Unit):Option (Int) :=
 (q6d n n a1 a2 a1 ((List.length a1:Nat):Int) (0:Int)).bind fun (o5:((Int×(Unit))×(Unit)×(Unit))⊕(((List (List UInt8))×((List (List UInt8))×(Unit)))×(Unit)×(Unit)))=>Sum.elim (fun (q6:(Int×(Unit))×(Unit)×(Unit))=>some q6.1.1) (fun (q7:((List (List UInt8))×((List (List UInt8))×(Unit)))×(Unit)×(Unit))=>(bif decide (((List.length q7.1.1:Nat):Int)<((List.length q7.1.2.1:Nat):Int)) then some (-1:Int) else some (0:Int))) o5
def q9r (n:Nat):FC:={ f:=129,args:=[.one (.c (.d (.lst .str))),.one (.c (.d (.lst .str))),.one (.c (.fn 131 []))],res:=.one (.c (.d (.int .i64))),F:=fun p=>que n p.1 p.2.1 p.2.2 }
def qlc (n:Nat):List FC:=[qjw n]
theorem qo9 (n:Nat) {G:World->Prop} (hG:Know Inv G) : ∀c∈qlc n,q0v Tryz.prog G c/\q0d c.args=true:=List.forall_mem_cons.2 ⟨jsv n G hG,(fun _ h=>by cases h)⟩
def qld:q0c:=[]
theorem qyg:drB qld (q00 Tryz.f129)=true:=by kernel_rfl
theorem ja8 (n:Nat) : ∀rec p,qmr n rec p=round Tryz.prog 39 (qlc n) (qgc n) qld 1 qat q6g (q01 0 0 (q00 Tryz.f129)) rec p:=by intro rec p;kernel_rfl
theorem j6w (n:Nat) {F:Fr} (hF:F.n=39) (hK:Know Inv F.G):q3k Tryz.prog F (qwr n) (q01 0 0 (q00 Tryz.f129)) :=
 q0b hF (by kernel_rfl) (qo9 n hK) (ja8 n) (fuel:=n) (fun _=>rfl) (q02 fun j L h1 h2 h3=>absurd h2 (Nat.not_lt.2 (Nat.le_trans (by decide +kernel) h1))) (q0h qyg)
theorem jjp (n:Nat) : ∀a,(q9r n).F a=main Tryz.prog 39 (qlc n) (qgc n) qld (q00 Tryz.f129) [.tmp 6] (q9r n).args (q9r n).res a:=by intro a;kernel_rfl
theorem jjj (n:Nat):q0g Inv Tryz.prog (q9r n):=fun G hG=>⟨⟨by kernel_rfl,fun a r h=>q05 (c:=q00 Tryz.f129) Tryz.func129 (by kernel_rfl) (by kernel_rfl) (Nat.le_of_ble_eq_true (by kernel_rfl)) hG.st (by kernel_rfl) (rs:=[.tmp 6]) (by kernel_rfl) (qo9 n hG) (lts:=qgc n) (fun F hF hFG=>have hK:Know Inv F.G:=hFG ▸ hG;(q02 (c:=(q00 Tryz.f129)) (fun j L h1 h2 h3=>by
  have h2':j<1:=Nat.lt_of_lt_of_le h2 (by decide +kernel)
  match j,h1,h2',h3 with
  | 0,_,_,h3=>obtain rfl:=Option.some.inj h3;exact (show q01 0 0 (q00 Tryz.f129)=q01 0 0 (q00 Tryz.f129) by kernel_rfl) ▸ j6w n hF hK
  | j+1,_,h2',_=>exact absurd h2' (by omega)))) qyg ((jjp n a).symm.trans h)⟩,rfl⟩
def jgb (n:Nat):List LC:=[]
def jfz (n:Nat) (a1:List UInt8) (a2:List UInt8):Option (Int) :=
 (bif decide (a1=a2) then some (0:Int) else (bif decide (a1=([]:List UInt8)) then some (1:Int) else (bif decide (a2=([]:List UInt8)) then some (-1:Int) else (qg2 a1 ([46]:List UInt8)).bind fun (r1:List (List UInt8))=>(qg2 a2 ([46]:List UInt8)).bind fun (r2:List (List UInt8))=>(que n r1 r2 ()).bind fun (r3:Int)=>some r3)))
def qv0 (n:Nat):FC:={ f:=100,args:=[.one (.c (.d .str)),.one (.c (.d .str))],res:=.one (.c (.d (.int .i64))),F:=fun p=>jfz n p.1 p.2 }
def jq8 (n:Nat):List FC:=[jf0,q9r n]
theorem jmv (n:Nat) {G:World->Prop} (hG:Know Inv G) : ∀c∈jq8 n,q0v Tryz.prog G c/\q0d c.args=true:=List.forall_mem_cons.2 ⟨ju5 G hG,List.forall_mem_cons.2 ⟨jjj n G hG,(fun _ h=>by cases h)⟩⟩
def jn9:q0c:=[]
theorem jxl:drB jn9 (q00 Tryz.f100)=true:=by kernel_rfl
theorem jxg (n:Nat) : ∀a,(qv0 n).F a=main Tryz.prog 20 (jq8 n) (jgb n) jn9 (q00 Tryz.f100) [.tmp 4] (qv0 n).args (qv0 n).res a:=by intro a;kernel_rfl
theorem jwm (n:Nat):q0g Inv Tryz.prog (qv0 n):=fun G hG=>⟨⟨by kernel_rfl,fun a r h=>q05 (c:=q00 Tryz.f100) Tryz.func100 (by kernel_rfl) (by kernel_rfl) (Nat.le_of_ble_eq_true (by kernel_rfl)) hG.st (by kernel_rfl) (rs:=[.tmp 4]) (by kernel_rfl) (jmv n hG) (lts:=jgb n) (fun F hF hFG=>have hK:Know Inv F.G:=hFG ▸ hG;(q02 fun j L h1 h2 h3=>absurd h2 (Nat.not_lt.2 (Nat.le_trans (by decide +kernel) h1)))) jxl ((jxg n a).symm.trans h)⟩,rfl⟩
def qnn (n:Nat):List LC:=[]
def q6i (n:Nat) (a1:Int×(Int×(Int×((List UInt8)×(List UInt8))))) (a2:Int×(Int×(Int×((List UInt8)×(List UInt8))))):Option (Int) :=
 (q7m n a1).bind fun (r1:Bool)=>(bif !r1 then some (0:Int) else (q7m n a2).bind fun (r2:Bool)=>(bif !r2 then some (0:Int) else (qax n a1.1 a2.1).bind fun (r3:Int)=>(qax n a1.2.1 a2.2.1).bind fun (r4:Int)=>(qax n a1.2.2.1 a2.2.2.1).bind fun (r5:Int)=>(jfz n a1.2.2.2.1 a2.2.2.2.1).bind fun (r6:Int)=>(qsh n ([r3,r4,r5,r6]:List (Int))).bind fun (r7:Int)=>some r7))
def q49 (n:Nat):FC:={ f:=66,args:=[.one (.agg [.d (.int .i64),.d (.int .i64),.d (.int .i64),.d .str,.d .str]),.one (.agg [.d (.int .i64),.d (.int .i64),.d (.int .i64),.d .str,.d .str])],res:=.one (.c (.d (.int .i64))),F:=fun p=>q6i n p.1 p.2 }
def qtx (n:Nat):List FC:=[q4x n,q9h n,qv0 n,qe9 n]
theorem j1i (n:Nat) {G:World->Prop} (hG:Know Inv G) : ∀c∈qtx n,q0v Tryz.prog G c/\q0d c.args=true:=List.forall_mem_cons.2 ⟨qj6 n G hG,List.forall_mem_cons.2 ⟨j5e n G hG,List.forall_mem_cons.2 ⟨jwm n G hG,List.forall_mem_cons.2 ⟨jeo n G hG,(fun _ h=>by cases h)⟩⟩⟩⟩
def qsx:q0c:=[(3,[⟨3298534883520,2^39,0⟩,⟨26938034880640,2^42,1⟩,⟨211106232534528,2^45,0⟩,⟨1724034232353792,2^48,4⟩,⟨3137*2^42,2^51,15⟩,⟨108086391056892096,2^54,0⟩,⟨882705526964617344,2^57,32⟩,⟨6917529027641083392,2^60,0⟩,⟨56493153725735502848,2^63,128⟩,⟨3137*2^57,2^66,511⟩,⟨3541774862152233910464,2^69,0⟩,⟨28924494707576576934016,2^72,1024⟩,⟨226673591177742970258944,2^75,0⟩,⟨1851167661284900923769856,2^78,4096⟩,⟨3137*2^72,2^81,16383⟩,⟨116056878683004400771793088,2^84,0⟩,⟨947797842577869272969642112,2^87,32768⟩,⟨7427640235712281649394746880,2^90,0⟩,⟨60659061924983633470057088000,2^93,2^17⟩,⟨3137*2^87,2^96,524287⟩,⟨1724035306127361*2^51,5*2^99,1048575⟩,⟨53*2^99,2^102,2097151⟩,⟨5070602400912917605986812846080,4096,4194303⟩])]
theorem jc4:drB qsx (q00 Tryz.f66)=true:=by kernel_rfl
theorem j9l (n:Nat) : ∀a,(q49 n).F a=main Tryz.prog 35 (qtx n) (qnn n) qsx (q00 Tryz.f66) [.tmp 4] (q49 n).args (q49 n).res a:=by intro a;kernel_rfl
theorem qs5 (n:Nat):q0g Inv Tryz.prog (q49 n):=fun G hG=>⟨⟨by kernel_rfl,fun a r h=>q05 (c:=q00 Tryz.f66) Tryz.func66 (by kernel_rfl) (by kernel_rfl) (Nat.le_of_ble_eq_true (by kernel_rfl)) hG.st (by kernel_rfl) (rs:=[.tmp 4]) (by kernel_rfl) (j1i n hG) (lts:=qnn n) (fun F hF hFG=>have hK:Know Inv F.G:=hFG ▸ hG;(q02 fun j L h1 h2 h3=>absurd h2 (Nat.not_lt.2 (Nat.le_trans (by decide +kernel) h1)))) jc4 ((j9l n a).symm.trans h)⟩,rfl⟩
def j2x (n:Nat):List LC:=[]
def qzk (n:Nat) (a1:Int×(Int×(Int×((List UInt8)×(List UInt8))))) (a2:Int):Option ((Int×(Int×(Int×((List UInt8)×(List UInt8)))))×(Int)) :=
 (q7m n a1).bind fun (r1:Bool)=>(bif !r1 then some (((0:Int),((0:Int),((0:Int),(([]:List UInt8),([]:List UInt8))))),(1:Int)) else (bif decide (a2<(1:Int)) then some (((0:Int),((0:Int),((0:Int),(([]:List UInt8),([]:List UInt8))))),(1:Int)) else (bif decide ((3:Int)<a2) then some (((0:Int),((0:Int),((0:Int),(([]:List UInt8),([]:List UInt8))))),(1:Int)) else (qk5 n (a1.1,(a1.2.1,(a1.2.2.1,(([]:List UInt8),([]:List UInt8))))) a2).bind fun (r2:Int×(Int×(Int×((List UInt8)×(List UInt8)))))=>(q6i n r2 a1).bind fun (r3:Int)=>(bif decide ((0:Int)<r3) then some (r2,(0:Int)) else (bif decide (a2=(1:Int)) then (bif decide (a1.2.2.1<(999999999:Int)) then q0e (IntKind.wrap .i64 (a1.2.2.1+(1:Int))) fun (n4:Int)=>some ((a1.1,(a1.2.1,(n4,(([]:List UInt8),([]:List UInt8))))),(0:Int)) else (bif decide (a1.2.1<(999999999:Int)) then q0e (IntKind.wrap .i64 (a1.2.1+(1:Int))) fun (n5:Int)=>some ((a1.1,(n5,((0:Int),(([]:List UInt8),([]:List UInt8))))),(0:Int)) else (bif decide (a1.1<(999999999:Int)) then q0e (IntKind.wrap .i64 (a1.1+(1:Int))) fun (n6:Int)=>some ((n6,((0:Int),((0:Int),(([]:List UInt8),([]:List UInt8))))),(0:Int)) else some (((0:Int),((0:Int),((0:Int),(([]:List UInt8),([]:List UInt8))))),(15:Int))))) else (bif decide (a2=(2:Int)) then (bif decide (a1.2.1<(999999999:Int)) then q0e (IntKind.wrap .i64 (a1.2.1+(1:Int))) fun (n7:Int)=>some ((a1.1,(n7,((0:Int),(([]:List UInt8),([]:List UInt8))))),(0:Int)) else (bif decide (a1.1<(999999999:Int)) then q0e (IntKind.wrap .i64 (a1.1+(1:Int))) fun (n8:Int)=>some ((n8,((0:Int),((0:Int),(([]:List UInt8),([]:List UInt8))))),(0:Int)) else some (((0:Int),((0:Int),((0:Int),(([]:List UInt8),([]:List UInt8))))),(15:Int)))) else (bif decide (a2=(3:Int)) then (bif decide (a1.1<(999999999:Int)) then q0e (IntKind.wrap .i64 (a1.1+(1:Int))) fun (n9:Int)=>some ((n9,((0:Int),((0:Int),(([]:List UInt8),([]:List UInt8))))),(0:Int)) else some (((0:Int),((0:Int),((0:Int),(([]:List UInt8),([]:List UInt8))))),(15:Int))) else some (((0:Int),((0:Int),((0:Int),(([]:List UInt8),([]:List UInt8))))),(15:Int)))))))))
def qiu (n:Nat):FC:={ f:=68,args:=[.one (.agg [.d (.int .i64),.d (.int .i64),.d (.int .i64),.d .str,.d .str]),.one (.c (.d (.int .i64)))],res:=.tup [.agg [.d (.int .i64),.d (.int .i64),.d (.int .i64),.d .str,.d .str],.c (.d (.int .i64))],F:=fun p=>qzk n p.1 p.2 }
def jd8 (n:Nat):List FC:=[q4x n,qc0 n,q49 n]
theorem jim (n:Nat) {G:World->Prop} (hG:Know Inv G) : ∀c∈jd8 n,q0v Tryz.prog G c/\q0d c.args=true:=List.forall_mem_cons.2 ⟨qj6 n G hG,List.forall_mem_cons.2 ⟨jny n G hG,List.forall_mem_cons.2 ⟨qs5 n G hG,(fun _ h=>by cases h)⟩⟩⟩
def jd2:q0c:=[]
theorem jsn:drB jd2 (q00 Tryz.f68)=true:=by kernel_rfl
theorem jt0 (n:Nat) : ∀a,(qiu n).F a=main Tryz.prog 70 (jd8 n) (j2x n) jd2 (q00 Tryz.f68) [.cell 4 26,.tmp 5] (qiu n).args (qiu n).res a:=by intro a;kernel_rfl
theorem jua (n:Nat):q0g Inv Tryz.prog (qiu n):=fun G hG=>⟨⟨by kernel_rfl,fun a r h=>q05 (c:=q00 Tryz.f68) Tryz.func68 (by kernel_rfl) (by kernel_rfl) (Nat.le_of_ble_eq_true (by kernel_rfl)) hG.st (by kernel_rfl) (rs:=[.cell 4 26,.tmp 5]) (by kernel_rfl) (jim n hG) (lts:=j2x n) (fun F hF hFG=>have hK:Know Inv F.G:=hFG ▸ hG;(q02 fun j L h1 h2 h3=>absurd h2 (Nat.not_lt.2 (Nat.le_trans (by decide +kernel) h1)))) jsn ((jt0 n a).symm.trans h)⟩,rfl⟩
@[reducible] def qam:SSt:=⟨[(0,.one (.c (.d .str))),(1,.one (.c (.d (.int .u8)))),(5,.one (.c (.row 31))),(6,.one (.c (.d (.int .i64)))),(7,.one (.c (.d (.int .i64))))],[],[(31,⟨9,true,.str⟩)]⟩
@[reducible] def q68:List (Exit×SSt):=[(.exit 0,⟨[(5,.one (.c (.row 31)))],[],[(31,⟨9,true,.str⟩)]⟩)]
def qdu (n:Nat) (rec:(List UInt8)->Int->Int->Int->(List (List UInt8))->Option ((Unit×(Unit))×(Unit)×((List (List UInt8))×(Unit)))) (a1:List UInt8) (a2:Int) (a3:Int) (a4:Int) (a5:List (List UInt8)):Option ((Unit×(Unit))×(Unit)×((List (List UInt8))×(Unit))) :=
 (bif decide (a4<=((List.length a1:Nat):Int)) then (bif decide (a4=((List.length a1:Nat):Int)) then (qtj a1 a3 a4).bind fun (s1:List UInt8)=>(j0w 16 a5 ([s1]:List (List UInt8))).bind fun (l2:List (List UInt8))=>q0e (IntKind.wrap .i64 (a4+(1:Int))) fun (n3:Int)=>q0e (IntKind.wrap .i64 (a4+(1:Int))) fun (n4:Int)=>rec a1 a2 n3 n4 l2 else (sAt a1 a4).bind fun (c5:Int)=>(bif decide (c5=a2) then (qtj a1 a3 a4).bind fun (s6:List UInt8)=>(j0w 16 a5 ([s6]:List (List UInt8))).bind fun (l7:List (List UInt8))=>q0e (IntKind.wrap .i64 (a4+(1:Int))) fun (n8:Int)=>q0e (IntKind.wrap .i64 (a4+(1:Int))) fun (n9:Int)=>rec a1 a2 n8 n9 l7 else q0e (IntKind.wrap .i64 (a4+(1:Int))) fun (n10:Int)=>rec a1 a2 a3 n10 a5)) else some ((((),()),((),(a5,())))))
def qm9 (n:Nat) (rec:pSt qam->Option (q08 q68)) (p:pSt qam):Option (q08 q68):=qdu n (fun a1 a2 a3 a4 a5=>rec ((a1,(a2,((),(a3,(a4,()))))),((),(a5,())))) p.1.1 p.1.2.1 p.1.2.2.2.1 p.1.2.2.2.2.1 p.2.2.1
def q6e (n m:Nat) (a1:List UInt8) (a2:Int) (a3:Int) (a4:Int) (a5:List (List UInt8)):Option ((Unit×(Unit))×(Unit)×((List (List UInt8))×(Unit))):=q0a (qm9 n) m ((a1,(a2,((),(a3,(a4,()))))),((),(a5,())))
theorem q7n (n m:Nat) (a1:List UInt8) (a2:Int) (a3:Int) (a4:Int) (a5:List (List UInt8)):q6e n (m+1) a1 a2 a3 a4 a5=qdu n (fun a1 a2 a3 a4 a5=>q6e n m a1 a2 a3 a4 a5) a1 a2 a3 a4 a5:=rfl
def qyf (n:Nat):LC:={ sh:=qam,outs:=q68,F:=q0a (qm9 n) n }
def qfq (n:Nat):List LC:=[qyf n]
def q2a (n:Nat) (a1:List UInt8) (a2:Int):Option (List (List UInt8)) :=
 (q6e n n a1 a2 (0:Int) (0:Int) []).bind fun (o11:(Unit×(Unit))×(Unit)×((List (List UInt8))×(Unit)))=>some o11.2.2.1
def q2o (n:Nat):FC:={ f:=62,args:=[.one (.c (.d .str)),.one (.c (.d (.int .u8)))],res:=.one (.c (.d (.lst .str))),F:=fun p=>q2a n p.1 p.2 }
def ql2 (n:Nat):List FC:=[]
theorem qom (n:Nat) {G:World->Prop} (hG:Know Inv G) : ∀c∈ql2 n,q0v Tryz.prog G c/\q0d c.args=true:=(fun _ h=>by cases h)
def qkb:q0c:=[]
theorem qy2:drB qkb (q00 Tryz.f62)=true:=by kernel_rfl
theorem jbv (n:Nat) : ∀rec p,qm9 n rec p=round Tryz.prog 35 (ql2 n) (qfq n) qkb 1 qam q68 (q01 0 0 (q00 Tryz.f62)) rec p:=by intro rec p;kernel_rfl
theorem j3k (n:Nat) {F:Fr} (hF:F.n=35) (hK:Know Inv F.G):q3k Tryz.prog F (qyf n) (q01 0 0 (q00 Tryz.f62)) :=
 q0b hF (by kernel_rfl) (qom n hK) (jbv n) (fuel:=n) (fun _=>rfl) (q02 fun j L h1 h2 h3=>absurd h2 (Nat.not_lt.2 (Nat.le_trans (by decide +kernel) h1))) (q0h qy2)
theorem jhh (n:Nat) : ∀a,(q2o n).F a=main Tryz.prog 35 (ql2 n) (qfq n) qkb (q00 Tryz.f62) [.tmp 4] (q2o n).args (q2o n).res a:=by intro a;kernel_rfl
theorem q9w (n:Nat):q0g Inv Tryz.prog (q2o n):=fun G hG=>⟨⟨by kernel_rfl,fun a r h=>q05 (c:=q00 Tryz.f62) Tryz.func62 (by kernel_rfl) (by kernel_rfl) (Nat.le_of_ble_eq_true (by kernel_rfl)) hG.st (by kernel_rfl) (rs:=[.tmp 4]) (by kernel_rfl) (qom n hG) (lts:=qfq n) (fun F hF hFG=>have hK:Know Inv F.G:=hFG ▸ hG;(q02 (c:=(q00 Tryz.f62)) (fun j L h1 h2 h3=>by
  have h2':j<1:=Nat.lt_of_lt_of_le h2 (by decide +kernel)
  match j,h1,h2',h3 with
  | 0,_,_,h3=>obtain rfl:=Option.some.inj h3;exact (show q01 0 0 (q00 Tryz.f62)=q01 0 0 (q00 Tryz.f62) by kernel_rfl) ▸ j3k n hF hK
  | j+1,_,h2',_=>exact absurd h2' (by omega)))) qy2 ((jhh n a).symm.trans h)⟩,rfl⟩
@[reducible] def qap:SSt:=⟨[(0,.one (.c (.d .str))),(3,.one (.c (.d (.int .i64))))],[],[]⟩
@[reducible] def q5t:List (Exit×SSt):=[(.ret,⟨[(2,.one (.c (.d .bool)))],[],[]⟩),(.exit 0,⟨[(0,.one (.c (.d .str)))],[],[]⟩)]
def qly (n:Nat) (rec:(List UInt8)->Int->Option (((Bool×(Unit))×(Unit)×(Unit))⊕(((List UInt8)×(Unit))×(Unit)×(Unit)))) (a1:List UInt8) (a2:Int):Option (((Bool×(Unit))×(Unit)×(Unit))⊕(((List UInt8)×(Unit))×(Unit)×(Unit))) :=
 (bif decide (a2<((List.length a1:Nat):Int)) then (sAt a1 a2).bind fun (c1:Int)=>(bif decide (c1<(48:Int)) then some (Sum.inl ((false,()),((),()))) else (sAt a1 a2).bind fun (c2:Int)=>(bif decide ((57:Int)<c2) then some (Sum.inl ((false,()),((),()))) else q0e (IntKind.wrap .i64 (a2+(1:Int))) fun (n3:Int)=>rec a1 n3)) else some (Sum.inr (((a1,()),((),())))))
def qlq (n:Nat) (rec:pSt qap->Option (q08 q5t)) (p:pSt qap):Option (q08 q5t):=qly n (fun a1 a2=>rec ((a1,(a2,())),((),()))) p.1.1 p.1.2.1
def q6f (n m:Nat) (a1:List UInt8) (a2:Int):Option (((Bool×(Unit))×(Unit)×(Unit))⊕(((List UInt8)×(Unit))×(Unit)×(Unit))):=q0a (qlq n) m ((a1,(a2,())),((),()))
theorem qi7 (n m:Nat) (a1:List UInt8) (a2:Int):q6f n (m+1) a1 a2=qly n (fun a1 a2=>q6f n m a1 a2) a1 a2:=rfl
def qwy (n:Nat):LC:={ sh:=qap,outs:=q5t,F:=q0a (qlq n) n }
def qgr (n:Nat):List LC:=[qwy n]
def q9g (n:Nat) (a1:List UInt8):Option (Bool) :=
 (q6f n n a1 (0:Int)).bind fun (o4:((Bool×(Unit))×(Unit)×(Unit))⊕(((List UInt8)×(Unit))×(Unit)×(Unit)))=>Sum.elim (fun (q5:(Bool×(Unit))×(Unit)×(Unit))=>some q5.1.1) (fun (q6:((List UInt8)×(Unit))×(Unit)×(Unit))=>some (!decide (q6.1.1=([]:List UInt8)))) o4
def q6h (n:Nat):FC:={ f:=105,args:=[.one (.c (.d .str))],res:=.one (.c (.d .bool)),F:=fun p=>q9g n p }
def qlk (n:Nat):List FC:=[]
theorem qni (n:Nat) {G:World->Prop} (hG:Know Inv G) : ∀c∈qlk n,q0v Tryz.prog G c/\q0d c.args=true:=(fun _ h=>by cases h)
def ql8:q0c:=[]
theorem qxi:drB ql8 (q00 Tryz.f105)=true:=by kernel_rfl
theorem ja0 (n:Nat) : ∀rec p,qlq n rec p=round Tryz.prog 22 (qlk n) (qgr n) ql8 1 qap q5t (q01 0 0 (q00 Tryz.f105)) rec p:=by intro rec p;kernel_rfl
theorem j3j (n:Nat) {F:Fr} (hF:F.n=22) (hK:Know Inv F.G):q3k Tryz.prog F (qwy n) (q01 0 0 (q00 Tryz.f105)) :=
 q0b hF (by kernel_rfl) (qni n hK) (ja0 n) (fuel:=n) (fun _=>rfl) (q02 fun j L h1 h2 h3=>absurd h2 (Nat.not_lt.2 (Nat.le_trans (by decide +kernel) h1))) (q0h qxi)
theorem jhb (n:Nat) : ∀a,(q6h n).F a=main Tryz.prog 22 (qlk n) (qgr n) ql8 (q00 Tryz.f105) [.tmp 2] (q6h n).args (q6h n).res a:=by intro a;kernel_rfl
theorem qxx (n:Nat):q0g Inv Tryz.prog (q6h n):=fun G hG=>⟨⟨by kernel_rfl,fun a r h=>q05 (c:=q00 Tryz.f105) Tryz.func105 (by kernel_rfl) (by kernel_rfl) (Nat.le_of_ble_eq_true (by kernel_rfl)) hG.st (by kernel_rfl) (rs:=[.tmp 2]) (by kernel_rfl) (qni n hG) (lts:=qgr n) (fun F hF hFG=>have hK:Know Inv F.G:=hFG ▸ hG;(q02 (c:=(q00 Tryz.f105)) (fun j L h1 h2 h3=>by
  have h2':j<1:=Nat.lt_of_lt_of_le h2 (by decide +kernel)
  match j,h1,h2',h3 with
  | 0,_,_,h3=>obtain rfl:=Option.some.inj h3;exact (show q01 0 0 (q00 Tryz.f105)=q01 0 0 (q00 Tryz.f105) by kernel_rfl) ▸ j3j n hF hK
  | j+1,_,h2',_=>exact absurd h2' (by omega)))) qxi ((jhb n a).symm.trans h)⟩,rfl⟩
@[reducible] def qa2:SSt:=⟨[(1,.one (.c (.d .bool))),(5,.one (.c (.d (.lst .str)))),(6,.one (.c (.d (.int .i64)))),(7,.one (.c (.d (.int .i64))))],[],[]⟩
@[reducible] def q5y:List (Exit×SSt):=[(.ret,⟨[(4,.one (.c (.d .bool)))],[],[]⟩),(.exit 2,⟨[(1,.one (.c (.d .bool))),(5,.one (.c (.d (.lst .str)))),(6,.one (.c (.d (.int .i64))))],[],[]⟩)]
def qmo (n:Nat) (rec:Bool->(List (List UInt8))->Int->Int->Option (((Bool×(Unit))×(Unit)×(Unit))⊕((Bool×((List (List UInt8))×(Int×(Unit))))×(Unit)×(Unit)))) (a1:Bool) (a2:List (List UInt8)) (a3:Int) (a4:Int):Option (((Bool×(Unit))×(Unit)×(Unit))⊕((Bool×((List (List UInt8))×(Int×(Unit))))×(Unit)×(Unit))) :=
 (q0x a2 a3).bind fun (x2:List UInt8)=>(bif decide (a4<((List.length x2:Nat):Int)) then (q0x a2 a3).bind fun (x3:List UInt8)=>(sAt x3 a4).bind fun (c4:Int)=>(bif decide ((97:Int)<=c4) then (bif !(decide (c4<=(122:Int))) then (bif decide ((65:Int)<=c4) then (bif !(decide (c4<=(90:Int))) then (bif decide ((48:Int)<=c4) then (bif !(decide (c4<=(57:Int))) then (bif !decide (c4=(45:Int)) then some (Sum.inl ((false,()),((),()))) else q0e (IntKind.wrap .i64 (a4+(1:Int))) fun (n5:Int)=>rec a1 a2 a3 n5) else q0e (IntKind.wrap .i64 (a4+(1:Int))) fun (n6:Int)=>rec a1 a2 a3 n6) else (bif !decide (c4=(45:Int)) then some (Sum.inl ((false,()),((),()))) else q0e (IntKind.wrap .i64 (a4+(1:Int))) fun (n7:Int)=>rec a1 a2 a3 n7)) else q0e (IntKind.wrap .i64 (a4+(1:Int))) fun (n8:Int)=>rec a1 a2 a3 n8) else (bif decide ((48:Int)<=c4) then (bif !(decide (c4<=(57:Int))) then (bif !decide (c4=(45:Int)) then some (Sum.inl ((false,()),((),()))) else q0e (IntKind.wrap .i64 (a4+(1:Int))) fun (n9:Int)=>rec a1 a2 a3 n9) else q0e (IntKind.wrap .i64 (a4+(1:Int))) fun (n10:Int)=>rec a1 a2 a3 n10) else (bif !decide (c4=(45:Int)) then some (Sum.inl ((false,()),((),()))) else q0e (IntKind.wrap .i64 (a4+(1:Int))) fun (n11:Int)=>rec a1 a2 a3 n11))) else q0e (IntKind.wrap .i64 (a4+(1:Int))) fun (n12:Int)=>rec a1 a2 a3 n12) else (bif decide ((65:Int)<=c4) then (bif !(decide (c4<=(90:Int))) then (bif decide ((48:Int)<=c4) then (bif !(decide (c4<=(57:Int))) then (bif !decide (c4=(45:Int)) then some (Sum.inl ((false,()),((),()))) else q0e (IntKind.wrap .i64 (a4+(1:Int))) fun (n13:Int)=>rec a1 a2 a3 n13) else q0e (IntKind.wrap .i64 (a4+(1:Int))) fun (n14:Int)=>rec a1 a2 a3 n14) else (bif !decide (c4=(45:Int)) then some (Sum.inl ((false,()),((),()))) else q0e (IntKind.wrap .i64 (a4+(1:Int))) fun (n15:Int)=>rec a1 a2 a3 n15)) else q0e (IntKind.wrap .i64 (a4+(1:Int))) fun (n16:Int)=>rec a1 a2 a3 n16) else (bif decide ((48:Int)<=c4) then (bif !(decide (c4<=(57:Int))) then (bif !decide (c4=(45:Int)) then some (Sum.inl ((false,()),((),()))) else q0e (IntKind.wrap .i64 (a4+(1:Int))) fun (n17:Int)=>rec a1 a2 a3 n17) else q0e (IntKind.wrap .i64 (a4+(1:Int))) fun (n18:Int)=>rec a1 a2 a3 n18) else (bif !decide (c4=(45:Int)) then some (Sum.inl ((false,()),((),()))) else q0e (IntKind.wrap .i64 (a4+(1:Int))) fun (n19:Int)=>rec a1 a2 a3 n19)))) else some (Sum.inr (((a1,(a2,(a3,()))),((),())))))
def qkm (n:Nat) (rec:pSt qa2->Option (q08 q5y)) (p:pSt qa2):Option (q08 q5y):=qmo n (fun a1 a2 a3 a4=>rec ((a1,(a2,(a3,(a4,())))),((),()))) p.1.1 p.1.2.1 p.1.2.2.1 p.1.2.2.2.1
def q5r (n m:Nat) (a1:Bool) (a2:List (List UInt8)) (a3:Int) (a4:Int):Option (((Bool×(Unit))×(Unit)×(Unit))⊕((Bool×((List (List UInt8))×(Int×(Unit))))×(Unit)×(Unit))):=q0a (qkm n) m ((a1,(a2,(a3,(a4,())))),((),()))
theorem qji (n m:Nat) (a1:Bool) (a2:List (List UInt8)) (a3:Int) (a4:Int):q5r n (m+1) a1 a2 a3 a4=qmo n (fun a1 a2 a3 a4=>q5r n m a1 a2 a3 a4) a1 a2 a3 a4:=rfl
def qym (n:Nat):LC:={ sh:=qa2,outs:=q5y,F:=q0a (qkm n) n }
@[reducible] def qa5:SSt:=⟨[(1,.one (.c (.d .bool))),(5,.one (.c (.d (.lst .str)))),(6,.one (.c (.d (.int .i64))))],[],[]⟩
@[reducible] def q63:List (Exit×SSt):=[(.ret,⟨[(4,.one (.c (.d .bool)))],[],[]⟩),(.exit 0,⟨[],[],[]⟩)]
def qmx (n:Nat) (rec:Bool->(List (List UInt8))->Int->Option (((Bool×(Unit))×(Unit)×(Unit))⊕((Unit)×(Unit)×(Unit)))) (a1:Bool) (a2:List (List UInt8)) (a3:Int):Option (((Bool×(Unit))×(Unit)×(Unit))⊕((Unit)×(Unit)×(Unit))) :=
 (bif decide (a3<((List.length a2:Nat):Int)) then (q5r n n a1 a2 a3 (0:Int)).bind fun (o20:((Bool×(Unit))×(Unit)×(Unit))⊕((Bool×((List (List UInt8))×(Int×(Unit))))×(Unit)×(Unit)))=>Sum.elim (fun (q21:(Bool×(Unit))×(Unit)×(Unit))=>some (Sum.inl ((q21.1.1,()),((),())))) (fun (q22:(Bool×((List (List UInt8))×(Int×(Unit))))×(Unit)×(Unit))=>(q0x q22.1.2.1 q22.1.2.2.1).bind fun (x23:List UInt8)=>(bif decide (x23=([]:List UInt8)) then some (Sum.inl ((false,()),((),()))) else (bif !q22.1.1 then (q0x q22.1.2.1 q22.1.2.2.1).bind fun (x24:List UInt8)=>(q9g n x24).bind fun (r25:Bool)=>(bif r25 then (q0x q22.1.2.1 q22.1.2.2.1).bind fun (x26:List UInt8)=>(bif decide ((1:Int)<((List.length x26:Nat):Int)) then (q0x q22.1.2.1 q22.1.2.2.1).bind fun (x27:List UInt8)=>(sAt x27 (0:Int)).bind fun (c28:Int)=>(bif decide (c28=(48:Int)) then some (Sum.inl ((false,()),((),()))) else q0e (IntKind.wrap .i64 (q22.1.2.2.1+(1:Int))) fun (n29:Int)=>rec q22.1.1 q22.1.2.1 n29) else q0e (IntKind.wrap .i64 (q22.1.2.2.1+(1:Int))) fun (n30:Int)=>rec q22.1.1 q22.1.2.1 n30) else q0e (IntKind.wrap .i64 (q22.1.2.2.1+(1:Int))) fun (n31:Int)=>rec q22.1.1 q22.1.2.1 n31) else q0e (IntKind.wrap .i64 (q22.1.2.2.1+(1:Int))) fun (n32:Int)=>rec q22.1.1 q22.1.2.1 n32))) o20 else some (Sum.inr (((),((),())))))
def qm0 (n:Nat) (rec:pSt qa5->Option (q08 q63)) (p:pSt qa5):Option (q08 q63):=qmx n (fun a1 a2 a3=>rec ((a1,(a2,(a3,()))),((),()))) p.1.1 p.1.2.1 p.1.2.2.1
def q5s (n m:Nat) (a1:Bool) (a2:List (List UInt8)) (a3:Int):Option (((Bool×(Unit))×(Unit)×(Unit))⊕((Unit)×(Unit)×(Unit))):=q0a (qm0 n) m ((a1,(a2,(a3,()))),((),()))
theorem qid (n m:Nat) (a1:Bool) (a2:List (List UInt8)) (a3:Int):q5s n (m+1) a1 a2 a3=qmx n (fun a1 a2 a3=>q5s n m a1 a2 a3) a1 a2 a3:=rfl
def qyq (n:Nat):LC:={ sh:=qa5,outs:=q63,F:=q0a (qm0 n) n }
def qal (n:Nat):List LC:=[qyq n,qym n]
def qa0 (n:Nat) (a1:List UInt8) (a2:Bool):Option (Bool) :=
 (q2a n a1 (46:Int)).bind fun (r1:List (List UInt8))=>(q5s n n a2 r1 (0:Int)).bind fun (o33:((Bool×(Unit))×(Unit)×(Unit))⊕((Unit)×(Unit)×(Unit)))=>Sum.elim (fun (q34:(Bool×(Unit))×(Unit)×(Unit))=>some q34.1.1) (fun (q35:(Unit)×(Unit)×(Unit))=>some true) o33
def q9f (n:Nat):FC:={ f:=71,args:=[.one (.c (.d .str)),.one (.c (.d .bool))],res:=.one (.c (.d .bool)),F:=fun p=>qa0 n p.1 p.2 }
def qds (n:Nat):List FC:=[q2o n,q6h n]
theorem qd0 (n:Nat) {G:World->Prop} (hG:Know Inv G) : ∀c∈qds n,q0v Tryz.prog G c/\q0d c.args=true:=List.forall_mem_cons.2 ⟨q9w n G hG,List.forall_mem_cons.2 ⟨qxx n G hG,(fun _ h=>by cases h)⟩⟩
def qdo:q0c:=[]
theorem qmu:drB qdo (q00 Tryz.f71)=true:=by kernel_rfl
theorem jbk (n:Nat) : ∀rec p,qkm n rec p=round Tryz.prog 93 (qds n) (qal n) qdo 2 qa2 q5y (q01 0 1 (q00 Tryz.f71)) rec p:=by intro rec p;kernel_rfl
theorem j93 (n:Nat) : ∀rec p,qm0 n rec p=round Tryz.prog 93 (qds n) (qal n) qdo 1 qa5 q63 (q01 0 0 (q00 Tryz.f71)) rec p:=by intro rec p;kernel_rfl
theorem qob (n:Nat) {F:Fr} (hF:F.n=93) (hK:Know Inv F.G):q3k Tryz.prog F (qym n) (q01 0 1 (q00 Tryz.f71)) :=
 q0b hF (by kernel_rfl) (qd0 n hK) (jbk n) (fuel:=n) (fun _=>rfl) (q02 fun j L h1 h2 h3=>absurd h2 (Nat.not_lt.2 (Nat.le_trans (by decide +kernel) h1))) (q0h qmu)
theorem j6v (n:Nat) {F:Fr} (hF:F.n=93) (hK:Know Inv F.G):q3k Tryz.prog F (qyq n) (q01 0 0 (q00 Tryz.f71)) :=
 q0b hF (by kernel_rfl) (qd0 n hK) (j93 n) (fuel:=n) (fun _=>rfl) (q02 (c:=(q01 0 0 (q00 Tryz.f71))) (fun j L h1 h2 h3=>by
  have h2':j<2:=Nat.lt_of_lt_of_le h2 (by decide +kernel)
  match j,h1,h2',h3 with
  | 0,h1,_,_=>exact absurd h1 (by decide)
  | 1,_,_,h3=>obtain rfl:=Option.some.inj h3;exact (show q01 0 1 (q00 Tryz.f71)=q01 1 1 (q01 0 0 (q00 Tryz.f71)) by kernel_rfl) ▸ qob n hF hK
  | j+2,_,h2',_=>exact absurd h2' (by omega))) (q0h qmu)
theorem jhl (n:Nat) : ∀a,(q9f n).F a=main Tryz.prog 93 (qds n) (qal n) qdo (q00 Tryz.f71) [.tmp 4] (q9f n).args (q9f n).res a:=by intro a;kernel_rfl
theorem jgw (n:Nat):q0g Inv Tryz.prog (q9f n):=fun G hG=>⟨⟨by kernel_rfl,fun a r h=>q05 (c:=q00 Tryz.f71) Tryz.func71 (by kernel_rfl) (by kernel_rfl) (Nat.le_of_ble_eq_true (by kernel_rfl)) hG.st (by kernel_rfl) (rs:=[.tmp 4]) (by kernel_rfl) (qd0 n hG) (lts:=qal n) (fun F hF hFG=>have hK:Know Inv F.G:=hFG ▸ hG;(q02 (c:=(q00 Tryz.f71)) (fun j L h1 h2 h3=>by
  have h2':j<2:=Nat.lt_of_lt_of_le h2 (by decide +kernel)
  match j,h1,h2',h3 with
  | 0,_,_,h3=>obtain rfl:=Option.some.inj h3;exact (show q01 0 0 (q00 Tryz.f71)=q01 0 0 (q00 Tryz.f71) by kernel_rfl) ▸ j6v n hF hK
  | 1,_,_,h3=>obtain rfl:=Option.some.inj h3;exact (show q01 0 1 (q00 Tryz.f71)=q01 0 1 (q00 Tryz.f71) by kernel_rfl) ▸ qob n hF hK
  | j+2,_,h2',_=>exact absurd h2' (by omega)))) qmu ((jhl n a).symm.trans h)⟩,rfl⟩
def jdx (n:Nat):List LC:=[]
def qyd (n:Nat) (a1:Int):Option (Bool) :=
 (bif decide ((0:Int)<=a1) then some (decide (a1<=(999999999:Int))) else some false)
def qr9 (n:Nat):FC:={ f:=70,args:=[.one (.c (.d (.int .i64)))],res:=.one (.c (.d .bool)),F:=fun p=>qyd n p }
def jnc (n:Nat):List FC:=[]
theorem jkj (n:Nat) {G:World->Prop} (hG:Know Inv G) : ∀c∈jnc n,q0v Tryz.prog G c/\q0d c.args=true:=(fun _ h=>by cases h)
def jpd:q0c:=[]
theorem jw1:drB jpd (q00 Tryz.f70)=true:=by kernel_rfl
theorem jy1 (n:Nat) : ∀a,(qr9 n).F a=main Tryz.prog 9 (jnc n) (jdx n) jpd (q00 Tryz.f70) [.tmp 2] (qr9 n).args (qr9 n).res a:=by intro a;kernel_rfl
theorem jxm (n:Nat):q0g Inv Tryz.prog (qr9 n):=fun G hG=>⟨⟨by kernel_rfl,fun a r h=>q05 (c:=q00 Tryz.f70) Tryz.func70 (by kernel_rfl) (by kernel_rfl) (Nat.le_of_ble_eq_true (by kernel_rfl)) hG.st (by kernel_rfl) (rs:=[.tmp 2]) (by kernel_rfl) (jkj n hG) (lts:=jdx n) (fun F hF hFG=>have hK:Know Inv F.G:=hFG ▸ hG;(q02 fun j L h1 h2 h3=>absurd h2 (Nat.not_lt.2 (Nat.le_trans (by decide +kernel) h1)))) jw1 ((jy1 n a).symm.trans h)⟩,rfl⟩
def qwh (n:Nat):List LC:=[]
def qdr (n:Nat) (a1:Int×(Int×(Int×((List UInt8)×(List UInt8))))):Option (Bool) :=
 (qyd n a1.1).bind fun (r1:Bool)=>(bif !r1 then some false else (qyd n a1.2.1).bind fun (r2:Bool)=>(bif !r2 then some false else (qyd n a1.2.2.1).bind fun (r3:Bool)=>(bif !r3 then some false else (bif decide ((30:Int)<((List.length a1.2.2.2.1:Nat):Int)) then some false else (bif decide ((30:Int)<((List.length a1.2.2.2.2:Nat):Int)) then some false else (bif decide (a1.2.2.2.1=([]:List UInt8)) then (bif decide (a1.2.2.2.2=([]:List UInt8)) then some true else (qa0 n a1.2.2.2.2 true).bind fun (r4:Bool)=>some r4) else (qa0 n a1.2.2.2.1 false).bind fun (r5:Bool)=>(bif r5 then (bif decide (a1.2.2.2.2=([]:List UInt8)) then some true else (qa0 n a1.2.2.2.2 true).bind fun (r6:Bool)=>some r6) else some false)))))))
def q96 (n:Nat):FC:={ f:=33,args:=[.one (.agg [.d (.int .i64),.d (.int .i64),.d (.int .i64),.d .str,.d .str])],res:=.one (.c (.d .bool)),F:=fun p=>qdr n p }
def j3z (n:Nat):List FC:=[qr9 n,q9f n]
theorem ja2 (n:Nat) {G:World->Prop} (hG:Know Inv G) : ∀c∈j3z n,q0v Tryz.prog G c/\q0d c.args=true:=List.forall_mem_cons.2 ⟨jxm n G hG,List.forall_mem_cons.2 ⟨jgw n G hG,(fun _ h=>by cases h)⟩⟩
def j53:q0c:=[]
theorem jo9:drB j53 (q00 Tryz.f33)=true:=by kernel_rfl
theorem jon (n:Nat) : ∀a,(q96 n).F a=main Tryz.prog 49 (j3z n) (qwh n) j53 (q00 Tryz.f33) [.tmp 2] (q96 n).args (q96 n).res a:=by intro a;kernel_rfl
theorem j6b (n:Nat):q0g Inv Tryz.prog (q96 n):=fun G hG=>⟨⟨by kernel_rfl,fun a r h=>q05 (c:=q00 Tryz.f33) Tryz.func33 (by kernel_rfl) (by kernel_rfl) (Nat.le_of_ble_eq_true (by kernel_rfl)) hG.st (by kernel_rfl) (rs:=[.tmp 2]) (by kernel_rfl) (ja2 n hG) (lts:=qwh n) (fun F hF hFG=>have hK:Know Inv F.G:=hFG ▸ hG;(q02 fun j L h1 h2 h3=>absurd h2 (Nat.not_lt.2 (Nat.le_trans (by decide +kernel) h1)))) jo9 ((jon n a).symm.trans h)⟩,rfl⟩
def qyk (n:Nat):List LC:=[]
def q44 (n:Nat) (a1:Int) (a2:Int):Option (Int) :=
 (bif decide (a1<a2) then some (-1:Int) else (bif decide (a2<a1) then some (1:Int) else some (0:Int)))
def q72 (n:Nat):FC:={ f:=53,args:=[.one (.c (.d (.int .i64))),.one (.c (.d (.int .i64)))],res:=.one (.c (.d (.int .i64))),F:=fun p=>q44 n p.1 p.2 }
def j73 (n:Nat):List FC:=[]
theorem jch (n:Nat) {G:World->Prop} (hG:Know Inv G) : ∀c∈j73 n,q0v Tryz.prog G c/\q0d c.args=true:=(fun _ h=>by cases h)
def j5k:q0c:=[]
theorem jm0:drB j5k (q00 Tryz.f53)=true:=by kernel_rfl
theorem jpf (n:Nat) : ∀a,(q72 n).F a=main Tryz.prog 11 (j73 n) (qyk n) j5k (q00 Tryz.f53) [.tmp 4] (q72 n).args (q72 n).res a:=by intro a;kernel_rfl
theorem qsa (n:Nat):q0g Inv Tryz.prog (q72 n):=fun G hG=>⟨⟨by kernel_rfl,fun a r h=>q05 (c:=q00 Tryz.f53) Tryz.func53 (by kernel_rfl) (by kernel_rfl) (Nat.le_of_ble_eq_true (by kernel_rfl)) hG.st (by kernel_rfl) (rs:=[.tmp 4]) (by kernel_rfl) (jch n hG) (lts:=qyk n) (fun F hF hFG=>have hK:Know Inv F.G:=hFG ▸ hG;(q02 fun j L h1 h2 h3=>absurd h2 (Nat.not_lt.2 (Nat.le_trans (by decide +kernel) h1)))) jm0 ((jpf n a).symm.trans h)⟩,rfl⟩
def qy4 (n:Nat):List LC:=[]
def qht (n:Nat) (a1:List UInt8) (a2:List UInt8):Option (Int) :=
 (q9g n a1).bind fun (r1:Bool)=>(q9g n a2).bind fun (r2:Bool)=>(bif r1 then (bif r2 then (bif !decide (((List.length a1:Nat):Int)=((List.length a2:Nat):Int)) then (q44 n ((List.length a1:Nat):Int) ((List.length a2:Nat):Int)).bind fun (r3:Int)=>some r3 else (bif r1 then (bif !r2 then some (-1:Int) else (bif r2 then (bif !r1 then some (1:Int) else (bif ltS (a1) (a2) then some (-1:Int) else (bif !(ltS (a1) (a2)||decide (a1=a2)) then some (1:Int) else some (0:Int)))) else (bif ltS (a1) (a2) then some (-1:Int) else (bif !(ltS (a1) (a2)||decide (a1=a2)) then some (1:Int) else some (0:Int))))) else (bif r2 then (bif !r1 then some (1:Int) else (bif ltS (a1) (a2) then some (-1:Int) else (bif !(ltS (a1) (a2)||decide (a1=a2)) then some (1:Int) else some (0:Int)))) else (bif ltS (a1) (a2) then some (-1:Int) else (bif !(ltS (a1) (a2)||decide (a1=a2)) then some (1:Int) else some (0:Int)))))) else (bif r1 then (bif !r2 then some (-1:Int) else (bif r2 then (bif !r1 then some (1:Int) else (bif ltS (a1) (a2) then some (-1:Int) else (bif !(ltS (a1) (a2)||decide (a1=a2)) then some (1:Int) else some (0:Int)))) else (bif ltS (a1) (a2) then some (-1:Int) else (bif !(ltS (a1) (a2)||decide (a1=a2)) then some (1:Int) else some (0:Int))))) else (bif r2 then (bif !r1 then some (1:Int) else (bif ltS (a1) (a2) then some (-1:Int) else (bif !(ltS (a1) (a2)||decide (a1=a2)) then some (1:Int) else some (0:Int)))) else (bif ltS (a1) (a2) then some (-1:Int) else (bif !(ltS (a1) (a2)||decide (a1=a2)) then some (1:Int) else some (0:Int)))))) else (bif r1 then (bif !r2 then some (-1:Int) else (bif r2 then (bif !r1 then some (1:Int) else (bif ltS (a1) (a2) then some (-1:Int) else (bif !(ltS (a1) (a2)||decide (a1=a2)) then some (1:Int) else some (0:Int)))) else (bif ltS (a1) (a2) then some (-1:Int) else (bif !(ltS (a1) (a2)||decide (a1=a2)) then some (1:Int) else some (0:Int))))) else (bif r2 then (bif !r1 then some (1:Int) else (bif ltS (a1) (a2) then some (-1:Int) else (bif !(ltS (a1) (a2)||decide (a1=a2)) then some (1:Int) else some (0:Int)))) else (bif ltS (a1) (a2) then some (-1:Int) else (bif !(ltS (a1) (a2)||decide (a1=a2)) then some (1:Int) else some (0:Int))))))
def qca (n:Nat):FC:={ f:=88,args:=[.one (.c (.d .str)),.one (.c (.d .str))],res:=.one (.c (.d (.int .i64))),F:=fun p=>qht n p.1 p.2 }
def j5n (n:Nat):List FC:=[q6h n,q72 n]
theorem j99 (n:Nat) {G:World->Prop} (hG:Know Inv G) : ∀c∈j5n n,q0v Tryz.prog G c/\q0d c.args=true:=List.forall_mem_cons.2 ⟨qxx n G hG,List.forall_mem_cons.2 ⟨qsa n G hG,(fun _ h=>by cases h)⟩⟩
def j3i:q0c:=[]
theorem jlo:drB j3i (q00 Tryz.f88)=true:=by kernel_rfl
theorem jq1 (n:Nat) : ∀a,(qca n).F a=main Tryz.prog 43 (j5n n) (qy4 n) j3i (q00 Tryz.f88) [.tmp 4] (qca n).args (qca n).res a:=by intro a;kernel_rfl
theorem jns (n:Nat):q0g Inv Tryz.prog (qca n):=fun G hG=>⟨⟨by kernel_rfl,fun a r h=>q05 (c:=q00 Tryz.f88) Tryz.func88 (by kernel_rfl) (by kernel_rfl) (Nat.le_of_ble_eq_true (by kernel_rfl)) hG.st (by kernel_rfl) (rs:=[.tmp 4]) (by kernel_rfl) (j99 n hG) (lts:=qy4 n) (fun F hF hFG=>have hK:Know Inv F.G:=hFG ▸ hG;(q02 fun j L h1 h2 h3=>absurd h2 (Nat.not_lt.2 (Nat.le_trans (by decide +kernel) h1)))) jlo ((jq1 n a).symm.trans h)⟩,rfl⟩
def jfg (n:Nat):List LC:=[]
def qy3 (n:Nat) (a1:Bool):Option (Int) :=
 (bif a1 then some (1:Int) else some (0:Int))
def qro (n:Nat):FC:={ f:=87,args:=[.one (.c (.d .bool))],res:=.one (.c (.d (.int .i64))),F:=fun p=>qy3 n p }
def jof (n:Nat):List FC:=[]
theorem jl1 (n:Nat) {G:World->Prop} (hG:Know Inv G) : ∀c∈jof n,q0v Tryz.prog G c/\q0d c.args=true:=(fun _ h=>by cases h)
def jmy:q0c:=[]
theorem jxi:drB jmy (q00 Tryz.f87)=true:=by kernel_rfl
theorem jxb (n:Nat) : ∀a,(qro n).F a=main Tryz.prog 4 (jof n) (jfg n) jmy (q00 Tryz.f87) [.tmp 2] (qro n).args (qro n).res a:=by intro a;kernel_rfl
theorem jx3 (n:Nat):q0g Inv Tryz.prog (qro n):=fun G hG=>⟨⟨by kernel_rfl,fun a r h=>q05 (c:=q00 Tryz.f87) Tryz.func87 (by kernel_rfl) (by kernel_rfl) (Nat.le_of_ble_eq_true (by kernel_rfl)) hG.st (by kernel_rfl) (rs:=[.tmp 2]) (by kernel_rfl) (jl1 n hG) (lts:=jfg n) (fun F hF hFG=>have hK:Know Inv F.G:=hFG ▸ hG;(q02 fun j L h1 h2 h3=>absurd h2 (Nat.not_lt.2 (Nat.le_trans (by decide +kernel) h1)))) jxi ((jxb n a).symm.trans h)⟩,rfl⟩
@[reducible] def qpx:SSt:=⟨[(5,.one (.c (.d (.lst .str)))),(6,.one (.c (.d (.lst .str)))),(7,.one (.c (.d (.int .i64))))],[],[]⟩
@[reducible] def qe0:List (Exit×SSt):=[(.ret,⟨[(4,.one (.c (.d (.int .i64))))],[],[]⟩),(.exit 0,⟨[(5,.one (.c (.d (.lst .str)))),(6,.one (.c (.d (.lst .str))))],[],[]⟩)]
def j9p (n:Nat) (rec:(List (List UInt8))->(List (List UInt8))->Int->Option (((Int×(Unit))×(Unit)×(Unit))⊕(((List (List UInt8))×((List (List UInt8))×(Unit)))×(Unit)×(Unit)))) (a1:List (List UInt8)) (a2:List (List UInt8)) (a3:Int):Option (((Int×(Unit))×(Unit)×(Unit))⊕(((List (List UInt8))×((List (List UInt8))×(Unit)))×(Unit)×(Unit))) :=
 (bif decide (a3<((List.length a1:Nat):Int)) then (bif decide (a3<((List.length a2:Nat):Int)) then (q0x a1 a3).bind fun (x9:List UInt8)=>(q0x a2 a3).bind fun (x10:List UInt8)=>(qht n x9 x10).bind fun (r11:Int)=>(bif !decide (r11=(0:Int)) then (q0x a1 a3).bind fun (x12:List UInt8)=>(q0x a2 a3).bind fun (x13:List UInt8)=>(qht n x12 x13).bind fun (r14:Int)=>some (Sum.inl ((r14,()),((),()))) else q0e (IntKind.wrap .i64 (a3+(1:Int))) fun (n15:Int)=>rec a1 a2 n15) else some (Sum.inr (((a1,(a2,())),((),()))))) else some (Sum.inr (((a1,(a2,())),((),())))))
def jbr (n:Nat) (rec:pSt qpx->Option (q08 qe0)) (p:pSt qpx):Option (q08 qe0):=j9p n (fun a1 a2 a3=>rec ((a1,(a2,(a3,()))),((),()))) p.1.1 p.1.2.1 p.1.2.2.1
def qeh (n m:Nat) (a1:List (List UInt8)) (a2:List (List UInt8)) (a3:Int):Option (((Int×(Unit))×(Unit)×(Unit))⊕(((List (List UInt8))×((List (List UInt8))×(Unit)))×(Unit)×(Unit))):=q0a (jbr n) m ((a1,(a2,(a3,()))),((),()))
theorem qqz (n m:Nat) (a1:List (List UInt8)) (a2:List (List UInt8)) (a3:Int):qeh n (m+1) a1 a2 a3=j9p n (fun a1 a2 a3=>qeh n m a1 a2 a3) a1 a2 a3:=rfl
def jo3 (n:Nat):LC:={ sh:=qpx,outs:=qe0,F:=q0a (jbr n) n }
def j0q (n:Nat):List LC:=[jo3 n]
def jfr (n:Nat) (a1:List UInt8) (a2:List UInt8):Option (Int) :=
 (bif decide (a1=([]:List UInt8)) then (qy3 n (decide (a1=([]:List UInt8)))).bind fun (r1:Int)=>(qy3 n (decide (a2=([]:List UInt8)))).bind fun (r2:Int)=>(q44 n r1 r2).bind fun (r3:Int)=>some r3 else (bif decide (a2=([]:List UInt8)) then (qy3 n (decide (a1=([]:List UInt8)))).bind fun (r4:Int)=>(qy3 n (decide (a2=([]:List UInt8)))).bind fun (r5:Int)=>(q44 n r4 r5).bind fun (r6:Int)=>some r6 else (q2a n a1 (46:Int)).bind fun (r7:List (List UInt8))=>(q2a n a2 (46:Int)).bind fun (r8:List (List UInt8))=>(qeh n n r7 r8 (0:Int)).bind fun (o16:((Int×(Unit))×(Unit)×(Unit))⊕(((List (List UInt8))×((List (List UInt8))×(Unit)))×(Unit)×(Unit)))=>Sum.elim (fun (q17:(Int×(Unit))×(Unit)×(Unit))=>some q17.1.1) (fun (q18:((List (List UInt8))×((List (List UInt8))×(Unit)))×(Unit)×(Unit))=>(q44 n ((List.length q18.1.1:Nat):Int) ((List.length q18.1.2.1:Nat):Int)).bind fun (r19:Int)=>some r19) o16))
def qtz (n:Nat):FC:={ f:=54,args:=[.one (.c (.d .str)),.one (.c (.d .str))],res:=.one (.c (.d (.int .i64))),F:=fun p=>jfr n p.1 p.2 }
def jbz (n:Nat):List FC:=[qro n,q72 n,q2o n,qca n]
theorem j35 (n:Nat) {G:World->Prop} (hG:Know Inv G) : ∀c∈jbz n,q0v Tryz.prog G c/\q0d c.args=true:=List.forall_mem_cons.2 ⟨jx3 n G hG,List.forall_mem_cons.2 ⟨qsa n G hG,List.forall_mem_cons.2 ⟨q9w n G hG,List.forall_mem_cons.2 ⟨jns n G hG,(fun _ h=>by cases h)⟩⟩⟩⟩
def j8r:q0c:=[(8,[⟨15576890575604482885591488987693056,2^111,0⟩,⟨59421121885698253195157962753*2^21,2^114,0⟩,⟨393*2^111,2^117,3⟩,⟨49*2^117,2^120,7⟩,⟨63802943797675961899382738893456801792,2^123,0⟩,⟨243388915243820045087367015432193*2^21,2^126,0⟩,⟨393*2^123,2^129,48⟩,⟨49*2^129,2^132,112⟩,⟨200705*2^120,2^135,255⟩,⟨49*2^135,2^138,511⟩]),(1000008,[]),(9,[⟨16725558898897967356151788704486271129518080,2^141,0⟩,⟨63802943797675961899382738893456539649*2^21,2^144,0⟩,⟨393*2^141,2^147,3⟩,⟨49*2^147,2^150,7⟩,⟨68507889249886074290797726533575766546372100096,2^153,0⟩,⟨261336857795280739939871698507597986398209*2^21,2^156,0⟩,⟨393*2^153,2^159,48⟩,⟨49*2^159,2^162,112⟩,⟨200705*2^150,2^165,255⟩,⟨46768052394588893382517914646921056628989841399808,4096,511⟩]),(1000009,[])]
theorem jos:drB j8r (q00 Tryz.f54)=true:=by kernel_rfl
theorem js5 (n:Nat) : ∀rec p,jbr n rec p=round Tryz.prog 61 (jbz n) (j0q n) j8r 1 qpx qe0 (q01 0 0 (q00 Tryz.f54)) rec p:=by intro rec p;kernel_rfl
theorem jmi (n:Nat) {F:Fr} (hF:F.n=61) (hK:Know Inv F.G):q3k Tryz.prog F (jo3 n) (q01 0 0 (q00 Tryz.f54)) :=
 q0b hF (by kernel_rfl) (j35 n hK) (js5 n) (fuel:=n) (fun _=>rfl) (q02 fun j L h1 h2 h3=>absurd h2 (Nat.not_lt.2 (Nat.le_trans (by decide +kernel) h1))) (q0h jos)
theorem jyo (n:Nat) : ∀a,(qtz n).F a=main Tryz.prog 61 (jbz n) (j0q n) j8r (q00 Tryz.f54) [.tmp 4] (qtz n).args (qtz n).res a:=by intro a;kernel_rfl
theorem jxa (n:Nat):q0g Inv Tryz.prog (qtz n):=fun G hG=>⟨⟨by kernel_rfl,fun a r h=>q05 (c:=q00 Tryz.f54) Tryz.func54 (by kernel_rfl) (by kernel_rfl) (Nat.le_of_ble_eq_true (by kernel_rfl)) hG.st (by kernel_rfl) (rs:=[.tmp 4]) (by kernel_rfl) (j35 n hG) (lts:=j0q n) (fun F hF hFG=>have hK:Know Inv F.G:=hFG ▸ hG;(q02 (c:=(q00 Tryz.f54)) (fun j L h1 h2 h3=>by
  have h2':j<1:=Nat.lt_of_lt_of_le h2 (by decide +kernel)
  match j,h1,h2',h3 with
  | 0,_,_,h3=>obtain rfl:=Option.some.inj h3;exact (show q01 0 0 (q00 Tryz.f54)=q01 0 0 (q00 Tryz.f54) by kernel_rfl) ▸ jmi n hF hK
  | j+1,_,h2',_=>exact absurd h2' (by omega)))) jos ((jyo n a).symm.trans h)⟩,rfl⟩
def qnf (n:Nat):List LC:=[]
def q9u (n:Nat) (a1:Int×(Int×(Int×((List UInt8)×(List UInt8))))) (a2:Int×(Int×(Int×((List UInt8)×(List UInt8))))):Option (Int) :=
 (qdr n a1).bind fun (r1:Bool)=>(bif !r1 then some (0:Int) else (qdr n a2).bind fun (r2:Bool)=>(bif !r2 then some (0:Int) else (bif !decide (a1.1=a2.1) then (q44 n a1.1 a2.1).bind fun (r3:Int)=>some r3 else (bif !decide (a1.2.1=a2.2.1) then (q44 n a1.2.1 a2.2.1).bind fun (r4:Int)=>some r4 else (bif !decide (a1.2.2.1=a2.2.2.1) then (q44 n a1.2.2.1 a2.2.2.1).bind fun (r5:Int)=>some r5 else (jfr n a1.2.2.2.1 a2.2.2.2.1).bind fun (r6:Int)=>some r6)))))
def q74 (n:Nat):FC:={ f:=26,args:=[.one (.agg [.d (.int .i64),.d (.int .i64),.d (.int .i64),.d .str,.d .str]),.one (.agg [.d (.int .i64),.d (.int .i64),.d (.int .i64),.d .str,.d .str])],res:=.one (.c (.d (.int .i64))),F:=fun p=>q9u n p.1 p.2 }
def qu1 (n:Nat):List FC:=[q96 n,q72 n,qtz n]
theorem qze (n:Nat) {G:World->Prop} (hG:Know Inv G) : ∀c∈qu1 n,q0v Tryz.prog G c/\q0d c.args=true:=List.forall_mem_cons.2 ⟨j6b n G hG,List.forall_mem_cons.2 ⟨qsa n G hG,List.forall_mem_cons.2 ⟨jxa n G hG,(fun _ h=>by cases h)⟩⟩⟩
def qrq:q0c:=[]
theorem jbo:drB qrq (q00 Tryz.f26)=true:=by kernel_rfl
theorem jbp (n:Nat) : ∀a,(q74 n).F a=main Tryz.prog 48 (qu1 n) (qnf n) qrq (q00 Tryz.f26) [.tmp 4] (q74 n).args (q74 n).res a:=by intro a;kernel_rfl
theorem jbu (n:Nat):q0g Inv Tryz.prog (q74 n):=fun G hG=>⟨⟨by kernel_rfl,fun a r h=>q05 (c:=q00 Tryz.f26) Tryz.func26 (by kernel_rfl) (by kernel_rfl) (Nat.le_of_ble_eq_true (by kernel_rfl)) hG.st (by kernel_rfl) (rs:=[.tmp 4]) (by kernel_rfl) (qze n hG) (lts:=qnf n) (fun F hF hFG=>have hK:Know Inv F.G:=hFG ▸ hG;(q02 fun j L h1 h2 h3=>absurd h2 (Nat.not_lt.2 (Nat.le_trans (by decide +kernel) h1)))) jbo ((jbp n a).symm.trans h)⟩,rfl⟩
end Go.Proofs.YtggoebaobojmjaaGreatDoor.AM
