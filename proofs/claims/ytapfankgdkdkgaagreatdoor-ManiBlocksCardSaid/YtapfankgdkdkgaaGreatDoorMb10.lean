
import Derived.Test.YtapfankgdkdkgaaGreatDoorMb9
namespace Go.Proofs.YtapfankgdkdkgaaGreatDoor.AM
open Go.RowKit
set_option linter.unusedVariables false
set_option maxRecDepth 20000
def q32 (n:Nat):List LC:=[]
def q1j (n:Nat) (a1:List UInt8) (a2:List UInt8):Option (Bool) :=
 (bif decide (((List.length a2:Nat):Int)<=((List.length a1:Nat):Int)) then (q2k a1 (0:Int) ((List.length a2:Nat):Int)).bind fun (s1:List UInt8)=>some (decide (s1=a2)) else some false)
def q0m (n:Nat):FC:={ f:=181,args:=[.one (.c (.d .str)),.one (.c (.d .str))],res:=.one (.c (.d .bool)),F:=fun p=>q1j n p.1 p.2 }
def q3t (n:Nat):List FC:=[]
theorem q6b (n:Nat) {G:World->Prop} (hG:Know Inv G) : ∀c∈q3t n,q0w Tryz.prog G c/\q09 c.args=true:=(fun _ h=>by cases h)
def q3x:q08:=[]
theorem q9t:drB q3x (q00 Tryz.f181)=true:=by kernel_rfl
theorem qa9 (n:Nat) : ∀a,(q0m n).F a=main Tryz.prog 18 (q3t n) (q32 n) q3x (q00 Tryz.f181) [.tmp 4] (q0m n).args (q0m n).res a:=by intro a;kernel_rfl
theorem q3n (n:Nat):q0c Inv Tryz.prog (q0m n):=fun G hG=>⟨⟨by kernel_rfl,fun a r h=>q03 (c:=q00 Tryz.f181) Tryz.func181 (by kernel_rfl) (by kernel_rfl) (Nat.le_of_ble_eq_true (by kernel_rfl)) hG.st (by kernel_rfl) (rs:=[.tmp 4]) (by kernel_rfl) (q6b n hG) (lts:=q32 n) (fun F hF hFG=>have hK:Know Inv F.G:=hFG ▸ hG;(q02 fun j L h1 h2 h3=>absurd h2 (Nat.not_lt.2 (Nat.le_trans (by decide +kernel) h1)))) q9t ((qa9 n a).symm.trans h)⟩,rfl⟩
def qc1 (n:Nat):List LC:=[]
def q9z (n:Nat) (a1:List UInt8) (a2:List UInt8):Option (List UInt8) :=
 (q1j n a1 a2).bind fun (r1:Bool)=>(bif r1 then (q2k a1 ((List.length a2:Nat):Int) ((List.length a1:Nat):Int)).bind fun (s2:List UInt8)=>some s2 else some a1)
def q37 (n:Nat):FC:={ f:=183,args:=[.one (.c (.d .str)),.one (.c (.d .str))],res:=.one (.c (.d .str)),F:=fun p=>q9z n p.1 p.2 }
def qem (n:Nat):List FC:=[q0m n]
theorem qmu (n:Nat) {G:World->Prop} (hG:Know Inv G) : ∀c∈qem n,q0w Tryz.prog G c/\q09 c.args=true:=List.forall_mem_cons.2 ⟨q3n n G hG,(fun _ h=>by cases h)⟩
def qek:q08:=[]
theorem qux:drB qek (q00 Tryz.f183)=true:=by kernel_rfl
theorem qul (n:Nat) : ∀a,(q37 n).F a=main Tryz.prog 13 (qem n) (qc1 n) qek (q00 Tryz.f183) [.tmp 4] (q37 n).args (q37 n).res a:=by intro a;kernel_rfl
theorem qun (n:Nat):q0c Inv Tryz.prog (q37 n):=fun G hG=>⟨⟨by kernel_rfl,fun a r h=>q03 (c:=q00 Tryz.f183) Tryz.func183 (by kernel_rfl) (by kernel_rfl) (Nat.le_of_ble_eq_true (by kernel_rfl)) hG.st (by kernel_rfl) (rs:=[.tmp 4]) (by kernel_rfl) (qmu n hG) (lts:=qc1 n) (fun F hF hFG=>have hK:Know Inv F.G:=hFG ▸ hG;(q02 fun j L h1 h2 h3=>absurd h2 (Nat.not_lt.2 (Nat.le_trans (by decide +kernel) h1)))) qux ((qul n a).symm.trans h)⟩,rfl⟩
def qea (n:Nat):List LC:=[]
def q7e (n:Nat) (a1:List UInt8) (a2:List UInt8):Option (List UInt8) :=
 (q9z n a1 a2).bind fun (r1:List UInt8)=>some r1
def q3k (n:Nat):FC:={ f:=155,args:=[.one (.c (.d .str)),.one (.c (.d .str))],res:=.one (.c (.d .str)),F:=fun p=>q7e n p.1 p.2 }
def qg9 (n:Nat):List FC:=[q37 n]
theorem qp3 (n:Nat) {G:World->Prop} (hG:Know Inv G) : ∀c∈qg9 n,q0w Tryz.prog G c/\q09 c.args=true:=List.forall_mem_cons.2 ⟨qun n G hG,(fun _ h=>by cases h)⟩
def qhe:q08:=[]
theorem j0l:drB qhe (q00 Tryz.f155)=true:=by kernel_rfl
theorem j0a (n:Nat) : ∀a,(q3k n).F a=main Tryz.prog 8 (qg9 n) (qea n) qhe (q00 Tryz.f155) [.tmp 4] (q3k n).args (q3k n).res a:=by intro a;kernel_rfl
theorem qfz (n:Nat):q0c Inv Tryz.prog (q3k n):=fun G hG=>⟨⟨by kernel_rfl,fun a r h=>q03 (c:=q00 Tryz.f155) Tryz.func155 (by kernel_rfl) (by kernel_rfl) (Nat.le_of_ble_eq_true (by kernel_rfl)) hG.st (by kernel_rfl) (rs:=[.tmp 4]) (by kernel_rfl) (qp3 n hG) (lts:=qea n) (fun F hF hFG=>have hK:Know Inv F.G:=hFG ▸ hG;(q02 fun j L h1 h2 h3=>absurd h2 (Nat.not_lt.2 (Nat.le_trans (by decide +kernel) h1)))) j0l ((j0a n a).symm.trans h)⟩,rfl⟩
def jf2 (n:Nat):List LC:=[]
def jle (n:Nat) (a1:List UInt8) (a2:List UInt8):Option ((List UInt8)×((List UInt8)×(Bool))) :=
 (qq8 a1 a2).bind fun (r1:Int)=>(bif decide ((0:Int)<=r1) then (q2k a1 (0:Int) r1).bind fun (s2:List UInt8)=>q05 (IntKind.wrap .i64 (r1+((List.length a2:Nat):Int))) fun (n3:Int)=>(q2k a1 n3 ((List.length a1:Nat):Int)).bind fun (s4:List UInt8)=>some (s2,(s4,true)) else some (a1,(([]:List UInt8),false)))
def qsm (n:Nat):FC:={ f:=82,args:=[.one (.c (.d .str)),.one (.c (.d .str))],res:=.tup [.c (.d .str),.c (.d .str),.c (.d .bool)],F:=fun p=>jle n p.1 p.2 }
def jm9 (n:Nat):List FC:=[jbv]
theorem jlr (n:Nat) {G:World->Prop} (hG:Know Inv G) : ∀c∈jm9 n,q0w Tryz.prog G c/\q09 c.args=true:=List.forall_mem_cons.2 ⟨jsl G hG,(fun _ h=>by cases h)⟩
def jka:q08:=[(3,[⟨3298534883329,2^39,0⟩,⟨12582913*2^21,2^42,0⟩,⟨393*2^39,2^45,3⟩,⟨1688849860263937,2^48,0⟩,⟨6442450945*2^21,2^51,0⟩,⟨108086391056891912,2^54,0⟩,⟨49*2^54,2^57,32⟩,⟨3137*2^51,2^60,112⟩,⟨200705*2^48,2^63,248⟩,⟨35184372113408,4096,7⟩,⟨9223372036854972416,32768,1023⟩,⟨3*2^19,2^18,2047⟩])]
theorem jv0:drB jka (q00 Tryz.f82)=true:=by kernel_rfl
theorem jxd (n:Nat) : ∀a,(qsm n).F a=main Tryz.prog 23 (jm9 n) (jf2 n) jka (q00 Tryz.f82) [.tmp 4,.tmp 5,.tmp 6] (qsm n).args (qsm n).res a:=by intro a;kernel_rfl
theorem jy5 (n:Nat):q0c Inv Tryz.prog (qsm n):=fun G hG=>⟨⟨by kernel_rfl,fun a r h=>q03 (c:=q00 Tryz.f82) Tryz.func82 (by kernel_rfl) (by kernel_rfl) (Nat.le_of_ble_eq_true (by kernel_rfl)) hG.st (by kernel_rfl) (rs:=[.tmp 4,.tmp 5,.tmp 6]) (by kernel_rfl) (jlr n hG) (lts:=jf2 n) (fun F hF hFG=>have hK:Know Inv F.G:=hFG ▸ hG;(q02 fun j L h1 h2 h3=>absurd h2 (Nat.not_lt.2 (Nat.le_trans (by decide +kernel) h1)))) jv0 ((jxd n a).symm.trans h)⟩,rfl⟩
def jnc (n:Nat):List LC:=[]
def j5n (n:Nat) (a1:List UInt8) (a2:List UInt8):Option ((List UInt8)×((List UInt8)×(Bool))) :=
 (jle n a1 a2).bind fun (r1:(List UInt8)×((List UInt8)×(Bool)))=>some r1
def qva (n:Nat):FC:={ f:=55,args:=[.one (.c (.d .str)),.one (.c (.d .str))],res:=.tup [.c (.d .str),.c (.d .str),.c (.d .bool)],F:=fun p=>j5n n p.1 p.2 }
def jtv (n:Nat):List FC:=[qsm n]
theorem jst (n:Nat) {G:World->Prop} (hG:Know Inv G) : ∀c∈jtv n,q0w Tryz.prog G c/\q09 c.args=true:=List.forall_mem_cons.2 ⟨jy5 n G hG,(fun _ h=>by cases h)⟩
def jur:q08:=[]
theorem jzh:drB jur (q00 Tryz.f55)=true:=by kernel_rfl
theorem jze (n:Nat) : ∀a,(qva n).F a=main Tryz.prog 13 (jtv n) (jnc n) jur (q00 Tryz.f55) [.tmp 4,.tmp 5,.tmp 6] (qva n).args (qva n).res a:=by intro a;kernel_rfl
theorem jux (n:Nat):q0c Inv Tryz.prog (qva n):=fun G hG=>⟨⟨by kernel_rfl,fun a r h=>q03 (c:=q00 Tryz.f55) Tryz.func55 (by kernel_rfl) (by kernel_rfl) (Nat.le_of_ble_eq_true (by kernel_rfl)) hG.st (by kernel_rfl) (rs:=[.tmp 4,.tmp 5,.tmp 6]) (by kernel_rfl) (jst n hG) (lts:=jnc n) (fun F hF hFG=>have hK:Know Inv F.G:=hFG ▸ hG;(q02 fun j L h1 h2 h3=>absurd h2 (Nat.not_lt.2 (Nat.le_trans (by decide +kernel) h1)))) jzh ((jze n a).symm.trans h)⟩,rfl⟩
def j4l (n:Nat):List LC:=[]
def j0q (n:Nat) (a1:Int):Option (Bool) :=
 some (!decide (a1=a1))
def qgw (n:Nat):FC:={ f:=184,args:=[.one (.c (.d (.int .i64)))],res:=.one (.c (.d .bool)),F:=fun p=>j0q n p }
def jej (n:Nat):List FC:=[]
theorem jgq (n:Nat) {G:World->Prop} (hG:Know Inv G) : ∀c∈jej n,q0w Tryz.prog G c/\q09 c.args=true:=(fun _ h=>by cases h)
def jck:q08:=[]
theorem jrg:drB jck (q00 Tryz.f184)=true:=by kernel_rfl
theorem jqj (n:Nat) : ∀a,(qgw n).F a=main Tryz.prog 6 (jej n) (j4l n) jck (q00 Tryz.f184) [.tmp 2] (qgw n).args (qgw n).res a:=by intro a;kernel_rfl
theorem jsd (n:Nat):q0c Inv Tryz.prog (qgw n):=fun G hG=>⟨⟨by kernel_rfl,fun a r h=>q03 (c:=q00 Tryz.f184) Tryz.func184 (by kernel_rfl) (by kernel_rfl) (Nat.le_of_ble_eq_true (by kernel_rfl)) hG.st (by kernel_rfl) (rs:=[.tmp 2]) (by kernel_rfl) (jgq n hG) (lts:=j4l n) (fun F hF hFG=>have hK:Know Inv F.G:=hFG ▸ hG;(q02 fun j L h1 h2 h3=>absurd h2 (Nat.not_lt.2 (Nat.le_trans (by decide +kernel) h1)))) jrg ((jqj n a).symm.trans h)⟩,rfl⟩
def qvb (n:Nat):List LC:=[]
def q9e (n:Nat) (a1:Int) (a2:Int):Option (Int) :=
 (j0q n a1).bind fun (r1:Bool)=>(j0q n a2).bind fun (r2:Bool)=>(bif r1 then (bif r2 then some (0:Int) else some (-1:Int)) else (bif r2 then some (1:Int) else (bif decide (a1<a2) then some (-1:Int) else (bif decide (a2<a1) then some (1:Int) else some (0:Int)))))
def q8r (n:Nat):FC:={ f:=158,args:=[.one (.c (.d (.int .i64))),.one (.c (.d (.int .i64)))],res:=.one (.c (.d (.int .i64))),F:=fun p=>q9e n p.1 p.2 }
def j3x (n:Nat):List FC:=[qgw n]
theorem j9w (n:Nat) {G:World->Prop} (hG:Know Inv G) : ∀c∈j3x n,q0w Tryz.prog G c/\q09 c.args=true:=List.forall_mem_cons.2 ⟨jsd n G hG,(fun _ h=>by cases h)⟩
def j5r:q08:=[]
theorem jj5:drB j5r (q00 Tryz.f158)=true:=by kernel_rfl
theorem jm3 (n:Nat) : ∀a,(q8r n).F a=main Tryz.prog 20 (j3x n) (qvb n) j5r (q00 Tryz.f158) [.tmp 4] (q8r n).args (q8r n).res a:=by intro a;kernel_rfl
theorem j3p (n:Nat):q0c Inv Tryz.prog (q8r n):=fun G hG=>⟨⟨by kernel_rfl,fun a r h=>q03 (c:=q00 Tryz.f158) Tryz.func158 (by kernel_rfl) (by kernel_rfl) (Nat.le_of_ble_eq_true (by kernel_rfl)) hG.st (by kernel_rfl) (rs:=[.tmp 4]) (by kernel_rfl) (j9w n hG) (lts:=qvb n) (fun F hF hFG=>have hK:Know Inv F.G:=hFG ▸ hG;(q02 fun j L h1 h2 h3=>absurd h2 (Nat.not_lt.2 (Nat.le_trans (by decide +kernel) h1)))) jj5 ((jm3 n a).symm.trans h)⟩,rfl⟩
@[reducible] def qgn:SSt:=⟨[(3,.one (.c (.d (.int .i64)))),(6,.one (.c (.d (.lst (.int .i64))))),(7,.one (.c (.d (.int .i64)))),(8,.one (.c (.d (.int .i64))))],[],[]⟩
@[reducible] def q9r:List (Exit×SSt):=[(.ret,⟨[(2,.one (.c (.d (.int .i64))))],[],[]⟩),(.exit 0,⟨[(3,.one (.c (.d (.int .i64))))],[],[]⟩)]
def qyp (n:Nat) (rec:Int->(List (Int))->Int->Int->Option (((Int×(Unit))×(Unit)×(Unit))⊕((Int×(Unit))×(Unit)×(Unit)))) (a1:Int) (a2:List (Int)) (a3:Int) (a4:Int):Option (((Int×(Unit))×(Unit)×(Unit))⊕((Int×(Unit))×(Unit)×(Unit))) :=
 (bif decide (a4<a3) then (q0z a2 a4).bind fun (x1:Int)=>(bif !decide (x1=a1) then some (Sum.inl ((x1,()),((),()))) else q05 (IntKind.wrap .i64 (a4+(1:Int))) fun (n2:Int)=>rec a1 a2 a3 n2) else some (Sum.inr (((a1,()),((),())))))
def qy3 (n:Nat) (rec:pSt qgn->Option (q0d q9r)) (p:pSt qgn):Option (q0d q9r):=qyp n (fun a1 a2 a3 a4=>rec ((a1,(a2,(a3,(a4,())))),((),()))) p.1.1 p.1.2.1 p.1.2.2.1 p.1.2.2.2.1
def q9g (n m:Nat) (a1:Int) (a2:List (Int)) (a3:Int) (a4:Int):Option (((Int×(Unit))×(Unit)×(Unit))⊕((Int×(Unit))×(Unit)×(Unit))):=q0e (qy3 n) m ((a1,(a2,(a3,(a4,())))),((),()))
theorem qmq (n m:Nat) (a1:Int) (a2:List (Int)) (a3:Int) (a4:Int):q9g n (m+1) a1 a2 a3 a4=qyp n (fun a1 a2 a3 a4=>q9g n m a1 a2 a3 a4) a1 a2 a3 a4:=rfl
def jep (n:Nat):LC:={ sh:=qgn,outs:=q9r,F:=q0e (qy3 n) n }
def qq1 (n:Nat):List LC:=[jep n]
def qor (n:Nat) (a1:List (Int)):Option (Int) :=
 (q9g n n (0:Int) a1 ((List.length a1:Nat):Int) (0:Int)).bind fun (o3:((Int×(Unit))×(Unit)×(Unit))⊕((Int×(Unit))×(Unit)×(Unit)))=>Sum.elim (fun (q4:(Int×(Unit))×(Unit)×(Unit))=>some q4.1.1) (fun (q5:(Int×(Unit))×(Unit)×(Unit))=>some q5.1.1) o3
def qdp (n:Nat):FC:={ f:=157,args:=[.one (.c (.d (.lst (.int .i64))))],res:=.one (.c (.d (.int .i64))),F:=fun p=>qor n p }
def qyq (n:Nat):List FC:=[]
theorem qxe (n:Nat) {G:World->Prop} (hG:Know Inv G) : ∀c∈qyq n,q0w Tryz.prog G c/\q09 c.args=true:=(fun _ h=>by cases h)
def qxw:q08:=[]
theorem jf7:drB qxw (q00 Tryz.f157)=true:=by kernel_rfl
theorem jok (n:Nat) : ∀rec p,qy3 n rec p=round Tryz.prog 18 (qyq n) (qq1 n) qxw 1 qgn q9r (q01 0 0 (q00 Tryz.f157)) rec p:=by intro rec p;kernel_rfl
theorem jh8 (n:Nat) {F:Fr} (hF:F.n=18) (hK:Know Inv F.G):q6a Tryz.prog F (jep n) (q01 0 0 (q00 Tryz.f157)) :=
 q0g hF (by kernel_rfl) (qxe n hK) (jok n) (fuel:=n) (fun _=>rfl) (q02 fun j L h1 h2 h3=>absurd h2 (Nat.not_lt.2 (Nat.le_trans (by decide +kernel) h1))) (q0n jf7)
theorem jq8 (n:Nat) : ∀a,(qdp n).F a=main Tryz.prog 18 (qyq n) (qq1 n) qxw (q00 Tryz.f157) [.tmp 2] (qdp n).args (qdp n).res a:=by intro a;kernel_rfl
theorem jci (n:Nat):q0c Inv Tryz.prog (qdp n):=fun G hG=>⟨⟨by kernel_rfl,fun a r h=>q03 (c:=q00 Tryz.f157) Tryz.func157 (by kernel_rfl) (by kernel_rfl) (Nat.le_of_ble_eq_true (by kernel_rfl)) hG.st (by kernel_rfl) (rs:=[.tmp 2]) (by kernel_rfl) (qxe n hG) (lts:=qq1 n) (fun F hF hFG=>have hK:Know Inv F.G:=hFG ▸ hG;(q02 (c:=(q00 Tryz.f157)) (fun j L h1 h2 h3=>by
  have h2':j<1:=Nat.lt_of_lt_of_le h2 (by decide +kernel)
  match j,h1,h2',h3 with
  | 0,_,_,h3=>obtain rfl:=Option.some.inj h3;exact (show q01 0 0 (q00 Tryz.f157)=q01 0 0 (q00 Tryz.f157) by kernel_rfl) ▸ jh8 n hF hK
  | j+1,_,h2',_=>exact absurd h2' (by omega)))) jf7 ((jq8 n a).symm.trans h)⟩,rfl⟩
@[reducible] def qdr:SSt:=⟨[(1,.one (.c (.box 1 0))),(11,.one (.agg [.d (.int .i64),.d (.int .i64),.d (.int .i64)])),(12,.one (.c (.d (.int .i64))))],[(1,(44,[.d (.int .i64),.d (.int .i64),.d (.int .i64),.d .str,.d .str]))],[]⟩
@[reducible] def q71:List (Exit×SSt):=[(.ret,⟨[(2,.one (.c (.d .bool)))],[],[]⟩),(.exit 0,⟨[(1,.one (.c (.box 1 0)))],[(1,(44,[.d (.int .i64),.d (.int .i64),.d (.int .i64),.d .str,.d .str]))],[]⟩)]
def qii (n:Nat) (rec:Int->Int->Int->Int->Int->Int->Int->(List UInt8)->(List UInt8)->Option (((Bool×(Unit))×(Unit)×(Unit))⊕((Unit×(Unit))×((Int×(Int×(Int×((List UInt8)×(List UInt8)))))×(Unit))×(Unit)))) (a1:Int) (a2:Int) (a3:Int) (a4:Int) (a5:Int) (a6:Int) (a7:Int) (a8:List UInt8) (a9:List UInt8):Option (((Bool×(Unit))×(Unit)×(Unit))⊕((Unit×(Unit))×((Int×(Int×(Int×((List UInt8)×(List UInt8)))))×(Unit))×(Unit))) :=
 (bif decide (a4<(3:Int)) then (q0z ([a1,a2,a3]:List (Int)) a4).bind fun (x1:Int)=>(bif decide (x1<(0:Int)) then some (Sum.inl ((false,()),((),()))) else (bif decide ((999999999:Int)<x1) then some (Sum.inl ((false,()),((),()))) else q05 (IntKind.wrap .i64 (a4+(1:Int))) fun (n2:Int)=>rec a1 a2 a3 n2 a5 a6 a7 a8 a9)) else some (Sum.inr ((((),()),(((a5,(a6,(a7,(a8,a9)))),()),())))))
def qpt (n:Nat) (rec:pSt qdr->Option (q0d q71)) (p:pSt qdr):Option (q0d q71):=qii n (fun a1 a2 a3 a4 a5 a6 a7 a8 a9=>rec (((),((a1,(a2,a3)),(a4,()))),(((a5,(a6,(a7,(a8,a9)))),()),()))) p.1.2.1.1 p.1.2.1.2.1 p.1.2.1.2.2 p.1.2.2.1 p.2.1.1.1 p.2.1.1.2.1 p.2.1.1.2.2.1 p.2.1.1.2.2.2.1 p.2.1.1.2.2.2.2
def q52 (n m:Nat) (a1:Int) (a2:Int) (a3:Int) (a4:Int) (a5:Int) (a6:Int) (a7:Int) (a8:List UInt8) (a9:List UInt8):Option (((Bool×(Unit))×(Unit)×(Unit))⊕((Unit×(Unit))×((Int×(Int×(Int×((List UInt8)×(List UInt8)))))×(Unit))×(Unit))):=q0e (qpt n) m (((),((a1,(a2,a3)),(a4,()))),(((a5,(a6,(a7,(a8,a9)))),()),()))
theorem q8m (n m:Nat) (a1:Int) (a2:Int) (a3:Int) (a4:Int) (a5:Int) (a6:Int) (a7:Int) (a8:List UInt8) (a9:List UInt8):q52 n (m+1) a1 a2 a3 a4 a5 a6 a7 a8 a9=qii n (fun a1 a2 a3 a4 a5 a6 a7 a8 a9=>q52 n m a1 a2 a3 a4 a5 a6 a7 a8 a9) a1 a2 a3 a4 a5 a6 a7 a8 a9:=rfl
def j51 (n:Nat):LC:={ sh:=qdr,outs:=q71,F:=q0e (qpt n) n }
def qje (n:Nat):List LC:=[j51 n]
def q7r (n:Nat) (a1:Int×(Int×(Int×((List UInt8)×(List UInt8))))):Option (Bool) :=
 (q52 n n a1.1 a1.2.1 a1.2.2.1 (0:Int) a1.1 a1.2.1 a1.2.2.1 a1.2.2.2.1 a1.2.2.2.2).bind fun (o3:((Bool×(Unit))×(Unit)×(Unit))⊕((Unit×(Unit))×((Int×(Int×(Int×((List UInt8)×(List UInt8)))))×(Unit))×(Unit)))=>Sum.elim (fun (q4:(Bool×(Unit))×(Unit)×(Unit))=>some q4.1.1) (fun (q5:(Unit×(Unit))×((Int×(Int×(Int×((List UInt8)×(List UInt8)))))×(Unit))×(Unit))=>(qs2 q5.2.1.1.2.2.2.1 ()).bind fun (r6:Bool)=>(bif r6 then (qkr q5.2.1.1.2.2.2.2 ()).bind fun (r7:Bool)=>some r7 else some false)) o3
def q4w (n:Nat):FC:={ f:=74,args:=[.one (.agg [.d (.int .i64),.d (.int .i64),.d (.int .i64),.d .str,.d .str])],res:=.one (.c (.d .bool)),F:=fun p=>q7r n p }
def qpm (n:Nat):List FC:=[qxi,qtb]
theorem qs8 (n:Nat) {G:World->Prop} (hG:Know Inv G) : ∀c∈qpm n,q0w Tryz.prog G c/\q09 c.args=true:=List.forall_mem_cons.2 ⟨jhs G hG,List.forall_mem_cons.2 ⟨j9s G hG,(fun _ h=>by cases h)⟩⟩
def qtj:q08:=[]
theorem j39:drB qtj (q00 Tryz.f74)=true:=by kernel_rfl
theorem jif (n:Nat) : ∀rec p,qpt n rec p=round Tryz.prog 30 (qpm n) (qje n) qtj 1 qdr q71 (q01 0 0 (q00 Tryz.f74)) rec p:=by intro rec p;kernel_rfl
theorem j9c (n:Nat) {F:Fr} (hF:F.n=30) (hK:Know Inv F.G):q6a Tryz.prog F (j51 n) (q01 0 0 (q00 Tryz.f74)) :=
 q0g hF (by kernel_rfl) (qs8 n hK) (jif n) (fuel:=n) (fun _=>rfl) (q02 fun j L h1 h2 h3=>absurd h2 (Nat.not_lt.2 (Nat.le_trans (by decide +kernel) h1))) (q0n j39)
theorem jlh (n:Nat) : ∀a,(q4w n).F a=main Tryz.prog 30 (qpm n) (qje n) qtj (q00 Tryz.f74) [.tmp 2] (q4w n).args (q4w n).res a:=by intro a;kernel_rfl
theorem qh7 (n:Nat):q0c Inv Tryz.prog (q4w n):=fun G hG=>⟨⟨by kernel_rfl,fun a r h=>q03 (c:=q00 Tryz.f74) Tryz.func74 (by kernel_rfl) (by kernel_rfl) (Nat.le_of_ble_eq_true (by kernel_rfl)) hG.st (by kernel_rfl) (rs:=[.tmp 2]) (by kernel_rfl) (qs8 n hG) (lts:=qje n) (fun F hF hFG=>have hK:Know Inv F.G:=hFG ▸ hG;(q02 (c:=(q00 Tryz.f74)) (fun j L h1 h2 h3=>by
  have h2':j<1:=Nat.lt_of_lt_of_le h2 (by decide +kernel)
  match j,h1,h2',h3 with
  | 0,_,_,h3=>obtain rfl:=Option.some.inj h3;exact (show q01 0 0 (q00 Tryz.f74)=q01 0 0 (q00 Tryz.f74) by kernel_rfl) ▸ j9c n hF hK
  | j+1,_,h2',_=>exact absurd h2' (by omega)))) j39 ((jlh n a).symm.trans h)⟩,rfl⟩
def j6q (n:Nat):List LC:=[]
def qam (n:Nat) (a1:Int×(Int×(Int×((List UInt8)×(List UInt8))))):Option (List UInt8) :=
 (q7r n a1).bind fun (r1:Bool)=>(bif !r1 then some ([]:List UInt8) else (qtw a1.1).bind fun (r2:List UInt8)=>(q6q ([118]:List UInt8) r2).bind fun (s3:List UInt8)=>(q6q s3 ([46]:List UInt8)).bind fun (s4:List UInt8)=>(qtw a1.2.1).bind fun (r5:List UInt8)=>(q6q s4 r5).bind fun (s6:List UInt8)=>(q6q s6 ([46]:List UInt8)).bind fun (s7:List UInt8)=>(qtw a1.2.2.1).bind fun (r8:List UInt8)=>(q6q s7 r8).bind fun (s9:List UInt8)=>(bif !decide (a1.2.2.2.1=([]:List UInt8)) then (q6q ([45]:List UInt8) a1.2.2.2.1).bind fun (s10:List UInt8)=>(q6q s9 s10).bind fun (s11:List UInt8)=>(bif !decide (a1.2.2.2.2=([]:List UInt8)) then (q6q ([43]:List UInt8) a1.2.2.2.2).bind fun (s12:List UInt8)=>(q6q s11 s12).bind fun (s13:List UInt8)=>some s13 else some s11) else (bif !decide (a1.2.2.2.2=([]:List UInt8)) then (q6q ([43]:List UInt8) a1.2.2.2.2).bind fun (s14:List UInt8)=>(q6q s9 s14).bind fun (s15:List UInt8)=>some s15 else some s9)))
def q9m (n:Nat):FC:={ f:=47,args:=[.one (.agg [.d (.int .i64),.d (.int .i64),.d (.int .i64),.d .str,.d .str])],res:=.one (.c (.d .str)),F:=fun p=>qam n p }
def jea (n:Nat):List FC:=[q4w n,jp5]
theorem jhg (n:Nat) {G:World->Prop} (hG:Know Inv G) : ∀c∈jea n,q0w Tryz.prog G c/\q09 c.args=true:=List.forall_mem_cons.2 ⟨qh7 n G hG,List.forall_mem_cons.2 ⟨jyb G hG,(fun _ h=>by cases h)⟩⟩
def jdv:q08:=[(3,[⟨12582936,2^21,0⟩,⟨102760464,2^24,1⟩,⟨49*2^24,2^27,3⟩,⟨49*2^27,2^30,7⟩,⟨49*2^30,2^33,15⟩,⟨412316860440,2^36,0⟩,⟨3367254360080,2^39,32⟩,⟨49*2^39,2^42,103⟩,⟨25089*2^33,2^45,255⟩,⟨49*2^45,2^48,511⟩,⟨13510798882111512,2^51,0⟩,⟨110338190870577168,2^54,1024⟩,⟨49*2^54,2^57,3303⟩,⟨25089*2^48,2^60,8191⟩,⟨1152921504606850048,512,16383⟩]),(1000003,[])]
theorem jti:drB jdv (q00 Tryz.f47)=true:=by kernel_rfl
theorem jra (n:Nat) : ∀a,(q9m n).F a=main Tryz.prog 38 (jea n) (j6q n) jdv (q00 Tryz.f47) [.tmp 2] (q9m n).args (q9m n).res a:=by intro a;kernel_rfl
theorem qzn (n:Nat):q0c Inv Tryz.prog (q9m n):=fun G hG=>⟨⟨by kernel_rfl,fun a r h=>q03 (c:=q00 Tryz.f47) Tryz.func47 (by kernel_rfl) (by kernel_rfl) (Nat.le_of_ble_eq_true (by kernel_rfl)) hG.st (by kernel_rfl) (rs:=[.tmp 2]) (by kernel_rfl) (jhg n hG) (lts:=j6q n) (fun F hF hFG=>have hK:Know Inv F.G:=hFG ▸ hG;(q02 fun j L h1 h2 h3=>absurd h2 (Nat.not_lt.2 (Nat.le_trans (by decide +kernel) h1)))) jti ((jra n a).symm.trans h)⟩,rfl⟩
def qv8 (n:Nat):List LC:=[]
def qd5 (n:Nat) (a1:List UInt8):Option ((Int×(Int×(Int×((List UInt8)×(List UInt8)))))×(Bool)) :=
 (j5n n a1 ([43]:List UInt8)).bind fun (r1:(List UInt8)×((List UInt8)×(Bool)))=>(j5n n r1.1 ([45]:List UInt8)).bind fun (r2:(List UInt8)×((List UInt8)×(Bool)))=>(q7e n r2.1 ([118]:List UInt8)).bind fun (r3:List UInt8)=>(j5n n r3 ([46]:List UInt8)).bind fun (r4:(List UInt8)×((List UInt8)×(Bool)))=>(j5n n r4.2.1 ([46]:List UInt8)).bind fun (r5:(List UInt8)×((List UInt8)×(Bool)))=>(q5e r4.1).bind fun (r6:Int)=>(q5e r5.1).bind fun (r7:Int)=>(q5e r5.2.1).bind fun (r8:Int)=>(q7r n (r6,(r7,(r8,(r2.2.1,r1.2.1))))).bind fun (r9:Bool)=>(bif !r9 then some (((0:Int),((0:Int),((0:Int),(([]:List UInt8),([]:List UInt8))))),false) else (qam n (r6,(r7,(r8,(r2.2.1,r1.2.1))))).bind fun (r10:List UInt8)=>(bif !decide (r10=a1) then some (((0:Int),((0:Int),((0:Int),(([]:List UInt8),([]:List UInt8))))),false) else some ((r6,(r7,(r8,(r2.2.1,r1.2.1)))),true)))
def q8x (n:Nat):FC:={ f:=120,args:=[.one (.c (.d .str))],res:=.tup [.agg [.d (.int .i64),.d (.int .i64),.d (.int .i64),.d .str,.d .str],.c (.d .bool)],F:=fun p=>qd5 n p }
def j1v (n:Nat):List FC:=[qva n,q3k n,j5a,q4w n,q9m n]
theorem j8q (n:Nat) {G:World->Prop} (hG:Know Inv G) : ∀c∈j1v n,q0w Tryz.prog G c/\q09 c.args=true:=List.forall_mem_cons.2 ⟨jux n G hG,List.forall_mem_cons.2 ⟨qfz n G hG,List.forall_mem_cons.2 ⟨jn5 G hG,List.forall_mem_cons.2 ⟨qh7 n G hG,List.forall_mem_cons.2 ⟨qzn n G hG,(fun _ h=>by cases h)⟩⟩⟩⟩⟩
def j65:q08:=[]
theorem jnx:drB j65 (q00 Tryz.f120)=true:=by kernel_rfl
theorem jj3 (n:Nat) : ∀a,(q8x n).F a=main Tryz.prog 62 (j1v n) (qv8 n) j65 (q00 Tryz.f120) [.cell 2 44,.tmp 3] (q8x n).args (q8x n).res a:=by intro a;kernel_rfl
theorem j4s (n:Nat):q0c Inv Tryz.prog (q8x n):=fun G hG=>⟨⟨by kernel_rfl,fun a r h=>q03 (c:=q00 Tryz.f120) Tryz.func120 (by kernel_rfl) (by kernel_rfl) (Nat.le_of_ble_eq_true (by kernel_rfl)) hG.st (by kernel_rfl) (rs:=[.cell 2 44,.tmp 3]) (by kernel_rfl) (j8q n hG) (lts:=qv8 n) (fun F hF hFG=>have hK:Know Inv F.G:=hFG ▸ hG;(q02 fun j L h1 h2 h3=>absurd h2 (Nat.not_lt.2 (Nat.le_trans (by decide +kernel) h1)))) jnx ((jj3 n a).symm.trans h)⟩,rfl⟩
def j3k (n:Nat):List LC:=[]
def qzx (n:Nat) (a1:List UInt8) (a2:List UInt8):Option (Int) :=
 (q64 n a1).bind fun (r1:Bool)=>(q64 n a2).bind fun (r2:Bool)=>(bif r1 then (bif r2 then (q9e n ((List.length a1:Nat):Int) ((List.length a2:Nat):Int)).bind fun (r3:Int)=>(qge a1 a2).bind fun (r4:Int)=>(qor n ([r3,r4]:List (Int))).bind fun (r5:Int)=>some r5 else (bif r1 then some (-1:Int) else (bif r2 then some (1:Int) else (qge a1 a2).bind fun (r6:Int)=>some r6))) else (bif r1 then some (-1:Int) else (bif r2 then some (1:Int) else (qge a1 a2).bind fun (r7:Int)=>some r7)))
def qhx (n:Nat):FC:={ f:=186,args:=[.one (.c (.d .str)),.one (.c (.d .str))],res:=.one (.c (.d (.int .i64))),F:=fun p=>qzx n p.1 p.2 }
def jdh (n:Nat):List FC:=[q4e n,q8r n,qvf,qdp n]
theorem jhn (n:Nat) {G:World->Prop} (hG:Know Inv G) : ∀c∈jdh n,q0w Tryz.prog G c/\q09 c.args=true:=List.forall_mem_cons.2 ⟨qsr n G hG,List.forall_mem_cons.2 ⟨j3p n G hG,List.forall_mem_cons.2 ⟨jhu G hG,List.forall_mem_cons.2 ⟨jci n G hG,(fun _ h=>by cases h)⟩⟩⟩⟩
def jcs:q08:=[]
theorem jtp:drB jcs (q00 Tryz.f186)=true:=by kernel_rfl
theorem jqe (n:Nat) : ∀a,(qhx n).F a=main Tryz.prog 33 (jdh n) (j3k n) jcs (q00 Tryz.f186) [.tmp 4] (qhx n).args (qhx n).res a:=by intro a;kernel_rfl
theorem jt7 (n:Nat):q0c Inv Tryz.prog (qhx n):=fun G hG=>⟨⟨by kernel_rfl,fun a r h=>q03 (c:=q00 Tryz.f186) Tryz.func186 (by kernel_rfl) (by kernel_rfl) (Nat.le_of_ble_eq_true (by kernel_rfl)) hG.st (by kernel_rfl) (rs:=[.tmp 4]) (by kernel_rfl) (jhn n hG) (lts:=j3k n) (fun F hF hFG=>have hK:Know Inv F.G:=hFG ▸ hG;(q02 fun j L h1 h2 h3=>absurd h2 (Nat.not_lt.2 (Nat.le_trans (by decide +kernel) h1)))) jtp ((jqe n a).symm.trans h)⟩,rfl⟩
@[reducible] def q9n:SSt:=⟨[(0,.one (.c (.d (.lst .str)))),(1,.one (.c (.d (.lst .str)))),(2,.one (.c (.fn 186 []))),(11,.one (.c (.d (.lst .str)))),(12,.one (.c (.d (.int .i64)))),(13,.one (.c (.d (.int .i64))))],[],[]⟩
@[reducible] def q5y:List (Exit×SSt):=[(.ret,⟨[(6,.one (.c (.d (.int .i64))))],[],[]⟩),(.exit 0,⟨[(0,.one (.c (.d (.lst .str)))),(1,.one (.c (.d (.lst .str))))],[],[]⟩)]
def qkt (n:Nat) (rec:(List (List UInt8))->(List (List UInt8))->(List (List UInt8))->Int->Int->Option (((Int×(Unit))×(Unit)×(Unit))⊕(((List (List UInt8))×((List (List UInt8))×(Unit)))×(Unit)×(Unit)))) (a1:List (List UInt8)) (a2:List (List UInt8)) (a3:List (List UInt8)) (a4:Int) (a5:Int):Option (((Int×(Unit))×(Unit)×(Unit))⊕(((List (List UInt8))×((List (List UInt8))×(Unit)))×(Unit)×(Unit))) :=
 (bif decide (a5<a4) then (q0z a3 a5).bind fun (x1:List UInt8)=>(bif decide (((List.length a2:Nat):Int)<=a5) then some (Sum.inl (((1:Int),()),((),()))) else (q0z a2 a5).bind fun (x2:List UInt8)=>(qzx n x1 x2).bind fun (r3:Int)=>(bif !decide (r3=(0:Int)) then some (Sum.inl ((r3,()),((),()))) else q05 (IntKind.wrap .i64 (a5+(1:Int))) fun (n4:Int)=>rec a1 a2 a3 a4 n4)) else some (Sum.inr (((a1,(a2,())),((),())))))
def qiv (n:Nat) (rec:pSt q9n->Option (q0d q5y)) (p:pSt q9n):Option (q0d q5y):=qkt n (fun a1 a2 a3 a4 a5=>rec ((a1,(a2,((),(a3,(a4,(a5,())))))),((),()))) p.1.1 p.1.2.1 p.1.2.2.2.1 p.1.2.2.2.2.1 p.1.2.2.2.2.2.1
def q5i (n m:Nat) (a1:List (List UInt8)) (a2:List (List UInt8)) (a3:List (List UInt8)) (a4:Int) (a5:Int):Option (((Int×(Unit))×(Unit)×(Unit))⊕(((List (List UInt8))×((List (List UInt8))×(Unit)))×(Unit)×(Unit))):=q0e (qiv n) m ((a1,(a2,((),(a3,(a4,(a5,())))))),((),()))
theorem qhh (n m:Nat) (a1:List (List UInt8)) (a2:List (List UInt8)) (a3:List (List UInt8)) (a4:Int) (a5:Int):q5i n (m+1) a1 a2 a3 a4 a5=qkt n (fun a1 a2 a3 a4 a5=>q5i n m a1 a2 a3 a4 a5) a1 a2 a3 a4 a5:=rfl
def qw0 (n:Nat):LC:={ sh:=q9n,outs:=q5y,F:=q0e (qiv n) n }
def qf1 (n:Nat):List LC:=[qw0 n]
def qp4 (n:Nat) (a1:List (List UInt8)) (a2:List (List UInt8)) (a3:Unit):Option (Int) :=
 (q5i n n a1 a2 a1 ((List.length a1:Nat):Int) (0:Int)).bind fun (o5:((Int×(Unit))×(Unit)×(Unit))⊕(((List (List UInt8))×((List (List UInt8))×(Unit)))×(Unit)×(Unit)))=>Sum.elim (fun (q6:(Int×(Unit))×(Unit)×(Unit))=>some q6.1.1) (fun (q7:((List (List UInt8))×((List (List UInt8))×(Unit)))×(Unit)×(Unit))=>(bif decide (((List.length q7.1.1:Nat):Int)<((List.length q7.1.2.1:Nat):Int)) then some (-1:Int) else some (0:Int))) o5
def q8e (n:Nat):FC:={ f:=185,args:=[.one (.c (.d (.lst .str))),.one (.c (.d (.lst .str))),.one (.c (.fn 186 []))],res:=.one (.c (.d (.int .i64))),F:=fun p=>qp4 n p.1 p.2.1 p.2.2 }
def ql1 (n:Nat):List FC:=[qhx n]
theorem qm8 (n:Nat) {G:World->Prop} (hG:Know Inv G) : ∀c∈ql1 n,q0w Tryz.prog G c/\q09 c.args=true:=List.forall_mem_cons.2 ⟨jt7 n G hG,(fun _ h=>by cases h)⟩
def qkh:q08:=[]
theorem qwe:drB qkh (q00 Tryz.f185)=true:=by kernel_rfl
theorem j96 (n:Nat) : ∀rec p,qiv n rec p=round Tryz.prog 39 (ql1 n) (qf1 n) qkh 1 q9n q5y (q01 0 0 (q00 Tryz.f185)) rec p:=by intro rec p;kernel_rfl
theorem j27 (n:Nat) {F:Fr} (hF:F.n=39) (hK:Know Inv F.G):q6a Tryz.prog F (qw0 n) (q01 0 0 (q00 Tryz.f185)) :=
 q0g hF (by kernel_rfl) (qm8 n hK) (j96 n) (fuel:=n) (fun _=>rfl) (q02 fun j L h1 h2 h3=>absurd h2 (Nat.not_lt.2 (Nat.le_trans (by decide +kernel) h1))) (q0n qwe)
theorem jgd (n:Nat) : ∀a,(q8e n).F a=main Tryz.prog 39 (ql1 n) (qf1 n) qkh (q00 Tryz.f185) [.tmp 6] (q8e n).args (q8e n).res a:=by intro a;kernel_rfl
theorem jim (n:Nat):q0c Inv Tryz.prog (q8e n):=fun G hG=>⟨⟨by kernel_rfl,fun a r h=>q03 (c:=q00 Tryz.f185) Tryz.func185 (by kernel_rfl) (by kernel_rfl) (Nat.le_of_ble_eq_true (by kernel_rfl)) hG.st (by kernel_rfl) (rs:=[.tmp 6]) (by kernel_rfl) (qm8 n hG) (lts:=qf1 n) (fun F hF hFG=>have hK:Know Inv F.G:=hFG ▸ hG;(q02 (c:=(q00 Tryz.f185)) (fun j L h1 h2 h3=>by
  have h2':j<1:=Nat.lt_of_lt_of_le h2 (by decide +kernel)
  match j,h1,h2',h3 with
  | 0,_,_,h3=>obtain rfl:=Option.some.inj h3;exact (show q01 0 0 (q00 Tryz.f185)=q01 0 0 (q00 Tryz.f185) by kernel_rfl) ▸ j27 n hF hK
  | j+1,_,h2',_=>exact absurd h2' (by omega)))) qwe ((jgd n a).symm.trans h)⟩,rfl⟩
def jdn (n:Nat):List LC:=[]
def jc7 (n:Nat) (a1:List UInt8) (a2:List UInt8):Option (Int) :=
 (bif decide (a1=a2) then some (0:Int) else (bif decide (a1=([]:List UInt8)) then some (1:Int) else (bif decide (a2=([]:List UInt8)) then some (-1:Int) else (q9j a1 ([46]:List UInt8)).bind fun (r1:List (List UInt8))=>(q9j a2 ([46]:List UInt8)).bind fun (r2:List (List UInt8))=>(qp4 n r1 r2 ()).bind fun (r3:Int)=>some r3)))
def qtz (n:Nat):FC:={ f:=159,args:=[.one (.c (.d .str)),.one (.c (.d .str))],res:=.one (.c (.d (.int .i64))),F:=fun p=>jc7 n p.1 p.2 }
def jnm (n:Nat):List FC:=[qyk,q8e n]
theorem jmj (n:Nat) {G:World->Prop} (hG:Know Inv G) : ∀c∈jnm n,q0w Tryz.prog G c/\q09 c.args=true:=List.forall_mem_cons.2 ⟨jfn G hG,List.forall_mem_cons.2 ⟨jim n G hG,(fun _ h=>by cases h)⟩⟩
def jjq:q08:=[]
theorem jxg:drB jjq (q00 Tryz.f159)=true:=by kernel_rfl
theorem jwo (n:Nat) : ∀a,(qtz n).F a=main Tryz.prog 20 (jnm n) (jdn n) jjq (q00 Tryz.f159) [.tmp 4] (qtz n).args (qtz n).res a:=by intro a;kernel_rfl
theorem jvk (n:Nat):q0c Inv Tryz.prog (qtz n):=fun G hG=>⟨⟨by kernel_rfl,fun a r h=>q03 (c:=q00 Tryz.f159) Tryz.func159 (by kernel_rfl) (by kernel_rfl) (Nat.le_of_ble_eq_true (by kernel_rfl)) hG.st (by kernel_rfl) (rs:=[.tmp 4]) (by kernel_rfl) (jmj n hG) (lts:=jdn n) (fun F hF hFG=>have hK:Know Inv F.G:=hFG ▸ hG;(q02 fun j L h1 h2 h3=>absurd h2 (Nat.not_lt.2 (Nat.le_trans (by decide +kernel) h1)))) jxg ((jwo n a).symm.trans h)⟩,rfl⟩
def qm6 (n:Nat):List LC:=[]
def qd3 (n:Nat) (a1:Int×(Int×(Int×((List UInt8)×(List UInt8))))) (a2:Int×(Int×(Int×((List UInt8)×(List UInt8))))):Option (Int) :=
 (q7r n a1).bind fun (r1:Bool)=>(bif !r1 then some (0:Int) else (q7r n a2).bind fun (r2:Bool)=>(bif !r2 then some (0:Int) else (q9e n a1.1 a2.1).bind fun (r3:Int)=>(q9e n a1.2.1 a2.2.1).bind fun (r4:Int)=>(q9e n a1.2.2.1 a2.2.2.1).bind fun (r5:Int)=>(jc7 n a1.2.2.2.1 a2.2.2.2.1).bind fun (r6:Int)=>(qor n ([r3,r4,r5,r6]:List (Int))).bind fun (r7:Int)=>some r7))
def q6k (n:Nat):FC:={ f:=121,args:=[.one (.agg [.d (.int .i64),.d (.int .i64),.d (.int .i64),.d .str,.d .str]),.one (.agg [.d (.int .i64),.d (.int .i64),.d (.int .i64),.d .str,.d .str])],res:=.one (.c (.d (.int .i64))),F:=fun p=>qd3 n p.1 p.2 }
def qqz (n:Nat):List FC:=[q4w n,q8r n,qtz n,qdp n]
theorem qyu (n:Nat) {G:World->Prop} (hG:Know Inv G) : ∀c∈qqz n,q0w Tryz.prog G c/\q09 c.args=true:=List.forall_mem_cons.2 ⟨qh7 n G hG,List.forall_mem_cons.2 ⟨j3p n G hG,List.forall_mem_cons.2 ⟨jvk n G hG,List.forall_mem_cons.2 ⟨jci n G hG,(fun _ h=>by cases h)⟩⟩⟩⟩
def qpp:q08:=[(3,[⟨3298534883520,2^39,0⟩,⟨26938034880640,2^42,1⟩,⟨211106232534528,2^45,0⟩,⟨1724034232353792,2^48,4⟩,⟨3137*2^42,2^51,15⟩,⟨108086391056892096,2^54,0⟩,⟨882705526964617344,2^57,32⟩,⟨6917529027641083392,2^60,0⟩,⟨56493153725735502848,2^63,128⟩,⟨3137*2^57,2^66,511⟩,⟨3541774862152233910464,2^69,0⟩,⟨28924494707576576934016,2^72,1024⟩,⟨226673591177742970258944,2^75,0⟩,⟨1851167661284900923769856,2^78,4096⟩,⟨3137*2^72,2^81,16383⟩,⟨116056878683004400771793088,2^84,0⟩,⟨947797842577869272969642112,2^87,32768⟩,⟨7427640235712281649394746880,2^90,0⟩,⟨60659061924983633470057088000,2^93,2^17⟩,⟨3137*2^87,2^96,524287⟩,⟨1724035306127361*2^51,5*2^99,1048575⟩,⟨53*2^99,2^102,2097151⟩,⟨5070602400912917605986812846080,4096,4194303⟩])]
theorem j8r:drB qpp (q00 Tryz.f121)=true:=by kernel_rfl
theorem j9z (n:Nat) : ∀a,(q6k n).F a=main Tryz.prog 35 (qqz n) (qm6 n) qpp (q00 Tryz.f121) [.tmp 4] (q6k n).args (q6k n).res a:=by intro a;kernel_rfl
theorem j83 (n:Nat):q0c Inv Tryz.prog (q6k n):=fun G hG=>⟨⟨by kernel_rfl,fun a r h=>q03 (c:=q00 Tryz.f121) Tryz.func121 (by kernel_rfl) (by kernel_rfl) (Nat.le_of_ble_eq_true (by kernel_rfl)) hG.st (by kernel_rfl) (rs:=[.tmp 4]) (by kernel_rfl) (qyu n hG) (lts:=qm6 n) (fun F hF hFG=>have hK:Know Inv F.G:=hFG ▸ hG;(q02 fun j L h1 h2 h3=>absurd h2 (Nat.not_lt.2 (Nat.le_trans (by decide +kernel) h1)))) j8r ((j9z n a).symm.trans h)⟩,rfl⟩
@[reducible] def q23:SSt:=⟨[(0,.one (.c (.d .str))),(1,.one (.c (.d (.int .u8)))),(5,.one (.c (.row 31))),(6,.one (.c (.d (.int .i64)))),(7,.one (.c (.d (.int .i64))))],[],[(31,⟨9,true,.str⟩)]⟩
@[reducible] def q1d:List (Exit×SSt):=[(.exit 0,⟨[(5,.one (.c (.row 31)))],[],[(31,⟨9,true,.str⟩)]⟩)]
def q2u (n:Nat) (rec:(List UInt8)->Int->Int->Int->(List (List UInt8))->Option ((Unit×(Unit))×(Unit)×((List (List UInt8))×(Unit)))) (a1:List UInt8) (a2:Int) (a3:Int) (a4:Int) (a5:List (List UInt8)):Option ((Unit×(Unit))×(Unit)×((List (List UInt8))×(Unit))) :=
 (bif decide (a4<=((List.length a1:Nat):Int)) then (bif decide (a4=((List.length a1:Nat):Int)) then (q2k a1 a3 a4).bind fun (s1:List UInt8)=>(q4q 16 a5 ([s1]:List (List UInt8))).bind fun (l2:List (List UInt8))=>q05 (IntKind.wrap .i64 (a4+(1:Int))) fun (n3:Int)=>q05 (IntKind.wrap .i64 (a4+(1:Int))) fun (n4:Int)=>rec a1 a2 n3 n4 l2 else (sAt a1 a4).bind fun (c5:Int)=>(bif decide (c5=a2) then (q2k a1 a3 a4).bind fun (s6:List UInt8)=>(q4q 16 a5 ([s6]:List (List UInt8))).bind fun (l7:List (List UInt8))=>q05 (IntKind.wrap .i64 (a4+(1:Int))) fun (n8:Int)=>q05 (IntKind.wrap .i64 (a4+(1:Int))) fun (n9:Int)=>rec a1 a2 n8 n9 l7 else q05 (IntKind.wrap .i64 (a4+(1:Int))) fun (n10:Int)=>rec a1 a2 a3 n10 a5)) else some ((((),()),((),(a5,())))))
def q49 (n:Nat) (rec:pSt q23->Option (q0d q1d)) (p:pSt q23):Option (q0d q1d):=q2u n (fun a1 a2 a3 a4 a5=>rec ((a1,(a2,((),(a3,(a4,()))))),((),(a5,())))) p.1.1 p.1.2.1 p.1.2.2.2.1 p.1.2.2.2.2.1 p.2.2.1
def q1b (n m:Nat) (a1:List UInt8) (a2:Int) (a3:Int) (a4:Int) (a5:List (List UInt8)):Option ((Unit×(Unit))×(Unit)×((List (List UInt8))×(Unit))):=q0e (q49 n) m ((a1,(a2,((),(a3,(a4,()))))),((),(a5,())))
theorem q1p (n m:Nat) (a1:List UInt8) (a2:Int) (a3:Int) (a4:Int) (a5:List (List UInt8)):q1b n (m+1) a1 a2 a3 a4 a5=q2u n (fun a1 a2 a3 a4 a5=>q1b n m a1 a2 a3 a4 a5) a1 a2 a3 a4 a5:=rfl
def q8z (n:Nat):LC:={ sh:=q23,outs:=q1d,F:=q0e (q49 n) n }
def q3e (n:Nat):List LC:=[q8z n]
def q2b (n:Nat) (a1:List UInt8) (a2:Int):Option (List (List UInt8)) :=
 (q1b n n a1 a2 (0:Int) (0:Int) []).bind fun (o11:(Unit×(Unit))×(Unit)×((List (List UInt8))×(Unit)))=>some o11.2.2.1
def q1l (n:Nat):FC:={ f:=41,args:=[.one (.c (.d .str)),.one (.c (.d (.int .u8)))],res:=.one (.c (.d (.lst .str))),F:=fun p=>q2b n p.1 p.2 }
def q48 (n:Nat):List FC:=[]
theorem q50 (n:Nat) {G:World->Prop} (hG:Know Inv G) : ∀c∈q48 n,q0w Tryz.prog G c/\q09 c.args=true:=(fun _ h=>by cases h)
def q4a:q08:=[]
theorem q97:drB q4a (q00 Tryz.f41)=true:=by kernel_rfl
theorem qf0 (n:Nat) : ∀rec p,q49 n rec p=round Tryz.prog 35 (q48 n) (q3e n) q4a 1 q23 q1d (q01 0 0 (q00 Tryz.f41)) rec p:=by intro rec p;kernel_rfl
theorem qbp (n:Nat) {F:Fr} (hF:F.n=35) (hK:Know Inv F.G):q6a Tryz.prog F (q8z n) (q01 0 0 (q00 Tryz.f41)) :=
 q0g hF (by kernel_rfl) (q50 n hK) (qf0 n) (fuel:=n) (fun _=>rfl) (q02 fun j L h1 h2 h3=>absurd h2 (Nat.not_lt.2 (Nat.le_trans (by decide +kernel) h1))) (q0n q97)
theorem qk3 (n:Nat) : ∀a,(q1l n).F a=main Tryz.prog 35 (q48 n) (q3e n) q4a (q00 Tryz.f41) [.tmp 4] (q1l n).args (q1l n).res a:=by intro a;kernel_rfl
theorem q8f (n:Nat):q0c Inv Tryz.prog (q1l n):=fun G hG=>⟨⟨by kernel_rfl,fun a r h=>q03 (c:=q00 Tryz.f41) Tryz.func41 (by kernel_rfl) (by kernel_rfl) (Nat.le_of_ble_eq_true (by kernel_rfl)) hG.st (by kernel_rfl) (rs:=[.tmp 4]) (by kernel_rfl) (q50 n hG) (lts:=q3e n) (fun F hF hFG=>have hK:Know Inv F.G:=hFG ▸ hG;(q02 (c:=(q00 Tryz.f41)) (fun j L h1 h2 h3=>by
  have h2':j<1:=Nat.lt_of_lt_of_le h2 (by decide +kernel)
  match j,h1,h2',h3 with
  | 0,_,_,h3=>obtain rfl:=Option.some.inj h3;exact (show q01 0 0 (q00 Tryz.f41)=q01 0 0 (q00 Tryz.f41) by kernel_rfl) ▸ qbp n hF hK
  | j+1,_,h2',_=>exact absurd h2' (by omega)))) q97 ((qk3 n a).symm.trans h)⟩,rfl⟩
@[reducible] def qa0:SSt:=⟨[(0,.one (.c (.d .str))),(3,.one (.c (.d (.int .i64))))],[],[]⟩
@[reducible] def q60:List (Exit×SSt):=[(.ret,⟨[(2,.one (.c (.d .bool)))],[],[]⟩),(.exit 0,⟨[(0,.one (.c (.d .str)))],[],[]⟩)]
def qjn (n:Nat) (rec:(List UInt8)->Int->Option (((Bool×(Unit))×(Unit)×(Unit))⊕(((List UInt8)×(Unit))×(Unit)×(Unit)))) (a1:List UInt8) (a2:Int):Option (((Bool×(Unit))×(Unit)×(Unit))⊕(((List UInt8)×(Unit))×(Unit)×(Unit))) :=
 (bif decide (a2<((List.length a1:Nat):Int)) then (sAt a1 a2).bind fun (c1:Int)=>(bif decide (c1<(48:Int)) then some (Sum.inl ((false,()),((),()))) else (sAt a1 a2).bind fun (c2:Int)=>(bif decide ((57:Int)<c2) then some (Sum.inl ((false,()),((),()))) else q05 (IntKind.wrap .i64 (a2+(1:Int))) fun (n3:Int)=>rec a1 n3)) else some (Sum.inr (((a1,()),((),())))))
def qjo (n:Nat) (rec:pSt qa0->Option (q0d q60)) (p:pSt qa0):Option (q0d q60):=qjn n (fun a1 a2=>rec ((a1,(a2,())),((),()))) p.1.1 p.1.2.1
def q5q (n m:Nat) (a1:List UInt8) (a2:Int):Option (((Bool×(Unit))×(Unit)×(Unit))⊕(((List UInt8)×(Unit))×(Unit)×(Unit))):=q0e (qjo n) m ((a1,(a2,())),((),()))
theorem qhp (n m:Nat) (a1:List UInt8) (a2:Int):q5q n (m+1) a1 a2=qjn n (fun a1 a2=>q5q n m a1 a2) a1 a2:=rfl
def qxc (n:Nat):LC:={ sh:=qa0,outs:=q60,F:=q0e (qjo n) n }
def qfu (n:Nat):List LC:=[qxc n]
def qhr (n:Nat) (a1:List UInt8):Option (Bool) :=
 (q5q n n a1 (0:Int)).bind fun (o4:((Bool×(Unit))×(Unit)×(Unit))⊕(((List UInt8)×(Unit))×(Unit)×(Unit)))=>Sum.elim (fun (q5:(Bool×(Unit))×(Unit)×(Unit))=>some q5.1.1) (fun (q6:((List UInt8)×(Unit))×(Unit)×(Unit))=>some (!decide (q6.1.1=([]:List UInt8)))) o4
def q96 (n:Nat):FC:={ f:=102,args:=[.one (.c (.d .str))],res:=.one (.c (.d .bool)),F:=fun p=>qhr n p }
def qk1 (n:Nat):List FC:=[]
theorem qml (n:Nat) {G:World->Prop} (hG:Know Inv G) : ∀c∈qk1 n,q0w Tryz.prog G c/\q09 c.args=true:=(fun _ h=>by cases h)
def qjj:q08:=[]
theorem qw4:drB qjj (q00 Tryz.f102)=true:=by kernel_rfl
theorem j9k (n:Nat) : ∀rec p,qjo n rec p=round Tryz.prog 22 (qk1 n) (qfu n) qjj 1 qa0 q60 (q01 0 0 (q00 Tryz.f102)) rec p:=by intro rec p;kernel_rfl
theorem j1x (n:Nat) {F:Fr} (hF:F.n=22) (hK:Know Inv F.G):q6a Tryz.prog F (qxc n) (q01 0 0 (q00 Tryz.f102)) :=
 q0g hF (by kernel_rfl) (qml n hK) (j9k n) (fuel:=n) (fun _=>rfl) (q02 fun j L h1 h2 h3=>absurd h2 (Nat.not_lt.2 (Nat.le_trans (by decide +kernel) h1))) (q0n qw4)
theorem jit (n:Nat) : ∀a,(q96 n).F a=main Tryz.prog 22 (qk1 n) (qfu n) qjj (q00 Tryz.f102) [.tmp 2] (q96 n).args (q96 n).res a:=by intro a;kernel_rfl
theorem jiw (n:Nat):q0c Inv Tryz.prog (q96 n):=fun G hG=>⟨⟨by kernel_rfl,fun a r h=>q03 (c:=q00 Tryz.f102) Tryz.func102 (by kernel_rfl) (by kernel_rfl) (Nat.le_of_ble_eq_true (by kernel_rfl)) hG.st (by kernel_rfl) (rs:=[.tmp 2]) (by kernel_rfl) (qml n hG) (lts:=qfu n) (fun F hF hFG=>have hK:Know Inv F.G:=hFG ▸ hG;(q02 (c:=(q00 Tryz.f102)) (fun j L h1 h2 h3=>by
  have h2':j<1:=Nat.lt_of_lt_of_le h2 (by decide +kernel)
  match j,h1,h2',h3 with
  | 0,_,_,h3=>obtain rfl:=Option.some.inj h3;exact (show q01 0 0 (q00 Tryz.f102)=q01 0 0 (q00 Tryz.f102) by kernel_rfl) ▸ j1x n hF hK
  | j+1,_,h2',_=>exact absurd h2' (by omega)))) qw4 ((jit n a).symm.trans h)⟩,rfl⟩
@[reducible] def q9i:SSt:=⟨[(1,.one (.c (.d .bool))),(5,.one (.c (.d (.lst .str)))),(6,.one (.c (.d (.int .i64)))),(7,.one (.c (.d (.int .i64))))],[],[]⟩
@[reducible] def q5p:List (Exit×SSt):=[(.ret,⟨[(4,.one (.c (.d .bool)))],[],[]⟩),(.exit 2,⟨[(1,.one (.c (.d .bool))),(5,.one (.c (.d (.lst .str)))),(6,.one (.c (.d (.int .i64))))],[],[]⟩)]
def qkw (n:Nat) (rec:Bool->(List (List UInt8))->Int->Int->Option (((Bool×(Unit))×(Unit)×(Unit))⊕((Bool×((List (List UInt8))×(Int×(Unit))))×(Unit)×(Unit)))) (a1:Bool) (a2:List (List UInt8)) (a3:Int) (a4:Int):Option (((Bool×(Unit))×(Unit)×(Unit))⊕((Bool×((List (List UInt8))×(Int×(Unit))))×(Unit)×(Unit))) :=
 (q0z a2 a3).bind fun (x2:List UInt8)=>(bif decide (a4<((List.length x2:Nat):Int)) then (q0z a2 a3).bind fun (x3:List UInt8)=>(sAt x3 a4).bind fun (c4:Int)=>(bif decide ((97:Int)<=c4) then (bif !(decide (c4<=(122:Int))) then (bif decide ((65:Int)<=c4) then (bif !(decide (c4<=(90:Int))) then (bif decide ((48:Int)<=c4) then (bif !(decide (c4<=(57:Int))) then (bif !decide (c4=(45:Int)) then some (Sum.inl ((false,()),((),()))) else q05 (IntKind.wrap .i64 (a4+(1:Int))) fun (n5:Int)=>rec a1 a2 a3 n5) else q05 (IntKind.wrap .i64 (a4+(1:Int))) fun (n6:Int)=>rec a1 a2 a3 n6) else (bif !decide (c4=(45:Int)) then some (Sum.inl ((false,()),((),()))) else q05 (IntKind.wrap .i64 (a4+(1:Int))) fun (n7:Int)=>rec a1 a2 a3 n7)) else q05 (IntKind.wrap .i64 (a4+(1:Int))) fun (n8:Int)=>rec a1 a2 a3 n8) else (bif decide ((48:Int)<=c4) then (bif !(decide (c4<=(57:Int))) then (bif !decide (c4=(45:Int)) then some (Sum.inl ((false,()),((),()))) else q05 (IntKind.wrap .i64 (a4+(1:Int))) fun (n9:Int)=>rec a1 a2 a3 n9) else q05 (IntKind.wrap .i64 (a4+(1:Int))) fun (n10:Int)=>rec a1 a2 a3 n10) else (bif !decide (c4=(45:Int)) then some (Sum.inl ((false,()),((),()))) else q05 (IntKind.wrap .i64 (a4+(1:Int))) fun (n11:Int)=>rec a1 a2 a3 n11))) else q05 (IntKind.wrap .i64 (a4+(1:Int))) fun (n12:Int)=>rec a1 a2 a3 n12) else (bif decide ((65:Int)<=c4) then (bif !(decide (c4<=(90:Int))) then (bif decide ((48:Int)<=c4) then (bif !(decide (c4<=(57:Int))) then (bif !decide (c4=(45:Int)) then some (Sum.inl ((false,()),((),()))) else q05 (IntKind.wrap .i64 (a4+(1:Int))) fun (n13:Int)=>rec a1 a2 a3 n13) else q05 (IntKind.wrap .i64 (a4+(1:Int))) fun (n14:Int)=>rec a1 a2 a3 n14) else (bif !decide (c4=(45:Int)) then some (Sum.inl ((false,()),((),()))) else q05 (IntKind.wrap .i64 (a4+(1:Int))) fun (n15:Int)=>rec a1 a2 a3 n15)) else q05 (IntKind.wrap .i64 (a4+(1:Int))) fun (n16:Int)=>rec a1 a2 a3 n16) else (bif decide ((48:Int)<=c4) then (bif !(decide (c4<=(57:Int))) then (bif !decide (c4=(45:Int)) then some (Sum.inl ((false,()),((),()))) else q05 (IntKind.wrap .i64 (a4+(1:Int))) fun (n17:Int)=>rec a1 a2 a3 n17) else q05 (IntKind.wrap .i64 (a4+(1:Int))) fun (n18:Int)=>rec a1 a2 a3 n18) else (bif !decide (c4=(45:Int)) then some (Sum.inl ((false,()),((),()))) else q05 (IntKind.wrap .i64 (a4+(1:Int))) fun (n19:Int)=>rec a1 a2 a3 n19)))) else some (Sum.inr (((a1,(a2,(a3,()))),((),())))))
def qke (n:Nat) (rec:pSt q9i->Option (q0d q5p)) (p:pSt q9i):Option (q0d q5p):=qkw n (fun a1 a2 a3 a4=>rec ((a1,(a2,(a3,(a4,())))),((),()))) p.1.1 p.1.2.1 p.1.2.2.1 p.1.2.2.2.1
def q5v (n m:Nat) (a1:Bool) (a2:List (List UInt8)) (a3:Int) (a4:Int):Option (((Bool×(Unit))×(Unit)×(Unit))⊕((Bool×((List (List UInt8))×(Int×(Unit))))×(Unit)×(Unit))):=q0e (qke n) m ((a1,(a2,(a3,(a4,())))),((),()))
theorem qga (n m:Nat) (a1:Bool) (a2:List (List UInt8)) (a3:Int) (a4:Int):q5v n (m+1) a1 a2 a3 a4=qkw n (fun a1 a2 a3 a4=>q5v n m a1 a2 a3 a4) a1 a2 a3 a4:=rfl
def qvh (n:Nat):LC:={ sh:=q9i,outs:=q5p,F:=q0e (qke n) n }
@[reducible] def qa2:SSt:=⟨[(1,.one (.c (.d .bool))),(5,.one (.c (.d (.lst .str)))),(6,.one (.c (.d (.int .i64))))],[],[]⟩
@[reducible] def q5j:List (Exit×SSt):=[(.ret,⟨[(4,.one (.c (.d .bool)))],[],[]⟩),(.exit 0,⟨[],[],[]⟩)]
def qjz (n:Nat) (rec:Bool->(List (List UInt8))->Int->Option (((Bool×(Unit))×(Unit)×(Unit))⊕((Unit)×(Unit)×(Unit)))) (a1:Bool) (a2:List (List UInt8)) (a3:Int):Option (((Bool×(Unit))×(Unit)×(Unit))⊕((Unit)×(Unit)×(Unit))) :=
 (bif decide (a3<((List.length a2:Nat):Int)) then (q5v n n a1 a2 a3 (0:Int)).bind fun (o20:((Bool×(Unit))×(Unit)×(Unit))⊕((Bool×((List (List UInt8))×(Int×(Unit))))×(Unit)×(Unit)))=>Sum.elim (fun (q21:(Bool×(Unit))×(Unit)×(Unit))=>some (Sum.inl ((q21.1.1,()),((),())))) (fun (q22:(Bool×((List (List UInt8))×(Int×(Unit))))×(Unit)×(Unit))=>(q0z q22.1.2.1 q22.1.2.2.1).bind fun (x23:List UInt8)=>(bif decide (x23=([]:List UInt8)) then some (Sum.inl ((false,()),((),()))) else (bif !q22.1.1 then (q0z q22.1.2.1 q22.1.2.2.1).bind fun (x24:List UInt8)=>(qhr n x24).bind fun (r25:Bool)=>(bif r25 then (q0z q22.1.2.1 q22.1.2.2.1).bind fun (x26:List UInt8)=>(bif decide ((1:Int)<((List.length x26:Nat):Int)) then (q0z q22.1.2.1 q22.1.2.2.1).bind fun (x27:List UInt8)=>(sAt x27 (0:Int)).bind fun (c28:Int)=>(bif decide (c28=(48:Int)) then some (Sum.inl ((false,()),((),()))) else q05 (IntKind.wrap .i64 (q22.1.2.2.1+(1:Int))) fun (n29:Int)=>rec q22.1.1 q22.1.2.1 n29) else q05 (IntKind.wrap .i64 (q22.1.2.2.1+(1:Int))) fun (n30:Int)=>rec q22.1.1 q22.1.2.1 n30) else q05 (IntKind.wrap .i64 (q22.1.2.2.1+(1:Int))) fun (n31:Int)=>rec q22.1.1 q22.1.2.1 n31) else q05 (IntKind.wrap .i64 (q22.1.2.2.1+(1:Int))) fun (n32:Int)=>rec q22.1.1 q22.1.2.1 n32))) o20 else some (Sum.inr (((),((),())))))
def qj9 (n:Nat) (rec:pSt qa2->Option (q0d q5j)) (p:pSt qa2):Option (q0d q5j):=qjz n (fun a1 a2 a3=>rec ((a1,(a2,(a3,()))),((),()))) p.1.1 p.1.2.1 p.1.2.2.1
def q5t (n m:Nat) (a1:Bool) (a2:List (List UInt8)) (a3:Int):Option (((Bool×(Unit))×(Unit)×(Unit))⊕((Unit)×(Unit)×(Unit))):=q0e (qj9 n) m ((a1,(a2,(a3,()))),((),()))
theorem qgl (n m:Nat) (a1:Bool) (a2:List (List UInt8)) (a3:Int):q5t n (m+1) a1 a2 a3=qjz n (fun a1 a2 a3=>q5t n m a1 a2 a3) a1 a2 a3:=rfl
def qv5 (n:Nat):LC:={ sh:=qa2,outs:=q5j,F:=q0e (qj9 n) n }
def qae (n:Nat):List LC:=[qv5 n,qvh n]
def q8g (n:Nat) (a1:List UInt8) (a2:Bool):Option (Bool) :=
 (q2b n a1 (46:Int)).bind fun (r1:List (List UInt8))=>(q5t n n a2 r1 (0:Int)).bind fun (o33:((Bool×(Unit))×(Unit)×(Unit))⊕((Unit)×(Unit)×(Unit)))=>Sum.elim (fun (q34:(Bool×(Unit))×(Unit)×(Unit))=>some q34.1.1) (fun (q35:(Unit)×(Unit)×(Unit))=>some true) o33
def q8w (n:Nat):FC:={ f:=68,args:=[.one (.c (.d .str)),.one (.c (.d .bool))],res:=.one (.c (.d .bool)),F:=fun p=>q8g n p.1 p.2 }
def qcm (n:Nat):List FC:=[q1l n,q96 n]
theorem qci (n:Nat) {G:World->Prop} (hG:Know Inv G) : ∀c∈qcm n,q0w Tryz.prog G c/\q09 c.args=true:=List.forall_mem_cons.2 ⟨q8f n G hG,List.forall_mem_cons.2 ⟨jiw n G hG,(fun _ h=>by cases h)⟩⟩
def qdm:q08:=[]
theorem qiw:drB qdm (q00 Tryz.f68)=true:=by kernel_rfl
theorem j85 (n:Nat) : ∀rec p,qke n rec p=round Tryz.prog 93 (qcm n) (qae n) qdm 2 q9i q5p (q01 0 1 (q00 Tryz.f68)) rec p:=by intro rec p;kernel_rfl
theorem jb6 (n:Nat) : ∀rec p,qj9 n rec p=round Tryz.prog 93 (qcm n) (qae n) qdm 1 qa2 q5j (q01 0 0 (q00 Tryz.f68)) rec p:=by intro rec p;kernel_rfl
theorem qlj (n:Nat) {F:Fr} (hF:F.n=93) (hK:Know Inv F.G):q6a Tryz.prog F (qvh n) (q01 0 1 (q00 Tryz.f68)) :=
 q0g hF (by kernel_rfl) (qci n hK) (j85 n) (fuel:=n) (fun _=>rfl) (q02 fun j L h1 h2 h3=>absurd h2 (Nat.not_lt.2 (Nat.le_trans (by decide +kernel) h1))) (q0n qiw)
theorem j1k (n:Nat) {F:Fr} (hF:F.n=93) (hK:Know Inv F.G):q6a Tryz.prog F (qv5 n) (q01 0 0 (q00 Tryz.f68)) :=
 q0g hF (by kernel_rfl) (qci n hK) (jb6 n) (fuel:=n) (fun _=>rfl) (q02 (c:=(q01 0 0 (q00 Tryz.f68))) (fun j L h1 h2 h3=>by
  have h2':j<2:=Nat.lt_of_lt_of_le h2 (by decide +kernel)
  match j,h1,h2',h3 with
  | 0,h1,_,_=>exact absurd h1 (by decide)
  | 1,_,_,h3=>obtain rfl:=Option.some.inj h3;exact (show q01 0 1 (q00 Tryz.f68)=q01 1 1 (q01 0 0 (q00 Tryz.f68)) by kernel_rfl) ▸ qlj n hF hK
  | j+2,_,h2',_=>exact absurd h2' (by omega))) (q0n qiw)
theorem jgn (n:Nat) : ∀a,(q8w n).F a=main Tryz.prog 93 (qcm n) (qae n) qdm (q00 Tryz.f68) [.tmp 4] (q8w n).args (q8w n).res a:=by intro a;kernel_rfl
theorem jho (n:Nat):q0c Inv Tryz.prog (q8w n):=fun G hG=>⟨⟨by kernel_rfl,fun a r h=>q03 (c:=q00 Tryz.f68) Tryz.func68 (by kernel_rfl) (by kernel_rfl) (Nat.le_of_ble_eq_true (by kernel_rfl)) hG.st (by kernel_rfl) (rs:=[.tmp 4]) (by kernel_rfl) (qci n hG) (lts:=qae n) (fun F hF hFG=>have hK:Know Inv F.G:=hFG ▸ hG;(q02 (c:=(q00 Tryz.f68)) (fun j L h1 h2 h3=>by
  have h2':j<2:=Nat.lt_of_lt_of_le h2 (by decide +kernel)
  match j,h1,h2',h3 with
  | 0,_,_,h3=>obtain rfl:=Option.some.inj h3;exact (show q01 0 0 (q00 Tryz.f68)=q01 0 0 (q00 Tryz.f68) by kernel_rfl) ▸ j1k n hF hK
  | 1,_,_,h3=>obtain rfl:=Option.some.inj h3;exact (show q01 0 1 (q00 Tryz.f68)=q01 0 1 (q00 Tryz.f68) by kernel_rfl) ▸ qlj n hF hK
  | j+2,_,h2',_=>exact absurd h2' (by omega)))) qiw ((jgn n a).symm.trans h)⟩,rfl⟩
def jdu (n:Nat):List LC:=[]
def qv6 (n:Nat) (a1:Int):Option (Bool) :=
 (bif decide ((0:Int)<=a1) then some (decide (a1<=(999999999:Int))) else some false)
def qqq (n:Nat):FC:={ f:=67,args:=[.one (.c (.d (.int .i64)))],res:=.one (.c (.d .bool)),F:=fun p=>qv6 n p }
def jow (n:Nat):List FC:=[]
theorem jk0 (n:Nat) {G:World->Prop} (hG:Know Inv G) : ∀c∈jow n,q0w Tryz.prog G c/\q09 c.args=true:=(fun _ h=>by cases h)
def jlg:q08:=[]
theorem jxo:drB jlg (q00 Tryz.f67)=true:=by kernel_rfl
theorem jxb (n:Nat) : ∀a,(qqq n).F a=main Tryz.prog 9 (jow n) (jdu n) jlg (q00 Tryz.f67) [.tmp 2] (qqq n).args (qqq n).res a:=by intro a;kernel_rfl
theorem jv9 (n:Nat):q0c Inv Tryz.prog (qqq n):=fun G hG=>⟨⟨by kernel_rfl,fun a r h=>q03 (c:=q00 Tryz.f67) Tryz.func67 (by kernel_rfl) (by kernel_rfl) (Nat.le_of_ble_eq_true (by kernel_rfl)) hG.st (by kernel_rfl) (rs:=[.tmp 2]) (by kernel_rfl) (jk0 n hG) (lts:=jdu n) (fun F hF hFG=>have hK:Know Inv F.G:=hFG ▸ hG;(q02 fun j L h1 h2 h3=>absurd h2 (Nat.not_lt.2 (Nat.le_trans (by decide +kernel) h1)))) jxo ((jxb n a).symm.trans h)⟩,rfl⟩
def qx0 (n:Nat):List LC:=[]
def qfw (n:Nat) (a1:Int×(Int×(Int×((List UInt8)×(List UInt8))))):Option (Bool) :=
 (qv6 n a1.1).bind fun (r1:Bool)=>(bif !r1 then some false else (qv6 n a1.2.1).bind fun (r2:Bool)=>(bif !r2 then some false else (qv6 n a1.2.2.1).bind fun (r3:Bool)=>(bif !r3 then some false else (bif decide ((30:Int)<((List.length a1.2.2.2.1:Nat):Int)) then some false else (bif decide ((30:Int)<((List.length a1.2.2.2.2:Nat):Int)) then some false else (bif decide (a1.2.2.2.1=([]:List UInt8)) then (bif decide (a1.2.2.2.2=([]:List UInt8)) then some true else (q8g n a1.2.2.2.2 true).bind fun (r4:Bool)=>some r4) else (q8g n a1.2.2.2.1 false).bind fun (r5:Bool)=>(bif r5 then (bif decide (a1.2.2.2.2=([]:List UInt8)) then some true else (q8g n a1.2.2.2.2 true).bind fun (r6:Bool)=>some r6) else some false)))))))
def q8p (n:Nat):FC:={ f:=39,args:=[.one (.agg [.d (.int .i64),.d (.int .i64),.d (.int .i64),.d .str,.d .str])],res:=.one (.c (.d .bool)),F:=fun p=>qfw n p }
def j4t (n:Nat):List FC:=[qqq n,q8w n]
theorem j8x (n:Nat) {G:World->Prop} (hG:Know Inv G) : ∀c∈j4t n,q0w Tryz.prog G c/\q09 c.args=true:=List.forall_mem_cons.2 ⟨jv9 n G hG,List.forall_mem_cons.2 ⟨jho n G hG,(fun _ h=>by cases h)⟩⟩
def j6p:q08:=[]
theorem jo2:drB j6p (q00 Tryz.f39)=true:=by kernel_rfl
theorem jo7 (n:Nat) : ∀a,(q8p n).F a=main Tryz.prog 49 (j4t n) (qx0 n) j6p (q00 Tryz.f39) [.tmp 2] (q8p n).args (q8p n).res a:=by intro a;kernel_rfl
theorem j2u (n:Nat):q0c Inv Tryz.prog (q8p n):=fun G hG=>⟨⟨by kernel_rfl,fun a r h=>q03 (c:=q00 Tryz.f39) Tryz.func39 (by kernel_rfl) (by kernel_rfl) (Nat.le_of_ble_eq_true (by kernel_rfl)) hG.st (by kernel_rfl) (rs:=[.tmp 2]) (by kernel_rfl) (j8x n hG) (lts:=qx0 n) (fun F hF hFG=>have hK:Know Inv F.G:=hFG ▸ hG;(q02 fun j L h1 h2 h3=>absurd h2 (Nat.not_lt.2 (Nat.le_trans (by decide +kernel) h1)))) jo2 ((jo7 n a).symm.trans h)⟩,rfl⟩
def qtq (n:Nat):List LC:=[]
def q1q:Nat->Int->Option (List UInt8)
 | 0,_=>none
 | n+1,a1 =>
 (ju1 a1 (10:Int)).bind fun (n1:Int)=>q05 (IntKind.wrap .i64 ((48:Int)+n1)) fun (n2:Int)=>q05 (IntKind.wrap .u8 n2) fun (n3:Int)=>(bif decide ((10:Int)<=a1) then (jyq .i64 a1 (10:Int)).bind fun (n4:Int)=>(q1q n n4).bind fun (r5:List UInt8)=>(q6q r5 (List.map (fun n:Int=>UInt8.ofNat n.toNat) ([n3]:List (Int)))).bind fun (s6:List UInt8)=>some s6 else some (List.map (fun n:Int=>UInt8.ofNat n.toNat) ([n3]:List (Int))))
def q4c (n:Nat):FC:={ f:=40,args:=[.one (.c (.d (.int .i64)))],res:=.one (.c (.d .str)),F:=fun p=>q1q n p }
def qwb (n:Nat):List FC:=[q4c n]
theorem j4h (n:Nat) (hrec:q0c Inv Tryz.prog (q4c n)) {G:World->Prop} (hG:Know Inv G) : ∀c∈qwb n,q0w Tryz.prog G c/\q09 c.args=true:=List.forall_mem_cons.2 ⟨hrec G hG,(fun _ h=>by cases h)⟩
def qx7:q08:=[]
theorem jie:drB qx7 (q00 Tryz.f40)=true:=by kernel_rfl
theorem ji2 (n:Nat) : ∀a,(q4c (n+1)).F a=main Tryz.prog 18 (qwb n) (qtq n) qx7 (q00 Tryz.f40) [.tmp 2] (q4c (n+1)).args (q4c (n+1)).res a:=by intro a;kernel_rfl
theorem qxo:(n:Nat)->q0c Inv Tryz.prog (q4c n)
 | 0=>fun G hG=>⟨⟨by kernel_rfl,fun a r h=>by cases h⟩,rfl⟩
 | n+1=>fun G hG=>⟨⟨by kernel_rfl,fun a r h=>q03 (c:=q00 Tryz.f40) Tryz.func40 (by kernel_rfl) (by kernel_rfl) (Nat.le_of_ble_eq_true (by kernel_rfl)) hG.st (by kernel_rfl) (rs:=[.tmp 2]) (by kernel_rfl) (j4h n (qxo n) hG) (lts:=qtq n) (fun F hF hFG=>have hK:Know Inv F.G:=hFG ▸ hG;(q02 fun j L h1 h2 h3=>absurd h2 (Nat.not_lt.2 (Nat.le_trans (by decide +kernel) h1)))) jie ((ji2 n a).symm.trans h)⟩,rfl⟩
def j3g (n:Nat):List LC:=[]
def qya (n:Nat) (a1:Int×(Int×(Int×((List UInt8)×(List UInt8))))):Option (List UInt8) :=
 (qfw n a1).bind fun (r1:Bool)=>(bif !r1 then some ([]:List UInt8) else (q1q n a1.1).bind fun (r2:List UInt8)=>(q6q ([118]:List UInt8) r2).bind fun (s3:List UInt8)=>(q6q s3 ([46]:List UInt8)).bind fun (s4:List UInt8)=>(q1q n a1.2.1).bind fun (r5:List UInt8)=>(q6q s4 r5).bind fun (s6:List UInt8)=>(q6q s6 ([46]:List UInt8)).bind fun (s7:List UInt8)=>(q1q n a1.2.2.1).bind fun (r8:List UInt8)=>(q6q s7 r8).bind fun (s9:List UInt8)=>(bif !decide (a1.2.2.2.1=([]:List UInt8)) then (q6q s9 ([45]:List UInt8)).bind fun (s10:List UInt8)=>(q6q s10 a1.2.2.2.1).bind fun (s11:List UInt8)=>(bif !decide (a1.2.2.2.2=([]:List UInt8)) then (q6q s11 ([43]:List UInt8)).bind fun (s12:List UInt8)=>(q6q s12 a1.2.2.2.2).bind fun (s13:List UInt8)=>some s13 else some s11) else (bif !decide (a1.2.2.2.2=([]:List UInt8)) then (q6q s9 ([43]:List UInt8)).bind fun (s14:List UInt8)=>(q6q s14 a1.2.2.2.2).bind fun (s15:List UInt8)=>some s15 else some s9)))
def qh4 (n:Nat):FC:={ f:=20,args:=[.one (.agg [.d (.int .i64),.d (.int .i64),.d (.int .i64),.d .str,.d .str])],res:=.one (.c (.d .str)),F:=fun p=>qya n p }
def jd4 (n:Nat):List FC:=[q8p n,q4c n]
theorem jgx (n:Nat) {G:World->Prop} (hG:Know Inv G) : ∀c∈jd4 n,q0w Tryz.prog G c/\q09 c.args=true:=List.forall_mem_cons.2 ⟨j2u n G hG,List.forall_mem_cons.2 ⟨qxo n G hG,(fun _ h=>by cases h)⟩⟩
def jet:q08:=[(3,[⟨12582936,2^21,0⟩,⟨102760464,2^24,1⟩,⟨49*2^24,2^27,3⟩,⟨49*2^27,2^30,7⟩,⟨49*2^30,2^33,15⟩,⟨412316860440,2^36,0⟩,⟨3367254360080,2^39,32⟩,⟨49*2^39,2^42,103⟩,⟨25089*2^33,2^45,255⟩,⟨49*2^45,2^48,511⟩,⟨13510798882111512,2^51,0⟩,⟨110338190870577168,2^54,1024⟩,⟨49*2^54,2^57,3303⟩,⟨25089*2^48,2^60,8191⟩,⟨1152921504606850048,512,16383⟩]),(1000003,[])]
theorem jt6:drB jet (q00 Tryz.f20)=true:=by kernel_rfl
theorem jqf (n:Nat) : ∀a,(qh4 n).F a=main Tryz.prog 38 (jd4 n) (j3g n) jet (q00 Tryz.f20) [.tmp 2] (qh4 n).args (qh4 n).res a:=by intro a;kernel_rfl
theorem jt4 (n:Nat):q0c Inv Tryz.prog (qh4 n):=fun G hG=>⟨⟨by kernel_rfl,fun a r h=>q03 (c:=q00 Tryz.f20) Tryz.func20 (by kernel_rfl) (by kernel_rfl) (Nat.le_of_ble_eq_true (by kernel_rfl)) hG.st (by kernel_rfl) (rs:=[.tmp 2]) (by kernel_rfl) (jgx n hG) (lts:=j3g n) (fun F hF hFG=>have hK:Know Inv F.G:=hFG ▸ hG;(q02 fun j L h1 h2 h3=>absurd h2 (Nat.not_lt.2 (Nat.le_trans (by decide +kernel) h1)))) jt6 ((jqf n a).symm.trans h)⟩,rfl⟩
end Go.Proofs.YtapfankgdkdkgaaGreatDoor.AM
