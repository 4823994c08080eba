
import Derived.Test.YtggoebaobojmjaaGreatDoorBp19
import Derived.Test.YtggoebaobojmjaaGreatDoorBp9
import Derived.Shelf.RegionOpenPlain
import Derived.Laws.NewBlocks
import Derived.Lib.Hide
import Derived.Lib.SliceRun
namespace Go.Proofs.YtggoebaobojmjaaGreatDoor.AM
open Go.RowKit
set_option linter.unusedVariables false
set_option maxRecDepth 20000
def j39 (n:Nat):List LC:=[]
def jap (n:Nat) (a1:(List UInt8)×((List UInt8)×(List (List UInt8×((Int)×((Int)×((Int)×(List UInt8×(List UInt8))))))))) (a2:Unit) (b1:List UInt8) (b2:Int):Option ((Bool)×(((List UInt8)×(Int))×(Unit))×(Unit)) :=
 some (decide (a1.2.1=b1),(((b1,b2),()),()))
def q48 (n:Nat):FX:={ f:=75,args:=[.one (.agg [.d .str,.d .str,.d (.lst (.prod .str (.prod (.int .i64) (.prod (.int .i64) (.prod (.int .i64) (.prod .str .str))))))]),.one (.c (.box 1000000 0))],boxes:=[(1000000,(72,[.d .str,.d (.int .i64)]))],rows:=[],res:=.one (.c (.d .bool)),oboxes:=[(1000000,(72,[.d .str,.d (.int .i64)]))],orows:=[],F:=fun p=>jap n p.1.1 p.1.2 p.2.1.1.1 p.2.1.1.2 }
def jdd (n:Nat):List FC:=[]
theorem jgs (n:Nat) {G:World->Prop} (hG:Know Inv G) : ∀c∈jdd n,q0z Tryz.prog G c/\q0a c.args=true:=(fun _ h=>by cases h)
def jc2:q09:=[]
theorem jrz:drB jc2 (q00 Tryz.f75)=true:=by kernel_rfl
theorem jss (n:Nat) : ∀a,(q48 n).F a=qb8 Tryz.prog 9 (jdd n) (j39 n) jc2 (q00 Tryz.f75) [.tmp 3] (q48 n).args (q48 n).boxes (q48 n).rows (q48 n).res (q48 n).oboxes (q48 n).orows a:=by intro a;kernel_rfl
theorem jnq (n:Nat):q8c Inv Tryz.prog (q48 n):=fun G hG=>⟨by kernel_rfl,fun a r h=>q1j (x:=q48 n) (c:=q00 Tryz.f75) Tryz.func75 (by kernel_rfl) (by kernel_rfl) (Nat.le_of_ble_eq_true (by kernel_rfl)) (by kernel_rfl) (rs:=[.tmp 3]) (by kernel_rfl) (jgs n hG) (lts:=j39 n) (fun F hF hFG=>have hK:Know Inv F.G:=hFG ▸ hG;(q02 fun j L h1 h2 h3=>absurd h2 (Nat.not_lt.2 (Nat.le_trans (by decide +kernel) h1)))) jrz ((jss n a).symm.trans h)⟩
@[reducible] def qh8:SSt:=⟨[(0,.one (.c (.d (.lst (.prod .str (.prod .str (.lst (.prod .str (.prod (.int .i64) (.prod (.int .i64) (.prod (.int .i64) (.prod .str .str)))))))))))),(1,.one (.c (.fn 75 [1000000]))),(7,.one (.c (.d (.int .i64)))),(8,.one (.c (.d (.int .i64))))],[(1000000,(72,[.d .str,.d (.int .i64)]))],[]⟩
@[reducible] def q9z:List (Exit×SSt):=[(.ret,⟨[(4,.one (.c (.d (.int .i64))))],[(1000000,(72,[.d .str,.d (.int .i64)]))],[]⟩),(.exit 0,⟨[],[(1000000,(72,[.d .str,.d (.int .i64)]))],[]⟩)]
def qzf (n:Nat) (rec:(List (List UInt8×(List UInt8×(List (List UInt8×((Int)×((Int)×((Int)×(List UInt8×(List UInt8))))))))))->Int->Int->(List UInt8)->Int->Option (((Int×(Unit))×(((List UInt8)×(Int))×(Unit))×(Unit))⊕((Unit)×(((List UInt8)×(Int))×(Unit))×(Unit)))) (a1:List (List UInt8×(List UInt8×(List (List UInt8×((Int)×((Int)×((Int)×(List UInt8×(List UInt8)))))))))) (a2:Int) (a3:Int) (a4:List UInt8) (a5:Int):Option (((Int×(Unit))×(((List UInt8)×(Int))×(Unit))×(Unit))⊕((Unit)×(((List UInt8)×(Int))×(Unit))×(Unit))) :=
 (bif decide (a3<a2) then (q1a a1 a3).bind fun (x1:List UInt8×(List UInt8×(List (List UInt8×((Int)×((Int)×((Int)×(List UInt8×(List UInt8)))))))))=>(jap n x1 () a4 a5).bind fun (r2:(Bool)×(((List UInt8)×(Int))×(Unit))×(Unit))=>(bif r2.1 then some (Sum.inl ((a3,()),((r2.2.1.1,()),()))) else q0d (IntKind.wrap .i64 (a3+(1:Int))) fun (n3:Int)=>rec a1 a2 n3 r2.2.1.1.1 r2.2.1.1.2) else some (Sum.inr (((),(((a4,a5),()),())))))
def qyz (n:Nat) (rec:pSt qh8->Option (q0b q9z)) (p:pSt qh8):Option (q0b q9z):=qzf n (fun a1 a2 a3 a4 a5=>rec ((a1,((),(a2,(a3,())))),(((a4,a5),()),()))) p.1.1 p.1.2.2.1 p.1.2.2.2.1 p.2.1.1.1 p.2.1.1.2
def q9k (n m:Nat) (a1:List (List UInt8×(List UInt8×(List (List UInt8×((Int)×((Int)×((Int)×(List UInt8×(List UInt8)))))))))) (a2:Int) (a3:Int) (a4:List UInt8) (a5:Int):Option (((Int×(Unit))×(((List UInt8)×(Int))×(Unit))×(Unit))⊕((Unit)×(((List UInt8)×(Int))×(Unit))×(Unit))):=q0c (qyz n) m ((a1,((),(a2,(a3,())))),(((a4,a5),()),()))
theorem qnw (n m:Nat) (a1:List (List UInt8×(List UInt8×(List (List UInt8×((Int)×((Int)×((Int)×(List UInt8×(List UInt8)))))))))) (a2:Int) (a3:Int) (a4:List UInt8) (a5:Int):q9k n (m+1) a1 a2 a3 a4 a5=qzf n (fun a1 a2 a3 a4 a5=>q9k n m a1 a2 a3 a4 a5) a1 a2 a3 a4 a5:=rfl
def jf3 (n:Nat):LC:={ sh:=qh8,outs:=q9z,F:=q0c (qyz n) n }
def qqc (n:Nat):List LC:=[jf3 n]
def qz6 (n:Nat) (a1:List (List UInt8×(List UInt8×(List (List UInt8×((Int)×((Int)×((Int)×(List UInt8×(List UInt8)))))))))) (a2:Unit) (b1:List UInt8) (b2:Int):Option ((Int)×(((List UInt8)×(Int))×(Unit))×(Unit)) :=
 (q9k n n a1 ((List.length a1:Nat):Int) (0:Int) b1 b2).bind fun (o4:((Int×(Unit))×(((List UInt8)×(Int))×(Unit))×(Unit))⊕((Unit)×(((List UInt8)×(Int))×(Unit))×(Unit)))=>Sum.elim (fun (q5:(Int×(Unit))×(((List UInt8)×(Int))×(Unit))×(Unit))=>some (q5.1.1,((q5.2.1.1,()),()))) (fun (q6:(Unit)×(((List UInt8)×(Int))×(Unit))×(Unit))=>some ((-1:Int),((q6.2.1.1,()),()))) o4
def q44 (n:Nat):FX:={ f:=74,args:=[.one (.c (.d (.lst (.prod .str (.prod .str (.lst (.prod .str (.prod (.int .i64) (.prod (.int .i64) (.prod (.int .i64) (.prod .str .str))))))))))),.one (.c (.fn 75 [1000000]))],boxes:=[(1000000,(72,[.d .str,.d (.int .i64)]))],rows:=[],res:=.one (.c (.d (.int .i64))),oboxes:=[(1000000,(72,[.d .str,.d (.int .i64)]))],orows:=[],F:=fun p=>qz6 n p.1.1 p.1.2 p.2.1.1.1 p.2.1.1.2 }
def qz0 (n:Nat):List FC:=[q9n (q48 n) [(1000000,1000000)] []]
theorem qxa (n:Nat) {G:World->Prop} (hG:Know Inv G) : ∀c∈qz0 n,q0z Tryz.prog G c/\q0a c.args=true:=List.forall_mem_cons.2 ⟨q2c (jnq n G hG),(fun _ h=>by cases h)⟩
def qzm:q09:=[]
theorem jci:drB qzm (q00 Tryz.f74)=true:=by kernel_rfl
theorem jlq (n:Nat) : ∀rec p,qyz n rec p=round Tryz.prog 19 (qz0 n) (qqc n) qzm 1 qh8 q9z (q01 0 0 (q00 Tryz.f74)) rec p:=by intro rec p;kernel_rfl
theorem jfj (n:Nat) {F:Fr} (hF:F.n=19) (hK:Know Inv F.G):q57 Tryz.prog F (jf3 n) (q01 0 0 (q00 Tryz.f74)) :=
 q0e hF (by kernel_rfl) (qxa n hK) (jlq n) (fuel:=n) (fun _=>rfl) (q02 fun j L h1 h2 h3=>absurd h2 (Nat.not_lt.2 (Nat.le_trans (by decide +kernel) h1))) (q0j jci)
theorem jqn (n:Nat) : ∀a,(q44 n).F a=qb8 Tryz.prog 19 (qz0 n) (qqc n) qzm (q00 Tryz.f74) [.tmp 4] (q44 n).args (q44 n).boxes (q44 n).rows (q44 n).res (q44 n).oboxes (q44 n).orows a:=by intro a;kernel_rfl
theorem jkb (n:Nat):q8c Inv Tryz.prog (q44 n):=fun G hG=>⟨by kernel_rfl,fun a r h=>q1j (x:=q44 n) (c:=q00 Tryz.f74) Tryz.func74 (by kernel_rfl) (by kernel_rfl) (Nat.le_of_ble_eq_true (by kernel_rfl)) (by kernel_rfl) (rs:=[.tmp 4]) (by kernel_rfl) (qxa n hG) (lts:=qqc n) (fun F hF hFG=>have hK:Know Inv F.G:=hFG ▸ hG;(q02 (c:=(q00 Tryz.f74)) (fun j L h1 h2 h3=>by
  have h2':j<1:=Nat.lt_of_lt_of_le h2 (by decide +kernel)
  match j,h1,h2',h3 with
  | 0,_,_,h3=>obtain rfl:=Option.some.inj h3;exact (show q01 0 0 (q00 Tryz.f74)=q01 0 0 (q00 Tryz.f74) by kernel_rfl) ▸ jfj n hF hK
  | j+1,_,h2',_=>exact absurd h2' (by omega)))) jci ((jqn n a).symm.trans h)⟩
@[reducible] def qa3:SSt:=⟨[(0,.one (.c (.d (.lst (.prod .str (.prod .str (.lst (.prod .str (.prod (.int .i64) (.prod (.int .i64) (.prod (.int .i64) (.prod .str .str)))))))))))),(4,.one (.c (.box 4 0))),(6,.one (.c (.box 6 0))),(10,.one (.c (.d (.lst (.prod .str (.int .i64)))))),(11,.one (.c (.d (.int .i64)))),(12,.one (.c (.d (.int .i64))))],[(4,(87,[.d (.int .i64),.d (.int .i64),.d (.int .i64),.d (.int .i64),.d (.int .i64),.d (.int .i64),.d (.int .i64),.d (.int .i64),.d (.int .i64),.d (.int .i64),.d (.int .i64),.d (.int .i64)])),(6,(87,[.d (.int .i64),.d (.int .i64),.d (.int .i64),.d (.int .i64),.d (.int .i64),.d (.int .i64),.d (.int .i64),.d (.int .i64),.d (.int .i64),.d (.int .i64),.d (.int .i64),.d (.int .i64)]))],[]⟩
@[reducible] def q5s:List (Exit×SSt):=[(.ret,⟨[(4,.one (.c (.box 4 0))),(5,.one (.c (.d (.int .i64))))],[(4,(87,[.d (.int .i64),.d (.int .i64),.d (.int .i64),.d (.int .i64),.d (.int .i64),.d (.int .i64),.d (.int .i64),.d (.int .i64),.d (.int .i64),.d (.int .i64),.d (.int .i64),.d (.int .i64)]))],[]⟩),(.exit 0,⟨[(4,.one (.c (.box 4 0))),(6,.one (.c (.box 6 0)))],[(4,(87,[.d (.int .i64),.d (.int .i64),.d (.int .i64),.d (.int .i64),.d (.int .i64),.d (.int .i64),.d (.int .i64),.d (.int .i64),.d (.int .i64),.d (.int .i64),.d (.int .i64),.d (.int .i64)])),(6,(87,[.d (.int .i64),.d (.int .i64),.d (.int .i64),.d (.int .i64),.d (.int .i64),.d (.int .i64),.d (.int .i64),.d (.int .i64),.d (.int .i64),.d (.int .i64),.d (.int .i64),.d (.int .i64)]))],[]⟩)]
def qlj (n:Nat) (rec:(List (List UInt8×(List UInt8×(List (List UInt8×((Int)×((Int)×((Int)×(List UInt8×(List UInt8))))))))))->(List (List UInt8×(Int)))->Int->Int->Int->Int->Int->Int->Int->Int->Int->Int->Int->Int->Int->Int->Int->Int->Int->Int->Int->Int->Int->Int->Int->Int->Int->Int->Option (((Unit×(Int×(Unit)))×((Int×(Int×(Int×(Int×(Int×(Int×(Int×(Int×(Int×(Int×(Int×(Int))))))))))))×(Unit))×(Unit))⊕((Unit×(Unit×(Unit)))×((Int×(Int×(Int×(Int×(Int×(Int×(Int×(Int×(Int×(Int×(Int×(Int))))))))))))×((Int×(Int×(Int×(Int×(Int×(Int×(Int×(Int×(Int×(Int×(Int×(Int))))))))))))×(Unit)))×(Unit)))) (a1:List (List UInt8×(List UInt8×(List (List UInt8×((Int)×((Int)×((Int)×(List UInt8×(List UInt8)))))))))) (a2:List (List UInt8×(Int))) (a3:Int) (a4:Int) (a5:Int) (a6:Int) (a7:Int) (a8:Int) (a9:Int) (a10:Int) (a11:Int) (a12:Int) (a13:Int) (a14:Int) (a15:Int) (a16:Int) (a17:Int) (a18:Int) (a19:Int) (a20:Int) (a21:Int) (a22:Int) (a23:Int) (a24:Int) (a25:Int) (a26:Int) (a27:Int) (a28:Int):Option (((Unit×(Int×(Unit)))×((Int×(Int×(Int×(Int×(Int×(Int×(Int×(Int×(Int×(Int×(Int×(Int))))))))))))×(Unit))×(Unit))⊕((Unit×(Unit×(Unit)))×((Int×(Int×(Int×(Int×(Int×(Int×(Int×(Int×(Int×(Int×(Int×(Int))))))))))))×((Int×(Int×(Int×(Int×(Int×(Int×(Int×(Int×(Int×(Int×(Int×(Int))))))))))))×(Unit)))×(Unit))) :=
 (bif decide (a4<a3) then (q1a a2 a4).bind fun (x1:List UInt8×(Int))=>(qz6 n a1 () x1.1 x1.2).bind fun (r2:(Int)×(((List UInt8)×(Int))×(Unit))×(Unit))=>(bif decide (r2.1<(0:Int)) then some (Sum.inl (((),((5:Int),())),((((0:Int),((0:Int),((0:Int),((0:Int),((0:Int),((0:Int),((0:Int),((0:Int),((0:Int),((0:Int),((0:Int),(0:Int)))))))))))),()),()))) else (qij n r2.2.1.1.2).bind fun (r3:Bool)=>(bif !r3 then some (Sum.inl (((),((1:Int),())),((((0:Int),((0:Int),((0:Int),((0:Int),((0:Int),((0:Int),((0:Int),((0:Int),((0:Int),((0:Int),((0:Int),(0:Int)))))))))))),()),()))) else (bif inA r2.1 12 then (nth ([a17,a18,a19,a20,a21,a22,a23,a24,a25,a26,a27,a28]:List (Int)) (Int.toNat r2.1)).bind fun (x4:Int)=>(bif !decide (x4=(0:Int)) then some (Sum.inl (((),((11:Int),())),((((0:Int),((0:Int),((0:Int),((0:Int),((0:Int),((0:Int),((0:Int),((0:Int),((0:Int),((0:Int),((0:Int),(0:Int)))))))))))),()),()))) else (bif inA r2.1 12 then (bif inA r2.1 12 then q0d (IntKind.wrap .i64 (a4+(1:Int))) fun (n5:Int)=>rec a1 a2 a3 n5 a5 a6 a7 a8 a9 a10 a11 a12 a13 a14 a15 a16 (q1t 0 r2.1 r2.2.1.1.2 a17) (q1t 1 r2.1 r2.2.1.1.2 a18) (q1t 2 r2.1 r2.2.1.1.2 a19) (q1t 3 r2.1 r2.2.1.1.2 a20) (q1t 4 r2.1 r2.2.1.1.2 a21) (q1t 5 r2.1 r2.2.1.1.2 a22) (q1t 6 r2.1 r2.2.1.1.2 a23) (q1t 7 r2.1 r2.2.1.1.2 a24) (q1t 8 r2.1 r2.2.1.1.2 a25) (q1t 9 r2.1 r2.2.1.1.2 a26) (q1t 10 r2.1 r2.2.1.1.2 a27) (q1t 11 r2.1 r2.2.1.1.2 a28) else none) else none)) else none))) else some (Sum.inr ((((),((),())),(((a5,(a6,(a7,(a8,(a9,(a10,(a11,(a12,(a13,(a14,(a15,a16))))))))))),((a17,(a18,(a19,(a20,(a21,(a22,(a23,(a24,(a25,(a26,(a27,a28))))))))))),())),())))))
def qkm (n:Nat) (rec:pSt qa3->Option (q0b q5s)) (p:pSt qa3):Option (q0b q5s):=qlj n (fun a1 a2 a3 a4 a5 a6 a7 a8 a9 a10 a11 a12 a13 a14 a15 a16 a17 a18 a19 a20 a21 a22 a23 a24 a25 a26 a27 a28=>rec ((a1,((),((),(a2,(a3,(a4,())))))),(((a5,(a6,(a7,(a8,(a9,(a10,(a11,(a12,(a13,(a14,(a15,a16))))))))))),((a17,(a18,(a19,(a20,(a21,(a22,(a23,(a24,(a25,(a26,(a27,a28))))))))))),())),()))) p.1.1 p.1.2.2.2.1 p.1.2.2.2.2.1 p.1.2.2.2.2.2.1 p.2.1.1.1 p.2.1.1.2.1 p.2.1.1.2.2.1 p.2.1.1.2.2.2.1 p.2.1.1.2.2.2.2.1 p.2.1.1.2.2.2.2.2.1 p.2.1.1.2.2.2.2.2.2.1 p.2.1.1.2.2.2.2.2.2.2.1 p.2.1.1.2.2.2.2.2.2.2.2.1 p.2.1.1.2.2.2.2.2.2.2.2.2.1 p.2.1.1.2.2.2.2.2.2.2.2.2.2.1 p.2.1.1.2.2.2.2.2.2.2.2.2.2.2 p.2.1.2.1.1 p.2.1.2.1.2.1 p.2.1.2.1.2.2.1 p.2.1.2.1.2.2.2.1 p.2.1.2.1.2.2.2.2.1 p.2.1.2.1.2.2.2.2.2.1 p.2.1.2.1.2.2.2.2.2.2.1 p.2.1.2.1.2.2.2.2.2.2.2.1 p.2.1.2.1.2.2.2.2.2.2.2.2.1 p.2.1.2.1.2.2.2.2.2.2.2.2.2.1 p.2.1.2.1.2.2.2.2.2.2.2.2.2.2.1 p.2.1.2.1.2.2.2.2.2.2.2.2.2.2.2
def q2i (n m:Nat) (a1:List (List UInt8×(List UInt8×(List (List UInt8×((Int)×((Int)×((Int)×(List UInt8×(List UInt8)))))))))) (a2:List (List UInt8×(Int))) (a3:Int) (a4:Int) (a5:Int) (a6:Int) (a7:Int) (a8:Int) (a9:Int) (a10:Int) (a11:Int) (a12:Int) (a13:Int) (a14:Int) (a15:Int) (a16:Int) (a17:Int) (a18:Int) (a19:Int) (a20:Int) (a21:Int) (a22:Int) (a23:Int) (a24:Int) (a25:Int) (a26:Int) (a27:Int) (a28:Int):Option (((Unit×(Int×(Unit)))×((Int×(Int×(Int×(Int×(Int×(Int×(Int×(Int×(Int×(Int×(Int×(Int))))))))))))×(Unit))×(Unit))⊕((Unit×(Unit×(Unit)))×((Int×(Int×(Int×(Int×(Int×(Int×(Int×(Int×(Int×(Int×(Int×(Int))))))))))))×((Int×(Int×(Int×(Int×(Int×(Int×(Int×(Int×(Int×(Int×(Int×(Int))))))))))))×(Unit)))×(Unit))):=q0c (qkm n) m ((a1,((),((),(a2,(a3,(a4,())))))),(((a5,(a6,(a7,(a8,(a9,(a10,(a11,(a12,(a13,(a14,(a15,a16))))))))))),((a17,(a18,(a19,(a20,(a21,(a22,(a23,(a24,(a25,(a26,(a27,a28))))))))))),())),()))
theorem qhy (n m:Nat) (a1:List (List UInt8×(List UInt8×(List (List UInt8×((Int)×((Int)×((Int)×(List UInt8×(List UInt8)))))))))) (a2:List (List UInt8×(Int))) (a3:Int) (a4:Int) (a5:Int) (a6:Int) (a7:Int) (a8:Int) (a9:Int) (a10:Int) (a11:Int) (a12:Int) (a13:Int) (a14:Int) (a15:Int) (a16:Int) (a17:Int) (a18:Int) (a19:Int) (a20:Int) (a21:Int) (a22:Int) (a23:Int) (a24:Int) (a25:Int) (a26:Int) (a27:Int) (a28:Int):q2i n (m+1) a1 a2 a3 a4 a5 a6 a7 a8 a9 a10 a11 a12 a13 a14 a15 a16 a17 a18 a19 a20 a21 a22 a23 a24 a25 a26 a27 a28=qlj n (fun a1 a2 a3 a4 a5 a6 a7 a8 a9 a10 a11 a12 a13 a14 a15 a16 a17 a18 a19 a20 a21 a22 a23 a24 a25 a26 a27 a28=>q2i n m a1 a2 a3 a4 a5 a6 a7 a8 a9 a10 a11 a12 a13 a14 a15 a16 a17 a18 a19 a20 a21 a22 a23 a24 a25 a26 a27 a28) a1 a2 a3 a4 a5 a6 a7 a8 a9 a10 a11 a12 a13 a14 a15 a16 a17 a18 a19 a20 a21 a22 a23 a24 a25 a26 a27 a28:=rfl
def qwm (n:Nat):LC:={ sh:=qa3,outs:=q5s,F:=q0c (qkm n) n }
def qf8 (n:Nat):List LC:=[qwm n]
def qco (n:Nat) (a1:List (List UInt8×(List UInt8×(List (List UInt8×((Int)×((Int)×((Int)×(List UInt8×(List UInt8)))))))))) (a2:List (List UInt8×(Int))):Option ((Int×(Int×(Int×(Int×(Int×(Int×(Int×(Int×(Int×(Int×(Int×(Int))))))))))))×(Int)) :=
 (q2i n n a1 a2 ((List.length a2:Nat):Int) (0:Int) (0:Int) (0:Int) (0:Int) (0:Int) (0:Int) (0:Int) (0:Int) (0:Int) (0:Int) (0:Int) (0:Int) (0:Int) (0:Int) (0:Int) (0:Int) (0:Int) (0:Int) (0:Int) (0:Int) (0:Int) (0:Int) (0:Int) (0:Int) (0:Int)).bind fun (o6:((Unit×(Int×(Unit)))×((Int×(Int×(Int×(Int×(Int×(Int×(Int×(Int×(Int×(Int×(Int×(Int))))))))))))×(Unit))×(Unit))⊕((Unit×(Unit×(Unit)))×((Int×(Int×(Int×(Int×(Int×(Int×(Int×(Int×(Int×(Int×(Int×(Int))))))))))))×((Int×(Int×(Int×(Int×(Int×(Int×(Int×(Int×(Int×(Int×(Int×(Int))))))))))))×(Unit)))×(Unit)))=>Sum.elim (fun (q7:(Unit×(Int×(Unit)))×((Int×(Int×(Int×(Int×(Int×(Int×(Int×(Int×(Int×(Int×(Int×(Int))))))))))))×(Unit))×(Unit))=>some (q7.2.1.1,q7.1.2.1)) (fun (q8:(Unit×(Unit×(Unit)))×((Int×(Int×(Int×(Int×(Int×(Int×(Int×(Int×(Int×(Int×(Int×(Int))))))))))))×((Int×(Int×(Int×(Int×(Int×(Int×(Int×(Int×(Int×(Int×(Int×(Int))))))))))))×(Unit)))×(Unit))=>some (q8.2.1.2.1,(0:Int))) o6
def qdr (n:Nat):FC:={ f:=38,args:=[.one (.c (.d (.lst (.prod .str (.prod .str (.lst (.prod .str (.prod (.int .i64) (.prod (.int .i64) (.prod (.int .i64) (.prod .str .str))))))))))),.one (.c (.d (.lst (.prod .str (.int .i64)))))],res:=.tup [.agg [.d (.int .i64),.d (.int .i64),.d (.int .i64),.d (.int .i64),.d (.int .i64),.d (.int .i64),.d (.int .i64),.d (.int .i64),.d (.int .i64),.d (.int .i64),.d (.int .i64),.d (.int .i64)],.c (.d (.int .i64))],F:=fun p=>qco n p.1 p.2 }
def qjx (n:Nat):List FC:=[q9n (q44 n) [(1000000,8)] [],q98 n]
theorem qm2 (n:Nat) {G:World->Prop} (hG:Know Inv G) : ∀c∈qjx n,q0z Tryz.prog G c/\q0a c.args=true:=List.forall_mem_cons.2 ⟨q2c (jkb n G hG),List.forall_mem_cons.2 ⟨j4a n G hG,(fun _ h=>by cases h)⟩⟩
def ql3:q09:=[]
theorem qwl:drB ql3 (q00 Tryz.f38)=true:=by kernel_rfl
theorem j8b (n:Nat) : ∀rec p,qkm n rec p=round Tryz.prog 41 (qjx n) (qf8 n) ql3 1 qa3 q5s (q01 0 0 (q00 Tryz.f38)) rec p:=by intro rec p;kernel_rfl
theorem j27 (n:Nat) {F:Fr} (hF:F.n=41) (hK:Know Inv F.G):q57 Tryz.prog F (qwm n) (q01 0 0 (q00 Tryz.f38)) :=
 q0e hF (by kernel_rfl) (qm2 n hK) (j8b n) (fuel:=n) (fun _=>rfl) (q02 fun j L h1 h2 h3=>absurd h2 (Nat.not_lt.2 (Nat.le_trans (by decide +kernel) h1))) (q0j qwl)
theorem jfw (n:Nat) : ∀a,(qdr n).F a=main Tryz.prog 41 (qjx n) (qf8 n) ql3 (q00 Tryz.f38) [.cell 4 87,.tmp 5] (qdr n).args (qdr n).res a:=by intro a;kernel_rfl
theorem jif (n:Nat):q0f Inv Tryz.prog (qdr n):=fun G hG=>⟨⟨by kernel_rfl,fun a r h=>q05 (c:=q00 Tryz.f38) Tryz.func38 (by kernel_rfl) (by kernel_rfl) (Nat.le_of_ble_eq_true (by kernel_rfl)) hG.st (by kernel_rfl) (rs:=[.cell 4 87,.tmp 5]) (by kernel_rfl) (qm2 n hG) (lts:=qf8 n) (fun F hF hFG=>have hK:Know Inv F.G:=hFG ▸ hG;(q02 (c:=(q00 Tryz.f38)) (fun j L h1 h2 h3=>by
  have h2':j<1:=Nat.lt_of_lt_of_le h2 (by decide +kernel)
  match j,h1,h2',h3 with
  | 0,_,_,h3=>obtain rfl:=Option.some.inj h3;exact (show q01 0 0 (q00 Tryz.f38)=q01 0 0 (q00 Tryz.f38) by kernel_rfl) ▸ j27 n hF hK
  | j+1,_,h2',_=>exact absurd h2' (by omega)))) qwl ((jfw n a).symm.trans h)⟩,rfl⟩
@[reducible] def qal:SSt:=⟨[(3,.one (.c (.row 16))),(6,.one (.agg [.d (.int .i64),.d (.int .i64),.d (.int .i64),.d (.int .i64),.d (.int .i64),.d (.int .i64),.d (.int .i64),.d (.int .i64),.d (.int .i64),.d (.int .i64),.d (.int .i64),.d (.int .i64)])),(7,.one (.c (.d (.int .i64))))],[],[(16,⟨3,true,(.int .i64)⟩)]⟩
@[reducible] def q5z:List (Exit×SSt):=[(.exit 0,⟨[(3,.one (.c (.row 16)))],[],[(16,⟨3,true,(.int .i64)⟩)]⟩)]
def ql8 (n:Nat) (rec:Int->Int->Int->Int->Int->Int->Int->Int->Int->Int->Int->Int->Int->(List (Int))->Option ((Unit×(Unit))×(Unit)×((List (Int))×(Unit)))) (a1:Int) (a2:Int) (a3:Int) (a4:Int) (a5:Int) (a6:Int) (a7:Int) (a8:Int) (a9:Int) (a10:Int) (a11:Int) (a12:Int) (a13:Int) (a14:List (Int)):Option ((Unit×(Unit))×(Unit)×((List (Int))×(Unit))) :=
 (bif decide (a13<(12:Int)) then (q1a ([a1,a2,a3,a4,a5,a6,a7,a8,a9,a10,a11,a12]:List (Int)) a13).bind fun (x1:Int)=>(bif !decide (x1=(0:Int)) then (qxh 8 a14 ([a13]:List (Int))).bind fun (l2:List (Int))=>q0d (IntKind.wrap .i64 (a13+(1:Int))) fun (n3:Int)=>rec a1 a2 a3 a4 a5 a6 a7 a8 a9 a10 a11 a12 n3 l2 else q0d (IntKind.wrap .i64 (a13+(1:Int))) fun (n4:Int)=>rec a1 a2 a3 a4 a5 a6 a7 a8 a9 a10 a11 a12 n4 a14) else some ((((),()),((),(a14,())))))
def qka (n:Nat) (rec:pSt qal->Option (q0b q5z)) (p:pSt qal):Option (q0b q5z):=ql8 n (fun a1 a2 a3 a4 a5 a6 a7 a8 a9 a10 a11 a12 a13 a14=>rec (((),((a1,(a2,(a3,(a4,(a5,(a6,(a7,(a8,(a9,(a10,(a11,a12))))))))))),(a13,()))),((),(a14,())))) p.1.2.1.1 p.1.2.1.2.1 p.1.2.1.2.2.1 p.1.2.1.2.2.2.1 p.1.2.1.2.2.2.2.1 p.1.2.1.2.2.2.2.2.1 p.1.2.1.2.2.2.2.2.2.1 p.1.2.1.2.2.2.2.2.2.2.1 p.1.2.1.2.2.2.2.2.2.2.2.1 p.1.2.1.2.2.2.2.2.2.2.2.2.1 p.1.2.1.2.2.2.2.2.2.2.2.2.2.1 p.1.2.1.2.2.2.2.2.2.2.2.2.2.2 p.1.2.2.1 p.2.2.1
def q3e (n m:Nat) (a1:Int) (a2:Int) (a3:Int) (a4:Int) (a5:Int) (a6:Int) (a7:Int) (a8:Int) (a9:Int) (a10:Int) (a11:Int) (a12:Int) (a13:Int) (a14:List (Int)):Option ((Unit×(Unit))×(Unit)×((List (Int))×(Unit))):=q0c (qka n) m (((),((a1,(a2,(a3,(a4,(a5,(a6,(a7,(a8,(a9,(a10,(a11,a12))))))))))),(a13,()))),((),(a14,())))
theorem qhb (n m:Nat) (a1:Int) (a2:Int) (a3:Int) (a4:Int) (a5:Int) (a6:Int) (a7:Int) (a8:Int) (a9:Int) (a10:Int) (a11:Int) (a12:Int) (a13:Int) (a14:List (Int)):q3e n (m+1) a1 a2 a3 a4 a5 a6 a7 a8 a9 a10 a11 a12 a13 a14=ql8 n (fun a1 a2 a3 a4 a5 a6 a7 a8 a9 a10 a11 a12 a13 a14=>q3e n m a1 a2 a3 a4 a5 a6 a7 a8 a9 a10 a11 a12 a13 a14) a1 a2 a3 a4 a5 a6 a7 a8 a9 a10 a11 a12 a13 a14:=rfl
def qxk (n:Nat):LC:={ sh:=qal,outs:=q5z,F:=q0c (qka n) n }
def qfg (n:Nat):List LC:=[qxk n]
def q8x (n:Nat) (a1:Int×(Int×(Int×(Int×(Int×(Int×(Int×(Int×(Int×(Int×(Int×(Int)))))))))))):Option (List (Int)) :=
 (q3e n n a1.1 a1.2.1 a1.2.2.1 a1.2.2.2.1 a1.2.2.2.2.1 a1.2.2.2.2.2.1 a1.2.2.2.2.2.2.1 a1.2.2.2.2.2.2.2.1 a1.2.2.2.2.2.2.2.2.1 a1.2.2.2.2.2.2.2.2.2.1 a1.2.2.2.2.2.2.2.2.2.2.1 a1.2.2.2.2.2.2.2.2.2.2.2 (0:Int) []).bind fun (o5:(Unit×(Unit))×(Unit)×((List (Int))×(Unit)))=>some o5.2.2.1
def qdp (n:Nat):FC:={ f:=41,args:=[.one (.agg [.d (.int .i64),.d (.int .i64),.d (.int .i64),.d (.int .i64),.d (.int .i64),.d (.int .i64),.d (.int .i64),.d (.int .i64),.d (.int .i64),.d (.int .i64),.d (.int .i64),.d (.int .i64)])],res:=.one (.c (.d (.lst (.int .i64)))),F:=fun p=>q8x n p }
def qjd (n:Nat):List FC:=[]
theorem qmr (n:Nat) {G:World->Prop} (hG:Know Inv G) : ∀c∈qjd n,q0z Tryz.prog G c/\q0a c.args=true:=(fun _ h=>by cases h)
def qk1:q09:=[]
theorem qxj:drB qk1 (q00 Tryz.f41)=true:=by kernel_rfl
theorem jbi (n:Nat) : ∀rec p,qka n rec p=round Tryz.prog 19 (qjd n) (qfg n) qk1 1 qal q5z (q01 0 0 (q00 Tryz.f41)) rec p:=by intro rec p;kernel_rfl
theorem j60 (n:Nat) {F:Fr} (hF:F.n=19) (hK:Know Inv F.G):q57 Tryz.prog F (qxk n) (q01 0 0 (q00 Tryz.f41)) :=
 q0e hF (by kernel_rfl) (qmr n hK) (jbi n) (fuel:=n) (fun _=>rfl) (q02 fun j L h1 h2 h3=>absurd h2 (Nat.not_lt.2 (Nat.le_trans (by decide +kernel) h1))) (q0j qxj)
theorem jhq (n:Nat) : ∀a,(qdp n).F a=main Tryz.prog 19 (qjd n) (qfg n) qk1 (q00 Tryz.f41) [.tmp 2] (qdp n).args (qdp n).res a:=by intro a;kernel_rfl
theorem jgm (n:Nat):q0f Inv Tryz.prog (qdp n):=fun G hG=>⟨⟨by kernel_rfl,fun a r h=>q05 (c:=q00 Tryz.f41) Tryz.func41 (by kernel_rfl) (by kernel_rfl) (Nat.le_of_ble_eq_true (by kernel_rfl)) hG.st (by kernel_rfl) (rs:=[.tmp 2]) (by kernel_rfl) (qmr n hG) (lts:=qfg n) (fun F hF hFG=>have hK:Know Inv F.G:=hFG ▸ hG;(q02 (c:=(q00 Tryz.f41)) (fun j L h1 h2 h3=>by
  have h2':j<1:=Nat.lt_of_lt_of_le h2 (by decide +kernel)
  match j,h1,h2',h3 with
  | 0,_,_,h3=>obtain rfl:=Option.some.inj h3;exact (show q01 0 0 (q00 Tryz.f41)=q01 0 0 (q00 Tryz.f41) by kernel_rfl) ▸ j60 n hF hK
  | j+1,_,h2',_=>exact absurd h2' (by omega)))) qxj ((jhq n a).symm.trans h)⟩,rfl⟩
def jnb (n:Nat):List LC:=[]
def jn8 (n:Nat) (a1:Int×(Int×(Int×(Int×(Int×(Int×(Int×(Int×(Int×(Int×(Int×(Int)))))))))))) (a2:Int):Option (Int) :=
 (bif inA a2 12 then (nth ([a1.1,a1.2.1,a1.2.2.1,a1.2.2.2.1,a1.2.2.2.2.1,a1.2.2.2.2.2.1,a1.2.2.2.2.2.2.1,a1.2.2.2.2.2.2.2.1,a1.2.2.2.2.2.2.2.2.1,a1.2.2.2.2.2.2.2.2.2.1,a1.2.2.2.2.2.2.2.2.2.2.1,a1.2.2.2.2.2.2.2.2.2.2.2]:List (Int)) (Int.toNat a2)).bind fun (x1:Int)=>q0d (max x1 (1:Int)) fun (n2:Int)=>some n2 else none)
def j5w (n:Nat):FC:={ f:=83,args:=[.one (.agg [.d (.int .i64),.d (.int .i64),.d (.int .i64),.d (.int .i64),.d (.int .i64),.d (.int .i64),.d (.int .i64),.d (.int .i64),.d (.int .i64),.d (.int .i64),.d (.int .i64),.d (.int .i64)]),.one (.c (.d (.int .i64)))],res:=.one (.c (.d (.int .i64))),F:=fun p=>jn8 n p.1 p.2 }
def juw (n:Nat):List FC:=[]
theorem js5 (n:Nat) {G:World->Prop} (hG:Know Inv G) : ∀c∈juw n,q0z Tryz.prog G c/\q0a c.args=true:=(fun _ h=>by cases h)
def jur:q09:=[]
theorem k0h:drB jur (q00 Tryz.f83)=true:=by kernel_rfl
theorem k00 (n:Nat) : ∀a,(j5w n).F a=main Tryz.prog 9 (juw n) (jnb n) jur (q00 Tryz.f83) [.tmp 4] (j5w n).args (j5w n).res a:=by intro a;kernel_rfl
theorem jyf (n:Nat):q0f Inv Tryz.prog (j5w n):=fun G hG=>⟨⟨by kernel_rfl,fun a r h=>q05 (c:=q00 Tryz.f83) Tryz.func83 (by kernel_rfl) (by kernel_rfl) (Nat.le_of_ble_eq_true (by kernel_rfl)) hG.st (by kernel_rfl) (rs:=[.tmp 4]) (by kernel_rfl) (js5 n hG) (lts:=jnb n) (fun F hF hFG=>have hK:Know Inv F.G:=hFG ▸ hG;(q02 fun j L h1 h2 h3=>absurd h2 (Nat.not_lt.2 (Nat.le_trans (by decide +kernel) h1)))) k0h ((k00 n a).symm.trans h)⟩,rfl⟩
@[reducible] def qat:SSt:=⟨[(0,.one (.c (.d (.lst (.prod .str (.prod .str (.lst (.prod .str (.prod (.int .i64) (.prod (.int .i64) (.prod (.int .i64) (.prod .str .str)))))))))))),(5,.one (.c (.row 26))),(6,.one (.c (.box 6 0)))],[(6,(115,[.d .bool,.d .bool,.d .bool,.d .bool,.d .bool,.d .bool,.d .bool,.d .bool,.d .bool,.d .bool,.d .bool,.d .bool]))],[(26,⟨3,true,(.int .i64)⟩)]⟩
@[reducible] def q5e:List (Exit×SSt):=[(.exit 0,⟨[(0,.one (.c (.d (.lst (.prod .str (.prod .str (.lst (.prod .str (.prod (.int .i64) (.prod (.int .i64) (.prod (.int .i64) (.prod .str .str)))))))))))),(5,.one (.c (.row 26)))],[],[(26,⟨3,true,(.int .i64)⟩)]⟩)]
def ql2 (n:Nat) (rec:(List (List UInt8×(List UInt8×(List (List UInt8×((Int)×((Int)×((Int)×(List UInt8×(List UInt8))))))))))->Bool->Bool->Bool->Bool->Bool->Bool->Bool->Bool->Bool->Bool->Bool->Bool->(List (Int))->Option (((List (List UInt8×(List UInt8×(List (List UInt8×((Int)×((Int)×((Int)×(List UInt8×(List UInt8))))))))))×(Unit×(Unit)))×(Unit)×((List (Int))×(Unit)))) (a1:List (List UInt8×(List UInt8×(List (List UInt8×((Int)×((Int)×((Int)×(List UInt8×(List UInt8)))))))))) (a2:Bool) (a3:Bool) (a4:Bool) (a5:Bool) (a6:Bool) (a7:Bool) (a8:Bool) (a9:Bool) (a10:Bool) (a11:Bool) (a12:Bool) (a13:Bool) (a14:List (Int)):Option (((List (List UInt8×(List UInt8×(List (List UInt8×((Int)×((Int)×((Int)×(List UInt8×(List UInt8))))))))))×(Unit×(Unit)))×(Unit)×((List (Int))×(Unit))) :=
 (qzv n a1 () a2 a3 a4 a5 a6 a7 a8 a9 a10 a11 a12 a13).bind fun (r2:(Int×(Bool))×((Bool×(Bool×(Bool×(Bool×(Bool×(Bool×(Bool×(Bool×(Bool×(Bool×(Bool×(Bool))))))))))))×(Unit))×(Unit))=>(bif !r2.1.2 then some (((a1,((),())),((),(a14,())))) else (bif inA r2.1.1 12 then (bif inA r2.1.1 12 then (qxh 8 a14 ([r2.1.1]:List (Int))).bind fun (l3:List (Int))=>rec a1 (q1t 0 r2.1.1 true r2.2.1.1.1) (q1t 1 r2.1.1 true r2.2.1.1.2.1) (q1t 2 r2.1.1 true r2.2.1.1.2.2.1) (q1t 3 r2.1.1 true r2.2.1.1.2.2.2.1) (q1t 4 r2.1.1 true r2.2.1.1.2.2.2.2.1) (q1t 5 r2.1.1 true r2.2.1.1.2.2.2.2.2.1) (q1t 6 r2.1.1 true r2.2.1.1.2.2.2.2.2.2.1) (q1t 7 r2.1.1 true r2.2.1.1.2.2.2.2.2.2.2.1) (q1t 8 r2.1.1 true r2.2.1.1.2.2.2.2.2.2.2.2.1) (q1t 9 r2.1.1 true r2.2.1.1.2.2.2.2.2.2.2.2.2.1) (q1t 10 r2.1.1 true r2.2.1.1.2.2.2.2.2.2.2.2.2.2.1) (q1t 11 r2.1.1 true r2.2.1.1.2.2.2.2.2.2.2.2.2.2.2) l3 else none) else none))
def qk2 (n:Nat) (rec:pSt qat->Option (q0b q5e)) (p:pSt qat):Option (q0b q5e):=ql2 n (fun a1 a2 a3 a4 a5 a6 a7 a8 a9 a10 a11 a12 a13 a14=>rec ((a1,((),((),()))),(((a2,(a3,(a4,(a5,(a6,(a7,(a8,(a9,(a10,(a11,(a12,a13))))))))))),()),(a14,())))) p.1.1 p.2.1.1.1 p.2.1.1.2.1 p.2.1.1.2.2.1 p.2.1.1.2.2.2.1 p.2.1.1.2.2.2.2.1 p.2.1.1.2.2.2.2.2.1 p.2.1.1.2.2.2.2.2.2.1 p.2.1.1.2.2.2.2.2.2.2.1 p.2.1.1.2.2.2.2.2.2.2.2.1 p.2.1.1.2.2.2.2.2.2.2.2.2.1 p.2.1.1.2.2.2.2.2.2.2.2.2.2.1 p.2.1.1.2.2.2.2.2.2.2.2.2.2.2 p.2.2.1
def q2p (n m:Nat) (a1:List (List UInt8×(List UInt8×(List (List UInt8×((Int)×((Int)×((Int)×(List UInt8×(List UInt8)))))))))) (a2:Bool) (a3:Bool) (a4:Bool) (a5:Bool) (a6:Bool) (a7:Bool) (a8:Bool) (a9:Bool) (a10:Bool) (a11:Bool) (a12:Bool) (a13:Bool) (a14:List (Int)):Option (((List (List UInt8×(List UInt8×(List (List UInt8×((Int)×((Int)×((Int)×(List UInt8×(List UInt8))))))))))×(Unit×(Unit)))×(Unit)×((List (Int))×(Unit))):=q0c (qk2 n) m ((a1,((),((),()))),(((a2,(a3,(a4,(a5,(a6,(a7,(a8,(a9,(a10,(a11,(a12,a13))))))))))),()),(a14,())))
theorem qir (n m:Nat) (a1:List (List UInt8×(List UInt8×(List (List UInt8×((Int)×((Int)×((Int)×(List UInt8×(List UInt8)))))))))) (a2:Bool) (a3:Bool) (a4:Bool) (a5:Bool) (a6:Bool) (a7:Bool) (a8:Bool) (a9:Bool) (a10:Bool) (a11:Bool) (a12:Bool) (a13:Bool) (a14:List (Int)):q2p n (m+1) a1 a2 a3 a4 a5 a6 a7 a8 a9 a10 a11 a12 a13 a14=ql2 n (fun a1 a2 a3 a4 a5 a6 a7 a8 a9 a10 a11 a12 a13 a14=>q2p n m a1 a2 a3 a4 a5 a6 a7 a8 a9 a10 a11 a12 a13 a14) a1 a2 a3 a4 a5 a6 a7 a8 a9 a10 a11 a12 a13 a14:=rfl
def qwv (n:Nat):LC:={ sh:=qat,outs:=q5e,F:=q0c (qk2 n) n }
def qen (n:Nat):List LC:=[qwv n]
def qbw (n:Nat) (a1:List (List UInt8×(List UInt8×(List (List UInt8×((Int)×((Int)×((Int)×(List UInt8×(List UInt8)))))))))):Option ((Unit×(Int))×(Unit)×((List (Int))×(Unit))) :=
 (qgr n a1).bind fun (r1:Int)=>(bif !decide (r1=(0:Int)) then some (((),r1),((),([],()))) else (q2p n n a1 false false false false false false false false false false false false []).bind fun (o4:((List (List UInt8×(List UInt8×(List (List UInt8×((Int)×((Int)×((Int)×(List UInt8×(List UInt8))))))))))×(Unit×(Unit)))×(Unit)×((List (Int))×(Unit)))=>(bif decide (((List.length o4.2.2.1:Nat):Int)<((List.length o4.1.1:Nat):Int)) then some (((),(12:Int)),((),([],()))) else some (((),(0:Int)),((),(o4.2.2.1,())))))
def q2n (n:Nat):FX:={ f:=37,args:=[.one (.c (.d (.lst (.prod .str (.prod .str (.lst (.prod .str (.prod (.int .i64) (.prod (.int .i64) (.prod (.int .i64) (.prod .str .str)))))))))))],boxes:=[],rows:=[],res:=.tup [.c (.row 26),.c (.d (.int .i64))],oboxes:=[],orows:=[(26,⟨3,true,(.int .i64)⟩)],F:=fun p=>qbw n p.1 }
def qk9 (n:Nat):List FC:=[q9n (q43 n) [(1000000,6)] [],q8j n]
theorem qn5 (n:Nat) {G:World->Prop} (hG:Know Inv G) : ∀c∈qk9 n,q0z Tryz.prog G c/\q0a c.args=true:=List.forall_mem_cons.2 ⟨q2c (jjy n G hG),List.forall_mem_cons.2 ⟨j38 n G hG,(fun _ h=>by cases h)⟩⟩
def qlw:q09:=[]
theorem qwr:drB qlw (q00 Tryz.f37)=true:=by kernel_rfl
theorem jaq (n:Nat) : ∀rec p,qk2 n rec p=round Tryz.prog 33 (qk9 n) (qen n) qlw 1 qat q5e (q01 0 0 (q00 Tryz.f37)) rec p:=by intro rec p;kernel_rfl
theorem j3v (n:Nat) {F:Fr} (hF:F.n=33) (hK:Know Inv F.G):q57 Tryz.prog F (qwv n) (q01 0 0 (q00 Tryz.f37)) :=
 q0e hF (by kernel_rfl) (qn5 n hK) (jaq n) (fuel:=n) (fun _=>rfl) (q02 fun j L h1 h2 h3=>absurd h2 (Nat.not_lt.2 (Nat.le_trans (by decide +kernel) h1))) (q0j qwr)
theorem jhm (n:Nat) : ∀a,(q2n n).F a=qb8 Tryz.prog 33 (qk9 n) (qen n) qlw (q00 Tryz.f37) [.tmp 2,.tmp 3] (q2n n).args (q2n n).boxes (q2n n).rows (q2n n).res (q2n n).oboxes (q2n n).orows a:=by intro a;kernel_rfl
theorem ja1 (n:Nat):q8c Inv Tryz.prog (q2n n):=fun G hG=>⟨by kernel_rfl,fun a r h=>q1j (x:=q2n n) (c:=q00 Tryz.f37) Tryz.func37 (by kernel_rfl) (by kernel_rfl) (Nat.le_of_ble_eq_true (by kernel_rfl)) (by kernel_rfl) (rs:=[.tmp 2,.tmp 3]) (by kernel_rfl) (qn5 n hG) (lts:=qen n) (fun F hF hFG=>have hK:Know Inv F.G:=hFG ▸ hG;(q02 (c:=(q00 Tryz.f37)) (fun j L h1 h2 h3=>by
  have h2':j<1:=Nat.lt_of_lt_of_le h2 (by decide +kernel)
  match j,h1,h2',h3 with
  | 0,_,_,h3=>obtain rfl:=Option.some.inj h3;exact (show q01 0 0 (q00 Tryz.f37)=q01 0 0 (q00 Tryz.f37) by kernel_rfl) ▸ j3v n hF hK
  | j+1,_,h2',_=>exact absurd h2' (by omega)))) qwr ((jhm n a).symm.trans h)⟩
@[reducible] def q9i:SSt:=⟨[(6,.one (.c (.row 24))),(25,.one (.c (.d (.lst (.lst (.int .i64)))))),(26,.one (.c (.d (.int .i64)))),(27,.one (.c (.d (.int .i64))))],[],[(24,⟨3,true,(.int .i64)⟩)]⟩
@[reducible] def q5j:List (Exit×SSt):=[(.exit 2,⟨[(6,.one (.c (.row 24)))],[],[(24,⟨3,true,(.int .i64)⟩)]⟩)]
def q8e (n:Nat) (rec:(List (List (Int)))->Int->Int->(List (Int))->Option ((Unit×(Unit))×(Unit)×((List (Int))×(Unit)))) (a1:List (List (Int))) (a2:Int) (a3:Int) (a4:List (Int)):Option ((Unit×(Unit))×(Unit)×((List (Int))×(Unit))) :=
 (bif decide (a3<a2) then (q1a a1 a3).bind fun (x6:List (Int))=>(qxh 8 a4 x6).bind fun (l7:List (Int))=>q0d (IntKind.wrap .i64 (a3+(1:Int))) fun (n8:Int)=>rec a1 a2 n8 l7 else some ((((),()),((),(a4,())))))
def ql0 (n:Nat) (rec:pSt q9i->Option (q0b q5j)) (p:pSt q9i):Option (q0b q5j):=q8e n (fun a1 a2 a3 a4=>rec (((),(a1,(a2,(a3,())))),((),(a4,())))) p.1.2.1 p.1.2.2.1 p.1.2.2.2.1 p.2.2.1
def q1b (n m:Nat) (a1:List (List (Int))) (a2:Int) (a3:Int) (a4:List (Int)):Option ((Unit×(Unit))×(Unit)×((List (Int))×(Unit))):=q0c (ql0 n) m (((),(a1,(a2,(a3,())))),((),(a4,())))
theorem q3d (n m:Nat) (a1:List (List (Int))) (a2:Int) (a3:Int) (a4:List (Int)):q1b n (m+1) a1 a2 a3 a4=q8e n (fun a1 a2 a3 a4=>q1b n m a1 a2 a3 a4) a1 a2 a3 a4:=rfl
def qxv (n:Nat):LC:={ sh:=q9i,outs:=q5j,F:=q0c (ql0 n) n }
@[reducible] def qay:SSt:=⟨[(0,.one (.c (.d (.lst (.lst (.int .i64)))))),(3,.one (.c (.d (.int .i64)))),(9,.one (.c (.d (.lst (.lst (.int .i64)))))),(10,.one (.c (.d (.int .i64)))),(11,.one (.c (.d (.int .i64))))],[],[]⟩
@[reducible] def q5t:List (Exit×SSt):=[(.exit 0,⟨[(0,.one (.c (.d (.lst (.lst (.int .i64)))))),(3,.one (.c (.d (.int .i64))))],[],[]⟩)]
def q96 (n:Nat) (rec:(List (List (Int)))->Int->(List (List (Int)))->Int->Int->Option (((List (List (Int)))×(Int×(Unit)))×(Unit)×(Unit))) (a1:List (List (Int))) (a2:Int) (a3:List (List (Int))) (a4:Int) (a5:Int):Option (((List (List (Int)))×(Int×(Unit)))×(Unit)×(Unit)) :=
 (bif decide (a5<a4) then (q1a a3 a5).bind fun (x1:List (Int))=>q0d (IntKind.wrap .i64 (a2+((List.length x1:Nat):Int))) fun (n2:Int)=>(bif decide (n2<(0:Int)) then none else q0d (IntKind.wrap .i64 (a5+(1:Int))) fun (n3:Int)=>rec a1 n2 a3 a4 n3) else some (((a1,(a2,())),((),()))))
def qkz (n:Nat) (rec:pSt qay->Option (q0b q5t)) (p:pSt qay):Option (q0b q5t):=q96 n (fun a1 a2 a3 a4 a5=>rec ((a1,(a2,(a3,(a4,(a5,()))))),((),()))) p.1.1 p.1.2.1 p.1.2.2.1 p.1.2.2.2.1 p.1.2.2.2.2.1
def q1c (n m:Nat) (a1:List (List (Int))) (a2:Int) (a3:List (List (Int))) (a4:Int) (a5:Int):Option (((List (List (Int)))×(Int×(Unit)))×(Unit)×(Unit)):=q0c (qkz n) m ((a1,(a2,(a3,(a4,(a5,()))))),((),()))
theorem q3m (n m:Nat) (a1:List (List (Int))) (a2:Int) (a3:List (List (Int))) (a4:Int) (a5:Int):q1c n (m+1) a1 a2 a3 a4 a5=q96 n (fun a1 a2 a3 a4 a5=>q1c n m a1 a2 a3 a4 a5) a1 a2 a3 a4 a5:=rfl
def qva (n:Nat):LC:={ sh:=qay,outs:=q5t,F:=q0c (qkz n) n }
def q9m (n:Nat):List LC:=[qva n,qxv n]
def qc4 (n:Nat) (a1:List (List (Int))):Option (List (Int)) :=
 (q1c n n a1 (0:Int) a1 ((List.length a1:Nat):Int) (0:Int)).bind fun (o4:((List (List (Int)))×(Int×(Unit)))×(Unit)×(Unit))=>(qjw () o4.1.2.1).bind fun (r5:(Unit)×(Unit)×((List (Int))×(Unit)))=>(q1b n n o4.1.1 ((List.length o4.1.1:Nat):Int) (0:Int) r5.2.2.1).bind fun (o9:(Unit×(Unit))×(Unit)×((List (Int))×(Unit)))=>some o9.2.2.1
def qdx (n:Nat):FC:={ f:=40,args:=[.one (.c (.d (.lst (.lst (.int .i64)))))],res:=.one (.c (.d (.lst (.int .i64)))),F:=fun p=>qc4 n p }
def qdw (n:Nat):List FC:=[q9n (jds) [] [(1000000,24)]]
theorem qc1 (n:Nat) {G:World->Prop} (hG:Know Inv G) : ∀c∈qdw n,q0z Tryz.prog G c/\q0a c.args=true:=List.forall_mem_cons.2 ⟨q2c (jpv G hG),(fun _ h=>by cases h)⟩
def qdt:q09:=[]
theorem ql7:drB qdt (q00 Tryz.f40)=true:=by kernel_rfl
theorem ja8 (n:Nat) : ∀rec p,ql0 n rec p=round Tryz.prog 36 (qdw n) (q9m n) qdt 2 q9i q5j (q01 0 1 (q00 Tryz.f40)) rec p:=by intro rec p;kernel_rfl
theorem j8f (n:Nat) : ∀rec p,qkz n rec p=round Tryz.prog 36 (qdw n) (q9m n) qdt 1 qay q5t (q01 0 0 (q00 Tryz.f40)) rec p:=by intro rec p;kernel_rfl
theorem j4f (n:Nat) {F:Fr} (hF:F.n=36) (hK:Know Inv F.G):q57 Tryz.prog F (qxv n) (q01 0 1 (q00 Tryz.f40)) :=
 q0e hF (by kernel_rfl) (qc1 n hK) (ja8 n) (fuel:=n) (fun _=>rfl) (q02 fun j L h1 h2 h3=>absurd h2 (Nat.not_lt.2 (Nat.le_trans (by decide +kernel) h1))) (q0j ql7)
theorem j3z (n:Nat) {F:Fr} (hF:F.n=36) (hK:Know Inv F.G):q57 Tryz.prog F (qva n) (q01 0 0 (q00 Tryz.f40)) :=
 q0e hF (by kernel_rfl) (qc1 n hK) (j8f n) (fuel:=n) (fun _=>rfl) (q02 fun j L h1 h2 h3=>absurd h2 (Nat.not_lt.2 (Nat.le_trans (by decide +kernel) h1))) (q0j ql7)
theorem jj2 (n:Nat) : ∀a,(qdx n).F a=main Tryz.prog 36 (qdw n) (q9m n) qdt (q00 Tryz.f40) [.tmp 2] (qdx n).args (qdx n).res a:=by intro a;kernel_rfl
theorem jgy (n:Nat):q0f Inv Tryz.prog (qdx n):=fun G hG=>⟨⟨by kernel_rfl,fun a r h=>q05 (c:=q00 Tryz.f40) Tryz.func40 (by kernel_rfl) (by kernel_rfl) (Nat.le_of_ble_eq_true (by kernel_rfl)) hG.st (by kernel_rfl) (rs:=[.tmp 2]) (by kernel_rfl) (qc1 n hG) (lts:=q9m n) (fun F hF hFG=>have hK:Know Inv F.G:=hFG ▸ hG;(q02 (c:=(q00 Tryz.f40)) (fun j L h1 h2 h3=>by
  have h2':j<2:=Nat.lt_of_lt_of_le h2 (by decide +kernel)
  match j,h1,h2',h3 with
  | 0,_,_,h3=>obtain rfl:=Option.some.inj h3;exact (show q01 0 0 (q00 Tryz.f40)=q01 0 0 (q00 Tryz.f40) by kernel_rfl) ▸ j3z n hF hK
  | 1,_,_,h3=>obtain rfl:=Option.some.inj h3;exact (show q01 0 1 (q00 Tryz.f40)=q01 0 1 (q00 Tryz.f40) by kernel_rfl) ▸ j4f n hF hK
  | j+2,_,h2',_=>exact absurd h2' (by omega)))) ql7 ((jj2 n a).symm.trans h)⟩,rfl⟩
@[reducible] def q75:SSt:=⟨[(0,.one (.c (.d (.lst (.int .i64))))),(1,.one (.c (.d (.int .i64)))),(7,.one (.c (.d (.int .i64)))),(8,.one (.c (.d (.int .i64))))],[],[]⟩
@[reducible] def q4a:List (Exit×SSt):=[(.ret,⟨[(4,.one (.c (.d (.int .i64))))],[],[]⟩),(.exit 0,⟨[],[],[]⟩)]
def qes (n:Nat) (rec:(List (Int))->Int->Int->Int->Option (((Int×(Unit))×(Unit)×(Unit))⊕((Unit)×(Unit)×(Unit)))) (a1:List (Int)) (a2:Int) (a3:Int) (a4:Int):Option (((Int×(Unit))×(Unit)×(Unit))⊕((Unit)×(Unit)×(Unit))) :=
 (bif decide (a4<a3) then (q1a a1 a4).bind fun (x1:Int)=>(bif decide (a2=x1) then some (Sum.inl ((a4,()),((),()))) else q0d (IntKind.wrap .i64 (a4+(1:Int))) fun (n2:Int)=>rec a1 a2 a3 n2) else some (Sum.inr (((),((),())))))
def qfl (n:Nat) (rec:pSt q75->Option (q0b q4a)) (p:pSt q75):Option (q0b q4a):=qes n (fun a1 a2 a3 a4=>rec ((a1,(a2,(a3,(a4,())))),((),()))) p.1.1 p.1.2.1 p.1.2.2.1 p.1.2.2.2.1
def q4i (n m:Nat) (a1:List (Int)) (a2:Int) (a3:Int) (a4:Int):Option (((Int×(Unit))×(Unit)×(Unit))⊕((Unit)×(Unit)×(Unit))):=q0c (qfl n) m ((a1,(a2,(a3,(a4,())))),((),()))
theorem qet (n m:Nat) (a1:List (Int)) (a2:Int) (a3:Int) (a4:Int):q4i n (m+1) a1 a2 a3 a4=qes n (fun a1 a2 a3 a4=>q4i n m a1 a2 a3 a4) a1 a2 a3 a4:=rfl
def qr9 (n:Nat):LC:={ sh:=q75,outs:=q4a,F:=q0c (qfl n) n }
def qbr (n:Nat):List LC:=[qr9 n]
def qk4 (n:Nat) (a1:List (Int)) (a2:Int):Option (Int) :=
 (q4i n n a1 a2 ((List.length a1:Nat):Int) (0:Int)).bind fun (o3:((Int×(Unit))×(Unit)×(Unit))⊕((Unit)×(Unit)×(Unit)))=>Sum.elim (fun (q4:(Int×(Unit))×(Unit)×(Unit))=>some q4.1.1) (fun (q5:(Unit)×(Unit)×(Unit))=>some (-1:Int)) o3
def q6f (n:Nat):FC:={ f:=81,args:=[.one (.c (.d (.lst (.int .i64)))),.one (.c (.d (.int .i64)))],res:=.one (.c (.d (.int .i64))),F:=fun p=>qk4 n p.1 p.2 }
def qg2 (n:Nat):List FC:=[]
theorem qhe (n:Nat) {G:World->Prop} (hG:Know Inv G) : ∀c∈qg2 n,q0z Tryz.prog G c/\q0a c.args=true:=(fun _ h=>by cases h)
def qek:q09:=[]
theorem qtt:drB qek (q00 Tryz.f81)=true:=by kernel_rfl
theorem j4u (n:Nat) : ∀rec p,qfl n rec p=round Tryz.prog 19 (qg2 n) (qbr n) qek 1 q75 q4a (q01 0 0 (q00 Tryz.f81)) rec p:=by intro rec p;kernel_rfl
theorem qyv (n:Nat) {F:Fr} (hF:F.n=19) (hK:Know Inv F.G):q57 Tryz.prog F (qr9 n) (q01 0 0 (q00 Tryz.f81)) :=
 q0e hF (by kernel_rfl) (qhe n hK) (j4u n) (fuel:=n) (fun _=>rfl) (q02 fun j L h1 h2 h3=>absurd h2 (Nat.not_lt.2 (Nat.le_trans (by decide +kernel) h1))) (q0j qtt)
theorem jat (n:Nat) : ∀a,(q6f n).F a=main Tryz.prog 19 (qg2 n) (qbr n) qek (q00 Tryz.f81) [.tmp 4] (q6f n).args (q6f n).res a:=by intro a;kernel_rfl
theorem j7p (n:Nat):q0f Inv Tryz.prog (q6f n):=fun G hG=>⟨⟨by kernel_rfl,fun a r h=>q05 (c:=q00 Tryz.f81) Tryz.func81 (by kernel_rfl) (by kernel_rfl) (Nat.le_of_ble_eq_true (by kernel_rfl)) hG.st (by kernel_rfl) (rs:=[.tmp 4]) (by kernel_rfl) (qhe n hG) (lts:=qbr n) (fun F hF hFG=>have hK:Know Inv F.G:=hFG ▸ hG;(q02 (c:=(q00 Tryz.f81)) (fun j L h1 h2 h3=>by
  have h2':j<1:=Nat.lt_of_lt_of_le h2 (by decide +kernel)
  match j,h1,h2',h3 with
  | 0,_,_,h3=>obtain rfl:=Option.some.inj h3;exact (show q01 0 0 (q00 Tryz.f81)=q01 0 0 (q00 Tryz.f81) by kernel_rfl) ▸ qyv n hF hK
  | j+1,_,h2',_=>exact absurd h2' (by omega)))) qtt ((jat n a).symm.trans h)⟩,rfl⟩
def qbj (n:Nat):List LC:=[]
def qa5 (n:Nat) (a1:List (Int)) (a2:Int):Option (Bool) :=
 (qk4 n a1 a2).bind fun (r1:Int)=>some (decide ((0:Int)<=r1))
def q4c (n:Nat):FC:={ f:=44,args:=[.one (.c (.d (.lst (.int .i64)))),.one (.c (.d (.int .i64)))],res:=.one (.c (.d .bool)),F:=fun p=>qa5 n p.1 p.2 }
def qei (n:Nat):List FC:=[q6f n]
theorem qnn (n:Nat) {G:World->Prop} (hG:Know Inv G) : ∀c∈qei n,q0z Tryz.prog G c/\q0a c.args=true:=List.forall_mem_cons.2 ⟨j7p n G hG,(fun _ h=>by cases h)⟩
def qef:q09:=[]
theorem qus:drB qef (q00 Tryz.f44)=true:=by kernel_rfl
theorem qv0 (n:Nat) : ∀a,(q4c n).F a=main Tryz.prog 9 (qei n) (qbj n) qef (q00 Tryz.f44) [.tmp 4] (q4c n).args (q4c n).res a:=by intro a;kernel_rfl
theorem quy (n:Nat):q0f Inv Tryz.prog (q4c n):=fun G hG=>⟨⟨by kernel_rfl,fun a r h=>q05 (c:=q00 Tryz.f44) Tryz.func44 (by kernel_rfl) (by kernel_rfl) (Nat.le_of_ble_eq_true (by kernel_rfl)) hG.st (by kernel_rfl) (rs:=[.tmp 4]) (by kernel_rfl) (qnn n hG) (lts:=qbj n) (fun F hF hFG=>have hK:Know Inv F.G:=hFG ▸ hG;(q02 fun j L h1 h2 h3=>absurd h2 (Nat.not_lt.2 (Nat.le_trans (by decide +kernel) h1)))) qus ((qv0 n a).symm.trans h)⟩,rfl⟩
end Go.Proofs.YtggoebaobojmjaaGreatDoor.AM
namespace Go.Proofs
open Go.RowKit Go.Shelf Go.Lib
attribute [local go_sem] Oper.semAt_some
set_option linter.unusedVariables false
set_option linter.unusedSimpArgs false
namespace YtggoebaobojmjaaGreatDoor.AM
abbrev LI:Ty:=.lst (.int .i64)
def q52 (l:List Int):List Value:=l.map (.int .i64)
theorem qw4 (l:List Int):(q52 l).length=l.length:=List.length_map ..
theorem qii (n:Nat) (l:List Int) (x:Int) (hL:l.length<=1000000) : ∀(m j:Nat),j<=l.length->l.length - j<m ->
  ∃ o,q4i n m l x ((l.length:Nat):Int) (j:Int)=some o/\((x∈l.drop j/\∃ k:Nat,o=Sum.inl (((k:Int),()),((),())))\/(x ∉ l.drop j/\o=Sum.inr ((),((),()))))
 | 0,j,_,h=>absurd h (Nat.not_lt_zero _)
 | m+1,j,hj,h=>by
  rw [qet]
  unfold qes
  by_cases c:j<l.length
  ·rw [decide_eq_true (by omega),cond_true,q0m c,Option.bind_some,List.drop_eq_getElem_cons c]
   by_cases d:x=l[j]
   ·rw [decide_eq_true d,cond_true]
    exact ⟨_,rfl,.inl ⟨by rw [d];exact List.mem_cons_self ..,j,rfl⟩⟩
   ·rw [decide_eq_false d,cond_false,q04 (by omega)]
    obtain ⟨o,h1,h2⟩:=qii n l x hL m (j+1) (by omega) (by omega)
    refine ⟨o,h1,?_⟩
    rcases h2 with ⟨h3,h4⟩|⟨h3,h4⟩
    ·exact .inl ⟨List.mem_cons_of_mem _ h3,h4⟩
    ·exact .inr ⟨fun h5=>(List.mem_cons.1 h5).elim d h3,h4⟩
  ·obtain rfl:j=l.length:=by omega
   rw [decide_eq_false (by omega),cond_false,List.drop_length]
   exact ⟨_,rfl,.inr ⟨by simp,rfl⟩⟩
theorem qnx (n:Nat) (l:List Int) (x:Int) (hL:l.length<=1000000) (hn:l.length<n):qa5 n l x=some (decide (x∈l)):=by
 unfold qa5 qk4
 obtain ⟨o,h1,h2⟩:=qii n l x hL n 0 (Nat.zero_le _) (by omega)
 rw [show ((0:Nat):Int)=(0:Int) from rfl] at h1
 rw [List.drop_zero] at h2
 rw [h1,Option.bind_some]
 rcases h2 with ⟨h3,k,rfl⟩|⟨h3,rfl⟩
 ·rw [decide_eq_true h3]
  show some (decide ((0:Int)<=(k:Int)))=_
  rw [decide_eq_true (by omega)]
 ·rw [decide_eq_false h3]
  rfl
structure Holds (Pc:Nat->Nat->Prop) (b:Nat) (U:List Int) (W:World):Prop where
 inv:Inv W
 lt : ∀b o,Pc b o->b<W.heap.size
 box : ∃ vu,W.heap[b]? = some (.cells #[vu] 39 (0,0))/\DatRep Pc W vu (.lst 1 (U.map (q03 (.int .i64))))
theorem Holds.below {Pc:Nat->Nat->Prop} {b:Nat} {U:List Int} {W W':World} (h:Holds Pc b U W) (hb:Below W.heap.size W W'):Holds Pc b U W':=by
 obtain ⟨vu,h1,h2⟩:=h.box
 exact ⟨h.inv.below hb,fun b o hp=>Nat.lt_of_lt_of_le (h.lt b o hp) hb.size,vu,(hb.block _ (q0s h1)).trans h1,h2.mono (fun _ _ h=>h) fun b o hp=>hb.cell (p:=⟨b,o,none⟩) (h.lt b o hp)⟩
set_option maxRecDepth 100000 in
theorem jek {Pc:Nat->Nat->Prop} (b:Nat) (U:List Int) (k:Int) (w:World) (h:Holds Pc b U w) (hU:U.length<=1000000):Calls Tryz.prog 43 #[.int .i64 k,.pointer (some ⟨b,0,none⟩)] w fun e w'=>e = .returned (.bool (!decide (k∈U)))/\Below w.heap.size w w':=by
 obtain ⟨vu,h1,h2⟩:=h.box
 have hc:w.cell? ⟨b,0,none⟩=some vu:=by rw [cell_of_row w _ _ _ _ _ h1];rfl
 obtain ⟨va,vn,vc,rfl⟩ : ∃ a n c,vu = .slice a n c:=by
  generalize hd:Dat.lst 1 (U.map (q03 (.int .i64)))=d at h2
  cases h2 with
  | v=>cases hd
  | lst a n c=>exact ⟨_,_,_,rfl⟩
 have hC:Calls Tryz.prog 44 #[.slice va vn vc,.int .i64 k] w fun e w'=>e = .returned (.bool (decide (k∈U)))/\Below w.heap.size w w':=by
  have hh:=(quy 1000001 Inv q1d).1.2 (U,k) _ (qnx 1000001 U k hU (by omega))
  refine (hh Pc w #[.slice va vn vc,.int .i64 k] h.inv h.lt ⟨h2,q06 _,trivial⟩).mono ?_
  rintro e w' ⟨u,Pc',rfl,hb,_,_,hv⟩
  have hv':u = .bool (decide (k∈U)):=q07 (σ:=q2m) hv
  rw [hv']
  exact ⟨rfl,hb⟩
 clear h1 h2 h
 go_enter Tryz.func43,Tryz.ntmps43
 go_wp2_with (go_at_call 44;refine hC.mono ?_)
 rintro e W1 ⟨rfl,hb1⟩
 go_wp2
 go_ret
 exact ⟨rfl,hb1⟩
def At (g:Nat) (l:List Int) (W:World):Prop:=∀(j:Nat) (x:Int),l[j]? = some x->W.cell? ⟨g,j,none⟩=some (.int .i64 x)
theorem At.below {g:Nat} {l:List Int} {W W':World} (h:At g l W) (hb:Below W.heap.size W W'):At g l W':=fun j x hx=>(hb.cell (p:=⟨g,j,none⟩) (World.block_lt_of_cell? _ _ (h j x hx))).trans (h j x hx)
def q24 (U:List Int):List Int->Nat->Option Nat
 | [],_=>none
 | x::l,i=>if x∈U then q24 U l (i+1) else some i
set_option maxHeartbeats 1000000 in
set_option maxRecDepth 100000 in
theorem jhh {Pc:Nat->Nat->Prop} (b g n cap:Nat) (U O:List Int) (w:World) (h:Holds Pc b U w) (hU:U.length<=1000000) (hn:O.length=n) (hnm:n<=1000000) (hnc:n<=cap) (hcm:cap<=9223372036854775807) (hA:At g O w) :
  Calls Tryz.prog 80 #[.slice (some ⟨g,0,none⟩) n cap,.func (.func 43) #[] #[.pointer (some ⟨b,0,none⟩)]] w fun e w' =>
   e = .returned (.int .i64 (match q24 U O 0 with|some i=>((i:Nat):Int)|none=>-1))/\Below w.heap.size w w':=by
 have HU:=hid hU
 have HN:=hid hn
 obtain ⟨R,hR⟩ : ∃ R:Int,R=(match q24 U O 0 with|some i=>((i:Nat):Int)|none=>-1):=⟨_,rfl⟩
 rw [<-hR]
 have HR:=hid hR
 clear hR hU hn
 go_enter Tryz.func80,Tryz.ntmps80
 go_wp2_with fail
 go_loopw [8] (fun i wr=>∃ (k:Nat),k<=n/\i = .int .i64 ((k:Nat):Int)/\q24 U O 0=q24 U (O.drop k) k/\Below w.heap.size w wr) (fun i _=>n - (RowKit.intOf i).toNat)
 case atStart=>exact ⟨0,Nat.zero_le _,rfl,rfl,Below.refl _ _⟩
 case round =>
  obtain ⟨k,hk,rfl,hfo,hbel⟩:=hrel
  have HF:=hid hfo
  have HH:=hid (h.below hbel)
  have HAt:=hid (hA.below hbel)
  clear hfo
  by_cases hkn:k<n
  ·have hkl:k<O.length:=by rw [HN.out];exact hkn
   have hkk:(k:Int)<(n:Int):=by omega
   have d0:=HAt.out k O[k] (List.getElem?_eq_getElem hkl)
   have hdrop:Hid (O.drop k=O[k]::O.drop (k+1)):=hid (List.drop_eq_getElem_cons hkl)
   generalize O[k]=x at *
   have hC:=jek b U x wr HH.out HU.out
   go_wp2_with fail
   refine hC.mono ?_
   clear hC
   rintro e W4 ⟨rfl,hb4⟩
   by_cases hx:x∈U
   ·rw [decide_eq_true hx]
    have hw1:IntKind.i64.wrap ((k:Int)+1)=((k+1:Nat):Int):=by rw [IntKind.wrap_i64];omega
    have HF2:Hid (q24 U O 0=q24 U (O.drop (k+1)) (k+1)):=hid (by rw [HF.out,hdrop.out,q24,if_pos hx])
    clear d0
    go_wp2_with fail
    go_roundw
    case rel=>exact ⟨k+1,by omega,by go_num,HF2.out,hbel.trans (hb4.mono hbel.size)⟩
    case measure=>simp [RowKit.intOf];omega
   ·rw [decide_eq_false hx]
    have hRk:R=(k:Int):=by rw [HR.out,HF.out,hdrop.out,q24,if_neg hx]
    clear d0
    subst hRk
    go_wp2_with fail
    go_ret
    exact ⟨rfl,hbel.trans (hb4.mono hbel.size)⟩
  ·have hkn2:k=n:=by omega
   subst hkn2
   have hRk:R = -1:=by rw [HR.out,HF.out,List.drop_of_length_le (by rw [HN.out];exact Nat.le_refl _)];rfl
   subst hRk
   go_wp2_with fail
   go_ret
   exact ⟨rfl,hbel⟩
end YtggoebaobojmjaaGreatDoor.AM
end Go.Proofs
namespace Go.Proofs
open Go.RowKit Go.Shelf Go.Lib
attribute [local go_sem] Oper.semAt_some
set_option linter.unusedVariables false
set_option linter.unusedSimpArgs false
namespace YtggoebaobojmjaaGreatDoor.AM
section
variable {P:Program}
theorem jbf (m:Nat) (w:World) (t e ty:TypeId) (z:Value) (zs:List Value) (ht:P.underlying t=some (.slice e)) (hv : ∀w,(zeroValue e).run P w = .ok z w) (hz:(Builtin.zeroCells z.cells m).toList=zs) (h1 : ∀v∈zs,v.oneCell'=true)
  (g o c:Nat) (cur:Array Value) (T:TypeId) (hg:w.heap[g]? = some (.cells cur T (0,0))) (hfit:o+zs.length<=cur.size) (hm:0<m) :
  (Builtin.clear_ #[t] ty #[.slice (some ⟨g,o,none⟩) m c]).run P w = .ok (.tuple #[]) (w.setRow g (cur.toList.take o++zs++cur.toList.drop (o+zs.length)).toArray):=by
 obtain ⟨m,rfl⟩ : ∃ k,m=k+1:=⟨m - 1,by omega⟩
 have hst:=run_storeCells_at P g o T zs 0 cur w hg (by simpa using hfit) h1
 simp only [Nat.add_zero] at hst
 simp [Builtin.clear_,run_underlying ht,hv,hz,hst]
theorem qkn (w:World) {ops:Array Oper} {rest:List Oper} {o:Oper} {a:Act} {Q:Exit->Act->World->Prop} (hgd:o.guard=none) (d:Operand) (t:TypeId)
  (ho:o.op = .call { callee:=.builtin .clear,args:=#[d],argTypes:=#[t] }) (v:Value) (hd:a.eval d=v) {v':Value} {w':World}
  (hr:(Builtin.clear_ #[t] o.type #[v]).run P w = .ok v' w') (h:wpList P ops Q rest (a.put o.dst v') w'):wpList P ops Q (o::rest) a w :=
 wpList_plain hgd fun _ hK=>by
  unfold Oper.wp execOp
  simp only [ho,resolve,invoke,builtin,Sem.run_bind,Sem.run_pure,Result.andThen_ok,List.map_toArray,List.map_cons,List.map_nil,hd,hr]
  exact hK _ _ h
end
theorem qi6 {U:List Int} : ∀{O:List Int} {k i:Nat},q24 U O k=some i->∃ L x R,O=L++x::R/\i=k+L.length/\x ∉ U/\∀y∈L,y∈U
 | [],k,i,h=>by cases h
 | x::O,k,i,h=>by
  unfold q24 at h
  split at h
  ·rename_i hx
   obtain ⟨L,y,R,h1,h2,h3,h4⟩:=qi6 h
   refine ⟨x::L,y,R,by rw [h1];rfl,by rw [List.length_cons];omega,h3,fun z hz=>?_⟩
   rcases List.mem_cons.1 hz with rfl|hz
   ·exact hx
   ·exact h4 z hz
  ·rename_i hx
   exact ⟨[],x,O,rfl,(Option.some.inj h).symm,hx,fun y hy=>by cases hy⟩
theorem qgh {U:List Int} : ∀{O:List Int} {k:Nat},q24 U O k=none->∀y∈O,y∈U
 | [],k,h,y,hy=>by cases hy
 | x::O,k,h,y,hy=>by
  unfold q24 at h
  split at h
  ·rename_i hx
   rcases List.mem_cons.1 hy with rfl|hy
   ·exact hx
   ·exact qgh h y hy
  ·cases h
def q3o (U O:List Int):List Int:=O.filter fun x=>decide (x∈U)
theorem jdj {U O:List Int} (h : ∀y∈O,y∈U):q3o U O=O:=List.filter_eq_self.2 fun x hx=>decide_eq_true (h x hx)
theorem qyq (U A B:List Int):q3o U (A++B)=q3o U A++q3o U B:=List.filter_append ..
theorem jbv (U A:List Int):(q3o U A).length<=A.length:=List.length_filter_le ..
theorem Holds.setRow {Pc:Nat->Nat->Prop} {b g:Nat} {U:List Int} {W:World} {X:Array Value} (h:Holds Pc b U W) (hbg:b≠g) (hpg : ∀b' o,Pc b' o->b'≠g) (hI:Inv (W.setRow g X)):Holds Pc b U (W.setRow g X):=by
 obtain ⟨vu,h1,h2⟩:=h.box
 exact ⟨hI,fun b o hp=>by simpa using h.lt b o hp,vu,(setRow_other W g b X hbg).trans h1,h2.mono (fun _ _ h=>h) fun b o hp=>World.cell?_of_block (setRow_other W g b X (hpg b o hp))⟩
theorem jws : ∃ i:TypeInfo,Tryz.prog.info? 3=some i/\i.size=1/\i.zero=some (.int .i64 0):=by
 have h:(match Tryz.prog.info? 3 with
  | some i=>decide (i.size=1)&&(match i.zero with|some (.int .i64 0)=>true|_=>false)
  | none=>false)=true:=by kernel_rfl
 split at h
 ·rename_i i hi
  simp only [Bool.and_eq_true,decide_eq_true_eq] at h
  obtain ⟨h1,h3⟩:=h
  split at h3
  ·rename_i hz
   exact ⟨i,hi,h1,hz⟩
  ·cases h3
 ·cases h
theorem q6a {w w':World} {B E sz n:Nat} {v:Value} {xs:List Value} (h:w.ownsRow B E sz v n xs) (hb:Below w.heap.size w w'):w'.ownsRow B E sz v n xs:=by
 refine ⟨h.1,?_⟩
 rcases h.2 with h3|⟨g,cap,cur,h3,h4,h5,h6⟩
 ·exact .inl h3
 ·exact .inr ⟨g,cap,cur,h3,h4,(hb.block g (q0s h5)).trans h5,h6⟩
set_option maxHeartbeats 4000000 in
set_option maxRecDepth 1000000 in
theorem jhj {Pc:Nat->Nat->Prop} (w:World) (B b g cap:Nat) (cur:Array Value) (U O:List Int) (h:Holds Pc b U w) (hIB : ∀wr,Below B w wr->Inv wr) (hbg':b≠g) (hpg : ∀b' o,Pc b' o->b'≠g) (hbg:B<=g)
  (hg:w.heap[g]? = some (.cells cur 3 (0,0))) (hnc:O.length<=cap) (hcm:cap<=maxLen) (hcs:cur.size=cap*1) (htake:cur.toList.take (O.length*1)=q52 O) (hB:B<=w.heap.size) (hll:O.length<=1000000) (hU:U.length<=1000000) :
  Calls Tryz.prog 42 #[.slice (some ⟨g,0,none⟩) O.length cap,.func (.func 43) #[] #[.pointer (some ⟨b,0,none⟩)]] w fun e w' =>
   ∃ v',e = .returned v'/\w'.ownsRow B 3 1 v' (q3o U O).length (q52 (q3o U O))/\Below B w w'/\(∀k,k<w.heap.size->k≠g->w'.heap[k]? = w.heap[k]?)/\(∀b,v'.ownBlock=some b->b=g):=by
 have hcm':cap<=9223372036854775807:=by unfold maxLen at hcm;omega
 rw [Nat.mul_one] at htake hcs
 have hget : ∀(X:Array Value) (W:World),W.heap[g]? = some (.cells X 3 (0,0))->∀(j:Nat) (u:Value),X.toList[j]? = some u->W.cell? ⟨g,j,none⟩=some u:=fun X W hX j u hu=>by
  rw [cell_of_row W g _ X _ _ hX];simpa using hu
 have hat : ∀(j:Nat) (x:Int),O[j]? = some x->cur.toList[j]? = some (.int .i64 x):=fun j x hx=>by
  have hj:j<O.length:=(List.getElem?_eq_some_iff.1 hx).1
  have e:(cur.toList.take O.length)[j]? = some (.int .i64 x):=by rw [htake];unfold q52;rw [List.getElem?_map,hx];rfl
  rw [List.getElem?_take,if_pos hj] at e
  exact e
 have hA:At g O w:=fun j x hx=>hget cur w hg j _ (hat j x hx)
 have hX:=jhh b g O.length cap U O w h hU rfl hll hnc hcm' hA
 cases hfo:q24 U O 0 with
 | none =>
  rw [hfo] at hX
  dsimp only at hX
  have hall:=qgh hfo
  rw [jdj hall]
  have hown:w.ownsRow B 3 1 (.slice (some ⟨g,0,none⟩) O.length cap) O.length (q52 O):=⟨by rw [qw4,Nat.mul_one],.inr ⟨g,cap,cur,rfl,hbg,hg,hnc,hcm,by omega,by rw [Nat.mul_one];exact htake⟩⟩
  have HO:=hid hown
  clear hown htake hat hget hA hfo hall h hpg hIB
  go_enter Tryz.func42,Tryz.ntmps42
  go_wp2_with (go_at_call 80;refine hX.mono ?_)
  rintro e W1 ⟨rfl,hb1⟩
  clear hX
  go_wp2
  go_ret
  exact ⟨_,rfl,q6a HO.out hb1,hb1.mono hB,fun k hk _=>hb1.block k hk,fun b hb=>by simpa [Value.ownBlock] using hb.symm⟩
 | some i0 =>
  rw [hfo] at hX
  dsimp only at hX
  obtain ⟨L,x,R,hO,hi0,hxU,hL⟩:=qi6 hfo
  rw [Nat.zero_add] at hi0
  obtain ⟨n,hn⟩ : ∃ n,n=O.length:=⟨_,rfl⟩
  have hnl:n=L.length+1+R.length:=by rw [hn,hO];simp;omega
  rw [<-hn] at hX hnc hll htake ⊢
  have HH:=hid h
  have HAT:=hid hat
  have HTK:=hid htake
  have HN:=hid hn
  have HNL:=hid hnl
  have HO:=hid hO
  have HL:=hid hL
  have HG:=hid hget
  have HIB:=hid hIB
  have HPG:=hid hpg
  have HU:=hid hU
  have hi0n:i0<n:=by omega
  clear htake hat hget hA hfo hL hn hnl hO h hIB hpg hU
  go_enter Tryz.func42,Tryz.ntmps42
  go_wp2_with (go_at_call 80;refine hX.mono ?_)
  rintro e W1 ⟨rfl,hb1⟩
  clear hX
  have hg1:=(hb1.block g (q0s hg)).trans hg
  have hbel1:Below B w W1:=hb1.mono hB
  have HH1:=hid (HH.out.below hb1)
  have hne : ¬ ((i0:Nat):Int) = -1:=by omega
  have hw0:IntKind.i64.wrap ((i0:Int)+1)=((i0+1:Nat):Int):=by rw [IntKind.wrap_i64];omega
  go_wp2_with fail
  go_loopw [5,6] (fun i j wr=>∃ (a c:Nat) (X:Array Value),c<=n/\a<c/\i = .int .i64 ((a:Nat):Int)/\j = .int .i64 ((c:Nat):Int)/\a=(q3o U (O.take c)).length/\wr.heap[g]? = some (.cells X 3 (0,0))/\X.size=cap /\
   X.toList.take a=q52 (q3o U (O.take c))/\(∀t,c<=t->t<n->X.toList[t]? = cur.toList[t]?)/\Below B w wr/\Holds Pc b U wr/\∀k,k<w.heap.size->k≠g->wr.heap[k]? = w.heap[k]?) (fun _ j _=>n - (RowKit.intOf j).toNat)
  case atStart =>
   have hlen:L.length=i0:=hi0.symm
   have e1:O.take (i0+1)=L ++ [x]:=by
    rw [HO.out,<-hlen,List.take_append,List.take_of_length_le (by omega),show L.length+1 - L.length=1 from by omega];rfl
   have e2:q3o U (O.take (i0+1))=L:=by
    rw [e1,qyq,jdj HL.out]
    show L++List.filter _ [x]=L
    rw [List.filter_cons,if_neg (by simpa using hxU)];simp
   refine ⟨i0,i0+1,cur,by omega,by omega,by rw [hi0],?_,by rw [e2,hlen],hg1,hcs,?_,fun t _ _=>rfl,hbel1,HH1.out,fun k hk _=>hb1.block k hk⟩
   ·congr 1;omega
   ·rw [e2]
    have h6:cur.toList.take i0=(cur.toList.take n).take i0:=by rw [List.take_take];congr 1;omega
    rw [h6,HTK.out,HO.out,<-hlen]
    show List.take _ (List.map _ (L++x::R))=_
    rw [List.map_append,List.take_left' (by simp)];rfl
  case round =>
   obtain ⟨a,c,X,hc,hac,rfl,rfl,ha,hX,hXs,hXt,hXr,hbel,hHo,hkg⟩:=hrel
   have HKG:=hid hkg
   clear hkg
   by_cases hcn:c<n
   ·have hcO:c<O.length:=by rw [<-HN.out];exact hcn
    have hx0:X.toList[c]? = some (.int .i64 O[c]):=(hXr c (Nat.le_refl _) hcn).trans (HAT.out c O[c] (List.getElem?_eq_getElem hcO))
    have d0:wr.cell? ⟨g,c,none⟩=some (.int .i64 O[c]):=HG.out X wr hX c _ hx0
    have HTS:Hid (O.take (c+1)=O.take c ++ [O[c]]):=hid (List.take_append_getElem hcO).symm
    have HX:=hid hXt
    have HXR:=hid hXr
    have HA:=hid ha
    have HX2:=hid hX
    clear hx0 hXt hXr ha
    generalize O[c]=y at *
    have hcc:(c:Int)<(n:Int):=by omega
    have hw2:IntKind.i64.wrap ((c:Int)+1)=((c+1:Nat):Int):=by rw [IntKind.wrap_i64];omega
    have hw3:IntKind.i64.wrap ((a:Int)+1)=((a+1:Nat):Int):=by rw [IntKind.wrap_i64];omega
    have haa:(a:Int)<(n:Int):=by omega
    have HO4:=hid hHo
    have hC:=jek b U y wr hHo HU.out
    clear hHo
    go_wp2_with fail
    refine hC.mono ?_
    clear hC
    rintro e W4 ⟨rfl,hb4⟩
    have hX4:W4.heap[g]? = some (Obj.cells X 3 (0,0)):=(hb4.block g (q0s HX2.out)).trans HX2.out
    have hB4:Below B w W4:=hbel.trans (hb4.mono (Nat.le_trans hB hbel.size))
    by_cases hy:y∈U
    ·rw [decide_eq_true hy]
     have haX:a<X.size:=by omega
     obtain ⟨u0,x0⟩ : ∃ u,W4.cell? ⟨g,a,none⟩=some u:=⟨X[a]'haX,by rw [cell_of_row W4 _ _ _ _ _ hX4];simp [haX]⟩
     have f0:W4.frozen? ⟨g,a,none⟩=false:=by simp [World.frozen?,hX4]
     have HB4:=hid hB4
     have HH4:=hid (HO4.out.below hb4)
     clear d0 hB4
     go_wp2_with fail
     go_roundw
     case rel =>
      have hs1:=setCell_eq_setRow W4 g a X 3 (0,0) (.int .i64 y) hX4
      rw [hs1]
      have hBr:=HB4.out.trans (below_setRow (Below.refl B W4) hbg (X.setIfInBounds a (.int .i64 y)))
      have e3:q3o U (O.take (c+1))=q3o U (O.take c) ++ [y]:=by
       rw [HTS.out,qyq];congr 1
       show List.filter _ [y]=_
       rw [List.filter_cons,if_pos (by simpa using hy)];rfl
      refine ⟨_,_,_,_,_,_,_,_,_,_,_,_,_,_,_,_,_,_,_,_,_,_,_,⟨a+1,c+1,X.setIfInBounds a (.int .i64 y),by omega,by omega,by go_num,by go_num,by rw [e3,List.length_append,<-HA.out];rfl,setRow_heap W4 g X _ _ _ hX4,by simp [hXs],?rE,?rF,hBr,HH4.out.setRow hbg' HPG.out (HIB.out _ hBr),fun k hk hne=>(setRow_other W4 g k _ hne).trans ((hb4.block k (Nat.lt_of_lt_of_le hk hbel.size)).trans (HKG.out k hk hne))⟩,rfl⟩
      case rE =>
       rw [e3,Array.toList_setIfInBounds]
       have hal:a<X.toList.length:=by rw [Array.length_toList];exact haX
       rw [<-List.take_append_getElem (by rw [List.length_set];exact hal),List.take_set,List.set_eq_of_length_le (by rw [List.length_take];omega),HX.out,List.getElem_set_self]
       show q52 _ ++ [_]=List.map _ (_ ++ [y])
       rw [List.map_append];rfl
      case rF =>
       intro t h1 h2
       rw [Array.toList_setIfInBounds,List.getElem?_set_ne (by omega)]
       exact HXR.out t (by omega) h2
     case measure=>simp [RowKit.intOf];omega
    ·rw [decide_eq_false hy]
     have HB4:=hid hB4
     have HH4:=hid (HO4.out.below hb4)
     clear d0 hB4
     go_wp2_with fail
     go_roundw
     case rel =>
      have e3:q3o U (O.take (c+1))=q3o U (O.take c):=by
       rw [HTS.out,qyq]
       show _++List.filter _ [y]=_
       rw [List.filter_cons,if_neg (by simpa using hy)];simp
      refine ⟨_,_,_,_,_,_,_,_,_,_,_,_,_,_,_,_,_,_,_,_,_,_,_,⟨a,c+1,X,by omega,by omega,rfl,by go_num,by rw [e3];exact HA.out,hX4,hXs,by rw [e3];exact HX.out,fun t h1 h2=>HXR.out t (by omega) h2,HB4.out,HH4.out,fun k hk hne=>(hb4.block k (Nat.lt_of_lt_of_le hk hbel.size)).trans (HKG.out k hk hne)⟩,rfl⟩
     case measure=>simp [RowKit.intOf];omega
   ·have hcc:c=n:=by omega
    subst hcc
    obtain ⟨ti,ht1,ht2,ht3⟩:=jws
    have hzl:(Builtin.zeroCells (Value.int .i64 0).cells (c - a)).toList=List.replicate (c - a) (.int .i64 0):=by
     show (Builtin.zeroCells #[Value.int .i64 0] (c - a)).toList=_
     simp [Builtin.zeroCells,Nat.mod_one,List.map_const',Array.toList_map,Array.toList_range]
    obtain ⟨zs,hzs⟩ : ∃ zs,zs=List.replicate (c - a) (Value.int .i64 0):=⟨_,rfl⟩
    have hzn:zs.length=c - a:=by rw [hzs,List.length_replicate]
    have hcl : ∀ty cc,(Builtin.clear_ #[39] ty #[.slice (some ⟨g,a,none⟩) (c - a) cc]).run Tryz.prog wr = .ok (.tuple #[]) (wr.setRow g (X.toList.take a++zs++X.toList.drop (a+zs.length)).toArray):=fun ty cc =>
     jbf (P:=Tryz.prog) (c - a) wr 39 3 ty (.int .i64 0) zs Tryz.underlying39 (fun w=>by simp [zeroValue,typeInfo,ht1,ht3]) (by rw [hzl,hzs]) (by intro v hv;rw [hzs] at hv;rw [(List.mem_replicate.1 hv).2];rfl) g a cc X 3 hX (by rw [hzn];omega) (by omega)
    have hOt:O.take c=O:=List.take_of_length_le (by rw [<-HN.out];exact Nat.le_refl _)
    rw [hOt] at ha hXt
    have hfin:(X.toList.take a++zs++X.toList.drop (a+zs.length)).toArray.toList.take (a*1)=q52 (q3o U O):=by
     rw [Nat.mul_one]
     show List.take a ((X.toList.take a++zs)++_)=_
     rw [List.append_assoc,List.take_append_of_le_length (by rw [List.length_take,Array.length_toList];omega),List.take_take,Nat.min_self,hXt]
    have hfs:(X.toList.take a++zs++X.toList.drop (a+zs.length)).toArray.size=cap*1:=by simp [hzn];omega
    generalize (X.toList.take a++zs++X.toList.drop (a+zs.length)).toArray=Y at hcl hfin hfs
    have HFI:=hid hfin
    have HA:=hid ha
    have HX2:=hid hX
    have hnc' : ¬ ((c:Nat):Int)<(c:Int):=by omega
    have hk3:(a:Int)<=(c:Int):=by omega
    have hk4:a<=c:=by omega
    have hk5:a<=cap:=by omega
    clear hfin hzl hzs hzn ht1 ht2 ht3 hXr hOt ha hXt hHo
    go_wp2_with (at_builtin;refine qkn _ rfl _ 39 rfl _ rfl (hcl _ _) ?_)
    go_ret
    rw [<-HA.out]
    exact ⟨_,rfl,⟨by rw [qw4,Nat.mul_one];exact HA.out.symm,.inr ⟨g,cap,Y,rfl,hbg,setRow_heap wr g X Y _ _ HX2.out,by omega,hcm,hfs,HFI.out⟩⟩,hbel.trans (below_setRow (Below.refl B wr) hbg Y),fun k hk hne=>(setRow_other wr g k _ hne).trans (HKG.out k hk hne),fun b hb=>by simpa [Value.ownBlock] using hb.symm⟩
end YtggoebaobojmjaaGreatDoor.AM
end Go.Proofs
