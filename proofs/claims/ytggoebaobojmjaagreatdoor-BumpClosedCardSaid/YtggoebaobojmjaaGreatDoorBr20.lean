
import Derived.Test.YtggoebaobojmjaaGreatDoorBr19
import Derived.Test.YtggoebaobojmjaaGreatDoorBr9
import Derived.Shelf.RegionOpenPlain
import Derived.Laws.NewBlocks
import Derived.Lib.Hide
import Derived.Lib.SliceRun
namespace Go.Proofs.YtggoebaobojmjaaGreatDoor.AM
open Go.RowKit
set_option linter.unusedVariables false
set_option maxRecDepth 20000
def j33 (n:Nat):List LC:=[]
def jc8 (n:Nat) (a1:(List UInt8)×((List UInt8)×(List (List UInt8×((Int)×((Int)×((Int)×(List UInt8×(List UInt8))))))))) (a2:Unit) (b1:List UInt8) (b2:Int):Option ((Bool)×(((List UInt8)×(Int))×(Unit))×(Unit)) :=
 some (decide (a1.2.1=b1),(((b1,b2),()),()))
def q4g (n:Nat):FX:={ f:=75,args:=[.one (.agg [.d .str,.d .str,.d (.lst (.prod .str (.prod (.int .i64) (.prod (.int .i64) (.prod (.int .i64) (.prod .str .str))))))]),.one (.c (.box 1000000 0))],boxes:=[(1000000,(72,[.d .str,.d (.int .i64)]))],rows:=[],res:=.one (.c (.d .bool)),oboxes:=[(1000000,(72,[.d .str,.d (.int .i64)]))],orows:=[],F:=fun p=>jc8 n p.1.1 p.1.2 p.2.1.1.1 p.2.1.1.2 }
def je4 (n:Nat):List FC:=[]
theorem jhx (n:Nat) {G:World->Prop} (hG:Know Inv G) : ∀c∈je4 n,q0v Tryz.prog G c/\q0d c.args=true:=(fun _ h=>by cases h)
def jdo:q0c:=[]
theorem jri:drB jdo (q00 Tryz.f75)=true:=by kernel_rfl
theorem jta (n:Nat) : ∀a,(q4g n).F a=qbp Tryz.prog 9 (je4 n) (j33 n) jdo (q00 Tryz.f75) [.tmp 3] (q4g n).args (q4g n).boxes (q4g n).rows (q4g n).res (q4g n).oboxes (q4g n).orows a:=by intro a;kernel_rfl
theorem jkt (n:Nat):q8r Inv Tryz.prog (q4g n):=fun G hG=>⟨by kernel_rfl,fun a r h=>q1r (x:=q4g n) (c:=q00 Tryz.f75) Tryz.func75 (by kernel_rfl) (by kernel_rfl) (Nat.le_of_ble_eq_true (by kernel_rfl)) (by kernel_rfl) (rs:=[.tmp 3]) (by kernel_rfl) (jhx n hG) (lts:=j33 n) (fun F hF hFG=>have hK:Know Inv F.G:=hFG ▸ hG;(q02 fun j L h1 h2 h3=>absurd h2 (Nat.not_lt.2 (Nat.le_trans (by decide +kernel) h1)))) jri ((jta n a).symm.trans h)⟩
@[reducible] def qhs:SSt:=⟨[(0,.one (.c (.d (.lst (.prod .str (.prod .str (.lst (.prod .str (.prod (.int .i64) (.prod (.int .i64) (.prod (.int .i64) (.prod .str .str)))))))))))),(1,.one (.c (.fn 75 [1000000]))),(7,.one (.c (.d (.int .i64)))),(8,.one (.c (.d (.int .i64))))],[(1000000,(72,[.d .str,.d (.int .i64)]))],[]⟩
@[reducible] def qa1:List (Exit×SSt):=[(.ret,⟨[(4,.one (.c (.d (.int .i64))))],[(1000000,(72,[.d .str,.d (.int .i64)]))],[]⟩),(.exit 0,⟨[],[(1000000,(72,[.d .str,.d (.int .i64)]))],[]⟩)]
def j1c (n:Nat) (rec:(List (List UInt8×(List UInt8×(List (List UInt8×((Int)×((Int)×((Int)×(List UInt8×(List UInt8))))))))))->Int->Int->(List UInt8)->Int->Option (((Int×(Unit))×(((List UInt8)×(Int))×(Unit))×(Unit))⊕((Unit)×(((List UInt8)×(Int))×(Unit))×(Unit)))) (a1:List (List UInt8×(List UInt8×(List (List UInt8×((Int)×((Int)×((Int)×(List UInt8×(List UInt8)))))))))) (a2:Int) (a3:Int) (a4:List UInt8) (a5:Int):Option (((Int×(Unit))×(((List UInt8)×(Int))×(Unit))×(Unit))⊕((Unit)×(((List UInt8)×(Int))×(Unit))×(Unit))) :=
 (bif decide (a3<a2) then (q0x a1 a3).bind fun (x1:List UInt8×(List UInt8×(List (List UInt8×((Int)×((Int)×((Int)×(List UInt8×(List UInt8)))))))))=>(jc8 n x1 () a4 a5).bind fun (r2:(Bool)×(((List UInt8)×(Int))×(Unit))×(Unit))=>(bif r2.1 then some (Sum.inl ((a3,()),((r2.2.1.1,()),()))) else q0e (IntKind.wrap .i64 (a3+(1:Int))) fun (n3:Int)=>rec a1 a2 n3 r2.2.1.1.1 r2.2.1.1.2) else some (Sum.inr (((),(((a4,a5),()),())))))
def qz3 (n:Nat) (rec:pSt qhs->Option (q08 qa1)) (p:pSt qhs):Option (q08 qa1):=j1c n (fun a1 a2 a3 a4 a5=>rec ((a1,((),(a2,(a3,())))),(((a4,a5),()),()))) p.1.1 p.1.2.2.1 p.1.2.2.2.1 p.2.1.1.1 p.2.1.1.2
def qas (n m:Nat) (a1:List (List UInt8×(List UInt8×(List (List UInt8×((Int)×((Int)×((Int)×(List UInt8×(List UInt8)))))))))) (a2:Int) (a3:Int) (a4:List UInt8) (a5:Int):Option (((Int×(Unit))×(((List UInt8)×(Int))×(Unit))×(Unit))⊕((Unit)×(((List UInt8)×(Int))×(Unit))×(Unit))):=q0a (qz3 n) m ((a1,((),(a2,(a3,())))),(((a4,a5),()),()))
theorem qon (n m:Nat) (a1:List (List UInt8×(List UInt8×(List (List UInt8×((Int)×((Int)×((Int)×(List UInt8×(List UInt8)))))))))) (a2:Int) (a3:Int) (a4:List UInt8) (a5:Int):qas n (m+1) a1 a2 a3 a4 a5=j1c n (fun a1 a2 a3 a4 a5=>qas n m a1 a2 a3 a4 a5) a1 a2 a3 a4 a5:=rfl
def jeu (n:Nat):LC:={ sh:=qhs,outs:=qa1,F:=q0a (qz3 n) n }
def qrh (n:Nat):List LC:=[jeu n]
def j0u (n:Nat) (a1:List (List UInt8×(List UInt8×(List (List UInt8×((Int)×((Int)×((Int)×(List UInt8×(List UInt8)))))))))) (a2:Unit) (b1:List UInt8) (b2:Int):Option ((Int)×(((List UInt8)×(Int))×(Unit))×(Unit)) :=
 (qas n n a1 ((List.length a1:Nat):Int) (0:Int) b1 b2).bind fun (o4:((Int×(Unit))×(((List UInt8)×(Int))×(Unit))×(Unit))⊕((Unit)×(((List UInt8)×(Int))×(Unit))×(Unit)))=>Sum.elim (fun (q5:(Int×(Unit))×(((List UInt8)×(Int))×(Unit))×(Unit))=>some (q5.1.1,((q5.2.1.1,()),()))) (fun (q6:(Unit)×(((List UInt8)×(Int))×(Unit))×(Unit))=>some ((-1:Int),((q6.2.1.1,()),()))) o4
def q4h (n:Nat):FX:={ f:=74,args:=[.one (.c (.d (.lst (.prod .str (.prod .str (.lst (.prod .str (.prod (.int .i64) (.prod (.int .i64) (.prod (.int .i64) (.prod .str .str))))))))))),.one (.c (.fn 75 [1000000]))],boxes:=[(1000000,(72,[.d .str,.d (.int .i64)]))],rows:=[],res:=.one (.c (.d (.int .i64))),oboxes:=[(1000000,(72,[.d .str,.d (.int .i64)]))],orows:=[],F:=fun p=>j0u n p.1.1 p.1.2 p.2.1.1.1 p.2.1.1.2 }
def qz4 (n:Nat):List FC:=[qak (q4g n) [(1000000,1000000)] []]
theorem qxt (n:Nat) {G:World->Prop} (hG:Know Inv G) : ∀c∈qz4 n,q0v Tryz.prog G c/\q0d c.args=true:=List.forall_mem_cons.2 ⟨q2l (jkt n G hG),(fun _ h=>by cases h)⟩
def qzm:q0c:=[]
theorem jfw:drB qzm (q00 Tryz.f74)=true:=by kernel_rfl
theorem joj (n:Nat) : ∀rec p,qz3 n rec p=round Tryz.prog 19 (qz4 n) (qrh n) qzm 1 qhs qa1 (q01 0 0 (q00 Tryz.f74)) rec p:=by intro rec p;kernel_rfl
theorem jiv (n:Nat) {F:Fr} (hF:F.n=19) (hK:Know Inv F.G):q3k Tryz.prog F (jeu n) (q01 0 0 (q00 Tryz.f74)) :=
 q0b hF (by kernel_rfl) (qxt n hK) (joj n) (fuel:=n) (fun _=>rfl) (q02 fun j L h1 h2 h3=>absurd h2 (Nat.not_lt.2 (Nat.le_trans (by decide +kernel) h1))) (q0h jfw)
theorem jun (n:Nat) : ∀a,(q4h n).F a=qbp Tryz.prog 19 (qz4 n) (qrh n) qzm (q00 Tryz.f74) [.tmp 4] (q4h n).args (q4h n).boxes (q4h n).rows (q4h n).res (q4h n).oboxes (q4h n).orows a:=by intro a;kernel_rfl
theorem joh (n:Nat):q8r Inv Tryz.prog (q4h n):=fun G hG=>⟨by kernel_rfl,fun a r h=>q1r (x:=q4h n) (c:=q00 Tryz.f74) Tryz.func74 (by kernel_rfl) (by kernel_rfl) (Nat.le_of_ble_eq_true (by kernel_rfl)) (by kernel_rfl) (rs:=[.tmp 4]) (by kernel_rfl) (qxt n hG) (lts:=qrh n) (fun F hF hFG=>have hK:Know Inv F.G:=hFG ▸ hG;(q02 (c:=(q00 Tryz.f74)) (fun j L h1 h2 h3=>by
  have h2':j<1:=Nat.lt_of_lt_of_le h2 (by decide +kernel)
  match j,h1,h2',h3 with
  | 0,_,_,h3=>obtain rfl:=Option.some.inj h3;exact (show q01 0 0 (q00 Tryz.f74)=q01 0 0 (q00 Tryz.f74) by kernel_rfl) ▸ jiv n hF hK
  | j+1,_,h2',_=>exact absurd h2' (by omega)))) jfw ((jun n a).symm.trans h)⟩
@[reducible] def qar:SSt:=⟨[(0,.one (.c (.d (.lst (.prod .str (.prod .str (.lst (.prod .str (.prod (.int .i64) (.prod (.int .i64) (.prod (.int .i64) (.prod .str .str)))))))))))),(4,.one (.c (.box 4 0))),(6,.one (.c (.box 6 0))),(10,.one (.c (.d (.lst (.prod .str (.int .i64)))))),(11,.one (.c (.d (.int .i64)))),(12,.one (.c (.d (.int .i64))))],[(4,(87,[.d (.int .i64),.d (.int .i64),.d (.int .i64),.d (.int .i64),.d (.int .i64),.d (.int .i64),.d (.int .i64),.d (.int .i64),.d (.int .i64),.d (.int .i64),.d (.int .i64),.d (.int .i64)])),(6,(87,[.d (.int .i64),.d (.int .i64),.d (.int .i64),.d (.int .i64),.d (.int .i64),.d (.int .i64),.d (.int .i64),.d (.int .i64),.d (.int .i64),.d (.int .i64),.d (.int .i64),.d (.int .i64)]))],[]⟩
@[reducible] def q5o:List (Exit×SSt):=[(.ret,⟨[(4,.one (.c (.box 4 0))),(5,.one (.c (.d (.int .i64))))],[(4,(87,[.d (.int .i64),.d (.int .i64),.d (.int .i64),.d (.int .i64),.d (.int .i64),.d (.int .i64),.d (.int .i64),.d (.int .i64),.d (.int .i64),.d (.int .i64),.d (.int .i64),.d (.int .i64)]))],[]⟩),(.exit 0,⟨[(4,.one (.c (.box 4 0))),(6,.one (.c (.box 6 0)))],[(4,(87,[.d (.int .i64),.d (.int .i64),.d (.int .i64),.d (.int .i64),.d (.int .i64),.d (.int .i64),.d (.int .i64),.d (.int .i64),.d (.int .i64),.d (.int .i64),.d (.int .i64),.d (.int .i64)])),(6,(87,[.d (.int .i64),.d (.int .i64),.d (.int .i64),.d (.int .i64),.d (.int .i64),.d (.int .i64),.d (.int .i64),.d (.int .i64),.d (.int .i64),.d (.int .i64),.d (.int .i64),.d (.int .i64)]))],[]⟩)]
def qmb (n:Nat) (rec:(List (List UInt8×(List UInt8×(List (List UInt8×((Int)×((Int)×((Int)×(List UInt8×(List UInt8))))))))))->(List (List UInt8×(Int)))->Int->Int->Int->Int->Int->Int->Int->Int->Int->Int->Int->Int->Int->Int->Int->Int->Int->Int->Int->Int->Int->Int->Int->Int->Int->Int->Option (((Unit×(Int×(Unit)))×((Int×(Int×(Int×(Int×(Int×(Int×(Int×(Int×(Int×(Int×(Int×(Int))))))))))))×(Unit))×(Unit))⊕((Unit×(Unit×(Unit)))×((Int×(Int×(Int×(Int×(Int×(Int×(Int×(Int×(Int×(Int×(Int×(Int))))))))))))×((Int×(Int×(Int×(Int×(Int×(Int×(Int×(Int×(Int×(Int×(Int×(Int))))))))))))×(Unit)))×(Unit)))) (a1:List (List UInt8×(List UInt8×(List (List UInt8×((Int)×((Int)×((Int)×(List UInt8×(List UInt8)))))))))) (a2:List (List UInt8×(Int))) (a3:Int) (a4:Int) (a5:Int) (a6:Int) (a7:Int) (a8:Int) (a9:Int) (a10:Int) (a11:Int) (a12:Int) (a13:Int) (a14:Int) (a15:Int) (a16:Int) (a17:Int) (a18:Int) (a19:Int) (a20:Int) (a21:Int) (a22:Int) (a23:Int) (a24:Int) (a25:Int) (a26:Int) (a27:Int) (a28:Int):Option (((Unit×(Int×(Unit)))×((Int×(Int×(Int×(Int×(Int×(Int×(Int×(Int×(Int×(Int×(Int×(Int))))))))))))×(Unit))×(Unit))⊕((Unit×(Unit×(Unit)))×((Int×(Int×(Int×(Int×(Int×(Int×(Int×(Int×(Int×(Int×(Int×(Int))))))))))))×((Int×(Int×(Int×(Int×(Int×(Int×(Int×(Int×(Int×(Int×(Int×(Int))))))))))))×(Unit)))×(Unit))) :=
 (bif decide (a4<a3) then (q0x a2 a4).bind fun (x1:List UInt8×(Int))=>(j0u n a1 () x1.1 x1.2).bind fun (r2:(Int)×(((List UInt8)×(Int))×(Unit))×(Unit))=>(bif decide (r2.1<(0:Int)) then some (Sum.inl (((),((5:Int),())),((((0:Int),((0:Int),((0:Int),((0:Int),((0:Int),((0:Int),((0:Int),((0:Int),((0:Int),((0:Int),((0:Int),(0:Int)))))))))))),()),()))) else (qhq n r2.2.1.1.2).bind fun (r3:Bool)=>(bif !r3 then some (Sum.inl (((),((1:Int),())),((((0:Int),((0:Int),((0:Int),((0:Int),((0:Int),((0:Int),((0:Int),((0:Int),((0:Int),((0:Int),((0:Int),(0:Int)))))))))))),()),()))) else (bif inA r2.1 12 then (nth ([a17,a18,a19,a20,a21,a22,a23,a24,a25,a26,a27,a28]:List (Int)) (Int.toNat r2.1)).bind fun (x4:Int)=>(bif !decide (x4=(0:Int)) then some (Sum.inl (((),((11:Int),())),((((0:Int),((0:Int),((0:Int),((0:Int),((0:Int),((0:Int),((0:Int),((0:Int),((0:Int),((0:Int),((0:Int),(0:Int)))))))))))),()),()))) else (bif inA r2.1 12 then (bif inA r2.1 12 then q0e (IntKind.wrap .i64 (a4+(1:Int))) fun (n5:Int)=>rec a1 a2 a3 n5 a5 a6 a7 a8 a9 a10 a11 a12 a13 a14 a15 a16 (q29 0 r2.1 r2.2.1.1.2 a17) (q29 1 r2.1 r2.2.1.1.2 a18) (q29 2 r2.1 r2.2.1.1.2 a19) (q29 3 r2.1 r2.2.1.1.2 a20) (q29 4 r2.1 r2.2.1.1.2 a21) (q29 5 r2.1 r2.2.1.1.2 a22) (q29 6 r2.1 r2.2.1.1.2 a23) (q29 7 r2.1 r2.2.1.1.2 a24) (q29 8 r2.1 r2.2.1.1.2 a25) (q29 9 r2.1 r2.2.1.1.2 a26) (q29 10 r2.1 r2.2.1.1.2 a27) (q29 11 r2.1 r2.2.1.1.2 a28) else none) else none)) else none))) else some (Sum.inr ((((),((),())),(((a5,(a6,(a7,(a8,(a9,(a10,(a11,(a12,(a13,(a14,(a15,a16))))))))))),((a17,(a18,(a19,(a20,(a21,(a22,(a23,(a24,(a25,(a26,(a27,a28))))))))))),())),())))))
def qmh (n:Nat) (rec:pSt qar->Option (q08 q5o)) (p:pSt qar):Option (q08 q5o):=qmb n (fun a1 a2 a3 a4 a5 a6 a7 a8 a9 a10 a11 a12 a13 a14 a15 a16 a17 a18 a19 a20 a21 a22 a23 a24 a25 a26 a27 a28=>rec ((a1,((),((),(a2,(a3,(a4,())))))),(((a5,(a6,(a7,(a8,(a9,(a10,(a11,(a12,(a13,(a14,(a15,a16))))))))))),((a17,(a18,(a19,(a20,(a21,(a22,(a23,(a24,(a25,(a26,(a27,a28))))))))))),())),()))) p.1.1 p.1.2.2.2.1 p.1.2.2.2.2.1 p.1.2.2.2.2.2.1 p.2.1.1.1 p.2.1.1.2.1 p.2.1.1.2.2.1 p.2.1.1.2.2.2.1 p.2.1.1.2.2.2.2.1 p.2.1.1.2.2.2.2.2.1 p.2.1.1.2.2.2.2.2.2.1 p.2.1.1.2.2.2.2.2.2.2.1 p.2.1.1.2.2.2.2.2.2.2.2.1 p.2.1.1.2.2.2.2.2.2.2.2.2.1 p.2.1.1.2.2.2.2.2.2.2.2.2.2.1 p.2.1.1.2.2.2.2.2.2.2.2.2.2.2 p.2.1.2.1.1 p.2.1.2.1.2.1 p.2.1.2.1.2.2.1 p.2.1.2.1.2.2.2.1 p.2.1.2.1.2.2.2.2.1 p.2.1.2.1.2.2.2.2.2.1 p.2.1.2.1.2.2.2.2.2.2.1 p.2.1.2.1.2.2.2.2.2.2.2.1 p.2.1.2.1.2.2.2.2.2.2.2.2.1 p.2.1.2.1.2.2.2.2.2.2.2.2.2.1 p.2.1.2.1.2.2.2.2.2.2.2.2.2.2.1 p.2.1.2.1.2.2.2.2.2.2.2.2.2.2.2
def q2s (n m:Nat) (a1:List (List UInt8×(List UInt8×(List (List UInt8×((Int)×((Int)×((Int)×(List UInt8×(List UInt8)))))))))) (a2:List (List UInt8×(Int))) (a3:Int) (a4:Int) (a5:Int) (a6:Int) (a7:Int) (a8:Int) (a9:Int) (a10:Int) (a11:Int) (a12:Int) (a13:Int) (a14:Int) (a15:Int) (a16:Int) (a17:Int) (a18:Int) (a19:Int) (a20:Int) (a21:Int) (a22:Int) (a23:Int) (a24:Int) (a25:Int) (a26:Int) (a27:Int) (a28:Int):Option (((Unit×(Int×(Unit)))×((Int×(Int×(Int×(Int×(Int×(Int×(Int×(Int×(Int×(Int×(Int×(Int))))))))))))×(Unit))×(Unit))⊕((Unit×(Unit×(Unit)))×((Int×(Int×(Int×(Int×(Int×(Int×(Int×(Int×(Int×(Int×(Int×(Int))))))))))))×((Int×(Int×(Int×(Int×(Int×(Int×(Int×(Int×(Int×(Int×(Int×(Int))))))))))))×(Unit)))×(Unit))):=q0a (qmh n) m ((a1,((),((),(a2,(a3,(a4,())))))),(((a5,(a6,(a7,(a8,(a9,(a10,(a11,(a12,(a13,(a14,(a15,a16))))))))))),((a17,(a18,(a19,(a20,(a21,(a22,(a23,(a24,(a25,(a26,(a27,a28))))))))))),())),()))
theorem qjn (n m:Nat) (a1:List (List UInt8×(List UInt8×(List (List UInt8×((Int)×((Int)×((Int)×(List UInt8×(List UInt8)))))))))) (a2:List (List UInt8×(Int))) (a3:Int) (a4:Int) (a5:Int) (a6:Int) (a7:Int) (a8:Int) (a9:Int) (a10:Int) (a11:Int) (a12:Int) (a13:Int) (a14:Int) (a15:Int) (a16:Int) (a17:Int) (a18:Int) (a19:Int) (a20:Int) (a21:Int) (a22:Int) (a23:Int) (a24:Int) (a25:Int) (a26:Int) (a27:Int) (a28:Int):q2s n (m+1) a1 a2 a3 a4 a5 a6 a7 a8 a9 a10 a11 a12 a13 a14 a15 a16 a17 a18 a19 a20 a21 a22 a23 a24 a25 a26 a27 a28=qmb n (fun a1 a2 a3 a4 a5 a6 a7 a8 a9 a10 a11 a12 a13 a14 a15 a16 a17 a18 a19 a20 a21 a22 a23 a24 a25 a26 a27 a28=>q2s n m a1 a2 a3 a4 a5 a6 a7 a8 a9 a10 a11 a12 a13 a14 a15 a16 a17 a18 a19 a20 a21 a22 a23 a24 a25 a26 a27 a28) a1 a2 a3 a4 a5 a6 a7 a8 a9 a10 a11 a12 a13 a14 a15 a16 a17 a18 a19 a20 a21 a22 a23 a24 a25 a26 a27 a28:=rfl
def qxr (n:Nat):LC:={ sh:=qar,outs:=q5o,F:=q0a (qmh n) n }
def qgg (n:Nat):List LC:=[qxr n]
def qce (n:Nat) (a1:List (List UInt8×(List UInt8×(List (List UInt8×((Int)×((Int)×((Int)×(List UInt8×(List UInt8)))))))))) (a2:List (List UInt8×(Int))):Option ((Int×(Int×(Int×(Int×(Int×(Int×(Int×(Int×(Int×(Int×(Int×(Int))))))))))))×(Int)) :=
 (q2s n n a1 a2 ((List.length a2:Nat):Int) (0:Int) (0:Int) (0:Int) (0:Int) (0:Int) (0:Int) (0:Int) (0:Int) (0:Int) (0:Int) (0:Int) (0:Int) (0:Int) (0:Int) (0:Int) (0:Int) (0:Int) (0:Int) (0:Int) (0:Int) (0:Int) (0:Int) (0:Int) (0:Int) (0:Int)).bind fun (o6:((Unit×(Int×(Unit)))×((Int×(Int×(Int×(Int×(Int×(Int×(Int×(Int×(Int×(Int×(Int×(Int))))))))))))×(Unit))×(Unit))⊕((Unit×(Unit×(Unit)))×((Int×(Int×(Int×(Int×(Int×(Int×(Int×(Int×(Int×(Int×(Int×(Int))))))))))))×((Int×(Int×(Int×(Int×(Int×(Int×(Int×(Int×(Int×(Int×(Int×(Int))))))))))))×(Unit)))×(Unit)))=>Sum.elim (fun (q7:(Unit×(Int×(Unit)))×((Int×(Int×(Int×(Int×(Int×(Int×(Int×(Int×(Int×(Int×(Int×(Int))))))))))))×(Unit))×(Unit))=>some (q7.2.1.1,q7.1.2.1)) (fun (q8:(Unit×(Unit×(Unit)))×((Int×(Int×(Int×(Int×(Int×(Int×(Int×(Int×(Int×(Int×(Int×(Int))))))))))))×((Int×(Int×(Int×(Int×(Int×(Int×(Int×(Int×(Int×(Int×(Int×(Int))))))))))))×(Unit)))×(Unit))=>some (q8.2.1.2.1,(0:Int))) o6
def qe6 (n:Nat):FC:={ f:=38,args:=[.one (.c (.d (.lst (.prod .str (.prod .str (.lst (.prod .str (.prod (.int .i64) (.prod (.int .i64) (.prod (.int .i64) (.prod .str .str))))))))))),.one (.c (.d (.lst (.prod .str (.int .i64)))))],res:=.tup [.agg [.d (.int .i64),.d (.int .i64),.d (.int .i64),.d (.int .i64),.d (.int .i64),.d (.int .i64),.d (.int .i64),.d (.int .i64),.d (.int .i64),.d (.int .i64),.d (.int .i64),.d (.int .i64)],.c (.d (.int .i64))],F:=fun p=>qce n p.1 p.2 }
def qkv (n:Nat):List FC:=[qak (q4h n) [(1000000,8)] [],q9l n]
theorem qnb (n:Nat) {G:World->Prop} (hG:Know Inv G) : ∀c∈qkv n,q0v Tryz.prog G c/\q0d c.args=true:=List.forall_mem_cons.2 ⟨q2l (joh n G hG),List.forall_mem_cons.2 ⟨j43 n G hG,(fun _ h=>by cases h)⟩⟩
def qku:q0c:=[]
theorem qxb:drB qku (q00 Tryz.f38)=true:=by kernel_rfl
theorem jag (n:Nat) : ∀rec p,qmh n rec p=round Tryz.prog 41 (qkv n) (qgg n) qku 1 qar q5o (q01 0 0 (q00 Tryz.f38)) rec p:=by intro rec p;kernel_rfl
theorem j3l (n:Nat) {F:Fr} (hF:F.n=41) (hK:Know Inv F.G):q3k Tryz.prog F (qxr n) (q01 0 0 (q00 Tryz.f38)) :=
 q0b hF (by kernel_rfl) (qnb n hK) (jag n) (fuel:=n) (fun _=>rfl) (q02 fun j L h1 h2 h3=>absurd h2 (Nat.not_lt.2 (Nat.le_trans (by decide +kernel) h1))) (q0h qxb)
theorem jhz (n:Nat) : ∀a,(qe6 n).F a=main Tryz.prog 41 (qkv n) (qgg n) qku (q00 Tryz.f38) [.cell 4 87,.tmp 5] (qe6 n).args (qe6 n).res a:=by intro a;kernel_rfl
theorem jja (n:Nat):q0g Inv Tryz.prog (qe6 n):=fun G hG=>⟨⟨by kernel_rfl,fun a r h=>q05 (c:=q00 Tryz.f38) Tryz.func38 (by kernel_rfl) (by kernel_rfl) (Nat.le_of_ble_eq_true (by kernel_rfl)) hG.st (by kernel_rfl) (rs:=[.cell 4 87,.tmp 5]) (by kernel_rfl) (qnb n hG) (lts:=qgg n) (fun F hF hFG=>have hK:Know Inv F.G:=hFG ▸ hG;(q02 (c:=(q00 Tryz.f38)) (fun j L h1 h2 h3=>by
  have h2':j<1:=Nat.lt_of_lt_of_le h2 (by decide +kernel)
  match j,h1,h2',h3 with
  | 0,_,_,h3=>obtain rfl:=Option.some.inj h3;exact (show q01 0 0 (q00 Tryz.f38)=q01 0 0 (q00 Tryz.f38) by kernel_rfl) ▸ j3l n hF hK
  | j+1,_,h2',_=>exact absurd h2' (by omega)))) qxb ((jhz n a).symm.trans h)⟩,rfl⟩
@[reducible] def qai:SSt:=⟨[(3,.one (.c (.row 16))),(6,.one (.agg [.d (.int .i64),.d (.int .i64),.d (.int .i64),.d (.int .i64),.d (.int .i64),.d (.int .i64),.d (.int .i64),.d (.int .i64),.d (.int .i64),.d (.int .i64),.d (.int .i64),.d (.int .i64)])),(7,.one (.c (.d (.int .i64))))],[],[(16,⟨3,true,(.int .i64)⟩)]⟩
@[reducible] def q5w:List (Exit×SSt):=[(.exit 0,⟨[(3,.one (.c (.row 16)))],[],[(16,⟨3,true,(.int .i64)⟩)]⟩)]
def qkq (n:Nat) (rec:Int->Int->Int->Int->Int->Int->Int->Int->Int->Int->Int->Int->Int->(List (Int))->Option ((Unit×(Unit))×(Unit)×((List (Int))×(Unit)))) (a1:Int) (a2:Int) (a3:Int) (a4:Int) (a5:Int) (a6:Int) (a7:Int) (a8:Int) (a9:Int) (a10:Int) (a11:Int) (a12:Int) (a13:Int) (a14:List (Int)):Option ((Unit×(Unit))×(Unit)×((List (Int))×(Unit))) :=
 (bif decide (a13<(12:Int)) then (q0x ([a1,a2,a3,a4,a5,a6,a7,a8,a9,a10,a11,a12]:List (Int)) a13).bind fun (x1:Int)=>(bif !decide (x1=(0:Int)) then (j0w 8 a14 ([a13]:List (Int))).bind fun (l2:List (Int))=>q0e (IntKind.wrap .i64 (a13+(1:Int))) fun (n3:Int)=>rec a1 a2 a3 a4 a5 a6 a7 a8 a9 a10 a11 a12 n3 l2 else q0e (IntKind.wrap .i64 (a13+(1:Int))) fun (n4:Int)=>rec a1 a2 a3 a4 a5 a6 a7 a8 a9 a10 a11 a12 n4 a14) else some ((((),()),((),(a14,())))))
def qm4 (n:Nat) (rec:pSt qai->Option (q08 q5w)) (p:pSt qai):Option (q08 q5w):=qkq n (fun a1 a2 a3 a4 a5 a6 a7 a8 a9 a10 a11 a12 a13 a14=>rec (((),((a1,(a2,(a3,(a4,(a5,(a6,(a7,(a8,(a9,(a10,(a11,a12))))))))))),(a13,()))),((),(a14,())))) p.1.2.1.1 p.1.2.1.2.1 p.1.2.1.2.2.1 p.1.2.1.2.2.2.1 p.1.2.1.2.2.2.2.1 p.1.2.1.2.2.2.2.2.1 p.1.2.1.2.2.2.2.2.2.1 p.1.2.1.2.2.2.2.2.2.2.1 p.1.2.1.2.2.2.2.2.2.2.2.1 p.1.2.1.2.2.2.2.2.2.2.2.2.1 p.1.2.1.2.2.2.2.2.2.2.2.2.2.1 p.1.2.1.2.2.2.2.2.2.2.2.2.2.2 p.1.2.2.1 p.2.2.1
def q3h (n m:Nat) (a1:Int) (a2:Int) (a3:Int) (a4:Int) (a5:Int) (a6:Int) (a7:Int) (a8:Int) (a9:Int) (a10:Int) (a11:Int) (a12:Int) (a13:Int) (a14:List (Int)):Option ((Unit×(Unit))×(Unit)×((List (Int))×(Unit))):=q0a (qm4 n) m (((),((a1,(a2,(a3,(a4,(a5,(a6,(a7,(a8,(a9,(a10,(a11,a12))))))))))),(a13,()))),((),(a14,())))
theorem qi0 (n m:Nat) (a1:Int) (a2:Int) (a3:Int) (a4:Int) (a5:Int) (a6:Int) (a7:Int) (a8:Int) (a9:Int) (a10:Int) (a11:Int) (a12:Int) (a13:Int) (a14:List (Int)):q3h n (m+1) a1 a2 a3 a4 a5 a6 a7 a8 a9 a10 a11 a12 a13 a14=qkq n (fun a1 a2 a3 a4 a5 a6 a7 a8 a9 a10 a11 a12 a13 a14=>q3h n m a1 a2 a3 a4 a5 a6 a7 a8 a9 a10 a11 a12 a13 a14) a1 a2 a3 a4 a5 a6 a7 a8 a9 a10 a11 a12 a13 a14:=rfl
def qwp (n:Nat):LC:={ sh:=qai,outs:=q5w,F:=q0a (qm4 n) n }
def qgv (n:Nat):List LC:=[qwp n]
def q9n (n:Nat) (a1:Int×(Int×(Int×(Int×(Int×(Int×(Int×(Int×(Int×(Int×(Int×(Int)))))))))))):Option (List (Int)) :=
 (q3h n n a1.1 a1.2.1 a1.2.2.1 a1.2.2.2.1 a1.2.2.2.2.1 a1.2.2.2.2.2.1 a1.2.2.2.2.2.2.1 a1.2.2.2.2.2.2.2.1 a1.2.2.2.2.2.2.2.2.1 a1.2.2.2.2.2.2.2.2.2.1 a1.2.2.2.2.2.2.2.2.2.2.1 a1.2.2.2.2.2.2.2.2.2.2.2 (0:Int) []).bind fun (o5:(Unit×(Unit))×(Unit)×((List (Int))×(Unit)))=>some o5.2.2.1
def qdx (n:Nat):FC:={ f:=41,args:=[.one (.agg [.d (.int .i64),.d (.int .i64),.d (.int .i64),.d (.int .i64),.d (.int .i64),.d (.int .i64),.d (.int .i64),.d (.int .i64),.d (.int .i64),.d (.int .i64),.d (.int .i64),.d (.int .i64)])],res:=.one (.c (.d (.lst (.int .i64)))),F:=fun p=>q9n n p }
def qmg (n:Nat):List FC:=[]
theorem qnw (n:Nat) {G:World->Prop} (hG:Know Inv G) : ∀c∈qmg n,q0v Tryz.prog G c/\q0d c.args=true:=(fun _ h=>by cases h)
def ql9:q0c:=[]
theorem qxu:drB ql9 (q00 Tryz.f41)=true:=by kernel_rfl
theorem jas (n:Nat) : ∀rec p,qm4 n rec p=round Tryz.prog 19 (qmg n) (qgv n) ql9 1 qai q5w (q01 0 0 (q00 Tryz.f41)) rec p:=by intro rec p;kernel_rfl
theorem j2w (n:Nat) {F:Fr} (hF:F.n=19) (hK:Know Inv F.G):q3k Tryz.prog F (qwp n) (q01 0 0 (q00 Tryz.f41)) :=
 q0b hF (by kernel_rfl) (qnw n hK) (jas n) (fuel:=n) (fun _=>rfl) (q02 fun j L h1 h2 h3=>absurd h2 (Nat.not_lt.2 (Nat.le_trans (by decide +kernel) h1))) (q0h qxu)
theorem jgz (n:Nat) : ∀a,(qdx n).F a=main Tryz.prog 19 (qmg n) (qgv n) ql9 (q00 Tryz.f41) [.tmp 2] (qdx n).args (qdx n).res a:=by intro a;kernel_rfl
theorem jhk (n:Nat):q0g Inv Tryz.prog (qdx n):=fun G hG=>⟨⟨by kernel_rfl,fun a r h=>q05 (c:=q00 Tryz.f41) Tryz.func41 (by kernel_rfl) (by kernel_rfl) (Nat.le_of_ble_eq_true (by kernel_rfl)) hG.st (by kernel_rfl) (rs:=[.tmp 2]) (by kernel_rfl) (qnw n hG) (lts:=qgv n) (fun F hF hFG=>have hK:Know Inv F.G:=hFG ▸ hG;(q02 (c:=(q00 Tryz.f41)) (fun j L h1 h2 h3=>by
  have h2':j<1:=Nat.lt_of_lt_of_le h2 (by decide +kernel)
  match j,h1,h2',h3 with
  | 0,_,_,h3=>obtain rfl:=Option.some.inj h3;exact (show q01 0 0 (q00 Tryz.f41)=q01 0 0 (q00 Tryz.f41) by kernel_rfl) ▸ j2w n hF hK
  | j+1,_,h2',_=>exact absurd h2' (by omega)))) qxu ((jgz n a).symm.trans h)⟩,rfl⟩
def jnk (n:Nat):List LC:=[]
def jq0 (n:Nat) (a1:Int×(Int×(Int×(Int×(Int×(Int×(Int×(Int×(Int×(Int×(Int×(Int)))))))))))) (a2:Int):Option (Int) :=
 (bif inA a2 12 then (nth ([a1.1,a1.2.1,a1.2.2.1,a1.2.2.2.1,a1.2.2.2.2.1,a1.2.2.2.2.2.1,a1.2.2.2.2.2.2.1,a1.2.2.2.2.2.2.2.1,a1.2.2.2.2.2.2.2.2.1,a1.2.2.2.2.2.2.2.2.2.1,a1.2.2.2.2.2.2.2.2.2.2.1,a1.2.2.2.2.2.2.2.2.2.2.2]:List (Int)) (Int.toNat a2)).bind fun (x1:Int)=>q0e (max x1 (1:Int)) fun (n2:Int)=>some n2 else none)
def j3p (n:Nat):FC:={ f:=83,args:=[.one (.agg [.d (.int .i64),.d (.int .i64),.d (.int .i64),.d (.int .i64),.d (.int .i64),.d (.int .i64),.d (.int .i64),.d (.int .i64),.d (.int .i64),.d (.int .i64),.d (.int .i64),.d (.int .i64)]),.one (.c (.d (.int .i64)))],res:=.one (.c (.d (.int .i64))),F:=fun p=>jq0 n p.1 p.2 }
def jvr (n:Nat):List FC:=[]
theorem jtb (n:Nat) {G:World->Prop} (hG:Know Inv G) : ∀c∈jvr n,q0v Tryz.prog G c/\q0d c.args=true:=(fun _ h=>by cases h)
def jvm:q0c:=[]
theorem k0z:drB jvm (q00 Tryz.f83)=true:=by kernel_rfl
theorem k1i (n:Nat) : ∀a,(j3p n).F a=main Tryz.prog 9 (jvr n) (jnk n) jvm (q00 Tryz.f83) [.tmp 4] (j3p n).args (j3p n).res a:=by intro a;kernel_rfl
theorem jzu (n:Nat):q0g Inv Tryz.prog (j3p n):=fun G hG=>⟨⟨by kernel_rfl,fun a r h=>q05 (c:=q00 Tryz.f83) Tryz.func83 (by kernel_rfl) (by kernel_rfl) (Nat.le_of_ble_eq_true (by kernel_rfl)) hG.st (by kernel_rfl) (rs:=[.tmp 4]) (by kernel_rfl) (jtb n hG) (lts:=jnk n) (fun F hF hFG=>have hK:Know Inv F.G:=hFG ▸ hG;(q02 fun j L h1 h2 h3=>absurd h2 (Nat.not_lt.2 (Nat.le_trans (by decide +kernel) h1)))) k0z ((k1i n a).symm.trans h)⟩,rfl⟩
@[reducible] def qb3:SSt:=⟨[(0,.one (.c (.d (.lst (.prod .str (.prod .str (.lst (.prod .str (.prod (.int .i64) (.prod (.int .i64) (.prod (.int .i64) (.prod .str .str)))))))))))),(5,.one (.c (.row 26))),(6,.one (.c (.box 6 0)))],[(6,(115,[.d .bool,.d .bool,.d .bool,.d .bool,.d .bool,.d .bool,.d .bool,.d .bool,.d .bool,.d .bool,.d .bool,.d .bool]))],[(26,⟨3,true,(.int .i64)⟩)]⟩
@[reducible] def q5u:List (Exit×SSt):=[(.exit 0,⟨[(0,.one (.c (.d (.lst (.prod .str (.prod .str (.lst (.prod .str (.prod (.int .i64) (.prod (.int .i64) (.prod (.int .i64) (.prod .str .str)))))))))))),(5,.one (.c (.row 26)))],[],[(26,⟨3,true,(.int .i64)⟩)]⟩)]
def ql7 (n:Nat) (rec:(List (List UInt8×(List UInt8×(List (List UInt8×((Int)×((Int)×((Int)×(List UInt8×(List UInt8))))))))))->Bool->Bool->Bool->Bool->Bool->Bool->Bool->Bool->Bool->Bool->Bool->Bool->(List (Int))->Option (((List (List UInt8×(List UInt8×(List (List UInt8×((Int)×((Int)×((Int)×(List UInt8×(List UInt8))))))))))×(Unit×(Unit)))×(Unit)×((List (Int))×(Unit)))) (a1:List (List UInt8×(List UInt8×(List (List UInt8×((Int)×((Int)×((Int)×(List UInt8×(List UInt8)))))))))) (a2:Bool) (a3:Bool) (a4:Bool) (a5:Bool) (a6:Bool) (a7:Bool) (a8:Bool) (a9:Bool) (a10:Bool) (a11:Bool) (a12:Bool) (a13:Bool) (a14:List (Int)):Option (((List (List UInt8×(List UInt8×(List (List UInt8×((Int)×((Int)×((Int)×(List UInt8×(List UInt8))))))))))×(Unit×(Unit)))×(Unit)×((List (Int))×(Unit))) :=
 (j0g n a1 () a2 a3 a4 a5 a6 a7 a8 a9 a10 a11 a12 a13).bind fun (r2:(Int×(Bool))×((Bool×(Bool×(Bool×(Bool×(Bool×(Bool×(Bool×(Bool×(Bool×(Bool×(Bool×(Bool))))))))))))×(Unit))×(Unit))=>(bif !r2.1.2 then some (((a1,((),())),((),(a14,())))) else (bif inA r2.1.1 12 then (bif inA r2.1.1 12 then (j0w 8 a14 ([r2.1.1]:List (Int))).bind fun (l3:List (Int))=>rec a1 (q29 0 r2.1.1 true r2.2.1.1.1) (q29 1 r2.1.1 true r2.2.1.1.2.1) (q29 2 r2.1.1 true r2.2.1.1.2.2.1) (q29 3 r2.1.1 true r2.2.1.1.2.2.2.1) (q29 4 r2.1.1 true r2.2.1.1.2.2.2.2.1) (q29 5 r2.1.1 true r2.2.1.1.2.2.2.2.2.1) (q29 6 r2.1.1 true r2.2.1.1.2.2.2.2.2.2.1) (q29 7 r2.1.1 true r2.2.1.1.2.2.2.2.2.2.2.1) (q29 8 r2.1.1 true r2.2.1.1.2.2.2.2.2.2.2.2.1) (q29 9 r2.1.1 true r2.2.1.1.2.2.2.2.2.2.2.2.2.1) (q29 10 r2.1.1 true r2.2.1.1.2.2.2.2.2.2.2.2.2.2.1) (q29 11 r2.1.1 true r2.2.1.1.2.2.2.2.2.2.2.2.2.2.2) l3 else none) else none))
def qmv (n:Nat) (rec:pSt qb3->Option (q08 q5u)) (p:pSt qb3):Option (q08 q5u):=ql7 n (fun a1 a2 a3 a4 a5 a6 a7 a8 a9 a10 a11 a12 a13 a14=>rec ((a1,((),((),()))),(((a2,(a3,(a4,(a5,(a6,(a7,(a8,(a9,(a10,(a11,(a12,a13))))))))))),()),(a14,())))) p.1.1 p.2.1.1.1 p.2.1.1.2.1 p.2.1.1.2.2.1 p.2.1.1.2.2.2.1 p.2.1.1.2.2.2.2.1 p.2.1.1.2.2.2.2.2.1 p.2.1.1.2.2.2.2.2.2.1 p.2.1.1.2.2.2.2.2.2.2.1 p.2.1.1.2.2.2.2.2.2.2.2.1 p.2.1.1.2.2.2.2.2.2.2.2.2.1 p.2.1.1.2.2.2.2.2.2.2.2.2.2.1 p.2.1.1.2.2.2.2.2.2.2.2.2.2.2 p.2.2.1
def q2u (n m:Nat) (a1:List (List UInt8×(List UInt8×(List (List UInt8×((Int)×((Int)×((Int)×(List UInt8×(List UInt8)))))))))) (a2:Bool) (a3:Bool) (a4:Bool) (a5:Bool) (a6:Bool) (a7:Bool) (a8:Bool) (a9:Bool) (a10:Bool) (a11:Bool) (a12:Bool) (a13:Bool) (a14:List (Int)):Option (((List (List UInt8×(List UInt8×(List (List UInt8×((Int)×((Int)×((Int)×(List UInt8×(List UInt8))))))))))×(Unit×(Unit)))×(Unit)×((List (Int))×(Unit))):=q0a (qmv n) m ((a1,((),((),()))),(((a2,(a3,(a4,(a5,(a6,(a7,(a8,(a9,(a10,(a11,(a12,a13))))))))))),()),(a14,())))
theorem qk7 (n m:Nat) (a1:List (List UInt8×(List UInt8×(List (List UInt8×((Int)×((Int)×((Int)×(List UInt8×(List UInt8)))))))))) (a2:Bool) (a3:Bool) (a4:Bool) (a5:Bool) (a6:Bool) (a7:Bool) (a8:Bool) (a9:Bool) (a10:Bool) (a11:Bool) (a12:Bool) (a13:Bool) (a14:List (Int)):q2u n (m+1) a1 a2 a3 a4 a5 a6 a7 a8 a9 a10 a11 a12 a13 a14=ql7 n (fun a1 a2 a3 a4 a5 a6 a7 a8 a9 a10 a11 a12 a13 a14=>q2u n m a1 a2 a3 a4 a5 a6 a7 a8 a9 a10 a11 a12 a13 a14) a1 a2 a3 a4 a5 a6 a7 a8 a9 a10 a11 a12 a13 a14:=rfl
def qw4 (n:Nat):LC:={ sh:=qb3,outs:=q5u,F:=q0a (qmv n) n }
def qfx (n:Nat):List LC:=[qw4 n]
def qc3 (n:Nat) (a1:List (List UInt8×(List UInt8×(List (List UInt8×((Int)×((Int)×((Int)×(List UInt8×(List UInt8)))))))))):Option ((Unit×(Int))×(Unit)×((List (Int))×(Unit))) :=
 (qip n a1).bind fun (r1:Int)=>(bif !decide (r1=(0:Int)) then some (((),r1),((),([],()))) else (q2u n n a1 false false false false false false false false false false false false []).bind fun (o4:((List (List UInt8×(List UInt8×(List (List UInt8×((Int)×((Int)×((Int)×(List UInt8×(List UInt8))))))))))×(Unit×(Unit)))×(Unit)×((List (Int))×(Unit)))=>(bif decide (((List.length o4.2.2.1:Nat):Int)<((List.length o4.1.1:Nat):Int)) then some (((),(12:Int)),((),([],()))) else some (((),(0:Int)),((),(o4.2.2.1,())))))
def q2n (n:Nat):FX:={ f:=37,args:=[.one (.c (.d (.lst (.prod .str (.prod .str (.lst (.prod .str (.prod (.int .i64) (.prod (.int .i64) (.prod (.int .i64) (.prod .str .str)))))))))))],boxes:=[],rows:=[],res:=.tup [.c (.row 26),.c (.d (.int .i64))],oboxes:=[],orows:=[(26,⟨3,true,(.int .i64)⟩)],F:=fun p=>qc3 n p.1 }
def qm6 (n:Nat):List FC:=[qak (q4q n) [(1000000,6)] [],q97 n]
theorem qnh (n:Nat) {G:World->Prop} (hG:Know Inv G) : ∀c∈qm6 n,q0v Tryz.prog G c/\q0d c.args=true:=List.forall_mem_cons.2 ⟨q2l (jpj n G hG),List.forall_mem_cons.2 ⟨j5d n G hG,(fun _ h=>by cases h)⟩⟩
def qms:q0c:=[]
theorem qyb:drB qms (q00 Tryz.f37)=true:=by kernel_rfl
theorem j8v (n:Nat) : ∀rec p,qmv n rec p=round Tryz.prog 33 (qm6 n) (qfx n) qms 1 qb3 q5u (q01 0 0 (q00 Tryz.f37)) rec p:=by intro rec p;kernel_rfl
theorem j6c (n:Nat) {F:Fr} (hF:F.n=33) (hK:Know Inv F.G):q3k Tryz.prog F (qw4 n) (q01 0 0 (q00 Tryz.f37)) :=
 q0b hF (by kernel_rfl) (qnh n hK) (j8v n) (fuel:=n) (fun _=>rfl) (q02 fun j L h1 h2 h3=>absurd h2 (Nat.not_lt.2 (Nat.le_trans (by decide +kernel) h1))) (q0h qyb)
theorem jhv (n:Nat) : ∀a,(q2n n).F a=qbp Tryz.prog 33 (qm6 n) (qfx n) qms (q00 Tryz.f37) [.tmp 2,.tmp 3] (q2n n).args (q2n n).boxes (q2n n).rows (q2n n).res (q2n n).oboxes (q2n n).orows a:=by intro a;kernel_rfl
theorem jak (n:Nat):q8r Inv Tryz.prog (q2n n):=fun G hG=>⟨by kernel_rfl,fun a r h=>q1r (x:=q2n n) (c:=q00 Tryz.f37) Tryz.func37 (by kernel_rfl) (by kernel_rfl) (Nat.le_of_ble_eq_true (by kernel_rfl)) (by kernel_rfl) (rs:=[.tmp 2,.tmp 3]) (by kernel_rfl) (qnh n hG) (lts:=qfx n) (fun F hF hFG=>have hK:Know Inv F.G:=hFG ▸ hG;(q02 (c:=(q00 Tryz.f37)) (fun j L h1 h2 h3=>by
  have h2':j<1:=Nat.lt_of_lt_of_le h2 (by decide +kernel)
  match j,h1,h2',h3 with
  | 0,_,_,h3=>obtain rfl:=Option.some.inj h3;exact (show q01 0 0 (q00 Tryz.f37)=q01 0 0 (q00 Tryz.f37) by kernel_rfl) ▸ j6c n hF hK
  | j+1,_,h2',_=>exact absurd h2' (by omega)))) qyb ((jhv n a).symm.trans h)⟩
@[reducible] def qad:SSt:=⟨[(6,.one (.c (.row 24))),(25,.one (.c (.d (.lst (.lst (.int .i64)))))),(26,.one (.c (.d (.int .i64)))),(27,.one (.c (.d (.int .i64))))],[],[(24,⟨3,true,(.int .i64)⟩)]⟩
@[reducible] def q5z:List (Exit×SSt):=[(.exit 2,⟨[(6,.one (.c (.row 24)))],[],[(24,⟨3,true,(.int .i64)⟩)]⟩)]
def q95 (n:Nat) (rec:(List (List (Int)))->Int->Int->(List (Int))->Option ((Unit×(Unit))×(Unit)×((List (Int))×(Unit)))) (a1:List (List (Int))) (a2:Int) (a3:Int) (a4:List (Int)):Option ((Unit×(Unit))×(Unit)×((List (Int))×(Unit))) :=
 (bif decide (a3<a2) then (q0x a1 a3).bind fun (x6:List (Int))=>(j0w 8 a4 x6).bind fun (l7:List (Int))=>q0e (IntKind.wrap .i64 (a3+(1:Int))) fun (n8:Int)=>rec a1 a2 n8 l7 else some ((((),()),((),(a4,())))))
def qlu (n:Nat) (rec:pSt qad->Option (q08 q5z)) (p:pSt qad):Option (q08 q5z):=q95 n (fun a1 a2 a3 a4=>rec (((),(a1,(a2,(a3,())))),((),(a4,())))) p.1.2.1 p.1.2.2.1 p.1.2.2.2.1 p.2.2.1
def q1a (n m:Nat) (a1:List (List (Int))) (a2:Int) (a3:Int) (a4:List (Int)):Option ((Unit×(Unit))×(Unit)×((List (Int))×(Unit))):=q0a (qlu n) m (((),(a1,(a2,(a3,())))),((),(a4,())))
theorem q41 (n m:Nat) (a1:List (List (Int))) (a2:Int) (a3:Int) (a4:List (Int)):q1a n (m+1) a1 a2 a3 a4=q95 n (fun a1 a2 a3 a4=>q1a n m a1 a2 a3 a4) a1 a2 a3 a4:=rfl
def qxp (n:Nat):LC:={ sh:=qad,outs:=q5z,F:=q0a (qlu n) n }
@[reducible] def qag:SSt:=⟨[(0,.one (.c (.d (.lst (.lst (.int .i64)))))),(3,.one (.c (.d (.int .i64)))),(9,.one (.c (.d (.lst (.lst (.int .i64)))))),(10,.one (.c (.d (.int .i64)))),(11,.one (.c (.d (.int .i64))))],[],[]⟩
@[reducible] def q61:List (Exit×SSt):=[(.exit 0,⟨[(0,.one (.c (.d (.lst (.lst (.int .i64)))))),(3,.one (.c (.d (.int .i64))))],[],[]⟩)]
def q92 (n:Nat) (rec:(List (List (Int)))->Int->(List (List (Int)))->Int->Int->Option (((List (List (Int)))×(Int×(Unit)))×(Unit)×(Unit))) (a1:List (List (Int))) (a2:Int) (a3:List (List (Int))) (a4:Int) (a5:Int):Option (((List (List (Int)))×(Int×(Unit)))×(Unit)×(Unit)) :=
 (bif decide (a5<a4) then (q0x a3 a5).bind fun (x1:List (Int))=>q0e (IntKind.wrap .i64 (a2+((List.length x1:Nat):Int))) fun (n2:Int)=>(bif decide (n2<(0:Int)) then none else q0e (IntKind.wrap .i64 (a5+(1:Int))) fun (n3:Int)=>rec a1 n2 a3 a4 n3) else some (((a1,(a2,())),((),()))))
def qlv (n:Nat) (rec:pSt qag->Option (q08 q61)) (p:pSt qag):Option (q08 q61):=q92 n (fun a1 a2 a3 a4 a5=>rec ((a1,(a2,(a3,(a4,(a5,()))))),((),()))) p.1.1 p.1.2.1 p.1.2.2.1 p.1.2.2.2.1 p.1.2.2.2.2.1
def q19 (n m:Nat) (a1:List (List (Int))) (a2:Int) (a3:List (List (Int))) (a4:Int) (a5:Int):Option (((List (List (Int)))×(Int×(Unit)))×(Unit)×(Unit)):=q0a (qlv n) m ((a1,(a2,(a3,(a4,(a5,()))))),((),()))
theorem q3q (n m:Nat) (a1:List (List (Int))) (a2:Int) (a3:List (List (Int))) (a4:Int) (a5:Int):q19 n (m+1) a1 a2 a3 a4 a5=q92 n (fun a1 a2 a3 a4 a5=>q19 n m a1 a2 a3 a4 a5) a1 a2 a3 a4 a5:=rfl
def qw6 (n:Nat):LC:={ sh:=qag,outs:=q61,F:=q0a (qlv n) n }
def qb2 (n:Nat):List LC:=[qw6 n,qxp n]
def qcy (n:Nat) (a1:List (List (Int))):Option (List (Int)) :=
 (q19 n n a1 (0:Int) a1 ((List.length a1:Nat):Int) (0:Int)).bind fun (o4:((List (List (Int)))×(Int×(Unit)))×(Unit)×(Unit))=>(qll () o4.1.2.1).bind fun (r5:(Unit)×(Unit)×((List (Int))×(Unit)))=>(q1a n n o4.1.1 ((List.length o4.1.1:Nat):Int) (0:Int) r5.2.2.1).bind fun (o9:(Unit×(Unit))×(Unit)×((List (Int))×(Unit)))=>some o9.2.2.1
def qeb (n:Nat):FC:={ f:=40,args:=[.one (.c (.d (.lst (.lst (.int .i64)))))],res:=.one (.c (.d (.lst (.int .i64)))),F:=fun p=>qcy n p }
def qe8 (n:Nat):List FC:=[qak (jdq) [] [(1000000,24)]]
theorem qdf (n:Nat) {G:World->Prop} (hG:Know Inv G) : ∀c∈qe8 n,q0v Tryz.prog G c/\q0d c.args=true:=List.forall_mem_cons.2 ⟨q2l (jlx G hG),(fun _ h=>by cases h)⟩
def qee:q0c:=[]
theorem qn2:drB qee (q00 Tryz.f40)=true:=by kernel_rfl
theorem jan (n:Nat) : ∀rec p,qlu n rec p=round Tryz.prog 36 (qe8 n) (qb2 n) qee 2 qad q5z (q01 0 1 (q00 Tryz.f40)) rec p:=by intro rec p;kernel_rfl
theorem jae (n:Nat) : ∀rec p,qlv n rec p=round Tryz.prog 36 (qe8 n) (qb2 n) qee 1 qag q61 (q01 0 0 (q00 Tryz.f40)) rec p:=by intro rec p;kernel_rfl
theorem j76 (n:Nat) {F:Fr} (hF:F.n=36) (hK:Know Inv F.G):q3k Tryz.prog F (qxp n) (q01 0 1 (q00 Tryz.f40)) :=
 q0b hF (by kernel_rfl) (qdf n hK) (jan n) (fuel:=n) (fun _=>rfl) (q02 fun j L h1 h2 h3=>absurd h2 (Nat.not_lt.2 (Nat.le_trans (by decide +kernel) h1))) (q0h qn2)
theorem j5f (n:Nat) {F:Fr} (hF:F.n=36) (hK:Know Inv F.G):q3k Tryz.prog F (qw6 n) (q01 0 0 (q00 Tryz.f40)) :=
 q0b hF (by kernel_rfl) (qdf n hK) (jae n) (fuel:=n) (fun _=>rfl) (q02 fun j L h1 h2 h3=>absurd h2 (Nat.not_lt.2 (Nat.le_trans (by decide +kernel) h1))) (q0h qn2)
theorem ji9 (n:Nat) : ∀a,(qeb n).F a=main Tryz.prog 36 (qe8 n) (qb2 n) qee (q00 Tryz.f40) [.tmp 2] (qeb n).args (qeb n).res a:=by intro a;kernel_rfl
theorem jjg (n:Nat):q0g Inv Tryz.prog (qeb n):=fun G hG=>⟨⟨by kernel_rfl,fun a r h=>q05 (c:=q00 Tryz.f40) Tryz.func40 (by kernel_rfl) (by kernel_rfl) (Nat.le_of_ble_eq_true (by kernel_rfl)) hG.st (by kernel_rfl) (rs:=[.tmp 2]) (by kernel_rfl) (qdf n hG) (lts:=qb2 n) (fun F hF hFG=>have hK:Know Inv F.G:=hFG ▸ hG;(q02 (c:=(q00 Tryz.f40)) (fun j L h1 h2 h3=>by
  have h2':j<2:=Nat.lt_of_lt_of_le h2 (by decide +kernel)
  match j,h1,h2',h3 with
  | 0,_,_,h3=>obtain rfl:=Option.some.inj h3;exact (show q01 0 0 (q00 Tryz.f40)=q01 0 0 (q00 Tryz.f40) by kernel_rfl) ▸ j5f n hF hK
  | 1,_,_,h3=>obtain rfl:=Option.some.inj h3;exact (show q01 0 1 (q00 Tryz.f40)=q01 0 1 (q00 Tryz.f40) by kernel_rfl) ▸ j76 n hF hK
  | j+2,_,h2',_=>exact absurd h2' (by omega)))) qn2 ((ji9 n a).symm.trans h)⟩,rfl⟩
@[reducible] def q89:SSt:=⟨[(0,.one (.c (.d (.lst (.int .i64))))),(1,.one (.c (.d (.int .i64)))),(7,.one (.c (.d (.int .i64)))),(8,.one (.c (.d (.int .i64))))],[],[]⟩
@[reducible] def q4v:List (Exit×SSt):=[(.ret,⟨[(4,.one (.c (.d (.int .i64))))],[],[]⟩),(.exit 0,⟨[],[],[]⟩)]
def qfv (n:Nat) (rec:(List (Int))->Int->Int->Int->Option (((Int×(Unit))×(Unit)×(Unit))⊕((Unit)×(Unit)×(Unit)))) (a1:List (Int)) (a2:Int) (a3:Int) (a4:Int):Option (((Int×(Unit))×(Unit)×(Unit))⊕((Unit)×(Unit)×(Unit))) :=
 (bif decide (a4<a3) then (q0x a1 a4).bind fun (x1:Int)=>(bif decide (a2=x1) then some (Sum.inl ((a4,()),((),()))) else q0e (IntKind.wrap .i64 (a4+(1:Int))) fun (n2:Int)=>rec a1 a2 a3 n2) else some (Sum.inr (((),((),())))))
def qfr (n:Nat) (rec:pSt q89->Option (q08 q4v)) (p:pSt q89):Option (q08 q4v):=qfv n (fun a1 a2 a3 a4=>rec ((a1,(a2,(a3,(a4,())))),((),()))) p.1.1 p.1.2.1 p.1.2.2.1 p.1.2.2.2.1
def q4m (n m:Nat) (a1:List (Int)) (a2:Int) (a3:Int) (a4:Int):Option (((Int×(Unit))×(Unit)×(Unit))⊕((Unit)×(Unit)×(Unit))):=q0a (qfr n) m ((a1,(a2,(a3,(a4,())))),((),()))
theorem qfo (n m:Nat) (a1:List (Int)) (a2:Int) (a3:Int) (a4:Int):q4m n (m+1) a1 a2 a3 a4=qfv n (fun a1 a2 a3 a4=>q4m n m a1 a2 a3 a4) a1 a2 a3 a4:=rfl
def qqf (n:Nat):LC:={ sh:=q89,outs:=q4v,F:=q0a (qfr n) n }
def qc8 (n:Nat):List LC:=[qqf n]
def qko (n:Nat) (a1:List (Int)) (a2:Int):Option (Int) :=
 (q4m n n a1 a2 ((List.length a1:Nat):Int) (0:Int)).bind fun (o3:((Int×(Unit))×(Unit)×(Unit))⊕((Unit)×(Unit)×(Unit)))=>Sum.elim (fun (q4:(Int×(Unit))×(Unit)×(Unit))=>some q4.1.1) (fun (q5:(Unit)×(Unit)×(Unit))=>some (-1:Int)) o3
def q78 (n:Nat):FC:={ f:=81,args:=[.one (.c (.d (.lst (.int .i64)))),.one (.c (.d (.int .i64)))],res:=.one (.c (.d (.int .i64))),F:=fun p=>qko n p.1 p.2 }
def qgb (n:Nat):List FC:=[]
theorem qhp (n:Nat) {G:World->Prop} (hG:Know Inv G) : ∀c∈qgb n,q0v Tryz.prog G c/\q0d c.args=true:=(fun _ h=>by cases h)
def qgy:q0c:=[]
theorem qv4:drB qgy (q00 Tryz.f81)=true:=by kernel_rfl
theorem j4i (n:Nat) : ∀rec p,qfr n rec p=round Tryz.prog 19 (qgb n) (qc8 n) qgy 1 q89 q4v (q01 0 0 (q00 Tryz.f81)) rec p:=by intro rec p;kernel_rfl
theorem j0t (n:Nat) {F:Fr} (hF:F.n=19) (hK:Know Inv F.G):q3k Tryz.prog F (qqf n) (q01 0 0 (q00 Tryz.f81)) :=
 q0b hF (by kernel_rfl) (qhp n hK) (j4i n) (fuel:=n) (fun _=>rfl) (q02 fun j L h1 h2 h3=>absurd h2 (Nat.not_lt.2 (Nat.le_trans (by decide +kernel) h1))) (q0h qv4)
theorem j90 (n:Nat) : ∀a,(q78 n).F a=main Tryz.prog 19 (qgb n) (qc8 n) qgy (q00 Tryz.f81) [.tmp 4] (q78 n).args (q78 n).res a:=by intro a;kernel_rfl
theorem j9t (n:Nat):q0g Inv Tryz.prog (q78 n):=fun G hG=>⟨⟨by kernel_rfl,fun a r h=>q05 (c:=q00 Tryz.f81) Tryz.func81 (by kernel_rfl) (by kernel_rfl) (Nat.le_of_ble_eq_true (by kernel_rfl)) hG.st (by kernel_rfl) (rs:=[.tmp 4]) (by kernel_rfl) (qhp n hG) (lts:=qc8 n) (fun F hF hFG=>have hK:Know Inv F.G:=hFG ▸ hG;(q02 (c:=(q00 Tryz.f81)) (fun j L h1 h2 h3=>by
  have h2':j<1:=Nat.lt_of_lt_of_le h2 (by decide +kernel)
  match j,h1,h2',h3 with
  | 0,_,_,h3=>obtain rfl:=Option.some.inj h3;exact (show q01 0 0 (q00 Tryz.f81)=q01 0 0 (q00 Tryz.f81) by kernel_rfl) ▸ j0t n hF hK
  | j+1,_,h2',_=>exact absurd h2' (by omega)))) qv4 ((j90 n a).symm.trans h)⟩,rfl⟩
def qbw (n:Nat):List LC:=[]
def qae (n:Nat) (a1:List (Int)) (a2:Int):Option (Bool) :=
 (qko n a1 a2).bind fun (r1:Int)=>some (decide ((0:Int)<=r1))
def q4l (n:Nat):FC:={ f:=44,args:=[.one (.c (.d (.lst (.int .i64)))),.one (.c (.d (.int .i64)))],res:=.one (.c (.d .bool)),F:=fun p=>qae n p.1 p.2 }
def qf0 (n:Nat):List FC:=[q78 n]
theorem qp0 (n:Nat) {G:World->Prop} (hG:Know Inv G) : ∀c∈qf0 n,q0v Tryz.prog G c/\q0d c.args=true:=List.forall_mem_cons.2 ⟨j9t n G hG,(fun _ h=>by cases h)⟩
def qfj:q0c:=[]
theorem qv7:drB qfj (q00 Tryz.f44)=true:=by kernel_rfl
theorem qvu (n:Nat) : ∀a,(q4l n).F a=main Tryz.prog 9 (qf0 n) (qbw n) qfj (q00 Tryz.f44) [.tmp 4] (q4l n).args (q4l n).res a:=by intro a;kernel_rfl
theorem qw1 (n:Nat):q0g Inv Tryz.prog (q4l n):=fun G hG=>⟨⟨by kernel_rfl,fun a r h=>q05 (c:=q00 Tryz.f44) Tryz.func44 (by kernel_rfl) (by kernel_rfl) (Nat.le_of_ble_eq_true (by kernel_rfl)) hG.st (by kernel_rfl) (rs:=[.tmp 4]) (by kernel_rfl) (qp0 n hG) (lts:=qbw n) (fun F hF hFG=>have hK:Know Inv F.G:=hFG ▸ hG;(q02 fun j L h1 h2 h3=>absurd h2 (Nat.not_lt.2 (Nat.le_trans (by decide +kernel) h1)))) qv7 ((qvu n a).symm.trans h)⟩,rfl⟩
end Go.Proofs.YtggoebaobojmjaaGreatDoor.AM
namespace Go.Proofs
open Go.RowKit Go.Shelf Go.Lib
attribute [local go_sem] Oper.semAt_some
set_option linter.unusedVariables false
set_option linter.unusedSimpArgs false
namespace YtggoebaobojmjaaGreatDoor.AM
abbrev LI:Ty:=.lst (.int .i64)
def q5a (l:List Int):List Value:=l.map (.int .i64)
theorem qxy (l:List Int):(q5a l).length=l.length:=List.length_map ..
theorem qj4 (n:Nat) (l:List Int) (x:Int) (hL:l.length<=1000000) : ∀(m j:Nat),j<=l.length->l.length - j<m ->
  ∃ o,q4m n m l x ((l.length:Nat):Int) (j:Int)=some o/\((x∈l.drop j/\∃ k:Nat,o=Sum.inl (((k:Int),()),((),())))\/(x ∉ l.drop j/\o=Sum.inr ((),((),()))))
 | 0,j,_,h=>absurd h (Nat.not_lt_zero _)
 | m+1,j,hj,h=>by
  rw [qfo]
  unfold qfv
  by_cases c:j<l.length
  ·rw [decide_eq_true (by omega),cond_true,q0k c,Option.bind_some,List.drop_eq_getElem_cons c]
   by_cases d:x=l[j]
   ·rw [decide_eq_true d,cond_true]
    exact ⟨_,rfl,.inl ⟨by rw [d];exact List.mem_cons_self ..,j,rfl⟩⟩
   ·rw [decide_eq_false d,cond_false,q04 (by omega)]
    obtain ⟨o,h1,h2⟩:=qj4 n l x hL m (j+1) (by omega) (by omega)
    refine ⟨o,h1,?_⟩
    rcases h2 with ⟨h3,h4⟩|⟨h3,h4⟩
    ·exact .inl ⟨List.mem_cons_of_mem _ h3,h4⟩
    ·exact .inr ⟨fun h5=>(List.mem_cons.1 h5).elim d h3,h4⟩
  ·obtain rfl:j=l.length:=by omega
   rw [decide_eq_false (by omega),cond_false,List.drop_length]
   exact ⟨_,rfl,.inr ⟨by simp,rfl⟩⟩
theorem qoy (n:Nat) (l:List Int) (x:Int) (hL:l.length<=1000000) (hn:l.length<n):qae n l x=some (decide (x∈l)):=by
 unfold qae qko
 obtain ⟨o,h1,h2⟩:=qj4 n l x hL n 0 (Nat.zero_le _) (by omega)
 rw [show ((0:Nat):Int)=(0:Int) from rfl] at h1
 rw [List.drop_zero] at h2
 rw [h1,Option.bind_some]
 rcases h2 with ⟨h3,k,rfl⟩|⟨h3,rfl⟩
 ·rw [decide_eq_true h3]
  show some (decide ((0:Int)<=(k:Int)))=_
  rw [decide_eq_true (by omega)]
 ·rw [decide_eq_false h3]
  rfl
structure Holds (Pc:Nat->Nat->Prop) (b:Nat) (U:List Int) (W:World):Prop where
 inv:Inv W
 lt : ∀b o,Pc b o->b<W.heap.size
 box : ∃ vu,W.heap[b]? = some (.cells #[vu] 39 (0,0))/\DatRep Pc W vu (.lst 1 (U.map (q03 (.int .i64))))
theorem Holds.below {Pc:Nat->Nat->Prop} {b:Nat} {U:List Int} {W W':World} (h:Holds Pc b U W) (hb:Below W.heap.size W W'):Holds Pc b U W':=by
 obtain ⟨vu,h1,h2⟩:=h.box
 exact ⟨h.inv.below hb,fun b o hp=>Nat.lt_of_lt_of_le (h.lt b o hp) hb.size,vu,(hb.block _ (q0q h1)).trans h1,h2.mono (fun _ _ h=>h) fun b o hp=>hb.cell (p:=⟨b,o,none⟩) (h.lt b o hp)⟩
set_option maxRecDepth 100000 in
theorem jfy {Pc:Nat->Nat->Prop} (b:Nat) (U:List Int) (k:Int) (w:World) (h:Holds Pc b U w) (hU:U.length<=1000000):Calls Tryz.prog 43 #[.int .i64 k,.pointer (some ⟨b,0,none⟩)] w fun e w'=>e = .returned (.bool (!decide (k∈U)))/\Below w.heap.size w w':=by
 obtain ⟨vu,h1,h2⟩:=h.box
 have hc:w.cell? ⟨b,0,none⟩=some vu:=by rw [cell_of_row w _ _ _ _ _ h1];rfl
 obtain ⟨va,vn,vc,rfl⟩ : ∃ a n c,vu = .slice a n c:=by
  generalize hd:Dat.lst 1 (U.map (q03 (.int .i64)))=d at h2
  cases h2 with
  | v=>cases hd
  | lst a n c=>exact ⟨_,_,_,rfl⟩
 have hC:Calls Tryz.prog 44 #[.slice va vn vc,.int .i64 k] w fun e w'=>e = .returned (.bool (decide (k∈U)))/\Below w.heap.size w w':=by
  have hh:=(qw1 1000001 Inv q1k).1.2 (U,k) _ (qoy 1000001 U k hU (by omega))
  refine (hh Pc w #[.slice va vn vc,.int .i64 k] h.inv h.lt ⟨h2,q06 _,trivial⟩).mono ?_
  rintro e w' ⟨u,Pc',rfl,hb,_,_,hv⟩
  have hv':u = .bool (decide (k∈U)):=q07 (σ:=q2y) hv
  rw [hv']
  exact ⟨rfl,hb⟩
 clear h1 h2 h
 go_enter Tryz.func43,Tryz.ntmps43
 go_wp2_with (go_at_call 44;refine hC.mono ?_)
 rintro e W1 ⟨rfl,hb1⟩
 go_wp2
 go_ret
 exact ⟨rfl,hb1⟩
def At (g:Nat) (l:List Int) (W:World):Prop:=∀(j:Nat) (x:Int),l[j]? = some x->W.cell? ⟨g,j,none⟩=some (.int .i64 x)
theorem At.below {g:Nat} {l:List Int} {W W':World} (h:At g l W) (hb:Below W.heap.size W W'):At g l W':=fun j x hx=>(hb.cell (p:=⟨g,j,none⟩) (World.block_lt_of_cell? _ _ (h j x hx))).trans (h j x hx)
def q2g (U:List Int):List Int->Nat->Option Nat
 | [],_=>none
 | x::l,i=>if x∈U then q2g U l (i+1) else some i
set_option maxHeartbeats 1000000 in
set_option maxRecDepth 100000 in
theorem jh4 {Pc:Nat->Nat->Prop} (b g n cap:Nat) (U O:List Int) (w:World) (h:Holds Pc b U w) (hU:U.length<=1000000) (hn:O.length=n) (hnm:n<=1000000) (hnc:n<=cap) (hcm:cap<=9223372036854775807) (hA:At g O w) :
  Calls Tryz.prog 80 #[.slice (some ⟨g,0,none⟩) n cap,.func (.func 43) #[] #[.pointer (some ⟨b,0,none⟩)]] w fun e w' =>
   e = .returned (.int .i64 (match q2g U O 0 with|some i=>((i:Nat):Int)|none=>-1))/\Below w.heap.size w w':=by
 have HU:=hid hU
 have HN:=hid hn
 obtain ⟨R,hR⟩ : ∃ R:Int,R=(match q2g U O 0 with|some i=>((i:Nat):Int)|none=>-1):=⟨_,rfl⟩
 rw [<-hR]
 have HR:=hid hR
 clear hR hU hn
 go_enter Tryz.func80,Tryz.ntmps80
 go_wp2_with fail
 go_loopw [8] (fun i wr=>∃ (k:Nat),k<=n/\i = .int .i64 ((k:Nat):Int)/\q2g U O 0=q2g U (O.drop k) k/\Below w.heap.size w wr) (fun i _=>n - (RowKit.intOf i).toNat)
 case atStart=>exact ⟨0,Nat.zero_le _,rfl,rfl,Below.refl _ _⟩
 case round =>
  obtain ⟨k,hk,rfl,hfo,hbel⟩:=hrel
  have HF:=hid hfo
  have HH:=hid (h.below hbel)
  have HAt:=hid (hA.below hbel)
  clear hfo
  by_cases hkn:k<n
  ·have hkl:k<O.length:=by rw [HN.out];exact hkn
   have hkk:(k:Int)<(n:Int):=by omega
   have d0:=HAt.out k O[k] (List.getElem?_eq_getElem hkl)
   have hdrop:Hid (O.drop k=O[k]::O.drop (k+1)):=hid (List.drop_eq_getElem_cons hkl)
   generalize O[k]=x at *
   have hC:=jfy b U x wr HH.out HU.out
   go_wp2_with fail
   refine hC.mono ?_
   clear hC
   rintro e W4 ⟨rfl,hb4⟩
   by_cases hx:x∈U
   ·rw [decide_eq_true hx]
    have hw1:IntKind.i64.wrap ((k:Int)+1)=((k+1:Nat):Int):=by rw [IntKind.wrap_i64];omega
    have HF2:Hid (q2g U O 0=q2g U (O.drop (k+1)) (k+1)):=hid (by rw [HF.out,hdrop.out,q2g,if_pos hx])
    clear d0
    go_wp2_with fail
    go_roundw
    case rel=>exact ⟨k+1,by omega,by go_num,HF2.out,hbel.trans (hb4.mono hbel.size)⟩
    case measure=>simp [RowKit.intOf];omega
   ·rw [decide_eq_false hx]
    have hRk:R=(k:Int):=by rw [HR.out,HF.out,hdrop.out,q2g,if_neg hx]
    clear d0
    subst hRk
    go_wp2_with fail
    go_ret
    exact ⟨rfl,hbel.trans (hb4.mono hbel.size)⟩
  ·have hkn2:k=n:=by omega
   subst hkn2
   have hRk:R = -1:=by rw [HR.out,HF.out,List.drop_of_length_le (by rw [HN.out];exact Nat.le_refl _)];rfl
   subst hRk
   go_wp2_with fail
   go_ret
   exact ⟨rfl,hbel⟩
end YtggoebaobojmjaaGreatDoor.AM
end Go.Proofs
namespace Go.Proofs
open Go.RowKit Go.Shelf Go.Lib
attribute [local go_sem] Oper.semAt_some
set_option linter.unusedVariables false
set_option linter.unusedSimpArgs false
namespace YtggoebaobojmjaaGreatDoor.AM
section
variable {P:Program}
theorem jah (m:Nat) (w:World) (t e ty:TypeId) (z:Value) (zs:List Value) (ht:P.underlying t=some (.slice e)) (hv : ∀w,(zeroValue e).run P w = .ok z w) (hz:(Builtin.zeroCells z.cells m).toList=zs) (h1 : ∀v∈zs,v.oneCell'=true)
  (g o c:Nat) (cur:Array Value) (T:TypeId) (hg:w.heap[g]? = some (.cells cur T (0,0))) (hfit:o+zs.length<=cur.size) (hm:0<m) :
  (Builtin.clear_ #[t] ty #[.slice (some ⟨g,o,none⟩) m c]).run P w = .ok (.tuple #[]) (w.setRow g (cur.toList.take o++zs++cur.toList.drop (o+zs.length)).toArray):=by
 obtain ⟨m,rfl⟩ : ∃ k,m=k+1:=⟨m - 1,by omega⟩
 have hst:=run_storeCells_at P g o T zs 0 cur w hg (by simpa using hfit) h1
 simp only [Nat.add_zero] at hst
 simp [Builtin.clear_,run_underlying ht,hv,hz,hst]
theorem qmj (w:World) {ops:Array Oper} {rest:List Oper} {o:Oper} {a:Act} {Q:Exit->Act->World->Prop} (hgd:o.guard=none) (d:Operand) (t:TypeId)
  (ho:o.op = .call { callee:=.builtin .clear,args:=#[d],argTypes:=#[t] }) (v:Value) (hd:a.eval d=v) {v':Value} {w':World}
  (hr:(Builtin.clear_ #[t] o.type #[v]).run P w = .ok v' w') (h:wpList P ops Q rest (a.put o.dst v') w'):wpList P ops Q (o::rest) a w :=
 wpList_plain hgd fun _ hK=>by
  unfold Oper.wp execOp
  simp only [ho,resolve,invoke,builtin,Sem.run_bind,Sem.run_pure,Result.andThen_ok,List.map_toArray,List.map_cons,List.map_nil,hd,hr]
  exact hK _ _ h
end
theorem qiy {U:List Int} : ∀{O:List Int} {k i:Nat},q2g U O k=some i->∃ L x R,O=L++x::R/\i=k+L.length/\x ∉ U/\∀y∈L,y∈U
 | [],k,i,h=>by cases h
 | x::O,k,i,h=>by
  unfold q2g at h
  split at h
  ·rename_i hx
   obtain ⟨L,y,R,h1,h2,h3,h4⟩:=qiy h
   refine ⟨x::L,y,R,by rw [h1];rfl,by rw [List.length_cons];omega,h3,fun z hz=>?_⟩
   rcases List.mem_cons.1 hz with rfl|hz
   ·exact hx
   ·exact h4 z hz
  ·rename_i hx
   exact ⟨[],x,O,rfl,(Option.some.inj h).symm,hx,fun y hy=>by cases hy⟩
theorem qjt {U:List Int} : ∀{O:List Int} {k:Nat},q2g U O k=none->∀y∈O,y∈U
 | [],k,h,y,hy=>by cases hy
 | x::O,k,h,y,hy=>by
  unfold q2g at h
  split at h
  ·rename_i hx
   rcases List.mem_cons.1 hy with rfl|hy
   ·exact hx
   ·exact qjt h y hy
  ·cases h
def q46 (U O:List Int):List Int:=O.filter fun x=>decide (x∈U)
theorem jg3 {U O:List Int} (h : ∀y∈O,y∈U):q46 U O=O:=List.filter_eq_self.2 fun x hx=>decide_eq_true (h x hx)
theorem j21 (U A B:List Int):q46 U (A++B)=q46 U A++q46 U B:=List.filter_append ..
theorem jfa (U A:List Int):(q46 U A).length<=A.length:=List.length_filter_le ..
theorem Holds.setRow {Pc:Nat->Nat->Prop} {b g:Nat} {U:List Int} {W:World} {X:Array Value} (h:Holds Pc b U W) (hbg:b≠g) (hpg : ∀b' o,Pc b' o->b'≠g) (hI:Inv (W.setRow g X)):Holds Pc b U (W.setRow g X):=by
 obtain ⟨vu,h1,h2⟩:=h.box
 exact ⟨hI,fun b o hp=>by simpa using h.lt b o hp,vu,(setRow_other W g b X hbg).trans h1,h2.mono (fun _ _ h=>h) fun b o hp=>World.cell?_of_block (setRow_other W g b X (hpg b o hp))⟩
theorem jwo : ∃ i:TypeInfo,Tryz.prog.info? 3=some i/\i.size=1/\i.zero=some (.int .i64 0):=by
 have h:(match Tryz.prog.info? 3 with
  | some i=>decide (i.size=1)&&(match i.zero with|some (.int .i64 0)=>true|_=>false)
  | none=>false)=true:=by kernel_rfl
 split at h
 ·rename_i i hi
  simp only [Bool.and_eq_true,decide_eq_true_eq] at h
  obtain ⟨h1,h3⟩:=h
  split at h3
  ·rename_i hz
   exact ⟨i,hi,h1,hz⟩
  ·cases h3
 ·cases h
theorem q6j {w w':World} {B E sz n:Nat} {v:Value} {xs:List Value} (h:w.ownsRow B E sz v n xs) (hb:Below w.heap.size w w'):w'.ownsRow B E sz v n xs:=by
 refine ⟨h.1,?_⟩
 rcases h.2 with h3|⟨g,cap,cur,h3,h4,h5,h6⟩
 ·exact .inl h3
 ·exact .inr ⟨g,cap,cur,h3,h4,(hb.block g (q0q h5)).trans h5,h6⟩
set_option maxHeartbeats 4000000 in
set_option maxRecDepth 1000000 in
theorem jjh {Pc:Nat->Nat->Prop} (w:World) (B b g cap:Nat) (cur:Array Value) (U O:List Int) (h:Holds Pc b U w) (hIB : ∀wr,Below B w wr->Inv wr) (hbg':b≠g) (hpg : ∀b' o,Pc b' o->b'≠g) (hbg:B<=g)
  (hg:w.heap[g]? = some (.cells cur 3 (0,0))) (hnc:O.length<=cap) (hcm:cap<=maxLen) (hcs:cur.size=cap*1) (htake:cur.toList.take (O.length*1)=q5a O) (hB:B<=w.heap.size) (hll:O.length<=1000000) (hU:U.length<=1000000) :
  Calls Tryz.prog 42 #[.slice (some ⟨g,0,none⟩) O.length cap,.func (.func 43) #[] #[.pointer (some ⟨b,0,none⟩)]] w fun e w' =>
   ∃ v',e = .returned v'/\w'.ownsRow B 3 1 v' (q46 U O).length (q5a (q46 U O))/\Below B w w'/\(∀k,k<w.heap.size->k≠g->w'.heap[k]? = w.heap[k]?)/\(∀b,v'.ownBlock=some b->b=g):=by
 have hcm':cap<=9223372036854775807:=by unfold maxLen at hcm;omega
 rw [Nat.mul_one] at htake hcs
 have hget : ∀(X:Array Value) (W:World),W.heap[g]? = some (.cells X 3 (0,0))->∀(j:Nat) (u:Value),X.toList[j]? = some u->W.cell? ⟨g,j,none⟩=some u:=fun X W hX j u hu=>by
  rw [cell_of_row W g _ X _ _ hX];simpa using hu
 have hat : ∀(j:Nat) (x:Int),O[j]? = some x->cur.toList[j]? = some (.int .i64 x):=fun j x hx=>by
  have hj:j<O.length:=(List.getElem?_eq_some_iff.1 hx).1
  have e:(cur.toList.take O.length)[j]? = some (.int .i64 x):=by rw [htake];unfold q5a;rw [List.getElem?_map,hx];rfl
  rw [List.getElem?_take,if_pos hj] at e
  exact e
 have hA:At g O w:=fun j x hx=>hget cur w hg j _ (hat j x hx)
 have hX:=jh4 b g O.length cap U O w h hU rfl hll hnc hcm' hA
 cases hfo:q2g U O 0 with
 | none =>
  rw [hfo] at hX
  dsimp only at hX
  have hall:=qjt hfo
  rw [jg3 hall]
  have hown:w.ownsRow B 3 1 (.slice (some ⟨g,0,none⟩) O.length cap) O.length (q5a O):=⟨by rw [qxy,Nat.mul_one],.inr ⟨g,cap,cur,rfl,hbg,hg,hnc,hcm,by omega,by rw [Nat.mul_one];exact htake⟩⟩
  have HO:=hid hown
  clear hown htake hat hget hA hfo hall h hpg hIB
  go_enter Tryz.func42,Tryz.ntmps42
  go_wp2_with (go_at_call 80;refine hX.mono ?_)
  rintro e W1 ⟨rfl,hb1⟩
  clear hX
  go_wp2
  go_ret
  exact ⟨_,rfl,q6j HO.out hb1,hb1.mono hB,fun k hk _=>hb1.block k hk,fun b hb=>by simpa [Value.ownBlock] using hb.symm⟩
 | some i0 =>
  rw [hfo] at hX
  dsimp only at hX
  obtain ⟨L,x,R,hO,hi0,hxU,hL⟩:=qiy hfo
  rw [Nat.zero_add] at hi0
  obtain ⟨n,hn⟩ : ∃ n,n=O.length:=⟨_,rfl⟩
  have hnl:n=L.length+1+R.length:=by rw [hn,hO];simp;omega
  rw [<-hn] at hX hnc hll htake ⊢
  have HH:=hid h
  have HAT:=hid hat
  have HTK:=hid htake
  have HN:=hid hn
  have HNL:=hid hnl
  have HO:=hid hO
  have HL:=hid hL
  have HG:=hid hget
  have HIB:=hid hIB
  have HPG:=hid hpg
  have HU:=hid hU
  have hi0n:i0<n:=by omega
  clear htake hat hget hA hfo hL hn hnl hO h hIB hpg hU
  go_enter Tryz.func42,Tryz.ntmps42
  go_wp2_with (go_at_call 80;refine hX.mono ?_)
  rintro e W1 ⟨rfl,hb1⟩
  clear hX
  have hg1:=(hb1.block g (q0q hg)).trans hg
  have hbel1:Below B w W1:=hb1.mono hB
  have HH1:=hid (HH.out.below hb1)
  have hne : ¬ ((i0:Nat):Int) = -1:=by omega
  have hw0:IntKind.i64.wrap ((i0:Int)+1)=((i0+1:Nat):Int):=by rw [IntKind.wrap_i64];omega
  go_wp2_with fail
  go_loopw [5,6] (fun i j wr=>∃ (a c:Nat) (X:Array Value),c<=n/\a<c/\i = .int .i64 ((a:Nat):Int)/\j = .int .i64 ((c:Nat):Int)/\a=(q46 U (O.take c)).length/\wr.heap[g]? = some (.cells X 3 (0,0))/\X.size=cap /\
   X.toList.take a=q5a (q46 U (O.take c))/\(∀t,c<=t->t<n->X.toList[t]? = cur.toList[t]?)/\Below B w wr/\Holds Pc b U wr/\∀k,k<w.heap.size->k≠g->wr.heap[k]? = w.heap[k]?) (fun _ j _=>n - (RowKit.intOf j).toNat)
  case atStart =>
   have hlen:L.length=i0:=hi0.symm
   have e1:O.take (i0+1)=L ++ [x]:=by
    rw [HO.out,<-hlen,List.take_append,List.take_of_length_le (by omega),show L.length+1 - L.length=1 from by omega];rfl
   have e2:q46 U (O.take (i0+1))=L:=by
    rw [e1,j21,jg3 HL.out]
    show L++List.filter _ [x]=L
    rw [List.filter_cons,if_neg (by simpa using hxU)];simp
   refine ⟨i0,i0+1,cur,by omega,by omega,by rw [hi0],?_,by rw [e2,hlen],hg1,hcs,?_,fun t _ _=>rfl,hbel1,HH1.out,fun k hk _=>hb1.block k hk⟩
   ·congr 1;omega
   ·rw [e2]
    have h6:cur.toList.take i0=(cur.toList.take n).take i0:=by rw [List.take_take];congr 1;omega
    rw [h6,HTK.out,HO.out,<-hlen]
    show List.take _ (List.map _ (L++x::R))=_
    rw [List.map_append,List.take_left' (by simp)];rfl
  case round =>
   obtain ⟨a,c,X,hc,hac,rfl,rfl,ha,hX,hXs,hXt,hXr,hbel,hHo,hkg⟩:=hrel
   have HKG:=hid hkg
   clear hkg
   by_cases hcn:c<n
   ·have hcO:c<O.length:=by rw [<-HN.out];exact hcn
    have hx0:X.toList[c]? = some (.int .i64 O[c]):=(hXr c (Nat.le_refl _) hcn).trans (HAT.out c O[c] (List.getElem?_eq_getElem hcO))
    have d0:wr.cell? ⟨g,c,none⟩=some (.int .i64 O[c]):=HG.out X wr hX c _ hx0
    have HTS:Hid (O.take (c+1)=O.take c ++ [O[c]]):=hid (List.take_append_getElem hcO).symm
    have HX:=hid hXt
    have HXR:=hid hXr
    have HA:=hid ha
    have HX2:=hid hX
    clear hx0 hXt hXr ha
    generalize O[c]=y at *
    have hcc:(c:Int)<(n:Int):=by omega
    have hw2:IntKind.i64.wrap ((c:Int)+1)=((c+1:Nat):Int):=by rw [IntKind.wrap_i64];omega
    have hw3:IntKind.i64.wrap ((a:Int)+1)=((a+1:Nat):Int):=by rw [IntKind.wrap_i64];omega
    have haa:(a:Int)<(n:Int):=by omega
    have HO4:=hid hHo
    have hC:=jfy b U y wr hHo HU.out
    clear hHo
    go_wp2_with fail
    refine hC.mono ?_
    clear hC
    rintro e W4 ⟨rfl,hb4⟩
    have hX4:W4.heap[g]? = some (Obj.cells X 3 (0,0)):=(hb4.block g (q0q HX2.out)).trans HX2.out
    have hB4:Below B w W4:=hbel.trans (hb4.mono (Nat.le_trans hB hbel.size))
    by_cases hy:y∈U
    ·rw [decide_eq_true hy]
     have haX:a<X.size:=by omega
     obtain ⟨u0,x0⟩ : ∃ u,W4.cell? ⟨g,a,none⟩=some u:=⟨X[a]'haX,by rw [cell_of_row W4 _ _ _ _ _ hX4];simp [haX]⟩
     have f0:W4.frozen? ⟨g,a,none⟩=false:=by simp [World.frozen?,hX4]
     have HB4:=hid hB4
     have HH4:=hid (HO4.out.below hb4)
     clear d0 hB4
     go_wp2_with fail
     go_roundw
     case rel =>
      have hs1:=setCell_eq_setRow W4 g a X 3 (0,0) (.int .i64 y) hX4
      rw [hs1]
      have hBr:=HB4.out.trans (below_setRow (Below.refl B W4) hbg (X.setIfInBounds a (.int .i64 y)))
      have e3:q46 U (O.take (c+1))=q46 U (O.take c) ++ [y]:=by
       rw [HTS.out,j21];congr 1
       show List.filter _ [y]=_
       rw [List.filter_cons,if_pos (by simpa using hy)];rfl
      refine ⟨_,_,_,_,_,_,_,_,_,_,_,_,_,_,_,_,_,_,_,_,_,_,_,⟨a+1,c+1,X.setIfInBounds a (.int .i64 y),by omega,by omega,by go_num,by go_num,by rw [e3,List.length_append,<-HA.out];rfl,setRow_heap W4 g X _ _ _ hX4,by simp [hXs],?rE,?rF,hBr,HH4.out.setRow hbg' HPG.out (HIB.out _ hBr),fun k hk hne=>(setRow_other W4 g k _ hne).trans ((hb4.block k (Nat.lt_of_lt_of_le hk hbel.size)).trans (HKG.out k hk hne))⟩,rfl⟩
      case rE =>
       rw [e3,Array.toList_setIfInBounds]
       have hal:a<X.toList.length:=by rw [Array.length_toList];exact haX
       rw [<-List.take_append_getElem (by rw [List.length_set];exact hal),List.take_set,List.set_eq_of_length_le (by rw [List.length_take];omega),HX.out,List.getElem_set_self]
       show q5a _ ++ [_]=List.map _ (_ ++ [y])
       rw [List.map_append];rfl
      case rF =>
       intro t h1 h2
       rw [Array.toList_setIfInBounds,List.getElem?_set_ne (by omega)]
       exact HXR.out t (by omega) h2
     case measure=>simp [RowKit.intOf];omega
    ·rw [decide_eq_false hy]
     have HB4:=hid hB4
     have HH4:=hid (HO4.out.below hb4)
     clear d0 hB4
     go_wp2_with fail
     go_roundw
     case rel =>
      have e3:q46 U (O.take (c+1))=q46 U (O.take c):=by
       rw [HTS.out,j21]
       show _++List.filter _ [y]=_
       rw [List.filter_cons,if_neg (by simpa using hy)];simp
      refine ⟨_,_,_,_,_,_,_,_,_,_,_,_,_,_,_,_,_,_,_,_,_,_,_,⟨a,c+1,X,by omega,by omega,rfl,by go_num,by rw [e3];exact HA.out,hX4,hXs,by rw [e3];exact HX.out,fun t h1 h2=>HXR.out t (by omega) h2,HB4.out,HH4.out,fun k hk hne=>(hb4.block k (Nat.lt_of_lt_of_le hk hbel.size)).trans (HKG.out k hk hne)⟩,rfl⟩
     case measure=>simp [RowKit.intOf];omega
   ·have hcc:c=n:=by omega
    subst hcc
    obtain ⟨ti,ht1,ht2,ht3⟩:=jwo
    have hzl:(Builtin.zeroCells (Value.int .i64 0).cells (c - a)).toList=List.replicate (c - a) (.int .i64 0):=by
     show (Builtin.zeroCells #[Value.int .i64 0] (c - a)).toList=_
     simp [Builtin.zeroCells,Nat.mod_one,List.map_const',Array.toList_map,Array.toList_range]
    obtain ⟨zs,hzs⟩ : ∃ zs,zs=List.replicate (c - a) (Value.int .i64 0):=⟨_,rfl⟩
    have hzn:zs.length=c - a:=by rw [hzs,List.length_replicate]
    have hcl : ∀ty cc,(Builtin.clear_ #[39] ty #[.slice (some ⟨g,a,none⟩) (c - a) cc]).run Tryz.prog wr = .ok (.tuple #[]) (wr.setRow g (X.toList.take a++zs++X.toList.drop (a+zs.length)).toArray):=fun ty cc =>
     jah (P:=Tryz.prog) (c - a) wr 39 3 ty (.int .i64 0) zs Tryz.underlying39 (fun w=>by simp [zeroValue,typeInfo,ht1,ht3]) (by rw [hzl,hzs]) (by intro v hv;rw [hzs] at hv;rw [(List.mem_replicate.1 hv).2];rfl) g a cc X 3 hX (by rw [hzn];omega) (by omega)
    have hOt:O.take c=O:=List.take_of_length_le (by rw [<-HN.out];exact Nat.le_refl _)
    rw [hOt] at ha hXt
    have hfin:(X.toList.take a++zs++X.toList.drop (a+zs.length)).toArray.toList.take (a*1)=q5a (q46 U O):=by
     rw [Nat.mul_one]
     show List.take a ((X.toList.take a++zs)++_)=_
     rw [List.append_assoc,List.take_append_of_le_length (by rw [List.length_take,Array.length_toList];omega),List.take_take,Nat.min_self,hXt]
    have hfs:(X.toList.take a++zs++X.toList.drop (a+zs.length)).toArray.size=cap*1:=by simp [hzn];omega
    generalize (X.toList.take a++zs++X.toList.drop (a+zs.length)).toArray=Y at hcl hfin hfs
    have HFI:=hid hfin
    have HA:=hid ha
    have HX2:=hid hX
    have hnc' : ¬ ((c:Nat):Int)<(c:Int):=by omega
    have hk3:(a:Int)<=(c:Int):=by omega
    have hk4:a<=c:=by omega
    have hk5:a<=cap:=by omega
    clear hfin hzl hzs hzn ht1 ht2 ht3 hXr hOt ha hXt hHo
    go_wp2_with (at_builtin;refine qmj _ rfl _ 39 rfl _ rfl (hcl _ _) ?_)
    go_ret
    rw [<-HA.out]
    exact ⟨_,rfl,⟨by rw [qxy,Nat.mul_one];exact HA.out.symm,.inr ⟨g,cap,Y,rfl,hbg,setRow_heap wr g X Y _ _ HX2.out,by omega,hcm,hfs,HFI.out⟩⟩,hbel.trans (below_setRow (Below.refl B wr) hbg Y),fun k hk hne=>(setRow_other wr g k _ hne).trans (HKG.out k hk hne),fun b hb=>by simpa [Value.ownBlock] using hb.symm⟩
end YtggoebaobojmjaaGreatDoor.AM
end Go.Proofs
