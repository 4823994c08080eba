
import Derived.Test.YthpgnliicpejoaaGreatDoorVt32
import Derived.Test.YthpgnliicpejoaaGreatDoorVt16
import Derived.Test.YthpgnliicpejoaaGreatDoorVt22
import Derived.Test.YthpgnliicpejoaaGreatDoorVt29
import Derived.Test.YthpgnliicpejoaaGreatDoorVt21
import Derived.Test.YthpgnliicpejoaaGreatDoorVt20
import Derived.Test.YthpgnliicpejoaaGreatDoorVt9
namespace Go.Proofs
open Go.RowKit Go.Shelf Go.Lib
set_option linter.unusedVariables false
set_option linter.unusedSimpArgs false
namespace YthpgnliicpejoaaGreatDoor.AM
theorem jlo (n:Int) (tb:Nat) (old:Value) (w:World) (hI:Inv w) (ht0:w.cell? ⟨tb,0,none⟩=some old) (hf0:w.frozen? ⟨tb,0,none⟩=false) :
  Calls Tryz.prog 64 #[.iface 114 (.agg #[.int .i64 n]),.iface 123 (.pointer (some ⟨tb,0,none⟩))] w fun ev w'=>ev = .returned (.bool true)/\Below tb w w'/\w'.cell? ⟨tb,0,none⟩=some (.int .i64 n):=by
 have htl:tb<w.heap.size:=World.block_lt_of_cell? _ _ ht0
 refine (jpg n tb old w hI.errT ht0 hf0).mono ?_
 rintro ev w' ⟨rfl,rfl⟩
 refine ⟨rfl,Below.setCell (p:=⟨tb,0,none⟩) ?_ (Nat.le_refl tb) _,?_⟩
 ·exact ((((Below.refl _ _).alloc (by omega) _).alloc (by simp;omega) _).alloc (by simp;omega) _).alloc (by simp;omega) _
 refine World.cell?_setCell_same _ _ _ (u:=old) ?_
 rw [World.cell?_alloc_lt _ _ ⟨tb,0,none⟩ (by simp;omega),World.cell?_alloc_lt _ _ ⟨tb,0,none⟩ (by simp;omega),World.cell?_alloc_lt _ _ ⟨tb,0,none⟩ (by simp;omega),World.cell?_alloc_lt _ _ ⟨tb,0,none⟩ htl,ht0]
theorem jkz (n:Int) (c:Value) (h1:c.oneCell'=true) (tb:Nat) (old old':Value) (w:World) (hI:Inv w) (ht0:w.cell? ⟨tb,0,none⟩=some old) (hf0:w.frozen? ⟨tb,0,none⟩=false) (ht0':w.cell? ⟨tb,1,none⟩=some old') (hf0':w.frozen? ⟨tb,1,none⟩=false) :
  Calls Tryz.prog 64 #[.iface 120 (.agg #[.int .i64 n,c]),.iface 122 (.pointer (some ⟨tb,0,none⟩))] w fun ev w'=>ev = .returned (.bool true)/\Below tb w w':=by
 have htl:tb<w.heap.size:=World.block_lt_of_cell? _ _ ht0
 refine (jpc n c h1 tb old old' w hI.errT ht0 hf0 ht0' hf0').mono ?_
 rintro ev w' ⟨rfl,rfl⟩
 refine ⟨rfl,Below.setCell (p:=⟨tb,1,none⟩) (Below.setCell (p:=⟨tb,0,none⟩) ?_ (Nat.le_refl tb) _) (Nat.le_refl tb) _⟩
 exact ((((Below.refl _ _).alloc (by omega) _).alloc (by simp;omega) _).alloc (by simp;omega) _).alloc (by simp;omega) _
theorem j9s (n:Int) (tb:Nat) (old:Value) (w:World) (hI:Inv w) (ht0:w.cell? ⟨tb,0,none⟩=some old) (hf0:w.frozen? ⟨tb,0,none⟩=false) :
  Calls Tryz.prog 64 #[.iface 114 (.agg #[.int .i64 n]),.iface 122 (.pointer (some ⟨tb,0,none⟩))] w fun ev w'=>ev = .returned (.bool false)/\Below w.heap.size w w':=by
 refine (jfo n tb old w hI.errT ht0 hf0).mono ?_
 rintro ev w' ⟨rfl,rfl⟩
 exact ⟨rfl,(((Below.refl _ _).alloc (by omega) _).alloc (by simp) _).alloc (by simp;omega) _⟩
theorem jkh (n:Int) (w:World) (hI:Inv w):Calls Tryz.prog 34 #[.iface 114 (.agg #[.int .i64 n])] w fun e w'=>e = .returned (.int .i64 n)/\Below w.heap.size w w':=by
 go_enter Tryz.func34,Tryz.ntmps34
 go_wp2_with fail
 have b1:Below w.heap.size w (w.alloc (.cells #[.int .i64 0,.nilIface] 120)):=(Below.refl _ _).alloc (Nat.le_refl _) _
 refine (j9s n w.heap.size (.int .i64 0) _ (hI.below b1) (by simp) (by simp)).mono ?_
 rintro e w1 ⟨rfl,b2⟩
 have b2':=b1.trans (b2.mono (by simp))
 go_wp2_with fail
 have b3:Below w.heap.size w (w1.alloc (.cells #[.int .i64 0] 114)):=b2'.alloc b2'.size _
 refine (jlo n w1.heap.size (.int .i64 0) _ (hI.below b3) (by simp) (by simp)).mono ?_
 rintro e w2 ⟨rfl,b4,hc⟩
 go_wp2
 go_ret
 exact ⟨rfl,b3.trans (b4.mono b2'.size)⟩
theorem jae (n:Int) (c:Value) (h1:c.oneCell'=true) (w:World) (hI:Inv w):Calls Tryz.prog 34 #[.iface 120 (.agg #[.int .i64 n,c])] w fun e w'=>e = .returned (.int .i64 4)/\Below w.heap.size w w':=by
 go_enter Tryz.func34,Tryz.ntmps34
 go_wp2_with fail
 have b1:Below w.heap.size w (w.alloc (.cells #[.int .i64 0,.nilIface] 120)):=(Below.refl _ _).alloc (Nat.le_refl _) _
 refine (jkz n c h1 w.heap.size (.int .i64 0) .nilIface _ (hI.below b1) (by simp) (by simp) (by simp) (by simp)).mono ?_
 rintro e w1 ⟨rfl,b2⟩
 go_wp2
 go_ret
 exact ⟨rfl,b1.trans b2⟩
def numV (v:Value):Option Int:=match v with
 | .iface T (.agg ⟨[.int .i64 n]⟩)=>bif Nat.beq T 114 then some n else none
 | .iface T (.agg ⟨[.int .i64 _,c]⟩)=>bif Nat.beq T 120&&c.oneCell' then some 4 else none
 | _=>none
def q6x (v:IV):Option Int:=numV (Subtype.val v)
def qh4:FC:={ f:=34,args:=[.one (.c (.d .any))],res:=.one (.c (.d (.int .i64))),F:=q6x }
theorem qoz:q0v Inv Tryz.prog qh4:=fun G hG=>⟨⟨by kernel_rfl,fun (a:IV) r h=>by
 intro Pc w vs hGw hlt hv
 have hI:Inv w:=hG.im w hGw
 obtain ⟨vl⟩:=vs
 match vl,hv with
 | [x],⟨q1,_⟩ =>
  obtain rfl:x=Subtype.val a:=q0r q1
  replace h:numV (Subtype.val a)=some r:=h
  unfold numV at h
  split at h
  ·rename_i T n hv
   cases hT:Nat.beq T 114 with
   | false=>rw [hT] at h;cases h
   | true =>
    rw [hT] at h
    obtain rfl:n=r:=Option.some.inj h
    obtain rfl:=Nat.eq_of_beq_eq_true hT
    rw [hv]
    refine (jkh n w hI).mono ?_
    rintro e w' ⟨rfl,b⟩
    exact qa3 rfl b (q0o (σ:=q2d) (.int .i64 _))
  ·rename_i T n c hv
   cases hT:(Nat.beq T 120&&c.oneCell') with
   | false=>rw [hT] at h;cases h
   | true =>
    rw [hT] at h
    obtain rfl:(4:Int)=r:=Option.some.inj h
    obtain ⟨h1,h2⟩:=Bool.and_eq_true_iff.1 hT
    obtain rfl:=Nat.eq_of_beq_eq_true h1
    rw [hv]
    refine (jae n c h2 w hI).mono ?_
    rintro e w' ⟨rfl,b⟩
    exact qa3 rfl b (q0o (σ:=q2d) (.int .i64 4))
  ·cases h⟩,rfl⟩
end YthpgnliicpejoaaGreatDoor.AM
end Go.Proofs
namespace Go.Proofs.YthpgnliicpejoaaGreatDoor.AM
open Go.RowKit
set_option linter.unusedVariables false
set_option maxRecDepth 20000
def qr1 (n:Nat):List LC:=[]
def qeb (n:Nat) (a1:Int):Option (Int×(Int×(Int×(Int)))) :=
 (qo9 .i64 a1 (2:Int)).bind fun n1=>(qo9 .i64 a1 (2:Int)).bind fun n2=>(qo9 .i64 a1 (2:Int)).bind fun n3=>q0n (IntKind.wrap .i64 (a1 - n3)) fun n4=>some ((0:Int),(n1,(n2,n4)))
def q78 (n:Nat):FC:={ f:=46,args:=[.one (.c (.d (.int .i64)))],res:=.one (.agg [.d (.int .i64),.d (.int .i64),.d (.int .i64),.d (.int .i64)]),F:=fun p=>qeb n p }
def qx8 (n:Nat):List FC:=[]
theorem j1o (n:Nat) {G:World->Prop} (hG:Know Inv G) : ∀c∈qx8 n,q27 Tryz.prog G c/\q0z c.args=true:=(fun _ h=>by cases h)
def qv0:q0y:=[]
theorem jgx:drB qv0 (q05 Tryz.f46)=true:=by kernel_rfl
theorem jhn (n:Nat) : ∀a,(q78 n).F a=main Tryz.prog 14 (qx8 n) (qr1 n) qv0 (q05 Tryz.f46) [.cell 2 75] (q78 n).args (q78 n).res a:=by intro a;kernel_rfl
theorem qxl (n:Nat):q0v Inv Tryz.prog (q78 n):=fun G hG=>⟨⟨by kernel_rfl,fun a r h=>q0p (c:=q05 Tryz.f46) Tryz.func46 (by kernel_rfl) (by kernel_rfl) (Nat.le_of_ble_eq_true (by kernel_rfl)) hG.st (by kernel_rfl) (rs:=[.cell 2 75]) (by kernel_rfl) (j1o n hG) (lts:=qr1 n) (fun F hF hFG=>have hK:Know Inv F.G:=hFG ▸ hG;(q0k fun j L h1 h2 h3=>absurd h2 (Nat.not_lt.2 (Nat.le_trans (by decide +kernel) h1)))) jgx ((jhn n a).symm.trans h)⟩,rfl⟩
def qm5 (n:Nat):List LC:=[]
def qeu (n:Nat) (a1:List (List UInt8×List UInt8)) (a2:List UInt8):Option ((List (List UInt8×List UInt8))×(IV)) :=
 (qwv a2).bind fun (r1:(List ((Bool)×(List UInt8×List UInt8)))×(Int))=>(bif !decide (r1.2=0) then some ([],(jn4 114 (Value.agg ⟨[(Value.int .i64 r1.2)]⟩))) else (q86 a1 r1.1).bind fun (r2:(List (List UInt8×List UInt8))×(Int))=>(bif !decide (r2.2=0) then some ([],(jn4 114 (Value.agg ⟨[(Value.int .i64 r2.2)]⟩))) else some (r2.1,j8d)))
def q7h (n:Nat):FC:={ f:=63,args:=[.one (.c (.d (.lst (.prod .str .str)))),.one (.c (.d .str))],res:=.tup [.c (.d (.lst (.prod .str .str))),.c (.d .any)],F:=fun p=>qeu n p.1 p.2 }
def qpj (n:Nat):List FC:=[jbt,qmx]
theorem qwy (n:Nat) {G:World->Prop} (hG:Know Inv G) : ∀c∈qpj n,q27 Tryz.prog G c/\q0z c.args=true:=List.forall_mem_cons.2 ⟨jqb G hG,List.forall_mem_cons.2 ⟨qw6 G hG,(fun _ h=>by cases h)⟩⟩
def qpv:q0y:=[]
theorem j9u:drB qpv (q05 Tryz.f63)=true:=by kernel_rfl
theorem j9a (n:Nat) : ∀a,(q7h n).F a=main Tryz.prog 31 (qpj n) (qm5 n) qpv (q05 Tryz.f63) [.tmp 4,.tmp 5] (q7h n).args (q7h n).res a:=by intro a;kernel_rfl
theorem j8a (n:Nat):q0v Inv Tryz.prog (q7h n):=fun G hG=>⟨⟨by kernel_rfl,fun a r h=>q0p (c:=q05 Tryz.f63) Tryz.func63 (by kernel_rfl) (by kernel_rfl) (Nat.le_of_ble_eq_true (by kernel_rfl)) hG.st (by kernel_rfl) (rs:=[.tmp 4,.tmp 5]) (by kernel_rfl) (qwy n hG) (lts:=qm5 n) (fun F hF hFG=>have hK:Know Inv F.G:=hFG ▸ hG;(q0k fun j L h1 h2 h3=>absurd h2 (Nat.not_lt.2 (Nat.le_trans (by decide +kernel) h1)))) j9u ((j9a n a).symm.trans h)⟩,rfl⟩
@[reducible] def q8d:SSt:=⟨[(3,.one (.c (.box 3 0))),(5,.one (.c (.box 5 0))),(7,.one (.c (.d (.int .i64)))),(8,.one (.c (.box 8 0))),(9,.one (.c (.d .bool))),(15,.one (.agg [.d (.int .i64),.d (.int .i64),.d (.int .i64),.d (.int .i64)])),(16,.one (.c (.d (.int .i64))))],[(3,(25,[.d (.lst .str),.d (.lst (.prod (.int .i64) .str))])),(5,(77,[.d (.int .i64),.nil,.d (.int .i64)])),(8,(77,[.d (.int .i64),.d (.lst .str),.d (.int .i64)]))],[]⟩
@[reducible] def q51:List (Exit×SSt):=[(.exit 0,⟨[(5,.one (.c (.box 5 0))),(7,.one (.c (.d (.int .i64)))),(8,.one (.c (.box 8 0))),(9,.one (.c (.d .bool)))],[(5,(77,[.d (.int .i64),.nil,.d (.int .i64)])),(8,(77,[.d (.int .i64),.d (.lst .str),.d (.int .i64)]))],[]⟩)]
def q2o (n:Nat) (rec:Int->Bool->Int->Int->Int->Int->Int->(List (List UInt8))->(List ((Int)×List UInt8))->Int->Int->Int->(List (List UInt8))->Int->Option ((Unit×(Int×(Unit×(Bool×Unit))))×((Int×(Unit×(Int)))×((Int×((List (List UInt8))×(Int)))×Unit))×Unit)) (a1:Int) (a2:Bool) (a3:Int) (a4:Int) (a5:Int) (a6:Int) (a7:Int) (a8:List (List UInt8)) (a9:List ((Int)×List UInt8)) (a10:Int) (a11:Int) (a12:Int) (a13:List (List UInt8)) (a14:Int):Option ((Unit×(Int×(Unit×(Bool×Unit))))×((Int×(Unit×(Int)))×((Int×((List (List UInt8))×(Int)))×Unit))×Unit) :=
 (bif decide (a7<2) then (if a7=0 then (qmj n (a8,a9) (a3,a4)).bind fun r1=>(bif decide (r1.2=0) then (bif !a2 then q0n (IntKind.wrap .i64 (a7+1)) fun n2=>rec a7 true a3 a4 a5 a6 n2 a8 a9 a10 a11 r1.1.1 r1.1.2.1 r1.1.2.2 else (bif decide (a12<r1.1.1) then q0n (IntKind.wrap .i64 (a7+1)) fun n3=>rec a7 true a3 a4 a5 a6 n3 a8 a9 a10 a11 r1.1.1 r1.1.2.1 r1.1.2.2 else q0n (IntKind.wrap .i64 (a7+1)) fun n4=>rec a1 a2 a3 a4 a5 a6 n4 a8 a9 a10 a11 a12 a13 a14)) else q0n (IntKind.wrap .i64 (a7+1)) fun n5=>rec a1 a2 a3 a4 a5 a6 n5 a8 a9 a10 a11 a12 a13 a14) else if a7=1 then (qmj n (a8,a9) (a5,a6)).bind fun r6=>(bif decide (r6.2=0) then (bif !a2 then q0n (IntKind.wrap .i64 (a7+1)) fun n7=>rec a7 true a3 a4 a5 a6 n7 a8 a9 a10 a11 r6.1.1 r6.1.2.1 r6.1.2.2 else (bif decide (a12<r6.1.1) then q0n (IntKind.wrap .i64 (a7+1)) fun n8=>rec a7 true a3 a4 a5 a6 n8 a8 a9 a10 a11 r6.1.1 r6.1.2.1 r6.1.2.2 else q0n (IntKind.wrap .i64 (a7+1)) fun n9=>rec a1 a2 a3 a4 a5 a6 n9 a8 a9 a10 a11 a12 a13 a14)) else q0n (IntKind.wrap .i64 (a7+1)) fun n10=>rec a1 a2 a3 a4 a5 a6 n10 a8 a9 a10 a11 a12 a13 a14) else none) else some ((((),(a1,((),(a2,())))),(((a10,((),a11)),((a12,(a13,a14)),())),()))))
def qgf (n:Nat) (rec:pSt q8d->Option (q17 q51)) (p:pSt q8d):Option (q17 q51):=q2o n (fun a1 a2 a3 a4 a5 a6 a7 a8 a9 a10 a11 a12 a13 a14=>rec (((),((),(a1,((),(a2,((a3,(a4,(a5,a6))),(a7,()))))))),(((a8,a9),((a10,((),a11)),((a12,(a13,a14)),()))),()))) p.1.2.2.1 p.1.2.2.2.2.1 p.1.2.2.2.2.2.1.1 p.1.2.2.2.2.2.1.2.1 p.1.2.2.2.2.2.1.2.2.1 p.1.2.2.2.2.2.1.2.2.2 p.1.2.2.2.2.2.2.1 p.2.1.1.1 p.2.1.1.2 p.2.1.2.1.1 p.2.1.2.1.2.2 p.2.1.2.2.1.1 p.2.1.2.2.1.2.1 p.2.1.2.2.1.2.2
def q7v (n m:Nat) (a1:Int) (a2:Bool) (a3:Int) (a4:Int) (a5:Int) (a6:Int) (a7:Int) (a8:List (List UInt8)) (a9:List ((Int)×List UInt8)) (a10:Int) (a11:Int) (a12:Int) (a13:List (List UInt8)) (a14:Int):Option ((Unit×(Int×(Unit×(Bool×Unit))))×((Int×(Unit×(Int)))×((Int×((List (List UInt8))×(Int)))×Unit))×Unit):=q1b (qgf n) m (((),((),(a1,((),(a2,((a3,(a4,(a5,a6))),(a7,()))))))),(((a8,a9),((a10,((),a11)),((a12,(a13,a14)),()))),()))
theorem q1c (n m:Nat) (a1 a2 a3 a4 a5 a6 a7 a8 a9 a10 a11 a12 a13 a14):q7v n (m+1) a1 a2 a3 a4 a5 a6 a7 a8 a9 a10 a11 a12 a13 a14=q2o n (fun a1 a2 a3 a4 a5 a6 a7 a8 a9 a10 a11 a12 a13 a14=>q7v n m a1 a2 a3 a4 a5 a6 a7 a8 a9 a10 a11 a12 a13 a14) a1 a2 a3 a4 a5 a6 a7 a8 a9 a10 a11 a12 a13 a14:=rfl
def qp2 (n:Nat):LC:={ sh:=q8d,outs:=q51,F:=q1b (qgf n) n }
def qcm (n:Nat):List LC:=[qp2 n]
def qex (n:Nat) (a1:Int×(Int×(Int×(Int)))) (a2:(List (List UInt8))×(List ((Int)×List UInt8))):Option (Int×((Int×((List (List UInt8))×(Int)))×(Bool))) :=
 (q7v n n (0:Int) false a1.1 a1.2.1 a1.2.2.1 a1.2.2.2 (0:Int) a2.1 a2.2 (0:Int) (0:Int) (0:Int) [] (0:Int)).bind fun o11=>some (o11.1.2.1,(o11.2.1.2.1,o11.1.2.2.2.1))
def q73 (n:Nat):FC:={ f:=62,args:=[.one (.agg [.d (.int .i64),.d (.int .i64),.d (.int .i64),.d (.int .i64)]),.one (.agg [.d (.lst .str),.d (.lst (.prod (.int .i64) .str))])],res:=.tup [.c (.d (.int .i64)),.agg [.d (.int .i64),.d (.lst .str),.d (.int .i64)],.c (.d .bool)],F:=fun p=>qex n p.1 p.2 }
def qfu (n:Nat):List FC:=[qf1 n]
theorem qi4 (n:Nat) {G:World->Prop} (hG:Know Inv G) : ∀c∈qfu n,q27 Tryz.prog G c/\q0z c.args=true:=List.forall_mem_cons.2 ⟨jkf n G hG,(fun _ h=>by cases h)⟩
def qhk:q0y:=[(7,[⟨928455029464035206174343169*2^30,2^117,0⟩,⟨116056878683004400771792899*2^36,2^120,0⟩,⟨39614081257132168796771975171*2^22,2^21,1⟩,⟨79228162514264337593543950339*2^24,2^25,7⟩,⟨3*2^28,2^27,15⟩]),(9,[⟨243388915243820045087367015432193*2^21,2^126,0⟩,⟨243388915243820045087367015432195*2^24,2^129,0⟩,⟨243388915243820045087367015432193*2^27,2^132,0⟩,⟨85070591730234615865843651857942077440,4096,1⟩,⟨680564733841876926926749214863536521216,65536,11⟩,⟨5444517870735015415413993718908292956160,2^18,31⟩])]
theorem qr9:drB qhk (q05 Tryz.f62)=true:=by kernel_rfl
theorem j21 (n:Nat) : ∀rec p,qgf n rec p=round Tryz.prog 45 (qfu n) (qcm n) qhk 1 q8d q51 (q0h 0 0 (q05 Tryz.f62)) rec p:=by intro rec p;kernel_rfl
theorem qxz (n:Nat) {F:Fr} (hF:F.n=45) (hK:Know Inv F.G):qae Tryz.prog F (qp2 n) (q0h 0 0 (q05 Tryz.f62)) :=
 q1h hF (by kernel_rfl) (qi4 n hK) (j21 n) (fuel:=n) (fun _=>rfl) (q0k fun j L h1 h2 h3=>absurd h2 (Nat.not_lt.2 (Nat.le_trans (by decide +kernel) h1))) (q20 qr9)
theorem j8y (n:Nat) : ∀a,(q73 n).F a=main Tryz.prog 45 (qfu n) (qcm n) qhk (q05 Tryz.f62) [.tmp 4,.cell 5 77,.tmp 6] (q73 n).args (q73 n).res a:=by intro a;kernel_rfl
theorem j99 (n:Nat):q0v Inv Tryz.prog (q73 n):=fun G hG=>⟨⟨by kernel_rfl,fun a r h=>q0p (c:=q05 Tryz.f62) Tryz.func62 (by kernel_rfl) (by kernel_rfl) (Nat.le_of_ble_eq_true (by kernel_rfl)) hG.st (by kernel_rfl) (rs:=[.tmp 4,.cell 5 77,.tmp 6]) (by kernel_rfl) (qi4 n hG) (lts:=qcm n) (fun F hF hFG=>have hK:Know Inv F.G:=hFG ▸ hG;(q0k (c:=(q05 Tryz.f62)) (fun j L h1 h2 h3=>by
  have h2':j<1:=Nat.lt_of_lt_of_le h2 (by decide +kernel)
  match j,h1,h2',h3 with
  | 0,_,_,h3=>obtain rfl:=Option.some.inj h3;exact (show q0h 0 0 (q05 Tryz.f62)=q0h 0 0 (q05 Tryz.f62) by kernel_rfl) ▸ qxz n hF hK
  | j+1,_,h2',_=>exact absurd h2' (by omega)))) qr9 ((j8y n a).symm.trans h)⟩,rfl⟩
@[reducible] def qdp:SSt:=⟨[(2,.one (.c (.box 2 0))),(4,.one (.c (.box 4 0))),(44,.one (.c (.d (.lst .str)))),(45,.one (.c (.d (.int .i64)))),(46,.one (.c (.d (.int .i64))))],[(2,(79,[.d (.int .i64),.d (.int .i64),.d (.int .i64),.d (.int .i64),.d (.int .i64),.d (.int .i64),.nil,.d (.int .i64),.nil])),(4,(79,[.d (.int .i64),.d (.int .i64),.d (.int .i64),.d (.int .i64),.d (.int .i64),.d (.int .i64),.d (.lst .str),.d (.int .i64),.d (.lst (.prod .str .str))]))],[]⟩
@[reducible] def q8e:List (Exit×SSt):=[(.ret,⟨[(2,.one (.c (.box 2 0))),(3,.one (.c (.d .any)))],[(2,(79,[.d (.int .i64),.d (.int .i64),.d (.int .i64),.d (.int .i64),.d (.int .i64),.d (.int .i64),.nil,.d (.int .i64),.nil]))],[]⟩),(.exit 0,⟨[(2,.one (.c (.box 2 0))),(4,.one (.c (.box 4 0)))],[(2,(79,[.d (.int .i64),.d (.int .i64),.d (.int .i64),.d (.int .i64),.d (.int .i64),.d (.int .i64),.nil,.d (.int .i64),.nil])),(4,(79,[.d (.int .i64),.d (.int .i64),.d (.int .i64),.d (.int .i64),.d (.int .i64),.d (.int .i64),.d (.lst .str),.d (.int .i64),.d (.lst (.prod .str .str))]))],[]⟩)]
def qsg (n:Nat) (rec:(List (List UInt8))->Int->Int->Int->Int->Int->Int->Int->Int->Int->Int->Int->Int->Int->Int->Int->(List (List UInt8))->Int->(List (List UInt8×List UInt8))->Option (((Unit×(IV×Unit))×((Int×(Int×(Int×(Int×(Int×(Int×(Unit×(Int×Unit))))))))×Unit)×Unit)⊕((Unit×(Unit×Unit))×((Int×(Int×(Int×(Int×(Int×(Int×(Unit×(Int×Unit))))))))×((Int×(Int×(Int×(Int×(Int×(Int×((List (List UInt8))×(Int×(List (List UInt8×List UInt8))))))))))×Unit))×Unit))) (a1:List (List UInt8)) (a2:Int) (a3:Int) (a4:Int) (a5:Int) (a6:Int) (a7:Int) (a8:Int) (a9:Int) (a10:Int) (a11:Int) (a12:Int) (a13:Int) (a14:Int) (a15:Int) (a16:Int) (a17:List (List UInt8)) (a18:Int) (a19:List (List UInt8×List UInt8)):Option (((Unit×(IV×Unit))×((Int×(Int×(Int×(Int×(Int×(Int×(Unit×(Int×Unit))))))))×Unit)×Unit)⊕((Unit×(Unit×Unit))×((Int×(Int×(Int×(Int×(Int×(Int×(Unit×(Int×Unit))))))))×((Int×(Int×(Int×(Int×(Int×(Int×((List (List UInt8))×(Int×(List (List UInt8×List UInt8))))))))))×Unit))×Unit)) :=
 (bif decide (a3<a2) then (q1f a1 a3).bind fun x4=>(qeu n a19 x4).bind fun r5=>(q6e (Subtype.val r5.2)).bind fun (b6:Bool)=>(bif !b6 then some (Sum.inl (((),((jn4 120 (Value.agg ⟨[(Value.int .i64 a3),(Subtype.val r5.2)]⟩)),())),((((0:Int),((0:Int),((0:Int),((0:Int),((0:Int),((0:Int),((),((0:Int),())))))))),()),()))) else q0n (IntKind.wrap .i64 (a3+1)) fun n7=>rec a1 a2 n7 a4 a5 a6 a7 a8 a9 a10 a11 a12 a13 a14 a15 a16 a17 a18 r5.1) else some (Sum.inr ((((),((),())),(((a4,(a5,(a6,(a7,(a8,(a9,((),(a10,())))))))),((a11,(a12,(a13,(a14,(a15,(a16,(a17,(a18,a19)))))))),())),())))))
def qta (n:Nat) (rec:pSt qdp->Option (q17 q8e)) (p:pSt qdp):Option (q17 q8e):=qsg n (fun a1 a2 a3 a4 a5 a6 a7 a8 a9 a10 a11 a12 a13 a14 a15 a16 a17 a18 a19=>rec (((),((),(a1,(a2,(a3,()))))),(((a4,(a5,(a6,(a7,(a8,(a9,((),(a10,())))))))),((a11,(a12,(a13,(a14,(a15,(a16,(a17,(a18,a19)))))))),())),()))) p.1.2.2.1 p.1.2.2.2.1 p.1.2.2.2.2.1 p.2.1.1.1 p.2.1.1.2.1 p.2.1.1.2.2.1 p.2.1.1.2.2.2.1 p.2.1.1.2.2.2.2.1 p.2.1.1.2.2.2.2.2.1 p.2.1.1.2.2.2.2.2.2.2.1 p.2.1.2.1.1 p.2.1.2.1.2.1 p.2.1.2.1.2.2.1 p.2.1.2.1.2.2.2.1 p.2.1.2.1.2.2.2.2.1 p.2.1.2.1.2.2.2.2.2.1 p.2.1.2.1.2.2.2.2.2.2.1 p.2.1.2.1.2.2.2.2.2.2.2.1 p.2.1.2.1.2.2.2.2.2.2.2.2
def q5g (n m:Nat) (a1:List (List UInt8)) (a2:Int) (a3:Int) (a4:Int) (a5:Int) (a6:Int) (a7:Int) (a8:Int) (a9:Int) (a10:Int) (a11:Int) (a12:Int) (a13:Int) (a14:Int) (a15:Int) (a16:Int) (a17:List (List UInt8)) (a18:Int) (a19:List (List UInt8×List UInt8)):Option (((Unit×(IV×Unit))×((Int×(Int×(Int×(Int×(Int×(Int×(Unit×(Int×Unit))))))))×Unit)×Unit)⊕((Unit×(Unit×Unit))×((Int×(Int×(Int×(Int×(Int×(Int×(Unit×(Int×Unit))))))))×((Int×(Int×(Int×(Int×(Int×(Int×((List (List UInt8))×(Int×(List (List UInt8×List UInt8))))))))))×Unit))×Unit)):=q1b (qta n) m (((),((),(a1,(a2,(a3,()))))),(((a4,(a5,(a6,(a7,(a8,(a9,((),(a10,())))))))),((a11,(a12,(a13,(a14,(a15,(a16,(a17,(a18,a19)))))))),())),()))
theorem qie (n m:Nat) (a1 a2 a3 a4 a5 a6 a7 a8 a9 a10 a11 a12 a13 a14 a15 a16 a17 a18 a19):q5g n (m+1) a1 a2 a3 a4 a5 a6 a7 a8 a9 a10 a11 a12 a13 a14 a15 a16 a17 a18 a19=qsg n (fun a1 a2 a3 a4 a5 a6 a7 a8 a9 a10 a11 a12 a13 a14 a15 a16 a17 a18 a19=>q5g n m a1 a2 a3 a4 a5 a6 a7 a8 a9 a10 a11 a12 a13 a14 a15 a16 a17 a18 a19) a1 a2 a3 a4 a5 a6 a7 a8 a9 a10 a11 a12 a13 a14 a15 a16 a17 a18 a19:=rfl
def j6g (n:Nat):LC:={ sh:=qdp,outs:=q8e,F:=q1b (qta n) n }
def qk0 (n:Nat):List LC:=[j6g n]
def qgp (n:Nat) (a1:(List (List UInt8))×(List ((Int)×List UInt8))):Option ((Int×(Int×(Int×(Int×(Int×(Int×((List (List UInt8))×(Int×(List (List UInt8×List UInt8))))))))))×(IV)) :=
 (jp0 a1).bind fun (r1:Bool)=>(bif !r1 then some (((0:Int),((0:Int),((0:Int),((0:Int),((0:Int),((0:Int),([],((0:Int),[])))))))),(jn4 114 (Value.agg ⟨[(Value.int .i64 (1:Int))]⟩))) else (bif decide ((a1.1.length:Int)<8) then some (((0:Int),((0:Int),((0:Int),((0:Int),((0:Int),((0:Int),([],((0:Int),[])))))))),(jn4 114 (Value.agg ⟨[(Value.int .i64 (1:Int))]⟩))) else (qeb n (a1.1.length:Int)).bind fun r2=>(qex n r2 a1).bind fun r3=>(bif !r3.2.2 then some (((0:Int),((0:Int),((0:Int),((0:Int),((0:Int),((0:Int),([],((0:Int),[])))))))),(jn4 114 (Value.agg ⟨[(Value.int .i64 (5:Int))]⟩))) else (q5g n n r3.2.1.2.1 (r3.2.1.2.1.length:Int) (0:Int) (0:Int) (0:Int) (0:Int) (0:Int) (0:Int) (0:Int) (0:Int) r2.1 r2.2.1 r2.2.2.1 r2.2.2.2 r3.1 r3.2.1.1 r3.2.1.2.1 r3.2.1.2.2 []).bind fun o8=>Sum.elim (fun (q9:(Unit×(IV×Unit))×((Int×(Int×(Int×(Int×(Int×(Int×(Unit×(Int×Unit))))))))×Unit)×Unit)=>some ((q9.2.1.1.1,(q9.2.1.1.2.1,(q9.2.1.1.2.2.1,(q9.2.1.1.2.2.2.1,(q9.2.1.1.2.2.2.2.1,(q9.2.1.1.2.2.2.2.2.1,([],(q9.2.1.1.2.2.2.2.2.2.2.1,[])))))))),q9.1.2.1)) (fun (q10:(Unit×(Unit×Unit))×((Int×(Int×(Int×(Int×(Int×(Int×(Unit×(Int×Unit))))))))×((Int×(Int×(Int×(Int×(Int×(Int×((List (List UInt8))×(Int×(List (List UInt8×List UInt8))))))))))×Unit))×Unit)=>some (q10.2.1.2.1,j8d)) o8)))
def q81 (n:Nat):FC:={ f:=33,args:=[.one (.agg [.d (.lst .str),.d (.lst (.prod (.int .i64) .str))])],res:=.tup [.agg [.d (.int .i64),.d (.int .i64),.d (.int .i64),.d (.int .i64),.d (.int .i64),.d (.int .i64),.d (.lst .str),.d (.int .i64),.d (.lst (.prod .str .str))],.c (.d .any)],F:=fun p=>qgp n p }
def qu4 (n:Nat):List FC:=[jn3,q78 n,q73 n,q7h n]
theorem qpu (n:Nat) {G:World->Prop} (hG:Know Inv G) : ∀c∈qu4 n,q27 Tryz.prog G c/\q0z c.args=true:=List.forall_mem_cons.2 ⟨jtv G hG,List.forall_mem_cons.2 ⟨qxl n G hG,List.forall_mem_cons.2 ⟨j99 n G hG,List.forall_mem_cons.2 ⟨j8a n G hG,(fun _ h=>by cases h)⟩⟩⟩⟩
def qtp:q0y:=[]
theorem j68:drB qtp (q05 Tryz.f33)=true:=by kernel_rfl
theorem jbz (n:Nat) : ∀rec p,qta n rec p=round Tryz.prog 69 (qu4 n) (qk0 n) qtp 1 qdp q8e (q0h 0 0 (q05 Tryz.f33)) rec p:=by intro rec p;kernel_rfl
theorem j7r (n:Nat) {F:Fr} (hF:F.n=69) (hK:Know Inv F.G):qae Tryz.prog F (j6g n) (q0h 0 0 (q05 Tryz.f33)) :=
 q1h hF (by kernel_rfl) (qpu n hK) (jbz n) (fuel:=n) (fun _=>rfl) (q0k fun j L h1 h2 h3=>absurd h2 (Nat.not_lt.2 (Nat.le_trans (by decide +kernel) h1))) (q20 j68)
theorem jj2 (n:Nat) : ∀a,(q81 n).F a=main Tryz.prog 69 (qu4 n) (qk0 n) qtp (q05 Tryz.f33) [.cell 2 79,.tmp 3] (q81 n).args (q81 n).res a:=by intro a;kernel_rfl
theorem qtf (n:Nat):q0v Inv Tryz.prog (q81 n):=fun G hG=>⟨⟨by kernel_rfl,fun a r h=>q0p (c:=q05 Tryz.f33) Tryz.func33 (by kernel_rfl) (by kernel_rfl) (Nat.le_of_ble_eq_true (by kernel_rfl)) hG.st (by kernel_rfl) (rs:=[.cell 2 79,.tmp 3]) (by kernel_rfl) (qpu n hG) (lts:=qk0 n) (fun F hF hFG=>have hK:Know Inv F.G:=hFG ▸ hG;(q0k (c:=(q05 Tryz.f33)) (fun j L h1 h2 h3=>by
  have h2':j<1:=Nat.lt_of_lt_of_le h2 (by decide +kernel)
  match j,h1,h2',h3 with
  | 0,_,_,h3=>obtain rfl:=Option.some.inj h3;exact (show q0h 0 0 (q05 Tryz.f33)=q0h 0 0 (q05 Tryz.f33) by kernel_rfl) ▸ j7r n hF hK
  | j+1,_,h2',_=>exact absurd h2' (by omega)))) j68 ((jj2 n a).symm.trans h)⟩,rfl⟩
end Go.Proofs.YthpgnliicpejoaaGreatDoor.AM
namespace Go.Proofs
open Go.RowKit
set_option linter.unusedVariables false
set_option linter.unusedSimpArgs false
namespace YthpgnliicpejoaaGreatDoor.AM
def qfz:FC:={ f:=114,args:=[.one j0j],res:=.one qo8,F:=q6j }
theorem qou:q0v Inv Tryz.prog qfz:=q8r (by kernel_rfl) rfl fun G hG (a:List UInt8) r h=>by
 obtain ⟨h1,rfl⟩:=ifs h
 intro Pc w vs _ hlt hv
 obtain ⟨vl⟩:=vs
 match vl,hv with
 | [x],⟨q1,_⟩ =>
  obtain rfl:x = .string (ba a):=q0r q1
  refine (SumW.jpp (ba a) w (by rw [q29];exact h1)).mono ?_
  rintro e w' ⟨rfl,rfl⟩
  have e:(ba a).data.toList=a:=by simp [ba]
  rw [e]
  exact qa3 rfl (Below.refl _ _) (q0o (σ:=q2d) (.int .i64 _))
end YthpgnliicpejoaaGreatDoor.AM
end Go.Proofs
namespace Go.Proofs.YthpgnliicpejoaaGreatDoor.AM
open Go.RowKit
set_option linter.unusedVariables false
set_option maxRecDepth 20000
def qpm (n:Nat):List LC:=[]
def qsr (n:Nat) (a1:Int) (a2:Int) (a3:Int) (a4:List UInt8):Option ((Int×(Int×(Int×(Int×(Int)))))×(Bool)) :=
 (q6j a4).bind fun (r1:Int)=>(qa7 n (a1,(a2,(a3,((a4.length:Int),r1))))).bind fun r2=>(bif !r2.2 then some (((0:Int),((0:Int),((0:Int),((0:Int),(0:Int))))),false) else some ((a1,(a2,(a3,((a4.length:Int),r1)))),true))
def qen (n:Nat):FC:={ f:=83,args:=[.one (.c (.d (.int .i64))),.one (.c (.d (.int .i64))),.one (.c (.d (.int .i64))),.one (.c (.d .str))],res:=.tup [.agg [.d (.int .i64),.d (.int .i64),.d (.int .i64),.d (.int .i64),.d (.int .i64)],.c (.d .bool)],F:=fun p=>qsr n p.1 p.2.1 p.2.2.1 p.2.2.2 }
def qxq (n:Nat):List FC:=[qfz,q7g n]
theorem j0q (n:Nat) {G:World->Prop} (hG:Know Inv G) : ∀c∈qxq n,q27 Tryz.prog G c/\q0z c.args=true:=List.forall_mem_cons.2 ⟨qou G hG,List.forall_mem_cons.2 ⟨qju n G hG,(fun _ h=>by cases h)⟩⟩
def qwp:q0y:=[]
theorem jap:drB qwp (q05 Tryz.f83)=true:=by kernel_rfl
theorem jhm (n:Nat) : ∀a,(qen n).F a=main Tryz.prog 30 (qxq n) (qpm n) qwp (q05 Tryz.f83) [.cell 8 146,.tmp 9] (qen n).args (qen n).res a:=by intro a;kernel_rfl
theorem jf2 (n:Nat):q0v Inv Tryz.prog (qen n):=fun G hG=>⟨⟨by kernel_rfl,fun a r h=>q0p (c:=q05 Tryz.f83) Tryz.func83 (by kernel_rfl) (by kernel_rfl) (Nat.le_of_ble_eq_true (by kernel_rfl)) hG.st (by kernel_rfl) (rs:=[.cell 8 146,.tmp 9]) (by kernel_rfl) (j0q n hG) (lts:=qpm n) (fun F hF hFG=>have hK:Know Inv F.G:=hFG ▸ hG;(q0k fun j L h1 h2 h3=>absurd h2 (Nat.not_lt.2 (Nat.le_trans (by decide +kernel) h1)))) jap ((jhm n a).symm.trans h)⟩,rfl⟩
end Go.Proofs.YthpgnliicpejoaaGreatDoor.AM
namespace Go.Proofs
open Go.RowKit
set_option linter.unusedVariables false
set_option linter.unusedSimpArgs false
namespace YthpgnliicpejoaaGreatDoor.AM
def q96:FC:={ f:=83,args:=[.one qo8,.one qo8,.one qo8,.one j0j],res:=.tup [hdS,qh2],F:=fun p=>q4o p.1 p.2.1 p.2.2.1 p.2.2.2 }
theorem jp1 (n:Nat) (hn:33<=n) {k g q:Int} {s:List UInt8} (h:s.length<=maxLen):qsr n k g q s=some (qg0 k g q s,decide (RM.may k g q (s.length:Int) (SM.q1d 1 s))):=by
 unfold qsr q6j qg0
 have hb:SM.q1d 1 s<=9223372036854775807:=by
  have:=SM.qtd 1 s
  omega
 rw [if_pos h,Option.bind_some,j1e n hn hb,Option.bind_some]
 by_cases c:RM.may k g q (s.length:Int) (SM.q1d 1 s)
 ·rw [decide_eq_true c,Bool.not_true,cond_false,if_pos c]
 ·rw [decide_eq_false c,Bool.not_false,cond_true,if_neg c]
theorem qf5:q0v Inv Tryz.prog q96:=fun G hG=>⟨⟨by kernel_rfl,fun a r h=>by
 have hs:=ifs h
 obtain ⟨h1,rfl⟩:=hs
 exact (jf2 100 G hG).1.2 a _ (jp1 100 (by decide) h1)⟩,rfl⟩
def qf7:FC:={ f:=84,args:=[.one hdS],res:=.tup [j0j,qh2],F:=q6u }
theorem qo4:q0v Inv Tryz.prog qf7:=fun G hG=>⟨⟨by kernel_rfl,fun a r h=>by
 obtain ⟨h1,rfl⟩:=ifs h
 obtain ⟨k,g,q,z,m⟩:=a
 refine (qju 100 G hG).1.2 (k,(g,(q,(z,m)))) _ ((j1e 100 (by decide) h1.2).trans (congrArg some (Prod.ext ?_ rfl)))
 unfold qca RM.q3i
 by_cases c:RM.may k g q z m
 ·rw [if_pos c,if_pos c];rfl
 ·rw [if_neg c,if_neg c];rfl⟩,rfl⟩
def qvi:FC:={ f:=129,args:=[.one ssS,.one qo8],res:=.tup [j0j,qh2],F:=fun p=>qfs p.1 p.2 }
theorem jce:q0v Inv Tryz.prog qvi:=q8r (by kernel_rfl) rfl fun G hG a r h=>by
 obtain ⟨h1,rfl⟩:=ifs h
 obtain ⟨l,n⟩:=a
 intro Pc w vs _ hlt hv
 obtain ⟨vl⟩:=vs
 match vl,hv with
 | [x,y],⟨q1,q2,_⟩ =>
  obtain rfl:y = .int .i64 n:=q0r q2
  have q1':q1z (q1y Pc) q2d w x (.one (e1 (r1 ssS l))):=q1
  rw [jr6] at q1'
  obtain ⟨a,cap,hx,b1,b2,hs⟩:=jo0 hlt q1'
  refine (RecW.jej (l.map ba) x n w hs (by simpa using h1.1) h1.2).mono ?_
  rintro e w' ⟨rfl,hb⟩
  exact ⟨_,Pc,rfl,hb,fun b o hp=>hp,fun b o hp=>Or.inl hp,_,rfl,j1i _,q0o (σ:=q2d) (.bool _),trivial⟩
end YthpgnliicpejoaaGreatDoor.AM
end Go.Proofs
