
import Derived.Test.YthpgnliicpejoaaGreatDoorVu30
import Derived.Test.YthpgnliicpejoaaGreatDoorVu15
import Derived.Test.YthpgnliicpejoaaGreatDoorVu20
import Derived.Test.YthpgnliicpejoaaGreatDoorVu27
import Derived.Test.YthpgnliicpejoaaGreatDoorVu19
import Derived.Test.YthpgnliicpejoaaGreatDoorVu18
import Derived.Test.YthpgnliicpejoaaGreatDoorVu9
namespace Go.Proofs
open Go.RowKit Go.Shelf Go.Lib
set_option linter.unusedVariables false
set_option linter.unusedSimpArgs false
namespace YthpgnliicpejoaaGreatDoor.AM
theorem jcr (n:Int) (tb:Nat) (old:Value) (w:World) (hI:Inv w) (ht0:w.cell? ⟨tb,0,none⟩=some old) (hf0:w.frozen? ⟨tb,0,none⟩=false) :
  Calls Tryz.prog 64 #[.iface 114 (.agg #[.int .i64 n]),.iface 123 (.pointer (some ⟨tb,0,none⟩))] w fun ev w'=>ev = .returned (.bool true)/\Below tb w w'/\w'.cell? ⟨tb,0,none⟩=some (.int .i64 n):=by
 have htl:tb<w.heap.size:=World.block_lt_of_cell? _ _ ht0
 refine (jhh n tb old w hI.errT ht0 hf0).mono ?_
 rintro ev w' ⟨rfl,rfl⟩
 refine ⟨rfl,Below.setCell (p:=⟨tb,0,none⟩) ?_ (Nat.le_refl tb) _,?_⟩
 ·exact ((((Below.refl _ _).alloc (by omega) _).alloc (by simp;omega) _).alloc (by simp;omega) _).alloc (by simp;omega) _
 refine World.cell?_setCell_same _ _ _ (u:=old) ?_
 rw [World.cell?_alloc_lt _ _ ⟨tb,0,none⟩ (by simp;omega),World.cell?_alloc_lt _ _ ⟨tb,0,none⟩ (by simp;omega),World.cell?_alloc_lt _ _ ⟨tb,0,none⟩ (by simp;omega),World.cell?_alloc_lt _ _ ⟨tb,0,none⟩ htl,ht0]
theorem jb7 (n:Int) (c:Value) (h1:c.oneCell'=true) (tb:Nat) (old old':Value) (w:World) (hI:Inv w) (ht0:w.cell? ⟨tb,0,none⟩=some old) (hf0:w.frozen? ⟨tb,0,none⟩=false) (ht0':w.cell? ⟨tb,1,none⟩=some old') (hf0':w.frozen? ⟨tb,1,none⟩=false) :
  Calls Tryz.prog 64 #[.iface 120 (.agg #[.int .i64 n,c]),.iface 122 (.pointer (some ⟨tb,0,none⟩))] w fun ev w'=>ev = .returned (.bool true)/\Below tb w w':=by
 have htl:tb<w.heap.size:=World.block_lt_of_cell? _ _ ht0
 refine (jgt n c h1 tb old old' w hI.errT ht0 hf0 ht0' hf0').mono ?_
 rintro ev w' ⟨rfl,rfl⟩
 refine ⟨rfl,Below.setCell (p:=⟨tb,1,none⟩) (Below.setCell (p:=⟨tb,0,none⟩) ?_ (Nat.le_refl tb) _) (Nat.le_refl tb) _⟩
 exact ((((Below.refl _ _).alloc (by omega) _).alloc (by simp;omega) _).alloc (by simp;omega) _).alloc (by simp;omega) _
theorem j2h (n:Int) (tb:Nat) (old:Value) (w:World) (hI:Inv w) (ht0:w.cell? ⟨tb,0,none⟩=some old) (hf0:w.frozen? ⟨tb,0,none⟩=false) :
  Calls Tryz.prog 64 #[.iface 114 (.agg #[.int .i64 n]),.iface 122 (.pointer (some ⟨tb,0,none⟩))] w fun ev w'=>ev = .returned (.bool false)/\Below w.heap.size w w':=by
 refine (ja0 n tb old w hI.errT ht0 hf0).mono ?_
 rintro ev w' ⟨rfl,rfl⟩
 exact ⟨rfl,(((Below.refl _ _).alloc (by omega) _).alloc (by simp) _).alloc (by simp;omega) _⟩
theorem jau (n:Int) (w:World) (hI:Inv w):Calls Tryz.prog 34 #[.iface 114 (.agg #[.int .i64 n])] w fun e w'=>e = .returned (.int .i64 n)/\Below w.heap.size w w':=by
 go_enter Tryz.func34,Tryz.ntmps34
 go_wp2_with fail
 have b1:Below w.heap.size w (w.alloc (.cells #[.int .i64 0,.nilIface] 120)):=(Below.refl _ _).alloc (Nat.le_refl _) _
 refine (j2h n w.heap.size (.int .i64 0) _ (hI.below b1) (by simp) (by simp)).mono ?_
 rintro e w1 ⟨rfl,b2⟩
 have b2':=b1.trans (b2.mono (by simp))
 go_wp2_with fail
 have b3:Below w.heap.size w (w1.alloc (.cells #[.int .i64 0] 114)):=b2'.alloc b2'.size _
 refine (jcr n w1.heap.size (.int .i64 0) _ (hI.below b3) (by simp) (by simp)).mono ?_
 rintro e w2 ⟨rfl,b4,hc⟩
 go_wp2
 go_ret
 exact ⟨rfl,b3.trans (b4.mono b2'.size)⟩
theorem j2t (n:Int) (c:Value) (h1:c.oneCell'=true) (w:World) (hI:Inv w):Calls Tryz.prog 34 #[.iface 120 (.agg #[.int .i64 n,c])] w fun e w'=>e = .returned (.int .i64 4)/\Below w.heap.size w w':=by
 go_enter Tryz.func34,Tryz.ntmps34
 go_wp2_with fail
 have b1:Below w.heap.size w (w.alloc (.cells #[.int .i64 0,.nilIface] 120)):=(Below.refl _ _).alloc (Nat.le_refl _) _
 refine (jb7 n c h1 w.heap.size (.int .i64 0) .nilIface _ (hI.below b1) (by simp) (by simp) (by simp) (by simp)).mono ?_
 rintro e w1 ⟨rfl,b2⟩
 go_wp2
 go_ret
 exact ⟨rfl,b1.trans b2⟩
def numV (v:Value):Option Int:=match v with
 | .iface T (.agg ⟨[.int .i64 n]⟩)=>bif Nat.beq T 114 then some n else none
 | .iface T (.agg ⟨[.int .i64 _,c]⟩)=>bif Nat.beq T 120&&c.oneCell' then some 4 else none
 | _=>none
def q6p (v:IV):Option Int:=numV (Subtype.val v)
def qeu:FC:={ f:=34,args:=[.one (.c (.d .any))],res:=.one (.c (.d (.int .i64))),F:=q6p }
theorem qm2:q18 Inv Tryz.prog qeu:=fun G hG=>⟨⟨by kernel_rfl,fun (a:IV) r h=>by
 intro Pc w vs hGw hlt hv
 have hI:Inv w:=hG.im w hGw
 obtain ⟨vl⟩:=vs
 match vl,hv with
 | [x],⟨q1,_⟩ =>
  obtain rfl:x=Subtype.val a:=q0o q1
  replace h:numV (Subtype.val a)=some r:=h
  unfold numV at h
  split at h
  ·rename_i T n hv
   cases hT:Nat.beq T 114 with
   | false=>rw [hT] at h;cases h
   | true =>
    rw [hT] at h
    obtain rfl:n=r:=Option.some.inj h
    obtain rfl:=Nat.eq_of_beq_eq_true hT
    rw [hv]
    refine (jau n w hI).mono ?_
    rintro e w' ⟨rfl,b⟩
    exact qdc rfl b (q0l (σ:=q2g) (.int .i64 _))
  ·rename_i T n c hv
   cases hT:(Nat.beq T 120&&c.oneCell') with
   | false=>rw [hT] at h;cases h
   | true =>
    rw [hT] at h
    obtain rfl:(4:Int)=r:=Option.some.inj h
    obtain ⟨h1,h2⟩:=Bool.and_eq_true_iff.1 hT
    obtain rfl:=Nat.eq_of_beq_eq_true h1
    rw [hv]
    refine (j2t n c h2 w hI).mono ?_
    rintro e w' ⟨rfl,b⟩
    exact qdc rfl b (q0l (σ:=q2g) (.int .i64 4))
  ·cases h⟩,rfl⟩
end YthpgnliicpejoaaGreatDoor.AM
end Go.Proofs
namespace Go.Proofs.YthpgnliicpejoaaGreatDoor.AM
open Go.RowKit
set_option linter.unusedVariables false
set_option maxRecDepth 20000
def qm8 (n:Nat):List LC:=[]
def qcy (n:Nat) (a1:Int):Option (Int×(Int×(Int×(Int)))) :=
 (qsq .i64 a1 (2:Int)).bind fun (n1:Int)=>(qsq .i64 a1 (2:Int)).bind fun (n2:Int)=>(qsq .i64 a1 (2:Int)).bind fun (n3:Int)=>q0n (IntKind.wrap .i64 (a1 - n3)) fun (n4:Int)=>some ((0:Int),(n1,(n2,n4)))
def q6d (n:Nat):FC:={ f:=46,args:=[.one (.c (.d (.int .i64)))],res:=.one (.agg [.d (.int .i64),.d (.int .i64),.d (.int .i64),.d (.int .i64)]),F:=fun p=>qcy n p }
def qt8 (n:Nat):List FC:=[]
theorem que (n:Nat) {G:World->Prop} (hG:Know Inv G) : ∀c∈qt8 n,q3s Tryz.prog G c/\q1j c.args=true:=(fun _ h=>by cases h)
def qqp:q1h:=[]
theorem j8n:drB qqp (q0b Tryz.f46)=true:=by kernel_rfl
theorem j6f (n:Nat) : ∀a,(q6d n).F a=main Tryz.prog 14 (qt8 n) (qm8 n) qqp (q0b Tryz.f46) [.cell 2 75] (q6d n).args (q6d n).res a:=by intro a;kernel_rfl
theorem qrv (n:Nat):q18 Inv Tryz.prog (q6d n):=fun G hG=>⟨⟨by kernel_rfl,fun a r h=>q0u (c:=q0b Tryz.f46) Tryz.func46 (by kernel_rfl) (by kernel_rfl) (Nat.le_of_ble_eq_true (by kernel_rfl)) hG.st (by kernel_rfl) (rs:=[.cell 2 75]) (by kernel_rfl) (que n hG) (lts:=qm8 n) (fun F hF hFG=>have hK:Know Inv F.G:=hFG ▸ hG;(q0r fun j L h1 h2 h3=>absurd h2 (Nat.not_lt.2 (Nat.le_trans (by decide +kernel) h1)))) j8n ((j6f n a).symm.trans h)⟩,rfl⟩
def qim (n:Nat):List LC:=[]
def qbm (n:Nat) (a1:List (List UInt8×(List UInt8))) (a2:List UInt8):Option ((List (List UInt8×(List UInt8)))×(IV)) :=
 (qq8 a2).bind fun (r1:(List ((Bool)×(List UInt8×(List UInt8))))×(Int))=>(bif !decide (r1.2=(0:Int)) then some ([],(jdw 114 (Value.agg ⟨[(Value.int .i64 r1.2)]⟩))) else (q76 a1 r1.1).bind fun (r2:(List (List UInt8×(List UInt8)))×(Int))=>(bif !decide (r2.2=(0:Int)) then some ([],(jdw 114 (Value.agg ⟨[(Value.int .i64 r2.2)]⟩))) else some (r2.1,j1d)))
def q6e (n:Nat):FC:={ f:=63,args:=[.one (.c (.d (.lst (.prod .str .str)))),.one (.c (.d .str))],res:=.tup [.c (.d (.lst (.prod .str .str))),.c (.d .any)],F:=fun p=>qbm n p.1 p.2 }
def qll (n:Nat):List FC:=[j4i,qif]
theorem qte (n:Nat) {G:World->Prop} (hG:Know Inv G) : ∀c∈qll n,q3s Tryz.prog G c/\q1j c.args=true:=List.forall_mem_cons.2 ⟨ji4 G hG,List.forall_mem_cons.2 ⟨qt1 G hG,(fun _ h=>by cases h)⟩⟩
def qm5:q1h:=[]
theorem j32:drB qm5 (q0b Tryz.f63)=true:=by kernel_rfl
theorem j25 (n:Nat) : ∀a,(q6e n).F a=main Tryz.prog 31 (qll n) (qim n) qm5 (q0b Tryz.f63) [.tmp 4,.tmp 5] (q6e n).args (q6e n).res a:=by intro a;kernel_rfl
theorem j1c (n:Nat):q18 Inv Tryz.prog (q6e n):=fun G hG=>⟨⟨by kernel_rfl,fun a r h=>q0u (c:=q0b Tryz.f63) Tryz.func63 (by kernel_rfl) (by kernel_rfl) (Nat.le_of_ble_eq_true (by kernel_rfl)) hG.st (by kernel_rfl) (rs:=[.tmp 4,.tmp 5]) (by kernel_rfl) (qte n hG) (lts:=qim n) (fun F hF hFG=>have hK:Know Inv F.G:=hFG ▸ hG;(q0r fun j L h1 h2 h3=>absurd h2 (Nat.not_lt.2 (Nat.le_trans (by decide +kernel) h1)))) j32 ((j25 n a).symm.trans h)⟩,rfl⟩
@[reducible] def q73:SSt:=⟨[(3,.one (.c (.box 3 0))),(5,.one (.c (.box 5 0))),(7,.one (.c (.d (.int .i64)))),(8,.one (.c (.box 8 0))),(9,.one (.c (.d .bool))),(15,.one (.agg [.d (.int .i64),.d (.int .i64),.d (.int .i64),.d (.int .i64)])),(16,.one (.c (.d (.int .i64))))],[(3,(25,[.d (.lst .str),.d (.lst (.prod (.int .i64) .str))])),(5,(77,[.d (.int .i64),.nil,.d (.int .i64)])),(8,(77,[.d (.int .i64),.d (.lst .str),.d (.int .i64)]))],[]⟩
@[reducible] def q4z:List (Exit×SSt):=[(.exit 0,⟨[(5,.one (.c (.box 5 0))),(7,.one (.c (.d (.int .i64)))),(8,.one (.c (.box 8 0))),(9,.one (.c (.d .bool)))],[(5,(77,[.d (.int .i64),.nil,.d (.int .i64)])),(8,(77,[.d (.int .i64),.d (.lst .str),.d (.int .i64)]))],[]⟩)]
def q2n (n:Nat) (rec:Int->Bool->Int->Int->Int->Int->Int->(List (List UInt8))->(List ((Int)×(List UInt8)))->Int->Int->Int->(List (List UInt8))->Int->Option ((Unit×(Int×(Unit×(Bool×(Unit)))))×((Int×(Unit×(Int)))×((Int×((List (List UInt8))×(Int)))×(Unit)))×(Unit))) (a1:Int) (a2:Bool) (a3:Int) (a4:Int) (a5:Int) (a6:Int) (a7:Int) (a8:List (List UInt8)) (a9:List ((Int)×(List UInt8))) (a10:Int) (a11:Int) (a12:Int) (a13:List (List UInt8)) (a14:Int):Option ((Unit×(Int×(Unit×(Bool×(Unit)))))×((Int×(Unit×(Int)))×((Int×((List (List UInt8))×(Int)))×(Unit)))×(Unit)) :=
 (bif decide (a7<(2:Int)) then (if a7=0 then (qhq n (a8,a9) (a3,a4)).bind fun (r1:(Int×((List (List UInt8))×(Int)))×(Int))=>(bif decide (r1.2=(0:Int)) then (bif !a2 then q0n (IntKind.wrap .i64 (a7+(1:Int))) fun (n2:Int)=>rec a7 true a3 a4 a5 a6 n2 a8 a9 a10 a11 r1.1.1 r1.1.2.1 r1.1.2.2 else (bif decide (a12<r1.1.1) then q0n (IntKind.wrap .i64 (a7+(1:Int))) fun (n3:Int)=>rec a7 true a3 a4 a5 a6 n3 a8 a9 a10 a11 r1.1.1 r1.1.2.1 r1.1.2.2 else q0n (IntKind.wrap .i64 (a7+(1:Int))) fun (n4:Int)=>rec a1 a2 a3 a4 a5 a6 n4 a8 a9 a10 a11 a12 a13 a14)) else q0n (IntKind.wrap .i64 (a7+(1:Int))) fun (n5:Int)=>rec a1 a2 a3 a4 a5 a6 n5 a8 a9 a10 a11 a12 a13 a14) else if a7=1 then (qhq n (a8,a9) (a5,a6)).bind fun (r6:(Int×((List (List UInt8))×(Int)))×(Int))=>(bif decide (r6.2=(0:Int)) then (bif !a2 then q0n (IntKind.wrap .i64 (a7+(1:Int))) fun (n7:Int)=>rec a7 true a3 a4 a5 a6 n7 a8 a9 a10 a11 r6.1.1 r6.1.2.1 r6.1.2.2 else (bif decide (a12<r6.1.1) then q0n (IntKind.wrap .i64 (a7+(1:Int))) fun (n8:Int)=>rec a7 true a3 a4 a5 a6 n8 a8 a9 a10 a11 r6.1.1 r6.1.2.1 r6.1.2.2 else q0n (IntKind.wrap .i64 (a7+(1:Int))) fun (n9:Int)=>rec a1 a2 a3 a4 a5 a6 n9 a8 a9 a10 a11 a12 a13 a14)) else q0n (IntKind.wrap .i64 (a7+(1:Int))) fun (n10:Int)=>rec a1 a2 a3 a4 a5 a6 n10 a8 a9 a10 a11 a12 a13 a14) else none) else some ((((),(a1,((),(a2,())))),(((a10,((),a11)),((a12,(a13,a14)),())),()))))
def qdi (n:Nat) (rec:pSt q73->Option (q1m q4z)) (p:pSt q73):Option (q1m q4z):=q2n n (fun a1 a2 a3 a4 a5 a6 a7 a8 a9 a10 a11 a12 a13 a14=>rec (((),((),(a1,((),(a2,((a3,(a4,(a5,a6))),(a7,()))))))),(((a8,a9),((a10,((),a11)),((a12,(a13,a14)),()))),()))) p.1.2.2.1 p.1.2.2.2.2.1 p.1.2.2.2.2.2.1.1 p.1.2.2.2.2.2.1.2.1 p.1.2.2.2.2.2.1.2.2.1 p.1.2.2.2.2.2.1.2.2.2 p.1.2.2.2.2.2.2.1 p.2.1.1.1 p.2.1.1.2 p.2.1.2.1.1 p.2.1.2.1.2.2 p.2.1.2.2.1.1 p.2.1.2.2.1.2.1 p.2.1.2.2.1.2.2
def q7o (n m:Nat) (a1:Int) (a2:Bool) (a3:Int) (a4:Int) (a5:Int) (a6:Int) (a7:Int) (a8:List (List UInt8)) (a9:List ((Int)×(List UInt8))) (a10:Int) (a11:Int) (a12:Int) (a13:List (List UInt8)) (a14:Int):Option ((Unit×(Int×(Unit×(Bool×(Unit)))))×((Int×(Unit×(Int)))×((Int×((List (List UInt8))×(Int)))×(Unit)))×(Unit)):=q1s (qdi n) m (((),((),(a1,((),(a2,((a3,(a4,(a5,a6))),(a7,()))))))),(((a8,a9),((a10,((),a11)),((a12,(a13,a14)),()))),()))
theorem q15 (n m:Nat) (a1:Int) (a2:Bool) (a3:Int) (a4:Int) (a5:Int) (a6:Int) (a7:Int) (a8:List (List UInt8)) (a9:List ((Int)×(List UInt8))) (a10:Int) (a11:Int) (a12:Int) (a13:List (List UInt8)) (a14:Int):q7o n (m+1) a1 a2 a3 a4 a5 a6 a7 a8 a9 a10 a11 a12 a13 a14=q2n n (fun a1 a2 a3 a4 a5 a6 a7 a8 a9 a10 a11 a12 a13 a14=>q7o n m a1 a2 a3 a4 a5 a6 a7 a8 a9 a10 a11 a12 a13 a14) a1 a2 a3 a4 a5 a6 a7 a8 a9 a10 a11 a12 a13 a14:=rfl
def qmd (n:Nat):LC:={ sh:=q73,outs:=q4z,F:=q1s (qdi n) n }
def qar (n:Nat):List LC:=[qmd n]
def qcf (n:Nat) (a1:Int×(Int×(Int×(Int)))) (a2:(List (List UInt8))×(List ((Int)×(List UInt8)))):Option (Int×((Int×((List (List UInt8))×(Int)))×(Bool))) :=
 (q7o n n (0:Int) false a1.1 a1.2.1 a1.2.2.1 a1.2.2.2 (0:Int) a2.1 a2.2 (0:Int) (0:Int) (0:Int) [] (0:Int)).bind fun (o11:(Unit×(Int×(Unit×(Bool×(Unit)))))×((Int×(Unit×(Int)))×((Int×((List (List UInt8))×(Int)))×(Unit)))×(Unit))=>some (o11.1.2.1,(o11.2.1.2.1,o11.1.2.2.2.1))
def q6f (n:Nat):FC:={ f:=62,args:=[.one (.agg [.d (.int .i64),.d (.int .i64),.d (.int .i64),.d (.int .i64)]),.one (.agg [.d (.lst .str),.d (.lst (.prod (.int .i64) .str))])],res:=.tup [.c (.d (.int .i64)),.agg [.d (.int .i64),.d (.lst .str),.d (.int .i64)],.c (.d .bool)],F:=fun p=>qcf n p.1 p.2 }
def qec (n:Nat):List FC:=[qd0 n]
theorem qf2 (n:Nat) {G:World->Prop} (hG:Know Inv G) : ∀c∈qec n,q3s Tryz.prog G c/\q1j c.args=true:=List.forall_mem_cons.2 ⟨jaq n G hG,(fun _ h=>by cases h)⟩
def qeg:q1h:=[(7,[⟨928455029464035206174343169*2^30,2^117,0⟩,⟨116056878683004400771792899*2^36,2^120,0⟩,⟨39614081257132168796771975171*2^22,2^21,1⟩,⟨79228162514264337593543950339*2^24,2^25,7⟩,⟨3*2^28,2^27,15⟩]),(9,[⟨243388915243820045087367015432193*2^21,2^126,0⟩,⟨243388915243820045087367015432195*2^24,2^129,0⟩,⟨243388915243820045087367015432193*2^27,2^132,0⟩,⟨85070591730234615865843651857942077440,4096,1⟩,⟨680564733841876926926749214863536521216,65536,11⟩,⟨5444517870735015415413993718908292956160,2^18,31⟩])]
theorem ql4:drB qeg (q0b Tryz.f62)=true:=by kernel_rfl
theorem qvl (n:Nat) : ∀rec p,qdi n rec p=round Tryz.prog 45 (qec n) (qar n) qeg 1 q73 q4z (q0h 0 0 (q0b Tryz.f62)) rec p:=by intro rec p;kernel_rfl
theorem qta (n:Nat) {F:Fr} (hF:F.n=45) (hK:Know Inv F.G):qfl Tryz.prog F (qmd n) (q0h 0 0 (q0b Tryz.f62)) :=
 q1y hF (by kernel_rfl) (qf2 n hK) (qvl n) (fuel:=n) (fun _=>rfl) (q0r fun j L h1 h2 h3=>absurd h2 (Nat.not_lt.2 (Nat.le_trans (by decide +kernel) h1))) (q37 ql4)
theorem j2a (n:Nat) : ∀a,(q6f n).F a=main Tryz.prog 45 (qec n) (qar n) qeg (q0b Tryz.f62) [.tmp 4,.cell 5 77,.tmp 6] (q6f n).args (q6f n).res a:=by intro a;kernel_rfl
theorem j3a (n:Nat):q18 Inv Tryz.prog (q6f n):=fun G hG=>⟨⟨by kernel_rfl,fun a r h=>q0u (c:=q0b Tryz.f62) Tryz.func62 (by kernel_rfl) (by kernel_rfl) (Nat.le_of_ble_eq_true (by kernel_rfl)) hG.st (by kernel_rfl) (rs:=[.tmp 4,.cell 5 77,.tmp 6]) (by kernel_rfl) (qf2 n hG) (lts:=qar n) (fun F hF hFG=>have hK:Know Inv F.G:=hFG ▸ hG;(q0r (c:=(q0b Tryz.f62)) (fun j L h1 h2 h3=>by
  have h2':j<1:=Nat.lt_of_lt_of_le h2 (by decide +kernel)
  match j,h1,h2',h3 with
  | 0,_,_,h3=>obtain rfl:=Option.some.inj h3;exact (show q0h 0 0 (q0b Tryz.f62)=q0h 0 0 (q0b Tryz.f62) by kernel_rfl) ▸ qta n hF hK
  | j+1,_,h2',_=>exact absurd h2' (by omega)))) ql4 ((j2a n a).symm.trans h)⟩,rfl⟩
@[reducible] def qbk:SSt:=⟨[(2,.one (.c (.box 2 0))),(4,.one (.c (.box 4 0))),(44,.one (.c (.d (.lst .str)))),(45,.one (.c (.d (.int .i64)))),(46,.one (.c (.d (.int .i64))))],[(2,(79,[.d (.int .i64),.d (.int .i64),.d (.int .i64),.d (.int .i64),.d (.int .i64),.d (.int .i64),.nil,.d (.int .i64),.nil])),(4,(79,[.d (.int .i64),.d (.int .i64),.d (.int .i64),.d (.int .i64),.d (.int .i64),.d (.int .i64),.d (.lst .str),.d (.int .i64),.d (.lst (.prod .str .str))]))],[]⟩
@[reducible] def q71:List (Exit×SSt):=[(.ret,⟨[(2,.one (.c (.box 2 0))),(3,.one (.c (.d .any)))],[(2,(79,[.d (.int .i64),.d (.int .i64),.d (.int .i64),.d (.int .i64),.d (.int .i64),.d (.int .i64),.nil,.d (.int .i64),.nil]))],[]⟩),(.exit 0,⟨[(2,.one (.c (.box 2 0))),(4,.one (.c (.box 4 0)))],[(2,(79,[.d (.int .i64),.d (.int .i64),.d (.int .i64),.d (.int .i64),.d (.int .i64),.d (.int .i64),.nil,.d (.int .i64),.nil])),(4,(79,[.d (.int .i64),.d (.int .i64),.d (.int .i64),.d (.int .i64),.d (.int .i64),.d (.int .i64),.d (.lst .str),.d (.int .i64),.d (.lst (.prod .str .str))]))],[]⟩)]
def qoa (n:Nat) (rec:(List (List UInt8))->Int->Int->Int->Int->Int->Int->Int->Int->Int->Int->Int->Int->Int->Int->Int->(List (List UInt8))->Int->(List (List UInt8×(List UInt8)))->Option (((Unit×(IV×(Unit)))×((Int×(Int×(Int×(Int×(Int×(Int×(Unit×(Int×(Unit)))))))))×(Unit))×(Unit))⊕((Unit×(Unit×(Unit)))×((Int×(Int×(Int×(Int×(Int×(Int×(Unit×(Int×(Unit)))))))))×((Int×(Int×(Int×(Int×(Int×(Int×((List (List UInt8))×(Int×(List (List UInt8×(List UInt8)))))))))))×(Unit)))×(Unit)))) (a1:List (List UInt8)) (a2:Int) (a3:Int) (a4:Int) (a5:Int) (a6:Int) (a7:Int) (a8:Int) (a9:Int) (a10:Int) (a11:Int) (a12:Int) (a13:Int) (a14:Int) (a15:Int) (a16:Int) (a17:List (List UInt8)) (a18:Int) (a19:List (List UInt8×(List UInt8))):Option (((Unit×(IV×(Unit)))×((Int×(Int×(Int×(Int×(Int×(Int×(Unit×(Int×(Unit)))))))))×(Unit))×(Unit))⊕((Unit×(Unit×(Unit)))×((Int×(Int×(Int×(Int×(Int×(Int×(Unit×(Int×(Unit)))))))))×((Int×(Int×(Int×(Int×(Int×(Int×((List (List UInt8))×(Int×(List (List UInt8×(List UInt8)))))))))))×(Unit)))×(Unit))) :=
 (bif decide (a3<a2) then (q1a a1 a3).bind fun (x4:List UInt8)=>(qbm n a19 x4).bind fun (r5:(List (List UInt8×(List UInt8)))×(IV))=>(q5s (Subtype.val r5.2)).bind fun (b6:Bool)=>(bif !b6 then some (Sum.inl (((),((jdw 120 (Value.agg ⟨[(Value.int .i64 a3),(Subtype.val r5.2)]⟩)),())),((((0:Int),((0:Int),((0:Int),((0:Int),((0:Int),((0:Int),((),((0:Int),())))))))),()),()))) else q0n (IntKind.wrap .i64 (a3+(1:Int))) fun (n7:Int)=>rec a1 a2 n7 a4 a5 a6 a7 a8 a9 a10 a11 a12 a13 a14 a15 a16 a17 a18 r5.1) else some (Sum.inr ((((),((),())),(((a4,(a5,(a6,(a7,(a8,(a9,((),(a10,())))))))),((a11,(a12,(a13,(a14,(a15,(a16,(a17,(a18,a19)))))))),())),())))))
def qns (n:Nat) (rec:pSt qbk->Option (q1m q71)) (p:pSt qbk):Option (q1m q71):=qoa n (fun a1 a2 a3 a4 a5 a6 a7 a8 a9 a10 a11 a12 a13 a14 a15 a16 a17 a18 a19=>rec (((),((),(a1,(a2,(a3,()))))),(((a4,(a5,(a6,(a7,(a8,(a9,((),(a10,())))))))),((a11,(a12,(a13,(a14,(a15,(a16,(a17,(a18,a19)))))))),())),()))) p.1.2.2.1 p.1.2.2.2.1 p.1.2.2.2.2.1 p.2.1.1.1 p.2.1.1.2.1 p.2.1.1.2.2.1 p.2.1.1.2.2.2.1 p.2.1.1.2.2.2.2.1 p.2.1.1.2.2.2.2.2.1 p.2.1.1.2.2.2.2.2.2.2.1 p.2.1.2.1.1 p.2.1.2.1.2.1 p.2.1.2.1.2.2.1 p.2.1.2.1.2.2.2.1 p.2.1.2.1.2.2.2.2.1 p.2.1.2.1.2.2.2.2.2.1 p.2.1.2.1.2.2.2.2.2.2.1 p.2.1.2.1.2.2.2.2.2.2.2.1 p.2.1.2.1.2.2.2.2.2.2.2.2
def q58 (n m:Nat) (a1:List (List UInt8)) (a2:Int) (a3:Int) (a4:Int) (a5:Int) (a6:Int) (a7:Int) (a8:Int) (a9:Int) (a10:Int) (a11:Int) (a12:Int) (a13:Int) (a14:Int) (a15:Int) (a16:Int) (a17:List (List UInt8)) (a18:Int) (a19:List (List UInt8×(List UInt8))):Option (((Unit×(IV×(Unit)))×((Int×(Int×(Int×(Int×(Int×(Int×(Unit×(Int×(Unit)))))))))×(Unit))×(Unit))⊕((Unit×(Unit×(Unit)))×((Int×(Int×(Int×(Int×(Int×(Int×(Unit×(Int×(Unit)))))))))×((Int×(Int×(Int×(Int×(Int×(Int×((List (List UInt8))×(Int×(List (List UInt8×(List UInt8)))))))))))×(Unit)))×(Unit))):=q1s (qns n) m (((),((),(a1,(a2,(a3,()))))),(((a4,(a5,(a6,(a7,(a8,(a9,((),(a10,())))))))),((a11,(a12,(a13,(a14,(a15,(a16,(a17,(a18,a19)))))))),())),()))
theorem qfo (n m:Nat) (a1:List (List UInt8)) (a2:Int) (a3:Int) (a4:Int) (a5:Int) (a6:Int) (a7:Int) (a8:Int) (a9:Int) (a10:Int) (a11:Int) (a12:Int) (a13:Int) (a14:Int) (a15:Int) (a16:Int) (a17:List (List UInt8)) (a18:Int) (a19:List (List UInt8×(List UInt8))):q58 n (m+1) a1 a2 a3 a4 a5 a6 a7 a8 a9 a10 a11 a12 a13 a14 a15 a16 a17 a18 a19=qoa n (fun a1 a2 a3 a4 a5 a6 a7 a8 a9 a10 a11 a12 a13 a14 a15 a16 a17 a18 a19=>q58 n m a1 a2 a3 a4 a5 a6 a7 a8 a9 a10 a11 a12 a13 a14 a15 a16 a17 a18 a19) a1 a2 a3 a4 a5 a6 a7 a8 a9 a10 a11 a12 a13 a14 a15 a16 a17 a18 a19:=rfl
def j0m (n:Nat):LC:={ sh:=qbk,outs:=q71,F:=q1s (qns n) n }
def qhi (n:Nat):List LC:=[j0m n]
def qev (n:Nat) (a1:(List (List UInt8))×(List ((Int)×(List UInt8)))):Option ((Int×(Int×(Int×(Int×(Int×(Int×((List (List UInt8))×(Int×(List (List UInt8×(List UInt8)))))))))))×(IV)) :=
 (ji6 a1).bind fun (r1:Bool)=>(bif !r1 then some (((0:Int),((0:Int),((0:Int),((0:Int),((0:Int),((0:Int),([],((0:Int),[])))))))),(jdw 114 (Value.agg ⟨[(Value.int .i64 (1:Int))]⟩))) else (bif decide (((List.length a1.1:Nat):Int)<(8:Int)) then some (((0:Int),((0:Int),((0:Int),((0:Int),((0:Int),((0:Int),([],((0:Int),[])))))))),(jdw 114 (Value.agg ⟨[(Value.int .i64 (1:Int))]⟩))) else (qcy n ((List.length a1.1:Nat):Int)).bind fun (r2:Int×(Int×(Int×(Int))))=>(qcf n r2 a1).bind fun (r3:Int×((Int×((List (List UInt8))×(Int)))×(Bool)))=>(bif !r3.2.2 then some (((0:Int),((0:Int),((0:Int),((0:Int),((0:Int),((0:Int),([],((0:Int),[])))))))),(jdw 114 (Value.agg ⟨[(Value.int .i64 (5:Int))]⟩))) else (q58 n n r3.2.1.2.1 ((List.length r3.2.1.2.1:Nat):Int) (0:Int) (0:Int) (0:Int) (0:Int) (0:Int) (0:Int) (0:Int) (0:Int) r2.1 r2.2.1 r2.2.2.1 r2.2.2.2 r3.1 r3.2.1.1 r3.2.1.2.1 r3.2.1.2.2 []).bind fun (o8:((Unit×(IV×(Unit)))×((Int×(Int×(Int×(Int×(Int×(Int×(Unit×(Int×(Unit)))))))))×(Unit))×(Unit))⊕((Unit×(Unit×(Unit)))×((Int×(Int×(Int×(Int×(Int×(Int×(Unit×(Int×(Unit)))))))))×((Int×(Int×(Int×(Int×(Int×(Int×((List (List UInt8))×(Int×(List (List UInt8×(List UInt8)))))))))))×(Unit)))×(Unit)))=>Sum.elim (fun (q9:(Unit×(IV×(Unit)))×((Int×(Int×(Int×(Int×(Int×(Int×(Unit×(Int×(Unit)))))))))×(Unit))×(Unit))=>some ((q9.2.1.1.1,(q9.2.1.1.2.1,(q9.2.1.1.2.2.1,(q9.2.1.1.2.2.2.1,(q9.2.1.1.2.2.2.2.1,(q9.2.1.1.2.2.2.2.2.1,([],(q9.2.1.1.2.2.2.2.2.2.2.1,[])))))))),q9.1.2.1)) (fun (q10:(Unit×(Unit×(Unit)))×((Int×(Int×(Int×(Int×(Int×(Int×(Unit×(Int×(Unit)))))))))×((Int×(Int×(Int×(Int×(Int×(Int×((List (List UInt8))×(Int×(List (List UInt8×(List UInt8)))))))))))×(Unit)))×(Unit))=>some (q10.2.1.2.1,j1d)) o8)))
def q7e (n:Nat):FC:={ f:=33,args:=[.one (.agg [.d (.lst .str),.d (.lst (.prod (.int .i64) .str))])],res:=.tup [.agg [.d (.int .i64),.d (.int .i64),.d (.int .i64),.d (.int .i64),.d (.int .i64),.d (.int .i64),.d (.lst .str),.d (.int .i64),.d (.lst (.prod .str .str))],.c (.d .any)],F:=fun p=>qev n p }
def qpg (n:Nat):List FC:=[jer,q6d n,q6f n,q6e n]
theorem ql9 (n:Nat) {G:World->Prop} (hG:Know Inv G) : ∀c∈qpg n,q3s Tryz.prog G c/\q1j c.args=true:=List.forall_mem_cons.2 ⟨jjl G hG,List.forall_mem_cons.2 ⟨qrv n G hG,List.forall_mem_cons.2 ⟨j3a n G hG,List.forall_mem_cons.2 ⟨j1c n G hG,(fun _ h=>by cases h)⟩⟩⟩⟩
def qn3:q1h:=[]
theorem j05:drB qn3 (q0b Tryz.f33)=true:=by kernel_rfl
theorem j7p (n:Nat) : ∀rec p,qns n rec p=round Tryz.prog 69 (qpg n) (qhi n) qn3 1 qbk q71 (q0h 0 0 (q0b Tryz.f33)) rec p:=by intro rec p;kernel_rfl
theorem j2n (n:Nat) {F:Fr} (hF:F.n=69) (hK:Know Inv F.G):qfl Tryz.prog F (j0m n) (q0h 0 0 (q0b Tryz.f33)) :=
 q1y hF (by kernel_rfl) (ql9 n hK) (j7p n) (fuel:=n) (fun _=>rfl) (q0r fun j L h1 h2 h3=>absurd h2 (Nat.not_lt.2 (Nat.le_trans (by decide +kernel) h1))) (q37 j05)
theorem jah (n:Nat) : ∀a,(q7e n).F a=main Tryz.prog 69 (qpg n) (qhi n) qn3 (q0b Tryz.f33) [.cell 2 79,.tmp 3] (q7e n).args (q7e n).res a:=by intro a;kernel_rfl
theorem qox (n:Nat):q18 Inv Tryz.prog (q7e n):=fun G hG=>⟨⟨by kernel_rfl,fun a r h=>q0u (c:=q0b Tryz.f33) Tryz.func33 (by kernel_rfl) (by kernel_rfl) (Nat.le_of_ble_eq_true (by kernel_rfl)) hG.st (by kernel_rfl) (rs:=[.cell 2 79,.tmp 3]) (by kernel_rfl) (ql9 n hG) (lts:=qhi n) (fun F hF hFG=>have hK:Know Inv F.G:=hFG ▸ hG;(q0r (c:=(q0b Tryz.f33)) (fun j L h1 h2 h3=>by
  have h2':j<1:=Nat.lt_of_lt_of_le h2 (by decide +kernel)
  match j,h1,h2',h3 with
  | 0,_,_,h3=>obtain rfl:=Option.some.inj h3;exact (show q0h 0 0 (q0b Tryz.f33)=q0h 0 0 (q0b Tryz.f33) by kernel_rfl) ▸ j2n n hF hK
  | j+1,_,h2',_=>exact absurd h2' (by omega)))) j05 ((jah n a).symm.trans h)⟩,rfl⟩
end Go.Proofs.YthpgnliicpejoaaGreatDoor.AM
namespace Go.Proofs
open Go.RowKit
set_option linter.unusedVariables false
set_option linter.unusedSimpArgs false
namespace YthpgnliicpejoaaGreatDoor.AM
end YthpgnliicpejoaaGreatDoor.AM
end Go.Proofs
