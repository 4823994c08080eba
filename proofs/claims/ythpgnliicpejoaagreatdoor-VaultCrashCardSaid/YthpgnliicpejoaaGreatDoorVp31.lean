
import Derived.Test.YthpgnliicpejoaaGreatDoorVp30
import Derived.Test.YthpgnliicpejoaaGreatDoorVp15
import Derived.Test.YthpgnliicpejoaaGreatDoorVp20
import Derived.Test.YthpgnliicpejoaaGreatDoorVp27
import Derived.Test.YthpgnliicpejoaaGreatDoorVp19
import Derived.Test.YthpgnliicpejoaaGreatDoorVp18
import Derived.Test.YthpgnliicpejoaaGreatDoorVp9
namespace Go.Proofs
open Go.RowKit Go.Shelf Go.Lib
set_option linter.unusedVariables false
set_option linter.unusedSimpArgs false
namespace YthpgnliicpejoaaGreatDoor.AM
theorem jda (n:Int) (tb:Nat) (old:Value) (w:World) (hI:Inv w) (ht0:w.cell? ⟨tb,0,none⟩=some old) (hf0:w.frozen? ⟨tb,0,none⟩=false) :
  Calls Tryz.prog 64 #[.iface 114 (.agg #[.int .i64 n]),.iface 123 (.pointer (some ⟨tb,0,none⟩))] w fun ev w'=>ev = .returned (.bool true)/\Below tb w w'/\w'.cell? ⟨tb,0,none⟩=some (.int .i64 n):=by
 have htl:tb<w.heap.size:=World.block_lt_of_cell? _ _ ht0
 refine (jg4 n tb old w hI.errT ht0 hf0).mono ?_
 rintro ev w' ⟨rfl,rfl⟩
 refine ⟨rfl,Below.setCell (p:=⟨tb,0,none⟩) ?_ (Nat.le_refl tb) _,?_⟩
 ·exact ((((Below.refl _ _).alloc (by omega) _).alloc (by simp;omega) _).alloc (by simp;omega) _).alloc (by simp;omega) _
 refine World.cell?_setCell_same _ _ _ (u:=old) ?_
 rw [World.cell?_alloc_lt _ _ ⟨tb,0,none⟩ (by simp;omega),World.cell?_alloc_lt _ _ ⟨tb,0,none⟩ (by simp;omega),World.cell?_alloc_lt _ _ ⟨tb,0,none⟩ (by simp;omega),World.cell?_alloc_lt _ _ ⟨tb,0,none⟩ htl,ht0]
theorem j9x (n:Int) (c:Value) (h1:c.oneCell'=true) (tb:Nat) (old old':Value) (w:World) (hI:Inv w) (ht0:w.cell? ⟨tb,0,none⟩=some old) (hf0:w.frozen? ⟨tb,0,none⟩=false) (ht0':w.cell? ⟨tb,1,none⟩=some old') (hf0':w.frozen? ⟨tb,1,none⟩=false) :
  Calls Tryz.prog 64 #[.iface 120 (.agg #[.int .i64 n,c]),.iface 122 (.pointer (some ⟨tb,0,none⟩))] w fun ev w'=>ev = .returned (.bool true)/\Below tb w w':=by
 have htl:tb<w.heap.size:=World.block_lt_of_cell? _ _ ht0
 refine (jh7 n c h1 tb old old' w hI.errT ht0 hf0 ht0' hf0').mono ?_
 rintro ev w' ⟨rfl,rfl⟩
 refine ⟨rfl,Below.setCell (p:=⟨tb,1,none⟩) (Below.setCell (p:=⟨tb,0,none⟩) ?_ (Nat.le_refl tb) _) (Nat.le_refl tb) _⟩
 exact ((((Below.refl _ _).alloc (by omega) _).alloc (by simp;omega) _).alloc (by simp;omega) _).alloc (by simp;omega) _
theorem j2q (n:Int) (tb:Nat) (old:Value) (w:World) (hI:Inv w) (ht0:w.cell? ⟨tb,0,none⟩=some old) (hf0:w.frozen? ⟨tb,0,none⟩=false) :
  Calls Tryz.prog 64 #[.iface 114 (.agg #[.int .i64 n]),.iface 122 (.pointer (some ⟨tb,0,none⟩))] w fun ev w'=>ev = .returned (.bool false)/\Below w.heap.size w w':=by
 refine (j6e n tb old w hI.errT ht0 hf0).mono ?_
 rintro ev w' ⟨rfl,rfl⟩
 exact ⟨rfl,(((Below.refl _ _).alloc (by omega) _).alloc (by simp) _).alloc (by simp;omega) _⟩
theorem jcc (n:Int) (w:World) (hI:Inv w):Calls Tryz.prog 34 #[.iface 114 (.agg #[.int .i64 n])] w fun e w'=>e = .returned (.int .i64 n)/\Below w.heap.size w w':=by
 go_enter Tryz.func34,Tryz.ntmps34
 go_wp2_with fail
 have b1:Below w.heap.size w (w.alloc (.cells #[.int .i64 0,.nilIface] 120)):=(Below.refl _ _).alloc (Nat.le_refl _) _
 refine (j2q n w.heap.size (.int .i64 0) _ (hI.below b1) (by simp) (by simp)).mono ?_
 rintro e w1 ⟨rfl,b2⟩
 have b2':=b1.trans (b2.mono (by simp))
 go_wp2_with fail
 have b3:Below w.heap.size w (w1.alloc (.cells #[.int .i64 0] 114)):=b2'.alloc b2'.size _
 refine (jda n w1.heap.size (.int .i64 0) _ (hI.below b3) (by simp) (by simp)).mono ?_
 rintro e w2 ⟨rfl,b4,hc⟩
 go_wp2
 go_ret
 exact ⟨rfl,b3.trans (b4.mono b2'.size)⟩
theorem j2k (n:Int) (c:Value) (h1:c.oneCell'=true) (w:World) (hI:Inv w):Calls Tryz.prog 34 #[.iface 120 (.agg #[.int .i64 n,c])] w fun e w'=>e = .returned (.int .i64 4)/\Below w.heap.size w w':=by
 go_enter Tryz.func34,Tryz.ntmps34
 go_wp2_with fail
 have b1:Below w.heap.size w (w.alloc (.cells #[.int .i64 0,.nilIface] 120)):=(Below.refl _ _).alloc (Nat.le_refl _) _
 refine (j9x n c h1 w.heap.size (.int .i64 0) .nilIface _ (hI.below b1) (by simp) (by simp) (by simp) (by simp)).mono ?_
 rintro e w1 ⟨rfl,b2⟩
 go_wp2
 go_ret
 exact ⟨rfl,b1.trans b2⟩
def numV (v:Value):Option Int:=match v with
 | .iface T (.agg ⟨[.int .i64 n]⟩)=>bif Nat.beq T 114 then some n else none
 | .iface T (.agg ⟨[.int .i64 _,c]⟩)=>bif Nat.beq T 120&&c.oneCell' then some 4 else none
 | _=>none
def q6f (v:IV):Option Int:=numV (Subtype.val v)
def qed:FC:={ f:=34,args:=[.one (.c (.d .any))],res:=.one (.c (.d (.int .i64))),F:=q6f }
theorem qkv:q19 Inv Tryz.prog qed:=fun G hG=>⟨⟨by kernel_rfl,fun (a:IV) r h=>by
 intro Pc w vs hGw hlt hv
 have hI:Inv w:=hG.im w hGw
 obtain ⟨vl⟩:=vs
 match vl,hv with
 | [x],⟨q1,_⟩ =>
  obtain rfl:x=Subtype.val a:=q0n q1
  replace h:numV (Subtype.val a)=some r:=h
  unfold numV at h
  split at h
  ·rename_i T n hv
   cases hT:Nat.beq T 114 with
   | false=>rw [hT] at h;cases h
   | true =>
    rw [hT] at h
    obtain rfl:n=r:=Option.some.inj h
    obtain rfl:=Nat.eq_of_beq_eq_true hT
    rw [hv]
    refine (jcc n w hI).mono ?_
    rintro e w' ⟨rfl,b⟩
    exact qcx rfl b (q0m (σ:=q2i) (.int .i64 _))
  ·rename_i T n c hv
   cases hT:(Nat.beq T 120&&c.oneCell') with
   | false=>rw [hT] at h;cases h
   | true =>
    rw [hT] at h
    obtain rfl:(4:Int)=r:=Option.some.inj h
    obtain ⟨h1,h2⟩:=Bool.and_eq_true_iff.1 hT
    obtain rfl:=Nat.eq_of_beq_eq_true h1
    rw [hv]
    refine (j2k n c h2 w hI).mono ?_
    rintro e w' ⟨rfl,b⟩
    exact qcx rfl b (q0m (σ:=q2i) (.int .i64 4))
  ·cases h⟩,rfl⟩
end YthpgnliicpejoaaGreatDoor.AM
end Go.Proofs
namespace Go.Proofs.YthpgnliicpejoaaGreatDoor.AM
open Go.RowKit
set_option linter.unusedVariables false
set_option maxRecDepth 20000
def qlj (n:Nat):List LC:=[]
def qax (n:Nat) (a1:Int):Option (Int×(Int×(Int×(Int)))) :=
 (jg9 .i64 a1 (2:Int)).bind fun (n1:Int)=>(jg9 .i64 a1 (2:Int)).bind fun (n2:Int)=>(jg9 .i64 a1 (2:Int)).bind fun (n3:Int)=>q0u (IntKind.wrap .i64 (a1 - n3)) fun (n4:Int)=>some ((0:Int),(n1,(n2,n4)))
def q5z (n:Nat):FC:={ f:=46,args:=[.one (.c (.d (.int .i64)))],res:=.one (.agg [.d (.int .i64),.d (.int .i64),.d (.int .i64),.d (.int .i64)]),F:=fun p=>qax n p }
def qqp (n:Nat):List FC:=[]
theorem qv5 (n:Nat) {G:World->Prop} (hG:Know Inv G) : ∀c∈qqp n,q3s Tryz.prog G c/\q1k c.args=true:=(fun _ h=>by cases h)
def qsv:q1h:=[]
theorem j4y:drB qsv (q0d Tryz.f46)=true:=by kernel_rfl
theorem j8t (n:Nat) : ∀a,(q5z n).F a=main Tryz.prog 14 (qqp n) (qlj n) qsv (q0d Tryz.f46) [.cell 2 75] (q5z n).args (q5z n).res a:=by intro a;kernel_rfl
theorem qsz (n:Nat):q19 Inv Tryz.prog (q5z n):=fun G hG=>⟨⟨by kernel_rfl,fun a r h=>q0s (c:=q0d Tryz.f46) Tryz.func46 (by kernel_rfl) (by kernel_rfl) (Nat.le_of_ble_eq_true (by kernel_rfl)) hG.st (by kernel_rfl) (rs:=[.cell 2 75]) (by kernel_rfl) (qv5 n hG) (lts:=qlj n) (fun F hF hFG=>have hK:Know Inv F.G:=hFG ▸ hG;(q0p fun j L h1 h2 h3=>absurd h2 (Nat.not_lt.2 (Nat.le_trans (by decide +kernel) h1)))) j4y ((j8t n a).symm.trans h)⟩,rfl⟩
def qhl (n:Nat):List LC:=[]
def qbt (n:Nat) (a1:List (List UInt8×(List UInt8))) (a2:List UInt8):Option ((List (List UInt8×(List UInt8)))×(IV)) :=
 (qq3 a2).bind fun (r1:(List ((Bool)×(List UInt8×(List UInt8))))×(Int))=>(bif !decide (r1.2=(0:Int)) then some ([],(jeo 114 (Value.agg ⟨[(Value.int .i64 r1.2)]⟩))) else (q7a a1 r1.1).bind fun (r2:(List (List UInt8×(List UInt8)))×(Int))=>(bif !decide (r2.2=(0:Int)) then some ([],(jeo 114 (Value.agg ⟨[(Value.int .i64 r2.2)]⟩))) else some (r2.1,j23)))
def q65 (n:Nat):FC:={ f:=63,args:=[.one (.c (.d (.lst (.prod .str .str)))),.one (.c (.d .str))],res:=.tup [.c (.d (.lst (.prod .str .str))),.c (.d .any)],F:=fun p=>qbt n p.1 p.2 }
def qld (n:Nat):List FC:=[j4w,qib]
theorem qq9 (n:Nat) {G:World->Prop} (hG:Know Inv G) : ∀c∈qld n,q3s Tryz.prog G c/\q1k c.args=true:=List.forall_mem_cons.2 ⟨jfm G hG,List.forall_mem_cons.2 ⟨qsc G hG,(fun _ h=>by cases h)⟩⟩
def qkq:q1h:=[]
theorem j0e:drB qkq (q0d Tryz.f63)=true:=by kernel_rfl
theorem j24 (n:Nat) : ∀a,(q65 n).F a=main Tryz.prog 31 (qld n) (qhl n) qkq (q0d Tryz.f63) [.tmp 4,.tmp 5] (q65 n).args (q65 n).res a:=by intro a;kernel_rfl
theorem j18 (n:Nat):q19 Inv Tryz.prog (q65 n):=fun G hG=>⟨⟨by kernel_rfl,fun a r h=>q0s (c:=q0d Tryz.f63) Tryz.func63 (by kernel_rfl) (by kernel_rfl) (Nat.le_of_ble_eq_true (by kernel_rfl)) hG.st (by kernel_rfl) (rs:=[.tmp 4,.tmp 5]) (by kernel_rfl) (qq9 n hG) (lts:=qhl n) (fun F hF hFG=>have hK:Know Inv F.G:=hFG ▸ hG;(q0p fun j L h1 h2 h3=>absurd h2 (Nat.not_lt.2 (Nat.le_trans (by decide +kernel) h1)))) j0e ((j24 n a).symm.trans h)⟩,rfl⟩
@[reducible] def q7c:SSt:=⟨[(3,.one (.c (.box 3 0))),(5,.one (.c (.box 5 0))),(7,.one (.c (.d (.int .i64)))),(8,.one (.c (.box 8 0))),(9,.one (.c (.d .bool))),(15,.one (.agg [.d (.int .i64),.d (.int .i64),.d (.int .i64),.d (.int .i64)])),(16,.one (.c (.d (.int .i64))))],[(3,(25,[.d (.lst .str),.d (.lst (.prod (.int .i64) .str))])),(5,(77,[.d (.int .i64),.nil,.d (.int .i64)])),(8,(77,[.d (.int .i64),.d (.lst .str),.d (.int .i64)]))],[]⟩
@[reducible] def q4p:List (Exit×SSt):=[(.exit 0,⟨[(5,.one (.c (.box 5 0))),(7,.one (.c (.d (.int .i64)))),(8,.one (.c (.box 8 0))),(9,.one (.c (.d .bool)))],[(5,(77,[.d (.int .i64),.nil,.d (.int .i64)])),(8,(77,[.d (.int .i64),.d (.lst .str),.d (.int .i64)]))],[]⟩)]
def q2n (n:Nat) (rec:Int->Bool->Int->Int->Int->Int->Int->(List (List UInt8))->(List ((Int)×(List UInt8)))->Int->Int->Int->(List (List UInt8))->Int->Option ((Unit×(Int×(Unit×(Bool×(Unit)))))×((Int×(Unit×(Int)))×((Int×((List (List UInt8))×(Int)))×(Unit)))×(Unit))) (a1:Int) (a2:Bool) (a3:Int) (a4:Int) (a5:Int) (a6:Int) (a7:Int) (a8:List (List UInt8)) (a9:List ((Int)×(List UInt8))) (a10:Int) (a11:Int) (a12:Int) (a13:List (List UInt8)) (a14:Int):Option ((Unit×(Int×(Unit×(Bool×(Unit)))))×((Int×(Unit×(Int)))×((Int×((List (List UInt8))×(Int)))×(Unit)))×(Unit)) :=
 (bif decide (a7<(2:Int)) then (if a7=0 then (qih n (a8,a9) (a3,a4)).bind fun (r1:(Int×((List (List UInt8))×(Int)))×(Int))=>(bif decide (r1.2=(0:Int)) then (bif !a2 then q0u (IntKind.wrap .i64 (a7+(1:Int))) fun (n2:Int)=>rec a7 true a3 a4 a5 a6 n2 a8 a9 a10 a11 r1.1.1 r1.1.2.1 r1.1.2.2 else (bif decide (a12<r1.1.1) then q0u (IntKind.wrap .i64 (a7+(1:Int))) fun (n3:Int)=>rec a7 true a3 a4 a5 a6 n3 a8 a9 a10 a11 r1.1.1 r1.1.2.1 r1.1.2.2 else q0u (IntKind.wrap .i64 (a7+(1:Int))) fun (n4:Int)=>rec a1 a2 a3 a4 a5 a6 n4 a8 a9 a10 a11 a12 a13 a14)) else q0u (IntKind.wrap .i64 (a7+(1:Int))) fun (n5:Int)=>rec a1 a2 a3 a4 a5 a6 n5 a8 a9 a10 a11 a12 a13 a14) else if a7=1 then (qih n (a8,a9) (a5,a6)).bind fun (r6:(Int×((List (List UInt8))×(Int)))×(Int))=>(bif decide (r6.2=(0:Int)) then (bif !a2 then q0u (IntKind.wrap .i64 (a7+(1:Int))) fun (n7:Int)=>rec a7 true a3 a4 a5 a6 n7 a8 a9 a10 a11 r6.1.1 r6.1.2.1 r6.1.2.2 else (bif decide (a12<r6.1.1) then q0u (IntKind.wrap .i64 (a7+(1:Int))) fun (n8:Int)=>rec a7 true a3 a4 a5 a6 n8 a8 a9 a10 a11 r6.1.1 r6.1.2.1 r6.1.2.2 else q0u (IntKind.wrap .i64 (a7+(1:Int))) fun (n9:Int)=>rec a1 a2 a3 a4 a5 a6 n9 a8 a9 a10 a11 a12 a13 a14)) else q0u (IntKind.wrap .i64 (a7+(1:Int))) fun (n10:Int)=>rec a1 a2 a3 a4 a5 a6 n10 a8 a9 a10 a11 a12 a13 a14) else none) else some ((((),(a1,((),(a2,())))),(((a10,((),a11)),((a12,(a13,a14)),())),()))))
def qds (n:Nat) (rec:pSt q7c->Option (q1l q4p)) (p:pSt q7c):Option (q1l q4p):=q2n n (fun a1 a2 a3 a4 a5 a6 a7 a8 a9 a10 a11 a12 a13 a14=>rec (((),((),(a1,((),(a2,((a3,(a4,(a5,a6))),(a7,()))))))),(((a8,a9),((a10,((),a11)),((a12,(a13,a14)),()))),()))) p.1.2.2.1 p.1.2.2.2.2.1 p.1.2.2.2.2.2.1.1 p.1.2.2.2.2.2.1.2.1 p.1.2.2.2.2.2.1.2.2.1 p.1.2.2.2.2.2.1.2.2.2 p.1.2.2.2.2.2.2.1 p.2.1.1.1 p.2.1.1.2 p.2.1.2.1.1 p.2.1.2.1.2.2 p.2.1.2.2.1.1 p.2.1.2.2.1.2.1 p.2.1.2.2.1.2.2
def q6z (n m:Nat) (a1:Int) (a2:Bool) (a3:Int) (a4:Int) (a5:Int) (a6:Int) (a7:Int) (a8:List (List UInt8)) (a9:List ((Int)×(List UInt8))) (a10:Int) (a11:Int) (a12:Int) (a13:List (List UInt8)) (a14:Int):Option ((Unit×(Int×(Unit×(Bool×(Unit)))))×((Int×(Unit×(Int)))×((Int×((List (List UInt8))×(Int)))×(Unit)))×(Unit)):=q1r (qds n) m (((),((),(a1,((),(a2,((a3,(a4,(a5,a6))),(a7,()))))))),(((a8,a9),((a10,((),a11)),((a12,(a13,a14)),()))),()))
theorem q16 (n m:Nat) (a1:Int) (a2:Bool) (a3:Int) (a4:Int) (a5:Int) (a6:Int) (a7:Int) (a8:List (List UInt8)) (a9:List ((Int)×(List UInt8))) (a10:Int) (a11:Int) (a12:Int) (a13:List (List UInt8)) (a14:Int):q6z n (m+1) a1 a2 a3 a4 a5 a6 a7 a8 a9 a10 a11 a12 a13 a14=q2n n (fun a1 a2 a3 a4 a5 a6 a7 a8 a9 a10 a11 a12 a13 a14=>q6z n m a1 a2 a3 a4 a5 a6 a7 a8 a9 a10 a11 a12 a13 a14) a1 a2 a3 a4 a5 a6 a7 a8 a9 a10 a11 a12 a13 a14:=rfl
def qko (n:Nat):LC:={ sh:=q7c,outs:=q4p,F:=q1r (qds n) n }
def q9v (n:Nat):List LC:=[qko n]
def qbi (n:Nat) (a1:Int×(Int×(Int×(Int)))) (a2:(List (List UInt8))×(List ((Int)×(List UInt8)))):Option (Int×((Int×((List (List UInt8))×(Int)))×(Bool))) :=
 (q6z n n (0:Int) false a1.1 a1.2.1 a1.2.2.1 a1.2.2.2 (0:Int) a2.1 a2.2 (0:Int) (0:Int) (0:Int) [] (0:Int)).bind fun (o11:(Unit×(Int×(Unit×(Bool×(Unit)))))×((Int×(Unit×(Int)))×((Int×((List (List UInt8))×(Int)))×(Unit)))×(Unit))=>some (o11.1.2.1,(o11.2.1.2.1,o11.1.2.2.2.1))
def q6b (n:Nat):FC:={ f:=62,args:=[.one (.agg [.d (.int .i64),.d (.int .i64),.d (.int .i64),.d (.int .i64)]),.one (.agg [.d (.lst .str),.d (.lst (.prod (.int .i64) .str))])],res:=.tup [.c (.d (.int .i64)),.agg [.d (.int .i64),.d (.lst .str),.d (.int .i64)],.c (.d .bool)],F:=fun p=>qbi n p.1 p.2 }
def qcu (n:Nat):List FC:=[qce n]
theorem qev (n:Nat) {G:World->Prop} (hG:Know Inv G) : ∀c∈qcu n,q3s Tryz.prog G c/\q1k c.args=true:=List.forall_mem_cons.2 ⟨jav n G hG,(fun _ h=>by cases h)⟩
def qeb:q1h:=[(7,[⟨928455029464035206174343169*2^30,2^117,0⟩,⟨116056878683004400771792899*2^36,2^120,0⟩,⟨39614081257132168796771975171*2^22,2^21,1⟩,⟨79228162514264337593543950339*2^24,2^25,7⟩,⟨3*2^28,2^27,15⟩]),(9,[⟨243388915243820045087367015432193*2^21,2^126,0⟩,⟨243388915243820045087367015432195*2^24,2^129,0⟩,⟨243388915243820045087367015432193*2^27,2^132,0⟩,⟨85070591730234615865843651857942077440,4096,1⟩,⟨680564733841876926926749214863536521216,65536,11⟩,⟨5444517870735015415413993718908292956160,2^18,31⟩])]
theorem ql3:drB qeb (q0d Tryz.f62)=true:=by kernel_rfl
theorem qug (n:Nat) : ∀rec p,qds n rec p=round Tryz.prog 45 (qcu n) (q9v n) qeb 1 q7c q4p (q0h 0 0 (q0d Tryz.f62)) rec p:=by intro rec p;kernel_rfl
theorem qs6 (n:Nat) {F:Fr} (hF:F.n=45) (hK:Know Inv F.G):qfv Tryz.prog F (qko n) (q0h 0 0 (q0d Tryz.f62)) :=
 q26 hF (by kernel_rfl) (qev n hK) (qug n) (fuel:=n) (fun _=>rfl) (q0p fun j L h1 h2 h3=>absurd h2 (Nat.not_lt.2 (Nat.le_trans (by decide +kernel) h1))) (q39 ql3)
theorem j0f (n:Nat) : ∀a,(q6b n).F a=main Tryz.prog 45 (qcu n) (q9v n) qeb (q0d Tryz.f62) [.tmp 4,.cell 5 77,.tmp 6] (q6b n).args (q6b n).res a:=by intro a;kernel_rfl
theorem j1g (n:Nat):q19 Inv Tryz.prog (q6b n):=fun G hG=>⟨⟨by kernel_rfl,fun a r h=>q0s (c:=q0d Tryz.f62) Tryz.func62 (by kernel_rfl) (by kernel_rfl) (Nat.le_of_ble_eq_true (by kernel_rfl)) hG.st (by kernel_rfl) (rs:=[.tmp 4,.cell 5 77,.tmp 6]) (by kernel_rfl) (qev n hG) (lts:=q9v n) (fun F hF hFG=>have hK:Know Inv F.G:=hFG ▸ hG;(q0p (c:=(q0d Tryz.f62)) (fun j L h1 h2 h3=>by
  have h2':j<1:=Nat.lt_of_lt_of_le h2 (by decide +kernel)
  match j,h1,h2',h3 with
  | 0,_,_,h3=>obtain rfl:=Option.some.inj h3;exact (show q0h 0 0 (q0d Tryz.f62)=q0h 0 0 (q0d Tryz.f62) by kernel_rfl) ▸ qs6 n hF hK
  | j+1,_,h2',_=>exact absurd h2' (by omega)))) ql3 ((j0f n a).symm.trans h)⟩,rfl⟩
@[reducible] def qas:SSt:=⟨[(2,.one (.c (.box 2 0))),(4,.one (.c (.box 4 0))),(44,.one (.c (.d (.lst .str)))),(45,.one (.c (.d (.int .i64)))),(46,.one (.c (.d (.int .i64))))],[(2,(79,[.d (.int .i64),.d (.int .i64),.d (.int .i64),.d (.int .i64),.d (.int .i64),.d (.int .i64),.nil,.d (.int .i64),.nil])),(4,(79,[.d (.int .i64),.d (.int .i64),.d (.int .i64),.d (.int .i64),.d (.int .i64),.d (.int .i64),.d (.lst .str),.d (.int .i64),.d (.lst (.prod .str .str))]))],[]⟩
@[reducible] def q6m:List (Exit×SSt):=[(.ret,⟨[(2,.one (.c (.box 2 0))),(3,.one (.c (.d .any)))],[(2,(79,[.d (.int .i64),.d (.int .i64),.d (.int .i64),.d (.int .i64),.d (.int .i64),.d (.int .i64),.nil,.d (.int .i64),.nil]))],[]⟩),(.exit 0,⟨[(2,.one (.c (.box 2 0))),(4,.one (.c (.box 4 0)))],[(2,(79,[.d (.int .i64),.d (.int .i64),.d (.int .i64),.d (.int .i64),.d (.int .i64),.d (.int .i64),.nil,.d (.int .i64),.nil])),(4,(79,[.d (.int .i64),.d (.int .i64),.d (.int .i64),.d (.int .i64),.d (.int .i64),.d (.int .i64),.d (.lst .str),.d (.int .i64),.d (.lst (.prod .str .str))]))],[]⟩)]
def qoz (n:Nat) (rec:(List (List UInt8))->Int->Int->Int->Int->Int->Int->Int->Int->Int->Int->Int->Int->Int->Int->Int->(List (List UInt8))->Int->(List (List UInt8×(List UInt8)))->Option (((Unit×(IV×(Unit)))×((Int×(Int×(Int×(Int×(Int×(Int×(Unit×(Int×(Unit)))))))))×(Unit))×(Unit))⊕((Unit×(Unit×(Unit)))×((Int×(Int×(Int×(Int×(Int×(Int×(Unit×(Int×(Unit)))))))))×((Int×(Int×(Int×(Int×(Int×(Int×((List (List UInt8))×(Int×(List (List UInt8×(List UInt8)))))))))))×(Unit)))×(Unit)))) (a1:List (List UInt8)) (a2:Int) (a3:Int) (a4:Int) (a5:Int) (a6:Int) (a7:Int) (a8:Int) (a9:Int) (a10:Int) (a11:Int) (a12:Int) (a13:Int) (a14:Int) (a15:Int) (a16:Int) (a17:List (List UInt8)) (a18:Int) (a19:List (List UInt8×(List UInt8))):Option (((Unit×(IV×(Unit)))×((Int×(Int×(Int×(Int×(Int×(Int×(Unit×(Int×(Unit)))))))))×(Unit))×(Unit))⊕((Unit×(Unit×(Unit)))×((Int×(Int×(Int×(Int×(Int×(Int×(Unit×(Int×(Unit)))))))))×((Int×(Int×(Int×(Int×(Int×(Int×((List (List UInt8))×(Int×(List (List UInt8×(List UInt8)))))))))))×(Unit)))×(Unit))) :=
 (bif decide (a3<a2) then (q21 a1 a3).bind fun (x4:List UInt8)=>(qbt n a19 x4).bind fun (r5:(List (List UInt8×(List UInt8)))×(IV))=>(q5e (Subtype.val r5.2)).bind fun (b6:Bool)=>(bif !b6 then some (Sum.inl (((),((jeo 120 (Value.agg ⟨[(Value.int .i64 a3),(Subtype.val r5.2)]⟩)),())),((((0:Int),((0:Int),((0:Int),((0:Int),((0:Int),((0:Int),((),((0:Int),())))))))),()),()))) else q0u (IntKind.wrap .i64 (a3+(1:Int))) fun (n7:Int)=>rec a1 a2 n7 a4 a5 a6 a7 a8 a9 a10 a11 a12 a13 a14 a15 a16 a17 a18 r5.1) else some (Sum.inr ((((),((),())),(((a4,(a5,(a6,(a7,(a8,(a9,((),(a10,())))))))),((a11,(a12,(a13,(a14,(a15,(a16,(a17,(a18,a19)))))))),())),())))))
def qny (n:Nat) (rec:pSt qas->Option (q1l q6m)) (p:pSt qas):Option (q1l q6m):=qoz n (fun a1 a2 a3 a4 a5 a6 a7 a8 a9 a10 a11 a12 a13 a14 a15 a16 a17 a18 a19=>rec (((),((),(a1,(a2,(a3,()))))),(((a4,(a5,(a6,(a7,(a8,(a9,((),(a10,())))))))),((a11,(a12,(a13,(a14,(a15,(a16,(a17,(a18,a19)))))))),())),()))) p.1.2.2.1 p.1.2.2.2.1 p.1.2.2.2.2.1 p.2.1.1.1 p.2.1.1.2.1 p.2.1.1.2.2.1 p.2.1.1.2.2.2.1 p.2.1.1.2.2.2.2.1 p.2.1.1.2.2.2.2.2.1 p.2.1.1.2.2.2.2.2.2.2.1 p.2.1.2.1.1 p.2.1.2.1.2.1 p.2.1.2.1.2.2.1 p.2.1.2.1.2.2.2.1 p.2.1.2.1.2.2.2.2.1 p.2.1.2.1.2.2.2.2.2.1 p.2.1.2.1.2.2.2.2.2.2.1 p.2.1.2.1.2.2.2.2.2.2.2.1 p.2.1.2.1.2.2.2.2.2.2.2.2
def q58 (n m:Nat) (a1:List (List UInt8)) (a2:Int) (a3:Int) (a4:Int) (a5:Int) (a6:Int) (a7:Int) (a8:Int) (a9:Int) (a10:Int) (a11:Int) (a12:Int) (a13:Int) (a14:Int) (a15:Int) (a16:Int) (a17:List (List UInt8)) (a18:Int) (a19:List (List UInt8×(List UInt8))):Option (((Unit×(IV×(Unit)))×((Int×(Int×(Int×(Int×(Int×(Int×(Unit×(Int×(Unit)))))))))×(Unit))×(Unit))⊕((Unit×(Unit×(Unit)))×((Int×(Int×(Int×(Int×(Int×(Int×(Unit×(Int×(Unit)))))))))×((Int×(Int×(Int×(Int×(Int×(Int×((List (List UInt8))×(Int×(List (List UInt8×(List UInt8)))))))))))×(Unit)))×(Unit))):=q1r (qny n) m (((),((),(a1,(a2,(a3,()))))),(((a4,(a5,(a6,(a7,(a8,(a9,((),(a10,())))))))),((a11,(a12,(a13,(a14,(a15,(a16,(a17,(a18,a19)))))))),())),()))
theorem qf8 (n m:Nat) (a1:List (List UInt8)) (a2:Int) (a3:Int) (a4:Int) (a5:Int) (a6:Int) (a7:Int) (a8:Int) (a9:Int) (a10:Int) (a11:Int) (a12:Int) (a13:Int) (a14:Int) (a15:Int) (a16:Int) (a17:List (List UInt8)) (a18:Int) (a19:List (List UInt8×(List UInt8))):q58 n (m+1) a1 a2 a3 a4 a5 a6 a7 a8 a9 a10 a11 a12 a13 a14 a15 a16 a17 a18 a19=qoz n (fun a1 a2 a3 a4 a5 a6 a7 a8 a9 a10 a11 a12 a13 a14 a15 a16 a17 a18 a19=>q58 n m a1 a2 a3 a4 a5 a6 a7 a8 a9 a10 a11 a12 a13 a14 a15 a16 a17 a18 a19) a1 a2 a3 a4 a5 a6 a7 a8 a9 a10 a11 a12 a13 a14 a15 a16 a17 a18 a19:=rfl
def qx9 (n:Nat):LC:={ sh:=qas,outs:=q6m,F:=q1r (qny n) n }
def qj0 (n:Nat):List LC:=[qx9 n]
def qdr (n:Nat) (a1:(List (List UInt8))×(List ((Int)×(List UInt8)))):Option ((Int×(Int×(Int×(Int×(Int×(Int×((List (List UInt8))×(Int×(List (List UInt8×(List UInt8)))))))))))×(IV)) :=
 (jf4 a1).bind fun (r1:Bool)=>(bif !r1 then some (((0:Int),((0:Int),((0:Int),((0:Int),((0:Int),((0:Int),([],((0:Int),[])))))))),(jeo 114 (Value.agg ⟨[(Value.int .i64 (1:Int))]⟩))) else (bif decide (((List.length a1.1:Nat):Int)<(8:Int)) then some (((0:Int),((0:Int),((0:Int),((0:Int),((0:Int),((0:Int),([],((0:Int),[])))))))),(jeo 114 (Value.agg ⟨[(Value.int .i64 (1:Int))]⟩))) else (qax n ((List.length a1.1:Nat):Int)).bind fun (r2:Int×(Int×(Int×(Int))))=>(qbi n r2 a1).bind fun (r3:Int×((Int×((List (List UInt8))×(Int)))×(Bool)))=>(bif !r3.2.2 then some (((0:Int),((0:Int),((0:Int),((0:Int),((0:Int),((0:Int),([],((0:Int),[])))))))),(jeo 114 (Value.agg ⟨[(Value.int .i64 (5:Int))]⟩))) else (q58 n n r3.2.1.2.1 ((List.length r3.2.1.2.1:Nat):Int) (0:Int) (0:Int) (0:Int) (0:Int) (0:Int) (0:Int) (0:Int) (0:Int) r2.1 r2.2.1 r2.2.2.1 r2.2.2.2 r3.1 r3.2.1.1 r3.2.1.2.1 r3.2.1.2.2 []).bind fun (o8:((Unit×(IV×(Unit)))×((Int×(Int×(Int×(Int×(Int×(Int×(Unit×(Int×(Unit)))))))))×(Unit))×(Unit))⊕((Unit×(Unit×(Unit)))×((Int×(Int×(Int×(Int×(Int×(Int×(Unit×(Int×(Unit)))))))))×((Int×(Int×(Int×(Int×(Int×(Int×((List (List UInt8))×(Int×(List (List UInt8×(List UInt8)))))))))))×(Unit)))×(Unit)))=>Sum.elim (fun (q9:(Unit×(IV×(Unit)))×((Int×(Int×(Int×(Int×(Int×(Int×(Unit×(Int×(Unit)))))))))×(Unit))×(Unit))=>some ((q9.2.1.1.1,(q9.2.1.1.2.1,(q9.2.1.1.2.2.1,(q9.2.1.1.2.2.2.1,(q9.2.1.1.2.2.2.2.1,(q9.2.1.1.2.2.2.2.2.1,([],(q9.2.1.1.2.2.2.2.2.2.2.1,[])))))))),q9.1.2.1)) (fun (q10:(Unit×(Unit×(Unit)))×((Int×(Int×(Int×(Int×(Int×(Int×(Unit×(Int×(Unit)))))))))×((Int×(Int×(Int×(Int×(Int×(Int×((List (List UInt8))×(Int×(List (List UInt8×(List UInt8)))))))))))×(Unit)))×(Unit))=>some (q10.2.1.2.1,j23)) o8)))
def q7i (n:Nat):FC:={ f:=33,args:=[.one (.agg [.d (.lst .str),.d (.lst (.prod (.int .i64) .str))])],res:=.tup [.agg [.d (.int .i64),.d (.int .i64),.d (.int .i64),.d (.int .i64),.d (.int .i64),.d (.int .i64),.d (.lst .str),.d (.int .i64),.d (.lst (.prod .str .str))],.c (.d .any)],F:=fun p=>qdr n p }
def qni (n:Nat):List FC:=[jdi,q5z n,q6b n,q65 n]
theorem qk9 (n:Nat) {G:World->Prop} (hG:Know Inv G) : ∀c∈qni n,q3s Tryz.prog G c/\q1k c.args=true:=List.forall_mem_cons.2 ⟨jkj G hG,List.forall_mem_cons.2 ⟨qsz n G hG,List.forall_mem_cons.2 ⟨j1g n G hG,List.forall_mem_cons.2 ⟨j18 n G hG,(fun _ h=>by cases h)⟩⟩⟩⟩
def qnt:q1h:=[]
theorem qxc:drB qnt (q0d Tryz.f33)=true:=by kernel_rfl
theorem j85 (n:Nat) : ∀rec p,qny n rec p=round Tryz.prog 69 (qni n) (qj0 n) qnt 1 qas q6m (q0h 0 0 (q0d Tryz.f33)) rec p:=by intro rec p;kernel_rfl
theorem j1n (n:Nat) {F:Fr} (hF:F.n=69) (hK:Know Inv F.G):qfv Tryz.prog F (qx9 n) (q0h 0 0 (q0d Tryz.f33)) :=
 q26 hF (by kernel_rfl) (qk9 n hK) (j85 n) (fuel:=n) (fun _=>rfl) (q0p fun j L h1 h2 h3=>absurd h2 (Nat.not_lt.2 (Nat.le_trans (by decide +kernel) h1))) (q39 qxc)
theorem jbr (n:Nat) : ∀a,(q7i n).F a=main Tryz.prog 69 (qni n) (qj0 n) qnt (q0d Tryz.f33) [.cell 2 79,.tmp 3] (q7i n).args (q7i n).res a:=by intro a;kernel_rfl
theorem qna (n:Nat):q19 Inv Tryz.prog (q7i n):=fun G hG=>⟨⟨by kernel_rfl,fun a r h=>q0s (c:=q0d Tryz.f33) Tryz.func33 (by kernel_rfl) (by kernel_rfl) (Nat.le_of_ble_eq_true (by kernel_rfl)) hG.st (by kernel_rfl) (rs:=[.cell 2 79,.tmp 3]) (by kernel_rfl) (qk9 n hG) (lts:=qj0 n) (fun F hF hFG=>have hK:Know Inv F.G:=hFG ▸ hG;(q0p (c:=(q0d Tryz.f33)) (fun j L h1 h2 h3=>by
  have h2':j<1:=Nat.lt_of_lt_of_le h2 (by decide +kernel)
  match j,h1,h2',h3 with
  | 0,_,_,h3=>obtain rfl:=Option.some.inj h3;exact (show q0h 0 0 (q0d Tryz.f33)=q0h 0 0 (q0d Tryz.f33) by kernel_rfl) ▸ j1n n hF hK
  | j+1,_,h2',_=>exact absurd h2' (by omega)))) qxc ((jbr n a).symm.trans h)⟩,rfl⟩
end Go.Proofs.YthpgnliicpejoaaGreatDoor.AM
namespace Go.Proofs
open Go.RowKit
set_option linter.unusedVariables false
set_option linter.unusedSimpArgs false
namespace YthpgnliicpejoaaGreatDoor.AM
end YthpgnliicpejoaaGreatDoor.AM
end Go.Proofs
