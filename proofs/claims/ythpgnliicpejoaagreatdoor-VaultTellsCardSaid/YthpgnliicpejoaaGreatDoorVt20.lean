
import Derived.Test.YthpgnliicpejoaaGreatDoorVt18
import Derived.Test.YthpgnliicpejoaaGreatDoorVt19
import Derived.Test.YthpgnliicpejoaaGreatDoorVt6
import Derived.Test.YthpgnliicpejoaaGreatDoorVt16
import Derived.Test.YthpgnliicpejoaaGreatDoorVt5
namespace Go.Proofs.YthpgnliicpejoaaGreatDoor
open Go.RowKit
attribute [local go_sem ↓] Go.wp_at_zero Go.wp_at_succ
namespace RecW
end RecW
end Go.Proofs.YthpgnliicpejoaaGreatDoor
namespace Go.Proofs.YthpgnliicpejoaaGreatDoor
open Go.RowKit
namespace RM
def jjz (k g q:Int) (s:ByteArray):Value:=if may k g q (s.size:Int) (SM.q1d 1 s.data.toList) then hd k g q (s.size:Int) (SM.q1d 1 s.data.toList) else hd 0 0 0 0 0
theorem jh2 (k g q:Int) (s:ByteArray) (h:may k g q (s.size:Int) (SM.q1d 1 s.data.toList)):jjz k g q s=hd k g q (s.size:Int) (SM.q1d 1 s.data.toList):=if_pos h
theorem jle (k g q:Int) (s:ByteArray) (h : ¬ may k g q (s.size:Int) (SM.q1d 1 s.data.toList)):jjz k g q s=hd 0 0 0 0 0:=if_neg h
end RM
namespace RecW
set_option maxHeartbeats 3200000 in
set_option maxRecDepth 100000 in
theorem jjs (k g q:Int) (s:ByteArray) (w:World) (hs:s.size<=maxLen) :
  Calls Tryz.prog 109 #[.int .i64 k,.int .i64 g,.int .i64 q,.string s] w fun e w'=>e = .returned (.tuple #[RM.jjz k g q s,.bool (decide (RM.may k g q (s.size:Int) (SM.q1d 1 s.data.toList)))])/\Below w.heap.size w w':=by
 have hbm : -9223372036854775808<=SM.q1d 1 s.data.toList/\SM.q1d 1 s.data.toList<=9223372036854775807:=by have:=SM.qtd 1 s.data.toList;omega
 by_cases hm:RM.may k g q (s.size:Int) (SM.q1d 1 s.data.toList)
 ·have hd:decide (RM.may k g q (s.size:Int) (SM.q1d 1 s.data.toList))=true:=decide_eq_true hm
  rw [RM.jh2 k g q s hm,hd]
  clear hm
  go_enter Tryz.func109,Tryz.ntmps109
  go_wp2_with fail
  refine (SumW.jha _ _ hs).mono ?_;rintro e w' ⟨rfl,rfl⟩
  go_wp2_with fail
  refine (qcb _ _ _ _ _ _ hbm).mono ?_;rintro e w2 ⟨rfl,hb2⟩
  have hB2:Below w.heap.size w w2:=Below.trans (by repeat' first|(with_reducible exact Below.refl _ _)|(with_reducible refine Lib.q1t ?_ _)|(with_reducible refine Below.drew ?_)|(with_reducible refine Below.alloc ?_ ?_ _)|(with_reducible refine Below.setCell ?_ ?_ _)|(simp<;>omega)) (hb2.mono (by simp<;>omega))
  have q0:w2.cell? ⟨w.heap.size,0,none⟩=some (.int .i64 0):=(hb2.cell (by first|omega|(simp<;>omega))).trans (by go_simp)
  have f0:w2.frozen? ⟨w.heap.size,0,none⟩=false:=(hb2.frozen (by first|omega|(simp<;>omega))).trans (by go_simp)
  have v0:w2.cell? ⟨w.heap.size+1,0,none⟩=some (.int .i64 (k)):=(hb2.cell (by first|omega|(simp<;>omega))).trans (by go_simp)
  have q1:w2.cell? ⟨w.heap.size,1,none⟩=some (.int .i64 0):=(hb2.cell (by first|omega|(simp<;>omega))).trans (by go_simp)
  have f1:w2.frozen? ⟨w.heap.size,1,none⟩=false:=(hb2.frozen (by first|omega|(simp<;>omega))).trans (by go_simp)
  have v1:w2.cell? ⟨w.heap.size+1,1,none⟩=some (.int .i64 (g)):=(hb2.cell (by first|omega|(simp<;>omega))).trans (by go_simp)
  have q2:w2.cell? ⟨w.heap.size,2,none⟩=some (.int .i64 0):=(hb2.cell (by first|omega|(simp<;>omega))).trans (by go_simp)
  have f2:w2.frozen? ⟨w.heap.size,2,none⟩=false:=(hb2.frozen (by first|omega|(simp<;>omega))).trans (by go_simp)
  have v2:w2.cell? ⟨w.heap.size+1,2,none⟩=some (.int .i64 (q)):=(hb2.cell (by first|omega|(simp<;>omega))).trans (by go_simp)
  have q3:w2.cell? ⟨w.heap.size,3,none⟩=some (.int .i64 0):=(hb2.cell (by first|omega|(simp<;>omega))).trans (by go_simp)
  have f3:w2.frozen? ⟨w.heap.size,3,none⟩=false:=(hb2.frozen (by first|omega|(simp<;>omega))).trans (by go_simp)
  have v3:w2.cell? ⟨w.heap.size+1,3,none⟩=some (.int .i64 ((s.size:Int))):=(hb2.cell (by first|omega|(simp<;>omega))).trans (by go_simp)
  have q4:w2.cell? ⟨w.heap.size,4,none⟩=some (.int .i64 0):=(hb2.cell (by first|omega|(simp<;>omega))).trans (by go_simp)
  have f4:w2.frozen? ⟨w.heap.size,4,none⟩=false:=(hb2.frozen (by first|omega|(simp<;>omega))).trans (by go_simp)
  have v4:w2.cell? ⟨w.heap.size+1,4,none⟩=some (.int .i64 (SM.q1d 1 s.data.toList)):=(hb2.cell (by first|omega|(simp<;>omega))).trans (by go_simp)
  clear hb2
  go_wp2_with fail
  refine bodyPost_ret (q1e rfl _ _ w.heap.size (k) (g) (q) ((s.size:Int)) (SM.q1d 1 s.data.toList) rfl (by go_simp) (by go_simp) (by go_simp) (by go_simp) (by go_simp)) rfl ?_
  exact ⟨rfl,by repeat' first|(with_reducible exact hB2)|(with_reducible refine Below.setCell ?_ ?_ _)|omega|(simp<;>omega)⟩
 ·have hd:decide (RM.may k g q (s.size:Int) (SM.q1d 1 s.data.toList))=false:=decide_eq_false hm
  rw [RM.jle k g q s hm,hd]
  clear hm
  go_enter Tryz.func109,Tryz.ntmps109
  go_wp2_with fail
  refine (SumW.jha _ _ hs).mono ?_;rintro e w' ⟨rfl,rfl⟩
  go_wp2_with fail
  refine (qcb _ _ _ _ _ _ hbm).mono ?_;rintro e w2 ⟨rfl,hb2⟩
  have hB2:Below w.heap.size w w2:=Below.trans (by repeat' first|(with_reducible exact Below.refl _ _)|(with_reducible refine Lib.q1t ?_ _)|(with_reducible refine Below.drew ?_)|(with_reducible refine Below.alloc ?_ ?_ _)|(with_reducible refine Below.setCell ?_ ?_ _)|(simp<;>omega)) (hb2.mono (by simp<;>omega))
  have q0:w2.cell? ⟨w.heap.size,0,none⟩=some (.int .i64 0):=(hb2.cell (by first|omega|(simp<;>omega))).trans (by go_simp)
  have f0:w2.frozen? ⟨w.heap.size,0,none⟩=false:=(hb2.frozen (by first|omega|(simp<;>omega))).trans (by go_simp)
  have v0:w2.cell? ⟨w.heap.size+1,0,none⟩=some (.int .i64 (k)):=(hb2.cell (by first|omega|(simp<;>omega))).trans (by go_simp)
  have q1:w2.cell? ⟨w.heap.size,1,none⟩=some (.int .i64 0):=(hb2.cell (by first|omega|(simp<;>omega))).trans (by go_simp)
  have f1:w2.frozen? ⟨w.heap.size,1,none⟩=false:=(hb2.frozen (by first|omega|(simp<;>omega))).trans (by go_simp)
  have v1:w2.cell? ⟨w.heap.size+1,1,none⟩=some (.int .i64 (g)):=(hb2.cell (by first|omega|(simp<;>omega))).trans (by go_simp)
  have q2:w2.cell? ⟨w.heap.size,2,none⟩=some (.int .i64 0):=(hb2.cell (by first|omega|(simp<;>omega))).trans (by go_simp)
  have f2:w2.frozen? ⟨w.heap.size,2,none⟩=false:=(hb2.frozen (by first|omega|(simp<;>omega))).trans (by go_simp)
  have v2:w2.cell? ⟨w.heap.size+1,2,none⟩=some (.int .i64 (q)):=(hb2.cell (by first|omega|(simp<;>omega))).trans (by go_simp)
  have q3:w2.cell? ⟨w.heap.size,3,none⟩=some (.int .i64 0):=(hb2.cell (by first|omega|(simp<;>omega))).trans (by go_simp)
  have f3:w2.frozen? ⟨w.heap.size,3,none⟩=false:=(hb2.frozen (by first|omega|(simp<;>omega))).trans (by go_simp)
  have v3:w2.cell? ⟨w.heap.size+1,3,none⟩=some (.int .i64 ((s.size:Int))):=(hb2.cell (by first|omega|(simp<;>omega))).trans (by go_simp)
  have q4:w2.cell? ⟨w.heap.size,4,none⟩=some (.int .i64 0):=(hb2.cell (by first|omega|(simp<;>omega))).trans (by go_simp)
  have f4:w2.frozen? ⟨w.heap.size,4,none⟩=false:=(hb2.frozen (by first|omega|(simp<;>omega))).trans (by go_simp)
  have v4:w2.cell? ⟨w.heap.size+1,4,none⟩=some (.int .i64 (SM.q1d 1 s.data.toList)):=(hb2.cell (by first|omega|(simp<;>omega))).trans (by go_simp)
  clear hb2
  go_wp2_with fail
  refine bodyPost_ret (q1e rfl _ _ w.heap.size 0 0 0 0 0 rfl (by go_simp) (by go_simp) (by go_simp) (by go_simp) (by go_simp)) rfl ?_
  exact ⟨rfl,by repeat' first|(with_reducible exact hB2)|(with_reducible refine Below.setCell ?_ ?_ _)|omega|(simp<;>omega)⟩
end RecW
end Go.Proofs.YthpgnliicpejoaaGreatDoor
namespace Go.Proofs.YthpgnliicpejoaaGreatDoor.AM
open Go.RowKit
set_option linter.unusedVariables false
theorem jt5 {β:Type} {l:List β} {j:Nat} (h:j<l.length):nth l j=some l[j]:=by rw [q76,List.getElem?_eq_getElem h]
theorem q26 {β:Type} {l:List β} {j:Nat} (h:j<l.length):q1f l (j:Int)=some l[j]:=by
 unfold q1f;rw [if_pos (by omega),Int.toNat_natCast,jt5 h]
theorem qvy {s:List UInt8} {j:Nat} (h:j<s.length):sAt s (j:Int)=some ((s[j].toNat:Nat):Int):=by
 unfold sAt;rw [q26 h];rfl
theorem sub_le {β:Type} {l:List β} {a b:Nat} (h1:a<=b) (h2:b<=l.length):q3g l (a:Int) (b:Int)=some ((l.drop a).take (b - a)):=by
 unfold q3g;rw [if_pos ⟨by omega,by omega,by omega⟩,Int.toNat_natCast,Int.toNat_natCast]
theorem sub_zero {β:Type} {l:List β} {b:Nat} (h2:b<=l.length):q3g l (0:Int) (b:Int)=some (l.take b):=by
 have:=sub_le (l:=l) (a:=0) (b:=b) (Nat.zero_le _) h2
 simpa using this
theorem q4i {β:Type} {k:Nat} {xs ys:List β} (h:(xs.length+ys.length)*k<=140737488355328):q2g k xs ys=some (xs++ys):=by
 unfold q2g;rw [if_pos h]
theorem q0w {i:Nat} (h:i<4611686018427387904):IntKind.wrap .i64 ((i:Int)+1)=((i+1:Nat):Int):=by rw [wrap64 (by omega) (by omega)];rfl
theorem jlg {i:Nat} (h:i<4611686018427387904):IntKind.wrap .i64 (i:Int)=(i:Int):=by rw [wrap64 (by omega) (by omega)]
theorem wrap_add {i j:Nat} (h:i<1000000000000) (h2:j<1000000000000):IntKind.wrap .i64 ((i:Int)+(j:Int))=((i+j:Nat):Int):=by rw [wrap64 (by omega) (by omega)];omega
end Go.Proofs.YthpgnliicpejoaaGreatDoor.AM
namespace Go.Proofs.YthpgnliicpejoaaGreatDoor.AM
open Go.RowKit
set_option linter.unusedVariables false
set_option maxRecDepth 20000
def j5x (n:Nat):List LC:=[]
def qxs (n:Nat) (a1:Int):Option (Bool) :=
 (bif decide (0<=a1) then (qo9 .i64 a1 (65536:Int)).bind fun n1=>(bif decide (n1<=65520) then (j71 a1 (65536:Int)).bind fun n2=>some (decide (n2<=65520)) else some false) else some false)
def qnk (n:Nat):FC:={ f:=115,args:=[.one (.c (.d (.int .i64)))],res:=.one (.c (.d .bool)),F:=fun p=>qxs n p }
def jee (n:Nat):List FC:=[]
theorem jd0 (n:Nat) {G:World->Prop} (hG:Know Inv G) : ∀c∈jee n,q27 Tryz.prog G c/\q0z c.args=true:=(fun _ h=>by cases h)
def jgr:q0y:=[]
theorem jnv:drB jgr (q05 Tryz.f115)=true:=by kernel_rfl
theorem jof (n:Nat) : ∀a,(qnk n).F a=main Tryz.prog 15 (jee n) (j5x n) jgr (q05 Tryz.f115) [.tmp 2] (qnk n).args (qnk n).res a:=by intro a;kernel_rfl
theorem jnz (n:Nat):q0v Inv Tryz.prog (qnk n):=fun G hG=>⟨⟨by kernel_rfl,fun a r h=>q0p (c:=q05 Tryz.f115) Tryz.func115 (by kernel_rfl) (by kernel_rfl) (Nat.le_of_ble_eq_true (by kernel_rfl)) hG.st (by kernel_rfl) (rs:=[.tmp 2]) (by kernel_rfl) (jd0 n hG) (lts:=j5x n) (fun F hF hFG=>have hK:Know Inv F.G:=hFG ▸ hG;(q0k fun j L h1 h2 h3=>absurd h2 (Nat.not_lt.2 (Nat.le_trans (by decide +kernel) h1)))) jnv ((jof n a).symm.trans h)⟩,rfl⟩
def qpo (n:Nat):List LC:=[]
def q2f (n:Nat) (a1:Int):Option (List UInt8) :=
 (qo9 .i64 a1 (16777216:Int)).bind fun n1=>q0n (IntKind.wrap .u8 n1) fun n2=>(qo9 .i64 a1 (65536:Int)).bind fun n3=>(j71 n3 (256:Int)).bind fun n4=>q0n (IntKind.wrap .u8 n4) fun n5=>(qo9 .i64 a1 (256:Int)).bind fun n6=>(j71 n6 (256:Int)).bind fun n7=>q0n (IntKind.wrap .u8 n7) fun n8=>(j71 a1 (256:Int)).bind fun n9=>q0n (IntKind.wrap .u8 n9) fun n10=>some (List.map (fun n:Int=>UInt8.ofNat n.toNat) ([n2,n5,n8,n10]:List (Int)))
def q94 (n:Nat):FC:={ f:=116,args:=[.one (.c (.d (.int .i64)))],res:=.one (.c (.d .str)),F:=fun p=>q2f n p }
def qyv (n:Nat):List FC:=[]
theorem j1v (n:Nat) {G:World->Prop} (hG:Know Inv G) : ∀c∈qyv n,q27 Tryz.prog G c/\q0z c.args=true:=(fun _ h=>by cases h)
def qv9:q0y:=[]
theorem jbr:drB qv9 (q05 Tryz.f116)=true:=by kernel_rfl
theorem jf3 (n:Nat) : ∀a,(q94 n).F a=main Tryz.prog 19 (qyv n) (qpo n) qv9 (q05 Tryz.f116) [.tmp 2] (q94 n).args (q94 n).res a:=by intro a;kernel_rfl
theorem jbh (n:Nat):q0v Inv Tryz.prog (q94 n):=fun G hG=>⟨⟨by kernel_rfl,fun a r h=>q0p (c:=q05 Tryz.f116) Tryz.func116 (by kernel_rfl) (by kernel_rfl) (Nat.le_of_ble_eq_true (by kernel_rfl)) hG.st (by kernel_rfl) (rs:=[.tmp 2]) (by kernel_rfl) (j1v n hG) (lts:=qpo n) (fun F hF hFG=>have hK:Know Inv F.G:=hFG ▸ hG;(q0k fun j L h1 h2 h3=>absurd h2 (Nat.not_lt.2 (Nat.le_trans (by decide +kernel) h1)))) jbr ((jf3 n a).symm.trans h)⟩,rfl⟩
@[reducible] def qab:SSt:=⟨[(0,.one (.c (.d .str)))],[],[]⟩
@[reducible] def q65:List (Exit×SSt):=[(.exit 0,⟨[(0,.one (.c (.d .str)))],[],[]⟩)]
def ql3 (n:Nat) (rec:(List UInt8)->Option (((List UInt8)×Unit)×Unit×Unit)) (a1:List UInt8):Option (((List UInt8)×Unit)×Unit×Unit) :=
 (bif decide ((a1.length:Int)<32) then (q4s a1 ([0]:List UInt8)).bind fun s1=>rec s1 else some (((a1,()),((),()))))
def qni (n:Nat) (rec:pSt qab->Option (q17 q65)) (p:pSt qab):Option (q17 q65):=ql3 n (fun a1=>rec ((a1,()),((),()))) p.1.1
def q4k (n m:Nat) (a1:List UInt8):Option (((List UInt8)×Unit)×Unit×Unit):=q1b (qni n) m ((a1,()),((),()))
theorem qh8 (n m:Nat) (a1):q4k n (m+1) a1=ql3 n (fun a1=>q4k n m a1) a1:=rfl
def qwq (n:Nat):LC:={ sh:=qab,outs:=q65,F:=q1b (qni n) n }
def qgj (n:Nat):List LC:=[qwq n]
def qb4 (n:Nat) (a1:List UInt8):Option (List UInt8) :=
 (q4k n n a1).bind fun o2=>some o2.1.1
def q9p (n:Nat):FC:={ f:=113,args:=[.one (.c (.d .str))],res:=.one (.c (.d .str)),F:=fun p=>qb4 n p }
def qjt (n:Nat):List FC:=[]
theorem qjv (n:Nat) {G:World->Prop} (hG:Know Inv G) : ∀c∈qjt n,q27 Tryz.prog G c/\q0z c.args=true:=(fun _ h=>by cases h)
def qlg:q0y:=[]
theorem qwm:drB qlg (q05 Tryz.f113)=true:=by kernel_rfl
theorem j9b (n:Nat) : ∀rec p,qni n rec p=round Tryz.prog 9 (qjt n) (qgj n) qlg 1 qab q65 (q0h 0 0 (q05 Tryz.f113)) rec p:=by intro rec p;kernel_rfl
theorem j2z (n:Nat) {F:Fr} (hF:F.n=9) (hK:Know Inv F.G):qae Tryz.prog F (qwq n) (q0h 0 0 (q05 Tryz.f113)) :=
 q1h hF (by kernel_rfl) (qjv n hK) (j9b n) (fuel:=n) (fun _=>rfl) (q0k fun j L h1 h2 h3=>absurd h2 (Nat.not_lt.2 (Nat.le_trans (by decide +kernel) h1))) (q20 qwm)
theorem je3 (n:Nat) : ∀a,(q9p n).F a=main Tryz.prog 9 (qjt n) (qgj n) qlg (q05 Tryz.f113) [.tmp 2] (q9p n).args (q9p n).res a:=by intro a;kernel_rfl
theorem ji0 (n:Nat):q0v Inv Tryz.prog (q9p n):=fun G hG=>⟨⟨by kernel_rfl,fun a r h=>q0p (c:=q05 Tryz.f113) Tryz.func113 (by kernel_rfl) (by kernel_rfl) (Nat.le_of_ble_eq_true (by kernel_rfl)) hG.st (by kernel_rfl) (rs:=[.tmp 2]) (by kernel_rfl) (qjv n hG) (lts:=qgj n) (fun F hF hFG=>have hK:Know Inv F.G:=hFG ▸ hG;(q0k (c:=(q05 Tryz.f113)) (fun j L h1 h2 h3=>by
  have h2':j<1:=Nat.lt_of_lt_of_le h2 (by decide +kernel)
  match j,h1,h2',h3 with
  | 0,_,_,h3=>obtain rfl:=Option.some.inj h3;exact (show q0h 0 0 (q05 Tryz.f113)=q0h 0 0 (q05 Tryz.f113) by kernel_rfl) ▸ j2z n hF hK
  | j+1,_,h2',_=>exact absurd h2' (by omega)))) qwm ((je3 n a).symm.trans h)⟩,rfl⟩
def qw5 (n:Nat):List LC:=[]
def q5d (n:Nat) (a1:List UInt8) (a2:Int):Option (Int) :=
 (sAt a1 a2).bind fun c1=>q0n (IntKind.wrap .i64 c1) fun n2=>q0n (IntKind.wrap .i64 ((16777216:Int)*n2)) fun n3=>q0n (IntKind.wrap .i64 (a2+(1:Int))) fun n4=>(sAt a1 n4).bind fun c5=>q0n (IntKind.wrap .i64 c5) fun n6=>q0n (IntKind.wrap .i64 ((65536:Int)*n6)) fun n7=>q0n (IntKind.wrap .i64 (n3+n7)) fun n8=>q0n (IntKind.wrap .i64 (a2+(2:Int))) fun n9=>(sAt a1 n9).bind fun c10=>q0n (IntKind.wrap .i64 c10) fun n11=>q0n (IntKind.wrap .i64 ((256:Int)*n11)) fun n12=>q0n (IntKind.wrap .i64 (n8+n12)) fun n13=>q0n (IntKind.wrap .i64 (a2+(3:Int))) fun n14=>(sAt a1 n14).bind fun c15=>q0n (IntKind.wrap .i64 c15) fun n16=>q0n (IntKind.wrap .i64 (n13+n16)) fun n17=>some n17
def q4y (n:Nat):FC:={ f:=148,args:=[.one (.c (.d .str)),.one (.c (.d (.int .i64)))],res:=.one (.c (.d (.int .i64))),F:=fun p=>q5d n p.1 p.2 }
def j6d (n:Nat):List FC:=[]
theorem j9y (n:Nat) {G:World->Prop} (hG:Know Inv G) : ∀c∈j6d n,q27 Tryz.prog G c/\q0z c.args=true:=(fun _ h=>by cases h)
def j5h:q0y:=[(1,[⟨196609,32768,0⟩,⟨1572872,2^18,0⟩,⟨12877824,2^21,3⟩,⟨49*2^21,2^24,7⟩,⟨49*2^24,2^27,15⟩,⟨6442450945,2^30,0⟩,⟨51539607560,2^33,0⟩,⟨49*2^33,2^36,64⟩,⟨3137*2^30,2^39,224⟩,⟨49*2^39,2^42,480⟩,⟨49*2^42,2^45,992⟩,⟨12845057*2^27,2^48,2047⟩,⟨13510798882111489,2^51,0⟩,⟨108086391056891912,2^54,0⟩,⟨49*2^54,2^57,8192⟩,⟨3137*2^51,2^60,28672⟩,⟨49*2^60,2^63,61440⟩,⟨49*2^63,2^66,126976⟩,⟨12845057*2^48,2^69,262143⟩,⟨28334198897217871282177,2^72,0⟩,⟨226673591177742970257416,2^75,0⟩,⟨49*2^75,2^78,2^20⟩,⟨3137*2^72,2^81,7*2^19⟩,⟨49*2^81,2^84,7864320⟩,⟨1605633*2^69,2^87,16777215⟩,⟨154742504910672534362415104,4096,33554431⟩])]
theorem jjl:drB j5h (q05 Tryz.f148)=true:=by kernel_rfl
theorem jkj (n:Nat) : ∀a,(q4y n).F a=main Tryz.prog 30 (j6d n) (qw5 n) j5h (q05 Tryz.f148) [.tmp 4] (q4y n).args (q4y n).res a:=by intro a;kernel_rfl
theorem jlp (n:Nat):q0v Inv Tryz.prog (q4y n):=fun G hG=>⟨⟨by kernel_rfl,fun a r h=>q0p (c:=q05 Tryz.f148) Tryz.func148 (by kernel_rfl) (by kernel_rfl) (Nat.le_of_ble_eq_true (by kernel_rfl)) hG.st (by kernel_rfl) (rs:=[.tmp 4]) (by kernel_rfl) (j9y n hG) (lts:=qw5 n) (fun F hF hFG=>have hK:Know Inv F.G:=hFG ▸ hG;(q0k fun j L h1 h2 h3=>absurd h2 (Nat.not_lt.2 (Nat.le_trans (by decide +kernel) h1)))) jjl ((jkj n a).symm.trans h)⟩,rfl⟩
def qqx (n:Nat):List LC:=[]
def qa7 (n:Nat) (a1:Int×(Int×(Int×(Int×(Int))))):Option ((List UInt8)×(Bool)) :=
 (bif !decide (a1.1=1) then (bif !decide (a1.1=2) then some (([]:List UInt8),false) else (bif decide (a1.2.1<0) then some (([]:List UInt8),false) else (bif decide (1073741824<a1.2.1) then some (([]:List UInt8),false) else (bif decide (a1.2.2.1<0) then some (([]:List UInt8),false) else (bif decide (65535<a1.2.2.1) then some (([]:List UInt8),false) else (bif decide (a1.2.2.2.1<0) then some (([]:List UInt8),false) else (bif decide (4096<a1.2.2.2.1) then some (([]:List UInt8),false) else (qxs n a1.2.2.2.2).bind fun r1=>(bif !r1 then some (([]:List UInt8),false) else q0n (IntKind.wrap .u8 a1.1) fun n2=>(q4s ([72]:List UInt8) (List.map (fun n:Int=>UInt8.ofNat n.toNat) ([n2]:List (Int)))).bind fun s3=>(q2f n a1.2.1).bind fun r4=>(q4s s3 r4).bind fun s5=>(q2f n a1.2.2.1).bind fun r6=>(q4s s5 r6).bind fun s7=>(q2f n a1.2.2.2.1).bind fun r8=>(q4s s7 r8).bind fun s9=>(q2f n a1.2.2.2.2).bind fun r10=>(q4s s9 r10).bind fun s11=>(qb4 n s11).bind fun r12=>some (r12,true))))))))) else (bif decide (a1.2.1<0) then some (([]:List UInt8),false) else (bif decide (1073741824<a1.2.1) then some (([]:List UInt8),false) else (bif decide (a1.2.2.1<0) then some (([]:List UInt8),false) else (bif decide (65535<a1.2.2.1) then some (([]:List UInt8),false) else (bif decide (a1.2.2.2.1<0) then some (([]:List UInt8),false) else (bif decide (4096<a1.2.2.2.1) then some (([]:List UInt8),false) else (qxs n a1.2.2.2.2).bind fun r13=>(bif !r13 then some (([]:List UInt8),false) else q0n (IntKind.wrap .u8 a1.1) fun n14=>(q4s ([72]:List UInt8) (List.map (fun n:Int=>UInt8.ofNat n.toNat) ([n14]:List (Int)))).bind fun s15=>(q2f n a1.2.1).bind fun r16=>(q4s s15 r16).bind fun s17=>(q2f n a1.2.2.1).bind fun r18=>(q4s s17 r18).bind fun s19=>(q2f n a1.2.2.2.1).bind fun r20=>(q4s s19 r20).bind fun s21=>(q2f n a1.2.2.2.2).bind fun r22=>(q4s s21 r22).bind fun s23=>(qb4 n s23).bind fun r24=>some (r24,true)))))))))
def q7g (n:Nat):FC:={ f:=84,args:=[.one (.agg [.d (.int .i64),.d (.int .i64),.d (.int .i64),.d (.int .i64),.d (.int .i64)])],res:=.tup [.c (.d .str),.c (.d .bool)],F:=fun p=>qa7 n p }
def qvm (n:Nat):List FC:=[qnk n,q94 n,q9p n]
theorem qzt (n:Nat) {G:World->Prop} (hG:Know Inv G) : ∀c∈qvm n,q27 Tryz.prog G c/\q0z c.args=true:=List.forall_mem_cons.2 ⟨jnz n G hG,List.forall_mem_cons.2 ⟨jbh n G hG,List.forall_mem_cons.2 ⟨ji0 n G hG,(fun _ h=>by cases h)⟩⟩⟩
def qwf:q0y:=[(5,[⟨2090694862362245919518973588060783891185688,2^138,0⟩,⟨17074008042625008342738284302496401778016272,2^141,1⟩,⟨49*2^141,2^144,3⟩,⟨49*2^144,5*2^147,7⟩,⟨53*2^147,2^150,15⟩,⟨49*2^150,2^153,31⟩,⟨548063113999088594326381812268606132370974703640,2^156,0⟩,⟨4475848764325890186998784800193616747696293412880,2^159,64⟩,⟨49*2^159,2^162,192⟩,⟨25089*2^153,2^165,511⟩,⟨2244866514940266882360859903052210718191512386011160,2^168,0⟩,⟨18333076538678846205947022541593054198564017819090960,2^171,1024⟩,⟨49*2^171,2^174,3520⟩,⟨25089*2^165,2^177,8191⟩,⟨9194973245195333150150082162901855101712434733101613080,2^180,0⟩,⟨75092281502428554059559004330365149997318216986996506640,2^183,16384⟩,⟨49*2^183,2^186,56768⟩,⟨25089*2^177,2^189,131071⟩,⟨37662610412320084583014736539245998496614132666784207077400,2^192,0⟩,⟨307577985033947357427953681737175654389015416778737691131920,2^195,2^18⟩,⟨49*2^195,2^198,908736⟩,⟨25089*2^189,2^201,2097151⟩,⟨49*2^201,2^204,4194303⟩,⟨25711008708143844408671393477458601640355247900524685364822400,64,8388607⟩,⟨3072,512,16777215⟩]),(1000005,[])]
theorem jbg:drB qwf (q05 Tryz.f84)=true:=by kernel_rfl
theorem jda (n:Nat) : ∀a,(q7g n).F a=main Tryz.prog 69 (qvm n) (qqx n) qwf (q05 Tryz.f84) [.tmp 2,.tmp 3] (q7g n).args (q7g n).res a:=by intro a;kernel_rfl
theorem qju (n:Nat):q0v Inv Tryz.prog (q7g n):=fun G hG=>⟨⟨by kernel_rfl,fun a r h=>q0p (c:=q05 Tryz.f84) Tryz.func84 (by kernel_rfl) (by kernel_rfl) (Nat.le_of_ble_eq_true (by kernel_rfl)) hG.st (by kernel_rfl) (rs:=[.tmp 2,.tmp 3]) (by kernel_rfl) (qzt n hG) (lts:=qqx n) (fun F hF hFG=>have hK:Know Inv F.G:=hFG ▸ hG;(q0k fun j L h1 h2 h3=>absurd h2 (Nat.not_lt.2 (Nat.le_trans (by decide +kernel) h1)))) jbg ((jda n a).symm.trans h)⟩,rfl⟩
def qpa (n:Nat):List LC:=[]
def qsq (n:Nat) (a1:List UInt8):Option ((Int×(Int×(Int×(Int×(Int)))))×(Bool)) :=
 (bif !decide ((a1.length:Int)=32) then some (((0:Int),((0:Int),((0:Int),((0:Int),(0:Int))))),false) else (sAt a1 (1:Int)).bind fun c1=>q0n (IntKind.wrap .i64 c1) fun n2=>((q4y n).F (a1,(2:Int))).bind fun (r3:Int)=>((q4y n).F (a1,(6:Int))).bind fun (r4:Int)=>((q4y n).F (a1,(10:Int))).bind fun (r5:Int)=>((q4y n).F (a1,(14:Int))).bind fun (r6:Int)=>(qa7 n (n2,(r3,(r4,(r5,r6))))).bind fun r7=>(bif !r7.2 then some (((0:Int),((0:Int),((0:Int),((0:Int),(0:Int))))),false) else (bif !decide (r7.1=a1) then some (((0:Int),((0:Int),((0:Int),((0:Int),(0:Int))))),false) else some ((n2,(r3,(r4,(r5,r6)))),true))))
def q72 (n:Nat):FC:={ f:=127,args:=[.one (.c (.d .str))],res:=.tup [.agg [.d (.int .i64),.d (.int .i64),.d (.int .i64),.d (.int .i64),.d (.int .i64)],.c (.d .bool)],F:=fun p=>qsq n p }
def qwg (n:Nat):List FC:=[q4y n,q7g n]
theorem j0d (n:Nat) {G:World->Prop} (hG:Know Inv G) : ∀c∈qwg n,q27 Tryz.prog G c/\q0z c.args=true:=List.forall_mem_cons.2 ⟨jlp n G hG,List.forall_mem_cons.2 ⟨qju n G hG,(fun _ h=>by cases h)⟩⟩
def qv7:q0y:=[(3,[⟨51539607553,2^33,0⟩,⟨49*2^33,2^36,1⟩,⟨49*2^36,2^39,3⟩,⟨26388279066625,2^42,0⟩,⟨49*2^42,2^45,8⟩,⟨1688849860263937,2^48,0⟩,⟨49*2^48,2^51,56⟩,⟨108086391056891905,2^54,0⟩,⟨49*2^54,2^57,248⟩,⟨6917529027641081857,2^60,0⟩,⟨49*2^60,2^63,1016⟩,⟨822349889*2^39,2^66,2047⟩,⟨24576,12288,0⟩,⟨73786976294838218752,8192,8191⟩]),(1000003,[])]
theorem jgg:drB qv7 (q05 Tryz.f127)=true:=by kernel_rfl
theorem jes (n:Nat) : ∀a,(q72 n).F a=main Tryz.prog 37 (qwg n) (qpa n) qv7 (q05 Tryz.f127) [.cell 2 146,.tmp 3] (q72 n).args (q72 n).res a:=by intro a;kernel_rfl
theorem jep (n:Nat):q0v Inv Tryz.prog (q72 n):=fun G hG=>⟨⟨by kernel_rfl,fun a r h=>q0p (c:=q05 Tryz.f127) Tryz.func127 (by kernel_rfl) (by kernel_rfl) (Nat.le_of_ble_eq_true (by kernel_rfl)) hG.st (by kernel_rfl) (rs:=[.cell 2 146,.tmp 3]) (by kernel_rfl) (j0d n hG) (lts:=qpa n) (fun F hF hFG=>have hK:Know Inv F.G:=hFG ▸ hG;(q0k fun j L h1 h2 h3=>absurd h2 (Nat.not_lt.2 (Nat.le_trans (by decide +kernel) h1)))) jgg ((jes n a).symm.trans h)⟩,rfl⟩
end Go.Proofs.YthpgnliicpejoaaGreatDoor.AM
namespace Go.Proofs
open Go.RowKit
set_option linter.unusedVariables false
set_option linter.unusedSimpArgs false
namespace YthpgnliicpejoaaGreatDoor.AM
theorem j3n {α β:Type} (x:α) (f:α->Option β):q0n x f=f x:=rfl
theorem j6j {x k:Int} (h0:0<=x) (h1:x<=9223372036854775807) (hk:1<=k):qo9 .i64 x k=some (x / k):=by
 unfold qo9
 have h2:x / k<=x:=Int.ediv_le_self k h0
 have h3:0<=x / k:=Int.ediv_nonneg h0 (by omega)
 rw [if_pos (by omega),Int.tdiv_eq_ediv_of_nonneg h0,wrap64 (by omega) (by omega)]
theorem j4j {x k:Int} (h0:0<=x) (hk:1<=k):j71 x k=some (x % k):=by
 unfold j71
 rw [if_pos (by omega),Int.tmod_eq_emod_of_nonneg h0]
theorem jst (x:Int):IntKind.wrap .u8 x=x % 256:=rfl
theorem r3_is (n:Nat) {m:Int} (h1:m<=9223372036854775807):qxs n m=some (decide (SM.q2p m)):=by
 unfold qxs SM.q2p
 by_cases h0:0<=m
 ·rw [decide_eq_true h0,cond_true,j6j h0 h1 (by decide),Option.bind_some]
  by_cases c:m / 65536<=65520
  ·rw [decide_eq_true c,cond_true,j4j h0 (by decide),Option.bind_some]
   refine congrArg some (decide_eq_decide.2 ?_)
   omega
  ·rw [decide_eq_false c,cond_false]
   refine congrArg some (decide_eq_false ?_).symm
   omega
 ·rw [decide_eq_false h0,cond_false]
  refine congrArg some (decide_eq_false ?_).symm
  omega
theorem qtc (n:Nat) {x:Int} (h0:0<=x) (h1:x<4294967296):q2f n x=some (RM.be4 x):=by
 unfold q2f
 have h2:x<=9223372036854775807:=by omega
 simp only [j6j h0 h2 (show (1:Int)<=16777216 by decide),j6j h0 h2 (show (1:Int)<=65536 by decide),j6j h0 h2 (show (1:Int)<=256 by decide),Option.bind_some,j3n,jst,j4j (show 0<=x / 65536 by omega) (show (1:Int)<=256 by decide),j4j (show 0<=x / 256 by omega) (show (1:Int)<=256 by decide),j4j h0 (show (1:Int)<=256 by decide),List.map_cons,List.map_nil]
 unfold RM.be4
 rw [show x / 65536 % 256 % 256=x / 65536 % 256 by omega,show x / 256 % 256 % 256=x / 256 % 256 by omega,show x % 256 % 256=x % 256 by omega]
theorem qpf {a b:List UInt8} (h:a.length+b.length<=1000000):q4s a b=some (a++b):=by
 unfold q4s
 rw [if_pos (by omega)]
theorem jnt (n:Nat) : ∀m:Nat,∀l:List UInt8,l.length<=32->32 - l.length<m->q4k n m l=some ((RM.q6v l,()),(),()):=by
 intro m
 induction m with
 | zero=>intro l _ h;omega
 | succ m ih =>
  intro l hl hm
  rw [qh8]
  unfold ql3
  by_cases c:l.length<32
  ·rw [decide_eq_true (by omega),cond_true,qpf (by simp;omega),Option.bind_some]
   show q4k n m (l ++ [0])=_
   rw [ih (l ++ [0]) (by simp;omega) (by simp;omega)]
   unfold RM.q6v
   obtain ⟨k,hk⟩ : ∃ k,32 - l.length=k+1:=⟨31 - l.length,by omega⟩
   rw [List.length_append,List.length_singleton,show 32 - (l.length+1)=k by omega,hk,List.append_assoc,List.replicate_succ,List.singleton_append]
  ·rw [decide_eq_false (by omega),cond_false]
   unfold RM.q6v
   rw [show 32 - l.length=0 by omega,List.replicate_zero,List.append_nil]
theorem jqu (n:Nat) (hn:33<=n) {l:List UInt8} (hl:l.length<=32):qb4 n l=some (RM.q6v l):=by
 unfold qb4
 rw [jnt n n l hl (by omega),Option.bind_some]
theorem jfa {s:List UInt8} {j:Nat} (h:j<s.length):sAt s (j:Int)=some (((s.getD j 0).toNat:Nat):Int):=by
 rw [qvy h,List.getD_eq_getElem?_getD,List.getElem?_eq_getElem h,Option.getD_some]
theorem j79 (n:Nat) {s:List UInt8} {j:Nat} (h:j+3<s.length) (hj:j<100):q5d n s (j:Int)=some (RM.num s j):=by
 unfold q5d
 have b0:=(s.getD j 0).toNat_lt
 have b1:=(s.getD (j+1) 0).toNat_lt
 have b2:=(s.getD (j+2) 0).toNat_lt
 have b3:=(s.getD (j+3) 0).toNat_lt
 have a1:IntKind.wrap .i64 ((j:Int)+1)=((j+1:Nat):Int):=by rw [wrap64 (by omega) (by omega)];rfl
 have a2:IntKind.wrap .i64 ((j:Int)+2)=((j+2:Nat):Int):=by rw [wrap64 (by omega) (by omega)];rfl
 have a3:IntKind.wrap .i64 ((j:Int)+3)=((j+3:Nat):Int):=by rw [wrap64 (by omega) (by omega)];rfl
 simp only [j3n,a1,a2,a3]
 rw [jfa (show j<s.length by omega),jfa (show j+1<s.length by omega),jfa (show j+2<s.length by omega),jfa (show j+3<s.length by omega)]
 unfold RM.num
 generalize (s.getD j 0).toNat=x0 at *
 generalize (s.getD (j+1) 0).toNat=x1 at *
 generalize (s.getD (j+2) 0).toNat=x2 at *
 generalize (s.getD (j+3) 0).toNat=x3 at *
 simp only [Option.bind_some]
 rw [wrap64 (n:=(x0:Int)) (by omega) (by omega),wrap64 (n:=(x1:Int)) (by omega) (by omega),wrap64 (n:=(x2:Int)) (by omega) (by omega),wrap64 (n:=(x3:Int)) (by omega) (by omega)]
 rw [wrap64 (n:=16777216*(x0:Int)) (by omega) (by omega),wrap64 (n:=65536*(x1:Int)) (by omega) (by omega),wrap64 (n:=256*(x2:Int)) (by omega) (by omega)]
 rw [wrap64 (n:=16777216*(x0:Int)+65536*(x1:Int)) (by omega) (by omega)]
 rw [wrap64 (n:=16777216*(x0:Int)+65536*(x1:Int)+256*(x2:Int)) (by omega) (by omega)]
 rw [wrap64 (by omega) (by omega)]
 refine congrArg some ?_
 omega
def qca (k g q z m:Int):List UInt8:=if RM.may k g q z m then RM.qcw k g q z m else []
theorem j1e (n:Nat) (hn:33<=n) {k g q z m:Int} (m1:m<=9223372036854775807) :
  qa7 n (k,(g,(q,(z,m))))=some (qca k g q z m,decide (RM.may k g q z m)):=by
 have hl : ∀x:Int,(RM.be4 x).length=4:=fun _=>rfl
 have hno : ¬ RM.may k g q z m->(some (([]:List UInt8),false))=some (qca k g q z m,decide (RM.may k g q z m)):=fun h=>by
  unfold qca
  rw [if_neg h,decide_eq_false h]
 have tail:(k=1\/k=2)->0<=g->g<=1073741824->0<=q->q<=65535->0<=z->z<=4096->SM.q2p m->(q0n (IntKind.wrap .u8 k) fun n2=>(q4s ([72]:List UInt8) (List.map (fun n:Int=>UInt8.ofNat n.toNat) ([n2]:List (Int)))).bind fun s3=>(q2f n g).bind fun r4=>(q4s s3 r4).bind fun s5=>(q2f n q).bind fun r6=>(q4s s5 r6).bind fun s7=>(q2f n z).bind fun r8=>(q4s s7 r8).bind fun s9=>(q2f n m).bind fun r10=>(q4s s9 r10).bind fun s11=>(qb4 n s11).bind fun r12=>some (r12,true))=some (qca k g q z m,decide (RM.may k g q z m)):=by
  intro hk g0 hg q0 hq z0 hz hm
  have hmm:0<=m/\m<4294967296:=by obtain ⟨a,b,c⟩:=hm;omega
  have hmay:RM.may k g q z m:=⟨hk,⟨g0,hg⟩,⟨q0,hq⟩,⟨z0,hz⟩,hm⟩
  unfold qca
  rw [if_pos hmay,decide_eq_true hmay,j3n,jst,show k % 256=k by omega,qtc n g0 (by omega),qtc n q0 (by omega),qtc n z0 (by omega),qtc n hmm.1 hmm.2]
  simp only [List.map_cons,List.map_nil,Option.bind_some]
  rw [qpf (by simp),Option.bind_some,qpf (by simp [hl]),Option.bind_some,qpf (by simp [hl]),Option.bind_some,qpf (by simp [hl]),Option.bind_some,qpf (by simp [hl]),Option.bind_some,jqu n hn (by simp [hl]),Option.bind_some]
  unfold RM.qcw RM.j33
  simp
 unfold qa7
 dsimp only
 rw [r3_is n m1]
 generalize e1:decide (k=1)=b1
 generalize e2:decide (k=2)=b2
 generalize e3:decide ((1073741824:Int)<g)=b3
 generalize e4:decide ((65535:Int)<q)=b4
 generalize e5:decide ((4096:Int)<z)=b5
 generalize e7:decide (g<0)=b7
 generalize e8:decide (q<0)=b8
 generalize e9:decide (z<0)=b9
 generalize e6:decide (SM.q2p m)=b6
 have no:(¬ (k=1\/k=2)\/g<0\/1073741824<g\/q<0\/65535<q\/z<0\/4096<z \/ ¬ SM.q2p m)->¬ RM.may k g q z m:=fun h hm=>by
  obtain ⟨h1,⟨h2,h3⟩,⟨h4,h5⟩,⟨h6,h7⟩,h8⟩:=hm
  rcases h with h|h|h|h|h|h|h|h
  ·exact h h1
  all_goals first|omega|exact h h8
 cases b7
 case true =>
  simp only [decide_eq_true_eq] at e7
  cases b1<;>cases b2<;>simp only [Bool.not_true,Bool.not_false,cond_true,cond_false,Option.bind_some]<;>first|exact hno (no (by omega))|(simp only [decide_eq_false_iff_not] at e1 e2;exact hno (no (by omega)))
 cases b3
 case true =>
  simp only [decide_eq_true_eq] at e3
  cases b1<;>cases b2<;>simp only [Bool.not_true,Bool.not_false,cond_true,cond_false,Option.bind_some]<;>first|exact hno (no (by omega))|(simp only [decide_eq_false_iff_not] at e1 e2;exact hno (no (by omega)))
 cases b8
 case true =>
  simp only [decide_eq_true_eq] at e8
  cases b1<;>cases b2<;>simp only [Bool.not_true,Bool.not_false,cond_true,cond_false,Option.bind_some]<;>first|exact hno (no (by omega))|(simp only [decide_eq_false_iff_not] at e1 e2;exact hno (no (by omega)))
 cases b4
 case true =>
  simp only [decide_eq_true_eq] at e4
  cases b1<;>cases b2<;>simp only [Bool.not_true,Bool.not_false,cond_true,cond_false,Option.bind_some]<;>first|exact hno (no (by omega))|(simp only [decide_eq_false_iff_not] at e1 e2;exact hno (no (by omega)))
 cases b9
 case true =>
  simp only [decide_eq_true_eq] at e9
  cases b1<;>cases b2<;>simp only [Bool.not_true,Bool.not_false,cond_true,cond_false,Option.bind_some]<;>first|exact hno (no (by omega))|(simp only [decide_eq_false_iff_not] at e1 e2;exact hno (no (by omega)))
 cases b5
 case true =>
  simp only [decide_eq_true_eq] at e5
  cases b1<;>cases b2<;>simp only [Bool.not_true,Bool.not_false,cond_true,cond_false,Option.bind_some]<;>first|exact hno (no (by omega))|(simp only [decide_eq_false_iff_not] at e1 e2;exact hno (no (by omega)))
 simp only [decide_eq_false_iff_not] at e7 e3 e8 e4 e9 e5
 cases b6
 case false =>
  simp only [decide_eq_false_iff_not] at e6
  cases b1<;>cases b2<;>simp only [Bool.not_true,Bool.not_false,cond_true,cond_false,Option.bind_some]<;>exact hno (no (by simp only [e6,not_false_eq_true,or_true]))
 simp only [decide_eq_true_eq] at e6
 cases b1<;>cases b2<;>simp only [decide_eq_true_eq,decide_eq_false_iff_not] at e1 e2<;>simp only [Bool.not_true,Bool.not_false,cond_true,cond_false,Option.bind_some]<;>first|exact tail (by omega) (by omega) (by omega) (by omega) (by omega) (by omega) (by omega) e6|exact hno (no (by omega))
theorem jpy (n:Nat) (hn:33<=n) (s:List UInt8):qsq n s=some (if RM.q1m (ba s) then (RM.q1u (ba s),(RM.q0i (ba s) 2,(RM.q0i (ba s) 6,(RM.q0i (ba s) 10,RM.q0i (ba s) 14)))) else (0,(0,(0,(0,0)))),decide (RM.q1m (ba s))):=by
 have hu:qsq n s=(bif !decide ((s.length:Int)=(32:Int)) then some (((0:Int),((0:Int),((0:Int),((0:Int),(0:Int))))),false) else (sAt s (1:Int)).bind fun c1=>q0n (IntKind.wrap .i64 c1) fun n2=>(q5d n s 2).bind fun r3=>(q5d n s 6).bind fun r4=>(q5d n s 10).bind fun r5=>(q5d n s 14).bind fun r6=>(qa7 n (n2,(r3,(r4,(r5,r6))))).bind fun r7=>(bif !r7.2 then some (((0:Int),((0:Int),((0:Int),((0:Int),(0:Int))))),false) else (bif !decide (r7.1=s) then some (((0:Int),((0:Int),((0:Int),((0:Int),(0:Int))))),false) else some ((n2,(r3,(r4,(r5,r6)))),true)))):=rfl
 rw [hu]
 by_cases hs:s.length=32
 ·have hz:(ba s).size=32:=hs
  have hk0:(0:Int)<=RM.q1u (ba s):=by unfold RM.q1u;omega
  have hk1:RM.q1u (ba s)<256:=by
   have:=((ba s).data.toList.getD 1 0).toNat_lt
   unfold RM.q1u;omega
  have e : ∀k:Nat,RM.num s k=RM.q0i (ba s) k:=fun _=>rfl
  have ek:((((s.getD 1 0).toNat:Nat):Int))=RM.q1u (ba s):=rfl
  have hw:IntKind.wrap .i64 (RM.q1u (ba s))=RM.q1u (ba s):=wrap64 (by omega) (by omega)
  have c1:=jfa (s:=s) (j:=1) (by omega)
  have d2:=j79 n (s:=s) (j:=2) (by omega) (by omega)
  have d6:=j79 n (s:=s) (j:=6) (by omega) (by omega)
  have d10:=j79 n (s:=s) (j:=10) (by omega) (by omega)
  have d14:=j79 n (s:=s) (j:=14) (by omega) (by omega)
  have f2:q5d n s (2:Int)=some (RM.q0i (ba s) 2):=d2
  have f6:q5d n s (6:Int)=some (RM.q0i (ba s) 6):=d6
  have f10:q5d n s (10:Int)=some (RM.q0i (ba s) 10):=d10
  have f14:q5d n s (14:Int)=some (RM.q0i (ba s) 14):=d14
  have g1:sAt s (1:Int)=some (RM.q1u (ba s)):=c1
  rw [decide_eq_true (by omega),Bool.not_true,cond_false,g1,Option.bind_some,j3n,hw,f2,Option.bind_some,f6,Option.bind_some,f10,Option.bind_some,f14,Option.bind_some]
  obtain ⟨a0,a1⟩:0<=RM.q0i (ba s) 2/\RM.q0i (ba s) 2<4294967296:=RM.qw3 s 2
  obtain ⟨b0,b1⟩:0<=RM.q0i (ba s) 6/\RM.q0i (ba s) 6<4294967296:=RM.qw3 s 6
  obtain ⟨c0,c1⟩:0<=RM.q0i (ba s) 10/\RM.q0i (ba s) 10<4294967296:=RM.qw3 s 10
  obtain ⟨d0,d1⟩:0<=RM.q0i (ba s) 14/\RM.q0i (ba s) 14<4294967296:=RM.qw3 s 14
  rw [j1e n hn (by omega),Option.bind_some]
  have hr:RM.q1m (ba s)↔RM.may (RM.q1u (ba s)) (RM.q0i (ba s) 2) (RM.q0i (ba s) 6) (RM.q0i (ba s) 10) (RM.q0i (ba s) 14)/\RM.qcw (RM.q1u (ba s)) (RM.q0i (ba s) 2) (RM.q0i (ba s) 6) (RM.q0i (ba s) 10) (RM.q0i (ba s) 14)=s:=by
   unfold RM.q1m
   refine ⟨fun ⟨_,h2,h3⟩=>⟨h2,?_⟩,fun ⟨h2,h3⟩=>⟨hz,h2,by rw [h3];rfl⟩⟩
   have:=congrArg (fun b=>b.data.toList) h3
   simpa [ba] using this
  unfold qca
  by_cases hm:RM.may (RM.q1u (ba s)) (RM.q0i (ba s) 2) (RM.q0i (ba s) 6) (RM.q0i (ba s) 10) (RM.q0i (ba s) 14)
  ·rw [if_pos hm,decide_eq_true hm,Bool.not_true,cond_false]
   by_cases ht:RM.qcw (RM.q1u (ba s)) (RM.q0i (ba s) 2) (RM.q0i (ba s) 6) (RM.q0i (ba s) 10) (RM.q0i (ba s) 14)=s
   ·rw [decide_eq_true ht,Bool.not_true,cond_false,if_pos (hr.2 ⟨hm,ht⟩),decide_eq_true (hr.2 ⟨hm,ht⟩)]
   ·rw [decide_eq_false ht,Bool.not_false,cond_true,if_neg (fun h=>ht (hr.1 h).2),decide_eq_false (fun h=>ht (hr.1 h).2)]
  ·rw [decide_eq_false hm,Bool.not_false,cond_true,if_neg (fun h=>hm (hr.1 h).1),decide_eq_false (fun h=>hm (hr.1 h).1)]
 ·have hno : ¬ RM.q1m (ba s):=fun h=>hs h.1
  rw [decide_eq_false (by omega),Bool.not_false,cond_true,if_neg hno,decide_eq_false hno]
end YthpgnliicpejoaaGreatDoor.AM
end Go.Proofs
