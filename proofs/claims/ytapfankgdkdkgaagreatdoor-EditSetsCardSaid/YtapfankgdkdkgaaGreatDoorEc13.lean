
import Derived.Test.YtapfankgdkdkgaaGreatDoorEc12
import Derived.Test.YtapfankgdkdkgaaGreatDoorEc8
import Derived.Lib.Join
import Derived.WalkKit
import Derived.LaidEql
import Derived.Stop.Asserts
import Derived.RowKitTokens
import Derived.Test.YtapfankgdkdkgaaGreatDoorProg
set_option linter.unusedVariables false
set_option linter.unusedSimpArgs false
namespace Go.Proofs
open Go.RowKit Go.Shelf Go.Lib
attribute [local go_sem] Oper.semAt_some
namespace YtapfankgdkdkgaaGreatDoor.AM
theorem jej (x:List UInt8) (w:World) (hI:Inv w) (hx:x.length≤1000000):Calls Tryz.prog 154 #[.string (ba x)] w fun e w'=>e = .returned (.bool (q8u x))∧Below w.heap.size w w':=by
 have h:=(jfc 1000001 Inv q7w).1.2 x (q8u x) (j4g 1000001 x (by omega) (by omega))
 refine (h (fun _ _=>False) w #[.string (ba x)] hI (fun b o h=>h.elim) ⟨q06 _,trivial⟩).mono ?_
 rintro e w' ⟨v,Pc,rfl,hb,_,_,hv⟩
 have hv':v = .bool (q8u x):=q0b hv
 rw [hv']
 exact ⟨rfl,hb⟩
set_option maxHeartbeats 2000000 in
theorem qwz (s:List UInt8) (w:World) (hI:Inv w):Calls Tryz.prog 119 #[.string (ba s)] w fun e w'=>e = .returned (.bool (q3e s))∧Below w.heap.size w w':=by
 refine (callsIn_wide (n:=9)).1 ?_
 refine callsIn_of_wp_marks Tryz.func119 rfl trivial ?_ rfl
 simp only [Tryz.ntmps119,List.size_toArray,List.length_cons,List.length_nil,Nat.reduceAdd,Nat.reduceSub,Array.replicate_succ,Array.replicate_zero,List.push_toArray,List.append_toArray,List.nil_append,List.cons_append]
 have hsz:(ba s).size=s.length:=q37 s
 by_cases h2:s.length≤60
 ·skip
  gi_wp2_with (refine ⟨trivial,?_⟩;gi_at_call 136;refine (callsIn_wide.2 (q48 _ _ _)).mono ?_;rintro e w' ⟨rfl,rfl⟩)
  obtain ⟨W0,hW0,hs0,hb0,g0,g1,g2,g3⟩:=four w (Obj.cells #[Value.bool false] 4) (Obj.cells #[Value.string (ba s)] 9) (Obj.cells #[Value.string { data:=#[47] }] 9) (Obj.cells #[Value.int IntKind.i64 0] 3)
  rw [hW0]
  clear hW0
  obtain ⟨c1,f1⟩:=q0j g0
  obtain ⟨c2,f2⟩:=q0j g1
  obtain ⟨c3,f3⟩:=q0j g2
  obtain ⟨c4,f4⟩:=q0j g3
  refine range_split (n:=9) (by omega) 47 (w.heap.size+1) (w.heap.size+1+1) (w.heap.size+1+2) s (by omega) rfl ⟨c2,f2⟩
   (Rng (.string (ba [47])) (w.heap.size+1+1) w.heap.size (w.heap.size+1+1) (w.heap.size+1+2) 47 w q8u) (RngX w.heap.size w q8u) (qq0 (by omega)) (qpq (by omega))
   (fun pre W h=>⟨h.cP,h.cC,(hI.below h.below).maxLen⟩) (fun pre W v h=>qou v h (by omega) (by omega) (by omega) (by omega) (by omega)) ⟨c3,c1,f1,c3,c4,hb0,rfl⟩
   (fun x=>{ tmps:=#[.string (ba s),undef,.pointer (some ⟨w.heap.size,0,none⟩),.string (ba x),.string (ba s),.int .i64 s.length,.bool (decide ((60:Int)<s.length)),.string (ba s),.func (.func 200) #[] #[.pointer (some ⟨w.heap.size+1+1,0,none⟩),.pointer (some ⟨w.heap.size+1,0,none⟩),.pointer (some ⟨w.heap.size+1+2,0,none⟩)],.string (ba x),undef,undef,undef],defers:=[] }) ?assign ?body ?done ?stop
  case assign =>
   intro l x W K hK
   gi_wp2
   exact hK
  case body =>
   intro l pre x r W hi hL hx
   have k1:=hi.res
   have k2:=hi.frz
   have hc:=jej x W (hI.below hi.below) (by omega)
   cases hpx:q8u x with
   | true =>
    rw [hpx] at hc
    gi_wp2_with (refine ⟨trivial,?_⟩;gi_at_call 154;refine (CallsIn.inRound l (callsIn_wide.2 hc)).mono ?_;rintro e w' ⟨rfl,hb'⟩)
    exact ⟨q2k hb',qd6 hi hb' (by simp [hpx]),qa1 hL hb'⟩
   | false =>
    rw [hpx] at hc
    gi_wp2_with (refine ⟨trivial,?_⟩;gi_at_call 154;refine (CallsIn.inRound l (callsIn_wide.2 hc)).mono ?_;rintro e w' ⟨rfl,hb'⟩;have k3:=q2u hb' hi.res;have k4:=(q3i hb' hi.res).trans hi.frz)
    exact ⟨(q2k hb').trans (KeepsOthers.setCell _ _ _),World.cell?_setCell_same' _ _ _ (by rw [k3];rfl),(hi.below.trans (hb'.mono hi.below.size)).setCell (by simp) _,by simp [hpx]⟩
  case done =>
   intro D W hD hi hK
   have k1:=hi.res
   have k2:=hi.frz
   gi_wp2
   have hK':=(KeepsOthers.setCell W ⟨w.heap.size,0,none⟩ (.bool true)).same D _ hK rfl
   have hW':Below w.heap.size w (W.setCell ⟨w.heap.size,0,none⟩ (.bool true)):=hi.below.setCell (by simp) _
   have k5:(W.setCell ⟨w.heap.size,0,none⟩ (.bool true)).cell? ⟨w.heap.size,0,none⟩=some (.bool true):=World.cell?_setCell_same' _ _ _ (by rw [k1];rfl)
   generalize W.setCell ⟨w.heap.size,0,none⟩ (.bool true)=W2 at hK' hW' k5
   refine ⟨by simp,.inl ⟨_,_,rfl,run_takeDeferred hK',?_⟩⟩
   have hg:=grownBy_putObj' W2 D (.deferred none)
   refine ⟨_,q2r (b:=w.heap.size) (v:=.bool true) rfl rfl hag (cell_kept k5 hg (fun r e=>by cases e;exact ⟨_,hK',rfl⟩)),?_,?_⟩
   ·have ha:=hi.all
    unfold q3e;simp [h2,ha]
   ·exact hW'.grown hg hW'.size (fun k e=>by cases e;omega)
  case stop =>
   intro D pre x t W hD hsp hi hK
   refine ⟨by simp,.inl ⟨_,_,rfl,run_takeDeferred hK,?_⟩⟩
   have hg:=grownBy_putObj' W D (.deferred none)
   refine ⟨_,q2r (b:=w.heap.size) (v:=.bool false) rfl rfl hag (cell_kept hi.res hg (fun r e=>by cases e;exact ⟨_,hK,rfl⟩)),?_,?_⟩
   ·have ha:=j0z hsp hi.no
    unfold q3e;simp [ha]
   ·exact hi.below.grown hg hi.below.size (fun k e=>by cases e;omega)
 ·gi_wp2
  refine ⟨_,q2r (b:=w.heap.size) (v:=.bool false) rfl rfl hag (by simp),?_,?_⟩
  ·unfold q3e;simp [h2]
  ·exact (Below.refl _ w).alloc (Nat.le_refl _) _
def qkt (s:List UInt8):Option Bool:=some (q3e s)
def jgc:FC:={ f:=119,args:=[qmx],res:=jf7,F:=fun p=>qkt p }
theorem j2f:q05 Inv Tryz.prog jgc:=fun G hG=>⟨⟨by kernel_rfl,fun (s:List UInt8) r h=>by
 have hr:q3e s=r:=Option.some.inj h
 intro Pc w vs hg hlt hv
 obtain ⟨l⟩:=vs
 match l,hv with
 | [x],⟨h1,_⟩ =>
  obtain rfl:x = .string (ba s):=q0b h1
  refine (qwz s w (hG.im w hg)).mono ?_
  rintro e w' ⟨rfl,hb⟩
  subst hr
  exact q46 rfl hb (q06 _)⟩,rfl⟩
end YtapfankgdkdkgaaGreatDoor.AM
end Go.Proofs
namespace Go.Proofs
open Go.RowKit Go.Shelf Go.Lib
attribute [local go_sem] Oper.semAt_some
namespace YtapfankgdkdkgaaGreatDoor.AM
theorem j73 (x:List UInt8) (w:World) (hI:Inv w) (hx:x.length≤1000000):Calls Tryz.prog 134 #[.string (ba x)] w fun e w'=>e = .returned (.bool (q1l x))∧Below w.heap.size w w':=by
 have h:=(qs8 1000001 Inv q7w).1.2 x (q1l x) (qjr 1000001 x (by omega))
 refine (h (fun _ _=>False) w #[.string (ba x)] hI (fun b o h=>h.elim) ⟨q06 _,trivial⟩).mono ?_
 rintro e w' ⟨v,Pc,rfl,hb,_,_,hv⟩
 have hv':v = .bool (q1l x):=q0b hv
 rw [hv']
 exact ⟨rfl,hb⟩
set_option maxHeartbeats 2000000 in
theorem j47 (s:List UInt8) (w:World) (hI:Inv w) (h2:s.length≤1000000):Calls Tryz.prog 133 #[.string (ba s)] w fun e w'=>e = .returned (.bool (anyS s))∧Below w.heap.size w w':=by
 refine (callsIn_wide (n:=9)).1 ?_
 refine callsIn_of_wp_marks Tryz.func133 rfl trivial ?_ rfl
 simp only [Tryz.ntmps133,List.size_toArray,List.length_cons,List.length_nil,Nat.reduceAdd,Nat.reduceSub,Array.replicate_succ,Array.replicate_zero,List.push_toArray,List.append_toArray,List.nil_append,List.cons_append]
 have hsz:(ba s).size=s.length:=q37 s
 have key:anyS s = !((spl 47 [] s).all fun x=>!q1l x):=by unfold anyS;rw [List.any_eq_not_all_not]
 ·skip
  gi_wp2_with (refine ⟨trivial,?_⟩;gi_at_call 136;refine (callsIn_wide.2 (q48 _ _ _)).mono ?_;rintro e w' ⟨rfl,rfl⟩)
  obtain ⟨W0,hW0,hs0,hb0,g0,g1,g2,g3⟩:=four w (Obj.cells #[Value.bool false] 4) (Obj.cells #[Value.string (ba s)] 9) (Obj.cells #[Value.string { data:=#[47] }] 9) (Obj.cells #[Value.int IntKind.i64 0] 3)
  rw [hW0]
  clear hW0
  obtain ⟨c1,f1⟩:=q0j g0
  obtain ⟨c2,f2⟩:=q0j g1
  obtain ⟨c3,f3⟩:=q0j g2
  obtain ⟨c4,f4⟩:=q0j g3
  refine range_split (n:=9) (by omega) 47 (w.heap.size+1) (w.heap.size+1+1) (w.heap.size+1+2) s (by omega) rfl ⟨c2,f2⟩
   (Rng (.string (ba [47])) (w.heap.size+1+1) w.heap.size (w.heap.size+1+1) (w.heap.size+1+2) 47 w (fun x=>!q1l x)) (RngY w.heap.size w (fun x=>!q1l x)) (qq0 (by omega)) (jhf (by omega))
   (fun pre W h=>⟨h.cP,h.cC,(hI.below h.below).maxLen⟩) (fun pre W v h=>qou v h (by omega) (by omega) (by omega) (by omega) (by omega)) ⟨c3,c1,f1,c3,c4,hb0,rfl⟩
   (fun x=>{ tmps:=#[.string (ba s),undef,.pointer (some ⟨w.heap.size,0,none⟩),.string (ba x),.string (ba s),.func (.func 200) #[] #[.pointer (some ⟨w.heap.size+1+1,0,none⟩),.pointer (some ⟨w.heap.size+1,0,none⟩),.pointer (some ⟨w.heap.size+1+2,0,none⟩)],.string (ba x),undef,undef],defers:=[] }) ?assign ?body ?done ?stop
  case assign =>
   intro l x W K hK
   gi_wp2
   exact hK
  case body =>
   intro l pre x r W hi hL hx
   have k1:=hi.res
   have k2:=hi.frz
   have hc:=j73 x W (hI.below hi.below) (by omega)
   cases hpx:q1l x with
   | false =>
    rw [hpx] at hc
    gi_wp2_with (refine ⟨trivial,?_⟩;gi_at_call 134;refine (CallsIn.inRound l (callsIn_wide.2 hc)).mono ?_;rintro e w' ⟨rfl,hb'⟩)
    exact ⟨q2k hb',qd6 hi hb' (by simp [hpx]),qa1 hL hb'⟩
   | true =>
    rw [hpx] at hc
    gi_wp2_with (refine ⟨trivial,?_⟩;gi_at_call 134;refine (CallsIn.inRound l (callsIn_wide.2 hc)).mono ?_;rintro e w' ⟨rfl,hb'⟩;have k3:=q2u hb' hi.res;have k4:=(q3i hb' hi.res).trans hi.frz)
    exact ⟨(q2k hb').trans (KeepsOthers.setCell _ _ _),World.cell?_setCell_same' _ _ _ (by rw [k3];rfl),(hi.below.trans (hb'.mono hi.below.size)).setCell (by simp) _,by simp [hpx]⟩
  case done =>
   intro D W hD hi hK
   have k1:=hi.res
   have k2:=hi.frz
   gi_wp2
   have hK':=(KeepsOthers.setCell W ⟨w.heap.size,0,none⟩ (.bool false)).same D _ hK rfl
   have hW':Below w.heap.size w (W.setCell ⟨w.heap.size,0,none⟩ (.bool false)):=hi.below.setCell (by simp) _
   have k5:(W.setCell ⟨w.heap.size,0,none⟩ (.bool false)).cell? ⟨w.heap.size,0,none⟩=some (.bool false):=World.cell?_setCell_same' _ _ _ (by rw [k1];rfl)
   generalize W.setCell ⟨w.heap.size,0,none⟩ (.bool false)=W2 at hK' hW' k5
   refine ⟨by simp,.inl ⟨_,_,rfl,run_takeDeferred hK',?_⟩⟩
   have hg:=grownBy_putObj' W2 D (.deferred none)
   refine ⟨_,q2r (b:=w.heap.size) (v:=.bool false) rfl rfl hag (cell_kept k5 hg (fun r e=>by cases e;exact ⟨_,hK',rfl⟩)),?_,?_⟩
   ·have ha:=hi.all
    rw [key,ha];rfl
   ·exact hW'.grown hg hW'.size (fun k e=>by cases e;omega)
  case stop =>
   intro D pre x t W hD hsp hi hK
   refine ⟨by simp,.inl ⟨_,_,rfl,run_takeDeferred hK,?_⟩⟩
   have hg:=grownBy_putObj' W D (.deferred none)
   refine ⟨_,q2r (b:=w.heap.size) (v:=.bool true) rfl rfl hag (cell_kept hi.res hg (fun r e=>by cases e;exact ⟨_,hK,rfl⟩)),?_,?_⟩
   ·have ha:=j0z hsp hi.no
    rw [key,ha];rfl
   ·exact hi.below.grown hg hi.below.size (fun k e=>by cases e;omega)
theorem jd8 (s:List UInt8) (b:Nat):(ba s).extract 0 b=ba (s.take b):=by
 rw [← j8p ((ba s).extract 0 b)]
 congr 1
 unfold unB ba
 rw [ByteArray.data_extract]
 simp
theorem jce (x:List UInt8) (w:World) (hI:Inv w) (hx:x.length≤1000000):Calls Tryz.prog 164 #[.string (ba x),.int .u8 47] w fun e w'=>e = .returned (.int .i64 (q6x 47 x))∧Below w.heap.size w w':=by
 have h:=(j0b 1000001 Inv q7w).1.2 (x,(47:Int)) (q6x 47 x) (qnw 1000001 x (by omega) (by omega))
 refine (h (fun _ _=>False) w #[.string (ba x),.int .u8 47] hI (fun b o h=>h.elim) ⟨q06 _,q06 _,trivial⟩).mono ?_
 rintro e w' ⟨v,Pc,rfl,hb,_,_,hv⟩
 have hv':v = .int .i64 (q6x 47 x):=q0b hv
 rw [hv']
 exact ⟨rfl,hb⟩
theorem qx0 (s:List UInt8) (w:World) (hI:Inv w) (hs:s.length≤1000000):Calls Tryz.prog 131 #[.string (ba s)] w fun e w'=>e = .returned (.string (ba (q2j s)))∧Below w.heap.size w w':=by
 have hl:=j0c 47 s
 have hsz:(ba s).size=s.length:=q37 s
 have hc:=jce s w hI hs
 go_enter Tryz.func131,Tryz.ntmps131
 by_cases h0:q6x 47 s = -1
 ·rw [h0] at hc
  go_wp2_with (go_at_call 164;refine hc.mono ?_)
  rintro e w' ⟨rfl,hb⟩
  go_wp2
  go_ret
  refine ⟨?_,hb⟩
  show Ending.returned (.string ((ba s).extract 0 (max 0 (-1:Int)).toNat))=_
  rw [jd8];unfold q2j;rw [h0];rfl
 ·obtain ⟨k,hk⟩ : ∃ k:Nat,q6x 47 s=(k:Int):=⟨(q6x 47 s).toNat,by omega⟩
  rw [hk] at hc
  go_wp2_with (go_at_call 164;refine hc.mono ?_)
  rintro e w' ⟨rfl,hb⟩
  go_wp2
  go_ret
  refine ⟨?_,hb⟩
  show Ending.returned (.string ((ba s).extract 0 (max 0 (k:Int)).toNat))=_
  rw [jd8];unfold q2j;rw [hk,Int.max_eq_right (by omega)]
theorem jem (x:List UInt8) (w:World) (hI:Inv w) (hx:x.length≤1000000):Calls Tryz.prog 155 #[.string (ba x),.string (ba [118])] w fun e w'=>e = .returned (.string (ba (q1k x)))∧Below w.heap.size w w':=by
 have h:=(qcs 100 Inv q7w).1.2 (x,([118]:List UInt8)) (q1k x) (qss 100 x (by omega))
 refine (h (fun _ _=>False) w #[.string (ba x),.string (ba [118])] hI (fun b o h=>h.elim) ⟨q06 _,q06 _,trivial⟩).mono ?_
 rintro e w' ⟨v,Pc,rfl,hb,_,_,hv⟩
 have hv':v = .string (ba (q1k x)):=q0b hv
 rw [hv']
 exact ⟨rfl,hb⟩
theorem j6p (n:Int) (w:World) (hI:Inv w) (h0:2≤n) (h1:n≤999999999):Calls Tryz.prog 76 #[.int .i64 n] w fun e w'=>e = .returned (.string (ba (Lib.itoa n)))∧Below w.heap.size w w':=by
 refine (Any.strconv_Itoa Tryz.laysItoa n (by omega) (by omega) w hI.tab).mono ?_
 rintro e w' ⟨rfl,k,os,rfl⟩
 exact ⟨rfl,Lib.below_grow _ w (Nat.le_refl _) k os⟩
set_option maxHeartbeats 2000000 in
theorem j6i (s:List UInt8) (w:World) (hI:Inv w) (hs:s.length≤1000000):Calls Tryz.prog 135 #[.string (ba s)] w fun e w'=>e = .returned (.tuple #[.int .i64 (numOf (q1k s)),.bool (qmh (q1k s))])∧Below w.heap.size w w':=by
 have hc:=jem s w hI hs
 have hl:=qs9 s
 go_enter Tryz.func135,Tryz.ntmps135
 go_wp2_with (go_at_call 155;refine hc.mono ?_)
 rintro e w1 ⟨rfl,hb1⟩
 clear hc
 have hI1:=hI.below hb1
 have e1:(ba (q1k s)).data.toList=q1k s:=by simp [ba]
 have hl':(ba (q1k s)).size≤281474976710656:=by rw [q37];omega
 obtain ⟨ts,ps,hsy⟩:=hI1.syn
 obtain ⟨tr,pr,hrg⟩:=hI1.rng
 cases h:Lib.atoiAll (q1k s) with
 | ok v =>
  go_wp2_with (go_at_call 167;refine (Any.strconv_Atoi_ok Tryz.laysAtoi (ba (q1k s)) (by omega) v (by rw [e1];exact h) w1).mono ?_)
  rintro e w2 ⟨rfl,hw⟩
  have hb2:Below w1.heap.size w1 w2:=by
   rcases hw with rfl|⟨t,rfl⟩
   ·exact Below.refl _ _
   ·exact Lib.bytesWorld_below _ _ _
  clear hw
  have hb:Below w.heap.size w w2:=hb1.trans (hb2.mono hb1.size)
  by_cases h2:2≤v
  ·by_cases h3:v≤999999999
   ·have hi:=j6p v w2 (hI.below hb) h2 h3
    go_wp2_with (go_at_call 76;refine hi.mono ?_)
    rintro e w3 ⟨rfl,hb3⟩
    go_wp2
    go_ret2
    refine ⟨?_,hb.trans (hb3.mono hb.size)⟩
    unfold numOf qmh;rw [h]
    simp [h2,h3,q77]
    rw [Bool.eq_iff_iff];simp
   ·go_wp2
    go_ret2
    refine ⟨?_,hb⟩
    unfold numOf qmh;rw [h]
    simp [h2,show ¬ v≤999999999 from by omega]
  ·go_wp2
   go_ret2
   refine ⟨?_,hb⟩
   unfold numOf qmh;rw [h]
   simp [show ¬ 2≤v from by omega]
 | «syntax» =>
  go_wp2_with (go_at_call 167;refine (Any.strconv_Atoi_syntax Tryz.laysAtoi (ba (q1k s)) hl' (by rw [e1];exact h) _ w1 hsy (Or.inr ⟨_,_,rfl⟩)).mono ?_)
  rintro e w2 ⟨N,rfl,hN,hc,hb2⟩
  go_wp2
  go_ret2
  refine ⟨?_,hb1.trans (hb2.mono hb1.size)⟩
  unfold numOf qmh;rw [h];rfl
 | range =>
  go_wp2_with (go_at_call 167;refine (Any.strconv_Atoi_range Tryz.laysAtoi (ba (q1k s)) hl' (by rw [e1];exact h) _ w1 hrg (Or.inr ⟨_,_,rfl⟩)).mono ?_)
  rintro e w2 ⟨N,rfl,hN,hc,hb2⟩
  rw [e1]
  go_wp2
  go_ret2
  refine ⟨?_,hb1.trans (hb2.mono hb1.size)⟩
  unfold numOf qmh;rw [h];rfl
def qtc (s:List UInt8):Option Bool:=if s.length≤1000000 then some (anyS s) else none
def jjs:FC:={ f:=133,args:=[qmx],res:=jf7,F:=fun p=>qtc p }
theorem jjh:q05 Inv Tryz.prog jjs:=fun G hG=>⟨⟨by kernel_rfl,fun (s:List UInt8) r h=>by
 have h':qtc s=some r:=h
 unfold qtc at h'
 split at h'
 case isFalse=>cases h'
 rename_i hc
 have hr:anyS s=r:=Option.some.inj h'
 intro Pc w vs hg hlt hv
 obtain ⟨l⟩:=vs
 match l,hv with
 | [x],⟨h1,_⟩ =>
  obtain rfl:x = .string (ba s):=q0b h1
  refine (j47 s w (hG.im w hg) hc).mono ?_
  rintro e w' ⟨rfl,hb⟩
  subst hr
  exact q46 rfl hb (q06 _)⟩,rfl⟩
def qkw (s:List UInt8):Option (List UInt8):=if s.length≤1000000 then some (q2j s) else none
def je3:FC:={ f:=131,args:=[qmx],res:=qmx,F:=fun p=>qkw p }
theorem jeq:q05 Inv Tryz.prog je3:=fun G hG=>⟨⟨by kernel_rfl,fun (s:List UInt8) r h=>by
 have h':qkw s=some r:=h
 unfold qkw at h'
 split at h'
 case isFalse=>cases h'
 rename_i hc
 have hr:q2j s=r:=Option.some.inj h'
 intro Pc w vs hg hlt hv
 obtain ⟨l⟩:=vs
 match l,hv with
 | [x],⟨h1,_⟩ =>
  obtain rfl:x = .string (ba s):=q0b h1
  refine (qx0 s w (hG.im w hg) hc).mono ?_
  rintro e w' ⟨rfl,hb⟩
  subst hr
  exact q46 rfl hb (q06 (.string (ba (q2j s))))⟩,rfl⟩
def qns (s:List UInt8):Option (Int×Bool):=if s.length≤1000000 then some (numOf (q1k s),qmh (q1k s)) else none
def jkl:FC:={ f:=135,args:=[qmx],res:=.tup [.c (.d (.int .i64)),.c (.d .bool)],F:=fun p=>qns p }
theorem jjf:q05 Inv Tryz.prog jkl:=fun G hG=>⟨⟨by kernel_rfl,fun (s:List UInt8) (r:Int×Bool) h=>by
 have h':qns s=some r:=h
 unfold qns at h'
 split at h'
 case isFalse=>cases h'
 rename_i hc
 have hr:(numOf (q1k s),qmh (q1k s))=r:=Option.some.inj h'
 intro Pc w vs hg hlt hv
 obtain ⟨l⟩:=vs
 match l,hv with
 | [x],⟨h1,_⟩ =>
  obtain rfl:x = .string (ba s):=q0b h1
  refine (j6i s w (hG.im w hg) hc).mono ?_
  rintro e w' ⟨rfl,hb⟩
  subst hr
  refine ⟨_,Pc,rfl,hb,fun _ _ h=>h,fun _ _ h=>Or.inl h,?_⟩
  exact ⟨#[.int .i64 (numOf (q1k s)),.bool (qmh (q1k s))],rfl,q06 (σ:=qh1) (.int .i64 (numOf (q1k s))),q06 (σ:=qh1) (.bool (qmh (q1k s))),trivial⟩⟩,rfl⟩
end YtapfankgdkdkgaaGreatDoor.AM
end Go.Proofs
namespace Go.Proofs.YtapfankgdkdkgaaGreatDoor.AM
abbrev Tv:Ty:=.prod (.int .i64) (.prod (.int .i64) (.prod (.int .i64) (.prod .str .str)))
open Go.RowKit
set_option maxRecDepth 20000
abbrev Zc:=((Bool×Unit)×Unit×Unit)⊕((Yy×Unit)×Unit×Unit)
abbrev Zd:=((Bool×Unit)×Unit×Unit)⊕(Unit×Unit×Unit)
abbrev Ze:=((Yy×Unit)×Unit×Unit)⊕(Unit×Unit×Unit)
def qr5 (n:Nat) (a1:Yy):Option Yy :=
 (qqd n a1 (47:Int)).bind fun r1=>q00 (IntKind.wrap .i64 (r1+1)) fun n2=>(q1a a1 n2 (a1.length:Int)).bind fun s3=>some s3
def jgm (n:Nat):FC:={ f:=132,args:=[.one (.c (.d .str))],res:=.one (.c (.d .str)),F:=fun p=>qr5 n p }
theorem jh8 (n:Nat):q05 Inv Tryz.prog (jgm n):=mkF Tryz.func132 [] [] (cc (j0b n) <| cn) (by kernel_rfl) trivial (by intro a;kernel_rfl)
def qd1 (n:Nat) (a1:Yy):Option (Yy×(Int×Bool)) :=
 (qkw a1).bind fun (r1:Yy)=>(qr5 n a1).bind fun r2=>(qkt a1).bind fun (r3:Bool)=>(bif !r3 then (bif !r3 then some (([]:Yy),((0:Int),false)) else (qck n r2).bind fun r4=>(bif !r4 then some (a1,((0:Int),true)) else (qns r2).bind fun (r5:Int×Bool)=>(bif !r5.2 then some (([]:Yy),((0:Int),false)) else (bif decide (r1=([]:Yy)) then some (([]:Yy),((0:Int),false)) else some (r1,(r5.1,true)))))) else (qtc r1).bind fun (r6:Bool)=>(bif r6 then some (([]:Yy),((0:Int),false)) else (qck n r2).bind fun r7=>(bif !r7 then some (a1,((0:Int),true)) else (qns r2).bind fun (r8:Int×Bool)=>(bif !r8.2 then some (([]:Yy),((0:Int),false)) else (bif decide (r1=([]:Yy)) then some (([]:Yy),((0:Int),false)) else some (r1,(r8.1,true)))))))
def j8d (n:Nat):FC:={ f:=104,args:=[.one (.c (.d .str))],res:=.tup [.c (.d .str),.c (.d (.int .i64)),.c (.d .bool)],F:=fun p=>qd1 n p }
theorem qu9 (n:Nat):q05 Inv Tryz.prog (j8d n):=mkF Tryz.func104 [] [] (cc (jeq) <| cc (jh8 n) <| cc (j2f) <| cc (qs8 n) <| cc (jjf) <| cc (jjh) <| cn) (by kernel_rfl) trivial (by intro a;kernel_rfl)
def q7u (n:Nat) (a1:Yy):Option Bool :=
 (qd1 n a1).bind fun r1=>some r1.2.2
def jca (n:Nat):FC:={ f:=73,args:=[.one (.c (.d .str))],res:=.one (.c (.d .bool)),F:=fun p=>q7u n p }
theorem qdn (n:Nat):q05 Inv Tryz.prog (jca n):=mkF Tryz.func73 [] [] (cc (qu9 n) <| cn) (by kernel_rfl) trivial (by intro a;kernel_rfl)
def qi6 (n:Nat) (a1:Yy) (a2:Vv):Option Bool :=
 (qd1 n a1).bind fun r1=>(bif !r1.2.2 then (bif !r1.2.2 then some false else (bif decide (r1.2.1=0) then some (decide (a2.1<2)) else some (decide (a2.1=r1.2.1)))) else (q53 n a2).bind fun r2=>(bif !r2 then some false else (bif decide (r1.2.1=0) then some (decide (a2.1<2)) else some (decide (a2.1=r1.2.1)))))
def jf3 (n:Nat):FC:={ f:=75,args:=[.one (.c (.d .str)),.one (.agg [.d (.int .i64),.d (.int .i64),.d (.int .i64),.d .str,.d .str])],res:=.one (.c (.d .bool)),F:=fun p=>qi6 n p.1 p.2 }
theorem qzs (n:Nat):q05 Inv Tryz.prog (jf3 n):=mkF Tryz.func75 [] [] (cc (qu9 n) <| cc (q9t n) <| cn) (by kernel_rfl) trivial (by intro a;kernel_rfl)
@[reducible] def j4v:SSt:=⟨[(0,.one (.c (.d .str))),(3,.one (.c (.d (.int .i64))))],[],[]⟩
@[reducible] def qv1:List (Exit×SSt):=[(.ret,⟨[(2,.one (.c (.d .bool)))],[],[]⟩),(.exit 0,⟨[(0,.one (.c (.d .str)))],[],[]⟩)]
def qjn (n:Nat) (rec:(Yy)→Int→Option Zc) (a1:Yy) (a2:Int):Option Zc :=
 (bif decide (a2<(a1.length:Int)) then (sAt a1 a2).bind fun c1=>(bif decide (97≤c1) then (bif decide (c1≤122) then q00 (IntKind.wrap .i64 (a2+1)) fun n2=>rec a1 n2 else (bif decide (65≤c1) then (bif decide (c1≤90) then q00 (IntKind.wrap .i64 (a2+1)) fun n3=>rec a1 n3 else (bif decide (48≤c1) then (bif !(decide (c1≤57)) then (bif !decide (c1=45) then (bif !decide (c1=95) then (bif !decide (c1=46) then some (Sum.inl ((false,()),((),()))) else q00 (IntKind.wrap .i64 (a2+1)) fun n4=>rec a1 n4) else q00 (IntKind.wrap .i64 (a2+1)) fun n5=>rec a1 n5) else q00 (IntKind.wrap .i64 (a2+1)) fun n6=>rec a1 n6) else q00 (IntKind.wrap .i64 (a2+1)) fun n7=>rec a1 n7) else (bif !decide (c1=45) then (bif !decide (c1=95) then (bif !decide (c1=46) then some (Sum.inl ((false,()),((),()))) else q00 (IntKind.wrap .i64 (a2+1)) fun n8=>rec a1 n8) else q00 (IntKind.wrap .i64 (a2+1)) fun n9=>rec a1 n9) else q00 (IntKind.wrap .i64 (a2+1)) fun n10=>rec a1 n10))) else (bif decide (48≤c1) then (bif !(decide (c1≤57)) then (bif !decide (c1=45) then (bif !decide (c1=95) then (bif !decide (c1=46) then some (Sum.inl ((false,()),((),()))) else q00 (IntKind.wrap .i64 (a2+1)) fun n11=>rec a1 n11) else q00 (IntKind.wrap .i64 (a2+1)) fun n12=>rec a1 n12) else q00 (IntKind.wrap .i64 (a2+1)) fun n13=>rec a1 n13) else q00 (IntKind.wrap .i64 (a2+1)) fun n14=>rec a1 n14) else (bif !decide (c1=45) then (bif !decide (c1=95) then (bif !decide (c1=46) then some (Sum.inl ((false,()),((),()))) else q00 (IntKind.wrap .i64 (a2+1)) fun n15=>rec a1 n15) else q00 (IntKind.wrap .i64 (a2+1)) fun n16=>rec a1 n16) else q00 (IntKind.wrap .i64 (a2+1)) fun n17=>rec a1 n17)))) else (bif decide (65≤c1) then (bif decide (c1≤90) then q00 (IntKind.wrap .i64 (a2+1)) fun n18=>rec a1 n18 else (bif decide (48≤c1) then (bif !(decide (c1≤57)) then (bif !decide (c1=45) then (bif !decide (c1=95) then (bif !decide (c1=46) then some (Sum.inl ((false,()),((),()))) else q00 (IntKind.wrap .i64 (a2+1)) fun n19=>rec a1 n19) else q00 (IntKind.wrap .i64 (a2+1)) fun n20=>rec a1 n20) else q00 (IntKind.wrap .i64 (a2+1)) fun n21=>rec a1 n21) else q00 (IntKind.wrap .i64 (a2+1)) fun n22=>rec a1 n22) else (bif !decide (c1=45) then (bif !decide (c1=95) then (bif !decide (c1=46) then some (Sum.inl ((false,()),((),()))) else q00 (IntKind.wrap .i64 (a2+1)) fun n23=>rec a1 n23) else q00 (IntKind.wrap .i64 (a2+1)) fun n24=>rec a1 n24) else q00 (IntKind.wrap .i64 (a2+1)) fun n25=>rec a1 n25))) else (bif decide (48≤c1) then (bif !(decide (c1≤57)) then (bif !decide (c1=45) then (bif !decide (c1=95) then (bif !decide (c1=46) then some (Sum.inl ((false,()),((),()))) else q00 (IntKind.wrap .i64 (a2+1)) fun n26=>rec a1 n26) else q00 (IntKind.wrap .i64 (a2+1)) fun n27=>rec a1 n27) else q00 (IntKind.wrap .i64 (a2+1)) fun n28=>rec a1 n28) else q00 (IntKind.wrap .i64 (a2+1)) fun n29=>rec a1 n29) else (bif !decide (c1=45) then (bif !decide (c1=95) then (bif !decide (c1=46) then some (Sum.inl ((false,()),((),()))) else q00 (IntKind.wrap .i64 (a2+1)) fun n30=>rec a1 n30) else q00 (IntKind.wrap .i64 (a2+1)) fun n31=>rec a1 n31) else q00 (IntKind.wrap .i64 (a2+1)) fun n32=>rec a1 n32)))) else some (Sum.inr (((a1,()),((),())))))
def qsh (n:Nat):Stp j4v qv1:=fun rec p=>qjn n (fun a1 a2=>rec ((a1,(a2,())),((),()))) p.1.1 p.1.2.1
def q6a (n m:Nat) (a1:Yy) (a2:Int):Option Zc:=q0v (qsh n) m ((a1,(a2,())),((),()))
theorem qe9 (n m:Nat) (a1 a2):q6a n (m+1) a1 a2=qjn n (fun a1 a2=>q6a n m a1 a2) a1 a2:=rfl
def qht (n:Nat) (a1:Yy):Option Bool :=
 (q6a n n a1 (0:Int)).bind fun o33=>Sum.elim (fun (q34:(Bool×Unit)×Unit×Unit)=>some q34.1.1) (fun (q35:(Yy×Unit)×Unit×Unit)=>(bif !decide (q35.1.1=([]:Yy)) then (bif !decide (q35.1.1=([46]:Yy)) then some (!decide (q35.1.1=([46,46]:Yy))) else some false) else some false)) o33
def jav (n:Nat):FC:={ f:=130,args:=[.one (.c (.d .str))],res:=.one (.c (.d .bool)),F:=fun p=>qht n p }
theorem j9g (n:Nat):q05 Inv Tryz.prog (jav n):=mkF Tryz.func130 [] [q4o qsh n] (cn) (by kernel_rfl) ⟨ls (by intro rec p;kernel_rfl),trivial⟩ (by intro a;kernel_rfl)
@[reducible] def j66:SSt:=⟨[(3,.one (.c (.d (.lst .str)))),(4,.one (.c (.d (.int .i64))))],[],[]⟩
@[reducible] def qsc:List (Exit×SSt):=[(.ret,⟨[(2,.one (.c (.d .bool)))],[],[]⟩),(.exit 0,⟨[],[],[]⟩)]
def qm1 (n:Nat) (rec:(List Yy)→Int→Option Zd) (a1:List Yy) (a2:Int):Option Zd :=
 (bif decide (a2<(a1.length:Int)) then (q0d a1 a2).bind fun x2=>(qht n x2).bind fun r3=>(bif !r3 then some (Sum.inl ((false,()),((),()))) else q00 (IntKind.wrap .i64 (a2+1)) fun n4=>rec a1 n4) else some (Sum.inr (((),((),())))))
def qu3 (n:Nat):Stp j66 qsc:=fun rec p=>qm1 n (fun a1 a2=>rec ((a1,(a2,())),((),()))) p.1.1 p.1.2.1
def q5w (n m:Nat) (a1:List Yy) (a2:Int):Option Zd:=q0v (qu3 n) m ((a1,(a2,())),((),()))
theorem qfc (n m:Nat) (a1 a2):q5w n (m+1) a1 a2=qm1 n (fun a1 a2=>q5w n m a1 a2) a1 a2:=rfl
def qc6 (n:Nat) (a1:Yy):Option Bool :=
 (bif decide (60<(a1.length:Int)) then some false else (q0e n a1 (47:Int)).bind fun r1=>(q5w n n r1 (0:Int)).bind fun o5=>Sum.elim (fun (q6:(Bool×Unit)×Unit×Unit)=>some q6.1.1) (fun (q7:(Unit)×Unit×Unit)=>some true) o5)
def j8h (n:Nat):FC:={ f:=103,args:=[.one (.c (.d .str))],res:=.one (.c (.d .bool)),F:=fun p=>qc6 n p }
theorem qt7 (n:Nat):q05 Inv Tryz.prog (j8h n):=mkF Tryz.func103 [] [q4o qu3 n] (cc (q2t n) <| cc (j9g n) <| cn) (by kernel_rfl) ⟨ls (by intro rec p;kernel_rfl),trivial⟩ (by intro a;kernel_rfl)
@[reducible] def qwr:SSt:=⟨[(0,.one (.c (.d .str))),(3,.one (.c (.d (.int .i64))))],[],[]⟩
@[reducible] def qqc:List (Exit×SSt):=[(.ret,⟨[(2,.one (.c (.d .bool)))],[],[]⟩),(.exit 0,⟨[(0,.one (.c (.d .str)))],[],[]⟩)]
def qf8 (n:Nat) (rec:(Yy)→Int→Option Zc) (a1:Yy) (a2:Int):Option Zc :=
 (bif decide (a2<(a1.length:Int)) then (sAt a1 a2).bind fun c1=>(bif decide (c1<48) then some (Sum.inl ((false,()),((),()))) else (sAt a1 a2).bind fun c2=>(bif decide (57<c2) then some (Sum.inl ((false,()),((),()))) else q00 (IntKind.wrap .i64 (a2+1)) fun n3=>rec a1 n3)) else some (Sum.inr (((a1,()),((),())))))
def qnm (n:Nat):Stp qwr qqc:=fun rec p=>qf8 n (fun a1 a2=>rec ((a1,(a2,())),((),()))) p.1.1 p.1.2.1
def q4y (n m:Nat) (a1:Yy) (a2:Int):Option Zc:=q0v (qnm n) m ((a1,(a2,())),((),()))
theorem qby (n m:Nat) (a1 a2):q4y n (m+1) a1 a2=qf8 n (fun a1 a2=>q4y n m a1 a2) a1 a2:=rfl
def q9i (n:Nat) (a1:Yy):Option Bool :=
 (q4y n n a1 (1:Int)).bind fun o4=>Sum.elim (fun (q5:(Bool×Unit)×Unit×Unit)=>some q5.1.1) (fun (q6:(Yy×Unit)×Unit×Unit)=>(bif decide (1<(q6.1.1.length:Int)) then (sAt q6.1.1 (0:Int)).bind fun c7=>some (decide (c7=118)) else some false)) o4
def j3z (n:Nat):FC:={ f:=70,args:=[.one (.c (.d .str))],res:=.one (.c (.d .bool)),F:=fun p=>q9i n p }
theorem qoe (n:Nat):q05 Inv Tryz.prog (j3z n):=mkF Tryz.func70 [] [q4o qnm n] (cn) (by kernel_rfl) ⟨ls (by intro rec p;kernel_rfl),trivial⟩ (by intro a;kernel_rfl)
@[reducible] def qtu:SSt:=⟨[(0,.one (.c (.d .str))),(3,.one (.c (.d (.int .i64)))),(4,.one (.c (.d (.int .i64))))],[],[]⟩
@[reducible] def qm7:List (Exit×SSt):=[(.exit 0,⟨[(3,.one (.c (.d (.int .i64))))],[],[]⟩)]
def qbq (n:Nat) (rec:(Yy)→Int→Int→Option ((Int×Unit)×Unit×Unit)) (a1:Yy) (a2:Int) (a3:Int):Option ((Int×Unit)×Unit×Unit) :=
 (bif decide (a3<(a1.length:Int)) then q00 (IntKind.wrap .i64 ((10:Int)*a2)) fun n2=>(sAt a1 a3).bind fun c3=>q00 (IntKind.wrap .i64 c3) fun n4=>q00 (IntKind.wrap .i64 (n2+n4)) fun n5=>q00 (IntKind.wrap .i64 (n5 - (48:Int))) fun n6=>q00 (IntKind.wrap .i64 (a3+1)) fun n7=>rec a1 n6 n7 else some (((a2,()),((),()))))
def qic (n:Nat):Stp qtu qm7:=fun rec p=>qbq n (fun a1 a2 a3=>rec ((a1,(a2,(a3,()))),((),()))) p.1.1 p.1.2.1 p.1.2.2.1
def q49 (n m:Nat) (a1:Yy) (a2:Int) (a3:Int):Option ((Int×Unit)×Unit×Unit):=q0v (qic n) m ((a1,(a2,(a3,()))),((),()))
theorem qb9 (n m:Nat) (a1 a2 a3):q49 n (m+1) a1 a2 a3=qbq n (fun a1 a2 a3=>q49 n m a1 a2 a3) a1 a2 a3:=rfl
def q71 (n:Nat) (a1:Yy):Option Int :=
 (bif decide (10<(a1.length:Int)) then some (0:Int) else (sAt a1 (1:Int)).bind fun c1=>(bif decide (c1=48) then some (0:Int) else (q49 n n a1 (0:Int) (1:Int)).bind fun o8=>(bif decide (o8.1.1<2) then some (0:Int) else some o8.1.1)))
def qz5 (n:Nat):FC:={ f:=72,args:=[.one (.c (.d .str))],res:=.one (.c (.d (.int .i64))),F:=fun p=>q71 n p }
theorem qij (n:Nat):q05 Inv Tryz.prog (qz5 n):=mkF Tryz.func72 [] [q4o qic n] (cn) (by kernel_rfl) ⟨ls (by intro rec p;kernel_rfl),trivial⟩ (by intro a;kernel_rfl)
@[reducible] def qxw:SSt:=⟨[(3,.one (.c (.d (.lst .str)))),(4,.one (.c (.d (.int .i64))))],[],[]⟩
@[reducible] def qp6:List (Exit×SSt):=[(.ret,⟨[(2,.one (.c (.d .bool)))],[],[]⟩),(.exit 0,⟨[],[],[]⟩)]
def qab (n:Nat) (rec:(List Yy)→Int→Option Zd) (a1:List Yy) (a2:Int):Option Zd :=
 (bif decide (a2<(a1.length:Int)) then (q0d a1 a2).bind fun x3=>(q9i n x3).bind fun r4=>(bif r4 then q00 (IntKind.wrap .i64 ((a1.length:Int) - (1:Int))) fun (n5:Int)=>(bif decide (a2<n5) then some (Sum.inl ((false,()),((),()))) else (bif decide (a2=0) then some (Sum.inl ((false,()),((),()))) else (q0d a1 a2).bind fun x6=>(q71 n x6).bind fun r7=>(bif decide (r7=0) then some (Sum.inl ((false,()),((),()))) else q00 (IntKind.wrap .i64 (a2+1)) fun n8=>rec a1 n8))) else q00 (IntKind.wrap .i64 (a2+1)) fun n9=>rec a1 n9) else some (Sum.inr (((),((),())))))
def qok (n:Nat):Stp qxw qp6:=fun rec p=>qab n (fun a1 a2=>rec ((a1,(a2,())),((),()))) p.1.1 p.1.2.1
def q3p (n m:Nat) (a1:List Yy) (a2:Int):Option Zd:=q0v (qok n) m ((a1,(a2,())),((),()))
theorem q67 (n m:Nat) (a1 a2):q3p n (m+1) a1 a2=qab n (fun a1 a2=>q3p n m a1 a2) a1 a2:=rfl
def q3v (n:Nat) (a1:Yy):Option Bool :=
 (qc6 n a1).bind fun r1=>(bif !r1 then some false else (q0e n a1 (47:Int)).bind fun r2=>(q3p n n r2 (0:Int)).bind fun o10=>Sum.elim (fun (q11:(Bool×Unit)×Unit×Unit)=>some q11.1.1) (fun (q12:(Unit)×Unit×Unit)=>some true) o10)
def j42 (n:Nat):FC:={ f:=69,args:=[.one (.c (.d .str))],res:=.one (.c (.d .bool)),F:=fun p=>q3v n p }
theorem qak (n:Nat):q05 Inv Tryz.prog (j42 n):=mkF Tryz.func69 [] [q4o qok n] (cc (qt7 n) <| cc (q2t n) <| cc (qoe n) <| cc (qij n) <| cn) (by kernel_rfl) ⟨ls (by intro rec p;kernel_rfl),trivial⟩ (by intro a;kernel_rfl)
@[reducible] def j67:SSt:=⟨[(0,.one (.c (.d .str))),(3,.one (.c (.d (.int .i64))))],[],[]⟩
@[reducible] def qts:List (Exit×SSt):=[(.ret,⟨[(2,.one (.c (.d .str)))],[],[]⟩),(.exit 0,⟨[],[],[]⟩)]
def qcb (n:Nat) (rec:(Yy)→Int→Option Ze) (a1:Yy) (a2:Int):Option Ze :=
 (bif decide (0≤a2) then (sAt a1 a2).bind fun c2=>(bif decide (c2=47) then (q1a a1 (0:Int) a2).bind fun s3=>some (Sum.inl ((s3,()),((),()))) else q00 (IntKind.wrap .i64 (a2 - (1:Int))) fun n4=>rec a1 n4) else some (Sum.inr (((),((),())))))
def qt0 (n:Nat):Stp j67 qts:=fun rec p=>qcb n (fun a1 a2=>rec ((a1,(a2,())),((),()))) p.1.1 p.1.2.1
def q5x (n m:Nat) (a1:Yy) (a2:Int):Option Ze:=q0v (qt0 n) m ((a1,(a2,())),((),()))
theorem q6y (n m:Nat) (a1 a2):q5x n (m+1) a1 a2=qcb n (fun a1 a2=>q5x n m a1 a2) a1 a2:=rfl
def qhr (n:Nat) (a1:Yy):Option Yy :=
 q00 (IntKind.wrap .i64 ((a1.length:Int) - (1:Int))) fun (n1:Int)=>(q5x n n a1 n1).bind fun o5=>Sum.elim (fun (q6:(Yy×Unit)×Unit×Unit)=>some q6.1.1) (fun (q7:(Unit)×Unit×Unit)=>some ([]:Yy)) o5
def ja7 (n:Nat):FC:={ f:=71,args:=[.one (.c (.d .str))],res:=.one (.c (.d .str)),F:=fun p=>qhr n p }
theorem jcl (n:Nat):q05 Inv Tryz.prog (ja7 n):=mkF Tryz.func71 [] [q4o qt0 n] (cn) (by kernel_rfl) ⟨ls (by intro rec p;kernel_rfl),trivial⟩ (by intro a;kernel_rfl)
def q9o (n:Nat) (a1:Yy):Option (Yy×(Int×Bool)) :=
 (q3v n a1).bind fun r1=>(bif !r1 then some (([]:Yy),((0:Int),false)) else (q0e n a1 (47:Int)).bind fun r2=>q00 (IntKind.wrap .i64 ((r2.length:Int) - (1:Int))) fun (n3:Int)=>(q0d r2 n3).bind fun x4=>(q9i n x4).bind fun r5=>(bif !r5 then some (a1,((0:Int),true)) else (qhr n a1).bind fun r6=>(q71 n x4).bind fun r7=>some (r6,(r7,true))))
def j3l (n:Nat):FC:={ f:=45,args:=[.one (.c (.d .str))],res:=.tup [.c (.d .str),.c (.d (.int .i64)),.c (.d .bool)],F:=fun p=>q9o n p }
theorem j4e (n:Nat):q05 Inv Tryz.prog (j3l n):=mkF Tryz.func45 [] [] (cc (qak n) <| cc (q2t n) <| cc (qoe n) <| cc (jcl n) <| cc (qij n) <| cn) (by kernel_rfl) trivial (by intro a;kernel_rfl)
def qaf (n:Nat) (a1:Yy) (a2:Vv):Option Bool :=
 (q9o n a1).bind fun r1=>(bif !r1.2.2 then some false else (q8e n a2).bind fun r2=>(bif !r2 then some false else (bif decide (a2.1=r1.2.1) then some true else (bif decide (r1.2.1=0) then some (decide (a2.1=1)) else some false))))
def j76 (n:Nat):FC:={ f:=23,args:=[.one (.c (.d .str)),.one (.agg [.d (.int .i64),.d (.int .i64),.d (.int .i64),.d .str,.d .str])],res:=.one (.c (.d .bool)),F:=fun p=>qaf n p.1 p.2 }
theorem j8u (n:Nat):q05 Inv Tryz.prog (j76 n):=mkF Tryz.func23 [] [] (cc (j4e n) <| cc (qlu n) <| cn) (by kernel_rfl) trivial (by intro a;kernel_rfl)
end Go.Proofs.YtapfankgdkdkgaaGreatDoor.AM
namespace Go.Proofs.YtapfankgdkdkgaaGreatDoor.AM
open Go.RowKit
theorem q2n (n:Nat) (s:Yy) (c:UInt8) (hs:s.length≤1000000) : ∀ (m i fr:Nat) (out:List Yy),i≤s.length→s.length - i+1<m→fr≤i→out.length≤i →
  q1d n m s ((c.toNat:Nat):Int) (fr:Int) (i:Int) out=some (((),()),((),(out++spl c ((s.drop fr).take (i - fr)) (s.drop i),())))
 | 0,i,fr,_,_,h,_,_=>absurd h (Nat.not_lt_zero _)
 | m+1,i,fr,out,hi,h,hf,ho=>by
  rw [q1m]
  unfold q2q
  have c0:((i:Nat):Int)≤((s.length:Nat):Int):=by omega
  have w1:=q03 (show i<4611686018427387904 by omega)
  have s1:q1a s ((fr:Nat):Int) ((i:Nat):Int)=some ((s.drop fr).take (i - fr)):=sub_le hf hi
  have a1:q1s 16 out [(s.drop fr).take (i - fr)]=some (out ++ [(s.drop fr).take (i - fr)]):=q1q (by simp;omega)
  by_cases c1:i=s.length
  ·have c1':((i:Nat):Int)=((s.length:Nat):Int):=by omega
   have hd:s.drop i = []:=List.drop_eq_nil_of_le (by omega)
   simp only [c0,c1',decide_true,cond_true]
   rw [← c1',s1,Option.bind_some,a1,Option.bind_some,hd]
   simp only [q00,w1]
   cases m with
   | zero=>omega
   | succ m =>
    rw [q1m]
    unfold q2q
    have c2 : ¬ ((i+1:Nat):Int)≤((s.length:Nat):Int):=by omega
    simp only [c2,Int.le_refl,decide_true,decide_false,cond_true,cond_false]
    rfl
  ·have c1' : ¬ ((i:Nat):Int)=((s.length:Nat):Int):=by omega
   have hi':i<s.length:=by omega
   have hd:s.drop i=s[i]::s.drop (i+1):=List.drop_eq_getElem_cons hi'
   simp only [c0,c1',decide_true,decide_false,cond_true,cond_false,q1g hi',Option.bind_some,q00,w1,s1,a1]
   have hc:decide (((s[i].toNat:Nat):Int)=((c.toNat:Nat):Int))=decide (s[i]=c):=by
    apply decide_eq_decide.2
    constructor
    ·intro hh;exact UInt8.toNat_inj.1 (by omega)
    ·intro hh;rw [hh]
   rw [hc,hd,spl]
   by_cases c2:s[i]=c
   ·simp only [c2,decide_true,cond_true,if_true]
    rw [q2n n s c hs m (i+1) (i+1) (out ++ [(s.drop fr).take (i - fr)]) (by omega) (by omega) (Nat.le_refl _) (by simp;omega)]
    simp
   ·simp only [c2,decide_false,cond_false,if_false]
    rw [q2n n s c hs m (i+1) fr out (by omega) (by omega) (by omega) (by omega)]
    have e1:(s.drop fr).take (i+1 - fr)=(s.drop fr).take (i - fr) ++ [s[i]]:=by
     rw [show i+1 - fr=(i - fr)+1 from by omega,List.take_add_one,List.getElem?_drop,show fr+(i - fr)=i from by omega,List.getElem?_eq_getElem hi']
     rfl
    rw [e1]
theorem q2z (n:Nat) (s:Yy) (c:UInt8) (hs:s.length≤1000000) (hn:s.length+1<n):q0e n s ((c.toNat:Nat):Int)=some (spl c [] s):=by
 unfold q0e
 have h:=q2n n s c hs n 0 0 [] (Nat.zero_le _) (by omega) (Nat.le_refl _) (Nat.zero_le _)
 rw [show ((0:Nat):Int)=(0:Int) from rfl] at h
 rw [h]
 simp
theorem qge (n:Nat) (s:Yy) (hL:s.length≤1000000) : ∀ m j:Nat,j≤s.length→s.length - j<m→q4u n m s (j:Int)=some (if (s.drop j).all q0u=true then Sum.inr ((s,()),((),())) else Sum.inl ((false,()),((),())))
 | 0,j,_,h=>absurd h (Nat.not_lt_zero _)
 | m+1,j,hj,h=>by
  rw [qd8]
  unfold qei
  by_cases c0:j<s.length
  ·have c0':((j:Nat):Int)<((s.length:Nat):Int):=by omega
   have ih:=qge n s hL m (j+1) (by omega) (by omega)
   have hd:s.drop j=s[j]::s.drop (j+1):=(List.drop_eq_getElem_cons c0)
   simp only [c0',decide_true,cond_true,q1g c0,Option.bind_some,q00,q03 (show j<4611686018427387904 by omega),ih,hd,List.all_cons]
   unfold q0u
   by_cases h1:s[j].toNat<48
   ·have e1:((s[j].toNat:Nat):Int)<48:=by omega
    have e2 : ¬ 48≤s[j].toNat:=by omega
    simp [e1,e2]
   ·have e1 : ¬ ((s[j].toNat:Nat):Int)<48:=by omega
    have e2:48≤s[j].toNat:=by omega
    by_cases h2:57<s[j].toNat
    ·have e3:(57:Int)<((s[j].toNat:Nat):Int):=by omega
     have e4 : ¬ s[j].toNat≤57:=by omega
     simp [e1,e2,e3,e4]
    ·have e3 : ¬ (57:Int)<((s[j].toNat:Nat):Int):=by omega
     have e4:s[j].toNat≤57:=by omega
     simp [e1,e2,e3,e4]
  ·have c0' : ¬ ((j:Nat):Int)<((s.length:Nat):Int):=by omega
   have:s.drop j = []:=List.drop_eq_nil_of_le (by omega)
   simp [c0',this]
theorem q63 (n:Nat) (s:Yy) (hL:s.length≤1000000) (hn:s.length<n):q5i n s=some (q2b s):=by
 unfold q5i q2b
 have:=qge n s hL n 0 (Nat.zero_le _) (by omega)
 rw [show ((0:Nat):Int)=(0:Int) from rfl] at this
 rw [this,List.drop_zero]
 cases s.all q0u<;>rfl
theorem j00 (c:UInt8):qhg c=((decide ((97:Int)≤((c.toNat:Nat):Int))&&decide (((c.toNat:Nat):Int)≤(122:Int)))||(decide ((65:Int)≤((c.toNat:Nat):Int))&&decide (((c.toNat:Nat):Int)≤(90:Int)))||(decide ((48:Int)≤((c.toNat:Nat):Int))&&decide (((c.toNat:Nat):Int)≤(57:Int)))||decide (((c.toNat:Nat):Int)=(45:Int))):=by
 unfold qhg q0u
 have h1:decide ((97:Int)≤((c.toNat:Nat):Int))=decide (97≤c.toNat):=decide_eq_decide.2 (by omega)
 have h2:decide (((c.toNat:Nat):Int)≤(122:Int))=decide (c.toNat≤122):=decide_eq_decide.2 (by omega)
 have h3:decide ((65:Int)≤((c.toNat:Nat):Int))=decide (65≤c.toNat):=decide_eq_decide.2 (by omega)
 have h4:decide (((c.toNat:Nat):Int)≤(90:Int))=decide (c.toNat≤90):=decide_eq_decide.2 (by omega)
 have h5:decide (((c.toNat:Nat):Int)=(45:Int))=decide (c.toNat=45):=decide_eq_decide.2 (by omega)
 have h6:decide ((48:Int)≤((c.toNat:Nat):Int))=decide (48≤c.toNat):=decide_eq_decide.2 (by omega)
 have h7:decide (((c.toNat:Nat):Int)≤(57:Int))=decide (c.toNat≤57):=decide_eq_decide.2 (by omega)
 rw [h1,h2,h3,h4,h5,h6,h7]
theorem qb3 (n:Nat) (z:Bool) (l:List Yy) (i:Nat) (hi:i<l.length) (w:Yy) (hw:l[i]=w) (hL:w.length≤1000000) : ∀ m j:Nat,j≤w.length→w.length - j<m→q4r n m z l (i:Int) (j:Int)=some (if (w.drop j).all qhg=true then Sum.inr ((z,(l,((i:Int),()))),((),())) else Sum.inl ((false,()),((),())))
 | 0,j,_,h=>absurd h (Nat.not_lt_zero _)
 | m+1,j,hj,h=>by
  rw [qdb]
  unfold qed
  have e0:q0d l ((i:Nat):Int)=some w:=by rw [q0k hi,hw]
  by_cases c0:j<w.length
  ·have c0':((j:Nat):Int)<((w.length:Nat):Int):=by omega
   have ih:=qb3 n z l i hi w hw hL m (j+1) (by omega) (by omega)
   have hd:w.drop j=w[j]::w.drop (j+1):=(List.drop_eq_getElem_cons c0)
   simp only [e0,Option.bind_some,c0',decide_true,cond_true,q1g c0,q00,q03 (show j<4611686018427387904 by omega),ih,hd,List.all_cons,j00]
   cases decide ((97:Int)≤((w[j].toNat:Nat):Int))<;>cases decide (((w[j].toNat:Nat):Int)≤(122:Int))<;>cases decide ((65:Int)≤((w[j].toNat:Nat):Int))<;>cases decide (((w[j].toNat:Nat):Int)≤(90:Int))<;>cases decide ((48:Int)≤((w[j].toNat:Nat):Int))<;>cases decide (((w[j].toNat:Nat):Int)≤(57:Int))<;>cases decide (((w[j].toNat:Nat):Int)=(45:Int))<;>rfl
  ·have c0' : ¬ ((j:Nat):Int)<((w.length:Nat):Int):=by omega
   have:w.drop j = []:=List.drop_eq_nil_of_le (by omega)
   simp only [e0,Option.bind_some,c0',decide_false,cond_false,this,List.all_nil,if_true]
def q6k (z:Bool) (w:Yy):Bool:=q20 w&&(z || !(q2b w&&(decide (1<w.length)&&decide (w.head? = some 48))))
theorem qv5 (w:Yy):q6k true w=q20 w:=by unfold q6k;simp
theorem qot (w:Yy):q6k false w=q41 w:=by
 unfold q6k q41
 cases w with
 | nil=>simp [q20]
 | cons c r =>
  cases hn:q2b (c::r) with
  | false=>simp
  | true =>
   by_cases hc:c=48
   ·subst hc
    cases r with
    | nil=>simp
    | cons d r=>simp
   ·simp [hc]
theorem qdx (n:Nat) (z:Bool) (l:List Yy) (hl:l.length≤1000000) (hw : ∀ w∈l,w.length≤1000000∧w.length<n) : ∀ m i:Nat,i≤l.length→l.length - i<m→q50 n m z l (i:Int)=some (if (l.drop i).all (q6k z)=true then Sum.inr ((),((),())) else Sum.inl ((false,()),((),())))
 | 0,j,_,h=>absurd h (Nat.not_lt_zero _)
 | m+1,i,hi,h=>by
  rw [qd4]
  unfold qfj
  by_cases c0:i<l.length
  ·have c0':((i:Nat):Int)<((l.length:Nat):Int):=by omega
   have ih:=qdx n z l hl hw m (i+1) (by omega) (by omega)
   have hd:l.drop i=l[i]::l.drop (i+1):=(List.drop_eq_getElem_cons c0)
   have hww:=hw l[i] (List.getElem_mem c0)
   have h1:=qb3 n z l i c0 l[i] rfl hww.1 n 0 (Nat.zero_le _) (by omega)
   rw [show ((0:Nat):Int)=(0:Int) from rfl,List.drop_zero] at h1
   rw [hd,List.all_cons]
   simp only [c0',decide_true,cond_true,h1,Option.bind_some]
   rw [show q6k z l[i]=((l[i].all qhg && !decide (l[i] = []))&&(z || !(q2b l[i]&&(decide (1<l[i].length)&&decide (l[i].head? = some 48))))) from rfl]
   cases hs:l[i].all qhg with
   | false=>simp
   | true =>
    simp only [if_true,Sum.elim_inr,q0k c0,Option.bind_some,q63 n _ hww.1 hww.2,q00,q03 (show i<4611686018427387904 by omega),ih]
    generalize hx:l[i]=x at hs hww
    cases x with
    | nil=>simp
    | cons c r =>
     have h0:sAt (c::r) (0:Int)=some ((c.toNat:Nat):Int):=q1g (s:=c::r) (j:=0) (by simp)
     have h2:decide (((c.toNat:Nat):Int)=(48:Int))=decide ((c::r).head? = some 48):=decide_eq_decide.2 (by
      simp only [List.head?_cons,Option.some.injEq]
      constructor
      ·intro h;exact UInt8.toNat_inj.1 (by have e48:(48:UInt8).toNat=48:=rfl;rw [e48];omega)
      ·rintro rfl;rfl)
     have h3:decide ((1:Int)<(((c::r).length:Nat):Int))=decide (1<(c::r).length):=decide_eq_decide.2 (by omega)
     have e0:decide (c::r=([]:Yy))=false:=by simp
     simp only [h0,h2,h3,e0,Option.bind_some,cond_false]
     cases z<;>cases q2b (c::r)<;>cases decide (1<(c::r).length)<;>cases decide ((c::r).head? = some 48)<;>simp
  ·have c0' : ¬ ((i:Nat):Int)<((l.length:Nat):Int):=by omega
   have:l.drop i = []:=List.drop_eq_nil_of_le (by omega)
   simp only [c0',decide_false,cond_false,this,List.all_nil,if_true]
theorem qgd (n:Nat) (s:Yy) (z:Bool) (hs:s.length≤100000) (hn:s.length+2<n):q6q n s z=some ((spl 46 [] s).all (q6k z)):=by
 unfold q6q
 have e1:q0e n s (46:Int)=some (spl 46 [] s):=q2z n s 46 (by omega) (by omega)
 rw [e1]
 have k:=q47 46 s []
 have h:=qdx n z (spl 46 [] s) (by omega) (fun w hw=>by have:=q4j 46 s [] w hw;simp at this;omega) n 0 (Nat.zero_le _) (by omega)
 rw [show ((0:Nat):Int)=(0:Int) from rfl,List.drop_zero] at h
 simp only [Option.bind_some,h]
 cases (spl 46 [] s).all (q6k z)<;>rfl
theorem jb1 (n:Nat) (a:Int):qoc n a=some (j2z a):=by
 unfold qoc j2z
 cases decide ((0:Int)≤a)<;>rfl
theorem q7z (n:Nat) (v:VD) (hn:100≤n):q8e n v=some (q0r v):=by
 unfold q8e q0r
 simp only [jb1,Option.bind_some]
 cases j2z v.1 with
 | false=>rfl
 | true=>cases j2z v.2.1 with
  | false=>rfl
  | true=>cases j2z v.2.2.1 with
   | false=>rfl
   | true =>
    simp only [Bool.not_true,cond_false,Bool.true_and]
    unfold q54
    have f1:(q6k true)=q20:=funext qv5
    have f2:(q6k false)=q41:=funext qot
    by_cases c1:(30:Int)<((v.2.2.2.1.length:Nat):Int)
    ·have e1:v.2.2.2.1 ≠ []:=fun e=>by rw [e] at c1;simp at c1
     have e2 : ¬ v.2.2.2.1.length≤30:=by omega
     simp [c1,e1,e2]
    ·by_cases c2:(30:Int)<((v.2.2.2.2.length:Nat):Int)
     ·have e1:v.2.2.2.2 ≠ []:=fun e=>by rw [e] at c2;simp at c2
      have e2 : ¬ v.2.2.2.2.length≤30:=by omega
      simp [c1,c2,e1,e2]
     ·have l1:v.2.2.2.1.length≤30:=by omega
      have l2:v.2.2.2.2.length≤30:=by omega
      have r1:=qgd n v.2.2.2.1 false (by omega) (by omega)
      have r2:=qgd n v.2.2.2.2 true (by omega) (by omega)
      rw [f2] at r1
      rw [f1] at r2
      simp only [c1,c2,decide_false,cond_false,r1,r2,l1,l2,decide_true,Bool.true_and,Option.bind_some]
      by_cases p:v.2.2.2.1 = []
      ·by_cases q:v.2.2.2.2 = []<;>simp [p,q]
      ·by_cases q:v.2.2.2.2 = []
       ·simp only [p,q,decide_false,decide_true,cond_false,cond_true,Bool.false_or,Bool.true_or,Bool.and_true]
        cases (spl 46 [] v.2.2.2.1).all q41<;>rfl
       ·simp only [p,q,decide_false,decide_true,cond_false,cond_true,Bool.false_or]
        cases (spl 46 [] v.2.2.2.1).all q41<;>rfl
theorem j6c (n:Nat) (s:Yy) (hL:s.length≤1000000) (hn:s.length<n):qr5 n s=some (q2f s):=by
 unfold qr5 q2f
 have hg:=j0c 47 s
 obtain ⟨k,hk⟩ : ∃ k:Nat,q6x 47 s+1=(k:Int):=⟨(q6x 47 s+1).toNat,by omega⟩
 rw [qnw n s hL hn]
 simp only [Option.bind_some,q00]
 rw [hk,wrap64 (by omega) (by omega),sub_le (by omega) (Nat.le_refl _)]
 simp only [Option.bind_some,Int.toNat_natCast]
 rw [List.take_of_length_le (by rw [List.length_drop];exact Nat.le_refl _)]
theorem jhe (s:Yy):(q2j s).length≤s.length:=by unfold q2j;rw [List.length_take];omega
theorem j0e (s:Yy):(q2f s).length≤s.length:=by unfold q2f;rw [List.length_drop];omega
theorem qwy {s:Yy} (h:q1l s=true):q1k s=s.drop 1:=by
 unfold q1l at h
 simp only [Bool.and_eq_true,decide_eq_true_eq] at h
 unfold q1k;rw [if_pos h.1]
theorem qjy (n:Nat) (s:Yy) (hL:s.length≤1000000) (hn:s.length<n):qd1 n s=some (q9u s):=by
 have hb:=jhe s
 have hl:=j0e s
 have e1:qkw s=some (q2j s):=if_pos hL
 have e2:qtc (q2j s)=some (anyS (q2j s)):=if_pos (by omega)
 have e3:qns (q2f s)=some (numOf (q1k (q2f s)),qmh (q1k (q2f s))):=if_pos (by omega)
 have e4:qkt s=some (q3e s):=rfl
 unfold qd1 q9u okS
 simp only [e1,e2,e3,e4,j6c n s hL hn,qjr n (q2f s) (by omega),Option.bind_some]
 cases q3e s with
 | false=>rfl
 | true=>cases anyS (q2j s) with
  | true=>rfl
  | false=>cases ht:q1l (q2f s) with
   | false=>rfl
   | true =>
    rw [qwy ht]
    cases qmh ((q2f s).drop 1) with
    | false=>rfl
    | true =>
     by_cases h0:q2j s = []
     ·simp [h0]
     ·simp [h0]
theorem qpl (s:Yy):(q9u s).2.2=okS s:=by
 unfold q9u
 cases okS s with
 | false=>rfl
 | true=>cases q1l (q2f s)<;>rfl
theorem q7b (n:Nat) (s:Yy) (hL:s.length≤1000000) (hn:s.length<n):q7u n s=some (okS s):=by
 unfold q7u
 rw [qjy n s hL hn,← qpl];rfl
def q3c (p:Yy) (v:VD):Bool:=okS p&&(q0r v&&(if (q9u p).2.1=0 then decide (v.1<2) else decide (v.1=(q9u p).2.1)))
theorem qna (n:Nat) (s:Yy) (v:VD) (hL:s.length≤1000000) (hn:s.length<n) (h4:4≤n):qi6 n s v=some (q3c s v):=by
 unfold qi6 q3c
 rw [qjy n s hL hn]
 simp only [Option.bind_some,qpl,q44 n v h4]
 cases okS s with
 | false=>rfl
 | true=>cases q0r v with
  | false=>rfl
  | true =>
   by_cases h:(q9u s).2.1=0
   ·simp [h]
   ·simp [h]
theorem qz2 (c:UInt8):q7t c=((decide ((97:Int)≤((c.toNat:Nat):Int))&&decide (((c.toNat:Nat):Int)≤(122:Int)))||(decide ((65:Int)≤((c.toNat:Nat):Int))&&decide (((c.toNat:Nat):Int)≤(90:Int)))||(decide ((48:Int)≤((c.toNat:Nat):Int))&&decide (((c.toNat:Nat):Int)≤(57:Int)))||decide (((c.toNat:Nat):Int)=(45:Int))||decide (((c.toNat:Nat):Int)=(95:Int))||decide (((c.toNat:Nat):Int)=(46:Int))):=by
 unfold q7t
 have h6:decide (((c.toNat:Nat):Int)=(95:Int))=decide (c.toNat=95):=decide_eq_decide.2 (by omega)
 have h7:decide (((c.toNat:Nat):Int)=(46:Int))=decide (c.toNat=46):=decide_eq_decide.2 (by omega)
 rw [h6,h7,← j00]
theorem ql8 (n:Nat) (s:Yy) (hL:s.length≤1000000) : ∀ m j:Nat,j≤s.length→s.length - j<m→q6a n m s (j:Int)=some (if (s.drop j).all q7t=true then Sum.inr ((s,()),((),())) else Sum.inl ((false,()),((),())))
 | 0,j,_,h=>absurd h (Nat.not_lt_zero _)
 | m+1,j,hj,h=>by
  rw [qe9]
  unfold qjn
  by_cases c0:j<s.length
  ·have c0':((j:Nat):Int)<((s.length:Nat):Int):=by omega
   have ih:=ql8 n s hL m (j+1) (by omega) (by omega)
   have hd:s.drop j=s[j]::s.drop (j+1):=(List.drop_eq_getElem_cons c0)
   simp only [c0',decide_true,cond_true,q1g c0,Option.bind_some,q00,q03 (show j<4611686018427387904 by omega),ih,hd,List.all_cons]
   rw [qz2]
   generalize (List.drop (j+1) s).all q7t=B
   generalize decide ((97:Int)≤((s[j].toNat:Nat):Int))=b1
   generalize decide (((s[j].toNat:Nat):Int)≤(122:Int))=b2
   generalize decide ((65:Int)≤((s[j].toNat:Nat):Int))=b3
   generalize decide (((s[j].toNat:Nat):Int)≤(90:Int))=b4
   generalize decide ((48:Int)≤((s[j].toNat:Nat):Int))=b5
   generalize decide (((s[j].toNat:Nat):Int)≤(57:Int))=b6
   generalize decide (((s[j].toNat:Nat):Int)=(45:Int))=b7
   generalize decide (((s[j].toNat:Nat):Int)=(95:Int))=b8
   generalize decide (((s[j].toNat:Nat):Int)=(46:Int))=b9
   cases b1<;>cases b2<;>cases b3<;>cases b4<;>cases b5<;>cases b6<;>cases b7<;>cases b8<;>cases b9<;>rfl
  ·have c0' : ¬ ((j:Nat):Int)<((s.length:Nat):Int):=by omega
   have:s.drop j = []:=List.drop_eq_nil_of_le (by omega)
   simp [c0',this]
theorem qyk (n:Nat) (s:Yy) (hL:s.length≤1000000) (hn:s.length<n):qht n s=some (q8u s):=by
 unfold qht q8u
 have:=ql8 n s hL n 0 (Nat.zero_le _) (by omega)
 rw [show ((0:Nat):Int)=(0:Int) from rfl] at this
 rw [this,List.drop_zero]
 cases s.all q7t with
 | true =>
  simp only [if_true,Option.bind_some,Sum.elim_inr]
  cases decide (s = [])<;>cases decide (s = [46])<;>cases decide (s = [46,46])<;>rfl
 | false =>
  simp only [Bool.false_eq_true,if_false,Option.bind_some,Sum.elim_inl]
  cases decide (s = [])<;>cases decide (s = [46])<;>cases decide (s = [46,46])<;>rfl
theorem qlz (n:Nat) (l:List Yy) (hl:l.length≤1000000) (hw : ∀ w∈l,w.length≤1000000∧w.length<n) : ∀ m j:Nat,j≤l.length→l.length - j<m→q5w n m l (j:Int)=some (if (l.drop j).all q8u=true then Sum.inr ((),((),())) else Sum.inl ((false,()),((),())))
 | 0,j,_,h=>absurd h (Nat.not_lt_zero _)
 | m+1,j,hj,h=>by
  rw [qfc]
  unfold qm1
  by_cases c0:j<l.length
  ·have c0':((j:Nat):Int)<((l.length:Nat):Int):=by omega
   have ih:=qlz n l hl hw m (j+1) (by omega) (by omega)
   have hd:l.drop j=l[j]::l.drop (j+1):=(List.drop_eq_getElem_cons c0)
   have hm:=hw l[j] (List.getElem_mem c0)
   simp only [c0',decide_true,cond_true,q0k c0,Option.bind_some,qyk n l[j] hm.1 hm.2,q00,q03 (show j<4611686018427387904 by omega),ih,hd,List.all_cons]
   cases q8u l[j]<;>simp
  ·have c0' : ¬ ((j:Nat):Int)<((l.length:Nat):Int):=by omega
   have:l.drop j = []:=List.drop_eq_nil_of_le (by omega)
   simp [c0',this]
theorem qbs (n:Nat) (s:Yy) (hL:s.length≤1000000) (hn:100≤n):qc6 n s=some (q3e s):=by
 unfold qc6 q3e
 by_cases h:s.length≤60
 ·have h' : ¬ (60:Int)<((s.length:Nat):Int):=by omega
  have hlen:=q47 47 s []
  have hw : ∀ w∈spl 47 [] s,w.length≤s.length:=fun w hm=>by have:=q4j 47 s [] w hm;simpa using this
  have:=qlz n (spl 47 [] s) (by omega) (fun w hm=>⟨by have:=hw w hm;omega,by have:=hw w hm;omega⟩) n 0 (Nat.zero_le _) (by omega)
  rw [show ((0:Nat):Int)=(0:Int) from rfl] at this
  simp only [h',decide_false,cond_false]
  rw [show (47:Int)=(((47:UInt8).toNat:Nat):Int) from rfl,q2z n s 47 hL (by omega)]
  simp only [Option.bind_some]
  rw [this,List.drop_zero]
  cases (spl 47 [] s).all q8u<;>simp [h]
 ·have h':(60:Int)<((s.length:Nat):Int):=by omega
  simp [h,h']
abbrev Rq:=Yy×VD
abbrev Sw:=Yy×Yy
abbrev Sp:=Int×(Int×(Int×(Yy×(Yy×VD))))
def j4u (a b:VD):Sp:=(a.1,(a.2.1,(a.2.2.1,(a.2.2.2.1,(a.2.2.2.2,b)))))
def jhk (x:Sp):VD:=(x.1,(x.2.1,(x.2.2.1,(x.2.2.2.1,x.2.2.2.2.1))))
def qze (x:Sp):VD:=x.2.2.2.2.2
theorem jia (a b:VD):jhk (j4u a b)=a:=rfl
theorem jas (a b:VD):qze (j4u a b)=b:=rfl
abbrev MD:=Yy×(Yy×(List Rq×(List Sw×(List Rq×List Sp))))
abbrev Cl:=Yy×(Yy×VD)
abbrev jir:=List (Cl×(Int×Int))
abbrev clT:Ty:=.prod .str (.prod .str Tv)
abbrev qae:Yy:=[109,111,100,117,108,101]
abbrev kGo:Yy:=[103,111]
abbrev q0s:Yy:=[114,101,113,117,105,114,101]
abbrev q8p:Yy:=[101,120,99,108,117,100,101]
abbrev q6h:Yy:=[114,101,112,108,97,99,101]
abbrev qe8:Yy:=[114,101,116,114,97,99,116]
def q2x (t:Yy):Bool:=decide (t = [61,62])||(decide (t = [91])||(decide (t = [44])||(decide (t = [93])||(decide (t = [40])||decide (t = [41])))))
def qbe (w:Lx.Wd):Yy:=if q2x w.1 then w.1 else [120]
def shp (ws:List Lx.Wd):Yy:=Lib.join (ws.map qbe) [32]
def unm (ws:List Lx.Wd):List Lx.Wd:=ws.filter fun w=>!q2x w.1
def q38 (v:Yy):List Yy :=
 if v=qae then [[120]] else if v=kGo then [[120]] else if v=q0s then [[120,32,120]] else if v=q8p then [[120,32,120]] else if v=q6h then [[120,32,61,62,32,120]]
 else if v=qe8 then [[120],[91,32,120,32,44,32,120,32,93]] else []
def q6i (v:Yy):Bool:=decide (v=q0s)||(decide (v=q8p)||(decide (v=q6h)||decide (v=qe8)))
def q4f (s:Yy):Bool:=s.all q0u&&(decide (1≤s.length)&&(decide (s.length≤9)&&(decide (s = [48]) || !decide (s.head? = some 48))))
def q8s (x:Yy):Bool:=q4f (q2e 46 x)&&q4f (q5r 46 x)
def qe7 (p v:Yy):Int⊕Rq:=if okS p=false then .inl 6 else if (q09 v).2=false then .inl 7 else if q3c p (q09 v).1=false then .inl 8 else .inr (p,(q09 v).1)
structure MS where
 mo:Yy
 go:Yy
 bk:Yy
 sd:jir
 rq:List Rq
 sw:List Sw
 ex:List Rq
 rt:List Sp
def ms0:MS:=⟨[],[],[],[],[],[],[],[]⟩
def MS.md (σ:MS):MD:=(σ.mo,(σ.go,(σ.rq,(σ.sw,(σ.ex,σ.rt)))))
def q0p (σ:MS) (c:Cl) (st:Int) (w:Lx.Wd):Int⊕MS:=if (q02 clT c σ.sd).isSome then .inl 11 else .inr { σ with sd:=q0x clT c (st+w.2,st+w.2+(w.1.length:Nat)) σ.sd }
def q8o (σ:MS) (st:Int) (v:Yy) (ws:List Lx.Wd):Int⊕MS :=
 match ws with
 | []=>.inl 10
 | w::ws' =>
  if v=qae then (if okS w.1=false then .inl 6 else q0p { σ with mo:=w.1 } (qae,([],v0)) st w)
  else if v=kGo then (if q8s w.1=false then .inl 7 else q0p { σ with go:=w.1 } (kGo,([],v0)) st w)
  else if v=q0s then (match qe7 w.1 ((ws'.headD ([],0)).1) with
   | .inl e=>.inl e
   | .inr q=>q0p { σ with rq:=σ.rq ++ [q] } (q0s,(q.1,v0)) st (ws'.headD ([],0)))
  else if v=q8p then (match qe7 w.1 ((ws'.headD ([],0)).1) with
   | .inl e=>.inl e
   | .inr q=>q0p { σ with ex:=σ.ex ++ [q] } (q8p,(q.1,q.2)) st (ws'.headD ([],0)))
  else if v=q6h then (if okS w.1=false then .inl 6 else if q3e ((ws'.headD ([],0)).1)=false then .inl 6 else q0p { σ with sw:=σ.sw ++ [(w.1,(ws'.headD ([],0)).1)] } (q6h,(w.1,v0)) st (ws'.headD ([],0)))
  else if (q09 w.1).2=false then .inl 7 else if (q09 ((ws'.getLast?.getD w).1)).2=false then .inl 7
  else if 0<j5w (q09 w.1).1 (q09 ((ws'.getLast?.getD w).1)).1 then .inl 7 else .inr { σ with rt:=σ.rt ++ [j4u (q09 w.1).1 (q09 ((ws'.getLast?.getD w).1)).1] }
def q4w (σ:MS) (st:Int) (v:Yy) (ws:List Lx.Wd):Int⊕MS:=if shp ws∈q38 v then q8o σ st v (unm ws) else .inl 10
def q3j (σ:MS) (st:Int) (ws:List Lx.Wd):Int⊕MS :=
 match ws with
 | []=>.inr σ
 | w::ws' =>
  if σ.bk = [] then (if q6i w.1=true∧shp ws' = [40] then .inr { σ with bk:=w.1 } else q4w σ st w.1 ws')
  else if shp (w::ws') = [41] then .inr { σ with bk:=[] } else q4w σ st σ.bk (w::ws')
def q0w (t:Yy):List Lx.Wd:=(Lx.qdc t).1
def q1v:List Yy→Int→Int→MS→(Int×Int)⊕MS
 | [],_,_,σ=>.inr σ
 | t::ts,i,st,σ=>match q3j σ st (q0w t) with
  | .inl e=>.inl (i,e)
  | .inr σ'=>q1v ts (i+1) (st+((t.length:Nat):Int)+1) σ'
def q9e (s:Yy):(Int×Int)⊕(MS×Int) :=
 if (Lx.q2w (Lx.q0a s) 0 []).2.2≠0 then .inl ((Lx.q2w (Lx.q0a s) 0 []).2.1,(Lx.q2w (Lx.q0a s) 0 []).2.2)
 else match q1v (Lx.q0a s) 0 0 ms0 with
  | .inl e=>.inl e
  | .inr σ=>if σ.bk ≠ [] then .inl (((Lx.q0a s).length:Nat),10) else if σ.mo = [] then .inl (((Lx.q0a s).length:Nat),5) else .inr (σ,((Lx.q0a s).length:Nat))
abbrev md0:MD:=([],([],([],([],([],[])))))
def q6v (s:Yy):MD×(Int×Int):=match q9e s with
 | .inl e=>(md0,e)
 | .inr (σ,n)=>(σ.md,(n,0))
def q3h (s p:Yy):Int×(Int×Bool):=match q9e s with
 | .inl _=>(0,(0,false))
 | .inr (σ,_)=>match q02 clT (q0s,(p,v0)) σ.sd with
  | some x=>(x.1,(x.2,true))
  | none=>(0,(0,false))
theorem qgb (a b:Cl):eqT clT a b=true↔a=b:=by
 obtain ⟨a1,a2,a3,a4,a5,a6,a7⟩:=a
 obtain ⟨b1,b2,b3,b4,b5,b6,b7⟩:=b
 show (decide (a1=b1)&&(decide (a2=b2)&&(decide (a3=b3)&&(decide (a4=b4)&&(decide (a5=b5)&&(decide (a6=b6)&&decide (a7=b7)))))))=true↔_
 simp only [Bool.and_eq_true,decide_eq_true_eq,Prod.mk.injEq]
theorem jio {a b:Cl} (h:a≠b):eqT clT a b=false:=by
 cases hb:eqT clT a b with
 | true=>exact absurd ((qgb a b).1 hb) h
 | false=>rfl
theorem q29 (c c':Cl) (v:Int×Int) : ∀ l:jir,q02 clT c (q0x clT c' v l)=bif eqT clT c c' then some v else q02 clT c l
 | []=>rfl
 | (k,y)::l=>by
  show q02 clT c (bif eqT clT c' k then (c',v)::l else (k,y)::q0x clT c' v l)=bif eqT clT c c' then some v else (bif eqT clT c k then some y else q02 clT c l)
  cases hk:eqT clT c' k with
  | true =>
   have hk':=(qgb c' k).1 hk
   subst hk'
   show (bif eqT clT c c' then some v else q02 clT c l)=_
   cases eqT clT c c'<;>rfl
  | false =>
   show (bif eqT clT c k then some y else q02 clT c (q0x clT c' v l))=_
   rw [q29 c c' v l]
   cases hb:eqT clT c k with
   | true =>
    have:=(qgb c k).1 hb
    subst this
    have:eqT clT c c'=false:=by
     refine jio fun h=>?_
     subst h;rw [(qgb c c).2 rfl] at hk;cases hk
    rw [this];rfl
   | false=>rfl
theorem qde (c:Cl) (v:Int×Int) (l:jir):q02 clT c (q0x clT c v l)=some v:=by rw [q29,(qgb c c).2 rfl];rfl
theorem q2m {c c':Cl} (h:c≠c') (v:Int×Int) (l:jir):q02 clT c (q0x clT c' v l)=q02 clT c l:=by rw [q29,jio h];rfl
end Go.Proofs.YtapfankgdkdkgaaGreatDoor.AM
namespace Go.Proofs
open Go.RowKit Go.Extern.Stop Go.Stop Go.Extern
namespace YtapfankgdkdkgaaGreatDoor.AM
abbrev gC:Nat:=9
theorem jgb (z:Sem Value) (f:TypeId→Addr→Nat→Nat→Sem Value) (v:Value) :
  ReflectliteValue.method z f #[v]=(do match ← ReflectliteValue.parts v with|none=>z|some (t,a,fl)=>f t a fl (fl % 32)):=rfl
theorem jo0 (v x:Value):ReflectliteValue.set #[v,x]=(do
  let (some (dst,a,fl),some (src,b,_)):=(← ReflectliteValue.parts v,← ReflectliteValue.parts x)
   | unsupported (.noEntry "extern/(internal/reflectlite.Value).Set.zeroValue")
  if fl / ReflectliteValue.flagAddr % 2==0 then unsupported (.noEntry "extern/(internal/reflectlite.Value).Set.unaddressable")
  let val ← loadVar src b
  if ← Rtype.directlyAssignable dst src then storeVar dst a val
  else if ← Rtype.implements dst src then
   if (← Rtype.kind src)==20 then
    match val with
    | .nilIface=>unsupported (.noEntry "extern/reflectlite: a nil value of one interface type handed on as a value of another")
    | _=>storeVar dst a val
   else storeVar dst a (.iface src val)
  else panicString ("reflectlite.Set: value of type " ++ (← Rtype.spelt src) ++ " is not assignable to type " ++ (← Rtype.spelt dst))
  pure (.tuple #[])):=rfl
theorem asMK (h:Value) (w:World):(Go.method 406 196 (.agg #[h]) "Kind").run Tryz.prog w = .ok (250,h) w:=by kernel_rfl
theorem asME (h:Value) (w:World):(Go.method 406 196 (.agg #[h]) "Elem").run Tryz.prog w = .ok (263,.agg #[h]) w:=by kernel_rfl
theorem asMI (h:Value) (w:World):(Go.method 406 196 (.agg #[h]) "Implements").run Tryz.prog w = .ok (264,.agg #[h]) w:=by kernel_rfl
theorem asMA (h:Value) (w:World):(Go.method 406 196 (.agg #[h]) "AssignableTo").run Tryz.prog w = .ok (261,.agg #[h]) w:=by kernel_rfl
theorem jkt (t:Addr) (w:World):(ReflectliteValue.unpack (.iface 136 (.pointer (some t)))).run Tryz.prog w
  = .ok (.agg #[.pointer (some ⟨gC,136,none⟩),.pointer (some ⟨w.heap.size,0,none⟩),.int .u64 150]) (w.alloc (.cells #[.pointer (some t)] 136)):=by kernel_rfl
theorem jj0 (a:Addr) (w:World):(ReflectliteValue.methodAny (ReflectliteValue.valueError "reflectlite.Value.Type" 0) (fun t _ _ _=>ReflectliteType.toType t) #[.agg #[.pointer (some ⟨gC,136,none⟩),.pointer (some a),.int .u64 150]]).run Tryz.prog w
  = .ok (.iface 196 (.agg #[.pointer (some ⟨gC,136,none⟩)])) w:=by kernel_rfl
theorem jmb (w:World):((ReflectliteType.abiMethod fun t=>(fun a:Nat=>Value.int IntKind.u8 (a:Int)) <$> Rtype.kind t) #[.pointer (some ⟨gC,136,none⟩)]).run Tryz.prog w = .ok (.int .u8 22) w:=by kernel_rfl
theorem jnm (w:World):((ReflectliteType.abiMethod fun t=>(fun a:Nat=>Value.int IntKind.u8 (a:Int)) <$> Rtype.kind t) #[.pointer (some ⟨gC,126,none⟩)]).run Tryz.prog w = .ok (.int .u8 25) w:=by kernel_rfl
theorem j8z (a:Addr) (w:World):(ReflectliteValue.parts (.agg #[.pointer (some ⟨gC,136,none⟩),.pointer (some a),.int .u64 150])).run Tryz.prog w = .ok (some (136,a,150)) w:=by kernel_rfl
theorem j6q:Tryz.prog.underlying 136=some (.pointer 126):=by kernel_rfl
theorem jjq (a p:Addr) (W:World) (ha:W.cell? a=some (.pointer (some p))) :
  (ReflectliteValue.method (ReflectliteValue.valueError "reflectlite.Value.IsNil" 0) ReflectliteValue.isNil #[.agg #[.pointer (some ⟨gC,136,none⟩),.pointer (some a),.int .u64 150]]).run Tryz.prog W = .ok (.bool false) W:=by
 rw [jgb]
 simp only [Sem.run_bind,j8z,Result.andThen]
 simp [ReflectliteValue.isNil,loadVar,isAgg,underlying,j6q,ha,Result.andThen]
theorem jk1 (w:World):(ReflectliteType.method ReflectliteType.elem #[.agg #[.pointer (some ⟨gC,136,none⟩)]]).run Tryz.prog w = .ok (.iface 196 (.agg #[.pointer (some ⟨gC,126,none⟩)])) w:=by kernel_rfl
theorem jnt (w:World):(ReflectliteType.relation "Implements" ReflectliteType.implements_ #[.agg #[.pointer (some ⟨gC,126,none⟩)],.iface 196 (.agg #[.pointer (some ⟨gC,82,none⟩)])]).run Tryz.prog w = .ok (.bool true) w:=by kernel_rfl
theorem jpb (v:Value) (w:World):(ReflectliteType.typeOf #[.iface 126 v]).run Tryz.prog w = .ok (.iface 196 (.agg #[.pointer (some ⟨gC,126,none⟩)])) w:=by kernel_rfl
theorem jp1 (w:World):(ReflectliteType.relation "AssignableTo" ReflectliteType.assignableTo #[.agg #[.pointer (some ⟨gC,126,none⟩)],.iface 196 (.agg #[.pointer (some ⟨gC,126,none⟩)])]).run Tryz.prog w = .ok (.bool true) w:=by kernel_rfl
theorem jmj (w:World):(Rtype.elem? 136).run Tryz.prog w = .ok (some 126) w:=by kernel_rfl
theorem asMkT (p:Addr) (w:World):(ReflectliteValue.mk 126 p ReflectliteValue.flagAddr).run Tryz.prog w = .ok (.agg #[.pointer (some ⟨gC,126,none⟩),.pointer (some p),.int .u64 409]) w:=by kernel_rfl
theorem jel (a p:Addr) (W:World) (ha:W.cell? a=some (.pointer (some p))) :
  (ReflectliteValue.method (ReflectliteValue.valueError "reflectlite.Value.Elem" 0) ReflectliteValue.elem #[.agg #[.pointer (some ⟨gC,136,none⟩),.pointer (some a),.int .u64 150]]).run Tryz.prog W
   = .ok (.agg #[.pointer (some ⟨gC,126,none⟩),.pointer (some p),.int .u64 409]) W:=by
 rw [jgb]
 simp only [Sem.run_bind,j8z,Result.andThen]
 simp [ReflectliteValue.elem,loadVar,isAgg,underlying,j6q,ha,Result.andThen,jmj,asMkT]
theorem joi (n:Int) (w:World):(ReflectliteValue.unpack (.iface 126 (.agg #[.int .i64 n]))).run Tryz.prog w
  = .ok (.agg #[.pointer (some ⟨gC,126,none⟩),.pointer (some ⟨w.heap.size,0,none⟩),.int .u64 153]) (w.alloc (.cells #[.int .i64 n] 126)):=by kernel_rfl
theorem jm5 (a:Addr) (w:World):(ReflectliteValue.parts (.agg #[.pointer (some ⟨gC,126,none⟩),.pointer (some a),.int .u64 409])).run Tryz.prog w = .ok (some (126,a,409)) w:=by kernel_rfl
theorem jnq (a:Addr) (w:World):(ReflectliteValue.parts (.agg #[.pointer (some ⟨gC,126,none⟩),.pointer (some a),.int .u64 153])).run Tryz.prog w = .ok (some (126,a,153)) w:=by kernel_rfl
theorem jox (w:World):(Rtype.directlyAssignable 126 126).run Tryz.prog w = .ok true w:=by kernel_rfl
theorem jol (w:World):(sizeOf 126).run Tryz.prog w = .ok 1 w:=by kernel_rfl
theorem jjt (t:Addr) (w:World):(ReflectliteValue.unpack (.iface 135 (.pointer (some t)))).run Tryz.prog w
  = .ok (.agg #[.pointer (some ⟨gC,135,none⟩),.pointer (some ⟨w.heap.size,0,none⟩),.int .u64 150]) (w.alloc (.cells #[.pointer (some t)] 135)):=by kernel_rfl
theorem jlv (a:Addr) (w:World):(ReflectliteValue.methodAny (ReflectliteValue.valueError "reflectlite.Value.Type" 0) (fun t _ _ _=>ReflectliteType.toType t) #[.agg #[.pointer (some ⟨gC,135,none⟩),.pointer (some a),.int .u64 150]]).run Tryz.prog w
  = .ok (.iface 196 (.agg #[.pointer (some ⟨gC,135,none⟩)])) w:=by kernel_rfl
theorem jiw (w:World):((ReflectliteType.abiMethod fun t=>(fun a:Nat=>Value.int IntKind.u8 (a:Int)) <$> Rtype.kind t) #[.pointer (some ⟨gC,135,none⟩)]).run Tryz.prog w = .ok (.int .u8 22) w:=by kernel_rfl
theorem jpn (w:World):((ReflectliteType.abiMethod fun t=>(fun a:Nat=>Value.int IntKind.u8 (a:Int)) <$> Rtype.kind t) #[.pointer (some ⟨gC,128,none⟩)]).run Tryz.prog w = .ok (.int .u8 25) w:=by kernel_rfl
theorem j6x (a:Addr) (w:World):(ReflectliteValue.parts (.agg #[.pointer (some ⟨gC,135,none⟩),.pointer (some a),.int .u64 150])).run Tryz.prog w = .ok (some (135,a,150)) w:=by kernel_rfl
theorem jd6:Tryz.prog.underlying 135=some (.pointer 128):=by kernel_rfl
theorem jkv (a p:Addr) (W:World) (ha:W.cell? a=some (.pointer (some p))) :
  (ReflectliteValue.method (ReflectliteValue.valueError "reflectlite.Value.IsNil" 0) ReflectliteValue.isNil #[.agg #[.pointer (some ⟨gC,135,none⟩),.pointer (some a),.int .u64 150]]).run Tryz.prog W = .ok (.bool false) W:=by
 rw [jgb]
 simp only [Sem.run_bind,j6x,Result.andThen]
 simp [ReflectliteValue.isNil,loadVar,isAgg,underlying,jd6,ha,Result.andThen]
theorem jjx (w:World):(ReflectliteType.method ReflectliteType.elem #[.agg #[.pointer (some ⟨gC,135,none⟩)]]).run Tryz.prog w = .ok (.iface 196 (.agg #[.pointer (some ⟨gC,128,none⟩)])) w:=by kernel_rfl
theorem joh (w:World):(ReflectliteType.relation "Implements" ReflectliteType.implements_ #[.agg #[.pointer (some ⟨gC,128,none⟩)],.iface 196 (.agg #[.pointer (some ⟨gC,82,none⟩)])]).run Tryz.prog w = .ok (.bool true) w:=by kernel_rfl
theorem ji2 (v:Value) (w:World):(ReflectliteType.typeOf #[.iface 128 v]).run Tryz.prog w = .ok (.iface 196 (.agg #[.pointer (some ⟨gC,128,none⟩)])) w:=by kernel_rfl
theorem jpd (w:World):(ReflectliteType.relation "AssignableTo" ReflectliteType.assignableTo #[.agg #[.pointer (some ⟨gC,128,none⟩)],.iface 196 (.agg #[.pointer (some ⟨gC,128,none⟩)])]).run Tryz.prog w = .ok (.bool true) w:=by kernel_rfl
theorem jiu (w:World):(Rtype.elem? 135).run Tryz.prog w = .ok (some 128) w:=by kernel_rfl
theorem asMkB (p:Addr) (w:World):(ReflectliteValue.mk 128 p ReflectliteValue.flagAddr).run Tryz.prog w = .ok (.agg #[.pointer (some ⟨gC,128,none⟩),.pointer (some p),.int .u64 409]) w:=by kernel_rfl
theorem jh0 (a p:Addr) (W:World) (ha:W.cell? a=some (.pointer (some p))) :
  (ReflectliteValue.method (ReflectliteValue.valueError "reflectlite.Value.Elem" 0) ReflectliteValue.elem #[.agg #[.pointer (some ⟨gC,135,none⟩),.pointer (some a),.int .u64 150]]).run Tryz.prog W
   = .ok (.agg #[.pointer (some ⟨gC,128,none⟩),.pointer (some p),.int .u64 409]) W:=by
 rw [jgb]
 simp only [Sem.run_bind,j6x,Result.andThen]
 simp [ReflectliteValue.elem,loadVar,isAgg,underlying,jd6,ha,Result.andThen,jiu,asMkB]
theorem jo1 (n:Int) (c:Value) (w:World):(ReflectliteValue.unpack (.iface 128 (.agg #[.int .i64 n,c]))).run Tryz.prog w
  = .ok (.agg #[.pointer (some ⟨gC,128,none⟩),.pointer (some ⟨w.heap.size,0,none⟩),.int .u64 153]) (w.alloc (.cells #[.int .i64 n,c] 128)):=by kernel_rfl
theorem jm4 (a:Addr) (w:World):(ReflectliteValue.parts (.agg #[.pointer (some ⟨gC,128,none⟩),.pointer (some a),.int .u64 409])).run Tryz.prog w = .ok (some (128,a,409)) w:=by kernel_rfl
theorem jp4 (a:Addr) (w:World):(ReflectliteValue.parts (.agg #[.pointer (some ⟨gC,128,none⟩),.pointer (some a),.int .u64 153])).run Tryz.prog w = .ok (some (128,a,153)) w:=by kernel_rfl
theorem jnp (w:World):(Rtype.directlyAssignable 128 128).run Tryz.prog w = .ok true w:=by kernel_rfl
theorem jnk (w:World):(sizeOf 128).run Tryz.prog w = .ok 2 w:=by kernel_rfl
theorem jlw (w:World):(ReflectliteType.relation "AssignableTo" ReflectliteType.assignableTo #[.agg #[.pointer (some ⟨gC,128,none⟩)],.iface 196 (.agg #[.pointer (some ⟨gC,126,none⟩)])]).run Tryz.prog w = .ok (.bool false) w:=by kernel_rfl
theorem asMU (v:Value) (w:World):(Go.method 406 128 v "Unwrap").run Tryz.prog w = .ok (255,v) w:=by kernel_rfl
end YtapfankgdkdkgaaGreatDoor.AM
end Go.Proofs
