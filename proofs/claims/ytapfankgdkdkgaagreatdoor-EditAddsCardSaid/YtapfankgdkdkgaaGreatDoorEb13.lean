
import Derived.Test.YtapfankgdkdkgaaGreatDoorEb12
import Derived.Test.YtapfankgdkdkgaaGreatDoorEb8
import Derived.Lib.Join
import Derived.WalkKit
import Derived.LaidEql
import Derived.Stop.Asserts
import Derived.RowKitTokens
import Derived.Test.YtapfankgdkdkgaaGreatDoorProg
set_option linter.unusedVariables false
set_option linter.unusedSimpArgs false
namespace Go.Proofs
open Go.RowKit Go.Shelf Go.Lib
attribute [local go_sem] Oper.semAt_some
namespace YtapfankgdkdkgaaGreatDoor.AM
theorem jgj (x:List UInt8) (w:World) (hI:Inv w) (hx:x.length≤1000000):Calls Tryz.prog 154 #[.string (ba x)] w fun e w'=>e = .returned (.bool (q8z x))∧Below w.heap.size w w':=by
 have h:=(jha 1000001 Inv q8m).1.2 x (q8z x) (j6f 1000001 x (by omega) (by omega))
 refine (h (fun _ _=>False) w #[.string (ba x)] hI (fun b o h=>h.elim) ⟨q07 _,trivial⟩).mono ?_
 rintro e w' ⟨v,Pc,rfl,hb,_,_,hv⟩
 have hv':v = .bool (q8z x):=q0a hv
 rw [hv']
 exact ⟨rfl,hb⟩
set_option maxHeartbeats 2000000 in
theorem qxc (s:List UInt8) (w:World) (hI:Inv w):Calls Tryz.prog 119 #[.string (ba s)] w fun e w'=>e = .returned (.bool (q3a s))∧Below w.heap.size w w':=by
 refine (callsIn_wide (n:=9)).1 ?_
 refine callsIn_of_wp_marks Tryz.func119 rfl trivial ?_ rfl
 simp only [Tryz.ntmps119,List.size_toArray,List.length_cons,List.length_nil,Nat.reduceAdd,Nat.reduceSub,Array.replicate_succ,Array.replicate_zero,List.push_toArray,List.append_toArray,List.nil_append,List.cons_append]
 have hsz:(ba s).size=s.length:=q30 s
 by_cases h2:s.length≤60
 ·skip
  gi_wp2_with (refine ⟨trivial,?_⟩;gi_at_call 136;refine (callsIn_wide.2 (q49 _ _ _)).mono ?_;rintro e w' ⟨rfl,rfl⟩)
  obtain ⟨W0,hW0,hs0,hb0,g0,g1,g2,g3⟩:=four w (Obj.cells #[Value.bool false] 4) (Obj.cells #[Value.string (ba s)] 9) (Obj.cells #[Value.string { data:=#[47] }] 9) (Obj.cells #[Value.int IntKind.i64 0] 3)
  rw [hW0]
  clear hW0
  obtain ⟨c1,f1⟩:=q0j g0
  obtain ⟨c2,f2⟩:=q0j g1
  obtain ⟨c3,f3⟩:=q0j g2
  obtain ⟨c4,f4⟩:=q0j g3
  refine range_split (n:=9) (by omega) 47 (w.heap.size+1) (w.heap.size+1+1) (w.heap.size+1+2) s (by omega) rfl ⟨c2,f2⟩
   (Rng (.string (ba [47])) (w.heap.size+1+1) w.heap.size (w.heap.size+1+1) (w.heap.size+1+2) 47 w q8z) (RngX w.heap.size w q8z) (qrp (by omega)) (qpu (by omega))
   (fun pre W h=>⟨h.cP,h.cC,(hI.below h.below).maxLen⟩) (fun pre W v h=>qp6 v h (by omega) (by omega) (by omega) (by omega) (by omega)) ⟨c3,c1,f1,c3,c4,hb0,rfl⟩
   (fun x=>{ tmps:=#[.string (ba s),undef,.pointer (some ⟨w.heap.size,0,none⟩),.string (ba x),.string (ba s),.int .i64 s.length,.bool (decide ((60:Int)<s.length)),.string (ba s),.func (.func 200) #[] #[.pointer (some ⟨w.heap.size+1+1,0,none⟩),.pointer (some ⟨w.heap.size+1,0,none⟩),.pointer (some ⟨w.heap.size+1+2,0,none⟩)],.string (ba x),undef,undef,undef],defers:=[] }) ?assign ?body ?done ?stop
  case assign =>
   intro l x W K hK
   gi_wp2
   exact hK
  case body =>
   intro l pre x r W hi hL hx
   have k1:=hi.res
   have k2:=hi.frz
   have hc:=jgj x W (hI.below hi.below) (by omega)
   cases hpx:q8z x with
   | true =>
    rw [hpx] at hc
    gi_wp2_with (refine ⟨trivial,?_⟩;gi_at_call 154;refine (CallsIn.inRound l (callsIn_wide.2 hc)).mono ?_;rintro e w' ⟨rfl,hb'⟩)
    exact ⟨q2m hb',qcf hi hb' (by simp [hpx]),qal hL hb'⟩
   | false =>
    rw [hpx] at hc
    gi_wp2_with (refine ⟨trivial,?_⟩;gi_at_call 154;refine (CallsIn.inRound l (callsIn_wide.2 hc)).mono ?_;rintro e w' ⟨rfl,hb'⟩;have k3:=q2u hb' hi.res;have k4:=(q3f hb' hi.res).trans hi.frz)
    exact ⟨(q2m hb').trans (KeepsOthers.setCell _ _ _),World.cell?_setCell_same' _ _ _ (by rw [k3];rfl),(hi.below.trans (hb'.mono hi.below.size)).setCell (by simp) _,by simp [hpx]⟩
  case done =>
   intro D W hD hi hK
   have k1:=hi.res
   have k2:=hi.frz
   gi_wp2
   have hK':=(KeepsOthers.setCell W ⟨w.heap.size,0,none⟩ (.bool true)).same D _ hK rfl
   have hW':Below w.heap.size w (W.setCell ⟨w.heap.size,0,none⟩ (.bool true)):=hi.below.setCell (by simp) _
   have k5:(W.setCell ⟨w.heap.size,0,none⟩ (.bool true)).cell? ⟨w.heap.size,0,none⟩=some (.bool true):=World.cell?_setCell_same' _ _ _ (by rw [k1];rfl)
   generalize W.setCell ⟨w.heap.size,0,none⟩ (.bool true)=W2 at hK' hW' k5
   refine ⟨by simp,.inl ⟨_,_,rfl,run_takeDeferred hK',?_⟩⟩
   have hg:=grownBy_putObj' W2 D (.deferred none)
   refine ⟨_,q2s (b:=w.heap.size) (v:=.bool true) rfl rfl hag (cell_kept k5 hg (fun r e=>by cases e;exact ⟨_,hK',rfl⟩)),?_,?_⟩
   ·have ha:=hi.all
    unfold q3a;simp [h2,ha]
   ·exact hW'.grown hg hW'.size (fun k e=>by cases e;omega)
  case stop =>
   intro D pre x t W hD hsp hi hK
   refine ⟨by simp,.inl ⟨_,_,rfl,run_takeDeferred hK,?_⟩⟩
   have hg:=grownBy_putObj' W D (.deferred none)
   refine ⟨_,q2s (b:=w.heap.size) (v:=.bool false) rfl rfl hag (cell_kept hi.res hg (fun r e=>by cases e;exact ⟨_,hK,rfl⟩)),?_,?_⟩
   ·have ha:=j1l hsp hi.no
    unfold q3a;simp [ha]
   ·exact hi.below.grown hg hi.below.size (fun k e=>by cases e;omega)
 ·gi_wp2
  refine ⟨_,q2s (b:=w.heap.size) (v:=.bool false) rfl rfl hag (by simp),?_,?_⟩
  ·unfold q3a;simp [h2]
  ·exact (Below.refl _ w).alloc (Nat.le_refl _) _
def qlo (s:List UInt8):Option Bool:=some (q3a s)
def jhs:FC:={ f:=119,args:=[qn1],res:=jfr,F:=fun p=>qlo p }
theorem j1w:q06 Inv Tryz.prog jhs:=fun G hG=>⟨⟨by kernel_rfl,fun (s:List UInt8) r h=>by
 have hr:q3a s=r:=Option.some.inj h
 intro Pc w vs hg hlt hv
 obtain ⟨l⟩:=vs
 match l,hv with
 | [x],⟨h1,_⟩ =>
  obtain rfl:x = .string (ba s):=q0a h1
  refine (qxc s w (hG.im w hg)).mono ?_
  rintro e w' ⟨rfl,hb⟩
  subst hr
  exact q47 rfl hb (q07 _)⟩,rfl⟩
end YtapfankgdkdkgaaGreatDoor.AM
end Go.Proofs
namespace Go.Proofs
open Go.RowKit Go.Shelf Go.Lib
attribute [local go_sem] Oper.semAt_some
namespace YtapfankgdkdkgaaGreatDoor.AM
theorem j78 (x:List UInt8) (w:World) (hI:Inv w) (hx:x.length≤1000000):Calls Tryz.prog 134 #[.string (ba x)] w fun e w'=>e = .returned (.bool (q1l x))∧Below w.heap.size w w':=by
 have h:=(qt8 1000001 Inv q8m).1.2 x (q1l x) (qi5 1000001 x (by omega))
 refine (h (fun _ _=>False) w #[.string (ba x)] hI (fun b o h=>h.elim) ⟨q07 _,trivial⟩).mono ?_
 rintro e w' ⟨v,Pc,rfl,hb,_,_,hv⟩
 have hv':v = .bool (q1l x):=q0a hv
 rw [hv']
 exact ⟨rfl,hb⟩
set_option maxHeartbeats 2000000 in
theorem j3x (s:List UInt8) (w:World) (hI:Inv w) (h2:s.length≤1000000):Calls Tryz.prog 133 #[.string (ba s)] w fun e w'=>e = .returned (.bool (anyS s))∧Below w.heap.size w w':=by
 refine (callsIn_wide (n:=9)).1 ?_
 refine callsIn_of_wp_marks Tryz.func133 rfl trivial ?_ rfl
 simp only [Tryz.ntmps133,List.size_toArray,List.length_cons,List.length_nil,Nat.reduceAdd,Nat.reduceSub,Array.replicate_succ,Array.replicate_zero,List.push_toArray,List.append_toArray,List.nil_append,List.cons_append]
 have hsz:(ba s).size=s.length:=q30 s
 have key:anyS s = !((spl 47 [] s).all fun x=>!q1l x):=by unfold anyS;rw [List.any_eq_not_all_not]
 ·skip
  gi_wp2_with (refine ⟨trivial,?_⟩;gi_at_call 136;refine (callsIn_wide.2 (q49 _ _ _)).mono ?_;rintro e w' ⟨rfl,rfl⟩)
  obtain ⟨W0,hW0,hs0,hb0,g0,g1,g2,g3⟩:=four w (Obj.cells #[Value.bool false] 4) (Obj.cells #[Value.string (ba s)] 9) (Obj.cells #[Value.string { data:=#[47] }] 9) (Obj.cells #[Value.int IntKind.i64 0] 3)
  rw [hW0]
  clear hW0
  obtain ⟨c1,f1⟩:=q0j g0
  obtain ⟨c2,f2⟩:=q0j g1
  obtain ⟨c3,f3⟩:=q0j g2
  obtain ⟨c4,f4⟩:=q0j g3
  refine range_split (n:=9) (by omega) 47 (w.heap.size+1) (w.heap.size+1+1) (w.heap.size+1+2) s (by omega) rfl ⟨c2,f2⟩
   (Rng (.string (ba [47])) (w.heap.size+1+1) w.heap.size (w.heap.size+1+1) (w.heap.size+1+2) 47 w (fun x=>!q1l x)) (RngY w.heap.size w (fun x=>!q1l x)) (qrp (by omega)) (jhh (by omega))
   (fun pre W h=>⟨h.cP,h.cC,(hI.below h.below).maxLen⟩) (fun pre W v h=>qp6 v h (by omega) (by omega) (by omega) (by omega) (by omega)) ⟨c3,c1,f1,c3,c4,hb0,rfl⟩
   (fun x=>{ tmps:=#[.string (ba s),undef,.pointer (some ⟨w.heap.size,0,none⟩),.string (ba x),.string (ba s),.func (.func 200) #[] #[.pointer (some ⟨w.heap.size+1+1,0,none⟩),.pointer (some ⟨w.heap.size+1,0,none⟩),.pointer (some ⟨w.heap.size+1+2,0,none⟩)],.string (ba x),undef,undef],defers:=[] }) ?assign ?body ?done ?stop
  case assign =>
   intro l x W K hK
   gi_wp2
   exact hK
  case body =>
   intro l pre x r W hi hL hx
   have k1:=hi.res
   have k2:=hi.frz
   have hc:=j78 x W (hI.below hi.below) (by omega)
   cases hpx:q1l x with
   | false =>
    rw [hpx] at hc
    gi_wp2_with (refine ⟨trivial,?_⟩;gi_at_call 134;refine (CallsIn.inRound l (callsIn_wide.2 hc)).mono ?_;rintro e w' ⟨rfl,hb'⟩)
    exact ⟨q2m hb',qcf hi hb' (by simp [hpx]),qal hL hb'⟩
   | true =>
    rw [hpx] at hc
    gi_wp2_with (refine ⟨trivial,?_⟩;gi_at_call 134;refine (CallsIn.inRound l (callsIn_wide.2 hc)).mono ?_;rintro e w' ⟨rfl,hb'⟩;have k3:=q2u hb' hi.res;have k4:=(q3f hb' hi.res).trans hi.frz)
    exact ⟨(q2m hb').trans (KeepsOthers.setCell _ _ _),World.cell?_setCell_same' _ _ _ (by rw [k3];rfl),(hi.below.trans (hb'.mono hi.below.size)).setCell (by simp) _,by simp [hpx]⟩
  case done =>
   intro D W hD hi hK
   have k1:=hi.res
   have k2:=hi.frz
   gi_wp2
   have hK':=(KeepsOthers.setCell W ⟨w.heap.size,0,none⟩ (.bool false)).same D _ hK rfl
   have hW':Below w.heap.size w (W.setCell ⟨w.heap.size,0,none⟩ (.bool false)):=hi.below.setCell (by simp) _
   have k5:(W.setCell ⟨w.heap.size,0,none⟩ (.bool false)).cell? ⟨w.heap.size,0,none⟩=some (.bool false):=World.cell?_setCell_same' _ _ _ (by rw [k1];rfl)
   generalize W.setCell ⟨w.heap.size,0,none⟩ (.bool false)=W2 at hK' hW' k5
   refine ⟨by simp,.inl ⟨_,_,rfl,run_takeDeferred hK',?_⟩⟩
   have hg:=grownBy_putObj' W2 D (.deferred none)
   refine ⟨_,q2s (b:=w.heap.size) (v:=.bool false) rfl rfl hag (cell_kept k5 hg (fun r e=>by cases e;exact ⟨_,hK',rfl⟩)),?_,?_⟩
   ·have ha:=hi.all
    rw [key,ha];rfl
   ·exact hW'.grown hg hW'.size (fun k e=>by cases e;omega)
  case stop =>
   intro D pre x t W hD hsp hi hK
   refine ⟨by simp,.inl ⟨_,_,rfl,run_takeDeferred hK,?_⟩⟩
   have hg:=grownBy_putObj' W D (.deferred none)
   refine ⟨_,q2s (b:=w.heap.size) (v:=.bool true) rfl rfl hag (cell_kept hi.res hg (fun r e=>by cases e;exact ⟨_,hK,rfl⟩)),?_,?_⟩
   ·have ha:=j1l hsp hi.no
    rw [key,ha];rfl
   ·exact hi.below.grown hg hi.below.size (fun k e=>by cases e;omega)
theorem jai (s:List UInt8) (b:Nat):(ba s).extract 0 b=ba (s.take b):=by
 rw [← jbl ((ba s).extract 0 b)]
 congr 1
 unfold unB ba
 rw [ByteArray.data_extract]
 simp
theorem j8f (x:List UInt8) (w:World) (hI:Inv w) (hx:x.length≤1000000):Calls Tryz.prog 164 #[.string (ba x),.int .u8 47] w fun e w'=>e = .returned (.int .i64 (q4j 47 x))∧Below w.heap.size w w':=by
 have h:=(j2l 1000001 Inv q8m).1.2 (x,(47:Int)) (q4j 47 x) (qnv 1000001 x (by omega) (by omega))
 refine (h (fun _ _=>False) w #[.string (ba x),.int .u8 47] hI (fun b o h=>h.elim) ⟨q07 _,q07 _,trivial⟩).mono ?_
 rintro e w' ⟨v,Pc,rfl,hb,_,_,hv⟩
 have hv':v = .int .i64 (q4j 47 x):=q0a hv
 rw [hv']
 exact ⟨rfl,hb⟩
theorem qyb (s:List UInt8) (w:World) (hI:Inv w) (hs:s.length≤1000000):Calls Tryz.prog 131 #[.string (ba s)] w fun e w'=>e = .returned (.string (ba (q2i s)))∧Below w.heap.size w w':=by
 have hl:=qqq 47 s
 have hsz:(ba s).size=s.length:=q30 s
 have hc:=j8f s w hI hs
 go_enter Tryz.func131,Tryz.ntmps131
 by_cases h0:q4j 47 s = -1
 ·rw [h0] at hc
  go_wp2_with (go_at_call 164;refine hc.mono ?_)
  rintro e w' ⟨rfl,hb⟩
  go_wp2
  go_ret
  refine ⟨?_,hb⟩
  show Ending.returned (.string ((ba s).extract 0 (max 0 (-1:Int)).toNat))=_
  rw [jai];unfold q2i;rw [h0];rfl
 ·obtain ⟨k,hk⟩ : ∃ k:Nat,q4j 47 s=(k:Int):=⟨(q4j 47 s).toNat,by omega⟩
  rw [hk] at hc
  go_wp2_with (go_at_call 164;refine hc.mono ?_)
  rintro e w' ⟨rfl,hb⟩
  go_wp2
  go_ret
  refine ⟨?_,hb⟩
  show Ending.returned (.string ((ba s).extract 0 (max 0 (k:Int)).toNat))=_
  rw [jai];unfold q2i;rw [hk,Int.max_eq_right (by omega)]
theorem jgr (x:List UInt8) (w:World) (hI:Inv w) (hx:x.length≤1000000):Calls Tryz.prog 155 #[.string (ba x),.string (ba [118])] w fun e w'=>e = .returned (.string (ba (q1k x)))∧Below w.heap.size w w':=by
 have h:=(qcv 100 Inv q8m).1.2 (x,([118]:List UInt8)) (q1k x) (qwn 100 x (by omega))
 refine (h (fun _ _=>False) w #[.string (ba x),.string (ba [118])] hI (fun b o h=>h.elim) ⟨q07 _,q07 _,trivial⟩).mono ?_
 rintro e w' ⟨v,Pc,rfl,hb,_,_,hv⟩
 have hv':v = .string (ba (q1k x)):=q0a hv
 rw [hv']
 exact ⟨rfl,hb⟩
theorem jab (n:Int) (w:World) (hI:Inv w) (h0:2≤n) (h1:n≤999999999):Calls Tryz.prog 76 #[.int .i64 n] w fun e w'=>e = .returned (.string (ba (Lib.itoa n)))∧Below w.heap.size w w':=by
 refine (Any.strconv_Itoa Tryz.laysItoa n (by omega) (by omega) w hI.tab).mono ?_
 rintro e w' ⟨rfl,k,os,rfl⟩
 exact ⟨rfl,Lib.below_grow _ w (Nat.le_refl _) k os⟩
set_option maxHeartbeats 2000000 in
theorem j3h (s:List UInt8) (w:World) (hI:Inv w) (hs:s.length≤1000000):Calls Tryz.prog 135 #[.string (ba s)] w fun e w'=>e = .returned (.tuple #[.int .i64 (numOf (q1k s)),.bool (qml (q1k s))])∧Below w.heap.size w w':=by
 have hc:=jgr s w hI hs
 have hl:=qva s
 go_enter Tryz.func135,Tryz.ntmps135
 go_wp2_with (go_at_call 155;refine hc.mono ?_)
 rintro e w1 ⟨rfl,hb1⟩
 clear hc
 have hI1:=hI.below hb1
 have e1:(ba (q1k s)).data.toList=q1k s:=by simp [ba]
 have hl':(ba (q1k s)).size≤281474976710656:=by rw [q30];omega
 obtain ⟨ts,ps,hsy⟩:=hI1.syn
 obtain ⟨tr,pr,hrg⟩:=hI1.rng
 cases h:Lib.atoiAll (q1k s) with
 | ok v =>
  go_wp2_with (go_at_call 167;refine (Any.strconv_Atoi_ok Tryz.laysAtoi (ba (q1k s)) (by omega) v (by rw [e1];exact h) w1).mono ?_)
  rintro e w2 ⟨rfl,hw⟩
  have hb2:Below w1.heap.size w1 w2:=by
   rcases hw with rfl|⟨t,rfl⟩
   ·exact Below.refl _ _
   ·exact Lib.bytesWorld_below _ _ _
  clear hw
  have hb:Below w.heap.size w w2:=hb1.trans (hb2.mono hb1.size)
  by_cases h2:2≤v
  ·by_cases h3:v≤999999999
   ·have hi:=jab v w2 (hI.below hb) h2 h3
    go_wp2_with (go_at_call 76;refine hi.mono ?_)
    rintro e w3 ⟨rfl,hb3⟩
    go_wp2
    go_ret2
    refine ⟨?_,hb.trans (hb3.mono hb.size)⟩
    unfold numOf qml;rw [h]
    simp [h2,h3,q74]
    rw [Bool.eq_iff_iff];simp
   ·go_wp2
    go_ret2
    refine ⟨?_,hb⟩
    unfold numOf qml;rw [h]
    simp [h2,show ¬ v≤999999999 from by omega]
  ·go_wp2
   go_ret2
   refine ⟨?_,hb⟩
   unfold numOf qml;rw [h]
   simp [show ¬ 2≤v from by omega]
 | «syntax» =>
  go_wp2_with (go_at_call 167;refine (Any.strconv_Atoi_syntax Tryz.laysAtoi (ba (q1k s)) hl' (by rw [e1];exact h) _ w1 hsy (Or.inr ⟨_,_,rfl⟩)).mono ?_)
  rintro e w2 ⟨N,rfl,hN,hc,hb2⟩
  go_wp2
  go_ret2
  refine ⟨?_,hb1.trans (hb2.mono hb1.size)⟩
  unfold numOf qml;rw [h];rfl
 | range =>
  go_wp2_with (go_at_call 167;refine (Any.strconv_Atoi_range Tryz.laysAtoi (ba (q1k s)) hl' (by rw [e1];exact h) _ w1 hrg (Or.inr ⟨_,_,rfl⟩)).mono ?_)
  rintro e w2 ⟨N,rfl,hN,hc,hb2⟩
  rw [e1]
  go_wp2
  go_ret2
  refine ⟨?_,hb1.trans (hb2.mono hb1.size)⟩
  unfold numOf qml;rw [h];rfl
def qsk (s:List UInt8):Option Bool:=if s.length≤1000000 then some (anyS s) else none
def jla:FC:={ f:=133,args:=[qn1],res:=jfr,F:=fun p=>qsk p }
theorem jjs:q06 Inv Tryz.prog jla:=fun G hG=>⟨⟨by kernel_rfl,fun (s:List UInt8) r h=>by
 have h':qsk s=some r:=h
 unfold qsk at h'
 split at h'
 case isFalse=>cases h'
 rename_i hc
 have hr:anyS s=r:=Option.some.inj h'
 intro Pc w vs hg hlt hv
 obtain ⟨l⟩:=vs
 match l,hv with
 | [x],⟨h1,_⟩ =>
  obtain rfl:x = .string (ba s):=q0a h1
  refine (j3x s w (hG.im w hg) hc).mono ?_
  rintro e w' ⟨rfl,hb⟩
  subst hr
  exact q47 rfl hb (q07 _)⟩,rfl⟩
def qif (s:List UInt8):Option (List UInt8):=if s.length≤1000000 then some (q2i s) else none
def jf2:FC:={ f:=131,args:=[qn1],res:=qn1,F:=fun p=>qif p }
theorem jhr:q06 Inv Tryz.prog jf2:=fun G hG=>⟨⟨by kernel_rfl,fun (s:List UInt8) r h=>by
 have h':qif s=some r:=h
 unfold qif at h'
 split at h'
 case isFalse=>cases h'
 rename_i hc
 have hr:q2i s=r:=Option.some.inj h'
 intro Pc w vs hg hlt hv
 obtain ⟨l⟩:=vs
 match l,hv with
 | [x],⟨h1,_⟩ =>
  obtain rfl:x = .string (ba s):=q0a h1
  refine (qyb s w (hG.im w hg) hc).mono ?_
  rintro e w' ⟨rfl,hb⟩
  subst hr
  exact q47 rfl hb (q07 (.string (ba (q2i s))))⟩,rfl⟩
def qnf (s:List UInt8):Option (Int×Bool):=if s.length≤1000000 then some (numOf (q1k s),qml (q1k s)) else none
def jk0:FC:={ f:=135,args:=[qn1],res:=.tup [.c (.d (.int .i64)),.c (.d .bool)],F:=fun p=>qnf p }
theorem jl0:q06 Inv Tryz.prog jk0:=fun G hG=>⟨⟨by kernel_rfl,fun (s:List UInt8) (r:Int×Bool) h=>by
 have h':qnf s=some r:=h
 unfold qnf at h'
 split at h'
 case isFalse=>cases h'
 rename_i hc
 have hr:(numOf (q1k s),qml (q1k s))=r:=Option.some.inj h'
 intro Pc w vs hg hlt hv
 obtain ⟨l⟩:=vs
 match l,hv with
 | [x],⟨h1,_⟩ =>
  obtain rfl:x = .string (ba s):=q0a h1
  refine (j3h s w (hG.im w hg) hc).mono ?_
  rintro e w' ⟨rfl,hb⟩
  subst hr
  refine ⟨_,Pc,rfl,hb,fun _ _ h=>h,fun _ _ h=>Or.inl h,?_⟩
  exact ⟨#[.int .i64 (numOf (q1k s)),.bool (qml (q1k s))],rfl,q07 (σ:=qhl) (.int .i64 (numOf (q1k s))),q07 (σ:=qhl) (.bool (qml (q1k s))),trivial⟩⟩,rfl⟩
end YtapfankgdkdkgaaGreatDoor.AM
end Go.Proofs
namespace Go.Proofs.YtapfankgdkdkgaaGreatDoor.AM
abbrev Tv:Ty:=.prod (.int .i64) (.prod (.int .i64) (.prod (.int .i64) (.prod .str .str)))
open Go.RowKit
set_option maxRecDepth 20000
abbrev Zc:=((Bool×Unit)×Unit×Unit)⊕((Yy×Unit)×Unit×Unit)
abbrev Zd:=((Bool×Unit)×Unit×Unit)⊕(Unit×Unit×Unit)
abbrev Ze:=((Yy×Unit)×Unit×Unit)⊕(Unit×Unit×Unit)
def qp0 (n:Nat) (a1:Yy):Option Yy :=
 (qqm n a1 (47:Int)).bind fun r1=>q00 (IntKind.wrap .i64 (r1+1)) fun n2=>(q0w a1 n2 (a1.length:Int)).bind fun s3=>some s3
def jh6 (n:Nat):FC:={ f:=132,args:=[.one (.c (.d .str))],res:=.one (.c (.d .str)),F:=fun p=>qp0 n p }
theorem ji0 (n:Nat):q06 Inv Tryz.prog (jh6 n):=mkF Tryz.func132 [] [] (cc (j2l n) <| cn) (by kernel_rfl) trivial (by intro a;kernel_rfl)
def qd9 (n:Nat) (a1:Yy):Option (Yy×(Int×Bool)) :=
 (qif a1).bind fun (r1:Yy)=>(qp0 n a1).bind fun r2=>(qlo a1).bind fun (r3:Bool)=>(bif !r3 then (bif !r3 then some (([]:Yy),((0:Int),false)) else (qdr n r2).bind fun r4=>(bif !r4 then some (a1,((0:Int),true)) else (qnf r2).bind fun (r5:Int×Bool)=>(bif !r5.2 then some (([]:Yy),((0:Int),false)) else (bif decide (r1=([]:Yy)) then some (([]:Yy),((0:Int),false)) else some (r1,(r5.1,true)))))) else (qsk r1).bind fun (r6:Bool)=>(bif r6 then some (([]:Yy),((0:Int),false)) else (qdr n r2).bind fun r7=>(bif !r7 then some (a1,((0:Int),true)) else (qnf r2).bind fun (r8:Int×Bool)=>(bif !r8.2 then some (([]:Yy),((0:Int),false)) else (bif decide (r1=([]:Yy)) then some (([]:Yy),((0:Int),false)) else some (r1,(r8.1,true)))))))
def jcf (n:Nat):FC:={ f:=104,args:=[.one (.c (.d .str))],res:=.tup [.c (.d .str),.c (.d (.int .i64)),.c (.d .bool)],F:=fun p=>qd9 n p }
theorem qu6 (n:Nat):q06 Inv Tryz.prog (jcf n):=mkF Tryz.func104 [] [] (cc (jhr) <| cc (ji0 n) <| cc (j1w) <| cc (qt8 n) <| cc (jl0) <| cc (jjs) <| cn) (by kernel_rfl) trivial (by intro a;kernel_rfl)
def q7y (n:Nat) (a1:Yy):Option Bool :=
 (qd9 n a1).bind fun r1=>some r1.2.2
def jc0 (n:Nat):FC:={ f:=73,args:=[.one (.c (.d .str))],res:=.one (.c (.d .bool)),F:=fun p=>q7y n p }
theorem qc9 (n:Nat):q06 Inv Tryz.prog (jc0 n):=mkF Tryz.func73 [] [] (cc (qu6 n) <| cn) (by kernel_rfl) trivial (by intro a;kernel_rfl)
def qk5 (n:Nat) (a1:Yy) (a2:Vv):Option Bool :=
 (qd9 n a1).bind fun r1=>(bif !r1.2.2 then (bif !r1.2.2 then some false else (bif decide (r1.2.1=0) then some (decide (a2.1<2)) else some (decide (a2.1=r1.2.1)))) else (q55 n a2).bind fun r2=>(bif !r2 then some false else (bif decide (r1.2.1=0) then some (decide (a2.1<2)) else some (decide (a2.1=r1.2.1)))))
def jfe (n:Nat):FC:={ f:=75,args:=[.one (.c (.d .str)),.one (.agg [.d (.int .i64),.d (.int .i64),.d (.int .i64),.d .str,.d .str])],res:=.one (.c (.d .bool)),F:=fun p=>qk5 n p.1 p.2 }
theorem j1x (n:Nat):q06 Inv Tryz.prog (jfe n):=mkF Tryz.func75 [] [] (cc (qu6 n) <| cc (q9o n) <| cn) (by kernel_rfl) trivial (by intro a;kernel_rfl)
@[reducible] def j3z:SSt:=⟨[(0,.one (.c (.d .str))),(3,.one (.c (.d (.int .i64))))],[],[]⟩
@[reducible] def qw3:List (Exit×SSt):=[(.ret,⟨[(2,.one (.c (.d .bool)))],[],[]⟩),(.exit 0,⟨[(0,.one (.c (.d .str)))],[],[]⟩)]
def qlg (n:Nat) (rec:(Yy)→Int→Option Zc) (a1:Yy) (a2:Int):Option Zc :=
 (bif decide (a2<(a1.length:Int)) then (sAt a1 a2).bind fun c1=>(bif decide (97≤c1) then (bif decide (c1≤122) then q00 (IntKind.wrap .i64 (a2+1)) fun n2=>rec a1 n2 else (bif decide (65≤c1) then (bif decide (c1≤90) then q00 (IntKind.wrap .i64 (a2+1)) fun n3=>rec a1 n3 else (bif decide (48≤c1) then (bif !(decide (c1≤57)) then (bif !decide (c1=45) then (bif !decide (c1=95) then (bif !decide (c1=46) then some (Sum.inl ((false,()),((),()))) else q00 (IntKind.wrap .i64 (a2+1)) fun n4=>rec a1 n4) else q00 (IntKind.wrap .i64 (a2+1)) fun n5=>rec a1 n5) else q00 (IntKind.wrap .i64 (a2+1)) fun n6=>rec a1 n6) else q00 (IntKind.wrap .i64 (a2+1)) fun n7=>rec a1 n7) else (bif !decide (c1=45) then (bif !decide (c1=95) then (bif !decide (c1=46) then some (Sum.inl ((false,()),((),()))) else q00 (IntKind.wrap .i64 (a2+1)) fun n8=>rec a1 n8) else q00 (IntKind.wrap .i64 (a2+1)) fun n9=>rec a1 n9) else q00 (IntKind.wrap .i64 (a2+1)) fun n10=>rec a1 n10))) else (bif decide (48≤c1) then (bif !(decide (c1≤57)) then (bif !decide (c1=45) then (bif !decide (c1=95) then (bif !decide (c1=46) then some (Sum.inl ((false,()),((),()))) else q00 (IntKind.wrap .i64 (a2+1)) fun n11=>rec a1 n11) else q00 (IntKind.wrap .i64 (a2+1)) fun n12=>rec a1 n12) else q00 (IntKind.wrap .i64 (a2+1)) fun n13=>rec a1 n13) else q00 (IntKind.wrap .i64 (a2+1)) fun n14=>rec a1 n14) else (bif !decide (c1=45) then (bif !decide (c1=95) then (bif !decide (c1=46) then some (Sum.inl ((false,()),((),()))) else q00 (IntKind.wrap .i64 (a2+1)) fun n15=>rec a1 n15) else q00 (IntKind.wrap .i64 (a2+1)) fun n16=>rec a1 n16) else q00 (IntKind.wrap .i64 (a2+1)) fun n17=>rec a1 n17)))) else (bif decide (65≤c1) then (bif decide (c1≤90) then q00 (IntKind.wrap .i64 (a2+1)) fun n18=>rec a1 n18 else (bif decide (48≤c1) then (bif !(decide (c1≤57)) then (bif !decide (c1=45) then (bif !decide (c1=95) then (bif !decide (c1=46) then some (Sum.inl ((false,()),((),()))) else q00 (IntKind.wrap .i64 (a2+1)) fun n19=>rec a1 n19) else q00 (IntKind.wrap .i64 (a2+1)) fun n20=>rec a1 n20) else q00 (IntKind.wrap .i64 (a2+1)) fun n21=>rec a1 n21) else q00 (IntKind.wrap .i64 (a2+1)) fun n22=>rec a1 n22) else (bif !decide (c1=45) then (bif !decide (c1=95) then (bif !decide (c1=46) then some (Sum.inl ((false,()),((),()))) else q00 (IntKind.wrap .i64 (a2+1)) fun n23=>rec a1 n23) else q00 (IntKind.wrap .i64 (a2+1)) fun n24=>rec a1 n24) else q00 (IntKind.wrap .i64 (a2+1)) fun n25=>rec a1 n25))) else (bif decide (48≤c1) then (bif !(decide (c1≤57)) then (bif !decide (c1=45) then (bif !decide (c1=95) then (bif !decide (c1=46) then some (Sum.inl ((false,()),((),()))) else q00 (IntKind.wrap .i64 (a2+1)) fun n26=>rec a1 n26) else q00 (IntKind.wrap .i64 (a2+1)) fun n27=>rec a1 n27) else q00 (IntKind.wrap .i64 (a2+1)) fun n28=>rec a1 n28) else q00 (IntKind.wrap .i64 (a2+1)) fun n29=>rec a1 n29) else (bif !decide (c1=45) then (bif !decide (c1=95) then (bif !decide (c1=46) then some (Sum.inl ((false,()),((),()))) else q00 (IntKind.wrap .i64 (a2+1)) fun n30=>rec a1 n30) else q00 (IntKind.wrap .i64 (a2+1)) fun n31=>rec a1 n31) else q00 (IntKind.wrap .i64 (a2+1)) fun n32=>rec a1 n32)))) else some (Sum.inr (((a1,()),((),())))))
def qsg (n:Nat):Stp j3z qw3:=fun rec p=>qlg n (fun a1 a2=>rec ((a1,(a2,())),((),()))) p.1.1 p.1.2.1
def q5w (n m:Nat) (a1:Yy) (a2:Int):Option Zc:=q0u (qsg n) m ((a1,(a2,())),((),()))
theorem qf8 (n m:Nat) (a1 a2):q5w n (m+1) a1 a2=qlg n (fun a1 a2=>q5w n m a1 a2) a1 a2:=rfl
def qht (n:Nat) (a1:Yy):Option Bool :=
 (q5w n n a1 (0:Int)).bind fun o33=>Sum.elim (fun (q34:(Bool×Unit)×Unit×Unit)=>some q34.1.1) (fun (q35:(Yy×Unit)×Unit×Unit)=>(bif !decide (q35.1.1=([]:Yy)) then (bif !decide (q35.1.1=([46]:Yy)) then some (!decide (q35.1.1=([46,46]:Yy))) else some false) else some false)) o33
def jdq (n:Nat):FC:={ f:=130,args:=[.one (.c (.d .str))],res:=.one (.c (.d .bool)),F:=fun p=>qht n p }
theorem jaz (n:Nat):q06 Inv Tryz.prog (jdq n):=mkF Tryz.func130 [] [q5g qsg n] (cn) (by kernel_rfl) ⟨ls (by intro rec p;kernel_rfl),trivial⟩ (by intro a;kernel_rfl)
@[reducible] def j4y:SSt:=⟨[(3,.one (.c (.d (.lst .str)))),(4,.one (.c (.d (.int .i64))))],[],[]⟩
@[reducible] def qwk:List (Exit×SSt):=[(.ret,⟨[(2,.one (.c (.d .bool)))],[],[]⟩),(.exit 0,⟨[],[],[]⟩)]
def qka (n:Nat) (rec:(List Yy)→Int→Option Zd) (a1:List Yy) (a2:Int):Option Zd :=
 (bif decide (a2<(a1.length:Int)) then (q0f a1 a2).bind fun x2=>(qht n x2).bind fun r3=>(bif !r3 then some (Sum.inl ((false,()),((),()))) else q00 (IntKind.wrap .i64 (a2+1)) fun n4=>rec a1 n4) else some (Sum.inr (((),((),())))))
def qw2 (n:Nat):Stp j4y qwk:=fun rec p=>qka n (fun a1 a2=>rec ((a1,(a2,())),((),()))) p.1.1 p.1.2.1
def q66 (n m:Nat) (a1:List Yy) (a2:Int):Option Zd:=q0u (qw2 n) m ((a1,(a2,())),((),()))
theorem qem (n m:Nat) (a1 a2):q66 n (m+1) a1 a2=qka n (fun a1 a2=>q66 n m a1 a2) a1 a2:=rfl
def qdj (n:Nat) (a1:Yy):Option Bool :=
 (bif decide (60<(a1.length:Int)) then some false else (q0d n a1 (47:Int)).bind fun r1=>(q66 n n r1 (0:Int)).bind fun o5=>Sum.elim (fun (q6:(Bool×Unit)×Unit×Unit)=>some q6.1.1) (fun (q7:(Unit)×Unit×Unit)=>some true) o5)
def j83 (n:Nat):FC:={ f:=103,args:=[.one (.c (.d .str))],res:=.one (.c (.d .bool)),F:=fun p=>qdj n p }
theorem qw1 (n:Nat):q06 Inv Tryz.prog (j83 n):=mkF Tryz.func103 [] [q5g qw2 n] (cc (q2t n) <| cc (jaz n) <| cn) (by kernel_rfl) ⟨ls (by intro rec p;kernel_rfl),trivial⟩ (by intro a;kernel_rfl)
@[reducible] def qxw:SSt:=⟨[(0,.one (.c (.d .str))),(3,.one (.c (.d (.int .i64))))],[],[]⟩
@[reducible] def qr8:List (Exit×SSt):=[(.ret,⟨[(2,.one (.c (.d .bool)))],[],[]⟩),(.exit 0,⟨[(0,.one (.c (.d .str)))],[],[]⟩)]
def qf6 (n:Nat) (rec:(Yy)→Int→Option Zc) (a1:Yy) (a2:Int):Option Zc :=
 (bif decide (a2<(a1.length:Int)) then (sAt a1 a2).bind fun c1=>(bif decide (c1<48) then some (Sum.inl ((false,()),((),()))) else (sAt a1 a2).bind fun c2=>(bif decide (57<c2) then some (Sum.inl ((false,()),((),()))) else q00 (IntKind.wrap .i64 (a2+1)) fun n3=>rec a1 n3)) else some (Sum.inr (((a1,()),((),())))))
def qnh (n:Nat):Stp qxw qr8:=fun rec p=>qf6 n (fun a1 a2=>rec ((a1,(a2,())),((),()))) p.1.1 p.1.2.1
def q4t (n m:Nat) (a1:Yy) (a2:Int):Option Zc:=q0u (qnh n) m ((a1,(a2,())),((),()))
theorem qdq (n m:Nat) (a1 a2):q4t n (m+1) a1 a2=qf6 n (fun a1 a2=>q4t n m a1 a2) a1 a2:=rfl
def q97 (n:Nat) (a1:Yy):Option Bool :=
 (q4t n n a1 (1:Int)).bind fun o4=>Sum.elim (fun (q5:(Bool×Unit)×Unit×Unit)=>some q5.1.1) (fun (q6:(Yy×Unit)×Unit×Unit)=>(bif decide (1<(q6.1.1.length:Int)) then (sAt q6.1.1 (0:Int)).bind fun c7=>some (decide (c7=118)) else some false)) o4
def j5r (n:Nat):FC:={ f:=70,args:=[.one (.c (.d .str))],res:=.one (.c (.d .bool)),F:=fun p=>q97 n p }
theorem qn3 (n:Nat):q06 Inv Tryz.prog (j5r n):=mkF Tryz.func70 [] [q5g qnh n] (cn) (by kernel_rfl) ⟨ls (by intro rec p;kernel_rfl),trivial⟩ (by intro a;kernel_rfl)
@[reducible] def quh:SSt:=⟨[(0,.one (.c (.d .str))),(3,.one (.c (.d (.int .i64)))),(4,.one (.c (.d (.int .i64))))],[],[]⟩
@[reducible] def qmm:List (Exit×SSt):=[(.exit 0,⟨[(3,.one (.c (.d (.int .i64))))],[],[]⟩)]
def qbr (n:Nat) (rec:(Yy)→Int→Int→Option ((Int×Unit)×Unit×Unit)) (a1:Yy) (a2:Int) (a3:Int):Option ((Int×Unit)×Unit×Unit) :=
 (bif decide (a3<(a1.length:Int)) then q00 (IntKind.wrap .i64 ((10:Int)*a2)) fun n2=>(sAt a1 a3).bind fun c3=>q00 (IntKind.wrap .i64 c3) fun n4=>q00 (IntKind.wrap .i64 (n2+n4)) fun n5=>q00 (IntKind.wrap .i64 (n5 - (48:Int))) fun n6=>q00 (IntKind.wrap .i64 (a3+1)) fun n7=>rec a1 n6 n7 else some (((a2,()),((),()))))
def qih (n:Nat):Stp quh qmm:=fun rec p=>qbr n (fun a1 a2 a3=>rec ((a1,(a2,(a3,()))),((),()))) p.1.1 p.1.2.1 p.1.2.2.1
def q4b (n m:Nat) (a1:Yy) (a2:Int) (a3:Int):Option ((Int×Unit)×Unit×Unit):=q0u (qih n) m ((a1,(a2,(a3,()))),((),()))
theorem qbp (n m:Nat) (a1 a2 a3):q4b n (m+1) a1 a2 a3=qbr n (fun a1 a2 a3=>q4b n m a1 a2 a3) a1 a2 a3:=rfl
def q71 (n:Nat) (a1:Yy):Option Int :=
 (bif decide (10<(a1.length:Int)) then some (0:Int) else (sAt a1 (1:Int)).bind fun c1=>(bif decide (c1=48) then some (0:Int) else (q4b n n a1 (0:Int) (1:Int)).bind fun o8=>(bif decide (o8.1.1<2) then some (0:Int) else some o8.1.1)))
def qzy (n:Nat):FC:={ f:=72,args:=[.one (.c (.d .str))],res:=.one (.c (.d (.int .i64))),F:=fun p=>q71 n p }
theorem ql2 (n:Nat):q06 Inv Tryz.prog (qzy n):=mkF Tryz.func72 [] [q5g qih n] (cn) (by kernel_rfl) ⟨ls (by intro rec p;kernel_rfl),trivial⟩ (by intro a;kernel_rfl)
@[reducible] def qxo:SSt:=⟨[(3,.one (.c (.d (.lst .str)))),(4,.one (.c (.d (.int .i64))))],[],[]⟩
@[reducible] def qra:List (Exit×SSt):=[(.ret,⟨[(2,.one (.c (.d .bool)))],[],[]⟩),(.exit 0,⟨[],[],[]⟩)]
def qau (n:Nat) (rec:(List Yy)→Int→Option Zd) (a1:List Yy) (a2:Int):Option Zd :=
 (bif decide (a2<(a1.length:Int)) then (q0f a1 a2).bind fun x3=>(q97 n x3).bind fun r4=>(bif r4 then q00 (IntKind.wrap .i64 ((a1.length:Int) - (1:Int))) fun (n5:Int)=>(bif decide (a2<n5) then some (Sum.inl ((false,()),((),()))) else (bif decide (a2=0) then some (Sum.inl ((false,()),((),()))) else (q0f a1 a2).bind fun x6=>(q71 n x6).bind fun r7=>(bif decide (r7=0) then some (Sum.inl ((false,()),((),()))) else q00 (IntKind.wrap .i64 (a2+1)) fun n8=>rec a1 n8))) else q00 (IntKind.wrap .i64 (a2+1)) fun n9=>rec a1 n9) else some (Sum.inr (((),((),())))))
def qok (n:Nat):Stp qxo qra:=fun rec p=>qau n (fun a1 a2=>rec ((a1,(a2,())),((),()))) p.1.1 p.1.2.1
def q3i (n m:Nat) (a1:List Yy) (a2:Int):Option Zd:=q0u (qok n) m ((a1,(a2,())),((),()))
theorem q60 (n m:Nat) (a1 a2):q3i n (m+1) a1 a2=qau n (fun a1 a2=>q3i n m a1 a2) a1 a2:=rfl
def q3n (n:Nat) (a1:Yy):Option Bool :=
 (qdj n a1).bind fun r1=>(bif !r1 then some false else (q0d n a1 (47:Int)).bind fun r2=>(q3i n n r2 (0:Int)).bind fun o10=>Sum.elim (fun (q11:(Bool×Unit)×Unit×Unit)=>some q11.1.1) (fun (q12:(Unit)×Unit×Unit)=>some true) o10)
def j57 (n:Nat):FC:={ f:=69,args:=[.one (.c (.d .str))],res:=.one (.c (.d .bool)),F:=fun p=>q3n n p }
theorem qa8 (n:Nat):q06 Inv Tryz.prog (j57 n):=mkF Tryz.func69 [] [q5g qok n] (cc (qw1 n) <| cc (q2t n) <| cc (qn3 n) <| cc (ql2 n) <| cn) (by kernel_rfl) ⟨ls (by intro rec p;kernel_rfl),trivial⟩ (by intro a;kernel_rfl)
@[reducible] def j3o:SSt:=⟨[(0,.one (.c (.d .str))),(3,.one (.c (.d (.int .i64))))],[],[]⟩
@[reducible] def qwj:List (Exit×SSt):=[(.ret,⟨[(2,.one (.c (.d .str)))],[],[]⟩),(.exit 0,⟨[],[],[]⟩)]
def qdw (n:Nat) (rec:(Yy)→Int→Option Ze) (a1:Yy) (a2:Int):Option Ze :=
 (bif decide (0≤a2) then (sAt a1 a2).bind fun c2=>(bif decide (c2=47) then (q0w a1 (0:Int) a2).bind fun s3=>some (Sum.inl ((s3,()),((),()))) else q00 (IntKind.wrap .i64 (a2 - (1:Int))) fun n4=>rec a1 n4) else some (Sum.inr (((),((),())))))
def qur (n:Nat):Stp j3o qwj:=fun rec p=>qdw n (fun a1 a2=>rec ((a1,(a2,())),((),()))) p.1.1 p.1.2.1
def q6k (n m:Nat) (a1:Yy) (a2:Int):Option Ze:=q0u (qur n) m ((a1,(a2,())),((),()))
theorem q77 (n m:Nat) (a1 a2):q6k n (m+1) a1 a2=qdw n (fun a1 a2=>q6k n m a1 a2) a1 a2:=rfl
def qhx (n:Nat) (a1:Yy):Option Yy :=
 q00 (IntKind.wrap .i64 ((a1.length:Int) - (1:Int))) fun (n1:Int)=>(q6k n n a1 n1).bind fun o5=>Sum.elim (fun (q6:(Yy×Unit)×Unit×Unit)=>some q6.1.1) (fun (q7:(Unit)×Unit×Unit)=>some ([]:Yy)) o5
def j9c (n:Nat):FC:={ f:=71,args:=[.one (.c (.d .str))],res:=.one (.c (.d .str)),F:=fun p=>qhx n p }
theorem jdr (n:Nat):q06 Inv Tryz.prog (j9c n):=mkF Tryz.func71 [] [q5g qur n] (cn) (by kernel_rfl) ⟨ls (by intro rec p;kernel_rfl),trivial⟩ (by intro a;kernel_rfl)
def q9n (n:Nat) (a1:Yy):Option (Yy×(Int×Bool)) :=
 (q3n n a1).bind fun r1=>(bif !r1 then some (([]:Yy),((0:Int),false)) else (q0d n a1 (47:Int)).bind fun r2=>q00 (IntKind.wrap .i64 ((r2.length:Int) - (1:Int))) fun (n3:Int)=>(q0f r2 n3).bind fun x4=>(q97 n x4).bind fun r5=>(bif !r5 then some (a1,((0:Int),true)) else (qhx n a1).bind fun r6=>(q71 n x4).bind fun r7=>some (r6,(r7,true))))
def j6d (n:Nat):FC:={ f:=45,args:=[.one (.c (.d .str))],res:=.tup [.c (.d .str),.c (.d (.int .i64)),.c (.d .bool)],F:=fun p=>q9n n p }
theorem j3t (n:Nat):q06 Inv Tryz.prog (j6d n):=mkF Tryz.func45 [] [] (cc (qa8 n) <| cc (q2t n) <| cc (qn3 n) <| cc (jdr n) <| cc (ql2 n) <| cn) (by kernel_rfl) trivial (by intro a;kernel_rfl)
def qai (n:Nat) (a1:Yy) (a2:Vv):Option Bool :=
 (q9n n a1).bind fun r1=>(bif !r1.2.2 then some false else (q7z n a2).bind fun r2=>(bif !r2 then some false else (bif decide (a2.1=r1.2.1) then some true else (bif decide (r1.2.1=0) then some (decide (a2.1=1)) else some false))))
def j8o (n:Nat):FC:={ f:=23,args:=[.one (.c (.d .str)),.one (.agg [.d (.int .i64),.d (.int .i64),.d (.int .i64),.d .str,.d .str])],res:=.one (.c (.d .bool)),F:=fun p=>qai n p.1 p.2 }
theorem j9j (n:Nat):q06 Inv Tryz.prog (j8o n):=mkF Tryz.func23 [] [] (cc (j3t n) <| cc (qk1 n) <| cn) (by kernel_rfl) trivial (by intro a;kernel_rfl)
end Go.Proofs.YtapfankgdkdkgaaGreatDoor.AM
namespace Go.Proofs.YtapfankgdkdkgaaGreatDoor.AM
open Go.RowKit
theorem q2j (n:Nat) (s:Yy) (c:UInt8) (hs:s.length≤1000000) : ∀ (m i fr:Nat) (out:List Yy),i≤s.length→s.length - i+1<m→fr≤i→out.length≤i →
  q1c n m s ((c.toNat:Nat):Int) (fr:Int) (i:Int) out=some (((),()),((),(out++spl c ((s.drop fr).take (i - fr)) (s.drop i),())))
 | 0,i,fr,_,_,h,_,_=>absurd h (Nat.not_lt_zero _)
 | m+1,i,fr,out,hi,h,hf,ho=>by
  rw [q1n]
  unfold q2o
  have c0:((i:Nat):Int)≤((s.length:Nat):Int):=by omega
  have w1:=q05 (show i<4611686018427387904 by omega)
  have s1:q0w s ((fr:Nat):Int) ((i:Nat):Int)=some ((s.drop fr).take (i - fr)):=sub_le hf hi
  have a1:q1t 16 out [(s.drop fr).take (i - fr)]=some (out ++ [(s.drop fr).take (i - fr)]):=q1s (by simp;omega)
  by_cases c1:i=s.length
  ·have c1':((i:Nat):Int)=((s.length:Nat):Int):=by omega
   have hd:s.drop i = []:=List.drop_eq_nil_of_le (by omega)
   simp only [c0,c1',decide_true,cond_true]
   rw [← c1',s1,Option.bind_some,a1,Option.bind_some,hd]
   simp only [q00,w1]
   cases m with
   | zero=>omega
   | succ m =>
    rw [q1n]
    unfold q2o
    have c2 : ¬ ((i+1:Nat):Int)≤((s.length:Nat):Int):=by omega
    simp only [c2,Int.le_refl,decide_true,decide_false,cond_true,cond_false]
    rfl
  ·have c1' : ¬ ((i:Nat):Int)=((s.length:Nat):Int):=by omega
   have hi':i<s.length:=by omega
   have hd:s.drop i=s[i]::s.drop (i+1):=List.drop_eq_getElem_cons hi'
   simp only [c0,c1',decide_true,decide_false,cond_true,cond_false,q1h hi',Option.bind_some,q00,w1,s1,a1]
   have hc:decide (((s[i].toNat:Nat):Int)=((c.toNat:Nat):Int))=decide (s[i]=c):=by
    apply decide_eq_decide.2
    constructor
    ·intro hh;exact UInt8.toNat_inj.1 (by omega)
    ·intro hh;rw [hh]
   rw [hc,hd,spl]
   by_cases c2:s[i]=c
   ·simp only [c2,decide_true,cond_true,if_true]
    rw [q2j n s c hs m (i+1) (i+1) (out ++ [(s.drop fr).take (i - fr)]) (by omega) (by omega) (Nat.le_refl _) (by simp;omega)]
    simp
   ·simp only [c2,decide_false,cond_false,if_false]
    rw [q2j n s c hs m (i+1) fr out (by omega) (by omega) (by omega) (by omega)]
    have e1:(s.drop fr).take (i+1 - fr)=(s.drop fr).take (i - fr) ++ [s[i]]:=by
     rw [show i+1 - fr=(i - fr)+1 from by omega,List.take_add_one,List.getElem?_drop,show fr+(i - fr)=i from by omega,List.getElem?_eq_getElem hi']
     rfl
    rw [e1]
theorem q36 (n:Nat) (s:Yy) (c:UInt8) (hs:s.length≤1000000) (hn:s.length+1<n):q0d n s ((c.toNat:Nat):Int)=some (spl c [] s):=by
 unfold q0d
 have h:=q2j n s c hs n 0 0 [] (Nat.zero_le _) (by omega) (Nat.le_refl _) (Nat.zero_le _)
 rw [show ((0:Nat):Int)=(0:Int) from rfl] at h
 rw [h]
 simp
theorem qgj (n:Nat) (s:Yy) (hL:s.length≤1000000) : ∀ m j:Nat,j≤s.length→s.length - j<m→q58 n m s (j:Int)=some (if (s.drop j).all q0t=true then Sum.inr ((s,()),((),())) else Sum.inl ((false,()),((),())))
 | 0,j,_,h=>absurd h (Nat.not_lt_zero _)
 | m+1,j,hj,h=>by
  rw [qde]
  unfold qej
  by_cases c0:j<s.length
  ·have c0':((j:Nat):Int)<((s.length:Nat):Int):=by omega
   have ih:=qgj n s hL m (j+1) (by omega) (by omega)
   have hd:s.drop j=s[j]::s.drop (j+1):=(List.drop_eq_getElem_cons c0)
   simp only [c0',decide_true,cond_true,q1h c0,Option.bind_some,q00,q05 (show j<4611686018427387904 by omega),ih,hd,List.all_cons]
   unfold q0t
   by_cases h1:s[j].toNat<48
   ·have e1:((s[j].toNat:Nat):Int)<48:=by omega
    have e2 : ¬ 48≤s[j].toNat:=by omega
    simp [e1,e2]
   ·have e1 : ¬ ((s[j].toNat:Nat):Int)<48:=by omega
    have e2:48≤s[j].toNat:=by omega
    by_cases h2:57<s[j].toNat
    ·have e3:(57:Int)<((s[j].toNat:Nat):Int):=by omega
     have e4 : ¬ s[j].toNat≤57:=by omega
     simp [e1,e2,e3,e4]
    ·have e3 : ¬ (57:Int)<((s[j].toNat:Nat):Int):=by omega
     have e4:s[j].toNat≤57:=by omega
     simp [e1,e2,e3,e4]
  ·have c0' : ¬ ((j:Nat):Int)<((s.length:Nat):Int):=by omega
   have:s.drop j = []:=List.drop_eq_nil_of_le (by omega)
   simp [c0',this]
theorem q6d (n:Nat) (s:Yy) (hL:s.length≤1000000) (hn:s.length<n):q5n n s=some (q29 s):=by
 unfold q5n q29
 have:=qgj n s hL n 0 (Nat.zero_le _) (by omega)
 rw [show ((0:Nat):Int)=(0:Int) from rfl] at this
 rw [this,List.drop_zero]
 cases s.all q0t<;>rfl
theorem j3c (c:UInt8):qhu c=((decide ((97:Int)≤((c.toNat:Nat):Int))&&decide (((c.toNat:Nat):Int)≤(122:Int)))||(decide ((65:Int)≤((c.toNat:Nat):Int))&&decide (((c.toNat:Nat):Int)≤(90:Int)))||(decide ((48:Int)≤((c.toNat:Nat):Int))&&decide (((c.toNat:Nat):Int)≤(57:Int)))||decide (((c.toNat:Nat):Int)=(45:Int))):=by
 unfold qhu q0t
 have h1:decide ((97:Int)≤((c.toNat:Nat):Int))=decide (97≤c.toNat):=decide_eq_decide.2 (by omega)
 have h2:decide (((c.toNat:Nat):Int)≤(122:Int))=decide (c.toNat≤122):=decide_eq_decide.2 (by omega)
 have h3:decide ((65:Int)≤((c.toNat:Nat):Int))=decide (65≤c.toNat):=decide_eq_decide.2 (by omega)
 have h4:decide (((c.toNat:Nat):Int)≤(90:Int))=decide (c.toNat≤90):=decide_eq_decide.2 (by omega)
 have h5:decide (((c.toNat:Nat):Int)=(45:Int))=decide (c.toNat=45):=decide_eq_decide.2 (by omega)
 have h6:decide ((48:Int)≤((c.toNat:Nat):Int))=decide (48≤c.toNat):=decide_eq_decide.2 (by omega)
 have h7:decide (((c.toNat:Nat):Int)≤(57:Int))=decide (c.toNat≤57):=decide_eq_decide.2 (by omega)
 rw [h1,h2,h3,h4,h5,h6,h7]
theorem qba (n:Nat) (z:Bool) (l:List Yy) (i:Nat) (hi:i<l.length) (w:Yy) (hw:l[i]=w) (hL:w.length≤1000000) : ∀ m j:Nat,j≤w.length→w.length - j<m→q4y n m z l (i:Int) (j:Int)=some (if (w.drop j).all qhu=true then Sum.inr ((z,(l,((i:Int),()))),((),())) else Sum.inl ((false,()),((),())))
 | 0,j,_,h=>absurd h (Nat.not_lt_zero _)
 | m+1,j,hj,h=>by
  rw [qda]
  unfold qfc
  have e0:q0f l ((i:Nat):Int)=some w:=by rw [q0l hi,hw]
  by_cases c0:j<w.length
  ·have c0':((j:Nat):Int)<((w.length:Nat):Int):=by omega
   have ih:=qba n z l i hi w hw hL m (j+1) (by omega) (by omega)
   have hd:w.drop j=w[j]::w.drop (j+1):=(List.drop_eq_getElem_cons c0)
   simp only [e0,Option.bind_some,c0',decide_true,cond_true,q1h c0,q00,q05 (show j<4611686018427387904 by omega),ih,hd,List.all_cons,j3c]
   cases decide ((97:Int)≤((w[j].toNat:Nat):Int))<;>cases decide (((w[j].toNat:Nat):Int)≤(122:Int))<;>cases decide ((65:Int)≤((w[j].toNat:Nat):Int))<;>cases decide (((w[j].toNat:Nat):Int)≤(90:Int))<;>cases decide ((48:Int)≤((w[j].toNat:Nat):Int))<;>cases decide (((w[j].toNat:Nat):Int)≤(57:Int))<;>cases decide (((w[j].toNat:Nat):Int)=(45:Int))<;>rfl
  ·have c0' : ¬ ((j:Nat):Int)<((w.length:Nat):Int):=by omega
   have:w.drop j = []:=List.drop_eq_nil_of_le (by omega)
   simp only [e0,Option.bind_some,c0',decide_false,cond_false,this,List.all_nil,if_true]
def q6r (z:Bool) (w:Yy):Bool:=q26 w&&(z || !(q29 w&&(decide (1<w.length)&&decide (w.head? = some 48))))
theorem qwm (w:Yy):q6r true w=q26 w:=by unfold q6r;simp
theorem qqx (w:Yy):q6r false w=q43 w:=by
 unfold q6r q43
 cases w with
 | nil=>simp [q26]
 | cons c r =>
  cases hn:q29 (c::r) with
  | false=>simp
  | true =>
   by_cases hc:c=48
   ·subst hc
    cases r with
    | nil=>simp
    | cons d r=>simp
   ·simp [hc]
theorem qds (n:Nat) (z:Bool) (l:List Yy) (hl:l.length≤1000000) (hw : ∀ w∈l,w.length≤1000000∧w.length<n) : ∀ m i:Nat,i≤l.length→l.length - i<m→q52 n m z l (i:Int)=some (if (l.drop i).all (q6r z)=true then Sum.inr ((),((),())) else Sum.inl ((false,()),((),())))
 | 0,j,_,h=>absurd h (Nat.not_lt_zero _)
 | m+1,i,hi,h=>by
  rw [qcj]
  unfold qfo
  by_cases c0:i<l.length
  ·have c0':((i:Nat):Int)<((l.length:Nat):Int):=by omega
   have ih:=qds n z l hl hw m (i+1) (by omega) (by omega)
   have hd:l.drop i=l[i]::l.drop (i+1):=(List.drop_eq_getElem_cons c0)
   have hww:=hw l[i] (List.getElem_mem c0)
   have h1:=qba n z l i c0 l[i] rfl hww.1 n 0 (Nat.zero_le _) (by omega)
   rw [show ((0:Nat):Int)=(0:Int) from rfl,List.drop_zero] at h1
   rw [hd,List.all_cons]
   simp only [c0',decide_true,cond_true,h1,Option.bind_some]
   rw [show q6r z l[i]=((l[i].all qhu && !decide (l[i] = []))&&(z || !(q29 l[i]&&(decide (1<l[i].length)&&decide (l[i].head? = some 48))))) from rfl]
   cases hs:l[i].all qhu with
   | false=>simp
   | true =>
    simp only [if_true,Sum.elim_inr,q0l c0,Option.bind_some,q6d n _ hww.1 hww.2,q00,q05 (show i<4611686018427387904 by omega),ih]
    generalize hx:l[i]=x at hs hww
    cases x with
    | nil=>simp
    | cons c r =>
     have h0:sAt (c::r) (0:Int)=some ((c.toNat:Nat):Int):=q1h (s:=c::r) (j:=0) (by simp)
     have h2:decide (((c.toNat:Nat):Int)=(48:Int))=decide ((c::r).head? = some 48):=decide_eq_decide.2 (by
      simp only [List.head?_cons,Option.some.injEq]
      constructor
      ·intro h;exact UInt8.toNat_inj.1 (by have e48:(48:UInt8).toNat=48:=rfl;rw [e48];omega)
      ·rintro rfl;rfl)
     have h3:decide ((1:Int)<(((c::r).length:Nat):Int))=decide (1<(c::r).length):=decide_eq_decide.2 (by omega)
     have e0:decide (c::r=([]:Yy))=false:=by simp
     simp only [h0,h2,h3,e0,Option.bind_some,cond_false]
     cases z<;>cases q29 (c::r)<;>cases decide (1<(c::r).length)<;>cases decide ((c::r).head? = some 48)<;>simp
  ·have c0' : ¬ ((i:Nat):Int)<((l.length:Nat):Int):=by omega
   have:l.drop i = []:=List.drop_eq_nil_of_le (by omega)
   simp only [c0',decide_false,cond_false,this,List.all_nil,if_true]
theorem qg0 (n:Nat) (s:Yy) (z:Bool) (hs:s.length≤100000) (hn:s.length+2<n):q70 n s z=some ((spl 46 [] s).all (q6r z)):=by
 unfold q70
 have e1:q0d n s (46:Int)=some (spl 46 [] s):=q36 n s 46 (by omega) (by omega)
 rw [e1]
 have k:=q45 46 s []
 have h:=qds n z (spl 46 [] s) (by omega) (fun w hw=>by have:=q4l 46 s [] w hw;simp at this;omega) n 0 (Nat.zero_le _) (by omega)
 rw [show ((0:Nat):Int)=(0:Int) from rfl,List.drop_zero] at h
 simp only [Option.bind_some,h]
 cases (spl 46 [] s).all (q6r z)<;>rfl
theorem j7b (n:Nat) (a:Int):qnr n a=some (j0b a):=by
 unfold qnr j0b
 cases decide ((0:Int)≤a)<;>rfl
theorem q7d (n:Nat) (v:VD) (hn:100≤n):q7z n v=some (q0r v):=by
 unfold q7z q0r
 simp only [j7b,Option.bind_some]
 cases j0b v.1 with
 | false=>rfl
 | true=>cases j0b v.2.1 with
  | false=>rfl
  | true=>cases j0b v.2.2.1 with
   | false=>rfl
   | true =>
    simp only [Bool.not_true,cond_false,Bool.true_and]
    unfold q57
    have f1:(q6r true)=q26:=funext qwm
    have f2:(q6r false)=q43:=funext qqx
    by_cases c1:(30:Int)<((v.2.2.2.1.length:Nat):Int)
    ·have e1:v.2.2.2.1 ≠ []:=fun e=>by rw [e] at c1;simp at c1
     have e2 : ¬ v.2.2.2.1.length≤30:=by omega
     simp [c1,e1,e2]
    ·by_cases c2:(30:Int)<((v.2.2.2.2.length:Nat):Int)
     ·have e1:v.2.2.2.2 ≠ []:=fun e=>by rw [e] at c2;simp at c2
      have e2 : ¬ v.2.2.2.2.length≤30:=by omega
      simp [c1,c2,e1,e2]
     ·have l1:v.2.2.2.1.length≤30:=by omega
      have l2:v.2.2.2.2.length≤30:=by omega
      have r1:=qg0 n v.2.2.2.1 false (by omega) (by omega)
      have r2:=qg0 n v.2.2.2.2 true (by omega) (by omega)
      rw [f2] at r1
      rw [f1] at r2
      simp only [c1,c2,decide_false,cond_false,r1,r2,l1,l2,decide_true,Bool.true_and,Option.bind_some]
      by_cases p:v.2.2.2.1 = []
      ·by_cases q:v.2.2.2.2 = []<;>simp [p,q]
      ·by_cases q:v.2.2.2.2 = []
       ·simp only [p,q,decide_false,decide_true,cond_false,cond_true,Bool.false_or,Bool.true_or,Bool.and_true]
        cases (spl 46 [] v.2.2.2.1).all q43<;>rfl
       ·simp only [p,q,decide_false,decide_true,cond_false,cond_true,Bool.false_or]
        cases (spl 46 [] v.2.2.2.1).all q43<;>rfl
theorem j5o (n:Nat) (s:Yy) (hL:s.length≤1000000) (hn:s.length<n):qp0 n s=some (q2e s):=by
 unfold qp0 q2e
 have hg:=qqq 47 s
 obtain ⟨k,hk⟩ : ∃ k:Nat,q4j 47 s+1=(k:Int):=⟨(q4j 47 s+1).toNat,by omega⟩
 rw [qnv n s hL hn]
 simp only [Option.bind_some,q00]
 rw [hk,wrap64 (by omega) (by omega),sub_le (by omega) (Nat.le_refl _)]
 simp only [Option.bind_some,Int.toNat_natCast]
 rw [List.take_of_length_le (by rw [List.length_drop];exact Nat.le_refl _)]
theorem jgn (s:Yy):(q2i s).length≤s.length:=by unfold q2i;rw [List.length_take];omega
theorem j05 (s:Yy):(q2e s).length≤s.length:=by unfold q2e;rw [List.length_drop];omega
theorem qzl {s:Yy} (h:q1l s=true):q1k s=s.drop 1:=by
 unfold q1l at h
 simp only [Bool.and_eq_true,decide_eq_true_eq] at h
 unfold q1k;rw [if_pos h.1]
theorem qid (n:Nat) (s:Yy) (hL:s.length≤1000000) (hn:s.length<n):qd9 n s=some (q9d s):=by
 have hb:=jgn s
 have hl:=j05 s
 have e1:qif s=some (q2i s):=if_pos hL
 have e2:qsk (q2i s)=some (anyS (q2i s)):=if_pos (by omega)
 have e3:qnf (q2e s)=some (numOf (q1k (q2e s)),qml (q1k (q2e s))):=if_pos (by omega)
 have e4:qlo s=some (q3a s):=rfl
 unfold qd9 q9d okS
 simp only [e1,e2,e3,e4,j5o n s hL hn,qi5 n (q2e s) (by omega),Option.bind_some]
 cases q3a s with
 | false=>rfl
 | true=>cases anyS (q2i s) with
  | true=>rfl
  | false=>cases ht:q1l (q2e s) with
   | false=>rfl
   | true =>
    rw [qzl ht]
    cases qml ((q2e s).drop 1) with
    | false=>rfl
    | true =>
     by_cases h0:q2i s = []
     ·simp [h0]
     ·simp [h0]
theorem qpl (s:Yy):(q9d s).2.2=okS s:=by
 unfold q9d
 cases okS s with
 | false=>rfl
 | true=>cases q1l (q2e s)<;>rfl
theorem q8h (n:Nat) (s:Yy) (hL:s.length≤1000000) (hn:s.length<n):q7y n s=some (okS s):=by
 unfold q7y
 rw [qid n s hL hn,← qpl];rfl
def q40 (p:Yy) (v:VD):Bool:=okS p&&(q0r v&&(if (q9d p).2.1=0 then decide (v.1<2) else decide (v.1=(q9d p).2.1)))
theorem qow (n:Nat) (s:Yy) (v:VD) (hL:s.length≤1000000) (hn:s.length<n) (h4:4≤n):qk5 n s v=some (q40 s v):=by
 unfold qk5 q40
 rw [qid n s hL hn]
 simp only [Option.bind_some,qpl,q44 n v h4]
 cases okS s with
 | false=>rfl
 | true=>cases q0r v with
  | false=>rfl
  | true =>
   by_cases h:(q9d s).2.1=0
   ·simp [h]
   ·simp [h]
theorem qxm (c:UInt8):q7j c=((decide ((97:Int)≤((c.toNat:Nat):Int))&&decide (((c.toNat:Nat):Int)≤(122:Int)))||(decide ((65:Int)≤((c.toNat:Nat):Int))&&decide (((c.toNat:Nat):Int)≤(90:Int)))||(decide ((48:Int)≤((c.toNat:Nat):Int))&&decide (((c.toNat:Nat):Int)≤(57:Int)))||decide (((c.toNat:Nat):Int)=(45:Int))||decide (((c.toNat:Nat):Int)=(95:Int))||decide (((c.toNat:Nat):Int)=(46:Int))):=by
 unfold q7j
 have h6:decide (((c.toNat:Nat):Int)=(95:Int))=decide (c.toNat=95):=decide_eq_decide.2 (by omega)
 have h7:decide (((c.toNat:Nat):Int)=(46:Int))=decide (c.toNat=46):=decide_eq_decide.2 (by omega)
 rw [h6,h7,← j3c]
theorem qjo (n:Nat) (s:Yy) (hL:s.length≤1000000) : ∀ m j:Nat,j≤s.length→s.length - j<m→q5w n m s (j:Int)=some (if (s.drop j).all q7j=true then Sum.inr ((s,()),((),())) else Sum.inl ((false,()),((),())))
 | 0,j,_,h=>absurd h (Nat.not_lt_zero _)
 | m+1,j,hj,h=>by
  rw [qf8]
  unfold qlg
  by_cases c0:j<s.length
  ·have c0':((j:Nat):Int)<((s.length:Nat):Int):=by omega
   have ih:=qjo n s hL m (j+1) (by omega) (by omega)
   have hd:s.drop j=s[j]::s.drop (j+1):=(List.drop_eq_getElem_cons c0)
   simp only [c0',decide_true,cond_true,q1h c0,Option.bind_some,q00,q05 (show j<4611686018427387904 by omega),ih,hd,List.all_cons]
   rw [qxm]
   generalize (List.drop (j+1) s).all q7j=B
   generalize decide ((97:Int)≤((s[j].toNat:Nat):Int))=b1
   generalize decide (((s[j].toNat:Nat):Int)≤(122:Int))=b2
   generalize decide ((65:Int)≤((s[j].toNat:Nat):Int))=b3
   generalize decide (((s[j].toNat:Nat):Int)≤(90:Int))=b4
   generalize decide ((48:Int)≤((s[j].toNat:Nat):Int))=b5
   generalize decide (((s[j].toNat:Nat):Int)≤(57:Int))=b6
   generalize decide (((s[j].toNat:Nat):Int)=(45:Int))=b7
   generalize decide (((s[j].toNat:Nat):Int)=(95:Int))=b8
   generalize decide (((s[j].toNat:Nat):Int)=(46:Int))=b9
   cases b1<;>cases b2<;>cases b3<;>cases b4<;>cases b5<;>cases b6<;>cases b7<;>cases b8<;>cases b9<;>rfl
  ·have c0' : ¬ ((j:Nat):Int)<((s.length:Nat):Int):=by omega
   have:s.drop j = []:=List.drop_eq_nil_of_le (by omega)
   simp [c0',this]
theorem qzk (n:Nat) (s:Yy) (hL:s.length≤1000000) (hn:s.length<n):qht n s=some (q8z s):=by
 unfold qht q8z
 have:=qjo n s hL n 0 (Nat.zero_le _) (by omega)
 rw [show ((0:Nat):Int)=(0:Int) from rfl] at this
 rw [this,List.drop_zero]
 cases s.all q7j with
 | true =>
  simp only [if_true,Option.bind_some,Sum.elim_inr]
  cases decide (s = [])<;>cases decide (s = [46])<;>cases decide (s = [46,46])<;>rfl
 | false =>
  simp only [Bool.false_eq_true,if_false,Option.bind_some,Sum.elim_inl]
  cases decide (s = [])<;>cases decide (s = [46])<;>cases decide (s = [46,46])<;>rfl
theorem qi7 (n:Nat) (l:List Yy) (hl:l.length≤1000000) (hw : ∀ w∈l,w.length≤1000000∧w.length<n) : ∀ m j:Nat,j≤l.length→l.length - j<m→q66 n m l (j:Int)=some (if (l.drop j).all q8z=true then Sum.inr ((),((),())) else Sum.inl ((false,()),((),())))
 | 0,j,_,h=>absurd h (Nat.not_lt_zero _)
 | m+1,j,hj,h=>by
  rw [qem]
  unfold qka
  by_cases c0:j<l.length
  ·have c0':((j:Nat):Int)<((l.length:Nat):Int):=by omega
   have ih:=qi7 n l hl hw m (j+1) (by omega) (by omega)
   have hd:l.drop j=l[j]::l.drop (j+1):=(List.drop_eq_getElem_cons c0)
   have hm:=hw l[j] (List.getElem_mem c0)
   simp only [c0',decide_true,cond_true,q0l c0,Option.bind_some,qzk n l[j] hm.1 hm.2,q00,q05 (show j<4611686018427387904 by omega),ih,hd,List.all_cons]
   cases q8z l[j]<;>simp
  ·have c0' : ¬ ((j:Nat):Int)<((l.length:Nat):Int):=by omega
   have:l.drop j = []:=List.drop_eq_nil_of_le (by omega)
   simp [c0',this]
theorem qbq (n:Nat) (s:Yy) (hL:s.length≤1000000) (hn:100≤n):qdj n s=some (q3a s):=by
 unfold qdj q3a
 by_cases h:s.length≤60
 ·have h' : ¬ (60:Int)<((s.length:Nat):Int):=by omega
  have hlen:=q45 47 s []
  have hw : ∀ w∈spl 47 [] s,w.length≤s.length:=fun w hm=>by have:=q4l 47 s [] w hm;simpa using this
  have:=qi7 n (spl 47 [] s) (by omega) (fun w hm=>⟨by have:=hw w hm;omega,by have:=hw w hm;omega⟩) n 0 (Nat.zero_le _) (by omega)
  rw [show ((0:Nat):Int)=(0:Int) from rfl] at this
  simp only [h',decide_false,cond_false]
  rw [show (47:Int)=(((47:UInt8).toNat:Nat):Int) from rfl,q36 n s 47 hL (by omega)]
  simp only [Option.bind_some]
  rw [this,List.drop_zero]
  cases (spl 47 [] s).all q8z<;>simp [h]
 ·have h':(60:Int)<((s.length:Nat):Int):=by omega
  simp [h,h']
abbrev Rq:=Yy×VD
abbrev Sw:=Yy×Yy
abbrev Sp:=Int×(Int×(Int×(Yy×(Yy×VD))))
def j4h (a b:VD):Sp:=(a.1,(a.2.1,(a.2.2.1,(a.2.2.2.1,(a.2.2.2.2,b)))))
def jin (x:Sp):VD:=(x.1,(x.2.1,(x.2.2.1,(x.2.2.2.1,x.2.2.2.2.1))))
def qza (x:Sp):VD:=x.2.2.2.2.2
theorem jis (a b:VD):jin (j4h a b)=a:=rfl
theorem jaw (a b:VD):qza (j4h a b)=b:=rfl
abbrev MD:=Yy×(Yy×(List Rq×(List Sw×(List Rq×List Sp))))
abbrev Cl:=Yy×(Yy×VD)
abbrev jk7:=List (Cl×(Int×Int))
abbrev clT:Ty:=.prod .str (.prod .str Tv)
abbrev qae:Yy:=[109,111,100,117,108,101]
abbrev kGo:Yy:=[103,111]
abbrev q0x:Yy:=[114,101,113,117,105,114,101]
abbrev q8s:Yy:=[101,120,99,108,117,100,101]
abbrev q63:Yy:=[114,101,112,108,97,99,101]
abbrev qe9:Yy:=[114,101,116,114,97,99,116]
def q2y (t:Yy):Bool:=decide (t = [61,62])||(decide (t = [91])||(decide (t = [44])||(decide (t = [93])||(decide (t = [40])||decide (t = [41])))))
def qbd (w:Lx.Wd):Yy:=if q2y w.1 then w.1 else [120]
def shp (ws:List Lx.Wd):Yy:=Lib.join (ws.map qbd) [32]
def unm (ws:List Lx.Wd):List Lx.Wd:=ws.filter fun w=>!q2y w.1
def q39 (v:Yy):List Yy :=
 if v=qae then [[120]] else if v=kGo then [[120]] else if v=q0x then [[120,32,120]] else if v=q8s then [[120,32,120]] else if v=q63 then [[120,32,61,62,32,120]]
 else if v=qe9 then [[120],[91,32,120,32,44,32,120,32,93]] else []
def q69 (v:Yy):Bool:=decide (v=q0x)||(decide (v=q8s)||(decide (v=q63)||decide (v=qe9)))
def q4e (s:Yy):Bool:=s.all q0t&&(decide (1≤s.length)&&(decide (s.length≤9)&&(decide (s = [48]) || !decide (s.head? = some 48))))
def q8y (x:Yy):Bool:=q4e (q2b 46 x)&&q4e (q5e 46 x)
def qeb (p v:Yy):Int⊕Rq:=if okS p=false then .inl 6 else if (q09 v).2=false then .inl 7 else if q40 p (q09 v).1=false then .inl 8 else .inr (p,(q09 v).1)
structure MS where
 mo:Yy
 go:Yy
 bk:Yy
 sd:jk7
 rq:List Rq
 sw:List Sw
 ex:List Rq
 rt:List Sp
def ms0:MS:=⟨[],[],[],[],[],[],[],[]⟩
def MS.md (σ:MS):MD:=(σ.mo,(σ.go,(σ.rq,(σ.sw,(σ.ex,σ.rt)))))
def q0p (σ:MS) (c:Cl) (st:Int) (w:Lx.Wd):Int⊕MS:=if (q02 clT c σ.sd).isSome then .inl 11 else .inr { σ with sd:=q1q clT c (st+w.2,st+w.2+(w.1.length:Nat)) σ.sd }
def q8w (σ:MS) (st:Int) (v:Yy) (ws:List Lx.Wd):Int⊕MS :=
 match ws with
 | []=>.inl 10
 | w::ws' =>
  if v=qae then (if okS w.1=false then .inl 6 else q0p { σ with mo:=w.1 } (qae,([],v0)) st w)
  else if v=kGo then (if q8y w.1=false then .inl 7 else q0p { σ with go:=w.1 } (kGo,([],v0)) st w)
  else if v=q0x then (match qeb w.1 ((ws'.headD ([],0)).1) with
   | .inl e=>.inl e
   | .inr q=>q0p { σ with rq:=σ.rq ++ [q] } (q0x,(q.1,v0)) st (ws'.headD ([],0)))
  else if v=q8s then (match qeb w.1 ((ws'.headD ([],0)).1) with
   | .inl e=>.inl e
   | .inr q=>q0p { σ with ex:=σ.ex ++ [q] } (q8s,(q.1,q.2)) st (ws'.headD ([],0)))
  else if v=q63 then (if okS w.1=false then .inl 6 else if q3a ((ws'.headD ([],0)).1)=false then .inl 6 else q0p { σ with sw:=σ.sw ++ [(w.1,(ws'.headD ([],0)).1)] } (q63,(w.1,v0)) st (ws'.headD ([],0)))
  else if (q09 w.1).2=false then .inl 7 else if (q09 ((ws'.getLast?.getD w).1)).2=false then .inl 7
  else if 0<j41 (q09 w.1).1 (q09 ((ws'.getLast?.getD w).1)).1 then .inl 7 else .inr { σ with rt:=σ.rt ++ [j4h (q09 w.1).1 (q09 ((ws'.getLast?.getD w).1)).1] }
def q53 (σ:MS) (st:Int) (v:Yy) (ws:List Lx.Wd):Int⊕MS:=if shp ws∈q39 v then q8w σ st v (unm ws) else .inl 10
def q3l (σ:MS) (st:Int) (ws:List Lx.Wd):Int⊕MS :=
 match ws with
 | []=>.inr σ
 | w::ws' =>
  if σ.bk = [] then (if q69 w.1=true∧shp ws' = [40] then .inr { σ with bk:=w.1 } else q53 σ st w.1 ws')
  else if shp (w::ws') = [41] then .inr { σ with bk:=[] } else q53 σ st σ.bk (w::ws')
def q0v (t:Yy):List Lx.Wd:=(Lx.qc2 t).1
def q0y:List Yy→Int→Int→MS→(Int×Int)⊕MS
 | [],_,_,σ=>.inr σ
 | t::ts,i,st,σ=>match q3l σ st (q0v t) with
  | .inl e=>.inl (i,e)
  | .inr σ'=>q0y ts (i+1) (st+((t.length:Nat):Int)+1) σ'
def q9j (s:Yy):(Int×Int)⊕(MS×Int) :=
 if (Lx.q2w (Lx.q03 s) 0 []).2.2≠0 then .inl ((Lx.q2w (Lx.q03 s) 0 []).2.1,(Lx.q2w (Lx.q03 s) 0 []).2.2)
 else match q0y (Lx.q03 s) 0 0 ms0 with
  | .inl e=>.inl e
  | .inr σ=>if σ.bk ≠ [] then .inl (((Lx.q03 s).length:Nat),10) else if σ.mo = [] then .inl (((Lx.q03 s).length:Nat),5) else .inr (σ,((Lx.q03 s).length:Nat))
abbrev md0:MD:=([],([],([],([],([],[])))))
def q3w (s:Yy):MD×(Int×Int):=match q9j s with
 | .inl e=>(md0,e)
 | .inr (σ,n)=>(σ.md,(n,0))
def q1z (s p:Yy):Int×(Int×Bool):=match q9j s with
 | .inl _=>(0,(0,false))
 | .inr (σ,_)=>match q02 clT (q0x,(p,v0)) σ.sd with
  | some x=>(x.1,(x.2,true))
  | none=>(0,(0,false))
theorem qge (a b:Cl):eqT clT a b=true↔a=b:=by
 obtain ⟨a1,a2,a3,a4,a5,a6,a7⟩:=a
 obtain ⟨b1,b2,b3,b4,b5,b6,b7⟩:=b
 show (decide (a1=b1)&&(decide (a2=b2)&&(decide (a3=b3)&&(decide (a4=b4)&&(decide (a5=b5)&&(decide (a6=b6)&&decide (a7=b7)))))))=true↔_
 simp only [Bool.and_eq_true,decide_eq_true_eq,Prod.mk.injEq]
theorem ji7 {a b:Cl} (h:a≠b):eqT clT a b=false:=by
 cases hb:eqT clT a b with
 | true=>exact absurd ((qge a b).1 hb) h
 | false=>rfl
theorem q4c (c c':Cl) (v:Int×Int) : ∀ l:jk7,q02 clT c (q1q clT c' v l)=bif eqT clT c c' then some v else q02 clT c l
 | []=>rfl
 | (k,y)::l=>by
  show q02 clT c (bif eqT clT c' k then (c',v)::l else (k,y)::q1q clT c' v l)=bif eqT clT c c' then some v else (bif eqT clT c k then some y else q02 clT c l)
  cases hk:eqT clT c' k with
  | true =>
   have hk':=(qge c' k).1 hk
   subst hk'
   show (bif eqT clT c c' then some v else q02 clT c l)=_
   cases eqT clT c c'<;>rfl
  | false =>
   show (bif eqT clT c k then some y else q02 clT c (q1q clT c' v l))=_
   rw [q4c c c' v l]
   cases hb:eqT clT c k with
   | true =>
    have:=(qge c k).1 hb
    subst this
    have:eqT clT c c'=false:=by
     refine ji7 fun h=>?_
     subst h;rw [(qge c c).2 rfl] at hk;cases hk
    rw [this];rfl
   | false=>rfl
theorem qj2 (c:Cl) (v:Int×Int) (l:jk7):q02 clT c (q1q clT c v l)=some v:=by rw [q4c,(qge c c).2 rfl];rfl
theorem q3x {c c':Cl} (h:c≠c') (v:Int×Int) (l:jk7):q02 clT c (q1q clT c' v l)=q02 clT c l:=by rw [q4c,ji7 h];rfl
end Go.Proofs.YtapfankgdkdkgaaGreatDoor.AM
namespace Go.Proofs
open Go.RowKit Go.Extern.Stop Go.Stop Go.Extern
namespace YtapfankgdkdkgaaGreatDoor.AM
abbrev gC:Nat:=9
theorem jfv (z:Sem Value) (f:TypeId→Addr→Nat→Nat→Sem Value) (v:Value) :
  ReflectliteValue.method z f #[v]=(do match ← ReflectliteValue.parts v with|none=>z|some (t,a,fl)=>f t a fl (fl % 32)):=rfl
theorem jp9 (v x:Value):ReflectliteValue.set #[v,x]=(do
  let (some (dst,a,fl),some (src,b,_)):=(← ReflectliteValue.parts v,← ReflectliteValue.parts x)
   | unsupported (.noEntry "extern/(internal/reflectlite.Value).Set.zeroValue")
  if fl / ReflectliteValue.flagAddr % 2==0 then unsupported (.noEntry "extern/(internal/reflectlite.Value).Set.unaddressable")
  let val ← loadVar src b
  if ← Rtype.directlyAssignable dst src then storeVar dst a val
  else if ← Rtype.implements dst src then
   if (← Rtype.kind src)==20 then
    match val with
    | .nilIface=>unsupported (.noEntry "extern/reflectlite: a nil value of one interface type handed on as a value of another")
    | _=>storeVar dst a val
   else storeVar dst a (.iface src val)
  else panicString ("reflectlite.Set: value of type " ++ (← Rtype.spelt src) ++ " is not assignable to type " ++ (← Rtype.spelt dst))
  pure (.tuple #[])):=rfl
theorem asMK (h:Value) (w:World):(Go.method 406 196 (.agg #[h]) "Kind").run Tryz.prog w = .ok (250,h) w:=by kernel_rfl
theorem asME (h:Value) (w:World):(Go.method 406 196 (.agg #[h]) "Elem").run Tryz.prog w = .ok (263,.agg #[h]) w:=by kernel_rfl
theorem asMI (h:Value) (w:World):(Go.method 406 196 (.agg #[h]) "Implements").run Tryz.prog w = .ok (264,.agg #[h]) w:=by kernel_rfl
theorem asMA (h:Value) (w:World):(Go.method 406 196 (.agg #[h]) "AssignableTo").run Tryz.prog w = .ok (261,.agg #[h]) w:=by kernel_rfl
theorem jll (t:Addr) (w:World):(ReflectliteValue.unpack (.iface 136 (.pointer (some t)))).run Tryz.prog w
  = .ok (.agg #[.pointer (some ⟨gC,136,none⟩),.pointer (some ⟨w.heap.size,0,none⟩),.int .u64 150]) (w.alloc (.cells #[.pointer (some t)] 136)):=by kernel_rfl
theorem jlo (a:Addr) (w:World):(ReflectliteValue.methodAny (ReflectliteValue.valueError "reflectlite.Value.Type" 0) (fun t _ _ _=>ReflectliteType.toType t) #[.agg #[.pointer (some ⟨gC,136,none⟩),.pointer (some a),.int .u64 150]]).run Tryz.prog w
  = .ok (.iface 196 (.agg #[.pointer (some ⟨gC,136,none⟩)])) w:=by kernel_rfl
theorem jmh (w:World):((ReflectliteType.abiMethod fun t=>(fun a:Nat=>Value.int IntKind.u8 (a:Int)) <$> Rtype.kind t) #[.pointer (some ⟨gC,136,none⟩)]).run Tryz.prog w = .ok (.int .u8 22) w:=by kernel_rfl
theorem jov (w:World):((ReflectliteType.abiMethod fun t=>(fun a:Nat=>Value.int IntKind.u8 (a:Int)) <$> Rtype.kind t) #[.pointer (some ⟨gC,126,none⟩)]).run Tryz.prog w = .ok (.int .u8 25) w:=by kernel_rfl
theorem jd9 (a:Addr) (w:World):(ReflectliteValue.parts (.agg #[.pointer (some ⟨gC,136,none⟩),.pointer (some a),.int .u64 150])).run Tryz.prog w = .ok (some (136,a,150)) w:=by kernel_rfl
theorem j9g:Tryz.prog.underlying 136=some (.pointer 126):=by kernel_rfl
theorem jjv (a p:Addr) (W:World) (ha:W.cell? a=some (.pointer (some p))) :
  (ReflectliteValue.method (ReflectliteValue.valueError "reflectlite.Value.IsNil" 0) ReflectliteValue.isNil #[.agg #[.pointer (some ⟨gC,136,none⟩),.pointer (some a),.int .u64 150]]).run Tryz.prog W = .ok (.bool false) W:=by
 rw [jfv]
 simp only [Sem.run_bind,jd9,Result.andThen]
 simp [ReflectliteValue.isNil,loadVar,isAgg,underlying,j9g,ha,Result.andThen]
theorem jk3 (w:World):(ReflectliteType.method ReflectliteType.elem #[.agg #[.pointer (some ⟨gC,136,none⟩)]]).run Tryz.prog w = .ok (.iface 196 (.agg #[.pointer (some ⟨gC,126,none⟩)])) w:=by kernel_rfl
theorem jqg (w:World):(ReflectliteType.relation "Implements" ReflectliteType.implements_ #[.agg #[.pointer (some ⟨gC,126,none⟩)],.iface 196 (.agg #[.pointer (some ⟨gC,82,none⟩)])]).run Tryz.prog w = .ok (.bool true) w:=by kernel_rfl
theorem joa (v:Value) (w:World):(ReflectliteType.typeOf #[.iface 126 v]).run Tryz.prog w = .ok (.iface 196 (.agg #[.pointer (some ⟨gC,126,none⟩)])) w:=by kernel_rfl
theorem jpj (w:World):(ReflectliteType.relation "AssignableTo" ReflectliteType.assignableTo #[.agg #[.pointer (some ⟨gC,126,none⟩)],.iface 196 (.agg #[.pointer (some ⟨gC,126,none⟩)])]).run Tryz.prog w = .ok (.bool true) w:=by kernel_rfl
theorem jjp (w:World):(Rtype.elem? 136).run Tryz.prog w = .ok (some 126) w:=by kernel_rfl
theorem asMkT (p:Addr) (w:World):(ReflectliteValue.mk 126 p ReflectliteValue.flagAddr).run Tryz.prog w = .ok (.agg #[.pointer (some ⟨gC,126,none⟩),.pointer (some p),.int .u64 409]) w:=by kernel_rfl
theorem jhm (a p:Addr) (W:World) (ha:W.cell? a=some (.pointer (some p))) :
  (ReflectliteValue.method (ReflectliteValue.valueError "reflectlite.Value.Elem" 0) ReflectliteValue.elem #[.agg #[.pointer (some ⟨gC,136,none⟩),.pointer (some a),.int .u64 150]]).run Tryz.prog W
   = .ok (.agg #[.pointer (some ⟨gC,126,none⟩),.pointer (some p),.int .u64 409]) W:=by
 rw [jfv]
 simp only [Sem.run_bind,jd9,Result.andThen]
 simp [ReflectliteValue.elem,loadVar,isAgg,underlying,j9g,ha,Result.andThen,jjp,asMkT]
theorem jnu (n:Int) (w:World):(ReflectliteValue.unpack (.iface 126 (.agg #[.int .i64 n]))).run Tryz.prog w
  = .ok (.agg #[.pointer (some ⟨gC,126,none⟩),.pointer (some ⟨w.heap.size,0,none⟩),.int .u64 153]) (w.alloc (.cells #[.int .i64 n] 126)):=by kernel_rfl
theorem jl9 (a:Addr) (w:World):(ReflectliteValue.parts (.agg #[.pointer (some ⟨gC,126,none⟩),.pointer (some a),.int .u64 409])).run Tryz.prog w = .ok (some (126,a,409)) w:=by kernel_rfl
theorem joh (a:Addr) (w:World):(ReflectliteValue.parts (.agg #[.pointer (some ⟨gC,126,none⟩),.pointer (some a),.int .u64 153])).run Tryz.prog w = .ok (some (126,a,153)) w:=by kernel_rfl
theorem jnx (w:World):(Rtype.directlyAssignable 126 126).run Tryz.prog w = .ok true w:=by kernel_rfl
theorem jpm (w:World):(sizeOf 126).run Tryz.prog w = .ok 1 w:=by kernel_rfl
theorem jk2 (t:Addr) (w:World):(ReflectliteValue.unpack (.iface 135 (.pointer (some t)))).run Tryz.prog w
  = .ok (.agg #[.pointer (some ⟨gC,135,none⟩),.pointer (some ⟨w.heap.size,0,none⟩),.int .u64 150]) (w.alloc (.cells #[.pointer (some t)] 135)):=by kernel_rfl
theorem jl6 (a:Addr) (w:World):(ReflectliteValue.methodAny (ReflectliteValue.valueError "reflectlite.Value.Type" 0) (fun t _ _ _=>ReflectliteType.toType t) #[.agg #[.pointer (some ⟨gC,135,none⟩),.pointer (some a),.int .u64 150]]).run Tryz.prog w
  = .ok (.iface 196 (.agg #[.pointer (some ⟨gC,135,none⟩)])) w:=by kernel_rfl
theorem jm7 (w:World):((ReflectliteType.abiMethod fun t=>(fun a:Nat=>Value.int IntKind.u8 (a:Int)) <$> Rtype.kind t) #[.pointer (some ⟨gC,135,none⟩)]).run Tryz.prog w = .ok (.int .u8 22) w:=by kernel_rfl
theorem jpx (w:World):((ReflectliteType.abiMethod fun t=>(fun a:Nat=>Value.int IntKind.u8 (a:Int)) <$> Rtype.kind t) #[.pointer (some ⟨gC,128,none⟩)]).run Tryz.prog w = .ok (.int .u8 25) w:=by kernel_rfl
theorem j9x (a:Addr) (w:World):(ReflectliteValue.parts (.agg #[.pointer (some ⟨gC,135,none⟩),.pointer (some a),.int .u64 150])).run Tryz.prog w = .ok (some (135,a,150)) w:=by kernel_rfl
theorem jau:Tryz.prog.underlying 135=some (.pointer 128):=by kernel_rfl
theorem jkf (a p:Addr) (W:World) (ha:W.cell? a=some (.pointer (some p))) :
  (ReflectliteValue.method (ReflectliteValue.valueError "reflectlite.Value.IsNil" 0) ReflectliteValue.isNil #[.agg #[.pointer (some ⟨gC,135,none⟩),.pointer (some a),.int .u64 150]]).run Tryz.prog W = .ok (.bool false) W:=by
 rw [jfv]
 simp only [Sem.run_bind,j9x,Result.andThen]
 simp [ReflectliteValue.isNil,loadVar,isAgg,underlying,jau,ha,Result.andThen]
theorem jjd (w:World):(ReflectliteType.method ReflectliteType.elem #[.agg #[.pointer (some ⟨gC,135,none⟩)]]).run Tryz.prog w = .ok (.iface 196 (.agg #[.pointer (some ⟨gC,128,none⟩)])) w:=by kernel_rfl
theorem jo6 (w:World):(ReflectliteType.relation "Implements" ReflectliteType.implements_ #[.agg #[.pointer (some ⟨gC,128,none⟩)],.iface 196 (.agg #[.pointer (some ⟨gC,82,none⟩)])]).run Tryz.prog w = .ok (.bool true) w:=by kernel_rfl
theorem jj7 (v:Value) (w:World):(ReflectliteType.typeOf #[.iface 128 v]).run Tryz.prog w = .ok (.iface 196 (.agg #[.pointer (some ⟨gC,128,none⟩)])) w:=by kernel_rfl
theorem joe (w:World):(ReflectliteType.relation "AssignableTo" ReflectliteType.assignableTo #[.agg #[.pointer (some ⟨gC,128,none⟩)],.iface 196 (.agg #[.pointer (some ⟨gC,128,none⟩)])]).run Tryz.prog w = .ok (.bool true) w:=by kernel_rfl
theorem jlu (w:World):(Rtype.elem? 135).run Tryz.prog w = .ok (some 128) w:=by kernel_rfl
theorem asMkB (p:Addr) (w:World):(ReflectliteValue.mk 128 p ReflectliteValue.flagAddr).run Tryz.prog w = .ok (.agg #[.pointer (some ⟨gC,128,none⟩),.pointer (some p),.int .u64 409]) w:=by kernel_rfl
theorem jei (a p:Addr) (W:World) (ha:W.cell? a=some (.pointer (some p))) :
  (ReflectliteValue.method (ReflectliteValue.valueError "reflectlite.Value.Elem" 0) ReflectliteValue.elem #[.agg #[.pointer (some ⟨gC,135,none⟩),.pointer (some a),.int .u64 150]]).run Tryz.prog W
   = .ok (.agg #[.pointer (some ⟨gC,128,none⟩),.pointer (some p),.int .u64 409]) W:=by
 rw [jfv]
 simp only [Sem.run_bind,j9x,Result.andThen]
 simp [ReflectliteValue.elem,loadVar,isAgg,underlying,jau,ha,Result.andThen,jlu,asMkB]
theorem joj (n:Int) (c:Value) (w:World):(ReflectliteValue.unpack (.iface 128 (.agg #[.int .i64 n,c]))).run Tryz.prog w
  = .ok (.agg #[.pointer (some ⟨gC,128,none⟩),.pointer (some ⟨w.heap.size,0,none⟩),.int .u64 153]) (w.alloc (.cells #[.int .i64 n,c] 128)):=by kernel_rfl
theorem jmo (a:Addr) (w:World):(ReflectliteValue.parts (.agg #[.pointer (some ⟨gC,128,none⟩),.pointer (some a),.int .u64 409])).run Tryz.prog w = .ok (some (128,a,409)) w:=by kernel_rfl
theorem jpi (a:Addr) (w:World):(ReflectliteValue.parts (.agg #[.pointer (some ⟨gC,128,none⟩),.pointer (some a),.int .u64 153])).run Tryz.prog w = .ok (some (128,a,153)) w:=by kernel_rfl
theorem jph (w:World):(Rtype.directlyAssignable 128 128).run Tryz.prog w = .ok true w:=by kernel_rfl
theorem jo5 (w:World):(sizeOf 128).run Tryz.prog w = .ok 2 w:=by kernel_rfl
theorem jmm (w:World):(ReflectliteType.relation "AssignableTo" ReflectliteType.assignableTo #[.agg #[.pointer (some ⟨gC,128,none⟩)],.iface 196 (.agg #[.pointer (some ⟨gC,126,none⟩)])]).run Tryz.prog w = .ok (.bool false) w:=by kernel_rfl
theorem asMU (v:Value) (w:World):(Go.method 406 128 v "Unwrap").run Tryz.prog w = .ok (255,v) w:=by kernel_rfl
end YtapfankgdkdkgaaGreatDoor.AM
end Go.Proofs
