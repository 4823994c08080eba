
import Derived.Test.YtapfankgdkdkgaaGreatDoorEa12
import Derived.Test.YtapfankgdkdkgaaGreatDoorEa8
import Derived.Lib.Join
import Derived.WalkKit
import Derived.LaidEql
import Derived.Stop.Asserts
import Derived.RowKitTokens
import Derived.Test.YtapfankgdkdkgaaGreatDoorProg
set_option linter.unusedVariables false
set_option linter.unusedSimpArgs false
namespace Go.Proofs
open Go.RowKit Go.Shelf Go.Lib
attribute [local go_sem] Oper.semAt_some
namespace YtapfankgdkdkgaaGreatDoor.AM
theorem j1e (x:List UInt8) (w:World) (hI:Inv w) (hx:x.length≤1000000):Calls Tryz.prog 154 #[.string (ba x)] w fun e w'=>e = .returned (.bool (q9r x))∧Below w.heap.size w w':=by
 have h:=(j1q 1000001 Inv q4x).1.2 x (q9r x) (qv6 1000001 x (by omega) (by omega))
 refine (h (fun _ _=>False) w #[.string (ba x)] hI (fun b o h=>h.elim) ⟨q02 _,trivial⟩).mono ?_
 rintro e w' ⟨v,Pc,rfl,hb,_,_,hv⟩
 have hv':v = .bool (q9r x):=q04 hv
 rw [hv']
 exact ⟨rfl,hb⟩
set_option maxHeartbeats 2000000 in
theorem qq2 (s:List UInt8) (w:World) (hI:Inv w):Calls Tryz.prog 119 #[.string (ba s)] w fun e w'=>e = .returned (.bool (q3r s))∧Below w.heap.size w w':=by
 refine (callsIn_wide (n:=9)).1 ?_
 refine callsIn_of_wp_marks Tryz.func119 rfl trivial ?_ rfl
 simp only [Tryz.ntmps119,List.size_toArray,List.length_cons,List.length_nil,Nat.reduceAdd,Nat.reduceSub,Array.replicate_succ,Array.replicate_zero,List.push_toArray,List.append_toArray,List.nil_append,List.cons_append]
 have hsz:(ba s).size=s.length:=q1w s
 by_cases h2:s.length≤60
 ·skip
  gi_wp2_with (refine ⟨trivial,?_⟩;gi_at_call 136;refine (callsIn_wide.2 (q2o _ _ _)).mono ?_;rintro e w' ⟨rfl,rfl⟩)
  obtain ⟨W0,hW0,hs0,hb0,g0,g1,g2,g3⟩:=four w (Obj.cells #[Value.bool false] 4) (Obj.cells #[Value.string (ba s)] 9) (Obj.cells #[Value.string { data:=#[47] }] 9) (Obj.cells #[Value.int IntKind.i64 0] 3)
  rw [hW0]
  clear hW0
  obtain ⟨c1,f1⟩:=q0f g0
  obtain ⟨c2,f2⟩:=q0f g1
  obtain ⟨c3,f3⟩:=q0f g2
  obtain ⟨c4,f4⟩:=q0f g3
  refine range_split (n:=9) (by omega) 47 (w.heap.size+1) (w.heap.size+1+1) (w.heap.size+1+2) s (by omega) rfl ⟨c2,f2⟩
   (Rng (.string (ba [47])) (w.heap.size+1+1) w.heap.size (w.heap.size+1+1) (w.heap.size+1+2) 47 w q9r) (RngX w.heap.size w q9r) (qi8 (by omega)) (qiq (by omega))
   (fun pre W h=>⟨h.cP,h.cC,(hI.below h.below).maxLen⟩) (fun pre W v h=>qjz v h (by omega) (by omega) (by omega) (by omega) (by omega)) ⟨c3,c1,f1,c3,c4,hb0,rfl⟩
   (fun x=>{ tmps:=#[.string (ba s),undef,.pointer (some ⟨w.heap.size,0,none⟩),.string (ba x),.string (ba s),.int .i64 s.length,.bool (decide ((60:Int)<s.length)),.string (ba s),.func (.func 200) #[] #[.pointer (some ⟨w.heap.size+1+1,0,none⟩),.pointer (some ⟨w.heap.size+1,0,none⟩),.pointer (some ⟨w.heap.size+1+2,0,none⟩)],.string (ba x),undef,undef,undef],defers:=[] }) ?assign ?body ?done ?stop
  case assign =>
   intro l x W K hK
   gi_wp2
   exact hK
  case body =>
   intro l pre x r W hi hL hx
   have k1:=hi.res
   have k2:=hi.frz
   have hc:=j1e x W (hI.below hi.below) (by omega)
   cases hpx:q9r x with
   | true =>
    rw [hpx] at hc
    gi_wp2_with (refine ⟨trivial,?_⟩;gi_at_call 154;refine (CallsIn.inRound l (callsIn_wide.2 hc)).mono ?_;rintro e w' ⟨rfl,hb'⟩)
    exact ⟨q1j hb',q7w hi hb' (by simp [hpx]),q6y hL hb'⟩
   | false =>
    rw [hpx] at hc
    gi_wp2_with (refine ⟨trivial,?_⟩;gi_at_call 154;refine (CallsIn.inRound l (callsIn_wide.2 hc)).mono ?_;rintro e w' ⟨rfl,hb'⟩;have k3:=q1o hb' hi.res;have k4:=(q27 hb' hi.res).trans hi.frz)
    exact ⟨(q1j hb').trans (KeepsOthers.setCell _ _ _),World.cell?_setCell_same' _ _ _ (by rw [k3];rfl),(hi.below.trans (hb'.mono hi.below.size)).setCell (by simp) _,by simp [hpx]⟩
  case done =>
   intro D W hD hi hK
   have k1:=hi.res
   have k2:=hi.frz
   gi_wp2
   have hK':=(KeepsOthers.setCell W ⟨w.heap.size,0,none⟩ (.bool true)).same D _ hK rfl
   have hW':Below w.heap.size w (W.setCell ⟨w.heap.size,0,none⟩ (.bool true)):=hi.below.setCell (by simp) _
   have k5:(W.setCell ⟨w.heap.size,0,none⟩ (.bool true)).cell? ⟨w.heap.size,0,none⟩=some (.bool true):=World.cell?_setCell_same' _ _ _ (by rw [k1];rfl)
   generalize W.setCell ⟨w.heap.size,0,none⟩ (.bool true)=W2 at hK' hW' k5
   refine ⟨by simp,.inl ⟨_,_,rfl,run_takeDeferred hK',?_⟩⟩
   have hg:=grownBy_putObj' W2 D (.deferred none)
   refine ⟨_,q1r (b:=w.heap.size) (v:=.bool true) rfl rfl hag (cell_kept k5 hg (fun r e=>by cases e;exact ⟨_,hK',rfl⟩)),?_,?_⟩
   ·have ha:=hi.all
    unfold q3r;simp [h2,ha]
   ·exact hW'.grown hg hW'.size (fun k e=>by cases e;omega)
  case stop =>
   intro D pre x t W hD hsp hi hK
   refine ⟨by simp,.inl ⟨_,_,rfl,run_takeDeferred hK,?_⟩⟩
   have hg:=grownBy_putObj' W D (.deferred none)
   refine ⟨_,q1r (b:=w.heap.size) (v:=.bool false) rfl rfl hag (cell_kept hi.res hg (fun r e=>by cases e;exact ⟨_,hK,rfl⟩)),?_,?_⟩
   ·have ha:=qsh hsp hi.no
    unfold q3r;simp [ha]
   ·exact hi.below.grown hg hi.below.size (fun k e=>by cases e;omega)
 ·gi_wp2
  refine ⟨_,q1r (b:=w.heap.size) (v:=.bool false) rfl rfl hag (by simp),?_,?_⟩
  ·unfold q3r;simp [h2]
  ·exact (Below.refl _ w).alloc (Nat.le_refl _) _
def qcv (s:List UInt8):Option Bool:=some (q3r s)
def j2g:FC:={ f:=119,args:=[qhj],res:=j44,F:=fun p=>qcv p }
theorem qrs:q08 Inv Tryz.prog j2g:=fun G hG=>⟨⟨by kernel_rfl,fun (s:List UInt8) r h=>by
 have hr:q3r s=r:=Option.some.inj h
 intro Pc w vs hg hlt hv
 obtain ⟨l⟩:=vs
 match l,hv with
 | [x],⟨h1,_⟩ =>
  obtain rfl:x = .string (ba s):=q04 h1
  refine (qq2 s w (hG.im w hg)).mono ?_
  rintro e w' ⟨rfl,hb⟩
  subst hr
  exact q2l rfl hb (q02 _)⟩,rfl⟩
end YtapfankgdkdkgaaGreatDoor.AM
end Go.Proofs
namespace Go.Proofs
open Go.RowKit Go.Shelf Go.Lib
attribute [local go_sem] Oper.semAt_some
namespace YtapfankgdkdkgaaGreatDoor.AM
theorem qxf (x:List UInt8) (w:World) (hI:Inv w) (hx:x.length≤1000000):Calls Tryz.prog 134 #[.string (ba x)] w fun e w'=>e = .returned (.bool (q2p x))∧Below w.heap.size w w':=by
 have h:=(qm1 1000001 Inv q4x).1.2 x (q2p x) (qdq 1000001 x (by omega))
 refine (h (fun _ _=>False) w #[.string (ba x)] hI (fun b o h=>h.elim) ⟨q02 _,trivial⟩).mono ?_
 rintro e w' ⟨v,Pc,rfl,hb,_,_,hv⟩
 have hv':v = .bool (q2p x):=q04 hv
 rw [hv']
 exact ⟨rfl,hb⟩
set_option maxHeartbeats 2000000 in
theorem qt6 (s:List UInt8) (w:World) (hI:Inv w) (h2:s.length≤1000000):Calls Tryz.prog 133 #[.string (ba s)] w fun e w'=>e = .returned (.bool (anyS s))∧Below w.heap.size w w':=by
 refine (callsIn_wide (n:=9)).1 ?_
 refine callsIn_of_wp_marks Tryz.func133 rfl trivial ?_ rfl
 simp only [Tryz.ntmps133,List.size_toArray,List.length_cons,List.length_nil,Nat.reduceAdd,Nat.reduceSub,Array.replicate_succ,Array.replicate_zero,List.push_toArray,List.append_toArray,List.nil_append,List.cons_append]
 have hsz:(ba s).size=s.length:=q1w s
 have key:anyS s = !((spl 47 [] s).all fun x=>!q2p x):=by unfold anyS;rw [List.any_eq_not_all_not]
 ·skip
  gi_wp2_with (refine ⟨trivial,?_⟩;gi_at_call 136;refine (callsIn_wide.2 (q2o _ _ _)).mono ?_;rintro e w' ⟨rfl,rfl⟩)
  obtain ⟨W0,hW0,hs0,hb0,g0,g1,g2,g3⟩:=four w (Obj.cells #[Value.bool false] 4) (Obj.cells #[Value.string (ba s)] 9) (Obj.cells #[Value.string { data:=#[47] }] 9) (Obj.cells #[Value.int IntKind.i64 0] 3)
  rw [hW0]
  clear hW0
  obtain ⟨c1,f1⟩:=q0f g0
  obtain ⟨c2,f2⟩:=q0f g1
  obtain ⟨c3,f3⟩:=q0f g2
  obtain ⟨c4,f4⟩:=q0f g3
  refine range_split (n:=9) (by omega) 47 (w.heap.size+1) (w.heap.size+1+1) (w.heap.size+1+2) s (by omega) rfl ⟨c2,f2⟩
   (Rng (.string (ba [47])) (w.heap.size+1+1) w.heap.size (w.heap.size+1+1) (w.heap.size+1+2) 47 w (fun x=>!q2p x)) (RngY w.heap.size w (fun x=>!q2p x)) (qi8 (by omega)) (j1p (by omega))
   (fun pre W h=>⟨h.cP,h.cC,(hI.below h.below).maxLen⟩) (fun pre W v h=>qjz v h (by omega) (by omega) (by omega) (by omega) (by omega)) ⟨c3,c1,f1,c3,c4,hb0,rfl⟩
   (fun x=>{ tmps:=#[.string (ba s),undef,.pointer (some ⟨w.heap.size,0,none⟩),.string (ba x),.string (ba s),.func (.func 200) #[] #[.pointer (some ⟨w.heap.size+1+1,0,none⟩),.pointer (some ⟨w.heap.size+1,0,none⟩),.pointer (some ⟨w.heap.size+1+2,0,none⟩)],.string (ba x),undef,undef],defers:=[] }) ?assign ?body ?done ?stop
  case assign =>
   intro l x W K hK
   gi_wp2
   exact hK
  case body =>
   intro l pre x r W hi hL hx
   have k1:=hi.res
   have k2:=hi.frz
   have hc:=qxf x W (hI.below hi.below) (by omega)
   cases hpx:q2p x with
   | false =>
    rw [hpx] at hc
    gi_wp2_with (refine ⟨trivial,?_⟩;gi_at_call 134;refine (CallsIn.inRound l (callsIn_wide.2 hc)).mono ?_;rintro e w' ⟨rfl,hb'⟩)
    exact ⟨q1j hb',q7w hi hb' (by simp [hpx]),q6y hL hb'⟩
   | true =>
    rw [hpx] at hc
    gi_wp2_with (refine ⟨trivial,?_⟩;gi_at_call 134;refine (CallsIn.inRound l (callsIn_wide.2 hc)).mono ?_;rintro e w' ⟨rfl,hb'⟩;have k3:=q1o hb' hi.res;have k4:=(q27 hb' hi.res).trans hi.frz)
    exact ⟨(q1j hb').trans (KeepsOthers.setCell _ _ _),World.cell?_setCell_same' _ _ _ (by rw [k3];rfl),(hi.below.trans (hb'.mono hi.below.size)).setCell (by simp) _,by simp [hpx]⟩
  case done =>
   intro D W hD hi hK
   have k1:=hi.res
   have k2:=hi.frz
   gi_wp2
   have hK':=(KeepsOthers.setCell W ⟨w.heap.size,0,none⟩ (.bool false)).same D _ hK rfl
   have hW':Below w.heap.size w (W.setCell ⟨w.heap.size,0,none⟩ (.bool false)):=hi.below.setCell (by simp) _
   have k5:(W.setCell ⟨w.heap.size,0,none⟩ (.bool false)).cell? ⟨w.heap.size,0,none⟩=some (.bool false):=World.cell?_setCell_same' _ _ _ (by rw [k1];rfl)
   generalize W.setCell ⟨w.heap.size,0,none⟩ (.bool false)=W2 at hK' hW' k5
   refine ⟨by simp,.inl ⟨_,_,rfl,run_takeDeferred hK',?_⟩⟩
   have hg:=grownBy_putObj' W2 D (.deferred none)
   refine ⟨_,q1r (b:=w.heap.size) (v:=.bool false) rfl rfl hag (cell_kept k5 hg (fun r e=>by cases e;exact ⟨_,hK',rfl⟩)),?_,?_⟩
   ·have ha:=hi.all
    rw [key,ha];rfl
   ·exact hW'.grown hg hW'.size (fun k e=>by cases e;omega)
  case stop =>
   intro D pre x t W hD hsp hi hK
   refine ⟨by simp,.inl ⟨_,_,rfl,run_takeDeferred hK,?_⟩⟩
   have hg:=grownBy_putObj' W D (.deferred none)
   refine ⟨_,q1r (b:=w.heap.size) (v:=.bool true) rfl rfl hag (cell_kept hi.res hg (fun r e=>by cases e;exact ⟨_,hK,rfl⟩)),?_,?_⟩
   ·have ha:=qsh hsp hi.no
    rw [key,ha];rfl
   ·exact hi.below.grown hg hi.below.size (fun k e=>by cases e;omega)
theorem qvr (s:List UInt8) (b:Nat):(ba s).extract 0 b=ba (s.take b):=by
 rw [← j0a ((ba s).extract 0 b)]
 congr 1
 unfold unB ba
 rw [ByteArray.data_extract]
 simp
theorem qvl (x:List UInt8) (w:World) (hI:Inv w) (hx:x.length≤1000000):Calls Tryz.prog 164 #[.string (ba x),.int .u8 47] w fun e w'=>e = .returned (.int .i64 (q74 47 x))∧Below w.heap.size w w':=by
 have h:=(qqo 1000001 Inv q4x).1.2 (x,(47:Int)) (q74 47 x) (qhl 1000001 x (by omega) (by omega))
 refine (h (fun _ _=>False) w #[.string (ba x),.int .u8 47] hI (fun b o h=>h.elim) ⟨q02 _,q02 _,trivial⟩).mono ?_
 rintro e w' ⟨v,Pc,rfl,hb,_,_,hv⟩
 have hv':v = .int .i64 (q74 47 x):=q04 hv
 rw [hv']
 exact ⟨rfl,hb⟩
theorem qok (s:List UInt8) (w:World) (hI:Inv w) (hs:s.length≤1000000):Calls Tryz.prog 131 #[.string (ba s)] w fun e w'=>e = .returned (.string (ba (q5q s)))∧Below w.heap.size w w':=by
 have hl:=qs0 47 s
 have hsz:(ba s).size=s.length:=q1w s
 have hc:=qvl s w hI hs
 go_enter Tryz.func131,Tryz.ntmps131
 by_cases h0:q74 47 s = -1
 ·rw [h0] at hc
  go_wp2_with (go_at_call 164;refine hc.mono ?_)
  rintro e w' ⟨rfl,hb⟩
  go_wp2
  go_ret
  refine ⟨?_,hb⟩
  show Ending.returned (.string ((ba s).extract 0 (max 0 (-1:Int)).toNat))=_
  rw [qvr];unfold q5q;rw [h0];rfl
 ·obtain ⟨k,hk⟩ : ∃ k:Nat,q74 47 s=(k:Int):=⟨(q74 47 s).toNat,by omega⟩
  rw [hk] at hc
  go_wp2_with (go_at_call 164;refine hc.mono ?_)
  rintro e w' ⟨rfl,hb⟩
  go_wp2
  go_ret
  refine ⟨?_,hb⟩
  show Ending.returned (.string ((ba s).extract 0 (max 0 (k:Int)).toNat))=_
  rw [qvr];unfold q5q;rw [hk,Int.max_eq_right (by omega)]
theorem j1m (x:List UInt8) (w:World) (hI:Inv w) (hx:x.length≤1000000):Calls Tryz.prog 155 #[.string (ba x),.string (ba [118])] w fun e w'=>e = .returned (.string (ba (q0w x)))∧Below w.heap.size w w':=by
 have h:=(q8k 100 Inv q4x).1.2 (x,([118]:List UInt8)) (q0w x) (qmu 100 x (by omega))
 refine (h (fun _ _=>False) w #[.string (ba x),.string (ba [118])] hI (fun b o h=>h.elim) ⟨q02 _,q02 _,trivial⟩).mono ?_
 rintro e w' ⟨v,Pc,rfl,hb,_,_,hv⟩
 have hv':v = .string (ba (q0w x)):=q04 hv
 rw [hv']
 exact ⟨rfl,hb⟩
theorem qzz (n:Int) (w:World) (hI:Inv w) (h0:2≤n) (h1:n≤999999999):Calls Tryz.prog 76 #[.int .i64 n] w fun e w'=>e = .returned (.string (ba (Lib.itoa n)))∧Below w.heap.size w w':=by
 refine (Any.strconv_Itoa Tryz.laysItoa n (by omega) (by omega) w hI.tab).mono ?_
 rintro e w' ⟨rfl,k,os,rfl⟩
 exact ⟨rfl,Lib.below_grow _ w (Nat.le_refl _) k os⟩
set_option maxHeartbeats 2000000 in
theorem qte (s:List UInt8) (w:World) (hI:Inv w) (hs:s.length≤1000000):Calls Tryz.prog 135 #[.string (ba s)] w fun e w'=>e = .returned (.tuple #[.int .i64 (numOf (q0w s)),.bool (qqn (q0w s))])∧Below w.heap.size w w':=by
 have hc:=j1m s w hI hs
 have hl:=qme s
 go_enter Tryz.func135,Tryz.ntmps135
 go_wp2_with (go_at_call 155;refine hc.mono ?_)
 rintro e w1 ⟨rfl,hb1⟩
 clear hc
 have hI1:=hI.below hb1
 have e1:(ba (q0w s)).data.toList=q0w s:=by simp [ba]
 have hl':(ba (q0w s)).size≤281474976710656:=by rw [q1w];omega
 obtain ⟨ts,ps,hsy⟩:=hI1.syn
 obtain ⟨tr,pr,hrg⟩:=hI1.rng
 cases h:Lib.atoiAll (q0w s) with
 | ok v =>
  go_wp2_with (go_at_call 167;refine (Any.strconv_Atoi_ok Tryz.laysAtoi (ba (q0w s)) (by omega) v (by rw [e1];exact h) w1).mono ?_)
  rintro e w2 ⟨rfl,hw⟩
  have hb2:Below w1.heap.size w1 w2:=by
   rcases hw with rfl|⟨t,rfl⟩
   ·exact Below.refl _ _
   ·exact Lib.bytesWorld_below _ _ _
  clear hw
  have hb:Below w.heap.size w w2:=hb1.trans (hb2.mono hb1.size)
  by_cases h2:2≤v
  ·by_cases h3:v≤999999999
   ·have hi:=qzz v w2 (hI.below hb) h2 h3
    go_wp2_with (go_at_call 76;refine hi.mono ?_)
    rintro e w3 ⟨rfl,hb3⟩
    go_wp2
    go_ret2
    refine ⟨?_,hb.trans (hb3.mono hb.size)⟩
    unfold numOf qqn;rw [h]
    simp [h2,h3,q4k]
    rw [Bool.eq_iff_iff];simp
   ·go_wp2
    go_ret2
    refine ⟨?_,hb⟩
    unfold numOf qqn;rw [h]
    simp [h2,show ¬ v≤999999999 from by omega]
  ·go_wp2
   go_ret2
   refine ⟨?_,hb⟩
   unfold numOf qqn;rw [h]
   simp [show ¬ 2≤v from by omega]
 | «syntax» =>
  go_wp2_with (go_at_call 167;refine (Any.strconv_Atoi_syntax Tryz.laysAtoi (ba (q0w s)) hl' (by rw [e1];exact h) _ w1 hsy (Or.inr ⟨_,_,rfl⟩)).mono ?_)
  rintro e w2 ⟨N,rfl,hN,hc,hb2⟩
  go_wp2
  go_ret2
  refine ⟨?_,hb1.trans (hb2.mono hb1.size)⟩
  unfold numOf qqn;rw [h];rfl
 | range =>
  go_wp2_with (go_at_call 167;refine (Any.strconv_Atoi_range Tryz.laysAtoi (ba (q0w s)) hl' (by rw [e1];exact h) _ w1 hrg (Or.inr ⟨_,_,rfl⟩)).mono ?_)
  rintro e w2 ⟨N,rfl,hN,hc,hb2⟩
  rw [e1]
  go_wp2
  go_ret2
  refine ⟨?_,hb1.trans (hb2.mono hb1.size)⟩
  unfold numOf qqn;rw [h];rfl
def qkb (s:List UInt8):Option Bool:=if s.length≤1000000 then some (anyS s) else none
def j63:FC:={ f:=133,args:=[qhj],res:=j44,F:=fun p=>qkb p }
theorem j9c:q08 Inv Tryz.prog j63:=fun G hG=>⟨⟨by kernel_rfl,fun (s:List UInt8) r h=>by
 have h':qkb s=some r:=h
 unfold qkb at h'
 split at h'
 case isFalse=>cases h'
 rename_i hc
 have hr:anyS s=r:=Option.some.inj h'
 intro Pc w vs hg hlt hv
 obtain ⟨l⟩:=vs
 match l,hv with
 | [x],⟨h1,_⟩ =>
  obtain rfl:x = .string (ba s):=q04 h1
  refine (qt6 s w (hG.im w hg) hc).mono ?_
  rintro e w' ⟨rfl,hb⟩
  subst hr
  exact q2l rfl hb (q02 _)⟩,rfl⟩
def qee (s:List UInt8):Option (List UInt8):=if s.length≤1000000 then some (q5q s) else none
def j2r:FC:={ f:=131,args:=[qhj],res:=qhj,F:=fun p=>qee p }
theorem j2m:q08 Inv Tryz.prog j2r:=fun G hG=>⟨⟨by kernel_rfl,fun (s:List UInt8) r h=>by
 have h':qee s=some r:=h
 unfold qee at h'
 split at h'
 case isFalse=>cases h'
 rename_i hc
 have hr:q5q s=r:=Option.some.inj h'
 intro Pc w vs hg hlt hv
 obtain ⟨l⟩:=vs
 match l,hv with
 | [x],⟨h1,_⟩ =>
  obtain rfl:x = .string (ba s):=q04 h1
  refine (qok s w (hG.im w hg) hc).mono ?_
  rintro e w' ⟨rfl,hb⟩
  subst hr
  exact q2l rfl hb (q02 (.string (ba (q5q s))))⟩,rfl⟩
def qh4 (s:List UInt8):Option (Int×Bool):=if s.length≤1000000 then some (numOf (q0w s),qqn (q0w s)) else none
def j7n:FC:={ f:=135,args:=[qhj],res:=.tup [.c (.d (.int .i64)),.c (.d .bool)],F:=fun p=>qh4 p }
theorem j84:q08 Inv Tryz.prog j7n:=fun G hG=>⟨⟨by kernel_rfl,fun (s:List UInt8) (r:Int×Bool) h=>by
 have h':qh4 s=some r:=h
 unfold qh4 at h'
 split at h'
 case isFalse=>cases h'
 rename_i hc
 have hr:(numOf (q0w s),qqn (q0w s))=r:=Option.some.inj h'
 intro Pc w vs hg hlt hv
 obtain ⟨l⟩:=vs
 match l,hv with
 | [x],⟨h1,_⟩ =>
  obtain rfl:x = .string (ba s):=q04 h1
  refine (qte s w (hG.im w hg) hc).mono ?_
  rintro e w' ⟨rfl,hb⟩
  subst hr
  refine ⟨_,Pc,rfl,hb,fun _ _ h=>h,fun _ _ h=>Or.inl h,?_⟩
  exact ⟨#[.int .i64 (numOf (q0w s)),.bool (qqn (q0w s))],rfl,q02 (σ:=qb5) (.int .i64 (numOf (q0w s))),q02 (σ:=qb5) (.bool (qqn (q0w s))),trivial⟩⟩,rfl⟩
end YtapfankgdkdkgaaGreatDoor.AM
end Go.Proofs
namespace Go.Proofs.YtapfankgdkdkgaaGreatDoor.AM
abbrev Tv:Ty:=.prod (.int .i64) (.prod (.int .i64) (.prod (.int .i64) (.prod .str .str)))
open Go.RowKit
set_option maxRecDepth 20000
def qho (n:Nat) (a1:Yy):Option Yy :=
 (qig n a1 (47:Int)).bind fun r1=>q0b (IntKind.wrap .i64 (r1+1)) fun n2=>(q1c a1 n2 (a1.length:Int)).bind fun s3=>some s3
def j3f (n:Nat):FC:={ f:=132,args:=[.one (.c (.d .str))],res:=.one (.c (.d .str)),F:=fun p=>qho n p }
theorem j2u (n:Nat):q08 Inv Tryz.prog (j3f n):=mkF Tryz.func132 [] [] (cc (qqo n) <| cn) (by kernel_rfl) trivial (by intro a;kernel_rfl)
def q92 (n:Nat) (a1:Yy):Option (Yy×(Int×Bool)) :=
 (qee a1).bind fun (r1:Yy)=>(qho n a1).bind fun r2=>(qcv a1).bind fun (r3:Bool)=>(bif !r3 then (bif !r3 then some (([]:Yy),((0:Int),false)) else (q8j n r2).bind fun r4=>(bif !r4 then some (a1,((0:Int),true)) else (qh4 r2).bind fun (r5:Int×Bool)=>(bif !r5.2 then some (([]:Yy),((0:Int),false)) else (bif decide (r1=([]:Yy)) then some (([]:Yy),((0:Int),false)) else some (r1,(r5.1,true)))))) else (qkb r1).bind fun (r6:Bool)=>(bif r6 then some (([]:Yy),((0:Int),false)) else (q8j n r2).bind fun r7=>(bif !r7 then some (a1,((0:Int),true)) else (qh4 r2).bind fun (r8:Int×Bool)=>(bif !r8.2 then some (([]:Yy),((0:Int),false)) else (bif decide (r1=([]:Yy)) then some (([]:Yy),((0:Int),false)) else some (r1,(r8.1,true)))))))
def qya (n:Nat):FC:={ f:=104,args:=[.one (.c (.d .str))],res:=.tup [.c (.d .str),.c (.d (.int .i64)),.c (.d .bool)],F:=fun p=>q92 n p }
theorem qm6 (n:Nat):q08 Inv Tryz.prog (qya n):=mkF Tryz.func104 [] [] (cc (j2m) <| cc (j2u n) <| cc (qrs) <| cc (qm1 n) <| cc (j84) <| cc (j9c) <| cn) (by kernel_rfl) trivial (by intro a;kernel_rfl)
def q4s (n:Nat) (a1:Yy):Option Bool :=
 (q92 n a1).bind fun r1=>some r1.2.2
def qwy (n:Nat):FC:={ f:=73,args:=[.one (.c (.d .str))],res:=.one (.c (.d .bool)),F:=fun p=>q4s n p }
theorem q98 (n:Nat):q08 Inv Tryz.prog (qwy n):=mkF Tryz.func73 [] [] (cc (qm6 n) <| cn) (by kernel_rfl) trivial (by intro a;kernel_rfl)
def qcw (n:Nat) (a1:Yy) (a2:Vv):Option Bool :=
 (q92 n a1).bind fun r1=>(bif !r1.2.2 then (bif !r1.2.2 then some false else (bif decide (r1.2.1=0) then some (decide (a2.1<2)) else some (decide (a2.1=r1.2.1)))) else (q37 n a2).bind fun r2=>(bif !r2 then some false else (bif decide (r1.2.1=0) then some (decide (a2.1<2)) else some (decide (a2.1=r1.2.1)))))
def j3r (n:Nat):FC:={ f:=75,args:=[.one (.c (.d .str)),.one (.agg [.d (.int .i64),.d (.int .i64),.d (.int .i64),.d .str,.d .str])],res:=.one (.c (.d .bool)),F:=fun p=>qcw n p.1 p.2 }
theorem qro (n:Nat):q08 Inv Tryz.prog (j3r n):=mkF Tryz.func75 [] [] (cc (qm6 n) <| cc (q60 n) <| cn) (by kernel_rfl) trivial (by intro a;kernel_rfl)
end Go.Proofs.YtapfankgdkdkgaaGreatDoor.AM
namespace Go.Proofs.YtapfankgdkdkgaaGreatDoor.AM
open Go.RowKit
theorem quu (n:Nat) (s:Yy) (hL:s.length≤1000000) (hn:s.length<n):qho n s=some (q5t s):=by
 unfold qho q5t
 have hg:=qs0 47 s
 obtain ⟨k,hk⟩ : ∃ k:Nat,q74 47 s+1=(k:Int):=⟨(q74 47 s+1).toNat,by omega⟩
 rw [qhl n s hL hn]
 simp only [Option.bind_some,q0b]
 rw [hk,wrap64 (by omega) (by omega),sub_le (by omega) (Nat.le_refl _)]
 simp only [Option.bind_some,Int.toNat_natCast]
 rw [List.take_of_length_le (by rw [List.length_drop];exact Nat.le_refl _)]
theorem j1w (s:Yy):(q5q s).length≤s.length:=by unfold q5q;rw [List.length_take];omega
theorem j19 (s:Yy):(q5t s).length≤s.length:=by unfold q5t;rw [List.length_drop];omega
theorem qp6 {s:Yy} (h:q2p s=true):q0w s=s.drop 1:=by
 unfold q2p at h
 simp only [Bool.and_eq_true,decide_eq_true_eq] at h
 unfold q0w;rw [if_pos h.1]
theorem qem (n:Nat) (s:Yy) (hL:s.length≤1000000) (hn:s.length<n):q92 n s=some (qf2 s):=by
 have hb:=j1w s
 have hl:=j19 s
 have e1:qee s=some (q5q s):=if_pos hL
 have e2:qkb (q5q s)=some (anyS (q5q s)):=if_pos (by omega)
 have e3:qh4 (q5t s)=some (numOf (q0w (q5t s)),qqn (q0w (q5t s))):=if_pos (by omega)
 have e4:qcv s=some (q3r s):=rfl
 unfold q92 qf2 okS
 simp only [e1,e2,e3,e4,quu n s hL hn,qdq n (q5t s) (by omega),Option.bind_some]
 cases q3r s with
 | false=>rfl
 | true=>cases anyS (q5q s) with
  | true=>rfl
  | false=>cases ht:q2p (q5t s) with
   | false=>rfl
   | true =>
    rw [qp6 ht]
    cases qqn ((q5t s).drop 1) with
    | false=>rfl
    | true =>
     by_cases h0:q5q s = []
     ·simp [h0]
     ·simp [h0]
theorem qsp (s:Yy):(qf2 s).2.2=okS s:=by
 unfold qf2
 cases okS s with
 | false=>rfl
 | true=>cases q2p (q5t s)<;>rfl
theorem q55 (n:Nat) (s:Yy) (hL:s.length≤1000000) (hn:s.length<n):q4s n s=some (okS s):=by
 unfold q4s
 rw [qem n s hL hn,← qsp];rfl
def q2t (p:Yy) (v:VD):Bool:=okS p&&(q0z v&&(if (qf2 p).2.1=0 then decide (v.1<2) else decide (v.1=(qf2 p).2.1)))
theorem qgt (n:Nat) (s:Yy) (v:VD) (hL:s.length≤1000000) (hn:s.length<n) (h4:4≤n):qcw n s v=some (q2t s v):=by
 unfold qcw q2t
 rw [qem n s hL hn]
 simp only [Option.bind_some,qsp,q2k n v h4]
 cases okS s with
 | false=>rfl
 | true=>cases q0z v with
  | false=>rfl
  | true =>
   by_cases h:(qf2 s).2.1=0
   ·simp [h]
   ·simp [h]
abbrev Rq:=Yy×VD
abbrev Sw:=Yy×Yy
abbrev Sp:=Int×(Int×(Int×(Yy×(Yy×VD))))
def j5e (a b:VD):Sp:=(a.1,(a.2.1,(a.2.2.1,(a.2.2.2.1,(a.2.2.2.2,b)))))
def j5c (x:Sp):VD:=(x.1,(x.2.1,(x.2.2.1,(x.2.2.2.1,x.2.2.2.2.1))))
def qpj (x:Sp):VD:=x.2.2.2.2.2
theorem j5i (a b:VD):j5c (j5e a b)=a:=rfl
theorem qyh (a b:VD):qpj (j5e a b)=b:=rfl
abbrev MD:=Yy×(Yy×(List Rq×(List Sw×(List Rq×List Sp))))
abbrev Cl:=Yy×(Yy×VD)
abbrev j4w:=List (Cl×(Int×Int))
abbrev clT:Ty:=.prod .str (.prod .str Tv)
abbrev qd9:Yy:=[109,111,100,117,108,101]
abbrev kGo:Yy:=[103,111]
abbrev q0r:Yy:=[114,101,113,117,105,114,101]
abbrev qb4:Yy:=[101,120,99,108,117,100,101]
abbrev qb3:Yy:=[114,101,112,108,97,99,101]
abbrev qx7:Yy:=[114,101,116,114,97,99,116]
def q4j (t:Yy):Bool:=decide (t = [61,62])||(decide (t = [91])||(decide (t = [44])||(decide (t = [93])||(decide (t = [40])||decide (t = [41])))))
def q7h (w:Lx.Wd):Yy:=if q4j w.1 then w.1 else [120]
def shp (ws:List Lx.Wd):Yy:=Lib.join (ws.map q7h) [32]
def unm (ws:List Lx.Wd):List Lx.Wd:=ws.filter fun w=>!q4j w.1
def q20 (v:Yy):List Yy :=
 if v=qd9 then [[120]] else if v=kGo then [[120]] else if v=q0r then [[120,32,120]] else if v=qb4 then [[120,32,120]] else if v=qb3 then [[120,32,61,62,32,120]]
 else if v=qx7 then [[120],[91,32,120,32,44,32,120,32,93]] else []
def q6z (v:Yy):Bool:=decide (v=q0r)||(decide (v=qb4)||(decide (v=qb3)||decide (v=qx7)))
def q8g (s:Yy):Bool:=s.all q1i&&(decide (1≤s.length)&&(decide (s.length≤9)&&(decide (s = [48]) || !decide (s.head? = some 48))))
def qaz (x:Yy):Bool:=q8g (q1v 46 x)&&q8g (q71 46 x)
def qfr (p v:Yy):Int⊕Rq:=if okS p=false then .inl 6 else if (q0k v).2=false then .inl 7 else if q2t p (q0k v).1=false then .inl 8 else .inr (p,(q0k v).1)
structure MS where
 mo:Yy
 go:Yy
 bk:Yy
 sd:j4w
 rq:List Rq
 sw:List Sw
 ex:List Rq
 rt:List Sp
def ms0:MS:=⟨[],[],[],[],[],[],[],[]⟩
def MS.md (σ:MS):MD:=(σ.mo,(σ.go,(σ.rq,(σ.sw,(σ.ex,σ.rt)))))
def q0p (σ:MS) (c:Cl) (st:Int) (w:Lx.Wd):Int⊕MS:=if (q01 clT c σ.sd).isSome then .inl 11 else .inr { σ with sd:=q0n clT c (st+w.2,st+w.2+(w.1.length:Nat)) σ.sd }
def qan (σ:MS) (st:Int) (v:Yy) (ws:List Lx.Wd):Int⊕MS :=
 match ws with
 | []=>.inl 10
 | w::ws' =>
  if v=qd9 then (if okS w.1=false then .inl 6 else q0p { σ with mo:=w.1 } (qd9,([],v0)) st w)
  else if v=kGo then (if qaz w.1=false then .inl 7 else q0p { σ with go:=w.1 } (kGo,([],v0)) st w)
  else if v=q0r then (match qfr w.1 ((ws'.headD ([],0)).1) with
   | .inl e=>.inl e
   | .inr q=>q0p { σ with rq:=σ.rq ++ [q] } (q0r,(q.1,v0)) st (ws'.headD ([],0)))
  else if v=qb4 then (match qfr w.1 ((ws'.headD ([],0)).1) with
   | .inl e=>.inl e
   | .inr q=>q0p { σ with ex:=σ.ex ++ [q] } (qb4,(q.1,q.2)) st (ws'.headD ([],0)))
  else if v=qb3 then (if okS w.1=false then .inl 6 else if q3r ((ws'.headD ([],0)).1)=false then .inl 6 else q0p { σ with sw:=σ.sw ++ [(w.1,(ws'.headD ([],0)).1)] } (qb3,(w.1,v0)) st (ws'.headD ([],0)))
  else if (q0k w.1).2=false then .inl 7 else if (q0k ((ws'.getLast?.getD w).1)).2=false then .inl 7
  else if 0<j4u (q0k w.1).1 (q0k ((ws'.getLast?.getD w).1)).1 then .inl 7 else .inr { σ with rt:=σ.rt ++ [j5e (q0k w.1).1 (q0k ((ws'.getLast?.getD w).1)).1] }
def q3t (σ:MS) (st:Int) (v:Yy) (ws:List Lx.Wd):Int⊕MS:=if shp ws∈q20 v then qan σ st v (unm ws) else .inl 10
def q2j (σ:MS) (st:Int) (ws:List Lx.Wd):Int⊕MS :=
 match ws with
 | []=>.inr σ
 | w::ws' =>
  if σ.bk = [] then (if q6z w.1=true∧shp ws' = [40] then .inr { σ with bk:=w.1 } else q3t σ st w.1 ws')
  else if shp (w::ws') = [41] then .inr { σ with bk:=[] } else q3t σ st σ.bk (w::ws')
def q0v (t:Yy):List Lx.Wd:=(Lx.qno t).1
def q1k:List Yy→Int→Int→MS→(Int×Int)⊕MS
 | [],_,_,σ=>.inr σ
 | t::ts,i,st,σ=>match q2j σ st (q0v t) with
  | .inl e=>.inl (i,e)
  | .inr σ'=>q1k ts (i+1) (st+((t.length:Nat):Int)+1) σ'
def qa5 (s:Yy):(Int×Int)⊕(MS×Int) :=
 if (Lx.q2x (Lx.q07 s) 0 []).2.2≠0 then .inl ((Lx.q2x (Lx.q07 s) 0 []).2.1,(Lx.q2x (Lx.q07 s) 0 []).2.2)
 else match q1k (Lx.q07 s) 0 0 ms0 with
  | .inl e=>.inl e
  | .inr σ=>if σ.bk ≠ [] then .inl (((Lx.q07 s).length:Nat),10) else if σ.mo = [] then .inl (((Lx.q07 s).length:Nat),5) else .inr (σ,((Lx.q07 s).length:Nat))
abbrev md0:MD:=([],([],([],([],([],[])))))
def q42 (s:Yy):MD×(Int×Int):=match qa5 s with
 | .inl e=>(md0,e)
 | .inr (σ,n)=>(σ.md,(n,0))
def q1s (s p:Yy):Int×(Int×Bool):=match qa5 s with
 | .inl _=>(0,(0,false))
 | .inr (σ,_)=>match q01 clT (q0r,(p,v0)) σ.sd with
  | some x=>(x.1,(x.2,true))
  | none=>(0,(0,false))
theorem qat (a b:Cl):eqT clT a b=true↔a=b:=by
 obtain ⟨a1,a2,a3,a4,a5,a6,a7⟩:=a
 obtain ⟨b1,b2,b3,b4,b5,b6,b7⟩:=b
 show (decide (a1=b1)&&(decide (a2=b2)&&(decide (a3=b3)&&(decide (a4=b4)&&(decide (a5=b5)&&(decide (a6=b6)&&decide (a7=b7)))))))=true↔_
 simp only [Bool.and_eq_true,decide_eq_true_eq,Prod.mk.injEq]
theorem j5n {a b:Cl} (h:a≠b):eqT clT a b=false:=by
 cases hb:eqT clT a b with
 | true=>exact absurd ((qat a b).1 hb) h
 | false=>rfl
theorem q1b (c c':Cl) (v:Int×Int) : ∀ l:j4w,q01 clT c (q0n clT c' v l)=bif eqT clT c c' then some v else q01 clT c l
 | []=>rfl
 | (k,y)::l=>by
  show q01 clT c (bif eqT clT c' k then (c',v)::l else (k,y)::q0n clT c' v l)=bif eqT clT c c' then some v else (bif eqT clT c k then some y else q01 clT c l)
  cases hk:eqT clT c' k with
  | true =>
   have hk':=(qat c' k).1 hk
   subst hk'
   show (bif eqT clT c c' then some v else q01 clT c l)=_
   cases eqT clT c c'<;>rfl
  | false =>
   show (bif eqT clT c k then some y else q01 clT c (q0n clT c' v l))=_
   rw [q1b c c' v l]
   cases hb:eqT clT c k with
   | true =>
    have:=(qat c k).1 hb
    subst this
    have:eqT clT c c'=false:=by
     refine j5n fun h=>?_
     subst h;rw [(qat c c).2 rfl] at hk;cases hk
    rw [this];rfl
   | false=>rfl
theorem qed (c:Cl) (v:Int×Int) (l:j4w):q01 clT c (q0n clT c v l)=some v:=by rw [q1b,(qat c c).2 rfl];rfl
theorem q30 {c c':Cl} (h:c≠c') (v:Int×Int) (l:j4w):q01 clT c (q0n clT c' v l)=q01 clT c l:=by rw [q1b,j5n h];rfl
end Go.Proofs.YtapfankgdkdkgaaGreatDoor.AM
namespace Go.Proofs
open Go.RowKit Go.Extern.Stop Go.Stop Go.Extern
namespace YtapfankgdkdkgaaGreatDoor.AM
abbrev gC:Nat:=9
theorem j3i (z:Sem Value) (f:TypeId→Addr→Nat→Nat→Sem Value) (v:Value) :
  ReflectliteValue.method z f #[v]=(do match ← ReflectliteValue.parts v with|none=>z|some (t,a,fl)=>f t a fl (fl % 32)):=rfl
theorem j9u (v x:Value):ReflectliteValue.set #[v,x]=(do
  let (some (dst,a,fl),some (src,b,_)):=(← ReflectliteValue.parts v,← ReflectliteValue.parts x)
   | unsupported (.noEntry "extern/(internal/reflectlite.Value).Set.zeroValue")
  if fl / ReflectliteValue.flagAddr % 2==0 then unsupported (.noEntry "extern/(internal/reflectlite.Value).Set.unaddressable")
  let val ← loadVar src b
  if ← Rtype.directlyAssignable dst src then storeVar dst a val
  else if ← Rtype.implements dst src then
   if (← Rtype.kind src)==20 then
    match val with
    | .nilIface=>unsupported (.noEntry "extern/reflectlite: a nil value of one interface type handed on as a value of another")
    | _=>storeVar dst a val
   else storeVar dst a (.iface src val)
  else panicString ("reflectlite.Set: value of type " ++ (← Rtype.spelt src) ++ " is not assignable to type " ++ (← Rtype.spelt dst))
  pure (.tuple #[])):=rfl
theorem asMK (h:Value) (w:World):(Go.method 406 196 (.agg #[h]) "Kind").run Tryz.prog w = .ok (250,h) w:=by kernel_rfl
theorem asME (h:Value) (w:World):(Go.method 406 196 (.agg #[h]) "Elem").run Tryz.prog w = .ok (263,.agg #[h]) w:=by kernel_rfl
theorem asMI (h:Value) (w:World):(Go.method 406 196 (.agg #[h]) "Implements").run Tryz.prog w = .ok (264,.agg #[h]) w:=by kernel_rfl
theorem asMA (h:Value) (w:World):(Go.method 406 196 (.agg #[h]) "AssignableTo").run Tryz.prog w = .ok (261,.agg #[h]) w:=by kernel_rfl
theorem j74 (t:Addr) (w:World):(ReflectliteValue.unpack (.iface 136 (.pointer (some t)))).run Tryz.prog w
  = .ok (.agg #[.pointer (some ⟨gC,136,none⟩),.pointer (some ⟨w.heap.size,0,none⟩),.int .u64 150]) (w.alloc (.cells #[.pointer (some t)] 136)):=by kernel_rfl
theorem j6y (a:Addr) (w:World):(ReflectliteValue.methodAny (ReflectliteValue.valueError "reflectlite.Value.Type" 0) (fun t _ _ _=>ReflectliteType.toType t) #[.agg #[.pointer (some ⟨gC,136,none⟩),.pointer (some a),.int .u64 150]]).run Tryz.prog w
  = .ok (.iface 196 (.agg #[.pointer (some ⟨gC,136,none⟩)])) w:=by kernel_rfl
theorem j70 (w:World):((ReflectliteType.abiMethod fun t=>(fun a:Nat=>Value.int IntKind.u8 (a:Int)) <$> Rtype.kind t) #[.pointer (some ⟨gC,136,none⟩)]).run Tryz.prog w = .ok (.int .u8 22) w:=by kernel_rfl
theorem ja4 (w:World):((ReflectliteType.abiMethod fun t=>(fun a:Nat=>Value.int IntKind.u8 (a:Int)) <$> Rtype.kind t) #[.pointer (some ⟨gC,126,none⟩)]).run Tryz.prog w = .ok (.int .u8 25) w:=by kernel_rfl
theorem qyw (a:Addr) (w:World):(ReflectliteValue.parts (.agg #[.pointer (some ⟨gC,136,none⟩),.pointer (some a),.int .u64 150])).run Tryz.prog w = .ok (some (136,a,150)) w:=by kernel_rfl
theorem j0d:Tryz.prog.underlying 136=some (.pointer 126):=by kernel_rfl
theorem j8l (a p:Addr) (W:World) (ha:W.cell? a=some (.pointer (some p))) :
  (ReflectliteValue.method (ReflectliteValue.valueError "reflectlite.Value.IsNil" 0) ReflectliteValue.isNil #[.agg #[.pointer (some ⟨gC,136,none⟩),.pointer (some a),.int .u64 150]]).run Tryz.prog W = .ok (.bool false) W:=by
 rw [j3i]
 simp only [Sem.run_bind,qyw,Result.andThen]
 simp [ReflectliteValue.isNil,loadVar,isAgg,underlying,j0d,ha,Result.andThen]
theorem j8v (w:World):(ReflectliteType.method ReflectliteType.elem #[.agg #[.pointer (some ⟨gC,136,none⟩)]]).run Tryz.prog w = .ok (.iface 196 (.agg #[.pointer (some ⟨gC,126,none⟩)])) w:=by kernel_rfl
theorem jb4 (w:World):(ReflectliteType.relation "Implements" ReflectliteType.implements_ #[.agg #[.pointer (some ⟨gC,126,none⟩)],.iface 196 (.agg #[.pointer (some ⟨gC,82,none⟩)])]).run Tryz.prog w = .ok (.bool true) w:=by kernel_rfl
theorem ja6 (v:Value) (w:World):(ReflectliteType.typeOf #[.iface 126 v]).run Tryz.prog w = .ok (.iface 196 (.agg #[.pointer (some ⟨gC,126,none⟩)])) w:=by kernel_rfl
theorem jbt (w:World):(ReflectliteType.relation "AssignableTo" ReflectliteType.assignableTo #[.agg #[.pointer (some ⟨gC,126,none⟩)],.iface 196 (.agg #[.pointer (some ⟨gC,126,none⟩)])]).run Tryz.prog w = .ok (.bool true) w:=by kernel_rfl
theorem j7w (w:World):(Rtype.elem? 136).run Tryz.prog w = .ok (some 126) w:=by kernel_rfl
theorem asMkT (p:Addr) (w:World):(ReflectliteValue.mk 126 p ReflectliteValue.flagAddr).run Tryz.prog w = .ok (.agg #[.pointer (some ⟨gC,126,none⟩),.pointer (some p),.int .u64 409]) w:=by kernel_rfl
theorem j21 (a p:Addr) (W:World) (ha:W.cell? a=some (.pointer (some p))) :
  (ReflectliteValue.method (ReflectliteValue.valueError "reflectlite.Value.Elem" 0) ReflectliteValue.elem #[.agg #[.pointer (some ⟨gC,136,none⟩),.pointer (some a),.int .u64 150]]).run Tryz.prog W
   = .ok (.agg #[.pointer (some ⟨gC,126,none⟩),.pointer (some p),.int .u64 409]) W:=by
 rw [j3i]
 simp only [Sem.run_bind,qyw,Result.andThen]
 simp [ReflectliteValue.elem,loadVar,isAgg,underlying,j0d,ha,Result.andThen,j7w,asMkT]
theorem jc7 (n:Int) (w:World):(ReflectliteValue.unpack (.iface 126 (.agg #[.int .i64 n]))).run Tryz.prog w
  = .ok (.agg #[.pointer (some ⟨gC,126,none⟩),.pointer (some ⟨w.heap.size,0,none⟩),.int .u64 153]) (w.alloc (.cells #[.int .i64 n] 126)):=by kernel_rfl
theorem j6b (a:Addr) (w:World):(ReflectliteValue.parts (.agg #[.pointer (some ⟨gC,126,none⟩),.pointer (some a),.int .u64 409])).run Tryz.prog w = .ok (some (126,a,409)) w:=by kernel_rfl
theorem ja7 (a:Addr) (w:World):(ReflectliteValue.parts (.agg #[.pointer (some ⟨gC,126,none⟩),.pointer (some a),.int .u64 153])).run Tryz.prog w = .ok (some (126,a,153)) w:=by kernel_rfl
theorem jas (w:World):(Rtype.directlyAssignable 126 126).run Tryz.prog w = .ok true w:=by kernel_rfl
theorem jak (w:World):(sizeOf 126).run Tryz.prog w = .ok 1 w:=by kernel_rfl
theorem j8a (t:Addr) (w:World):(ReflectliteValue.unpack (.iface 135 (.pointer (some t)))).run Tryz.prog w
  = .ok (.agg #[.pointer (some ⟨gC,135,none⟩),.pointer (some ⟨w.heap.size,0,none⟩),.int .u64 150]) (w.alloc (.cells #[.pointer (some t)] 135)):=by kernel_rfl
theorem j7m (a:Addr) (w:World):(ReflectliteValue.methodAny (ReflectliteValue.valueError "reflectlite.Value.Type" 0) (fun t _ _ _=>ReflectliteType.toType t) #[.agg #[.pointer (some ⟨gC,135,none⟩),.pointer (some a),.int .u64 150]]).run Tryz.prog w
  = .ok (.iface 196 (.agg #[.pointer (some ⟨gC,135,none⟩)])) w:=by kernel_rfl
theorem j6r (w:World):((ReflectliteType.abiMethod fun t=>(fun a:Nat=>Value.int IntKind.u8 (a:Int)) <$> Rtype.kind t) #[.pointer (some ⟨gC,135,none⟩)]).run Tryz.prog w = .ok (.int .u8 22) w:=by kernel_rfl
theorem ja2 (w:World):((ReflectliteType.abiMethod fun t=>(fun a:Nat=>Value.int IntKind.u8 (a:Int)) <$> Rtype.kind t) #[.pointer (some ⟨gC,128,none⟩)]).run Tryz.prog w = .ok (.int .u8 25) w:=by kernel_rfl
theorem qwo (a:Addr) (w:World):(ReflectliteValue.parts (.agg #[.pointer (some ⟨gC,135,none⟩),.pointer (some a),.int .u64 150])).run Tryz.prog w = .ok (some (135,a,150)) w:=by kernel_rfl
theorem qw0:Tryz.prog.underlying 135=some (.pointer 128):=by kernel_rfl
theorem j6q (a p:Addr) (W:World) (ha:W.cell? a=some (.pointer (some p))) :
  (ReflectliteValue.method (ReflectliteValue.valueError "reflectlite.Value.IsNil" 0) ReflectliteValue.isNil #[.agg #[.pointer (some ⟨gC,135,none⟩),.pointer (some a),.int .u64 150]]).run Tryz.prog W = .ok (.bool false) W:=by
 rw [j3i]
 simp only [Sem.run_bind,qwo,Result.andThen]
 simp [ReflectliteValue.isNil,loadVar,isAgg,underlying,qw0,ha,Result.andThen]
theorem j8i (w:World):(ReflectliteType.method ReflectliteType.elem #[.agg #[.pointer (some ⟨gC,135,none⟩)]]).run Tryz.prog w = .ok (.iface 196 (.agg #[.pointer (some ⟨gC,128,none⟩)])) w:=by kernel_rfl
theorem jbd (w:World):(ReflectliteType.relation "Implements" ReflectliteType.implements_ #[.agg #[.pointer (some ⟨gC,128,none⟩)],.iface 196 (.agg #[.pointer (some ⟨gC,82,none⟩)])]).run Tryz.prog w = .ok (.bool true) w:=by kernel_rfl
theorem j58 (v:Value) (w:World):(ReflectliteType.typeOf #[.iface 128 v]).run Tryz.prog w = .ok (.iface 196 (.agg #[.pointer (some ⟨gC,128,none⟩)])) w:=by kernel_rfl
theorem jao (w:World):(ReflectliteType.relation "AssignableTo" ReflectliteType.assignableTo #[.agg #[.pointer (some ⟨gC,128,none⟩)],.iface 196 (.agg #[.pointer (some ⟨gC,128,none⟩)])]).run Tryz.prog w = .ok (.bool true) w:=by kernel_rfl
theorem j62 (w:World):(Rtype.elem? 135).run Tryz.prog w = .ok (some 128) w:=by kernel_rfl
theorem asMkB (p:Addr) (w:World):(ReflectliteValue.mk 128 p ReflectliteValue.flagAddr).run Tryz.prog w = .ok (.agg #[.pointer (some ⟨gC,128,none⟩),.pointer (some p),.int .u64 409]) w:=by kernel_rfl
theorem j34 (a p:Addr) (W:World) (ha:W.cell? a=some (.pointer (some p))) :
  (ReflectliteValue.method (ReflectliteValue.valueError "reflectlite.Value.Elem" 0) ReflectliteValue.elem #[.agg #[.pointer (some ⟨gC,135,none⟩),.pointer (some a),.int .u64 150]]).run Tryz.prog W
   = .ok (.agg #[.pointer (some ⟨gC,128,none⟩),.pointer (some p),.int .u64 409]) W:=by
 rw [j3i]
 simp only [Sem.run_bind,qwo,Result.andThen]
 simp [ReflectliteValue.elem,loadVar,isAgg,underlying,qw0,ha,Result.andThen,j62,asMkB]
theorem jb8 (n:Int) (c:Value) (w:World):(ReflectliteValue.unpack (.iface 128 (.agg #[.int .i64 n,c]))).run Tryz.prog w
  = .ok (.agg #[.pointer (some ⟨gC,128,none⟩),.pointer (some ⟨w.heap.size,0,none⟩),.int .u64 153]) (w.alloc (.cells #[.int .i64 n,c] 128)):=by kernel_rfl
theorem j67 (a:Addr) (w:World):(ReflectliteValue.parts (.agg #[.pointer (some ⟨gC,128,none⟩),.pointer (some a),.int .u64 409])).run Tryz.prog w = .ok (some (128,a,409)) w:=by kernel_rfl
theorem jb5 (a:Addr) (w:World):(ReflectliteValue.parts (.agg #[.pointer (some ⟨gC,128,none⟩),.pointer (some a),.int .u64 153])).run Tryz.prog w = .ok (some (128,a,153)) w:=by kernel_rfl
theorem jbl (w:World):(Rtype.directlyAssignable 128 128).run Tryz.prog w = .ok true w:=by kernel_rfl
theorem jal (w:World):(sizeOf 128).run Tryz.prog w = .ok 2 w:=by kernel_rfl
theorem j7f (w:World):(ReflectliteType.relation "AssignableTo" ReflectliteType.assignableTo #[.agg #[.pointer (some ⟨gC,128,none⟩)],.iface 196 (.agg #[.pointer (some ⟨gC,126,none⟩)])]).run Tryz.prog w = .ok (.bool false) w:=by kernel_rfl
theorem asMU (v:Value) (w:World):(Go.method 406 128 v "Unwrap").run Tryz.prog w = .ok (255,v) w:=by kernel_rfl
end YtapfankgdkdkgaaGreatDoor.AM
end Go.Proofs
