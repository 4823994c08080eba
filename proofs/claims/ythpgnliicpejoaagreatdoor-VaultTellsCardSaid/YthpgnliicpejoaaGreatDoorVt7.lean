
import Derived.Test.YthpgnliicpejoaaGreatDoorVt6
import Derived.Deep.DrawnRows
namespace Go.Proofs.YthpgnliicpejoaaGreatDoor
open Go.RowKit
attribute [local go_sem ↓] Go.wp_at_zero Go.wp_at_succ
namespace RecW
def hd (k g q z m:Int):Value:=.agg #[.int .i64 k,.int .i64 g,.int .i64 q,.int .i64 z,.int .i64 m]
set_option maxHeartbeats 400000 in
theorem jb0 (n:Int) (w:World) (hb : -9223372036854775808<=n/\n<=9223372036854775807) :
  Calls Tryz.prog 154 #[.int .i64 n] w fun e w'=>e = .returned (.bool (decide (SM.q2p n)))/\w=w':=by
 go_enter Tryz.func154,Tryz.ntmps154
 go_wp2_with fail
 refine (SumW.j49 n _ w hb (by decide)).mono ?_;rintro e w' ⟨rfl,rfl⟩
 go_wp2_with fail
 go_ret
 refine ⟨SumW.qji ?_,rfl⟩
 show decide (SM.q1d n []=n)=decide (SM.q2p n)
 by_cases h:SM.q2p n
 ·have:SM.q1d n []=n:=by
   unfold SM.q1d;rw [if_pos h];unfold SM.q2p at h
   simp only [SM.steps,List.foldl_nil];omega
  simp [h,this]
 ·have:SM.q1d n []=0:=by unfold SM.q1d;rw [if_neg h]
  have h0:n≠0:=by rintro rfl;exact h (by unfold SM.q2p;omega)
  simp [h,this];omega
set_option maxHeartbeats 1600000 in
theorem qcb (k g q z m:Int) (w:World) (hb : -9223372036854775808<=m/\m<=9223372036854775807) :
  Calls Tryz.prog 137 #[.agg #[.int .i64 k,.int .i64 g,.int .i64 q,.int .i64 z,.int .i64 m]] w fun e w'=>e = .returned (.bool (decide (RM.may k g q z m)))/\Below w.heap.size w w':=by
 go_enter Tryz.func137,Tryz.ntmps137
 go_wp2_with (go_at_call 154;refine (jb0 _ _ hb).mono ?_;rintro e w' ⟨rfl,rfl⟩)
 all_goals (go_ret;refine ⟨SumW.qji ?_,(Below.refl _ _).alloc (Nat.le_refl _) _⟩)
 all_goals first
  | (symm;rw [decide_eq_false_iff_not];unfold RM.may;rintro ⟨_,_,_,_,_⟩;omega)
  | (apply decide_eq_decide.mpr;unfold RM.may;exact ⟨fun h=>⟨by omega,by omega,by omega,by omega,h⟩,fun h=>h.2.2.2.2⟩)
theorem jnq (k g q z m:Int) (w:World) (hb : -9223372036854775808<=m/\m<=9223372036854775807) (h : ¬ RM.may k g q z m) :
  Calls Tryz.prog 110 #[.agg #[.int .i64 k,.int .i64 g,.int .i64 q,.int .i64 z,.int .i64 m]] w fun e w'=>e = .returned (.tuple #[.string (RM.q3i k g q z m),.bool (decide (RM.may k g q z m))])/\Below w.heap.size w w':=by
 have hT:Hid (RM.q3i k g q z m=⟨#[]⟩):=by apply Lib.hid;unfold RM.q3i;rw [if_neg h];rfl
 have hd:decide (RM.may k g q z m)=false:=decide_eq_false h
 go_enter Tryz.func110,Tryz.ntmps110
 go_wp2_with fail
 refine (qcb k g q z m _ hb).mono ?_;rintro e w1 ⟨rfl,hb1⟩
 have hb2:Below w.heap.size w w1:=((Below.refl _ w).alloc (Nat.le_refl _) _).trans (hb1.mono (by simp))
 clear hb1
 go_wp2_with fail
 go_ret2
 exact ⟨by rw [hT.out,hd];rfl,hb2⟩
set_option maxHeartbeats 16000000 in
set_option maxRecDepth 100000 in
theorem jiw (k g q z m:Int) (w:World) (hb : -9223372036854775808<=m/\m<=9223372036854775807) (h:RM.may k g q z m) :
  Calls Tryz.prog 110 #[.agg #[.int .i64 k,.int .i64 g,.int .i64 q,.int .i64 z,.int .i64 m]] w fun e w'=>e = .returned (.tuple #[.string (RM.q3i k g q z m),.bool (decide (RM.may k g q z m))])/\Below w.heap.size w w':=by
 have hT:Hid (RM.q3i k g q z m=RM.str (RM.qcw k g q z m)):=by apply Lib.hid;unfold RM.q3i;rw [if_pos h]
 have hd:decide (RM.may k g q z m)=true:=decide_eq_true h
 have H:=Lib.hid h
 unfold RM.may at h
 have hm:=SM.j57 h.2.2.2.2
 obtain ⟨h1,⟨h2,h3⟩,⟨h4,h5⟩,⟨h6,h7⟩,h8⟩:=h
 have hk0:0<=k:=by omega
 have hk1:k<256:=by omega
 have hkw:IntKind.u8.wrap k=k:=wraps_u8 k hk0 (by omega)
 have hcv:=conv1 k hk0 hk1
 have hll:(RM.j33 [g,q,z,m]).length=16:=rfl
 have hfs:Hid (((⟨#[72]⟩:ByteArray)++RM.str [UInt8.ofNat k.toNat]++RM.str (RM.j33 [g,q,z,m])).size<=32):=by
  apply Lib.hid;rw [ByteArray.size_append,ByteArray.size_append,RM.q4v,RM.q4v,hll];show 1+1+16<=32;decide
 go_enter Tryz.func110,Tryz.ntmps110
 go_wp2_with fail
 refine (qcb k g q z m _ hb).mono ?_;rintro e w1 ⟨rfl,hb1⟩
 have hb2:Below w.heap.size w w1:=((Below.refl _ w).alloc (Nat.le_refl _) _).trans (hb1.mono (by simp))
 have hs1:w.heap.size<w1.heap.size:=by have:=hb1.size;simp at this;omega
 have c0:w1.cell? ⟨w.heap.size,0,none⟩=some (.int .i64 k):=(hb1.cell (by simp)).trans (by rw [World.cell?_alloc_mark];rfl)
 have c1:w1.cell? ⟨w.heap.size,1,none⟩=some (.int .i64 g):=(hb1.cell (by simp)).trans (by rw [World.cell?_alloc_mark];rfl)
 have c2:w1.cell? ⟨w.heap.size,2,none⟩=some (.int .i64 q):=(hb1.cell (by simp)).trans (by rw [World.cell?_alloc_mark];rfl)
 have c3:w1.cell? ⟨w.heap.size,3,none⟩=some (.int .i64 z):=(hb1.cell (by simp)).trans (by rw [World.cell?_alloc_mark];rfl)
 have c4:w1.cell? ⟨w.heap.size,4,none⟩=some (.int .i64 m):=(hb1.cell (by simp)).trans (by rw [World.cell?_alloc_mark];rfl)
 clear hb1
 have hn2:w1.heap.size<w1.heap.size+1+1:=by omega
 go_wp2_with fail
 generalize hB:w.heap.size=B at *
 have HB:=Lib.hid hB;clear hB
 refine wp_region_noPanic ?_
 refine wp_region_held_drew (S:=(fun w'=>B<w'.heap.size/\Below B w w'/\w'.cell? ⟨B,0,none⟩=some (.int .i64 k)/\w'.cell? ⟨B,1,none⟩=some (.int .i64 g)/\w'.cell? ⟨B,2,none⟩=some (.int .i64 q)/\w'.cell? ⟨B,3,none⟩=some (.int .i64 z)/\w'.cell? ⟨B,4,none⟩=some (.int .i64 m))) (by kernel_rfl) ?_ (fun hHeld=>?_)
 ·(first|(dsimp only;done)|(refine ⟨?_,?_,?_,?_,?_,?_,?_⟩<;>first|assumption|(exact hb2.drew)|(exact zb.alloc (by first|omega|(simp<;>omega)) _)|go_simp|omega|(simp<;>omega)))
 obtain ⟨z0,zb,z1,z2,z3,z4,z5⟩:=id hHeld
 refine Lib.q12 (i:=0) (v:=?_) rfl (by kernel_rfl) (by kernel_rfl) (by kernel_rfl) (fun _ _ _ h=>h) (Or.inl ⟨by rfl,?_⟩) (by assumption) ?_;rotate_left;(· (intro w' hSw;(try dsimp only at hSw);go_simp;(try with_reducible rfl)));(try simp only [Act.put,List.setIfInBounds_toArray,List.set_cons_zero,List.set_cons_succ])
 refine Lib.q12 (i:=1) (v:=?_) rfl (by kernel_rfl) (by kernel_rfl) (by kernel_rfl) (fun _ _ _ h=>h) (Or.inl ⟨by rfl,?_⟩) (by assumption) ?_;rotate_left;(· (intro w' hSw;(try dsimp only at hSw);go_simp;(try with_reducible rfl)));(try simp only [Act.put,List.setIfInBounds_toArray,List.set_cons_zero,List.set_cons_succ])
 refine Lib.q12 (i:=2) (v:=?_) rfl (by kernel_rfl) (by kernel_rfl) (by kernel_rfl) (fun _ _ _ h=>h) (Or.inl ⟨by rfl,?_⟩) (by assumption) ?_;rotate_left;(· (intro w' hSw;(try dsimp only at hSw);go_simp;(try with_reducible rfl)));(try simp only [Act.put,List.setIfInBounds_toArray,List.set_cons_zero,List.set_cons_succ])
 refine Lib.q12 (i:=6) (v:=?_) rfl (by kernel_rfl) (by kernel_rfl) (by kernel_rfl) (fun _ _ _ h=>h) (Or.inl ⟨by rfl,?_⟩) (by assumption) ?_;rotate_left;(· (intro w' hSw;(try dsimp only at hSw);go_simp;(try with_reducible rfl)));(try simp only [Act.put,List.setIfInBounds_toArray,List.set_cons_zero,List.set_cons_succ])
 refine Lib.q12 (i:=7) (v:=?_) rfl (by kernel_rfl) (by kernel_rfl) (by kernel_rfl) (fun _ _ _ h=>h) (Or.inl ⟨by rfl,?_⟩) (by assumption) ?_;rotate_left;(· (intro w' hSw;(try dsimp only at hSw);go_simp;(try with_reducible rfl)));(try simp only [Act.put,List.setIfInBounds_toArray,List.set_cons_zero,List.set_cons_succ])
 refine Lib.q12 (i:=8) (v:=?_) rfl (by kernel_rfl) (by kernel_rfl) (by kernel_rfl) (fun _ _ _ h=>h) (Or.inl ⟨by rfl,?_⟩) (by assumption) ?_;rotate_left;(· (intro w' hSw;(try dsimp only at hSw);go_simp;(try with_reducible rfl)));(try simp only [Act.put,List.setIfInBounds_toArray,List.set_cons_zero,List.set_cons_succ])
 refine Lib.q12 (i:=9) (v:=?_) rfl (by kernel_rfl) (by kernel_rfl) (by kernel_rfl) (fun _ _ _ h=>h) (Or.inl ⟨by rfl,?_⟩) (by assumption) ?_;rotate_left;(· (intro w' hSw;(try dsimp only at hSw);go_simp;(try with_reducible rfl)));(try simp only [Act.put,List.setIfInBounds_toArray,List.set_cons_zero,List.set_cons_succ])
 refine Lib.q12 (i:=10) (v:=?_) rfl (by kernel_rfl) (by kernel_rfl) (by kernel_rfl) (fun _ _ _ h=>h) (Or.inl ⟨by rfl,?_⟩) (by assumption) ?_;rotate_left;(· (intro w' hSw;(try dsimp only at hSw);go_simp;(try with_reducible rfl)));(try simp only [Act.put,List.setIfInBounds_toArray,List.set_cons_zero,List.set_cons_succ])
 refine Lib.q12 (i:=11) (v:=?_) rfl (by kernel_rfl) (by kernel_rfl) (by kernel_rfl) (fun _ _ _ h=>h) (Or.inl ⟨by rfl,?_⟩) (by assumption) ?_;rotate_left;(· (intro w' hSw;(try dsimp only at hSw);go_simp;(try with_reducible rfl)));(try simp only [Act.put,List.setIfInBounds_toArray,List.set_cons_zero,List.set_cons_succ])
 refine Lib.q12 (i:=12) (v:=?_) rfl (by kernel_rfl) (by kernel_rfl) (by kernel_rfl) (fun _ _ _ h=>h) (Or.inl ⟨by rfl,?_⟩) (by assumption) ?_;rotate_left;(· (intro w' hSw;(try dsimp only at hSw);go_simp;(try with_reducible rfl)));(try simp only [Act.put,List.setIfInBounds_toArray,List.set_cons_zero,List.set_cons_succ])
 refine Lib.q12 (i:=13) (v:=?_) rfl (by kernel_rfl) (by kernel_rfl) (by kernel_rfl) (fun _ _ _ h=>h) (Or.inl ⟨by rfl,?_⟩) (by assumption) ?_;rotate_left;(· (intro w' hSw;(try dsimp only at hSw);go_simp;(try with_reducible rfl)));(try simp only [Act.put,List.setIfInBounds_toArray,List.set_cons_zero,List.set_cons_succ])
 refine wpAnyH_ready (rs:=[3,14]) (by kernel_rfl) (by simp) (Lib.q16 rfl (fun K hK=>?_) (Lib.q16 rfl (fun K hK=>?_) AllReadyH.nil))
 ·skip
  go_simp
  refine hK.out _ _ ?_ (fun hHeld=>?_);(· (first|(dsimp only;done)|(refine ⟨?_,?_,?_,?_,?_,?_,?_⟩<;>first|assumption|(exact hb2.drew)|(exact zb.alloc (by first|omega|(simp<;>omega)) _)|go_simp|omega|(simp<;>omega))));clear hK K;(try simp only [Act.put,List.setIfInBounds_toArray,List.set_cons_zero,List.set_cons_succ]);obtain ⟨z0,zb,z1,z2,z3,z4,z5⟩:=id hHeld
  refine wpAnyH_ready (rs:=[4,14]) (by kernel_rfl) (by simp) (Lib.q16 rfl (fun K hK=>?_) (Lib.q16 rfl (fun K hK=>?_) AllReadyH.nil))
  ·skip
   go_simp
   refine hK.out _ _ ?_ (fun hHeld=>?_);(· (first|(dsimp only;done)|(refine ⟨?_,?_,?_,?_,?_,?_,?_⟩<;>first|assumption|(exact hb2.drew)|(exact zb.alloc (by first|omega|(simp<;>omega)) _)|go_simp|omega|(simp<;>omega))));clear hK K;(try simp only [Act.put,List.setIfInBounds_toArray,List.set_cons_zero,List.set_cons_succ]);obtain ⟨z0,zb,z1,z2,z3,z4,z5⟩:=id hHeld
   refine Lib.q12 (i:=5) (v:=?_) rfl (by kernel_rfl) (by kernel_rfl) (by kernel_rfl) (fun _ _ _ h=>h) (Or.inl ⟨by rfl,?_⟩) (by assumption) ?_;rotate_left;(· (intro w' hSw;(try dsimp only at hSw);go_simp;(try with_reducible rfl)));(try simp only [Act.put,List.setIfInBounds_toArray,List.set_cons_zero,List.set_cons_succ])
   refine wpAnyH_ready (rs:=[14]) (by kernel_rfl) (by simp) (Lib.q16 rfl (fun K hK=>?_) AllReadyH.nil)
   go_simp
   refine hK.out _ _ ?_ (fun hHeld=>?_);(· (first|(dsimp only;done)|(refine ⟨?_,?_,?_,?_,?_,?_,?_⟩<;>first|assumption|(exact hb2.drew)|(exact zb.alloc (by first|omega|(simp<;>omega)) _)|go_simp|omega|(simp<;>omega))));clear hK K;(try simp only [Act.put,List.setIfInBounds_toArray,List.set_cons_zero,List.set_cons_succ]);obtain ⟨z0,zb,z1,z2,z3,z4,z5⟩:=id hHeld
   refine wpAnyH_ready (rs:=[15]) (by kernel_rfl) (by simp) (Lib.q16 rfl (fun K hK=>?_) AllReadyH.nil)
   go_simp;refine (qb2 g q z m ⟨h2,by omega⟩ ⟨h4,by omega⟩ ⟨h6,by omega⟩ hm _ _ (by simp) (by simp) (by simp) (by simp) (by first|omega|(simp<;>omega))).mono ?_;rintro e w' ⟨rfl,hbl⟩;have hcl:=fun (b:Nat) (hb:b<_)=>hbl.cell (p:=⟨b,0,none⟩) hb;(try go_wp2_with fail)
   refine hK.out _ _ ?_ (fun hHeld=>?_);(· (first|(dsimp only;done)|(exact ⟨Nat.lt_of_lt_of_le (by first|assumption|omega|(simp<;>omega)) hbl.size,zb.trans (hbl.mono (by first|omega|(simp<;>omega))),(hbl.cell (by first|assumption|omega|(simp<;>omega))).trans (by first|assumption|go_simp),(hbl.cell (by first|assumption|omega|(simp<;>omega))).trans (by first|assumption|go_simp),(hbl.cell (by first|assumption|omega|(simp<;>omega))).trans (by first|assumption|go_simp),(hbl.cell (by first|assumption|omega|(simp<;>omega))).trans (by first|assumption|go_simp),(hbl.cell (by first|assumption|omega|(simp<;>omega))).trans (by first|assumption|go_simp)⟩)));clear hK K;(try simp only [Act.put,List.setIfInBounds_toArray,List.set_cons_zero,List.set_cons_succ]);obtain ⟨z0,zb,z1,z2,z3,z4,z5⟩:=id hHeld
   refine Lib.q12 (i:=16) (v:=?_) rfl (by kernel_rfl) (by kernel_rfl) (by kernel_rfl) (fun _ _ _ h=>h) (Or.inl ⟨by rfl,?_⟩) (by assumption) ?_;rotate_left;(· (intro w' hSw;(try dsimp only at hSw);go_simp;(try with_reducible rfl)));(try simp only [Act.put,List.setIfInBounds_toArray,List.set_cons_zero,List.set_cons_succ])
   refine wpAnyH_ready (rs:=[17]) (by kernel_rfl) (by simp) (Lib.q16 rfl (fun K hK=>?_) AllReadyH.nil)
   go_simp;refine (q60 _ _ hfs.out).mono ?_;rintro e w' ⟨rfl,hbf⟩;(try go_wp2_with fail)
   refine hK.out _ _ ?_ (fun hHeld=>?_);(· (first|(dsimp only;done)|(exact ⟨Nat.lt_of_lt_of_le (by first|assumption|omega|(simp<;>omega)) hbf.size,zb.trans (hbf.mono (by first|omega|(simp<;>omega))),(hbf.cell (by first|assumption|omega|(simp<;>omega))).trans (by first|assumption|go_simp),(hbf.cell (by first|assumption|omega|(simp<;>omega))).trans (by first|assumption|go_simp),(hbf.cell (by first|assumption|omega|(simp<;>omega))).trans (by first|assumption|go_simp),(hbf.cell (by first|assumption|omega|(simp<;>omega))).trans (by first|assumption|go_simp),(hbf.cell (by first|assumption|omega|(simp<;>omega))).trans (by first|assumption|go_simp)⟩)));clear hK K;(try simp only [Act.put,List.setIfInBounds_toArray,List.set_cons_zero,List.set_cons_succ]);obtain ⟨z0,zb,z1,z2,z3,z4,z5⟩:=id hHeld
   refine Lib.q12 (i:=18) (v:=?_) rfl (by kernel_rfl) (by kernel_rfl) (by kernel_rfl) (fun _ _ _ h=>h) (Or.inl ⟨by rfl,?_⟩) (by assumption) ?_;rotate_left;(· (intro w' hSw;(try dsimp only at hSw);go_simp;(try with_reducible rfl)));(try simp only [Act.put,List.setIfInBounds_toArray,List.set_cons_zero,List.set_cons_succ])
   refine Lib.q12 (i:=19) (v:=?_) rfl (by kernel_rfl) (by kernel_rfl) (by kernel_rfl) (fun _ _ _ h=>h) (Or.inl ⟨by rfl,?_⟩) (by assumption) ?_;rotate_left;(· (intro w' hSw;(try dsimp only at hSw);go_simp;(try with_reducible rfl)));(try simp only [Act.put,List.setIfInBounds_toArray,List.set_cons_zero,List.set_cons_succ])
   refine wpAnyH_done (by kernel_rfl) ?_ _;refine NoPanic.normal ?_
   go_wp2
   go_ret2
   exact ⟨by rw [hT.out];first|rfl|(rw [hd];rfl),by rw [HB.out];exact zb⟩
  ·skip
   go_simp
   refine hK.out _ _ ?_ (fun hHeld=>?_);(· (first|(dsimp only;done)|(refine ⟨?_,?_,?_,?_,?_,?_,?_⟩<;>first|assumption|(exact hb2.drew)|(exact zb.alloc (by first|omega|(simp<;>omega)) _)|go_simp|omega|(simp<;>omega))));clear hK K;(try simp only [Act.put,List.setIfInBounds_toArray,List.set_cons_zero,List.set_cons_succ]);obtain ⟨z0,zb,z1,z2,z3,z4,z5⟩:=id hHeld
   refine wpAnyH_ready (rs:=[4,15]) (by kernel_rfl) (by simp) (Lib.q16 rfl (fun K hK=>?_) (Lib.q16 rfl (fun K hK=>?_) AllReadyH.nil))
   ·skip
    go_simp
    refine hK.out _ _ ?_ (fun hHeld=>?_);(· (first|(dsimp only;done)|(refine ⟨?_,?_,?_,?_,?_,?_,?_⟩<;>first|assumption|(exact hb2.drew)|(exact zb.alloc (by first|omega|(simp<;>omega)) _)|go_simp|omega|(simp<;>omega))));clear hK K;(try simp only [Act.put,List.setIfInBounds_toArray,List.set_cons_zero,List.set_cons_succ]);obtain ⟨z0,zb,z1,z2,z3,z4,z5⟩:=id hHeld
    refine Lib.q12 (i:=5) (v:=?_) rfl (by kernel_rfl) (by kernel_rfl) (by kernel_rfl) (fun _ _ _ h=>h) (Or.inl ⟨by rfl,?_⟩) (by assumption) ?_;rotate_left;(· (intro w' hSw;(try dsimp only at hSw);go_simp;(try with_reducible rfl)));(try simp only [Act.put,List.setIfInBounds_toArray,List.set_cons_zero,List.set_cons_succ])
    refine wpAnyH_ready (rs:=[15]) (by kernel_rfl) (by simp) (Lib.q16 rfl (fun K hK=>?_) AllReadyH.nil)
    go_simp;refine (qb2 g q z m ⟨h2,by omega⟩ ⟨h4,by omega⟩ ⟨h6,by omega⟩ hm _ _ (by simp) (by simp) (by simp) (by simp) (by first|omega|(simp<;>omega))).mono ?_;rintro e w' ⟨rfl,hbl⟩;have hcl:=fun (b:Nat) (hb:b<_)=>hbl.cell (p:=⟨b,0,none⟩) hb;(try go_wp2_with fail)
    refine hK.out _ _ ?_ (fun hHeld=>?_);(· (first|(dsimp only;done)|(exact ⟨Nat.lt_of_lt_of_le (by first|assumption|omega|(simp<;>omega)) hbl.size,zb.trans (hbl.mono (by first|omega|(simp<;>omega))),(hbl.cell (by first|assumption|omega|(simp<;>omega))).trans (by first|assumption|go_simp),(hbl.cell (by first|assumption|omega|(simp<;>omega))).trans (by first|assumption|go_simp),(hbl.cell (by first|assumption|omega|(simp<;>omega))).trans (by first|assumption|go_simp),(hbl.cell (by first|assumption|omega|(simp<;>omega))).trans (by first|assumption|go_simp),(hbl.cell (by first|assumption|omega|(simp<;>omega))).trans (by first|assumption|go_simp)⟩)));clear hK K;(try simp only [Act.put,List.setIfInBounds_toArray,List.set_cons_zero,List.set_cons_succ]);obtain ⟨z0,zb,z1,z2,z3,z4,z5⟩:=id hHeld
    refine Lib.q12 (i:=16) (v:=?_) rfl (by kernel_rfl) (by kernel_rfl) (by kernel_rfl) (fun _ _ _ h=>h) (Or.inl ⟨by rfl,?_⟩) (by assumption) ?_;rotate_left;(· (intro w' hSw;(try dsimp only at hSw);go_simp;(try with_reducible rfl)));(try simp only [Act.put,List.setIfInBounds_toArray,List.set_cons_zero,List.set_cons_succ])
    refine wpAnyH_ready (rs:=[17]) (by kernel_rfl) (by simp) (Lib.q16 rfl (fun K hK=>?_) AllReadyH.nil)
    go_simp;refine (q60 _ _ hfs.out).mono ?_;rintro e w' ⟨rfl,hbf⟩;(try go_wp2_with fail)
    refine hK.out _ _ ?_ (fun hHeld=>?_);(· (first|(dsimp only;done)|(exact ⟨Nat.lt_of_lt_of_le (by first|assumption|omega|(simp<;>omega)) hbf.size,zb.trans (hbf.mono (by first|omega|(simp<;>omega))),(hbf.cell (by first|assumption|omega|(simp<;>omega))).trans (by first|assumption|go_simp),(hbf.cell (by first|assumption|omega|(simp<;>omega))).trans (by first|assumption|go_simp),(hbf.cell (by first|assumption|omega|(simp<;>omega))).trans (by first|assumption|go_simp),(hbf.cell (by first|assumption|omega|(simp<;>omega))).trans (by first|assumption|go_simp),(hbf.cell (by first|assumption|omega|(simp<;>omega))).trans (by first|assumption|go_simp)⟩)));clear hK K;(try simp only [Act.put,List.setIfInBounds_toArray,List.set_cons_zero,List.set_cons_succ]);obtain ⟨z0,zb,z1,z2,z3,z4,z5⟩:=id hHeld
    refine Lib.q12 (i:=18) (v:=?_) rfl (by kernel_rfl) (by kernel_rfl) (by kernel_rfl) (fun _ _ _ h=>h) (Or.inl ⟨by rfl,?_⟩) (by assumption) ?_;rotate_left;(· (intro w' hSw;(try dsimp only at hSw);go_simp;(try with_reducible rfl)));(try simp only [Act.put,List.setIfInBounds_toArray,List.set_cons_zero,List.set_cons_succ])
    refine Lib.q12 (i:=19) (v:=?_) rfl (by kernel_rfl) (by kernel_rfl) (by kernel_rfl) (fun _ _ _ h=>h) (Or.inl ⟨by rfl,?_⟩) (by assumption) ?_;rotate_left;(· (intro w' hSw;(try dsimp only at hSw);go_simp;(try with_reducible rfl)));(try simp only [Act.put,List.setIfInBounds_toArray,List.set_cons_zero,List.set_cons_succ])
    refine wpAnyH_done (by kernel_rfl) ?_ _;refine NoPanic.normal ?_
    go_wp2
    go_ret2
    exact ⟨by rw [hT.out];first|rfl|(rw [hd];rfl),by rw [HB.out];exact zb⟩
   ·skip
    go_simp;refine (qb2 g q z m ⟨h2,by omega⟩ ⟨h4,by omega⟩ ⟨h6,by omega⟩ hm _ _ (by simp) (by simp) (by simp) (by simp) (by first|omega|(simp<;>omega))).mono ?_;rintro e w' ⟨rfl,hbl⟩;have hcl:=fun (b:Nat) (hb:b<_)=>hbl.cell (p:=⟨b,0,none⟩) hb;(try go_wp2_with fail)
    refine hK.out _ _ ?_ (fun hHeld=>?_);(· (first|(dsimp only;done)|(exact ⟨Nat.lt_of_lt_of_le (by first|assumption|omega|(simp<;>omega)) hbl.size,zb.trans (hbl.mono (by first|omega|(simp<;>omega))),(hbl.cell (by first|assumption|omega|(simp<;>omega))).trans (by first|assumption|go_simp),(hbl.cell (by first|assumption|omega|(simp<;>omega))).trans (by first|assumption|go_simp),(hbl.cell (by first|assumption|omega|(simp<;>omega))).trans (by first|assumption|go_simp),(hbl.cell (by first|assumption|omega|(simp<;>omega))).trans (by first|assumption|go_simp),(hbl.cell (by first|assumption|omega|(simp<;>omega))).trans (by first|assumption|go_simp)⟩)));clear hK K;(try simp only [Act.put,List.setIfInBounds_toArray,List.set_cons_zero,List.set_cons_succ]);obtain ⟨z0,zb,z1,z2,z3,z4,z5⟩:=id hHeld
    refine wpAnyH_ready (rs:=[4]) (by kernel_rfl) (by simp) (Lib.q16 rfl (fun K hK=>?_) AllReadyH.nil)
    go_simp
    refine hK.out _ _ ?_ (fun hHeld=>?_);(· (first|(dsimp only;done)|(refine ⟨?_,?_,?_,?_,?_,?_,?_⟩<;>first|assumption|(exact hb2.drew)|(exact zb.alloc (by first|omega|(simp<;>omega)) _)|go_simp|omega|(simp<;>omega))));clear hK K;(try simp only [Act.put,List.setIfInBounds_toArray,List.set_cons_zero,List.set_cons_succ]);obtain ⟨z0,zb,z1,z2,z3,z4,z5⟩:=id hHeld
    refine Lib.q12 (i:=5) (v:=?_) rfl (by kernel_rfl) (by kernel_rfl) (by kernel_rfl) (fun _ _ _ h=>h) (Or.inl ⟨by rfl,?_⟩) (by assumption) ?_;rotate_left;(· (intro w' hSw;(try dsimp only at hSw);go_simp;(try with_reducible rfl)));(try simp only [Act.put,List.setIfInBounds_toArray,List.set_cons_zero,List.set_cons_succ])
    refine Lib.q12 (i:=16) (v:=?_) rfl (by kernel_rfl) (by kernel_rfl) (by kernel_rfl) (fun _ _ _ h=>h) (Or.inl ⟨by rfl,?_⟩) (by assumption) ?_;rotate_left;(· (intro w' hSw;(try dsimp only at hSw);go_simp;(try with_reducible rfl)));(try simp only [Act.put,List.setIfInBounds_toArray,List.set_cons_zero,List.set_cons_succ])
    refine wpAnyH_ready (rs:=[17]) (by kernel_rfl) (by simp) (Lib.q16 rfl (fun K hK=>?_) AllReadyH.nil)
    go_simp;refine (q60 _ _ hfs.out).mono ?_;rintro e w' ⟨rfl,hbf⟩;(try go_wp2_with fail)
    refine hK.out _ _ ?_ (fun hHeld=>?_);(· (first|(dsimp only;done)|(exact ⟨Nat.lt_of_lt_of_le (by first|assumption|omega|(simp<;>omega)) hbf.size,zb.trans (hbf.mono (by first|omega|(simp<;>omega))),(hbf.cell (by first|assumption|omega|(simp<;>omega))).trans (by first|assumption|go_simp),(hbf.cell (by first|assumption|omega|(simp<;>omega))).trans (by first|assumption|go_simp),(hbf.cell (by first|assumption|omega|(simp<;>omega))).trans (by first|assumption|go_simp),(hbf.cell (by first|assumption|omega|(simp<;>omega))).trans (by first|assumption|go_simp),(hbf.cell (by first|assumption|omega|(simp<;>omega))).trans (by first|assumption|go_simp)⟩)));clear hK K;(try simp only [Act.put,List.setIfInBounds_toArray,List.set_cons_zero,List.set_cons_succ]);obtain ⟨z0,zb,z1,z2,z3,z4,z5⟩:=id hHeld
    refine Lib.q12 (i:=18) (v:=?_) rfl (by kernel_rfl) (by kernel_rfl) (by kernel_rfl) (fun _ _ _ h=>h) (Or.inl ⟨by rfl,?_⟩) (by assumption) ?_;rotate_left;(· (intro w' hSw;(try dsimp only at hSw);go_simp;(try with_reducible rfl)));(try simp only [Act.put,List.setIfInBounds_toArray,List.set_cons_zero,List.set_cons_succ])
    refine Lib.q12 (i:=19) (v:=?_) rfl (by kernel_rfl) (by kernel_rfl) (by kernel_rfl) (fun _ _ _ h=>h) (Or.inl ⟨by rfl,?_⟩) (by assumption) ?_;rotate_left;(· (intro w' hSw;(try dsimp only at hSw);go_simp;(try with_reducible rfl)));(try simp only [Act.put,List.setIfInBounds_toArray,List.set_cons_zero,List.set_cons_succ])
    refine wpAnyH_done (by kernel_rfl) ?_ _;refine NoPanic.normal ?_
    go_wp2
    go_ret2
    exact ⟨by rw [hT.out];first|rfl|(rw [hd];rfl),by rw [HB.out];exact zb⟩
 ·skip
  go_simp
  refine hK.out _ _ ?_ (fun hHeld=>?_);(· (first|(dsimp only;done)|(refine ⟨?_,?_,?_,?_,?_,?_,?_⟩<;>first|assumption|(exact hb2.drew)|(exact zb.alloc (by first|omega|(simp<;>omega)) _)|go_simp|omega|(simp<;>omega))));clear hK K;(try simp only [Act.put,List.setIfInBounds_toArray,List.set_cons_zero,List.set_cons_succ]);obtain ⟨z0,zb,z1,z2,z3,z4,z5⟩:=id hHeld
  refine wpAnyH_ready (rs:=[3,15]) (by kernel_rfl) (by simp) (Lib.q16 rfl (fun K hK=>?_) (Lib.q16 rfl (fun K hK=>?_) AllReadyH.nil))
  ·skip
   go_simp
   refine hK.out _ _ ?_ (fun hHeld=>?_);(· (first|(dsimp only;done)|(refine ⟨?_,?_,?_,?_,?_,?_,?_⟩<;>first|assumption|(exact hb2.drew)|(exact zb.alloc (by first|omega|(simp<;>omega)) _)|go_simp|omega|(simp<;>omega))));clear hK K;(try simp only [Act.put,List.setIfInBounds_toArray,List.set_cons_zero,List.set_cons_succ]);obtain ⟨z0,zb,z1,z2,z3,z4,z5⟩:=id hHeld
   refine wpAnyH_ready (rs:=[4,15]) (by kernel_rfl) (by simp) (Lib.q16 rfl (fun K hK=>?_) (Lib.q16 rfl (fun K hK=>?_) AllReadyH.nil))
   ·skip
    go_simp
    refine hK.out _ _ ?_ (fun hHeld=>?_);(· (first|(dsimp only;done)|(refine ⟨?_,?_,?_,?_,?_,?_,?_⟩<;>first|assumption|(exact hb2.drew)|(exact zb.alloc (by first|omega|(simp<;>omega)) _)|go_simp|omega|(simp<;>omega))));clear hK K;(try simp only [Act.put,List.setIfInBounds_toArray,List.set_cons_zero,List.set_cons_succ]);obtain ⟨z0,zb,z1,z2,z3,z4,z5⟩:=id hHeld
    refine Lib.q12 (i:=5) (v:=?_) rfl (by kernel_rfl) (by kernel_rfl) (by kernel_rfl) (fun _ _ _ h=>h) (Or.inl ⟨by rfl,?_⟩) (by assumption) ?_;rotate_left;(· (intro w' hSw;(try dsimp only at hSw);go_simp;(try with_reducible rfl)));(try simp only [Act.put,List.setIfInBounds_toArray,List.set_cons_zero,List.set_cons_succ])
    refine wpAnyH_ready (rs:=[15]) (by kernel_rfl) (by simp) (Lib.q16 rfl (fun K hK=>?_) AllReadyH.nil)
    go_simp;refine (qb2 g q z m ⟨h2,by omega⟩ ⟨h4,by omega⟩ ⟨h6,by omega⟩ hm _ _ (by simp) (by simp) (by simp) (by simp) (by first|omega|(simp<;>omega))).mono ?_;rintro e w' ⟨rfl,hbl⟩;have hcl:=fun (b:Nat) (hb:b<_)=>hbl.cell (p:=⟨b,0,none⟩) hb;(try go_wp2_with fail)
    refine hK.out _ _ ?_ (fun hHeld=>?_);(· (first|(dsimp only;done)|(exact ⟨Nat.lt_of_lt_of_le (by first|assumption|omega|(simp<;>omega)) hbl.size,zb.trans (hbl.mono (by first|omega|(simp<;>omega))),(hbl.cell (by first|assumption|omega|(simp<;>omega))).trans (by first|assumption|go_simp),(hbl.cell (by first|assumption|omega|(simp<;>omega))).trans (by first|assumption|go_simp),(hbl.cell (by first|assumption|omega|(simp<;>omega))).trans (by first|assumption|go_simp),(hbl.cell (by first|assumption|omega|(simp<;>omega))).trans (by first|assumption|go_simp),(hbl.cell (by first|assumption|omega|(simp<;>omega))).trans (by first|assumption|go_simp)⟩)));clear hK K;(try simp only [Act.put,List.setIfInBounds_toArray,List.set_cons_zero,List.set_cons_succ]);obtain ⟨z0,zb,z1,z2,z3,z4,z5⟩:=id hHeld
    refine Lib.q12 (i:=16) (v:=?_) rfl (by kernel_rfl) (by kernel_rfl) (by kernel_rfl) (fun _ _ _ h=>h) (Or.inl ⟨by rfl,?_⟩) (by assumption) ?_;rotate_left;(· (intro w' hSw;(try dsimp only at hSw);go_simp;(try with_reducible rfl)));(try simp only [Act.put,List.setIfInBounds_toArray,List.set_cons_zero,List.set_cons_succ])
    refine wpAnyH_ready (rs:=[17]) (by kernel_rfl) (by simp) (Lib.q16 rfl (fun K hK=>?_) AllReadyH.nil)
    go_simp;refine (q60 _ _ hfs.out).mono ?_;rintro e w' ⟨rfl,hbf⟩;(try go_wp2_with fail)
    refine hK.out _ _ ?_ (fun hHeld=>?_);(· (first|(dsimp only;done)|(exact ⟨Nat.lt_of_lt_of_le (by first|assumption|omega|(simp<;>omega)) hbf.size,zb.trans (hbf.mono (by first|omega|(simp<;>omega))),(hbf.cell (by first|assumption|omega|(simp<;>omega))).trans (by first|assumption|go_simp),(hbf.cell (by first|assumption|omega|(simp<;>omega))).trans (by first|assumption|go_simp),(hbf.cell (by first|assumption|omega|(simp<;>omega))).trans (by first|assumption|go_simp),(hbf.cell (by first|assumption|omega|(simp<;>omega))).trans (by first|assumption|go_simp),(hbf.cell (by first|assumption|omega|(simp<;>omega))).trans (by first|assumption|go_simp)⟩)));clear hK K;(try simp only [Act.put,List.setIfInBounds_toArray,List.set_cons_zero,List.set_cons_succ]);obtain ⟨z0,zb,z1,z2,z3,z4,z5⟩:=id hHeld
    refine Lib.q12 (i:=18) (v:=?_) rfl (by kernel_rfl) (by kernel_rfl) (by kernel_rfl) (fun _ _ _ h=>h) (Or.inl ⟨by rfl,?_⟩) (by assumption) ?_;rotate_left;(· (intro w' hSw;(try dsimp only at hSw);go_simp;(try with_reducible rfl)));(try simp only [Act.put,List.setIfInBounds_toArray,List.set_cons_zero,List.set_cons_succ])
    refine Lib.q12 (i:=19) (v:=?_) rfl (by kernel_rfl) (by kernel_rfl) (by kernel_rfl) (fun _ _ _ h=>h) (Or.inl ⟨by rfl,?_⟩) (by assumption) ?_;rotate_left;(· (intro w' hSw;(try dsimp only at hSw);go_simp;(try with_reducible rfl)));(try simp only [Act.put,List.setIfInBounds_toArray,List.set_cons_zero,List.set_cons_succ])
    refine wpAnyH_done (by kernel_rfl) ?_ _;refine NoPanic.normal ?_
    go_wp2
    go_ret2
    exact ⟨by rw [hT.out];first|rfl|(rw [hd];rfl),by rw [HB.out];exact zb⟩
   ·skip
    go_simp;refine (qb2 g q z m ⟨h2,by omega⟩ ⟨h4,by omega⟩ ⟨h6,by omega⟩ hm _ _ (by simp) (by simp) (by simp) (by simp) (by first|omega|(simp<;>omega))).mono ?_;rintro e w' ⟨rfl,hbl⟩;have hcl:=fun (b:Nat) (hb:b<_)=>hbl.cell (p:=⟨b,0,none⟩) hb;(try go_wp2_with fail)
    refine hK.out _ _ ?_ (fun hHeld=>?_);(· (first|(dsimp only;done)|(exact ⟨Nat.lt_of_lt_of_le (by first|assumption|omega|(simp<;>omega)) hbl.size,zb.trans (hbl.mono (by first|omega|(simp<;>omega))),(hbl.cell (by first|assumption|omega|(simp<;>omega))).trans (by first|assumption|go_simp),(hbl.cell (by first|assumption|omega|(simp<;>omega))).trans (by first|assumption|go_simp),(hbl.cell (by first|assumption|omega|(simp<;>omega))).trans (by first|assumption|go_simp),(hbl.cell (by first|assumption|omega|(simp<;>omega))).trans (by first|assumption|go_simp),(hbl.cell (by first|assumption|omega|(simp<;>omega))).trans (by first|assumption|go_simp)⟩)));clear hK K;(try simp only [Act.put,List.setIfInBounds_toArray,List.set_cons_zero,List.set_cons_succ]);obtain ⟨z0,zb,z1,z2,z3,z4,z5⟩:=id hHeld
    refine wpAnyH_ready (rs:=[4]) (by kernel_rfl) (by simp) (Lib.q16 rfl (fun K hK=>?_) AllReadyH.nil)
    go_simp
    refine hK.out _ _ ?_ (fun hHeld=>?_);(· (first|(dsimp only;done)|(refine ⟨?_,?_,?_,?_,?_,?_,?_⟩<;>first|assumption|(exact hb2.drew)|(exact zb.alloc (by first|omega|(simp<;>omega)) _)|go_simp|omega|(simp<;>omega))));clear hK K;(try simp only [Act.put,List.setIfInBounds_toArray,List.set_cons_zero,List.set_cons_succ]);obtain ⟨z0,zb,z1,z2,z3,z4,z5⟩:=id hHeld
    refine Lib.q12 (i:=5) (v:=?_) rfl (by kernel_rfl) (by kernel_rfl) (by kernel_rfl) (fun _ _ _ h=>h) (Or.inl ⟨by rfl,?_⟩) (by assumption) ?_;rotate_left;(· (intro w' hSw;(try dsimp only at hSw);go_simp;(try with_reducible rfl)));(try simp only [Act.put,List.setIfInBounds_toArray,List.set_cons_zero,List.set_cons_succ])
    refine Lib.q12 (i:=16) (v:=?_) rfl (by kernel_rfl) (by kernel_rfl) (by kernel_rfl) (fun _ _ _ h=>h) (Or.inl ⟨by rfl,?_⟩) (by assumption) ?_;rotate_left;(· (intro w' hSw;(try dsimp only at hSw);go_simp;(try with_reducible rfl)));(try simp only [Act.put,List.setIfInBounds_toArray,List.set_cons_zero,List.set_cons_succ])
    refine wpAnyH_ready (rs:=[17]) (by kernel_rfl) (by simp) (Lib.q16 rfl (fun K hK=>?_) AllReadyH.nil)
    go_simp;refine (q60 _ _ hfs.out).mono ?_;rintro e w' ⟨rfl,hbf⟩;(try go_wp2_with fail)
    refine hK.out _ _ ?_ (fun hHeld=>?_);(· (first|(dsimp only;done)|(exact ⟨Nat.lt_of_lt_of_le (by first|assumption|omega|(simp<;>omega)) hbf.size,zb.trans (hbf.mono (by first|omega|(simp<;>omega))),(hbf.cell (by first|assumption|omega|(simp<;>omega))).trans (by first|assumption|go_simp),(hbf.cell (by first|assumption|omega|(simp<;>omega))).trans (by first|assumption|go_simp),(hbf.cell (by first|assumption|omega|(simp<;>omega))).trans (by first|assumption|go_simp),(hbf.cell (by first|assumption|omega|(simp<;>omega))).trans (by first|assumption|go_simp),(hbf.cell (by first|assumption|omega|(simp<;>omega))).trans (by first|assumption|go_simp)⟩)));clear hK K;(try simp only [Act.put,List.setIfInBounds_toArray,List.set_cons_zero,List.set_cons_succ]);obtain ⟨z0,zb,z1,z2,z3,z4,z5⟩:=id hHeld
    refine Lib.q12 (i:=18) (v:=?_) rfl (by kernel_rfl) (by kernel_rfl) (by kernel_rfl) (fun _ _ _ h=>h) (Or.inl ⟨by rfl,?_⟩) (by assumption) ?_;rotate_left;(· (intro w' hSw;(try dsimp only at hSw);go_simp;(try with_reducible rfl)));(try simp only [Act.put,List.setIfInBounds_toArray,List.set_cons_zero,List.set_cons_succ])
    refine Lib.q12 (i:=19) (v:=?_) rfl (by kernel_rfl) (by kernel_rfl) (by kernel_rfl) (fun _ _ _ h=>h) (Or.inl ⟨by rfl,?_⟩) (by assumption) ?_;rotate_left;(· (intro w' hSw;(try dsimp only at hSw);go_simp;(try with_reducible rfl)));(try simp only [Act.put,List.setIfInBounds_toArray,List.set_cons_zero,List.set_cons_succ])
    refine wpAnyH_done (by kernel_rfl) ?_ _;refine NoPanic.normal ?_
    go_wp2
    go_ret2
    exact ⟨by rw [hT.out];first|rfl|(rw [hd];rfl),by rw [HB.out];exact zb⟩
  ·skip
   go_simp;refine (qb2 g q z m ⟨h2,by omega⟩ ⟨h4,by omega⟩ ⟨h6,by omega⟩ hm _ _ (by simp) (by simp) (by simp) (by simp) (by first|omega|(simp<;>omega))).mono ?_;rintro e w' ⟨rfl,hbl⟩;have hcl:=fun (b:Nat) (hb:b<_)=>hbl.cell (p:=⟨b,0,none⟩) hb;(try go_wp2_with fail)
   refine hK.out _ _ ?_ (fun hHeld=>?_);(· (first|(dsimp only;done)|(exact ⟨Nat.lt_of_lt_of_le (by first|assumption|omega|(simp<;>omega)) hbl.size,zb.trans (hbl.mono (by first|omega|(simp<;>omega))),(hbl.cell (by first|assumption|omega|(simp<;>omega))).trans (by first|assumption|go_simp),(hbl.cell (by first|assumption|omega|(simp<;>omega))).trans (by first|assumption|go_simp),(hbl.cell (by first|assumption|omega|(simp<;>omega))).trans (by first|assumption|go_simp),(hbl.cell (by first|assumption|omega|(simp<;>omega))).trans (by first|assumption|go_simp),(hbl.cell (by first|assumption|omega|(simp<;>omega))).trans (by first|assumption|go_simp)⟩)));clear hK K;(try simp only [Act.put,List.setIfInBounds_toArray,List.set_cons_zero,List.set_cons_succ]);obtain ⟨z0,zb,z1,z2,z3,z4,z5⟩:=id hHeld
   refine wpAnyH_ready (rs:=[3]) (by kernel_rfl) (by simp) (Lib.q16 rfl (fun K hK=>?_) AllReadyH.nil)
   go_simp
   refine hK.out _ _ ?_ (fun hHeld=>?_);(· (first|(dsimp only;done)|(refine ⟨?_,?_,?_,?_,?_,?_,?_⟩<;>first|assumption|(exact hb2.drew)|(exact zb.alloc (by first|omega|(simp<;>omega)) _)|go_simp|omega|(simp<;>omega))));clear hK K;(try simp only [Act.put,List.setIfInBounds_toArray,List.set_cons_zero,List.set_cons_succ]);obtain ⟨z0,zb,z1,z2,z3,z4,z5⟩:=id hHeld
   refine wpAnyH_ready (rs:=[4]) (by kernel_rfl) (by simp) (Lib.q16 rfl (fun K hK=>?_) AllReadyH.nil)
   go_simp
   refine hK.out _ _ ?_ (fun hHeld=>?_);(· (first|(dsimp only;done)|(refine ⟨?_,?_,?_,?_,?_,?_,?_⟩<;>first|assumption|(exact hb2.drew)|(exact zb.alloc (by first|omega|(simp<;>omega)) _)|go_simp|omega|(simp<;>omega))));clear hK K;(try simp only [Act.put,List.setIfInBounds_toArray,List.set_cons_zero,List.set_cons_succ]);obtain ⟨z0,zb,z1,z2,z3,z4,z5⟩:=id hHeld
   refine Lib.q12 (i:=5) (v:=?_) rfl (by kernel_rfl) (by kernel_rfl) (by kernel_rfl) (fun _ _ _ h=>h) (Or.inl ⟨by rfl,?_⟩) (by assumption) ?_;rotate_left;(· (intro w' hSw;(try dsimp only at hSw);go_simp;(try with_reducible rfl)));(try simp only [Act.put,List.setIfInBounds_toArray,List.set_cons_zero,List.set_cons_succ])
   refine Lib.q12 (i:=16) (v:=?_) rfl (by kernel_rfl) (by kernel_rfl) (by kernel_rfl) (fun _ _ _ h=>h) (Or.inl ⟨by rfl,?_⟩) (by assumption) ?_;rotate_left;(· (intro w' hSw;(try dsimp only at hSw);go_simp;(try with_reducible rfl)));(try simp only [Act.put,List.setIfInBounds_toArray,List.set_cons_zero,List.set_cons_succ])
   refine wpAnyH_ready (rs:=[17]) (by kernel_rfl) (by simp) (Lib.q16 rfl (fun K hK=>?_) AllReadyH.nil)
   go_simp;refine (q60 _ _ hfs.out).mono ?_;rintro e w' ⟨rfl,hbf⟩;(try go_wp2_with fail)
   refine hK.out _ _ ?_ (fun hHeld=>?_);(· (first|(dsimp only;done)|(exact ⟨Nat.lt_of_lt_of_le (by first|assumption|omega|(simp<;>omega)) hbf.size,zb.trans (hbf.mono (by first|omega|(simp<;>omega))),(hbf.cell (by first|assumption|omega|(simp<;>omega))).trans (by first|assumption|go_simp),(hbf.cell (by first|assumption|omega|(simp<;>omega))).trans (by first|assumption|go_simp),(hbf.cell (by first|assumption|omega|(simp<;>omega))).trans (by first|assumption|go_simp),(hbf.cell (by first|assumption|omega|(simp<;>omega))).trans (by first|assumption|go_simp),(hbf.cell (by first|assumption|omega|(simp<;>omega))).trans (by first|assumption|go_simp)⟩)));clear hK K;(try simp only [Act.put,List.setIfInBounds_toArray,List.set_cons_zero,List.set_cons_succ]);obtain ⟨z0,zb,z1,z2,z3,z4,z5⟩:=id hHeld
   refine Lib.q12 (i:=18) (v:=?_) rfl (by kernel_rfl) (by kernel_rfl) (by kernel_rfl) (fun _ _ _ h=>h) (Or.inl ⟨by rfl,?_⟩) (by assumption) ?_;rotate_left;(· (intro w' hSw;(try dsimp only at hSw);go_simp;(try with_reducible rfl)));(try simp only [Act.put,List.setIfInBounds_toArray,List.set_cons_zero,List.set_cons_succ])
   refine Lib.q12 (i:=19) (v:=?_) rfl (by kernel_rfl) (by kernel_rfl) (by kernel_rfl) (fun _ _ _ h=>h) (Or.inl ⟨by rfl,?_⟩) (by assumption) ?_;rotate_left;(· (intro w' hSw;(try dsimp only at hSw);go_simp;(try with_reducible rfl)));(try simp only [Act.put,List.setIfInBounds_toArray,List.set_cons_zero,List.set_cons_succ])
   refine wpAnyH_done (by kernel_rfl) ?_ _;refine NoPanic.normal ?_
   go_wp2
   go_ret2
   exact ⟨by rw [hT.out];first|rfl|(rw [hd];rfl),by rw [HB.out];exact zb⟩
end RecW
end Go.Proofs.YthpgnliicpejoaaGreatDoor
namespace Go.Proofs.YthpgnliicpejoaaGreatDoor
open Go.RowKit
attribute [local go_sem ↓] Go.wp_at_zero Go.wp_at_succ
namespace RecW
set_option maxHeartbeats 400000 in
theorem qem (n:Int) (w:World) (hb : -9223372036854775808<=n/\n<=9223372036854775807) :
  Calls Tryz.prog 77 #[.int .i64 n] w fun e w'=>e = .returned (.int .i64 (RM.q0u n))/\w=w':=by
 by_cases h0:n<0
 ·go_enter Tryz.func77,Tryz.ntmps77
  go_wp2
  go_ret
  exact ⟨SumW.q5p (by unfold RM.q0u;rw [if_neg (by omega)]),rfl⟩
 ·by_cases h1:4096<n
  ·go_enter Tryz.func77,Tryz.ntmps77
   go_wp2
   go_ret
   exact ⟨SumW.q5p (by unfold RM.q0u;rw [if_neg (by omega)]),rfl⟩
  ·go_enter Tryz.func77,Tryz.ntmps77
   go_wp2
   go_ret
   exact ⟨SumW.q5p (by unfold RM.q0u;rw [if_pos (by omega)];omega),rfl⟩
set_option maxHeartbeats 400000 in
theorem qg3 (n:Int) (w:World) (hb : -9223372036854775808<=n/\n<=9223372036854775807) :
  Calls Tryz.prog 128 #[.int .i64 n] w fun e w'=>e = .returned (.int .i64 (RM.q0u n))/\w=w':=by
 by_cases h0:n<0
 ·go_enter Tryz.func128,Tryz.ntmps128
  go_wp2
  go_ret
  exact ⟨SumW.q5p (by unfold RM.q0u;rw [if_neg (by omega)]),rfl⟩
 ·by_cases h1:4096<n
  ·go_enter Tryz.func128,Tryz.ntmps128
   go_wp2
   go_ret
   exact ⟨SumW.q5p (by unfold RM.q0u;rw [if_neg (by omega)]),rfl⟩
  ·go_enter Tryz.func128,Tryz.ntmps128
   go_wp2
   go_ret
   exact ⟨SumW.q5p (by unfold RM.q0u;rw [if_pos (by omega)]),rfl⟩
theorem q25 (s:ByteArray) (k:Nat) (w:World) (h:s.size=32) (hk:k+4<=32) :
  Calls Tryz.prog 144 #[.string (s.extract k 32)] w fun e w'=>e = .returned (.int .i64 (RM.q0i s k))/\∃ m,w'=w.drewN m:=by
 have:=j7g (s.extract k 32) w (by rw [ByteArray.size_extract];omega)
 rw [RM.j1k s k h hk] at this
 exact this
theorem qbc (k g q z m:Int) (w:World) (hb : -9223372036854775808<=m/\m<=9223372036854775807) :
  Calls Tryz.prog 110 #[.agg #[.int .i64 k,.int .i64 g,.int .i64 q,.int .i64 z,.int .i64 m]] w fun e w'=>e = .returned (.tuple #[.string (RM.q3i k g q z m),.bool (decide (RM.may k g q z m))])/\Below w.heap.size w w':=by
 by_cases h:RM.may k g q z m
 ·exact jiw k g q z m w hb h
 ·exact jnq k g q z m w hb h
theorem E1_of (s:ByteArray) (h:1<s.size):wrap64 (s[1].toNat:Int)=RM.q1u s:=by
 have:=s[1].toNat_lt
 rw [RM.wrap_small _ (by omega) (by omega)]
 unfold RM.q1u
 simp [List.getD,h]
 rfl
set_option maxHeartbeats 3200000 in
set_option maxRecDepth 100000 in
theorem jqh (s:ByteArray) (w:World) (h:s.size=32) :
  Calls Tryz.prog 119 #[.string s] w fun e w'=>e = .returned (.tuple #[RM.qx1 s,.bool (decide (RM.q1m s))])/\Below w.heap.size w w':=by
 have hz:(s.size:Int)=32:=by omega
 have i1:(1:Int)<(s.size:Int):=by omega
 have j1:1<s.size:=by omega
 have E1:=Lib.hid (E1_of s j1)
 have hbm : -9223372036854775808<=RM.q0i s 14/\RM.q0i s 14<=9223372036854775807:=by have:=RM.qw3 s.data.toList 14;unfold RM.q0i;omega
 go_enter Tryz.func119,Tryz.ntmps119
 go_wp2_with fail
 refine wp_region_noPanic ?_
 refine wp_region_held_drew (S:=(fun _=>True)) (by kernel_rfl) ?_ (fun hHeld=>?_)
 ·(first|(dsimp only;done)|trivial)
 refine Lib.q12 (i:=0) (v:=?_) rfl (by kernel_rfl) (by kernel_rfl) (by kernel_rfl) (fun _ _ _ h=>h) (Or.inl ⟨by rfl,?_⟩) (by assumption) ?_;rotate_left;(· (intro w' hSw;(try dsimp only at hSw);go_simp;(try with_reducible rfl)));(try simp only [Act.put,List.setIfInBounds_toArray,List.set_cons_zero,List.set_cons_succ])
 refine Lib.q12 (i:=1) (v:=?_) rfl (by kernel_rfl) (by kernel_rfl) (by kernel_rfl) (fun _ _ _ h=>h) (Or.inl ⟨by rfl,?_⟩) (by assumption) ?_;rotate_left;(· (intro w' hSw;(try dsimp only at hSw);go_simp;(try with_reducible rfl)));(try simp only [Act.put,List.setIfInBounds_toArray,List.set_cons_zero,List.set_cons_succ])
 refine Lib.q12 (i:=2) (v:=?_) rfl (by kernel_rfl) (by kernel_rfl) (by kernel_rfl) (fun _ _ _ h=>h) (Or.inl ⟨by rfl,?_⟩) (by assumption) ?_;rotate_left;(· (intro w' hSw;(try dsimp only at hSw);go_simp;(try with_reducible rfl)));(try simp only [Act.put,List.setIfInBounds_toArray,List.set_cons_zero,List.set_cons_succ])
 refine Lib.q12 (i:=3) (v:=?_) rfl (by kernel_rfl) (by kernel_rfl) (by kernel_rfl) (fun _ _ _ h=>h) (Or.inl ⟨by rfl,?_⟩) (by assumption) ?_;rotate_left;(· (intro w' hSw;(try dsimp only at hSw);go_simp;(try with_reducible rfl)));(try simp only [Act.put,List.setIfInBounds_toArray,List.set_cons_zero,List.set_cons_succ])
 refine Lib.q12 (i:=4) (v:=?_) rfl (by kernel_rfl) (by kernel_rfl) (by kernel_rfl) (fun _ _ _ h=>h) (Or.inl ⟨by rfl,?_⟩) (by assumption) ?_;rotate_left;(· (intro w' hSw;(try dsimp only at hSw);go_simp;(try with_reducible rfl)));(try simp only [Act.put,List.setIfInBounds_toArray,List.set_cons_zero,List.set_cons_succ])
 refine Lib.q12 (i:=6) (v:=?_) rfl (by kernel_rfl) (by kernel_rfl) (by kernel_rfl) (fun _ _ _ h=>h) (Or.inl ⟨by rfl,?_⟩) (by assumption) ?_;rotate_left;(· (intro w' hSw;(try dsimp only at hSw);go_simp;(try with_reducible rfl)));(try simp only [Act.put,List.setIfInBounds_toArray,List.set_cons_zero,List.set_cons_succ])
 refine Lib.q12 (i:=7) (v:=?_) rfl (by kernel_rfl) (by kernel_rfl) (by kernel_rfl) (fun _ _ _ h=>h) (Or.inl ⟨by rfl,?_⟩) (by assumption) ?_;rotate_left;(· (intro w' hSw;(try dsimp only at hSw);go_simp;(try with_reducible rfl)));(try simp only [Act.put,List.setIfInBounds_toArray,List.set_cons_zero,List.set_cons_succ])
 refine Lib.q12 (i:=9) (v:=?_) rfl (by kernel_rfl) (by kernel_rfl) (by kernel_rfl) (fun _ _ _ h=>h) (Or.inl ⟨by rfl,?_⟩) (by assumption) ?_;rotate_left;(· (intro w' hSw;(try dsimp only at hSw);go_simp;(try with_reducible rfl)));(try simp only [Act.put,List.setIfInBounds_toArray,List.set_cons_zero,List.set_cons_succ])
 refine Lib.q12 (i:=10) (v:=?_) rfl (by kernel_rfl) (by kernel_rfl) (by kernel_rfl) (fun _ _ _ h=>h) (Or.inl ⟨by rfl,?_⟩) (by assumption) ?_;rotate_left;(· (intro w' hSw;(try dsimp only at hSw);go_simp;(try with_reducible rfl)));(try simp only [Act.put,List.setIfInBounds_toArray,List.set_cons_zero,List.set_cons_succ])
 refine Lib.q12 (i:=12) (v:=?_) rfl (by kernel_rfl) (by kernel_rfl) (by kernel_rfl) (fun _ _ _ h=>h) (Or.inl ⟨by rfl,?_⟩) (by assumption) ?_;rotate_left;(· (intro w' hSw;(try dsimp only at hSw);go_simp;(try with_reducible rfl)));(try simp only [Act.put,List.setIfInBounds_toArray,List.set_cons_zero,List.set_cons_succ])
 refine Lib.q12 (i:=13) (v:=?_) rfl (by kernel_rfl) (by kernel_rfl) (by kernel_rfl) (fun _ _ _ h=>h) (Or.inl ⟨by rfl,?_⟩) (by assumption) ?_;rotate_left;(· (intro w' hSw;(try dsimp only at hSw);go_simp;(try with_reducible rfl)));(try simp only [Act.put,List.setIfInBounds_toArray,List.set_cons_zero,List.set_cons_succ])
 refine wpAnyH_ready (rs:=[5,16]) (by kernel_rfl) (by simp) (Lib.q16 rfl (fun K hK=>?_) (Lib.q16 rfl (fun K hK=>?_) AllReadyH.nil))
 ·skip
  go_simp;refine (q25 s 2 _ h (by decide)).mono ?_;rintro e w' ⟨rfl,n0,rfl⟩;(try go_wp2_with fail)
  refine hK.out _ _ ?_ (fun hHeld=>?_);(· (first|(dsimp only;done)|trivial));clear hK K;(try simp only [Act.put,List.setIfInBounds_toArray,List.set_cons_zero,List.set_cons_succ])
  refine wpAnyH_ready (rs:=[8,16]) (by kernel_rfl) (by simp) (Lib.q16 rfl (fun K hK=>?_) (Lib.q16 rfl (fun K hK=>?_) AllReadyH.nil))
  ·skip
   go_simp;refine (q25 s 6 _ h (by decide)).mono ?_;rintro e w' ⟨rfl,n1,rfl⟩;(try go_wp2_with fail)
   refine hK.out _ _ ?_ (fun hHeld=>?_);(· (first|(dsimp only;done)|trivial));clear hK K;(try simp only [Act.put,List.setIfInBounds_toArray,List.set_cons_zero,List.set_cons_succ])
   refine wpAnyH_ready (rs:=[11,16]) (by kernel_rfl) (by simp) (Lib.q16 rfl (fun K hK=>?_) (Lib.q16 rfl (fun K hK=>?_) AllReadyH.nil))
   ·skip
    go_simp;refine (q25 s 10 _ h (by decide)).mono ?_;rintro e w' ⟨rfl,n2,rfl⟩;(try go_wp2_with fail)
    refine hK.out _ _ ?_ (fun hHeld=>?_);(· (first|(dsimp only;done)|trivial));clear hK K;(try simp only [Act.put,List.setIfInBounds_toArray,List.set_cons_zero,List.set_cons_succ])
    refine wpAnyH_ready (rs:=[14,16]) (by kernel_rfl) (by simp) (Lib.q16 rfl (fun K hK=>?_) (Lib.q16 rfl (fun K hK=>?_) AllReadyH.nil))
    ·skip
     go_simp;refine (q25 s 14 _ h (by decide)).mono ?_;rintro e w' ⟨rfl,n3,rfl⟩;(try go_wp2_with fail)
     refine hK.out _ _ ?_ (fun hHeld=>?_);(· (first|(dsimp only;done)|trivial));clear hK K;(try simp only [Act.put,List.setIfInBounds_toArray,List.set_cons_zero,List.set_cons_succ])
     refine Lib.q12 (i:=15) (v:=?_) rfl (by kernel_rfl) (by kernel_rfl) (by kernel_rfl) (fun _ _ _ h=>h) (Or.inl ⟨by rfl,?_⟩) (by assumption) ?_;rotate_left;(· (intro w' hSw;(try dsimp only at hSw);go_simp;(try with_reducible rfl)));(try simp only [Act.put,List.setIfInBounds_toArray,List.set_cons_zero,List.set_cons_succ])
     refine wpAnyH_ready (rs:=[16]) (by kernel_rfl) (by simp) (Lib.q16 rfl (fun K hK=>?_) AllReadyH.nil)
     go_simp
     refine hK.out _ _ ?_ (fun hHeld=>?_);(· (first|(dsimp only;done)|trivial));clear hK K;(try simp only [Act.put,List.setIfInBounds_toArray,List.set_cons_zero,List.set_cons_succ])
     refine wpAnyH_ready (rs:=[17]) (by kernel_rfl) (by simp) (Lib.q16 rfl (fun K hK=>?_) AllReadyH.nil)
     go_simp
     refine hK.out _ _ ?_ (fun hHeld=>?_);(· (first|(dsimp only;done)|trivial));clear hK K;(try simp only [Act.put,List.setIfInBounds_toArray,List.set_cons_zero,List.set_cons_succ])
     refine wpAnyH_done (by kernel_rfl) ?_ _;refine NoPanic.normal ?_
     go_wp2_with fail
     rw [E1.out]
     refine (qbc _ _ _ _ _ _ hbm).mono ?_;rintro e w2 ⟨rfl,hb2⟩
     have hB2:Below w.heap.size w w2:=Below.trans (by repeat' first|(with_reducible exact Below.refl _ _)|(with_reducible refine Lib.q1t ?_ _)|(with_reducible refine Below.drew ?_)|(with_reducible refine Below.alloc ?_ ?_ _)|(with_reducible refine Below.setCell ?_ ?_ _)|(simp<;>omega)) (hb2.mono (by simp<;>omega))
     have q0:w2.cell? ⟨w.heap.size,0,none⟩=some (.int .i64 0):=(hb2.cell (by first|omega|(simp<;>omega))).trans (by go_simp)
     have f0:w2.frozen? ⟨w.heap.size,0,none⟩=false:=(hb2.frozen (by first|omega|(simp<;>omega))).trans (by go_simp)
     have v0:w2.cell? ⟨w.heap.size+1,0,none⟩=some (.int .i64 (RM.q1u s)):=(hb2.cell (by first|omega|(simp<;>omega))).trans (by first|go_simp|(rw [<-E1.out];go_simp))
     have q1:w2.cell? ⟨w.heap.size,1,none⟩=some (.int .i64 0):=(hb2.cell (by first|omega|(simp<;>omega))).trans (by go_simp)
     have f1:w2.frozen? ⟨w.heap.size,1,none⟩=false:=(hb2.frozen (by first|omega|(simp<;>omega))).trans (by go_simp)
     have v1:w2.cell? ⟨w.heap.size+1,1,none⟩=some (.int .i64 (RM.q0i s 2)):=(hb2.cell (by first|omega|(simp<;>omega))).trans (by first|go_simp|(rw [<-E1.out];go_simp))
     have q2:w2.cell? ⟨w.heap.size,2,none⟩=some (.int .i64 0):=(hb2.cell (by first|omega|(simp<;>omega))).trans (by go_simp)
     have f2:w2.frozen? ⟨w.heap.size,2,none⟩=false:=(hb2.frozen (by first|omega|(simp<;>omega))).trans (by go_simp)
     have v2:w2.cell? ⟨w.heap.size+1,2,none⟩=some (.int .i64 (RM.q0i s 6)):=(hb2.cell (by first|omega|(simp<;>omega))).trans (by first|go_simp|(rw [<-E1.out];go_simp))
     have q3:w2.cell? ⟨w.heap.size,3,none⟩=some (.int .i64 0):=(hb2.cell (by first|omega|(simp<;>omega))).trans (by go_simp)
     have f3:w2.frozen? ⟨w.heap.size,3,none⟩=false:=(hb2.frozen (by first|omega|(simp<;>omega))).trans (by go_simp)
     have v3:w2.cell? ⟨w.heap.size+1,3,none⟩=some (.int .i64 (RM.q0i s 10)):=(hb2.cell (by first|omega|(simp<;>omega))).trans (by first|go_simp|(rw [<-E1.out];go_simp))
     have q4:w2.cell? ⟨w.heap.size,4,none⟩=some (.int .i64 0):=(hb2.cell (by first|omega|(simp<;>omega))).trans (by go_simp)
     have f4:w2.frozen? ⟨w.heap.size,4,none⟩=false:=(hb2.frozen (by first|omega|(simp<;>omega))).trans (by go_simp)
     have v4:w2.cell? ⟨w.heap.size+1,4,none⟩=some (.int .i64 (RM.q0i s 14)):=(hb2.cell (by first|omega|(simp<;>omega))).trans (by first|go_simp|(rw [<-E1.out];go_simp))
     clear hb2
     go_wp2_with fail
     ·have hno:=RM.qfg s (by assumption) (by assumption)
      rw [RM.q3k s hno,decide_eq_false hno]
      refine bodyPost_ret (q1e rfl _ _ w.heap.size 0 0 0 0 0 rfl (by go_simp) (by go_simp) (by go_simp) (by go_simp) (by go_simp)) rfl ?_
      exact ⟨rfl,by repeat' first|(with_reducible exact hB2)|(with_reducible refine Below.setCell ?_ ?_ _)|omega|(simp<;>omega)⟩
     ·have hyes:=RM.q9b s h (by assumption) (by assumption)
      rw [RM.q7i s hyes,decide_eq_true hyes]
      refine bodyPost_ret (q1e rfl _ _ w.heap.size (RM.q1u s) (RM.q0i s 2) (RM.q0i s 6) (RM.q0i s 10) (RM.q0i s 14) rfl (by go_simp) (by go_simp) (by go_simp) (by go_simp) (by go_simp)) rfl ?_
      exact ⟨rfl,by repeat' first|(with_reducible exact hB2)|(with_reducible refine Below.setCell ?_ ?_ _)|omega|(simp<;>omega)⟩
     ·have hmay : ¬ RM.may (RM.q1u s) (RM.q0i s 2) (RM.q0i s 6) (RM.q0i s 10) (RM.q0i s 14):=by assumption
      have hno : ¬ RM.q1m s:=fun x=>hmay x.2.1
      rw [RM.q3k s hno,decide_eq_false hno]
      refine bodyPost_ret (q1e rfl _ _ w.heap.size 0 0 0 0 0 rfl (by go_simp) (by go_simp) (by go_simp) (by go_simp) (by go_simp)) rfl ?_
      exact ⟨rfl,by repeat' first|(with_reducible exact hB2)|(with_reducible refine Below.setCell ?_ ?_ _)|omega|(simp<;>omega)⟩
    ·skip
     go_simp
     refine hK.out _ _ ?_ (fun hHeld=>?_);(· (first|(dsimp only;done)|trivial));clear hK K;(try simp only [Act.put,List.setIfInBounds_toArray,List.set_cons_zero,List.set_cons_succ])
     refine wpAnyH_ready (rs:=[14]) (by kernel_rfl) (by simp) (Lib.q16 rfl (fun K hK=>?_) AllReadyH.nil)
     go_simp;refine (q25 s 14 _ h (by decide)).mono ?_;rintro e w' ⟨rfl,n3,rfl⟩;(try go_wp2_with fail)
     refine hK.out _ _ ?_ (fun hHeld=>?_);(· (first|(dsimp only;done)|trivial));clear hK K;(try simp only [Act.put,List.setIfInBounds_toArray,List.set_cons_zero,List.set_cons_succ])
     refine Lib.q12 (i:=15) (v:=?_) rfl (by kernel_rfl) (by kernel_rfl) (by kernel_rfl) (fun _ _ _ h=>h) (Or.inl ⟨by rfl,?_⟩) (by assumption) ?_;rotate_left;(· (intro w' hSw;(try dsimp only at hSw);go_simp;(try with_reducible rfl)));(try simp only [Act.put,List.setIfInBounds_toArray,List.set_cons_zero,List.set_cons_succ])
     refine wpAnyH_ready (rs:=[17]) (by kernel_rfl) (by simp) (Lib.q16 rfl (fun K hK=>?_) AllReadyH.nil)
     go_simp
     refine hK.out _ _ ?_ (fun hHeld=>?_);(· (first|(dsimp only;done)|trivial));clear hK K;(try simp only [Act.put,List.setIfInBounds_toArray,List.set_cons_zero,List.set_cons_succ])
     refine wpAnyH_done (by kernel_rfl) ?_ _;refine NoPanic.normal ?_
     go_wp2_with fail
     rw [E1.out]
     refine (qbc _ _ _ _ _ _ hbm).mono ?_;rintro e w2 ⟨rfl,hb2⟩
     have hB2:Below w.heap.size w w2:=Below.trans (by repeat' first|(with_reducible exact Below.refl _ _)|(with_reducible refine Lib.q1t ?_ _)|(with_reducible refine Below.drew ?_)|(with_reducible refine Below.alloc ?_ ?_ _)|(with_reducible refine Below.setCell ?_ ?_ _)|(simp<;>omega)) (hb2.mono (by simp<;>omega))
     have q0:w2.cell? ⟨w.heap.size,0,none⟩=some (.int .i64 0):=(hb2.cell (by first|omega|(simp<;>omega))).trans (by go_simp)
     have f0:w2.frozen? ⟨w.heap.size,0,none⟩=false:=(hb2.frozen (by first|omega|(simp<;>omega))).trans (by go_simp)
     have v0:w2.cell? ⟨w.heap.size+1,0,none⟩=some (.int .i64 (RM.q1u s)):=(hb2.cell (by first|omega|(simp<;>omega))).trans (by first|go_simp|(rw [<-E1.out];go_simp))
     have q1:w2.cell? ⟨w.heap.size,1,none⟩=some (.int .i64 0):=(hb2.cell (by first|omega|(simp<;>omega))).trans (by go_simp)
     have f1:w2.frozen? ⟨w.heap.size,1,none⟩=false:=(hb2.frozen (by first|omega|(simp<;>omega))).trans (by go_simp)
     have v1:w2.cell? ⟨w.heap.size+1,1,none⟩=some (.int .i64 (RM.q0i s 2)):=(hb2.cell (by first|omega|(simp<;>omega))).trans (by first|go_simp|(rw [<-E1.out];go_simp))
     have q2:w2.cell? ⟨w.heap.size,2,none⟩=some (.int .i64 0):=(hb2.cell (by first|omega|(simp<;>omega))).trans (by go_simp)
     have f2:w2.frozen? ⟨w.heap.size,2,none⟩=false:=(hb2.frozen (by first|omega|(simp<;>omega))).trans (by go_simp)
     have v2:w2.cell? ⟨w.heap.size+1,2,none⟩=some (.int .i64 (RM.q0i s 6)):=(hb2.cell (by first|omega|(simp<;>omega))).trans (by first|go_simp|(rw [<-E1.out];go_simp))
     have q3:w2.cell? ⟨w.heap.size,3,none⟩=some (.int .i64 0):=(hb2.cell (by first|omega|(simp<;>omega))).trans (by go_simp)
     have f3:w2.frozen? ⟨w.heap.size,3,none⟩=false:=(hb2.frozen (by first|omega|(simp<;>omega))).trans (by go_simp)
     have v3:w2.cell? ⟨w.heap.size+1,3,none⟩=some (.int .i64 (RM.q0i s 10)):=(hb2.cell (by first|omega|(simp<;>omega))).trans (by first|go_simp|(rw [<-E1.out];go_simp))
     have q4:w2.cell? ⟨w.heap.size,4,none⟩=some (.int .i64 0):=(hb2.cell (by first|omega|(simp<;>omega))).trans (by go_simp)
     have f4:w2.frozen? ⟨w.heap.size,4,none⟩=false:=(hb2.frozen (by first|omega|(simp<;>omega))).trans (by go_simp)
     have v4:w2.cell? ⟨w.heap.size+1,4,none⟩=some (.int .i64 (RM.q0i s 14)):=(hb2.cell (by first|omega|(simp<;>omega))).trans (by first|go_simp|(rw [<-E1.out];go_simp))
     clear hb2
     go_wp2_with fail
     ·have hno:=RM.qfg s (by assumption) (by assumption)
      rw [RM.q3k s hno,decide_eq_false hno]
      refine bodyPost_ret (q1e rfl _ _ w.heap.size 0 0 0 0 0 rfl (by go_simp) (by go_simp) (by go_simp) (by go_simp) (by go_simp)) rfl ?_
      exact ⟨rfl,by repeat' first|(with_reducible exact hB2)|(with_reducible refine Below.setCell ?_ ?_ _)|omega|(simp<;>omega)⟩
     ·have hyes:=RM.q9b s h (by assumption) (by assumption)
      rw [RM.q7i s hyes,decide_eq_true hyes]
      refine bodyPost_ret (q1e rfl _ _ w.heap.size (RM.q1u s) (RM.q0i s 2) (RM.q0i s 6) (RM.q0i s 10) (RM.q0i s 14) rfl (by go_simp) (by go_simp) (by go_simp) (by go_simp) (by go_simp)) rfl ?_
      exact ⟨rfl,by repeat' first|(with_reducible exact hB2)|(with_reducible refine Below.setCell ?_ ?_ _)|omega|(simp<;>omega)⟩
     ·have hmay : ¬ RM.may (RM.q1u s) (RM.q0i s 2) (RM.q0i s 6) (RM.q0i s 10) (RM.q0i s 14):=by assumption
      have hno : ¬ RM.q1m s:=fun x=>hmay x.2.1
      rw [RM.q3k s hno,decide_eq_false hno]
      refine bodyPost_ret (q1e rfl _ _ w.heap.size 0 0 0 0 0 rfl (by go_simp) (by go_simp) (by go_simp) (by go_simp) (by go_simp)) rfl ?_
      exact ⟨rfl,by repeat' first|(with_reducible exact hB2)|(with_reducible refine Below.setCell ?_ ?_ _)|omega|(simp<;>omega)⟩
   ·skip
    go_simp
    refine hK.out _ _ ?_ (fun hHeld=>?_);(· (first|(dsimp only;done)|trivial));clear hK K;(try simp only [Act.put,List.setIfInBounds_toArray,List.set_cons_zero,List.set_cons_succ])
    refine wpAnyH_ready (rs:=[11]) (by kernel_rfl) (by simp) (Lib.q16 rfl (fun K hK=>?_) AllReadyH.nil)
    go_simp;refine (q25 s 10 _ h (by decide)).mono ?_;rintro e w' ⟨rfl,n2,rfl⟩;(try go_wp2_with fail)
    refine hK.out _ _ ?_ (fun hHeld=>?_);(· (first|(dsimp only;done)|trivial));clear hK K;(try simp only [Act.put,List.setIfInBounds_toArray,List.set_cons_zero,List.set_cons_succ])
    refine wpAnyH_ready (rs:=[14]) (by kernel_rfl) (by simp) (Lib.q16 rfl (fun K hK=>?_) AllReadyH.nil)
    go_simp;refine (q25 s 14 _ h (by decide)).mono ?_;rintro e w' ⟨rfl,n3,rfl⟩;(try go_wp2_with fail)
    refine hK.out _ _ ?_ (fun hHeld=>?_);(· (first|(dsimp only;done)|trivial));clear hK K;(try simp only [Act.put,List.setIfInBounds_toArray,List.set_cons_zero,List.set_cons_succ])
    refine Lib.q12 (i:=15) (v:=?_) rfl (by kernel_rfl) (by kernel_rfl) (by kernel_rfl) (fun _ _ _ h=>h) (Or.inl ⟨by rfl,?_⟩) (by assumption) ?_;rotate_left;(· (intro w' hSw;(try dsimp only at hSw);go_simp;(try with_reducible rfl)));(try simp only [Act.put,List.setIfInBounds_toArray,List.set_cons_zero,List.set_cons_succ])
    refine wpAnyH_ready (rs:=[17]) (by kernel_rfl) (by simp) (Lib.q16 rfl (fun K hK=>?_) AllReadyH.nil)
    go_simp
    refine hK.out _ _ ?_ (fun hHeld=>?_);(· (first|(dsimp only;done)|trivial));clear hK K;(try simp only [Act.put,List.setIfInBounds_toArray,List.set_cons_zero,List.set_cons_succ])
    refine wpAnyH_done (by kernel_rfl) ?_ _;refine NoPanic.normal ?_
    go_wp2_with fail
    rw [E1.out]
    refine (qbc _ _ _ _ _ _ hbm).mono ?_;rintro e w2 ⟨rfl,hb2⟩
    have hB2:Below w.heap.size w w2:=Below.trans (by repeat' first|(with_reducible exact Below.refl _ _)|(with_reducible refine Lib.q1t ?_ _)|(with_reducible refine Below.drew ?_)|(with_reducible refine Below.alloc ?_ ?_ _)|(with_reducible refine Below.setCell ?_ ?_ _)|(simp<;>omega)) (hb2.mono (by simp<;>omega))
    have q0:w2.cell? ⟨w.heap.size,0,none⟩=some (.int .i64 0):=(hb2.cell (by first|omega|(simp<;>omega))).trans (by go_simp)
    have f0:w2.frozen? ⟨w.heap.size,0,none⟩=false:=(hb2.frozen (by first|omega|(simp<;>omega))).trans (by go_simp)
    have v0:w2.cell? ⟨w.heap.size+1,0,none⟩=some (.int .i64 (RM.q1u s)):=(hb2.cell (by first|omega|(simp<;>omega))).trans (by first|go_simp|(rw [<-E1.out];go_simp))
    have q1:w2.cell? ⟨w.heap.size,1,none⟩=some (.int .i64 0):=(hb2.cell (by first|omega|(simp<;>omega))).trans (by go_simp)
    have f1:w2.frozen? ⟨w.heap.size,1,none⟩=false:=(hb2.frozen (by first|omega|(simp<;>omega))).trans (by go_simp)
    have v1:w2.cell? ⟨w.heap.size+1,1,none⟩=some (.int .i64 (RM.q0i s 2)):=(hb2.cell (by first|omega|(simp<;>omega))).trans (by first|go_simp|(rw [<-E1.out];go_simp))
    have q2:w2.cell? ⟨w.heap.size,2,none⟩=some (.int .i64 0):=(hb2.cell (by first|omega|(simp<;>omega))).trans (by go_simp)
    have f2:w2.frozen? ⟨w.heap.size,2,none⟩=false:=(hb2.frozen (by first|omega|(simp<;>omega))).trans (by go_simp)
    have v2:w2.cell? ⟨w.heap.size+1,2,none⟩=some (.int .i64 (RM.q0i s 6)):=(hb2.cell (by first|omega|(simp<;>omega))).trans (by first|go_simp|(rw [<-E1.out];go_simp))
    have q3:w2.cell? ⟨w.heap.size,3,none⟩=some (.int .i64 0):=(hb2.cell (by first|omega|(simp<;>omega))).trans (by go_simp)
    have f3:w2.frozen? ⟨w.heap.size,3,none⟩=false:=(hb2.frozen (by first|omega|(simp<;>omega))).trans (by go_simp)
    have v3:w2.cell? ⟨w.heap.size+1,3,none⟩=some (.int .i64 (RM.q0i s 10)):=(hb2.cell (by first|omega|(simp<;>omega))).trans (by first|go_simp|(rw [<-E1.out];go_simp))
    have q4:w2.cell? ⟨w.heap.size,4,none⟩=some (.int .i64 0):=(hb2.cell (by first|omega|(simp<;>omega))).trans (by go_simp)
    have f4:w2.frozen? ⟨w.heap.size,4,none⟩=false:=(hb2.frozen (by first|omega|(simp<;>omega))).trans (by go_simp)
    have v4:w2.cell? ⟨w.heap.size+1,4,none⟩=some (.int .i64 (RM.q0i s 14)):=(hb2.cell (by first|omega|(simp<;>omega))).trans (by first|go_simp|(rw [<-E1.out];go_simp))
    clear hb2
    go_wp2_with fail
    ·have hno:=RM.qfg s (by assumption) (by assumption)
     rw [RM.q3k s hno,decide_eq_false hno]
     refine bodyPost_ret (q1e rfl _ _ w.heap.size 0 0 0 0 0 rfl (by go_simp) (by go_simp) (by go_simp) (by go_simp) (by go_simp)) rfl ?_
     exact ⟨rfl,by repeat' first|(with_reducible exact hB2)|(with_reducible refine Below.setCell ?_ ?_ _)|omega|(simp<;>omega)⟩
    ·have hyes:=RM.q9b s h (by assumption) (by assumption)
     rw [RM.q7i s hyes,decide_eq_true hyes]
     refine bodyPost_ret (q1e rfl _ _ w.heap.size (RM.q1u s) (RM.q0i s 2) (RM.q0i s 6) (RM.q0i s 10) (RM.q0i s 14) rfl (by go_simp) (by go_simp) (by go_simp) (by go_simp) (by go_simp)) rfl ?_
     exact ⟨rfl,by repeat' first|(with_reducible exact hB2)|(with_reducible refine Below.setCell ?_ ?_ _)|omega|(simp<;>omega)⟩
    ·have hmay : ¬ RM.may (RM.q1u s) (RM.q0i s 2) (RM.q0i s 6) (RM.q0i s 10) (RM.q0i s 14):=by assumption
     have hno : ¬ RM.q1m s:=fun x=>hmay x.2.1
     rw [RM.q3k s hno,decide_eq_false hno]
     refine bodyPost_ret (q1e rfl _ _ w.heap.size 0 0 0 0 0 rfl (by go_simp) (by go_simp) (by go_simp) (by go_simp) (by go_simp)) rfl ?_
     exact ⟨rfl,by repeat' first|(with_reducible exact hB2)|(with_reducible refine Below.setCell ?_ ?_ _)|omega|(simp<;>omega)⟩
  ·skip
   go_simp
   refine hK.out _ _ ?_ (fun hHeld=>?_);(· (first|(dsimp only;done)|trivial));clear hK K;(try simp only [Act.put,List.setIfInBounds_toArray,List.set_cons_zero,List.set_cons_succ])
   refine wpAnyH_ready (rs:=[8]) (by kernel_rfl) (by simp) (Lib.q16 rfl (fun K hK=>?_) AllReadyH.nil)
   go_simp;refine (q25 s 6 _ h (by decide)).mono ?_;rintro e w' ⟨rfl,n1,rfl⟩;(try go_wp2_with fail)
   refine hK.out _ _ ?_ (fun hHeld=>?_);(· (first|(dsimp only;done)|trivial));clear hK K;(try simp only [Act.put,List.setIfInBounds_toArray,List.set_cons_zero,List.set_cons_succ])
   refine wpAnyH_ready (rs:=[11]) (by kernel_rfl) (by simp) (Lib.q16 rfl (fun K hK=>?_) AllReadyH.nil)
   go_simp;refine (q25 s 10 _ h (by decide)).mono ?_;rintro e w' ⟨rfl,n2,rfl⟩;(try go_wp2_with fail)
   refine hK.out _ _ ?_ (fun hHeld=>?_);(· (first|(dsimp only;done)|trivial));clear hK K;(try simp only [Act.put,List.setIfInBounds_toArray,List.set_cons_zero,List.set_cons_succ])
   refine wpAnyH_ready (rs:=[14]) (by kernel_rfl) (by simp) (Lib.q16 rfl (fun K hK=>?_) AllReadyH.nil)
   go_simp;refine (q25 s 14 _ h (by decide)).mono ?_;rintro e w' ⟨rfl,n3,rfl⟩;(try go_wp2_with fail)
   refine hK.out _ _ ?_ (fun hHeld=>?_);(· (first|(dsimp only;done)|trivial));clear hK K;(try simp only [Act.put,List.setIfInBounds_toArray,List.set_cons_zero,List.set_cons_succ])
   refine Lib.q12 (i:=15) (v:=?_) rfl (by kernel_rfl) (by kernel_rfl) (by kernel_rfl) (fun _ _ _ h=>h) (Or.inl ⟨by rfl,?_⟩) (by assumption) ?_;rotate_left;(· (intro w' hSw;(try dsimp only at hSw);go_simp;(try with_reducible rfl)));(try simp only [Act.put,List.setIfInBounds_toArray,List.set_cons_zero,List.set_cons_succ])
   refine wpAnyH_ready (rs:=[17]) (by kernel_rfl) (by simp) (Lib.q16 rfl (fun K hK=>?_) AllReadyH.nil)
   go_simp
   refine hK.out _ _ ?_ (fun hHeld=>?_);(· (first|(dsimp only;done)|trivial));clear hK K;(try simp only [Act.put,List.setIfInBounds_toArray,List.set_cons_zero,List.set_cons_succ])
   refine wpAnyH_done (by kernel_rfl) ?_ _;refine NoPanic.normal ?_
   go_wp2_with fail
   rw [E1.out]
   refine (qbc _ _ _ _ _ _ hbm).mono ?_;rintro e w2 ⟨rfl,hb2⟩
   have hB2:Below w.heap.size w w2:=Below.trans (by repeat' first|(with_reducible exact Below.refl _ _)|(with_reducible refine Lib.q1t ?_ _)|(with_reducible refine Below.drew ?_)|(with_reducible refine Below.alloc ?_ ?_ _)|(with_reducible refine Below.setCell ?_ ?_ _)|(simp<;>omega)) (hb2.mono (by simp<;>omega))
   have q0:w2.cell? ⟨w.heap.size,0,none⟩=some (.int .i64 0):=(hb2.cell (by first|omega|(simp<;>omega))).trans (by go_simp)
   have f0:w2.frozen? ⟨w.heap.size,0,none⟩=false:=(hb2.frozen (by first|omega|(simp<;>omega))).trans (by go_simp)
   have v0:w2.cell? ⟨w.heap.size+1,0,none⟩=some (.int .i64 (RM.q1u s)):=(hb2.cell (by first|omega|(simp<;>omega))).trans (by first|go_simp|(rw [<-E1.out];go_simp))
   have q1:w2.cell? ⟨w.heap.size,1,none⟩=some (.int .i64 0):=(hb2.cell (by first|omega|(simp<;>omega))).trans (by go_simp)
   have f1:w2.frozen? ⟨w.heap.size,1,none⟩=false:=(hb2.frozen (by first|omega|(simp<;>omega))).trans (by go_simp)
   have v1:w2.cell? ⟨w.heap.size+1,1,none⟩=some (.int .i64 (RM.q0i s 2)):=(hb2.cell (by first|omega|(simp<;>omega))).trans (by first|go_simp|(rw [<-E1.out];go_simp))
   have q2:w2.cell? ⟨w.heap.size,2,none⟩=some (.int .i64 0):=(hb2.cell (by first|omega|(simp<;>omega))).trans (by go_simp)
   have f2:w2.frozen? ⟨w.heap.size,2,none⟩=false:=(hb2.frozen (by first|omega|(simp<;>omega))).trans (by go_simp)
   have v2:w2.cell? ⟨w.heap.size+1,2,none⟩=some (.int .i64 (RM.q0i s 6)):=(hb2.cell (by first|omega|(simp<;>omega))).trans (by first|go_simp|(rw [<-E1.out];go_simp))
   have q3:w2.cell? ⟨w.heap.size,3,none⟩=some (.int .i64 0):=(hb2.cell (by first|omega|(simp<;>omega))).trans (by go_simp)
   have f3:w2.frozen? ⟨w.heap.size,3,none⟩=false:=(hb2.frozen (by first|omega|(simp<;>omega))).trans (by go_simp)
   have v3:w2.cell? ⟨w.heap.size+1,3,none⟩=some (.int .i64 (RM.q0i s 10)):=(hb2.cell (by first|omega|(simp<;>omega))).trans (by first|go_simp|(rw [<-E1.out];go_simp))
   have q4:w2.cell? ⟨w.heap.size,4,none⟩=some (.int .i64 0):=(hb2.cell (by first|omega|(simp<;>omega))).trans (by go_simp)
   have f4:w2.frozen? ⟨w.heap.size,4,none⟩=false:=(hb2.frozen (by first|omega|(simp<;>omega))).trans (by go_simp)
   have v4:w2.cell? ⟨w.heap.size+1,4,none⟩=some (.int .i64 (RM.q0i s 14)):=(hb2.cell (by first|omega|(simp<;>omega))).trans (by first|go_simp|(rw [<-E1.out];go_simp))
   clear hb2
   go_wp2_with fail
   ·have hno:=RM.qfg s (by assumption) (by assumption)
    rw [RM.q3k s hno,decide_eq_false hno]
    refine bodyPost_ret (q1e rfl _ _ w.heap.size 0 0 0 0 0 rfl (by go_simp) (by go_simp) (by go_simp) (by go_simp) (by go_simp)) rfl ?_
    exact ⟨rfl,by repeat' first|(with_reducible exact hB2)|(with_reducible refine Below.setCell ?_ ?_ _)|omega|(simp<;>omega)⟩
   ·have hyes:=RM.q9b s h (by assumption) (by assumption)
    rw [RM.q7i s hyes,decide_eq_true hyes]
    refine bodyPost_ret (q1e rfl _ _ w.heap.size (RM.q1u s) (RM.q0i s 2) (RM.q0i s 6) (RM.q0i s 10) (RM.q0i s 14) rfl (by go_simp) (by go_simp) (by go_simp) (by go_simp) (by go_simp)) rfl ?_
    exact ⟨rfl,by repeat' first|(with_reducible exact hB2)|(with_reducible refine Below.setCell ?_ ?_ _)|omega|(simp<;>omega)⟩
   ·have hmay : ¬ RM.may (RM.q1u s) (RM.q0i s 2) (RM.q0i s 6) (RM.q0i s 10) (RM.q0i s 14):=by assumption
    have hno : ¬ RM.q1m s:=fun x=>hmay x.2.1
    rw [RM.q3k s hno,decide_eq_false hno]
    refine bodyPost_ret (q1e rfl _ _ w.heap.size 0 0 0 0 0 rfl (by go_simp) (by go_simp) (by go_simp) (by go_simp) (by go_simp)) rfl ?_
    exact ⟨rfl,by repeat' first|(with_reducible exact hB2)|(with_reducible refine Below.setCell ?_ ?_ _)|omega|(simp<;>omega)⟩
 ·skip
  go_simp
  refine hK.out _ _ ?_ (fun hHeld=>?_);(· (first|(dsimp only;done)|trivial));clear hK K;(try simp only [Act.put,List.setIfInBounds_toArray,List.set_cons_zero,List.set_cons_succ])
  refine wpAnyH_ready (rs:=[5]) (by kernel_rfl) (by simp) (Lib.q16 rfl (fun K hK=>?_) AllReadyH.nil)
  go_simp;refine (q25 s 2 _ h (by decide)).mono ?_;rintro e w' ⟨rfl,n0,rfl⟩;(try go_wp2_with fail)
  refine hK.out _ _ ?_ (fun hHeld=>?_);(· (first|(dsimp only;done)|trivial));clear hK K;(try simp only [Act.put,List.setIfInBounds_toArray,List.set_cons_zero,List.set_cons_succ])
  refine wpAnyH_ready (rs:=[8]) (by kernel_rfl) (by simp) (Lib.q16 rfl (fun K hK=>?_) AllReadyH.nil)
  go_simp;refine (q25 s 6 _ h (by decide)).mono ?_;rintro e w' ⟨rfl,n1,rfl⟩;(try go_wp2_with fail)
  refine hK.out _ _ ?_ (fun hHeld=>?_);(· (first|(dsimp only;done)|trivial));clear hK K;(try simp only [Act.put,List.setIfInBounds_toArray,List.set_cons_zero,List.set_cons_succ])
  refine wpAnyH_ready (rs:=[11]) (by kernel_rfl) (by simp) (Lib.q16 rfl (fun K hK=>?_) AllReadyH.nil)
  go_simp;refine (q25 s 10 _ h (by decide)).mono ?_;rintro e w' ⟨rfl,n2,rfl⟩;(try go_wp2_with fail)
  refine hK.out _ _ ?_ (fun hHeld=>?_);(· (first|(dsimp only;done)|trivial));clear hK K;(try simp only [Act.put,List.setIfInBounds_toArray,List.set_cons_zero,List.set_cons_succ])
  refine wpAnyH_ready (rs:=[14]) (by kernel_rfl) (by simp) (Lib.q16 rfl (fun K hK=>?_) AllReadyH.nil)
  go_simp;refine (q25 s 14 _ h (by decide)).mono ?_;rintro e w' ⟨rfl,n3,rfl⟩;(try go_wp2_with fail)
  refine hK.out _ _ ?_ (fun hHeld=>?_);(· (first|(dsimp only;done)|trivial));clear hK K;(try simp only [Act.put,List.setIfInBounds_toArray,List.set_cons_zero,List.set_cons_succ])
  refine Lib.q12 (i:=15) (v:=?_) rfl (by kernel_rfl) (by kernel_rfl) (by kernel_rfl) (fun _ _ _ h=>h) (Or.inl ⟨by rfl,?_⟩) (by assumption) ?_;rotate_left;(· (intro w' hSw;(try dsimp only at hSw);go_simp;(try with_reducible rfl)));(try simp only [Act.put,List.setIfInBounds_toArray,List.set_cons_zero,List.set_cons_succ])
  refine wpAnyH_ready (rs:=[17]) (by kernel_rfl) (by simp) (Lib.q16 rfl (fun K hK=>?_) AllReadyH.nil)
  go_simp
  refine hK.out _ _ ?_ (fun hHeld=>?_);(· (first|(dsimp only;done)|trivial));clear hK K;(try simp only [Act.put,List.setIfInBounds_toArray,List.set_cons_zero,List.set_cons_succ])
  refine wpAnyH_done (by kernel_rfl) ?_ _;refine NoPanic.normal ?_
  go_wp2_with fail
  rw [E1.out]
  refine (qbc _ _ _ _ _ _ hbm).mono ?_;rintro e w2 ⟨rfl,hb2⟩
  have hB2:Below w.heap.size w w2:=Below.trans (by repeat' first|(with_reducible exact Below.refl _ _)|(with_reducible refine Lib.q1t ?_ _)|(with_reducible refine Below.drew ?_)|(with_reducible refine Below.alloc ?_ ?_ _)|(with_reducible refine Below.setCell ?_ ?_ _)|(simp<;>omega)) (hb2.mono (by simp<;>omega))
  have q0:w2.cell? ⟨w.heap.size,0,none⟩=some (.int .i64 0):=(hb2.cell (by first|omega|(simp<;>omega))).trans (by go_simp)
  have f0:w2.frozen? ⟨w.heap.size,0,none⟩=false:=(hb2.frozen (by first|omega|(simp<;>omega))).trans (by go_simp)
  have v0:w2.cell? ⟨w.heap.size+1,0,none⟩=some (.int .i64 (RM.q1u s)):=(hb2.cell (by first|omega|(simp<;>omega))).trans (by first|go_simp|(rw [<-E1.out];go_simp))
  have q1:w2.cell? ⟨w.heap.size,1,none⟩=some (.int .i64 0):=(hb2.cell (by first|omega|(simp<;>omega))).trans (by go_simp)
  have f1:w2.frozen? ⟨w.heap.size,1,none⟩=false:=(hb2.frozen (by first|omega|(simp<;>omega))).trans (by go_simp)
  have v1:w2.cell? ⟨w.heap.size+1,1,none⟩=some (.int .i64 (RM.q0i s 2)):=(hb2.cell (by first|omega|(simp<;>omega))).trans (by first|go_simp|(rw [<-E1.out];go_simp))
  have q2:w2.cell? ⟨w.heap.size,2,none⟩=some (.int .i64 0):=(hb2.cell (by first|omega|(simp<;>omega))).trans (by go_simp)
  have f2:w2.frozen? ⟨w.heap.size,2,none⟩=false:=(hb2.frozen (by first|omega|(simp<;>omega))).trans (by go_simp)
  have v2:w2.cell? ⟨w.heap.size+1,2,none⟩=some (.int .i64 (RM.q0i s 6)):=(hb2.cell (by first|omega|(simp<;>omega))).trans (by first|go_simp|(rw [<-E1.out];go_simp))
  have q3:w2.cell? ⟨w.heap.size,3,none⟩=some (.int .i64 0):=(hb2.cell (by first|omega|(simp<;>omega))).trans (by go_simp)
  have f3:w2.frozen? ⟨w.heap.size,3,none⟩=false:=(hb2.frozen (by first|omega|(simp<;>omega))).trans (by go_simp)
  have v3:w2.cell? ⟨w.heap.size+1,3,none⟩=some (.int .i64 (RM.q0i s 10)):=(hb2.cell (by first|omega|(simp<;>omega))).trans (by first|go_simp|(rw [<-E1.out];go_simp))
  have q4:w2.cell? ⟨w.heap.size,4,none⟩=some (.int .i64 0):=(hb2.cell (by first|omega|(simp<;>omega))).trans (by go_simp)
  have f4:w2.frozen? ⟨w.heap.size,4,none⟩=false:=(hb2.frozen (by first|omega|(simp<;>omega))).trans (by go_simp)
  have v4:w2.cell? ⟨w.heap.size+1,4,none⟩=some (.int .i64 (RM.q0i s 14)):=(hb2.cell (by first|omega|(simp<;>omega))).trans (by first|go_simp|(rw [<-E1.out];go_simp))
  clear hb2
  go_wp2_with fail
  ·have hno:=RM.qfg s (by assumption) (by assumption)
   rw [RM.q3k s hno,decide_eq_false hno]
   refine bodyPost_ret (q1e rfl _ _ w.heap.size 0 0 0 0 0 rfl (by go_simp) (by go_simp) (by go_simp) (by go_simp) (by go_simp)) rfl ?_
   exact ⟨rfl,by repeat' first|(with_reducible exact hB2)|(with_reducible refine Below.setCell ?_ ?_ _)|omega|(simp<;>omega)⟩
  ·have hyes:=RM.q9b s h (by assumption) (by assumption)
   rw [RM.q7i s hyes,decide_eq_true hyes]
   refine bodyPost_ret (q1e rfl _ _ w.heap.size (RM.q1u s) (RM.q0i s 2) (RM.q0i s 6) (RM.q0i s 10) (RM.q0i s 14) rfl (by go_simp) (by go_simp) (by go_simp) (by go_simp) (by go_simp)) rfl ?_
   exact ⟨rfl,by repeat' first|(with_reducible exact hB2)|(with_reducible refine Below.setCell ?_ ?_ _)|omega|(simp<;>omega)⟩
  ·have hmay : ¬ RM.may (RM.q1u s) (RM.q0i s 2) (RM.q0i s 6) (RM.q0i s 10) (RM.q0i s 14):=by assumption
   have hno : ¬ RM.q1m s:=fun x=>hmay x.2.1
   rw [RM.q3k s hno,decide_eq_false hno]
   refine bodyPost_ret (q1e rfl _ _ w.heap.size 0 0 0 0 0 rfl (by go_simp) (by go_simp) (by go_simp) (by go_simp) (by go_simp)) rfl ?_
   exact ⟨rfl,by repeat' first|(with_reducible exact hB2)|(with_reducible refine Below.setCell ?_ ?_ _)|omega|(simp<;>omega)⟩
theorem jni (s:ByteArray) (w:World) (h:s.size≠32) :
  Calls Tryz.prog 119 #[.string s] w fun e w'=>e = .returned (.tuple #[RM.qx1 s,.bool (decide (RM.q1m s))])/\Below w.heap.size w w':=by
 have hno : ¬ RM.q1m s:=fun x=>h x.1
 rw [RM.q3k s hno,decide_eq_false hno]
 have hz : ¬ (s.size:Int)=32:=by omega
 clear hno
 go_enter Tryz.func119,Tryz.ntmps119
 go_wp2
 refine bodyPost_ret (q1e rfl _ _ w.heap.size 0 0 0 0 0 rfl (by go_simp) (by go_simp) (by go_simp) (by go_simp) (by go_simp)) rfl ?_
 exact ⟨rfl,by repeat' first|(with_reducible exact Below.refl _ _)|(with_reducible refine Below.alloc ?_ ?_ _)|(with_reducible refine Below.setCell ?_ ?_ _)|omega|(simp<;>omega)⟩
theorem jj0 (s:ByteArray) (w:World) :
  Calls Tryz.prog 119 #[.string s] w fun e w'=>e = .returned (.tuple #[RM.qx1 s,.bool (decide (RM.q1m s))])/\Below w.heap.size w w':=by
 by_cases h:s.size=32
 ·exact jqh s w h
 ·exact jni s w h
end RecW
end Go.Proofs.YthpgnliicpejoaaGreatDoor
