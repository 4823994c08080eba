
import Derived.Test.YthpgnliicpejoaaGreatDoorVt10
import Derived.Test.YthpgnliicpejoaaGreatDoorVt9
namespace Go.Proofs.YthpgnliicpejoaaGreatDoor
open Go.RowKit
set_option linter.unusedVariables false
theorem DM.OD.caps {w:World} {base:Nat} {T1 T2:TypeId} {a1 a2:Option Addr} {n k1 m k2:Nat} {d:DM.Dk} (h:DM.OD w base T1 T2 (.slice a1 n k1) (.slice a2 m k2) d):n<=k1/\k1<=maxLen/\m<=k2/\k2<=maxLen:=by
 have f : ∀{e:TypeId} {size:Nat} {a:Option Addr} {n k j:Nat} {xs:List Value},w.ownsRow base e size (.slice a n k) j xs->n<=k/\k<=maxLen:=by
  intro e size a n k j xs hx
  rcases hx.2 with ⟨h1,h2⟩|⟨g,cap,cur,h1,h2,h3,h4,h5,h6⟩
  ·simp only [Value.slice.injEq] at h1
   exact ⟨by omega,by rw [h1.2.2];exact Nat.zero_le _⟩
  ·simp only [Value.slice.injEq] at h1
   exact ⟨by omega,by rw [h1.2.2];exact h5⟩
 exact ⟨(f h.secs).1,(f h.secs).2,(f h.cache).1,(f h.cache).2⟩
namespace DiskW
end DiskW
end Go.Proofs.YthpgnliicpejoaaGreatDoor
namespace Go.Proofs.YthpgnliicpejoaaGreatDoor.AM
open Go.RowKit
set_option linter.unusedVariables false
variable {G:World->Prop}
theorem jhx {f:FuncId} {ds:List D} {x:Bool} (h : ∀(Pc:Nat->Nat->Prop) w vs,(∀b o,Pc b o->b<w.heap.size)->q1a (q1z (q1y Pc) q2d w) vs.toList ds->Calls Tryz.prog f vs w fun e w'=>e = .returned (.bool x)/\Below w.heap.size w w'):q15 Tryz.prog G f ds (q21 (.bool x)) :=
 fun Pc w vs _ hlt hv=>(h Pc w vs hlt hv).mono fun e w' ⟨he,hb⟩=>⟨_,Pc,he,hb,fun _ _ h=>h,fun _ _ h=>Or.inl h,q0o _⟩
theorem max_eq:maxLen=9223372036854775807:=by decide
theorem jk0 (d:DM.Dk):q15 Tryz.prog G 8 [.one (dk1 d)] (q21 (.bool (decide (DM.qhq d)))):=jhx fun Pc w vs hlt hv=>by
 obtain ⟨v,rfl,h⟩:=jnr hv
 obtain ⟨a1,k1,a2,k2,rfl,hd,b1,b2⟩:=jnh hlt h
 have:=max_eq
 exact DiskW.jhr _ _ _ _ _ _ d w hd (by omega) (by omega)
theorem jse (d:DM.Dk):q15 Tryz.prog G 54 [.one (dk1 d)] (q21 (.bool (decide (DM.q2y d)))):=jhx fun Pc w vs hlt hv=>by
 obtain ⟨v,rfl,h⟩:=jnr hv
 obtain ⟨a1,k1,a2,k2,rfl,hd,b1,b2⟩:=jnh hlt h
 have:=max_eq
 exact DiskW.qcb _ _ d w hd (by omega) (by omega)
theorem dk_of {Pc:Nat->Nat->Prop} {w:World} {base n k1 m k2:Nat} {a1 a2:Option Addr} {d:DM.Dk} (h:DM.DV w (.slice a1 n k1) (.slice a2 m k2) d) (c1:n<=k1) (c2:k1<=maxLen) (c3:m<=k2) (c4:k2<=maxLen)
  (hP : ∀g o,base<=g->g<w.heap.size->Pc g o) (ho : ∀k,DM.j9z (.slice a1 n k1) (.slice a2 m k2) k->base<=k):qaw (q1y Pc) q2d w (.agg #[.slice a1 n k1,.slice a2 m k2]) (dk1 d) :=
 ⟨_,rfl,jcs h.1 c1 c2 (fun g hg o hlt=>hP g o (ho g (Or.inl hg)) hlt),jt1 h.2 c3 c4 (fun g hg o hlt=>hP g o (ho g (Or.inr hg)) hlt),trivial⟩
end Go.Proofs.YthpgnliicpejoaaGreatDoor.AM
namespace Go.Proofs.YthpgnliicpejoaaGreatDoor.AM
open Go.RowKit
set_option linter.unusedSimpArgs false
set_option linter.unusedVariables false
theorem jfn (l:List DM.Wr) (i:Int) (s:ByteArray):qoy l ++ [[.v (.int .i64 i),.v (.string s)]]=qoy (l ++ [(i,s)]):=by simp [qoy]
set_option maxHeartbeats 1600000 in
theorem jqt {G:World->Prop} (hG:qt8 G) (d:DM.Dk) (i:Int) (s:ByteArray) (b1:d.secs.length<=1000000) (b2:d.cache.length<=1000000) (hs:s.size<=1000):q15 Tryz.prog G 61 [.one (dk1 d),q21 (.int .i64 i),q21 (.string s)] (qpx (DM.jaj d i s) (DM.jfs d i s)):=by
 unfold qpx
 unfold dk1
 refine q2w Tryz.func61 rfl (by simp [Tryz.ntmps61]) hG ?_;intro F hF hFG Q hQ;rw [Tryz.ntmps61] at hF;rw [Tryz.results61] at hQ
 repeat (first|((first|refine q00 (by rw [hF];kernel_rfl) ?_|refine q03 (by rw [hF];kernel_rfl) ?_);(repeat (refine q0b fun K1 hK1=>?_;simp only [push_cast,Nat.reduceEqDiff,Nat.reduceAdd,Nat.reduceLeDiff,Nat.reduceLT];(try simp (disch:=omega) only [wrap64,q0m]);(first|refine hK1 _ ?_|refine ⟨by omega,hK1 _ ?_⟩);clear hK1 K1));refine q0g ?_)|refine q0e ?_|refine q08 ?_|refine q0d ?_|refine q0c ?_|refine q0f ?_|refine q02 ?_|refine q07 ?_|refine q09 ?_|refine q01 ?_|refine q0a ?_|refine q06 ?_|refine q04 rfl ?_)
 (first|(refine q00 (by rw [hF];kernel_rfl) ?_)|(refine q03 (by rw [hF];kernel_rfl) ?_));(repeat (refine q0b fun K1 hK1=>?_;simp only [push_cast,Nat.reduceEqDiff,Nat.reduceAdd,Nat.reduceLeDiff];(try simp (disch:=omega) only [wrap64,q0m]);(first|refine hK1 _ ?_|refine ⟨by omega,hK1 _ ?_⟩);clear hK1 K1))
 refine q2i (by simp only [push_cast]) rfl (by simp only [push_cast]) (by kernel_rfl) (by simp only [push_cast,Nat.reduceEqDiff,dk1]) (qbu F.gst d b1 b2) ?_
 by_cases c0:DM.q2y d
 ·have e0:decide (DM.q2y d)=true:=decide_eq_true c0
  by_cases c1:i<0
  ·(repeat (refine q0b fun K1 hK1=>?_;simp only [push_cast,Nat.reduceEqDiff,reduceCtorEq,decide_true,e0,c1];(try simp (disch:=omega) only [wrap64,q0m]);(first|refine hK1 _ ?_|refine ⟨by omega,hK1 _ ?_⟩);clear hK1 K1));refine q0g ?_
   repeat (first|((first|refine q00 (by rw [hF];kernel_rfl) ?_|refine q03 (by rw [hF];kernel_rfl) ?_);(repeat (refine q0b fun K1 hK1=>?_;simp only [push_cast,Nat.reduceEqDiff,reduceCtorEq,Nat.reduceAdd,Nat.reduceMul,Nat.reduceSub,Nat.reduceLeDiff,Nat.reduceLT,Nat.reduceBEq,Nat.reducePow,Int.reduceEq,Int.reduceLT,Int.reduceLE,Int.reduceNeg,Int.reduceAdd,Int.reduceToNat,reduceIte,decide_true,decide_false];(try simp (disch:=omega) only [wrap64,q0m]);(first|refine hK1 _ ?_|refine ⟨by omega,hK1 _ ?_⟩);clear hK1 K1));refine q0g ?_)|refine q0e ?_|refine q08 ?_|refine q0d ?_|refine q0c ?_|refine q0f ?_|refine q02 ?_|refine q07 ?_|refine q09 ?_|refine q01 ?_|refine q0a ?_|refine q06 ?_|refine q04 rfl ?_)
   refine q0q (by simp only [push_cast,Nat.reduceEqDiff]) ?_
   repeat (first|((first|refine q00 (by rw [hF];kernel_rfl) ?_|refine q03 (by rw [hF];kernel_rfl) ?_);(repeat (refine q0b fun K1 hK1=>?_;simp only [push_cast,Nat.reduceEqDiff,Nat.reduceAdd,Nat.reduceLeDiff];(try simp (disch:=omega) only [wrap64,q0m]);(first|refine hK1 _ ?_|refine ⟨by omega,hK1 _ ?_⟩);clear hK1 K1));refine q0g ?_)|refine q0e ?_|refine q08 ?_|refine q0d ?_|refine q0c ?_|refine q0f ?_|refine q02 ?_|refine q07 ?_|refine q09 ?_|refine q01 ?_|refine q0a ?_|refine q06 ?_|refine q04 rfl ?_)
   refine (hQ _ ?_).2
   have h1 : ¬ DM.inD d.secs.length i:=fun h=>by have:=h.1;omega
   simp only [DM.jaj,DM.jfs,DM.qqj,DM.q8q,c0,h1,if_true,if_false]
   simp only [push_cast,Nat.reduceEqDiff,Nat.reduceAdd,Nat.reduceLeDiff,Int.reduceEq]
  ·by_cases c2:(d.secs.length:Int)<=i
   ·(repeat (refine q0b fun K1 hK1=>?_;simp only [push_cast,Nat.reduceEqDiff,reduceCtorEq,decide_true,decide_false,e0,c1,c2];(try simp (disch:=omega) only [wrap64,q0m]);(first|refine hK1 _ ?_|refine ⟨by omega,hK1 _ ?_⟩);clear hK1 K1));refine q0g ?_
    repeat (first|((first|refine q00 (by rw [hF];kernel_rfl) ?_|refine q03 (by rw [hF];kernel_rfl) ?_);(repeat (refine q0b fun K1 hK1=>?_;simp only [push_cast,Nat.reduceEqDiff,reduceCtorEq,Nat.reduceAdd,Nat.reduceMul,Nat.reduceSub,Nat.reduceLeDiff,Nat.reduceLT,Nat.reduceBEq,Nat.reducePow,Int.reduceEq,Int.reduceLT,Int.reduceLE,Int.reduceNeg,Int.reduceAdd,Int.reduceToNat,reduceIte,decide_true,decide_false];(try simp (disch:=omega) only [wrap64,q0m]);(first|refine hK1 _ ?_|refine ⟨by omega,hK1 _ ?_⟩);clear hK1 K1));refine q0g ?_)|refine q0e ?_|refine q08 ?_|refine q0d ?_|refine q0c ?_|refine q0f ?_|refine q02 ?_|refine q07 ?_|refine q09 ?_|refine q01 ?_|refine q0a ?_|refine q06 ?_|refine q04 rfl ?_)
    refine q0q (by simp only [push_cast,Nat.reduceEqDiff]) ?_
    repeat (first|((first|refine q00 (by rw [hF];kernel_rfl) ?_|refine q03 (by rw [hF];kernel_rfl) ?_);(repeat (refine q0b fun K1 hK1=>?_;simp only [push_cast,Nat.reduceEqDiff,Nat.reduceAdd,Nat.reduceLeDiff];(try simp (disch:=omega) only [wrap64,q0m]);(first|refine hK1 _ ?_|refine ⟨by omega,hK1 _ ?_⟩);clear hK1 K1));refine q0g ?_)|refine q0e ?_|refine q08 ?_|refine q0d ?_|refine q0c ?_|refine q0f ?_|refine q02 ?_|refine q07 ?_|refine q09 ?_|refine q01 ?_|refine q0a ?_|refine q06 ?_|refine q04 rfl ?_)
    refine (hQ _ ?_).2
    have h1 : ¬ DM.inD d.secs.length i:=fun h=>by have:=h.2;omega
    simp only [DM.jaj,DM.jfs,DM.qqj,DM.q8q,c0,h1,if_true,if_false]
    simp only [push_cast,Nat.reduceEqDiff,Nat.reduceAdd,Nat.reduceLeDiff,Int.reduceEq]
   ·(repeat (refine q0b fun K1 hK1=>?_;simp only [push_cast,Nat.reduceEqDiff,reduceCtorEq,decide_false,e0,c1,c2];(try simp (disch:=omega) only [wrap64,q0m]);(first|refine hK1 _ ?_|refine ⟨by omega,hK1 _ ?_⟩);clear hK1 K1));refine q0g ?_
    repeat (first|((first|refine q00 (by rw [hF];kernel_rfl) ?_|refine q03 (by rw [hF];kernel_rfl) ?_);(repeat (refine q0b fun K1 hK1=>?_;simp only [push_cast,Nat.reduceEqDiff,reduceCtorEq,Nat.reduceAdd,Nat.reduceMul,Nat.reduceSub,Nat.reduceLeDiff,Nat.reduceLT,Nat.reduceBEq,Nat.reducePow,Int.reduceEq,Int.reduceLT,Int.reduceLE,Int.reduceNeg,Int.reduceAdd,Int.reduceToNat,reduceIte,decide_true,decide_false];(try simp (disch:=omega) only [wrap64,q0m]);(first|refine hK1 _ ?_|refine ⟨by omega,hK1 _ ?_⟩);clear hK1 K1));refine q0g ?_)|refine q0e ?_|refine q08 ?_|refine q0d ?_|refine q0c ?_|refine q0f ?_|refine q02 ?_|refine q07 ?_|refine q09 ?_|refine q01 ?_|refine q0a ?_|refine q06 ?_|refine q04 rfl ?_)
    refine q0s (by simp only [push_cast,Nat.reduceEqDiff]) ?_
    have h1:DM.inD d.secs.length i:=⟨by omega,by omega⟩
    by_cases c3:(32:Int)<(s.size:Int)
    ·repeat (first|((first|refine q00 (by rw [hF];kernel_rfl) ?_|refine q03 (by rw [hF];kernel_rfl) ?_);(repeat (refine q0b fun K1 hK1=>?_;simp only [push_cast,Nat.reduceEqDiff,decide_true,c3];(try simp (disch:=omega) only [wrap64,q0m]);(first|refine hK1 _ ?_|refine ⟨by omega,hK1 _ ?_⟩);clear hK1 K1));refine q0g ?_)|refine q0e ?_|refine q08 ?_|refine q0d ?_|refine q0c ?_|refine q0f ?_|refine q02 ?_|refine q07 ?_|refine q09 ?_|refine q01 ?_|refine q0a ?_|refine q06 ?_|refine q04 rfl ?_)
     refine q0q (by simp only [push_cast,Nat.reduceEqDiff]) ?_
     repeat (first|((first|refine q00 (by rw [hF];kernel_rfl) ?_|refine q03 (by rw [hF];kernel_rfl) ?_);(repeat (refine q0b fun K1 hK1=>?_;simp only [push_cast,Nat.reduceEqDiff,Nat.reduceAdd,Nat.reduceLeDiff];(try simp (disch:=omega) only [wrap64,q0m]);(first|refine hK1 _ ?_|refine ⟨by omega,hK1 _ ?_⟩);clear hK1 K1));refine q0g ?_)|refine q0e ?_|refine q08 ?_|refine q0d ?_|refine q0c ?_|refine q0f ?_|refine q02 ?_|refine q07 ?_|refine q09 ?_|refine q01 ?_|refine q0a ?_|refine q06 ?_|refine q04 rfl ?_)
     refine (hQ _ ?_).2
     have h2:32<s.size:=by omega
     simp only [DM.jaj,DM.jfs,DM.qqj,DM.q8q,c0,h1,h2,if_true]
     simp only [push_cast,Nat.reduceEqDiff,Nat.reduceAdd,Nat.reduceLeDiff,Int.reduceEq]
    ·repeat (first|((first|refine q00 (by rw [hF];kernel_rfl) ?_|refine q03 (by rw [hF];kernel_rfl) ?_);(repeat (refine q0b fun K1 hK1=>?_;simp only [push_cast,Nat.reduceEqDiff,decide_false,c3];(try simp (disch:=omega) only [wrap64,q0m]);(first|refine hK1 _ ?_|refine ⟨by omega,hK1 _ ?_⟩);clear hK1 K1));refine q0g ?_)|refine q0e ?_|refine q08 ?_|refine q0d ?_|refine q0c ?_|refine q0f ?_|refine q02 ?_|refine q07 ?_|refine q09 ?_|refine q01 ?_|refine q0a ?_|refine q06 ?_|refine q04 rfl ?_)
     refine q0s (by simp only [push_cast,Nat.reduceEqDiff]) ?_
     repeat (first|((first|refine q00 (by rw [hF];kernel_rfl) ?_|refine q03 (by rw [hF];kernel_rfl) ?_);(repeat (refine q0b fun K1 hK1=>?_;simp only [push_cast,Nat.reduceEqDiff,Nat.reduceAdd,Nat.reduceLT,Nat.reducePow];(try simp (disch:=omega) only [wrap64,q0m]);(first|refine hK1 _ ?_|refine ⟨by omega,hK1 _ ?_⟩);clear hK1 K1));refine q0g ?_)|refine q0e ?_|refine q08 ?_|refine q0d ?_|refine q0c ?_|refine q0f ?_|refine q02 ?_|refine q07 ?_|refine q09 ?_|refine q01 ?_|refine q0a ?_|refine q06 ?_|refine q04 rfl ?_)
     (first|(refine q00 (by rw [hF];kernel_rfl) ?_)|(refine q03 (by rw [hF];kernel_rfl) ?_));(repeat (refine q0b fun K1 hK1=>?_;simp only [push_cast,Nat.reduceEqDiff];(try simp (disch:=omega) only [wrap64,q0m]);(first|refine hK1 _ ?_|refine ⟨by omega,hK1 _ ?_⟩);clear hK1 K1))
     refine q2i (by simp only [push_cast]) rfl (by simp only [push_cast]) (by kernel_rfl) (by simp only [push_cast,Nat.reduceEqDiff]) (j3t F.gst s hs) ?_
     (repeat (refine q0b fun K1 hK1=>?_;simp only [push_cast,Nat.reduceEqDiff,Nat.reduceAdd,Nat.reduceLeDiff,Nat.reduceLT,Nat.reducePow];(try simp (disch:=omega) only [wrap64,q0m]);(first|refine hK1 _ ?_|refine ⟨by omega,hK1 _ ?_⟩);clear hK1 K1));refine q0g ?_
     repeat (first|((first|refine q00 (by rw [hF];kernel_rfl) ?_|refine q03 (by rw [hF];kernel_rfl) ?_);(repeat (refine q0b fun K1 hK1=>?_;simp only [push_cast,Nat.reduceEqDiff,Nat.reduceAdd,Nat.reduceLeDiff];(try simp (disch:=omega) only [wrap64,q0m]);(first|refine hK1 _ ?_|refine ⟨by omega,hK1 _ ?_⟩);clear hK1 K1));refine q0g ?_)|refine q0e ?_|refine q08 ?_|refine q0d ?_|refine q0c ?_|refine q0f ?_|refine q02 ?_|refine q07 ?_|refine q09 ?_|refine q01 ?_|refine q0a ?_|refine q06 ?_|refine q04 rfl ?_)
     refine (hQ _ ?_).2
     have h2 : ¬ 32<s.size:=by omega
     simp only [DM.jaj,DM.jfs,DM.qqj,DM.q8q,c0,h1,h2,if_true,if_false,DM.jrc,<-jfn]
     simp only [push_cast,Nat.reduceEqDiff,Nat.reduceAdd,Nat.reduceLeDiff]
 ·have e0:decide (DM.q2y d)=false:=decide_eq_false c0
  (repeat (refine q0b fun K1 hK1=>?_;simp only [push_cast,Nat.reduceEqDiff,e0];(try simp (disch:=omega) only [wrap64,q0m]);(first|refine hK1 _ ?_|refine ⟨by omega,hK1 _ ?_⟩);clear hK1 K1));refine q0g ?_
  repeat (first|((first|refine q00 (by rw [hF];kernel_rfl) ?_|refine q03 (by rw [hF];kernel_rfl) ?_);(repeat (refine q0b fun K1 hK1=>?_;simp only [push_cast,Nat.reduceEqDiff,reduceCtorEq,Nat.reduceAdd,Nat.reduceMul,Nat.reduceSub,Nat.reduceLeDiff,Nat.reduceLT,Nat.reduceBEq,Nat.reducePow,Int.reduceEq,Int.reduceLT,Int.reduceLE,Int.reduceNeg,Int.reduceAdd,Int.reduceToNat,reduceIte,decide_true,decide_false];(try simp (disch:=omega) only [wrap64,q0m]);(first|refine hK1 _ ?_|refine ⟨by omega,hK1 _ ?_⟩);clear hK1 K1));refine q0g ?_)|refine q0e ?_|refine q08 ?_|refine q0d ?_|refine q0c ?_|refine q0f ?_|refine q02 ?_|refine q07 ?_|refine q09 ?_|refine q01 ?_|refine q0a ?_|refine q06 ?_|refine q04 rfl ?_)
  refine q0q (by simp only [push_cast,Nat.reduceEqDiff]) ?_
  repeat (first|((first|refine q00 (by rw [hF];kernel_rfl) ?_|refine q03 (by rw [hF];kernel_rfl) ?_);(repeat (refine q0b fun K1 hK1=>?_;simp only [push_cast,Nat.reduceEqDiff,Nat.reduceAdd,Nat.reduceLeDiff];(try simp (disch:=omega) only [wrap64,q0m]);(first|refine hK1 _ ?_|refine ⟨by omega,hK1 _ ?_⟩);clear hK1 K1));refine q0g ?_)|refine q0e ?_|refine q08 ?_|refine q0d ?_|refine q0c ?_|refine q0f ?_|refine q02 ?_|refine q07 ?_|refine q09 ?_|refine q01 ?_|refine q0a ?_|refine q06 ?_|refine q04 rfl ?_)
  refine (hQ _ ?_).2
  simp only [DM.jaj,DM.jfs,c0,if_false]
  simp only [push_cast,Nat.reduceEqDiff,Nat.reduceAdd,Nat.reduceLeDiff]
set_option maxHeartbeats 1600000 in
theorem jpi {G:World->Prop} (hG:qt8 G) (d:DM.Dk) (i:Int) (b1:d.secs.length<=1000000) (b2:d.cache.length<=1000000):q15 Tryz.prog G 126 [.one (dk1 d),q21 (.int .i64 i)] (.tup [.c (qd8 (.string (DM.jai d i))),.c (qd8 (.int .i64 (DM.jja d i)))]):=by
 unfold dk1
 refine q2w Tryz.func126 rfl (by simp [Tryz.ntmps126]) hG ?_;intro F hF hFG Q hQ;rw [Tryz.ntmps126] at hF;rw [Tryz.results126] at hQ
 repeat (first|((first|refine q00 (by rw [hF];kernel_rfl) ?_|refine q03 (by rw [hF];kernel_rfl) ?_);(repeat (refine q0b fun K1 hK1=>?_;simp only [push_cast,Nat.reduceEqDiff,Nat.reduceAdd,Nat.reduceLeDiff,Nat.reduceLT];(try simp (disch:=omega) only [wrap64,q0m]);(first|refine hK1 _ ?_|refine ⟨by omega,hK1 _ ?_⟩);clear hK1 K1));refine q0g ?_)|refine q0e ?_|refine q08 ?_|refine q0d ?_|refine q0c ?_|refine q0f ?_|refine q02 ?_|refine q07 ?_|refine q09 ?_|refine q01 ?_|refine q0a ?_|refine q06 ?_|refine q04 rfl ?_)
 (first|(refine q00 (by rw [hF];kernel_rfl) ?_)|(refine q03 (by rw [hF];kernel_rfl) ?_));(repeat (refine q0b fun K1 hK1=>?_;simp only [push_cast,Nat.reduceEqDiff,Nat.reduceAdd,Nat.reduceLeDiff];(try simp (disch:=omega) only [wrap64,q0m]);(first|refine hK1 _ ?_|refine ⟨by omega,hK1 _ ?_⟩);clear hK1 K1))
 refine q2i (by simp only [push_cast]) rfl (by simp only [push_cast]) (by kernel_rfl) (by simp only [push_cast,Nat.reduceEqDiff,dk1]) (qbu F.gst d b1 b2) ?_
 by_cases c0:DM.q2y d
 ·have e0:decide (DM.q2y d)=true:=decide_eq_true c0
  by_cases c1:i<0
  ·(repeat (refine q0b fun K1 hK1=>?_;simp only [push_cast,Nat.reduceEqDiff,reduceCtorEq,decide_true,e0,c1];(try simp (disch:=omega) only [wrap64,q0m]);(first|refine hK1 _ ?_|refine ⟨by omega,hK1 _ ?_⟩);clear hK1 K1));refine q0g ?_
   repeat (first|((first|refine q00 (by rw [hF];kernel_rfl) ?_|refine q03 (by rw [hF];kernel_rfl) ?_);(repeat (refine q0b fun K1 hK1=>?_;simp only [push_cast,Nat.reduceEqDiff,reduceCtorEq,Nat.reduceAdd,Nat.reduceMul,Nat.reduceSub,Nat.reduceLeDiff,Nat.reduceLT,Nat.reduceBEq,Nat.reducePow,Int.reduceEq,Int.reduceLT,Int.reduceLE,Int.reduceNeg,Int.reduceAdd,Int.reduceToNat,reduceIte,decide_true,decide_false];(try simp (disch:=omega) only [wrap64,q0m]);(first|refine hK1 _ ?_|refine ⟨by omega,hK1 _ ?_⟩);clear hK1 K1));refine q0g ?_)|refine q0e ?_|refine q08 ?_|refine q0d ?_|refine q0c ?_|refine q0f ?_|refine q02 ?_|refine q07 ?_|refine q09 ?_|refine q01 ?_|refine q0a ?_|refine q06 ?_|refine q04 rfl ?_)
   refine q0q (by simp only [push_cast,Nat.reduceEqDiff]) ?_
   repeat (first|((first|refine q00 (by rw [hF];kernel_rfl) ?_|refine q03 (by rw [hF];kernel_rfl) ?_);(repeat (refine q0b fun K1 hK1=>?_;simp only [push_cast];(try simp (disch:=omega) only [wrap64,q0m]);(first|refine hK1 _ ?_|refine ⟨by omega,hK1 _ ?_⟩);clear hK1 K1));refine q0g ?_)|refine q0e ?_|refine q08 ?_|refine q0d ?_|refine q0c ?_|refine q0f ?_|refine q02 ?_|refine q07 ?_|refine q09 ?_|refine q01 ?_|refine q0a ?_|refine q06 ?_|refine q04 rfl ?_)
   refine (hQ _ ?_).2
   have h1 : ¬ DM.qx0 d i:=fun h=>by have:=h.2.1;omega
   simp only [DM.jai,DM.jja,h1,if_false]
   simp only [push_cast,Nat.reduceEqDiff]
  ·by_cases c2:(d.secs.length:Int)<=i
   ·(repeat (refine q0b fun K1 hK1=>?_;simp only [push_cast,Nat.reduceEqDiff,reduceCtorEq,decide_true,decide_false,e0,c1,c2];(try simp (disch:=omega) only [wrap64,q0m]);(first|refine hK1 _ ?_|refine ⟨by omega,hK1 _ ?_⟩);clear hK1 K1));refine q0g ?_
    repeat (first|((first|refine q00 (by rw [hF];kernel_rfl) ?_|refine q03 (by rw [hF];kernel_rfl) ?_);(repeat (refine q0b fun K1 hK1=>?_;simp only [push_cast,Nat.reduceEqDiff,reduceCtorEq,Nat.reduceAdd,Nat.reduceMul,Nat.reduceSub,Nat.reduceLeDiff,Nat.reduceLT,Nat.reduceBEq,Nat.reducePow,Int.reduceEq,Int.reduceLT,Int.reduceLE,Int.reduceNeg,Int.reduceAdd,Int.reduceToNat,reduceIte,decide_true,decide_false];(try simp (disch:=omega) only [wrap64,q0m]);(first|refine hK1 _ ?_|refine ⟨by omega,hK1 _ ?_⟩);clear hK1 K1));refine q0g ?_)|refine q0e ?_|refine q08 ?_|refine q0d ?_|refine q0c ?_|refine q0f ?_|refine q02 ?_|refine q07 ?_|refine q09 ?_|refine q01 ?_|refine q0a ?_|refine q06 ?_|refine q04 rfl ?_)
    refine q0q (by simp only [push_cast,Nat.reduceEqDiff]) ?_
    repeat (first|((first|refine q00 (by rw [hF];kernel_rfl) ?_|refine q03 (by rw [hF];kernel_rfl) ?_);(repeat (refine q0b fun K1 hK1=>?_;simp only [push_cast];(try simp (disch:=omega) only [wrap64,q0m]);(first|refine hK1 _ ?_|refine ⟨by omega,hK1 _ ?_⟩);clear hK1 K1));refine q0g ?_)|refine q0e ?_|refine q08 ?_|refine q0d ?_|refine q0c ?_|refine q0f ?_|refine q02 ?_|refine q07 ?_|refine q09 ?_|refine q01 ?_|refine q0a ?_|refine q06 ?_|refine q04 rfl ?_)
    refine (hQ _ ?_).2
    have h1 : ¬ DM.qx0 d i:=fun h=>by have:=h.2.2;omega
    simp only [DM.jai,DM.jja,h1,if_false]
    simp only [push_cast,Nat.reduceEqDiff]
   ·(repeat (refine q0b fun K1 hK1=>?_;simp only [push_cast,Nat.reduceEqDiff,reduceCtorEq,decide_false,e0,c1,c2];(try simp (disch:=omega) only [wrap64,q0m]);(first|refine hK1 _ ?_|refine ⟨by omega,hK1 _ ?_⟩);clear hK1 K1));refine q0g ?_
    repeat (first|((first|refine q00 (by rw [hF];kernel_rfl) ?_|refine q03 (by rw [hF];kernel_rfl) ?_);(repeat (refine q0b fun K1 hK1=>?_;simp only [push_cast,Nat.reduceEqDiff,reduceCtorEq,Nat.reduceAdd,Nat.reduceMul,Nat.reduceSub,Nat.reduceLeDiff,Nat.reduceLT,Nat.reduceBEq,Nat.reducePow,Int.reduceEq,Int.reduceLT,Int.reduceLE,Int.reduceNeg,Int.reduceAdd,Int.reduceToNat,reduceIte,decide_true,decide_false];(try simp (disch:=omega) only [wrap64,q0m]);(first|refine hK1 _ ?_|refine ⟨by omega,hK1 _ ?_⟩);clear hK1 K1));refine q0g ?_)|refine q0e ?_|refine q08 ?_|refine q0d ?_|refine q0c ?_|refine q0f ?_|refine q02 ?_|refine q07 ?_|refine q09 ?_|refine q01 ?_|refine q0a ?_|refine q06 ?_|refine q04 rfl ?_)
    refine q0s (by simp only [push_cast,Nat.reduceEqDiff]) ?_
    have h1:DM.qx0 d i:=⟨c0,by omega,by omega⟩
    obtain ⟨p,rfl⟩ : ∃ p:Nat,i=(p:Int):=⟨i.toNat,by omega⟩
    have hp:p<d.secs.length:=by omega
    have hg:=qrz hp
    repeat (first|((first|refine q00 (by rw [hF];kernel_rfl) ?_|refine q03 (by rw [hF];kernel_rfl) ?_);(repeat (refine q0b fun K1 hK1=>?_;simp only [push_cast,Nat.reduceEqDiff,hg];(try simp (disch:=omega) only [wrap64,q0m]);(first|refine hK1 _ ?_|refine ⟨by omega,hK1 _ ?_⟩);clear hK1 K1));refine q0g ?_)|refine q0e ?_|refine q08 ?_|refine q0d ?_|refine q0c ?_|refine q0f ?_|refine q02 ?_|refine q07 ?_|refine q09 ?_|refine q01 ?_|refine q0a ?_|refine q06 ?_|refine q04 rfl ?_)
    have hB:DM.jai d (p:Int)=DM.q9z d.secs[p] d.cache (p:Int):=by
     unfold DM.jai;rw [if_pos h1];simp [List.getD,hp]
    have hE:DM.jja d (p:Int)=0:=if_pos h1
    refine q3e (fun n σ=>∃ k:Nat,k<=d.cache.length/\n=d.cache.length - k/\σ=St.of [(2,.one (.c (.box 2 0))),(1,q21 (.int .i64 p)),(7,q21 (.int .i64 k)),(6,q21 (.string (DM.q9z d.secs[p] (d.cache.take k) (p:Int))))] [(2,(25,dkC d))] []) d.cache.length (St.of [(2,.one (.c (.box 2 0))),(1,q21 (.int .i64 p)),(7,q21 (.int .i64 0)),(6,q21 (.string d.secs[p]))] [(2,(25,dkC d))] []) ⟨0,Nat.zero_le _,by simp,by simp [DM.q9z]⟩ (by (refine Le.of ?_ ?_ ?_<;>simp only [List.not_mem_nil,false_implies,implies_true,and_true,push_cast,Nat.reduceEqDiff,reduceCtorEq])) ?_
    rintro n σ ⟨k,hk,rfl,rfl⟩
    by_cases hkn:(k:Int)<(d.cache.length:Int)
    ·have hkd:k<d.cache.length:=by omega
     have hg:=qs7 hkd
     have htk:DM.q9z d.secs[p] (d.cache.take (k+1)) (p:Int)=if d.cache[k].1=(p:Int) then d.cache[k].2 else DM.q9z d.secs[p] (d.cache.take k) (p:Int):=by
      unfold DM.q9z;rw [<-List.take_append_getElem hkd,List.foldl_append];rfl
     repeat (first|((first|refine q00 (by rw [hF];kernel_rfl) ?_|refine q03 (by rw [hF];kernel_rfl) ?_);(repeat (refine q0b fun K1 hK1=>?_;simp only [push_cast,Nat.reduceEqDiff,Nat.reduceBEq,decide_true,hkn];(try simp (disch:=omega) only [wrap64,q0m]);(first|refine hK1 _ ?_|refine ⟨by omega,hK1 _ ?_⟩);clear hK1 K1));refine q0g ?_)|refine q0e ?_|refine q08 ?_|refine q0d ?_|refine q0c ?_|refine q0f ?_|refine q02 ?_|refine q07 ?_|refine q09 ?_|refine q01 ?_|refine q0a ?_|refine q06 ?_|refine q04 rfl ?_)
     refine q0q (by simp only [push_cast,Nat.reduceEqDiff,Nat.reduceBEq]) ?_
     by_cases c:d.cache[k].1=(p:Int)
     ·rw [if_pos c] at htk
      repeat (first|((first|refine q00 (by rw [hF];kernel_rfl) ?_|refine q03 (by rw [hF];kernel_rfl) ?_);(repeat (refine q0b fun K1 hK1=>?_;simp only [push_cast,Nat.reduceEqDiff,Nat.reduceAdd,Nat.reduceBEq,decide_true,hg,c];(try simp (disch:=omega) only [wrap64,q0m]);(first|refine hK1 _ ?_|refine ⟨by omega,hK1 _ ?_⟩);clear hK1 K1));refine q0g ?_)|refine q0e ?_|refine q08 ?_|refine q0d ?_|refine q0c ?_|refine q0f ?_|refine q02 ?_|refine q07 ?_|refine q09 ?_|refine q01 ?_|refine q0a ?_|refine q06 ?_|refine q04 rfl ?_)
      refine q0q (by simp only [push_cast,Nat.reduceEqDiff,Nat.reduceBEq]) ?_
      repeat (first|((first|refine q00 (by rw [hF];kernel_rfl) ?_|refine q03 (by rw [hF];kernel_rfl) ?_);(repeat (refine q0b fun K1 hK1=>?_;simp only [push_cast,Nat.reduceEqDiff,Nat.reduceAdd,Nat.reduceLeDiff,Nat.reduceBEq,hg,c];(try simp (disch:=omega) only [wrap64]);(first|refine hK1 _ ?_|refine ⟨by omega,hK1 _ ?_⟩);clear hK1 K1));refine q0g ?_)|refine q0e ?_|refine q08 ?_|refine q0d ?_|refine q0c ?_|refine q0f ?_|refine q02 ?_|refine q07 ?_|refine q09 ?_|refine q01 ?_|refine q0a ?_|refine q06 ?_|refine q04 rfl ?_)
      refine ⟨_,_,?_,⟨k+1,hkd,rfl,rfl⟩,by (refine Le.of ?_ ?_ ?_<;>simp only [List.not_mem_nil,false_implies,implies_true,and_true,push_cast,Nat.reduceEqDiff,reduceCtorEq,Nat.reduceBEq,htk])⟩
      omega
     ·rw [if_neg c] at htk
      repeat (first|((first|refine q00 (by rw [hF];kernel_rfl) ?_|refine q03 (by rw [hF];kernel_rfl) ?_);(repeat (refine q0b fun K1 hK1=>?_;simp only [push_cast,Nat.reduceEqDiff,Nat.reduceAdd,Nat.reduceBEq,decide_false,hg,c];(try simp (disch:=omega) only [wrap64,q0m]);(first|refine hK1 _ ?_|refine ⟨by omega,hK1 _ ?_⟩);clear hK1 K1));refine q0g ?_)|refine q0e ?_|refine q08 ?_|refine q0d ?_|refine q0c ?_|refine q0f ?_|refine q02 ?_|refine q07 ?_|refine q09 ?_|refine q01 ?_|refine q0a ?_|refine q06 ?_|refine q04 rfl ?_)
      refine q0s (by simp only [push_cast,Nat.reduceEqDiff,Nat.reduceBEq]) ?_
      repeat (first|((first|refine q00 (by rw [hF];kernel_rfl) ?_|refine q03 (by rw [hF];kernel_rfl) ?_);(repeat (refine q0b fun K1 hK1=>?_;simp only [push_cast,Nat.reduceEqDiff,Nat.reduceBEq];(try simp (disch:=omega) only [wrap64]);(first|refine hK1 _ ?_|refine ⟨by omega,hK1 _ ?_⟩);clear hK1 K1));refine q0g ?_)|refine q0e ?_|refine q08 ?_|refine q0d ?_|refine q0c ?_|refine q0f ?_|refine q02 ?_|refine q07 ?_|refine q09 ?_|refine q01 ?_|refine q0a ?_|refine q06 ?_|refine q04 rfl ?_)
      refine ⟨_,_,?_,⟨k+1,hkd,rfl,rfl⟩,by (refine Le.of ?_ ?_ ?_<;>simp only [List.not_mem_nil,false_implies,implies_true,and_true,push_cast,Nat.reduceEqDiff,reduceCtorEq,Nat.reduceBEq,htk])⟩
      omega
    ·have htk:d.cache.take k=d.cache:=List.take_of_length_le (by omega)
     repeat (first|((first|refine q00 (by rw [hF];kernel_rfl) ?_|refine q03 (by rw [hF];kernel_rfl) ?_);(repeat (refine q0b fun K1 hK1=>?_;simp only [push_cast,Nat.reduceEqDiff,Nat.reduceBEq,decide_false,hkn];(try simp (disch:=omega) only [wrap64,q0m]);(first|refine hK1 _ ?_|refine ⟨by omega,hK1 _ ?_⟩);clear hK1 K1));refine q0g ?_)|refine q0e ?_|refine q08 ?_|refine q0d ?_|refine q0c ?_|refine q0f ?_|refine q02 ?_|refine q07 ?_|refine q09 ?_|refine q01 ?_|refine q0a ?_|refine q06 ?_|refine q04 rfl ?_)
     refine q0s (by simp only [push_cast,Nat.reduceEqDiff,Nat.reduceBEq]) ?_
     repeat (first|((first|refine q00 (by rw [hF];kernel_rfl) ?_|refine q03 (by rw [hF];kernel_rfl) ?_);(repeat (refine q0b fun K1 hK1=>?_;simp only [push_cast,Nat.reduceEqDiff,Nat.reduceBEq];(try simp (disch:=omega) only [wrap64,q0m]);(first|refine hK1 _ ?_|refine ⟨by omega,hK1 _ ?_⟩);clear hK1 K1));refine q0g ?_)|refine q0e ?_|refine q08 ?_|refine q0d ?_|refine q0c ?_|refine q0f ?_|refine q02 ?_|refine q07 ?_|refine q09 ?_|refine q01 ?_|refine q0a ?_|refine q06 ?_|refine q04 rfl ?_)
     refine (hQ _ ?_).2
     simp only [push_cast,Nat.reduceEqDiff,Nat.reduceBEq,hB,hE,htk]
 ·have e0:decide (DM.q2y d)=false:=decide_eq_false c0
  (repeat (refine q0b fun K1 hK1=>?_;simp only [push_cast,Nat.reduceEqDiff,e0];(try simp (disch:=omega) only [wrap64,q0m]);(first|refine hK1 _ ?_|refine ⟨by omega,hK1 _ ?_⟩);clear hK1 K1));refine q0g ?_
  repeat (first|((first|refine q00 (by rw [hF];kernel_rfl) ?_|refine q03 (by rw [hF];kernel_rfl) ?_);(repeat (refine q0b fun K1 hK1=>?_;simp only [push_cast,Nat.reduceEqDiff,reduceCtorEq,Nat.reduceAdd,Nat.reduceMul,Nat.reduceSub,Nat.reduceLeDiff,Nat.reduceLT,Nat.reduceBEq,Nat.reducePow,Int.reduceEq,Int.reduceLT,Int.reduceLE,Int.reduceNeg,Int.reduceAdd,Int.reduceToNat,reduceIte,decide_true,decide_false];(try simp (disch:=omega) only [wrap64,q0m]);(first|refine hK1 _ ?_|refine ⟨by omega,hK1 _ ?_⟩);clear hK1 K1));refine q0g ?_)|refine q0e ?_|refine q08 ?_|refine q0d ?_|refine q0c ?_|refine q0f ?_|refine q02 ?_|refine q07 ?_|refine q09 ?_|refine q01 ?_|refine q0a ?_|refine q06 ?_|refine q04 rfl ?_)
  refine q0q (by simp only [push_cast,Nat.reduceEqDiff]) ?_
  repeat (first|((first|refine q00 (by rw [hF];kernel_rfl) ?_|refine q03 (by rw [hF];kernel_rfl) ?_);(repeat (refine q0b fun K1 hK1=>?_;simp only [push_cast];(try simp (disch:=omega) only [wrap64,q0m]);(first|refine hK1 _ ?_|refine ⟨by omega,hK1 _ ?_⟩);clear hK1 K1));refine q0g ?_)|refine q0e ?_|refine q08 ?_|refine q0d ?_|refine q0c ?_|refine q0f ?_|refine q02 ?_|refine q07 ?_|refine q09 ?_|refine q01 ?_|refine q0a ?_|refine q06 ?_|refine q04 rfl ?_)
  refine (hQ _ ?_).2
  have h1 : ¬ DM.qx0 d i:=fun h=>c0 h.1
  simp only [DM.jai,DM.jja,h1,if_false]
  simp only [push_cast,Nat.reduceEqDiff]
end Go.Proofs.YthpgnliicpejoaaGreatDoor.AM
namespace Go.Proofs.YthpgnliicpejoaaGreatDoor.AM
open Go.RowKit
set_option linter.unusedSimpArgs false
set_option linter.unusedVariables false
theorem jiz {L:List ByteArray} {p:Nat} {s:ByteArray} (h:p<L.length):(qd9 L).set p (Dat.v (Value.string s)::List.drop 1 ((qd9 L).getD p []))=qd9 (L.set p s):=by
 rw [qrz h];simp [qd9,List.map_set]
theorem q7f {Pc:Nat->Nat->Prop} {w:World} {v:Value} (sz:Nat) (h:DatRep Pc w v (.v (.slice none 0 0))):DatRep Pc w v (.lst sz []):=by
 cases h
 exact .lst none 0 0 sz [] 0 0 (fun _ _=>undef) rfl (Nat.le_refl _) (Nat.zero_le _) (fun x hx=>by cases hx) (fun h=>by simp at h) (fun k j hk=>by simp at hk) (fun k j hk=>by simp at hk)
theorem q15.weak {P:Program} {G:World->Prop} {f:FuncId} {ds:List D} {d d':D} (h:q15 P G f ds d) (hd : ∀Pc w v,q1z (q1y Pc) q2d w v d->q1z (q1y Pc) q2d w v d'):q15 P G f ds d' :=
 fun Pc w vs hg hlt hv=>(h Pc w vs hg hlt hv).mono fun e w' ⟨v,Pc',h1,h2,h3,h4,h5⟩=>⟨v,Pc',h1,h2,h3,h4,hd _ _ _ h5⟩
abbrev rawD (l:List ByteArray):D:=.tup [.agg [.d (.lst 1 (qd9 l)),.d (.v (.slice none 0 0))],.c (qd8 (.int .i64 0))]
theorem jnx {Pc:Nat->Nat->Prop} {w:World} {v:Value} {l:List ByteArray} (h:q1z (q1y Pc) q2d w v (rawD l)):q1z (q1y Pc) q2d w v (qpx ⟨l,[]⟩ 0):=by
 obtain ⟨vs,rfl,h⟩:=h
 obtain ⟨L⟩:=vs
 match L,h with
 | [x,y],⟨⟨us,e,h1⟩,h2,_⟩ =>
  obtain ⟨M⟩:=us
  match M,e,h1 with
  | [a,b],e,⟨g1,g2,_⟩=>exact ⟨_,rfl,⟨_,e,g1,q7f 2 g2,trivial⟩,h2,trivial⟩
set_option maxHeartbeats 1600000 in
theorem je8 {G:World->Prop} (hG:qt8 G) (d:DM.Dk) (keep:List Bool) (b1:d.secs.length<=1000000) (b2:d.cache.length<=1000000) (hm : ¬ DM.q2y d):q15 Tryz.prog G 32 [.one (dk1 d),jb2 1 (j07 keep)] (qpx d 1):=by
 have e0:decide (DM.q2y d)=false:=decide_eq_false hm
 unfold qpx
 unfold dk1
 refine q2w Tryz.func32 rfl (by simp [Tryz.ntmps32]) hG ?_;intro F hF hFG Q hQ;rw [Tryz.ntmps32] at hF;rw [Tryz.results32] at hQ
 repeat (first|((first|refine q00 (by rw [hF];kernel_rfl) ?_|refine q03 (by rw [hF];kernel_rfl) ?_);(repeat (refine q0b fun K1 hK1=>?_;simp only [push_cast,Nat.reduceEqDiff,Nat.reduceAdd,Nat.reduceLeDiff,Nat.reduceLT];(try simp (disch:=omega) only [wrap64,q0m]);(first|refine hK1 _ ?_|refine ⟨by omega,hK1 _ ?_⟩);clear hK1 K1));refine q0g ?_)|refine q0e ?_|refine q08 ?_|refine q0d ?_|refine q0c ?_|refine q0f ?_|refine q02 ?_|refine q07 ?_|refine q09 ?_|refine q01 ?_|refine q0a ?_|refine q06 ?_|refine q04 rfl ?_)
 (first|(refine q00 (by rw [hF];kernel_rfl) ?_)|(refine q03 (by rw [hF];kernel_rfl) ?_));(repeat (refine q0b fun K1 hK1=>?_;simp only [push_cast,Nat.reduceEqDiff,Nat.reduceAdd,Nat.reduceLeDiff];(try simp (disch:=omega) only [wrap64,q0m]);(first|refine hK1 _ ?_|refine ⟨by omega,hK1 _ ?_⟩);clear hK1 K1))
 refine q2i (by simp only [push_cast]) rfl (by simp only [push_cast]) (by kernel_rfl) (by simp only [push_cast,Nat.reduceEqDiff,dk1]) (qbu F.gst d b1 b2) ?_
 (repeat (refine q0b fun K1 hK1=>?_;simp only [push_cast,Nat.reduceEqDiff,e0];(try simp (disch:=omega) only [wrap64,q0m]);(first|refine hK1 _ ?_|refine ⟨by omega,hK1 _ ?_⟩);clear hK1 K1));refine q0g ?_
 repeat (first|((first|refine q00 (by rw [hF];kernel_rfl) ?_|refine q03 (by rw [hF];kernel_rfl) ?_);(repeat (refine q0b fun K1 hK1=>?_;simp only [push_cast,Nat.reduceEqDiff,reduceCtorEq,Nat.reduceAdd,Nat.reduceMul,Nat.reduceSub,Nat.reduceLeDiff,Nat.reduceLT,Nat.reduceBEq,Nat.reducePow,Int.reduceEq,Int.reduceLT,Int.reduceLE,Int.reduceNeg,Int.reduceAdd,Int.reduceToNat,reduceIte,decide_true,decide_false];(try simp (disch:=omega) only [wrap64,q0m]);(first|refine hK1 _ ?_|refine ⟨by omega,hK1 _ ?_⟩);clear hK1 K1));refine q0g ?_)|refine q0e ?_|refine q08 ?_|refine q0d ?_|refine q0c ?_|refine q0f ?_|refine q02 ?_|refine q07 ?_|refine q09 ?_|refine q01 ?_|refine q0a ?_|refine q06 ?_|refine q04 rfl ?_)
 refine q0q (by simp only [push_cast,Nat.reduceEqDiff]) ?_
 repeat (first|((first|refine q00 (by rw [hF];kernel_rfl) ?_|refine q03 (by rw [hF];kernel_rfl) ?_);(repeat (refine q0b fun K1 hK1=>?_;simp only [push_cast,Nat.reduceEqDiff,Nat.reduceAdd,Nat.reduceLeDiff];(try simp (disch:=omega) only [wrap64,q0m]);(first|refine hK1 _ ?_|refine ⟨by omega,hK1 _ ?_⟩);clear hK1 K1));refine q0g ?_)|refine q0e ?_|refine q08 ?_|refine q0d ?_|refine q0c ?_|refine q0f ?_|refine q02 ?_|refine q07 ?_|refine q09 ?_|refine q01 ?_|refine q0a ?_|refine q06 ?_|refine q04 rfl ?_)
 refine (hQ _ ?_).2
 simp only [push_cast,Nat.reduceEqDiff,Nat.reduceAdd,Nat.reduceLeDiff]
set_option maxHeartbeats 3200000 in
theorem j8e {G:World->Prop} (hG:qt8 G) (d:DM.Dk) (keep:List Bool) (b1:d.secs.length<=1000000) (b2:d.cache.length<=1000000) (b3:keep.length<=1000000) (hm:DM.q2y d):q15 Tryz.prog G 32 [.one (dk1 d),jb2 1 (j07 keep)] (rawD (DM.q19 (fun j=>keep.getD j false) d.secs d.cache d.cache.length)):=by
 have e0:decide (DM.q2y d)=true:=decide_eq_true hm
 unfold rawD
 unfold dk1
 refine q2w Tryz.func32 rfl (by simp [Tryz.ntmps32]) hG ?_;intro F hF hFG Q hQ;rw [Tryz.ntmps32] at hF;rw [Tryz.results32] at hQ
 repeat (first|((first|refine q00 (by rw [hF];kernel_rfl) ?_|refine q03 (by rw [hF];kernel_rfl) ?_);(repeat (refine q0b fun K1 hK1=>?_;simp only [push_cast,Nat.reduceEqDiff,Nat.reduceAdd,Nat.reduceLeDiff,Nat.reduceLT];(try simp (disch:=omega) only [wrap64,q0m]);(first|refine hK1 _ ?_|refine ⟨by omega,hK1 _ ?_⟩);clear hK1 K1));refine q0g ?_)|refine q0e ?_|refine q08 ?_|refine q0d ?_|refine q0c ?_|refine q0f ?_|refine q02 ?_|refine q07 ?_|refine q09 ?_|refine q01 ?_|refine q0a ?_|refine q06 ?_|refine q04 rfl ?_)
 (first|(refine q00 (by rw [hF];kernel_rfl) ?_)|(refine q03 (by rw [hF];kernel_rfl) ?_));(repeat (refine q0b fun K1 hK1=>?_;simp only [push_cast,Nat.reduceEqDiff,Nat.reduceAdd,Nat.reduceLeDiff];(try simp (disch:=omega) only [wrap64,q0m]);(first|refine hK1 _ ?_|refine ⟨by omega,hK1 _ ?_⟩);clear hK1 K1))
 refine q2i (by simp only [push_cast]) rfl (by simp only [push_cast]) (by kernel_rfl) (by simp only [push_cast,Nat.reduceEqDiff,dk1]) (qbu F.gst d b1 b2) ?_
 (repeat (refine q0b fun K1 hK1=>?_;simp only [push_cast,Nat.reduceEqDiff,e0];(try simp (disch:=omega) only [wrap64,q0m]);(first|refine hK1 _ ?_|refine ⟨by omega,hK1 _ ?_⟩);clear hK1 K1));refine q0g ?_
 repeat (first|((first|refine q00 (by rw [hF];kernel_rfl) ?_|refine q03 (by rw [hF];kernel_rfl) ?_);(repeat (refine q0b fun K1 hK1=>?_;simp only [push_cast,Nat.reduceEqDiff,reduceCtorEq,Nat.reduceAdd,Nat.reduceMul,Nat.reduceSub,Nat.reduceLeDiff,Nat.reduceLT,Nat.reduceBEq,Nat.reducePow,Int.reduceEq,Int.reduceLT,Int.reduceLE,Int.reduceNeg,Int.reduceAdd,Int.reduceToNat,reduceIte,decide_true,decide_false];(try simp (disch:=omega) only [wrap64,q0m]);(first|refine hK1 _ ?_|refine ⟨by omega,hK1 _ ?_⟩);clear hK1 K1));refine q0g ?_)|refine q0e ?_|refine q08 ?_|refine q0d ?_|refine q0c ?_|refine q0f ?_|refine q02 ?_|refine q07 ?_|refine q09 ?_|refine q01 ?_|refine q0a ?_|refine q06 ?_|refine q04 rfl ?_)
 refine q0s (by simp only [push_cast,Nat.reduceEqDiff]) ?_
 repeat (first|((first|refine q00 (by rw [hF];kernel_rfl) ?_|refine q03 (by rw [hF];kernel_rfl) ?_);(repeat (refine q0b fun K1 hK1=>?_;simp only [push_cast,Nat.reduceEqDiff,Nat.reduceLT,Nat.reducePow];(try simp (disch:=omega) only [wrap64,q0m]);(first|refine hK1 _ ?_|refine ⟨by omega,hK1 _ ?_⟩);clear hK1 K1));refine q0g ?_)|refine q0e ?_|refine q08 ?_|refine q0d ?_|refine q0c ?_|refine q0f ?_|refine q02 ?_|refine q07 ?_|refine q09 ?_|refine q01 ?_|refine q0a ?_|refine q06 ?_|refine q04 rfl ?_)
 refine q3e (fun n σ=>∃ k:Nat,k<=d.cache.length/\n=d.cache.length - k/\σ=St.of [(1,jb2 1 (j07 keep)),(2,.one (.c (.box 2 0))),(4,.one (.c (.box 4 0))),(6,.one (.c (.row 12 1))),(7,q21 (.int .i64 k))] [(2,(25,dkC d)),(4,(25,[.d (.v (.slice none 0 0)),.d (.v (.slice none 0 0))]))] [(12,{ gen:=1,E:=9,sz:=1,wr:=true,xs:=qd9 (DM.q19 (fun j=>keep.getD j false) d.secs d.cache k) })])
  d.cache.length (St.of [(1,jb2 1 (j07 keep)),(2,.one (.c (.box 2 0))),(4,.one (.c (.box 4 0))),(6,.one (.c (.row 12 1))),(7,q21 (.int .i64 0))] [(2,(25,dkC d)),(4,(25,[.d (.v (.slice none 0 0)),.d (.v (.slice none 0 0))]))] [(12,{ gen:=1,E:=9,sz:=1,wr:=true,xs:=qd9 d.secs })]) ⟨0,Nat.zero_le _,by simp,rfl⟩ (by (refine Le.of ?_ ?_ ?_<;>simp only [List.not_mem_nil,false_implies,implies_true,and_true,push_cast,Nat.reduceEqDiff,Nat.reduceBEq,exists_eq_left',Nat.le_refl])) ?_
 rintro n σ ⟨k,hk,rfl,rfl⟩
 by_cases hkn:(k:Int)<(d.cache.length:Int)
 ·have hkd:k<d.cache.length:=by omega
  have hg:=qs7 hkd
  have hw:=hm.2.2.2 _ (List.getElem_mem hkd)
  have hgd:d.cache.getD k (0,⟨#[]⟩)=d.cache[k]:=by simp [List.getD,hkd]
  obtain ⟨⟨at',s⟩,ha⟩ : ∃ a:DM.Wr,d.cache[k]=a:=⟨_,rfl⟩
  rw [ha] at hg hw hgd
  obtain ⟨hw0,hw1,hw2⟩:=hw
  obtain ⟨p,rfl⟩ : ∃ p:Nat,at'=(p:Int):=⟨at'.toNat,by omega⟩
  have hp:p<(DM.q19 (fun j=>keep.getD j false) d.secs d.cache k).length:=by rw [DM.q1w];omega
  obtain ⟨L,hL⟩ : ∃ L,DM.q19 (fun j=>keep.getD j false) d.secs d.cache k=L:=⟨_,rfl⟩
  have hpl:p<L.length:=by rw [<-hL];exact hp
  have hs1:keep.getD k false=true->DM.q19 (fun j=>keep.getD j false) d.secs d.cache (k+1)=L.set p s:=fun h=>by
   unfold DM.q19;rw [if_pos h,hgd,hL];rfl
  have hs0:keep.getD k false=false->DM.q19 (fun j=>keep.getD j false) d.secs d.cache (k+1)=L:=fun h=>by
   unfold DM.q19;rw [if_neg (by rw [h];decide),hL]
  rw [hL]
  repeat (first|((first|refine q00 (by rw [hF];kernel_rfl) ?_|refine q03 (by rw [hF];kernel_rfl) ?_);(repeat (refine q0b fun K1 hK1=>?_;simp only [push_cast,Nat.reduceEqDiff,Nat.reduceBEq,decide_true,hkn];(try simp (disch:=omega) only [wrap64,q0m]);(first|refine hK1 _ ?_|refine ⟨by omega,hK1 _ ?_⟩);clear hK1 K1));refine q0g ?_)|refine q0e ?_|refine q08 ?_|refine q0d ?_|refine q0c ?_|refine q0f ?_|refine q02 ?_|refine q07 ?_|refine q09 ?_|refine q01 ?_|refine q0a ?_|refine q06 ?_|refine q04 rfl ?_)
  refine q0q (by simp only [push_cast,Nat.reduceEqDiff,Nat.reduceBEq]) ?_
  repeat (first|((first|refine q00 (by rw [hF];kernel_rfl) ?_|refine q03 (by rw [hF];kernel_rfl) ?_);(repeat (refine q0b fun K1 hK1=>?_;simp only [push_cast,Nat.reduceEqDiff,Nat.reduceBEq];(try simp (disch:=omega) only [wrap64,q0m]);(first|refine hK1 _ ?_|refine ⟨by omega,hK1 _ ?_⟩);clear hK1 K1));refine q0g ?_)|refine q0e ?_|refine q08 ?_|refine q0d ?_|refine q0c ?_|refine q0f ?_|refine q02 ?_|refine q07 ?_|refine q09 ?_|refine q01 ?_|refine q0a ?_|refine q06 ?_|refine q04 rfl ?_)
  by_cases ck:(k:Int)<(keep.length:Int)
  ·have hkk:k<keep.length:=by omega
   have hb:=jj4 hkk
   have hkg:keep.getD k false=keep[k]:=by simp [List.getD,hkk]
   obtain ⟨b,hbk⟩ : ∃ b,keep[k]=b:=⟨_,rfl⟩
   rw [hbk] at hb hkg
   cases b
   ·repeat (first|((first|refine q00 (by rw [hF];kernel_rfl) ?_|refine q03 (by rw [hF];kernel_rfl) ?_);(repeat (refine q0b fun K1 hK1=>?_;simp only [push_cast,Nat.reduceEqDiff,Nat.reduceBEq,decide_true,ck,hb];(try simp (disch:=omega) only [wrap64,q0m]);(first|refine hK1 _ ?_|refine ⟨by omega,hK1 _ ?_⟩);clear hK1 K1));refine q0g ?_)|refine q0e ?_|refine q08 ?_|refine q0d ?_|refine q0c ?_|refine q0f ?_|refine q02 ?_|refine q07 ?_|refine q09 ?_|refine q01 ?_|refine q0a ?_|refine q06 ?_|refine q04 rfl ?_)
    refine q0s (by simp only [push_cast,Nat.reduceEqDiff,Nat.reduceBEq]) ?_
    repeat (first|((first|refine q00 (by rw [hF];kernel_rfl) ?_|refine q03 (by rw [hF];kernel_rfl) ?_);(repeat (refine q0b fun K1 hK1=>?_;simp only [push_cast,Nat.reduceEqDiff,Nat.reduceBEq];(try simp (disch:=omega) only [wrap64]);(first|refine hK1 _ ?_|refine ⟨by omega,hK1 _ ?_⟩);clear hK1 K1));refine q0g ?_)|refine q0e ?_|refine q08 ?_|refine q0d ?_|refine q0c ?_|refine q0f ?_|refine q02 ?_|refine q07 ?_|refine q09 ?_|refine q01 ?_|refine q0a ?_|refine q06 ?_|refine q04 rfl ?_)
    refine ⟨_,_,?_,⟨k+1,hkd,rfl,rfl⟩,by rw [hs0 hkg];(refine Le.of ?_ ?_ ?_<;>simp only [List.not_mem_nil,false_implies,implies_true,and_true,push_cast,Nat.reduceEqDiff,Nat.reduceBEq,exists_eq_left',Nat.le_refl])⟩
    omega
   ·repeat (first|((first|refine q00 (by rw [hF];kernel_rfl) ?_|refine q03 (by rw [hF];kernel_rfl) ?_);(repeat (refine q0b fun K1 hK1=>?_;simp only [push_cast,Nat.reduceEqDiff,Nat.reduceBEq,decide_true,ck,hb];(try simp (disch:=omega) only [wrap64,q0m]);(first|refine hK1 _ ?_|refine ⟨by omega,hK1 _ ?_⟩);clear hK1 K1));refine q0g ?_)|refine q0e ?_|refine q08 ?_|refine q0d ?_|refine q0c ?_|refine q0f ?_|refine q02 ?_|refine q07 ?_|refine q09 ?_|refine q01 ?_|refine q0a ?_|refine q06 ?_|refine q04 rfl ?_)
    refine q0q (by simp only [push_cast,Nat.reduceEqDiff,Nat.reduceBEq]) ?_
    (first|(refine q2n (by kernel_rfl) (by rw [hF];kernel_rfl) ?_)|(refine q2m (by kernel_rfl) (by rw [hF];kernel_rfl) ?_));(repeat (refine q45 fun K1 hK1=>?_;simp only [push_cast,Nat.reduceEqDiff,Nat.reduceAdd,Nat.reduceLeDiff,Nat.reduceBEq,hg,hpl];(try simp (disch:=omega) only [wrap64,q0m]);(first|refine hK1 _ _ ?_|refine ⟨by omega,hK1 _ _ ?_⟩);clear hK1 K1));refine q6y (by kernel_rfl) ?_
    repeat (first|((first|refine q00 (by rw [hF];kernel_rfl) ?_|refine q03 (by rw [hF];kernel_rfl) ?_);(repeat (refine q0b fun K1 hK1=>?_;simp only [push_cast,Nat.reduceEqDiff,Nat.reduceBEq];(try simp (disch:=omega) only [wrap64]);(first|refine hK1 _ ?_|refine ⟨by omega,hK1 _ ?_⟩);clear hK1 K1));refine q0g ?_)|refine q0e ?_|refine q08 ?_|refine q0d ?_|refine q0c ?_|refine q0f ?_|refine q02 ?_|refine q07 ?_|refine q09 ?_|refine q01 ?_|refine q0a ?_|refine q06 ?_|refine q04 rfl ?_)
    refine ⟨_,_,?_,⟨k+1,hkd,rfl,rfl⟩,?_⟩
    ·omega
    ·rw [hs1 hkg]
     (refine Le.of ?_ ?_ ?_<;>simp only [List.not_mem_nil,false_implies,implies_true,and_true,push_cast,Nat.reduceEqDiff,Nat.reduceBEq,exists_eq_left',Nat.le_refl])
     rw [Row.mk.injEq]
     exact ⟨rfl,rfl,rfl,rfl,jiz hpl⟩
  ·have hkg:keep.getD k false=false:=by simp [List.getD,show keep.length<=k by omega]
   repeat (first|((first|refine q00 (by rw [hF];kernel_rfl) ?_|refine q03 (by rw [hF];kernel_rfl) ?_);(repeat (refine q0b fun K1 hK1=>?_;simp only [push_cast,Nat.reduceEqDiff,reduceCtorEq,Nat.reduceBEq,decide_false,ck];(try simp (disch:=omega) only [wrap64,q0m]);(first|refine hK1 _ ?_|refine ⟨by omega,hK1 _ ?_⟩);clear hK1 K1));refine q0g ?_)|refine q0e ?_|refine q08 ?_|refine q0d ?_|refine q0c ?_|refine q0f ?_|refine q02 ?_|refine q07 ?_|refine q09 ?_|refine q01 ?_|refine q0a ?_|refine q06 ?_|refine q04 rfl ?_)
   refine q0s (by simp only [push_cast,Nat.reduceEqDiff,Nat.reduceBEq]) ?_
   repeat (first|((first|refine q00 (by rw [hF];kernel_rfl) ?_|refine q03 (by rw [hF];kernel_rfl) ?_);(repeat (refine q0b fun K1 hK1=>?_;simp only [push_cast,Nat.reduceEqDiff,Nat.reduceBEq];(try simp (disch:=omega) only [wrap64]);(first|refine hK1 _ ?_|refine ⟨by omega,hK1 _ ?_⟩);clear hK1 K1));refine q0g ?_)|refine q0e ?_|refine q08 ?_|refine q0d ?_|refine q0c ?_|refine q0f ?_|refine q02 ?_|refine q07 ?_|refine q09 ?_|refine q01 ?_|refine q0a ?_|refine q06 ?_|refine q04 rfl ?_)
   refine ⟨_,_,?_,⟨k+1,hkd,rfl,rfl⟩,by rw [hs0 hkg];(refine Le.of ?_ ?_ ?_<;>simp only [List.not_mem_nil,false_implies,implies_true,and_true,push_cast,Nat.reduceEqDiff,Nat.reduceBEq,exists_eq_left',Nat.le_refl])⟩
   omega
 ·have hkl:k=d.cache.length:=by omega
  subst hkl
  repeat (first|((first|refine q00 (by rw [hF];kernel_rfl) ?_|refine q03 (by rw [hF];kernel_rfl) ?_);(repeat (refine q0b fun K1 hK1=>?_;simp only [push_cast,Nat.reduceEqDiff,Nat.reduceBEq,decide_false,hkn];(try simp (disch:=omega) only [wrap64,q0m]);(first|refine hK1 _ ?_|refine ⟨by omega,hK1 _ ?_⟩);clear hK1 K1));refine q0g ?_)|refine q0e ?_|refine q08 ?_|refine q0d ?_|refine q0c ?_|refine q0f ?_|refine q02 ?_|refine q07 ?_|refine q09 ?_|refine q01 ?_|refine q0a ?_|refine q06 ?_|refine q04 rfl ?_)
  refine q0s (by simp only [push_cast,Nat.reduceEqDiff,Nat.reduceBEq]) ?_
  refine qej ?_
  repeat (first|((first|refine q00 (by rw [hF];kernel_rfl) ?_|refine q03 (by rw [hF];kernel_rfl) ?_);(repeat (refine q0b fun K1 hK1=>?_;simp only [push_cast,Nat.reduceEqDiff,Nat.reduceAdd,Nat.reduceLeDiff,Nat.reduceBEq];(try simp (disch:=omega) only [wrap64,q0m]);(first|refine hK1 _ ?_|refine ⟨by omega,hK1 _ ?_⟩);clear hK1 K1));refine q0g ?_)|refine q0e ?_|refine q08 ?_|refine q0d ?_|refine q0c ?_|refine q0f ?_|refine q02 ?_|refine q07 ?_|refine q09 ?_|refine q01 ?_|refine q0a ?_|refine q06 ?_|refine q04 rfl ?_)
  refine (hQ _ ?_).2
  simp only [push_cast,Nat.reduceEqDiff,Nat.reduceAdd,Nat.reduceLeDiff,Nat.reduceBEq,frz]
theorem qwu {G:World->Prop} (hG:qt8 G) (d:DM.Dk) (keep:List Bool) (b1:d.secs.length<=1000000) (b2:d.cache.length<=1000000) (b3:keep.length<=1000000):q15 Tryz.prog G 32 [.one (dk1 d),jb2 1 (j07 keep)] (qpx (DM.q3f (fun j=>keep.getD j false) d) (DM.qxa d)):=by
 by_cases hm:DM.q2y d
 ·rw [DM.q3f,DM.qxa,if_pos hm,if_pos hm]
  exact (j8e hG d keep b1 b2 b3 hm).weak fun _ _ _ h=>jnx h
 ·rw [DM.q3f,DM.qxa,if_neg hm,if_neg hm]
  exact je8 hG d keep b1 b2 hm
theorem q15.args {P:Program} {G:World->Prop} {f:FuncId} {ds ds':List D} {d:D} (h:q15 P G f ds d) (ha : ∀Pc w vs,q1a (q1z (q1y Pc) q2d w) vs ds'->q1a (q1z (q1y Pc) q2d w) vs ds):q15 P G f ds' d :=
 fun Pc w vs hg hlt hv=>h Pc w vs hg hlt (ha _ _ _ hv)
theorem jip {Pc:Nat->Nat->Prop} {w:World} {d:D} {sz:Nat} (vs:List Value) (h:q1a (q1z (q1y Pc) q2d w) vs [d,q21 (.slice none 0 0)]):q1a (q1z (q1y Pc) q2d w) vs [d,jb2 sz []]:=by
 match vs,h with
 | [x,y],⟨h1,h2,_⟩=>exact ⟨h1,q7f sz h2,trivial⟩
end Go.Proofs.YthpgnliicpejoaaGreatDoor.AM
