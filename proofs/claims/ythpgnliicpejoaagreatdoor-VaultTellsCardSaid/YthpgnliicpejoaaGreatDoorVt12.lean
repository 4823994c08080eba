
import Derived.Test.YthpgnliicpejoaaGreatDoorVt11
import Derived.Test.YthpgnliicpejoaaGreatDoorVt10
import Derived.Test.YthpgnliicpejoaaGreatDoorVt9
import Derived.Test.YthpgnliicpejoaaGreatDoorVt3
namespace Go.Proofs.YthpgnliicpejoaaGreatDoor.AM
open Go.RowKit
set_option linter.unusedSimpArgs false
set_option linter.unusedVariables false
abbrev j7k:List C:=[.d (.v (.slice none 0 0)),.d (.v (.slice none 0 0))]
def flS (d:DM.Dk):Nat->St
 | 0=>St.of [(1,.one (.c (.box 1 0))),(2,.one (.c (.box 2 0))),(4,q21 (.slice none 0 0)),(5,q21 (.int .i64 0))] [(1,(25,dkC d)),(2,(25,j7k))] []
 | k+1=>St.of [(1,.one (.c (.box 1 0))),(2,.one (.c (.box 2 0))),(4,.one (.c (.row 15 k))),(5,q21 (.int .i64 ((k+1:Nat):Int)))] [(1,(25,dkC d)),(2,(25,j7k))] [(15,{ gen:=k,E:=4,sz:=1,wr:=true,xs:=j07 (List.replicate (k+1) true) })]
theorem j5r (d:DM.Dk):flS d 0=St.of [(1,.one (.c (.box 1 0))),(2,.one (.c (.box 2 0))),(4,q21 (.slice none 0 0)),(5,q21 (.int .i64 0))] [(1,(25,dkC d)),(2,(25,j7k))] []:=rfl
theorem qu1 (d:DM.Dk) (k:Nat):flS d (k+1)=St.of [(1,.one (.c (.box 1 0))),(2,.one (.c (.box 2 0))),(4,.one (.c (.row 15 k))),(5,q21 (.int .i64 ((k+1:Nat):Int)))] [(1,(25,dkC d)),(2,(25,j7k))] [(15,{ gen:=k,E:=4,sz:=1,wr:=true,xs:=j07 (List.replicate (k+1) true) })]:=rfl
theorem jf1 (k:Nat):j07 (List.replicate k true) ++ [[.v (.bool true)]]=j07 (List.replicate (k+1) true):=by simp [j07,List.replicate_succ']
theorem jc0 (d:DM.Dk):DM.q3f (fun j=>(List.replicate d.cache.length true).getD j false) d=DM.q3f (fun _=>true) d:=by
 unfold DM.q3f DM.q3r
 rw [DM.qun d.secs d.cache d.cache.length (f:=fun j=>(List.replicate d.cache.length true).getD j false) (g:=fun _=>true) (fun j hj=>by simp [List.getD,hj])]
set_option maxHeartbeats 1600000 in
theorem jdv {G:World->Prop} (hG:qt8 G) (d:DM.Dk) (b1:d.secs.length<=1000000) (b2:d.cache.length<=1000000):q15 Tryz.prog G 60 [.one (dk1 d)] (qpx (DM.q3f (fun _=>true) d) (DM.qxa d)):=by
 obtain ⟨D',hD'⟩ : ∃ D',DM.q3f (fun _=>true) d=D':=⟨_,rfl⟩
 obtain ⟨X,hX⟩ : ∃ X,DM.qxa d=X:=⟨_,rfl⟩
 have C0:q15 Tryz.prog G 32 [.one (dk1 d),jb2 1 (j07 (List.replicate d.cache.length true))] (qpx D' X):=by
  have:=qwu hG d (List.replicate d.cache.length true) b1 b2 (by simp;omega)
  rw [jc0,hD',hX] at this
  exact this
 rw [hD',hX]
 unfold qpx
 unfold dk1
 refine q2w Tryz.func60 rfl (by simp [Tryz.ntmps60]) hG ?_;intro F hF hFG Q hQ;rw [Tryz.ntmps60] at hF;rw [Tryz.results60] at hQ
 subst hFG
 repeat (first|((first|refine q00 (by rw [hF];kernel_rfl) ?_|refine q03 (by rw [hF];kernel_rfl) ?_);(repeat (refine q0b fun K1 hK1=>?_;simp only [push_cast,Nat.reduceEqDiff,Nat.reduceLT];(try simp (disch:=omega) only [wrap64,q0m]);(first|refine hK1 _ ?_|refine ⟨by omega,hK1 _ ?_⟩);clear hK1 K1));refine q0g ?_)|refine q0e ?_|refine q08 ?_|refine q0d ?_|refine q0c ?_|refine q0f ?_|refine q02 ?_|refine q07 ?_|refine q09 ?_|refine q01 ?_|refine q0a ?_|refine q06 ?_|refine q04 rfl ?_)
 refine q3e (fun n σ=>∃ k:Nat,k<=d.cache.length/\n=d.cache.length - k/\σ=flS d k) d.cache.length (flS d 0) ⟨0,Nat.zero_le _,by simp,rfl⟩ (by rw [j5r];(refine Le.of ?_ ?_ ?_<;>simp only [List.not_mem_nil,false_implies,implies_true,and_true,push_cast,Nat.reduceEqDiff,reduceCtorEq,Nat.reduceBEq])) ?_
 rintro n σ ⟨k,hk,rfl,rfl⟩
 cases k with
 | zero =>
  rw [j5r]
  by_cases hkn:(0:Int)<(d.cache.length:Int)
  ·repeat (first|((first|refine q00 (by rw [hF];kernel_rfl) ?_|refine q03 (by rw [hF];kernel_rfl) ?_);(repeat (refine q0b fun K1 hK1=>?_;simp only [push_cast,Nat.reduceEqDiff,Nat.reduceBEq,decide_true,hkn];(try simp (disch:=omega) only [wrap64,q0m]);(first|refine hK1 _ ?_|refine ⟨by omega,hK1 _ ?_⟩);clear hK1 K1));refine q0g ?_)|refine q0e ?_|refine q08 ?_|refine q0d ?_|refine q0c ?_|refine q0f ?_|refine q02 ?_|refine q07 ?_|refine q09 ?_|refine q01 ?_|refine q0a ?_|refine q06 ?_|refine q04 rfl ?_)
   refine q0q (by simp only [push_cast,Nat.reduceEqDiff,Nat.reduceBEq]) ?_
   repeat (first|((first|refine q00 (by rw [hF];kernel_rfl) ?_|refine q03 (by rw [hF];kernel_rfl) ?_);(repeat (refine q0b fun K1 hK1=>?_;simp only [push_cast,Nat.reduceEqDiff,Nat.reduceLeDiff,Nat.reduceLT,Nat.reduceBEq,Nat.reducePow,Int.reduceAdd];(try simp (disch:=omega) only [wrap64]);(first|refine hK1 _ ?_|refine ⟨by omega,hK1 _ ?_⟩);clear hK1 K1));refine q0g ?_)|refine q0e ?_|refine q08 ?_|refine q0d ?_|refine q0c ?_|refine q0f ?_|refine q02 ?_|refine q07 ?_|refine q09 ?_|refine q01 ?_|refine q0a ?_|refine q06 ?_|refine q04 rfl ?_)
   refine ⟨_,_,?_,⟨0+1,by omega,rfl,rfl⟩,?_⟩
   ·omega
   ·rw [qu1]
    (refine Le.of ?_ ?_ ?_<;>simp only [List.not_mem_nil,false_implies,implies_true,and_true,true_and,push_cast,Nat.reduceEqDiff,Nat.reduceBEq,Int.reduceAdd,Row.mk.injEq])
    all_goals first|exact ⟨_,rfl⟩|rfl
  ·have hkl:d.cache.length=0:=by omega
   rw [hkl] at C0
   repeat (first|((first|refine q00 (by rw [hF];kernel_rfl) ?_|refine q03 (by rw [hF];kernel_rfl) ?_);(repeat (refine q0b fun K1 hK1=>?_;simp only [push_cast,Nat.reduceEqDiff,Nat.reduceBEq,decide_false,hkn];(try simp (disch:=omega) only [wrap64,q0m]);(first|refine hK1 _ ?_|refine ⟨by omega,hK1 _ ?_⟩);clear hK1 K1));refine q0g ?_)|refine q0e ?_|refine q08 ?_|refine q0d ?_|refine q0c ?_|refine q0f ?_|refine q02 ?_|refine q07 ?_|refine q09 ?_|refine q01 ?_|refine q0a ?_|refine q06 ?_|refine q04 rfl ?_)
   refine q0s (by simp only [push_cast,Nat.reduceEqDiff,Nat.reduceBEq]) ?_
   repeat (first|((first|refine q00 (by rw [hF];kernel_rfl) ?_|refine q03 (by rw [hF];kernel_rfl) ?_);(repeat (refine q0b fun K1 hK1=>?_;simp only [push_cast,Nat.reduceEqDiff,Nat.reduceAdd,Nat.reduceLeDiff,Nat.reduceBEq];(try simp (disch:=omega) only [wrap64,q0m]);(first|refine hK1 _ ?_|refine ⟨by omega,hK1 _ ?_⟩);clear hK1 K1));refine q0g ?_)|refine q0e ?_|refine q08 ?_|refine q0d ?_|refine q0c ?_|refine q0f ?_|refine q02 ?_|refine q07 ?_|refine q09 ?_|refine q01 ?_|refine q0a ?_|refine q06 ?_|refine q04 rfl ?_)
   (first|(refine q00 (by rw [hF];kernel_rfl) ?_)|(refine q03 (by rw [hF];kernel_rfl) ?_));(repeat (refine q0b fun K1 hK1=>?_;simp only [push_cast,Nat.reduceEqDiff,Nat.reduceAdd,Nat.reduceLeDiff,Nat.reduceBEq];(try simp (disch:=omega) only [wrap64,q0m]);(first|refine hK1 _ ?_|refine ⟨by omega,hK1 _ ?_⟩);clear hK1 K1))
   refine q2i (by simp only [push_cast]) rfl (by simp only [push_cast]) (by kernel_rfl) (by simp only [push_cast,Nat.reduceEqDiff,Nat.reduceBEq,dk1]) (C0.args (fun _ _ vs h=>jip vs h)) ?_
   unfold qpx dk1
   (repeat (refine q0b fun K1 hK1=>?_;simp only [push_cast,Nat.reduceEqDiff,Nat.reduceAdd,Nat.reduceLeDiff,Nat.reduceBEq];(try simp (disch:=omega) only [wrap64,q0m]);(first|refine hK1 _ ?_|refine ⟨by omega,hK1 _ ?_⟩);clear hK1 K1));refine q0g ?_
   repeat (first|((first|refine q00 (by rw [hF];kernel_rfl) ?_|refine q03 (by rw [hF];kernel_rfl) ?_);(repeat (refine q0b fun K1 hK1=>?_;simp only [push_cast,Nat.reduceEqDiff,reduceCtorEq,Nat.reduceAdd,Nat.reduceMul,Nat.reduceSub,Nat.reduceLeDiff,Nat.reduceLT,Nat.reduceBEq,Nat.reducePow,Int.reduceEq,Int.reduceLT,Int.reduceLE,Int.reduceNeg,Int.reduceAdd,Int.reduceToNat,reduceIte,decide_true,decide_false];(try simp (disch:=omega) only [wrap64,q0m]);(first|refine hK1 _ ?_|refine ⟨by omega,hK1 _ ?_⟩);clear hK1 K1));refine q0g ?_)|refine q0e ?_|refine q08 ?_|refine q0d ?_|refine q0c ?_|refine q0f ?_|refine q02 ?_|refine q07 ?_|refine q09 ?_|refine q01 ?_|refine q0a ?_|refine q06 ?_|refine q04 rfl ?_)
   refine (hQ _ ?_).2
   simp only [push_cast,Nat.reduceEqDiff,Nat.reduceAdd,Nat.reduceLeDiff,Nat.reduceBEq]
 | succ k =>
  rw [qu1]
  have hl:(List.replicate (k+1) true).length=k+1:=List.length_replicate ..
  by_cases hkn:(k:Int)+1<(d.cache.length:Int)
  ·repeat (first|((first|refine q00 (by rw [hF];kernel_rfl) ?_|refine q03 (by rw [hF];kernel_rfl) ?_);(repeat (refine q0b fun K1 hK1=>?_;simp only [push_cast,Nat.reduceEqDiff,Nat.reduceBEq,decide_true,hkn];(try simp (disch:=omega) only [wrap64,q0m]);(first|refine hK1 _ ?_|refine ⟨by omega,hK1 _ ?_⟩);clear hK1 K1));refine q0g ?_)|refine q0e ?_|refine q08 ?_|refine q0d ?_|refine q0c ?_|refine q0f ?_|refine q02 ?_|refine q07 ?_|refine q09 ?_|refine q01 ?_|refine q0a ?_|refine q06 ?_|refine q04 rfl ?_)
   refine q0q (by simp only [push_cast,Nat.reduceEqDiff,Nat.reduceBEq]) ?_
   repeat (first|((first|refine q00 (by rw [hF];kernel_rfl) ?_|refine q03 (by rw [hF];kernel_rfl) ?_);(repeat (refine q0b fun K1 hK1=>?_;simp only [push_cast,Nat.reduceEqDiff,Nat.reduceLeDiff,Nat.reduceLT,Nat.reduceBEq,Nat.reducePow,hl];(try simp (disch:=omega) only [wrap64]);(first|refine hK1 _ ?_|refine ⟨by omega,hK1 _ ?_⟩);clear hK1 K1));refine q0g ?_)|refine q0e ?_|refine q08 ?_|refine q0d ?_|refine q0c ?_|refine q0f ?_|refine q02 ?_|refine q07 ?_|refine q09 ?_|refine q01 ?_|refine q0a ?_|refine q06 ?_|refine q04 rfl ?_)
   refine ⟨_,_,?_,⟨k+1+1,by omega,rfl,rfl⟩,?_⟩
   ·omega
   ·rw [qu1]
    (refine Le.of ?_ ?_ ?_<;>simp only [List.not_mem_nil,false_implies,implies_true,and_true,true_and,push_cast,Nat.reduceEqDiff,Nat.reduceBEq,exists_eq_left',Nat.le_refl,Row.mk.injEq])
    all_goals first|exact ⟨_,rfl⟩|exact jf1 _
  ·have hkl:k+1=d.cache.length:=by omega
   rw [<-hkl] at C0
   repeat (first|((first|refine q00 (by rw [hF];kernel_rfl) ?_|refine q03 (by rw [hF];kernel_rfl) ?_);(repeat (refine q0b fun K1 hK1=>?_;simp only [push_cast,Nat.reduceEqDiff,Nat.reduceBEq,decide_false,hkn];(try simp (disch:=omega) only [wrap64,q0m]);(first|refine hK1 _ ?_|refine ⟨by omega,hK1 _ ?_⟩);clear hK1 K1));refine q0g ?_)|refine q0e ?_|refine q08 ?_|refine q0d ?_|refine q0c ?_|refine q0f ?_|refine q02 ?_|refine q07 ?_|refine q09 ?_|refine q01 ?_|refine q0a ?_|refine q06 ?_|refine q04 rfl ?_)
   refine q0s (by simp only [push_cast,Nat.reduceEqDiff,Nat.reduceBEq]) ?_
   repeat (first|((first|refine q00 (by rw [hF];kernel_rfl) ?_|refine q03 (by rw [hF];kernel_rfl) ?_);(repeat (refine q0b fun K1 hK1=>?_;simp only [push_cast,Nat.reduceEqDiff,Nat.reduceAdd,Nat.reduceLeDiff,Nat.reduceBEq];(try simp (disch:=omega) only [wrap64,q0m]);(first|refine hK1 _ ?_|refine ⟨by omega,hK1 _ ?_⟩);clear hK1 K1));refine q0g ?_)|refine q0e ?_|refine q08 ?_|refine q0d ?_|refine q0c ?_|refine q0f ?_|refine q02 ?_|refine q07 ?_|refine q09 ?_|refine q01 ?_|refine q0a ?_|refine q06 ?_|refine q04 rfl ?_)
   refine qej ?_
   (first|(refine q00 (by rw [hF];kernel_rfl) ?_)|(refine q03 (by rw [hF];kernel_rfl) ?_));(repeat (refine q0b fun K1 hK1=>?_;simp only [push_cast,Nat.reduceEqDiff,Nat.reduceAdd,Nat.reduceLeDiff,Nat.reduceBEq];(try simp (disch:=omega) only [wrap64,q0m]);(first|refine hK1 _ ?_|refine ⟨by omega,hK1 _ ?_⟩);clear hK1 K1))
   refine q2i (by simp only [push_cast]) rfl (by simp only [push_cast]) (by kernel_rfl) (by simp only [push_cast,Nat.reduceEqDiff,Nat.reduceBEq,dk1]) (C0) ?_
   unfold qpx dk1
   (repeat (refine q0b fun K1 hK1=>?_;simp only [push_cast,Nat.reduceEqDiff,Nat.reduceAdd,Nat.reduceLeDiff,Nat.reduceBEq];(try simp (disch:=omega) only [wrap64,q0m]);(first|refine hK1 _ ?_|refine ⟨by omega,hK1 _ ?_⟩);clear hK1 K1));refine q0g ?_
   repeat (first|((first|refine q00 (by rw [hF];kernel_rfl) ?_|refine q03 (by rw [hF];kernel_rfl) ?_);(repeat (refine q0b fun K1 hK1=>?_;simp only [push_cast,Nat.reduceEqDiff,reduceCtorEq,Nat.reduceAdd,Nat.reduceMul,Nat.reduceSub,Nat.reduceLeDiff,Nat.reduceLT,Nat.reduceBEq,Nat.reducePow,Int.reduceEq,Int.reduceLT,Int.reduceLE,Int.reduceNeg,Int.reduceAdd,Int.reduceToNat,reduceIte,decide_true,decide_false];(try simp (disch:=omega) only [wrap64,q0m]);(first|refine hK1 _ ?_|refine ⟨by omega,hK1 _ ?_⟩);clear hK1 K1));refine q0g ?_)|refine q0e ?_|refine q08 ?_|refine q0d ?_|refine q0c ?_|refine q0f ?_|refine q02 ?_|refine q07 ?_|refine q09 ?_|refine q01 ?_|refine q0a ?_|refine q06 ?_|refine q04 rfl ?_)
   refine (hQ _ ?_).2
   simp only [push_cast,Nat.reduceEqDiff,Nat.reduceAdd,Nat.reduceLeDiff,Nat.reduceBEq]
end Go.Proofs.YthpgnliicpejoaaGreatDoor.AM
namespace Go.Proofs.YthpgnliicpejoaaGreatDoor.AM
open Go.RowKit
set_option linter.unusedSimpArgs false
set_option linter.unusedVariables false
abbrev okD (d:DM.Dk) (x:Bool):D:=.tup [dk1 d,.c (qd8 (.bool x))]
theorem jil {Pc:Nat->Nat->Prop} {w:World} {v:Value} {x:Bool} (h:q1z (q1y Pc) q2d w v (.tup [.agg j7k,.c (qd8 (.bool x))])):q1z (q1y Pc) q2d w v (okD ⟨[],[]⟩ x):=by
 obtain ⟨vs,rfl,h⟩:=h
 obtain ⟨L⟩:=vs
 match L,h with
 | [x,y],⟨⟨us,e,h1⟩,h2,_⟩ =>
  obtain ⟨M⟩:=us
  match M,e,h1 with
  | [a,b],e,⟨g1,g2,_⟩=>exact ⟨_,rfl,⟨_,e,q7f 1 g1,q7f 2 g2,trivial⟩,h2,trivial⟩
theorem jjc {Pc:Nat->Nat->Prop} {w:World} {v:Value} {l:List ByteArray} {x:Bool} (h:q1z (q1y Pc) q2d w v (.tup [.agg [.d (.lst 1 (qd9 l)),.d (.v (.slice none 0 0))],.c (qd8 (.bool x))])):q1z (q1y Pc) q2d w v (okD ⟨l,[]⟩ x):=by
 obtain ⟨vs,rfl,h⟩:=h
 obtain ⟨L⟩:=vs
 match L,h with
 | [x,y],⟨⟨us,e,h1⟩,h2,_⟩ =>
  obtain ⟨M⟩:=us
  match M,e,h1 with
  | [a,b],e,⟨g1,g2,_⟩=>exact ⟨_,rfl,⟨_,e,g1,q7f 2 g2,trivial⟩,h2,trivial⟩
theorem jpl {G:World->Prop} (hG:qt8 G) (n:Int) (hn : ¬ DM.qxh n):q15 Tryz.prog G 30 [q21 (.int .i64 n)] (.tup [.agg j7k,.c (qd8 (.bool false))]):=by
 have hc:n<1\/(¬ n<1/\512<n):=by unfold DM.qxh at hn;omega
 refine q2w Tryz.func30 rfl (by simp [Tryz.ntmps30]) hG ?_;intro F hF hFG Q hQ;rw [Tryz.ntmps30] at hF;rw [Tryz.results30] at hQ
 rcases hc with h|⟨h,h2⟩
 ·repeat (first|((first|refine q00 (by rw [hF];kernel_rfl) ?_|refine q03 (by rw [hF];kernel_rfl) ?_);(repeat (refine q0b fun K1 hK1=>?_;simp only [push_cast,Nat.reduceEqDiff,reduceCtorEq,Nat.reduceLT,decide_true,h];(try simp (disch:=omega) only [wrap64,q0m]);(first|refine hK1 _ ?_|refine ⟨by omega,hK1 _ ?_⟩);clear hK1 K1));refine q0g ?_)|refine q0e ?_|refine q08 ?_|refine q0d ?_|refine q0c ?_|refine q0f ?_|refine q02 ?_|refine q07 ?_|refine q09 ?_|refine q01 ?_|refine q0a ?_|refine q06 ?_|refine q04 rfl ?_)
  refine q0q (by simp only [push_cast,Nat.reduceEqDiff]) ?_
  repeat (first|((first|refine q00 (by rw [hF];kernel_rfl) ?_|refine q03 (by rw [hF];kernel_rfl) ?_);(repeat (refine q0b fun K1 hK1=>?_;simp only [push_cast,Nat.reduceEqDiff,Nat.reduceAdd,Nat.reduceLeDiff];(try simp (disch:=omega) only [wrap64,q0m]);(first|refine hK1 _ ?_|refine ⟨by omega,hK1 _ ?_⟩);clear hK1 K1));refine q0g ?_)|refine q0e ?_|refine q08 ?_|refine q0d ?_|refine q0c ?_|refine q0f ?_|refine q02 ?_|refine q07 ?_|refine q09 ?_|refine q01 ?_|refine q0a ?_|refine q06 ?_|refine q04 rfl ?_)
  refine (hQ _ ?_).2
  simp only [push_cast,Nat.reduceEqDiff,Nat.reduceAdd,Nat.reduceLeDiff]
 ·repeat (first|((first|refine q00 (by rw [hF];kernel_rfl) ?_|refine q03 (by rw [hF];kernel_rfl) ?_);(repeat (refine q0b fun K1 hK1=>?_;simp only [push_cast,Nat.reduceEqDiff,reduceCtorEq,Nat.reduceLT,decide_true,decide_false,h,h2];(try simp (disch:=omega) only [wrap64,q0m]);(first|refine hK1 _ ?_|refine ⟨by omega,hK1 _ ?_⟩);clear hK1 K1));refine q0g ?_)|refine q0e ?_|refine q08 ?_|refine q0d ?_|refine q0c ?_|refine q0f ?_|refine q02 ?_|refine q07 ?_|refine q09 ?_|refine q01 ?_|refine q0a ?_|refine q06 ?_|refine q04 rfl ?_)
  refine q0q (by simp only [push_cast,Nat.reduceEqDiff]) ?_
  repeat (first|((first|refine q00 (by rw [hF];kernel_rfl) ?_|refine q03 (by rw [hF];kernel_rfl) ?_);(repeat (refine q0b fun K1 hK1=>?_;simp only [push_cast,Nat.reduceEqDiff,Nat.reduceAdd,Nat.reduceLeDiff];(try simp (disch:=omega) only [wrap64,q0m]);(first|refine hK1 _ ?_|refine ⟨by omega,hK1 _ ?_⟩);clear hK1 K1));refine q0g ?_)|refine q0e ?_|refine q08 ?_|refine q0d ?_|refine q0c ?_|refine q0f ?_|refine q02 ?_|refine q07 ?_|refine q09 ?_|refine q01 ?_|refine q0a ?_|refine q06 ?_|refine q04 rfl ?_)
  refine (hQ _ ?_).2
  simp only [push_cast,Nat.reduceEqDiff,Nat.reduceAdd,Nat.reduceLeDiff]
def nwS (n:Nat):Nat->St
 | 0=>St.of [(0,q21 (.int .i64 n)),(2,.one (.c (.box 2 0))),(4,.one (.c (.box 4 0))),(5,q21 (.int .i64 0))] [(2,(25,j7k)),(4,(25,j7k))] []
 | k+1=>St.of [(0,q21 (.int .i64 n)),(2,.one (.c (.box 2 0))),(4,.one (.c (.box 4 0))),(5,q21 (.int .i64 ((k+1:Nat):Int)))] [(2,(25,j7k)),(4,(25,[.row 24 k,.d (.v (.slice none 0 0))]))] [(24,{ gen:=k,E:=9,sz:=1,wr:=true,xs:=qd9 (List.replicate (k+1) DM.qo7) })]
theorem j4g (n:Nat):nwS n 0=St.of [(0,q21 (.int .i64 n)),(2,.one (.c (.box 2 0))),(4,.one (.c (.box 4 0))),(5,q21 (.int .i64 0))] [(2,(25,j7k)),(4,(25,j7k))] []:=rfl
theorem qsp (n k:Nat):nwS n (k+1)=St.of [(0,q21 (.int .i64 n)),(2,.one (.c (.box 2 0))),(4,.one (.c (.box 4 0))),(5,q21 (.int .i64 ((k+1:Nat):Int)))] [(2,(25,j7k)),(4,(25,[.row 24 k,.d (.v (.slice none 0 0))]))] [(24,{ gen:=k,E:=9,sz:=1,wr:=true,xs:=qd9 (List.replicate (k+1) DM.qo7) })]:=rfl
theorem ji1 (k:Nat):qd9 (List.replicate k DM.qo7) ++ [[.v (.string DM.qo7)]]=qd9 (List.replicate (k+1) DM.qo7):=by simp [qd9,List.replicate_succ']
set_option maxHeartbeats 1600000 in
theorem jk1 {G:World->Prop} (hG:qt8 G) (n:Nat) (h1:1<=n) (h2:n<=512):q15 Tryz.prog G 30 [q21 (.int .i64 n)] (.tup [.agg [.d (.lst 1 (qd9 (List.replicate n DM.qo7))),.d (.v (.slice none 0 0))],.c (qd8 (.bool true))]):=by
 have k1 : ¬ (n:Int)<1:=by omega
 have k2 : ¬ (512:Int)<(n:Int):=by omega
 refine q2w Tryz.func30 rfl (by simp [Tryz.ntmps30]) hG ?_;intro F hF hFG Q hQ;rw [Tryz.ntmps30] at hF;rw [Tryz.results30] at hQ
 repeat (first|((first|refine q00 (by rw [hF];kernel_rfl) ?_|refine q03 (by rw [hF];kernel_rfl) ?_);(repeat (refine q0b fun K1 hK1=>?_;simp only [push_cast,Nat.reduceEqDiff,reduceCtorEq,Nat.reduceLT,decide_false,k1,k2];(try simp (disch:=omega) only [wrap64,q0m]);(first|refine hK1 _ ?_|refine ⟨by omega,hK1 _ ?_⟩);clear hK1 K1));refine q0g ?_)|refine q0e ?_|refine q08 ?_|refine q0d ?_|refine q0c ?_|refine q0f ?_|refine q02 ?_|refine q07 ?_|refine q09 ?_|refine q01 ?_|refine q0a ?_|refine q06 ?_|refine q04 rfl ?_)
 refine q0s (by simp only [push_cast,Nat.reduceEqDiff]) ?_
 repeat (first|((first|refine q00 (by rw [hF];kernel_rfl) ?_|refine q03 (by rw [hF];kernel_rfl) ?_);(repeat (refine q0b fun K1 hK1=>?_;simp only [push_cast,Nat.reduceEqDiff,Nat.reduceLT];(try simp (disch:=omega) only [wrap64,q0m]);(first|refine hK1 _ ?_|refine ⟨by omega,hK1 _ ?_⟩);clear hK1 K1));refine q0g ?_)|refine q0e ?_|refine q08 ?_|refine q0d ?_|refine q0c ?_|refine q0f ?_|refine q02 ?_|refine q07 ?_|refine q09 ?_|refine q01 ?_|refine q0a ?_|refine q06 ?_|refine q04 rfl ?_)
 have C0:q15 Tryz.prog F.G 59 [q21 (.string ⟨#[]⟩)] (q21 (.string DM.qo7)):=j3t F.gst ⟨#[]⟩ (by decide)
 refine q3e (fun m σ=>∃ k:Nat,k<=n/\m=n - k/\σ=nwS n k) n (nwS n 0) ⟨0,Nat.zero_le _,rfl,rfl⟩ (by rw [j4g];(refine Le.of ?_ ?_ ?_<;>simp only [List.not_mem_nil,false_implies,implies_true,and_true,push_cast,Nat.reduceEqDiff,reduceCtorEq,Nat.reduceBEq])) ?_
 rintro m σ ⟨k,hk,rfl,rfl⟩
 cases k with
 | zero =>
  rw [j4g]
  have hkn:(0:Int)<(n:Int):=by omega
  repeat (first|((first|refine q00 (by rw [hF];kernel_rfl) ?_|refine q03 (by rw [hF];kernel_rfl) ?_);(repeat (refine q0b fun K1 hK1=>?_;simp only [push_cast,Nat.reduceEqDiff,reduceCtorEq,Nat.reduceBEq,decide_true,hkn];(try simp (disch:=omega) only [wrap64,q0m]);(first|refine hK1 _ ?_|refine ⟨by omega,hK1 _ ?_⟩);clear hK1 K1));refine q0g ?_)|refine q0e ?_|refine q08 ?_|refine q0d ?_|refine q0c ?_|refine q0f ?_|refine q02 ?_|refine q07 ?_|refine q09 ?_|refine q01 ?_|refine q0a ?_|refine q06 ?_|refine q04 rfl ?_)
  refine q0q (by simp only [push_cast,Nat.reduceEqDiff,Nat.reduceBEq]) ?_
  repeat (first|((first|refine q00 (by rw [hF];kernel_rfl) ?_|refine q03 (by rw [hF];kernel_rfl) ?_);(repeat (refine q0b fun K1 hK1=>?_;simp only [push_cast,Nat.reduceEqDiff,Nat.reduceBEq];(try simp (disch:=omega) only [wrap64,q0m]);(first|refine hK1 _ ?_|refine ⟨by omega,hK1 _ ?_⟩);clear hK1 K1));refine q0g ?_)|refine q0e ?_|refine q08 ?_|refine q0d ?_|refine q0c ?_|refine q0f ?_|refine q02 ?_|refine q07 ?_|refine q09 ?_|refine q01 ?_|refine q0a ?_|refine q06 ?_|refine q04 rfl ?_)
  (first|(refine q00 (by rw [hF];kernel_rfl) ?_)|(refine q03 (by rw [hF];kernel_rfl) ?_));(repeat (refine q0b fun K1 hK1=>?_;simp only [push_cast,Nat.reduceEqDiff,Nat.reduceBEq];(try simp (disch:=omega) only [wrap64,q0m]);(first|refine hK1 _ ?_|refine ⟨by omega,hK1 _ ?_⟩);clear hK1 K1))
  refine q2i (by simp only [push_cast]) rfl (by simp only [push_cast]) (by kernel_rfl) (by simp only [push_cast]) (C0) ?_
  (repeat (refine q0b fun K1 hK1=>?_;simp only [push_cast,Nat.reduceEqDiff,Nat.reduceLeDiff,Nat.reduceLT,Nat.reduceBEq,Nat.reducePow];(try simp (disch:=omega) only [wrap64,q0m]);(first|refine hK1 _ ?_|refine ⟨by omega,hK1 _ ?_⟩);clear hK1 K1));refine q0g ?_
  repeat (first|((first|refine q00 (by rw [hF];kernel_rfl) ?_|refine q03 (by rw [hF];kernel_rfl) ?_);(repeat (refine q0b fun K1 hK1=>?_;simp only [push_cast,Nat.reduceEqDiff,Nat.reduceAdd,Nat.reduceLeDiff,Nat.reduceBEq,Int.reduceAdd];(try simp (disch:=omega) only [wrap64]);(first|refine hK1 _ ?_|refine ⟨by omega,hK1 _ ?_⟩);clear hK1 K1));refine q0g ?_)|refine q0e ?_|refine q08 ?_|refine q0d ?_|refine q0c ?_|refine q0f ?_|refine q02 ?_|refine q07 ?_|refine q09 ?_|refine q01 ?_|refine q0a ?_|refine q06 ?_|refine q04 rfl ?_)
  refine ⟨_,_,?_,⟨0+1,by omega,rfl,rfl⟩,?_⟩
  ·omega
  ·rw [qsp]
   (refine Le.of ?_ ?_ ?_<;>simp only [List.not_mem_nil,false_implies,implies_true,and_true,true_and,push_cast,Nat.reduceEqDiff,reduceCtorEq,Nat.reduceBEq,Int.reduceAdd,Row.mk.injEq])
   all_goals first|exact ⟨_,rfl⟩|rfl
 | succ k =>
  rw [qsp]
  have hl:(List.replicate (k+1) DM.qo7).length=k+1:=List.length_replicate ..
  by_cases hkn:(k:Int)+1<(n:Int)
  ·repeat (first|((first|refine q00 (by rw [hF];kernel_rfl) ?_|refine q03 (by rw [hF];kernel_rfl) ?_);(repeat (refine q0b fun K1 hK1=>?_;simp only [push_cast,Nat.reduceEqDiff,reduceCtorEq,Nat.reduceBEq,decide_true,hkn];(try simp (disch:=omega) only [wrap64,q0m]);(first|refine hK1 _ ?_|refine ⟨by omega,hK1 _ ?_⟩);clear hK1 K1));refine q0g ?_)|refine q0e ?_|refine q08 ?_|refine q0d ?_|refine q0c ?_|refine q0f ?_|refine q02 ?_|refine q07 ?_|refine q09 ?_|refine q01 ?_|refine q0a ?_|refine q06 ?_|refine q04 rfl ?_)
   refine q0q (by simp only [push_cast,Nat.reduceEqDiff,Nat.reduceBEq]) ?_
   repeat (first|((first|refine q00 (by rw [hF];kernel_rfl) ?_|refine q03 (by rw [hF];kernel_rfl) ?_);(repeat (refine q0b fun K1 hK1=>?_;simp only [push_cast,Nat.reduceEqDiff,Nat.reduceBEq];(try simp (disch:=omega) only [wrap64,q0m]);(first|refine hK1 _ ?_|refine ⟨by omega,hK1 _ ?_⟩);clear hK1 K1));refine q0g ?_)|refine q0e ?_|refine q08 ?_|refine q0d ?_|refine q0c ?_|refine q0f ?_|refine q02 ?_|refine q07 ?_|refine q09 ?_|refine q01 ?_|refine q0a ?_|refine q06 ?_|refine q04 rfl ?_)
   (first|(refine q00 (by rw [hF];kernel_rfl) ?_)|(refine q03 (by rw [hF];kernel_rfl) ?_));(repeat (refine q0b fun K1 hK1=>?_;simp only [push_cast,Nat.reduceEqDiff,Nat.reduceBEq];(try simp (disch:=omega) only [wrap64,q0m]);(first|refine hK1 _ ?_|refine ⟨by omega,hK1 _ ?_⟩);clear hK1 K1))
   refine q2i (by simp only [push_cast]) rfl (by simp only [push_cast]) (by kernel_rfl) (by simp only [push_cast]) (C0) ?_
   (repeat (refine q0b fun K1 hK1=>?_;simp only [push_cast,Nat.reduceEqDiff,Nat.reduceLeDiff,Nat.reduceLT,Nat.reduceBEq,Nat.reducePow,hl];(try simp (disch:=omega) only [wrap64,q0m]);(first|refine hK1 _ ?_|refine ⟨by omega,hK1 _ ?_⟩);clear hK1 K1));refine q0g ?_
   repeat (first|((first|refine q00 (by rw [hF];kernel_rfl) ?_|refine q03 (by rw [hF];kernel_rfl) ?_);(repeat (refine q0b fun K1 hK1=>?_;simp only [push_cast,Nat.reduceEqDiff,Nat.reduceAdd,Nat.reduceLeDiff,Nat.reduceBEq];(try simp (disch:=omega) only [wrap64]);(first|refine hK1 _ ?_|refine ⟨by omega,hK1 _ ?_⟩);clear hK1 K1));refine q0g ?_)|refine q0e ?_|refine q08 ?_|refine q0d ?_|refine q0c ?_|refine q0f ?_|refine q02 ?_|refine q07 ?_|refine q09 ?_|refine q01 ?_|refine q0a ?_|refine q06 ?_|refine q04 rfl ?_)
   refine ⟨_,_,?_,⟨k+1+1,by omega,rfl,rfl⟩,?_⟩
   ·omega
   ·rw [qsp]
    (refine Le.of ?_ ?_ ?_<;>simp only [List.not_mem_nil,false_implies,implies_true,and_true,true_and,push_cast,Nat.reduceEqDiff,reduceCtorEq,Nat.reduceBEq,exists_eq_left',Nat.le_refl,Row.mk.injEq])
    all_goals first|exact ⟨_,rfl⟩|exact ji1 _
  ·obtain rfl:k+1=n:=by omega
   refine qej ?_
   repeat (first|((first|refine q00 (by rw [hF];kernel_rfl) ?_|refine q03 (by rw [hF];kernel_rfl) ?_);(repeat (refine q0b fun K1 hK1=>?_;simp only [push_cast,Nat.reduceEqDiff,reduceCtorEq,Nat.reduceBEq,decide_false,Int.lt_irrefl];(try simp (disch:=omega) only [wrap64,q0m]);(first|refine hK1 _ ?_|refine ⟨by omega,hK1 _ ?_⟩);clear hK1 K1));refine q0g ?_)|refine q0e ?_|refine q08 ?_|refine q0d ?_|refine q0c ?_|refine q0f ?_|refine q02 ?_|refine q07 ?_|refine q09 ?_|refine q01 ?_|refine q0a ?_|refine q06 ?_|refine q04 rfl ?_)
   refine q0s (by simp only [push_cast,Nat.reduceEqDiff,Nat.reduceBEq]) ?_
   repeat (first|((first|refine q00 (by rw [hF];kernel_rfl) ?_|refine q03 (by rw [hF];kernel_rfl) ?_);(repeat (refine q0b fun K1 hK1=>?_;simp only [push_cast,Nat.reduceEqDiff,Nat.reduceAdd,Nat.reduceLeDiff,Nat.reduceBEq];(try simp (disch:=omega) only [wrap64,q0m]);(first|refine hK1 _ ?_|refine ⟨by omega,hK1 _ ?_⟩);clear hK1 K1));refine q0g ?_)|refine q0e ?_|refine q08 ?_|refine q0d ?_|refine q0c ?_|refine q0f ?_|refine q02 ?_|refine q07 ?_|refine q09 ?_|refine q01 ?_|refine q0a ?_|refine q06 ?_|refine q04 rfl ?_)
   refine (hQ _ ?_).2
   simp only [push_cast,Nat.reduceEqDiff,Nat.reduceAdd,Nat.reduceLeDiff,Nat.reduceBEq,frz]
theorem jnu {G:World->Prop} (hG:qt8 G) (n:Int):q15 Tryz.prog G 30 [q21 (.int .i64 n)] (okD (DM.jrm n) (decide (DM.qxh n))):=by
 by_cases h:DM.qxh n
 ·obtain ⟨m,rfl⟩ : ∃ m:Nat,n=(m:Int):=⟨n.toNat,by have:=h.1;omega⟩
  have e:DM.jrm (m:Int)=⟨List.replicate m DM.qo7,[]⟩:=by rw [DM.jrm,if_pos h];rfl
  rw [decide_eq_true h,e]
  exact (jk1 hG m (by have:=h.1;omega) (by have:=h.2;omega)).weak fun _ _ _ h=>jjc h
 ·rw [decide_eq_false h,DM.jrm,if_neg h]
  exact (jpl hG n h).weak fun _ _ _ h=>jil h
end Go.Proofs.YthpgnliicpejoaaGreatDoor.AM
namespace Go.Proofs.YthpgnliicpejoaaGreatDoor
open Go.RowKit
set_option linter.unusedVariables false
namespace DiskW
set_option maxHeartbeats 1600000 in
set_option maxRecDepth 100000 in
theorem j8c (a1 a2:Option Addr) (k1 k2 n m:Nat) (d:DM.Dk) (w:World) (h:DM.DV w (.slice a1 n k1) (.slice a2 m k2) d) (hn:d.secs.length=n) (hm:d.cache.length=m) (b1:n<=1000000) (b2:m<=1000000) :
  Calls Tryz.prog 143 #[.agg #[.slice a1 n k1,.slice a2 m k2]] w fun e w'=>∃ a3 n3 k3 a4 n4 k4,e = .returned (.tuple #[.agg #[.slice a3 n3 k3,.slice a4 n4 k4],.int .i64 (DM.qxa d)]) /\
   DM.DV w' (.slice a3 n3 k3) (.slice a4 n4 k4) (DM.q3f (fun _=>true) d)/\Below w.heap.size w w'/\(∀k,DM.j9z (.slice a3 n3 k3) (.slice a4 n4 k4) k->w.heap.size<=k)/\(n3<=k3/\k3<=maxLen/\n4<=k4/\k4<=maxLen):=by
 have C1:Hid (∀w',DM.DV w' (.slice a1 n k1) (.slice a2 m k2) d->Calls Tryz.prog 53 #[.agg #[.slice a1 n k1,.slice a2 m k2]] w' fun e w''=>∃ a1 k1 a2 k2,e = .returned (.agg #[.slice a1 n k1,.slice a2 m k2])/\DM.OD w'' w'.heap.size 9 67 (.slice a1 n k1) (.slice a2 m k2) d/\Below w'.heap.size w' w''):=Lib.hid (fun w' h=>by
  have:=jdn _ _ d w' h (by omega) (by omega)
  rw [hn,hm] at this
  exact this)
 obtain ⟨x,hx⟩ : ∃ x,decide (DM.q2y d)=x:=⟨_,rfl⟩
 have C2:Hid (∀w',DM.DV w' (.slice a1 n k1) (.slice a2 m k2) d->Calls Tryz.prog 54 #[.agg #[.slice a1 n k1,.slice a2 m k2]] w' fun e w''=>e = .returned (.bool x)/\Below w'.heap.size w' w''):=Lib.hid (fun w' h=>by
  have:=qcb _ _ d w' h (by omega) (by omega)
  rw [hx] at this
  exact this)
 have C4:Hid (DM.q2y d->∀base a1 k1 a2 k2 w',DM.OD w' base 9 67 (.slice a1 n k1) (.slice a2 m k2) d->base<=w'.heap.size->Calls Tryz.prog 55 #[.agg #[.slice a1 n k1,.slice a2 m k2]] w' fun e w''=>e = .returned (.agg #[.slice a1 n k1,.slice none 0 0]) /\
   DM.OD w'' base 9 67 (.slice a1 n k1) (.slice none 0 0) (DM.q3r (fun _=>true) d)/\DM.But (DM.j9z (.slice a1 n k1) (.slice a2 m k2)) w' w''):=Lib.hid (fun hmay base a1 k1 a2 k2 w' h hb=>jfb base a1 a2 k1 k2 n m d w' h hb hn hm hmay b2)
 have H:=Lib.hid h;clear h
 have hcase:(x=false/\DM.qxa d=1/\DM.q3f (fun _=>true) d=d)\/(x=true/\DM.q2y d/\DM.qxa d=0/\DM.q3f (fun _=>true) d=DM.q3r (fun _=>true) d):=by
  by_cases hmay:DM.q2y d
  ·refine Or.inr ⟨by rw [<-hx];exact decide_eq_true hmay,hmay,if_pos hmay,if_pos hmay⟩
  ·refine Or.inl ⟨by rw [<-hx];exact decide_eq_false hmay,if_neg hmay,if_neg hmay⟩
 have HN:=Lib.hid hn;clear hn
 have HM:=Lib.hid hm;clear hm
 clear hx
 rcases hcase with ⟨rfl,e1,e2⟩|⟨rfl,hmay,e1,e2⟩
 all_goals
  rw [e1,e2]
  clear e1 e2
  go_enter Tryz.func143,Tryz.ntmps143
  go_wp2_with fail
  have V:=Lib.hid (DM.Var.two w (.slice a1 n k1) (.slice a2 m k2) (.slice none 0 0) (.slice none 0 0) 25)
  have B0:Hid (Below w.heap.size w ((w.alloc (.cells #[.slice a1 n k1,.slice a2 m k2] 25)).alloc (.cells #[.slice none 0 0,.slice none 0 0] 25))):=Lib.hid (DM.qyj w _ _)
  have hz0:w.heap.size+1<((w.alloc (.cells #[.slice a1 n k1,.slice a2 m k2] 25)).alloc (.cells #[.slice none 0 0,.slice none 0 0] 25)).heap.size:=by simp
  generalize hW0:(w.alloc (.cells #[.slice a1 n k1,.slice a2 m k2] 25)).alloc (.cells #[.slice none 0 0,.slice none 0 0] 25)=W0 at *
  clear hW0
  refine (C1.out _ (H.out.below B0.out)).mono ?_;rintro e w1 ⟨b1',q1,b2',q2,rfl,O1,B1⟩
  have O1:=Lib.hid O1
  have A1:=Lib.hid (V.out.1.below B1)
  have R1:=Lib.hid (V.out.2.below B1)
  have BW1:Below w.heap.size w w1:=B0.out.trans (B1.mono B0.out.size)
  have D1:=Lib.hid (H.out.below BW1)
  have c0:=A1.out.c0
  have c1:=A1.out.c1
  have l0:=A1.out.lt
  have z1:=B1.size
  have HB1:=Lib.hid B1;clear B1
  go_wp2_with fail
  have BA:Below w1.heap.size w1 (w1.alloc (.cells #[.slice b1' n q1,.slice b2' m q2] 25)):=(Below.refl _ _).alloc (Nat.le_refl _) _
  refine (C2.out _ (D1.out.below BA)).mono ?_;rintro e w2 ⟨rfl,B2⟩
  have O2:=Lib.hid ((O1.out.below BA).below B2)
  have R2:=Lib.hid ((R1.out.below BA).below B2)
  have S2:=Lib.hid ((DM.Var.made w1 (.slice b1' n q1) (.slice b2' m q2) 25).below B2)
  have BW2:Below w.heap.size w w2:=(BW1.trans (BA.mono BW1.size)).trans (B2.mono (by have:=BW1.size;simp;omega))
  have z2:W0.heap.size<=w2.heap.size:=by have:=B2.size;simp at this;omega
  have s0:=S2.out.c0
  have s1:=S2.out.c1
  have r0:=R2.out.c0
  have r1:=R2.out.c1
  have g0:=R2.out.f0
  have g1:=R2.out.f1
  have l2:=S2.out.lt
  have l3:=R2.out.lt
  clear B2 BA c0 c1 l0 D1 O1 A1 R1
  go_wp2_with fail
 ·refine bodyPost_ret (qlf rfl _ _ (w.heap.size+1) b1' b2' n q1 m q2 rfl (by go_simp) (by go_simp)) rfl ⟨b1',n,q1,b2',m,q2,rfl,?_,?_,fun k hk=>by have:=(O2.out.ge _ hk).1;omega,DM.OD.caps O2.out⟩
  ·exact DM.DV.but O2.out (DM.set2 (B:=w.heap.size+1) (u:=.slice b1' n q1) (v:=.slice b2' m q2)) (fun k hk=>by omega)
  ·exact (BW2.setCell (by simp<;>omega) _).setCell (by simp<;>omega) _
 ·refine (C4.out hmay W0.heap.size b1' q1 b2' q2 _ O2.out z2).mono ?_;rintro e w3 ⟨rfl,O3,BU3⟩
  have O3:=Lib.hid O3
  have R3:=Lib.hid (BU3.var R2.out (fun h=>by have:=(O2.out.ge _ h).1;omega))
  have BW3:Below w.heap.size w w3:=BW2.trans (BU3.to_below BW2.size (fun k hk=>by have:=(O2.out.ge _ hk).1;omega))
  clear BU3 O2 R2 S2 s0 s1 r0 r1 g0 g1
  have r0:=R3.out.c0
  have r1:=R3.out.c1
  have g0:=R3.out.f0
  have g1:=R3.out.f1
  go_wp2_with fail
  refine bodyPost_ret (qlf rfl _ _ (w.heap.size+1) b1' none n q1 0 0 rfl (by go_simp) (by go_simp)) rfl ⟨b1',n,q1,none,0,0,rfl,?_,?_,fun k hk=>by have:=(O3.out.ge _ hk).1;omega,DM.OD.caps O3.out⟩
  ·exact DM.DV.but O3.out (DM.set2 (B:=w.heap.size+1) (u:=.slice b1' n q1) (v:=.slice none 0 0)) (fun k hk=>by omega)
  ·exact (BW3.setCell (by simp<;>omega) _).setCell (by simp<;>omega) _
end DiskW
end Go.Proofs.YthpgnliicpejoaaGreatDoor
namespace Go.Proofs.YthpgnliicpejoaaGreatDoor.AM
open Go.RowKit Go.ChangeShapes Go.WideShapes Go.ChangeAt
set_option linter.unusedVariables false
variable {G:World->Prop}
theorem jjq (d:DM.Dk) (b1:d.secs.length<=1000000) (b2:d.cache.length<=1000000):q15 Tryz.prog G 143 [.one (dk1 d)] (qpx (DM.q3f (fun _=>true) d) (DM.qxa d)):=by
 intro Pc w vs _ hlt hv
 obtain ⟨v,rfl,h⟩:=jnr hv
 obtain ⟨a1,k1,a2,k2,rfl,hd,_,_⟩:=jnh hlt h
 refine (DiskW.j8c a1 a2 k1 k2 _ _ d w hd rfl rfl b1 b2).mono ?_
 rintro e w' ⟨a5,n5,k5,a6,n6,k6,rfl,h1,h2,h3,c1,c2,c3,c4⟩
 exact ⟨_,fun b o=>Pc b o\/(w.heap.size<=b/\b<w'.heap.size),rfl,h2,fun _ _ h=>Or.inl h,fun _ _ h=>h,_,rfl,dk_of h1 c1 c2 c3 c4 (fun g o h1 h2=>Or.inr ⟨h1,h2⟩) h3,q3s (σ:=q2d) _,trivial⟩
section
variable {H:Type} {enc:TypeId×Value->H} {W:World} {base:Nat} {v:Value} {d:DataW H} {p:List MemPlace}
end
end Go.Proofs.YthpgnliicpejoaaGreatDoor.AM
namespace Go.Proofs.YthpgnliicpejoaaGreatDoor.AM
open Go.RowKit
set_option linter.unusedVariables false
set_option linter.unusedSimpArgs false
abbrev IV:={ v:Value // v.oneCell'=true }
def j8d:IV:=⟨.nilIface,rfl⟩
def jn4 (t:TypeId) (v:Value):IV:=⟨.iface t v,rfl⟩
inductive Ty where
 | int (k:IntKind)
 | bool
 | str
 | lst (e:Ty)
 | prod (a b:Ty)
 | any
deriving DecidableEq
@[reducible] def den:Ty->Type
 | .int _=>Int
 | .bool=>Bool
 | .str=>List UInt8
 | .lst e=>List (den e)
 | .prod a b=>den a×den b
 | .any=>IV
def width:Ty->Nat
 | .prod a b=>width a+width b
 | _=>1
def ba (s:List UInt8):ByteArray:=⟨s.toArray⟩
def q0l:(e:Ty)->den e->List Dat
 | .int k,(n:Int)=>[.v (.int k n)]
 | .bool,(b:Bool)=>[.v (.bool b)]
 | .str,(s:List UInt8)=>[.v (.string (ba s))]
 | .lst e,(l:List (den e))=>[.lst (width e) (l.map (q0l e))]
 | .prod a b,(p:den a×den b)=>q0l a p.1++q0l b p.2
 | .any,(v:IV)=>[.v v.1]
theorem qnb (a b:Ty) (p:den (.prod a b)):q0l (.prod a b) p=q0l a (Prod.fst (p:den a×den b))++q0l b (Prod.snd (p:den a×den b)):=rfl
theorem q2a : ∀(e:Ty) (x:den e),(q0l e x).length=width e
 | .int _,_=>rfl
 | .bool,_=>rfl
 | .str,_=>rfl
 | .lst _,_=>rfl
 | .prod a b,p=>by rw [qnb,List.length_append,q2a a,q2a b];rfl
 | .any,_=>rfl
inductive TC where
 | d (ty:Ty) (x:den ty)
 | nil
 | box (β off:Nat)
 | row (t g:Nat)
 | rp (e:Ty) (off:Nat) (x:den e)
 | wp (t g k off:Nat)
 | fn (f:Nat) (caps:List Nat)
 | undef
 | bad
def eC:TC->C
 | .d ty x=>.d ((q0l ty x).headD (.v Go.undef))
 | .nil=>.d (.v (.slice none 0 0))
 | .box β o=>.box β o
 | .row t g=>.row t g
 | .rp e off x=>.rp ((q0l e x).drop off)
 | .wp t g k o=>.wp t g k o
 | .fn f []=>.d (.v (.func (.func f) #[] #[]))
 | .fn f (c::cs)=>.fn f (c::cs)
 | .undef=>.d (.v Go.undef)
 | .bad=>.bad
inductive TD1 where
 | c (x:TC)
 | agg (cs:List TC)
inductive TD where
 | one (x:TD1)
 | tup (xs:List TD1)
def e1:TD1->D1
 | .c x=>.c (eC x)
 | .agg cs=>.agg (cs.map eC)
def eD:TD->D
 | .one x=>.one (e1 x)
 | .tup xs=>.tup (xs.map e1)
structure TRow where
 gen:Nat
 E:Nat
 wr:Bool
 e:Ty
 xs:List (den e)
def eR (r:TRow):Row:=⟨r.gen,r.E,width r.e,r.wr,r.xs.map (q0l r.e)⟩
structure TSt where
 slots:List (Nat×TD)
 boxes:List (Nat×(Nat×List TC))
 rows:List (Nat×TRow)
def lk {α:Type} : List (Nat×α)->Nat->Option α
 | [],_=>none
 | (j,x)::l,i=>bif Nat.beq j i then some x else lk l i
def eB (p:Nat×List TC):Nat×List C:=(p.1,p.2.map eC)
def eS (σ:TSt):St :=
 {slot:=fun i=>match lk σ.slots i with|some x=>eD x|none=>.one (.c .bad)
  box:=fun i=>(lk σ.boxes i).map eB
  row:=fun i=>(lk σ.rows i).map eR }
theorem q1i {α:Type} (j:Nat) (x:α) (l:List (Nat×α)) (i:Nat):lk ((j,x)::l) i=if i=j then some x else lk l i:=by
 show (bif Nat.beq j i then some x else lk l i)=_
 by_cases h:i=j
 ·subst h;rw [if_pos rfl];have:Nat.beq i i=true:=Nat.beq_refl i;rw [this];rfl
 ·rw [if_neg h]
  cases hb:Nat.beq j i with
  | false=>rfl
  | true=>exact absurd (Nat.eq_of_beq_eq_true hb).symm h
structure TRes where
 val:TD
 box:Option (Nat×(Nat×List TC)):=none
 row:Option (Nat×TRow):=none
def qbk (c:Prop) (t:TRes):Res:={ cond:=c,val:=eD t.val,box:=t.box.map fun p=>(p.1,eB p.2),row:=t.row.map fun p=>(p.1,eR p.2) }
def TSt.app (σ:TSt) (r:TRes):TSt :=
 {slots:=σ.slots
  boxes:=match r.box with|some p=>p::σ.boxes|none=>σ.boxes
  rows:=match r.row with|some p=>p::σ.rows|none=>σ.rows }
def TSt.put (σ:TSt) (d:Option Nat) (x:TD):TSt:=match d with
 | some i=>{ σ with slots:=(i,x)::σ.slots }
 | none=>σ
theorem jmi (σ:TSt) (r:TRes) (c:Prop):eS (σ.app r)=(eS σ).app (qbk c r):=by
 obtain ⟨v,bx,rw⟩:=r
 unfold eS TSt.app St.app qbk
 congr 1
 ·cases bx with
  | none=>rfl
  | some p =>
   funext i
   obtain ⟨j,x⟩:=p
   simp only [Option.map_some,q1i,upd]
   split<;>rfl
 ·cases rw with
  | none=>rfl
  | some p =>
   funext i
   obtain ⟨j,x⟩:=p
   simp only [Option.map_some,q1i,upd]
   split<;>rfl
theorem qjs (σ:TSt) (d:Option Nat) (x:TD):eS (σ.put d x)=(eS σ).put d (eD x):=by
 cases d with
 | none=>rfl
 | some i =>
  unfold eS TSt.put St.put
  simp only
  congr 1
  funext j
  simp only [q1i,upd]
  by_cases hj:j=i
  ·simp only [hj,if_true]
  ·simp only [hj,if_false]
def tval:Value->Option TC
 | .int k n=>some (.d (.int k) n)
 | .bool b=>some (.d .bool b)
 | .string s=>some (.d .str s.data.toList)
 | .slice none 0 0=>some .nil
 | .func (.func f) ⟨[]⟩ ⟨[]⟩=>some (.fn f [])
 | .tuple ⟨[]⟩=>some .undef
 | .nilIface=>some (.d .any j8d)
 | _=>none
def qsf:List Value->Option (List TC)
 | []=>some []
 | v::vs=>match tval v,qsf vs with
  | some x,some xs=>some (x::xs)
  | _,_=>none
theorem jds {v:Value} {x:TC} (h:tval v=some x):eC x=qd8 v:=by
 unfold tval at h
 split at h<;>simp only [Option.some.injEq,reduceCtorEq] at h<;>subst h<;>first|rfl|skip
theorem qbb : ∀{vs:List Value} {xs:List TC},qsf vs=some xs->xs.map eC=vs.map qd8
 | [],xs,h=>by simp only [qsf,Option.some.injEq] at h;subst h;rfl
 | v::vs,xs,h=>by
  unfold qsf at h
  split at h
  case h_2=>cases h
  rename_i x ys hx hy
  simp only [Option.some.injEq] at h
  subst h
  rw [List.map_cons,List.map_cons,jds hx,qbb hy]
def jpj:Value->Option TD
 | .agg cs=>(qsf cs.toList).map fun xs=>.one (.agg xs)
 | v=>(tval v).map fun x=>.one (.c x)
theorem jk7 {v:Value} {x:TD} (h:jpj v=some x):eD x=j9f v:=by
 unfold jpj at h
 split at h
 ·obtain ⟨xs,h1,rfl⟩:=Option.map_eq_some_iff.1 h
  simp only [eD,e1,j9f,qbb h1]
 ·rename_i v' hv
  obtain ⟨xs,h1,rfl⟩:=Option.map_eq_some_iff.1 h
  simp only [eD,e1,jds h1]
  cases v<;>first|rfl|exact absurd rfl (hv _)
def q1s (σ:TSt):Operand->Option TD
 | .tmp t=>lk σ.slots t
 | .const v=>jpj v
 | .func f=>some (.one (.c (.fn f [])))
 | .global g=>none
theorem q0t {σ:TSt} {x:Operand} {y:TD} (h:q1s σ x=some y):opnd (eS σ) x=eD y:=by
 cases x with
 | tmp t=>unfold q1s at h;simp only [opnd,eS,h]
 | const v=>exact (jk7 h).symm
 | func f=>simp only [q1s,Option.some.injEq] at h;subst h;rfl
 | global g=>cases h
def qr2 (e:Ty) (x:den e):List TC:=match e,x with
 | .int k,x=>[.d (.int k) x]
 | .bool,x=>[.d .bool x]
 | .str,x=>[.d .str x]
 | .lst e,x=>[.d (.lst e) x]
 | .prod a b,(p:den a×den b)=>qr2 a p.1++qr2 b p.2
 | .any,x=>[.d .any x]
theorem q9x : ∀(e:Ty) (x:den e),(qr2 e x).map eC=(q0l e x).map C.d
 | .int _,_=>rfl
 | .bool,_=>rfl
 | .str,_=>rfl
 | .lst _,_=>rfl
 | .prod a b,p=>by rw [qnb,List.map_append,<-q9x a,<-q9x b,<-List.map_append];rfl
 | .any,_=>rfl
def unD (ty:Ty):List TC->Option (den ty)
 | [.d ty' x]=>if h:ty'=ty then some (h ▸ x) else none
 | _=>none
theorem qp0 {ty:Ty} {cs:List TC} {x:den ty} (h:unD ty cs=some x):cs = [.d ty x]:=by
 unfold unD at h
 split at h
 ·rename_i ty' y
  split at h
  ·rename_i hty
   subst hty
   simp only [Option.some.injEq] at h
   subst h;rfl
  ·cases h
 ·cases h
def j96:(e:Ty)->List TC->Option (den e)
 | .prod a b,cs=>match j96 a (cs.take (width a)),j96 b (cs.drop (width a)) with
  | some x,some y=>some (x,y)
  | _,_=>none
 | .int k,cs=>unD (.int k) cs
 | .bool,cs=>unD .bool cs
 | .str,cs=>unD .str cs
 | .lst e,cs=>unD (.lst e) cs
 | .any,cs=>unD .any cs
theorem qjf : ∀{e:Ty} {cs:List TC} {x:den e},j96 e cs=some x->cs.map eC=(q0l e x).map C.d
 | .prod a b,cs,x,h=>by
  unfold j96 at h
  split at h
  case h_2=>cases h
  rename_i y z hy hz
  obtain rfl:(y,z)=x:=Option.some.inj h
  have h1:=qjf hy
  have h2:=qjf hz
  show List.map eC cs=List.map C.d (q0l a y++q0l b z)
  rw [List.map_append,<-h1,<-h2,<-List.map_append,List.take_append_drop]
 | .int k,cs,x,h=>by rw [qp0 h];rfl
 | .bool,cs,x,h=>by rw [qp0 h];rfl
 | .str,cs,x,h=>by rw [qp0 h];rfl
 | .lst e,cs,x,h=>by rw [qp0 h];rfl
 | .any,cs,x,h=>by rw [qp0 h];rfl
end Go.Proofs.YthpgnliicpejoaaGreatDoor.AM
