
import Derived.Test.YthpgnliicpejoaaGreatDoorVt12
import Derived.Test.YthpgnliicpejoaaGreatDoorVt10
namespace Go.Proofs.YthpgnliicpejoaaGreatDoor.AM
open Go.RowKit
set_option linter.unusedSimpArgs false
set_option linter.unusedVariables false
def rnS (d:DM.Dk) (l:List DM.Ac) (x:Int) (D:DM.Dk) (k:Nat):St:=St.of [(1,jb2 3 (ji6 l)),(2,q21 (.int .i64 x)),(3,.one (.c (.box 3 0))),(6,.one (.c (.box 6 0))),(8,.one (.c (.box 8 0))),(9,q21 (.int .i64 k))] [(3,(25,dkC d)),(6,(25,j7k)),(8,(25,dkC D))] []
set_option maxHeartbeats 3200000 in
set_option maxRecDepth 100000 in
theorem jii {G:World->Prop} (hG:qt8 G) (d:DM.Dk) (l:List DM.Ac) (x:Int) (N:Nat) (b1:d.secs.length<=100000) (b2:d.cache.length<=100000) (b3:l.length<=100000) (hsz : ∀a∈l,a.2.2.size<=1000) (hN:min (max x 0) (l.length:Int)=(N:Int)) (hm:DM.q2y d) :
  q15 Tryz.prog G 31 [.one (dk1 d),jb2 3 (ji6 l),q21 (.int .i64 x)] (qpx (DM.jpm d (l.take N)) (DM.jlc d (l.take N))):=by
 have e0:decide (DM.q2y d)=true:=decide_eq_true hm
 unfold dk1
 refine q2w Tryz.func31 rfl (by simp [Tryz.ntmps31]) hG ?_;intro F hF hFG Q hQ;rw [Tryz.ntmps31] at hF;rw [Tryz.results31] at hQ
 repeat (first|((first|refine q00 (by rw [hF];kernel_rfl) ?_|refine q03 (by rw [hF];kernel_rfl) ?_);(repeat (refine q0b fun K1 hK1=>?_;simp only [push_cast,Nat.reduceEqDiff,Nat.reduceAdd,Nat.reduceLeDiff,Nat.reduceLT];(try simp (disch:=omega) only [wrap64,q0m]);(first|refine hK1 _ ?_|refine ⟨by omega,hK1 _ ?_⟩);clear hK1 K1));refine q0g ?_)|refine q0e ?_|refine q08 ?_|refine q0d ?_|refine q0c ?_|refine q0f ?_|refine q02 ?_|refine q07 ?_|refine q09 ?_|refine q01 ?_|refine q0a ?_|refine q06 ?_|refine q04 rfl ?_)
 (first|(refine q00 (by rw [hF];kernel_rfl) ?_)|(refine q03 (by rw [hF];kernel_rfl) ?_));(repeat (refine q0b fun K1 hK1=>?_;simp only [push_cast,Nat.reduceEqDiff,Nat.reduceAdd,Nat.reduceLeDiff];(try simp (disch:=omega) only [wrap64,q0m]);(first|refine hK1 _ ?_|refine ⟨by omega,hK1 _ ?_⟩);clear hK1 K1))
 refine q2i (by simp only [push_cast]) rfl (by simp only [push_cast]) (by kernel_rfl) (by simp only [push_cast,Nat.reduceEqDiff,dk1]) (qbu F.gst d (by omega) (by omega)) ?_
 (repeat (refine q0b fun K1 hK1=>?_;simp only [push_cast,Nat.reduceEqDiff,e0];(try simp (disch:=omega) only [wrap64,q0m]);(first|refine hK1 _ ?_|refine ⟨by omega,hK1 _ ?_⟩);clear hK1 K1));refine q0g ?_
 repeat (first|((first|refine q00 (by rw [hF];kernel_rfl) ?_|refine q03 (by rw [hF];kernel_rfl) ?_);(repeat (refine q0b fun K1 hK1=>?_;simp only [push_cast,Nat.reduceEqDiff,reduceCtorEq,Nat.reduceAdd,Nat.reduceMul,Nat.reduceSub,Nat.reduceLeDiff,Nat.reduceLT,Nat.reduceBEq,Nat.reducePow,Int.reduceEq,Int.reduceLT,Int.reduceLE,Int.reduceNeg,Int.reduceAdd,Int.reduceToNat,reduceIte,decide_true,decide_false];(try simp (disch:=omega) only [wrap64,q0m]);(first|refine hK1 _ ?_|refine ⟨by omega,hK1 _ ?_⟩);clear hK1 K1));refine q0g ?_)|refine q0e ?_|refine q08 ?_|refine q0d ?_|refine q0c ?_|refine q0f ?_|refine q02 ?_|refine q07 ?_|refine q09 ?_|refine q01 ?_|refine q0a ?_|refine q06 ?_|refine q04 rfl ?_)
 refine q0s (by simp only [push_cast,Nat.reduceEqDiff]) ?_
 repeat (first|((first|refine q00 (by rw [hF];kernel_rfl) ?_|refine q03 (by rw [hF];kernel_rfl) ?_);(repeat (refine q0b fun K1 hK1=>?_;simp only [push_cast];(try simp (disch:=omega) only [wrap64,q0m]);(first|refine hK1 _ ?_|refine ⟨by omega,hK1 _ ?_⟩);clear hK1 K1));refine q0g ?_)|refine q0e ?_|refine q08 ?_|refine q0d ?_|refine q0c ?_|refine q0f ?_|refine q02 ?_|refine q07 ?_|refine q09 ?_|refine q01 ?_|refine q0a ?_|refine q06 ?_|refine q04 rfl ?_)
 have hNl:N<=l.length:=by omega
 have hNx:(N:Int)<=max x 0:=by omega
 refine q3e (fun n σ=>∃ k:Nat,k<=N/\n=N - k/\(∀j (h:j<l.length),j<k->DM.q9h d.secs.length l[j])/\σ=rnS d l x (DM.runK d (l.take k)) k) N (rnS d l x d 0) ⟨0,Nat.zero_le _,rfl,fun j h hj=>by omega,rfl⟩ (by unfold rnS;(refine Le.of ?_ ?_ ?_<;>simp only [List.not_mem_nil,false_implies,implies_true,and_true,push_cast,Nat.reduceEqDiff,reduceCtorEq,Nat.reduceBEq])) ?_
 rintro n σ ⟨k,hk,rfl,hall,rfl⟩
 have hok : ∀a∈l.take k,DM.q9h d.secs.length a:=fun a ha=>by
  obtain ⟨m,hm,rfl⟩:=List.getElem_of_mem ha
  rw [List.length_take] at hm
  rw [List.getElem_take]
  exact hall m (by omega) (by omega)
 have hmD:DM.q2y (DM.runK d (l.take k)):=DM.jeb hm hok
 have hlD:(DM.runK d (l.take k)).secs.length=d.secs.length:=DM.j6x ..
 have hcD:(DM.runK d (l.take k)).cache.length<=200000:=by
  have h1:=DM.ja3 d (l.take k)
  rw [List.length_take] at h1
  omega
 by_cases hkN:k<N
 ·have hkl:k<l.length:=by omega
  have hki:(k:Int)<(l.length:Int):=by omega
  have hkx:(k:Int)<x:=by omega
  have hg:=jlh hkl
  have hsn:=DM.jhi d l k hkl
  have hse:=hsz _ (List.getElem_mem hkl)
  have hbad:=DM.je7 d.secs.length (l.take N) k (by rw [List.length_take];omega) (fun j h hj=>by rw [List.getElem_take];exact hall j (by rw [List.length_take] at h;omega) hj)
  rw [List.getElem_take] at hbad
  obtain ⟨⟨fl,at',s⟩,ha⟩ : ∃ a:DM.Ac,l[k]=a:=⟨_,rfl⟩
  rw [ha] at hg hsn hse hbad
  have hall':DM.q9h d.secs.length (fl,at',s)->∀j (h:j<l.length),j<k+1->DM.q9h d.secs.length l[j]:=fun h j hj hjk=>by
   by_cases e:j=k
   ·subst e;rw [ha];exact h
   ·exact hall j hj (by omega)
  obtain ⟨D,hD⟩ : ∃ D,DM.runK d (l.take k)=D:=⟨_,rfl⟩
  rw [hD] at hmD hlD hcD hsn
  rw [hD]
  unfold rnS
  cases fl
  ·obtain ⟨X,hX⟩ : ∃ X,DM.q8q d.secs.length at' s=X:=⟨_,rfl⟩
   obtain ⟨D',hD'⟩ : ∃ D',DM.jaj D at' s=D':=⟨_,rfl⟩
   have C2:q15 Tryz.prog F.G 61 [.one (dk1 D),q21 (.int .i64 at'),q21 (.string s)] (qpx D' X):=by
    have:=jqt F.gst D at' s (by omega) (by omega) hse
    rw [DM.jfs,if_pos hmD,hlD,hX,hD'] at this
    exact this
   repeat (first|((first|refine q00 (by rw [hF];kernel_rfl) ?_|refine q03 (by rw [hF];kernel_rfl) ?_);(repeat (refine q0b fun K1 hK1=>?_;simp only [push_cast,Nat.reduceEqDiff,Nat.reduceBEq,decide_true,hki,hkx];(try simp (disch:=omega) only [wrap64,q0m]);(first|refine hK1 _ ?_|refine ⟨by omega,hK1 _ ?_⟩);clear hK1 K1));refine q0g ?_)|refine q0e ?_|refine q08 ?_|refine q0d ?_|refine q0c ?_|refine q0f ?_|refine q02 ?_|refine q07 ?_|refine q09 ?_|refine q01 ?_|refine q0a ?_|refine q06 ?_|refine q04 rfl ?_)
   refine q0q (by simp only [push_cast,Nat.reduceEqDiff,Nat.reduceBEq]) ?_
   repeat (first|((first|refine q00 (by rw [hF];kernel_rfl) ?_|refine q03 (by rw [hF];kernel_rfl) ?_);(repeat (refine q0b fun K1 hK1=>?_;simp only [push_cast,Nat.reduceEqDiff,Nat.reduceAdd,Nat.reduceBEq,hg];(try simp (disch:=omega) only [wrap64,q0m]);(first|refine hK1 _ ?_|refine ⟨by omega,hK1 _ ?_⟩);clear hK1 K1));refine q0g ?_)|refine q0e ?_|refine q08 ?_|refine q0d ?_|refine q0c ?_|refine q0f ?_|refine q02 ?_|refine q07 ?_|refine q09 ?_|refine q01 ?_|refine q0a ?_|refine q06 ?_|refine q04 rfl ?_)
   refine q0s (by simp only [push_cast,Nat.reduceEqDiff,Nat.reduceBEq]) ?_
   repeat (first|((first|refine q00 (by rw [hF];kernel_rfl) ?_|refine q03 (by rw [hF];kernel_rfl) ?_);(repeat (refine q0b fun K1 hK1=>?_;simp only [push_cast,Nat.reduceEqDiff,reduceCtorEq,Nat.reduceAdd,Nat.reduceMul,Nat.reduceSub,Nat.reduceLeDiff,Nat.reduceLT,Nat.reduceBEq,Nat.reducePow,Int.reduceEq,Int.reduceLT,Int.reduceLE,Int.reduceNeg,Int.reduceAdd,Int.reduceToNat,reduceIte,decide_true,decide_false];(try simp (disch:=omega) only [wrap64,q0m]);(first|refine hK1 _ ?_|refine ⟨by omega,hK1 _ ?_⟩);clear hK1 K1));refine q0g ?_)|refine q0e ?_|refine q08 ?_|refine q0d ?_|refine q0c ?_|refine q0f ?_|refine q02 ?_|refine q07 ?_|refine q09 ?_|refine q01 ?_|refine q0a ?_|refine q06 ?_|refine q04 rfl ?_)
   (first|(refine q2n (by kernel_rfl) (by rw [hF];kernel_rfl) ?_)|(refine q2m (by kernel_rfl) (by rw [hF];kernel_rfl) ?_));(repeat (refine q45 fun K1 hK1=>?_;simp only [push_cast,Nat.reduceEqDiff,Nat.reduceAdd,Nat.reduceLeDiff,Nat.reduceBEq,hg];(try simp (disch:=omega) only [wrap64,q0m]);(first|refine hK1 _ _ ?_|refine ⟨by omega,hK1 _ _ ?_⟩);clear hK1 K1))
   refine j80 (by simp only [push_cast]) rfl (by simp only [push_cast]) (by kernel_rfl) (by simp only [push_cast,Nat.reduceEqDiff,Nat.reduceBEq,dk1]) (C2) fun K1 hK1=>?_;simp only [push_cast];refine hK1 _ _ ?_;clear hK1 K1
   unfold qpx dk1
   (repeat (refine q45 fun K1 hK1=>?_;simp only [push_cast,Nat.reduceEqDiff,Nat.reduceAdd,Nat.reduceLeDiff,Nat.reduceLT,Nat.reduceBEq];(try simp (disch:=omega) only [wrap64,q0m]);(first|refine hK1 _ _ ?_|refine ⟨by omega,hK1 _ _ ?_⟩);clear hK1 K1));refine q6y (by kernel_rfl) ?_
   by_cases hX0:X=0
   ·repeat (first|((first|refine q00 (by rw [hF];kernel_rfl) ?_|refine q03 (by rw [hF];kernel_rfl) ?_);(repeat (refine q0b fun K1 hK1=>?_;simp only [push_cast,Nat.reduceEqDiff,Nat.reduceAdd,Nat.reduceLeDiff,Nat.reduceBEq,decide_true,hX0];(try simp (disch:=omega) only [wrap64,q0m]);(first|refine hK1 _ ?_|refine ⟨by omega,hK1 _ ?_⟩);clear hK1 K1));refine q0g ?_)|refine q0e ?_|refine q08 ?_|refine q0d ?_|refine q0c ?_|refine q0f ?_|refine q02 ?_|refine q07 ?_|refine q09 ?_|refine q01 ?_|refine q0a ?_|refine q06 ?_|refine q04 rfl ?_)
    refine q0s (by simp only [push_cast,Nat.reduceEqDiff,Nat.reduceBEq]) ?_
    repeat (first|((first|refine q00 (by rw [hF];kernel_rfl) ?_|refine q03 (by rw [hF];kernel_rfl) ?_);(repeat (refine q0b fun K1 hK1=>?_;simp only [push_cast,Nat.reduceEqDiff,Nat.reduceBEq];(try simp (disch:=omega) only [wrap64]);(first|refine hK1 _ ?_|refine ⟨by omega,hK1 _ ?_⟩);clear hK1 K1));refine q0g ?_)|refine q0e ?_|refine q08 ?_|refine q0d ?_|refine q0c ?_|refine q0f ?_|refine q02 ?_|refine q07 ?_|refine q09 ?_|refine q01 ?_|refine q0a ?_|refine q06 ?_|refine q04 rfl ?_)
    have hst:DM.runK d (l.take (k+1))=D':=by
     rw [hsn,<-hD',DM.jaj,if_pos hmD,DM.qqj,hlD,hX,if_pos hX0]
     rfl
    refine ⟨_,_,?_,⟨k+1,hkN,rfl,hall' (Or.inr (hX.trans hX0)),rfl⟩,?_⟩
    ·omega
    ·rw [hst]
     (refine Le.of ?_ ?_ ?_<;>simp only [List.not_mem_nil,false_implies,implies_true,and_true,push_cast,Nat.reduceEqDiff,reduceCtorEq,Nat.reduceBEq])
   ·repeat (first|((first|refine q00 (by rw [hF];kernel_rfl) ?_|refine q03 (by rw [hF];kernel_rfl) ?_);(repeat (refine q0b fun K1 hK1=>?_;simp only [push_cast,Nat.reduceEqDiff,Nat.reduceAdd,Nat.reduceLeDiff,Nat.reduceBEq,decide_false,hX0];(try simp (disch:=omega) only [wrap64,q0m]);(first|refine hK1 _ ?_|refine ⟨by omega,hK1 _ ?_⟩);clear hK1 K1));refine q0g ?_)|refine q0e ?_|refine q08 ?_|refine q0d ?_|refine q0c ?_|refine q0f ?_|refine q02 ?_|refine q07 ?_|refine q09 ?_|refine q01 ?_|refine q0a ?_|refine q06 ?_|refine q04 rfl ?_)
    refine q0q (by simp only [push_cast,Nat.reduceEqDiff,Nat.reduceBEq]) ?_
    repeat (first|((first|refine q00 (by rw [hF];kernel_rfl) ?_|refine q03 (by rw [hF];kernel_rfl) ?_);(repeat (refine q0b fun K1 hK1=>?_;simp only [push_cast,Nat.reduceEqDiff,Nat.reduceAdd,Nat.reduceLeDiff,Nat.reduceBEq];(try simp (disch:=omega) only [wrap64,q0m]);(first|refine hK1 _ ?_|refine ⟨by omega,hK1 _ ?_⟩);clear hK1 K1));refine q0g ?_)|refine q0e ?_|refine q08 ?_|refine q0d ?_|refine q0c ?_|refine q0f ?_|refine q02 ?_|refine q07 ?_|refine q09 ?_|refine q01 ?_|refine q0a ?_|refine q06 ?_|refine q04 rfl ?_)
    refine (hQ _ ?_).2
    have hno : ¬ DM.q9h d.secs.length (false,at',s):=fun h=>by
     rcases h with h|h
     ·cases h
     ·exact hX0 (hX.symm.trans h)
    obtain ⟨h1,h2⟩:=hbad hno
    have h3:DM.jlc d (l.take N)=X:=by rw [DM.jlc,if_pos hm,h1];exact hX
    have h4:DM.jpm d (l.take N)=d:=if_neg (fun h=>h2 h.2)
    simp only [push_cast,Nat.reduceEqDiff,Nat.reduceAdd,Nat.reduceLeDiff,Nat.reduceBEq,h3,h4]
    rfl
  ·obtain ⟨D',hD'⟩ : ∃ D',DM.q3f (fun _=>true) D=D':=⟨_,rfl⟩
   have hst:DM.runK d (l.take (k+1))=D':=by
    rw [hsn,<-hD',DM.q3f,if_pos hmD]
    rfl
   have C1:q15 Tryz.prog F.G 60 [.one (dk1 D)] (qpx D' 0):=by
    have:=jdv F.gst D (by omega) (by omega)
    rw [hD',DM.qxa,if_pos hmD] at this
    exact this
   repeat (first|((first|refine q00 (by rw [hF];kernel_rfl) ?_|refine q03 (by rw [hF];kernel_rfl) ?_);(repeat (refine q0b fun K1 hK1=>?_;simp only [push_cast,Nat.reduceEqDiff,Nat.reduceBEq,decide_true,hki,hkx];(try simp (disch:=omega) only [wrap64,q0m]);(first|refine hK1 _ ?_|refine ⟨by omega,hK1 _ ?_⟩);clear hK1 K1));refine q0g ?_)|refine q0e ?_|refine q08 ?_|refine q0d ?_|refine q0c ?_|refine q0f ?_|refine q02 ?_|refine q07 ?_|refine q09 ?_|refine q01 ?_|refine q0a ?_|refine q06 ?_|refine q04 rfl ?_)
   refine q0q (by simp only [push_cast,Nat.reduceEqDiff,Nat.reduceBEq]) ?_
   repeat (first|((first|refine q00 (by rw [hF];kernel_rfl) ?_|refine q03 (by rw [hF];kernel_rfl) ?_);(repeat (refine q0b fun K1 hK1=>?_;simp only [push_cast,Nat.reduceEqDiff,Nat.reduceAdd,Nat.reduceBEq,hg];(try simp (disch:=omega) only [wrap64,q0m]);(first|refine hK1 _ ?_|refine ⟨by omega,hK1 _ ?_⟩);clear hK1 K1));refine q0g ?_)|refine q0e ?_|refine q08 ?_|refine q0d ?_|refine q0c ?_|refine q0f ?_|refine q02 ?_|refine q07 ?_|refine q09 ?_|refine q01 ?_|refine q0a ?_|refine q06 ?_|refine q04 rfl ?_)
   refine q0q (by simp only [push_cast,Nat.reduceEqDiff,Nat.reduceBEq]) ?_
   repeat (first|((first|refine q00 (by rw [hF];kernel_rfl) ?_|refine q03 (by rw [hF];kernel_rfl) ?_);(repeat (refine q0b fun K1 hK1=>?_;simp only [push_cast,Nat.reduceEqDiff,Nat.reduceAdd,Nat.reduceLeDiff,Nat.reduceBEq];(try simp (disch:=omega) only [wrap64,q0m]);(first|refine hK1 _ ?_|refine ⟨by omega,hK1 _ ?_⟩);clear hK1 K1));refine q0g ?_)|refine q0e ?_|refine q08 ?_|refine q0d ?_|refine q0c ?_|refine q0f ?_|refine q02 ?_|refine q07 ?_|refine q09 ?_|refine q01 ?_|refine q0a ?_|refine q06 ?_|refine q04 rfl ?_)
   (first|(refine q00 (by rw [hF];kernel_rfl) ?_)|(refine q03 (by rw [hF];kernel_rfl) ?_));(repeat (refine q0b fun K1 hK1=>?_;simp only [push_cast,Nat.reduceEqDiff,Nat.reduceAdd,Nat.reduceLeDiff,Nat.reduceBEq];(try simp (disch:=omega) only [wrap64,q0m]);(first|refine hK1 _ ?_|refine ⟨by omega,hK1 _ ?_⟩);clear hK1 K1))
   refine q2i (by simp only [push_cast]) rfl (by simp only [push_cast]) (by kernel_rfl) (by simp only [push_cast,Nat.reduceEqDiff,Nat.reduceBEq,dk1]) (C1) ?_
   unfold qpx dk1
   (repeat (refine q0b fun K1 hK1=>?_;simp only [push_cast,Nat.reduceEqDiff,Nat.reduceAdd,Nat.reduceLeDiff,Nat.reduceLT,Nat.reduceBEq];(try simp (disch:=omega) only [wrap64,q0m]);(first|refine hK1 _ ?_|refine ⟨by omega,hK1 _ ?_⟩);clear hK1 K1));refine q0g ?_
   repeat (first|((first|refine q00 (by rw [hF];kernel_rfl) ?_|refine q03 (by rw [hF];kernel_rfl) ?_);(repeat (refine q0b fun K1 hK1=>?_;simp only [push_cast,Nat.reduceEqDiff,Nat.reduceAdd,Nat.reduceLeDiff,Nat.reduceBEq,decide_true];(try simp (disch:=omega) only [wrap64,q0m]);(first|refine hK1 _ ?_|refine ⟨by omega,hK1 _ ?_⟩);clear hK1 K1));refine q0g ?_)|refine q0e ?_|refine q08 ?_|refine q0d ?_|refine q0c ?_|refine q0f ?_|refine q02 ?_|refine q07 ?_|refine q09 ?_|refine q01 ?_|refine q0a ?_|refine q06 ?_|refine q04 rfl ?_)
   refine q0s (by simp only [push_cast,Nat.reduceEqDiff,Nat.reduceBEq]) ?_
   repeat (first|((first|refine q00 (by rw [hF];kernel_rfl) ?_|refine q03 (by rw [hF];kernel_rfl) ?_);(repeat (refine q0b fun K1 hK1=>?_;simp only [push_cast,Nat.reduceEqDiff,Nat.reduceBEq];(try simp (disch:=omega) only [wrap64]);(first|refine hK1 _ ?_|refine ⟨by omega,hK1 _ ?_⟩);clear hK1 K1));refine q0g ?_)|refine q0e ?_|refine q08 ?_|refine q0d ?_|refine q0c ?_|refine q0f ?_|refine q02 ?_|refine q07 ?_|refine q09 ?_|refine q01 ?_|refine q0a ?_|refine q06 ?_|refine q04 rfl ?_)
   refine ⟨_,_,?_,⟨k+1,hkN,rfl,hall' (Or.inl rfl),rfl⟩,?_⟩
   ·omega
   ·rw [hst]
    (refine Le.of ?_ ?_ ?_<;>simp only [List.not_mem_nil,false_implies,implies_true,and_true,push_cast,Nat.reduceEqDiff,reduceCtorEq,Nat.reduceBEq])
 ·have hkk:k=N:=by omega
  subst hkk
  have hE:DM.qoq d.secs.length (l.take k)=0:=DM.j7u _ _ hok
  have h3:DM.jlc d (l.take k)=0:=by rw [DM.jlc,if_pos hm,hE]
  have h4:DM.jpm d (l.take k)=DM.runK d (l.take k):=if_pos ⟨hm,hE⟩
  rw [h3,h4] at hQ
  obtain ⟨D,hD⟩ : ∃ D,DM.runK d (l.take k)=D:=⟨_,rfl⟩
  rw [hD] at hQ ⊢
  unfold rnS
  by_cases hki:(k:Int)<(l.length:Int)
  ·have hkx : ¬ (k:Int)<x:=by omega
   repeat (first|((first|refine q00 (by rw [hF];kernel_rfl) ?_|refine q03 (by rw [hF];kernel_rfl) ?_);(repeat (refine q0b fun K1 hK1=>?_;simp only [push_cast,Nat.reduceEqDiff,Nat.reduceBEq,decide_true,decide_false,hki,hkx];(try simp (disch:=omega) only [wrap64,q0m]);(first|refine hK1 _ ?_|refine ⟨by omega,hK1 _ ?_⟩);clear hK1 K1));refine q0g ?_)|refine q0e ?_|refine q08 ?_|refine q0d ?_|refine q0c ?_|refine q0f ?_|refine q02 ?_|refine q07 ?_|refine q09 ?_|refine q01 ?_|refine q0a ?_|refine q06 ?_|refine q04 rfl ?_)
   refine q0s (by simp only [push_cast,Nat.reduceEqDiff,Nat.reduceBEq]) ?_
   repeat (first|((first|refine q00 (by rw [hF];kernel_rfl) ?_|refine q03 (by rw [hF];kernel_rfl) ?_);(repeat (refine q0b fun K1 hK1=>?_;simp only [push_cast,Nat.reduceEqDiff,Nat.reduceAdd,Nat.reduceLeDiff,Nat.reduceBEq];(try simp (disch:=omega) only [wrap64,q0m]);(first|refine hK1 _ ?_|refine ⟨by omega,hK1 _ ?_⟩);clear hK1 K1));refine q0g ?_)|refine q0e ?_|refine q08 ?_|refine q0d ?_|refine q0c ?_|refine q0f ?_|refine q02 ?_|refine q07 ?_|refine q09 ?_|refine q01 ?_|refine q0a ?_|refine q06 ?_|refine q04 rfl ?_)
   refine (hQ _ ?_).2
   simp only [push_cast,Nat.reduceEqDiff,Nat.reduceAdd,Nat.reduceLeDiff,Nat.reduceBEq]
   rfl
  ·repeat (first|((first|refine q00 (by rw [hF];kernel_rfl) ?_|refine q03 (by rw [hF];kernel_rfl) ?_);(repeat (refine q0b fun K1 hK1=>?_;simp only [push_cast,Nat.reduceEqDiff,reduceCtorEq,Nat.reduceBEq,decide_false,hki];(try simp (disch:=omega) only [wrap64,q0m]);(first|refine hK1 _ ?_|refine ⟨by omega,hK1 _ ?_⟩);clear hK1 K1));refine q0g ?_)|refine q0e ?_|refine q08 ?_|refine q0d ?_|refine q0c ?_|refine q0f ?_|refine q02 ?_|refine q07 ?_|refine q09 ?_|refine q01 ?_|refine q0a ?_|refine q06 ?_|refine q04 rfl ?_)
   refine q0s (by simp only [push_cast,Nat.reduceEqDiff,Nat.reduceBEq]) ?_
   repeat (first|((first|refine q00 (by rw [hF];kernel_rfl) ?_|refine q03 (by rw [hF];kernel_rfl) ?_);(repeat (refine q0b fun K1 hK1=>?_;simp only [push_cast,Nat.reduceEqDiff,Nat.reduceAdd,Nat.reduceLeDiff,Nat.reduceBEq];(try simp (disch:=omega) only [wrap64,q0m]);(first|refine hK1 _ ?_|refine ⟨by omega,hK1 _ ?_⟩);clear hK1 K1));refine q0g ?_)|refine q0e ?_|refine q08 ?_|refine q0d ?_|refine q0c ?_|refine q0f ?_|refine q02 ?_|refine q07 ?_|refine q09 ?_|refine q01 ?_|refine q0a ?_|refine q06 ?_|refine q04 rfl ?_)
   refine (hQ _ ?_).2
   simp only [push_cast,Nat.reduceEqDiff,Nat.reduceAdd,Nat.reduceLeDiff,Nat.reduceBEq]
   rfl
theorem jog {G:World->Prop} (hG:qt8 G) (d:DM.Dk) (l:List DM.Ac) (x:Int) (N:Nat) (b1:d.secs.length<=100000) (b2:d.cache.length<=100000) (hm : ¬ DM.q2y d) :
  q15 Tryz.prog G 31 [.one (dk1 d),jb2 3 (ji6 l),q21 (.int .i64 x)] (qpx (DM.jpm d (l.take N)) (DM.jlc d (l.take N))):=by
 have e0:decide (DM.q2y d)=false:=decide_eq_false hm
 rw [DM.jlc,DM.jpm,if_neg hm,if_neg (fun h=>hm h.1)]
 unfold qpx
 unfold dk1
 refine q2w Tryz.func31 rfl (by simp [Tryz.ntmps31]) hG ?_;intro F hF hFG Q hQ;rw [Tryz.ntmps31] at hF;rw [Tryz.results31] at hQ
 repeat (first|((first|refine q00 (by rw [hF];kernel_rfl) ?_|refine q03 (by rw [hF];kernel_rfl) ?_);(repeat (refine q0b fun K1 hK1=>?_;simp only [push_cast,Nat.reduceEqDiff,Nat.reduceAdd,Nat.reduceLeDiff,Nat.reduceLT];(try simp (disch:=omega) only [wrap64,q0m]);(first|refine hK1 _ ?_|refine ⟨by omega,hK1 _ ?_⟩);clear hK1 K1));refine q0g ?_)|refine q0e ?_|refine q08 ?_|refine q0d ?_|refine q0c ?_|refine q0f ?_|refine q02 ?_|refine q07 ?_|refine q09 ?_|refine q01 ?_|refine q0a ?_|refine q06 ?_|refine q04 rfl ?_)
 (first|(refine q00 (by rw [hF];kernel_rfl) ?_)|(refine q03 (by rw [hF];kernel_rfl) ?_));(repeat (refine q0b fun K1 hK1=>?_;simp only [push_cast,Nat.reduceEqDiff,Nat.reduceAdd,Nat.reduceLeDiff];(try simp (disch:=omega) only [wrap64,q0m]);(first|refine hK1 _ ?_|refine ⟨by omega,hK1 _ ?_⟩);clear hK1 K1))
 refine q2i (by simp only [push_cast]) rfl (by simp only [push_cast]) (by kernel_rfl) (by simp only [push_cast,Nat.reduceEqDiff,dk1]) (qbu F.gst d (by omega) (by omega)) ?_
 (repeat (refine q0b fun K1 hK1=>?_;simp only [push_cast,Nat.reduceEqDiff,e0];(try simp (disch:=omega) only [wrap64,q0m]);(first|refine hK1 _ ?_|refine ⟨by omega,hK1 _ ?_⟩);clear hK1 K1));refine q0g ?_
 repeat (first|((first|refine q00 (by rw [hF];kernel_rfl) ?_|refine q03 (by rw [hF];kernel_rfl) ?_);(repeat (refine q0b fun K1 hK1=>?_;simp only [push_cast,Nat.reduceEqDiff,reduceCtorEq,Nat.reduceAdd,Nat.reduceMul,Nat.reduceSub,Nat.reduceLeDiff,Nat.reduceLT,Nat.reduceBEq,Nat.reducePow,Int.reduceEq,Int.reduceLT,Int.reduceLE,Int.reduceNeg,Int.reduceAdd,Int.reduceToNat,reduceIte,decide_true,decide_false];(try simp (disch:=omega) only [wrap64,q0m]);(first|refine hK1 _ ?_|refine ⟨by omega,hK1 _ ?_⟩);clear hK1 K1));refine q0g ?_)|refine q0e ?_|refine q08 ?_|refine q0d ?_|refine q0c ?_|refine q0f ?_|refine q02 ?_|refine q07 ?_|refine q09 ?_|refine q01 ?_|refine q0a ?_|refine q06 ?_|refine q04 rfl ?_)
 refine q0q (by simp only [push_cast,Nat.reduceEqDiff]) ?_
 repeat (first|((first|refine q00 (by rw [hF];kernel_rfl) ?_|refine q03 (by rw [hF];kernel_rfl) ?_);(repeat (refine q0b fun K1 hK1=>?_;simp only [push_cast,Nat.reduceEqDiff,Nat.reduceAdd,Nat.reduceLeDiff];(try simp (disch:=omega) only [wrap64,q0m]);(first|refine hK1 _ ?_|refine ⟨by omega,hK1 _ ?_⟩);clear hK1 K1));refine q0g ?_)|refine q0e ?_|refine q08 ?_|refine q0d ?_|refine q0c ?_|refine q0f ?_|refine q02 ?_|refine q07 ?_|refine q09 ?_|refine q01 ?_|refine q0a ?_|refine q06 ?_|refine q04 rfl ?_)
 refine (hQ _ ?_).2
 simp only [push_cast,Nat.reduceEqDiff,Nat.reduceAdd,Nat.reduceLeDiff]
theorem jq9 {G:World->Prop} (hG:qt8 G) (d:DM.Dk) (l:List DM.Ac) (x:Int) (N:Nat) (b1:d.secs.length<=100000) (b2:d.cache.length<=100000) (b3:l.length<=100000) (hsz : ∀a∈l,a.2.2.size<=1000) (hN:min (max x 0) (l.length:Int)=(N:Int)) :
  q15 Tryz.prog G 31 [.one (dk1 d),jb2 3 (ji6 l),q21 (.int .i64 x)] (qpx (DM.jpm d (l.take N)) (DM.jlc d (l.take N))):=by
 by_cases hm:DM.q2y d
 ·exact jii hG d l x N b1 b2 b3 hsz hN hm
 ·exact jog hG d l x N b1 b2 hm
end Go.Proofs.YthpgnliicpejoaaGreatDoor.AM
