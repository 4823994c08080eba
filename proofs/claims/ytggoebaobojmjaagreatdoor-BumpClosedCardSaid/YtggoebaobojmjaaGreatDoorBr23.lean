
import Derived.Test.YtggoebaobojmjaaGreatDoorBr22
namespace Go.Proofs
open Go.RowKit Go.Shelf Go.Lib
attribute [local go_sem] Oper.semAt_some
set_option linter.unusedVariables false
set_option linter.unusedSimpArgs false
namespace YtggoebaobojmjaaGreatDoor.AM
abbrev WT18:Ty:=.prod .str (.int .i64)
def q1o (ms:List qyr) (tg:List j7q) (ch:List Int) (wn:List (List UInt8×Int)):Option (List q9x×Int) :=
 (qc3 1000001 ms).bind fun o=>if o.1.2=0 then (qce 1000001 ms wn).bind fun w=>if w.2=0 then (q9n 1000001 w.1).bind fun pl=>(qcy 1000001 [ch,pl]).bind fun cc=>(jnj 1000001 ms cc).bind fun up =>
  if up.length<=1000000/\o.2.2.1.length<=1000000 then jqv ms tg w.1 (q46 up o.2.2.1) [] else none else some ([],w.2) else some ([],o.1.2)
theorem ju7 {f:Nat} {ds:List D} {d:D} (hh:qfc Tryz.prog Inv f ds d) {Pc:Nat->Nat->Prop} {W:World} {vs:Array Value} (hI:Inv W) (hlt : ∀b o,Pc b o->b<W.heap.size) (hv:q0i (q1c (q2i Pc) q2y W) vs.toList ds) :
  Calls Tryz.prog f vs W fun e W'=>∃ (v:Value) (Pc':Nat->Nat->Prop),e = .returned v/\Below W.heap.size W W'/\(∀b o,Pc b o->Pc' b o)/\(∀b o,Pc' b o->Pc b o\/W.heap.size<=b)/\(∀b o,Pc' b o->b<W'.heap.size)/\q1c (q2i Pc') q2y W' v d:=by
 refine (hh Pc W vs hI hlt hv).mono ?_
 rintro e W' ⟨v,Pc',rfl,hb,h1,h2,h3⟩
 exact ⟨v,Pc',rfl,hb,h1,fun b o hp=>(h2 b o hp).imp id fun h=>h.1,fun b o hp=>(h2 b o hp).elim (fun h=>Nat.lt_of_lt_of_le (hlt b o h) hb.size) fun h=>h.2,h3⟩
theorem q77 {W:World} {b o:Nat} {vs:Array Value} {T:TypeId} (h:W.heap[b]? = some (.cells vs T (0,0))):W.frozen? ⟨b,o,none⟩=false:=by simp [World.frozen?,h]
theorem two (w:World) (o0 o1:Obj) : ∃ W,(w.alloc o0).alloc o1=W/\W.heap.size=w.heap.size+1+1/\Below w.heap.size w W/\W.heap[w.heap.size]? = some o0/\W.heap[w.heap.size+1]? = some o1:=by
 refine ⟨_,rfl,by simp,((Below.refl _ w).alloc (Nat.le_refl _) _).alloc (by simp) _,?_,?_⟩
 ·exact (Below.heap_alloc _ _ _ (by simp)).trans (World.alloc_heap_new w o0)
 ·have:=World.alloc_heap_new (w.alloc o0) o1
  rw [World.size_alloc] at this;exact this
theorem jev {w W:World} {z q:Int} (k0:W.heap[w.heap.size]? = some (.cells #[.slice none 0 0] 45 (0,0))) (k1:W.heap[w.heap.size+1]? = some (.cells #[.int .i64 z] 31 (0,0))) (hb:Below w.heap.size w W) :
  ((W.setCell ⟨w.heap.size,0,none⟩ (.slice none 0 0)).setCell ⟨w.heap.size+1,0,none⟩ (.int .i64 q)).cell? ⟨w.heap.size,0,none⟩=some (.slice none 0 0) /\
  ((W.setCell ⟨w.heap.size,0,none⟩ (.slice none 0 0)).setCell ⟨w.heap.size+1,0,none⟩ (.int .i64 q)).cell? ⟨w.heap.size+1,0,none⟩=some (.int .i64 q) /\
  Below w.heap.size w ((W.setCell ⟨w.heap.size,0,none⟩ (.slice none 0 0)).setCell ⟨w.heap.size+1,0,none⟩ (.int .i64 q)):=by
 have e1:=setCell_eq_setRow W w.heap.size 0 _ _ _ (.slice none 0 0) k0
 have hr2:=setRow_heap W w.heap.size _ (#[Value.slice none 0 0].setIfInBounds 0 (.slice none 0 0)) _ _ k0
 have he2:=(setRow_other W w.heap.size (w.heap.size+1) (#[Value.slice none 0 0].setIfInBounds 0 (.slice none 0 0)) (by omega)).trans k1
 have e2:=setCell_eq_setRow (W.setRow w.heap.size (#[Value.slice none 0 0].setIfInBounds 0 (.slice none 0 0))) (w.heap.size+1) 0 _ _ _ (.int .i64 q) he2
 have hr3:=setRow_heap _ (w.heap.size+1) _ (#[Value.int .i64 z].setIfInBounds 0 (.int .i64 q)) _ _ he2
 rw [e1,e2]
 refine ⟨?_,q0y hr3,below_setRow (below_setRow hb (Nat.le_refl _) _) (by omega) _⟩
 refine q0y ((setRow_other _ (w.heap.size+1) w.heap.size _ (by omega)).trans hr2)
theorem jhq {Pc:Nat->Nat->Prop} {W:World} {vM vW:Value} {ms:List qyr} {wn:List (List UInt8×Int)} {wt:j4s×Int} (hI:Inv W) (hlt : ∀b o,Pc b o->b<W.heap.size) (hM:DatRep Pc W vM (.lst 3 (ms.map (q03 jub)))) (hW:DatRep Pc W vW (.lst 2 (wn.map (q03 WT18)))) (h:qce 1000001 ms wn=some wt) :
  Calls Tryz.prog 38 #[vM,vW] W fun e W'=>e = .returned (.tuple #[.agg (lvs wt.1),.int .i64 wt.2])/\Below W.heap.size W W':=by
 refine (ju7 (vs:=#[vM,vW]) ((jja 1000001 Inv q1k).1.2 (ms,wn) _ h) hI hlt ⟨hM,hW,trivial⟩).mono ?_
 rintro e W' ⟨v,Pc',rfl,hb,_,_,_,hv⟩
 obtain ⟨us,rfl,hd⟩:=hv
 obtain ⟨us⟩:=us
 match us,hd with
 | [a,b],⟨h1,h2,_⟩ =>
  obtain rfl:b = .int .i64 wt.2:=q07 (σ:=q2y) h2
  obtain ⟨vs,rfl,h4⟩:=h1
  obtain ⟨vs⟩:=vs
  match vs,h4 with
  | [y0,y1,y2,y3,y4,y5,y6,y7,y8,y9,ya,yb],⟨k0,k1,k2,k3,k4,k5,k6,k7,k8,k9,ka,kb,_⟩ =>
   obtain rfl:y0=_:=q07 (σ:=q2y) k0
   obtain rfl:y1=_:=q07 (σ:=q2y) k1
   obtain rfl:y2=_:=q07 (σ:=q2y) k2
   obtain rfl:y3=_:=q07 (σ:=q2y) k3
   obtain rfl:y4=_:=q07 (σ:=q2y) k4
   obtain rfl:y5=_:=q07 (σ:=q2y) k5
   obtain rfl:y6=_:=q07 (σ:=q2y) k6
   obtain rfl:y7=_:=q07 (σ:=q2y) k7
   obtain rfl:y8=_:=q07 (σ:=q2y) k8
   obtain rfl:y9=_:=q07 (σ:=q2y) k9
   obtain rfl:ya=_:=q07 (σ:=q2y) ka
   obtain rfl:yb=_:=q07 (σ:=q2y) kb
   exact ⟨rfl,hb⟩
theorem jj2 {Pc:Nat->Nat->Prop} {W:World} {lv:j4s} {pl:List Int} (hI:Inv W) (hlt : ∀b o,Pc b o->b<W.heap.size) (h:q9n 1000001 lv=some pl) :
  Calls Tryz.prog 41 #[.agg (lvs lv)] W fun e W'=>∃ (v:Value) (Pc':Nat->Nat->Prop),e = .returned v/\Below W.heap.size W W'/\(∀b o,Pc b o->Pc' b o)/\(∀b o,Pc' b o->Pc b o\/W.heap.size<=b)/\(∀b o,Pc' b o->b<W'.heap.size)/\DatRep Pc' W' v (.lst 1 (pl.map (q03 (.int .i64)))) :=
 ju7 ((jhk 1000001 Inv q1k).1.2 lv _ h) hI hlt ⟨⟨_,rfl,q06 (σ:=q2y) _,q06 (σ:=q2y) _,q06 (σ:=q2y) _,q06 (σ:=q2y) _,q06 (σ:=q2y) _,q06 (σ:=q2y) _,q06 (σ:=q2y) _,q06 (σ:=q2y) _,q06 (σ:=q2y) _,q06 (σ:=q2y) _,q06 (σ:=q2y) _,q06 (σ:=q2y) _,trivial⟩,trivial⟩
theorem jj3 {Pc:Nat->Nat->Prop} {W:World} {v:Value} {ll:List (List Int)} {cc:List Int} (hI:Inv W) (hlt : ∀b o,Pc b o->b<W.heap.size) (hv:DatRep Pc W v (.lst 1 (ll.map (q03 LI)))) (h:qcy 1000001 ll=some cc) :
  Calls Tryz.prog 40 #[v] W fun e W'=>∃ (v:Value) (Pc':Nat->Nat->Prop),e = .returned v/\Below W.heap.size W W'/\(∀b o,Pc b o->Pc' b o)/\(∀b o,Pc' b o->Pc b o\/W.heap.size<=b)/\(∀b o,Pc' b o->b<W'.heap.size)/\DatRep Pc' W' v (.lst 1 (cc.map (q03 (.int .i64)))) :=
 ju7 ((jjg 1000001 Inv q1k).1.2 ll _ h) hI hlt ⟨hv,trivial⟩
theorem k04 {Pc:Nat->Nat->Prop} {W:World} {vM v:Value} {ms:List qyr} {cc up:List Int} (hI:Inv W) (hlt : ∀b o,Pc b o->b<W.heap.size) (hM:DatRep Pc W vM (.lst 3 (ms.map (q03 jub)))) (hv:DatRep Pc W v (.lst 1 (cc.map (q03 (.int .i64))))) (h:jnj 1000001 ms cc=some up) :
  Calls Tryz.prog 39 #[vM,v] W fun e W'=>∃ (v:Value) (Pc':Nat->Nat->Prop),e = .returned v/\Below W.heap.size W W'/\(∀b o,Pc b o->Pc' b o)/\(∀b o,Pc' b o->Pc b o\/W.heap.size<=b)/\(∀b o,Pc' b o->b<W'.heap.size)/\DatRep Pc' W' v (.lst 1 (up.map (q03 (.int .i64)))) :=
 ju7 ((k0y 1000001 Inv q1k).1.2 (ms,cc) _ h) hI hlt ⟨hM,hv,trivial⟩
set_option maxHeartbeats 4000000 in
set_option maxRecDepth 1000000 in
theorem qvd {Pc:Nat->Nat->Prop} (w:World) (vM vT vC vW:Value) (ms:List qyr) (tg:List j7q) (ch:List Int) (wn:List (List UInt8×Int)) (out:List q9x×Int) (hI:Inv w) (hlt : ∀b o,Pc b o->b<w.heap.size)
  (hM:DatRep Pc w vM (.lst 3 (ms.map (q03 jub)))) (hT:DatRep Pc w vT (.lst 7 (tg.map (q03 jz5)))) (hC:DatRep Pc w vC (.lst 1 (ch.map (q03 (.int .i64))))) (hW:DatRep Pc w vW (.lst 2 (wn.map (q03 WT18)))) (h:q1o ms tg ch wn=some out) :
  Calls Tryz.prog 15 #[vM,vT,vC,vW] w fun e w'=>∃ v',e = .returned (.tuple #[v',.int .i64 out.2])/\w'.ownsRow w.heap.size 30 13 v' out.1.length (q2h out.1)/\Below w.heap.size w w':=by
 refine (callsIn_wide (n:=9)).1 ?_
 refine callsIn_of_wp_marks Tryz.func15 rfl trivial ?_ rfl
 simp only [Tryz.ntmps15,List.size_toArray,List.length_cons,List.length_nil,Nat.reduceAdd,Nat.reduceSub,Array.replicate_succ,Array.replicate_zero,List.push_toArray,List.append_toArray,List.nil_append,List.cons_append]
 unfold q1o at h
 obtain ⟨o,ho,h⟩:=Option.bind_eq_some_iff.1 h
 obtain ⟨aM,cM,bM,oM,hvM,_⟩:=q8j hM
 rw [List.length_map] at hvM
 subst hvM
 obtain ⟨aT,cT,bT,oT,hvT,_⟩:=q8j hT
 rw [List.length_map] at hvT
 subst hvT
 obtain ⟨aC,cC,bC,oC,hvC,_⟩:=q8j hC
 rw [List.length_map] at hvC
 subst hvC
 obtain ⟨WA,hWA,hsA,hbA,g0,g1⟩:=two w (Obj.cells #[Value.slice none 0 0] 45) (Obj.cells #[Value.int .i64 0] 31)
 have hcA : ∀b o,Pc b o->WA.cell? ⟨b,o,none⟩=w.cell? ⟨b,o,none⟩:=fun b o hp=>hbA.cell (p:=⟨b,o,none⟩) (hlt b o hp)
 have hltA : ∀b o,Pc b o->b<WA.heap.size:=fun b o hp=>Nat.lt_of_lt_of_le (hlt b o hp) hbA.size
 have hO:=joy ms _ WA (hI.below hbA) hltA (hM.mono (fun _ _ h=>h) hcA) ho
 have hTA:=hT.mono (fun _ _ h=>h) hcA
 have hCA:=hC.mono (fun _ _ h=>h) hcA
 have hWnA:=hW.mono (fun _ _ h=>h) hcA
 have hMA:=hM.mono (fun _ _ h=>h) hcA
 clear hcA hM hT hC hW
 by_cases he:o.1.2=0
 ·rw [if_pos he] at h
  rw [he] at hO
  obtain ⟨⟨lv,z⟩,hwt,h⟩:=Option.bind_eq_some_iff.1 h
  gi_wp2_with (refine ⟨trivial,?_⟩;gi_at_call 37;refine (callsIn_wide.2 hO).mono ?_;rintro e W1 ⟨v,Pc1,rfl,hb1,p1,p2,p3,hown,hblk,hsl⟩)
  have hbl1:=hbA.trans (hb1.mono hbA.size)
  have mo1 : ∀{x:Value} {d:Dat},DatRep Pc WA x d->DatRep Pc1 W1 x d:=fun h=>h.mono p1 fun b o hp=>hb1.cell (p:=⟨b,o,none⟩) (hltA b o hp)
  have hWt:=jhq (hI.below hbl1) p3 (mo1 hMA) (mo1 hWnA) hwt
  have k0:=(hb1.block _ (q0q g0)).trans g0
  have k1:=(hb1.block _ (q0q g1)).trans g1
  simp only at h hWt
  by_cases hz:z=0
  ·rw [if_pos hz] at h
   rw [hz] at hWt
   obtain ⟨pl,hpl,h⟩:=Option.bind_eq_some_iff.1 h
   obtain ⟨cc,hcc,h⟩:=Option.bind_eq_some_iff.1 h
   obtain ⟨up,hup,h⟩:=Option.bind_eq_some_iff.1 h
   split at h
   case isFalse=>cases h
   rename_i hsm
   unfold lvs at hWt
   refine ⟨trivial,(callsIn_wide.2 hWt).mono ?_⟩
   rintro e W2 ⟨rfl,hb2⟩
   obtain ⟨W3,hW3⟩ : ∃ W3,W2.alloc (.cells (lvs lv) 87)=W3:=⟨_,rfl⟩
   have hb3:Below W1.heap.size W1 W3:=by rw [<-hW3];exact hb2.alloc hb2.size _
   have g12:W3.heap[W2.heap.size]? = some (.cells (lvs lv) 87):=by rw [<-hW3];exact World.alloc_heap_new W2 _
   have hPl:=jj2 (Pc:=Pc1) (hI.below (hbl1.trans (hb3.mono hbl1.size))) (fun b o hp=>Nat.lt_of_lt_of_le (p3 b o hp) hb3.size) hpl
   unfold lvs at hW3 hPl g12
   have b0:W3.cell? ⟨W2.heap.size,0,none⟩=some (.int .i64 lv.1):=by rw [cell_of_row W3 _ _ _ _ _ g12];rfl
   have b1:W3.cell? ⟨W2.heap.size,1,none⟩=some (.int .i64 lv.2.1):=by rw [cell_of_row W3 _ _ _ _ _ g12];rfl
   have b2:W3.cell? ⟨W2.heap.size,2,none⟩=some (.int .i64 lv.2.2.1):=by rw [cell_of_row W3 _ _ _ _ _ g12];rfl
   have b3:W3.cell? ⟨W2.heap.size,3,none⟩=some (.int .i64 lv.2.2.2.1):=by rw [cell_of_row W3 _ _ _ _ _ g12];rfl
   have b4:W3.cell? ⟨W2.heap.size,4,none⟩=some (.int .i64 lv.2.2.2.2.1):=by rw [cell_of_row W3 _ _ _ _ _ g12];rfl
   have b5:W3.cell? ⟨W2.heap.size,5,none⟩=some (.int .i64 lv.2.2.2.2.2.1):=by rw [cell_of_row W3 _ _ _ _ _ g12];rfl
   have b6:W3.cell? ⟨W2.heap.size,6,none⟩=some (.int .i64 lv.2.2.2.2.2.2.1):=by rw [cell_of_row W3 _ _ _ _ _ g12];rfl
   have b7:W3.cell? ⟨W2.heap.size,7,none⟩=some (.int .i64 lv.2.2.2.2.2.2.2.1):=by rw [cell_of_row W3 _ _ _ _ _ g12];rfl
   have b8:W3.cell? ⟨W2.heap.size,8,none⟩=some (.int .i64 lv.2.2.2.2.2.2.2.2.1):=by rw [cell_of_row W3 _ _ _ _ _ g12];rfl
   have b9:W3.cell? ⟨W2.heap.size,9,none⟩=some (.int .i64 lv.2.2.2.2.2.2.2.2.2.1):=by rw [cell_of_row W3 _ _ _ _ _ g12];rfl
   have b10:W3.cell? ⟨W2.heap.size,10,none⟩=some (.int .i64 lv.2.2.2.2.2.2.2.2.2.2.1):=by rw [cell_of_row W3 _ _ _ _ _ g12];rfl
   have b11:W3.cell? ⟨W2.heap.size,11,none⟩=some (.int .i64 lv.2.2.2.2.2.2.2.2.2.2.2):=by rw [cell_of_row W3 _ _ _ _ _ g12];rfl
   gi_wp2_with fail
   refine ⟨trivial,(callsIn_wide.2 hPl).mono ?_⟩
   rintro e W4 ⟨vP,Pc4,rfl,hb4,q1,q2,q3,hdP⟩
   clear hWt hPl b0 b1 b2 b3 b4 b5 b6 b7 b8 b9 b10 b11
   have hbl4:Below w.heap.size w W4:=hbl1.trans ((hb3.trans (hb4.mono hb3.size)).mono hbl1.size)
   have mo4 : ∀{x:Value} {d:Dat},DatRep Pc1 W1 x d->DatRep Pc4 W4 x d:=fun h=>h.mono q1 fun b o hp=>(hb4.cell (p:=⟨b,o,none⟩) (Nat.lt_of_lt_of_le (p3 b o hp) hb3.size)).trans (hb3.cell (p:=⟨b,o,none⟩) (p3 b o hp))
   obtain ⟨aP,cP,bP,oP,hvP,_⟩:=q8j hdP
   rw [List.length_map] at hvP
   subst hvP
   have hTwo:=jy3 q3 (mo4 (mo1 hCA)) hdP
   obtain ⟨W5,hW5⟩ : ∃ W5,W4.alloc (.cells #[.slice aC ch.length cC,.slice aP pl.length cP] 39)=W5:=⟨_,rfl⟩
   have hb5:Below W4.heap.size W4 W5:=by rw [<-hW5];exact (Below.refl _ _).alloc (Nat.le_refl _) _
   have hs5:W5.heap.size=W4.heap.size+1:=by rw [<-hW5];simp
   rw [hW5] at hTwo
   have hCc:=jj3 (hI.below (hbl4.trans (hb5.mono hbl4.size))) (fun b o hp=>hp.elim (fun h=>by have:=q3 b o h;omega) (fun h=>by omega)) hTwo hcc
   gi_wp2_with fail
   refine ⟨trivial,(callsIn_wide.2 hCc).mono ?_⟩
   rintro e W6 ⟨vCC,Pc6,rfl,hb6,r1,r2,r3,hdC⟩
   have hb46:Below W4.heap.size W4 W6:=hb5.trans (hb6.mono hb5.size)
   have hbl6:Below w.heap.size w W6:=hbl4.trans (hb46.mono hbl4.size)
   have hUp:=k04 (hI.below hbl6) r3 ((mo4 (mo1 hMA)).mono (fun b o hp=>r1 b o (.inl hp)) fun b o hp=>hb46.cell (p:=⟨b,o,none⟩) (q3 b o hp)) hdC hup
   clear hCc
   gi_wp2_with fail
   refine ⟨trivial,(callsIn_wide.2 hUp).mono ?_⟩
   rintro e W7 ⟨vU,Pc7,rfl,hb7,s1,s2,s3,hdU⟩
   obtain ⟨aU,cU,bU,oU,hvU,_⟩:=q8j hdU
   rw [List.length_map] at hvU
   subst hvU
   obtain ⟨W8,hW8⟩ : ∃ W8,W7.alloc (.cells #[.slice aU up.length cU] 39)=W8:=⟨_,rfl⟩
   clear hUp
   gi_wp2_with fail
   have hb8:Below W7.heap.size W7 W8:=by rw [<-hW8];exact (Below.refl _ _).alloc (Nat.le_refl _) _
   have hs8:W8.heap.size=W7.heap.size+1:=by rw [<-hW8];simp
   have g13:W8.heap[W7.heap.size]? = some (.cells #[.slice aU up.length cU] 39):=by rw [<-hW8];exact World.alloc_heap_new W7 _
   have hb48:Below W4.heap.size W4 W8:=hb46.trans ((hb7.trans (hb8.mono hb7.size)).mono hb46.size)
   have hb18:Below W1.heap.size W1 W8:=(hb3.trans (hb4.mono hb3.size)).trans (hb48.mono (Nat.le_trans hb3.size hb4.size))
   have hA1:WA.heap.size<=W1.heap.size:=hb1.size
   have hbA8:Below WA.heap.size WA W8:=hb1.trans (hb18.mono hA1)
   have hH:Holds Pc7 W7.heap.size up W8:=⟨hI.below (hbA.trans (hbA8.mono hbA.size)),fun b o hp=>Nat.lt_of_lt_of_le (s3 b o hp) hb8.size,_,g13,hdU.mono (fun _ _ h=>h) fun b o hp=>hb8.cell (p:=⟨b,o,none⟩) (s3 b o hp)⟩
   have hgl : ∀g,v.ownBlock=some g->WA.heap.size<=g/\g<W1.heap.size:=fun g hg=>⟨(hown.lt g hg).1,(hown.lt g hg).2⟩
   have hp7 : ∀g,v.ownBlock=some g->∀b' o,Pc7 b' o->b'≠g:=fun g hg b' o hp e=>by
    subst e
    have hl:=(hgl b' hg).2
    have hl3:=hb3.size;have hl4:=hb4.size;have hl6:=hb46.size
    rcases s2 b' o hp with hp|hp
    ·rcases r2 b' o hp with (hp|hp)|hp
     ·rcases q2 b' o hp with hp|hp
      ·exact hblk b' hg o hp
      ·omega
     ·omega
     ·omega
    ·omega
   have hDel:=jyg W8 WA.heap.size W7.heap.size v up o.2.2.1 hH (fun wr hb=>hI.below (hbA.trans ((hbA8.trans hb).mono hbA.size))) hbA8.size (q6j hown hb18) (fun e=>by have:=(hgl _ e).2;have:=hb3.size;have:=hb4.size;have:=hb46.size;have:=hb7.size;omega) hp7 hsm.2 hsm.1
   clear hH
   refine ⟨trivial,(callsIn_wide.2 hDel).mono ?_⟩
   rintro e W9 ⟨v',rfl,hown9,hb9,hk9,hv9,aD,nD,cD,hvD⟩
   clear hDel
   subst hvD
   have hs9:W8.heap.size<=W9.heap.size:=hb9.size
   obtain ⟨W10,hW10⟩ : ∃ W10,W9.alloc (.cells #[.slice none 0 0] 45)=W10:=⟨_,rfl⟩
   have hb10:Below W9.heap.size W9 W10:=by rw [<-hW10];exact (Below.refl _ _).alloc (Nat.le_refl _) _
   have hs10:W10.heap.size=W9.heap.size+1:=by rw [<-hW10];simp
   have g15:W10.heap[W9.heap.size]? = some (.cells #[.slice none 0 0] 45):=by rw [<-hW10];exact World.alloc_heap_new W9 _
   have hl12:W2.heap.size<W3.heap.size:=q0q g12
   have hk38:Below W3.heap.size W3 W8:=hb4.trans (hb48.mono hb4.size)
   have h12:W10.heap[W2.heap.size]? = some (.cells (lvs lv) 87):=by
    unfold lvs
    have e8:=(hk38.block _ hl12).trans g12
    have e9:=(hk9 _ (q0q e8) (fun e=>by have:=(hgl _ e).2;have:=hb2.size;omega)).trans e8
    exact (hb10.block _ (q0q e9)).trans e9
   have h12':=h12
   unfold lvs at h12'
   have b0:W10.cell? ⟨W2.heap.size,0,none⟩=some (.int .i64 lv.1):=by rw [cell_of_row W10 _ _ _ _ _ h12'];rfl
   have b1:W10.cell? ⟨W2.heap.size,1,none⟩=some (.int .i64 lv.2.1):=by rw [cell_of_row W10 _ _ _ _ _ h12'];rfl
   have b2:W10.cell? ⟨W2.heap.size,2,none⟩=some (.int .i64 lv.2.2.1):=by rw [cell_of_row W10 _ _ _ _ _ h12'];rfl
   have b3:W10.cell? ⟨W2.heap.size,3,none⟩=some (.int .i64 lv.2.2.2.1):=by rw [cell_of_row W10 _ _ _ _ _ h12'];rfl
   have b4:W10.cell? ⟨W2.heap.size,4,none⟩=some (.int .i64 lv.2.2.2.2.1):=by rw [cell_of_row W10 _ _ _ _ _ h12'];rfl
   have b5:W10.cell? ⟨W2.heap.size,5,none⟩=some (.int .i64 lv.2.2.2.2.2.1):=by rw [cell_of_row W10 _ _ _ _ _ h12'];rfl
   have b6:W10.cell? ⟨W2.heap.size,6,none⟩=some (.int .i64 lv.2.2.2.2.2.2.1):=by rw [cell_of_row W10 _ _ _ _ _ h12'];rfl
   have b7:W10.cell? ⟨W2.heap.size,7,none⟩=some (.int .i64 lv.2.2.2.2.2.2.2.1):=by rw [cell_of_row W10 _ _ _ _ _ h12'];rfl
   have b8:W10.cell? ⟨W2.heap.size,8,none⟩=some (.int .i64 lv.2.2.2.2.2.2.2.2.1):=by rw [cell_of_row W10 _ _ _ _ _ h12'];rfl
   have b9:W10.cell? ⟨W2.heap.size,9,none⟩=some (.int .i64 lv.2.2.2.2.2.2.2.2.2.1):=by rw [cell_of_row W10 _ _ _ _ _ h12'];rfl
   have b10:W10.cell? ⟨W2.heap.size,10,none⟩=some (.int .i64 lv.2.2.2.2.2.2.2.2.2.2.1):=by rw [cell_of_row W10 _ _ _ _ _ h12'];rfl
   have b11:W10.cell? ⟨W2.heap.size,11,none⟩=some (.int .i64 lv.2.2.2.2.2.2.2.2.2.2.2):=by rw [cell_of_row W10 _ _ _ _ _ h12'];rfl
   gi_wp2_with fail
   have hRl:=qvy W10 aM aT aD ms.length cM tg.length cT nD cD lv
   unfold lvs at hRl
   refine ⟨trivial,(callsIn_wide.2 hRl).mono ?_⟩
   rintro e W11' ⟨rfl,hW11'⟩
   clear hRl b0 b1 b2 b3 b4 b5 b6 b7 b8 b9 b10 b11
   obtain ⟨W11,hW11,hs11,hb11,m0,m1,m2,m3⟩:=four W10 (Obj.cells #[.slice aM ms.length cM] 38) (Obj.cells #[.slice aT tg.length cT] 22) (Obj.cells #[.slice aD nD cD] 39) (Obj.cells (lvs lv) 87)
   unfold lvs at hW11
   rw [hW11] at hW11'
   subst hW11'
   have HS10:=hid hs10
   clear hs10
   gi_wp2_with fail
   have hs10:=HS10.out
   clear HS10
   obtain ⟨xa,hxa⟩ : ∃ x:Value,x = .agg #[.int .i64 lv.1,.int .i64 lv.2.1,.int .i64 lv.2.2.1,.int .i64 lv.2.2.2.1,.int .i64 lv.2.2.2.2.1,.int .i64 lv.2.2.2.2.2.1,.int .i64 lv.2.2.2.2.2.2.1,.int .i64 lv.2.2.2.2.2.2.2.1,.int .i64 lv.2.2.2.2.2.2.2.2.1,.int .i64 lv.2.2.2.2.2.2.2.2.2.1,.int .i64 lv.2.2.2.2.2.2.2.2.2.2.1,.int .i64 lv.2.2.2.2.2.2.2.2.2.2.2]:=⟨_,rfl⟩
   rw [<-hxa]
   clear hxa
   have hbl9:Below w.heap.size w W9:=(hbA.trans (hbA8.mono hbA.size)).trans (hb9.mono hbA.size)
   have hbl11:Below w.heap.size w W11':=hbl9.trans ((hb10.trans (hb11.mono hb10.size)).mono hbl9.size)
   have h11 : ∀k o,W9.heap[k]? = some o->W11'.heap[k]? = some o:=fun k o hk=>(hb11.block _ (by have:=q0q hk;omega)).trans ((hb10.block _ (q0q hk)).trans hk)
   have hv9' : ∀k,(Value.slice aD nD cD).ownBlock=some k->WA.heap.size<=k/\k<W1.heap.size:=fun k hk=>hgl k (hv9 k hk)
   have hl1:=hb3.size
   have hl4:=hb4.size
   have hl6:=hb46.size
   have hl7:=hb7.size
   have a0:=(hb18.block _ (q0q k0)).trans k0
   have a1:=(hb18.block _ (q0q k1)).trans k1
   have n0:W11'.heap[w.heap.size]? = some (.cells #[.slice none 0 0] 45 (0,0)):=h11 _ _ ((hk9 _ (q0q a0) (fun e=>by have:=(hgl _ e).1;omega)).trans a0)
   have n1:W11'.heap[w.heap.size+1]? = some (.cells #[.int .i64 0] 31 (0,0)):=h11 _ _ ((hk9 _ (q0q a1) (fun e=>by have:=(hgl _ e).1;omega)).trans a1)
   have n4:W11'.heap[W9.heap.size]? = some (.cells #[.slice none 0 0] 45 (0,0)):=(hb11.block _ (q0q g15)).trans g15
   have hc7 : ∀b o,Pc7 b o->W11'.cell? ⟨b,o,none⟩=W7.cell? ⟨b,o,none⟩:=fun b o hp=>by
    have l7:=s3 b o hp
    refine (hb11.cell (p:=⟨b,o,none⟩) (by show b<_;omega)).trans ((hb10.cell (p:=⟨b,o,none⟩) (by show b<_;omega)).trans ((World.cell?_of_block (hk9 b (by omega) (fun e=>hp7 b e b o hp rfl))).trans (hb8.cell (p:=⟨b,o,none⟩) l7)))
   have hp7b : ∀b o,Pc7 b o->b<w.heap.size\/WA.heap.size<=b:=fun b o hp=>by
    rcases s2 b o hp with hp|hp
    ·rcases r2 b o hp with (hp|hp)|hp
     ·rcases q2 b o hp with hp|hp
      ·rcases p2 b o hp with hp|hp
       ·exact .inl (hlt b o hp)
       ·exact .inr hp
      ·exact .inr (by omega)
     ·exact .inr (by omega)
     ·exact .inr (by omega)
    ·exact .inr (by omega)
   obtain ⟨Pr,hPr⟩ : ∃ Pr:Nat->Nat->Prop,Pr=fun b' o'=>Pc7 b' o'\/((Value.slice aD nD cD).ownBlock=some b'/\o'<(q46 up o.2.2.1).length)\/(W10.heap.size<=b'/\b'<W10.heap.size+4):=⟨_,rfl⟩
   have mo7 : ∀{x:Value} {d:Dat},DatRep Pc1 W1 x d->DatRep Pr W11' x d:=fun h=>((((mo4 h).mono (fun b o hp=>r1 b o (.inl hp)) fun b o hp=>hb46.cell (p:=⟨b,o,none⟩) (q3 b o hp)).mono s1 fun b o hp=>hb7.cell (p:=⟨b,o,none⟩) (r3 b o hp))).mono (fun b o hp=>by rw [hPr];exact .inl hp) hc7
   have hown11:W11'.ownsRow WA.heap.size 3 1 (.slice aD nD cD) (q46 up o.2.2.1).length (q5a (q46 up o.2.2.1)):=q6j (q6j hown9 hb10) hb11
   have hdD:=jsj (Pc:=Pr) hown11 fun b o hb ho=>by rw [hPr];exact .inr (.inl ⟨hb,ho⟩)
   have hPl11 : ∀b o,Pr b o->b<W11'.heap.size:=fun b o hp=>by
    rw [hPr] at hp
    rcases hp with hp|⟨hp,_⟩|hp
    ·have:=s3 b o hp;omega
    ·have:=(hv9' b hp).2;omega
    ·omega
   have hPro : ∀b o,Pr b o->b≠w.heap.size/\b≠w.heap.size+1/\b≠W9.heap.size:=fun b o hp=>by
    have hA2:=hsA
    rw [hPr] at hp
    rcases hp with hp|⟨hp,_⟩|hp
    ·have:=s3 b o hp;have:=hp7b b o hp;omega
    ·have:=hv9' b hp;omega
    ·omega
   have hRP:RP Pr (.pointer (some ⟨W10.heap.size,0,none⟩)) (.pointer (some ⟨W10.heap.size+1,0,none⟩)) (.pointer (some ⟨W10.heap.size+1+1+1,0,none⟩)) (.slice aD nD cD) (q46 up o.2.2.1) ms tg lv W11':=by
    refine ⟨⟨_,0,rfl,[.slice aM ms.length cM],⟨mo7 (mo1 hMA),trivial⟩,fun j hj=>?_⟩,⟨_,0,rfl,[.slice aT tg.length cT],⟨mo7 (mo1 hTA),trivial⟩,fun j hj=>?_⟩,⟨_,0,rfl,(lvs lv).toList,⟨DatRep.v _,DatRep.v _,DatRep.v _,DatRep.v _,DatRep.v _,DatRep.v _,DatRep.v _,DatRep.v _,DatRep.v _,DatRep.v _,DatRep.v _,DatRep.v _,trivial⟩,fun j hj=>?_⟩,hdD⟩
    ·obtain rfl:j=0:=by simp at hj;omega
     exact ⟨by rw [hPr];exact .inr (.inr ⟨by omega,by omega⟩),q0y m0,rfl⟩
    ·obtain rfl:j=0:=by simp at hj;omega
     exact ⟨by rw [hPr];exact .inr (.inr ⟨by omega,by omega⟩),q0y m1,rfl⟩
    ·refine ⟨by rw [hPr];exact .inr (.inr ⟨by omega,by omega⟩),?_,?_⟩
     ·rw [cell_of_row _ _ _ _ _ _ m3,Nat.zero_add]
      simp
     ·have : ∀u∈(lvs lv).toList,u.oneCell'=true:=by intro u hu;simp [lvs] at hu;rcases hu with rfl|rfl|rfl|rfl|rfl|rfl|rfl|rfl|rfl|rfl|rfl|rfl<;>rfl
      exact this _ (List.getElem_mem hj)
   have hDR:DR w ms tg lv (q46 up o.2.2.1) out w.heap.size (w.heap.size+1) W9.heap.size Pr ([],q46 up o.2.2.1) W11' :=
    ⟨hI.below hbl11,hPl11,hPro,n0,n1,⟨_,n4,World.ownsRow_nil _ _ _ _,by simp [Value.ownBlock],by simp [Value.ownBlock],by simp [Value.ownBlock],⟨_,_,_,rfl⟩,fun b o _=>by simp [Value.ownBlock]⟩,hbl11,h,by have:=jfa up o.2.2.1;have:=hsm.2;simp;omega⟩
   have hkl:=jfa up o.2.2.1
   have hsm2:=hsm.2
   have hw11:w.heap.size<=W11'.heap.size:=hbl11.size
   have hw9:w.heap.size+1<W9.heap.size:=by omega
   have m2':=q0y m2
   clear hPr hdD hown11 mo7 hp7b hc7 n0 n1 n4 a0 a1 h11 hv9' hPl11 hPro m0 m1 m2 m3 h12 h12' g12 g13 g15 mo4 mo1 hp7 hk9 hs10 hs8 hs5 hs11
   generalize q46 up o.2.2.1=DD at hRP hDR hkl
   refine jp6 (n:=9) (by omega) (D:=DD) (by omega) (W10.heap.size+1+1) rfl m2' (DR w ms tg lv DD out w.heap.size (w.heap.size+1) W9.heap.size) (DQ w out w.heap.size (w.heap.size+1)) (fun Pc=>k0n hI hw11) (juu hw11)
    (fun Pc Pc' q W W' h hb h1 h2=>jeb h hb h1 h2) (fun Pc q W h=>⟨h.inv,h.lt⟩) (fun Pc acc a r W h=>by have:=h.rel;unfold jqv at this;obtain ⟨x,hx,_⟩:=Option.bind_eq_some_iff.1 this;exact ⟨x,hx⟩) hRP hDR
    (fun b o e=>{ tmps:=#[.slice aM ms.length cM,.slice aT tg.length cT,.slice aC ch.length cC,vW,undef,undef,undef,undef,.pointer (some ⟨w.heap.size,0,none⟩),.pointer (some ⟨w.heap.size+1,0,none⟩),v,.int .i64 0,.pointer (some ⟨W2.heap.size,0,none⟩),.pointer (some ⟨W7.heap.size,0,none⟩),.slice aD nD cD,.pointer (some ⟨W9.heap.size,0,none⟩),.pointer (some ⟨b,0,none⟩),.int .i64 e,.tuple #[v,.int .i64 0],.slice aM ms.length cM,.tuple #[v,.int .i64 0],v,.int .i64 0,.int .i64 0,.bool false,undef,.tuple #[xa,.int .i64 0],.slice aM ms.length cM,vW,.tuple #[xa,.int .i64 0],xa,.int .i64 0,.int .i64 0,.bool false,undef,.slice aM ms.length cM,.slice aC ch.length cC,xa,.slice aP pl.length cP,.slice (some ⟨W4.heap.size,0,none⟩) 2 2,vCC,.slice aU up.length cU,v,.func (.func 43) #[] #[.pointer (some ⟨W7.heap.size,0,none⟩)],.slice aD nD cD,.slice aM ms.length cM,.slice aT tg.length cT,.slice aD nD cD,xa,.func (.func 82) #[] #[.pointer (some ⟨W10.heap.size+1+1,0,none⟩),.pointer (some ⟨W10.heap.size,0,none⟩),.pointer (some ⟨W10.heap.size+1,0,none⟩),.pointer (some ⟨W10.heap.size+1+1+1,0,none⟩)],.agg (rls o),.int .i64 e,undef,undef,undef,undef,undef,undef,undef,undef],defers:=[] }) ?assign ?body ?done ?stop
   case assign =>
    intro l o e W K hK
    unfold rls
    unfold rlO rls at hK
    gi_wp2
    exact hK
   case body =>
    intro l Pcb acc a0 r x W b hx hJ hob
    have hrel:=hJ.rel
    unfold jqv at hrel
    rw [hx,Option.bind_some] at hrel
    obtain ⟨x1,xe⟩:=x
    simp only at hrel hob ⊢
    by_cases hxe:xe=0
    ·rw [if_pos hxe] at hrel
     subst hxe
     obtain ⟨v,hv1,hv2,hv3,hv4,hv5,⟨va,vn,vc,hvs⟩,hvP⟩:=hJ.ops
     have c4:=q0y hv1
     have hbA2:Below W.heap.size W (W.alloc (rlO (a0,x1.2))):=(Below.refl _ _).alloc (Nat.le_refl _) _
     have hJA:=jeb hJ hbA2 (fun _ _ h=>.inl h) (fun b o h=>Nat.lt_of_lt_of_le (hJ.lt b o h) hbA2.size)
     have hrow:=q6j hv2 hbA2
     have hal:acc.length<=1000000:=by have:=hJ.len;simp only [List.length_cons] at this;omega
     obtain ⟨v',W2',hr,ho2,hg2,hblk2⟩:=jwb (W.alloc (rlO (a0,x1.2))) w.heap.size v acc (a0,x1.2) W.heap.size hrow (World.alloc_heap_new W _) hal hJA.below.size 45
     obtain ⟨va',vn',vc',hvs'⟩ : ∃ va n vc,v' = .slice va n vc:=by rcases ho2.2 with ⟨h5,_⟩|⟨g,cap,cur,h5,_⟩<;>exact ⟨_,_,_,h5⟩
     subst hvs'
     subst hvs
     have hk4:=(hbA2.block _ (q0q hv1)).trans hv1
     have hk42:=(hg2.block _ (q0q hk4) (fun e=>hv5 e.symm)).trans hk4
     have c42:=q0y hk42
     have f42:=q77 (o:=0) hk42
     have hst:=jx0 hI hJA (by omega) (by omega) (by omega) hk4 hrow hv3 hv4 hv5 ho2 hg2 hblk2 ⟨_,_,_,rfl⟩ hvP hrel
     have hfin:=And.intro ((q27 hbA2).trans hst.1) (And.intro hst.2.1 (fun b o (hp:Pcb b o)=>(hst.2.2 b o hp).trans (hbA2.cell (p:=⟨b,o,none⟩) (hJ.lt b o hp))))
     unfold rlO rls at hr hob
     simp only at hr hob
     have xc0:W.cell? ⟨b,0,none⟩=some (.int .i64 a0):=by rw [cell_of_row W _ _ _ _ _ hob];rfl
     have xc1:W.cell? ⟨b,1,none⟩=some (.bool x1.2.1):=by rw [cell_of_row W _ _ _ _ _ hob];rfl
     have xc2:W.cell? ⟨b,2,none⟩=some (.int .i64 x1.2.2.1):=by rw [cell_of_row W _ _ _ _ _ hob];rfl
     have xc3:W.cell? ⟨b,3,none⟩=some (.int .i64 x1.2.2.2.1):=by rw [cell_of_row W _ _ _ _ _ hob];rfl
     have xc4:W.cell? ⟨b,4,none⟩=some (.int .i64 x1.2.2.2.2.1):=by rw [cell_of_row W _ _ _ _ _ hob];rfl
     have xc5:W.cell? ⟨b,5,none⟩=some (.string (ba x1.2.2.2.2.2.1)):=by rw [cell_of_row W _ _ _ _ _ hob];rfl
     have xc6:W.cell? ⟨b,6,none⟩=some (.string (ba x1.2.2.2.2.2.2.1)):=by rw [cell_of_row W _ _ _ _ _ hob];rfl
     have xc7:W.cell? ⟨b,7,none⟩=some (.int .i64 x1.2.2.2.2.2.2.2.1):=by rw [cell_of_row W _ _ _ _ _ hob];rfl
     have xc8:W.cell? ⟨b,8,none⟩=some (.int .i64 x1.2.2.2.2.2.2.2.2.1):=by rw [cell_of_row W _ _ _ _ _ hob];rfl
     have xc9:W.cell? ⟨b,9,none⟩=some (.int .i64 x1.2.2.2.2.2.2.2.2.2.1):=by rw [cell_of_row W _ _ _ _ _ hob];rfl
     have xc10:W.cell? ⟨b,10,none⟩=some (.string (ba x1.2.2.2.2.2.2.2.2.2.2.1)):=by rw [cell_of_row W _ _ _ _ _ hob];rfl
     have xc11:W.cell? ⟨b,11,none⟩=some (.string (ba x1.2.2.2.2.2.2.2.2.2.2.2.1)):=by rw [cell_of_row W _ _ _ _ _ hob];rfl
     have xc12:W.cell? ⟨b,12,none⟩=some (.int .i64 x1.2.2.2.2.2.2.2.2.2.2.2.2):=by rw [cell_of_row W _ _ _ _ _ hob];rfl
     clear hst hJA hrow hk4 hk42 ho2 hg2 hblk2 hv2 hv1 hrel hx hbA2 hJ
     gi_wp2_with (gi_at_builtin;refine qeu _ rfl _ _ 45 45 rfl _ _ rfl rfl hr ?_)
     exact hfin
    ·rw [if_neg hxe] at hrel
     obtain rfl:=Option.some.inj hrel
     have c2:=q0y hJ.res
     have c3:=q0y hJ.err
     have f2:=q77 (o:=0) hJ.res
     have f3:=q77 (o:=0) hJ.err
     have hfin:=jy8 hJ (by omega) (by omega) (by omega) rfl
     clear hrel hx hJ hob
     gi_wp2
     exact hfin
   case done =>
    intro D' Pcb acc W hD hJ hK
    obtain ⟨v,hv1,hv2,hv3,hv4,hv5,⟨va,vn,vc,rfl⟩,hvP⟩:=hJ.ops
    have c4:=q0y hv1
    have c2:=q0y hJ.res
    have c3:=q0y hJ.err
    have f2:=q77 (o:=0) hJ.res
    have f3:=q77 (o:=0) hJ.err
    have hDw:w.heap.size<=D':=by omega
    have hrel:=hJ.rel
    unfold jqv at hrel
    obtain rfl:=Option.some.inj hrel
    obtain ⟨k1,k2,k3,k4,k5⟩:=jwc hJ (by omega) (by omega) (by omega) hv2 hv3 hv4
    clear hrel hJ hvP
    gi_wp2
    generalize (W.setCell ⟨w.heap.size,0,none⟩ (Value.slice va vn vc)).setCell ⟨w.heap.size+1,0,none⟩ (Value.int IntKind.i64 0)=W2 at k1 k2 k3 k4 k5 ⊢
    have hK':=k1.same D' _ hK rfl
    refine ⟨by simp,.inl ⟨_,_,rfl,run_takeDeferred hK',?_⟩⟩
    have hg:=grownBy_putObj' W2 D' (.deferred none)
    have hD2 : ∀r,some D'=some r->w.heap.size<=r/\∃ o:Obj,W2.heap[r]? = some o/\o.isCells=false:=fun r e=>by cases e;exact ⟨hDw,_,hK',rfl⟩
    exact ⟨_,qjp (b1:=w.heap.size) (b2:=w.heap.size+1) (v1:=.slice va vn vc) (v2:=.int .i64 0) rfl rfl rfl hagR hagE (q0y (q5c k3 hg hD2)) (q0y (q5c k4 hg hD2)),.slice va vn vc,rfl,jdc (k:=0) k5 hg hD2,k2.grown hg k2.size (fun k e=>(hD2 k e).1)⟩
   case stop =>
    intro D' W hD hX hK
    have hDw:w.heap.size<=D':=by omega
    refine ⟨by simp,.inl ⟨_,_,rfl,run_takeDeferred hK,?_⟩⟩
    have hg:=grownBy_putObj' W D' (.deferred none)
    have hX':=juu (B:=w.heap.size) (Nat.le_refl _) () W _ (some D') hX hg (fun r e=>by cases e;exact ⟨hDw,_,hK,rfl⟩)
    refine ⟨_,qjp (b1:=w.heap.size) (b2:=w.heap.size+1) (v1:=.slice none 0 0) (v2:=.int .i64 out.2) rfl rfl rfl hagR hagE (q0y hX'.res) (q0y hX'.err),.slice none 0 0,rfl,?_,hX'.below⟩
    rw [hX.nil]
    exact World.ownsRow_nil _ _ _ _
  ·rw [if_neg hz] at h
   obtain rfl:=Option.some.inj h
   unfold lvs at hWt
   obtain ⟨va,vn,vc,rfl⟩:=hsl
   clear h hwt ho
   refine ⟨trivial,(callsIn_wide.2 hWt).mono ?_⟩
   rintro e W2 ⟨rfl,hb2⟩
   have hbB:Below W1.heap.size W1 (W2.alloc (.cells (lvs lv) 87)):=hb2.alloc hb2.size _
   unfold lvs at hbB
   have k0:=(hbB.block _ (q0q k0)).trans k0
   have k1:=(hbB.block _ (q0q k1)).trans k1
   have c0:=q0y k0
   have c1:=q0y k1
   have f0:=q77 (o:=0) k0
   have f1:=q77 (o:=0) k1
   gi_wp2
   obtain ⟨q1,q2,q3⟩:=jev (q:=z) k0 k1 (hbl1.trans (hbB.mono hbl1.size))
   refine ⟨_,qjp (b1:=w.heap.size) (b2:=w.heap.size+1) (v1:=.slice none 0 0) (v2:=.int .i64 z) rfl rfl rfl hagR hagE q1 q2,.slice none 0 0,rfl,World.ownsRow_nil _ _ _ _,q3⟩
 ·rw [if_neg he] at h
  obtain rfl:=Option.some.inj h
  generalize o.1.2=q at *
  clear h ho
  gi_wp2_with (refine ⟨trivial,?_⟩;gi_at_call 37;refine (callsIn_wide.2 hO).mono ?_;rintro e W1 ⟨v,Pc1,rfl,hb1,p1,p2,p3,hown,hblk,va,vn,vc,rfl⟩;have k0:=(hb1.block _ (q0q g0)).trans g0;have k1:=(hb1.block _ (q0q g1)).trans g1;have c0:=q0y k0;have c1:=q0y k1;have f0:W1.frozen? ⟨w.heap.size,0,none⟩=false:=by { simp [World.frozen?,k0] };have f1:W1.frozen? ⟨w.heap.size+1,0,none⟩=false:=by { simp [World.frozen?,k1] })
  obtain ⟨q1,q2,q3⟩:=jev (q:=q) k0 k1 (hbA.trans (hb1.mono hbA.size))
  refine ⟨_,qjp (b1:=w.heap.size) (b2:=w.heap.size+1) (v1:=.slice none 0 0) (v2:=.int .i64 q) rfl rfl rfl hagR hagE q1 q2,.slice none 0 0,rfl,World.ownsRow_nil _ _ _ _,q3⟩
end YtggoebaobojmjaaGreatDoor.AM
end Go.Proofs
