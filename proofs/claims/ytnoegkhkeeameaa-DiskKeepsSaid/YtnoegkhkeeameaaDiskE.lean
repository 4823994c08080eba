/- The contracts of disk's flush, Put, Flush, Crash. -/
import Derived.Test.YtnoegkhkeeameaaDiskD
namespace Go.Proofs.Ytnoegkhkeeameaa
open Go.RowKit
set_option linter.unusedVariables false
namespace DM
theorem DV.but {R : Nat → Prop} {w w' : World} {base : Nat} {T1 T2 : TypeId} {v1 v2 : Value} {d : Dk} (h : OD w base T1 T2 v1 v2 d) (hb : But R w w') (hn : ∀ k, R k → k < base) : DV w' v1 v2 d :=
  (h.but hb (fun k hk hr => by have := (h.ge k hk).1; have := hn k hr; omega)).dv
theorem set2 {w : World} {B : Nat} {u v : Value} : But (· = B) w ((w.setCell ⟨B, 0, none⟩ u).setCell ⟨B, 1, none⟩ v) := ((But.refl (· = B) _).setCell (p := ⟨B, 0, none⟩) (Or.inl rfl) _).setCell (p := ⟨B, 1, none⟩) (Or.inl rfl) _
theorem Var.two (w : World) (v1 v2 v3 v4 : Value) (T : TypeId) : Var ((w.alloc (.cells #[v1, v2] T)).alloc (.cells #[v3, v4] T)) w.heap.size v1 v2 ∧ Var ((w.alloc (.cells #[v1, v2] T)).alloc (.cells #[v3, v4] T)) (w.heap.size + 1) v3 v4 := by
  refine ⟨(Var.made w _ _ _).below ((Below.refl _ _).alloc (Nat.le_refl _) _), ?_⟩
  have := Var.made (w.alloc (.cells #[v1, v2] T)) v3 v4 T
  simpa using this
theorem below_two (w : World) (o1 o2 : Obj) : Below w.heap.size w ((w.alloc o1).alloc o2) := ((Below.refl _ _).alloc (Nat.le_refl _) _).alloc (by simp) _
end DM
namespace DiskW
set_option maxHeartbeats 800000 in
set_option maxRecDepth 100000 in
theorem flush_any (base : Nat) (a1 a2 : Option Addr) (k1 k2 n m : Nat) (d : DM.Dk) (w : World) (h : DM.OD w base 9 62 (.slice a1 n k1) (.slice a2 m k2) d) (hbase : base ≤ w.heap.size) (hn : d.secs.length = n) (hm : d.cache.length = m)
    (hmay : DM.mayD d) (b2 : m ≤ 1000000) :
    Calls Try.prog 49 #[.agg #[.slice a1 n k1, .slice a2 m k2]] w fun e w' => e = .returned (.agg #[.slice a1 n k1, .slice none 0 0]) ∧
      DM.OD w' base 9 62 (.slice a1 n k1) (.slice none 0 0) (DM.settleD (fun _ => true) d) ∧ DM.But (DM.own2 (.slice a1 n k1) (.slice a2 m k2)) w w' := by
  have C : Hid (∀ w', DM.OD w' base 9 62 (.slice a1 n k1) (.slice a2 m k2) d → base ≤ w'.heap.size → Calls Try.prog 52 #[.agg #[.slice a1 n k1, .slice a2 m k2], .func (.func 69) #[] #[]] w' fun e w'' => e = .returned (.agg #[.slice a1 n k1, .slice none 0 0]) ∧
      DM.OD w'' base 9 62 (.slice a1 n k1) (.slice none 0 0) (DM.settleD (fun _ => true) d) ∧ DM.But (DM.own2 (.slice a1 n k1) (.slice a2 m k2)) w' w'') := Lib.hid (fun w' h hb => by
    subst hn hm
    exact settle_flush (fun _ => true) base a1 a2 k1 k2 d w' h hb hmay b2 (fun w'' _ j _ => flush1_any _ _))
  have H := Lib.hid h; clear h
  have HN := Lib.hid hn; clear hn
  have HM := Lib.hid hm; clear hm
  have HMAY := Lib.hid hmay; clear hmay
  go_enter Try.func49, Try.ntmps49
  go_wp2_with fail
  have V := Lib.hid (DM.Var.two w (.slice a1 n k1) (.slice a2 m k2) (.slice none 0 0) (.slice none 0 0) 25)
  have B0 := Lib.hid (DM.below_two w (.cells #[.slice a1 n k1, .slice a2 m k2] 25) (.cells #[.slice none 0 0, .slice none 0 0] 25))
  refine (C.out _ (H.out.below B0.out) (by simp; omega)).mono ?_; rintro e w1 ⟨rfl, O1, BU1⟩
  have R1 := BU1.var V.out.2 (fun h => by have := (H.out.ge _ h).2; omega)
  have BUW : DM.But (DM.own2 (.slice a1 n k1) (.slice a2 m k2)) w w1 := (DM.But.of_below (R := DM.own2 (.slice a1 n k1) (.slice a2 m k2)) B0.out).trans BU1 (fun _ => Or.inl)
  have r0 := R1.c0
  have r1 := R1.c1
  have g0 := R1.f0
  have g1 := R1.f1
  have HR1 := Lib.hid R1; clear R1
  go_wp2_with fail
  refine bodyPost_ret (results_dk rfl _ _ (w.heap.size + 1) a1 none n k1 0 0 rfl (by go_simp) (by go_simp)) rfl ⟨rfl, ?_, ?_⟩
  · exact O1.but DM.set2 (fun k hk hr => by
      subst hr
      rcases hk with hk | hk
      · have := (H.out.ge _ (Or.inl hk)).2; omega
      · cases hk)
  · exact (BUW.setCell (p := ⟨w.heap.size + 1, 0, none⟩) (Or.inr (Nat.le_succ _)) _).setCell (p := ⟨w.heap.size + 1, 1, none⟩) (Or.inr (Nat.le_succ _)) _
set_option maxHeartbeats 1600000 in
set_option maxRecDepth 100000 in
theorem put_any (a1 a2 : Option Addr) (k1 k2 n m : Nat) (d : DM.Dk) (i : Int) (s : ByteArray) (w : World) (h : DM.DV w (.slice a1 n k1) (.slice a2 m k2) d) (hn : d.secs.length = n) (hm : d.cache.length = m) (b1 : n ≤ 1000000) (b2 : m ≤ 1000000) (hs : s.size ≤ maxLen) :
    Calls Try.prog 23 #[.agg #[.slice a1 n k1, .slice a2 m k2], .int .i64 i, .string s] w fun e w' => ∃ a3 n3 k3 a4 n4 k4, e = .returned (.tuple #[.agg #[.slice a3 n3 k3, .slice a4 n4 k4], .int .i64 (DM.putE d i s)]) ∧
      DM.DV w' (.slice a3 n3 k3) (.slice a4 n4 k4) (DM.putD d i s) ∧ Below w.heap.size w w' := by
  have C1 : Hid (∀ w', DM.DV w' (.slice a1 n k1) (.slice a2 m k2) d → Calls Try.prog 48 #[.agg #[.slice a1 n k1, .slice a2 m k2]] w' fun e w'' => ∃ a1 k1 a2 k2, e = .returned (.agg #[.slice a1 n k1, .slice a2 m k2]) ∧ DM.OD w'' w'.heap.size 9 62 (.slice a1 n k1) (.slice a2 m k2) d ∧ Below w'.heap.size w' w'') := Lib.hid (fun w' h => by
    have := clone_any _ _ d w' h (by omega) (by omega)
    rw [hn, hm] at this
    exact this)
  obtain ⟨x, hx⟩ : ∃ x, decide (DM.mayD d) = x := ⟨_, rfl⟩
  have C2 : Hid (∀ w', DM.DV w' (.slice a1 n k1) (.slice a2 m k2) d → Calls Try.prog 30 #[.agg #[.slice a1 n k1, .slice a2 m k2]] w' fun e w'' => e = .returned (.bool x) ∧ Below w'.heap.size w' w'') := Lib.hid (fun w' h => by
    have := may_any _ _ d w' h (by omega) (by omega)
    rw [hx] at this
    exact this)
  have C3 : Hid (DM.writeE n i s ≠ 0 → ∀ a1 k1 a2 k2 w', Calls Try.prog 50 #[.agg #[.slice a1 n k1, .slice a2 m k2], .int .i64 i, .string s] w' fun e w'' => e = .returned (.tuple #[.agg #[.slice a1 n k1, .slice a2 m k2], .int .i64 (DM.writeE n i s)]) ∧ Below w'.heap.size w' w'') := Lib.hid (fun he a1 k1 a2 k2 w' => write_no a1 a2 n k1 m k2 i s w' (by omega) hs he)
  have C4 : Hid (DM.writeE n i s = 0 → ∀ base a1 k1 a2 k2 w', DM.OD w' base 9 62 (.slice a1 n k1) (.slice a2 m k2) d → base ≤ w'.heap.size → Calls Try.prog 50 #[.agg #[.slice a1 n k1, .slice a2 m k2], .int .i64 i, .string s] w' fun e w'' => ∃ a3 k3, e = .returned (.tuple #[.agg #[.slice a1 n k1, .slice a3 (m + 1) k3], .int .i64 0]) ∧
      DM.OD w'' base 9 62 (.slice a1 n k1) (.slice a3 (m + 1) k3) (DM.addW d i s) ∧ DM.But (DM.own2 (.slice a1 n k1) (.slice a2 m k2)) w' w'') := Lib.hid (fun he base a1 k1 a2 k2 w' h hb => by
    have hin : DM.inD n i ∧ s.size ≤ 32 := by
      unfold DM.writeE at he
      by_cases h1 : DM.inD n i
      · rw [if_pos h1] at he
        by_cases h2 : 32 < s.size
        · rw [if_pos h2] at he; omega
        · exact ⟨h1, by omega⟩
      · rw [if_neg h1] at he; omega
    subst hn hm
    refine (write_yes base a1 a2 k1 k2 d i s w' h hb b1 b2 hin.1 hin.2).mono ?_
    rintro e w'' ⟨a3, k3, rfl, h1, h2, _⟩
    exact ⟨a3, k3, rfl, h1, h2⟩)
  have H := Lib.hid h; clear h
  have hcase : (x = false ∧ DM.putE d i s = 1 ∧ DM.putD d i s = d) ∨ (x = true ∧ DM.writeE n i s ≠ 0 ∧ DM.putE d i s = DM.writeE n i s ∧ DM.putD d i s = d) ∨ (x = true ∧ DM.writeE n i s = 0 ∧ DM.putE d i s = 0 ∧ DM.putD d i s = DM.addW d i s) := by
    by_cases hmay : DM.mayD d
    · have hx1 : x = true := by rw [← hx]; exact decide_eq_true hmay
      unfold DM.putE DM.putD DM.writeD
      rw [if_pos hmay, if_pos hmay, hn]
      by_cases h0 : DM.writeE n i s = 0
      · rw [if_pos h0]; exact Or.inr (Or.inr ⟨hx1, h0, h0, rfl⟩)
      · rw [if_neg h0]; exact Or.inr (Or.inl ⟨hx1, h0, rfl, rfl⟩)
    · have hx1 : x = false := by rw [← hx]; exact decide_eq_false hmay
      unfold DM.putE DM.putD
      rw [if_neg hmay, if_neg hmay]
      exact Or.inl ⟨hx1, rfl, rfl⟩
  have HN := Lib.hid hn; clear hn
  have HM := Lib.hid hm; clear hm
  clear hx
  rcases hcase with ⟨rfl, e1, e2⟩ | ⟨rfl, he, e1, e2⟩ | ⟨rfl, he, e1, e2⟩
  all_goals
    rw [e1, e2]
    clear e1 e2
    go_enter Try.func23, Try.ntmps23
    go_wp2_with fail
    have V := Lib.hid (DM.Var.two w (.slice a1 n k1) (.slice a2 m k2) (.slice none 0 0) (.slice none 0 0) 25)
    have B0 := Lib.hid (DM.below_two w (.cells #[.slice a1 n k1, .slice a2 m k2] 25) (.cells #[.slice none 0 0, .slice none 0 0] 25))
    have hz0 : w.heap.size + 1 < ((w.alloc (.cells #[.slice a1 n k1, .slice a2 m k2] 25)).alloc (.cells #[.slice none 0 0, .slice none 0 0] 25)).heap.size := by simp
    generalize hW0 : (w.alloc (.cells #[.slice a1 n k1, .slice a2 m k2] 25)).alloc (.cells #[.slice none 0 0, .slice none 0 0] 25) = W0 at *
    clear hW0
    refine (C1.out _ (H.out.below B0.out)).mono ?_; rintro e w1 ⟨b1', q1, b2', q2, rfl, O1, B1⟩
    have O1 := Lib.hid O1
    have A1 := Lib.hid (V.out.1.below B1)
    have R1 := Lib.hid (V.out.2.below B1)
    have BW1 : Below w.heap.size w w1 := B0.out.trans (B1.mono B0.out.size)
    have D1 := Lib.hid (H.out.below BW1)
    have c0 := A1.out.c0
    have c1 := A1.out.c1
    have l0 := A1.out.lt
    have z1 := B1.size
    have HB1 := Lib.hid B1; clear B1
    go_wp2_with fail
    have BA : Below w1.heap.size w1 (w1.alloc (.cells #[.slice b1' n q1, .slice b2' m q2] 25)) := (Below.refl _ _).alloc (Nat.le_refl _) _
    refine (C2.out _ (D1.out.below BA)).mono ?_; rintro e w2 ⟨rfl, B2⟩
    have O2 := Lib.hid ((O1.out.below BA).below B2)
    have A2 := Lib.hid ((A1.out.below BA).below B2)
    have R2 := Lib.hid ((R1.out.below BA).below B2)
    have S2 := Lib.hid ((DM.Var.made w1 (.slice b1' n q1) (.slice b2' m q2) 25).below B2)
    have BW2 : Below w.heap.size w w2 := (BW1.trans (BA.mono BW1.size)).trans (B2.mono (by have := BW1.size; simp; omega))
    have z2 : W0.heap.size ≤ w2.heap.size := by have := B2.size; simp at this; omega
    have s0 := S2.out.c0
    have s1 := S2.out.c1
    have r0 := R2.out.c0
    have r1 := R2.out.c1
    have g0 := R2.out.f0
    have g1 := R2.out.f1
    have l2 := S2.out.lt
    have l3 := R2.out.lt
    clear B2 BA c0 c1 l0 D1 O1 A1 R1 A2
    go_wp2_with fail
  · refine bodyPost_ret (results_dke rfl _ _ (w.heap.size + 1) b1' b2' n q1 m q2 rfl (by go_simp) (by go_simp)) rfl ⟨b1', n, q1, b2', m, q2, rfl, ?_, ?_⟩
    · exact DM.DV.but O2.out (DM.set2 (B := w.heap.size + 1) (u := .slice b1' n q1) (v := .slice b2' m q2)) (fun k hk => by omega)
    · exact (BW2.setCell (by simp) _).setCell (by simp) _
  · refine (C3.out he b1' q1 b2' q2 _).mono ?_; rintro e w3 ⟨rfl, B3⟩
    have O3 := Lib.hid (O2.out.below B3)
    have R3 := Lib.hid (R2.out.below B3)
    have BW3 : Below w.heap.size w w3 := BW2.trans (B3.mono BW2.size)
    have HE := Lib.hid he
    clear B3 O2 R2 S2 s0 s1 r0 r1 g0 g1 he
    have r0 := R3.out.c0
    have r1 := R3.out.c1
    have g0 := R3.out.f0
    have g1 := R3.out.f1
    go_wp2_with fail
    refine bodyPost_ret (results_dke rfl _ _ (w.heap.size + 1) b1' b2' n q1 m q2 rfl (by go_simp) (by go_simp)) rfl ⟨b1', n, q1, b2', m, q2, rfl, ?_, ?_⟩
    · exact DM.DV.but O3.out (DM.set2 (B := w.heap.size + 1) (u := .slice b1' n q1) (v := .slice b2' m q2)) (fun k hk => by omega)
    · exact (BW3.setCell (by simp) _).setCell (by simp) _
  · refine (C4.out he W0.heap.size b1' q1 b2' q2 _ O2.out z2).mono ?_; rintro e w3 ⟨b3', q3, rfl, O3, BU3⟩
    have O3 := Lib.hid O3
    have R3 := Lib.hid (BU3.var R2.out (fun h => by have := (O2.out.ge _ h).1; omega))
    have BW3 : Below w.heap.size w w3 := BW2.trans (BU3.to_below BW2.size (fun k hk => by have := (O2.out.ge _ hk).1; omega))
    have HE := Lib.hid he
    clear BU3 O2 R2 S2 s0 s1 r0 r1 g0 g1 he
    have r0 := R3.out.c0
    have r1 := R3.out.c1
    have g0 := R3.out.f0
    have g1 := R3.out.f1
    go_wp2_with fail
    refine bodyPost_ret (results_dke rfl _ _ (w.heap.size + 1) b1' b3' n q1 (m + 1) q3 rfl (by go_simp) (by go_simp)) rfl ⟨b1', n, q1, b3', m + 1, q3, rfl, ?_, ?_⟩
    · exact DM.DV.but O3.out (DM.set2 (B := w.heap.size + 1) (u := .slice b1' n q1) (v := .slice b3' (m + 1) q3)) (fun k hk => by omega)
    · exact (BW3.setCell (by simp) _).setCell (by simp) _
end DiskW
end Go.Proofs.Ytnoegkhkeeameaa
