/- The contracts of disk's Flush and Crash. -/
import Derived.Test.YtnoegkhkeeameaaDiskE
namespace Go.Proofs.Ytnoegkhkeeameaa
open Go.RowKit
set_option linter.unusedVariables false
namespace DM
theorem Var.three (w : World) (v1 v2 v3 v4 v5 : Value) (T T2 : TypeId) : Var (((w.alloc (.cells #[v1, v2] T)).alloc (.cells #[v5] T2)).alloc (.cells #[v3, v4] T)) w.heap.size v1 v2 ∧ Var (((w.alloc (.cells #[v1, v2] T)).alloc (.cells #[v5] T2)).alloc (.cells #[v3, v4] T)) (w.heap.size + 2) v3 v4 ∧
    (((w.alloc (.cells #[v1, v2] T)).alloc (.cells #[v5] T2)).alloc (.cells #[v3, v4] T)).cell? ⟨w.heap.size + 1, 0, none⟩ = some v5 := by
  refine ⟨((Var.made w _ _ _).below ((Below.refl _ _).alloc (Nat.le_refl _) _)).below ((Below.refl _ _).alloc (Nat.le_refl _) _), ?_, by go_simp⟩
  have := Var.made ((w.alloc (.cells #[v1, v2] T)).alloc (.cells #[v5] T2)) v3 v4 T
  simpa using this
theorem below_three (w : World) (o1 o2 o3 : Obj) : Below w.heap.size w (((w.alloc o1).alloc o2).alloc o3) := (((Below.refl _ _).alloc (Nat.le_refl _) _).alloc (by simp) _).alloc (by simp; omega) _
end DM
namespace DiskW
theorem BV.below {w w' : World} {v : Value} {l : List Bool} (h : BV w v l) (hb : Below w.heap.size w w') : BV w' v l := by
  obtain ⟨a, cap, h1, h2⟩ := h
  refine ⟨a, cap, h1, fun h0 => ?_⟩
  obtain ⟨b, off, h3, h4, h5⟩ := h2 h0
  exact ⟨b, off, h3, Nat.lt_of_lt_of_le h4 hb.size, fun j hj => (hb.cell (p := ⟨b, off + j, none⟩) h4).trans (h5 j hj)⟩
set_option maxHeartbeats 1600000 in
set_option maxRecDepth 100000 in
theorem bflush_any (a1 a2 : Option Addr) (k1 k2 n m : Nat) (d : DM.Dk) (w : World) (h : DM.DV w (.slice a1 n k1) (.slice a2 m k2) d) (hn : d.secs.length = n) (hm : d.cache.length = m) (b1 : n ≤ 1000000) (b2 : m ≤ 1000000) :
    Calls Try.prog 32 #[.agg #[.slice a1 n k1, .slice a2 m k2]] w fun e w' => ∃ a3 n3 k3 a4 n4 k4, e = .returned (.tuple #[.agg #[.slice a3 n3 k3, .slice a4 n4 k4], .int .i64 (DM.argE d)]) ∧
      DM.DV w' (.slice a3 n3 k3) (.slice a4 n4 k4) (DM.crashD (fun _ => true) d) ∧ Below w.heap.size w w' := by
  have C1 : Hid (∀ w', DM.DV w' (.slice a1 n k1) (.slice a2 m k2) d → Calls Try.prog 48 #[.agg #[.slice a1 n k1, .slice a2 m k2]] w' fun e w'' => ∃ a1 k1 a2 k2, e = .returned (.agg #[.slice a1 n k1, .slice a2 m k2]) ∧ DM.OD w'' w'.heap.size 9 62 (.slice a1 n k1) (.slice a2 m k2) d ∧ Below w'.heap.size w' w'') := Lib.hid (fun w' h => by
    have := clone_any _ _ d w' h (by omega) (by omega)
    rw [hn, hm] at this
    exact this)
  obtain ⟨x, hx⟩ : ∃ x, decide (DM.mayD d) = x := ⟨_, rfl⟩
  have C2 : Hid (∀ w', DM.DV w' (.slice a1 n k1) (.slice a2 m k2) d → Calls Try.prog 30 #[.agg #[.slice a1 n k1, .slice a2 m k2]] w' fun e w'' => e = .returned (.bool x) ∧ Below w'.heap.size w' w'') := Lib.hid (fun w' h => by
    have := may_any _ _ d w' h (by omega) (by omega)
    rw [hx] at this
    exact this)
  have C4 : Hid (DM.mayD d → ∀ base a1 k1 a2 k2 w', DM.OD w' base 9 62 (.slice a1 n k1) (.slice a2 m k2) d → base ≤ w'.heap.size → Calls Try.prog 49 #[.agg #[.slice a1 n k1, .slice a2 m k2]] w' fun e w'' => e = .returned (.agg #[.slice a1 n k1, .slice none 0 0]) ∧
      DM.OD w'' base 9 62 (.slice a1 n k1) (.slice none 0 0) (DM.settleD (fun _ => true) d) ∧ DM.But (DM.own2 (.slice a1 n k1) (.slice a2 m k2)) w' w'') := Lib.hid (fun hmay base a1 k1 a2 k2 w' h hb => flush_any base a1 a2 k1 k2 n m d w' h hb hn hm hmay b2)
  have H := Lib.hid h; clear h
  have hcase : (x = false ∧ DM.argE d = 1 ∧ DM.crashD (fun _ => true) d = d) ∨ (x = true ∧ DM.mayD d ∧ DM.argE d = 0 ∧ DM.crashD (fun _ => true) d = DM.settleD (fun _ => true) d) := by
    by_cases hmay : DM.mayD d
    · refine Or.inr ⟨by rw [← hx]; exact decide_eq_true hmay, hmay, if_pos hmay, if_pos hmay⟩
    · refine Or.inl ⟨by rw [← hx]; exact decide_eq_false hmay, if_neg hmay, if_neg hmay⟩
  have HN := Lib.hid hn; clear hn
  have HM := Lib.hid hm; clear hm

  clear hx
  rcases hcase with ⟨rfl, e1, e2⟩ | ⟨rfl, hmay, e1, e2⟩
  all_goals
    rw [e1, e2]
    clear e1 e2
    go_enter Try.func32, Try.ntmps32
    go_wp2_with fail
    have V := Lib.hid (DM.Var.two w (.slice a1 n k1) (.slice a2 m k2) (.slice none 0 0) (.slice none 0 0) 25)
    have B0 : Hid (Below w.heap.size w ((w.alloc (.cells #[.slice a1 n k1, .slice a2 m k2] 25)).alloc (.cells #[.slice none 0 0, .slice none 0 0] 25))) := Lib.hid (DM.below_two w _ _)
    have hz0 : w.heap.size + 1 < ((w.alloc (.cells #[.slice a1 n k1, .slice a2 m k2] 25)).alloc (.cells #[.slice none 0 0, .slice none 0 0] 25)).heap.size := by simp
    generalize hW0 : (w.alloc (.cells #[.slice a1 n k1, .slice a2 m k2] 25)).alloc (.cells #[.slice none 0 0, .slice none 0 0] 25) = W0 at *
    clear hW0
    refine (C1.out _ (H.out.below B0.out)).mono ?_; rintro e w1 ⟨b1', q1, b2', q2, rfl, O1, B1⟩
    have O1 := Lib.hid O1
    have A1 := Lib.hid (V.out.1.below B1)
    have R1 := Lib.hid (V.out.2.below B1)
    have BW1 : Below w.heap.size w w1 := B0.out.trans (B1.mono B0.out.size)
    have D1 := Lib.hid (H.out.below BW1)

    have c0 := A1.out.c0
    have c1 := A1.out.c1
    have l0 := A1.out.lt
    have z1 := B1.size
    have HB1 := Lib.hid B1; clear B1
    go_wp2_with fail
    have BA : Below w1.heap.size w1 (w1.alloc (.cells #[.slice b1' n q1, .slice b2' m q2] 25)) := (Below.refl _ _).alloc (Nat.le_refl _) _
    refine (C2.out _ (D1.out.below BA)).mono ?_; rintro e w2 ⟨rfl, B2⟩
    have O2 := Lib.hid ((O1.out.below BA).below B2)
    have R2 := Lib.hid ((R1.out.below BA).below B2)
    have S2 := Lib.hid ((DM.Var.made w1 (.slice b1' n q1) (.slice b2' m q2) 25).below B2)
    have BW2 : Below w.heap.size w w2 := (BW1.trans (BA.mono BW1.size)).trans (B2.mono (by have := BW1.size; simp; omega))
    have z2 : W0.heap.size ≤ w2.heap.size := by have := B2.size; simp at this; omega

    have s0 := S2.out.c0
    have s1 := S2.out.c1
    have r0 := R2.out.c0
    have r1 := R2.out.c1
    have g0 := R2.out.f0
    have g1 := R2.out.f1
    have l2 := S2.out.lt
    have l3 := R2.out.lt
    clear B2 BA c0 c1 l0 D1 O1 A1 R1

    go_wp2_with fail
  · refine bodyPost_ret (results_dke rfl _ _ (w.heap.size + 1) b1' b2' n q1 m q2 rfl (by go_simp) (by go_simp)) rfl ⟨b1', n, q1, b2', m, q2, rfl, ?_, ?_⟩
    · exact DM.DV.but O2.out (DM.set2 (B := w.heap.size + 1) (u := .slice b1' n q1) (v := .slice b2' m q2)) (fun k hk => by omega)
    · exact (BW2.setCell (by simp <;> omega) _).setCell (by simp <;> omega) _
  · refine (C4.out hmay W0.heap.size b1' q1 b2' q2 _ O2.out z2).mono ?_; rintro e w3 ⟨rfl, O3, BU3⟩
    have O3 := Lib.hid O3
    have R3 := Lib.hid (BU3.var R2.out (fun h => by have := (O2.out.ge _ h).1; omega))
    have BW3 : Below w.heap.size w w3 := BW2.trans (BU3.to_below BW2.size (fun k hk => by have := (O2.out.ge _ hk).1; omega))
    clear BU3 O2 R2 S2 s0 s1 r0 r1 g0 g1 
    have r0 := R3.out.c0
    have r1 := R3.out.c1
    have g0 := R3.out.f0
    have g1 := R3.out.f1
    go_wp2_with fail
    refine bodyPost_ret (results_dke rfl _ _ (w.heap.size + 1) b1' none n q1 0 0 rfl (by go_simp) (by go_simp)) rfl ⟨b1', n, q1, none, 0, 0, rfl, ?_, ?_⟩
    · exact DM.DV.but O3.out (DM.set2 (B := w.heap.size + 1) (u := .slice b1' n q1) (v := .slice none 0 0)) (fun k hk => by omega)
    · exact (BW3.setCell (by simp <;> omega) _).setCell (by simp <;> omega) _
set_option maxHeartbeats 1600000 in
set_option maxRecDepth 100000 in
theorem crash_any (a1 a2 : Option Addr) (k1 k2 n m : Nat) (d : DM.Dk) (a3 : Option Addr) (k3 : Nat) (l : List Bool) (w : World) (h : DM.DV w (.slice a1 n k1) (.slice a2 m k2) d) (hn : d.secs.length = n) (hm : d.cache.length = m) (b1 : n ≤ 1000000) (b2 : m ≤ 1000000) (hv : BV w (.slice a3 l.length k3) l) (b3 : l.length ≤ 1000000) :
    Calls Try.prog 15 #[.agg #[.slice a1 n k1, .slice a2 m k2], .slice a3 l.length k3] w fun e w' => ∃ a3 n3 k3 a4 n4 k4, e = .returned (.tuple #[.agg #[.slice a3 n3 k3, .slice a4 n4 k4], .int .i64 (DM.argE d)]) ∧
      DM.DV w' (.slice a3 n3 k3) (.slice a4 n4 k4) (DM.crashD (fun j => l.getD j false) d) ∧ Below w.heap.size w w' := by
  have C1 : Hid (∀ w', DM.DV w' (.slice a1 n k1) (.slice a2 m k2) d → Calls Try.prog 48 #[.agg #[.slice a1 n k1, .slice a2 m k2]] w' fun e w'' => ∃ a1 k1 a2 k2, e = .returned (.agg #[.slice a1 n k1, .slice a2 m k2]) ∧ DM.OD w'' w'.heap.size 9 62 (.slice a1 n k1) (.slice a2 m k2) d ∧ Below w'.heap.size w' w'') := Lib.hid (fun w' h => by
    have := clone_any _ _ d w' h (by omega) (by omega)
    rw [hn, hm] at this
    exact this)
  obtain ⟨x, hx⟩ : ∃ x, decide (DM.mayD d) = x := ⟨_, rfl⟩
  have C2 : Hid (∀ w', DM.DV w' (.slice a1 n k1) (.slice a2 m k2) d → Calls Try.prog 30 #[.agg #[.slice a1 n k1, .slice a2 m k2]] w' fun e w'' => e = .returned (.bool x) ∧ Below w'.heap.size w' w'') := Lib.hid (fun w' h => by
    have := may_any _ _ d w' h (by omega) (by omega)
    rw [hx] at this
    exact this)
  have C4 : Hid (DM.mayD d → ∀ base a1 k1 a2 k2 w', DM.OD w' base 9 62 (.slice a1 n k1) (.slice a2 m k2) d → base ≤ w'.heap.size → BV w' (.slice a3 l.length k3) l → w'.cell? ⟨w.heap.size + 1, 0, none⟩ = some (.slice a3 l.length k3) → w.heap.size + 1 < base → Calls Try.prog 52 #[.agg #[.slice a1 n k1, .slice a2 m k2], .func (.func 51) #[] #[.pointer (some ⟨w.heap.size + 1, 0, none⟩)]] w' fun e w'' => e = .returned (.agg #[.slice a1 n k1, .slice none 0 0]) ∧
      DM.OD w'' base 9 62 (.slice a1 n k1) (.slice none 0 0) (DM.settleD (fun j => l.getD j false) d) ∧ DM.But (DM.own2 (.slice a1 n k1) (.slice a2 m k2)) w' w'') := Lib.hid (fun hmay base a1 k1 a2 k2 w' h hb hbv hcell hlt => by
    have hbl : ∀ b off, a3 = some ⟨b, off, none⟩ → 0 < l.length → b < w.heap.size := fun b off e h0 => by
      obtain ⟨a', c', h1, h2⟩ := hv
      simp only [Value.slice.injEq] at h1
      obtain ⟨b', off', h3, h4, _⟩ := h2 h0
      rw [← h1.1, e] at h3
      simp only [Option.some.injEq, Addr.mk.injEq] at h3
      omega
    subst hn hm
    refine settle_crash (w.heap.size + 1) (fun j => l.getD j false) base a1 a2 k1 k2 d w' h hb hmay b2 (fun w'' hbut j _ => ?_)
    have hnot : ∀ k, k < base → ¬ DM.own2 (.slice a1 d.secs.length k1) (.slice a2 d.cache.length k2) k := fun k hk ho => by have := (h.ge k ho).1; omega
    refine crash1_any l (.slice a3 l.length k3) (w.heap.size + 1) j w'' ?_ ?_ (by omega)
    · obtain ⟨a', c', h1, h2⟩ := hbv
      refine ⟨a', c', h1, fun h0 => ?_⟩
      obtain ⟨b', off', h3, h4, h5⟩ := h2 h0
      simp only [Value.slice.injEq] at h1
      have hb' := hbl b' off' (h1.1.trans h3) h0
      exact ⟨b', off', h3, Nat.lt_of_lt_of_le h4 hbut.size, fun q hq => (hbut.cell (p := ⟨b', off' + q, none⟩) h4 (hnot b' (by omega))).trans (h5 q hq)⟩
    · exact (hbut.cell (p := ⟨w.heap.size + 1, 0, none⟩) (by show w.heap.size + 1 < w'.heap.size; omega) (hnot _ hlt)).trans hcell)
  have H := Lib.hid h; clear h
  have hcase : (x = false ∧ DM.argE d = 1 ∧ DM.crashD (fun j => l.getD j false) d = d) ∨ (x = true ∧ DM.mayD d ∧ DM.argE d = 0 ∧ DM.crashD (fun j => l.getD j false) d = DM.settleD (fun j => l.getD j false) d) := by
    by_cases hmay : DM.mayD d
    · refine Or.inr ⟨by rw [← hx]; exact decide_eq_true hmay, hmay, if_pos hmay, if_pos hmay⟩
    · refine Or.inl ⟨by rw [← hx]; exact decide_eq_false hmay, if_neg hmay, if_neg hmay⟩
  have HN := Lib.hid hn; clear hn
  have HM := Lib.hid hm; clear hm
  have HV := Lib.hid hv; clear hv
  clear hx
  rcases hcase with ⟨rfl, e1, e2⟩ | ⟨rfl, hmay, e1, e2⟩
  all_goals
    rw [e1, e2]
    clear e1 e2
    go_enter Try.func15, Try.ntmps15
    go_wp2_with fail
    have V := Lib.hid (DM.Var.three w (.slice a1 n k1) (.slice a2 m k2) (.slice none 0 0) (.slice none 0 0) (.slice a3 l.length k3) 25 28)
    have B0 : Hid (Below w.heap.size w (((w.alloc (.cells #[.slice a1 n k1, .slice a2 m k2] 25)).alloc (.cells #[.slice a3 l.length k3] 28)).alloc (.cells #[.slice none 0 0, .slice none 0 0] 25))) := Lib.hid (DM.below_three w _ _ _)
    have hz0 : w.heap.size + 2 < (((w.alloc (.cells #[.slice a1 n k1, .slice a2 m k2] 25)).alloc (.cells #[.slice a3 l.length k3] 28)).alloc (.cells #[.slice none 0 0, .slice none 0 0] 25)).heap.size := by simp
    generalize hW0 : ((w.alloc (.cells #[.slice a1 n k1, .slice a2 m k2] 25)).alloc (.cells #[.slice a3 l.length k3] 28)).alloc (.cells #[.slice none 0 0, .slice none 0 0] 25) = W0 at *
    clear hW0
    refine (C1.out _ (H.out.below B0.out)).mono ?_; rintro e w1 ⟨b1', q1, b2', q2, rfl, O1, B1⟩
    have O1 := Lib.hid O1
    have A1 := Lib.hid (V.out.1.below B1)
    have R1 := Lib.hid (V.out.2.1.below B1)
    have BW1 : Below w.heap.size w w1 := B0.out.trans (B1.mono B0.out.size)
    have D1 := Lib.hid (H.out.below BW1)
    have X1 : w1.cell? ⟨w.heap.size + 1, 0, none⟩ = some (.slice a3 l.length k3) := (B1.cell (p := ⟨w.heap.size + 1, 0, none⟩) (by show w.heap.size + 1 < W0.heap.size; omega)).trans V.out.2.2
    have c0 := A1.out.c0
    have c1 := A1.out.c1
    have l0 := A1.out.lt
    have z1 := B1.size
    have HB1 := Lib.hid B1; clear B1
    go_wp2_with fail
    have BA : Below w1.heap.size w1 (w1.alloc (.cells #[.slice b1' n q1, .slice b2' m q2] 25)) := (Below.refl _ _).alloc (Nat.le_refl _) _
    refine (C2.out _ (D1.out.below BA)).mono ?_; rintro e w2 ⟨rfl, B2⟩
    have O2 := Lib.hid ((O1.out.below BA).below B2)
    have R2 := Lib.hid ((R1.out.below BA).below B2)
    have S2 := Lib.hid ((DM.Var.made w1 (.slice b1' n q1) (.slice b2' m q2) 25).below B2)
    have BW2 : Below w.heap.size w w2 := (BW1.trans (BA.mono BW1.size)).trans (B2.mono (by have := BW1.size; simp; omega))
    have z2 : W0.heap.size ≤ w2.heap.size := by have := B2.size; simp at this; omega
    have X2 : w2.cell? ⟨w.heap.size + 1, 0, none⟩ = some (.slice a3 l.length k3) := (B2.cell (p := ⟨w.heap.size + 1, 0, none⟩) (by simp; omega)).trans ((BA.cell (p := ⟨w.heap.size + 1, 0, none⟩) (by show w.heap.size + 1 < w1.heap.size; omega)).trans X1)
    have s0 := S2.out.c0
    have s1 := S2.out.c1
    have r0 := R2.out.c0
    have r1 := R2.out.c1
    have g0 := R2.out.f0
    have g1 := R2.out.f1
    have l2 := S2.out.lt
    have l3 := R2.out.lt
    clear B2 BA c0 c1 l0 D1 O1 A1 R1
    have hmf : ∀ (fn : Fn) (first cap : Array Value) (w : World), (Instr.makeFunc fn first cap).run Try.prog w = .ok (.func fn first cap) w := fun _ _ _ _ => rfl
    go_wp2_with fail
  · refine bodyPost_ret (results_dke rfl _ _ (w.heap.size + 2) b1' b2' n q1 m q2 rfl (by go_simp) (by go_simp)) rfl ⟨b1', n, q1, b2', m, q2, rfl, ?_, ?_⟩
    · exact DM.DV.but O2.out (DM.set2 (B := w.heap.size + 2) (u := .slice b1' n q1) (v := .slice b2' m q2)) (fun k hk => by omega)
    · exact (BW2.setCell (by simp <;> omega) _).setCell (by simp <;> omega) _
  · refine (C4.out hmay W0.heap.size b1' q1 b2' q2 _ O2.out z2 (HV.out.below BW2) X2 (by omega)).mono ?_; rintro e w3 ⟨rfl, O3, BU3⟩
    have O3 := Lib.hid O3
    have R3 := Lib.hid (BU3.var R2.out (fun h => by have := (O2.out.ge _ h).1; omega))
    have BW3 : Below w.heap.size w w3 := BW2.trans (BU3.to_below BW2.size (fun k hk => by have := (O2.out.ge _ hk).1; omega))
    clear BU3 O2 R2 S2 s0 s1 r0 r1 g0 g1 hmf
    have r0 := R3.out.c0
    have r1 := R3.out.c1
    have g0 := R3.out.f0
    have g1 := R3.out.f1
    go_wp2_with fail
    refine bodyPost_ret (results_dke rfl _ _ (w.heap.size + 2) b1' none n q1 0 0 rfl (by go_simp) (by go_simp)) rfl ⟨b1', n, q1, none, 0, 0, rfl, ?_, ?_⟩
    · exact DM.DV.but O3.out (DM.set2 (B := w.heap.size + 2) (u := .slice b1' n q1) (v := .slice none 0 0)) (fun k hk => by omega)
    · exact (BW3.setCell (by simp <;> omega) _).setCell (by simp <;> omega) _
end DiskW
end Go.Proofs.Ytnoegkhkeeameaa
