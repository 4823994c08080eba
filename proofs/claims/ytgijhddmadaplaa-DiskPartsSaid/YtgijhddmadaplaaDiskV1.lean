/- The walk of the law on acts in two parts, where the first part is all, and the list has no room. -/
import Derived.Test.YtgijhddmadaplaaDiskV0
namespace Go.Proofs.Ytgijhddmadaplaa
open Go.RowKit
set_option linter.unusedVariables false
namespace DiskW
set_option maxHeartbeats 6400000 in
set_option maxRecDepth 100000 in
theorem parts_in1 (a1 : Option Addr) (n k1 : Nat) (a2 : Option Addr) (m k2 : Nat) (d : DM.Dk) (a3 : Option Addr) (l : List DM.Ac) (w : World) (H0 : DM.DV w (.slice a1 n k1) (.slice a2 m k2) d) (HA0 : DM.AV w (.slice a3 l.length l.length) l) (hsm : DM.smallD d) (hfew : DM.fewA l) :
    Calls Try.prog 12 #[.agg #[.slice a1 n k1, .slice a2 m k2], .slice a3 l.length l.length, .int .i64 (l.length : Int)] w fun e w' => e = .returned (.bool true) ∧ Below w.heap.size w w' := by
  have hn := (DM.DV.len H0).1
  have hm := (DM.DV.len H0).2
  have b1 : n ≤ 600 := by have := hsm.1.1; omega
  have b2 : m ≤ 200 := by have := hsm.2.1; omega
  have b3 : l.length ≤ 200 := hfew.1
  have hsz : ∀ a ∈ l, a.2.2.size ≤ maxLen := fun a ha => by have := hfew.2 a ha; unfold maxLen; omega
  have CS : Hid (∀ w', DM.DV w' (.slice a1 n k1) (.slice a2 m k2) d → Calls Try.prog 21 #[.agg #[.slice a1 n k1, .slice a2 m k2]] w' fun e w'' => e = .returned (.bool true) ∧ Below w'.heap.size w' w'') := Lib.hid (fun w' h => by
    have := small_any a1 a2 n k1 m k2 d w' h (by omega) (by omega)
    rw [decide_eq_true hsm] at this
    exact this)
  have CW : Hid (∀ w', DM.AV w' (.slice a3 l.length l.length) l → Calls Try.prog 49 #[.slice a3 l.length l.length] w' fun e w'' => e = .returned (.bool true) ∧ w' = w'') := Lib.hid (fun w' h => by
    have := few_any a3 l.length l.length l w' h (by omega)
    rw [decide_eq_true hfew] at this
    exact this)
  obtain ⟨L1, hL1⟩ : ∃ L, l.take l.length = L := ⟨_, rfl⟩
  obtain ⟨L2, hL2⟩ : ∃ L, l.drop l.length = L := ⟨_, rfl⟩
  have hLL : L1 ++ L2 = l := by rw [← hL1, ← hL2, List.take_append_drop]
  have hL1l : L1.length = l.length := by rw [← hL1]; simp <;> omega
  have hL2l : L2.length = 0 := by rw [← hL2]; simp
  obtain ⟨A, hA⟩ : ∃ A, DM.runD d l = A := ⟨_, rfl⟩
  obtain ⟨P, hP⟩ : ∃ A, DM.runD d L1 = A := ⟨_, rfl⟩
  obtain ⟨Q, hQ⟩ : ∃ A, DM.runD P L2 = A := ⟨_, rfl⟩
  obtain ⟨e1, he1⟩ : ∃ e, DM.runE d l = e := ⟨_, rfl⟩
  obtain ⟨e2, he2⟩ : ∃ e, DM.runE d L1 = e := ⟨_, rfl⟩
  obtain ⟨e3, he3⟩ : ∃ e, DM.runE P L2 = e := ⟨_, rfl⟩
  have hAn : A.secs.length = n ∧ A.cache.length ≤ 400 := by rw [← hA, DM.runD_len]; exact ⟨hn, by have := DM.runD_cache d l; omega⟩
  have hPn : P.secs.length = n ∧ P.cache.length ≤ 400 := by rw [← hP, DM.runD_len]; exact ⟨hn, by have := DM.runD_cache d L1; omega⟩
  have hQn : Q.secs.length = n ∧ Q.cache.length ≤ 600 := by rw [← hQ, DM.runD_len]; exact ⟨hPn.1, by have := DM.runD_cache P L2; omega⟩
  have hparts := DM.run_parts d L1 L2
  rw [hLL, he1, he2, hP, he3, hQ, hA] at hparts
  have hne : e1 ≠ 0 → A = d := fun h => by rw [← hA]; exact DM.run_ne (by rw [he1]; exact h)
  have CR1 : Hid (∀ w', DM.DV w' (.slice a1 n k1) (.slice a2 m k2) d → DM.AV w' (.slice a3 l.length l.length) l → Calls Try.prog 26 #[.agg #[.slice a1 n k1, .slice a2 m k2], .slice a3 l.length l.length, .int .i64 (l.length : Int)] w' fun e w'' => ∃ a3 n3 k3 a4 n4 k4, e = .returned (.tuple #[.agg #[.slice a3 n3 k3, .slice a4 n4 k4], .int .i64 e1]) ∧ DM.DV w'' (.slice a3 n3 k3) (.slice a4 n4 k4) A ∧ Below w'.heap.size w' w'' ∧ (∀ k, DM.own2 (.slice a3 n3 k3) (.slice a4 n4 k4) k → w'.heap.size ≤ k)) := Lib.hid (fun w' h ha => by
    have := run_any a1 a2 k1 k2 n m d a3 l.length l (l.length : Int) l.length w' h hn hm (by omega) (by omega) ha (by omega) hsz (by omega)
    rw [List.take_length, he1, hA] at this
    exact this)
  have CR2 : Hid (∀ w', DM.DV w' (.slice a1 n k1) (.slice a2 m k2) d → DM.AV w' (.slice a3 l.length l.length) l → Calls Try.prog 26 #[.agg #[.slice a1 n k1, .slice a2 m k2], .slice a3 l.length l.length, .int .i64 (l.length : Int)] w' fun e w'' => ∃ a3 n3 k3 a4 n4 k4, e = .returned (.tuple #[.agg #[.slice a3 n3 k3, .slice a4 n4 k4], .int .i64 e2]) ∧ DM.DV w'' (.slice a3 n3 k3) (.slice a4 n4 k4) P ∧ Below w'.heap.size w' w'' ∧ (∀ k, DM.own2 (.slice a3 n3 k3) (.slice a4 n4 k4) k → w'.heap.size ≤ k)) := Lib.hid (fun w' h ha => by
    have := run_any a1 a2 k1 k2 n m d a3 l.length l (l.length : Int) l.length w' h hn hm (by omega) (by omega) ha (by omega) hsz (by omega)
    rw [hL1, he2, hP] at this
    exact this)
  have CR3 : Hid (∀ a5 n5 k5 a6 n6 k6 a7 k7 w', DM.DV w' (.slice a5 n5 k5) (.slice a6 n6 k6) P → DM.AV w' (.slice a7 0 k7) L2 → Calls Try.prog 26 #[.agg #[.slice a5 n5 k5, .slice a6 n6 k6], .slice a7 0 k7, .int .i64 0] w' fun e w'' => ∃ a3 n3 k3 a4 n4 k4, e = .returned (.tuple #[.agg #[.slice a3 n3 k3, .slice a4 n4 k4], .int .i64 e3]) ∧ DM.DV w'' (.slice a3 n3 k3) (.slice a4 n4 k4) Q ∧ Below w'.heap.size w' w'' ∧ (∀ k, DM.own2 (.slice a3 n3 k3) (.slice a4 n4 k4) k → w'.heap.size ≤ k)) := Lib.hid (fun a5 n5 k5 a6 n6 k6 a7 k7 w' h ha => by
    have hl := DM.DV.len h
    rw [← hL2l] at ha ⊢
    have := run_any a5 a6 k5 k6 n5 n6 P a7 k7 L2 (0 : Int) 0 w' h hl.1 hl.2 (by omega) (by omega) ha (by omega) (fun a h => hsz a (by rw [← hL2] at h; exact List.mem_of_mem_drop h)) (by rw [hL2l]; omega)
    rw [← hL2l, List.take_length, he3, hQ] at this
    exact this)
  have CM : Hid (∀ D : DM.Dk, D.secs.length ≤ 1000 → D.cache.length ≤ 1000 → ∀ a3 n3 k3 a4 n4 k4 a5 n5 k5 a6 n6 k6 w', DM.DV w' (.slice a3 n3 k3) (.slice a4 n4 k4) D → DM.DV w' (.slice a5 n5 k5) (.slice a6 n6 k6) D → Calls Try.prog 41 #[.agg #[.slice a3 n3 k3, .slice a4 n4 k4], .agg #[.slice a5 n5 k5, .slice a6 n6 k6]] w' fun e w'' => e = .returned (.bool true) ∧ Below w'.heap.size w' w'') := Lib.hid (fun D hd1 hd2 a3 n3 k3 a4 n4 k4 a5 n5 k5 a6 n6 k6 w' h1 h2 => by
    have g1 := DM.DV.len h1
    have g2 := DM.DV.len h2
    have := rsame_any a3 a4 a5 a6 n3 k3 n4 k4 n5 k5 n6 k6 D D w' h1 h2 (by omega) (by omega) (by omega) (by omega)
    rw [decide_eq_true (rfl : D = D)] at this
    exact this)
  obtain ⟨K, hK⟩ : ∃ K, DM.crashD (fun _ => true) A = K := ⟨_, rfl⟩
  have hKn : K.secs.length ≤ 1000 ∧ K.cache.length ≤ 1000 := by
    rw [← hK]; unfold DM.crashD
    by_cases h : DM.mayD A
    · rw [if_pos h]
      refine ⟨?_, Nat.zero_le _⟩
      show (DM.settleK _ _ _ _).length ≤ _
      rw [DM.settleK_length]; omega
    · rw [if_neg h]; omega
  have hKK : DM.crashD (fun _ => true) K = K := by rw [← hK]; exact DM.crash_twice A
  obtain ⟨e4, he4⟩ : ∃ e, DM.argE A = e := ⟨_, rfl⟩
  obtain ⟨e5, he5⟩ : ∃ e, DM.argE K = e := ⟨_, rfl⟩
  have CF1 : Hid (∀ a5 n5 k5 a6 n6 k6 w', DM.DV w' (.slice a5 n5 k5) (.slice a6 n6 k6) A → Calls Try.prog 44 #[.agg #[.slice a5 n5 k5, .slice a6 n6 k6]] w' fun e w'' => ∃ a3 n3 k3 a4 n4 k4, e = .returned (.tuple #[.agg #[.slice a3 n3 k3, .slice a4 n4 k4], .int .i64 e4]) ∧ DM.DV w'' (.slice a3 n3 k3) (.slice a4 n4 k4) K ∧ Below w'.heap.size w' w'') := Lib.hid (fun a5 n5 k5 a6 n6 k6 w' h => by
    have hl := DM.DV.len h
    have := bflush_any a5 a6 k5 k6 n5 n6 A w' h hl.1 hl.2 (by omega) (by omega)
    rw [hK, he4] at this
    exact this)
  have CF2 : Hid (∀ a5 n5 k5 a6 n6 k6 w', DM.DV w' (.slice a5 n5 k5) (.slice a6 n6 k6) K → Calls Try.prog 44 #[.agg #[.slice a5 n5 k5, .slice a6 n6 k6]] w' fun e w'' => ∃ a3 n3 k3 a4 n4 k4, e = .returned (.tuple #[.agg #[.slice a3 n3 k3, .slice a4 n4 k4], .int .i64 e5]) ∧ DM.DV w'' (.slice a3 n3 k3) (.slice a4 n4 k4) K ∧ Below w'.heap.size w' w'') := Lib.hid (fun a5 n5 k5 a6 n6 k6 w' h => by
    have hl := DM.DV.len h
    have := bflush_any a5 a6 k5 k6 n5 n6 K w' h hl.1 hl.2 (by omega) (by omega)
    rw [hKK, he5] at this
    exact this)
  have hcase : (e1 = 0 ∧ e2 = 0 ∧ e3 = 0 ∧ Q = A) ∨ ((e1 == 0) = false ∧ (e2 == 0) = false ∧ A = d) ∨ ((e1 == 0) = false ∧ e2 = 0 ∧ (e3 == 0) = false ∧ A = d) := by
    by_cases h1 : e1 = 0
    · obtain ⟨g1, g2, g3⟩ := hparts.1 h1
      exact Or.inl ⟨h1, g1, g2, g3⟩
    · by_cases h2 : e2 = 0
      · refine Or.inr (Or.inr ⟨by simpa using h1, h2, ?_, hne h1⟩)
        rcases hparts.2 h1 with h | h
        · exact absurd h2 h
        · simpa using h
      · exact Or.inr (Or.inl ⟨by simpa using h1, by simpa using h2, hne h1⟩)
  have HCASE := Lib.hid hcase
  have HKN := Lib.hid hKn
  have HAN := Lib.hid hAn
  clear hcase hKn hKK hK he4 he5 hparts hne hAn hPn hQn
  have HL2 := Lib.hid hL2; clear hL2
  have H := Lib.hid H0; clear H0
  have HA := Lib.hid HA0
  have hcap : l.length ≤ l.length ∧ l.length ≤ 9223372036854775807 := by
    obtain ⟨a', c', e, g1, g2, _⟩ := HA0
    simp only [Value.slice.injEq] at e
    omega
  clear HA0 hA hP hQ he1 he2 he3 hL1 hLL hn hm hsm hfew hsz hL1l hL2l
  have hx0 : ¬ (l.length : Int) < 0 := by omega
  have hx1 : ¬ (l.length : Int) < (l.length : Int) := by omega
  have hx2 : (l.length : Int) ≤ (l.length : Int) := by omega
  go_enter Try.func12, Try.ntmps12
  go_wp2_with fail
  have Z0 : Below w.heap.size w (w.alloc (.cells #[.slice a1 n k1, .slice a2 m k2] 40)) := (Below.refl _ _).alloc (Nat.le_refl _) _
  have AV0 := Lib.hid (HA.out.below Z0)
  have Xd_0 := Lib.hid (box_alloc w (.slice a1 n k1) (.slice a2 m k2) 40)
  have Yd_0 := Lib.hid (H.out.below Z0)
  generalize hW0 : w.alloc (.cells #[.slice a1 n k1, .slice a2 m k2] 40) = w0 at *
  clear hW0
  have cd0 := Xd_0.out.2.1; have cd1 := Xd_0.out.2.2; have ld := Xd_0.out.1
  go_wp2_with fail
  refine (CS.out _ Yd_0.out).mono ?_; rintro e w1 ⟨rfl, B⟩
  have T : Below w0.heap.size w0 w1 := B
  have Z1 : Below w.heap.size w w1 := Z0.trans (T.mono Z0.size)
  have Xd_1 := Lib.hid (Xd_0.out.below T); have Yd_1 := Lib.hid (Yd_0.out.below T)
  clear B T cd0 cd1 ld Xd_0 Yd_0
  go_wp2_with fail
  refine (CW.out _ (HA.out.below Z1)).mono ?_; rintro e w' ⟨rfl, rfl⟩
  have cd0 := Xd_1.out.2.1; have cd1 := Xd_1.out.2.2; have ld := Xd_1.out.1
  go_wp2_with fail
  refine (CR1.out _ Yd_1.out (HA.out.below Z1)).mono ?_; rintro e w2 ⟨a5, n5, k5, a6, n6, k6, rfl, D, B, _⟩
  have T : Below w1.heap.size w1 w2 := B
  have Z2 : Below w.heap.size w w2 := Z1.trans (T.mono Z1.size)
  have Xd_2 := Lib.hid (Xd_1.out.below T); have Yd_2 := Lib.hid (Yd_1.out.below T)
  clear B T cd0 cd1 ld Xd_1 Yd_1
  have YA_2 := Lib.hid D; clear D
  have cd0 := Xd_2.out.2.1; have cd1 := Xd_2.out.2.2; have ld := Xd_2.out.1
  go_wp2_with fail
  refine (CR2.out _ (Yd_2.out.below ((Below.refl _ _).alloc (Nat.le_refl _) _)) ((HA.out.below Z2).below ((Below.refl _ _).alloc (Nat.le_refl _) _))).mono ?_; rintro e w3 ⟨a7, n7, k7, a8, n8, k8, rfl, D, B, _⟩
  have T : Below w2.heap.size w2 w3 := ((Below.refl _ _).alloc (Nat.le_refl _) _).trans (B.mono (by simp))
  have Z3 : Below w.heap.size w w3 := Z2.trans (T.mono Z2.size)
  have Xd_3 := Lib.hid (Xd_2.out.below T); have Yd_3 := Lib.hid (Yd_2.out.below T)
  have XA_3 := Lib.hid ((DiskW.box_alloc w2 (.slice a5 n5 k5) (.slice a6 n6 k6) 40).below B); have YA_3 := Lib.hid (YA_2.out.below T)
  clear B T cd0 cd1 ld Xd_2 Yd_2 YA_2
  have YP_3 := Lib.hid D; clear D
  go_wp2_with fail
  obtain ⟨w4, hw4⟩ : ∃ x, x = w3.alloc (.cells #[.slice a7 n7 k7, .slice a8 n8 k8] 40) := ⟨_, rfl⟩
  have B : Below (w3.alloc (.cells #[.slice a7 n7 k7, .slice a8 n8 k8] 40)).heap.size (w3.alloc (.cells #[.slice a7 n7 k7, .slice a8 n8 k8] 40)) w4 := by rw [hw4]; exact Below.refl _ _
  rw [← hw4]
  have hP : (.pointer (some ⟨w3.heap.size, 0, none⟩) : Value) = .pointer (some ⟨w3.heap.size, 0, none⟩) := rfl
  clear hw4 hP
  have T : Below w3.heap.size w3 w4 := ((Below.refl _ _).alloc (Nat.le_refl _) _).trans (B.mono (by simp))
  have Z4 : Below w.heap.size w w4 := Z3.trans (T.mono Z3.size)
  have Xd_4 := Lib.hid (Xd_3.out.below T); have Yd_4 := Lib.hid (Yd_3.out.below T)
  have XA_4 := Lib.hid (XA_3.out.below T); have YA_4 := Lib.hid (YA_3.out.below T)
  have XP_4 := Lib.hid ((DiskW.box_alloc w3 (.slice a7 n7 k7) (.slice a8 n8 k8) 40).below B); have YP_4 := Lib.hid (YP_3.out.below T)
  clear B T  Xd_3 Yd_3 XA_3 YA_3 YP_3
  have cP0 := XP_4.out.2.1; have cP1 := XP_4.out.2.2; have lP := XP_4.out.1
  have HPA : Hid (Below w4.heap.size w4 w4.drew) := Lib.hid (Below.refl _ _).drew
  have HPB : Hid (Below w4.heap.size w4 (w4.alloc (.cells #[.slice none 0 0, .slice none 0 0] 40)).drew) := Lib.hid ((Below.refl _ _).alloc (Nat.le_refl _) _).drew
  have HVZ : Hid (DM.Var (w4.alloc (.cells #[.slice none 0 0, .slice none 0 0] 40)).drew w4.heap.size (.slice none 0 0) (.slice none 0 0)) := Lib.hid ((DM.Var.made w4 _ _ _).set ((Below.refl _ _).drew) (Nat.lt_succ_self _))
  have HAV := Lib.hid (HA.out.below Z4)
  have HDR : Hid (∀ w', DM.AV w' (.slice a3 l.length l.length) l → DM.AV w' (.slice a3 0 0) L2) := Lib.hid (fun w' h => by have := h.drop (Nat.le_refl l.length); rw [HL2.out, if_pos rfl, Nat.sub_self] at this; exact this)
  have hwrap : IntKind.i64.wrap 0 = (l.length : Int) - (l.length : Int) := by rw [IntKind.wrap_i64]; omega
  go_region_law (first
    | (go_simp; go_at_call 26; refine (CR3.out _ _ _ _ _ _ _ _ (w4.alloc (.cells #[.slice none 0 0, .slice none 0 0] 40)).drew (YP_4.out.below HPB.out) (HDR.out _ (HAV.out.below HPB.out))).mono ?_; rintro e wc ⟨a11, n11, k11, a12, n12, k12, rfl, D5, B5, hown5⟩; have V5 := Lib.hid (HVZ.out.below B5); have T5 : Below w4.heap.size w4 wc := HPB.out.trans (B5.mono HPB.out.size); have zc0 := V5.out.c0; have zc1 := V5.out.c1; have zf0 := V5.out.f0; have zf1 := V5.out.f1; have zl := V5.out.lt; dsimp only)
    | (go_simp; go_at_call 26; refine (CR3.out _ _ _ _ _ _ _ _ w4.drew (YP_4.out.below HPA.out) (HDR.out _ (HAV.out.below HPA.out))).mono ?_; rintro e wc ⟨a11, n11, k11, a12, n12, k12, rfl, D5, B5, hown5⟩; have T5 : Below w4.heap.size w4 wc := HPA.out.trans (B5.mono HPA.out.size); dsimp only))
  · have hc := HCASE.out
    obtain ⟨w5, hw⟩ : ∃ x, x = wc := ⟨_, rfl⟩; subst hw
    have B := T5; have D := D5; clear T5 D5 B5 hown5 HPA HPB HVZ HAV hwrap
    have T : Below w4.heap.size w4 w5 := B
    have Z5 : Below w.heap.size w w5 := Z4.trans (T.mono Z4.size)
    have Xd_5 := Lib.hid (Xd_4.out.below T); have Yd_5 := Lib.hid (Yd_4.out.below T)
    have XA_5 := Lib.hid (XA_4.out.below T); have YA_5 := Lib.hid (YA_4.out.below T)
    have XP_5 := Lib.hid (XP_4.out.below T); have YP_5 := Lib.hid (YP_4.out.below T)
    clear B T cP0 cP1 lP Xd_4 Yd_4 XA_4 YA_4 XP_4 YP_4
    have YQ_5 := Lib.hid D; clear D
    rcases hc with hc | hc | hc
    · obtain ⟨rfl, rfl, rfl, rfl⟩ := hc
      have cA0 := XA_5.out.2.1; have cA1 := XA_5.out.2.2; have lA := XA_5.out.1
      go_wp2_with fail
      refine (CF1.out _ _ _ _ _ _ _ (YA_5.out.below ((Below.refl _ _).alloc (Nat.le_refl _) _))).mono ?_; rintro e w6 ⟨a13, n13, k13, a14, n14, k14, rfl, D, B⟩
      have T : Below w5.heap.size w5 w6 := ((Below.refl _ _).alloc (Nat.le_refl _) _).trans (B.mono (by simp))
      have Z6 : Below w.heap.size w w6 := Z5.trans (T.mono Z5.size)
      have Xd_6 := Lib.hid (Xd_5.out.below T); have Yd_6 := Lib.hid (Yd_5.out.below T)
      have XA_6 := Lib.hid (XA_5.out.below T); have YA_6 := Lib.hid (YA_5.out.below T)
      have XP_6 := Lib.hid (XP_5.out.below T); have YP_6 := Lib.hid (YP_5.out.below T)
      have XQ_6 := Lib.hid ((DiskW.box_alloc w5 (.slice a11 n11 k11) (.slice a12 n12 k12) 40).below B); have YQ_6 := Lib.hid (YQ_5.out.below T)
      clear B T cA0 cA1 lA Xd_5 Yd_5 XA_5 YA_5 XP_5 YP_5 YQ_5
      have Yx_6 := Lib.hid D; clear D
      go_wp2_with fail
      refine (CF2.out _ _ _ _ _ _ _ (Yx_6.out.below ((Below.refl _ _).alloc (Nat.le_refl _) _))).mono ?_; rintro e w7 ⟨a15, n15, k15, a16, n16, k16, rfl, D, B⟩
      have T : Below w6.heap.size w6 w7 := ((Below.refl _ _).alloc (Nat.le_refl _) _).trans (B.mono (by simp))
      have Z7 : Below w.heap.size w w7 := Z6.trans (T.mono Z6.size)
      have Xd_7 := Lib.hid (Xd_6.out.below T); have Yd_7 := Lib.hid (Yd_6.out.below T)
      have XA_7 := Lib.hid (XA_6.out.below T); have YA_7 := Lib.hid (YA_6.out.below T)
      have XP_7 := Lib.hid (XP_6.out.below T); have YP_7 := Lib.hid (YP_6.out.below T)
      have XQ_7 := Lib.hid (XQ_6.out.below T); have YQ_7 := Lib.hid (YQ_6.out.below T)
      have Xx_7 := Lib.hid ((DiskW.box_alloc w6 (.slice a13 n13 k13) (.slice a14 n14 k14) 40).below B); have Yx_7 := Lib.hid (Yx_6.out.below T)
      clear B T  Xd_6 Yd_6 XA_6 YA_6 XP_6 YP_6 XQ_6 YQ_6 Yx_6
      have Yy_7 := Lib.hid D; clear D
      have cA0 := XA_7.out.2.1; have cA1 := XA_7.out.2.2; have lA := XA_7.out.1
      have cQ0 := XQ_7.out.2.1; have cQ1 := XQ_7.out.2.2; have lQ := XQ_7.out.1
      go_wp2_with fail
      refine (CM.out _ (by have := HAN.out; omega) (by have := HAN.out; omega) _ _ _ _ _ _ _ _ _ _ _ _ _ (YA_7.out.below ((Below.refl _ _).alloc (Nat.le_refl _) _)) (YQ_7.out.below ((Below.refl _ _).alloc (Nat.le_refl _) _))).mono ?_; rintro e w8 ⟨rfl, B⟩
      have T : Below w7.heap.size w7 w8 := ((Below.refl _ _).alloc (Nat.le_refl _) _).trans (B.mono (by simp))
      have Z8 : Below w.heap.size w w8 := Z7.trans (T.mono Z7.size)
      have Xd_8 := Lib.hid (Xd_7.out.below T); have Yd_8 := Lib.hid (Yd_7.out.below T)
      have XA_8 := Lib.hid (XA_7.out.below T); have YA_8 := Lib.hid (YA_7.out.below T)
      have XP_8 := Lib.hid (XP_7.out.below T); have YP_8 := Lib.hid (YP_7.out.below T)
      have XQ_8 := Lib.hid (XQ_7.out.below T); have YQ_8 := Lib.hid (YQ_7.out.below T)
      have Xx_8 := Lib.hid (Xx_7.out.below T); have Yx_8 := Lib.hid (Yx_7.out.below T)
      have Xy_8 := Lib.hid ((DiskW.box_alloc w7 (.slice a15 n15 k15) (.slice a16 n16 k16) 40).below B); have Yy_8 := Lib.hid (Yy_7.out.below T)
      clear B T cA0 cA1 lA cQ0 cQ1 lQ Xd_7 Yd_7 XA_7 YA_7 XP_7 YP_7 XQ_7 YQ_7 Xx_7 Yx_7 Yy_7
      have cx0 := Xx_8.out.2.1; have cx1 := Xx_8.out.2.2; have lx := Xx_8.out.1
      have cy0 := Xy_8.out.2.1; have cy1 := Xy_8.out.2.2; have ly := Xy_8.out.1
      go_wp2_with fail
      refine (CM.out _ HKN.out.1 HKN.out.2 _ _ _ _ _ _ _ _ _ _ _ _ _ Yx_8.out Yy_8.out).mono ?_; rintro e w9 ⟨rfl, B⟩
      have T : Below w8.heap.size w8 w9 := B
      have Z9 : Below w.heap.size w w9 := Z8.trans (T.mono Z8.size)
      have Xd_9 := Lib.hid (Xd_8.out.below T); have Yd_9 := Lib.hid (Yd_8.out.below T)
      have XA_9 := Lib.hid (XA_8.out.below T); have YA_9 := Lib.hid (YA_8.out.below T)
      have XP_9 := Lib.hid (XP_8.out.below T); have YP_9 := Lib.hid (YP_8.out.below T)
      have XQ_9 := Lib.hid (XQ_8.out.below T); have YQ_9 := Lib.hid (YQ_8.out.below T)
      have Xx_9 := Lib.hid (Xx_8.out.below T); have Yx_9 := Lib.hid (Yx_8.out.below T)
      have Xy_9 := Lib.hid (Xy_8.out.below T); have Yy_9 := Lib.hid (Yy_8.out.below T)
      clear B T cx0 cx1 lx cy0 cy1 ly Xd_8 Yd_8 XA_8 YA_8 XP_8 YP_8 XQ_8 YQ_8 Xx_8 Yx_8 Xy_8 Yy_8
      go_wp2_with fail
      refine (live_any _).mono ?_; rintro e w10 ⟨rfl, B⟩
      have T : Below w9.heap.size w9 w10 := B
      have Z10 : Below w.heap.size w w10 := Z9.trans (T.mono Z9.size)
      have Xd_10 := Lib.hid (Xd_9.out.below T); have Yd_10 := Lib.hid (Yd_9.out.below T)
      have XA_10 := Lib.hid (XA_9.out.below T); have YA_10 := Lib.hid (YA_9.out.below T)
      have XP_10 := Lib.hid (XP_9.out.below T); have YP_10 := Lib.hid (YP_9.out.below T)
      have XQ_10 := Lib.hid (XQ_9.out.below T); have YQ_10 := Lib.hid (YQ_9.out.below T)
      have Xx_10 := Lib.hid (Xx_9.out.below T); have Yx_10 := Lib.hid (Yx_9.out.below T)
      have Xy_10 := Lib.hid (Xy_9.out.below T); have Yy_10 := Lib.hid (Yy_9.out.below T)
      clear B T  Xd_9 Yd_9 XA_9 YA_9 XP_9 YP_9 XQ_9 YQ_9 Xx_9 Yx_9 Xy_9 Yy_9
      go_wp2_with fail
      go_ret
      exact ⟨rfl, Z10⟩
    · obtain ⟨g1, g2, rfl⟩ := hc
      have g3 : ¬ e1 = 0 := by simpa using g1
      have g4 : ¬ e2 = 0 := by simpa using g2
      have cA0 := XA_5.out.2.1; have cA1 := XA_5.out.2.2; have lA := XA_5.out.1
      have cd0 := Xd_5.out.2.1; have cd1 := Xd_5.out.2.2; have ld := Xd_5.out.1
      go_wp2_with fail
      refine (CM.out _ (by have := HAN.out; omega) (by have := HAN.out; omega) _ _ _ _ _ _ _ _ _ _ _ _ _ (YA_5.out.below ((Below.refl _ _).alloc (Nat.le_refl _) _)) (Yd_5.out.below ((Below.refl _ _).alloc (Nat.le_refl _) _))).mono ?_; rintro e w6 ⟨rfl, B⟩
      have T : Below w5.heap.size w5 w6 := ((Below.refl _ _).alloc (Nat.le_refl _) _).trans (B.mono (by simp))
      have Z6 : Below w.heap.size w w6 := Z5.trans (T.mono Z5.size)
      have Xd_6 := Lib.hid (Xd_5.out.below T); have Yd_6 := Lib.hid (Yd_5.out.below T)
      have XA_6 := Lib.hid (XA_5.out.below T); have YA_6 := Lib.hid (YA_5.out.below T)
      have XP_6 := Lib.hid (XP_5.out.below T); have YP_6 := Lib.hid (YP_5.out.below T)
      have XQ_6 := Lib.hid ((DiskW.box_alloc w5 (.slice a11 n11 k11) (.slice a12 n12 k12) 40).below B); have YQ_6 := Lib.hid (YQ_5.out.below T)
      clear B T cA0 cA1 lA cd0 cd1 ld Xd_5 Yd_5 XA_5 YA_5 XP_5 YP_5 YQ_5
      go_wp2_with fail
      refine (live_any _).mono ?_; rintro e w7 ⟨rfl, B⟩
      have T : Below w6.heap.size w6 w7 := B
      have Z7 : Below w.heap.size w w7 := Z6.trans (T.mono Z6.size)
      have Xd_7 := Lib.hid (Xd_6.out.below T); have Yd_7 := Lib.hid (Yd_6.out.below T)
      have XA_7 := Lib.hid (XA_6.out.below T); have YA_7 := Lib.hid (YA_6.out.below T)
      have XP_7 := Lib.hid (XP_6.out.below T); have YP_7 := Lib.hid (YP_6.out.below T)
      have XQ_7 := Lib.hid (XQ_6.out.below T); have YQ_7 := Lib.hid (YQ_6.out.below T)
      clear B T  Xd_6 Yd_6 XA_6 YA_6 XP_6 YP_6 XQ_6 YQ_6
      go_wp2_with fail
      go_ret
      exact ⟨rfl, Z7⟩
    · obtain ⟨g1, rfl, g2, rfl⟩ := hc
      have g3 : ¬ e1 = 0 := by simpa using g1
      have g4 : ¬ e3 = 0 := by simpa using g2
      have cA0 := XA_5.out.2.1; have cA1 := XA_5.out.2.2; have lA := XA_5.out.1
      have cd0 := Xd_5.out.2.1; have cd1 := Xd_5.out.2.2; have ld := Xd_5.out.1
      go_wp2_with fail
      refine (CM.out _ (by have := HAN.out; omega) (by have := HAN.out; omega) _ _ _ _ _ _ _ _ _ _ _ _ _ (YA_5.out.below ((Below.refl _ _).alloc (Nat.le_refl _) _)) (Yd_5.out.below ((Below.refl _ _).alloc (Nat.le_refl _) _))).mono ?_; rintro e w6 ⟨rfl, B⟩
      have T : Below w5.heap.size w5 w6 := ((Below.refl _ _).alloc (Nat.le_refl _) _).trans (B.mono (by simp))
      have Z6 : Below w.heap.size w w6 := Z5.trans (T.mono Z5.size)
      have Xd_6 := Lib.hid (Xd_5.out.below T); have Yd_6 := Lib.hid (Yd_5.out.below T)
      have XA_6 := Lib.hid (XA_5.out.below T); have YA_6 := Lib.hid (YA_5.out.below T)
      have XP_6 := Lib.hid (XP_5.out.below T); have YP_6 := Lib.hid (YP_5.out.below T)
      have XQ_6 := Lib.hid ((DiskW.box_alloc w5 (.slice a11 n11 k11) (.slice a12 n12 k12) 40).below B); have YQ_6 := Lib.hid (YQ_5.out.below T)
      clear B T cA0 cA1 lA cd0 cd1 ld Xd_5 Yd_5 XA_5 YA_5 XP_5 YP_5 YQ_5
      go_wp2_with fail
      refine (live_any _).mono ?_; rintro e w7 ⟨rfl, B⟩
      have T : Below w6.heap.size w6 w7 := B
      have Z7 : Below w.heap.size w w7 := Z6.trans (T.mono Z6.size)
      have Xd_7 := Lib.hid (Xd_6.out.below T); have Yd_7 := Lib.hid (Yd_6.out.below T)
      have XA_7 := Lib.hid (XA_6.out.below T); have YA_7 := Lib.hid (YA_6.out.below T)
      have XP_7 := Lib.hid (XP_6.out.below T); have YP_7 := Lib.hid (YP_6.out.below T)
      have XQ_7 := Lib.hid (XQ_6.out.below T); have YQ_7 := Lib.hid (YQ_6.out.below T)
      clear B T  Xd_6 Yd_6 XA_6 YA_6 XP_6 YP_6 XQ_6 YQ_6
      go_wp2_with fail
      go_ret
      exact ⟨by show Ending.returned (Value.bool (e3 != 0)) = _; rw [show (e3 != 0) = true from by simpa using g4], Z7⟩
  · have hc := HCASE.out
    have B : Below w4.heap.size w4 ((wc.setCell ⟨w4.heap.size, 0, none⟩ (.slice a11 n11 k11)).setCell ⟨w4.heap.size, 1, none⟩ (.slice a12 n12 k12)) := (T5.setCell (Nat.le_refl _) _).setCell (Nat.le_refl _) _
    have XQ_5 : Hid (DM.Box ((wc.setCell ⟨w4.heap.size, 0, none⟩ (.slice a11 n11 k11)).setCell ⟨w4.heap.size, 1, none⟩ (.slice a12 n12 k12)) w4.heap.size (.slice a11 n11 k11) (.slice a12 n12 k12)) := Lib.hid (box_set2 zc0 zc1)
    have YQ_5 : Hid (DM.DV ((wc.setCell ⟨w4.heap.size, 0, none⟩ (.slice a11 n11 k11)).setCell ⟨w4.heap.size, 1, none⟩ (.slice a12 n12 k12)) (.slice a11 n11 k11) (.slice a12 n12 k12) Q) := Lib.hid (DM.DV.but2 D5 DM.set2 (fun k hk hr => by have := hown5 k hk; simp at this; omega))
    generalize hw5 : ((wc.setCell ⟨w4.heap.size, 0, none⟩ (.slice a11 n11 k11)).setCell ⟨w4.heap.size, 1, none⟩ (.slice a12 n12 k12)) = w5 at *
    clear hw5 T5 D5 B5 hown5 HPA HPB HVZ HAV hwrap V5 zc0 zc1 zf0 zf1 zl
    have T : Below w4.heap.size w4 w5 := B
    have Z5 : Below w.heap.size w w5 := Z4.trans (T.mono Z4.size)
    have Xd_5 := Lib.hid (Xd_4.out.below T); have Yd_5 := Lib.hid (Yd_4.out.below T)
    have XA_5 := Lib.hid (XA_4.out.below T); have YA_5 := Lib.hid (YA_4.out.below T)
    have XP_5 := Lib.hid (XP_4.out.below T); have YP_5 := Lib.hid (YP_4.out.below T)
    clear B T cP0 cP1 lP Xd_4 Yd_4 XA_4 YA_4 XP_4 YP_4
    rcases hc with hc | hc | hc
    · obtain ⟨rfl, rfl, rfl, rfl⟩ := hc
      have cA0 := XA_5.out.2.1; have cA1 := XA_5.out.2.2; have lA := XA_5.out.1
      go_wp2_with fail
      refine (CF1.out _ _ _ _ _ _ _ YA_5.out).mono ?_; rintro e w6 ⟨a13, n13, k13, a14, n14, k14, rfl, D, B⟩
      have T : Below w5.heap.size w5 w6 := B
      have Z6 : Below w.heap.size w w6 := Z5.trans (T.mono Z5.size)
      have Xd_6 := Lib.hid (Xd_5.out.below T); have Yd_6 := Lib.hid (Yd_5.out.below T)
      have XA_6 := Lib.hid (XA_5.out.below T); have YA_6 := Lib.hid (YA_5.out.below T)
      have XP_6 := Lib.hid (XP_5.out.below T); have YP_6 := Lib.hid (YP_5.out.below T)
      have XQ_6 := Lib.hid (XQ_5.out.below T); have YQ_6 := Lib.hid (YQ_5.out.below T)
      clear B T cA0 cA1 lA Xd_5 Yd_5 XA_5 YA_5 XP_5 YP_5 XQ_5 YQ_5
      have Yx_6 := Lib.hid D; clear D
      go_wp2_with fail
      refine (CF2.out _ _ _ _ _ _ _ (Yx_6.out.below ((Below.refl _ _).alloc (Nat.le_refl _) _))).mono ?_; rintro e w7 ⟨a15, n15, k15, a16, n16, k16, rfl, D, B⟩
      have T : Below w6.heap.size w6 w7 := ((Below.refl _ _).alloc (Nat.le_refl _) _).trans (B.mono (by simp))
      have Z7 : Below w.heap.size w w7 := Z6.trans (T.mono Z6.size)
      have Xd_7 := Lib.hid (Xd_6.out.below T); have Yd_7 := Lib.hid (Yd_6.out.below T)
      have XA_7 := Lib.hid (XA_6.out.below T); have YA_7 := Lib.hid (YA_6.out.below T)
      have XP_7 := Lib.hid (XP_6.out.below T); have YP_7 := Lib.hid (YP_6.out.below T)
      have XQ_7 := Lib.hid (XQ_6.out.below T); have YQ_7 := Lib.hid (YQ_6.out.below T)
      have Xx_7 := Lib.hid ((DiskW.box_alloc w6 (.slice a13 n13 k13) (.slice a14 n14 k14) 40).below B); have Yx_7 := Lib.hid (Yx_6.out.below T)
      clear B T  Xd_6 Yd_6 XA_6 YA_6 XP_6 YP_6 XQ_6 YQ_6 Yx_6
      have Yy_7 := Lib.hid D; clear D
      have cA0 := XA_7.out.2.1; have cA1 := XA_7.out.2.2; have lA := XA_7.out.1
      have cQ0 := XQ_7.out.2.1; have cQ1 := XQ_7.out.2.2; have lQ := XQ_7.out.1
      go_wp2_with fail
      refine (CM.out _ (by have := HAN.out; omega) (by have := HAN.out; omega) _ _ _ _ _ _ _ _ _ _ _ _ _ (YA_7.out.below ((Below.refl _ _).alloc (Nat.le_refl _) _)) (YQ_7.out.below ((Below.refl _ _).alloc (Nat.le_refl _) _))).mono ?_; rintro e w8 ⟨rfl, B⟩
      have T : Below w7.heap.size w7 w8 := ((Below.refl _ _).alloc (Nat.le_refl _) _).trans (B.mono (by simp))
      have Z8 : Below w.heap.size w w8 := Z7.trans (T.mono Z7.size)
      have Xd_8 := Lib.hid (Xd_7.out.below T); have Yd_8 := Lib.hid (Yd_7.out.below T)
      have XA_8 := Lib.hid (XA_7.out.below T); have YA_8 := Lib.hid (YA_7.out.below T)
      have XP_8 := Lib.hid (XP_7.out.below T); have YP_8 := Lib.hid (YP_7.out.below T)
      have XQ_8 := Lib.hid (XQ_7.out.below T); have YQ_8 := Lib.hid (YQ_7.out.below T)
      have Xx_8 := Lib.hid (Xx_7.out.below T); have Yx_8 := Lib.hid (Yx_7.out.below T)
      have Xy_8 := Lib.hid ((DiskW.box_alloc w7 (.slice a15 n15 k15) (.slice a16 n16 k16) 40).below B); have Yy_8 := Lib.hid (Yy_7.out.below T)
      clear B T cA0 cA1 lA cQ0 cQ1 lQ Xd_7 Yd_7 XA_7 YA_7 XP_7 YP_7 XQ_7 YQ_7 Xx_7 Yx_7 Yy_7
      have cx0 := Xx_8.out.2.1; have cx1 := Xx_8.out.2.2; have lx := Xx_8.out.1
      have cy0 := Xy_8.out.2.1; have cy1 := Xy_8.out.2.2; have ly := Xy_8.out.1
      go_wp2_with fail
      refine (CM.out _ HKN.out.1 HKN.out.2 _ _ _ _ _ _ _ _ _ _ _ _ _ Yx_8.out Yy_8.out).mono ?_; rintro e w9 ⟨rfl, B⟩
      have T : Below w8.heap.size w8 w9 := B
      have Z9 : Below w.heap.size w w9 := Z8.trans (T.mono Z8.size)
      have Xd_9 := Lib.hid (Xd_8.out.below T); have Yd_9 := Lib.hid (Yd_8.out.below T)
      have XA_9 := Lib.hid (XA_8.out.below T); have YA_9 := Lib.hid (YA_8.out.below T)
      have XP_9 := Lib.hid (XP_8.out.below T); have YP_9 := Lib.hid (YP_8.out.below T)
      have XQ_9 := Lib.hid (XQ_8.out.below T); have YQ_9 := Lib.hid (YQ_8.out.below T)
      have Xx_9 := Lib.hid (Xx_8.out.below T); have Yx_9 := Lib.hid (Yx_8.out.below T)
      have Xy_9 := Lib.hid (Xy_8.out.below T); have Yy_9 := Lib.hid (Yy_8.out.below T)
      clear B T cx0 cx1 lx cy0 cy1 ly Xd_8 Yd_8 XA_8 YA_8 XP_8 YP_8 XQ_8 YQ_8 Xx_8 Yx_8 Xy_8 Yy_8
      go_wp2_with fail
      refine (live_any _).mono ?_; rintro e w10 ⟨rfl, B⟩
      have T : Below w9.heap.size w9 w10 := B
      have Z10 : Below w.heap.size w w10 := Z9.trans (T.mono Z9.size)
      have Xd_10 := Lib.hid (Xd_9.out.below T); have Yd_10 := Lib.hid (Yd_9.out.below T)
      have XA_10 := Lib.hid (XA_9.out.below T); have YA_10 := Lib.hid (YA_9.out.below T)
      have XP_10 := Lib.hid (XP_9.out.below T); have YP_10 := Lib.hid (YP_9.out.below T)
      have XQ_10 := Lib.hid (XQ_9.out.below T); have YQ_10 := Lib.hid (YQ_9.out.below T)
      have Xx_10 := Lib.hid (Xx_9.out.below T); have Yx_10 := Lib.hid (Yx_9.out.below T)
      have Xy_10 := Lib.hid (Xy_9.out.below T); have Yy_10 := Lib.hid (Yy_9.out.below T)
      clear B T  Xd_9 Yd_9 XA_9 YA_9 XP_9 YP_9 XQ_9 YQ_9 Xx_9 Yx_9 Xy_9 Yy_9
      go_wp2_with fail
      go_ret
      exact ⟨rfl, Z10⟩
    · obtain ⟨g1, g2, rfl⟩ := hc
      have g3 : ¬ e1 = 0 := by simpa using g1
      have g4 : ¬ e2 = 0 := by simpa using g2
      have cA0 := XA_5.out.2.1; have cA1 := XA_5.out.2.2; have lA := XA_5.out.1
      have cd0 := Xd_5.out.2.1; have cd1 := Xd_5.out.2.2; have ld := Xd_5.out.1
      go_wp2_with fail
      refine (CM.out _ (by have := HAN.out; omega) (by have := HAN.out; omega) _ _ _ _ _ _ _ _ _ _ _ _ _ YA_5.out Yd_5.out).mono ?_; rintro e w6 ⟨rfl, B⟩
      have T : Below w5.heap.size w5 w6 := B
      have Z6 : Below w.heap.size w w6 := Z5.trans (T.mono Z5.size)
      have Xd_6 := Lib.hid (Xd_5.out.below T); have Yd_6 := Lib.hid (Yd_5.out.below T)
      have XA_6 := Lib.hid (XA_5.out.below T); have YA_6 := Lib.hid (YA_5.out.below T)
      have XP_6 := Lib.hid (XP_5.out.below T); have YP_6 := Lib.hid (YP_5.out.below T)
      have XQ_6 := Lib.hid (XQ_5.out.below T); have YQ_6 := Lib.hid (YQ_5.out.below T)
      clear B T cA0 cA1 lA cd0 cd1 ld Xd_5 Yd_5 XA_5 YA_5 XP_5 YP_5 XQ_5 YQ_5
      go_wp2_with fail
      refine (live_any _).mono ?_; rintro e w7 ⟨rfl, B⟩
      have T : Below w6.heap.size w6 w7 := B
      have Z7 : Below w.heap.size w w7 := Z6.trans (T.mono Z6.size)
      have Xd_7 := Lib.hid (Xd_6.out.below T); have Yd_7 := Lib.hid (Yd_6.out.below T)
      have XA_7 := Lib.hid (XA_6.out.below T); have YA_7 := Lib.hid (YA_6.out.below T)
      have XP_7 := Lib.hid (XP_6.out.below T); have YP_7 := Lib.hid (YP_6.out.below T)
      have XQ_7 := Lib.hid (XQ_6.out.below T); have YQ_7 := Lib.hid (YQ_6.out.below T)
      clear B T  Xd_6 Yd_6 XA_6 YA_6 XP_6 YP_6 XQ_6 YQ_6
      go_wp2_with fail
      go_ret
      exact ⟨rfl, Z7⟩
    · obtain ⟨g1, rfl, g2, rfl⟩ := hc
      have g3 : ¬ e1 = 0 := by simpa using g1
      have g4 : ¬ e3 = 0 := by simpa using g2
      have cA0 := XA_5.out.2.1; have cA1 := XA_5.out.2.2; have lA := XA_5.out.1
      have cd0 := Xd_5.out.2.1; have cd1 := Xd_5.out.2.2; have ld := Xd_5.out.1
      go_wp2_with fail
      refine (CM.out _ (by have := HAN.out; omega) (by have := HAN.out; omega) _ _ _ _ _ _ _ _ _ _ _ _ _ YA_5.out Yd_5.out).mono ?_; rintro e w6 ⟨rfl, B⟩
      have T : Below w5.heap.size w5 w6 := B
      have Z6 : Below w.heap.size w w6 := Z5.trans (T.mono Z5.size)
      have Xd_6 := Lib.hid (Xd_5.out.below T); have Yd_6 := Lib.hid (Yd_5.out.below T)
      have XA_6 := Lib.hid (XA_5.out.below T); have YA_6 := Lib.hid (YA_5.out.below T)
      have XP_6 := Lib.hid (XP_5.out.below T); have YP_6 := Lib.hid (YP_5.out.below T)
      have XQ_6 := Lib.hid (XQ_5.out.below T); have YQ_6 := Lib.hid (YQ_5.out.below T)
      clear B T cA0 cA1 lA cd0 cd1 ld Xd_5 Yd_5 XA_5 YA_5 XP_5 YP_5 XQ_5 YQ_5
      go_wp2_with fail
      refine (live_any _).mono ?_; rintro e w7 ⟨rfl, B⟩
      have T : Below w6.heap.size w6 w7 := B
      have Z7 : Below w.heap.size w w7 := Z6.trans (T.mono Z6.size)
      have Xd_7 := Lib.hid (Xd_6.out.below T); have Yd_7 := Lib.hid (Yd_6.out.below T)
      have XA_7 := Lib.hid (XA_6.out.below T); have YA_7 := Lib.hid (YA_6.out.below T)
      have XP_7 := Lib.hid (XP_6.out.below T); have YP_7 := Lib.hid (YP_6.out.below T)
      have XQ_7 := Lib.hid (XQ_6.out.below T); have YQ_7 := Lib.hid (YQ_6.out.below T)
      clear B T  Xd_6 Yd_6 XA_6 YA_6 XP_6 YP_6 XQ_6 YQ_6
      go_wp2_with fail
      go_ret
      exact ⟨by show Ending.returned (Value.bool (e3 != 0)) = _; rw [show (e3 != 0) = true from by simpa using g4], Z7⟩
  · have hc := HCASE.out
    have B : Below w4.heap.size w4 ((wc.setCell ⟨w4.heap.size, 0, none⟩ (.slice a11 n11 k11)).setCell ⟨w4.heap.size, 1, none⟩ (.slice a12 n12 k12)) := (T5.setCell (Nat.le_refl _) _).setCell (Nat.le_refl _) _
    have XQ_5 : Hid (DM.Box ((wc.setCell ⟨w4.heap.size, 0, none⟩ (.slice a11 n11 k11)).setCell ⟨w4.heap.size, 1, none⟩ (.slice a12 n12 k12)) w4.heap.size (.slice a11 n11 k11) (.slice a12 n12 k12)) := Lib.hid (box_set2 zc0 zc1)
    have YQ_5 : Hid (DM.DV ((wc.setCell ⟨w4.heap.size, 0, none⟩ (.slice a11 n11 k11)).setCell ⟨w4.heap.size, 1, none⟩ (.slice a12 n12 k12)) (.slice a11 n11 k11) (.slice a12 n12 k12) Q) := Lib.hid (DM.DV.but2 D5 DM.set2 (fun k hk hr => by have := hown5 k hk; simp at this; omega))
    generalize hw5 : ((wc.setCell ⟨w4.heap.size, 0, none⟩ (.slice a11 n11 k11)).setCell ⟨w4.heap.size, 1, none⟩ (.slice a12 n12 k12)) = w5 at *
    clear hw5 T5 D5 B5 hown5 HPA HPB HVZ HAV hwrap V5 zc0 zc1 zf0 zf1 zl
    have T : Below w4.heap.size w4 w5 := B
    have Z5 : Below w.heap.size w w5 := Z4.trans (T.mono Z4.size)
    have Xd_5 := Lib.hid (Xd_4.out.below T); have Yd_5 := Lib.hid (Yd_4.out.below T)
    have XA_5 := Lib.hid (XA_4.out.below T); have YA_5 := Lib.hid (YA_4.out.below T)
    have XP_5 := Lib.hid (XP_4.out.below T); have YP_5 := Lib.hid (YP_4.out.below T)
    clear B T cP0 cP1 lP Xd_4 Yd_4 XA_4 YA_4 XP_4 YP_4
    rcases hc with hc | hc | hc
    · obtain ⟨rfl, rfl, rfl, rfl⟩ := hc
      have cA0 := XA_5.out.2.1; have cA1 := XA_5.out.2.2; have lA := XA_5.out.1
      go_wp2_with fail
      refine (CF1.out _ _ _ _ _ _ _ YA_5.out).mono ?_; rintro e w6 ⟨a13, n13, k13, a14, n14, k14, rfl, D, B⟩
      have T : Below w5.heap.size w5 w6 := B
      have Z6 : Below w.heap.size w w6 := Z5.trans (T.mono Z5.size)
      have Xd_6 := Lib.hid (Xd_5.out.below T); have Yd_6 := Lib.hid (Yd_5.out.below T)
      have XA_6 := Lib.hid (XA_5.out.below T); have YA_6 := Lib.hid (YA_5.out.below T)
      have XP_6 := Lib.hid (XP_5.out.below T); have YP_6 := Lib.hid (YP_5.out.below T)
      have XQ_6 := Lib.hid (XQ_5.out.below T); have YQ_6 := Lib.hid (YQ_5.out.below T)
      clear B T cA0 cA1 lA Xd_5 Yd_5 XA_5 YA_5 XP_5 YP_5 XQ_5 YQ_5
      have Yx_6 := Lib.hid D; clear D
      go_wp2_with fail
      refine (CF2.out _ _ _ _ _ _ _ (Yx_6.out.below ((Below.refl _ _).alloc (Nat.le_refl _) _))).mono ?_; rintro e w7 ⟨a15, n15, k15, a16, n16, k16, rfl, D, B⟩
      have T : Below w6.heap.size w6 w7 := ((Below.refl _ _).alloc (Nat.le_refl _) _).trans (B.mono (by simp))
      have Z7 : Below w.heap.size w w7 := Z6.trans (T.mono Z6.size)
      have Xd_7 := Lib.hid (Xd_6.out.below T); have Yd_7 := Lib.hid (Yd_6.out.below T)
      have XA_7 := Lib.hid (XA_6.out.below T); have YA_7 := Lib.hid (YA_6.out.below T)
      have XP_7 := Lib.hid (XP_6.out.below T); have YP_7 := Lib.hid (YP_6.out.below T)
      have XQ_7 := Lib.hid (XQ_6.out.below T); have YQ_7 := Lib.hid (YQ_6.out.below T)
      have Xx_7 := Lib.hid ((DiskW.box_alloc w6 (.slice a13 n13 k13) (.slice a14 n14 k14) 40).below B); have Yx_7 := Lib.hid (Yx_6.out.below T)
      clear B T  Xd_6 Yd_6 XA_6 YA_6 XP_6 YP_6 XQ_6 YQ_6 Yx_6
      have Yy_7 := Lib.hid D; clear D
      have cA0 := XA_7.out.2.1; have cA1 := XA_7.out.2.2; have lA := XA_7.out.1
      have cQ0 := XQ_7.out.2.1; have cQ1 := XQ_7.out.2.2; have lQ := XQ_7.out.1
      go_wp2_with fail
      refine (CM.out _ (by have := HAN.out; omega) (by have := HAN.out; omega) _ _ _ _ _ _ _ _ _ _ _ _ _ (YA_7.out.below ((Below.refl _ _).alloc (Nat.le_refl _) _)) (YQ_7.out.below ((Below.refl _ _).alloc (Nat.le_refl _) _))).mono ?_; rintro e w8 ⟨rfl, B⟩
      have T : Below w7.heap.size w7 w8 := ((Below.refl _ _).alloc (Nat.le_refl _) _).trans (B.mono (by simp))
      have Z8 : Below w.heap.size w w8 := Z7.trans (T.mono Z7.size)
      have Xd_8 := Lib.hid (Xd_7.out.below T); have Yd_8 := Lib.hid (Yd_7.out.below T)
      have XA_8 := Lib.hid (XA_7.out.below T); have YA_8 := Lib.hid (YA_7.out.below T)
      have XP_8 := Lib.hid (XP_7.out.below T); have YP_8 := Lib.hid (YP_7.out.below T)
      have XQ_8 := Lib.hid (XQ_7.out.below T); have YQ_8 := Lib.hid (YQ_7.out.below T)
      have Xx_8 := Lib.hid (Xx_7.out.below T); have Yx_8 := Lib.hid (Yx_7.out.below T)
      have Xy_8 := Lib.hid ((DiskW.box_alloc w7 (.slice a15 n15 k15) (.slice a16 n16 k16) 40).below B); have Yy_8 := Lib.hid (Yy_7.out.below T)
      clear B T cA0 cA1 lA cQ0 cQ1 lQ Xd_7 Yd_7 XA_7 YA_7 XP_7 YP_7 XQ_7 YQ_7 Xx_7 Yx_7 Yy_7
      have cx0 := Xx_8.out.2.1; have cx1 := Xx_8.out.2.2; have lx := Xx_8.out.1
      have cy0 := Xy_8.out.2.1; have cy1 := Xy_8.out.2.2; have ly := Xy_8.out.1
      go_wp2_with fail
      refine (CM.out _ HKN.out.1 HKN.out.2 _ _ _ _ _ _ _ _ _ _ _ _ _ Yx_8.out Yy_8.out).mono ?_; rintro e w9 ⟨rfl, B⟩
      have T : Below w8.heap.size w8 w9 := B
      have Z9 : Below w.heap.size w w9 := Z8.trans (T.mono Z8.size)
      have Xd_9 := Lib.hid (Xd_8.out.below T); have Yd_9 := Lib.hid (Yd_8.out.below T)
      have XA_9 := Lib.hid (XA_8.out.below T); have YA_9 := Lib.hid (YA_8.out.below T)
      have XP_9 := Lib.hid (XP_8.out.below T); have YP_9 := Lib.hid (YP_8.out.below T)
      have XQ_9 := Lib.hid (XQ_8.out.below T); have YQ_9 := Lib.hid (YQ_8.out.below T)
      have Xx_9 := Lib.hid (Xx_8.out.below T); have Yx_9 := Lib.hid (Yx_8.out.below T)
      have Xy_9 := Lib.hid (Xy_8.out.below T); have Yy_9 := Lib.hid (Yy_8.out.below T)
      clear B T cx0 cx1 lx cy0 cy1 ly Xd_8 Yd_8 XA_8 YA_8 XP_8 YP_8 XQ_8 YQ_8 Xx_8 Yx_8 Xy_8 Yy_8
      go_wp2_with fail
      refine (live_any _).mono ?_; rintro e w10 ⟨rfl, B⟩
      have T : Below w9.heap.size w9 w10 := B
      have Z10 : Below w.heap.size w w10 := Z9.trans (T.mono Z9.size)
      have Xd_10 := Lib.hid (Xd_9.out.below T); have Yd_10 := Lib.hid (Yd_9.out.below T)
      have XA_10 := Lib.hid (XA_9.out.below T); have YA_10 := Lib.hid (YA_9.out.below T)
      have XP_10 := Lib.hid (XP_9.out.below T); have YP_10 := Lib.hid (YP_9.out.below T)
      have XQ_10 := Lib.hid (XQ_9.out.below T); have YQ_10 := Lib.hid (YQ_9.out.below T)
      have Xx_10 := Lib.hid (Xx_9.out.below T); have Yx_10 := Lib.hid (Yx_9.out.below T)
      have Xy_10 := Lib.hid (Xy_9.out.below T); have Yy_10 := Lib.hid (Yy_9.out.below T)
      clear B T  Xd_9 Yd_9 XA_9 YA_9 XP_9 YP_9 XQ_9 YQ_9 Xx_9 Yx_9 Xy_9 Yy_9
      go_wp2_with fail
      go_ret
      exact ⟨rfl, Z10⟩
    · obtain ⟨g1, g2, rfl⟩ := hc
      have g3 : ¬ e1 = 0 := by simpa using g1
      have g4 : ¬ e2 = 0 := by simpa using g2
      have cA0 := XA_5.out.2.1; have cA1 := XA_5.out.2.2; have lA := XA_5.out.1
      have cd0 := Xd_5.out.2.1; have cd1 := Xd_5.out.2.2; have ld := Xd_5.out.1
      go_wp2_with fail
      refine (CM.out _ (by have := HAN.out; omega) (by have := HAN.out; omega) _ _ _ _ _ _ _ _ _ _ _ _ _ YA_5.out Yd_5.out).mono ?_; rintro e w6 ⟨rfl, B⟩
      have T : Below w5.heap.size w5 w6 := B
      have Z6 : Below w.heap.size w w6 := Z5.trans (T.mono Z5.size)
      have Xd_6 := Lib.hid (Xd_5.out.below T); have Yd_6 := Lib.hid (Yd_5.out.below T)
      have XA_6 := Lib.hid (XA_5.out.below T); have YA_6 := Lib.hid (YA_5.out.below T)
      have XP_6 := Lib.hid (XP_5.out.below T); have YP_6 := Lib.hid (YP_5.out.below T)
      have XQ_6 := Lib.hid (XQ_5.out.below T); have YQ_6 := Lib.hid (YQ_5.out.below T)
      clear B T cA0 cA1 lA cd0 cd1 ld Xd_5 Yd_5 XA_5 YA_5 XP_5 YP_5 XQ_5 YQ_5
      go_wp2_with fail
      refine (live_any _).mono ?_; rintro e w7 ⟨rfl, B⟩
      have T : Below w6.heap.size w6 w7 := B
      have Z7 : Below w.heap.size w w7 := Z6.trans (T.mono Z6.size)
      have Xd_7 := Lib.hid (Xd_6.out.below T); have Yd_7 := Lib.hid (Yd_6.out.below T)
      have XA_7 := Lib.hid (XA_6.out.below T); have YA_7 := Lib.hid (YA_6.out.below T)
      have XP_7 := Lib.hid (XP_6.out.below T); have YP_7 := Lib.hid (YP_6.out.below T)
      have XQ_7 := Lib.hid (XQ_6.out.below T); have YQ_7 := Lib.hid (YQ_6.out.below T)
      clear B T  Xd_6 Yd_6 XA_6 YA_6 XP_6 YP_6 XQ_6 YQ_6
      go_wp2_with fail
      go_ret
      exact ⟨rfl, Z7⟩
    · obtain ⟨g1, rfl, g2, rfl⟩ := hc
      have g3 : ¬ e1 = 0 := by simpa using g1
      have g4 : ¬ e3 = 0 := by simpa using g2
      have cA0 := XA_5.out.2.1; have cA1 := XA_5.out.2.2; have lA := XA_5.out.1
      have cd0 := Xd_5.out.2.1; have cd1 := Xd_5.out.2.2; have ld := Xd_5.out.1
      go_wp2_with fail
      refine (CM.out _ (by have := HAN.out; omega) (by have := HAN.out; omega) _ _ _ _ _ _ _ _ _ _ _ _ _ YA_5.out Yd_5.out).mono ?_; rintro e w6 ⟨rfl, B⟩
      have T : Below w5.heap.size w5 w6 := B
      have Z6 : Below w.heap.size w w6 := Z5.trans (T.mono Z5.size)
      have Xd_6 := Lib.hid (Xd_5.out.below T); have Yd_6 := Lib.hid (Yd_5.out.below T)
      have XA_6 := Lib.hid (XA_5.out.below T); have YA_6 := Lib.hid (YA_5.out.below T)
      have XP_6 := Lib.hid (XP_5.out.below T); have YP_6 := Lib.hid (YP_5.out.below T)
      have XQ_6 := Lib.hid (XQ_5.out.below T); have YQ_6 := Lib.hid (YQ_5.out.below T)
      clear B T cA0 cA1 lA cd0 cd1 ld Xd_5 Yd_5 XA_5 YA_5 XP_5 YP_5 XQ_5 YQ_5
      go_wp2_with fail
      refine (live_any _).mono ?_; rintro e w7 ⟨rfl, B⟩
      have T : Below w6.heap.size w6 w7 := B
      have Z7 : Below w.heap.size w w7 := Z6.trans (T.mono Z6.size)
      have Xd_7 := Lib.hid (Xd_6.out.below T); have Yd_7 := Lib.hid (Yd_6.out.below T)
      have XA_7 := Lib.hid (XA_6.out.below T); have YA_7 := Lib.hid (YA_6.out.below T)
      have XP_7 := Lib.hid (XP_6.out.below T); have YP_7 := Lib.hid (YP_6.out.below T)
      have XQ_7 := Lib.hid (XQ_6.out.below T); have YQ_7 := Lib.hid (YQ_6.out.below T)
      clear B T  Xd_6 Yd_6 XA_6 YA_6 XP_6 YP_6 XQ_6 YQ_6
      go_wp2_with fail
      go_ret
      exact ⟨by show Ending.returned (Value.bool (e3 != 0)) = _; rw [show (e3 != 0) = true from by simpa using g4], Z7⟩
end DiskW
end Go.Proofs.Ytgijhddmadaplaa
