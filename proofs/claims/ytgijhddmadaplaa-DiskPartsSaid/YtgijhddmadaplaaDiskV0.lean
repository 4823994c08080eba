/- The walk of the law on acts that are done in two parts. -/
import Derived.Test.YtgijhddmadaplaaDiskT
import Derived.Test.YtgijhddmadaplaaDiskU
namespace Go.Proofs.Ytgijhddmadaplaa
open Go.RowKit
set_option linter.unusedVariables false
namespace DM
theorem DV.but2 {R : Nat → Prop} {w w' : World} {a1 a2 : Option Addr} {n k1 m k2 : Nat} {d : Dk} (h : DV w (.slice a1 n k1) (.slice a2 m k2) d) (hb : But R w w') (hn : ∀ k, own2 (.slice a1 n k1) (.slice a2 m k2) k → ¬ R k) : DV w' (.slice a1 n k1) (.slice a2 m k2) d := by
  refine ⟨But.sv (v := .slice a1 n k1) hb h.1 (fun g hg => hn g (Or.inl hg)), ?_⟩
  obtain ⟨a', cap', h1, h2⟩ := h.2
  refine ⟨a', cap', h1, fun h0 => ?_⟩
  obtain ⟨b, off, h3, h4, h5⟩ := h2 h0
  simp only [Value.slice.injEq] at h1
  have hr : ¬ R b := hn b (Or.inr (by rw [h1.1, h3]; rfl))
  exact ⟨b, off, h3, Nat.lt_of_lt_of_le h4 hb.size, fun k hk => ⟨(hb.cell (p := ⟨b, off + k * 2, none⟩) h4 hr).trans (h5 k hk).1, (hb.cell (p := ⟨b, off + k * 2 + 1, none⟩) h4 hr).trans (h5 k hk).2⟩⟩
theorem AV.drop {w : World} {a : Option Addr} {c N : Nat} {l : List Ac} (h : AV w (.slice a l.length c) l) (hN : N ≤ l.length) : AV w (.slice (if c = N then a else Option.map (fun x => x.add (N * 3)) a) (l.length - N) (c - N)) (l.drop N) := by
  obtain ⟨a', c', e, h1, h2, h3⟩ := h
  simp only [Value.slice.injEq] at e
  obtain ⟨rfl, _, rfl⟩ := e
  refine ⟨_, c - N, by rw [List.length_drop], by rw [List.length_drop]; omega, by omega, fun h0 => ?_⟩
  rw [List.length_drop] at h0
  obtain ⟨b, off, rfl, h4, h5⟩ := h3 (by omega)
  rw [if_neg (by omega)]
  refine ⟨b, off + N * 3, by simp [Addr.add_lit], h4, fun k hk => ?_⟩
  rw [List.length_drop] at hk
  have := h5 (N + k) (by omega)
  rw [show off + (N + k) * 3 = off + N * 3 + k * 3 from by omega] at this
  simp only [List.getElem_drop]
  exact this
theorem actsE_cons (n : Nat) (a : Ac) (t : List Ac) : actsE n (a :: t) = if actOk n a then actsE n t else writeE n a.2.1 a.2.2 := rfl
theorem actsE_append (n : Nat) (l1 l2 : List Ac) : actsE n (l1 ++ l2) = if actsE n l1 = 0 then actsE n l2 else actsE n l1 := by
  induction l1 with
  | nil => simp [actsE]
  | cons a t ih =>
    rw [List.cons_append, actsE_cons, actsE_cons]
    by_cases h : actOk n a
    · rw [if_pos h, if_pos h, ih]
    · have hne : writeE n a.2.1 a.2.2 ≠ 0 := fun e => h (Or.inr e)
      rw [if_neg h, if_neg h, if_neg hne]
theorem runD_len (d : Dk) (l : List Ac) : (runD d l).secs.length = d.secs.length := by
  unfold runD; split
  · exact runK_len d l
  · rfl
theorem runD_cache (d : Dk) (l : List Ac) : (runD d l).cache.length ≤ d.cache.length + l.length := by
  unfold runD; split
  · exact runK_cache d l
  · omega
theorem run_ne {d : Dk} {l : List Ac} (h : runE d l ≠ 0) : runD d l = d := by
  unfold runE at h
  unfold runD
  by_cases hm : mayD d
  · rw [if_pos hm] at h
    rw [if_neg (fun x => h x.2)]
  · rw [if_neg (fun x => hm x.1)]
theorem run_zero {d : Dk} {l : List Ac} (h : runE d l = 0) : mayD d ∧ actsE d.secs.length l = 0 ∧ runD d l = runK d l ∧ mayD (runK d l) := by
  unfold runE at h
  by_cases hm : mayD d
  · rw [if_pos hm] at h
    exact ⟨hm, h, if_pos ⟨hm, h⟩, may_run hm (actsE_zero h)⟩
  · rw [if_neg hm] at h; omega
theorem run_parts (d : Dk) (l1 l2 : List Ac) : (runE d (l1 ++ l2) = 0 → runE d l1 = 0 ∧ runE (runD d l1) l2 = 0 ∧ runD (runD d l1) l2 = runD d (l1 ++ l2)) ∧ (runE d (l1 ++ l2) ≠ 0 → runE d l1 ≠ 0 ∨ runE (runD d l1) l2 ≠ 0) := by
  constructor
  · intro h
    obtain ⟨hm, ha, hr, _⟩ := run_zero h
    rw [actsE_append] at ha
    have h1 : actsE d.secs.length l1 = 0 := by
      by_cases e : actsE d.secs.length l1 = 0
      · exact e
      · rw [if_neg e] at ha; exact ha
    rw [if_pos h1] at ha
    have e1 : runE d l1 = 0 := by unfold runE; rw [if_pos hm]; exact h1
    obtain ⟨_, _, hr1, hm1⟩ := run_zero e1
    have e2 : runE (runD d l1) l2 = 0 := by rw [hr1]; unfold runE; rw [if_pos hm1, runK_len]; exact ha
    obtain ⟨_, _, hr2, _⟩ := run_zero e2
    refine ⟨e1, e2, ?_⟩
    rw [hr2, hr1, hr]
    unfold runK; rw [List.foldl_append]
  · intro h
    by_cases e1 : runE d l1 = 0
    · refine Or.inr fun e2 => h ?_
      obtain ⟨hm, ha, hr1, hm1⟩ := run_zero e1
      rw [hr1] at e2
      unfold runE at e2
      rw [if_pos hm1, runK_len] at e2
      unfold runE
      rw [if_pos hm, actsE_append, if_pos ha]
      exact e2
    · exact Or.inl e1
theorem crash_twice (d : Dk) : crashD (fun _ => true) (crashD (fun _ => true) d) = crashD (fun _ => true) d := by
  unfold crashD
  by_cases h : mayD d
  · rw [if_pos h, if_pos (may_settle h _)]; rfl
  · rw [if_neg h, if_neg h]
end DM
namespace DiskW
set_option maxHeartbeats 1600000 in
set_option maxRecDepth 100000 in
theorem parts_out (a1 : Option Addr) (n k1 : Nat) (a2 : Option Addr) (m k2 : Nat) (d : DM.Dk) (a3 : Option Addr) (k3 : Nat) (l : List DM.Ac) (x : Int) (w : World) (H0 : DM.DV w (.slice a1 n k1) (.slice a2 m k2) d) (b1 : n ≤ 9223372036854775807) (b2 : m ≤ 9223372036854775807) (HA0 : DM.AV w (.slice a3 l.length k3) l) (b3 : l.length ≤ 9223372036854775807) (hno : ¬ DM.smallD d ∨ ¬ DM.fewA l ∨ x < 0 ∨ (l.length : Int) < x) :
    Calls Try.prog 12 #[.agg #[.slice a1 n k1, .slice a2 m k2], .slice a3 l.length k3, .int .i64 x] w fun e w' => e = .returned (.bool true) ∧ Below w.heap.size w w' := by
  obtain ⟨y1, hy1⟩ : ∃ y, decide (DM.smallD d) = y := ⟨_, rfl⟩
  obtain ⟨y2, hy2⟩ : ∃ y, decide (DM.fewA l) = y := ⟨_, rfl⟩
  have CS : Hid (∀ w', DM.DV w' (.slice a1 n k1) (.slice a2 m k2) d → Calls Try.prog 21 #[.agg #[.slice a1 n k1, .slice a2 m k2]] w' fun e w'' => e = .returned (.bool y1) ∧ Below w'.heap.size w' w'') := Lib.hid (fun w' h => by
    have := small_any a1 a2 n k1 m k2 d w' h (by omega) (by omega)
    rw [hy1] at this
    exact this)
  have CW : Hid (∀ w', DM.AV w' (.slice a3 l.length k3) l → Calls Try.prog 49 #[.slice a3 l.length k3] w' fun e w'' => e = .returned (.bool y2) ∧ w' = w'') := Lib.hid (fun w' h => by
    have := few_any a3 l.length k3 l w' h (by omega)
    rw [hy2] at this
    exact this)
  have H := Lib.hid H0; clear H0
  have HA := Lib.hid HA0; clear HA0
  have hc : y1 = false ∨ (y1 = true ∧ y2 = false) ∨ (y1 = true ∧ y2 = true ∧ x < 0) ∨ (y1 = true ∧ y2 = true ∧ ¬ x < 0 ∧ (l.length : Int) < x) := by
    cases y1
    · exact Or.inl rfl
    · cases y2
      · exact Or.inr (Or.inl ⟨rfl, rfl⟩)
      · by_cases hx : x < 0
        · exact Or.inr (Or.inr (Or.inl ⟨rfl, rfl, hx⟩))
        · refine Or.inr (Or.inr (Or.inr ⟨rfl, rfl, hx, ?_⟩))
          rcases hno with h | h | h | h
          · exact absurd (of_decide_eq_true hy1) h
          · exact absurd (of_decide_eq_true hy2) h
          · exact absurd h hx
          · exact h
  clear hno hy1 hy2
  rcases hc with rfl | ⟨rfl, rfl⟩ | ⟨rfl, rfl, hx⟩ | ⟨rfl, rfl, hx, hx2⟩
  · go_enter Try.func12, Try.ntmps12
    go_wp2_with fail
    have Z0 : Below w.heap.size w (w.alloc (.cells #[.slice a1 n k1, .slice a2 m k2] 40)) := (Below.refl _ _).alloc (Nat.le_refl _) _
    have AV0 := Lib.hid (HA.out.below Z0)
    have Xd_0 := Lib.hid (box_alloc w (.slice a1 n k1) (.slice a2 m k2) 40)
    have Yd_0 := Lib.hid (H.out.below Z0)
    generalize hW0 : w.alloc (.cells #[.slice a1 n k1, .slice a2 m k2] 40) = w0 at *
    clear hW0
    have cd0 := Xd_0.out.2.1; have cd1 := Xd_0.out.2.2; have ld := Xd_0.out.1
    go_wp2_with fail
    refine (CS.out _ Yd_0.out).mono ?_; rintro e w1 ⟨rfl, B⟩
    have T : Below w0.heap.size w0 w1 := B
    have Z1 : Below w.heap.size w w1 := Z0.trans (T.mono Z0.size)
    have Xd_1 := Lib.hid (Xd_0.out.below T); have Yd_1 := Lib.hid (Yd_0.out.below T)
    clear B T cd0 cd1 ld Xd_0 Yd_0
    go_wp2_with fail
    refine (live_any _).mono ?_; rintro e w2 ⟨rfl, B⟩
    have T : Below w1.heap.size w1 w2 := B
    have Z2 : Below w.heap.size w w2 := Z1.trans (T.mono Z1.size)
    have Xd_2 := Lib.hid (Xd_1.out.below T); have Yd_2 := Lib.hid (Yd_1.out.below T)
    clear B T  Xd_1 Yd_1
    go_wp2_with fail
    go_ret
    exact ⟨rfl, Z2⟩
  all_goals
    go_enter Try.func12, Try.ntmps12
    go_wp2_with fail
    have Z0 : Below w.heap.size w (w.alloc (.cells #[.slice a1 n k1, .slice a2 m k2] 40)) := (Below.refl _ _).alloc (Nat.le_refl _) _
    have AV0 := Lib.hid (HA.out.below Z0)
    have Xd_0 := Lib.hid (box_alloc w (.slice a1 n k1) (.slice a2 m k2) 40)
    have Yd_0 := Lib.hid (H.out.below Z0)
    generalize hW0 : w.alloc (.cells #[.slice a1 n k1, .slice a2 m k2] 40) = w0 at *
    clear hW0
    have cd0 := Xd_0.out.2.1; have cd1 := Xd_0.out.2.2; have ld := Xd_0.out.1
    go_wp2_with fail
    refine (CS.out _ Yd_0.out).mono ?_; rintro e w1 ⟨rfl, B⟩
    have T : Below w0.heap.size w0 w1 := B
    have Z1 : Below w.heap.size w w1 := Z0.trans (T.mono Z0.size)
    have Xd_1 := Lib.hid (Xd_0.out.below T); have Yd_1 := Lib.hid (Yd_0.out.below T)
    clear B T cd0 cd1 ld Xd_0 Yd_0
    go_wp2_with fail
    refine (CW.out _ (HA.out.below Z1)).mono ?_; rintro e w' ⟨rfl, rfl⟩
    go_wp2_with fail
    refine (live_any _).mono ?_; rintro e w2 ⟨rfl, B⟩
    have T : Below w1.heap.size w1 w2 := B
    have Z2 : Below w.heap.size w w2 := Z1.trans (T.mono Z1.size)
    have Xd_2 := Lib.hid (Xd_1.out.below T); have Yd_2 := Lib.hid (Yd_1.out.below T)
    clear B T  Xd_1 Yd_1
    go_wp2_with fail
    go_ret
    exact ⟨rfl, Z2⟩
end DiskW
end Go.Proofs.Ytgijhddmadaplaa
