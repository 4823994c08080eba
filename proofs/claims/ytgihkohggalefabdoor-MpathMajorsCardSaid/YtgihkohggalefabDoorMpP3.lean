/- Layer 8: the laws without the document's answer. -/
import Derived.Test.YtgihkohggalefabDoorMpP2
namespace Go.Proofs.YtgihkohggalefabDoor.AM
open Go.RowKit
set_option linter.unusedVariables false
set_option linter.unusedSimpArgs false
theorem itoa_12 : Lib.itoa 12 = [49, 50] := by
  rw [itoa_rec (by decide), if_neg (by decide), show (12 : Int) / 10 = ((1 : Nat) : Int) from rfl, itoa_one (by decide)]; rfl
theorem itoa_2 : Lib.itoa 2 = [50] := itoa_one (i := 2) (by decide)
theorem majT_2 : majT 2 = [118, 50] := by unfold majT; rw [itoa_2]
theorem majT_12 : majT 12 = [118, 49, 50] := by unfold majT; rw [itoa_12]
theorem ok_major {s b : List UInt8} {n : Int} {o : Bool} (h : majorS s = (b, (n, o))) : okS s = o := by rw [← major_ok, h]
theorem mlive_true (n : Nat) (hn : 1000 ≤ n) : mlive_t n = some true := by
  have M : ∀ s : List UInt8, s.length ≤ 100 → mMajor_t n s = some (majorS s) := fun s h => mMajor_spec n s (by omega) (by omega)
  have C : ∀ s : List UInt8, s.length ≤ 100 → mCheck_t n s = some (okS s) := fun s h => mCheck_spec n s (by omega) (by omega)
  have F : ∀ (s : List UInt8) (v : VD), s.length ≤ 100 → mFits_t n s v = some (fitsS s v) := fun s v h => mFits_spec n s v (by omega) (by omega) (by omega)
  have W : ∀ (s d : List UInt8), s.length ≤ 100 → d.length ≤ 100 → mWithin_t n s d = some (withinS s d) := fun s d h h2 => mWithin_spec n s d (by omega) (by omega)
  have B : ∀ s : List UInt8, s.length ≤ 100 → mBase_t s = some (baseS s) := fun s h => if_pos (by omega)
  have m1 : majorS [101, 120, 47, 97, 47, 118, 49, 50] = ([101, 120, 47, 97], (12, true)) := by
    have := ok_some (x := [101, 120, 47, 97]) (n := 12) (by decide) (by decide) (by rw [majT_12]; decide +kernel) (by decide +kernel) (by decide)
    rw [majT_12] at this; exact this
  have m2 : majorS [101, 120, 47, 97] = ([101, 120, 47, 97], (0, true)) := ok_none (by decide +kernel) (by decide +kernel)
  have m3 : (majorS [101, 120, 47, 97, 47, 118, 49]).2.2 = false := by rw [major_ok]; decide +kernel
  have k1 : okS [101, 120, 47, 118, 97, 47, 118, 50, 120] = true := ok_major (ok_none (by decide +kernel) (by decide +kernel))
  have k2 : okS [118, 50] = false := by
    cases h : okS [118, 50] with
    | false => rfl
    | true => exact absurd ((ok_path h).2.2 (by decide +kernel)).2 (by decide +kernel)
  have k3 : okS [101, 120, 47, 118, 50, 47, 97] = false := by decide +kernel
  have k4 : okS [101, 120, 47, 118, 48, 50] = false := by
    cases h : okS [101, 120, 47, 118, 48, 50] with
    | false => rfl
    | true =>
      have h1 := ((ok_path h).2.2 (by decide +kernel)).1
      have e : (lastS [101, 120, 47, 118, 48, 50]).drop 1 = [48, 50] := by decide +kernel
      rw [e] at h1
      have e2 : Lib.atoiAll [48, 50] = .ok 2 := by rfl
      unfold fine at h1
      rw [e2] at h1
      have h2 : (decide ((2 : Int) ≤ 2) && (decide ((2 : Int) ≤ 999999999) && decide (([48, 50] : List UInt8) = Lib.itoa 2))) = true := h1
      rw [itoa_2] at h2
      exact absurd h2 (by decide)
  have m5 : majorS [101, 120, 47, 97, 47, 118, 50] = ([101, 120, 47, 97], (2, true)) := by
    have := ok_some (x := [101, 120, 47, 97]) (n := 2) (by decide) (by decide) (by rw [majT_2]; decide +kernel) (by decide +kernel) (by decide)
    rw [majT_2] at this; exact this
  have o2 := ok_major m2
  have o5 := ok_major m5
  have f1 : fitsS [101, 120, 47, 97, 47, 118, 50] (2, (0, (0, ([], [])))) = true := by unfold fitsS; rw [o5, m5]; decide +kernel
  have f2 : fitsS [101, 120, 47, 97, 47, 118, 50] (1, (0, (0, ([], [])))) = false := by unfold fitsS; rw [o5, m5]; decide +kernel
  have f3 : fitsS [101, 120, 47, 97] (1, (0, (0, ([], [])))) = true := by unfold fitsS; rw [o2, m2]; decide +kernel
  have f4 : fitsS [101, 120, 47, 97] (0, (0, (0, ([], [])))) = true := by unfold fitsS; rw [o2, m2]; decide +kernel
  have f5 : fitsS [101, 120, 47, 97] (2, (0, (0, ([], [])))) = false := by unfold fitsS; rw [o2, m2]; decide +kernel
  have w1 : withinS [97, 47, 98, 47, 99] [97, 47, 98] = true := by decide +kernel
  have w2 : withinS [97, 47, 98, 99] [97, 47, 98] = false := by decide +kernel
  have w3 : withinS [97] [] = true := by decide +kernel
  have b1 : baseS [97, 47, 98, 47, 99] = [97, 47, 98] := by decide +kernel
  have b2 : baseS [97] = [] := by decide +kernel
  unfold mlive_t
  rw [M _ (by decide), M _ (by decide), M _ (by decide), C _ (by decide), C _ (by decide), C _ (by decide), C _ (by decide), F _ _ (by decide), F _ _ (by decide), F _ _ (by decide), F _ _ (by decide), F _ _ (by decide), W _ _ (by decide) (by decide), W _ _ (by decide) (by decide), W _ _ (by decide) (by decide), B _ (by decide), B _ (by decide)]
  simp only [m1, m2, m3, k1, k2, k3, k4, f1, f2, f3, f4, f5, w1, w2, w3, b1, b2, Option.bind_some, decide_true, cond_true, Bool.not_false]
/-! a major is put behind a path that tells none -/
theorem maj_tail (b : List UInt8) (hb : pathS b = true) (ha : anyS b = false) (k : Int) (v : VD) :
    (bif decide (k < (2 : Int)) then (mlive_t 1000 ).bind fun (r28 : Bool) => some r28 else (bif decide ((999999999 : Int) < k) then (mlive_t 1000 ).bind fun (r29 : Bool) => some r29 else (catO b ([47, 118] : List UInt8)).bind fun (s30 : List UInt8) => (rNumber_r 1000 k).bind fun (r31 : List UInt8) => (catO s30 r31).bind fun (s32 : List UInt8) => (rPath5_t 1000 s32).bind fun (r33 : Bool) => (bif !r33 then (mlive_t 1000 ).bind fun (r34 : Bool) => some r34 else (catO b ([47, 118] : List UInt8)).bind fun (s35 : List UInt8) => (rNumber_r 1000 k).bind fun (r36 : List UInt8) => (catO s35 r36).bind fun (s37 : List UInt8) => (mCheck_t 1000 s37).bind fun (r38 : Bool) => (bif !r38 then some false else (mFits_t 1000 b v).bind fun (r39 : Bool) => (bif r39 then (mFits_t 1000 s37 v).bind fun (r40 : Bool) => (bif r40 then some false else (mFits_t 1000 s37 (k, ((0 : Int), ((0 : Int), (([] : List UInt8), ([] : List UInt8)))))).bind fun (r41 : Bool) => (bif r41 then (mlive_t 1000 ).bind fun (r42 : Bool) => some r42 else some false)) else (mFits_t 1000 s37 (k, ((0 : Int), ((0 : Int), (([] : List UInt8), ([] : List UInt8)))))).bind fun (r43 : Bool) => (bif r43 then (mlive_t 1000 ).bind fun (r44 : Bool) => some r44 else some false)))))) = some true := by
  have hl := mlive_true 1000 (by decide)
  have hb6 := (path_parts hb).1
  by_cases c1 : k < 2
  · simp [c1, hl]
  by_cases c2 : 999999999 < k
  · simp [c1, c2, hl]
  have hk : 0 ≤ k ∧ k ≤ 999999999 := by omega
  have li := itoa_len hk
  have e1 : catO b [47, 118] = some (b ++ [47, 118]) := cat_ok (by simp; omega)
  have e2 : rNumber_r 1000 k = some (Lib.itoa k) := rNumber_all 1000 hk (by decide)
  have e3 : catO (b ++ [47, 118]) (Lib.itoa k) = some (b ++ 47 :: majT k) := by
    rw [cat_ok (by simp; omega)]; unfold majT; simp
  have lo : (b ++ 47 :: majT k).length ≤ 100 := by unfold majT; simp; omega
  have P5 : rPath5_t 1000 (b ++ 47 :: majT k) = some (pathS (b ++ 47 :: majT k)) := rPath5_spec 1000 _ (by omega) (by decide)
  simp only [c1, c2, decide_false, cond_false, e1, e2, e3, P5, hl, Option.bind_some]
  cases hp : pathS (b ++ 47 :: majT k) with
  | false => rfl
  | true =>
    have hm := ok_some (by omega : 2 ≤ k) hk.2 hp ha (path_ne hb)
    have ho := ok_major hm
    have hm0 := ok_none hb ha
    have ho0 := ok_major hm0
    have F1 : mFits_t 1000 b v = some (fitsS b v) := mFits_spec 1000 _ _ (by omega) (by omega) (by decide)
    have F2 : ∀ v, mFits_t 1000 (b ++ 47 :: majT k) v = some (fitsS (b ++ 47 :: majT k) v) := fun v => mFits_spec 1000 _ _ (by omega) (by omega) (by decide)
    have C1 : mCheck_t 1000 (b ++ 47 :: majT k) = some true := by rw [mCheck_spec 1000 _ (by omega) (by omega), ho]
    have f3 : fitsS (b ++ 47 :: majT k) (k, (0, (0, ([], [])))) = true := by
      have hn0 : k ≠ 0 := by omega
      have hc : checkS (k, (0, (0, ([], [])))) = true := by
        unfold checkS numS; simp [hk.1, hk.2]; decide +kernel
      unfold fitsS; rw [ho, hm, hc]; simp [hn0]
    have f4 : fitsS b v = true → fitsS (b ++ 47 :: majT k) v = false := by
      have hn0 : k ≠ 0 := by omega
      unfold fitsS; rw [ho, hm, ho0, hm0]
      simp [hn0]
      intro _ h _; omega
    simp only [F1, F2, C1, f3, Option.bind_some]
    cases hf : fitsS b v with
    | false => rfl
    | true => rw [f4 hf]; rfl
theorem mmajors_true (p : List UInt8) (k : Int) (v : VD) : mmajors_t 1000 p k v = some true := by
  have hl := mlive_true 1000 (by decide)
  unfold mmajors_t
  by_cases c1 : (200 : Int) < ((p.length : Nat) : Int)
  · simp only [c1, decide_true, cond_true, hl, Option.bind_some]
  by_cases c2 : (200 : Int) < ((v.2.2.2.1.length : Nat) : Int)
  · simp only [c1, c2, decide_true, decide_false, cond_true, cond_false, hl, Option.bind_some]
  by_cases c3 : (200 : Int) < ((v.2.2.2.2.length : Nat) : Int)
  · simp only [c1, c2, c3, decide_true, decide_false, cond_true, cond_false, hl, Option.bind_some]
  have hM : mMajor_t 1000 p = some (majorS p) := mMajor_spec 1000 p (by omega) (by omega)
  have hF : mFits_t 1000 p v = some (fitsS p v) := mFits_spec 1000 p v (by omega) (by omega) (by decide)
  simp only [c1, c2, c3, decide_false, cond_false, hM, Option.bind_some]
  rcases major_cases p with ⟨ho, hm⟩ | ⟨hp, ha, hm⟩ | ⟨x, m, h0, h1, he, hp, hpx, hax, hm⟩
  · have hf : fitsS p v = false := by unfold fitsS; rw [ho]; rfl
    rw [hm]
    simp only [hF, hf, hl, Bool.not_false, cond_true, decide_true, Option.bind_some]
  · have key := maj_tail p hp ha k v
    rw [hm]
    simp only [hM, hm, Bool.not_true, Bool.not_false, cond_true, cond_false, decide_true, Option.bind_some, Int.lt_irrefl, decide_false]
    exact key
  · have key := maj_tail x hpx hax k v
    have hx6 := (path_parts hpx).1
    have hMx : mMajor_t 1000 x = some (majorS x) := mMajor_spec 1000 x (by omega) (by omega)
    have hmx := ok_none hpx hax
    have hxp : ¬ x = p := fun h => by
      have := congrArg List.length (h.trans he); simp at this
    have n0 : ¬ m = 0 := by omega
    have n1 : 0 < m := by omega
    have li := itoa_len (n := m) (by omega)
    have e1 : catO x [47, 118] = some (x ++ [47, 118]) := cat_ok (by simp; omega)
    have e2 : rNumber_r 1000 m = some (Lib.itoa m) := rNumber_all 1000 (by omega) (by decide)
    have e3 : catO (x ++ [47, 118]) (Lib.itoa m) = some p := by
      rw [cat_ok (by simp; omega), he]; unfold majT; simp
    rw [hm]
    simp only [hMx, hmx, hxp, n0, n1, e1, e2, e3, Bool.not_true, Bool.not_false, cond_true, cond_false, decide_true, decide_false, Option.bind_some]
    simp only [e1] at key
    exact key
/-! the parts of a path -/
theorem base_app (x z : List UInt8) : (47 ∉ z ∧ baseS (x ++ 47 :: z) = x ∧ lastS (x ++ 47 :: z) = z) ∨ (baseS (x ++ 47 :: z) = x ++ 47 :: baseS z ∧ lastS (x ++ 47 :: z) = lastS z) := by
  rcases cut_last 47 z with h | ⟨a, y, rfl, h⟩
  · exact Or.inl ⟨h, (base_hit h).1, (base_hit h).2⟩
  · have e : x ++ 47 :: (a ++ 47 :: y) = (x ++ 47 :: a) ++ 47 :: y := by simp
    refine Or.inr ?_
    rw [e, (base_hit h).1, (base_hit h).2, (base_hit (x := a) h).1, (base_hit (x := a) h).2]
    exact ⟨rfl, rfl⟩
theorem any_app (x z : List UInt8) : anyS (x ++ 47 :: z) = (anyS x || anyS z) := by
  unfold anyS; rw [spl_app, List.any_append]
theorem ok_head {x z : List UInt8} (h : okS (x ++ 47 :: z) = true) : okS x = true := by
  obtain ⟨h1, h2, _⟩ := ok_path h
  have hp : pathS x = true := by
    obtain ⟨l1, l2⟩ := path_parts h1
    rw [spl_app, List.all_append] at l2
    simp only [Bool.and_eq_true] at l2
    unfold pathS
    simp only [Bool.and_eq_true, decide_eq_true_eq]
    refine ⟨?_, l2.1⟩
    simp at l1; omega
  have ha : anyS x = false := by
    rcases base_app x z with ⟨_, e, _⟩ | ⟨e, _⟩
    · rw [e] at h2; exact h2
    · rw [e, any_app, Bool.or_eq_false_iff] at h2; exact h2.1
  exact ok_major (ok_none hp ha)
theorem ok_behind {p q : List UInt8} (h : anyS p = true) : okS (p ++ 47 :: q) = false := by
  cases ho : okS (p ++ 47 :: q) with
  | false => rfl
  | true =>
    obtain ⟨_, h2, _⟩ := ok_path ho
    rcases base_app p q with ⟨_, e, _⟩ | ⟨e, _⟩
    · rw [e, h] at h2; cases h2
    · rw [e, any_app, h] at h2; cases h2
theorem ok_both {p q : List UInt8} (hp : pathS p = true) (ha : anyS p = false) (hq : okS q = true) (hb : pathS (p ++ 47 :: q) = true) : okS (p ++ 47 :: q) = true := by
  obtain ⟨_, h2, h3⟩ := ok_path hq
  have hne := path_ne hp
  rcases base_app p q with ⟨h47, e, e2⟩ | ⟨e, e2⟩
  · refine ok_of hb (by rw [e]; exact ha) fun ht => ?_
    rw [e2] at ht ⊢
    rw [e]
    have hl := (base_miss h47)
    rw [hl.2] at h3
    exact ⟨(h3 ht).1, hne⟩
  · refine ok_of hb (by rw [e, any_app, ha, h2]; rfl) fun ht => ?_
    rw [e2] at ht ⊢
    rw [e]
    exact ⟨(h3 ht).1, by simp⟩
theorem within_both (p q : List UInt8) : withinS (p ++ 47 :: q) p = true := by
  have : p ++ [47] <+: p ++ 47 :: q := ⟨q, by simp⟩
  unfold withinS; simp [this]
theorem major_ge (q : List UInt8) : 0 ≤ (majorS q).2.1 := by
  rcases major_cases q with ⟨_, hm⟩ | ⟨_, _, hm⟩ | ⟨x, m, h0, h1, he, hp, hpx, hax, hm⟩ <;> rw [hm]
  · exact Int.le_refl _
  · exact Int.le_refl _
  · show 0 ≤ m; omega
theorem mparts_loop (p q : List UInt8) (hL : p.length ≤ 200) (hp : okS p = true) : ∀ m j : Nat, j ≤ p.length → p.length - j < m → mparts_loop0 1000 m p q (j : Int) = some (Sum.inr ((p, (q, ())), ((), ())))
  | 0, j, _, h => absurd h (Nat.not_lt_zero _)
  | m + 1, j, hj, h => by
    rw [mparts_loop0_succ]
    unfold mparts_l0
    by_cases c0 : j < p.length
    · have c0' : ((j : Nat) : Int) < ((p.length : Nat) : Int) := by omega
      have ih := mparts_loop p q hL hp m (j + 1) (by omega) (by omega)
      simp only [c0', decide_true, cond_true, sAt_lt c0, Option.bind_some, letO, wrap_succ (show j < 4611686018427387904 by omega), ih]
      by_cases h7 : p[j] = 47
      · have e : p.take j ++ 47 :: p.drop (j + 1) = p := by
          rw [← h7, ← List.drop_eq_getElem_cons c0, List.take_append_drop]
        have ho : okS (p.take j) = true := ok_head (z := p.drop (j + 1)) (by rw [e]; exact hp)
        have hC : mCheck_t 1000 (p.take j) = some true := by rw [mCheck_spec 1000 _ (by simp; omega) (by simp; omega), ho]
        have d7 : decide (((p[j].toNat : Nat) : Int) = (47 : Int)) = true := by rw [h7]; rfl
        simp only [d7, cond_true, sub_zero (show j ≤ p.length by omega), Option.bind_some, hC, Bool.not_true, cond_false]
      · have d7 : decide (((p[j].toNat : Nat) : Int) = (47 : Int)) = false := by
          rw [decide_eq_false_iff_not]
          intro h; exact h7 (UInt8.toNat_inj.1 (by have e47 : (47 : UInt8).toNat = 47 := rfl; rw [e47]; omega))
        simp only [d7, cond_false]
    · have c0' : ¬ ((j : Nat) : Int) < ((p.length : Nat) : Int) := by omega
      simp [c0']
theorem mparts_true (p q : List UInt8) : mparts_t 1000 p q = some true := by
  have hl := mlive_true 1000 (by decide)
  unfold mparts_t
  by_cases c1 : (200 : Int) < ((p.length : Nat) : Int)
  · simp only [c1, decide_true, cond_true, hl, Option.bind_some]
  by_cases c2 : (200 : Int) < ((q.length : Nat) : Int)
  · simp only [c1, c2, decide_true, decide_false, cond_true, cond_false, hl, Option.bind_some]
  have hC : mCheck_t 1000 p = some (okS p) := mCheck_spec 1000 p (by omega) (by omega)
  simp only [c1, c2, decide_false, cond_false, hC, Option.bind_some]
  cases ho : okS p with
  | false => simp only [Bool.not_false, cond_true, hl, Option.bind_some]
  | true =>
    have hM : mMajor_t 1000 p = some (majorS p) := mMajor_spec 1000 p (by omega) (by omega)
    have hQ : mMajor_t 1000 q = some (majorS q) := mMajor_spec 1000 q (by omega) (by omega)
    have e1 : catO p [47] = some (p ++ [47]) := cat_ok (by simp; omega)
    have e2 : catO (p ++ [47]) q = some (p ++ 47 :: q) := by rw [cat_ok (by simp; omega)]; simp
    have lb : (p ++ 47 :: q).length ≤ 500 := by simp; omega
    have hCb : mCheck_t 1000 (p ++ 47 :: q) = some (okS (p ++ 47 :: q)) := mCheck_spec 1000 _ (by omega) (by omega)
    have hPb : rPath5_t 1000 (p ++ 47 :: q) = some (pathS (p ++ 47 :: q)) := rPath5_spec 1000 _ (by omega) (by decide)
    have hW : mWithin_t 1000 (p ++ 47 :: q) p = some true := by rw [mWithin_spec 1000 _ _ (by omega) (by omega), within_both]
    have hg : decide (0 ≤ (majorS q).2.1) = true := by rw [decide_eq_true_eq]; exact major_ge q
    have hlp := mparts_loop p q (by omega) ho 1000 1 (by
      have := path_ne (ok_path ho).1
      cases p with
      | nil => exact absurd rfl this
      | cons b r => simp) (by omega)
    rw [show ((1 : Nat) : Int) = (1 : Int) from rfl] at hlp
    simp only [Bool.not_true, cond_false, hlp, Option.bind_some, Sum.elim_inr, hM, hQ, e1, e2, hCb, hPb, hW, hl, hg, major_ok]
    rcases major_cases p with ⟨hn, _⟩ | ⟨hp, ha, hm⟩ | ⟨x, m, h0, h1, he, hp, hpx, hax, hm⟩
    · rw [ho] at hn; cases hn
    · rw [hm]
      have key := @ok_both p q hp ha
      cases hq : okS q with
      | false => cases okS (p ++ 47 :: q) <;> rfl
      | true => cases hpb : pathS (p ++ 47 :: q) with
        | false => cases okS (p ++ 47 :: q) <;> rfl
        | true => rw [key hq hpb]; rfl
    · rw [hm]
      have hany : anyS p = true := by
        rw [he, any_app]
        have : anyS (majT m) = true := by
          unfold anyS; rw [spl_miss' 47 _ (slash_majT (by omega))]; simp [tells_majT (show 0 ≤ m by omega)]
        rw [this]; simp
      have n0 : ¬ m = 0 := by omega
      have n1 : 0 < m := by omega
      rw [ok_behind hany]
      simp only [n0, n1, decide_true, decide_false, cond_true, cond_false, Bool.not_false]
end Go.Proofs.YtgihkohggalefabDoor.AM
