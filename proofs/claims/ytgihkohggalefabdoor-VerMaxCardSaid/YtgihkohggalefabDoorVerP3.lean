/- Layer 7: laws without the document's answer. -/
import Derived.Test.YtgihkohggalefabDoorVerP2
namespace Go.Proofs.YtgihkohggalefabDoor.AM
open Go.RowKit
set_option linter.unusedVariables false
set_option linter.unusedSimpArgs false
theorem itoa_one {i : Nat} (h : i < 10) : Lib.itoa (i : Int) = [UInt8.ofNat (48 + i)] := by
  rw [itoa_dec (by omega), Int.toNat_natCast]; exact Lib.decDigits_one h
theorem textS_one {a b c : Nat} (ha : a < 10) (hb : b < 10) (hc : c < 10) (p q : List UInt8) (h : checkS (((a : Nat) : Int), (((b : Nat) : Int), (((c : Nat) : Int), (p, q)))) = true) :
    textS (((a : Nat) : Int), (((b : Nat) : Int), (((c : Nat) : Int), (p, q)))) = 118 :: UInt8.ofNat (48 + a) :: 46 :: UInt8.ofNat (48 + b) :: 46 :: UInt8.ofNat (48 + c) :: (tailT 45 p ++ tailT 43 q) := by
  unfold textS rawT; rw [if_pos h]; dsimp only; rw [itoa_one ha, itoa_one hb, itoa_one hc]; rfl
theorem vlive_true (n : Nat) (hn : 100 ≤ n) : vlive_t n = some true := by
  have t1 : textS (1, (2, (3, ([114, 99, 46, 49], [98, 46, 48, 49])))) = [118, 49, 46, 50, 46, 51, 45, 114, 99, 46, 49, 43, 98, 46, 48, 49] := textS_one (a := 1) (b := 2) (c := 3) (by decide) (by decide) (by decide) _ _ (by kernel_rfl)
  have t2 : textS (1, (2, (3, ([], [])))) = [118, 49, 46, 50, 46, 51] := textS_one (a := 1) (b := 2) (c := 3) (by decide) (by decide) (by decide) _ _ (by kernel_rfl)
  have t3 : textS (1, (0, (0, ([97, 108, 112, 104, 97, 46, 49], [])))) = [118, 49, 46, 48, 46, 48, 45, 97, 108, 112, 104, 97, 46, 49] := textS_one (a := 1) (b := 0) (c := 0) (by decide) (by decide) (by decide) _ _ (by kernel_rfl)
  have t4 : textS (1, (0, (0, ([97, 108, 112, 104, 97, 46, 98, 101, 116, 97], [])))) = [118, 49, 46, 48, 46, 48, 45, 97, 108, 112, 104, 97, 46, 98, 101, 116, 97] := textS_one (a := 1) (b := 0) (c := 0) (by decide) (by decide) (by decide) _ _ (by kernel_rfl)
  have p1 : parseS [118, 49, 46, 50, 46, 51, 45, 114, 99, 46, 49, 43, 98, 46, 48, 49] = ((1, (2, (3, ([114, 99, 46, 49], [98, 46, 48, 49])))), true) := parse_of (by kernel_rfl) t1
  have p2 : parseS [118, 49, 46, 48, 50, 46, 51] = (v0, false) := by
    have hc : candP [118, 49, 46, 48, 50, 46, 51] = (1, (2, (3, ([], [])))) := by kernel_rfl
    unfold parseS; rw [hc, t2]; rfl
  have p3 : parseS [118, 49, 46, 48, 46, 48, 45, 97, 108, 112, 104, 97, 46, 49] = ((1, (0, (0, ([97, 108, 112, 104, 97, 46, 49], [])))), true) := parse_of (by kernel_rfl) t3
  have p4 : parseS [118, 49, 46, 48, 46, 48, 45, 97, 108, 112, 104, 97, 46, 98, 101, 116, 97] = ((1, (0, (0, ([97, 108, 112, 104, 97, 46, 98, 101, 116, 97], [])))), true) := parse_of (by kernel_rfl) t4
  unfold vlive_t
  rw [vParse_spec n _ (by simp) (by omega), vParse_spec n _ (by simp) (by omega), vParse_spec n _ (by simp) (by omega), vParse_spec n _ (by simp) (by omega), vMax_spec n _ (by simp) hn (by simp; omega)]
  simp only [p1, p2, p3, p4, Option.bind_some, vBump_spec n _ _ hn, vCompare_spec n _ _ hn, vCheck_spec n _ (show 4 ≤ n by omega), vText_spec n _ (show 4 ≤ n by omega), t1]
  decide +kernel
theorem textS_ne {v : VD} (h : checkS v = true) : textS v ≠ [] := by
  unfold textS rawT; rw [if_pos h]; simp
theorem textS_len (v : VD) : (textS v).length ≤ 92 := by
  unfold textS; split
  · rename_i h; exact raw_len h
  · simp
theorem eqV_refl (v : VD) : (decide (v.1 = v.1) && (decide (v.2.1 = v.2.1) && (decide (v.2.2.1 = v.2.2.1) && (decide (v.2.2.2.1 = v.2.2.2.1) && (decide (v.2.2.2.2 = v.2.2.2.2) && true))))) = true := by simp
theorem vback_true (v : VD) (s : List UInt8) : vback_t 1000 v s = some true := by
  have hl := vlive_true 1000 (by decide)
  unfold vback_t
  by_cases c1 : (200 : Int) < ((v.2.2.2.1.length : Nat) : Int)
  · simp only [c1, decide_true, cond_true, hl, Option.bind_some]
  by_cases c2 : (200 : Int) < ((v.2.2.2.2.length : Nat) : Int)
  · simp only [c1, c2, decide_true, decide_false, cond_true, cond_false, hl, Option.bind_some]
  by_cases c3 : (200 : Int) < ((s.length : Nat) : Int)
  · simp only [c1, c2, c3, decide_true, decide_false, cond_true, cond_false, hl, Option.bind_some]
  simp only [c1, c2, c3, decide_false, cond_false]
  have hs : s.length ≤ 200 := by omega
  have ht := textS_len v
  simp only [vText_spec 1000 _ (by decide), Option.bind_some, vParse_spec 1000 (textS v) (by omega) (by decide), vParse_spec 1000 s (by omega) (by decide), vCheck_spec 1000 _ (by decide), hl]
  have key : (bif !(parseS s).2 then some true else bif checkS (parseS s).1 then (bif decide (textS (parseS s).1 = s) then some true else some false) else some false) = some true := by
    cases h : (parseS s).2 with
    | false => rfl
    | true =>
      obtain ⟨k1, k2⟩ := parse_some h
      simp only [k1, k2, decide_true, cond_true, Bool.not_true, cond_false]
  cases hc : checkS v with
  | true =>
    have hp := parse_of hc (rfl : textS v = textS v)
    rw [hp]
    simp only [decide_true, Bool.not_true, cond_false, cond_true, Bool.and_self, Bool.and_true]
    exact key
  | false =>
    have h0 : textS v = [] := by unfold textS; rw [hc]; rfl
    have hp : parseS [] = (v0, false) := parse_none fun v h => textS_ne h
    rw [h0, hp]
    simp only [decide_true, Bool.not_true, cond_false]
    exact key
theorem cmpV_of {a b : VD} (ha : checkS a = true) (hb : checkS b = true) : cmpV a b = cmpC (core a) (core b) := by unfold cmpV; rw [ha, hb]; rfl
theorem cmpV_rng (a b : VD) : cmpV a b = -1 ∨ cmpV a b = 0 ∨ cmpV a b = 1 := by
  unfold cmpV; split
  · exact cmpC_cmp.rng _ _
  · exact Or.inr (Or.inl rfl)
theorem cmpV_anti (a b : VD) : cmpV a b = - cmpV b a := by
  unfold cmpV
  cases checkS a <;> cases checkS b <;> simp
  exact cmpC_cmp.anti _ _
theorem cmpV_zero {a b : VD} (ha : checkS a = true) (hb : checkS b = true) : cmpV a b = 0 ↔ (a.1 = b.1 ∧ a.2.1 = b.2.1 ∧ a.2.2.1 = b.2.2.1 ∧ a.2.2.2.1 = b.2.2.2.1) := by
  rw [cmpV_of ha hb, cmpC_cmp.zero]
  unfold core
  simp only [Prod.mk.injEq]
theorem vline_true (a b c : VD) : vline_t 1000 a b c = some true := by
  have hl := vlive_true 1000 (by decide)
  unfold vline_t
  simp only [letO, hl, Option.bind_some, vCompare_spec 1000 _ _ (by decide), vCheck_spec 1000 _ (by decide)]
  generalize decide ((600 : Int) < _) = g
  cases g with
  | true => rfl
  | false =>
    have hr := cmpV_rng a b
    have han := cmpV_anti a b
    have hw : IntKind.wrap .i64 (0 - cmpV b a) = cmpV a b := by rw [wrap64 (by omega) (by omega)]; omega
    have h1 : ¬ cmpV a b < -1 := by omega
    have h2 : ¬ 1 < cmpV a b := by omega
    simp only [cond_false, hw, decide_true, Bool.not_true, h1, h2, decide_false]
    cases hca : checkS a with
    | false => rfl
    | true => cases hcb : checkS b with
      | false => rfl
      | true => cases hcc : checkS c with
        | false => rfl
        | true =>
          simp only [Bool.not_true, cond_false]
          have hz := cmpV_zero hca hcb
          have ht : cmpV a b ≤ 0 → cmpV b c ≤ 0 → ¬ 0 < cmpV a c := by
            rw [cmpV_of hca hcb, cmpV_of hcb hcc, cmpV_of hca hcc]
            intro k1 k2
            have := cmpC_cmp.tr _ _ _ k1 k2
            omega
          have last : (bif decide (a.1 = b.1) then (bif decide (a.2.1 = b.2.1) then (bif decide (a.2.2.1 = b.2.2.1) then (bif decide (decide (cmpV a b = (0 : Int)) = decide (a.2.2.2.1 = b.2.2.2.1)) then some true else some false) else (bif decide (decide (cmpV a b = (0 : Int)) = false) then some true else some false)) else (bif decide (decide (cmpV a b = (0 : Int)) = false) then some true else some false)) else (bif decide (decide (cmpV a b = (0 : Int)) = false) then some true else some false)) = some true := by
            by_cases e1 : a.1 = b.1
            · by_cases e2 : a.2.1 = b.2.1
              · by_cases e3 : a.2.2.1 = b.2.2.1
                · by_cases e4 : a.2.2.2.1 = b.2.2.2.1
                  · have := hz.2 ⟨e1, e2, e3, e4⟩
                    simp [e1, e2, e3, e4, this]
                  · have : ¬ cmpV a b = 0 := fun h => e4 (hz.1 h).2.2.2
                    simp [e1, e2, e3, e4, this]
                · have : ¬ cmpV a b = 0 := fun h => e3 (hz.1 h).2.2.1
                  simp [e1, e2, e3, this]
              · have : ¬ cmpV a b = 0 := fun h => e2 (hz.1 h).2.1
                simp [e1, e2, this]
            · have : ¬ cmpV a b = 0 := fun h => e1 (hz.1 h).1
              simp [e1, this]
          by_cases q1 : cmpV a b ≤ 0
          · by_cases q2 : cmpV b c ≤ 0
            · have q3 := ht q1 q2
              simp only [q1, q2, q3, decide_true, decide_false, cond_true, cond_false]
              exact last
            · simp only [q1, q2, decide_true, decide_false, cond_true, cond_false]
              exact last
          · simp only [q1, decide_false, cond_false]
            exact last
/-! Build is of no moment -/
theorem check_noBuild {v : VD} (h : checkS v = true) : checkS (v.1, (v.2.1, (v.2.2.1, (v.2.2.2.1, [])))) = true := by
  unfold checkS at *
  simp only [Bool.and_eq_true] at h
  simp only [h.1.1.1.1, h.1.1.1.2, h.1.1.2, h.1.2, Bool.true_and]
  rfl
theorem check_noPre {v : VD} (h : checkS v = true) : checkS (v.1, (v.2.1, (v.2.2.1, ([], v.2.2.2.2)))) = true := by
  unfold checkS at *
  simp only [Bool.and_eq_true] at h
  simp only [h.1.1.1.1, h.1.1.1.2, h.1.1.2, h.2, Bool.true_and, Bool.and_true]
  rfl
theorem vbuilds_true (a b : VD) (l : Int) : vbuilds_t 1000 a b l = some true := by
  have hl := vlive_true 1000 (by decide)
  unfold vbuilds_t
  simp only [letO, hl, Option.bind_some, vCompare_spec 1000 _ _ (by decide), vCheck_spec 1000 _ (by decide), vBump_spec 1000 _ _ (by decide)]
  generalize decide ((400 : Int) < _) = g
  cases g with
  | true => rfl
  | false => cases hca : checkS a with
    | false => rfl
    | true => cases hcb : checkS b with
      | false => rfl
      | true =>
        have hc' := check_noBuild hca
        have hc'' := check_noPre hca
        have e1 : bumpS (a.1, (a.2.1, (a.2.2.1, (a.2.2.2.1, [])))) l = bumpS a l := by unfold bumpS; rw [hca, hc']
        have e2 : cmpV (a.1, (a.2.1, (a.2.2.1, (a.2.2.2.1, [])))) b = cmpV a b := by rw [cmpV_of hca hcb, cmpV_of hc' hcb]; rfl
        have e3 : cmpV a (a.1, (a.2.1, (a.2.2.1, ([], a.2.2.2.2)))) = if a.2.2.2.1 = [] then 0 else -1 := by
          rw [cmpV_of hca hc'', cmpC_cmp.anti]
          have := cmpC_rel a.1 a.2.1 a.2.2.1 a
          have i0 : ∀ x : Int, cmpI x x = 0 := fun x => cmpI_cmp.refl x
          show - cmpC (a.1, (a.2.1, (a.2.2.1, []))) (core a) = _
          rw [this, i0, i0, i0]
          unfold or2
          by_cases h : a.2.2.2.1 = [] <;> simp [h]
        simp only [cond_false, Bool.not_true, e1, e2, e3, decide_true, cond_true, Bool.and_self, Bool.and_true]
        by_cases h : a.2.2.2.1 = [] <;> simp [h]
/-! bumps -/
theorem bump_facts {v : VD} {l : Int} (h : (bumpS v l).2 = 0) : checkS v = true ∧ (1 ≤ l ∧ l ≤ 3) ∧ ∃ M m p : Int, bumpS v l = ((M, (m, (p, ([], [])))), 0) ∧ (0 ≤ M ∧ M ≤ 999999999) ∧ (0 ≤ m ∧ m ≤ 999999999) ∧ (0 ≤ p ∧ p ≤ 999999999) ∧
    ((v.2.2.2.1 ≠ [] ∧ M = v.1 ∧ m = v.2.1 ∧ p = v.2.2.1 ∧ (2 ≤ l → p = 0) ∧ (l = 3 → m = 0)) ∨
     (¬ (v.2.2.2.1 ≠ [] ∧ (2 ≤ l → v.2.2.1 = 0) ∧ (l = 3 → v.2.1 = 0)) ∧ ((l = 1 ∧ M = v.1 ∧ m = v.2.1 ∧ p = v.2.2.1 + 1) ∨
      (l ≤ 2 ∧ M = v.1 ∧ m = v.2.1 + 1 ∧ p = 0 ∧ (l = 1 → v.2.2.1 = 999999999)) ∨
      (M = v.1 + 1 ∧ m = 0 ∧ p = 0 ∧ (l = 1 → v.2.2.1 = 999999999) ∧ (l ≤ 2 → v.2.1 = 999999999))))) := by
  unfold bumpS at h ⊢
  split at h
  case isFalse => simp at h
  rename_i h0
  obtain ⟨hc, hl⟩ := h0
  obtain ⟨h1, h2, h3, h4, h5⟩ := checkS_some hc
  refine ⟨hc, hl, ?_⟩
  rw [if_pos ⟨hc, hl⟩]
  split
  · rename_i k1
    exact ⟨_, _, _, rfl, h1, h2, h3, Or.inl ⟨k1.1, rfl, rfl, rfl, k1.2.1, k1.2.2⟩⟩
  · rename_i k1
    split
    · rename_i k2
      exact ⟨_, _, _, rfl, h1, h2, by omega, Or.inr ⟨k1, Or.inl ⟨k2.1, rfl, rfl, rfl⟩⟩⟩
    · rename_i k2
      split
      · rename_i k3
        exact ⟨_, _, _, rfl, h1, by omega, by omega, Or.inr ⟨k1, Or.inr (Or.inl ⟨k3.1, rfl, rfl, rfl, by omega⟩)⟩⟩
      · rename_i k3
        split
        · rename_i k4
          exact ⟨_, _, _, rfl, by omega, by omega, by omega, Or.inr ⟨k1, Or.inr (Or.inr ⟨rfl, rfl, rfl, by omega, by omega⟩)⟩⟩
        · rename_i k4
          exfalso
          rw [if_neg k1, if_neg k2, if_neg k3, if_neg k4] at h
          simp at h
theorem bump_err {v : VD} {l : Int} (h : ¬ (bumpS v l).2 = 0) : bumpS v l = (v0, 15) ∨ (bumpS v l = (v0, 1) ∧ ¬ (checkS v = true ∧ 1 ≤ l ∧ l ≤ 3)) := by
  unfold bumpS at h ⊢
  split
  · rename_i h0
    rw [if_pos h0] at h
    split
    · rename_i k; rw [if_pos k] at h; simp at h
    · rename_i k; rw [if_neg k] at h
      split
      · rename_i k; rw [if_pos k] at h; simp at h
      · rename_i k; rw [if_neg k] at h
        split
        · rename_i k; rw [if_pos k] at h; simp at h
        · rename_i k; rw [if_neg k] at h
          split
          · rename_i k; rw [if_pos k] at h; simp at h
          · exact Or.inl rfl
  · rename_i h0; exact Or.inr ⟨rfl, h0⟩
/-- a release, held against a version -/
theorem rel_cmp {a b c : Int} {v : VD} (h1 : 0 ≤ a ∧ a ≤ 999999999) (h2 : 0 ≤ b ∧ b ≤ 999999999) (h3 : 0 ≤ c ∧ c ≤ 999999999) (hv : checkS v = true) :
    cmpV (a, (b, (c, ([], [])))) v = or2 (cmpI a v.1) (or2 (cmpI b v.2.1) (or2 (cmpI c v.2.2.1) (if v.2.2.2.1 = [] then 0 else 1))) := by
  rw [cmpV_of (check_rel h1 h2 h3) hv]
  exact cmpC_rel a b c v
theorem rel_cmp' {w v : VD} (hw : checkS w = true) (h0 : w.2.2.2.1 = []) (hv : checkS v = true) :
    cmpV w v = or2 (cmpI w.1 v.1) (or2 (cmpI w.2.1 v.2.1) (or2 (cmpI w.2.2.1 v.2.2.1) (if v.2.2.2.1 = [] then 0 else 1))) := by
  rw [cmpV_of hw hv]
  have : core w = (w.1, (w.2.1, (w.2.2.1, []))) := by unfold core; rw [h0]
  rw [this]
  exact cmpC_rel _ _ _ v
theorem or2_pos {x y : Int} : or2 x y = 1 ↔ (x = 1 ∨ (x = 0 ∧ y = 1)) := by unfold or2; split <;> omega
theorem cmpI_one {a b : Int} : cmpI a b = 1 ↔ b < a := by unfold cmpI; split <;> (try split) <;> omega
theorem cmpI_zero {a b : Int} : cmpI a b = 0 ↔ a = b := by unfold cmpI; split <;> (try split) <;> omega
theorem cmpI_neg {a b : Int} : cmpI a b = -1 ↔ a < b := by unfold cmpI; split <;> (try split) <;> omega
theorem or2_lt {x y : Int} : or2 x y < 0 ↔ (x < 0 ∨ (x = 0 ∧ y < 0)) := by unfold or2; split <;> omega
theorem or2_gt {x y : Int} : 0 < or2 x y ↔ (0 < x ∨ (x = 0 ∧ 0 < y)) := by unfold or2; split <;> omega
theorem cmpI_lt {a b : Int} : cmpI a b < 0 ↔ a < b := by unfold cmpI; split <;> (try split) <;> omega
theorem cmpI_gt {a b : Int} : 0 < cmpI a b ↔ b < a := by unfold cmpI; split <;> (try split) <;> omega
theorem bump_next {v : VD} {l : Int} {M m p M' m' p' : Int} (hM : 0 ≤ M ∧ M ≤ 999999999) (hm : 0 ≤ m ∧ m ≤ 999999999) (hp : 0 ≤ p ∧ p ≤ 999999999) (hM' : 0 ≤ M' ∧ M' ≤ 999999999) (hm' : 0 ≤ m' ∧ m' ≤ 999999999) (hp' : 0 ≤ p' ∧ p' ≤ 999999999) (hv : checkS v = true) (hl : 1 ≤ l ∧ l ≤ 2)
    (h : (v.2.2.2.1 ≠ [] ∧ M = v.1 ∧ m = v.2.1 ∧ p = v.2.2.1 ∧ (2 ≤ l → p = 0) ∧ (l = 3 → m = 0)) ∨
     (¬ (v.2.2.2.1 ≠ [] ∧ (2 ≤ l → v.2.2.1 = 0) ∧ (l = 3 → v.2.1 = 0)) ∧ ((l = 1 ∧ M = v.1 ∧ m = v.2.1 ∧ p = v.2.2.1 + 1) ∨
      (l ≤ 2 ∧ M = v.1 ∧ m = v.2.1 + 1 ∧ p = 0 ∧ (l = 1 → v.2.2.1 = 999999999)) ∨
      (M = v.1 + 1 ∧ m = 0 ∧ p = 0 ∧ (l = 1 → v.2.2.1 = 999999999) ∧ (l ≤ 2 → v.2.1 = 999999999)))))
    (h' : (v.2.2.2.1 ≠ [] ∧ M' = v.1 ∧ m' = v.2.1 ∧ p' = v.2.2.1 ∧ (2 ≤ l + 1 → p' = 0) ∧ (l + 1 = 3 → m' = 0)) ∨
     (¬ (v.2.2.2.1 ≠ [] ∧ (2 ≤ l + 1 → v.2.2.1 = 0) ∧ (l + 1 = 3 → v.2.1 = 0)) ∧ ((l + 1 = 1 ∧ M' = v.1 ∧ m' = v.2.1 ∧ p' = v.2.2.1 + 1) ∨
      (l + 1 ≤ 2 ∧ M' = v.1 ∧ m' = v.2.1 + 1 ∧ p' = 0 ∧ (l + 1 = 1 → v.2.2.1 = 999999999)) ∨
      (M' = v.1 + 1 ∧ m' = 0 ∧ p' = 0 ∧ (l + 1 = 1 → v.2.2.1 = 999999999) ∧ (l + 1 ≤ 2 → v.2.1 = 999999999))))) :
    ¬ cmpV (M', (m', (p', ([], [])))) (M, (m, (p, ([], [])))) < 0 := by
  rw [rel_cmp hM' hm' hp' (check_rel hM hm hp)]
  simp only [or2_lt, cmpI_lt, cmpI_zero, if_true]
  obtain ⟨g1, g2, g3, -, -⟩ := checkS_some hv
  by_cases hp0 : v.2.2.2.1 = []
  · simp only [hp0, ne_eq, not_true, false_and, false_or, not_false_eq_true, true_and] at h h'
    omega
  · simp only [hp0, ne_eq, not_false_eq_true, true_and] at h h'
    omega
theorem bump_least {v w : VD} {l : Int} {M m p : Int} (hM : 0 ≤ M ∧ M ≤ 999999999) (hm : 0 ≤ m ∧ m ≤ 999999999) (hp : 0 ≤ p ∧ p ≤ 999999999) (hv : checkS v = true) (hl : 1 ≤ l ∧ l ≤ 3)
    (h : (v.2.2.2.1 ≠ [] ∧ M = v.1 ∧ m = v.2.1 ∧ p = v.2.2.1 ∧ (2 ≤ l → p = 0) ∧ (l = 3 → m = 0)) ∨
     (¬ (v.2.2.2.1 ≠ [] ∧ (2 ≤ l → v.2.2.1 = 0) ∧ (l = 3 → v.2.1 = 0)) ∧ ((l = 1 ∧ M = v.1 ∧ m = v.2.1 ∧ p = v.2.2.1 + 1) ∨
      (l ≤ 2 ∧ M = v.1 ∧ m = v.2.1 + 1 ∧ p = 0 ∧ (l = 1 → v.2.2.1 = 999999999)) ∨
      (M = v.1 + 1 ∧ m = 0 ∧ p = 0 ∧ (l = 1 → v.2.2.1 = 999999999) ∧ (l ≤ 2 → v.2.1 = 999999999)))))
    (hw : checkS w = true) (w0 : w.2.2.2.1 = []) (w2 : l < 2 ∨ w.2.2.1 = 0) (w3 : l < 3 ∨ w.2.1 = 0) : cmpV w v ≤ 0 ∨ 0 ≤ cmpV w (M, (m, (p, ([], [])))) := by
  have key : 0 < cmpV w v → cmpV w (M, (m, (p, ([], [])))) < 0 → False := by
    rw [rel_cmp' hw w0 hv, rel_cmp' hw w0 (check_rel hM hm hp)]
    simp only [or2_gt, or2_lt, cmpI_gt, cmpI_lt, cmpI_zero, if_true]
    obtain ⟨g1, g2, g3, -, -⟩ := checkS_some hv
    obtain ⟨k1, k2, k3, -, -⟩ := checkS_some hw
    by_cases hp0 : v.2.2.2.1 = []
    · simp only [hp0, ne_eq, not_true, false_and, false_or, not_false_eq_true, true_and, if_true] at h ⊢
      omega
    · simp only [hp0, ne_eq, not_false_eq_true, true_and, if_false] at h ⊢
      omega
  by_cases h1 : cmpV w v ≤ 0
  · exact Or.inl h1
  · by_cases h2 : 0 ≤ cmpV w (M, (m, (p, ([], []))))
    · exact Or.inr h2
    · exact (key (by omega) (by omega)).elim
theorem bump_above {v : VD} {l : Int} {M m p : Int} (hM : 0 ≤ M ∧ M ≤ 999999999) (hm : 0 ≤ m ∧ m ≤ 999999999) (hp : 0 ≤ p ∧ p ≤ 999999999) (hv : checkS v = true) (hl : 1 ≤ l ∧ l ≤ 3)
    (h : (v.2.2.2.1 ≠ [] ∧ M = v.1 ∧ m = v.2.1 ∧ p = v.2.2.1 ∧ (2 ≤ l → p = 0) ∧ (l = 3 → m = 0)) ∨
     (¬ (v.2.2.2.1 ≠ [] ∧ (2 ≤ l → v.2.2.1 = 0) ∧ (l = 3 → v.2.1 = 0)) ∧ ((l = 1 ∧ M = v.1 ∧ m = v.2.1 ∧ p = v.2.2.1 + 1) ∨
      (l ≤ 2 ∧ M = v.1 ∧ m = v.2.1 + 1 ∧ p = 0 ∧ (l = 1 → v.2.2.1 = 999999999)) ∨
      (M = v.1 + 1 ∧ m = 0 ∧ p = 0 ∧ (l = 1 → v.2.2.1 = 999999999) ∧ (l ≤ 2 → v.2.1 = 999999999))))) : cmpV (M, (m, (p, ([], [])))) v = 1 := by
  rw [rel_cmp hM hm hp hv]
  simp only [or2_pos, cmpI_one, cmpI_zero]
  by_cases hp0 : v.2.2.2.1 = []
  · simp only [hp0, ne_eq, not_true, false_and, false_or, not_false_eq_true, true_and, if_true] at h ⊢
    omega
  · simp only [hp0, ne_eq, not_false_eq_true, true_and, and_true, if_false] at h ⊢
    omega
theorem vbumps_true (v : VD) (l : Int) (w : VD) : vbumps_t 1000 v l w = some true := by
  have hl := vlive_true 1000 (by decide)
  unfold vbumps_t
  simp only [letO, hl, Option.bind_some, vCompare_spec 1000 _ _ (by decide), vCheck_spec 1000 _ (by decide), vBump_spec 1000 _ _ (by decide)]
  generalize decide ((200 : Int) < ((v.2.2.2.1.length : Nat) : Int)) = g1
  generalize decide ((200 : Int) < ((v.2.2.2.2.length : Nat) : Int)) = g2
  generalize decide ((200 : Int) < ((w.2.2.2.1.length : Nat) : Int)) = g3
  generalize decide ((200 : Int) < ((w.2.2.2.2.length : Nat) : Int)) = g4
  cases g1 with
  | true => rfl
  | false => cases g2 with
    | true => rfl
    | false => cases g3 with
      | true => rfl
      | false => cases g4 with
        | true => rfl
        | false =>
          simp only [cond_false]
          by_cases h0 : (bumpS v l).2 = 0
          · obtain ⟨hc, hl1, M, m, p, he, hM, hm, hp, hr⟩ := bump_facts h0
            have ha := bump_above hM hm hp hc hl1 hr
            have hleast := fun k1 k2 k3 k4 => bump_least (w := w) hM hm hp hc hl1 hr k1 k2 k3 k4
            have hnext : (bumpS v (l + 1)).2 = 0 → ¬ cmpV (bumpS v (l + 1)).1 (M, (m, (p, ([], [])))) < 0 := by
              intro h1
              obtain ⟨-, hl2, M', m', p', he', hM', hm', hp', hr'⟩ := bump_facts h1
              rw [he']
              exact bump_next hM hm hp hM' hm' hp' hc ⟨hl1.1, by omega⟩ hr hr'
            have f2 : 2 ≤ l → p = 0 := by
              rcases hr with hr | ⟨-, hr | hr | hr⟩
              · exact hr.2.2.2.2.1
              · omega
              · omega
              · omega
            have f3 : l = 3 → m = 0 := by
              rcases hr with hr | ⟨-, hr | hr | hr⟩
              · exact hr.2.2.2.2.2
              · omega
              · omega
              · omega
            have hw : IntKind.wrap .i64 (l + 1) = l + 1 := wrap64 (by omega) (by omega)
            rw [hw, he]
            generalize bumpS v (l + 1) = nx at hnext
            obtain ⟨nv, ne⟩ := nx
            simp only at hnext
            clear hr he h0 hw
            have tail1 : ∀ c : Bool, (c = true → (l < 2 ∨ w.2.2.1 = 0) ∧ (l < 3 ∨ w.2.1 = 0) ∧ checkS w = true ∧ w.2.2.2.1 = []) → (bif c then (bif decide (cmpV w v ≤ 0) then some true else bif decide (0 ≤ cmpV w (M, (m, (p, ([], []))))) then some true else some false) else some true) = some true := by
              intro c hcc
              cases c with
              | false => rfl
              | true =>
                obtain ⟨k1, k2, k3, k4⟩ := hcc rfl
                rcases hleast k3 k4 k1 k2 with k | k
                · simp only [k, decide_true, cond_true]
                · simp only [k, decide_true, cond_true]
                  cases decide (cmpV w v ≤ 0) <;> rfl
            rcases (show l = 1 ∨ l = 2 ∨ l = 3 by omega) with rfl | rfl | rfl
            · have t1 := tail1 (checkS w && decide (w.2.2.2.1 = [])) (fun h => by simp only [Bool.and_eq_true, decide_eq_true_eq] at h; exact ⟨Or.inl (by decide), Or.inl (by decide), h.1, h.2⟩)
              simp only [ha, decide_true, decide_false, Bool.not_true, Bool.not_false, cond_true, cond_false, show ¬ (2 : Int) ≤ 1 from by decide, show ¬ (1 : Int) = 3 from by decide, show (1 : Int) < 2 from by decide, show (1 : Int) < 3 from by decide]
              by_cases n0 : ne = 0
              · have n1 := hnext n0
                simp only [n0, n1, decide_true, decide_false, cond_true, cond_false]
                cases hcw : checkS w with
                | false => rfl
                | true =>
                  rw [hcw] at t1
                  simp only [Bool.true_and, cond_true] at t1 ⊢
                  exact t1
              · simp only [n0, decide_false, cond_false]
                cases hcw : checkS w with
                | false => rfl
                | true =>
                  rw [hcw] at t1
                  simp only [Bool.true_and, cond_true] at t1 ⊢
                  exact t1
            · have t1 := tail1 (checkS w && (decide (w.2.2.2.1 = []) && decide (w.2.2.1 = 0))) (fun h => by simp only [Bool.and_eq_true, decide_eq_true_eq] at h; exact ⟨Or.inr h.2.2, Or.inl (by decide), h.1, h.2.1⟩)
              have p0 := f2 (by decide)
              simp only [p0] at ha t1 hnext ⊢
              simp only [ha, decide_true, decide_false, Bool.not_true, Bool.not_false, cond_true, cond_false, show (2 : Int) ≤ 2 from by decide, show ¬ (2 : Int) = 3 from by decide, show ¬ (2 : Int) < 2 from by decide, show (2 : Int) < 3 from by decide]
              have fin : (bif checkS w then (bif decide (w.2.2.2.1 = []) then (bif decide (w.2.2.1 = 0) then (bif decide (cmpV w v ≤ 0) then some true else bif decide (0 ≤ cmpV w (M, (m, (0, ([], []))))) then some true else some false) else some true) else some true) else some true) = some true := by
                cases hcw : checkS w with
                | false => rfl
                | true =>
                  rw [hcw] at t1
                  cases hp0 : decide (w.2.2.2.1 = []) with
                  | false => rfl
                  | true =>
                    rw [hp0] at t1
                    simp only [Bool.true_and, cond_true] at t1 ⊢
                    exact t1
              by_cases n0 : ne = 0
              · have n1 := hnext n0
                simp only [n0, n1, decide_true, decide_false, cond_true, cond_false]
                exact fin
              · simp only [n0, decide_false, cond_false]
                exact fin
            · have t1 := tail1 (checkS w && (decide (w.2.2.2.1 = []) && (decide (w.2.2.1 = 0) && decide (w.2.1 = 0)))) (fun h => by simp only [Bool.and_eq_true, decide_eq_true_eq] at h; exact ⟨Or.inr h.2.2.1, Or.inr h.2.2.2, h.1, h.2.1⟩)
              have p0 := f2 (by decide)
              have m0 := f3 rfl
              simp only [p0, m0] at ha t1 hnext ⊢
              simp only [ha, decide_true, decide_false, Bool.not_true, Bool.not_false, cond_true, cond_false, show (2 : Int) ≤ 3 from by decide, show ¬ (3 : Int) < 2 from by decide, show ¬ (3 : Int) < 3 from by decide]
              have fin : (bif checkS w then (bif decide (w.2.2.2.1 = []) then (bif decide (w.2.2.1 = 0) then (bif !decide (w.2.1 = 0) then some true else (bif decide (cmpV w v ≤ 0) then some true else bif decide (0 ≤ cmpV w (M, (0, (0, ([], []))))) then some true else some false)) else some true) else some true) else some true) = some true := by
                cases hcw : checkS w with
                | false => rfl
                | true =>
                  rw [hcw] at t1
                  cases hp0 : decide (w.2.2.2.1 = []) with
                  | false => rfl
                  | true =>
                    rw [hp0] at t1
                    cases hp1 : decide (w.2.2.1 = 0) with
                    | false => rfl
                    | true =>
                      rw [hp1] at t1
                      cases hp2 : decide (w.2.1 = 0) with
                      | false => rfl
                      | true =>
                        rw [hp2] at t1
                        simp only [Bool.true_and, Bool.not_true, cond_true, cond_false] at t1 ⊢
                        exact t1
              by_cases n0 : ne = 0
              · have n1 := hnext n0
                simp only [n0, n1, decide_true, decide_false, cond_true, cond_false]
                exact fin
              · simp only [n0, decide_false, cond_false]
                exact fin
          · rcases bump_err h0 with h | ⟨h, hn⟩
            · rw [h]; simp
            · rw [h]
              by_cases c1 : checkS v = true
              · by_cases c2 : l < 1
                · simp [c1, c2]
                · have c3 : 3 < l := by
                    by_cases c3 : 3 < l
                    · exact c3
                    · exact (hn ⟨c1, by omega, by omega⟩).elim
                  simp [c1, c2, c3]
              · simp [c1]
end Go.Proofs.YtgihkohggalefabDoor.AM
