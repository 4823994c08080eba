/- Layer 7: the order as the document tells it; the greatest of versions. -/
import Derived.Test.YtgihkohggalefabDoorVerP3
import Derived.Test.YtgihkohggalefabDoorVerP4
namespace Go.Proofs.YtgihkohggalefabDoor.AM
open Go.RowKit
set_option linter.unusedVariables false
set_option linter.unusedSimpArgs false
theorem rBump_step (n m : Nat) (l i i' : Int) (v x : VD) (z1 z2 z3 : Int) (z4 z5 : List UInt8) (L : List VD) (hn : 100 ≤ n) (hi : i < ((L.length : Nat) : Int)) (hx : idxL L i = some x) (hx' : nth L (Int.toNat i) = some x) (hw : IntKind.wrap .i64 (i + 1) = i') :
    rBump_loop0 n (m + 1) l i v.1 v.2.1 v.2.2.1 v.2.2.2.1 v.2.2.2.2 z1 z2 z3 z4 z5 L = if (2 ≤ l ∧ x.2.2.1 ≠ 0) ∨ (l = 3 ∧ x.2.1 ≠ 0) ∨ checkS x = false ∨ ¬ 0 < cmpV x v then rBump_loop0 n m l i' v.1 v.2.1 v.2.2.1 v.2.2.2.1 v.2.2.2.2 z1 z2 z3 z4 z5 L else some (Sum.inl (((), ((0 : Int), ())), ((x, ()), ()))) := by
  rw [rBump_loop0_succ]
  unfold rBump_l0
  have hcmp : rCompare_t n x (v.1, (v.2.1, (v.2.2.1, (v.2.2.2.1, v.2.2.2.2)))) = some (cmpV x v) := rCompare_spec n x v hn
  simp only [hi, decide_true, cond_true, hx, hx', Option.bind_some, rCheck_spec n x hn, hcmp, letO, hw]
  by_cases a1 : 2 ≤ l
  · by_cases a2 : x.2.2.1 = 0
    · by_cases a3 : l = 3
      · by_cases a4 : x.2.1 = 0
        · cases hc : checkS x with
          | false => simp [a1, a2, a3, a4]
          | true => by_cases a5 : 0 < cmpV x v <;> simp [a1, a2, a3, a4, a5]
        · simp [a1, a2, a3, a4]
      · cases hc : checkS x with
        | false => simp [a1, a2, a3]
        | true => by_cases a5 : 0 < cmpV x v <;> simp [a1, a2, a3, a5]
    · simp [a1, a2]
  · have a3 : ¬ l = 3 := by omega
    cases hc : checkS x with
    | false => simp [a1, a3]
    | true => by_cases a5 : 0 < cmpV x v <;> simp [a1, a3, a5]
theorem rBump_end (n m : Nat) (l i : Int) (v : VD) (z1 z2 z3 : Int) (z4 z5 : List UInt8) (L : List VD) (hi : ¬ i < ((L.length : Nat) : Int)) :
    rBump_loop0 n (m + 1) l i v.1 v.2.1 v.2.2.1 v.2.2.2.1 v.2.2.2.2 z1 z2 z3 z4 z5 L = some (Sum.inr ((((), ()), (((z1, (z2, (z3, (z4, z5)))), ()), ())))) := by
  rw [rBump_loop0_succ]
  unfold rBump_l0
  simp only [hi, decide_false, cond_false]
theorem check_bad {a b c : Int} (h : ¬ (0 ≤ a ∧ a ≤ 999999999) ∨ ¬ (0 ≤ b ∧ b ≤ 999999999) ∨ ¬ (0 ≤ c ∧ c ≤ 999999999)) : checkS (a, (b, (c, ([], [])))) = false := by
  cases hc : checkS (a, (b, (c, ([], [])))) with
  | false => rfl
  | true =>
    obtain ⟨h1, h2, h3, -, -⟩ := checkS_some hc
    exact (h.elim (fun k => k h1) fun k => k.elim (fun k => k h2) fun k => k h3).elim
theorem rBump_spec (n : Nat) (v : VD) (l : Int) (hn : 100 ≤ n) : rBump_t n v l = some (bumpS v l) := by
  unfold rBump_t
  rw [rCheck_spec n v hn]
  cases hc : checkS v with
  | false => unfold bumpS; simp [hc]
  | true =>
    obtain ⟨h1, h2, h3, h4, h5⟩ := checkS_some hc
    simp only [Option.bind_some, Bool.not_true, cond_false]
    by_cases l1 : l < 1
    · have : ¬ (1 ≤ l) := by omega
      unfold bumpS; simp [l1, this]
    by_cases l3 : 3 < l
    · have : ¬ (l ≤ 3) := by omega
      unfold bumpS; simp [l1, l3, this]
    have q1 : 1 ≤ l := by omega
    have q3 : l ≤ 3 := by omega
    have w1 : IntKind.wrap .i64 (v.2.2.1 + 1) = v.2.2.1 + 1 := wrap64 (by omega) (by omega)
    have w2 : IntKind.wrap .i64 (v.2.1 + 1) = v.2.1 + 1 := wrap64 (by omega) (by omega)
    have w3 : IntKind.wrap .i64 (v.1 + 1) = v.1 + 1 := wrap64 (by omega) (by omega)
    simp only [l1, l3, decide_false, cond_false, letO, w1, w2, w3]
    obtain ⟨k, rfl⟩ : ∃ k, n = k + 1 + 1 + 1 + 1 + 1 := ⟨n - 5, by omega⟩
    rw [rBump_step _ _ l 0 1 v (v.1, (v.2.1, (v.2.2.1, ([], [])))) _ _ _ _ _ _ hn (by simp) rfl rfl (by rfl),
      rBump_step _ _ l 1 2 v (v.1, (v.2.1, (v.2.2.1 + 1, ([], [])))) _ _ _ _ _ _ hn (by simp) rfl rfl (by rfl),
      rBump_step _ _ l 2 3 v (v.1, (v.2.1 + 1, (0, ([], [])))) _ _ _ _ _ _ hn (by simp) rfl rfl (by rfl),
      rBump_step _ _ l 3 4 v (v.1 + 1, (0, (0, ([], [])))) _ _ _ _ _ _ hn (by simp) rfl rfl (by rfl),
      rBump_end _ _ l 4 v _ _ _ _ _ _ (by simp)]
    have K0 : ((2 ≤ l ∧ v.2.2.1 ≠ 0) ∨ (l = 3 ∧ v.2.1 ≠ 0) ∨ checkS (v.1, (v.2.1, (v.2.2.1, ([], [])))) = false ∨ ¬ 0 < cmpV (v.1, (v.2.1, (v.2.2.1, ([], [])))) v) ↔ ¬ (v.2.2.2.1 ≠ [] ∧ (2 ≤ l → v.2.2.1 = 0) ∧ (l = 3 → v.2.1 = 0)) := by
      rw [rel_cmp h1 h2 h3 hc, check_rel h1 h2 h3]
      simp only [or2_gt, cmpI_gt, cmpI_zero]
      by_cases hp : v.2.2.2.1 = []
      · simp [hp]
      · simp [hp]; omega
    have K1 : ((2 ≤ l ∧ v.2.2.1 + 1 ≠ 0) ∨ (l = 3 ∧ v.2.1 ≠ 0) ∨ checkS (v.1, (v.2.1, (v.2.2.1 + 1, ([], [])))) = false ∨ ¬ 0 < cmpV (v.1, (v.2.1, (v.2.2.1 + 1, ([], [])))) v) ↔ ¬ (l = 1 ∧ v.2.2.1 < 999999999) := by
      by_cases hb : v.2.2.1 < 999999999
      · rw [rel_cmp h1 h2 (by omega) hc, check_rel h1 h2 (by omega)]
        simp only [or2_gt, cmpI_gt, cmpI_zero, Bool.true_eq_false, false_or, true_and]
        omega
      · rw [check_bad (by omega)]
        simp only [true_or, or_true, true_iff]
        omega
    have K2 : ((2 ≤ l ∧ (0 : Int) ≠ 0) ∨ (l = 3 ∧ v.2.1 + 1 ≠ 0) ∨ checkS (v.1, (v.2.1 + 1, (0, ([], [])))) = false ∨ ¬ 0 < cmpV (v.1, (v.2.1 + 1, (0, ([], [])))) v) ↔ ¬ (l ≤ 2 ∧ v.2.1 < 999999999) := by
      by_cases hb : v.2.1 < 999999999
      · rw [rel_cmp h1 (by omega) (by omega) hc, check_rel h1 (by omega) (by omega)]
        simp only [or2_gt, cmpI_gt, cmpI_zero, Bool.true_eq_false, false_or, true_and]
        omega
      · rw [check_bad (by omega)]
        simp only [true_or, or_true, true_iff]
        omega
    have K3 : ((2 ≤ l ∧ (0 : Int) ≠ 0) ∨ (l = 3 ∧ (0 : Int) ≠ 0) ∨ checkS (v.1 + 1, (0, (0, ([], [])))) = false ∨ ¬ 0 < cmpV (v.1 + 1, (0, (0, ([], [])))) v) ↔ ¬ (v.1 < 999999999) := by
      by_cases hb : v.1 < 999999999
      · rw [rel_cmp (by omega) (by omega) (by omega) hc, check_rel (by omega) (by omega) (by omega)]
        simp only [or2_gt, cmpI_gt, cmpI_zero, Bool.true_eq_false, false_or, true_and]
        omega
      · rw [check_bad (by omega)]
        simp only [true_or, or_true, true_iff]
        omega
    simp only [K0, K1, K2, K3, ite_not]
    unfold bumpS
    rw [if_pos (show checkS v = true ∧ 1 ≤ l ∧ l ≤ 3 from ⟨hc, q1, q3⟩)]
    clear K0 K1 K2 K3
    by_cases A : v.2.2.2.1 ≠ [] ∧ (2 ≤ l → v.2.2.1 = 0) ∧ (l = 3 → v.2.1 = 0)
    · rw [if_pos A, if_pos A]; rfl
    · rw [if_neg A, if_neg A]
      by_cases B : l = 1 ∧ v.2.2.1 < 999999999
      · rw [if_pos B, if_pos B]; rfl
      · rw [if_neg B, if_neg B]
        by_cases C : l ≤ 2 ∧ v.2.1 < 999999999
        · rw [if_pos C, if_pos C]; rfl
        · rw [if_neg C, if_neg C]
          by_cases D : v.1 < 999999999
          · rw [if_pos D, if_pos D]; rfl
          · rw [if_neg D, if_neg D]; rfl
/-! the law on orders -/
theorem vorder_loop0P (n : Nat) (hn : 100 ≤ n) (l : List VD) (k : Int) (hL : l.length ≤ 1000000) : ∀ m j : Nat, j ≤ l.length → l.length - j < m → vorder_loop0 n m l k (j : Int) = some (Sum.inl ((true, ()), ((), ()))) ∨ vorder_loop0 n m l k (j : Int) = some (Sum.inr (((l, (k, ())), ((), ()))))
  | 0, j, _, h => absurd h (Nat.not_lt_zero _)
  | m + 1, j, hj, h => by
    rw [vorder_loop0_succ]
    unfold vorder_l0
    by_cases c0 : j < l.length
    · have c0' : ((j : Nat) : Int) < ((l.length : Nat) : Int) := by omega
      have ih := vorder_loop0P n hn l k hL m (j + 1) (by omega) (by omega)
      simp only [c0', decide_true, cond_true, idx_lt c0, Option.bind_some, letO, wrap_succ (show j < 4611686018427387904 by omega), vlive_true n hn]
      generalize decide ((200 : Int) < ((l[j].2.2.2.1.length : Nat) : Int)) = g1
      generalize decide ((200 : Int) < ((l[j].2.2.2.2.length : Nat) : Int)) = g2
      cases g1 with
      | true => exact Or.inl rfl
      | false => cases g2 with
        | true => exact Or.inl rfl
        | false => exact ih
    · have c0' : ¬ ((j : Nat) : Int) < ((l.length : Nat) : Int) := by omega
      simp only [c0', decide_false, cond_false]
      first | exact Or.inr rfl | exact Or.inr trivial
theorem vorder_loop1P (n : Nat) (hn : 100 ≤ n) (l : List VD) (k : Int) (hL : l.length ≤ 1000000) : ∀ m j : Nat, j ≤ l.length → l.length - j < m → vorder_loop1 n m l k (j : Int) = some (Sum.inr (((l, ()), ((), ()))))
  | 0, j, _, h => absurd h (Nat.not_lt_zero _)
  | m + 1, j, hj, h => by
    rw [vorder_loop1_succ]
    unfold vorder_l1
    by_cases c0 : j < l.length
    · have c0' : ((j : Nat) : Int) < ((l.length : Nat) : Int) := by omega
      have ih := vorder_loop1P n hn l k hL m (j + 1) (by omega) (by omega)
      have i0 : idxL l (0 : Int) = some l[0] := idx_lt (l := l) (j := 0) (by omega)
      simp only [c0', decide_true, cond_true, idx_lt c0, i0, Option.bind_some, letO, wrap_succ (show j < 4611686018427387904 by omega), vBump_spec n _ _ hn, rBump_spec n _ _ hn, vCompare_spec n _ _ hn, rCompare_spec n _ _ hn, Bool.and_self, Bool.not_true, cond_false, ih]
    · have c0' : ¬ ((j : Nat) : Int) < ((l.length : Nat) : Int) := by omega
      simp only [c0', decide_false, cond_false]
theorem vorder_true (l : List VD) (k : Int) : vorder_t 1000 l k = some true := by
  have hl := vlive_true 1000 (by decide)
  unfold vorder_t
  by_cases c : (60 : Int) < ((l.length : Nat) : Int)
  · simp only [c, decide_true, cond_true, hl, Option.bind_some]
  · have hL : l.length ≤ 60 := by omega
    simp only [c, decide_false, cond_false]
    rcases vorder_loop0P 1000 (by decide) l k (by omega) 1000 0 (Nat.zero_le _) (by omega) with h | h
    · rw [show ((0 : Nat) : Int) = (0 : Int) from rfl] at h
      rw [h]; rfl
    · have h1 := vorder_loop1P 1000 (by decide) l k (by omega) 1000 0 (Nat.zero_le _) (by omega)
      rw [show ((0 : Nat) : Int) = (0 : Int) from rfl] at h h1
      simp only [h, Option.bind_some, Sum.elim_inr, h1, vMax_spec 1000 l (by omega) (by decide) (by omega), rMax_spec 1000 l (by omega) (by decide) (by omega), decide_true, Bool.and_self, cond_true, hl]
/-! the greatest -/
theorem cmpV_tr {a b c : VD} (ha : checkS a = true) (hb : checkS b = true) (hc : checkS c = true) (h1 : cmpV a b ≤ 0) (h2 : cmpV b c ≤ 0) : cmpV a c ≤ 0 := by
  rw [cmpV_of ha hb] at h1
  rw [cmpV_of hb hc] at h2
  rw [cmpV_of ha hc]
  exact cmpC_cmp.tr _ _ _ h1 h2
theorem cmpV_refl (a : VD) : cmpV a a = 0 := by have := cmpV_anti a a; omega
theorem maxS_none : ∀ (l : List VD) (b : Option VD), maxS b l = none → b = none ∧ ∀ x ∈ l, checkS x = false
  | [], b, h => ⟨by simpa [maxS] using h, fun x hx => by cases hx⟩
  | v :: l, none, h => by
    rw [maxS] at h
    obtain ⟨h1, h2⟩ := maxS_none l _ h
    refine ⟨rfl, fun x hx => ?_⟩
    rcases List.mem_cons.1 hx with rfl | hx
    · cases hc : checkS x with
      | false => rfl
      | true => rw [hc] at h1; simp at h1
    · exact h2 x hx
  | v :: l, some b, h => by
    rw [maxS] at h
    obtain ⟨h1, h2⟩ := maxS_none l _ h
    split at h1 <;> cases h1
theorem maxS_some : ∀ (l : List VD) (b : Option VD) (m : VD), (∀ x, b = some x → checkS x = true) → maxS b l = some m → checkS m = true ∧ (b = some m ∨ m ∈ l) ∧ (∀ x, b = some x → cmpV x m ≤ 0) ∧ ∀ x ∈ l, checkS x = true → cmpV x m ≤ 0
  | [], b, m, hb, h => by
    have h' : b = some m := by simpa [maxS] using h
    subst h'
    exact ⟨hb m rfl, Or.inl rfl, fun x hx => by cases hx; exact Int.le_of_eq (cmpV_refl _), fun x hx => by cases hx⟩
  | v :: l, none, m, hb, h => by
    rw [maxS] at h
    cases hc : checkS v with
    | false =>
      rw [hc] at h
      obtain ⟨h1, h2, h3, h4⟩ := maxS_some l none m (fun x hx => by cases hx) h
      refine ⟨h1, Or.inr (List.mem_cons_of_mem _ (h2.resolve_left (by simp))), fun x hx => (by cases hx), fun x hx hcx => ?_⟩
      rcases List.mem_cons.1 hx with rfl | hx
      · rw [hc] at hcx; cases hcx
      · exact h4 x hx hcx
    | true =>
      rw [hc] at h
      obtain ⟨h1, h2, h3, h4⟩ := maxS_some l (some v) m (fun x hx => by cases hx; exact hc) h
      refine ⟨h1, Or.inr ?_, fun x hx => (by cases hx), fun x hx hcx => ?_⟩
      · rcases h2 with h2 | h2
        · cases h2; exact List.mem_cons_self ..
        · exact List.mem_cons_of_mem _ h2
      · rcases List.mem_cons.1 hx with rfl | hx
        · exact h3 x rfl
        · exact h4 x hx hcx
  | v :: l, some b, m, hb, h => by
    rw [maxS] at h
    have hcb := hb b rfl
    by_cases hg : (checkS v && decide (0 < cmpV v b)) = true
    · rw [if_pos hg] at h
      simp only [Bool.and_eq_true, decide_eq_true_eq] at hg
      obtain ⟨h1, h2, h3, h4⟩ := maxS_some l (some v) m (fun x hx => by cases hx; exact hg.1) h
      have hvm := h3 v rfl
      have ha := cmpV_anti b v
      refine ⟨h1, Or.inr ?_, fun x hx => ?_, fun x hx hcx => ?_⟩
      · rcases h2 with h2 | h2
        · cases h2; exact List.mem_cons_self ..
        · exact List.mem_cons_of_mem _ h2
      · cases hx; exact cmpV_tr hcb hg.1 h1 (by omega) hvm
      · rcases List.mem_cons.1 hx with rfl | hx
        · exact hvm
        · exact h4 x hx hcx
    · rw [if_neg hg] at h
      obtain ⟨h1, h2, h3, h4⟩ := maxS_some l (some b) m hb h
      refine ⟨h1, ?_, h3, fun x hx hcx => ?_⟩
      · rcases h2 with h2 | h2
        · exact Or.inl h2
        · exact Or.inr (List.mem_cons_of_mem _ h2)
      · rcases List.mem_cons.1 hx with rfl | hx
        · simp only [hcx, Bool.true_and, decide_eq_true_eq] at hg
          exact cmpV_tr hcx hcb h1 (by omega) (h3 b rfl)
        · exact h4 x hx hcx
def eqB (x m : VD) : Bool := (decide (x.1 = m.1) && (decide (x.2.1 = m.2.1) && (decide (x.2.2.1 = m.2.2.1) && (decide (x.2.2.2.1 = m.2.2.2.1) && (decide (x.2.2.2.2 = m.2.2.2.2) && true)))))
theorem vmax_loop0P (n : Nat) (hn : 100 ≤ n) (l : List VD) (k : Int) (hL : l.length ≤ 1000000) : ∀ m j : Nat, j ≤ l.length → l.length - j < m → vmax_loop0 n m l k (j : Int) = some (Sum.inl ((true, ()), ((), ()))) ∨ vmax_loop0 n m l k (j : Int) = some (Sum.inr (((l, (k, ())), ((), ()))))
  | 0, j, _, h => absurd h (Nat.not_lt_zero _)
  | m + 1, j, hj, h => by
    rw [vmax_loop0_succ]
    unfold vmax_l0
    by_cases c0 : j < l.length
    · have c0' : ((j : Nat) : Int) < ((l.length : Nat) : Int) := by omega
      have ih := vmax_loop0P n hn l k hL m (j + 1) (by omega) (by omega)
      simp only [c0', decide_true, cond_true, idx_lt c0, Option.bind_some, letO, wrap_succ (show j < 4611686018427387904 by omega), vlive_true n hn]
      generalize decide ((200 : Int) < ((l[j].2.2.2.1.length : Nat) : Int)) = g1
      generalize decide ((200 : Int) < ((l[j].2.2.2.2.length : Nat) : Int)) = g2
      cases g1 with
      | true => exact Or.inl rfl
      | false => cases g2 with
        | true => exact Or.inl rfl
        | false => exact ih
    · have c0' : ¬ ((j : Nat) : Int) < ((l.length : Nat) : Int) := by omega
      simp only [c0', decide_false, cond_false]
      first | exact Or.inr rfl | exact Or.inr trivial
theorem vmax_loop1P (n : Nat) (hn : 100 ≤ n) (l : List VD) (k : Int) (is : Bool) (m : VD) (hL : l.length ≤ 1000000) (hm : ∀ x ∈ l, checkS x = true → is = true ∧ ¬ 0 < cmpV x m) : ∀ (f j : Nat) (found : Bool), j ≤ l.length → l.length - j < f →
    vmax_loop1 n f l k is found (j : Int) m.1 m.2.1 m.2.2.1 m.2.2.2.1 m.2.2.2.2 = some (Sum.inr (((l, (k, ((), (is, (found || (l.drop j).any (fun x => checkS x && eqB x m), ()))))), (((m.1, (m.2.1, (m.2.2.1, (m.2.2.2.1, m.2.2.2.2)))), ()), ()))))
  | 0, j, _, _, h => absurd h (Nat.not_lt_zero _)
  | f + 1, j, found, hj, h => by
    rw [vmax_loop1_succ]
    unfold vmax_l1
    by_cases c0 : j < l.length
    · have c0' : ((j : Nat) : Int) < ((l.length : Nat) : Int) := by omega
      have ih := fun b => vmax_loop1P n hn l k is m hL hm f (j + 1) b (by omega) (by omega)
      have hd : l.drop j = l[j] :: l.drop (j + 1) := (List.drop_eq_getElem_cons c0)
      have hcmp : vCompare_t n l[j] (m.1, (m.2.1, (m.2.2.1, (m.2.2.2.1, m.2.2.2.2)))) = some (cmpV l[j] m) := vCompare_spec n l[j] m hn
      have hmm := hm l[j] (List.getElem_mem c0)
      rw [hd, List.any_cons]
      simp only [c0', decide_true, cond_true, idx_lt c0, Option.bind_some, letO, wrap_succ (show j < 4611686018427387904 by omega), vCheck_spec n _ (show 4 ≤ n by omega), hcmp, ih]
      cases hc : checkS l[j] with
      | false => simp
      | true =>
        obtain ⟨k1, k2⟩ := hmm hc
        simp only [k1, k2, decide_false, Bool.not_true, cond_true, cond_false, Bool.true_and]
        cases found with
        | true => simp
        | false => simp [eqB]
    · have c0' : ¬ ((j : Nat) : Int) < ((l.length : Nat) : Int) := by omega
      have hd : l.drop j = [] := List.drop_eq_nil_of_le (by omega)
      rw [hd]
      simp only [c0', decide_false, cond_false, List.any_nil, Bool.or_false]
theorem vmax_true (l : List VD) (k : Int) : vmax_t 1000 l k = some true := by
  have hl := vlive_true 1000 (by decide)
  unfold vmax_t
  by_cases c : (60 : Int) < ((l.length : Nat) : Int)
  · simp only [c, decide_true, cond_true, hl, Option.bind_some]
  · have hL : l.length ≤ 60 := by omega
    simp only [c, decide_false, cond_false]
    rcases vmax_loop0P 1000 (by decide) l k (by omega) 1000 0 (Nat.zero_le _) (by omega) with h | h
    · rw [show ((0 : Nat) : Int) = (0 : Int) from rfl] at h
      rw [h]; rfl
    · rw [show ((0 : Nat) : Int) = (0 : Int) from rfl] at h
      simp only [h, Option.bind_some, Sum.elim_inr, vMax_spec 1000 l (by omega) (by decide) (by omega)]
      have facts : (∀ x ∈ l, checkS x = true → (maxS none l).isSome = true ∧ ¬ 0 < cmpV x (asV (maxS none l))) ∧ l.any (fun x => checkS x && eqB x (asV (maxS none l))) = (maxS none l).isSome := by
        cases hm : maxS none l with
        | none =>
          obtain ⟨-, h2⟩ := maxS_none l none hm
          refine ⟨fun x hx hc => (by rw [h2 x hx] at hc; cases hc), ?_⟩
          rw [List.any_eq_false.2 (fun x hx => by rw [h2 x hx]; simp)]; rfl
        | some m =>
          obtain ⟨h1, h2, -, h4⟩ := maxS_some l none m (fun x hx => by cases hx) hm
          refine ⟨fun x hx hc => ⟨rfl, by have := h4 x hx hc; show ¬ 0 < cmpV x m; omega⟩, ?_⟩
          rw [List.any_eq_true.2 ⟨m, h2.resolve_left (by simp), by show (checkS m && eqB m m) = true; rw [h1]; simp [eqB]⟩]; rfl
      have h1 := vmax_loop1P 1000 (by decide) l k (maxS none l).isSome (asV (maxS none l)) (by omega) facts.1 1000 0 false (Nat.zero_le _) (by omega)
      rw [show ((0 : Nat) : Int) = (0 : Int) from rfl, List.drop_zero, Bool.false_or, facts.2] at h1
      simp only [h1, Option.bind_some, Sum.elim_inr, decide_true, Bool.not_true, cond_true, cond_false, hl]
      by_cases k0 : k < 0
      · simp only [k0, decide_true, cond_true]
      · by_cases k1 : ((l.length : Nat) : Int) < k
        · simp only [k0, k1, decide_true, decide_false, cond_true, cond_false]
        · obtain ⟨j, rfl⟩ : ∃ j : Nat, k = (j : Int) := ⟨k.toNat, by omega⟩
          have hj : j ≤ l.length := by omega
          have s1 : subO l ((j : Nat) : Int) ((l.length : Nat) : Int) = some (l.drop j) := by rw [sub_le hj (Nat.le_refl _), List.take_of_length_le (by rw [List.length_drop]; exact Nat.le_refl _)]
          have s2 : subO l (0 : Int) ((j : Nat) : Int) = some (l.take j) := sub_zero hj
          have a1 : appO 56 ([] : List VD) (l.drop j) = some (l.drop j) := by rw [app_le (by simp; omega)]; rfl
          have a2 : appO 56 (l.drop j) (l.take j) = some (l.drop j ++ l.take j) := app_le (by simp; omega)
          have hlen : (l.drop j ++ l.take j).length ≤ 60 := by simp; omega
          simp only [k0, k1, decide_false, cond_false, s1, s2, a1, a2, Option.bind_some, vMax_spec 1000 (l.drop j ++ l.take j) (by omega) (by decide) (by omega)]
          have hmem : ∀ x, x ∈ l.drop j ++ l.take j ↔ x ∈ l := fun x => by
            rw [List.mem_append, Or.comm, ← List.mem_append, List.take_append_drop]
          have key : (maxS none (l.drop j ++ l.take j)).isSome = (maxS none l).isSome ∧ cmpV (asV (maxS none (l.drop j ++ l.take j))) (asV (maxS none l)) = 0 := by
            cases hm : maxS none l with
            | none =>
              obtain ⟨-, h2⟩ := maxS_none l none hm
              cases hm2 : maxS none (l.drop j ++ l.take j) with
              | none => exact ⟨rfl, cmpV_refl _⟩
              | some m2 =>
                obtain ⟨g1, g2, -, -⟩ := maxS_some _ none m2 (fun x hx => by cases hx) hm2
                have := h2 m2 ((hmem m2).1 (g2.resolve_left (by simp)))
                rw [this] at g1; cases g1
            | some m =>
              obtain ⟨h1, h2, -, h4⟩ := maxS_some l none m (fun x hx => by cases hx) hm
              have hml := h2.resolve_left (by simp)
              cases hm2 : maxS none (l.drop j ++ l.take j) with
              | none =>
                obtain ⟨-, g2⟩ := maxS_none _ none hm2
                have := g2 m ((hmem m).2 hml)
                rw [this] at h1; cases h1
              | some m2 =>
                obtain ⟨g1, g2, -, g4⟩ := maxS_some _ none m2 (fun x hx => by cases hx) hm2
                refine ⟨rfl, ?_⟩
                show cmpV m2 m = 0
                have e1 := h4 m2 ((hmem m2).1 (g2.resolve_left (by simp))) g1
                have e2 := g4 m ((hmem m).2 hml) h1
                have e3 := cmpV_anti m m2
                omega
          obtain ⟨key1, key2⟩ := key
          have key2' : cmpV (asV (maxS none (l.drop j ++ l.take j))) ((asV (maxS none l)).1, ((asV (maxS none l)).2.1, ((asV (maxS none l)).2.2.1, ((asV (maxS none l)).2.2.2.1, (asV (maxS none l)).2.2.2.2)))) = 0 := key2
          simp only [key1, decide_true, cond_true, vCompare_spec 1000 _ _ (show 100 ≤ 1000 by decide), Option.bind_some, key2']
end Go.Proofs.YtgihkohggalefabDoor.AM
