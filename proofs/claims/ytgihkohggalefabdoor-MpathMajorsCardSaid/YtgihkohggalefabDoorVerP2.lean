/- Layer 7: what the program's functions come to. -/
import Derived.Test.YtgihkohggalefabDoorVerG2
namespace Go.Proofs.YtgihkohggalefabDoor.AM
open Go.RowKit
set_option linter.unusedVariables false
set_option linter.unusedSimpArgs false
theorem cat_ok {s t : List UInt8} (h : s.length + t.length ≤ 9223372036854775807) : catO s t = some (s ++ t) := if_pos h
/-! numbers in order -/
theorem cmpInt_spec (n : Nat) (a b : Int) : cmpInt_t n a b = some (cmpI a b) := by
  unfold cmpInt_t isNaN_t cmpI
  simp only [decide_true, Bool.not_true, Option.bind_some, cond_false]
  by_cases h1 : a < b
  · simp [h1]
  · by_cases h2 : b < a
    · simp [h1, h2]
    · simp [h1, h2]
def firstNZ : List Int → Int
  | [] => 0
  | x :: l => or2 x (firstNZ l)
theorem cmpOr_loop (n : Nat) (l : List Int) (hL : l.length ≤ 1000000) : ∀ m j : Nat, j ≤ l.length → l.length - j < m → cmpOr_loop0 n m 0 l ((l.length : Nat) : Int) (j : Int) = some (if firstNZ (l.drop j) = 0 then Sum.inr (((0 : Int), ()), ((), ())) else Sum.inl ((firstNZ (l.drop j), ()), ((), ())))
  | 0, j, _, h => absurd h (Nat.not_lt_zero _)
  | m + 1, j, hj, h => by
    rw [cmpOr_loop0_succ]
    unfold cmpOr_l0
    by_cases c0 : j < l.length
    · have c0' : ((j : Nat) : Int) < ((l.length : Nat) : Int) := by omega
      have ih := cmpOr_loop n l hL m (j + 1) (by omega) (by omega)
      have hd : l.drop j = l[j] :: l.drop (j + 1) := (List.drop_eq_getElem_cons c0)
      simp only [c0', decide_true, cond_true, idx_lt c0, Option.bind_some, letO, wrap_succ (show j < 4611686018427387904 by omega), ih, hd, firstNZ, or2]
      by_cases h0 : l[j] = 0
      · simp [h0]
      · simp [h0]
    · have c0' : ¬ ((j : Nat) : Int) < ((l.length : Nat) : Int) := by omega
      have : l.drop j = [] := List.drop_eq_nil_of_le (by omega)
      simp [c0', this, firstNZ]
theorem cmpOr_spec (n : Nat) (l : List Int) (hL : l.length ≤ 1000000) (hn : l.length < n) : cmpOr_t n l = some (firstNZ l) := by
  unfold cmpOr_t
  have := cmpOr_loop n l hL n 0 (Nat.zero_le _) (by omega)
  rw [show ((0 : Nat) : Int) = (0 : Int) from rfl] at this
  rw [this, List.drop_zero]
  by_cases h : firstNZ l = 0
  · simp [h]
  · simp [h]
/-! whether a version may be -/
theorem vCheck_step (n m : Nat) (a1 a2 a3 i i' a5 a6 a7 x : Int) (a8 a9 : List UInt8) (hx : idxL ([a1, a2, a3] : List Int) i = some x) (hi : i < 3) (hw : IntKind.wrap .i64 (i + 1) = i') :
    vCheck_loop0 n (m + 1) a1 a2 a3 i a5 a6 a7 a8 a9 = if numS x = true then vCheck_loop0 n m a1 a2 a3 i' a5 a6 a7 a8 a9 else some (Sum.inl ((false, ()), ((), ()))) := by
  rw [vCheck_loop0_succ]
  unfold vCheck_l0 numS
  simp only [hi, decide_true, cond_true, hx, Option.bind_some, letO, hw]
  by_cases h1 : x < 0
  · have : ¬ (0 : Int) ≤ x := by omega
    simp [h1, this]
  · have h1' : (0 : Int) ≤ x := by omega
    by_cases h2 : 999999999 < x
    · have : ¬ x ≤ 999999999 := by omega
      simp [h1, h2, this]
    · have : x ≤ 999999999 := by omega
      simp [h1, h2, h1', this]
theorem vCheck_spec (n : Nat) (v : VD) (hn : 4 ≤ n) : vCheck_t n v = some (checkS v) := by
  obtain ⟨k, rfl⟩ : ∃ k, n = k + 1 + 1 + 1 + 1 := ⟨n - 4, by omega⟩
  obtain ⟨a, b, c, p, q⟩ := v
  unfold vCheck_t
  rw [vCheck_step _ _ a b c 0 1 _ _ _ a _ _ rfl (by decide) rfl, vCheck_step _ _ a b c 1 2 _ _ _ b _ _ rfl (by decide) rfl, vCheck_step _ _ a b c 2 3 _ _ _ c _ _ rfl (by decide) rfl, vCheck_loop0_succ]
  unfold vCheck_l0 checkS tailPre_t tailPart_t
  dsimp only
  cases numS a with
  | false => rfl
  | true => cases numS b with
    | false => rfl
    | true => cases numS c with
      | false => rfl
      | true =>
        simp only [if_true, Bool.true_and, show ¬ (3 : Int) < 3 from by decide, decide_false, cond_false, Option.bind_some, Sum.elim_inr]
        cases tailS isPreS p <;> cases tailS isPartS q <;> rfl
theorem tailT_len (c : UInt8) (s : List UInt8) : (tailT c s).length ≤ s.length + 1 := by unfold tailT; split <;> simp
theorem itoa_len {n : Int} (h : 0 ≤ n ∧ n ≤ 999999999) : (Lib.itoa n).length ≤ 9 := by
  rw [itoa_dec h.1]; exact dec_len 8 n.toNat (by omega)
theorem itoa_t_ok {n : Int} (h : 0 ≤ n ∧ n ≤ 999999999) : itoa_t n = some (Lib.itoa n) := if_pos ⟨by omega, by omega⟩
theorem vText_spec (n : Nat) (v : VD) (hn : 4 ≤ n) : vText_t n v = some (textS v) := by
  unfold vText_t textS
  rw [vCheck_spec n v hn]
  cases hc : checkS v with
  | false => rfl
  | true =>
    obtain ⟨h1, h2, h3, h4, h5⟩ := checkS_some hc
    have l1 := itoa_len h1
    have l2 := itoa_len h2
    have l3 := itoa_len h3
    have t1 := tail_len h4
    have t2 := tail_len h5
    simp only [Option.bind_some, Bool.not_true, cond_false, itoa_t_ok h1, itoa_t_ok h2, itoa_t_ok h3, if_true]
    unfold rawT tailT
    generalize Lib.itoa v.1 = A at l1
    generalize Lib.itoa v.2.1 = B at l2
    generalize Lib.itoa v.2.2.1 = C at l3
    generalize v.2.2.2.1 = p at t1
    generalize v.2.2.2.2 = q at t2
    rw [cat_ok (by simp; omega)]; simp only [Option.bind_some]
    rw [cat_ok (by simp; omega)]; simp only [Option.bind_some]
    rw [cat_ok (by simp; omega)]; simp only [Option.bind_some]
    rw [cat_ok (by simp; omega)]; simp only [Option.bind_some]
    rw [cat_ok (by simp; omega)]; simp only [Option.bind_some]
    have k1 : catO [45] p = some ([45] ++ p) := cat_ok (by simp; omega)
    have k2 : catO [43] q = some ([43] ++ q) := cat_ok (by simp; omega)
    by_cases hp : p = []
    · by_cases hq : q = []
      · simp [hp, hq]
      · simp only [hp, hq, decide_true, decide_false, Bool.not_true, Bool.not_false, cond_true, cond_false, k2, Option.bind_some]
        rw [cat_ok (by simp; omega)]
        simp
    · by_cases hq : q = []
      · simp only [hp, hq, decide_true, decide_false, Bool.not_true, Bool.not_false, cond_true, cond_false, k1, Option.bind_some]
        rw [cat_ok (by simp; omega)]
        simp
      · simp only [hp, hq, decide_true, decide_false, Bool.not_true, Bool.not_false, cond_true, cond_false, k1, k2, Option.bind_some]
        rw [cat_ok (by simp; omega)]; simp only [Option.bind_some]
        rw [cat_ok (by simp; omega)]
        simp
/-! the version of a text -/
theorem Cut_spec (n : Nat) (c : UInt8) (s : List UInt8) (hs : s.length ≤ 1000000) : ∃ b, Cut_t n s [c] = some (cut1 c s, (cut2 c s, b)) := by
  unfold Cut_t CutI_t index_t cut1 cut2
  simp only [show s.length < 4294967281 from by omega, if_true, Option.bind_some]
  have hge := Lib.index_ge s [c]
  by_cases h1 : Lib.index s [c] = -1
  · simp only [h1, show ¬ (0 : Int) ≤ -1 from by decide, decide_false, cond_false, Option.bind_some, if_true]
    exact ⟨_, rfl⟩
  · obtain ⟨i, hi⟩ : ∃ i : Nat, Lib.index s [c] = (i : Int) := ⟨(Lib.index s [c]).toNat, by omega⟩
    have hlt := index_lt c s i hi
    have n1 : ¬ ((i : Nat) : Int) = -1 := by omega
    have n2 : (0 : Int) ≤ ((i : Nat) : Int) := by omega
    rw [hi]
    have w1 : IntKind.wrap .i64 (((i : Nat) : Int) + ((List.length [c] : Nat) : Int)) = ((i + 1 : Nat) : Int) := wrap_succ (by omega)
    simp only [n1, n2, decide_true, cond_true, if_false, sub_zero (show i ≤ s.length by omega), Option.bind_some, letO, w1, sub_le (show i + 1 ≤ s.length by omega) (Nat.le_refl _), Int.toNat_natCast]
    refine ⟨true, ?_⟩
    have e6 : (s.drop (i + 1)).take (s.length - (i + 1)) = s.drop (i + 1) := List.take_of_length_le (by rw [List.length_drop]; exact Nat.le_refl _)
    rw [e6]
theorem cut1_len (c : UInt8) (s : List UInt8) : (cut1 c s).length ≤ s.length := by
  unfold cut1; split
  · exact Nat.le_refl _
  · rw [List.length_take]; omega
theorem cut2_len (c : UInt8) (s : List UInt8) : (cut2 c s).length ≤ s.length := by
  unfold cut2; split
  · simp
  · rw [List.length_drop]; omega
theorem trimV_len (s : List UInt8) : (trimV s).length ≤ s.length := by
  unfold trimV; split
  · rw [List.length_drop]; omega
  · exact Nat.le_refl _
theorem Trim_spec (n : Nat) (s : List UInt8) (hs : s.length ≤ 1000000) : TrimPrefix_t n s [118] = some (trimV s) := by
  unfold TrimPrefix_t TrimPrefixI_t HasPrefixI_t trimV
  cases s with
  | nil => rfl
  | cons b r =>
    have h1 : ((List.length ([118] : List UInt8) : Nat) : Int) ≤ ((List.length (b :: r) : Nat) : Int) := by simp; omega
    have h2 : subO (b :: r) (0 : Int) ((List.length ([118] : List UInt8) : Nat) : Int) = some [b] := sub_zero (b := 1) (by simp)
    have h3 : subO (b :: r) ((List.length ([118] : List UInt8) : Nat) : Int) ((List.length (b :: r) : Nat) : Int) = some r := by
      have := sub_le (l := b :: r) (a := 1) (b := (b :: r).length) (by simp) (Nat.le_refl _)
      rw [show ((List.length ([118] : List UInt8) : Nat) : Int) = ((1 : Nat) : Int) from rfl, this]
      simp
    simp only [h1, decide_true, cond_true, h2, Option.bind_some, List.head?_cons, Option.some.injEq, List.drop_succ_cons, List.drop_zero]
    by_cases hb : b = 118
    · simp only [hb, decide_true, cond_true, if_true] at h3 ⊢
      rw [h3]; rfl
    · have : ¬ [b] = ([118] : List UInt8) := fun h => hb (by simpa using h)
      simp [this, hb]
theorem vParse_spec (n : Nat) (s : List UInt8) (hs : s.length ≤ 1000000) (hn : 4 ≤ n) : vParse_t n s = some (parseS s) := by
  unfold vParse_t parseS candP
  obtain ⟨b1, e1⟩ := Cut_spec n 43 s hs
  have l1 := cut1_len 43 s
  have l1' := cut2_len 43 s
  obtain ⟨b2, e2⟩ := Cut_spec n 45 (cut1 43 s) (by omega)
  have l2 := cut1_len 45 (cut1 43 s)
  have e3 := Trim_spec n (cut1 45 (cut1 43 s)) (by omega)
  have l3 := trimV_len (cut1 45 (cut1 43 s))
  obtain ⟨b4, e4⟩ := Cut_spec n 46 (trimV (cut1 45 (cut1 43 s))) (by omega)
  have l4 := cut1_len 46 (trimV (cut1 45 (cut1 43 s)))
  have l4' := cut2_len 46 (trimV (cut1 45 (cut1 43 s)))
  obtain ⟨b5, e5⟩ := Cut_spec n 46 (cut2 46 (trimV (cut1 45 (cut1 43 s)))) (by omega)
  have l5 := cut1_len 46 (cut2 46 (trimV (cut1 45 (cut1 43 s))))
  have l5' := cut2_len 46 (cut2 46 (trimV (cut1 45 (cut1 43 s))))
  have m1 : number_t (cut1 46 (trimV (cut1 45 (cut1 43 s)))) = some (atoiV (cut1 46 (trimV (cut1 45 (cut1 43 s))))) := if_pos (by omega)
  have m2 : number_t (cut1 46 (cut2 46 (trimV (cut1 45 (cut1 43 s))))) = some (atoiV (cut1 46 (cut2 46 (trimV (cut1 45 (cut1 43 s)))))) := if_pos (by omega)
  have m3 : number_t (cut2 46 (cut2 46 (trimV (cut1 45 (cut1 43 s))))) = some (atoiV (cut2 46 (cut2 46 (trimV (cut1 45 (cut1 43 s)))))) := if_pos (by omega)
  simp only [e1, Option.bind_some, e2, e3, e4, e5, m1, m2, m3]
  generalize (atoiV (cut1 46 (trimV (cut1 45 (cut1 43 s)))), (atoiV (cut1 46 (cut2 46 (trimV (cut1 45 (cut1 43 s))))), (atoiV (cut2 46 (cut2 46 (trimV (cut1 45 (cut1 43 s))))), (cut2 45 (cut1 43 s), cut2 43 s)))) = v
  rw [vCheck_spec n v hn, vText_spec n v hn]
  cases hc : checkS v with
  | false => simp
  | true =>
    by_cases ht : textS v = s
    · simp [ht]
    · simp [ht]
/-! the order -/
theorem cPart_spec (n : Nat) (a b : List UInt8) (ha : a.length ≤ 1000000) (hb : b.length ≤ 1000000) (hn : a.length < n ∧ b.length < n ∧ 3 ≤ n) : cPart_t n a b = some (cmpW a b) := by
  unfold cPart_t cmpW wkey compare_t
  rw [isNumber_spec n a ha hn.1, isNumber_spec n b hb hn.2.1]
  simp only [Option.bind_some, cmpInt_spec, compareBytes_eq]
  cases isNumS a with
  | false => cases isNumS b with
    | false =>
      simp only [cond_false, Bool.false_eq_true, if_false]
      unfold cmpP cmpI or2
      simp
    | true =>
      simp only [cond_false, cond_true, Bool.false_eq_true, if_false, if_true]
      unfold cmpP cmpI or2
      simp
  | true => cases isNumS b with
    | false =>
      simp only [cond_false, cond_true, Bool.false_eq_true, if_false, if_true]
      unfold cmpP cmpI or2
      simp
    | true =>
      simp only [cond_true, if_true]
      rw [cmpOr_spec n _ (by simp) (by simp; omega)]
      simp only [Option.bind_some, firstNZ]
      unfold cmpP
      have e0 : cmpI (0 : Int) 0 = 0 := by decide
      dsimp only
      rw [e0]
      unfold or2
      simp only [if_true]
      split
      · split <;> simp_all
      · rfl
theorem cmpFunc_loop (n : Nat) (l1 l2 : List (List UInt8)) (h1 : l1.length ≤ 1000000) (h2 : l2.length ≤ 1000000) (hw : ∀ w, w ∈ l1 ∨ w ∈ l2 → w.length ≤ 1000000 ∧ w.length < n) (hn : 3 ≤ n) : ∀ m j : Nat, j ≤ l1.length → j ≤ l2.length → l1.length - j < m →
    ((cmpFunc_loop0 n m l1 l2 l1 ((l1.length : Nat) : Int) (j : Int)).bind fun (o5 : ((Int × (Unit)) × (Unit) × (Unit)) ⊕ (((List (List UInt8)) × ((List (List UInt8)) × (Unit))) × (Unit) × (Unit))) => Sum.elim (fun (q6 : (Int × (Unit)) × (Unit) × (Unit)) => some q6.1.1) (fun (q7 : ((List (List UInt8)) × ((List (List UInt8)) × (Unit))) × (Unit) × (Unit)) => (bif decide (((List.length q7.1.1 : Nat) : Int) < ((List.length q7.1.2.1 : Nat) : Int)) then some (-1 : Int) else some (0 : Int))) o5) = some (cmpL cmpW (l1.drop j) (l2.drop j))
  | 0, j, _, _, h => absurd h (Nat.not_lt_zero _)
  | m + 1, j, hj, hj2, h => by
    rw [cmpFunc_loop0_succ]
    unfold cmpFunc_l0
    by_cases c0 : j < l1.length
    · have c0' : ((j : Nat) : Int) < ((l1.length : Nat) : Int) := by omega
      have hd : l1.drop j = l1[j] :: l1.drop (j + 1) := (List.drop_eq_getElem_cons c0)
      by_cases c1 : j < l2.length
      · have c1' : ¬ ((l2.length : Nat) : Int) ≤ ((j : Nat) : Int) := by omega
        have hd2 : l2.drop j = l2[j] :: l2.drop (j + 1) := (List.drop_eq_getElem_cons c1)
        have ih := cmpFunc_loop n l1 l2 h1 h2 hw hn m (j + 1) (by omega) (by omega) (by omega)
        have k1 := hw l1[j] (Or.inl (List.getElem_mem c0))
        have k2 := hw l2[j] (Or.inr (List.getElem_mem c1))
        have hp := cPart_spec n l1[j] l2[j] k1.1 k2.1 ⟨k1.2, k2.2, hn⟩
        rw [hd, hd2, cmpL]
        simp only [c0', decide_true, cond_true, idx_lt c0, Option.bind_some, c1', decide_false, cond_false, idx_lt c1, hp, letO, wrap_succ (show j < 4611686018427387904 by omega)]
        unfold or2
        by_cases h0 : cmpW l1[j] l2[j] = 0
        · simp only [h0, decide_true, Bool.not_true, cond_false, if_true]
          exact ih
        · simp only [h0, decide_false, Bool.not_false, cond_true, if_false, Option.bind_some, Sum.elim_inl]
      · have c1' : ((l2.length : Nat) : Int) ≤ ((j : Nat) : Int) := by omega
        have hd2 : l2.drop j = [] := List.drop_eq_nil_of_le (by omega)
        rw [hd, hd2, cmpL]
        simp only [c0', decide_true, cond_true, idx_lt c0, Option.bind_some, c1', Sum.elim_inl]
    · have c0' : ¬ ((j : Nat) : Int) < ((l1.length : Nat) : Int) := by omega
      have hd : l1.drop j = [] := List.drop_eq_nil_of_le (by omega)
      simp only [c0', decide_false, cond_false, Option.bind_some, Sum.elim_inr]
      have hje : j = l1.length := by omega
      rw [hd]
      by_cases c1 : j < l2.length
      · have hd2 : l2.drop j = l2[j] :: l2.drop (j + 1) := (List.drop_eq_getElem_cons c1)
        have c2 : ((l1.length : Nat) : Int) < ((l2.length : Nat) : Int) := by omega
        rw [hd2]
        simp only [c2, decide_true, cond_true, cmpL]
      · have hd2 : l2.drop j = [] := List.drop_eq_nil_of_le (by omega)
        have c2 : ¬ ((l1.length : Nat) : Int) < ((l2.length : Nat) : Int) := by omega
        rw [hd2]
        simp only [c2, decide_false, cond_false, cmpL]
theorem cmpFunc_spec (n : Nat) (l1 l2 : List (List UInt8)) (h1 : l1.length ≤ 1000000) (h2 : l2.length ≤ 1000000) (hw : ∀ w, w ∈ l1 ∨ w ∈ l2 → w.length ≤ 1000000 ∧ w.length < n) (hn : 3 ≤ n) (hn2 : l1.length < n) : cmpFunc_t n l1 l2 () = some (cmpL cmpW l1 l2) := by
  have := cmpFunc_loop n l1 l2 h1 h2 hw hn n 0 (Nat.zero_le _) (Nat.zero_le _) (by omega)
  rw [List.drop_zero, List.drop_zero] at this
  exact this
theorem cPre_spec (n : Nat) (a b : List UInt8) (ha : a.length ≤ 100000) (hb : b.length ≤ 100000) (hn : a.length + 3 < n ∧ b.length + 3 < n) : cPre_t n a b = some (cmpPre a b) := by
  unfold cPre_t
  by_cases hab : a = b
  · subst hab
    rw [cmpPre_cmp.refl]
    simp
  · simp only [hab, decide_false, cond_false]
    by_cases h1 : a = []
    · have hb0 : b ≠ [] := fun e => hab (by rw [h1, e])
      simp only [h1, decide_true, cond_true]
      unfold cmpPre cmpP pkey cmpI or2
      simp [hb0]
    · simp only [h1, decide_false, cond_false]
      by_cases h2 : b = []
      · simp only [h2, decide_true, cond_true]
        unfold cmpPre cmpP pkey cmpI or2
        simp [h1]
      · simp only [h2, decide_false, cond_false]
        have s1 : split_t a [46] = some (spl 46 [] a) := if_pos (by omega)
        have s2 : split_t b [46] = some (spl 46 [] b) := if_pos (by omega)
        have k1 := spl_len 46 a []
        have k2 := spl_len 46 b []
        rw [s1, s2]
        simp only [Option.bind_some]
        rw [cmpFunc_spec n _ _ (by omega) (by omega) (fun w hw => by
          rcases hw with hw | hw
          · have := spl_mem 46 a [] w hw; simp at this; omega
          · have := spl_mem 46 b [] w hw; simp at this; omega) (by omega) (by omega)]
        unfold cmpPre pkey
        simp only [h1, h2, if_false]
        unfold cmpP
        have e0 : cmpI (0 : Int) 0 = 0 := by decide
        dsimp only
        rw [e0]
        unfold or2
        simp
theorem vCompare_spec (n : Nat) (a b : VD) (hn : 100 ≤ n) : vCompare_t n a b = some (cmpV a b) := by
  unfold vCompare_t cmpV
  rw [vCheck_spec n a (by omega), vCheck_spec n b (by omega)]
  cases hca : checkS a with
  | false => rfl
  | true => cases hcb : checkS b with
    | false => rfl
    | true =>
      obtain ⟨-, -, -, h4, -⟩ := checkS_some hca
      obtain ⟨-, -, -, k4, -⟩ := checkS_some hcb
      have t1 := tail_len h4
      have t2 := tail_len k4
      simp only [Option.bind_some, Bool.not_true, cond_false, cmpInt_spec]
      rw [cPre_spec n _ _ (by omega) (by omega) ⟨by omega, by omega⟩]
      simp only [Option.bind_some]
      rw [cmpOr_spec n _ (by simp) (by simp; omega)]
      simp only [Option.bind_some, firstNZ, Bool.and_self, if_true]
      have z0 : ∀ x : Int, or2 x 0 = x := fun x => by unfold or2; split <;> simp_all
      rw [z0]
      rfl
/-! bumps -/
theorem num_le {n : Int} (h : 0 ≤ n ∧ n ≤ 999999999) : numS n = true := by unfold numS; simp [h.1, h.2]
theorem check_rel {a b c : Int} (h1 : 0 ≤ a ∧ a ≤ 999999999) (h2 : 0 ≤ b ∧ b ≤ 999999999) (h3 : 0 ≤ c ∧ c ≤ 999999999) : checkS (a, (b, (c, ([], [])))) = true := by
  unfold checkS; simp only [num_le h1, num_le h2, num_le h3, tailS, decide_true, Bool.true_or, Bool.and_self]
theorem cmpPre_nil (p : List UInt8) : cmpPre [] p = if p = [] then 0 else 1 := by
  by_cases h : p = []
  · subst h; rw [if_pos rfl]; exact cmpPre_cmp.refl _
  · unfold cmpPre cmpP pkey cmpI or2; simp [h]
theorem cmpC_rel (a b c : Int) (v : VD) : cmpC (a, (b, (c, []))) (core v) = or2 (cmpI a v.1) (or2 (cmpI b v.2.1) (or2 (cmpI c v.2.2.1) (if v.2.2.2.1 = [] then 0 else 1))) := by
  rw [← cmpPre_nil]; rfl
theorem vBump_spec (n : Nat) (v : VD) (l : Int) (hn : 100 ≤ n) : vBump_t n v l = some (bumpS v l) := by
  unfold vBump_t bumpS
  rw [vCheck_spec n v (by omega)]
  cases hc : checkS v with
  | false => simp
  | true =>
    obtain ⟨h1, h2, h3, h4, h5⟩ := checkS_some hc
    simp only [Option.bind_some, Bool.not_true, cond_false]
    by_cases l1 : l < 1
    · have : ¬ (1 ≤ l) := by omega
      simp [l1, this]
    by_cases l3 : 3 < l
    · have : ¬ (l ≤ 3) := by omega
      simp [l1, l3, this]
    have q1 : 1 ≤ l := by omega
    have q3 : l ≤ 3 := by omega
    simp only [l1, l3, decide_false, cond_false, vCompare_spec n _ v hn]
    have w1 : IntKind.wrap .i64 (v.2.2.1 + 1) = v.2.2.1 + 1 := wrap64 (by omega) (by omega)
    have w2 : IntKind.wrap .i64 (v.2.1 + 1) = v.2.1 + 1 := wrap64 (by omega) (by omega)
    have w3 : IntKind.wrap .i64 (v.1 + 1) = v.1 + 1 := wrap64 (by omega) (by omega)
    simp only [letO, w1, w2, w3]
    have i0 : ∀ x : Int, cmpI x x = 0 := fun x => cmpI_cmp.refl x
    have z : ∀ (x : Int), 0 ≤ x → x ≠ 0 → cmpI 0 x = -1 := fun x hx hne => by unfold cmpI; rw [if_pos (by omega)]
    rcases (show l = 1 ∨ l = 2 ∨ l = 3 by omega) with rfl | rfl | rfl
    · have hv : cmpV (v.1, (v.2.1, (v.2.2.1, ([], [])))) v = if v.2.2.2.1 = [] then 0 else 1 := by
        unfold cmpV; rw [check_rel h1 h2 h3, hc]
        show cmpC (v.1, (v.2.1, (v.2.2.1, []))) (core v) = _
        rw [cmpC_rel, i0, i0, i0]; unfold or2; simp
      simp only [vFloor_t, show ¬ (1 : Int) = 3 by decide, show ¬ (1 : Int) = 2 by decide, decide_false, decide_true, cond_false, cond_true, Option.bind_some, hv]
      by_cases hp : v.2.2.2.1 = []
      · by_cases a1 : v.2.2.1 < 999999999
        · simp [hp, a1]
        · by_cases a2 : v.2.1 < 999999999
          · simp [hp, a1, a2]
          · by_cases a3 : v.1 < 999999999 <;> simp [hp, a1, a2, a3]
      · simp [hp]
    · have hv : cmpV (v.1, (v.2.1, (0, ([], [])))) v = if v.2.2.1 = 0 then (if v.2.2.2.1 = [] then 0 else 1) else -1 := by
        unfold cmpV; rw [check_rel h1 h2 (by omega), hc]
        show cmpC (v.1, (v.2.1, (0, []))) (core v) = _
        rw [cmpC_rel, i0, i0]
        by_cases p0 : v.2.2.1 = 0
        · rw [p0, i0]; unfold or2; simp
        · rw [z _ h3.1 p0]; unfold or2; simp [p0]
      simp only [vFloor_t, show ¬ (2 : Int) = 3 by decide, show ¬ (2 : Int) = 1 by decide, decide_false, decide_true, cond_false, cond_true, Option.bind_some, hv]
      by_cases p0 : v.2.2.1 = 0
      · by_cases hp : v.2.2.2.1 = []
        · by_cases a2 : v.2.1 < 999999999
          · simp [hp, p0, a2]
          · by_cases a3 : v.1 < 999999999 <;> simp [hp, p0, a2, a3]
        · simp [hp, p0]
      · by_cases a2 : v.2.1 < 999999999
        · simp [p0, a2]
        · by_cases a3 : v.1 < 999999999 <;> simp [p0, a2, a3]
    · have hv : cmpV (v.1, (0, (0, ([], [])))) v = if v.2.1 = 0 then (if v.2.2.1 = 0 then (if v.2.2.2.1 = [] then 0 else 1) else -1) else -1 := by
        unfold cmpV; rw [check_rel h1 (by omega) (by omega), hc]
        show cmpC (v.1, (0, (0, []))) (core v) = _
        rw [cmpC_rel, i0]
        by_cases m0 : v.2.1 = 0
        · by_cases p0 : v.2.2.1 = 0
          · rw [p0, m0, i0]; unfold or2; simp
          · rw [z _ h3.1 p0, m0, i0]; unfold or2; simp [p0]
        · rw [z _ h2.1 m0]; unfold or2; simp [m0]
      simp only [vFloor_t, show ¬ (3 : Int) = 1 by decide, show ¬ (3 : Int) = 2 by decide, decide_false, decide_true, cond_false, cond_true, Option.bind_some, hv]
      by_cases m0 : v.2.1 = 0
      · by_cases p0 : v.2.2.1 = 0
        · by_cases hp : v.2.2.2.1 = []
          · by_cases a3 : v.1 < 999999999 <;> simp [hp, p0, m0, a3]
          · simp [hp, p0, m0]
        · by_cases a3 : v.1 < 999999999 <;> simp [p0, m0, a3]
      · by_cases a3 : v.1 < 999999999 <;> simp [m0, a3]
/-! the greatest -/
def asV (b : Option VD) : VD := b.getD v0
theorem vMax_loop (n : Nat) (l : List VD) (hL : l.length ≤ 1000000) (hn : 100 ≤ n) (x5 x6 x7 : Int) (x8 x9 : List UInt8) : ∀ (m j : Nat) (b : Option VD), j ≤ l.length → l.length - j < m →
    vMax_loop0 n m b.isSome l ((l.length : Nat) : Int) (j : Int) x5 x6 x7 x8 x9 (asV b).1 (asV b).2.1 (asV b).2.2.1 (asV b).2.2.2.1 (asV b).2.2.2.2 = some ((((), ((), ((maxS b (l.drop j)).isSome, ()))), (((x5, (x6, (x7, (x8, x9)))), (asV (maxS b (l.drop j)), ())), ())))
  | 0, j, b, _, h => absurd h (Nat.not_lt_zero _)
  | m + 1, j, b, hj, h => by
    rw [vMax_loop0_succ]
    unfold vMax_l0
    by_cases c0 : j < l.length
    · have c0' : ((j : Nat) : Int) < ((l.length : Nat) : Int) := by omega
      have ih := fun b => vMax_loop n l hL hn x5 x6 x7 x8 x9 m (j + 1) b (by omega) (by omega)
      have hd : l.drop j = l[j] :: l.drop (j + 1) := (List.drop_eq_getElem_cons c0)
      simp only [c0', decide_true, cond_true, idx_lt c0, Option.bind_some, letO, wrap_succ (show j < 4611686018427387904 by omega), vCheck_spec n _ (show 4 ≤ n by omega), vCompare_spec n _ _ hn, hd]
      cases b with
      | none =>
        have i1 := ih none
        have i2 := ih (some l[j])
        simp only [Option.isSome_none, Option.isSome_some] at i1 i2
        rw [maxS]
        cases hc : checkS l[j] with
        | false => simp only [cond_false, Bool.false_eq_true, if_false, Option.isSome_none]; exact i1
        | true => simp only [cond_true, Option.isSome_none, Bool.not_false, if_true]; exact i2
      | some b =>
        have i1 := ih (some b)
        have i2 := ih (some l[j])
        simp only [Option.isSome_some] at i1 i2
        rw [maxS]
        have eb : asV (some b) = b := rfl
        cases hc : checkS l[j] with
        | false => simp only [cond_false, Bool.false_and, Bool.false_eq_true, if_false, Option.isSome_some]; exact i1
        | true =>
          simp only [cond_true, Option.isSome_some, Bool.not_true, cond_false, Bool.true_and, eb]
          by_cases hg : 0 < cmpV l[j] b
          · simp only [hg, decide_true, cond_true, if_true]; exact i2
          · simp only [hg, decide_false, cond_false, Bool.false_eq_true, if_false]; exact i1
    · have c0' : ¬ ((j : Nat) : Int) < ((l.length : Nat) : Int) := by omega
      have hd : l.drop j = [] := List.drop_eq_nil_of_le (by omega)
      rw [hd]
      simp only [c0', decide_false, cond_false]
      cases b <;> rfl
theorem vMax_spec (n : Nat) (l : List VD) (hL : l.length ≤ 1000000) (hn : 100 ≤ n) (hn2 : l.length < n) : vMax_t n l = some (asV (maxS none l), (maxS none l).isSome) := by
  unfold vMax_t
  have := vMax_loop n l hL hn 0 0 0 [] [] n 0 none (Nat.zero_le _) (by omega)
  rw [List.drop_zero] at this
  rw [show ((0 : Nat) : Int) = (0 : Int) from rfl] at this
  have e1 : (none : Option VD).isSome = false := rfl
  rw [e1] at this
  show (vMax_loop0 n n false l _ 0 0 0 0 [] [] (asV none).1 (asV none).2.1 (asV none).2.2.1 (asV none).2.2.2.1 (asV none).2.2.2.2).bind _ = _
  rw [this]; rfl
end Go.Proofs.YtgihkohggalefabDoor.AM
