/- Layer 8: the document's answer: majors, and whether a version fits. -/
import Derived.Test.YtgihkohggalefabGreatDoorMpL
namespace Go.Proofs.YtgihkohggalefabGreatDoor.AM
open Go.RowKit
set_option linter.unusedVariables false
set_option linter.unusedSimpArgs false
/-! digits that begin with no zero -/
theorem dec_head : ∀ n : Nat, 0 < n → (Lib.decDigits n).head? ≠ some 48 := by
  intro n
  induction n using Nat.strongRecOn with
  | _ n ih =>
    intro h0
    rw [Lib.decDigits]
    split
    · rename_i h
      intro h2
      have h3 : UInt8.ofNat (48 + n) = 48 := by simpa using h2
      have h4 := congrArg UInt8.toNat h3
      rw [UInt8.toNat_ofNat'] at h4
      have e48 : (48 : UInt8).toNat = 48 := rfl
      rw [e48] at h4; omega
    · rename_i h
      have := ih (n / 10) (by omega) (by omega)
      have hne := (dec_dig (n / 10)).2
      generalize Lib.decDigits (n / 10) = l at this hne
      cases l with
      | nil => exact absurd rfl hne
      | cons b r => simpa using this
theorem dec_val : ∀ (k : Nat) (d : List UInt8), d.length = k → d.all isDig = true → d ≠ [] → d.head? ≠ some 48 → Lib.decDigits (valS 0 d).toNat = d
  | 0, d, hk, _, hne, _ => absurd (List.eq_nil_of_length_eq_zero hk) hne
  | k + 1, d, hk, hd, hne, h48 => by
    obtain ⟨l, c, rfl⟩ : ∃ l c, d = l ++ [c] := ⟨d.dropLast, d.getLast hne, (List.dropLast_concat_getLast hne).symm⟩
    have hl : l.length = k := by simpa using hk
    rw [List.all_append, Bool.and_eq_true] at hd
    have hc : isDig c = true := by simpa using hd.2
    have hc2 : 48 ≤ c.toNat ∧ c.toNat ≤ 57 := by unfold isDig at hc; simpa using hc
    have hb := valS_bound l 0 (by decide) hd.1
    rw [valS_app]
    have e1 : valS (valS 0 l) [c] = 10 * valS 0 l + c.toNat - 48 := by simp only [valS]
    rw [e1, Lib.decDigits]
    have uc : UInt8.ofNat (48 + (c.toNat - 48)) = c := by
      have : 48 + (c.toNat - 48) = c.toNat := by omega
      rw [this]; simp
    by_cases h0 : l = []
    · subst h0
      have : (10 * valS 0 ([] : List UInt8) + (c.toNat : Int) - 48).toNat = c.toNat - 48 := by show (10 * (0 : Int) + (c.toNat : Int) - 48).toNat = _; omega
      rw [this, dif_pos (by omega), uc]; rfl
    · have hh : l.head? ≠ some 48 := by
        cases l with
        | nil => exact absurd rfl h0
        | cons b r => simpa using h48
      have ih := dec_val k l hl hd.1 h0 hh
      have hpos : valS 0 l ≠ 0 := fun h => by
        rw [h] at ih
        have e0 : Lib.decDigits (0 : Int).toNat = [48] := Lib.decDigits_one (by decide)
        rw [e0] at ih
        rw [← ih] at hh; exact hh rfl
      have q1 : (10 * valS 0 l + (c.toNat : Int) - 48).toNat / 10 = (valS 0 l).toNat := by omega
      have q2 : (10 * valS 0 l + (c.toNat : Int) - 48).toNat % 10 = c.toNat - 48 := by omega
      rw [dif_neg (by omega), q1, q2, ih, uc]
def num8 (w : List UInt8) : Int := if 10 < w.length then 0 else if (w.drop 1).head? = some 48 then 0 else if valS 0 (w.drop 1) < 2 then 0 else valS 0 (w.drop 1)
theorem num8_fine {w : List UInt8} (h : tellsS w = true) : num8 w = if fine (w.drop 1) then numOf (w.drop 1) else 0 := by
  have hl : w.length = (w.drop 1).length + 1 := by
    cases w with
    | nil => exact absurd h (by decide)
    | cons b r => simp
  unfold tellsS at h
  simp only [Bool.and_eq_true] at h
  have hd := h.2
  unfold isNumS at hd
  simp only [Bool.and_eq_true, Bool.not_eq_true', decide_eq_false_iff_not] at hd
  unfold num8
  rw [hl]
  generalize w.drop 1 = d at hd
  cases hf : fine d with
  | true =>
    obtain ⟨n0, n1, ne⟩ := fine_some hf
    have li := itoa_len (n := numOf d) (by omega)
    have ed : Lib.decDigits (numOf d).toNat = d := by rw [← itoa_dec (by omega)]; exact ne.symm
    have hh := dec_head (numOf d).toNat (by omega)
    have hv := valS_dec (numOf d).toNat
    rw [ed] at hh hv
    rw [← ne] at li
    rw [if_neg (by omega), if_neg hh, hv, if_neg (by omega)]
    show (((numOf d).toNat : Nat) : Int) = numOf d
    omega
  | false =>
    by_cases c1 : 10 < d.length + 1
    · rw [if_pos c1]; rfl
    by_cases c2 : d.head? = some 48
    · rw [if_neg c1, if_pos c2]; rfl
    by_cases c3 : valS 0 d < 2
    · rw [if_neg c1, if_neg c2, if_pos c3]; rfl
    · exfalso
      have hb := valS_bound d 0 (by decide) hd.1
      have hp : (10 : Int) ^ d.length ≤ 10 ^ 9 := by
        have := Nat.pow_le_pow_right (n := 10) (by decide) (show d.length ≤ 9 by omega)
        have e2 : ((10 ^ d.length : Nat) : Int) = (10 : Int) ^ d.length := by simp
        have e3 : ((10 ^ 9 : Nat) : Int) = (10 : Int) ^ 9 := by simp
        rw [← e2, ← e3]; omega
      have e9 : (10 : Int) ^ 9 = 1000000000 := by decide
      rw [e9] at hp
      have ed := dec_val d.length d rfl hd.1 hd.2 c2
      have ei : Lib.itoa (valS 0 d) = d := by rw [itoa_dec hb.1]; exact ed
      have := (fine_itoa (n := valS 0 d) (by omega) (by omega)).1
      rw [ei, hf] at this; cases this
/-! the document's functions -/
theorem r8Tells_loop (n : Nat) (s : List UInt8) (hL : s.length ≤ 1000000) : ∀ m j : Nat, j ≤ s.length + 1 → s.length + 1 - j < m → r8Tells_loop0 n m s (j : Int) = some (if (s.drop j).all isDig = true then Sum.inr ((s, ()), ((), ())) else Sum.inl ((false, ()), ((), ())))
  | 0, j, _, h => absurd h (Nat.not_lt_zero _)
  | m + 1, j, hj, h => by
    rw [r8Tells_loop0_succ]
    unfold r8Tells_l0
    by_cases c0 : j < s.length
    · have c0' : ((j : Nat) : Int) < ((s.length : Nat) : Int) := by omega
      have ih := r8Tells_loop n s hL m (j + 1) (by omega) (by omega)
      have hd : s.drop j = s[j] :: s.drop (j + 1) := (List.drop_eq_getElem_cons c0)
      have hi : isDig s[j] = (!decide (((s[j].toNat : Nat) : Int) < 48) && !decide ((57 : Int) < ((s[j].toNat : Nat) : Int))) := by
        unfold isDig
        rw [← decide_not, ← decide_not]
        congr 1 <;> exact decide_eq_decide.2 (by omega)
      simp only [c0', decide_true, cond_true, sAt_lt c0, Option.bind_some, letO, wrap_succ (show j < 4611686018427387904 by omega), ih, hd, List.all_cons, hi]
      cases decide (((s[j].toNat : Nat) : Int) < 48) <;> cases decide ((57 : Int) < ((s[j].toNat : Nat) : Int)) <;> simp
    · have c0' : ¬ ((j : Nat) : Int) < ((s.length : Nat) : Int) := by omega
      have : s.drop j = [] := List.drop_eq_nil_of_le (by omega)
      simp [c0', this]
theorem r8Tells_spec (n : Nat) (s : List UInt8) (hL : s.length ≤ 1000000) (hn : s.length + 1 < n) : r8Tells_t n s = some (tellsS s) := by
  unfold r8Tells_t tellsS isNumS
  have := r8Tells_loop n s hL n 1 (by omega) (by omega)
  rw [show ((1 : Nat) : Int) = (1 : Int) from rfl] at this
  rw [this]
  cases s with
  | nil => rfl
  | cons b r =>
    simp only [List.drop_succ_cons, List.drop_zero, List.head?_cons, Option.some.injEq]
    have h0 : sAt (b :: r) (0 : Int) = some ((b.toNat : Nat) : Int) := sAt_lt (s := b :: r) (j := 0) (by simp)
    have h1 : decide (((b.toNat : Nat) : Int) = (118 : Int)) = decide (b = 118) := decide_eq_decide.2 (by
      constructor
      · intro h; exact UInt8.toNat_inj.1 (by have e : (118 : UInt8).toNat = 118 := rfl; rw [e]; omega)
      · rintro rfl; rfl)
    have h2 : decide ((1 : Int) < (((b :: r).length : Nat) : Int)) = !decide (r = []) := by
      rw [← decide_not]
      refine decide_eq_decide.2 ?_
      cases r with
      | nil => simp
      | cons x y => simp; omega
    cases hr : r.all isDig with
    | true =>
      simp only [if_true, Option.bind_some, Sum.elim_inr, h2, h0, h1, Bool.true_and]
      cases decide (r = []) <;> simp
    | false => simp
theorem r8Number_loop (n : Nat) (s : List UInt8) (hL : s.length ≤ 10) (hd : (s.drop 1).all isDig = true) : ∀ (m j : Nat) (a : Int), 1 ≤ j → j ≤ s.length → s.length - j < m → 0 ≤ a → a < 10 ^ j → r8Number_loop0 n m s a (j : Int) = some ((valS a (s.drop j), ()), ((), ()))
  | 0, j, a, _, _, h, _, _ => absurd h (Nat.not_lt_zero _)
  | m + 1, j, a, hj1, hj, h, ha, hb => by
    rw [r8Number_loop0_succ]
    unfold r8Number_l0
    by_cases c0 : j < s.length
    · have c0' : ((j : Nat) : Int) < ((s.length : Nat) : Int) := by omega
      have hp : (10 : Int) ^ j ≤ 10 ^ 10 := by
        have := Nat.pow_le_pow_right (n := 10) (by decide) (show j ≤ 10 by omega)
        have e2 : ((10 ^ j : Nat) : Int) = (10 : Int) ^ j := by simp
        have e3 : ((10 ^ 10 : Nat) : Int) = (10 : Int) ^ 10 := by simp
        rw [← e2, ← e3]; omega
      have e9 : (10 : Int) ^ 10 = 10000000000 := by decide
      rw [e9] at hp
      have hdr : s.drop j = s[j] :: s.drop (j + 1) := (List.drop_eq_getElem_cons c0)
      have hm : s[j] ∈ s.drop 1 := by
        have e : s.drop 1 = s.drop 1 := rfl
        have : (s.drop 1)[j - 1]'(by simp; omega) = s[j] := by simp; congr 1; omega
        rw [← this]; exact List.getElem_mem _
      have hc := List.all_eq_true.1 hd _ hm
      have hc2 : 48 ≤ s[j].toNat ∧ s[j].toNat ≤ 57 := by unfold isDig at hc; simpa using hc
      have e10 : (10 : Int) ^ (j + 1) = 10 * 10 ^ j := by rw [Int.pow_succ]; omega
      have ih := r8Number_loop n s hL hd m (j + 1) (10 * a + (s[j].toNat : Int) - 48) (by omega) (by omega) (by omega) (by omega) (by rw [e10]; omega)
      simp only [c0', decide_true, cond_true, sAt_lt c0, Option.bind_some, letO, wrap_succ (show j < 4611686018427387904 by omega)]
      rw [wrap64 (n := 10 * a) (by omega) (by omega), wrap64 (n := ((s[j].toNat : Nat) : Int)) (by omega) (by omega), wrap64 (n := 10 * a + ((s[j].toNat : Nat) : Int)) (by omega) (by omega), wrap64 (n := 10 * a + ((s[j].toNat : Nat) : Int) - 48) (by omega) (by omega), ih, hdr]
      rfl
    · have c0' : ¬ ((j : Nat) : Int) < ((s.length : Nat) : Int) := by omega
      have : s.drop j = [] := List.drop_eq_nil_of_le (by omega)
      simp [c0', this, valS]
theorem r8Number_spec (n : Nat) (s : List UInt8) (hn : 100 ≤ n) (ht : tellsS s = true) : r8Number_t n s = some (num8 s) := by
  have hd : (s.drop 1).all isDig = true ∧ s.drop 1 ≠ [] := by
    unfold tellsS isNumS at ht
    simp only [Bool.and_eq_true, Bool.not_eq_true', decide_eq_false_iff_not] at ht
    exact ht.2
  have h2 : 2 ≤ s.length := by
    cases s with
    | nil => exact absurd rfl hd.2
    | cons b r => cases r with
      | nil => exact absurd rfl hd.2
      | cons c t => simp
  unfold r8Number_t num8
  by_cases c1 : 10 < s.length
  · have c1' : (10 : Int) < ((s.length : Nat) : Int) := by omega
    simp [c1, c1']
  · have c1' : ¬ (10 : Int) < ((s.length : Nat) : Int) := by omega
    have h0 : sAt s (1 : Int) = some ((s[1].toNat : Nat) : Int) := sAt_lt (s := s) (j := 1) (by omega)
    have e1 : (s.drop 1).head? = some s[1] := by rw [List.head?_drop]; exact List.getElem?_eq_getElem _
    have h1 : decide (((s[1].toNat : Nat) : Int) = (48 : Int)) = decide (s[1] = 48) := decide_eq_decide.2 (by
      constructor
      · intro h; exact UInt8.toNat_inj.1 (by have e : (48 : UInt8).toNat = 48 := rfl; rw [e]; omega)
      · intro h; rw [h]; rfl)
    have hlp := r8Number_loop n s (by omega) hd.1 n 1 0 (by omega) (by omega) (by omega) (by omega) (by decide)
    rw [show ((1 : Nat) : Int) = (1 : Int) from rfl] at hlp
    simp only [c1, c1', decide_false, cond_false, if_false, h0, h1, hlp, Option.bind_some, e1, Option.some.injEq]
    generalize valS 0 (s.drop 1) = V
    by_cases c2 : s[1] = 48
    · simp [c2]
    · by_cases c3 : V < 2
      · simp [c2, c3]
      · simp [c2, c3]
theorem r8Check_end (n m : Nat) (l : List (List UInt8)) : r8Check_loop0 n (m + 1) l ((l.length : Nat) : Int) = some (Sum.inr ((), ((), ()))) := by
  rw [r8Check_loop0_succ]; unfold r8Check_l0; simp
theorem r8Check_loop (n : Nat) (f : List (List UInt8)) (x : List UInt8) (hl : f.length ≤ 1000000) (hw : ∀ w ∈ f ++ [x], w.length ≤ 1000000 ∧ w.length + 1 < n) (hn : 100 ≤ n) : ∀ m j : Nat, j ≤ f.length → f.length + 1 - j < m →
    r8Check_loop0 n m (f ++ [x]) (j : Int) = some (if ((f.drop j).all (fun w => !tellsS w) && (!tellsS x || (!decide (f = []) && !decide (num8 x = 0)))) = true then Sum.inr ((), ((), ())) else Sum.inl ((false, ()), ((), ())))
  | 0, j, _, h => absurd h (Nat.not_lt_zero _)
  | m + 1, j, hj, h => by
    rw [r8Check_loop0_succ]
    unfold r8Check_l0
    have hlen : (f ++ [x]).length = f.length + 1 := by simp
    have c0 : ((j : Nat) : Int) < (((f ++ [x]).length : Nat) : Int) := by rw [hlen]; omega
    have w1 : IntKind.wrap .i64 ((((f ++ [x]).length : Nat) : Int) - 1) = ((f.length : Nat) : Int) := by rw [hlen, wrap64 (by omega) (by omega)]; omega
    have hx : idxL (f ++ [x]) ((j : Nat) : Int) = some ((f ++ [x])[j]'(by rw [hlen]; omega)) := idx_lt _
    have hm := hw _ (List.getElem_mem (show j < (f ++ [x]).length by rw [hlen]; omega))
    simp only [c0, decide_true, cond_true, hx, Option.bind_some, r8Tells_spec n _ hm.1 hm.2, letO, w1, wrap_succ (show j < 4611686018427387904 by omega)]
    by_cases c1 : j < f.length
    · have ih := r8Check_loop n f x hl hw hn m (j + 1) (by omega) (by omega)
      have hd : f.drop j = f[j] :: f.drop (j + 1) := (List.drop_eq_getElem_cons c1)
      have he : (f ++ [x])[j]'(by rw [hlen]; omega) = f[j] := List.getElem_append_left c1
      have c1' : ((j : Nat) : Int) < ((f.length : Nat) : Int) := by omega
      rw [he, ih, hd]
      simp only [c1', decide_true, cond_true, List.all_cons]
      rcases Bool.eq_false_or_eq_true (tellsS f[j]) with hb | hb
      · simp only [hb, cond_true, Bool.not_true, Bool.false_and, Bool.false_eq_true, if_false]
      · simp only [hb, cond_false, Bool.not_false, Bool.true_and]
    · have hj2 : j = f.length := by omega
      subst hj2
      have he : (f ++ [x])[f.length]'(by rw [hlen]; omega) = x := by simp
      obtain ⟨k, rfl⟩ : ∃ k, m = k + 1 := ⟨m - 1, by omega⟩
      have hend := r8Check_end n k (f ++ [x])
      rw [hlen] at hend
      rw [he, hend]
      have d0 : decide (((f.length : Nat) : Int) = 0) = decide (f = []) := decide_eq_decide.2 (by
        constructor
        · intro h; exact List.eq_nil_of_length_eq_zero (by omega)
        · rintro rfl; rfl)
      simp only [Int.lt_irrefl, decide_false, cond_false, d0, List.drop_length, List.all_nil, Bool.true_and]
      cases ht : tellsS x with
      | false => rfl
      | true =>
        rw [r8Number_spec n x hn ht]
        simp only [cond_true, Option.bind_some, Bool.not_true, Bool.false_or]
        cases decide (f = []) <;> cases decide (num8 x = 0) <;> rfl
/-- the parts, as the document goes through them -/
theorem parts_two (s : List UInt8) (hp : pathS s = true) : ∃ f, spl 47 [] s = f ++ [lastS s] ∧ f.all (fun w => !tellsS w) = !anyS (baseS s) ∧ decide (f = []) = decide (baseS s = []) := by
  have key : ∀ b, anyS b = !((spl 47 [] b).all fun x => !tellsS x) := fun b => by unfold anyS; rw [List.any_eq_not_all_not]
  rcases parts_last s with ⟨_, a, b, c⟩ | ⟨he, hs, hc⟩
  · refine ⟨[], by rw [b, c]; rfl, ?_, by rw [a]; rfl⟩
    rw [a]; decide
  · refine ⟨spl 47 [] (baseS s), hc, ?_, ?_⟩
    · rw [key, Bool.not_not]
    · have h1 := spl_ne 47 (baseS s) []
      have h2 : baseS s ≠ [] := fun h => by
        have := (path_parts hp).2
        rw [hc, h] at this
        simp [spl] at this
        exact absurd this.1 (by decide)
      simp [h1, h2]
theorem r8Check_spec (n : Nat) (s : List UInt8) (hL : s.length ≤ 1000) (hn : 2000 ≤ n) : r8Check_t n s = some (okS s) := by
  unfold r8Check_t okS
  rw [rPath5_spec n s (by omega) (by omega)]
  cases hp : pathS s with
  | false => rfl
  | true =>
    obtain ⟨f, e1, e2, e3⟩ := parts_two s hp
    have hlen := spl_len 47 s []
    have hw : ∀ w ∈ spl 47 [] s, w.length ≤ s.length := fun w hm => by have := spl_mem 47 s [] w hm; simpa using this
    rw [show (47 : Int) = (((47 : UInt8).toNat : Nat) : Int) from rfl, rSplit5_P n s 47 (by omega) (by omega)]
    rw [e1] at hlen hw ⊢
    have hlen2 : f.length + 1 ≤ s.length + 1 := by simpa using hlen.2
    have hlp := r8Check_loop n f (lastS s) (by omega) (fun w hm => ⟨by have := hw w hm; omega, by have := hw w hm; omega⟩) (by omega) n 0 (Nat.zero_le _) (by omega)
    rw [show ((0 : Nat) : Int) = (0 : Int) from rfl] at hlp
    simp only [Option.bind_some, Bool.not_true, cond_false, hlp, List.drop_zero, e2, e3, Bool.true_and]
    cases ht : tellsS (lastS s) with
    | false => cases anyS (baseS s) <;> rfl
    | true =>
      rw [num8_fine ht]
      generalize (lastS s).drop 1 = d
      cases hf : fine d with
      | false => cases anyS (baseS s) <;> simp
      | true =>
        have n0 : ¬ numOf d = 0 := by have := (fine_some hf).1; omega
        cases anyS (baseS s) <;> cases decide (baseS s = []) <;> simp [n0]
theorem r8Base_loop (n : Nat) (s : List UInt8) (hL : s.length ≤ 1000000) : ∀ m j : Nat, j ≤ s.length → j < m → r8Base_loop0 n m s ((j : Int) - 1) = some (if lastR 47 (s.take j).reverse = -1 then Sum.inr ((), ((), ())) else Sum.inl ((s.take (lastR 47 (s.take j).reverse).toNat, ()), ((), ())))
  | 0, j, _, h => absurd h (Nat.not_lt_zero _)
  | m + 1, 0, _, _ => by
    rw [r8Base_loop0_succ]
    unfold r8Base_l0
    simp [lastR]
  | m + 1, j + 1, hj, h => by
    rw [r8Base_loop0_succ]
    unfold r8Base_l0
    have e1 : ((j + 1 : Nat) : Int) - 1 = ((j : Nat) : Int) := by omega
    have ih := r8Base_loop n s hL m j (by omega) (by omega)
    have w1 : IntKind.wrap .i64 (((j : Nat) : Int) - 1) = ((j : Nat) : Int) - 1 := wrap64 (by omega) (by omega)
    have c0 : (0 : Int) ≤ ((j : Nat) : Int) := by omega
    have d1 : decide (((s[j].toNat : Nat) : Int) = (47 : Int)) = decide (s[j] = 47) := decide_eq_decide.2 (by
      constructor
      · intro h; exact UInt8.toNat_inj.1 (by have e : (47 : UInt8).toNat = 47 := rfl; rw [e]; omega)
      · intro h; rw [h]; rfl)
    rw [e1]
    simp only [c0, decide_true, cond_true, sAt_lt (show j < s.length by omega), Option.bind_some, d1, letO, w1, ih, take_succ_rev s j (by omega), lastR, sub_zero (show j ≤ s.length by omega)]
    by_cases h0 : s[j] = 47
    · have l1 : (s.take j).reverse.length = j := by simp; omega
      simp only [h0, decide_true, cond_true, if_true, l1]
      rw [if_neg (by omega), Int.toNat_natCast]
    · simp [h0]
theorem r8Base_spec (n : Nat) (s : List UInt8) (hL : s.length ≤ 1000000) (hn : s.length < n) : r8Base_t n s = some (baseS s) := by
  unfold r8Base_t baseS lastC
  have := r8Base_loop n s hL n s.length (Nat.le_refl _) hn
  have w1 : IntKind.wrap .i64 (((s.length : Nat) : Int) - 1) = ((s.length : Nat) : Int) - 1 := wrap64 (by omega) (by omega)
  simp only [letO, w1, this, List.take_length]
  by_cases h : lastR 47 s.reverse = -1
  · simp [h]
  · simp [h]
theorem r8Major_spec (n : Nat) (s : List UInt8) (hL : s.length ≤ 1000) (hn : 2000 ≤ n) : r8Major_t n s = some (majorS s) := by
  unfold r8Major_t majorS
  rw [r8Check_spec n s hL hn]
  cases ho : okS s with
  | false => rfl
  | true =>
    obtain ⟨f, e1, _, _⟩ := parts_two s (ok_path ho).1
    have hll := last_len s
    have hlen := spl_len 47 s []
    rw [e1] at hlen
    have hlen2 : f.length + 1 ≤ s.length + 1 := by simpa using hlen.2
    rw [show (47 : Int) = (((47 : UInt8).toNat : Nat) : Int) from rfl, rSplit5_P n s 47 (by omega) (by omega), e1]
    have hl2 : (f ++ [lastS s]).length = f.length + 1 := by simp
    have w1 : IntKind.wrap .i64 ((((f ++ [lastS s]).length : Nat) : Int) - 1) = ((f.length : Nat) : Int) := by rw [hl2, wrap64 (by omega) (by omega)]; omega
    have hx : idxL (f ++ [lastS s]) ((f.length : Nat) : Int) = some (lastS s) := by
      have := idx_lt (l := f ++ [lastS s]) (j := f.length) (by rw [hl2]; omega)
      rw [this]; simp
    simp only [Option.bind_some, Bool.not_true, cond_false, letO, w1, hx, r8Tells_spec n (lastS s) (by omega) (by omega), if_true]
    cases ht : tellsS (lastS s) with
    | false => rfl
    | true =>
      have hf := ((ok_path ho).2.2 ht).1
      simp only [Bool.not_true, cond_false, r8Base_spec n s (by omega) (by omega), r8Number_spec n (lastS s) (by omega) ht, num8_fine ht, hf, if_true, Option.bind_some]
theorem r8Fits_spec (n : Nat) (s : List UInt8) (v : VD) (hL : s.length ≤ 1000) (hn : 2000 ≤ n) : r8Fits_t n s v = some (fitsS s v) := by
  unfold r8Fits_t fitsS
  rw [r8Major_spec n s hL hn, rCheck_spec n v (by omega)]
  simp only [Option.bind_some, major_ok]
  cases okS s with
  | false => rfl
  | true => cases hc : checkS v with
    | false => rfl
    | true =>
      have h1 := (checkS_some hc).1
      simp only [Bool.not_true, cond_false, Bool.true_and]
      by_cases c0 : (majorS s).2.1 = 0
      · rw [c0]
        by_cases c1 : v.1 = 0
        · simp [c1]
        · have : decide (v.1 = 1) = decide (v.1 < 2) := decide_eq_decide.2 (by omega)
          simp [c1, this]
      · by_cases c1 : v.1 = (majorS s).2.1
        · simp [c0, c1]
        · simp [c0, c1]
theorem mtells_true (p : List UInt8) (v : VD) : mtells_t 2000 p v = some true := by
  have hl := mlive_true 2000 (by decide)
  unfold mtells_t
  by_cases c1 : (200 : Int) < ((p.length : Nat) : Int)
  · simp only [c1, decide_true, cond_true, hl, Option.bind_some]
  by_cases c2 : (200 : Int) < ((v.2.2.2.1.length : Nat) : Int)
  · simp only [c1, c2, decide_true, decide_false, cond_true, cond_false, hl, Option.bind_some]
  by_cases c3 : (200 : Int) < ((v.2.2.2.2.length : Nat) : Int)
  · simp only [c1, c2, c3, decide_true, decide_false, cond_true, cond_false, hl, Option.bind_some]
  simp only [c1, c2, c3, decide_false, cond_false, mMajor_spec 2000 p (by omega) (by omega), r8Major_spec 2000 p (by omega) (by decide), mCheck_spec 2000 p (by omega) (by omega), r8Check_spec 2000 p (by omega) (by decide), mFits_spec 2000 p v (by omega) (by omega) (by decide), r8Fits_spec 2000 p v (by omega) (by decide), hl, Option.bind_some, decide_true, cond_true]
end Go.Proofs.YtgihkohggalefabGreatDoor.AM
