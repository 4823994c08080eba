/- One text of MpP4, GraP3 (mk/pack.py). -/
import Derived.Test.YtgdlfnlakfahcaaGreatDoorGp12
import Derived.Test.YtgdlfnlakfahcaaGreatDoorGp11
/- Layer 8: the document's answer: majors, and whether a version fits. -/
namespace Go.Proofs.YtgdlfnlakfahcaaGreatDoor.AM
open Go.RowKit
set_option linter.unusedVariables false
set_option linter.unusedSimpArgs false
/-! digits that begin with no zero -/
theorem dec_head : ∀ n : Nat, 0 < n → (Lib.decDigits n).head? ≠ some 48 := by
  intro n
  induction n using Nat.strongRecOn with
  | _ n ih =>
    intro h0
    rw [Lib.decDigits]
    split
    · rename_i h
      intro h2
      have h3 : UInt8.ofNat (48 + n) = 48 := by simpa using h2
      have h4 := congrArg UInt8.toNat h3
      rw [UInt8.toNat_ofNat'] at h4
      have e48 : (48 : UInt8).toNat = 48 := rfl
      rw [e48] at h4; omega
    · rename_i h
      have := ih (n / 10) (by omega) (by omega)
      have hne := (dec_dig (n / 10)).2
      generalize Lib.decDigits (n / 10) = l at this hne
      cases l with
      | nil => exact absurd rfl hne
      | cons b r => simpa using this
theorem dec_val : ∀ (k : Nat) (d : List UInt8), d.length = k → d.all isDig = true → d ≠ [] → d.head? ≠ some 48 → Lib.decDigits (valS 0 d).toNat = d
  | 0, d, hk, _, hne, _ => absurd (List.eq_nil_of_length_eq_zero hk) hne
  | k + 1, d, hk, hd, hne, h48 => by
    obtain ⟨l, c, rfl⟩ : ∃ l c, d = l ++ [c] := ⟨d.dropLast, d.getLast hne, (List.dropLast_concat_getLast hne).symm⟩
    have hl : l.length = k := by simpa using hk
    rw [List.all_append, Bool.and_eq_true] at hd
    have hc : isDig c = true := by simpa using hd.2
    have hc2 : 48 ≤ c.toNat ∧ c.toNat ≤ 57 := by unfold isDig at hc; simpa using hc
    have hb := valS_bound l 0 (by decide) hd.1
    rw [valS_app]
    have e1 : valS (valS 0 l) [c] = 10 * valS 0 l + c.toNat - 48 := by simp only [valS]
    rw [e1, Lib.decDigits]
    have uc : UInt8.ofNat (48 + (c.toNat - 48)) = c := by
      have : 48 + (c.toNat - 48) = c.toNat := by omega
      rw [this]; simp
    by_cases h0 : l = []
    · subst h0
      have : (10 * valS 0 ([] : List UInt8) + (c.toNat : Int) - 48).toNat = c.toNat - 48 := by show (10 * (0 : Int) + (c.toNat : Int) - 48).toNat = _; omega
      rw [this, dif_pos (by omega), uc]; rfl
    · have hh : l.head? ≠ some 48 := by
        cases l with
        | nil => exact absurd rfl h0
        | cons b r => simpa using h48
      have ih := dec_val k l hl hd.1 h0 hh
      have hpos : valS 0 l ≠ 0 := fun h => by
        rw [h] at ih
        have e0 : Lib.decDigits (0 : Int).toNat = [48] := Lib.decDigits_one (by decide)
        rw [e0] at ih
        rw [← ih] at hh; exact hh rfl
      have q1 : (10 * valS 0 l + (c.toNat : Int) - 48).toNat / 10 = (valS 0 l).toNat := by omega
      have q2 : (10 * valS 0 l + (c.toNat : Int) - 48).toNat % 10 = c.toNat - 48 := by omega
      rw [dif_neg (by omega), q1, q2, ih, uc]
def num8 (w : List UInt8) : Int := if 10 < w.length then 0 else if (w.drop 1).head? = some 48 then 0 else if valS 0 (w.drop 1) < 2 then 0 else valS 0 (w.drop 1)
theorem num8_fine {w : List UInt8} (h : tellsS w = true) : num8 w = if fine (w.drop 1) then numOf (w.drop 1) else 0 := by
  have hl : w.length = (w.drop 1).length + 1 := by
    cases w with
    | nil => exact absurd h (by decide)
    | cons b r => simp
  unfold tellsS at h
  simp only [Bool.and_eq_true] at h
  have hd := h.2
  unfold isNumS at hd
  simp only [Bool.and_eq_true, Bool.not_eq_true', decide_eq_false_iff_not] at hd
  unfold num8
  rw [hl]
  generalize w.drop 1 = d at hd
  cases hf : fine d with
  | true =>
    obtain ⟨n0, n1, ne⟩ := fine_some hf
    have li := itoa_len (n := numOf d) (by omega)
    have ed : Lib.decDigits (numOf d).toNat = d := by rw [← itoa_dec (by omega)]; exact ne.symm
    have hh := dec_head (numOf d).toNat (by omega)
    have hv := valS_dec (numOf d).toNat
    rw [ed] at hh hv
    rw [← ne] at li
    rw [if_neg (by omega), if_neg hh, hv, if_neg (by omega)]
    show (((numOf d).toNat : Nat) : Int) = numOf d
    omega
  | false =>
    by_cases c1 : 10 < d.length + 1
    · rw [if_pos c1]; rfl
    by_cases c2 : d.head? = some 48
    · rw [if_neg c1, if_pos c2]; rfl
    by_cases c3 : valS 0 d < 2
    · rw [if_neg c1, if_neg c2, if_pos c3]; rfl
    · exfalso
      have hb := valS_bound d 0 (by decide) hd.1
      have hp : (10 : Int) ^ d.length ≤ 10 ^ 9 := by
        have := Nat.pow_le_pow_right (n := 10) (by decide) (show d.length ≤ 9 by omega)
        have e2 : ((10 ^ d.length : Nat) : Int) = (10 : Int) ^ d.length := by simp
        have e3 : ((10 ^ 9 : Nat) : Int) = (10 : Int) ^ 9 := by simp
        rw [← e2, ← e3]; omega
      have e9 : (10 : Int) ^ 9 = 1000000000 := by decide
      rw [e9] at hp
      have ed := dec_val d.length d rfl hd.1 hd.2 c2
      have ei : Lib.itoa (valS 0 d) = d := by rw [itoa_dec hb.1]; exact ed
      have := (fine_itoa (n := valS 0 d) (by omega) (by omega)).1
      rw [ei, hf] at this; cases this
/-! the document's functions -/
theorem r8Tells_loop (n : Nat) (s : List UInt8) (hL : s.length ≤ 1000000) : ∀ m j : Nat, j ≤ s.length + 1 → s.length + 1 - j < m → r8Tells_loop0 n m s (j : Int) = some (if (s.drop j).all isDig = true then Sum.inr ((s, ()), ((), ())) else Sum.inl ((false, ()), ((), ())))
  | 0, j, _, h => absurd h (Nat.not_lt_zero _)
  | m + 1, j, hj, h => by
    rw [r8Tells_loop0_succ]
    unfold r8Tells_l0
    by_cases c0 : j < s.length
    · have c0' : ((j : Nat) : Int) < ((s.length : Nat) : Int) := by omega
      have ih := r8Tells_loop n s hL m (j + 1) (by omega) (by omega)
      have hd : s.drop j = s[j] :: s.drop (j + 1) := (List.drop_eq_getElem_cons c0)
      have hi : isDig s[j] = (!decide (((s[j].toNat : Nat) : Int) < 48) && !decide ((57 : Int) < ((s[j].toNat : Nat) : Int))) := by
        unfold isDig
        rw [← decide_not, ← decide_not]
        congr 1 <;> exact decide_eq_decide.2 (by omega)
      simp only [c0', decide_true, cond_true, sAt_lt c0, Option.bind_some, letO, wrap_succ (show j < 4611686018427387904 by omega), ih, hd, List.all_cons, hi]
      cases decide (((s[j].toNat : Nat) : Int) < 48) <;> cases decide ((57 : Int) < ((s[j].toNat : Nat) : Int)) <;> simp
    · have c0' : ¬ ((j : Nat) : Int) < ((s.length : Nat) : Int) := by omega
      have : s.drop j = [] := List.drop_eq_nil_of_le (by omega)
      simp [c0', this]
theorem r8Tells_spec (n : Nat) (s : List UInt8) (hL : s.length ≤ 1000000) (hn : s.length + 1 < n) : r8Tells_t n s = some (tellsS s) := by
  unfold r8Tells_t tellsS isNumS
  have := r8Tells_loop n s hL n 1 (by omega) (by omega)
  rw [show ((1 : Nat) : Int) = (1 : Int) from rfl] at this
  rw [this]
  cases s with
  | nil => rfl
  | cons b r =>
    simp only [List.drop_succ_cons, List.drop_zero, List.head?_cons, Option.some.injEq]
    have h0 : sAt (b :: r) (0 : Int) = some ((b.toNat : Nat) : Int) := sAt_lt (s := b :: r) (j := 0) (by simp)
    have h1 : decide (((b.toNat : Nat) : Int) = (118 : Int)) = decide (b = 118) := decide_eq_decide.2 (by
      constructor
      · intro h; exact UInt8.toNat_inj.1 (by have e : (118 : UInt8).toNat = 118 := rfl; rw [e]; omega)
      · rintro rfl; rfl)
    have h2 : decide ((1 : Int) < (((b :: r).length : Nat) : Int)) = !decide (r = []) := by
      rw [← decide_not]
      refine decide_eq_decide.2 ?_
      cases r with
      | nil => simp
      | cons x y => simp; omega
    cases hr : r.all isDig with
    | true =>
      simp only [if_true, Option.bind_some, Sum.elim_inr, h2, h0, h1, Bool.true_and]
      cases decide (r = []) <;> simp
    | false => simp
theorem r8Number_loop (n : Nat) (s : List UInt8) (hL : s.length ≤ 10) (hd : (s.drop 1).all isDig = true) : ∀ (m j : Nat) (a : Int), 1 ≤ j → j ≤ s.length → s.length - j < m → 0 ≤ a → a < 10 ^ j → r8Number_loop0 n m s a (j : Int) = some ((valS a (s.drop j), ()), ((), ()))
  | 0, j, a, _, _, h, _, _ => absurd h (Nat.not_lt_zero _)
  | m + 1, j, a, hj1, hj, h, ha, hb => by
    rw [r8Number_loop0_succ]
    unfold r8Number_l0
    by_cases c0 : j < s.length
    · have c0' : ((j : Nat) : Int) < ((s.length : Nat) : Int) := by omega
      have hp : (10 : Int) ^ j ≤ 10 ^ 10 := by
        have := Nat.pow_le_pow_right (n := 10) (by decide) (show j ≤ 10 by omega)
        have e2 : ((10 ^ j : Nat) : Int) = (10 : Int) ^ j := by simp
        have e3 : ((10 ^ 10 : Nat) : Int) = (10 : Int) ^ 10 := by simp
        rw [← e2, ← e3]; omega
      have e9 : (10 : Int) ^ 10 = 10000000000 := by decide
      rw [e9] at hp
      have hdr : s.drop j = s[j] :: s.drop (j + 1) := (List.drop_eq_getElem_cons c0)
      have hm : s[j] ∈ s.drop 1 := by
        have e : s.drop 1 = s.drop 1 := rfl
        have : (s.drop 1)[j - 1]'(by simp; omega) = s[j] := by simp; congr 1; omega
        rw [← this]; exact List.getElem_mem _
      have hc := List.all_eq_true.1 hd _ hm
      have hc2 : 48 ≤ s[j].toNat ∧ s[j].toNat ≤ 57 := by unfold isDig at hc; simpa using hc
      have e10 : (10 : Int) ^ (j + 1) = 10 * 10 ^ j := by rw [Int.pow_succ]; omega
      have ih := r8Number_loop n s hL hd m (j + 1) (10 * a + (s[j].toNat : Int) - 48) (by omega) (by omega) (by omega) (by omega) (by rw [e10]; omega)
      simp only [c0', decide_true, cond_true, sAt_lt c0, Option.bind_some, letO, wrap_succ (show j < 4611686018427387904 by omega)]
      rw [wrap64 (n := 10 * a) (by omega) (by omega), wrap64 (n := ((s[j].toNat : Nat) : Int)) (by omega) (by omega), wrap64 (n := 10 * a + ((s[j].toNat : Nat) : Int)) (by omega) (by omega), wrap64 (n := 10 * a + ((s[j].toNat : Nat) : Int) - 48) (by omega) (by omega), ih, hdr]
      rfl
    · have c0' : ¬ ((j : Nat) : Int) < ((s.length : Nat) : Int) := by omega
      have : s.drop j = [] := List.drop_eq_nil_of_le (by omega)
      simp [c0', this, valS]
theorem r8Number_spec (n : Nat) (s : List UInt8) (hn : 100 ≤ n) (ht : tellsS s = true) : r8Number_t n s = some (num8 s) := by
  have hd : (s.drop 1).all isDig = true ∧ s.drop 1 ≠ [] := by
    unfold tellsS isNumS at ht
    simp only [Bool.and_eq_true, Bool.not_eq_true', decide_eq_false_iff_not] at ht
    exact ht.2
  have h2 : 2 ≤ s.length := by
    cases s with
    | nil => exact absurd rfl hd.2
    | cons b r => cases r with
      | nil => exact absurd rfl hd.2
      | cons c t => simp
  unfold r8Number_t num8
  by_cases c1 : 10 < s.length
  · have c1' : (10 : Int) < ((s.length : Nat) : Int) := by omega
    simp [c1, c1']
  · have c1' : ¬ (10 : Int) < ((s.length : Nat) : Int) := by omega
    have h0 : sAt s (1 : Int) = some ((s[1].toNat : Nat) : Int) := sAt_lt (s := s) (j := 1) (by omega)
    have e1 : (s.drop 1).head? = some s[1] := by rw [List.head?_drop]; exact List.getElem?_eq_getElem _
    have h1 : decide (((s[1].toNat : Nat) : Int) = (48 : Int)) = decide (s[1] = 48) := decide_eq_decide.2 (by
      constructor
      · intro h; exact UInt8.toNat_inj.1 (by have e : (48 : UInt8).toNat = 48 := rfl; rw [e]; omega)
      · intro h; rw [h]; rfl)
    have hlp := r8Number_loop n s (by omega) hd.1 n 1 0 (by omega) (by omega) (by omega) (by omega) (by decide)
    rw [show ((1 : Nat) : Int) = (1 : Int) from rfl] at hlp
    simp only [c1, c1', decide_false, cond_false, if_false, h0, h1, hlp, Option.bind_some, e1, Option.some.injEq]
    generalize valS 0 (s.drop 1) = V
    by_cases c2 : s[1] = 48
    · simp [c2]
    · by_cases c3 : V < 2
      · simp [c2, c3]
      · simp [c2, c3]
theorem r8Check_end (n m : Nat) (l : List (List UInt8)) : r8Check_loop0 n (m + 1) l ((l.length : Nat) : Int) = some (Sum.inr ((), ((), ()))) := by
  rw [r8Check_loop0_succ]; unfold r8Check_l0; simp
theorem r8Check_loop (n : Nat) (f : List (List UInt8)) (x : List UInt8) (hl : f.length ≤ 1000000) (hw : ∀ w ∈ f ++ [x], w.length ≤ 1000000 ∧ w.length + 1 < n) (hn : 100 ≤ n) : ∀ m j : Nat, j ≤ f.length → f.length + 1 - j < m →
    r8Check_loop0 n m (f ++ [x]) (j : Int) = some (if ((f.drop j).all (fun w => !tellsS w) && (!tellsS x || (!decide (f = []) && !decide (num8 x = 0)))) = true then Sum.inr ((), ((), ())) else Sum.inl ((false, ()), ((), ())))
  | 0, j, _, h => absurd h (Nat.not_lt_zero _)
  | m + 1, j, hj, h => by
    rw [r8Check_loop0_succ]
    unfold r8Check_l0
    have hlen : (f ++ [x]).length = f.length + 1 := by simp
    have c0 : ((j : Nat) : Int) < (((f ++ [x]).length : Nat) : Int) := by rw [hlen]; omega
    have w1 : IntKind.wrap .i64 ((((f ++ [x]).length : Nat) : Int) - 1) = ((f.length : Nat) : Int) := by rw [hlen, wrap64 (by omega) (by omega)]; omega
    have hx : idxL (f ++ [x]) ((j : Nat) : Int) = some ((f ++ [x])[j]'(by rw [hlen]; omega)) := idx_lt _
    have hm := hw _ (List.getElem_mem (show j < (f ++ [x]).length by rw [hlen]; omega))
    simp only [c0, decide_true, cond_true, hx, Option.bind_some, r8Tells_spec n _ hm.1 hm.2, letO, w1, wrap_succ (show j < 4611686018427387904 by omega)]
    by_cases c1 : j < f.length
    · have ih := r8Check_loop n f x hl hw hn m (j + 1) (by omega) (by omega)
      have hd : f.drop j = f[j] :: f.drop (j + 1) := (List.drop_eq_getElem_cons c1)
      have he : (f ++ [x])[j]'(by rw [hlen]; omega) = f[j] := List.getElem_append_left c1
      have c1' : ((j : Nat) : Int) < ((f.length : Nat) : Int) := by omega
      rw [he, ih, hd]
      simp only [c1', decide_true, cond_true, List.all_cons]
      rcases Bool.eq_false_or_eq_true (tellsS f[j]) with hb | hb
      · simp only [hb, cond_true, Bool.not_true, Bool.false_and, Bool.false_eq_true, if_false]
      · simp only [hb, cond_false, Bool.not_false, Bool.true_and]
    · have hj2 : j = f.length := by omega
      subst hj2
      have he : (f ++ [x])[f.length]'(by rw [hlen]; omega) = x := by simp
      obtain ⟨k, rfl⟩ : ∃ k, m = k + 1 := ⟨m - 1, by omega⟩
      have hend := r8Check_end n k (f ++ [x])
      rw [hlen] at hend
      rw [he, hend]
      have d0 : decide (((f.length : Nat) : Int) = 0) = decide (f = []) := decide_eq_decide.2 (by
        constructor
        · intro h; exact List.eq_nil_of_length_eq_zero (by omega)
        · rintro rfl; rfl)
      simp only [Int.lt_irrefl, decide_false, cond_false, d0, List.drop_length, List.all_nil, Bool.true_and]
      cases ht : tellsS x with
      | false => rfl
      | true =>
        rw [r8Number_spec n x hn ht]
        simp only [cond_true, Option.bind_some, Bool.not_true, Bool.false_or]
        cases decide (f = []) <;> cases decide (num8 x = 0) <;> rfl
/-- the parts, as the document goes through them -/
theorem parts_two (s : List UInt8) (hp : pathS s = true) : ∃ f, spl 47 [] s = f ++ [lastS s] ∧ f.all (fun w => !tellsS w) = !anyS (baseS s) ∧ decide (f = []) = decide (baseS s = []) := by
  have key : ∀ b, anyS b = !((spl 47 [] b).all fun x => !tellsS x) := fun b => by unfold anyS; rw [List.any_eq_not_all_not]
  rcases parts_last s with ⟨_, a, b, c⟩ | ⟨he, hs, hc⟩
  · refine ⟨[], by rw [b, c]; rfl, ?_, by rw [a]; rfl⟩
    rw [a]; decide
  · refine ⟨spl 47 [] (baseS s), hc, ?_, ?_⟩
    · rw [key, Bool.not_not]
    · have h1 := spl_ne 47 (baseS s) []
      have h2 : baseS s ≠ [] := fun h => by
        have := (path_parts hp).2
        rw [hc, h] at this
        simp [spl] at this
        exact absurd this.1 (by decide)
      simp [h1, h2]
theorem r8Check_spec (n : Nat) (s : List UInt8) (hL : s.length ≤ 1000) (hn : 2000 ≤ n) : r8Check_t n s = some (okS s) := by
  unfold r8Check_t okS
  rw [rPath5_spec n s (by omega) (by omega)]
  cases hp : pathS s with
  | false => rfl
  | true =>
    obtain ⟨f, e1, e2, e3⟩ := parts_two s hp
    have hlen := spl_len 47 s []
    have hw : ∀ w ∈ spl 47 [] s, w.length ≤ s.length := fun w hm => by have := spl_mem 47 s [] w hm; simpa using this
    rw [show (47 : Int) = (((47 : UInt8).toNat : Nat) : Int) from rfl, rSplit5_P n s 47 (by omega) (by omega)]
    rw [e1] at hlen hw ⊢
    have hlen2 : f.length + 1 ≤ s.length + 1 := by simpa using hlen.2
    have hlp := r8Check_loop n f (lastS s) (by omega) (fun w hm => ⟨by have := hw w hm; omega, by have := hw w hm; omega⟩) (by omega) n 0 (Nat.zero_le _) (by omega)
    rw [show ((0 : Nat) : Int) = (0 : Int) from rfl] at hlp
    simp only [Option.bind_some, Bool.not_true, cond_false, hlp, List.drop_zero, e2, e3, Bool.true_and]
    cases ht : tellsS (lastS s) with
    | false => cases anyS (baseS s) <;> rfl
    | true =>
      rw [num8_fine ht]
      generalize (lastS s).drop 1 = d
      cases hf : fine d with
      | false => cases anyS (baseS s) <;> simp
      | true =>
        have n0 : ¬ numOf d = 0 := by have := (fine_some hf).1; omega
        cases anyS (baseS s) <;> cases decide (baseS s = []) <;> simp [n0]
end Go.Proofs.YtgdlfnlakfahcaaGreatDoor.AM

/- Layer 16: what the document's functions come to. -/
namespace Go.Proofs.YtgdlfnlakfahcaaGreatDoor.AM
open Go.RowKit Gr
set_option linter.unusedVariables false
set_option linter.unusedSimpArgs false

/-! Check -/
theorem r16Check_loopC (n : Nat) (l : List MD) (i : Nat) (hi : i < l.length) (hl : l.length ≤ 20) : ∀ m j : Nat, j ≤ i → i - j < m →
    r16Check_loop2 n m l (i : Int) (j : Int) = some (bif (((pthS l).take i).drop j).any (fun y => decide (y = l[i].2.1)) then Sum.inl (((11 : Int), ()), ((), ())) else Sum.inr ((l, ((i : Int), ())), ((), ())))
  | 0, j, _, h => absurd h (Nat.not_lt_zero _)
  | m + 1, j, hj, h => by
    rw [r16Check_loop2_succ]
    unfold r16Check_l2
    by_cases c : j < i
    · have c' : j < ((pthS l).take i).length := by rw [List.length_take, pth_len]; omega
      have hx : ((pthS l).take i)[j] = (l[j]'(by omega)).2.1 := by simp [pthS]
      rw [decide_eq_true (by omega), cond_true, idx_lt (by omega), Option.bind_some, idx_lt hi, Option.bind_some, List.drop_eq_getElem_cons c', List.any_cons, hx]
      by_cases e : (l[j]'(by omega)).2.1 = l[i].2.1
      · rw [decide_eq_true e]; rfl
      · rw [decide_eq_false e, cond_false, Bool.false_or, letO_eq, wrap_succ (by omega)]
        exact r16Check_loopC n l i hi hl m (j + 1) (by omega) (by omega)
    · obtain rfl : j = i := by omega
      have : ((pthS l).take j).drop j = [] := List.drop_eq_nil_of_le (by rw [List.length_take]; omega)
      rw [decide_eq_false (by omega), cond_false, this]; rfl
theorem r16Check_loopA (n : Nat) (l : List MD) (hl : SmL l) (hn : 100000 < n) : ∀ m j : Nat, j ≤ l.length → l.length - j < m →
    r16Check_loop0 n m l (j : Int) = some (bif ((pthS l).drop j).all okS then Sum.inr ((l, ()), ((), ())) else Sum.inl (((6 : Int), ()), ((), ())))
  | 0, j, _, h => absurd h (Nat.not_lt_zero _)
  | m + 1, j, hj, h => by
    have h20 := hl.1
    rw [r16Check_loop0_succ]
    unfold r16Check_l0
    by_cases c : j < l.length
    · have hp := (hl.2 _ (List.getElem_mem c)).1
      have c' : j < (pthS l).length := by rw [pth_len]; exact c
      have hx : (pthS l)[j] = l[j].2.1 := by simp [pthS]
      rw [decide_eq_true (by omega), cond_true, idx_lt c, Option.bind_some, r8Check_spec n _ (by omega) (by omega), Option.bind_some, List.drop_eq_getElem_cons c', List.all_cons, hx]
      cases okS l[j].2.1 with
      | false => rfl
      | true =>
        rw [Bool.not_true, cond_false, letO_eq, wrap_succ (by omega), Bool.true_and]
        exact r16Check_loopA n l hl hn m (j + 1) (by omega) (by omega)
    · obtain rfl : j = l.length := by omega
      rw [decide_eq_false (by omega), cond_false, ← pth_len l, List.drop_length]; rfl
theorem r16Check_loopB (n : Nat) (l : List MD) (hl : SmL l) (hn : 100000 < n) : ∀ m j : Nat, j ≤ l.length → l.length - j < m →
    r16Check_loop1 n m l (j : Int) = some (bif dupP ((pthS l).take j) ((pthS l).drop j) then Sum.inl (((11 : Int), ()), ((), ())) else Sum.inr ((), ((), ())))
  | 0, j, _, h => absurd h (Nat.not_lt_zero _)
  | m + 1, j, hj, h => by
    have h20 := hl.1
    rw [r16Check_loop1_succ]
    unfold r16Check_l1
    by_cases c : j < l.length
    · have c' : j < (pthS l).length := by rw [pth_len]; exact c
      have hx : (pthS l)[j] = l[j].2.1 := by simp [pthS]
      have h2 := r16Check_loopC n l j c h20 n 0 (Nat.zero_le _) (by omega)
      rw [List.drop_zero] at h2
      rw [decide_eq_true (by omega), cond_true, show (0 : Int) = ((0 : Nat) : Int) from rfl, h2, Option.bind_some, dup_step c', hx]
      cases ((pthS l).take j).any (fun y => decide (y = l[j].2.1)) with
      | true => rfl
      | false =>
        rw [cond_false, Sum.elim_inr, Bool.false_or]
        show letO (IntKind.wrap .i64 ((j : Int) + 1)) (fun n13 => r16Check_loop1 n m l n13) = _
        rw [letO_eq, wrap_succ (by omega)]
        exact r16Check_loopB n l hl hn m (j + 1) (by omega) (by omega)
    · obtain rfl : j = l.length := by omega
      rw [decide_eq_false (by omega), cond_false, ← pth_len l, List.drop_length]; rfl
theorem r16Check_spec (n : Nat) (l : List MD) (hl : SmL l) (hn : 100000 < n) : r16Check_t n l = some (chkS l) := by
  have h20 := hl.1
  have hA : r16Check_loop0 n n l (0 : Int) = some (bif (pthS l).all okS then Sum.inr ((l, ()), ((), ())) else Sum.inl (((6 : Int), ()), ((), ()))) := r16Check_loopA n l hl hn n 0 (Nat.zero_le _) (by omega)
  have hB : r16Check_loop1 n n l (0 : Int) = some (bif dupP [] (pthS l) then Sum.inl (((11 : Int), ()), ((), ())) else Sum.inr ((), ((), ()))) := r16Check_loopB n l hl hn n 0 (Nat.zero_le _) (by omega)
  unfold r16Check_t chkS chkP
  rw [pth_len]
  by_cases c : 12 < l.length
  · rw [decide_eq_true (by omega), cond_true, if_pos c]
  · rw [decide_eq_false (by omega), cond_false, if_neg c, hA, Option.bind_some]
    cases (pthS l).all okS with
    | false => rfl
    | true =>
      rw [cond_true, Sum.elim_inr]
      show (r16Check_loop1 n n l (0 : Int)).bind _ = _
      rw [hB, Option.bind_some]
      cases dupP [] (pthS l) <;> rfl

/-! requires, Edges -/
theorem r16Req_loop (n : Nat) (m : MD) (p : List UInt8) (hl : m.2.2.length ≤ 1000) : ∀ k j : Nat, j ≤ m.2.2.length → m.2.2.length - j < k →
    r16Req_loop0 n k p (j : Int) m.1 m.2.1 m.2.2 = some (bif (m.2.2.drop j).any (fun r => decide (r.1 = p)) then Sum.inl ((true, ()), ((), ())) else Sum.inr ((), ((), ())))
  | 0, j, _, h => absurd h (Nat.not_lt_zero _)
  | k + 1, j, hj, h => by
    rw [r16Req_loop0_succ]
    unfold r16Req_l0
    by_cases c : j < m.2.2.length
    · rw [decide_eq_true (by omega), cond_true, idx_lt c, Option.bind_some, List.drop_eq_getElem_cons c, List.any_cons]
      by_cases e : m.2.2[j].1 = p
      · rw [decide_eq_true e]; rfl
      · rw [decide_eq_false e, cond_false, Bool.false_or, letO_eq, wrap_succ (by omega)]
        exact r16Req_loop n m p hl k (j + 1) (by omega) (by omega)
    · obtain rfl : j = m.2.2.length := by omega
      rw [decide_eq_false (by omega), cond_false, List.drop_length]; rfl
theorem r16Req_spec (n : Nat) (m : MD) (p : List UInt8) (hl : m.2.2.length ≤ 1000) (hn : 1000 < n) : r16Req_t n m p = some (reqS m p) := by
  have h : r16Req_loop0 n n p (0 : Int) m.1 m.2.1 m.2.2 = some (bif reqS m p then Sum.inl ((true, ()), ((), ())) else Sum.inr ((), ((), ()))) := r16Req_loop n m p hl n 0 (Nat.zero_le _) (by omega)
  unfold r16Req_t
  rw [h, Option.bind_some]
  cases reqS m p <;> rfl
theorem r16Edges_loop (n : Nat) (l : List MD) (i : Nat) (hi : i < l.length) (hl : SmL l) (hn : 100000 < n) : ∀ m j : Nat, ∀ acc : List Int, acc.length ≤ j → j ≤ l.length → l.length - j < m →
    r16Edges_loop0 n m l (i : Int) (j : Int) acc = some (((), ()), ((), (acc ++ iL ((List.range' j (l.length - j)).filter (adj l i)), ())))
  | 0, j, _, _, _, h => absurd h (Nat.not_lt_zero _)
  | m + 1, j, acc, ha, hj, h => by
    have h20 := hl.1
    rw [r16Edges_loop0_succ]
    unfold r16Edges_l0
    by_cases c : j < l.length
    · have hr := (hl.2 _ (List.getElem_mem hi)).2
      obtain ⟨k, hk⟩ : ∃ k, l.length - j = k + 1 := ⟨l.length - j - 1, by omega⟩
      have hk' : l.length - (j + 1) = k := by omega
      rw [decide_eq_true (by omega), cond_true, idx_lt hi, Option.bind_some, idx_lt c, Option.bind_some, r16Req_spec n _ _ (by omega) (by omega), Option.bind_some, ← adj_lt hi c, hk, List.range'_succ, List.filter_cons]
      cases ha' : adj l i j with
      | true =>
        rw [cond_true, if_pos rfl, app_le (by simp; omega), Option.bind_some, letO_eq, wrap_succ (by omega)]
        refine (r16Edges_loop n l i hi hl hn m (j + 1) _ (by simp; omega) (by omega) (by omega)).trans ?_
        rw [hk']
        simp [iL]
      | false =>
        rw [cond_false, if_neg (by decide), letO_eq, wrap_succ (by omega)]
        refine (r16Edges_loop n l i hi hl hn m (j + 1) _ (by omega) (by omega) (by omega)).trans ?_
        rw [hk']
    · obtain rfl : j = l.length := by omega
      rw [decide_eq_false (by omega), cond_false, Nat.sub_self]
      simp [iL]
theorem r16EdgX_same (n m : Nat) (l : List MD) (i j : Int) (acc : List Int) : r16EdgX_loop0 n m l i j acc = r16Edges_loop0 n m l i j acc := rfl
theorem r16Edges_end (n : Nat) (l : List MD) (i : Nat) (hi : i < l.length) (hl : SmL l) (hn : 100000 < n) : r16Edges_loop0 n n l (i : Int) (0 : Int) [] = some (((), ()), ((), (iL (edgesS l.length (adj l) i), ()))) := by
  have h20 := hl.1
  have := r16Edges_loop n l i hi hl hn n 0 [] (Nat.le_refl _) (Nat.zero_le _) (by omega)
  rw [List.nil_append, Nat.sub_zero, ← List.range_eq_range'] at this
  exact this
theorem r16Edges_spec (n : Nat) (l : List MD) (i : Int) (hl : SmL l) (hn : 100000 < n) : r16Edges_t n l i = some (iL (edgS l i)) := by
  unfold r16Edges_t edgS
  rw [r16Check_spec n l hl hn, Option.bind_some]
  by_cases c : chkS l = 0
  · rw [decide_eq_true c, Bool.not_true, cond_false]
    by_cases h0 : 0 ≤ i
    · rw [decide_eq_false (by omega), cond_false]
      by_cases h1 : i < (l.length : Int)
      · obtain ⟨k, rfl⟩ := Int.eq_ofNat_of_zero_le h0
        rw [decide_eq_false (by omega), cond_false, r16Edges_end n l k (by omega) hl hn, Option.bind_some, if_pos ⟨c, h0, h1⟩, Int.toNat_natCast]
      · rw [decide_eq_true (by omega), cond_true, if_neg (fun h => h1 h.2.2)]; rfl
    · rw [decide_eq_true (by omega), cond_true, if_neg (fun h => h0 h.2.1)]; rfl
  · rw [decide_eq_false c, Bool.not_false, cond_true, if_neg (fun h => c h.1)]; rfl
theorem r16EdgX_spec (n : Nat) (l : List MD) (i : Int) (hl : SmL l) (hn : 100000 < n) : r16EdgX_t n l i = some ((), ((), (iL (edgS l i), ()))) := by
  unfold r16EdgX_t edgS
  rw [r16Check_spec n l hl hn, Option.bind_some]
  by_cases c : chkS l = 0
  · rw [decide_eq_true c, Bool.not_true, cond_false]
    by_cases h0 : 0 ≤ i
    · rw [decide_eq_false (by omega), cond_false]
      by_cases h1 : i < (l.length : Int)
      · obtain ⟨k, rfl⟩ := Int.eq_ofNat_of_zero_le h0
        rw [decide_eq_false (by omega), cond_false, r16EdgX_same, r16Edges_end n l k (by omega) hl hn, Option.bind_some, if_pos ⟨c, h0, h1⟩, Int.toNat_natCast]
      · rw [decide_eq_true (by omega), cond_true, if_neg (fun h => h1 h.2.2)]; rfl
    · rw [decide_eq_true (by omega), cond_true, if_neg (fun h => h0 h.2.1)]; rfl
  · rw [decide_eq_false c, Bool.not_false, cond_true, if_neg (fun h => c h.1)]; rfl
theorem edgS_len (l : List MD) (i : Int) : (edgS l i).length ≤ l.length := by
  unfold edgS
  split
  · have := List.length_filter_le (adj l i.toNat) (List.range l.length)
    rw [List.length_range] at this
    exact this
  · exact Nat.zero_le _

/-! In, all, Same -/
theorem r16In_loop (n : Nat) (L : List Int) (x : Int) (hl : L.length ≤ 100000) : ∀ m j : Nat, j ≤ L.length → L.length - j < m →
    r16In_loop0 n m L x (j : Int) = some (bif (L.drop j).any (fun y => decide (y = x)) then Sum.inl ((true, ()), ((), ())) else Sum.inr ((), ((), ())))
  | 0, j, _, h => absurd h (Nat.not_lt_zero _)
  | m + 1, j, hj, h => by
    rw [r16In_loop0_succ]
    unfold r16In_l0
    by_cases c : j < L.length
    · rw [decide_eq_true (by omega), cond_true, idx_lt c, Option.bind_some, List.drop_eq_getElem_cons c, List.any_cons]
      by_cases e : L[j] = x
      · rw [decide_eq_true e]; rfl
      · rw [decide_eq_false e, cond_false, Bool.false_or, letO_eq, wrap_succ (by omega)]
        exact r16In_loop n L x hl m (j + 1) (by omega) (by omega)
    · obtain rfl : j = L.length := by omega
      rw [decide_eq_false (by omega), cond_false, List.drop_length]; rfl
theorem any_mem (L : List Int) (x : Int) : L.any (fun y => decide (y = x)) = decide (x ∈ L) := by
  rw [Bool.eq_iff_iff, List.any_eq_true, decide_eq_true_iff]
  simp
theorem r16In_spec (n : Nat) (L : List Int) (x : Int) (hl : L.length ≤ 100000) (hn : 100000 < n) : r16In_t n L x = some (decide (x ∈ L)) := by
  have h : r16In_loop0 n n L x (0 : Int) = some (bif L.any (fun y => decide (y = x)) then Sum.inl ((true, ()), ((), ())) else Sum.inr ((), ((), ()))) := r16In_loop n L x hl n 0 (Nat.zero_le _) (by omega)
  unfold r16In_t
  rw [h, Option.bind_some, any_mem]
  cases decide (x ∈ L) <;> rfl
theorem mem_iL {k : Nat} {L : List Nat} : ((k : Nat) : Int) ∈ iL L ↔ k ∈ L := by
  unfold iL
  rw [List.mem_map]
  constructor
  · rintro ⟨a, h, e⟩
    obtain rfl := Int.ofNat.inj e
    exact h
  · exact fun h => ⟨k, h, rfl⟩
theorem dec_iL (k : Nat) (L : List Nat) : decide (((k : Nat) : Int) ∈ iL L) = L.contains k := by
  rw [Bool.eq_iff_iff, decide_eq_true_iff, mem_iL, List.contains_iff_mem]
theorem r16All_loop (n : Nat) (a b : List Int) (ha : a.length ≤ 100000) (hb : b.length ≤ 100000) (hn : 100000 < n) : ∀ m j : Nat, j ≤ a.length → a.length - j < m →
    r16All_loop0 n m a b (j : Int) = some (bif (a.drop j).all (fun y => decide (y ∈ b)) then Sum.inr ((), ((), ())) else Sum.inl ((false, ()), ((), ())))
  | 0, j, _, h => absurd h (Nat.not_lt_zero _)
  | m + 1, j, hj, h => by
    rw [r16All_loop0_succ]
    unfold r16All_l0
    by_cases c : j < a.length
    · rw [decide_eq_true (by omega), cond_true, idx_lt c, Option.bind_some, r16In_spec n b _ hb hn, Option.bind_some, List.drop_eq_getElem_cons c, List.all_cons]
      cases decide (a[j] ∈ b) with
      | false => rfl
      | true =>
        rw [Bool.not_true, cond_false, Bool.true_and, letO_eq, wrap_succ (by omega)]
        exact r16All_loop n a b ha hb hn m (j + 1) (by omega) (by omega)
    · obtain rfl : j = a.length := by omega
      rw [decide_eq_false (by omega), cond_false, List.drop_length]; rfl
theorem r16All_spec (n : Nat) (a b : List Int) (ha : a.length ≤ 100000) (hb : b.length ≤ 100000) (hn : 100000 < n) : r16All_t n a b = some (a.all fun y => decide (y ∈ b)) := by
  have h : r16All_loop0 n n a b (0 : Int) = some (bif a.all (fun y => decide (y ∈ b)) then Sum.inr ((), ((), ())) else Sum.inl ((false, ()), ((), ()))) := r16All_loop n a b ha hb hn n 0 (Nat.zero_le _) (by omega)
  unfold r16All_t
  rw [h, Option.bind_some]
  cases a.all (fun y => decide (y ∈ b)) <;> rfl
theorem all_iL (a b : List Nat) : (iL a).all (fun y => decide (y ∈ iL b)) = a.all b.contains := by
  unfold iL
  rw [List.all_map]
  exact List.all_congr rfl fun x => dec_iL x b
theorem r16Same_loop (n : Nat) (a b : List Int) (hab : a.length = b.length) (ha : a.length ≤ 100000) : ∀ m j : Nat, j ≤ a.length → a.length - j < m →
    r16Same_loop0 n m a b (j : Int) = some (if a.drop j = b.drop j then Sum.inr ((), ((), ())) else Sum.inl ((false, ()), ((), ())))
  | 0, j, _, h => absurd h (Nat.not_lt_zero _)
  | m + 1, j, hj, h => by
    rw [r16Same_loop0_succ]
    unfold r16Same_l0
    by_cases c : j < a.length
    · have c' : j < b.length := by omega
      rw [decide_eq_true (by omega), cond_true, idx_lt c, Option.bind_some, idx_lt c', Option.bind_some, List.drop_eq_getElem_cons c, List.drop_eq_getElem_cons c']
      by_cases e : a[j] = b[j]
      · rw [decide_eq_true e, Bool.not_true, cond_false, letO_eq, wrap_succ (by omega), e]
        refine (r16Same_loop n a b hab ha m (j + 1) (by omega) (by omega)).trans ?_
        by_cases hd : a.drop (j + 1) = b.drop (j + 1)
        · rw [if_pos hd, if_pos (by rw [hd])]
        · rw [if_neg hd, if_neg (fun h => hd (List.cons.inj h).2)]
      · rw [decide_eq_false e, Bool.not_false, cond_true, if_neg (fun h => e (List.cons.inj h).1)]
    · obtain rfl : j = a.length := by omega
      rw [decide_eq_false (by omega), cond_false, List.drop_length, hab, List.drop_length, if_pos rfl]
theorem r16Same_spec (n : Nat) (a b : List Int) (ha : a.length ≤ 100000) (hb : b.length ≤ 100000) (hn : 100000 < n) : r16Same_t n a b = some (decide (a = b)) := by
  unfold r16Same_t
  by_cases hab : a.length = b.length
  · have h : r16Same_loop0 n n a b (0 : Int) = some (if a = b then Sum.inr ((), ((), ())) else Sum.inl ((false, ()), ((), ()))) := r16Same_loop n a b hab ha n 0 (Nat.zero_le _) (by omega)
    rw [decide_eq_true (by omega), Bool.not_true, cond_false, h, Option.bind_some]
    by_cases e : a = b
    · rw [if_pos e, decide_eq_true e]; rfl
    · rw [if_neg e, decide_eq_false e]; rfl
  · rw [decide_eq_false (by omega), Bool.not_false, cond_true, decide_eq_false (fun e => hab (congrArg List.length e))]

/-! Down, Cyclic, Up -/
theorem r16Down_loopI (n : Nat) (l : List MD) (k : Int) (E : List Nat) (hE : E.length ≤ 100) (hn : 100000 < n) : ∀ m j : Nat, ∀ D : List Nat, D.length ≤ 100 + j → j ≤ E.length → E.length - j < m →
    r16Down_loop1 n m l k (j : Int) (iL D) (iL E) = some ((l, ((), (k, ()))), ((), (iL (addN D (E.drop j)), ())))
  | 0, j, _, _, _, h => absurd h (Nat.not_lt_zero _)
  | m + 1, j, D, hD, hj, h => by
    rw [r16Down_loop1_succ]
    unfold r16Down_l1
    rw [iL_len]
    by_cases c : j < E.length
    · have hx : idxL (iL E) (j : Int) = some ((E[j] : Nat) : Int) := by rw [idx_lt (by rw [iL_len]; exact c)]; simp [iL]
      have hy : nth (iL E) (Int.toNat (j : Int)) = some ((E[j] : Nat) : Int) := by rw [Int.toNat_natCast, nth_lt (by rw [iL_len]; exact c)]; simp [iL]
      rw [decide_eq_true (by omega), cond_true, hx, Option.bind_some, hy, Option.bind_some, r16In_spec n _ _ (by rw [iL_len]; omega) hn, Option.bind_some, dec_iL, List.drop_eq_getElem_cons c, addN]
      cases hc : D.contains E[j] with
      | true =>
        rw [Bool.not_true, cond_false, if_pos rfl, letO_eq, wrap_succ (by omega)]
        exact r16Down_loopI n l k E hE hn m (j + 1) D (by omega) (by omega) (by omega)
      | false =>
        rw [Bool.not_false, cond_true, if_neg (by decide), Option.bind_some, Option.bind_some, app_le (by rw [iL_len]; simp; omega), Option.bind_some, letO_eq, wrap_succ (by omega)]
        have hap : iL D ++ [((E[j] : Nat) : Int)] = iL (D ++ [E[j]]) := by rw [iL_app]; rfl
        rw [hap]
        exact r16Down_loopI n l k E hE hn m (j + 1) (D ++ [E[j]]) (by rw [List.length_append, List.length_singleton]; omega) (by omega) (by omega)
    · obtain rfl : j = E.length := by omega
      rw [decide_eq_false (by omega), cond_false, List.drop_length]
      rfl
theorem r16Down_loop (n : Nat) (l : List MD) (i : Nat) (hl : SmL l) (hc : chkS l = 0) (hi : i < l.length) (hn : 100000 < n) : ∀ m k : Nat, ∀ D : List Nat, Down l.length (adj l) i k D → k ≤ D.length → l.length - k < m →
    ∃ D', r16Down_loop0 n m l (k : Int) (iL D) = some (((), ()), ((), (iL D', ()))) ∧ D'.length ≤ l.length ∧ ∀ x, x ∈ D' ↔ Dep l.length (adj l) i x
  | 0, k, D, _, _, h => absurd h (Nat.not_lt_zero _)
  | m + 1, k, D, hD, hk, h => by
    have h12 := chk_len hc
    have hDl := hD.len
    rw [r16Down_loop0_succ]
    unfold r16Down_l0
    rw [iL_len]
    by_cases c : k < D.length
    · have hx : idxL (iL D) (k : Int) = some ((D[k] : Nat) : Int) := by rw [idx_lt (by rw [iL_len]; exact c)]; simp [iL]
      have hy : nth (iL D) (Int.toNat (k : Int)) = some ((D[k] : Nat) : Int) := by rw [Int.toNat_natCast, nth_lt (by rw [iL_len]; exact c)]; simp [iL]
      have hdl := (hD.dep _ (List.getElem_mem c)).lt.2
      have hE := edgS_len l ((D[k] : Nat) : Int)
      have hnext := hD.step (x := D[k]) (List.getElem?_eq_getElem c)
      obtain ⟨s, hs'⟩ := addN_pre (edgesS l.length (adj l) D[k]) D
      obtain ⟨D', h1, h2⟩ := r16Down_loop n l i hl hc hi hn m (k + 1) _ hnext (by rw [hs', List.length_append]; omega) (by omega)
      refine ⟨D', ?_, h2⟩
      rw [decide_eq_true (by omega), cond_true, hx, Option.bind_some, hy, Option.bind_some, r16EdgX_spec n l _ hl hn, Option.bind_some]
      show (r16Down_loop1 n n l (k : Int) (0 : Int) (iL D) (iL (edgS l ((D[k] : Nat) : Int)))).bind _ = _
      have h3 := r16Down_loopI n l (k : Int) (edgS l ((D[k] : Nat) : Int)) (by omega) hn n 0 D (by omega) (Nat.zero_le _) (by omega)
      rw [show (0 : Int) = ((0 : Nat) : Int) from rfl, h3, Option.bind_some, List.drop_zero, edgS_nat hc hdl]
      show letO (IntKind.wrap .i64 ((k : Int) + 1)) (fun n14 => r16Down_loop0 n m l n14 (iL (addN D (edgesS l.length (adj l) D[k])))) = _
      rw [letO_eq, wrap_succ (by omega)]
      exact h1
    · refine ⟨D, ?_, hDl, hD.done (by omega)⟩
      rw [decide_eq_false (by omega), cond_false]
theorem r16Down_spec (n : Nat) (l : List MD) (i : Nat) (hl : SmL l) (hc : chkS l = 0) (hi : i < l.length) (hn : 100000 < n) : ∃ D, r16Down_t n l (i : Int) = some (iL D) ∧ D.length ≤ l.length ∧ ∀ x, x ∈ D ↔ Dep l.length (adj l) i x := by
  have h12 := chk_len hc
  obtain ⟨D, h1, h2⟩ := r16Down_loop n l i hl hc hi hn n 0 _ (Down.start hi) (Nat.zero_le _) (by omega)
  refine ⟨D, ?_, h2⟩
  unfold r16Down_t
  rw [r16EdgX_spec n l _ hl hn, Option.bind_some, edgS_nat hc hi]
  show (r16Down_loop0 n n l (0 : Int) (iL (edgesS l.length (adj l) i))).bind _ = _
  rw [show (0 : Int) = ((0 : Nat) : Int) from rfl, h1, Option.bind_some]
theorem r16Down_no (n : Nat) (l : List MD) (i : Int) (hl : SmL l) (hc : chkS l ≠ 0) (hn : 100000 < n) : r16Down_t n l i = some [] := by
  unfold r16Down_t
  have he : edgS l i = [] := by unfold edgS; rw [if_neg (fun h => hc h.1)]
  rw [r16EdgX_spec n l _ hl hn, Option.bind_some, he]
  obtain ⟨m, rfl⟩ : ∃ m, n = m + 1 := ⟨n - 1, by omega⟩
  show (r16Down_loop0 (m + 1) (m + 1) l (0 : Int) []).bind _ = _
  rw [r16Down_loop0_succ]
  rfl
theorem r16Cyc_loop (n : Nat) (l : List MD) (hl : SmL l) (hc : chkS l = 0) (hn : 100000 < n) (p : Nat → Bool) (hp : ∀ k, p k = true ↔ Dep l.length (adj l) k k) : ∀ m j : Nat, ∀ acc : List Int, acc.length ≤ j → j ≤ l.length → l.length - j < m →
    r16Cyc_loop0 n m l (j : Int) acc = some (((), ()), ((), (acc ++ iL ((List.range' j (l.length - j)).filter p), ())))
  | 0, j, _, _, _, h => absurd h (Nat.not_lt_zero _)
  | m + 1, j, acc, ha, hj, h => by
    have h20 := hl.1
    rw [r16Cyc_loop0_succ]
    unfold r16Cyc_l0
    by_cases c : j < l.length
    · obtain ⟨D, h1, h2, h3⟩ := r16Down_spec n l j hl hc c hn
      obtain ⟨k, hk⟩ : ∃ k, l.length - j = k + 1 := ⟨l.length - j - 1, by omega⟩
      have hk' : l.length - (j + 1) = k := by omega
      have hpj : decide (((j : Nat) : Int) ∈ iL D) = p j := by
        rw [Bool.eq_iff_iff, decide_eq_true_iff, mem_iL, h3, hp]
      rw [decide_eq_true (by omega), cond_true, h1, Option.bind_some, r16In_spec n _ _ (by rw [iL_len]; omega) hn, Option.bind_some, hpj, hk, List.range'_succ, List.filter_cons]
      cases p j with
      | true =>
        rw [cond_true, if_pos rfl, app_le (by simp; omega), Option.bind_some, letO_eq, wrap_succ (by omega)]
        refine (r16Cyc_loop n l hl hc hn p hp m (j + 1) _ (by simp; omega) (by omega) (by omega)).trans ?_
        rw [hk']
        simp [iL]
      | false =>
        rw [cond_false, if_neg (by decide), letO_eq, wrap_succ (by omega)]
        refine (r16Cyc_loop n l hl hc hn p hp m (j + 1) _ (by omega) (by omega) (by omega)).trans ?_
        rw [hk']
    · obtain rfl : j = l.length := by omega
      rw [decide_eq_false (by omega), cond_false, Nat.sub_self]
      simp [iL]
theorem r16Cyc_none (n : Nat) (l : List MD) (hl : SmL l) (hc : chkS l ≠ 0) (hn : 100000 < n) : ∀ m j : Nat, j ≤ l.length → l.length - j < m → r16Cyc_loop0 n m l (j : Int) [] = some (((), ()), ((), ([], ())))
  | 0, j, _, h => absurd h (Nat.not_lt_zero _)
  | m + 1, j, hj, h => by
    have h20 := hl.1
    rw [r16Cyc_loop0_succ]
    unfold r16Cyc_l0
    by_cases c : j < l.length
    · rw [decide_eq_true (by omega), cond_true, r16Down_no n l _ hl hc hn, Option.bind_some, r16In_spec n _ _ (Nat.zero_le _) hn, Option.bind_some, decide_eq_false (by simp), cond_false, letO_eq, wrap_succ (by omega)]
      exact r16Cyc_none n l hl hc hn m (j + 1) (by omega) (by omega)
    · rw [decide_eq_false (by omega), cond_false]
theorem r16Cyc_spec (n : Nat) (l : List MD) (hl : SmL l) (hn : 100000 < n) : ∃ L, r16Cyc_t n l = some (iL L) ∧ (chkS l ≠ 0 → L = []) ∧ (chkS l = 0 → IsF l.length (fun k => Dep l.length (adj l) k k) L) := by
  have h20 := hl.1
  unfold r16Cyc_t
  by_cases c : chkS l = 0
  · obtain ⟨p, hp⟩ : ∃ p : Nat → Bool, ∀ k, p k = true ↔ Dep l.length (adj l) k k := ⟨fun k => @decide _ (Classical.propDecidable _), fun k => @decide_eq_true_iff _ (Classical.propDecidable _)⟩
    have h1 := r16Cyc_loop n l hl c hn p hp n 0 [] (Nat.le_refl _) (Nat.zero_le _) (by omega)
    rw [List.nil_append, Nat.sub_zero, ← List.range_eq_range'] at h1
    refine ⟨_, ?_, fun h => absurd c h, fun _ => ⟨p, rfl, fun k _ => hp k⟩⟩
    rw [show (0 : Int) = ((0 : Nat) : Int) from rfl, h1, Option.bind_some]
  · have h1 := r16Cyc_none n l hl c hn n 0 (Nat.zero_le _) (by omega)
    exact ⟨[], by rw [show (0 : Int) = ((0 : Nat) : Int) from rfl, h1, Option.bind_some]; rfl, fun _ => rfl, fun h => absurd h c⟩
theorem r16Up_loopI (n : Nat) (l : List MD) (f : List Int) (k : Int) (D : List Nat) (acc : List Int) (hD : D.length ≤ 100) (hf : f.length ≤ 100000) (hn : 100000 < n) : ∀ m j : Nat, ∀ b : Bool, j ≤ D.length → D.length - j < m →
    r16Up_loop1 n m l f k (iL D) b (j : Int) acc = some ((l, (f, ((), (k, (b || (D.drop j).any (fun x => decide (((x : Nat) : Int) ∈ f)), ()))))), ((), (acc, ())))
  | 0, j, _, _, h => absurd h (Nat.not_lt_zero _)
  | m + 1, j, b, hj, h => by
    rw [r16Up_loop1_succ]
    unfold r16Up_l1
    rw [iL_len]
    by_cases c : j < D.length
    · have hx : idxL (iL D) (j : Int) = some ((D[j] : Nat) : Int) := by rw [idx_lt (by rw [iL_len]; exact c)]; simp [iL]
      rw [decide_eq_true (by omega), cond_true, List.drop_eq_getElem_cons c, List.any_cons]
      cases b with
      | true =>
        rw [cond_true, letO_eq, wrap_succ (by omega)]
        refine (r16Up_loopI n l f k D acc hD hf hn m (j + 1) true (by omega) (by omega)).trans ?_
        rw [Bool.true_or, Bool.true_or]
      | false =>
        rw [cond_false, hx, Option.bind_some, r16In_spec n f _ hf hn, Option.bind_some, letO_eq, wrap_succ (by omega), Bool.false_or]
        exact r16Up_loopI n l f k D acc hD hf hn m (j + 1) _ (by omega) (by omega)
    · obtain rfl : j = D.length := by omega
      rw [decide_eq_false (by omega), cond_false, List.drop_length, List.any_nil, Bool.or_false]
theorem r16Up_loop (n : Nat) (l : List MD) (f : List Int) (hl : SmL l) (hc : chkS l = 0) (hf : f.length ≤ 100000) (hn : 100000 < n) (p : Nat → Bool) (hp : ∀ k, k < l.length → (p k = true ↔ UpP l f k)) : ∀ m j : Nat, ∀ acc : List Int, acc.length ≤ j → j ≤ l.length → l.length - j < m →
    r16Up_loop0 n m l f (j : Int) acc = some (((), ()), ((), (acc ++ iL ((List.range' j (l.length - j)).filter p), ())))
  | 0, j, _, _, _, h => absurd h (Nat.not_lt_zero _)
  | m + 1, j, acc, ha, hj, h => by
    have h20 := hl.1
    rw [r16Up_loop0_succ]
    unfold r16Up_l0
    by_cases c : j < l.length
    · obtain ⟨D, h1, h2, h3⟩ := r16Down_spec n l j hl hc c hn
      obtain ⟨k, hk⟩ : ∃ k, l.length - j = k + 1 := ⟨l.length - j - 1, by omega⟩
      have hk' : l.length - (j + 1) = k := by omega
      have hpj : (decide (((j : Nat) : Int) ∈ f) || (D.drop 0).any (fun x => decide (((x : Nat) : Int) ∈ f))) = p j := by
        rw [Bool.eq_iff_iff, Bool.or_eq_true, decide_eq_true_iff, List.drop_zero, List.any_eq_true, hp j c]
        constructor
        · rintro (e | ⟨x, hx, e⟩)
          · exact ⟨j, e, c, Or.inl rfl⟩
          · exact ⟨x, by simpa using e, ((h3 x).1 hx).lt.2, Or.inr ((h3 x).1 hx)⟩
        · rintro ⟨i, e1, e2, rfl | e3⟩
          · exact Or.inl e1
          · exact Or.inr ⟨i, (h3 i).2 e3, by simpa using e1⟩
      have h4 := r16Up_loopI n l f (j : Int) D acc (by omega) hf hn n 0 (decide (((j : Nat) : Int) ∈ f)) (Nat.zero_le _) (by omega)
      rw [hpj] at h4
      rw [decide_eq_true (by omega), cond_true, h1, Option.bind_some, r16In_spec n f _ hf hn, Option.bind_some, show (0 : Int) = ((0 : Nat) : Int) from rfl, h4, Option.bind_some, hk, List.range'_succ, List.filter_cons]
      show (bif p j then (appO 8 acc [((j : Nat) : Int)]).bind (fun l9 => letO (IntKind.wrap .i64 ((j : Int) + 1)) fun n10 => r16Up_loop0 n m l f n10 l9) else letO (IntKind.wrap .i64 ((j : Int) + 1)) fun n11 => r16Up_loop0 n m l f n11 acc) = _
      cases p j with
      | true =>
        rw [cond_true, if_pos rfl, app_le (by simp; omega), Option.bind_some, letO_eq, wrap_succ (by omega)]
        refine (r16Up_loop n l f hl hc hf hn p hp m (j + 1) _ (by simp; omega) (by omega) (by omega)).trans ?_
        rw [hk']
        simp [iL]
      | false =>
        rw [cond_false, if_neg (by decide), letO_eq, wrap_succ (by omega)]
        refine (r16Up_loop n l f hl hc hf hn p hp m (j + 1) _ (by omega) (by omega) (by omega)).trans ?_
        rw [hk']
    · obtain rfl : j = l.length := by omega
      rw [decide_eq_false (by omega), cond_false, Nat.sub_self]
      simp [iL]
theorem r16Up_spec (n : Nat) (l : List MD) (f : List Int) (hl : SmL l) (hf : f.length ≤ 100000) (hn : 100000 < n) : ∃ L, r16Up_t n l f = some (iL L) ∧ (chkS l ≠ 0 → L = []) ∧ (chkS l = 0 → IsF l.length (UpP l f) L) := by
  have h20 := hl.1
  unfold r16Up_t
  rw [r16Check_spec n l hl hn, Option.bind_some]
  by_cases c : chkS l = 0
  · obtain ⟨p, hp⟩ : ∃ p : Nat → Bool, ∀ k, p k = true ↔ UpP l f k := ⟨fun k => @decide _ (Classical.propDecidable _), fun k => @decide_eq_true_iff _ (Classical.propDecidable _)⟩
    have h1 := r16Up_loop n l f hl c hf hn p (fun k _ => hp k) n 0 [] (Nat.le_refl _) (Nat.zero_le _) (by omega)
    rw [List.nil_append, Nat.sub_zero, ← List.range_eq_range'] at h1
    refine ⟨_, ?_, fun h => absurd c h, fun _ => ⟨p, rfl, fun k _ => hp k⟩⟩
    rw [decide_eq_true c, Bool.not_true, cond_false, show (0 : Int) = ((0 : Nat) : Int) from rfl, h1, Option.bind_some]
  · exact ⟨[], by rw [decide_eq_false c, Bool.not_false, cond_true]; rfl, fun _ => rfl, fun h => absurd h c⟩

/-! Order -/
theorem r16Order_loopI (n : Nat) (l : List MD) (O : List Nat) (hO : O.length ≤ 100) (hl : SmL l) (hc : chkS l = 0) (hn : 100000 < n) : ∀ m j : Nat, j ≤ l.length → l.length - j < m →
    ∃ x y z : List Int, ∃ b : Bool, ∃ q : Int, r16Order_loop1 n m l (j : Int) (iL O) = some (match (List.range' j (l.length - j)).find? (ready l.length (adj l) O) with
      | some i => Sum.inl ((l, ((), (l, (q, (x, (b, ())))))), ((), (iL (O ++ [i]), ())))
      | none => Sum.inr ((l, ((), ())), ((), (iL O, ()))))
  | 0, j, _, h => absurd h (Nat.not_lt_zero _)
  | m + 1, j, hj, h => by
    have h20 := hl.1
    rw [r16Order_loop1_succ]
    unfold r16Order_l1
    by_cases c : j < l.length
    · obtain ⟨k, hk⟩ : ∃ k, l.length - j = k + 1 := ⟨l.length - j - 1, by omega⟩
      have hk' : l.length - (j + 1) = k := by omega
      obtain ⟨x, y, z, b, q, ih⟩ := r16Order_loopI n l O hO hl hc hn m (j + 1) (by omega) (by omega)
      rw [hk'] at ih
      have hE := edgS_len l (j : Int)
      rw [decide_eq_true (by omega), cond_true, r16In_spec n _ _ (by rw [iL_len]; omega) hn, Option.bind_some, dec_iL, hk, List.range'_succ, List.find?_cons]
      unfold ready at ih ⊢
      cases hcj : O.contains j with
      | true =>
        refine ⟨x, y, z, b, q, ?_⟩
        rw [Bool.not_true, cond_false, letO_eq, wrap_succ (by omega)]
        exact ih
      | false =>
        rw [Bool.not_false, cond_true, r16Edges_spec n l _ hl hn, Option.bind_some, r16All_spec n _ _ (by rw [iL_len]; omega) (by rw [iL_len]; omega) hn, Option.bind_some, all_iL, edgS_nat hc c]
        cases ha : (edgesS l.length (adj l) j).all O.contains with
        | true =>
          refine ⟨iL (edgesS l.length (adj l) j), y, z, true, (j : Int), ?_⟩
          rw [cond_true, app_le (by rw [iL_len]; simp; omega), Option.bind_some]
          have hap : iL O ++ [((j : Nat) : Int)] = iL (O ++ [j]) := by rw [iL_app]; rfl
          rw [hap]
          rfl
        | false =>
          refine ⟨x, y, z, b, q, ?_⟩
          rw [cond_false, letO_eq, wrap_succ (by omega)]
          exact ih
    · obtain rfl : j = l.length := by omega
      refine ⟨[], [], [], true, 0, ?_⟩
      rw [decide_eq_false (by omega), cond_false, Nat.sub_self]
      rfl
theorem r16Order_loop (n : Nat) (l : List MD) (hl : SmL l) (hc : chkS l = 0) (hac : ∀ i, ¬ Dep l.length (adj l) i i) (hn : 100000 < n) : ∀ m f : Nat, ∀ O, Ord l.length (adj l) O → l.length < O.length + f → f ≤ m →
    r16Order_loop0 n m l (iL O) = some (((), ()), ((), (iL (ordS l.length (adj l) f O), ())))
  | 0, f, O, hO, hf, hm => by
    have := nodup_le hO.nd hO.lt
    omega
  | m + 1, f, O, hO, hf, hm => by
    have h20 := hl.1
    have hOl := nodup_le hO.nd hO.lt
    rw [r16Order_loop0_succ]
    unfold r16Order_l0
    rw [iL_len]
    cases f with
    | zero => omega
    | succ f =>
      unfold ordS
      by_cases c : O.length < l.length
      · obtain ⟨x, y, z, b, q, h1⟩ := r16Order_loopI n l O (by omega) hl hc hn n 0 (Nat.zero_le _) (by omega)
        rw [Nat.sub_zero, ← List.range_eq_range'] at h1
        have hnx : (List.range l.length).find? (ready l.length (adj l) O) = nxt l.length (adj l) O := rfl
        rw [hnx] at h1
        rw [decide_eq_true (by omega), cond_true, show (0 : Int) = ((0 : Nat) : Int) from rfl, h1, Option.bind_some]
        cases hN : nxt l.length (adj l) O with
        | none =>
          obtain ⟨i, hd⟩ := Gr.stuck hN c
          exact absurd hd (hac i)
        | some i =>
          exact r16Order_loop n l hl hc hac hn m f (O ++ [i]) (hO.snoc hN) (by rw [List.length_append, List.length_singleton]; omega) (by omega)
      · rw [decide_eq_false (by omega), cond_false, nxt_full hO (by omega)]
theorem r16Order_spec (n : Nat) (l : List MD) (hl : SmL l) (hn : 100000 < n) : r16Order_t n l = some (orderS l) := by
  unfold r16Order_t orderS
  rw [r16Check_spec n l hl hn, Option.bind_some]
  by_cases c : chkS l = 0
  · have h12 := chk_len c
    obtain ⟨L, h1, _, h2⟩ := r16Cyc_spec n l hl hn
    have h2 := h2 c
    rw [decide_eq_true c, Bool.not_true, cond_false, if_pos c, h1, Option.bind_some, iL_len]
    have hfull := ordS_full (n := l.length) (A := adj l) 13 (by omega)
    have hol : (ordL l).length ≤ l.length := by
      have := ordS_ord 13 (Ord.nil (n := l.length) (A := adj l))
      exact nodup_le this.nd this.lt
    by_cases hL : L.length = 0
    · have hac : ∀ i, ¬ Dep l.length (adj l) i i := fun i hd => by
        have := (h2.mem i).2 ⟨hd.lt.1, hd⟩
        rw [List.eq_nil_of_length_eq_zero hL] at this
        cases this
      have h3 := hfull.2 hac
      have h4 : (ordL l).length = l.length := h3
      have h5 := r16Order_loop n l hl c hac hn n 13 [] Ord.nil (by simp; omega) (by omega)
      rw [decide_eq_false (by omega), cond_false, if_neg (by omega)]
      have h5' : r16Order_loop0 n n l [] = some (((), ()), ((), (iL (ordL l), ()))) := h5
      rw [h5', Option.bind_some]
    · have h4 : (ordL l).length ≠ l.length := fun h => by
        have := hfull.1 h
        obtain ⟨x, hx⟩ := List.exists_mem_of_length_pos (Nat.pos_of_ne_zero hL)
        exact this x ((h2.mem x).1 hx).2
      rw [decide_eq_true (by omega), cond_true, if_pos (by omega)]
  · rw [decide_eq_false c, Bool.not_false, cond_true, if_neg c]

/-! Small -/
def Sml (l : List MD) : Prop := l.length ≤ 20 ∧ ∀ m ∈ l, m.2.1.length ≤ 200 ∧ m.1.length ≤ 200 ∧ m.2.2.length ≤ 30 ∧ ∀ r ∈ m.2.2, r.1.length ≤ 200 ∧ r.2.2.2.2.1.length ≤ 200 ∧ r.2.2.2.2.2.length ≤ 200
theorem r16Small_loopI (n : Nat) (l : List MD) (i : Nat) (hi : i < l.length) (h30 : l[i].2.2.length ≤ 30) (a4 : List MD) (a5 : Int) (a6 : List UInt8) (a7 : Int) (a8 : Bool) (a9 : List MD) (a10 : Int) (a11 : List RD) (a12 : Int) (a13 : Bool) : ∀ m j : Nat, j ≤ l[i].2.2.length → l[i].2.2.length - j < m →
    (r16Small_loop1 n m l (i : Int) (j : Int) a4 a5 a6 a7 a8 a9 a10 a11 a12 a13 = some (Sum.inl ((false, ()), ((), ())))) ∨
    (r16Small_loop1 n m l (i : Int) (j : Int) a4 a5 a6 a7 a8 a9 a10 a11 a12 a13 = some (Sum.inr ((l, ((i : Int), (a4, (a5, (a6, (a7, (a8, (a9, (a10, (a11, (a12, (a13, ())))))))))))), ((), ()))) ∧ ∀ r ∈ l[i].2.2.drop j, r.1.length ≤ 200 ∧ r.2.2.2.2.1.length ≤ 200 ∧ r.2.2.2.2.2.length ≤ 200)
  | 0, j, _, h => absurd h (Nat.not_lt_zero _)
  | m + 1, j, hj, h => by
    rw [r16Small_loop1_succ]
    unfold r16Small_l1
    rw [idx_lt hi, Option.bind_some]
    by_cases c : j < l[i].2.2.length
    · rw [decide_eq_true (by omega), cond_true, Option.bind_some, idx_lt c, Option.bind_some]
      by_cases h1 : 200 < l[i].2.2[j].1.length
      · rw [decide_eq_true (by omega), cond_true]; exact Or.inl rfl
      · rw [decide_eq_false (by omega), cond_false]
        by_cases h2 : 200 < l[i].2.2[j].2.2.2.2.1.length
        · rw [decide_eq_true (by omega), cond_true]; exact Or.inl rfl
        · rw [decide_eq_false (by omega), cond_false]
          by_cases h3 : 200 < l[i].2.2[j].2.2.2.2.2.length
          · rw [decide_eq_true (by omega), cond_true]; exact Or.inl rfl
          · rw [decide_eq_false (by omega), cond_false, letO_eq, wrap_succ (by omega)]
            rcases r16Small_loopI n l i hi h30 a4 a5 a6 a7 a8 a9 a10 a11 a12 a13 m (j + 1) (by omega) (by omega) with h4 | ⟨h4, h5⟩
            · exact Or.inl h4
            · refine Or.inr ⟨h4, fun r hr => ?_⟩
              rw [List.drop_eq_getElem_cons c] at hr
              rcases List.mem_cons.1 hr with rfl | hr
              · exact ⟨by omega, by omega, by omega⟩
              · exact h5 r hr
    · obtain rfl : j = l[i].2.2.length := by omega
      rw [decide_eq_false (by omega), cond_false]
      exact Or.inr ⟨rfl, fun r hr => by rw [List.drop_length] at hr; cases hr⟩
theorem wrap_big {i : Nat} (h : i + 1 ≤ 9223372036854775807) : IntKind.wrap .i64 ((i : Int) + 1) = ((i + 1 : Nat) : Int) := by rw [wrap64 (by omega) (by omega)]; rfl
theorem r16Small_loop (n : Nat) (l : List MD) (hl : l.length ≤ 9223372036854775807) (hn : 100000 < n) : ∀ m j : Nat, j ≤ l.length → l.length - j < m →
    (r16Small_loop0 n m l (j : Int) = some (Sum.inl ((false, ()), ((), ())))) ∨
    (r16Small_loop0 n m l (j : Int) = some (Sum.inr ((l, ()), ((), ()))) ∧ ∀ x ∈ l.drop j, x.2.1.length ≤ 200 ∧ x.1.length ≤ 200 ∧ x.2.2.length ≤ 30 ∧ ∀ r ∈ x.2.2, r.1.length ≤ 200 ∧ r.2.2.2.2.1.length ≤ 200 ∧ r.2.2.2.2.2.length ≤ 200)
  | 0, j, _, h => absurd h (Nat.not_lt_zero _)
  | m + 1, j, hj, h => by
    rw [r16Small_loop0_succ]
    unfold r16Small_l0
    by_cases c : j < l.length
    · rw [decide_eq_true (by omega), cond_true, idx_lt c, Option.bind_some]
      by_cases h1 : 200 < l[j].2.1.length
      · rw [decide_eq_true (by omega), cond_true]; exact Or.inl rfl
      · rw [decide_eq_false (by omega), cond_false, Option.bind_some]
        by_cases h2 : 200 < l[j].1.length
        · rw [decide_eq_true (by omega), cond_true]; exact Or.inl rfl
        · rw [decide_eq_false (by omega), cond_false, Option.bind_some]
          by_cases h3 : 30 < l[j].2.2.length
          · rw [decide_eq_true (by omega), cond_true]; exact Or.inl rfl
          · rw [decide_eq_false (by omega), cond_false]
            rcases r16Small_loopI n l j c (by omega) l (j : Int) l[j].1 ((l[j].1.length : Nat) : Int) false l (j : Int) l[j].2.2 ((l[j].2.2.length : Nat) : Int) false n 0 (Nat.zero_le _) (by omega) with h4 | ⟨h4, h5⟩
            · rw [show (0 : Int) = ((0 : Nat) : Int) from rfl, h4, Option.bind_some]; exact Or.inl rfl
            · rw [show (0 : Int) = ((0 : Nat) : Int) from rfl, h4, Option.bind_some]
              show (letO (IntKind.wrap .i64 ((j : Int) + 1)) (fun n11 => r16Small_loop0 n m l n11) = _) ∨ (letO (IntKind.wrap .i64 ((j : Int) + 1)) (fun n11 => r16Small_loop0 n m l n11) = _ ∧ _)
              rw [letO_eq, wrap_big (by omega)]
              rcases r16Small_loop n l hl hn m (j + 1) (by omega) (by omega) with h6 | ⟨h6, h7⟩
              · exact Or.inl h6
              · refine Or.inr ⟨h6, fun x hx => ?_⟩
                rw [List.drop_eq_getElem_cons c] at hx
                rcases List.mem_cons.1 hx with rfl | hx
                · exact ⟨by omega, by omega, by omega, h5⟩
                · exact h7 x hx
    · obtain rfl : j = l.length := by omega
      rw [decide_eq_false (by omega), cond_false]
      exact Or.inr ⟨rfl, fun r hr => by rw [List.drop_length] at hr; cases hr⟩
theorem r16Small_spec (n : Nat) (l : List MD) (hl : l.length ≤ 9223372036854775807) (hn : 9223372036854775807 < n) : ∃ b, r16Small_t n l = some b ∧ (b = true → Sml l) := by
  unfold r16Small_t
  rcases r16Small_loop n l hl (by omega) n 0 (Nat.zero_le _) (by omega) with h | ⟨h, h2⟩
  · rw [show (0 : Int) = ((0 : Nat) : Int) from rfl, h, Option.bind_some]
    exact ⟨false, rfl, fun h => by cases h⟩
  · rw [show (0 : Int) = ((0 : Nat) : Int) from rfl, h, Option.bind_some]
    exact ⟨_, rfl, fun h3 => ⟨by
      have h4 : ((l.length : Nat) : Int) ≤ 20 := of_decide_eq_true h3
      omega, fun m hm => h2 m (by rw [List.drop_zero]; exact hm)⟩⟩
theorem Sml.sm {l : List MD} (h : Sml l) : SmL l := ⟨h.1, fun m hm => ⟨(h.2 m hm).1, by have := (h.2 m hm).2.2.1; omega⟩⟩
end Go.Proofs.YtgdlfnlakfahcaaGreatDoor.AM
