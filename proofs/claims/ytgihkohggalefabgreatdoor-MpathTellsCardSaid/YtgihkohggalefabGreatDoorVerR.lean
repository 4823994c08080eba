/- Layer 7: what the document's checks come to. -/
import Derived.Test.YtgihkohggalefabGreatDoorVerP0
namespace Go.Proofs.YtgihkohggalefabGreatDoor.AM
open Go.RowKit
set_option linter.unusedVariables false
set_option linter.unusedSimpArgs false
theorem rSplit5_loop (n : Nat) (s : List UInt8) (c : UInt8) (hs : s.length ≤ 1000000) : ∀ (m i fr : Nat) (out : List (List UInt8)), i ≤ s.length → s.length - i + 1 < m → fr ≤ i → out.length ≤ i →
    rSplit5_loop0 n m s ((c.toNat : Nat) : Int) (fr : Int) (i : Int) out = some (((), ()), ((), (out ++ spl c ((s.drop fr).take (i - fr)) (s.drop i), ())))
  | 0, i, fr, _, _, h, _, _ => absurd h (Nat.not_lt_zero _)
  | m + 1, i, fr, out, hi, h, hf, ho => by
    rw [rSplit5_loop0_succ]
    unfold rSplit5_l0
    have c0 : ((i : Nat) : Int) ≤ ((s.length : Nat) : Int) := by omega
    have w1 := wrap_succ (show i < 4611686018427387904 by omega)
    have s1 : subO s ((fr : Nat) : Int) ((i : Nat) : Int) = some ((s.drop fr).take (i - fr)) := sub_le hf hi
    have a1 : appO 16 out [(s.drop fr).take (i - fr)] = some (out ++ [(s.drop fr).take (i - fr)]) := app_le (by simp; omega)
    by_cases c1 : i = s.length
    · have c1' : ((i : Nat) : Int) = ((s.length : Nat) : Int) := by omega
      have hd : s.drop i = [] := List.drop_eq_nil_of_le (by omega)
      simp only [c0, c1', decide_true, cond_true]
      rw [← c1', s1, Option.bind_some, a1, Option.bind_some, hd]
      simp only [letO, w1]
      cases m with
      | zero => omega
      | succ m =>
        rw [rSplit5_loop0_succ]
        unfold rSplit5_l0
        have c2 : ¬ ((i + 1 : Nat) : Int) ≤ ((s.length : Nat) : Int) := by omega
        simp only [c2, Int.le_refl, decide_true, decide_false, cond_true, cond_false]
        rfl
    · have c1' : ¬ ((i : Nat) : Int) = ((s.length : Nat) : Int) := by omega
      have hi' : i < s.length := by omega
      have hd : s.drop i = s[i] :: s.drop (i + 1) := List.drop_eq_getElem_cons hi'
      simp only [c0, c1', decide_true, decide_false, cond_true, cond_false, sAt_lt hi', Option.bind_some, letO, w1, s1, a1]
      have hc : decide (((s[i].toNat : Nat) : Int) = ((c.toNat : Nat) : Int)) = decide (s[i] = c) := by
        apply decide_eq_decide.2
        constructor
        · intro hh; exact UInt8.toNat_inj.1 (by omega)
        · intro hh; rw [hh]
      rw [hc, hd, spl]
      by_cases c2 : s[i] = c
      · simp only [c2, decide_true, cond_true, if_true]
        rw [rSplit5_loop n s c hs m (i + 1) (i + 1) (out ++ [(s.drop fr).take (i - fr)]) (by omega) (by omega) (Nat.le_refl _) (by simp; omega)]
        simp
      · simp only [c2, decide_false, cond_false, if_false]
        rw [rSplit5_loop n s c hs m (i + 1) fr out (by omega) (by omega) (by omega) (by omega)]
        have e1 : (s.drop fr).take (i + 1 - fr) = (s.drop fr).take (i - fr) ++ [s[i]] := by
          rw [show i + 1 - fr = (i - fr) + 1 from by omega, List.take_add_one, List.getElem?_drop, show fr + (i - fr) = i from by omega, List.getElem?_eq_getElem hi']
          rfl
        rw [e1]
theorem rSplit5_P (n : Nat) (s : List UInt8) (c : UInt8) (hs : s.length ≤ 1000000) (hn : s.length + 1 < n) : rSplit5_t n s ((c.toNat : Nat) : Int) = some (spl c [] s) := by
  unfold rSplit5_t
  have h := rSplit5_loop n s c hs n 0 0 [] (Nat.zero_le _) (by omega) (Nat.le_refl _) (Nat.zero_le _)
  rw [show ((0 : Nat) : Int) = (0 : Int) from rfl] at h
  rw [h]
  simp
theorem rDigits_loop (n : Nat) (s : List UInt8) (hL : s.length ≤ 1000000) : ∀ m j : Nat, j ≤ s.length → s.length - j < m → rDigits_loop0 n m s (j : Int) = some (if (s.drop j).all isDig = true then Sum.inr ((s, ()), ((), ())) else Sum.inl ((false, ()), ((), ())))
  | 0, j, _, h => absurd h (Nat.not_lt_zero _)
  | m + 1, j, hj, h => by
    rw [rDigits_loop0_succ]
    unfold rDigits_l0
    by_cases c0 : j < s.length
    · have c0' : ((j : Nat) : Int) < ((s.length : Nat) : Int) := by omega
      have ih := rDigits_loop n s hL m (j + 1) (by omega) (by omega)
      have hd : s.drop j = s[j] :: s.drop (j + 1) := (List.drop_eq_getElem_cons c0)
      simp only [c0', decide_true, cond_true, sAt_lt c0, Option.bind_some, letO, wrap_succ (show j < 4611686018427387904 by omega), ih, hd, List.all_cons]
      unfold isDig
      by_cases h1 : s[j].toNat < 48
      · have e1 : ((s[j].toNat : Nat) : Int) < 48 := by omega
        have e2 : ¬ 48 ≤ s[j].toNat := by omega
        simp [e1, e2]
      · have e1 : ¬ ((s[j].toNat : Nat) : Int) < 48 := by omega
        have e2 : 48 ≤ s[j].toNat := by omega
        by_cases h2 : 57 < s[j].toNat
        · have e3 : (57 : Int) < ((s[j].toNat : Nat) : Int) := by omega
          have e4 : ¬ s[j].toNat ≤ 57 := by omega
          simp [e1, e2, e3, e4]
        · have e3 : ¬ (57 : Int) < ((s[j].toNat : Nat) : Int) := by omega
          have e4 : s[j].toNat ≤ 57 := by omega
          simp [e1, e2, e3, e4]
    · have c0' : ¬ ((j : Nat) : Int) < ((s.length : Nat) : Int) := by omega
      have : s.drop j = [] := List.drop_eq_nil_of_le (by omega)
      simp [c0', this]
theorem rDigits_spec (n : Nat) (s : List UInt8) (hL : s.length ≤ 1000000) (hn : s.length < n) : rDigits_t n s = some (isNumS s) := by
  unfold rDigits_t isNumS
  have := rDigits_loop n s hL n 0 (Nat.zero_le _) (by omega)
  rw [show ((0 : Nat) : Int) = (0 : Int) from rfl] at this
  rw [this, List.drop_zero]
  cases s.all isDig <;> rfl
theorem sg_bools (c : UInt8) : isSg c = ((decide ((97 : Int) ≤ ((c.toNat : Nat) : Int)) && decide (((c.toNat : Nat) : Int) ≤ (122 : Int))) || (decide ((65 : Int) ≤ ((c.toNat : Nat) : Int)) && decide (((c.toNat : Nat) : Int) ≤ (90 : Int))) || (decide ((48 : Int) ≤ ((c.toNat : Nat) : Int)) && decide (((c.toNat : Nat) : Int) ≤ (57 : Int))) || decide (((c.toNat : Nat) : Int) = (45 : Int))) := by
  unfold isSg isDig
  have h1 : decide ((97 : Int) ≤ ((c.toNat : Nat) : Int)) = decide (97 ≤ c.toNat) := decide_eq_decide.2 (by omega)
  have h2 : decide (((c.toNat : Nat) : Int) ≤ (122 : Int)) = decide (c.toNat ≤ 122) := decide_eq_decide.2 (by omega)
  have h3 : decide ((65 : Int) ≤ ((c.toNat : Nat) : Int)) = decide (65 ≤ c.toNat) := decide_eq_decide.2 (by omega)
  have h4 : decide (((c.toNat : Nat) : Int) ≤ (90 : Int)) = decide (c.toNat ≤ 90) := decide_eq_decide.2 (by omega)
  have h5 : decide (((c.toNat : Nat) : Int) = (45 : Int)) = decide (c.toNat = 45) := decide_eq_decide.2 (by omega)
  have h6 : decide ((48 : Int) ≤ ((c.toNat : Nat) : Int)) = decide (48 ≤ c.toNat) := decide_eq_decide.2 (by omega)
  have h7 : decide (((c.toNat : Nat) : Int) ≤ (57 : Int)) = decide (c.toNat ≤ 57) := decide_eq_decide.2 (by omega)
  rw [h1, h2, h3, h4, h5, h6, h7]
theorem rIdents_loop1P (n : Nat) (z : Bool) (l : List (List UInt8)) (i : Nat) (hi : i < l.length) (w : List UInt8) (hw : l[i] = w) (hL : w.length ≤ 1000000) : ∀ m j : Nat, j ≤ w.length → w.length - j < m → rIdents_loop1 n m z l (i : Int) (j : Int) = some (if (w.drop j).all isSg = true then Sum.inr ((z, (l, ((i : Int), ()))), ((), ())) else Sum.inl ((false, ()), ((), ())))
  | 0, j, _, h => absurd h (Nat.not_lt_zero _)
  | m + 1, j, hj, h => by
    rw [rIdents_loop1_succ]
    unfold rIdents_l1
    have e0 : idxL l ((i : Nat) : Int) = some w := by rw [idx_lt hi, hw]
    by_cases c0 : j < w.length
    · have c0' : ((j : Nat) : Int) < ((w.length : Nat) : Int) := by omega
      have ih := rIdents_loop1P n z l i hi w hw hL m (j + 1) (by omega) (by omega)
      have hd : w.drop j = w[j] :: w.drop (j + 1) := (List.drop_eq_getElem_cons c0)
      simp only [e0, Option.bind_some, c0', decide_true, cond_true, sAt_lt c0, letO, wrap_succ (show j < 4611686018427387904 by omega), ih, hd, List.all_cons, sg_bools]
      cases decide ((97 : Int) ≤ ((w[j].toNat : Nat) : Int)) <;> cases decide (((w[j].toNat : Nat) : Int) ≤ (122 : Int)) <;> cases decide ((65 : Int) ≤ ((w[j].toNat : Nat) : Int)) <;> cases decide (((w[j].toNat : Nat) : Int) ≤ (90 : Int)) <;> cases decide ((48 : Int) ≤ ((w[j].toNat : Nat) : Int)) <;> cases decide (((w[j].toNat : Nat) : Int) ≤ (57 : Int)) <;> cases decide (((w[j].toNat : Nat) : Int) = (45 : Int)) <;> rfl
    · have c0' : ¬ ((j : Nat) : Int) < ((w.length : Nat) : Int) := by omega
      have : w.drop j = [] := List.drop_eq_nil_of_le (by omega)
      simp only [e0, Option.bind_some, c0', decide_false, cond_false, this, List.all_nil, if_true]
def identOk (z : Bool) (w : List UInt8) : Bool := isPartS w && (z || !(isNumS w && (decide (1 < w.length) && decide (w.head? = some 48))))
theorem identOk_true (w : List UInt8) : identOk true w = isPartS w := by unfold identOk; simp
theorem identOk_false (w : List UInt8) : identOk false w = isPreS w := by
  unfold identOk isPreS
  cases w with
  | nil => simp [isPartS]
  | cons c r =>
    cases hn : isNumS (c :: r) with
    | false => simp
    | true =>
      by_cases hc : c = 48
      · subst hc
        cases r with
        | nil => simp
        | cons d r => simp
      · simp [hc]
theorem rIdents_loopP (n : Nat) (z : Bool) (l : List (List UInt8)) (hl : l.length ≤ 1000000) (hw : ∀ w ∈ l, w.length ≤ 1000000 ∧ w.length < n) : ∀ m i : Nat, i ≤ l.length → l.length - i < m → rIdents_loop0 n m z l (i : Int) = some (if (l.drop i).all (identOk z) = true then Sum.inr ((), ((), ())) else Sum.inl ((false, ()), ((), ())))
  | 0, j, _, h => absurd h (Nat.not_lt_zero _)
  | m + 1, i, hi, h => by
    rw [rIdents_loop0_succ]
    unfold rIdents_l0
    by_cases c0 : i < l.length
    · have c0' : ((i : Nat) : Int) < ((l.length : Nat) : Int) := by omega
      have ih := rIdents_loopP n z l hl hw m (i + 1) (by omega) (by omega)
      have hd : l.drop i = l[i] :: l.drop (i + 1) := (List.drop_eq_getElem_cons c0)
      have hww := hw l[i] (List.getElem_mem c0)
      have h1 := rIdents_loop1P n z l i c0 l[i] rfl hww.1 n 0 (Nat.zero_le _) (by omega)
      rw [show ((0 : Nat) : Int) = (0 : Int) from rfl, List.drop_zero] at h1
      rw [hd, List.all_cons]
      simp only [c0', decide_true, cond_true, h1, Option.bind_some]
      rw [show identOk z l[i] = ((l[i].all isSg && !decide (l[i] = [])) && (z || !(isNumS l[i] && (decide (1 < l[i].length) && decide (l[i].head? = some 48))))) from rfl]
      cases hs : l[i].all isSg with
      | false => simp
      | true =>
        simp only [if_true, Sum.elim_inr, idx_lt c0, Option.bind_some, rDigits_spec n _ hww.1 hww.2, letO, wrap_succ (show i < 4611686018427387904 by omega), ih]
        generalize hx : l[i] = x at hs hww
        cases x with
        | nil => simp
        | cons c r =>
          have h0 : sAt (c :: r) (0 : Int) = some ((c.toNat : Nat) : Int) := sAt_lt (s := c :: r) (j := 0) (by simp)
          have h2 : decide (((c.toNat : Nat) : Int) = (48 : Int)) = decide ((c :: r).head? = some 48) := decide_eq_decide.2 (by
            simp only [List.head?_cons, Option.some.injEq]
            constructor
            · intro h; exact UInt8.toNat_inj.1 (by have e48 : (48 : UInt8).toNat = 48 := rfl; rw [e48]; omega)
            · rintro rfl; rfl)
          have h3 : decide ((1 : Int) < (((c :: r).length : Nat) : Int)) = decide (1 < (c :: r).length) := decide_eq_decide.2 (by omega)
          have e0 : decide (c :: r = ([] : List UInt8)) = false := by simp
          simp only [h0, h2, h3, e0, Option.bind_some, cond_false]
          cases z <;> cases isNumS (c :: r) <;> cases decide (1 < (c :: r).length) <;> cases decide ((c :: r).head? = some 48) <;> simp
    · have c0' : ¬ ((i : Nat) : Int) < ((l.length : Nat) : Int) := by omega
      have : l.drop i = [] := List.drop_eq_nil_of_le (by omega)
      simp only [c0', decide_false, cond_false, this, List.all_nil, if_true]
theorem rIdents_spec (n : Nat) (s : List UInt8) (z : Bool) (hs : s.length ≤ 100000) (hn : s.length + 2 < n) : rIdents_t n s z = some ((spl 46 [] s).all (identOk z)) := by
  unfold rIdents_t
  have e1 : rSplit5_t n s (46 : Int) = some (spl 46 [] s) := rSplit5_P n s 46 (by omega) (by omega)
  rw [e1]
  have k := spl_len 46 s []
  have h := rIdents_loopP n z (spl 46 [] s) (by omega) (fun w hw => by have := spl_mem 46 s [] w hw; simp at this; omega) n 0 (Nat.zero_le _) (by omega)
  rw [show ((0 : Nat) : Int) = (0 : Int) from rfl, List.drop_zero] at h
  simp only [Option.bind_some, h]
  cases (spl 46 [] s).all (identOk z) <;> rfl
theorem rNum_spec (n : Nat) (a : Int) : rNum_t n a = some (numS a) := by
  unfold rNum_t numS
  cases decide ((0 : Int) ≤ a) <;> rfl
theorem rCheck_spec (n : Nat) (v : VD) (hn : 100 ≤ n) : rCheck_t n v = some (checkS v) := by
  unfold rCheck_t checkS
  simp only [rNum_spec, Option.bind_some]
  cases numS v.1 with
  | false => rfl
  | true => cases numS v.2.1 with
    | false => rfl
    | true => cases numS v.2.2.1 with
      | false => rfl
      | true =>
        simp only [Bool.not_true, cond_false, Bool.true_and]
        unfold tailS
        have f1 : (identOk true) = isPartS := funext identOk_true
        have f2 : (identOk false) = isPreS := funext identOk_false
        by_cases c1 : (30 : Int) < ((v.2.2.2.1.length : Nat) : Int)
        · have e1 : v.2.2.2.1 ≠ [] := fun e => by rw [e] at c1; simp at c1
          have e2 : ¬ v.2.2.2.1.length ≤ 30 := by omega
          simp [c1, e1, e2]
        · by_cases c2 : (30 : Int) < ((v.2.2.2.2.length : Nat) : Int)
          · have e1 : v.2.2.2.2 ≠ [] := fun e => by rw [e] at c2; simp at c2
            have e2 : ¬ v.2.2.2.2.length ≤ 30 := by omega
            simp [c1, c2, e1, e2]
          · have l1 : v.2.2.2.1.length ≤ 30 := by omega
            have l2 : v.2.2.2.2.length ≤ 30 := by omega
            have r1 := rIdents_spec n v.2.2.2.1 false (by omega) (by omega)
            have r2 := rIdents_spec n v.2.2.2.2 true (by omega) (by omega)
            rw [f2] at r1
            rw [f1] at r2
            simp only [c1, c2, decide_false, cond_false, r1, r2, l1, l2, decide_true, Bool.true_and, Option.bind_some]
            by_cases p : v.2.2.2.1 = []
            · by_cases q : v.2.2.2.2 = [] <;> simp [p, q]
            · by_cases q : v.2.2.2.2 = []
              · simp only [p, q, decide_false, decide_true, cond_false, cond_true, Bool.false_or, Bool.true_or, Bool.and_true]
                cases (spl 46 [] v.2.2.2.1).all isPreS <;> rfl
              · simp only [p, q, decide_false, decide_true, cond_false, cond_true, Bool.false_or]
                cases (spl 46 [] v.2.2.2.1).all isPreS <;> rfl
end Go.Proofs.YtgihkohggalefabGreatDoor.AM
