/- One text of FilS1, FilS2, FilS3, FilS4, FilS5, FilL, FilO, FilD, FilE, FilF (mk/merge.py). -/
import Derived.Test.YtaglhmoldbndkaaDoorSp11
import Derived.Test.YtaglhmoldbndkaaDoorSp8
/- Layer 5: what is told of lists of files: what the functions come to. -/
namespace Go.Proofs.YtaglhmoldbndkaaDoor.AM
open Go.RowKit
set_option linter.unusedVariables false
set_option linter.unusedSimpArgs false
theorem rise_at (l : List FD) (j : Nat) (h : j < l.length) (h0 : 0 < j) : riseS (l.drop (j - 1)) = (ltS (l[j - 1]'(by omega)).1 l[j].1 && riseS (l.drop j)) := by
  have e1 : l.drop (j - 1) = l[j - 1] :: l.drop j := by
    have := List.drop_eq_getElem_cons (l := l) (i := j - 1) (by omega)
    rw [this]; congr 2; omega
  have e2 : l.drop j = l[j] :: l.drop (j + 1) := List.drop_eq_getElem_cons h
  rw [e1, e2, riseS]
theorem fMay_loop (n : Nat) (l : List FD) (hL : l.length ≤ 1000000) : ∀ m j : Nat, j ≤ l.length → l.length - j < m → fMay_loop0 n m l l ((l.length : Nat) : Int) (j : Int) = some (if ((l.drop j).all okF && riseS (l.drop (j - 1))) = true then Sum.inr ((), ((), ())) else Sum.inl ((false, ()), ((), ())))
  | 0, j, _, h => absurd h (Nat.not_lt_zero _)
  | m + 1, j, hj, h => by
    rw [fMay_loop0_succ]
    unfold fMay_l0
    by_cases c0 : j < l.length
    · have c0' : ((j : Nat) : Int) < ((l.length : Nat) : Int) := by omega
      have ih := fMay_loop n l hL m (j + 1) (by omega) (by omega)
      have hd : l.drop j = l[j] :: l.drop (j + 1) := (List.drop_eq_getElem_cons c0)
      have e4 : fPath_t l[j].1 = some (pathS l[j].1) := rfl
      have eo : (l.drop j).all okF = ((pathS l[j].1 && decide (l[j].2.length ≤ 4096)) && (l.drop (j + 1)).all okF) := by rw [hd, List.all_cons]; rfl
      rw [eo]
      simp only [c0', decide_true, cond_true, idx_lt c0, Option.bind_some, e4, letO, wrap_succ (show j < 4611686018427387904 by omega), ih, Nat.add_sub_cancel]
      cases pathS l[j].1 with
      | false => simp
      | true =>
        by_cases c1 : l[j].2.length ≤ 4096
        · have c1' : ¬ (4096 : Int) < ((l[j].2.length : Nat) : Int) := by omega
          by_cases c2 : 0 < j
          · have c2' : (0 : Int) < ((j : Nat) : Int) := by omega
            have w1 : IntKind.wrap .i64 (((j : Nat) : Int) - 1) = ((j - 1 : Nat) : Int) := by rw [wrap64 (by omega) (by omega)]; omega
            rw [rise_at l j c0 c2]
            simp only [c1, c1', c2', decide_true, decide_false, cond_true, cond_false, Bool.not_true, w1, idx_lt (show j - 1 < l.length by omega), Option.bind_some, Bool.true_and]
            cases ltS (l[j - 1]'(by omega)).1 l[j].1 with
            | true => simp only [Bool.not_true, cond_false, Bool.true_and]
            | false => simp
          · have c2' : ¬ (0 : Int) < ((j : Nat) : Int) := by omega
            have hj0 : j = 0 := by omega
            subst hj0
            simp only [c1, c1', decide_true, decide_false, cond_true, cond_false, Bool.not_true, Bool.true_and, Int.lt_irrefl, Int.natCast_zero, Nat.zero_sub]
        · have c1' : (4096 : Int) < ((l[j].2.length : Nat) : Int) := by omega
          simp [c1, c1']
    · have c0' : ¬ ((j : Nat) : Int) < ((l.length : Nat) : Int) := by omega
      have e1 : l.drop j = [] := List.drop_eq_nil_of_le (by omega)
      have e2 : riseS (l.drop (j - 1)) = true := by
        by_cases hz : l.length = 0
        · rw [List.drop_eq_nil_of_le (by omega)]; rfl
        · have := List.drop_eq_getElem_cons (l := l) (i := j - 1) (by omega)
          rw [this, show j - 1 + 1 = j from by omega, e1]; rfl
      simp [c0', e1, e2]
theorem fMay_spec (n : Nat) (l : List FD) (hL : l.length ≤ 1000000) (hn : l.length < n) : fMay_t n l = some (mayS l) := by
  unfold fMay_t mayS
  have := fMay_loop n l hL n 0 (Nat.zero_le _) (by omega)
  rw [show ((0 : Nat) : Int) = (0 : Int) from rfl] at this
  by_cases c : l.length ≤ 40
  · have c' : ¬ (40 : Int) < ((l.length : Nat) : Int) := by omega
    simp only [c, c', decide_true, decide_false, cond_false, this, Option.bind_some, List.drop_zero, Nat.zero_sub, Bool.true_and]
    cases (l.all okF && riseS l) <;> rfl
  · have c' : (40 : Int) < ((l.length : Nat) : Int) := by omega
    simp [c, c']
theorem r5May_loop (n : Nat) (l : List FD) (hL : l.length ≤ 1000000) (hp : ∀ f ∈ l, f.1.length ≤ 1000000) (hn : 100 ≤ n) : ∀ m j : Nat, j ≤ l.length → l.length - j < m → r5May_loop0 n m l (j : Int) = some (if ((l.drop j).all okF && riseS (l.drop (j - 1))) = true then Sum.inr ((l, ()), ((), ())) else Sum.inl ((false, ()), ((), ())))
  | 0, j, _, h => absurd h (Nat.not_lt_zero _)
  | m + 1, j, hj, h => by
    rw [r5May_loop0_succ]
    unfold r5May_l0
    by_cases c0 : j < l.length
    · have c0' : ((j : Nat) : Int) < ((l.length : Nat) : Int) := by omega
      have ih := r5May_loop n l hL hp hn m (j + 1) (by omega) (by omega)
      have hd : l.drop j = l[j] :: l.drop (j + 1) := (List.drop_eq_getElem_cons c0)
      have e4 : rPath5_t n l[j].1 = some (pathS l[j].1) := rPath5_spec n _ (hp _ (List.getElem_mem c0)) hn
      have eo : (l.drop j).all okF = ((pathS l[j].1 && decide (l[j].2.length ≤ 4096)) && (l.drop (j + 1)).all okF) := by rw [hd, List.all_cons]; rfl
      rw [eo]
      simp only [c0', decide_true, cond_true, idx_lt c0, Option.bind_some, e4, letO, wrap_succ (show j < 4611686018427387904 by omega), ih, Nat.add_sub_cancel]
      cases pathS l[j].1 with
      | false => simp
      | true =>
        by_cases c1 : l[j].2.length ≤ 4096
        · have c1' : ¬ (4096 : Int) < ((l[j].2.length : Nat) : Int) := by omega
          by_cases c2 : 0 < j
          · have c2' : (0 : Int) < ((j : Nat) : Int) := by omega
            have w1 : IntKind.wrap .i64 (((j : Nat) : Int) - 1) = ((j - 1 : Nat) : Int) := by rw [wrap64 (by omega) (by omega)]; omega
            rw [rise_at l j c0 c2]
            simp only [c1, c1', c2', decide_true, decide_false, cond_true, cond_false, Bool.not_true, w1, idx_lt (show j - 1 < l.length by omega), Option.bind_some, Bool.true_and]
            cases ltS (l[j - 1]'(by omega)).1 l[j].1 with
            | true => simp only [Bool.not_true, cond_false, Bool.true_and]
            | false => simp
          · have c2' : ¬ (0 : Int) < ((j : Nat) : Int) := by omega
            have hj0 : j = 0 := by omega
            subst hj0
            simp only [c1, c1', decide_true, decide_false, cond_true, cond_false, Bool.not_true, Bool.true_and, Int.lt_irrefl, Int.natCast_zero, Nat.zero_sub]
        · have c1' : (4096 : Int) < ((l[j].2.length : Nat) : Int) := by omega
          simp [c1, c1']
    · have c0' : ¬ ((j : Nat) : Int) < ((l.length : Nat) : Int) := by omega
      have e1 : l.drop j = [] := List.drop_eq_nil_of_le (by omega)
      have e2 : riseS (l.drop (j - 1)) = true := by
        by_cases hz : l.length = 0
        · rw [List.drop_eq_nil_of_le (by omega)]; rfl
        · have := List.drop_eq_getElem_cons (l := l) (i := j - 1) (by omega)
          rw [this, show j - 1 + 1 = j from by omega, e1]; rfl
      simp [c0', e1, e2]
theorem r5May_spec (n : Nat) (l : List FD) (hL : l.length ≤ 1000000) (hp : ∀ f ∈ l, f.1.length ≤ 1000000) (hn : 100 ≤ n) (hn2 : l.length < n) : r5May_t n l = some (mayS l) := by
  unfold r5May_t mayS
  have := r5May_loop n l hL hp hn n 0 (Nat.zero_le _) (by omega)
  rw [show ((0 : Nat) : Int) = (0 : Int) from rfl] at this
  rw [this]
  have hc : decide (((l.length : Nat) : Int) ≤ (40 : Int)) = decide (l.length ≤ 40) := decide_eq_decide.2 (by omega)
  simp only [List.drop_zero, Nat.zero_sub]
  cases (l.all okF && riseS l) with
  | true => simp only [if_true, Option.bind_some, Sum.elim_inr, hc, Bool.and_true]
  | false => simp
/-! what is got -/
theorem fGet_loop (n : Nat) (p : List UInt8) (l : List FD) (hL : l.length ≤ 1000000) : ∀ m j : Nat, j ≤ l.length → l.length - j < m → fGet_loop0 n m p l ((l.length : Nat) : Int) (j : Int) = some (if (getS (l.drop j) p).2 = true then Sum.inl (((getS (l.drop j) p).1, (true, ())), ((), ())) else Sum.inr ((), ((), ())))
  | 0, j, _, h => absurd h (Nat.not_lt_zero _)
  | m + 1, j, hj, h => by
    rw [fGet_loop0_succ]
    unfold fGet_l0
    by_cases c0 : j < l.length
    · have c0' : ((j : Nat) : Int) < ((l.length : Nat) : Int) := by omega
      have ih := fGet_loop n p l hL m (j + 1) (by omega) (by omega)
      have hd : l.drop j = l[j] :: l.drop (j + 1) := (List.drop_eq_getElem_cons c0)
      have hg : getS (l.drop j) p = if l[j].1 = p then (l[j].2, true) else getS (l.drop (j + 1)) p := by rw [hd, getS]
      rw [hg]
      simp only [c0', decide_true, cond_true, idx_lt c0, Option.bind_some, letO, wrap_succ (show j < 4611686018427387904 by omega), ih]
      by_cases c1 : l[j].1 = p
      · simp [c1]
      · simp [c1]
    · have c0' : ¬ ((j : Nat) : Int) < ((l.length : Nat) : Int) := by omega
      have e1 : l.drop j = [] := List.drop_eq_nil_of_le (by omega)
      simp [c0', e1, getS]
theorem fGet_spec (n : Nat) (l : List FD) (p : List UInt8) (hL : l.length ≤ 1000000) (hn : l.length < n) : fGet_t n l p = some (getS l p) := by
  unfold fGet_t
  have := fGet_loop n p l hL n 0 (Nat.zero_le _) (by omega)
  rw [show ((0 : Nat) : Int) = (0 : Int) from rfl, List.drop_zero] at this
  rw [this]
  cases h : (getS l p).2 with
  | true =>
    have : getS l p = ((getS l p).1, true) := by rw [← h]
    simp only [if_true, Option.bind_some, Sum.elim_inl]
    rw [← this]
  | false => rw [getS_none h]; rfl
theorem r5Get_loop (n : Nat) (p : List UInt8) (l : List FD) (hL : l.length ≤ 1000000) : ∀ m j : Nat, j ≤ l.length → l.length - j < m → r5Get_loop0 n m l p (j : Int) = some (if (getS (l.drop j) p).2 = true then Sum.inl (((getS (l.drop j) p).1, (true, ())), ((), ())) else Sum.inr ((), ((), ())))
  | 0, j, _, h => absurd h (Nat.not_lt_zero _)
  | m + 1, j, hj, h => by
    rw [r5Get_loop0_succ]
    unfold r5Get_l0
    by_cases c0 : j < l.length
    · have c0' : ((j : Nat) : Int) < ((l.length : Nat) : Int) := by omega
      have ih := r5Get_loop n p l hL m (j + 1) (by omega) (by omega)
      have hd : l.drop j = l[j] :: l.drop (j + 1) := (List.drop_eq_getElem_cons c0)
      have hg : getS (l.drop j) p = if l[j].1 = p then (l[j].2, true) else getS (l.drop (j + 1)) p := by rw [hd, getS]
      rw [hg]
      simp only [c0', decide_true, cond_true, idx_lt c0, Option.bind_some, letO, wrap_succ (show j < 4611686018427387904 by omega), ih]
      by_cases c1 : l[j].1 = p
      · simp [c1]
      · simp [c1]
    · have c0' : ¬ ((j : Nat) : Int) < ((l.length : Nat) : Int) := by omega
      have e1 : l.drop j = [] := List.drop_eq_nil_of_le (by omega)
      simp [c0', e1, getS]
theorem r5Get_spec (n : Nat) (l : List FD) (p : List UInt8) (hL : l.length ≤ 1000000) (hn : l.length < n) : r5Get_t n l p = some (getS l p) := by
  unfold r5Get_t
  have := r5Get_loop n p l hL n 0 (Nat.zero_le _) (by omega)
  rw [show ((0 : Nat) : Int) = (0 : Int) from rfl, List.drop_zero] at this
  rw [this]
  cases h : (getS l p).2 with
  | true =>
    have : getS l p = ((getS l p).1, true) := by rw [← h]
    simp only [if_true, Option.bind_some, Sum.elim_inl]
    rw [← this]
  | false => rw [getS_none h]; rfl
/-! whether two lists are the same -/
theorem eq_FD (x y : FD) : (decide (x.1 = y.1) && (decide (x.2 = y.2) && true)) = decide (x = y) := by
  rw [Bool.and_true, ← Bool.decide_and]; exact decide_eq_decide.2 Prod.ext_iff.symm
theorem eq_OD (x y : OD) : (decide (x.1 = y.1) && (decide (x.2.1 = y.2.1) && (decide (x.2.2 = y.2.2) && true))) = decide (x = y) := by
  rw [Bool.and_true, ← Bool.decide_and, ← Bool.decide_and]; exact decide_eq_decide.2 (by rw [Prod.ext_iff, Prod.ext_iff])
theorem r5Same_loop (n : Nat) (l k : List FD) (hk : l.length = k.length) (hL : l.length ≤ 1000000) : ∀ m j : Nat, j ≤ l.length → l.length - j < m → r5Same_loop0 n m l k (j : Int) = some (if l.drop j = k.drop j then Sum.inr ((), ((), ())) else Sum.inl ((false, ()), ((), ())))
  | 0, j, _, h => absurd h (Nat.not_lt_zero _)
  | m + 1, j, hj, h => by
    rw [r5Same_loop0_succ]
    unfold r5Same_l0
    by_cases c0 : j < l.length
    · have c0' : ((j : Nat) : Int) < ((l.length : Nat) : Int) := by omega
      have ih := r5Same_loop n l k hk hL m (j + 1) (by omega) (by omega)
      have h1 : l.drop j = l[j] :: l.drop (j + 1) := (List.drop_eq_getElem_cons c0)
      have h2 : k.drop j = k[j] :: k.drop (j + 1) := (List.drop_eq_getElem_cons (by omega))
      simp only [c0', decide_true, cond_true, idx_lt c0, idx_lt (show j < k.length by omega), Option.bind_some, letO, wrap_succ (show j < 4611686018427387904 by omega), ih, eq_FD, h1, h2, List.cons.injEq]
      by_cases c1 : l[j] = k[j]
      · simp [c1]
      · simp [c1]
    · have c0' : ¬ ((j : Nat) : Int) < ((l.length : Nat) : Int) := by omega
      have e1 : l.drop j = [] := List.drop_eq_nil_of_le (by omega)
      have e2 : k.drop j = [] := List.drop_eq_nil_of_le (by omega)
      simp [c0', e1, e2]
theorem r5Same_spec (n : Nat) (l k : List FD) (hL : l.length ≤ 1000000) (hn : l.length < n) : r5Same_t n l k = some (decide (l = k)) := by
  unfold r5Same_t
  by_cases hk : l.length = k.length
  · have := r5Same_loop n l k hk hL n 0 (Nat.zero_le _) (by omega)
    rw [show ((0 : Nat) : Int) = (0 : Int) from rfl, List.drop_zero, List.drop_zero] at this
    simp only [← hk, decide_true, Bool.not_true, cond_false, this, Option.bind_some]
    by_cases h : l = k
    · simp [h]
    · simp [h]
  · have c : ¬ ((l.length : Nat) : Int) = ((k.length : Nat) : Int) := by omega
    have h : ¬ l = k := fun h => hk (by rw [h])
    simp [c, h]
theorem r5Ops_loop (n : Nat) (l k : List OD) (hk : l.length = k.length) (hL : l.length ≤ 1000000) : ∀ m j : Nat, j ≤ l.length → l.length - j < m → r5Ops_loop0 n m l k (j : Int) = some (if l.drop j = k.drop j then Sum.inr ((), ((), ())) else Sum.inl ((false, ()), ((), ())))
  | 0, j, _, h => absurd h (Nat.not_lt_zero _)
  | m + 1, j, hj, h => by
    rw [r5Ops_loop0_succ]
    unfold r5Ops_l0
    by_cases c0 : j < l.length
    · have c0' : ((j : Nat) : Int) < ((l.length : Nat) : Int) := by omega
      have ih := r5Ops_loop n l k hk hL m (j + 1) (by omega) (by omega)
      have h1 : l.drop j = l[j] :: l.drop (j + 1) := (List.drop_eq_getElem_cons c0)
      have h2 : k.drop j = k[j] :: k.drop (j + 1) := (List.drop_eq_getElem_cons (by omega))
      simp only [c0', decide_true, cond_true, idx_lt c0, idx_lt (show j < k.length by omega), Option.bind_some, letO, wrap_succ (show j < 4611686018427387904 by omega), ih, eq_OD, h1, h2, List.cons.injEq]
      by_cases c1 : l[j] = k[j]
      · simp [c1]
      · simp [c1]
    · have c0' : ¬ ((j : Nat) : Int) < ((l.length : Nat) : Int) := by omega
      have e1 : l.drop j = [] := List.drop_eq_nil_of_le (by omega)
      have e2 : k.drop j = [] := List.drop_eq_nil_of_le (by omega)
      simp [c0', e1, e2]
theorem r5Ops_spec (n : Nat) (l k : List OD) (hL : l.length ≤ 1000000) (hn : l.length < n) : r5Ops_t n l k = some (decide (l = k)) := by
  unfold r5Ops_t
  by_cases hk : l.length = k.length
  · have := r5Ops_loop n l k hk hL n 0 (Nat.zero_le _) (by omega)
    rw [show ((0 : Nat) : Int) = (0 : Int) from rfl, List.drop_zero, List.drop_zero] at this
    simp only [← hk, decide_true, Bool.not_true, cond_false, this, Option.bind_some]
    by_cases h : l = k
    · simp [h]
    · simp [h]
  · have c : ¬ ((l.length : Nat) : Int) = ((k.length : Nat) : Int) := by omega
    have h : ¬ l = k := fun h => hk (by rw [h])
    simp [c, h]
/-! few, of little -/
theorem wrap_succM {i : Nat} (h : i + 1 ≤ 9223372036854775807) : IntKind.wrap .i64 ((i : Int) + 1) = ((i + 1 : Nat) : Int) := by rw [wrap64 (by omega) (by omega)]; rfl
theorem r5Small_loop (n : Nat) (l : List FD) (hL : l.length ≤ 9223372036854775807) : ∀ m j : Nat, j ≤ l.length → l.length - j < m → r5Small_loop0 n m l (j : Int) = some (if ((l.drop j).all fun f => decide (f.1.length ≤ 200) && decide (f.2.length ≤ 5000)) = true then Sum.inr ((l, ()), ((), ())) else Sum.inl ((false, ()), ((), ())))
  | 0, j, _, h => absurd h (Nat.not_lt_zero _)
  | m + 1, j, hj, h => by
    rw [r5Small_loop0_succ]
    unfold r5Small_l0
    by_cases c0 : j < l.length
    · have c0' : ((j : Nat) : Int) < ((l.length : Nat) : Int) := by omega
      have ih := r5Small_loop n l hL m (j + 1) (by omega) (by omega)
      have h1 : l.drop j = l[j] :: l.drop (j + 1) := (List.drop_eq_getElem_cons c0)
      simp only [c0', decide_true, cond_true, idx_lt c0, Option.bind_some, letO, wrap_succM (show j + 1 ≤ 9223372036854775807 by omega), ih, h1, List.all_cons]
      by_cases c1 : l[j].1.length ≤ 200
      · have c1' : ¬ (200 : Int) < ((l[j].1.length : Nat) : Int) := by omega
        by_cases c2 : l[j].2.length ≤ 5000
        · have c2' : ¬ (5000 : Int) < ((l[j].2.length : Nat) : Int) := by omega
          simp only [c1, c1', c2, c2', decide_true, decide_false, cond_false, Bool.true_and]
        · have c2' : (5000 : Int) < ((l[j].2.length : Nat) : Int) := by omega
          simp [c1, c1', c2, c2']
      · have c1' : (200 : Int) < ((l[j].1.length : Nat) : Int) := by omega
        simp [c1, c1']
    · have c0' : ¬ ((j : Nat) : Int) < ((l.length : Nat) : Int) := by omega
      have e1 : l.drop j = [] := List.drop_eq_nil_of_le (by omega)
      simp [c0', e1]
theorem r5Small_spec (n : Nat) (l : List FD) (hL : l.length ≤ 9223372036854775807) (hn : l.length < n) : r5Small_t n l = some (smallF l) := by
  unfold r5Small_t smallF
  have := r5Small_loop n l hL n 0 (Nat.zero_le _) (by omega)
  rw [show ((0 : Nat) : Int) = (0 : Int) from rfl, List.drop_zero] at this
  rw [this]
  have hc : decide (((l.length : Nat) : Int) ≤ (60 : Int)) = decide (l.length ≤ 60) := decide_eq_decide.2 (by omega)
  cases (l.all fun f => decide (f.1.length ≤ 200) && decide (f.2.length ≤ 5000)) with
  | true => simp only [if_true, Option.bind_some, Sum.elim_inr, hc, Bool.true_and]
  | false => simp
theorem r5Few_loop (n : Nat) (l : List OD) (hL : l.length ≤ 9223372036854775807) : ∀ m j : Nat, j ≤ l.length → l.length - j < m → r5Few_loop0 n m l (j : Int) = some (if ((l.drop j).all fun o => decide (o.2.1.length ≤ 200) && decide (o.2.2.length ≤ 5000)) = true then Sum.inr ((l, ()), ((), ())) else Sum.inl ((false, ()), ((), ())))
  | 0, j, _, h => absurd h (Nat.not_lt_zero _)
  | m + 1, j, hj, h => by
    rw [r5Few_loop0_succ]
    unfold r5Few_l0
    by_cases c0 : j < l.length
    · have c0' : ((j : Nat) : Int) < ((l.length : Nat) : Int) := by omega
      have ih := r5Few_loop n l hL m (j + 1) (by omega) (by omega)
      have h1 : l.drop j = l[j] :: l.drop (j + 1) := (List.drop_eq_getElem_cons c0)
      simp only [c0', decide_true, cond_true, idx_lt c0, Option.bind_some, letO, wrap_succM (show j + 1 ≤ 9223372036854775807 by omega), ih, h1, List.all_cons]
      by_cases c1 : l[j].2.1.length ≤ 200
      · have c1' : ¬ (200 : Int) < ((l[j].2.1.length : Nat) : Int) := by omega
        by_cases c2 : l[j].2.2.length ≤ 5000
        · have c2' : ¬ (5000 : Int) < ((l[j].2.2.length : Nat) : Int) := by omega
          simp only [c1, c1', c2, c2', decide_true, decide_false, cond_false, Bool.true_and]
        · have c2' : (5000 : Int) < ((l[j].2.2.length : Nat) : Int) := by omega
          simp [c1, c1', c2, c2']
      · have c1' : (200 : Int) < ((l[j].2.1.length : Nat) : Int) := by omega
        simp [c1, c1']
    · have c0' : ¬ ((j : Nat) : Int) < ((l.length : Nat) : Int) := by omega
      have e1 : l.drop j = [] := List.drop_eq_nil_of_le (by omega)
      simp [c0', e1]
theorem r5Few_spec (n : Nat) (l : List OD) (hL : l.length ≤ 9223372036854775807) (hn : l.length < n) : r5Few_t n l = some (fewO l) := by
  unfold r5Few_t fewO
  have := r5Few_loop n l hL n 0 (Nat.zero_le _) (by omega)
  rw [show ((0 : Nat) : Int) = (0 : Int) from rfl, List.drop_zero] at this
  rw [this]
  have hc : decide (((l.length : Nat) : Int) ≤ (100 : Int)) = decide (l.length ≤ 100) := decide_eq_decide.2 (by omega)
  cases (l.all fun o => decide (o.2.1.length ≤ 200) && decide (o.2.2.length ≤ 5000)) with
  | true => simp only [if_true, Option.bind_some, Sum.elim_inr, hc, Bool.true_and]
  | false => simp
/-! whether an op alone can be laid -/
theorem fCheck_spec (n : Nat) (o : OD) : fCheck_t n o = some (chkS o) := by
  have e4 : fPath_t o.2.1 = some (pathS o.2.1) := rfl
  unfold fCheck_t chkS
  simp only [e4, Option.bind_some]
  have hc : decide ((4096 : Int) < ((o.2.2.length : Nat) : Int)) = decide (4096 < o.2.2.length) := decide_eq_decide.2 (by omega)
  rw [hc]
  cases pathS o.2.1 with
  | false => rfl
  | true =>
    by_cases h : 4096 < o.2.2.length
    · cases o.1 with
      | false => simp [h]
      | true => by_cases h2 : o.2.2 = []
                · simp [h2]
                · simp [h, h2]
    · cases o.1 with
      | false => simp [h]
      | true => by_cases h2 : o.2.2 = []
                · simp [h2]
                · simp [h, h2]
end Go.Proofs.YtaglhmoldbndkaaDoor.AM

/- Layer 5: differences: what the functions come to. -/
namespace Go.Proofs.YtaglhmoldbndkaaDoor.AM
open Go.RowKit
set_option linter.unusedVariables false
set_option linter.unusedSimpArgs false
theorem app40 {ops : List OD} (h : ops.length ≤ 1000000) (r : OD) : appO 40 ops [r] = some (ops ++ [r]) := if_pos (by simp; omega)
end Go.Proofs.YtaglhmoldbndkaaDoor.AM

/- Layer 5: an op's bytes: what the functions come to. -/
namespace Go.Proofs.YtaglhmoldbndkaaDoor.AM
open Go.RowKit
set_option linter.unusedVariables false
set_option linter.unusedSimpArgs false
theorem catS {s t : List UInt8} (h : s.length + t.length ≤ 9223372036854775807) : catO s t = some (s ++ t) := if_pos h
theorem shr8 (k : Nat) : shrO .i64 ((k : Nat) : Int) (8 : Int) = some ((k / 256 : Nat) : Int) := by
  unfold shrO; rw [if_pos (by decide)]
  have e : (2 : Int) ^ (min (8 : Int).toNat (IntKind.bits .i64)) = 256 := by decide
  rw [e, Int.fdiv_eq_ediv_of_nonneg _ (by decide)]; rfl
theorem b8_mod (k : Nat) : b8 ((k : Nat) : Int) = b8 ((k % 256 : Nat) : Int) := by
  unfold b8
  rw [IntKind.wrap_u8, IntKind.wrap_u8]
  congr 2; omega
theorem fLay_spec (n : Nat) (o : OD) (h1 : o.2.1.length ≤ 1000000) (h2 : o.2.2.length ≤ 1000000) : fLay_t n o = some (layS o) := by
  unfold fLay_t layS
  simp only [letO, shr8, Option.bind_some, List.map_cons, List.map_nil]
  rw [catS (by simp; omega)]
  simp only [Option.bind_some]
  rw [catS (by simp; omega), catS (by simp; omega)]
  simp only [Option.bind_some]
  rw [catS (by simp; omega)]
  simp only [Option.bind_some]
  rw [catS (by simp; omega)]
  cases o.1 with
  | true => simp [b8]
  | false =>
    simp only [cond_false, Option.bind_some]
    have := b8_mod o.2.2.length
    unfold b8 at this ⊢
    simp [this]
theorem r5Encode_loop (n : Nat) (l : List OD) (hL : l.length ≤ 1000000) (hs : ∀ o ∈ l, o.2.1.length ≤ 1000000 ∧ o.2.2.length ≤ 1000000) (hn : 100 ≤ n) : ∀ (m j : Nat) (s : List UInt8), j ≤ l.length → l.length - j < m → s.length ≤ j * 3000000 →
    r5Encode_loop0 n m l s (j : Int) = some (if (encL (l.drop j)).2 = 0 then Sum.inr ((s ++ (encL (l.drop j)).1, ()), ((), ())) else Sum.inl (([], ((encL (l.drop j)).2, ())), ((), ())))
  | 0, j, s, _, h, _ => absurd h (Nat.not_lt_zero _)
  | m + 1, j, s, hj, h, hsl => by
    rw [r5Encode_loop0_succ]
    unfold r5Encode_l0
    by_cases c0 : j < l.length
    · have c0' : ((j : Nat) : Int) < ((l.length : Nat) : Int) := by omega
      have hd : l.drop j = l[j] :: l.drop (j + 1) := (List.drop_eq_getElem_cons c0)
      obtain ⟨hp1, hp2⟩ := hs _ (List.getElem_mem c0)
      have hx : idxL l ((j : Nat) : Int) = some l[j] := idx_lt c0
      have ih := fun s' hs' => r5Encode_loop n l hL hs hn m (j + 1) s' (by omega) (by omega) hs'
      rw [hd, hx]
      generalize l[j] = o at hp1 hp2
      obtain ⟨g, p, d⟩ := o
      dsimp only at hp1 hp2
      have e4 : rPath5_t n p = some (pathS p) := rPath5_spec n _ hp1 hn
      have wj : IntKind.wrap .i64 (((j : Nat) : Int) + 1) = ((j + 1 : Nat) : Int) := wrap_succ (by omega)
      have q1 : quoO .i64 ((d.length : Nat) : Int) (256 : Int) = some ((d.length / 256 : Nat) : Int) := by
        unfold quoO; rw [if_pos (by decide), Int.tdiv_eq_ediv_of_nonneg (by omega), wrap64 (by omega) (by omega)]; rfl
      have q2 : remO ((d.length : Nat) : Int) (256 : Int) = some ((d.length % 256 : Nat) : Int) := by
        unfold remO; rw [if_pos (by decide), Int.tmod_eq_emod_of_nonneg (by omega)]; rfl
      have o0 : UInt8.ofNat (0 : Int).toNat = 0 := rfl
      have o1 : UInt8.ofNat (1 : Int).toNat = 1 := rfl
      have hb : ∀ x : Int, UInt8.ofNat (IntKind.wrap .u8 x).toNat = b8 x := fun _ => rfl
      have hc : decide ((4096 : Int) < ((d.length : Nat) : Int)) = decide (4096 < d.length) := decide_eq_decide.2 (by omega)
      have fin : ∀ (L : List UInt8), layS (g, (p, d)) = L → chkS (g, (p, d)) = 0 → L.length ≤ 3000000 →
          r5Encode_loop0 n m l (s ++ L) ((j + 1 : Nat) : Int) = some (if (encL ((g, (p, d)) :: l.drop (j + 1))).2 = 0 then Sum.inr ((s ++ (encL ((g, (p, d)) :: l.drop (j + 1))).1, ()), ((), ())) else Sum.inl (([], ((encL ((g, (p, d)) :: l.drop (j + 1))).2, ())), ((), ()))) := fun L h1 h2 h3 => by
        rw [ih (s ++ L) (by rw [List.length_append]; omega), encL, if_pos h2, h1]
        by_cases he : (encL (l.drop (j + 1))).2 = 0
        · simp [he]
        · simp [he]
      have bad : ∀ e : Int, chkS (g, (p, d)) = e → e ≠ 0 → (some (Sum.inl (([], (e, ())), ((), ()))) : Option ((((List UInt8) × (Int × (Unit))) × (Unit) × (Unit)) ⊕ (((List UInt8) × (Unit)) × (Unit) × (Unit)))) = some (if (encL ((g, (p, d)) :: l.drop (j + 1))).2 = 0 then Sum.inr ((s ++ (encL ((g, (p, d)) :: l.drop (j + 1))).1, ()), ((), ())) else Sum.inl (([], ((encL ((g, (p, d)) :: l.drop (j + 1))).2, ())), ((), ()))) := fun e h1 h2 => by
        have he : encL ((g, (p, d)) :: l.drop (j + 1)) = ([], e) := by
          have hn0 : ¬ chkS (g, (p, d)) = 0 := fun h => h2 (h1.symm.trans h)
          rw [encL, if_neg hn0, h1]
        rw [he]; simp [h2]
      have key0 : (catO s [1, b8 p.length]).bind (fun s4 => catO s4 p) = some (s ++ ([1, b8 p.length] ++ p)) := by
        rw [catS (by simp; omega), Option.bind_some, catS (by simp; omega), List.append_assoc]
      have ck : (decide (4096 < d.length) = true → pathS p = true → (g = true → d = []) → chkS (g, (p, d)) = 2) := fun h1 h2 h3 => by
        unfold chkS
        have h1' : 4096 < d.length := of_decide_eq_true h1
        cases g with
        | true => rw [h3 rfl] at h1'; simp at h1'
        | false => simp [h2, h1']
      simp only [c0', decide_true, cond_true, Option.bind_some, e4, q1, q2, letO, wj, List.map_cons, List.map_nil, hb, o0, o1, hc]
      cases hp : pathS p with
      | false => exact bad 6 (by unfold chkS; simp [hp]) (by decide)
      | true =>
        by_cases c1 : 4096 < d.length
        · cases g with
          | true =>
            have hd0 : d ≠ [] := fun h => by rw [h] at c1; simp at c1
            simp only [hd0, decide_false, Bool.not_false, Bool.not_true, cond_true, cond_false]
            exact bad 1 (by unfold chkS; simp [hp, hd0]) (by decide)
          | false =>
            simp only [c1, decide_true, Bool.not_true, cond_true, cond_false]
            exact bad 2 (by unfold chkS; simp [hp, c1]) (by decide)
        · cases g with
          | true =>
            by_cases hd0 : d = []
            · subst hd0
              simp only [c1, decide_true, decide_false, Bool.not_true, Bool.not_false, cond_true, cond_false]
              rw [catS (by simp; omega)]
              simp only [Option.bind_some]
              rw [catS (by simp; omega)]
              simp only [Option.bind_some, List.append_assoc]
              exact fin _ (by unfold layS; simp) (by unfold chkS; simp [hp]) (by simp; omega)
            · simp only [hd0, decide_false, Bool.not_false, Bool.not_true, cond_true, cond_false]
              exact bad 1 (by unfold chkS; simp [hp, hd0]) (by decide)
          | false =>
            simp only [c1, decide_false, Bool.not_true, Bool.not_false, cond_true, cond_false]
            rw [catS (by simp; omega)]
            simp only [Option.bind_some]
            rw [catS (by simp; omega)]
            simp only [Option.bind_some]
            rw [catS (by simp; omega)]
            simp only [Option.bind_some]
            rw [catS (by simp; omega)]
            simp only [Option.bind_some, List.append_assoc]
            exact fin _ (by unfold layS; simp) (by unfold chkS; simp [hp, c1]) (by simp; omega)
    · have c0' : ¬ ((j : Nat) : Int) < ((l.length : Nat) : Int) := by omega
      have e1 : l.drop j = [] := List.drop_eq_nil_of_le (by omega)
      simp [c0', e1, encL]
theorem r5Encode_spec (n : Nat) (l : List OD) (hL : l.length ≤ 1000000) (hs : ∀ o ∈ l, o.2.1.length ≤ 1000000 ∧ o.2.2.length ≤ 1000000) (hn : 100 ≤ n) (hn2 : l.length < n) : r5Encode_t n l = some (encS l) := by
  unfold r5Encode_t encS
  have := r5Encode_loop n l hL hs hn n 0 [] (Nat.zero_le _) (by omega) (by simp)
  rw [show ((0 : Nat) : Int) = (0 : Int) from rfl, List.drop_zero] at this
  rw [this]
  by_cases he : (encL l).2 = 0
  · have hc : decide ((4096 : Int) < (((encL l).1.length : Nat) : Int)) = decide (4096 < (encL l).1.length) := decide_eq_decide.2 (by omega)
    by_cases h2 : 4096 < (encL l).1.length
    · have h2' : (4096 : Int) < (((encL l).1.length : Nat) : Int) := by omega
      simp [he, h2, h2']
    · have h2' : ¬ (4096 : Int) < (((encL l).1.length : Nat) : Int) := by omega
      simp [he, h2, h2']
  · simp [he]
end Go.Proofs.YtaglhmoldbndkaaDoor.AM

/- Layer 5: the op that stands first in some bytes, decoding: what the functions come to. -/
namespace Go.Proofs.YtaglhmoldbndkaaDoor.AM
open Go.RowKit
set_option linter.unusedVariables false
set_option linter.unusedSimpArgs false
theorem sAt_mid (A B : List UInt8) (x : UInt8) {j : Int} (hj : j = (A.length : Int)) : sAt (A ++ x :: B) j = some ((x.toNat : Nat) : Int) := by
  subst hj
  have := sAt_lt (s := A ++ x :: B) (j := A.length) (by simp)
  rw [this]; simp
theorem sub_mid {β : Type} (A B : List β) (m : Nat) (hm : m ≤ B.length) {i j : Int} (hi : i = (A.length : Int)) (hj : j = ((A.length + m : Nat) : Int)) : subO (A ++ B) i j = some (B.take m) := by
  subst hi; subst hj
  have := sub_le (l := A ++ B) (a := A.length) (b := A.length + m) (by omega) (by simp; omega)
  rw [this]
  rw [List.drop_left, Nat.add_sub_cancel_left]
theorem shl8 (x : UInt8) : shlO .i64 ((x.toNat : Nat) : Int) (8 : Int) = some ((256 * x.toNat : Nat) : Int) := by
  have hx := x.toNat_lt
  unfold shlO; rw [if_pos (by decide)]
  have e : (2 : Int) ^ (min (8 : Int).toNat (IntKind.bits .i64)) = 256 := by decide
  rw [e, wrap64 (by omega) (by omega)]; congr 1; omega
theorem or8 (x y : UInt8) : orI .i64 ((256 * x.toNat : Nat) : Int) ((y.toNat : Nat) : Int) = ((256 * x.toNat + y.toNat : Nat) : Int) := by
  have hx := x.toNat_lt
  have hy := y.toNat_lt
  unfold orI
  have h1 : (BitVec.ofInt (IntKind.bits .i64) ((256 * x.toNat : Nat) : Int)) = BitVec.ofNat 64 (256 * x.toNat) := by rfl
  have h2 : (BitVec.ofInt (IntKind.bits .i64) ((y.toNat : Nat) : Int)) = BitVec.ofNat 64 y.toNat := by rfl
  rw [h1, h2]
  have h3 : (BitVec.ofNat 64 (256 * x.toNat) ||| BitVec.ofNat 64 y.toNat).toNat = 256 * x.toNat + y.toNat := by
    rw [BitVec.toNat_or, BitVec.toNat_ofNat, BitVec.toNat_ofNat, Nat.mod_eq_of_lt (by omega), Nat.mod_eq_of_lt (by omega)]
    have h4 := Nat.shiftLeft_add_eq_or_of_lt (i := 8) (show y.toNat < 2 ^ 8 by omega) x.toNat
    rw [Nat.shiftLeft_eq] at h4
    rw [show 256 * x.toNat = x.toNat * 2 ^ 8 from by omega, ← h4]
  show IntKind.wrap .i64 (((BitVec.ofNat 64 (256 * x.toNat) ||| BitVec.ofNat 64 y.toNat).toNat : Nat) : Int) = _
  rw [h3, wrap64 (by omega) (by omega)]
def firstR (s : List UInt8) : OD × (Int × Bool) := match oneS s with
  | some (o, k) => (o, (((k : Nat) : Int), true))
  | none => ((false, ([], [])), (0, false))
def oneR (s : List UInt8) : OD × Int := match oneS s with
  | some (o, k) => (o, ((k : Nat) : Int))
  | none => ((false, ([], [])), 0)
theorem oneS_lt {s : List UInt8} (h : s.length < 2) : oneS s = none := by
  match s, h with
  | [], _ => rfl
  | [_], _ => rfl
theorem r5One_spec (n : Nat) (s : List UInt8) (hs : s.length ≤ 1000000) : r5One_t n s = some (oneR s) := by
  unfold r5One_t oneR
  by_cases hlt : s.length < 2
  · have c0 : decide (((s.length : Nat) : Int) < (2 : Int)) = true := by rw [decide_eq_true_eq]; omega
    simp only [c0, cond_true]
    rw [oneS_lt hlt]
  match s, hs, hlt with
  | [], _, h => exact absurd (by decide) h
  | [_], _, h => exact absurd (by simp) h
  | k :: c :: r, hs, _ =>
    have hc := c.toNat_lt
    have hkt := k.toNat_lt
    simp only [List.length_cons] at hs
    have c0 : decide ((((k :: c :: r).length : Nat) : Int) < (2 : Int)) = false := by rw [decide_eq_false_iff_not, List.length_cons, List.length_cons]; omega
    have wl : IntKind.wrap .i64 ((((k :: c :: r).length : Nat) : Int) - 2) = ((r.length : Nat) : Int) := by rw [wrap64 (by simp; omega) (by simp; omega)]; simp; omega
    have a1 : sAt (k :: c :: r) (1 : Int) = some ((c.toNat : Nat) : Int) := sAt_mid [k] r c rfl
    have a0 : sAt (k :: c :: r) (0 : Int) = some ((k.toNat : Nat) : Int) := sAt_mid [] (c :: r) k rfl
    have w1 : IntKind.wrap .i64 ((c.toNat : Nat) : Int) = ((c.toNat : Nat) : Int) := wrap64 (by omega) (by omega)
    have w2 : IntKind.wrap .i64 ((2 : Int) + ((c.toNat : Nat) : Int)) = ((2 + c.toNat : Nat) : Int) := by rw [wrap64 (by omega) (by omega)]; omega
    have b1 : decide (((r.length : Nat) : Int) < ((c.toNat : Nat) : Int)) = decide (r.length < c.toNat) := decide_eq_decide.2 (by omega)
    have d1 : decide (((k.toNat : Nat) : Int) = (1 : Int)) = decide (k = 1) := decide_eq_decide.2 (by
      constructor
      · intro h; exact UInt8.toNat_inj.1 (by have e : (1 : UInt8).toNat = 1 := rfl; rw [e]; omega)
      · intro h; rw [h]; rfl)
    have d2 : decide ((1 : Int) < ((k.toNat : Nat) : Int)) = !decide (k = 0 ∨ k = 1) := by
      rw [← decide_not]
      refine decide_eq_decide.2 ?_
      constructor
      · rintro h (rfl | rfl)
        · exact absurd h (by decide)
        · exact absurd h (by decide)
      · intro h
        have h0 : k.toNat ≠ 0 := fun e => h (Or.inl (UInt8.toNat_inj.1 e))
        have h1 : k.toNat ≠ 1 := fun e => h (Or.inr (UInt8.toNat_inj.1 e))
        omega
    rw [oneS]
    simp only [c0, cond_false, wl, a1, a0, Option.bind_some, letO, w1, w2, b1, d1, d2]
    by_cases hk : k = 0 ∨ k = 1
    · rw [if_pos hk]
      by_cases hrc : r.length < c.toNat
      · rw [if_pos hrc]
        simp only [hrc, decide_true, cond_true]
      · rw [if_neg hrc]
        have p : subO (k :: c :: r) (2 : Int) ((2 + c.toNat : Nat) : Int) = some (r.take c.toNat) := sub_mid [k, c] r c.toNat (by omega) rfl rfl
        have hde : decide (k = 0 ∨ k = 1) = true := decide_eq_true hk
        simp only [hrc, hde, decide_false, Bool.not_true, cond_false, p, Option.bind_some]
        by_cases hk1 : k = 1
        · subst hk1
          simp only [decide_true, cond_true, if_true]
        · rw [if_neg hk1]
          simp only [hk1, decide_false, cond_false]
          have wn : IntKind.wrap .i64 ((((k :: c :: r).length : Nat) : Int) - ((2 + c.toNat : Nat) : Int)) = ((r.length - c.toNat : Nat) : Int) := by rw [List.length_cons, List.length_cons, wrap64 (by omega) (by omega)]; omega
          have b2 : decide (((r.length - c.toNat : Nat) : Int) < (2 : Int)) = decide (r.length < c.toNat + 2) := decide_eq_decide.2 (by omega)
          simp only [wn, b2]
          by_cases h2 : r.length < c.toNat + 2
          · simp only [h2, decide_true, cond_true]
            have hdl : (r.drop c.toNat).length < 2 := by rw [List.length_drop]; omega
            generalize r.drop c.toNat = R at hdl
            match R, hdl with
            | [], _ => simp
            | [_], _ => simp
          · have hP : (r.take c.toNat).length = c.toNat := by rw [List.length_take]; omega
            have hr : r = r.take c.toNat ++ r.drop c.toNat := (List.take_append_drop ..).symm
            have hdl : 2 ≤ (r.drop c.toNat).length := by rw [List.length_drop]; omega
            have hl2 : r.length = c.toNat + (r.drop c.toNat).length := by rw [List.length_drop]; omega
            generalize r.drop c.toNat = R at hr hdl hl2
            match R, hdl with
            | x :: y :: t, _ =>
              have hx := x.toNat_lt
              have hy := y.toNat_lt
              generalize r.take c.toNat = P at hP hr
              subst hr
              simp only [List.length_cons] at hl2
              have s1 : sAt (k :: c :: (P ++ x :: y :: t)) ((2 + c.toNat : Nat) : Int) = some ((x.toNat : Nat) : Int) := sAt_mid (k :: c :: P) (y :: t) x (by simp; omega)
              have s2 : sAt (k :: c :: (P ++ x :: y :: t)) ((3 + c.toNat : Nat) : Int) = some ((y.toNat : Nat) : Int) := by
                have := sAt_mid (k :: c :: P ++ [x]) t y (j := ((3 + c.toNat : Nat) : Int)) (by simp; omega)
                simpa using this
              have wx : IntKind.wrap .i64 ((x.toNat : Nat) : Int) = ((x.toNat : Nat) : Int) := wrap64 (by omega) (by omega)
              have wy : IntKind.wrap .i64 ((y.toNat : Nat) : Int) = ((y.toNat : Nat) : Int) := wrap64 (by omega) (by omega)
              have wm : IntKind.wrap .i64 ((256 : Int) * ((x.toNat : Nat) : Int)) = ((256 * x.toNat : Nat) : Int) := by rw [wrap64 (by omega) (by omega)]; omega
              have w4 : IntKind.wrap .i64 (((2 + c.toNat : Nat) : Int) + 1) = ((3 + c.toNat : Nat) : Int) := by rw [wrap64 (by omega) (by omega)]; omega
              have w3 : IntKind.wrap .i64 (((2 + c.toNat : Nat) : Int) + 2) = ((4 + c.toNat : Nat) : Int) := by rw [wrap64 (by omega) (by omega)]; omega
              have w6 : IntKind.wrap .i64 (((256 * x.toNat : Nat) : Int) + ((y.toNat : Nat) : Int)) = ((256 * x.toNat + y.toNat : Nat) : Int) := by rw [wrap64 (by omega) (by omega)]; omega
              have w7 : IntKind.wrap .i64 ((((P ++ x :: y :: t).length - c.toNat : Nat) : Int) - 2) = ((t.length : Nat) : Int) := by rw [wrap64 (by omega) (by omega)]; omega
              have w5 : IntKind.wrap .i64 (((4 + c.toNat : Nat) : Int) + ((256 * x.toNat + y.toNat : Nat) : Int)) = ((4 + c.toNat + (256 * x.toNat + y.toNat) : Nat) : Int) := by rw [wrap64 (by omega) (by omega)]; omega
              have b3 : decide (((t.length : Nat) : Int) < ((256 * x.toNat + y.toNat : Nat) : Int)) = decide (t.length < 256 * x.toNat + y.toNat) := decide_eq_decide.2 (by omega)
              simp only [h2, decide_false, cond_false, s1, s2, Option.bind_some, wx, wy, wm, w3, w4, w5, w6, w7, b3]
              by_cases ht : t.length < 256 * x.toNat + y.toNat
              · simp [ht]
              · have q : subO (k :: c :: (P ++ x :: y :: t)) ((4 + c.toNat : Nat) : Int) ((4 + c.toNat + (256 * x.toNat + y.toNat) : Nat) : Int) = some (t.take (256 * x.toNat + y.toNat)) := by
                  have := sub_mid (k :: c :: P ++ [x, y]) t (256 * x.toNat + y.toNat) (by omega) (i := ((4 + c.toNat : Nat) : Int)) (j := ((4 + c.toNat + (256 * x.toNat + y.toNat) : Nat) : Int)) (by simp; omega) (by simp; omega)
                  simpa using this
                simp only [ht, q, decide_false, cond_false, Option.bind_some, if_false]
    · rw [if_neg hk]
      have hde : decide (k = 0 ∨ k = 1) = false := decide_eq_false hk
      simp only [hde, Bool.not_false, cond_true]
      cases decide (r.length < c.toNat) <;> rfl
theorem r5Decode_loop (n : Nat) (s : List UInt8) (hs : s.length ≤ 1000000) : ∀ (m j : Nat) (acc : List OD), j ≤ s.length → s.length - j < m → acc.length ≤ j →
    r5Decode_loop0 n m s (j : Int) acc = some (match parseO (s.length - j + 1) (s.drop j) with
      | some out => Sum.inr ((s, ((), ())), ((), (acc ++ out, ())))
      | none => Sum.inl (((), ((1 : Int), ())), ((), ())))
  | 0, j, acc, _, h, _ => absurd h (Nat.not_lt_zero _)
  | m + 1, j, acc, hj, h, ha => by
    rw [r5Decode_loop0_succ]
    unfold r5Decode_l0
    by_cases c0 : j < s.length
    · have c0' : ((j : Nat) : Int) < ((s.length : Nat) : Int) := by omega
      have hsub : subO s ((j : Nat) : Int) ((s.length : Nat) : Int) = some (s.drop j) := by
        rw [sub_le (by omega) (Nat.le_refl _), List.take_of_length_le (by rw [List.length_drop]; exact Nat.le_refl _)]
      have hone := r5One_spec n (s.drop j) (by rw [List.length_drop]; omega)
      have hne : s.drop j ≠ [] := fun h => by have := congrArg List.length h; rw [List.length_drop] at this; simp at this; omega
      rw [parseO, if_neg hne]
      simp only [c0', decide_true, cond_true, hsub, hone, Option.bind_some]
      unfold oneR
      cases ho : oneS (s.drop j) with
      | none => simp
      | some p =>
        obtain ⟨o, k⟩ := p
        obtain ⟨_, h3, h4⟩ := one_lay ho
        rw [List.length_drop] at h4
        have k0 : ¬ ((k : Nat) : Int) = 0 := by omega
        have ap : appO 40 acc [o] = some (acc ++ [o]) := app40 (by omega) o
        have wj : IntKind.wrap .i64 (((j : Nat) : Int) + ((k : Nat) : Int)) = ((j + k : Nat) : Int) := by rw [wrap64 (by omega) (by omega)]; omega
        have ih := r5Decode_loop n s hs m (j + k) (acc ++ [o]) (by omega) (by omega) (by simp; omega)
        have hm := parse_more (s.length - j) (s.length - (j + k) + 1) (s.drop (j + k)) (by rw [List.length_drop]; omega) (by rw [List.length_drop]; omega)
        simp only [k0, decide_false, cond_false, ap, Option.bind_some, letO, wj, ih, List.drop_drop, hm]
        cases parseO (s.length - (j + k) + 1) (s.drop (j + k)) with
        | none => rfl
        | some out => simp
    · have c0' : ¬ ((j : Nat) : Int) < ((s.length : Nat) : Int) := by omega
      have e1 : s.drop j = [] := List.drop_eq_nil_of_le (by omega)
      rw [e1, parseO]
      simp [c0']
theorem parse_mem : ∀ (m : Nat) (s : List UInt8) (out : List OD), parseO m s = some out → out.length ≤ s.length ∧ ∀ o ∈ out, o.2.1.length ≤ s.length ∧ o.2.2.length ≤ s.length
  | 0, _, _, h => by cases h
  | m + 1, s, out, h => by
    rw [parseO] at h
    split at h
    · cases h; exact ⟨Nat.zero_le _, fun o ho => by cases ho⟩
    · split at h
      case h_2 => cases h
      rename_i o k ho
      cases hp : parseO m (s.drop k) with
      | none => rw [hp] at h; cases h
      | some out' =>
        rw [hp] at h
        have : out = o :: out' := by simpa using h.symm
        subst this
        obtain ⟨h1, h2, h3⟩ := one_lay ho
        obtain ⟨i1, i2⟩ := parse_mem m _ _ hp
        rw [List.length_drop] at i1 i2
        have hlay : (layS o).length ≤ s.length := by have := congrArg List.length h1; rw [List.length_append] at this; omega
        refine ⟨by simp; omega, fun o' ho' => ?_⟩
        rcases List.mem_cons.1 ho' with rfl | hm
        · unfold layS at hlay
          refine ⟨by simp at hlay; omega, ?_⟩
          obtain ⟨g, p, d⟩ := o'
          cases g with
          | true =>
            -- an op that takes away has no bytes
            have hd0 : d = [] := by
              match s, ho with
              | kk :: c :: r, ho =>
                rw [oneS] at ho
                split at ho
                case isFalse => cases ho
                split at ho
                case isTrue => cases ho
                split at ho
                · simp only [Option.some.injEq, Prod.mk.injEq] at ho; exact ho.1.2.2.symm
                · split at ho
                  case h_2 => cases ho
                  split at ho
                  · cases ho
                  · simp at ho
            rw [hd0]; exact Nat.zero_le _
          | false => simp at hlay ⊢; omega
        · have := i2 o' hm; omega
theorem r5Decode_spec (n : Nat) (s : List UInt8) (hs : s.length ≤ 1000000) (hn : 100 ≤ n) (hn2 : s.length < n) : r5Decode_t n s = some (decS s) := by
  unfold r5Decode_t decS
  have := r5Decode_loop n s hs n 0 [] (Nat.zero_le _) (by omega) (Nat.le_refl _)
  rw [show ((0 : Nat) : Int) = (0 : Int) from rfl, List.drop_zero, Nat.sub_zero] at this
  rw [this]
  cases hp : parseO (s.length + 1) s with
  | none => rfl
  | some out =>
    obtain ⟨h1, h2⟩ := parse_mem _ _ _ hp
    have he := r5Encode_spec n out (by omega) (fun o ho => by have := h2 o ho; omega) hn (by omega)
    simp only [Option.bind_some, Sum.elim_inr, List.nil_append, he]
    by_cases c1 : (encS out).2 = 0
    · by_cases c2 : (encS out).1 = s
      · simp [c1, c2]
      · simp [c1, c2]
    · simp [c1]
end Go.Proofs.YtaglhmoldbndkaaDoor.AM

/- Layer 5: what comes of files by ops: what the document's functions come to. -/
namespace Go.Proofs.YtaglhmoldbndkaaDoor.AM
open Go.RowKit
set_option linter.unusedVariables false
set_option linter.unusedSimpArgs false
def withoutS (l : List FD) (p : List UInt8) : List FD := l.filter fun f => !decide (f.1 = p)
def withL (f : FD) : List FD → List FD × Bool
  | [] => ([], false)
  | x :: t => if ltS f.1 x.1 then (f :: x :: t, true) else (x :: (withL f t).1, (withL f t).2)
def insS (f : FD) (l : List FD) : List FD := if (withL f l).2 then (withL f l).1 else (withL f l).1 ++ [f]
def stepS (l : List FD) (o : OD) : List FD × Int :=
  if pathS o.2.1 then (if o.1 then (if (getS l o.2.1).2 then (withoutS l o.2.1, 0) else ([], 5)) else if 4096 < o.2.2.length then ([], 2) else if 40 ≤ (withoutS l o.2.1).length then ([], 3) else (insS o.2 (withoutS l o.2.1), 0)) else ([], 6)
def appL : List FD → List OD → List FD × Int
  | l, [] => (l, 0)
  | l, o :: t => if (stepS l o).2 = 0 then appL (stepS l o).1 t else ([], (stepS l o).2)
def appS (l : List FD) (ops : List OD) : List FD × Int := if mayS l then appL l ops else ([], 1)
theorem app32 {l : List FD} (h : l.length ≤ 1000000) (r : FD) : appO 32 l [r] = some (l ++ [r]) := if_pos (by simp; omega)
theorem r5Without_loop (n : Nat) (l : List FD) (p : List UInt8) (hL : l.length ≤ 100000) : ∀ (m j : Nat) (acc : List FD), j ≤ l.length → l.length - j < m → acc.length ≤ j → r5Without_loop0 n m l p (j : Int) acc = some (((), ()), ((), (acc ++ withoutS (l.drop j) p, ())))
  | 0, j, acc, _, h, _ => absurd h (Nat.not_lt_zero _)
  | m + 1, j, acc, hj, h, ha => by
    rw [r5Without_loop0_succ]
    unfold r5Without_l0
    by_cases c0 : j < l.length
    · have c0' : ((j : Nat) : Int) < ((l.length : Nat) : Int) := by omega
      have i1 := r5Without_loop n l p hL m (j + 1) (acc ++ [l[j]]) (by omega) (by omega) (by simp; omega)
      have i2 := r5Without_loop n l p hL m (j + 1) acc (by omega) (by omega) (by omega)
      have hd : l.drop j = l[j] :: l.drop (j + 1) := (List.drop_eq_getElem_cons c0)
      have hw : withoutS (l.drop j) p = if l[j].1 = p then withoutS (l.drop (j + 1)) p else l[j] :: withoutS (l.drop (j + 1)) p := by
        rw [hd]; unfold withoutS; rw [List.filter_cons]
        by_cases hc : l[j].1 = p
        · simp [hc]
        · simp [hc]
      rw [hw]
      simp only [c0', decide_true, cond_true, idx_lt c0, Option.bind_some, app32 (show acc.length ≤ 1000000 by omega), letO, wrap_succ (show j < 4611686018427387904 by omega), i1, i2]
      by_cases hc : l[j].1 = p
      · simp [hc]
      · simp [hc]
    · have c0' : ¬ ((j : Nat) : Int) < ((l.length : Nat) : Int) := by omega
      have e1 : l.drop j = [] := List.drop_eq_nil_of_le (by omega)
      simp [c0', e1, withoutS]
theorem r5Without_spec (n : Nat) (l : List FD) (p : List UInt8) (hL : l.length ≤ 100000) (hn : l.length < n) : r5Without_t n l p = some (withoutS l p) := by
  unfold r5Without_t
  have := r5Without_loop n l p hL n 0 [] (Nat.zero_le _) (by omega) (Nat.le_refl _)
  rw [show ((0 : Nat) : Int) = (0 : Int) from rfl, List.drop_zero] at this
  rw [this]; rfl
theorem r5With_loop (n : Nat) (l : List FD) (f : FD) (hL : l.length ≤ 100000) : ∀ (m j : Nat) (b : Bool) (acc : List FD), j ≤ l.length → l.length - j < m → acc.length ≤ 2 * j + 2 →
    r5With_loop0 n m l b (j : Int) f.1 f.2 acc = some (((), ((), (b || (withL f (l.drop j)).2, ()))), (((f.1, f.2), ()), (acc ++ (if b then l.drop j else (withL f (l.drop j)).1), ())))
  | 0, j, b, acc, _, h, _ => absurd h (Nat.not_lt_zero _)
  | m + 1, j, b, acc, hj, h, ha => by
    rw [r5With_loop0_succ]
    unfold r5With_l0
    by_cases c0 : j < l.length
    · have c0' : ((j : Nat) : Int) < ((l.length : Nat) : Int) := by omega
      have hd : l.drop j = l[j] :: l.drop (j + 1) := (List.drop_eq_getElem_cons c0)
      have hw : withL f (l.drop j) = if ltS f.1 l[j].1 then (f :: l.drop j, true) else (l[j] :: (withL f (l.drop (j + 1))).1, (withL f (l.drop (j + 1))).2) := by rw [hd, withL]
      rw [hw]
      have a1 : appO 32 acc [l[j]] = some (acc ++ [l[j]]) := app32 (by omega) _
      have a2 : appO 32 acc [(f.1, f.2)] = some (acc ++ [f]) := app32 (by omega) _
      have a3 : appO 32 (acc ++ [f]) [l[j]] = some (acc ++ [f] ++ [l[j]]) := app32 (by simp; omega) _
      have i1 := fun b => r5With_loop n l f hL m (j + 1) b (acc ++ [l[j]]) (by omega) (by omega) (by simp; omega)
      have i2 := r5With_loop n l f hL m (j + 1) true (acc ++ [f] ++ [l[j]]) (by omega) (by omega) (by simp; omega)
      simp only [c0', decide_true, cond_true, idx_lt c0, Option.bind_some, letO, wrap_succ (show j < 4611686018427387904 by omega), a1, a2, a3, i1, i2]
      cases b with
      | true => rw [hd]; simp only [Bool.not_true, Bool.not_false, cond_true, cond_false, Bool.false_or, Bool.true_or, if_true, List.append_assoc, List.cons_append, List.nil_append]
      | false =>
        cases ltS f.1 l[j].1 with
        | true => rw [hd]; simp only [Bool.not_true, Bool.not_false, cond_true, cond_false, Bool.false_or, Bool.true_or, Bool.or_true, if_true, Bool.false_eq_true, if_false, List.append_assoc, List.cons_append, List.nil_append]
        | false => simp
    · have c0' : ¬ ((j : Nat) : Int) < ((l.length : Nat) : Int) := by omega
      have e1 : l.drop j = [] := List.drop_eq_nil_of_le (by omega)
      cases b <;> simp [c0', e1, withL]
theorem r5With_spec (n : Nat) (l : List FD) (f : FD) (hL : l.length ≤ 100000) (hn : l.length < n) : r5With_t n l f = some (insS f l) := by
  unfold r5With_t insS
  have := r5With_loop n l f hL n 0 false [] (Nat.zero_le _) (by omega) (by simp)
  rw [show ((0 : Nat) : Int) = (0 : Int) from rfl, List.drop_zero] at this
  rw [this]
  have hl : ∀ l : List FD, (withL f l).1.length ≤ l.length + 1 := by
    intro l
    induction l with
    | nil => simp [withL]
    | cons x t ih => rw [withL]; split
                     · simp
                     · simp; omega
  simp only [Option.bind_some, Bool.false_or, Bool.false_eq_true, if_false, List.nil_append]
  cases hw : (withL f l).2 with
  | true => rfl
  | false =>
    simp only [Bool.not_false, cond_true]
    rw [show ((f.1, f.2) : FD) = f from rfl, app32 (by have := hl l; omega) f]; rfl
theorem withL_len (f : FD) : ∀ l : List FD, (withL f l).1.length ≤ l.length + 1
  | [] => by simp [withL]
  | x :: t => by
    have ih := withL_len f t
    rw [withL]; split
    · simp
    · simp; omega
theorem ins_len (f : FD) (l : List FD) : (insS f l).length ≤ l.length + 2 := by
  have := withL_len f l
  unfold insS; split
  · omega
  · simp; omega
theorem without_len (l : List FD) (p : List UInt8) : (withoutS l p).length ≤ l.length := List.length_filter_le ..
theorem r5Apply_loop (n : Nat) (ops : List OD) (hL : ops.length ≤ 10000) (hp : ∀ o ∈ ops, o.2.1.length ≤ 1000000) (hn : 100 ≤ n) (hn2 : 30000 < n) : ∀ (m j : Nat) (l : List FD), j ≤ ops.length → ops.length - j < m → l.length ≤ 2 * j + 50 →
    r5Apply_loop0 n m ops l (j : Int) = some (if (appL l (ops.drop j)).2 = 0 then Sum.inr (((appL l (ops.drop j)).1, ()), ((), ())) else Sum.inl (((), ((appL l (ops.drop j)).2, ())), ((), ())))
  | 0, j, l, _, h, _ => absurd h (Nat.not_lt_zero _)
  | m + 1, j, l, hj, h, hl => by
    rw [r5Apply_loop0_succ]
    unfold r5Apply_l0
    by_cases c0 : j < ops.length
    · have c0' : ((j : Nat) : Int) < ((ops.length : Nat) : Int) := by omega
      have hd : ops.drop j = ops[j] :: ops.drop (j + 1) := (List.drop_eq_getElem_cons c0)
      have hpo := hp _ (List.getElem_mem c0)
      rw [hd]
      have hx : idxL ops ((j : Nat) : Int) = some ops[j] := idx_lt c0
      rw [hx]
      generalize ops[j] = o at hpo
      have hwl := without_len l o.2.1
      have hil := ins_len o.2 (withoutS l o.2.1)
      have g1 : r5Get_t n l o.2.1 = some (getS l o.2.1) := r5Get_spec n l _ (by omega) (by omega)
      have g2 : rPath5_t n o.2.1 = some (pathS o.2.1) := rPath5_spec n _ hpo hn
      have g3 : r5Without_t n l o.2.1 = some (withoutS l o.2.1) := r5Without_spec n l _ (by omega) (by omega)
      have g4 : r5With_t n (withoutS l o.2.1) o.2 = some (insS o.2 (withoutS l o.2.1)) := r5With_spec n _ _ (by omega) (by omega)
      have i1 := r5Apply_loop n ops hL hp hn hn2 m (j + 1) (withoutS l o.2.1) (by omega) (by omega) (by omega)
      have i2 := r5Apply_loop n ops hL hp hn hn2 m (j + 1) (insS o.2 (withoutS l o.2.1)) (by omega) (by omega) (by omega)
      have b1 : decide ((4096 : Int) < ((o.2.2.length : Nat) : Int)) = decide (4096 < o.2.2.length) := decide_eq_decide.2 (by omega)
      have b2 : decide ((40 : Int) ≤ (((withoutS l o.2.1).length : Nat) : Int)) = decide (40 ≤ (withoutS l o.2.1).length) := decide_eq_decide.2 (by omega)
      simp only [c0', decide_true, cond_true, Option.bind_some, g1, g2, g3, g4, b1, b2, letO, wrap_succ (show j < 4611686018427387904 by omega), i1, i2]
      rw [appL]
      unfold stepS
      cases pathS o.2.1 with
      | false => simp
      | true =>
        cases o.1 with
        | true =>
          cases (getS l o.2.1).2 with
          | false => simp
          | true => simp
        | false =>
          by_cases h1 : 4096 < o.2.2.length
          · simp [h1]
          · by_cases h2 : 40 ≤ (withoutS l o.2.1).length
            · simp [h1, h2]
            · simp [h1, h2]
    · have c0' : ¬ ((j : Nat) : Int) < ((ops.length : Nat) : Int) := by omega
      have e1 : ops.drop j = [] := List.drop_eq_nil_of_le (by omega)
      simp [c0', e1, appL]
theorem appL_nil : ∀ (ops : List OD) (l : List FD), (appL l ops).2 ≠ 0 → (appL l ops).1 = []
  | [], l, h => absurd rfl h
  | o :: t, l, h => by
    rw [appL] at h ⊢
    split at h
    · rename_i hc; rw [if_pos hc]; exact appL_nil t _ h
    · rename_i hc; rw [if_neg hc]
theorem r5Apply_spec (n : Nat) (l : List FD) (ops : List OD) (hL : ops.length ≤ 10000) (hl : l.length ≤ 10000) (hlp : ∀ f ∈ l, f.1.length ≤ 1000000) (hp : ∀ o ∈ ops, o.2.1.length ≤ 1000000) (hn : 100 ≤ n) (hn2 : 30000 < n) : r5Apply_t n l ops = some (appS l ops) := by
  unfold r5Apply_t appS
  rw [r5May_spec n l (by omega) hlp hn (by omega)]
  cases hm : mayS l with
  | false => rfl
  | true =>
    have h40 : l.length ≤ 40 := by unfold mayS at hm; simp only [Bool.and_eq_true, decide_eq_true_eq] at hm; exact hm.1
    have ha : appO 32 ([] : List FD) l = some l := by unfold appO; rw [if_pos (by simp; omega)]; rfl
    have := r5Apply_loop n ops hL hp hn hn2 n 0 l (Nat.zero_le _) (by omega) (by omega)
    rw [show ((0 : Nat) : Int) = (0 : Int) from rfl, List.drop_zero] at this
    simp only [Option.bind_some, Bool.not_true, cond_false, ha, this]
    by_cases he : (appL l ops).2 = 0
    · have e : appL l ops = ((appL l ops).1, 0) := by rw [← he]
      simp only [he, if_true, Option.bind_some, Sum.elim_inr]
      rw [← e]
    · have e : appL l ops = ([], (appL l ops).2) := by rw [← appL_nil ops l he]
      simp only [he, if_false, if_true, Option.bind_some, Sum.elim_inl]
      rw [← e]
end Go.Proofs.YtaglhmoldbndkaaDoor.AM

/- Layer 5: the answers that the laws begin with, and paths put together: mathematics. -/
namespace Go.Proofs.YtaglhmoldbndkaaDoor.AM
open Go.RowKit
set_option linter.unusedVariables false
set_option linter.unusedSimpArgs false
/-! paths put together -/
end Go.Proofs.YtaglhmoldbndkaaDoor.AM

/- Layer 5: files in order: what an op leaves: mathematics. -/
namespace Go.Proofs.YtaglhmoldbndkaaDoor.AM
open Go.RowKit
set_option linter.unusedVariables false
set_option linter.unusedSimpArgs false
theorem lt_cmp (s t : List UInt8) : ltS s t = true ↔ cmpL cmpB s t < 0 := by
  unfold ltS; rw [bytesLess_cmp, decide_eq_true_eq]
theorem lt_trans' {s t u : List UInt8} (h1 : ltS s t = true) (h2 : ltS t u = true) : ltS s u = true := by
  rw [lt_cmp] at *
  have ht := (cmpL_cmp cmpB_cmp).tr s t u (by omega) (by omega)
  have hr := (cmpL_cmp cmpB_cmp).rng s u
  rcases Int.lt_or_eq_of_le ht with h | h
  · exact h
  · have e := (cmpL_cmp cmpB_cmp).eq s u h
    subst e
    have ha := (cmpL_cmp cmpB_cmp).anti s t
    omega
theorem lt_irr (s : List UInt8) : ltS s s = false := by
  cases h : ltS s s with
  | false => rfl
  | true => rw [lt_cmp, (cmpL_cmp cmpB_cmp).refl] at h; omega
theorem lt_tot {s t : List UInt8} (h1 : ltS s t = false) (h2 : s ≠ t) : ltS t s = true := by
  rw [lt_cmp]
  have h3 : ¬ cmpL cmpB s t < 0 := fun h => by rw [(lt_cmp s t).2 h] at h1; cases h1
  have h4 : cmpL cmpB s t ≠ 0 := fun h => h2 ((cmpL_cmp cmpB_cmp).eq s t h)
  have ha := (cmpL_cmp cmpB_cmp).anti s t
  omega
def Rise (l : List FD) : Prop := l.Pairwise fun x y => ltS x.1 y.1 = true
theorem rise_iff : ∀ l : List FD, riseS l = true ↔ Rise l
  | [] => by simp [riseS, Rise]
  | [x] => by simp [riseS, Rise]
  | x :: y :: t => by
    have ih := rise_iff (y :: t)
    unfold Rise at ih ⊢
    rw [riseS, Bool.and_eq_true, ih]
    constructor
    · intro h
      have h1 := h.1
      have h2 := h.2
      refine List.pairwise_cons.2 ⟨fun z hz => ?_, h2⟩
      rcases List.mem_cons.1 hz with rfl | hz
      · exact h1
      · exact lt_trans' h1 ((List.pairwise_cons.1 h2).1 z hz)
    · intro h
      have h' := List.pairwise_cons.1 h
      exact ⟨h'.1 y (List.mem_cons_self ..), h'.2⟩
theorem ins_nil (f : FD) : insS f [] = [f] := rfl
theorem ins_cons (f x : FD) (t : List FD) : insS f (x :: t) = if ltS f.1 x.1 then f :: x :: t else x :: insS f t := by
  unfold insS; rw [withL]
  split
  · rfl
  · simp only
    split <;> simp
theorem mem_ins (f y : FD) : ∀ l : List FD, y ∈ insS f l ↔ y = f ∨ y ∈ l
  | [] => by simp [ins_nil]
  | x :: t => by
    rw [ins_cons]
    split
    · simp
    · rw [List.mem_cons, mem_ins f y t, List.mem_cons]
      constructor
      · rintro (h | h | h)
        · exact Or.inr (Or.inl h)
        · exact Or.inl h
        · exact Or.inr (Or.inr h)
      · rintro (h | h | h)
        · exact Or.inr (Or.inl h)
        · exact Or.inl h
        · exact Or.inr (Or.inr h)
theorem ins_length (f : FD) : ∀ l : List FD, (insS f l).length = l.length + 1
  | [] => rfl
  | x :: t => by
    rw [ins_cons]; split
    · simp
    · simp [ins_length f t]
def NoP (p : List UInt8) (l : List FD) : Prop := ∀ x ∈ l, x.1 ≠ p
theorem rise_ins {f : FD} : ∀ {l : List FD}, Rise l → NoP f.1 l → Rise (insS f l)
  | [], _, _ => by unfold Rise; rw [ins_nil]; simp
  | x :: t, h, hn => by
    have ⟨h1, h2⟩ := List.pairwise_cons.1 h
    rw [ins_cons]
    cases hc : ltS f.1 x.1 with
    | true =>
      simp only [if_true]
      refine List.pairwise_cons.2 ⟨fun z hz => ?_, h⟩
      rcases List.mem_cons.1 hz with rfl | hz
      · exact hc
      · exact lt_trans' hc (h1 z hz)
    | false =>
      simp only [Bool.false_eq_true, if_false]
      refine List.pairwise_cons.2 ⟨fun z hz => ?_, rise_ins h2 (fun y hy => hn y (List.mem_cons_of_mem _ hy))⟩
      rcases (mem_ins f z t).1 hz with rfl | hz
      · exact lt_tot hc (fun e => hn x (List.mem_cons_self ..) e.symm)
      · exact h1 z hz
theorem rise_without {l : List FD} (p : List UInt8) (h : Rise l) : Rise (withoutS l p) := List.Pairwise.filter _ h
theorem nop_without (l : List FD) (p : List UInt8) : NoP p (withoutS l p) := fun x hx => by
  have := (List.mem_filter.1 hx).2; simpa using this
theorem without_nop {l : List FD} {p : List UInt8} (h : NoP p l) : withoutS l p = l := by
  unfold withoutS; rw [List.filter_eq_self]
  intro x hx; simpa using h x hx
theorem without_ins {f : FD} : ∀ {l : List FD}, NoP f.1 l → withoutS (insS f l) f.1 = l
  | [], _ => by rw [ins_nil]; unfold withoutS; simp
  | x :: t, h => by
    have hx : ¬ x.1 = f.1 := h x (List.mem_cons_self ..)
    have ht : NoP f.1 t := fun y hy => h y (List.mem_cons_of_mem _ hy)
    rw [ins_cons]
    split
    · have e : withoutS (f :: x :: t) f.1 = withoutS (x :: t) f.1 := by unfold withoutS; simp
      rw [e, without_nop h]
    · have e : withoutS (x :: insS f t) f.1 = x :: withoutS (insS f t) f.1 := by unfold withoutS; simp [hx]
      rw [e, without_ins ht]
theorem get_nop : ∀ {l : List FD} {p : List UInt8}, NoP p l → getS l p = ([], false)
  | [], _, _ => rfl
  | x :: t, p, h => by
    rw [getS, if_neg (h x (List.mem_cons_self ..))]
    exact get_nop fun y hy => h y (List.mem_cons_of_mem _ hy)
theorem nop_get : ∀ {l : List FD} {p : List UInt8}, (getS l p).2 = false → NoP p l
  | [], _, _ => fun x hx => by cases hx
  | x :: t, p, h => by
    rw [getS] at h
    split at h
    · cases h
    · rename_i hc
      intro y hy
      rcases List.mem_cons.1 hy with rfl | hy
      · exact hc
      · exact nop_get h y hy
theorem get_without (q p : List UInt8) (hqp : q ≠ p) : ∀ l : List FD, getS (withoutS l p) q = getS l q
  | [] => rfl
  | x :: t => by
    have ih := get_without q p hqp t
    by_cases hx : x.1 = p
    · have e : withoutS (x :: t) p = withoutS t p := by unfold withoutS; simp [hx]
      rw [e, ih, getS, if_neg (fun h => hqp (h.symm.trans hx))]
    · have e : withoutS (x :: t) p = x :: withoutS t p := by unfold withoutS; simp [hx]
      rw [e, getS, getS, ih]
theorem get_ins (f : FD) (q : List UInt8) : ∀ l : List FD, NoP f.1 l → getS (insS f l) q = if q = f.1 then (f.2, true) else getS l q
  | [], _ => by
    rw [ins_nil, getS, getS]
    by_cases h : q = f.1
    · rw [if_pos h.symm, if_pos h]
    · rw [if_neg (fun e => h e.symm), if_neg h]; rfl
  | x :: t, hn => by
    have ih := get_ins f q t (fun y hy => hn y (List.mem_cons_of_mem _ hy))
    rw [ins_cons]
    split
    · rw [getS]
      by_cases h : q = f.1
      · rw [if_pos h.symm, if_pos h]
      · rw [if_neg (fun e => h e.symm), if_neg h]
    · rw [getS, getS, ih]
      by_cases hx : x.1 = q
      · have : ¬ q = f.1 := fun e => hn x (List.mem_cons_self ..) (hx.trans e)
        rw [if_pos hx, if_neg this, if_pos hx]
      · rw [if_neg hx]
        by_cases h : q = f.1
        · rw [if_pos h, if_pos h]
        · rw [if_neg h, if_neg h, if_neg hx]
theorem may_iff (l : List FD) : mayS l = true ↔ l.length ≤ 40 ∧ (∀ f ∈ l, okF f = true) ∧ Rise l := by
  unfold mayS
  rw [Bool.and_eq_true, Bool.and_eq_true, decide_eq_true_eq, List.all_eq_true, rise_iff]
/-- what may be, may be after an op that is done -/
theorem step_may {l : List FD} {o : OD} (hl : mayS l = true) (h : (stepS l o).2 = 0) : mayS (stepS l o).1 = true := by
  rw [may_iff] at hl ⊢
  obtain ⟨h1, h2, h3⟩ := hl
  have hw : ∀ f ∈ withoutS l o.2.1, okF f = true := fun f hf => h2 f (List.mem_filter.1 hf).1
  have hwl := without_len l o.2.1
  unfold stepS at h ⊢
  cases hp : pathS o.2.1 with
  | false => rw [hp] at h; simp at h
  | true =>
    rw [hp] at h
    simp only [if_true] at h ⊢
    cases ho : o.1 with
    | true =>
      rw [ho] at h
      simp only [if_true] at h ⊢
      cases hg : (getS l o.2.1).2 with
      | false => rw [hg] at h; simp at h
      | true => simp only [if_true]; exact ⟨by omega, hw, rise_without _ h3⟩
    | false =>
      rw [ho] at h
      simp only [Bool.false_eq_true, if_false] at h ⊢
      by_cases c1 : 4096 < o.2.2.length
      · rw [if_pos c1] at h; simp at h
      · rw [if_neg c1] at h ⊢
        by_cases c2 : 40 ≤ (withoutS l o.2.1).length
        · rw [if_pos c2] at h; simp at h
        · rw [if_neg c2]
          refine ⟨by simp only [ins_length]; omega, fun f hf => ?_, rise_ins (rise_without _ h3) (nop_without _ _)⟩
          rcases (mem_ins o.2 f _).1 hf with rfl | hf
          · unfold okF; rw [hp]; simp; omega
          · exact hw f hf
theorem app_may : ∀ (ops : List OD) {l : List FD}, mayS l = true → (appL l ops).2 = 0 → mayS (appL l ops).1 = true
  | [], l, h, _ => h
  | o :: t, l, h, h0 => by
    rw [appL] at h0 ⊢
    split at h0
    · rename_i hc; rw [if_pos hc]; exact app_may t (step_may h hc) h0
    · rename_i hc; exact absurd h0 hc
end Go.Proofs.YtaglhmoldbndkaaDoor.AM

/- Layer 5: a difference that is applied: mathematics. -/
namespace Go.Proofs.YtaglhmoldbndkaaDoor.AM
open Go.RowKit
set_option linter.unusedVariables false
set_option linter.unusedSimpArgs false
theorem ins_mid (y : FD) : ∀ (P a : List FD), (∀ x ∈ P, ltS y.1 x.1 = false) → (∀ x ∈ a, ltS y.1 x.1 = true) → insS y (P ++ a) = P ++ y :: a
  | [], [], _, _ => rfl
  | [], x :: a, _, h => by rw [List.nil_append, ins_cons, if_pos (h x (List.mem_cons_self ..))]; rfl
  | x :: P, a, h1, h2 => by
    rw [List.cons_append, ins_cons, h1 x (List.mem_cons_self ..), if_neg (by decide), ins_mid y P a (fun z hz => h1 z (List.mem_cons_of_mem _ hz)) h2]; rfl
theorem lt_asym {s t : List UInt8} (h : ltS s t = true) : ltS t s = false := by
  cases h2 : ltS t s with
  | false => rfl
  | true => have := lt_trans' h h2; rw [lt_irr] at this; cases this
theorem lt_ne {s t : List UInt8} (h : ltS s t = true) : s ≠ t := fun e => by subst e; rw [lt_irr] at h; cases h
theorem rise_app {P a : List FD} : Rise (P ++ a) ↔ Rise P ∧ Rise a ∧ ∀ x ∈ P, ∀ y ∈ a, ltS x.1 y.1 = true := List.pairwise_append
theorem get_mid (x : FD) : ∀ (P a : List FD), (getS (P ++ x :: a) x.1).2 = true
  | [], a => by rw [List.nil_append, getS, if_pos rfl]
  | y :: P, a => by
    rw [List.cons_append, getS]
    split
    · rfl
    · exact get_mid x P a
theorem without_mid {x : FD} {p : List UInt8} {P a : List FD} (hx : x.1 = p) (h1 : NoP p P) (h2 : NoP p a) : withoutS (P ++ x :: a) p = P ++ a := by
  have e1 := without_nop h1
  have e2 := without_nop h2
  unfold withoutS at *
  rw [List.filter_append, List.filter_cons, e1]
  simp [hx, e2]
theorem okF_parts {f : FD} (h : okF f = true) : pathS f.1 = true ∧ f.2.length ≤ 4096 := by unfold okF at h; simpa using h
end Go.Proofs.YtaglhmoldbndkaaDoor.AM

/- Layer 5: a difference has what it needs, and no more: mathematics. -/
namespace Go.Proofs.YtaglhmoldbndkaaDoor.AM
open Go.RowKit
set_option linter.unusedVariables false
set_option linter.unusedSimpArgs false
theorem get_skip {x : FD} {t : List FD} {p : List UInt8} (h : x.1 ≠ p) : getS (x :: t) p = getS t p := by rw [getS, if_neg h]
theorem get_head (x : FD) (t : List FD) : getS (x :: t) x.1 = (x.2, true) := by rw [getS, if_pos rfl]
/-- what is asked of an op of a difference -/
structure Good (a b : List FD) (o : OD) : Prop where
  from_ : (getS a o.2.1).2 = true ∨ (getS b o.2.1).2 = true
  gone : o.1 = ((getS a o.2.1).2 && !(getS b o.2.1).2)
  put : o.1 = false → (getS b o.2.1).2 = true ∧ (getS b o.2.1).1 = o.2.2 ∧ ((getS a o.2.1).2 = true → (getS a o.2.1).1 ≠ o.2.2)
  none_ : o.1 = true → o.2.2 = []
theorem nop_above {p : List UInt8} {l : List FD} (h : ∀ x ∈ l, ltS p x.1 = true) : getS l p = ([], false) := get_nop fun x hx e => lt_ne (h x hx) e.symm
end Go.Proofs.YtaglhmoldbndkaaDoor.AM

/- Layer 5: files.first: what it comes to. -/
namespace Go.Proofs.YtaglhmoldbndkaaDoor.AM
open Go.RowKit
set_option linter.unusedVariables false
set_option linter.unusedSimpArgs false
theorem fFirst_spec (n : Nat) (s : List UInt8) (hs : s.length ≤ 1000000) : fFirst_t n s = some (firstR s) := by
  unfold fFirst_t firstR
  by_cases hlt : s.length < 2
  · have c0 : decide (((s.length : Nat) : Int) < (2 : Int)) = true := by rw [decide_eq_true_eq]; omega
    simp only [c0, cond_true]
    rw [oneS_lt hlt]
  match s, hs, hlt with
  | [], _, h => exact absurd (by decide) h
  | [_], _, h => exact absurd (by simp) h
  | k :: c :: r, hs, _ =>
    have hc := c.toNat_lt
    clear hs
    have c0 : decide ((((k :: c :: r).length : Nat) : Int) < (2 : Int)) = false := by rw [decide_eq_false_iff_not, List.length_cons, List.length_cons]; omega
    have h1 : subO (k :: c :: r) (0 : Int) (1 : Int) = some [k] := by
      have := sub_zero (l := k :: c :: r) (b := 1) (by simp)
      rw [show ((1 : Nat) : Int) = (1 : Int) from rfl] at this
      rw [this]; rfl
    have d0 : decide ([k] = ([0] : List UInt8)) = decide (k = 0) := decide_eq_decide.2 (by simp)
    have d1 : decide ([k] = ([1] : List UInt8)) = decide (k = 1) := decide_eq_decide.2 (by simp)
    have a1 : sAt (k :: c :: r) (1 : Int) = some ((c.toNat : Nat) : Int) := sAt_mid [k] r c rfl
    have w1 : IntKind.wrap .i64 ((c.toNat : Nat) : Int) = ((c.toNat : Nat) : Int) := wrap64 (by omega) (by omega)
    have w2 : IntKind.wrap .i64 ((2 : Int) + ((c.toNat : Nat) : Int)) = ((2 + c.toNat : Nat) : Int) := by rw [wrap64 (by omega) (by omega)]; omega
    have b1 : decide ((((k :: c :: r).length : Nat) : Int) < ((2 + c.toNat : Nat) : Int)) = decide (r.length < c.toNat) := decide_eq_decide.2 (by rw [List.length_cons, List.length_cons]; omega)
    have w3 : IntKind.wrap .i64 (((2 + c.toNat : Nat) : Int) + 2) = ((4 + c.toNat : Nat) : Int) := by rw [wrap64 (by omega) (by omega)]; omega
    have w4 : IntKind.wrap .i64 (((2 + c.toNat : Nat) : Int) + 1) = ((3 + c.toNat : Nat) : Int) := by rw [wrap64 (by omega) (by omega)]; omega
    have b2 : decide ((((k :: c :: r).length : Nat) : Int) < ((4 + c.toNat : Nat) : Int)) = decide (r.length < c.toNat + 2) := decide_eq_decide.2 (by rw [List.length_cons, List.length_cons]; omega)
    rw [oneS]
    simp only [c0, cond_false, h1, Option.bind_some, d0, d1, a1, letO, w1, w2, b1, w3, w4, b2]
    by_cases hk : k = 0 ∨ k = 1
    · rw [if_pos hk]
      by_cases hrc : r.length < c.toNat
      · rw [if_pos hrc]
        simp only [hrc, decide_true, cond_true]
        rcases hk with rfl | rfl <;> simp
      · rw [if_neg hrc]
        have p : subO (k :: c :: r) (2 : Int) ((2 + c.toNat : Nat) : Int) = some (r.take c.toNat) := sub_mid [k, c] r c.toNat (by omega) rfl rfl
        simp only [hrc, decide_false, cond_false, p, Option.bind_some]
        by_cases hk1 : k = 1
        · subst hk1
          have h10 : decide ((1 : UInt8) = 0) = false := by decide
          simp only [h10, decide_true, Bool.not_true, Bool.not_false, cond_true, cond_false, if_true]
        · have hk0 : k = 0 := by rcases hk with h | h
                                 · exact h
                                 · exact absurd h hk1
          have e0 : decide (k = 0) = true := decide_eq_true hk0
          clear hk0
          rw [if_neg hk1]
          simp only [hk1, e0, decide_false, Bool.not_true, cond_false]
          by_cases h2 : r.length < c.toNat + 2
          · simp only [h2, decide_true, cond_true]
            have hdl : (r.drop c.toNat).length < 2 := by rw [List.length_drop]; omega
            generalize r.drop c.toNat = R at hdl
            match R, hdl with
            | [], _ => simp
            | [_], _ => simp
          · have hP : (r.take c.toNat).length = c.toNat := by rw [List.length_take]; omega
            have hr : r = r.take c.toNat ++ r.drop c.toNat := (List.take_append_drop ..).symm
            have hdl : 2 ≤ (r.drop c.toNat).length := by rw [List.length_drop]; omega
            have hl2 : r.length = c.toNat + (r.drop c.toNat).length := by rw [List.length_drop]; omega
            generalize r.drop c.toNat = R at hr hdl hl2
            match R, hdl with
            | x :: y :: t, _ =>
              have hx := x.toNat_lt
              have hy := y.toNat_lt
              generalize r.take c.toNat = P at hP hr
              subst hr
              simp only [List.length_cons] at hl2
              have s1 : sAt (k :: c :: (P ++ x :: y :: t)) ((2 + c.toNat : Nat) : Int) = some ((x.toNat : Nat) : Int) := sAt_mid (k :: c :: P) (y :: t) x (by simp; omega)
              have s2 : sAt (k :: c :: (P ++ x :: y :: t)) ((3 + c.toNat : Nat) : Int) = some ((y.toNat : Nat) : Int) := by
                have := sAt_mid (k :: c :: P ++ [x]) t y (j := ((3 + c.toNat : Nat) : Int)) (by simp; omega)
                simpa using this
              have wx : IntKind.wrap .i64 ((x.toNat : Nat) : Int) = ((x.toNat : Nat) : Int) := wrap64 (by omega) (by omega)
              have wy : IntKind.wrap .i64 ((y.toNat : Nat) : Int) = ((y.toNat : Nat) : Int) := wrap64 (by omega) (by omega)
              have w5 : IntKind.wrap .i64 (((4 + c.toNat : Nat) : Int) + ((256 * x.toNat + y.toNat : Nat) : Int)) = ((4 + c.toNat + (256 * x.toNat + y.toNat) : Nat) : Int) := by
                clear b1 b2 c0 p h2 hrc
                rw [wrap64 (by omega) (by omega)]; omega
              have b3 : decide ((((k :: c :: (P ++ x :: y :: t)).length : Nat) : Int) < ((4 + c.toNat + (256 * x.toNat + y.toNat) : Nat) : Int)) = decide (t.length < 256 * x.toNat + y.toNat) := decide_eq_decide.2 (by clear c0 h1 a1 b1 b2 p; simp only [List.length_cons, List.length_append]; omega)
              have v1 := shl8 x
              have v2 := or8 x y
              simp only [h2, decide_false, cond_false]
              rw [s1, Option.bind_some, wx, v1, Option.bind_some, s2, Option.bind_some, wy, v2, w5, b3]
              by_cases ht : t.length < 256 * x.toNat + y.toNat
              · simp [ht]
              · have q : subO (k :: c :: (P ++ x :: y :: t)) ((4 + c.toNat : Nat) : Int) ((4 + c.toNat + (256 * x.toNat + y.toNat) : Nat) : Int) = some (t.take (256 * x.toNat + y.toNat)) := by
                  have := sub_mid (k :: c :: P ++ [x, y]) t (256 * x.toNat + y.toNat) (by omega) (i := ((4 + c.toNat : Nat) : Int)) (j := ((4 + c.toNat + (256 * x.toNat + y.toNat) : Nat) : Int)) (by simp; omega) (by simp; omega)
                  simpa using this
                simp only [ht, q, decide_false, cond_false, Option.bind_some, if_false]
    · rw [if_neg hk]
      have k0 : ¬ k = 0 := fun h => hk (Or.inl h)
      have k1 : ¬ k = 1 := fun h => hk (Or.inr h)
      simp only [k0, k1, decide_false, Bool.not_false, cond_true]
end Go.Proofs.YtaglhmoldbndkaaDoor.AM
