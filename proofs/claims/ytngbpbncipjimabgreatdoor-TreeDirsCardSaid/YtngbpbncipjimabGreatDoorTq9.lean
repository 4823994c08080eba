/- One text of TreF, TreP1 (mk/pack.py). -/
import Derived.Test.YtngbpbncipjimabGreatDoorTq8
import Derived.Test.YtngbpbncipjimabGreatDoorTq6
/- One text of FilS1, FilS2, FilS3, FilS4, FilS5, FilL, FilO, FilD, FilE, FilF (mk/merge.py). -/
/- Layer 5: what is told of lists of files: what the functions come to. -/
namespace Go.Proofs.YtngbpbncipjimabGreatDoor.AM
open Go.RowKit
set_option linter.unusedVariables false
set_option linter.unusedSimpArgs false
theorem rise_at (l : List FD) (j : Nat) (h : j < l.length) (h0 : 0 < j) : riseS (l.drop (j - 1)) = (ltS (l[j - 1]'(by omega)).1 l[j].1 && riseS (l.drop j)) := by
  have e1 : l.drop (j - 1) = l[j - 1] :: l.drop j := by
    have := List.drop_eq_getElem_cons (l := l) (i := j - 1) (by omega)
    rw [this]; congr 2; omega
  have e2 : l.drop j = l[j] :: l.drop (j + 1) := List.drop_eq_getElem_cons h
  rw [e1, e2, riseS]
theorem fMay_loop (n : Nat) (l : List FD) (hL : l.length ≤ 1000000) : ∀ m j : Nat, j ≤ l.length → l.length - j < m → fMay_loop0 n m l l ((l.length : Nat) : Int) (j : Int) = some (if ((l.drop j).all okF && riseS (l.drop (j - 1))) = true then Sum.inr ((), ((), ())) else Sum.inl ((false, ()), ((), ())))
  | 0, j, _, h => absurd h (Nat.not_lt_zero _)
  | m + 1, j, hj, h => by
    rw [fMay_loop0_succ]
    unfold fMay_l0
    by_cases c0 : j < l.length
    · have c0' : ((j : Nat) : Int) < ((l.length : Nat) : Int) := by omega
      have ih := fMay_loop n l hL m (j + 1) (by omega) (by omega)
      have hd : l.drop j = l[j] :: l.drop (j + 1) := (List.drop_eq_getElem_cons c0)
      have e4 : fPath_t l[j].1 = some (pathS l[j].1) := rfl
      have eo : (l.drop j).all okF = ((pathS l[j].1 && decide (l[j].2.length ≤ 4096)) && (l.drop (j + 1)).all okF) := by rw [hd, List.all_cons]; rfl
      rw [eo]
      simp only [c0', decide_true, cond_true, idx_lt c0, Option.bind_some, e4, letO, wrap_succ (show j < 4611686018427387904 by omega), ih, Nat.add_sub_cancel]
      cases pathS l[j].1 with
      | false => simp
      | true =>
        by_cases c1 : l[j].2.length ≤ 4096
        · have c1' : ¬ (4096 : Int) < ((l[j].2.length : Nat) : Int) := by omega
          by_cases c2 : 0 < j
          · have c2' : (0 : Int) < ((j : Nat) : Int) := by omega
            have w1 : IntKind.wrap .i64 (((j : Nat) : Int) - 1) = ((j - 1 : Nat) : Int) := by rw [wrap64 (by omega) (by omega)]; omega
            rw [rise_at l j c0 c2]
            simp only [c1, c1', c2', decide_true, decide_false, cond_true, cond_false, Bool.not_true, w1, idx_lt (show j - 1 < l.length by omega), Option.bind_some, Bool.true_and]
            cases ltS (l[j - 1]'(by omega)).1 l[j].1 with
            | true => simp only [Bool.not_true, cond_false, Bool.true_and]
            | false => simp
          · have c2' : ¬ (0 : Int) < ((j : Nat) : Int) := by omega
            have hj0 : j = 0 := by omega
            subst hj0
            simp only [c1, c1', decide_true, decide_false, cond_true, cond_false, Bool.not_true, Bool.true_and, Int.lt_irrefl, Int.natCast_zero, Nat.zero_sub]
        · have c1' : (4096 : Int) < ((l[j].2.length : Nat) : Int) := by omega
          simp [c1, c1']
    · have c0' : ¬ ((j : Nat) : Int) < ((l.length : Nat) : Int) := by omega
      have e1 : l.drop j = [] := List.drop_eq_nil_of_le (by omega)
      have e2 : riseS (l.drop (j - 1)) = true := by
        by_cases hz : l.length = 0
        · rw [List.drop_eq_nil_of_le (by omega)]; rfl
        · have := List.drop_eq_getElem_cons (l := l) (i := j - 1) (by omega)
          rw [this, show j - 1 + 1 = j from by omega, e1]; rfl
      simp [c0', e1, e2]
theorem fMay_spec (n : Nat) (l : List FD) (hL : l.length ≤ 1000000) (hn : l.length < n) : fMay_t n l = some (mayS l) := by
  unfold fMay_t mayS
  have := fMay_loop n l hL n 0 (Nat.zero_le _) (by omega)
  rw [show ((0 : Nat) : Int) = (0 : Int) from rfl] at this
  by_cases c : l.length ≤ 40
  · have c' : ¬ (40 : Int) < ((l.length : Nat) : Int) := by omega
    simp only [c, c', decide_true, decide_false, cond_false, this, Option.bind_some, List.drop_zero, Nat.zero_sub, Bool.true_and]
    cases (l.all okF && riseS l) <;> rfl
  · have c' : (40 : Int) < ((l.length : Nat) : Int) := by omega
    simp [c, c']
theorem r5May_loop (n : Nat) (l : List FD) (hL : l.length ≤ 1000000) (hp : ∀ f ∈ l, f.1.length ≤ 1000000) (hn : 100 ≤ n) : ∀ m j : Nat, j ≤ l.length → l.length - j < m → r5May_loop0 n m l (j : Int) = some (if ((l.drop j).all okF && riseS (l.drop (j - 1))) = true then Sum.inr ((l, ()), ((), ())) else Sum.inl ((false, ()), ((), ())))
  | 0, j, _, h => absurd h (Nat.not_lt_zero _)
  | m + 1, j, hj, h => by
    rw [r5May_loop0_succ]
    unfold r5May_l0
    by_cases c0 : j < l.length
    · have c0' : ((j : Nat) : Int) < ((l.length : Nat) : Int) := by omega
      have ih := r5May_loop n l hL hp hn m (j + 1) (by omega) (by omega)
      have hd : l.drop j = l[j] :: l.drop (j + 1) := (List.drop_eq_getElem_cons c0)
      have e4 : rPath5_t n l[j].1 = some (pathS l[j].1) := rPath5_spec n _ (hp _ (List.getElem_mem c0)) hn
      have eo : (l.drop j).all okF = ((pathS l[j].1 && decide (l[j].2.length ≤ 4096)) && (l.drop (j + 1)).all okF) := by rw [hd, List.all_cons]; rfl
      rw [eo]
      simp only [c0', decide_true, cond_true, idx_lt c0, Option.bind_some, e4, letO, wrap_succ (show j < 4611686018427387904 by omega), ih, Nat.add_sub_cancel]
      cases pathS l[j].1 with
      | false => simp
      | true =>
        by_cases c1 : l[j].2.length ≤ 4096
        · have c1' : ¬ (4096 : Int) < ((l[j].2.length : Nat) : Int) := by omega
          by_cases c2 : 0 < j
          · have c2' : (0 : Int) < ((j : Nat) : Int) := by omega
            have w1 : IntKind.wrap .i64 (((j : Nat) : Int) - 1) = ((j - 1 : Nat) : Int) := by rw [wrap64 (by omega) (by omega)]; omega
            rw [rise_at l j c0 c2]
            simp only [c1, c1', c2', decide_true, decide_false, cond_true, cond_false, Bool.not_true, w1, idx_lt (show j - 1 < l.length by omega), Option.bind_some, Bool.true_and]
            cases ltS (l[j - 1]'(by omega)).1 l[j].1 with
            | true => simp only [Bool.not_true, cond_false, Bool.true_and]
            | false => simp
          · have c2' : ¬ (0 : Int) < ((j : Nat) : Int) := by omega
            have hj0 : j = 0 := by omega
            subst hj0
            simp only [c1, c1', decide_true, decide_false, cond_true, cond_false, Bool.not_true, Bool.true_and, Int.lt_irrefl, Int.natCast_zero, Nat.zero_sub]
        · have c1' : (4096 : Int) < ((l[j].2.length : Nat) : Int) := by omega
          simp [c1, c1']
    · have c0' : ¬ ((j : Nat) : Int) < ((l.length : Nat) : Int) := by omega
      have e1 : l.drop j = [] := List.drop_eq_nil_of_le (by omega)
      have e2 : riseS (l.drop (j - 1)) = true := by
        by_cases hz : l.length = 0
        · rw [List.drop_eq_nil_of_le (by omega)]; rfl
        · have := List.drop_eq_getElem_cons (l := l) (i := j - 1) (by omega)
          rw [this, show j - 1 + 1 = j from by omega, e1]; rfl
      simp [c0', e1, e2]
theorem r5May_spec (n : Nat) (l : List FD) (hL : l.length ≤ 1000000) (hp : ∀ f ∈ l, f.1.length ≤ 1000000) (hn : 100 ≤ n) (hn2 : l.length < n) : r5May_t n l = some (mayS l) := by
  unfold r5May_t mayS
  have := r5May_loop n l hL hp hn n 0 (Nat.zero_le _) (by omega)
  rw [show ((0 : Nat) : Int) = (0 : Int) from rfl] at this
  rw [this]
  have hc : decide (((l.length : Nat) : Int) ≤ (40 : Int)) = decide (l.length ≤ 40) := decide_eq_decide.2 (by omega)
  simp only [List.drop_zero, Nat.zero_sub]
  cases (l.all okF && riseS l) with
  | true => simp only [if_true, Option.bind_some, Sum.elim_inr, hc, Bool.and_true]
  | false => simp
/-! what is got -/
theorem r5Get_loop (n : Nat) (p : List UInt8) (l : List FD) (hL : l.length ≤ 1000000) : ∀ m j : Nat, j ≤ l.length → l.length - j < m → r5Get_loop0 n m l p (j : Int) = some (if (getS (l.drop j) p).2 = true then Sum.inl (((getS (l.drop j) p).1, (true, ())), ((), ())) else Sum.inr ((), ((), ())))
  | 0, j, _, h => absurd h (Nat.not_lt_zero _)
  | m + 1, j, hj, h => by
    rw [r5Get_loop0_succ]
    unfold r5Get_l0
    by_cases c0 : j < l.length
    · have c0' : ((j : Nat) : Int) < ((l.length : Nat) : Int) := by omega
      have ih := r5Get_loop n p l hL m (j + 1) (by omega) (by omega)
      have hd : l.drop j = l[j] :: l.drop (j + 1) := (List.drop_eq_getElem_cons c0)
      have hg : getS (l.drop j) p = if l[j].1 = p then (l[j].2, true) else getS (l.drop (j + 1)) p := by rw [hd, getS]
      rw [hg]
      simp only [c0', decide_true, cond_true, idx_lt c0, Option.bind_some, letO, wrap_succ (show j < 4611686018427387904 by omega), ih]
      by_cases c1 : l[j].1 = p
      · simp [c1]
      · simp [c1]
    · have c0' : ¬ ((j : Nat) : Int) < ((l.length : Nat) : Int) := by omega
      have e1 : l.drop j = [] := List.drop_eq_nil_of_le (by omega)
      simp [c0', e1, getS]
theorem r5Get_spec (n : Nat) (l : List FD) (p : List UInt8) (hL : l.length ≤ 1000000) (hn : l.length < n) : r5Get_t n l p = some (getS l p) := by
  unfold r5Get_t
  have := r5Get_loop n p l hL n 0 (Nat.zero_le _) (by omega)
  rw [show ((0 : Nat) : Int) = (0 : Int) from rfl, List.drop_zero] at this
  rw [this]
  cases h : (getS l p).2 with
  | true =>
    have : getS l p = ((getS l p).1, true) := by rw [← h]
    simp only [if_true, Option.bind_some, Sum.elim_inl]
    rw [← this]
  | false => rw [getS_none h]; rfl
/-! whether two lists are the same -/
/-! few, of little -/
theorem wrap_succM {i : Nat} (h : i + 1 ≤ 9223372036854775807) : IntKind.wrap .i64 ((i : Int) + 1) = ((i + 1 : Nat) : Int) := by rw [wrap64 (by omega) (by omega)]; rfl
/-! whether an op alone can be laid -/
end Go.Proofs.YtngbpbncipjimabGreatDoor.AM

/- Layer 5: differences: what the functions come to. -/
namespace Go.Proofs.YtngbpbncipjimabGreatDoor.AM
open Go.RowKit
set_option linter.unusedVariables false
set_option linter.unusedSimpArgs false
end Go.Proofs.YtngbpbncipjimabGreatDoor.AM

/- Layer 5: an op's bytes: what the functions come to. -/
namespace Go.Proofs.YtngbpbncipjimabGreatDoor.AM
open Go.RowKit
set_option linter.unusedVariables false
set_option linter.unusedSimpArgs false
end Go.Proofs.YtngbpbncipjimabGreatDoor.AM

/- Layer 5: the op that stands first in some bytes, decoding: what the functions come to. -/
namespace Go.Proofs.YtngbpbncipjimabGreatDoor.AM
open Go.RowKit
set_option linter.unusedVariables false
set_option linter.unusedSimpArgs false
end Go.Proofs.YtngbpbncipjimabGreatDoor.AM

/- Layer 5: what comes of files by ops: what the document's functions come to. -/
namespace Go.Proofs.YtngbpbncipjimabGreatDoor.AM
open Go.RowKit
set_option linter.unusedVariables false
set_option linter.unusedSimpArgs false
def withoutS (l : List FD) (p : List UInt8) : List FD := l.filter fun f => !decide (f.1 = p)
def withL (f : FD) : List FD → List FD × Bool
  | [] => ([], false)
  | x :: t => if ltS f.1 x.1 then (f :: x :: t, true) else (x :: (withL f t).1, (withL f t).2)
def insS (f : FD) (l : List FD) : List FD := if (withL f l).2 then (withL f l).1 else (withL f l).1 ++ [f]
def stepS (l : List FD) (o : OD) : List FD × Int :=
  if pathS o.2.1 then (if o.1 then (if (getS l o.2.1).2 then (withoutS l o.2.1, 0) else ([], 5)) else if 4096 < o.2.2.length then ([], 2) else if 40 ≤ (withoutS l o.2.1).length then ([], 3) else (insS o.2 (withoutS l o.2.1), 0)) else ([], 6)
def appL : List FD → List OD → List FD × Int
  | l, [] => (l, 0)
  | l, o :: t => if (stepS l o).2 = 0 then appL (stepS l o).1 t else ([], (stepS l o).2)
def appS (l : List FD) (ops : List OD) : List FD × Int := if mayS l then appL l ops else ([], 1)
theorem app32 {l : List FD} (h : l.length ≤ 1000000) (r : FD) : appO 32 l [r] = some (l ++ [r]) := if_pos (by simp; omega)
theorem r5Without_loop (n : Nat) (l : List FD) (p : List UInt8) (hL : l.length ≤ 100000) : ∀ (m j : Nat) (acc : List FD), j ≤ l.length → l.length - j < m → acc.length ≤ j → r5Without_loop0 n m l p (j : Int) acc = some (((), ()), ((), (acc ++ withoutS (l.drop j) p, ())))
  | 0, j, acc, _, h, _ => absurd h (Nat.not_lt_zero _)
  | m + 1, j, acc, hj, h, ha => by
    rw [r5Without_loop0_succ]
    unfold r5Without_l0
    by_cases c0 : j < l.length
    · have c0' : ((j : Nat) : Int) < ((l.length : Nat) : Int) := by omega
      have i1 := r5Without_loop n l p hL m (j + 1) (acc ++ [l[j]]) (by omega) (by omega) (by simp; omega)
      have i2 := r5Without_loop n l p hL m (j + 1) acc (by omega) (by omega) (by omega)
      have hd : l.drop j = l[j] :: l.drop (j + 1) := (List.drop_eq_getElem_cons c0)
      have hw : withoutS (l.drop j) p = if l[j].1 = p then withoutS (l.drop (j + 1)) p else l[j] :: withoutS (l.drop (j + 1)) p := by
        rw [hd]; unfold withoutS; rw [List.filter_cons]
        by_cases hc : l[j].1 = p
        · simp [hc]
        · simp [hc]
      rw [hw]
      simp only [c0', decide_true, cond_true, idx_lt c0, Option.bind_some, app32 (show acc.length ≤ 1000000 by omega), letO, wrap_succ (show j < 4611686018427387904 by omega), i1, i2]
      by_cases hc : l[j].1 = p
      · simp [hc]
      · simp [hc]
    · have c0' : ¬ ((j : Nat) : Int) < ((l.length : Nat) : Int) := by omega
      have e1 : l.drop j = [] := List.drop_eq_nil_of_le (by omega)
      simp [c0', e1, withoutS]
theorem r5Without_spec (n : Nat) (l : List FD) (p : List UInt8) (hL : l.length ≤ 100000) (hn : l.length < n) : r5Without_t n l p = some (withoutS l p) := by
  unfold r5Without_t
  have := r5Without_loop n l p hL n 0 [] (Nat.zero_le _) (by omega) (Nat.le_refl _)
  rw [show ((0 : Nat) : Int) = (0 : Int) from rfl, List.drop_zero] at this
  rw [this]; rfl
theorem r5With_loop (n : Nat) (l : List FD) (f : FD) (hL : l.length ≤ 100000) : ∀ (m j : Nat) (b : Bool) (acc : List FD), j ≤ l.length → l.length - j < m → acc.length ≤ 2 * j + 2 →
    r5With_loop0 n m l b (j : Int) f.1 f.2 acc = some (((), ((), (b || (withL f (l.drop j)).2, ()))), (((f.1, f.2), ()), (acc ++ (if b then l.drop j else (withL f (l.drop j)).1), ())))
  | 0, j, b, acc, _, h, _ => absurd h (Nat.not_lt_zero _)
  | m + 1, j, b, acc, hj, h, ha => by
    rw [r5With_loop0_succ]
    unfold r5With_l0
    by_cases c0 : j < l.length
    · have c0' : ((j : Nat) : Int) < ((l.length : Nat) : Int) := by omega
      have hd : l.drop j = l[j] :: l.drop (j + 1) := (List.drop_eq_getElem_cons c0)
      have hw : withL f (l.drop j) = if ltS f.1 l[j].1 then (f :: l.drop j, true) else (l[j] :: (withL f (l.drop (j + 1))).1, (withL f (l.drop (j + 1))).2) := by rw [hd, withL]
      rw [hw]
      have a1 : appO 32 acc [l[j]] = some (acc ++ [l[j]]) := app32 (by omega) _
      have a2 : appO 32 acc [(f.1, f.2)] = some (acc ++ [f]) := app32 (by omega) _
      have a3 : appO 32 (acc ++ [f]) [l[j]] = some (acc ++ [f] ++ [l[j]]) := app32 (by simp; omega) _
      have i1 := fun b => r5With_loop n l f hL m (j + 1) b (acc ++ [l[j]]) (by omega) (by omega) (by simp; omega)
      have i2 := r5With_loop n l f hL m (j + 1) true (acc ++ [f] ++ [l[j]]) (by omega) (by omega) (by simp; omega)
      simp only [c0', decide_true, cond_true, idx_lt c0, Option.bind_some, letO, wrap_succ (show j < 4611686018427387904 by omega), a1, a2, a3, i1, i2]
      cases b with
      | true => rw [hd]; simp only [Bool.not_true, Bool.not_false, cond_true, cond_false, Bool.false_or, Bool.true_or, if_true, List.append_assoc, List.cons_append, List.nil_append]
      | false =>
        cases ltS f.1 l[j].1 with
        | true => rw [hd]; simp only [Bool.not_true, Bool.not_false, cond_true, cond_false, Bool.false_or, Bool.true_or, Bool.or_true, if_true, Bool.false_eq_true, if_false, List.append_assoc, List.cons_append, List.nil_append]
        | false => simp
    · have c0' : ¬ ((j : Nat) : Int) < ((l.length : Nat) : Int) := by omega
      have e1 : l.drop j = [] := List.drop_eq_nil_of_le (by omega)
      cases b <;> simp [c0', e1, withL]
theorem r5With_spec (n : Nat) (l : List FD) (f : FD) (hL : l.length ≤ 100000) (hn : l.length < n) : r5With_t n l f = some (insS f l) := by
  unfold r5With_t insS
  have := r5With_loop n l f hL n 0 false [] (Nat.zero_le _) (by omega) (by simp)
  rw [show ((0 : Nat) : Int) = (0 : Int) from rfl, List.drop_zero] at this
  rw [this]
  have hl : ∀ l : List FD, (withL f l).1.length ≤ l.length + 1 := by
    intro l
    induction l with
    | nil => simp [withL]
    | cons x t ih => rw [withL]; split
                     · simp
                     · simp; omega
  simp only [Option.bind_some, Bool.false_or, Bool.false_eq_true, if_false, List.nil_append]
  cases hw : (withL f l).2 with
  | true => rfl
  | false =>
    simp only [Bool.not_false, cond_true]
    rw [show ((f.1, f.2) : FD) = f from rfl, app32 (by have := hl l; omega) f]; rfl
theorem withL_len (f : FD) : ∀ l : List FD, (withL f l).1.length ≤ l.length + 1
  | [] => by simp [withL]
  | x :: t => by
    have ih := withL_len f t
    rw [withL]; split
    · simp
    · simp; omega
theorem ins_len (f : FD) (l : List FD) : (insS f l).length ≤ l.length + 2 := by
  have := withL_len f l
  unfold insS; split
  · omega
  · simp; omega
theorem without_len (l : List FD) (p : List UInt8) : (withoutS l p).length ≤ l.length := List.length_filter_le ..
theorem r5Apply_loop (n : Nat) (ops : List OD) (hL : ops.length ≤ 10000) (hp : ∀ o ∈ ops, o.2.1.length ≤ 1000000) (hn : 100 ≤ n) (hn2 : 30000 < n) : ∀ (m j : Nat) (l : List FD), j ≤ ops.length → ops.length - j < m → l.length ≤ 2 * j + 50 →
    r5Apply_loop0 n m ops l (j : Int) = some (if (appL l (ops.drop j)).2 = 0 then Sum.inr (((appL l (ops.drop j)).1, ()), ((), ())) else Sum.inl (((), ((appL l (ops.drop j)).2, ())), ((), ())))
  | 0, j, l, _, h, _ => absurd h (Nat.not_lt_zero _)
  | m + 1, j, l, hj, h, hl => by
    rw [r5Apply_loop0_succ]
    unfold r5Apply_l0
    by_cases c0 : j < ops.length
    · have c0' : ((j : Nat) : Int) < ((ops.length : Nat) : Int) := by omega
      have hd : ops.drop j = ops[j] :: ops.drop (j + 1) := (List.drop_eq_getElem_cons c0)
      have hpo := hp _ (List.getElem_mem c0)
      rw [hd]
      have hx : idxL ops ((j : Nat) : Int) = some ops[j] := idx_lt c0
      rw [hx]
      generalize ops[j] = o at hpo
      have hwl := without_len l o.2.1
      have hil := ins_len o.2 (withoutS l o.2.1)
      have g1 : r5Get_t n l o.2.1 = some (getS l o.2.1) := r5Get_spec n l _ (by omega) (by omega)
      have g2 : rPath5_t n o.2.1 = some (pathS o.2.1) := rPath5_spec n _ hpo hn
      have g3 : r5Without_t n l o.2.1 = some (withoutS l o.2.1) := r5Without_spec n l _ (by omega) (by omega)
      have g4 : r5With_t n (withoutS l o.2.1) o.2 = some (insS o.2 (withoutS l o.2.1)) := r5With_spec n _ _ (by omega) (by omega)
      have i1 := r5Apply_loop n ops hL hp hn hn2 m (j + 1) (withoutS l o.2.1) (by omega) (by omega) (by omega)
      have i2 := r5Apply_loop n ops hL hp hn hn2 m (j + 1) (insS o.2 (withoutS l o.2.1)) (by omega) (by omega) (by omega)
      have b1 : decide ((4096 : Int) < ((o.2.2.length : Nat) : Int)) = decide (4096 < o.2.2.length) := decide_eq_decide.2 (by omega)
      have b2 : decide ((40 : Int) ≤ (((withoutS l o.2.1).length : Nat) : Int)) = decide (40 ≤ (withoutS l o.2.1).length) := decide_eq_decide.2 (by omega)
      simp only [c0', decide_true, cond_true, Option.bind_some, g1, g2, g3, g4, b1, b2, letO, wrap_succ (show j < 4611686018427387904 by omega), i1, i2]
      rw [appL]
      unfold stepS
      cases pathS o.2.1 with
      | false => simp
      | true =>
        cases o.1 with
        | true =>
          cases (getS l o.2.1).2 with
          | false => simp
          | true => simp
        | false =>
          by_cases h1 : 4096 < o.2.2.length
          · simp [h1]
          · by_cases h2 : 40 ≤ (withoutS l o.2.1).length
            · simp [h1, h2]
            · simp [h1, h2]
    · have c0' : ¬ ((j : Nat) : Int) < ((ops.length : Nat) : Int) := by omega
      have e1 : ops.drop j = [] := List.drop_eq_nil_of_le (by omega)
      simp [c0', e1, appL]
theorem appL_nil : ∀ (ops : List OD) (l : List FD), (appL l ops).2 ≠ 0 → (appL l ops).1 = []
  | [], l, h => absurd rfl h
  | o :: t, l, h => by
    rw [appL] at h ⊢
    split at h
    · rename_i hc; rw [if_pos hc]; exact appL_nil t _ h
    · rename_i hc; rw [if_neg hc]
theorem r5Apply_spec (n : Nat) (l : List FD) (ops : List OD) (hL : ops.length ≤ 10000) (hl : l.length ≤ 10000) (hlp : ∀ f ∈ l, f.1.length ≤ 1000000) (hp : ∀ o ∈ ops, o.2.1.length ≤ 1000000) (hn : 100 ≤ n) (hn2 : 30000 < n) : r5Apply_t n l ops = some (appS l ops) := by
  unfold r5Apply_t appS
  rw [r5May_spec n l (by omega) hlp hn (by omega)]
  cases hm : mayS l with
  | false => rfl
  | true =>
    have h40 : l.length ≤ 40 := by unfold mayS at hm; simp only [Bool.and_eq_true, decide_eq_true_eq] at hm; exact hm.1
    have ha : appO 32 ([] : List FD) l = some l := by unfold appO; rw [if_pos (by simp; omega)]; rfl
    have := r5Apply_loop n ops hL hp hn hn2 n 0 l (Nat.zero_le _) (by omega) (by omega)
    rw [show ((0 : Nat) : Int) = (0 : Int) from rfl, List.drop_zero] at this
    simp only [Option.bind_some, Bool.not_true, cond_false, ha, this]
    by_cases he : (appL l ops).2 = 0
    · have e : appL l ops = ((appL l ops).1, 0) := by rw [← he]
      simp only [he, if_true, Option.bind_some, Sum.elim_inr]
      rw [← e]
    · have e : appL l ops = ([], (appL l ops).2) := by rw [← appL_nil ops l he]
      simp only [he, if_false, if_true, Option.bind_some, Sum.elim_inl]
      rw [← e]
end Go.Proofs.YtngbpbncipjimabGreatDoor.AM

/- Layer 5: the answers that the laws begin with, and paths put together: mathematics. -/
namespace Go.Proofs.YtngbpbncipjimabGreatDoor.AM
open Go.RowKit
set_option linter.unusedVariables false
set_option linter.unusedSimpArgs false
/-! paths put together -/
theorem path_app (a b : List UInt8) : pathS (a ++ 47 :: b) = (decide (a.length + b.length < 60) && ((spl 47 [] a).all partS && (spl 47 [] b).all partS)) := by
  unfold pathS
  rw [spl_app, List.all_append]
  congr 1
  exact decide_eq_decide.2 (by simp; omega)
theorem path_of {a b : List UInt8} (h : pathS (a ++ 47 :: b) = true) : pathS a = true ∧ pathS b = true := by
  rw [path_app] at h
  simp only [Bool.and_eq_true, decide_eq_true_eq] at h
  unfold pathS
  simp only [Bool.and_eq_true, decide_eq_true_eq]
  exact ⟨⟨by omega, h.2.1⟩, ⟨by omega, h.2.2⟩⟩
theorem path_front (a : List UInt8) : pathS (47 :: a) = false := by
  have := path_app [] a
  rw [List.nil_append] at this
  rw [this]
  have : (spl 47 [] ([] : List UInt8)).all partS = false := by decide
  rw [this]; simp
end Go.Proofs.YtngbpbncipjimabGreatDoor.AM

/- Layer 5: files in order: what an op leaves: mathematics. -/
namespace Go.Proofs.YtngbpbncipjimabGreatDoor.AM
open Go.RowKit
set_option linter.unusedVariables false
set_option linter.unusedSimpArgs false
theorem lt_cmp (s t : List UInt8) : ltS s t = true ↔ cmpL cmpB s t < 0 := by
  unfold ltS; rw [bytesLess_cmp, decide_eq_true_eq]
theorem lt_trans' {s t u : List UInt8} (h1 : ltS s t = true) (h2 : ltS t u = true) : ltS s u = true := by
  rw [lt_cmp] at *
  have ht := (cmpL_cmp cmpB_cmp).tr s t u (by omega) (by omega)
  have hr := (cmpL_cmp cmpB_cmp).rng s u
  rcases Int.lt_or_eq_of_le ht with h | h
  · exact h
  · have e := (cmpL_cmp cmpB_cmp).eq s u h
    subst e
    have ha := (cmpL_cmp cmpB_cmp).anti s t
    omega
theorem lt_irr (s : List UInt8) : ltS s s = false := by
  cases h : ltS s s with
  | false => rfl
  | true => rw [lt_cmp, (cmpL_cmp cmpB_cmp).refl] at h; omega
theorem lt_tot {s t : List UInt8} (h1 : ltS s t = false) (h2 : s ≠ t) : ltS t s = true := by
  rw [lt_cmp]
  have h3 : ¬ cmpL cmpB s t < 0 := fun h => by rw [(lt_cmp s t).2 h] at h1; cases h1
  have h4 : cmpL cmpB s t ≠ 0 := fun h => h2 ((cmpL_cmp cmpB_cmp).eq s t h)
  have ha := (cmpL_cmp cmpB_cmp).anti s t
  omega
def Rise (l : List FD) : Prop := l.Pairwise fun x y => ltS x.1 y.1 = true
theorem rise_iff : ∀ l : List FD, riseS l = true ↔ Rise l
  | [] => by simp [riseS, Rise]
  | [x] => by simp [riseS, Rise]
  | x :: y :: t => by
    have ih := rise_iff (y :: t)
    unfold Rise at ih ⊢
    rw [riseS, Bool.and_eq_true, ih]
    constructor
    · intro h
      have h1 := h.1
      have h2 := h.2
      refine List.pairwise_cons.2 ⟨fun z hz => ?_, h2⟩
      rcases List.mem_cons.1 hz with rfl | hz
      · exact h1
      · exact lt_trans' h1 ((List.pairwise_cons.1 h2).1 z hz)
    · intro h
      have h' := List.pairwise_cons.1 h
      exact ⟨h'.1 y (List.mem_cons_self ..), h'.2⟩
theorem ins_nil (f : FD) : insS f [] = [f] := rfl
theorem ins_cons (f x : FD) (t : List FD) : insS f (x :: t) = if ltS f.1 x.1 then f :: x :: t else x :: insS f t := by
  unfold insS; rw [withL]
  split
  · rfl
  · simp only
    split <;> simp
theorem mem_ins (f y : FD) : ∀ l : List FD, y ∈ insS f l ↔ y = f ∨ y ∈ l
  | [] => by simp [ins_nil]
  | x :: t => by
    rw [ins_cons]
    split
    · simp
    · rw [List.mem_cons, mem_ins f y t, List.mem_cons]
      constructor
      · rintro (h | h | h)
        · exact Or.inr (Or.inl h)
        · exact Or.inl h
        · exact Or.inr (Or.inr h)
      · rintro (h | h | h)
        · exact Or.inr (Or.inl h)
        · exact Or.inl h
        · exact Or.inr (Or.inr h)
theorem ins_length (f : FD) : ∀ l : List FD, (insS f l).length = l.length + 1
  | [] => rfl
  | x :: t => by
    rw [ins_cons]; split
    · simp
    · simp [ins_length f t]
def NoP (p : List UInt8) (l : List FD) : Prop := ∀ x ∈ l, x.1 ≠ p
theorem rise_ins {f : FD} : ∀ {l : List FD}, Rise l → NoP f.1 l → Rise (insS f l)
  | [], _, _ => by unfold Rise; rw [ins_nil]; simp
  | x :: t, h, hn => by
    have ⟨h1, h2⟩ := List.pairwise_cons.1 h
    rw [ins_cons]
    cases hc : ltS f.1 x.1 with
    | true =>
      simp only [if_true]
      refine List.pairwise_cons.2 ⟨fun z hz => ?_, h⟩
      rcases List.mem_cons.1 hz with rfl | hz
      · exact hc
      · exact lt_trans' hc (h1 z hz)
    | false =>
      simp only [Bool.false_eq_true, if_false]
      refine List.pairwise_cons.2 ⟨fun z hz => ?_, rise_ins h2 (fun y hy => hn y (List.mem_cons_of_mem _ hy))⟩
      rcases (mem_ins f z t).1 hz with rfl | hz
      · exact lt_tot hc (fun e => hn x (List.mem_cons_self ..) e.symm)
      · exact h1 z hz
theorem rise_without {l : List FD} (p : List UInt8) (h : Rise l) : Rise (withoutS l p) := List.Pairwise.filter _ h
theorem nop_without (l : List FD) (p : List UInt8) : NoP p (withoutS l p) := fun x hx => by
  have := (List.mem_filter.1 hx).2; simpa using this
theorem without_nop {l : List FD} {p : List UInt8} (h : NoP p l) : withoutS l p = l := by
  unfold withoutS; rw [List.filter_eq_self]
  intro x hx; simpa using h x hx
theorem nop_get : ∀ {l : List FD} {p : List UInt8}, (getS l p).2 = false → NoP p l
  | [], _, _ => fun x hx => by cases hx
  | x :: t, p, h => by
    rw [getS] at h
    split at h
    · cases h
    · rename_i hc
      intro y hy
      rcases List.mem_cons.1 hy with rfl | hy
      · exact hc
      · exact nop_get h y hy
theorem may_iff (l : List FD) : mayS l = true ↔ l.length ≤ 40 ∧ (∀ f ∈ l, okF f = true) ∧ Rise l := by
  unfold mayS
  rw [Bool.and_eq_true, Bool.and_eq_true, decide_eq_true_eq, List.all_eq_true, rise_iff]
/-- what may be, may be after an op that is done -/
theorem step_may {l : List FD} {o : OD} (hl : mayS l = true) (h : (stepS l o).2 = 0) : mayS (stepS l o).1 = true := by
  rw [may_iff] at hl ⊢
  obtain ⟨h1, h2, h3⟩ := hl
  have hw : ∀ f ∈ withoutS l o.2.1, okF f = true := fun f hf => h2 f (List.mem_filter.1 hf).1
  have hwl := without_len l o.2.1
  unfold stepS at h ⊢
  cases hp : pathS o.2.1 with
  | false => rw [hp] at h; simp at h
  | true =>
    rw [hp] at h
    simp only [if_true] at h ⊢
    cases ho : o.1 with
    | true =>
      rw [ho] at h
      simp only [if_true] at h ⊢
      cases hg : (getS l o.2.1).2 with
      | false => rw [hg] at h; simp at h
      | true => simp only [if_true]; exact ⟨by omega, hw, rise_without _ h3⟩
    | false =>
      rw [ho] at h
      simp only [Bool.false_eq_true, if_false] at h ⊢
      by_cases c1 : 4096 < o.2.2.length
      · rw [if_pos c1] at h; simp at h
      · rw [if_neg c1] at h ⊢
        by_cases c2 : 40 ≤ (withoutS l o.2.1).length
        · rw [if_pos c2] at h; simp at h
        · rw [if_neg c2]
          refine ⟨by simp only [ins_length]; omega, fun f hf => ?_, rise_ins (rise_without _ h3) (nop_without _ _)⟩
          rcases (mem_ins o.2 f _).1 hf with rfl | hf
          · unfold okF; rw [hp]; simp; omega
          · exact hw f hf
theorem app_may : ∀ (ops : List OD) {l : List FD}, mayS l = true → (appL l ops).2 = 0 → mayS (appL l ops).1 = true
  | [], l, h, _ => h
  | o :: t, l, h, h0 => by
    rw [appL] at h0 ⊢
    split at h0
    · rename_i hc; rw [if_pos hc]; exact app_may t (step_may h hc) h0
    · rename_i hc; exact absurd h0 hc
end Go.Proofs.YtngbpbncipjimabGreatDoor.AM

/- Layer 5: a difference that is applied: mathematics. -/
namespace Go.Proofs.YtngbpbncipjimabGreatDoor.AM
open Go.RowKit
set_option linter.unusedVariables false
set_option linter.unusedSimpArgs false
theorem lt_asym {s t : List UInt8} (h : ltS s t = true) : ltS t s = false := by
  cases h2 : ltS t s with
  | false => rfl
  | true => have := lt_trans' h h2; rw [lt_irr] at this; cases this
theorem lt_ne {s t : List UInt8} (h : ltS s t = true) : s ≠ t := fun e => by subst e; rw [lt_irr] at h; cases h
theorem rise_app {P a : List FD} : Rise (P ++ a) ↔ Rise P ∧ Rise a ∧ ∀ x ∈ P, ∀ y ∈ a, ltS x.1 y.1 = true := List.pairwise_append
theorem without_mid {x : FD} {p : List UInt8} {P a : List FD} (hx : x.1 = p) (h1 : NoP p P) (h2 : NoP p a) : withoutS (P ++ x :: a) p = P ++ a := by
  have e1 := without_nop h1
  have e2 := without_nop h2
  unfold withoutS at *
  rw [List.filter_append, List.filter_cons, e1]
  simp [hx, e2]
theorem okF_parts {f : FD} (h : okF f = true) : pathS f.1 = true ∧ f.2.length ≤ 4096 := by unfold okF at h; simpa using h
end Go.Proofs.YtngbpbncipjimabGreatDoor.AM

/- Layer 5: a difference has what it needs, and no more: mathematics. -/
namespace Go.Proofs.YtngbpbncipjimabGreatDoor.AM
open Go.RowKit
set_option linter.unusedVariables false
set_option linter.unusedSimpArgs false
theorem get_mem : ∀ {l : List FD} {p : List UInt8}, (getS l p).2 = true → ∃ x ∈ l, x.1 = p
  | [], _, h => by cases h
  | x :: t, p, h => by
    rw [getS] at h
    split at h
    · rename_i hc; exact ⟨x, List.mem_cons_self .., hc⟩
    · obtain ⟨y, hy, e⟩ := get_mem h; exact ⟨y, List.mem_cons_of_mem _ hy, e⟩
/-- what is asked of an op of a difference -/
structure Good (a b : List FD) (o : OD) : Prop where
  from_ : (getS a o.2.1).2 = true ∨ (getS b o.2.1).2 = true
  gone : o.1 = ((getS a o.2.1).2 && !(getS b o.2.1).2)
  put : o.1 = false → (getS b o.2.1).2 = true ∧ (getS b o.2.1).1 = o.2.2 ∧ ((getS a o.2.1).2 = true → (getS a o.2.1).1 ≠ o.2.2)
  none_ : o.1 = true → o.2.2 = []
/-- an op's path is one of these -/
theorem Good.above {a b : List FD} {o : OD} (h : Good a b o) {p : List UInt8} (ha : ∀ x ∈ a, ltS p x.1 = true) (hb : ∀ x ∈ b, ltS p x.1 = true) : ltS p o.2.1 = true := by
  rcases h.from_ with h | h
  · obtain ⟨x, hx, e⟩ := get_mem h; rw [← e]; exact ha x hx
  · obtain ⟨x, hx, e⟩ := get_mem h; rw [← e]; exact hb x hx
end Go.Proofs.YtngbpbncipjimabGreatDoor.AM

/- Layer 5: files.first: what it comes to. -/
namespace Go.Proofs.YtngbpbncipjimabGreatDoor.AM
open Go.RowKit
set_option linter.unusedVariables false
set_option linter.unusedSimpArgs false
end Go.Proofs.YtngbpbncipjimabGreatDoor.AM

/- Layer 14: what the small functions come to. -/
namespace Go.Proofs.YtngbpbncipjimabGreatDoor.AM
open Go.RowKit
set_option linter.unusedVariables false
set_option linter.unusedSimpArgs false
theorem cat_ok {s t : List UInt8} (h : s.length + t.length ≤ 9223372036854775807) : catO s t = some (s ++ t) := if_pos h
theorem take_succ_rev (s : List UInt8) (j : Nat) (h : j < s.length) : (s.take (j + 1)).reverse = s[j] :: (s.take j).reverse := by
  rw [List.take_succ_eq_append_getElem h]; simp
theorem LastI_loop (n : Nat) (c : UInt8) (s : List UInt8) (hL : s.length ≤ 1000000) : ∀ m j : Nat, j ≤ s.length → j < m → LastI_loop0 n m s ((c.toNat : Nat) : Int) ((j : Int) - 1) = some (if lastR c (s.take j).reverse = -1 then Sum.inr ((), ((), ())) else Sum.inl ((lastR c (s.take j).reverse, ()), ((), ())))
  | 0, j, _, h => absurd h (Nat.not_lt_zero _)
  | m + 1, 0, _, _ => by
    rw [LastI_loop0_succ]
    unfold LastI_l0
    simp [lastR]
  | m + 1, j + 1, hj, h => by
    rw [LastI_loop0_succ]
    unfold LastI_l0
    have e1 : ((j + 1 : Nat) : Int) - 1 = ((j : Nat) : Int) := by omega
    have ih := LastI_loop n c s hL m j (by omega) (by omega)
    have w1 : IntKind.wrap .i64 (((j : Nat) : Int) - 1) = ((j : Nat) : Int) - 1 := wrap64 (by omega) (by omega)
    have c0 : (0 : Int) ≤ ((j : Nat) : Int) := by omega
    have d1 : decide (((s[j].toNat : Nat) : Int) = ((c.toNat : Nat) : Int)) = decide (s[j] = c) := decide_eq_decide.2 ⟨fun h => UInt8.toNat_inj.1 (by omega), fun h => by rw [h]⟩
    rw [e1]
    simp only [c0, decide_true, cond_true, sAt_lt (show j < s.length by omega), Option.bind_some, d1, letO, w1, ih, take_succ_rev s j (by omega), lastR]
    by_cases h0 : s[j] = c
    · have : ¬ (((s.take j).reverse.length : Nat) : Int) = -1 := by omega
      have l1 : (s.take j).reverse.length = j := by simp; omega
      simp only [h0, decide_true, cond_true, if_true, this, if_false, l1]
      rw [if_neg (by omega)]
    · simp [h0]
theorem LastI_spec (n : Nat) (c : UInt8) (s : List UInt8) (hL : s.length ≤ 1000000) (hn : s.length < n) : LastI_t n s ((c.toNat : Nat) : Int) = some (lastC c s) := by
  unfold LastI_t
  have := LastI_loop n c s hL n s.length (Nat.le_refl _) hn
  have w1 : IntKind.wrap .i64 (((s.length : Nat) : Int) - 1) = ((s.length : Nat) : Int) - 1 := wrap64 (by omega) (by omega)
  simp only [letO, w1, this, List.take_length]
  unfold lastC
  by_cases h : lastR c s.reverse = -1
  · simp [h]
  · simp [h]
theorem LastB_spec (n : Nat) (s : List UInt8) (hL : s.length ≤ 1000000) (hn : s.length < n) : LastB_t n s (47 : Int) = some (lastC 47 s) := by
  unfold LastB_t
  rw [show (47 : Int) = (((47 : UInt8).toNat : Nat) : Int) from rfl, LastI_spec n 47 s hL hn]; rfl
theorem letO_some {α β : Type} (x : α) (f : α → Option β) : letO x f = f x := rfl
theorem base_len (s : List UInt8) : (baseS s).length ≤ s.length := by unfold baseS; rw [List.length_take]; omega
theorem mBase_spec (n : Nat) (s : List UInt8) (hL : s.length ≤ 1000000) (hn : s.length < n) : mBase_t n s = some (baseS s) := by
  unfold mBase_t
  have h1 : (LastB_fc n).F (s, (47 : Int)) = some (lastC 47 s) := LastB_spec n s hL hn
  have hl := lastC_ge 47 s
  have h2 : max (0 : Int) (lastC 47 s) = (((lastC 47 s).toNat : Nat) : Int) := by omega
  rw [h1]
  show (letO (max (0 : Int) (lastC 47 s)) fun (n2 : Int) => (subO s (0 : Int) n2).bind fun (s3 : List UInt8) => some s3) = _
  rw [h2, letO_some, sub_zero (by omega)]
  rfl
def withinS (p d : List UInt8) : Bool := decide (d = []) || (decide (p = d) || decide (d ++ [47] <+: p))
theorem HasPre_spec (n : Nat) (p d : List UInt8) (hd : d.length ≤ 1000000) (hp : p.length ≤ 1000000) : HasPrefix_t n p d = some (decide (d <+: p)) := by
  unfold HasPrefix_t HasPrefixI_t
  by_cases h : d.length ≤ p.length
  · have h' : ((d.length : Nat) : Int) ≤ ((p.length : Nat) : Int) := by omega
    simp only [h', decide_true, cond_true, sub_zero h, Option.bind_some]
    congr 1
    refine decide_eq_decide.2 ?_
    rw [List.prefix_iff_eq_take]
    exact eq_comm
  · have h' : ¬ ((d.length : Nat) : Int) ≤ ((p.length : Nat) : Int) := by omega
    have h2 : ¬ d <+: p := fun hx => h hx.length_le
    simp [h', h2]
theorem HasPreI_spec (n : Nat) (p d : List UInt8) (hd : d.length ≤ 1000000) (hp : p.length ≤ 1000000) : HasPrefixI_t n p d = some (decide (d <+: p)) := by
  have h := HasPre_spec n p d hd hp
  unfold HasPrefix_t at h
  cases hx : HasPrefixI_t n p d with
  | none => rw [hx] at h; cases h
  | some b => rw [hx] at h; exact h
theorem mWithin_spec (n : Nat) (p d : List UInt8) (hp : p.length ≤ 100000) (hd : d.length ≤ 100000) : mWithin_t n p d = some (withinS p d) := by
  unfold mWithin_t withinS
  rw [cat_ok (by simp; omega)]
  simp only [Option.bind_some]
  rw [HasPre_spec n p (d ++ [47]) (by simp; omega) (by omega)]
  cases decide (d = []) with
  | true => rfl
  | false => cases decide (p = d) with
    | true => rfl
    | false => rfl
def trimP (s p : List UInt8) : List UInt8 := if p <+: s then s.drop p.length else s
theorem sub_drop {s : List UInt8} {k : Nat} (h : k ≤ s.length) : subO s ((k : Nat) : Int) ((s.length : Nat) : Int) = some (s.drop k) := by
  rw [sub_le h (Nat.le_refl _), List.take_of_length_le (by rw [List.length_drop]; exact Nat.le_refl _)]
theorem TrimPre_spec (n : Nat) (s p : List UInt8) (hs : s.length ≤ 1000000) (hp : p.length ≤ 1000000) : TrimPrefix_t n s p = some (trimP s p) := by
  unfold TrimPrefix_t TrimPrefixI_t trimP
  rw [HasPreI_spec n s p hp hs, Option.bind_some]
  by_cases h : p <+: s
  · rw [decide_eq_true h, cond_true, if_pos h, sub_drop h.length_le]; rfl
  · rw [decide_eq_false h, cond_false, if_neg h]; rfl
theorem CutPre_spec (n : Nat) (s p : List UInt8) (hs : s.length ≤ 1000000) (hp : p.length ≤ 1000000) : CutPrefix_t n s p = some (if p <+: s then (s.drop p.length, true) else (s, false)) := by
  unfold CutPrefix_t CutPrefixI_t
  rw [HasPreI_spec n s p hp hs, Option.bind_some]
  by_cases h : p <+: s
  · rw [decide_eq_true h, Bool.not_true, cond_false, if_pos h, sub_drop h.length_le]; rfl
  · rw [decide_eq_false h, Bool.not_false, cond_true, if_neg h]; rfl
def inDirS (p d : List UInt8) : List UInt8 := if d = [] then p else trimP p (d ++ [47])
theorem tInDir_spec (n : Nat) (p d : List UInt8) (hp : p.length ≤ 100000) (hd : d.length ≤ 100000) : tInDir_t n p d = some (inDirS p d) := by
  unfold tInDir_t inDirS
  by_cases h : d = []
  · rw [decide_eq_true h, cond_true, if_pos h]
  · rw [decide_eq_false h, cond_false, if_neg h, cat_ok (by simp; omega), Option.bind_some, TrimPre_spec n p (d ++ [47]) (by omega) (by simp; omega)]; rfl
theorem inDir_len (p d : List UInt8) : (inDirS p d).length ≤ p.length := by
  unfold inDirS trimP
  split
  · exact Nat.le_refl _
  · split
    · rw [List.length_drop]; omega
    · exact Nat.le_refl _
/-- the longest of some directories in which a path lies -/
def ownL (p : List UInt8) : List (List UInt8) → List UInt8 → Bool → List UInt8 × Bool
  | [], L, f => (L, f)
  | d :: t, L, f => if withinS p d && (!f || decide (L.length < d.length)) then ownL p t d true else ownL p t L f
def ledgerL : List UInt8 := [108, 101, 100, 103, 101, 114, 46, 116, 120, 116]
def intentL : List UInt8 := [46, 105, 110, 116, 101, 110, 116]
def ownS (dirs : List (List UInt8)) (p : List UInt8) : List UInt8 × Bool := if p = ledgerL then ([], false) else if p = intentL then ([], false) else ownL p dirs [] false
theorem owner_loop (n : Nat) (p : List UInt8) (dirs : List (List UInt8)) (hp : p.length ≤ 100000) (hd : ∀ d ∈ dirs, d.length ≤ 100000) (hL : dirs.length ≤ 1000000) : ∀ (m j : Nat) (L : List UInt8) (f : Bool), j ≤ dirs.length → dirs.length - j < m →
    towner_loop0 n m p L f dirs ((dirs.length : Nat) : Int) (j : Int) = some (((ownL p (dirs.drop j) L f).1, ((ownL p (dirs.drop j) L f).2, ())), ((), ()))
  | 0, j, L, f, _, h => absurd h (Nat.not_lt_zero _)
  | m + 1, j, L, f, hj, h => by
    rw [towner_loop0_succ]
    unfold towner_l0
    by_cases c : j < dirs.length
    · have ih := fun L f => owner_loop n p dirs hp hd hL m (j + 1) L f (by omega) (by omega)
      rw [decide_eq_true (by omega), cond_true, idx_lt c, Option.bind_some, mWithin_spec n p _ hp (hd _ (List.getElem_mem c)), Option.bind_some, List.drop_eq_getElem_cons c, wrap_succ (by omega)]
      unfold ownL
      cases hw : withinS p dirs[j] with
      | false =>
        rw [cond_false, letO_some, Bool.false_and, if_neg (by decide)]
        exact ih L f
      | true =>
        rw [cond_true, Bool.true_and]
        cases f with
        | false =>
          rw [Bool.not_false, cond_true, letO_some, Bool.true_or, if_pos rfl]
          exact ih _ true
        | true =>
          rw [Bool.not_true, cond_false, Bool.false_or]
          by_cases e : L.length < dirs[j].length
          · rw [decide_eq_true (by omega), cond_true, letO_some, decide_eq_true e, if_pos rfl]
            exact ih _ true
          · rw [decide_eq_false (by omega), cond_false, letO_some, decide_eq_false e, if_neg (by decide)]
            exact ih L true
    · obtain rfl : j = dirs.length := by omega
      rw [decide_eq_false (by omega), cond_false, List.drop_length]
      rfl
theorem towner_spec (n : Nat) (dirs : List (List UInt8)) (p : List UInt8) (hp : p.length ≤ 100000) (hd : ∀ d ∈ dirs, d.length ≤ 100000) (hL : dirs.length ≤ 1000000) (hn : dirs.length < n) : towner_t n dirs p = some (ownS dirs p) := by
  unfold towner_t ownS
  by_cases h1 : p = ledgerL
  · rw [if_pos h1]
    unfold ledgerL at h1
    rw [decide_eq_true h1, cond_true]
  rw [if_neg h1]
  unfold ledgerL at h1
  by_cases h2 : p = intentL
  · rw [if_pos h2]
    unfold intentL at h2
    rw [decide_eq_false h1, cond_false, decide_eq_true h2, cond_true]
  rw [if_neg h2]
  unfold intentL at h2
  have h := owner_loop n p dirs hp hd hL n 0 [] false (Nat.zero_le _) (by omega)
  rw [show ((0 : Nat) : Int) = (0 : Int) from rfl, List.drop_zero] at h
  rw [decide_eq_false h1, cond_false, decide_eq_false h2, cond_false, h]
  rfl
theorem index_loop (n : Nat) (l : List (List UInt8)) (x : List UInt8) (hL : l.length ≤ 1000000) : ∀ (m j : Nat), j ≤ l.length → l.length - j < m →
    ∃ o, slIndex_loop0 n m l x ((l.length : Nat) : Int) (j : Int) = some o ∧ ((x ∈ l.drop j ∧ ∃ k : Nat, o = Sum.inl (((k : Int), ()), ((), ()))) ∨ (x ∉ l.drop j ∧ o = Sum.inr ((), ((), ()))))
  | 0, j, _, h => absurd h (Nat.not_lt_zero _)
  | m + 1, j, hj, h => by
    rw [slIndex_loop0_succ]
    unfold slIndex_l0
    by_cases c : j < l.length
    · rw [decide_eq_true (by omega), cond_true, idx_lt c, Option.bind_some, List.drop_eq_getElem_cons c]
      by_cases d : x = l[j]
      · rw [decide_eq_true d, cond_true]
        exact ⟨_, rfl, .inl ⟨by rw [d]; exact List.mem_cons_self .., j, rfl⟩⟩
      · rw [decide_eq_false d, cond_false, wrap_succ (by omega), letO_some]
        obtain ⟨o, h1, h2⟩ := index_loop n l x hL m (j + 1) (by omega) (by omega)
        refine ⟨o, h1, ?_⟩
        rcases h2 with ⟨h3, h4⟩ | ⟨h3, h4⟩
        · exact .inl ⟨List.mem_cons_of_mem _ h3, h4⟩
        · exact .inr ⟨fun h5 => (List.mem_cons.1 h5).elim d h3, h4⟩
    · obtain rfl : j = l.length := by omega
      rw [decide_eq_false (by omega), cond_false, List.drop_length]
      exact ⟨_, rfl, .inr ⟨by simp, rfl⟩⟩
theorem slContains_spec (n : Nat) (l : List (List UInt8)) (x : List UInt8) (hL : l.length ≤ 1000000) (hn : l.length < n) : slContains_t n l x = some (decide (x ∈ l)) := by
  unfold slContains_t slIndex_t
  obtain ⟨o, h1, h2⟩ := index_loop n l x hL n 0 (Nat.zero_le _) (by omega)
  rw [show ((0 : Nat) : Int) = (0 : Int) from rfl] at h1
  rw [List.drop_zero] at h2
  rw [h1, Option.bind_some]
  rcases h2 with ⟨h3, k, rfl⟩ | ⟨h3, rfl⟩
  · rw [decide_eq_true h3]
    show some (decide ((0 : Int) ≤ (k : Int))) = _
    rw [decide_eq_true (by omega)]
  · rw [decide_eq_false h3]
    rfl
end Go.Proofs.YtngbpbncipjimabGreatDoor.AM
