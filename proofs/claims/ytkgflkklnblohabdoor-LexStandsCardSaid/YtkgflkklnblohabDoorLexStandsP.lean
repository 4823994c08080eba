/- LexStands: what the law comes to is true. -/
import Derived.Test.YtkgflkklnblohabDoorLexM
namespace Go.Proofs.YtkgflkklnblohabDoor.AM
open Go.RowKit
set_option linter.unusedVariables false
set_option linter.unusedSimpArgs false
theorem llive_true : llive_t 5000 = some true := by kernel_rfl
theorem one_spec (n : Nat) (s : List UInt8) (hs : s.length ≤ 1000000) (hn : s.length < n) : lOne_t n s = some (([], []), 9) ∨
    ∃ (ws : List Wd) (i e : Nat), lOne_t n s = some ((ws, s.drop i), 0) ∧ i ≤ s.length ∧ Std s 0 ws e ∧ e ≤ i ∧ blk s e i ∧ ws.length ≤ s.length := by
  obtain ⟨b, hb⟩ := isText_some n s hs hn
  unfold lOne_t
  rw [hb]
  cases b with
  | false => exact Or.inl rfl
  | true =>
    obtain ⟨ws, i, e, h1, h2, h3, h4, h5, h6⟩ := cut_spec n s hs hn
    refine Or.inr ⟨ws, i, e, ?_, h2, h3, h4, h5, h6⟩
    simp only [Option.bind_some, Bool.not_true, cond_false, h1, sub_le h2 (Nat.le_refl _)]
    rw [List.take_of_length_le (by rw [List.length_drop]; omega)]
theorem stands_loop (n : Nat) (s : List UInt8) (note : List UInt8) (ws : List Wd) (e : Nat) (hs : s.length ≤ 4000) (hn : s.length < n) (hw : ws.length ≤ 4000) : ∀ (m j e0 : Nat), j ≤ ws.length → ws.length - j < m → Std s e0 (ws.drop j) e → stands_loop0 n m s (e0 : Int) (j : Int) ws note = some (Sum.inr ((s, ((), ((e : Int), ()))), (((ws, note), ()), ())))
  | 0, j, e0, _, h, _ => absurd h (Nat.not_lt_zero _)
  | m + 1, j, e0, hj, h, hst => by
    rw [stands_loop0_succ]
    unfold stands_l0
    by_cases c0 : j < ws.length
    · have c0' : ((j : Nat) : Int) < ((ws.length : Nat) : Int) := by omega
      rw [List.drop_eq_getElem_cons c0] at hst
      obtain ⟨p, g1, g2, g3, g4, g5, g6, g7⟩ := hst
      generalize hx : ws[j] = x at g1 g3 g4 g5 g6 g7
      obtain ⟨t, q⟩ := x
      simp only at g1 g4 g5 g6 g7
      subst g1
      have ih := stands_loop n s note ws e hs hn hw m (j + 1) (p + t.length) (by omega) (by omega) g7
      have d1 : ¬ (p : Int) < (e0 : Int) := by omega
      have d2 : ¬ ((s.length : Nat) : Int) < (p : Int) := by omega
      have d3 : ¬ ((s.length - p : Nat) : Int) < ((t.length : Nat) : Int) := by omega
      have d4 : subO s (p : Int) ((p + t.length : Nat) : Int) = some t := by
        rw [sub_le (by omega) g6, show p + t.length - p = t.length from by omega, ← g4]
      have d5 : subO s (e0 : Int) (p : Int) = some ((s.drop e0).take (p - e0)) := sub_le g2 (by omega)
      have hl : ((s.drop e0).take (p - e0)).length ≤ s.length := by rw [List.length_take, List.length_drop]; omega
      have d6 : lblank_t n ((s.drop e0).take (p - e0)) = some true := by
        rw [lblank_spec n _ (by omega) (by omega)]; exact congrArg some g3
      have w1 := wrap_sub (i := s.length) (j := p) (by omega) (by omega)
      have w2 := wrap_add (i := p) (j := t.length) (by omega) (by omega)
      have w3 := wrap_succ (show j < 4611686018427387904 by omega)
      simp only [c0', decide_true, cond_true, idx_lt c0, hx, Option.bind_some, d1, d2, decide_false, cond_false, letO, w1, w2, w3, d3, g5, d4, d5, d6, Bool.not_true, ih]
    · have c0' : ¬ ((j : Nat) : Int) < ((ws.length : Nat) : Int) := by omega
      have hd : ws.drop j = [] := List.drop_eq_nil_of_le (by omega)
      rw [hd] at hst
      have hst' : e = e0 := hst
      subst hst'
      simp only [c0', decide_false, cond_false]
theorem stands_true (s : List UInt8) : stands_t 5000 s = some true := by
  unfold stands_t
  by_cases c0 : (4000 : Int) < ((s.length : Nat) : Int)
  · simp only [c0, decide_true, cond_true, llive_true, Option.bind_some]
  · have hs : s.length ≤ 4000 := by omega
    rcases one_spec 5000 s (by omega) (by omega) with h | ⟨ws, i, e, h1, h2, h3, h4, h5, h6⟩
    · simp only [c0, decide_false, cond_false, h, Option.bind_some, llive_true]
      rfl
    · have hl := stands_loop 5000 s (s.drop i) ws e hs (by omega) (by omega) 5000 0 0 (Nat.zero_le _) (by omega) h3
      rw [show ((0 : Nat) : Int) = (0 : Int) from rfl] at hl
      have e1 : (s.drop i).length = s.length - i := List.length_drop
      have w1 := wrap_sub (i := s.length) (j := e) (by omega) (by omega)
      have w2 := wrap_sub (i := s.length) (j := s.length - i) (by omega) (by omega)
      rw [show s.length - (s.length - i) = i from by omega] at w2
      have d1 : ¬ ((s.length - e : Nat) : Int) < ((s.length - i : Nat) : Int) := by omega
      have d2 : subO s (i : Int) ((s.length : Nat) : Int) = some (s.drop i) := by
        rw [sub_le h2 (Nat.le_refl _), List.take_of_length_le (by rw [List.length_drop]; omega)]
      have d3 : subO s (e : Int) (i : Int) = some ((s.drop e).take (i - e)) := sub_le h4 h2
      have hl2 : ((s.drop e).take (i - e)).length ≤ s.length := by rw [List.length_take, List.length_drop]; omega
      have d4 : lblank_t 5000 ((s.drop e).take (i - e)) = some true := by
        rw [lblank_spec 5000 _ (by omega) (by omega)]; exact congrArg some h5
      simp only [c0, decide_false, cond_false, h1, Option.bind_some, decide_true, Bool.not_true, hl, Sum.elim_inr, letO, e1, w1, w2, d1, d2, cond_true, d3, d4, llive_true]
theorem stands_pc (w : World) (hI : Inv w) (a : ByteArray) : PCalls Tryd.prog Inv 7 [valD (.string a)] (valD (.bool true)) := by
  have h := (stands_ok 5000 Inv know_inv).1.2 (unB a) true (stands_true (unB a))
  have e1' : (rDs (stands_fc 5000).args (unB a)).map eD = [valD (.string (ba (unB a)))] := rfl
  rw [e1', ba_unB] at h
  exact h
end Go.Proofs.YtkgflkklnblohabDoor.AM
