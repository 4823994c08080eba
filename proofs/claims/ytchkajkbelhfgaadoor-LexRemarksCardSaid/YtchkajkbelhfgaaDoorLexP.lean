/- Layer 9: LexTells, LexLines, LexRemarks: what the laws come to is true. -/
import Derived.Test.YtchkajkbelhfgaaDoorLexO
namespace Go.Proofs.YtchkajkbelhfgaaDoor.AM
open Go.RowKit
set_option linter.unusedVariables false
set_option linter.unusedSimpArgs false
theorem lx_live : llive_t 10000 = some true := by kernel_rfl
theorem told_loop (n : Nat) (ws : List Wd) (a3 a4 nt : List UInt8) (hw : ws.length ≤ 1000000) : ∀ (m j : Nat), j ≤ ws.length → ws.length - j < m →
    ltold_loop0 n m (j : Int) ws a3 a4 nt (ws.take j) = some (((), ((), ())), ((((), a4), (((), nt), ())), (ws, ())))
  | 0, j, _, h => absurd h (Nat.not_lt_zero _)
  | m + 1, j, hj, h => by
    rw [ltold_loop0_succ]
    unfold ltold_l0
    by_cases c0 : j < ws.length
    · have c0' : ((j : Nat) : Int) < ((ws.length : Nat) : Int) := by omega
      have a1 : appO 24 (ws.take j) [ws[j]] = some (ws.take (j + 1)) := by
        rw [app_le (by simp; omega), List.take_add_one, List.getElem?_eq_getElem c0]; rfl
      simp only [c0', decide_true, cond_true, idx_lt c0, Option.bind_some, a1, letO, wrap_succ (show j < 4611686018427387904 by omega)]
      exact told_loop n ws a3 a4 nt hw m (j + 1) (by omega) (by omega)
    · have c0' : ¬ ((j : Nat) : Int) < ((ws.length : Nat) : Int) := by omega
      simp only [c0', decide_false, cond_false]
      rw [List.take_of_length_le (by omega)]
theorem told_P (n : Nat) (l : Ln) (hw : l.1.length ≤ 1000000) (hn : l.1.length < n) : ltold_t n l = some l := by
  unfold ltold_t
  have h := told_loop n l.1 l.2 [] l.2 hw n 0 (Nat.zero_le _) (by omega)
  rw [show ((0 : Nat) : Int) = (0 : Int) from rfl, List.take_zero] at h
  rw [h]; rfl
theorem rSame_loop (n : Nat) (ws : List Wd) (a3 a5 : List UInt8) (hw : ws.length ≤ 1000000) : ∀ (m j : Nat), j ≤ ws.length → ws.length - j < m →
    rSame_loop0 n m (j : Int) ws a3 ws a5 = some (Sum.inr ((), ((), ())))
  | 0, j, _, h => absurd h (Nat.not_lt_zero _)
  | m + 1, j, hj, h => by
    rw [rSame_loop0_succ]
    unfold rSame_l0
    by_cases c0 : j < ws.length
    · have c0' : ((j : Nat) : Int) < ((ws.length : Nat) : Int) := by omega
      simp only [c0', decide_true, cond_true, idx_lt c0, Option.bind_some, Bool.and_self, Bool.not_true, cond_false, letO, wrap_succ (show j < 4611686018427387904 by omega)]
      exact rSame_loop n ws a3 a5 hw m (j + 1) (by omega) (by omega)
    · have c0' : ¬ ((j : Nat) : Int) < ((ws.length : Nat) : Int) := by omega
      simp only [c0', decide_false, cond_false]
theorem rSame_P (n : Nat) (l : Ln) (hw : l.1.length ≤ 1000000) (hn : l.1.length < n) : rSame_t n l l = some true := by
  unfold rSame_t
  have h := rSame_loop n l.1 l.2 l.2 hw n 0 (Nat.zero_le _) (by omega)
  rw [show ((0 : Nat) : Int) = (0 : Int) from rfl] at h
  simp only [decide_true, Bool.not_true, cond_false, h]
  rfl
theorem sameS_loop (n : Nat) (ws : List (List UInt8)) (hw : ws.length ≤ 1000000) : ∀ (m j : Nat), j ≤ ws.length → ws.length - j < m →
    sameS_loop0 n m ws ws (j : Int) = some (Sum.inr ((), ((), ())))
  | 0, j, _, h => absurd h (Nat.not_lt_zero _)
  | m + 1, j, hj, h => by
    rw [sameS_loop0_succ]
    unfold sameS_l0
    by_cases c0 : j < ws.length
    · have c0' : ((j : Nat) : Int) < ((ws.length : Nat) : Int) := by omega
      simp only [c0', decide_true, cond_true, idx_lt c0, Option.bind_some, Bool.not_true, cond_false, letO, wrap_succ (show j < 4611686018427387904 by omega)]
      exact sameS_loop n ws hw m (j + 1) (by omega) (by omega)
    · have c0' : ¬ ((j : Nat) : Int) < ((ws.length : Nat) : Int) := by omega
      simp only [c0', decide_false, cond_false]
theorem sameS_P (n : Nat) (ws : List (List UInt8)) (hw : ws.length ≤ 1000000) (hn : ws.length < n) : sameS_t n ws ws = some true := by
  unfold sameS_t
  have h := sameS_loop n ws hw n 0 (Nat.zero_le _) (by omega)
  rw [show ((0 : Nat) : Int) = (0 : Int) from rfl] at h
  simp only [decide_true, Bool.not_true, cond_false, h]
  rfl
/-! the lines of a text -/
def linesP : List (List UInt8) → Nat → List Ln → List Ln × Int × Int
  | [], i, out => (out, (i : Int), 0)
  | x :: xs, i, out => if x.all okc = true then linesP xs (i + 1) (out ++ [oneV x]) else ([], (i : Int), 9)
theorem lLines_loop (n : Nat) (ls : List (List UInt8)) (hl : ls.length ≤ 1000000) (hx : ∀ x ∈ ls, x.length ≤ 1000000 ∧ x.length < n) : ∀ (m j : Nat) (out : List Ln), j ≤ ls.length → ls.length - j < m → out.length = j →
    (lLines_loop0 n m ls ((ls.length : Nat) : Int) (j : Int) out).bind (fun o6 => Sum.elim (fun q7 => some (([] : List Ln), (q7.1.2.1, q7.1.2.2.1))) (fun q8 => some (q8.2.2.1, (((List.length q8.2.2.1 : Nat) : Int), (0 : Int)))) o6) = some (linesP (ls.drop j) j out)
  | 0, j, _, _, h, _ => absurd h (Nat.not_lt_zero _)
  | m + 1, j, out, hj, h, ho => by
    rw [lLines_loop0_succ]
    unfold lLines_l0
    by_cases c0 : j < ls.length
    · have c0' : ((j : Nat) : Int) < ((ls.length : Nat) : Int) := by omega
      obtain ⟨x1, x2⟩ := hx ls[j] (List.getElem_mem c0)
      rw [List.drop_eq_getElem_cons c0, linesP]
      simp only [c0', decide_true, cond_true, idx_lt c0, Option.bind_some, lOne_P n ls[j] x1 x2, oneR]
      by_cases hk : ls[j].all okc = true
      · have a1 : appO 40 out [oneV ls[j]] = some (out ++ [oneV ls[j]]) := app_le (by simp; omega)
        simp only [hk, if_true, decide_true, Bool.not_true, cond_false, a1, Option.bind_some, letO, wrap_succ (show j < 4611686018427387904 by omega)]
        exact lLines_loop n ls hl hx m (j + 1) _ (by omega) (by omega) (by simp; omega)
      · rw [if_neg hk, if_neg hk]
        rfl
    · have c0' : ¬ ((j : Nat) : Int) < ((ls.length : Nat) : Int) := by omega
      simp only [c0', decide_false, cond_false, Option.bind_some, Sum.elim_inr]
      rw [List.drop_eq_nil_of_le (by omega), linesP, ho]
theorem rLines_loop (n : Nat) (ls : List (List UInt8)) (hl : ls.length ≤ 1000000) (hx : ∀ x ∈ ls, x.length ≤ 1000000 ∧ x.length < n) : ∀ (m j : Nat) (out : List Ln), j ≤ ls.length → ls.length - j < m → out.length = j →
    (rLines_loop0 n m ls (j : Int) out).bind (fun o6 => Sum.elim (fun q7 => some (([] : List Ln), (q7.1.2.1, q7.1.2.2.1))) (fun q8 => some (q8.2.2.1, (((List.length q8.1.2.1 : Nat) : Int), (0 : Int)))) o6) = some (linesP (ls.drop j) j out)
  | 0, j, _, _, h, _ => absurd h (Nat.not_lt_zero _)
  | m + 1, j, out, hj, h, ho => by
    rw [rLines_loop0_succ]
    unfold rLines_l0
    by_cases c0 : j < ls.length
    · have c0' : ((j : Nat) : Int) < ((ls.length : Nat) : Int) := by omega
      obtain ⟨x1, x2⟩ := hx ls[j] (List.getElem_mem c0)
      rw [List.drop_eq_getElem_cons c0, linesP]
      simp only [c0', decide_true, cond_true, idx_lt c0, Option.bind_some, rOne_P n ls[j] x1 x2, oneR]
      by_cases hk : ls[j].all okc = true
      · have a1 : appO 40 out [oneV ls[j]] = some (out ++ [oneV ls[j]]) := app_le (by simp; omega)
        simp only [hk, if_true, decide_true, Bool.not_true, cond_false, a1, Option.bind_some, letO, wrap_succ (show j < 4611686018427387904 by omega)]
        exact rLines_loop n ls hl hx m (j + 1) _ (by omega) (by omega) (by simp; omega)
      · rw [if_neg hk, if_neg hk]
        rfl
    · have c0' : ¬ ((j : Nat) : Int) < ((ls.length : Nat) : Int) := by omega
      have hj' : ls.length = j := by omega
      simp only [c0', decide_false, cond_false, Option.bind_some, Sum.elim_inr]
      rw [List.drop_eq_nil_of_le (by omega), linesP, hj']
theorem lLines_P (n : Nat) (s : List UInt8) (hs : s.length ≤ 100000) (hn : s.length + 1 < n) : lLines_t n s = some (linesP (linesOf s) 0 []) := by
  unfold lLines_t
  obtain ⟨h1, h2⟩ := linesOf_len s
  rw [lSplit_P n s (by omega), Option.bind_some]
  exact lLines_loop n (linesOf s) (by omega) (fun x hx => by have := h2 x hx; omega) n 0 [] (Nat.zero_le _) (by omega) rfl
theorem rLines_P (n : Nat) (s : List UInt8) (hs : s.length ≤ 100000) (hn : s.length + 1 < n) : rLines_t n s = some (linesP (linesOf s) 0 []) := by
  unfold rLines_t
  obtain ⟨h1, h2⟩ := linesOf_len s
  rw [rSplit_P n s (by omega) hn, Option.bind_some]
  exact rLines_loop n (linesOf s) (by omega) (fun x hx => by have := h2 x hx; omega) n 0 [] (Nat.zero_le _) (by omega) rfl
theorem linesP_len : ∀ (ls : List (List UInt8)) (B i : Nat) (out : List Ln), (∀ x ∈ ls, x.length ≤ B) → (∀ l ∈ out, l.1.length ≤ B) → (∀ l ∈ (linesP ls i out).1, l.1.length ≤ B) ∧ (linesP ls i out).1.length ≤ out.length + ls.length
  | [], B, i, out, _, ho => ⟨ho, by simp [linesP]⟩
  | x :: xs, B, i, out, hx, ho => by
    rw [linesP]
    split
    · have ⟨h1, h2⟩ := linesP_len xs B (i + 1) (out ++ [oneV x]) (fun y hy => hx y (List.mem_cons_of_mem _ hy)) (fun l hl => by
        rcases List.mem_append.1 hl with hl | hl
        · exact ho l hl
        · rw [List.mem_singleton] at hl
          have := (oneV_len x).1
          have := hx x List.mem_cons_self
          rw [hl]; omega)
      refine ⟨h1, ?_⟩
      simp at h2 ⊢; omega
    · exact ⟨fun l hl => by simp at hl, by simp⟩
theorem tells_loop (n : Nat) (ls : List Ln) (hl : ls.length ≤ 1000000) (hx : ∀ x ∈ ls, x.1.length ≤ 1000000 ∧ x.1.length < n) : ∀ (m j : Nat), j ≤ ls.length → ls.length - j < m →
    tells_loop0 n m ls ls (j : Int) = some (Sum.inr ((), ((), ())))
  | 0, j, _, h => absurd h (Nat.not_lt_zero _)
  | m + 1, j, hj, h => by
    rw [tells_loop0_succ]
    unfold tells_l0
    by_cases c0 : j < ls.length
    · have c0' : ((j : Nat) : Int) < ((ls.length : Nat) : Int) := by omega
      obtain ⟨x1, x2⟩ := hx ls[j] (List.getElem_mem c0)
      simp only [c0', decide_true, cond_true, idx_lt c0, Option.bind_some, told_P n ls[j] x1 x2, rSame_P n ls[j] x1 x2, Bool.not_true, cond_false, letO, wrap_succ (show j < 4611686018427387904 by omega)]
      exact tells_loop n ls hl hx m (j + 1) (by omega) (by omega)
    · have c0' : ¬ ((j : Nat) : Int) < ((ls.length : Nat) : Int) := by omega
      simp only [c0', decide_false, cond_false]
theorem oneR_len (s : List UInt8) : (oneR s).1.1.length ≤ s.length := by
  unfold oneR
  split
  · exact (oneV_len s).1
  · simp
theorem tells_true (s : List UInt8) : tells_t 10000 s = some true := by
  unfold tells_t
  by_cases c0 : (4000 : Int) < ((s.length : Nat) : Int)
  · simp only [c0, decide_true, cond_true, lx_live, Option.bind_some]
  · have hs : s.length ≤ 4000 := by omega
    have h1 := oneR_len s
    obtain ⟨k1, k2⟩ := linesOf_len s
    obtain ⟨g1, g2⟩ := linesP_len (linesOf s) s.length 0 [] k2 (fun l hl => by cases hl)
    rw [List.length_nil] at g2
    have hL := tells_loop 10000 (linesP (linesOf s) 0 []).1 (by omega) (fun x hx => by have := g1 x hx; omega) 10000 0 (Nat.zero_le _) (by omega)
    rw [show ((0 : Nat) : Int) = (0 : Int) from rfl] at hL
    simp only [c0, decide_false, cond_false, lOne_P 10000 s (by omega) (by omega), rOne_P 10000 s (by omega) (by omega), lLines_P 10000 s (by omega) (by omega), rLines_P 10000 s (by omega) (by omega), Option.bind_some, told_P 10000 (oneR s).1 (by omega) (by omega), rSame_P 10000 (oneR s).1 (by omega) (by omega), Bool.not_true, decide_true, lSplit_P 10000 s (by omega), rSplit_P 10000 s (by omega) (by omega), sameS_P 10000 (linesOf s) (by omega) (by omega), hL, Sum.elim_inr, lx_live]
/-! a remark behind a line -/
theorem okc_32 : okc 32 = true := by decide
theorem okc_47 : okc 47 = true := by decide
theorem remarks_true (s note : List UInt8) : remarks_t 10000 s note = some true := by
  unfold remarks_t
  by_cases c0 : (2000 : Int) < ((s.length : Nat) : Int)
  · simp only [c0, decide_true, cond_true, lx_live, Option.bind_some]
  by_cases c1 : (2000 : Int) < ((note.length : Nat) : Int)
  · simp only [c0, c1, decide_true, decide_false, cond_true, cond_false, lx_live, Option.bind_some]
  have hs : s.length ≤ 2000 := by omega
  have hn : note.length ≤ 2000 := by omega
  simp only [c0, c1, decide_false, cond_false, lOne_P 10000 s (by omega) (by omega), rOne_P 10000 note (by omega) (by omega), Option.bind_some, lx_live]
  by_cases h1 : s.all okc = true
  case neg =>
    have e1 : oneR s = (([], []), 9) := by unfold oneR; rw [if_neg h1]
    rw [e1]; rfl
  by_cases h2 : note.all okc = true
  case neg =>
    have e1 : oneR s = (oneV s, 0) := by unfold oneR; rw [if_pos h1]
    have e2 : oneR note = (([], []), 9) := by unfold oneR; rw [if_neg h2]
    rw [e1, e2]; rfl
  have e1 : oneR s = (oneV s, 0) := by unfold oneR; rw [if_pos h1]
  have e2 : oneR note = (oneV note, 0) := by unfold oneR; rw [if_pos h2]
  rw [e1, e2]
  simp only [decide_true, Bool.not_true, cond_false]
  by_cases h3 : (oneV s).2 = []
  case neg => simp only [h3, decide_false, Bool.not_false, cond_true]
  simp only [h3, decide_true, Bool.not_true, cond_false]
  have hc1 : catO s [32, 47, 47] = some (s ++ [32, 47, 47]) := if_pos (by simp; omega)
  have hc2 : catO (s ++ [32, 47, 47]) note = some (s ++ [32, 47, 47] ++ note) := if_pos (by simp; omega)
  have hc3 : catO [47, 47] note = some ([47, 47] ++ note) := if_pos (by simp; omega)
  have hlen : (s ++ [32, 47, 47] ++ note).length = s.length + 3 + note.length := by simp; omega
  have hall : (s ++ [32, 47, 47] ++ note).all okc = true := by
    rw [List.all_append, List.all_append, h1, h2]; simp [okc_32, okc_47]
  have hend : (cutP s 0 false []).2 = 0 + s.length := by
    have h4 : (s.drop (cutP s 0 false []).2).length = 0 := by
      have : s.drop (cutP s 0 false []).2 = [] := h3
      rw [this]; rfl
    have h5 := (cutP_le s 0 false []).2
    rw [List.length_drop] at h4
    omega
  obtain ⟨o, ho⟩ := cutP_ext ([47, 47] ++ note) s 0 false [] hend
  have e3 : s ++ [32, 47, 47] ++ note = s ++ 32 :: ([47, 47] ++ note) := by simp
  have hcut : cutP (s ++ [32, 47, 47] ++ note) 0 false [] = ((cutP s 0 false []).1, s.length + 1) := by
    rw [e3, ho, cutP_cons, if_neg (by decide), if_pos (by decide)]
    show cutP (47 :: 47 :: note) _ _ _ = _
    rw [cutP_cons, if_neg (by decide), if_neg (by decide), if_neg (by simp), if_pos (by simp [pfx])]
    simp
  have hone : oneR (s ++ [32, 47, 47] ++ note) = (((oneV s).1, [47, 47] ++ note), 0) := by
    unfold oneR oneV
    rw [if_pos hall, hcut, e3]
    simp
  have hb := (oneV_len s).1
  have k1 := told_P 10000 ((oneV s).1, []) (by show (oneV s).1.length ≤ _; omega) (by show (oneV s).1.length < _; omega)
  have k2 := told_P 10000 (oneV s) (by omega) (by omega)
  have hv : oneV s = ((oneV s).1, []) := by
    have := h3
    generalize oneV s = v at this
    obtain ⟨a, b⟩ := v
    simp only at this
    rw [this]
  have k3 := rSame_P 10000 (oneV s) (by omega) (by omega)
  simp only [hc1, hc2, hc3, Option.bind_some, lOne_P 10000 (s ++ [32, 47, 47] ++ note) (by omega) (by omega), hone, decide_true, cond_true, k1, k2]
  rw [← hv, k3]
  rfl
/-! lines that are joined -/
theorem spl_join : ∀ (l : List (List UInt8)), (∀ x ∈ l, (10 : UInt8) ∉ x) → ∀ x, (10 : UInt8) ∉ x → spl 10 [] (((x :: l).map (· ++ [10])).flatten) = (x :: l) ++ [[]]
  | [], _, x, hx => by
    simp only [List.map_cons, List.map_nil, List.flatten_cons, List.flatten_nil, List.append_nil]
    rw [spl_at]
    have := spl_none 10 x [] [] hx
    rw [List.append_nil] at this
    rw [this]; simp [spl]
  | y :: l, h, x, hx => by
    rw [List.map_cons, List.flatten_cons, List.append_assoc, spl_none 10 x [] _ hx]
    rw [List.singleton_append, List.nil_append, spl, if_pos rfl, spl_join l (fun z hz => h z (List.mem_cons_of_mem _ hz)) y (h y List.mem_cons_self)]
    simp
theorem linesOf_join (l : List (List UInt8)) (h : ∀ x ∈ l, (10 : UInt8) ∉ x) : linesOf ((l.map (· ++ [10])).flatten) = l := by
  unfold linesOf
  cases l with
  | nil => rfl
  | cons x l =>
    have h1 := spl_join l (fun z hz => h z (List.mem_cons_of_mem _ hz)) x (h x List.mem_cons_self)
    obtain ⟨m, hm⟩ : ∃ m, ((x :: l).map (· ++ [10])).flatten = m ++ [10] := by
      rcases List.eq_nil_or_concat (x :: l) with h0 | ⟨a, b, h0⟩
      · cases h0
      · rw [h0, List.concat_eq_append]
        exact ⟨(a.map (· ++ [10])).flatten ++ b, by simp⟩
    rw [hm] at h1 ⊢
    rw [if_neg (by simp), if_pos (by simp [endsN]), List.dropLast_concat]
    rw [spl_at] at h1
    exact List.append_cancel_right h1
theorem llines_loop1P (n : Nat) (hnL : llive_t n = some true) (l : List (List UInt8)) (s : List UInt8) (j : Nat) (hj : j < l.length) (a5 : List (List UInt8)) (a6 : Int) (a7 : Bool) : ∀ (m k : Nat), k ≤ l[j].length → l[j].length ≤ 300 → l[j].length - k < m →
    (10 ∉ l[j].drop k ∧ llines_loop1 n m l s (j : Int) (k : Int) a5 a6 a7 = some (Sum.inr ((l, (s, ((j : Int), (a5, (a6, (a7, ())))))), ((), ())))) ∨ llines_loop1 n m l s (j : Int) (k : Int) a5 a6 a7 = some (Sum.inl ((true, ()), ((), ())))
  | 0, k, _, _, h => absurd h (Nat.not_lt_zero _)
  | m + 1, k, hk, hb, h => by
    rw [llines_loop1_succ]
    unfold llines_l1
    by_cases c0 : k < l[j].length
    · have c0' : ((k : Nat) : Int) < ((l[j].length : Nat) : Int) := by omega
      have c1 : ¬ (300 : Int) < ((l[j].length : Nat) : Int) := by omega
      simp only [idx_lt hj, Option.bind_some, c0', decide_true, cond_true, sAt_lt c0, hnL]
      by_cases c2 : ((l[j][k].toNat : Nat) : Int) = 10
      · simp only [c2, decide_true, cond_true]
        exact Or.inr (by first | rfl | trivial)
      · simp only [c2, c1, decide_false, cond_false, letO, wrap_succ (show k < 4611686018427387904 by omega)]
        have hne : l[j][k] ≠ 10 := fun e => c2 (by rw [e]; rfl)
        have hd : l[j].drop k = l[j][k] :: l[j].drop (k + 1) := List.drop_eq_getElem_cons c0
        rcases llines_loop1P n hnL l s j hj a5 a6 a7 m (k + 1) (by omega) hb (by omega) with ⟨h1, h2⟩ | h2
        · refine Or.inl ⟨?_, h2⟩
          rw [hd]
          intro hmem
          rcases List.mem_cons.1 hmem with h3 | h3
          · exact hne h3.symm
          · exact h1 h3
        · exact Or.inr h2
    · have c0' : ¬ ((k : Nat) : Int) < ((l[j].length : Nat) : Int) := by omega
      simp only [idx_lt hj, Option.bind_some, c0', decide_false, cond_false]
      refine Or.inl ⟨?_, by first | rfl | trivial⟩
      rw [List.drop_eq_nil_of_le (by omega)]; simp
theorem llines_loop1L (n : Nat) (hnL : llive_t n = some true) (hn : 1 ≤ n) (l : List (List UInt8)) (s : List UInt8) (j : Nat) (hj : j < l.length) (hb : ¬ l[j].length ≤ 300) (a5 : List (List UInt8)) (a6 : Int) (a7 : Bool) :
    llines_loop1 n n l s (j : Int) (0 : Int) a5 a6 a7 = some (Sum.inl ((true, ()), ((), ()))) := by
  obtain ⟨m, rfl⟩ : ∃ m, n = m + 1 := ⟨n - 1, by omega⟩
  rw [llines_loop1_succ]
  unfold llines_l1
  have c0 : 0 < l[j].length := by omega
  have c0' : (0 : Int) < ((l[j].length : Nat) : Int) := by omega
  have c1 : (300 : Int) < ((l[j].length : Nat) : Int) := by omega
  have hs := sAt_lt c0
  rw [show ((0 : Nat) : Int) = (0 : Int) from rfl] at hs
  simp only [idx_lt hj, Option.bind_some, c0', decide_true, cond_true, hs, hnL, c1]
  cases decide (((l[j][0].toNat : Nat) : Int) = 10) <;> rfl
theorem llines_loop0P (n : Nat) (hnL : llive_t n = some true) (hn : 300 < n) (l : List (List UInt8)) (hl : l.length ≤ 60) : ∀ (m j : Nat) (s : List UInt8), j ≤ l.length → l.length - j < m → s = ((l.take j).map (· ++ [10])).flatten → (∀ x ∈ l.take j, 10 ∉ x ∧ x.length ≤ 300) → s.length ≤ j * 301 →
    llines_loop0 n m l s (j : Int) = some (Sum.inl ((true, ()), ((), ()))) ∨ ((∀ x ∈ l, 10 ∉ x ∧ x.length ≤ 300) ∧ ((l.map (· ++ [10])).flatten).length ≤ 18060 ∧ llines_loop0 n m l s (j : Int) = some (Sum.inr ((l, ((l.map (· ++ [10])).flatten, ())), ((), ()))))
  | 0, j, _, _, h, _, _, _ => absurd h (Nat.not_lt_zero _)
  | m + 1, j, s, hj, h, hs, hx, hsl => by
    rw [llines_loop0_succ]
    unfold llines_l0
    have c1 : ((l.length : Nat) : Int) ≤ 60 := by omega
    by_cases c0 : j < l.length
    · have c0' : ((j : Nat) : Int) < ((l.length : Nat) : Int) := by omega
      simp only [c0', c1, decide_true, cond_true]
      by_cases hb : l[j].length ≤ 300
      · rcases llines_loop1P n hnL l s j c0 l ((l.length : Nat) : Int) true n 0 (Nat.zero_le _) hb (by omega) with ⟨h1, h2⟩ | h2
        · rw [show ((0 : Nat) : Int) = (0 : Int) from rfl] at h2
          rw [List.drop_zero] at h1
          have k1 : catO s l[j] = some (s ++ l[j]) := if_pos (by omega)
          have k2 : catO (s ++ l[j]) [10] = some (s ++ l[j] ++ [10]) := if_pos (by simp; omega)
          simp only [h2, Option.bind_some, Sum.elim_inr, idx_lt c0, k1, k2, letO, wrap_succ (show j < 4611686018427387904 by omega)]
          have ht : l.take (j + 1) = l.take j ++ [l[j]] := by rw [List.take_add_one, List.getElem?_eq_getElem c0]; rfl
          refine llines_loop0P n hnL hn l hl m (j + 1) _ (by omega) (by omega) ?_ ?_ ?_
          · rw [ht, hs]; simp only [List.map_append, List.flatten_append, List.map_cons, List.map_nil, List.flatten_cons, List.flatten_nil, List.append_nil, List.append_assoc]
          · intro x hxm
            rw [ht] at hxm
            rcases List.mem_append.1 hxm with h3 | h3
            · exact hx x h3
            · rw [List.mem_singleton] at h3; rw [h3]; exact ⟨h1, hb⟩
          · simp; omega
        · rw [show ((0 : Nat) : Int) = (0 : Int) from rfl] at h2
          simp only [h2, Option.bind_some, Sum.elim_inl]
          exact Or.inl (by first | rfl | trivial)
      · simp only [llines_loop1L n hnL (by omega) l s j c0 hb, Option.bind_some, Sum.elim_inl]
        exact Or.inl (by first | rfl | trivial)
    · have c0' : ¬ ((j : Nat) : Int) < ((l.length : Nat) : Int) := by omega
      simp only [c0', decide_false, cond_false]
      have ht : l.take j = l := List.take_of_length_le (by omega)
      rw [ht] at hs hx
      refine Or.inr ⟨hx, by rw [← hs]; omega, by rw [hs]⟩
theorem llines_P (n : Nat) (hn : 19000 < n) (hlive : llive_t n = some true) (l : List (List UInt8)) : llines_t n l = some true := by
  unfold llines_t
  by_cases hl : l.length ≤ 60
  · rcases llines_loop0P n hlive (by omega) l hl n 0 [] (Nat.zero_le _) (by omega) rfl (fun x hx => by simp at hx) (by simp) with h | ⟨hx, hb, h⟩
    · rw [show ((0 : Nat) : Int) = (0 : Int) from rfl] at h
      rw [h]; rfl
    · rw [show ((0 : Nat) : Int) = (0 : Int) from rfl] at h
      have c1 : ¬ (60 : Int) < ((l.length : Nat) : Int) := by omega
      simp only [h, Option.bind_some, Sum.elim_inr, c1, decide_false, cond_false, lSplit_P n _ (show ((l.map (· ++ [10])).flatten).length ≤ 1000000 by omega), linesOf_join l (fun x hm => (hx x hm).1), sameS_P n l (by omega) (by omega), cond_true, hlive]
  · have c1 : (60 : Int) < ((l.length : Nat) : Int) := by omega
    have c2 : ¬ ((l.length : Nat) : Int) ≤ 60 := by omega
    have c3 : (0 : Int) < ((l.length : Nat) : Int) := by omega
    have h : llines_loop0 n n l [] (0 : Int) = some (Sum.inr ((l, ([], ())), ((), ()))) := by
      obtain ⟨m, hm⟩ : ∃ m, n = m + 1 := ⟨n - 1, by omega⟩
      have hs := llines_loop0_succ n m l [] 0
      rw [← hm] at hs
      rw [hs]
      unfold llines_l0
      simp only [c2, c3, decide_true, decide_false, cond_true, cond_false]
    simp only [h, Option.bind_some, Sum.elim_inr, c1, decide_true, cond_true, hlive]
theorem llines_true (l : List (List UInt8)) : llines_t 20000 l = some true := llines_P 20000 (Nat.lt_of_sub_pos (by decide)) (by kernel_rfl) l
theorem tells_pc (w : World) (hI : Inv w) (a : ByteArray) : PCalls Tryd.prog Inv 3 [valD (.string a)] (valD (.bool true)) := by
  have h := (tells_ok 10000 Inv know_inv).1.2 (unB a) true (tells_true (unB a))
  have e1' : (rDs (tells_fc 10000).args (unB a)).map eD = [valD (.string (ba (unB a)))] := rfl
  rw [e1', ba_unB] at h
  exact h
theorem remarks_pc (w : World) (hI : Inv w) (a b : ByteArray) : PCalls Tryd.prog Inv 6 [valD (.string a), valD (.string b)] (valD (.bool true)) := by
  have h := (remarks_ok 10000 Inv know_inv).1.2 (unB a, unB b) true (remarks_true (unB a) (unB b))
  have e1' : (rDs (remarks_fc 10000).args (unB a, unB b)).map eD = [valD (.string (ba (unB a))), valD (.string (ba (unB b)))] := rfl
  rw [e1', ba_unB, ba_unB] at h
  exact h
end Go.Proofs.YtchkajkbelhfgaaDoor.AM
