/- Layer 9: LexBlanks: what the law comes to is true. -/
import Derived.Test.YtchkajkbelhfgaaDoorLexO
namespace Go.Proofs.YtchkajkbelhfgaaDoor.AM
open Go.RowKit
set_option linter.unusedVariables false
set_option linter.unusedSimpArgs false
theorem lq_live : llive_t 10000 = some true := by kernel_rfl
def tbB (c : UInt8) : UInt8 := if c = 32 then 9 else c
theorem tb_all : ∀ c : UInt8, isSgn (tbB c) = isSgn c ∧ isB (tbB c) = isB c ∧ okc (tbB c) = okc c ∧ (isB c = false → tbB c = c) ∧ decide (tbB c = 47) = decide (c = 47) := by
  intro c
  unfold tbB
  split
  · rename_i h; subst h; decide
  · exact ⟨rfl, rfl, rfl, fun _ => rfl, rfl⟩
theorem sgn_not_b (c : UInt8) (h : isSgn c = true) : isB c = false := by
  unfold isSgn at h
  unfold isB
  simp at h ⊢
  omega
theorem pfx_tb : ∀ l : List UInt8, pfx (l.map tbB) = pfx l
  | [] => rfl
  | [_] => rfl
  | a :: b :: r => by
    show (decide (tbB a = 47) && decide (tbB b = 47)) = (decide (a = 47) && decide (b = 47))
    rw [(tb_all a).2.2.2.2, (tb_all b).2.2.2.2]
theorem remP_tb : ∀ (l : List UInt8) (op : Bool), remP (l.map tbB) op = remP l op
  | [], _ => rfl
  | c :: r, op => by
    have hp := pfx_tb (c :: r)
    rw [List.map_cons] at hp ⊢
    rw [remP_cons, remP_cons, hp, (tb_all c).1, (tb_all c).2.1, remP_tb r]
theorem tokP_tb : ∀ (l : List UInt8) (i : Nat) (op : Bool) (ws : List Wd), tokP (l.map tbB) i op ws = tokP l i op ws
  | [], _, _, _ => rfl
  | c :: r, i, op, ws => by
    have ih := fun op ws => tokP_tb r (i + 1) op ws
    rw [List.map_cons, tokP_cons, tokP_cons, (tb_all c).1, (tb_all c).2.1]
    by_cases h1 : isSgn c = true
    · rw [if_pos h1, if_pos h1, ih, (tb_all c).2.2.2.1 (sgn_not_b c h1)]
    · rw [if_neg h1, if_neg h1]
      by_cases h2 : isB c = true
      · rw [if_pos h2, if_pos h2, ih]
      · rw [if_neg h2, if_neg h2, (tb_all c).2.2.2.1 (by simpa using h2), ih, ih]
theorem remP_end (a b : UInt8) (ha : isB a = true) (hb : isB b = true) : ∀ (l : List UInt8) (op : Bool), remP l op = l.length → remP (l ++ [a, b]) op = l.length + 2
  | [], op, _ => by
    show remP (a :: b :: []) op = 2
    rw [remP_cons, pfx_not a _ (Or.inr ha), remP_cons, pfx_not b _ (Or.inr hb)]
    simp [remP]
  | c :: r, op, h => by
    have hp : pfx (c :: (r ++ [a, b])) = pfx (c :: r) := by
      cases r with
      | nil =>
        have : a ≠ 47 := by rintro rfl; revert ha; decide
        simp [pfx, this]
      | cons d r => rfl
    rw [List.cons_append, remP_cons, hp]
    rw [remP_cons, List.length_cons] at h
    by_cases h1 : (!op && pfx (c :: r)) = true
    · rw [if_pos h1] at h; omega
    · rw [if_neg h1] at h ⊢
      rw [remP_end a b ha hb r _ (by omega), List.length_cons]; omega
theorem tokP_end (a b : UInt8) (ha : isB a = true) (hb : isB b = true) : ∀ (l : List UInt8) (i : Nat) (op : Bool) (ws : List Wd), tokP (l ++ [a, b]) i op ws = tokP l i op ws
  | [], i, op, ws => by
    have sa : ¬ isSgn a = true := fun h => by rw [sgn_not_b a h] at ha; cases ha
    have sb : ¬ isSgn b = true := fun h => by rw [sgn_not_b b h] at hb; cases hb
    show tokP (a :: b :: []) i op ws = ws
    rw [tokP_cons, if_neg sa, if_pos ha, tokP_cons, if_neg sb, if_pos hb]; rfl
  | c :: r, i, op, ws => by
    have ih := fun op ws => tokP_end a b ha hb r (i + 1) op ws
    rw [List.cons_append, tokP_cons, tokP_cons, ih, ih, ih, ih]
def sh2 (w : Wd) : Wd := (w.1, w.2 + 2)
theorem addL_sh (ws : List Wd) (c : UInt8) : addL (ws.map sh2) c = (addL ws c).map sh2 := by
  rcases List.eq_nil_or_concat ws with rfl | ⟨l, x, rfl⟩
  · rfl
  · rw [List.concat_eq_append]
    obtain ⟨t, p⟩ := x
    rw [List.map_append, List.map_cons, List.map_nil]
    show addL (l.map sh2 ++ [(t, p + 2)]) c = _
    unfold addL
    simp [sh2]
theorem tokP_sh : ∀ (l : List UInt8) (i : Nat) (op : Bool) (ws : List Wd), tokP l (i + 2) op (ws.map sh2) = (tokP l i op ws).map sh2
  | [], _, _, _ => rfl
  | c :: r, i, op, ws => by
    have ih := fun op ws => tokP_sh r (i + 1) op ws
    have e1 : ws.map sh2 ++ [([c], ((i + 2 : Nat) : Int))] = (ws ++ [([c], (i : Int))]).map sh2 := by simp [sh2]
    have e2 : i + 2 + 1 = i + 1 + 2 := by omega
    rw [tokP_cons, tokP_cons, e1, e2, addL_sh, ih, ih, ih, ih]
    split
    · rfl
    · split
      · rfl
      · split <;> rfl
theorem addL_pos (B : Nat) (ws : List Wd) (c : UInt8) (h : ∀ w ∈ ws, 0 ≤ w.2 ∧ w.2 ≤ (B : Int)) : ∀ w ∈ addL ws c, 0 ≤ w.2 ∧ w.2 ≤ (B : Int) := by
  rcases List.eq_nil_or_concat ws with rfl | ⟨l, x, rfl⟩
  · exact h
  · rw [List.concat_eq_append] at h ⊢
    obtain ⟨t, p⟩ := x
    unfold addL
    simp only [List.getLast?_append, List.getLast?_singleton, Option.some_or, List.dropLast_concat]
    intro w hw
    rcases List.mem_append.1 hw with hw | hw
    · exact h w (List.mem_append_left _ hw)
    · rw [List.mem_singleton] at hw; subst hw
      exact h (t, p) (by simp)
theorem tokP_pos (B : Nat) : ∀ (l : List UInt8) (i : Nat) (op : Bool) (ws : List Wd), i + l.length ≤ B → (∀ w ∈ ws, 0 ≤ w.2 ∧ w.2 ≤ (B : Int)) → ∀ w ∈ tokP l i op ws, 0 ≤ w.2 ∧ w.2 ≤ (B : Int)
  | [], _, _, _, _, h => h
  | c :: r, i, op, ws, hB, h => by
    rw [List.length_cons] at hB
    have ih := fun op ws => tokP_pos B r (i + 1) op ws (by omega)
    have e1 : ∀ w ∈ ws ++ [([c], (i : Int))], 0 ≤ w.2 ∧ w.2 ≤ (B : Int) := by
      intro w hw
      rcases List.mem_append.1 hw with hw | hw
      · exact h w hw
      · rw [List.mem_singleton] at hw; subst hw
        exact ⟨by show (0 : Int) ≤ (i : Int); omega, by show (i : Int) ≤ (B : Int); omega⟩
    rw [tokP_cons]
    split
    · exact ih _ _ e1
    · split
      · exact ih _ _ h
      · split
        · exact ih _ _ (addL_pos B ws c h)
        · exact ih _ _ e1
/-- the bytes, while they turn -/
def turned (s : List UInt8) (j : Nat) (L : List Int) : Prop := L.length = s.length ∧ ∀ k (h : k < s.length), L[k]? = some (if k < j then ((tbB s[k]).toNat : Int) else (s[k].toNat : Int))
theorem blanks_loop0P (n : Nat) (s : List UInt8) (hs : s.length ≤ 1000000) (a2 : List Wd) (a3 : List UInt8) : ∀ (m j : Nat) (L : List Int), j ≤ s.length → s.length - j < m → turned s j L →
    ∃ L', turned s s.length L' ∧ blanks_loop0 n m (j : Int) a2 a3 L = some (((), ((), ())), ((((a2, a3), ()), (L', ()))))
  | 0, j, _, _, h, _ => absurd h (Nat.not_lt_zero _)
  | m + 1, j, L, hj, h, hL => by
    rw [blanks_loop0_succ]
    unfold blanks_l0
    by_cases c0 : j < s.length
    · have c0' : ((j : Nat) : Int) < ((L.length : Nat) : Int) := by rw [hL.1]; omega
      have hjL : j < L.length := by rw [hL.1]; exact c0
      have hv := hL.2 j c0
      rw [if_neg (Nat.lt_irrefl _), List.getElem?_eq_getElem hjL] at hv
      have hv' : L[j] = (s[j].toNat : Int) := Option.some.inj hv
      have ih := blanks_loop0P n s hs a2 a3 m (j + 1)
      simp only [c0', decide_true, cond_true, idx_lt hjL, Int.toNat_natCast, nth_lt hjL, Option.bind_some, hv', letO, wrap_succ (show j < 4611686018427387904 by omega)]
      by_cases c1 : (s[j].toNat : Int) = 32
      · simp only [c1, decide_true, cond_true]
        have h32 : s[j] = 32 := UInt8.toNat_inj.1 (by show s[j].toNat = 32; omega)
        refine ih (L.set j 9) (by omega) (by omega) ⟨by rw [List.length_set]; exact hL.1, fun k hk => ?_⟩
        rw [List.getElem?_set]
        by_cases hkj : j = k
        · subst hkj
          rw [if_pos rfl, if_pos hjL, if_pos (Nat.lt_succ_self _), h32]; rfl
        · rw [if_neg hkj, hL.2 k hk]
          by_cases hk2 : k < j
          · rw [if_pos hk2, if_pos (by omega)]
          · rw [if_neg hk2, if_neg (by omega)]
      · simp only [c1, decide_false, cond_false]
        have h32 : s[j] ≠ 32 := fun e => c1 (by rw [e]; rfl)
        refine ih L (by omega) (by omega) ⟨hL.1, fun k hk => ?_⟩
        rw [hL.2 k hk]
        by_cases hkj : j = k
        · subst hkj
          rw [if_neg (Nat.lt_irrefl _), if_pos (Nat.lt_succ_self _), tbB, if_neg h32]
        · by_cases hk2 : k < j
          · rw [if_pos hk2, if_pos (by omega)]
          · rw [if_neg hk2, if_neg (by omega)]
    · have c0' : ¬ ((j : Nat) : Int) < ((L.length : Nat) : Int) := by rw [hL.1]; omega
      simp only [c0', decide_false, cond_false]
      have hjs : j = s.length := by omega
      subst hjs
      exact ⟨L, hL, by first | rfl | trivial⟩
theorem turned_end {s : List UInt8} {L : List Int} (h : turned s s.length L) : L.map (fun n : Int => UInt8.ofNat n.toNat) = s.map tbB := by
  apply List.ext_getElem?
  intro k
  rw [List.getElem?_map, List.getElem?_map]
  by_cases hk : k < s.length
  · rw [h.2 k hk, if_pos hk, List.getElem?_eq_getElem hk]
    simp
  · rw [List.getElem?_eq_none (by rw [h.1]; omega), List.getElem?_eq_none (by omega)]; rfl
theorem blanks_loop1P (n : Nat) (W : List Wd) (hW : W.length ≤ 1000000) (hp : ∀ w ∈ W, 0 ≤ w.2 ∧ w.2 ≤ (1000000 : Int)) (a3 a5 : List UInt8) : ∀ (m j : Nat), j ≤ W.length → W.length - j < m →
    blanks_loop1 n m (j : Int) W a3 (W.map sh2) a5 = some (Sum.inr ((), ((), ())))
  | 0, j, _, h => absurd h (Nat.not_lt_zero _)
  | m + 1, j, hj, h => by
    rw [blanks_loop1_succ]
    unfold blanks_l1
    by_cases c0 : j < W.length
    · have c0' : ((j : Nat) : Int) < ((W.length : Nat) : Int) := by omega
      have c1 : j < (W.map sh2).length := by rw [List.length_map]; exact c0
      obtain ⟨p0, p1⟩ := hp W[j] (List.getElem_mem c0)
      have w1 : IntKind.wrap .i64 (W[j].2 + 2) = W[j].2 + 2 := wrap64 (by omega) (by omega)
      simp only [c0', decide_true, cond_true, idx_lt c0, idx_lt c1, Option.bind_some, List.getElem_map, sh2, Bool.not_true, cond_false, letO, w1, wrap_succ (show j < 4611686018427387904 by omega)]
      exact blanks_loop1P n W hW hp a3 a5 m (j + 1) (by omega) (by omega)
    · have c0' : ¬ ((j : Nat) : Int) < ((W.length : Nat) : Int) := by omega
      simp only [c0', decide_false, cond_false]
theorem blanks_true (s : List UInt8) : blanks_t 10000 s = some true := by
  unfold blanks_t
  by_cases c0 : (2000 : Int) < ((s.length : Nat) : Int)
  · simp only [c0, decide_true, cond_true, lq_live, Option.bind_some]
  have hs : s.length ≤ 2000 := by omega
  simp only [c0, decide_false, cond_false, lOne_P 10000 s (by omega) (by omega), Option.bind_some, lq_live]
  by_cases h1 : s.all okc = true
  case neg =>
    have e1 : oneR s = (([], []), 9) := by unfold oneR; rw [if_neg h1]
    rw [e1]; rfl
  have e1 : oneR s = (oneV s, 0) := by unfold oneR; rw [if_pos h1]
  rw [e1]
  simp only [decide_true, Bool.not_true, cond_false]
  by_cases h3 : (oneV s).2 = []
  case neg => simp only [h3, decide_false, Bool.not_false, cond_true]
  simp only [h3, decide_true, Bool.not_true, cond_false]
  have hv : oneV s = (tokP (s.take (remP s false)) 0 false [], s.drop (0 + remP s false)) := by unfold oneV; rw [cutP_tok]
  have hrem : remP s false = s.length := by
    have h4 : (s.drop (0 + remP s false)).length = 0 := by
      have : s.drop (0 + remP s false) = [] := by rw [hv] at h3; exact h3
      rw [this]; rfl
    have h5 := remP_le s false
    rw [List.length_drop] at h4
    omega
  have hW : oneV s = (tokP s 0 false [], []) := by
    rw [hv, hrem, Nat.zero_add, List.take_of_length_le (Nat.le_refl _), List.drop_eq_nil_of_le (Nat.le_refl _)]
  have hb : bytO s = some (s.map fun b => ((b.toNat : Nat) : Int)) := if_pos (by omega)
  obtain ⟨L', k1, k2⟩ := blanks_loop0P 10000 s (by omega) (oneV s).1 [] 10000 0 (s.map fun b => ((b.toNat : Nat) : Int)) (Nat.zero_le _) (by omega) ⟨by simp, fun k hk => by simp [hk]⟩
  rw [show ((0 : Nat) : Int) = (0 : Int) from rfl] at k2
  have hc1 : catO [32, 32] (s.map tbB) = some ([32, 32] ++ s.map tbB) := if_pos (by simp; omega)
  have hc2 : catO ([32, 32] ++ s.map tbB) [9, 32] = some ([32, 32] ++ s.map tbB ++ [9, 32]) := if_pos (by simp; omega)
  have hlen : ([32, 32] ++ s.map tbB ++ [9, 32] : List UInt8).length = s.length + 4 := by simp
  have hall : ([32, 32] ++ s.map tbB ++ [9, 32] : List UInt8).all okc = true := by
    have h32 : okc 32 = true := by decide
    have h9 : okc 9 = true := by decide
    have hm : (s.map tbB).all okc = true := by
      rw [List.all_map]
      rw [← h1]
      congr 1
      funext c
      exact (tb_all c).2.2.1
    rw [List.all_append, List.all_append, hm]
    simp [h32, h9]
  have hx : oneR ([32, 32] ++ s.map tbB ++ [9, 32]) = (((tokP s 0 false []).map sh2, []), 0) := by
    unfold oneR
    rw [if_pos hall]
    unfold oneV
    rw [cutP_tok]
    have e3 : ([32, 32] ++ s.map tbB ++ [9, 32] : List UInt8) = 32 :: 32 :: (s.map tbB ++ [9, 32]) := by simp
    have hr : remP ([32, 32] ++ s.map tbB ++ [9, 32]) false = s.length + 4 := by
      have q1 : remP (s.map tbB) (!(isSgn 32 || isB 32)) = (s.map tbB).length := by rw [remP_tb, List.length_map, show (!(isSgn 32 || isB 32)) = false from by decide]; exact hrem
      rw [e3, remP_cons, pfx_not 32 _ (Or.inr (by decide)), remP_cons, pfx_not 32 _ (Or.inr (by decide))]
      simp only [Bool.and_false, Bool.false_eq_true, if_false]
      rw [remP_end 9 32 (by decide) (by decide) _ _ q1, List.length_map]; omega
    have ht : tokP ([32, 32] ++ s.map tbB ++ [9, 32]) 0 false [] = (tokP s 0 false []).map sh2 := by
      rw [e3, tokP_cons, if_neg (by decide), if_pos (by decide), tokP_cons, if_neg (by decide), if_pos (by decide), tokP_end 9 32 (by decide) (by decide), tokP_tb]
      exact tokP_sh s 0 false []
    rw [hr, List.take_of_length_le (by rw [hlen]; exact Nat.le_refl _), List.drop_eq_nil_of_le (by rw [hlen]; omega), ht]
  have hpos := tokP_pos s.length s 0 false [] (by omega) (fun w hw => by cases hw)
  have hwl := tokP_len s 0 false []
  rw [List.length_nil] at hwl
  have hl1 := blanks_loop1P 10000 (tokP s 0 false []) (by omega) (fun w hw => by have := hpos w hw; omega) [] [] 10000 0 (Nat.zero_le _) (by omega)
  rw [show ((0 : Nat) : Int) = (0 : Int) from rfl] at hl1
  rw [hb, Option.bind_some, k2, Option.bind_some]
  simp only [turned_end k1, hc1, hc2, Option.bind_some, lOne_P 10000 ([32, 32] ++ s.map tbB ++ [9, 32]) (by omega) (by omega), hx, decide_true, Bool.not_true, cond_false, hW, List.length_map, hl1, Sum.elim_inr]
end Go.Proofs.YtchkajkbelhfgaaDoor.AM
