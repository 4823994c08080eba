/- Layer 9: the words of a line, as one recursion over its bytes. -/
import Derived.Test.YtchkajkbelhfgaaDoorLexM
namespace Go.Proofs.YtchkajkbelhfgaaDoor.AM
open Go.RowKit
set_option linter.unusedVariables false
set_option linter.unusedSimpArgs false
def isSgn (c : UInt8) : Bool := decide (((c.toNat : Nat) : Int) = 40) || (decide (((c.toNat : Nat) : Int) = 41) || (decide (((c.toNat : Nat) : Int) = 91) || (decide (((c.toNat : Nat) : Int) = 93) || decide (((c.toNat : Nat) : Int) = 44))))
def pfx : List UInt8 → Bool
  | a :: b :: _ => decide (a = 47) && decide (b = 47)
  | _ => false
def addL (ws : List Wd) (c : UInt8) : List Wd := match ws.getLast? with
  | some (t, p) => ws.dropLast ++ [(t ++ [c], p)]
  | none => ws
def cutP : List UInt8 → Nat → Bool → List Wd → List Wd × Nat
  | [], i, _, ws => (ws, i)
  | c :: r, i, op, ws =>
    if isSgn c then cutP r (i + 1) false (ws ++ [([c], (i : Int))])
    else if isB c then cutP r (i + 1) false ws
    else if op then cutP r (i + 1) true (addL ws c)
    else if pfx (c :: r) then (ws, i)
    else cutP r (i + 1) true (ws ++ [([c], (i : Int))])
theorem pfx_t (n : Nat) (s : List UInt8) (hs : s.length ≤ 1000000) : HasPrefix_t n s [47, 47] = some (pfx s) := by
  unfold HasPrefix_t HasPrefixI_t
  match s with
  | [] => rfl
  | [a] => simp [pfx]
  | a :: b :: r =>
    have h : ((List.length ([47, 47] : List UInt8) : Nat) : Int) ≤ ((List.length (a :: b :: r) : Nat) : Int) := by simp; omega
    simp only [h, decide_true, cond_true]
    rw [sub_zero (by simp)]
    simp [pfx]
theorem addL_snoc (ws : List Wd) (t : List UInt8) (p : Int) (c : UInt8) : addL (ws ++ [(t, p)]) c = ws ++ [(t ++ [c], p)] := by
  unfold addL; simp
theorem cut_stepP (n : Nat) (rec : List UInt8 → Bool → Int → Int → List Wd → Option (((Unit × (Int × Unit)) × Unit × ((List Wd) × Unit)) ⊕ (((List UInt8) × (Unit × Unit)) × Unit × ((List Wd) × Unit)))) (s : List UInt8) (op : Bool) (L : Int) (i : Nat) (ws : List Wd)
    (hi : i < s.length) (hL : L = ((s.length : Nat) : Int)) (hs : s.length ≤ 1000000) (hw : ws.length ≤ i) (ho : op = true → ∃ ws0 t p, ws = ws0 ++ [(t, ((p : Nat) : Int))] ∧ p ≤ i ∧ t = (s.drop p).take (i - p)) :
    lcut_l0 n rec s op L (i : Int) ws = if isSgn s[i] then rec s false L ((i + 1 : Nat) : Int) (ws ++ [([s[i]], (i : Int))])
      else if isB s[i] then rec s false L ((i + 1 : Nat) : Int) ws
      else if op then rec s true L ((i + 1 : Nat) : Int) (addL ws s[i])
      else if pfx (s.drop i) then some (Sum.inl (((), ((i : Int), ())), ((), (ws, ()))))
      else rec s true L ((i + 1 : Nat) : Int) (ws ++ [([s[i]], (i : Int))]) := by
  subst hL
  have c0 : ((i : Nat) : Int) < ((s.length : Nat) : Int) := by omega
  have w1 := wrap_succ (show i < 4611686018427387904 by omega)
  have a1 : appO 24 ws [([s[i]], (i : Int))] = some (ws ++ [([s[i]], (i : Int))]) := app_le (by simp; omega)
  have a2 : appO 24 ws [(([] : List UInt8), (i : Int))] = some (ws ++ [([], (i : Int))]) := app_le (by simp; omega)
  have s1 : subO s ((i : Nat) : Int) ((i + 1 : Nat) : Int) = some [s[i]] := by rw [sub_le (by omega) (by omega), take_one hi]
  have s2 : subO s ((i : Nat) : Int) ((s.length : Nat) : Int) = some (s.drop i) := by
    rw [sub_le (by omega) (Nat.le_refl _), List.take_of_length_le (by rw [List.length_drop]; omega)]
  have hp := pfx_t n (s.drop i) (by rw [List.length_drop]; omega)
  unfold lcut_l0
  simp only [c0, decide_true, cond_true, sAt_lt hi, Option.bind_some, letO, w1, s1, s2, a1, a2, hp]
  have eqc : ∀ k : Int, decide (((s[i].toNat : Nat) : Int) = k) = true ∨ decide (((s[i].toNat : Nat) : Int) = k) = false := fun k => by cases decide (((s[i].toNat : Nat) : Int) = k) <;> simp
  rcases eqc 40 with h40 | h40
  · simp only [isSgn, h40, cond_true, Bool.true_or, Bool.or_true, Bool.false_or, if_true]
  rcases eqc 41 with h41 | h41
  · simp only [isSgn, h40, h41, cond_true, cond_false, Bool.true_or, Bool.or_true, Bool.false_or, if_true]
  rcases eqc 91 with h91 | h91
  · simp only [isSgn, h40, h41, h91, cond_true, cond_false, Bool.true_or, Bool.or_true, Bool.false_or, if_true]
  rcases eqc 93 with h93 | h93
  · simp only [isSgn, h40, h41, h91, h93, cond_true, cond_false, Bool.true_or, Bool.or_true, Bool.false_or, if_true]
  rcases eqc 44 with h44 | h44
  · simp only [isSgn, h40, h41, h91, h93, h44, cond_true, cond_false, Bool.true_or, Bool.or_true, Bool.false_or, if_true]
  have hS : isSgn s[i] = false := by simp only [isSgn, h40, h41, h91, h93, h44, Bool.or_false]
  rcases eqc 32 with h32 | h32
  · have hB : isB s[i] = true := by simp only [isB, h32, Bool.true_or]
    simp only [hS, hB, h40, h41, h91, h93, h44, h32, cond_true, cond_false, if_true, Bool.false_eq_true, if_false]
  rcases eqc 9 with h9 | h9
  · have hB : isB s[i] = true := by simp only [isB, h9, Bool.or_true]
    simp only [hS, hB, h40, h41, h91, h93, h44, h32, h9, cond_true, cond_false, if_true, Bool.false_eq_true, if_false]
  have hB : isB s[i] = false := by simp only [isB, h32, h9, Bool.or_false]
  simp only [hS, hB, h40, h41, h91, h93, h44, h32, h9, cond_true, cond_false, Bool.false_eq_true, if_false]
  cases op with
  | false =>
    simp only [Bool.not_false, cond_true, Bool.false_eq_true, if_false]
    cases hb : pfx (s.drop i) with
    | true => simp only [cond_true, if_true]
    | false =>
      have hl : (ws ++ [(([] : List UInt8), (i : Int))]).length = ws.length + 1 := by simp
      have w2 : IntKind.wrap .i64 ((((ws ++ [(([] : List UInt8), (i : Int))]).length : Nat) : Int) - 1) = ((ws.length : Nat) : Int) := by
        rw [hl, show (((ws.length + 1 : Nat) : Int) - 1) = ((ws.length : Nat) : Int) from by omega]; exact wrap_nat (by omega)
      have g : ws.length < (ws ++ [(([] : List UInt8), (i : Int))]).length := by omega
      have ge : (ws ++ [(([] : List UInt8), (i : Int))])[ws.length]'g = ([], (i : Int)) := by simp
      simp only [cond_false, Bool.false_eq_true, if_false, w2, idx_lt g, Option.bind_some, Int.toNat_natCast, nth_lt g, ge, s1, set_last]
  | true =>
    obtain ⟨ws0, t, p, rfl, hpi, rfl⟩ := ho rfl
    simp only [Bool.not_true, cond_false, if_true]
    generalize ht : (s.drop p).take (i - p) = t
    have hl : (ws0 ++ [(t, (p : Int))]).length = ws0.length + 1 := by simp
    have w2 : IntKind.wrap .i64 ((((ws0 ++ [(t, (p : Int))]).length : Nat) : Int) - 1) = ((ws0.length : Nat) : Int) := by
      rw [hl, show (((ws0.length + 1 : Nat) : Int) - 1) = ((ws0.length : Nat) : Int) from by omega]; exact wrap_nat (by simp at hw; omega)
    have g : ws0.length < (ws0 ++ [(t, (p : Int))]).length := by omega
    have ge : (ws0 ++ [(t, (p : Int))])[ws0.length]'g = (t, (p : Int)) := by simp
    have s3 : subO s ((p : Nat) : Int) ((i + 1 : Nat) : Int) = some (t ++ [s[i]]) := by
      rw [sub_le (by omega) (by omega), ← ht, show i + 1 - p = (i - p) + 1 from by omega, List.take_add_one, List.getElem?_drop, show p + (i - p) = i from by omega, List.getElem?_eq_getElem hi]
      rfl
    simp only [w2, idx_lt g, Option.bind_some, Int.toNat_natCast, nth_lt g, ge, s3, set_last, addL_snoc]
theorem cut_loopP (n : Nat) (s : List UInt8) (hs : s.length ≤ 1000000) : ∀ (m i : Nat) (op : Bool) (ws : List Wd), i ≤ s.length → s.length - i < m → ws.length ≤ i → (op = true → ∃ ws0 t p, ws = ws0 ++ [(t, ((p : Nat) : Int))] ∧ p ≤ i ∧ t = (s.drop p).take (i - p)) →
    (lcut_loop0 n m s op ((s.length : Nat) : Int) (i : Int) ws = some (Sum.inl (((), ((((cutP (s.drop i) i op ws).2 : Nat) : Int), ())), ((), ((cutP (s.drop i) i op ws).1, ())))) ∨ ((cutP (s.drop i) i op ws).2 = s.length ∧ lcut_loop0 n m s op ((s.length : Nat) : Int) (i : Int) ws = some (Sum.inr ((s, ((), ())), ((), ((cutP (s.drop i) i op ws).1, ()))))))
  | 0, i, op, ws, _, h, _, _ => absurd h (Nat.not_lt_zero _)
  | m + 1, i, op, ws, hi, h, hw, ho => by
    rw [lcut_loop0_succ]
    by_cases c0 : i < s.length
    · have ih := cut_loopP n s hs m
      rw [cut_stepP n (fun a1 a2 a3 a4 a5 => lcut_loop0 n m a1 a2 a3 a4 a5) s op _ i ws c0 rfl hs hw ho]
      have hd : s.drop i = s[i] :: s.drop (i + 1) := List.drop_eq_getElem_cons c0
      have h1 : [s[i]] = (s.drop i).take (i + 1 - i) := (take_one c0).symm
      rw [hd, cutP, ← hd]
      by_cases cS : isSgn s[i] = true
      · simp only [cS, if_true]
        exact ih (i + 1) false _ (by omega) (by omega) (by simp; omega) (fun h => by cases h)
      · by_cases cB : isB s[i] = true
        · simp only [cS, cB, if_true, if_false]
          exact ih (i + 1) false _ (by omega) (by omega) (by omega) (fun h => by cases h)
        · cases op with
          | true =>
            simp only [cS, cB, if_true, if_false]
            obtain ⟨ws0, t, p, rfl, hpi, ht⟩ := ho rfl
            refine ih (i + 1) true _ (by omega) (by omega) (by rw [addL_snoc]; simp at hw ⊢; omega) (fun _ => ⟨ws0, t ++ [s[i]], p, addL_snoc _ _ _ _, by omega, ?_⟩)
            rw [ht, show i + 1 - p = (i - p) + 1 from by omega, List.take_add_one, List.getElem?_drop, show p + (i - p) = i from by omega, List.getElem?_eq_getElem c0]
            rfl
          | false =>
            by_cases cP : pfx (s.drop i) = true
            · simp only [cS, cB, cP, Bool.false_eq_true, if_true, if_false]
              exact Or.inl (by first | rfl | trivial)
            · simp only [cS, cB, cP, Bool.false_eq_true, if_false]
              exact ih (i + 1) true _ (by omega) (by omega) (by simp; omega) (fun _ => ⟨ws, [s[i]], i, rfl, by omega, h1⟩)
    · unfold lcut_l0
      have c0' : ¬ ((i : Nat) : Int) < ((s.length : Nat) : Int) := by omega
      have hie : i = s.length := by omega
      have hd : s.drop i = [] := List.drop_eq_nil_of_le (by omega)
      simp only [c0', decide_false, cond_false, hd, cutP]
      exact Or.inr ⟨hie, by first | rfl | trivial⟩
theorem cut_P (n : Nat) (s : List UInt8) (hs : s.length ≤ 1000000) (hn : s.length < n) : lcut_t n s = some ((cutP s 0 false []).1, (((cutP s 0 false []).2 : Nat) : Int)) := by
  have h := cut_loopP n s hs n 0 false [] (Nat.zero_le _) (by omega) (Nat.zero_le _) (fun h => by cases h)
  rw [List.drop_zero, show ((0 : Nat) : Int) = (0 : Int) from rfl] at h
  unfold lcut_t
  rcases h with h | ⟨h0, h⟩
  · rw [h]; rfl
  · rw [h, h0]; rfl
theorem cutP_le : ∀ (s : List UInt8) (i : Nat) (op : Bool) (ws : List Wd), i ≤ (cutP s i op ws).2 ∧ (cutP s i op ws).2 ≤ i + s.length
  | [], i, op, ws => ⟨Nat.le_refl _, Nat.le_refl _⟩
  | c :: r, i, op, ws => by
    have k := fun op ws => cutP_le r (i + 1) op ws
    rw [cutP, List.length_cons]
    split
    · have := k false (ws ++ [([c], (i : Int))]); omega
    · split
      · have := k false ws; omega
      · split
        · have := k true (addL ws c); omega
        · split
          · simp
          · have := k true (ws ++ [([c], (i : Int))]); omega
theorem cutP_cons (c : UInt8) (r : List UInt8) (i : Nat) (op : Bool) (ws : List Wd) : cutP (c :: r) i op ws =
    if isSgn c then cutP r (i + 1) false (ws ++ [([c], (i : Int))])
    else if isB c then cutP r (i + 1) false ws
    else if op then cutP r (i + 1) true (addL ws c)
    else if pfx (c :: r) then (ws, i)
    else cutP r (i + 1) true (ws ++ [([c], (i : Int))]) := rfl
/-- a blank, and what is behind it, at the end of a line without a remark -/
theorem cutP_ext (t : List UInt8) : ∀ (s : List UInt8) (i : Nat) (op : Bool) (ws : List Wd), (cutP s i op ws).2 = i + s.length → ∃ o, cutP (s ++ 32 :: t) i op ws = cutP (32 :: t) (i + s.length) o (cutP s i op ws).1
  | [], i, op, ws, _ => ⟨op, rfl⟩
  | c :: r, i, op, ws, h => by
    have k := fun op ws h => cutP_ext t r (i + 1) op ws h
    have e : i + (c :: r).length = i + 1 + r.length := by simp; omega
    rw [e] at h ⊢
    have hp : pfx (c :: (r ++ 32 :: t)) = pfx (c :: r) := by
      cases r with
      | nil => simp [pfx]
      | cons b r => rfl
    rw [List.cons_append, cutP_cons c r] at *
    rw [cutP_cons c (r ++ 32 :: t), hp]
    by_cases c1 : isSgn c = true
    · rw [if_pos c1] at h ⊢; rw [if_pos c1]; exact k _ _ h
    rw [if_neg c1] at h ⊢; rw [if_neg c1]
    by_cases c2 : isB c = true
    · rw [if_pos c2] at h ⊢; rw [if_pos c2]; exact k _ _ h
    rw [if_neg c2] at h ⊢; rw [if_neg c2]
    by_cases c3 : op = true
    · rw [if_pos c3] at h ⊢; rw [if_pos c3]; exact k _ _ h
    rw [if_neg c3] at h ⊢; rw [if_neg c3]
    by_cases c4 : pfx (c :: r) = true
    · rw [if_pos c4] at h; simp at h; omega
    rw [if_neg c4] at h ⊢; rw [if_neg c4]
    exact k _ _ h
def okc (c : UInt8) : Bool := !((decide (((c.toNat : Nat) : Int) < 32) && !decide (((c.toNat : Nat) : Int) = 9)) || decide ((126 : Int) < ((c.toNat : Nat) : Int)))
theorem isText_loopP (n : Nat) (s : List UInt8) (hL : s.length ≤ 1000000) : ∀ m j : Nat, j ≤ s.length → s.length - j < m → isText_loop0 n m s ((s.length : Nat) : Int) (j : Int) = some (if (s.drop j).all okc then Sum.inr ((), (), ()) else Sum.inl ((false, ()), (), ()))
  | 0, j, _, h => absurd h (Nat.not_lt_zero _)
  | m + 1, j, hj, h => by
    rw [isText_loop0_succ]
    unfold isText_l0
    by_cases c0 : j < s.length
    · have c0' : ((j : Nat) : Int) < ((s.length : Nat) : Int) := by omega
      have ih := isText_loopP n s hL m (j + 1) (by omega) (by omega)
      have hd : s.drop j = s[j] :: s.drop (j + 1) := (List.drop_eq_getElem_cons c0)
      simp only [c0', decide_true, cond_true, sAt_lt c0, Option.bind_some, letO, wrap_succ (show j < 4611686018427387904 by omega), ih, hd, List.all_cons, okc]
      generalize decide (((s[j].toNat : Nat) : Int) < 32) = b1
      generalize decide (((s[j].toNat : Nat) : Int) = 9) = b2
      generalize decide ((126 : Int) < ((s[j].toNat : Nat) : Int)) = b3
      cases b1 <;> cases b2 <;> cases b3 <;> simp <;> rfl
    · have c0' : ¬ ((j : Nat) : Int) < ((s.length : Nat) : Int) := by omega
      have : s.drop j = [] := List.drop_eq_nil_of_le (by omega)
      simp [c0', this]
theorem isText_P (n : Nat) (s : List UInt8) (hL : s.length ≤ 1000000) (hn : s.length < n) : isText_t n s = some (s.all okc) := by
  unfold isText_t
  have := isText_loopP n s hL n 0 (Nat.zero_le _) (by omega)
  rw [show ((0 : Nat) : Int) = (0 : Int) from rfl] at this
  rw [this, List.drop_zero]
  cases s.all okc <;> rfl
theorem one_P (n : Nat) (s : List UInt8) (hL : s.length ≤ 1000000) (hn : s.length < n) : lOne_t n s = some (if s.all okc then (((cutP s 0 false []).1, s.drop (cutP s 0 false []).2), 0) else (([], []), 9)) := by
  unfold lOne_t
  rw [isText_P n s hL hn]
  cases h : s.all okc with
  | false => rfl
  | true =>
    have h2 := (cutP_le s 0 false []).2
    simp only [Option.bind_some, Bool.not_true, cond_false, cut_P n s hL hn, if_true]
    rw [sub_le (by omega) (Nat.le_refl _), Option.bind_some, List.take_of_length_le (by rw [List.length_drop]; omega)]
end Go.Proofs.YtchkajkbelhfgaaDoor.AM
