/- Layer 9: the document's words of a line, and lines of a text: the same as the program's. -/
import Derived.Test.YtchkajkbelhfgaaDoorLexN
import Derived.Test.YtchkajkbelhfgaaDoorSpl
namespace Go.Proofs.YtchkajkbelhfgaaDoor.AM
open Go.RowKit
set_option linter.unusedVariables false
set_option linter.unusedSimpArgs false
def tokP : List UInt8 → Nat → Bool → List Wd → List Wd
  | [], i, _, ws => ws
  | c :: r, i, op, ws =>
    if isSgn c then tokP r (i + 1) false (ws ++ [([c], (i : Int))])
    else if isB c then tokP r (i + 1) false ws
    else if op then tokP r (i + 1) true (addL ws c)
    else tokP r (i + 1) true (ws ++ [([c], (i : Int))])
theorem tokP_cons (c : UInt8) (r : List UInt8) (i : Nat) (op : Bool) (ws : List Wd) : tokP (c :: r) i op ws =
    if isSgn c then tokP r (i + 1) false (ws ++ [([c], (i : Int))])
    else if isB c then tokP r (i + 1) false ws
    else if op then tokP r (i + 1) true (addL ws c)
    else tokP r (i + 1) true (ws ++ [([c], (i : Int))]) := rfl
def remP : List UInt8 → Bool → Nat
  | [], _ => 0
  | c :: r, op => if (!op && pfx (c :: r)) = true then 0 else 1 + remP r (!(isSgn c || isB c))
theorem remP_cons (c : UInt8) (r : List UInt8) (op : Bool) : remP (c :: r) op = if (!op && pfx (c :: r)) = true then 0 else 1 + remP r (!(isSgn c || isB c)) := rfl
theorem remP_le : ∀ (l : List UInt8) (op : Bool), remP l op ≤ l.length
  | [], _ => Nat.le_refl _
  | c :: r, op => by
    rw [remP_cons]
    split
    · simp
    · have := remP_le r (!(isSgn c || isB c)); rw [List.length_cons]; omega
theorem pfx_not (c : UInt8) (r : List UInt8) (h : isSgn c = true ∨ isB c = true) : pfx (c :: r) = false := by
  cases r with
  | nil => rfl
  | cons b r =>
    have : c ≠ 47 := by
      rintro rfl
      rcases h with h | h <;> revert h <;> decide
    simp [pfx, this]
theorem cutP_tok : ∀ (l : List UInt8) (i : Nat) (op : Bool) (ws : List Wd), cutP l i op ws = (tokP (l.take (remP l op)) i op ws, i + remP l op)
  | [], i, op, ws => rfl
  | c :: r, i, op, ws => by
    have ih := fun op ws => cutP_tok r (i + 1) op ws
    rw [cutP_cons, remP_cons]
    by_cases c1 : isSgn c = true
    · rw [if_pos c1, pfx_not c r (Or.inl c1), ih]
      simp only [Bool.and_false, Bool.false_eq_true, if_false, c1, Bool.true_or, Bool.not_true]
      rw [Nat.add_comm 1, List.take_succ_cons, tokP_cons, if_pos c1, Nat.add_assoc i 1, Nat.add_comm 1]
    rw [if_neg c1]
    by_cases c2 : isB c = true
    · rw [if_pos c2, pfx_not c r (Or.inr c2), ih]
      simp only [Bool.and_false, Bool.false_eq_true, if_false, c2, Bool.or_true, Bool.not_true]
      rw [Nat.add_comm 1, List.take_succ_cons, tokP_cons, if_neg c1, if_pos c2, Nat.add_assoc i 1, Nat.add_comm 1]
    rw [if_neg c2]
    have c1' : isSgn c = false := by simpa using c1
    have c2' : isB c = false := by simpa using c2
    by_cases c3 : op = true
    · subst c3
      rw [if_pos rfl, ih]
      simp only [Bool.not_true, Bool.false_and, Bool.false_eq_true, if_false, c1', c2', Bool.or_self, Bool.not_false]
      rw [Nat.add_comm 1, List.take_succ_cons, tokP_cons, if_neg c1, if_neg c2, if_pos rfl, Nat.add_assoc i 1, Nat.add_comm 1]
    have c3' : op = false := by simpa using c3
    subst c3'
    rw [if_neg c3]
    by_cases c4 : pfx (c :: r) = true
    · rw [if_pos c4, if_pos (by rw [c4]; rfl)]; rfl
    rw [if_neg c4, if_neg (by simpa using c4), ih]
    simp only [c1', c2', Bool.or_self, Bool.not_false]
    rw [Nat.add_comm 1, List.take_succ_cons, tokP_cons, if_neg c1, if_neg c2, if_neg c3, Nat.add_assoc i 1, Nat.add_comm 1]
def runL : List UInt8 → Nat
  | [] => 0
  | c :: r => if (isSgn c || isB c) = true then 0 else 1 + runL r
theorem runL_le : ∀ l : List UInt8, runL l ≤ l.length
  | [] => Nat.le_refl _
  | c :: r => by
    rw [runL]
    split
    · simp
    · have := runL_le r; simp; omega
theorem tok_run (p : Nat) (out : List Wd) : ∀ (l : List UInt8) (k : Nat) (w : List UInt8), tokP l k true (out ++ [(w, (p : Int))]) = tokP (l.drop (runL l)) (k + runL l) false (out ++ [(w ++ l.take (runL l), (p : Int))])
  | [], k, w => by simp [runL, tokP]
  | c :: r, k, w => by
    rw [runL]
    by_cases h : (isSgn c || isB c) = true
    · rw [if_pos h]
      simp only [List.drop_zero, Nat.add_zero, List.take_zero, List.append_nil]
      rw [tokP_cons, tokP_cons]
      by_cases c1 : isSgn c = true
      · rw [if_pos c1, if_pos c1]
      · rw [if_neg c1, if_neg c1]
        have c2 : isB c = true := by simpa [c1] using h
        rw [if_pos c2, if_pos c2]
    · rw [if_neg h]
      have c1 : ¬ isSgn c = true := fun e => h (by rw [e]; rfl)
      have c2 : ¬ isB c = true := fun e => h (by rw [e]; simp)
      rw [tokP_cons, if_neg c1, if_neg c2, if_pos rfl, addL_snoc, tok_run p out r (k + 1), Nat.add_comm 1, List.drop_succ_cons, List.take_succ_cons, Nat.add_assoc k 1, Nat.add_comm 1, List.append_assoc]
      rfl
theorem rBlank_P (n : Nat) (c : UInt8) : rBlank_t n ((c.toNat : Nat) : Int) = some (isB c) := by
  unfold rBlank_t isB
  cases decide (((c.toNat : Nat) : Int) = 32) <;> rfl
theorem rSign_P (n : Nat) (c : UInt8) : rSign_t n ((c.toNat : Nat) : Int) = some (isSgn c) := by
  unfold rSign_t isSgn
  cases decide (((c.toNat : Nat) : Int) = 40) <;> cases decide (((c.toNat : Nat) : Int) = 41) <;> cases decide (((c.toNat : Nat) : Int) = 91) <;> cases decide (((c.toNat : Nat) : Int) = 93) <;> rfl
/-! the remark -/
def prev (s : List UInt8) (i : Nat) : Bool := if h : 0 < i ∧ i ≤ s.length then !(isSgn (s[i - 1]'(by omega)) || isB (s[i - 1]'(by omega))) else false
theorem prev_succ {s : List UInt8} {i : Nat} (h : i < s.length) : prev s (i + 1) = !(isSgn s[i] || isB s[i]) := by
  unfold prev
  rw [dif_pos ⟨by omega, by omega⟩]
  rfl
theorem remark_loop (n : Nat) (s : List UInt8) (hs : s.length ≤ 1000000) : ∀ m i : Nat, i ≤ s.length → s.length - i < m →
    (rRemark_loop0 n m s (i : Int) = some (Sum.inl ((((i + remP (s.drop i) (prev s i) : Nat) : Int), ()), ((), ())))) ∨ (rRemark_loop0 n m s (i : Int) = some (Sum.inr ((s, ()), ((), ()))) ∧ i + remP (s.drop i) (prev s i) = s.length)
  | 0, i, _, h => absurd h (Nat.not_lt_zero _)
  | m + 1, i, hi, h => by
    rw [rRemark_loop0_succ]
    unfold rRemark_l0
    have w1 := wrap_succ (show i < 4611686018427387904 by omega)
    by_cases c0 : i + 1 < s.length
    · have ih := remark_loop n s hs m (i + 1) (by omega) (by omega)
      have hi' : i < s.length := by omega
      have c0' : ((i + 1 : Nat) : Int) < ((s.length : Nat) : Int) := by omega
      have hd : s.drop i = s[i] :: s.drop (i + 1) := List.drop_eq_getElem_cons hi'
      have hd1 : s.drop (i + 1) = s[i + 1] :: s.drop (i + 1 + 1) := List.drop_eq_getElem_cons c0
      rw [prev_succ hi'] at ih
      have key : pfx (s.drop i) = (decide (((s[i].toNat : Nat) : Int) = 47) && decide (((s[i + 1].toNat : Nat) : Int) = 47)) := by
        rw [hd, hd1]
        have e : ∀ c : UInt8, decide (c = 47) = decide (((c.toNat : Nat) : Int) = 47) := fun c => by
          have h47 : (47 : UInt8).toNat = 47 := rfl
          apply decide_eq_decide.2
          constructor
          · rintro rfl; rfl
          · intro hh; apply UInt8.toNat_inj.1; rw [h47]; omega
        show (decide (s[i] = 47) && decide (s[i + 1] = 47)) = _
        rw [e, e]
      have next : ∀ b, remP (s.drop i) b = if (!b && pfx (s.drop i)) = true then 0 else 1 + remP (s.drop (i + 1)) (!(isSgn s[i] || isB s[i])) := fun b => by
        conv => lhs; rw [hd]
        rw [remP_cons, ← hd]
      have goOn : (!(prev s i) && pfx (s.drop i)) = false → (rRemark_loop0 n m s ((i + 1 : Nat) : Int) = some (Sum.inl ((((i + remP (s.drop i) (prev s i) : Nat) : Int), ()), ((), ()))) ∨ (rRemark_loop0 n m s ((i + 1 : Nat) : Int) = some (Sum.inr ((s, ()), ((), ()))) ∧ i + remP (s.drop i) (prev s i) = s.length)) := fun hb => by
        rw [next, hb]
        simp only [Bool.false_eq_true, if_false]
        rw [← Nat.add_assoc]
        exact ih
      have stop : (!(prev s i) && pfx (s.drop i)) = true → i + remP (s.drop i) (prev s i) = i := fun hb => by
        rw [next, if_pos hb]; rfl
      simp only [letO, w1, c0', decide_true, cond_true, sAt_lt hi', sAt_lt c0, Option.bind_some]
      cases h1 : decide (((s[i].toNat : Nat) : Int) = 47) with
      | false => exact goOn (by rw [key, h1]; simp)
      | true =>
        cases h2 : decide (((s[i + 1].toNat : Nat) : Int) = 47) with
        | false => exact goOn (by rw [key, h1, h2]; simp)
        | true =>
          simp only [cond_true]
          by_cases h3 : i = 0
          · have h3' : ((i : Nat) : Int) = 0 := by omega
            refine Or.inl ?_
            rw [stop (by rw [key, h1, h2]; subst h3; simp [prev])]
            simp only [h3', decide_true, cond_true]
          · have h3' : ¬ ((i : Nat) : Int) = 0 := by omega
            have w2 : IntKind.wrap .i64 (((i : Nat) : Int) - 1) = ((i - 1 : Nat) : Int) := by rw [show ((i : Nat) : Int) - 1 = ((i - 1 : Nat) : Int) from by omega]; exact wrap_nat (by omega)
            have hp : prev s i = !(isSgn s[i - 1] || isB s[i - 1]) := by unfold prev; rw [dif_pos ⟨by omega, hi⟩]
            simp only [h3', decide_false, cond_false, w2, sAt_lt (show i - 1 < s.length by omega), Option.bind_some, rBlank_P, rSign_P]
            cases h4 : isB s[i - 1] with
            | true =>
              refine Or.inl ?_
              simp only [cond_true]
              rw [stop (by rw [key, h1, h2, hp, h4]; simp)]
            | false =>
              cases h5 : isSgn s[i - 1] with
              | true =>
                refine Or.inl ?_
                simp only [cond_true, cond_false]
                rw [stop (by rw [key, h1, h2, hp, h4, h5]; simp)]
              | false =>
                simp only [cond_false]
                exact goOn (by rw [hp, h4, h5]; simp)
    · have c0' : ¬ ((i + 1 : Nat) : Int) < ((s.length : Nat) : Int) := by omega
      simp only [letO, w1, c0', decide_false, cond_false]
      refine Or.inr ⟨by first | rfl | trivial, ?_⟩
      rcases Nat.lt_or_ge i s.length with h1 | h1
      · have hd : s.drop i = [s[i]] := by rw [List.drop_eq_getElem_cons h1, List.drop_eq_nil_of_le (by omega)]
        rw [hd, remP_cons]
        simp [pfx, remP]; omega
      · rw [List.drop_eq_nil_of_le h1]; simp [remP]; omega
theorem remark_P (n : Nat) (s : List UInt8) (hs : s.length ≤ 1000000) (hn : s.length < n) : rRemark_t n s = some ((remP s false : Nat) : Int) := by
  have h := remark_loop n s hs n 0 (Nat.zero_le _) (by omega)
  rw [List.drop_zero, show prev s 0 = false from rfl, Nat.zero_add] at h
  unfold rRemark_t
  rw [show ((0 : Nat) : Int) = (0 : Int) from rfl] at h
  rcases h with h | ⟨h, h2⟩
  · rw [h]; rfl
  · rw [h, h2]; rfl
/-! the words -/
theorem rOne_loop2P (n : Nat) (s : List UInt8) (hs : s.length ≤ 1000000) (e i : Nat) (nt : List UInt8) (out : List Wd) (he : e ≤ s.length) (hi : i < s.length) : ∀ m k : Nat, k ≤ e → e - k < m →
    ∃ o, rOne_loop2 n m s (e : Int) (i : Int) (k : Int) nt out = some o ∧ ∀ (α : Type) (f : List UInt8 → Int → Int → Int → List UInt8 → List Wd → α),
      Sum.elim (fun q => f q.1.1 q.1.2.2.1 q.1.2.2.2.2.1 q.1.2.2.2.2.2.1 q.2.1.1.2 q.2.2.1) (Sum.elim (fun q => f q.1.1 q.1.2.2.1 q.1.2.2.2.2.1 q.1.2.2.2.2.2.1 q.2.1.1.2 q.2.2.1) (Sum.elim (fun q => f q.1.1 q.1.2.2.1 q.1.2.2.2.2.1 q.1.2.2.2.2.2.1 q.2.1.1.2 q.2.2.1) (fun q => f q.1.1 q.1.2.2.1 q.1.2.2.2.2.1 q.1.2.2.2.2.2.1 q.2.1.1.2 q.2.2.1))) o
        = f s (e : Int) (i : Int) ((if isSgn s[i] then k else k + runL ((s.take e).drop k) : Nat) : Int) nt out
  | 0, k, _, h => absurd h (Nat.not_lt_zero _)
  | m + 1, k, hk, h => by
    rw [rOne_loop2_succ]
    unfold rOne_l2
    by_cases c0 : k < e
    · have c0' : ((k : Nat) : Int) < ((e : Nat) : Int) := by omega
      have hk' : k < s.length := by omega
      have hd : (s.take e).drop k = s[k] :: (s.take e).drop (k + 1) := by
        rw [List.drop_eq_getElem_cons (by rw [List.length_take]; omega), List.getElem_take]
      simp only [c0', decide_true, cond_true, sAt_lt hi, sAt_lt hk', Option.bind_some, rSign_P, rBlank_P]
      cases h1 : isSgn s[i] with
      | true =>
        refine ⟨_, rfl, fun α f => ?_⟩
        simp only [Bool.not_true, cond_false, Sum.elim_inr, Sum.elim_inl, if_true]
      | false =>
        simp only [Bool.not_false, cond_true, Bool.false_eq_true, if_false]
        cases h2 : isB s[k] with
        | true =>
          refine ⟨_, rfl, fun α f => ?_⟩
          rw [hd, runL, if_pos (by rw [h2]; simp)]
          simp only [Sum.elim_inr, Sum.elim_inl, Nat.add_zero]
        | false =>
          simp only [Bool.not_false, cond_true]
          cases h3 : isSgn s[k] with
          | true =>
            refine ⟨_, rfl, fun α f => ?_⟩
            rw [hd, runL, if_pos (by rw [h3]; simp)]
            simp only [Sum.elim_inr, Sum.elim_inl, Nat.add_zero]
          | false =>
            simp only [Bool.not_false, cond_true, letO, wrap_succ (show k < 4611686018427387904 by omega)]
            obtain ⟨o, h4, h5⟩ := rOne_loop2P n s hs e i nt out he hi m (k + 1) (by omega) (by omega)
            refine ⟨o, h4, fun α f => ?_⟩
            rw [h5]
            simp only [h1, Bool.false_eq_true, if_false]
            rw [hd, runL, if_neg (by rw [h2, h3]; simp), Nat.add_assoc]
    · have c0' : ¬ ((k : Nat) : Int) < ((e : Nat) : Int) := by omega
      refine ⟨_, by simp only [c0', decide_false, cond_false]; rfl, fun α f => ?_⟩
      have hd : (s.take e).drop k = [] := List.drop_eq_nil_of_le (by rw [List.length_take]; omega)
      rw [hd]
      simp only [Sum.elim_inr, runL, Nat.add_zero, ite_self]
theorem tokP_len : ∀ (l : List UInt8) (i : Nat) (op : Bool) (ws : List Wd), (tokP l i op ws).length ≤ ws.length + l.length
  | [], i, op, ws => by simp [tokP]
  | c :: r, i, op, ws => by
    have ih := fun op ws => tokP_len r (i + 1) op ws
    rw [tokP_cons, List.length_cons]
    split
    · have := ih false (ws ++ [([c], (i : Int))]); simp at this; omega
    · split
      · have := ih false ws; omega
      · split
        · have := ih true (addL ws c)
          have h2 : (addL ws c).length ≤ ws.length := by
            unfold addL
            split
            · rename_i t p h
              have : ws ≠ [] := by rintro rfl; simp at h
              have := List.length_pos_iff.2 this
              simp; omega
            · exact Nat.le_refl _
          omega
        · have := ih true (ws ++ [([c], (i : Int))]); simp at this; omega
theorem rOne_loop1P (n : Nat) (s : List UInt8) (hs : s.length ≤ 1000000) (hn : s.length < n) (e : Nat) (nt : List UInt8) (he : e ≤ s.length) : ∀ (m i : Nat) (out : List Wd), i ≤ e → e - i < m → out.length ≤ i →
    ∃ o, rOne_loop1 n m s (e : Int) (i : Int) nt out = some o ∧ o.1.1 = s ∧ o.1.2.2.1 = (e : Int) ∧ o.2.2.1 = tokP ((s.take e).drop i) i false out
  | 0, i, _, _, h, _ => absurd h (Nat.not_lt_zero _)
  | m + 1, i, out, hi, h, ho => by
    rw [rOne_loop1_succ]
    unfold rOne_l1
    by_cases c0 : i < e
    · have c0' : ((i : Nat) : Int) < ((e : Nat) : Int) := by omega
      have hi' : i < s.length := by omega
      have ih := rOne_loop1P n s hs hn e nt he m
      have hd : (s.take e).drop i = s[i] :: (s.take e).drop (i + 1) := by
        rw [List.drop_eq_getElem_cons (by rw [List.length_take]; omega), List.getElem_take]
      have w1 := wrap_succ (show i < 4611686018427387904 by omega)
      simp only [c0', decide_true, cond_true, sAt_lt hi', Option.bind_some, rBlank_P, letO, w1]
      cases h1 : isB s[i] with
      | true =>
        simp only [cond_true]
        obtain ⟨o, k1, k2, k3, k4⟩ := ih (i + 1) out (by omega) (by omega) (by omega)
        refine ⟨o, k1, k2, k3, ?_⟩
        have hS : ¬ isSgn s[i] = true := fun hh => by
          have h47 : ∀ c : UInt8, isSgn c = true → isB c = true → False := by
            intro c; unfold isSgn isB
            intro a b
            simp at a b; omega
          exact h47 _ hh h1
        rw [k4, hd, tokP_cons, if_neg hS, if_pos h1]
      | false =>
        simp only [cond_false]
        obtain ⟨o, k1, k2⟩ := rOne_loop2P n s hs e i nt out he hi' n (i + 1) (by omega) (by omega)
        generalize hk : (if isSgn s[i] then i + 1 else i + 1 + runL ((s.take e).drop (i + 1)) : Nat) = k at k2
        have hkb : i < k ∧ k ≤ e := by
          have := runL_le ((s.take e).drop (i + 1))
          rw [List.length_drop, List.length_take] at this
          rw [← hk]; split <;> omega
        have hsub : subO s ((i : Nat) : Int) ((k : Nat) : Int) = some ((s.drop i).take (k - i)) := sub_le (by omega) (by omega)
        have ha : appO 24 out [((s.drop i).take (k - i), (i : Int))] = some (out ++ [((s.drop i).take (k - i), (i : Int))]) := app_le (by simp; omega)
        obtain ⟨o', g1, g2, g3, g4⟩ := ih k (out ++ [((s.drop i).take (k - i), (i : Int))]) (by omega) (by omega) (by simp; omega)
        refine ⟨o', ?_, g2, g3, ?_⟩
        · rw [k1, Option.bind_some]
          refine (k2 _ (fun b1 b2 b3 b4 b5 b6 => (subO b1 b3 b4).bind fun s25 => (appO 24 b6 [(s25, b3)]).bind fun l26 => rOne_loop1 n m b1 b2 b4 b5 l26)).trans ?_
          rw [hsub, Option.bind_some, ha, Option.bind_some]
          exact g1
        · rw [g4, hd, tokP_cons]
          by_cases h2 : isSgn s[i] = true
          · rw [if_pos h2] at hk ⊢
            subst hk
            rw [show i + 1 - i = 1 from by omega, List.drop_eq_getElem_cons hi']
            rfl
          · rw [if_neg h2] at hk
            rw [if_neg h2, if_neg (by rw [h1]; simp), if_neg (by simp), tok_run]
            have e1 : ((s.take e).drop (i + 1)).drop (runL ((s.take e).drop (i + 1))) = (s.take e).drop k := by rw [List.drop_drop, hk]
            have e2 : [s[i]] ++ ((s.take e).drop (i + 1)).take (runL ((s.take e).drop (i + 1))) = (s.drop i).take (k - i) := by
              rw [show k - i = runL ((s.take e).drop (i + 1)) + 1 from by omega, List.drop_eq_getElem_cons hi', List.take_succ_cons, List.drop_take, List.take_take]
              have hm : min (runL ((s.take e).drop (i + 1))) (e - (i + 1)) = runL ((s.take e).drop (i + 1)) := by
                have := runL_le ((s.take e).drop (i + 1))
                rw [List.length_drop, List.length_take] at this
                omega
              rw [← List.drop_take, hm]
              rfl
            rw [e1, e2, hk]
    · have c0' : ¬ ((i : Nat) : Int) < ((e : Nat) : Int) := by omega
      refine ⟨_, by simp only [c0', decide_false, cond_false]; rfl, rfl, rfl, ?_⟩
      rw [List.drop_eq_nil_of_le (by rw [List.length_take]; omega)]
      rfl
theorem rOne_loop0P (n : Nat) (s : List UInt8) (hL : s.length ≤ 1000000) (nt : List UInt8) : ∀ m j : Nat, j ≤ s.length → s.length - j < m → rOne_loop0 n m s (j : Int) nt = some (if (s.drop j).all okc then Sum.inr ((s, ((), ())), ((((), nt), ()), ())) else Sum.inl (((), ((9 : Int), ())), ((((), ([] : List UInt8)), ()), ())))
  | 0, j, _, h => absurd h (Nat.not_lt_zero _)
  | m + 1, j, hj, h => by
    rw [rOne_loop0_succ]
    unfold rOne_l0
    by_cases c0 : j < s.length
    · have c0' : ((j : Nat) : Int) < ((s.length : Nat) : Int) := by omega
      have ih := rOne_loop0P n s hL nt m (j + 1) (by omega) (by omega)
      have hd : s.drop j = s[j] :: s.drop (j + 1) := (List.drop_eq_getElem_cons c0)
      simp only [c0', decide_true, cond_true, sAt_lt c0, Option.bind_some, letO, wrap_succ (show j < 4611686018427387904 by omega), ih, hd, List.all_cons, okc]
      generalize decide (((s[j].toNat : Nat) : Int) < 32) = b1
      generalize decide (((s[j].toNat : Nat) : Int) = 9) = b2
      generalize decide ((126 : Int) < ((s[j].toNat : Nat) : Int)) = b3
      cases b1 <;> cases b2 <;> cases b3 <;> simp
    · have c0' : ¬ ((j : Nat) : Int) < ((s.length : Nat) : Int) := by omega
      have : s.drop j = [] := List.drop_eq_nil_of_le (by omega)
      simp [c0', this]
/-- what a line comes to -/
abbrev Ln := List Wd × List UInt8
def oneV (s : List UInt8) : Ln := ((cutP s 0 false []).1, s.drop (cutP s 0 false []).2)
def oneR (s : List UInt8) : Ln × Int := if s.all okc then (oneV s, 0) else (([], []), 9)
theorem lOne_P (n : Nat) (s : List UInt8) (hL : s.length ≤ 1000000) (hn : s.length < n) : lOne_t n s = some (oneR s) := by
  rw [one_P n s hL hn]; rfl
theorem rOne_P (n : Nat) (s : List UInt8) (hL : s.length ≤ 1000000) (hn : s.length < n) : rOne_t n s = some (oneR s) := by
  unfold rOne_t oneR
  have h0 := rOne_loop0P n s hL [] n 0 (Nat.zero_le _) (by omega)
  rw [show ((0 : Nat) : Int) = (0 : Int) from rfl, List.drop_zero] at h0
  rw [h0]
  cases h : s.all okc with
  | false => rfl
  | true =>
    have hle := remP_le s false
    obtain ⟨o, k1, k2, k3, k4⟩ := rOne_loop1P n s hL hn (remP s false) [] hle n 0 [] (Nat.zero_le _) (by omega) (Nat.le_refl _)
    rw [show ((0 : Nat) : Int) = (0 : Int) from rfl] at k1
    simp only [if_true, Option.bind_some, Sum.elim_inr, remark_P n s hL hn, k1, k2, k3]
    rw [sub_le hle (Nat.le_refl _), Option.bind_some, k4, List.take_of_length_le (l := s.drop (remP s false)) (by rw [List.length_drop]; omega)]
    unfold oneV
    rw [cutP_tok s 0 false [], List.drop_zero, Nat.zero_add]
theorem oneV_len (s : List UInt8) : (oneV s).1.length ≤ s.length ∧ (oneV s).2.length ≤ s.length := by
  unfold oneV
  rw [cutP_tok]
  have := tokP_len (s.take (remP s false)) 0 false []
  rw [List.length_take, List.length_nil] at this
  refine ⟨?_, ?_⟩
  · show (tokP (s.take (remP s false)) 0 false []).length ≤ _; omega
  · rw [List.length_drop]; omega
/-! lines -/
def endsN (s : List UInt8) : Bool := s.getLast? == some 10
def linesOf (s : List UInt8) : List (List UInt8) := if s = [] then [] else spl 10 [] (if endsN s = true then s.dropLast else s)
theorem TrimSuffix_P (n : Nat) (s : List UInt8) (hs : s.length ≤ 1000000) : TrimSuffix_t n s [10] = some (if endsN s = true then s.dropLast else s) := by
  unfold TrimSuffix_t TrimSuffixI_t HasSuffixI_t endsN
  rcases List.eq_nil_or_concat s with rfl | ⟨m, c, rfl⟩
  · rfl
  · rw [List.concat_eq_append]
    have hl : (m ++ [c]).length = m.length + 1 := by simp
    rw [List.concat_eq_append] at hs
    have h1 : ((([10] : List UInt8).length : Nat) : Int) ≤ (((m ++ [c]).length : Nat) : Int) := by rw [hl]; simp; omega
    have w1 : IntKind.wrap .i64 ((((m ++ [c]).length : Nat) : Int) - ((([10] : List UInt8).length : Nat) : Int)) = ((m.length : Nat) : Int) := by
      rw [hl, show (((m.length + 1 : Nat) : Int) - ((([10] : List UInt8).length : Nat) : Int)) = ((m.length : Nat) : Int) from by simp]; exact wrap_nat (by omega)
    have s1 : subO (m ++ [c]) ((m.length : Nat) : Int) (((m ++ [c]).length : Nat) : Int) = some [c] := by rw [sub_le (by rw [hl]; omega) (Nat.le_refl _), hl]; simp
    have s2 : subO (m ++ [c]) (0 : Int) ((m.length : Nat) : Int) = some m := by rw [sub_zero (by rw [hl]; omega)]; simp
    simp only [h1, decide_true, cond_true, letO, w1, s1, s2, Option.bind_some]
    by_cases hc : c = 10
    · subst hc; simp
    · simp [hc]
theorem lSplit_P (n : Nat) (s : List UInt8) (hs : s.length ≤ 1000000) : lSplit_t n s = some (linesOf s) := by
  unfold lSplit_t linesOf
  by_cases h : s = []
  · simp [h]
  · have h2 : (if endsN s = true then s.dropLast else s).length ≤ s.length := by split <;> simp
    rw [TrimSuffix_P n s hs]
    simp only [h, decide_false, cond_false, Option.bind_some, split_t, if_false]
    rw [if_pos ⟨by omega, by simp⟩, Option.bind_some, splitB_spl]
theorem rSplit5_loop (n : Nat) (s : List UInt8) (c : UInt8) (hs : s.length ≤ 1000000) : ∀ (m i fr : Nat) (out : List (List UInt8)), i ≤ s.length → s.length - i + 1 < m → fr ≤ i → out.length ≤ i →
    rSplit5_loop0 n m s ((c.toNat : Nat) : Int) (fr : Int) (i : Int) out = some (((), ()), ((), (out ++ spl c ((s.drop fr).take (i - fr)) (s.drop i), ())))
  | 0, i, fr, _, _, h, _, _ => absurd h (Nat.not_lt_zero _)
  | m + 1, i, fr, out, hi, h, hf, ho => by
    rw [rSplit5_loop0_succ]
    unfold rSplit5_l0
    have c0 : ((i : Nat) : Int) ≤ ((s.length : Nat) : Int) := by omega
    have w1 := wrap_succ (show i < 4611686018427387904 by omega)
    have s1 : subO s ((fr : Nat) : Int) ((i : Nat) : Int) = some ((s.drop fr).take (i - fr)) := sub_le hf hi
    have a1 : appO 16 out [(s.drop fr).take (i - fr)] = some (out ++ [(s.drop fr).take (i - fr)]) := app_le (by simp; omega)
    by_cases c1 : i = s.length
    · have c1' : ((i : Nat) : Int) = ((s.length : Nat) : Int) := by omega
      have hd : s.drop i = [] := List.drop_eq_nil_of_le (by omega)
      simp only [c0, c1', decide_true, cond_true]
      rw [← c1', s1, Option.bind_some, a1, Option.bind_some, hd]
      simp only [letO, w1]
      cases m with
      | zero => omega
      | succ m =>
        rw [rSplit5_loop0_succ]
        unfold rSplit5_l0
        have c2 : ¬ ((i + 1 : Nat) : Int) ≤ ((s.length : Nat) : Int) := by omega
        simp only [c2, Int.le_refl, decide_true, decide_false, cond_true, cond_false]
        rfl
    · have c1' : ¬ ((i : Nat) : Int) = ((s.length : Nat) : Int) := by omega
      have hi' : i < s.length := by omega
      have hd : s.drop i = s[i] :: s.drop (i + 1) := List.drop_eq_getElem_cons hi'
      simp only [c0, c1', decide_true, decide_false, cond_true, cond_false, sAt_lt hi', Option.bind_some, letO, w1, s1, a1]
      have hc : decide (((s[i].toNat : Nat) : Int) = ((c.toNat : Nat) : Int)) = decide (s[i] = c) := by
        apply decide_eq_decide.2
        constructor
        · intro hh; exact UInt8.toNat_inj.1 (by omega)
        · intro hh; rw [hh]
      rw [hc, hd, spl]
      by_cases c2 : s[i] = c
      · simp only [c2, decide_true, cond_true, if_true]
        rw [rSplit5_loop n s c hs m (i + 1) (i + 1) (out ++ [(s.drop fr).take (i - fr)]) (by omega) (by omega) (Nat.le_refl _) (by simp; omega)]
        simp
      · simp only [c2, decide_false, cond_false, if_false]
        rw [rSplit5_loop n s c hs m (i + 1) fr out (by omega) (by omega) (by omega) (by omega)]
        have e1 : (s.drop fr).take (i + 1 - fr) = (s.drop fr).take (i - fr) ++ [s[i]] := by
          rw [show i + 1 - fr = (i - fr) + 1 from by omega, List.take_add_one, List.getElem?_drop, show fr + (i - fr) = i from by omega, List.getElem?_eq_getElem hi']
          rfl
        rw [e1]
theorem rSplit5_P (n : Nat) (s : List UInt8) (c : UInt8) (hs : s.length ≤ 1000000) (hn : s.length + 1 < n) : rSplit5_t n s ((c.toNat : Nat) : Int) = some (spl c [] s) := by
  unfold rSplit5_t
  have h := rSplit5_loop n s c hs n 0 0 [] (Nat.zero_le _) (by omega) (Nat.le_refl _) (Nat.zero_le _)
  rw [show ((0 : Nat) : Int) = (0 : Int) from rfl] at h
  rw [h]
  simp
theorem rSplit_P (n : Nat) (s : List UInt8) (hs : s.length ≤ 100000) (hn : s.length + 1 < n) : rSplit_t n s = some (linesOf s) := by
  unfold rSplit_t
  have h5 := rSplit5_P n s 10 (by omega) hn
  rw [show (((10 : UInt8).toNat : Nat) : Int) = (10 : Int) from rfl] at h5
  rw [h5, Option.bind_some]
  obtain ⟨t, x, h1, h2⟩ := spl_last 10 s []
  have hl := (spl_len 10 s []).2
  rw [h1] at hl ⊢
  have hl2 : (t ++ [x]).length = t.length + 1 := by simp
  have w1 : IntKind.wrap .i64 ((((t ++ [x]).length : Nat) : Int) - 1) = ((t.length : Nat) : Int) := by
    rw [hl2, show (((t.length + 1 : Nat) : Int) - 1) = ((t.length : Nat) : Int) from by omega]; exact wrap_nat (by omega)
  have g : t.length < (t ++ [x]).length := by omega
  have ge : (t ++ [x])[t.length]'g = x := by simp
  have s1 : subO (t ++ [x]) (0 : Int) ((t.length : Nat) : Int) = some t := by rw [sub_zero (by omega)]; simp
  simp only [letO, w1, idx_lt g, ge, Option.bind_some, s1]
  unfold linesOf
  by_cases hx : x = []
  · simp only [hx, decide_true, cond_true]
    rcases h2.1 hx with ⟨_, rfl⟩ | ⟨m, rfl⟩
    · simp [spl] at h1
      have : t = [] := by
        cases t with
        | nil => rfl
        | cons a t => simp at h1
      rw [this]; rfl
    · rw [if_neg (by simp)]
      have he : endsN (m ++ [10]) = true := by simp [endsN]
      rw [if_pos he, List.dropLast_concat]
      rw [spl_at, hx] at h1
      exact congrArg some (List.append_cancel_right h1).symm
  · simp only [hx, decide_false, cond_false]
    have hs0 : s ≠ [] := fun e => hx (h2.2 (Or.inl ⟨rfl, e⟩))
    have he : endsN s = false := by
      cases hh : endsN s with
      | false => rfl
      | true =>
        rcases List.eq_nil_or_concat s with rfl | ⟨m, c, rfl⟩
        · exact absurd rfl hs0
        · rw [List.concat_eq_append] at hh
          simp [endsN] at hh
          exact absurd (h2.2 (Or.inr ⟨m, by rw [hh, List.concat_eq_append]⟩)) hx
    rw [if_neg hs0, he]
    simp only [Bool.false_eq_true, if_false]
    rw [h1]
theorem linesOf_len (s : List UInt8) : (linesOf s).length ≤ s.length + 1 ∧ ∀ x ∈ linesOf s, x.length ≤ s.length := by
  unfold linesOf
  split
  · exact ⟨by simp, fun x h => by cases h⟩
  · have h2 : (if endsN s = true then s.dropLast else s).length ≤ s.length := by split <;> simp
    refine ⟨by have := (spl_len 10 (if endsN s = true then s.dropLast else s) []).2; omega, fun x hx => ?_⟩
    have := spl_mem 10 _ _ x hx
    simp at this
    omega
end Go.Proofs.YtchkajkbelhfgaaDoor.AM
