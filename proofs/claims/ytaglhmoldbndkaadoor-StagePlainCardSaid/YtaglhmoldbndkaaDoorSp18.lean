/- One text of StaP, StaQ, StaR (mk/pack.py). -/
import Derived.Test.YtaglhmoldbndkaaDoorSp17
import Derived.Test.YtaglhmoldbndkaaDoorSp8
/- Layer 20: what stage's functions come to. -/
namespace Go.Proofs.YtaglhmoldbndkaaDoor.AM
open Go.RowKit
set_option linter.unusedVariables false
set_option linter.unusedSimpArgs false
theorem index_loop (n : Nat) (l : List (List UInt8)) (x : List UInt8) (hL : l.length ≤ 1000000) : ∀ (m j : Nat), j ≤ l.length → l.length - j < m →
    ∃ o, slIndex_loop0 n m l x ((l.length : Nat) : Int) (j : Int) = some o ∧ ((x ∈ l.drop j ∧ ∃ k : Nat, o = Sum.inl (((k : Int), ()), ((), ()))) ∨ (x ∉ l.drop j ∧ o = Sum.inr ((), ((), ()))))
  | 0, j, _, h => absurd h (Nat.not_lt_zero _)
  | m + 1, j, hj, h => by
    rw [slIndex_loop0_succ]
    unfold slIndex_l0
    by_cases c : j < l.length
    · rw [decide_eq_true (by omega), cond_true, idx_lt c, Option.bind_some, List.drop_eq_getElem_cons c]
      by_cases d : x = l[j]
      · rw [decide_eq_true d, cond_true]
        exact ⟨_, rfl, .inl ⟨by rw [d]; exact List.mem_cons_self .., j, rfl⟩⟩
      · rw [decide_eq_false d, cond_false, wrap_succ (by omega), letO_some]
        obtain ⟨o, h1, h2⟩ := index_loop n l x hL m (j + 1) (by omega) (by omega)
        refine ⟨o, h1, ?_⟩
        rcases h2 with ⟨h3, h4⟩ | ⟨h3, h4⟩
        · exact .inl ⟨List.mem_cons_of_mem _ h3, h4⟩
        · exact .inr ⟨fun h5 => (List.mem_cons.1 h5).elim d h3, h4⟩
    · obtain rfl : j = l.length := by omega
      rw [decide_eq_false (by omega), cond_false, List.drop_length]
      exact ⟨_, rfl, .inr ⟨by simp, rfl⟩⟩
theorem slContains_spec (n : Nat) (l : List (List UInt8)) (x : List UInt8) (hL : l.length ≤ 1000000) (hn : l.length < n) : slContains_t n l x = some (decide (x ∈ l)) := by
  unfold slContains_t slIndex_t
  obtain ⟨o, h1, h2⟩ := index_loop n l x hL n 0 (Nat.zero_le _) (by omega)
  rw [show ((0 : Nat) : Int) = (0 : Int) from rfl] at h1
  rw [List.drop_zero] at h2
  rw [h1, Option.bind_some]
  rcases h2 with ⟨h3, k, rfl⟩ | ⟨h3, rfl⟩
  · rw [decide_eq_true h3]
    show some (decide ((0 : Int) ≤ (k : Int))) = _
    rw [decide_eq_true (by omega)]
  · rw [decide_eq_false h3]
    rfl
theorem sIs_spec (n : Nat) (o : OD) (ps : List (List UInt8)) (hp : ps.length ≤ 100) (hn : 1000 ≤ n) : sIs_t n o () ps = some (decide (o.2.1 ∈ ps), ((ps, ()), ())) := by
  unfold sIs_t
  rw [slContains_spec n ps o.2.1 (by omega) (by omega), Option.bind_some]
def hitP (ps : List (List UInt8)) (o : OD) : Bool := decide (o.2.1 ∈ ps)
theorem ixOp_loopP (n : Nat) (ops : List OD) (ps : List (List UInt8)) (hl : ops.length ≤ 1000000) (hp : ps.length ≤ 100) (hn : 1000 ≤ n) : ∀ (m i : Nat), i ≤ ops.length → ops.length - i < m →
    ((ops.drop i).any (hitP ps) = true ∧ ∃ k : Nat, ixOp_loop0 n m ops ((ops.length : Nat) : Int) (i : Int) ps = some (Sum.inl (((k : Int), ()), ((ps, ()), ())))) ∨
    ((ops.drop i).any (hitP ps) = false ∧ ixOp_loop0 n m ops ((ops.length : Nat) : Int) (i : Int) ps = some (Sum.inr ((), ((ps, ()), ()))))
  | 0, i, hi, hm => absurd hm (Nat.not_lt_zero _)
  | m + 1, i, hi, hm => by
    rw [ixOp_loop0_succ]
    unfold ixOp_l0
    by_cases hil : i < ops.length
    · have h1 : (i : Int) < ((ops.length : Nat) : Int) := by omega
      rw [decide_eq_true h1, cond_true, idx_lt hil, Option.bind_some, sIs_spec n _ ps hp hn, Option.bind_some, List.drop_eq_getElem_cons hil, List.any_cons]
      by_cases hx : ops[i].2.1 ∈ ps
      · have e : hitP ps ops[i] = true := decide_eq_true hx
        rw [decide_eq_true hx, e]
        exact Or.inl ⟨rfl, i, rfl⟩
      · have e : hitP ps ops[i] = false := decide_eq_false hx
        rw [decide_eq_false hx, e, Bool.false_or]
        show (_ ∧ ∃ k : Nat, (letO (IntKind.wrap .i64 ((i : Int) + 1)) fun n3 => ixOp_loop0 n m ops ((ops.length : Nat) : Int) n3 ps) = _) ∨ (_ ∧ (letO (IntKind.wrap .i64 ((i : Int) + 1)) fun n3 => ixOp_loop0 n m ops ((ops.length : Nat) : Int) n3 ps) = _)
        rw [wrap_succ (by omega)]
        exact ixOp_loopP n ops ps hl hp hn m (i + 1) hil (by omega)
    · have h1 : ¬ (i : Int) < ((ops.length : Nat) : Int) := by omega
      rw [decide_eq_false h1, cond_false, List.drop_of_length_le (by omega)]
      exact Or.inr ⟨rfl, rfl⟩
theorem ctOp_spec (n : Nat) (ops : List OD) (ps : List (List UInt8)) (hl : ops.length ≤ 1000000) (hp : ps.length ≤ 100) (hn : 1000 ≤ n) (hn2 : ops.length < n) : ctOp_t n ops () ps = some (ops.any (hitP ps), ((ps, ()), ())) := by
  unfold ctOp_t ixOp_t
  rcases ixOp_loopP n ops ps hl hp hn n 0 (Nat.zero_le _) (by omega) with ⟨h1, k, h2⟩ | ⟨h1, h2⟩
  · have h2' : ixOp_loop0 n n ops ((ops.length : Nat) : Int) (0 : Int) ps = _ := h2
    rw [List.drop_zero] at h1
    rw [h2', h1, Option.bind_some]
    show some (decide ((0 : Int) ≤ (k : Int)), _) = _
    rw [decide_eq_true (by omega)]
  · have h2' : ixOp_loop0 n n ops ((ops.length : Nat) : Int) (0 : Int) ps = _ := h2
    rw [List.drop_zero] at h1
    rw [h2', h1, Option.bind_some]
    rfl
theorem intent_spec (n : Nat) (l : List FD) (hl : l.length ≤ 1000) (hn : 2000 ≤ n) : sIntent_t n l = some (intentS l) := by
  unfold sIntent_t intentS
  have e : fGet_t n l ([46, 105, 110, 116, 101, 110, 116] : List UInt8) = some (getS l itS) := fGet_spec n l itS (by omega) (by omega)
  rw [fMay_spec n l (by omega) (by omega), Option.bind_some, e]
  cases mayS l with
  | false => rfl
  | true =>
    simp only [Bool.not_true, cond_false, Option.bind_some, if_true]
    cases (getS l itS).2 <;> rfl
theorem intent_cases (l : List FD) : (intentS l).2 = 0 ∨ (intentS l).2 = 5 ∨ (intentS l).2 = 1 := by
  unfold intentS
  split
  · split
    · exact Or.inl rfl
    · exact Or.inr (Or.inl rfl)
  · exact Or.inr (Or.inr rfl)
theorem judge_spec (n : Nat) (l : List FD) (ops : List OD) (ps : List (List UInt8)) (hl : l.length ≤ 1000) (ho : ops.length ≤ 100000) (hp : ps.length ≤ 100) (hn : 2000 ≤ n) (hn2 : ops.length < n) : sJudge_t n l ops () ps = some (judgeS l ops ps, ((ps, ()), ())) := by
  unfold sJudge_t judgeS
  rw [intent_spec n l hl hn, Option.bind_some]
  have hc := intent_cases l
  generalize intentS l = r at hc ⊢
  obtain ⟨d, c⟩ := r
  simp only at hc ⊢
  rcases hc with rfl | rfl | rfl
  · rfl
  · have e : fApply_t l ops = some (appS l ops) := if_pos ⟨by omega, by omega⟩
    rw [ctOp_spec n ops ps (by omega) hp (by omega) hn2, e]
    simp only [Option.bind_some]
    show (bif decide ((5 : Int) = 0) then _ else bif !decide ((5 : Int) = 5) then _ else bif ops.any (hitP ps) then _ else _) = some ((if (5 : Int) = 0 then 14 else if (5 : Int) ≠ 5 then 5 else if (ops.any (hitP ps)) = true then 6 else (appS l ops).2), _)
    cases ops.any (hitP ps) <;> rfl
  · rfl
theorem begin_spec (n : Nat) (l : List FD) (ops : List OD) (hl : l.length ≤ 1000) (ho : ops.length ≤ 1000) (hs : ∀ o ∈ ops, o.2.1.length ≤ 10000 ∧ o.2.2.length ≤ 10000) (hn : 2000 ≤ n) : sBegin_t n l ops = some (beginS l ops) := by
  unfold sBegin_t beginS
  have e1 : sOwn_t n ([([46, 105, 110, 116, 101, 110, 116] : List UInt8)] : List (List UInt8)) = some ((), (([itS], ()), ())) := rfl
  have e2 : fEnc_t ops = some (encS ops) := if_pos (List.all_eq_true.2 fun o h => by have := hs o h; simp; omega)
  rw [e1, Option.bind_some]
  show (sJudge_t n l ops () [itS]).bind _ = _
  rw [judge_spec n l ops [itS] hl (by omega) (by decide) hn (by omega), Option.bind_some, e2]
  simp only [Option.bind_some]
  generalize judgeS l ops [itS] = c
  generalize encS ops = r
  obtain ⟨s, q⟩ := r
  by_cases h1 : c = 0
  · subst h1
    by_cases h2 : q = 0
    · subst h2; rfl
    · simp [h2]
  · simp [h1]
theorem allowed_spec (n : Nat) (l : List FD) (ops : List OD) (hl : l.length ≤ 1000) (ho : ops.length ≤ 1000) (hn : 2000 ≤ n) : sAllowed_t n l ops = some (judgeS l ops [itS, ledS]) := by
  unfold sAllowed_t
  have e1 : sOwn_t n ([([46, 105, 110, 116, 101, 110, 116] : List UInt8), ([108, 101, 100, 103, 101, 114, 46, 116, 120, 116] : List UInt8)] : List (List UInt8)) = some ((), (([itS, ledS], ()), ())) := rfl
  rw [e1, Option.bind_some]
  show (sJudge_t n l ops () [itS, ledS]).bind _ = _
  rw [judge_spec n l ops [itS, ledS] hl (by omega) (by decide) hn (by omega), Option.bind_some]
theorem undo_spec (n : Nat) (l : List FD) (hl : l.length ≤ 1000) (hn : 2000 ≤ n) : sUndo_t n l = some (undoS l) := by
  unfold sUndo_t undoS
  rw [intent_spec n l hl hn, Option.bind_some]
  generalize intentS l = r
  obtain ⟨s, q⟩ := r
  by_cases h2 : q = 0
  · subst h2; rfl
  · simp [h2]
/-- files of which none is too long to be read as ops -/
def Sh5 (l : List FD) : Prop := l.length ≤ 1000 ∧ ∀ f ∈ l, f.1.length ≤ 10000 ∧ f.2.length ≤ 5000
theorem get_short {l : List FD} (h : ∀ f ∈ l, f.2.length ≤ 5000) (p : List UInt8) : (getS l p).1.length ≤ 5000 := by
  induction l with
  | nil => exact Nat.zero_le _
  | cons x l ih =>
    by_cases hx : x.1 = p
    · subst hx
      rw [get_head]; exact h x (List.mem_cons_self ..)
    · rw [get_skip hx]; exact ih fun f hf => h f (List.mem_cons_of_mem _ hf)
theorem intent_short {l : List FD} (h : Sh5 l) : (intentS l).1.length ≤ 5000 := by
  unfold intentS
  split
  · split
    · exact get_short (fun f hf => (h.2 f hf).2) itS
    · exact Nat.zero_le _
  · exact Nat.zero_le _
theorem dec_lenS (s : List UInt8) : (decS s).1.length ≤ s.length ∧ ∀ o ∈ (decS s).1, o.2.1.length ≤ s.length ∧ o.2.2.length ≤ s.length := by
  unfold decS
  split
  · rename_i out h
    have hm := parse_mem _ _ _ h
    split
    · exact hm
    · exact ⟨Nat.zero_le _, fun o ho => by cases ho⟩
  · exact ⟨Nat.zero_le _, fun o ho => by cases ho⟩
theorem pend_len {l : List FD} (h : Sh5 l) : (pendS l).1.length ≤ 5000 ∧ ∀ o ∈ (pendS l).1, o.2.1.length ≤ 5000 ∧ o.2.2.length ≤ 5000 := by
  have hs := intent_short h
  unfold pendS
  split
  · exact ⟨Nat.zero_le _, fun o ho => by cases ho⟩
  · obtain ⟨h1, h2⟩ := dec_lenS (intentS l).1
    exact ⟨by omega, fun o ho => by have := h2 o ho; omega⟩
theorem pend_spec (n : Nat) (l : List FD) (h : Sh5 l) (hn : 2000 ≤ n) : sPending_t n l = some (pendS l) := by
  unfold sPending_t pendS
  rw [intent_spec n l h.1 hn, Option.bind_some]
  have hs := intent_short h
  generalize intentS l = r at hs ⊢
  obtain ⟨s, q⟩ := r
  have e : fDec_t s = some (decS s) := if_pos (by simp only at hs; omega)
  by_cases h2 : q = 0
  · subst h2
    show (fDec_t s).bind _ = _
    rw [e]; rfl
  · simp [h2]
theorem pendX_spec (n : Nat) (l : List FD) (h : Sh5 l) (hn : 2000 ≤ n) : sPendX_t n l = some (((), (pendS l).2), ((), ((pendS l).1, ()))) := by
  unfold sPendX_t pendS
  rw [intent_spec n l h.1 hn, Option.bind_some]
  have hs := intent_short h
  generalize intentS l = r at hs ⊢
  obtain ⟨s, q⟩ := r
  have e : fDecX_t s = some (((), (decS s).2), ((), ((decS s).1, ()))) := if_pos (by simp only at hs; omega)
  by_cases h2 : q = 0
  · subst h2
    show (fDecX_t s).bind _ = _
    rw [e]; rfl
  · simp [h2]
theorem fin_spec (n : Nat) (l : List FD) (h : Sh5 l) (hn : 2000 ≤ n) : sFinish_t n l = some (finS l) := by
  unfold sFinish_t finS
  rw [pendX_spec n l h hn, Option.bind_some]
  obtain ⟨h1, h2⟩ := pend_len h
  generalize pendS l = r at h1 h2 ⊢
  obtain ⟨ops, q⟩ := r
  simp only at h1 h2 ⊢
  by_cases hq : q = 0
  · subst hq
    have e1 : sEnd_t n = some endO := rfl
    have e2 : appO 40 ops [endO] = some (ops ++ [endO]) := app40 (by omega) endO
    have e3 : fApply_t l (ops ++ [endO]) = some (appS l (ops ++ [endO])) := if_pos ⟨by have := h.1; omega, by simp; omega⟩
    simp only [decide_true, Bool.not_true, cond_false, ne_eq, not_true_eq_false, if_false]
    rw [e1, Option.bind_some, e2, Option.bind_some, e3, Option.bind_some]
    generalize appS l (ops ++ [endO]) = z
    obtain ⟨a, b⟩ := z
    by_cases hb : b = 0
    · subst hb; rfl
    · simp [hb]
  · simp [hq]
theorem seen_spec (l : List FD) (hl : l.length ≤ 1000) : sSeen_t l = some (seeS l) := if_pos (by omega)
end Go.Proofs.YtaglhmoldbndkaaDoor.AM

/- Layer 20: the document's answers; the laws. -/
namespace Go.Proofs.YtaglhmoldbndkaaDoor.AM
open Go.RowKit
set_option linter.unusedVariables false
set_option linter.unusedSimpArgs false
/-! the document's -/
theorem has_loopP (n : Nat) (ops : List OD) (p : List UInt8) (hl : ops.length ≤ 1000000) : ∀ (m i : Nat), i ≤ ops.length → ops.length - i < m →
    ((ops.drop i).any (fun o => decide (o.2.1 = p)) = true ∧ q20has_loop0 n m ops p (i : Int) = some (Sum.inl ((true, ()), ((), ())))) ∨
    ((ops.drop i).any (fun o => decide (o.2.1 = p)) = false ∧ q20has_loop0 n m ops p (i : Int) = some (Sum.inr ((), ((), ()))))
  | 0, i, hi, hm => absurd hm (Nat.not_lt_zero _)
  | m + 1, i, hi, hm => by
    rw [q20has_loop0_succ]
    unfold q20has_l0
    by_cases hil : i < ops.length
    · have h1 : (i : Int) < ((ops.length : Nat) : Int) := by omega
      rw [decide_eq_true h1, cond_true, idx_lt hil, Option.bind_some, List.drop_eq_getElem_cons hil, List.any_cons]
      by_cases hx : ops[i].2.1 = p
      · rw [decide_eq_true hx]
        exact Or.inl ⟨rfl, rfl⟩
      · rw [decide_eq_false hx, Bool.false_or]
        show (_ ∧ (letO (IntKind.wrap .i64 ((i : Int) + 1)) fun n3 => q20has_loop0 n m ops p n3) = _) ∨ (_ ∧ (letO (IntKind.wrap .i64 ((i : Int) + 1)) fun n3 => q20has_loop0 n m ops p n3) = _)
        rw [wrap_succ (by omega)]
        exact has_loopP n ops p hl m (i + 1) hil (by omega)
    · have h1 : ¬ (i : Int) < ((ops.length : Nat) : Int) := by omega
      rw [decide_eq_false h1, cond_false, List.drop_of_length_le (by omega)]
      exact Or.inr ⟨rfl, rfl⟩
theorem has_spec (n : Nat) (ops : List OD) (p : List UInt8) (hl : ops.length ≤ 1000000) (hn : ops.length < n) : q20has_t n ops p = some (ops.any fun o => decide (o.2.1 = p)) := by
  unfold q20has_t
  rcases has_loopP n ops p hl n 0 (Nat.zero_le _) (by omega) with ⟨h1, h2⟩ | ⟨h1, h2⟩
  · have h2' : q20has_loop0 n n ops p (0 : Int) = _ := h2
    rw [List.drop_zero] at h1
    rw [h2', h1]; rfl
  · have h2' : q20has_loop0 n n ops p (0 : Int) = _ := h2
    rw [List.drop_zero] at h1
    rw [h2', h1]; rfl
theorem any_one (ops : List OD) : (ops.any fun o => decide (o.2.1 ∈ [itS])) = ops.any fun o => decide (o.2.1 = itS) := by
  congr 1; funext o; simp only [List.mem_singleton]
theorem any_two (ops : List OD) : (ops.any fun o => decide (o.2.1 ∈ [itS, ledS])) = ((ops.any fun o => decide (o.2.1 = itS)) || ops.any fun o => decide (o.2.1 = ledS)) := by
  induction ops with
  | nil => rfl
  | cons o t ih =>
    rw [List.any_cons, List.any_cons, List.any_cons, ih]
    have e : decide (o.2.1 ∈ [itS, ledS]) = (decide (o.2.1 = itS) || decide (o.2.1 = ledS)) := by
      simp only [List.mem_cons, List.not_mem_nil, or_false, Bool.decide_or]
    rw [e]
    generalize decide (o.2.1 = itS) = a
    generalize decide (o.2.1 = ledS) = b
    generalize (t.any fun o => decide (o.2.1 = itS)) = c
    generalize (t.any fun o => decide (o.2.1 = ledS)) = d
    revert a b c d; decide
/-- what the ranges of the laws give -/
structure Rg (l : List FD) (ops : List OD) : Prop where
  sh : Sh5 l
  ol : ops.length ≤ 1000
  os : ∀ o ∈ ops, o.2.1.length ≤ 10000 ∧ o.2.2.length ≤ 10000
theorem Sh5.may {l : List FD} (h : mayS l = true) : Sh5 l := by
  obtain ⟨h1, h2, _⟩ := (may_iff l).1 h
  refine ⟨by omega, fun f hf => ?_⟩
  obtain ⟨h3, h4⟩ := okF_parts (h2 f hf)
  have h5 : f.1.length ≤ 60 := by
    unfold pathS at h3
    simp at h3
    exact h3.1
  omega
theorem r5App (n : Nat) (l : List FD) (ops : List OD) (h : Sh5 l) (ho : ops.length ≤ 10000) (hp : ∀ o ∈ ops, o.2.1.length ≤ 1000000) (hn : 1000000 ≤ n) : r5Apply_t n l ops = some (appS l ops) :=
  r5Apply_spec n l ops ho (by have := h.1; omega) (fun f hf => by have := (h.2 f hf).1; omega) hp (by omega) (by omega)
theorem r5May1 (n : Nat) (l : List FD) (h : Sh5 l) (hn : 1000000 ≤ n) : r5May_t n l = some (mayS l) :=
  r5May_spec n l (by have := h.1; omega) (fun f hf => by have := (h.2 f hf).1; omega) (by omega) (by have := h.1; omega)
theorem r5Get1 (n : Nat) (l : List FD) (h : Sh5 l) (hn : 1000000 ≤ n) : r5Get_t n l ([46, 105, 110, 116, 101, 110, 116] : List UInt8) = some (getS l itS) :=
  r5Get_spec n l itS (by have := h.1; omega) (by have := h.1; omega)
theorem qPend_spec (n : Nat) (l : List FD) (h : Sh5 l) (hn : 1000000 ≤ n) : q20Pending_t n l = some (pendS l) := by
  have e2 : r5Decode_t n (getS l itS).1 = some (decS (getS l itS).1) := by
    have := get_short (fun f hf => (h.2 f hf).2) itS
    exact r5Decode_spec n _ (by omega) (by omega) (by omega)
  unfold q20Pending_t pendS intentS
  rw [r5May1 n l h hn, Option.bind_some, r5Get1 n l h hn]
  cases mayS l with
  | false => rfl
  | true =>
    simp only [Bool.not_true, cond_false, Option.bind_some, if_true]
    generalize getS l itS = r at e2 ⊢
    obtain ⟨s, b⟩ := r
    cases b with
    | false => rfl
    | true =>
      simp only at e2
      simp only [Bool.not_true, cond_false, if_true, e2, Option.bind_some, ne_eq, not_true_eq_false, if_false]
theorem qUndo_spec (n : Nat) (l : List FD) (h : Sh5 l) (hn : 1000000 ≤ n) : q20Undo_t n l = some (undoS l) := by
  unfold q20Undo_t undoS intentS
  rw [r5May1 n l h hn, Option.bind_some, r5Get1 n l h hn]
  cases mayS l with
  | false => rfl
  | true =>
    simp only [Bool.not_true, cond_false, Option.bind_some, if_true]
    cases (getS l itS).2 <;> rfl
theorem qAllowed_spec (n : Nat) (l : List FD) (ops : List OD) (h : Rg l ops) (hn : 1000000 ≤ n) : q20Allowed_t n l ops = some (judgeS l ops [itS, ledS]) := by
  have hp : ∀ o ∈ ops, o.2.1.length ≤ 1000000 := fun o ho => by have := (h.os o ho).1; omega
  have e1 : q20has_t n ops ([46, 105, 110, 116, 101, 110, 116] : List UInt8) = some (ops.any fun o => decide (o.2.1 = itS)) := has_spec n ops itS (by have := h.ol; omega) (by have := h.ol; omega)
  have e2 : q20has_t n ops ([108, 101, 100, 103, 101, 114, 46, 116, 120, 116] : List UInt8) = some (ops.any fun o => decide (o.2.1 = ledS)) := has_spec n ops ledS (by have := h.ol; omega) (by have := h.ol; omega)
  unfold q20Allowed_t judgeS intentS
  rw [r5May1 n l h.sh hn, Option.bind_some, r5Get1 n l h.sh hn, e1, e2, r5App n l ops h.sh (by have := h.ol; omega) hp hn, any_two]
  cases mayS l with
  | false => rfl
  | true =>
    simp only [Bool.not_true, cond_false, Option.bind_some, if_true]
    cases (getS l itS).2 with
    | true => rfl
    | false =>
      cases (ops.any fun o => decide (o.2.1 = itS)) <;> cases (ops.any fun o => decide (o.2.1 = ledS)) <;> rfl
theorem qBegin_spec (n : Nat) (l : List FD) (ops : List OD) (h : Rg l ops) (hn : 1000000 ≤ n) : q20Begin_t n l ops = some (beginS l ops) := by
  have hp : ∀ o ∈ ops, o.2.1.length ≤ 1000000 := fun o ho => by have := (h.os o ho).1; omega
  have e1 : q20has_t n ops ([46, 105, 110, 116, 101, 110, 116] : List UInt8) = some (ops.any fun o => decide (o.2.1 = itS)) := has_spec n ops itS (by have := h.ol; omega) (by have := h.ol; omega)
  have e3 : r5Encode_t n ops = some (encS ops) := r5Encode_spec n ops (by have := h.ol; omega) (fun o ho => by have := h.os o ho; omega) (by omega) (by have := h.ol; omega)
  unfold q20Begin_t beginS judgeS intentS
  rw [r5May1 n l h.sh hn, Option.bind_some, r5Get1 n l h.sh hn, e1, e3, r5App n l ops h.sh (by have := h.ol; omega) hp hn, any_one]
  cases mayS l with
  | false => rfl
  | true =>
    simp only [Bool.not_true, cond_false, Option.bind_some, if_true]
    cases (getS l itS).2 with
    | true => rfl
    | false =>
      cases (ops.any fun o => decide (o.2.1 = itS)) with
      | true => rfl
      | false =>
        generalize appS l ops = a
        generalize encS ops = b
        obtain ⟨a1, a2⟩ := a
        obtain ⟨b1, b2⟩ := b
        by_cases h1 : a2 = 0
        · subst h1
          by_cases h2 : b2 = 0
          · subst h2; rfl
          · simp [h2]
        · simp [h1]
theorem qFin_spec (n : Nat) (l : List FD) (h : Sh5 l) (hn : 1000000 ≤ n) : q20Finish_t n l = some (finS l) := by
  unfold q20Finish_t finS
  rw [qPend_spec n l h hn, Option.bind_some]
  obtain ⟨h1, h2⟩ := pend_len h
  generalize pendS l = r at h1 h2 ⊢
  obtain ⟨ops, q⟩ := r
  simp only at h1 h2 ⊢
  by_cases hq : q = 0
  · subst hq
    have e0 : appO 40 ([] : List OD) ops = some ops := by
      unfold appO; rw [if_pos (by simp; omega), List.nil_append]
    have e2 : appO 40 ops ([(true, (([46, 105, 110, 116, 101, 110, 116] : List UInt8), ([] : List UInt8)))] : List OD) = some (ops ++ [endO]) := app40 (by omega) endO
    have e3 : r5Apply_t n l (ops ++ [endO]) = some (appS l (ops ++ [endO])) := r5App n l _ h (by simp; omega) (fun o ho => by
      rcases List.mem_append.1 ho with ho | ho
      · have := (h2 o ho).1; omega
      · obtain rfl := List.mem_singleton.1 ho
        show itS.length ≤ 1000000
        decide) hn
    simp only [decide_true, Bool.not_true, cond_false, ne_eq, not_true_eq_false, if_false]
    rw [e0, Option.bind_some, e2, Option.bind_some, e3, Option.bind_some]
    generalize appS l (ops ++ [endO]) = z
    obtain ⟨a, b⟩ := z
    by_cases hb : b = 0
    · subst hb; rfl
    · simp [hb]
  · simp [hq]
theorem qSeen_loop (n : Nat) (l : List FD) (h : Sh5 l) (hn : 1000000 ≤ n) (hm : mayS l = true) : ∀ (m i : Nat) (acc : List FD), i ≤ l.length → l.length - i < m → acc.length ≤ i →
    q20Seen_loop0 n m l (i : Int) acc = some (((), ()), ((), (acc ++ seenL (l.drop i), ())))
  | 0, i, acc, hi, hmm, _ => absurd hmm (Nat.not_lt_zero _)
  | m + 1, i, acc, hi, hmm, ha => by
    rw [q20Seen_loop0_succ]
    unfold q20Seen_l0
    have h1000 := h.1
    by_cases hil : i < l.length
    · have h1 : (i : Int) < ((l.length : Nat) : Int) := by omega
      rw [decide_eq_true h1, cond_true, r5May1 n l h hn, hm, Option.bind_some, cond_true, idx_lt hil, Option.bind_some, List.drop_eq_getElem_cons hil, wrap_succ (by omega)]
      by_cases hx : l[i].1 = itS
      · have e : seenL (l[i] :: l.drop (i + 1)) = seenL (l.drop (i + 1)) := List.filter_cons_of_neg (by simp [hx])
        rw [e, decide_eq_true (show l[i].1 = ([46, 105, 110, 116, 101, 110, 116] : List UInt8) from hx)]
        exact qSeen_loop n l h hn hm m (i + 1) acc hil (by omega) (by omega)
      · have e : seenL (l[i] :: l.drop (i + 1)) = l[i] :: seenL (l.drop (i + 1)) := List.filter_cons_of_pos (by simp [hx])
        rw [e, decide_eq_false (show ¬ l[i].1 = ([46, 105, 110, 116, 101, 110, 116] : List UInt8) from hx), Bool.not_false, cond_true, Option.bind_some, app32 (by omega), Option.bind_some]
        show q20Seen_loop0 n m l ((i + 1 : Nat) : Int) (acc ++ [l[i]]) = _
        rw [qSeen_loop n l h hn hm m (i + 1) _ hil (by omega) (by simp; omega)]
        simp
    · have h1 : ¬ (i : Int) < ((l.length : Nat) : Int) := by omega
      rw [decide_eq_false h1, cond_false, List.drop_of_length_le (by omega)]
      show _ = some (((), ()), ((), (acc ++ [], ())))
      rw [List.append_nil]
theorem qSeen_spec (n : Nat) (l : List FD) (h : Sh5 l) (hn : 1000000 ≤ n) : q20Seen_t n l = some (seeS l) := by
  unfold q20Seen_t seeS
  have h1000 := h.1
  cases hm : mayS l with
  | true =>
    have := qSeen_loop n l h hn hm n 0 [] (Nat.zero_le _) (by omega) (Nat.le_refl _)
    have this' : q20Seen_loop0 n n l (0 : Int) [] = _ := this
    rw [this']; rfl
  | false =>
    obtain ⟨N, rfl⟩ : ∃ N, n = N + 1 := ⟨n - 1, by omega⟩
    rw [q20Seen_loop0_succ]
    unfold q20Seen_l0
    rw [r5May1 (N + 1) l h hn, hm]
    by_cases hil : (0 : Int) < ((l.length : Nat) : Int)
    · rw [decide_eq_true hil]; rfl
    · rw [decide_eq_false hil]; rfl
end Go.Proofs.YtaglhmoldbndkaaDoor.AM

/- Layer 20: the laws. -/
namespace Go.Proofs.YtaglhmoldbndkaaDoor.AM
open Go.RowKit
set_option linter.unusedVariables false
set_option linter.unusedSimpArgs false
abbrev fuel20 : Nat := 9223372036854775808
theorem live20 : l20live_t fuel20 = some true := by decide +kernel
theorem rg_of {l : List FD} {ops : List OD} (hs : smallF l = true) (hf : fewO ops = true) : Rg l ops := by
  obtain ⟨h1, h2⟩ := smallF_ok hs
  obtain ⟨h3, h4⟩ := fewO_ok hf
  exact ⟨⟨by omega, fun f h => by have := h2 f h; omega⟩, by omega, fun o h => by have := h4 o h; omega⟩
theorem begin_len (l : List FD) (ops : List OD) : (beginS l ops).1.length ≤ 1 := by
  unfold beginS
  split
  · exact Nat.zero_le _
  · split
    · exact Nat.zero_le _
    · exact Nat.le_refl _
theorem undo_len (l : List FD) : (undoS l).1.length ≤ 1 := by
  unfold undoS
  split
  · exact Nat.zero_le _
  · exact Nat.le_refl _
theorem fin_len {l : List FD} (h : Sh5 l) : (finS l).1.length ≤ 5001 := by
  have := (pend_len h).1
  unfold finS
  split
  · exact Nat.zero_le _
  · split
    · exact Nat.zero_le _
    · simp; omega
theorem see_len {l : List FD} (h : Sh5 l) : (seeS l).length ≤ 1000 := by
  have := h.1
  unfold seeS
  split
  · exact Nat.le_trans (List.length_filter_le ..) this
  · exact Nat.zero_le _
theorem ops_self (n : Nat) (l : List OD) (hL : l.length ≤ 1000000) (hn : 1000001 ≤ n) : r5Ops_t n l l = some true := by
  rw [r5Ops_spec n l l hL (by omega), decide_eq_true rfl]
theorem same_self (n : Nat) (l : List FD) (hL : l.length ≤ 1000000) (hn : 1000001 ≤ n) : r5Same_t n l l = some true := by
  rw [r5Same_spec n l l hL (by omega), decide_eq_true rfl]
theorem l20Tells_P (n : Nat) (hn : 9223372036854775807 < n) (hv : l20live_t n = some true) (l : List FD) (ops : List OD) (hl : l.length ≤ 9223372036854775807) (ho : ops.length ≤ 9223372036854775807) : l20Tells_t n l ops = some true := by
  unfold l20Tells_t
  rw [r5Small_spec n l hl (by omega), Option.bind_some, r5Few_spec n ops ho (by omega), hv]
  cases hs : smallF l with
  | false => rfl
  | true =>
    cases hf : fewO ops with
    | false => rfl
    | true =>
      have hr := rg_of hs hf
      have h1000 := hr.sh.1
      have hol := hr.ol
      simp only [Bool.not_true, cond_false, Option.bind_some]
      rw [begin_spec n l ops h1000 hol hr.os (by omega), qBegin_spec n l ops hr (by omega), pend_spec n l hr.sh (by omega), qPend_spec n l hr.sh (by omega), fin_spec n l hr.sh (by omega), qFin_spec n l hr.sh (by omega), undo_spec n l h1000 (by omega), qUndo_spec n l hr.sh (by omega),
        seen_spec l h1000, qSeen_spec n l hr.sh (by omega), allowed_spec n l ops h1000 hol (by omega), qAllowed_spec n l ops hr (by omega)]
      simp only [Option.bind_some]
      have a1 := begin_len l ops
      have a2 := (pend_len hr.sh).1
      have a3 := fin_len hr.sh
      have a4 := undo_len l
      have a5 := see_len hr.sh
      rw [ops_self n _ (by omega) (by omega), ops_self n _ (by omega) (by omega), ops_self n _ (by omega) (by omega), ops_self n _ (by omega) (by omega), same_self n _ (by omega) (by omega)]
      simp only [decide_true, Bool.not_true, cond_false, cond_true, Option.bind_some]
theorem begin_cases {l : List FD} {ops : List OD} (h : (beginS l ops).2 = 0) : Free l ops ∧ (encS ops).2 = 0 ∧ beginS l ops = ([(false, (itS, (encS ops).1))], 0) := by
  unfold beginS at h ⊢
  split at h
  · rename_i h1; exact absurd h h1
  rename_i h1
  split at h
  · rename_i h2; exact absurd h h2
  rename_i h2
  have h1' : judgeS l ops [itS] = 0 := by simpa using h1
  have h2' : (encS ops).2 = 0 := by simpa using h2
  rw [if_neg h1, if_neg h2]
  exact ⟨judge_zero (List.mem_singleton.2 rfl) h1', h2', rfl⟩
theorem begin_err {l : List FD} {ops : List OD} (h : (beginS l ops).2 ≠ 0) : (beginS l ops).1 = [] := by
  unfold beginS at h ⊢
  split
  · rfl
  · rename_i h1
    rw [if_neg h1] at h
    split
    · rfl
    · rename_i h2
      rw [if_neg h2] at h
      exact absurd rfl h
theorem free_app {l : List FD} {ops : List OD} (h : Free l ops) : appS l ops = ((appL l ops).1, 0) := by
  unfold appS
  rw [if_pos h.may]
  exact Prod.ext rfl h.ok
/-- where something is staged it's told first -/
theorem judge_it {l k : List FD} {d : List UInt8} (h : Staged l k d) (ops : List OD) (ps : List (List UInt8)) : judgeS k ops ps = 14 := by
  unfold judgeS; rw [intent_it h, if_pos rfl]
theorem begin_it {l k : List FD} {d : List UInt8} (h : Staged l k d) (ops : List OD) : beginS k ops = ([], 14) := by
  unfold beginS; rw [judge_it h, if_pos (by decide)]
theorem undo_it {l k : List FD} {d : List UInt8} (h : Staged l k d) : undoS k = ([endO], 0) := by
  unfold undoS; rw [intent_it h, if_neg (by simp)]
theorem see_it {l k : List FD} {d : List UInt8} (h : Staged l k d) : seeS k = l := by
  unfold seeS; rw [if_pos h.may]; exact h.see
theorem l20Ends_P (n : Nat) (hn : 9223372036854775807 < n) (hv : l20live_t n = some true) (l : List FD) (ops : List OD) (hl : l.length ≤ 9223372036854775807) (ho : ops.length ≤ 9223372036854775807) : l20Ends_t n l ops = some true := by
  unfold l20Ends_t
  rw [r5Small_spec n l hl (by omega), Option.bind_some, r5Few_spec n ops ho (by omega), hv]
  cases hs : smallF l with
  | false => rfl
  | true =>
    cases hf : fewO ops with
    | false => rfl
    | true =>
      have hr := rg_of hs hf
      have h1000 := hr.sh.1
      have hol := hr.ol
      simp only [Bool.not_true, cond_false, Option.bind_some]
      rw [begin_spec n l ops h1000 hol hr.os (by omega), Option.bind_some]
      by_cases hb : (beginS l ops).2 = 0
      · obtain ⟨hfr, henc, hbe⟩ := begin_cases hb
        rw [hbe]
        have hd := enc_len ops
        simp only [decide_true, Bool.not_true, cond_false]
        rw [r5App n l [(false, (itS, (encS ops).1))] hr.sh (by simp) (fun o ho => by obtain rfl := List.mem_singleton.1 ho; show itS.length ≤ 1000000; decide) (by omega), Option.bind_some]
        rcases put_it hfr.may hfr.none hd with ⟨h40, h3⟩ | ⟨h40, h3, hmk⟩
        · have hle := ((may_iff l).1 hfr.may).1
          have hl40 : l.length = 40 := by omega
          rw [h3, hl40]; rfl
        · have hst := staged hfr.may hfr.none hmk
          have hk5 := Sh5.may hmk
          have hfin := fin_of hfr henc hst
          rw [h3]
          have hp : ∀ o ∈ ops, o.2.1.length ≤ 1000000 := fun o ho => by have := (hr.os o ho).1; omega
          simp only [decide_true, Bool.not_true, cond_false]
          generalize insS (itS, (encS ops).1) l = k at *
          rw [r5App n l ops hr.sh (by omega) hp (by omega), Option.bind_some, begin_spec n k ops hk5.1 hol hr.os (by omega), Option.bind_some, begin_it hst, undo_spec n k hk5.1 (by omega), Option.bind_some, undo_it hst,
            r5App n k [endO] hk5 (by simp) (fun o ho => by obtain rfl := List.mem_singleton.1 ho; show itS.length ≤ 1000000; decide) (by omega), Option.bind_some, hst.undo, free_app hfr, same_self n l (by omega) (by omega), seen_spec k hk5.1, see_it hst,
            fin_spec n k hk5 (by omega), allowed_spec n k [] hk5.1 (by simp) (by omega), judge_it hst]
          simp only [decide_true, Bool.not_true, cond_false, Option.bind_some, same_self n l (show l.length ≤ 1000000 by omega) (show 1000001 ≤ n by omega)]
          obtain ⟨hpe, hc⟩ := hfin
          rcases hc with ⟨h5, h6⟩ | h5
          · rw [h5]
            have hlen : (ops ++ [endO]).length ≤ 10000 := by simp; omega
            have hp2 : ∀ o ∈ ops ++ [endO], o.2.1.length ≤ 1000000 := fun o ho => by
              rcases List.mem_append.1 ho with ho | ho
              · exact hp o ho
              · obtain rfl := List.mem_singleton.1 ho
                show itS.length ≤ 1000000
                decide
            have hw : (appL l ops).1.length ≤ 1000000 := by
              have := app_len (a := l) (ops := ops)
              rw [free_app hfr] at this
              simp only at this
              omega
            simp only [decide_true, Bool.not_true, cond_false, r5App n k _ hk5 hlen hp2 (show 1000000 ≤ n by omega), h6, Option.bind_some, cond_true, same_self n _ hw (show 1000001 ≤ n by omega)]
          · rw [h5]; rfl
      · rw [begin_err hb]
        generalize (beginS l ops).2 = c at hb
        simp [hb]
theorem l20Keeps_P (n : Nat) (hn : 9223372036854775807 < n) (hv : l20live_t n = some true) (l : List FD) (ops : List OD) (hl : l.length ≤ 9223372036854775807) (ho : ops.length ≤ 9223372036854775807) : l20Keeps_t n l ops = some true := by
  unfold l20Keeps_t
  rw [r5Small_spec n l hl (by omega), Option.bind_some, r5Few_spec n ops ho (by omega), hv]
  cases hs : smallF l with
  | false => rfl
  | true =>
    cases hf : fewO ops with
    | false => rfl
    | true =>
      have hr := rg_of hs hf
      have h1000 := hr.sh.1
      have hol := hr.ol
      have hp : ∀ o ∈ ops, o.2.1.length ≤ 1000000 := fun o ho => by have := (hr.os o ho).1; omega
      simp only [Bool.not_true, cond_false, Option.bind_some]
      rw [allowed_spec n l ops h1000 hol (by omega), Option.bind_some, pend_spec n l hr.sh (by omega), Option.bind_some]
      by_cases hj : judgeS l ops [itS, ledS] = 0
      · have hfr := judge_zero (by simp) hj
        have hkeep := app_keep (q := itS) ops ((may_iff l).1 hfr.may).2.2 hfr.path hfr.ok
        have hmk := app_may ops hfr.may hfr.ok
        have hk5 := Sh5.may hmk
        have hnk : (getS (appL l ops).1 itS).2 = false := by rw [hkeep.1]; exact hfr.none
        have hpl : pendS l = ([], 5) := by unfold pendS; rw [intent_none hfr.may hfr.none, if_pos (by simp)]
        have hpk : pendS (appL l ops).1 = ([], 5) := by unfold pendS; rw [intent_none hmk hnk, if_pos (by simp)]
        have hsk : seeS (appL l ops).1 = (appL l ops).1 := by
          unfold seeS; rw [if_pos hmk]; exact seen_none (nop_get hnk)
        rw [hj, r5App n l ops hr.sh (by omega) hp (by omega), Option.bind_some, free_app hfr, hpl]
        simp only [decide_true, cond_true, pend_spec n _ hk5 (show 2000 ≤ n by omega), hpk, Option.bind_some, seen_spec _ hk5.1, hsk, same_self n _ (show (appL l ops).1.length ≤ 1000000 by have := hk5.1; omega) (show 1000001 ≤ n by omega)]
      · rw [decide_eq_false hj, cond_false, r5Get1 n l hr.sh (by omega), Option.bind_some, r5May1 n l hr.sh (by omega)]
        -- what is told is 14 just if something is staged
        have h14 : mayS l = true → (judgeS l ops [itS, ledS] = 14 ↔ (getS l itS).2 = true) := fun hm => by
          unfold judgeS intentS
          rw [if_pos hm]
          cases hg : (getS l itS).2 with
          | true => simp
          | false =>
            have := appS_code l ops
            simp only [Bool.false_eq_true, if_false]
            simp only [show ((5 : Int) = 0) = False from by decide, if_false, ne_eq, not_true_eq_false]
            split
            · simp
            · simp [this]
        have h1 : mayS l = false → judgeS l ops [itS, ledS] = 1 := fun hm => by
          unfold judgeS intentS
          rw [hm]; rfl
        cases hm : mayS l with
        | true =>
          have h14' := h14 hm
          cases hg : (getS l itS).2 with
          | true =>
            rw [hg] at h14'
            rw [h14'.2 rfl]; rfl
          | false =>
            rw [hg] at h14'
            have hne : ¬ judgeS l ops [itS, ledS] = 14 := fun e => by have := h14'.1 e; cases this
            rw [decide_eq_false hne]; rfl
        | false =>
          rw [h1 hm]
          cases (getS l itS).2 <;> rfl
theorem l20Plain_P (n : Nat) (hn : 9223372036854775807 < n) (hv : l20live_t n = some true) (l : List FD) (ops : List OD) (hl : l.length ≤ 9223372036854775807) (ho : ops.length ≤ 9223372036854775807) : l20Plain_t n l ops = some true := by
  unfold l20Plain_t
  rw [r5Small_spec n l hl (by omega), Option.bind_some, r5Few_spec n ops ho (by omega), hv]
  cases hs : smallF l with
  | false => rfl
  | true =>
    cases hf : fewO ops with
    | false => rfl
    | true =>
      have hr := rg_of hs hf
      have h1000 := hr.sh.1
      have hol := hr.ol
      simp only [Bool.not_true, cond_false, Option.bind_some]
      by_cases h39 : (39 : Int) < ((l.length : Nat) : Int)
      · rw [decide_eq_true h39]; rfl
      rw [decide_eq_false h39, cond_false, begin_spec n l ops h1000 hol hr.os (by omega), Option.bind_some]
      by_cases hb : (beginS l ops).2 = 0
      · obtain ⟨hfr, henc, hbe⟩ := begin_cases hb
        rw [hbe]
        have hd := enc_len ops
        simp only [decide_true, Bool.not_true, cond_false, List.length_cons, List.length_nil]
        rw [r5App n l [(false, (itS, (encS ops).1))] hr.sh (by simp) (fun o ho => by obtain rfl := List.mem_singleton.1 ho; show itS.length ≤ 1000000; decide) (by omega), Option.bind_some]
        rcases put_it hfr.may hfr.none hd with ⟨h40, _⟩ | ⟨h40, h3, hmk⟩
        · omega
        · have hst := staged hfr.may hfr.none hmk
          have hk5 := Sh5.may hmk
          have hfin := fin_of hfr henc hst
          rw [h3]
          generalize insS (itS, (encS ops).1) l = k at *
          obtain ⟨hpe, hc⟩ := hfin
          rw [pend_spec n k hk5 (by omega), Option.bind_some, hpe, undo_spec n k hk5.1 (by omega), Option.bind_some, undo_it hst, ops_self n ops (by omega) (by omega), fin_spec n k hk5 (by omega)]
          have i0 : idxL [endO] (0 : Int) = some endO := rfl
          have i1 : idxL [(false, (itS, (encS ops).1))] (0 : Int) = some (false, (itS, (encS ops).1)) := rfl
          rw [i0, i1]
          rcases hc with ⟨h5, h6⟩ | h5
          · rw [h5]
            have hw : IntKind.wrap .i64 (((ops.length : Nat) : Int) + 1) = ((ops.length + 1 : Nat) : Int) := wrap_succ (by omega)
            have hs1 : subO (ops ++ [endO]) (0 : Int) ((ops.length : Nat) : Int) = some ops := by
              have := sub_zero (l := ops ++ [endO]) (b := ops.length) (by simp)
              rw [this, List.take_left]
            have hx : idxL (ops ++ [endO]) ((ops.length : Nat) : Int) = some endO := by
              rw [idx_lt (by simp)]; simp
            have hlen : (ops ++ [endO]).length = ops.length + 1 := by simp
            simp only [hw, letO_some, hs1, hx, hlen, ops_self n ops (show ops.length ≤ 1000000 by omega) (show 1000001 ≤ n by omega), Option.bind_some]
            simp [endO]
          · rw [h5]
            simp [endO]
      · rw [begin_err hb]
        generalize (beginS l ops).2 = c at hb
        simp [hb]
theorem l20Tells_true (l : den (.lst FT)) (ops : den (.lst OT)) (hl : okDen (.lst FT) l) (ho : okDen (.lst OT) ops) : l20Tells_t fuel20 l ops = some true := l20Tells_P fuel20 (by decide) live20 l ops (Nat.le_trans hl.1 (by unfold maxLen; omega)) (Nat.le_trans ho.1 (by unfold maxLen; omega))
theorem l20Ends_true (l : den (.lst FT)) (ops : den (.lst OT)) (hl : okDen (.lst FT) l) (ho : okDen (.lst OT) ops) : l20Ends_t fuel20 l ops = some true := l20Ends_P fuel20 (by decide) live20 l ops (Nat.le_trans hl.1 (by unfold maxLen; omega)) (Nat.le_trans ho.1 (by unfold maxLen; omega))
theorem l20Keeps_true (l : den (.lst FT)) (ops : den (.lst OT)) (hl : okDen (.lst FT) l) (ho : okDen (.lst OT) ops) : l20Keeps_t fuel20 l ops = some true := l20Keeps_P fuel20 (by decide) live20 l ops (Nat.le_trans hl.1 (by unfold maxLen; omega)) (Nat.le_trans ho.1 (by unfold maxLen; omega))
theorem l20Plain_true (l : den (.lst FT)) (ops : den (.lst OT)) (hl : okDen (.lst FT) l) (ho : okDen (.lst OT) ops) : l20Plain_t fuel20 l ops = some true := l20Plain_P fuel20 (by decide) live20 l ops (Nat.le_trans hl.1 (by unfold maxLen; omega)) (Nat.le_trans ho.1 (by unfold maxLen; omega))
end Go.Proofs.YtaglhmoldbndkaaDoor.AM
