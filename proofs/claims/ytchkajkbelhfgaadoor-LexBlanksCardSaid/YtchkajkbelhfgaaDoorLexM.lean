/- Layer 9: what lex.One comes to: its words stand where they say. -/
import Derived.Test.YtchkajkbelhfgaaDoorLexG
import Derived.Test.YtchkajkbelhfgaaDoorPure
namespace Go.Proofs.YtchkajkbelhfgaaDoor.AM
open Go.RowKit
set_option linter.unusedVariables false
set_option linter.unusedSimpArgs false
abbrev Wd := List UInt8 × Int
def isB (c : UInt8) : Bool := decide (((c.toNat : Nat) : Int) = 32) || decide (((c.toNat : Nat) : Int) = 9)
def blk (s : List UInt8) (a b : Nat) : Prop := ((s.drop a).take (b - a)).all isB = true
theorem isText_loop (n : Nat) (s : List UInt8) (hL : s.length ≤ 1000000) : ∀ m j : Nat, j ≤ s.length → s.length - j < m → ∃ o, isText_loop0 n m s ((s.length : Nat) : Int) (j : Int) = some o
  | 0, j, _, h => absurd h (Nat.not_lt_zero _)
  | m + 1, j, hj, h => by
    rw [isText_loop0_succ]
    unfold isText_l0
    by_cases c0 : j < s.length
    · have c0' : ((j : Nat) : Int) < ((s.length : Nat) : Int) := by omega
      obtain ⟨o, ih⟩ := isText_loop n s hL m (j + 1) (by omega) (by omega)
      simp only [c0', decide_true, cond_true, sAt_lt c0, Option.bind_some, letO, wrap_succ (show j < 4611686018427387904 by omega), ih]
      cases decide (((s[j].toNat : Nat) : Int) < 32) <;> cases decide (((s[j].toNat : Nat) : Int) = 9) <;> cases decide ((126 : Int) < ((s[j].toNat : Nat) : Int)) <;> exact ⟨_, rfl⟩
    · have c0' : ¬ ((j : Nat) : Int) < ((s.length : Nat) : Int) := by omega
      simp only [c0', decide_false, cond_false]
      exact ⟨_, rfl⟩
theorem isText_some (n : Nat) (s : List UInt8) (hL : s.length ≤ 1000000) (hn : s.length < n) : ∃ b, isText_t n s = some b := by
  unfold isText_t
  obtain ⟨o, h⟩ := isText_loop n s hL n 0 (Nat.zero_le _) (by omega)
  rw [show ((0 : Nat) : Int) = (0 : Int) from rfl] at h
  rw [h]
  cases o with
  | inl q => exact ⟨_, rfl⟩
  | inr q => exact ⟨_, rfl⟩
/-! the words stand -/
def Std (s : List UInt8) : Nat → List Wd → Nat → Prop
  | a, [], e => e = a
  | a, w :: ws, e => ∃ p : Nat, w.2 = (p : Int) ∧ a ≤ p ∧ blk s a p ∧ w.1 = (s.drop p).take w.1.length ∧ w.1 ≠ [] ∧ p + w.1.length ≤ s.length ∧ Std s (p + w.1.length) ws e
theorem Std.le {s : List UInt8} : ∀ {ws : List Wd} {a e : Nat}, Std s a ws e → a ≤ e
  | [], a, e, h => Nat.le_of_eq (Eq.symm h)
  | w :: ws, a, e, ⟨p, _, h1, _, _, _, _, h2⟩ => by have := Std.le h2; omega
theorem Std.snoc {s : List UInt8} : ∀ {ws : List Wd} {a e p : Nat} {t : List UInt8}, Std s a ws e → e ≤ p → blk s e p → t = (s.drop p).take t.length → t ≠ [] → p + t.length ≤ s.length → Std s a (ws ++ [(t, (p : Int))]) (p + t.length)
  | [], a, e, p, t, h, h1, h2, h3, h4, h5 => by
    have h' : e = a := h
    subst h'
    exact ⟨p, rfl, h1, h2, h3, h4, h5, rfl⟩
  | w :: ws, a, e, p, t, ⟨q, g1, g2, g3, g4, g5, g6, g7⟩, h1, h2, h3, h4, h5 => ⟨q, g1, g2, g3, g4, g5, g6, Std.snoc g7 h1 h2 h3 h4 h5⟩
theorem Std.unsnoc {s : List UInt8} : ∀ {ws : List Wd} {a e : Nat} {w : Wd}, Std s a (ws ++ [w]) e → ∃ p e0 : Nat, w.2 = (p : Int) ∧ Std s a ws e0 ∧ e0 ≤ p ∧ blk s e0 p ∧ w.1 = (s.drop p).take w.1.length ∧ w.1 ≠ [] ∧ p + w.1.length ≤ s.length ∧ e = p + w.1.length
  | [], a, e, w, ⟨p, g1, g2, g3, g4, g5, g6, g7⟩ => ⟨p, a, g1, rfl, g2, g3, g4, g5, g6, g7⟩
  | x :: ws, a, e, w, ⟨q, g1, g2, g3, g4, g5, g6, g7⟩ => by
    obtain ⟨p, e0, k1, k2, k3, k4, k5, k6, k7, k8⟩ := Std.unsnoc g7
    exact ⟨p, e0, k1, ⟨q, g1, g2, g3, g4, g5, g6, k2⟩, k3, k4, k5, k6, k7, k8⟩
theorem blk_refl (s : List UInt8) (a : Nat) : blk s a a := by unfold blk; simp
theorem blk_succ {s : List UInt8} {a i : Nat} (h : blk s a i) (ha : a ≤ i) (hi : i < s.length) (hb : isB s[i] = true) : blk s a (i + 1) := by
  unfold blk at *
  have : (s.drop a).take (i + 1 - a) = (s.drop a).take (i - a) ++ [s[i]] := by
    rw [show i + 1 - a = (i - a) + 1 from by omega, List.take_add_one, List.getElem?_drop, show a + (i - a) = i from by omega, List.getElem?_eq_getElem hi]
    rfl
  rw [this, List.all_append, h]
  simp [hb]
theorem take_one {s : List UInt8} {i : Nat} (h : i < s.length) : (s.drop i).take (i + 1 - i) = [s[i]] := by
  rw [show i + 1 - i = 1 from by omega, List.drop_eq_getElem_cons h]; rfl
theorem set_last {β : Type} (l : List β) (x y : β) : (l ++ [x]).set l.length y = l ++ [y] := by simp
/-- one round of the cut -/
theorem cut_step (n : Nat) (rec : List UInt8 → Bool → Int → Int → List Wd → Option (((Unit × (Int × Unit)) × Unit × ((List Wd) × Unit)) ⊕ (((List UInt8) × (Unit × Unit)) × Unit × ((List Wd) × Unit)))) (s : List UInt8) (op : Bool) (L : Int) (i : Nat) (ws : List Wd)
    (hi : i < s.length) (hL : L = ((s.length : Nat) : Int)) (hs : s.length ≤ 1000000) (hw : ws.length ≤ i) :
    (∃ c : UInt8, c = s[i] ∧ isB c = false ∧ lcut_l0 n rec s op L (i : Int) ws = rec s false L ((i + 1 : Nat) : Int) (ws ++ [([c], (i : Int))])) ∨
    (isB s[i] = true ∧ lcut_l0 n rec s op L (i : Int) ws = rec s false L ((i + 1 : Nat) : Int) ws) ∨
    (op = false ∧ lcut_l0 n rec s op L (i : Int) ws = some (Sum.inl (((), ((i : Int), ())), ((), (ws, ()))))) ∨
    (op = false ∧ lcut_l0 n rec s op L (i : Int) ws = rec s true L ((i + 1 : Nat) : Int) (ws ++ [([s[i]], (i : Int))])) ∨
    (op = true ∧ ∀ ws0 t (p : Nat), ws = ws0 ++ [(t, (p : Int))] → p ≤ i → lcut_l0 n rec s op L (i : Int) ws = rec s true L ((i + 1 : Nat) : Int) (ws0 ++ [((s.drop p).take (i + 1 - p), (p : Int))])) := by
  subst hL
  have c0 : ((i : Nat) : Int) < ((s.length : Nat) : Int) := by omega
  have w1 := wrap_succ (show i < 4611686018427387904 by omega)
  have a1 : appO 24 ws [([s[i]], (i : Int))] = some (ws ++ [([s[i]], (i : Int))]) := app_le (by simp; omega)
  have a2 : appO 24 ws [(([] : List UInt8), (i : Int))] = some (ws ++ [([], (i : Int))]) := app_le (by simp; omega)
  have s1 : subO s ((i : Nat) : Int) ((i + 1 : Nat) : Int) = some [s[i]] := by rw [sub_le (by omega) (by omega), take_one hi]
  have s2 : subO s ((i : Nat) : Int) ((s.length : Nat) : Int) = some (s.drop i) := by
    rw [sub_le (by omega) (Nat.le_refl _), List.take_of_length_le (by rw [List.length_drop]; omega)]
  have hp : ∃ b, HasPrefix_t n (s.drop i) [47, 47] = some b := by
    unfold HasPrefix_t HasPrefixI_t
    by_cases h : ((List.length ([47, 47] : List UInt8) : Nat) : Int) ≤ ((List.length (s.drop i) : Nat) : Int)
    · simp only [h, decide_true, cond_true]
      rw [sub_zero (by omega)]
      exact ⟨_, rfl⟩
    · simp only [h, decide_false, cond_false]
      exact ⟨_, rfl⟩
  obtain ⟨b, hp⟩ := hp
  unfold lcut_l0
  simp only [c0, decide_true, cond_true, sAt_lt hi, Option.bind_some, letO, w1, s1, s2, a1, a2, hp]
  have eqc : ∀ k : Int, decide (((s[i].toNat : Nat) : Int) = k) = true ∨ decide (((s[i].toNat : Nat) : Int) = k) = false := fun k => by cases decide (((s[i].toNat : Nat) : Int) = k) <;> simp
  rcases eqc 40 with h40 | h40
  · refine Or.inl ⟨s[i], rfl, ?_, ?_⟩
    · have := of_decide_eq_true h40; simp [isB, this]
    · simp only [h40, cond_true]
  rcases eqc 41 with h41 | h41
  · refine Or.inl ⟨s[i], rfl, ?_, ?_⟩
    · have := of_decide_eq_true h41; simp [isB, this]
    · simp only [h40, h41, cond_true, cond_false]
  rcases eqc 91 with h91 | h91
  · refine Or.inl ⟨s[i], rfl, ?_, ?_⟩
    · have := of_decide_eq_true h91; simp [isB, this]
    · simp only [h40, h41, h91, cond_true, cond_false]
  rcases eqc 93 with h93 | h93
  · refine Or.inl ⟨s[i], rfl, ?_, ?_⟩
    · have := of_decide_eq_true h93; simp [isB, this]
    · simp only [h40, h41, h91, h93, cond_true, cond_false]
  rcases eqc 44 with h44 | h44
  · refine Or.inl ⟨s[i], rfl, ?_, ?_⟩
    · have := of_decide_eq_true h44; simp [isB, this]
    · simp only [h40, h41, h91, h93, h44, cond_true, cond_false]
  rcases eqc 32 with h32 | h32
  · refine Or.inr (Or.inl ⟨?_, ?_⟩)
    · have := of_decide_eq_true h32; simp [isB, this]
    · simp only [h40, h41, h91, h93, h44, h32, cond_true, cond_false]
  rcases eqc 9 with h9 | h9
  · refine Or.inr (Or.inl ⟨?_, ?_⟩)
    · have := of_decide_eq_true h9; simp [isB, this]
    · simp only [h40, h41, h91, h93, h44, h32, h9, cond_true, cond_false]
  simp only [h40, h41, h91, h93, h44, h32, h9, cond_true, cond_false]
  cases op with
  | false =>
    simp only [Bool.not_false, cond_true]
    cases b with
    | true => exact Or.inr (Or.inr (Or.inl ⟨by first | rfl | trivial, rfl⟩))
    | false =>
      refine Or.inr (Or.inr (Or.inr (Or.inl ⟨by first | rfl | trivial, ?_⟩)))
      have hl : (ws ++ [(([] : List UInt8), (i : Int))]).length = ws.length + 1 := by simp
      have w2 : IntKind.wrap .i64 ((((ws ++ [(([] : List UInt8), (i : Int))]).length : Nat) : Int) - 1) = ((ws.length : Nat) : Int) := by
        rw [hl, show (((ws.length + 1 : Nat) : Int) - 1) = ((ws.length : Nat) : Int) from by omega]; exact wrap_nat (by omega)
      have g : ws.length < (ws ++ [(([] : List UInt8), (i : Int))]).length := by omega
      have ge : (ws ++ [(([] : List UInt8), (i : Int))])[ws.length]'g = ([], (i : Int)) := by simp
      simp only [cond_false, w2, idx_lt g, Option.bind_some, Int.toNat_natCast, nth_lt g, ge, s1, set_last]
  | true =>
    refine Or.inr (Or.inr (Or.inr (Or.inr ⟨by first | rfl | trivial, fun ws0 t p hws hpi => ?_⟩)))
    subst hws
    simp only [Bool.not_true, cond_false]
    have hl : (ws0 ++ [(t, (p : Int))]).length = ws0.length + 1 := by simp
    have w2 : IntKind.wrap .i64 ((((ws0 ++ [(t, (p : Int))]).length : Nat) : Int) - 1) = ((ws0.length : Nat) : Int) := by
      rw [hl, show (((ws0.length + 1 : Nat) : Int) - 1) = ((ws0.length : Nat) : Int) from by omega]; exact wrap_nat (by omega)
    have g : ws0.length < (ws0 ++ [(t, (p : Int))]).length := by omega
    have ge : (ws0 ++ [(t, (p : Int))])[ws0.length]'g = (t, (p : Int)) := by simp
    have s3 : subO s ((p : Nat) : Int) ((i + 1 : Nat) : Int) = some ((s.drop p).take (i + 1 - p)) := sub_le (by omega) (by omega)
    simp only [w2, idx_lt g, Option.bind_some, Int.toNat_natCast, nth_lt g, ge, s3, set_last]
theorem cut_loop (n : Nat) (s : List UInt8) (hs : s.length ≤ 1000000) : ∀ (m i : Nat) (op : Bool) (ws : List Wd) (e : Nat), i ≤ s.length → s.length - i < m → ws.length ≤ i → Std s 0 ws e → (op = true → e = i ∧ ws ≠ []) → (op = false → e ≤ i ∧ blk s e i) →
    ∃ (ws' : List Wd) (i' e' : Nat), (lcut_loop0 n m s op ((s.length : Nat) : Int) (i : Int) ws = some (Sum.inl (((), ((i' : Int), ())), ((), (ws', ())))) ∨ (i' = s.length ∧ lcut_loop0 n m s op ((s.length : Nat) : Int) (i : Int) ws = some (Sum.inr ((s, ((), ())), ((), (ws', ())))))) ∧
      i' ≤ s.length ∧ Std s 0 ws' e' ∧ e' ≤ i' ∧ blk s e' i' ∧ ws'.length ≤ s.length
  | 0, i, op, ws, e, _, h, _, _, _, _ => absurd h (Nat.not_lt_zero _)
  | m + 1, i, op, ws, e, hi, h, hw, hst, ht, hf => by
    rw [lcut_loop0_succ]
    by_cases c0 : i < s.length
    · have ih := cut_loop n s hs m
      rcases cut_step n (fun a1 a2 a3 a4 a5 => lcut_loop0 n m a1 a2 a3 a4 a5) s op _ i ws c0 rfl hs hw with ⟨c, rfl, hb, hc⟩ | ⟨hb, hc⟩ | ⟨ho, hc⟩ | ⟨ho, hc⟩ | ⟨ho, hc⟩
      · rw [hc]
        have key : ∃ e0, e0 ≤ i ∧ Std s 0 ws e0 ∧ blk s e0 i := by
          cases op with
          | true => obtain ⟨rfl, _⟩ := ht rfl; exact ⟨e, Nat.le_refl _, hst, blk_refl _ _⟩
          | false => obtain ⟨h1, h2⟩ := hf rfl; exact ⟨e, h1, hst, h2⟩
        obtain ⟨e0, k1, k2, k3⟩ := key
        have hsn := Std.snoc (t := [s[i]]) k2 k1 k3 (by rw [List.drop_eq_getElem_cons c0]; rfl) (by simp) (by simp; omega)
        exact ih (i + 1) false _ _ (by omega) (by omega) (by simp; omega) hsn (fun h => by cases h) (fun _ => ⟨by simp, by simpa using blk_refl s (i + 1)⟩)
      · rw [hc]
        have key : e ≤ i ∧ blk s e i := by
          cases op with
          | true => obtain ⟨rfl, _⟩ := ht rfl; exact ⟨Nat.le_refl _, blk_refl _ _⟩
          | false => exact hf rfl
        exact ih (i + 1) false ws e (by omega) (by omega) (by omega) hst (fun h => by cases h) (fun _ => ⟨by omega, blk_succ key.2 key.1 c0 hb⟩)
      · rw [hc]
        obtain ⟨h1, h2⟩ := hf ho
        exact ⟨ws, i, e, Or.inl rfl, hi, hst, h1, h2, by omega⟩
      · rw [hc]
        obtain ⟨h1, h2⟩ := hf ho
        have hsn := Std.snoc (t := [s[i]]) hst h1 h2 (by rw [List.drop_eq_getElem_cons c0]; rfl) (by simp) (by simp; omega)
        exact ih (i + 1) true _ _ (by omega) (by omega) (by simp; omega) hsn (fun _ => ⟨by simp, by simp⟩) (fun h => by cases h)
      · obtain ⟨rfl, hne⟩ := ht ho
        obtain ⟨ws0, w, rfl⟩ : ∃ ws0 w, ws = ws0 ++ [w] := ⟨_, _, (List.dropLast_concat_getLast hne).symm⟩
        obtain ⟨p, e0, k1, k2, k3, k4, k5, k6, k7, k8⟩ := Std.unsnoc hst
        obtain ⟨t, x⟩ := w
        simp only at k1 k5 k6 k7 k8
        subst k1
        have hc' := hc ws0 t p rfl (by omega)
        rw [hc']
        have hlen : ((s.drop p).take (e + 1 - p)).length = e + 1 - p := by rw [List.length_take, List.length_drop]; omega
        have hsn := Std.snoc (t := (s.drop p).take (e + 1 - p)) k2 k3 k4 (by rw [hlen]) (fun h0 => by have := congrArg List.length h0; rw [hlen] at this; simp at this; omega) (by rw [hlen]; omega)
        rw [hlen, show p + (e + 1 - p) = e + 1 from by omega] at hsn
        exact ih (e + 1) true _ (e + 1) (by omega) (by omega) (by simp at hw ⊢; omega) hsn (fun _ => ⟨rfl, by simp⟩) (fun h => by cases h)
    · unfold lcut_l0
      have c0' : ¬ ((i : Nat) : Int) < ((s.length : Nat) : Int) := by omega
      simp only [c0', decide_false, cond_false]
      have hie : i = s.length := by omega
      refine ⟨ws, s.length, e, Or.inr ⟨rfl, rfl⟩, Nat.le_refl _, hst, ?_, ?_, by omega⟩
      · cases op with
        | true => have := (ht rfl).1; omega
        | false => have := (hf rfl).1; omega
      · cases op with
        | true => obtain ⟨rfl, _⟩ := ht rfl; rw [hie]; exact blk_refl _ _
        | false => rw [← hie]; exact (hf rfl).2
theorem cut_spec (n : Nat) (s : List UInt8) (hs : s.length ≤ 1000000) (hn : s.length < n) : ∃ (ws : List Wd) (i e : Nat), lcut_t n s = some (ws, (i : Int)) ∧ i ≤ s.length ∧ Std s 0 ws e ∧ e ≤ i ∧ blk s e i ∧ ws.length ≤ s.length := by
  obtain ⟨ws, i, e, h1, h2, h3, h4, h5, h6⟩ := cut_loop n s hs n 0 false [] 0 (Nat.zero_le _) (by omega) (Nat.zero_le _) rfl (fun h => by cases h) (fun _ => ⟨Nat.le_refl _, blk_refl _ _⟩)
  refine ⟨ws, i, e, ?_, h2, h3, h4, h5, h6⟩
  unfold lcut_t
  rw [show ((0 : Nat) : Int) = (0 : Int) from rfl] at h1
  rcases h1 with h1 | ⟨rfl, h1⟩
  · rw [h1]; rfl
  · rw [h1]; rfl
end Go.Proofs.YtchkajkbelhfgaaDoor.AM
