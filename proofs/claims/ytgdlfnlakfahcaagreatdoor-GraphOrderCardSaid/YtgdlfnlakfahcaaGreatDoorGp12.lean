/- One text of VerR, MpP2, GraM, GraP1, GraP2, MpL (mk/pack.py). -/
import Derived.Test.YtgdlfnlakfahcaaGreatDoorGp8
import Derived.Test.YtgdlfnlakfahcaaGreatDoorGp9
import Derived.Test.YtgdlfnlakfahcaaGreatDoorGp10
/- Layer 7: what the document's checks come to. -/
namespace Go.Proofs.YtgdlfnlakfahcaaGreatDoor.AM
open Go.RowKit
set_option linter.unusedVariables false
set_option linter.unusedSimpArgs false
theorem rSplit5_loop (n : Nat) (s : List UInt8) (c : UInt8) (hs : s.length ≤ 1000000) : ∀ (m i fr : Nat) (out : List (List UInt8)), i ≤ s.length → s.length - i + 1 < m → fr ≤ i → out.length ≤ i →
    rSplit5_loop0 n m s ((c.toNat : Nat) : Int) (fr : Int) (i : Int) out = some (((), ()), ((), (out ++ spl c ((s.drop fr).take (i - fr)) (s.drop i), ())))
  | 0, i, fr, _, _, h, _, _ => absurd h (Nat.not_lt_zero _)
  | m + 1, i, fr, out, hi, h, hf, ho => by
    rw [rSplit5_loop0_succ]
    unfold rSplit5_l0
    have c0 : ((i : Nat) : Int) ≤ ((s.length : Nat) : Int) := by omega
    have w1 := wrap_succ (show i < 4611686018427387904 by omega)
    have s1 : subO s ((fr : Nat) : Int) ((i : Nat) : Int) = some ((s.drop fr).take (i - fr)) := sub_le hf hi
    have a1 : appO 16 out [(s.drop fr).take (i - fr)] = some (out ++ [(s.drop fr).take (i - fr)]) := app_le (by simp; omega)
    by_cases c1 : i = s.length
    · have c1' : ((i : Nat) : Int) = ((s.length : Nat) : Int) := by omega
      have hd : s.drop i = [] := List.drop_eq_nil_of_le (by omega)
      simp only [c0, c1', decide_true, cond_true]
      rw [← c1', s1, Option.bind_some, a1, Option.bind_some, hd]
      simp only [letO, w1]
      cases m with
      | zero => omega
      | succ m =>
        rw [rSplit5_loop0_succ]
        unfold rSplit5_l0
        have c2 : ¬ ((i + 1 : Nat) : Int) ≤ ((s.length : Nat) : Int) := by omega
        simp only [c2, Int.le_refl, decide_true, decide_false, cond_true, cond_false]
        rfl
    · have c1' : ¬ ((i : Nat) : Int) = ((s.length : Nat) : Int) := by omega
      have hi' : i < s.length := by omega
      have hd : s.drop i = s[i] :: s.drop (i + 1) := List.drop_eq_getElem_cons hi'
      simp only [c0, c1', decide_true, decide_false, cond_true, cond_false, sAt_lt hi', Option.bind_some, letO, w1, s1, a1]
      have hc : decide (((s[i].toNat : Nat) : Int) = ((c.toNat : Nat) : Int)) = decide (s[i] = c) := by
        apply decide_eq_decide.2
        constructor
        · intro hh; exact UInt8.toNat_inj.1 (by omega)
        · intro hh; rw [hh]
      rw [hc, hd, spl]
      by_cases c2 : s[i] = c
      · simp only [c2, decide_true, cond_true, if_true]
        rw [rSplit5_loop n s c hs m (i + 1) (i + 1) (out ++ [(s.drop fr).take (i - fr)]) (by omega) (by omega) (Nat.le_refl _) (by simp; omega)]
        simp
      · simp only [c2, decide_false, cond_false, if_false]
        rw [rSplit5_loop n s c hs m (i + 1) fr out (by omega) (by omega) (by omega) (by omega)]
        have e1 : (s.drop fr).take (i + 1 - fr) = (s.drop fr).take (i - fr) ++ [s[i]] := by
          rw [show i + 1 - fr = (i - fr) + 1 from by omega, List.take_add_one, List.getElem?_drop, show fr + (i - fr) = i from by omega, List.getElem?_eq_getElem hi']
          rfl
        rw [e1]
theorem rSplit5_P (n : Nat) (s : List UInt8) (c : UInt8) (hs : s.length ≤ 1000000) (hn : s.length + 1 < n) : rSplit5_t n s ((c.toNat : Nat) : Int) = some (spl c [] s) := by
  unfold rSplit5_t
  have h := rSplit5_loop n s c hs n 0 0 [] (Nat.zero_le _) (by omega) (Nat.le_refl _) (Nat.zero_le _)
  rw [show ((0 : Nat) : Int) = (0 : Int) from rfl] at h
  rw [h]
  simp
theorem sg_bools (c : UInt8) : isSg c = ((decide ((97 : Int) ≤ ((c.toNat : Nat) : Int)) && decide (((c.toNat : Nat) : Int) ≤ (122 : Int))) || (decide ((65 : Int) ≤ ((c.toNat : Nat) : Int)) && decide (((c.toNat : Nat) : Int) ≤ (90 : Int))) || (decide ((48 : Int) ≤ ((c.toNat : Nat) : Int)) && decide (((c.toNat : Nat) : Int) ≤ (57 : Int))) || decide (((c.toNat : Nat) : Int) = (45 : Int))) := by
  unfold isSg isDig
  have h1 : decide ((97 : Int) ≤ ((c.toNat : Nat) : Int)) = decide (97 ≤ c.toNat) := decide_eq_decide.2 (by omega)
  have h2 : decide (((c.toNat : Nat) : Int) ≤ (122 : Int)) = decide (c.toNat ≤ 122) := decide_eq_decide.2 (by omega)
  have h3 : decide ((65 : Int) ≤ ((c.toNat : Nat) : Int)) = decide (65 ≤ c.toNat) := decide_eq_decide.2 (by omega)
  have h4 : decide (((c.toNat : Nat) : Int) ≤ (90 : Int)) = decide (c.toNat ≤ 90) := decide_eq_decide.2 (by omega)
  have h5 : decide (((c.toNat : Nat) : Int) = (45 : Int)) = decide (c.toNat = 45) := decide_eq_decide.2 (by omega)
  have h6 : decide ((48 : Int) ≤ ((c.toNat : Nat) : Int)) = decide (48 ≤ c.toNat) := decide_eq_decide.2 (by omega)
  have h7 : decide (((c.toNat : Nat) : Int) ≤ (57 : Int)) = decide (c.toNat ≤ 57) := decide_eq_decide.2 (by omega)
  rw [h1, h2, h3, h4, h5, h6, h7]
end Go.Proofs.YtgdlfnlakfahcaaGreatDoor.AM

/- Layer 8: what the program's functions come to. -/
namespace Go.Proofs.YtgdlfnlakfahcaaGreatDoor.AM
open Go.RowKit
set_option linter.unusedVariables false
set_option linter.unusedSimpArgs false
theorem mLast_spec (n : Nat) (s : List UInt8) (hL : s.length ≤ 1000000) (hn : s.length < n) : mLast_t n s = some (lastS s) := by
  unfold mLast_t lastS
  have hg := lastC_ge 47 s
  obtain ⟨k, hk⟩ : ∃ k : Nat, lastC 47 s + 1 = (k : Int) := ⟨(lastC 47 s + 1).toNat, by omega⟩
  rw [LastB_spec n s hL hn]
  simp only [Option.bind_some, letO]
  rw [hk, wrap64 (by omega) (by omega), sub_le (by omega) (Nat.le_refl _)]
  simp only [Option.bind_some, Int.toNat_natCast]
  rw [List.take_of_length_le (by rw [List.length_drop]; exact Nat.le_refl _)]
theorem base_len (s : List UInt8) : (baseS s).length ≤ s.length := by unfold baseS; rw [List.length_take]; omega
theorem last_len (s : List UInt8) : (lastS s).length ≤ s.length := by unfold lastS; rw [List.length_drop]; omega
theorem trimV_tells {s : List UInt8} (h : tellsS s = true) : trimV s = s.drop 1 := by
  unfold tellsS at h
  simp only [Bool.and_eq_true, decide_eq_true_eq] at h
  unfold trimV; rw [if_pos h.1]
theorem mMajor_spec (n : Nat) (s : List UInt8) (hL : s.length ≤ 1000000) (hn : s.length < n) : mMajor_t n s = some (majorS s) := by
  have hb := base_len s
  have hl := last_len s
  have e1 : mBase_t s = some (baseS s) := if_pos hL
  have e2 : mAny_t (baseS s) = some (anyS (baseS s)) := if_pos (by omega)
  have e3 : mNum_t (lastS s) = some (numOf (trimV (lastS s)), fine (trimV (lastS s))) := if_pos (by omega)
  have e4 : fPath_t s = some (pathS s) := rfl
  unfold mMajor_t majorS okS
  simp only [e1, e2, e3, e4, mLast_spec n s hL hn, mTells_spec n (lastS s) (by omega), Option.bind_some]
  cases pathS s with
  | false => rfl
  | true => cases anyS (baseS s) with
    | true => rfl
    | false => cases ht : tellsS (lastS s) with
      | false => rfl
      | true =>
        rw [trimV_tells ht]
        cases fine ((lastS s).drop 1) with
        | false => rfl
        | true =>
          by_cases h0 : baseS s = []
          · simp [h0]
          · simp [h0]
theorem major_ok (s : List UInt8) : (majorS s).2.2 = okS s := by
  unfold majorS
  cases okS s with
  | false => rfl
  | true => cases tellsS (lastS s) <;> rfl
theorem mCheck_spec (n : Nat) (s : List UInt8) (hL : s.length ≤ 1000000) (hn : s.length < n) : mCheck_t n s = some (okS s) := by
  unfold mCheck_t
  rw [mMajor_spec n s hL hn, ← major_ok]; rfl
/-! the document's paths -/
theorem pSign_bools (c : UInt8) : pSign c = ((decide ((97 : Int) ≤ ((c.toNat : Nat) : Int)) && decide (((c.toNat : Nat) : Int) ≤ (122 : Int))) || (decide ((65 : Int) ≤ ((c.toNat : Nat) : Int)) && decide (((c.toNat : Nat) : Int) ≤ (90 : Int))) || (decide ((48 : Int) ≤ ((c.toNat : Nat) : Int)) && decide (((c.toNat : Nat) : Int) ≤ (57 : Int))) || decide (((c.toNat : Nat) : Int) = (45 : Int)) || decide (((c.toNat : Nat) : Int) = (95 : Int)) || decide (((c.toNat : Nat) : Int) = (46 : Int))) := by
  unfold pSign
  have h6 : decide (((c.toNat : Nat) : Int) = (95 : Int)) = decide (c.toNat = 95) := decide_eq_decide.2 (by omega)
  have h7 : decide (((c.toNat : Nat) : Int) = (46 : Int)) = decide (c.toNat = 46) := decide_eq_decide.2 (by omega)
  rw [h6, h7, ← sg_bools]
theorem rPart5_loop (n : Nat) (s : List UInt8) (hL : s.length ≤ 1000000) : ∀ m j : Nat, j ≤ s.length → s.length - j < m → rPart5_loop0 n m s (j : Int) = some (if (s.drop j).all pSign = true then Sum.inr ((s, ()), ((), ())) else Sum.inl ((false, ()), ((), ())))
  | 0, j, _, h => absurd h (Nat.not_lt_zero _)
  | m + 1, j, hj, h => by
    rw [rPart5_loop0_succ]
    unfold rPart5_l0
    by_cases c0 : j < s.length
    · have c0' : ((j : Nat) : Int) < ((s.length : Nat) : Int) := by omega
      have ih := rPart5_loop n s hL m (j + 1) (by omega) (by omega)
      have hd : s.drop j = s[j] :: s.drop (j + 1) := (List.drop_eq_getElem_cons c0)
      simp only [c0', decide_true, cond_true, sAt_lt c0, Option.bind_some, letO, wrap_succ (show j < 4611686018427387904 by omega), ih, hd, List.all_cons]
      rw [pSign_bools]
      generalize (List.drop (j + 1) s).all pSign = B
      generalize decide ((97 : Int) ≤ ((s[j].toNat : Nat) : Int)) = b1
      generalize decide (((s[j].toNat : Nat) : Int) ≤ (122 : Int)) = b2
      generalize decide ((65 : Int) ≤ ((s[j].toNat : Nat) : Int)) = b3
      generalize decide (((s[j].toNat : Nat) : Int) ≤ (90 : Int)) = b4
      generalize decide ((48 : Int) ≤ ((s[j].toNat : Nat) : Int)) = b5
      generalize decide (((s[j].toNat : Nat) : Int) ≤ (57 : Int)) = b6
      generalize decide (((s[j].toNat : Nat) : Int) = (45 : Int)) = b7
      generalize decide (((s[j].toNat : Nat) : Int) = (95 : Int)) = b8
      generalize decide (((s[j].toNat : Nat) : Int) = (46 : Int)) = b9
      cases b1 <;> cases b2 <;> cases b3 <;> cases b4 <;> cases b5 <;> cases b6 <;> cases b7 <;> cases b8 <;> cases b9 <;> rfl
    · have c0' : ¬ ((j : Nat) : Int) < ((s.length : Nat) : Int) := by omega
      have : s.drop j = [] := List.drop_eq_nil_of_le (by omega)
      simp [c0', this]
theorem rPart5_spec (n : Nat) (s : List UInt8) (hL : s.length ≤ 1000000) (hn : s.length < n) : rPart5_t n s = some (partS s) := by
  unfold rPart5_t partS
  have := rPart5_loop n s hL n 0 (Nat.zero_le _) (by omega)
  rw [show ((0 : Nat) : Int) = (0 : Int) from rfl] at this
  rw [this, List.drop_zero]
  cases s.all pSign with
  | true =>
    simp only [if_true, Option.bind_some, Sum.elim_inr]
    cases decide (s = []) <;> cases decide (s = [46]) <;> cases decide (s = [46, 46]) <;> rfl
  | false =>
    simp only [Bool.false_eq_true, if_false, Option.bind_some, Sum.elim_inl]
    cases decide (s = []) <;> cases decide (s = [46]) <;> cases decide (s = [46, 46]) <;> rfl
theorem rPath5_loop (n : Nat) (l : List (List UInt8)) (hl : l.length ≤ 1000000) (hw : ∀ w ∈ l, w.length ≤ 1000000 ∧ w.length < n) : ∀ m j : Nat, j ≤ l.length → l.length - j < m → rPath5_loop0 n m l (j : Int) = some (if (l.drop j).all partS = true then Sum.inr ((), ((), ())) else Sum.inl ((false, ()), ((), ())))
  | 0, j, _, h => absurd h (Nat.not_lt_zero _)
  | m + 1, j, hj, h => by
    rw [rPath5_loop0_succ]
    unfold rPath5_l0
    by_cases c0 : j < l.length
    · have c0' : ((j : Nat) : Int) < ((l.length : Nat) : Int) := by omega
      have ih := rPath5_loop n l hl hw m (j + 1) (by omega) (by omega)
      have hd : l.drop j = l[j] :: l.drop (j + 1) := (List.drop_eq_getElem_cons c0)
      have hm := hw l[j] (List.getElem_mem c0)
      simp only [c0', decide_true, cond_true, idx_lt c0, Option.bind_some, rPart5_spec n l[j] hm.1 hm.2, letO, wrap_succ (show j < 4611686018427387904 by omega), ih, hd, List.all_cons]
      cases partS l[j] <;> simp
    · have c0' : ¬ ((j : Nat) : Int) < ((l.length : Nat) : Int) := by omega
      have : l.drop j = [] := List.drop_eq_nil_of_le (by omega)
      simp [c0', this]
theorem rPath5_spec (n : Nat) (s : List UInt8) (hL : s.length ≤ 1000000) (hn : 100 ≤ n) : rPath5_t n s = some (pathS s) := by
  unfold rPath5_t pathS
  by_cases h : s.length ≤ 60
  · have h' : ¬ (60 : Int) < ((s.length : Nat) : Int) := by omega
    have hlen := spl_len 47 s []
    have hw : ∀ w ∈ spl 47 [] s, w.length ≤ s.length := fun w hm => by have := spl_mem 47 s [] w hm; simpa using this
    have := rPath5_loop n (spl 47 [] s) (by omega) (fun w hm => ⟨by have := hw w hm; omega, by have := hw w hm; omega⟩) n 0 (Nat.zero_le _) (by omega)
    rw [show ((0 : Nat) : Int) = (0 : Int) from rfl] at this
    simp only [h', decide_false, cond_false]
    rw [show (47 : Int) = (((47 : UInt8).toNat : Nat) : Int) from rfl, rSplit5_P n s 47 hL (by omega)]
    simp only [Option.bind_some]
    rw [this, List.drop_zero]
    cases (spl 47 [] s).all partS <;> simp [h]
  · have h' : (60 : Int) < ((s.length : Nat) : Int) := by omega
    simp [h, h']
end Go.Proofs.YtgdlfnlakfahcaaGreatDoor.AM

/- Layer 16: mathematics of who depends on whom: paths, what climbing meets, an order in which each stands behind his own. -/
namespace Go.Proofs.YtgdlfnlakfahcaaGreatDoor.AM.Gr
set_option linter.unusedVariables false
set_option linter.unusedSimpArgs false

/-! counting -/
theorem sub_len : ∀ {a b : List Nat}, a.Nodup → (∀ x ∈ a, x ∈ b) → a.length ≤ b.length
  | [], b, _, _ => Nat.zero_le _
  | x :: a, b, hd, h => by
    have hx : x ∈ b := h x (List.mem_cons_self ..)
    obtain ⟨h1, h2⟩ := List.nodup_cons.1 hd
    have := sub_len (a := a) (b := b.erase x) h2 fun y hy => (List.mem_erase_of_ne (fun e : y = x => h1 (by rw [← e]; exact hy))).2 (h y (List.mem_cons_of_mem _ hy))
    rw [List.length_erase_of_mem hx] at this
    have hb : 0 < b.length := List.length_pos_of_mem hx
    rw [List.length_cons]; omega
theorem nodup_le {n : Nat} {l : List Nat} (hd : l.Nodup) (h : ∀ x ∈ l, x < n) : l.length ≤ n := by
  have := sub_len (b := List.range n) hd fun x hx => List.mem_range.2 (h x hx)
  rwa [List.length_range] at this
theorem all_full {n : Nat} {l : List Nat} (hd : l.Nodup) (h : ∀ x ∈ l, x < n) (hl : n ≤ l.length) {i : Nat} (hi : i < n) : i ∈ l := by
  apply Classical.byContradiction
  intro hn
  have := nodup_le (n := n) (List.nodup_cons.2 ⟨hn, hd⟩) (by
    intro x hx
    rcases List.mem_cons.1 hx with rfl | hx
    · exact hi
    · exact h x hx)
  rw [List.length_cons] at this; omega
theorem some_left {n : Nat} {l : List Nat} (hl : l.length < n) : ∃ i, i < n ∧ i ∉ l := by
  apply Classical.byContradiction
  intro hn
  have := sub_len (a := List.range n) (b := l) List.nodup_range fun x hx => by
    apply Classical.byContradiction
    intro hx'
    exact hn ⟨x, List.mem_range.1 hx, hx'⟩
  rw [List.length_range] at this; omega

/-! paths -/
/-- i depends on j, among n of whom A tells who requires whom -/
inductive Dep (n : Nat) (A : Nat → Nat → Bool) : Nat → Nat → Prop
  | one {i j : Nat} (hi : i < n) (hj : j < n) (h : A i j = true) : Dep n A i j
  | more {i j k : Nat} (hi : i < n) (hj : j < n) (h : A i j = true) (hk : Dep n A j k) : Dep n A i k
variable {n : Nat} {A : Nat → Nat → Bool}
theorem Dep.lt {i j : Nat} (h : Dep n A i j) : i < n ∧ j < n := by
  induction h with
  | one hi hj _ => exact ⟨hi, hj⟩
  | more hi _ _ _ ih => exact ⟨hi, ih.2⟩
theorem Dep.trans {i j k : Nat} (h : Dep n A i j) (h2 : Dep n A j k) : Dep n A i k := by
  induction h with
  | one hi hj h => exact .more hi hj h h2
  | more hi hj h _ ih => exact .more hi hj h (ih h2)
theorem Dep.mono {B : Nat → Nat → Bool} (hAB : ∀ i j, i < n → j < n → A i j = true → B i j = true) {i j : Nat} (h : Dep n A i j) : Dep n B i j := by
  induction h with
  | one hi hj h => exact .one hi hj (hAB _ _ hi hj h)
  | more hi hj h _ ih => exact .more hi hj (hAB _ _ hi hj h) ih
/-- whoever has those whom he requires one by one has all on whom he depends -/
theorem Dep.down {D : Nat → Prop} (hD : ∀ j, D j → ∀ k, k < n → A j k = true → D k) {j k : Nat} (h : Dep n A j k) : D j → D k := by
  induction h with
  | one _ hj h => exact fun hd => hD _ hd _ hj h
  | more _ hj h _ ih => exact fun hd => ih (hD _ hd _ hj h)
theorem Dep.up {U : Nat → Prop} (hU : ∀ j, U j → ∀ k, k < n → A k j = true → U k) {j k : Nat} (h : Dep n A k j) : U j → U k := by
  induction h with
  | one hi _ h => exact fun hd => hU _ hd _ hi h
  | more hi _ h _ ih => exact fun hd => hU _ (ih hd) _ hi h
theorem Dep.first {i k : Nat} (h : Dep n A i k) : ∃ j, i < n ∧ j < n ∧ A i j = true ∧ (j = k ∨ Dep n A j k) := by
  cases h with
  | one hi hj h => exact ⟨_, hi, hj, h, Or.inl rfl⟩
  | more hi hj h hk => exact ⟨_, hi, hj, h, Or.inr hk⟩

/-! what climbing meets -/
def hs (M : List Bool) (k : Nat) : Bool := M.getD k false
theorem hs_set {M : List Bool} {j k : Nat} (hj : j < M.length) : hs (M.set j true) k = true ↔ (k = j ∨ hs M k = true) := by
  unfold hs
  rw [List.getD_eq_getElem?_getD, List.getD_eq_getElem?_getD, List.getElem?_set]
  by_cases h : j = k
  · subst h; simp [hj]
  · rw [if_neg h]
    constructor
    · exact fun h' => Or.inr h'
    · rintro (rfl | h')
      · exact absurd rfl h
      · exact h'
structure Climb (n : Nat) (A : Nat → Nat → Bool) (i : Nat) (M R : List Bool) : Prop where
  len : R.length = M.length
  sub : ∀ k, hs M k = true → hs R k = true
  new : ∀ k, hs R k = true → hs M k = true ∨ Dep n A k i
  nb : ∀ k, k < n → A k i = true → hs R k = true
  cl : ∀ k, hs R k = true → hs M k = false → ∀ q, q < n → A q k = true → hs R q = true
/-- climbing, so far as to place j -/
structure Climb0 (n : Nat) (A : Nat → Nat → Bool) (i j : Nat) (M R : List Bool) : Prop where
  len : R.length = M.length
  sub : ∀ k, hs M k = true → hs R k = true
  new : ∀ k, hs R k = true → hs M k = true ∨ Dep n A k i
  nb : ∀ k, k < j → A k i = true → hs R k = true
  cl : ∀ k, hs R k = true → hs M k = false → ∀ q, q < n → A q k = true → hs R q = true
theorem Climb0.start (n : Nat) (A : Nat → Nat → Bool) (i : Nat) (M : List Bool) : Climb0 n A i 0 M M :=
  ⟨rfl, fun _ h => h, fun _ h => Or.inl h, fun _ h => absurd h (Nat.not_lt_zero _), fun k h h' => by rw [h] at h'; cases h'⟩
theorem Climb0.skip {i j : Nat} {M R : List Bool} (h : Climb0 n A i j M R) (hj : hs R j = true ∨ A j i = false) : Climb0 n A i (j + 1) M R :=
  ⟨h.len, h.sub, h.new, fun k hk ha => by
    by_cases e : k = j
    · subst e
      rcases hj with hj | hj
      · exact hj
      · rw [hj] at ha; cases ha
    · exact h.nb k (by omega) ha, h.cl⟩
theorem Climb0.step {i j : Nat} {M R R' : List Bool} (h : Climb0 n A i j M R) (hj : j < n) (hi : i < n) (hl : j < R.length) (ha : A j i = true) (hc : Climb n A j (R.set j true) R') : Climb0 n A i (j + 1) M R' := by
  have hset : ∀ k, hs (R.set j true) k = true ↔ (k = j ∨ hs R k = true) := fun k => hs_set hl
  refine ⟨hc.len.trans ((List.length_set ..).trans h.len), fun k hk => hc.sub k ((hset k).2 (Or.inr (h.sub k hk))), fun k hk => ?_, fun k hk hka => ?_, fun k hk hkm q hq hqa => ?_⟩
  · rcases hc.new k hk with h1 | h1
    · rcases (hset k).1 h1 with rfl | h1
      · exact Or.inr (.one hj hi ha)
      · exact h.new k h1
    · exact Or.inr (h1.trans (.one hj hi ha))
  · by_cases e : k = j
    · subst e; exact hc.sub k ((hset k).2 (Or.inl rfl))
    · exact hc.sub k ((hset k).2 (Or.inr (h.nb k (by omega) hka)))
  · cases hR : hs R k with
    | true => exact hc.sub q ((hset q).2 (Or.inr (h.cl k hR hkm q hq hqa)))
    | false =>
      by_cases e : k = j
      · subst e; exact hc.nb q hq hqa
      · refine hc.cl k hk ?_ q hq hqa
        cases hs' : hs (R.set j true) k with
        | false => rfl
        | true =>
          rcases (hset k).1 hs' with h1 | h1
          · exact absurd h1 e
          · rw [hR] at h1; cases h1
theorem Climb0.done {i : Nat} {M R : List Bool} (h : Climb0 n A i n M R) : Climb n A i M R := ⟨h.len, h.sub, h.new, h.nb, h.cl⟩
theorem climb_none {i : Nat} {M R : List Bool} (h : Climb n A i M R) (hM : ∀ k, hs M k = false) (k : Nat) : hs R k = true ↔ Dep n A k i := by
  constructor
  · intro hk
    rcases h.new k hk with h1 | h1
    · rw [hM] at h1; cases h1
    · exact h1
  · intro hd
    obtain ⟨hk, hi⟩ := hd.lt
    have : ∀ a b : Nat, Dep n A a b → b = i → hs R a = true := by
      intro a b hab
      induction hab with
      | one ha hb h1 => intro e; subst e; exact h.nb _ ha h1
      | more ha hb h1 _ ih => intro e; exact h.cl _ (ih e) (hM _) _ ha h1
    exact this k i hd rfl
/-- those who are met have met all above them -/
def Closed (n : Nat) (A : Nat → Nat → Bool) (M : List Bool) : Prop := ∀ k, hs M k = true → ∀ q, q < n → A q k = true → hs M q = true
theorem climb_closed {i : Nat} {M R : List Bool} (hM : Closed n A M) (hi : i < M.length) (h : Climb n A i (M.set i true) R) : Closed n A R ∧ ∀ k, hs R k = true ↔ (hs M k = true ∨ k = i ∨ Dep n A k i) := by
  have hset : ∀ k, hs (M.set i true) k = true ↔ (k = i ∨ hs M k = true) := fun k => hs_set hi
  have hcl : Closed n A R := fun k hk q hq ha => by
    by_cases e : k = i
    · subst e; exact h.nb q hq ha
    · cases hm : hs M k with
      | true => exact h.sub q ((hset q).2 (Or.inr (hM k hm q hq ha)))
      | false =>
        refine h.cl k hk ?_ q hq ha
        cases hs' : hs (M.set i true) k with
        | false => rfl
        | true =>
          rcases (hset k).1 hs' with h1 | h1
          · exact absurd h1 e
          · rw [hm] at h1; cases h1
  refine ⟨hcl, fun k => ⟨fun hk => ?_, fun hk => ?_⟩⟩
  · rcases h.new k hk with h1 | h1
    · rcases (hset k).1 h1 with h1 | h1
      · exact Or.inr (Or.inl h1)
      · exact Or.inl h1
    · exact Or.inr (Or.inr h1)
  · rcases hk with h1 | rfl | h1
    · exact h.sub k ((hset k).2 (Or.inr h1))
    · exact h.sub k ((hset k).2 (Or.inl rfl))
    · exact h1.up (U := fun k => hs R k = true) hcl (h.sub i ((hset i).2 (Or.inl rfl)))
theorem closed_has {M : List Bool} (hM : Closed n A M) {i k : Nat} (hi : hs M i = true) (h : Dep n A k i) : hs M k = true := h.up (U := fun k => hs M k = true) hM hi
/-- how many are not met -/
def cnt (M : List Bool) : Nat := (M.filter (fun b => !b)).length
theorem cnt_set : ∀ {M : List Bool} {j : Nat}, j < M.length → hs M j = false → cnt (M.set j true) + 1 = cnt M
  | b :: M, 0, _, h => by
    have hb : b = false := h
    subst hb
    simp [cnt]
  | b :: M, j + 1, hj, h => by
    have := cnt_set (M := M) (j := j) (by simpa using hj) h
    unfold cnt at *
    rw [List.set_cons_succ, List.filter_cons, List.filter_cons]
    cases b <;> simp <;> omega
theorem cnt_le {M R : List Bool} : R.length = M.length → (∀ k, hs M k = true → hs R k = true) → cnt R ≤ cnt M := by
  induction M generalizing R with
  | nil => intro hl _; have : R = [] := List.eq_nil_of_length_eq_zero hl; subst this; exact Nat.le_refl _
  | cons b M ih =>
    intro hl h
    cases R with
    | nil => cases hl
    | cons c R =>
      have h1 := ih (R := R) (by simpa using hl) fun k hk => h (k + 1) hk
      have h0 := h 0
      unfold cnt at *
      rw [List.filter_cons, List.filter_cons]
      cases b <;> cases c <;> simp [hs] at * <;> omega
theorem cnt_lt (M : List Bool) : cnt M ≤ M.length := List.length_filter_le _ _

/-! an order -/
def edgesS (n : Nat) (A : Nat → Nat → Bool) (i : Nat) : List Nat := (List.range n).filter (A i)
theorem mem_edges {i j : Nat} : j ∈ edgesS n A i ↔ j < n ∧ A i j = true := by
  unfold edgesS; rw [List.mem_filter, List.mem_range]
/-- the least one, from j on, that does not stand, and all of whose own do -/
def ready (n : Nat) (A : Nat → Nat → Bool) (O : List Nat) (i : Nat) : Bool := !(O.contains i) && (edgesS n A i).all O.contains
def nxt (n : Nat) (A : Nat → Nat → Bool) (O : List Nat) : Option Nat := (List.range n).find? (ready n A O)
def ordS (n : Nat) (A : Nat → Nat → Bool) : Nat → List Nat → List Nat
  | 0, O => O
  | f + 1, O => match nxt n A O with
    | some i => ordS n A f (O ++ [i])
    | none => O
theorem ready_iff {O : List Nat} {i : Nat} : ready n A O i = true ↔ i ∉ O ∧ ∀ j, j < n → A i j = true → j ∈ O := by
  unfold ready
  simp only [Bool.and_eq_true, Bool.not_eq_true', List.all_eq_true, mem_edges, List.contains_iff_mem, and_imp]
  rw [Bool.eq_false_iff, ne_eq, List.contains_iff_mem]
structure Ord (n : Nat) (A : Nat → Nat → Bool) (O : List Nat) : Prop where
  nd : O.Nodup
  lt : ∀ x ∈ O, x < n
  pre : ∀ p i s, O = p ++ i :: s → ∀ j, j < n → A i j = true → j ∈ p
theorem Ord.nil : Ord n A [] := ⟨List.nodup_nil, fun x h => (by cases h), fun p i s h => by simp at h⟩
theorem nxt_some {O : List Nat} {i : Nat} (h : nxt n A O = some i) : i < n ∧ i ∉ O ∧ ∀ j, j < n → A i j = true → j ∈ O := by
  unfold nxt at h
  have h1 := List.find?_some h
  have h2 := List.mem_of_find?_eq_some h
  exact ⟨List.mem_range.1 h2, ready_iff.1 h1⟩
theorem Ord.snoc {O : List Nat} {i : Nat} (h : Ord n A O) (hi : nxt n A O = some i) : Ord n A (O ++ [i]) := by
  obtain ⟨h1, h2, h3⟩ := nxt_some hi
  refine ⟨List.nodup_append.2 ⟨h.nd, by simp, fun a ha b hb => by rw [List.mem_singleton] at hb; subst hb; exact fun e => h2 (e ▸ ha)⟩, fun x hx => ?_, fun p k s he j hj ha => ?_⟩
  · rcases List.mem_append.1 hx with hx | hx
    · exact h.lt x hx
    · rw [List.mem_singleton] at hx; subst hx; exact h1
  · rcases List.eq_nil_or_concat s with rfl | ⟨s', x, rfl⟩
    · have := List.append_inj' he rfl
      simp only [List.cons.injEq, and_true] at this
      obtain ⟨rfl, rfl⟩ := this
      exact h3 j hj ha
    · rw [List.concat_eq_append, ← List.cons_append, ← List.append_assoc] at he
      have := List.append_inj' he rfl
      exact h.pre p k s' this.1 j hj ha
theorem ordS_ord : ∀ (f : Nat) {O : List Nat}, Ord n A O → Ord n A (ordS n A f O)
  | 0, O, h => h
  | f + 1, O, h => by
    unfold ordS
    cases hn : nxt n A O with
    | none => exact h
    | some i => exact ordS_ord f (h.snoc hn)
/-- whoever is left while none is ready: somebody depends on himself -/
theorem stuck {O : List Nat} (hn : nxt n A O = none) (hl : O.length < n) : ∃ i, Dep n A i i := by
  apply Classical.byContradiction
  intro hno
  have step : ∀ i, i < n → i ∉ O → ∃ j, j < n ∧ j ∉ O ∧ A i j = true := fun i hi hiO => by
    unfold nxt at hn
    have := List.find?_eq_none.1 hn i (List.mem_range.2 hi)
    apply Classical.byContradiction
    intro hne
    refine this (ready_iff.2 ⟨hiO, fun j hj ha => ?_⟩)
    apply Classical.byContradiction
    intro hjO
    exact hne ⟨j, hj, hjO, ha⟩
  have chain : ∀ m : Nat, ∃ h t, (h :: t).Nodup ∧ (∀ x ∈ h :: t, x < n ∧ x ∉ O) ∧ (∀ y ∈ t, Dep n A y h) ∧ t.length = m := by
    intro m
    induction m with
    | zero =>
      obtain ⟨i, h1, h2⟩ := some_left hl
      exact ⟨i, [], by simp, by simpa using ⟨h1, h2⟩, by simp, rfl⟩
    | succ m ih =>
      obtain ⟨h, t, k1, k2, k3, k4⟩ := ih
      obtain ⟨h1, h2⟩ := k2 h (List.mem_cons_self ..)
      obtain ⟨j, j1, j2, j3⟩ := step h h1 h2
      have hd : ∀ y ∈ h :: t, Dep n A y j := fun y hy => by
        rcases List.mem_cons.1 hy with rfl | hy
        · exact .one h1 j1 j3
        · exact (k3 y hy).trans (.one h1 j1 j3)
      refine ⟨j, h :: t, List.nodup_cons.2 ⟨fun hj => hno ⟨j, hd j hj⟩, k1⟩, fun x hx => ?_, hd, by rw [List.length_cons, k4]⟩
      rcases List.mem_cons.1 hx with rfl | hx
      · exact ⟨j1, j2⟩
      · exact k2 x hx
  obtain ⟨h, t, k1, k2, k3, k4⟩ := chain n
  have := nodup_le k1 fun x hx => (k2 x hx).1
  rw [List.length_cons] at this; omega
theorem ord_dep {O : List Nat} (h : Ord n A O) {i j : Nat} (hd : Dep n A i j) : ∀ p s, O = p ++ i :: s → j ∈ p := by
  induction hd with
  | one hi hj ha => intro p s he; exact h.pre p _ s he _ hj ha
  | more hi hj ha _ ih =>
    intro p s he
    have h1 := h.pre p _ s he _ hj ha
    obtain ⟨p1, s1, rfl⟩ := List.append_of_mem h1
    have h2 := ih p1 _ (by rw [he, List.append_assoc, List.cons_append])
    exact List.mem_append.2 (Or.inl h2)
theorem ord_acyclic {O : List Nat} (h : Ord n A O) (hl : n ≤ O.length) (i : Nat) : ¬ Dep n A i i := fun hd => by
  have hi := all_full h.nd h.lt hl hd.lt.1
  obtain ⟨p, s, he⟩ := List.append_of_mem hi
  have h1 := ord_dep h hd p s he
  have h2 := h.nd
  rw [he] at h2
  exact (List.nodup_append.1 h2).2.2 i h1 i (List.mem_cons_self ..) rfl
theorem nxt_full {O : List Nat} (h : Ord n A O) (hl : n ≤ O.length) : nxt n A O = none := by
  cases hn : nxt n A O with
  | none => rfl
  | some i =>
    obtain ⟨h1, h2, _⟩ := nxt_some hn
    exact absurd (all_full h.nd h.lt hl h1) h2
/-- with room for n, the order ends where none is ready -/
theorem ordS_end : ∀ (f : Nat) {O : List Nat}, Ord n A O → n < O.length + f → nxt n A (ordS n A f O) = none
  | 0, O, h, hf => by
    have := nodup_le h.nd h.lt
    omega
  | f + 1, O, h, hf => by
    unfold ordS
    cases hn : nxt n A O with
    | none => exact hn
    | some i => exact ordS_end f (h.snoc hn) (by rw [List.length_append, List.length_singleton]; omega)
theorem ordS_full (f : Nat) (hf : n < f) : (ordS n A f []).length = n ↔ ∀ i, ¬ Dep n A i i := by
  have ho := ordS_ord f (Ord.nil (n := n) (A := A))
  have he := ordS_end f (Ord.nil (n := n) (A := A)) (by simpa using hf)
  have hl := nodup_le ho.nd ho.lt
  constructor
  · intro h i hd; exact ord_acyclic ho (by omega) i hd
  · intro h
    apply Classical.byContradiction
    intro hne
    obtain ⟨i, hd⟩ := stuck he (by omega)
    exact h i hd
/-! those on whom one depends, one behind the other -/
structure Down (n : Nat) (A : Nat → Nat → Bool) (i k : Nat) (D : List Nat) : Prop where
  nd : D.Nodup
  dep : ∀ x ∈ D, Dep n A i x
  own : ∀ j, j < n → A i j = true → j ∈ D
  cl : ∀ q, q < k → ∀ x, D[q]? = some x → ∀ j, j < n → A x j = true → j ∈ D
theorem Down.start {i : Nat} (hi : i < n) : Down n A i 0 (edgesS n A i) :=
  ⟨List.nodup_range.filter _, fun x hx => by obtain ⟨h1, h2⟩ := mem_edges.1 hx; exact .one hi h1 h2, fun j hj ha => mem_edges.2 ⟨hj, ha⟩, fun q hq => absurd hq (Nat.not_lt_zero _)⟩
def addN (D : List Nat) : List Nat → List Nat
  | [] => D
  | x :: l => addN (if D.contains x then D else D ++ [x]) l
theorem addN_pre : ∀ (l : List Nat) (D : List Nat), ∃ s, addN D l = D ++ s
  | [], D => ⟨[], by simp [addN]⟩
  | x :: l, D => by
    unfold addN
    by_cases h : D.contains x = true
    · rw [if_pos h]; exact addN_pre l D
    · rw [if_neg h]
      obtain ⟨s, hs⟩ := addN_pre l (D ++ [x])
      exact ⟨[x] ++ s, by rw [hs, List.append_assoc]⟩
theorem addN_mem : ∀ (l : List Nat) (D : List Nat) (y : Nat), y ∈ addN D l ↔ y ∈ D ∨ y ∈ l
  | [], D, y => by simp [addN]
  | x :: l, D, y => by
    unfold addN
    rw [addN_mem l, List.mem_cons]
    by_cases h : D.contains x = true
    · rw [if_pos h]
      have hx : x ∈ D := List.contains_iff_mem.1 h
      constructor
      · rintro (h1 | h1)
        · exact Or.inl h1
        · exact Or.inr (Or.inr h1)
      · rintro (h1 | rfl | h1)
        · exact Or.inl h1
        · exact Or.inl hx
        · exact Or.inr h1
    · rw [if_neg h, List.mem_append, List.mem_singleton]
      constructor
      · rintro ((h1 | h1) | h1)
        · exact Or.inl h1
        · exact Or.inr (Or.inl h1)
        · exact Or.inr (Or.inr h1)
      · rintro (h1 | h1 | h1)
        · exact Or.inl (Or.inl h1)
        · exact Or.inl (Or.inr h1)
        · exact Or.inr h1
theorem addN_nd : ∀ (l : List Nat) (D : List Nat), D.Nodup → (addN D l).Nodup
  | [], D, h => h
  | x :: l, D, h => by
    unfold addN
    by_cases hc : D.contains x = true
    · rw [if_pos hc]; exact addN_nd l D h
    · rw [if_neg hc]
      refine addN_nd l _ (List.nodup_append.2 ⟨h, by simp, fun a ha b hb => ?_⟩)
      rw [List.mem_singleton] at hb; subst hb
      exact fun e => hc (List.contains_iff_mem.2 (e ▸ ha))
theorem Down.step {i k : Nat} {D : List Nat} (h : Down n A i k D) {x : Nat} (hx : D[k]? = some x) : Down n A i (k + 1) (addN D (edgesS n A x)) := by
  have hxD : x ∈ D := List.mem_of_getElem? hx
  obtain ⟨s, hs⟩ := addN_pre (edgesS n A x) D
  refine ⟨addN_nd _ _ h.nd, fun y hy => ?_, fun j hj ha => (addN_mem _ _ _).2 (Or.inl (h.own j hj ha)), fun q hq y hy j hj ha => ?_⟩
  · rcases (addN_mem _ _ _).1 hy with h1 | h1
    · exact h.dep y h1
    · obtain ⟨h2, h3⟩ := mem_edges.1 h1
      exact (h.dep x hxD).trans (.one (h.dep x hxD).lt.2 h2 h3)
  · have hkD : k < D.length := (List.getElem?_eq_some_iff.1 hx).1
    rw [hs, List.getElem?_append_left (by omega)] at hy
    by_cases e : q = k
    · subst e
      rw [hx] at hy
      obtain rfl := Option.some.inj hy
      exact (addN_mem _ _ _).2 (Or.inr (mem_edges.2 ⟨hj, ha⟩))
    · exact (addN_mem _ _ _).2 (Or.inl (h.cl q (by omega) y hy j hj ha))
theorem Down.len {i k : Nat} {D : List Nat} (h : Down n A i k D) : D.length ≤ n := nodup_le h.nd fun x hx => (h.dep x hx).lt.2
theorem Down.done {i k : Nat} {D : List Nat} (h : Down n A i k D) (hk : D.length ≤ k) (x : Nat) : x ∈ D ↔ Dep n A i x := by
  constructor
  · exact h.dep x
  · intro hd
    have hcl : ∀ j, j ∈ D → ∀ q, q < n → A j q = true → q ∈ D := fun j hj q hq ha => by
      obtain ⟨p, hp, rfl⟩ := List.getElem_of_mem hj
      exact h.cl p (by omega) _ (List.getElem?_eq_getElem hp) q hq ha
    obtain ⟨j, hi, hj, ha, h1⟩ := hd.first
    have hjD := h.own j hj ha
    rcases h1 with rfl | h1
    · exact hjD
    · exact h1.down (D := fun x => x ∈ D) hcl hjD
end Go.Proofs.YtgdlfnlakfahcaaGreatDoor.AM.Gr

/- Layer 16: what the program's functions come to: Check, requires, edges, Edges; arrays of twelve bools. -/
namespace Go.Proofs.YtgdlfnlakfahcaaGreatDoor.AM
open Go.RowKit Gr
set_option linter.unusedVariables false
set_option linter.unusedSimpArgs false
abbrev RD : Type := List UInt8 × (Int × (Int × (Int × (List UInt8 × List UInt8))))
abbrev MD : Type := List UInt8 × (List UInt8 × List RD)
def reqS (m : MD) (p : List UInt8) : Bool := m.2.2.any fun r => decide (r.1 = p)
def adj (l : List MD) (i j : Nat) : Bool := match l[i]?, l[j]? with
  | some a, some b => reqS a b.2.1
  | _, _ => false
theorem adj_lt {l : List MD} {i j : Nat} (hi : i < l.length) (hj : j < l.length) : adj l i j = reqS l[i] l[j].2.1 := by
  unfold adj; rw [List.getElem?_eq_getElem hi, List.getElem?_eq_getElem hj]
def SmL (l : List MD) : Prop := l.length ≤ 20 ∧ ∀ m ∈ l, m.2.1.length ≤ 200 ∧ m.2.2.length ≤ 31
def iL (l : List Nat) : List Int := l.map fun k => ((k : Nat) : Int)
theorem iL_app (a b : List Nat) : iL (a ++ b) = iL a ++ iL b := List.map_append
theorem iL_len (a : List Nat) : (iL a).length = a.length := List.length_map ..
theorem letO_eq {α β : Type} (x : β) (f : β → Option α) : letO x f = f x := rfl

/-! requires -/
theorem gIdxR_loop (n : Nat) (l : List RD) (p : List UInt8) (hl : l.length ≤ 1000) : ∀ m j : Nat, j ≤ l.length → l.length - j < m →
    ∃ k : Nat, gIdxR_loop0 n m l ((l.length : Nat) : Int) (j : Int) p = some (bif (l.drop j).any (fun r => decide (r.1 = p)) then Sum.inl (((k : Int), ()), ((p, ()), ())) else Sum.inr ((), ((p, ()), ())))
  | 0, j, _, h => absurd h (Nat.not_lt_zero _)
  | m + 1, j, hj, h => by
    rw [gIdxR_loop0_succ]
    unfold gIdxR_l0
    by_cases c : j < l.length
    · rw [decide_eq_true (by omega), cond_true, idx_lt c, Option.bind_some]
      unfold gReq1_t
      rw [Option.bind_some, List.drop_eq_getElem_cons c, List.any_cons]
      by_cases e : l[j].1 = p
      · refine ⟨j, ?_⟩
        rw [decide_eq_true e, cond_true, Bool.true_or, cond_true]
      · obtain ⟨k, hk⟩ := gIdxR_loop n l p hl m (j + 1) (by omega) (by omega)
        refine ⟨k, ?_⟩
        rw [decide_eq_false e, cond_false, Bool.false_or, letO_eq, wrap_succ (by omega)]
        exact hk
    · obtain rfl : j = l.length := by omega
      refine ⟨0, ?_⟩
      rw [decide_eq_false (by omega), cond_false, List.drop_length]; rfl
theorem gReq_spec (n : Nat) (m : MD) (p : List UInt8) (hl : m.2.2.length ≤ 1000) (hn : 1000 < n) : gReq_t n m p = some (reqS m p) := by
  obtain ⟨k, hk⟩ := gIdxR_loop n m.2.2 p hl n 0 (Nat.zero_le _) (by omega)
  have hk' : gIdxR_loop0 n n m.2.2 ((m.2.2.length : Nat) : Int) (0 : Int) p = some (bif reqS m p then Sum.inl (((k : Int), ()), ((p, ()), ())) else Sum.inr ((), ((p, ()), ()))) := hk
  unfold gReq_t gCtR_t gIdxR_t
  rw [hk']
  cases reqS m p with
  | true =>
    simp only [cond_true, Option.bind_some, Sum.elim_inl]
    rw [decide_eq_true (by omega)]
  | false => rfl

/-! Check -/
def dupP : List (List UInt8) → List (List UInt8) → Bool
  | _, [] => false
  | pre, x :: xs => pre.any (fun y => decide (y = x)) || dupP (pre ++ [x]) xs
def chkP (ps : List (List UInt8)) : Int := if 12 < ps.length then 1 else bif ps.all okS then (bif dupP [] ps then 11 else 0) else 6
def pthS (l : List MD) : List (List UInt8) := l.map fun m => m.2.1
def chkS (l : List MD) : Int := chkP (pthS l)
theorem gCtM_spec (n : Nat) (l : List MD) (x : MD) (hl : l.length ≤ 1000) (hn : 1000 < n) : gCtM_t n l () x.1 x.2.1 x.2.2 = some (l.any (fun o => decide (o.2.1 = x.2.1)), (((x.1, (x.2.1, x.2.2)), ()), ())) := by
  have loop : ∀ m j : Nat, j ≤ l.length → l.length - j < m →
      ∃ k : Nat, gIdxM_loop0 n m l ((l.length : Nat) : Int) (j : Int) x.1 x.2.1 x.2.2 = some (bif (l.drop j).any (fun o => decide (o.2.1 = x.2.1)) then Sum.inl (((k : Int), ()), (((x.1, (x.2.1, x.2.2)), ()), ())) else Sum.inr ((), (((x.1, (x.2.1, x.2.2)), ()), ()))) := by
    intro m
    induction m with
    | zero => intro j _ h; exact absurd h (Nat.not_lt_zero _)
    | succ m ih =>
      intro j hj h
      rw [gIdxM_loop0_succ]
      unfold gIdxM_l0
      by_cases c : j < l.length
      · rw [decide_eq_true (by omega), cond_true, idx_lt c, Option.bind_some]
        unfold gChk1_t
        rw [Option.bind_some, List.drop_eq_getElem_cons c, List.any_cons]
        by_cases e : l[j].2.1 = x.2.1
        · refine ⟨j, ?_⟩
          rw [decide_eq_true e, cond_true, Bool.true_or, cond_true]
        · obtain ⟨k, hk⟩ := ih (j + 1) (by omega) (by omega)
          refine ⟨k, ?_⟩
          rw [decide_eq_false e, cond_false, Bool.false_or, letO_eq, wrap_succ (by omega)]
          exact hk
      · obtain rfl : j = l.length := by omega
        refine ⟨0, ?_⟩
        rw [decide_eq_false (by omega), cond_false, List.drop_length]; rfl
  obtain ⟨k, hk⟩ := loop n 0 (Nat.zero_le _) (by omega)
  have hk' : gIdxM_loop0 n n l ((l.length : Nat) : Int) (0 : Int) x.1 x.2.1 x.2.2 = some (bif l.any (fun o => decide (o.2.1 = x.2.1)) then Sum.inl (((k : Int), ()), (((x.1, (x.2.1, x.2.2)), ()), ())) else Sum.inr ((), (((x.1, (x.2.1, x.2.2)), ()), ()))) := hk
  unfold gCtM_t gIdxM_t
  rw [hk']
  cases l.any (fun o => decide (o.2.1 = x.2.1)) with
  | true =>
    simp only [cond_true, Option.bind_some, Sum.elim_inl]
    rw [decide_eq_true (by omega)]
  | false => rfl
theorem pth_take (l : List MD) (j : Nat) (x : List UInt8) : (l.take j).any (fun o => decide (o.2.1 = x)) = ((pthS l).take j).any (fun y => decide (y = x)) := by
  unfold pthS; rw [← List.map_take, List.any_map]; rfl
theorem pth_len (l : List MD) : (pthS l).length = l.length := List.length_map ..
theorem dup_step {ps : List (List UInt8)} {j : Nat} (c : j < ps.length) : dupP (ps.take j) (ps.drop j) = ((ps.take j).any (fun y => decide (y = ps[j])) || dupP (ps.take (j + 1)) (ps.drop (j + 1))) := by
  rw [List.drop_eq_getElem_cons c, dupP, List.take_succ_eq_append_getElem c]
theorem gCheck_loopA (n : Nat) (l : List MD) (hl : SmL l) (hn : 100000 < n) : ∀ m j : Nat, j ≤ l.length → l.length - j < m →
    gCheck_loop0 n m l l ((l.length : Nat) : Int) (j : Int) = some (bif ((pthS l).drop j).all okS then Sum.inr ((l, ()), ((), ())) else Sum.inl (((6 : Int), ()), ((), ())))
  | 0, j, _, h => absurd h (Nat.not_lt_zero _)
  | m + 1, j, hj, h => by
    have h20 := hl.1
    rw [gCheck_loop0_succ]
    unfold gCheck_l0
    by_cases c : j < l.length
    · have hp := (hl.2 _ (List.getElem_mem c)).1
      have c' : j < (pthS l).length := by rw [pth_len]; exact c
      have hx : (pthS l)[j] = l[j].2.1 := by simp [pthS]
      rw [decide_eq_true (by omega), cond_true, idx_lt c, Option.bind_some, mCheck_spec n _ (by omega) (by omega), Option.bind_some, List.drop_eq_getElem_cons c', List.all_cons, hx]
      cases okS l[j].2.1 with
      | false => rfl
      | true =>
        rw [Bool.not_true, cond_false, letO_eq, wrap_succ (by omega), Bool.true_and]
        exact gCheck_loopA n l hl hn m (j + 1) (by omega) (by omega)
    · obtain rfl : j = l.length := by omega
      rw [decide_eq_false (by omega), cond_false, ← pth_len l, List.drop_length]; rfl
theorem gCheck_loopB (n : Nat) (l : List MD) (hl : SmL l) (hn : 100000 < n) : ∀ m j : Nat, j ≤ l.length → l.length - j < m →
    gCheck_loop1 n m l l ((l.length : Nat) : Int) (j : Int) = some (bif dupP ((pthS l).take j) ((pthS l).drop j) then Sum.inl (((11 : Int), ()), ((), ())) else Sum.inr ((), ((), ())))
  | 0, j, _, h => absurd h (Nat.not_lt_zero _)
  | m + 1, j, hj, h => by
    have h20 := hl.1
    rw [gCheck_loop1_succ]
    unfold gCheck_l1
    by_cases c : j < l.length
    · have c' : j < (pthS l).length := by rw [pth_len]; exact c
      have hx : (pthS l)[j] = l[j].2.1 := by simp [pthS]
      rw [decide_eq_true (by omega), cond_true, idx_lt c, Option.bind_some, sub_zero (by omega), Option.bind_some, gCtM_spec n (l.take j) l[j] (by rw [List.length_take]; omega) (by omega), Option.bind_some, pth_take, dup_step c', hx]
      cases ((pthS l).take j).any (fun y => decide (y = l[j].2.1)) with
      | true => rfl
      | false =>
        rw [cond_false, letO_eq, wrap_succ (by omega), Bool.false_or]
        exact gCheck_loopB n l hl hn m (j + 1) (by omega) (by omega)
    · obtain rfl : j = l.length := by omega
      rw [decide_eq_false (by omega), cond_false, ← pth_len l, List.drop_length]; rfl
theorem gCheck_spec (n : Nat) (l : List MD) (hl : SmL l) (hn : 100000 < n) : gCheck_t n l = some (chkS l) := by
  have h20 := hl.1
  have hA := gCheck_loopA n l hl hn n 0 (Nat.zero_le _) (by omega)
  have hB := gCheck_loopB n l hl hn n 0 (Nat.zero_le _) (by omega)
  unfold gCheck_t chkS chkP
  rw [pth_len]
  by_cases c : 12 < l.length
  · rw [decide_eq_true (by omega), cond_true, if_pos c]
  · rw [decide_eq_false (by omega), cond_false, if_neg c]
    have hA' : gCheck_loop0 n n l l ((l.length : Nat) : Int) (0 : Int) = some (bif (pthS l).all okS then Sum.inr ((l, ()), ((), ())) else Sum.inl (((6 : Int), ()), ((), ()))) := hA
    rw [hA', Option.bind_some]
    cases (pthS l).all okS with
    | false => rfl
    | true =>
      have hB' : gCheck_loop1 n n l l ((l.length : Nat) : Int) (0 : Int) = some (bif dupP [] (pthS l) then Sum.inl (((11 : Int), ()), ((), ())) else Sum.inr ((), ((), ()))) := hB
      rw [cond_true, Sum.elim_inr]
      show (gCheck_loop1 n n l l ((l.length : Nat) : Int) (0 : Int)).bind _ = _
      rw [hB', Option.bind_some]
      cases dupP [] (pthS l) <;> rfl
theorem chk_len {l : List MD} (h : chkS l = 0) : l.length ≤ 12 := by
  unfold chkS chkP at h
  rw [pth_len] at h
  by_cases c : 12 < l.length
  · rw [if_pos c] at h; cases h
  · omega
/-! edges -/
theorem gedges_loop (n : Nat) (l : List MD) (i : Nat) (hi : i < l.length) (hl : SmL l) (hn : 100000 < n) : ∀ m j : Nat, ∀ acc : List Int, acc.length ≤ j → j ≤ l.length → l.length - j < m →
    gedges_loop0 n m l (i : Int) l ((l.length : Nat) : Int) (j : Int) acc = some (((), ()), ((), (acc ++ iL ((List.range' j (l.length - j)).filter (adj l i)), ())))
  | 0, j, _, _, _, h => absurd h (Nat.not_lt_zero _)
  | m + 1, j, acc, ha, hj, h => by
    have h20 := hl.1
    rw [gedges_loop0_succ]
    unfold gedges_l0
    by_cases c : j < l.length
    · have hr := (hl.2 _ (List.getElem_mem hi)).2
      obtain ⟨k, hk⟩ : ∃ k, l.length - j = k + 1 := ⟨l.length - j - 1, by omega⟩
      have hk' : l.length - (j + 1) = k := by omega
      rw [decide_eq_true (by omega), cond_true, idx_lt c, Option.bind_some, idx_lt hi, Option.bind_some, gReq_spec n _ _ (by omega) (by omega), Option.bind_some, ← adj_lt hi c, hk, List.range'_succ, List.filter_cons]
      cases ha' : adj l i j with
      | true =>
        rw [cond_true, if_pos rfl, app_le (by simp; omega), Option.bind_some, letO_eq, wrap_succ (by omega)]
        refine (gedges_loop n l i hi hl hn m (j + 1) _ (by simp; omega) (by omega) (by omega)).trans ?_
        rw [hk']
        simp [iL]
      | false =>
        rw [cond_false, if_neg (by decide), letO_eq, wrap_succ (by omega)]
        refine (gedges_loop n l i hi hl hn m (j + 1) _ (by omega) (by omega) (by omega)).trans ?_
        rw [hk']
    · obtain rfl : j = l.length := by omega
      rw [decide_eq_false (by omega), cond_false, Nat.sub_self]
      simp [iL]
theorem gedges_spec (n : Nat) (l : List MD) (i : Nat) (hi : i < l.length) (hl : SmL l) (hn : 100000 < n) : gedges_t n l (i : Int) = some (iL (edgesS l.length (adj l) i)) := by
  have h20 := hl.1
  have := gedges_loop n l i hi hl hn n 0 [] (Nat.le_refl _) (Nat.zero_le _) (by omega)
  unfold gedges_t edgesS
  rw [List.range_eq_range']
  have h' : gedges_loop0 n n l (i : Int) l ((l.length : Nat) : Int) (0 : Int) [] = some (((), ()), ((), ([] ++ iL ((List.range' 0 (l.length - 0)).filter (adj l i)), ()))) := this
  rw [h', Option.bind_some, List.nil_append, Nat.sub_zero]
/-- whom the module at a place requires; nothing, if there is no such place, or something is wrong -/
def edgS (l : List MD) (i : Int) : List Nat := if chkS l = 0 ∧ 0 ≤ i ∧ i < (l.length : Int) then edgesS l.length (adj l) i.toNat else []
theorem gEdges_spec (n : Nat) (l : List MD) (i : Int) (hl : SmL l) (hn : 100000 < n) : gEdges_t n l i = some (iL (edgS l i)) := by
  unfold gEdges_t gIsPl_t edgS
  rw [gCheck_spec n l hl hn, Option.bind_some]
  by_cases c : chkS l = 0
  · rw [decide_eq_true c, Bool.not_true, cond_false]
    by_cases h0 : 0 ≤ i
    · rw [decide_eq_true h0, cond_true, Option.bind_some]
      by_cases h1 : i < (l.length : Int)
      · obtain ⟨k, rfl⟩ := Int.eq_ofNat_of_zero_le h0
        rw [decide_eq_true h1, Bool.not_true, cond_false, gedges_spec n l k (by omega) hl hn, Option.bind_some, if_pos ⟨c, h0, h1⟩, Int.toNat_natCast]
      · rw [decide_eq_false h1, Bool.not_false, cond_true, if_neg (fun h => h1 h.2.2)]; rfl
    · rw [decide_eq_false h0, cond_false, Option.bind_some, Bool.not_false, cond_true, if_neg (fun h => h0 h.2.1)]; rfl
  · rw [decide_eq_false c, Bool.not_false, cond_true, if_neg (fun h => c h.1)]; rfl
theorem edgS_nat {l : List MD} (h : chkS l = 0) {i : Nat} (hi : i < l.length) : edgS l (i : Int) = edgesS l.length (adj l) i := by
  unfold edgS; rw [if_pos ⟨h, by omega, by omega⟩, Int.toNat_natCast]

/-! twelve bools -/
abbrev B12T : Type := Bool × (Bool × (Bool × (Bool × (Bool × (Bool × (Bool × (Bool × (Bool × (Bool × (Bool × Bool))))))))))
def P12 (M : List Bool) : B12T := (M.getD 0 false, (M.getD 1 false, (M.getD 2 false, (M.getD 3 false, (M.getD 4 false, (M.getD 5 false, (M.getD 6 false, (M.getD 7 false, (M.getD 8 false, (M.getD 9 false, (M.getD 10 false, M.getD 11 false)))))))))))
def ap12 {β : Type} (f : Bool → Bool → Bool → Bool → Bool → Bool → Bool → Bool → Bool → Bool → Bool → Bool → β) (M : List Bool) : β :=
  f (M.getD 0 false) (M.getD 1 false) (M.getD 2 false) (M.getD 3 false) (M.getD 4 false) (M.getD 5 false) (M.getD 6 false) (M.getD 7 false) (M.getD 8 false) (M.getD 9 false) (M.getD 10 false) (M.getD 11 false)
theorem lit12 {M : List Bool} (hM : M.length = 12) : [M.getD 0 false, M.getD 1 false, M.getD 2 false, M.getD 3 false, M.getD 4 false, M.getD 5 false, M.getD 6 false, M.getD 7 false, M.getD 8 false, M.getD 9 false, M.getD 10 false, M.getD 11 false] = M := by
  match M, hM with
  | [_, _, _, _, _, _, _, _, _, _, _, _], _ => rfl
theorem nth_hs {M : List Bool} {k : Nat} (hk : k < M.length) : nth M k = some (hs M k) := by
  unfold hs; rw [nth_lt hk, List.getD_eq_getElem?_getD, List.getElem?_eq_getElem hk]; rfl
theorem inA_nat {k len : Nat} (hk : k < len) : inA (k : Int) len = true := by
  unfold inA; rw [decide_eq_true (by omega), decide_eq_true (by omega)]; rfl
theorem upd_get {M : List Bool} {j k : Nat} (y : Bool) (hk : k < M.length) : upd1 k (j : Int) y (M.getD k false) = (M.set j y).getD k false := by
  unfold upd1
  rw [Int.toNat_natCast, List.getD_eq_getElem?_getD, List.getD_eq_getElem?_getD, List.getElem?_set]
  by_cases h : k = j
  · subst h
    rw [Nat.beq_refl, cond_true, if_pos rfl, if_pos hk]; rfl
  · have hb : Nat.beq k j = false := by
      cases hb : Nat.beq k j with
      | false => rfl
      | true => exact absurd (Nat.eq_of_beq_eq_true hb) h
    rw [hb, cond_false, if_neg (fun e => h e.symm)]
theorem upd_ap {β : Type} {M : List Bool} {j : Nat} (y : Bool) (hM : M.length = 12) (f : Bool → Bool → Bool → Bool → Bool → Bool → Bool → Bool → Bool → Bool → Bool → Bool → β) :
    f (upd1 0 (j : Int) y (M.getD 0 false)) (upd1 1 (j : Int) y (M.getD 1 false)) (upd1 2 (j : Int) y (M.getD 2 false)) (upd1 3 (j : Int) y (M.getD 3 false)) (upd1 4 (j : Int) y (M.getD 4 false)) (upd1 5 (j : Int) y (M.getD 5 false)) (upd1 6 (j : Int) y (M.getD 6 false)) (upd1 7 (j : Int) y (M.getD 7 false)) (upd1 8 (j : Int) y (M.getD 8 false)) (upd1 9 (j : Int) y (M.getD 9 false)) (upd1 10 (j : Int) y (M.getD 10 false)) (upd1 11 (j : Int) y (M.getD 11 false)) = ap12 f (M.set j y) := by
  unfold ap12
  rw [upd_get _ (by omega), upd_get _ (by omega), upd_get _ (by omega), upd_get _ (by omega), upd_get _ (by omega), upd_get _ (by omega), upd_get _ (by omega), upd_get _ (by omega), upd_get _ (by omega), upd_get _ (by omega), upd_get _ (by omega), upd_get _ (by omega)]
end Go.Proofs.YtgdlfnlakfahcaaGreatDoor.AM

/- Layer 16: what the program's functions come to: haveAll, next, places, climb, Cyclic, Order, Up. -/
namespace Go.Proofs.YtgdlfnlakfahcaaGreatDoor.AM
open Go.RowKit Gr
set_option linter.unusedVariables false
set_option linter.unusedSimpArgs false

/-! those of a list of numbers of whom something holds -/
def IsF (n : Nat) (P : Nat → Prop) (L : List Nat) : Prop := ∃ p : Nat → Bool, L = (List.range n).filter p ∧ ∀ k, k < n → (p k = true ↔ P k)
theorem IsF.eq {n : Nat} {P Q : Nat → Prop} {L L' : List Nat} (h : IsF n P L) (h' : IsF n Q L') (hPQ : ∀ k, k < n → (P k ↔ Q k)) : L = L' := by
  obtain ⟨p, rfl, hp⟩ := h
  obtain ⟨q, rfl, hq⟩ := h'
  apply List.filter_congr
  intro k hk
  have hk' := List.mem_range.1 hk
  have := ((hp k hk').trans (hPQ k hk')).trans (hq k hk').symm
  cases hpk : p k <;> cases hqk : q k <;> simp_all
theorem IsF.mem {n : Nat} {P : Nat → Prop} {L : List Nat} (h : IsF n P L) (k : Nat) : k ∈ L ↔ k < n ∧ P k := by
  obtain ⟨p, rfl, hp⟩ := h
  rw [List.mem_filter, List.mem_range]
  constructor
  · exact fun ⟨h1, h2⟩ => ⟨h1, (hp k h1).1 h2⟩
  · exact fun ⟨h1, h2⟩ => ⟨h1, (hp k h1).2 h2⟩
theorem IsF.lt {n : Nat} {P : Nat → Prop} {L : List Nat} (h : IsF n P L) : L.length ≤ n := by
  obtain ⟨p, rfl, hp⟩ := h
  have := List.length_filter_le p (List.range n)
  rwa [List.length_range] at this
theorem range_more {f : Nat → Bool} {n : Nat} : ∀ d : Nat, (∀ k, n ≤ k → f k = false) → (List.range (n + d)).filter f = (List.range n).filter f
  | 0, _ => rfl
  | d + 1, h => by
    rw [← Nat.add_assoc, List.range_succ, List.filter_append, range_more d h, List.filter_cons, h _ (by omega)]
    simp
theorem hs_out {M : List Bool} {k : Nat} (h : M.length ≤ k) : hs M k = false := by
  unfold hs; rw [List.getD_eq_getElem?_getD, List.getElem?_eq_none h]; rfl

/-! haveAll, places -/
theorem gIdxI_loop (n : Nat) (L : List Nat) (M : List Bool) (hM : M.length = 12) (hL : ∀ x ∈ L, x < 12) (hl : L.length ≤ 1000) : ∀ m j : Nat, j ≤ L.length → L.length - j < m →
    ∃ k : Nat, ap12 (gIdxI_loop0 n m (iL L) ((L.length : Nat) : Int) (j : Int)) M = some (bif (L.drop j).any (fun x => !(hs M x)) then Sum.inl (((k : Int), ()), (((), ((P12 M, ()))), ())) else Sum.inr ((), (((), (P12 M, ())), ())))
  | 0, j, _, h => absurd h (Nat.not_lt_zero _)
  | m + 1, j, hj, h => by
    unfold ap12
    rw [gIdxI_loop0_succ]
    unfold gIdxI_l0
    by_cases c : j < L.length
    · have hx := hL _ (List.getElem_mem c)
      have hi : idxL (iL L) (j : Int) = some ((L[j] : Nat) : Int) := by
        rw [idx_lt (by rw [iL_len]; exact c)]; simp [iL]
      rw [decide_eq_true (by omega), cond_true, hi, Option.bind_some]
      unfold gHav1_t
      rw [inA_nat hx, cond_true, lit12 hM, Int.toNat_natCast, nth_hs (by omega), Option.bind_some, Option.bind_some, List.drop_eq_getElem_cons c, List.any_cons]
      cases hs M L[j] with
      | false => exact ⟨j, rfl⟩
      | true =>
        obtain ⟨k, hk⟩ := gIdxI_loop n L M hM hL hl m (j + 1) (by omega) (by omega)
        refine ⟨k, ?_⟩
        rw [Bool.not_true, cond_false, Bool.false_or, letO_eq, wrap_succ (by omega)]
        exact hk
    · obtain rfl : j = L.length := by omega
      refine ⟨0, ?_⟩
      rw [decide_eq_false (by omega), cond_false, List.drop_length]; rfl
theorem not_any {L : List Nat} {f : Nat → Bool} : (!L.any (fun x => !(f x))) = L.all f := by
  induction L with
  | nil => rfl
  | cons x L ih => rw [List.any_cons, List.all_cons, ← ih]; cases f x <;> simp
theorem gHave_spec (n : Nat) (L : List Nat) (M : List Bool) (hM : M.length = 12) (hL : ∀ x ∈ L, x < 12) (hl : L.length ≤ 1000) (hn : 1000 < n) : ap12 (gHave_t n () (iL L)) M = some (L.all (hs M), ((P12 M, ()), ())) := by
  obtain ⟨k, hk⟩ := gIdxI_loop n L M hM hL hl n 0 (Nat.zero_le _) (by omega)
  rw [List.drop_zero] at hk
  rw [← not_any]
  unfold ap12 at hk
  unfold ap12 gHave_t gCtI_t gIdxI_t
  rw [iL_len]
  have hk' := hk
  rw [show ((0 : Nat) : Int) = (0 : Int) from rfl] at hk'
  rw [hk']
  cases L.any (fun x => !(hs M x)) with
  | true =>
    simp only [cond_true, Option.bind_some, Sum.elim_inl]
    rw [decide_eq_true (by omega)]
  | false => rfl
theorem gPlaces_loop (n : Nat) (M : List Bool) (hM : M.length = 12) : ∀ m j : Nat, ∀ acc : List Int, acc.length ≤ j → j ≤ 12 → 12 - j < m →
    ap12 (gPlaces_loop0 n m (j : Int)) M acc = some (((), ()), ((P12 M, ()), (acc ++ iL ((List.range' j (12 - j)).filter (hs M)), ())))
  | 0, j, _, _, _, h => absurd h (Nat.not_lt_zero _)
  | m + 1, j, acc, ha, hj, h => by
    unfold ap12
    rw [gPlaces_loop0_succ]
    unfold gPlaces_l0
    by_cases c : j < 12
    · obtain ⟨k, hk⟩ : ∃ k, 12 - j = k + 1 := ⟨12 - j - 1, by omega⟩
      have hk' : 12 - (j + 1) = k := by omega
      rw [decide_eq_true (by omega), cond_true, inA_nat c, cond_true, lit12 hM, Int.toNat_natCast, nth_hs (by omega), Option.bind_some, hk, List.range'_succ, List.filter_cons]
      cases hs M j with
      | true =>
        rw [cond_true, if_pos rfl, app_le (by simp; omega), Option.bind_some, letO_eq, wrap_succ (by omega)]
        refine (gPlaces_loop n M hM m (j + 1) _ (by simp; omega) (by omega) (by omega)).trans ?_
        rw [hk']
        simp [iL]
      | false =>
        rw [cond_false, if_neg (by decide), letO_eq, wrap_succ (by omega)]
        refine (gPlaces_loop n M hM m (j + 1) _ (by omega) (by omega) (by omega)).trans ?_
        rw [hk']
    · obtain rfl : j = 12 := by omega
      rw [decide_eq_false (by omega), cond_false, Nat.sub_self]
      simp [iL, P12]
theorem gPlaces_spec (n : Nat) (M : List Bool) (hM : M.length = 12) (hn : 1000 < n) {k : Nat} (hk : k ≤ 12) (hh : ∀ q, hs M q = true → q < k) : ap12 (gPlaces_t n ()) M = some (iL ((List.range k).filter (hs M)), ((P12 M, ()), ())) := by
  have := gPlaces_loop n M hM n 0 [] (Nat.le_refl _) (Nat.zero_le _) (by omega)
  unfold ap12 at this
  unfold ap12 gPlaces_t
  rw [show (0 : Int) = ((0 : Nat) : Int) from rfl, this, Option.bind_some, List.nil_append, Nat.sub_zero, ← List.range_eq_range']
  have h2 := range_more (f := hs M) (n := k) (12 - k) (fun q hq => by
    cases hs' : hs M q with
    | false => rfl
    | true => exact absurd (hh q hs') (by omega))
  rw [show k + (12 - k) = 12 by omega] at h2
  rw [h2]

/-! next, Order -/
def Rep (M : List Bool) (O : List Nat) : Prop := M.length = 12 ∧ ∀ k, hs M k = O.contains k
theorem Rep.snoc {M : List Bool} {O : List Nat} {i : Nat} (h : Rep M O) (hi : i < 12) : Rep (M.set i true) (O ++ [i]) := by
  refine ⟨by rw [List.length_set]; exact h.1, fun k => ?_⟩
  have h1 := hs_set (M := M) (j := i) (k := k) (by rw [h.1]; exact hi)
  have h2 := h.2 k
  have h3 : (O ++ [i]).contains k = true ↔ (k = i ∨ O.contains k = true) := by
    rw [List.contains_iff_mem, List.mem_append, List.mem_singleton, List.contains_iff_mem]
    exact Or.comm
  rw [h2] at h1
  cases ha : hs (M.set i true) k <;> cases hb : (O ++ [i]).contains k <;> simp_all
theorem gNext_loop (n : Nat) (l : List MD) (O : List Nat) (M : List Bool) (hR : Rep M O) (hl : SmL l) (hl12 : l.length ≤ 12) (hn : 100000 < n) : ∀ m j : Nat, j ≤ l.length → l.length - j < m →
    ap12 (gNext_loop0 n m l ((l.length : Nat) : Int) (j : Int)) M = some (match (List.range' j (l.length - j)).find? (ready l.length (adj l) O) with
      | some i => Sum.inl (((i : Int), (true, ())), ((P12 M, ()), ()))
      | none => Sum.inr ((), ((P12 M, ()), ())))
  | 0, j, _, h => absurd h (Nat.not_lt_zero _)
  | m + 1, j, hj, h => by
    unfold ap12
    rw [gNext_loop0_succ]
    unfold gNext_l0
    by_cases c : j < l.length
    · obtain ⟨k, hk⟩ : ∃ k, l.length - j = k + 1 := ⟨l.length - j - 1, by omega⟩
      have hk' : l.length - (j + 1) = k := by omega
      have ih := gNext_loop n l O M hR hl hl12 hn m (j + 1) (by omega) (by omega)
      rw [hk'] at ih
      have hrd : ready l.length (adj l) O j = (!(hs M j) && (edgesS l.length (adj l) j).all (hs M)) := by
        unfold ready
        rw [hR.2 j]
        congr 1
        exact List.all_congr rfl fun x => (hR.2 x).symm
      rw [decide_eq_true (by omega), cond_true, inA_nat (by omega), cond_true, lit12 hR.1, Int.toNat_natCast, nth_hs (by rw [hR.1]; omega), Option.bind_some, hk, List.range'_succ, List.find?_cons, hrd]
      cases hs M j with
      | true =>
        rw [Bool.not_true, cond_false, Bool.false_and, letO_eq, wrap_succ (by omega)]
        exact ih
      | false =>
        have hh := gHave_spec n (edgesS l.length (adj l) j) M hR.1 (fun x hx => by have := (mem_edges.1 hx).1; omega) (by have := List.length_filter_le (adj l j) (List.range l.length); rw [List.length_range] at this; unfold edgesS; omega) (by omega)
        unfold ap12 at hh
        rw [Bool.not_false, cond_true, gedges_spec n l j c hl hn, Option.bind_some, hh, Option.bind_some, Bool.true_and]
        cases (edgesS l.length (adj l) j).all (hs M) with
        | true => rfl
        | false =>
          rw [cond_false, letO_eq, wrap_succ (by omega)]
          exact ih
    · obtain rfl : j = l.length := by omega
      rw [decide_eq_false (by omega), cond_false, Nat.sub_self]
      rfl
theorem gNext_spec (n : Nat) (l : List MD) (O : List Nat) (M : List Bool) (hR : Rep M O) (hl : SmL l) (hl12 : l.length ≤ 12) (hn : 100000 < n) :
    ap12 (gNext_t n l ()) M = some (match nxt l.length (adj l) O with
      | some i => (((i : Int), true), ((P12 M, ()), ()))
      | none => (((0 : Int), false), ((P12 M, ()), ()))) := by
  have := gNext_loop n l O M hR hl hl12 hn n 0 (Nat.zero_le _) (by omega)
  unfold ap12 at this
  unfold ap12 gNext_t nxt
  rw [show (0 : Int) = ((0 : Nat) : Int) from rfl, this, Option.bind_some, List.range_eq_range', Nat.sub_zero]
  cases (List.range' 0 l.length).find? (ready l.length (adj l) O) <;> rfl
theorem gOrder_loop (n : Nat) (l : List MD) (hl : SmL l) (hl12 : l.length ≤ 12) (hn : 100000 < n) : ∀ m f : Nat, ∀ O M, Rep M O → Ord l.length (adj l) O → l.length < O.length + f → f ≤ m →
    ap12 (gOrder_loop0 n m l) M (iL O) = some ((l, ((), ())), ((), (iL (ordS l.length (adj l) f O), ())))
  | 0, f, O, M, hR, hO, hf, hm => by
    have := nodup_le hO.nd hO.lt
    omega
  | m + 1, f, O, M, hR, hO, hf, hm => by
    unfold ap12
    rw [gOrder_loop0_succ]
    unfold gOrder_l0
    have hx := gNext_spec n l O M hR hl hl12 hn
    unfold ap12 at hx
    rw [hx, Option.bind_some]
    cases f with
    | zero =>
      have := nodup_le hO.nd hO.lt
      omega
    | succ f =>
      unfold ordS
      cases hN : nxt l.length (adj l) O with
      | none => rfl
      | some i =>
        obtain ⟨h1, h2, h3⟩ := nxt_some hN
        have hOl := nodup_le hO.nd hO.lt
        show (bif !true then _ else (bif inA ((i : Nat) : Int) 12 then (bif inA ((i : Nat) : Int) 12 then (appO 8 (iL O) ([((i : Nat) : Int)] : List Int)).bind _ else none) else none)) = _
        rw [Bool.not_true, cond_false, inA_nat (by omega), cond_true, cond_true, app_le (by rw [iL_len]; simp; omega), Option.bind_some]
        have hap : iL O ++ [((i : Nat) : Int)] = iL (O ++ [i]) := by rw [iL_app]; rfl
        rw [hap]
        refine (upd_ap true hR.1 (fun b1 b2 b3 b4 b5 b6 b7 b8 b9 b10 b11 b12 => gOrder_loop0 n m l b1 b2 b3 b4 b5 b6 b7 b8 b9 b10 b11 b12 (iL (O ++ [i])))).trans ?_
        exact gOrder_loop n l hl hl12 hn m f (O ++ [i]) (M.set i true) (hR.snoc (by omega)) (hO.snoc hN) (by rw [List.length_append, List.length_singleton]; omega) (by omega)
def ordL (l : List MD) : List Nat := ordS l.length (adj l) 13 []
def orderS (l : List MD) : List Int × Int := if chkS l = 0 then (if (ordL l).length < l.length then ([], 12) else (iL (ordL l), 0)) else ([], chkS l)
theorem rep_nil : Rep [false, false, false, false, false, false, false, false, false, false, false, false] [] := ⟨rfl, fun k => by
  by_cases h : k < 12
  · match k, h with
    | 0, _ | 1, _ | 2, _ | 3, _ | 4, _ | 5, _ | 6, _ | 7, _ | 8, _ | 9, _ | 10, _ | 11, _ => rfl
  · rw [hs_out (by simp; omega)]; rfl⟩
theorem gOrder_spec (n : Nat) (l : List MD) (hl : SmL l) (hn : 100000 < n) : gOrder_t n l = some (orderS l) := by
  unfold gOrder_t orderS
  rw [gCheck_spec n l hl hn, Option.bind_some]
  by_cases c : chkS l = 0
  · have h12 := chk_len c
    rw [decide_eq_true c, Bool.not_true, cond_false, if_pos c]
    have := gOrder_loop n l hl h12 hn n 13 [] _ rep_nil Ord.nil (by simp; omega) (by omega)
    have h' : gOrder_loop0 n n l false false false false false false false false false false false false [] = some ((l, ((), ())), ((), (iL (ordL l), ()))) := this
    rw [h', Option.bind_some]
    show (bif decide (((iL (ordL l)).length : Int) < ((l.length : Nat) : Int)) then _ else _) = _
    rw [iL_len]
    by_cases hlt : (ordL l).length < l.length
    · rw [decide_eq_true (by omega), cond_true, if_pos hlt]
    · rw [decide_eq_false (by omega), cond_false, if_neg hlt]
  · rw [decide_eq_false c, Bool.not_false, cond_true, if_neg c]

/-! climb -/
theorem climb_spec (n : Nat) (l : List MD) (hl : SmL l) (hl12 : l.length ≤ 12) (hn : 100000 < n) : ∀ (d i : Nat) (M : List Bool), M.length = 12 → cnt M < d → i < l.length →
    ∃ R, ap12 (gClimbD n d l (i : Int) ()) M = some ((), ((P12 R, ()), ())) ∧ Climb l.length (adj l) i M R
  | 0, i, M, _, h, _ => absurd h (Nat.not_lt_zero _)
  | d + 1, i, M0, hM0, hd, hi => by
    have h20 := hl.1
    have loop : ∀ m j R0, j ≤ l.length → l.length - j < m → Climb0 l.length (adj l) i j M0 R0 →
        ∃ R, ap12 (gClimb_loop0 (gClimbD n d) n m l (i : Int) l ((l.length : Nat) : Int) (j : Int)) R0 = some ((), ((P12 R, ()), ())) ∧ Climb0 l.length (adj l) i l.length M0 R := by
      intro m
      induction m with
      | zero => intro j R0 _ h _; exact absurd h (Nat.not_lt_zero _)
      | succ m ih =>
        intro j R0 hj h hc
        have hR0 : R0.length = 12 := hc.len.trans hM0
        unfold ap12
        rw [gClimb_loop0_succ]
        unfold gClimb_l0
        by_cases c : j < l.length
        · have hr := (hl.2 _ (List.getElem_mem c)).2
          rw [decide_eq_true (by omega), cond_true, idx_lt c, Option.bind_some, inA_nat (by omega), cond_true, lit12 hR0, Int.toNat_natCast, nth_hs (by omega), Option.bind_some]
          cases hsj : hs R0 j with
          | true =>
            rw [Bool.not_true, cond_false, letO_eq, wrap_succ (by omega)]
            exact ih (j + 1) R0 (by omega) (by omega) (hc.skip (Or.inl hsj))
          | false =>
            rw [Bool.not_false, cond_true, idx_lt hi, Option.bind_some, gReq_spec n _ _ (by omega) (by omega), Option.bind_some, ← adj_lt c hi]
            cases ha : adj l j i with
            | false =>
              rw [cond_false, letO_eq, wrap_succ (by omega)]
              exact ih (j + 1) R0 (by omega) (by omega) (hc.skip (Or.inr ha))
            | true =>
              have hcnt := cnt_set (M := R0) (j := j) (by omega) hsj
              have hle := cnt_le hc.len hc.sub
              obtain ⟨R', h1, h2⟩ := climb_spec n l hl hl12 hn d j (R0.set j true) (by rw [List.length_set]; exact hR0) (by omega) c
              obtain ⟨R, h3, h4⟩ := ih (j + 1) R' (by omega) (by omega) (hc.step c hi (by omega) ha h2)
              refine ⟨R, ?_, h4⟩
              rw [cond_true, cond_true, cond_true]
              have h5 := (upd_ap true hR0 (gClimbD n d l (j : Int) ())).trans h1
              rw [h5, Option.bind_some, letO_eq, wrap_succ (by omega)]
              exact h3
        · obtain rfl : j = l.length := by omega
          refine ⟨R0, ?_, hc⟩
          rw [decide_eq_false (by omega), cond_false]
          rfl
    obtain ⟨R, h1, h2⟩ := loop n 0 M0 (Nat.zero_le _) (by omega) (Climb0.start _ _ _ _)
    refine ⟨R, ?_, h2.done⟩
    unfold ap12 at h1 ⊢
    show gClimb_t (gClimbD n d) n l (i : Int) () _ _ _ _ _ _ _ _ _ _ _ _ = _
    unfold gClimb_t
    rw [show (0 : Int) = ((0 : Nat) : Int) from rfl, h1, Option.bind_some]

/-! Cyclic -/
def M0 : List Bool := [false, false, false, false, false, false, false, false, false, false, false, false]
theorem hs_M0 (k : Nat) : hs M0 k = false := by
  have := rep_nil.2 k
  exact this
theorem hs_setB {M : List Bool} {j k : Nat} {y : Bool} (hj : j < M.length) : hs (M.set j y) k = if k = j then y else hs M k := by
  unfold hs
  rw [List.getD_eq_getElem?_getD, List.getD_eq_getElem?_getD, List.getElem?_set]
  by_cases h : j = k
  · subst h; simp [hj]
  · rw [if_neg h, if_neg (fun e => h e.symm)]
theorem gCyclic_loop (n : Nat) (l : List MD) (hl : SmL l) (hl12 : l.length ≤ 12) (hn : 100000 < n) : ∀ m j C, j ≤ l.length → l.length - j < m → C.length = 12 → (∀ k, hs C k = true ↔ k < j ∧ Dep l.length (adj l) k k) →
    ∃ C', ap12 (gCyclic_loop0 n m l ((l.length : Nat) : Int) (j : Int)) C = some (((), ()), ((P12 C', ()), ())) ∧ C'.length = 12 ∧ ∀ k, hs C' k = true ↔ k < l.length ∧ Dep l.length (adj l) k k
  | 0, j, _, _, h, _, _ => absurd h (Nat.not_lt_zero _)
  | m + 1, j, C, hj, h, hC, hk => by
    unfold ap12
    rw [gCyclic_loop0_succ]
    unfold gCyclic_l0
    by_cases c : j < l.length
    · obtain ⟨R, h1, h2⟩ := climb_spec n l hl hl12 hn n j M0 rfl (by have : cnt M0 = 12 := rfl; omega) c
      have h1' : gClimbD n n l (j : Int) () false false false false false false false false false false false false = some ((), ((P12 R, ()), ())) := h1
      have hR : R.length = 12 := h2.len
      have hR' := climb_none h2 hs_M0
      rw [decide_eq_true (by omega), cond_true, h1', Option.bind_some, inA_nat (by omega), cond_true]
      have hl12' : ([(P12 R).1, (P12 R).2.1, (P12 R).2.2.1, (P12 R).2.2.2.1, (P12 R).2.2.2.2.1, (P12 R).2.2.2.2.2.1, (P12 R).2.2.2.2.2.2.1, (P12 R).2.2.2.2.2.2.2.1, (P12 R).2.2.2.2.2.2.2.2.1, (P12 R).2.2.2.2.2.2.2.2.2.1, (P12 R).2.2.2.2.2.2.2.2.2.2.1, (P12 R).2.2.2.2.2.2.2.2.2.2.2] : List Bool) = R := lit12 hR
      rw [hl12', Int.toNat_natCast, nth_hs (by omega), Option.bind_some, cond_true, cond_true, letO_eq, wrap_succ (by omega)]
      have ih := gCyclic_loop n l hl hl12 hn m (j + 1) (C.set j (hs R j)) (by omega) (by omega) (by rw [List.length_set]; exact hC) (fun k => by
        rw [hs_setB (by omega)]
        by_cases e : k = j
        · subst e
          rw [if_pos rfl, hR']
          exact ⟨fun h => ⟨by omega, h⟩, fun h => h.2⟩
        · rw [if_neg e, hk]
          exact ⟨fun h => ⟨by omega, h.2⟩, fun h => ⟨by omega, h.2⟩⟩)
      obtain ⟨C', h3, h4⟩ := ih
      exact ⟨C', (upd_ap (hs R j) hC (gCyclic_loop0 n m l ((l.length : Nat) : Int) ((j + 1 : Nat) : Int))).trans h3, h4⟩
    · obtain rfl : j = l.length := by omega
      refine ⟨C, ?_, hC, hk⟩
      rw [decide_eq_false (by omega), cond_false]
      rfl
theorem gCyclic_spec (n : Nat) (l : List MD) (hl : SmL l) (hn : 100000 < n) : ∃ L, gCyclic_t n l = some (iL L) ∧ (chkS l ≠ 0 → L = []) ∧ (chkS l = 0 → IsF l.length (fun k => Dep l.length (adj l) k k) L) := by
  unfold gCyclic_t
  rw [gCheck_spec n l hl hn, Option.bind_some]
  by_cases c : chkS l = 0
  · have h12 := chk_len c
    obtain ⟨C, h1, h2, h3⟩ := gCyclic_loop n l hl h12 hn n 0 M0 (Nat.zero_le _) (by omega) rfl (fun k => by rw [hs_M0]; simp)
    have h1' : gCyclic_loop0 n n l ((l.length : Nat) : Int) (0 : Int) false false false false false false false false false false false false = some (((), ()), ((P12 C, ()), ())) := h1
    have hp := gPlaces_spec n C h2 (by omega) h12 (fun q hq => ((h3 q).1 hq).1)
    refine ⟨_, ?_, fun h => absurd c h, fun _ => ⟨hs C, rfl, fun k hk => by rw [h3]; exact ⟨fun h => h.2, fun h => ⟨hk, h⟩⟩⟩⟩
    rw [decide_eq_true c, Bool.not_true, cond_false, h1', Option.bind_some]
    show (ap12 (gPlaces_t n ()) C).bind _ = _
    rw [hp, Option.bind_some]
  · exact ⟨[], by rw [decide_eq_false c, Bool.not_false, cond_true]; rfl, fun _ => rfl, fun h => absurd h c⟩

/-! Up -/
/-- those that are among some, or depend on one of them -/
def UpP (l : List MD) (from_ : List Int) (k : Nat) : Prop := ∃ i : Nat, (i : Int) ∈ from_ ∧ i < l.length ∧ (k = i ∨ Dep l.length (adj l) k i)
theorem UpP.snoc {l : List MD} {f : List Int} {x : Int} {k : Nat} : UpP l (f ++ [x]) k ↔ UpP l f k ∨ ∃ i : Nat, x = (i : Int) ∧ i < l.length ∧ (k = i ∨ Dep l.length (adj l) k i) := by
  constructor
  · rintro ⟨i, h1, h2, h3⟩
    rcases List.mem_append.1 h1 with h1 | h1
    · exact Or.inl ⟨i, h1, h2, h3⟩
    · exact Or.inr ⟨i, (List.mem_singleton.1 h1).symm, h2, h3⟩
  · rintro (⟨i, h1, h2, h3⟩ | ⟨i, rfl, h2, h3⟩)
    · exact ⟨i, List.mem_append.2 (Or.inl h1), h2, h3⟩
    · exact ⟨i, List.mem_append.2 (Or.inr (List.mem_singleton.2 rfl)), h2, h3⟩
theorem UpP.lt {l : List MD} {f : List Int} {k : Nat} (h : UpP l f k) : k < l.length := by
  obtain ⟨i, _, h2, rfl | h3⟩ := h
  · exact h2
  · exact h3.lt.1
theorem gUp_loop (n : Nat) (l : List MD) (f : List Int) (hl : SmL l) (hl12 : l.length ≤ 12) (hf : f.length ≤ 1000) (hn : 100000 < n) : ∀ m j M, j ≤ f.length → f.length - j < m → M.length = 12 → Closed l.length (adj l) M → (∀ k, hs M k = true ↔ UpP l (f.take j) k) →
    ∃ M', ap12 (gUp_loop0 n m l f ((f.length : Nat) : Int) (j : Int)) M = some (((), ()), ((P12 M', ()), ())) ∧ M'.length = 12 ∧ ∀ k, hs M' k = true ↔ UpP l f k
  | 0, j, _, _, h, _, _, _ => absurd h (Nat.not_lt_zero _)
  | m + 1, j, M, hj, h, hM, hcl, hk => by
    unfold ap12
    rw [gUp_loop0_succ]
    unfold gUp_l0
    by_cases c : j < f.length
    · have htk : f.take (j + 1) = f.take j ++ [f[j]] := List.take_succ_eq_append_getElem c
      rw [decide_eq_true (by omega), cond_true, idx_lt c, Option.bind_some]
      have skip : ∀ (hno : ∀ k, (∃ i : Nat, f[j] = (i : Int) ∧ i < l.length ∧ (k = i ∨ Dep l.length (adj l) k i)) → hs M k = true), ∀ k, hs M k = true ↔ UpP l (f.take (j + 1)) k := fun hno k => by
        rw [htk, UpP.snoc, ← hk]
        exact ⟨fun h => Or.inl h, fun h => h.elim id (hno k)⟩
      unfold gIsPl_t
      by_cases h0 : 0 ≤ f[j]
      · rw [decide_eq_true h0, cond_true, Option.bind_some]
        by_cases h1 : f[j] < (l.length : Int)
        · obtain ⟨i, hi⟩ := Int.eq_ofNat_of_zero_le h0
          have hil : i < l.length := by omega
          rw [decide_eq_true h1, cond_true, hi, inA_nat (by omega), cond_true, lit12 hM, Int.toNat_natCast, nth_hs (by omega), Option.bind_some]
          cases hsi : hs M i with
          | true =>
            rw [Bool.not_true, cond_false, letO_eq, wrap_succ (by omega)]
            refine gUp_loop n l f hl hl12 hf hn m (j + 1) M (by omega) (by omega) hM hcl (skip fun k => ?_)
            rintro ⟨i', e1, e2, e3⟩
            obtain rfl : i' = i := by omega
            rcases e3 with rfl | e3
            · exact hsi
            · exact closed_has hcl hsi e3
          | false =>
            have hlt := cnt_lt (M.set i true)
            rw [List.length_set] at hlt
            obtain ⟨R, h2, h3⟩ := climb_spec n l hl hl12 hn n i (M.set i true) (by rw [List.length_set]; exact hM) (by omega) hil
            obtain ⟨h4, h5⟩ := climb_closed hcl (by omega) h3
            have hR : R.length = 12 := by rw [h3.len, List.length_set]; exact hM
            obtain ⟨M', h6, h7⟩ := gUp_loop n l f hl hl12 hf hn m (j + 1) R (by omega) (by omega) hR h4 (fun k => by
              rw [htk, UpP.snoc, ← hk, h5]
              constructor
              · rintro (e | e)
                · exact Or.inl e
                · exact Or.inr ⟨i, hi, hil, e⟩
              · rintro (e | ⟨i', e1, e2, e3⟩)
                · exact Or.inl e
                · obtain rfl : i' = i := by omega
                  exact Or.inr e3)
            refine ⟨M', ?_, h7⟩
            rw [Bool.not_false, cond_true, cond_true, cond_true]
            have h8 := (upd_ap true hM (gClimbD n n l (i : Int) ())).trans h2
            rw [h8, Option.bind_some, letO_eq, wrap_succ (by omega)]
            exact h6
        · rw [decide_eq_false h1, cond_false, letO_eq, wrap_succ (by omega)]
          refine gUp_loop n l f hl hl12 hf hn m (j + 1) M (by omega) (by omega) hM hcl (skip fun k => ?_)
          rintro ⟨i', e1, e2, e3⟩
          omega
      · rw [decide_eq_false h0, cond_false, Option.bind_some, cond_false, letO_eq, wrap_succ (by omega)]
        refine gUp_loop n l f hl hl12 hf hn m (j + 1) M (by omega) (by omega) hM hcl (skip fun k => ?_)
        rintro ⟨i', e1, e2, e3⟩
        omega
    · obtain rfl : j = f.length := by omega
      rw [List.take_length] at hk
      refine ⟨M, ?_, hM, hk⟩
      rw [decide_eq_false (by omega), cond_false]
      rfl
theorem gUp_spec (n : Nat) (l : List MD) (f : List Int) (hl : SmL l) (hf : f.length ≤ 1000) (hn : 100000 < n) : ∃ L, gUp_t n l f = some (iL L) ∧ (chkS l ≠ 0 → L = []) ∧ (chkS l = 0 → IsF l.length (UpP l f) L) := by
  unfold gUp_t
  rw [gCheck_spec n l hl hn, Option.bind_some]
  by_cases c : chkS l = 0
  · have h12 := chk_len c
    obtain ⟨C, h1, h2, h3⟩ := gUp_loop n l f hl h12 hf hn n 0 M0 (Nat.zero_le _) (by omega) rfl (fun k hk => by rw [hs_M0] at hk; cases hk) (fun k => by
      rw [hs_M0, List.take_zero]
      exact ⟨fun h => (by cases h), fun ⟨i, h1, _⟩ => (by cases h1)⟩)
    have h1' : gUp_loop0 n n l f ((f.length : Nat) : Int) (0 : Int) false false false false false false false false false false false false = some (((), ()), ((P12 C, ()), ())) := h1
    have hp := gPlaces_spec n C h2 (by omega) h12 (fun q hq => ((h3 q).1 hq).lt)
    refine ⟨_, ?_, fun h => absurd c h, fun _ => ⟨hs C, rfl, fun k hk => h3 k⟩⟩
    rw [decide_eq_true c, Bool.not_true, cond_false, h1', Option.bind_some]
    show (ap12 (gPlaces_t n ()) C).bind _ = _
    rw [hp, Option.bind_some]
  · exact ⟨[], by rw [decide_eq_false c, Bool.not_false, cond_true]; rfl, fun _ => rfl, fun h => absurd h c⟩
end Go.Proofs.YtgdlfnlakfahcaaGreatDoor.AM

/- Layer 8: the answers that the laws begin with. -/
namespace Go.Proofs.YtgdlfnlakfahcaaGreatDoor.AM
open Go.RowKit
set_option linter.unusedVariables false
set_option linter.unusedSimpArgs false
end Go.Proofs.YtgdlfnlakfahcaaGreatDoor.AM
