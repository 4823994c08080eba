/- Layer 8: what the program's functions come to. -/
import Derived.Test.YtgihkohggalefabGreatDoorMpG2
import Derived.Test.YtgihkohggalefabGreatDoorVerP0
import Derived.Test.YtgihkohggalefabGreatDoorVerR
namespace Go.Proofs.YtgihkohggalefabGreatDoor.AM
open Go.RowKit
set_option linter.unusedVariables false
set_option linter.unusedSimpArgs false
theorem mLast_spec (n : Nat) (s : List UInt8) (hL : s.length ≤ 1000000) (hn : s.length < n) : mLast_t n s = some (lastS s) := by
  unfold mLast_t lastS
  have hg := lastC_ge 47 s
  obtain ⟨k, hk⟩ : ∃ k : Nat, lastC 47 s + 1 = (k : Int) := ⟨(lastC 47 s + 1).toNat, by omega⟩
  rw [LastB_spec n s hL hn]
  simp only [Option.bind_some, letO]
  rw [hk, wrap64 (by omega) (by omega), sub_le (by omega) (Nat.le_refl _)]
  simp only [Option.bind_some, Int.toNat_natCast]
  rw [List.take_of_length_le (by rw [List.length_drop]; exact Nat.le_refl _)]
theorem base_len (s : List UInt8) : (baseS s).length ≤ s.length := by unfold baseS; rw [List.length_take]; omega
theorem last_len (s : List UInt8) : (lastS s).length ≤ s.length := by unfold lastS; rw [List.length_drop]; omega
theorem trimV_tells {s : List UInt8} (h : tellsS s = true) : trimV s = s.drop 1 := by
  unfold tellsS at h
  simp only [Bool.and_eq_true, decide_eq_true_eq] at h
  unfold trimV; rw [if_pos h.1]
theorem mMajor_spec (n : Nat) (s : List UInt8) (hL : s.length ≤ 1000000) (hn : s.length < n) : mMajor_t n s = some (majorS s) := by
  have hb := base_len s
  have hl := last_len s
  have e1 : mBase_t s = some (baseS s) := if_pos hL
  have e2 : mAny_t (baseS s) = some (anyS (baseS s)) := if_pos (by omega)
  have e3 : mNum_t (lastS s) = some (numOf (trimV (lastS s)), fine (trimV (lastS s))) := if_pos (by omega)
  have e4 : fPath_t s = some (pathS s) := rfl
  unfold mMajor_t majorS okS
  simp only [e1, e2, e3, e4, mLast_spec n s hL hn, mTells_spec n (lastS s) (by omega), Option.bind_some]
  cases pathS s with
  | false => rfl
  | true => cases anyS (baseS s) with
    | true => rfl
    | false => cases ht : tellsS (lastS s) with
      | false => rfl
      | true =>
        rw [trimV_tells ht]
        cases fine ((lastS s).drop 1) with
        | false => rfl
        | true =>
          by_cases h0 : baseS s = []
          · simp [h0]
          · simp [h0]
theorem major_ok (s : List UInt8) : (majorS s).2.2 = okS s := by
  unfold majorS
  cases okS s with
  | false => rfl
  | true => cases tellsS (lastS s) <;> rfl
theorem mCheck_spec (n : Nat) (s : List UInt8) (hL : s.length ≤ 1000000) (hn : s.length < n) : mCheck_t n s = some (okS s) := by
  unfold mCheck_t
  rw [mMajor_spec n s hL hn, ← major_ok]; rfl
def fitsS (p : List UInt8) (v : VD) : Bool := okS p && (checkS v && (if (majorS p).2.1 = 0 then decide (v.1 < 2) else decide (v.1 = (majorS p).2.1)))
theorem mFits_spec (n : Nat) (s : List UInt8) (v : VD) (hL : s.length ≤ 1000000) (hn : s.length < n) (h4 : 4 ≤ n) : mFits_t n s v = some (fitsS s v) := by
  unfold mFits_t fitsS
  rw [mMajor_spec n s hL hn]
  simp only [Option.bind_some, major_ok, vCheck_spec n v h4]
  cases okS s with
  | false => rfl
  | true => cases checkS v with
    | false => rfl
    | true =>
      by_cases h : (majorS s).2.1 = 0
      · simp [h]
      · simp [h]
def withinS (p d : List UInt8) : Bool := decide (d = []) || (decide (p = d) || decide (d ++ [47] <+: p))
theorem HasPre_spec (n : Nat) (p d : List UInt8) (hd : d.length ≤ 1000000) (hp : p.length ≤ 1000000) : HasPrefix_t n p d = some (decide (d <+: p)) := by
  unfold HasPrefix_t HasPrefixI_t
  by_cases h : d.length ≤ p.length
  · have h' : ((d.length : Nat) : Int) ≤ ((p.length : Nat) : Int) := by omega
    simp only [h', decide_true, cond_true, sub_zero h, Option.bind_some]
    congr 1
    refine decide_eq_decide.2 ?_
    rw [List.prefix_iff_eq_take]
    exact eq_comm
  · have h' : ¬ ((d.length : Nat) : Int) ≤ ((p.length : Nat) : Int) := by omega
    have h2 : ¬ d <+: p := fun hx => h hx.length_le
    simp [h', h2]
theorem mWithin_spec (n : Nat) (p d : List UInt8) (hp : p.length ≤ 100000) (hd : d.length ≤ 100000) : mWithin_t n p d = some (withinS p d) := by
  unfold mWithin_t withinS
  rw [cat_ok (by simp; omega)]
  simp only [Option.bind_some]
  rw [HasPre_spec n p (d ++ [47]) (by simp; omega) (by omega)]
  cases decide (d = []) with
  | true => rfl
  | false => cases decide (p = d) with
    | true => rfl
    | false => rfl
/-! the document's paths -/
theorem pSign_bools (c : UInt8) : pSign c = ((decide ((97 : Int) ≤ ((c.toNat : Nat) : Int)) && decide (((c.toNat : Nat) : Int) ≤ (122 : Int))) || (decide ((65 : Int) ≤ ((c.toNat : Nat) : Int)) && decide (((c.toNat : Nat) : Int) ≤ (90 : Int))) || (decide ((48 : Int) ≤ ((c.toNat : Nat) : Int)) && decide (((c.toNat : Nat) : Int) ≤ (57 : Int))) || decide (((c.toNat : Nat) : Int) = (45 : Int)) || decide (((c.toNat : Nat) : Int) = (95 : Int)) || decide (((c.toNat : Nat) : Int) = (46 : Int))) := by
  unfold pSign
  have h6 : decide (((c.toNat : Nat) : Int) = (95 : Int)) = decide (c.toNat = 95) := decide_eq_decide.2 (by omega)
  have h7 : decide (((c.toNat : Nat) : Int) = (46 : Int)) = decide (c.toNat = 46) := decide_eq_decide.2 (by omega)
  rw [h6, h7, ← sg_bools]
theorem rPart5_loop (n : Nat) (s : List UInt8) (hL : s.length ≤ 1000000) : ∀ m j : Nat, j ≤ s.length → s.length - j < m → rPart5_loop0 n m s (j : Int) = some (if (s.drop j).all pSign = true then Sum.inr ((s, ()), ((), ())) else Sum.inl ((false, ()), ((), ())))
  | 0, j, _, h => absurd h (Nat.not_lt_zero _)
  | m + 1, j, hj, h => by
    rw [rPart5_loop0_succ]
    unfold rPart5_l0
    by_cases c0 : j < s.length
    · have c0' : ((j : Nat) : Int) < ((s.length : Nat) : Int) := by omega
      have ih := rPart5_loop n s hL m (j + 1) (by omega) (by omega)
      have hd : s.drop j = s[j] :: s.drop (j + 1) := (List.drop_eq_getElem_cons c0)
      simp only [c0', decide_true, cond_true, sAt_lt c0, Option.bind_some, letO, wrap_succ (show j < 4611686018427387904 by omega), ih, hd, List.all_cons]
      rw [pSign_bools]
      generalize (List.drop (j + 1) s).all pSign = B
      generalize decide ((97 : Int) ≤ ((s[j].toNat : Nat) : Int)) = b1
      generalize decide (((s[j].toNat : Nat) : Int) ≤ (122 : Int)) = b2
      generalize decide ((65 : Int) ≤ ((s[j].toNat : Nat) : Int)) = b3
      generalize decide (((s[j].toNat : Nat) : Int) ≤ (90 : Int)) = b4
      generalize decide ((48 : Int) ≤ ((s[j].toNat : Nat) : Int)) = b5
      generalize decide (((s[j].toNat : Nat) : Int) ≤ (57 : Int)) = b6
      generalize decide (((s[j].toNat : Nat) : Int) = (45 : Int)) = b7
      generalize decide (((s[j].toNat : Nat) : Int) = (95 : Int)) = b8
      generalize decide (((s[j].toNat : Nat) : Int) = (46 : Int)) = b9
      cases b1 <;> cases b2 <;> cases b3 <;> cases b4 <;> cases b5 <;> cases b6 <;> cases b7 <;> cases b8 <;> cases b9 <;> rfl
    · have c0' : ¬ ((j : Nat) : Int) < ((s.length : Nat) : Int) := by omega
      have : s.drop j = [] := List.drop_eq_nil_of_le (by omega)
      simp [c0', this]
theorem rPart5_spec (n : Nat) (s : List UInt8) (hL : s.length ≤ 1000000) (hn : s.length < n) : rPart5_t n s = some (partS s) := by
  unfold rPart5_t partS
  have := rPart5_loop n s hL n 0 (Nat.zero_le _) (by omega)
  rw [show ((0 : Nat) : Int) = (0 : Int) from rfl] at this
  rw [this, List.drop_zero]
  cases s.all pSign with
  | true =>
    simp only [if_true, Option.bind_some, Sum.elim_inr]
    cases decide (s = []) <;> cases decide (s = [46]) <;> cases decide (s = [46, 46]) <;> rfl
  | false =>
    simp only [Bool.false_eq_true, if_false, Option.bind_some, Sum.elim_inl]
    cases decide (s = []) <;> cases decide (s = [46]) <;> cases decide (s = [46, 46]) <;> rfl
theorem rPath5_loop (n : Nat) (l : List (List UInt8)) (hl : l.length ≤ 1000000) (hw : ∀ w ∈ l, w.length ≤ 1000000 ∧ w.length < n) : ∀ m j : Nat, j ≤ l.length → l.length - j < m → rPath5_loop0 n m l (j : Int) = some (if (l.drop j).all partS = true then Sum.inr ((), ((), ())) else Sum.inl ((false, ()), ((), ())))
  | 0, j, _, h => absurd h (Nat.not_lt_zero _)
  | m + 1, j, hj, h => by
    rw [rPath5_loop0_succ]
    unfold rPath5_l0
    by_cases c0 : j < l.length
    · have c0' : ((j : Nat) : Int) < ((l.length : Nat) : Int) := by omega
      have ih := rPath5_loop n l hl hw m (j + 1) (by omega) (by omega)
      have hd : l.drop j = l[j] :: l.drop (j + 1) := (List.drop_eq_getElem_cons c0)
      have hm := hw l[j] (List.getElem_mem c0)
      simp only [c0', decide_true, cond_true, idx_lt c0, Option.bind_some, rPart5_spec n l[j] hm.1 hm.2, letO, wrap_succ (show j < 4611686018427387904 by omega), ih, hd, List.all_cons]
      cases partS l[j] <;> simp
    · have c0' : ¬ ((j : Nat) : Int) < ((l.length : Nat) : Int) := by omega
      have : l.drop j = [] := List.drop_eq_nil_of_le (by omega)
      simp [c0', this]
theorem rPath5_spec (n : Nat) (s : List UInt8) (hL : s.length ≤ 1000000) (hn : 100 ≤ n) : rPath5_t n s = some (pathS s) := by
  unfold rPath5_t pathS
  by_cases h : s.length ≤ 60
  · have h' : ¬ (60 : Int) < ((s.length : Nat) : Int) := by omega
    have hlen := spl_len 47 s []
    have hw : ∀ w ∈ spl 47 [] s, w.length ≤ s.length := fun w hm => by have := spl_mem 47 s [] w hm; simpa using this
    have := rPath5_loop n (spl 47 [] s) (by omega) (fun w hm => ⟨by have := hw w hm; omega, by have := hw w hm; omega⟩) n 0 (Nat.zero_le _) (by omega)
    rw [show ((0 : Nat) : Int) = (0 : Int) from rfl] at this
    simp only [h', decide_false, cond_false]
    rw [show (47 : Int) = (((47 : UInt8).toNat : Nat) : Int) from rfl, rSplit5_P n s 47 hL (by omega)]
    simp only [Option.bind_some]
    rw [this, List.drop_zero]
    cases (spl 47 [] s).all partS <;> simp [h]
  · have h' : (60 : Int) < ((s.length : Nat) : Int) := by omega
    simp [h, h']
end Go.Proofs.YtgihkohggalefabGreatDoor.AM
