/- A text cut at a byte, as one recursion; and that the library's cut is that. -/
import Derived.Lib.SplitLaws
import Derived.Test.YtbcdlkapapajoaaDoorArg
namespace Go.Proofs.YtbcdlkapapajoaaDoor.AM
open Go.RowKit
set_option linter.unusedVariables false
set_option linter.unusedSimpArgs false
def spl (c : UInt8) : List UInt8 → List UInt8 → List (List UInt8)
  | cur, [] => [cur]
  | cur, b :: l => if b = c then cur :: spl c [] l else spl c (cur ++ [b]) l
/-- the head and the tail of what is cut -/
theorem spl_cons (c : UInt8) : ∀ (l : List UInt8), ∃ h t, ∀ cur, spl c cur l = (cur ++ h) :: t
  | [] => ⟨[], [], fun cur => by simp [spl]⟩
  | b :: l => by
    obtain ⟨h, t, ih⟩ := spl_cons c l
    by_cases hb : b = c
    · exact ⟨[], spl c [] l, fun cur => by simp [spl, hb]⟩
    · exact ⟨b :: h, t, fun cur => by rw [spl, if_neg hb, ih]; simp⟩
theorem index_self (c : UInt8) (l : List UInt8) : Lib.index (c :: l) [c] = ((0 : Nat) : Int) := by rw [Lib.index]; simp [List.isPrefixOf]
theorem index_ne {b c : UInt8} (h : b ≠ c) (l : List UInt8) : Lib.index (b :: l) [c] = if Lib.index l [c] == -1 then -1 else Lib.index l [c] + 1 := by
  have hp : ([c] : List UInt8).isPrefixOf (b :: l) = false := by simp [List.isPrefixOf, Ne.symm h]
  rw [Lib.index, hp]; simp
theorem splitK_spl (c : UInt8) : ∀ (s : List UInt8), Lib.splitK [c] 0 (Lib.count s [c]) s = spl c [] s
  | [] => by
    rw [Lib.count_miss (by simp [Lib.index])]; rfl
  | b :: l => by
    have ih := splitK_spl c l
    by_cases hb : b = c
    · subst hb
      rw [Lib.count_cons_eq, Nat.add_comm, Lib.splitK, index_self]
      simp only [spl, if_true]
      rw [← ih]
      simp
    · obtain ⟨h, t, hs⟩ := spl_cons c l
      rw [spl, if_neg hb, List.nil_append, hs [b], Lib.count_cons_ne b c l hb]
      rw [hs []] at ih
      by_cases hm : Lib.index l [c] = -1
      · rw [Lib.count_miss hm] at ih ⊢
        simp only [Lib.splitK, List.nil_append, List.cons.injEq] at ih ⊢
        obtain ⟨rfl, rfl⟩ := ih
        exact ⟨rfl, rfl⟩
      · have hge := Lib.index_ge l [c]
        obtain ⟨j, hj⟩ : ∃ j : Nat, Lib.index l [c] = j := ⟨(Lib.index l [c]).toNat, by omega⟩
        have hix' : Lib.index (b :: l) [c] = ((j + 1 : Nat) : Int) := by rw [index_ne hb, if_neg (fun e => hm (beq_iff_eq.1 e)), hj]; omega
        obtain ⟨k, hk⟩ : ∃ k, Lib.count l [c] = k + 1 := by rw [Lib.count_hit (by simp) hj]; exact ⟨_, Nat.add_comm _ _⟩
        rw [hk] at ih ⊢
        have n1 : ¬ (Lib.index l [c] == -1) = true := fun e => hm (beq_iff_eq.1 e)
        have n2 : ¬ (Lib.index (b :: l) [c] == -1) = true := fun e => by have := beq_iff_eq.1 e; omega
        rw [Lib.splitK, if_neg n1, hj] at ih
        rw [Lib.splitK, if_neg n2, hix']
        simp only [Int.toNat_natCast, List.nil_append, List.cons.injEq, List.length_cons, List.length_nil, Nat.add_zero] at ih ⊢
        obtain ⟨rfl, rfl⟩ := ih
        refine ⟨?_, ?_⟩
        · rw [show j + 1 = j.succ from rfl, List.take_succ_cons]; rfl
        · rw [show j + 1 + (0 + 1) = (j + (0 + 1)).succ from by omega, List.drop_succ_cons]
/-- the library's cut at a byte -/
theorem splitB_spl (c : UInt8) (s : List UInt8) : (Lib.splitB (ba [c]) 0 (Lib.countB (ba s) (ba [c])) (ba s)).map unB = spl c [] s := by
  have h := Lib.splitB_data (ba [c]) 0 (Lib.countB (ba s) (ba [c])) (ba s)
  have e1 : (ba [c]).data.toList = [c] := by simp [ba]
  have e2 : (ba s).data.toList = s := by simp [ba]
  have e3 : Lib.countB (ba s) (ba [c]) = Lib.count s [c] := by show Lib.count _ _ = _; rw [e1, e2]
  rw [e1, e2, e3, splitK_spl] at h
  rw [e3, ← h]
  rfl
theorem spl_at (c : UInt8) : ∀ (l cur : List UInt8), spl c cur (l ++ [c]) = spl c cur l ++ [[]]
  | [], cur => by simp [spl]
  | b :: l, cur => by
    rw [List.cons_append, spl, spl]
    by_cases h : b = c
    · rw [if_pos h, if_pos h, spl_at c l]; rfl
    · rw [if_neg h, if_neg h, spl_at c l]
theorem spl_none (c : UInt8) : ∀ (l cur r : List UInt8), c ∉ l → spl c cur (l ++ r) = spl c (cur ++ l) r
  | [], cur, r, _ => by simp
  | b :: l, cur, r, h => by
    rw [List.cons_append, spl, if_neg (fun e => h (by simp [e])), spl_none c l _ r (fun e => h (by simp [e]))]
    simp
theorem spl_last (c : UInt8) : ∀ (l cur : List UInt8), ∃ t x, spl c cur l = t ++ [x] ∧ (x = [] ↔ (cur = [] ∧ l = [] ∨ ∃ m, l = m ++ [c]))
  | [], cur => ⟨[], cur, rfl, by simp⟩
  | b :: l, cur => by
    rw [spl]
    by_cases hb : b = c
    · rw [if_pos hb]
      obtain ⟨t, x, h1, h2⟩ := spl_last c l []
      refine ⟨cur :: t, x, by rw [h1]; rfl, ?_⟩
      rw [h2]
      subst hb
      constructor
      · rintro (⟨_, rfl⟩ | ⟨m, rfl⟩)
        · exact Or.inr ⟨[], rfl⟩
        · exact Or.inr ⟨b :: m, rfl⟩
      · rintro (⟨_, h⟩ | ⟨m, h⟩)
        · cases h
        · cases m with
          | nil => simp at h; exact Or.inl ⟨rfl, h⟩
          | cons d m => simp at h; exact Or.inr ⟨m, h.2⟩
    · rw [if_neg hb]
      obtain ⟨t, x, h1, h2⟩ := spl_last c l (cur ++ [b])
      refine ⟨t, x, h1, ?_⟩
      rw [h2]
      constructor
      · rintro (⟨h, _⟩ | ⟨m, rfl⟩)
        · simp at h
        · exact Or.inr ⟨b :: m, rfl⟩
      · rintro (⟨_, h⟩ | ⟨m, h⟩)
        · cases h
        · cases m with
          | nil => simp at h; exact absurd h.1 hb
          | cons d m => simp at h; exact Or.inr ⟨m, h.2⟩
theorem spl_len (c : UInt8) : ∀ (l cur : List UInt8), 1 ≤ (spl c cur l).length ∧ (spl c cur l).length ≤ l.length + 1
  | [], cur => by simp [spl]
  | b :: l, cur => by
    rw [spl]
    split
    · have := spl_len c l []; simp; omega
    · have := spl_len c l (cur ++ [b]); simp; omega
theorem spl_mem (c : UInt8) : ∀ (l cur x : List UInt8), x ∈ spl c cur l → x.length ≤ cur.length + l.length
  | [], cur, x, h => by simp [spl] at h; subst h; simp
  | b :: l, cur, x, h => by
    rw [spl] at h
    split at h
    · rcases List.mem_cons.1 h with rfl | h
      · simp
      · have := spl_mem c l [] x h; simp at this ⊢; omega
    · have := spl_mem c l _ x h; simp at this ⊢; omega
end Go.Proofs.YtbcdlkapapajoaaDoor.AM
