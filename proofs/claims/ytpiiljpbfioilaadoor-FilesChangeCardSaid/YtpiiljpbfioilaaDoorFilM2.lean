/- Layer 5: the op that stands first in some bytes: mathematics. -/
import Derived.Test.YtpiiljpbfioilaaDoorFilM
namespace Go.Proofs.YtpiiljpbfioilaaDoor.AM
open Go.RowKit
set_option linter.unusedVariables false
set_option linter.unusedSimpArgs false
def oneS : List UInt8 → Option (OD × Nat)
  | k :: c :: r => if k = 0 ∨ k = 1 then (if r.length < c.toNat then none else if k = 1 then some ((true, (r.take c.toNat, [])), 2 + c.toNat) else
      match r.drop c.toNat with
      | x :: y :: t => if t.length < 256 * x.toNat + y.toNat then none else some ((false, (r.take c.toNat, t.take (256 * x.toNat + y.toNat))), 4 + c.toNat + (256 * x.toNat + y.toNat))
      | _ => none) else none
  | _ => none
theorem b8_nat (k : Nat) : b8 ((k : Nat) : Int) = UInt8.ofNat k := by
  unfold b8
  rw [IntKind.wrap_u8]
  apply UInt8.toNat_inj.1
  rw [UInt8.toNat_ofNat', UInt8.toNat_ofNat']
  omega
theorem b8_toNat (c : UInt8) : b8 ((c.toNat : Nat) : Int) = c := by rw [b8_nat]; simp
/-- what is read is what is laid -/
theorem one_lay {s : List UInt8} {o : OD} {k : Nat} (h : oneS s = some (o, k)) : layS o ++ s.drop k = s ∧ 2 ≤ k ∧ k ≤ s.length := by
  match s, h with
  | kk :: c :: r, h =>
    rw [oneS] at h
    split at h
    case isFalse => cases h
    rename_i hk
    split at h
    case isTrue => cases h
    rename_i hc
    have hl : (r.take c.toNat).length = c.toNat := by rw [List.length_take]; omega
    split at h
    · rename_i h1
      simp only [Option.some.injEq, Prod.mk.injEq] at h
      obtain ⟨rfl, rfl⟩ := h
      refine ⟨?_, by omega, by simp; omega⟩
      unfold layS
      simp only [hl, b8_toNat, h1, if_true, List.append_nil]
      rw [show 2 + c.toNat = c.toNat + 1 + 1 from by omega]
      simp
    · rename_i h1
      split at h
      case h_2 => cases h
      rename_i x y t hd
      split at h
      case isTrue => cases h
      rename_i ht
      simp only [Option.some.injEq, Prod.mk.injEq] at h
      obtain ⟨rfl, rfl⟩ := h
      have hk0 : kk = 0 := by rcases hk with h | h
                              · exact h
                              · exact absurd h h1
      have hx := x.toNat_lt
      have hy := y.toNat_lt
      have hlt : (t.take (256 * x.toNat + y.toNat)).length = 256 * x.toNat + y.toNat := by rw [List.length_take]; omega
      have hr : r = r.take c.toNat ++ x :: y :: t := by rw [← hd, List.take_append_drop]
      have hrl : r.length = c.toNat + (t.length + 2) := by have := congrArg List.length hr; rw [List.length_append, hl] at this; simpa using this
      refine ⟨?_, by omega, by simp only [List.length_cons]; omega⟩
      unfold layS
      simp only [hl, hlt, b8_toNat, hk0, Bool.false_eq_true, if_false]
      have q1 : (256 * x.toNat + y.toNat) / 256 = x.toNat := by omega
      have q2 : (256 * x.toNat + y.toNat) % 256 = y.toNat := by omega
      rw [q1, q2, b8_toNat, b8_toNat, show 4 + c.toNat + (256 * x.toNat + y.toNat) = (c.toNat + (2 + (256 * x.toNat + y.toNat))) + 1 + 1 from by omega]
      have hdr : r.drop (c.toNat + (2 + (256 * x.toNat + y.toNat))) = t.drop (256 * x.toNat + y.toNat) := by
        rw [← List.drop_drop, hd, show 2 + (256 * x.toNat + y.toNat) = (256 * x.toNat + y.toNat) + 1 + 1 from by omega]; simp
      simp only [List.drop_succ_cons, hdr]
      conv => rhs; rw [hr]
      simp
def parseO : Nat → List UInt8 → Option (List OD)
  | 0, _ => none
  | m + 1, s => if s = [] then some [] else match oneS s with
    | some (o, k) => (parseO m (s.drop k)).map (o :: ·)
    | none => none
def decS (s : List UInt8) : List OD × Int := match parseO (s.length + 1) s with
  | some out => if (encS out).2 = 0 ∧ (encS out).1 = s then (out, 0) else ([], 1)
  | none => ([], 1)
theorem parse_more : ∀ (m k : Nat) (s : List UInt8), s.length < m → s.length < k → parseO m s = parseO k s
  | 0, _, _, h, _ => absurd h (Nat.not_lt_zero _)
  | _, 0, _, _, h => absurd h (Nat.not_lt_zero _)
  | m + 1, k + 1, s, h1, h2 => by
    rw [parseO, parseO]
    by_cases hs : s = []
    · rw [if_pos hs, if_pos hs]
    · rw [if_neg hs, if_neg hs]
      cases ho : oneS s with
      | none => rfl
      | some p =>
        obtain ⟨o, j⟩ := p
        obtain ⟨_, h3, h4⟩ := one_lay ho
        simp only
        rw [parse_more m k (s.drop j) (by rw [List.length_drop]; omega) (by rw [List.length_drop]; omega)]
theorem parse_lay : ∀ (m : Nat) (s : List UInt8) (out : List OD), parseO m s = some out → (out.map layS).flatten = s
  | 0, _, _, h => by cases h
  | m + 1, s, out, h => by
    rw [parseO] at h
    split at h
    · rename_i hs; cases h; rw [hs]; rfl
    · split at h
      case h_2 => cases h
      rename_i o k ho
      cases hp : parseO m (s.drop k) with
      | none => rw [hp] at h; cases h
      | some out' =>
        rw [hp] at h
        have : out = o :: out' := by simpa using h.symm
        subst this
        rw [List.map_cons, List.flatten_cons, parse_lay m _ _ hp]
        exact (one_lay ho).1
theorem encL_lay : ∀ (l : List OD), (∀ o ∈ l, chkS o = 0) → encL l = ((l.map layS).flatten, 0)
  | [], _ => rfl
  | o :: l, h => by
    have ih := encL_lay l (fun o ho => h o (List.mem_cons_of_mem _ ho))
    rw [encL, if_pos (h o (List.mem_cons_self ..)), ih]; rfl
theorem encL_bad : ∀ (l : List OD), (∃ o ∈ l, chkS o ≠ 0) → (encL l).2 ≠ 0
  | [], h => by obtain ⟨o, h, _⟩ := h; cases h
  | o :: l, h => by
    rw [encL]
    by_cases h0 : chkS o = 0
    · rw [if_pos h0]
      obtain ⟨o', ho', hb⟩ := h
      have : ∃ o ∈ l, chkS o ≠ 0 := by
        rcases List.mem_cons.1 ho' with rfl | hm
        · exact absurd h0 hb
        · exact ⟨o', hm, hb⟩
      have ih := encL_bad l this
      rw [if_neg ih]; exact ih
    · rw [if_neg h0]; exact h0
/-- as the program goes through them -/
def decP : Nat → List UInt8 → List OD → List OD × Int
  | 0, _, _ => ([], 1)
  | m + 1, s, acc => if s = [] then (acc, 0) else match oneS s with
    | some (o, k) => if chkS o = 0 then decP m (s.drop k) (acc ++ [o]) else ([], 1)
    | none => ([], 1)
theorem decP_eq : ∀ (m : Nat) (s : List UInt8) (acc : List OD), s.length < m → decP m s acc = (match parseO m s with
    | some out => if (∀ o ∈ out, chkS o = 0) then (acc ++ out, 0) else ([], 1)
    | none => ([], 1))
  | 0, _, _, h => absurd h (Nat.not_lt_zero _)
  | m + 1, s, acc, h => by
    rw [decP, parseO]
    by_cases hs : s = []
    · rw [if_pos hs, if_pos hs]; simp
    · rw [if_neg hs, if_neg hs]
      cases ho : oneS s with
      | none => rfl
      | some p =>
        obtain ⟨o, j⟩ := p
        obtain ⟨_, h3, h4⟩ := one_lay ho
        simp only
        have ih := decP_eq m (s.drop j) (acc ++ [o]) (by rw [List.length_drop]; omega)
        rw [ih]
        cases hp : parseO m (s.drop j) with
        | none => simp
        | some out =>
          simp only [Option.map_some]
          by_cases hc : chkS o = 0
          · rw [if_pos hc]
            by_cases ha : ∀ o ∈ out, chkS o = 0
            · rw [if_pos ha, if_pos]
              · simp
              · intro o' ho'
                rcases List.mem_cons.1 ho' with rfl | hm
                · exact hc
                · exact ha _ hm
            · rw [if_neg ha, if_neg]
              exact fun hx => ha fun o ho => hx o (List.mem_cons_of_mem _ ho)
          · rw [if_neg hc, if_neg]
            exact fun hx => hc (hx o (List.mem_cons_self ..))
theorem dec_same (s : List UInt8) : decS s = if 4096 < s.length then ([], 1) else decP (s.length + 1) s [] := by
  unfold decS
  rw [decP_eq _ _ _ (Nat.lt_succ_self _)]
  cases hp : parseO (s.length + 1) s with
  | none => simp
  | some out =>
    have hl := parse_lay _ _ _ hp
    simp only
    by_cases ha : ∀ o ∈ out, chkS o = 0
    · have he := encL_lay out ha
      rw [hl] at he
      unfold encS
      rw [he, if_pos ha]
      by_cases hs : 4096 < s.length
      · simp [hs]
      · simp [hs]
    · have hb : ∃ o ∈ out, chkS o ≠ 0 := by
        refine Classical.byContradiction fun hx => ha fun o ho => Classical.byContradiction fun hc => hx ⟨o, ho, hc⟩
      have h2 := encL_bad out hb
      unfold encS
      rw [if_neg h2, if_neg ha]
      simp [h2]
end Go.Proofs.YtpiiljpbfioilaaDoor.AM
