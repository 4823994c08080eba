/- Layer 8: what a path is, its parts, its major: mathematics, no program. -/
import Derived.Test.YtpiiljpbfioilaaDoorVerM
import Derived.Lib.SlTrimSet
namespace Go.Proofs.YtpiiljpbfioilaaDoor.AM
open Go.RowKit
set_option linter.unusedVariables false
set_option linter.unusedSimpArgs false
def pSign (c : UInt8) : Bool := isSg c || decide (c.toNat = 95) || decide (c.toNat = 46)
def partS (s : List UInt8) : Bool := !decide (s = []) && (!decide (s = [46]) && (!decide (s = [46, 46]) && s.all pSign))
def pathS (s : List UInt8) : Bool := decide (s.length ≤ 60) && (spl 47 [] s).all partS
def tellsS (w : List UInt8) : Bool := decide (w.head? = some 118) && isNumS (w.drop 1)
def anyS (s : List UInt8) : Bool := (spl 47 [] s).any tellsS
/-! the last place of a byte -/
def lastR (c : UInt8) : List UInt8 → Int
  | [] => -1
  | b :: r => if b = c then (r.length : Int) else lastR c r
def lastC (c : UInt8) (s : List UInt8) : Int := lastR c s.reverse
theorem lastR_ge (c : UInt8) : ∀ l, -1 ≤ lastR c l ∧ lastR c l < (l.length : Int)
  | [] => by simp [lastR]
  | b :: r => by
    have := lastR_ge c r
    rw [lastR]; split
    · simp; omega
    · simp; omega
theorem lastC_ge (c : UInt8) (s : List UInt8) : -1 ≤ lastC c s ∧ lastC c s < (s.length : Int) := by
  have := lastR_ge c s.reverse; unfold lastC; simpa using this
theorem lastR_miss (c : UInt8) : ∀ l, c ∉ l → lastR c l = -1
  | [], _ => rfl
  | b :: r, h => by
    have h1 : b ≠ c := fun e => h (by simp [e])
    rw [lastR, if_neg h1, lastR_miss c r (fun e => h (by simp [e]))]
theorem lastR_hit (c : UInt8) : ∀ (y x : List UInt8), c ∉ y → lastR c (y ++ c :: x) = (x.length : Int)
  | [], x, _ => by simp [lastR]
  | b :: y, x, h => by
    have h1 : b ≠ c := fun e => h (by simp [e])
    rw [List.cons_append, lastR, if_neg h1, lastR_hit c y x (fun e => h (by simp [e]))]
theorem lastC_miss {c : UInt8} {s : List UInt8} (h : c ∉ s) : lastC c s = -1 := lastR_miss c _ (by simpa using h)
theorem lastC_hit {c : UInt8} {x y : List UInt8} (h : c ∉ y) : lastC c (x ++ c :: y) = (x.length : Int) := by
  have := lastR_hit c y.reverse x.reverse (by simpa using h)
  unfold lastC
  simpa using this
def baseS (s : List UInt8) : List UInt8 := s.take (lastC 47 s).toNat
def lastS (s : List UInt8) : List UInt8 := s.drop (lastC 47 s + 1).toNat
theorem cut_last (c : UInt8) : ∀ s : List UInt8, c ∉ s ∨ ∃ x y, s = x ++ c :: y ∧ c ∉ y
  | [] => Or.inl (by simp)
  | b :: s => by
    rcases cut_last c s with h | ⟨x, y, rfl, h⟩
    · by_cases hb : b = c
      · subst hb; exact Or.inr ⟨[], s, rfl, h⟩
      · exact Or.inl (by simp [h, Ne.symm hb])
    · exact Or.inr ⟨b :: x, y, rfl, h⟩
theorem base_miss {s : List UInt8} (h : 47 ∉ s) : baseS s = [] ∧ lastS s = s := by
  unfold baseS lastS; rw [lastC_miss h]; exact ⟨rfl, rfl⟩
theorem base_hit {x y : List UInt8} (h : 47 ∉ y) : baseS (x ++ 47 :: y) = x ∧ lastS (x ++ 47 :: y) = y := by
  unfold baseS lastS; rw [lastC_hit h]
  constructor
  · simp
  · rw [show (((x.length : Nat) : Int) + 1).toNat = x.length + 1 from by omega]; simp
theorem spl_app (c : UInt8) : ∀ (x cur y : List UInt8), spl c cur (x ++ c :: y) = spl c cur x ++ spl c [] y
  | [], cur, y => by simp [spl]
  | b :: x, cur, y => by
    rw [List.cons_append, spl, spl]
    split
    · rw [spl_app c x]; rfl
    · rw [spl_app c x]
/-- the parts of a text, the last one apart -/
theorem parts_last (s : List UInt8) : (47 ∉ s ∧ baseS s = [] ∧ lastS s = s ∧ spl 47 [] s = [s]) ∨ (s = baseS s ++ 47 :: lastS s ∧ 47 ∉ lastS s ∧ spl 47 [] s = spl 47 [] (baseS s) ++ [lastS s]) := by
  rcases cut_last 47 s with h | ⟨x, y, rfl, h⟩
  · exact Or.inl ⟨h, (base_miss h).1, (base_miss h).2, spl_miss' 47 s h⟩
  · refine Or.inr ?_
    rw [(base_hit h).1, (base_hit h).2]
    exact ⟨rfl, h, by rw [spl_app, spl_miss' 47 y h]⟩
/-! digits, and the number that they tell -/
abbrev digs : List UInt8 := [48, 49, 50, 51, 52, 53, 54, 55, 56, 57]
theorem digs_has (c : UInt8) : digs.contains c = isDig c := by
  have h : ∀ k : Fin 256, digs.contains (UInt8.ofNat k.val) = isDig (UInt8.ofNat k.val) := by decide +kernel
  have h1 := h ⟨c.toNat, c.toNat_lt⟩
  simpa using h1
theorem dropWhile_nil (p : UInt8 → Bool) : ∀ l : List UInt8, l.dropWhile p = [] ↔ l.all p = true
  | [] => by simp
  | b :: l => by
    rw [List.dropWhile_cons]
    cases h : p b with
    | true => simp [h, dropWhile_nil p l]
    | false => simp [h]
theorem dropWhile_mem {p : UInt8 → Bool} {c : UInt8} : ∀ {l : List UInt8}, c ∈ l → p c = false → c ∈ l.dropWhile p
  | b :: l, h, hp => by
    rw [List.dropWhile_cons]
    rcases List.mem_cons.1 h with rfl | h
    · simp [hp]
    · cases hb : p b with
      | true => simpa using dropWhile_mem h hp
      | false => simp [h]
theorem trim_nil (s : List UInt8) : decide (Lib.trimS s digs = []) = s.all isDig := by
  have he : (fun c => digs.contains c) = isDig := funext digs_has
  unfold Lib.trimS Lib.trimRightS Lib.trimLeftS
  rw [he]
  cases h : s.all isDig with
  | true =>
    have h2 : s.reverse.all isDig = true := by rw [List.all_reverse]; exact h
    rw [(dropWhile_nil isDig s.reverse).2 h2]; simp
  | false =>
    rw [decide_eq_false_iff_not, dropWhile_nil]
    intro hc
    have h3 : ∃ c, c ∈ s ∧ isDig c = false := by
      have := List.all_eq_false.1 h
      obtain ⟨c, hc, hn⟩ := this
      exact ⟨c, hc, by simpa using hn⟩
    obtain ⟨c, hm, hn⟩ := h3
    have h4 : c ∈ (s.reverse.dropWhile isDig).reverse := by simpa using dropWhile_mem (l := s.reverse) (by simpa using hm) hn
    have := List.all_eq_true.1 hc c h4
    rw [hn] at this; cases this
def numOf (s : List UInt8) : Int := match Lib.atoiAll s with
  | .ok v => v
  | .range => Lib.atoiSat s
  | _ => 0
def fine (s : List UInt8) : Bool := match Lib.atoiAll s with
  | .ok v => decide (2 ≤ v) && (decide (v ≤ 999999999) && decide (s = Lib.itoa v))
  | _ => false
theorem fine_itoa {n : Int} (h0 : 2 ≤ n) (h1 : n ≤ 999999999) : fine (Lib.itoa n) = true ∧ numOf (Lib.itoa n) = n := by
  unfold fine numOf; rw [atoi_itoa (by omega) h1]; simp [h0, h1]
theorem fine_some {s : List UInt8} (h : fine s = true) : 2 ≤ numOf s ∧ numOf s ≤ 999999999 ∧ s = Lib.itoa (numOf s) := by
  unfold fine at h; unfold numOf
  cases e : Lib.atoiAll s with
  | ok v => rw [e] at h; simpa using h
  | range => rw [e] at h; cases h
  | «syntax» => rw [e] at h; cases h
theorem num_itoa {n : Int} (h0 : 0 ≤ n) : isNumS (Lib.itoa n) = true := by
  rw [itoa_dec h0]; unfold isNumS; have := dec_dig n.toNat; simp [this.1, this.2]
/-! a path's major -/
def okS (p : List UInt8) : Bool := pathS p && (!anyS (baseS p) && (!tellsS (lastS p) || (fine ((lastS p).drop 1) && !decide (baseS p = []))))
def majorS (p : List UInt8) : List UInt8 × (Int × Bool) := if okS p then (if tellsS (lastS p) then (baseS p, (numOf ((lastS p).drop 1), true)) else (p, (0, true))) else ([], (0, false))
def majT (n : Int) : List UInt8 := 118 :: Lib.itoa n
theorem tells_majT {n : Int} (h : 0 ≤ n) : tellsS (majT n) = true := by
  unfold tellsS majT; simp [num_itoa h]
theorem slash_majT {n : Int} (h : 0 ≤ n) : (47 : UInt8) ∉ majT n := by
  unfold majT; rw [itoa_dec h]
  have := dig_mem (c := 47) (by decide) n.toNat
  simp [this]
theorem path_parts {s : List UInt8} (h : pathS s = true) : s.length ≤ 60 ∧ (spl 47 [] s).all partS = true := by
  unfold pathS at h; simpa using h
theorem path_ne {s : List UInt8} (h : pathS s = true) : s ≠ [] := by
  rintro rfl; exact absurd h (by decide)
theorem ok_path {p : List UInt8} (h : okS p = true) : pathS p = true ∧ anyS (baseS p) = false ∧ (tellsS (lastS p) = true → fine ((lastS p).drop 1) = true ∧ baseS p ≠ []) := by
  unfold okS at h
  simp only [Bool.and_eq_true, Bool.or_eq_true, Bool.not_eq_true', decide_eq_false_iff_not] at h
  refine ⟨h.1, h.2.1, fun ht => ?_⟩
  rcases h.2.2 with h3 | h3
  · rw [ht] at h3; cases h3
  · exact h3
theorem ok_of {p : List UInt8} (h1 : pathS p = true) (h2 : anyS (baseS p) = false) (h3 : tellsS (lastS p) = true → fine ((lastS p).drop 1) = true ∧ baseS p ≠ []) : okS p = true := by
  unfold okS
  rw [h1, h2]
  cases ht : tellsS (lastS p) with
  | false => rfl
  | true => have := h3 ht; rw [this.1]; simp [this.2]
/-- where no part tells a major -/
theorem ok_none {p : List UInt8} (h1 : pathS p = true) (h2 : anyS p = false) : majorS p = (p, (0, true)) := by
  have hl : tellsS (lastS p) = false ∧ anyS (baseS p) = false := by
    rcases parts_last p with ⟨_, a, b, c⟩ | ⟨_, _, c⟩
    · unfold anyS at h2; rw [c] at h2
      rw [a, b]
      exact ⟨by simpa using h2, by decide⟩
    · unfold anyS at h2 ⊢; rw [c, List.any_append] at h2
      simp at h2
      exact ⟨h2.2, by simpa using h2.1⟩
  unfold majorS
  rw [ok_of h1 hl.2 (fun h => by rw [hl.1] at h; cases h), hl.1]; rfl
/-- where the last part tells a major, and none ahead of it -/
theorem ok_some {x : List UInt8} {n : Int} (h0 : 2 ≤ n) (h1 : n ≤ 999999999) (hp : pathS (x ++ 47 :: majT n) = true) (ha : anyS x = false) (hx : x ≠ []) : majorS (x ++ 47 :: majT n) = (x, (n, true)) := by
  have hs := slash_majT (n := n) (by omega)
  have ht := tells_majT (n := n) (by omega)
  have hf := fine_itoa h0 h1
  have e : (majT n).drop 1 = Lib.itoa n := rfl
  unfold majorS
  rw [ok_of hp (by rw [(base_hit hs).1]; exact ha) (fun _ => by rw [(base_hit hs).1, (base_hit hs).2, e]; exact ⟨hf.1, hx⟩), (base_hit hs).1, (base_hit hs).2, ht, e, hf.2]; rfl
/-- a path's major, all that there is -/
theorem major_cases (p : List UInt8) : (okS p = false ∧ majorS p = ([], (0, false))) ∨ (pathS p = true ∧ anyS p = false ∧ majorS p = (p, (0, true))) ∨ (∃ x n, 2 ≤ n ∧ n ≤ 999999999 ∧ p = x ++ 47 :: majT n ∧ pathS p = true ∧ pathS x = true ∧ anyS x = false ∧ majorS p = (x, (n, true))) := by
  cases ho : okS p with
  | false => exact Or.inl ⟨rfl, by unfold majorS; rw [ho]; rfl⟩
  | true =>
    obtain ⟨h1, h2, h3⟩ := ok_path ho
    refine Or.inr ?_
    cases ht : tellsS (lastS p) with
    | false =>
      have ha : anyS p = false := by
        rcases parts_last p with ⟨_, _, b, c⟩ | ⟨_, _, c⟩
        · unfold anyS; rw [c]; rw [b] at ht; simp [ht]
        · unfold anyS at h2 ⊢; rw [c, List.any_append, h2]; simp [ht]
      exact Or.inl ⟨h1, ha, ok_none h1 ha⟩
    | true =>
      obtain ⟨hf, hb⟩ := h3 ht
      obtain ⟨n0, n1, ne⟩ := fine_some hf
      rcases parts_last p with ⟨_, a, _, _⟩ | ⟨he, hs, hc⟩
      · exact absurd a hb
      · have hl : lastS p = majT (numOf ((lastS p).drop 1)) := by
          unfold majT; rw [← ne]
          unfold tellsS at ht
          simp only [Bool.and_eq_true, decide_eq_true_eq] at ht
          generalize lastS p = w at ht
          cases w with
          | nil => cases ht.1
          | cons b r => have : b = 118 := by simpa using ht.1
                        rw [this]; rfl
        have hpx : pathS (baseS p) = true := by
          obtain ⟨l1, l2⟩ := path_parts h1
          rw [hc, List.all_append] at l2
          have : (baseS p).length ≤ 60 := by unfold baseS; rw [List.length_take]; omega
          unfold pathS
          simp only [Bool.and_eq_true, decide_eq_true_eq] at l2 ⊢
          exact ⟨this, l2.1⟩
        exact Or.inr ⟨baseS p, _, n0, n1, by rw [← hl]; exact he, h1, hpx, h2, by unfold majorS; rw [ho, ht]; rfl⟩
end Go.Proofs.YtpiiljpbfioilaaDoor.AM
