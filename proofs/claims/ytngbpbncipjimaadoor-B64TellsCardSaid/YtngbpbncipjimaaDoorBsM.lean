/- Layer 13: mathematics: bytes as signs, and back. -/
import Derived.Test.YtngbpbncipjimaaDoorPure
namespace Go.Proofs.YtngbpbncipjimaaDoor.AM
set_option linter.unusedVariables false
set_option linter.unusedSimpArgs false
def sgT : List UInt8 := [65, 66, 67, 68, 69, 70, 71, 72, 73, 74, 75, 76, 77, 78, 79, 80, 81, 82, 83, 84, 85, 86, 87, 88, 89, 90, 97, 98, 99, 100, 101, 102, 103, 104, 105, 106, 107, 108, 109, 110, 111, 112, 113, 114, 115, 116, 117, 118, 119, 120, 121, 122, 48, 49, 50, 51, 52, 53, 54, 55, 56, 57, 43, 47]
def sg (n : Nat) : UInt8 := sgT.getD n 0
/-- a sign's number -/
def nuL (c : UInt8) : List UInt8 → Nat → Option Nat
  | [], _ => none
  | x :: l, i => if x = c then some i else nuL c l (i + 1)
def nu (c : UInt8) : Option Nat := nuL c sgT 0
theorem nu_sg : ∀ k : Fin 64, nu (sg k.val) = some k.val := by decide +kernel
theorem nu_lt : ∀ c : Fin 256, ∀ k, nu (UInt8.ofNat c.val) = some k → k < 64 := by
  have h : ∀ c : Fin 256, (match nu (UInt8.ofNat c.val) with | some k => decide (k < 64) | none => true) = true := by decide +kernel
  intro c k hk
  have := h c
  rw [hk] at this
  exact of_decide_eq_true this
theorem sg_nu' : ∀ c : Fin 256, ∀ k, nu (UInt8.ofNat c.val) = some k → sg k = UInt8.ofNat c.val := by
  have h : ∀ c : Fin 256, (match nu (UInt8.ofNat c.val) with | some k => decide (sg k = UInt8.ofNat c.val) | none => true) = true := by decide +kernel
  intro c k hk
  have := h c
  rw [hk] at this
  exact of_decide_eq_true this
theorem ofNat_toNat8 (c : UInt8) : UInt8.ofNat c.toNat = c := by simp
theorem nu_small {c : UInt8} {k : Nat} (h : nu c = some k) : k < 64 := nu_lt ⟨c.toNat, UInt8.toNat_lt c⟩ k (by simpa using h)
theorem sg_nu {c : UInt8} {k : Nat} (h : nu c = some k) : sg k = c := by
  have := sg_nu' ⟨c.toNat, UInt8.toNat_lt c⟩ k (by simpa using h)
  simpa using this
theorem nu_of {k : Nat} (h : k < 64) : nu (sg k) = some k := nu_sg ⟨k, h⟩
theorem nu_pad : nu 61 = none := by decide
theorem sg_pad {k : Nat} (h : k < 64) : sg k ≠ 61 := fun e => by
  have := nu_of h
  rw [e, nu_pad] at this
  cases this
theorem sg_inj {i j : Nat} (h : i < 64) (h2 : j < 64) (e : sg i = sg j) : i = j := by
  have := nu_of h
  rw [e, nu_of h2] at this
  exact (Option.some.inj this).symm
/-- the signs of some bytes -/
def encS : List UInt8 → List UInt8
  | a :: b :: c :: r => sg (a.toNat / 4) :: sg (a.toNat % 4 * 16 + b.toNat / 16) :: sg (b.toNat % 16 * 4 + c.toNat / 64) :: sg (c.toNat % 64) :: encS r
  | [a, b] => [sg (a.toNat / 4), sg (a.toNat % 4 * 16 + b.toNat / 16), sg (b.toNat % 16 * 4), 61]
  | [a] => [sg (a.toNat / 4), sg (a.toNat % 4 * 16), 61, 61]
  | [] => []
theorem enc_len : ∀ s : List UInt8, (encS s).length = (s.length + 2) / 3 * 4
  | a :: b :: c :: r => by
    have := enc_len r
    simp only [encS, List.length_cons, this]
    omega
  | [a, b] => by simp [encS]
  | [a] => by simp [encS]
  | [] => rfl
theorem enc_app : ∀ s t : List UInt8, s.length % 3 = 0 → encS (s ++ t) = encS s ++ encS t
  | a :: b :: c :: r, t, h => by
    have := enc_app r t (by simp only [List.length_cons] at h; omega)
    simp only [List.cons_append, encS, this]
  | [a, b], t, h => by simp at h
  | [a], t, h => by simp at h
  | [], t, h => rfl
/-- the document's decoding: numbers come in, bytes go out -/
def decN : List UInt8 → Nat → Nat → Option (List UInt8)
  | [], _, _ => some []
  | c :: t, n, bits => if c = 61 then some [] else
    match nu c with
    | none => none
    | some k => if bits + 6 ≥ 8 then (decN t ((n * 64 + k) % 65536) (bits + 6 - 8)).map fun l => UInt8.ofNat ((n * 64 + k) % 65536 / 2 ^ (bits + 6 - 8) % 256) :: l
      else decN t ((n * 64 + k) % 65536) (bits + 6)
theorem ofNat_eq {n : Nat} {a : UInt8} (h : n = a.toNat) : UInt8.ofNat n = a := by subst h; simp
theorem dec_enc : ∀ (s : List UInt8) (n : Nat), decN (encS s) n 0 = some s
  | a :: b :: c :: r, n => by
    have ha := UInt8.toNat_lt a; have hb := UInt8.toNat_lt b; have hc := UInt8.toNat_lt c
    have k0 : a.toNat / 4 < 64 := by omega
    have k1 : a.toNat % 4 * 16 + b.toNat / 16 < 64 := by omega
    have k2 : b.toNat % 16 * 4 + c.toNat / 64 < 64 := by omega
    have k3 : c.toNat % 64 < 64 := by omega
    unfold encS
    simp only [decN, if_neg (sg_pad k0), if_neg (sg_pad k1), if_neg (sg_pad k2), if_neg (sg_pad k3), nu_of k0, nu_of k1, nu_of k2, nu_of k3, Nat.zero_add, Nat.reduceAdd, Nat.reduceSub, Nat.reduceLeDiff, ge_iff_le, if_true, if_false, dec_enc r, Option.map_some, Nat.reducePow, Nat.div_one]
    rw [ofNat_eq (a := a) (by omega), ofNat_eq (a := b) (by omega), ofNat_eq (a := c) (by omega)]
  | [a, b], n => by
    have ha := UInt8.toNat_lt a; have hb := UInt8.toNat_lt b
    have k0 : a.toNat / 4 < 64 := by omega
    have k1 : a.toNat % 4 * 16 + b.toNat / 16 < 64 := by omega
    have k2 : b.toNat % 16 * 4 < 64 := by omega
    unfold encS
    simp only [decN, if_neg (sg_pad k0), if_neg (sg_pad k1), if_neg (sg_pad k2), nu_of k0, nu_of k1, nu_of k2, Nat.zero_add, Nat.reduceAdd, Nat.reduceSub, Nat.reduceLeDiff, ge_iff_le, if_true, if_false, Option.map_some, Nat.reducePow, Nat.div_one]
    rw [ofNat_eq (a := a) (by omega), ofNat_eq (a := b) (by omega)]
  | [a], n => by
    have ha := UInt8.toNat_lt a
    have k0 : a.toNat / 4 < 64 := by omega
    have k1 : a.toNat % 4 * 16 < 64 := by omega
    unfold encS
    simp only [decN, if_neg (sg_pad k0), if_neg (sg_pad k1), nu_of k0, nu_of k1, Nat.zero_add, Nat.reduceAdd, Nat.reduceSub, Nat.reduceLeDiff, ge_iff_le, if_true, if_false, Option.map_some, Nat.reducePow, Nat.div_one]
    rw [ofNat_eq (a := a) (by omega)]
  | [], n => rfl
theorem enc_inj {s t : List UInt8} (h : encS s = encS t) : s = t := by
  have h1 := dec_enc s 0
  rw [h, dec_enc t 0] at h1
  exact (Option.some.inj h1).symm
/-- the bytes whose signs these are -/
def decS (t : List UInt8) : List UInt8 × Bool := match decN t 0 0 with
  | none => ([], false)
  | some s => if encS s = t then (s, true) else ([], false)
theorem dec_yes {s t : List UInt8} (h : encS s = t) : decS t = (s, true) := by
  unfold decS
  subst h
  rw [dec_enc]
  simp
theorem dec_no {t : List UInt8} (h : ∀ s, encS s ≠ t) : decS t = ([], false) := by
  unfold decS
  split
  · rfl
  · rw [if_neg (h _)]
theorem dec_of {t s : List UInt8} (h : decS t = (s, true)) : encS s = t := by
  unfold decS at h
  split at h
  · cases h
  · split at h
    · rename_i s' _ he
      obtain ⟨rfl, _⟩ := Prod.mk.inj h
      exact he
    · cases h
theorem dec_not {t s : List UInt8} (h : decS t = (s, false)) : s = [] ∧ ∀ x, encS x ≠ t := by
  refine ⟨?_, fun x hx => ?_⟩
  · unfold decS at h
    split at h
    · exact (Prod.mk.inj h).1.symm
    · split at h
      · cases h
      · exact (Prod.mk.inj h).1.symm
  · rw [dec_yes hx] at h; cases h
/-- four signs: one to three bytes -/
def rdS (t : List UInt8) (g : List UInt8) : Prop := g ≠ [] ∧ g.length ≤ 3 ∧ encS g = t
theorem rd_len {t g : List UInt8} (h : rdS t g) : t.length = 4 := by
  obtain ⟨h1, h2, rfl⟩ := h
  rw [enc_len]
  cases g with
  | nil => exact absurd rfl h1
  | cons a g => simp only [List.length_cons] at h2 ⊢; omega
theorem dec_nil : decS [] = ([], true) := dec_yes (s := []) rfl
theorem enc_nil {s : List UInt8} (h : encS s = []) : s = [] := enc_inj (t := []) h
/-- signs that are cut behind four: either these are no signs, or there must be three bytes, or they are the last ones -/
theorem enc_split {s t : List UInt8} (h : encS s = t) (h4 : t ≠ []) : ∃ g r, rdS (t.take 4) g ∧ encS r = t.drop 4 ∧ s = g ++ r ∧ (g.length < 3 → t.length ≤ 4) := by
  match s, h with
  | [], h => exact absurd h.symm h4
  | [a], h => subst h; exact ⟨[a], [], ⟨by simp, by simp, rfl⟩, rfl, rfl, fun _ => by simp [encS]⟩
  | [a, b], h => subst h; exact ⟨[a, b], [], ⟨by simp, by simp, rfl⟩, rfl, rfl, fun _ => by simp [encS]⟩
  | a :: b :: c :: r, h => subst h; exact ⟨[a, b, c], r, ⟨by simp, by simp, rfl⟩, rfl, rfl, fun h => by simp at h⟩
theorem rd_uniq {t g g' : List UInt8} (h : rdS t g) (h' : rdS t g') : g = g' := enc_inj (h.2.2.trans h'.2.2.symm)
/-- a group is no signs: nor is the whole -/
theorem dec_bad {t : List UInt8} (h4 : t ≠ []) (h : ∀ g, rdS (t.take 4) g → g.length < 3 ∧ 4 < t.length) : decS t = ([], false) :=
  dec_no fun s hs => by
    obtain ⟨g, r, h1, h2, h3, h5⟩ := enc_split hs h4
    have := h g h1
    have := h5 this.1
    omega
theorem dec_short {t : List UInt8} (h4 : t ≠ []) (h : t.length < 4) : decS t = ([], false) :=
  dec_bad h4 fun g hg => by
    have := rd_len hg
    rw [List.length_take] at this
    omega
end Go.Proofs.YtngbpbncipjimaaDoor.AM
