/- Acts, and what comes of a disk by them. -/
import Derived.Test.YtnoegkhkeeameaaDiskP
namespace Go.Proofs.Ytnoegkhkeeameaa
open Go.RowKit
set_option linter.unusedVariables false
namespace DM
abbrev Ac := Bool × Int × ByteArray
def actOk (n : Nat) (a : Ac) : Prop := a.1 = true ∨ writeE n a.2.1 a.2.2 = 0
instance (n : Nat) (a : Ac) : Decidable (actOk n a) := by unfold actOk; infer_instance
def stepD (d : Dk) (a : Ac) : Dk := if a.1 then settleD (fun _ => true) d else addW d a.2.1 a.2.2
def runK (d : Dk) (l : List Ac) : Dk := l.foldl stepD d
theorem runK_snoc (d : Dk) (l : List Ac) (k : Nat) (h : k < l.length) : runK d (l.take (k + 1)) = stepD (runK d (l.take k)) l[k] := by
  unfold runK; rw [← List.take_append_getElem h, List.foldl_append]; rfl
theorem stepD_len (d : Dk) (a : Ac) : (stepD d a).secs.length = d.secs.length := by
  unfold stepD; split
  · exact settleK_length _ _ _ _
  · rfl
theorem runK_len (d : Dk) (l : List Ac) : (runK d l).secs.length = d.secs.length := by
  unfold runK
  induction l generalizing d with
  | nil => rfl
  | cons a t ih => rw [List.foldl_cons, ih, stepD_len]
theorem stepD_cache (d : Dk) (a : Ac) : (stepD d a).cache.length ≤ d.cache.length + 1 := by
  unfold stepD; split
  · exact Nat.zero_le _
  · show (d.cache ++ [_]).length ≤ _; simp
theorem runK_cache (d : Dk) (l : List Ac) : (runK d l).cache.length ≤ d.cache.length + l.length := by
  unfold runK
  induction l generalizing d with
  | nil => simp
  | cons a t ih =>
    rw [List.foldl_cons]
    have h1 := ih (stepD d a)
    have h2 := stepD_cache d a
    simp only [List.length_cons]; omega
theorem writeE_ok {n : Nat} {i : Int} {s : ByteArray} (h : writeE n i s = 0) : inD n i ∧ s.size ≤ 32 := by
  unfold writeE at h
  by_cases h1 : inD n i
  · rw [if_pos h1] at h
    by_cases h2 : 32 < s.size
    · rw [if_pos h2] at h; omega
    · exact ⟨h1, by omega⟩
  · rw [if_neg h1] at h; omega
theorem settle_size {keep : Nat → Bool} {secs : List ByteArray} {cache : List Wr} (hs : ∀ s ∈ secs, s.size = 32) (hc : ∀ p ∈ cache, p.2.size = 32) (k : Nat) (hk : k ≤ cache.length) : ∀ s ∈ settleK keep secs cache k, s.size = 32 := by
  induction k with
  | zero => exact hs
  | succ k ih =>
    unfold settleK
    have hg : cache.getD k (0, ⟨#[]⟩) = cache[k] := by simp [List.getD, show k < cache.length from hk]
    split
    · intro s h
      rw [hg] at h
      rcases List.mem_or_eq_of_mem_set h with h1 | h1
      · exact ih (by omega) s h1
      · rw [h1]; exact hc _ (List.getElem_mem _)
    · exact ih (by omega)
theorem may_settle {d : Dk} (h : mayD d) (keep : Nat → Bool) : mayD (settleD keep d) := by
  have hl : (settleD keep d).secs.length = d.secs.length := settleK_length _ _ _ _
  exact ⟨by rw [hl]; exact h.1, by rw [hl]; exact h.2.1, settle_size h.2.2.1 (fun p hp => (h.2.2.2 p hp).2.2) _ (Nat.le_refl _), fun p hp => by cases hp⟩
theorem may_step {d : Dk} {a : Ac} (h : mayD d) (ha : actOk d.secs.length a) : mayD (stepD d a) := by
  unfold stepD
  by_cases h1 : a.1 = true
  · rw [if_pos h1]; exact may_settle h _
  · rw [if_neg h1]
    obtain ⟨hi, hs⟩ := writeE_ok (ha.resolve_left h1)
    exact may_add h hi hs
theorem may_run {d : Dk} {l : List Ac} (h : mayD d) (ha : ∀ a ∈ l, actOk d.secs.length a) : mayD (runK d l) := by
  unfold runK
  induction l generalizing d with
  | nil => exact h
  | cons a t ih =>
    rw [List.foldl_cons]
    exact ih (may_step h (ha a (List.mem_cons_self ..))) (fun b hb => by rw [stepD_len]; exact ha b (List.mem_cons_of_mem _ hb))
/-- the error of the first act that can't be done; 0: there is none -/
def actsE (n : Nat) : List Ac → Int
  | [] => 0
  | a :: t => if actOk n a then actsE n t else writeE n a.2.1 a.2.2
theorem actsE_good (n : Nat) (l : List Ac) (h : ∀ a ∈ l, actOk n a) : actsE n l = 0 := by
  induction l with
  | nil => rfl
  | cons a t ih => unfold actsE; rw [if_pos (h a (List.mem_cons_self ..))]; exact ih (fun b hb => h b (List.mem_cons_of_mem _ hb))
theorem actsE_bad (n : Nat) (l : List Ac) (k : Nat) (hk : k < l.length) (h : ∀ j (hj : j < l.length), j < k → actOk n l[j]) (hb : ¬ actOk n l[k]) : actsE n l = writeE n l[k].2.1 l[k].2.2 ∧ actsE n l ≠ 0 := by
  induction l generalizing k with
  | nil => simp at hk
  | cons a t ih =>
    cases k with
    | zero =>
      have hb' : ¬ actOk n a := hb
      unfold actsE; rw [if_neg hb']
      exact ⟨rfl, fun e => hb' (Or.inr e)⟩
    | succ k =>
      have h0 : actOk n a := h 0 (by simp) (by omega)
      have := ih k (by simpa using hk) (fun j hj hjk => h (j + 1) (by simpa using hj) (by omega)) hb
      unfold actsE
      rw [if_pos h0]
      exact this
theorem actsE_zero {n : Nat} {l : List Ac} (h : actsE n l = 0) : ∀ a ∈ l, actOk n a := by
  induction l with
  | nil => intro a ha; cases ha
  | cons b t ih =>
    unfold actsE at h
    by_cases hb : actOk n b
    · rw [if_pos hb] at h
      intro a ha
      rcases List.mem_cons.1 ha with rfl | h1
      · exact hb
      · exact ih h a h1
    · rw [if_neg hb] at h; exact absurd (Or.inr h) hb
def runE (d : Dk) (l : List Ac) : Int := if mayD d then actsE d.secs.length l else 1
def runD (d : Dk) (l : List Ac) : Dk := if mayD d ∧ actsE d.secs.length l = 0 then runK d l else d
/-- a value is a list of acts, in a world -/
def AV (w : World) (v : Value) (l : List Ac) : Prop := ∃ a cap, v = .slice a l.length cap ∧ l.length ≤ cap ∧ cap ≤ 9223372036854775807 ∧ (0 < l.length → ∃ b off, a = some ⟨b, off, none⟩ ∧ b < w.heap.size ∧ ∀ k (h : k < l.length), w.cell? ⟨b, off + k * 3, none⟩ = some (.bool l[k].1) ∧ w.cell? ⟨b, off + k * 3 + 1, none⟩ = some (.int .i64 l[k].2.1) ∧ w.cell? ⟨b, off + k * 3 + 2, none⟩ = some (.string l[k].2.2))
theorem AV.below {w w' : World} {v : Value} {l : List Ac} (h : AV w v l) (hb : Below w.heap.size w w') : AV w' v l := by
  obtain ⟨a, cap, h1, h6, h7, h2⟩ := h
  refine ⟨a, cap, h1, h6, h7, fun h0 => ?_⟩
  obtain ⟨b, off, h3, h4, h5⟩ := h2 h0
  exact ⟨b, off, h3, Nat.lt_of_lt_of_le h4 hb.size, fun k hk => ⟨(hb.cell (p := ⟨b, off + k * 3, none⟩) h4).trans (h5 k hk).1, (hb.cell (p := ⟨b, off + k * 3 + 1, none⟩) h4).trans (h5 k hk).2.1, (hb.cell (p := ⟨b, off + k * 3 + 2, none⟩) h4).trans (h5 k hk).2.2⟩⟩
end DM
end Go.Proofs.Ytnoegkhkeeameaa
