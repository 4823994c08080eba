/- The walk of the law on what was written last. -/
import Derived.Test.YtnoegkhkeeameaaDiskL
import Derived.Test.YtnoegkhkeeameaaDiskN
import Derived.Test.YtnoegkhkeeameaaDiskO
namespace Go.Proofs.Ytnoegkhkeeameaa
open Go.RowKit
set_option linter.unusedVariables false
namespace DM
theorem Var.two2 (w : World) (v1 v2 v3 v4 : Value) (T T2 : TypeId) : Var ((w.alloc (.cells #[v1, v2] T)).alloc (.cells #[v3, v4] T2)) w.heap.size v1 v2 ∧ Var ((w.alloc (.cells #[v1, v2] T)).alloc (.cells #[v3, v4] T2)) (w.heap.size + 1) v3 v4 := by
  refine ⟨(Var.made w _ _ _).below ((Below.refl _ _).alloc (Nat.le_refl _) _), ?_⟩
  have := Var.made (w.alloc (.cells #[v1, v2] T)) v3 v4 T2
  simpa using this
/-! what follows -/
theorem put_zero {d : Dk} {i : Int} {s : ByteArray} (h : putE d i s = 0) : mayD d ∧ inD d.secs.length i ∧ s.size ≤ 32 ∧ putD d i s = addW d i s := by
  unfold putE at h
  by_cases hm : mayD d
  · rw [if_pos hm] at h
    have hd : putD d i s = addW d i s := by unfold putD writeD; rw [if_pos hm, if_pos h]
    unfold writeE at h
    by_cases h1 : inD d.secs.length i
    · rw [if_pos h1] at h
      by_cases h2 : 32 < s.size
      · rw [if_pos h2] at h; omega
      · exact ⟨hm, h1, by omega, hd⟩
    · rw [if_neg h1] at h; omega
  · rw [if_neg hm] at h; omega
theorem put_ne {d : Dk} {i : Int} {s : ByteArray} (h : putE d i s ≠ 0) : putD d i s = d := by
  unfold putE at h
  unfold putD writeD
  by_cases hm : mayD d
  · rw [if_pos hm] at h ⊢; rw [if_neg h]
  · rw [if_neg hm]
theorem may_add {d : Dk} {i : Int} {s : ByteArray} (hm : mayD d) (hi : inD d.secs.length i) (hs : s.size ≤ 32) : mayD (addW d i s) := by
  refine ⟨hm.1, hm.2.1, hm.2.2.1, fun p hp => ?_⟩
  rcases List.mem_append.1 hp with h | h
  · exact hm.2.2.2 p h
  · obtain rfl : p = (i, fillB s) := by simpa using h
    exact ⟨hi.1, hi.2, fillB_size s hs⟩
theorem last_add (x : ByteArray) (l : List Wr) (i j : Int) (t : ByteArray) : lastOf x (l ++ [(i, t)]) j = if i = j then t else lastOf x l j := by
  unfold lastOf; rw [List.foldl_append]; rfl
theorem get_add_same {d : Dk} {i : Int} {s : ByteArray} (hm : mayD d) (hi : inD d.secs.length i) (hs : s.size ≤ 32) : getB (addW d i s) i = fillB s ∧ getE (addW d i s) i = 0 := by
  have hok : getOk (addW d i s) i := ⟨may_add hm hi hs, hi⟩
  refine ⟨?_, if_pos hok⟩
  unfold getB
  rw [if_pos hok]
  show lastOf _ (d.cache ++ [(i, fillB s)]) i = _
  rw [last_add, if_pos rfl]
theorem get_add_other {d : Dk} {i j : Int} {s : ByteArray} (hm : mayD d) (hi : inD d.secs.length i) (hs : s.size ≤ 32) : getE (addW d i s) j = getE d j ∧ (j ≠ i → getB (addW d i s) j = getB d j) := by
  have hok : getOk (addW d i s) j ↔ getOk d j := ⟨fun h => ⟨hm, h.2⟩, fun h => ⟨may_add hm hi hs, h.2⟩⟩
  refine ⟨?_, fun hne => ?_⟩
  · unfold getE; simp only [hok]
  · unfold getB
    simp only [hok]
    by_cases h : getOk d j
    · rw [if_pos h, if_pos h]
      show lastOf _ (d.cache ++ [(i, fillB s)]) j = _
      rw [last_add, if_neg (fun e => hne e.symm)]; rfl
    · rw [if_neg h, if_neg h]
theorem settleK_congr {f g : Nat → Bool} (secs : List ByteArray) (cache : List Wr) (k : Nat) (h : ∀ j, j < k → f j = g j) : settleK f secs cache k = settleK g secs cache k := by
  induction k with
  | zero => rfl
  | succ k ih =>
    unfold settleK
    rw [ih (fun j hj => h j (by omega)), h k (by omega)]
theorem crash_congr {f g : Nat → Bool} (d : Dk) (h : ∀ j, j < d.cache.length → f j = g j) : crashD f d = crashD g d := by
  unfold crashD settleD
  rw [settleK_congr d.secs d.cache d.cache.length h]
theorem fill_extract (s : ByteArray) : (fillB s).extract 0 s.size = s := by
  unfold fillB
  rw [RM.extract0]
  unfold RM.fillL
  have h : s.data.toList.length = s.size := by simp
  rw [← h, List.take_left]
  exact RM.str_self s
theorem argE_may {d : Dk} (h : mayD d) : argE d = 0 := if_pos h
end DM
namespace DiskW
theorem BV.of_owns {w : World} {base : Nat} {e : TypeId} {v : Value} {l : List Bool} {n : Nat} (hn : n = l.length) (h : w.ownsRow base e 1 v n (l.map Value.bool)) : BV w v l := by
  subst hn
  have h' := h
  obtain ⟨h0, h1 | ⟨g, cap, cur, h1, h2, h3, h4⟩⟩ := h
  · exact ⟨none, 0, by rw [h1.1, h1.2], fun hp => absurd h1.2 (by omega)⟩
  · refine ⟨_, cap, h1, fun hp => ⟨g, 0, rfl, (Array.getElem?_eq_some_iff.1 h3).1, fun j hj => ?_⟩⟩
    subst h1
    rw [show (⟨g, 0 + j, none⟩ : Addr) = ⟨g, j, none⟩ from by simp, h'.cellAt j (by omega)]
    simp [hj]
theorem info_bool : (Try.prog.info? 4).map (fun i => (i.zero, i.size, i.bytes)) = some (some (.bool false), 1, 1) := by kernel_rfl
end DiskW
end Go.Proofs.Ytnoegkhkeeameaa
