/- Records in sectors: sectors joined. -/
import Derived.Test.YtnoegkhkeeameaaRecMath3
import Derived.Test.YtnoegkhkeeameaaLib
import Derived.Lib.Builder
import Derived.Lib.UnsafeStr
import Derived.Lib.AppendStr
namespace Go.Proofs.Ytnoegkhkeeameaa
open Go.RowKit
namespace RM
def allL (l : List ByteArray) : List UInt8 := l.flatMap (fun x => x.data.toList.drop 1)
theorem allL_snoc (l : List ByteArray) (k : Nat) (h : k < l.length) : allL (l.take (k + 1)) = allL (l.take k) ++ l[k].data.toList.drop 1 := by
  unfold allL
  rw [← List.take_append_getElem h, List.flatMap_append]; simp
theorem allL_length (l : List ByteArray) (h : ∀ x ∈ l, x.size = 32) : (allL l).length = 31 * l.length := by
  unfold allL
  induction l with
  | nil => rfl
  | cons a t ih =>
    rw [List.flatMap_cons, List.length_append, ih (fun x hx => h x (List.mem_cons_of_mem _ hx))]
    have := h a (List.mem_cons_self ..)
    have h2 : a.data.toList.length = a.size := by simp
    simp only [List.length_drop, List.length_cons]; omega
def joinS (l : List ByteArray) (size : Int) : ByteArray := str ((allL l).take size.toNat)
def joinOk (l : List ByteArray) (size : Int) : Prop := (l.length : Int) = countF size ∧ (∀ x ∈ l, x.size = 32) ∧ cutL (joinS l size) = l
instance (l : List ByteArray) (size : Int) : Decidable (joinOk l size) := by unfold joinOk; infer_instance
def joinB (l : List ByteArray) (size : Int) : ByteArray := if joinOk l size then joinS l size else ⟨#[]⟩
theorem joinB_yes (l : List ByteArray) (size : Int) (h : joinOk l size) : joinB l size = joinS l size := if_pos h
theorem joinB_no (l : List ByteArray) (size : Int) (h : ¬ joinOk l size) : joinB l size = ⟨#[]⟩ := if_neg h
theorem count_in (n : Nat) (size : Int) (h : (n : Int) = countF size) : 0 ≤ size ∧ size ≤ 4096 ∧ size ≤ 31 * n ∧ n ≤ 133 := by
  unfold countF at h
  split at h <;> omega
/-- a value is a list of strings, in a world -/
def SV (w : World) (v : Value) (l : List ByteArray) : Prop := ∃ a cap, v = .slice a l.length cap ∧ (0 < l.length → ∃ b off, a = some ⟨b, off, none⟩ ∧ b < w.heap.size ∧ ∀ j (h : j < l.length), w.cell? ⟨b, off + j, none⟩ = some (.string l[j]))
theorem SV.below {w w' : World} {v : Value} {l : List ByteArray} (h : SV w v l) (hb : Below w.heap.size w w') : SV w' v l := by
  obtain ⟨a, cap, h1, h2⟩ := h
  refine ⟨a, cap, h1, fun h0 => ?_⟩
  obtain ⟨b, off, h3, h4, h5⟩ := h2 h0
  exact ⟨b, off, h3, Nat.lt_of_lt_of_le h4 hb.size, fun j hj => (hb.cell (p := ⟨b, off + j, none⟩) h4).trans (h5 j hj)⟩
theorem SV.drewN {w : World} {v : Value} {l : List ByteArray} (h : SV w v l) (n : Nat) : SV (w.drewN n) v l := h
theorem SV.of_owns {w : World} {base : Nat} {e : TypeId} {v : Value} {l : List ByteArray} {n : Nat} (hn : n = l.length) (h : w.ownsRow base e 1 v n (l.map Value.string)) : SV w v l := by
  subst hn
  have h' := h
  obtain ⟨h0, h1 | ⟨g, cap, cur, h1, h2, h3, h4⟩⟩ := h
  · exact ⟨none, 0, by rw [h1.1, h1.2], fun hp => absurd h1.2 (by omega)⟩
  · refine ⟨_, cap, h1, fun hp => ⟨g, 0, rfl, (Array.getElem?_eq_some_iff.1 h3).1, fun j hj => ?_⟩⟩
    subst h1
    rw [show (⟨g, 0 + j, none⟩ : Addr) = ⟨g, j, none⟩ from by simp, h'.cellAt j (by omega)]
    simp [hj]
theorem extract0 (L : List UInt8) (n : Nat) : (str L).extract 0 n = str (L.take n) := by
  apply ByteArray.ext
  rw [ByteArray.data_extract]
  simp [str]
theorem tail1 (x : ByteArray) (h : x.size = 32) : (x.extract 1 32).data.toList = x.data.toList.drop 1 := by
  have h2 : x.data.toList.length = 32 := by simp; exact h
  rw [ByteArray.data_extract, Array.toList_extract, List.extract, List.take_of_length_le (by simp; omega)]
theorem joinOk_not (l : List ByteArray) (size : Int) (k : Nat) (h : k < l.length) (hx : l[k].size ≠ 32) : ¬ joinOk l size := fun x => hx (x.2.1 _ (List.getElem_mem h))
theorem all32 (l : List ByteArray) (h : ∀ j (_ : j < l.length), l[j].size = 32) : ∀ x ∈ l, x.size = 32 := by
  intro x hx
  obtain ⟨j, hj, rfl⟩ := List.getElem_of_mem hx
  exact h j hj
theorem joinS_size (l : List ByteArray) (n : Nat) (h : ∀ x ∈ l, x.size = 32) (hn : n ≤ 31 * l.length) : (joinS l (n : Int)).size = n := by
  unfold joinS; rw [str_size, List.length_take, allL_length l h]; simp; omega
theorem cutN_join (l : List ByteArray) (n : Nat) (h : ∀ x ∈ l, x.size = 32) (hc : (l.length : Int) = countF (n : Int)) : cutN (joinS l (n : Int)) = l.length := by
  have h1 := count_in l.length n hc
  unfold cutN
  rw [joinS_size l n h (by omega)]
  unfold countF at hc
  split at hc
  · rw [if_pos (by omega)]; omega
  · omega
end RM
end Go.Proofs.Ytnoegkhkeeameaa
