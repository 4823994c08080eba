/- Acts that come in as arguments: what they hold. -/
import Derived.Test.YtgijhddmadaplaaDiskQ
import Derived.Test.YtgijhddmadaplaaDiskS
namespace Go.Proofs.Ytgijhddmadaplaa.DiskQ2
open Go.ChangeShapes Go.WideShapes Go.ChangeAt Go.RowKit
set_option linter.unusedVariables false
theorem cellsA : Try.prog.cellsOf 87 = 3 := by kernel_rfl
theorem cellsB : Try.prog.cellsOf 4 = 1 := by kernel_rfl
def IsA (w : World) (v : Value) : Prop := ∃ a k l, v = .slice a l.length k ∧ DM.AV w (.slice a l.length k) l ∧ l.length ≤ 9223372036854775807
section
variable {H : Type} {enc : TypeId × Value → H} {W : World}
set_option maxRecDepth 100000 in
theorem ac_of {fuel : Nat} {cs : List Value} {x : DataW H × List MemPlace} (hf : DataW.trod enc Try.prog W 0 (fun _ => true) true fuel 87 cs = some x) : ∃ (f : Bool) (i : Int) (s : ByteArray), cs = [.bool f, .int .i64 i, .string s] := by
  obtain ⟨xs, n, _, _, hcl, hl, he⟩ := DataW.trod_struct Try.underlying87 hf
  rw [cellsA] at hcl
  obtain ⟨c0, c1, c2, rfl⟩ : ∃ c0 c1 c2, cs = [c0, c1, c2] := by
    match cs, hcl with
    | [a, b, c], _ => exact ⟨a, b, c, rfl⟩
  have hl2 : xs.length = 3 := hl
  have h0 := he 0 _ rfl
  have h1 := he 1 _ rfl
  have h2 := he 2 _ rfl
  rw [List.getElem?_eq_getElem (by omega)] at h0 h1 h2
  simp [cellsB, DiskQ.cellsI, DiskQ.cellsS] at h0 h1 h2
  obtain ⟨f, e0, _⟩ := DataW.trod_bool Try.underlying4 h0
  obtain ⟨i, e1, _, _⟩ := DataW.trod_int Try.underlying3 h1
  obtain ⟨s, e2, _, _⟩ := DataW.trod_string Try.underlying9 h2
  simp at e0 e1 e2
  subst e0 e1 e2
  exact ⟨f, i, s, rfl⟩
end
set_option maxRecDepth 100000 in
theorem open_as {H : Type} {enc : TypeId × Value → H} {W : World} {base : Nat} {v : Value} {d : DataW H} {p : List MemPlace}
    (hv : Value.okWide Try.prog W .any base 54 v) (h : DataW.Trod enc Try.prog W 0 (fun _ => true) true 54 v d p) : IsA W v := by
  obtain ⟨aa, n, c, rfl⟩ := okWide_slice Try.underlying54 hv
  obtain ⟨fuel, hf⟩ := h
  rcases Deep.open_slice Try.underlying54 hf with ⟨h1, _⟩ | ⟨a, len, cap, m, n', D, Pl, h1, hb, hl, hm, hmm, _, hi⟩
  · simp [Value.cells] at h1
    obtain ⟨rfl, rfl, rfl⟩ := h1
    exact ⟨none, 0, [], rfl, ⟨none, 0, rfl, by simp, by omega, fun h => by simp at h⟩, by simp⟩
  · simp [Value.cells] at h1
    obtain ⟨rfl, rfl, rfl⟩ := h1
    unfold maxLen at hm
    have hge : n ≤ m := by rw [hmm]; split <;> omega
    rw [cellsA] at hi
    have hp : ∀ i, ∃ p : DM.Ac, i < n → W.cell? ((a.add (i * 3)).add 0) = some (.bool p.1) ∧ W.cell? ((a.add (i * 3)).add 1) = some (.int .i64 p.2.1) ∧ W.cell? ((a.add (i * 3)).add 2) = some (.string p.2.2) := by
      intro i
      by_cases h : i < n
      · obtain ⟨cs', hc, ht⟩ := hi i (by omega)
        obtain ⟨_, _, hat⟩ := World.cells?_some hc
        obtain ⟨f, j, s, rfl⟩ := ac_of ht
        exact ⟨(f, j, s), fun _ => ⟨hat 0 (by omega), hat 1 (by omega), hat 2 (by omega)⟩⟩
      · exact ⟨(false, 0, ⟨#[]⟩), fun h' => absurd h' h⟩
    obtain ⟨f, hfp⟩ := Classical.axiomOfChoice hp
    have htl : ((List.range n).map f).length = n := by simp
    refine ⟨some a, c, (List.range n).map f, by rw [htl], ?_, by rw [htl]; omega⟩
    refine ⟨some a, c, rfl, by rw [htl]; omega, by omega, fun h0 => ?_⟩
    rw [htl] at h0
    obtain ⟨b, off, sp⟩ := a
    have g0 := (hfp 0 h0).1
    have hspot : sp = none := by simpa [Addr.add] using World.cell?_spot g0
    subst hspot
    refine ⟨b, off, rfl, DiskQ.cell_lt (a := ⟨b, off, none⟩) (by simpa [Addr.add] using g0), fun j hj => ?_⟩
    rw [htl] at hj
    have gj := hfp j hj
    rw [Addr.add_lit, Addr.add_lit, Addr.add_lit, Addr.add_lit] at gj
    simp only [List.getElem_map, List.getElem_range]
    exact gj
end Go.Proofs.Ytgijhddmadaplaa.DiskQ2
