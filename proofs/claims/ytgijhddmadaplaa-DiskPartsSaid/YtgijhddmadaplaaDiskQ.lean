/- A disk, and a write, that come in as arguments: what they hold. -/
import Derived.Test.YtgijhddmadaplaaRows
import Derived.Test.YtgijhddmadaplaaDiskM
import Derived.Test.YtgijhddmadaplaaChecked
import Derived.WalkKit
import Derived.ProofKit
import Derived.OpenShut
import Derived.ShutString
import Derived.ChangeOld
import Derived.Below
import Derived.SliceStrings
import Derived.Deep.Slices
namespace Go.Proofs.Ytgijhddmadaplaa.DiskQ
open Go.ChangeShapes Go.WideShapes Go.ChangeAt Go.RowKit
open Go.ChangeMaps (open_string shut_string)
set_option linter.unusedVariables false
theorem cellsD : Try.prog.cellsOf 40 = 2 := by kernel_rfl
theorem cellsW : Try.prog.cellsOf 73 = 2 := by kernel_rfl
theorem cellsS : Try.prog.cellsOf 9 = 1 := by kernel_rfl
theorem cellsI : Try.prog.cellsOf 3 = 1 := by kernel_rfl
theorem cellsL1 : Try.prog.cellsOf 25 = 1 := by kernel_rfl
theorem cellsL2 : Try.prog.cellsOf 38 = 1 := by kernel_rfl
def IsD (w : World) (v : Value) : Prop := ∃ a1 n k1 a2 m k2 d, v = .agg #[.slice a1 n k1, .slice a2 m k2] ∧ DM.DV w (.slice a1 n k1) (.slice a2 m k2) d ∧ n ≤ 9223372036854775807 ∧ m ≤ 9223372036854775807
def IsW (_ : World) (v : Value) : Prop := ∃ (i : Int) (s : ByteArray), v = .agg #[.int .i64 i, .string s] ∧ (-9223372036854775808 ≤ i ∧ i ≤ 9223372036854775807) ∧ s.size ≤ maxLen
theorem cell_lt {w : World} {a : Addr} {v : Value} (h : w.cell? a = some v) : a.block < w.heap.size := by
  unfold World.cell? at h
  split at h
  · rename_i he
    exact (Array.getElem?_eq_some_iff.1 he).1
  · cases h
section
variable {H : Type} {enc : TypeId × Value → H} {W : World}
set_option maxRecDepth 100000 in
theorem sv_of {fuel : Nat} {c : Value} {x : DataW H × List MemPlace} (hf : DataW.trod enc Try.prog W 0 (fun _ => true) true fuel 25 [c] = some x) : ∃ a n k l, c = .slice a n k ∧ n ≤ 9223372036854775807 ∧ RM.SV W (.slice a n k) l := by
  rcases open_strings Try.underlying25 Try.underlying9 cellsS hf with ⟨h1, _⟩ | ⟨a, len, cap, ss, h1, hb, hl, hm, hlen, _, hcells, hsz⟩
  · obtain rfl : c = .slice none 0 0 := by simpa using h1
    exact ⟨none, 0, 0, [], rfl, by omega, none, 0, rfl, fun h => by simp at h⟩
  · obtain rfl : c = .slice (some a) len cap := by simpa using h1
    unfold maxLen at hm
    have hge : len ≤ ss.length := by rw [hlen]; split <;> omega
    have htl : (ss.take len).length = len := by simp; omega
    refine ⟨some a, len, cap, ss.take len, rfl, by omega, some a, cap, by rw [htl], fun h0 => ?_⟩
    rw [htl] at h0
    obtain ⟨b, off, sp⟩ := a
    have g0 := hcells 0 (by omega)
    have hspot : sp = none := by simpa [Addr.add] using World.cell?_spot g0
    subst hspot
    refine ⟨b, off, rfl, cell_lt (a := ⟨b, off, none⟩) (by simpa [Addr.add] using g0), fun j hj => ?_⟩
    rw [htl] at hj
    have gj := hcells j (by omega)
    rw [Addr.add_lit] at gj
    rw [gj, List.getElem_take]
    simp [List.getD, show j < ss.length from by omega]
set_option maxRecDepth 100000 in
theorem wr_of {fuel : Nat} {cs : List Value} {x : DataW H × List MemPlace} (hf : DataW.trod enc Try.prog W 0 (fun _ => true) true fuel 73 cs = some x) : ∃ (i : Int) (s : ByteArray), cs = [.int .i64 i, .string s] ∧ (-9223372036854775808 ≤ i ∧ i ≤ 9223372036854775807) ∧ s.size ≤ maxLen := by
  obtain ⟨xs, n, _, _, hcl, hl, he⟩ := DataW.trod_struct Try.underlying73 hf
  rw [cellsW] at hcl
  obtain ⟨c0, c1, rfl⟩ : ∃ c0 c1, cs = [c0, c1] := by
    match cs, hcl with
    | [a, b], _ => exact ⟨a, b, rfl⟩
  have hl2 : xs.length = 2 := hl
  have h0 := he 0 _ rfl
  have h1 := he 1 _ rfl
  rw [List.getElem?_eq_getElem (by omega)] at h0 h1
  simp [cellsI, cellsS] at h0 h1
  obtain ⟨i, e0, _, wi⟩ := DataW.trod_int Try.underlying3 h0
  obtain ⟨s, e1, _, ws⟩ := DataW.trod_string Try.underlying9 h1
  simp at e0 e1
  subst e0 e1
  exact ⟨i, s, rfl, bounds_i64 wi, ws⟩
set_option maxRecDepth 100000 in
theorem wv_of {fuel : Nat} {c : Value} {x : DataW H × List MemPlace} (hf : DataW.trod enc Try.prog W 0 (fun _ => true) true fuel 38 [c] = some x) : ∃ a n k l, c = .slice a n k ∧ n ≤ 9223372036854775807 ∧ DM.WV W (.slice a n k) l := by
  rcases Deep.open_slice Try.underlying38 hf with ⟨h1, _⟩ | ⟨a, len, cap, m, n, D, Pl, h1, hb, hl, hm, hmm, _, hi⟩
  · obtain rfl : c = .slice none 0 0 := by simpa using h1
    exact ⟨none, 0, 0, [], rfl, by omega, none, 0, rfl, fun h => by simp at h⟩
  · obtain rfl : c = .slice (some a) len cap := by simpa using h1
    unfold maxLen at hm
    have hge : len ≤ m := by rw [hmm]; split <;> omega
    rw [cellsW] at hi
    have hp : ∀ i, ∃ p : DM.Wr, i < len → W.cell? ((a.add (i * 2)).add 0) = some (.int .i64 p.1) ∧ W.cell? ((a.add (i * 2)).add 1) = some (.string p.2) := by
      intro i
      by_cases h : i < len
      · obtain ⟨cs', hc, ht⟩ := hi i (by omega)
        obtain ⟨_, _, hat⟩ := World.cells?_some hc
        obtain ⟨j, s, rfl, _, _⟩ := wr_of ht
        exact ⟨(j, s), fun _ => ⟨hat 0 (by omega), hat 1 (by omega)⟩⟩
      · exact ⟨(0, ⟨#[]⟩), fun h' => absurd h' h⟩
    obtain ⟨f, hfp⟩ := Classical.axiomOfChoice hp
    have htl : ((List.range len).map f).length = len := by simp
    refine ⟨some a, len, cap, (List.range len).map f, rfl, by omega, some a, cap, by rw [htl], fun h0 => ?_⟩
    rw [htl] at h0
    obtain ⟨b, off, sp⟩ := a
    have g0 := (hfp 0 h0).1
    have hspot : sp = none := by simpa [Addr.add] using World.cell?_spot g0
    subst hspot
    refine ⟨b, off, rfl, cell_lt (a := ⟨b, off, none⟩) (by simpa [Addr.add] using g0), fun j hj => ?_⟩
    rw [htl] at hj
    have gj := hfp j hj
    rw [Addr.add_lit, Addr.add_lit, Addr.add_lit] at gj
    simp only [List.getElem_map, List.getElem_range]
    exact gj
end
set_option maxRecDepth 100000 in
theorem open_dk {H : Type} {enc : TypeId × Value → H} {W : World} {base : Nat} {v : Value} {d : DataW H} {p : List MemPlace}
    (hv : Value.okWide Try.prog W .any base 40 v) (h : DataW.Trod enc Try.prog W 0 (fun _ => true) true 40 v d p) : IsD W v := by
  obtain ⟨cs, rfl, hsz⟩ := okWide_struct Try.underlying40 hv
  rw [cellsD] at hsz
  obtain ⟨fuel, hf⟩ := h
  obtain ⟨xs, n, _, _, _, hl, he⟩ := DataW.trod_struct Try.underlying40 hf
  obtain ⟨c0, c1, rfl⟩ : ∃ c0 c1, cs = #[c0, c1] := ⟨cs[0], cs[1], by ext i h1 h2 <;> simp_all; match i, h2 with | 0, _ => rfl | 1, _ => rfl⟩
  have hl2 : xs.length = 2 := hl
  have h0 := he 0 _ rfl
  have h1 := he 1 _ rfl
  rw [List.getElem?_eq_getElem (by omega)] at h0 h1
  simp [Value.cells, cellsL1, cellsL2] at h0 h1
  obtain ⟨a1, n1, k1, l1, rfl, g1, s1⟩ := sv_of h0
  obtain ⟨a2, n2, k2, l2, rfl, g2, s2⟩ := wv_of h1
  exact ⟨a1, n1, k1, a2, n2, k2, ⟨l1, l2⟩, rfl, ⟨s1, s2⟩, g1, g2⟩
set_option maxRecDepth 100000 in
theorem open_wr {H : Type} {enc : TypeId × Value → H} {W : World} {base : Nat} {v : Value} {d : DataW H} {p : List MemPlace}
    (hv : Value.okWide Try.prog W .any base 73 v) (h : DataW.Trod enc Try.prog W 0 (fun _ => true) true 73 v d p) : IsW W v := by
  obtain ⟨cs, rfl, hsz⟩ := okWide_struct Try.underlying73 hv
  obtain ⟨fuel, hf⟩ := h
  have hf' : DataW.trod enc Try.prog W 0 (fun _ => true) true fuel 73 cs.toList = some (d, p) := hf
  obtain ⟨i, s, e, hi, hs⟩ := wr_of hf'
  obtain ⟨l⟩ := cs
  simp only at e
  subst e
  exact ⟨i, s, rfl, hi, hs⟩
end Go.Proofs.Ytgijhddmadaplaa.DiskQ
