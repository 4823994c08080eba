/- From a row's cell 'laid' to what is known of the library's variables. -/
import Derived.Test.YtgihkohggalefabDoorRows
import Derived.Test.YtgihkohggalefabDoorVerC
import Derived.LaidLaws
namespace Go.Proofs.YtgihkohggalefabDoor.AM
open Go.RowKit
set_option linter.unusedVariables false
set_option linter.unusedSimpArgs false
theorem star_err : "*" ++ "errors.errorString" = "*errors.errorString" := by decide
theorem row_err (u : TypeId) (h : Tryd.prog.typeName? 3 u = some "*errors.errorString") : u = 124 :=
  typeName_ptr_named (nm := "errors.errorString") (by rw [star_err]; kernel_rfl) (by kernel_rfl) (by decide) u (by rw [star_err]; exact h)
theorem tab_eq : (Rows.laid_internal_strconv_uint64pow10 : DataW Unit) = Lib.tabData .u64 Lib.pow10Tab := by rfl
theorem gTab3 : Tryd.prog.globalNamed "internal/strconv.uint64pow10" = some ((Tryd.prog.globalNamed "internal/strconv.uint64pow10").getD 0) ∧ (Tryd.prog.globals[(Tryd.prog.globalNamed "internal/strconv.uint64pow10").getD 0]?).map (·.type) = some 118 := ⟨by kernel_rfl, by kernel_rfl⟩
theorem gSyn3 : Tryd.prog.globalNamed "strconv.ErrSyntax" = some (Tryd.laysAtoi_ren.g 15) ∧ (Tryd.prog.globals[Tryd.laysAtoi_ren.g 15]?).map (·.type) = some 70 := ⟨by kernel_rfl, by kernel_rfl⟩
theorem gRng3 : Tryd.prog.globalNamed "strconv.ErrRange" = some (Tryd.laysAtoi_ren.g 16) ∧ (Tryd.prog.globals[Tryd.laysAtoi_ren.g 16]?).map (·.type) = some 70 := ⟨by kernel_rfl, by kernel_rfl⟩
theorem cells_err : Tryd.prog.cellsOf 126 = 1 := by kernel_rfl
theorem cells_str : Tryd.prog.cellsOf 9 = 1 := by kernel_rfl
theorem inv_of {w : World} (hsh : w.ShapedOpen Tryd.prog)
    (hL : laidMet Tryd.prog [("math/bits.deBruijn32tab", Rows.laid_math_bits_deBruijn32tab), ("math/bits.deBruijn64tab", Rows.laid_math_bits_deBruijn64tab), ("internal/strconv.uint64pow10", Rows.laid_internal_strconv_uint64pow10), ("unicode/utf8.acceptRanges", Rows.laid_unicode_utf8_acceptRanges), ("strconv.ErrRange", Rows.laid_strconv_ErrRange), ("strconv.ErrSyntax", Rows.laid_strconv_ErrSyntax), ("unicode/utf8.first", Rows.laid_unicode_utf8_first)] w) : Inv w := by
  obtain ⟨m, hm⟩ := Tryd.laysSplit.s1_3 w hsh
  rw [gSplit] at hm
  have h3 := hL.tail.tail
  rw [tab_eq] at h3
  have h5 := hL.tail.tail.tail.tail
  unfold Rows.laid_strconv_ErrRange at h5
  have h6 := hL.tail.tail.tail.tail.tail
  unfold Rows.laid_strconv_ErrSyntax at h6
  obtain ⟨a0, s0, hv0, -, -, -⟩ := laid_sentinel h5 gRng3.1 gRng3.2 Tryd.underlying70 row_err Tryd.underlying124 Tryd.underlying126 rfl rfl Tryd.underlying9 cells_err cells_str
  obtain ⟨a1, s1, hv1, -, -, -⟩ := laid_sentinel h6 gSyn3.1 gSyn3.2 Tryd.underlying70 row_err Tryd.underlying124 Tryd.underlying126 rfl rfl Tryd.underlying9 cells_err cells_str
  have c0 : w.cell? ⟨Tryd.laysAtoi_ren.g 16, 0, none⟩ = some (.iface 124 (.pointer (some a0))) := by have h0 := World.var?_cell gRng3.1 hv0 0; simpa using h0
  have c1 : w.cell? ⟨Tryd.laysAtoi_ren.g 15, 0, none⟩ = some (.iface 124 (.pointer (some a1))) := by have h0 := World.var?_cell gSyn3.1 hv1 0; simpa using h0
  exact ⟨⟨m, hm⟩, Lib.tabIs_of_head gTab3.1 gTab3.2 (n := 20) (e := 102) (by kernel_rfl) (by kernel_rfl) (by kernel_rfl) (by kernel_rfl) h3, ⟨_, _, c1⟩, ⟨_, _, c0⟩⟩
end Go.Proofs.YtgihkohggalefabDoor.AM
