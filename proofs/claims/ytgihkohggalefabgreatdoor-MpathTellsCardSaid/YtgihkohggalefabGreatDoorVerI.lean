/- From a row's cell 'laid' to what is known of the library's variables. -/
import Derived.Test.YtgihkohggalefabGreatDoorRows
import Derived.Test.YtgihkohggalefabGreatDoorVerC
import Derived.LaidLaws
namespace Go.Proofs.YtgihkohggalefabGreatDoor.AM
open Go.RowKit
set_option linter.unusedVariables false
set_option linter.unusedSimpArgs false
theorem star_err : "*" ++ "errors.errorString" = "*errors.errorString" := by decide
theorem row_err (u : TypeId) (h : Tryz.prog.typeName? 3 u = some "*errors.errorString") : u = 97 :=
  typeName_ptr_named (nm := "errors.errorString") (by rw [star_err]; kernel_rfl) (by kernel_rfl) (by decide) u (by rw [star_err]; exact h)
theorem tab_eq : (Rows.laid_internal_strconv_uint64pow10 : DataW Unit) = Lib.tabData .u64 Lib.pow10Tab := by rfl
theorem gTab3 : Tryz.prog.globalNamed "internal/strconv.uint64pow10" = some ((Tryz.prog.globalNamed "internal/strconv.uint64pow10").getD 0) ∧ (Tryz.prog.globals[(Tryz.prog.globalNamed "internal/strconv.uint64pow10").getD 0]?).map (·.type) = some 101 := ⟨by kernel_rfl, by kernel_rfl⟩
theorem gSyn3 : Tryz.prog.globalNamed "strconv.ErrSyntax" = some (Tryz.laysAtoi_ren.g 15) ∧ (Tryz.prog.globals[Tryz.laysAtoi_ren.g 15]?).map (·.type) = some 45 := ⟨by kernel_rfl, by kernel_rfl⟩
theorem gRng3 : Tryz.prog.globalNamed "strconv.ErrRange" = some (Tryz.laysAtoi_ren.g 16) ∧ (Tryz.prog.globals[Tryz.laysAtoi_ren.g 16]?).map (·.type) = some 45 := ⟨by kernel_rfl, by kernel_rfl⟩
theorem cells_err : Tryz.prog.cellsOf 99 = 1 := by kernel_rfl
theorem cells_str : Tryz.prog.cellsOf 9 = 1 := by kernel_rfl
theorem inv_of {w : World} (hsh : w.ShapedOpen Tryz.prog)
    (hL : laidMet Tryz.prog [("math/bits.deBruijn32tab", Rows.laid_math_bits_deBruijn32tab), ("math/bits.deBruijn64tab", Rows.laid_math_bits_deBruijn64tab), ("internal/strconv.uint64pow10", Rows.laid_internal_strconv_uint64pow10), ("unicode/utf8.acceptRanges", Rows.laid_unicode_utf8_acceptRanges), ("strconv.ErrRange", Rows.laid_strconv_ErrRange), ("strconv.ErrSyntax", Rows.laid_strconv_ErrSyntax), ("unicode/utf8.first", Rows.laid_unicode_utf8_first)] w) : Inv w := by
  obtain ⟨m, hm⟩ := Tryz.laysIndex.s1_3 w hsh
  have h3 := hL.tail.tail
  rw [tab_eq] at h3
  have h5 := hL.tail.tail.tail.tail
  unfold Rows.laid_strconv_ErrRange at h5
  have h6 := hL.tail.tail.tail.tail.tail
  unfold Rows.laid_strconv_ErrSyntax at h6
  obtain ⟨a0, s0, hv0, -, -, -⟩ := laid_sentinel h5 gRng3.1 gRng3.2 Tryz.underlying45 row_err Tryz.underlying97 Tryz.underlying99 rfl rfl Tryz.underlying9 cells_err cells_str
  obtain ⟨a1, s1, hv1, -, -, -⟩ := laid_sentinel h6 gSyn3.1 gSyn3.2 Tryz.underlying45 row_err Tryz.underlying97 Tryz.underlying99 rfl rfl Tryz.underlying9 cells_err cells_str
  have c0 : w.cell? ⟨Tryz.laysAtoi_ren.g 16, 0, none⟩ = some (.iface 97 (.pointer (some a0))) := by have h0 := World.var?_cell gRng3.1 hv0 0; simpa using h0
  have c1 : w.cell? ⟨Tryz.laysAtoi_ren.g 15, 0, none⟩ = some (.iface 97 (.pointer (some a1))) := by have h0 := World.var?_cell gSyn3.1 hv1 0; simpa using h0
  exact ⟨⟨m, hm⟩, Lib.tabIs_of_head gTab3.1 gTab3.2 (n := 20) (e := 77) (by kernel_rfl) (by kernel_rfl) (by kernel_rfl) (by kernel_rfl) h3, ⟨_, _, c1⟩, ⟨_, _, c0⟩⟩
end Go.Proofs.YtgihkohggalefabGreatDoor.AM
