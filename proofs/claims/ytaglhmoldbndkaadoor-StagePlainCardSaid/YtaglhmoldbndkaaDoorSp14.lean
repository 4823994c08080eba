/- (*strings.Builder).WriteString: laid by hand (no text of this program names the type interface {} that the library's row lists). -/
import Derived.Test.YtaglhmoldbndkaaDoorSp13
import Derived.Test.YtaglhmoldbndkaaDoorProg
namespace Go.Proofs
open Go.RowKit Go.Shelf Go.Lib
def laysWs_ren : Go.Shelf.Ren := ⟨fun | 166 => 49 | 240 => 62 | 276 => 72 | n => n,
  fun | 0 => 0 | 3 => 3 | 4 => 4 | 5 => 5 | 9 => 9 | 20 => 20 | 37 => 62 | 70 => 61 | 72 => 64 | 75 => 68 | 80 => 72 | 164 => 97 | n => n, fun | n => n⟩
set_option maxRecDepth 100000 in
theorem laysWs : Go.Proofs.Lays.n166 Tryd.prog laysWs_ren := { Tryd.lays169 with
  f166 := Tryd.func49.trans (congrArg some (by kernel_rfl))
  f240 := Tryd.func62.trans (congrArg some (by kernel_rfl))
  f276 := Tryd.func72.trans (congrArg some (by kernel_rfl))
  t4 := Tryd.underlying4
  a4 := Tryd.isAgg4
  z4 := Tryd.sizeOf4
  v4 := Tryd.zeroValue4
  t20 := by kernel_rfl
  a20 := fun w => rfl
  z20 := fun w => rfl
  v20 := fun w => rfl
  t75 := by kernel_rfl
  a75 := Tryd.isAgg68
  z75 := Tryd.sizeOf68
  v75 := Tryd.zeroValue68
  t164 := Tryd.underlying97
  a164 := Tryd.isAgg97
  z164 := Tryd.sizeOf97
  v164 := Tryd.zeroValue97 }
set_option maxRecDepth 100000 in
theorem extraWs : Builder.Extra Tryd.prog laysWs_ren := {
  sizeBuilder := by kernel_rfl
  liesBuilder := by kernel_rfl
  t5 := Tryd.underlying5
  a5 := Tryd.isAgg5
  z5 := Tryd.sizeOf5
  v5 := Tryd.zeroValue5
  infoByte := by kernel_rfl
  cellsByte := by kernel_rfl
  sizeByte := by kernel_rfl
  neB5 := by decide }
end Go.Proofs
