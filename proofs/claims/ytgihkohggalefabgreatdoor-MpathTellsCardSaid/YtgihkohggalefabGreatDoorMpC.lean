/- Layer 8: contracts of the library's functions. -/
import Derived.Test.YtgihkohggalefabGreatDoorVerG2
import Derived.Test.YtgihkohggalefabGreatDoorMpM
import Derived.Shelf.Strings.SlTrimAscii
namespace Go.Proofs
open Go.RowKit Go.Shelf Go.Lib
shelf_lay Lays.n160 Nm 160 at Tryz as Tryz.laysTrim
set_option linter.unusedVariables false
set_option linter.unusedSimpArgs false
namespace YtgihkohggalefabGreatDoor.AM
def trimD_t (s cs : List UInt8) : Option (List UInt8) := if cs = digs ∧ s.length ≤ 1000000 then some (Lib.trimS s digs) else none
def trimD_fc : FC := { f := 30, args := [strA, strA], res := strA, F := fun p => trimD_t p.1 p.2 }
theorem trimD_ok : FCall Inv Tryz.prog trimD_fc := fun G hG => ⟨⟨by kernel_rfl, fun a r h => by
  obtain ⟨s, cs⟩ := a
  have h' : trimD_t s cs = some r := h
  unfold trimD_t at h'
  split at h'
  case isFalse => cases h'
  rename_i hc
  obtain ⟨rfl, hl⟩ := hc
  have hr : Lib.trimS s digs = r := Option.some.inj h'
  intro Pc w vs hg hlt hv
  obtain ⟨l⟩ := vs
  match l, hv with
  | [x, y], ⟨h1, h2, _⟩ =>
    obtain rfl : x = .string (ba s) := of_val h1
    obtain rfl : y = .string (ba digs) := of_val h2
    have e1 : (ba s).data.toList = s := by simp [ba]
    have e2 : (ba digs).data.toList = digs := by simp [ba]
    have hh := Any.strings_Trim_laid Tryz.laysTrim (by kernel_rfl) (ba s) (ba digs) w (by rw [ba_len]; omega) (by rw [ba_len]; decide) (by rw [e2]; exact ascii_of_all (by decide))
    rw [e1, e2, hr] at hh
    refine hh.mono ?_
    rintro e w' ⟨rfl, hb⟩
    exact pc_done rfl hb (drep_val (.string (ba r)))⟩, rfl⟩
end YtgihkohggalefabGreatDoor.AM
end Go.Proofs
