/- Layer 13: the contracts of Encode, Decode as the machine takes them. -/
import Derived.Test.YtngbpbncipjimaaDoorBsD
namespace Go.Proofs
open Go.RowKit Go.Shelf Go.Lib
set_option linter.unusedVariables false
set_option linter.unusedSimpArgs false
namespace YtngbpbncipjimaaDoor.AM
def fEnc13_t (s : List UInt8) : Option (List UInt8) := if s.length ≤ 1000000 then some (encS s) else none
def fEnc13_fc : FC := { f := 10, args := [strA], res := strA, F := fun p => fEnc13_t p }
theorem fEnc13_ok : FCall Inv Tryd.prog fEnc13_fc := fun G hG => ⟨⟨by kernel_rfl, fun (s : List UInt8) r h => by
  have h' : fEnc13_t s = some r := h
  unfold fEnc13_t at h'
  split at h'
  case isFalse => cases h'
  rename_i hc
  have hr : encS s = r := Option.some.inj h'
  intro Pc w vs hg hlt hv
  obtain ⟨vl⟩ := vs
  match vl, hv with
  | [x], ⟨h1, _⟩ =>
    obtain rfl : x = .string (ba s) := of_val h1
    refine (enc_c s hc w).mono ?_
    rintro e w' ⟨rfl, hb⟩
    rw [hr]
    exact pc_done rfl hb (drep_val (σ := noSt) (.string (ba r)))⟩, rfl⟩
def fDec13_t (s : List UInt8) : Option (List UInt8 × Bool) := if s.length ≤ 1000000 then some (decS s) else none
def fDec13_fc : FC := { f := 8, args := [strA], res := .tup [.c (.d .str), .c (.d .bool)], F := fun p => fDec13_t p }
theorem fDec13_ok : FCall Inv Tryd.prog fDec13_fc := fun G hG => ⟨⟨by kernel_rfl, fun (s : List UInt8) r h => by
  have h' : fDec13_t s = some r := h
  unfold fDec13_t at h'
  split at h'
  case isFalse => cases h'
  rename_i hc
  have hr : decS s = r := Option.some.inj h'
  intro Pc w vs hg hlt hv
  obtain ⟨vl⟩ := vs
  match vl, hv with
  | [x], ⟨h1, _⟩ =>
    obtain rfl : x = .string (ba s) := of_val h1
    refine (dec_c s hc w).mono ?_
    rintro e w' ⟨rfl, hb⟩
    rw [hr]
    exact ⟨_, Pc, rfl, hb, fun b o hp => hp, fun b o hp => Or.inl hp, #[.string (ba r.1), .bool r.2], rfl, drep_val (σ := noSt) (.string (ba r.1)), drep_val (σ := noSt) (.bool r.2), trivial⟩⟩, rfl⟩
theorem fEnc13_some {s : List UInt8} (h : s.length ≤ 1000000) : fEnc13_t s = some (encS s) := by unfold fEnc13_t; rw [if_pos h]
theorem fDec13_some {s : List UInt8} (h : s.length ≤ 1000000) : fDec13_t s = some (decS s) := by unfold fDec13_t; rw [if_pos h]
end YtngbpbncipjimaaDoor.AM
end Go.Proofs
