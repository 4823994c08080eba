/- Layer 7: what is known of old memory; contracts of the library's functions and of those that lean on errors. -/
import Derived.Test.YtgihkohggalefabGreatDoorSeq
import Derived.Test.YtgihkohggalefabGreatDoorCard
import Derived.Test.YtgihkohggalefabGreatDoorVerM
import Derived.Shelf.LaysC
import Derived.Shelf.Strconv.Itoa3
import Derived.Shelf.Strconv.AtoiAll
import Derived.Shelf.Small.Strs
import Derived.Shelf.Strings.SplitShaped
import Derived.Lib.LaidTab
import Derived.Lib.AppendIntMem
import Derived.Stop.LaidErr
import Derived.WalkSmall
namespace Go.Proofs
open Go.RowKit Go.Shelf Go.Lib
shelf_lay LaysM.n171 Nm 171 at Tryz as Tryz.laysItoa
shelf_lay LaysC.n172 Nm 172 at Tryz as Tryz.laysAtoi
set_option linter.unusedVariables false
set_option linter.unusedSimpArgs false
namespace YtgihkohggalefabGreatDoor.AM
/-- what is known of the library's variables -/
structure Inv (w : World) : Prop where
  maxLen : ∃ m, w.cell? ⟨Tryz.laysIndex_ren.g 1, 0, none⟩ = some (.int .i64 m)
  tab : Lib.TabIs Tryz.prog w "internal/strconv.uint64pow10" .u64 Lib.pow10Tab
  syn : ∃ tp p, w.cell? ⟨Tryz.laysAtoi_ren.g 15, 0, none⟩ = some (.iface tp p)
  rng : ∃ tp p, w.cell? ⟨Tryz.laysAtoi_ren.g 16, 0, none⟩ = some (.iface tp p)
theorem gTab : (Tryz.prog.globalNamed "internal/strconv.uint64pow10").isSome = true := by kernel_rfl
theorem Inv.below {w w' : World} (h : Inv w) (hb : Below w.heap.size w w') : Inv w' := by
  obtain ⟨⟨m, hm⟩, ht, ⟨t1, p1, h1⟩, ⟨t2, p2, h2⟩⟩ := h
  refine ⟨⟨m, (hb.cell (p := ⟨_, 0, none⟩) (World.block_lt_of_cell? _ _ hm)).trans hm⟩, ?_, ⟨t1, p1, (hb.cell (p := ⟨_, 0, none⟩) (World.block_lt_of_cell? _ _ h1)).trans h1⟩, ⟨t2, p2, (hb.cell (p := ⟨_, 0, none⟩) (World.block_lt_of_cell? _ _ h2)).trans h2⟩⟩
  obtain ⟨g, hg⟩ := Option.isSome_iff_exists.1 gTab
  refine var?_below hb hg ?_ ht
  have hv : w.var? Tryz.prog "internal/strconv.uint64pow10" = some _ := ht
  unfold World.var? at hv
  rw [hg] at hv
  simp only [Option.bind_some] at hv
  split at hv
  · rename_i h5; exact (Array.getElem?_eq_some_iff.1 h5).1
  · cases hv
theorem know_inv : Know Inv Inv := ⟨fun w w' h hb => h.below hb, fun _ h => h⟩
variable {P : Program}
theorem pc_done {Pc : Nat → Nat → Prop} {w w' : World} {v : Value} {d : D} {e : Ending} (he : e = .returned v) (hb : Below w.heap.size w w') (hv : DRep (noEnv Pc) noSt w' v d) :
    ∃ v' Pc', e = .returned v' ∧ Below w.heap.size w w' ∧ (∀ b o, Pc b o → Pc' b o) ∧ (∀ b o, Pc' b o → Pc b o ∨ (w.heap.size ≤ b ∧ b < w'.heap.size)) ∧ DRep (noEnv Pc') noSt w' v' d :=
  ⟨v, Pc, he, hb, fun _ _ h => h, fun _ _ h => Or.inl h, hv⟩
abbrev strA : SD := .one (.c (.d .str))
abbrev intA : SD := .one (.c (.d (.int .i64)))
abbrev boolA : SD := .one (.c (.d .bool))
/-! the place of a byte -/
def index_t (s sep : List UInt8) : Option Int := match sep with
  | [c] => if s.length < 4294967281 then some (Lib.index s [c]) else none
  | _ => none
def index_fc : FC := { f := 74, args := [strA, strA], res := intA, F := fun p => index_t p.1 p.2 }
theorem index_ok : FCall Inv Tryz.prog index_fc := fun G hG => ⟨⟨by kernel_rfl, fun a r h => by
  obtain ⟨s, sep⟩ := a
  have h' : index_t s sep = some r := h
  unfold index_t at h'
  split at h'
  case h_2 => cases h'
  rename_i c
  split at h'
  case isFalse => cases h'
  rename_i hc
  have hr : Lib.index s [c] = r := Option.some.inj h'
  intro Pc w vs hg hlt hv
  obtain ⟨m, hm⟩ := (hG.im w hg).maxLen
  obtain ⟨l⟩ := vs
  match l, hv with
  | [x, y], ⟨h1, h2, _⟩ =>
    obtain rfl : x = .string (ba s) := of_val h1
    obtain rfl : y = .string (ba [c]) := of_val h2
    have e1 : (ba s).data.toList = s := by simp [ba]
    have e2 : (ba [c]).data.toList = [c] := by simp [ba]
    have hh := Any.stringslite_Index { Tryz.laysIndex with } (ba s) (ba [c]) m w (by rw [ba_len]; exact hc) hm
    rw [e1, e2, hr] at hh
    refine hh.mono ?_
    rintro e w' ⟨rfl, rfl⟩
    exact pc_done rfl (Below.refl _ _) (drep_val _)⟩, rfl⟩
/-! strconv.Itoa -/
def itoa_t (n : Int) : Option (List UInt8) := if -9223372036854775808 ≤ n ∧ n ≤ 9223372036854775807 then some (Lib.itoa n) else none
def itoa_fc : FC := { f := 33, args := [intA], res := strA, F := fun p => itoa_t p }
theorem itoa_ok : FCall Inv Tryz.prog itoa_fc := fun G hG => ⟨⟨by kernel_rfl, fun (n : Int) r h => by
  have h' : itoa_t n = some r := h
  unfold itoa_t at h'
  split at h'
  case isFalse => cases h'
  rename_i hc
  have hr : Lib.itoa n = r := Option.some.inj h'
  intro Pc w vs hg hlt hv
  obtain ⟨l⟩ := vs
  match l, hv with
  | [x], ⟨h1, _⟩ =>
    obtain rfl : x = .int .i64 n := of_val h1
    refine (Any.strconv_Itoa Tryz.laysItoa n hc.1 hc.2 w (hG.im w hg).tab).mono ?_
    rintro e w' ⟨rfl, k, os, rfl⟩
    subst hr
    exact pc_done rfl (Lib.below_grow _ w (Nat.le_refl _) k os) (drep_val (.string (ba (Lib.itoa n))))⟩, rfl⟩
end YtgihkohggalefabGreatDoor.AM
end Go.Proofs
