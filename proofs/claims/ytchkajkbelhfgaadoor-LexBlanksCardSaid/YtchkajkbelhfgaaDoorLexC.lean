/- Layer 9: the contract of strings.Split; what is known of old memory. -/
import Derived.Test.YtchkajkbelhfgaaDoorProg
import Derived.Test.YtchkajkbelhfgaaDoorCard
import Derived.Test.YtchkajkbelhfgaaDoorArg
import Derived.Ground.NamesProg
import Derived.Shelf.Lay
import Derived.Shelf.LaysM
import Derived.Shelf.Strings.SplitShaped
namespace Go.Proofs
open Go.RowKit Go.Shelf Go.Lib
shelf_lay LaysM.n146 Nm 146 at Tryd as Tryd.laysSplit
namespace YtchkajkbelhfgaaDoor.AM
set_option linter.unusedVariables false
/-- internal/bytealg.MaxLen holds a number -/
def Inv (w : World) : Prop := ∃ m, w.cell? ⟨Tryd.laysSplit_ren.g 1, 0, none⟩ = some (.int .i64 m)
theorem inv_of {w : World} (h : w.ShapedOpen Tryd.prog) : Inv w := Tryd.laysSplit.s1_3 w h
theorem know_inv : Know Inv Inv := ⟨fun w w' ⟨m, hm⟩ hb => ⟨m, (hb.cell (p := ⟨_, 0, none⟩) (World.block_lt_of_cell? _ _ hm)).trans hm⟩, fun _ h => h⟩
def split_t (s sep : List UInt8) : Option (List (List UInt8)) := if s.length < 4294967281 ∧ 1 ≤ sep.length then some ((Lib.splitB (ba sep) 0 (Lib.countB (ba s) (ba sep)) (ba s)).map unB) else none
def split_fc : FC := { f := 22, args := [.one (.c (.d .str)), .one (.c (.d .str))], res := .one (.c (.d (.lst .str))), F := fun p => split_t p.1 p.2 }
theorem split_ok : FCall Inv Tryd.prog split_fc := fun G hG => ⟨⟨by kernel_rfl, fun a r h => by
  obtain ⟨s, sep⟩ := a
  have h' : split_t s sep = some r := h
  unfold split_t at h'
  split at h'
  case isFalse => cases h'
  rename_i hc
  have hr : (Lib.splitB (ba sep) 0 (Lib.countB (ba s) (ba sep)) (ba s)).map unB = r := Option.some.inj h'
  intro Pc w vs hg hlt hv
  obtain ⟨m, hm⟩ := hG.im w hg
  obtain ⟨l⟩ := vs
  match l, hv with
  | [x, y], ⟨h1, h2, _⟩ =>
    obtain rfl : x = .string (ba s) := of_val h1
    obtain rfl : y = .string (ba sep) := of_val h2
    have hlen : (Lib.splitB (ba sep) 0 (Lib.countB (ba s) (ba sep)) (ba s)).length = Lib.countB (ba s) (ba sep) + 1 := Lib.splitB_all (ba sep) (by rw [ba_len]; exact hc.2) 0 _ (ba s) rfl
    refine (Any.strings_Split { Tryd.laysSplit with } Tryd.laysSplit.i9 (ba s) (ba sep) m w (by rw [ba_len]; exact hc.1) hm (by rw [ba_len]; exact hc.2)).mono ?_
    rintro e w' ⟨rfl, rfl⟩
    generalize hL : Lib.splitB (ba sep) 0 (Lib.countB (ba s) (ba sep)) (ba s) = L at hlen hr
    refine ⟨_, fun b o => Pc b o ∨ b = w.heap.size, rfl, (Below.refl _ _).alloc (Nat.le_refl _) _, fun b o hp => Or.inl hp, ?_, ?_⟩
    · rintro b o (hp | rfl)
      · exact Or.inl hp
      · exact Or.inr ⟨Nat.le_refl _, by simp⟩
    · show DatRep _ _ _ (.lst 1 (r.map (toDats .str)))
      have hr2 : r.map (toDats .str) = L.map fun x => [Dat.v (.string x)] := by
        rw [← hr, List.map_map]
        exact List.map_congr_left fun x _ => by show [Dat.v (.string (ba (unB x)))] = _; rw [ba_unB]
      rw [hr2, ← hlen]
      have hmax : L.length ≤ maxLen := by
        have := Lib.countB_le (ba sep) (by rw [ba_len]; exact hc.2) (ba s).size (ba s) (Nat.le_refl _)
        rw [ba_len] at this
        have hM : maxLen = 9223372036854775807 := by decide
        have h1 := hc.1
        omega
      refine .lst _ _ _ 1 _ w.heap.size 0 (fun k j => .string (L.getD k ⟨#[]⟩)) (by simp) (Nat.le_refl _) hmax (fun x hx => ?_) (fun _ => rfl) (fun k j hk hj => ⟨Or.inr rfl, ?_, rfl⟩) (fun k j hk hj => ?_)
      · obtain ⟨y, _, rfl⟩ := List.mem_map.1 hx; rfl
      · have hk' : k < L.length := by simpa using hk
        have hj0 : j = 0 := by omega
        subst hj0
        rw [World.cell?_alloc_new]
        simp [List.getD, hk']
      · have hk' : k < L.length := by simpa using hk
        have hj0 : j = 0 := by simp at hj; exact hj
        subst hj0
        simp [List.getD, hk']
        exact .v _⟩, rfl⟩
end YtchkajkbelhfgaaDoor.AM
end Go.Proofs
