/- Layer 7: what is known of old memory; contracts of the library's functions and of those that lean on errors. -/
import Derived.Test.YtgihkohggalefabDoorSeq
import Derived.Test.YtgihkohggalefabDoorCard
import Derived.Test.YtgihkohggalefabDoorVerM
import Derived.Shelf.LaysC
import Derived.Shelf.Strconv.Itoa3
import Derived.Shelf.Strconv.AtoiAll
import Derived.Shelf.Small.Strs
import Derived.Shelf.Strings.SplitShaped
import Derived.Lib.LaidTab
import Derived.Lib.AppendIntMem
import Derived.Stop.LaidErr
import Derived.WalkSmall
namespace Go.Proofs
open Go.RowKit Go.Shelf Go.Lib
shelf_lay LaysM.n146 Nm 146 at Tryd as Tryd.laysSplit
shelf_lay LaysM.n171 Nm 171 at Tryd as Tryd.laysItoa
shelf_lay LaysC.n172 Nm 172 at Tryd as Tryd.laysAtoi
shelf_lay Lays.n106 Nm 106 at Tryd as Tryd.laysCompare
set_option linter.unusedVariables false
set_option linter.unusedSimpArgs false
namespace YtgihkohggalefabDoor.AM
/-- what is known of the library's variables -/
structure Inv (w : World) : Prop where
  maxLen : ∃ m, w.cell? ⟨Tryd.laysIndex_ren.g 1, 0, none⟩ = some (.int .i64 m)
  tab : Lib.TabIs Tryd.prog w "internal/strconv.uint64pow10" .u64 Lib.pow10Tab
  syn : ∃ tp p, w.cell? ⟨Tryd.laysAtoi_ren.g 15, 0, none⟩ = some (.iface tp p)
  rng : ∃ tp p, w.cell? ⟨Tryd.laysAtoi_ren.g 16, 0, none⟩ = some (.iface tp p)
theorem gTab : (Tryd.prog.globalNamed "internal/strconv.uint64pow10").isSome = true := by kernel_rfl
theorem Inv.below {w w' : World} (h : Inv w) (hb : Below w.heap.size w w') : Inv w' := by
  obtain ⟨⟨m, hm⟩, ht, ⟨t1, p1, h1⟩, ⟨t2, p2, h2⟩⟩ := h
  refine ⟨⟨m, (hb.cell (p := ⟨_, 0, none⟩) (World.block_lt_of_cell? _ _ hm)).trans hm⟩, ?_, ⟨t1, p1, (hb.cell (p := ⟨_, 0, none⟩) (World.block_lt_of_cell? _ _ h1)).trans h1⟩, ⟨t2, p2, (hb.cell (p := ⟨_, 0, none⟩) (World.block_lt_of_cell? _ _ h2)).trans h2⟩⟩
  obtain ⟨g, hg⟩ := Option.isSome_iff_exists.1 gTab
  refine var?_below hb hg ?_ ht
  have hv : w.var? Tryd.prog "internal/strconv.uint64pow10" = some _ := ht
  unfold World.var? at hv
  rw [hg] at hv
  simp only [Option.bind_some] at hv
  split at hv
  · rename_i h5; exact (Array.getElem?_eq_some_iff.1 h5).1
  · cases hv
theorem know_inv : Know Inv Inv := ⟨fun w w' h hb => h.below hb, fun _ h => h⟩
variable {P : Program}
theorem pc_done {Pc : Nat → Nat → Prop} {w w' : World} {v : Value} {d : D} {e : Ending} (he : e = .returned v) (hb : Below w.heap.size w w') (hv : DRep (noEnv Pc) noSt w' v d) :
    ∃ v' Pc', e = .returned v' ∧ Below w.heap.size w w' ∧ (∀ b o, Pc b o → Pc' b o) ∧ (∀ b o, Pc' b o → Pc b o ∨ (w.heap.size ≤ b ∧ b < w'.heap.size)) ∧ DRep (noEnv Pc') noSt w' v' d :=
  ⟨v, Pc, he, hb, fun _ _ h => h, fun _ _ h => Or.inl h, hv⟩
abbrev strA : SD := .one (.c (.d .str))
abbrev intA : SD := .one (.c (.d (.int .i64)))
abbrev boolA : SD := .one (.c (.d .bool))
/-! the place of a byte -/
def index_t (s sep : List UInt8) : Option Int := match sep with
  | [c] => if s.length < 4294967281 then some (Lib.index s [c]) else none
  | _ => none
def index_fc : FC := { f := 75, args := [strA, strA], res := intA, F := fun p => index_t p.1 p.2 }
theorem index_ok : FCall Inv Tryd.prog index_fc := fun G hG => ⟨⟨by kernel_rfl, fun a r h => by
  obtain ⟨s, sep⟩ := a
  have h' : index_t s sep = some r := h
  unfold index_t at h'
  split at h'
  case h_2 => cases h'
  rename_i c
  split at h'
  case isFalse => cases h'
  rename_i hc
  have hr : Lib.index s [c] = r := Option.some.inj h'
  intro Pc w vs hg hlt hv
  obtain ⟨m, hm⟩ := (hG.im w hg).maxLen
  obtain ⟨l⟩ := vs
  match l, hv with
  | [x, y], ⟨h1, h2, _⟩ =>
    obtain rfl : x = .string (ba s) := of_val h1
    obtain rfl : y = .string (ba [c]) := of_val h2
    have e1 : (ba s).data.toList = s := by simp [ba]
    have e2 : (ba [c]).data.toList = [c] := by simp [ba]
    have hh := Any.stringslite_Index { Tryd.laysIndex with } (ba s) (ba [c]) m w (by rw [ba_len]; exact hc) hm
    rw [e1, e2, hr] at hh
    refine hh.mono ?_
    rintro e w' ⟨rfl, rfl⟩
    exact pc_done rfl (Below.refl _ _) (drep_val _)⟩, rfl⟩
/-! strings.Compare -/
def compare_fc : FC := { f := 74, args := [strA, strA], res := intA, F := fun p => some (Lib.compareBytes p.1 p.2) }
def compare_t (a b : List UInt8) : Option Int := some (Lib.compareBytes a b)
theorem compare_ok : FCall Inv Tryd.prog compare_fc := fun G hG => ⟨⟨by kernel_rfl, fun a r h => by
  obtain ⟨s, t⟩ := a
  have hr : Lib.compareBytes s t = r := Option.some.inj h
  intro Pc w vs hg hlt hv
  obtain ⟨l⟩ := vs
  match l, hv with
  | [x, y], ⟨h1, h2, _⟩ =>
    obtain rfl : x = .string (ba s) := of_val h1
    obtain rfl : y = .string (ba t) := of_val h2
    have e1 : (ba s).data.toList = s := by simp [ba]
    have e2 : (ba t).data.toList = t := by simp [ba]
    have hh := Any.strings_Compare Tryd.laysCompare (ba s) (ba t) w
    rw [e1, e2, hr] at hh
    refine hh.mono ?_
    rintro e w' ⟨rfl, rfl⟩
    exact pc_done rfl (Below.refl _ _) (drep_val _)⟩, rfl⟩
/-! strconv.Itoa -/
def itoa_t (n : Int) : Option (List UInt8) := if -9223372036854775808 ≤ n ∧ n ≤ 9223372036854775807 then some (Lib.itoa n) else none
def itoa_fc : FC := { f := 38, args := [intA], res := strA, F := fun p => itoa_t p }
theorem itoa_ok : FCall Inv Tryd.prog itoa_fc := fun G hG => ⟨⟨by kernel_rfl, fun (n : Int) r h => by
  have h' : itoa_t n = some r := h
  unfold itoa_t at h'
  split at h'
  case isFalse => cases h'
  rename_i hc
  have hr : Lib.itoa n = r := Option.some.inj h'
  intro Pc w vs hg hlt hv
  obtain ⟨l⟩ := vs
  match l, hv with
  | [x], ⟨h1, _⟩ =>
    obtain rfl : x = .int .i64 n := of_val h1
    refine (Any.strconv_Itoa Tryd.laysItoa n hc.1 hc.2 w (hG.im w hg).tab).mono ?_
    rintro e w' ⟨rfl, k, os, rfl⟩
    subst hr
    exact pc_done rfl (Lib.below_grow _ w (Nat.le_refl _) k os) (drep_val (.string (ba (Lib.itoa n))))⟩, rfl⟩
/-! the number of a text -/
theorem number_calls (s : List UInt8) (w : World) (hI : Inv w) (hlim : s.length ≤ 281474976710656) : Calls Tryd.prog 37 #[.string (ba s)] w fun e w' => e = .returned (.int .i64 (atoiV s)) ∧ Below w.heap.size w w' := by
  have e1 : (ba s).data.toList = s := by simp [ba]
  have hl : (ba s).size ≤ 281474976710656 := by rw [ba_len]; exact hlim
  obtain ⟨ts, ps, hs⟩ := hI.syn
  obtain ⟨tr, pr, hr⟩ := hI.rng
  go_enter Tryd.func37, Tryd.ntmps37
  unfold atoiV
  cases h : Lib.atoiAll s with
  | ok v =>
    go_wp2_with (go_at_call 61; refine (Any.strconv_Atoi_ok Tryd.laysAtoi (ba s) (by omega) v (by rw [e1]; exact h) w).mono ?_)
    rintro e w' ⟨rfl, hw⟩
    go_wp2
    go_ret
    refine ⟨rfl, ?_⟩
    rcases hw with rfl | ⟨t, rfl⟩
    · exact Below.refl _ _
    · exact Lib.bytesWorld_below _ _ _
  | «syntax» =>
    go_wp2_with (go_at_call 61; refine (Any.strconv_Atoi_syntax Tryd.laysAtoi (ba s) hl (by rw [e1]; exact h) _ w hs (Or.inr ⟨_, _, rfl⟩)).mono ?_)
    rintro e w' ⟨N, rfl, hN, hc, hb⟩
    go_wp2
    go_ret
    exact ⟨rfl, hb⟩
  | range =>
    go_wp2_with (go_at_call 61; refine (Any.strconv_Atoi_range Tryd.laysAtoi (ba s) hl (by rw [e1]; exact h) _ w hr (Or.inr ⟨_, _, rfl⟩)).mono ?_)
    rintro e w' ⟨N, rfl, hN, hc, hb⟩
    go_wp2
    go_ret
    exact ⟨rfl, hb⟩
def number_t (s : List UInt8) : Option Int := if s.length ≤ 281474976710656 then some (atoiV s) else none
def number_fc : FC := { f := 37, args := [strA], res := intA, F := fun p => number_t p }
theorem number_ok : FCall Inv Tryd.prog number_fc := fun G hG => ⟨⟨by kernel_rfl, fun (s : List UInt8) r h => by
  have h' : number_t s = some r := h
  unfold number_t at h'
  split at h'
  case isFalse => cases h'
  rename_i hc
  have hr : atoiV s = r := Option.some.inj h'
  intro Pc w vs hg hlt hv
  obtain ⟨l⟩ := vs
  match l, hv with
  | [x], ⟨h1, _⟩ =>
    obtain rfl : x = .string (ba s) := of_val h1
    refine (number_calls s w (hG.im w hg) hc).mono ?_
    rintro e w' ⟨rfl, hb⟩
    subst hr
    exact pc_done rfl hb (drep_val _)⟩, rfl⟩
/-! strings.Split -/
theorem gSplit : Tryd.laysSplit_ren.g 1 = Tryd.laysIndex_ren.g 1 := by kernel_rfl
def split_t (s sep : List UInt8) : Option (List (List UInt8)) := match sep with
  | [c] => if s.length < 4294967281 then some (spl c [] s) else none
  | _ => none
def split_fc : FC := { f := 55, args := [strA, strA], res := .one (.c (.d (.lst .str))), F := fun p => split_t p.1 p.2 }
theorem split_ok : FCall Inv Tryd.prog split_fc := fun G hG => ⟨⟨by kernel_rfl, fun a r h => by
  obtain ⟨s, sep⟩ := a
  have h' : split_t s sep = some r := h
  unfold split_t at h'
  split at h'
  case h_2 => cases h'
  rename_i c
  split at h'
  case isFalse => cases h'
  rename_i hc
  have hr : (Lib.splitB (ba [c]) 0 (Lib.countB (ba s) (ba [c])) (ba s)).map unB = r := (splitB_spl c s).trans (Option.some.inj h')
  intro Pc w vs hg hlt hv
  obtain ⟨m, hm⟩ := (hG.im w hg).maxLen
  obtain ⟨l⟩ := vs
  match l, hv with
  | [x, y], ⟨h1, h2, _⟩ =>
    obtain rfl : x = .string (ba s) := of_val h1
    obtain rfl : y = .string (ba [c]) := of_val h2
    have b1 : 1 ≤ (ba [c]).size := by rw [ba_len]; exact Nat.le_refl _
    have hlen : (Lib.splitB (ba [c]) 0 (Lib.countB (ba s) (ba [c])) (ba s)).length = Lib.countB (ba s) (ba [c]) + 1 := Lib.splitB_all (ba [c]) b1 0 _ (ba s) rfl
    refine (Any.strings_Split { Tryd.laysSplit with } Tryd.laysSplit.i9 (ba s) (ba [c]) m w (by rw [ba_len]; exact hc) (by rw [gSplit]; exact hm) b1).mono ?_
    rintro e w' ⟨rfl, rfl⟩
    generalize hL : Lib.splitB (ba [c]) 0 (Lib.countB (ba s) (ba [c])) (ba s) = L at hlen hr
    refine ⟨_, fun b o => Pc b o ∨ b = w.heap.size, rfl, (Below.refl _ _).alloc (Nat.le_refl _) _, fun b o hp => Or.inl hp, ?_, ?_⟩
    · rintro b o (hp | rfl)
      · exact Or.inl hp
      · exact Or.inr ⟨Nat.le_refl _, by simp⟩
    · show DatRep _ _ _ (.lst 1 (r.map (toDats .str)))
      have hr2 : r.map (toDats .str) = L.map fun x => [Dat.v (.string x)] := by
        rw [← hr, List.map_map]
        exact List.map_congr_left fun x _ => by show [Dat.v (.string (ba (unB x)))] = _; rw [ba_unB]
      rw [hr2, ← hlen]
      have hmax : L.length ≤ maxLen := by
        have := Lib.countB_le (ba [c]) b1 (ba s).size (ba s) (Nat.le_refl _)
        rw [ba_len] at this
        have hM : maxLen = 9223372036854775807 := by decide
        omega
      refine .lst _ _ _ 1 _ w.heap.size 0 (fun k j => .string (L.getD k ⟨#[]⟩)) (by simp) (Nat.le_refl _) hmax (fun x hx => ?_) (fun _ => rfl) (fun k j hk hj => ⟨Or.inr rfl, ?_, rfl⟩) (fun k j hk hj => ?_)
      · obtain ⟨y, _, rfl⟩ := List.mem_map.1 hx; rfl
      · have hk' : k < L.length := by simpa using hk
        have hj0 : j = 0 := by omega
        subst hj0
        rw [World.cell?_alloc_new]
        simp [List.getD, hk']
      · have hk' : k < L.length := by simpa using hk
        have hj0 : j = 0 := by simp at hj; exact hj
        subst hj0
        simp [List.getD, hk']
        exact .v _⟩, rfl⟩
end YtgihkohggalefabDoor.AM
end Go.Proofs
