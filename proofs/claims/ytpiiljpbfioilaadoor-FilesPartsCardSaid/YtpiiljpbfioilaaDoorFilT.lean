/- Layer 5: files.Path. -/
import Derived.Test.YtpiiljpbfioilaaDoorFilP0
import Derived.Test.YtpiiljpbfioilaaDoorRngF
namespace Go.Proofs
open Go.RowKit Go.Shelf Go.Lib
attribute [local go_sem] Oper.semAt_some
set_option linter.unusedVariables false
set_option linter.unusedSimpArgs false
namespace YtpiiljpbfioilaaDoor.AM
theorem part_one (x : List UInt8) (w : World) (hI : Inv w) (hx : x.length ≤ 1000000) : Calls Tryd.prog 49 #[.string (ba x)] w fun e w' => e = .returned (.bool (partS x)) ∧ Below w.heap.size w w' := by
  have h := (fPart_ok 1000001 Inv know_inv).1.2 x (partS x) (fPart_spec 1000001 x (by omega) (by omega))
  refine (h (fun _ _ => False) w #[.string (ba x)] hI (fun b o h => h.elim) ⟨drep_val _, trivial⟩).mono ?_
  rintro e w' ⟨v, Pc, rfl, hb, _, _, hv⟩
  have hv' : v = .bool (partS x) := of_val hv
  rw [hv']
  exact ⟨rfl, hb⟩
set_option maxHeartbeats 2000000 in
theorem fPath_calls (s : List UInt8) (w : World) (hI : Inv w) : Calls Tryd.prog 19 #[.string (ba s)] w fun e w' => e = .returned (.bool (pathS s)) ∧ Below w.heap.size w w' := by
  refine (callsIn_wide (n := 9)).1 ?_
  refine callsIn_of_wp_marks Tryd.func19 rfl trivial ?_ rfl
  simp only [Tryd.ntmps19, List.size_toArray, List.length_cons, List.length_nil, Nat.reduceAdd, Nat.reduceSub, Array.replicate_succ, Array.replicate_zero, List.push_toArray, List.append_toArray, List.nil_append, List.cons_append]
  have hsz : (ba s).size = s.length := ba_len s
  by_cases h2 : s.length ≤ 60
  · skip
    gi_wp2_with (refine ⟨trivial, ?_⟩; gi_at_call 48; refine (callsIn_wide.2 (SplitSeq_calls _ _ _)).mono ?_; rintro e w' ⟨rfl, rfl⟩)
    obtain ⟨W0, hW0, hs0, hb0, g0, g1, g2, g3⟩ := four w (Obj.cells #[Value.bool false] 4) (Obj.cells #[Value.string (ba s)] 9) (Obj.cells #[Value.string { data := #[47] }] 9) (Obj.cells #[Value.int IntKind.i64 0] 3)
    rw [hW0]
    clear hW0
    obtain ⟨c1, f1⟩ := boxed_cell g0
    obtain ⟨c2, f2⟩ := boxed_cell g1
    obtain ⟨c3, f3⟩ := boxed_cell g2
    obtain ⟨c4, f4⟩ := boxed_cell g3
    refine range_split (n := 9) (by omega) 47 (w.heap.size + 1) (w.heap.size + 1 + 1) (w.heap.size + 1 + 2) s (by omega) rfl ⟨c2, f2⟩
      (Rng (.string (ba [47])) (w.heap.size + 1 + 1) w.heap.size (w.heap.size + 1 + 1) (w.heap.size + 1 + 2) 47 w partS) (RngX w.heap.size w partS) (rng_own (by omega)) (rngX_own (by omega))
      (fun pre W h => ⟨h.cP, h.cC, (hI.below h.below).maxLen⟩) (fun pre W v h => rng_set v h (by omega) (by omega) (by omega) (by omega) (by omega)) ⟨c3, c1, f1, c3, c4, hb0, rfl⟩
      (fun x => { tmps := #[.string (ba s), undef, .pointer (some ⟨w.heap.size, 0, none⟩), .string (ba x), .string (ba s), .int .i64 s.length, .bool (decide ((60 : Int) < s.length)), .string (ba s), .func (.func 97) #[] #[.pointer (some ⟨w.heap.size + 1 + 1, 0, none⟩), .pointer (some ⟨w.heap.size + 1, 0, none⟩), .pointer (some ⟨w.heap.size + 1 + 2, 0, none⟩)], .string (ba x), undef, undef, undef], defers := [] }) ?assign ?body ?done ?stop
    case assign =>
      intro l x W K hK
      gi_wp2
      exact hK
    case body =>
      intro l pre x r W hi hL hx
      have k1 := hi.res
      have k2 := hi.frz
      have hc := part_one x W (hI.below hi.below) (by omega)
      cases hpx : partS x with
      | true =>
        rw [hpx] at hc
        gi_wp2_with (refine ⟨trivial, ?_⟩; gi_at_call 49; refine (CallsIn.inRound l (callsIn_wide.2 hc)).mono ?_; rintro e w' ⟨rfl, hb'⟩)
        exact ⟨keeps_below hb', rng_below hi hb' (by simp [hpx]), left_below hL hb'⟩
      | false =>
        rw [hpx] at hc
        gi_wp2_with (refine ⟨trivial, ?_⟩; gi_at_call 49; refine (CallsIn.inRound l (callsIn_wide.2 hc)).mono ?_; rintro e w' ⟨rfl, hb'⟩; have k3 := below_cell hb' hi.res; have k4 := (below_frozen hb' hi.res).trans hi.frz)
        exact ⟨(keeps_below hb').trans (KeepsOthers.setCell _ _ _), World.cell?_setCell_same' _ _ _ (by rw [k3]; rfl), (hi.below.trans (hb'.mono hi.below.size)).setCell (by simp) _, by simp [hpx]⟩
    case done =>
      intro D W hD hi hK
      have k1 := hi.res
      have k2 := hi.frz
      gi_wp2
      have hK' := (KeepsOthers.setCell W ⟨w.heap.size, 0, none⟩ (.bool true)).same D _ hK rfl
      have hW' : Below w.heap.size w (W.setCell ⟨w.heap.size, 0, none⟩ (.bool true)) := hi.below.setCell (by simp) _
      have k5 : (W.setCell ⟨w.heap.size, 0, none⟩ (.bool true)).cell? ⟨w.heap.size, 0, none⟩ = some (.bool true) := World.cell?_setCell_same' _ _ _ (by rw [k1]; rfl)
      generalize W.setCell ⟨w.heap.size, 0, none⟩ (.bool true) = W2 at hK' hW' k5
      refine ⟨by simp, .inl ⟨_, _, rfl, run_takeDeferred hK', ?_⟩⟩
      have hg := grownBy_putObj' W2 D (.deferred none)
      refine ⟨_, ret_cell (b := w.heap.size) (v := .bool true) rfl rfl hag (cell_kept k5 hg (fun r e => by cases e; exact ⟨_, hK', rfl⟩)), ?_, ?_⟩
      · have ha := hi.all
        unfold pathS; simp [h2, ha]
      · exact hW'.grown hg hW'.size (fun k e => by cases e; omega)
    case stop =>
      intro D pre x t W hD hsp hi hK
      refine ⟨by simp, .inl ⟨_, _, rfl, run_takeDeferred hK, ?_⟩⟩
      have hg := grownBy_putObj' W D (.deferred none)
      refine ⟨_, ret_cell (b := w.heap.size) (v := .bool false) rfl rfl hag (cell_kept hi.res hg (fun r e => by cases e; exact ⟨_, hK, rfl⟩)), ?_, ?_⟩
      · have ha := all_stop hsp hi.no
        unfold pathS; simp [ha]
      · exact hi.below.grown hg hi.below.size (fun k e => by cases e; omega)
  · gi_wp2
    refine ⟨_, ret_cell (b := w.heap.size) (v := .bool false) rfl rfl hag (by simp), ?_, ?_⟩
    · unfold pathS; simp [h2]
    · exact (Below.refl _ w).alloc (Nat.le_refl _) _
def fPath_t (s : List UInt8) : Option Bool := some (pathS s)
def fPath_fc : FC := { f := 19, args := [strA], res := boolA, F := fun p => fPath_t p }
theorem fPath_ok : FCall Inv Tryd.prog fPath_fc := fun G hG => ⟨⟨by kernel_rfl, fun (s : List UInt8) r h => by
  have hr : pathS s = r := Option.some.inj h
  intro Pc w vs hg hlt hv
  obtain ⟨l⟩ := vs
  match l, hv with
  | [x], ⟨h1, _⟩ =>
    obtain rfl : x = .string (ba s) := of_val h1
    refine (fPath_calls s w (hG.im w hg)).mono ?_
    rintro e w' ⟨rfl, hb⟩
    subst hr
    exact pc_done rfl hb (drep_val _)⟩, rfl⟩
end YtpiiljpbfioilaaDoor.AM
end Go.Proofs
