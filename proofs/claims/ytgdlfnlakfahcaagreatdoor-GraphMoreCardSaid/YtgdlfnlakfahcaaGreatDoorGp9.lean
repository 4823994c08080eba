/- One text of FilT, MpT, MpG2 (mk/pack.py). -/
import Derived.Test.YtgdlfnlakfahcaaGreatDoorGp8
/- Layer 5: files.Path. -/
namespace Go.Proofs
open Go.RowKit Go.Shelf Go.Lib
attribute [local go_sem] Oper.semAt_some
set_option linter.unusedVariables false
set_option linter.unusedSimpArgs false
namespace YtgdlfnlakfahcaaGreatDoor.AM
theorem part_one (x : List UInt8) (w : World) (hI : Inv w) (hx : x.length ≤ 1000000) : Calls Tryz.prog 55 #[.string (ba x)] w fun e w' => e = .returned (.bool (partS x)) ∧ Below w.heap.size w w' := by
  have h := (fPart_ok 1000001 Inv know_inv).1.2 x (partS x) (fPart_spec 1000001 x (by omega) (by omega))
  refine (h (fun _ _ => False) w #[.string (ba x)] hI (fun b o h => h.elim) ⟨drep_val _, trivial⟩).mono ?_
  rintro e w' ⟨v, Pc, rfl, hb, _, _, hv⟩
  have hv' : v = .bool (partS x) := of_val hv
  rw [hv']
  exact ⟨rfl, hb⟩
set_option maxHeartbeats 2000000 in
theorem fPath_calls (s : List UInt8) (w : World) (hI : Inv w) : Calls Tryz.prog 45 #[.string (ba s)] w fun e w' => e = .returned (.bool (pathS s)) ∧ Below w.heap.size w w' := by
  refine (callsIn_wide (n := 9)).1 ?_
  refine callsIn_of_wp_marks Tryz.func45 rfl trivial ?_ rfl
  simp only [Tryz.ntmps45, List.size_toArray, List.length_cons, List.length_nil, Nat.reduceAdd, Nat.reduceSub, Array.replicate_succ, Array.replicate_zero, List.push_toArray, List.append_toArray, List.nil_append, List.cons_append]
  have hsz : (ba s).size = s.length := ba_len s
  by_cases h2 : s.length ≤ 60
  · skip
    gi_wp2_with (refine ⟨trivial, ?_⟩; gi_at_call 54; refine (callsIn_wide.2 (SplitSeq_calls _ _ _)).mono ?_; rintro e w' ⟨rfl, rfl⟩)
    obtain ⟨W0, hW0, hs0, hb0, g0, g1, g2, g3⟩ := four w (Obj.cells #[Value.bool false] 4) (Obj.cells #[Value.string (ba s)] 9) (Obj.cells #[Value.string { data := #[47] }] 9) (Obj.cells #[Value.int IntKind.i64 0] 3)
    rw [hW0]
    clear hW0
    obtain ⟨c1, f1⟩ := boxed_cell g0
    obtain ⟨c2, f2⟩ := boxed_cell g1
    obtain ⟨c3, f3⟩ := boxed_cell g2
    obtain ⟨c4, f4⟩ := boxed_cell g3
    refine range_split (n := 9) (by omega) 47 (w.heap.size + 1) (w.heap.size + 1 + 1) (w.heap.size + 1 + 2) s (by omega) rfl ⟨c2, f2⟩
      (Rng (.string (ba [47])) (w.heap.size + 1 + 1) w.heap.size (w.heap.size + 1 + 1) (w.heap.size + 1 + 2) 47 w partS) (RngX w.heap.size w partS) (rng_own (by omega)) (rngX_own (by omega))
      (fun pre W h => ⟨h.cP, h.cC, (hI.below h.below).maxLen⟩) (fun pre W v h => rng_set v h (by omega) (by omega) (by omega) (by omega) (by omega)) ⟨c3, c1, f1, c3, c4, hb0, rfl⟩
      (fun x => { tmps := #[.string (ba s), undef, .pointer (some ⟨w.heap.size, 0, none⟩), .string (ba x), .string (ba s), .int .i64 s.length, .bool (decide ((60 : Int) < s.length)), .string (ba s), .func (.func 77) #[] #[.pointer (some ⟨w.heap.size + 1 + 1, 0, none⟩), .pointer (some ⟨w.heap.size + 1, 0, none⟩), .pointer (some ⟨w.heap.size + 1 + 2, 0, none⟩)], .string (ba x), undef, undef, undef], defers := [] }) ?assign ?body ?done ?stop
    case assign =>
      intro l x W K hK
      gi_wp2
      exact hK
    case body =>
      intro l pre x r W hi hL hx
      have k1 := hi.res
      have k2 := hi.frz
      have hc := part_one x W (hI.below hi.below) (by omega)
      cases hpx : partS x with
      | true =>
        rw [hpx] at hc
        gi_wp2_with (refine ⟨trivial, ?_⟩; gi_at_call 55; refine (CallsIn.inRound l (callsIn_wide.2 hc)).mono ?_; rintro e w' ⟨rfl, hb'⟩)
        exact ⟨keeps_below hb', rng_below hi hb' (by simp [hpx]), left_below hL hb'⟩
      | false =>
        rw [hpx] at hc
        gi_wp2_with (refine ⟨trivial, ?_⟩; gi_at_call 55; refine (CallsIn.inRound l (callsIn_wide.2 hc)).mono ?_; rintro e w' ⟨rfl, hb'⟩; have k3 := below_cell hb' hi.res; have k4 := (below_frozen hb' hi.res).trans hi.frz)
        exact ⟨(keeps_below hb').trans (KeepsOthers.setCell _ _ _), World.cell?_setCell_same' _ _ _ (by rw [k3]; rfl), (hi.below.trans (hb'.mono hi.below.size)).setCell (by simp) _, by simp [hpx]⟩
    case done =>
      intro D W hD hi hK
      have k1 := hi.res
      have k2 := hi.frz
      gi_wp2
      have hK' := (KeepsOthers.setCell W ⟨w.heap.size, 0, none⟩ (.bool true)).same D _ hK rfl
      have hW' : Below w.heap.size w (W.setCell ⟨w.heap.size, 0, none⟩ (.bool true)) := hi.below.setCell (by simp) _
      have k5 : (W.setCell ⟨w.heap.size, 0, none⟩ (.bool true)).cell? ⟨w.heap.size, 0, none⟩ = some (.bool true) := World.cell?_setCell_same' _ _ _ (by rw [k1]; rfl)
      generalize W.setCell ⟨w.heap.size, 0, none⟩ (.bool true) = W2 at hK' hW' k5
      refine ⟨by simp, .inl ⟨_, _, rfl, run_takeDeferred hK', ?_⟩⟩
      have hg := grownBy_putObj' W2 D (.deferred none)
      refine ⟨_, ret_cell (b := w.heap.size) (v := .bool true) rfl rfl hag (cell_kept k5 hg (fun r e => by cases e; exact ⟨_, hK', rfl⟩)), ?_, ?_⟩
      · have ha := hi.all
        unfold pathS; simp [h2, ha]
      · exact hW'.grown hg hW'.size (fun k e => by cases e; omega)
    case stop =>
      intro D pre x t W hD hsp hi hK
      refine ⟨by simp, .inl ⟨_, _, rfl, run_takeDeferred hK, ?_⟩⟩
      have hg := grownBy_putObj' W D (.deferred none)
      refine ⟨_, ret_cell (b := w.heap.size) (v := .bool false) rfl rfl hag (cell_kept hi.res hg (fun r e => by cases e; exact ⟨_, hK, rfl⟩)), ?_, ?_⟩
      · have ha := all_stop hsp hi.no
        unfold pathS; simp [ha]
      · exact hi.below.grown hg hi.below.size (fun k e => by cases e; omega)
  · gi_wp2
    refine ⟨_, ret_cell (b := w.heap.size) (v := .bool false) rfl rfl hag (by simp), ?_, ?_⟩
    · unfold pathS; simp [h2]
    · exact (Below.refl _ w).alloc (Nat.le_refl _) _
def fPath_t (s : List UInt8) : Option Bool := some (pathS s)
def fPath_fc : FC := { f := 45, args := [strA], res := boolA, F := fun p => fPath_t p }
theorem fPath_ok : FCall Inv Tryz.prog fPath_fc := fun G hG => ⟨⟨by kernel_rfl, fun (s : List UInt8) r h => by
  have hr : pathS s = r := Option.some.inj h
  intro Pc w vs hg hlt hv
  obtain ⟨l⟩ := vs
  match l, hv with
  | [x], ⟨h1, _⟩ =>
    obtain rfl : x = .string (ba s) := of_val h1
    refine (fPath_calls s w (hG.im w hg)).mono ?_
    rintro e w' ⟨rfl, hb⟩
    subst hr
    exact pc_done rfl hb (drep_val _)⟩, rfl⟩
end YtgdlfnlakfahcaaGreatDoor.AM
end Go.Proofs

/- Layer 8: functions that range over the parts of a text, and those that lean on max and on errors: mpath.anyTells, mpath.Base, mpath.number. -/
namespace Go.Proofs
open Go.RowKit Go.Shelf Go.Lib
attribute [local go_sem] Oper.semAt_some
set_option linter.unusedVariables false
set_option linter.unusedSimpArgs false
namespace YtgdlfnlakfahcaaGreatDoor.AM
theorem tells_one (x : List UInt8) (w : World) (hI : Inv w) (hx : x.length ≤ 1000000) : Calls Tryz.prog 47 #[.string (ba x)] w fun e w' => e = .returned (.bool (tellsS x)) ∧ Below w.heap.size w w' := by
  have h := (mTells_ok 1000001 Inv know_inv).1.2 x (tellsS x) (mTells_spec 1000001 x (by omega))
  refine (h (fun _ _ => False) w #[.string (ba x)] hI (fun b o h => h.elim) ⟨drep_val _, trivial⟩).mono ?_
  rintro e w' ⟨v, Pc, rfl, hb, _, _, hv⟩
  have hv' : v = .bool (tellsS x) := of_val hv
  rw [hv']
  exact ⟨rfl, hb⟩
set_option maxHeartbeats 2000000 in
theorem mAny_calls (s : List UInt8) (w : World) (hI : Inv w) (h2 : s.length ≤ 1000000) : Calls Tryz.prog 46 #[.string (ba s)] w fun e w' => e = .returned (.bool (anyS s)) ∧ Below w.heap.size w w' := by
  refine (callsIn_wide (n := 9)).1 ?_
  refine callsIn_of_wp_marks Tryz.func46 rfl trivial ?_ rfl
  simp only [Tryz.ntmps46, List.size_toArray, List.length_cons, List.length_nil, Nat.reduceAdd, Nat.reduceSub, Array.replicate_succ, Array.replicate_zero, List.push_toArray, List.append_toArray, List.nil_append, List.cons_append]
  have hsz : (ba s).size = s.length := ba_len s
  have key : anyS s = !((spl 47 [] s).all fun x => !tellsS x) := by unfold anyS; rw [List.any_eq_not_all_not]
  · skip
    gi_wp2_with (refine ⟨trivial, ?_⟩; gi_at_call 54; refine (callsIn_wide.2 (SplitSeq_calls _ _ _)).mono ?_; rintro e w' ⟨rfl, rfl⟩)
    obtain ⟨W0, hW0, hs0, hb0, g0, g1, g2, g3⟩ := four w (Obj.cells #[Value.bool false] 4) (Obj.cells #[Value.string (ba s)] 9) (Obj.cells #[Value.string { data := #[47] }] 9) (Obj.cells #[Value.int IntKind.i64 0] 3)
    rw [hW0]
    clear hW0
    obtain ⟨c1, f1⟩ := boxed_cell g0
    obtain ⟨c2, f2⟩ := boxed_cell g1
    obtain ⟨c3, f3⟩ := boxed_cell g2
    obtain ⟨c4, f4⟩ := boxed_cell g3
    refine range_split (n := 9) (by omega) 47 (w.heap.size + 1) (w.heap.size + 1 + 1) (w.heap.size + 1 + 2) s (by omega) rfl ⟨c2, f2⟩
      (Rng (.string (ba [47])) (w.heap.size + 1 + 1) w.heap.size (w.heap.size + 1 + 1) (w.heap.size + 1 + 2) 47 w (fun x => !tellsS x)) (RngY w.heap.size w (fun x => !tellsS x)) (rng_own (by omega)) (rngY_own (by omega))
      (fun pre W h => ⟨h.cP, h.cC, (hI.below h.below).maxLen⟩) (fun pre W v h => rng_set v h (by omega) (by omega) (by omega) (by omega) (by omega)) ⟨c3, c1, f1, c3, c4, hb0, rfl⟩
      (fun x => { tmps := #[.string (ba s), undef, .pointer (some ⟨w.heap.size, 0, none⟩), .string (ba x), .string (ba s), .func (.func 77) #[] #[.pointer (some ⟨w.heap.size + 1 + 1, 0, none⟩), .pointer (some ⟨w.heap.size + 1, 0, none⟩), .pointer (some ⟨w.heap.size + 1 + 2, 0, none⟩)], .string (ba x), undef, undef], defers := [] }) ?assign ?body ?done ?stop
    case assign =>
      intro l x W K hK
      gi_wp2
      exact hK
    case body =>
      intro l pre x r W hi hL hx
      have k1 := hi.res
      have k2 := hi.frz
      have hc := tells_one x W (hI.below hi.below) (by omega)
      cases hpx : tellsS x with
      | false =>
        rw [hpx] at hc
        gi_wp2_with (refine ⟨trivial, ?_⟩; gi_at_call 47; refine (CallsIn.inRound l (callsIn_wide.2 hc)).mono ?_; rintro e w' ⟨rfl, hb'⟩)
        exact ⟨keeps_below hb', rng_below hi hb' (by simp [hpx]), left_below hL hb'⟩
      | true =>
        rw [hpx] at hc
        gi_wp2_with (refine ⟨trivial, ?_⟩; gi_at_call 47; refine (CallsIn.inRound l (callsIn_wide.2 hc)).mono ?_; rintro e w' ⟨rfl, hb'⟩; have k3 := below_cell hb' hi.res; have k4 := (below_frozen hb' hi.res).trans hi.frz)
        exact ⟨(keeps_below hb').trans (KeepsOthers.setCell _ _ _), World.cell?_setCell_same' _ _ _ (by rw [k3]; rfl), (hi.below.trans (hb'.mono hi.below.size)).setCell (by simp) _, by simp [hpx]⟩
    case done =>
      intro D W hD hi hK
      have k1 := hi.res
      have k2 := hi.frz
      gi_wp2
      have hK' := (KeepsOthers.setCell W ⟨w.heap.size, 0, none⟩ (.bool false)).same D _ hK rfl
      have hW' : Below w.heap.size w (W.setCell ⟨w.heap.size, 0, none⟩ (.bool false)) := hi.below.setCell (by simp) _
      have k5 : (W.setCell ⟨w.heap.size, 0, none⟩ (.bool false)).cell? ⟨w.heap.size, 0, none⟩ = some (.bool false) := World.cell?_setCell_same' _ _ _ (by rw [k1]; rfl)
      generalize W.setCell ⟨w.heap.size, 0, none⟩ (.bool false) = W2 at hK' hW' k5
      refine ⟨by simp, .inl ⟨_, _, rfl, run_takeDeferred hK', ?_⟩⟩
      have hg := grownBy_putObj' W2 D (.deferred none)
      refine ⟨_, ret_cell (b := w.heap.size) (v := .bool false) rfl rfl hag (cell_kept k5 hg (fun r e => by cases e; exact ⟨_, hK', rfl⟩)), ?_, ?_⟩
      · have ha := hi.all
        rw [key, ha]; rfl
      · exact hW'.grown hg hW'.size (fun k e => by cases e; omega)
    case stop =>
      intro D pre x t W hD hsp hi hK
      refine ⟨by simp, .inl ⟨_, _, rfl, run_takeDeferred hK, ?_⟩⟩
      have hg := grownBy_putObj' W D (.deferred none)
      refine ⟨_, ret_cell (b := w.heap.size) (v := .bool true) rfl rfl hag (cell_kept hi.res hg (fun r e => by cases e; exact ⟨_, hK, rfl⟩)), ?_, ?_⟩
      · have ha := all_stop hsp hi.no
        rw [key, ha]; rfl
      · exact hi.below.grown hg hi.below.size (fun k e => by cases e; omega)
/-! what stands ahead of the last slash -/
theorem ba_take (s : List UInt8) (b : Nat) : (ba s).extract 0 b = ba (s.take b) := by
  rw [← ba_unB ((ba s).extract 0 b)]
  congr 1
  unfold unB ba
  rw [ByteArray.data_extract]
  simp
theorem lastB_one (x : List UInt8) (w : World) (hI : Inv w) (hx : x.length ≤ 1000000) : Calls Tryz.prog 53 #[.string (ba x), .int .u8 47] w fun e w' => e = .returned (.int .i64 (lastC 47 x)) ∧ Below w.heap.size w w' := by
  have h := (LastB_ok 1000001 Inv know_inv).1.2 (x, (47 : Int)) (lastC 47 x) (LastB_spec 1000001 x (by omega) (by omega))
  refine (h (fun _ _ => False) w #[.string (ba x), .int .u8 47] hI (fun b o h => h.elim) ⟨drep_val _, drep_val _, trivial⟩).mono ?_
  rintro e w' ⟨v, Pc, rfl, hb, _, _, hv⟩
  have hv' : v = .int .i64 (lastC 47 x) := of_val hv
  rw [hv']
  exact ⟨rfl, hb⟩
theorem mBase_calls (s : List UInt8) (w : World) (hI : Inv w) (hs : s.length ≤ 1000000) : Calls Tryz.prog 43 #[.string (ba s)] w fun e w' => e = .returned (.string (ba (baseS s))) ∧ Below w.heap.size w w' := by
  have hl := lastC_ge 47 s
  have hsz : (ba s).size = s.length := ba_len s
  have hc := lastB_one s w hI hs
  go_enter Tryz.func43, Tryz.ntmps43
  by_cases h0 : lastC 47 s = -1
  · rw [h0] at hc
    go_wp2_with (go_at_call 53; refine hc.mono ?_)
    rintro e w' ⟨rfl, hb⟩
    go_wp2
    go_ret
    refine ⟨?_, hb⟩
    show Ending.returned (.string ((ba s).extract 0 (max 0 (-1 : Int)).toNat)) = _
    rw [ba_take]; unfold baseS; rw [h0]; rfl
  · obtain ⟨k, hk⟩ : ∃ k : Nat, lastC 47 s = (k : Int) := ⟨(lastC 47 s).toNat, by omega⟩
    rw [hk] at hc
    go_wp2_with (go_at_call 53; refine hc.mono ?_)
    rintro e w' ⟨rfl, hb⟩
    go_wp2
    go_ret
    refine ⟨?_, hb⟩
    show Ending.returned (.string ((ba s).extract 0 (max 0 (k : Int)).toNat)) = _
    rw [ba_take]; unfold baseS; rw [hk, Int.max_eq_right (by omega)]
/-! the major of a part -/
theorem trim_one (x : List UInt8) (w : World) (hI : Inv w) (hx : x.length ≤ 1000000) : Calls Tryz.prog 58 #[.string (ba x), .string (ba [118])] w fun e w' => e = .returned (.string (ba (trimV x))) ∧ Below w.heap.size w w' := by
  have h := (TrimPrefix_ok 100 Inv know_inv).1.2 (x, ([118] : List UInt8)) (trimV x) (Trim_spec 100 x (by omega))
  refine (h (fun _ _ => False) w #[.string (ba x), .string (ba [118])] hI (fun b o h => h.elim) ⟨drep_val _, drep_val _, trivial⟩).mono ?_
  rintro e w' ⟨v, Pc, rfl, hb, _, _, hv⟩
  have hv' : v = .string (ba (trimV x)) := of_val hv
  rw [hv']
  exact ⟨rfl, hb⟩
theorem itoa_call (n : Int) (w : World) (hI : Inv w) (h0 : 2 ≤ n) (h1 : n ≤ 999999999) : Calls Tryz.prog 60 #[.int .i64 n] w fun e w' => e = .returned (.string (ba (Lib.itoa n))) ∧ Below w.heap.size w w' := by
  refine (Any.strconv_Itoa Tryz.laysItoa n (by omega) (by omega) w hI.tab).mono ?_
  rintro e w' ⟨rfl, k, os, rfl⟩
  exact ⟨rfl, Lib.below_grow _ w (Nat.le_refl _) k os⟩
set_option maxHeartbeats 2000000 in
theorem mNum_calls (s : List UInt8) (w : World) (hI : Inv w) (hs : s.length ≤ 1000000) : Calls Tryz.prog 48 #[.string (ba s)] w fun e w' => e = .returned (.tuple #[.int .i64 (numOf (trimV s)), .bool (fine (trimV s))]) ∧ Below w.heap.size w w' := by
  have hc := trim_one s w hI hs
  have hl := trimV_len s
  go_enter Tryz.func48, Tryz.ntmps48
  go_wp2_with (go_at_call 58; refine hc.mono ?_)
  rintro e w1 ⟨rfl, hb1⟩
  clear hc
  have hI1 := hI.below hb1
  have e1 : (ba (trimV s)).data.toList = trimV s := by simp [ba]
  have hl' : (ba (trimV s)).size ≤ 281474976710656 := by rw [ba_len]; omega
  obtain ⟨ts, ps, hsy⟩ := hI1.syn
  obtain ⟨tr, pr, hrg⟩ := hI1.rng
  cases h : Lib.atoiAll (trimV s) with
  | ok v =>
    go_wp2_with (go_at_call 59; refine (Any.strconv_Atoi_ok Tryz.laysAtoi (ba (trimV s)) (by omega) v (by rw [e1]; exact h) w1).mono ?_)
    rintro e w2 ⟨rfl, hw⟩
    have hb2 : Below w1.heap.size w1 w2 := by
      rcases hw with rfl | ⟨t, rfl⟩
      · exact Below.refl _ _
      · exact Lib.bytesWorld_below _ _ _
    clear hw
    have hb : Below w.heap.size w w2 := hb1.trans (hb2.mono hb1.size)
    by_cases h2 : 2 ≤ v
    · by_cases h3 : v ≤ 999999999
      · have hi := itoa_call v w2 (hI.below hb) h2 h3
        go_wp2_with (go_at_call 60; refine hi.mono ?_)
        rintro e w3 ⟨rfl, hb3⟩
        go_wp2
        go_ret2
        refine ⟨?_, hb.trans (hb3.mono hb.size)⟩
        unfold numOf fine; rw [h]
        simp [h2, h3, ba_toList]
        rw [Bool.eq_iff_iff]; simp
      · go_wp2
        go_ret2
        refine ⟨?_, hb⟩
        unfold numOf fine; rw [h]
        simp [h2, show ¬ v ≤ 999999999 from by omega]
    · go_wp2
      go_ret2
      refine ⟨?_, hb⟩
      unfold numOf fine; rw [h]
      simp [show ¬ 2 ≤ v from by omega]
  | «syntax» =>
    go_wp2_with (go_at_call 59; refine (Any.strconv_Atoi_syntax Tryz.laysAtoi (ba (trimV s)) hl' (by rw [e1]; exact h) _ w1 hsy (Or.inr ⟨_, _, rfl⟩)).mono ?_)
    rintro e w2 ⟨N, rfl, hN, hc, hb2⟩
    go_wp2
    go_ret2
    refine ⟨?_, hb1.trans (hb2.mono hb1.size)⟩
    unfold numOf fine; rw [h]; rfl
  | range =>
    go_wp2_with (go_at_call 59; refine (Any.strconv_Atoi_range Tryz.laysAtoi (ba (trimV s)) hl' (by rw [e1]; exact h) _ w1 hrg (Or.inr ⟨_, _, rfl⟩)).mono ?_)
    rintro e w2 ⟨N, rfl, hN, hc, hb2⟩
    rw [e1]
    go_wp2
    go_ret2
    refine ⟨?_, hb1.trans (hb2.mono hb1.size)⟩
    unfold numOf fine; rw [h]; rfl
/-! contracts -/
def mAny_t (s : List UInt8) : Option Bool := if s.length ≤ 1000000 then some (anyS s) else none
def mAny_fc : FC := { f := 46, args := [strA], res := boolA, F := fun p => mAny_t p }
theorem mAny_ok : FCall Inv Tryz.prog mAny_fc := fun G hG => ⟨⟨by kernel_rfl, fun (s : List UInt8) r h => by
  have h' : mAny_t s = some r := h
  unfold mAny_t at h'
  split at h'
  case isFalse => cases h'
  rename_i hc
  have hr : anyS s = r := Option.some.inj h'
  intro Pc w vs hg hlt hv
  obtain ⟨l⟩ := vs
  match l, hv with
  | [x], ⟨h1, _⟩ =>
    obtain rfl : x = .string (ba s) := of_val h1
    refine (mAny_calls s w (hG.im w hg) hc).mono ?_
    rintro e w' ⟨rfl, hb⟩
    subst hr
    exact pc_done rfl hb (drep_val _)⟩, rfl⟩
def mBase_t (s : List UInt8) : Option (List UInt8) := if s.length ≤ 1000000 then some (baseS s) else none
def mBase_fc : FC := { f := 43, args := [strA], res := strA, F := fun p => mBase_t p }
theorem mBase_ok : FCall Inv Tryz.prog mBase_fc := fun G hG => ⟨⟨by kernel_rfl, fun (s : List UInt8) r h => by
  have h' : mBase_t s = some r := h
  unfold mBase_t at h'
  split at h'
  case isFalse => cases h'
  rename_i hc
  have hr : baseS s = r := Option.some.inj h'
  intro Pc w vs hg hlt hv
  obtain ⟨l⟩ := vs
  match l, hv with
  | [x], ⟨h1, _⟩ =>
    obtain rfl : x = .string (ba s) := of_val h1
    refine (mBase_calls s w (hG.im w hg) hc).mono ?_
    rintro e w' ⟨rfl, hb⟩
    subst hr
    exact pc_done rfl hb (drep_val (.string (ba (baseS s))))⟩, rfl⟩
def mNum_t (s : List UInt8) : Option (Int × Bool) := if s.length ≤ 1000000 then some (numOf (trimV s), fine (trimV s)) else none
def mNum_fc : FC := { f := 48, args := [strA], res := .tup [.c (.d (.int .i64)), .c (.d .bool)], F := fun p => mNum_t p }
theorem mNum_ok : FCall Inv Tryz.prog mNum_fc := fun G hG => ⟨⟨by kernel_rfl, fun (s : List UInt8) (r : Int × Bool) h => by
  have h' : mNum_t s = some r := h
  unfold mNum_t at h'
  split at h'
  case isFalse => cases h'
  rename_i hc
  have hr : (numOf (trimV s), fine (trimV s)) = r := Option.some.inj h'
  intro Pc w vs hg hlt hv
  obtain ⟨l⟩ := vs
  match l, hv with
  | [x], ⟨h1, _⟩ =>
    obtain rfl : x = .string (ba s) := of_val h1
    refine (mNum_calls s w (hG.im w hg) hc).mono ?_
    rintro e w' ⟨rfl, hb⟩
    subst hr
    refine ⟨_, Pc, rfl, hb, fun _ _ h => h, fun _ _ h => Or.inl h, ?_⟩
    exact ⟨#[.int .i64 (numOf (trimV s)), .bool (fine (trimV s))], rfl, drep_val (σ := noSt) (.int .i64 (numOf (trimV s))), drep_val (σ := noSt) (.bool (fine (trimV s))), trivial⟩⟩, rfl⟩
end YtgdlfnlakfahcaaGreatDoor.AM
end Go.Proofs

/- Layer 8, the rest: what functions come to, as plain functions of data: written by program (shal.py); the kernel checks it. -/
namespace Go.Proofs.YtgdlfnlakfahcaaGreatDoor.AM
open Go.RowKit
set_option linter.unusedVariables false
set_option maxRecDepth 20000
/-! armada/mpath.lastPart -/
def mLast_lts (n : Nat) : List LC := []
def mLast_t (n : Nat) (a1 : List UInt8) : Option (List UInt8) :=
  (LastB_t n a1 (47 : Int)).bind fun (r1 : Int) => letO (IntKind.wrap .i64 (r1 + (1 : Int))) fun (n2 : Int) => (subO a1 n2 ((List.length a1 : Nat) : Int)).bind fun (s3 : List UInt8) => some s3
def mLast_fc (n : Nat) : FC := { f := 44, args := [.one (.c (.d .str))], res := .one (.c (.d .str)), F := fun p => mLast_t n p }
def mLast_ct (n : Nat) : List FC := [LastB_fc n]
theorem mLast_ctok (n : Nat) {G : World → Prop} (hG : Know Inv G) : ∀ c ∈ mLast_ct n, FCok Tryz.prog G c ∧ noTup c.args = true := List.forall_mem_cons.2 ⟨LastB_ok n G hG, (fun _ h => by cases h)⟩
def mLast_dh : Hints := []
theorem mLast_dr : drB mLast_dh (bodyOf Tryz.f44) = true := by kernel_rfl
theorem mLast_eq (n : Nat) : ∀ a, (mLast_fc n).F a = main Tryz.prog 8 (mLast_ct n) (mLast_lts n) mLast_dh (bodyOf Tryz.f44) [.tmp 2] (mLast_fc n).args (mLast_fc n).res a := by intro a; kernel_rfl
theorem mLast_ok (n : Nat) : FCall Inv Tryz.prog (mLast_fc n) := fun G hG => ⟨⟨by kernel_rfl, fun a r h => main_ok (c := bodyOf Tryz.f44) Tryz.func44 (by kernel_rfl) (by kernel_rfl) (Nat.le_of_ble_eq_true (by kernel_rfl)) hG.st (by kernel_rfl) (rs := [.tmp 2]) (by kernel_rfl) (mLast_ctok n hG) (lts := mLast_lts n) (fun F hF hFG => have hK : Know Inv F.G := hFG ▸ hG; (lok_of fun j L h1 h2 h3 => absurd h2 (Nat.not_lt.2 (Nat.le_trans (by decide +kernel) h1)))) mLast_dr ((mLast_eq n a).symm.trans h)⟩, rfl⟩
/-! armada/mpath.Major -/
def mMajor_lts (n : Nat) : List LC := []
def mMajor_t (n : Nat) (a1 : List UInt8) : Option ((List UInt8) × (Int × (Bool))) :=
  (mBase_t a1).bind fun (r1 : List UInt8) => (mLast_t n a1).bind fun (r2 : List UInt8) => (fPath_t a1).bind fun (r3 : Bool) => (bif !r3 then (bif !r3 then some (([] : List UInt8), ((0 : Int), false)) else (mTells_t n r2).bind fun (r4 : Bool) => (bif !r4 then some (a1, ((0 : Int), true)) else (mNum_t r2).bind fun (r5 : Int × (Bool)) => (bif !r5.2 then some (([] : List UInt8), ((0 : Int), false)) else (bif decide (r1 = ([] : List UInt8)) then some (([] : List UInt8), ((0 : Int), false)) else some (r1, (r5.1, true)))))) else (mAny_t r1).bind fun (r6 : Bool) => (bif r6 then some (([] : List UInt8), ((0 : Int), false)) else (mTells_t n r2).bind fun (r7 : Bool) => (bif !r7 then some (a1, ((0 : Int), true)) else (mNum_t r2).bind fun (r8 : Int × (Bool)) => (bif !r8.2 then some (([] : List UInt8), ((0 : Int), false)) else (bif decide (r1 = ([] : List UInt8)) then some (([] : List UInt8), ((0 : Int), false)) else some (r1, (r8.1, true)))))))
def mMajor_fc (n : Nat) : FC := { f := 34, args := [.one (.c (.d .str))], res := .tup [.c (.d .str), .c (.d (.int .i64)), .c (.d .bool)], F := fun p => mMajor_t n p }
def mMajor_ct (n : Nat) : List FC := [mBase_fc, mLast_fc n, fPath_fc, mTells_fc n, mNum_fc, mAny_fc]
theorem mMajor_ctok (n : Nat) {G : World → Prop} (hG : Know Inv G) : ∀ c ∈ mMajor_ct n, FCok Tryz.prog G c ∧ noTup c.args = true := List.forall_mem_cons.2 ⟨mBase_ok G hG, List.forall_mem_cons.2 ⟨mLast_ok n G hG, List.forall_mem_cons.2 ⟨fPath_ok G hG, List.forall_mem_cons.2 ⟨mTells_ok n G hG, List.forall_mem_cons.2 ⟨mNum_ok G hG, List.forall_mem_cons.2 ⟨mAny_ok G hG, (fun _ h => by cases h)⟩⟩⟩⟩⟩⟩
def mMajor_dh : Hints := []
theorem mMajor_dr : drB mMajor_dh (bodyOf Tryz.f34) = true := by kernel_rfl
theorem mMajor_eq (n : Nat) : ∀ a, (mMajor_fc n).F a = main Tryz.prog 37 (mMajor_ct n) (mMajor_lts n) mMajor_dh (bodyOf Tryz.f34) [.tmp 2, .tmp 3, .tmp 4] (mMajor_fc n).args (mMajor_fc n).res a := by intro a; kernel_rfl
theorem mMajor_ok (n : Nat) : FCall Inv Tryz.prog (mMajor_fc n) := fun G hG => ⟨⟨by kernel_rfl, fun a r h => main_ok (c := bodyOf Tryz.f34) Tryz.func34 (by kernel_rfl) (by kernel_rfl) (Nat.le_of_ble_eq_true (by kernel_rfl)) hG.st (by kernel_rfl) (rs := [.tmp 2, .tmp 3, .tmp 4]) (by kernel_rfl) (mMajor_ctok n hG) (lts := mMajor_lts n) (fun F hF hFG => have hK : Know Inv F.G := hFG ▸ hG; (lok_of fun j L h1 h2 h3 => absurd h2 (Nat.not_lt.2 (Nat.le_trans (by decide +kernel) h1)))) mMajor_dr ((mMajor_eq n a).symm.trans h)⟩, rfl⟩
/-! armada/mpath.Check -/
def mCheck_lts (n : Nat) : List LC := []
def mCheck_t (n : Nat) (a1 : List UInt8) : Option (Bool) :=
  (mMajor_t n a1).bind fun (r1 : (List UInt8) × (Int × (Bool))) => some r1.2.2
def mCheck_fc (n : Nat) : FC := { f := 23, args := [.one (.c (.d .str))], res := .one (.c (.d .bool)), F := fun p => mCheck_t n p }
def mCheck_ct (n : Nat) : List FC := [mMajor_fc n]
theorem mCheck_ctok (n : Nat) {G : World → Prop} (hG : Know Inv G) : ∀ c ∈ mCheck_ct n, FCok Tryz.prog G c ∧ noTup c.args = true := List.forall_mem_cons.2 ⟨mMajor_ok n G hG, (fun _ h => by cases h)⟩
def mCheck_dh : Hints := []
theorem mCheck_dr : drB mCheck_dh (bodyOf Tryz.f23) = true := by kernel_rfl
theorem mCheck_eq (n : Nat) : ∀ a, (mCheck_fc n).F a = main Tryz.prog 13 (mCheck_ct n) (mCheck_lts n) mCheck_dh (bodyOf Tryz.f23) [.tmp 2] (mCheck_fc n).args (mCheck_fc n).res a := by intro a; kernel_rfl
theorem mCheck_ok (n : Nat) : FCall Inv Tryz.prog (mCheck_fc n) := fun G hG => ⟨⟨by kernel_rfl, fun a r h => main_ok (c := bodyOf Tryz.f23) Tryz.func23 (by kernel_rfl) (by kernel_rfl) (Nat.le_of_ble_eq_true (by kernel_rfl)) hG.st (by kernel_rfl) (rs := [.tmp 2]) (by kernel_rfl) (mCheck_ctok n hG) (lts := mCheck_lts n) (fun F hF hFG => have hK : Know Inv F.G := hFG ▸ hG; (lok_of fun j L h1 h2 h3 => absurd h2 (Nat.not_lt.2 (Nat.le_trans (by decide +kernel) h1)))) mCheck_dr ((mCheck_eq n a).symm.trans h)⟩, rfl⟩


/-! armada/armadaref05.part -/
@[reducible] def rPart5_sh0 : SSt := ⟨[(0, .one (.c (.d .str))), (3, .one (.c (.d (.int .i64))))], [], []⟩
@[reducible] def rPart5_outs0 : List (Exit × SSt) := [(.ret, ⟨[(2, .one (.c (.d .bool)))], [], []⟩), (.exit 0, ⟨[(0, .one (.c (.d .str)))], [], []⟩)]
def rPart5_l0 (n : Nat) (rec : (List UInt8) → Int → Option (((Bool × (Unit)) × (Unit) × (Unit)) ⊕ (((List UInt8) × (Unit)) × (Unit) × (Unit)))) (a1 : List UInt8) (a2 : Int) : Option (((Bool × (Unit)) × (Unit) × (Unit)) ⊕ (((List UInt8) × (Unit)) × (Unit) × (Unit))) :=
  (bif decide (a2 < ((List.length a1 : Nat) : Int)) then (sAt a1 a2).bind fun (c1 : Int) => (bif decide ((97 : Int) ≤ c1) then (bif decide (c1 ≤ (122 : Int)) then letO (IntKind.wrap .i64 (a2 + (1 : Int))) fun (n2 : Int) => rec a1 n2 else (bif decide ((65 : Int) ≤ c1) then (bif decide (c1 ≤ (90 : Int)) then letO (IntKind.wrap .i64 (a2 + (1 : Int))) fun (n3 : Int) => rec a1 n3 else (bif decide ((48 : Int) ≤ c1) then (bif !(decide (c1 ≤ (57 : Int))) then (bif !decide (c1 = (45 : Int)) then (bif !decide (c1 = (95 : Int)) then (bif !decide (c1 = (46 : Int)) then some (Sum.inl ((false, ()), ((), ()))) else letO (IntKind.wrap .i64 (a2 + (1 : Int))) fun (n4 : Int) => rec a1 n4) else letO (IntKind.wrap .i64 (a2 + (1 : Int))) fun (n5 : Int) => rec a1 n5) else letO (IntKind.wrap .i64 (a2 + (1 : Int))) fun (n6 : Int) => rec a1 n6) else letO (IntKind.wrap .i64 (a2 + (1 : Int))) fun (n7 : Int) => rec a1 n7) else (bif !decide (c1 = (45 : Int)) then (bif !decide (c1 = (95 : Int)) then (bif !decide (c1 = (46 : Int)) then some (Sum.inl ((false, ()), ((), ()))) else letO (IntKind.wrap .i64 (a2 + (1 : Int))) fun (n8 : Int) => rec a1 n8) else letO (IntKind.wrap .i64 (a2 + (1 : Int))) fun (n9 : Int) => rec a1 n9) else letO (IntKind.wrap .i64 (a2 + (1 : Int))) fun (n10 : Int) => rec a1 n10))) else (bif decide ((48 : Int) ≤ c1) then (bif !(decide (c1 ≤ (57 : Int))) then (bif !decide (c1 = (45 : Int)) then (bif !decide (c1 = (95 : Int)) then (bif !decide (c1 = (46 : Int)) then some (Sum.inl ((false, ()), ((), ()))) else letO (IntKind.wrap .i64 (a2 + (1 : Int))) fun (n11 : Int) => rec a1 n11) else letO (IntKind.wrap .i64 (a2 + (1 : Int))) fun (n12 : Int) => rec a1 n12) else letO (IntKind.wrap .i64 (a2 + (1 : Int))) fun (n13 : Int) => rec a1 n13) else letO (IntKind.wrap .i64 (a2 + (1 : Int))) fun (n14 : Int) => rec a1 n14) else (bif !decide (c1 = (45 : Int)) then (bif !decide (c1 = (95 : Int)) then (bif !decide (c1 = (46 : Int)) then some (Sum.inl ((false, ()), ((), ()))) else letO (IntKind.wrap .i64 (a2 + (1 : Int))) fun (n15 : Int) => rec a1 n15) else letO (IntKind.wrap .i64 (a2 + (1 : Int))) fun (n16 : Int) => rec a1 n16) else letO (IntKind.wrap .i64 (a2 + (1 : Int))) fun (n17 : Int) => rec a1 n17)))) else (bif decide ((65 : Int) ≤ c1) then (bif decide (c1 ≤ (90 : Int)) then letO (IntKind.wrap .i64 (a2 + (1 : Int))) fun (n18 : Int) => rec a1 n18 else (bif decide ((48 : Int) ≤ c1) then (bif !(decide (c1 ≤ (57 : Int))) then (bif !decide (c1 = (45 : Int)) then (bif !decide (c1 = (95 : Int)) then (bif !decide (c1 = (46 : Int)) then some (Sum.inl ((false, ()), ((), ()))) else letO (IntKind.wrap .i64 (a2 + (1 : Int))) fun (n19 : Int) => rec a1 n19) else letO (IntKind.wrap .i64 (a2 + (1 : Int))) fun (n20 : Int) => rec a1 n20) else letO (IntKind.wrap .i64 (a2 + (1 : Int))) fun (n21 : Int) => rec a1 n21) else letO (IntKind.wrap .i64 (a2 + (1 : Int))) fun (n22 : Int) => rec a1 n22) else (bif !decide (c1 = (45 : Int)) then (bif !decide (c1 = (95 : Int)) then (bif !decide (c1 = (46 : Int)) then some (Sum.inl ((false, ()), ((), ()))) else letO (IntKind.wrap .i64 (a2 + (1 : Int))) fun (n23 : Int) => rec a1 n23) else letO (IntKind.wrap .i64 (a2 + (1 : Int))) fun (n24 : Int) => rec a1 n24) else letO (IntKind.wrap .i64 (a2 + (1 : Int))) fun (n25 : Int) => rec a1 n25))) else (bif decide ((48 : Int) ≤ c1) then (bif !(decide (c1 ≤ (57 : Int))) then (bif !decide (c1 = (45 : Int)) then (bif !decide (c1 = (95 : Int)) then (bif !decide (c1 = (46 : Int)) then some (Sum.inl ((false, ()), ((), ()))) else letO (IntKind.wrap .i64 (a2 + (1 : Int))) fun (n26 : Int) => rec a1 n26) else letO (IntKind.wrap .i64 (a2 + (1 : Int))) fun (n27 : Int) => rec a1 n27) else letO (IntKind.wrap .i64 (a2 + (1 : Int))) fun (n28 : Int) => rec a1 n28) else letO (IntKind.wrap .i64 (a2 + (1 : Int))) fun (n29 : Int) => rec a1 n29) else (bif !decide (c1 = (45 : Int)) then (bif !decide (c1 = (95 : Int)) then (bif !decide (c1 = (46 : Int)) then some (Sum.inl ((false, ()), ((), ()))) else letO (IntKind.wrap .i64 (a2 + (1 : Int))) fun (n30 : Int) => rec a1 n30) else letO (IntKind.wrap .i64 (a2 + (1 : Int))) fun (n31 : Int) => rec a1 n31) else letO (IntKind.wrap .i64 (a2 + (1 : Int))) fun (n32 : Int) => rec a1 n32)))) else some (Sum.inr (((a1, ()), ((), ())))))
def rPart5_F0 (n : Nat) (rec : pSt rPart5_sh0 → Option (pOuts rPart5_outs0)) (p : pSt rPart5_sh0) : Option (pOuts rPart5_outs0) := rPart5_l0 n (fun a1 a2 => rec ((a1, (a2, ())), ((), ()))) p.1.1 p.1.2.1
def rPart5_loop0 (n m : Nat) (a1 : List UInt8) (a2 : Int) : Option (((Bool × (Unit)) × (Unit) × (Unit)) ⊕ (((List UInt8) × (Unit)) × (Unit) × (Unit))) := iterF (rPart5_F0 n) m ((a1, (a2, ())), ((), ()))
theorem rPart5_loop0_succ (n m : Nat) (a1 : List UInt8) (a2 : Int) : rPart5_loop0 n (m + 1) a1 a2 = rPart5_l0 n (fun a1 a2 => rPart5_loop0 n m a1 a2) a1 a2 := rfl
def rPart5_L0 (n : Nat) : LC := { sh := rPart5_sh0, outs := rPart5_outs0, F := iterF (rPart5_F0 n) n }
def rPart5_lts (n : Nat) : List LC := [rPart5_L0 n]
def rPart5_t (n : Nat) (a1 : List UInt8) : Option (Bool) :=
  (rPart5_loop0 n n a1 (0 : Int)).bind fun (o33 : ((Bool × (Unit)) × (Unit) × (Unit)) ⊕ (((List UInt8) × (Unit)) × (Unit) × (Unit))) => Sum.elim (fun (q34 : (Bool × (Unit)) × (Unit) × (Unit)) => some q34.1.1) (fun (q35 : ((List UInt8) × (Unit)) × (Unit) × (Unit)) => (bif !decide (q35.1.1 = ([] : List UInt8)) then (bif !decide (q35.1.1 = ([46] : List UInt8)) then some (!decide (q35.1.1 = ([46, 46] : List UInt8))) else some false) else some false)) o33
def rPart5_fc (n : Nat) : FC := { f := 49, args := [.one (.c (.d .str))], res := .one (.c (.d .bool)), F := fun p => rPart5_t n p }
def rPart5_ct (n : Nat) : List FC := []
theorem rPart5_ctok (n : Nat) {G : World → Prop} (hG : Know Inv G) : ∀ c ∈ rPart5_ct n, FCok Tryz.prog G c ∧ noTup c.args = true := (fun _ h => by cases h)
def rPart5_dh : Hints := []
theorem rPart5_dr : drB rPart5_dh (bodyOf Tryz.f49) = true := by kernel_rfl
theorem rPart5_eq0 (n : Nat) : ∀ rec p, rPart5_F0 n rec p = round Tryz.prog 61 (rPart5_ct n) (rPart5_lts n) rPart5_dh 1 rPart5_sh0 rPart5_outs0 (bodyAt 0 0 (bodyOf Tryz.f49)) rec p := by intro rec p; kernel_rfl
theorem rPart5_lok0 (n : Nat) {F : Fr} (hF : F.n = 61) (hK : Know Inv F.G) : LCok Tryz.prog F (rPart5_L0 n) (bodyAt 0 0 (bodyOf Tryz.f49)) :=
  loop_ok hF (by kernel_rfl) (rPart5_ctok n hK) (rPart5_eq0 n) (fuel := n) (fun _ => rfl) (lok_of fun j L h1 h2 h3 => absurd h2 (Nat.not_lt.2 (Nat.le_trans (by decide +kernel) h1))) (drB_at rPart5_dr)
theorem rPart5_eq (n : Nat) : ∀ a, (rPart5_fc n).F a = main Tryz.prog 61 (rPart5_ct n) (rPart5_lts n) rPart5_dh (bodyOf Tryz.f49) [.tmp 2] (rPart5_fc n).args (rPart5_fc n).res a := by intro a; kernel_rfl
theorem rPart5_ok (n : Nat) : FCall Inv Tryz.prog (rPart5_fc n) := fun G hG => ⟨⟨by kernel_rfl, fun a r h => main_ok (c := bodyOf Tryz.f49) Tryz.func49 (by kernel_rfl) (by kernel_rfl) (Nat.le_of_ble_eq_true (by kernel_rfl)) hG.st (by kernel_rfl) (rs := [.tmp 2]) (by kernel_rfl) (rPart5_ctok n hG) (lts := rPart5_lts n) (fun F hF hFG => have hK : Know Inv F.G := hFG ▸ hG; (lok_of (c := (bodyOf Tryz.f49)) (fun j L h1 h2 h3 => by
    have h2' : j < 1 := Nat.lt_of_lt_of_le h2 (by decide +kernel)
    match j, h1, h2', h3 with
    | 0, _, _, h3 => obtain rfl := Option.some.inj h3; exact (show bodyAt 0 0 (bodyOf Tryz.f49) = bodyAt 0 0 (bodyOf Tryz.f49) by kernel_rfl) ▸ rPart5_lok0 n hF hK
    | j + 1, _, h2', _ => exact absurd h2' (by omega)))) rPart5_dr ((rPart5_eq n a).symm.trans h)⟩, rfl⟩
/-! armada/armadaref05.Path -/
@[reducible] def rPath5_sh0 : SSt := ⟨[(3, .one (.c (.d (.lst .str)))), (4, .one (.c (.d (.int .i64))))], [], []⟩
@[reducible] def rPath5_outs0 : List (Exit × SSt) := [(.ret, ⟨[(2, .one (.c (.d .bool)))], [], []⟩), (.exit 0, ⟨[], [], []⟩)]
def rPath5_l0 (n : Nat) (rec : (List (List UInt8)) → Int → Option (((Bool × (Unit)) × (Unit) × (Unit)) ⊕ ((Unit) × (Unit) × (Unit)))) (a1 : List (List UInt8)) (a2 : Int) : Option (((Bool × (Unit)) × (Unit) × (Unit)) ⊕ ((Unit) × (Unit) × (Unit))) :=
  (bif decide (a2 < ((List.length a1 : Nat) : Int)) then (idxL a1 a2).bind fun (x2 : List UInt8) => (rPart5_t n x2).bind fun (r3 : Bool) => (bif !r3 then some (Sum.inl ((false, ()), ((), ()))) else letO (IntKind.wrap .i64 (a2 + (1 : Int))) fun (n4 : Int) => rec a1 n4) else some (Sum.inr (((), ((), ())))))
def rPath5_F0 (n : Nat) (rec : pSt rPath5_sh0 → Option (pOuts rPath5_outs0)) (p : pSt rPath5_sh0) : Option (pOuts rPath5_outs0) := rPath5_l0 n (fun a1 a2 => rec ((a1, (a2, ())), ((), ()))) p.1.1 p.1.2.1
def rPath5_loop0 (n m : Nat) (a1 : List (List UInt8)) (a2 : Int) : Option (((Bool × (Unit)) × (Unit) × (Unit)) ⊕ ((Unit) × (Unit) × (Unit))) := iterF (rPath5_F0 n) m ((a1, (a2, ())), ((), ()))
theorem rPath5_loop0_succ (n m : Nat) (a1 : List (List UInt8)) (a2 : Int) : rPath5_loop0 n (m + 1) a1 a2 = rPath5_l0 n (fun a1 a2 => rPath5_loop0 n m a1 a2) a1 a2 := rfl
def rPath5_L0 (n : Nat) : LC := { sh := rPath5_sh0, outs := rPath5_outs0, F := iterF (rPath5_F0 n) n }
def rPath5_lts (n : Nat) : List LC := [rPath5_L0 n]
def rPath5_t (n : Nat) (a1 : List UInt8) : Option (Bool) :=
  (bif decide ((60 : Int) < ((List.length a1 : Nat) : Int)) then some false else (rSplit5_t n a1 (47 : Int)).bind fun (r1 : List (List UInt8)) => (rPath5_loop0 n n r1 (0 : Int)).bind fun (o5 : ((Bool × (Unit)) × (Unit) × (Unit)) ⊕ ((Unit) × (Unit) × (Unit))) => Sum.elim (fun (q6 : (Bool × (Unit)) × (Unit) × (Unit)) => some q6.1.1) (fun (q7 : (Unit) × (Unit) × (Unit)) => some true) o5)
def rPath5_fc (n : Nat) : FC := { f := 36, args := [.one (.c (.d .str))], res := .one (.c (.d .bool)), F := fun p => rPath5_t n p }
def rPath5_ct (n : Nat) : List FC := [rSplit5_fc n, rPart5_fc n]
theorem rPath5_ctok (n : Nat) {G : World → Prop} (hG : Know Inv G) : ∀ c ∈ rPath5_ct n, FCok Tryz.prog G c ∧ noTup c.args = true := List.forall_mem_cons.2 ⟨rSplit5_ok n G hG, List.forall_mem_cons.2 ⟨rPart5_ok n G hG, (fun _ h => by cases h)⟩⟩
def rPath5_dh : Hints := []
theorem rPath5_dr : drB rPath5_dh (bodyOf Tryz.f36) = true := by kernel_rfl
theorem rPath5_eq0 (n : Nat) : ∀ rec p, rPath5_F0 n rec p = round Tryz.prog 22 (rPath5_ct n) (rPath5_lts n) rPath5_dh 1 rPath5_sh0 rPath5_outs0 (bodyAt 0 0 (bodyOf Tryz.f36)) rec p := by intro rec p; kernel_rfl
theorem rPath5_lok0 (n : Nat) {F : Fr} (hF : F.n = 22) (hK : Know Inv F.G) : LCok Tryz.prog F (rPath5_L0 n) (bodyAt 0 0 (bodyOf Tryz.f36)) :=
  loop_ok hF (by kernel_rfl) (rPath5_ctok n hK) (rPath5_eq0 n) (fuel := n) (fun _ => rfl) (lok_of fun j L h1 h2 h3 => absurd h2 (Nat.not_lt.2 (Nat.le_trans (by decide +kernel) h1))) (drB_at rPath5_dr)
theorem rPath5_eq (n : Nat) : ∀ a, (rPath5_fc n).F a = main Tryz.prog 22 (rPath5_ct n) (rPath5_lts n) rPath5_dh (bodyOf Tryz.f36) [.tmp 2] (rPath5_fc n).args (rPath5_fc n).res a := by intro a; kernel_rfl
theorem rPath5_ok (n : Nat) : FCall Inv Tryz.prog (rPath5_fc n) := fun G hG => ⟨⟨by kernel_rfl, fun a r h => main_ok (c := bodyOf Tryz.f36) Tryz.func36 (by kernel_rfl) (by kernel_rfl) (Nat.le_of_ble_eq_true (by kernel_rfl)) hG.st (by kernel_rfl) (rs := [.tmp 2]) (by kernel_rfl) (rPath5_ctok n hG) (lts := rPath5_lts n) (fun F hF hFG => have hK : Know Inv F.G := hFG ▸ hG; (lok_of (c := (bodyOf Tryz.f36)) (fun j L h1 h2 h3 => by
    have h2' : j < 1 := Nat.lt_of_lt_of_le h2 (by decide +kernel)
    match j, h1, h2', h3 with
    | 0, _, _, h3 => obtain rfl := Option.some.inj h3; exact (show bodyAt 0 0 (bodyOf Tryz.f36) = bodyAt 0 0 (bodyOf Tryz.f36) by kernel_rfl) ▸ rPath5_lok0 n hF hK
    | j + 1, _, h2', _ => exact absurd h2' (by omega)))) rPath5_dr ((rPath5_eq n a).symm.trans h)⟩, rfl⟩
/-! armada/armadaref08.tells -/
@[reducible] def r8Tells_sh0 : SSt := ⟨[(0, .one (.c (.d .str))), (3, .one (.c (.d (.int .i64))))], [], []⟩
@[reducible] def r8Tells_outs0 : List (Exit × SSt) := [(.ret, ⟨[(2, .one (.c (.d .bool)))], [], []⟩), (.exit 0, ⟨[(0, .one (.c (.d .str)))], [], []⟩)]
def r8Tells_l0 (n : Nat) (rec : (List UInt8) → Int → Option (((Bool × (Unit)) × (Unit) × (Unit)) ⊕ (((List UInt8) × (Unit)) × (Unit) × (Unit)))) (a1 : List UInt8) (a2 : Int) : Option (((Bool × (Unit)) × (Unit) × (Unit)) ⊕ (((List UInt8) × (Unit)) × (Unit) × (Unit))) :=
  (bif decide (a2 < ((List.length a1 : Nat) : Int)) then (sAt a1 a2).bind fun (c1 : Int) => (bif decide (c1 < (48 : Int)) then some (Sum.inl ((false, ()), ((), ()))) else (sAt a1 a2).bind fun (c2 : Int) => (bif decide ((57 : Int) < c2) then some (Sum.inl ((false, ()), ((), ()))) else letO (IntKind.wrap .i64 (a2 + (1 : Int))) fun (n3 : Int) => rec a1 n3)) else some (Sum.inr (((a1, ()), ((), ())))))
def r8Tells_F0 (n : Nat) (rec : pSt r8Tells_sh0 → Option (pOuts r8Tells_outs0)) (p : pSt r8Tells_sh0) : Option (pOuts r8Tells_outs0) := r8Tells_l0 n (fun a1 a2 => rec ((a1, (a2, ())), ((), ()))) p.1.1 p.1.2.1
def r8Tells_loop0 (n m : Nat) (a1 : List UInt8) (a2 : Int) : Option (((Bool × (Unit)) × (Unit) × (Unit)) ⊕ (((List UInt8) × (Unit)) × (Unit) × (Unit))) := iterF (r8Tells_F0 n) m ((a1, (a2, ())), ((), ()))
theorem r8Tells_loop0_succ (n m : Nat) (a1 : List UInt8) (a2 : Int) : r8Tells_loop0 n (m + 1) a1 a2 = r8Tells_l0 n (fun a1 a2 => r8Tells_loop0 n m a1 a2) a1 a2 := rfl
def r8Tells_L0 (n : Nat) : LC := { sh := r8Tells_sh0, outs := r8Tells_outs0, F := iterF (r8Tells_F0 n) n }
def r8Tells_lts (n : Nat) : List LC := [r8Tells_L0 n]
def r8Tells_t (n : Nat) (a1 : List UInt8) : Option (Bool) :=
  (r8Tells_loop0 n n a1 (1 : Int)).bind fun (o4 : ((Bool × (Unit)) × (Unit) × (Unit)) ⊕ (((List UInt8) × (Unit)) × (Unit) × (Unit))) => Sum.elim (fun (q5 : (Bool × (Unit)) × (Unit) × (Unit)) => some q5.1.1) (fun (q6 : ((List UInt8) × (Unit)) × (Unit) × (Unit)) => (bif decide ((1 : Int) < ((List.length q6.1.1 : Nat) : Int)) then (sAt q6.1.1 (0 : Int)).bind fun (c7 : Int) => some (decide (c7 = (118 : Int))) else some false)) o4
def r8Tells_fc (n : Nat) : FC := { f := 38, args := [.one (.c (.d .str))], res := .one (.c (.d .bool)), F := fun p => r8Tells_t n p }
def r8Tells_ct (n : Nat) : List FC := []
theorem r8Tells_ctok (n : Nat) {G : World → Prop} (hG : Know Inv G) : ∀ c ∈ r8Tells_ct n, FCok Tryz.prog G c ∧ noTup c.args = true := (fun _ h => by cases h)
def r8Tells_dh : Hints := []
theorem r8Tells_dr : drB r8Tells_dh (bodyOf Tryz.f38) = true := by kernel_rfl
theorem r8Tells_eq0 (n : Nat) : ∀ rec p, r8Tells_F0 n rec p = round Tryz.prog 28 (r8Tells_ct n) (r8Tells_lts n) r8Tells_dh 1 r8Tells_sh0 r8Tells_outs0 (bodyAt 0 0 (bodyOf Tryz.f38)) rec p := by intro rec p; kernel_rfl
theorem r8Tells_lok0 (n : Nat) {F : Fr} (hF : F.n = 28) (hK : Know Inv F.G) : LCok Tryz.prog F (r8Tells_L0 n) (bodyAt 0 0 (bodyOf Tryz.f38)) :=
  loop_ok hF (by kernel_rfl) (r8Tells_ctok n hK) (r8Tells_eq0 n) (fuel := n) (fun _ => rfl) (lok_of fun j L h1 h2 h3 => absurd h2 (Nat.not_lt.2 (Nat.le_trans (by decide +kernel) h1))) (drB_at r8Tells_dr)
theorem r8Tells_eq (n : Nat) : ∀ a, (r8Tells_fc n).F a = main Tryz.prog 28 (r8Tells_ct n) (r8Tells_lts n) r8Tells_dh (bodyOf Tryz.f38) [.tmp 2] (r8Tells_fc n).args (r8Tells_fc n).res a := by intro a; kernel_rfl
theorem r8Tells_ok (n : Nat) : FCall Inv Tryz.prog (r8Tells_fc n) := fun G hG => ⟨⟨by kernel_rfl, fun a r h => main_ok (c := bodyOf Tryz.f38) Tryz.func38 (by kernel_rfl) (by kernel_rfl) (Nat.le_of_ble_eq_true (by kernel_rfl)) hG.st (by kernel_rfl) (rs := [.tmp 2]) (by kernel_rfl) (r8Tells_ctok n hG) (lts := r8Tells_lts n) (fun F hF hFG => have hK : Know Inv F.G := hFG ▸ hG; (lok_of (c := (bodyOf Tryz.f38)) (fun j L h1 h2 h3 => by
    have h2' : j < 1 := Nat.lt_of_lt_of_le h2 (by decide +kernel)
    match j, h1, h2', h3 with
    | 0, _, _, h3 => obtain rfl := Option.some.inj h3; exact (show bodyAt 0 0 (bodyOf Tryz.f38) = bodyAt 0 0 (bodyOf Tryz.f38) by kernel_rfl) ▸ r8Tells_lok0 n hF hK
    | j + 1, _, h2', _ => exact absurd h2' (by omega)))) r8Tells_dr ((r8Tells_eq n a).symm.trans h)⟩, rfl⟩
/-! armada/armadaref08.number -/
@[reducible] def r8Number_sh0 : SSt := ⟨[(0, .one (.c (.d .str))), (3, .one (.c (.d (.int .i64)))), (4, .one (.c (.d (.int .i64))))], [], []⟩
@[reducible] def r8Number_outs0 : List (Exit × SSt) := [(.exit 0, ⟨[(3, .one (.c (.d (.int .i64))))], [], []⟩)]
def r8Number_l0 (n : Nat) (rec : (List UInt8) → Int → Int → Option ((Int × (Unit)) × (Unit) × (Unit))) (a1 : List UInt8) (a2 : Int) (a3 : Int) : Option ((Int × (Unit)) × (Unit) × (Unit)) :=
  (bif decide (a3 < ((List.length a1 : Nat) : Int)) then letO (IntKind.wrap .i64 ((10 : Int) * a2)) fun (n2 : Int) => (sAt a1 a3).bind fun (c3 : Int) => letO (IntKind.wrap .i64 c3) fun (n4 : Int) => letO (IntKind.wrap .i64 (n2 + n4)) fun (n5 : Int) => letO (IntKind.wrap .i64 (n5 - (48 : Int))) fun (n6 : Int) => letO (IntKind.wrap .i64 (a3 + (1 : Int))) fun (n7 : Int) => rec a1 n6 n7 else some (((a2, ()), ((), ()))))
def r8Number_F0 (n : Nat) (rec : pSt r8Number_sh0 → Option (pOuts r8Number_outs0)) (p : pSt r8Number_sh0) : Option (pOuts r8Number_outs0) := r8Number_l0 n (fun a1 a2 a3 => rec ((a1, (a2, (a3, ()))), ((), ()))) p.1.1 p.1.2.1 p.1.2.2.1
def r8Number_loop0 (n m : Nat) (a1 : List UInt8) (a2 : Int) (a3 : Int) : Option ((Int × (Unit)) × (Unit) × (Unit)) := iterF (r8Number_F0 n) m ((a1, (a2, (a3, ()))), ((), ()))
theorem r8Number_loop0_succ (n m : Nat) (a1 : List UInt8) (a2 : Int) (a3 : Int) : r8Number_loop0 n (m + 1) a1 a2 a3 = r8Number_l0 n (fun a1 a2 a3 => r8Number_loop0 n m a1 a2 a3) a1 a2 a3 := rfl
def r8Number_L0 (n : Nat) : LC := { sh := r8Number_sh0, outs := r8Number_outs0, F := iterF (r8Number_F0 n) n }
def r8Number_lts (n : Nat) : List LC := [r8Number_L0 n]
def r8Number_t (n : Nat) (a1 : List UInt8) : Option (Int) :=
  (bif decide ((10 : Int) < ((List.length a1 : Nat) : Int)) then some (0 : Int) else (sAt a1 (1 : Int)).bind fun (c1 : Int) => (bif decide (c1 = (48 : Int)) then some (0 : Int) else (r8Number_loop0 n n a1 (0 : Int) (1 : Int)).bind fun (o8 : (Int × (Unit)) × (Unit) × (Unit)) => (bif decide (o8.1.1 < (2 : Int)) then some (0 : Int) else some o8.1.1)))
def r8Number_fc (n : Nat) : FC := { f := 39, args := [.one (.c (.d .str))], res := .one (.c (.d (.int .i64))), F := fun p => r8Number_t n p }
def r8Number_ct (n : Nat) : List FC := []
theorem r8Number_ctok (n : Nat) {G : World → Prop} (hG : Know Inv G) : ∀ c ∈ r8Number_ct n, FCok Tryz.prog G c ∧ noTup c.args = true := (fun _ h => by cases h)
def r8Number_dh : Hints := []
theorem r8Number_dr : drB r8Number_dh (bodyOf Tryz.f39) = true := by kernel_rfl
theorem r8Number_eq0 (n : Nat) : ∀ rec p, r8Number_F0 n rec p = round Tryz.prog 30 (r8Number_ct n) (r8Number_lts n) r8Number_dh 1 r8Number_sh0 r8Number_outs0 (bodyAt 0 0 (bodyOf Tryz.f39)) rec p := by intro rec p; kernel_rfl
theorem r8Number_lok0 (n : Nat) {F : Fr} (hF : F.n = 30) (hK : Know Inv F.G) : LCok Tryz.prog F (r8Number_L0 n) (bodyAt 0 0 (bodyOf Tryz.f39)) :=
  loop_ok hF (by kernel_rfl) (r8Number_ctok n hK) (r8Number_eq0 n) (fuel := n) (fun _ => rfl) (lok_of fun j L h1 h2 h3 => absurd h2 (Nat.not_lt.2 (Nat.le_trans (by decide +kernel) h1))) (drB_at r8Number_dr)
theorem r8Number_eq (n : Nat) : ∀ a, (r8Number_fc n).F a = main Tryz.prog 30 (r8Number_ct n) (r8Number_lts n) r8Number_dh (bodyOf Tryz.f39) [.tmp 2] (r8Number_fc n).args (r8Number_fc n).res a := by intro a; kernel_rfl
theorem r8Number_ok (n : Nat) : FCall Inv Tryz.prog (r8Number_fc n) := fun G hG => ⟨⟨by kernel_rfl, fun a r h => main_ok (c := bodyOf Tryz.f39) Tryz.func39 (by kernel_rfl) (by kernel_rfl) (Nat.le_of_ble_eq_true (by kernel_rfl)) hG.st (by kernel_rfl) (rs := [.tmp 2]) (by kernel_rfl) (r8Number_ctok n hG) (lts := r8Number_lts n) (fun F hF hFG => have hK : Know Inv F.G := hFG ▸ hG; (lok_of (c := (bodyOf Tryz.f39)) (fun j L h1 h2 h3 => by
    have h2' : j < 1 := Nat.lt_of_lt_of_le h2 (by decide +kernel)
    match j, h1, h2', h3 with
    | 0, _, _, h3 => obtain rfl := Option.some.inj h3; exact (show bodyAt 0 0 (bodyOf Tryz.f39) = bodyAt 0 0 (bodyOf Tryz.f39) by kernel_rfl) ▸ r8Number_lok0 n hF hK
    | j + 1, _, h2', _ => exact absurd h2' (by omega)))) r8Number_dr ((r8Number_eq n a).symm.trans h)⟩, rfl⟩
/-! armada/armadaref08.Check -/
@[reducible] def r8Check_sh0 : SSt := ⟨[(3, .one (.c (.d (.lst .str)))), (4, .one (.c (.d (.int .i64))))], [], []⟩
@[reducible] def r8Check_outs0 : List (Exit × SSt) := [(.ret, ⟨[(2, .one (.c (.d .bool)))], [], []⟩), (.exit 0, ⟨[], [], []⟩)]
def r8Check_l0 (n : Nat) (rec : (List (List UInt8)) → Int → Option (((Bool × (Unit)) × (Unit) × (Unit)) ⊕ ((Unit) × (Unit) × (Unit)))) (a1 : List (List UInt8)) (a2 : Int) : Option (((Bool × (Unit)) × (Unit) × (Unit)) ⊕ ((Unit) × (Unit) × (Unit))) :=
  (bif decide (a2 < ((List.length a1 : Nat) : Int)) then (idxL a1 a2).bind fun (x3 : List UInt8) => (r8Tells_t n x3).bind fun (r4 : Bool) => (bif r4 then letO (IntKind.wrap .i64 (((List.length a1 : Nat) : Int) - (1 : Int))) fun (n5 : Int) => (bif decide (a2 < n5) then some (Sum.inl ((false, ()), ((), ()))) else (bif decide (a2 = (0 : Int)) then some (Sum.inl ((false, ()), ((), ()))) else (idxL a1 a2).bind fun (x6 : List UInt8) => (r8Number_t n x6).bind fun (r7 : Int) => (bif decide (r7 = (0 : Int)) then some (Sum.inl ((false, ()), ((), ()))) else letO (IntKind.wrap .i64 (a2 + (1 : Int))) fun (n8 : Int) => rec a1 n8))) else letO (IntKind.wrap .i64 (a2 + (1 : Int))) fun (n9 : Int) => rec a1 n9) else some (Sum.inr (((), ((), ())))))
def r8Check_F0 (n : Nat) (rec : pSt r8Check_sh0 → Option (pOuts r8Check_outs0)) (p : pSt r8Check_sh0) : Option (pOuts r8Check_outs0) := r8Check_l0 n (fun a1 a2 => rec ((a1, (a2, ())), ((), ()))) p.1.1 p.1.2.1
def r8Check_loop0 (n m : Nat) (a1 : List (List UInt8)) (a2 : Int) : Option (((Bool × (Unit)) × (Unit) × (Unit)) ⊕ ((Unit) × (Unit) × (Unit))) := iterF (r8Check_F0 n) m ((a1, (a2, ())), ((), ()))
theorem r8Check_loop0_succ (n m : Nat) (a1 : List (List UInt8)) (a2 : Int) : r8Check_loop0 n (m + 1) a1 a2 = r8Check_l0 n (fun a1 a2 => r8Check_loop0 n m a1 a2) a1 a2 := rfl
def r8Check_L0 (n : Nat) : LC := { sh := r8Check_sh0, outs := r8Check_outs0, F := iterF (r8Check_F0 n) n }
def r8Check_lts (n : Nat) : List LC := [r8Check_L0 n]
def r8Check_t (n : Nat) (a1 : List UInt8) : Option (Bool) :=
  (rPath5_t n a1).bind fun (r1 : Bool) => (bif !r1 then some false else (rSplit5_t n a1 (47 : Int)).bind fun (r2 : List (List UInt8)) => (r8Check_loop0 n n r2 (0 : Int)).bind fun (o10 : ((Bool × (Unit)) × (Unit) × (Unit)) ⊕ ((Unit) × (Unit) × (Unit))) => Sum.elim (fun (q11 : (Bool × (Unit)) × (Unit) × (Unit)) => some q11.1.1) (fun (q12 : (Unit) × (Unit) × (Unit)) => some true) o10)
def r8Check_fc (n : Nat) : FC := { f := 26, args := [.one (.c (.d .str))], res := .one (.c (.d .bool)), F := fun p => r8Check_t n p }
def r8Check_ct (n : Nat) : List FC := [rPath5_fc n, rSplit5_fc n, r8Tells_fc n, r8Number_fc n]
theorem r8Check_ctok (n : Nat) {G : World → Prop} (hG : Know Inv G) : ∀ c ∈ r8Check_ct n, FCok Tryz.prog G c ∧ noTup c.args = true := List.forall_mem_cons.2 ⟨rPath5_ok n G hG, List.forall_mem_cons.2 ⟨rSplit5_ok n G hG, List.forall_mem_cons.2 ⟨r8Tells_ok n G hG, List.forall_mem_cons.2 ⟨r8Number_ok n G hG, (fun _ h => by cases h)⟩⟩⟩⟩
def r8Check_dh : Hints := []
theorem r8Check_dr : drB r8Check_dh (bodyOf Tryz.f26) = true := by kernel_rfl
theorem r8Check_eq0 (n : Nat) : ∀ rec p, r8Check_F0 n rec p = round Tryz.prog 40 (r8Check_ct n) (r8Check_lts n) r8Check_dh 1 r8Check_sh0 r8Check_outs0 (bodyAt 0 0 (bodyOf Tryz.f26)) rec p := by intro rec p; kernel_rfl
theorem r8Check_lok0 (n : Nat) {F : Fr} (hF : F.n = 40) (hK : Know Inv F.G) : LCok Tryz.prog F (r8Check_L0 n) (bodyAt 0 0 (bodyOf Tryz.f26)) :=
  loop_ok hF (by kernel_rfl) (r8Check_ctok n hK) (r8Check_eq0 n) (fuel := n) (fun _ => rfl) (lok_of fun j L h1 h2 h3 => absurd h2 (Nat.not_lt.2 (Nat.le_trans (by decide +kernel) h1))) (drB_at r8Check_dr)
theorem r8Check_eq (n : Nat) : ∀ a, (r8Check_fc n).F a = main Tryz.prog 40 (r8Check_ct n) (r8Check_lts n) r8Check_dh (bodyOf Tryz.f26) [.tmp 2] (r8Check_fc n).args (r8Check_fc n).res a := by intro a; kernel_rfl
theorem r8Check_ok (n : Nat) : FCall Inv Tryz.prog (r8Check_fc n) := fun G hG => ⟨⟨by kernel_rfl, fun a r h => main_ok (c := bodyOf Tryz.f26) Tryz.func26 (by kernel_rfl) (by kernel_rfl) (Nat.le_of_ble_eq_true (by kernel_rfl)) hG.st (by kernel_rfl) (rs := [.tmp 2]) (by kernel_rfl) (r8Check_ctok n hG) (lts := r8Check_lts n) (fun F hF hFG => have hK : Know Inv F.G := hFG ▸ hG; (lok_of (c := (bodyOf Tryz.f26)) (fun j L h1 h2 h3 => by
    have h2' : j < 1 := Nat.lt_of_lt_of_le h2 (by decide +kernel)
    match j, h1, h2', h3 with
    | 0, _, _, h3 => obtain rfl := Option.some.inj h3; exact (show bodyAt 0 0 (bodyOf Tryz.f26) = bodyAt 0 0 (bodyOf Tryz.f26) by kernel_rfl) ▸ r8Check_lok0 n hF hK
    | j + 1, _, h2', _ => exact absurd h2' (by omega)))) r8Check_dr ((r8Check_eq n a).symm.trans h)⟩, rfl⟩








end Go.Proofs.YtgdlfnlakfahcaaGreatDoor.AM
