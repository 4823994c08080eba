/- Layer 8: functions that range over the parts of a text, and those that lean on max and on errors: files.Path, mpath.anyTells, mpath.Base, mpath.number. -/
import Derived.Test.YtgihkohggalefabGreatDoorMpP1
namespace Go.Proofs
open Go.RowKit Go.Shelf Go.Lib
attribute [local go_sem] Oper.semAt_some
set_option linter.unusedVariables false
set_option linter.unusedSimpArgs false
namespace YtgihkohggalefabGreatDoor.AM
theorem four (w : World) (o0 o1 o2 o3 : Obj) : ∃ W, ((((w.alloc o0).alloc o1).alloc o2).alloc o3) = W ∧ W.heap.size = w.heap.size + 4 ∧ Below w.heap.size w W ∧ W.heap[w.heap.size]? = some o0 ∧ W.heap[w.heap.size + 1]? = some o1 ∧ W.heap[w.heap.size + 1 + 1]? = some o2 ∧ W.heap[w.heap.size + 1 + 2]? = some o3 := by
  have al : ∀ (w : World) (o : Obj) (k : Nat), k < w.heap.size → (w.alloc o).heap[k]? = w.heap[k]? := fun w o k h => Below.heap_alloc _ _ _ h
  refine ⟨_, rfl, by simp, ((((Below.refl _ w).alloc (Nat.le_refl _) _).alloc (by simp) _).alloc (by simp; omega) _).alloc (by simp; omega) _, ?_, ?_, ?_, ?_⟩
  · rw [al _ _ _ (by simp <;> omega), al _ _ _ (by simp <;> omega), al _ _ _ (by simp), World.alloc_heap_new]
  · rw [al _ _ _ (by simp <;> omega), al _ _ _ (by simp)]
    have := World.alloc_heap_new (w.alloc o0) o1
    rw [World.size_alloc] at this; exact this
  · rw [al _ _ _ (by simp)]
    have := World.alloc_heap_new ((w.alloc o0).alloc o1) o2
    rw [World.size_alloc, World.size_alloc] at this; exact this
  · have := World.alloc_heap_new (((w.alloc o0).alloc o1).alloc o2) o3
    rw [World.size_alloc, World.size_alloc, World.size_alloc] at this; exact this
structure RngY (pR : Nat) (w0 : World) (pred : List UInt8 → Bool) (pre : List (List UInt8)) (W : World) : Prop where
  res : W.cell? ⟨pR, 0, none⟩ = some (.bool true)
  below : Below w0.heap.size w0 W
  no : pre.all pred = false
theorem rngY_own {pR : Nat} {w0 : World} {pred : List UInt8 → Bool} {B : Nat} (hB : w0.heap.size ≤ B) : OwnFrom B (RngY pR w0 pred) := fun s W W' row h hg hr =>
  ⟨own_cell h.res hg hr, h.below.grown hg h.below.size (fun k e => Nat.le_trans hB (hr k e).1), h.no⟩
theorem all_stop {pred : List UInt8 → Bool} {s x : List UInt8} {pre t : List (List UInt8)} (hsp : spl 47 [] s = pre ++ x :: t) (hn : (pre ++ [x]).all pred = false) : (spl 47 [] s).all pred = false := by
  rw [List.all_append, Bool.and_eq_false_iff] at hn
  rw [hsp, List.all_append, Bool.and_eq_false_iff]
  rcases hn with hn | hn
  · exact Or.inl hn
  · refine Or.inr ?_
    simp only [List.all_cons, List.all_nil, Bool.and_true] at hn
    rw [List.all_cons, hn]; rfl
theorem part_one (x : List UInt8) (w : World) (hI : Inv w) (hx : x.length ≤ 1000000) : Calls Tryz.prog 28 #[.string (ba x)] w fun e w' => e = .returned (.bool (partS x)) ∧ Below w.heap.size w w' := by
  have h := (fPart_ok 1000001 Inv know_inv).1.2 x (partS x) (fPart_spec 1000001 x (by omega) (by omega))
  refine (h (fun _ _ => False) w #[.string (ba x)] hI (fun b o h => h.elim) ⟨drep_val _, trivial⟩).mono ?_
  rintro e w' ⟨v, Pc, rfl, hb, _, _, hv⟩
  have hv' : v = .bool (partS x) := of_val hv
  rw [hv']
  exact ⟨rfl, hb⟩
theorem tells_one (x : List UInt8) (w : World) (hI : Inv w) (hx : x.length ≤ 1000000) : Calls Tryz.prog 16 #[.string (ba x)] w fun e w' => e = .returned (.bool (tellsS x)) ∧ Below w.heap.size w w' := by
  have h := (mTells_ok 1000001 Inv know_inv).1.2 x (tellsS x) (mTells_spec 1000001 x (by omega))
  refine (h (fun _ _ => False) w #[.string (ba x)] hI (fun b o h => h.elim) ⟨drep_val _, trivial⟩).mono ?_
  rintro e w' ⟨v, Pc, rfl, hb, _, _, hv⟩
  have hv' : v = .bool (tellsS x) := of_val hv
  rw [hv']
  exact ⟨rfl, hb⟩
set_option maxHeartbeats 2000000 in
theorem fPath_calls (s : List UInt8) (w : World) (hI : Inv w) : Calls Tryz.prog 14 #[.string (ba s)] w fun e w' => e = .returned (.bool (pathS s)) ∧ Below w.heap.size w w' := by
  refine (callsIn_wide (n := 9)).1 ?_
  refine callsIn_of_wp_marks Tryz.func14 rfl trivial ?_ rfl
  simp only [Tryz.ntmps14, List.size_toArray, List.length_cons, List.length_nil, Nat.reduceAdd, Nat.reduceSub, Array.replicate_succ, Array.replicate_zero, List.push_toArray, List.append_toArray, List.nil_append, List.cons_append]
  have hsz : (ba s).size = s.length := ba_len s
  by_cases h2 : s.length ≤ 60
  · skip
    gi_wp2_with (refine ⟨trivial, ?_⟩; gi_at_call 27; refine (callsIn_wide.2 (SplitSeq_calls _ _ _)).mono ?_; rintro e w' ⟨rfl, rfl⟩)
    obtain ⟨W0, hW0, hs0, hb0, g0, g1, g2, g3⟩ := four w (Obj.cells #[Value.bool false] 4) (Obj.cells #[Value.string (ba s)] 9) (Obj.cells #[Value.string { data := #[47] }] 9) (Obj.cells #[Value.int IntKind.i64 0] 3)
    rw [hW0]
    clear hW0
    obtain ⟨c1, f1⟩ := boxed_cell g0
    obtain ⟨c2, f2⟩ := boxed_cell g1
    obtain ⟨c3, f3⟩ := boxed_cell g2
    obtain ⟨c4, f4⟩ := boxed_cell g3
    refine range_split (n := 9) (by omega) 47 (w.heap.size + 1) (w.heap.size + 1 + 1) (w.heap.size + 1 + 2) s (by omega) rfl ⟨c2, f2⟩
      (Rng (.string (ba [47])) (w.heap.size + 1 + 1) w.heap.size (w.heap.size + 1 + 1) (w.heap.size + 1 + 2) 47 w partS) (RngX w.heap.size w partS) (rng_own (by omega)) (rngX_own (by omega))
      (fun pre W h => ⟨h.cP, h.cC, (hI.below h.below).maxLen⟩) (fun pre W v h => rng_set v h (by omega) (by omega) (by omega) (by omega) (by omega)) ⟨c3, c1, f1, c3, c4, hb0, rfl⟩
      (fun x => { tmps := #[.string (ba s), undef, .pointer (some ⟨w.heap.size, 0, none⟩), .string (ba x), .string (ba s), .int .i64 s.length, .bool (decide ((60 : Int) < s.length)), .string (ba s), .func (.func 60) #[] #[.pointer (some ⟨w.heap.size + 1 + 1, 0, none⟩), .pointer (some ⟨w.heap.size + 1, 0, none⟩), .pointer (some ⟨w.heap.size + 1 + 2, 0, none⟩)], .string (ba x), undef, undef, undef], defers := [] }) ?assign ?body ?done ?stop
    case assign =>
      intro l x W K hK
      gi_wp2
      exact hK
    case body =>
      intro l pre x r W hi hL hx
      have k1 := hi.res
      have k2 := hi.frz
      have hc := part_one x W (hI.below hi.below) (by omega)
      cases hpx : partS x with
      | true =>
        rw [hpx] at hc
        gi_wp2_with (refine ⟨trivial, ?_⟩; gi_at_call 28; refine (CallsIn.inRound l (callsIn_wide.2 hc)).mono ?_; rintro e w' ⟨rfl, hb'⟩)
        exact ⟨keeps_below hb', rng_below hi hb' (by simp [hpx]), left_below hL hb'⟩
      | false =>
        rw [hpx] at hc
        gi_wp2_with (refine ⟨trivial, ?_⟩; gi_at_call 28; refine (CallsIn.inRound l (callsIn_wide.2 hc)).mono ?_; rintro e w' ⟨rfl, hb'⟩; have k3 := below_cell hb' hi.res; have k4 := (below_frozen hb' hi.res).trans hi.frz)
        exact ⟨(keeps_below hb').trans (KeepsOthers.setCell _ _ _), World.cell?_setCell_same' _ _ _ (by rw [k3]; rfl), (hi.below.trans (hb'.mono hi.below.size)).setCell (by simp) _, by simp [hpx]⟩
    case done =>
      intro D W hD hi hK
      have k1 := hi.res
      have k2 := hi.frz
      gi_wp2
      have hK' := (KeepsOthers.setCell W ⟨w.heap.size, 0, none⟩ (.bool true)).same D _ hK rfl
      have hW' : Below w.heap.size w (W.setCell ⟨w.heap.size, 0, none⟩ (.bool true)) := hi.below.setCell (by simp) _
      have k5 : (W.setCell ⟨w.heap.size, 0, none⟩ (.bool true)).cell? ⟨w.heap.size, 0, none⟩ = some (.bool true) := World.cell?_setCell_same' _ _ _ (by rw [k1]; rfl)
      generalize W.setCell ⟨w.heap.size, 0, none⟩ (.bool true) = W2 at hK' hW' k5
      refine ⟨by simp, .inl ⟨_, _, rfl, run_takeDeferred hK', ?_⟩⟩
      have hg := grownBy_putObj' W2 D (.deferred none)
      refine ⟨_, ret_cell (b := w.heap.size) (v := .bool true) rfl rfl hag (cell_kept k5 hg (fun r e => by cases e; exact ⟨_, hK', rfl⟩)), ?_, ?_⟩
      · have ha := hi.all
        unfold pathS; simp [h2, ha]
      · exact hW'.grown hg hW'.size (fun k e => by cases e; omega)
    case stop =>
      intro D pre x t W hD hsp hi hK
      refine ⟨by simp, .inl ⟨_, _, rfl, run_takeDeferred hK, ?_⟩⟩
      have hg := grownBy_putObj' W D (.deferred none)
      refine ⟨_, ret_cell (b := w.heap.size) (v := .bool false) rfl rfl hag (cell_kept hi.res hg (fun r e => by cases e; exact ⟨_, hK, rfl⟩)), ?_, ?_⟩
      · have ha := all_stop hsp hi.no
        unfold pathS; simp [ha]
      · exact hi.below.grown hg hi.below.size (fun k e => by cases e; omega)
  · gi_wp2
    refine ⟨_, ret_cell (b := w.heap.size) (v := .bool false) rfl rfl hag (by simp), ?_, ?_⟩
    · unfold pathS; simp [h2]
    · exact (Below.refl _ w).alloc (Nat.le_refl _) _
set_option maxHeartbeats 2000000 in
theorem mAny_calls (s : List UInt8) (w : World) (hI : Inv w) (h2 : s.length ≤ 1000000) : Calls Tryz.prog 15 #[.string (ba s)] w fun e w' => e = .returned (.bool (anyS s)) ∧ Below w.heap.size w w' := by
  refine (callsIn_wide (n := 9)).1 ?_
  refine callsIn_of_wp_marks Tryz.func15 rfl trivial ?_ rfl
  simp only [Tryz.ntmps15, List.size_toArray, List.length_cons, List.length_nil, Nat.reduceAdd, Nat.reduceSub, Array.replicate_succ, Array.replicate_zero, List.push_toArray, List.append_toArray, List.nil_append, List.cons_append]
  have hsz : (ba s).size = s.length := ba_len s
  have key : anyS s = !((spl 47 [] s).all fun x => !tellsS x) := by unfold anyS; rw [List.any_eq_not_all_not]
  · skip
    gi_wp2_with (refine ⟨trivial, ?_⟩; gi_at_call 27; refine (callsIn_wide.2 (SplitSeq_calls _ _ _)).mono ?_; rintro e w' ⟨rfl, rfl⟩)
    obtain ⟨W0, hW0, hs0, hb0, g0, g1, g2, g3⟩ := four w (Obj.cells #[Value.bool false] 4) (Obj.cells #[Value.string (ba s)] 9) (Obj.cells #[Value.string { data := #[47] }] 9) (Obj.cells #[Value.int IntKind.i64 0] 3)
    rw [hW0]
    clear hW0
    obtain ⟨c1, f1⟩ := boxed_cell g0
    obtain ⟨c2, f2⟩ := boxed_cell g1
    obtain ⟨c3, f3⟩ := boxed_cell g2
    obtain ⟨c4, f4⟩ := boxed_cell g3
    refine range_split (n := 9) (by omega) 47 (w.heap.size + 1) (w.heap.size + 1 + 1) (w.heap.size + 1 + 2) s (by omega) rfl ⟨c2, f2⟩
      (Rng (.string (ba [47])) (w.heap.size + 1 + 1) w.heap.size (w.heap.size + 1 + 1) (w.heap.size + 1 + 2) 47 w (fun x => !tellsS x)) (RngY w.heap.size w (fun x => !tellsS x)) (rng_own (by omega)) (rngY_own (by omega))
      (fun pre W h => ⟨h.cP, h.cC, (hI.below h.below).maxLen⟩) (fun pre W v h => rng_set v h (by omega) (by omega) (by omega) (by omega) (by omega)) ⟨c3, c1, f1, c3, c4, hb0, rfl⟩
      (fun x => { tmps := #[.string (ba s), undef, .pointer (some ⟨w.heap.size, 0, none⟩), .string (ba x), .string (ba s), .func (.func 60) #[] #[.pointer (some ⟨w.heap.size + 1 + 1, 0, none⟩), .pointer (some ⟨w.heap.size + 1, 0, none⟩), .pointer (some ⟨w.heap.size + 1 + 2, 0, none⟩)], .string (ba x), undef, undef], defers := [] }) ?assign ?body ?done ?stop
    case assign =>
      intro l x W K hK
      gi_wp2
      exact hK
    case body =>
      intro l pre x r W hi hL hx
      have k1 := hi.res
      have k2 := hi.frz
      have hc := tells_one x W (hI.below hi.below) (by omega)
      cases hpx : tellsS x with
      | false =>
        rw [hpx] at hc
        gi_wp2_with (refine ⟨trivial, ?_⟩; gi_at_call 16; refine (CallsIn.inRound l (callsIn_wide.2 hc)).mono ?_; rintro e w' ⟨rfl, hb'⟩)
        exact ⟨keeps_below hb', rng_below hi hb' (by simp [hpx]), left_below hL hb'⟩
      | true =>
        rw [hpx] at hc
        gi_wp2_with (refine ⟨trivial, ?_⟩; gi_at_call 16; refine (CallsIn.inRound l (callsIn_wide.2 hc)).mono ?_; rintro e w' ⟨rfl, hb'⟩; have k3 := below_cell hb' hi.res; have k4 := (below_frozen hb' hi.res).trans hi.frz)
        exact ⟨(keeps_below hb').trans (KeepsOthers.setCell _ _ _), World.cell?_setCell_same' _ _ _ (by rw [k3]; rfl), (hi.below.trans (hb'.mono hi.below.size)).setCell (by simp) _, by simp [hpx]⟩
    case done =>
      intro D W hD hi hK
      have k1 := hi.res
      have k2 := hi.frz
      gi_wp2
      have hK' := (KeepsOthers.setCell W ⟨w.heap.size, 0, none⟩ (.bool false)).same D _ hK rfl
      have hW' : Below w.heap.size w (W.setCell ⟨w.heap.size, 0, none⟩ (.bool false)) := hi.below.setCell (by simp) _
      have k5 : (W.setCell ⟨w.heap.size, 0, none⟩ (.bool false)).cell? ⟨w.heap.size, 0, none⟩ = some (.bool false) := World.cell?_setCell_same' _ _ _ (by rw [k1]; rfl)
      generalize W.setCell ⟨w.heap.size, 0, none⟩ (.bool false) = W2 at hK' hW' k5
      refine ⟨by simp, .inl ⟨_, _, rfl, run_takeDeferred hK', ?_⟩⟩
      have hg := grownBy_putObj' W2 D (.deferred none)
      refine ⟨_, ret_cell (b := w.heap.size) (v := .bool false) rfl rfl hag (cell_kept k5 hg (fun r e => by cases e; exact ⟨_, hK', rfl⟩)), ?_, ?_⟩
      · have ha := hi.all
        rw [key, ha]; rfl
      · exact hW'.grown hg hW'.size (fun k e => by cases e; omega)
    case stop =>
      intro D pre x t W hD hsp hi hK
      refine ⟨by simp, .inl ⟨_, _, rfl, run_takeDeferred hK, ?_⟩⟩
      have hg := grownBy_putObj' W D (.deferred none)
      refine ⟨_, ret_cell (b := w.heap.size) (v := .bool true) rfl rfl hag (cell_kept hi.res hg (fun r e => by cases e; exact ⟨_, hK, rfl⟩)), ?_, ?_⟩
      · have ha := all_stop hsp hi.no
        rw [key, ha]; rfl
      · exact hi.below.grown hg hi.below.size (fun k e => by cases e; omega)
/-! what stands ahead of the last slash -/
theorem ba_take (s : List UInt8) (b : Nat) : (ba s).extract 0 b = ba (s.take b) := by
  rw [← ba_unB ((ba s).extract 0 b)]
  congr 1
  unfold unB ba
  rw [ByteArray.data_extract]
  simp
theorem lastB_one (x : List UInt8) (w : World) (hI : Inv w) (hx : x.length ≤ 1000000) : Calls Tryz.prog 26 #[.string (ba x), .int .u8 47] w fun e w' => e = .returned (.int .i64 (lastC 47 x)) ∧ Below w.heap.size w w' := by
  have h := (LastB_ok 1000001 Inv know_inv).1.2 (x, (47 : Int)) (lastC 47 x) (LastB_spec 1000001 x (by omega) (by omega))
  refine (h (fun _ _ => False) w #[.string (ba x), .int .u8 47] hI (fun b o h => h.elim) ⟨drep_val _, drep_val _, trivial⟩).mono ?_
  rintro e w' ⟨v, Pc, rfl, hb, _, _, hv⟩
  have hv' : v = .int .i64 (lastC 47 x) := of_val hv
  rw [hv']
  exact ⟨rfl, hb⟩
theorem mBase_calls (s : List UInt8) (w : World) (hI : Inv w) (hs : s.length ≤ 1000000) : Calls Tryz.prog 12 #[.string (ba s)] w fun e w' => e = .returned (.string (ba (baseS s))) ∧ Below w.heap.size w w' := by
  have hl := lastC_ge 47 s
  have hsz : (ba s).size = s.length := ba_len s
  have hc := lastB_one s w hI hs
  go_enter Tryz.func12, Tryz.ntmps12
  by_cases h0 : lastC 47 s = -1
  · rw [h0] at hc
    go_wp2_with (go_at_call 26; refine hc.mono ?_)
    rintro e w' ⟨rfl, hb⟩
    go_wp2
    go_ret
    refine ⟨?_, hb⟩
    show Ending.returned (.string ((ba s).extract 0 (max 0 (-1 : Int)).toNat)) = _
    rw [ba_take]; unfold baseS; rw [h0]; rfl
  · obtain ⟨k, hk⟩ : ∃ k : Nat, lastC 47 s = (k : Int) := ⟨(lastC 47 s).toNat, by omega⟩
    rw [hk] at hc
    go_wp2_with (go_at_call 26; refine hc.mono ?_)
    rintro e w' ⟨rfl, hb⟩
    go_wp2
    go_ret
    refine ⟨?_, hb⟩
    show Ending.returned (.string ((ba s).extract 0 (max 0 (k : Int)).toNat)) = _
    rw [ba_take]; unfold baseS; rw [hk, Int.max_eq_right (by omega)]
/-! the major of a part -/
theorem trim_one (x : List UInt8) (w : World) (hI : Inv w) (hx : x.length ≤ 1000000) : Calls Tryz.prog 31 #[.string (ba x), .string (ba [118])] w fun e w' => e = .returned (.string (ba (trimV x))) ∧ Below w.heap.size w w' := by
  have h := (TrimPrefix_ok 100 Inv know_inv).1.2 (x, ([118] : List UInt8)) (trimV x) (Trim_spec 100 x (by omega))
  refine (h (fun _ _ => False) w #[.string (ba x), .string (ba [118])] hI (fun b o h => h.elim) ⟨drep_val _, drep_val _, trivial⟩).mono ?_
  rintro e w' ⟨v, Pc, rfl, hb, _, _, hv⟩
  have hv' : v = .string (ba (trimV x)) := of_val hv
  rw [hv']
  exact ⟨rfl, hb⟩
theorem itoa_call (n : Int) (w : World) (hI : Inv w) (h0 : 2 ≤ n) (h1 : n ≤ 999999999) : Calls Tryz.prog 33 #[.int .i64 n] w fun e w' => e = .returned (.string (ba (Lib.itoa n))) ∧ Below w.heap.size w w' := by
  refine (Any.strconv_Itoa Tryz.laysItoa n (by omega) (by omega) w hI.tab).mono ?_
  rintro e w' ⟨rfl, k, os, rfl⟩
  exact ⟨rfl, Lib.below_grow _ w (Nat.le_refl _) k os⟩
set_option maxHeartbeats 2000000 in
theorem mNum_calls (s : List UInt8) (w : World) (hI : Inv w) (hs : s.length ≤ 1000000) : Calls Tryz.prog 17 #[.string (ba s)] w fun e w' => e = .returned (.tuple #[.int .i64 (numOf (trimV s)), .bool (fine (trimV s))]) ∧ Below w.heap.size w w' := by
  have hc := trim_one s w hI hs
  have hl := trimV_len s
  go_enter Tryz.func17, Tryz.ntmps17
  go_wp2_with (go_at_call 31; refine hc.mono ?_)
  rintro e w1 ⟨rfl, hb1⟩
  clear hc
  have hI1 := hI.below hb1
  have e1 : (ba (trimV s)).data.toList = trimV s := by simp [ba]
  have hl' : (ba (trimV s)).size ≤ 281474976710656 := by rw [ba_len]; omega
  obtain ⟨ts, ps, hsy⟩ := hI1.syn
  obtain ⟨tr, pr, hrg⟩ := hI1.rng
  cases h : Lib.atoiAll (trimV s) with
  | ok v =>
    go_wp2_with (go_at_call 32; refine (Any.strconv_Atoi_ok Tryz.laysAtoi (ba (trimV s)) (by omega) v (by rw [e1]; exact h) w1).mono ?_)
    rintro e w2 ⟨rfl, hw⟩
    have hb2 : Below w1.heap.size w1 w2 := by
      rcases hw with rfl | ⟨t, rfl⟩
      · exact Below.refl _ _
      · exact Lib.bytesWorld_below _ _ _
    clear hw
    have hb : Below w.heap.size w w2 := hb1.trans (hb2.mono hb1.size)
    by_cases h2 : 2 ≤ v
    · by_cases h3 : v ≤ 999999999
      · have hi := itoa_call v w2 (hI.below hb) h2 h3
        go_wp2_with (go_at_call 33; refine hi.mono ?_)
        rintro e w3 ⟨rfl, hb3⟩
        go_wp2
        go_ret2
        refine ⟨?_, hb.trans (hb3.mono hb.size)⟩
        unfold numOf fine; rw [h]
        simp [h2, h3, ba_toList]
        rw [Bool.eq_iff_iff]; simp
      · go_wp2
        go_ret2
        refine ⟨?_, hb⟩
        unfold numOf fine; rw [h]
        simp [h2, show ¬ v ≤ 999999999 from by omega]
    · go_wp2
      go_ret2
      refine ⟨?_, hb⟩
      unfold numOf fine; rw [h]
      simp [show ¬ 2 ≤ v from by omega]
  | «syntax» =>
    go_wp2_with (go_at_call 32; refine (Any.strconv_Atoi_syntax Tryz.laysAtoi (ba (trimV s)) hl' (by rw [e1]; exact h) _ w1 hsy (Or.inr ⟨_, _, rfl⟩)).mono ?_)
    rintro e w2 ⟨N, rfl, hN, hc, hb2⟩
    go_wp2
    go_ret2
    refine ⟨?_, hb1.trans (hb2.mono hb1.size)⟩
    unfold numOf fine; rw [h]; rfl
  | range =>
    go_wp2_with (go_at_call 32; refine (Any.strconv_Atoi_range Tryz.laysAtoi (ba (trimV s)) hl' (by rw [e1]; exact h) _ w1 hrg (Or.inr ⟨_, _, rfl⟩)).mono ?_)
    rintro e w2 ⟨N, rfl, hN, hc, hb2⟩
    rw [e1]
    go_wp2
    go_ret2
    refine ⟨?_, hb1.trans (hb2.mono hb1.size)⟩
    unfold numOf fine; rw [h]; rfl
/-! contracts -/
def fPath_t (s : List UInt8) : Option Bool := some (pathS s)
def fPath_fc : FC := { f := 14, args := [strA], res := boolA, F := fun p => fPath_t p }
theorem fPath_ok : FCall Inv Tryz.prog fPath_fc := fun G hG => ⟨⟨by kernel_rfl, fun (s : List UInt8) r h => by
  have hr : pathS s = r := Option.some.inj h
  intro Pc w vs hg hlt hv
  obtain ⟨l⟩ := vs
  match l, hv with
  | [x], ⟨h1, _⟩ =>
    obtain rfl : x = .string (ba s) := of_val h1
    refine (fPath_calls s w (hG.im w hg)).mono ?_
    rintro e w' ⟨rfl, hb⟩
    subst hr
    exact pc_done rfl hb (drep_val _)⟩, rfl⟩
def mAny_t (s : List UInt8) : Option Bool := if s.length ≤ 1000000 then some (anyS s) else none
def mAny_fc : FC := { f := 15, args := [strA], res := boolA, F := fun p => mAny_t p }
theorem mAny_ok : FCall Inv Tryz.prog mAny_fc := fun G hG => ⟨⟨by kernel_rfl, fun (s : List UInt8) r h => by
  have h' : mAny_t s = some r := h
  unfold mAny_t at h'
  split at h'
  case isFalse => cases h'
  rename_i hc
  have hr : anyS s = r := Option.some.inj h'
  intro Pc w vs hg hlt hv
  obtain ⟨l⟩ := vs
  match l, hv with
  | [x], ⟨h1, _⟩ =>
    obtain rfl : x = .string (ba s) := of_val h1
    refine (mAny_calls s w (hG.im w hg) hc).mono ?_
    rintro e w' ⟨rfl, hb⟩
    subst hr
    exact pc_done rfl hb (drep_val _)⟩, rfl⟩
def mBase_t (s : List UInt8) : Option (List UInt8) := if s.length ≤ 1000000 then some (baseS s) else none
def mBase_fc : FC := { f := 12, args := [strA], res := strA, F := fun p => mBase_t p }
theorem mBase_ok : FCall Inv Tryz.prog mBase_fc := fun G hG => ⟨⟨by kernel_rfl, fun (s : List UInt8) r h => by
  have h' : mBase_t s = some r := h
  unfold mBase_t at h'
  split at h'
  case isFalse => cases h'
  rename_i hc
  have hr : baseS s = r := Option.some.inj h'
  intro Pc w vs hg hlt hv
  obtain ⟨l⟩ := vs
  match l, hv with
  | [x], ⟨h1, _⟩ =>
    obtain rfl : x = .string (ba s) := of_val h1
    refine (mBase_calls s w (hG.im w hg) hc).mono ?_
    rintro e w' ⟨rfl, hb⟩
    subst hr
    exact pc_done rfl hb (drep_val (.string (ba (baseS s))))⟩, rfl⟩
def mNum_t (s : List UInt8) : Option (Int × Bool) := if s.length ≤ 1000000 then some (numOf (trimV s), fine (trimV s)) else none
def mNum_fc : FC := { f := 17, args := [strA], res := .tup [.c (.d (.int .i64)), .c (.d .bool)], F := fun p => mNum_t p }
theorem mNum_ok : FCall Inv Tryz.prog mNum_fc := fun G hG => ⟨⟨by kernel_rfl, fun (s : List UInt8) (r : Int × Bool) h => by
  have h' : mNum_t s = some r := h
  unfold mNum_t at h'
  split at h'
  case isFalse => cases h'
  rename_i hc
  have hr : (numOf (trimV s), fine (trimV s)) = r := Option.some.inj h'
  intro Pc w vs hg hlt hv
  obtain ⟨l⟩ := vs
  match l, hv with
  | [x], ⟨h1, _⟩ =>
    obtain rfl : x = .string (ba s) := of_val h1
    refine (mNum_calls s w (hG.im w hg) hc).mono ?_
    rintro e w' ⟨rfl, hb⟩
    subst hr
    refine ⟨_, Pc, rfl, hb, fun _ _ h => h, fun _ _ h => Or.inl h, ?_⟩
    exact ⟨#[.int .i64 (numOf (trimV s)), .bool (fine (trimV s))], rfl, drep_val (σ := noSt) (.int .i64 (numOf (trimV s))), drep_val (σ := noSt) (.bool (fine (trimV s))), trivial⟩⟩, rfl⟩
end YtgihkohggalefabGreatDoor.AM
end Go.Proofs
