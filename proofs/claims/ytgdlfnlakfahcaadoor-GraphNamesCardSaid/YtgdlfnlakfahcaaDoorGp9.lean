/- One text of MpT, MpG2 (mk/pack.py). -/
import Derived.Test.YtgdlfnlakfahcaaDoorGp8
/- Layer 8: functions that range over the parts of a text, and those that lean on max and on errors: mpath.anyTells, mpath.Base, mpath.number. -/
namespace Go.Proofs
open Go.RowKit Go.Shelf Go.Lib
attribute [local go_sem] Oper.semAt_some
set_option linter.unusedVariables false
set_option linter.unusedSimpArgs false
namespace YtgdlfnlakfahcaaDoor.AM
theorem tells_one (x : List UInt8) (w : World) (hI : Inv w) (hx : x.length ≤ 1000000) : Calls Tryd.prog 32 #[.string (ba x)] w fun e w' => e = .returned (.bool (tellsS x)) ∧ Below w.heap.size w w' := by
  have h := (mTells_ok 1000001 Inv know_inv).1.2 x (tellsS x) (mTells_spec 1000001 x (by omega))
  refine (h (fun _ _ => False) w #[.string (ba x)] hI (fun b o h => h.elim) ⟨drep_val _, trivial⟩).mono ?_
  rintro e w' ⟨v, Pc, rfl, hb, _, _, hv⟩
  have hv' : v = .bool (tellsS x) := of_val hv
  rw [hv']
  exact ⟨rfl, hb⟩
set_option maxHeartbeats 2000000 in
theorem mAny_calls (s : List UInt8) (w : World) (hI : Inv w) (h2 : s.length ≤ 1000000) : Calls Tryd.prog 31 #[.string (ba s)] w fun e w' => e = .returned (.bool (anyS s)) ∧ Below w.heap.size w w' := by
  refine (callsIn_wide (n := 9)).1 ?_
  refine callsIn_of_wp_marks Tryd.func31 rfl trivial ?_ rfl
  simp only [Tryd.ntmps31, List.size_toArray, List.length_cons, List.length_nil, Nat.reduceAdd, Nat.reduceSub, Array.replicate_succ, Array.replicate_zero, List.push_toArray, List.append_toArray, List.nil_append, List.cons_append]
  have hsz : (ba s).size = s.length := ba_len s
  have key : anyS s = !((spl 47 [] s).all fun x => !tellsS x) := by unfold anyS; rw [List.any_eq_not_all_not]
  · skip
    gi_wp2_with (refine ⟨trivial, ?_⟩; gi_at_call 37; refine (callsIn_wide.2 (SplitSeq_calls _ _ _)).mono ?_; rintro e w' ⟨rfl, rfl⟩)
    obtain ⟨W0, hW0, hs0, hb0, g0, g1, g2, g3⟩ := four w (Obj.cells #[Value.bool false] 4) (Obj.cells #[Value.string (ba s)] 9) (Obj.cells #[Value.string { data := #[47] }] 9) (Obj.cells #[Value.int IntKind.i64 0] 3)
    rw [hW0]
    clear hW0
    obtain ⟨c1, f1⟩ := boxed_cell g0
    obtain ⟨c2, f2⟩ := boxed_cell g1
    obtain ⟨c3, f3⟩ := boxed_cell g2
    obtain ⟨c4, f4⟩ := boxed_cell g3
    refine range_split (n := 9) (by omega) 47 (w.heap.size + 1) (w.heap.size + 1 + 1) (w.heap.size + 1 + 2) s (by omega) rfl ⟨c2, f2⟩
      (Rng (.string (ba [47])) (w.heap.size + 1 + 1) w.heap.size (w.heap.size + 1 + 1) (w.heap.size + 1 + 2) 47 w (fun x => !tellsS x)) (RngY w.heap.size w (fun x => !tellsS x)) (rng_own (by omega)) (rngY_own (by omega))
      (fun pre W h => ⟨h.cP, h.cC, (hI.below h.below).maxLen⟩) (fun pre W v h => rng_set v h (by omega) (by omega) (by omega) (by omega) (by omega)) ⟨c3, c1, f1, c3, c4, hb0, rfl⟩
      (fun x => { tmps := #[.string (ba s), undef, .pointer (some ⟨w.heap.size, 0, none⟩), .string (ba x), .string (ba s), .func (.func 59) #[] #[.pointer (some ⟨w.heap.size + 1 + 1, 0, none⟩), .pointer (some ⟨w.heap.size + 1, 0, none⟩), .pointer (some ⟨w.heap.size + 1 + 2, 0, none⟩)], .string (ba x), undef, undef], defers := [] }) ?assign ?body ?done ?stop
    case assign =>
      intro l x W K hK
      gi_wp2
      exact hK
    case body =>
      intro l pre x r W hi hL hx
      have k1 := hi.res
      have k2 := hi.frz
      have hc := tells_one x W (hI.below hi.below) (by omega)
      cases hpx : tellsS x with
      | false =>
        rw [hpx] at hc
        gi_wp2_with (refine ⟨trivial, ?_⟩; gi_at_call 32; refine (CallsIn.inRound l (callsIn_wide.2 hc)).mono ?_; rintro e w' ⟨rfl, hb'⟩)
        exact ⟨keeps_below hb', rng_below hi hb' (by simp [hpx]), left_below hL hb'⟩
      | true =>
        rw [hpx] at hc
        gi_wp2_with (refine ⟨trivial, ?_⟩; gi_at_call 32; refine (CallsIn.inRound l (callsIn_wide.2 hc)).mono ?_; rintro e w' ⟨rfl, hb'⟩; have k3 := below_cell hb' hi.res; have k4 := (below_frozen hb' hi.res).trans hi.frz)
        exact ⟨(keeps_below hb').trans (KeepsOthers.setCell _ _ _), World.cell?_setCell_same' _ _ _ (by rw [k3]; rfl), (hi.below.trans (hb'.mono hi.below.size)).setCell (by simp) _, by simp [hpx]⟩
    case done =>
      intro D W hD hi hK
      have k1 := hi.res
      have k2 := hi.frz
      gi_wp2
      have hK' := (KeepsOthers.setCell W ⟨w.heap.size, 0, none⟩ (.bool false)).same D _ hK rfl
      have hW' : Below w.heap.size w (W.setCell ⟨w.heap.size, 0, none⟩ (.bool false)) := hi.below.setCell (by simp) _
      have k5 : (W.setCell ⟨w.heap.size, 0, none⟩ (.bool false)).cell? ⟨w.heap.size, 0, none⟩ = some (.bool false) := World.cell?_setCell_same' _ _ _ (by rw [k1]; rfl)
      generalize W.setCell ⟨w.heap.size, 0, none⟩ (.bool false) = W2 at hK' hW' k5
      refine ⟨by simp, .inl ⟨_, _, rfl, run_takeDeferred hK', ?_⟩⟩
      have hg := grownBy_putObj' W2 D (.deferred none)
      refine ⟨_, ret_cell (b := w.heap.size) (v := .bool false) rfl rfl hag (cell_kept k5 hg (fun r e => by cases e; exact ⟨_, hK', rfl⟩)), ?_, ?_⟩
      · have ha := hi.all
        rw [key, ha]; rfl
      · exact hW'.grown hg hW'.size (fun k e => by cases e; omega)
    case stop =>
      intro D pre x t W hD hsp hi hK
      refine ⟨by simp, .inl ⟨_, _, rfl, run_takeDeferred hK, ?_⟩⟩
      have hg := grownBy_putObj' W D (.deferred none)
      refine ⟨_, ret_cell (b := w.heap.size) (v := .bool true) rfl rfl hag (cell_kept hi.res hg (fun r e => by cases e; exact ⟨_, hK, rfl⟩)), ?_, ?_⟩
      · have ha := all_stop hsp hi.no
        rw [key, ha]; rfl
      · exact hi.below.grown hg hi.below.size (fun k e => by cases e; omega)
/-! what stands ahead of the last slash -/
theorem ba_take (s : List UInt8) (b : Nat) : (ba s).extract 0 b = ba (s.take b) := by
  rw [← ba_unB ((ba s).extract 0 b)]
  congr 1
  unfold unB ba
  rw [ByteArray.data_extract]
  simp
theorem lastB_one (x : List UInt8) (w : World) (hI : Inv w) (hx : x.length ≤ 1000000) : Calls Tryd.prog 36 #[.string (ba x), .int .u8 47] w fun e w' => e = .returned (.int .i64 (lastC 47 x)) ∧ Below w.heap.size w w' := by
  have h := (LastB_ok 1000001 Inv know_inv).1.2 (x, (47 : Int)) (lastC 47 x) (LastB_spec 1000001 x (by omega) (by omega))
  refine (h (fun _ _ => False) w #[.string (ba x), .int .u8 47] hI (fun b o h => h.elim) ⟨drep_val _, drep_val _, trivial⟩).mono ?_
  rintro e w' ⟨v, Pc, rfl, hb, _, _, hv⟩
  have hv' : v = .int .i64 (lastC 47 x) := of_val hv
  rw [hv']
  exact ⟨rfl, hb⟩
theorem mBase_calls (s : List UInt8) (w : World) (hI : Inv w) (hs : s.length ≤ 1000000) : Calls Tryd.prog 28 #[.string (ba s)] w fun e w' => e = .returned (.string (ba (baseS s))) ∧ Below w.heap.size w w' := by
  have hl := lastC_ge 47 s
  have hsz : (ba s).size = s.length := ba_len s
  have hc := lastB_one s w hI hs
  go_enter Tryd.func28, Tryd.ntmps28
  by_cases h0 : lastC 47 s = -1
  · rw [h0] at hc
    go_wp2_with (go_at_call 36; refine hc.mono ?_)
    rintro e w' ⟨rfl, hb⟩
    go_wp2
    go_ret
    refine ⟨?_, hb⟩
    show Ending.returned (.string ((ba s).extract 0 (max 0 (-1 : Int)).toNat)) = _
    rw [ba_take]; unfold baseS; rw [h0]; rfl
  · obtain ⟨k, hk⟩ : ∃ k : Nat, lastC 47 s = (k : Int) := ⟨(lastC 47 s).toNat, by omega⟩
    rw [hk] at hc
    go_wp2_with (go_at_call 36; refine hc.mono ?_)
    rintro e w' ⟨rfl, hb⟩
    go_wp2
    go_ret
    refine ⟨?_, hb⟩
    show Ending.returned (.string ((ba s).extract 0 (max 0 (k : Int)).toNat)) = _
    rw [ba_take]; unfold baseS; rw [hk, Int.max_eq_right (by omega)]
/-! the major of a part -/
theorem trim_one (x : List UInt8) (w : World) (hI : Inv w) (hx : x.length ≤ 1000000) : Calls Tryd.prog 41 #[.string (ba x), .string (ba [118])] w fun e w' => e = .returned (.string (ba (trimV x))) ∧ Below w.heap.size w w' := by
  have h := (TrimPrefix_ok 100 Inv know_inv).1.2 (x, ([118] : List UInt8)) (trimV x) (Trim_spec 100 x (by omega))
  refine (h (fun _ _ => False) w #[.string (ba x), .string (ba [118])] hI (fun b o h => h.elim) ⟨drep_val _, drep_val _, trivial⟩).mono ?_
  rintro e w' ⟨v, Pc, rfl, hb, _, _, hv⟩
  have hv' : v = .string (ba (trimV x)) := of_val hv
  rw [hv']
  exact ⟨rfl, hb⟩
theorem itoa_call (n : Int) (w : World) (hI : Inv w) (h0 : 2 ≤ n) (h1 : n ≤ 999999999) : Calls Tryd.prog 43 #[.int .i64 n] w fun e w' => e = .returned (.string (ba (Lib.itoa n))) ∧ Below w.heap.size w w' := by
  refine (Any.strconv_Itoa Tryd.laysItoa n (by omega) (by omega) w hI.tab).mono ?_
  rintro e w' ⟨rfl, k, os, rfl⟩
  exact ⟨rfl, Lib.below_grow _ w (Nat.le_refl _) k os⟩
set_option maxHeartbeats 2000000 in
theorem mNum_calls (s : List UInt8) (w : World) (hI : Inv w) (hs : s.length ≤ 1000000) : Calls Tryd.prog 33 #[.string (ba s)] w fun e w' => e = .returned (.tuple #[.int .i64 (numOf (trimV s)), .bool (fine (trimV s))]) ∧ Below w.heap.size w w' := by
  have hc := trim_one s w hI hs
  have hl := trimV_len s
  go_enter Tryd.func33, Tryd.ntmps33
  go_wp2_with (go_at_call 41; refine hc.mono ?_)
  rintro e w1 ⟨rfl, hb1⟩
  clear hc
  have hI1 := hI.below hb1
  have e1 : (ba (trimV s)).data.toList = trimV s := by simp [ba]
  have hl' : (ba (trimV s)).size ≤ 281474976710656 := by rw [ba_len]; omega
  obtain ⟨ts, ps, hsy⟩ := hI1.syn
  obtain ⟨tr, pr, hrg⟩ := hI1.rng
  cases h : Lib.atoiAll (trimV s) with
  | ok v =>
    go_wp2_with (go_at_call 42; refine (Any.strconv_Atoi_ok Tryd.laysAtoi (ba (trimV s)) (by omega) v (by rw [e1]; exact h) w1).mono ?_)
    rintro e w2 ⟨rfl, hw⟩
    have hb2 : Below w1.heap.size w1 w2 := by
      rcases hw with rfl | ⟨t, rfl⟩
      · exact Below.refl _ _
      · exact Lib.bytesWorld_below _ _ _
    clear hw
    have hb : Below w.heap.size w w2 := hb1.trans (hb2.mono hb1.size)
    by_cases h2 : 2 ≤ v
    · by_cases h3 : v ≤ 999999999
      · have hi := itoa_call v w2 (hI.below hb) h2 h3
        go_wp2_with (go_at_call 43; refine hi.mono ?_)
        rintro e w3 ⟨rfl, hb3⟩
        go_wp2
        go_ret2
        refine ⟨?_, hb.trans (hb3.mono hb.size)⟩
        unfold numOf fine; rw [h]
        simp [h2, h3, ba_toList]
        rw [Bool.eq_iff_iff]; simp
      · go_wp2
        go_ret2
        refine ⟨?_, hb⟩
        unfold numOf fine; rw [h]
        simp [h2, show ¬ v ≤ 999999999 from by omega]
    · go_wp2
      go_ret2
      refine ⟨?_, hb⟩
      unfold numOf fine; rw [h]
      simp [show ¬ 2 ≤ v from by omega]
  | «syntax» =>
    go_wp2_with (go_at_call 42; refine (Any.strconv_Atoi_syntax Tryd.laysAtoi (ba (trimV s)) hl' (by rw [e1]; exact h) _ w1 hsy (Or.inr ⟨_, _, rfl⟩)).mono ?_)
    rintro e w2 ⟨N, rfl, hN, hc, hb2⟩
    go_wp2
    go_ret2
    refine ⟨?_, hb1.trans (hb2.mono hb1.size)⟩
    unfold numOf fine; rw [h]; rfl
  | range =>
    go_wp2_with (go_at_call 42; refine (Any.strconv_Atoi_range Tryd.laysAtoi (ba (trimV s)) hl' (by rw [e1]; exact h) _ w1 hrg (Or.inr ⟨_, _, rfl⟩)).mono ?_)
    rintro e w2 ⟨N, rfl, hN, hc, hb2⟩
    rw [e1]
    go_wp2
    go_ret2
    refine ⟨?_, hb1.trans (hb2.mono hb1.size)⟩
    unfold numOf fine; rw [h]; rfl
/-! contracts -/
def mAny_t (s : List UInt8) : Option Bool := if s.length ≤ 1000000 then some (anyS s) else none
def mAny_fc : FC := { f := 31, args := [strA], res := boolA, F := fun p => mAny_t p }
theorem mAny_ok : FCall Inv Tryd.prog mAny_fc := fun G hG => ⟨⟨by kernel_rfl, fun (s : List UInt8) r h => by
  have h' : mAny_t s = some r := h
  unfold mAny_t at h'
  split at h'
  case isFalse => cases h'
  rename_i hc
  have hr : anyS s = r := Option.some.inj h'
  intro Pc w vs hg hlt hv
  obtain ⟨l⟩ := vs
  match l, hv with
  | [x], ⟨h1, _⟩ =>
    obtain rfl : x = .string (ba s) := of_val h1
    refine (mAny_calls s w (hG.im w hg) hc).mono ?_
    rintro e w' ⟨rfl, hb⟩
    subst hr
    exact pc_done rfl hb (drep_val _)⟩, rfl⟩
def mBase_t (s : List UInt8) : Option (List UInt8) := if s.length ≤ 1000000 then some (baseS s) else none
def mBase_fc : FC := { f := 28, args := [strA], res := strA, F := fun p => mBase_t p }
theorem mBase_ok : FCall Inv Tryd.prog mBase_fc := fun G hG => ⟨⟨by kernel_rfl, fun (s : List UInt8) r h => by
  have h' : mBase_t s = some r := h
  unfold mBase_t at h'
  split at h'
  case isFalse => cases h'
  rename_i hc
  have hr : baseS s = r := Option.some.inj h'
  intro Pc w vs hg hlt hv
  obtain ⟨l⟩ := vs
  match l, hv with
  | [x], ⟨h1, _⟩ =>
    obtain rfl : x = .string (ba s) := of_val h1
    refine (mBase_calls s w (hG.im w hg) hc).mono ?_
    rintro e w' ⟨rfl, hb⟩
    subst hr
    exact pc_done rfl hb (drep_val (.string (ba (baseS s))))⟩, rfl⟩
def mNum_t (s : List UInt8) : Option (Int × Bool) := if s.length ≤ 1000000 then some (numOf (trimV s), fine (trimV s)) else none
def mNum_fc : FC := { f := 33, args := [strA], res := .tup [.c (.d (.int .i64)), .c (.d .bool)], F := fun p => mNum_t p }
theorem mNum_ok : FCall Inv Tryd.prog mNum_fc := fun G hG => ⟨⟨by kernel_rfl, fun (s : List UInt8) (r : Int × Bool) h => by
  have h' : mNum_t s = some r := h
  unfold mNum_t at h'
  split at h'
  case isFalse => cases h'
  rename_i hc
  have hr : (numOf (trimV s), fine (trimV s)) = r := Option.some.inj h'
  intro Pc w vs hg hlt hv
  obtain ⟨l⟩ := vs
  match l, hv with
  | [x], ⟨h1, _⟩ =>
    obtain rfl : x = .string (ba s) := of_val h1
    refine (mNum_calls s w (hG.im w hg) hc).mono ?_
    rintro e w' ⟨rfl, hb⟩
    subst hr
    refine ⟨_, Pc, rfl, hb, fun _ _ h => h, fun _ _ h => Or.inl h, ?_⟩
    exact ⟨#[.int .i64 (numOf (trimV s)), .bool (fine (trimV s))], rfl, drep_val (σ := noSt) (.int .i64 (numOf (trimV s))), drep_val (σ := noSt) (.bool (fine (trimV s))), trivial⟩⟩, rfl⟩
end YtgdlfnlakfahcaaDoor.AM
end Go.Proofs

/- Layer 8, the rest: what functions come to, as plain functions of data: written by program (shal.py); the kernel checks it. -/
namespace Go.Proofs.YtgdlfnlakfahcaaDoor.AM
open Go.RowKit
set_option linter.unusedVariables false
set_option maxRecDepth 20000
/-! armada/mpath.lastPart -/
def mLast_lts (n : Nat) : List LC := []
def mLast_t (n : Nat) (a1 : List UInt8) : Option (List UInt8) :=
  (LastB_t n a1 (47 : Int)).bind fun (r1 : Int) => letO (IntKind.wrap .i64 (r1 + (1 : Int))) fun (n2 : Int) => (subO a1 n2 ((List.length a1 : Nat) : Int)).bind fun (s3 : List UInt8) => some s3
def mLast_fc (n : Nat) : FC := { f := 29, args := [.one (.c (.d .str))], res := .one (.c (.d .str)), F := fun p => mLast_t n p }
def mLast_ct (n : Nat) : List FC := [LastB_fc n]
theorem mLast_ctok (n : Nat) {G : World → Prop} (hG : Know Inv G) : ∀ c ∈ mLast_ct n, FCok Tryd.prog G c ∧ noTup c.args = true := List.forall_mem_cons.2 ⟨LastB_ok n G hG, (fun _ h => by cases h)⟩
def mLast_dh : Hints := []
theorem mLast_dr : drB mLast_dh (bodyOf Tryd.f29) = true := by kernel_rfl
theorem mLast_eq (n : Nat) : ∀ a, (mLast_fc n).F a = main Tryd.prog 8 (mLast_ct n) (mLast_lts n) mLast_dh (bodyOf Tryd.f29) [.tmp 2] (mLast_fc n).args (mLast_fc n).res a := by intro a; kernel_rfl
theorem mLast_ok (n : Nat) : FCall Inv Tryd.prog (mLast_fc n) := fun G hG => ⟨⟨by kernel_rfl, fun a r h => main_ok (c := bodyOf Tryd.f29) Tryd.func29 (by kernel_rfl) (by kernel_rfl) (Nat.le_of_ble_eq_true (by kernel_rfl)) hG.st (by kernel_rfl) (rs := [.tmp 2]) (by kernel_rfl) (mLast_ctok n hG) (lts := mLast_lts n) (fun F hF hFG => have hK : Know Inv F.G := hFG ▸ hG; (lok_of fun j L h1 h2 h3 => absurd h2 (Nat.not_lt.2 (Nat.le_trans (by decide +kernel) h1)))) mLast_dr ((mLast_eq n a).symm.trans h)⟩, rfl⟩
/-! armada/mpath.Major -/
def mMajor_lts (n : Nat) : List LC := []
def mMajor_t (n : Nat) (a1 : List UInt8) : Option ((List UInt8) × (Int × (Bool))) :=
  (mBase_t a1).bind fun (r1 : List UInt8) => (mLast_t n a1).bind fun (r2 : List UInt8) => (fPath_t a1).bind fun (r3 : Bool) => (bif !r3 then (bif !r3 then some (([] : List UInt8), ((0 : Int), false)) else (mTells_t n r2).bind fun (r4 : Bool) => (bif !r4 then some (a1, ((0 : Int), true)) else (mNum_t r2).bind fun (r5 : Int × (Bool)) => (bif !r5.2 then some (([] : List UInt8), ((0 : Int), false)) else (bif decide (r1 = ([] : List UInt8)) then some (([] : List UInt8), ((0 : Int), false)) else some (r1, (r5.1, true)))))) else (mAny_t r1).bind fun (r6 : Bool) => (bif r6 then some (([] : List UInt8), ((0 : Int), false)) else (mTells_t n r2).bind fun (r7 : Bool) => (bif !r7 then some (a1, ((0 : Int), true)) else (mNum_t r2).bind fun (r8 : Int × (Bool)) => (bif !r8.2 then some (([] : List UInt8), ((0 : Int), false)) else (bif decide (r1 = ([] : List UInt8)) then some (([] : List UInt8), ((0 : Int), false)) else some (r1, (r8.1, true)))))))
def mMajor_fc (n : Nat) : FC := { f := 22, args := [.one (.c (.d .str))], res := .tup [.c (.d .str), .c (.d (.int .i64)), .c (.d .bool)], F := fun p => mMajor_t n p }
def mMajor_ct (n : Nat) : List FC := [mBase_fc, mLast_fc n, fPath_fc, mTells_fc n, mNum_fc, mAny_fc]
theorem mMajor_ctok (n : Nat) {G : World → Prop} (hG : Know Inv G) : ∀ c ∈ mMajor_ct n, FCok Tryd.prog G c ∧ noTup c.args = true := List.forall_mem_cons.2 ⟨mBase_ok G hG, List.forall_mem_cons.2 ⟨mLast_ok n G hG, List.forall_mem_cons.2 ⟨fPath_ok G hG, List.forall_mem_cons.2 ⟨mTells_ok n G hG, List.forall_mem_cons.2 ⟨mNum_ok G hG, List.forall_mem_cons.2 ⟨mAny_ok G hG, (fun _ h => by cases h)⟩⟩⟩⟩⟩⟩
def mMajor_dh : Hints := []
theorem mMajor_dr : drB mMajor_dh (bodyOf Tryd.f22) = true := by kernel_rfl
theorem mMajor_eq (n : Nat) : ∀ a, (mMajor_fc n).F a = main Tryd.prog 37 (mMajor_ct n) (mMajor_lts n) mMajor_dh (bodyOf Tryd.f22) [.tmp 2, .tmp 3, .tmp 4] (mMajor_fc n).args (mMajor_fc n).res a := by intro a; kernel_rfl
theorem mMajor_ok (n : Nat) : FCall Inv Tryd.prog (mMajor_fc n) := fun G hG => ⟨⟨by kernel_rfl, fun a r h => main_ok (c := bodyOf Tryd.f22) Tryd.func22 (by kernel_rfl) (by kernel_rfl) (Nat.le_of_ble_eq_true (by kernel_rfl)) hG.st (by kernel_rfl) (rs := [.tmp 2, .tmp 3, .tmp 4]) (by kernel_rfl) (mMajor_ctok n hG) (lts := mMajor_lts n) (fun F hF hFG => have hK : Know Inv F.G := hFG ▸ hG; (lok_of fun j L h1 h2 h3 => absurd h2 (Nat.not_lt.2 (Nat.le_trans (by decide +kernel) h1)))) mMajor_dr ((mMajor_eq n a).symm.trans h)⟩, rfl⟩
/-! armada/mpath.Check -/
def mCheck_lts (n : Nat) : List LC := []
def mCheck_t (n : Nat) (a1 : List UInt8) : Option (Bool) :=
  (mMajor_t n a1).bind fun (r1 : (List UInt8) × (Int × (Bool))) => some r1.2.2
def mCheck_fc (n : Nat) : FC := { f := 17, args := [.one (.c (.d .str))], res := .one (.c (.d .bool)), F := fun p => mCheck_t n p }
def mCheck_ct (n : Nat) : List FC := [mMajor_fc n]
theorem mCheck_ctok (n : Nat) {G : World → Prop} (hG : Know Inv G) : ∀ c ∈ mCheck_ct n, FCok Tryd.prog G c ∧ noTup c.args = true := List.forall_mem_cons.2 ⟨mMajor_ok n G hG, (fun _ h => by cases h)⟩
def mCheck_dh : Hints := []
theorem mCheck_dr : drB mCheck_dh (bodyOf Tryd.f17) = true := by kernel_rfl
theorem mCheck_eq (n : Nat) : ∀ a, (mCheck_fc n).F a = main Tryd.prog 13 (mCheck_ct n) (mCheck_lts n) mCheck_dh (bodyOf Tryd.f17) [.tmp 2] (mCheck_fc n).args (mCheck_fc n).res a := by intro a; kernel_rfl
theorem mCheck_ok (n : Nat) : FCall Inv Tryd.prog (mCheck_fc n) := fun G hG => ⟨⟨by kernel_rfl, fun a r h => main_ok (c := bodyOf Tryd.f17) Tryd.func17 (by kernel_rfl) (by kernel_rfl) (Nat.le_of_ble_eq_true (by kernel_rfl)) hG.st (by kernel_rfl) (rs := [.tmp 2]) (by kernel_rfl) (mCheck_ctok n hG) (lts := mCheck_lts n) (fun F hF hFG => have hK : Know Inv F.G := hFG ▸ hG; (lok_of fun j L h1 h2 h3 => absurd h2 (Nat.not_lt.2 (Nat.le_trans (by decide +kernel) h1)))) mCheck_dr ((mCheck_eq n a).symm.trans h)⟩, rfl⟩















end Go.Proofs.YtgdlfnlakfahcaaDoor.AM
