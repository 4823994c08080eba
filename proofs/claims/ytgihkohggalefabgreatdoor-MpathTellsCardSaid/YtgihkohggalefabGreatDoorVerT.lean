/- Functions that range over the parts of a text: ver.isTail. -/
import Derived.Test.YtgihkohggalefabGreatDoorVerP1
namespace Go.Proofs
open Go.RowKit Go.Shelf Go.Lib
attribute [local go_sem] Oper.semAt_some
set_option linter.unusedVariables false
set_option linter.unusedSimpArgs false
namespace YtgihkohggalefabGreatDoor.AM
theorem ret_cell {P : Program} {fn : Func} {p : Tmp} {ty : TypeId} {b : Nat} {v : Value} {tmps : Array Value} {w : World} (h : fn.results = #[.cell p ty]) (hp : tmps.getD p undef = .pointer (some ⟨b, 0, none⟩)) (ha : aggD P ty = some false)
    (hc : w.cell? ⟨b, 0, none⟩ = some v) : (results fn tmps).run P w = .ok v w := by
  have hp' : tmps[p]?.getD undef = .pointer (some ⟨b, 0, none⟩) := by simpa using hp
  simp only [results, h]
  simp [Sem.run_bind, hp', asAddr, loadVar, run_isAgg' ha w, go_sem, hc]
theorem below_cell {W W' : World} {a : Addr} {v : Value} (hb : Below W.heap.size W W') (h : W.cell? a = some v) : W'.cell? a = some v := by
  obtain ⟨o, ho, hc⟩ := cells_of_cell h
  exact (World.cell?_of_block ((hb.block _ (Array.getElem?_eq_some_iff.1 ho).1).trans ho |>.trans ho.symm)).trans h
theorem below_frozen {W W' : World} {a : Addr} {v : Value} (hb : Below W.heap.size W W') (h : W.cell? a = some v) : W'.frozen? a = W.frozen? a := by
  obtain ⟨o, ho, hc⟩ := cells_of_cell h
  exact World.frozen?_of_block ((hb.block _ (Array.getElem?_eq_some_iff.1 ho).1).trans ho |>.trans ho.symm)
theorem keeps_below {W W' : World} (hb : Below W.heap.size W W') : KeepsOthers W W' := ⟨hb.size, fun k o h _ => (hb.block k (Array.getElem?_eq_some_iff.1 h).1).trans h⟩
theorem left_below {pS : Nat} {r : List UInt8} {W W' : World} (h : Left pS r W) (hb : Below W.heap.size W W') : Left pS r W' := ⟨below_cell hb h.1, (below_frozen hb h.1).trans h.2⟩
theorem boxed_cell {w : World} {b : Nat} {v : Value} {t : TypeId} (h : w.heap[b]? = some (.cells #[v] t (0, 0))) : w.cell? ⟨b, 0, none⟩ = some v ∧ w.frozen? ⟨b, 0, none⟩ = false := by
  constructor
  · simp [World.cell?, h]
  · simp [World.frozen?, h]
theorem five (w : World) (o0 o1 o2 o3 o4 : Obj) : ∃ W, (((((w.alloc o0).alloc o1).alloc o2).alloc o3).alloc o4) = W ∧ W.heap.size = w.heap.size + 5 ∧ Below w.heap.size w W ∧ W.heap[w.heap.size]? = some o0 ∧ W.heap[w.heap.size + 1]? = some o1 ∧ W.heap[w.heap.size + 1 + 1]? = some o2 ∧ W.heap[w.heap.size + 1 + 1 + 1]? = some o3 ∧ W.heap[w.heap.size + 1 + 1 + 2]? = some o4 := by
  have al : ∀ (w : World) (o : Obj) (k : Nat), k < w.heap.size → (w.alloc o).heap[k]? = w.heap[k]? := fun w o k h => Below.heap_alloc _ _ _ h
  refine ⟨_, rfl, by simp, (((((Below.refl _ w).alloc (Nat.le_refl _) _).alloc (by simp) _).alloc (by simp; omega) _).alloc (by simp; omega) _).alloc (by simp; omega) _, ?_, ?_, ?_, ?_, ?_⟩
  · rw [al _ _ _ (by simp <;> omega), al _ _ _ (by simp <;> omega), al _ _ _ (by simp <;> omega), al _ _ _ (by simp), World.alloc_heap_new]
  · rw [al _ _ _ (by simp <;> omega), al _ _ _ (by simp <;> omega), al _ _ _ (by simp)]
    have := World.alloc_heap_new (w.alloc o0) o1
    rw [World.size_alloc] at this; exact this
  · rw [al _ _ _ (by simp <;> omega), al _ _ _ (by simp)]
    have := World.alloc_heap_new ((w.alloc o0).alloc o1) o2
    rw [World.size_alloc, World.size_alloc] at this; exact this
  · rw [al _ _ _ (by simp)]
    have := World.alloc_heap_new (((w.alloc o0).alloc o1).alloc o2) o3
    rw [World.size_alloc, World.size_alloc, World.size_alloc] at this; exact this
  · have := World.alloc_heap_new ((((w.alloc o0).alloc o1).alloc o2).alloc o3) o4
    rw [World.size_alloc, World.size_alloc, World.size_alloc, World.size_alloc] at this; exact this
theorem hag : aggD Tryz.prog 4 = some false := by kernel_rfl
/-- between two rounds: the cells of a function value and of the result -/
structure Rng (fv : Value) (pF pR : Nat) (pP pC : Nat) (c : UInt8) (w0 : World) (pred : List UInt8 → Bool) (pre : List (List UInt8)) (W : World) : Prop where
  fn : W.cell? ⟨pF, 0, none⟩ = some fv
  res : W.cell? ⟨pR, 0, none⟩ = some (.bool false)
  frz : W.frozen? ⟨pR, 0, none⟩ = false
  cP : W.cell? ⟨pP, 0, none⟩ = some (.string (ba [c]))
  cC : W.cell? ⟨pC, 0, none⟩ = some (.int .i64 0)
  below : Below w0.heap.size w0 W
  all : pre.all pred = true
structure RngX (pR : Nat) (w0 : World) (pred : List UInt8 → Bool) (pre : List (List UInt8)) (W : World) : Prop where
  res : W.cell? ⟨pR, 0, none⟩ = some (.bool false)
  below : Below w0.heap.size w0 W
  no : pre.all pred = false
theorem rng_own {fv : Value} {pF pR pP pC : Nat} {c : UInt8} {w0 : World} {pred : List UInt8 → Bool} {B : Nat} (hB : w0.heap.size ≤ B) : OwnFrom B (Rng fv pF pR pP pC c w0 pred) := fun s W W' row h hg hr =>
  ⟨own_cell h.fn hg hr, own_cell h.res hg hr, (frozen_kept h.res hg (fun r e => (hr r e).2)).trans h.frz, own_cell h.cP hg hr, own_cell h.cC hg hr, h.below.grown hg h.below.size (fun k e => Nat.le_trans hB (hr k e).1), h.all⟩
theorem rngX_own {pR : Nat} {w0 : World} {pred : List UInt8 → Bool} {B : Nat} (hB : w0.heap.size ≤ B) : OwnFrom B (RngX pR w0 pred) := fun s W W' row h hg hr =>
  ⟨own_cell h.res hg hr, h.below.grown hg h.below.size (fun k e => Nat.le_trans hB (hr k e).1), h.no⟩
theorem rng_below {fv : Value} {pF pR pP pC : Nat} {c : UInt8} {w0 : World} {pred : List UInt8 → Bool} {pre : List (List UInt8)} {x : List UInt8} {W W' : World} (h : Rng fv pF pR pP pC c w0 pred pre W) (hb : Below W.heap.size W W') (hx : pred x = true) : Rng fv pF pR pP pC c w0 pred (pre ++ [x]) W' :=
  ⟨below_cell hb h.fn, below_cell hb h.res, (below_frozen hb h.res).trans h.frz, below_cell hb h.cP, below_cell hb h.cC, h.below.trans (hb.mono h.below.size), by rw [List.all_append, h.all]; simp [hx]⟩
theorem rng_set {fv : Value} {pF pR pP pC : Nat} {c : UInt8} {w0 : World} {pred : List UInt8 → Bool} {pre : List (List UInt8)} {W : World} {q : Nat} (v : Value) (h : Rng fv pF pR pP pC c w0 pred pre W) (h0 : w0.heap.size ≤ q) (h1 : q ≠ pF) (h2 : q ≠ pR) (h3 : q ≠ pP) (h4 : q ≠ pC) : Rng fv pF pR pP pC c w0 pred pre (W.setCell ⟨q, 0, none⟩ v) := by
  have ne : ∀ p : Nat, q ≠ p → (W.setCell ⟨q, 0, none⟩ v).cell? ⟨p, 0, none⟩ = W.cell? ⟨p, 0, none⟩ := fun p hp => World.cell?_setCell_other _ _ _ _ (by intro e; exact hp (by injection e with e))
  exact ⟨(ne _ h1).trans h.fn, (ne _ h2).trans h.res, by rw [World.frozen?_setCell]; exact h.frz, (ne _ h3).trans h.cP, (ne _ h4).trans h.cC, h.below.setCell (by simpa using h0) _, h.all⟩
set_option maxHeartbeats 2000000 in
theorem tailPart_calls (pred : List UInt8 → Bool) (hp : ∀ (x : List UInt8) (w : World), Inv w → x.length ≤ 30 → Calls Tryz.prog 37 #[.string (ba x)] w fun e w' => e = .returned (.bool (pred x)) ∧ Below w.heap.size w w')
    (s : List UInt8) (w : World) (hI : Inv w) :
    Calls Tryz.prog 35 #[.string (ba s), .func (.func 37) #[] #[]] w fun e w' => e = .returned (.bool (tailS pred s)) ∧ Below w.heap.size w w' := by
  refine (callsIn_wide (n := 9)).1 ?_
  refine callsIn_of_wp_marks Tryz.func35 rfl trivial ?_ rfl
  simp only [Tryz.ntmps35, List.size_toArray, List.length_cons, List.length_nil, Nat.reduceAdd, Nat.reduceSub, Array.replicate_succ, Array.replicate_zero, List.push_toArray, List.append_toArray, List.nil_append, List.cons_append]
  have hsz : (ba s).size = s.length := ba_len s
  by_cases h1 : s = []
  · subst h1
    have he : (ba []).toList.isEmpty = true := by rw [ba_toList]; rfl
    gi_wp2
    refine ⟨_, ret_cell (b := w.heap.size + 1) (v := .bool true) rfl rfl hag (by simp), rfl, ?_⟩
    exact ((Below.refl _ w).alloc (Nat.le_refl _) _).alloc (by simp) _
  have he : (ba s).toList.isEmpty = false := by rw [ba_toList]; simpa using h1
  by_cases h2 : s.length ≤ 30
  · gi_wp2_with (refine ⟨trivial, ?_⟩; gi_at_call 27; refine (callsIn_wide.2 (SplitSeq_calls _ _ _)).mono ?_; rintro e w' ⟨rfl, rfl⟩)
    obtain ⟨W0, hW0, hs0, hb0, g0, g1, g2, g3, g4⟩ := five w (Obj.cells #[Value.func (Fn.func 37) #[] #[]] 27) (Obj.cells #[Value.bool false] 4) (Obj.cells #[Value.string (ba s)] 9) (Obj.cells #[Value.string { data := #[46] }] 9) (Obj.cells #[Value.int IntKind.i64 0] 3)
    rw [hW0]
    clear hW0
    obtain ⟨c0, f0⟩ := boxed_cell g0
    obtain ⟨c1, f1⟩ := boxed_cell g1
    obtain ⟨c2, f2⟩ := boxed_cell g2
    obtain ⟨c3, f3⟩ := boxed_cell g3
    obtain ⟨c4, f4⟩ := boxed_cell g4
    refine range_split (n := 9) (by omega) 46 (w.heap.size + 1 + 1) (w.heap.size + 1 + 1 + 1) (w.heap.size + 1 + 1 + 2) s (by omega) rfl ⟨c2, f2⟩
      (Rng (.func (.func 37) #[] #[]) w.heap.size (w.heap.size + 1) (w.heap.size + 1 + 1 + 1) (w.heap.size + 1 + 1 + 2) 46 w pred) (RngX (w.heap.size + 1) w pred) (rng_own (by omega)) (rngX_own (by omega))
      (fun pre W h => ⟨h.cP, h.cC, (hI.below h.below).maxLen⟩) (fun pre W v h => rng_set v h (by omega) (by omega) (by omega) (by omega) (by omega)) ⟨c0, c1, f1, c3, c4, hb0, rfl⟩
      (fun x => { tmps := #[.string (ba s), .func (.func 37) #[] #[], undef, .pointer (some ⟨w.heap.size, 0, none⟩), .pointer (some ⟨w.heap.size + 1, 0, none⟩), .string (ba x), .string (ba s), .bool false, .string (ba s), .int .i64 s.length, .bool (decide ((30 : Int) < s.length)), .string (ba s),
        .func (.func 60) #[] #[.pointer (some ⟨w.heap.size + 1 + 1 + 1, 0, none⟩), .pointer (some ⟨w.heap.size + 1 + 1, 0, none⟩), .pointer (some ⟨w.heap.size + 1 + 1 + 2, 0, none⟩)], .string (ba x), undef, undef, undef, undef], defers := [] }) ?assign ?body ?done ?stop
    case assign =>
      intro l x W K hK
      gi_wp2
      exact hK
    case body =>
      intro l pre x r W hi hL hx
      have k0 := hi.fn
      have k1 := hi.res
      have k2 := hi.frz
      have hc := hp x W (hI.below hi.below) (by omega)
      cases hpx : pred x with
      | true =>
        rw [hpx] at hc
        gi_wp2_with (refine ⟨trivial, ?_⟩; gi_at_call 37; refine (CallsIn.inRound l (callsIn_wide.2 hc)).mono ?_; rintro e w' ⟨rfl, hb'⟩)
        exact ⟨keeps_below hb', rng_below hi hb' hpx, left_below hL hb'⟩
      | false =>
        rw [hpx] at hc
        gi_wp2_with (refine ⟨trivial, ?_⟩; gi_at_call 37; refine (CallsIn.inRound l (callsIn_wide.2 hc)).mono ?_; rintro e w' ⟨rfl, hb'⟩; have k3 := below_cell hb' hi.res; have k4 := (below_frozen hb' hi.res).trans hi.frz)
        exact ⟨(keeps_below hb').trans (KeepsOthers.setCell _ _ _), World.cell?_setCell_same' _ _ _ (by rw [k3]; rfl), (hi.below.trans (hb'.mono hi.below.size)).setCell (by simp) _, by simp [hpx]⟩
    case done =>
      intro D W hD hi hK
      have k1 := hi.res
      have k2 := hi.frz
      gi_wp2
      have hK' := (KeepsOthers.setCell W ⟨w.heap.size + 1, 0, none⟩ (.bool true)).same D _ hK rfl
      have hW' : Below w.heap.size w (W.setCell ⟨w.heap.size + 1, 0, none⟩ (.bool true)) := hi.below.setCell (by simp) _
      have k5 : (W.setCell ⟨w.heap.size + 1, 0, none⟩ (.bool true)).cell? ⟨w.heap.size + 1, 0, none⟩ = some (.bool true) := World.cell?_setCell_same' _ _ _ (by rw [k1]; rfl)
      generalize W.setCell ⟨w.heap.size + 1, 0, none⟩ (.bool true) = W2 at hK' hW' k5
      refine ⟨by simp, .inl ⟨_, _, rfl, run_takeDeferred hK', ?_⟩⟩
      have hg := grownBy_putObj' W2 D (.deferred none)
      refine ⟨_, ret_cell (b := w.heap.size + 1) (v := .bool true) rfl rfl hag (cell_kept k5 hg (fun r e => by cases e; exact ⟨_, hK', rfl⟩)), ?_, ?_⟩
      · unfold tailS; simp [h1, h2, hi.all]
      · exact hW'.grown hg hW'.size (fun k e => by cases e; omega)
    case stop =>
      intro D pre x t W hD hsp hi hK
      refine ⟨by simp, .inl ⟨_, _, rfl, run_takeDeferred hK, ?_⟩⟩
      have hg := grownBy_putObj' W D (.deferred none)
      refine ⟨_, ret_cell (b := w.heap.size + 1) (v := .bool false) rfl rfl hag (cell_kept hi.res hg (fun r e => by cases e; exact ⟨_, hK, rfl⟩)), ?_, ?_⟩
      · have hn := hi.no
        rw [List.all_append, Bool.and_eq_false_iff] at hn
        have ha : (spl 46 [] s).all pred = false := by
          rw [hsp, List.all_append, Bool.and_eq_false_iff]
          rcases hn with hn | hn
          · exact Or.inl hn
          · refine Or.inr ?_
            simp only [List.all_cons, List.all_nil, Bool.and_true] at hn
            rw [List.all_cons, hn]; rfl
        unfold tailS; simp [h1, ha]
      · exact hi.below.grown hg hi.below.size (fun k e => by cases e; omega)
  · gi_wp2
    refine ⟨_, ret_cell (b := w.heap.size + 1) (v := .bool false) rfl rfl hag (by simp), ?_, ?_⟩
    · unfold tailS; simp [h1, h2]
    · exact ((Below.refl _ w).alloc (Nat.le_refl _) _).alloc (by simp) _
set_option maxHeartbeats 2000000 in
theorem tailPre_calls (pred : List UInt8 → Bool) (hp : ∀ (x : List UInt8) (w : World), Inv w → x.length ≤ 30 → Calls Tryz.prog 36 #[.string (ba x)] w fun e w' => e = .returned (.bool (pred x)) ∧ Below w.heap.size w w')
    (s : List UInt8) (w : World) (hI : Inv w) :
    Calls Tryz.prog 35 #[.string (ba s), .func (.func 36) #[] #[]] w fun e w' => e = .returned (.bool (tailS pred s)) ∧ Below w.heap.size w w' := by
  refine (callsIn_wide (n := 9)).1 ?_
  refine callsIn_of_wp_marks Tryz.func35 rfl trivial ?_ rfl
  simp only [Tryz.ntmps35, List.size_toArray, List.length_cons, List.length_nil, Nat.reduceAdd, Nat.reduceSub, Array.replicate_succ, Array.replicate_zero, List.push_toArray, List.append_toArray, List.nil_append, List.cons_append]
  have hsz : (ba s).size = s.length := ba_len s
  by_cases h1 : s = []
  · subst h1
    have he : (ba []).toList.isEmpty = true := by rw [ba_toList]; rfl
    gi_wp2
    refine ⟨_, ret_cell (b := w.heap.size + 1) (v := .bool true) rfl rfl hag (by simp), rfl, ?_⟩
    exact ((Below.refl _ w).alloc (Nat.le_refl _) _).alloc (by simp) _
  have he : (ba s).toList.isEmpty = false := by rw [ba_toList]; simpa using h1
  by_cases h2 : s.length ≤ 30
  · gi_wp2_with (refine ⟨trivial, ?_⟩; gi_at_call 27; refine (callsIn_wide.2 (SplitSeq_calls _ _ _)).mono ?_; rintro e w' ⟨rfl, rfl⟩)
    obtain ⟨W0, hW0, hs0, hb0, g0, g1, g2, g3, g4⟩ := five w (Obj.cells #[Value.func (Fn.func 36) #[] #[]] 27) (Obj.cells #[Value.bool false] 4) (Obj.cells #[Value.string (ba s)] 9) (Obj.cells #[Value.string { data := #[46] }] 9) (Obj.cells #[Value.int IntKind.i64 0] 3)
    rw [hW0]
    clear hW0
    obtain ⟨c0, f0⟩ := boxed_cell g0
    obtain ⟨c1, f1⟩ := boxed_cell g1
    obtain ⟨c2, f2⟩ := boxed_cell g2
    obtain ⟨c3, f3⟩ := boxed_cell g3
    obtain ⟨c4, f4⟩ := boxed_cell g4
    refine range_split (n := 9) (by omega) 46 (w.heap.size + 1 + 1) (w.heap.size + 1 + 1 + 1) (w.heap.size + 1 + 1 + 2) s (by omega) rfl ⟨c2, f2⟩
      (Rng (.func (.func 36) #[] #[]) w.heap.size (w.heap.size + 1) (w.heap.size + 1 + 1 + 1) (w.heap.size + 1 + 1 + 2) 46 w pred) (RngX (w.heap.size + 1) w pred) (rng_own (by omega)) (rngX_own (by omega))
      (fun pre W h => ⟨h.cP, h.cC, (hI.below h.below).maxLen⟩) (fun pre W v h => rng_set v h (by omega) (by omega) (by omega) (by omega) (by omega)) ⟨c0, c1, f1, c3, c4, hb0, rfl⟩
      (fun x => { tmps := #[.string (ba s), .func (.func 36) #[] #[], undef, .pointer (some ⟨w.heap.size, 0, none⟩), .pointer (some ⟨w.heap.size + 1, 0, none⟩), .string (ba x), .string (ba s), .bool false, .string (ba s), .int .i64 s.length, .bool (decide ((30 : Int) < s.length)), .string (ba s),
        .func (.func 60) #[] #[.pointer (some ⟨w.heap.size + 1 + 1 + 1, 0, none⟩), .pointer (some ⟨w.heap.size + 1 + 1, 0, none⟩), .pointer (some ⟨w.heap.size + 1 + 1 + 2, 0, none⟩)], .string (ba x), undef, undef, undef, undef], defers := [] }) ?assign ?body ?done ?stop
    case assign =>
      intro l x W K hK
      gi_wp2
      exact hK
    case body =>
      intro l pre x r W hi hL hx
      have k0 := hi.fn
      have k1 := hi.res
      have k2 := hi.frz
      have hc := hp x W (hI.below hi.below) (by omega)
      cases hpx : pred x with
      | true =>
        rw [hpx] at hc
        gi_wp2_with (refine ⟨trivial, ?_⟩; gi_at_call 36; refine (CallsIn.inRound l (callsIn_wide.2 hc)).mono ?_; rintro e w' ⟨rfl, hb'⟩)
        exact ⟨keeps_below hb', rng_below hi hb' hpx, left_below hL hb'⟩
      | false =>
        rw [hpx] at hc
        gi_wp2_with (refine ⟨trivial, ?_⟩; gi_at_call 36; refine (CallsIn.inRound l (callsIn_wide.2 hc)).mono ?_; rintro e w' ⟨rfl, hb'⟩; have k3 := below_cell hb' hi.res; have k4 := (below_frozen hb' hi.res).trans hi.frz)
        exact ⟨(keeps_below hb').trans (KeepsOthers.setCell _ _ _), World.cell?_setCell_same' _ _ _ (by rw [k3]; rfl), (hi.below.trans (hb'.mono hi.below.size)).setCell (by simp) _, by simp [hpx]⟩
    case done =>
      intro D W hD hi hK
      have k1 := hi.res
      have k2 := hi.frz
      gi_wp2
      have hK' := (KeepsOthers.setCell W ⟨w.heap.size + 1, 0, none⟩ (.bool true)).same D _ hK rfl
      have hW' : Below w.heap.size w (W.setCell ⟨w.heap.size + 1, 0, none⟩ (.bool true)) := hi.below.setCell (by simp) _
      have k5 : (W.setCell ⟨w.heap.size + 1, 0, none⟩ (.bool true)).cell? ⟨w.heap.size + 1, 0, none⟩ = some (.bool true) := World.cell?_setCell_same' _ _ _ (by rw [k1]; rfl)
      generalize W.setCell ⟨w.heap.size + 1, 0, none⟩ (.bool true) = W2 at hK' hW' k5
      refine ⟨by simp, .inl ⟨_, _, rfl, run_takeDeferred hK', ?_⟩⟩
      have hg := grownBy_putObj' W2 D (.deferred none)
      refine ⟨_, ret_cell (b := w.heap.size + 1) (v := .bool true) rfl rfl hag (cell_kept k5 hg (fun r e => by cases e; exact ⟨_, hK', rfl⟩)), ?_, ?_⟩
      · unfold tailS; simp [h1, h2, hi.all]
      · exact hW'.grown hg hW'.size (fun k e => by cases e; omega)
    case stop =>
      intro D pre x t W hD hsp hi hK
      refine ⟨by simp, .inl ⟨_, _, rfl, run_takeDeferred hK, ?_⟩⟩
      have hg := grownBy_putObj' W D (.deferred none)
      refine ⟨_, ret_cell (b := w.heap.size + 1) (v := .bool false) rfl rfl hag (cell_kept hi.res hg (fun r e => by cases e; exact ⟨_, hK, rfl⟩)), ?_, ?_⟩
      · have hn := hi.no
        rw [List.all_append, Bool.and_eq_false_iff] at hn
        have ha : (spl 46 [] s).all pred = false := by
          rw [hsp, List.all_append, Bool.and_eq_false_iff]
          rcases hn with hn | hn
          · exact Or.inl hn
          · refine Or.inr ?_
            simp only [List.all_cons, List.all_nil, Bool.and_true] at hn
            rw [List.all_cons, hn]; rfl
        unfold tailS; simp [h1, ha]
      · exact hi.below.grown hg hi.below.size (fun k e => by cases e; omega)
  · gi_wp2
    refine ⟨_, ret_cell (b := w.heap.size + 1) (v := .bool false) rfl rfl hag (by simp), ?_, ?_⟩
    · unfold tailS; simp [h1, h2]
    · exact ((Below.refl _ w).alloc (Nat.le_refl _) _).alloc (by simp) _
theorem tailPart_one (x : List UInt8) (w : World) (hI : Inv w) (hx : x.length ≤ 30) : Calls Tryz.prog 37 #[.string (ba x)] w fun e w' => e = .returned (.bool (isPartS x)) ∧ Below w.heap.size w w' := by
  have h := (isPart_ok 100 Inv know_inv).1.2 x (isPartS x) (isPart_spec 100 x (by omega) (by omega))
  refine (h (fun _ _ => False) w #[.string (ba x)] hI (fun b o h => h.elim) ⟨drep_val _, trivial⟩).mono ?_
  rintro e w' ⟨v, Pc, rfl, hb, _, _, hv⟩
  have hv' : v = .bool (isPartS x) := of_val hv
  rw [hv']
  exact ⟨rfl, hb⟩
def tailPart_t (s : List UInt8) (u : Unit) : Option Bool := some (tailS isPartS s)
def tailPart_fc : FC := { f := 35, args := [strA, .one (.c (.fn 37 []))], res := boolA, F := fun p => tailPart_t p.1 p.2 }
theorem tailPart_ok : FCall Inv Tryz.prog tailPart_fc := fun G hG => ⟨⟨by kernel_rfl, fun a r h => by
  obtain ⟨s, u⟩ := a
  have hr : tailS isPartS s = r := Option.some.inj h
  intro Pc w vs hg hlt hv
  obtain ⟨l⟩ := vs
  match l, hv with
  | [x, y], ⟨h1, h2, _⟩ =>
    obtain rfl : x = .string (ba s) := of_val h1
    obtain rfl : y = .func (.func 37) #[] #[] := of_val h2
    refine (tailPart_calls isPartS tailPart_one s w (hG.im w hg)).mono ?_
    rintro e w' ⟨rfl, hb⟩
    subst hr
    exact pc_done rfl hb (drep_val _)⟩, rfl⟩
theorem tailPre_one (x : List UInt8) (w : World) (hI : Inv w) (hx : x.length ≤ 30) : Calls Tryz.prog 36 #[.string (ba x)] w fun e w' => e = .returned (.bool (isPreS x)) ∧ Below w.heap.size w w' := by
  have h := (isPrePart_ok 100 Inv know_inv).1.2 x (isPreS x) (isPre_spec 100 x (by omega) (by omega))
  refine (h (fun _ _ => False) w #[.string (ba x)] hI (fun b o h => h.elim) ⟨drep_val _, trivial⟩).mono ?_
  rintro e w' ⟨v, Pc, rfl, hb, _, _, hv⟩
  have hv' : v = .bool (isPreS x) := of_val hv
  rw [hv']
  exact ⟨rfl, hb⟩
def tailPre_t (s : List UInt8) (u : Unit) : Option Bool := some (tailS isPreS s)
def tailPre_fc : FC := { f := 35, args := [strA, .one (.c (.fn 36 []))], res := boolA, F := fun p => tailPre_t p.1 p.2 }
theorem tailPre_ok : FCall Inv Tryz.prog tailPre_fc := fun G hG => ⟨⟨by kernel_rfl, fun a r h => by
  obtain ⟨s, u⟩ := a
  have hr : tailS isPreS s = r := Option.some.inj h
  intro Pc w vs hg hlt hv
  obtain ⟨l⟩ := vs
  match l, hv with
  | [x, y], ⟨h1, h2, _⟩ =>
    obtain rfl : x = .string (ba s) := of_val h1
    obtain rfl : y = .func (.func 36) #[] #[] := of_val h2
    refine (tailPre_calls isPreS tailPre_one s w (hG.im w hg)).mono ?_
    rintro e w' ⟨rfl, hb⟩
    subst hr
    exact pc_done rfl hb (drep_val _)⟩, rfl⟩
end YtgihkohggalefabGreatDoor.AM
end Go.Proofs
