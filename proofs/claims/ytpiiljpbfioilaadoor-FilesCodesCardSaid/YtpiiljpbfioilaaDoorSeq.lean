/- strings.SplitSeq: what a range over it is handed: the parts, one behind the other. -/
import Derived.RangeFuncNested
import Derived.RangeFuncBound
import Derived.RangeFuncCalls
import Derived.RangeFuncLeaves
import Derived.RangeFuncFrom
import Derived.Shelf.Abstract
import Derived.Shelf.RegionOpen
import Derived.WalkKit
import Derived.OwnWalkIn
import Derived.TacticsInMore
import Derived.LoopNIn
import Derived.LoopIn
import Derived.Ground.NamesProg
import Derived.Shelf.Lay
import Derived.Shelf.LaysM
import Derived.Shelf.Strings.Search3
import Derived.Test.YtpiiljpbfioilaaDoorProg
import Derived.Test.YtpiiljpbfioilaaDoorSpl
namespace Go.Proofs
open Go.RowKit Go.Shelf Go.Lib
attribute [local go_sem] Oper.semAt_some
set_option linter.unusedVariables false
set_option linter.unusedSimpArgs false
shelf_lay LaysM.n143 Nm 143 at Tryd as Tryd.laysIndex
namespace YtpiiljpbfioilaaDoor.AM
theorem spl_miss (c : UInt8) (r : List UInt8) (h : Lib.index r [c] = -1) : spl c [] r = [r] := by
  rw [← splitK_spl, Lib.count_miss h]; rfl
theorem spl_hit (c : UInt8) (r : List UInt8) (i : Nat) (h : Lib.index r [c] = (i : Int)) : spl c [] r = r.take i :: spl c [] (r.drop (i + 1)) := by
  have n1 : ¬ (Lib.index r [c] == -1) = true := fun e => by have := beq_iff_eq.1 e; omega
  rw [← splitK_spl, Lib.count_hit (by simp) h, Nat.add_comm, Lib.splitK, if_neg n1, h]
  simp only [Int.toNat_natCast, Nat.add_zero, List.length_cons, List.length_nil, Nat.zero_add]
  rw [splitK_spl]
theorem index_lt (c : UInt8) (r : List UInt8) (i : Nat) (h : Lib.index r [c] = (i : Int)) : i < r.length := by
  have := Lib.index_room r [c] (by omega)
  rw [h] at this
  simp at this
  omega
def leftS (p : Nat) (w : World) : Nat := match w.cell? ⟨p, 0, none⟩ with
  | some (.string b) => b.size
  | _ => 0
theorem splitSeq_calls (s sep : ByteArray) (w : World) : Calls Tryd.prog 76 #[.string s, .string sep, .int .i64 0] w fun e w' =>
    e = .returned (.func (.func 97) #[] #[.pointer (some ⟨w.heap.size + 1, 0, none⟩), .pointer (some ⟨w.heap.size, 0, none⟩), .pointer (some ⟨w.heap.size + 2, 0, none⟩)]) ∧ w' = ((w.alloc (.cells #[.string s] 9)).alloc (.cells #[.string sep] 9)).alloc (.cells #[.int .i64 0] 3) := by
  go_enter Tryd.func76, Tryd.ntmps76
  go_wp2
  go_ret
  exact ⟨rfl, rfl⟩
theorem SplitSeq_calls (s sep : ByteArray) (w : World) : Calls Tryd.prog 48 #[.string s, .string sep] w fun e w' =>
    e = .returned (.func (.func 97) #[] #[.pointer (some ⟨w.heap.size + 1, 0, none⟩), .pointer (some ⟨w.heap.size, 0, none⟩), .pointer (some ⟨w.heap.size + 2, 0, none⟩)]) ∧ w' = ((w.alloc (.cells #[.string s] 9)).alloc (.cells #[.string sep] 9)).alloc (.cells #[.int .i64 0] 3) := by
  go_enter Tryd.func48, Tryd.ntmps48
  go_wp2_with (go_at_call 76; refine (splitSeq_calls s sep w).mono ?_; rintro e w' ⟨rfl, rfl⟩)
  go_ret
  exact ⟨rfl, rfl⟩
theorem Index_calls (r : List UInt8) (c : UInt8) (w : World) (m : Int) (hr : r.length < 4294967281) (hm : w.cell? ⟨Tryd.laysIndex_ren.g 1, 0, none⟩ = some (.int .i64 m)) :
    Calls Tryd.prog 99 #[.string (ba r), .string (ba [c])] w fun e w' => e = .returned (.int .i64 (Lib.index r [c])) ∧ w = w' := by
  have e1 : (ba r).data.toList = r := by simp [ba]
  have e2 : (ba [c]).data.toList = [c] := by simp [ba]
  have h := Any.strings_Index { Tryd.laysIndex with } (ba r) (ba [c]) m w (by rw [ba_len]; exact hr) hm
  rw [e1, e2] at h
  exact h.mono fun e w' ⟨h1, h2⟩ => ⟨h1, h2.symm⟩
/-- what the iterator has captured, but for the text that is left -/
def Capt (pP pC : Nat) (c : UInt8) (W : World) : Prop := W.cell? ⟨pP, 0, none⟩ = some (.string (ba [c])) ∧ W.cell? ⟨pC, 0, none⟩ = some (.int .i64 0) ∧ ∃ m, W.cell? ⟨Tryd.laysIndex_ren.g 1, 0, none⟩ = some (.int .i64 m)
def Left (pS : Nat) (r : List UInt8) (W : World) : Prop := W.cell? ⟨pS, 0, none⟩ = some (.string (ba r)) ∧ W.frozen? ⟨pS, 0, none⟩ = false
theorem leftS_of {pS : Nat} {r : List UInt8} {W : World} (h : Left pS r W) : leftS pS W = r.length := by
  unfold leftS; rw [h.1]; exact ba_len r
set_option maxHeartbeats 2000000 in
theorem seq_in (n l : Nat) (hn : 2 ≤ n) (c : UInt8) (pS pP pC : Nat) (J Jx : List (List UInt8) → World → Prop) (s : List UInt8) (hs : s.length < 4294967281)
    (hJ : ∀ pre W v, J pre W → J pre (W.setCell ⟨pS, 0, none⟩ v)) (hC : ∀ pre W, J pre W → Capt pP pC c W)
    (hY : ∀ pre x r W, J pre W → Left pS r W → x.length ≤ s.length → YieldAt Fence.wide (n - 1) Tryd.prog l #[.string (ba x)] W fun e W' =>
      (e = .returned (.bool true) ∧ J (pre ++ [x]) W' ∧ Left pS r W') ∨ (e = .returned (.bool false) ∧ Jx (pre ++ [x]) W'))
    (W : World) (h0 : J [] W) (hL : Left pS s W) :
    CallsIn Fence.wide n Tryd.prog 97 #[.func (.yield l) #[] #[], .pointer (some ⟨pP, 0, none⟩), .pointer (some ⟨pS, 0, none⟩), .pointer (some ⟨pC, 0, none⟩)] W fun e W' =>
      (∃ v, e = .returned v) ∧ (J (spl c [] s) W' ∨ ∃ pre x t, spl c [] s = pre ++ x :: t ∧ Jx (pre ++ [x]) W') := by
  refine callsIn_of_wp Tryd.func97 rfl trivial ?_ rfl
  simp only [Tryd.ntmps97, List.size_toArray, List.length_cons, List.length_nil, Nat.reduceAdd, Nat.reduceSub, Array.replicate_succ, Array.replicate_zero, List.push_toArray, List.append_toArray, List.nil_append, List.cons_append]
  obtain ⟨cP, cC, m0, cM⟩ := hC [] W h0
  have hb1 : (ba [c]).size = 1 := ba_len [c]
  gi_wp2
  gi_loopw [] (fun wr => ∃ (pre : List (List UInt8)) (r : List UInt8), spl c [] s = pre ++ spl c [] r ∧ r.length ≤ s.length ∧ J pre wr ∧ Left pS r wr) (fun wr => leftS pS wr)
  case atStart => exact ⟨[], s, rfl, Nat.le_refl _, h0, hL⟩
  case round =>
    obtain ⟨pre, r, hsp, hrl, hJr, hLr⟩ := hrel
    obtain ⟨dP, dC, m, dM⟩ := hC pre wr hJr
    obtain ⟨dS, dF⟩ := hLr
    have hbr : (ba r).size = r.length := ba_len r
    by_cases hix : Lib.index r [c] = -1
    · obtain ⟨fn, tmps, assign, body, hy, hR⟩ := hY pre r r wr hJr ⟨dS, dF⟩ hrl
      gi_wp2_with (refine ⟨trivial, fun h => (by cases h), ?_⟩; gi_at_call 99; refine (callsIn_wide.2 (Index_calls r c wr m (by omega) dM)).mono ?_; rw [hix]; rintro e w' ⟨rfl, rfl⟩)
      refine ⟨fun h => (by cases h), hR.mono ?_⟩
      rintro e W' (⟨rfl, hJ3, hL3⟩ | ⟨rfl, hJx⟩)
      · gi_wp2
        go_end0
        exact ⟨⟨_, rfl⟩, .inl (by rw [hsp, spl_miss c r hix]; exact hJ3)⟩
      · gi_wp2
        go_end0
        exact ⟨⟨_, rfl⟩, .inr ⟨pre, r, [], by rw [hsp, spl_miss c r hix], hJx⟩⟩
    · have hge := Lib.index_ge r [c]
      obtain ⟨i, hi⟩ : ∃ i : Nat, Lib.index r [c] = (i : Int) := ⟨(Lib.index r [c]).toNat, by omega⟩
      have hlt := index_lt c r i hi
      have b1 : ((i : Nat) : Int) ≤ (((ba r).size : Nat) : Int) := by omega
      have x1 : (ba r).extract 0 i = ba (r.take i) := by rw [ba_extract]; simp
      obtain ⟨fn, tmps, assign, body, hy, hR⟩ := hY pre (r.take i) r wr hJr ⟨dS, dF⟩ (by rw [List.length_take]; omega)
      gi_wp2_with (refine ⟨trivial, fun h => (by cases h), ?_⟩; gi_at_call 99; refine (callsIn_wide.2 (Index_calls r c wr m (by omega) dM)).mono ?_; rw [hi]; rintro e w' ⟨rfl, rfl⟩)
      have hsp2 := spl_hit c r i hi
      refine ⟨fun h => (by cases h), hR.mono ?_⟩
      rintro e W' (⟨rfl, hJ3, hL3⟩ | ⟨rfl, hJx⟩)
      · obtain ⟨eP, eC, m', eM⟩ := hC _ W' hJ3
        obtain ⟨eS, eF⟩ := hL3
        have b2 : ((i : Nat) : Int) + 1 ≤ (((ba r).size : Nat) : Int) := by omega
        have x2 : (ba r).extract (i + 1) r.length = ba (r.drop (i + 1)) := by
          rw [ba_extract, List.take_of_length_le (by rw [List.length_drop]; exact Nat.le_refl _)]
        gi_wp2
        have hL4 : Left pS (r.drop (i + 1)) (W'.setCell ⟨pS, 0, none⟩ (.string (ba (r.drop (i + 1))))) := ⟨World.cell?_setCell_same' _ _ _ (by rw [eS]; rfl), by rw [World.frozen?_setCell]; exact eF⟩
        exact ⟨⟨pre ++ [r.take i], r.drop (i + 1), by rw [hsp, hsp2]; simp, by rw [List.length_drop]; omega, hJ _ _ _ hJ3, hL4⟩, by rw [leftS_of hL4, leftS_of ⟨dS, dF⟩, List.length_drop]; omega⟩
      · gi_wp2
        refine bodyPost_ret (results_none rfl _ _ _) rfl ?_
        exact ⟨⟨_, rfl⟩, .inr ⟨pre, r.take i, spl c [] (r.drop (i + 1)), by rw [hsp, hsp2], hJx⟩⟩
/-- how a round may be left -/
def partPost (I Ix : List (List UInt8) → World → Prop) (pS : Nat) (r : List UInt8) (xs : List (List UInt8)) (W : World) : Exit → Act → World → Prop
  | .normal, _, W' => KeepsOthers W W' ∧ I xs W' ∧ Left pS r W'
  | .ret, _, W' => KeepsOthers W W' ∧ Ix xs W'
  | _, _, _ => False
theorem own_cell {B : Nat} {a : Addr} {v : Value} {W W' : World} {row : Option Nat} (h : W.cell? a = some v) (hg : W.grownBy W' row) (hr : ∀ r, row = some r → B ≤ r ∧ ∃ o : Obj, W.heap[r]? = some o ∧ o.isCells = false) : W'.cell? a = some v :=
  cell_kept h hg (fun r e => (hr r e).2)
theorem own_left {B pS : Nat} {r : List UInt8} {W W' : World} {row : Option Nat} (h : Left pS r W) (hg : W.grownBy W' row) (hr : ∀ r, row = some r → B ≤ r ∧ ∃ o : Obj, W.heap[r]? = some o ∧ o.isCells = false) : Left pS r W' :=
  ⟨own_cell h.1 hg hr, (frozen_kept h.1 hg (fun r e => (hr r e).2)).trans h.2⟩
/-- **A range over the parts of a text.** -/
theorem range_split {n : Nat} (hn : 4 ≤ n) {g : Operand} {p : Tmp} {assign body : Code} {Q : Exit → Act → World → Prop} {a : Act} {w : World} (c : UInt8) (pS pP pC : Nat) (s : List UInt8) (hs : s.length < 4294967281)
    (hg : a.eval g = .func (.func 97) #[] #[.pointer (some ⟨pP, 0, none⟩), .pointer (some ⟨pS, 0, none⟩), .pointer (some ⟨pC, 0, none⟩)]) (hL : Left pS s w)
    (I Ix : List (List UInt8) → World → Prop) (hI : OwnFrom w.heap.size I) (hIx : OwnFrom w.heap.size Ix) (hC : ∀ pre W, I pre W → Capt pP pC c W) (hSt : ∀ pre W v, I pre W → I pre (W.setCell ⟨pS, 0, none⟩ v)) (h0 : I [] w)
    (a₁ : List UInt8 → Act)
    (hassign : ∀ (l : Nat) (x : List UInt8) (W : World) (K : Act → World → Prop), K (a₁ x) W →
      assign.wpIn (Fence.wide.inRound l) (n - 1 - 1) Tryd.prog (Exit.then K (fun _ _ _ => False)) { tmps := a.tmps.setIfInBounds p (.string (ba x)), defers := [] } W)
    (hbody : ∀ (l : Nat) (pre : List (List UInt8)) (x r : List UInt8) (W : World), I pre W → Left pS r W → x.length ≤ s.length → body.wpIn (Fence.wide.inRound l) (n - 1 - 1) Tryd.prog (partPost I Ix pS r (pre ++ [x]) W) (a₁ x) W)
    (hdone : ∀ (D : Nat) (W : World), w.heap.size ≤ D → I (spl c [] s) W → W.heap[D]? = some (.deferred (some [])) → Q .normal { a with defers := { target := .collected D, args := #[] } :: a.defers } W)
    (hstop : ∀ (D : Nat) (pre : List (List UInt8)) (x : List UInt8) (t : List (List UInt8)) (W : World), w.heap.size ≤ D → spl c [] s = pre ++ x :: t → Ix (pre ++ [x]) W → W.heap[D]? = some (.deferred (some [])) → Q .ret { a with defers := { target := .collected D, args := #[] } :: a.defers } W) :
    (Code.rangeFunc g #[p] assign body).wpIn Fence.wide n Tryd.prog Q a w := by
  refine wpIn_rangeFunc fun fn hfn => ?_
  generalize hrec : (fun st pe => ({ state := st, pending := pe, fn, tmps := a.tmps, params := #[p], assign, body, defers := w.heap.size } : Loop)) = rec
  have hr1 : ∀ st pe, rec st pe = { state := st, pending := pe, fn, tmps := a.tmps, params := #[p], assign, body, defers := w.heap.size } := fun st pe => by rw [← hrec]
  generalize hW1 : (w.alloc (.deferred (some []))).alloc (.loop (rec .ready none)) = W1
  have hk1 : W1.heap[w.heap.size]? = some (.deferred (some [])) := by
    rw [← hW1]; exact (Below.heap_alloc _ _ _ (by simp)).trans (World.alloc_heap_new w _)
  have hl1 : W1.heap[w.heap.size + 1]? = some (.loop (rec .ready none)) := by
    have := World.alloc_heap_new (w.alloc (.deferred (some []))) (.loop (rec .ready none))
    rw [World.size_alloc] at this
    rw [← hW1]; exact this
  have hi1 : I [] W1 := by rw [← hW1]; exact hI.alloc _ (hI.alloc _ h0)
  have hL1 : Left pS s W1 := by
    rw [← hW1]
    exact own_left (own_left hL (World.grownBy_alloc w _ none) (B := 0) (fun r e => by cases e)) (World.grownBy_alloc _ _ none) (B := 0) (fun r e => by cases e)
  -- a cell that is stored leaves the record and the calls' block as they were
  have keep : ∀ {W : World} {k : Nat} {o : Obj} {v : Value}, W.heap[k]? = some o → o.isCells = false → (W.setCell ⟨pS, 0, none⟩ v).heap[k]? = some o := fun h ho => (KeepsOthers.setCell _ _ _).same _ _ h ho
  refine ⟨w.heap.size + 1, [{ target := .collected w.heap.size, args := #[] }], W1, { target := .fn (.func 97) #[.pointer (some ⟨pP, 0, none⟩), .pointer (some ⟨pS, 0, none⟩), .pointer (some ⟨pC, 0, none⟩)], args := #[.func (.yield (w.heap.size + 1)) #[] #[]] }, W1, 97,
    #[.func (.yield (w.heap.size + 1)) #[] #[], .pointer (some ⟨pP, 0, none⟩), .pointer (some ⟨pS, 0, none⟩), .pointer (some ⟨pC, 0, none⟩)], W1, ?_, ?_, fun _ _ => trivial, ?_, (fun h => by cases h), ?_⟩
  · rw [← hW1, hr1]; exact run_enterLoop_outer _ _ _ _ _
  · simp only [resolve, hg]
    simp [go_sem]
  · have eg : ∀ args w, (callFunc 97 args).run Tryd.prog w = .ok (.enter 97 args) w := enters_of Tryd.func97 (by kernel_rfl) rfl
    simp [invoke, go_sem, eg]
  · refine (seq_in (n - 1) (w.heap.size + 1) (by omega) c pS pP pC
      (fun pre W => I pre W ∧ W.heap[w.heap.size + 1]? = some (.loop (rec .ready none)) ∧ W.heap[w.heap.size]? = some (.deferred (some [])))
      (fun pre W => Ix pre W ∧ W.heap[w.heap.size + 1]? = some (.loop (rec .done (some .ret))) ∧ W.heap[w.heap.size]? = some (.deferred (some [])))
      s hs (fun pre W v h => ⟨hSt pre W v h.1, keep h.2.1 rfl, keep h.2.2 rfl⟩) (fun pre W h => hC pre W h.1) ?_ W1 ⟨hi1, hl1, hk1⟩ hL1).mono ?_
    · rintro pre x r W ⟨hi, hl, hk⟩ hLr hx
      have hy := run_yield (P := Tryd.prog) (args := #[.string (ba x)]) hl (by rw [hr1]; rfl)
      rw [hr1] at hy
      have hz : (Array.zip #[p] #[Value.string (ba x)]).foldl (fun tmps (t, a) => tmps.setIfInBounds t a) a.tmps = a.tmps.setIfInBounds p (.string (ba x)) := by simp
      dsimp only at hy
      rw [hz] at hy
      refine ⟨fn, _, assign, body, hy, roundIn_of_wpIn hfn (hassign _ x W _ ?_)⟩
      refine ⟨_, run_beginRound hl (by rw [hr1]), ?_⟩
      have hlt : w.heap.size + 1 < W.heap.size := (Array.getElem?_eq_some_iff.1 hl).1
      generalize hW2 : W.putObj (w.heap.size + 1) (.loop { rec .ready none with state := .busy }) = W2
      have hl2 : W2.heap[w.heap.size + 1]? = some (.loop { rec .ready none with state := .busy }) := by rw [← hW2]; exact World.putObj_heap_same hlt
      have hk2 : W2.heap[w.heap.size]? = some (.deferred (some [])) := by rw [← hW2]; exact (World.putObj_heap_other (by omega)).trans hk
      have hi2 : I pre W2 := by rw [← hW2]; exact hI.putObj _ hi (by omega) hl rfl
      have hL2 : Left pS r W2 := by rw [← hW2]; exact own_left hLr (grownBy_putObj' _ _ _) (B := 0) (fun r e => by cases e; exact ⟨Nat.zero_le _, _, hl, rfl⟩)
      have fin : ∀ (jump : Option Code) (W3 : World), KeepsOthers W2 W3 → (Instr.endRound (w.heap.size + 1) jump).run Tryd.prog W3 = .ok (.bool jump.isNone) (W3.putObj (w.heap.size + 1) (.loop (rec (if jump.isNone then .ready else .done) jump))) ∧
          W3.heap[w.heap.size + 1]? = some (.loop { rec .ready none with state := .busy }) ∧
          (W3.putObj (w.heap.size + 1) (.loop (rec (if jump.isNone then .ready else .done) jump))).heap[w.heap.size + 1]? = some (.loop (rec (if jump.isNone then .ready else .done) jump)) ∧
          (W3.putObj (w.heap.size + 1) (.loop (rec (if jump.isNone then .ready else .done) jump))).heap[w.heap.size]? = some (.deferred (some [])) := fun jump W3 hk3 => by
        have hl3 := hk3.same _ _ hl2 rfl
        have he := run_endRound (P := Tryd.prog) jump hl3
        rw [hr1] at he
        refine ⟨by rw [hr1]; exact he, hl3, World.putObj_heap_same (Array.getElem?_eq_some_iff.1 hl3).1, (World.putObj_heap_other (by omega)).trans (hk3.same _ _ hk2 rfl)⟩
      refine wpIn_mono (hbody _ pre x r W2 hi2 hL2 hx) ?_
      rintro e a3 W3 hp
      cases e with
      | normal =>
        obtain ⟨q1, q2, q3⟩ := hp
        obtain ⟨f1, f2, f3, f4⟩ := fin none W3 q1
        exact ⟨_, _, f1, .inl ⟨rfl, ⟨hI.putObj _ q2 (by omega) f2 rfl, f3, f4⟩, own_left q3 (grownBy_putObj' _ _ _) (B := 0) (fun r e => by cases e; exact ⟨Nat.zero_le _, _, f2, rfl⟩)⟩⟩
      | ret =>
        obtain ⟨q1, q2⟩ := hp
        obtain ⟨f1, f2, f3, f4⟩ := fin (some .ret) W3 q1
        exact ⟨_, _, f1, .inr ⟨rfl, hIx.putObj _ q2 (by omega) f2 rfl, f3, f4⟩⟩
      | _ => exact hp.elim
    · rintro e W2 ⟨⟨v, rfl⟩, (⟨hi, hl, hk⟩ | ⟨pre, x, t, hsp, hi, hl, hk⟩)⟩
      · have he := run_endLoop (P := Tryd.prog) hl (by rw [hr1]; simp)
        rw [hr1] at he
        exact ⟨none, _, he, hdone _ _ (Nat.le_refl _) (hI.putObj _ hi (by omega) hl rfl) ((World.putObj_heap_other (by omega)).trans hk)⟩
      · have he := run_endLoop (P := Tryd.prog) hl (by rw [hr1]; simp)
        rw [hr1] at he
        exact ⟨some .ret, _, he, wpIn_ret (hstop _ pre x t _ (Nat.le_refl _) hsp (hIx.putObj _ hi (by omega) hl rfl) ((World.putObj_heap_other (by omega)).trans hk))⟩
end YtpiiljpbfioilaaDoor.AM
end Go.Proofs
