/- One text of Card, Seq, TreC, FilC, Ord, VerM, MpM, FilG0, Pure, FilP0, RngF (mk/pack.py). -/
import Derived.Handed
import Derived.HandedShaped
import Derived.LaidOnce
import Derived.RangeFuncNested
import Derived.RangeFuncBound
import Derived.RangeFuncCalls
import Derived.RangeFuncLeaves
import Derived.RangeFuncFrom
import Derived.Shelf.Abstract
import Derived.Shelf.RegionOpen
import Derived.WalkKit
import Derived.OwnWalkIn
import Derived.TacticsInMore
import Derived.LoopNIn
import Derived.LoopIn
import Derived.Ground.NamesProg
import Derived.Shelf.Lay
import Derived.Shelf.LaysM
import Derived.Shelf.Strings.Search3
import Derived.Test.YtngbpbncipjimabGreatDoorProg
import Derived.Test.YtngbpbncipjimabGreatDoorTq5
import Derived.Test.YtngbpbncipjimabGreatDoorRows
import Derived.LaidLaws
import Derived.Stop.LaidErr
import Derived.Lib.LaidTab
import Derived.Deep.MidRow
import Derived.Lib.Bytealg
import GoSem.Op.String
import Derived.Lib.ItoaNum
import Derived.Lib.AtoiAll
import Derived.Lib.SlTrimSet
/- For rows that list variables: the frame that hands on the world's shape. -/
namespace Go.Proofs.YtngbpbncipjimabGreatDoor.AM
open Go
theorem handed_and_shaped {H : Type} {enc : TypeId × Value → H} {a : Assume} {C : Checked} {os : Os} {f : FuncId} {fn : Func} {s : ChangeSpec} {conds : List PathCond} {apart fresh handsOn again : Bool} {X : World → Array Value → Prop}
    (hX : ∀ (w w' : World) (args : Array Value), w.heap = w'.heap → X w args → X w' args)
    (own : ownKnob C.prog.godebug = none) (started : os.Started) (noInit : C.prog.inits.idxOf? f = none) (hfn : C.prog.funcs[f]? = some fn)
    (witness : ∃ (w : World) (tape : Tape) (i : Input), w.os = os ∧ (w.forCall tape i).Shaped C.prog ∧ i.vars = [] ∧ Input.okWide C.prog (w.forCall tape i) .any w.heap.size f i ∧
      ((s.pre enc C.prog fn conds apart (w.forCall tape i).memory i.args ∧ X (w.forCall tape i).memory i.args) ∧ sizedMet enc C.prog fn (OpenSpec.ofChange s) apart (w.forCall tape i).memory i.args) ∧ a.holds C.prog (lone (Frame.enter C.prog f i.args .normal) [] (w.forCall tape i)))
    (contract : ∀ (W : World) (base : Nat) (args : Array Value) (ds gs : List (DataW H)) (before : List MemPlace),
      (∀ (j : Nat) t v, fn.params[j]? = some t → args[j]? = some v → Value.okWide C.prog W .any base t v) →
      DataW.Whole enc C.prog fn.params.toList s.vars apart W args.toList ds gs before →
      conds.all (PathCond.test C.prog ⟨fn.params.toList, ds, s.plain.varTypes C.prog, gs⟩) = true → X W args →
      W.ShapedOpen C.prog →
      a.holds C.prog (lone (Frame.enter C.prog f args .normal) [] W) →
      Calls C.prog f args W fun e W' => ∃ v, e = .returned v ∧ s.post enc C.prog fn apart fresh handsOn again W args v W') :
    ReturnsInHanded a C os f .any (fun w args => (s.pre enc C.prog fn conds apart w args ∧ X w args) ∧ sizedMet enc C.prog fn (OpenSpec.ofChange s) apart w args) (s.post enc C.prog fn apart fresh handsOn again) := by
  refine returnsInHanded_of_calls own started noInit witness ?_
  intro w tape i _ hsh _ hok hpre hholds
  obtain ⟨_, _, _, fn', hfn', _, _, _, _, hval⟩ := hok
  have e : fn' = fn := Option.some.inj (hfn'.symm.trans hfn)
  subst e
  obtain ⟨⟨⟨ds, gs, before, hw, hc⟩, hx⟩, hz⟩ := hpre
  have hw' := DataW.Whole.of_heap (w' := w.forCall tape i) (by rfl) hw
  refine (contract (w.forCall tape i) w.heap.size i.args ds gs before hval hw' hc (hX _ _ _ (by rfl) hx) hsh hholds).mono fun e W' ⟨v, he, hp⟩ => ?_
  subst he
  exact ChangeSpec.post_blind hp
end Go.Proofs.YtngbpbncipjimabGreatDoor.AM

/- strings.SplitSeq: what a range over it is handed: the parts, one behind the other. -/
namespace Go.Proofs
open Go.RowKit Go.Shelf Go.Lib
attribute [local go_sem] Oper.semAt_some
set_option linter.unusedVariables false
set_option linter.unusedSimpArgs false
shelf_lay LaysM.n143 Nm 143 at Tryz as Tryz.laysIndex
namespace YtngbpbncipjimabGreatDoor.AM
theorem spl_miss (c : UInt8) (r : List UInt8) (h : Lib.index r [c] = -1) : spl c [] r = [r] := by
  rw [← splitK_spl, Lib.count_miss h]; rfl
theorem spl_hit (c : UInt8) (r : List UInt8) (i : Nat) (h : Lib.index r [c] = (i : Int)) : spl c [] r = r.take i :: spl c [] (r.drop (i + 1)) := by
  have n1 : ¬ (Lib.index r [c] == -1) = true := fun e => by have := beq_iff_eq.1 e; omega
  rw [← splitK_spl, Lib.count_hit (by simp) h, Nat.add_comm, Lib.splitK, if_neg n1, h]
  simp only [Int.toNat_natCast, Nat.add_zero, List.length_cons, List.length_nil, Nat.zero_add]
  rw [splitK_spl]
theorem index_lt (c : UInt8) (r : List UInt8) (i : Nat) (h : Lib.index r [c] = (i : Int)) : i < r.length := by
  have := Lib.index_room r [c] (by omega)
  rw [h] at this
  simp at this
  omega
def leftS (p : Nat) (w : World) : Nat := match w.cell? ⟨p, 0, none⟩ with
  | some (.string b) => b.size
  | _ => 0
theorem splitSeq_calls (s sep : ByteArray) (w : World) : Calls Tryz.prog 83 #[.string s, .string sep, .int .i64 0] w fun e w' =>
    e = .returned (.func (.func 102) #[] #[.pointer (some ⟨w.heap.size + 1, 0, none⟩), .pointer (some ⟨w.heap.size, 0, none⟩), .pointer (some ⟨w.heap.size + 2, 0, none⟩)]) ∧ w' = ((w.alloc (.cells #[.string s] 9)).alloc (.cells #[.string sep] 9)).alloc (.cells #[.int .i64 0] 3) := by
  go_enter Tryz.func83, Tryz.ntmps83
  go_wp2
  go_ret
  exact ⟨rfl, rfl⟩
theorem SplitSeq_calls (s sep : ByteArray) (w : World) : Calls Tryz.prog 56 #[.string s, .string sep] w fun e w' =>
    e = .returned (.func (.func 102) #[] #[.pointer (some ⟨w.heap.size + 1, 0, none⟩), .pointer (some ⟨w.heap.size, 0, none⟩), .pointer (some ⟨w.heap.size + 2, 0, none⟩)]) ∧ w' = ((w.alloc (.cells #[.string s] 9)).alloc (.cells #[.string sep] 9)).alloc (.cells #[.int .i64 0] 3) := by
  go_enter Tryz.func56, Tryz.ntmps56
  go_wp2_with (go_at_call 83; refine (splitSeq_calls s sep w).mono ?_; rintro e w' ⟨rfl, rfl⟩)
  go_ret
  exact ⟨rfl, rfl⟩
theorem Index_calls (r : List UInt8) (c : UInt8) (w : World) (m : Int) (hr : r.length < 4294967281) (hm : w.cell? ⟨Tryz.laysIndex_ren.g 1, 0, none⟩ = some (.int .i64 m)) :
    Calls Tryz.prog 104 #[.string (ba r), .string (ba [c])] w fun e w' => e = .returned (.int .i64 (Lib.index r [c])) ∧ w = w' := by
  have e1 : (ba r).data.toList = r := by simp [ba]
  have e2 : (ba [c]).data.toList = [c] := by simp [ba]
  have h := Any.strings_Index { Tryz.laysIndex with } (ba r) (ba [c]) m w (by rw [ba_len]; exact hr) hm
  rw [e1, e2] at h
  exact h.mono fun e w' ⟨h1, h2⟩ => ⟨h1, h2.symm⟩
/-- what the iterator has captured, but for the text that is left -/
def Capt (pP pC : Nat) (c : UInt8) (W : World) : Prop := W.cell? ⟨pP, 0, none⟩ = some (.string (ba [c])) ∧ W.cell? ⟨pC, 0, none⟩ = some (.int .i64 0) ∧ ∃ m, W.cell? ⟨Tryz.laysIndex_ren.g 1, 0, none⟩ = some (.int .i64 m)
def Left (pS : Nat) (r : List UInt8) (W : World) : Prop := W.cell? ⟨pS, 0, none⟩ = some (.string (ba r)) ∧ W.frozen? ⟨pS, 0, none⟩ = false
theorem leftS_of {pS : Nat} {r : List UInt8} {W : World} (h : Left pS r W) : leftS pS W = r.length := by
  unfold leftS; rw [h.1]; exact ba_len r
set_option maxHeartbeats 2000000 in
theorem seq_in (n l : Nat) (hn : 2 ≤ n) (c : UInt8) (pS pP pC : Nat) (J Jx : List (List UInt8) → World → Prop) (s : List UInt8) (hs : s.length < 4294967281)
    (hJ : ∀ pre W v, J pre W → J pre (W.setCell ⟨pS, 0, none⟩ v)) (hC : ∀ pre W, J pre W → Capt pP pC c W)
    (hY : ∀ pre x r W, J pre W → Left pS r W → x.length ≤ s.length → YieldAt Fence.wide (n - 1) Tryz.prog l #[.string (ba x)] W fun e W' =>
      (e = .returned (.bool true) ∧ J (pre ++ [x]) W' ∧ Left pS r W') ∨ (e = .returned (.bool false) ∧ Jx (pre ++ [x]) W'))
    (W : World) (h0 : J [] W) (hL : Left pS s W) :
    CallsIn Fence.wide n Tryz.prog 102 #[.func (.yield l) #[] #[], .pointer (some ⟨pP, 0, none⟩), .pointer (some ⟨pS, 0, none⟩), .pointer (some ⟨pC, 0, none⟩)] W fun e W' =>
      (∃ v, e = .returned v) ∧ (J (spl c [] s) W' ∨ ∃ pre x t, spl c [] s = pre ++ x :: t ∧ Jx (pre ++ [x]) W') := by
  refine callsIn_of_wp Tryz.func102 rfl trivial ?_ rfl
  simp only [Tryz.ntmps102, List.size_toArray, List.length_cons, List.length_nil, Nat.reduceAdd, Nat.reduceSub, Array.replicate_succ, Array.replicate_zero, List.push_toArray, List.append_toArray, List.nil_append, List.cons_append]
  obtain ⟨cP, cC, m0, cM⟩ := hC [] W h0
  have hb1 : (ba [c]).size = 1 := ba_len [c]
  gi_wp2
  gi_loopw [] (fun wr => ∃ (pre : List (List UInt8)) (r : List UInt8), spl c [] s = pre ++ spl c [] r ∧ r.length ≤ s.length ∧ J pre wr ∧ Left pS r wr) (fun wr => leftS pS wr)
  case atStart => exact ⟨[], s, rfl, Nat.le_refl _, h0, hL⟩
  case round =>
    obtain ⟨pre, r, hsp, hrl, hJr, hLr⟩ := hrel
    obtain ⟨dP, dC, m, dM⟩ := hC pre wr hJr
    obtain ⟨dS, dF⟩ := hLr
    have hbr : (ba r).size = r.length := ba_len r
    by_cases hix : Lib.index r [c] = -1
    · obtain ⟨fn, tmps, assign, body, hy, hR⟩ := hY pre r r wr hJr ⟨dS, dF⟩ hrl
      gi_wp2_with (refine ⟨trivial, fun h => (by cases h), ?_⟩; gi_at_call 104; refine (callsIn_wide.2 (Index_calls r c wr m (by omega) dM)).mono ?_; rw [hix]; rintro e w' ⟨rfl, rfl⟩)
      refine ⟨fun h => (by cases h), hR.mono ?_⟩
      rintro e W' (⟨rfl, hJ3, hL3⟩ | ⟨rfl, hJx⟩)
      · gi_wp2
        go_end0
        exact ⟨⟨_, rfl⟩, .inl (by rw [hsp, spl_miss c r hix]; exact hJ3)⟩
      · gi_wp2
        go_end0
        exact ⟨⟨_, rfl⟩, .inr ⟨pre, r, [], by rw [hsp, spl_miss c r hix], hJx⟩⟩
    · have hge := Lib.index_ge r [c]
      obtain ⟨i, hi⟩ : ∃ i : Nat, Lib.index r [c] = (i : Int) := ⟨(Lib.index r [c]).toNat, by omega⟩
      have hlt := index_lt c r i hi
      have b1 : ((i : Nat) : Int) ≤ (((ba r).size : Nat) : Int) := by omega
      have x1 : (ba r).extract 0 i = ba (r.take i) := by rw [ba_extract]; simp
      obtain ⟨fn, tmps, assign, body, hy, hR⟩ := hY pre (r.take i) r wr hJr ⟨dS, dF⟩ (by rw [List.length_take]; omega)
      gi_wp2_with (refine ⟨trivial, fun h => (by cases h), ?_⟩; gi_at_call 104; refine (callsIn_wide.2 (Index_calls r c wr m (by omega) dM)).mono ?_; rw [hi]; rintro e w' ⟨rfl, rfl⟩)
      have hsp2 := spl_hit c r i hi
      refine ⟨fun h => (by cases h), hR.mono ?_⟩
      rintro e W' (⟨rfl, hJ3, hL3⟩ | ⟨rfl, hJx⟩)
      · obtain ⟨eP, eC, m', eM⟩ := hC _ W' hJ3
        obtain ⟨eS, eF⟩ := hL3
        have b2 : ((i : Nat) : Int) + 1 ≤ (((ba r).size : Nat) : Int) := by omega
        have x2 : (ba r).extract (i + 1) r.length = ba (r.drop (i + 1)) := by
          rw [ba_extract, List.take_of_length_le (by rw [List.length_drop]; exact Nat.le_refl _)]
        gi_wp2
        have hL4 : Left pS (r.drop (i + 1)) (W'.setCell ⟨pS, 0, none⟩ (.string (ba (r.drop (i + 1))))) := ⟨World.cell?_setCell_same' _ _ _ (by rw [eS]; rfl), by rw [World.frozen?_setCell]; exact eF⟩
        exact ⟨⟨pre ++ [r.take i], r.drop (i + 1), by rw [hsp, hsp2]; simp, by rw [List.length_drop]; omega, hJ _ _ _ hJ3, hL4⟩, by rw [leftS_of hL4, leftS_of ⟨dS, dF⟩, List.length_drop]; omega⟩
      · gi_wp2
        refine bodyPost_ret (results_none rfl _ _ _) rfl ?_
        exact ⟨⟨_, rfl⟩, .inr ⟨pre, r.take i, spl c [] (r.drop (i + 1)), by rw [hsp, hsp2], hJx⟩⟩
/-- how a round may be left -/
def partPost (I Ix : List (List UInt8) → World → Prop) (pS : Nat) (r : List UInt8) (xs : List (List UInt8)) (W : World) : Exit → Act → World → Prop
  | .normal, _, W' => KeepsOthers W W' ∧ I xs W' ∧ Left pS r W'
  | .ret, _, W' => KeepsOthers W W' ∧ Ix xs W'
  | _, _, _ => False
theorem own_cell {B : Nat} {a : Addr} {v : Value} {W W' : World} {row : Option Nat} (h : W.cell? a = some v) (hg : W.grownBy W' row) (hr : ∀ r, row = some r → B ≤ r ∧ ∃ o : Obj, W.heap[r]? = some o ∧ o.isCells = false) : W'.cell? a = some v :=
  cell_kept h hg (fun r e => (hr r e).2)
theorem own_left {B pS : Nat} {r : List UInt8} {W W' : World} {row : Option Nat} (h : Left pS r W) (hg : W.grownBy W' row) (hr : ∀ r, row = some r → B ≤ r ∧ ∃ o : Obj, W.heap[r]? = some o ∧ o.isCells = false) : Left pS r W' :=
  ⟨own_cell h.1 hg hr, (frozen_kept h.1 hg (fun r e => (hr r e).2)).trans h.2⟩
/-- **A range over the parts of a text.** -/
theorem range_split {n : Nat} (hn : 4 ≤ n) {g : Operand} {p : Tmp} {assign body : Code} {Q : Exit → Act → World → Prop} {a : Act} {w : World} (c : UInt8) (pS pP pC : Nat) (s : List UInt8) (hs : s.length < 4294967281)
    (hg : a.eval g = .func (.func 102) #[] #[.pointer (some ⟨pP, 0, none⟩), .pointer (some ⟨pS, 0, none⟩), .pointer (some ⟨pC, 0, none⟩)]) (hL : Left pS s w)
    (I Ix : List (List UInt8) → World → Prop) (hI : OwnFrom w.heap.size I) (hIx : OwnFrom w.heap.size Ix) (hC : ∀ pre W, I pre W → Capt pP pC c W) (hSt : ∀ pre W v, I pre W → I pre (W.setCell ⟨pS, 0, none⟩ v)) (h0 : I [] w)
    (a₁ : List UInt8 → Act)
    (hassign : ∀ (l : Nat) (x : List UInt8) (W : World) (K : Act → World → Prop), K (a₁ x) W →
      assign.wpIn (Fence.wide.inRound l) (n - 1 - 1) Tryz.prog (Exit.then K (fun _ _ _ => False)) { tmps := a.tmps.setIfInBounds p (.string (ba x)), defers := [] } W)
    (hbody : ∀ (l : Nat) (pre : List (List UInt8)) (x r : List UInt8) (W : World), I pre W → Left pS r W → x.length ≤ s.length → body.wpIn (Fence.wide.inRound l) (n - 1 - 1) Tryz.prog (partPost I Ix pS r (pre ++ [x]) W) (a₁ x) W)
    (hdone : ∀ (D : Nat) (W : World), w.heap.size ≤ D → I (spl c [] s) W → W.heap[D]? = some (.deferred (some [])) → Q .normal { a with defers := { target := .collected D, args := #[] } :: a.defers } W)
    (hstop : ∀ (D : Nat) (pre : List (List UInt8)) (x : List UInt8) (t : List (List UInt8)) (W : World), w.heap.size ≤ D → spl c [] s = pre ++ x :: t → Ix (pre ++ [x]) W → W.heap[D]? = some (.deferred (some [])) → Q .ret { a with defers := { target := .collected D, args := #[] } :: a.defers } W) :
    (Code.rangeFunc g #[p] assign body).wpIn Fence.wide n Tryz.prog Q a w := by
  refine wpIn_rangeFunc fun fn hfn => ?_
  generalize hrec : (fun st pe => ({ state := st, pending := pe, fn, tmps := a.tmps, params := #[p], assign, body, defers := w.heap.size } : Loop)) = rec
  have hr1 : ∀ st pe, rec st pe = { state := st, pending := pe, fn, tmps := a.tmps, params := #[p], assign, body, defers := w.heap.size } := fun st pe => by rw [← hrec]
  generalize hW1 : (w.alloc (.deferred (some []))).alloc (.loop (rec .ready none)) = W1
  have hk1 : W1.heap[w.heap.size]? = some (.deferred (some [])) := by
    rw [← hW1]; exact (Below.heap_alloc _ _ _ (by simp)).trans (World.alloc_heap_new w _)
  have hl1 : W1.heap[w.heap.size + 1]? = some (.loop (rec .ready none)) := by
    have := World.alloc_heap_new (w.alloc (.deferred (some []))) (.loop (rec .ready none))
    rw [World.size_alloc] at this
    rw [← hW1]; exact this
  have hi1 : I [] W1 := by rw [← hW1]; exact hI.alloc _ (hI.alloc _ h0)
  have hL1 : Left pS s W1 := by
    rw [← hW1]
    exact own_left (own_left hL (World.grownBy_alloc w _ none) (B := 0) (fun r e => by cases e)) (World.grownBy_alloc _ _ none) (B := 0) (fun r e => by cases e)
  -- a cell that is stored leaves the record and the calls' block as they were
  have keep : ∀ {W : World} {k : Nat} {o : Obj} {v : Value}, W.heap[k]? = some o → o.isCells = false → (W.setCell ⟨pS, 0, none⟩ v).heap[k]? = some o := fun h ho => (KeepsOthers.setCell _ _ _).same _ _ h ho
  refine ⟨w.heap.size + 1, [{ target := .collected w.heap.size, args := #[] }], W1, { target := .fn (.func 102) #[.pointer (some ⟨pP, 0, none⟩), .pointer (some ⟨pS, 0, none⟩), .pointer (some ⟨pC, 0, none⟩)], args := #[.func (.yield (w.heap.size + 1)) #[] #[]] }, W1, 102,
    #[.func (.yield (w.heap.size + 1)) #[] #[], .pointer (some ⟨pP, 0, none⟩), .pointer (some ⟨pS, 0, none⟩), .pointer (some ⟨pC, 0, none⟩)], W1, ?_, ?_, fun _ _ => trivial, ?_, (fun h => by cases h), ?_⟩
  · rw [← hW1, hr1]; exact run_enterLoop_outer _ _ _ _ _
  · simp only [resolve, hg]
    simp [go_sem]
  · have eg : ∀ args w, (callFunc 102 args).run Tryz.prog w = .ok (.enter 102 args) w := enters_of Tryz.func102 (by kernel_rfl) rfl
    simp [invoke, go_sem, eg]
  · refine (seq_in (n - 1) (w.heap.size + 1) (by omega) c pS pP pC
      (fun pre W => I pre W ∧ W.heap[w.heap.size + 1]? = some (.loop (rec .ready none)) ∧ W.heap[w.heap.size]? = some (.deferred (some [])))
      (fun pre W => Ix pre W ∧ W.heap[w.heap.size + 1]? = some (.loop (rec .done (some .ret))) ∧ W.heap[w.heap.size]? = some (.deferred (some [])))
      s hs (fun pre W v h => ⟨hSt pre W v h.1, keep h.2.1 rfl, keep h.2.2 rfl⟩) (fun pre W h => hC pre W h.1) ?_ W1 ⟨hi1, hl1, hk1⟩ hL1).mono ?_
    · rintro pre x r W ⟨hi, hl, hk⟩ hLr hx
      have hy := run_yield (P := Tryz.prog) (args := #[.string (ba x)]) hl (by rw [hr1]; rfl)
      rw [hr1] at hy
      have hz : (Array.zip #[p] #[Value.string (ba x)]).foldl (fun tmps (t, a) => tmps.setIfInBounds t a) a.tmps = a.tmps.setIfInBounds p (.string (ba x)) := by simp
      dsimp only at hy
      rw [hz] at hy
      refine ⟨fn, _, assign, body, hy, roundIn_of_wpIn hfn (hassign _ x W _ ?_)⟩
      refine ⟨_, run_beginRound hl (by rw [hr1]), ?_⟩
      have hlt : w.heap.size + 1 < W.heap.size := (Array.getElem?_eq_some_iff.1 hl).1
      generalize hW2 : W.putObj (w.heap.size + 1) (.loop { rec .ready none with state := .busy }) = W2
      have hl2 : W2.heap[w.heap.size + 1]? = some (.loop { rec .ready none with state := .busy }) := by rw [← hW2]; exact World.putObj_heap_same hlt
      have hk2 : W2.heap[w.heap.size]? = some (.deferred (some [])) := by rw [← hW2]; exact (World.putObj_heap_other (by omega)).trans hk
      have hi2 : I pre W2 := by rw [← hW2]; exact hI.putObj _ hi (by omega) hl rfl
      have hL2 : Left pS r W2 := by rw [← hW2]; exact own_left hLr (grownBy_putObj' _ _ _) (B := 0) (fun r e => by cases e; exact ⟨Nat.zero_le _, _, hl, rfl⟩)
      have fin : ∀ (jump : Option Code) (W3 : World), KeepsOthers W2 W3 → (Instr.endRound (w.heap.size + 1) jump).run Tryz.prog W3 = .ok (.bool jump.isNone) (W3.putObj (w.heap.size + 1) (.loop (rec (if jump.isNone then .ready else .done) jump))) ∧
          W3.heap[w.heap.size + 1]? = some (.loop { rec .ready none with state := .busy }) ∧
          (W3.putObj (w.heap.size + 1) (.loop (rec (if jump.isNone then .ready else .done) jump))).heap[w.heap.size + 1]? = some (.loop (rec (if jump.isNone then .ready else .done) jump)) ∧
          (W3.putObj (w.heap.size + 1) (.loop (rec (if jump.isNone then .ready else .done) jump))).heap[w.heap.size]? = some (.deferred (some [])) := fun jump W3 hk3 => by
        have hl3 := hk3.same _ _ hl2 rfl
        have he := run_endRound (P := Tryz.prog) jump hl3
        rw [hr1] at he
        refine ⟨by rw [hr1]; exact he, hl3, World.putObj_heap_same (Array.getElem?_eq_some_iff.1 hl3).1, (World.putObj_heap_other (by omega)).trans (hk3.same _ _ hk2 rfl)⟩
      refine wpIn_mono (hbody _ pre x r W2 hi2 hL2 hx) ?_
      rintro e a3 W3 hp
      cases e with
      | normal =>
        obtain ⟨q1, q2, q3⟩ := hp
        obtain ⟨f1, f2, f3, f4⟩ := fin none W3 q1
        exact ⟨_, _, f1, .inl ⟨rfl, ⟨hI.putObj _ q2 (by omega) f2 rfl, f3, f4⟩, own_left q3 (grownBy_putObj' _ _ _) (B := 0) (fun r e => by cases e; exact ⟨Nat.zero_le _, _, f2, rfl⟩)⟩⟩
      | ret =>
        obtain ⟨q1, q2⟩ := hp
        obtain ⟨f1, f2, f3, f4⟩ := fin (some .ret) W3 q1
        exact ⟨_, _, f1, .inr ⟨rfl, hIx.putObj _ q2 (by omega) f2 rfl, f3, f4⟩⟩
      | _ => exact hp.elim
    · rintro e W2 ⟨⟨v, rfl⟩, (⟨hi, hl, hk⟩ | ⟨pre, x, t, hsp, hi, hl, hk⟩)⟩
      · have he := run_endLoop (P := Tryz.prog) hl (by rw [hr1]; simp)
        rw [hr1] at he
        exact ⟨none, _, he, hdone _ _ (Nat.le_refl _) (hI.putObj _ hi (by omega) hl rfl) ((World.putObj_heap_other (by omega)).trans hk)⟩
      · have he := run_endLoop (P := Tryz.prog) hl (by rw [hr1]; simp)
        rw [hr1] at he
        exact ⟨some .ret, _, he, wpIn_ret (hstop _ pre x t _ (Nat.le_refl _) hsp (hIx.putObj _ hi (by omega) hl rfl) ((World.putObj_heap_other (by omega)).trans hk))⟩
end YtngbpbncipjimabGreatDoor.AM
end Go.Proofs

/- Layer 14: what is known of old memory (a variable of the library, the two tables of digest); short forms. -/
namespace Go.Proofs
open Go.RowKit Go.Shelf Go.Lib
set_option linter.unusedVariables false
set_option linter.unusedSimpArgs false
namespace YtngbpbncipjimabGreatDoor.AM
def K64 : List Int := [1116352408, 1899447441, 3049323471, 3921009573, 961987163, 1508970993, 2453635748, 2870763221, 3624381080, 310598401, 607225278, 1426881987, 1925078388, 2162078206, 2614888103, 3248222580, 3835390401, 4022224774, 264347078, 604807628, 770255983, 1249150122, 1555081692, 1996064986, 2554220882, 2821834349, 2952996808, 3210313671, 3336571891, 3584528711, 113926993, 338241895, 666307205, 773529912, 1294757372, 1396182291, 1695183700, 1986661051, 2177026350, 2456956037, 2730485921, 2820302411, 3259730800, 3345764771, 3516065817, 3600352804, 4094571909, 275423344, 430227734, 506948616, 659060556, 883997877, 958139571, 1322822218, 1537002063, 1747873779, 1955562222, 2024104815, 2227730452, 2361852424, 2428436474, 2756734187, 3204031479, 3329325298]
def H8 : List Int := [1779033703, 3144134277, 1013904242, 2773480762, 1359893119, 2600822924, 528734635, 1541459225]
/-- words, as the program has them -/
def wV (l : List Int) : List Value := l.map (Value.int .u32)
theorem wV_length (l : List Int) : (wV l).length = l.length := by simp [wV]
theorem wV_get {l : List Int} {i : Nat} (h : i < l.length) : (wV l)[i]? = some (.int .u32 l[i]) := by simp [wV, List.getElem?_map, List.getElem?_eq_getElem h]
/-- what is known of old memory -/
structure Inv (w : World) : Prop where
  cubes : w.rangeAt 2 0 (wV K64)
  squares : w.rangeAt 0 0 (wV H8)
  maxLen : ∃ m, w.cell? ⟨Tryz.laysIndex_ren.g 1, 0, none⟩ = some (.int .i64 m)
theorem range_below {w w' : World} {b o B : Nat} {cs : List Value} (h : w.rangeAt b o cs) (hb : Below B w w') (hB : b < B) : w'.rangeAt b o cs :=
  fun j v hv => (hb.cell (p := ⟨b, o + j, none⟩) hB).trans (h j v hv)
theorem range_lt {w : World} {b o : Nat} {cs : List Value} (h : w.rangeAt b o cs) (hn : 0 < cs.length) : b < w.heap.size :=
  World.block_lt_of_cell? w ⟨b, o + 0, none⟩ (h 0 _ (List.getElem?_eq_getElem hn))
theorem Inv.below {w w' : World} (h : Inv w) (hb : Below w.heap.size w w') : Inv w' := by
  obtain ⟨m, hm⟩ := h.maxLen
  exact ⟨range_below h.cubes hb (range_lt h.cubes (by decide)), range_below h.squares hb (range_lt h.squares (by decide)), ⟨m, (hb.cell (p := ⟨_, 0, none⟩) (World.block_lt_of_cell? _ _ hm)).trans hm⟩⟩
theorem Inv.drew {w : World} (h : Inv w) : Inv w.drew := ⟨h.cubes, h.squares, h.maxLen⟩
theorem know_inv : Know Inv Inv := ⟨fun w w' h hb => h.below hb, fun _ h => h⟩
theorem tab1_eq : (Rows.laid_armada_digest_cubeRoots : DataW Unit) = Lib.tabData .u32 K64 := by rfl
theorem tab2_eq : (Rows.laid_armada_digest_squareRoots : DataW Unit) = Lib.tabData .u32 H8 := by rfl
theorem gCub : Tryz.prog.globalNamed "armada/digest.cubeRoots" = some 2 ∧ (Tryz.prog.globals[(2 : Nat)]?).map (·.type) = some 100 := ⟨by kernel_rfl, by kernel_rfl⟩
theorem gSqu : Tryz.prog.globalNamed "armada/digest.squareRoots" = some 0 ∧ (Tryz.prog.globals[(0 : Nat)]?).map (·.type) = some 70 := ⟨by kernel_rfl, by kernel_rfl⟩
theorem range_of_var {w : World} {nm : String} {g : Nat} {l : List Int} (hg : Tryz.prog.globalNamed nm = some g) (h : Lib.TabIs Tryz.prog w nm .u32 l) : w.rangeAt g 0 (wV l) := by
  intro j v hv
  have h0 := World.var?_cell hg h j
  rw [Nat.zero_add, h0]
  simpa [wV] using hv
theorem inv_of {w : World} (hsh : w.ShapedOpen Tryz.prog) (hL0 : laidMet Tryz.prog [("unicode/utf8.acceptRanges", Rows.laid_unicode_utf8_acceptRanges), ("armada/digest.cubeRoots", Rows.laid_armada_digest_cubeRoots), ("armada/digest.squareRoots", Rows.laid_armada_digest_squareRoots), ("unicode/utf8.first", Rows.laid_unicode_utf8_first)] w) : Inv w := by
  have hL := hL0.tail
  have h2 := hL.tail
  rw [tab1_eq] at hL
  rw [tab2_eq] at h2
  exact ⟨range_of_var gCub.1 (Lib.tabIs_of_head gCub.1 gCub.2 (n := 64) (e := 69) (by kernel_rfl) (by kernel_rfl) (by kernel_rfl) (by kernel_rfl) hL),
    range_of_var gSqu.1 (Lib.tabIs_of_head gSqu.1 gSqu.2 (n := 8) (e := 69) (by kernel_rfl) (by kernel_rfl) (by kernel_rfl) (by kernel_rfl) h2), Tryz.laysIndex.s1_3 w hsh⟩
variable {P : Program}
theorem pc_done {Pc : Nat → Nat → Prop} {w w' : World} {v : Value} {d : D} {e : Ending} (he : e = .returned v) (hb : Below w.heap.size w w') (hv : DRep (noEnv Pc) noSt w' v d) :
    ∃ v' Pc', e = .returned v' ∧ Below w.heap.size w w' ∧ (∀ b o, Pc b o → Pc' b o) ∧ (∀ b o, Pc' b o → Pc b o ∨ (w.heap.size ≤ b ∧ b < w'.heap.size)) ∧ DRep (noEnv Pc') noSt w' v' d :=
  ⟨v, Pc, he, hb, fun _ _ h => h, fun _ _ h => Or.inl h, hv⟩
abbrev strA : SD := .one (.c (.d .str))
abbrev boolA : SD := .one (.c (.d .bool))
end YtngbpbncipjimabGreatDoor.AM
end Go.Proofs

/- Layer 14: in the place of layer 5's. -/

/- Orders by numbers -1, 0, 1: of numbers, of bytes, of lists, of pairs, by a key. No program in this text. -/
namespace Go.Proofs.YtngbpbncipjimabGreatDoor.AM
set_option linter.unusedVariables false
set_option linter.unusedSimpArgs false
/-- a comparison that is an order -/
structure Cmp {α : Type} (c : α → α → Int) : Prop where
  rng : ∀ x y, c x y = -1 ∨ c x y = 0 ∨ c x y = 1
  anti : ∀ x y, c x y = - c y x
  tr : ∀ x y z, c x y ≤ 0 → c y z ≤ 0 → c x z ≤ 0
  eq : ∀ x y, c x y = 0 → x = y
theorem Cmp.refl {α : Type} {c : α → α → Int} (h : Cmp c) (x : α) : c x x = 0 := by have := h.anti x x; omega
theorem Cmp.zero {α : Type} {c : α → α → Int} (h : Cmp c) {x y : α} : c x y = 0 ↔ x = y := ⟨h.eq x y, fun e => e ▸ h.refl x⟩
def cmpI (a b : Int) : Int := if a < b then -1 else if b < a then 1 else 0
theorem cmpI_cmp : Cmp cmpI := by
  refine ⟨fun x y => ?_, fun x y => ?_, fun x y z => ?_, fun x y => ?_⟩ <;> unfold cmpI <;> repeat' split
  all_goals (try omega)
/-- the first of two that tells something -/
def or2 (x y : Int) : Int := if x = 0 then y else x
def cmpP {α β : Type} (c : α → α → Int) (d : β → β → Int) (x y : α × β) : Int := or2 (c x.1 y.1) (d x.2 y.2)
/-- by a key -/
theorem Cmp.key {α β : Type} {c : β → β → Int} (hc : Cmp c) (f : α → β) (hf : ∀ x y, f x = f y → x = y) : Cmp fun x y => c (f x) (f y) :=
  ⟨fun x y => hc.rng _ _, fun x y => hc.anti _ _, fun x y z => hc.tr _ _ _, fun x y h => hf _ _ (hc.eq _ _ h)⟩
/-- lists: by the first place at which they differ; the shorter one ahead -/
def cmpL {α : Type} (c : α → α → Int) : List α → List α → Int
  | [], [] => 0
  | [], _ :: _ => -1
  | _ :: _, [] => 1
  | a :: asx, b :: bs => or2 (c a b) (cmpL c asx bs)
theorem cmpL_cmp {α : Type} {c : α → α → Int} (hc : Cmp c) : Cmp (cmpL c) := by
  refine ⟨fun x => ?_, fun x => ?_, fun x => ?_, fun x => ?_⟩
  · induction x with
    | nil => intro y; cases y <;> simp [cmpL]
    | cons a asx ih => intro y; cases y with
      | nil => simp [cmpL]
      | cons b bs =>
        unfold cmpL or2; split
        · exact ih bs
        · exact hc.rng _ _
  · induction x with
    | nil => intro y; cases y <;> simp [cmpL]
    | cons a asx ih => intro y; cases y with
      | nil => simp [cmpL]
      | cons b bs =>
        have a1 := hc.anti a b
        have a2 := ih bs
        unfold cmpL or2; split <;> split <;> omega
  · induction x with
    | nil => intro y z; cases y <;> cases z <;> simp [cmpL]
    | cons a asx ih => intro y z h1 h2; cases y with
      | nil => simp [cmpL] at h1
      | cons b bs => cases z with
        | nil => simp [cmpL] at h2
        | cons d ds =>
          have h1' : cmpP c (cmpL c) (a, asx) (b, bs) ≤ 0 := h1
          have h2' : cmpP c (cmpL c) (b, bs) (d, ds) ≤ 0 := h2
          show or2 (c a d) (cmpL c asx ds) ≤ 0
          unfold cmpP or2 at *
          dsimp only at *
          have t := hc.tr a b d
          split at h1' <;> split at h2'
          · rename_i e1 e2
            rw [hc.eq _ _ e1, hc.eq _ _ e2, hc.refl, if_pos rfl]
            exact ih bs ds h1' h2'
          · rename_i e1 e2
            rw [hc.eq _ _ e1, if_neg e2]; exact h2'
          · rename_i e1 e2
            rw [← hc.eq _ _ e2, if_neg e1]; exact h1'
          · rename_i e1 e2
            have t0 := t h1' h2'
            split
            · rename_i e3
              have e4 := hc.eq _ _ e3
              have a1 := hc.anti a b
              rw [← e4] at h2' e2
              omega
            · exact t0
  · induction x with
    | nil => intro y; cases y <;> simp [cmpL]
    | cons a asx ih => intro y h; cases y with
      | nil => simp [cmpL] at h
      | cons b bs =>
        unfold cmpL or2 at h
        split at h
        · rename_i e1
          rw [hc.eq _ _ e1, ih bs h]
        · rename_i e1; exact absurd h e1
def cmpB (a b : UInt8) : Int := cmpI a.toNat b.toNat
theorem cmpB_eq (a b : UInt8) : cmpB a b = if ((a.toNat : Nat) : Int) < ((b.toNat : Nat) : Int) then -1 else if ((b.toNat : Nat) : Int) < ((a.toNat : Nat) : Int) then 1 else 0 := rfl
theorem cmpB_cmp : Cmp cmpB := cmpI_cmp.key (fun a : UInt8 => ((a.toNat : Nat) : Int)) fun x y h => UInt8.toNat_inj.1 (by omega)
theorem bytesLess_cmp : ∀ a b : List UInt8, Op.bytesLess a b = decide (cmpL cmpB a b < 0)
  | [], [] => rfl
  | [], _ :: _ => rfl
  | _ :: _, [] => rfl
  | a :: asx, b :: bs => by
    unfold Op.bytesLess cmpL or2
    rw [bytesLess_cmp asx bs, cmpB_eq a b]
    have h1 : a < b ↔ ((a.toNat : Nat) : Int) < ((b.toNat : Nat) : Int) := by rw [UInt8.lt_iff_toNat_lt]; omega
    have h3 : (a == b) = decide (((a.toNat : Nat) : Int) = ((b.toNat : Nat) : Int)) := by
      by_cases h : a = b
      · subst h; simp
      · have : ¬ ((a.toNat : Nat) : Int) = ((b.toNat : Nat) : Int) := fun e => h (UInt8.toNat_inj.1 (by omega))
        simp [h, this]
    rw [h3]
    simp only [h1]
    by_cases c1 : ((a.toNat : Nat) : Int) < ((b.toNat : Nat) : Int)
    · simp [c1]
    · by_cases c2 : ((b.toNat : Nat) : Int) < ((a.toNat : Nat) : Int)
      · have : ¬ ((a.toNat : Nat) : Int) = ((b.toNat : Nat) : Int) := by omega
        simp [c1, c2, this]
      · have : ((a.toNat : Nat) : Int) = ((b.toNat : Nat) : Int) := by omega
        simp [c1, c2, this]
end Go.Proofs.YtngbpbncipjimabGreatDoor.AM

/- Layer 7: what a version is, its text, its order, what it is bumped to: mathematics, no program. -/
namespace Go.Proofs.YtngbpbncipjimabGreatDoor.AM
open Go.RowKit
set_option linter.unusedVariables false
set_option linter.unusedSimpArgs false
abbrev VD := Int × (Int × (Int × (List UInt8 × List UInt8)))
abbrev v0 : VD := (0, (0, (0, ([], []))))
def isDig (c : UInt8) : Bool := decide (48 ≤ c.toNat) && decide (c.toNat ≤ 57)
def isSg (c : UInt8) : Bool := (decide (97 ≤ c.toNat) && decide (c.toNat ≤ 122)) || (decide (65 ≤ c.toNat) && decide (c.toNat ≤ 90)) || isDig c || decide (c.toNat = 45)
def isNumS (s : List UInt8) : Bool := s.all isDig && !decide (s = [])
def isPartS (s : List UInt8) : Bool := s.all isSg && !decide (s = [])
def isPreS (s : List UInt8) : Bool := isPartS s && (decide (s = [48]) || !decide (s.head? = some 48) || !isNumS s)
def tailS (p : List UInt8 → Bool) (s : List UInt8) : Bool := decide (s = []) || (decide (s.length ≤ 30) && (spl 46 [] s).all p)
def numS (n : Int) : Bool := decide (0 ≤ n) && decide (n ≤ 999999999)
def checkS (v : VD) : Bool := numS v.1 && numS v.2.1 && numS v.2.2.1 && tailS isPreS v.2.2.2.1 && tailS isPartS v.2.2.2.2
def tailT (c : UInt8) (s : List UInt8) : List UInt8 := if s = [] then [] else c :: s
def rawT (v : VD) : List UInt8 := 118 :: (Lib.itoa v.1 ++ 46 :: (Lib.itoa v.2.1 ++ 46 :: (Lib.itoa v.2.2.1 ++ (tailT 45 v.2.2.2.1 ++ tailT 43 v.2.2.2.2))))
def textS (v : VD) : List UInt8 := if checkS v then rawT v else []
/-! the order -/
/-! numerals -/
/-! a text is cut at a byte -/
/-! bumps -/
end Go.Proofs.YtngbpbncipjimabGreatDoor.AM

/- Layer 8: what a path is, its parts, its major: mathematics, no program. -/
namespace Go.Proofs.YtngbpbncipjimabGreatDoor.AM
open Go.RowKit
set_option linter.unusedVariables false
set_option linter.unusedSimpArgs false
def pSign (c : UInt8) : Bool := isSg c || decide (c.toNat = 95) || decide (c.toNat = 46)
def partS (s : List UInt8) : Bool := !decide (s = []) && (!decide (s = [46]) && (!decide (s = [46, 46]) && s.all pSign))
def pathS (s : List UInt8) : Bool := decide (s.length ≤ 60) && (spl 47 [] s).all partS
/-! the last place of a byte -/
def lastR (c : UInt8) : List UInt8 → Int
  | [] => -1
  | b :: r => if b = c then (r.length : Int) else lastR c r
def lastC (c : UInt8) (s : List UInt8) : Int := lastR c s.reverse
theorem lastR_ge (c : UInt8) : ∀ l, -1 ≤ lastR c l ∧ lastR c l < (l.length : Int)
  | [] => by simp [lastR]
  | b :: r => by
    have := lastR_ge c r
    rw [lastR]; split
    · simp; omega
    · simp; omega
theorem lastC_ge (c : UInt8) (s : List UInt8) : -1 ≤ lastC c s ∧ lastC c s < (s.length : Int) := by
  have := lastR_ge c s.reverse; unfold lastC; simpa using this
theorem lastR_miss (c : UInt8) : ∀ l, c ∉ l → lastR c l = -1
  | [], _ => rfl
  | b :: r, h => by
    have h1 : b ≠ c := fun e => h (by simp [e])
    rw [lastR, if_neg h1, lastR_miss c r (fun e => h (by simp [e]))]
theorem lastR_hit (c : UInt8) : ∀ (y x : List UInt8), c ∉ y → lastR c (y ++ c :: x) = (x.length : Int)
  | [], x, _ => by simp [lastR]
  | b :: y, x, h => by
    have h1 : b ≠ c := fun e => h (by simp [e])
    rw [List.cons_append, lastR, if_neg h1, lastR_hit c y x (fun e => h (by simp [e]))]
theorem lastC_miss {c : UInt8} {s : List UInt8} (h : c ∉ s) : lastC c s = -1 := lastR_miss c _ (by simpa using h)
theorem lastC_hit {c : UInt8} {x y : List UInt8} (h : c ∉ y) : lastC c (x ++ c :: y) = (x.length : Int) := by
  have := lastR_hit c y.reverse x.reverse (by simpa using h)
  unfold lastC
  simpa using this
def baseS (s : List UInt8) : List UInt8 := s.take (lastC 47 s).toNat
def lastS (s : List UInt8) : List UInt8 := s.drop (lastC 47 s + 1).toNat
theorem cut_last (c : UInt8) : ∀ s : List UInt8, c ∉ s ∨ ∃ x y, s = x ++ c :: y ∧ c ∉ y
  | [] => Or.inl (by simp)
  | b :: s => by
    rcases cut_last c s with h | ⟨x, y, rfl, h⟩
    · by_cases hb : b = c
      · subst hb; exact Or.inr ⟨[], s, rfl, h⟩
      · exact Or.inl (by simp [h, Ne.symm hb])
    · exact Or.inr ⟨b :: x, y, rfl, h⟩
theorem base_miss {s : List UInt8} (h : 47 ∉ s) : baseS s = [] ∧ lastS s = s := by
  unfold baseS lastS; rw [lastC_miss h]; exact ⟨rfl, rfl⟩
theorem base_hit {x y : List UInt8} (h : 47 ∉ y) : baseS (x ++ 47 :: y) = x ∧ lastS (x ++ 47 :: y) = y := by
  unfold baseS lastS; rw [lastC_hit h]
  constructor
  · simp
  · rw [show (((x.length : Nat) : Int) + 1).toNat = x.length + 1 from by omega]; simp
theorem spl_app (c : UInt8) : ∀ (x cur y : List UInt8), spl c cur (x ++ c :: y) = spl c cur x ++ spl c [] y
  | [], cur, y => by simp [spl]
  | b :: x, cur, y => by
    rw [List.cons_append, spl, spl]
    split
    · rw [spl_app c x]; rfl
    · rw [spl_app c x]
/-! digits, and the number that they tell -/
/-! a path's major -/
theorem path_parts {s : List UInt8} (h : pathS s = true) : s.length ≤ 60 ∧ (spl 47 [] s).all partS = true := by
  unfold pathS at h; simpa using h
end Go.Proofs.YtngbpbncipjimabGreatDoor.AM

/- Layer 5, first part: what functions come to, as plain functions of data: written by program (shal.py); the kernel checks it. -/
namespace Go.Proofs.YtngbpbncipjimabGreatDoor.AM
open Go.RowKit
set_option linter.unusedVariables false
set_option maxRecDepth 20000
/-! armada/files.isSign -/
def fSign_lts (n : Nat) : List LC := []
def fSign_t (n : Nat) (a1 : Int) : Option (Bool) :=
  (bif decide ((97 : Int) ≤ a1) then (bif decide (a1 ≤ (122 : Int)) then (bif decide (a1 ≤ (122 : Int)) then some true else (bif decide (a1 = (45 : Int)) then some true else (bif decide (a1 = (95 : Int)) then some true else some (decide (a1 = (46 : Int)))))) else (bif decide ((65 : Int) ≤ a1) then (bif decide (a1 ≤ (90 : Int)) then (bif decide (a1 ≤ (90 : Int)) then some true else (bif decide (a1 = (45 : Int)) then some true else (bif decide (a1 = (95 : Int)) then some true else some (decide (a1 = (46 : Int)))))) else (bif decide ((48 : Int) ≤ a1) then (bif decide (a1 ≤ (57 : Int)) then some true else (bif decide (a1 = (45 : Int)) then some true else (bif decide (a1 = (95 : Int)) then some true else some (decide (a1 = (46 : Int)))))) else (bif decide (a1 = (45 : Int)) then some true else (bif decide (a1 = (95 : Int)) then some true else some (decide (a1 = (46 : Int))))))) else (bif decide ((48 : Int) ≤ a1) then (bif decide (a1 ≤ (57 : Int)) then some true else (bif decide (a1 = (45 : Int)) then some true else (bif decide (a1 = (95 : Int)) then some true else some (decide (a1 = (46 : Int)))))) else (bif decide (a1 = (45 : Int)) then some true else (bif decide (a1 = (95 : Int)) then some true else some (decide (a1 = (46 : Int)))))))) else (bif decide ((65 : Int) ≤ a1) then (bif decide (a1 ≤ (90 : Int)) then (bif decide (a1 ≤ (90 : Int)) then some true else (bif decide (a1 = (45 : Int)) then some true else (bif decide (a1 = (95 : Int)) then some true else some (decide (a1 = (46 : Int)))))) else (bif decide ((48 : Int) ≤ a1) then (bif decide (a1 ≤ (57 : Int)) then some true else (bif decide (a1 = (45 : Int)) then some true else (bif decide (a1 = (95 : Int)) then some true else some (decide (a1 = (46 : Int)))))) else (bif decide (a1 = (45 : Int)) then some true else (bif decide (a1 = (95 : Int)) then some true else some (decide (a1 = (46 : Int))))))) else (bif decide ((48 : Int) ≤ a1) then (bif decide (a1 ≤ (57 : Int)) then some true else (bif decide (a1 = (45 : Int)) then some true else (bif decide (a1 = (95 : Int)) then some true else some (decide (a1 = (46 : Int)))))) else (bif decide (a1 = (45 : Int)) then some true else (bif decide (a1 = (95 : Int)) then some true else some (decide (a1 = (46 : Int))))))))
def fSign_fc (n : Nat) : FC := { f := 84, args := [.one (.c (.d (.int .u8)))], res := .one (.c (.d .bool)), F := fun p => fSign_t n p }
def fSign_ct (n : Nat) : List FC := []
theorem fSign_ctok (n : Nat) {G : World → Prop} (hG : Know Inv G) : ∀ c ∈ fSign_ct n, FCok Tryz.prog G c ∧ noTup c.args = true := (fun _ h => by cases h)
def fSign_dh : Hints := []
theorem fSign_dr : drB fSign_dh (bodyOf Tryz.f84) = true := by kernel_rfl
theorem fSign_eq (n : Nat) : ∀ a, (fSign_fc n).F a = main Tryz.prog 32 (fSign_ct n) (fSign_lts n) fSign_dh (bodyOf Tryz.f84) [.tmp 2] (fSign_fc n).args (fSign_fc n).res a := by intro a; kernel_rfl
theorem fSign_ok (n : Nat) : FCall Inv Tryz.prog (fSign_fc n) := fun G hG => ⟨⟨by kernel_rfl, fun a r h => main_ok (c := bodyOf Tryz.f84) Tryz.func84 (by kernel_rfl) (by kernel_rfl) (Nat.le_of_ble_eq_true (by kernel_rfl)) hG.st (by kernel_rfl) (rs := [.tmp 2]) (by kernel_rfl) (fSign_ctok n hG) (lts := fSign_lts n) (fun F hF hFG => have hK : Know Inv F.G := hFG ▸ hG; (lok_of fun j L h1 h2 h3 => absurd h2 (Nat.not_lt.2 (Nat.le_trans (by decide +kernel) h1)))) fSign_dr ((fSign_eq n a).symm.trans h)⟩, rfl⟩
/-! armada/files.isPart -/
@[reducible] def fPart_sh0 : SSt := ⟨[(0, .one (.c (.d .str))), (15, .one (.c (.d (.int .i64)))), (16, .one (.c (.d (.int .i64))))], [], []⟩
@[reducible] def fPart_outs0 : List (Exit × SSt) := [(.ret, ⟨[(2, .one (.c (.d .bool)))], [], []⟩), (.exit 0, ⟨[], [], []⟩)]
def fPart_l0 (n : Nat) (rec : (List UInt8) → Int → Int → Option (((Bool × (Unit)) × (Unit) × (Unit)) ⊕ ((Unit) × (Unit) × (Unit)))) (a1 : List UInt8) (a2 : Int) (a3 : Int) : Option (((Bool × (Unit)) × (Unit) × (Unit)) ⊕ ((Unit) × (Unit) × (Unit))) :=
  (bif decide (a3 < a2) then (sAt a1 a3).bind fun (c1 : Int) => (fSign_t n c1).bind fun (r2 : Bool) => (bif !r2 then some (Sum.inl ((false, ()), ((), ()))) else letO (IntKind.wrap .i64 (a3 + (1 : Int))) fun (n3 : Int) => rec a1 a2 n3) else some (Sum.inr (((), ((), ())))))
def fPart_F0 (n : Nat) (rec : pSt fPart_sh0 → Option (pOuts fPart_outs0)) (p : pSt fPart_sh0) : Option (pOuts fPart_outs0) := fPart_l0 n (fun a1 a2 a3 => rec ((a1, (a2, (a3, ()))), ((), ()))) p.1.1 p.1.2.1 p.1.2.2.1
def fPart_loop0 (n m : Nat) (a1 : List UInt8) (a2 : Int) (a3 : Int) : Option (((Bool × (Unit)) × (Unit) × (Unit)) ⊕ ((Unit) × (Unit) × (Unit))) := iterF (fPart_F0 n) m ((a1, (a2, (a3, ()))), ((), ()))
theorem fPart_loop0_succ (n m : Nat) (a1 : List UInt8) (a2 : Int) (a3 : Int) : fPart_loop0 n (m + 1) a1 a2 a3 = fPart_l0 n (fun a1 a2 a3 => fPart_loop0 n m a1 a2 a3) a1 a2 a3 := rfl
def fPart_L0 (n : Nat) : LC := { sh := fPart_sh0, outs := fPart_outs0, F := iterF (fPart_F0 n) n }
def fPart_lts (n : Nat) : List LC := [fPart_L0 n]
def fPart_t (n : Nat) (a1 : List UInt8) : Option (Bool) :=
  (bif decide (a1 = ([] : List UInt8)) then some false else (bif decide (a1 = ([46] : List UInt8)) then some false else (bif decide (a1 = ([46, 46] : List UInt8)) then some false else (fPart_loop0 n n a1 ((List.length a1 : Nat) : Int) (0 : Int)).bind fun (o4 : ((Bool × (Unit)) × (Unit) × (Unit)) ⊕ ((Unit) × (Unit) × (Unit))) => Sum.elim (fun (q5 : (Bool × (Unit)) × (Unit) × (Unit)) => some q5.1.1) (fun (q6 : (Unit) × (Unit) × (Unit)) => some true) o4)))
def fPart_fc (n : Nat) : FC := { f := 57, args := [.one (.c (.d .str))], res := .one (.c (.d .bool)), F := fun p => fPart_t n p }
def fPart_ct (n : Nat) : List FC := [fSign_fc n]
theorem fPart_ctok (n : Nat) {G : World → Prop} (hG : Know Inv G) : ∀ c ∈ fPart_ct n, FCok Tryz.prog G c ∧ noTup c.args = true := List.forall_mem_cons.2 ⟨fSign_ok n G hG, (fun _ h => by cases h)⟩
def fPart_dh : Hints := []
theorem fPart_dr : drB fPart_dh (bodyOf Tryz.f57) = true := by kernel_rfl
theorem fPart_eq0 (n : Nat) : ∀ rec p, fPart_F0 n rec p = round Tryz.prog 25 (fPart_ct n) (fPart_lts n) fPart_dh 1 fPart_sh0 fPart_outs0 (bodyAt 0 0 (bodyOf Tryz.f57)) rec p := by intro rec p; kernel_rfl
theorem fPart_lok0 (n : Nat) {F : Fr} (hF : F.n = 25) (hK : Know Inv F.G) : LCok Tryz.prog F (fPart_L0 n) (bodyAt 0 0 (bodyOf Tryz.f57)) :=
  loop_ok hF (by kernel_rfl) (fPart_ctok n hK) (fPart_eq0 n) (fuel := n) (fun _ => rfl) (lok_of fun j L h1 h2 h3 => absurd h2 (Nat.not_lt.2 (Nat.le_trans (by decide +kernel) h1))) (drB_at fPart_dr)
theorem fPart_eq (n : Nat) : ∀ a, (fPart_fc n).F a = main Tryz.prog 25 (fPart_ct n) (fPart_lts n) fPart_dh (bodyOf Tryz.f57) [.tmp 2] (fPart_fc n).args (fPart_fc n).res a := by intro a; kernel_rfl
theorem fPart_ok (n : Nat) : FCall Inv Tryz.prog (fPart_fc n) := fun G hG => ⟨⟨by kernel_rfl, fun a r h => main_ok (c := bodyOf Tryz.f57) Tryz.func57 (by kernel_rfl) (by kernel_rfl) (Nat.le_of_ble_eq_true (by kernel_rfl)) hG.st (by kernel_rfl) (rs := [.tmp 2]) (by kernel_rfl) (fPart_ctok n hG) (lts := fPart_lts n) (fun F hF hFG => have hK : Know Inv F.G := hFG ▸ hG; (lok_of (c := (bodyOf Tryz.f57)) (fun j L h1 h2 h3 => by
    have h2' : j < 1 := Nat.lt_of_lt_of_le h2 (by decide +kernel)
    match j, h1, h2', h3 with
    | 0, _, _, h3 => obtain rfl := Option.some.inj h3; exact (show bodyAt 0 0 (bodyOf Tryz.f57) = bodyAt 0 0 (bodyOf Tryz.f57) by kernel_rfl) ▸ fPart_lok0 n hF hK
    | j + 1, _, h2', _ => exact absurd h2' (by omega)))) fPart_dr ((fPart_eq n a).symm.trans h)⟩, rfl⟩
end Go.Proofs.YtngbpbncipjimabGreatDoor.AM

/- Plain lemmas on the partial functions that operations are, at natural numbers. -/
namespace Go.Proofs.YtngbpbncipjimabGreatDoor.AM
open Go.RowKit
set_option linter.unusedVariables false
theorem nth_lt {β : Type} {l : List β} {j : Nat} (h : j < l.length) : nth l j = some l[j] := by rw [nth_eq, List.getElem?_eq_getElem h]
theorem idx_lt {β : Type} {l : List β} {j : Nat} (h : j < l.length) : idxL l (j : Int) = some l[j] := by
  unfold idxL; rw [if_pos (by omega), Int.toNat_natCast, nth_lt h]
theorem sAt_lt {s : List UInt8} {j : Nat} (h : j < s.length) : sAt s (j : Int) = some ((s[j].toNat : Nat) : Int) := by
  unfold sAt; rw [idx_lt h]; rfl
theorem sub_le {β : Type} {l : List β} {a b : Nat} (h1 : a ≤ b) (h2 : b ≤ l.length) : subO l (a : Int) (b : Int) = some ((l.drop a).take (b - a)) := by
  unfold subO; rw [if_pos ⟨by omega, by omega, by omega⟩, Int.toNat_natCast, Int.toNat_natCast]
theorem sub_zero {β : Type} {l : List β} {b : Nat} (h2 : b ≤ l.length) : subO l (0 : Int) (b : Int) = some (l.take b) := by
  have := sub_le (l := l) (a := 0) (b := b) (Nat.zero_le _) h2
  simpa using this
theorem app_le {β : Type} {k : Nat} {xs ys : List β} (h : (xs.length + ys.length) * k ≤ 140737488355328) : appO k xs ys = some (xs ++ ys) := by
  unfold appO; rw [if_pos h]
theorem wrap_succ {i : Nat} (h : i < 4611686018427387904) : IntKind.wrap .i64 ((i : Int) + 1) = ((i + 1 : Nat) : Int) := by rw [wrap64 (by omega) (by omega)]; rfl
theorem wrap_add {i j : Nat} (h : i < 1000000000000) (h2 : j < 1000000000000) : IntKind.wrap .i64 ((i : Int) + (j : Int)) = ((i + j : Nat) : Int) := by rw [wrap64 (by omega) (by omega)]; omega
end Go.Proofs.YtngbpbncipjimabGreatDoor.AM

/- Layer 5: a path's part: what it comes to. -/
namespace Go.Proofs.YtngbpbncipjimabGreatDoor.AM
open Go.RowKit
set_option linter.unusedVariables false
set_option linter.unusedSimpArgs false
theorem fSign_spec (n : Nat) (c : UInt8) : fSign_t n ((c.toNat : Nat) : Int) = some (pSign c) := by
  have h : ∀ k : Fin 256, fSign_t 0 ((k.val : Nat) : Int) = some (pSign (UInt8.ofNat k.val)) := by decide +kernel
  have h1 := h ⟨c.toNat, c.toNat_lt⟩
  have e : UInt8.ofNat c.toNat = c := by simp
  rw [e] at h1
  exact h1
theorem fPart_loop (n : Nat) (s : List UInt8) (hL : s.length ≤ 1000000) : ∀ m j : Nat, j ≤ s.length → s.length - j < m → fPart_loop0 n m s ((s.length : Nat) : Int) (j : Int) = some (if (s.drop j).all pSign = true then Sum.inr ((), ((), ())) else Sum.inl ((false, ()), ((), ())))
  | 0, j, _, h => absurd h (Nat.not_lt_zero _)
  | m + 1, j, hj, h => by
    rw [fPart_loop0_succ]
    unfold fPart_l0
    by_cases c0 : j < s.length
    · have c0' : ((j : Nat) : Int) < ((s.length : Nat) : Int) := by omega
      have ih := fPart_loop n s hL m (j + 1) (by omega) (by omega)
      have hd : s.drop j = s[j] :: s.drop (j + 1) := (List.drop_eq_getElem_cons c0)
      simp only [c0', decide_true, cond_true, sAt_lt c0, Option.bind_some, fSign_spec, letO, wrap_succ (show j < 4611686018427387904 by omega), ih, hd, List.all_cons]
      cases pSign s[j] <;> simp
    · have c0' : ¬ ((j : Nat) : Int) < ((s.length : Nat) : Int) := by omega
      have : s.drop j = [] := List.drop_eq_nil_of_le (by omega)
      simp [c0', this]
theorem fPart_spec (n : Nat) (s : List UInt8) (hL : s.length ≤ 1000000) (hn : s.length < n) : fPart_t n s = some (partS s) := by
  unfold fPart_t partS
  have := fPart_loop n s hL n 0 (Nat.zero_le _) (by omega)
  rw [show ((0 : Nat) : Int) = (0 : Int) from rfl] at this
  rw [this, List.drop_zero]
  cases decide (s = []) <;> cases decide (s = [46]) <;> cases decide (s = [46, 46]) <;> cases s.all pSign <;> rfl
end Go.Proofs.YtngbpbncipjimabGreatDoor.AM

/- What a function keeps that ranges over the parts of a text. -/
namespace Go.Proofs
open Go.RowKit Go.Shelf Go.Lib
attribute [local go_sem] Oper.semAt_some
set_option linter.unusedVariables false
set_option linter.unusedSimpArgs false
namespace YtngbpbncipjimabGreatDoor.AM
theorem ret_cell {P : Program} {fn : Func} {p : Tmp} {ty : TypeId} {b : Nat} {v : Value} {tmps : Array Value} {w : World} (h : fn.results = #[.cell p ty]) (hp : tmps.getD p undef = .pointer (some ⟨b, 0, none⟩)) (ha : aggD P ty = some false)
    (hc : w.cell? ⟨b, 0, none⟩ = some v) : (results fn tmps).run P w = .ok v w := by
  have hp' : tmps[p]?.getD undef = .pointer (some ⟨b, 0, none⟩) := by simpa using hp
  simp only [results, h]
  simp [Sem.run_bind, hp', asAddr, loadVar, run_isAgg' ha w, go_sem, hc]
theorem below_cell {W W' : World} {a : Addr} {v : Value} (hb : Below W.heap.size W W') (h : W.cell? a = some v) : W'.cell? a = some v := by
  obtain ⟨o, ho, hc⟩ := cells_of_cell h
  exact (World.cell?_of_block ((hb.block _ (Array.getElem?_eq_some_iff.1 ho).1).trans ho |>.trans ho.symm)).trans h
theorem below_frozen {W W' : World} {a : Addr} {v : Value} (hb : Below W.heap.size W W') (h : W.cell? a = some v) : W'.frozen? a = W.frozen? a := by
  obtain ⟨o, ho, hc⟩ := cells_of_cell h
  exact World.frozen?_of_block ((hb.block _ (Array.getElem?_eq_some_iff.1 ho).1).trans ho |>.trans ho.symm)
theorem keeps_below {W W' : World} (hb : Below W.heap.size W W') : KeepsOthers W W' := ⟨hb.size, fun k o h _ => (hb.block k (Array.getElem?_eq_some_iff.1 h).1).trans h⟩
theorem left_below {pS : Nat} {r : List UInt8} {W W' : World} (h : Left pS r W) (hb : Below W.heap.size W W') : Left pS r W' := ⟨below_cell hb h.1, (below_frozen hb h.1).trans h.2⟩
theorem boxed_cell {w : World} {b : Nat} {v : Value} {t : TypeId} (h : w.heap[b]? = some (.cells #[v] t (0, 0))) : w.cell? ⟨b, 0, none⟩ = some v ∧ w.frozen? ⟨b, 0, none⟩ = false := by
  constructor
  · simp [World.cell?, h]
  · simp [World.frozen?, h]
theorem hag : aggD Tryz.prog 4 = some false := by kernel_rfl
/-- between two rounds: the cells of a function value and of the result -/
structure Rng (fv : Value) (pF pR : Nat) (pP pC : Nat) (c : UInt8) (w0 : World) (pred : List UInt8 → Bool) (pre : List (List UInt8)) (W : World) : Prop where
  fn : W.cell? ⟨pF, 0, none⟩ = some fv
  res : W.cell? ⟨pR, 0, none⟩ = some (.bool false)
  frz : W.frozen? ⟨pR, 0, none⟩ = false
  cP : W.cell? ⟨pP, 0, none⟩ = some (.string (ba [c]))
  cC : W.cell? ⟨pC, 0, none⟩ = some (.int .i64 0)
  below : Below w0.heap.size w0 W
  all : pre.all pred = true
structure RngX (pR : Nat) (w0 : World) (pred : List UInt8 → Bool) (pre : List (List UInt8)) (W : World) : Prop where
  res : W.cell? ⟨pR, 0, none⟩ = some (.bool false)
  below : Below w0.heap.size w0 W
  no : pre.all pred = false
theorem rng_own {fv : Value} {pF pR pP pC : Nat} {c : UInt8} {w0 : World} {pred : List UInt8 → Bool} {B : Nat} (hB : w0.heap.size ≤ B) : OwnFrom B (Rng fv pF pR pP pC c w0 pred) := fun s W W' row h hg hr =>
  ⟨own_cell h.fn hg hr, own_cell h.res hg hr, (frozen_kept h.res hg (fun r e => (hr r e).2)).trans h.frz, own_cell h.cP hg hr, own_cell h.cC hg hr, h.below.grown hg h.below.size (fun k e => Nat.le_trans hB (hr k e).1), h.all⟩
theorem rngX_own {pR : Nat} {w0 : World} {pred : List UInt8 → Bool} {B : Nat} (hB : w0.heap.size ≤ B) : OwnFrom B (RngX pR w0 pred) := fun s W W' row h hg hr =>
  ⟨own_cell h.res hg hr, h.below.grown hg h.below.size (fun k e => Nat.le_trans hB (hr k e).1), h.no⟩
theorem rng_below {fv : Value} {pF pR pP pC : Nat} {c : UInt8} {w0 : World} {pred : List UInt8 → Bool} {pre : List (List UInt8)} {x : List UInt8} {W W' : World} (h : Rng fv pF pR pP pC c w0 pred pre W) (hb : Below W.heap.size W W') (hx : pred x = true) : Rng fv pF pR pP pC c w0 pred (pre ++ [x]) W' :=
  ⟨below_cell hb h.fn, below_cell hb h.res, (below_frozen hb h.res).trans h.frz, below_cell hb h.cP, below_cell hb h.cC, h.below.trans (hb.mono h.below.size), by rw [List.all_append, h.all]; simp [hx]⟩
theorem rng_set {fv : Value} {pF pR pP pC : Nat} {c : UInt8} {w0 : World} {pred : List UInt8 → Bool} {pre : List (List UInt8)} {W : World} {q : Nat} (v : Value) (h : Rng fv pF pR pP pC c w0 pred pre W) (h0 : w0.heap.size ≤ q) (h1 : q ≠ pF) (h2 : q ≠ pR) (h3 : q ≠ pP) (h4 : q ≠ pC) : Rng fv pF pR pP pC c w0 pred pre (W.setCell ⟨q, 0, none⟩ v) := by
  have ne : ∀ p : Nat, q ≠ p → (W.setCell ⟨q, 0, none⟩ v).cell? ⟨p, 0, none⟩ = W.cell? ⟨p, 0, none⟩ := fun p hp => World.cell?_setCell_other _ _ _ _ (by intro e; exact hp (by injection e with e))
  exact ⟨(ne _ h1).trans h.fn, (ne _ h2).trans h.res, by rw [World.frozen?_setCell]; exact h.frz, (ne _ h3).trans h.cP, (ne _ h4).trans h.cC, h.below.setCell (by simpa using h0) _, h.all⟩
theorem four (w : World) (o0 o1 o2 o3 : Obj) : ∃ W, ((((w.alloc o0).alloc o1).alloc o2).alloc o3) = W ∧ W.heap.size = w.heap.size + 4 ∧ Below w.heap.size w W ∧ W.heap[w.heap.size]? = some o0 ∧ W.heap[w.heap.size + 1]? = some o1 ∧ W.heap[w.heap.size + 1 + 1]? = some o2 ∧ W.heap[w.heap.size + 1 + 2]? = some o3 := by
  have al : ∀ (w : World) (o : Obj) (k : Nat), k < w.heap.size → (w.alloc o).heap[k]? = w.heap[k]? := fun w o k h => Below.heap_alloc _ _ _ h
  refine ⟨_, rfl, by simp, ((((Below.refl _ w).alloc (Nat.le_refl _) _).alloc (by simp) _).alloc (by simp; omega) _).alloc (by simp; omega) _, ?_, ?_, ?_, ?_⟩
  · rw [al _ _ _ (by simp <;> omega), al _ _ _ (by simp <;> omega), al _ _ _ (by simp), World.alloc_heap_new]
  · rw [al _ _ _ (by simp <;> omega), al _ _ _ (by simp)]
    have := World.alloc_heap_new (w.alloc o0) o1
    rw [World.size_alloc] at this; exact this
  · rw [al _ _ _ (by simp)]
    have := World.alloc_heap_new ((w.alloc o0).alloc o1) o2
    rw [World.size_alloc, World.size_alloc] at this; exact this
  · have := World.alloc_heap_new (((w.alloc o0).alloc o1).alloc o2) o3
    rw [World.size_alloc, World.size_alloc, World.size_alloc] at this; exact this
structure RngY (pR : Nat) (w0 : World) (pred : List UInt8 → Bool) (pre : List (List UInt8)) (W : World) : Prop where
  res : W.cell? ⟨pR, 0, none⟩ = some (.bool true)
  below : Below w0.heap.size w0 W
  no : pre.all pred = false
theorem all_stop {pred : List UInt8 → Bool} {s x : List UInt8} {pre t : List (List UInt8)} (hsp : spl 47 [] s = pre ++ x :: t) (hn : (pre ++ [x]).all pred = false) : (spl 47 [] s).all pred = false := by
  rw [List.all_append, Bool.and_eq_false_iff] at hn
  rw [hsp, List.all_append, Bool.and_eq_false_iff]
  rcases hn with hn | hn
  · exact Or.inl hn
  · refine Or.inr ?_
    simp only [List.all_cons, List.all_nil, Bool.and_true] at hn
    rw [List.all_cons, hn]; rfl
end YtngbpbncipjimabGreatDoor.AM
end Go.Proofs
