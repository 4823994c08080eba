/- What a function keeps that ranges over the parts of a text. -/
import Derived.Test.YtpiiljpbfioilaaDoorSeq
import Derived.Test.YtpiiljpbfioilaaDoorFilC
namespace Go.Proofs
open Go.RowKit Go.Shelf Go.Lib
attribute [local go_sem] Oper.semAt_some
set_option linter.unusedVariables false
set_option linter.unusedSimpArgs false
namespace YtpiiljpbfioilaaDoor.AM
theorem ret_cell {P : Program} {fn : Func} {p : Tmp} {ty : TypeId} {b : Nat} {v : Value} {tmps : Array Value} {w : World} (h : fn.results = #[.cell p ty]) (hp : tmps.getD p undef = .pointer (some ⟨b, 0, none⟩)) (ha : aggD P ty = some false)
    (hc : w.cell? ⟨b, 0, none⟩ = some v) : (results fn tmps).run P w = .ok v w := by
  have hp' : tmps[p]?.getD undef = .pointer (some ⟨b, 0, none⟩) := by simpa using hp
  simp only [results, h]
  simp [Sem.run_bind, hp', asAddr, loadVar, run_isAgg' ha w, go_sem, hc]
theorem below_cell {W W' : World} {a : Addr} {v : Value} (hb : Below W.heap.size W W') (h : W.cell? a = some v) : W'.cell? a = some v := by
  obtain ⟨o, ho, hc⟩ := cells_of_cell h
  exact (World.cell?_of_block ((hb.block _ (Array.getElem?_eq_some_iff.1 ho).1).trans ho |>.trans ho.symm)).trans h
theorem below_frozen {W W' : World} {a : Addr} {v : Value} (hb : Below W.heap.size W W') (h : W.cell? a = some v) : W'.frozen? a = W.frozen? a := by
  obtain ⟨o, ho, hc⟩ := cells_of_cell h
  exact World.frozen?_of_block ((hb.block _ (Array.getElem?_eq_some_iff.1 ho).1).trans ho |>.trans ho.symm)
theorem keeps_below {W W' : World} (hb : Below W.heap.size W W') : KeepsOthers W W' := ⟨hb.size, fun k o h _ => (hb.block k (Array.getElem?_eq_some_iff.1 h).1).trans h⟩
theorem left_below {pS : Nat} {r : List UInt8} {W W' : World} (h : Left pS r W) (hb : Below W.heap.size W W') : Left pS r W' := ⟨below_cell hb h.1, (below_frozen hb h.1).trans h.2⟩
theorem boxed_cell {w : World} {b : Nat} {v : Value} {t : TypeId} (h : w.heap[b]? = some (.cells #[v] t (0, 0))) : w.cell? ⟨b, 0, none⟩ = some v ∧ w.frozen? ⟨b, 0, none⟩ = false := by
  constructor
  · simp [World.cell?, h]
  · simp [World.frozen?, h]
theorem five (w : World) (o0 o1 o2 o3 o4 : Obj) : ∃ W, (((((w.alloc o0).alloc o1).alloc o2).alloc o3).alloc o4) = W ∧ W.heap.size = w.heap.size + 5 ∧ Below w.heap.size w W ∧ W.heap[w.heap.size]? = some o0 ∧ W.heap[w.heap.size + 1]? = some o1 ∧ W.heap[w.heap.size + 1 + 1]? = some o2 ∧ W.heap[w.heap.size + 1 + 1 + 1]? = some o3 ∧ W.heap[w.heap.size + 1 + 1 + 2]? = some o4 := by
  have al : ∀ (w : World) (o : Obj) (k : Nat), k < w.heap.size → (w.alloc o).heap[k]? = w.heap[k]? := fun w o k h => Below.heap_alloc _ _ _ h
  refine ⟨_, rfl, by simp, (((((Below.refl _ w).alloc (Nat.le_refl _) _).alloc (by simp) _).alloc (by simp; omega) _).alloc (by simp; omega) _).alloc (by simp; omega) _, ?_, ?_, ?_, ?_, ?_⟩
  · rw [al _ _ _ (by simp <;> omega), al _ _ _ (by simp <;> omega), al _ _ _ (by simp <;> omega), al _ _ _ (by simp), World.alloc_heap_new]
  · rw [al _ _ _ (by simp <;> omega), al _ _ _ (by simp <;> omega), al _ _ _ (by simp)]
    have := World.alloc_heap_new (w.alloc o0) o1
    rw [World.size_alloc] at this; exact this
  · rw [al _ _ _ (by simp <;> omega), al _ _ _ (by simp)]
    have := World.alloc_heap_new ((w.alloc o0).alloc o1) o2
    rw [World.size_alloc, World.size_alloc] at this; exact this
  · rw [al _ _ _ (by simp)]
    have := World.alloc_heap_new (((w.alloc o0).alloc o1).alloc o2) o3
    rw [World.size_alloc, World.size_alloc, World.size_alloc] at this; exact this
  · have := World.alloc_heap_new ((((w.alloc o0).alloc o1).alloc o2).alloc o3) o4
    rw [World.size_alloc, World.size_alloc, World.size_alloc, World.size_alloc] at this; exact this
theorem hag : aggD Tryd.prog 4 = some false := by kernel_rfl
/-- between two rounds: the cells of a function value and of the result -/
structure Rng (fv : Value) (pF pR : Nat) (pP pC : Nat) (c : UInt8) (w0 : World) (pred : List UInt8 → Bool) (pre : List (List UInt8)) (W : World) : Prop where
  fn : W.cell? ⟨pF, 0, none⟩ = some fv
  res : W.cell? ⟨pR, 0, none⟩ = some (.bool false)
  frz : W.frozen? ⟨pR, 0, none⟩ = false
  cP : W.cell? ⟨pP, 0, none⟩ = some (.string (ba [c]))
  cC : W.cell? ⟨pC, 0, none⟩ = some (.int .i64 0)
  below : Below w0.heap.size w0 W
  all : pre.all pred = true
structure RngX (pR : Nat) (w0 : World) (pred : List UInt8 → Bool) (pre : List (List UInt8)) (W : World) : Prop where
  res : W.cell? ⟨pR, 0, none⟩ = some (.bool false)
  below : Below w0.heap.size w0 W
  no : pre.all pred = false
theorem rng_own {fv : Value} {pF pR pP pC : Nat} {c : UInt8} {w0 : World} {pred : List UInt8 → Bool} {B : Nat} (hB : w0.heap.size ≤ B) : OwnFrom B (Rng fv pF pR pP pC c w0 pred) := fun s W W' row h hg hr =>
  ⟨own_cell h.fn hg hr, own_cell h.res hg hr, (frozen_kept h.res hg (fun r e => (hr r e).2)).trans h.frz, own_cell h.cP hg hr, own_cell h.cC hg hr, h.below.grown hg h.below.size (fun k e => Nat.le_trans hB (hr k e).1), h.all⟩
theorem rngX_own {pR : Nat} {w0 : World} {pred : List UInt8 → Bool} {B : Nat} (hB : w0.heap.size ≤ B) : OwnFrom B (RngX pR w0 pred) := fun s W W' row h hg hr =>
  ⟨own_cell h.res hg hr, h.below.grown hg h.below.size (fun k e => Nat.le_trans hB (hr k e).1), h.no⟩
theorem rng_below {fv : Value} {pF pR pP pC : Nat} {c : UInt8} {w0 : World} {pred : List UInt8 → Bool} {pre : List (List UInt8)} {x : List UInt8} {W W' : World} (h : Rng fv pF pR pP pC c w0 pred pre W) (hb : Below W.heap.size W W') (hx : pred x = true) : Rng fv pF pR pP pC c w0 pred (pre ++ [x]) W' :=
  ⟨below_cell hb h.fn, below_cell hb h.res, (below_frozen hb h.res).trans h.frz, below_cell hb h.cP, below_cell hb h.cC, h.below.trans (hb.mono h.below.size), by rw [List.all_append, h.all]; simp [hx]⟩
theorem rng_set {fv : Value} {pF pR pP pC : Nat} {c : UInt8} {w0 : World} {pred : List UInt8 → Bool} {pre : List (List UInt8)} {W : World} {q : Nat} (v : Value) (h : Rng fv pF pR pP pC c w0 pred pre W) (h0 : w0.heap.size ≤ q) (h1 : q ≠ pF) (h2 : q ≠ pR) (h3 : q ≠ pP) (h4 : q ≠ pC) : Rng fv pF pR pP pC c w0 pred pre (W.setCell ⟨q, 0, none⟩ v) := by
  have ne : ∀ p : Nat, q ≠ p → (W.setCell ⟨q, 0, none⟩ v).cell? ⟨p, 0, none⟩ = W.cell? ⟨p, 0, none⟩ := fun p hp => World.cell?_setCell_other _ _ _ _ (by intro e; exact hp (by injection e with e))
  exact ⟨(ne _ h1).trans h.fn, (ne _ h2).trans h.res, by rw [World.frozen?_setCell]; exact h.frz, (ne _ h3).trans h.cP, (ne _ h4).trans h.cC, h.below.setCell (by simpa using h0) _, h.all⟩
theorem four (w : World) (o0 o1 o2 o3 : Obj) : ∃ W, ((((w.alloc o0).alloc o1).alloc o2).alloc o3) = W ∧ W.heap.size = w.heap.size + 4 ∧ Below w.heap.size w W ∧ W.heap[w.heap.size]? = some o0 ∧ W.heap[w.heap.size + 1]? = some o1 ∧ W.heap[w.heap.size + 1 + 1]? = some o2 ∧ W.heap[w.heap.size + 1 + 2]? = some o3 := by
  have al : ∀ (w : World) (o : Obj) (k : Nat), k < w.heap.size → (w.alloc o).heap[k]? = w.heap[k]? := fun w o k h => Below.heap_alloc _ _ _ h
  refine ⟨_, rfl, by simp, ((((Below.refl _ w).alloc (Nat.le_refl _) _).alloc (by simp) _).alloc (by simp; omega) _).alloc (by simp; omega) _, ?_, ?_, ?_, ?_⟩
  · rw [al _ _ _ (by simp <;> omega), al _ _ _ (by simp <;> omega), al _ _ _ (by simp), World.alloc_heap_new]
  · rw [al _ _ _ (by simp <;> omega), al _ _ _ (by simp)]
    have := World.alloc_heap_new (w.alloc o0) o1
    rw [World.size_alloc] at this; exact this
  · rw [al _ _ _ (by simp)]
    have := World.alloc_heap_new ((w.alloc o0).alloc o1) o2
    rw [World.size_alloc, World.size_alloc] at this; exact this
  · have := World.alloc_heap_new (((w.alloc o0).alloc o1).alloc o2) o3
    rw [World.size_alloc, World.size_alloc, World.size_alloc] at this; exact this
structure RngY (pR : Nat) (w0 : World) (pred : List UInt8 → Bool) (pre : List (List UInt8)) (W : World) : Prop where
  res : W.cell? ⟨pR, 0, none⟩ = some (.bool true)
  below : Below w0.heap.size w0 W
  no : pre.all pred = false
theorem rngY_own {pR : Nat} {w0 : World} {pred : List UInt8 → Bool} {B : Nat} (hB : w0.heap.size ≤ B) : OwnFrom B (RngY pR w0 pred) := fun s W W' row h hg hr =>
  ⟨own_cell h.res hg hr, h.below.grown hg h.below.size (fun k e => Nat.le_trans hB (hr k e).1), h.no⟩
theorem all_stop {pred : List UInt8 → Bool} {s x : List UInt8} {pre t : List (List UInt8)} (hsp : spl 47 [] s = pre ++ x :: t) (hn : (pre ++ [x]).all pred = false) : (spl 47 [] s).all pred = false := by
  rw [List.all_append, Bool.and_eq_false_iff] at hn
  rw [hsp, List.all_append, Bool.and_eq_false_iff]
  rcases hn with hn | hn
  · exact Or.inl hn
  · refine Or.inr ?_
    simp only [List.all_cons, List.all_nil, Bool.and_true] at hn
    rw [List.all_cons, hn]; rfl
end YtpiiljpbfioilaaDoor.AM
end Go.Proofs
