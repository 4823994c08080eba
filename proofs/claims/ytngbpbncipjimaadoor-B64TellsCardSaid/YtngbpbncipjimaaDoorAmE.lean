/- What the plain machine does at an operation: stores, new variables, fields, elements. -/
import Derived.Test.YtngbpbncipjimaaDoorAmD
namespace Go.Proofs.YtngbpbncipjimaaDoor.AM
open Go.RowKit
set_option linter.unusedVariables false
set_option linter.unusedSimpArgs false
variable {F : Fr} {σ : St} {e : Env} {a : Act} {w : World} {P : Program}

def setAt {α : Type} (l : List α) (off : Nat) (xs : List α) : List α := l.take off ++ xs ++ l.drop (off + xs.length)
theorem all2_setAt {α β : Type} {r : α → β → Prop} {l : List α} {m : List β} {xs : List α} {ys : List β} (h : All2 r l m) (hx : All2 r xs ys) (off : Nat) : All2 r (setAt l off xs) (setAt m off ys) := by
  unfold setAt
  rw [hx.length]
  exact ((h.take off).append hx).append (h.drop _)
theorem mem_setAt {α : Type} {l : List α} {off : Nat} {xs : List α} {u : α} (h : u ∈ setAt l off xs) : u ∈ l ∨ u ∈ xs := by
  unfold setAt at h
  rw [List.mem_append, List.mem_append] at h
  rcases h with (h | h) | h
  · exact Or.inl (List.mem_of_mem_take h)
  · exact Or.inr h
  · exact Or.inl (List.mem_of_mem_drop h)
/-- the cells of a value that a slot holds -/
theorem cells_of {v : Value} {x : D1} (h : Rep1 e σ w v x) (hc : (cellsOf1 x).all okC = true) : All2 (CRep e σ w) v.cells.toList (cellsOf1 x) ∧ ∀ u ∈ v.cells.toList, u.oneCell' = true := by
  cases x with
  | c c =>
    have h1 : okC c = true := by simpa [cellsOf1] using hc
    have h2 := okC_one (σ := σ) (e := e) (w := w) (show CRep e σ w v c from h) h1
    have h3 : v.cells = #[v] := by cases v <;> first | rfl | cases h2
    rw [h3]
    exact ⟨⟨h, trivial⟩, fun u hu => by simp at hu; rw [hu]; exact h2⟩
  | agg cs =>
    obtain ⟨vs, rfl, h2⟩ := h
    refine ⟨h2, fun u hu => ?_⟩
    obtain ⟨i, hi, rfl⟩ := List.getElem_of_mem hu
    have hl := h2.length
    have hc' : (cs.all okC) = true := hc
    exact okC_one (h2.get i hi (by rw [← hl]; exact hi)) (List.all_eq_true.1 hc' _ (List.getElem_mem _))

def datOf : C → Option Dat
  | .d x => some x
  | _ => none
def evStore (P : Program) (t : TypeId) (p x : D) (bx : Nat → Option (Nat × List C)) (rw : Nat → Option Row) : Option Res := match x with
  | .one x => match tsz P t with
    | some n => if (cellsOf1 x).length = n ∧ (cellsOf1 x).all okC = true then
        match p with
        | .one (.c (.box β off)) => match bx β with
          | some (T, cs) => if off + n ≤ cs.length then some { cond := True, val := valD undef, box := some (β, (T, setAt cs off (cellsOf1 x))) } else none
          | none => none
        | .one (.c (.wp tt g k off)) => match rw tt, (cellsOf1 x).mapM datOf with
          | some r, some ds => if r.gen = g ∧ r.wr = true ∧ off + n ≤ r.sz then some { cond := k < r.xs.length, val := valD undef, row := some (tt, { r with xs := r.xs.set k (setAt (r.xs.getD k []) off ds) }) } else none
          | _, _ => none
        | _ => none
      else none
    | none => none
  | _ => none
theorem run_storeCells_X (P : Program) (g o : Nat) (t : TypeId) (fz : Nat × Nat) : ∀ (vs : List Value) (i : Nat) (cur : Array Value) (w : World), w.heap[g]? = some (.cells cur t fz) → (fz.2 = 0 ∨ cur.size ≤ fz.1) → o + i + vs.length ≤ cur.size → (∀ v ∈ vs, v.oneCell' = true) →
    (storeCells ⟨g, o, none⟩ vs i).run P w = .ok () (w.setRow g (cur.toList.take (o + i) ++ vs ++ cur.toList.drop (o + i + vs.length)).toArray)
  | [], i, cur, w, hg, _, _, _ => by
    simp only [storeCells, List.append_nil, List.length_nil, Nat.add_zero, List.take_append_drop, Array.toArray_toList]
    rw [setRow_self w g cur t fz hg]
    rfl
  | v :: rest, i, cur, w, hg, hfz, hl, h1 => by
    have hi : o + i < cur.size := by simp at hl; omega
    have hadd : (⟨g, o, none⟩ : Addr).add i = ⟨g, o + i, none⟩ := by unfold Addr.add; split <;> simp_all
    have hcell : w.cell? ⟨g, o + i, none⟩ = some cur[o + i] := by simp [World.cell?, hg, hi]
    have hfro : w.frozen? ⟨g, o + i, none⟩ = false := by
      obtain ⟨lo, hi'⟩ := fz
      simp only [World.frozen?, hg, Bool.and_eq_false_iff, decide_eq_false_iff_not]
      simp only at hfz
      rcases hfz with h | h
      · right; omega
      · left; omega
    have hst : (store ((⟨g, o, none⟩ : Addr).add i) v).run P w = .ok () (w.setRow g (cur.setIfInBounds (o + i) v)) := by
      rw [hadd, run_store P w _ v _ (h1 v (by simp)), hcell]
      simp [hfro, setCell_eq_setRow w g (o + i) cur t fz v hg]
    have ih := run_storeCells_X P g o t fz rest (i + 1) (cur.setIfInBounds (o + i) v) (w.setRow g (cur.setIfInBounds (o + i) v)) (setRow_heap w g cur _ t _ hg) (by simpa using hfz) (by simp at hl ⊢; omega) (fun x hx => h1 x (by simp [hx]))
    simp only [storeCells, Sem.run_bind, hst, Result.andThen_ok, ih, setRow_setRow]
    congr 3
    have e := list_seg_step cur.toList (o + i) v rest (by simp at hl ⊢; omega)
    simpa [Array.toList_setIfInBounds, Nat.add_assoc] using e
theorem fzOf_ok (E n : Nat) : (fzOf E n).2 = 0 ∨ n ≤ (fzOf E n).1 := by
  unfold fzOf
  split
  · exact .inl rfl
  · exact .inr (Nat.le_refl _)
theorem run_storeVar' {t : TypeId} {v : Value} {b off : Nat} {cur : Array Value} {T : TypeId} {fz : Nat × Nat} (hn : tsz P t = some v.cells.size) (hg : w.heap[b]? = some (.cells cur T fz)) (hfz : fz.2 = 0 ∨ cur.size ≤ fz.1) (hle : off + v.cells.size ≤ cur.size) (h1 : ∀ u ∈ v.cells.toList, u.oneCell' = true) :
    (storeVar t ⟨b, off, none⟩ v).run P w = .ok () (w.setRow b (setAt cur.toList off v.cells.toList).toArray) := by
  have h := run_storeCells_X P b off T fz v.cells.toList 0 cur w hg hfz (by simpa using hle) h1
  rw [Nat.add_zero] at h
  unfold storeVar setAt
  simp only [Sem.run_bind, run_sizeOf' hn w, Result.andThen_ok, ne_eq, not_true_eq_false, if_false, h]
theorem crep_dat {v : Value} {c : C} {x : Dat} (hd : datOf c = some x) (h : CRep e σ w v c) : DatRep e.Pc w v x := by
  cases c with
  | d y => simp only [datOf, Option.some.injEq] at hd; subst hd; exact h
  | _ => cases hd
theorem all2_dat : ∀ {us : List Value} {cs : List C} {ds : List Dat}, cs.mapM datOf = some ds → All2 (CRep e σ w) us cs → All2 (DatRep e.Pc w) us ds
  | [], [], ds, hd, _ => by simp at hd; subst hd; exact trivial
  | u :: us, c :: cs, ds, hd, h => by
    rw [List.mapM_cons] at hd
    cases hx : datOf c with
    | none => simp [hx] at hd
    | some x =>
      cases hy : cs.mapM datOf with
      | none => simp [hx, hy] at hd
      | some ys =>
        simp [hx, hy] at hd
        subst hd
        exact ⟨crep_dat hx h.1, all2_dat hy h.2⟩
  | [], _ :: _, _, _, h => h.elim
  | _ :: _, [], _, _, h => h.elim
theorem flatten_set {α : Type} {sz : Nat} : ∀ (xs : List (List α)), (∀ x ∈ xs, x.length = sz) → ∀ (k : Nat) (hk : k < xs.length) (off : Nat) (ys : List α), off + ys.length ≤ sz →
    (xs.set k (setAt (xs[k]) off ys)).flatten = setAt xs.flatten (k * sz + off) ys
  | [], _, k, hk, _, _, _ => absurd hk (by simp)
  | x :: xs, hs, 0, _, off, ys, hy => by
    have hx := hs x (List.mem_cons_self ..)
    simp only [List.set_cons_zero, List.flatten_cons, List.getElem_cons_zero, Nat.zero_mul, Nat.zero_add, setAt]
    rw [List.take_append_of_le_length (by omega), List.drop_append_of_le_length (by omega)]
    simp [List.append_assoc]
  | x :: xs, hs, k + 1, hk, off, ys, hy => by
    have hx := hs x (List.mem_cons_self ..)
    have ih := flatten_set xs (fun y hy => hs y (List.mem_cons_of_mem _ hy)) k (by simpa using hk) off ys hy
    simp only [List.set_cons_succ, List.flatten_cons, List.getElem_cons_succ, ih]
    unfold setAt
    have e1 : (k + 1) * sz + off = x.length + (k * sz + off) := by rw [hx, Nat.add_mul]; omega
    rw [e1, List.take_append, List.drop_append, show x.length + (k * sz + off) - x.length = k * sz + off from by omega, List.take_of_length_le (l := x) (show x.length ≤ x.length + (k * sz + off) from by omega), show x.length + (k * sz + off) + ys.length - x.length = k * sz + off + ys.length from by omega, List.drop_eq_nil_of_le (show x.length ≤ x.length + (k * sz + off) + ys.length from by omega)]
    simp [List.append_assoc]

theorem ok_store {o : Oper} {t : TypeId} {x y : Operand} {res : Res} (ho : o.op = .store t x y) (h : evStore P t (opnd σ x) (opnd σ y) σ.box σ.row = some res) : OpOk P F o σ res := by
  unfold evStore at h
  split at h
  case h_2 => cases h
  rename_i x1 hy
  split at h
  case h_2 => cases h
  rename_i n hn
  split at h
  case isFalse => cases h
  rename_i hlen
  obtain ⟨hlen, hok⟩ := hlen
  split at h
  · rename_i β off hx
    split at h
    case h_2 => cases h
    rename_i T cs hb
    split at h
    case isFalse => cases h
    rename_i hle
    simp only [Option.some.injEq] at h
    subst h
    intro e a w hR _
    have h1 := hR.opnd x
    rw [hx] at h1
    obtain ⟨h2, h3⟩ : (σ.box β).isSome = true ∧ a.eval x = .pointer (some ⟨e.m β, off, none⟩) := h1
    have h4 := hR.opnd y
    rw [hy] at h4
    obtain ⟨h5, h6⟩ := cells_of (show Rep1 e σ w (a.eval y) x1 from h4) hok
    obtain ⟨h7, vs, h8, h9, h10⟩ := hR.hp.boxes β T cs hb
    have hsz : (a.eval y).cells.size = n := by have := h5.length; rw [Array.length_toList] at this; omega
    have hvl : vs.size = cs.length := by have := h9.length; rwa [Array.length_toList] at this
    obtain ⟨hf, hh⟩ := hR.hp.set β T cs (setAt cs off (cellsOf1 x1)) (setAt vs.toList off (a.eval y).cells.toList).toArray hb (by simpa using all2_setAt h9 h5 off) (fun u hu => by
      rcases mem_setAt (by simpa using hu) with hu | hu
      · exact h10 u hu
      · exact h6 u hu)
    refine ⟨undef, _, e, .inr ⟨?_, rfl⟩, hf, hh, drep_val _⟩
    have := run_storeVar' (P := P) (t := t) (v := a.eval y) (b := e.m β) (off := off) (by rw [hsz]; exact hn) h8 (.inl rfl) (by omega) h6
    simp [execOp, ho, h3, Instr.storeAt, Instr.sureAddr, this]
  · rename_i tt g k off hx
    split at h
    case h_2 => cases h
    rename_i r ds hr hds
    split at h
    case isFalse => cases h
    rename_i hg
    obtain ⟨rfl, hwr, hle⟩ := hg
    simp only [Option.some.injEq] at h
    subst h
    intro e a w hR hk
    have h1 := hR.opnd x
    rw [hx] at h1
    obtain ⟨r', b, h2, _, h3, h4⟩ : ∃ r' b, σ.row tt = some r' ∧ r.gen ≤ r'.gen ∧ (e.rv tt r.gen).ownBlock = some b ∧ a.eval x = .pointer (some ⟨b, k * r'.sz + off, none⟩) := h1
    rw [hr] at h2; cases h2
    have h4' := hR.opnd y
    rw [hy] at h4'
    obtain ⟨h5, h6⟩ := cells_of (show Rep1 e σ w (a.eval y) x1 from h4') hok
    have hdd := all2_dat hds h5
    obtain ⟨hs, cells, k1, k2, k3⟩ := hR.hp.rows tt r hr
    have hk' : k < r.xs.length := hk
    rcases k1.2 with ⟨_, k5⟩ | ⟨gg, cap, cur, k4, k5, k6, k7, k8, k9, k10⟩
    · omega
    have hbg : b = gg := by rw [k4] at h3; simpa [Value.ownBlock] using h3.symm
    subst hbg
    have hsz : (a.eval y).cells.size = n := by have := h5.length; rw [Array.length_toList] at this; omega
    have hdl : ds.length = n := by have := hdd.length; rw [Array.length_toList] at this; omega
    have hcl : cells.length = r.xs.length * r.sz := k1.1
    have hmul := Nat.mul_le_mul_right r.sz (show k + 1 ≤ r.xs.length from hk')
    rw [Nat.add_mul, Nat.one_mul] at hmul
    have hcap := Nat.mul_le_mul_right r.sz k7
    have hx' := hs _ (List.getElem_mem hk')
    have hgd : r.xs.getD k [] = r.xs[k] := by simp [List.getD, hk']
    have hrun := run_storeVar' (P := P) (t := t) (v := a.eval y) (b := b) (off := k * r.sz + off) (by rw [hsz]; exact hn) k6 (fzOf_ok _ _) (by omega) h6
    have hset : ∀ x' ∈ r.xs.set k (setAt (r.xs.getD k []) off ds), x'.length = r.sz := fun x' hx'' => by
      rcases List.mem_or_eq_of_mem_set hx'' with hm | rfl
      · exact hs x' hm
      · rw [hgd]; unfold setAt; simp only [List.length_append, List.length_take, List.length_drop]; omega
    have hnew : (setAt cur.toList (k * r.sz + off) (a.eval y).cells.toList).toArray.size = cur.size := by
      unfold setAt; simp only [List.size_toArray, List.length_append, List.length_take, List.length_drop, Array.length_toList]; omega
    have hrow : ownsX (w.setRow b (setAt cur.toList (k * r.sz + off) (a.eval y).cells.toList).toArray) F.w0.heap.size r.E r.sz (e.rv tt r.gen) r.xs.length (setAt cells (k * r.sz + off) (a.eval y).cells.toList) := by
      refine ⟨?_, .inr ⟨b, cap, _, k4, k5, by rw [hnew]; exact setRow_heap w b cur _ _ _ k6, k7, k8, ?_, ?_⟩⟩
      · unfold setAt; simp only [List.length_append, List.length_take, List.length_drop, Array.length_toList]; omega
      · unfold setAt; simp only [List.size_toArray, List.length_append, List.length_take, List.length_drop, Array.length_toList]; omega
      · have hc2 : cells = cur.toList.take (r.xs.length * r.sz) := k10.symm
        rw [hc2]
        unfold setAt
        have hcs : cur.toList.length = cap * r.sz := by rw [Array.length_toList, k9]
        have hvl : (a.eval y).cells.toList.length = n := by rw [Array.length_toList, hsz]
        apply List.ext_getElem?
        intro i
        simp only [List.getElem?_take, List.getElem?_append, List.length_take, List.length_append, List.getElem?_drop, hvl, hcs]
        repeat' split
        all_goals first
          | rfl
          | omega
          | (congr 1; omega)
          | (rw [List.getElem?_eq_none (by rw [hcs]; omega)])
          | (symm; rw [List.getElem?_eq_none (by rw [hcs]; omega)])
    obtain ⟨hf, hh⟩ := hR.hp.rowNext (w' := w.setRow b (setAt cur.toList (k * r.sz + off) (a.eval y).cells.toList).toArray) tt { r with xs := r.xs.set k (setAt (r.xs.getD k []) off ds) } (e.rv tt r.gen) (e.rv tt r.gen) (setAt cells (k * r.sz + off) (a.eval y).cells.toList)
      (Or.inl ⟨r, hr, rfl, rfl, (fun h => by rw [hwr] at h; cases h), Or.inl ⟨rfl, rfl⟩⟩) hset (by simpa using hrow)
      ⟨rfl, rfl, rfl, by simp, fun q _ hq => setRow_other w b q _ (fun e' => hq (by rw [e', h3]))⟩
      (fun r2 hr2 hw2 => by rw [hr] at hr2; cases hr2; rw [hwr] at hw2; cases hw2) (fun q hq => Or.inl hq) (by
        show All2 _ _ (r.xs.set k (setAt (r.xs.getD k []) off ds)).flatten
        rw [hgd, flatten_set r.xs hs k hk' off ds (by omega)]
        exact all2_setAt k2 hdd _) (fun u hu => by
        rcases mem_setAt hu with hu | hu
        · exact k3 u hu
        · exact h6 u hu)
    refine ⟨undef, _, _, .inr ⟨?_, rfl⟩, hf, hh, drep_val _⟩
    simp [execOp, ho, h4, Instr.storeAt, Instr.sureAddr, hrun]
  · cases h
end Go.Proofs.YtngbpbncipjimaaDoor.AM
