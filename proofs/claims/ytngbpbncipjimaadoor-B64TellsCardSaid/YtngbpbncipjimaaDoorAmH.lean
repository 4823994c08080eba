/- What the plain machine does at an operation: slices' literals, appends, operators. -/
import Derived.Test.YtngbpbncipjimaaDoorAmG
namespace Go.Proofs.YtngbpbncipjimaaDoor.AM
open Go.RowKit
set_option linter.unusedVariables false
set_option linter.unusedSimpArgs false
variable {F : Fr} {σ : St} {e : Env} {a : Act} {w : World} {P : Program}

def chunk {α : Type} (sz : Nat) : Nat → List α → List (List α)
  | 0, _ => []
  | n + 1, l => l.take sz :: chunk sz n (l.drop sz)
theorem chunk_len {α : Type} {sz : Nat} : ∀ (n : Nat) (l : List α), (chunk sz n l).length = n
  | 0, _ => rfl
  | n + 1, l => by simp [chunk, chunk_len n]
theorem chunk_sz {α : Type} {sz : Nat} : ∀ (n : Nat) (l : List α), l.length = n * sz → ∀ x ∈ chunk sz n l, x.length = sz
  | 0, _, _, x, hx => by simp [chunk] at hx
  | n + 1, l, hl, x, hx => by
    rw [Nat.add_mul, Nat.one_mul] at hl
    simp only [chunk, List.mem_cons] at hx
    rcases hx with rfl | hx
    · rw [List.length_take]; omega
    · exact chunk_sz n _ (by rw [List.length_drop]; omega) x hx
theorem chunk_flat {α : Type} {sz : Nat} : ∀ (n : Nat) (l : List α), l.length = n * sz → (chunk sz n l).flatten = l
  | 0, l, hl => by
    have : l = [] := List.eq_nil_of_length_eq_zero (by omega)
    subst this; rfl
  | n + 1, l, hl => by
    rw [Nat.add_mul, Nat.one_mul] at hl
    simp only [chunk, List.flatten_cons]
    rw [chunk_flat n _ (by rw [List.length_drop]; omega), List.take_append_drop]
def rep {α : Type} (z : List α) : Nat → List α
  | 0 => []
  | n + 1 => z ++ rep z n
theorem rep_len {α : Type} (z : List α) : ∀ n, (rep z n).length = n * z.length
  | 0 => by simp [rep]
  | n + 1 => by rw [rep, List.length_append, rep_len z n, Nat.add_mul, Nat.one_mul]; omega
theorem rep_get {α : Type} (z : List α) (h : 0 < z.length) : ∀ (n i : Nat), i < n * z.length → (rep z n)[i]? = z[i % z.length]?
  | 0, i, hi => by omega
  | n + 1, i, hi => by
    rw [Nat.add_mul, Nat.one_mul] at hi
    rw [rep]
    by_cases h1 : i < z.length
    · rw [List.getElem?_append_left h1, Nat.mod_eq_of_lt h1]
    · rw [List.getElem?_append_right (by omega), rep_get z h n (i - z.length) (by omega), show i % z.length = (i - z.length) % z.length from Nat.mod_eq_sub_mod (by omega)]
theorem mem_rep {α : Type} {z : List α} {u : α} : ∀ {n : Nat}, u ∈ rep z n → u ∈ z
  | 0, h => by simp [rep] at h
  | n + 1, h => by
    rw [rep, List.mem_append] at h
    rcases h with h | h
    · exact h
    · exact mem_rep h
def evBuildSlice (P : Program) (dst : Option Nat) (t : TypeId) (n : Nat) (ps : Array (Nat × Operand)) (ρ : Operand → D) (rw : Nat → Option Row) : Option Res := match P.underlying t, dst with
  | some (.slice el), some i => match rw i, tsz P el, tzero P el, partsC ρ ps.toList with
    | none, some m, some z, some qs => if n * m ≤ 2 ^ 24 ∧ n ≤ 2 ^ 24 ∧ z.length = m ∧ 0 < m ∧ z.all Value.oneCell' = true ∧ el < 1099511627776 then match fillC (fun i => some (i * m, m)) ((rep z n).map valC) qs with
        | some cs => match cs.mapM datOf with
          | some ds => some { cond := True, val := .one (.c (.row i 0)), row := some (i, ⟨0, el, m, true, chunk m n ds⟩) }
          | none => none
        | none => none
      else none
    | _, _, _, _ => none
  | _, _ => none
theorem run_bs {t el : TypeId} {n m : Nat} {ps : Array (Nat × Value)} {vs zs : Array Value} (hu : P.underlying t = some (.slice el)) (hm : tsz P el = some m) (hle : n * m ≤ 2 ^ 24)
    (hz : (n * m = 0 ∧ zs = #[]) ∨ (¬ n * m = 0 ∧ ∃ zv, (zeroValue el).run P w = .ok zv w ∧ zs = zv.cells))
    (hf : Instr.fill (fun i => some (i * m, m)) ((Array.range (n * m)).map fun j => zs[j % zs.size]!) ps.toList = some vs) :
    (Instr.buildSlice t n ps).run P w = .ok (.slice (some ⟨w.heap.size, 0, none⟩) n n) (w.alloc (.cells vs el)) := by
  have hrow' : (newRow el vs).run P w = .ok ⟨w.heap.size, 0, none⟩ (w.alloc (.cells vs el)) := by
    simp only [newRow, Sem.run_bind, newObj]
    rfl
  have hle' : ¬ (n * m > 2 ^ 24) := by omega
  unfold Instr.buildSlice
  simp only [Sem.run_bind, run_underlying hu w, Result.andThen_ok, run_sizeOf' hm w, hle', if_false]
  rcases hz with ⟨hn, rfl⟩ | ⟨hn, zv, hz, rfl⟩
  · rw [if_pos hn]
    simp only [Sem.run_bind, Sem.run_pure, Result.andThen_ok, hf, hrow']
  · rw [if_neg hn]
    simp only [Sem.run_bind, hz, Sem.run_pure, Result.andThen_ok, hf, hrow']
theorem ok_buildSlice {o : Oper} {t : TypeId} {n : Nat} {ps : Array (Nat × Operand)} {res : Res} (ho : o.op = .buildSlice t n ps) (h : evBuildSlice P o.dst t n ps (opnd σ) σ.row = some res) : OpOk P F o σ res := by
  unfold evBuildSlice at h
  split at h
  case h_2 => cases h
  rename_i el i hu hd
  split at h
  case h_2 => cases h
  rename_i m z qs hrow hm hz hqs
  split at h
  case isFalse => cases h
  rename_i hcond
  obtain ⟨hc1, hc2, hc3, hc4, hc5, hc6⟩ := hcond
  split at h
  case h_2 => cases h
  rename_i cs hcs
  split at h
  case h_2 => cases h
  rename_i ds hds
  simp only [Option.some.injEq] at h
  subst h
  intro e a w hR _
  have hz' := hz
  unfold tzero at hz
  obtain ⟨inf, hi, hz1⟩ := Option.bind_eq_some_iff.1 hz
  obtain ⟨zv, hz2, rfl⟩ := Option.map_eq_some_iff.1 hz1
  have hzr : (zeroValue el).run P w = .ok zv w := by simp [zeroValue, typeInfo, hi, hz2]
  have hzs : zv.cells.size = m := by rw [← hc3]; simp
  have hfl : ((Array.range (n * m)).map fun j => zv.cells[j % zv.cells.size]!).toList = rep zv.cells.toList n := by
    apply List.ext_getElem?
    intro j
    by_cases hj : j < n * m
    · rw [rep_get _ (by omega) n j (by rw [hc3]; exact hj)]
      have : j % zv.cells.size < zv.cells.size := Nat.mod_lt _ (by omega)
      simp [hj, this]
    · rw [List.getElem?_eq_none (by simp; omega), List.getElem?_eq_none (by rw [rep_len, hc3]; omega)]
  obtain ⟨vs, g1, g2, g3⟩ := fill_rep (e := e) (σ := σ) (w := w) (place := fun i => some (i * m, m)) _ qs ((Array.range (n * m)).map fun j => zv.cells[j % zv.cells.size]!) _ cs (parts_rep hR _ _ hqs) (by rw [hfl]; exact all2_map valC crep_val _) (by
    rw [hfl]; intro u hu; exact List.all_eq_true.1 hc5 u (mem_rep hu)) hcs
  have hdd := all2_dat hds g2
  have hsz : vs.size = n * m := by
    have l1 := g2.length
    have l3 : ∀ (qs : List (Nat × List C)) (cs cs' : List C), fillC (fun i => some (i * m, m)) cs qs = some cs' → cs'.length = cs.length := by
      intro qs
      induction qs with
      | nil => intro cs cs' h; simp only [fillC, Option.some.injEq] at h; rw [h]
      | cons q qs ih =>
        intro cs cs' h
        obtain ⟨i, xs⟩ := q
        simp only [fillC] at h
        split at h
        case isFalse => cases h
        rename_i hle
        rw [ih _ _ h]
        unfold setAt
        simp only [List.length_append, List.length_take, List.length_drop]; omega
    have l4 := l3 _ _ _ hcs
    rw [List.length_map, rep_len, hc3] at l4
    rw [Array.length_toList] at l1; omega
  have hdl : ds.length = n * m := by have := hdd.length; rw [Array.length_toList] at this; omega
  have hown : ownsX (w.alloc (.cells vs el)) F.w0.heap.size el m (.slice (some ⟨w.heap.size, 0, none⟩) n n) n vs.toList :=
    (ownsX_iff hc6).2 ⟨by simpa using hsz, .inr ⟨w.heap.size, n, vs, rfl, hR.hp.sizeLe, heap_alloc_new w _, Nat.le_refl _, by unfold maxLen; omega, hsz, List.take_of_length_le (by rw [Array.length_toList]; omega)⟩⟩
  have hcl := chunk_len (sz := m) n ds
  obtain ⟨hf, hh⟩ := hR.hp.rowNext (w' := w.alloc (.cells vs el)) i ⟨0, el, m, true, chunk m n ds⟩ (.slice none 0 0) (.slice (some ⟨w.heap.size, 0, none⟩) n n) vs.toList (Or.inr ⟨hrow, rfl⟩)
    (chunk_sz n ds hdl) (by rw [hcl]; exact hown) (World.grownBy_alloc w _ _) (fun r hr => by rw [hrow] at hr; cases hr) (fun b hb => Or.inr (Nat.le_of_eq (Option.some.inj hb)))
    (by show All2 _ _ (chunk m n ds).flatten; rw [chunk_flat n ds hdl]; exact hdd) g3
  refine ⟨.slice (some ⟨w.heap.size, 0, none⟩) n n, _, _, .inl ?_, hf, hh, ⟨⟨_, upd_same _ _ _, Nat.le_refl _⟩, (upd2_same _ _ _ _).symm, _, _, _, rfl⟩⟩
  have hps : (ps.map fun (i, x) => (i, a.eval x)).toList = ps.toList.map fun (i, x) => (i, a.eval x) := by rw [Array.toList_map]
  clear hf hh hown hdl hdd hR hds hcl hqs g2 g3
  by_cases hn : n * m = 0
  · have hn0 : n = 0 := by rcases Nat.mul_eq_zero.1 hn with h | h <;> omega
    subst hn0
    have := run_bs (P := P) (w := w) (ps := ps.map fun (i, x) => (i, a.eval x)) (vs := vs) (zs := #[]) hu hm hc1 (Or.inl ⟨hn, rfl⟩) (by
      rw [hps, ← g1]
      congr 1
      simp)
    simp [execOp, ho, this]
  · have := run_bs (P := P) (w := w) (ps := ps.map fun (i, x) => (i, a.eval x)) (vs := vs) (zs := zv.cells) hu hm hc1 (Or.inr ⟨hn, zv, hzr, rfl⟩) (by rw [hps]; exact g1)
    simp [execOp, ho, this]
end Go.Proofs.YtngbpbncipjimaaDoor.AM
